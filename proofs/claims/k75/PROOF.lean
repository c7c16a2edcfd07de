import PyProof.Rows.All
import Wide.All
import OpenK.AllK
import Wide.FinOn
import PyProof.EqAt
import PyProof.EqKinds
import PyProof.TupleCall
import Lean
import PySem.SetOps
import PyProof.SetKind
import PyProof.DictKinds
import PyProof.CompMap
import PyProof.WalksS
import PyProof.Walks
import PyProof.CollectWalk
import PyProof.FactsAll.set_1
import PyProof.SetNew
import PyProof.Rows.SetFrom
import PyProof.ZipIter
import PyProof.Rows.SortShell
import PyProof.Rows.SortWalk
import PyProof.NeKinds
import PyProof.SumWalkG
import PyProof.RangeIter
import PyProof.StationsW
import PyProof.ExcClass3
import PyProof.ExcBaseAll.ValueError
import PyProof.ExcAttrAll.ValueError
import PyProof.Rows.CatchOwn
import KE.KIsAll
import PyProof.NsDelKeeps
import KE.KNestM
import PyProof.EnumMake
import KE.KDictOf
import PyProof.AttrMiss
import PyProof.IsiH_list
import PyProof.FactsAll.tuple_3
import PyProof.TupleOfStr
import PyProof.ListRange
import PyProof.SeqI3
import KE.KLam
import PyProof.Rows.SortRuns
import PyProof.Rows.SortRev
import PyProof.Rows.RuleM_int
import KE.KSortTup
import PySem.Challenge.RW_eachonce_k75_whole_coverings_behind
set_option Elab.async false
set_option linter.all false
set_option maxRecDepth 100000
def ab:=@PySem.wpAny_bind
def ae:=@List.length_map
def af:=@PySem.Heap.get?_push_of_some
def ag:=@List.size_toArray
def ah:=@PySem.wpAny_pure
def ai:=@List.getElem?_eq_some_iff
def aj:=@Bool.false_ne_true
def ak:=@List.getD_eq_getElem?_getD
def am:=@if_neg
def ao:=@Nat.le_refl
def aq:=@if_pos
def ar:=@decide_eq_true
def aw:=@List.getElem?_eq_getElem
def ax:=@PySem.Heap.get?_push_size
def ay:=@PySem.sizeLine_eq
def az:=@List.mem_of_getElem?
def aA:=@PySem.Heap.lt_size
def aB:=@List.length_append
def aC:=@PyProof.Rows.wpS_bind
def aE:=@List.mem_cons_self
def aF:=@of_decide_eq_true
def aG:=@List.mem_cons
def aH:=@decide_eq_false
def aI:=@PyProof.Rows.wpS_pure
def aJ:=@List.map_append
def aK:=@List.mem_cons_of_mem
def aL:=@List.mem_append
def aM:=@Array.length_toList
def aN:=@List.getElem?_map
def aO:=@List.mem_singleton
def aP:=@List.mem_map
def aQ:=@List.mem_append_right
def aR:=@List.length_cons
def aS:=@Nat.ne_of_lt
def aU:=@List.append_assoc
def aV:=@List.take_add_one
def aW:=@List.append_nil
def aX:=@List.mem_append_left
def aY:=@List.getElem?_append_right
def aZ:=@List.take_length
def ba:=@PySem.W.mg_none_of
def bb:=@Nat.le_trans
def be:=@List.mem_filter
def bf:=@Nat.lt_of_lt_of_le
def bg:=@Option.some.inj
def bh:=@List.length_take_le
def bi:=@Array.toList_append
def bo:=@decide_eq_true_iff
def bq:=@Int.toNat_natCast
def br:=@Nat.zero_le
def bu:=@List.map_cons
def bv:=@List.take_append_drop
def bw:=@List.length_filter_le
def bz:=@List.pairwise_map
def bA:=@List.length_take
def bB:=@List.lookup_cons
def bC:=@List.all_eq_true
def bD:=@Array.getElem?_toList
def bE:=@List.take_of_length_le
def bF:=@List.getElem?_of_mem
def bG:=@List.idxOf_lt_length_iff
def bH:=@Nat.testBit_or
def bI:=@List.map_map
def bJ:=@PySem.wpAny_holding
def bK:=@List.getElem?_append_left
def bL:=@List.pairwise_iff_getElem
def bM:=@List.mem_range
def bN:=@congrArg
def bO:=@PyProof.Rows.wpS_forRange
def bP:=@List.mem_of_mem_take
def bQ:=@List.filter_append
def bR:=@List.map_congr_left
def bS:=@Bool.eq_iff_iff
def bU:=@List.not_mem_nil
def bV:=@PySem.F.plainAttrs_list
def bW:=@List.pairwise_append
def bX:=@PySem.Around.under_plainId
def bY:=@List.eq_nil_of_length_eq_zero
def bZ:=@List.length_nil
def ce:=@PySem.codeAny_builtin
def cf:=@PySem.PassesOwn.never
def cg:=@List.getElem?_take_of_lt
def ci:=@Bool.and_eq_true
def cj:=@PySem.wpAny_call_entry
def ck:=@PySem.mem_of_lookup
def cq:=@List.mem_map_of_mem
def cr:=@PySem.wpAny_mono
def cw:=@List.pairwise_cons
def cx:=@PySem.W.kia_one
def cy:=@PySem.wpAny_loadPart'
def cz:=@List.getElem_mem
def cA:=@Int.le_of_lt
def cB:=@Nat.testBit_two_pow
def cC:=@Nat.lt_succ_of_lt
def cD:=@List.nodup_cons
def cE:=@PySem.wpAny_Call_Name_kw
def cF:=@PySem.wpAny_setField_rec
def cG:=@List.mem_of_mem_drop
def cH:=@PySem.wpAny_callSpecial?_slot
def cI:=@Int.le_refl
def cJ:=@Nat.add_sub_cancel_left
def cK:=@decide_eq_false_iff_not
def cL:=@Nat.pow_le_pow_right
def cM:=@List.filter_cons
def cN:=@Nat.testBit_two_pow_sub_one
def cO:=@Nat.lt_irrefl
def cP:=@PySem.wpAny_pyIter_list
def cQ:=@PySem.Heap.get?_update_other
def cR:=@PySem.wpAny_newObj_type
def cS:=@Bool.and_false
def cU:=@List.length_range
def cV:=@Int.le_trans
def cW:=@Array.perm_iff_toList_perm
def cX:=@Nat.mod_two_eq_zero_or_one
def cY:=@beq_eq_false_iff_ne
def cZ:=@List.filter_sublist
def da:=@Classical.byContradiction
def db:=@List.Perm.append_left
def dc:=@List.getElem?_eq_none
def de:=@PySem.wpAny_rule
def df:=@List.countP_cons
def dh:=@Nat.zero_testBit
def di:=@List.sum_cons
def dk:=@Array.toArray_toList
def dq:=@PyProof.Rows.wpS_mono
def dr:=@Array.toList_reverse
def dv:=@PySem.wpAny_truthy_bool
def dw:=@List.take_sublist
def dy:=@PySem.wpAny_setState_of
def dz:=@Bool.not_eq_true'
def dB:=@Nat.two_pow_pos
def dC:=@Nat.le_of_lt
def dD:=@Nat.ne_of_gt
def dE:=@PyProof.Rows.callWith_type1
def dF:=@Nat.le_succ
def dG:=@PySem.Heap.size_push
def dH:=@PySem.Heap.get?_update_self
def dI:=@List.perm_append_comm
def dJ:=@List.Pairwise.and_mem
def dL:=@List.extract_eq_take_drop
def dM:=@PySem.wpAny_passesOwn
def dN:=@List.of_mem_zip
def dO:=@List.find?_cons
def dP:=@Nat.testBit_and
def dQ:=@PySem.codeAny_mono
def dR:=@Array.toList_push
def dS:=@PySem.wpAny_field
def dU:=@List.nodup_append
def dW:=@Nat.eq_of_testBit_eq
def dX:=@PySem.F.slot_list_append
def dY:=@PySem.F.type_list_append
def dZ:=@List.filterMap_cons
def d0:=@List.getElem_of_mem
def eg:=@List.getElem?_range
def eh:=@PySem.F.plain_list_iadd
def ek:=@PySem.Around.in1_units
def eB:=@PySem.sizeLine_eq
def eC:=@List.zip_cons_cons
def eD:=@Nat.lt_trans
def eE:=@PyProof.Rows.wpS_modify
def eF:=@Nat.not_lt_zero
def eG:=@PySem.wpAny_standAt
def eI:=@PySem.plainId_quiet
def eJ:=@Bool.eq_false_iff
def eL:=@PySem.Calls.evalArgs_plain
def eM:=@Array.toList_extract
def eN:=@or_false
def eO:=@List.exists_cons_of_ne_nil
def eQ:=@List.perm_ext_iff_of_nodup
def eR:=@PySem.wpAny_askSetting
def eS:=@Bool.or_true
def eT:=@Nat.testBit_zero
def eU:=@Nat.lt_or_ge
def eV:=@List.mem_flatMap
def eW:=@PySem.Calls.call_function_entry
def eX:=@List.getLastD_eq_getLast?
def eY:=@List.getLast?_eq_getElem?
def eZ:=@PySem.W.codeHd_of_K
def fb:=@List.reverse_append
def fe:=@PySem.Paired.length
def ff:=@PySem.F.args_tuple_add_2
def fg:=@List.all_cons
def fh:=@PySem.wpAny_attempt
def fj:=@PySem.wpAny_newList
def fk:=@Ne.symm
def fm:=@and_congr_right
def fo:=@Int.natCast_nonneg
def fq:=@PySem.tupleKind_room_in1
def fw:=@of_decide_eq_false
def fz:=@List.getElem_idxOf
def fE:=@PySem.F.entry_tuple_add
def fH:=@List.length_eq_zero_iff
def fJ:=@List.pairwise_singleton
def fN:=@List.map_id
def fO:=@Bool.false_and
def fQ:=@PySem.W.cellsFrom_some
def fS:=@PySem.F.slot_tuple_add
def fU:=@Option.some.injEq
def fX:=@List.nodup_nil
def fY:=@List.Perm.append_right
def fZ:=@List.flatMap_singleton
def ga:=@PySem.F.slot_tuple_lt
def gc:=@PySem.builtinLookup_eq_fast
def gd:=@PySem.wpAny_load
def gf:=@List.length_drop
def gh:=@List.any_eq_true
def gj:=@if_true
def gk:=@List.any_cons
def gn:=@PySem.W.mg_of
def gq:=@PyProof.Rows.wpS_get
def gt:=@Sum.inl.inj
def gu:=@Nat.pow_lt_pow_right
def gw:=@Bool.and_eq_true_iff
def gx:=@Bool.or_eq_false_iff
def gy:=@PySem.wpAny_execs_nil
def gz:=@PyProof.Rows.entry_list_sort
def gA:=@PySem.Heap.SameBut.update
def gB:=@PySem.W.callWith_of
def gC:=@List.flatMap_append
def gE:=@PySem.F.plain_proto_collect
def gF:=@Nat.sub_self
def gG:=@PySem.Calls.Name_function_global
def gH:=@Int.fdiv_eq_ediv_of_nonneg
def gI:=@PySem.wpAny_newFunctionEnv_cells
def gJ:=@PySem.SeqAt.EqAt.int_int
def gK:=@PySem.call_meets
def gL:=@PySem.wpAny_runValue
def gM:=@PySem.Walks.list
def gN:=@PyProof.Rows.slot_list_sort
def gO:=@PySem.SeqAt.RcNeAt.lists_lengths
def gP:=@List.drop_drop
def gQ:=@List.getElem?_drop
def gR:=@beq_iff_eq
def gS:=@PyProof.Rows.wpS_lift
def gU:=@Array.toList_setIfInBounds
def gW:=@List.any_eq_false
def gX:=@Nat.lt_trichotomy
def gY:=@List.drop_sublist
def gZ:=@List.Pairwise.and
def g4:=@Option.isSome_map
def g5:=@Nat.or_lt_two_pow
def g6:=@decide_eq_true_eq
def g7:=@List.flatMap_cons
def g8:=@List.getElem?_inj
def g9:=@PyProof.Rows.listUpdate_at
def hG:=@Bool.false_or
def hV:=@Bool.true_and
def h9:=@List.Pairwise.imp_of_mem
def ic:=@PySem.F.slot_list_extend
def ie:=@PySem.F.type_list_extend
def ig:=@forall_congr'
def ij:=@List.getElem?_replicate
def ik:=@PySem.F.args_tuple_lt_2
def im:=@PySem.noFill_tuple_add
def io:=@beq_self_eq_true
def iq:=@List.cons_append
def ir:=@Nat.lt_succ_self
def iu:=@PySem.wpAny_isInstance
def iw:=@List.getElem?_set_self
def ix:=@PySem.wpAny_call
def iy:=@PySem.F.entry_tuple_lt
def iA:=@List.map_nil
def iB:=@PySem.wpAny_typeOf
def iC:=@List.all_map
def iE:=@List.drop_eq_nil_of_le
def iF:=@Nat.testBit_lt_two_pow
def iG:=@List.pairwise_lt_range
def iH:=@Int.zero_add
def iI:=@PySem.typeLookup_type
def iJ:=@PySem.Heap.DictOf.new
def iK:=@PySem.W.keeps_F
def iL:=@List.Perm.of_eq
def iM:=@List.range_succ
def iN:=@Bool.or_eq_true
def iO:=@List.length_replicate
def iP:=@List.length_singleton
def iQ:=@PySem.F.slot_set_iter
def iR:=@List.set_append_right
def iS:=@List.pairwise_flatMap
def iT:=@List.getElem?_set_ne
def iU:=@PySem.isSubtype_type
def iV:=@List.drop_zero
def iW:=@List.reverse_reverse
def iX:=@List.take_zero
def iY:=@Array.getElem_toList
def iZ:=@List.Pairwise.filter
def i4:=@Nat.mul_le_mul_left
def i5:=@Bool.not_true
def i6:=@Bool.and_true
def i7:=@List.map_take
def i8:=@List.mem_filterMap
def i9:=@PySem.W.callWith_K
def ja:=@PySem.W.codeRec_of
def jc:=@Nat.lt_of_le_of_lt
def jd:=@Array.empty_append
def jf:=@Int.emod_lt_of_pos
def jg:=@Nat.add_comm
def jh:=@Nat.add_zero
def ji:=@getElem?_pos
def jl:=@List.any_map
def jm:=@if_false
def jn:=@not_or
open PySem.W (codeHdIn envX findIn fnMade instObj keepIn kitOne kitx_dict kitx_list kla_obj lookIn methodObj mg_of mroIn plainGet tabObj)
open Nat (strongRecOn)
open Option (getD_none map_some)
section
namespace L2
open PySem PySem.Spec PyProof.Rows
def jG (s:Stmt):Arguments:=match s with
 | .FunctionDef _ a _ _ _ _ _ _ _ _=>a
 | _=> { posonlyargs:=[],args:=[],vararg:=none,kwonlyargs:=[],kw_defaults:=[],kwarg:=none,defaults:=[]}
def jB (s:Stmt):List Stmt:=match s with
 | .FunctionDef _ _ b _ _ _ _ _ _ _=>b
 | _=> []
def j6 (s:Stmt):Scope:=match s with
 | .FunctionDef _ _ _ _ _ _ sc _ _ _=>sc
 | _=> { kind:= .function,names:=[],isGenerator:=false,isCoroutine:=false}
end L2
end
section
namespace Eo
open PySem L2
def top (i:Nat):Stmt:=PySem.Challenge.pw_eachonce_k75_whole_coverings_behind.main.body.getD i (.Pass ⟨0,0,0,0⟩)
abbrev jAY:Stmt:=top 1
abbrev yO:Stmt:=top 2
abbrev jBR:Stmt:=top 3
abbrev sMask:Stmt:=top 4
abbrev kP:Stmt:=top 6
abbrev kX:Stmt:=top 11
abbrev sFull:Stmt:=top 12
abbrev sAt:Stmt:=top 13
abbrev sMet:Stmt:=top 14
abbrev qH:Stmt:=top 15
abbrev qD:Stmt:=top 16
abbrev sMany:Stmt:=top 17
abbrev yP:Stmt:=top 19
abbrev yG:Stmt:=top 21
abbrev sCell:Stmt:=top 23
abbrev sPot:Stmt:=top 24
abbrev sTake:Stmt:=top 25
abbrev sLot:Stmt:=top 26
abbrev sBox:Stmt:=top 27
abbrev qI:Stmt:=top 28
abbrev qP:Stmt:=top 29
abbrev jAO:Stmt:=top 30
abbrev jBS:Stmt:=top 31
abbrev sFits:Stmt:=top 32
abbrev jBQ:Stmt:=top 33
abbrev jBT:Stmt:=top 34
abbrev sLaw:Stmt:=top 35
def kC (x:Str)(t:Nat)(l n:Int)(a:Nat)(X Y:Value)(z:Nat)(u:Int)(v:Nat):Obj:=⟨.type "code",none, .fields #[.str x t, .str x (t+1), .str "/claim/cut.py" (t+2), .int l 0, .int n 0, .int 0 0, .int 0 0, .int 3 0, .ref a, .bool true, .int 181 0, .ref (a+1), .none,X,Y, .ref z, .int u 0, .int l 0, .str "/claim/cut.py" v],#[]⟩
def kF (x:Str)(s:Stmt)(m:Str)(t c:Nat):Obj:=⟨.type "function",none, .func (PySem.W.fnOf x x (jG s) (jB s) (j6 s) .none .none .none (.str m t) none (.ref c) .none),#[]⟩
def kM (P:Params):Obj:=
 let e (x:Str) (t:Nat) (v:Value):DictEntry:=⟨PyData.keyHash P x, .str x t,v⟩
 ⟨.type "dict",none, .dict #[e "__name__" 165 (.str "law_eachonce_k75_whole_coverings_behind" 334),e "__doc__" 166 (.none),e "__package__" 167 (.none),e "__loader__" 168 (.builtin "__main__.__loader__#opaque"),e "__spec__" 169 (.none),e "__annotations__" 170 (.ref 6),e "__builtins__" 171 (.ref 4),e "__file__" 173 (.str "/claim/cut.py" 172),e "__cached__" 174 (.none),e "is_whole" 195 (.ref 21),e "is_rising" 201 (.ref 26),e "is_lot" 209 (.ref 33),e "mask_of" 215 (.ref 38),e "picked" 223 (.ref 43),e "OnceError" 243 (.ref 53),e "NoPiece" 259 (.ref 66),e "choices_of" 267 (.ref 73),e "full_mask" 274 (.ref 80),e "choices_at" 280 (.ref 85),e "masks_met" 293 (.ref 92),e "gathered" 299 (.ref 97),e "ways_of" 306 (.ref 104),e "many" 313 (.ref 111),e "behind" 321 (.ref 116),e "lightest" 333 (.ref 123),e "_law_cell_at" 343 (.ref 130),e "_law_pot" 353 (.ref 137),e "_law_take" 362 (.ref 144),e "_law_lot" 368 (.ref 149),e "_law_box" 374 (.ref 154),e "_law_from" 380 (.ref 159),e "_law_coverings" 386 (.ref 164),e "_law_weight" 392 (.ref 169),e "_law_drawn" 403 (.ref 176),e "_law_fits" 409 (.ref 181),e "_law_in" 415 (.ref 186),e "_law_apart" 426 (.ref 193),e "law" 432 (.ref 198)] 38,#[]⟩
def kK (P:Params):W.Frag:=(nat_lit 3,kM P)::(nat_lit 4,⟨.type "module",some 0, .plain,#[]⟩)::(nat_lit 20,kC "is_whole" 189 2 1 15 (.ref 17) (.ref 18) 19 193 194)::(nat_lit 21,kF "is_whole" jAY "eachonce.kinds" 187 20)::(nat_lit 25,kC "is_rising" 196 4 1 22 (.none) (.none) 24 199 200)::(nat_lit 26,kF "is_rising" yO "eachonce.kinds" 187 25)::(nat_lit 32,kC "is_lot" 202 10 2 27 (.ref 29) (.ref 30) 31 207 208)::(nat_lit 33,kF "is_lot" jBR "eachonce.kinds" 187 32)::(nat_lit 37,kC "mask_of" 210 14 1 34 (.none) (.none) 36 213 214)::(nat_lit 38,kF "mask_of" sMask "eachonce.kinds" 187 37)::(nat_lit 42,kC "picked" 218 17 3 39 (.none) (.none) 41 221 222)::(nat_lit 43,kF "picked" kP "eachonce.boxes" 216 42)::(nat_lit 72,kC "choices_of" 262 29 1 69 (.none) (.none) 71 265 266)::(nat_lit 73,kF "choices_of" kX "eachonce.coverings" 260 72)::(nat_lit 79,kC "full_mask" 268 34 1 74 (.ref 76) (.ref 77) 78 272 273)::(nat_lit 80,kF "full_mask" sFull "eachonce.coverings" 260 79)::(nat_lit 84,kC "choices_at" 275 36 2 81 (.none) (.none) 83 278 279)::(nat_lit 85,kF "choices_at" sAt "eachonce.coverings" 260 84)::(nat_lit 91,kC "masks_met" 281 39 1 86 (.ref 88) (.ref 89) 90 291 292)::(nat_lit 92,kF "masks_met" sMet "eachonce.coverings" 260 91)::(nat_lit 96,kC "gathered" 294 51 3 93 (.none) (.none) 95 297 298)::(nat_lit 97,kF "gathered" qH "eachonce.coverings" 260 96)::(nat_lit 103,kC "ways_of" 300 60 1 98 (.ref 100) (.ref 101) 102 304 305)::(nat_lit 104,kF "ways_of" qD "eachonce.coverings" 260 103)::(nat_lit 110,kC "many" 307 62 1 105 (.ref 107) (.ref 108) 109 311 312)::(nat_lit 111,kF "many" sMany "eachonce.coverings" 260 110)::(nat_lit 115,kC "behind" 316 65 2 112 (.none) (.none) 114 319 320)::(nat_lit 116,kF "behind" yP "eachonce.needs" 314 115)::(nat_lit 122,kC "lightest" 324 77 1 117 (.ref 119) (.ref 120) 121 331 332)::(nat_lit 123,kF "lightest" yG "eachonce.lightest" 322 122)::(nat_lit 129,kC "_law_cell_at" 336 92 2 124 (.ref 126) (.ref 127) 128 341 342)::(nat_lit 130,kF "_law_cell_at" sCell "law_eachonce_k75_whole_coverings_behind" 334 129)::(nat_lit 136,kC "_law_pot" 344 96 1 131 (.ref 133) (.ref 134) 135 351 352)::(nat_lit 137,kF "_law_pot" sPot "law_eachonce_k75_whole_coverings_behind" 334 136)::(nat_lit 143,kC "_law_take" 354 105 2 138 (.ref 140) (.ref 141) 142 360 361)::(nat_lit 144,kF "_law_take" sTake "law_eachonce_k75_whole_coverings_behind" 334 143)::(nat_lit 148,kC "_law_lot" 363 109 2 145 (.none) (.none) 147 366 367)::(nat_lit 149,kF "_law_lot" sLot "law_eachonce_k75_whole_coverings_behind" 334 148)::(nat_lit 153,kC "_law_box" 369 118 3 150 (.none) (.none) 152 372 373)::(nat_lit 154,kF "_law_box" sBox "law_eachonce_k75_whole_coverings_behind" 334 153)::(nat_lit 158,kC "_law_from" 375 136 3 155 (.none) (.none) 157 378 379)::(nat_lit 159,kF "_law_from" qI "law_eachonce_k75_whole_coverings_behind" 334 158)::(nat_lit 163,kC "_law_coverings" 381 149 1 160 (.none) (.none) 162 384 385)::(nat_lit 164,kF "_law_coverings" qP "law_eachonce_k75_whole_coverings_behind" 334 163)::(nat_lit 168,kC "_law_weight" 387 151 2 165 (.none) (.none) 167 390 391)::(nat_lit 169,kF "_law_weight" jAO "law_eachonce_k75_whole_coverings_behind" 334 168)::(nat_lit 175,kC "_law_drawn" 393 153 4 170 (.ref 172) (.ref 173) 174 401 402)::(nat_lit 176,kF "_law_drawn" jBS "law_eachonce_k75_whole_coverings_behind" 334 175)::(nat_lit 180,kC "_law_fits" 404 158 3 177 (.none) (.none) 179 407 408)::(nat_lit 181,kF "_law_fits" sFits "law_eachonce_k75_whole_coverings_behind" 334 180)::(nat_lit 185,kC "_law_in" 410 160 2 182 (.none) (.none) 184 413 414)::(nat_lit 186,kF "_law_in" jBQ "law_eachonce_k75_whole_coverings_behind" 334 185)::(nat_lit 192,kC "_law_apart" 416 162 2 187 (.ref 189) (.ref 190) 191 424 425)::(nat_lit 193,kF "_law_apart" jBT "law_eachonce_k75_whole_coverings_behind" 334 192)::(nat_lit 197,kC "law" 427 170 1 194 (.none) (.none) 196 430 431)::(nat_lit 198,kF "law" sLaw "law_eachonce_k75_whole_coverings_behind" 334 197)::[]
def kA:List Addr:=[3,4,20,21,25,26,32,33,37,38,42,43,72,73,79,80,84,85,91,92,96,97,103,104,110,111,115,116,122,123,129,130,136,137,143,144,148,149,153,154,158,159,163,164,168,169,175,176,180,181,185,186,192,193,197,198]
def vw:Program:= { PySem.Challenge.pw_eachonce_k75_whole_coverings_behind with main:= { PySem.Challenge.pw_eachonce_k75_whole_coverings_behind.main with body:=[top 1,top 2,top 3,top 4,top 6,top 8,top 9,top 11,top 12,top 13,top 14,top 15,top 16,top 17,top 19,top 21,top 23,top 24,top 25,top 26,top 27,top 28,top 29,top 30,top 31,top 32,top 33,top 34,top 35]}}
theorem kA_eq:∀ P,kA=(kK P).map (·.1):=fun _=>by kernel_rfl
abbrev kH:PySem.W.Hook:=PySem.W.kmHook kK kA kA_eq [40,99,118]
set_option maxHeartbeats 0 in
theorem left:PySem.W.LeftO PySem.Challenge.rw_eachonce_k75_whole_coverings_behind.prog vw [] (fun s=>PySem.W.xlAt vw [] s&&PySem.W.recOk (PySem.W.RowW.records (PySem.W.OpenRow.toRowW PySem.Challenge.rw_eachonce_k75_whole_coverings_behind.row)) s) (PySem.W.Hook.obs kH) (PySem.W.Hook.val kH) 3100:=fun w=>by kernel_rfl
end Eo
end
section
namespace L2
open PySem PySem.Spec PyProof.Rows
abbrev Key:=Sum Int Str
def keyIs:Key->Value->Bool
 | .inl k,v=>Value.isInt k v
 | .inr x,v=>Value.isStrOf x v
def keyH (w:World):Key->Int
 | .inl k=>hashInt k
 | .inr x=>hashStr w x
theorem jA0:∀ {k:Key}{v:Value},keyIs k v=true->(∃ i t,k=Sum.inl i/\v=Value.int i t)\/(∃ x t,k=Sum.inr x/\v=Value.str x t)
 | .inl i,v,h=>by
  obtain⟨t,e⟩:=Value.isInt_shape (k:=i) (v:=v) h
  exact .inl ⟨i,t,rfl,e⟩
 | .inr x,v,h=>by
  obtain⟨t,e⟩:=Value.isStrOf_shape (x:=x) (v:=v) h
  exact .inr ⟨x,t,rfl,e⟩
theorem jMQ (i:Int)(t:Tok):keyIs (.inl i) (.int i t)=true:=by simp [keyIs,Value.isInt]
theorem jMP (x:Str)(t:Tok):keyIs (.inr x) (.str x t)=true:=by simp [keyIs,Value.isStrOf]
theorem jUM (a b:Int):decide ((Sum.inl a:Key)=Sum.inl b)=(a==b):=by
 by_cases e:a=b
 ·subst e; simp
 ·have h:¬ (Sum.inl a:Key)=Sum.inl b:=fun q=>e (gt q)
  rw[aH h]
  exact(cY.mpr e).symm
theorem jUJ (a b:Str):decide ((Sum.inr a:Key)=Sum.inr b)=decide (a=b):=by
 by_cases e:a=b
 ·subst e; simp
 ·have h:¬ (Sum.inr a:Key)=Sum.inr b:=fun q=>e (Sum.inr.inj q)
  rw[aH h,aH e]
theorem jUL (a:Int)(b:Str):decide ((Sum.inl a:Key)=Sum.inr b)=false:=aH (fun q=>nomatch q)
theorem jUK (a:Str)(b:Int):decide ((Sum.inr a:Key)=Sum.inl b)=false:=aH (fun q=>nomatch q)
def kQ (prog:Program)(w:World):PySem.KeyKind prog w Key where
 is:=keyIs
 hash:=keyH w
 inj:=fun v a b ha hb=>by
  rcases jA0 ha with ⟨i,t,rfl,rfl⟩ | ⟨x,t,rfl,rfl⟩
  ·rcases jA0 hb with ⟨j,u,rfl,e⟩ | ⟨y,u,rfl,e⟩
   ·injection e with e1 _; rw[e1]
   ·exact nomatch e
  ·rcases jA0 hb with ⟨j,u,rfl,e⟩ | ⟨y,u,rfl,e⟩
   ·exact nomatch e
   ·injection e with e1 _; rw[e1]
 byValue:=fun k v h=>by
  rcases jA0 h with ⟨i,t,rfl,rfl⟩ | ⟨x,t,rfl,rfl⟩ <;> rfl
 pyHash:=fun hv h=>by
  rcases jA0 hv with ⟨i,t,rfl,rfl⟩ | ⟨x,t,rfl,rfl⟩
  ·exact wpAny_pyHash_int h
  ·exact wpAny_pyHash_str h
 eqBool:=fun hu hv h=>by
  rcases jA0 hu with ⟨i,t,rfl,rfl⟩ | ⟨x,t,rfl,rfl⟩
  ·rcases jA0 hv with ⟨j,u,rfl,rfl⟩ | ⟨y,u,rfl,rfl⟩
   ·rw[jUM] at h; exact wpAny_eqBool_int h
   ·rw[jUL] at h; exact SeqAt.EqAt.int_str i t y u _ _ _ _ h
  ·rcases jA0 hv with ⟨j,u,rfl,rfl⟩ | ⟨y,u,rfl,rfl⟩
   ·rw[jUK] at h; exact SeqAt.EqAt.str_int x t j u _ _ _ _ h
   ·rw[jUJ] at h; exact wpAny_eqBool_str h
 «strs»:=fun k x t v h=>by
  rcases jA0 h with ⟨i,u,rfl,e⟩ | ⟨y,u,rfl,e⟩
  ·exact nomatch e
  ·injection e with e1 _
   subst e1
   cases v <;> rfl
theorem jHZ (prog:Program)(w:World)(i:Int)(t:Tok):(kQ prog w).is (.inl i) (.int i t)=true:=jMQ i t
theorem jHY (prog:Program)(w:World)(x:Str)(t:Tok):(kQ prog w).is (.inr x) (.str x t)=true:=jMP x t
end L2
namespace L2
open PySem PySem.Spec PyProof.Rows
inductive V where
 | non | bl (b:Bool) | int (i:Int) | str (x:Str) | byt (b:Array UInt8) | flt (b:UInt64) | ref (a:Addr) | ty (n:String)
 deriving DecidableEq
def RelV:V->Value->Prop
 | .non,u=>u=Value.none
 | .bl b,u=>u=Value.bool b
 | .int i,u=>∃ t,u=Value.int i t
 | .str x,u=>∃ t,u=Value.str x t
 | .byt b,u=>∃ t,u=Value.bytes b t
 | .flt b,u=>∃ t,u=Value.float b t
 | .ref a,u=>u=Value.ref a
 | .ty n,u=>u=Value.type n
abbrev Vals:List V->List Value->Prop:=Paired RelV
theorem Vals.length {xs:List V}{us:List Value}(r:Vals xs us):xs.length=us.length:=fe r
theorem Vals.get:∀ {xs:List V}{us:List Value}{i:Nat}{x:V},Vals xs us->xs[i]?=some x->∃ u,us[i]?=some u/\RelV x u
 | _,_,_,_, .nil,e=>by simp at e
 | _,_,0,_, .cons r _,e=>by simp at e; subst e; exact⟨_,rfl,r⟩
 | _,_,i+1,x, .cons _ t,e=>by
  obtain⟨u,h1,h2⟩:=Vals.get (i:=i) (x:=x) t (by simpa using e)
  exact⟨u,by simpa using h1,h2⟩
theorem Vals.set {x:V}{u:Value}(r:RelV x u):∀ {xs:List V}{us:List Value}(i:Nat),Vals xs us->Vals (xs.set i x) (us.set i u)
 | _,_,_, .nil=> .nil
 | _,_,0, .cons _ t=> .cons r t
 | _,_,i+1, .cons q t=> .cons q (Vals.set r i t)
theorem Vals.append:∀ {xs ys:List V}{us ws:List Value},Vals xs us->Vals ys ws->Vals (xs++ys) (us++ws)
 | _,_,_,_, .nil,s=>s
 | _,_,_,_, .cons r t,s=> .cons r (Vals.append t s)
theorem Vals.take:∀ {xs:List V}{us:List Value}(n:Nat),Vals xs us->Vals (xs.take n) (us.take n)
 | _,_,0,_=> .nil
 | _,_,_+1, .nil=> .nil
 | _,_,n+1, .cons r t=> .cons r (Vals.take n t)
theorem Vals.drop:∀ {xs:List V}{us:List Value}(n:Nat),Vals xs us->Vals (xs.drop n) (us.drop n)
 | _,_,0,r=>r
 | _,_,_+1, .nil=> .nil
 | _,_,n+1, .cons _ t=>Vals.drop n t
def RelO:Option V->Option Value->Prop
 | some v,some u=>RelV v u
 | none,none=>True
 | _,_=>False
def KV {κ:Type} :List (κ×V)->List (κ×Value)->Prop:=Paired fun (p:κ×V) (q:κ×Value)=>p.1=q.1/\RelV p.2 q.2
def kV:Key->V
 | .inl i=> .int i
 | .inr x=> .str x
def TupO (h:Heap)(a:Addr)(items:Array Value):Prop:=∃ n,h.get? a=some { cls:= .type "tuple",data:= .seq items n}
theorem TupO.isTup {h:Heap}{a:Addr}{items:Array Value}(x:TupO h a items):IsTup h a items:=let ⟨n,e⟩:=x; ⟨_,e,rfl,n,rfl⟩
theorem TupO.new (h:Heap)(items:Array Value):TupO (h.push { cls:= .type "tuple",data:= .seq items}) h.objs.size items:=⟨0,ax _ rfl⟩
inductive HO where
  | lst (xs:List V)
  | tup (xs:List V)
  | dK (kvs:List (Key×V)) | dT (kvs:List (List Key×V))
  | set (S:Int->Bool) (n:Nat)
  | ins (C dx:Addr) (fs:List (Str×V))
  | own (x:Addr)
  | xd (fs:List (Str×V))
  | met (f x:Addr)
  | rng (lo hi:Int)
  | frz (o:Obj) (u:HO)
  | tbl (ps:Array Value)
  | ext (φ:Heap->Prop)
abbrev Hp:=Addr->Option HO
def upd (H:Hp)(a:Addr)(o:HO):Hp:=fun b=>if b=a then some o else H b
theorem j5 {H:Hp}{a:Addr}{o:HO} :upd H a o a=some o:=by unfold upd; rw[aq rfl]
theorem j9 {H:Hp}{a b:Addr}{o:HO}(h:b≠a):upd H a o b=H b:=by unfold upd; rw[am h]
theorem ne_of {H:Hp}{a b:Addr}{o u:HO}(h:H a=some o)(h':H b=some u)(d:o≠u):a≠b:=by
 intro e; subst e; rw[h] at h'; exact d (bg h')
theorem jA {H:Hp}{a b:Addr}{o:HO}(h:H a=some o)(h':H b=none):a≠b:=by
 intro e; subst e; rw[h] at h'; cases h'
section
variable (P:Program)(w:World)
def ObjOk (H:Hp)(h:Heap)(a:Addr):HO->Prop
 | .lst xs=>xs.length<=sizeLine/\∃ (its:List Value) (n:Nat),Vals xs its/\h.get? a=some { cls:= .type "list",data:= .seq its.toArray n}
 | .tup xs=>xs.length<=sizeLine/\∃ its:List Value,Vals xs its/\TupO h a its.toArray
 | .dK kvs=>kvs.length<=sizeLine/\(a==sysModules)=false/\∃ vs,KV kvs vs/\h.DictOf (kQ P w) a vs
 | .dT kvs=>kvs.length<=sizeLine/\(a==sysModules)=false/\∃ xs:List (List Key×Addr×Value),
   Paired (fun (p:List Key×V) (q:List Key×Addr×Value)=>p.1=q.1/\H q.2.1=some (.tup (p.1.map kV))/\RelV p.2 q.2.2) kvs xs/\
   ∃ o es ep,h.get? a=some o/\o.ExactDict/\o.data= .dict es ep/\es.toList=xs.map (entryOfKey (tupleKind (kQ P w)))/\(xs.map (·.1)).Nodup
 | .set S n=>h.SetOf (intKind P w) a S n
 | .ins C dx fs=>H dx=some (.own a)/\fs.length<=1000/\dx≠a/\h.get? a=some (instObj C dx)/\
   ∃ mA,h.Ns1 dx mA/\(∀ f,RelO (fs.lookup f) (mA f))/\PySem.Within mA (fs.map (·.1))
 | .own _=>∃ o,h.get? a=some o
 | .xd fs=>∃ mA,h.Ns1 a mA/\∀ f,RelO (fs.lookup f) (mA f)
 | .rng lo hi=>∃ t u v,h.get? a=some { cls:= .type "range",data:= .fields #[.int lo t, .int hi u, .int 1 v]}
 | .frz o u=>h.get? a=some o/\ObjOk H h a u
 | .tbl ps=>h.get? a=some { cls:= .none,data:= .fields ps}
 | .met f x=>h.get? a=some (methodObj (.ref f) (.ref x))
 | .ext φ=>φ h/\(∃ o,h.get? a=some o)/\∀ h1 h2:Heap,φ h1->(∀ o,h1.get? a=some o->h2.get? a=some o)->φ h2
def HOk (H:Hp)(h:Heap):Prop:=∀ a o,H a=some o->ObjOk P w H h a o
end
section
variable {P:Program}{w:World}{H H':Hp}{h h':Heap}{a:Addr}{o:HO}
theorem ObjOk.lt (x:ObjOk P w H h a o):a<h.objs.size:=by
 cases o with
 | lst xs=>obtain⟨_,_,_,_,e⟩:=x; exact aA e
 | tup xs=>obtain⟨_,_,_,_,e⟩:=x; exact aA e
 | dK kvs=>obtain⟨_,_,_,_,o,_,_,e,_⟩:=x; exact aA e
 | dT kvs=>obtain⟨_,_,_,_,o,_,_,e,_⟩:=x; exact aA e
 | set S n=>obtain⟨o,_,_,_,e,_⟩:=x; exact aA e
 | ins C dx fs=>obtain⟨_,_,_,e,_⟩:=x; exact aA e
 | own y=>obtain⟨_,e⟩:=x; exact aA e
 | xd fs=>obtain⟨_,⟨_,_,_,e,_⟩,_⟩:=x; exact aA e
 | rng lo hi=>obtain⟨_,_,_,e⟩:=x; exact aA e
 | frz ob u=>obtain⟨e,_⟩:=x; exact aA e
 | tbl ps=>exact aA (show h.get? a=some _ from x)
 | met f y=>exact aA (show h.get? a=some _ from x)
 | ext φ=>obtain⟨_,⟨_,e⟩,_⟩:=x; exact aA e
theorem Paired.mapP {α β:Type}{F G:α->β->Prop} :∀ {l₁:List α}{l₂:List β},Paired F l₁ l₂->(∀ a b,F a b->G a b)->Paired G l₁ l₂
 | _,_, .nil,_=> .nil
 | _,_, .cons r t,f=> .cons (f _ _ r) (Paired.mapP t f)
theorem ObjOk.stay (x:ObjOk P w H h a o)(k:∀ b u,(b=a\/H b=some (.own a))->h.get? b=some u->h'.get? b=some u)
  (ho:∀ b,H b=some (.own a)->H' b=some (.own a)) (ht:∀ b xs,H b=some (.tup xs)->H' b=some (.tup xs)):ObjOk P w H' h' a o:=by
 induction o with
 | lst xs=>obtain⟨z,its,n,r,e⟩:=x; exact⟨z,its,n,r,k _ _ (.inl rfl) e⟩
 | tup xs=>obtain⟨z,its,r,n,e⟩:=x; exact⟨z,its,r,n,k _ _ (.inl rfl) e⟩
 | dK kvs=>obtain⟨z,y,vs,r,ob,es,ep,e,c⟩:=x; exact⟨z,y,vs,r,ob,es,ep,k _ _ (.inl rfl) e,c⟩
 | dT kvs=>
  obtain⟨z,y,xs,r,ob,es,ep,e,c⟩:=x
  exact⟨z,y,xs,Paired.mapP r fun p q z=>⟨z.1,ht _ _ z.2.1,z.2.2⟩,ob,es,ep,k _ _ (.inl rfl) e,c⟩
 | set S n=>obtain⟨ob,es,ep,t,e,c⟩:=x; exact⟨ob,es,ep,t,k _ _ (.inl rfl) e,c⟩
 | ins C dx fs=>
  obtain⟨d,z,ne,e,mA,⟨od,es,ep,e2,c⟩,r⟩:=x
  exact⟨ho _ d,z,ne,k _ _ (.inl rfl) e,mA,⟨od,es,ep,k _ _ (.inr d) e2,c⟩,r⟩
 | own y=>obtain⟨ob,e⟩:=x; exact⟨ob,k _ _ (.inl rfl) e⟩
 | xd fs=>obtain⟨mA,⟨od,es,ep,e,c⟩,r⟩:=x; exact⟨mA,⟨od,es,ep,k _ _ (.inl rfl) e,c⟩,r⟩
 | rng lo hi=>obtain⟨t,u,v,e⟩:=x; exact⟨t,u,v,k _ _ (.inl rfl) e⟩
 | frz ob u ih=>obtain⟨e,q⟩:=x; exact⟨k _ _ (.inl rfl) e,ih q⟩
 | tbl ps=>
  have e:h.get? a=some { cls:= .none,data:= .fields ps} :=x
  show h'.get? a=some { cls:= .none,data:= .fields ps}
  exact k a _ (.inl rfl) e
 | met f y=>
  have e:h.get? a=some (methodObj (.ref f) (.ref y)):=x
  show h'.get? a=some (methodObj (.ref f) (.ref y))
  exact k a _ (.inl rfl) e
 | ext φ=>obtain⟨p,⟨o,e⟩,st⟩:=x; exact⟨st _ _ p fun o q=>k _ _ (.inl rfl) q,⟨o,k _ _ (.inl rfl) e⟩,st⟩
theorem HOk.lt (x:HOk P w H h)(e:H a=some o):a<h.objs.size:=(x a o e).lt
theorem HOk.fresh (x:HOk P w H h)(e:h.objs.size<=a):H a=none:=by
 cases q:H a with
 | none=>rfl
 | some u=>exact absurd (bf (x.lt q) e) (cO _)
theorem HOk.kept (x:HOk P w H h)(k:∀ b u,h.get? b=some u->h'.get? b=some u):HOk P w H h':=fun a o e=>
 (x a o e).stay (fun b u _ q=>k b u q) (fun _ q=>q) fun _ _ q=>q
theorem HOk.laid (x:HOk P w H h)(k:∀ b u,h.get? b=some u->h'.get? b=some u)(hp:h.objs.size<=a)(new:ObjOk P w (upd H a o) h' a o):HOk P w (upd H a o) h':=fun b u e=>by
 have hn:=x.fresh hp
 by_cases hb:b=a
 ·subst hb; rw[j5] at e; cases e; exact new
 ·rw[j9 hb] at e
  exact(x b u e).stay (fun c v _ q=>k c v q) (fun c q=>by rw[j9 (jA q hn)]; exact q) fun c xs q=>by rw[j9 (jA q hn)]; exact q
end
def Rd (H:Hp)(a:Addr)(u:HO):Prop:=H a=some u\/∃ o,H a=some (.frz o u)
theorem Rd.ok {P:Program}{w:World}{H:Hp}{h:Heap}{a:Addr}{u:HO}(r:Rd H a u)(x:HOk P w H h):ObjOk P w H h a u:=by
 rcases r with r | ⟨o,r⟩
 ·exact x a u r
 ·obtain⟨_,q⟩:=x a _ r
  exact q
def Mut:Option HO->Prop
 | some (.lst _)=>True
 | some (.dK _)=>True
 | some (.dT _)=>True
 | some (.set _ _)=>True
 | some (.ins _ _ _)=>True
 | some (.ext _)=>True
 | _=>False
section
variable {P:Program}{w:World}{H:Hp}{h h':Heap}{x e:Addr}{o':HO}
theorem HOk.write (ok:HOk P w H h)(mu:Mut (H x))(he:e=x\/H e=some (.own x))(k:∀ b u,b≠e->h.get? b=some u->h'.get? b=some u)(heo:∃ u,h'.get? e=some u)
  (new:ObjOk P w (upd H x o') h' x o'):HOk P w (upd H x o') h':=fun b u q=>by
 have nown:∀ c y,H c=some (.own y)->c≠x:=fun c y r z=>by subst z; rw[r] at mu; exact mu
 have ntup:∀ c xs,H c=some (.tup xs)->c≠x:=fun c xs r z=>by subst z; rw[r] at mu; exact mu
 by_cases hb:b=x
 ·subst hb; rw[j5] at q; cases q; exact new
 ·rw[j9 hb] at q
  by_cases hbe:b=e
  ·have q':H b=some (.own x):=by
    rcases he with z | z
    ·exact absurd (hbe.trans z) hb
    ·rw[hbe]; exact z
   rw[q] at q'; cases q'
   obtain⟨v,hv⟩:=heo
   exact⟨v,by rw[hbe]; exact hv⟩
  ·refine(ok b u q).stay (fun c v hc r=>k c v ?_ r) (fun c r=>by rw[j9 (nown c b r)]; exact r) fun c xs r=>by rw[j9 (ntup c xs r)]; exact r
   rcases hc with rfl | hc
   ·exact hbe
   ·rintro rfl
    rcases he with z | z
    ·exact nown c b hc z
    ·rw[hc] at z; cases z; exact hb rfl
end
structure Un (fs ex:List Addr)(H H':Hp)(h h':Heap):Prop where
 keep:∀ b o,h.get? b=some o->H b=none->b∉fs->b∉ex->h'.get? b=some o
 slot:∀ b o,h.get? b=some o->H b=none->b∈fs->b∉ex->∃ sl,h'.get? b=some { o with slots:=sl}
 free:∀ b o,h.get? b=some o->H b=none->b∉ex->H' b=none
 there:∀ b o,h.get? b=some o->b∉ex->∃ o',h'.get? b=some o'
 tups:∀ b xs,H b=some (.tup xs)->H' b=some (.tup xs)
 frzs:∀ b o u,H b=some (.frz o u)->H' b=some (.frz o u)
 tbls:∀ b ps,H b=some (.tbl ps)->∃ more,H' b=some (.tbl (ps++more))
section
variable {fs fs' ex ex':List Addr}{H H1 H2:Hp}{h h1 h2 h':Heap}{a x e:Addr}{o:HO}
theorem Un.any (u:Un fs ex H H1 h h1){b:Addr}{ob:Obj}(q:h.get? b=some ob)(n:H b=none)(hx:b∉ex):∃ sl,h1.get? b=some { ob with slots:=sl} :=by
 by_cases hb:b∈fs
 ·exact u.slot b ob q n hb hx
 ·exact⟨ob.slots,u.keep b ob q n hb hx⟩
theorem Un.kept (k:∀ b u,h.get? b=some u->h'.get? b=some u):Un fs ex H H h h':=
 ⟨fun b ob q _ _ _=>k b ob q,fun b ob q _ _ _=>⟨ob.slots,k b ob q⟩,fun _ _ _ n _=>n,fun b ob q _=>⟨ob,k b ob q⟩,fun _ _ q=>q,fun _ _ _ q=>q,fun _ ps q=>⟨#[],by rw[q]; simp⟩⟩
theorem Un.refl:Un fs ex H H h h:=Un.kept fun _ _ q=>q
theorem Un.laid (k:∀ b u,h.get? b=some u->h'.get? b=some u)(hp:h.objs.size<=a)(hn:H a=none):Un fs ex H (upd H a o) h h' where
 keep:=fun b u q _ _ _=>k b u q
 slot:=fun b u q _ _ _=>⟨u.slots,k b u q⟩
 free:=fun b u q n _=>by rw[j9 (aS (bf (aA q) hp))]; exact n
 there:=fun b u q _=>⟨u,k b u q⟩
 tups:=fun b xs q=>by rw[j9 (jA q hn)]; exact q
 frzs:=fun b u xs q=>by rw[j9 (jA q hn)]; exact q
 tbls:=fun b ps q=>⟨#[],by rw[j9 (jA q hn),q]; simp⟩
theorem Un.write (mu:Mut (H x))(he:e=x\/H e=some (.own x))(k:∀ b u,b≠e->h.get? b=some u->h'.get? b=some u)(heo:∃ u,h'.get? e=some u):Un fs ex H (upd H x o) h h':=by
 have hx:∀ b,H b=none->b≠x:=fun b n z=>by subst z; rw[n] at mu; exact mu
 have hb:∀ b,H b=none->b≠e:=fun b n z=>by
  subst z
  rcases he with r | r
  ·exact hx b n r
  ·rw[n] at r; cases r
 have hm:∀ b u,H b=some u->¬ Mut (some u)->b≠x:=fun b u q nm z=>by subst z; rw[q] at mu; exact nm mu
 refine⟨fun b u q n _ _=>k b u (hb b n) q,fun b u q n _ _=>⟨u.slots,k b u (hb b n) q⟩,fun b u q n _=>by rw[j9 (hx b n)]; exact n,fun b u q _=>?_,
  fun b xs q=>by rw[j9 (hm b _ q fun z=>z)]; exact q,fun b u xs q=>by rw[j9 (hm b _ q fun z=>z)]; exact q,fun b ps q=>⟨#[],by rw[j9 (hm b _ q fun z=>z),q]; simp⟩⟩
 by_cases hbe:b=e
 ·subst hbe; exact heo
 ·exact⟨u,k b u hbe q⟩
end
def trk (h:Heap)(H:Hp):List Addr:=(List.range h.objs.size).filter fun a=>(H a).isSome
def hidT (h:Heap)(H:Hp):Heap:=PySem.W.hideAll h (trk h H)
theorem jN5 (h:Heap)(H:Hp):(hidT h H).objs.size=h.objs.size:=PySem.W.hideAll_size _ _
theorem jPD {h:Heap}{H:Hp}{b:Addr}{o:Obj}(e:h.get? b=some o)(n:H b=none):(hidT h H).get? b=some o:=
 PySem.W.hideAll_get _ e fun hm=>by
  have q:(H b).isSome=true:=(be.mp hm).2
  rw[n] at q; simp at q
theorem jS7 {h:Heap}{H:Hp}{b:Addr}{o:Obj}(e:(hidT h H).get? b=some o):h.get? b=some o/\H b=none:=by
 have e':h.get? b=some o:=PySem.W.of_hideAll (trk h H) e
 refine⟨e',?_⟩
 cases q:H b with
 | none=>rfl
 | some x=>
  have hm:b∈trk h H:=be.mpr ⟨bM.mpr (aA e'),by simp [q]⟩
  have z:(hidT h H).get? b=none:=PySem.W.hideAll_none (trk h H) hm
  rw[z] at e; cases e
end L2
namespace L2
open PySem PySem.Spec PyProof.Rows
structure Mod (K:W.Frag)(mg:Str->Option Value)(base:Heap):Prop where
 kin:K.In base
 glob:base.Ns mainGlobals mg
 blt:∃ mb,base.Ns builtinsNs mb/\∀ x:Str,x≠ "__name__" ->mb x=bootBuiltins x
 nolimit:base.NoLimit
structure Cx where
 prog:Program
 w:World
 K:W.Frag
 mg:Str->Option Value
 base:Heap
 A:Around
 N:List Str
 s₀:Shared
 H₀:Hp
 env:Env
 outer:List Env
 stack:List Env
 ex:List Addr
 fn:Str->Bool
 calm:Bool
 pn:List (Addr×Obj)
 xe:Value->Shared->Prop
def frs (l:List Env):List Addr:=l.filterMap (·.frame)
abbrev Cx.fs (X:Cx):List Addr:=frs X.outer
def Vis (sc:Scope)(x:Str):Prop:=sc.names.lookup x=some .local\/sc.names.lookup x=some .cell\/sc.names.lookup x=some .free
def Loc (sc:Scope)(x:Str):Prop:=sc.names.lookup x=some .local\/sc.names.lookup x=some .cell
def Look (env:Env)(h:Heap)(m:Str->Option Value)(x:Str)(u:Value):Prop:=
 (env.kindOf x=some .local/\m x=some u)\/((env.kindOf x=some .cell\/env.kindOf x=some .free)/\∃ c,env.cells.lookup x=some c/\h.IsCell c (some u))
structure Cx.Ok (X:Cx):Prop where
 mod:Mod X.K X.mg X.base
 kind:X.env.scope.kind= .function
 glob:X.env.globals=mainGlobals
 blt:X.env.builtins=builtinsNs
 above:X.s₀.heap.objs.size<=X.env.locals
 inj:∀ x y c,X.env.cells.lookup x=some c->X.env.cells.lookup y=some c->x=y
 has:∀ x,(X.env.kindOf x=some .cell\/X.env.kindOf x=some .free)->∃ c,X.env.cells.lookup x=some c
 cab:∀ x c,X.fn x=true->X.env.cells.lookup x=some c->X.s₀.heap.objs.size<=c
 hd:X.calm=true->X.A.handled=none
 frames:X.A.frames=some X.stack
 stk:X.stack=X.outer\/(X.stack=X.env::X.outer/\X.env.frame=some X.env.locals)
 exf:∀ b∈X.ex,b≠X.env.locals/\∀ x c,X.env.cells.lookup x=some c->c≠b
 bs:∀ b o,X.base.get? b=some o->X.s₀.heap.get? b=some o/\X.H₀ b=none
 bsz:X.base.objs.size<=X.s₀.heap.objs.size
 noex:∀ b o,X.base.get? b=some o->b∉X.ex
 exfs:∀ b∈X.ex,b∉X.fs
 funs:X.s₀.heap.FunFrames X.base X.outer
 frf:∀ b∈X.fs,X.H₀ b=none
structure Inv (X:Cx)(pins:List (Addr×Obj))(σ:List (Option V))(H:Hp)(s:Shared):Prop where
 ok:X.Ok
 os:s.os=X.s₀.os
 bare:AllBare s.gens
 base:Un X.fs X.ex X.H₀ H X.s₀.heap s.heap
 loc:∃ m,s.heap.Ns X.env.locals m/\∀ (i:Nat) (x:Str) (v:V),X.N[i]?=some x->σ[i]?=some (some v)->Vis X.env.scope x->∃ u,RelV v u/\Look X.env s.heap m x u
 cell:∀ x c,X.env.cells.lookup x=some c->∃ v,s.heap.IsCell c v
 free:H X.env.locals=none
 freeC:∀ x c,X.env.cells.lookup x=some c->H c=none
 pin:∀ p∈X.pn++pins,s.heap.get? p.1=some p.2/\H p.1=none/\p.1≠X.env.locals/\p.1∉X.fs/\∀ v,p.2.data≠ .cell v
 hok:HOk X.prog X.w H s.heap
 len:σ.length=X.N.length
section
variable {X:Cx}{pins:List (Addr×Obj)}{σ:List (Option V)}{H H':Hp}{s:Shared}{h':Heap}
theorem Cx.Ok.nofr (ok:X.Ok){b:Addr}{o:Obj}(e:X.base.get? b=some o):b∉X.fs:=fun hb=>by
 have:=(ok.funs.mem hb).1
 rw[e] at this; cases this
theorem Inv.bs (I:Inv X pins σ H s):∀ b o,X.base.get? b=some o->s.heap.get? b=some o/\H b=none:=fun b o e=>
 ⟨I.base.keep b o (I.ok.bs b o e).1 (I.ok.bs b o e).2 (I.ok.nofr e) (I.ok.noex b o e),I.base.free b o (I.ok.bs b o e).1 (I.ok.bs b o e).2 (I.ok.noex b o e)⟩
theorem Inv.bk (I:Inv X pins σ H s):∀ b o,X.base.get? b=some o->s.heap.get? b=some o:=fun b o e=>(I.bs b o e).1
theorem Inv.mod (I:Inv X pins σ H s):Mod X.K X.mg X.base:=I.ok.mod
theorem Inv.kIn (I:Inv X pins σ H s):X.K.In s.heap:=I.ok.mod.kin.keeps I.bk
theorem Inv.lt (I:Inv X pins σ H s):X.env.locals<s.heap.objs.size:=let ⟨_,hn,_⟩:=I.loc; hn.lt
theorem Inv.sz (I:Inv X pins σ H s):X.s₀.heap.objs.size<=s.heap.objs.size:=bb I.ok.above (dC I.lt)
theorem Inv.nofs (I:Inv X pins σ H s){a:Addr}(h:s.heap.objs.size<=a):a∉X.fs:=fun hb=>by
 obtain⟨_,o,ho,_⟩:=I.ok.funs.mem hb
 exact absurd (bf (aA ho) (bb I.sz h)) (cO _)
theorem Inv.cne (I:Inv X pins σ H s):∀ x c,X.env.cells.lookup x=some c->c≠X.env.locals:=fun x c e z=>by
 obtain⟨v,o,ho,hd⟩:=I.cell x c e
 obtain⟨m,⟨o',es,ep,ho',hd',_⟩,_⟩:=I.loc
 rw[z,ho'] at ho; cases ho; rw[hd'] at hd; cases hd
theorem Inv.funs (I:Inv X pins σ H s):s.heap.FunFrames X.base X.outer:=by
 have all:∀ (l:List Env),(∀ b∈frs l,b∈X.fs)->X.s₀.heap.FunFrames X.base l->s.heap.FunFrames X.base l:=by
  intro l
  induction l with
  | nil=>intro _ _; trivial
  | cons env r ih=>
   intro hs hl
   obtain⟨hk,⟨L,o,hf,hn,ho,hd⟩,hr⟩:=hl
   have hL:L∈X.fs:=hs L (by unfold frs; rw[dZ,hf]; exact aE)
   obtain⟨sl,e⟩:=I.base.slot L o ho (I.ok.frf L hL) hL fun z=>I.ok.exfs L z hL
   exact⟨hk,⟨L,_,hf,hn,e,hd⟩,ih (fun b hb=>hs b (by unfold frs; rw[dZ,hf]; exact aK _ hb)) hr⟩
 exact all X.outer (fun _ hb=>hb) I.ok.funs
theorem Inv.stack (I:Inv X pins σ H s):s.heap.FunFrames X.base X.stack:=by
 rcases I.ok.stk with e | ⟨e,hf⟩
 ·rw[e]; exact I.funs
 ·rw[e]
  obtain⟨m,hn,_⟩:=I.loc
  refine .cons (by rw[I.ok.kind]; decide) hf hn ?_ I.funs
  exact Heap.get?_none_of_le (bb I.ok.bsz I.ok.above)
theorem Inv.stkSub (I:Inv X pins σ H s):∀ b∈frs X.stack,b∈X.env.locals::X.fs:=fun b hb=>by
 rcases I.ok.stk with e | ⟨e,hf⟩
 ·rw[e] at hb; exact aK _ hb
 ·rw[e] at hb
  unfold frs at hb
  rw[dZ,hf] at hb
  exact hb
theorem Inv.stkFree (I:Inv X pins σ H s):∀ b∈frs X.stack,H b=none:=fun b hb=>by
 rcases aG.mp (I.stkSub b hb) with e | hb
 ·rw[e]; exact I.free
 ·obtain⟨_,o,ho,_⟩:=I.ok.funs.mem hb
  exact I.base.free b o ho (I.ok.frf b hb) fun z=>I.ok.exfs b z hb
theorem Inv.step {g':Array GenState}{t':Nat}{d':Drawn}{ch:List Addr}(I:Inv X pins σ H s)
  (hch:∀ b∈ch,(b∈X.ex\/X.s₀.heap.objs.size<=b)/\b≠X.env.locals/\(∀ x c,X.env.cells.lookup x=some c->c≠b)/\∀ p∈X.pn++pins,p.1≠b)
  (keep:∀ b o,b≠X.env.locals->b∉X.fs->b∉ch->s.heap.get? b=some o->H b=none->h'.get? b=some o)
  (slot:∀ b o,b≠X.env.locals->b∈X.fs->b∉ch->s.heap.get? b=some o->H b=none->∃ sl,h'.get? b=some { o with slots:=sl}) (free:∀ b o,b∉ch->s.heap.get? b=some o->H b=none->H' b=none)
  (there:∀ b o,b∉ch->s.heap.get? b=some o->∃ o',h'.get? b=some o')
  (tups:∀ b xs,H b=some (.tup xs)->H' b=some (.tup xs)) (frzs:∀ b o u,H b=some (.frz o u)->H' b=some (.frz o u)) (tbls:∀ b ps,H b=some (.tbl ps)->∃ more,H' b=some (.tbl (ps++more)))
  (ns:∀ m,s.heap.Ns X.env.locals m->h'.Ns X.env.locals m) (hok:HOk X.prog X.w H' h') (hg:AllBare g'):
  Inv X pins σ H' { s with heap:=h',gens:=g',drawn:=d',toks:=t'} :=by
 have neL:∀ b o,X.s₀.heap.get? b=some o->b≠X.env.locals:=fun b o e=>aS (bf (aA e) I.ok.above)
 have neC:∀ b o,X.s₀.heap.get? b=some o->b∉X.ex->b∉ch:=fun b o e hx hb=>by
  rcases (hch b hb).1 with z | z
  ·exact hx z
  ·exact absurd (bf (aA e) z) (cO _)
 have cellK:∀ x c,X.env.cells.lookup x=some c->∀ v,s.heap.IsCell c v->h'.IsCell c v:=fun x c e v ⟨o,ho,hd⟩=>by
  have nch:c∉ch:=fun z=>(hch c z).2.2.1 x c e rfl
  by_cases hc:c∈X.fs
  ·obtain⟨sl,q⟩:=slot c o (I.cne x c e) hc nch ho (I.freeC x c e)
   exact⟨_,q,hd⟩
  ·exact⟨o,keep c o (I.cne x c e) hc nch ho (I.freeC x c e),hd⟩
 refine⟨I.ok,I.os,hg,⟨fun b o e n hb hx=>?_,fun b o e n hb hx=>?_,fun b o e n hx=>?_,fun b o e hx=>?_,fun b xs e=>tups b xs (I.base.tups b xs e),fun b o xs e=>frzs b o xs (I.base.frzs b o xs e),fun b ps e=>?_⟩,?_,fun x c e=>?_,?_,fun x c e=>?_,fun p hp=>?_,hok,I.len⟩
 ·exact keep b o (neL b o e) hb (neC b o e hx) (I.base.keep b o e n hb hx) (I.base.free b o e n hx)
 ·obtain⟨sl,e1⟩:=I.base.slot b o e n hb hx
  obtain⟨sl',e2⟩:=slot b _ (neL b o e) hb (neC b o e hx) e1 (I.base.free b o e n hx)
  exact⟨sl',e2⟩
 ·obtain⟨o',e1⟩:=I.base.there b o e hx
  exact free b o' (neC b o e hx) e1 (I.base.free b o e n hx)
 ·obtain⟨o',e1⟩:=I.base.there b o e hx
  exact there b o' (neC b o e hx) e1
 ·obtain⟨m1,e1⟩:=I.base.tbls b ps e
  obtain⟨m2,e2⟩:=tbls b _ e1
  exact⟨m1++m2,by rw[e2,Array.append_assoc]⟩
 ·obtain⟨m,hn,hl⟩:=I.loc
  refine⟨m,ns m hn,fun i x v e1 e2 e3=>?_⟩
  obtain⟨u,r,l⟩:=hl i x v e1 e2 e3
  refine⟨u,r,?_⟩
  rcases l with l | ⟨k,c,e,z⟩
  ·exact .inl l
  ·exact .inr ⟨k,c,e,cellK x c e _ z⟩
 ·obtain⟨v,z⟩:=I.cell x c e
  exact⟨v,cellK x c e v z⟩
 ·obtain⟨m,⟨o,_,_,ho,_⟩,_⟩:=I.loc
  exact free _ o (fun z=>(hch _ z).2.1 rfl) ho I.free
 ·obtain⟨v,o,ho,hd⟩:=I.cell x c e
  exact free c o (fun z=>(hch c z).2.2.1 x c e rfl) ho (I.freeC x c e)
 ·obtain⟨e,n,ne,nf,d⟩:=I.pin p hp
  have nch:p.1∉ch:=fun z=>(hch p.1 z).2.2.2 p hp rfl
  exact⟨keep p.1 p.2 ne nf nch e n,free p.1 p.2 nch e n,ne,nf,d⟩
theorem Inv.un {t':Nat}(I:Inv X pins σ H s)(u:Un X.fs [] H H' s.heap h')(hok:HOk X.prog X.w H' h'):Inv X pins σ H' { s with heap:=h',toks:=t'} :=by
 obtain⟨m,⟨o,es,ep,ho,r⟩,_⟩:=id I.loc
 obtain⟨sl,hL⟩:=u.any ho I.free (by simp)
 exact I.step (g':=s.gens) (d':=s.drawn) (ch:=[]) (fun _ z=>nomatch z) (fun b o _ hb _ e n=>u.keep b o e n hb (by simp)) (fun b o _ hb _ e n=>u.slot b o e n hb (by simp)) (fun b o _ e n=>u.free b o e n (by simp)) (fun b o _ e=>u.there b o e (by simp)) u.tups u.frzs u.tbls (fun m' hm=>by
  obtain⟨o',es',ep',ho',r'⟩:=hm
  rw[ho] at ho'; cases ho'
  exact⟨_,es',ep',hL,r'⟩) hok I.bare
theorem Inv.call {g':Array GenState}{t':Nat}{d':Drawn}{ch:List Addr}(I:Inv X pins σ H s)(u:Un (frs X.stack) ch H H' s.heap h')(hok:HOk X.prog X.w H' h')(hg:AllBare g')
  (hch:∀ b∈ch,(b∈X.ex\/X.s₀.heap.objs.size<=b)/\b≠X.env.locals/\(∀ x c,X.env.cells.lookup x=some c->c≠b)/\∀ p∈X.pn++pins,p.1≠b):
  Inv X pins σ H' { s with heap:=h',gens:=g',drawn:=d',toks:=t'} :=by
 obtain⟨m,⟨o,es,ep,ho,r⟩,_⟩:=id I.loc
 obtain⟨sl,hL⟩:=u.any ho I.free fun z=>(hch _ z).2.1 rfl
 exact I.step (ch:=ch) hch (fun b o hL hb hc e n=>u.keep b o e n (fun z=>(aG.mp (I.stkSub b z)).elim hL hb) hc) (fun b o _ _ hc e n=>u.any e n hc) (fun b o hc e n=>u.free b o e n hc) (fun b o hc e=>u.there b o e hc) u.tups u.frzs u.tbls (fun m' hm=>by
  obtain⟨o',es',ep',ho',r'⟩:=hm
  rw[ho] at ho'; cases ho'
  exact⟨_,es',ep',hL,r'⟩) hok hg
theorem Inv.turned {t':Nat}{it:Addr}(I:Inv X pins σ H s)(k:∀ b o,b≠it->s.heap.get? b=some o->h'.get? b=some o)(hn:H it=none)(hL:it≠X.env.locals)
  (h1:it∈X.ex\/X.s₀.heap.objs.size<=it) (h2:∀ x c,X.env.cells.lookup x=some c->c≠it) (h3:∀ p∈X.pn++pins,p.1≠it):Inv X pins σ H { s with heap:=h',toks:=t'} :=by
 have nit:∀ b u,H b=some u->b≠it:=fun b u e z=>by rw[z,hn] at e; cases e
 refine I.step (g':=s.gens) (d':=s.drawn) (ch:=[it]) (fun b hb=>?_) (fun b o _ _ hc e _=>k b o (fun z=>hc (by simp [z])) e) (fun b o _ _ hc e _=>⟨o.slots,k b o (fun z=>hc (by simp [z])) e⟩) (fun _ _ _ _ n=>n)
  (fun b o hc e=>⟨o,k b o (fun z=>hc (by simp [z])) e⟩) (fun _ _ e=>e) (fun _ _ _ e=>e) (fun b ps e=>⟨#[],by rw[e]; simp⟩) (fun m hm=>?_) (fun b u e=>?_) I.bare
 ·have e:b=it:=by simpa using hb
  subst e
  exact⟨h1,hL,h2,h3⟩
 ·obtain⟨o,es,ep,ho,r⟩:=hm
  exact⟨o,es,ep,k _ o (fk hL) ho,r⟩
 ·refine(I.hok b u e).stay (fun c v hc q=>k c v ?_ q) (fun _ q=>q) fun _ _ q=>q
  rcases hc with z | z
  ·rw[z]; exact nit b u e
  ·exact nit c _ z
theorem Inv.tok (I:Inv X pins σ H s)(t:Nat):Inv X pins σ H { s with toks:=t} :=I.un (h':=s.heap) (t':=t) Un.refl I.hok
theorem Inv.kept {t':Nat}(I:Inv X pins σ H s)(k:∀ b u,s.heap.get? b=some u->h'.get? b=some u):Inv X pins σ H { s with heap:=h',toks:=t'} :=I.un (Un.kept k) (I.hok.kept k)
theorem Inv.laid {a:Addr}{o:HO}{t':Nat}(I:Inv X pins σ H s)(k:∀ b u,s.heap.get? b=some u->h'.get? b=some u)(hp:s.heap.objs.size<=a)(new:ObjOk X.prog X.w (upd H a o) h' a o):
  Inv X pins σ (upd H a o) { s with heap:=h',toks:=t'} :=I.un (Un.laid k hp (I.hok.fresh hp)) (I.hok.laid k hp new)
theorem Inv.write {x e:Addr}{o:HO}{t':Nat}(I:Inv X pins σ H s)(mu:Mut (H x))(he:e=x\/H e=some (.own x))(k:∀ b u,b≠e->s.heap.get? b=some u->h'.get? b=some u)(heo:∃ u,h'.get? e=some u)
  (new:ObjOk X.prog X.w (upd H x o) h' x o):Inv X pins σ (upd H x o) { s with heap:=h',toks:=t'} :=I.un (Un.write mu he k heo) (I.hok.write mu he k heo new)
theorem Inv.pins_of {pins':List (Addr×Obj)}(I:Inv X pins σ H s)(h:∀ p∈pins',s.heap.get? p.1=some p.2/\H p.1=none/\p.1≠X.env.locals/\p.1∉X.fs/\∀ v,p.2.data≠ .cell v):Inv X pins' σ H s:=
 ⟨I.ok,I.os,I.bare,I.base,I.loc,I.cell,I.free,I.freeC,fun p hp=>(aL.mp hp).elim (fun z=>I.pin p (aX _ z)) (h p),I.hok,I.len⟩
theorem jJA {N:List Str}(hN:N.Nodup){i j:Nat}{x:Str}(a:N[i]?=some x)(b:N[j]?=some x):i=j:=by
 obtain⟨h1,e1⟩:=ai.mp a
 obtain⟨h2,e2⟩:=ai.mp b
 exact(List.getElem_inj hN).mp (e1.trans e2.symm)
theorem jGA {M:Model}{A:Around}{E:Value->Shared->Prop}{i:Nat}{x:Str}{v:V}{u:Value}{Q:Unit->Shared->Prop}(I:Inv X pins σ H s)(hN:X.N.Nodup)(hi:X.N[i]?=some x)(hx:Loc X.env.scope x)(r:RelV v u)
  (h:∀ s',Inv X pins (σ.set i (some v)) H s'->(∃ a,Heap.SameBut a s.heap s'.heap/\(a=X.env.locals\/X.env.cells.lookup x=some a))->Q () s') (hf:X.fn x=true\/X.env.scope.names.lookup x=some .local:=by first | exact .inl rfl | exact .inr rfl | assumption):wpAny M A (storeName X.env x u) Q E s:=by
 obtain⟨m,hn,hl⟩:=id I.loc
 have hcls:(X.env.scope.kind== .class || (X.env.scope.kind== .module&&X.env.locals != X.env.globals))=false:=by rw[I.ok.kind]; rfl
 have hiσ:i<σ.length:=by rw[I.len]; exact(ai.mp hi).1
 have cne:=I.cne
 have tracked:∀ {a:Addr}{h':Heap},(∃ o,s.heap.get? a=some o/\H a=none)->Heap.SameBut a s.heap h'->HOk X.prog X.w H h':=fun {a h'} ha hs b ob e=>by
  obtain⟨_,_,hfree⟩:=ha
  refine(I.hok b ob e).stay (fun c w' hc q=>(hs.2 c ?_).trans q) (fun _ q=>q) fun _ _ q=>q
  rintro rfl
  rcases hc with rfl | hc
  ·rw[hfree] at e; cases e
  ·rw[hfree] at hc; cases hc
 rcases hx with hk | hk
 ·refine wpAny_storeName_local hk hn (fun h' hn' hs=>?_) hcls
  obtain⟨oL,_,_,hoL,_⟩:=id hn
  refine h _ ⟨I.ok,I.os,I.bare,⟨fun b o e n hb hx=>?_,fun b o e n hb hx=>?_,I.base.free,fun b o e hx=>?_,I.base.tups,I.base.frzs,I.base.tbls⟩,⟨_,hn',fun j y v' e1 e2 e3=>?_⟩,fun y c e=>?_,I.free,I.freeC,fun p hp=>?_,tracked ⟨oL,hoL,I.free⟩ hs,by simpa using I.len⟩ ⟨_,hs, .inl rfl⟩
  ·exact(hs.2 b (aS (bf (aA e) I.ok.above))).trans (I.base.keep b o e n hb hx)
  ·obtain⟨sl,e1⟩:=I.base.slot b o e n hb hx
   exact⟨sl,(hs.2 b (aS (bf (aA e) I.ok.above))).trans e1⟩
  ·obtain⟨o',e1⟩:=I.base.there b o e hx
   exact⟨o',(hs.2 b (aS (bf (aA e) I.ok.above))).trans e1⟩
  ·by_cases hj:j=i
   ·subst hj
    rw[hi] at e1; cases e1
    rw[iw hiσ] at e2
    cases e2
    exact⟨u,r, .inl ⟨hk,by simp⟩⟩
   ·rw[iT (fk hj)] at e2
    obtain⟨u',r',q⟩:=hl j y v' e1 e2 e3
    refine⟨u',r',?_⟩
    rcases q with ⟨k,e⟩ | ⟨k,c,e,z⟩
    ·refine .inl ⟨k,?_⟩
     have:y≠x:=fun e=>hj (jJA hN e1 (e ▸ hi))
     simp [this,e]
    ·exact .inr ⟨k,c,e,z.sameBut hs (cne y c e)⟩
  ·obtain⟨w',z⟩:=I.cell y c e
   exact⟨w',z.sameBut hs (cne y c e)⟩
  ·obtain⟨e,n,ne,nf,d⟩:=I.pin p hp
   exact⟨(hs.2 p.1 ne).trans e,n,ne,nf,d⟩
 ·have hfn:X.fn x=true:=by
   rcases hf with z | z
   ·exact z
   ·rw[z] at hk; cases hk
  obtain⟨c,hc⟩:=I.ok.has x (.inl hk)
  obtain⟨w',z⟩:=I.cell x c hc
  refine wpAny_storeName_cell I.ok.kind hk hc z (fun h' hc' hs=>?_)
  obtain⟨oc,hoc,hocd⟩:=id z
  refine h { s with heap:=h'} ⟨I.ok,I.os,I.bare,⟨fun b o e n hb hx=>?_,fun b o e n hb hx=>?_,I.base.free,fun b o e hx=>?_,I.base.tups,I.base.frzs,I.base.tbls⟩,⟨m,hn.sameBut hs (fk (cne x c hc)),fun j y v' e1 e2 e3=>?_⟩,fun y c' e=>?_,I.free,I.freeC,fun p hp=>?_,tracked ⟨oc,hoc,I.freeC x c hc⟩ hs,by simpa using I.len⟩ ⟨c,hs, .inr hc⟩
  ·exact(hs.2 b (aS (bf (aA e) (I.ok.cab x c hfn hc)))).trans (I.base.keep b o e n hb hx)
  ·obtain⟨sl,e1⟩:=I.base.slot b o e n hb hx
   exact⟨sl,(hs.2 b (aS (bf (aA e) (I.ok.cab x c hfn hc)))).trans e1⟩
  ·obtain⟨o',e1⟩:=I.base.there b o e hx
   exact⟨o',(hs.2 b (aS (bf (aA e) (I.ok.cab x c hfn hc)))).trans e1⟩
  ·by_cases hj:j=i
   ·subst hj
    rw[hi] at e1; cases e1
    rw[iw hiσ] at e2
    cases e2
    exact⟨u,r, .inr ⟨.inl hk,c,hc,hc'⟩⟩
   ·rw[iT (fk hj)] at e2
    obtain⟨u',r',q⟩:=hl j y v' e1 e2 e3
    refine⟨u',r',?_⟩
    rcases q with q | ⟨k,c',e,z'⟩
    ·exact .inl q
    ·refine .inr ⟨k,c',e,z'.sameBut hs ?_⟩
     rintro rfl
     exact hj (jJA hN e1 (I.ok.inj _ _ _ e hc ▸ hi))
  ·by_cases hcc:c'=c
   ·subst hcc; exact⟨_,hc'⟩
   ·obtain⟨w2,z2⟩:=I.cell y c' e
    exact⟨w2,z2.sameBut hs hcc⟩
  ·obtain⟨e,n,ne,nf,d⟩:=I.pin p hp
   refine⟨(hs.2 p.1 ?_).trans e,n,ne,nf,d⟩
   intro q
   rw[q,hoc] at e
   have q':oc=p.2:=bg e
   exact d w' (by rw[<- q']; exact hocd)
theorem jDD {M:Model}{A:Around}{E:Value->Shared->Prop}{i:Nat}{x:Str}{v:V}{u:Value}{Q:Unit->Shared->Prop}(I:Inv X pins σ H s)(hN:X.N.Nodup)(hi:X.N[i]?=some x)(hx:Loc X.env.scope x)(r:RelV v u)
  (h:∀ s',Inv X pins (σ.set i (some v)) H s'->Q () s') (hf:X.fn x=true\/X.env.scope.names.lookup x=some .local:=by first | exact .inl rfl | exact .inr rfl | assumption):wpAny M A (storeName X.env x u) Q E s:=
 jGA I hN hi hx r (fun s' I' _=>h s' I') hf
theorem Inv.call' {s':Shared}{ch:List Addr}(I:Inv X pins σ H s)(ho:s'.os=s.os)(u:Un (frs X.stack) ch H H' s.heap s'.heap)(hok:HOk X.prog X.w H' s'.heap)(hg:AllBare s'.gens)
  (hch:∀ b∈ch,(b∈X.ex\/X.s₀.heap.objs.size<=b)/\b≠X.env.locals/\(∀ x c,X.env.cells.lookup x=some c->c≠b)/\∀ p∈X.pn++pins,p.1≠b):Inv X pins σ H' s':=by
 obtain⟨h',g',d',t',o'⟩:=s'
 have e:o'=s.os:=ho
 subst e
 exact I.call (g':=g') (t':=t') (d':=d') u hok hg hch
end
abbrev XK:=Value->Option Addr->Hp->Prop
abbrev St:=List (Option V)
abbrev VK:=V->Hp->Prop
abbrev TE:=St->Hp->VK->Prop
abbrev TT:=St->Hp->(Bool->Hp->Prop)->Prop
abbrev TA:=St->Hp->(List V->Hp->Prop)->Prop
structure Ends where
 nx:St->Hp->Prop
 rt:VK
 bk:St->Hp->Prop:=fun _ _=>False
 ct:St->Hp->Prop:=fun _ _=>False
abbrev TS:=Ends->St->Hp->Prop
def EP (X:Cx)(pins:List (Addr×Obj))(σ:St)(Q:VK)(u:Value)(s':Shared):Prop:=∃ v H',Inv X pins σ H' s'/\RelV v u/\Q v H'
def TP (X:Cx)(pins:List (Addr×Obj))(σ:St)(Q:Bool->Hp->Prop)(b:Bool)(s':Shared):Prop:=∃ H',Inv X pins σ H' s'/\Q b H'
def AP (X:Cx)(pins:List (Addr×Obj))(σ:St)(Q:List V->Hp->Prop)(us:List Value)(s':Shared):Prop:=∃ vs H',Inv X pins σ H' s'/\Vals vs us/\Q vs H'
def SP (X:Cx)(pins:List (Addr×Obj))(D:Ends)(f:Flow)(s':Shared):Prop:=
 match f with
 | .next=>∃ σ' H',Inv X pins σ' H' s'/\D.nx σ' H'
 | .brk=>∃ σ' H',Inv X pins σ' H' s'/\D.bk σ' H'
 | .cont=>∃ σ' H',Inv X pins σ' H' s'/\D.ct σ' H'
 | .ret u=>∃ v σ' H',Inv X pins σ' H' s'/\RelV v u/\D.rt v H'
def PE (X:Cx)(e:Expr)(t:TE):Prop:=
 ∀ (pins:List (Addr×Obj)) (s:Shared) (σ:St) (H:Hp) (Q:VK),Inv X pins σ H s->t σ H Q->wpAny (model X.prog X.w) X.A (eval e X.env) (EP X pins σ Q) X.xe s
def PT (X:Cx)(e:Expr)(t:TT):Prop:=
 ∀ (pins:List (Addr×Obj)) (s:Shared) (σ:St) (H:Hp) (Q:Bool->Hp->Prop),Inv X pins σ H s->t σ H Q->wpAny (model X.prog X.w) X.A (isTrue e X.env (eval e X.env)) (TP X pins σ Q) X.xe s
def PW (X:Cx)(e:Expr)(t:TT):Prop:=
 ∀ (whole:Sem Value) (pins:List (Addr×Obj)) (s:Shared) (σ:St) (H:Hp) (Q:Bool->Hp->Prop),Inv X pins σ H s->t σ H Q->wpAny (model X.prog X.w) X.A (isTrue e X.env whole) (TP X pins σ Q) X.xe s
theorem PW.pt {X:Cx}{e:Expr}{t:TT}(h:PW X e t):PT X e t:=h _
def PA (X:Cx)(es:List Expr)(t:TA):Prop:=
 ∀ (pos:Pos) (pins:List (Addr×Obj)) (s:Shared) (σ:St) (H:Hp) (Q:List V->Hp->Prop),Inv X pins σ H s->t σ H Q->wpAny (model X.prog X.w) X.A (spliced (backTo pos (starEach es X.env))) (AP X pins σ Q) X.xe s
def PS (X:Cx)(st:Stmt)(t:TS):Prop:=
 ∀ (pins:List (Addr×Obj)) (s:Shared) (σ:St) (H:Hp) (D:Ends),Inv X pins σ H s->t D σ H->wpAny (model X.prog X.w) X.A (exec st X.env) (SP X pins D) X.xe s
def PSs (X:Cx)(st:List Stmt)(t:TS):Prop:=
 ∀ (pins:List (Addr×Obj)) (s:Shared) (σ:St) (H:Hp) (D:Ends),Inv X pins σ H s->t D σ H->wpAny (model X.prog X.w) X.A (execs st X.env) (SP X pins D) X.xe s
theorem thn {α:Type}{t:Sem α}{Q Q':α->Shared->Prop}{M:Model}{A:Around}{E:Value->Shared->Prop}{s:Shared}(h:wpAny M A t Q E s)(hQ:∀ a s,Q a s->Q' a s):wpAny M A t Q' E s:=cr h hQ fun _ _ x=>x
end L2
namespace L2
open PySem PySem.Spec PyProof.Rows
section
variable {X:Cx}
def tVar (i:Nat):TE:=fun σ H Q=>∃ v,σ[i]?=some (some v)/\Q v H
def tC (v:V):TE:=fun _ H Q=>Q v H
theorem jGK {i:Nat}{x:Str}{pos:Pos}(hN:X.N[i]?=some x)(hv:Vis X.env.scope x)(hd:(x==("__debug__" :Str))=false:=by decide)(hcd:(x==("__classdict__" :Str))=false:=by decide):PE X (.Name x pos) (tVar i):=by
 intro pins s σ H Q I h
 obtain⟨v,e,h⟩:=h
 obtain⟨m,hn,hl⟩:=I.loc
 obtain⟨u,r,l⟩:=hl i x v hN e hv
 have fin:EP X pins σ Q u s:=⟨v,H,I,r,h⟩
 rcases l with ⟨hk,hm⟩ | ⟨hk,c,hc,hcell⟩
 ·exact wpAny_Name (wpAny_loadName_local I.ok.kind hk hn hm fin) hd
 ·rcases hk with hk | hk
  ·exact wpAny_Name (wpAny_loadName_cell I.ok.kind hk hc hcell fin) hd
  ·exact wpAny_Name (wpAny_loadName_free I.ok.kind hk hc hcell fin hcd) hd
theorem jP {i j pos} :PE X (.Constant (.int i) j pos) (tC (.int i)):=fun _ _ _ H _ I h=>wpAny_Constant_int ⟨.int i,H,I.tok _,⟨_,rfl⟩,h⟩
theorem pe_bl {b j pos} :PE X (.Constant (.bool b) j pos) (tC (.bl b)):=fun _ _ _ H _ I h=>Constant_bool ⟨.bl b,H,I,rfl,h⟩
theorem jTW {j pos} :PE X (.Constant .none j pos) (tC .non):=fun _ _ _ H _ I h=>Constant_none ⟨.non,H,I,rfl,h⟩
def Gl (X:Cx)(x:Str):Prop:=X.env.kindOf x=some .globalImplicit
theorem jMN {E:Value->Shared->Prop}{pins:List (Addr×Obj)}{s:Shared}{σ:St}{H:Hp}{x:Str}{u:Value}{pos:Pos}{Q:Value->Shared->Prop}(I:Inv X pins σ H s)(hg:Gl X x)(hm:X.mg x=some u)(h:Q u s)
  (hd:(x==("__debug__" :Str))=false:=by decide):wpAny (model X.prog X.w) X.A (eval (.Name x pos) X.env) Q E s:=
 gG I.ok.kind hg (Calls.loadGlobal_global (by rw[I.ok.glob]; exact I.mod.glob.keeps I.bk) hm h) hd
theorem jE7 {E:Value->Shared->Prop}{pins:List (Addr×Obj)}{s:Shared}{σ:St}{H:Hp}{x:Str}{u:Value}{pos:Pos}{Q:Value->Shared->Prop}(I:Inv X pins σ H s)(hg:Gl X x)(hm:X.mg x=none)(hv:bootBuiltins x=some u)(h:Q u s)
  (hn:x≠ "__name__" :=by decide) (hd:(x==("__debug__" :Str))=false:=by decide):wpAny (model X.prog X.w) X.A (eval (.Name x pos) X.env) Q E s:=by
 obtain⟨mb,h1,h2⟩:=I.mod.blt
 exact gG I.ok.kind hg (Calls.loadGlobal_builtin (by rw[I.ok.glob]; exact I.mod.glob.keeps I.bk) hm (by rw[I.ok.blt]; exact h1.keeps I.bk) ((h2 x hn).trans hv) h) hd
theorem jRR {x:Str}{v:V}{u:Value}{pos:Pos}(hg:Gl X x)(hm:X.mg x=none)(hv:bootBuiltins x=some u)(r:RelV v u)(hn:x≠ "__name__" :=by decide)(hd:(x==("__debug__" :Str))=false:=by decide):PE X (.Name x pos) (tC v):=
 fun _ _ _ H _ I h=>jE7 I hg hm hv ⟨v,H,I,r,h⟩ hn hd
variable {a b:Expr}{ta tb:TE}{pos:Pos}
def PC (X:Cx)(op:CmpOp)(a b:Expr)(t:TE):Prop:=
 ∀ (pins:List (Addr×Obj)) (s:Shared) (σ:St) (H:Hp) (Q:VK),Inv X pins σ H s->t σ H Q->
  wpAny (model X.prog X.w) X.A (eval a X.env) (fun v s₁=>wpAny (model X.prog X.w) X.A (eval b X.env) (fun u s₂=>wpAny (model X.prog X.w) X.A (compareOp op v u) (EP X pins σ Q) X.xe s₂) X.xe s₁) X.xe s
def tB (t:TE):TT:=fun σ H Q=>t σ H fun x H1=>∃ c,x= .bl c/\Q c H1
theorem jQ3 {op:CmpOp}{t:TE}(h:PC X op a b t)(h1:behindInMarks op b=false:=by first | exact nobehind _ (by decide) (by decide) | rfl):PT X (.Compare a [op] [b] pos) (tB t):=by
 intro pins s σ H Q I hw
 refine wpAny_isTrue_Compare1 (thn (h pins s σ H _ I hw) fun v s1 h1=>thn h1 fun u s2 h2=>thn h2 fun c s3 ⟨x,H1,I1,r1,q1⟩=>?_) h1
 obtain⟨d,rfl,q⟩:=q1
 cases r1
 exact dv ⟨H1,I1,q⟩
theorem jTM {e:Expr}{t:TE}(h:PE X e t)(he:∀ whole,isTrue e X.env whole=(do let v <- whole; standAt e.pos; holding [v] (truthy v)):=by intro _; rfl):PT X e (tB t):=by
 intro pins s σ H Q I hw
 refine isTrue_plain (thn (h pins s σ H _ I hw) fun v s1 ⟨x,H1,I1,r1,q1⟩=>?_) (he _)
 obtain⟨d,rfl,q⟩:=q1
 cases r1
 exact dv ⟨H1,I1,q⟩
variable {tA tB':TT}{rest:List Expr}
def tAnd (t u:TT):TT:=fun σ H Q=>t σ H fun c H1=>if c=true then u σ H1 Q else Q false H1
def tOr (t u:TT):TT:=fun σ H Q=>t σ H fun c H1=>if c=true then Q true H1 else u σ H1 Q
def tNot (t:TT):TT:=fun σ H Q=>t σ H fun c H1=>Q (!c) H1
theorem jR6 (ha:PT X a tA):PW X (.BoolOp .And [a] pos) tA:=by
 intro wh pins s σ H Q I h
 refine isTrue_and (thn (ha pins s σ H Q I h) fun c s1 e=>?_)
 cases c with
 | true=>exact isTrue_and_nil e
 | false=>exact e
theorem jTK (ha:PT X a tA):PW X (.BoolOp .Or [a] pos) tA:=by
 intro wh pins s σ H Q I h
 refine isTrue_or (thn (ha pins s σ H Q I h) fun c s1 e=>?_)
 cases c with
 | false=>exact isTrue_or_nil e
 | true=>exact e
theorem jTL (ha:PT X a tA)(hb:PW X (.BoolOp .And (b::rest) pos) tB'):PW X (.BoolOp .And (a::b::rest) pos) (tAnd tA tB'):=by
 intro wh pins s σ H Q I h
 refine isTrue_and (thn (ha pins s σ H _ I h) fun c s1 ⟨H1,I1,q1⟩=>?_)
 cases c with
 | true=>exact hb wh pins s1 σ H1 Q I1 q1
 | false=>exact⟨H1,I1,q1⟩
theorem pw_or (ha:PT X a tA)(hb:PW X (.BoolOp .Or (b::rest) pos) tB'):PW X (.BoolOp .Or (a::b::rest) pos) (tOr tA tB'):=by
 intro wh pins s σ H Q I h
 refine isTrue_or (thn (ha pins s σ H _ I h) fun c s1 ⟨H1,I1,q1⟩=>?_)
 cases c with
 | true=>exact⟨H1,I1,q1⟩
 | false=>exact hb wh pins s1 σ H1 Q I1 q1
theorem jTN (ha:PT X a tA):PT X (.UnaryOp .Not a pos) (tNot tA):=by
 intro pins s σ H Q I h
 exact isTrue_not (ha pins s σ H (fun c H1=>Q (!c) H1) I h)
def tAndV (ta tb:TE):TE:=fun σ H Q=>ta σ H fun x H1=>∃ c,x= .bl c/\if c=true then tb σ H1 Q else Q (.bl false) H1
def tOrV (ta tb:TE):TE:=fun σ H Q=>ta σ H fun x H1=>∃ c,x= .bl c/\if c=true then Q (.bl true) H1 else tb σ H1 Q
def tNotV (ta:TE):TE:=fun σ H Q=>ta σ H fun x H1=>∃ c,x= .bl c/\Q (.bl (!c)) H1
theorem jTU {op}{t:TE}(h:PE X a t):PE X (.BoolOp op [a] pos) t:=fun pins s σ H Q I hw=>BoolOp_one (h pins s σ H Q I hw)
theorem jTZ (ha:PE X a ta)(hb:PE X (.BoolOp .And (b::rest) pos) tb):PE X (.BoolOp .And (a::b::rest) pos) (tAndV ta tb):=by
 intro pins s σ H Q I h
 refine BoolOp_and (thn (ha pins s σ H _ I h) fun v s1 ⟨x,H1,I1,r1,q1⟩=>?_)
 obtain⟨c,rfl,q1⟩:=q1
 cases r1
 refine dv ?_
 cases c with
 | true=>exact hb pins s1 σ H1 Q I1 q1
 | false=>exact⟨.bl false,H1,I1,rfl,q1⟩
theorem pe_or (ha:PE X a ta)(hb:PE X (.BoolOp .Or (b::rest) pos) tb):PE X (.BoolOp .Or (a::b::rest) pos) (tOrV ta tb):=by
 intro pins s σ H Q I h
 refine BoolOp_or (thn (ha pins s σ H _ I h) fun v s1 ⟨x,H1,I1,r1,q1⟩=>?_)
 obtain⟨c,rfl,q1⟩:=q1
 cases r1
 refine dv ?_
 cases c with
 | false=>exact hb pins s1 σ H1 Q I1 q1
 | true=>exact⟨.bl true,H1,I1,rfl,q1⟩
theorem jTV (ha:PE X a ta):PE X (.UnaryOp .Not a pos) (tNotV ta):=by
 intro pins s σ H Q I h
 refine UnaryOp_ (thn (ha pins s σ H _ I h) fun v s1 ⟨x,H1,I1,r1,q1⟩=>?_)
 obtain⟨c,rfl,q1⟩:=q1
 cases r1
 exact not_of (dv ⟨.bl (!c),H1,I1,rfl,q1⟩)
def tIf (t:TT)(ta tb:TE):TE:=fun σ H Q=>t σ H fun c H1=>if c=true then ta σ H1 Q else tb σ H1 Q
theorem jOJ {c:Expr}(hc:PT X c tA)(ha:PE X a ta)(hb:PE X b tb):PE X (.IfExp c a b pos) (tIf tA ta tb):=by
 intro pins s σ H Q I h
 refine wpAny_IfExp (thn (hc pins s σ H _ I h) fun d s1 ⟨H1,I1,q1⟩=>?_)
 cases d with
 | true=>exact ha pins s1 σ H1 Q I1 q1
 | false=>exact hb pins s1 σ H1 Q I1 q1
end
end L2
namespace L2
open PySem PySem.Spec PyProof.Rows
def SqL (K:W.Frag)(H:Hp)(a:Addr)(xs:List V):Prop:=
 Rd H a (.lst xs)\/
  ∃ (o:Obj) (its:Array Value) (n:Nat),K.lookup a=some o/\o.cls= .type "list" /\o.dict=none/\o.data= .seq its n/\its.size<=sizeLine/\Vals xs its.toList
def SqT (K:W.Frag)(H:Hp)(a:Addr)(xs:List V):Prop:=
 Rd H a (.tup xs)\/
  ∃ (o:Obj) (its:Array Value) (n:Nat),K.lookup a=some o/\o.cls= .type "tuple" /\o.data= .seq its n/\its.size<=sizeLine/\Vals xs its.toList
def absV:Value->Option V
 | .none=>some .non
 | .bool b=>some (.bl b)
 | .int i _=>some (.int i)
 | .str x _=>some (.str x)
 | .bytes b _=>some (.byt b)
 | .float b _=>some (.flt b)
 | .ref a=>some (.ref a)
 | .type n=>some (.ty n)
 | _=>none
theorem RelV.abs {x:V}{u:Value}(r:RelV x u):absV u=some x:=by
 cases x with
 | non=>cases r; rfl
 | bl _=>cases r; rfl
 | int _=>obtain⟨t,rfl⟩:=r; rfl
 | str _=>obtain⟨t,rfl⟩:=r; rfl
 | byt _=>obtain⟨t,rfl⟩:=r; rfl
 | flt _=>obtain⟨t,rfl⟩:=r; rfl
 | ref _=>cases r; rfl
 | ty _=>cases r; rfl
theorem RelV.inj {x y:V}{u:Value}(r:RelV x u)(q:RelV y u):x=y:=bg (r.abs.symm.trans q.abs)
theorem Vals.inj:∀ {xs ys:List V}{us:List Value},Vals xs us->Vals ys us->xs=ys
 | _,_,_, .nil, .nil=>rfl
 | _,_,_, .cons r t, .cons r' t'=>by rw[r.inj r',Vals.inj t t']
section
variable {X:Cx}{pins:List (Addr×Obj)}{σ:St}{H:Hp}{s:Shared}{a:Addr}{xs ys:List V}
theorem SqL.of {K:W.Frag}(h:H a=some (.lst xs)):SqL K H a xs:= .inl (.inl h)
theorem SqT.of {K:W.Frag}(h:H a=some (.tup xs)):SqT K H a xs:= .inl (.inl h)
theorem Inv.list (I:Inv X pins σ H s)(h:SqL X.K H a xs):∃ its:List Value,Vals xs its/\PlainL s.heap a its.toArray/\xs.length<=sizeLine:=by
 rcases h with h | ⟨o,its,n,hk,hc,hd,hs,hz,r⟩
 ·obtain⟨z,its,n,r,e⟩:=h.ok I.hok
  exact⟨its,r,⟨_,n,e,rfl,rfl,rfl⟩,z⟩
 ·refine⟨its.toList,r,⟨o,n,I.kIn a o hk,hc,hd,by simpa using hs⟩,?_⟩
  have e:=r.length
  simp only [aM] at e
  omega
theorem Inv.tuple (I:Inv X pins σ H s)(h:SqT X.K H a xs):∃ its:List Value,Vals xs its/\IsTup s.heap a its.toArray/\xs.length<=sizeLine:=by
 rcases h with h | ⟨o,its,n,hk,hc,hs,hz,r⟩
 ·obtain⟨z,its,r,p⟩:=h.ok I.hok
  exact⟨its,r,p.isTup,z⟩
 ·refine⟨its.toList,r,⟨o,I.kIn a o hk,hc,n,by simpa using hs⟩,?_⟩
  have e:=r.length
  simp only [aM] at e
  omega
theorem Inv.list_inj (I:Inv X pins σ H s)(h:SqL X.K H a xs)(h':SqL X.K H a ys):xs=ys:=by
 obtain⟨its,r,⟨o,n,e,_,_,d⟩,_⟩:=I.list h
 obtain⟨its',r',⟨o',n',e',_,_,d'⟩,_⟩:=I.list h'
 rw[e] at e'; cases e'
 rw[d] at d'
 injection d' with d1 _
 have:its=its':=by simpa using bN Array.toList d1
 subst this
 exact r.inj r'
theorem Inv.tuple_inj (I:Inv X pins σ H s)(h:SqT X.K H a xs)(h':SqT X.K H a ys):xs=ys:=by
 obtain⟨its,r,⟨o,e,_,n,d⟩,_⟩:=I.tuple h
 obtain⟨its',r',⟨o',e',_,n',d'⟩,_⟩:=I.tuple h'
 rw[e] at e'; cases e'
 rw[d] at d'
 injection d' with d1 _
 have:its=its':=by simpa using bN Array.toList d1
 subst this
 exact r.inj r'
end
abbrev Cx.wish (X:Cx)(E:Value->Shared->Prop):Cx:= { X with xe:=E}
abbrev Cx.nox (X:Cx):Cx:=X.wish fun _ _=>False
theorem Cx.Ok.wish {X:Cx}(ok:X.Ok)(E:Value->Shared->Prop):(X.wish E).Ok:=
 ⟨ok.mod,ok.kind,ok.glob,ok.blt,ok.above,ok.inj,ok.has,ok.cab,ok.hd,ok.frames,ok.stk,ok.exf,ok.bs,ok.bsz,ok.noex,ok.exfs,ok.funs,ok.frf⟩
theorem Cx.Ok.unwish {X:Cx}{E:Value->Shared->Prop}(ok:(X.wish E).Ok):X.Ok:=
 ⟨ok.mod,ok.kind,ok.glob,ok.blt,ok.above,ok.inj,ok.has,ok.cab,ok.hd,ok.frames,ok.stk,ok.exf,ok.bs,ok.bsz,ok.noex,ok.exfs,ok.funs,ok.frf⟩
section
variable {X:Cx}{pins:List (Addr×Obj)}{σ:St}{H:Hp}{s:Shared}{E:Value->Shared->Prop}
theorem Inv.wish (I:Inv X pins σ H s)(E:Value->Shared->Prop):Inv (X.wish E) pins σ H s:=⟨I.ok.wish E,I.os,I.bare,I.base,I.loc,I.cell,I.free,I.freeC,I.pin,I.hok,I.len⟩
theorem Inv.unwish (I:Inv (X.wish E) pins σ H s):Inv X pins σ H s:=⟨I.ok.unwish,I.os,I.bare,I.base,I.loc,I.cell,I.free,I.freeC,I.pin,I.hok,I.len⟩
theorem SP.unwish {D:Ends}{f:Flow}{s':Shared}(h:SP (X.wish E) pins D f s'):SP X pins D f s':=by
 cases f with
 | next=>obtain⟨σ',H',I,q⟩:=h; exact⟨σ',H',I.unwish,q⟩
 | brk=>obtain⟨σ',H',I,q⟩:=h; exact⟨σ',H',I.unwish,q⟩
 | cont=>obtain⟨σ',H',I,q⟩:=h; exact⟨σ',H',I.unwish,q⟩
 | ret u=>obtain⟨v,σ',H',I,r,q⟩:=h; exact⟨v,σ',H',I.unwish,r,q⟩
theorem PSs.nox {st:List Stmt}{t:TS}(h:PSs X.nox st t):PSs X st t:=fun pins s σ H D I hw=>
 cr (h pins s σ H D (I.wish _) hw) (fun _ _ q=>q.unwish) fun _ _ z=>False.elim z
end
section
variable {X:Cx}{st:Stmt}{rest:List Stmt}{t u:TS}{e:Expr}{te:TE}{pos:Pos}
def tNext:TS:=fun D σ H=>D.nx σ H
def tSeq (t u:TS):TS:=fun D σ H=>t { D with nx:=u D} σ H
theorem jFD:PSs X [] tNext:=fun _ _ σ H _ I h=>gy ⟨σ,H,I,h⟩
theorem kS (h1:PS X st t)(h2:PSs X rest u):PSs X (st::rest) (tSeq t u):=by
 intro pins s σ H D I h
 refine wpAny_execs_cons (thn (h1 pins s σ H { D with nx:=u D} I h) fun f s1 q=>?_)
 cases f with
 | next=>
  obtain⟨σ',H',I',q⟩:=q
  exact h2 pins s1 σ' H' D I' q
 | ret v=>exact q
 | brk=>exact q
 | cont=>exact q
theorem jAZ (h1:PS X st t):PSs X [st] t:=by
 intro pins s σ H D I h
 refine wpAny_execs_cons (thn (h1 pins s σ H D I h) fun f s1 q=>?_)
 cases f with
 | next=>exact gy q
 | ret v=>exact q
 | brk=>exact q
 | cont=>exact q
theorem Inv.quiet {pins:List (Addr×Obj)}{σ:St}{H:Hp}{s:Shared}(I:Inv X pins σ H s):interactive X.env=false:=by simp [interactive,I.ok.kind]
def tDrop (te:TE):TS:=fun D σ H=>te σ H fun _ H1=>D.nx σ H1
theorem jR9 (he:PE X e te)(hs:swapsWith e none pos.line X.env=pure false:=by rfl):PS X (.Expr e pos) (tDrop te):=by
 intro pins s σ H D I h
 exact wpAny_Expr_any (thn (he pins s σ H _ I h) fun v s1 ⟨x,H1,I1,r1,q1⟩=>⟨σ,H1,I1,q1⟩) I.quiet hs
def tRet (te:TE):TS:=fun D σ H=>te σ H D.rt
theorem jD8 (he:PE X e te):PS X (.Return (some e) pos) (tRet te):=by
 intro pins s σ H D I h
 exact wpAny_Return_some (thn (he pins s σ H _ I h) fun v s1 ⟨x,H1,I1,r1,q1⟩=>⟨x,σ,H1,I1,r1,q1⟩)
def tIfS (c:TT)(t u:TS):TS:=fun D σ H=>c σ H fun b H1=>if b=true then t D σ H1 else u D σ H1
theorem ps_if {c:Expr}{a b:List Stmt}{tc:TT}(hc:PT X c tc)(ha:PSs X a t)(hb:PSs X b u):PS X (.If c a b pos) (tIfS tc t u):=by
 intro pins s σ H D I h
 refine wpAny_If (thn (hc pins s σ H _ I h) fun d s1 ⟨H1,I1,q1⟩=>?_)
 cases d with
 | true=>exact ha pins s1 σ H1 D I1 q1
 | false=>exact hb pins s1 σ H1 D I1 q1
end
abbrev TG:=V->St->Hp->(St->Hp->Prop)->Prop
abbrev TGs:=List V->St->Hp->(St->Hp->Prop)->Prop
def PG (X:Cx)(target:Expr)(t:TG):Prop:=
 ∀ (pins:List (Addr×Obj)) (s:Shared) (σ:St) (H:Hp) (v:V) (u:Value) (Q:St->Hp->Prop),Inv X pins σ H s->RelV v u->t v σ H Q->
  wpAny (model X.prog X.w) X.A (assign target X.env u) (fun _ s'=>∃ σ' H',Inv X pins σ' H' s'/\Q σ' H') X.xe s
def PGs (X:Cx)(ts:List Expr)(t:TGs):Prop:=
 ∀ (pins:List (Addr×Obj)) (s:Shared) (σ:St) (H:Hp) (vs:List V) (us:List Value) (Q:St->Hp->Prop),Inv X pins σ H s->Vals vs us->t vs σ H Q->
  wpAny (model X.prog X.w) X.A (assignInOrder ((assignEach ts X.env).map (·.2)) us) (fun _ s'=>∃ σ' H',Inv X pins σ' H' s'/\Q σ' H') X.xe s
abbrev TSet:=V->V->V->Hp->(Hp->Prop)->Prop
def PSet (X:Cx)(t:TSet):Prop:=
 ∀ (pins:List (Addr×Obj)) (s:Shared) (σ:St) (H:Hp) (o i v:V) (ov iv u:Value) (Q:Hp->Prop),Inv X pins σ H s->RelV o ov->RelV i iv->RelV v u->t o i v H Q->
  wpAny (model X.prog X.w) X.A (setItem ov iv u) (fun _ s'=>∃ H',Inv X pins σ H' s'/\Q H') X.xe s
section
variable {X:Cx}{pos:Pos}
def kL (i:Nat):TG:=fun v σ H Q=>Q (σ.set i (some v)) H
theorem jFE {i:Nat}{x:Str}(hN:X.N.Nodup)(hi:X.N[i]?=some x)(hx:Loc X.env.scope x)(hf:X.fn x=true\/X.env.scope.names.lookup x=some .local:=by first | exact .inl rfl | exact .inr rfl | assumption):PG X (.Name x pos) (kL i):=by
 intro pins s σ H v u Q I r h
 exact wpAny_assign_Name (jDD I hN hi hx r (fun s' I'=>⟨_,H,I',h⟩) hf)
def gNil:TGs:=fun vs σ H Q=>vs=[]/\Q σ H
def gCons (t:TG)(u:TGs):TGs:=fun vs σ H Q=>∃ v r,vs=v::r/\t v σ H fun σ' H'=>u r σ' H' Q
theorem jRJ:PGs X [] gNil:=by
 intro pins s σ H vs us Q I r h
 obtain⟨e,h⟩:=h
 subst e
 cases r
 exact assignInOrder_nil ⟨σ,H,I,h⟩
theorem jOG {e:Expr}{es:List Expr}{t:TG}{u:TGs}(h1:PG X e t)(h2:PGs X es u)
  (hs:(assignEach (e::es) X.env).map (·.2)=assign e X.env::(assignEach es X.env).map (·.2):=by rfl):PGs X (e::es) (gCons t u):=by
 intro pins s σ H vs us Q I r h
 obtain⟨v,vr,e1,h⟩:=h
 subst e1
 cases r with
 | cons r rr=>
  rw[hs]
  refine assignInOrder_cons (thn (h1 pins s σ H _ _ _ I r h) fun _ s1 ⟨σ1,H1,I1,q1⟩=>?_)
  exact h2 pins s1 σ1 H1 _ _ Q I1 rr q1
def gTup (K:W.Frag)(n:Nat)(t:TGs):TG:=fun v σ H Q=>∃ a xs,v= .ref a/\SqT K H a xs/\xs.length=n/\t xs σ H Q
theorem jTR {es:List Expr}{k:Nat}{t:TGs}{n:Nat}(hc:X.calm=true)(h:PGs X es t)
  (hn:(assignEach es X.env).length=n:=by rfl) (hst:(assignEach es X.env).findIdx? (·.1)=none:=by rfl):PG X (.Tuple es k pos) (gTup X.K n t):=by
 intro pins s σ H v u Q I r hw
 obtain⟨a,xs,e1,hq,hl,hw⟩:=hw
 subst e1
 cases r
 obtain⟨its,rv,ht,hz⟩:=I.tuple hq
 refine assign_Tuple_tuple (I.ok.hd hc) ht (by simp [hn,<- hl,rv.length]) hst fun h' hx=>?_
 have I1:Inv X pins σ H { s with heap:=h'} :=I.kept (t':=s.toks) fun b o e=>hx b o (aS (aA e)) e
 exact h pins _ σ H xs _ Q I1 (by simpa using rv) hw
def gSub (to ti:TE)(t:TSet):TG:=fun v σ H Q=>to σ H fun o H1=>ti σ H1 fun i H2=>t o i v H2 fun H3=>Q σ H3
theorem jTS {o i:Expr}{to ti:TE}{t:TSet}(ho:PE X o to)(hi:PE X i ti)(hs:PSet X t)
  (ha:∀ v,assign (.Subscript o i pos) X.env v=(do
   let ov <- holding [v] (eval o X.env)
   let iv <- holding [v,ov] (eval i X.env)
   standAt pos
   holding [v,ov,iv] (setItem ov iv v)
   release [v,ov,iv] []):=by intro _; rfl):PG X (.Subscript o i pos) (gSub to ti t):=by
 intro pins s σ H v u Q I r h
 rw[ha]
 refine ab (bJ (thn (ho pins s σ H _ I h) fun ov s1 ⟨x,H1,I1,r1,q1⟩=>?_))
 refine ab (bJ (thn (hi pins s1 σ H1 _ I1 q1) fun iv s2 ⟨y,H2,I2,r2,q2⟩=>?_))
 refine ab (eG (ab (bJ (thn (hs pins s2 σ H2 x y v ov iv u _ I2 r1 r2 r q2) fun _ s3 ⟨H3,I3,q3⟩=>?_))))
 exact wpAny_release ⟨σ,H3,I3,q3⟩
def tAsg (te:TE)(g:TG):TS:=fun D σ H=>te σ H fun x H1=>g x σ H1 D.nx
theorem jQ5 {tg e:Expr}{te:TE}{g:TG}(he:PE X e te)(hg:PG X tg g)(hs:swapsWithSole [tg] e pos.line X.env=pure false:=by rfl)(hw:swappedStores [tg] e X.env=pure none:=by rfl)
  (h1:(assignEach [tg] X.env).map (·.2)=[assign tg X.env]:=by rfl):PS X (.Assign [tg] e pos) (tAsg te g):=by
 intro pins s σ H D I h
 refine wpAny_Assign_stores (thn (he pins s σ H _ I h) fun v s1 ⟨x,H1,I1,r1,q1⟩=>?_) hs hw
 rw[h1]
 exact thn (hg pins s1 σ H1 x v _ I1 r1 q1) fun _ s2 q=>q
theorem qE {i:Nat}{x:Str}{e:Expr}{te:TE}{pos':Pos}(hN:X.N.Nodup)(hi:X.N[i]?=some x)(hx:Loc X.env.scope x)(he:PE X e te)(hs:swapsWith e (some (.Name x pos')) pos.line X.env=pure false:=by rfl)(hf:X.fn x=true\/X.env.scope.names.lookup x=some .local:=by first | exact .inl rfl | exact .inr rfl | assumption):
  PS X (.Assign [.Name x pos'] e pos) (tAsg te (kL i)):=by
 intro pins s σ H D I h
 refine wpAny_Assign_Name (thn (he pins s σ H _ I h) fun v s1 ⟨y,H1,I1,r1,q1⟩=>?_) hs
 exact jDD I1 hN hi hx r1 (fun s2 I2=>⟨_,H1,I2,q1⟩) hf
end
section
variable {X:Cx}{pos:Pos}
def jPW (c:TT)(tb:TS):TS:=fun D σ H=>∃ W:Nat->St->Hp->Prop,(∃ m,W m σ H)/\∀ m σ H,W m σ H->
 c σ H fun b H1=>if b=true then ∃ N:St->Hp->Prop,(∀ σ' H',N σ' H'->∃ m',m'<m/\W m' σ' H')/\tb { D with nx:=N,ct:=N,bk:=D.nx} σ H1 else D.nx σ H1
theorem jOA {c:Expr}{body:List Stmt}{tc:TT}{tb:TS}(hp:PassesOwn (model X.prog X.w) X.A X.env X.xe)(hc:PT X c tc)(hb:PSs X body tb):PS X (.While c body [] pos) (jPW tc tb):=by
 intro pins s σ H D I h
 obtain⟨W,⟨m0,w0⟩,turn⟩:=h
 refine wpAny_While (codeAny_whileLoop (fun n s'=>∃ σ' H',Inv X pins σ' H' s'/\W n σ' H') ?_ m0 ⟨σ,H,I,w0⟩)
 rintro n s1 ⟨σ1,H1,I1,w1⟩
 refine dM hp (thn (hc pins s1 σ1 H1 _ I1 (turn n σ1 H1 w1)) fun b s2 ⟨H2,I2,q2⟩=>?_)
 cases b with
 | true=>
  obtain⟨N,hN,q2⟩:=q2
  rw[aq rfl]
  refine dM hp (thn (hb pins s2 σ1 H2 _ I2 q2) fun f s3 q3=>?_)
  cases f with
  | next=>
   obtain⟨σ3,H3,I3,n3⟩:=q3
   obtain⟨m',hm,w3⟩:=hN σ3 H3 n3
   exact⟨m',hm,σ3,H3,I3,w3⟩
  | cont=>
   obtain⟨σ3,H3,I3,n3⟩:=q3
   obtain⟨m',hm,w3⟩:=hN σ3 H3 n3
   exact⟨m',hm,σ3,H3,I3,w3⟩
  | brk=>exact q3
  | ret v=>exact q3
 | false=>
  rw[am aj]
  exact gy ⟨σ1,H2,I2,q2⟩
end
structure It where
 go:Nat->Hp->Prop
 yld:Nat->Hp->V->Hp->Prop
 stop:Nat->Hp->Prop
def FpOk (X:Cx)(pins:List (Addr×Obj))(H:Hp)(b:Addr):Prop:=
 H b=none/\b≠X.env.locals/\b∉X.fs/\(b∈X.ex\/X.s₀.heap.objs.size<=b)/\(∀ x c,X.env.cells.lookup x=some c->c≠b)/\∀ p∈X.pn++pins,p.1≠b
theorem Inv.fpOk {X:Cx}{pins:List (Addr×Obj)}{σ:St}{H H':Hp}{s:Shared}{b:Addr}(I:Inv X pins σ H s)(hb:s.heap.objs.size<=b)(hn:H' b=none):FpOk X pins H' b:=by
 refine⟨hn,dD (bf I.lt hb),I.nofs hb, .inr (bb I.sz hb),fun x c e z=>?_,fun p hp z=>?_⟩
 ·obtain⟨v,q⟩:=I.cell x c e
  exact absurd (bf q.lt (by rw[z]; exact hb)) (cO _)
 ·exact absurd (bf (aA (I.pin p hp).1) (by rw[z]; exact hb)) (cO _)
structure Turn (P:Program)(w:World)(K:W.Frag)(tg:Expr)(J:It)(fp:List Addr)(it:Addr)(tn:Nat->Heap->Prop):Prop where
 mem:it∈fp
 obj:∀ i h,tn i h->∀ b∈fp,∃ o,h.get? b=some o/\∀ v,o.data≠ .cell v
 keep:∀ i h h',tn i h->(∀ b∈fp,∀ o,h.get? b=some o->h'.get? b=some o)->tn i h'
 item:∀ (X:Cx),X.prog=P->X.w=w->X.K=K->X.calm=true->∀ (i:Nat) (pins:List (Addr×Obj)) (s:Shared) (σ:St) (H:Hp) (E:Value->Shared->Prop),Inv X pins σ H s->(∀ b∈fp,FpOk X pins H b)->tn i s.heap->J.go i H->
  wpAny (model P w) X.A (pyNext (.ref it)) (fun r s1=>∃ u,r=some u/\
   wpAny (model P w) X.A (letOwnedTupleGo tg (.ref it) u) (fun _ s2=>∃ x H',Inv X pins σ H' s2/\RelV x u/\J.yld i H x H'/\tn (i+1) s2.heap/\∀ b∈fp,H' b=none) E s1) E s
 done:∀ (X:Cx),X.prog=P->X.w=w->X.K=K->X.calm=true->∀ (i:Nat) (pins:List (Addr×Obj)) (s:Shared) (σ:St) (H:Hp) (E:Value->Shared->Prop),Inv X pins σ H s->(∀ b∈fp,FpOk X pins H b)->tn i s.heap->J.stop i H->
  wpAny (model P w) X.A (pyNext (.ref it)) (fun r s1=>r=none/\Inv X pins σ H s1) E s
 self:∀ (A:Around) (i:Nat) (s:Shared) (Q:Value->Shared->Prop) (E:Value->Shared->Prop),tn i s.heap->Q (.ref it) s->wpAny (model P w) A (pyIter (.ref it)) Q E s
abbrev TI:=St->Hp->(It->Hp->Prop)->Prop
def PIE (X:Cx)(pins:List (Addr×Obj))(σ:St)(tg:Expr)(R:It->Hp->Prop)(itv:Value)(s2:Shared):Prop:=
 ∃ (it:Addr) (fp:List Addr) (tn:Nat->Heap->Prop) (J:It) (H':Hp),itv= .ref it/\Inv X pins σ H' s2/\Turn X.prog X.w X.K tg J fp it tn/\tn 0 s2.heap/\(∀ b∈fp,FpOk X pins H' b)/\R J H'
def PI (X:Cx)(tg iter:Expr)(wi:TI):Prop:=
 ∀ (pins:List (Addr×Obj)) (s:Shared) (σ:St) (H:Hp) (R:It->Hp->Prop),Inv X pins σ H s->wi σ H R->
  wpAny (model X.prog X.w) X.A (eval iter X.env) (fun v s1=>wpAny (model X.prog X.w) X.A (pyIter v) (PIE X pins σ tg R) X.xe s1) X.xe s
theorem go_of {M:Model}{A:Around}{E:Value->Shared->Prop}{s:Shared}{tg:Expr}{it:Addr}{u:Value}{o:Obj}{n:String}{vs:Array Value}{Q:Unit->Shared->Prop}(ho:s.heap.get? it=some o)(hc:o.cls= .type n)(hd:o.data= .fields vs)
  (hn: ["enumerate","zip","dict_itemiterator","dict_reverseitemiterator","odict_iterator","itertools.zip_longest","itertools.pairwise"].contains n=false) (hQ:Q () s):wpAny M A (letOwnedTupleGo tg (.ref it) u) Q E s:=by
 unfold letOwnedTupleGo
 cases tg <;> first
  | exact ah hQ
  | (cases u <;> first
    | exact ah hQ
    | (refine ab (gd ho ?_)
       rw [hc, hd]
       show wpAny M A (if (["enumerate", "zip", "dict_itemiterator", "dict_reverseitemiterator", "odict_iterator", "itertools.zip_longest", "itertools.pairwise"].contains n && vs[0]? == some (rawInt _)) = true then _ else _) Q E s
       rw [am (by intro h; rw [hn, fO] at h; cases h)]
       exact ah hQ))
def Itl (K:W.Frag)(a:Addr):It:=
 ⟨fun i H=>∃ xs x,SqL K H a xs/\xs[i]?=some x,fun i H x H'=>H'=H/\∀ xs,SqL K H a xs->xs[i]?=some x,fun i H=>∃ xs,SqL K H a xs/\xs.length<=i⟩
def Itt (K:W.Frag)(a:Addr):It:=
 ⟨fun i H=>∃ xs x,SqT K H a xs/\xs[i]?=some x,fun i H x H'=>H'=H/\∀ xs,SqT K H a xs->xs[i]?=some x,fun i H=>∃ xs,SqT K H a xs/\xs.length<=i⟩
def Itr (lo:Int)(n:Nat):It:=⟨fun i _=>i<n,fun i H x H'=>H'=H/\x= .int (lo+i),fun i _=>n<=i⟩
theorem jL1 {P:Program}{w:World}{K:W.Frag}{tg:Expr}(a it:Addr):Turn P w K tg (Itl K a) [it] it (fun i h=>h.IsListIter it a i) where
 mem:=by simp
 obj:=fun i h st b hb=>by
  have e:b=it:=by simpa using hb
  subst e
  obtain⟨o,e,c,d⟩:=st
  exact⟨o,e,fun v z=>by rw[d] at z; cases z⟩
 keep:=fun i h h' st k=>st.at fun o e=>k it (by simp) o e
 item:=by
  intro X hP hw hK hc i pins s σ H E I hf st hg
  subst hP hw hK
  obtain⟨xs,x,hq,hx⟩:=hg
  obtain⟨its,rv,p,hz⟩:=I.list hq
  obtain⟨u,hu,ru⟩:=rv.get hx
  obtain⟨f0,f1,f2,f3,f4,f5⟩:=hf it (by simp)
  refine wpAny_pyNext_list_item st p.isList (x:=u) (by simpa using hu) fun h' st' sb=>?_
  have I1:Inv X pins σ H { s with heap:=h'} :=I.turned (t':=s.toks) (fun b o hb e=>(sb.2 b hb).trans e) f0 f1 f3 f4 f5
  obtain⟨o,e,c,d⟩:=id st'
  exact⟨u,rfl,go_of (s:= { s with heap:=h'}) e c d (by decide) ⟨x,H,I1,ru,⟨rfl,fun ys hy=>by rw[I.list_inj hy hq]; exact hx⟩,st',fun b hb=>(hf b hb).1⟩⟩
 done:=by
  intro X hP hw hK hc i pins s σ H E I hf st hg
  subst hP hw hK
  obtain⟨xs,hq,hx⟩:=hg
  obtain⟨its,rv,p,hz⟩:=I.list hq
  obtain⟨f0,f1,f2,f3,f4,f5⟩:=hf it (by simp)
  have hl:=rv.length
  exact wpAny_pyNext_list_end (I.ok.hd hc) st p.isList (by simp; omega) fun h' eb=>⟨rfl,I.turned (t':=s.toks) (fun b o hb e=>eb b o hb e) f0 f1 f3 f4 f5⟩
 self:=fun _ _ _ _ _ st h=>wpAny_pyIter_listiter st h
theorem jK2 {P:Program}{w:World}{K:W.Frag}{tg:Expr}(a it:Addr):Turn P w K tg (Itt K a) [it] it (fun i h=>h.IsTupleIter it a i) where
 mem:=by simp
 obj:=fun i h st b hb=>by
  have e:b=it:=by simpa using hb
  subst e
  obtain⟨o,e,c,d⟩:=st
  exact⟨o,e,fun v z=>by rw[d] at z; cases z⟩
 keep:=fun i h h' st k=>st.at fun o e=>k it (by simp) o e
 item:=by
  intro X hP hw hK hc i pins s σ H E I hf st hg
  subst hP hw hK
  obtain⟨xs,x,hq,hx⟩:=hg
  obtain⟨its,rv,p,hz⟩:=I.tuple hq
  obtain⟨u,hu,ru⟩:=rv.get hx
  obtain⟨f0,f1,f2,f3,f4,f5⟩:=hf it (by simp)
  refine wpAny_pyNext_tuple_item st (show s.heap.IsTuple a its.toArray from p) (x:=u) (by simpa using hu) fun h' st' sb=>?_
  have I1:Inv X pins σ H { s with heap:=h'} :=I.turned (t':=s.toks) (fun b o hb e=>(sb.2 b hb).trans e) f0 f1 f3 f4 f5
  obtain⟨o,e,c,d⟩:=id st'
  exact⟨u,rfl,go_of (s:= { s with heap:=h'}) e c d (by decide) ⟨x,H,I1,ru,⟨rfl,fun ys hy=>by rw[I.tuple_inj hy hq]; exact hx⟩,st',fun b hb=>(hf b hb).1⟩⟩
 done:=by
  intro X hP hw hK hc i pins s σ H E I hf st hg
  subst hP hw hK
  obtain⟨xs,hq,hx⟩:=hg
  obtain⟨its,rv,p,hz⟩:=I.tuple hq
  obtain⟨f0,f1,f2,f3,f4,f5⟩:=hf it (by simp)
  have hl:=rv.length
  exact wpAny_pyNext_tuple_end (I.ok.hd hc) st (show s.heap.IsTuple a its.toArray from p) (by simp; omega) fun h' eb=>⟨rfl,I.turned (t':=s.toks) (fun b o hb e=>eb b o hb e) f0 f1 f3 f4 f5⟩
 self:=fun _ _ _ _ _ st h=>wpAny_pyIter_tupleiter st h
theorem jK3 {P:Program}{w:World}{K:W.Frag}{tg:Expr}(it:Addr)(lo:Int)(n:Nat):Turn P w K tg (Itr lo n) [it] it (fun i h=>IsRangeIter h it (lo+(i:Nat)*1) ((n:Int) - (i:Nat)) 1) where
 mem:=by simp
 obj:=fun i h st b hb=>by
  have e:b=it:=by simpa using hb
  subst e
  exact⟨_,st,fun v z=>by
   have z':Data.fields _=Data.cell v:=z
   cases z'⟩
 keep:=fun i h h' st k=>k it (by simp) _ st
 item:=by
  intro X hP hw hK hc i pins s σ H E I hf st hg
  subst hP hw hK
  obtain⟨f0,f1,f2,f3,f4,f5⟩:=hf it (by simp)
  have W:=Walks.range (prog:=X.prog) (w:=X.w) (I.ok.hd hc) it lo 1 n
  refine W.item i s _ _ hg st fun v h' tk hv st' kk=>?_
  obtain⟨t,rfl⟩:=hv
  have I1:Inv X pins σ H { s with heap:=h',toks:=tk} :=I.turned (fun b o hb e=>kk b o (by simpa using hb) e) f0 f1 f3 f4 f5
  refine⟨_,rfl,go_of (s:= { s with heap:=h',toks:=tk}) (n:= "range_iterator") st' rfl rfl (by decide) ⟨.int (lo+i),H,I1,⟨t,?_⟩,⟨rfl,rfl⟩,st',fun b hb=>(hf b hb).1⟩⟩
  rw[Int.mul_one]
 done:=by
  intro X hP hw hK hc i pins s σ H E I hf st hg
  subst hP hw hK
  obtain⟨f0,f1,f2,f3,f4,f5⟩:=hf it (by simp)
  exact wpAny_pyNext_range_end (I.ok.hd hc) st (by have:n<=i:=hg; omega) fun h' eb=>⟨rfl,I.turned (t':=s.toks) (fun b o hb e=>eb b o hb e) f0 f1 f3 f4 f5⟩
 self:=fun _ _ _ _ _ st h=>wpAny_pyIter_rangeiter st h
end L2
namespace L2
open PySem PySem.Spec PyProof.Rows
section
variable {X:Cx}{tg:Expr}
def iList (K:W.Frag)(tl:TE):TI:=fun σ H R=>tl σ H fun x H1=>∃ a,x= .ref a/\(∃ xs,SqL K H1 a xs)/\R (Itl K a) H1
def iTup (K:W.Frag)(tl:TE):TI:=fun σ H R=>tl σ H fun x H1=>∃ a,x= .ref a/\(∃ xs,SqT K H1 a xs)/\R (Itt K a) H1
theorem jRH {l:Expr}{tl:TE}(hl:PE X l tl):PI X tg l (iList X.K tl):=by
 intro pins s σ H R I h
 refine thn (hl pins s σ H _ I h) fun v s1 ⟨x,H1,I1,r1,q1⟩=>?_
 obtain⟨a,e,⟨xs,hq⟩,q⟩:=q1
 subst e
 cases r1
 obtain⟨its,rv,p,hz⟩:=I1.list hq
 refine cP p.isList ?_
 refine⟨s1.heap.objs.size,[s1.heap.objs.size],_,_,H1,rfl,I1.kept (t':=s1.toks) fun b o e=>af _ e,jL1 a _,⟨_,ax _ rfl,rfl,rfl⟩,fun b hb=>?_,q⟩
 have e:b=s1.heap.objs.size:=by simpa using hb
 subst e
 exact I1.fpOk (ao _) (I1.hok.fresh (ao _))
theorem jTQ {l:Expr}{tl:TE}(hl:PE X l tl):PI X tg l (iTup X.K tl):=by
 intro pins s σ H R I h
 refine thn (hl pins s σ H _ I h) fun v s1 ⟨x,H1,I1,r1,q1⟩=>?_
 obtain⟨a,e,⟨xs,hq⟩,q⟩:=q1
 subst e
 cases r1
 obtain⟨its,rv,p,hz⟩:=I1.tuple hq
 refine wpAny_pyIter_tuple (show s1.heap.IsTuple a its.toArray from p) ?_
 refine⟨s1.heap.objs.size,[s1.heap.objs.size],_,_,H1,rfl,I1.kept (t':=s1.toks) fun b o e=>af _ e,jK2 a _,⟨_,ax _ rfl,rfl,rfl⟩,fun b hb=>?_,q⟩
 have e:b=s1.heap.objs.size:=by simpa using hb
 subst e
 exact I1.fpOk (ao _) (I1.hok.fresh (ao _))
theorem jJ0 {pins:List (Addr×Obj)}{σ:St}{H:Hp}{s:Shared}{R:It->Hp->Prop}{E:Value->Shared->Prop}{lo hi:Int}{t u v:Tok}{tk:Nat}(I:Inv X pins σ H s)(h1: -(2 ^ 62)<=lo)(h2:lo<2 ^ 62)(h3: -(2 ^ 62)<=hi)(h4:hi<2 ^ 62)
  (q:R (Itr lo (hi - lo).toNat) H):wpAny (model X.prog X.w) X.A (pyIter (.ref s.heap.objs.size)) (PIE X pins σ tg R) E { s with heap:=s.heap.push { cls:= .type "range",data:= .fields #[.int lo t, .int hi u, .int 1 v]},toks:=tk} :=by
 refine wpAny_pyIter_range (IsRange.new ..) (small_one h1 h2 h3 h4) ?_
 have I1:Inv X pins σ H { s with heap:=s.heap.push { cls:= .type "range",data:= .fields #[.int lo t, .int hi u, .int 1 v]},toks:=tk} :=I.kept fun b o e=>af _ e
 refine⟨(s.heap.push { cls:= .type "range",data:= .fields #[.int lo t, .int hi u, .int 1 v]}).objs.size,[(s.heap.push { cls:= .type "range",data:= .fields #[.int lo t, .int hi u, .int 1 v]}).objs.size],_,_,H,rfl,
  I1.kept (t':=tk) fun b o e=>af _ e,jK3 _ lo (hi - lo).toNat,?_,fun b hb=>?_,q⟩
 ·have e1:lo+((0:Nat):Int)*1=lo:=by simp
  have e2:(((hi - lo).toNat:Nat):Int) - ((0:Nat):Int)=Builtin.Range.rangeSize lo hi 1:=by rw[rangeSize_one]; split <;> omega
  show IsRangeIter _ _ (lo+((0:Nat):Int)*1) ((((hi - lo).toNat:Nat):Int) - ((0:Nat):Int)) 1
  rw[e1,e2]
  exact ax _ rfl
 ·have e:b=(s.heap.push { cls:= .type "range",data:= .fields #[.int lo t, .int hi u, .int 1 v]}).objs.size:=by simpa using hb
  subst e
  exact I1.fpOk (ao _) (I1.hok.fresh (ao _))
def iRng1 (ta:TA):TI:=fun σ H R=>ta σ H fun vs H1=>∃ j:Int,vs=[.int j]/\ -(2 ^ 62)<=j/\j<2 ^ 62/\R (Itr 0 j.toNat) H1
def iRng2 (ta:TA):TI:=fun σ H R=>ta σ H fun vs H1=>∃ i j:Int,vs=[.int i, .int j]/\(-(2 ^ 62)<=i/\i<2 ^ 62/\ -(2 ^ 62)<=j/\j<2 ^ 62)/\R (Itr i (j - i).toNat) H1
theorem jC9 {a:Expr}{ta:TA}{p pos:Pos}(hg:Gl X "range")(hm:X.mg "range" =none)(ha:PA X [a] ta)(hs:starEach [a] X.env=[(false,eval a X.env)]:=by rfl):PI X tg (.Call (.Name "range" p) [a] [] pos) (iRng1 ta):=by
 intro pins s σ H R I h
 refine Call_ (jE7 I hg hm boot_range (dE (thn (ha pos pins s σ H _ I h) fun us s1 ⟨vs,H1,I1,r1,q1⟩=>?_) hs rfl))
 obtain⟨j,e,q1,q2,q⟩:=q1
 subst e
 cases r1 with
 | cons r rr=>
  cases rr
  obtain⟨t,rfl⟩:=r
  exact call_range_1 (jJ0 I1 (by omega) (by omega) q1 q2 (by simpa using q))
theorem jLS {a b:Expr}{ta:TA}{p pos:Pos}(hg:Gl X "range")(hm:X.mg "range" =none)(ha:PA X [a,b] ta)(hs:starEach [a,b] X.env=[(false,eval a X.env),(false,eval b X.env)]:=by rfl)(hs2:starEach [b] X.env=[(false,eval b X.env)]:=by rfl):
  PI X tg (.Call (.Name "range" p) [a,b] [] pos) (iRng2 ta):=by
 intro pins s σ H R I h
 refine Call_ (jE7 I hg hm boot_range (dE (thn (ha pos pins s σ H _ I h) fun us s1 ⟨vs,H1,I1,r1,q1⟩=>?_) (by rw[hs,hs2]) (by rw[hs2]; rfl)))
 obtain⟨i,j,e,⟨q1,q2,q3,q4⟩,q⟩:=q1
 subst e
 cases r1 with
 | cons r rr=>
  cases rr with
  | cons r' rr=>
   cases rr
   obtain⟨t,rfl⟩:=r
   obtain⟨t',rfl⟩:=r'
   exact call_range_2 (jJ0 I1 q1 q2 q3 q4 q)
def tFor (wi:TI)(g:TG)(tb:TS):TS:=fun D σ H=>wi σ H fun J H1=>∃ W:Nat->Nat->St->Hp->Prop,(∃ m,W 0 m σ H1)/\∀ i m σ H,W i m σ H->
 (J.stop i H/\D.nx σ H)\/(J.go i H/\∃ N:St->Hp->Prop,(∀ σ' H',N σ' H'->∃ m',m'<m/\W (i+1) m' σ' H')/\∀ x H',J.yld i H x H'->g x σ H' fun σ2 H2=>tb { D with nx:=N,ct:=N,bk:=D.nx} σ2 H2)
def jGI (fp:List Addr)(h:Heap):List (Addr×Obj):=fp.filterMap fun b=>(h.get? b).map fun o=>(b,o)
theorem jBH {fp:List Addr}{h:Heap}{b:Addr}{o:Obj}(hb:b∈fp)(e:h.get? b=some o):(b,o)∈jGI fp h:=i8.mpr ⟨b,hb,by rw[e]; rfl⟩
theorem jM4 {fp:List Addr}{h:Heap}{p:Addr×Obj}(hp:p∈jGI fp h):p.1∈fp/\h.get? p.1=some p.2:=by
 obtain⟨b,hb,e⟩:=i8.mp hp
 cases q:h.get? b with
 | none=>rw[q] at e; cases e
 | some o=>
  rw[q] at e
  have e':(b,o)=p:=bg e
  subst e'
  exact⟨hb,q⟩
theorem Inv.pinned {pins:List (Addr×Obj)}{σ:St}{H:Hp}{s:Shared}{fp:List Addr}(I:Inv X pins σ H s)(hf:∀ b∈fp,FpOk X pins H b)(ho:∀ b∈fp,∃ o,s.heap.get? b=some o/\∀ v,o.data≠ .cell v):Inv X (pins++jGI fp s.heap) σ H s:=
 I.pins_of fun p hp=>(aL.mp hp).elim (fun z=>I.pin p (aQ _ z)) fun z=>by
  obtain⟨hb,e⟩:=jM4 z
  obtain⟨f0,f1,f2,_⟩:=hf p.1 hb
  obtain⟨o,e',d⟩:=ho p.1 hb
  rw[e] at e'; cases e'
  exact⟨e,f0,f1,f2,d⟩
theorem Inv.unpinned {pins pl:List (Addr×Obj)}{σ:St}{H:Hp}{s:Shared}(I:Inv X (pins++pl) σ H s):Inv X pins σ H s:=I.pins_of fun p hp=>I.pin p (aQ _ (aX _ hp))
theorem jQ4 {iter:Expr}{body:List Stmt}{wi:TI}{g:TG}{tb:TS}{pos:Pos}(hp:PassesOwn (model X.prog X.w) X.A X.env X.xe)(hc:X.calm=true)(hi:PI X tg iter wi)(hg:PG X tg g)(hb:PSs X body tb)
  (hs:∀ x,foldedSetIterable iter X.env x=pure x:=by intro _; rfl):PS X (.For tg iter body [] pos) (tFor wi g tb):=by
 intro pins s σ H D I h
 refine wpAny_For (thn (hi pins s σ H _ I h) fun v s1 h1=>thn h1 fun itv s2 h2=>?_) hs
 obtain⟨it,fp,tn,J,H2,e,I2,T,st2,f2,W,⟨m0,w0⟩,turn⟩:=h2
 subst e
 have stat:∀ {H':Hp},(∀ b∈fp,H' b=none)->∀ b∈fp,FpOk X pins H' b:=fun hn b hb=>⟨hn b hb,(f2 b hb).2⟩
 refine codeAny_forLoop_any (fun n s'=>∃ i σ' H',Inv X pins σ' H' s'/\tn i s'.heap/\(∀ b∈fp,H' b=none)/\W i n σ' H') ?_ m0 ⟨0,σ,H2,I2,st2,fun b hb=>(f2 b hb).1,w0⟩
 rintro n s3 ⟨i,σ3,H3,I3,st3,fr3,w3⟩
 rcases turn i n σ3 H3 w3 with ⟨stop,qn⟩ | ⟨go,N,hN,step⟩
 ·refine dM hp (thn (T.done X rfl rfl rfl hc i pins s3 σ3 H3 X.xe I3 (stat fr3) st3 stop) fun r s4 ⟨hr,I4⟩=>?_)
  subst hr
  exact gy ⟨σ3,H3,I4,qn⟩
 ·refine dM hp (thn (T.item X rfl rfl rfl hc i pins s3 σ3 H3 X.xe I3 (stat fr3) st3 go) fun r s4 ⟨u,hr,h4⟩=>?_)
  subst hr
  refine dM hp (thn h4 fun _ s5 ⟨x,H5,I5,r5,y5,st5,fr5⟩=>?_)
  have I5':=I5.pinned (stat fr5) (T.obj _ _ st5)
  refine dM hp (thn (hg _ s5 σ3 H5 x u _ I5' r5 (step x H5 y5)) fun _ s6 ⟨σ6,H6,I6,q6⟩=>?_)
  refine dM hp (thn (hb _ s6 σ6 H6 _ I6 q6) fun f s7 q7=>?_)
  have again:∀ {σ7:St}{H7:Hp},Inv X (pins++jGI fp s5.heap) σ7 H7 s7->N σ7 H7->∃ m,m<n/\∃ i σ' H',Inv X pins σ' H' s7/\tn i s7.heap/\(∀ b∈fp,H' b=none)/\W i m σ' H':=fun {σ7 H7} I7 n7=>by
   obtain⟨m',hm,w7⟩:=hN σ7 H7 n7
   refine⟨m',hm,i+1,σ7,H7,I7.unpinned,T.keep _ _ _ st5 fun b hb o e=>(I7.pin (b,o) (aQ _ (aQ _ (jBH hb e)))).1,fun b hb=>?_,w7⟩
   obtain⟨o,e,d⟩:=T.obj _ _ st5 b hb
   exact(I7.pin (b,o) (aQ _ (aQ _ (jBH hb e)))).2.1
  cases f with
  | next=>obtain⟨σ7,H7,I7,n7⟩:=q7; exact again I7 n7
  | cont=>obtain⟨σ7,H7,I7,n7⟩:=q7; exact again I7 n7
  | brk=>obtain⟨σ7,H7,I7,q7⟩:=q7; exact⟨σ7,H7,I7.unpinned,q7⟩
  | ret v=>obtain⟨x7,σ7,H7,I7,r7,q7⟩:=q7; exact⟨x7,σ7,H7,I7.unpinned,r7,q7⟩
end
theorem jDK {K:W.Frag}{a:Addr}{xs:List V}{g:TG}{tb:TS}{D:Ends}{σ:St}{H:Hp}(Pv:Nat->St->Hp->Prop)(h0:Pv 0 σ H)(hl:∀ i σ H,i<=xs.length->Pv i σ H->SqL K H a xs)
  (hs:∀ i x σ H,xs[i]?=some x->Pv i σ H->g x σ H fun σ2 H2=>tb { D with nx:=Pv (i+1),ct:=Pv (i+1),bk:=D.nx} σ2 H2) (hd:∀ σ H,Pv xs.length σ H->D.nx σ H):
  ∃ W:Nat->Nat->St->Hp->Prop,(∃ m,W 0 m σ H)/\∀ i m σ H,W i m σ H->
   ((Itl K a).stop i H/\D.nx σ H)\/((Itl K a).go i H/\∃ N:St->Hp->Prop,(∀ σ' H',N σ' H'->∃ m',m'<m/\W (i+1) m' σ' H')/\∀ x H',(Itl K a).yld i H x H'->g x σ H' fun σ2 H2=>tb { D with nx:=N,ct:=N,bk:=D.nx} σ2 H2):=by
 refine⟨fun i m σ H=>m=xs.length - i/\i<=xs.length/\Pv i σ H,⟨xs.length,by simp,br _,h0⟩,?_⟩
 rintro i m σ H ⟨rfl,hi,p⟩
 have q:=hl i σ H hi p
 by_cases hlt:i<xs.length
 ·refine .inr ⟨⟨xs,xs[i],q,by simp [hlt]⟩,Pv (i+1),fun σ' H' p'=>⟨xs.length - (i+1),by omega,rfl,hlt,p'⟩,fun x H' y=>?_⟩
  obtain⟨e,y⟩:=y
  subst e
  exact hs i x σ _ (y xs q) p
 ·have e:i=xs.length:=by omega
  subst e
  exact .inl ⟨⟨xs,q,ao _⟩,hd σ H p⟩
theorem jST {K:W.Frag}{a:Addr}{xs:List V}{g:TG}{tb:TS}{D:Ends}{σ:St}{H:Hp}(Pv:Nat->St->Hp->Prop)(h0:Pv 0 σ H)(hl:∀ i σ H,i<=xs.length->Pv i σ H->SqT K H a xs)
  (hs:∀ i x σ H,xs[i]?=some x->Pv i σ H->g x σ H fun σ2 H2=>tb { D with nx:=Pv (i+1),ct:=Pv (i+1),bk:=D.nx} σ2 H2) (hd:∀ σ H,Pv xs.length σ H->D.nx σ H):
  ∃ W:Nat->Nat->St->Hp->Prop,(∃ m,W 0 m σ H)/\∀ i m σ H,W i m σ H->
   ((Itt K a).stop i H/\D.nx σ H)\/((Itt K a).go i H/\∃ N:St->Hp->Prop,(∀ σ' H',N σ' H'->∃ m',m'<m/\W (i+1) m' σ' H')/\∀ x H',(Itt K a).yld i H x H'->g x σ H' fun σ2 H2=>tb { D with nx:=N,ct:=N,bk:=D.nx} σ2 H2):=by
 refine⟨fun i m σ H=>m=xs.length - i/\i<=xs.length/\Pv i σ H,⟨xs.length,by simp,br _,h0⟩,?_⟩
 rintro i m σ H ⟨rfl,hi,p⟩
 have q:=hl i σ H hi p
 by_cases hlt:i<xs.length
 ·refine .inr ⟨⟨xs,xs[i],q,by simp [hlt]⟩,Pv (i+1),fun σ' H' p'=>⟨xs.length - (i+1),by omega,rfl,hlt,p'⟩,fun x H' y=>?_⟩
  obtain⟨e,y⟩:=y
  subst e
  exact hs i x σ _ (y xs q) p
 ·have e:i=xs.length:=by omega
  subst e
  exact .inl ⟨⟨xs,q,ao _⟩,hd σ H p⟩
theorem jBA {lo:Int}{n:Nat}{g:TG}{tb:TS}{D:Ends}{σ:St}{H:Hp}(Pv:Nat->St->Hp->Prop)(h0:Pv 0 σ H)
  (hs:∀ i σ H,i<n->Pv i σ H->g (.int (lo+i)) σ H fun σ2 H2=>tb { D with nx:=Pv (i+1),ct:=Pv (i+1),bk:=D.nx} σ2 H2) (hd:∀ σ H,Pv n σ H->D.nx σ H):
  ∃ W:Nat->Nat->St->Hp->Prop,(∃ m,W 0 m σ H)/\∀ i m σ H,W i m σ H->
   ((Itr lo n).stop i H/\D.nx σ H)\/((Itr lo n).go i H/\∃ N:St->Hp->Prop,(∀ σ' H',N σ' H'->∃ m',m'<m/\W (i+1) m' σ' H')/\∀ x H',(Itr lo n).yld i H x H'->g x σ H' fun σ2 H2=>tb { D with nx:=N,ct:=N,bk:=D.nx} σ2 H2):=by
 refine⟨fun i m σ H=>m=n - i/\i<=n/\Pv i σ H,⟨n,by simp,br _,h0⟩,?_⟩
 rintro i m σ H ⟨rfl,hi,p⟩
 by_cases hlt:i<n
 ·refine .inr ⟨hlt,Pv (i+1),fun σ' H' p'=>⟨n - (i+1),by omega,rfl,hlt,p'⟩,fun x H' y=>?_⟩
  obtain⟨e,y⟩:=y
  subst e y
  exact hs i σ _ hlt p
 ·have e:i=n:=by omega
  subst e
  exact .inl ⟨ao _,hd σ H p⟩
end L2
namespace L2
open PySem PySem.Spec PyProof.Rows
abbrev R2:=V->V->Hp->VK->Prop
def OpR (X:Cx)(f:Value->Value->Sem Value)(r:R2):Prop:=
 ∀ (pins:List (Addr×Obj)) (s:Shared) (σ:St) (H:Hp) (x y:V) (v u:Value) (Q:VK),Inv X pins σ H s->RelV x v->RelV y u->r x y H Q->
  wpAny (model X.prog X.w) X.A (f v u) (EP X pins σ Q) X.xe s
def UnR (X:Cx)(f:Value->Sem Value)(r:V->Hp->VK->Prop):Prop:=
 ∀ (pins:List (Addr×Obj)) (s:Shared) (σ:St) (H:Hp) (x:V) (v:Value) (Q:VK),Inv X pins σ H s->RelV x v->r x H Q->
  wpAny (model X.prog X.w) X.A (f v) (EP X pins σ Q) X.xe s
def yE (X:Cx)(f:Value)(r:List V->Hp->VK->Prop):Prop:=
 ∀ (pins:List (Addr×Obj)) (s:Shared) (σ:St) (H:Hp) (xs:List V) (us:List Value) (Q:VK),Inv X pins σ H s->Vals xs us->r xs H Q->
  wpAny (model X.prog X.w) X.A (call f us) (EP X pins σ Q) X.xe s
def tOp (r:R2)(ta tb:TE):TE:=fun σ H Q=>ta σ H fun x H1=>tb σ H1 fun y H2=>r x y H2 Q
def tUn (r:V->Hp->VK->Prop)(ta:TE):TE:=fun σ H Q=>ta σ H fun x H1=>r x H1 Q
def rI (C:Int->Int->Prop)(g:Int->Int->V):R2:=fun x y H Q=>∃ i j,x= .int i/\y= .int j/\C i j/\Q (g i j) H
def rI0 (g:Int->Int->V):R2:=fun x y H Q=>∃ i j,x= .int i/\y= .int j/\Q (g i j) H
def rU (g:Int->V):V->Hp->VK->Prop:=fun x H Q=>∃ i,x= .int i/\Q (g i) H
section
variable {X:Cx}{a b c:Expr}{ta tb tc:TE}{pos:Pos}
theorem binT (ha:PE X a ta)(hb:PE X b tb){pins:List (Addr×Obj)}{s:Shared}{σ:St}{H:Hp}{R:V->V->Hp->Prop}(I:Inv X pins σ H s)
  (h:ta σ H fun x H1=>tb σ H1 fun y H2=>R x y H2) {Q:Value->Shared->Prop}{f:Value->Value->Sem Value}
  (hf:∀ v u s2 x y H2,Inv X pins σ H2 s2->RelV x v->RelV y u->R x y H2->wpAny (model X.prog X.w) X.A (f v u) Q X.xe s2):
  wpAny (model X.prog X.w) X.A (eval a X.env) (fun v s₁=>wpAny (model X.prog X.w) X.A (eval b X.env) (fun u s₂=>wpAny (model X.prog X.w) X.A (f v u) Q X.xe s₂) X.xe s₁) X.xe s:=by
 refine thn (ha pins s σ H _ I h) fun v s1 ⟨x,H1,I1,r1,q1⟩=>?_
 refine thn (hb pins s1 σ H1 _ I1 q1) fun u s2 ⟨y,H2,I2,r2,q2⟩=>?_
 exact hf v u s2 x y H2 I2 r1 r2 q2
theorem kN {op:Operator}{r:R2}(ho:OpR X (binaryOp op) r)(ha:PE X a ta)(hb:PE X b tb):PE X (.BinOp a op b pos) (tOp r ta tb):=by
 intro pins s σ H Q I h
 exact wpAny_BinOp (binT ha hb I h fun v u s2 x y H2 I2 rx ry q=>ho pins s2 σ H2 x y v u Q I2 rx ry q)
theorem pe_un {op:UnaryOp}{r:V->Hp->VK->Prop}(ho:UnR X (unaryOp op) r)(ha:PE X a ta):PE X (.UnaryOp op a pos) (tUn r ta):=by
 intro pins s σ H Q I h
 exact UnaryOp_ (thn (ha pins s σ H _ I h) fun v s1 ⟨x,H1,I1,r1,q1⟩=>ho pins s1 σ H1 x v Q I1 r1 q1)
theorem opI {f:Value->Value->Sem Value}{C:Int->Int->Prop}{g:Int->Int->Int}
  (rule:∀ (i j:Int) (t u:Tok) (s:Shared) (Q:Value->Shared->Prop) (E:Value->Shared->Prop),C i j->Q (.int (g i j) s.toks) { s with toks:=s.toks+1} ->wpAny (model X.prog X.w) X.A (f (.int i t) (.int j u)) Q E s):
  OpR X f (rI C fun i j=> .int (g i j)):=by
 intro pins s σ H x y v u Q I rx ry h
 obtain⟨i,j,rfl,rfl,hc,q⟩:=h
 obtain⟨t,rfl⟩:=rx
 obtain⟨t',rfl⟩:=ry
 exact rule i j t t' s _ _ hc ⟨.int (g i j),H,I.tok _,⟨_,rfl⟩,q⟩
theorem opI0 {f:Value->Value->Sem Value}{g:Int->Int->Int}
  (rule:∀ (i j:Int) (t u:Tok) (s:Shared) (Q:Value->Shared->Prop) (E:Value->Shared->Prop),Q (.int (g i j) s.toks) { s with toks:=s.toks+1} ->wpAny (model X.prog X.w) X.A (f (.int i t) (.int j u)) Q E s):
  OpR X f (rI0 fun i j=> .int (g i j)):=by
 intro pins s σ H x y v u Q I rx ry h
 obtain⟨i,j,rfl,rfl,q⟩:=h
 obtain⟨t,rfl⟩:=rx
 obtain⟨t',rfl⟩:=ry
 exact rule i j t t' s _ _ ⟨.int (g i j),H,I.tok _,⟨_,rfl⟩,q⟩
theorem opB0 {f:Value->Value->Sem Value}{g:Int->Int->Bool}
  (rule:∀ (i j:Int) (t u:Tok) (s:Shared) (Q:Value->Shared->Prop) (E:Value->Shared->Prop),Q (.bool (g i j)) s->wpAny (model X.prog X.w) X.A (f (.int i t) (.int j u)) Q E s):
  OpR X f (rI0 fun i j=> .bl (g i j)):=by
 intro pins s σ H x y v u Q I rx ry h
 obtain⟨i,j,rfl,rfl,q⟩:=h
 obtain⟨t,rfl⟩:=rx
 obtain⟨t',rfl⟩:=ry
 exact rule i j t t' s _ _ ⟨.bl (g i j),H,I,rfl,q⟩
def CPow (i j:Int):Prop:=0<=j/\j<=1000000/\i.natAbs<2 ^ 64
def CMul (i j:Int):Prop:=(-(2 ^ 64)<i/\i<2 ^ 64)\/(-(2 ^ 64)<j/\j<2 ^ 64)
theorem CMul.ok {i j:Int}(h:CMul i j):IntMulOk i j:=by
 rcases h with ⟨h1,h2⟩ | ⟨h1,h2⟩
 ·exact .of_left (intBits_le_64 h1 h2)
 ·exact .of_right (intBits_le_64 h1 h2)
theorem jK1 (k:Nat):(0:Int)<=2 ^ k:=by
 rw[two_pow_cast]
 exact fo _
theorem y0:OpR X (binaryOp .Add) (rI0 fun i j=> .int (i+j)):=opI0 fun _ _ _ _ _ _ _ q=>add_int q
theorem jDW:OpR X (binaryOp .Sub) (rI0 fun i j=> .int (i - j)):=opI0 fun _ _ _ _ _ _ _ q=>sub_int q
theorem jDA:OpR X (binaryOp .Mult) (rI CMul fun i j=> .int (i*j)):=opI fun _ _ _ _ _ _ _ hc q=>mul_int q hc.ok
theorem jGN:OpR X (binaryOp .Mod) (rI (fun _ j=>0<j) fun i j=> .int (i % j)):=opI fun i j _ _ _ _ _ hc q=>by
 have h1:(0:Int)<j:=hc
 exact mod_int' (by omega) (by rw[Int.fmod_eq_emod_of_nonneg i (by omega)]; exact q)
theorem jLU:OpR X (binaryOp .Pow) (rI CPow fun i j=> .int (i ^ j.toNat)):=opI fun _ _ _ _ _ _ _ hc q=>pow_int_small hc.1 hc.2.1 hc.2.2 q
theorem jJ7:OpR X (binaryOp .LShift) (rI CPow fun i j=> .int (i*2 ^ j.toNat)):=opI fun _ _ _ _ _ _ _ hc q=>lshift_int_small hc.1 hc.2.1 hc.2.2 q
theorem jU2:OpR X (binaryOp .RShift) (rI (fun _ j=>0<=j) fun i j=> .int (i / 2 ^ j.toNat)):=opI fun i j _ _ _ _ _ hc q=>
 rshift_int hc (by rw[gH i (jK1 _)]; exact q)
theorem jLW:OpR X (binaryOp .BitAnd) (rI0 fun i j=> .int (Builtin.bitAnd i j)):=opI0 fun _ _ _ _ _ _ _ q=>and_int q
theorem op_or:OpR X (binaryOp .BitOr) (rI0 fun i j=> .int (Builtin.bitOr i j)):=opI0 fun _ _ _ _ _ _ _ q=>or_int q
theorem unI {f:Value->Sem Value}{g:Int->Int}
  (rule:∀ (i:Int) (t:Tok) (s:Shared) (Q:Value->Shared->Prop) (E:Value->Shared->Prop),Q (.int (g i) s.toks) { s with toks:=s.toks+1} ->wpAny (model X.prog X.w) X.A (f (.int i t)) Q E s):
  UnR X f (rU fun i=> .int (g i)):=by
 intro pins s σ H x v Q I rx h
 obtain⟨i,rfl,q⟩:=h
 obtain⟨t,rfl⟩:=rx
 exact rule i t s _ _ ⟨.int (g i),H,I.tok _,⟨_,rfl⟩,q⟩
theorem jPU:UnR X (unaryOp .USub) (rU fun i=> .int (-i)):=unI fun _ _ _ _ _ q=>neg_int q
theorem jT9:UnR X (unaryOp .Invert) (rU fun i=> .int (Builtin.bitNot i)):=unI fun _ _ _ _ _ q=>invert_int q
end
def scal:V->V->Bool
 | .non, .non=>true | .non, .int _=>true | .int _, .non=>true | .non, .bl _=>true | .bl _, .non=>true | .non, .str _=>true | .str _, .non=>true
 | .int _, .int _=>true | .bl _, .bl _=>true | .str _, .str _=>true | .byt _, .byt _=>true
 | .int _, .str _=>true | .str _, .int _=>true | .bl _, .str _=>true | .str _, .bl _=>true
 | _,_=>false
def rEq:R2:=fun x y H Q=>scal x y=true/\Q (.bl (decide (x=y))) H
def rNe:R2:=fun x y H Q=>scal x y=true/\Q (.bl (!decide (x=y))) H
theorem jEE {i j:Int} :decide (V.int i=V.int j)=(i==j):=by
 rw[bS]
 simp
theorem jQQ {i j:Bool} :decide (V.bl i=V.bl j)=(i==j):=by
 rw[bS]
 simp
theorem jNF {i j:Str} :decide (V.str i=V.str j)=(i==j):=by
 rw[bS]
 simp
theorem jNG {i j:Array UInt8} :decide (V.byt i=V.byt j)=(i.toList==j.toList):=by
 rw[bS]
 cases i
 cases j
 simp
section
variable {X:Cx}{a b c:Expr}{ta tb tc:TE}{pos:Pos}
theorem jY {pins:List (Addr×Obj)}{σ:St}{H:Hp}{s:Shared}{Q:VK}{k k':Bool}(I:Inv X pins σ H s)(q:Q (.bl k) H)(e:k=k'):EP X pins σ Q (.bool k') s:=by
 subst e
 exact⟨.bl k,H,I,rfl,q⟩
theorem qO:OpR X (compareOp .Eq) rEq:=by
 intro pins s σ H x y v u Q I rx ry h
 obtain⟨hs,q⟩:=h
 cases x with
 | non=>
  cases rx
  cases y with
  | non=>cases ry; exact PySem.EqNone.eq_none_none (jY I q (by simp))
  | bl j=>cases ry; exact PySem.EqNone.eq_none_bool (jY I q (by simp))
  | int j=>obtain⟨t',rfl⟩:=ry; exact PySem.EqNone.eq_none_int (jY I q (by simp))
  | str j=>obtain⟨t',rfl⟩:=ry; exact PySem.EqNone.eq_none_str (jY I q (by simp))
  | _=>exact absurd (show false=true from hs) aj
 | bl i=>
  cases rx
  cases y with
  | non=>cases ry; exact PySem.EqNone.eq_bool_none (jY I q (by simp))
  | bl j=>cases ry; exact eq_bool (jY I q jQQ)
  | str j=>obtain⟨t',rfl⟩:=ry; exact PySem.EqMixed.eq_bool_str (jY I q (by simp))
  | _=>exact absurd (show false=true from hs) aj
 | int i=>
  obtain⟨t,rfl⟩:=rx
  cases y with
  | non=>cases ry; exact PySem.EqNone.eq_int_none (jY I q (by simp))
  | int j=>obtain⟨t',rfl⟩:=ry; exact eq_int (jY I q jEE)
  | str j=>obtain⟨t',rfl⟩:=ry; exact PySem.EqMixed.eq_int_str (jY I q (by simp))
  | _=>exact absurd (show false=true from hs) aj
 | str i=>
  obtain⟨t,rfl⟩:=rx
  cases y with
  | non=>cases ry; exact PySem.EqNone.eq_str_none (jY I q (by simp))
  | bl j=>cases ry; exact PySem.EqMixed.eq_str_bool (jY I q (by simp))
  | int j=>obtain⟨t',rfl⟩:=ry; exact PySem.EqMixed.eq_str_int (jY I q (by simp))
  | str j=>obtain⟨t',rfl⟩:=ry; exact eq_str (jY I q jNF)
  | _=>exact absurd (show false=true from hs) aj
 | byt i=>
  obtain⟨t,rfl⟩:=rx
  cases y with
  | byt j=>obtain⟨t',rfl⟩:=ry; exact PySem.W.eq_bytes (jY I q jNG)
  | _=>exact absurd (show false=true from hs) aj
 | _=>cases y <;> exact absurd (show false=true from hs) aj
theorem op_ne:OpR X (compareOp .NotEq) rNe:=by
 intro pins s σ H x y v u Q I rx ry h
 obtain⟨hs,q⟩:=h
 cases x with
 | non=>
  cases rx
  cases y with
  | non=>cases ry; exact PySem.EqNone.ne_none_none (jY I q (by simp))
  | bl j=>cases ry; exact PySem.EqNone.ne_none_bool (jY I q (by simp))
  | int j=>obtain⟨t',rfl⟩:=ry; exact PySem.EqNone.ne_none_int (jY I q (by simp))
  | str j=>obtain⟨t',rfl⟩:=ry; exact PySem.EqNone.ne_none_str (jY I q (by simp))
  | _=>exact absurd (show false=true from hs) aj
 | bl i=>
  cases rx
  cases y with
  | non=>cases ry; exact PySem.EqNone.ne_bool_none (jY I q (by simp))
  | bl j=>cases ry; exact ne_bool (jY I q (bN not jQQ))
  | str j=>obtain⟨t',rfl⟩:=ry; exact PySem.EqMixed.ne_bool_str (jY I q (by simp))
  | _=>exact absurd (show false=true from hs) aj
 | int i=>
  obtain⟨t,rfl⟩:=rx
  cases y with
  | non=>cases ry; exact PySem.EqNone.ne_int_none (jY I q (by simp))
  | int j=>obtain⟨t',rfl⟩:=ry; exact ne_int (jY I q (bN not jEE))
  | str j=>obtain⟨t',rfl⟩:=ry; exact PySem.EqMixed.ne_int_str (jY I q (by simp))
  | _=>exact absurd (show false=true from hs) aj
 | str i=>
  obtain⟨t,rfl⟩:=rx
  cases y with
  | non=>cases ry; exact PySem.EqNone.ne_str_none (jY I q (by simp))
  | bl j=>cases ry; exact PySem.EqMixed.ne_str_bool (jY I q (by simp))
  | int j=>obtain⟨t',rfl⟩:=ry; exact PySem.EqMixed.ne_str_int (jY I q (by simp))
  | str j=>obtain⟨t',rfl⟩:=ry; exact ne_str (jY I q (bN not jNF))
  | _=>exact absurd (show false=true from hs) aj
 | byt i=>
  obtain⟨t,rfl⟩:=rx
  cases y with
  | byt j=>obtain⟨t',rfl⟩:=ry; exact PySem.W.ne_bytes (jY I q (bN not jNG))
  | _=>exact absurd (show false=true from hs) aj
 | _=>cases y <;> exact absurd (show false=true from hs) aj
theorem op_lt:OpR X (compareOp .Lt) (rI0 fun i j=> .bl (decide (i<j))):=opB0 fun _ _ _ _ _ _ _ q=>lt_int q
theorem op_gt:OpR X (compareOp .Gt) (rI0 fun i j=> .bl (decide (j<i))):=opB0 fun _ _ _ _ _ _ _ q=>gt_int q
theorem op_ge:OpR X (compareOp .GtE) (rI0 fun i j=> .bl (decide (j<=i))):=opB0 fun _ _ _ _ _ _ _ q=>ge_int q
theorem jLV:OpR X (compareOp .Is) (fun x y H Q=>y= .non/\Q (.bl (decide (x= .non))) H):=by
 intro pins s σ H x y v u Q I rx ry h
 obtain⟨rfl,q⟩:=h
 cases ry
 refine is_none_gen (jY I q ?_)
 cases x <;> first
  | (cases rx; rfl)
  | (obtain⟨t,rfl⟩:=rx; rfl)
theorem jRS:OpR X (compareOp .IsNot) (fun x y H Q=>y= .non/\Q (.bl (!decide (x= .non))) H):=by
 intro pins s σ H x y v u Q I rx ry h
 obtain⟨rfl,q⟩:=h
 cases ry
 refine isnot_none_gen (jY I q ?_)
 cases x <;> first
  | (cases rx; rfl)
  | (obtain⟨t,rfl⟩:=rx; rfl)
theorem jV (b:Expr){op:CmpOp}(h:op≠ .In:=by decide)(h2:op≠ .NotIn:=by decide):behindInMarks op b=false:=by
 have e1:(op==CmpOp.In)=false:=by cases op <;> first | rfl | exact absurd rfl h
 have e2:(op==CmpOp.NotIn)=false:=by cases op <;> first | rfl | exact absurd rfl h2
 cases b <;> simp [behindInMarks,e1,e2]
theorem jRO {op:CmpOp}{r:R2}(ho:OpR X (compareOp op) r)(ha:PE X a ta)(hb:PE X b tb)(hm:behindInMarks op b=false):PE X (.Compare a [op] [b] pos) (tOp r ta tb):=by
 intro pins s σ H Q I h
 exact wpAny_Compare1 (binT ha hb I h fun v u s2 x y H2 I2 rx ry q=>ho pins s2 σ H2 x y v u Q I2 rx ry q) hm
def tTest (t:TE):TT:=fun σ H Q=>t σ H fun x H'=>∃ k,x= .bl k/\Q k H'
theorem jDS {op:CmpOp}{r:R2}(ho:OpR X (compareOp op) r)(ha:PE X a ta)(hb:PE X b tb)(hm:behindInMarks op b=false):PT X (.Compare a [op] [b] pos) (tTest (tOp r ta tb)):=by
 intro pins s σ H Q I h
 refine wpAny_isTrue_Compare1 (thn (ha pins s σ H _ I h) fun v s1 ⟨x,H1,I1,r1,q1⟩=>thn (hb pins s1 σ H1 _ I1 q1) fun u s2 ⟨y,H2,I2,r2,q2⟩=>
  thn (ho pins s2 σ H2 x y v u _ I2 r1 r2 q2) fun c s3 ⟨z,H3,I3,r3,k,e,q3⟩=>?_) hm
 subst e
 cases r3
 exact dv ⟨H3,I3,q3⟩
theorem jGU:(sizeLine:Nat)<2 ^ 63:=by rw[eB]; decide
theorem vals1 {x:V}{us:List Value}(r:Vals [x] us):∃ u,us=[u]/\RelV x u:=by
 cases r with
 | cons r1 r2=>cases r2; exact⟨_,rfl,r1⟩
theorem jNS:yE X (.type "int") (fun xs H Q=>(∃ i,xs=[.int i]/\Q (.int i) H)\/∃ k,xs=[.bl k]/\Q (.int (if k then 1 else 0)) H):=by
 intro pins s σ H xs us Q I r h
 rcases h with ⟨i,rfl,q⟩ | ⟨k,rfl,q⟩
 ·obtain⟨u,rfl,t,rfl⟩:=vals1 r
  exact call_int_int ⟨.int i,H,I,⟨_,rfl⟩,q⟩
 ·obtain⟨u,rfl,r1⟩:=vals1 r
  cases r1
  exact call_int_bool ⟨.int (if k then 1 else 0),H,I.tok _,⟨_,rfl⟩,q⟩
end
end L2
namespace L2
open PySem PySem.Spec PyProof.Rows
structure ObjM (h:Heap)(x dx C:Addr)(mA:Str->Option Value):Prop where
 obj:h.get? x=some (instObj C dx)
 ns:h.Ns1 dx mA
 ne:dx≠x
theorem jMI {h:Heap}{dx:Addr}{mA:Str->Option Value}(n:h.Ns1 dx mA):∃ od,h.get? dx=some od/\∀ name,lookIn name od=some (mA name):=by
 obtain⟨o,es,ep,ho,hd,hk,_,hm⟩:=n
 refine⟨o,ho,fun name=>?_⟩
 have e:=hm name
 unfold nsFind findBy at e
 rw[<- Array.find?_toList] at e
 unfold lookIn
 rw[hd]
 dsimp only
 split
 ·rename_i y q
  rw[q] at e
  exact bN some e
 ·rename_i q
  rw[q] at e
  have a:es.toList.any (·.refKey)=false:=by
   rw[gW]
   intro y hy
   obtain⟨z,t,hkey⟩:=hk y (Array.mem_toList_iff.mp hy)
   simp [DictEntry.refKey,hkey]
  have a':¬ es.toList.any (·.refKey)=true:=by rw[a]; exact aj
  rw[am a']
  exact bN some e
theorem ObjM.look {h:Heap}{x dx C:Addr}{mA:Str->Option Value}(I:ObjM h x dx C mA):∃ od,PySem.W.InstAt h x (instObj C dx) C (some od)/\∀ name,lookIn name od=some (mA name):=
 let ⟨od,ho,hl⟩:=jMI I.ns
 ⟨od,⟨I.obj,rfl,rfl,ho⟩,hl⟩
section
variable {prog:Program}{w:World}{A:Around}{E:Value->Shared->Prop}{s:Shared}{K:W.Frag}{x dx C f:Addr}{mA:Str->Option Value}{name:Str}{v:Value}
end
theorem RelO.some_of {v:V}{o:Option Value}(r:RelO (some v) o):∃ u,o=some u/\RelV v u:=by
 cases o with
 | none=>exact(show False from r).elim
 | some u=>exact⟨u,rfl,r⟩
section
variable {P:Program}{w:World}{H H':Hp}{h h':Heap}{a C dx:Addr}{fs fs':List (Str×V)}
theorem jSL (hok:HOk P w H h)(e:H a=some (.ins C dx fs)):∃ mA,ObjM h a dx C mA/\(∀ f,RelO (fs.lookup f) (mA f))/\PySem.Within mA (fs.map (·.1))/\fs.length<=1000/\H dx=some (.own a):=by
 obtain⟨d,z,ne,ob,mA,n,r,q⟩:=(show ObjOk P w H h a (.ins C dx fs) from hok a _ e)
 exact⟨mA,⟨ob,n,ne⟩,r,q,z,d⟩
end
structure Cls (K:W.Frag)(C:Addr):Prop where
 pg:plainGet K C Str.empty=true
 hd:PySem.W.hasDictIn K C=true
 po:PySem.W.plainOver K C=true
 sa:findIn K (.ref C) "__setattr__" =some (some (.builtin "object.__setattr__"))
theorem Cls.get {K:W.Frag}{C:Addr}(c:Cls K C)(f:Str):plainGet K C f=true:=c.pg
section
variable {X:Cx}{pins:List (Addr×Obj)}{σ:St}{H:Hp}{s:Shared}{a C dx:Addr}{fs:List (Str×V)}{f:Str}{v:V}{A:Around}{E:Value->Shared->Prop}
end
section
variable {X:Cx}{o e value:Expr}{f:Str}{pos pos' tpos:Pos}{ta tv:TE}
end
section
variable {X:Cx}{pins:List (Addr×Obj)}{σ:St}{H:Hp}{s:Shared}{A:Around}{E:Value->Shared->Prop}{Q:Value->Shared->Prop}{c:Value}{b:Bool}
inductive TyOf (K:W.Frag) (H:Hp):V->Value->Prop where
 | non:TyOf K H .non (.type "NoneType")
 | bl (x:Bool):TyOf K H (.bl x) (.type "bool")
 | int (i:Int):TyOf K H (.int i) (.type "int")
 | str (x:Str):TyOf K H (.str x) (.type "str")
 | flt (x:UInt64):TyOf K H (.flt x) (.type "float")
 | lst {a:Addr}{xs:List V}(e:H a=some (.lst xs)):TyOf K H (.ref a) (.type "list")
 | frz {a:Addr}{o:Obj}{xs:List V}(e:H a=some (.frz o (.lst xs))):TyOf K H (.ref a) (.type "list")
 | tup {a:Addr}{xs:List V}(e:H a=some (.tup xs)):TyOf K H (.ref a) (.type "tuple")
 | dK {a:Addr}{kvs:List (Key×V)}(e:H a=some (.dK kvs)):TyOf K H (.ref a) (.type "dict")
 | dT {a:Addr}{kvs:List (List Key×V)}(e:H a=some (.dT kvs)):TyOf K H (.ref a) (.type "dict")
 | ins {a C dx:Addr}{fs:List (Str×V)}(e:H a=some (.ins C dx fs)) (cl:Cls K C) (ha:findIn K (.ref C) "__class__" =some (some (.builtin "object.__class__")))
   (hn:PySem.W.specialIn K (.builtin "object.__class__") "__get__" =some (some (.builtin "getset_descriptor.__get__"))) (htk:PySem.W.takesIn K (.builtin "object.__class__")=some true)
   (hm:mroIn K C (.type "object")=some true):TyOf K H (.ref a) (.ref C)
theorem jN2 {x:V}{u t:Value}(I:Inv X pins σ H s)(rx:RelV x u)(ty:TyOf X.K H x t)(e:kitOne X.K t c=some b)(h:∀ tk,Q (.bool b) { s with toks:=tk}):
  wpAny (model X.prog X.w) A (call (.builtin "isinstance") [u,c]) Q E s:=by
 cases ty with
 | non=>cases (show u=Value.none from rx); exact cx PySem.W.kitx_none I.kIn True.intro e (fun z=>nomatch z) h
 | bl y=>cases (show u=Value.bool y from rx); exact cx PySem.W.kitx_bool I.kIn True.intro e (fun z=>nomatch z) h
 | int i=>obtain⟨t,q⟩:=(show ∃ t,u=Value.int i t from rx); cases q; exact cx PySem.W.kitx_int I.kIn True.intro e (fun z=>nomatch z) h
 | str y=>obtain⟨t,q⟩:=(show ∃ t,u=Value.str y t from rx); cases q; exact cx PySem.W.kitx_str I.kIn True.intro e (fun z=>nomatch z) h
 | flt y=>obtain⟨t,q⟩:=(show ∃ t,u=Value.float y t from rx); cases q; exact cx PySem.W.kitx_float I.kIn True.intro e (fun z=>nomatch z) h
 | @lst a xs ea=>
  cases (show u=Value.ref a from rx)
  obtain⟨_,_,n,_,h1⟩:=(show ObjOk X.prog X.w H s.heap a (.lst xs) from I.hok a _ ea)
  exact cx kitx_list I.kIn ⟨_,h1,rfl⟩ e (fun z=>nomatch z) h
 | @frz a ob xs ea=>
  cases (show u=Value.ref a from rx)
  obtain⟨_,_,_,n,_,h1⟩:=(show ObjOk X.prog X.w H s.heap a (.frz ob (.lst xs)) from I.hok a _ ea)
  exact cx kitx_list I.kIn ⟨_,h1,rfl⟩ e (fun z=>nomatch z) h
 | @tup a xs ea=>
  cases (show u=Value.ref a from rx)
  obtain⟨_,_,_,p⟩:=(show ObjOk X.prog X.w H s.heap a (.tup xs) from I.hok a _ ea)
  obtain⟨o,h1,h2,_⟩:=p.isTup
  exact cx PySem.W.kitx_tuple I.kIn ⟨o,h1,h2⟩ e (fun z=>nomatch z) h
 | @dK a kvs ea=>
  cases (show u=Value.ref a from rx)
  obtain⟨_,_,vs,_,p⟩:=(show ObjOk X.prog X.w H s.heap a (.dK kvs) from I.hok a _ ea)
  obtain⟨o,es,ep,h1,h2,_⟩:=p
  exact cx kitx_dict I.kIn ⟨o,h1,h2.1⟩ e (fun z=>nomatch z) h
 | @dT a kvs ea=>
  cases (show u=Value.ref a from rx)
  obtain⟨_,_,xs,_,o,es,ep,h1,h2,_⟩:=(show ObjOk X.prog X.w H s.heap a (.dT kvs) from I.hok a _ ea)
  exact cx kitx_dict I.kIn ⟨o,h1,h2.1⟩ e (fun z=>nomatch z) h
 | @ins a C dx fs ea cl ha hn htk hm=>
  cases (show u=Value.ref a from rx)
  obtain⟨mA,O,_⟩:=jSL I.hok ea
  obtain⟨od,J,_⟩:=O.look
  exact cx (PySem.W.kitx_own (cl.get _) cl.hd ha hn htk hm) I.kIn J e (fun z=>nomatch z) h
end
end L2
namespace L2
open PySem PySem.Spec PyProof.Rows
structure Room (k:Nat)(A:Around):Prop where
 hd:A.handled=none
 dp:A.depth+3*k+5<recursionLimit
 un:A.units+16*k+200<cLine
theorem Room.mono {j k:Nat}{A:Around}(r:Room k A)(h:j<=k):Room j A:=⟨r.hd,by have:=r.dp; omega,by have:=r.un; omega⟩
theorem Room.deeper {k:Nat}{A:Around}(r:Room (k+1) A)(env:Env):Room k (A.deeper env):=
 ⟨r.hd,by have:=r.dp; show A.depth+1+3*k+5<_; omega,by have:=r.un; show A.units+3+16*k+200<_; omega⟩
theorem Room.depth {k:Nat}{A:Around}(r:Room k A):A.depth<recursionLimit:=by have:=r.dp; omega
theorem Room.units {k:Nat}{A:Around}(r:Room k A):A.units+64<cLine:=by have:=r.un; omega
theorem Room.units0 {k:Nat}{A:Around}(r:Room k A):A.units<cLine:=by have:=r.un; omega
def tNil:TA:=fun _ H Q=>Q [] H
def tCons (ta:TE)(tr:TA):TA:=fun σ H Q=>ta σ H fun x H1=>tr σ H1 fun xs H2=>Q (x::xs) H2
section
variable {X:Cx}{e:Expr}{es:List Expr}{te:TE}{t:TA}{pos:Pos}
theorem yH:PA X [] tNil:=fun _ _ _ _ H Q I h=>Calls.spliced_nil ⟨[],H,I, .nil,h⟩
theorem kG (ha:PE X e te)(hr:PA X es t)(hs:starEach (e::es) X.env=(false,eval e X.env)::starEach es X.env:=by rfl):PA X (e::es) (tCons te t):=by
 intro pos pins s σ H Q I h
 rw[hs]
 show wpAny _ _ (spliced ((false,eval e X.env)::backTo pos (starEach es X.env))) _ _ s
 refine Calls.spliced_cons (thn (ha pins s σ H _ I h) fun u s1 ⟨x,H1,I1,r1,q1⟩=>?_)
 exact thn (hr pos pins s1 σ H1 _ I1 q1) fun us s2 ⟨xs,H2,I2,r2,q2⟩=>⟨x::xs,H2,I2, .cons r1 r2,q2⟩
def tTup (t:TA):TE:=fun σ H Q=>t σ H fun xs H1=>xs.length<=sizeLine/\∀ p,H1 p=none->Q (.ref p) (upd H1 p (.tup xs))
def tLst (t:TA):TE:=fun σ H Q=>t σ H fun xs H1=>xs.length<=sizeLine/\∀ p,H1 p=none->Q (.ref p) (upd H1 p (.lst xs))
theorem jTT {x1}(h:PA X es t):PE X (.Tuple es x1 pos) (tTup t):=by
 intro pins s σ H Q I hq
 refine wpAny_Tuple_spliced (thn (h pos pins s σ H _ I hq) fun us s1 ⟨xs,H1,I1,r,z,q⟩=>⟨by rw[<- r.length]; exact z,?_⟩)
 have hf:H1 s1.heap.objs.size=none:=I1.hok.fresh (ao _)
 refine⟨.ref s1.heap.objs.size,upd H1 s1.heap.objs.size (.tup xs),I1.laid (t':=s1.toks) (fun b u e=>af _ e) (ao _) ?_,rfl,q _ hf⟩
 exact⟨z,us,r,TupO.new _ _⟩
theorem jJ6 (h:PA X es t):PE X (.List es pos) (tLst t):=by
 intro pins s σ H Q I hq
 refine wpAny_List_spliced (thn (h pos pins s σ H _ I hq) fun us s1 ⟨xs,H1,I1,r,z,q⟩=>⟨by rw[<- r.length]; exact z,?_⟩)
 have hf:H1 s1.heap.objs.size=none:=I1.hok.fresh (ao _)
 refine⟨.ref s1.heap.objs.size,upd H1 s1.heap.objs.size (.lst xs),I1.laid (t':=s1.toks) (fun b u e=>af _ e) (ao _) ?_,rfl,q _ hf⟩
 exact⟨z,us,0,r,ax _ rfl⟩
end
abbrev Sp:=List V->Hp->VK->XK->Prop
abbrev CXT:=List Env->Hp->Shared->XK->Value->Shared->Prop
structure Env0 (P:Program)(w:World)(K:W.Frag)(mg:Str->Option Value)(base:Heap)(A:Around)(outer:List Env)(s:Shared)(H:Hp):Prop where
 frames:A.frames=some outer
 mod:Mod K mg base
 bs:∀ b o,base.get? b=some o->s.heap.get? b=some o/\H b=none
 bsz:base.objs.size<=s.heap.objs.size
 funs:s.heap.FunFrames base outer
 frf:∀ b∈frs outer,H b=none
 hok:HOk P w H s.heap
 bare:AllBare s.gens
def CE (outer:List Env)(P:Program)(w:World)(H:Hp)(s:Shared)(Q:VK)(u:Value)(s':Shared):Prop:=
 ∃ v H',s'.os=s.os/\AllBare s'.gens/\Un (frs outer) [] H H' s.heap s'.heap/\HOk P w H' s'.heap/\RelV v u/\Q v H'
def CR (CX:CXT)(outer:List Env)(P:Program)(w:World)(H:Hp)(s:Shared)(Q:VK)(E:XK)(r:Result)(s':Shared):Prop:=
 match r with
 | .ok (.ret u)=>CE outer P w H s Q u s'
 | .ok _=>False
 | .error e=>CX outer H s E e s'
structure FnOk (P:Program)(w:World)(K:W.Frag)(mg:Str->Option Value)(base:Heap)(CX:CXT)(k:Nat)(f:Addr)(fd:FuncData)(ps:List Str)(sp:Sp):Prop where
 len:∀ vs H Q E,sp vs H Q E->vs.length=ps.length
 run:∀ (A:Around) (outer:List Env) (s:Shared) (H:Hp) (args:Args) (us:List Value) (vs:List V) (Q:VK) (E:XK),Room k A->Env0 P w K mg base A outer s H->BindsTo s fd args (ps.zip us)->Vals vs us->sp vs H Q E->
  codeAny (model P w) A (.call (.ref f) args) (CR CX outer P w H s Q E) s
section
variable {X:Cx}{pins:List (Addr×Obj)}{σ:St}{H:Hp}{s s':Shared}
theorem Inv.env0 (I:Inv X pins σ H s):Env0 X.prog X.w X.K X.mg X.base X.A X.stack s H:=
 ⟨I.ok.frames,I.ok.mod,I.bs,bb I.ok.bsz I.sz,I.stack,I.stkFree,I.hok,I.bare⟩
theorem Inv.after {Q:VK}{u:Value}(I:Inv X pins σ H s)(h:CE X.stack X.prog X.w H s Q u s'):EP X pins σ Q u s':=by
 obtain⟨v,H',os,bare,un,hok,r,q⟩:=h
 obtain⟨hh,g,d,t,os'⟩:=s'
 obtain rfl:os'=s.os:=os
 exact⟨v,H',I.call (h':=hh) (g':=g) (d':=d) (t':=t) (ch:=[]) un hok bare (fun b z=>absurd z (by simp)),r,q⟩
end
def tCall (sp:Sp)(dvs:List V)(E:XK)(t:TA):TE:=fun σ H Q=>t σ H fun vs H1=>sp (vs++dvs) H1 Q E
def Binds (K:W.Frag)(fd:FuncData)(ps:List Str)(ds:List Value):Prop:=
 ∀ (s:Shared) (us:List Value),K.In s.heap->(us++ds).length=ps.length->BindsTo s fd ⟨us,[]⟩ (ps.zip (us++ds))
theorem Binds.all {K:W.Frag}{fd:FuncData}{ps:List Str}(h:∀ us:List Value,us.length=ps.length->bindArgs fd ⟨us,[]⟩=pure (ps.zip us)):Binds K fd ps []:=fun s us _ hl=>by
 rw[aW] at hl ⊢
 exact .of_eq (h us hl)
def jNZ (CX:CXT)(X:Cx)(E:XK):Prop:=∀ (pins:List (Addr×Obj)) (σ:St) (H:Hp) (s:Shared) (e:Value) (s':Shared),Inv X pins σ H s->CX X.stack H s E e s'->X.xe e s'
section
variable {X:Cx}{CX:CXT}{k:Nat}{f C:Addr}{fd:FuncData}{ps:List Str}{sp:Sp}{dvs:List V}{ds:List Value}{E:XK}{x m:Str}{p pos apos:Pos}{e o:Expr}{es:List Expr}{ta:TE}{t:TA}
theorem jTI {pins:List (Addr×Obj)}{σ:St}{H:Hp}{s:Shared}{Q:VK}{us:List Value}{vs:List V}(F:FnOk X.prog X.w X.K X.mg X.base CX k f fd ps sp)(hr:Room k X.A)(hb:Binds X.K fd ps ds)(hd:Vals dvs ds)(hx:jNZ CX X E)
  (I:Inv X pins σ H s) (r:Vals vs us) (h:sp (vs++dvs) H Q E):wpAny (model X.prog X.w) X.A (call (.ref f) us) (EP X pins σ Q) X.xe s:=by
 have r2:Vals (vs++dvs) (us++ds):=r.append hd
 have hl:(us++ds).length=ps.length:=by rw[<- r2.length]; exact F.len _ _ _ _ h
 refine ix (dQ (F.run X.A X.stack s H ⟨us,[]⟩ (us++ds) (vs++dvs) Q E hr I.env0 (hb s us I.kIn hl) r2 h) fun r s' hq=>?_)
 cases r with
 | error e=>exact hx pins σ H s e s' I hq
 | ok fl=>
  cases fl with
  | ret u=>exact I.after hq
  | next=>exact False.elim hq
  | brk=>exact False.elim hq
  | cont=>exact False.elim hq
theorem jRP (F:FnOk X.prog X.w X.K X.mg X.base CX k f fd ps sp)(hr:Room k X.A)(hg:Gl X x)(hm:X.mg x=some (.ref f))(hk:keepIn X.K (.ref f)=true)(hb:Binds X.K fd ps ds)(hd:Vals dvs ds)(hx:jNZ CX X E)
  (ha:PA X (e::es) t) (hdb:(x==("__debug__" :Str))=false:=by decide) (he:starEach (e::es) X.env=(false,eval e X.env)::starEach es X.env:=by rfl) (hpl:(backTo pos (starEach es X.env)).any (·.1)=false:=by rfl):
  PE X (.Call (.Name x p) (e::es) [] pos) (tCall sp dvs E t):=by
 intro pins s σ H Q I h
 refine cE (jMN I hg hm ?_ hdb)
 refine i9 (h₀:=X.base) I.ok.mod.kin hk (thn (ha pos pins s σ H _ I h) fun us s1 ⟨vs,H1,I1,r,q⟩=>⟨I1.kIn,?_⟩) he hpl
 exact jTI F hr hb hd hx I1 r q
end
def PK (X:Cx)(kws:List Keyword)(t:TA):Prop:=
 ∀ (pos:Pos) (pins:List (Addr×Obj)) (s:Shared) (σ:St) (H:Hp) (Q:List V->Hp->Prop),Inv X pins σ H s->t σ H Q->wpAny (model X.prog X.w) X.A (evalAll ((backToKw pos (keywordEach kws X.env)).map (·.2))) (AP X pins σ Q) X.xe s
section
variable {X:Cx}{CX:CXT}{k:Nat}{f C:Addr}{fd:FuncData}{ps ks:List Str}{sp:Sp}{E:XK}{x m:Str}{p pos apos kpos:Pos}{e o:Expr}{es:List Expr}{kws:List Keyword}{te ta:TE}{t tk:TA}{nm:Option Str}
theorem jTP:PK X [] tNil:=fun _ _ _ _ H Q I h=>wpAny_evalAll_nil ⟨[],H,I, .nil,h⟩
theorem jRE (ha:PE X e te)(hr:PK X kws t):PK X (⟨nm,e,kpos⟩::kws) (tCons te t):=by
 intro pos pins s σ H Q I h
 show wpAny _ _ (evalAll ((do let v <- eval e X.env; standAt pos; pure v)::(backToKw pos (keywordEach kws X.env)).map (·.2))) _ _ s
 refine wpAny_evalAll_cons (ab (thn (ha pins s σ H _ I h) fun u s1 ⟨x,H1,I1,r1,q1⟩=>ab (eG (ah ?_))))
 exact thn (hr pos pins s1 σ H1 _ I1 q1) fun us s2 ⟨xs,H2,I2,r2,q2⟩=>⟨x::xs,H2,I2, .cons r1 r2,q2⟩
variable {g:List Value->List Value->List Value}{gV:List V->List V->List V}
end
structure FnScope (N P:List Str)(sc:Scope):Prop where
 kind:sc.kind= .function
 co:sc.isCoroutine=false
 gen:sc.isGenerator=false
 nd:N.Nodup
 pre:N.take P.length=P
 par:∀ x∈P,sc.names.lookup x=some .local\/sc.names.lookup x=some .cell
 nofree:∀ y∈sc.names,y.2≠ .free
theorem jHE {kindOf:Str->Option NameKind}{x:Str} :∀ {binds:List (Str×Value)}{m:Str->Option Value},(∀ v,(x,v)∉binds)->bindL kindOf binds m x=m x
 | [],_,_=>rfl
 | (n,v)::r,m,h=>by
  unfold bindL
  rw[jHE fun w hw=>h w (aK _ hw)]
  split
  ·have:x≠n:=by rintro rfl; exact h v aE
   simp [this]
  ·rfl
theorem jHG {kindOf:Str->Option NameKind}{x:Str} :∀ {binds:List (Str×Value)}{m:Str->Option Value},(∀ v,(x,v)∉binds)->bindC kindOf binds m x=m x
 | [],_,_=>rfl
 | (n,v)::r,m,h=>by
  unfold bindC
  rw[jHG fun w hw=>h w (aK _ hw)]
  split
  ·rfl
  ·have:x≠n:=by rintro rfl; exact h v aE
   simp [this]
theorem jHF {kindOf:Str->Option NameKind}{x:Str}{v:Value} :∀ {P:List Str}{vs:List Value}{i:Nat}{m:Str->Option Value},P.Nodup->P[i]?=some x->vs[i]?=some v->kindOf x=some .local->
  bindL kindOf (P.zip vs) m x=some v
 | [],_,_,_,_,h,_,_=>by simp at h
 | _::_,[],_,_,_,_,h,_=>by simp at h
 | p::P,w::vs,0,m,nd,h1,h2,hk=>by
  simp at h1 h2; subst h1; subst h2
  show bindL kindOf ((p,w)::P.zip vs) m p=_
  unfold bindL
  rw[jHE fun v hv=>(cD.mp nd).1 (dN hv).1,aq hk]
  simp
 | p::P,w::vs,i+1,m,nd,h1,h2,hk=>by
  show bindL kindOf ((p,w)::P.zip vs) m x=_
  unfold bindL
  exact jHF (i:=i) (cD.mp nd).2 (by simpa using h1) (by simpa using h2) hk
theorem jHH {kindOf:Str->Option NameKind}{x:Str}{v:Value} :∀ {P:List Str}{vs:List Value}{i:Nat}{m:Str->Option Value},P.Nodup->P[i]?=some x->vs[i]?=some v->kindOf x≠some .local->
  bindC kindOf (P.zip vs) m x=some v
 | [],_,_,_,_,h,_,_=>by simp at h
 | _::_,[],_,_,_,_,h,_=>by simp at h
 | p::P,w::vs,0,m,nd,h1,h2,hk=>by
  simp at h1 h2; subst h1; subst h2
  show bindC kindOf ((p,w)::P.zip vs) m p=_
  unfold bindC
  rw[jHG fun v hv=>(cD.mp nd).1 (dN hv).1,am hk]
  simp
 | p::P,w::vs,i+1,m,nd,h1,h2,hk=>by
  show bindC kindOf ((p,w)::P.zip vs) m x=_
  unfold bindC
  exact jHH (i:=i) (cD.mp nd).2 (by simpa using h1) (by simpa using h2) hk
def y4 (N:List Str)(vs:List V):St:=vs.map some++List.replicate (N.length - vs.length) none
def cxOf (CX:CXT)(P:Program)(w:World)(K:W.Frag)(mg:Str->Option Value)(base:Heap)(N:List Str)(qual:Str)(scope:Scope)(f:Addr)(cd:Value)(A:Around)(outer:List Env)(s:Shared)(H:Hp)(E:XK):Cx where
 prog:=P
 w:=w
 K:=K
 mg:=mg
 base:=base
 A:=A.deeper (envOfC qual scope s.heap.objs.size f cd)
 N:=N
 s₀:=s
 H₀:=H
 env:=envOfC qual scope s.heap.objs.size f cd
 outer:=outer
 stack:=envOfC qual scope s.heap.objs.size f cd::outer
 ex:=[]
 calm:=true
 fn:=fun _=>true
 pn:=[]
 xe:=fun e s'=>wpAny (model P w) (A.deeper (envOfC qual scope s.heap.objs.size f cd)) (leaving (envOfC qual scope s.heap.objs.size f cd) e) (fun _ s''=>CX outer H s E e s'') (fun e' s''=>CX outer H s E e' s'') s'
theorem jJW {sc:Scope}{n:Nat}{x:Str}(h:sc.names.lookup x=some .cell):∃ c,(cellsFrom n sc.names []).lookup x=some c:=by
 have q:=fQ sc.names n [] (.inl h)
 exact Option.isSome_iff_exists.mp q
theorem jGZ {CX:CXT}{P:Program}{w:World}{K:W.Frag}{mg:Str->Option Value}{base:Heap}{N ps:List Str}{qual:Str}{scope:Scope}{f:Addr}{cd:Value}{A:Around}{outer:List Env}{s s1:Shared}{H:Hp}{E:XK}{us:List Value}{vs:List V}
  (S:FnScope N ps scope) (hd:A.handled=none) (e0:Env0 P w K mg base A outer s H) (hl:vs.length=ps.length) (r:Vals vs us)
  (x:InCallC s s.heap.objs.size (bindL (envOfC qual scope s.heap.objs.size f cd).kindOf (ps.zip us) fun _=>none) (cellsFrom (s.heap.objs.size+1) scope.names []) (bindC (envOfC qual scope s.heap.objs.size f cd).kindOf (ps.zip us) fun _=>none) s1):
  Inv (cxOf CX P w K mg base N qual scope f cd A outer s H E) [] (y4 N vs) H s1:=by
 have hpl:ps.length<=N.length:=by have:=bN List.length S.pre; rw[bA] at this; omega
 obtain⟨h1,tk,rfl,hk⟩:=x.done
 have noA:∀ b:Addr,b∉(cxOf CX P w K mg base N qual scope f cd A outer s H E).ex:=fun b z=>absurd (show b∈([]:List Addr) from z) (by simp)
 refine⟨⟨e0.mod,S.kind,rfl,rfl,ao _,fun y z c h1 h2=>?_,fun y hy=>?_,fun y c _ h=>?_,fun _=>hd,Around.frames_deeper e0.frames, .inr ⟨rfl,rfl⟩,fun b z=>absurd z (noA b),e0.bs,e0.bsz,fun b _ _=>noA b,fun b z=>absurd z (noA b),e0.funs,e0.frf⟩,
  rfl,e0.bare,Un.kept hk,⟨_,x.toInCall.ns,fun i y v h1 h2 h3=>?_⟩,fun y c h=>⟨_,x.cell y c h⟩,e0.hok.fresh (ao _),fun y c h=>?_,fun p hp=>absurd (show p∈([]:List (Addr×Obj)) from hp) (by simp),e0.hok.kept hk,?_⟩
 ·exact name_of_addr x.apart (ck h1) (ck h2)
 ·have hy:scope.names.lookup y=some .cell\/scope.names.lookup y=some .free:=hy
  rcases hy with hy | hy
  ·exact jJW hy
  ·exact absurd rfl (S.nofree _ (ck hy))
 ·exact dC (x.above y c (ck h))
 ·have hi:i<vs.length:=by
   unfold y4 at h2
   by_cases hi:i<vs.length
   ·exact hi
   ·rw[aY (by simpa using hi)] at h2
    rw[ij] at h2
    split at h2 <;> cases h2
  have ha:vs[i]?=some v:=by
   unfold y4 at h2
   rw[bK (by simpa using hi),aN] at h2
   cases e:vs[i]? with
   | none=>rw[e] at h2; cases h2
   | some a=>rw[e] at h2; cases h2; rfl
  obtain⟨u,hu,rv⟩:=r.get ha
  have hp:ps[i]?=some y:=by
   rw[<- S.pre,cg (by omega)]; exact h1
  have ndP:ps.Nodup:=by rw[<- S.pre]; exact S.nd.sublist (dw _ _)
  refine⟨u,rv,?_⟩
  rcases S.par y (az hp) with k | k
  ·exact .inl ⟨k,jHF ndP hp hu k⟩
  ·obtain⟨c,e⟩:=jJW (n:=s.heap.objs.size+1) k
   refine .inr ⟨.inl k,c,e,?_⟩
   have q:=x.cell y c e
   rw[jHH ndP hp hu (by show scope.names.lookup y≠_; rw[k]; decide)] at q
   exact q
 ·exact e0.hok.fresh (dC (x.above y c (ck h)))
 ·unfold y4
  show _=N.length
  rw[aB,ae,iO]
  omega
theorem fn_of {CX:CXT}{P:Program}{w:World}{K:W.Frag}{mg:Str->Option Value}{base:Heap}{k:Nat}{f:Addr}{name qual:Str}{params:Arguments}{body:List Stmt}{scope:Scope}{dV kV doc pm cdv ct oc:Value}{an od:Option Addr}
  {osl:Array (Option Value)}{N ps:List Str}{sp:Sp}(lk:K.lookup f=some ⟨oc,od, .func (PySem.W.fnOf name qual params body scope dV kV doc pm an cdv ct),osl⟩) (hcd:PySem.W.codeIn K cdv qual=true) (S:FnScope N ps scope)
  (len:∀ vs H Q E,sp vs H Q E->vs.length=ps.length)
  (hbody:∀ (A:Around) (outer:List Env) (s:Shared) (H:Hp) (vs:List V) (Q:VK) (E:XK),Room k (A.deeper (envOfC qual scope s.heap.objs.size f cdv))->sp vs H Q E->
   ∃ t,PSs (cxOf CX P w K mg base N qual scope f cdv A outer s H E) body t/\t { nx:=fun _ H'=>Q .non H',rt:=Q} (y4 N vs) H):
  FnOk P w K mg base CX (k+1) f (PySem.W.fnOf name qual params body scope dV kV doc pm an cdv ct) ps sp:=by
 refine⟨len,fun A outer s H args us vs Q E hr e0 hb r hsp=>?_⟩
 have hl:=len _ _ _ _ hsp
 have KX:K.In s.heap:=e0.mod.kin.keeps fun b o e=>(e0.bs b o e).1
 have lim:s.heap.NoLimit:=e0.mod.nolimit.keeps fun b o e=>(e0.bs b o e).1
 have hkind:∀ y∈ps.zip us,scope.names.lookup y.1=some .local\/(scope.names.lookup y.1=some .cell/\((cellsFrom (s.heap.objs.size+1) scope.names []).lookup y.1).isSome=true):=fun ⟨n,v⟩ hy=>by
  rcases S.par n (dN hy).1 with q | q
  ·exact .inl q
  ·exact .inr ⟨q,fQ _ _ _ (.inl q)⟩
 refine codeAny_call_function hr.depth (KX _ _ lk) rfl S.co S.gen rfl (ja KX hcd) (hb _ _ _ _ ?_)
 refine gI S.kind hkind fun env he s1 x=>?_
 subst he
 refine⟨lim.keeps x.toInCall.keep,codeAny_func ?_⟩
 obtain⟨t,ht,hq⟩:=hbody A outer s H vs Q E (hr.deeper _) hsp
 have I:Inv (cxOf CX P w K mg base N qual scope f cdv A outer s H E) [] (y4 N vs) H s1:=jGZ S hr.hd e0 hl r x
 refine cr (ht [] s1 (y4 N vs) H _ I hq) (fun fl s' hs=>?_) fun e s' hs=>hs
 have fin:∀ {σ':St}{H':Hp}{v:V}{u:Value},Inv (cxOf CX P w K mg base N qual scope f cdv A outer s H E) [] σ' H' s'->RelV v u->Q v H'->CE outer P w H s Q u s':=
  fun {σ' H' v u} J rv q=>⟨v,H',J.os,J.bare,J.base,J.hok,rv,q⟩
 cases fl with
 | ret u=>
  obtain⟨v,σ',H',J,rv,q⟩:=hs
  exact fin J rv q
 | next=>
  obtain⟨σ',H',J,q⟩:=hs
  exact fin (v:=V.non) (u:=Value.none) J rfl q
 | brk=>
  obtain⟨_,_,_,q⟩:=hs
  exact False.elim q
 | cont=>
  obtain⟨_,_,_,q⟩:=hs
  exact False.elim q
end L2
namespace L2
open PySem PySem.Spec PyProof.Rows
section
variable {X:Cx}{x:Str}{p pos:Pos}{e:Expr}{es:List Expr}{t:TA}{id T:String}{r:List V->Hp->VK->Prop}
def tCB (r:List V->Hp->VK->Prop)(t:TA):TE:=fun σ H Q=>t σ H fun vs H1=>r vs H1 Q
theorem jFF (hc:yE X (.builtin id) r)(hg:Gl X x)(hm:X.mg x=none)(hv:bootBuiltins x=some (.builtin id))(ha:PA X (e::es) t)(hn:x≠ "__name__" :=by decide)(hdb:(x==("__debug__" :Str))=false:=by decide)
  (he:starEach (e::es) X.env=(false,eval e X.env)::starEach es X.env:=by rfl) (hpl:(backTo pos (starEach es X.env)).any (·.1)=false:=by rfl):PE X (.Call (.Name x p) (e::es) [] pos) (tCB r t):=by
 intro pins s σ H Q I h
 refine cE (jE7 I hg hm hv ?_ hn hdb)
 exact PyProof.Rows.callWith_builtin1 (thn (ha pos pins s σ H _ I h) fun us s1 ⟨vs,H1,I1,r1,q1⟩=>hc pins s1 σ H1 vs us Q I1 r1 q1) he hpl
theorem jCA (hc:yE X (.type T) r)(hg:Gl X x)(hm:X.mg x=none)(hv:bootBuiltins x=some (.type T))(ha:PA X (e::es) t)(hn:x≠ "__name__" :=by decide)(hdb:(x==("__debug__" :Str))=false:=by decide)
  (he:starEach (e::es) X.env=(false,eval e X.env)::starEach es X.env:=by rfl) (hpl:(backTo pos (starEach es X.env)).any (·.1)=false:=by rfl):PE X (.Call (.Name x p) (e::es) [] pos) (tCB r t):=by
 intro pins s σ H Q I h
 refine cE (jE7 I hg hm hv ?_ hn hdb)
 exact dE (thn (ha pos pins s σ H _ I h) fun us s1 ⟨vs,H1,I1,r1,q1⟩=>hc pins s1 σ H1 vs us Q I1 r1 q1) he hpl
end
end L2
namespace HT
open PySem PyProof.Rows
def lexLt:List Int->List Int->Bool
 | [],[]=>false
 | [],_::_=>true
 | _::_,[]=>false
 | x::xs,y::ys=>if x=y then lexLt xs ys else decide (x<y)
theorem jAE (x y:Int)(xs ys:List Int):lexLt (x::xs) (y::ys)=if x=y then lexLt xs ys else decide (x<y):=rfl
theorem jFP:lexLt [] []=false:=rfl
theorem jEJ (y:Int)(ys:List Int):lexLt [] (y::ys)=true:=rfl
theorem jEK (x:Int)(xs:List Int):lexLt (x::xs) []=false:=rfl
theorem jPH (A:Around)(s:Shared)(a:Int)(t:Tok)(c:Int)(u:Tok):∃ e,SeqAt.EqAt A s (.int a t) (.int c u) e/\(e=true↔a=c):=
 ⟨(a==c),gJ a t c u,by simp⟩
theorem rcLt_int (A:Around)(s:Shared)(a:Int)(t:Tok)(c:Int)(u:Tok)(prog:Program)(w:World)(E:Value->Shared->Prop)(Q:Value->Shared->Prop)(h:Q (.bool (decide (a<c))) s):
  wpAny (model prog w) A (richCompare .Lt (.int a t) (.int c u)) Q E s:=
 (PyProof.Rows.lt_int h:wpAny (model prog w) A (compareOp .Lt (.int a t) (.int c u)) Q E s)
section
open PySem.SeqAt
open PySem.AutoSeq1 (wpAny_loadPart')
open PySem.MeetsSeq PySem.MeetsSeq2 PySem.MeetsSeq3
theorem tuple_lt_ints (l b:Addr)(items items2:Array Value)(n n2:Nat)(dd dd2:Option Addr)(sl sl2:Array (Option Value))(ns ms:List Int)(hi:IntsAre items.toList ns)(hj:IntsAre items2.toList ms):
  Meets (Builtin.«tuple.__lt__» ⟨[.ref l, .ref b],[]⟩)
   (fun _ R s=>s.heap.get? l=some { cls:= .type "tuple",dict:=dd,data:= .seq items n,slots:=sl} /\s.heap.get? b=some { cls:= .type "tuple",dict:=dd2,data:= .seq items2 n2,slots:=sl2} /\
    R (.ok (.ret (.bool (lexLt ns ms)))) s):=
 .of_wp fun prog w A R s h=>by
  obtain⟨hp,g,d,tk,os⟩:=s; obtain⟨hl,hb,h⟩:=h
  have f2:=AutoSeq1.sub_tuple_tuple
  have z1:items.size=ns.length:=by rw[<- hi.length]; simp
  have z2:items2.size=ms.length:=by rw[<- hj.length]; simp
  wp_walk using cy hl,cy hb,wpAny_forIn_list _ (fun rest b s'=>b.1=none/\s'=⟨hp,g,d,tk,os⟩/\∃ (vs ws:List Value) (ns' ms':List Int),rest=vs.zip ws/\
   IntsAre vs ns'/\IntsAre ws ms'/\ns'.length+items2.size=ms'.length+items.size/\R (.ok (.ret (.bool (lexLt ns' ms')))) ⟨hp,g,d,tk,os⟩) _
  case turn=>
   rintro ⟨y,x⟩ rest b s' ⟨hb',rfl,vs,ws,ns',ms',hz,hvi,hwi,hlen,hR⟩
   cases hvi with
   | nil=>rw[List.zip_nil_left] at hz; cases hz
   | cons a t hvi'=>
    cases hwi with
    | nil=>rw[List.zip_nil_right] at hz; cases hz
    | cons c u hwi'=>
     rw[eC] at hz
     injection hz with hyx hrest
     injection hyx with hy hx
     subst hy hx
     rw[jAE] at hR
     simp only [aR] at hlen
     obtain⟨e,he,hiff⟩:=jPH A.in1 ⟨hp,g,d,tk,os⟩ a t c u
     refine ab (he prog w _ _ ?_)
     cases e with
     | true=>
      rw[aq (hiff.mp rfl)] at hR
      wp_walk
      exact⟨rfl,rfl,_,_,_,_,hrest,hvi',hwi',by omega,hR⟩
     | false=>
      rw[am (fun q=>absurd (hiff.mpr q) aj)] at hR
      have hri:=rcLt_int A.in1 ⟨hp,g,d,tk,os⟩ a t c u prog w
      wp_walk using hri
      exact⟨_,rfl,by simpa using hR⟩
  case fin=>
   rintro ⟨b1,b2⟩ s' ⟨hb',rfl,vs,ws,ns',ms',hz,hvi,hwi,hlen,hR⟩
   simp only at hb'
   subst hb'
   have hv:lexLt ns' ms'=decide (items.size<items2.size):=by
    cases hvi with
    | nil=>
     cases hwi with
     | nil=>
      simp only [bZ] at hlen
      rw[jFP]
      exact(aH (by omega)).symm
     | cons c u hw=>
      simp only [bZ,aR] at hlen
      rw[jEJ]
      exact(ar (by omega)).symm
    | cons a t hv=>
     cases hwi with
     | nil=>
      simp only [bZ,aR] at hlen
      rw[jEK]
      exact(aH (by omega)).symm
     | cons c u hw=>
      rw[eC] at hz
      cases hz
   rw[hv] at hR
   wp_walk
   exact⟨_,rfl,by simpa [Builtin.Tuple.tupleCompareSizes] using hR⟩
  case h=>
   exact⟨rfl,rfl,items.toList,items2.toList,ns,ms,rfl,hi,hj,by omega,h⟩
end
section
variable {prog:Program}{w:World}{A:Around}{E:Value->Shared->Prop}{s:Shared}
theorem lt_tupInts {l b:Addr}{items items2:Array Value}{ns ms:List Int}{Q:Value->Shared->Prop}(hl:IsTup s.heap l items)(hb:IsTup s.heap b items2)(hi:IntsAre items.toList ns)(hj:IntsAre items2.toList ms)
  (hu:A.units<cLine) (h:Q (.bool (lexLt ns ms)) s):wpAny (model prog w) A (compareOp .Lt (.ref l) (.ref b)) Q E s:=by
 obtain⟨⟨cls,dd,data,sl⟩,ho,hc,n,hd⟩:=id hl
 obtain⟨⟨cls2,dd2,data2,sl2⟩,ho2,hc2,n2,hd2⟩:=id hb
 simp only at hc hd hc2 hd2
 subst hc hd hc2 hd2
 exact richCompare_meets_room (op:= .Lt) ⟨_,ho,rfl⟩ ⟨_,ho2,rfl⟩ ga iy (ik _ _) (tuple_lt_ints l b items items2 n n2 dd dd2 sl sl2 ns ms hi hj)
  ⟨ho,ho2,show Value.bool (lexLt ns ms)≠Value.notImplemented/\Q (.bool (lexLt ns ms)) s from ⟨(fun x=>nomatch x),h⟩⟩ hu
theorem cat_tup {t b:Addr}{vs ws:List Value}{Q:Value->Shared->Prop}(ht:IsTup s.heap t vs.toArray)(hb:IsTup s.heap b ws.toArray)(hv:vs≠ [])
  (h1:ws=[]->Q (.ref t) s) (h2:ws≠ []->Q (.ref s.heap.objs.size) { s with heap:=s.heap.push { cls:= .type "tuple",data:= .seq (vs++ws).toArray}})
  (hsz:vs.length+ws.length<=sizeLine):wpAny (model prog w) A (binaryOp .Add (.ref t) (.ref b)) Q E s:=by
 obtain⟨⟨cls,dd,data,sl⟩,ho,hc,n,hd⟩:=id ht
 obtain⟨⟨cls2,dd2,data2,sl2⟩,ho2,hc2,n2,hd2⟩:=id hb
 simp only at hc hd hc2 hd2
 subst hc hd hc2 hd2
 have e:vs.toArray++ws.toArray=(vs++ws).toArray:=by simp
 by_cases hw:ws=[]
 ·exact concat_meets ⟨_,ho,rfl⟩ ⟨_,ho2,rfl⟩ im seq_tuple_add fS fE (ff _ _)
   (tuple_addW1 t b vs.toArray ws.toArray n n2 dd dd2 sl sl2 (by simpa using hv) (by simp [hw])) ⟨ho,ho2,h1 hw⟩
 ·refine concat_meets ⟨_,ho,rfl⟩ ⟨_,ho2,rfl⟩ im seq_tuple_add fS fE (ff _ _)
   (tuple_addW2 t b vs.toArray ws.toArray n n2 dd dd2 sl sl2 (by simpa using hv) (by simpa using hw) (by rw[ag,ag]; exact hsz)) ⟨ho,ho2,?_⟩
  rw[e]
  exact h2 hw
def sIx (n d:Nat):Option Int->Nat
 | none=>d
 | some v=>if v<0 then (v+(n:Int)).toNat else min v.toNat n
end
end HT
namespace L2
open PySem PySem.Spec PyProof.Rows
abbrev TO:=St->Hp->(Option Int->Hp->Prop)->Prop
def PO (X:Cx)(e:Option Expr)(t:TO):Prop:=
 ∀ (pins:List (Addr×Obj)) (s:Shared) (σ:St) (H:Hp) (Q:Option Int->Hp->Prop),Inv X pins σ H s->t σ H Q->
  wpAny (model X.prog X.w) X.A (evalPart e X.env) (fun u s'=>∃ o H',Inv X pins σ H' s'/\IsPart u o/\Q o H') X.xe s
def jL8:TO:=fun _ H Q=>Q none H
def tPart (t:TE):TO:=fun σ H Q=>t σ H fun x H1=>∃ i,x= .int i/\Q (some i) H1
theorem jKL {ns:List Int} :∀ {us:List Value},Vals (ns.map V.int) us->IntsAre us ns:=by
 induction ns with
 | nil=>intro us r; rw[iA] at r; cases r; exact .nil
 | cons n ns ih=>
  intro us r
  rw[bu] at r
  cases r with
  | cons r1 r2=>
   obtain⟨t,e⟩:=r1
   subst e
   exact .cons n t (ih r2)
section
variable {X:Cx}{e:Expr}{te:TE}{lo hi:Option Expr}{tl th:TO}{pos p2:Pos}
theorem jRD:PO X none jL8:=by
 intro pins s σ H Q I h
 rw[evalPart_none]
 exact ah ⟨none,H,I, .none,h⟩
theorem jRC (h:PE X e te):PO X (some e) (tPart te):=by
 intro pins s σ H Q I hw
 rw[evalPart_some]
 refine thn (h pins s σ H _ I hw) fun u s1 ⟨x,H1,I1,r1,q1⟩=>?_
 obtain⟨i,rfl,q⟩:=q1
 obtain⟨t,rfl⟩:=r1
 exact⟨some i,H1,I1, .int i t,q⟩
def SlR (X:Cx)(r:V->Option Int->Option Int->Hp->VK->Prop):Prop:=
 ∀ (pins:List (Addr×Obj)) (s:Shared) (σ:St) (H:Hp) (x:V) (v vl vu:Value) (lo hi:Option Int) (sl:Addr) (Q:VK),Inv X pins σ H s->RelV x v->s.heap.IsSliceOf sl vl vu .none->IsPart vl lo->IsPart vu hi->r x lo hi H Q->
  ∃ T id,typeLookup (.type T) "__getitem__" =pure (some (.builtin id))/\s.TypeIs v T/\wpAny (model X.prog X.w) X.A (getItem v (.ref sl)) (EP X pins σ Q) X.xe s
def tSl (r:V->Option Int->Option Int->Hp->VK->Prop)(te:TE)(tl th:TO):TE:=fun σ H Q=>te σ H fun x H1=>tl σ H1 fun l H2=>th σ H2 fun u H3=>r x l u H3 Q
theorem jOI {r:V->Option Int->Option Int->Hp->VK->Prop}(hr:SlR X r)(he:PE X e te)(hl:PO X lo tl)(hu:PO X hi th):PE X (.Subscript e (.Slice lo hi none p2) pos) (tSl r te tl th):=by
 intro pins s σ H Q I h
 refine Subscript_ (thn (he pins s σ H _ I h) fun v s1 ⟨x,H1,I1,r1,q1⟩=>?_)
 refine wpAny_Slice (thn (hl pins s1 σ H1 _ I1 q1) fun vl s2 ⟨l,H2,I2,pl,q2⟩=>thn (hu pins s2 σ H2 _ I2 q2) fun vu s3 ⟨u,H3,I3,pu,q3⟩=>?_)
 rw[evalPart_none]
 refine ah ?_
 have I4:Inv X pins σ H3 { s3 with heap:=s3.heap.push { cls:= .type "slice",data:= .fields #[vl,vu, .none]}} :=I3.kept (t':=s3.toks) fun b ob q=>af _ q
 obtain⟨T,id,hT,ht,hg⟩:=hr pins { s3 with heap:=s3.heap.push { cls:= .type "slice",data:= .fields #[vl,vu, .none]}} σ H3 x v vl vu l u s3.heap.objs.size Q I4 r1 (Heap.IsSliceOf.new ..) pl pu q3
 show wpAny (model X.prog X.w) X.A (subscriptTail e (.Slice lo hi none p2) v (.ref s3.heap.objs.size)) (EP X pins σ Q) X.xe { s3 with heap:=s3.heap.push { cls:= .type "slice",data:= .fields #[vl,vu, .none]}}
 exact tail_any (ops:=[.ref s3.heap.objs.size,v]) ht hT hg (by with_unfolding_all rfl)
def cutV (xs:List V)(lo hi:Option Int):List V:=(xs.drop (HT.sIx xs.length 0 lo)).take (HT.sIx xs.length xs.length hi - HT.sIx xs.length 0 lo)
theorem jIE (xs:List V)(lo hi:Option Int):(cutV xs lo hi).length<=xs.length:=by
 unfold cutV
 rw[bA,gf]
 omega
def rCatT (K:W.Frag):R2:=fun x y H Q=>∃ a b xs ys,x= .ref a/\y= .ref b/\SqT K H a xs/\SqT K H b ys/\xs≠ []/\xs.length+ys.length<=sizeLine/\
 (ys=[]->Q (.ref a) H)/\(ys≠ []->∀ p,H p=none->Q (.ref p) (upd H p (.tup (xs++ys))))
theorem Vals.nil_iff {xs:List V}{us:List Value}(r:Vals xs us):us=[]↔xs=[]:=by
 cases r with
 | nil=>simp
 | cons _ _=>simp
theorem jRW:OpR X (binaryOp .Add) (rCatT X.K):=by
 intro pins s σ H x y v u Q I rx ry h
 obtain⟨a,b,xs,ys,rfl,rfl,ha,hb,hx,hz,q1,q2⟩:=h
 cases rx
 cases ry
 obtain⟨its,r1,p1,_⟩:=I.tuple ha
 obtain⟨its2,r2,p2,_⟩:=I.tuple hb
 refine HT.cat_tup p1 p2 (fun z=>hx (r1.nil_iff.mp z)) (fun z=>⟨.ref a,H,I,rfl,q1 (r2.nil_iff.mp z)⟩) (fun z=>?_) (by rw[<- r1.length,<- r2.length]; exact hz)
 refine⟨.ref s.heap.objs.size,_,I.laid (t':=s.toks) (o:= .tup (xs++ys)) (fun b ob q=>af _ q) (ao _) ?_,rfl,q2 (fun w=>z (r2.nil_iff.mpr w)) _ (I.hok.fresh (ao _))⟩
 exact⟨by rw[aB]; exact hz,_,r1.append r2,TupO.new _ _⟩
end
end L2
namespace L2
open PySem PySem.Spec PyProof.Rows
def ixN (n:Nat)(i:Int):Option Nat:=if 0<=i then (if i<n then some i.toNat else none) else if -(n:Int)<=i then some (i+n).toNat else none
def atI {α:Type}(xs:List α)(i:Int):Option α:=(ixN xs.length i).bind fun j=>xs[j]?
theorem jN0 {n:Nat}{i:Int}{j:Nat}(h:ixN n i=some j):seqIndex? i n=some j/\j<n/\ -(n:Int)<=i/\i<n:=by
 unfold ixN at h
 by_cases h0:0<=i
 ·rw[aq h0] at h
  by_cases h1:i<n
  ·rw[aq h1] at h
   have e:i.toNat=j:=bg h
   exact⟨by rw[seqIndex_of h0 h1,e],by omega,by omega,h1⟩
  ·rw[am h1] at h; cases h
 ·rw[am h0] at h
  by_cases h1: -(n:Int)<=i
  ·rw[aq h1] at h
   have e:(i+n).toNat=j:=bg h
   exact⟨by rw[seqIndex_neg (by omega) h1,e],by omega,h1,by omega⟩
  ·rw[am h1] at h; cases h
theorem jNW {α:Type}{xs:List α}{i:Int}{v:α}(h:atI xs i=some v):∃ j,seqIndex? i xs.length=some j/\xs[j]?=some v/\j<xs.length/\ -(xs.length:Int)<=i/\i<xs.length:=by
 unfold atI at h
 cases e:ixN xs.length i with
 | none=>rw[e] at h; cases h
 | some j=>
  rw[e] at h
  obtain⟨h1,h2,h3,h4⟩:=jN0 e
  exact⟨j,h1,h,h2,h3,h4⟩
theorem yD {α:Type}{xs:List α}{j:Nat}{v:α}(h:xs[j]?=some v):atI xs (j:Int)=some v:=by
 have hj:j<xs.length:=(ai.mp h).1
 have e:ixN xs.length (j:Int)=some j:=by
  unfold ixN
  rw[aq (by omega),aq (by omega)]; simp
 unfold atI; rw[e]; exact h
def jB4 (b:Expr):Prop:=∀ o i,subscripted b false o i=operate [o,i] (getItem o i)
def IxR (X:Cx)(r:R2):Prop:=
 ∀ (value slice:Expr) (pins:List (Addr×Obj)) (s:Shared) (σ:St) (H:Hp) (x y:V) (v u:Value) (Q:VK),Inv X pins σ H s->RelV x v->RelV y u->r x y H Q->
  subscripted slice false v u=operate [v,u] (getItem v u)->wpAny (model X.prog X.w) X.A (subscriptTail value slice v u) (EP X pins σ Q) X.xe s
def MtR (X:Cx)(id:String)(r:V->List V->Hp->VK->Prop):Prop:=
 ∀ (pins:List (Addr×Obj)) (s:Shared) (σ:St) (H:Hp) (x:V) (xs:List V) (v:Value) (us:List Value) (Q:VK),Inv X pins σ H s->RelV x v->Vals xs us->r x xs H Q->
  wpAny (model X.prog X.w) X.A (call (.builtin id) (v::us)) (EP X pins σ Q) X.xe s
section
variable {X:Cx}{a b:Expr}{ta tb:TE}{pos:Pos}
theorem pe_ix {r:R2}(hr:IxR X r)(ha:PE X a ta)(hb:PE X b tb)(hs:jB4 b):PE X (.Subscript a b pos) (tOp r ta tb):=by
 intro pins s σ H Q I h
 exact Subscript_ (binT ha hb I h fun v u s2 x y H2 I2 rx ry q=>hr a b pins s2 σ H2 x y v u Q I2 rx ry q (hs _ _))
def rIxL (K:W.Frag):R2:=fun x y H Q=>∃ p xs i v,x= .ref p/\y= .int i/\SqL K H p xs/\atI xs i=some v/\Q v H
def rIxT (K:W.Frag):R2:=fun x y H Q=>∃ p xs i v,x= .ref p/\y= .int i/\SqT K H p xs/\atI xs i=some v/\Q v H
theorem jC1:IxR X (rIxL X.K):=by
 intro value slice pins s σ H x y v u Q I rx ry h hs
 obtain⟨p,xs,i,z,rfl,rfl,hq,he,q⟩:=h
 cases rx
 obtain⟨t,rfl⟩:=ry
 obtain⟨its,r,pl,hz⟩:=I.list hq
 obtain⟨j,h1,h2,h3,h4,h5⟩:=jNW he
 obtain⟨w,ew,rw'⟩:=r.get h2
 have hl:=r.length
 have hn:=jGU
 have fin:EP X pins σ Q w s:=⟨z,H,I,rw',q⟩
 by_cases h0:0<=i
 ·have hj:i.toNat=j:=by
   rw[seqIndex_of h0 h5] at h1
   exact bg h1
  exact item_listR pl.isList h0 (by omega) (by rw[hj]; simpa using ew) fin hs
 ·have hj:(i+(its.toArray.size:Int)).toNat=j:=by
   rw[seqIndex_neg (by omega) h4] at h1
   rw[ag,<- hl]
   exact bg h1
  exact subscriptTail_builtinR (x:=w) pl.isList.typeIs slot_list_getitem.lookup
   (wpAny_getItem_list_neg (Q:=fun r s'=>r=w/\EP X pins σ Q r s') pl.isList (by omega) (by rw[ag] <;> omega) (by omega) (by rw[hj]; simpa using ew) ⟨rfl,fin⟩) hs
theorem jO:IxR X (rIxT X.K):=by
 intro value slice pins s σ H x y v u Q I rx ry h hs
 obtain⟨p,xs,i,z,rfl,rfl,hq,he,q⟩:=h
 cases rx
 obtain⟨t,rfl⟩:=ry
 obtain⟨its,r,pl,hz⟩:=I.tuple hq
 obtain⟨j,h1,h2,h3,h4,h5⟩:=jNW he
 obtain⟨w,ew,rw'⟩:=r.get h2
 have hl:=r.length
 have hn:=jGU
 have fin:EP X pins σ Q w s:=⟨z,H,I,rw',q⟩
 exact subscriptTail_builtinR (x:=w) pl.typeIs slot_tuple_getitem.lookup
  (getItem_tuple (j:=j) (Q:=fun r s'=>r=w/\EP X pins σ Q r s') pl (by omega) (by omega) (by rw[ag,<- hl]; exact h1) (by simpa using ew) ⟨rfl,fin⟩) hs
theorem jKD (its:List Value)(n j:Nat)(u:Value):Obj.mapSeq (·.setIfInBounds j u) { cls:= .type "list",data:= .seq its.toArray n} = { cls:= .type "list",data:= .seq (its.set j u).toArray n} :=by
 simp [Obj.mapSeq]
theorem Inv.lst {pins:List (Addr×Obj)}{σ:St}{H:Hp}{s:Shared}{p:Addr}{xs:List V}(I:Inv X pins σ H s)(h:H p=some (.lst xs)):
  ∃ (its:List Value) (n:Nat),Vals xs its/\s.heap.get? p=some { cls:= .type "list",data:= .seq its.toArray n} /\xs.length<=sizeLine:=by
 obtain⟨z,its,n,r,e⟩:=I.hok p _ h
 exact⟨its,n,r,e,z⟩
theorem Inv.lstUpd {pins:List (Addr×Obj)}{σ:St}{H:Hp}{s:Shared}{p:Addr}{xs ys:List V}{its its':List Value}{n n':Nat}{f:Obj->Obj}(I:Inv X pins σ H s)(h:H p=some (.lst xs))
  (ho:s.heap.get? p=some { cls:= .type "list",data:= .seq its.toArray n}) (hf:f { cls:= .type "list",data:= .seq its.toArray n} = { cls:= .type "list",data:= .seq its'.toArray n'}) (r:Vals ys its') (hz:ys.length<=sizeLine) (t:Nat):
  Inv X pins σ (upd H p (.lst ys)) { s with heap:=s.heap.update p f,toks:=t} :=by
 have e:(s.heap.update p f).get? p=some { cls:= .type "list",data:= .seq its'.toArray n'} :=by
  rw[dH f ho (by rw[hf] <;> rfl),hf]
 refine I.write (x:=p) (e:=p) (by rw[h]; trivial) (.inl rfl) (fun b u hb q=>(cQ _ _ (fk hb)).trans q) ⟨_,e⟩ ?_
 exact⟨hz,its',n',r,e⟩
def rSetL:V->V->V->Hp->(Hp->Prop)->Prop:=fun o i v H Q=>∃ p xs k j,o= .ref p/\i= .int k/\H p=some (.lst xs)/\ixN xs.length k=some j/\Q (upd H p (.lst (xs.set j v)))
theorem jO7:PSet X rSetL:=by
 intro pins s σ H o i v ov iv u Q I ro ri rv h
 obtain⟨p,xs,k,j,rfl,rfl,hp,hj,q⟩:=h
 cases ro
 obtain⟨t,rfl⟩:=ri
 obtain⟨its,n,r,ho,hz⟩:=I.lst hp
 obtain⟨h1,h2,h3,h4⟩:=jN0 hj
 have hl:=r.length
 have hn:=jGU
 have I':Inv X pins σ (upd H p (.lst (xs.set j v))) { s with heap:=s.heap.update p (Obj.mapSeq (·.setIfInBounds j u))} :=
  I.lstUpd hp ho (jKD its n j u) (r.set rv j) (by rw[List.length_set]; exact hz) s.toks
 by_cases h0:0<=k
 ·have hk:k.toNat=j:=by
   rw[seqIndex_of h0 h4] at h1
   exact bg h1
  exact PySem.W.ki_setAt ho h0 (by omega) (by rw[ag,<- hl]; exact h4) (by rw[hk]; exact⟨_,I',q⟩)
 ·have hk:(k+(its.toArray.size:Int)).toNat=j:=by
   rw[seqIndex_neg (by omega) h3] at h1
   rw[ag,<- hl]
   exact bg h1
  exact PySem.W.ki_setBack ho (by omega) (by rw[ag,<- hl]; exact h3) (by omega) (by rw[hk]; exact⟨_,I',q⟩)
theorem jGF (lo hi:Option Int)(n:Nat):(sliceBounds lo hi none n).1=((HT.sIx n 0 lo:Nat):Int)/\(sliceBounds lo hi none n).2.1=((HT.sIx n n hi:Nat):Int)/\(sliceBounds lo hi none n).2.2=1:=by
 refine⟨?_,?_,rfl⟩
 ·cases lo with
  | none=>simp [sliceBounds,HT.sIx]
  | some i=>
   simp only [sliceBounds,HT.sIx,getD_none,show (1:Int)>0 by decide,gj]
   by_cases h:i<0
   ·simp only [h,gj] <;> omega
   ·simp only [h,jm] <;> omega
 ·cases hi with
  | none=>simp [sliceBounds,HT.sIx]
  | some i=>
   simp only [sliceBounds,HT.sIx,getD_none,show (1:Int)>0 by decide,gj]
   by_cases h:i<0
   ·simp only [h,gj] <;> omega
   ·simp only [h,jm] <;> omega
theorem jFA (its:List Value)(lo hi:Option Int):slicePick its.toArray lo hi none=((its.drop (HT.sIx its.length 0 lo)).take (HT.sIx its.length its.length hi - HT.sIx its.length 0 lo)).toArray:=by
 obtain⟨h1,h2,h3⟩:=jGF lo hi its.toArray.size
 unfold slicePick
 rw[h1,h2,h3]
 simp only [sliceRange_one,pick_run,ag] <;> rfl
def rSlL (K:W.Frag):V->Option Int->Option Int->Hp->VK->Prop:=fun x lo hi H Q=>∃ a xs,x= .ref a/\SqL K H a xs/\∀ p,H p=none->Q (.ref p) (upd H p (.lst (cutV xs lo hi)))
theorem jLH:SlR X (rSlL X.K):=by
 intro pins s σ H x v vl vu lo hi sl Q I rx hs pl pu h
 obtain⟨a,xs,rfl,hx,q⟩:=h
 cases rx
 obtain⟨its,r,ht,hz⟩:=I.list hx
 have hlen:=r.length
 refine⟨"list",_,slot_list_getitem.lookup,ht.isList.typeIs,?_⟩
 refine wpAny_getItem_list_slice ht.isList hs pl pu .none (by simp) ?_ (by rw[ag] <;> omega)
 rw[jFA,<- hlen]
 refine⟨.ref s.heap.objs.size,_,I.laid (t':=s.toks) (o:= .lst (cutV xs lo hi)) (fun b ob q=>af _ q) (ao _) ?_,rfl,q _ (I.hok.fresh (ao _))⟩
 exact⟨bb (jIE xs lo hi) hz,_,0,(r.drop (HT.sIx xs.length 0 lo)).take (HT.sIx xs.length xs.length hi - HT.sIx xs.length 0 lo),ax _ rfl⟩
def flatV:V->Bool
 | .non=>true
 | .bl _=>true
 | .int _=>true
 | .str _=>true
 | _=>false
def eqV:V->V->Bool
 | .non, .non=>true
 | .bl a, .bl b=>a==b
 | .bl a, .int b=>(if a then 1 else 0)==b
 | .int a, .bl b=>a==(if b then 1 else 0)
 | .int a, .int b=>a==b
 | .str a, .str b=>a==b
 | _,_=>false
theorem jQO {A:Around}{s:Shared}{y x:V}{u v:Value}(ry:RelV y u)(rx:RelV x v)(fy:flatV y=true)(fx:flatV x=true):SeqAt.EqAt A s u v (eqV y x):=by
 cases y with
 | non=>
  cases ry
  cases x with
  | non=>cases rx; exact SeqAt.EqAt.same _
  | bl b=>cases rx; exact SeqAt.EqAt.none_bool b
  | int b=>obtain⟨t,rfl⟩:=rx; exact SeqAt.EqAt.none_int b t
  | str b=>obtain⟨t,rfl⟩:=rx; exact SeqAt.EqAt.none_str b t
  | _=>exact absurd (show false=true from fx) aj
 | bl a=>
  cases ry
  cases x with
  | non=>cases rx; exact SeqAt.EqAt.bool_none a
  | bl b=>cases rx; exact SeqAt.EqAt.bool_bool a b
  | int b=>obtain⟨t,rfl⟩:=rx; exact SeqAt.EqAt.bool_int a b t
  | str b=>obtain⟨t,rfl⟩:=rx; exact SeqAt.EqAt.bool_str a b t
  | _=>exact absurd (show false=true from fx) aj
 | int a=>
  obtain⟨t',rfl⟩:=ry
  cases x with
  | non=>cases rx; exact SeqAt.EqAt.int_none a t'
  | bl b=>cases rx; exact SeqAt.EqAt.int_bool a t' b
  | int b=>obtain⟨t,rfl⟩:=rx; exact gJ a t' b t
  | str b=>obtain⟨t,rfl⟩:=rx; exact SeqAt.EqAt.int_str a t' b t
  | _=>exact absurd (show false=true from fx) aj
 | str a=>
  obtain⟨t',rfl⟩:=ry
  cases x with
  | non=>cases rx; exact SeqAt.EqAt.str_none a t'
  | bl b=>cases rx; exact SeqAt.EqAt.str_bool a t' b
  | int b=>obtain⟨t,rfl⟩:=rx; exact SeqAt.EqAt.str_int a t' b t
  | str b=>obtain⟨t,rfl⟩:=rx; exact SeqAt.EqAt.str_str a t' b t
  | _=>exact absurd (show false=true from fx) aj
 | _=>exact absurd (show false=true from fy) aj
def eqU (x:V)(u:Value):Bool:=match u with
 | .none=>eqV .non x
 | .bool b=>eqV (.bl b) x
 | .int i _=>eqV (.int i) x
 | .str z _=>eqV (.str z) x
 | _=>false
theorem jQN {x y:V}{u:Value}(r:RelV y u)(f:flatV y=true):eqU x u=eqV y x:=by
 cases y with
 | non=>cases r; rfl
 | bl b=>cases r; rfl
 | int i=>obtain⟨t,rfl⟩:=r; rfl
 | str z=>obtain⟨t,rfl⟩:=r; rfl
 | _=>exact absurd (show false=true from f) aj
theorem jEI {x:V} :∀ {xs:List V}{us:List Value},Vals xs us->xs.all flatV=true->us.any (eqU x)=xs.any fun y=>eqV y x
 | _,_, .nil,_=>rfl
 | y::xs,u::us, .cons r t,f=>by
  rw[fg,ci] at f
  rw[gk,gk,jQN r f.1,jEI t f.2]
theorem jCF {A:Around}{s:Shared}{x:V}{v:Value}(rx:RelV x v)(fx:flatV x=true):∀ {xs:List V}{us:List Value},Vals xs us->xs.all flatV=true->∀ u∈us,SeqAt.EqAt A s u v (eqU x u)
 | _,_, .nil,_=>fun u hu=>by cases hu
 | y::xs,u::us, .cons r t,f=>fun u' hu=>by
  rw[fg,ci] at f
  rcases aG.mp hu with rfl | hu
  ·rw[jQN r f.1]; exact jQO r rx f.1 fx
  ·exact jCF rx fx t f.2 u' hu
def inV (x:V)(xs:List V):Bool:=xs.any fun y=>eqV y x
def rIn (K:W.Frag)(neg:Bool):R2:=fun x y H Q=>∃ p xs,y= .ref p/\(SqL K H p xs\/SqT K H p xs)/\flatV x=true/\xs.all flatV=true/\Q (.bl (if neg then !inV x xs else inV x xs)) H
theorem jCB:OpR X (compareOp .In) (rIn X.K false):=by
 intro pins s σ H x y v u Q I rx ry h
 obtain⟨p,xs,rfl,hq,fx,fs,q⟩:=h
 cases ry
 rcases hq with hq | hq
 ·obtain⟨its,r,pl,hz⟩:=I.list hq
  refine SeqAt.in_listAt (eqU x) pl.isList (fun w hw=>jCF rx fx r fs w (by simpa using hw)) ⟨.bl _,H,I,rfl,?_⟩
  rw[show its.toArray.any (eqU x)=its.any (eqU x) by simp,jEI r fs]
  exact q
 ·obtain⟨its,r,pl,hz⟩:=I.tuple hq
  refine SeqAt.in_tupleAt (eqU x) pl (fun w hw=>jCF rx fx r fs w (by simpa using hw)) ⟨.bl _,H,I,rfl,?_⟩
  rw[show its.toArray.any (eqU x)=its.any (eqU x) by simp,jEI r fs]
  exact q
theorem jGM:OpR X (compareOp .NotIn) (rIn X.K true):=by
 intro pins s σ H x y v u Q I rx ry h
 obtain⟨p,xs,rfl,hq,fx,fs,q⟩:=h
 cases ry
 rcases hq with hq | hq
 ·obtain⟨its,r,pl,hz⟩:=I.list hq
  refine SeqAt.notIn_listAt (eqU x) pl.isList (fun w hw=>jCF rx fx r fs w (by simpa using hw)) ⟨.bl _,H,I,rfl,?_⟩
  rw[show its.toArray.any (eqU x)=its.any (eqU x) by simp,jEI r fs]
  exact q
 ·obtain⟨its,r,pl,hz⟩:=I.tuple hq
  refine SeqAt.notIn_tupleAt (eqU x) pl (fun w hw=>jCF rx fx r fs w (by simpa using hw)) ⟨.bl _,H,I,rfl,?_⟩
  rw[show its.toArray.any (eqU x)=its.any (eqU x) by simp,jEI r fs]
  exact q
theorem kB:yE X (.builtin "len") (fun xs H Q=>∃ p ys,xs=[.ref p]/\(SqL X.K H p ys\/SqT X.K H p ys)/\Q (.int ys.length) H):=by
 intro pins s σ H xs us Q I r h
 obtain⟨p,ys,rfl,hq,q⟩:=h
 obtain⟨u,rfl,rx⟩:=vals1 r
 cases rx
 have hn:=jGU
 rcases hq with hq | hq
 ·obtain⟨its,r',pl,hz⟩:=I.list hq
  have hlen:=r'.length
  exact Calls.call_len_list pl.isList (by simp only [ag] <;> omega) ⟨.int ys.length,H,I.tok _,⟨s.toks+1,by rw[ag,hlen]⟩,q⟩
 ·obtain⟨its,r',pl,hz⟩:=I.tuple hq
  have hlen:=r'.length
  exact len_tuple pl (by simp only [ag] <;> omega) ⟨.int ys.length,H,I.tok _,⟨s.toks+1,by rw[ag,hlen]⟩,q⟩
theorem jM:yE X (.type "tuple") (fun xs H Q=>∃ p ys,xs=[.ref p]/\((SqL X.K H p ys/\∀ l,H l=none->Q (.ref l) (upd H l (.tup ys)))\/(SqT X.K H p ys/\Q (.ref p) H))):=by
 intro pins s σ H xs us Q I r h
 obtain⟨p,ys,rfl,h⟩:=h
 obtain⟨u,rfl,rx⟩:=vals1 r
 cases rx
 rcases h with ⟨hq,q⟩ | ⟨hq,q⟩
 ·obtain⟨its,r',pl,hz⟩:=I.list hq
  have hlen:=r'.length
  refine call_tuple_list pl.isList (fun h' kp=>?_) (by simp only [ag] <;> omega)
  have I1:Inv X pins σ H { s with heap:=h'} :=I.kept (t':=s.toks) kp
  have I2:Inv X pins σ (upd H h'.objs.size (.tup ys)) { s with heap:=h'.push { cls:= .type "tuple",data:= .seq its.toArray}} :=
   I1.laid (t':=s.toks) (fun b o e=>af _ e) (ao _) (show ObjOk X.prog X.w _ _ _ (.tup ys) from ⟨hz,its,r',TupO.new _ _⟩)
  exact⟨.ref h'.objs.size,_,I2,rfl,q _ (I1.hok.fresh (ao _))⟩
 ·obtain⟨its,r',pl,hz⟩:=I.tuple hq
  exact call_tuple_same pl ⟨.ref p,H,I,rfl,q⟩
def tyV (K:W.Frag)(T:String)(x:V)(H:Hp):Prop:=match x with
 | .str _=>T= "str"
 | .int _=>T= "int"
 | .ref p=>(T= "list" /\∃ xs,SqL K H p xs)\/(T= "tuple" /\∃ o,K.lookup p=some o/\o.cls= .type "tuple" /\o.dict=none)\/
   (T= "dict" /\((∃ kvs,H p=some (.dK kvs))\/∃ kvs,H p=some (.dT kvs)))\/(T= "set" /\∃ S n,H p=some (.set S n))
 | _=>False
theorem jPV {pins:List (Addr×Obj)}{σ:St}{H:Hp}{s:Shared}{T:String}{x:V}{v:Value}(I:Inv X pins σ H s)(r:RelV x v)(ty:tyV X.K T x H):
  s.TypeIs v T/\∀ a,v= .ref a->∃ ob,s.heap.get? a=some ob/\ob.dict=none:=by
 cases x with
 | str z=>
  obtain⟨t,rfl⟩:=r
  cases (show T= "str" from ty)
  exact⟨typeIs_str s z t,fun _ e=>nomatch e⟩
 | int i=>
  obtain⟨t,rfl⟩:=r
  cases (show T= "int" from ty)
  exact⟨typeIs_int s i t,fun _ e=>nomatch e⟩
 | ref p=>
  cases r
  rcases ty with ⟨rfl,xs,hq⟩ | ⟨rfl,o,hk,hc,hd⟩ | ⟨rfl,hk⟩ | ⟨rfl,S,n,hk⟩
  ·obtain⟨its,_,pl,_⟩:=I.list hq
   refine⟨pl.isList.typeIs,fun a e=>?_⟩
   cases e
   obtain⟨o,n,e,c,hd,_⟩:=pl
   exact⟨o,e,hd⟩
  ·refine⟨⟨o,I.kIn p o hk,hc⟩,fun a e=>?_⟩
   cases e
   exact⟨o,I.kIn _ o hk,hd⟩
  ·have z:∃ o,s.heap.get? p=some o/\o.ExactDict:=by
    rcases hk with ⟨kvs,hk⟩ | ⟨kvs,hk⟩
    ·obtain⟨_,_,_,_,o,_,_,e,ex,_⟩:=I.hok p _ hk
     exact⟨o,e,ex⟩
    ·obtain⟨_,_,_,_,o,_,_,e,ex,_⟩:=I.hok p _ hk
     exact⟨o,e,ex⟩
   obtain⟨o,e,ex⟩:=z
   refine⟨⟨o,e,ex.1⟩,fun a e2=>?_⟩
   cases e2
   exact⟨o,e,ex.2.1⟩
  ·obtain⟨o,_,_,_,e,ex,_⟩:=I.hok p _ hk
   refine⟨⟨o,e,ex.1⟩,fun a e2=>?_⟩
   cases e2
   exact⟨o,e,ex.2.1⟩
 | _=>exact False.elim ty
def tBM0 (K:W.Frag)(T:String)(r:V->List V->Hp->VK->Prop)(to:TE):TE:=fun σ H Q=>to σ H fun x H1=>tyV K T x H1/\r x [] H1 Q
def tBM (K:W.Frag)(T:String)(r:V->List V->Hp->VK->Prop)(to:TE)(t:TA):TE:=fun σ H Q=>to σ H fun x H1=>tyV K T x H1/\t σ H1 fun xs H2=>r x xs H2 Q
variable {o e:Expr}{es:List Expr}{to:TE}{t:TA}{name:Str}{apos cpos:Pos}{T id:String}{r:V->List V->Hp->VK->Prop}
theorem jTX (pa:PlainAttrs T)(slot:Slot T name id)(hty:typeOf (.builtin id)=pure (.type "method_descriptor"))(hm:MtR X id r)(ho:PE X o to)
  (hbase:attributeBase o name X.env (eval o X.env)=eval o X.env:=by rfl) (hline:(apos.endLine==cpos.line)=true:=by rfl):PE X (.Call (.Attribute o name apos) [] [] cpos) (tBM0 X.K T r to):=by
 intro pins s σ H Q I h
 refine wpAny_Call_method0_late hbase hline (thn (ho pins s σ H _ I h) fun v s1 ⟨x,H1,I1,r1,ty,q1⟩=>?_)
 obtain⟨h1,h2⟩:=jPV I1 r1 ty
 exact⟨T,id,pa,slot,hty,h1,h2,Calls.callWith_builtin rfl (PySem.evalArgs_none (hm pins s1 σ H1 x [] v [] Q I1 r1 .nil q1))⟩
theorem pe_bm (pa:PlainAttrs T)(slot:Slot T name id)(hty:typeOf (.builtin id)=pure (.type "method_descriptor"))(hm:MtR X id r)(ho:PE X o to)(ha:PA X (e::es) t)
  (hbase:attributeBase o name X.env (eval o X.env)=eval o X.env:=by rfl)
  (hfew:((backTo cpos (starEach (e::es) X.env)).all (fun x=>!x.1)&&(backToKw cpos (keywordEach [] X.env)).all (fun x=>x.1.isSome)
   &&decide ((e::es).length+([]:List Keyword).length+(if ([]:List Keyword).isEmpty then 0 else 1)<30))=true:=by rfl)
  (hline:(apos.endLine==cpos.line)=true:=by rfl) (hs:starEach (e::es) X.env=(false,eval e X.env)::starEach es X.env:=by rfl) (hplain:(backTo cpos (starEach es X.env)).any (·.1)=false:=by rfl):
  PE X (.Call (.Attribute o name apos) (e::es) [] cpos) (tBM X.K T r to t):=by
 intro pins s σ H Q I h
 refine wpAny_Call_method_late hbase hfew hline rfl (thn (ho pins s σ H _ I h) fun v s1 ⟨x,H1,I1,r1,ty,q1⟩=>?_)
 obtain⟨h1,h2⟩:=jPV I1 r1 ty
 refine⟨T,id,pa,slot,hty,h1,h2,?_⟩
 have hA:=ha cpos pins s1 σ H1 _ I1 q1
 rw[hs] at hA ⊢
 refine Calls.callWith_builtin (by show (false || (backTo cpos (starEach es X.env)).any (·.1))=false; rw[hplain] <;> rfl) (eL ?_)
 exact thn hA fun us s2 ⟨vs,H2,I2,r2,q2⟩=>hm pins s2 σ H2 x vs v us Q I2 r1 r2 q2
/- xs.append(e),list.index on a module's tuple .. are MtR facts of 06m -/
end
end L2
namespace L2
open PySem PySem.Spec PyProof.Rows
def MtM (X:Cx)(id:String)(r:V->List V->Hp->VK->Prop):Prop:=
 ∀ (pins:List (Addr×Obj)) (s:Shared) (σ:St) (H:Hp) (x:V) (xs:List V) (v:Value) (us:List Value) (Q:VK),Inv X pins σ H s->RelV x v->Vals xs us->r x xs H Q->
  wpAny (model X.prog X.w) X.A (call (.builtin id) (v::us)) (EP X pins σ Q) X.xe s
theorem Vals.one:∀ {x:V}{us:List Value},Vals [x] us->∃ u,us=[u]/\RelV x u
 | _,_, .cons r .nil=>⟨_,rfl,r⟩
theorem Vals.two:∀ {x y:V}{us:List Value},Vals [x,y] us->∃ u v,us=[u,v]/\RelV x u/\RelV y v
 | _,_,_, .cons r (.cons q .nil)=>⟨_,_,rfl,r,q⟩
theorem Vals.zero:∀ {us:List Value},Vals [] us->us=[]
 | _, .nil=>rfl
theorem Vals.dropLast {xs:List V}{us:List Value}(h:Vals xs us):Vals xs.dropLast us.dropLast:=by
 induction h with
 | nil=>exact .nil
 | cons r t ih=>
  cases t with
  | nil=>exact .nil
  | cons q t'=>exact .cons r ih
theorem jKP {α:Type}(l:List α):l.eraseIdx (l.length - 1)=l.dropLast:=by
 induction l with
 | nil=>rfl
 | cons a r ih=>
  cases r with
  | nil=>rfl
  | cons b r=>
   have e:(a::b::r).length - 1=((b::r).length - 1)+1:=by
    have h1:(a::b::r).length=r.length+2:=rfl
    have h2:(b::r).length=r.length+1:=rfl
    omega
   rw[e,List.eraseIdx_cons_succ,ih]
   all_goals rfl
section
variable {X:Cx}{pins:List (Addr×Obj)}{σ:St}{H:Hp}{s:Shared}{l b:Addr}{xs ys zs:List V}
theorem Inv.lset {its its':List Value}{n:Nat}{f:Array Value->Array Value}{t':Nat}(I:Inv X pins σ H s)(hH:H l=some (.lst xs))
  (e:s.heap.get? l=some { cls:= .type "list",data:= .seq its.toArray n}) (hf:f its.toArray=its'.toArray) (hv:Vals ys its') (hz:ys.length<=sizeLine):
  Inv X pins σ (upd H l (.lst ys)) { s with heap:=s.heap.update l (Obj.mapSeq f),toks:=t'} :=by
 have q:=PySem.IsL.update e f
 rw[hf] at q
 refine I.write (x:=l) (e:=l) (by rw[hH]; exact trivial) (.inl rfl) (fun b' u hb hu=>(cQ s.heap (Obj.mapSeq f) (fk hb)).trans hu) ⟨_,q⟩ ?_
 exact⟨hz,its',_,hv,q⟩
theorem Inv.lnew {its:List Value}{t':Nat}(I:Inv X pins σ H s)(hv:Vals ys its)(hz:ys.length<=sizeLine):
  Inv X pins σ (upd H s.heap.objs.size (.lst ys)) { s with heap:=s.heap.push { cls:= .type "list",data:= .seq its.toArray},toks:=t'} :=
 I.laid (fun _ _ q=>af _ q) (ao _) ⟨hz,its,0,hv,ax _ rfl⟩
theorem Inv.fresh (I:Inv X pins σ H s):H s.heap.objs.size=none:=I.hok.fresh (ao _)
theorem Inv.lstM (I:Inv X pins σ H s)(hH:H l=some (.lst xs)):xs.length<=sizeLine/\∃ (its:List Value) (n:Nat),Vals xs its/\xs.length=its.length/\s.heap.get? l=some { cls:= .type "list",data:= .seq its.toArray n} :=by
 obtain⟨z,its,n,r,e⟩:=I.hok l _ hH
 exact⟨z,its,n,r,r.length,e⟩
theorem jOT {n:Nat}(h:n<=sizeLine):Builtin.List.listTooLong n=false:=by
 unfold Builtin.List.listTooLong
 exact aH (by omega)
end
section
variable {X:Cx}
def jR4:V->List V->Hp->VK->Prop:=fun x vs H Q=>∃ l xs y,x= .ref l/\vs=[y]/\H l=some (.lst xs)/\xs.length<sizeLine/\Q .non (upd H l (.lst (xs++[y])))
theorem jB8:MtM X "list.append" jR4:=by
 intro pins s σ H x vs v us Q I rx rv h
 obtain⟨l,xs,y,rfl,rfl,hH,hz,q⟩:=h
 cases rx
 obtain⟨u,rfl,ru⟩:=rv.one
 obtain⟨z,its,n,r,hl,e⟩:=I.lstM hH
 refine gK F.slot_list_append ⟨_,e,rfl⟩ F.entry_list_append (F.args_list_append_2 _ _) (PySem.list_append l its.toArray n u (by rw[ag]; omega)) ⟨e,?_⟩
 refine⟨.non,_,I.lset (its':=its++[u]) hH e (by simp) (r.append (.cons ru .nil)) ?_,rfl,q⟩
 rw[aB,iP]
 omega
def rPop:V->List V->Hp->VK->Prop:=fun x vs H Q=>∃ l xs y,x= .ref l/\vs=[]/\H l=some (.lst xs)/\xs[xs.length - 1]?=some y/\Q y (upd H l (.lst xs.dropLast))
theorem jUD:MtM X "list.pop" rPop:=by
 intro pins s σ H x vs v us Q I rx rv h
 obtain⟨l,xs,y,rfl,rfl,hH,hy,q⟩:=h
 cases rx
 have hus:=rv.zero
 subst hus
 obtain⟨z,its,n,r,hl,e⟩:=I.lstM hH
 obtain⟨u,hu,ru⟩:=r.get hy
 have hy':its.toArray[its.toArray.size - 1]?=some u:=by
  show its.toArray[its.length - 1]?=some u
  rw[<- bD,<- hl]
  exact hu
 refine gK F.slot_list_pop ⟨_,e,rfl⟩ F.entry_list_pop (F.args_list_pop_1 _) (MeetsSeq.list_pop_last l its.toArray n u hy' (by rw[ag]; omega)) ⟨e,?_⟩
 refine⟨y,_,I.lset (its':=its.dropLast) hH e ?_ r.dropLast ?_,ru,q⟩
 ·show its.toArray.eraseIdxIfInBounds (its.toArray.size - 1)=its.dropLast.toArray
  rw[ag,List.eraseIdxIfInBounds_toArray,jKP]
 ·rw[List.length_dropLast]
  omega
def rCat:R2:=fun x y H Q=>∃ l b xs zs,x= .ref l/\y= .ref b/\H l=some (.lst xs)/\H b=some (.lst zs)/\xs.length+zs.length<=sizeLine/\∀ p,H p=none->Q (.ref p) (upd H p (.lst (xs++zs)))
theorem jU4:OpR X (binaryOp .Add) rCat:=by
 intro pins s σ H x y v u Q I rx ry h
 obtain⟨l,b,xs,zs,rfl,rfl,hH,hB,hz,q⟩:=h
 cases rx
 cases ry
 obtain⟨z,its,n,r,hl,e⟩:=I.lstM hH
 obtain⟨z2,its2,n2,r2,hl2,e2⟩:=I.lstM hB
 refine PySem.P.add_list e e2 ?_ (by rw[ag,ag]; omega)
 have ea:its.toArray++its2.toArray=(its++its2).toArray:=by simp
 rw[ea]
 exact⟨.ref _,_,I.lnew (t':=s.toks) (r.append r2) (by rw[aB]; omega),rfl,q _ I.fresh⟩
end
section
variable {prog:Program}{w:World}{A:Around}{E:Value->Shared->Prop}{s:Shared}
set_option maxRecDepth 100000 in
end
section
variable {X:Cx}
end
end L2
namespace Att
open PySem PySem.W PySem.Calls PyProof.Rows
theorem jE9 {P:Params}{h:Heap} :∀ (ns:List Int) (vs:List Value),WellAll P h vs (ns.map WData.int)->IntsAre vs ns:=by
 intro ns
 induction ns with
 | nil=>
  intro vs w
  rw[iA] at w
  cases w
  exact .nil
 | cons n ns ih=>
  intro vs w
  rw[bu] at w
  cases w with
  | cons a b=>
   cases a
   exact .cons _ _ (ih _ b)
theorem jLJ {l:OpenLaw}{n:Nat}(hn:l.most=some n){P:Params}{h:Heap}{args:List WData}{vals:List Value}
  (hpre:l.row.toRowW.claim.pre args=true) (hwl:WellAll P h vals args):
  ∃ a vs ns,vals=[Value.ref a]/\args=[WData.list (ns.map WData.int)]/\h.get? a=some { cls:= .type "list",data:= .seq vs.toArray} /\IntsAre vs ns/\ns.length<=n:=by
 have hsh:WShape.hasAll [] args [.list .int]=true:=(pre_splitW hpre).1
 have hc:l.pre.holds [] { args:=args} =true:=(pre_splitW hpre).2
 obtain⟨d,r,rfl,h1,h2⟩:=hasAllW_cons hsh
 obtain rfl:=hasAllW_nil h2
 obtain⟨xs,rfl,h3⟩:=hasW_list h1
 obtain⟨ns,rfl⟩:=items_int h3
 have hlen:ns.length<=n:=by
  unfold OpenLaw.pre at hc
  have h4:(WTm.not (.lt (.lit (.int (n:Int))) (.len (.arg 0)))).holds [] { args:=[.list (ns.map .int)]} =true:=by
   have h4:=(holds_andW hc).1
   rw[hn] at h4
   exact h4
  have h5:=condW_of h4 (w_not (w_lt w_lit (w_len_list (w_arg rfl))))
  rw[ae] at h5
  refine Nat.le_of_not_lt fun q=>?_
  have q':(n:Int)<((ns.length:Nat):Int):=by omega
  first
   | (rw[ar q'] at h5; exact absurd h5 (by decide))
   | (simp at h5; omega)
 cases hwl with
 | cons w1 w2=>
  cases w2
  cases w1 with
  | list ho hall=>exact⟨_,_,ns,rfl,rfl,ho,jE9 ns _ hall,hlen⟩
theorem jLQ (l:OpenLaw)(args:List WData):l.row.toRowW.claim.post args (.bool true) args=true:=
 postW_of (r:=l.row.toRowW) (X:=(true==true))
  (show WShape.has [] (.bool true) .bool=true by first | rfl | decide | simp [WShape.has,WShape.arms,WShape.armsAll])
  (show (WTm.eq .res (.lit (.bool true))).value [] { args:=args,res:=some (.bool true),after:=args} =some (.bool (true==true)) from w_eq_bool (w_res rfl) w_lit) rfl
theorem attach_call {l:OpenLaw}{n:Nat}{q:Program}{loose:List Str}{XP:(Str->Option Value)->Heap->Prop}{YP:World->Heap->Prop}{d:DefRec}
  (hn:l.most=some n) (hdf:d.params.defaults=[])
  (call:∀ (w:World) (s₀ s₁:Shared) (mg mb:Str->Option Value) (fa:Addr) (o:Obj) (pm cd doc:Value) (a:Addr) (vs:List Value) (ns:List Int),
   Ground q loose [] XP w s₀ mg mb s₁.heap->YP w s₁.heap->
   s₁.heap.get? fa=some o->o.data= .func (docDef d.name d.params d.body d.scope pm cd doc)->s₁.heap.CodeRec cd d.name->mg d.name=some (.ref fa)->
   s₁.heap.get? a=some { cls:= .type "list",data:= .seq vs.toArray} ->IntsAre vs ns->ns.length<=n->s₁.gens=#[]->
   codeAny (model l.prog w) callerA (.call (.ref fa) ⟨[.ref a],[]⟩) (fun r s'=>r= .ok (.ret (.bool true))/\OldK s₁.heap s'.heap/\s'.os=s₁.os/\AllBare s'.gens) s₁):
  WalkO q loose XP YP l.row.toRowW d [] (fun f vs=>PySem.call f vs):=by
 intro w s₀ s₁ mg mb G Y fa o pm cd doc dV kV ho hd hcd hD hmg hg args vals as hpre hlay hrd hwl hlo
 obtain rfl:dV= .none:=Dflts.none hD hdf
 obtain rfl:kV= .none:=Dflts.noKw hD
 obtain⟨a,vs,ns,rfl,rfl,hobj,hints,hlen⟩:=jLJ hn hpre hwl
 refine enter_call (dQ (call w s₀ s₁ mg mb fa o pm cd doc a vs ns G Y ho (fd_plain hd) hcd hmg hobj hints hlen hg) fun r s' hq=>?_)
 obtain⟨rfl,h2,h3,h4⟩:=hq
 exact⟨.inl ⟨.bool true, .bool true,[],rfl,fun _=>rfl, .bool true,jLQ l _,fun _=>⟨List.Pairwise.nil,fun _ hm=>(nomatch hm)⟩⟩,h2,h3,h4⟩
section
variable {prog:Program}{w:World}{A:Around}{E:Value->Shared->Prop}{s:Shared}{K:Frag}
end
end Att
namespace L2
open PySem PySem.Spec PyProof.Rows
theorem jG8:∀ {vs:List Value}{ns:List Int},IntsAre vs ns->Vals (ns.map V.int) vs
 | _,_, .nil=> .nil
 | _,_, .cons n t h=> .cons ⟨t,rfl⟩ (jG8 h)
end L2
namespace L2
open PySem PySem.Spec PyProof.Rows
end L2
/- THE LAST THEOREM (shape; LID,My.* are yours):
  My.Adr:a structure of the addresses that your layer names (classes,functions); My.Txt K t:a structure (Prop) of the equations over K;
  My.txt_mk: {K} {implicit addresses ..} (e1:nsIn K mainGlobals "law" =some (some (.ref f))) (e2:K.lookup f=some ⟨oc,od, .func (fnOf "law" "law" params body scope dV kV doc pm an cdv ct),sl⟩) (e3:codeIn K cdv "law" =true) .. :∃ t,My.Txt K t
set_option maxRecDepth 100000 in
set_option maxHeartbeats 0 in
theorem PySem.Challenge.cw_LID_holds : PySem.Challenge.rw_LID.Holds := by
 w_on; o_law; k_head; (case hw=>w_witness2)
 k_fill
 refine L2.walk_of (l:=PySem.Challenge.rw_LID) (n:=63) (k:=40) (x:= "script") (CX:=fun w=> ..) (sp:=fun _=>My.sp_law) rfl (by decide) rfl ⟨rfl,by decide,by decide⟩ (fun w h Y=>PySem.W.kIn_of Y) ?F ?S ?C
 case F=>
  intro w mg fa h KX G hmg
  have T:∃ t,My.Txt (L2.KOf KX) t:=by
   dsimp only [L2.KOf] -- K must stand as «<heap const>w.params» for k_is
   refine' My.txt_mk ?e1 ?e2 ?e3 ..
   (case e1=>PySem.W.k_is) -- in the order:a name->its address->its object->its parts
   (case e2=>PySem.W.k_is)
   ..
  obtain⟨t,T⟩:=T
  have e0:=hmg.symm.trans (gn KX G T.law)
  cases e0 -- fa is the law's own address
  exact⟨_,fun s u=> .of_eq rfl,fun base kb nb=>My.law_fn T kb nb⟩ -- if «.of_eq rfl» comes too early:refine' ⟨_,?b,fun base kb nb=>My.law_fn T kb nb⟩; exact fun s u=> .of_eq rfl
 case S=>exact fun w H a ns hl hO hS=> ..
 case C=>exact ..
(the tactic k_is has no namespace:write k_is) -/
namespace L2
open PySem PySem.Spec PyProof.Rows
abbrev CX0:CXT:=fun _ _ _ _ _ _=>False
abbrev E0:XK:=fun _ _ _=>False
theorem pass0 {X:Cx} :jNZ CX0 X E0:=fun _ _ _ _ _ _ _ h=>h.elim
structure Fun (K:W.Frag)(x qual:Str)(st:Stmt)(f:Addr)(fd:FuncData):Prop where
 ex:∃ (oc:Value) (od:Option Addr) (kV doc pm:Value) (an:Option Addr) (cdv ct:Value) (osl:Array (Option Value)),
  fd=PySem.W.fnOf x qual (jG st) (jB st) (j6 st) .none kV doc pm an cdv ct/\K.lookup f=some ⟨oc,od, .func fd,osl⟩/\PySem.W.codeIn K cdv qual=true
 kp:keepIn K (.ref f)=true
section
variable {P:Program}{w:World}{K:W.Frag}{mg:Str->Option Value}{base:Heap}
theorem Fun.ok {x qual:Str}{st:Stmt}{f:Addr}{fd:FuncData}{N ps:List Str}{k:Nat}{sp:Sp}(F:Fun K x qual st f fd)(S:FnScope N ps (j6 st))(len:∀ vs H Q E,sp vs H Q E->vs.length=ps.length)
  (hbody:∀ (cdv:Value) (A:Around) (outer:List Env) (s:Shared) (H:Hp) (vs:List V) (Q:VK) (E:XK),Room k (A.deeper (envOfC qual (j6 st) s.heap.objs.size f cdv))->sp vs H Q E->
   ∃ t,PSs (cxOf CX0 P w K mg base N qual (j6 st) f cdv A outer s H E).nox (jB st) t/\t { nx:=fun _ H'=>Q .non H',rt:=Q} (y4 N vs) H):FnOk P w K mg base CX0 (k+1) f fd ps sp:=by
 obtain⟨oc,od,kV,doc,pm,an,cdv,ct,osl,rfl,lk,hcd⟩:=F.ex
 refine fn_of lk hcd S len fun A outer s H vs Q E hr hsp=>?_
 obtain⟨t,h,q⟩:=hbody cdv A outer s H vs Q E hr hsp
 exact⟨t,h.nox,q⟩
theorem Fun.binds {x qual:Str}{st:Stmt}{f:Addr}{fd:FuncData}{ps:List Str}(F:Fun K x qual st f fd)
  (h:∀ (kV doc pm:Value) (an:Option Addr) (cdv ct:Value) (us:List Value),us.length=ps.length->bindArgs (PySem.W.fnOf x qual (jG st) (jB st) (j6 st) .none kV doc pm an cdv ct) ⟨us,[]⟩=pure (ps.zip us)):Binds K fd ps []:=by
 obtain⟨oc,od,kV,doc,pm,an,cdv,ct,osl,rfl,lk,hcd⟩:=F.ex
 exact .all (h kV doc pm an cdv ct)
theorem kJ {x qual:Str}{st:Stmt}{f:Addr}{oc:Value}{od an:Option Addr}{osl:Array (Option Value)}{kV doc pm cdv ct:Value}(l:K.lookup f=some ⟨oc,od, .func (PySem.W.fnOf x qual (jG st) (jB st) (j6 st) .none kV doc pm an cdv ct),osl⟩)
  (c:PySem.W.codeIn K cdv qual=true) (k:keepIn K (.ref f)=true):Fun K x qual st f (PySem.W.fnOf x qual (jG st) (jB st) (j6 st) .none kV doc pm an cdv ct):=⟨⟨oc,od,kV,doc,pm,an,cdv,ct,osl,rfl,l,c⟩,k⟩
end
theorem hu_of {A:Around}{k:Nat}(hr:Room k A):A.units+1<cLine:=jc (Nat.add_le_add_left (by decide:1<=64) _) hr.units
section
variable {X:Cx}
theorem pv (i:Nat){x:Str}{pos:Pos}(hN:X.N[i]?=some x:=by rfl)(hv:Vis X.env.scope x:=by first | exact Or.inl rfl | exact Or.inr (Or.inl rfl) | exact Or.inr (Or.inr rfl))(hd:(x==("__debug__" :Str))=false:=by decide)
  (hcd:(x==("__classdict__" :Str))=false:=by decide):PE X (.Name x pos) (tVar i):=jGK hN hv hd hcd
end
theorem iteF {A B:Prop}(h:B):if false=true then A else B:=by
 rw[am aj]
 exact h
theorem iteT {A B:Prop}(h:A):if true=true then A else B:=by
 rw[aq rfl]
 exact h
theorem ite2 {c A B:Prop} [Decidable c](h1:c->A)(h2:¬ c->B):if c then A else B:=by
 by_cases h:c
 ·rw[aq h]
  exact h1 h
 ·rw[am h]
  exact h2 h
def jN (cells:List (Str×Addr)):List (Str×NameKind)->List (Str×Addr)->List (Str×Addr)
 | [],acc=>acc
 | (n,k)::r,acc=>if k= .free then jN cells r ((n,(cells.lookup n).getD 0)::acc) else jN cells r acc
theorem jD3 {env:Env} :∀ (l:List (Str×NameKind)) (acc:List (Str×Addr)),(∀ y∈l,y.2= .free->∃ c,env.cells.lookup y.1=some c)->
  (forIn l acc fun (x:Str×NameKind) (cs:List (Str×Addr))=>(if (x.2==NameKind.free)=true then (do let a <- cellOf env x.1; pure (ForInStep.yield ((x.1,a)::cs))) else pure (ForInStep.yield cs):Sem (ForInStep (List (Str×Addr)))))=pure (jN env.cells l acc)
 | [],acc,_=>rfl
 | (n,k)::r,acc,h=>by
  have hr:∀ y∈r,y.2= .free->∃ c,env.cells.lookup y.1=some c:=fun y hy=>h y (aK _ hy)
  rw[List.forIn_cons]
  by_cases hk:k= .free
  ·subst hk
   obtain⟨c,hc⟩:=h (n, .free) aE rfl
   have e:cellOf env n=pure c:=by unfold cellOf; rw[hc]
   have e2:jN env.cells ((n,NameKind.free)::r) acc=jN env.cells r ((n,c)::acc):=by
    show (if NameKind.free=NameKind.free then jN env.cells r ((n,(env.cells.lookup n).getD 0)::acc) else _)=_
    rw[aq rfl,hc]; rfl
   rw[e2,<- jD3 r ((n,c)::acc) hr]
   show ((do let a <- cellOf env n; pure (ForInStep.yield ((n,a)::acc))) >>= _)=_
   rw[e]; rfl
  ·have hb:(k==NameKind.free)=false:=by cases k <;> first | rfl | exact absurd rfl hk
   have e2:jN env.cells ((n,k)::r) acc=jN env.cells r acc:=by
    show (if k=NameKind.free then _ else jN env.cells r acc)=_
    rw[am hk]
   rw[e2,<- jD3 r acc hr]
   show ((if (k==NameKind.free)=true then _ else pure (ForInStep.yield acc)) >>= _)=_
   rw[hb]; rfl
theorem jII {env:Env}{sc:Scope}(h:∀ y∈sc.names,y.2= .free->∃ c,env.cells.lookup y.1=some c):closureFor sc env=pure (jN env.cells sc.names []):=by
 unfold closureFor
 show (forIn sc.names [] _ >>= fun cs=>pure cs)=_
 rw[show (forIn sc.names ([]:List (Str×Addr)) _:Sem _)=_ from jD3 sc.names [] h]
 rfl
theorem jAG {cells:List (Str×Addr)} :∀ (l:List (Str×NameKind)) (acc:List (Str×Addr)),(∀ y∈l,y.2= .free->∃ c,cells.lookup y.1=some c)->
  (∀ x c,acc.lookup x=some c->cells.lookup x=some c)->∀ x c,(jN cells l acc).lookup x=some c->cells.lookup x=some c
 | [],acc,_,ha=>ha
 | (n,k)::r,acc,h,ha=>by
  have hr:∀ y∈r,y.2= .free->∃ c,cells.lookup y.1=some c:=fun y hy=>h y (aK _ hy)
  unfold jN
  by_cases hk:k= .free
  ·rw[aq hk]
   obtain⟨c0,hc⟩:=h (n,k) aE hk
   refine jAG r _ hr fun x c e=>?_
   rw[bB] at e
   cases hx:x==n with
   | true=>
    rw[hx] at e
    have exn:x=n:=eq_of_beq hx
    subst exn
    have hc':cells.lookup x=some c0:=hc
    rw[hc'] at e ⊢
    exact e
   | false=>rw[hx] at e; exact ha x c e
  ·rw[am hk]; exact jAG r acc hr ha
theorem jAV {cells:List (Str×Addr)}{x:Str} :∀ (l:List (Str×NameKind)) (acc:List (Str×Addr)),((x,NameKind.free)∈l\/∃ c,acc.lookup x=some c)->∃ c,(jN cells l acc).lookup x=some c
 | [],acc,h=>by
  rcases h with h | h
  ·cases h
  ·exact h
 | (n,k)::r,acc,h=>by
  unfold jN
  by_cases hk:k= .free
  ·rw[aq hk]
   refine jAV r _ ?_
   by_cases e:x=n
   ·subst e
    exact .inr ⟨_,by rw[bB,io]⟩
   ·rcases h with h | ⟨c,h⟩
    ·rcases aG.mp h with q | q
     ·cases q; exact absurd rfl e
     ·exact .inl q
    ·refine .inr ⟨c,?_⟩
     rw[bB,cY.mpr e]
     exact h
  ·rw[am hk]
   refine jAV r _ ?_
   rcases h with h | h
   ·rcases aG.mp h with q | q
    ·cases q; exact absurd rfl hk
    ·exact .inl q
   ·exact .inr h
theorem jAT {x:Str}{k:NameKind} :∀ {l:List (Str×NameKind)},l.lookup x=some k->(x,k)∈l
 | [],h=>by cases h
 | (n,k')::r,h=>by
  rw[bB] at h
  cases hx:x==n with
  | true=>rw[hx] at h; cases h; rw[eq_of_beq hx]; exact aE
  | false=>rw[hx] at h; exact aK _ (jAT h)
theorem jCV {env:Env}{x:Str}{k:NameKind}(hk:k= .cell\/k= .free):∀ {l:List (Str×NameKind)},(∀ y∈l,y.2≠ .cell)->
  (l.map fun (n,k)=>if (k==NameKind.free&&env.scope.kind== .function&&env.kindOf n==some .cell) then (n,NameKind.cell) else (n,k)).lookup x=some k->l.lookup x=some .free
 | [],_,h=>by simp at h
 | (n,k')::r,hc,h=>by
  have ih:= @jCV env x k hk r (fun y hy=>hc y (aK _ hy))
  have hc0:k'≠ .cell:=hc (n,k') aE
  rw[bB]
  rw[bu] at h
  dsimp only at h
  by_cases hb:(k'==NameKind.free&&env.scope.kind== .function&&env.kindOf n==some .cell)=true
  ·rw[aq hb,bB] at h
   cases hx:x==n with
   | true=>
    have:k'= .free:=by
     simp only [ci] at hb
     exact eq_of_beq hb.1.1
    rw[this]
   | false=>rw[hx] at h; exact ih h
  ·rw[am hb,bB] at h
   cases hx:x==n with
   | true=>
    rw[hx] at h
    have e:k'=k:=bg h
    rcases hk with q | q
    ·exact absurd (e.trans q) hc0
    ·rw[e,q]
   | false=>rw[hx] at h; exact ih h
theorem jBJ {env:Env}{x:Str} :∀ {l:List (Str×NameKind)},l.lookup x=some .free->
  (l.map fun (n,k)=>if (k==NameKind.free&&env.scope.kind== .function&&env.kindOf n==some .cell) then (n,NameKind.cell) else (n,k)).lookup x=some .cell\/
  (l.map fun (n,k)=>if (k==NameKind.free&&env.scope.kind== .function&&env.kindOf n==some .cell) then (n,NameKind.cell) else (n,k)).lookup x=some .free
 | [],h=>by cases h
 | (n,k')::r,h=>by
  have ih:= @jBJ env x r
  rw[bB] at h
  rw[bu]
  dsimp only
  by_cases hb:(k'==NameKind.free&&env.scope.kind== .function&&env.kindOf n==some .cell)=true
  ·rw[aq hb,bB]
   cases hx:x==n with
   | true=>exact .inl rfl
   | false=>rw[hx] at h; exact ih h
  ·rw[am hb,bB]
   cases hx:x==n with
   | true=>rw[hx] at h; exact .inr h
   | false=>rw[hx] at h; exact ih h
section
variable {prog:Program}{w:World}{A:Around}{R:Result->Shared->Prop}{s:Shared}
abbrev jL5 (ifs:List Expr)(env:Env):Sem Bool:=forIn ifs true fun c r=>if r=true then do let ok <- isTrue c env (eval c env); pure (ForInStep.yield ok) else pure (ForInStep.yield r)
theorem jKQ {elt tg iter:Expr}{ifs:List Expr}{sc:Scope}{pos:Pos}{it acc:Value}{env:Env}(J:Nat->Shared->Prop)
  (turn:∀ n z,J n z->wpAny (model prog w) A (pyNext it) (fun r z1=>match r with
   | none=>R (.ok .next) z1
   | some v=>wpAny (model prog w) A (letOwnedTupleGo tg it v) (fun _ z2=>wpAny (model prog w) A (assign tg env v) (fun _ z3=>wpAny (model prog w) A (jL5 ifs env) (fun ok z4=>
     if ok=true then wpAny (model prog w) A (eval elt env) (fun x z5=>wpAny (model prog w) A (call (.builtin "list.append") [acc,x]) (fun _ z6=>∃ k,k<n/\J k z6) (fun _ _=>False) z5) (fun _ _=>False) z4
     else ∃ k,k<n/\J k z4) (fun _ _=>False) z3) (fun _ _=>False) z2) (fun _ _=>False) z1) (fun _ _=>False) z)
  (n:Nat) (h:J n s):codeAny (model prog w) A (.compLoop (.ListComp elt [⟨tg,iter,ifs,0⟩] sc pos) 0 it acc env) R s:=by
 refine codeAny_loop rfl J (fun k z hJ=>?_) n h
 have noE:∀ {α:Type}{t:Sem α}{Q:α->Shared->Prop}{E:Value->Shared->Prop}{z:Shared},wpAny (model prog w) A t Q (fun _ _=>False) z->wpAny (model prog w) A t Q E z:=
  fun q=>cr q (fun _ _ a=>a) fun _ _ f=>f.elim
 show wpAny _ A ((compTurn (.ListComp elt [⟨tg,iter,ifs,0⟩] sc pos) 0 it acc env).onRaise (fun x=>do noteFrame x env; theTreesLotGoes x)) _ _ z
 refine wpAny_noted ?_
 rw[compTurn_list]
 refine ab (eG (ab (cr (turn k z hJ) (fun r z1 q1=>?_) fun _ _ f=>f.elim)))
 cases r with
 | none=>exact ah q1
 | some v=>
  refine ab (cr q1 (fun _ z2 q2=>?_) fun _ _ f=>f.elim)
  refine ab (cr q2 (fun _ z3 q3=>?_) fun _ _ f=>f.elim)
  refine ab (cr q3 (fun ok z4 q4=>?_) fun _ _ f=>f.elim)
  cases ok with
  | false=>exact ah ⟨rfl,q4⟩
  | true=>
   refine ab (ab (cr q4 (fun x z5 q5=>?_) fun _ _ f=>f.elim))
   exact ab (cr q5 (fun _ z6 q6=>ah (ah ⟨rfl,q6⟩)) fun _ _ f=>f.elim)
end
def blk (X:Cx)(sc:Scope)(cl:List (Str×Addr))(C:Addr)(Nc:List Str)(fp:List Addr)(s:Shared)(H:Hp):Cx where
 prog:=X.prog
 w:=X.w
 K:=X.K
 mg:=X.mg
 base:=X.base
 A:=X.A
 N:=Nc
 s₀:=s
 H₀:=H
 env:=compEnvC sc cl C X.env
 outer:=X.stack
 stack:=X.stack
 ex:=fp
 fn:=fun _=>false
 calm:=X.calm
 pn:=[]
 xe:=fun _ _=>False
def blkσ (m:List (Option Nat))(σ:St):St:=m.map fun o=>match o with
 | none=>none
 | some i=>(σ[i]?).getD none
def PTs (X:Cx)(ifs:List Expr)(t:TT):Prop:=
 ∀ (pins:List (Addr×Obj)) (s:Shared) (σ:St) (H:Hp) (Q:Bool->Hp->Prop),Inv X pins σ H s->t σ H Q->wpAny (model X.prog X.w) X.A (jL5 ifs X.env) (TP X pins σ Q) X.xe s
def yL:TT:=fun _ H Q=>Q true H
theorem jLN {X:Cx} :PTs X [] yL:=fun _ _ _ H _ I h=>wpAny_tests_nil ⟨H,I,h⟩
theorem jLM {X:Cx}{c:Expr}{t:TT}(h:PT X c t):PTs X [c] t:=fun pins s σ H Q I q=>wpAny_tests_one (h pins s σ H Q I q)
def qL (m:List (Option Nat))(g:TG)(tt:TT)(te:TE)(σ:St)(Q:VK)(J:It)(H1:Hp):Prop:=∀ D,H1 D=none->∃ W:Nat->Nat->St->Hp->List V->Prop,
  (∃ n,W 0 n (blkσ m σ) (upd H1 D (.lst [])) [])/\∀ i n σ' H' ys,W i n σ' H' ys->H' D=some (.lst ys)/\ys.length<sizeLine/\
   ((J.stop i H'/\Q (.ref D) H')\/(J.go i H'/\∃ N:St->Hp->List V->Prop,(∀ σ2 H2 zs,N σ2 H2 zs->∃ n',n'<n/\W (i+1) n' σ2 H2 zs)/\∀ x H'',J.yld i H' x H''->g x σ' H'' fun σ2 H2=>tt σ2 H2 fun b H3=>
    if b=true then te σ2 H3 fun v H4=>H4 D=some (.lst ys)/\N σ2 (upd H4 D (.lst (ys++[v]))) (ys++[v])
    else N σ2 H3 ys))
def tComp (m:List (Option Nat))(wi:TI)(g:TG)(tt:TT)(te:TE):TE:=fun σ H Q=>wi σ H (qL m g tt te σ Q)
theorem Un.sameBut {fs ex:List Addr}{H H':Hp}{h h1 h2:Heap}{C:Addr}(u:Un fs ex H H' h h1)(sb:Heap.SameBut C h1 h2)(hC:h.objs.size<=C):Un fs ex H H' h h2:=by
 have ne:∀ {b:Addr}{o:Obj},h.get? b=some o->b≠C:=fun e=>aS (bf (aA e) hC)
 refine⟨fun b o e n hf hx=>(sb.2 b (ne e)).trans (u.keep b o e n hf hx),fun b o e n hf hx=>?_,u.free,fun b o e hx=>?_,u.tups,u.frzs,u.tbls⟩
 ·obtain⟨sl,q⟩:=u.slot b o e n hf hx
  exact⟨sl,(sb.2 b (ne e)).trans q⟩
 ·obtain⟨o',q⟩:=u.there b o e hx
  exact⟨o',(sb.2 b (ne e)).trans q⟩
theorem HOk.sameBut {P:Program}{w:World}{H:Hp}{h1 h2:Heap}{C:Addr}(x:HOk P w H h1)(sb:Heap.SameBut C h1 h2)(hC:H C=none):HOk P w H h2:=fun a o e=>
 (x a o e).stay (fun b u hb q=>(sb.2 b (by
  rintro rfl
  rcases hb with rfl | hb
  ·rw[hC] at e; cases e
  ·rw[hC] at hb; cases hb)).trans q) (fun _ q=>q) fun _ _ q=>q
section
variable {X:Cx}{tg iter elt:Expr}{ifs:List Expr}{sc:Scope}{pos:Pos}{wi:TI}{g:TG}{tt:TT}{te:TE}{m:List (Option Nat)}{Nc:List Str}
def jBW (X:Cx)(sc:Scope)(Nc:List Str)(m:List (Option Nat)):Prop:=
 m.length=Nc.length/\∀ (k i:Nat),m[k]?=some (some i)->∃ x,Nc[k]?=some x/\X.N[i]?=some x/\sc.names.lookup x=some .free
theorem jNV {pins:List (Addr×Obj)}{s:Shared}{σ:St}{H:Hp}{fp:List Addr}(I:Inv X pins σ H s)(hkind:sc.kind= .function)(hcell:∀ y∈sc.names,y.2≠ .cell)
  (hfree:∀ y∈sc.names,y.2= .free->X.env.scope.names.lookup y.1=some .cell\/X.env.scope.names.lookup y.1=some .free) (hm:jBW X sc Nc m) (hfp:∀ b∈fp,FpOk X pins H b) (hlt:∀ b∈fp,b<s.heap.objs.size)
  {h1:Heap}{tk:Nat}{md:Str->Option Value}(hns:h1.Ns s.heap.objs.size md) (old:∀ b o,s.heap.get? b=some o->h1.get? b=some o):
  Inv (blk X sc (jN X.env.cells sc.names []) s.heap.objs.size Nc fp s H) [] (blkσ m σ) H { s with heap:=h1,toks:=tk} :=by
 have hcl:∀ y∈sc.names,y.2= .free->∃ c,X.env.cells.lookup y.1=some c:=fun y hy hf=>I.ok.has y.1 (hfree y hy hf)
 have sub:∀ x c,(jN X.env.cells sc.names []).lookup x=some c->X.env.cells.lookup x=some c:=jAG sc.names [] hcl (fun x c e=>by cases e)
 have isfree:∀ x,(compEnvC sc (jN X.env.cells sc.names []) s.heap.objs.size X.env).kindOf x=some .cell\/(compEnvC sc (jN X.env.cells sc.names []) s.heap.objs.size X.env).kindOf x=some .free->sc.names.lookup x=some .free:=fun x h=>by
  rcases h with h | h
  ·exact jCV (.inl rfl) hcell h
  ·exact jCV (.inr rfl) hcell h
 refine⟨⟨I.ok.mod,hkind,I.ok.glob,I.ok.blt,ao _,fun x y c h1 h2=>I.ok.inj x y c (sub x c h1) (sub y c h2),fun x hx=>?_,fun x c hf _=>?_,I.ok.hd,I.ok.frames, .inl rfl,fun b hb=>?_,I.bs,bb I.ok.bsz I.sz,fun b o e hb=>?_,fun b hb hz=>?_,I.stack,I.stkFree⟩,
  rfl,I.bare,Un.kept old,⟨md,hns,fun k x v e1 e2 e3=>?_⟩,fun x c e=>?_,I.hok.fresh (ao _),fun x c e=>I.freeC x c (sub x c e),fun p hp=>absurd (show p∈([]:List (Addr×Obj)) from hp) (by simp),I.hok.kept old,?_⟩
 ·exact jAV sc.names [] (.inl (jAT (isfree x hx)))
 ·exact absurd (show false=true from hf) aj
 ·obtain⟨f0,f1,f2,f3,f4,f5⟩:=hfp b hb
  exact⟨aS (hlt b hb),fun x c e=>f4 x c (sub x c e)⟩
 ·obtain⟨f0,f1,f2,f3,f4,f5⟩:=hfp b hb
  rcases f3 with q | q
  ·exact I.ok.noex b o e q
  ·exact absurd (bf (aA (I.ok.bs b o e).1) q) (cO _)
 ·obtain⟨f0,f1,f2,f3,f4,f5⟩:=hfp b hb
  rcases aG.mp (I.stkSub b hz) with q | q
  ·exact f1 q
  ·exact f2 q
 ·have e2':∃ i,m[k]?=some (some i)/\σ[i]?=some (some v):=by
   unfold blkσ at e2
   rw[aN] at e2
   cases q:m[k]? with
   | none=>rw[q] at e2; cases e2
   | some o=>
    rw[q] at e2
    cases o with
    | none=>cases e2
    | some i=>
     refine⟨i,rfl,?_⟩
     have e2:(σ[i]?).getD none=some v:=bg e2
     cases r:σ[i]? with
     | none=>rw[r] at e2; cases e2
     | some z=>rw[r] at e2; exact bN some e2
  obtain⟨i,q1,q2⟩:=e2'
  obtain⟨x',a1,a2,a3⟩:=hm.2 k i q1
  have e1':Nc[k]?=some x:=e1
  rw[e1'] at a1
  cases a1
  have vis:=hfree (x, .free) (jAT a3) rfl
  obtain⟨m0,hn0,hl0⟩:=I.loc
  obtain⟨u,r,l⟩:=hl0 i x v a2 q2 (.inr vis)
  refine⟨u,r, .inr ⟨jBJ a3,?_⟩⟩
  obtain⟨c,hc⟩:=jAV (cells:=X.env.cells) (x:=x) sc.names [] (.inl (jAT a3))
  rcases l with ⟨lk,_⟩ | ⟨_,c',hc',o,ho,hd⟩
  ·have lk':X.env.scope.names.lookup x=some .local:=lk
   rcases vis with z | z
   ·rw[lk'] at z; cases z
   ·rw[lk'] at z; cases z
  ·have:=sub x c hc
   rw[hc'] at this
   cases this
   exact⟨c,hc,o,old _ _ ho,hd⟩
 ·obtain⟨v,o,ho,hd⟩:=I.cell x c (sub x c e)
  exact⟨v,o,old _ _ ho,hd⟩
 ·show (blkσ m σ).length=Nc.length
  unfold blkσ
  rw[ae]
  exact hm.1
theorem jG1 {tf:St->TE}(hc:X.calm=true)(hi:PI X tg iter wi)(hkind:sc.kind= .function)(hcell:∀ y∈sc.names,y.2≠ .cell)(hnames:∀ y∈sc.names,y.2= .local->sc.names.lookup y.1=some .local)
  (hfree:∀ y∈sc.names,y.2= .free->X.env.scope.names.lookup y.1=some .cell\/X.env.scope.names.lookup y.1=some .free) (hm:jBW X sc Nc m)
  (hg:∀ cl C fp s H,PG (blk X sc cl C Nc fp s H) tg g) (ht:∀ cl C fp s H,PTs (blk X sc cl C Nc fp s H) ifs tt) (he:∀ cl C fp s H pins σ,Inv X pins σ H s->(∀ b∈fp,FpOk X pins H b)->PE (blk X sc cl C Nc fp s H) elt (tf σ))
  (hs:∀ x,foldedSetIterable iter X.env x=pure x) {fpos:Pos}{use:Option (Value->Sem Unit)}{R:Value->Shared->Prop}{pins:List (Addr×Obj)}{s:Shared}{σ:St}{H:Hp}{Q:VK}(I:Inv X pins σ H s) (h:tComp m wi g tt (tf σ) σ H Q)
  (fin:∀ (D C:Addr) (H5:Hp) (z1:Shared) (r:Flow),(∃ mm,z1.heap.Ns C mm)->FpOk X pins H5 C->(∀ h',Heap.SameBut C z1.heap h'->Inv X pins σ H5 { z1 with heap:=h'})->Q (.ref D) H5->compPost (model X.prog X.w) X.A X.xe use R (.ref D) C (.ok r) z1):
  wpAny (model X.prog X.w) X.A (comprehension (.ListComp elt [⟨tg,iter,ifs,0⟩] sc pos) sc X.env fpos (newList []) false (eval iter X.env) use) R X.xe s:=by
 have hcl:∀ y∈sc.names,y.2= .free->∃ c,X.env.cells.lookup y.1=some c:=fun y hy hf=>I.ok.has y.1 (hfree y hy hf)
 refine wpAny_comprehension_free (use:=use) rfl hs (jII hcl) hkind hnames (thn (hi pins s σ H _ I h) fun v s1 h1=>thn h1 fun itv s2 h2=>?_)
 obtain⟨it,fp,tn,J,H2,e,I2,T,st2,f2,hQ⟩:=h2
 subst e
 have hlt:∀ b∈fp,b<s2.heap.objs.size:=fun b hb=>by
  obtain⟨o,e,_⟩:=T.obj 0 _ st2 b hb
  exact aA e
 refine cR (wpAny_newFunctionEnv hcell (by intro y hy; simp at hy) (fun h₁ hns₁ hsb₁=>?_) hkind)
 have I3:Inv X pins σ (upd H2 s2.heap.objs.size (.lst [])) { s2 with heap:=s2.heap.push { cls:= .type "list",data:= .seq ([]:List Value).toArray}} :=I2.lnew (t':=s2.toks) .nil (br _)
 obtain⟨W,⟨n0,w0⟩,turn⟩:=hQ s2.heap.objs.size I2.fresh
 have hD3:∀ b∈fp,b≠s2.heap.objs.size:=fun b hb=>aS (hlt b hb)
 have f3:∀ b∈fp,FpOk X pins (upd H2 s2.heap.objs.size (.lst [])) b:=fun b hb=>by
  obtain⟨a0,a1⟩:=f2 b hb
  exact⟨by rw[j9 (hD3 b hb)]; exact a0,a1⟩
 generalize hE:({ s2 with heap:=s2.heap.push { cls:= .type "list",data:= .seq ([]:List Value).toArray}} :Shared)=s3 at I3 hns₁ hsb₁ ⊢
 generalize hH3:upd H2 s2.heap.objs.size (.lst [])=H3 at I3 f3 w0
 have hsz3:s3.heap.objs.size=s2.heap.objs.size+1:=by rw[<- hE]; exact dG _ _
 have old:∀ b o,s3.heap.get? b=some o->h₁.get? b=some o:=fun b o e=>hsb₁.extBut b o (aS (aA e)) (af _ e)
 have old2:∀ b o,s2.heap.get? b=some o->h₁.get? b=some o:=fun b o e=>old b o (by rw[<- hE]; exact af _ e)
 have I4:=jNV (fp:=fp) (tk:=s3.toks+([]:List (Str×Value)).length) I3 hkind hcell hfree hm f3 (fun b hb=>show b<s3.heap.objs.size by rw[hsz3]; exact cC (hlt b hb)) hns₁ old
 have st4:tn 0 h₁:=T.keep _ _ _ st2 fun b hb o e=>old2 b o e
 have loop:codeAny (model X.prog X.w) X.A (.compLoop (.ListComp elt [⟨tg,iter,ifs,0⟩] sc pos) 0 (.ref it) (.ref s2.heap.objs.size) (compEnvC sc (jN X.env.cells sc.names []) s3.heap.objs.size X.env))
   (compPost (model X.prog X.w) X.A X.xe use R (.ref s2.heap.objs.size) s3.heap.objs.size) { s3 with heap:=h₁,toks:=s3.toks+([]:List (Str×Value)).length} :=by
  generalize hX:blk X sc (jN X.env.cells sc.names []) s3.heap.objs.size Nc fp s3 H3=Xb at I4
  have eP:Xb.prog=X.prog:=by rw[<- hX]; rfl
  have ew:Xb.w=X.w:=by rw[<- hX]; rfl
  have eK:Xb.K=X.K:=by rw[<- hX]; rfl
  have eA:Xb.A=X.A:=by rw[<- hX]; rfl
  have ec:Xb.calm=true:=by rw[<- hX]; exact hc
  have ee:Xb.env=compEnvC sc (jN X.env.cells sc.names []) s3.heap.objs.size X.env:=by rw[<- hX]; rfl
  have ex:Xb.xe=fun _ _=>False:=by rw[<- hX]; rfl
  have hgb:PG Xb tg g:=by rw[<- hX]; exact hg _ _ _ _ _
  have htb:PTs Xb ifs tt:=by rw[<- hX]; exact ht _ _ _ _ _
  have heb:PE Xb elt (tf σ):=by rw[<- hX]; exact he _ _ _ _ _ _ _ I3 f3
  have stat:∀ {H':Hp},(∀ b∈fp,H' b=none)->∀ b∈fp,FpOk Xb [] H' b:=fun {H'} hn b hb=>by
   obtain⟨o,eo,_⟩:=T.obj _ _ st4 b hb
   have q:=I4.ok.exf b (by rw[<- hX]; exact hb)
   exact⟨hn b hb,q.1,I4.ok.exfs b (by rw[<- hX]; exact hb), .inl (by rw[<- hX]; exact hb),q.2,fun p hp=>absurd hp (by rw[<- hX]; simp [blk])⟩
  have fr4:∀ b∈fp,H3 b=none:=fun b hb=>(f3 b hb).1
  unfold PG at hgb
  unfold PTs at htb
  unfold PE at heb
  rw[eP,ew,eA,ee,ex] at hgb htb heb
  refine jKQ (fun n z=>∃ i σ' H' ys,Inv Xb [] σ' H' z/\tn i z.heap/\(∀ b∈fp,H' b=none)/\W i n σ' H' ys) ?_ n0 ⟨0,_,H3,[],I4,st4,fr4,w0⟩
  rintro n z ⟨i,σ5,H5,ys,I5,st5,fr5,w5⟩
  obtain⟨hD,hlen,way⟩:=turn i n σ5 H5 ys w5
  rcases way with ⟨stop,q⟩ | ⟨go,N,hN,step⟩
  ·have RR:=T.done Xb eP ew eK ec i [] z σ5 H5 (fun _ _=>False) I5 (stat fr5) st5 stop
   rw[eA] at RR
   refine thn RR fun r z1 ⟨hr,I6⟩=>?_
   subst hr
   obtain⟨mm,hn6,_⟩:=I6.loc
   rw[ee] at hn6
   have u6:Un (frs X.stack) fp H3 H5 s3.heap z1.heap:=by
    have:=I6.base
    rw[<- hX] at this
    exact this
   have fC:H5 s3.heap.objs.size=none:=by
    have:=I6.free
    rw[ee] at this
    exact this
   have hok6:HOk X.prog X.w H5 z1.heap:=by
    have:=I6.hok
    rw[eP,ew] at this
    exact this
   have os6:z1.os=s3.os:=by
    have:=I6.os
    rw[<- hX] at this
    exact this
   refine fin s2.heap.objs.size s3.heap.objs.size H5 z1 .next ⟨mm,hn6⟩ (I3.fpOk (ao _) fC) (fun h' sb=>?_) q
   refine I3.call' (s':= { z1 with heap:=h'}) (ch:=fp) os6 (u6.sameBut sb (ao _)) (hok6.sameBut sb fC) I6.bare (fun b hb=>?_)
   obtain⟨a0,a1,a2,a3,a4,a5⟩:=f3 b hb
   exact⟨a3,a1,a4,a5⟩
  ·have RR:=T.item Xb eP ew eK ec i [] z σ5 H5 (fun _ _=>False) I5 (stat fr5) st5 go
   rw[eA] at RR
   refine thn RR fun r z1 ⟨u,hr,h6⟩=>?_
   subst hr
   refine thn h6 fun _ z2 ⟨x,H7,I7,r7,y7,st7,fr7⟩=>?_
   have I7':=I7.pinned (stat fr7) (T.obj _ _ st7)
   refine thn (hgb _ z2 σ5 H7 x u _ I7' r7 (step x H7 y7)) fun _ z3 ⟨σ8,H8,I8,q8⟩=>?_
   refine thn (htb _ z3 σ8 H8 _ I8 q8) fun ok z4 ⟨H9,I9,q9⟩=>?_
   have again:∀ {σ7:St}{Hz:Hp}{zz:Shared}{yy:List V}{n':Nat},Inv Xb ([]++jGI fp z2.heap) σ7 Hz zz->n'<n->W (i+1) n' σ7 Hz yy->∃ k,k<n/\∃ i σ' H' ys,Inv Xb [] σ' H' zz/\tn i zz.heap/\(∀ b∈fp,H' b=none)/\W i k σ' H' ys:=fun {σ7 Hz zz yy n'} Iz hn wz=>by
    refine⟨n',hn,i+1,σ7,Hz,yy,Iz.unpinned,T.keep _ _ _ st7 fun b hb o e=>(Iz.pin (b,o) (aQ _ (aQ _ (jBH hb e)))).1,fun b hb=>?_,wz⟩
    obtain⟨o,e,d⟩:=T.obj _ _ st7 b hb
    exact(Iz.pin (b,o) (aQ _ (aQ _ (jBH hb e)))).2.1
   cases ok with
   | false=>
    obtain⟨n',hn,w9⟩:=hN _ _ _ (show N σ8 H9 ys from q9)
    exact again I9 hn w9
   | true=>
    refine thn (heb _ z4 σ8 H9 _ I9 q9) fun xv z5 ⟨vv,H10,I10,r10,hD10,n10⟩=>?_
    obtain⟨n',hn,w10⟩:=hN _ _ _ n10
    have RR:=jB8 (X:=Xb) _ z5 σ8 H10 (.ref s2.heap.objs.size) [vv] (.ref s2.heap.objs.size) [xv] (fun _ H'=>H'=upd H10 s2.heap.objs.size (.lst (ys++[vv]))) I10 rfl (.cons r10 .nil) ⟨_,ys,vv,rfl,rfl,hD10,hlen,rfl⟩
    rw[eP,ew,eA,ex] at RR
    refine thn RR fun _ z6 ⟨_,H11,I11,_,e11⟩=>?_
    subst e11
    exact again I11 hn w10
 exact codeAny_compStart_list loop (T.self _ 0 _ _ _ st4 loop)
theorem jHT (hc:X.calm=true)(hi:PI X tg iter wi)(hkind:sc.kind= .function)(hcell:∀ y∈sc.names,y.2≠ .cell)(hnames:∀ y∈sc.names,y.2= .local->sc.names.lookup y.1=some .local)
  (hfree:∀ y∈sc.names,y.2= .free->X.env.scope.names.lookup y.1=some .cell\/X.env.scope.names.lookup y.1=some .free) (hm:jBW X sc Nc m)
  (hg:∀ cl C fp s H,PG (blk X sc cl C Nc fp s H) tg g) (ht:∀ cl C fp s H,PTs (blk X sc cl C Nc fp s H) ifs tt) (he:∀ cl C fp s H,PE (blk X sc cl C Nc fp s H) elt te)
  (hs:∀ x,foldedSetIterable iter X.env x=pure x:=by intro _; rfl):PE X (.ListComp elt [⟨tg,iter,ifs,0⟩] sc pos) (tComp m wi g tt te):=by
 intro pins s σ H Q I h
 rw[eval_ListComp]
 exact jG1 (tf:=fun _=>te) (use:=none) hc hi hkind hcell hnames hfree hm hg ht (fun cl C fp s H _ _ _ _=>he cl C fp s H) hs I h (fun D C H5 z1 r ⟨mm,hn⟩ fC sb q=>⟨mm,hn,fun h' s2=>⟨.ref D,H5,sb h' s2,rfl,q⟩⟩)
end
theorem jS {X:Cx}{sc psc:Scope}(h:(sc.names.all fun y=>decide (y.2= .free->psc.names.lookup y.1=some .cell\/psc.names.lookup y.1=some .free))=true)(e:X.env.scope=psc:=by rfl):
  ∀ y∈sc.names,y.2= .free->X.env.scope.names.lookup y.1=some .cell\/X.env.scope.names.lookup y.1=some .free:=by
 rw[e]
 intro y hy
 exact aF (bC.mp h y hy)
def jNA (sc:Scope)(N Nc:List Str)(m:List (Option Nat))(k:Nat):Bool:=match m[k]? with
 | some (some i)=>match Nc[k]? with
  | some x=>decide (N[i]?=some x)&&decide (sc.names.lookup x=some .free)
  | none=>false
 | _=>true
theorem jI {X:Cx}{sc:Scope}{N Nc:List Str}{m:List (Option Nat)}(e:X.N=N)(hl:m.length=Nc.length)(h:((List.range m.length).all (jNA sc N Nc m))=true):jBW X sc Nc m:=by
 refine⟨hl,fun k i hk=>?_⟩
 have hlt:k<m.length:=(ai.mp hk).1
 have q:=bC.mp h k (bM.mpr hlt)
 unfold jNA at q
 rw[hk] at q
 cases e2:Nc[k]? with
 | none=>rw[e2] at q; cases q
 | some x=>
  rw[e2] at q
  have q:(decide (N[i]?=some x)&&decide (sc.names.lookup x=some .free))=true:=q
  rw[ci] at q
  exact⟨x,rfl,by rw[e]; exact aF q.1,aF q.2⟩
section
variable {m:List (Option Nat)}{g:TG}{tt:TT}{te:TE}{σ:St}{H1:Hp}{Q:VK}
theorem jBL {lo:Int}{n:Nat}(hn:n<sizeLine)(Pv:Addr->Nat->St->Hp->List V->Prop)(h0:∀ D,H1 D=none->Pv D 0 (blkσ m σ) (upd H1 D (.lst [])) [])
  (hD:∀ D i σ' H' ys,H1 D=none->i<=n->Pv D i σ' H' ys->H' D=some (.lst ys)/\ys.length<=i)
  (hs:∀ D i σ' H' ys,H1 D=none->i<n->Pv D i σ' H' ys->g (.int (lo+i)) σ' H' fun σ2 H2=>tt σ2 H2 fun b H3=>if b=true then te σ2 H3 fun v H4=>H4 D=some (.lst ys)/\Pv D (i+1) σ2 (upd H4 D (.lst (ys++[v]))) (ys++[v]) else Pv D (i+1) σ2 H3 ys)
  (hd:∀ D σ' H' ys,H1 D=none->Pv D n σ' H' ys->Q (.ref D) H'):qL m g tt te σ Q (Itr lo n) H1:=by
 intro D hDn
 refine⟨fun i k σ' H' ys=>k=n - i/\i<=n/\Pv D i σ' H' ys,⟨n,rfl,br _,h0 D hDn⟩,?_⟩
 rintro i k σ' H' ys ⟨rfl,hi,p⟩
 obtain⟨q1,q2⟩:=hD D i σ' H' ys hDn hi p
 refine⟨q1,by omega,?_⟩
 by_cases hlt:i<n
 ·refine .inr ⟨hlt,Pv D (i+1),fun σ2 H2 zs z=>⟨n - (i+1),by omega,rfl,hlt,z⟩,fun x H'' y=>?_⟩
  obtain⟨e1,e2⟩:=y
  subst e1 e2
  exact hs D i σ' _ ys hDn hlt p
 ·have e:i=n:=by omega
  subst e
  exact .inl ⟨ao _,hd D σ' H' ys hDn p⟩
end
end L2
end
section
namespace SS
open PySem PySem.SetTable
abbrev Ris (xs:Array Nat):Prop:=xs.toList.Pairwise (· < ·)
theorem jCU {xs:Array Nat}(h:Ris xs){a b:Nat}(hab:a<b)(hb:b<xs.size):xs.getD a 0<xs.getD b 0:=by
 have h1:a<xs.size:=eD hab hb
 have:=bL.mp h a b (by simpa using h1) (by simpa using hb) hab
 simpa [Array.getD,h1,hb] using this
theorem jSQ {xs:Array Nat}{j:Nat}(hr:Ris xs):∀ (fuel lo hi:Nat),hi - lo<=fuel->lo<=hi->hi<=xs.size->(∀ a,a<lo->xs.getD a 0<j)->(∀ a,hi<=a->a<xs.size->j<=xs.getD a 0)->
  (below.go xs j fuel lo hi<=xs.size/\(∀ a,a<below.go xs j fuel lo hi->xs.getD a 0<j)/\(∀ a,below.go xs j fuel lo hi<=a->a<xs.size->j<=xs.getD a 0)):=by
 intro fuel
 induction fuel with
 | zero=>
  intro lo hi h1 h2 h3 h4 h5
  have e:lo=hi:=by omega
  subst e
  exact⟨h3,h4,h5⟩
 | succ fuel ih=>
  intro lo hi h1 h2 h3 h4 h5
  unfold below.go
  by_cases hlt:lo<hi
  ·rw[aq hlt]
   have hm:(lo+hi) / 2<xs.size:=by omega
   have e:xs.getD ((lo+hi) / 2) j=xs.getD ((lo+hi) / 2) 0:=by simp [Array.getD,hm]
   dsimp only
   rw[e]
   by_cases hc:xs.getD ((lo+hi) / 2) 0<j
   ·rw[aq hc]
    refine ih _ _ (by omega) (by omega) h3 (fun a ha=>?_) h5
    by_cases e2:a=(lo+hi) / 2
    ·rw[e2]; exact hc
    ·exact eD (jCU hr (by omega) hm) hc
   ·rw[am hc]
    refine ih _ _ (by omega) (by omega) (by omega) h4 (fun a ha hs=>?_)
    by_cases e2:a=(lo+hi) / 2
    ·rw[e2]; omega
    ·have:=jCU hr (show (lo+hi) / 2<a by omega) hs
     omega
  ·rw[am hlt]
   have e:lo=hi:=by omega
   subst e
   exact⟨h3,h4,h5⟩
theorem jF3 {xs:Array Nat}(hr:Ris xs)(j:Nat):below xs j<=xs.size/\(∀ a,a<below xs j->xs.getD a 0<j)/\(∀ a,below xs j<=a->a<xs.size->j<=xs.getD a 0):=
 jSQ hr xs.size 0 xs.size (by omega) (br _) (ao _) (fun a h=>absurd h (eF _)) (fun a h1 h2=>absurd h2 (by omega))
theorem jG4 {xs:Array Nat}(hr:Ris xs){j i:Nat}(hi:i<=xs.size)(h1:∀ a,a<i->xs.getD a 0<j)(h2:∀ a,i<=a->a<xs.size->j<=xs.getD a 0):below xs j=i:=by
 obtain⟨b1,b2,b3⟩:=jF3 hr j
 rcases gX (below xs j) i with h | h | h
 ·have q1:=h1 _ h
  have q2:=b3 _ (ao _) (by omega)
  omega
 ·exact h
 ·have q1:=b2 _ h
  have q2:=h2 _ (ao _) (by omega)
  omega
theorem jAH {α:Type}(xs:Array α)(p:Nat)(x:α):(insertAt xs p x).toList=xs.toList.take p++x::xs.toList.drop p:=by
 unfold insertAt
 simp [eM,List.extract]
 rw[bE (by simp)]
theorem jC7 {α:Type}(xs:Array α)(p:Nat)(x:α):(insertAt xs p x).size=xs.size+1:=by
 rw[<- aM,jAH]
 simp
 omega
theorem jK6 {xs:Array Nat}{j:Nat}(hr:Ris xs)(hj:j∉xs.toList):Ris (insertAt xs (below xs j) j):=by
 obtain⟨b1,b2,b3⟩:=jF3 hr j
 show (insertAt xs (below xs j) j).toList.Pairwise (· < ·)
 rw[jAH,bW,cw]
 have hl:∀ a∈xs.toList.take (below xs j),a<j:=by
  intro a ha
  obtain⟨i,hi,e⟩:=List.mem_take_iff_getElem.mp ha
  have:=b2 i (by omega)
  have hs:i<xs.size:=by simp at hi; omega
  simp [Array.getD,hs] at this
  simp at e
  omega
 have hg:∀ a∈xs.toList.drop (below xs j),j<a:=by
  intro a ha
  obtain⟨i,hi,e⟩:=List.mem_drop_iff_getElem.mp ha
  have hs:i+below xs j<xs.size:=by simpa [jg] using hi
  have:=b3 (i+below xs j) (by omega) hs
  simp [Array.getD,hs] at this
  have e':xs[i+below xs j]=a:=by simpa [jg] using e
  have hne:a≠j:=by
   intro z
   apply hj
   rw[<- z]
   exact cG ha
  omega
 refine⟨hr.sublist (dw _ _),⟨hg,hr.sublist (gY _ _)⟩,?_⟩
 intro a ha b hb
 rcases aG.mp hb with rfl | hb
 ·exact hl a ha
 ·exact eD (hl a ha) (hg b hb)
theorem jDX {t:SetTable}{j:Nat}(hr:Ris t.place)(h:t.slot j= .empty):j∉t.place.toList:=by
 intro hm
 obtain⟨i,hi,e⟩:=d0 hm
 have hs:i<t.place.size:=by simpa using hi
 have e0:t.place[i]=j:=by simpa using e
 have eb:below t.place j=i:=by
  refine jG4 hr (dC hs) (fun a ha=>?_) (fun a h1 h2=>?_)
  ·have:=jCU hr ha hs
   simp only [Array.getD,hs] at this ⊢
   simp [e0] at this ⊢
   exact this
  ·by_cases e2:a=i
   ·subst e2
    simp [Array.getD,hs,e0]
   ·have:=jCU hr (show i<a by omega) h2
    simp only [Array.getD,hs] at this
    simp [e0] at this
    simp [Array.getD]
    omega
 unfold SetTable.slot at h
 dsimp only at h
 rw[eb] at h
 rw[aq (by simp [hs,e0])] at h
 cases h
theorem jI7 (j:Nat):has #[] j=false:=by
 unfold has
 simp
theorem jJ3 {t:SetTable}(hd:t.dummies=#[]){f:Nat->Int}{h:Int} :∀ (fuel:Nat) (p:Probe) (m:Met),p.dummy=none->probe.go t f h fuel p=some m->
  (∃ j,m= .empty j none/\t.slot j= .empty)\/(∃ j i n,m= .candidate j i n):=by
 intro fuel
 induction fuel with
 | zero=>intro p m _ e; simp [probe.go] at e
 | succ fuel ih=>
  intro p m hp e
  unfold probe.go at e
  cases hs:t.slot p.j with
  | empty=>
   rw[hs] at e
   simp only [fU] at e
   subst e
   exact .inl ⟨p.j,by rw[hp],hs⟩
  | dummy=>
   unfold SetTable.slot at hs
   dsimp only at hs
   rw[hd,jI7] at hs
   split at hs
   ·cases hs
   ·simp at hs
  | live i=>
   rw[hs] at e
   dsimp only at e
   split at e
   ·simp only [fU] at e
    subst e
    exact .inr ⟨_,_,_,rfl⟩
   ·refine ih _ _ ?_ e
    unfold advance
    split
    ·exact hp
    ·exact hp
theorem jFW {t:SetTable}(hr:Ris t.place)(hd:t.dummies=#[]){h:Int}{slot:Nat}{d:Bool}(e:t.freeSlot h=some (slot,d)):slot∉t.place.toList:=by
 unfold SetTable.freeSlot at e
 split at e
 ·rename_i j dummy hp
  simp only [fU,Prod.mk.injEq] at e
  have hp':probe.go t (fun _=>h+1) h (10*turns t.mask) (t.probeStart h)=some (.empty j dummy):=hp
  rcases jJ3 hd _ _ _ (by unfold probeStart; rfl) hp' with ⟨j',em,hs⟩ | ⟨_,_,_,em⟩
  ·cases em
   have:slot=j:=by rw[<- e.1]; rfl
   rw[this]
   exact jDX hr hs
  ·cases em
 ·cases e
theorem jK5 {t:SetTable}{j:Nat}(hd:t.dummies=#[])(h:t.slot j≠ .empty):(∃ i,t.slot j= .live i)/\j∈t.place.toList:=by
 unfold SetTable.slot at h ⊢
 dsimp only at h ⊢
 by_cases q:(t.place[below t.place j]?==some j)=true
 ·rw[aq q]
  refine⟨⟨_,rfl⟩,?_⟩
  have e:t.place[below t.place j]?=some j:=eq_of_beq q
  obtain⟨hi,e⟩:=Array.getElem?_eq_some_iff.mp e
  rw[<- e]
  exact Array.getElem_mem_toList hi
 ·rw[am q,hd,jI7] at h
  exact absurd rfl h
theorem run7 (i:Nat):runEnd 7 i=i:=by unfold runEnd; rw[am (by omega)]
theorem jLO {t:SetTable}(hm:t.mask=7)(hd:t.dummies=#[]){h:Int} :∀ (k fuel:Nat) (p:Probe),p.j=p.i->p.more=0->p.i<8->p.perturb<32->k<=fuel->
  probe.go t (fun _=>h+1) h fuel p=none->∀ r,r<k->Nat.repeat (fun i=>(i*5+1) % 8) r p.i∈t.place.toList:=by
 intro k
 induction k with
 | zero=>intro fuel p _ _ _ _ _ _ r hr; omega
 | succ k ih=>
  intro fuel p h1 h2 h3 h4 h5 h6 r hr
  obtain⟨f,rfl⟩:∃ f,fuel=f+1:=⟨fuel - 1,by omega⟩
  unfold probe.go at h6
  by_cases he:t.slot p.j= .empty
  ·rw[he] at h6; cases h6
  ·obtain⟨⟨i,hl⟩,hmem⟩:=jK5 hd he
   rw[hl] at h6
   dsimp only at h6
   rw[am (by simp; omega)] at h6
   have hz:p.perturb / 32=0:=by omega
   have ea:t.advance p= { p with j:=(p.i*5+1) % 8,more:=0,i:=(p.i*5+1) % 8,perturb:=0} :=by
    unfold advance leap
    rw[am (by omega),hm,hz]
    simp [run7]
   rw[ea] at h6
   cases r with
   | zero=>show p.i∈_; rw[<- h1]; exact hmem
   | succ r=>
    have q:=ih f _ (by rfl) (by rfl) (by show (p.i*5+1) % 8<8; omega) (by show 0<32; omega) (by omega) h6 r (by omega)
    have e:∀ (r i:Nat),Nat.repeat (fun i=>(i*5+1) % 8) (r+1) i=Nat.repeat (fun i=>(i*5+1) % 8) r ((i*5+1) % 8):=by
     intro r
     induction r with
     | zero=>intro i; rfl
     | succ r ihr=>
      intro i
      show ((Nat.repeat _ (r+1) i)*5+1) % 8=((Nat.repeat _ r ((i*5+1) % 8))*5+1) % 8
      rw[ihr]
    rw[e]
    exact q
theorem jNX:∀ i,i<8->∀ j,j<8->∃ r,r<8/\Nat.repeat (fun i=>(i*5+1) % 8) r i=j:=by decide+kernel
theorem jFV {t:SetTable}(hm:t.mask=7)(hd:t.dummies=#[])(hz:t.place.size<8){h:Int}(h0:0<=h)(h1:h<32):∃ q,t.freeSlot h=some q:=by
 unfold SetTable.freeSlot
 have hb:bits h<32:=by unfold bits; omega
 have hps:t.probeStart h= { j:=bits h % 8,more:=0,i:=bits h % 8,perturb:=bits h,dummy:=none} :=by
  unfold probeStart
  rw[hm]
  simp [run7]
 cases e:t.probe (fun _=>h+1) h (t.probeStart h) with
 | none=>
  exfalso
  have e':probe.go t (fun _=>h+1) h (10*turns t.mask) (t.probeStart h)=none:=e
  rw[hps] at e'
  have q:=jLO hm hd 8 _ _ (by rfl) (by rfl) (by show bits h % 8<8; omega) (by exact hb) (by rw[hm]; decide) e'
  have sub:List.range 8 ⊆ t.place.toList:=by
   intro j hj
   obtain⟨r,hr,er⟩:=jNX (bits h % 8) (by omega) j (bM.mp hj)
   rw[<- er]
   exact q r hr
  have:=List.Nodup.length_le_of_subset (List.nodup_range (n:=8)) sub
  simp at this
  omega
 | some m=>
  rcases jJ3 hd _ _ _ (by rw[hps]) (show probe.go t (fun _=>h+1) h (10*turns t.mask) (t.probeStart h)=some m from e) with ⟨j,rfl,_⟩ | ⟨j,i,n,rfl⟩
  ·exact⟨_,rfl⟩
  ·exfalso
   have nc:∀ (fuel:Nat) (p:Probe) (j i:Nat) (n:Probe),probe.go t (fun _=>h+1) h fuel p≠some (.candidate j i n):=by
    intro fuel
    induction fuel with
    | zero=>intro p j i n; simp [probe.go]
    | succ f ih=>
     intro p j i n
     unfold probe.go
     cases t.slot p.j with
     | empty=>simp
     | dummy=>exact ih _ _ _ _
     | live i'=>
      dsimp only
      rw[am (by simp; omega)]
      exact ih _ _ _ _
   exact nc _ _ _ _ _ e
structure Tab (t:SetTable)(n:Nat)(led:Bool):Prop where
 ris:Ris t.place
 sz:t.place.size=n
 dm:t.dummies=#[]
 msk:t.mask=7
 pl:t.plain=true
 ld:t.led=led
theorem Tab.fits {t:SetTable}{n:Nat}{led:Bool}(T:Tab t n led)(hn:n<=4):t.fits n=true:=by
 unfold SetTable.fits fill
 simp [T.sz,T.dm,T.msk]
 omega
theorem Tab.full {t:SetTable}{n:Nat}{led:Bool}(T:Tab t n led)(hn:n<=4):t.tooFull=false:=by
 unfold tooFull fill
 simp [T.sz,T.dm,T.msk]
 omega
theorem jL6 (led:Bool):Tab (fresh 0 0 led) 0 led:=⟨List.Pairwise.nil,rfl,rfl,rfl,rfl,rfl⟩
theorem jKI {t:SetTable}{n:Nat}{led:Bool}(T:Tab t n led)(hn:n+1<=4)(es:Array (Int×Value))(he:es.size=n){h:Int}(h0:0<=h)(h1:h<32)(x:Value):
  Tab (layNew t es h x).2.1 (n+1) led/\∃ p,(layNew t es h x).1.toList=es.toList.take p++(h,x)::es.toList.drop p:=by
 obtain⟨⟨slot,d⟩,hf⟩:=jFV T.msk T.dm (by rw[T.sz]; omega) h0 h1
 unfold layNew
 rw[hf]
 dsimp only [SetTable.put]
 have hnm:=jFW T.ris T.dm hf
 have T2:Tab { t with place:=insertAt t.place (below t.place slot) slot,dummies:=if has t.dummies slot then eraseAt t.dummies (below t.dummies slot) else t.dummies} (n+1) led:=by
  refine⟨jK6 T.ris hnm,by rw[jC7,T.sz],?_,T.msk,T.pl,T.ld⟩
  rw[T.dm,jI7]
  rfl
 refine⟨?_,_,jAH _ _ _⟩
 unfold SetTable.orStandIn
 rw[jC7,he,T2.fits hn]
 exact T2
def jIY (xs:Array Nat):Nat->Nat
 | 0=>0
 | i+1=>xs.getD i 0+1
theorem jHI {xs:Array Nat}(hr:Ris xs){i:Nat}(hi:i<=xs.size):below xs (jIY xs i)=i:=by
 cases i with
 | zero=>exact jG4 hr (br _) (fun a h=>absurd h (eF _)) (fun a _ _=>br _)
 | succ i=>
  refine jG4 hr hi (fun a ha=>?_) (fun a h1 h2=>?_)
  ·show _<xs.getD i 0+1
   by_cases e:a=i
   ·rw[e]; omega
   ·have:=jCU hr (show a<i by omega) (show i<xs.size by omega)
    omega
  ·show xs.getD i 0+1<=_
   exact jCU hr (show i<a by omega) h2
theorem jKO {α:Type}{l:List α}{i:Nat}(h:i<l.length):(l[i]::l.eraseIdx i).Perm l:=by
 rw[List.eraseIdx_eq_take_drop_succ]
 have e:l=l.take i++l[i]::l.drop (i+1):=by rw[<- List.drop_eq_getElem_cons h,bv]
 conv=>rhs; rw[e]
 exact List.perm_middle.symm
theorem jRG {α:Type}(next:Nat->Nat):∀ (fuel k:Nat) (left:List α) (out:Array α),fuel=left.length->(pickOrder.go next fuel k left out).toList.Perm (out.toList++left):=by
 intro fuel
 induction fuel with
 | zero=>
  intro k left out h
  have:left=[]:=fH.mp h.symm
  subst this
  simp [pickOrder.go]
 | succ f ih=>
  intro k left out h
  have hl:next k % left.length<left.length:=Nat.mod_lt _ (by omega)
  unfold pickOrder.go
  rw[aw hl]
  dsimp only
  refine(ih _ _ _ (by rw[List.length_eraseIdx_of_lt hl]; omega)).trans ?_
  rw[dR,aU]
  exact db _ (jKO hl)
theorem jGJ {α:Type}(next:Nat->Nat)(xs:Array α):(pickOrder next xs).toList.Perm xs.toList:=by
 unfold pickOrder
 have:=jRG next xs.size 0 xs.toList #[] (by simp)
 simpa using this
end SS
end
section
namespace SS
open PySem
abbrev ledW (w:World):Bool:=!(w.params.followText "set-order")
def El (e:Int×Value)(k:Int):Prop:=e.1=hashInt k/\∃ t,e.2= .int k t
theorem jBY {α β:Type}{F:α->β->Prop} :∀ {l:List α}{r:List β},Paired F l r->∀ a∈l,∃ b∈r,F a b
 | _,_, .nil=>fun a h=>by cases h
 | _,_, .cons f t=>fun a h=>by
  rcases aG.mp h with rfl | h
  ·exact⟨_,aE,f⟩
  ·obtain⟨b,hb,q⟩:=jBY t a h
   exact⟨b,aK _ hb,q⟩
theorem jD9 {α β:Type}{F:α->β->Prop} :∀ {l:List α}{r:List β},Paired F l r->∀ b∈r,∃ a∈l,F a b
 | _,_, .nil=>fun a h=>by cases h
 | _,_, .cons f t=>fun b h=>by
  rcases aG.mp h with rfl | h
  ·exact⟨_,aE,f⟩
  ·obtain⟨a,ha,q⟩:=jD9 t b h
   exact⟨a,aK _ ha,q⟩
theorem jEU {α β:Type}{F:α->β->Prop}{a:α}{b:β}(f:F a b):∀ {l:List α}{r:List β}(p:Nat),Paired F l r->Paired F (l.take p++a::l.drop p) (r.take p++b::r.drop p)
 | _,_,0,q=>by simpa using Paired.cons f q
 | _,_,p+1, .nil=>by simpa using Paired.cons f .nil
 | _,_,p+1, .cons g t=>by
  simp only [List.take_succ_cons,List.drop_succ_cons,iq]
  exact .cons g (jEU f p t)
theorem jR7 {α:Type}(l:List α)(p:Nat)(x z:α):z∈l.take p++x::l.drop p↔z=x\/z∈l:=by
 conv=>rhs; rw[<- bv p l]
 simp only [aL,aG]
 constructor
 ·rintro (h | h | h)
  ·exact .inr (.inl h)
  ·exact .inl h
  ·exact .inr (.inr h)
 ·rintro (h | h | h)
  ·exact .inr (.inl h)
  ·exact .inl h
  ·exact .inr (.inr h)
theorem jFC {α:Type}(l:List α)(p:Nat)(x:α):(l.take p++x::l.drop p).Perm (x::l):=by
 have h:(l.take p++x::l.drop p).Perm (x::(l.take p++l.drop p)):=List.perm_middle
 rw[bv] at h
 exact h
structure SetG (w:World)(h:Heap)(a:Addr)(ks:List Int):Prop where
 ex:∃ o es ep t,h.get? a=some o/\o.ExactSet/\o.data= .set es ep t/\Paired El es.toList ks/\Tab t es.size (ledW w)
 nd:ks.Nodup
 len:ks.length<=4
section
variable {prog:Program}{w:World}{A:Around}{E:Value->Shared->Prop}{s:Shared}{a:Addr}{ks:List Int}{k:Int}{tk:Tok}
theorem elems {es:List (Int×Value)}(h:Paired El es ks):ElemsOf (intKind prog w) es:=fun e he=>by
 obtain⟨k,_,h1,t,h2⟩:=jBY h e he
 rw[h2]
 exact⟨⟨k,by show Value.isInt k (.int k t)=true; simp [Value.isInt],h1⟩,rfl⟩
theorem SetG.at {h h':Heap}(S:SetG w h a ks)(e:∀ o,h.get? a=some o->h'.get? a=some o):SetG w h' a ks:=by
 obtain⟨⟨o,es,ep,t,ho,r⟩,nd,len⟩:=S
 exact⟨⟨o,es,ep,t,e _ ho,r⟩,nd,len⟩
theorem jCL (k0:0<=k)(k1:k<32):hashInt k=k:=by
 obtain⟨n,rfl⟩:=Int.eq_ofNat_of_zero_le k0
 have e:∀ n:Nat,n<32->hashInt (n:Int)=(n:Int):=by decide+kernel
 exact e n (by omega)
theorem jV7 {Q:Bool->Shared->Prop}(S:SetG w s.heap a ks)(hl:ks.length+1<=4)(k0:0<=k)(k1:k<32)
  (h:∀ b h' ks',Heap.SameBut a s.heap h'->SetG w h' a ks'->(∀ z,z∈ks'↔z=k\/z∈ks)->ks'.length<=ks.length+1->Q b { s with heap:=h'}):
  wpAny (model prog w) A (setAddHashed a (.int k tk) (hashInt k)) Q E s:=by
 obtain⟨o,es,ep,t,ho,hex,hd,hp,T⟩:=id S.ex
 have hn:es.size=ks.length:=by rw[<- aM]; exact fe hp
 have hf:=T.fits (by omega)
 have hel:ElemsOf (intKind prog w) es.toList:=elems hp
 have hb:es.size<scanBound:=by unfold scanBound; omega
 have hi:∀ (j:Int) (t:Tok),Value.isInt k (.int j t)=true->j=k:=fun j t e=>by simpa [Value.isInt] using e
 unfold setAddHashed setAddHashedIn
 refine bJ (ab (dy ho hd hf ?_))
 dsimp only
 rw[byScan_of (knd:=intKind prog w) rfl hb hel,aq rfl]
 unfold setAddByScan
 refine ab (ab (de (ab ?_)))
 refine wpAny_setScan_of (knd:=intKind prog w) (k:=k) (by show Value.isInt k (.int k tk)=true; simp [Value.isInt]) ho hd hf hel ?_
 have es0:s= { s with heap:=s.heap} :=by cases s; rfl
 cases hr:List.findIdx? (fun e=>(intKind prog w).is k e.2) es.toList with
 | some j=>
  obtain⟨hj,hpj,_⟩:=List.findIdx?_eq_some_iff_getElem.mp hr
  obtain⟨k',hk',_,t',e'⟩:=jBY hp _ (cz hj)
  have hkk:k'=k:=hi k' t' (by rw[<- e']; exact hpj)
  subst hkk
  refine ah (ah ?_)
  rw[es0]
  exact h false s.heap ks (Heap.SameBut.refl a s.heap) S (fun z=>⟨.inr,fun q=>q.elim (fun e=>e ▸ hk') id⟩) (by omega)
 | none=>
  have hnk:k∉ks:=fun hm=>by
   obtain⟨e,he,_,t',e'⟩:=jD9 hp k hm
   have q:=List.findIdx?_eq_none_iff.mp hr e he
   rw[e'] at q
   have q':Value.isInt k (.int k t')=false:=q
   simp [Value.isInt] at q'
  obtain⟨T1,p,hp1⟩:=jKI T (by omega) es rfl (h:=hashInt k) (by rw[jCL k0 k1]; exact k0) (by rw[jCL k0 k1]; exact k1) (.int k tk)
  dsimp only
  show wpAny _ A (match layNew t es (hashInt k) (Value.int k tk) with | (es,t,wasDummy,gave)=>_) _ E s
  generalize layNew t es (hashInt k) (Value.int k tk)=L at T1 hp1 ⊢
  obtain⟨es1,t1,wd,gv⟩:=L
  dsimp only at T1 hp1 ⊢
  have hp2:Paired El es1.toList (ks.take p++k::ks.drop p):=by
   rw[hp1]
   exact jEU ⟨rfl,tk,rfl⟩ p hp
  have hz1:es1.size=es.size+1:=by
   rw[<- aM,hp1,(jFC es.toList p (hashInt k,Value.int k tk)).length_eq]
   simp
  have hlen:(ks.take p++k::ks.drop p).length=ks.length+1:=(jFC ks p k).length_eq
  have T1':Tab t1 es1.size (ledW w):=by rw[hz1]; exact T1
  have hg:(s.heap.update a (Obj.putSet es1 t1)).get? a=some { o with data:= .set es1 (ep+1) t1} :=by
   have q:=dH (Obj.putSet es1 t1) ho (by rw[putSet_of es1 t1 hd]; rfl)
   rw[putSet_of es1 t1 hd] at q
   exact q
  have fin:Q true { s with heap:=s.heap.update a (Obj.putSet es1 t1)} :=
   h true _ _ (gA ..) ⟨⟨_,es1,ep+1,t1,hg,hex,rfl,hp2,T1'⟩,(jFC ks p k).nodup_iff.mpr (cD.mpr ⟨hnk,S.nd⟩),by omega⟩ (fun z=>jR7 ks p k z) (by omega)
  have hfull:t1.tooFull=false:=T1'.full (by omega)
  refine ab (show wpAny _ A (match gv with | true=>rule "set.scan.the-table-gave-way" | false=>pure ()) _ E s from ?_)
  have hzl:es1.size<=sizeLine:=by rw[hz1,show sizeLine=2 ^ 24 from rfl]; omega
  cases gv with
  | true=>
   refine de ?_
   split
   all_goals
    refine ab (show wpAny _ A (pure true:Sem Bool) _ E s from ah ?_)
    simp only [gj]
    refine ab (wpAny_storeSet_of ho hd ?_ hzl)
    rw[hfull,cS,am aj]
    exact ah (ah fin)
  | false=>
   refine ah ?_
   split
   all_goals
    refine ab (show wpAny _ A (pure true:Sem Bool) _ E s from ah ?_)
    simp only [gj]
    refine ab (wpAny_storeSet_of ho hd ?_ hzl)
    rw[hfull,cS,am aj]
    exact ah (ah fin)
end
theorem jBV:entryFor table "set.update.loop" =some Builtin.«set.update.loop»:=entryFor_of_fast (by kernel_rfl)
theorem jAP:plainId "set.update.loop" =true:=by decide+kernel
section
variable {prog:Program}{w:World}{A:Around}{R:Result->Shared->Prop}{I:Addr}{fp wr:List Addr}{n:Nat}{P:Nat->Value->Prop}{St:Nat->Shared->Prop}
theorem jO5 (W:WalksS prog w A.in1 I fp wr (fun a b=>b=a) n P St)(S:Addr)(hSf:S∉fp)(val:Nat->Int)(hval:∀ i v,P i v->∃ t,v= .int (val i) t)(hv:∀ i,i<n->0<=val i/\val i<32)(hn:n<=4):
  ∀ (k i:Nat) (s:Shared) (ks:List Int),n - i=k->i<=n->St i s->SetG w s.heap S ks->ks.length<=i->(∀ z,z∈ks↔∃ j,j<i/\val j=z)->
   (∀ s' ks',Moved (S::wr) (fun a b=>b=a) s s'->SetG w s'.heap S ks'->(∀ z,z∈ks'↔∃ j,j<n/\val j=z)->R (.ok (.ret .none)) s')->
   codeAny (model prog w) A (.builtin "set.update.loop" ⟨[.ref S, .ref I],[]⟩) R s:=by
 have hSw:S∉wr:=fun h=>hSf (W.sub _ h)
 have sub1:∀ b∈wr,b∈S::wr:=fun b hb=>aK _ hb
 intro k
 induction k with
 | zero=>
  intro i s ks hk hi hst hS hl hm hR
  obtain rfl:i=n:=by omega
  refine ce jBV ?_
  rw[bX jAP _]
  show wpAny _ A.in1 (pyNext (.ref I) >>= _) _ _ s
  refine ab (W.done s _ _ hst fun s' mv=>?_)
  show wpAny _ A.in1 (ret Value.none) _ _ s'
  exact ah (hR s' ks (mv.mono sub1) (hS.at fun o e=>mv.heap S o hSw e) hm)
 | succ k ih=>
  intro i s ks hk hi hst hS hl hm hR
  have hlt:i<n:=by omega
  refine ce jBV ?_
  rw[bX jAP _]
  show wpAny _ A.in1 (pyNext (.ref I) >>= _) _ _ s
  refine ab (W.item i s _ _ hlt hst fun v s' hP hst' mv=>?_)
  obtain⟨t,rfl⟩:=hval i v hP
  have hS':=hS.at (h':=s'.heap) fun o e=>mv.heap S o hSw e
  show wpAny _ A.in1 (holding [Value.int (val i) t] (setAdd S (.int (val i) t)) >>= _) _ _ s'
  refine ab (bJ ?_)
  unfold setAdd
  refine bJ (ab (wpAny_pyHash_int ?_))
  refine jV7 (s:= { s' with toks:=s'.toks+1}) hS' (by omega) (hv i hlt).1 (hv i hlt).2 fun b h' ks' sb hS2 hm2 hl2=>?_
  refine ah ⟨eI jAP _,ih (i+1) _ ks' (by omega) hlt (W.frame _ s' _ _ hst' (dF _) fun b hb o e=>?_) hS2 (by omega) (fun z=>?_) fun s'' ks'' mv2 hS3 hm3=>?_⟩
  ·rw[sb.2 b (fun h:b=S=>hSf (by rw[<- h]; exact hb))]
   exact e
  ·rw[hm2,hm]
   constructor
   ·rintro (h | ⟨j,hj,e⟩)
    ·exact⟨i,by omega,h.symm⟩
    ·exact⟨j,by omega,e⟩
   ·rintro ⟨j,hj,e⟩
    by_cases hji:j=i
    ·exact .inl (by rw[<- e,hji])
    ·exact .inr ⟨j,by omega,e⟩
  ·refine hR s'' ks'' (Moved.trans W.gtrans ((mv.mono sub1).then_heap (dF _) fun b o hb e=>?_) mv2) hS3 hm3
   rw[sb.2 b (fun h:b=S=>hb (by rw[h]; exact aE))]
   exact e
end
section
variable {prog:Program}{w:World}{A:Around}{E:Value->Shared->Prop}{s:Shared}
theorem jS9 (a:Value){Q:Value->Shared->Prop}
  (h:Q (.ref s.heap.objs.size) { s with heap:=s.heap.push { cls:= .type "set",dict:=none,data:= .set #[] 0 (.fresh 0 0 (ledW w))}}):
  codeAny (model prog w) A (.call (.builtin "set.__new__") ⟨[.type "set",a],[]⟩) (wants Q E) s:=by
 refine codeAny_of_tree (show wpAny _ A.in1 (do checkBuiltinCall "set.__new__" ⟨[.type "set",a],[]⟩; again (.builtin "set.__new__" ⟨[.type "set",a],[]⟩)) _ _ s from ?_)
 refine ab (wpAny_of_eq (F.newCall_set_1 a) (ah ⟨eI F.plain_set_new _,ce F.entry_set_new ?_⟩))
 rw[bX F.plain_set_new _]
 unfold Builtin.«set.__new__» Builtin.Frozenset.newClass
 have q:=sub_set_self
 obtain⟨hp,g,d,tk,os⟩:=s
 dsimp only
 wp_walk
 refine eR (ah ?_)
 dsimp only
 simp only [newObj]
 exact ab (wpAny_alloc (ah (ah h)))
set_option maxHeartbeats 3200000 in
theorem set_of_list {l:Addr}{items:Array Value}{ns:List Int}{Q:Value->Shared->Prop}(hh:A.handled=none)(hl:s.heap.IsList l items)(hi:PyProof.Rows.IntsAre items.toList ns)
  (hn:items.size<=4) (hv:∀ z∈ns,0<=z/\z<32)
  (h:∀ (h':Heap) (tk:Nat) (ks:List Int),SetG w h' s.heap.objs.size ks->(∀ z,z∈ks↔z∈ns)->(∀ b o,s.heap.get? b=some o->h'.get? b=some o)->Q (.ref s.heap.objs.size) { s with heap:=h',toks:=tk}):
  wpAny (model prog w) A (call (.type "set") [.ref l]) Q E s:=by
 obtain⟨c,tl,hmro⟩:=F.called_set.mro
 have hmade:=F.called_set.made
 have hsub:=F.called_set.sub
 have g1:=F.called_set.notType
 have g2:=F.called_set.canCreate
 have g3:=F.typeCall_set_1 (.ref l)
 refine ix (codeAny_of_tree (show wpAny _ _ (callAny (.type "set") _) _ _ _ from ?_))
 refine ah ⟨Code.quiet_builtin _ (by decide+kernel),ce F.entry_type_call ?_⟩
 rw[Around.under_plain (weight_type_call_type "set" [.ref l] []) rfl]
 repeat (any_goals (first | assumption | wp_step))
 have hlen:items.size=ns.length:=by rw[<- aM]; exact hi.length
 refine dQ (jS9 (.ref l) (E:=E) (Q:=fun obj z=>obj= .ref s.heap.objs.size/\z= { s with heap:=s.heap.push { cls:= .type "set",dict:=none,data:= .set #[] 0 (.fresh 0 0 (ledW w))}}) ⟨rfl,rfl⟩) fun r z hr=>?_
 cases r with
 | error e=>exact hr
 | ok fl=>
  cases fl with
  | ret obj=>
   obtain⟨rfl,rfl⟩:=hr
   generalize hO:({ cls:= .type "set",dict:=none,data:= .set #[] 0 (.fresh 0 0 (ledW w))} :Obj)=oS
   have hS:(s.heap.push oS).get? s.heap.objs.size=some oS:=ax _ (by rw[<- hO]; rfl)
   have hT:Shared.TypeIs { s with heap:=s.heap.push oS} (.ref s.heap.objs.size) "set" :=⟨_,hS,by rw[<- hO]⟩
   have hli:=F.called_set.init.lookup
   have hbi:=F.called_set.init.bind (.ref s.heap.objs.size)
   repeat (any_goals (first | assumption | wp_step))
   refine dQ (codeAny_call_builtin (R:=wants (fun r z2=>r= .none/\∃ h' tk ks,z2= { s with heap:=h',toks:=tk} /\SetG w h' s.heap.objs.size ks/\(∀ z,z∈ks↔z∈ns)/\(∀ b o,s.heap.get? b=some o->h'.get? b=some o)) E)
    F.called_set.init.plain F.entry_set_init (check_set_init_1 hT ?_)) fun r2 z2 hr2=>?_
   ·obtain⟨ol,hol,hcl,nl,hdl⟩:=hl
    obtain⟨ocls,odict,odata,oslots⟩:=ol
    simp only at hcl hdl
    subst hcl; subst hdl
    have hol':(s.heap.push oS).get? l=some { cls:= .type "list",dict:=odict,data:= .seq items nl,slots:=oslots} :=af _ hol
    have y1:=F.sub_list_set
    have y2:=F.sub_list_frozenset
    have y3:(Value.type "list" ==Value.type "dict")=false:=by decide
    have hl1:(s.heap.push oS).IsList l items:=⟨_,hol',rfl,nl,rfl⟩
    subst hO
    unfold Builtin.«set.__init__» noKeywords Builtin.Frozenset.updateFrom
    generalize hPI:pyIter=PI
    wp_walk
    subst hPI
    refine cP hl1 (ab (gL ?_))
    have hlS:l<s.heap.objs.size:=aA hol
    have hz1:(s.heap.push { cls:= .type "set",dict:=none,data:= .set #[] 0 (.fresh 0 0 (ledW w))}).objs.size=s.heap.objs.size+1:=dG _ _
    have nI:l≠(s.heap.push { cls:= .type "set",dict:=none,data:= .set #[] 0 (.fresh 0 0 (ledW w))}).objs.size:=by
     rw[hz1]
     exact aS (cC hlS)
    have nS:s.heap.objs.size∉ [(s.heap.push { cls:= .type "set",dict:=none,data:= .set #[] 0 (.fresh 0 0 (ledW w))}).objs.size,l]:=by
     rw[hz1]
     simp only [aG,bU,eN,jn]
     exact⟨aS (ir _),dD hlS⟩
    have hget:((s.heap.push { cls:= .type "set",dict:=none,data:= .set #[] 0 (.fresh 0 0 (ledW w))}).push { cls:= .type "list_iterator",data:= .fields #[.ref l, .int 0 0]}).get? s.heap.objs.size
      =some { cls:= .type "set",dict:=none,data:= .set #[] 0 (.fresh 0 0 (ledW w))} :=af _ hS
    refine jO5 ((gM (by simp [hh]) _ l nI items).toS) s.heap.objs.size nS (fun i=>ns.getD i 0) (fun i v q=>PyProof.Rows.IntsAre.int_at hi i v (by rw[bD]; exact q))
     (fun i q=>hv _ ?_) hn (items.size - 0) 0 _ [] rfl (br _) ⟨⟨_,ax _ rfl,rfl,rfl⟩,hl1.push _⟩ ⟨⟨_,#[],0,_,hget,⟨rfl,rfl,rfl⟩,rfl, .nil,jL6 _⟩,fX,br _⟩ (ao _) (fun z=>⟨fun q=>by(cases q),fun ⟨j,q,_⟩=>absurd q (eF _)⟩) ?_
    ·have q':i<ns.length:=by rw[<- hlen]; exact q
     simp [List.getD,q']
    ·intro s' ks mv S' hm
     obtain⟨h',g',d',tk',os'⟩:=s'
     have e1:g'=s.gens:=mv.gens
     have e2:d'=s.drawn:=mv.drawn
     have e3:os'=s.os:=mv.os
     subst e1; subst e2; subst e3
     refine ah (ah ⟨rfl,h',tk',ks,rfl,S',fun z=>?_,fun b o e=>?_⟩)
     ·rw[hm]
      constructor
      ·rintro ⟨j,hj,e⟩
       have hj':j<ns.length:=by rw[<- hlen]; exact hj
       rw[<- e]
       simp [List.getD,hj']
      ·intro hz
       obtain⟨j,hj,e⟩:=d0 hz
       exact⟨j,by rw[hlen]; exact hj,by simp [List.getD,hj,e]⟩
     ·have hb:=aA e
      refine mv.heap b o ?_ (af _ (af _ e))
      rw[hz1]
      simp only [aG,bU,eN,jn]
      exact⟨aS hb,aS (cC hb)⟩
   ·cases r2 with
    | error e=>exact hr2
    | ok fl2=>
     cases fl2 with
     | ret r=>
      obtain⟨rfl,h',tk,ks,rfl,hS',hm,hk⟩:=hr2
      repeat (any_goals (first | assumption | wp_step))
      exact h _ _ _ hS' hm hk
     | _=>exact hr2.elim
  | _=>exact hr.elim
end
theorem slot_si_next:Slot "set_iterator" "__next__" "set_iterator.__next__" :=
 .of (owner:= "set_iterator") (n:= "__next__") (by
   rw[iI,gc]
   kernel_rfl) (by decide+kernel) (by decide+kernel)
  (by decide+kernel)
  (by first
   | exact .inl (by decide+kernel)
   | exact .inr (by decide+kernel))
  (by
   rw[iU]
   kernel_rfl)
theorem jD6:Slot "set_iterator" "__iter__" "set_iterator.__iter__" :=
 .of (owner:= "set_iterator") (n:= "__iter__") (by
   rw[iI,gc]
   kernel_rfl) (by decide+kernel) (by decide+kernel)
  (by decide+kernel)
  (by first
   | exact .inl (by decide+kernel)
   | exact .inr (by decide+kernel))
  (by
   rw[iU]
   kernel_rfl)
theorem jCN:entryFor table "set_iterator.__next__" =some Builtin.«set_iterator.__next__»:=entryFor_of_tree (by kernel_rfl)
theorem jEL:entryFor table "set.__iter__" =some Builtin.«frozenset.__iter__»:=
 entryFor_alias (id':= "frozenset.__iter__") (by kernel_rfl) rfl (by decide+kernel) (by kernel_rfl)
theorem jFY:entryFor table "set_iterator.__iter__" =some Builtin.«dict_keyiterator.__iter__»:=
 entryFor_alias (id':= "dict_keyiterator.__iter__") (by kernel_rfl) (by first | rfl | decide+kernel | (unfold String.splitOn; simp+decide [String.splitOnAux])) (by decide+kernel)
  (by kernel_rfl)
theorem jDC (a:Value):argsOk "set_iterator.__next__" ⟨[a],[]⟩:=by unfold argsOk; kernel_rfl
theorem jHJ (a:Value):argsOk "set_iterator.__iter__" ⟨[a],[]⟩:=by unfold argsOk; kernel_rfl
theorem jG5 (a:Value):argsOk "set.__iter__" ⟨[a],[]⟩:=by unfold argsOk; kernel_rfl
abbrev byTxt (w:World):Bool:=w.params.followText "set-order"
abbrev IsSI (h:Heap)(I:Addr)(slot i:Nat)(a:Addr)(n ep:Nat):Prop:=
 h.get? I=some { cls:= .type "set_iterator",dict:=none,data:= .fields #[rawInt slot,rawInt i, .ref a,rawInt n,rawInt ep],slots:=#[]}
def qB (w:World)(t:SetTable)(i:Nat):Nat:=if byTxt w=true then 0 else jIY t.place i
def told (w:World)(a:Addr)(ep:Nat)(es:Array (Int×Value)):List Value:=(if byTxt w=true then (pickOrder (w.params.setOrder a ep) es).toList else es.toList).map (·.2)
theorem jAW (w:World)(a:Addr)(ep:Nat)(es:Array (Int×Value)):(told w a ep es).length=es.size:=by
 unfold told
 rw[ae]
 split
 ·rw[(jGJ _ es).length_eq]; simp
 ·simp
theorem jL4 (w:World)(a:Addr)(ep:Nat)(es:Array (Int×Value)):(told w a ep es).Perm (es.toList.map (·.2)):=by
 unfold told
 split
 ·exact(jGJ _ es).map _
 ·exact .refl _
section
variable {prog:Program}{w:World}{A:Around}{E:Value->Shared->Prop}{s:Shared}{a I:Addr}{o:Obj}{es:Array (Int×Value)}{ep:Nat}{t:SetTable}
theorem jM6 {i:Nat}{Q:Option (Value×Nat)->Shared->Prop}(ho:s.heap.get? a=some o)(hd:o.data= .set es ep t)(T:Tab t es.size (ledW w))(hn:es.size<=4)(hi:i<=es.size)
  (h:Q ((told w a ep es)[i]?.map fun v=>(v,qB w t (i+1))) s):wpAny (model prog w) A (setNext a (qB w t i) i ep) Q E s:=by
 unfold setNext
 refine ab (dy ho hd (T.fits hn) ?_)
 dsimp only
 unfold setsByText
 refine ab (ab (eR (ah ?_)))
 show wpAny _ A (if byTxt w=true then _ else _) Q E s
 have hl:=jAW w a ep es
 by_cases hb:byTxt w=true
 ·rw[aq hb,am (by simp)]
  unfold setWalk
  refine ab (ab (dy ho hd (T.fits hn) ?_))
  dsimp only
  unfold setsByText
  refine ab (ab (eR (ah ?_)))
  show wpAny _ A (if byTxt w=true then _ else _) _ E s
  rw[aq hb]
  refine ab (eR (ah (ah ?_)))
  have e:(told w a ep es)[i]?.map (fun v=>(v,qB w t (i+1)))=(pickOrder (w.params.setOrder a ep) es)[i]?.map (fun e=>(e.snd,qB w t i)):=by
   unfold told qB
   rw[aq hb,aq hb,aq hb,aN,bD,Option.map_map]
   rfl
  rw[e] at h
  exact h
 ·rw[am hb]
  have hb':byTxt w=false:=by simpa using hb
  have hld:t.led=true:=by rw[T.ld]; show (!byTxt w)=true; rw[hb']; rfl
  show wpAny _ A (if (!t.plain&&decide (es.size>1))=true then _ else _) Q E s
  rw[T.pl,i5,fO,am aj]
  refine ab ?_
  show wpAny _ A (if (!t.led&&!es.isEmpty)=true then _ else pure ()) _ E s
  rw[hld,i5,fO,am aj]
  refine ah (ah ?_)
  have eb:SetTable.below t.place (qB w t i)=i:=by
   unfold qB
   rw[am hb]
   exact jHI T.ris (by rw[T.sz]; exact hi)
  rw[eb]
  have et:(told w a ep es)[i]?=es[i]?.map (·.2):=by
   unfold told
   rw[am hb,aN,bD]
  rw[et] at h
  by_cases hlt:i<es.size
  ·have h1:es[i]?=some es[i]:=by simp [hlt]
   have hlt2:i<t.place.size:=by rw[T.sz]; exact hlt
   have h2:t.place[i]?=some t.place[i]:=by simp [hlt2]
   have h3:qB w t (i+1)=t.place[i]+1:=by
    unfold qB jIY
    rw[am hb]
    simp [Array.getD,hlt2]
   rw[h1,h3] at h
   rw[h1,h2]
   exact h
  ·have h1:es[i]?=none:=by simp; omega
   rw[h1] at h
   rw[h1]
   exact h
theorem jGG {i:Nat}{v:Value}{Q:Option Value->Shared->Prop}(ho:s.heap.get? a=some o)(hd:o.data= .set es ep t)(T:Tab t es.size (ledW w))(hn:es.size<=4)
  (hit:IsSI s.heap I (qB w t i) i a es.size ep) (hv:(told w a ep es)[i]?=some v)
  (hQ:∀ h',IsSI h' I (qB w t (i+1)) (i+1) a es.size ep->Heap.SameBut I s.heap h'->Q (some v) { s with heap:=h'}):wpAny (model prog w) A (pyNext (.ref I)) Q E s:=by
 have hT:s.TypeIs (.ref I) "set_iterator" :=⟨_,hit,rfl⟩
 have hi:i<es.size:=by
  rw[<- jAW w a ep es]
  exact(ai.mp hv).1
 unfold pyNext
 refine ab (fh (cH (name:=Str.ofString "__next__") hT slot_si_next (cj slot_si_next hT jCN ?_ (jDC _))))
 unfold Builtin.«set_iterator.__next__»
 refine ab (m:=slotArgs "__next__" 0 _) (ah ?_)
 dsimp only
 unfold fieldsOf
 refine ab (ab (gd hit ?_))
 refine ah ?_
 dsimp only [rawInt]
 unfold setEntries
 refine ab (ab (dy ho hd (T.fits hn) (ah ?_)))
 rw[am (by simp)]
 simp only [bq]
 refine ab (jM6 ho hd T hn (dC hi) ?_)
 rw[hv]
 dsimp only [Option.map]
 refine ab (cF hit (by simp) fun h1 hit1 sb1=>?_)
 refine ab (cF hit1 (by simp) fun h2 hit2 sb2=>?_)
 refine ah ⟨v,rfl,ah (hQ h2 ?_ (sb1.trans sb2))⟩
 show h2.get? I=_
 rw[hit2]
 simp [rawInt]
theorem jHR {Q:Option Value->Shared->Prop}(hh:A.handled=none)(ho:s.heap.get? a=some o)(hd:o.data= .set es ep t)(T:Tab t es.size (ledW w))(hn:es.size<=4)
  (hit:IsSI s.heap I (qB w t es.size) es.size a es.size ep)
  (hQ:∀ h',Heap.ExtBut I s.heap h'->Q none { s with heap:=h'}):wpAny (model prog w) A (pyNext (.ref I)) Q E s:=by
 have hT:s.TypeIs (.ref I) "set_iterator" :=⟨_,hit,rfl⟩
 unfold pyNext
 refine ab (fh (cH (name:=Str.ofString "__next__") hT slot_si_next (cj slot_si_next hT jCN ?_ (jDC _))))
 unfold Builtin.«set_iterator.__next__»
 refine ab (m:=slotArgs "__next__" 0 _) (ah ?_)
 dsimp only
 unfold fieldsOf
 refine ab (ab (gd hit ?_))
 refine ah ?_
 dsimp only [rawInt]
 unfold setEntries
 refine ab (ab (dy ho hd (T.fits hn) (ah ?_)))
 rw[am (by simp)]
 simp only [bq]
 refine ab (jM6 ho hd T hn (ao _) ?_)
 rw[dc (by rw[jAW]; exact ao _)]
 dsimp only [Option.map]
 refine ab (cF hit (by simp) fun h1 hit1 sb1=>?_)
 refine ab ?_
 simp only [newExc,newTuple]
 refine ab (cR ?_ (by size_fits))
 refine ab (m:=firstArgMember _ _) (wpAny_of_eq (a:=Value.none) (by first | rfl | (simp only [firstArgMember]; rfl)) ?_)
 refine cR ?_ (by size_fits)
 simp only [raiseNew]
 refine ab (wpAny_handled ?_)
 rw[show A.in1.handled=none from hh]
 refine ab (ah (wpAny_throw ?_))
 refine ab (iu (T:= "StopIteration") (b:=true) ⟨_,ax _ rfl,rfl⟩ isSubtype_stop ?_)
 exact ah (hQ _ ((sb1.extBut.push _).push _))
theorem jR1 {i:Nat}{slot n:Nat}{Q:Value->Shared->Prop}(hit:IsSI s.heap I slot i a n ep)(h:Q (.ref I) s):wpAny (model prog w) A (pyIter (.ref I)) Q E s:=by
 have hT:s.TypeIs (.ref I) "set_iterator" :=⟨_,hit,rfl⟩
 refine wpAny_pyIter_slot hT jD6 (cj jD6 hT jFY ?_ (jHJ _))
 show wpAny _ _ (ret (.ref I)) _ _ s
 exact ah ⟨_,rfl,"set_iterator",_,hT,slot_si_next.lookup,h⟩
theorem jO8 {Q:Value->Shared->Prop}(hx:o.ExactSet)(ho:s.heap.get? a=some o)(hd:o.data= .set es ep t)(T:Tab t es.size (ledW w))(hn:es.size<=4)
  (hQ:∀ h',h'.get? s.heap.objs.size=some { cls:= .type "set_iterator",dict:=none,data:= .fields #[rawInt (qB w t 0),rawInt 0, .ref a,rawInt es.size,rawInt ep],slots:=#[]} ->(∀ b u,s.heap.get? b=some u->h'.get? b=some u)->
   h'.objs.size=s.heap.objs.size+1->Q (.ref s.heap.objs.size) { s with heap:=h'}):wpAny (model prog w) A (pyIter (.ref a)) Q E s:=by
 have hT:s.TypeIs (.ref a) "set" :=⟨o,ho,hx.1⟩
 refine wpAny_pyIter_slot hT iQ (cj iQ hT jEL ?_ (jG5 _))
 unfold Builtin.«frozenset.__iter__»
 refine ab (show wpAny _ _ (pure a:Sem Addr) _ _ s from ah ?_)
 unfold Builtin.Frozenset.sizeOf setEntries
 refine ab (ab (ab (dy ho hd (T.fits hn) (ah (ah ?_)))))
 dsimp only
 unfold setDrawn
 refine ab (ab (dy ho hd (T.fits hn) ?_))
 dsimp only
 unfold setsByText
 refine ab (ab (eR (ah (ah ?_))))
 show wpAny _ _ (if (!byTxt w&&(!t.plain&&decide (es.size>1)))=true then _ else _) _ _ s
 rw[T.pl,i5,fO,cS,am aj]
 refine ab (ah ?_)
 refine ab (wpAny_setEpoch_of ho hd (T.fits hn) ?_)
 refine ab (cR (ah ⟨_,rfl,"set_iterator",_,⟨_,ax _ rfl,rfl⟩,slot_si_next.lookup,hQ _ ?_ (fun b u e=>af _ e) (dG _ _)⟩) (by size_fits))
 have e0:qB w t 0=0:=by unfold qB jIY; split <;> rfl
 rw[e0]
 exact ax _ rfl
theorem jKZ (hh:A.handled=none)(hne:a≠I)(hd:o.data= .set es ep t)(T:Tab t es.size (ledW w))(hn:es.size<=4):
  Walks prog w A I [I,a] [I] es.size (fun i v=>(told w a ep es)[i]?=some v) (fun i h=>IsSI h I (qB w t i) i a es.size ep/\h.get? a=some o) where
 sub:=fun b hb=>by simp at hb; simp [hb]
 frame:=fun _ _ _ st hk=>⟨hk I (by simp) _ st.1,hk a (by simp) _ st.2⟩
 item:=fun i s Q E hi st hQ=>by
  obtain⟨v,hv⟩:∃ v,(told w a ep es)[i]?=some v:=⟨_,aw (by rw[jAW]; exact hi)⟩
  exact jGG st.2 hd T hn st.1 hv fun h' hit' sb=>hQ v h' s.toks hv ⟨hit',(sb.2 a hne).trans st.2⟩ fun b o hb e=>(sb.2 b (fun z=>hb (by simp [z]))).trans e
 done:=fun s Q E st hQ=>jHR hh st.2 hd T hn st.1 fun h' eb=>hQ h' s.toks fun b o hb e=>eb b o (fun z=>hb (by simp [z])) e
 self:=fun _ _ _ _ st hQ=>jR1 st.1 hQ
end
theorem jGE:typeLookup (.type "set") "__len__" =pure (some (.builtin "set.__len__")):=by rw[iI,gc]; kernel_rfl
section
variable {prog:Program}{w:World}{A:Around}{E:Value->Shared->Prop}{s:Shared}{a:Addr}{o:Obj}{es:Array (Int×Value)}{ep:Nat}{t:SetTable}
theorem jPC {Q:Bool->Shared->Prop}(hT:s.TypeIs (.ref a) "set")(h:Q false s):wpAny (model prog w) A (Builtin.List.listLengthHint (.ref a)) Q E s:=by
 unfold Builtin.List.listLengthHint
 refine ab (wpAny_specialOf hT jGE ?_)
 generalize hid:("set.__len__" :String)=id0
 wp_delta
 rw[show splitId id0=some ("set","__len__") from by subst hid; decide+kernel]
 subst hid
 refine ab (iu (b:=true) hT (by rw[iU]; kernel_rfl) ?_)
 refine wpAny_ite_split (fun q=>absurd q (by decide)) (fun _=>?_)
 refine wpAny_ite_split (fun _=>?_) (fun q=>absurd (by decide+kernel) q)
 exact ab (iB hT (ah h))
theorem jIH {Q:List Value->Shared->Prop}(hh:A.handled=none)(hx:o.ExactSet)(ho:s.heap.get? a=some o)(hd:o.data= .set es ep t)(T:Tab t es.size (ledW w))(hn:es.size<=4)
  (hQ:∀ s',(∀ b u,s.heap.get? b=some u->s'.heap.get? b=some u)->s'.gens=s.gens->s'.drawn=s.drawn->s'.os=s.os->s.heap.objs.size<s'.heap.objs.size->Q (told w a ep es) s'):wpAny (model prog w) A (collect (.ref a)) Q E s:=by
 have ha:a<s.heap.objs.size:=aA ho
 have hSa:s.heap.objs.size≠a:=dD ha
 unfold collect
 refine ab (gL (ce PySem.F.entry_proto_collect ?_))
 rw[bX gE _]
 show wpAny _ A.in1 (newList [] >>= fun l=>again (.builtin "list.__iadd__" ⟨[l, .ref a],[]⟩)) _ _ s
 refine ab (cR (ah ⟨eI eh _,ce PySem.F.entry_list_iadd ?_⟩))
 rw[bX eh _]
 generalize hE:({ s with heap:=s.heap.push { cls:= .type "list",dict:=none,data:= .seq ([]:List Value).toArray}} :Shared)=s1
 have ho1:s1.heap.get? a=some o:=by rw[<- hE]; exact af _ ho
 have hL1:s1.heap.get? s.heap.objs.size=some { cls:= .type "list",dict:=none,data:= .seq ([]:List Value).toArray} :=by rw[<- hE]; exact ax _ rfl
 have hz1:s1.heap.objs.size=s.heap.objs.size+1:=by rw[<- hE]; exact dG _ _
 have hT1:s1.TypeIs (.ref a) "set" :=⟨o,ho1,hx.1⟩
 show wpAny _ A.in1 (Builtin.List.listExtendWith (.ref s.heap.objs.size) (.ref a) (.ref s.heap.objs.size)) _ _ _
 unfold Builtin.List.listExtendWith
 refine ab (iB hT1 ?_)
 have q1:Builtin.List.listSameRef (.ref s.heap.objs.size) (.ref a)=false:=by simp [Builtin.List.listSameRef,hSa]
 rw[am (by rw[q1]; decide)]
 refine ab (jO8 hx ho1 hd T hn fun h2 hI2 k2 z2=>?_)
 refine ab (bJ ?_)
 have ho2:h2.get? a=some o:=k2 _ _ ho1
 have hT2:Shared.TypeIs { s1 with heap:=h2} (.ref a) "set" :=⟨o,ho2,hx.1⟩
 have hL2:=k2 _ _ hL1
 refine jPC hT2 ?_
 rw[aq (by decide+kernel)]
 refine ab (de ?_)
 have hne:s.heap.objs.size≠s1.heap.objs.size:=by omega
 refine ab ?_
 show wpAny _ A.in1 (updateSeq s.heap.objs.size (·.push .none) >>= fun _=>updateSeq s.heap.objs.size (·.pop)) _ _ _
 refine ab (wpAny_updateSeq hL2 rfl ?_)
 have hL3:=dH (Obj.mapSeq (·.push Value.none)) hL2 rfl
 refine wpAny_updateSeq hL3 rfl ?_
 have hL4:=dH (Obj.mapSeq (·.pop)) hL3 rfl
 have oth:∀ b u,b≠s.heap.objs.size->h2.get? b=some u->((h2.update s.heap.objs.size (Obj.mapSeq (·.push Value.none))).update s.heap.objs.size (Obj.mapSeq (·.pop))).get? b=some u:=
  fun b u hb e=>(cQ _ _ (fk hb)).trans ((cQ _ _ (fk hb)).trans e)
 have W:=(jKZ (prog:=prog) (A:=A.in1) (a:=a) (I:=s1.heap.objs.size) hh (aS (show a<s1.heap.objs.size by rw[hz1]; exact cC ha)) hd T hn).toS
 have z24:es.size<=sizeLine:=by rw[show sizeLine=2 ^ 24 from rfl]; omega
 refine ah ⟨eI PySem.F.plain_extend_loop _,codeAny_extend_loopS W z24 s.heap.objs.size (by simp [hne,hSa]) _ es.size 0 _ _ _ rfl (br _) ⟨oth _ _ (fk hne) hI2,oth _ _ (fk hSa) ho2⟩ hL4 (ItemsOf.nil _) fun s' acc' c' hm hS' hacc=>?_⟩
 show wpAny _ A (load s.heap.objs.size >>= _) _ _ s'
 refine ab (gd hS' ?_)
 have eacc:acc'.toList=told w a ep es:=by
  apply List.ext_getElem?
  intro i
  by_cases hi:i<es.size
  ·have hi':i<acc'.size:=by rw[hacc.1]; exact hi
   have:=hacc.2 i acc'[i] (by simp [hi'])
   rw[this]
   simp [hi']
  ·rw[dc (by rw[aM,hacc.1]; omega),dc (by rw[jAW]; omega)]
 refine ah ?_
 rw[eacc]
 refine hQ s' (fun b u e=>?_) ?_ ?_ ?_ (aA hS')
 ·have hb:b≠s.heap.objs.size:=aS (aA e)
  have hb1:b≠s1.heap.objs.size:=aS (show b<s1.heap.objs.size by rw[hz1]; exact cC (aA e))
  exact hm.heap b u (by simp [hb,hb1]) (oth b u hb (k2 b u (by rw[<- hE]; exact af _ e)))
 ·have:=hm.gens; rw[<- hE] at this; exact this
 ·have:=hm.drawn; rw[<- hE] at this; exact this
 ·have:=hm.os; rw[<- hE] at this; exact this
end
end SS
end
section
namespace SS
open PySem PyProof.Rows
section
variable {prog:Program}{w:World}{A:Around}{E:Value->Shared->Prop}{s:Shared}{a:Addr}{ks:List Int}
theorem jN3:∀ {vs:List Value}{ks:List Int},Paired (fun v k=>∃ t,v=Value.int k t) vs ks->IntsAre vs ks
 | _,_, .nil=> .nil
 | _,_, .cons ⟨t,e⟩ r=>by subst e; exact .cons _ t (jN3 r)
theorem jEV {es:List (Int×Value)} :∀ {ks:List Int},Paired El es ks->Paired (fun v k=>∃ t,v=Value.int k t) (es.map (·.2)) ks
 | _, .nil=> .nil
 | _, .cons ⟨_,q⟩ r=> .cons q (jEV r)
theorem jHU {α β:Type}{F:α->β->Prop}{l l':List α}(p:l'.Perm l):∀ {r:List β},Paired F l r->∃ r',Paired F l' r'/\r'.Perm r:=by
 induction p with
 | nil=>intro r h; cases h; exact⟨[], .nil, .nil⟩
 | cons x _ ih=>
  intro r h
  cases h with
  | cons f t=>
   obtain⟨r',h1,h2⟩:=ih t
   exact⟨_::r', .cons f h1,h2.cons _⟩
 | swap x y l=>
  intro r h
  cases h with
  | cons f t=>
   cases t with
   | cons g t=>exact⟨_, .cons g (.cons f t), .swap _ _ _⟩
 | trans _ _ ih1 ih2=>
  intro r h
  obtain⟨r1,h1,h2⟩:=ih2 h
  obtain⟨r2,h3,h4⟩:=ih1 h1
  exact⟨r2,h3,h4.trans h2⟩
theorem sorted_set {Q:Value->Shared->Prop}(hh:A.handled=none)(S:SetG w s.heap a ks)
  (h:∀ (s':Shared) (l:Addr) (vs:List Value) (ns:List Int) (e:Nat),s.heap.objs.size<=l->(∀ b u,s.heap.get? b=some u->s'.heap.get? b=some u)->s'.gens=s.gens->s'.drawn=s.drawn->s'.os=s.os->
   s'.heap.get? l=some { cls:= .type "list",data:= .seq vs.toArray e} ->IntsAre vs ns->ns.Perm ks->ns.Pairwise (· <= ·)->Q (.ref l) s'):
  wpAny (model prog w) A (call (.builtin "sorted") [.ref a]) Q E s:=by
 obtain⟨o,es,ep,t,ho,hex,hd,hp,T⟩:=S.ex
 have hn:es.size<=4:=by
  have:=fe hp
  rw[aM] at this
  have:=S.len
  omega
 refine eW kind_sorted plain_sorted entry_sorted (args_sorted1 _) ?_
 unfold Builtin.«sorted»
 refine ab (m:=checkCount "sorted" 1 1 _) (ah ?_)
 refine ab (jIH (A:=A.in1) hh hex ho hd T hn fun s1 k1 g1 d1 o1 z1=>?_)
 refine ab (fj ?_ (by rw[jAW,show sizeLine=2 ^ 24 from rfl]; omega))
 obtain⟨ks1,hp1,pm1⟩:=jHU (jL4 w a ep es) (jEV hp)
 have hI:=jN3 hp1
 have hl:(told w a ep es).length<64:=by rw[jAW]; omega
 have hL:(s1.heap.push (seqObj "list" (told w a ep es).toArray 0)).get? s1.heap.objs.size=some (seqObj "list" (told w a ep es).toArray 0):=ax _ rfl
 show wpAny _ _ _ _ _ { s1 with heap:=s1.heap.push (seqObj "list" (told w a ep es).toArray 0)}
 refine ab (bJ (cj gN ⟨_,hL,rfl⟩ gz (list_sort_tree hL hI hl fun out ns' a1 a2 a3=>⟨_,rfl,?_⟩) (args_list_sort _)))
 obtain⟨e,he⟩:=sortedHeap_at (out:=out) hL
 have kept:∀ b u,s.heap.get? b=some u->(sortedHeap (s1.heap.push (seqObj "list" (told w a ep es).toArray 0)) s1.heap.objs.size (told w a ep es) out).get? b=some u:=fun b u q=>by
  have q1:=k1 b u q
  have hb:b<s1.heap.objs.size:=aA q1
  rw[sortedHeap_old (aS hb) (by rw[size_push']; exact cC hb)]
  exact af _ q1
 generalize sortedHeap (s1.heap.push (seqObj "list" (told w a ep es).toArray 0)) s1.heap.objs.size (told w a ep es) out=hf at he kept ⊢
 exact ah ⟨_,rfl,h { s1 with heap:=hf} s1.heap.objs.size out.toList ns' e (dC z1) kept g1 d1 o1 (by rw[dk]; exact he) a1 (a2.trans pm1) a3⟩
end
end SS
end
section
namespace L2
open PySem PySem.Spec PyProof.Rows
section
variable {es:List Expr}{env:Env}{a b:Expr}{pos:Pos}{xs ys:List Expr}
theorem yJ {op:Operator} :starEach (.BinOp a op b pos::es) env=(false,eval (.BinOp a op b pos) env)::starEach es env:=rfl
theorem se_un {op:UnaryOp} :starEach (.UnaryOp op a pos::es) env=(false,eval (.UnaryOp op a pos) env)::starEach es env:=rfl
theorem jQ1 {ops:List CmpOp} :starEach (.Compare a ops xs pos::es) env=(false,eval (.Compare a ops xs pos) env)::starEach es env:=rfl
theorem jF {kw:List Keyword} :starEach (.Call a xs kw pos::es) env=(false,eval (.Call a xs kw pos) env)::starEach es env:=rfl
theorem kD:starEach (.Subscript a b pos::es) env=(false,eval (.Subscript a b pos) env)::starEach es env:=rfl
theorem jK {gs sc} :starEach (.ListComp a gs sc pos::es) env=(false,eval (.ListComp a gs sc pos) env)::starEach es env:=rfl
theorem jD7 {x1} :starEach (.Tuple xs x1 pos::es) env=(false,eval (.Tuple xs x1 pos) env)::starEach es env:=rfl
theorem jR {c k} :starEach (.Constant c k pos::es) env=(false,eval (.Constant c k pos) env)::starEach es env:=rfl
theorem j4 {x:Str} :starEach (.Name x pos::es) env=(false,eval (.Name x pos) env)::starEach es env:=rfl
end
section
variable {X:Cx}
def CDivL (i j:Int):Prop:=0<j/\j<2 ^ 64
theorem jJ8:OpR X (binaryOp .FloorDiv) (rI CDivL fun i j=> .int (i / j)):=opI fun i j _ _ _ _ _ hc q=>by
 have h1:(0:Int)<j:=hc.1
 have h2:j<2 ^ 64:=hc.2
 refine floordiv_int (by omega) (by rw[gH i (by omega)]; exact q) (.inl (PyProof.noPylong_of_log2 ?_))
 have h3:j.natAbs<2 ^ 64:=by omega
 have h4:j.natAbs≠0:=by omega
 have:=(Nat.log2_lt h4).mpr h3
 omega
theorem jC3:yE X (.builtin "isinstance") (fun xs H Q=>∃ x T t b,xs=[x, .ty T]/\TyOf X.K H x t/\kitOne X.K t (.type T)=some b/\Q (.bl b) H):=by
 intro pins s σ H xs us Q I r h
 obtain⟨x,T,t,b,rfl,ty,e,q⟩:=h
 obtain⟨u,v,rfl,ru,rv⟩:=r.two
 cases rv
 exact jN2 I ru ty e fun tk=>⟨.bl b,H,I.tok tk,rfl,q⟩
def jR3:V->List V->Hp->VK->Prop:=fun x vs H Q=>∃ l xs i y,x= .ref l/\vs=[.int i,y]/\H l=some (.lst xs)/\0<=i/\i<=xs.length/\xs.length<sizeLine/\Q .non (upd H l (.lst (xs.take i.toNat++y::xs.drop i.toNat)))
theorem Vals.put {y:V}{v:Value}(r:RelV y v){xs:List V}{us:List Value}(h:Vals xs us)(k:Nat):Vals (xs.take k++y::xs.drop k) (us.take k++v::us.drop k):=(h.take k).append (.cons r (h.drop k))
theorem jMC:MtM X "list.insert" jR3:=by
 intro pins s σ H x vs v us Q I rx rv h
 obtain⟨l,xs,i,y,rfl,rfl,hH,h0,h1,hz,q⟩:=h
 cases rx
 obtain⟨a,b,rfl,ra,rb⟩:=rv.two
 obtain⟨t,rfl⟩:=ra
 obtain⟨z,its,n,r,hl,e⟩:=I.lstM hH
 have line:=jGU
 have hf:Builtin.List.listFitsIndex i=true:=fitsIndex_both (by omega) (by omega)
 refine gK F.slot_list_insert ⟨_,e,rfl⟩ F.entry_list_insert (F.args_list_insert_3 _ _ _) (AutoSeq1.list_insert_list_int_val_1 l its.toArray n i t b (by simp [hf]) (by rw[ag]; omega)) ⟨e,?_⟩
 refine⟨.non,_,I.lset (its':=its.take i.toNat++b::its.drop i.toNat) hH e ?_ (Vals.put rb r i.toNat) ?_,rfl,q⟩
 ·have hk:(if i<0 then (i+(its.toArray.size:Int)).toNat else min i.toNat its.toArray.size)=i.toNat:=by
   rw[am (by omega),ag]
   omega
  show (its.toArray.extract 0 (if i<0 then (i+(its.toArray.size:Int)).toNat else min i.toNat its.toArray.size)).push b++its.toArray.extract (if i<0 then (i+(its.toArray.size:Int)).toNat else min i.toNat its.toArray.size)=_
  rw[hk]
  apply Array.ext'
  simp [dL,bE]
 ·rw[aB,aR,bA,gf]
  omega
def rEqE (K:W.Frag):R2:=fun x y H Q=>∃ p q xs,x= .ref p/\y= .ref q/\SqT K H p xs/\SqT K H q []/\Q (.bl (decide (xs=[]))) H
theorem jU3 (hu:X.A.units<cLine):OpR X (compareOp .Eq) (rEqE X.K):=by
 intro pins s σ H x y v u Q I rx ry h
 obtain⟨p,q,xs,rfl,rfl,hp,hq,k⟩:=h
 cases rx
 cases ry
 obtain⟨its,r,t1,_⟩:=I.tuple hp
 obtain⟨its2,r2,t2,_⟩:=I.tuple hq
 have e2:its2=[]:=r2.zero
 subst e2
 refine SeqAt.eq_tupleAt (e:=fun _=>true) (show s.heap.IsTuple p its.toArray from t1) (show s.heap.IsTuple q ([]:List Value).toArray from t2) hu (fun j h1 h2=>absurd h2 (by simp)) ⟨.bl _,H,I,rfl,?_⟩
 have hl:=r.length
 have e:((List.range (min its.toArray.size ([]:List Value).toArray.size)).all (fun _=>true)&&its.toArray.size==([]:List Value).toArray.size)=decide (xs=[]):=by
  cases xs with
  | nil=>
   have:its=[]:=by simpa using hl.symm
   subst this
   rfl
  | cons a b=>
   have:its.length≠0:=by rw[<- hl]; simp
   simp [this]
 rw[e]
 exact k
theorem jEH (hc:X.calm=true):yE X (.builtin "all") (fun xs H Q=>∃ (p:Addr) (bs:List Bool),xs=[.ref p]/\SqL X.K H p (bs.map V.bl)/\Q (.bl (bs.all id)) H):=by
 intro pins s σ H xs us Q I r h
 obtain⟨p,bs,rfl,hq,q⟩:=h
 obtain⟨u,rfl,rx⟩:=r.one
 cases rx
 obtain⟨its,r',pl,hz⟩:=I.list hq
 have hlen:=r'.length
 rw[ae] at hlen
 refine call_all_walk (cP pl.isList ?_)
 have hne:p≠s.heap.objs.size:=by
  obtain⟨o,ho,_⟩:=pl.isList
  exact aS (aA ho)
 refine⟨s.heap.objs.size,_,_,_,_,_,fun i=>bs.getD i true,rfl,gM (by simpa using I.ok.hd hc) _ p hne its.toArray,⟨⟨_,ax _ rfl,rfl,rfl⟩,pl.isList.push _⟩,fun i v z Q' E' hP hQ'=>?_,fun h' tk hk=>?_⟩
 ·have hi:its[i]?=some v:=by simpa using hP
  have hb:i<bs.length:=by
   rw[hlen]
   exact(ai.mp hi).1
  obtain⟨u,hu,ru⟩:=r'.get (i:=i) (x:= .bl (bs[i])) (by simp [hb])
  rw[hi] at hu
  cases hu
  cases ru
  have e:bs.getD i true=bs[i]:=by simp [List.getD,hb]
  have hQ2:Q' (bs.getD i true) z:=hQ'
  rw[e] at hQ2
  exact ah hQ2
 ·have e:(List.range its.toArray.size).all (fun i=>bs.getD i true)=bs.all id:=by
   rw[ag,<- hlen]
   rw[bS,bC,bC]
   constructor
   ·intro a b hb
    obtain⟨i,hi,rfl⟩:=d0 hb
    have:=a i (bM.mpr hi)
    simpa [List.getD,hi] using this
   ·intro a i hi
    have hi:=bM.mp hi
    have:=a bs[i] (cz hi)
    simpa [List.getD,hi] using this
  rw[e]
  exact⟨.bl _,H,I.kept (t':=tk) fun b o e=>hk b o (by
   intro z
   have z:b=s.heap.objs.size:=by simpa using z
   exact absurd (aA e) (by rw[z]; exact cO _)) (af _ e),rfl,q⟩
def jEA (n:Nat):List V:=(List.range n).map fun (i:Nat)=>V.int (i:Int)
theorem jJZ {n:Nat}{acc:Array Value}(h:ItemsOf (fun i v=>∃ t,v=Value.int (0+(i:Int)*1) t) acc n):Vals (jEA n) acc.toList:=by
 have key:∀ (l:List Value) (k:Nat),(∀ j v,l[j]?=some v->∃ t,v=Value.int ((k+j:Nat):Int) t)->Vals ((List.range' k l.length).map fun (i:Nat)=>V.int (i:Int)) l:=by
  intro l
  induction l with
  | nil=>intro k _; exact .nil
  | cons v l ih=>
   intro k hk
   rw[aR,List.range'_succ,bu]
   refine .cons ?_ (ih (k+1) fun j u hj=>?_)
   ·obtain⟨t,e⟩:=hk 0 v rfl
    exact⟨t,by simpa using e⟩
   ·obtain⟨t,e⟩:=hk (j+1) u (by simpa using hj)
    exact⟨t,by rw[e]; congr 1; omega⟩
 have:=key acc.toList 0 fun j v hj=>by
  obtain⟨t,e⟩:=h.2 j v (by simpa using hj)
  exact⟨t,by rw[e]; congr 1; omega⟩
 rw[aM,h.1] at this
 unfold jEA
 rw[List.range_eq_range']
 exact this
theorem jIK:yE X (.type "range") (fun xs H Q=>∃ j:Int,xs=[.int j]/\∀ p,H p=none->Q (.ref p) (upd H p (.rng 0 j))):=by
 intro pins s σ H xs us Q I r h
 obtain⟨j,rfl,q⟩:=h
 obtain⟨u,rfl,t,rfl⟩:=r.one
 refine call_range_1 ⟨.ref s.heap.objs.size,_,I.laid (o:= .rng 0 j) (fun b o e=>af _ e) (ao _) ?_,rfl,q _ I.fresh⟩
 exact⟨_,_,_,ax _ rfl⟩
theorem jH9 (hc:X.calm=true):yE X (.type "list") (fun xs H Q=>∃ p j,xs=[.ref p]/\H p=some (.rng 0 j)/\0<=j/\j<=1000/\∀ l,H l=none->Q (.ref l) (upd H l (.lst (jEA j.toNat)))):=by
 intro pins s σ H xs us Q I r h
 obtain⟨p,j,rfl,hp,h0,h1,q⟩:=h
 obtain⟨u,rfl,rx⟩:=r.one
 cases rx
 obtain⟨t,u,v,e⟩:=I.hok p _ hp
 have en:Builtin.Range.rangeSize 0 j 1=(j.toNat:Int):=by
  rw[rangeSize_one]
  split <;> omega
 refine call_list_range (I.ok.hd hc) (show IsRange s.heap p 0 j 1 t u v from e) (small_one (by omega) (by omega) (by omega) (by omega)) en (by omega) fun h' tk acc' c' kp hS hacc=>?_
 refine⟨.ref s.heap.objs.size,_,I.laid (t':=tk) (o:= .lst (jEA j.toNat)) kp (ao _) ?_,rfl,q _ I.fresh⟩
 refine⟨?_,acc'.toList,c',jJZ hacc,by rw[dk]; exact hS⟩
 unfold jEA
 rw[ae,cU,eB]
 omega
def SetO (w:World)(a:Addr)(ks:List Int):HO:= .ext fun h=>SS.SetG w h a ks
theorem jAI {ns:List Int} :∀ {us:List Value},Vals (ns.map V.int) us->IntsAre us ns:=by
 induction ns with
 | nil=>intro us h; cases h; exact .nil
 | cons n ns ih=>
  intro us h
  cases h with
  | cons r t=>
   obtain⟨k,rfl⟩:=r
   exact .cons n k (ih t)
theorem jA8:∀ {us:List Value}{ns:List Int},IntsAre us ns->Vals (ns.map V.int) us
 | _,_, .nil=> .nil
 | _,_, .cons n t r=> .cons ⟨t,rfl⟩ (jA8 r)
theorem jNP (hc:X.calm=true):yE X (.type "set") (fun xs H Q=>∃ (p:Addr) (ns:List Int),xs=[.ref p]/\SqL X.K H p (ns.map V.int)/\ns.length<=4/\(∀ z∈ns,0<=z/\z<32)/\
  ∀ (l:Addr) (ks:List Int),H l=none->(∀ z,z∈ks↔z∈ns)->Q (.ref l) (upd H l (SetO X.w l ks))):=by
 intro pins s σ H xs us Q I r h
 obtain⟨p,ns,rfl,hq,hl,hv,q⟩:=h
 obtain⟨u,rfl,rx⟩:=r.one
 cases rx
 obtain⟨its,r',pl,hz⟩:=I.list hq
 have hlen:=r'.length
 rw[ae] at hlen
 refine SS.set_of_list (I.ok.hd hc) pl.isList (jAI r') (by rw[ag]; omega) hv fun h' tk ks S hm kp=>?_
 have hg:∃ o,h'.get? s.heap.objs.size=some o:=let ⟨o,_,_,_,e,_⟩:=S.ex; ⟨o,e⟩
 exact⟨.ref s.heap.objs.size,_,I.laid (t':=tk) (o:=SetO X.w s.heap.objs.size ks) kp (ao _) ⟨S,hg,fun h1 h2 a b=>a.at b⟩,rfl,q _ ks I.fresh hm⟩
theorem jEM (hc:X.calm=true):yE X (.builtin "sorted") (fun xs H Q=>∃ (p:Addr) (ks:List Int),xs=[.ref p]/\H p=some (SetO X.w p ks)/\
  ∀ (l:Addr) (ns:List Int),H l=none->ns.Pairwise (· < ·)->(∀ z,z∈ns↔z∈ks)->Q (.ref l) (upd H l (.lst (ns.map V.int)))):=by
 intro pins s σ H xs us Q I r h
 obtain⟨p,ks,rfl,hp,q⟩:=h
 obtain⟨u,rfl,rx⟩:=r.one
 cases rx
 obtain⟨S,_,_⟩:=I.hok p _ hp
 refine SS.sorted_set (I.ok.hd hc) S fun s' l vs ns e hl kp g d o he hi pm srt=>?_
 obtain⟨h',g',d',t',o'⟩:=s'
 have g:g'=s.gens:=g
 have o:o'=s.os:=o
 have d:d'=s.drawn:=d
 subst g; subst o; subst d
 have nd:ns.Nodup:=pm.nodup_iff.mpr S.nd
 have lt:ns.Pairwise (· < ·):=by
  have:=gZ srt nd
  exact this.imp fun {a b} ⟨x,y⟩=>by omega
 have hz:(ns.map V.int).length<=sizeLine:=by
  rw[ae,pm.length_eq,eB]
  have:=S.len
  omega
 have I2:Inv X pins σ (upd H l (.lst (ns.map V.int))) { s with heap:=h',toks:=t'} :=I.laid (t':=t') kp hl ⟨hz,vs,e,jA8 hi,he⟩
 exact⟨.ref l,_,I2,rfl,q l ns (I.hok.fresh hl) lt fun z=>pm.mem_iff⟩
end
section
variable {X:Cx}{p1 p2 p3 p4 p5 p6 p7:Pos}{k1 k2 k3 k4:Nat}
theorem jRM {i j r:Int}(hj:0<=j)(hj2:j<=1000000)(hi:i.natAbs<2 ^ 64)(e:i ^ j.toNat=r):PE X (.BinOp (.Constant (.int i) k2 p2) .Pow (.Constant (.int j) k3 p3) p4) (tC (.int r)):=fun pins s σ H Q I h=>
 (kN (X:=X) jLU jP jP) pins s σ H Q I ⟨_,_,rfl,rfl,⟨hj,hj2,hi⟩,by subst e; exact h⟩
theorem jRN {a b:Expr}{i j r:Int}(ha:PE X a (tC (.int i)))(hb:PE X b (tC (.int j)))(hc:CMul i j)(e:i*j=r):PE X (.BinOp a .Mult b p1) (tC (.int r)):=fun pins s σ H Q I h=>
 (kN (X:=X) jDA ha hb) pins s σ H Q I ⟨_,_,rfl,rfl,hc,by subst e; exact h⟩
theorem jRQ {a b:Expr}{i j r:Int}(ha:PE X a (tC (.int i)))(hb:PE X b (tC (.int j)))(e:i+j=r):PE X (.BinOp a .Add b p1) (tC (.int r)):=fun pins s σ H Q I h=>
 (kN (X:=X) y0 ha hb) pins s σ H Q I ⟨_,_,rfl,rfl,by subst e; exact h⟩
theorem jTY:PE X (.BinOp (.BinOp (.Constant (.int 2) k1 p1) .Mult (.BinOp (.Constant (.int 10) k2 p2) .Pow (.Constant (.int 12) k3 p3) p4) p5) .Add (.Constant (.int 1) k4 p6) p7) (tC (.int 2000000000001)):=
 jRQ (i:=2000000000000) (jRN (j:=1000000000000) jP (jRM (by decide) (by decide) (by decide) (by decide)) (.inl ⟨by decide,by decide⟩) (by decide)) jP (by decide)
end
def ItAt (tp:Bool)(h:Heap)(it a:Addr)(i:Nat):Prop:=match tp with
 | false=>h.IsListIter it a i
 | true=>h.IsTupleIter it a i
def ObAt (tp:Bool)(h:Heap)(a:Addr)(xs:Array Value):Prop:=match tp with
 | false=>h.IsList a xs
 | true=>h.IsTuple a xs
theorem ItAt.but {tp:Bool}{h h':Heap}{it a b:Addr}{i:Nat}(x:ItAt tp h it a i)(e:Heap.ExtBut b h h')(n:it≠b):ItAt tp h' it a i:=by
 cases tp with
 | false=>exact Heap.IsListIter.extBut x e n
 | true=>exact Heap.IsTupleIter.extBut x e n
theorem ItAt.at {tp:Bool}{h h':Heap}{it a:Addr}{i:Nat}(x:ItAt tp h it a i)(e:∀ o,h.get? it=some o->h'.get? it=some o):ItAt tp h' it a i:=by
 cases tp with
 | false=>exact Heap.IsListIter.at x e
 | true=>exact Heap.IsTupleIter.at x e
theorem ItAt.obj {tp:Bool}{h:Heap}{it a:Addr}{i:Nat}(x:ItAt tp h it a i):∃ o,h.get? it=some o/\∀ v,o.data≠ .cell v:=by
 cases tp with
 | false=>obtain⟨o,e,_,d⟩:=x; exact⟨o,e,fun v q=>by rw[d] at q; cases q⟩
 | true=>obtain⟨o,e,_,d⟩:=x; exact⟨o,e,fun v q=>by rw[d] at q; cases q⟩
section
variable {prog:Program}{w:World}{A:Around}{E:Value->Shared->Prop}{s:Shared}
theorem next1 {tp:Bool}{it a:Addr}{i:Nat}{xs:Array Value}{x:Value}{Q:Value->Shared->Prop}(hi:ItAt tp s.heap it a i)(ha:ObAt tp s.heap a xs)(hx:xs[i]?=some x)
  (k:∀ h',ItAt tp h' it a (i+1)->Heap.SameBut it s.heap h'->Q x { s with heap:=h'}):wpAny (model prog w) A (Builtin.SmallTypes.nextOf (.ref it)) Q E s:=by
 cases tp with
 | false=>exact wpAny_nextOf_list_item hi ha hx k
 | true=>
  obtain⟨o,e,c,d⟩:=id (show s.heap.IsTupleIter it a i from hi)
  obtain⟨u,eu,_,n,du⟩:=(show s.heap.IsTuple a xs from ha)
  have ty:=Heap.IsTupleIter.typeIs (show s.heap.IsTupleIter it a i from hi)
  unfold Builtin.SmallTypes.nextOf
  refine ab (cH (name:=Str.ofString "__next__") ty F.slot_tuple_iterator_next (cj F.slot_tuple_iterator_next ty F.entry_tuple_iterator_next (?_:wpAny (model prog w) _ (field (.ref it) 0 >>= _) _ _ s) (F.args_tuple_iterator_next_1 _)))
  refine ab (dS e d (x:= .ref a) rfl (?_:wpAny (model prog w) _ (if (Value.ref a==Value.none)=true then _ else _) _ _ s))
  rw[am (by exact aj)]
  show wpAny (model prog w) _ (field (.ref it) 1 >>= _) _ _ s
  refine ab (dS e d (x:= .int i 0) rfl ?_)
  show wpAny (model prog w) _ (seqItems? (.ref a) >>= _) _ _ s
  refine ab (wpAny_seqItems eu du ?_)
  simp only [bq,hx]
  refine ab (wpAny_setField e d (by simp) (ah ⟨x,rfl,ah (k _ ⟨_,dH _ e (Obj.isFreed_of_fields (Obj.data_mapFields d _)),(Obj.cls_mapFields ..).trans c,?_⟩ (gA ..))⟩))
  rw[Obj.data_mapFields d]
  simp [rawInt]
theorem next0 {tp:Bool}{it a:Addr}{i:Nat}{xs:Array Value}{Q:Value->Shared->Prop}(hh:A.handled=none)(hi:ItAt tp s.heap it a i)(ha:ObAt tp s.heap a xs)(hx:xs[i]?=none)
  (k:∀ h' e,Heap.ExtBut it s.heap h'->(∃ o,h'.get? e=some o/\o.cls= .type "StopIteration")->E (.ref e) { s with heap:=h'}):wpAny (model prog w) A (Builtin.SmallTypes.nextOf (.ref it)) Q E s:=by
 cases tp with
 | false=>exact wpAny_nextOf_list_end hh hi ha hx k
 | true=>
  obtain⟨o,e,c,d⟩:=id (show s.heap.IsTupleIter it a i from hi)
  obtain⟨u,eu,_,n,du⟩:=(show s.heap.IsTuple a xs from ha)
  have ty:=Heap.IsTupleIter.typeIs (show s.heap.IsTupleIter it a i from hi)
  unfold Builtin.SmallTypes.nextOf
  refine ab (cH (name:=Str.ofString "__next__") ty F.slot_tuple_iterator_next (cj F.slot_tuple_iterator_next ty F.entry_tuple_iterator_next (?_:wpAny (model prog w) _ (field (.ref it) 0 >>= _) _ _ s) (F.args_tuple_iterator_next_1 _)))
  refine ab (dS e d (x:= .ref a) rfl (?_:wpAny (model prog w) _ (if (Value.ref a==Value.none)=true then _ else _) _ _ s))
  rw[am (by exact aj)]
  show wpAny (model prog w) _ (field (.ref it) 1 >>= _) _ _ s
  refine ab (dS e d (x:= .int i 0) rfl ?_)
  show wpAny (model prog w) _ (seqItems? (.ref a) >>= _) _ _ s
  refine ab (wpAny_seqItems eu du ?_)
  simp only [bq,hx]
  refine ab (de (ab (wpAny_setField e d (by simp) (?_:wpAny (model prog w) _ (newExc (.type "StopIteration") [] >>= _) _ _ _))))
  refine ab (by
   simp only [newExc,newTuple]
   refine ab (cR (ab (m:=firstArgMember _ _) (wpAny_of_eq (a:=Value.none) (by first | rfl | (simp only [firstArgMember]; rfl)) (cR ?_ (by size_fits)))) (by size_fits))
   simp only [raiseNew]
   refine ab (wpAny_handled ?_)
   first | rw[show A.in1.handled=none from hh] | rw[hh]
   exact ab (ah (wpAny_throw (k _ _ (((gA ..).extBut.push _).push _) ⟨_,ax _ rfl,rfl⟩))))
end
def iterO (tp:Bool)(a:Addr):Obj:=match tp with
 | false=> { cls:= .type "list_iterator",data:= .fields #[.ref a, .int 0 0]}
 | true=> { cls:= .type "tuple_iterator",data:= .fields #[.ref a, .int 0 0]}
theorem jKK (tp:Bool)(a:Addr):(iterO tp a).isFreed=false:=by cases tp <;> rfl
theorem jFB {prog:Program}{w:World}{A:Around}{E:Value->Shared->Prop}{s:Shared}{tp:Bool}{a:Addr}{xs:Array Value}{Q:Value->Shared->Prop}(h:ObAt tp s.heap a xs)(q:Q (.ref s.heap.objs.size) { s with heap:=s.heap.push (iterO tp a)}):
  wpAny (model prog w) A (pyIter (.ref a)) Q E s:=by
 cases tp with
 | false=>exact cP h q
 | true=>exact wpAny_pyIter_tuple h q
theorem ItAt.new (tp:Bool){h:Heap}{it a:Addr}(e:h.get? it=some (iterO tp a)):ItAt tp h it a 0:=by
 cases tp with
 | false=>exact⟨_,e,rfl,rfl⟩
 | true=>exact⟨_,e,rfl,rfl⟩
section
variable {X:Cx}
def Sq (tp:Bool)(K:W.Frag)(H:Hp)(a:Addr)(xs:List V):Prop:=match tp with
 | false=>SqL K H a xs
 | true=>SqT K H a xs
theorem Inv.sq {X:Cx}{pins:List (Addr×Obj)}{σ:St}{H:Hp}{s:Shared}{tp:Bool}{a:Addr}{xs:List V}(I:Inv X pins σ H s)(h:Sq tp X.K H a xs):∃ its:List Value,Vals xs its/\ObAt tp s.heap a its.toArray/\xs.length<=sizeLine:=by
 cases tp with
 | false=>
  obtain⟨its,r,p,z⟩:=I.list h
  exact⟨its,r,p.isList,z⟩
 | true=>exact I.tuple h
theorem Inv.sq_inj {X:Cx}{pins:List (Addr×Obj)}{σ:St}{H:Hp}{s:Shared}{tp:Bool}{a:Addr}{xs ys:List V}(I:Inv X pins σ H s)(h:Sq tp X.K H a xs)(h':Sq tp X.K H a ys):xs=ys:=by
 cases tp with
 | false=>exact I.list_inj h h'
 | true=>exact I.tuple_inj h h'
end
structure JE (X:Cx)(e:Expr)(t:TE):Prop where
 h:PE X e t
structure JA (X:Cx)(es:List Expr)(t:TA):Prop where
 h:PA X es t
structure JT (X:Cx)(e:Expr)(t:TT):Prop where
 h:PT X e t
structure JTs (X:Cx)(e:List Expr)(t:TT):Prop where
 h:PTs X e t
structure JS (X:Cx)(e:Stmt)(t:TS):Prop where
 h:PS X e t
structure JSs (X:Cx)(e:List Stmt)(t:TS):Prop where
 h:PSs X e t
structure JG (X:Cx)(e:Expr)(t:TG):Prop where
 h:PG X e t
structure JGs (X:Cx)(e:List Expr)(t:TGs):Prop where
 h:PGs X e t
structure JI (X:Cx)(tg e:Expr)(t:TI):Prop where
 h:PI X tg e t
structure JO (X:Cx)(e:Option Expr)(t:TO):Prop where
 h:PO X e t
structure Loc1 (X:Cx)(x:Str):Prop where
 a:Loc X.env.scope x
 b:X.fn x=true\/X.env.scope.names.lookup x=some .local
structure Vis1 (X:Cx)(x:Str):Prop where
 a:Vis X.env.scope x
structure Gl1 (X:Cx)(x:Str):Prop where
 a:Gl X x
section
variable {a b:Expr}{pos:Pos}{xs:List Expr}{o:Option Expr}{l:Nat}{env:Env}
structure SwOk (e:Expr)(o:Option Expr):Prop where
 h:∀ l env,swapsWith e o l env=pure false
theorem jIU {op:Operator} :SwOk (.BinOp a op b pos) o:=⟨fun _ _=>rfl⟩
theorem jZ {kw:List Keyword} :SwOk (.Call a xs kw pos) o:=⟨fun _ _=>rfl⟩
theorem jIS:SwOk (.Subscript a b pos) o:=⟨fun _ _=>rfl⟩
theorem jPY {x1} :SwOk (.Tuple xs x1 pos) o:=⟨fun _ _=>rfl⟩
theorem jD5:SwOk (.List xs pos) o:=⟨fun _ _=>rfl⟩
theorem jIT {c k} :SwOk (.Constant c k pos) o:=⟨fun _ _=>rfl⟩
theorem jQ2 {op:Operator} :jB4 (.BinOp a op b pos):=fun _ _=>rfl
theorem jR5 {kw:List Keyword} :jB4 (.Call a xs kw pos):=fun _ _=>rfl
theorem jE {i:Int}{k} :jB4 (.Constant (.int i) k pos):=fun _ _=>rfl
theorem yQ {x:Str} :jB4 (.Name x pos):=fun _ _=>rfl
theorem jTJ:jB4 (.Subscript a b pos):=fun _ _=>rfl
structure FoOk (iter:Expr):Prop where
 h:∀ env x,foldedSetIterable iter env x=pure x
theorem kZ {kw:List Keyword} :FoOk (.Call a xs kw pos):=⟨fun _ _=>rfl⟩
theorem yI {x:Str} :FoOk (.Name x pos):=⟨fun _ _=>rfl⟩
theorem jNB:FoOk (.Subscript a b pos):=⟨fun _ _=>rfl⟩
structure TvOk (e:Expr):Prop where
 h:∀ env whole,isTrue e env whole=(do let v <- whole; standAt e.pos; holding [v] (truthy v))
theorem jB7 {kw:List Keyword} :TvOk (.Call a xs kw pos):=⟨fun _ _=>rfl⟩
end
section
variable {X:Cx}{a b e o:Expr}{ta tb te to:TE}{es:List Expr}{t:TA}{pos p p2 cpos apos:Pos}{x:Str}{T:String}{id:String}
theorem jv (i:Nat)(hN:X.N[i]?=some x)(hv:Vis1 X x)(hd:(x==("__debug__" :Str))=false:=by decide)(hcd:(x==("__classdict__" :Str))=false:=by decide):JE X (.Name x pos) (tVar i):=⟨jGK hN hv.a hd hcd⟩
theorem je_int {i j} :JE X (.Constant (.int i) j pos) (tC (.int i)):=⟨jP⟩
theorem je_bl {i j} :JE X (.Constant (.bool i) j pos) (tC (.bl i)):=⟨pe_bl⟩
theorem jEY {j} :JE X (.Constant .none j pos) (tC .non):=⟨jTW⟩
theorem jI5 {v:V}{u:Value}(hg:Gl1 X x)(hm:X.mg x=none)(hv:bootBuiltins x=some u)(r:RelV v u)(hn:x≠ "__name__" :=by decide)(hd:(x==("__debug__" :Str))=false:=by decide):JE X (.Name x pos) (tC v):=⟨jRR hg.a hm hv r hn hd⟩
theorem kU {op:Operator}{r:R2}(ho:OpR X (binaryOp op) r)(ha:JE X a ta)(hb:JE X b tb):JE X (.BinOp a op b pos) (tOp r ta tb):=⟨kN ho ha.h hb.h⟩
theorem je_un {op:UnaryOp}{r:V->Hp->VK->Prop}(ho:UnR X (unaryOp op) r)(ha:JE X a ta):JE X (.UnaryOp op a pos) (tUn r ta):=⟨pe_un ho ha.h⟩
theorem jMV (ha:JE X a ta):JE X (.UnaryOp .Not a pos) (tNotV ta):=⟨jTV ha.h⟩
theorem yX {op:CmpOp}{r:R2}(ho:OpR X (compareOp op) r)(ha:JE X a ta)(hb:JE X b tb)(hm:behindInMarks op b=false):JE X (.Compare a [op] [b] pos) (tOp r ta tb):=⟨jRO ho ha.h hb.h hm⟩
theorem jQI {rest:List Expr}(ha:JE X a ta)(hb:JE X (.BoolOp .And (b::rest) pos) tb):JE X (.BoolOp .And (a::b::rest) pos) (tAndV ta tb):=⟨jTZ ha.h hb.h⟩
theorem je_or {rest:List Expr}(ha:JE X a ta)(hb:JE X (.BoolOp .Or (b::rest) pos) tb):JE X (.BoolOp .Or (a::b::rest) pos) (tOrV ta tb):=⟨pe_or ha.h hb.h⟩
theorem jMU {op}(ha:JE X a ta):JE X (.BoolOp op [a] pos) ta:=⟨jTU ha.h⟩
theorem jMW (h:JA X es t):JE X (.List es pos) (tLst t):=⟨jJ6 h.h⟩
theorem jJN {x1}(h:JA X es t):JE X (.Tuple es x1 pos) (tTup t):=⟨jTT h.h⟩
theorem jJO {lo hi:Option Expr}{tl th:TO}{r:V->Option Int->Option Int->Hp->VK->Prop}(hr:SlR X r)(he:JE X e te)(hl:JO X lo tl)(hu:JO X hi th):JE X (.Subscript e (.Slice lo hi none p2) pos) (tSl r te tl th):=⟨jOI hr he.h hl.h hu.h⟩
theorem jL {r:R2}(hr:IxR X r)(ha:JE X a ta)(hb:JE X b tb)(hs:jB4 b):JE X (.Subscript a b pos) (tOp r ta tb):=⟨pe_ix hr ha.h hb.h hs⟩
theorem kE {T}{r:List V->Hp->VK->Prop}(hc:yE X (.type T) r)(hg:Gl1 X x)(hm:X.mg x=none)(hv:bootBuiltins x=some (.type T))(ha:JA X (e::es) t)(he:starEach (e::es) X.env=(false,eval e X.env)::starEach es X.env)(hn:x≠ "__name__" :=by decide)(hdb:(x==("__debug__" :Str))=false:=by decide)
  (hpl:(backTo pos (starEach es X.env)).any (·.1)=false:=by rfl):JE X (.Call (.Name x p) (e::es) [] pos) (tCB r t):=⟨jCA hc hg.a hm hv ha.h hn hdb he hpl⟩
theorem jH {id}{r:List V->Hp->VK->Prop}(hc:yE X (.builtin id) r)(hg:Gl1 X x)(hm:X.mg x=none)(hv:bootBuiltins x=some (.builtin id))(ha:JA X (e::es) t)(he:starEach (e::es) X.env=(false,eval e X.env)::starEach es X.env)(hn:x≠ "__name__" :=by decide)(hdb:(x==("__debug__" :Str))=false:=by decide)
  (hpl:(backTo pos (starEach es X.env)).any (·.1)=false:=by rfl):JE X (.Call (.Name x p) (e::es) [] pos) (tCB r t):=⟨jFF hc hg.a hm hv ha.h hn hdb he hpl⟩
theorem j8:JA X [] tNil:=⟨yH⟩
theorem j3 (ha:JE X e te)(hr:JA X es t)(hs:starEach (e::es) X.env=(false,eval e X.env)::starEach es X.env):JA X (e::es) (tCons te t):=⟨kG ha.h hr.h hs⟩
theorem jT {op:CmpOp}{r:R2}(ho:OpR X (compareOp op) r)(ha:JE X a ta)(hb:JE X b tb)(hm:behindInMarks op b=false):JT X (.Compare a [op] [b] pos) (tTest (tOp r ta tb)):=⟨jDS ho ha.h hb.h hm⟩
theorem jDB (h:JE X e te)(he:TvOk e):JT X e (tB te):=⟨jTM h.h (he.h _)⟩
theorem jGW {tA:TT}(ha:JT X a tA):JT X (.UnaryOp .Not a pos) (tNot tA):=⟨jTN ha.h⟩
theorem kY:JTs X [] yL:=⟨jLN⟩
theorem jD0 {t:TT}(h:JT X e t):JTs X [e] t:=⟨jLM h.h⟩
theorem jJ {i:Nat}(hN:X.N.Nodup)(hi:X.N[i]?=some x)(hx:Loc1 X x):JG X (.Name x pos) (kL i):=⟨jFE hN hi hx.a hx.b⟩
theorem jAU {tg:Expr}(hg:Gl1 X "range")(hm:X.mg "range" =none)(ha:JA X [a] t)(hs:starEach [a] X.env=(false,eval a X.env)::starEach [] X.env):JI X tg (.Call (.Name "range" p) [a] [] pos) (iRng1 t):=⟨jC9 hg.a hm ha.h hs⟩
theorem yS {tg:Expr}(hl:JE X a ta):JI X tg a (iList X.K ta):=⟨jRH hl.h⟩
theorem qF {tg:Expr}(hl:JE X a ta):JI X tg a (iTup X.K ta):=⟨jTQ hl.h⟩
theorem jMT:JO X none jL8:=⟨jRD⟩
theorem jMS (h:JE X e te):JO X (some e) (tPart te):=⟨jRC h.h⟩
theorem jQ {i:Nat}{pos':Pos}(hN:X.N.Nodup)(hi:X.N[i]?=some x)(hx:Loc1 X x)(he:JE X e te)(hs:SwOk e (some (.Name x pos'))):JS X (.Assign [.Name x pos'] e pos) (tAsg te (kL i)):=⟨qE hN hi hx.a he.h (hs.h _ _) hx.b⟩
theorem jW (he:JE X e te):JS X (.Return (some e) pos) (tRet te):=⟨jD8 he.h⟩
theorem jC0 (he:JE X e te)(hs:SwOk e none):JS X (.Expr e pos) (tDrop te):=⟨jR9 he.h (hs.h _ _)⟩
theorem kI:JSs X [] tNext:=⟨jFD⟩
theorem jD {st:Stmt}{t:TS}(h1:JS X st t):JSs X [st] t:=⟨jAZ h1.h⟩
theorem jC {st:Stmt}{rest:List Stmt}{t u:TS}(h1:JS X st t)(h2:JSs X rest u):JSs X (st::rest) (tSeq t u):=⟨kS h1.h h2.h⟩
theorem yC {c:Expr}{a b:List Stmt}{tc:TT}{t u:TS}(hc:JT X c tc)(ha:JSs X a t)(hb:JSs X b u):JS X (.If c a b pos) (tIfS tc t u):=⟨ps_if hc.h ha.h hb.h⟩
theorem jBU {tg iter:Expr}{body:List Stmt}{wi:TI}{g:TG}{tb:TS}(hp:PassesOwn (model X.prog X.w) X.A X.env X.xe)(hc:X.calm=true)(hi:JI X tg iter wi)(hg:JG X tg g)(hb:JSs X body tb)(hs:FoOk iter):JS X (.For tg iter body [] pos) (tFor wi g tb):=⟨jQ4 hp hc hi.h hg.h hb.h (hs.h _)⟩
theorem je_bm {T:String}{name:Str}{r}(pa:PlainAttrs T)(slot:Slot T name id)(hty:typeOf (.builtin id)=pure (.type "method_descriptor"))(hm:MtR X id r)(ho:JE X o to)(ha:JA X (e::es) t)
  (hs:starEach (e::es) X.env=(false,eval e X.env)::starEach es X.env)
  (hbase:attributeBase o name X.env (eval o X.env)=eval o X.env:=by rfl)
  (hfew:((backTo cpos (starEach (e::es) X.env)).all (fun x=>!x.1)&&(backToKw cpos (keywordEach [] X.env)).all (fun x=>x.1.isSome)
   &&decide ((e::es).length+([]:List Keyword).length+(if ([]:List Keyword).isEmpty then 0 else 1)<30))=true:=by rfl)
  (hline:(apos.endLine==cpos.line)=true:=by rfl) (hplain:(backTo cpos (starEach es X.env)).any (·.1)=false:=by rfl):
  JE X (.Call (.Attribute o name apos) (e::es) [] cpos) (tBM X.K T r to t):=⟨pe_bm pa slot hty hm ho.h ha.h hbase hfew hline hs hplain⟩
theorem kR {tg iter elt:Expr}{ifs:List Expr}{sc:Scope}{wi:TI}{g:TG}{tt:TT}{m:List (Option Nat)}{Nc:List Str}(hc:X.calm=true)(hi:JI X tg iter wi)(hkind:sc.kind= .function)(hcell:∀ y∈sc.names,y.2≠ .cell)(hnames:∀ y∈sc.names,y.2= .local->sc.names.lookup y.1=some .local)
  (hfree:∀ y∈sc.names,y.2= .free->X.env.scope.names.lookup y.1=some .cell\/X.env.scope.names.lookup y.1=some .free) (hm:jBW X sc Nc m)
  (hg:∀ cl C fp s H,JG (blk X sc cl C Nc fp s H) tg g) (ht:∀ cl C fp s H,JTs (blk X sc cl C Nc fp s H) ifs tt) (he:∀ cl C fp s H,JE (blk X sc cl C Nc fp s H) elt te)
  (hs:FoOk iter):JE X (.ListComp elt [⟨tg,iter,ifs,0⟩] sc pos) (tComp m wi g tt te):=⟨jHT hc hi.h hkind hcell hnames hfree hm (fun cl C fp s H=>(hg cl C fp s H).h) (fun cl C fp s H=>(ht cl C fp s H).h) (fun cl C fp s H=>(he cl C fp s H).h) (hs.h _)⟩
theorem jUS {p1 p2 p3 p4 p5 p6 p7:Pos}{k1 k2 k3 k4:Nat} :JE X (.BinOp (.BinOp (.Constant (.int 2) k1 p1) .Mult (.BinOp (.Constant (.int 10) k2 p2) .Pow (.Constant (.int 12) k3 p3) p4) p5) .Add (.Constant (.int 1) k4 p6) p7) (tC (.int 2000000000001)):=⟨jTY⟩
end
section
variable {P:Program}{w:World}{K:W.Frag}{mg:Str->Option Value}{base:Heap}{N:List Str}{qual:Str}{sc:Scope}{f:Addr}{cdv:Value}{A:Around}{outer:List Env}{s:Shared}{H:Hp}{E:XK}{x:Str}
theorem gl_d (h:sc.names.lookup x=some .globalImplicit):Gl1 (cxOf CX0 P w K mg base N qual sc f cdv A outer s H E).nox x:=⟨h⟩
theorem gD (h:sc.names.lookup x=some .globalImplicit:=by decide+kernel):Gl1 (cxOf CX0 P w K mg base N qual sc f cdv A outer s H E).nox x:=gl_d h
theorem vis_l (h:sc.names.lookup x=some .local):Vis1 (cxOf CX0 P w K mg base N qual sc f cdv A outer s H E).nox x:=⟨.inl h⟩
theorem vL (h:sc.names.lookup x=some .local:=by decide+kernel):Vis1 (cxOf CX0 P w K mg base N qual sc f cdv A outer s H E).nox x:=vis_l h
theorem vis_c (h:sc.names.lookup x=some .cell):Vis1 (cxOf CX0 P w K mg base N qual sc f cdv A outer s H E).nox x:=⟨.inr (.inl h)⟩
theorem vC (h:sc.names.lookup x=some .cell:=by decide+kernel):Vis1 (cxOf CX0 P w K mg base N qual sc f cdv A outer s H E).nox x:=vis_c h
end
theorem jAF {env:Env}{x:Str}{k:NameKind}(hk:k≠ .free):∀ {l:List (Str×NameKind)},l.lookup x=some k->
  (l.map fun (n,k)=>if (k==NameKind.free&&env.scope.kind== .function&&env.kindOf n==some .cell) then (n,NameKind.cell) else (n,k)).lookup x=some k
 | [],h=>by cases h
 | (n,k')::r,h=>by
  have ih:= @jAF env x k hk r
  rw[bB] at h
  rw[bu]
  dsimp only
  by_cases hb:(k'==NameKind.free&&env.scope.kind== .function&&env.kindOf n==some .cell)=true
  ·rw[aq hb,bB]
   cases hx:x==n with
   | true=>
    rw[hx] at h
    have e:k'=k:=bg h
    simp only [ci] at hb
    exact absurd (e.symm.trans (eq_of_beq hb.1.1)) hk
   | false=>rw[hx] at h; exact ih h
  ·rw[am hb,bB]
   cases hx:x==n with
   | true=>rw[hx] at h; exact h
   | false=>rw[hx] at h; exact ih h
section
variable {X:Cx}{sc:Scope}{cl:List (Str×Addr)}{C:Addr}{Nc:List Str}{fp:List Addr}{s:Shared}{H:Hp}{x:Str}
theorem gl_b (h:sc.names.lookup x=some .globalImplicit):Gl1 (blk X sc cl C Nc fp s H) x:=⟨jAF (by decide) h⟩
theorem jX (h:sc.names.lookup x=some .local):Vis1 (blk X sc cl C Nc fp s H) x:=⟨.inl (jAF (by decide) h)⟩
theorem kW (h:sc.names.lookup x=some .free):Vis1 (blk X sc cl C Nc fp s H) x:=⟨.inr (jBJ h)⟩
theorem yM (h:sc.names.lookup x=some .local):Loc1 (blk X sc cl C Nc fp s H) x:=⟨.inl (jAF (by decide) h), .inr (jAF (by decide) h)⟩
end
section
variable {P:Program}{w:World}{K:W.Frag}{mg:Str->Option Value}{base:Heap}{N:List Str}{qual:Str}{sc:Scope}{f:Addr}{cdv:Value}{A:Around}{outer:List Env}{s:Shared}{H:Hp}{E:XK}{x:Str}
theorem loc_l (h:sc.names.lookup x=some .local):Loc1 (cxOf CX0 P w K mg base N qual sc f cdv A outer s H E).nox x:=⟨.inl h, .inl rfl⟩
theorem lL (h:sc.names.lookup x=some .local:=by decide+kernel):Loc1 (cxOf CX0 P w K mg base N qual sc f cdv A outer s H E).nox x:=loc_l h
theorem loc_c (h:sc.names.lookup x=some .cell):Loc1 (cxOf CX0 P w K mg base N qual sc f cdv A outer s H E).nox x:=⟨.inr h, .inl rfl⟩
end
structure JW (X:Cx)(e:Expr)(t:TT):Prop where
 h:PW X e t
section
variable {X:Cx}{a b:Expr}{rest:List Expr}{pos:Pos}{tA tB':TT}
theorem jMR (ha:JT X a tA):JW X (.BoolOp .And [a] pos) tA:=⟨jR6 ha.h⟩
theorem jQD (ha:JT X a tA):JW X (.BoolOp .Or [a] pos) tA:=⟨jTK ha.h⟩
theorem jQE (ha:JT X a tA)(hb:JW X (.BoolOp .And (b::rest) pos) tB'):JW X (.BoolOp .And (a::b::rest) pos) (tAnd tA tB'):=⟨jTL ha.h hb.h⟩
theorem jw_or (ha:JT X a tA)(hb:JW X (.BoolOp .Or (b::rest) pos) tB'):JW X (.BoolOp .Or (a::b::rest) pos) (tOr tA tB'):=⟨pw_or ha.h hb.h⟩
theorem jt_w (h:JW X a tA):JT X a tA:=⟨h.h.pt⟩
theorem jFR:JGs X [] gNil:=⟨jRJ⟩
structure AsOk (e:Expr):Prop where
 h:∀ es env,assignEach (e::es) env=(false,assign e env)::assignEach es env
theorem jB3 {x:Str} :AsOk (.Name x pos):=⟨fun _ _=>rfl⟩
theorem jAC {e:Expr}{es:List Expr}{t:TG}{u:TGs}(h1:JG X e t)(h2:JGs X es u)(hs:AsOk e):JGs X (e::es) (gCons t u):=⟨jOG h1.h h2.h (by rw[hs.h]; rfl)⟩
theorem jJM {es:List Expr}{k:Nat}{t:TGs}{n:Nat}(hc:X.calm=true)(h:JGs X es t)(hn:(assignEach es X.env).length=n:=by rfl)(hst:(assignEach es X.env).findIdx? (·.1)=none:=by rfl):JG X (.Tuple es k pos) (gTup X.K n t):=⟨jTR hc h.h hn hst⟩
theorem jCW {op:CmpOp}{x:Str} :behindInMarks op (.Name x pos)=false:=by cases op <;> rfl
end
theorem jCJ {X:Cx}{sc:Scope}{cl:List (Str×Addr)}{C:Addr}{Nc:List Str}{fp:List Addr}{s:Shared}{H:Hp}{x y:Str}{p1 p2 pos:Pos}{k:Nat}{i j:Nat}(hc:X.calm=true)(hN:Nc.Nodup)(hi:Nc[i]?=some x)(hj:Nc[j]?=some y)(hx:sc.names.lookup x=some .local)(hy:sc.names.lookup y=some .local):
  JG (blk X sc cl C Nc fp s H) (.Tuple [.Name x p1, .Name y p2] k pos) (gTup X.K 2 (gCons (kL i) (gCons (kL j) gNil))):=
 jJM (X:=blk X sc cl C Nc fp s H) hc (jAC (jJ hN hi (yM hx)) (jAC (jJ hN hj (yM hy)) jFR jB3) jB3)
section
variable {K:W.Frag}{m:List (Option Nat)}{g:TG}{tt:TT}{te:TE}{σ:St}{H1:Hp}{Q:VK}
end
section
variable {X:Cx}{sc:Scope}{cl:List (Str×Addr)}{C:Addr}{Nc:List Str}{fp:List Addr}{s:Shared}{H:Hp}
theorem jHV:OpR (blk X sc cl C Nc fp s H) (compareOp .In) (rIn X.K false):=jCB
theorem jEW:OpR (blk X sc cl C Nc fp s H) (compareOp .NotIn) (rIn X.K true):=jGM
theorem kT:IxR (blk X sc cl C Nc fp s H) (rIxT X.K):=jO
end
def Ext (H H':Hp):Prop:=∀ b o,H b=some o->H' b=some o
theorem Ext.refl (H:Hp):Ext H H:=fun _ _ h=>h
theorem Ext.trans {H H1 H2:Hp}(a:Ext H H1)(b:Ext H1 H2):Ext H H2:=fun c o h=>b c o (a c o h)
theorem Ext.new {H H1:Hp}{l:Addr}(a:Ext H H1)(hl:H1 l=none)(o:HO):Ext H (upd H1 l o):=fun c u h=>by
 have:=a c u h
 rw[j9 (jA this hl)]
 exact this
theorem Ext.updNew {H H1:Hp}{l:Addr}(a:Ext H H1)(hl:H l=none)(o:HO):Ext H (upd H1 l o):=fun c u h=>by
 rw[j9 (jA h hl)]
 exact a c u h
def TupR (H:Hp)(xs:List V)(Q:VK):Prop:=∀ r H',H' r=some (.tup xs)->Ext H H'->Q (.ref r) H'
theorem TupR.new {H:Hp}{xs:List V}{Q:VK}(q:TupR H xs Q){p:Addr}(hp:H p=none):Q (.ref p) (upd H p (.tup xs)):=q p _ j5 ((Ext.refl H).new hp _)
theorem TupR.old {H:Hp}{xs:List V}{Q:VK}(q:TupR H xs Q){p:Addr}(hp:H p=some (.tup xs)):Q (.ref p) H:=q p H hp (Ext.refl H)
section
variable {X:Cx}
def rCatU:R2:=fun x y H Q=>∃ a b xs ys,x= .ref a/\y= .ref b/\H a=some (.tup xs)/\H b=some (.tup ys)/\xs.length+ys.length<=sizeLine/\TupR H (xs++ys) Q
theorem jFG:OpR X (binaryOp .Add) rCatU:=by
 intro pins s σ H x y v u Q I rx ry h
 obtain⟨a,b,xs,ys,rfl,rfl,ha,hb,hz,q⟩:=h
 by_cases hx:xs=[]
 ·subst hx
  cases rx
  cases ry
  obtain⟨_,its,r1,n1,e1⟩:=I.hok a _ ha
  obtain⟨_,its2,r2,n2,e2⟩:=I.hok b _ hb
  cases r1
  exact concat_meets ⟨_,e1,rfl⟩ ⟨_,e2,rfl⟩ im seq_tuple_add fS fE (ff _ _) (AutoSeq1.tuple___add___tuple_tuple_0 a _ n1 b its2.toArray n2 (by simp)) ⟨e1,e2, .ref b,H,I,rfl,q.old hb⟩
 ·refine jRW pins s σ H _ _ v u Q I rx ry ⟨a,b,xs,ys,rfl,rfl,SqT.of ha,SqT.of hb,hx,hz,fun e=>?_,fun _ p hp=>q.new hp⟩
  subst e
  rw[aW] at q
  exact q.old ha
section
variable (l:Addr)(items:Array Value)(n:Nat)(x:Int)(u:Tok)(h1:¬ (decide (x< -(2 ^ 63)) || decide (x ≥ 2 ^ 63))=true)
include h1
end
theorem Inv.big' {pins:List (Addr×Obj)}{σ:St}{H:Hp}{s:Shared}(I:Inv X pins σ H s):sysModules<s.heap.objs.size:=eD (by decide) (I.mod.glob.keeps I.bk).lt
def jTC:TE:=fun _ H Q=>∀ p,H p=none->Q (.ref p) (upd H p (.dK []))
theorem jP7 {pos:Pos} :JE X (.Dict [] [] pos) jTC:=⟨fun pins s σ H Q I h=>
 wpAny_Dict_empty ⟨.ref s.heap.objs.size,_,I.laid (a:=s.heap.objs.size) (o:= .dK []) (t':=s.toks) (fun _ _ q=>af _ q) (ao _)
  ⟨br _,cY.mpr (fk (aS I.big')),[], .nil,iJ s.heap⟩,rfl,h _ (I.hok.fresh (ao _))⟩⟩
theorem jGX {tg a b:Expr}{t:TA}{p pos:Pos}(hg:Gl1 X "range")(hm:X.mg "range" =none)(ha:JA X [a,b] t)(hs:starEach [a,b] X.env=(false,eval a X.env)::starEach [b] X.env)(hs2:starEach [b] X.env=(false,eval b X.env)::starEach [] X.env):
  JI X tg (.Call (.Name "range" p) [a,b] [] pos) (iRng2 t):=⟨jLS hg.a hm ha.h (by rw[hs,hs2]; rfl) hs2⟩
theorem jUN {tg e:Expr}{te:TE}{g:TG}{pos:Pos}(he:JE X e te)(hg:JG X tg g)(hs:swapsWithSole [tg] e pos.line X.env=pure false:=by rfl)(hw:swappedStores [tg] e X.env=pure none:=by rfl)
  (h1:(assignEach [tg] X.env).map (·.2)=[assign tg X.env]:=by rfl):JS X (.Assign [tg] e pos) (tAsg te g):=⟨jQ5 he.h hg.h hs hw h1⟩
end
section
variable {K:W.Frag}{m:List (Option Nat)}{g:TG}{tt:TT}{te:TE}{σ:St}{H1:Hp}{Q:VK}
theorem jB1 {a:Addr}{xs:List V}(hn:xs.length<sizeLine)(Pv:Addr->Nat->St->Hp->List V->Prop)(h0:∀ D,H1 D=none->Pv D 0 (blkσ m σ) (upd H1 D (.lst [])) [])
  (hD:∀ D i σ' H' zs,H1 D=none->Pv D i σ' H' zs->H' a=some (.tup xs)/\H' D=some (.lst zs)/\zs.length<=i)
  (hs:∀ D i σ' H' zs x,H1 D=none->xs[i]?=some x->Pv D i σ' H' zs->g x σ' H' fun σ2 H2=>tt σ2 H2 fun b H3=>if b=true then te σ2 H3 fun v H4=>H4 D=some (.lst zs)/\Pv D (i+1) σ2 (upd H4 D (.lst (zs++[v]))) (zs++[v]) else Pv D (i+1) σ2 H3 zs)
  (hd:∀ D σ' H' zs,H1 D=none->Pv D xs.length σ' H' zs->Q (.ref D) H'):qL m g tt te σ Q (Itt K a) H1:=by
 intro D hDn
 refine⟨fun i k σ' H' zs=>k=xs.length - i/\i<=xs.length/\Pv D i σ' H' zs,⟨_,rfl,br _,h0 D hDn⟩,?_⟩
 rintro i k σ' H' zs ⟨rfl,hi,p⟩
 obtain⟨s1,q1,q2⟩:=hD D i σ' H' zs hDn p
 refine⟨q1,by omega,?_⟩
 by_cases hlt:i<xs.length
 ·refine .inr ⟨⟨xs,xs[i],SqT.of s1,by simp [hlt]⟩,Pv D (i+1),fun σ2 H2 zs z=>⟨xs.length - (i+1),by omega,rfl,hlt,z⟩,fun v H'' y=>?_⟩
  obtain⟨e1,e2⟩:=y
  subst e1
  exact hs D i σ' _ zs v hDn (e2 xs (SqT.of s1)) p
 ·have e:i=xs.length:=by omega
  subst e
  exact .inl ⟨⟨xs,SqT.of s1,ao _⟩,hd D σ' H' zs hDn p⟩
end
inductive Tr where
 | non
 | bl (b:Bool)
 | int (i:Int)
 | str (x:Str)
 | lst (ts:List Tr)
 | tup (ts:List Tr)
mutual
def TAt (H:Hp):Tr->V->Prop
 | .non,v=>v= .non
 | .bl b,v=>v= .bl b
 | .int i,v=>v= .int i
 | .str x,v=>v= .str x
 | .lst ts,v=>∃ a vs,v= .ref a/\H a=some (.lst vs)/\TsAt H ts vs
 | .tup ts,v=>∃ a vs,v= .ref a/\H a=some (.tup vs)/\TsAt H ts vs
def TsAt (H:Hp):List Tr->List V->Prop
 | [],vs=>vs=[]
 | t::ts,vs=>∃ v r,vs=v::r/\TAt H t v/\TsAt H ts r
end
mutual
def dep:Tr->Nat
 | .lst ts=>deps ts+1
 | .tup ts=>deps ts+1
 | _=>0
def deps:List Tr->Nat
 | []=>0
 | t::ts=>max (dep t) (deps ts)
end
mutual
def eqT:Tr->Tr->Bool
 | .non, .non=>true
 | .bl a, .bl b=>a==b
 | .bl a, .int b=>(if a then 1 else 0)==b
 | .int a, .bl b=>a==(if b then 1 else 0)
 | .int a, .int b=>a==b
 | .str a, .str b=>a==b
 | .lst a, .lst b=>eqTs a b
 | .tup a, .tup b=>eqTs a b
 | _,_=>false
def eqTs:List Tr->List Tr->Bool
 | [],[]=>true
 | a::as,b::bs=>eqT a b&&eqTs as bs
 | _,_=>false
end
mutual
theorem jFX:∀ t:Tr,eqT t t=true
 | .non=>by simp [eqT]
 | .bl b=>by simp [eqT]
 | .int i=>by simp [eqT]
 | .str x=>by simp [eqT]
 | .lst ts=>by rw[eqT]; exact jCM ts
 | .tup ts=>by rw[eqT]; exact jCM ts
theorem jCM:∀ ts:List Tr,eqTs ts ts=true
 | []=>by simp [eqTs]
 | t::ts=>by rw[eqTs,jFX t,jCM ts]; rfl
end
mutual
theorem TAt.ext {H H':Hp}(e:Ext H H'):∀ {t:Tr}{v:V},TAt H t v->TAt H' t v
 | .non,_,h=>h
 | .bl _,_,h=>h
 | .int _,_,h=>h
 | .str _,_,h=>h
 | .lst ts,_,⟨a,vs,q,h,r⟩=>⟨a,vs,q,e _ _ h,TsAt.ext e r⟩
 | .tup ts,_,⟨a,vs,q,h,r⟩=>⟨a,vs,q,e _ _ h,TsAt.ext e r⟩
theorem TsAt.ext {H H':Hp}(e:Ext H H'):∀ {ts:List Tr}{vs:List V},TsAt H ts vs->TsAt H' ts vs
 | [],_,h=>h
 | t::ts,_,⟨v,r,q,h,s⟩=>⟨v,r,q,TAt.ext e h,TsAt.ext e s⟩
end
mutual
theorem TAt.inj {H:Hp} :∀ {t u:Tr}{v:V},TAt H t v->TAt H u v->t=u
 | .non,u,_,h,h'=>by
  cases (show _=V.non from h)
  cases u with
  | non=>rfl
  | bl b=>cases (show V.non=_ from h')
  | int b=>cases (show V.non=_ from h')
  | str b=>cases (show V.non=_ from h')
  | lst ts=>obtain⟨_,_,q,_⟩:=h'; cases q
  | tup ts=>obtain⟨_,_,q,_⟩:=h'; cases q
 | .bl b,u,_,h,h'=>by
  cases (show _=V.bl b from h)
  cases u with
  | non=>cases (show V.bl b=_ from h')
  | bl b=>cases (show V.bl _=V.bl b from h'); rfl
  | int i=>cases (show V.bl b=V.int i from h')
  | str i=>cases (show V.bl b=V.str i from h')
  | lst ts=>obtain⟨_,_,q,_⟩:=h'; cases q
  | tup ts=>obtain⟨_,_,q,_⟩:=h'; cases q
 | .int b,u,_,h,h'=>by
  cases (show _=V.int b from h)
  cases u with
  | non=>cases (show V.int b=_ from h')
  | bl i=>cases (show V.int b=V.bl i from h')
  | int b=>cases (show V.int _=V.int b from h'); rfl
  | str i=>cases (show V.int b=V.str i from h')
  | lst ts=>obtain⟨_,_,q,_⟩:=h'; cases q
  | tup ts=>obtain⟨_,_,q,_⟩:=h'; cases q
 | .str b,u,_,h,h'=>by
  cases (show _=V.str b from h)
  cases u with
  | non=>cases (show V.str b=_ from h')
  | bl i=>cases (show V.str b=V.bl i from h')
  | int i=>cases (show V.str b=V.int i from h')
  | str b=>cases (show V.str _=V.str b from h'); rfl
  | lst ts=>obtain⟨_,_,q,_⟩:=h'; cases q
  | tup ts=>obtain⟨_,_,q,_⟩:=h'; cases q
 | .lst ts,u,_,⟨a,vs,q,h,r⟩,h'=>by
  subst q
  cases u with
  | non=>cases (show V.ref a=_ from h')
  | bl i=>cases (show V.ref a=V.bl i from h')
  | int i=>cases (show V.ref a=V.int i from h')
  | str i=>cases (show V.ref a=V.str i from h')
  | lst us=>
   obtain⟨a',vs',q',h2,r'⟩:=h'
   cases q'
   rw[h] at h2
   cases h2
   rw[TsAt.inj r r']
  | tup us=>
   obtain⟨a',vs',q',h2,r'⟩:=h'
   cases q'
   rw[h] at h2
   cases h2
 | .tup ts,u,_,⟨a,vs,q,h,r⟩,h'=>by
  subst q
  cases u with
  | non=>cases (show V.ref a=_ from h')
  | bl i=>cases (show V.ref a=V.bl i from h')
  | int i=>cases (show V.ref a=V.int i from h')
  | str i=>cases (show V.ref a=V.str i from h')
  | lst us=>
   obtain⟨a',vs',q',h2,r'⟩:=h'
   cases q'
   rw[h] at h2
   cases h2
  | tup us=>
   obtain⟨a',vs',q',h2,r'⟩:=h'
   cases q'
   rw[h] at h2
   cases h2
   rw[TsAt.inj r r']
theorem TsAt.inj {H:Hp} :∀ {ts us:List Tr}{vs:List V},TsAt H ts vs->TsAt H us vs->ts=us
 | [],us,_,h,h'=>by
  cases (show _=[] from h)
  cases us with
  | nil=>rfl
  | cons u us=>obtain⟨_,_,q,_⟩:=h'; cases q
 | t::ts,us,_,⟨v,r,q,h,s⟩,h'=>by
  subst q
  cases us with
  | nil=>cases (show v::r=[] from h')
  | cons u us=>
   obtain⟨v',r',q,h2,s2⟩:=h'
   cases q
   rw[TAt.inj h h2,TsAt.inj s s2]
end
theorem TsAt.len {H:Hp} :∀ {ts:List Tr}{vs:List V},TsAt H ts vs->vs.length=ts.length
 | [],_,h=>by cases (show _=[] from h); rfl
 | t::ts,_,⟨v,r,q,_,s⟩=>by rw[q,aR,aR,TsAt.len s]
theorem TsAt.get {H:Hp} :∀ {ts:List Tr}{vs:List V},TsAt H ts vs->∀ {i:Nat}{v:V},vs[i]?=some v->∃ t,ts[i]?=some t/\TAt H t v
 | [],_,h,i,v,e=>by cases (show _=[] from h); cases e
 | t::ts,_,⟨v,r,q,h,s⟩,0,v',e=>by subst q; cases e; exact⟨t,rfl,h⟩
 | t::ts,_,⟨v,r,q,h,s⟩,i+1,v',e=>by subst q; exact TsAt.get s (i:=i) e
theorem jED:∀ ts us:List Tr,eqTs ts us=((List.range (min ts.length us.length)).all (fun j=>eqT (ts.getD j .non) (us.getD j .non))&&ts.length==us.length)
 | [],[]=>by simp [eqTs]
 | [],u::us=>by simp [eqTs]
 | t::ts,[]=>by simp [eqTs]
 | t::ts,u::us=>by
  rw[eqTs,jED ts us,aR,aR,show min (ts.length+1) (us.length+1)=min ts.length us.length+1 by omega,List.range_succ_eq_map,fg,iC]
  have e:(ts.length+1==us.length+1)=(ts.length==us.length):=by
   rw[bS]
   simp
  rw[e,Bool.and_assoc]
  rfl
theorem jIB {ts:List Tr}{t:Tr}(h:t∈ts):dep t<=deps ts:=by
 induction ts with
 | nil=>cases h
 | cons a r ih=>
  rw[deps]
  rcases aG.mp h with q | q
  ·subst q; omega
  ·have:=ih q; omega
def flatT:Tr->Bool
 | .lst _=>false
 | .tup _=>false
 | _=>true
theorem jND {H:Hp}{t:Tr}{x:V}(h:TAt H t x)(f:flatT t=true):flatV x=true:=by
 cases t with
 | non=>cases (show x=_ from h); rfl
 | bl b=>cases (show x=V.bl b from h); rfl
 | int b=>cases (show x=V.int b from h); rfl
 | str b=>cases (show x=V.str b from h); rfl
 | lst ts=>cases f
 | tup ts=>cases f
theorem jSU {H:Hp}{t u:Tr}{x y:V}(h:TAt H t x)(h':TAt H u y)(f:flatT t=true)(f':flatT u=true):eqV x y=eqT t u:=by
 cases t with
 | non=>
  cases (show x=_ from h)
  cases u with
  | non=>cases (show y=_ from h'); simp [eqV,eqT]
  | bl b=>cases (show y=V.bl b from h'); simp [eqV,eqT]
  | int b=>cases (show y=V.int b from h'); simp [eqV,eqT]
  | str b=>cases (show y=V.str b from h'); simp [eqV,eqT]
  | lst ts=>cases f'
  | tup ts=>cases f'
 | bl c=>
  cases (show x=V.bl c from h)
  cases u with
  | non=>cases (show y=_ from h'); simp [eqV,eqT]
  | bl b=>cases (show y=V.bl b from h'); simp [eqV,eqT]
  | int b=>cases (show y=V.int b from h'); simp [eqV,eqT]
  | str b=>cases (show y=V.str b from h'); simp [eqV,eqT]
  | lst ts=>cases f'
  | tup ts=>cases f'
 | int c=>
  cases (show x=V.int c from h)
  cases u with
  | non=>cases (show y=_ from h'); simp [eqV,eqT]
  | bl b=>cases (show y=V.bl b from h'); simp [eqV,eqT]
  | int b=>cases (show y=V.int b from h'); simp [eqV,eqT]
  | str b=>cases (show y=V.str b from h'); simp [eqV,eqT]
  | lst ts=>cases f'
  | tup ts=>cases f'
 | str c=>
  cases (show x=V.str c from h)
  cases u with
  | non=>cases (show y=_ from h'); simp [eqV,eqT]
  | bl b=>cases (show y=V.bl b from h'); simp [eqV,eqT]
  | int b=>cases (show y=V.int b from h'); simp [eqV,eqT]
  | str b=>cases (show y=V.str b from h'); simp [eqV,eqT]
  | lst ts=>cases f'
  | tup ts=>cases f'
 | lst ts=>cases f
 | tup ts=>cases f
section
variable {X:Cx}{pins:List (Addr×Obj)}{σ:St}{H:Hp}{s:Shared}
theorem TsAt.both {ts us:List Tr}{vs ws:List V}{its its2:List Value}(h1:TsAt H ts vs)(h2:TsAt H us ws)(r1:Vals vs its)(r2:Vals ws its2){j:Nat}(a1:j<its.toArray.size)(a2:j<its2.toArray.size):
  ∃ t u x y,ts.getD j .non=t/\us.getD j .non=u/\t∈ts/\TAt H t x/\TAt H u y/\RelV x its.toArray[j]/\RelV y its2.toArray[j]:=by
 have l1:=r1.length
 have l2:=r2.length
 rw[ag] at a1 a2
 obtain⟨x,hx⟩:∃ x,vs[j]?=some x:=⟨vs[j]'(by omega),by simp [show j<vs.length by omega]⟩
 obtain⟨y,hy⟩:∃ y,ws[j]?=some y:=⟨ws[j]'(by omega),by simp [show j<ws.length by omega]⟩
 obtain⟨t,ht,hxt⟩:=h1.get hx
 obtain⟨u,hu,hyu⟩:=h2.get hy
 obtain⟨v,hv,rv⟩:=r1.get hx
 obtain⟨w,hw,rw'⟩:=r2.get hy
 have e1:its.toArray[j]=v:=by
  have:its[j]?=some its[j]:=by simp [a1]
  rw[hv] at this
  simpa using (bg this).symm
 have e2:its2.toArray[j]=w:=by
  have:its2[j]?=some its2[j]:=by simp [a2]
  rw[hw] at this
  simpa using (bg this).symm
 refine⟨t,u,x,y,by rw[ak,ht]; rfl,by rw[ak,hu]; rfl,az ht,hxt,hyu,by rw[e1]; exact rv,by rw[e2]; exact rw'⟩
theorem jUX (I:Inv X pins σ H s):∀ (n:Nat) (t u:Tr) (x y:V) (vx vy:Value) (A:Around),dep t=n->TAt H t x->TAt H u y->RelV x vx->RelV y vy->A.units+n<cLine->SeqAt.EqAt A s vx vy (eqT t u):=by
 intro n
 induction n using strongRecOn with
 | ind n ih=>
  intro t u x y vx vy A hn ht hu rx ry hc
  have hcu:A.units<cLine:=by omega
  cases ft:flatT t with
  | true=>
   cases fu:flatT u with
   | true=>
    rw[<- jSU ht hu ft fu]
    exact jQO rx ry (jND ht ft) (jND hu fu)
   | false=>
    cases u with
    | lst us=>
     obtain⟨b,ws,rfl,hb,_⟩:=hu
     cases ry
     obtain⟨its,_,pl,_⟩:=I.list (SqL.of hb)
     cases t with
     | non=>cases (show x=_ from ht); cases rx; rw[show eqT .non (.lst us)=false by simp [eqT]]; exact .none_list pl.isList hcu
     | bl c=>cases (show x=V.bl c from ht); cases rx; rw[show eqT (.bl c) (.lst us)=false by simp [eqT]]; exact .bool_list c pl.isList hcu
     | int c=>cases (show x=V.int c from ht); obtain⟨k,rfl⟩:=rx; rw[show eqT (.int c) (.lst us)=false by simp [eqT]]; exact .int_list c k pl.isList hcu
     | str c=>cases (show x=V.str c from ht); obtain⟨k,rfl⟩:=rx; rw[show eqT (.str c) (.lst us)=false by simp [eqT]]; exact .str_list c k pl.isList hcu
     | lst ts=>cases ft
     | tup ts=>cases ft
    | tup us=>
     obtain⟨b,ws,rfl,hb,_⟩:=hu
     cases ry
     obtain⟨its,_,pl,_⟩:=I.tuple (SqT.of hb)
     cases t with
     | non=>cases (show x=_ from ht); cases rx; rw[show eqT .non (.tup us)=false by simp [eqT]]; exact .none_tuple pl hcu
     | bl c=>cases (show x=V.bl c from ht); cases rx; rw[show eqT (.bl c) (.tup us)=false by simp [eqT]]; exact .bool_tuple c pl hcu
     | int c=>cases (show x=V.int c from ht); obtain⟨k,rfl⟩:=rx; rw[show eqT (.int c) (.tup us)=false by simp [eqT]]; exact .int_tuple c k pl hcu
     | str c=>cases (show x=V.str c from ht); obtain⟨k,rfl⟩:=rx; rw[show eqT (.str c) (.tup us)=false by simp [eqT]]; exact .str_tuple c k pl hcu
     | lst ts=>cases ft
     | tup ts=>cases ft
    | non=>cases fu
    | bl c=>cases fu
    | int c=>cases fu
    | str c=>cases fu
  | false=>
   cases t with
   | non=>cases ft
   | bl c=>cases ft
   | int c=>cases ft
   | str c=>cases ft
   | lst ts=>
    have ht0:=ht
    obtain⟨a,vs,rfl,ha,hts⟩:=ht
    cases rx
    obtain⟨its,r1,pl,_⟩:=I.list (SqL.of ha)
    cases u with
    | non=>cases (show y=_ from hu); cases ry; rw[show eqT (.lst ts) .non=false by simp [eqT]]; exact .list_none pl.isList hcu
    | bl c=>cases (show y=V.bl c from hu); cases ry; rw[show eqT (.lst ts) (.bl c)=false by simp [eqT]]; exact .list_bool c pl.isList hcu
    | int c=>cases (show y=V.int c from hu); obtain⟨k,rfl⟩:=ry; rw[show eqT (.lst ts) (.int c)=false by simp [eqT]]; exact .list_int c k pl.isList hcu
    | str c=>cases (show y=V.str c from hu); obtain⟨k,rfl⟩:=ry; rw[show eqT (.lst ts) (.str c)=false by simp [eqT]]; exact .list_str c k pl.isList hcu
    | tup us=>
     obtain⟨b,ws,rfl,hb,_⟩:=hu
     cases ry
     obtain⟨its2,_,pl2,_⟩:=I.tuple (SqT.of hb)
     rw[show eqT (.lst ts) (.tup us)=false by simp [eqT]]
     exact .list_tuple pl.isList pl2 hcu
    | lst us=>
     have hu0:=hu
     obtain⟨b,ws,rfl,hb,hus⟩:=hu
     cases ry
     by_cases e:a=b
     ·subst e
      rw[<- TAt.inj ht0 hu0,jFX]
      exact .same _
     ·obtain⟨its2,r2,pl2,_⟩:=I.list (SqL.of hb)
      refine .of_refs e ?_
      have l1:=r1.length
      have l2:=r2.length
      have m1:=hts.len
      have m2:=hus.len
      rw[eqT,jED]
      by_cases hl:ts.length=us.length
      ·have key:=SeqAt.RcAt.lists (e:=fun j=>eqT (ts.getD j .non) (us.getD j .non)) pl.isList pl2.isList (by rw[ag,ag]; omega) hcu fun j a1 a2=>by
        obtain⟨t',u',x',y',e1,e2,hm,q1,q2,q3,q4⟩:=TsAt.both hts hus r1 r2 a1 a2
        rw[e1,e2]
        have hd:=jIB hm
        have hn':deps ts+1=n:=by rw[<- hn,dep]
        exact ih (dep t') (by omega) t' u' x' y' _ _ _ rfl q1 q2 q3 q4 (by rw[ek]; omega)
       have ez:its.toArray.size=min ts.length us.length:=by rw[ag]; omega
       rw[ez] at key
       rw[show (ts.length==us.length)=true by simp [hl],i6]
       exact key
      ·rw[show (ts.length==us.length)=false by simp [hl],cS]
       refine SeqAt.RcAt.lists_lengths pl.isList pl2.isList ?_ hcu
       rw[ag,ag]
       simp
       omega
   | tup ts=>
    have ht0:=ht
    obtain⟨a,vs,rfl,ha,hts⟩:=ht
    cases rx
    obtain⟨its,r1,pl,_⟩:=I.tuple (SqT.of ha)
    cases u with
    | non=>cases (show y=_ from hu); cases ry; rw[show eqT (.tup ts) .non=false by simp [eqT]]; exact .tuple_none pl hcu
    | bl c=>cases (show y=V.bl c from hu); cases ry; rw[show eqT (.tup ts) (.bl c)=false by simp [eqT]]; exact .tuple_bool c pl hcu
    | int c=>cases (show y=V.int c from hu); obtain⟨k,rfl⟩:=ry; rw[show eqT (.tup ts) (.int c)=false by simp [eqT]]; exact .tuple_int c k pl hcu
    | str c=>cases (show y=V.str c from hu); obtain⟨k,rfl⟩:=ry; rw[show eqT (.tup ts) (.str c)=false by simp [eqT]]; exact .tuple_str c k pl hcu
    | lst us=>
     obtain⟨b,ws,rfl,hb,_⟩:=hu
     cases ry
     obtain⟨its2,_,pl2,_⟩:=I.list (SqL.of hb)
     rw[show eqT (.tup ts) (.lst us)=false by simp [eqT]]
     exact .tuple_list pl pl2.isList hcu
    | tup us=>
     have hu0:=hu
     obtain⟨b,ws,rfl,hb,hus⟩:=hu
     cases ry
     by_cases e:a=b
     ·subst e
      rw[<- TAt.inj ht0 hu0,jFX]
      exact .same _
     ·obtain⟨its2,r2,pl2,_⟩:=I.tuple (SqT.of hb)
      refine .of_refs e ?_
      have l1:=r1.length
      have l2:=r2.length
      have m1:=hts.len
      have m2:=hus.len
      rw[eqT,jED]
      have key:=SeqAt.RcAt.tuples (e:=fun j=>eqT (ts.getD j .non) (us.getD j .non)) pl pl2 hcu fun j a1 a2=>by
       obtain⟨t',u',x',y',e1,e2,hm,q1,q2,q3,q4⟩:=TsAt.both hts hus r1 r2 a1 a2
       rw[e1,e2]
       have hd:=jIB hm
       have hn':deps ts+1=n:=by rw[<- hn,dep]
       exact ih (dep t') (by omega) t' u' x' y' _ _ _ rfl q1 q2 q3 q4 (by rw[ek]; omega)
      have z1:its.toArray.size=ts.length:=by rw[ag]; omega
      have z2:its2.toArray.size=us.length:=by rw[ag]; omega
      rw[z1,z2] at key
      exact key
theorem jN1 (I:Inv X pins σ H s){ts us:List Tr}{vs ws:List V}{its its2:List Value}(h1:TsAt H ts vs)(h2:TsAt H us ws)(r1:Vals vs its)(r2:Vals ws its2){A:Around}(hc:A.units+deps ts<cLine):
  ∀ j (a1:j<its.toArray.size) (a2:j<its2.toArray.size),SeqAt.EqAt A s its.toArray[j] its2.toArray[j] (eqT (ts.getD j .non) (us.getD j .non)):=fun j a1 a2=>by
 obtain⟨t',u',x',y',e1,e2,hm,q1,q2,q3,q4⟩:=TsAt.both h1 h2 r1 r2 a1 a2
 rw[e1,e2]
 have hd:=jIB hm
 exact jUX I (dep t') t' u' x' y' _ _ _ rfl q1 q2 q3 q4 (by omega)
theorem jRV (hu:X.A.units+101<cLine):OpR X (compareOp .Eq) (fun x y H Q=>∃ ts us,TAt H (.lst ts) x/\TAt H (.lst us) y/\deps ts<=100/\Q (.bl (eqTs ts us)) H):=by
 intro pins s σ H x y v u Q I rx ry h
 obtain⟨ts,us,⟨a,vs,rfl,ha,hts⟩,⟨b,ws,rfl,hb,hus⟩,hd,q⟩:=h
 cases rx
 cases ry
 obtain⟨its,r1,p1,_⟩:=I.list (SqL.of ha)
 obtain⟨its2,r2,p2,_⟩:=I.list (SqL.of hb)
 have l1:=r1.length
 have l2:=r2.length
 have m1:=hts.len
 have m2:=hus.len
 rw[jED] at q
 by_cases hl:ts.length=us.length
 ·refine SeqAt.eq_listAt (e:=fun j=>eqT (ts.getD j .non) (us.getD j .non)) p1.isList p2.isList (by rw[ag,ag]; omega) (by omega) (jN1 I hts hus r1 r2 (by rw[ek]; omega)) ⟨.bl _,H,I,rfl,?_⟩
  have ez:its.toArray.size=min ts.length us.length:=by rw[ag]; omega
  rw[ez]
  rw[show (ts.length==us.length)=true by simp [hl],i6] at q
  exact q
 ·rw[show (ts.length==us.length)=false by simp [hl],cS] at q
  refine SeqAt.eq_list_lengthsAt p1.isList p2.isList ?_ (by omega) ⟨.bl _,H,I,rfl,q⟩
  rw[ag,ag]
  simp
  omega
theorem jRT (hu:X.A.units+101<cLine):OpR X (compareOp .NotEq) (fun x y H Q=>∃ ts us,TAt H (.lst ts) x/\TAt H (.lst us) y/\deps ts<=100/\Q (.bl (!eqTs ts us)) H):=by
 intro pins s σ H x y v u Q I rx ry h
 obtain⟨ts,us,⟨a,vs,rfl,ha,hts⟩,⟨b,ws,rfl,hb,hus⟩,hd,q⟩:=h
 cases rx
 cases ry
 obtain⟨its,r1,p1,_⟩:=I.list (SqL.of ha)
 obtain⟨its2,r2,p2,_⟩:=I.list (SqL.of hb)
 have l1:=r1.length
 have l2:=r2.length
 have m1:=hts.len
 have m2:=hus.len
 rw[jED] at q
 by_cases hl:ts.length=us.length
 ·refine SeqAt.RcNeAt.lists (e:=fun j=>eqT (ts.getD j .non) (us.getD j .non)) p1.isList p2.isList (by rw[ag,ag]; omega) (by omega) (jN1 I hts hus r1 r2 (by rw[ek]; omega)) _ _ _ _ ⟨.bl _,H,I,rfl,?_⟩
  have ez:its.toArray.size=min ts.length us.length:=by rw[ag]; omega
  rw[ez]
  rw[show (ts.length==us.length)=true by simp [hl],i6] at q
  exact q
 ·rw[show (ts.length==us.length)=false by simp [hl],cS] at q
  refine gO p1.isList p2.isList ?_ (by omega) _ _ _ _ ⟨.bl _,H,I,rfl,q⟩
  rw[ag,ag]
  simp
  omega
theorem Room.units101 {k:Nat}{A:Around}(r:Room k A):A.units+101<cLine:=by have:=r.un; omega
end
section
variable {X:Cx}{tg iter elt:Expr}{ifs:List Expr}{sc:Scope}{pos:Pos}{wi:TI}{g:TG}{tt:TT}{te:TE}{m:List (Option Nat)}{Nc:List Str}
end
section
variable {X:Cx}{sc:Scope}{cl:List (Str×Addr)}{C:Addr}{Nc:List Str}{fp:List Addr}{s:Shared}{H:Hp}{x:Str}
variable {sc2:Scope}{cl2:List (Str×Addr)}{C2:Addr}{Nc2:List Str}{fp2:List Addr}{s2:Shared}{H2:Hp}
end
section
variable {X:Cx}
def jO9:V->List V->Hp->VK->Prop:=fun x vs H Q=>∃ l b xs zs,x= .ref l/\vs=[.ref b]/\H l=some (.lst xs)/\H b=some (.tup zs)/\xs.length+zs.length<=sizeLine/\Q .non (upd H l (.lst (xs++zs)))
theorem jEX:MtM X "list.extend" jO9:=by
 intro pins s σ H x vs v us Q I rx rv h
 obtain⟨l,b,xs,zs,rfl,rfl,hH,hB,hz,q⟩:=h
 cases rx
 obtain⟨u,rfl,ru⟩:=rv.one
 cases ru
 obtain⟨z,its,n,r,hl,e⟩:=I.lstM hH
 obtain⟨_,its2,r2,n2,e2⟩:=I.hok b _ hB
 have hl2:=r2.length
 have hsz:its.toArray.size+its2.toArray.size<=sizeLine:=by rw[ag,ag]; omega
 have hlong:¬ (!its.toArray.isEmpty&&Builtin.List.listTooLong (its.toArray.size+its2.toArray.size))=true:=by
  rw[jOT hsz,cS]
  exact aj
 refine gK F.slot_list_extend ⟨_,e,rfl⟩ F.entry_list_extend (F.args_list_extend_2 _ _)
  (AutoSeq1.list_extend_list_tuple_0 l its.toArray n b its2.toArray n2 hlong (by rw[ag]; omega) (by omega)) ⟨e,e2,?_⟩
 refine⟨.non,_,I.lset (its':=its++its2) hH e (by simp) (r.append r2) ?_,rfl,q⟩
 rw[aB]
 omega
def rAny (K:W.Frag):List V->Hp->VK->Prop:=fun xs H Q=>∃ (p:Addr) (bs:List Bool),xs=[.ref p]/\SqL K H p (bs.map V.bl)/\Q (.bl (bs.any id)) H
theorem jEG (hc:X.calm=true):yE X (.builtin "any") (rAny X.K):=by
 intro pins s σ H xs us Q I r h
 obtain⟨p,bs,rfl,hq,q⟩:=h
 obtain⟨u,rfl,rx⟩:=r.one
 cases rx
 obtain⟨its,r',pl,hz⟩:=I.list hq
 have hlen:=r'.length
 rw[ae] at hlen
 refine call_any_walk (cP pl.isList ?_)
 have hne:p≠s.heap.objs.size:=by
  obtain⟨o,ho,_⟩:=pl.isList
  exact aS (aA ho)
 refine⟨s.heap.objs.size,_,_,_,_,_,fun i=>bs.getD i true,rfl,gM (by simpa using I.ok.hd hc) _ p hne its.toArray,⟨⟨_,ax _ rfl,rfl,rfl⟩,pl.isList.push _⟩,fun i v z Q' E' hP hQ'=>?_,fun h' tk hk=>?_⟩
 ·have hi:its[i]?=some v:=by simpa using hP
  have hb:i<bs.length:=by
   rw[hlen]
   exact(ai.mp hi).1
  obtain⟨u,hu,ru⟩:=r'.get (i:=i) (x:= .bl (bs[i])) (by simp [hb])
  rw[hi] at hu
  cases hu
  cases ru
  have e:bs.getD i true=bs[i]:=by simp [List.getD,hb]
  have hQ2:Q' (bs.getD i true) z:=hQ'
  rw[e] at hQ2
  exact ah hQ2
 ·have e:(List.range its.toArray.size).any (fun i=>bs.getD i true)=bs.any id:=by
   rw[ag,<- hlen]
   rw[bS,gh,gh]
   constructor
   ·rintro ⟨i,hi,hb⟩
    have hi:=bM.mp hi
    exact⟨bs[i],cz hi,by simpa [List.getD,hi] using hb⟩
   ·rintro ⟨b,hb,hq⟩
    obtain⟨i,hi,rfl⟩:=d0 hb
    exact⟨i,bM.mpr hi,by simpa [List.getD,hi] using hq⟩
  rw[e]
  exact⟨.bl _,H,I.kept (t':=tk) fun b o e=>hk b o (by
   intro z
   have z:b=s.heap.objs.size:=by simpa using z
   exact absurd (aA e) (by rw[z]; exact cO _)) (af _ e),rfl,q⟩
theorem jH8:yE X (.builtin "sorted") (fun xs H Q=>∃ (p:Addr) (ks:List Int),xs=[.ref p]/\SqL X.K H p (ks.map V.int)/\ks.length<64/\
  ∀ (l:Addr) (ns:List Int),H l=none->ns.Pairwise (· <= ·)->ns.Perm ks->Q (.ref l) (upd H l (.lst (ns.map V.int)))):=by
 intro pins s σ H xs us Q I r h
 obtain⟨p,ks,rfl,hp,hn,q⟩:=h
 obtain⟨u,rfl,rx⟩:=r.one
 cases rx
 obtain⟨its,r',pl,hz⟩:=I.list hp
 have hlen:=r'.length
 rw[ae] at hlen
 refine sorted_ints pl.isList (jAI r') (by omega) fun out ns' a1 a2 a3=>?_
 obtain⟨e,he⟩:=sortedAll_at s.heap its out
 have hz:(ns'.map V.int).length<=sizeLine:=by
  rw[ae,a2.length_eq,eB]
  omega
 have I2:Inv X pins σ (upd H (s.heap.objs.size+1) (.lst (ns'.map V.int))) { s with heap:=sortedAll s.heap its out} :=I.laid (t':=s.toks) (fun b o e=>sortedAll_old e) (dF _) ⟨hz,out.toList,e,jA8 a1,by rw[dk]; exact he⟩
 exact⟨.ref _,_,I2,rfl,q _ ns' (I.hok.fresh (dF _)) a3 a2⟩
theorem jRU (hu:X.A.units<cLine):OpR X (compareOp .NotEq) (fun x y H Q=>∃ p q xs,x= .ref p/\y= .ref q/\H p=some (.lst xs)/\H q=some (.lst [])/\Q (.bl (!decide (xs=[]))) H):=by
 intro pins s σ H x y v u Q I rx ry h
 obtain⟨p,q,xs,rfl,rfl,hp,hq,k⟩:=h
 cases rx
 cases ry
 obtain⟨its,r1,p1,_⟩:=I.list (SqL.of hp)
 obtain⟨its2,r2,p2,_⟩:=I.list (SqL.of hq)
 have l1:=r1.length
 have l2:its2.length=0:=r2.length.symm
 by_cases hl:xs=[]
 ·subst hl
  have l1:its.length=0:=r1.length.symm
  refine SeqAt.RcNeAt.lists (e:=fun _=>true) p1.isList p2.isList (by rw[ag,ag]; omega) hu (fun j a1 a2=>absurd a2 (by rw[ag]; omega)) _ _ _ _ ⟨.bl _,H,I,rfl,?_⟩
  have ez:its.toArray.size=0:=by rw[ag]; omega
  rw[ez]
  exact k
 ·refine gO p1.isList p2.isList ?_ hu _ _ _ _ ⟨.bl _,H,I,rfl,?_⟩
  ·rw[ag,ag]
   have:xs.length≠0:=fun e=>hl (fH.mp e)
   simp
   omega
  ·rw[aH hl] at k
   exact k
theorem jP2 {c:Expr}{body:List Stmt}{tc:TT}{tb:TS}{pos:Pos}(hp:PassesOwn (model X.prog X.w) X.A X.env X.xe)(hc:JT X c tc)(hb:JSs X body tb):JS X (.While c body [] pos) (jPW tc tb):=⟨jOA hp hc.h hb.h⟩
theorem jQ7 {op:CmpOp}{a b:Expr}{pos:Pos} :behindInMarks op (.Subscript a b pos)=false:=by cases op <;> rfl
end
section
variable {X:Cx}{sc:Scope}{cl:List (Str×Addr)}{C:Addr}{Nc:List Str}{fp:List Addr}{s:Shared}{H:Hp}
end
end L2
end
section
namespace L2
open PySem
def LstR (H:Hp)(xs:List V)(Q:VK):Prop:=∀ r H',H' r=some (.lst xs)->Ext H H'->H r=none->Q (.ref r) H'
theorem LstR.new {H:Hp}{xs:List V}{Q:VK}(q:LstR H xs Q){p:Addr}(hp:H p=none):Q (.ref p) (upd H p (.lst xs)):=q p _ j5 ((Ext.refl H).new hp _) hp
def tTupU (t:TA):TE:=fun σ H Q=>t σ H fun xs H1=>xs.length<=sizeLine/\TupR H1 xs Q
def tLstU (t:TA):TE:=fun σ H Q=>t σ H fun xs H1=>xs.length<=sizeLine/\LstR H1 xs Q
section
variable {X:Cx}{es:List Expr}{t:TA}{pos:Pos}
theorem y8 {x1}(h:JA X es t):JE X (.Tuple es x1 pos) (tTupU t):=⟨fun pins s σ H Q I hq=>by
 refine wpAny_Tuple_spliced (thn (h.h pos pins s σ H _ I hq) fun us s1 ⟨xs,H1,I1,r,z,q⟩=>⟨by rw[<- r.length]; exact z,?_⟩)
 have hf:H1 s1.heap.objs.size=none:=I1.hok.fresh (ao _)
 exact⟨.ref s1.heap.objs.size,upd H1 s1.heap.objs.size (.tup xs),I1.laid (t':=s1.toks) (fun b u e=>af _ e) (ao _) ⟨z,us,r,TupO.new _ _⟩,rfl,q.new hf⟩⟩
theorem yW (h:JA X es t):JE X (.List es pos) (tLstU t):=⟨fun pins s σ H Q I hq=>by
 refine wpAny_List_spliced (thn (h.h pos pins s σ H _ I hq) fun us s1 ⟨xs,H1,I1,r,z,q⟩=>⟨by rw[<- r.length]; exact z,?_⟩)
 have hf:H1 s1.heap.objs.size=none:=I1.hok.fresh (ao _)
 exact⟨.ref s1.heap.objs.size,upd H1 s1.heap.objs.size (.lst xs),I1.laid (t':=s1.toks) (fun b u e=>af _ e) (ao _) ⟨z,us,0,r,ax _ rfl⟩,rfl,q.new hf⟩⟩
theorem jOM:OpR X (binaryOp .Add) (fun x y H Q=>∃ l b xs zs,x= .ref l/\y= .ref b/\H l=some (.lst xs)/\H b=some (.lst zs)/\xs.length+zs.length<=sizeLine/\LstR H (xs++zs) Q):=by
 intro pins s σ H x y v u Q I rx ry h
 obtain⟨l,b,xs,zs,rfl,rfl,h1,h2,h3,q⟩:=h
 exact jU4 pins s σ H _ _ v u Q I rx ry ⟨l,b,xs,zs,rfl,rfl,h1,h2,h3,fun p hp=>q.new hp⟩
end
end L2
end
section
namespace L2
open PySem PySem.Spec PyProof.Rows
section
variable {X:Cx}
theorem jIF {prog:Program}{w:World}{A:Around}{E:Value->Shared->Prop}{s:Shared}{l:Addr}{vs:List Value}{n:Nat}{Q:List Value->Shared->Prop}(ho:s.heap.get? l=some { cls:= .type "tuple",data:= .seq vs.toArray n})
  (h:Q vs { s with heap:=(s.heap.push (seqObj "list" #[] 0)).update s.heap.objs.size (Obj.mapSeq (· ++vs.toArray))}) (hsz:vs.length<=sizeLine):
  wpAny (model prog w) A (collect (.ref l)) Q E s:=by
 unfold collect
 refine ab (gL (ce entry_proto_collect' ?_))
 show wpAny _ _ (do again (.builtin "list.__iadd__" ⟨[<- newList [], .ref l],[]⟩)) _ _ s
 refine ab (fj (ah ⟨Code.quiet_builtin _ (by decide+kernel),ce entry_list_iadd' ?_⟩))
 show wpAny _ _ (Builtin.List.listExtendWith (.ref s.heap.objs.size) (.ref l) (.ref s.heap.objs.size)) _ _ { s with heap:=s.heap.push (seqObj "list" #[] 0)}
 unfold Builtin.List.listExtendWith
 have ho':(s.heap.push (seqObj "list" #[] 0)).get? l=some { cls:= .type "tuple",data:= .seq vs.toArray n} :=af _ ho
 refine ab (iB (T:= "tuple") ⟨_,ho',rfl⟩ ?_)
 have ht:(Value.type "tuple" ==Value.type "tuple")=true:=by rfl
 rw[aq (by rw[ht,eS])]
 refine ab (listItems_at ho' rfl ?_)
 refine ab (listItems_at (xs:=#[]) (n:=0) (ax _ rfl) rfl ?_)
 rw[am (by simp)]
 refine ab (g9 (xs:=#[]) (n:=0) (ax _ rfl) rfl ?_ (br _) (by show (#[]++vs.toArray).size<=sizeLine+1; simp only [Array.size_append,ag,bZ]; omega))
 refine ah ?_
 show wpAny (model prog w) A (do
   let o <- load s.heap.objs.size
   match o.data with
   | .seq xs _=>pure xs.toList
   | _=>unsupported "internal:collect") Q E { s with heap:=(s.heap.push (seqObj "list" #[] 0)).update s.heap.objs.size (Obj.mapSeq (· ++vs.toArray))}
 refine ab (gd (get?_update_seq (ax _ rfl) _) ?_)
 show wpAny _ _ (pure ((#[]:Array Value)++vs.toArray).toList) Q E _
 rw[show ((#[]:Array Value)++vs.toArray).toList=vs by simp]
 exact ah h
theorem jK4 {prog:Program}{w:World}{A:Around}{E:Value->Shared->Prop}{s:Shared}{l:Addr}{vs:List Value}{ns:List Int}{n:Nat}{Q:Value->Shared->Prop}(ho:s.heap.get? l=some { cls:= .type "tuple",data:= .seq vs.toArray n})(hI:IntsAre vs ns)(h64:vs.length<64)
  (h:∀ (out:Array Value) (ns':List Int),IntsAre out.toList ns'->ns'.Perm ns->ns'.Pairwise (· <= ·)->Q (.ref (s.heap.objs.size+1)) { s with heap:=sortedAll s.heap vs out}):
  wpAny (model prog w) A (call (.builtin "sorted") [.ref l]) Q E s:=by
 refine eW kind_sorted plain_sorted entry_sorted (args_sorted1 _) ?_
 unfold Builtin.«sorted»
 refine ab (m:=checkCount "sorted" 1 1 _) (ah ?_)
 refine ab (jIF ho ?_ (by rw[eB]; omega))
 refine ab (fj ?_ (by rw[eB]; omega))
 have hsz:((s.heap.push (seqObj "list" #[] 0)).update s.heap.objs.size (Obj.mapSeq (· ++vs.toArray))).objs.size=s.heap.objs.size+1:=by
  rw[Heap.size_update,size_push']
 have hoL:(((s.heap.push (seqObj "list" #[] 0)).update s.heap.objs.size (Obj.mapSeq (· ++vs.toArray))).push (seqObj "list" vs.toArray 0)).get? (s.heap.objs.size+1)=some (seqObj "list" vs.toArray 0):=by
  rw[<- hsz]; exact ax _ rfl
 show wpAny _ _ _ _ _ { s with heap:=((s.heap.push (seqObj "list" #[] 0)).update s.heap.objs.size (Obj.mapSeq (· ++vs.toArray))).push (seqObj "list" vs.toArray 0)}
 rw[hsz]
 refine ab (bJ (cj gN ⟨_,hoL,rfl⟩ gz (list_sort_tree hoL hI h64 fun out ns' a1 a2 a3=>⟨_,rfl,?_⟩) (args_list_sort _)))
 exact ah ⟨_,rfl,h out ns' a1 a2 a3⟩
theorem jBB:yE X (.builtin "sorted") (fun xs H Q=>∃ (p:Addr) (ks:List Int),xs=[.ref p]/\H p=some (.tup (ks.map V.int))/\ks.length<64/\
  ∀ (l:Addr) (ns:List Int),H l=none->ns.Pairwise (· <= ·)->ns.Perm ks->Q (.ref l) (upd H l (.lst (ns.map V.int)))):=by
 intro pins s σ H xs us Q I r h
 obtain⟨p,ks,rfl,hp,hn,q⟩:=h
 obtain⟨u,rfl,rx⟩:=r.one
 cases rx
 obtain⟨_,its,r',n,e0⟩:=I.hok p _ hp
 have hlen:=r'.length
 rw[ae] at hlen
 refine jK4 e0 (jAI r') (by omega) fun out ns' a1 a2 a3=>?_
 obtain⟨e,he⟩:=sortedAll_at s.heap its out
 have hz:(ns'.map V.int).length<=sizeLine:=by
  rw[ae,a2.length_eq,eB]
  omega
 have I2:Inv X pins σ (upd H (s.heap.objs.size+1) (.lst (ns'.map V.int))) { s with heap:=sortedAll s.heap its out} :=I.laid (t':=s.toks) (fun b o e=>sortedAll_old e) (dF _) ⟨hz,out.toList,e,jA8 a1,by rw[dk]; exact he⟩
 exact⟨.ref _,_,I2,rfl,q _ ns' (I.hok.fresh (dF _)) a3 a2⟩
end
theorem jDT (ns:List Int):∀ j,preSum (fun i=>ns.getD i 0) j=(ns.take j).sum
 | 0=>rfl
 | j+1=>by
  rw[preSum,jDT ns j,aV,List.sum_append]
  congr 1
  rw[ak]
  cases ns[j]? with
  | none=>rfl
  | some z=>simp
section
variable {X:Cx}
def rSum (K:W.Frag):List V->Hp->VK->Prop:=fun xs H Q=>∃ (p:Addr) (ns:List Int),xs=[.ref p]/\(SqL K H p (ns.map V.int))/\Q (.int ns.sum) H
theorem jEF (hc:X.calm=true):yE X (.builtin "sum") (rSum X.K):=by
 intro pins s σ H xs us Q I r h
 obtain⟨p,ns,rfl,hq,q⟩:=h
 obtain⟨u,rfl,rx⟩:=r.one
 cases rx
 obtain⟨its,r',pl,hz⟩:=I.list hq
 have hlen:=r'.length
 rw[ae] at hlen
 refine call_sum_walkG (cP pl.isList ?_)
 have hne:p≠s.heap.objs.size:=by
  obtain⟨o,ho,_⟩:=pl.isList
  exact aS (aA ho)
 refine⟨s.heap.objs.size,_,_,_,_,_,fun i=>ns.getD i 0,rfl,gM (by simpa using I.ok.hd hc) _ p hne its.toArray,⟨⟨_,ax _ rfl,rfl,rfl⟩,pl.isList.push _⟩,(fun b hb=>?_),(fun i v hP=>?_),fun h' tk t' hk=>?_⟩
 ·show b<(s.heap.push _).objs.size
  rw[dG]
  obtain⟨o,ho,_⟩:=pl.isList
  have:=aA ho
  rcases aG.mp hb with rfl | hb
  ·exact ir _
  ·rcases aG.mp hb with rfl | hb
   ·exact cC this
   ·cases hb
 ·have hi:its[i]?=some v:=by simpa using hP
  have hb:i<ns.length:=by
   rw[hlen]
   exact(ai.mp hi).1
  obtain⟨u,hu,ru⟩:=r'.get (i:=i) (x:= .int (ns[i])) (by simp [hb])
  rw[hi] at hu
  cases hu
  obtain⟨t,rfl⟩:=ru
  exact⟨t,by simp [List.getD,hb]⟩
 ·have e:preSum (fun i=>ns.getD i 0) its.toArray.size=ns.sum:=by
   rw[jDT,ag,<- hlen,aZ]
  rw[e]
  exact⟨.int _,H,I.kept (t':=tk) fun b o e=>hk b o (by
   intro z
   have z:b=s.heap.objs.size:=by simpa using z
   exact absurd (aA e) (by rw[z]; exact cO _)) (af _ e),⟨_,rfl⟩,q⟩
variable {sc:Scope}{cl:List (Str×Addr)}{C:Addr}{Nc:List Str}{fp:List Addr}{s:Shared}{H:Hp}
end
theorem jKT (a b:Nat):Builtin.bitAnd (a:Int) (b:Int)=((a&&&b:Nat):Int):=by
 unfold Builtin.bitAnd
 rw[ar (fo a),ar (fo b)]
 rfl
theorem jCP (a b:Nat):Builtin.bitOr (a:Int) (b:Int)=((a|||b:Nat):Int):=by
 unfold Builtin.bitOr
 have ha:Builtin.bitNot (a:Int)= -(a:Int) - 1:=by unfold Builtin.bitNot; omega
 have hb:Builtin.bitNot (b:Int)= -(b:Int) - 1:=by unfold Builtin.bitNot; omega
 have na:¬ (0<=Builtin.bitNot (a:Int)):=by rw[ha]; omega
 have nb:¬ (0<=Builtin.bitNot (b:Int)):=by rw[hb]; omega
 unfold Builtin.bitAnd
 rw[aH na,aH nb]
 have ea:Builtin.bitNot (Builtin.bitNot (a:Int))=(a:Int):=by rw[ha]; unfold Builtin.bitNot; omega
 have eb:Builtin.bitNot (Builtin.bitNot (b:Int))=(b:Int):=by rw[hb]; unfold Builtin.bitNot; omega
 show Builtin.bitNot (Builtin.bitNot _)=_
 rw[ea,eb]
 unfold Builtin.bitNot
 simp
 omega
def maskN (ts:List Int):Nat:=(ts.map fun t=>2 ^ t.toNat).sum
theorem jJG:∀ (ts:List Int) (lo:Nat),ts.Pairwise (· < ·)->(∀ t∈ts,(lo:Int)<=t)->maskN ts % 2 ^ lo=0
 | [],_,_,_=>by simp [maskN]
 | t::r,lo,hp,hl=>by
  have ih:=jJG r lo (cw.mp hp).2 fun x hx=>hl x (aK _ hx)
  have h0:=hl t (aE ..)
  have e:maskN (t::r)=2 ^ t.toNat+maskN r:=by simp [maskN]
  have d:2 ^ t.toNat % 2 ^ lo=0:=Nat.mod_eq_zero_of_dvd (Nat.pow_dvd_pow 2 (by omega))
  rw[e,Nat.add_mod,ih,d]
  simp
theorem jA7:∀ (ts:List Int) (n:Nat),ts.Pairwise (· < ·)->(∀ t∈ts,0<=t)->(maskN ts).testBit n=decide ((n:Int)∈ts)
 | [],n,_,_=>by simp [maskN]
 | t::r,n,hp,h0=>by
  obtain⟨h1,h2⟩:=cw.mp hp
  have ih:=jA7 r n h2 fun x hx=>h0 x (aK _ hx)
  have ht:=h0 t (aE ..)
  obtain⟨k,rfl⟩:∃ k:Nat,t=(k:Int):=⟨t.toNat,by omega⟩
  have e:maskN ((k:Int)::r)=2 ^ k+maskN r:=by simp [maskN]
  have m0:maskN r % 2 ^ (k+1)=0:=jJG r (k+1) h2 fun x hx=>by have:=h1 x hx; omega
  obtain⟨c,hc⟩:∃ c,maskN r=2 ^ (k+1)*c:=(Nat.dvd_of_mod_eq_zero m0)
  have hor:2 ^ k+maskN r=maskN r|||2 ^ k:=by
   rw[hc,Nat.mul_comm,<- Nat.shiftLeft_eq,Nat.shiftLeft_add_eq_or_of_lt (b:=2 ^ k) (i:=k+1) (gu (by decide) (by omega)) c |>.symm,jg]
  rw[e,hor,bH,ih,cB]
  by_cases hk:k=n
  ·subst hk
   simp
  ·have:¬ ((n:Int)=(k:Int)):=by omega
   simp [hk,this]
end L2
end
section
namespace L2
open PySem
section
variable {X:Cx}{tg iter elt:Expr}{ifs:List Expr}{sc:Scope}{pos:Pos}{wi:TI}{g:TG}{tt:TT}{te:TE}{m:List (Option Nat)}{Nc:List Str}
theorem jPK (hc:X.calm=true)(hi:PI X tg iter wi)(hkind:sc.kind= .function)(hcell:∀ y∈sc.names,y.2≠ .cell)(hnames:∀ y∈sc.names,y.2= .local->sc.names.lookup y.1=some .local)
  (hfree:∀ y∈sc.names,y.2= .free->X.env.scope.names.lookup y.1=some .cell\/X.env.scope.names.lookup y.1=some .free) (hm:jBW X sc Nc m)
  (hg:∀ cl C fp s H,PG (blk X sc cl C Nc fp s H) tg g) (ht:∀ cl C fp s H,PTs (blk X sc cl C Nc fp s H) ifs tt) (he:∀ cl C fp s H,PE (blk X sc cl C Nc fp s H) elt te)
  (hs:∀ x,foldedSetIterable iter X.env x=pure x) {fpos:Pos}{use:Option (Value->Sem Unit)}{R:Value->Shared->Prop}{pins:List (Addr×Obj)}{s:Shared}{σ:St}{H:Hp}{Q:VK}(I:Inv X pins σ H s) (h:tComp m wi g tt te σ H Q)
  (fin:∀ (D C:Addr) (H5:Hp) (z1:Shared) (r:Flow),(∃ mm,z1.heap.Ns C mm)->FpOk X pins H5 C->(∀ h',Heap.SameBut C z1.heap h'->Inv X pins σ H5 { z1 with heap:=h'})->Q (.ref D) H5->compPost (model X.prog X.w) X.A X.xe use R (.ref D) C (.ok r) z1):
  wpAny (model X.prog X.w) X.A (comprehension (.ListComp elt [⟨tg,iter,ifs,0⟩] sc pos) sc X.env fpos (newList []) false (eval iter X.env) use) R X.xe s:=
 jG1 (tf:=fun _=>te) hc hi hkind hcell hnames hfree hm hg ht (fun cl C fp s H _ _ _ _=>he cl C fp s H) hs I h fin
theorem jR8 {i:Nat}{x:Str}{pos' spos:Pos}(hN:X.N.Nodup)(hi':X.N[i]?=some x)(hx:Loc X.env.scope x)(hf:X.fn x=true\/X.env.scope.names.lookup x=some .local)(hsw:swapsWith (.ListComp elt [⟨tg,iter,ifs,0⟩] sc pos) (some (.Name x pos')) spos.line X.env=pure true)
  (hc:X.calm=true) (hi:PI X tg iter wi) (hkind:sc.kind= .function) (hcell:∀ y∈sc.names,y.2≠ .cell) (hnames:∀ y∈sc.names,y.2= .local->sc.names.lookup y.1=some .local)
  (hfree:∀ y∈sc.names,y.2= .free->X.env.scope.names.lookup y.1=some .cell\/X.env.scope.names.lookup y.1=some .free) (hm:jBW X sc Nc m)
  (hg:∀ cl C fp s H,PG (blk X sc cl C Nc fp s H) tg g) (ht:∀ cl C fp s H,PTs (blk X sc cl C Nc fp s H) ifs tt) (he:∀ cl C fp s H,PE (blk X sc cl C Nc fp s H) elt te)
  (hs:∀ x,foldedSetIterable iter X.env x=pure x):PS X (.Assign [.Name x pos'] (.ListComp elt [⟨tg,iter,ifs,0⟩] sc pos) spos) (tAsg (tComp m wi g tt te) (kL i)):=by
 intro pins s σ H D I h
 rw[exec_Assign_Name_used _ _ _ _ hsw]
 refine ab (eG (ab ?_))
 show wpAny _ _ (do let _ <- comprehension (.ListComp elt [⟨tg,iter,ifs,0⟩] sc pos) sc X.env _ (newList []) false (eval iter X.env) (some (assign (.Name x pos') X.env))) _ _ _
 refine ab (cr (jPK (R:=fun _ s'=>SP X pins D .next s') hc hi hkind hcell hnames hfree hm hg ht he hs ⟨I.ok,I.os,I.bare,I.base,I.loc,I.cell,I.free,I.freeC,I.pin,I.hok,I.len⟩ h ?_) (fun _ s' hq=>ah (ah hq)) fun _ _ e=>e)
 intro D' C H5 z1 r ⟨mm,hn⟩ fC sb q
 have I1:=sb _ (Heap.SameBut.refl C z1.heap)
 refine wpAny_assign_Name (jGA (v:= .ref D') I1 hN hi' hx rfl (fun s2 I2 ⟨a,sa,ha⟩=>?_) hf)
 obtain⟨f0,f1,f2,f3,f4,f5⟩:=fC
 have hCa:C≠a:=by
  rcases ha with rfl | ha
  ·exact f1
  ·exact(f4 _ _ ha).symm
 refine⟨mm,hn.sameBut sa hCa,fun h' sb2=>⟨_,H5,?_,q⟩⟩
 refine I2.call' (s':= { s2 with heap:=h'}) (ch:=[C]) rfl ?_ (I2.hok.sameBut sb2 f0) I2.bare (fun b hb=>?_)
 ·have ne:∀ {b:Addr},b∉ [C]->b≠C:=fun h e=>h (by rw[e]; exact aO.mpr rfl)
  refine⟨fun b o e n hf hx=>(sb2.2 b (ne hx)).trans e,fun b o e n hf hx=>⟨o.slots,(sb2.2 b (ne hx)).trans e⟩,fun b o e n hx=>n,fun b o e hx=>⟨o,(sb2.2 b (ne hx)).trans e⟩,fun b xs e=>e,fun b o u e=>e,fun b ps e=>⟨#[],by rw[Array.append_empty]; exact e⟩⟩
 ·cases aO.mp hb
  exact⟨f3,f1,f4,f5⟩
end
section
variable {X:Cx}
structure SwC (e:Expr)(x:Str)(pos' spos:Pos)(X:Cx):Prop where
 h:swapsWith e (some (.Name x pos')) spos.line X.env=pure true
theorem jI1 {i:Nat}{x:Str}{pos' spos pos:Pos}{tg iter elt:Expr}{ifs:List Expr}{sc:Scope}{wi:TI}{g:TG}{tt:TT}{te:TE}{m:List (Option Nat)}{Nc:List Str}(hN:X.N.Nodup)(hi':X.N[i]?=some x)(hx:Loc1 X x)(hsw:SwC (.ListComp elt [⟨tg,iter,ifs,0⟩] sc pos) x pos' spos X)
  (hc:X.calm=true) (hi:JI X tg iter wi) (hkind:sc.kind= .function) (hcell:∀ y∈sc.names,y.2≠ .cell) (hnames:∀ y∈sc.names,y.2= .local->sc.names.lookup y.1=some .local)
  (hfree:∀ y∈sc.names,y.2= .free->X.env.scope.names.lookup y.1=some .cell\/X.env.scope.names.lookup y.1=some .free) (hm:jBW X sc Nc m)
  (hg:∀ cl C fp s H,JG (blk X sc cl C Nc fp s H) tg g) (ht:∀ cl C fp s H,JTs (blk X sc cl C Nc fp s H) ifs tt) (he:∀ cl C fp s H,JE (blk X sc cl C Nc fp s H) elt te)
  (hs:FoOk iter):JS X (.Assign [.Name x pos'] (.ListComp elt [⟨tg,iter,ifs,0⟩] sc pos) spos) (tAsg (tComp m wi g tt te) (kL i)):=
 ⟨jR8 hN hi' hx.a hx.b hsw.h hc hi.h hkind hcell hnames hfree hm (fun cl C fp s H=>(hg cl C fp s H).h) (fun cl C fp s H=>(ht cl C fp s H).h) (fun cl C fp s H=>(he cl C fp s H).h) (hs.h _)⟩
end
end L2
end
section
namespace L2
open PySem PySem.Spec PyProof.Rows
section
variable {prog:Program}{w:World}{A:Around}{E:Value->Shared->Prop}
end
section
variable {X:Cx}
end
section
variable {prog:Program}{w:World}{A:Around}{E:Value->Shared->Prop}{s:Shared}
end
end L2
namespace L2
open PySem PySem.Spec PyProof.Rows
section
variable {X:Cx}{x:Str}{C:Addr}{W:Hp->Prop}{e:Expr}{t:TA}{np cpos pos:Pos}
end
end L2
namespace L2
open PySem PySem.Spec PyProof.Rows
end L2
namespace L2
open PySem PySem.Spec PyProof.Rows
section
variable {M:Model}{A:Around}{E:Value->Shared->Prop}{h:Heap}{g:Array GenState}{d:Drawn}{tk:Nat}{os:OsState}
end
end L2
namespace L2
open PySem PySem.Spec PyProof.Rows
end L2
namespace L2
open PySem PySem.Spec PyProof.Rows
section
variable {X:Cx}{pins:List (Addr×Obj)}{σ:List (Option V)}{H H':Hp}{s:Shared}{h':Heap}
end
end L2
namespace L2
open PySem PySem.Spec PyProof.Rows
section
variable {X:Cx}{pins:List (Addr×Obj)}{σ:St}{H H':Hp}{s:Shared}{h2:Heap}{x C T T':Addr}
end
section
variable {X:Cx}{pins:List (Addr×Obj)}{σ:St}{H:Hp}{s:Shared}{x:Addr}
end
section
variable {M:Model}{A:Around}{E:Value->Shared->Prop}{s:Shared}{x C T:Addr}{Q:Unit->Shared->Prop}
end
section
variable {X:Cx}{y n g c:Str}{i j k:Nat}{f B C:Addr}{fd:FuncData}{ps:List Str}{sp:Sp}{e r:Expr}{es:List Expr}{t:TA}{te:Addr->TE}{yp gp cp ap np rp hp tp:Pos}
end
section
variable {prog:Program}{w:World}{A:Around}{E:Value->Shared->Prop}{s:Shared}
end
section
variable {X:Cx}{tg:Expr}
end
section
variable {X:Cx}{tg iter elt:Expr}{ifs:List Expr}{sc:Scope}{pos:Pos}{wi:TI}{g:TG}{tt:TT}{te:TE}{m:List (Option Nat)}{Nc:List Str}
end
section
variable {X:Cx}{k:Nat}{f a:Addr}{fd:FuncData}{ps:List Str}{sp:Addr->Sp}{x:Str}{p pos:Pos}{e:Expr}{es:List Expr}{t:TA}
end
section
variable {CX:CXT}{P:Program}{w:World}{K:W.Frag}{mg:Str->Option Value}{base:Heap}{N:List Str}{qual:Str}{sc:Scope}{f:Addr}{cdv:Value}{A:Around}{outer:List Env}{s:Shared}{H:Hp}{E:XK}{x:Str}
end
section
variable {X:Cx}{e:Expr}{es:List Expr}{t:TA}{a:Addr}{p pos:Pos}
end
section
variable {X:Cx}{y n g c:Str}{i j k:Nat}{f B C:Addr}{fd:FuncData}{ps:List Str}{sp:Sp}{e:Expr}{es:List Expr}{t:TA}{te t1:TEX}{yp gp cp ap np rp hp tp pos:Pos}
end
def nfP (x q:Str)(args:Arguments)(body:List Stmt)(scope:Scope)(cl:List (Str×Addr))(a c:Addr):Heap->Prop:=fun h=>∃ doc pm ctv,h.get? a=some (fnMade x q args body scope cl doc pm c ctv)
def ncP (q:Str)(c:Addr):Heap->Prop:=fun h=>h.CodeRec (.ref c) q
abbrev onePs (pos:Pos)(c:Addr):Array Value:=#[rawInt pos.line,rawInt pos.col, .ref c]
def TabOk (H:Hp)(T:Addr)(pos:Pos)(q:Str):Prop:=H T=some (.tbl #[])\/∃ c,H T=some (.tbl (onePs pos c))/\H c=some (.ext (ncP q c))
def ExtT (T:Addr)(H H':Hp):Prop:=∀ b o,H b=some o->b≠T->H' b=some o
def BltAt (base:Heap)(mg:Str->Option Value):Prop:=∃ bm o,mg "__builtins__" =some (.ref bm)/\bm≠builtinsNs/\bm≠mainGlobals/\base.get? bm=some o/\o.cls= .type "module" /\o.dict=some builtinsNs/\o.data= .plain
theorem nfP.stay {x q:Str}{args:Arguments}{body:List Stmt}{scope:Scope}{cl:List (Str×Addr)}{a c:Addr}(h1 h2:Heap)(p:nfP x q args body scope cl a c h1)(k:∀ o,h1.get? a=some o->h2.get? a=some o):nfP x q args body scope cl a c h2:=by
 obtain⟨d,m,t,e⟩:=p
 exact⟨d,m,t,k _ e⟩
theorem ncP.stay {q:Str}{c:Addr}(h1 h2:Heap)(p:ncP q c h1)(k:∀ o,h1.get? c=some o->h2.get? c=some o):ncP q c h2:=by
 obtain⟨c',o,vs,t,e,g,r⟩:=p
 cases e
 exact⟨c,o,vs,t,rfl,k _ g,r⟩
theorem ncP.is {q:Str}{c:Addr}{h:Heap}(p:ncP q c h):∃ o,h.get? c=some o:=by
 obtain⟨c',o,vs,t,e,g,r⟩:=p
 cases e
 exact⟨o,g⟩
def tDef (x q:Str)(args:Arguments)(body:List Stmt)(scope:Scope)(cl:List (Str×Addr))(T:Addr)(pos:Pos)(j:Nat):TS:=fun D σ H=>TabOk H T pos q/\∀ a c H',H' a=some (.ext (nfP x q args body scope cl a c))->H' c=some (.ext (ncP q c))->H' T=some (.tbl (onePs pos c))->ExtT T H H'->H a=none->D.nx (σ.set j (some (.ref a))) H'
section
variable {X:Cx}{pins:List (Addr×Obj)}{σ:St}{H:Hp}{s:Shared}
theorem Inv.laidX {h':Heap}{t':Nat}{φ:Heap->Prop}{a:Addr}(I:Inv X pins σ H s)(k:∀ b u,s.heap.get? b=some u->h'.get? b=some u)(hp:s.heap.objs.size<=a)(p:φ h')(ho:∃ o,h'.get? a=some o)(st:∀ h1 h2:Heap,φ h1->(∀ o,h1.get? a=some o->h2.get? a=some o)->φ h2):Inv X pins σ (upd H a (.ext φ)) { s with heap:=h',toks:=t'} :=
 I.laid k hp ⟨p,ho,st⟩
theorem Inv.grown {h':Heap}{t':Nat}{T c:Addr}{ps more:Array Value}{φ:Heap->Prop}(I:Inv X pins σ H s)(hT:H T=some (.tbl ps))(k:Heap.ExtBut T s.heap h')(e:h'.get? T=some { cls:= .none,data:= .fields (ps++more)})
  (hc:s.heap.objs.size<=c) (p:φ h') (ho:∃ o,h'.get? c=some o) (st:∀ h1 h2:Heap,φ h1->(∀ o,h1.get? c=some o->h2.get? c=some o)->φ h2):Inv X pins σ (upd (upd H T (.tbl (ps++more))) c (.ext φ)) { s with heap:=h',toks:=t'} :=by
 have hcn:H c=none:=I.hok.fresh hc
 have nT:∀ {b:Addr},H b=none->b≠T:=fun n z=>by rw[z,hT] at n; cases n
 have cT:T≠c:=fun z=>by rw[z,hcn] at hT; cases hT
 have nc:∀ {b:Addr}{o:Obj},s.heap.get? b=some o->b≠c:=fun q z=>absurd (aA q) (by rw[z]; exact Nat.not_lt.mpr hc)
 have mc:∀ {b:Addr}{o:HO},H b=some o->b≠c:=fun q=>jA q hcn
 refine I.un ⟨fun b o q n _ _=>k b o (nT n) q,fun b o q n _ _=>⟨o.slots,k b o (nT n) q⟩,fun b o q n _=>by rw[j9 (nc q),j9 (nT n)]; exact n,fun b o q _=>?_,fun b xs q=>?_,fun b o u q=>?_,fun b qs q=>?_⟩ fun b o q=>?_
 ·by_cases hb:b=T
  ·rw[hb]; exact⟨_,e⟩
  ·exact⟨o,k b o hb q⟩
 ·rw[j9 (mc q),j9 (fun z=>by rw[z,hT] at q; cases q)]; exact q
 ·rw[j9 (mc q),j9 (fun z=>by rw[z,hT] at q; cases q)]; exact q
 ·by_cases hb:b=T
  ·subst hb
   rw[hT] at q
   cases q
   exact⟨more,by rw[j9 cT,j5]⟩
  ·exact⟨#[],by rw[j9 (mc q),j9 hb,q]; simp⟩
 ·by_cases hb1:b=c
  ·subst hb1
   rw[j5] at q
   cases q
   exact⟨p,ho,st⟩
  rw[j9 hb1] at q
  by_cases hb:b=T
  ·subst hb
   rw[j5] at q
   cases q
   exact e
  ·rw[j9 hb] at q
   refine(I.hok b o q).stay (fun d u hd z=>k d u ?_ z) (fun d z=>?_) fun d xs z=>?_
   ·rcases hd with rfl | hd
    ·exact hb
    ·exact fun y=>by rw[y,hT] at hd; cases hd
   ·rw[j9 (mc z),j9 (fun y=>by rw[y,hT] at z; cases z)]; exact z
   ·rw[j9 (mc z),j9 (fun y=>by rw[y,hT] at z; cases z)]; exact z
theorem jTO {x:Str}{args:Arguments}{body:List Stmt}{scope:Scope}{pos:Pos}{c0 T:Addr}{j:Nat}(hN:X.N.Nodup)(hj:X.N[j]?=some x)(lx:Loc X.env.scope x)(hcode:X.env.code= .ref c0)(CH:PySem.W.CodeHd X.base c0 T)(hbm:BltAt X.base X.mg)
  (hfree:∀ y∈scope.names,y.2= .free->X.env.scope.names.lookup y.1=some .cell\/X.env.scope.names.lookup y.1=some .free) (hdf:defaultsOf args X.env=([],[])) (han:annTrees args none X.env=[])
  (hf:X.fn x=true\/X.env.scope.names.lookup x=some .local:=by first | exact .inl rfl | exact .inr rfl | assumption):
  PS X (.FunctionDef x args body [] none [] scope none x pos) (tDef x (qualnameIn X.env x x) args body scope (jN X.env.cells scope.names []) T pos j):=by
 intro pins s σ H D I h
 obtain⟨tab,h⟩:=h
 rw[exec_def,hdf,han]
 refine ab (eG (ab (bJ ?_)))
 refine ab (ah (ab (bJ (ah (bJ (ab (ah ?_)))))))
 have hcl:closureFor scope X.env=pure (jN X.env.cells scope.names []):=jII fun y hy hz=>I.ok.has y.1 (hfree y hy hz)
 have hg:s.heap.Ns mainGlobals X.mg:=I.mod.glob.keeps I.bk
 have C:=CH.keeps I.bk
 have gT:∀ {ps:Array Value},H T=some (.tbl ps)->mainGlobals≠T:=fun hT z=>by
  obtain⟨o,es,ep,e,_⟩:=I.mod.glob
  have:=(I.bs _ _ e).2
  rw[z,hT] at this
  cases this
 have bT:∀ {ps:Array Value},H T=some (.tbl ps)->s.heap.BuiltinsAt X.mg T:=fun hT=>by
  obtain⟨bm,o,h1,h2,h3,h4,h5,h6,h7⟩:=hbm
  refine⟨bm,o,h1,h2,h3,fun z=>?_,(I.bs _ _ h4).1,h5,h6,h7⟩
  have:=(I.bs _ _ h4).2
  rw[z,hT] at this
  cases this
 rcases tab with hT | ⟨c,hT,hc⟩
 ·refine PySem.W.makeFunction_K hcl I.ok.glob hg hcode C (I.hok T _ hT) trivial rfl (gT hT) (bT hT) fun c ctv doc h' tk k1 k2 k3 k4 k5=>?_
  obtain⟨oc,hoc⟩:=ncP.is (q:=qualnameIn X.env x x) k4
  have I1:Inv X pins σ (upd (upd H T (.tbl (#[]++onePs pos c))) c (.ext (ncP (qualnameIn X.env x x) c))) { s with heap:=h',toks:=tk} :=I.grown hT k1 k5 k2 k4 ⟨oc,hoc⟩ ncP.stay
  have I2:=I1.laidX (t':=tk) (a:=h'.objs.size) (φ:=nfP x (qualnameIn X.env x x) args body scope (jN X.env.cells scope.names []) h'.objs.size c) (h':=h'.push (fnMade x (qualnameIn X.env x x) args body scope (jN X.env.cells scope.names []) doc ((X.mg "__name__").getD .none) c ctv)) (fun b u q=>af _ q) (ao _) ⟨doc,_,ctv,ax _ rfl⟩ ⟨_,ax _ rfl⟩ nfP.stay
  have hcn:H c=none:=I.hok.fresh k2
  have han:H h'.objs.size=none:=I.hok.fresh (bb k2 (dC k3))
  have ca:c≠h'.objs.size:=aS k3
  have Tc:T≠c:=fun z=>by rw[z,hcn] at hT; cases hT
  have Ta:T≠h'.objs.size:=fun z=>by rw[z,han] at hT; cases hT
  refine ab (eG (ab (wpAny_bindName (jDD (v:= .ref h'.objs.size) I2 hN hj lx rfl (fun s' I'=>ah ⟨_,_,I',?_⟩) hf))))
  refine h _ c _ j5 (by rw[j9 ca,j5]) (by rw[j9 Ta,j9 Tc,j5,jd]) (fun b o e n=>?_) han
  rw[j9 (jA e han),j9 (jA e hcn),j9 n]
  exact e
 ·refine PySem.W.makeFunction_hit (cv:= .ref c) hcl I.ok.glob hg hcode C (I.hok T _ hT) (by exact trivial) (by simp [codeAmong,rawInt]) (bT hT) fun ctv doc h' tk k1 k2=>?_
  have I2:=I.laidX (t':=tk) (a:=h'.objs.size) (φ:=nfP x (qualnameIn X.env x x) args body scope (jN X.env.cells scope.names []) h'.objs.size c) (h':=h'.push (fnMade x (qualnameIn X.env x x) args body scope (jN X.env.cells scope.names []) doc ((X.mg "__name__").getD .none) c ctv)) (fun b u q=>af _ (k1 b u q)) k2 ⟨doc,_,ctv,ax _ rfl⟩ ⟨_,ax _ rfl⟩ nfP.stay
  have han:H h'.objs.size=none:=I.hok.fresh k2
  refine ab (eG (ab (wpAny_bindName (jDD (v:= .ref h'.objs.size) I2 hN hj lx rfl (fun s' I'=>ah ⟨_,_,I',?_⟩) hf))))
  refine h _ c _ j5 (by rw[j9 (jA hc han)]; exact hc) (by rw[j9 (jA hT han)]; exact hT) (fun b o e n=>?_) han
  rw[j9 (jA e han)]
  exact e
end
theorem jGS {β:Type}{x:Str} :∀ {l:List (Str×β)},(∀ v,(x,v)∉l)->l.lookup x=none
 | [],_=>rfl
 | (y,v)::r,h=>by
  rw[bB,cY.mpr (fun e=>h v (by rw[e]; exact aE))]
  exact jGS fun w hw=>h w (aK _ hw)
theorem jCZ {β:Type}{x:Str} :∀ {l m:List (Str×β)},(l++m).lookup x=(l.lookup x).or (m.lookup x)
 | [],_=>rfl
 | (y,v)::r,m=>by
  rw[iq,bB,bB,jCZ]
  cases x==y <;> rfl
theorem jES:∀ {ps:List Str}{us:List Value}{i:Nat}{x:Str}{u:Value},ps.Nodup->ps[i]?=some x->us[i]?=some u->(ps.zip us).reverse.lookup x=some u
 | [],_,_,_,_,_,h,_=>by simp at h
 | _::_,[],_,_,_,_,_,h=>by simp at h
 | p::ps,w::us,0,x,u,nd,h1,h2=>by
  simp at h1 h2
  subst h1 h2
  rw[eC,List.reverse_cons,jCZ,jGS fun v hv=>(cD.mp nd).1 (dN (List.mem_reverse.mp hv)).1,bB,io]
  rfl
 | p::ps,w::us,i+1,x,u,nd,h1,h2=>by
  rw[eC,List.reverse_cons,jCZ,jES (i:=i) (cD.mp nd).2 (by simpa using h1) (by simpa using h2)]
  rfl
def cxN (P:Program)(w:World)(K:W.Frag)(mg:Str->Option Value)(base:Heap)(N:List Str)(qual:Str)(scope:Scope)(f:Addr)(cd:Value)(cl:List (Str×Addr))(A:Around)(outer:List Env)(s:Shared)(H:Hp):Cx where
 prog:=P
 w:=w
 K:=K
 mg:=mg
 base:=base
 A:=A.deeper (envX qual scope s.heap.objs.size f cd cl)
 N:=N
 s₀:=s
 H₀:=H
 env:=envX qual scope s.heap.objs.size f cd cl
 outer:=outer
 stack:=envX qual scope s.heap.objs.size f cd cl::outer
 ex:=[]
 calm:=true
 fn:=fun _=>false
 pn:=[]
 xe:=fun _ _=>False
structure ClOk (cl:List (Str×Addr))(s:Shared)(H:Hp):Prop where
 inj:∀ x y c,cl.lookup x=some c->cl.lookup y=some c->x=y
 cell:∀ x c,cl.lookup x=some c->(∃ v,s.heap.IsCell c v)/\H c=none
def FvOk (fs:List Str)(fv:List V)(cl:List (Str×Addr))(s:Shared):Prop:=fv.length=fs.length/\∀ (i:Nat) (x:Str) (v:V),fs[i]?=some x->fv[i]?=some v->∃ c u,cl.lookup x=some c/\RelV v u/\s.heap.IsCell c (some u)
structure NScope (N ps fs:List Str)(sc:Scope):Prop where
 kind:sc.kind= .function
 co:sc.isCoroutine=false
 gen:sc.isGenerator=false
 nd:N.Nodup
 pre:N.take (ps.length+fs.length)=ps++fs
 par:∀ x∈ps,sc.names.lookup x=some .local
 fre:∀ x∈fs,sc.names.lookup x=some .free
 all:∀ x,sc.names.lookup x=some .free->x∈fs
 nocell:∀ y∈sc.names,y.2≠ .cell
def jBN (N:List Str)(vs fv:List V):St:=y4 N (vs++fv)
section
variable {P:Program}{w:World}{K:W.Frag}{mg:Str->Option Value}{base:Heap}{N ps fs:List Str}{qual:Str}{scope:Scope}{f:Addr}{cd:Value}{cl:List (Str×Addr)}{A:Around}{outer:List Env}{s:Shared}{H:Hp}{us:List Value}{vs fv:List V}
theorem jEZ {h1:Heap}{tk:Nat}(S:NScope N ps fs scope)(hd:A.handled=none)(e0:Env0 P w K mg base A outer s H)(hl:us.length=ps.length)(r:Vals vs us)(C:ClOk cl s H)(Fv:FvOk fs fv cl s)
  (ns:h1.Ns s.heap.objs.size fun x=>(ps.zip us).reverse.lookup x) (hk:∀ b o,s.heap.get? b=some o->h1.get? b=some o):
  Inv (cxN P w K mg base N qual scope f cd cl A outer s H) [] (jBN N vs fv) H { s with heap:=h1,toks:=tk} :=by
 have hpl:ps.length+fs.length<=N.length:=by have:=bN List.length S.pre; rw[bA,aB] at this; omega
 have noA:∀ b:Addr,b∉(cxN P w K mg base N qual scope f cd cl A outer s H).ex:=fun b z=>absurd (show b∈([]:List Addr) from z) (by simp)
 have vl:vs.length=ps.length:=r.length.trans hl
 refine⟨⟨e0.mod,S.kind,rfl,rfl,ao _,C.inj,fun y hy=>?_,fun y c z=>(nomatch z),fun _=>hd,Around.frames_deeper e0.frames, .inr ⟨rfl,rfl⟩,fun b z=>absurd z (noA b),e0.bs,e0.bsz,fun b _ _=>noA b,fun b z=>absurd z (noA b),e0.funs,e0.frf⟩,
  rfl,e0.bare,Un.kept hk,⟨_,ns,fun i y v h1' h2 h3=>?_⟩,fun y c h=>?_,e0.hok.fresh (ao _),fun y c h=>(C.cell y c h).2,fun p hp=>absurd (show p∈([]:List (Addr×Obj)) from hp) (by simp),e0.hok.kept hk,?_⟩
 ·have hy:scope.names.lookup y=some .cell\/scope.names.lookup y=some .free:=hy
  rcases hy with hy | hy
  ·exact absurd rfl (S.nocell _ (ck hy))
  ·have m:=S.all y hy
   obtain⟨i,hi⟩:=bF m
   have hi2:i<fv.length:=by rw[Fv.1]; exact(ai.mp hi).1
   obtain⟨c,u,e,_⟩:=Fv.2 i y fv[i] hi (by simp [hi2])
   exact⟨c,e⟩
 ·have h1':N[i]?=some y:=h1'
  have hlen:(vs++fv).length=ps.length+fs.length:=by rw[aB,vl,Fv.1]
  have hi:i<(vs++fv).length:=by
   unfold jBN y4 at h2
   by_cases hi:i<(vs++fv).length
   ·exact hi
   ·rw[aY (by simpa using hi)] at h2
    rw[ij] at h2
    split at h2 <;> cases h2
  have hv:(vs++fv)[i]?=some v:=by
   unfold jBN y4 at h2
   rw[bK (by simpa using hi),aN] at h2
   cases e:(vs++fv)[i]? with
   | none=>rw[e] at h2; cases h2
   | some a=>rw[e] at h2; cases h2; rfl
  have hy:(ps++fs)[i]?=some y:=by
   rw[<- S.pre,cg (by omega)]
   exact h1'
  by_cases hi1:i<ps.length
  ·rw[bK hi1] at hy
   rw[bK (by omega)] at hv
   obtain⟨u,hu,rv⟩:=r.get hv
   have ndP:ps.Nodup:=by
    have:(ps++fs).Nodup:=by rw[<- S.pre]; exact S.nd.sublist (dw _ _)
    exact(dU.mp this).1
   exact⟨u,rv, .inl ⟨S.par y (az hy),jES ndP hy hu⟩⟩
  ·rw[aY (by omega)] at hy
   rw[aY (by omega),vl] at hv
   obtain⟨c,u,e,rv,o,ho,hd⟩:=Fv.2 _ y v hy hv
   exact⟨u,rv, .inr ⟨.inr (S.fre y (az hy)),c,e,o,hk _ _ ho,hd⟩⟩
 ·obtain⟨⟨v,o,ho,hd⟩,_⟩:=C.cell y c h
  exact⟨v,o,hk _ _ ho,hd⟩
 ·unfold jBN y4
  show _=N.length
  rw[aB,ae,iO,aB,vl,Fv.1]
  omega
end
structure FnN (P:Program)(w:World)(K:W.Frag)(mg:Str->Option Value)(base:Heap)(k:Nat)(x q:Str)(args:Arguments)(body:List Stmt)(scope:Scope)(ps fs:List Str)(sp:List V->Sp):Prop where
 len:∀ fv vs H Q E,sp fv vs H Q E->vs.length=ps.length
 run:∀ (A:Around) (outer:List Env) (s:Shared) (H:Hp) (a c:Addr) (cl:List (Str×Addr)) (us:List Value) (vs fv:List V) (Q:VK) (E:XK),Room k A->Env0 P w K mg base A outer s H->nfP x q args body scope cl a c s.heap->ncP q c s.heap->ClOk cl s H->FvOk fs fv cl s->Vals vs us->sp fv vs H Q E->
  codeAny (model P w) A (.call (.ref a) ⟨us,[]⟩) (CR CX0 outer P w H s Q E) s
theorem jQL {P:Program}{w:World}{K:W.Frag}{mg:Str->Option Value}{base:Heap}{k:Nat}{x q:Str}{args:Arguments}{body:List Stmt}{scope:Scope}{N ps fs:List Str}{sp:List V->Sp}(S:NScope N ps fs scope)(len:∀ fv vs H Q E,sp fv vs H Q E->vs.length=ps.length)
  (hb:∀ cl doc pm c ctv (us:List Value),us.length=ps.length->bindArgs (PySem.W.fnX x q args body scope cl .none .none doc pm none (.ref c) ctv) ⟨us,[]⟩=pure (ps.zip us))
  (hbody:∀ (A:Around) (outer:List Env) (s:Shared) (H:Hp) (a c:Addr) (cl:List (Str×Addr)) (vs fv:List V) (Q:VK) (E:XK),Room k (A.deeper (envX q scope s.heap.objs.size a (.ref c) cl))->sp fv vs H Q E->
   ∃ t,PSs (cxN P w K mg base N q scope a (.ref c) cl A outer s H) body t/\t { nx:=fun _ H'=>Q .non H',rt:=Q} (jBN N vs fv) H):
  FnN P w K mg base (k+1) x q args body scope ps fs sp:=by
 refine⟨len,fun A outer s H a c cl us vs fv Q E hr e0 hf hc C Fv r hsp=>?_⟩
 have hl:us.length=ps.length:=r.length.symm.trans (len _ _ _ _ _ hsp)
 obtain⟨doc,pm,ctv,ho⟩:=hf
 have lim:s.heap.NoLimit:=e0.mod.nolimit.keeps fun b o e=>(e0.bs b o e).1
 refine codeAny_call_def (body:=body) (binds:=ps.zip us) hr.depth ho rfl lim hc rfl (.of_eq (hb cl doc pm c ctv us hl)) S.nocell (fun y hy=>S.par y.1 (dN hy).1) (fun h1 ns hk=>?_) S.co S.gen S.kind
 obtain⟨t,ht,hq⟩:=hbody A outer s H a c cl vs fv Q E (hr.deeper _) hsp
 have I:Inv (cxN P w K mg base N q scope a (.ref c) cl A outer s H) [] (jBN N vs fv) H { s with heap:=h1,toks:=s.toks+(ps.zip us).length} :=jEZ S hr.hd e0 hl r C Fv ns hk
 refine cr (ht [] _ (jBN N vs fv) H _ I hq) (fun fl s' hs=>?_) fun e s' hs=>False.elim hs
 have fin:∀ {σ':St}{H':Hp}{v:V}{u:Value},Inv (cxN P w K mg base N q scope a (.ref c) cl A outer s H) [] σ' H' s'->RelV v u->Q v H'->CE outer P w H s Q u s':=
  fun {σ' H' v u} J rv q=>⟨v,H',J.os,J.bare,J.base,J.hok,rv,q⟩
 cases fl with
 | ret u=>
  obtain⟨v,σ',H',J,rv,q⟩:=hs
  exact fin J rv q
 | next=>
  obtain⟨σ',H',J,q⟩:=hs
  exact fin (v:=V.non) (u:=Value.none) J rfl q
 | brk=>
  obtain⟨_,_,_,q⟩:=hs
  exact False.elim q
 | cont=>
  obtain⟨_,_,_,q⟩:=hs
  exact False.elim q
def jF9 (σ:St)(is:List Nat)(fv:List V):Prop:=is.map (fun i=>(σ[i]?).getD none)=fv.map some
def tNest (σ0:Option St)(j:Nat)(is:List Nat)(x q:Str)(args:Arguments)(body:List Stmt)(scope:Scope)(cl:List (Str×Addr))(sp:List V->Sp)(t:TA):TE:=fun σ H Q=>∃ a,σ[j]?=some (some (.ref a))/\t σ H fun vs H1=>∃ c fv,H1 a=some (.ext (nfP x q args body scope cl a c))/\H1 c=some (.ext (ncP q c))/\jF9 (σ0.getD σ) is fv/\sp fv vs H1 Q E0
section
variable {X:Cx}{pins:List (Addr×Obj)}{σ:St}{H:Hp}{s:Shared}{fs:List Str}{fv:List V}{is:List Nat}{scope:Scope}
def FsAt (X:Cx)(fs:List Str)(is:List Nat):Prop:=is.length=fs.length/\∀ (k:Nat) (x:Str),fs[k]?=some x->∃ i,is[k]?=some i/\X.N[i]?=some x/\(X.env.scope.names.lookup x=some .cell\/X.env.scope.names.lookup x=some .free)
theorem Inv.clOk (I:Inv X pins σ H s)(hfree:∀ y∈scope.names,y.2= .free->X.env.scope.names.lookup y.1=some .cell\/X.env.scope.names.lookup y.1=some .free):ClOk (jN X.env.cells scope.names []) s H:=by
 have sub:∀ x c,(jN X.env.cells scope.names []).lookup x=some c->X.env.cells.lookup x=some c:=jAG scope.names [] (fun y hy hf=>I.ok.has y.1 (hfree y hy hf)) (fun x c e=>by cases e)
 exact⟨fun x y c h1 h2=>I.ok.inj x y c (sub x c h1) (sub y c h2),fun x c h=>⟨I.cell x c (sub x c h),I.freeC x c (sub x c h)⟩⟩
theorem Inv.fvOk (I:Inv X pins σ H s)(hfree:∀ y∈scope.names,y.2= .free->X.env.scope.names.lookup y.1=some .cell\/X.env.scope.names.lookup y.1=some .free)(hfs:∀ x∈fs,scope.names.lookup x=some .free)(ha:FsAt X fs is)(hs:jF9 σ is fv):FvOk fs fv (jN X.env.cells scope.names []) s:=by
 have hl:fv.length=fs.length:=by
  have:=bN List.length hs
  rw[ae,ae] at this
  rw[<- this,ha.1]
 refine⟨hl,fun k x v h1 h2=>?_⟩
 obtain⟨i,hi,hN,hk⟩:=ha.2 k x h1
 have e:(σ[i]?).getD none=some v:=by
  have:=bN (fun l=>l[k]?) hs
  simp only [aN,hi,h2,map_some] at this
  exact bg this
 have e2:σ[i]?=some (some v):=by
  cases q:σ[i]? with
  | none=>rw[q] at e; cases e
  | some z=>rw[q] at e; exact bN some e
 obtain⟨m,hn,hl⟩:=I.loc
 obtain⟨u,r,l⟩:=hl i x v hN e2 (.inr hk)
 obtain⟨c,hc⟩:=jAV (cells:=X.env.cells) (x:=x) scope.names [] (.inl (jAT (hfs x (az h1))))
 have sub:=jAG (cells:=X.env.cells) scope.names [] (fun y hy hf=>I.ok.has y.1 (hfree y hy hf)) (fun x c e=>by cases e) x c hc
 rcases l with ⟨lk,_⟩ | ⟨_,c',hc',z⟩
 ·have lk':X.env.scope.names.lookup x=some .local:=lk
  rcases hk with z | z <;> rw[lk'] at z <;> cases z
 ·rw[sub] at hc'
  cases hc'
  exact⟨c,u,hc,r,z⟩
end
section
variable {X:Cx}{k:Nat}{x q:Str}{args:Arguments}{body:List Stmt}{scope:Scope}{ps fs:List Str}{is:List Nat}{sp:List V->Sp}{p pos:Pos}{e:Expr}{es:List Expr}{t:TA}{j:Nat}
theorem jIZ {Y:Cx}{pins:List (Addr×Obj)}{σ:St}{H:Hp}{s:Shared}{Q:VK}{cl:List (Str×Addr)}{a c:Addr}{us:List Value}{vs fv:List V}(F:FnN Y.prog Y.w Y.K Y.mg Y.base k x q args body scope ps fs sp)(hr:Room k Y.A)(I:Inv Y pins σ H s)(h1:H a=some (.ext (nfP x q args body scope cl a c)))(h2:H c=some (.ext (ncP q c)))(C:ClOk cl s H)(Fv:FvOk fs fv cl s)(r:Vals vs us)(hs:sp fv vs H Q E0):
  wpAny (model Y.prog Y.w) Y.A (call (.ref a) us) (EP Y pins σ Q) Y.xe s:=by
 obtain⟨p1,_,_⟩:=(show ObjOk Y.prog Y.w H s.heap a (.ext _) from I.hok a _ h1)
 obtain⟨p2,_,_⟩:=(show ObjOk Y.prog Y.w H s.heap c (.ext _) from I.hok c _ h2)
 refine ix (dQ (F.run Y.A Y.stack s H a c cl us vs fv Q E0 hr I.env0 p1 p2 C Fv r hs) fun r s' hq=>?_)
 cases r with
 | error e=>exact hq.elim
 | ok fl=>
  cases fl with
  | ret u=>exact I.after hq
  | next=>exact False.elim hq
  | brk=>exact False.elim hq
  | cont=>exact False.elim hq
theorem jNC {Y:Cx}{pins:List (Addr×Obj)}{σ:St}{H:Hp}{s:Shared}{cl:List (Str×Addr)}{a c:Addr}(I:Inv Y pins σ H s)(h1:H a=some (.ext (nfP x q args body scope cl a c))):PySem.W.FnAt a s.heap:=by
 obtain⟨⟨d,m,t,e⟩,_,_⟩:=(show ObjOk Y.prog Y.w H s.heap a (.ext _) from I.hok a _ h1)
 exact⟨_,_,_,_,e⟩
theorem jSK (F:FnN X.prog X.w X.K X.mg X.base k x q args body scope ps fs sp)(hr:Room k X.A)(hN:X.N[j]?=some x)(hv:Vis1 X x)(hfree:∀ y∈scope.names,y.2= .free->X.env.scope.names.lookup y.1=some .cell\/X.env.scope.names.lookup y.1=some .free)(hfs:∀ x∈fs,scope.names.lookup x=some .free)(hat:FsAt X fs is)
  (ha:JA X (e::es) t) (he:starEach (e::es) X.env=(false,eval e X.env)::starEach es X.env) (hdb:(x==("__debug__" :Str))=false:=by decide) (hcd:(x==("__classdict__" :Str))=false:=by decide) (hpl:(backTo pos (starEach es X.env)).any (·.1)=false:=by rfl):
  JE X (.Call (.Name x p) (e::es) [] pos) (tNest none j is x q args body scope (jN X.env.cells scope.names []) sp t):=by
 refine⟨fun pins s σ H Q I h=>?_⟩
 obtain⟨a,hj,h⟩:=h
 refine cE (thn (jGK (pos:=p) hN hv.a hdb hcd pins s σ H (fun v H'=>v= .ref a/\H'=H) I ⟨_,hj,rfl,rfl⟩) fun v s1 ⟨v',H1,I1,r1,q1,q2⟩=>?_)
 subst q1 q2
 cases (show v=Value.ref a from r1)
 have hX:=thn (ha.h pos pins s1 σ H1 _ I1 h) fun us s2 (z:AP X pins σ _ us s2)=>show PySem.W.FnAt a s2.heap/\wpAny (model X.prog X.w) X.A (call (.ref a) ([]++us)) (EP X pins σ Q) X.xe s2 from by
  obtain⟨vs,H2,I2,r,c,fv,h1,h2,h3,h4⟩:=z
  exact⟨jNC I2 h1,jIZ F hr I2 h1 h2 (I2.clOk hfree) (I2.fvOk hfree hfs hat h3) r h4⟩
 rw[he] at hX ⊢
 exact gB (by show ((false || (backTo pos (starEach es X.env)).any (·.1)) || false)=false; rw[hpl]; rfl) iK (eL hX)
theorem jP5 {sc:Scope}{cl:List (Str×Addr)}{C:Addr}{Nc:List Str}{fp:List Addr}{s0:Shared}{H0:Hp}{pins0:List (Addr×Obj)}{σ0:St}(I0:Inv X pins0 σ0 H0 s0)(hfp:∀ b∈fp,FpOk X pins0 H0 b)
  (F:FnN X.prog X.w X.K X.mg X.base k x q args body scope ps fs sp) (hr:Room k X.A) (hN:Nc[j]?=some x) (hv:Vis1 (blk X sc cl C Nc fp s0 H0) x) (hfree:∀ y∈scope.names,y.2= .free->X.env.scope.names.lookup y.1=some .cell\/X.env.scope.names.lookup y.1=some .free) (hfs:∀ x∈fs,scope.names.lookup x=some .free) (hat:FsAt X fs is)
  (ha:JA (blk X sc cl C Nc fp s0 H0) (e::es) t) (he:starEach (e::es) (blk X sc cl C Nc fp s0 H0).env=(false,eval e (blk X sc cl C Nc fp s0 H0).env)::starEach es (blk X sc cl C Nc fp s0 H0).env) (hdb:(x==("__debug__" :Str))=false:=by decide) (hcd:(x==("__classdict__" :Str))=false:=by decide) (hpl:(backTo pos (starEach es (blk X sc cl C Nc fp s0 H0).env)).any (·.1)=false:=by rfl):
  JE (blk X sc cl C Nc fp s0 H0) (.Call (.Name x p) (e::es) [] pos) (tNest (some σ0) j is x q args body scope (jN X.env.cells scope.names []) sp t):=by
 have sub:∀ x c,(jN X.env.cells scope.names []).lookup x=some c->X.env.cells.lookup x=some c:=jAG scope.names [] (fun y hy hf=>I0.ok.has y.1 (hfree y hy hf)) (fun x c e=>by cases e)
 have nfp:∀ {x c},X.env.cells.lookup x=some c->c∉fp:=fun {x c} h z=>(hfp c z).2.2.2.2.1 x c h rfl
 refine⟨fun pins s σ H Q I h=>?_⟩
 obtain⟨a,hj,h⟩:=h
 refine cE (thn (jGK (pos:=p) (show (blk X sc cl C Nc fp s0 H0).N[j]?=some x from hN) hv.a hdb hcd pins s σ H (fun v H'=>v= .ref a/\H'=H) I ⟨_,hj,rfl,rfl⟩) fun v s1 ⟨v',H1,I1,r1,q1,q2⟩=>?_)
 subst q1 q2
 cases (show v=Value.ref a from r1)
 have hX:=thn (ha.h pos pins s1 σ H1 _ I1 h) fun us s2 (z:AP (blk X sc cl C Nc fp s0 H0) pins σ _ us s2)=>show PySem.W.FnAt a s2.heap/\wpAny (model X.prog X.w) X.A (call (.ref a) ([]++us)) (EP (blk X sc cl C Nc fp s0 H0) pins σ Q) (blk X sc cl C Nc fp s0 H0).xe s2 from by
  obtain⟨vs,H2,I2,r,c,fv,h1,h2,h3,h4⟩:=z
  have un:Un (frs X.stack) fp H0 H2 s0.heap s2.heap:=I2.base
  have cellK:∀ {y d v},X.env.cells.lookup y=some d->s0.heap.IsCell d v->s2.heap.IsCell d v:=fun {y d v} hd ⟨o,ho,hq⟩=>by
   obtain⟨sl,e⟩:=un.any ho (I0.freeC y d hd) (nfp hd)
   exact⟨_,e,hq⟩
  have C0:=I0.clOk hfree
  obtain⟨f1,f2⟩:=I0.fvOk hfree hfs hat h3
  refine⟨jNC I2 h1,jIZ (Y:=blk X sc cl C Nc fp s0 H0) F hr I2 h1 h2 ⟨C0.inj,fun y d hd=>?_⟩ ⟨f1,fun i y v e1 e2=>?_⟩ r h4⟩
  ·obtain⟨⟨v,z⟩,n⟩:=C0.cell y d hd
   obtain⟨o,ho,hq⟩:=id z
   exact⟨⟨v,cellK (sub y d hd) z⟩,un.free d o ho n (nfp (sub y d hd))⟩
  ·obtain⟨d,u,g1,g2,g3⟩:=f2 i y v e1 e2
   exact⟨d,u,g1,g2,cellK (sub y d g1) g3⟩
 rw[he] at hX ⊢
 exact gB (by show ((false || (backTo pos (starEach es (blk X sc cl C Nc fp s0 H0).env)).any (·.1)) || false)=false; rw[hpl]; rfl) iK (eL hX)
end
def jPX (m:List (Option Nat))(wi:TI)(g:TG)(tt:TT)(te:St->TE):TE:=fun σ H Q=>wi σ H (qL m g tt (te σ) σ Q)
section
variable {X:Cx}{tg iter elt:Expr}{ifs:List Expr}{sc:Scope}{pos:Pos}{wi:TI}{g:TG}{tt:TT}{te:St->TE}{m:List (Option Nat)}{Nc:List Str}
theorem jOK (hc:X.calm=true)(hi:PI X tg iter wi)(hkind:sc.kind= .function)(hcell:∀ y∈sc.names,y.2≠ .cell)(hnames:∀ y∈sc.names,y.2= .local->sc.names.lookup y.1=some .local)
  (hfree:∀ y∈sc.names,y.2= .free->X.env.scope.names.lookup y.1=some .cell\/X.env.scope.names.lookup y.1=some .free) (hm:jBW X sc Nc m)
  (hg:∀ cl C fp s H,PG (blk X sc cl C Nc fp s H) tg g) (ht:∀ cl C fp s H,PTs (blk X sc cl C Nc fp s H) ifs tt) (he:∀ cl C fp s H pins σ,Inv X pins σ H s->(∀ b∈fp,FpOk X pins H b)->PE (blk X sc cl C Nc fp s H) elt (te σ))
  (hs:∀ x,foldedSetIterable iter X.env x=pure x:=by intro _; rfl):PE X (.ListComp elt [⟨tg,iter,ifs,0⟩] sc pos) (jPX m wi g tt te):=by
 intro pins s σ H Q I h
 rw[eval_ListComp]
 exact jG1 (tf:=te) (use:=none) hc hi hkind hcell hnames hfree hm hg ht he hs I h (fun D C H5 z1 r ⟨mm,hn⟩ fC sb q=>⟨mm,hn,fun h' s2=>⟨.ref D,H5,sb h' s2,rfl,q⟩⟩)
theorem jP8 (hc:X.calm=true)(hi:JI X tg iter wi)(hkind:sc.kind= .function)(hcell:∀ y∈sc.names,y.2≠ .cell)(hnames:∀ y∈sc.names,y.2= .local->sc.names.lookup y.1=some .local)
  (hfree:∀ y∈sc.names,y.2= .free->X.env.scope.names.lookup y.1=some .cell\/X.env.scope.names.lookup y.1=some .free) (hm:jBW X sc Nc m)
  (hg:∀ cl C fp s H,JG (blk X sc cl C Nc fp s H) tg g) (ht:∀ cl C fp s H,JTs (blk X sc cl C Nc fp s H) ifs tt) (he:∀ cl C fp s H pins σ,Inv X pins σ H s->(∀ b∈fp,FpOk X pins H b)->JE (blk X sc cl C Nc fp s H) elt (te σ))
  (hs:FoOk iter):JE X (.ListComp elt [⟨tg,iter,ifs,0⟩] sc pos) (jPX m wi g tt te):=⟨jOK hc hi.h hkind hcell hnames hfree hm (fun cl C fp s H=>(hg cl C fp s H).h) (fun cl C fp s H=>(ht cl C fp s H).h) (fun cl C fp s H pins σ I f=>(he cl C fp s H pins σ I f).h) (hs.h _)⟩
end
def jV8 (Ts:List Addr)(H:Hp):Prop:=∀ b,H b=none\/(∃ o xs,H b=some (.frz o (.lst xs)))\/b∈Ts
theorem jKJ {cts:List (Addr×Addr)}{P:Program}{w:World}{K:W.Frag}{mg mb:Str->Option Value}{CX:CXT}{k:Nat}{fa a:Addr}{fd:FuncData}{x:Str}{sp:Sp}{s₁:Shared}{vs:List Value}{ns:List Int}
  (KX:K.In s₁.heap) (hns:s₁.heap.Ns mainGlobals mg) (hb:s₁.heap.Ns builtinsNs mb) (hbb:∀ x:Str,x≠ "__name__" ->mb x=bootBuiltins x) (hlim:s₁.heap.NoLimit) (hg:s₁.gens=#[])
  (ha:s₁.heap.get? a=some { cls:= .type "list",data:= .seq vs.toArray}) (hi:IntsAre vs ns) (hl:ns.length<=sizeLine) (hr:Room k callerA) (hT:∀ T∈cts.map (·.2),s₁.heap.get? T=some (tabObj #[])) (CH:∀ p∈cts,PySem.W.CodeHd s₁.heap p.1 p.2) (hKT:∀ T∈cts.map (·.2),K.lookup T=none)
  (F:∀ base:Heap,K.In base->base.Ns mainGlobals mg->FnOk P w K mg base CX k fa fd [x] sp) (hbind:∀ (s:Shared) (u:Value),BindsTo s fd ⟨[u],[]⟩ [(x,u)])
  (hsp:∀ H:Hp,(∀ T∈cts.map (·.2),H T=some (.tbl #[]))->SqL K H a (ns.map V.int)->sp [.ref a] H (fun v _=>v= .bl true) fun _ _ _=>False)
  (hCX:∀ H e s',CX [] H s₁ (fun _ _ _=>False) e s'->False):
  codeAny (model P w) callerA (.call (.ref fa) ⟨[.ref a],[]⟩) (fun r s'=>r= .ok (.ret (.bool true))/\OldK s₁.heap s'.heap/\s'.os=s₁.os/\AllBare s'.gens) s₁:=by
 have rv:=jG8 hi
 have lenV:=hi.length
 have core:∀ H:Hp,jV8 (cts.map (·.2)) H->(∀ T∈cts.map (·.2),H T=some (.tbl #[]))->SqL K H a (ns.map V.int)->HOk P w H s₁.heap->(∀ b,H b≠none->b=a\/b∈cts.map (·.2))->(H a≠none->K.lookup a=none)->
   codeAny (model P w) callerA (.call (.ref fa) ⟨[.ref a],[]⟩) (fun r s'=>r= .ok (.ret (.bool true))/\OldK s₁.heap s'.heap/\s'.os=s₁.os/\AllBare s'.gens) s₁:=by
  intro H hO hHT hS hok hA hK
  have base_of:∀ {b:Addr}{o:Obj},s₁.heap.get? b=some o->H b=none->(hidT s₁.heap H).get? b=some o:=fun e n=>jPD e n
  have noA:∀ {b:Addr}{o:Obj}{es:Array DictEntry}{ep:Nat},s₁.heap.get? b=some o->o.data= .dict es ep->H b=none:=fun {b o es ep} e d=>by
   cases q:H b with
   | none=>rfl
   | some u=>
    rcases hA b (by rw[q]; simp) with e' | e'
    ·subst e'
     rw[ha] at e; cases e
     have d':Data.seq vs.toArray _=Data.dict es ep:=d
     cases d'
    ·rw[hT b e'] at e; cases e
     have d':Data.fields _=Data.dict es ep:=d
     cases d'
  have nsK:∀ {b:Addr}{m:Str->Option Value},s₁.heap.Ns b m->(hidT s₁.heap H).Ns b m:=fun {b m} ⟨o,es,ep,e,d,r⟩=>⟨o,es,ep,base_of e (noA e d),d,r⟩
  have hKb:K.In (hidT s₁.heap H):=fun b o e=>base_of (KX b o e) (by
   cases q:H b with
   | none=>rfl
   | some u=>
    rcases hA b (by rw[q]; simp) with e' | e'
    ·subst e'
     rw[hK (by rw[q]; simp)] at e; cases e
    ·rw[hKT b e'] at e; cases e)
  have hM:Mod K mg (hidT s₁.heap H):=⟨hKb,nsK hns,⟨mb,nsK hb,hbb⟩,let ⟨mc,h1,h2⟩:=hlim; ⟨mc,nsK h1,h2⟩⟩
  have e0:Env0 P w K mg (hidT s₁.heap H) callerA [] s₁ H:=⟨rfl,hM,fun b o e=>jS7 e,Nat.le_of_eq (jN5 _ _),trivial,fun b hb=>absurd (show b∈([]:List Addr) from hb) (by simp),hok, .of_eq hg⟩
  refine dQ ((F _ hKb (nsK hns)).run callerA [] s₁ H ⟨[.ref a],[]⟩ [.ref a] [.ref a] _ _ hr e0 (hbind s₁ (.ref a)) (.cons rfl .nil) (hsp H hHT hS)) fun r s' h=>?_
  cases r with
  | error e=>exact(hCX H e s' h).elim
  | ok fl=>
   cases fl with
   | next=>exact False.elim h
   | brk=>exact False.elim h
   | cont=>exact False.elim h
   | ret u=>
    obtain⟨v,H',os,bare,un,hok',r',q⟩:=h
    have q':v= .bl true:=q
    subst q'
    obtain rfl:u=Value.bool true:=r'
    have gr:∀ T∈cts.map (·.2),∃ more,s'.heap.get? T=some (tabObj (#[]++more)):=fun T hTm=>by
     obtain⟨more,z⟩:=un.tbls T _ (hHT T hTm)
     exact⟨more,hok' T _ z⟩
    have kp:∀ b o,b∉cts.map (·.2)->s₁.heap.get? b=some o->s'.heap.get? b=some o:=fun b o hbT e=>?_
    ·refine⟨rfl,⟨fun b o e=>?_,fun b o e=>?_⟩,os,bare⟩
     ·by_cases hb:b∈cts.map (·.2)
      ·obtain⟨p,hp,rfl⟩:=aP.mp hb
       have q:=hT _ hb
       rw[q] at e
       cases e
       obtain⟨more,z⟩:=gr _ hb
       exact .inr (.inl ⟨((CH p hp).tab q).isCodeTable,rfl,#[],more,rfl,z⟩)
      ·exact .inl (kp b o hb e)
     ·by_cases hb:b∈cts.map (·.2)
      ·obtain⟨more,z⟩:=gr _ hb
       exact⟨_,z⟩
      ·exact⟨o,kp b o hb e⟩
    cases q:H b with
    | none=>exact un.keep b o e q (by intro z; exact absurd (show b∈([]:List Addr) from z) (by simp)) (by simp)
    | some u=>
     rcases hO b with z | ⟨ob,xs,z⟩ | z
     ·rw[q] at z; cases z
     ·have z2:=un.frzs b ob _ z
      obtain⟨e1,_⟩:=hok b _ z
      obtain⟨e2,_⟩:=hok' b _ z2
      rw[e] at e1; cases e1
      exact e2
     ·exact absurd z hbT
 have aT:a∉cts.map (·.2):=fun z=>by rw[hT a z] at ha; cases ha
 cases hk:K.lookup a with
 | some o=>
  have e:=KX a o hk
  rw[ha] at e
  cases e
  refine core (fun b=>if b∈cts.map (·.2) then some (.tbl #[]) else none) (fun b=>?_) (fun T hm=>aq hm) (.inr ⟨_,vs.toArray,_,hk,rfl,rfl,rfl,by rw[ag,lenV]; exact hl,by simpa using rv⟩) (fun b u z=>?_) (fun b z=>?_) fun z=>absurd (am aT) z
  ·by_cases hb:b∈cts.map (·.2)
   ·exact .inr (.inr hb)
   ·exact .inl (am hb)
  ·by_cases hb:b∈cts.map (·.2)
   ·have z':=(aq hb).symm.trans z
    cases z'
    exact hT b hb
   ·have z':=(am hb).symm.trans z
    cases z'
  ·by_cases hb:b∈cts.map (·.2)
   ·exact .inr hb
   ·exact absurd (am hb) z
 | none=>
  refine core (fun b=>if b∈cts.map (·.2) then some (.tbl #[]) else if b=a then some (.frz { cls:= .type "list",data:= .seq vs.toArray} (.lst (ns.map V.int))) else none) (fun b=>?_) (fun T hm=>aq hm) (.inl (.inr ⟨{ cls:= .type "list",data:= .seq vs.toArray},by dsimp only; rw[am aT,aq rfl]⟩)) (fun b u z=>?_) (fun b z=>?_) fun _=>hk
  ·by_cases hT':b∈cts.map (·.2)
   ·exact .inr (.inr hT')
   ·by_cases hb:b=a
    ·exact .inr (.inl ⟨_,_,by dsimp only; rw[am hT',aq hb]⟩)
    ·exact .inl (by dsimp only; rw[am hT',am hb])
  ·dsimp only at z
   by_cases hT':b∈cts.map (·.2)
   ·rw[aq hT'] at z
    cases z
    exact hT b hT'
   ·rw[am hT'] at z
    by_cases hb:b=a
    ·rw[aq hb] at z
     cases z
     subst hb
     exact⟨ha,by rw[ae]; exact hl,vs,_,rv,ha⟩
    ·rw[am hb] at z
     cases z
  ·replace z:(if b∈cts.map (·.2) then some (HO.tbl #[]) else if b=a then some (HO.frz { cls:= .type "list",data:= .seq vs.toArray} (.lst (ns.map V.int))) else none)≠none:=z
   by_cases hT':b∈cts.map (·.2)
   ·exact .inr hT'
   ·by_cases hb:b=a
    ·exact .inl hb
    ·rw[am hT',am hb] at z
     exact absurd rfl z
theorem walk_ofTs {cts:List (Addr×Addr)}{l:PySem.W.OpenLaw}{n k:Nat}{q:Program}{loose:List Str}{XP:(Str->Option Value)->Heap->Prop}{YP:World->Heap->Prop}{d:DefRec}{K:Params->W.Frag}{CX:World->CXT}{sp:World->Sp}{x:Str}
  (hn:l.most=some n) (hn2:n<=sizeLine) (hdf:d.params.defaults=[]) (hr:Room k callerA)
  (hY:∀ (w:World) (h:Heap),YP w h->(K w.params).In h/\∀ T∈cts.map (·.2),h.get? T=some (tabObj #[])) (hcd:∀ w:World,∀ p∈cts,codeHdIn (K w.params) p.1 p.2=true) (hKT:∀ w:World,∀ T∈cts.map (·.2),(K w.params).lookup T=none)
  (F:∀ (w:World) (mg:Str->Option Value) (fa:Addr) (h:Heap),(K w.params).In h->h.Ns mainGlobals mg->mg d.name=some (.ref fa)->
   ∃ fd:FuncData,(∀ (s:Shared) (u:Value),BindsTo s fd ⟨[u],[]⟩ [(x,u)])/\
    ∀ base:Heap,(K w.params).In base->base.Ns mainGlobals mg->FnOk l.prog w (K w.params) mg base (CX w) k fa fd [x] (sp w))
  (hsp:∀ (w:World) (H:Hp) (a:Addr) (ns:List Int),ns.length<=n->(∀ T∈cts.map (·.2),H T=some (.tbl #[]))->SqL (K w.params) H a (ns.map V.int)->sp w [.ref a] H (fun v _=>v= .bl true) fun _ _ _=>False)
  (hCX:∀ (w:World) (H:Hp) (s:Shared) (e:Value) (s':Shared),CX w [] H s (fun _ _ _=>False) e s'->False):
  PySem.W.WalkO q loose XP YP l.row.toRowW d [] (fun f vs=>PySem.call f vs):=by
 refine Att.attach_call hn hdf fun w s₀ s₁ mg mb fa o pm cd doc a vs ns G Y ho hd _ hmg hobj hints hlen hg=>?_
 obtain⟨KX,hT⟩:=hY w _ Y
 obtain⟨fd,hb,hF⟩:=F w mg fa _ KX G.T.g hmg
 exact jKJ KX G.T.g G.T.b G.T.builtins G.T.nolimit hg hobj hints (bb hlen hn2) hr hT (fun p hp=>eZ KX (hcd w p hp)) (hKT w) hF hb (fun H hO hS=>hsp w H a ns hlen hO hS) fun H e s'=>hCX w H s₁ e s'
open PySem.AutoSeq1 (wpAny_loadPart')
section
variable {prog:Program}{w:World}{A:Around}{E:Value->Shared->Prop}{s:Shared}
theorem jPI {tp:Bool}{e it l:Addr}{i:Nat}{xs:Array Value}{x old:Value}{Q:Value->Shared->Prop}(ee:IsEnum s.heap e it i old)(g1:ItAt tp s.heap it l i)(o1:ObAt tp s.heap l xs)(hx:xs[i]?=some x)(ne:e≠it)
  (k:∀ h',IsEnumOut h' e it ((i:Int)+1) x s.heap.objs.size->ItAt tp h' it l (i+1)->h'.get? s.heap.objs.size=some { cls:= .type "tuple",data:= .seq #[.int i s.toks,x]} ->h'.objs.size=s.heap.objs.size+1->
   (∀ c o,c≠e->c≠it->s.heap.get? c=some o->h'.get? c=some o)->Q (.ref s.heap.objs.size) { s with heap:=h',toks:=s.toks+1}):
  wpAny (model prog w) A (Builtin.«enumerate.__next__» ⟨[.ref e],[]⟩) (fun fin s'=>∃ v,fin= .done (.ret v)/\Q v s') E s:=by
 obtain⟨hp,g,d,tk,os⟩:=s
 show wpAny (model prog w) A (field (.ref e) 2 >>= _) _ _ _
 refine ab (dS ee rfl (x:= .ref it) rfl (ab (next1 g1 o1 hx fun p1 r1 q1=>?_)))
 have q1:Heap.SameBut it hp p1:=q1
 have e1:IsEnum p1 e it i old:=(q1.2 e ne).trans ee
 show wpAny (model prog w) A (field (.ref e) 3 >>= _) _ _ ⟨p1,g,d,tk,os⟩
 refine ab (dS e1 rfl (x:=rawInt i) rfl (?_:wpAny (model prog w) A (field (.ref e) 4 >>= _) _ _ ⟨p1,g,d,tk,os⟩))
 refine ab (dS e1 rfl (x:= .none) rfl (?_:wpAny (model prog w) A (mkInt i >>= _) _ _ ⟨p1,g,d,tk,os⟩))
 refine ab (wpAny_mkInt (?_:wpAny (model prog w) A (setField (.ref e) 3 (rawInt ((i:Int)+1)) >>= _) _ _ ⟨p1,g,d,tk+1,os⟩))
 refine ab (cF e1 (by simp) fun p2 e2 q2=>?_)
 have q2:Heap.SameBut e p1 p2:=q2
 have e2:IsEnum p2 e it ((i:Int)+1) old:=e2
 show wpAny (model prog w) A (setField (.ref e) 4 .none >>= _) _ _ ⟨p2,g,d,tk+1,os⟩
 refine ab (cF e2 (by simp) fun p3 e3 q3=>?_)
 have q3:Heap.SameBut e p2 p3:=q3
 have e3:IsEnum p3 e it ((i:Int)+1) old:=e3
 show wpAny (model prog w) A (newTuple [.int i tk,x] >>= _) _ _ ⟨p3,g,d,tk+1,os⟩
 refine ab (wpAny_newTuple ?_)
 have e4:IsEnum (p3.push { cls:= .type "tuple",data:= .seq #[.int i tk,x]}) e it ((i:Int)+1) old:=af _ e3
 have sz:p3.objs.size=hp.objs.size:=by rw[q3.1,q2.1,q1.1]
 have lt:e<hp.objs.size:=aA ee
 have t4:(p3.push { cls:= .type "tuple",data:= .seq #[.int i tk,x]}).get? hp.objs.size=some { cls:= .type "tuple",data:= .seq #[.int i tk,x]} :=by rw[<- sz]; exact ax _ rfl
 have z4:(p3.push { cls:= .type "tuple",data:= .seq #[.int i tk,x]}).objs.size=hp.objs.size+1:=by rw[dG,sz]
 have k4:∀ c o,c≠e->c≠it->hp.get? c=some o->(p3.push { cls:= .type "tuple",data:= .seq #[.int i tk,x]}).get? c=some o:=fun c o n1 n2 v=>af _ (q3.extBut c o n1 (q2.extBut c o n1 (q1.extBut c o n2 v)))
 have r4:ItAt tp (p3.push { cls:= .type "tuple",data:= .seq #[.int i tk,x]}) it l (i+1):=((r1.but q2.extBut ne.symm).but q3.extBut ne.symm).at fun o v=>af _ v
 generalize p3.push { cls:= .type "tuple",data:= .seq #[.int i tk,x]} =p4 at e4 t4 z4 k4 r4 ⊢
 show wpAny (model prog w) A (Builtin.SmallTypes.ownedTupleIsFree (.ref e) >>= _) _ _ ⟨p4,g,d,tk+1,os⟩
 rw[sz]
 refine ab (by
  unfold Builtin.SmallTypes.ownedTupleIsFree
  refine ab (dS e4 rfl (x:= .none) rfl (ah ?_))
  simp only [gj]
  refine ab (de (ab (dS e4 rfl (x:=old) rfl (ab (cF e4 (by simp) fun p5 e5 q5=>?_)))))
  have q5:Heap.SameBut e p4 p5:=q5
  have e5:IsEnum p5 e it ((i:Int)+1) x:=e5
  refine ab (m:=Builtin.SmallTypes.ownedTupleHandOut (.ref e) (.ref hp.objs.size)) ?_
  unfold Builtin.SmallTypes.ownedTupleHandOut
  refine ab (cF e5 (by simp) fun p6 e6 q6=>?_)
  have q6:Heap.SameBut e p5 p6:=q6
  have e6:IsEnumOut p6 e it ((i:Int)+1) x hp.objs.size:=e6
  refine cF e6 (by simp) fun p7 e7 q7=>?_
  have q7:Heap.SameBut e p6 p7:=q7
  have e7:IsEnumOut p7 e it ((i:Int)+1) x hp.objs.size:=e7
  have up:∀ c o,c≠e->p4.get? c=some o->p7.get? c=some o:=fun c o n v=>q7.extBut _ _ n (q6.extBut _ _ n (q5.extBut _ _ n v))
  exact ab (wpAny_letGo (ah ⟨_,rfl,k p7 e7 (r4.at fun o v=>up _ o ne.symm v) (up _ _ (dD lt) t4) (by rw[q7.1,q6.1,q5.1,z4]) fun c o n1 n2 v=>up c o n1 (k4 c o n1 n2 v)⟩)))
theorem jK7 {tp:Bool}{e it l:Addr}{i:Nat}{xs:Array Value}{x old:Value}{Q:Option Value->Shared->Prop}(ee:IsEnum s.heap e it i old)(g1:ItAt tp s.heap it l i)(o1:ObAt tp s.heap l xs)(hx:xs[i]?=some x)(ne:e≠it)
  (k:∀ h',IsEnumOut h' e it ((i:Int)+1) x s.heap.objs.size->ItAt tp h' it l (i+1)->h'.get? s.heap.objs.size=some { cls:= .type "tuple",data:= .seq #[.int i s.toks,x]} ->h'.objs.size=s.heap.objs.size+1->
   (∀ c o,c≠e->c≠it->s.heap.get? c=some o->h'.get? c=some o)->Q (some (.ref s.heap.objs.size)) { s with heap:=h',toks:=s.toks+1}):
  wpAny (model prog w) A (pyNext (.ref e)) Q E s:=by
 have ty:s.TypeIs (.ref e) "enumerate" :=⟨_,ee,rfl⟩
 unfold pyNext
 exact ab (fh (cH (name:=Str.ofString "__next__") ty F.slot_enumerate_next (cj F.slot_enumerate_next ty F.entry_enumerate_next (jPI ee g1 o1 hx ne fun h' b1 b2 b3 b4 b5=>ah (k h' b1 b2 b3 b4 b5)) (F.args_enumerate_next_1 _))))
theorem jK8 {tp:Bool}{e it l:Addr}{i:Nat}{xs:Array Value}{old:Value}{Q:Option Value->Shared->Prop}(hh:A.handled=none)(ee:IsEnum s.heap e it i old)(g1:ItAt tp s.heap it l i)(o1:ObAt tp s.heap l xs)(hx:xs[i]?=none)
  (k:∀ h',(∀ c o,c≠e->c≠it->s.heap.get? c=some o->h'.get? c=some o)->Q none { s with heap:=h'}):wpAny (model prog w) A (pyNext (.ref e)) Q E s:=by
 have ty:s.TypeIs (.ref e) "enumerate" :=⟨_,ee,rfl⟩
 unfold pyNext
 refine ab (fh (cH (name:=Str.ofString "__next__") ty F.slot_enumerate_next (cj F.slot_enumerate_next ty F.entry_enumerate_next (?_:wpAny (model prog w) _ (field (.ref e) 2 >>= _) _ _ _) (F.args_enumerate_next_1 _))))
 refine ab (dS ee rfl (x:= .ref it) rfl (ab (next0 hh g1 o1 hx fun h' x kp ⟨u,eu,cu⟩=>?_)))
 exact ab (iu (T:= "StopIteration") (b:=true) ⟨u,eu,cu⟩ isSubtype_stop (ah (k _ fun c o _ n v=>kp c o n v)))
end
set_option maxHeartbeats 2000000 in
theorem jMG (tp:Bool)(l:Addr)(xs:Array Value)(u:Obj):
  Meets (Builtin.«enumerate.__new__» ⟨[.type "enumerate", .ref l],[]⟩) (fun _ R s=>s.heap.get? l=some u/\ObAt tp s.heap l xs/\
   R (.ok (.ret (.ref (s.heap.push (iterO tp l)).objs.size))) { s with heap:=(s.heap.push (iterO tp l)).push { cls:= .type "enumerate",data:= .fields #[.none, .bool false, .ref s.heap.objs.size,rawInt 0, .none, .none]}}):=
 .of_wp fun prog w A R s h=>by
  obtain⟨hp,g,d,tk,os⟩:=s
  obtain⟨a0,a1,q⟩:=h
  have sub:=sub_enumerate
  have e1:ObAt tp (Shared.heap ⟨hp,g,d,tk,os⟩) l xs:=a1
  obtain⟨c,dct,dt,sl⟩:=u
  obtain⟨n,hc,hd⟩:∃ n,c=(if tp then .type "tuple" else .type "list")/\dt= .seq xs n:=by
   cases tp with
   | false=>obtain⟨o,e,hc,n,hd⟩:=a1; cases (a0.symm.trans e); exact⟨n,hc,hd⟩
   | true=>obtain⟨o,e,hc,n,hd⟩:=a1; cases (a0.symm.trans e); exact⟨n,hc,hd⟩
  subst hd
  cases tp with
  | false=>
   subst hc
   wp_walk using cy a0
   refine wpAny_stack_any fun _=>ah ?_
   split
   ·rename_i c _ _ _ _ _
    cases hcc:(c==Value.type "enumerate")
    all_goals (wp_walk using cy a0,jFB e1; exact⟨_,rfl,q⟩)
   ·wp_walk using cy a0,jFB e1
    exact⟨_,rfl,q⟩
  | true=>
   subst hc
   wp_walk using cy a0
   refine wpAny_stack_any fun _=>ah ?_
   split
   ·rename_i c _ _ _ _ _
    cases hcc:(c==Value.type "enumerate")
    all_goals (wp_walk using cy a0,jFB e1; exact⟨_,rfl,q⟩)
   ·wp_walk using cy a0,jFB e1
    exact⟨_,rfl,q⟩
theorem jPO {prog:Program}{w:World}{A:Around}{E:Value->Shared->Prop}{s:Shared}{tp:Bool}{l:Addr}{xs:Array Value}{Q:Value->Shared->Prop}(a1:ObAt tp s.heap l xs)
  (k:∀ h',IsEnum h' (s.heap.objs.size+1) s.heap.objs.size 0 .none->ItAt tp h' s.heap.objs.size l 0->(∀ c o,s.heap.get? c=some o->h'.get? c=some o)->Q (.ref (s.heap.objs.size+1)) { s with heap:=h'}):
  wpAny (model prog w) A (call (.type "enumerate") [.ref l]) Q E s:=by
 obtain⟨u,eu⟩:∃ u,s.heap.get? l=some u:=by
  cases tp with
  | false=>obtain⟨o,e,_⟩:=a1; exact⟨o,e⟩
  | true=>obtain⟨o,e,_⟩:=a1; exact⟨o,e⟩
 refine callType_new F.called_enumerate (by decide) (F.typeCall_enumerate_1 _) (F.newCall_enumerate_1 _) (fun obj=>F.args_object_init_2 obj _) F.entry_enumerate_new (jMG tp l xs u) ⟨eu,a1,?_⟩
 have z1:(s.heap.push (iterO tp l)).objs.size=s.heap.objs.size+1:=dG ..
 have y2:IsEnum ((s.heap.push (iterO tp l)).push { cls:= .type "enumerate",data:= .fields #[.none, .bool false, .ref s.heap.objs.size,rawInt 0, .none, .none]}) (s.heap.push (iterO tp l)).objs.size s.heap.objs.size 0 .none:=ax _ rfl
 have y1:((s.heap.push (iterO tp l)).push { cls:= .type "enumerate",data:= .fields #[.none, .bool false, .ref s.heap.objs.size,rawInt 0, .none, .none]}).get? s.heap.objs.size=some (iterO tp l):=af _ (ax _ (jKK _ _))
 show _/\_
 rw[z1] at y2 ⊢
 exact⟨⟨_,y2,rfl⟩,k _ y2 (.new tp y1) fun c o e=>af _ (af _ e)⟩
section
variable {X:Cx}
def Ite (tp:Bool)(K:W.Frag)(l:Addr):It:=
 ⟨fun i H=>∃ xs x,Sq tp K H l xs/\xs[i]?=some x,
  fun i H v H'=>∃ T x,H T=none/\v= .ref T/\H'=upd H T (.tup [.int (i:Int),x])/\∀ xs,Sq tp K H l xs->xs[i]?=some x,
  fun i H=>∃ xs,Sq tp K H l xs/\xs.length<=i⟩
theorem jL2 {P:Program}{w:World}{K:W.Frag}{elts:List Expr}{x1:Nat}{tps:Pos}(tp:Bool)(l e it:Addr)(ne:e≠it):
  Turn P w K (.Tuple elts x1 tps) (Ite tp K l) [e,it] e (fun i h=>(∃ old,IsEnum h e it ((i:Nat):Int) old)/\ItAt tp h it l i) where
 mem:=by simp
 obj:=fun i h st b hb=>by
  obtain⟨⟨old,he⟩,y1⟩:=st
  simp only [aG,bU,eN] at hb
  rcases hb with rfl | rfl
  ·exact⟨_,he,fun v q=>by cases q⟩
  ·exact y1.obj
 keep:=fun i h h' st k=>by
  obtain⟨⟨old,he⟩,h1⟩:=st
  exact⟨⟨old,k e (by simp) _ he⟩,h1.at fun o z=>k it (by simp) o z⟩
 item:=by
  intro X hP hw hK hc i pins s σ H E I hf st hg
  subst hP hw hK
  obtain⟨xs,x,hq1,hx⟩:=hg
  obtain⟨⟨old,he⟩,h1⟩:=st
  obtain⟨its1,r1,p1,_⟩:=I.sq hq1
  obtain⟨u,hu,ru⟩:=r1.get hx
  refine jK7 he h1 p1 (x:=u) (by simpa using hu) ne fun h' a1 a2 a3 a4 a5=>?_
  refine⟨_,rfl,wpAny_letOwnedTupleGo_enum (s:= { s with heap:=h',toks:=s.toks+1}) a1 fun h'' b1 sb=>?_⟩
  have fresh:H s.heap.objs.size=none:=I.fresh
  have ntr:∀ b o,H b=some o->b∉([e,it]:List Addr):=fun b o z hb=>by
   have:=(hf b hb).1
   rw[z] at this; cases this
  have kp:∀ b o,b∉([e,it]:List Addr)->s.heap.get? b=some o->h''.get? b=some o:=fun b o hb z=>by
   simp only [aG,bU,eN,jn] at hb
   exact(sb.2 b hb.1).trans (a5 b o hb.1 hb.2 z)
  have nz:s.heap.objs.size≠e:=dD (aA he)
  have hT2:h''.get? s.heap.objs.size=some { cls:= .type "tuple",data:= .seq #[.int i s.toks,u]} :=(sb.2 _ nz).trans a3
  have I2:Inv X pins σ (upd H s.heap.objs.size (.tup [.int (i:Int),x])) { s with heap:=h'',toks:=s.toks+1} :=by
   refine I.step (g':=s.gens) (d':=s.drawn) (t':=s.toks+1) (ch:=[e,it]) (fun b hb=>?_) (fun b o _ _ hb z _=>kp b o hb z) (fun b o _ _ hb z _=>⟨o.slots,kp b o hb z⟩)
    (fun b o _ z n=>by rw[j9 (aS (aA z))]; exact n) (fun b o hb z=>⟨o,kp b o hb z⟩) (fun b ws z=>by rw[j9 (jA z fresh)]; exact z) (fun b o ws z=>by rw[j9 (jA z fresh)]; exact z)
    (fun b ps z=>⟨#[],by rw[j9 (jA z fresh),z]; simp⟩) (fun m hm=>?_) (fun b o z=>?_) I.bare
   ·obtain⟨f0,f1,f2,f3,f4,f5⟩:=hf b hb
    exact⟨f3,f1,f4,f5⟩
   ·obtain⟨o,es,ep,ho,r⟩:=hm
    exact⟨o,es,ep,kp _ o (fun hb=>(hf _ hb).2.1 rfl) ho,r⟩
   ·by_cases hb:b=s.heap.objs.size
    ·subst hb
     rw[j5] at z
     cases z
     exact⟨by rw[eB]; show 2<=_; decide,[.int i s.toks,u], .cons ⟨_,rfl⟩ (.cons ru .nil),0,hT2⟩
    ·rw[j9 hb] at z
     refine(I.hok b o z).stay (fun c w hc q=>kp c w ?_ q) (fun c q=>by rw[j9 (jA q fresh)]; exact q) (fun c ws q=>by rw[j9 (jA q fresh)]; exact q)
     rcases hc with rfl | hc
     ·exact ntr _ _ z
     ·exact ntr _ _ hc
  refine⟨.ref s.heap.objs.size,_,I2,rfl,⟨_,x,fresh,rfl,rfl,fun xs' q1=>by rw[I.sq_inj q1 hq1]; exact hx⟩,⟨⟨_,b1⟩,?_⟩,fun b hb=>?_⟩
  ·exact a2.at fun o z=>(sb.2 it ne.symm).trans z
  ·rw[j9 (fun q=>by
    obtain⟨o,eo⟩:∃ o,s.heap.get? b=some o:=by
     simp only [aG,bU,eN] at hb
     rcases hb with rfl | rfl
     ·exact⟨_,he⟩
     ·obtain⟨o,z,_⟩:=h1.obj; exact⟨o,z⟩
    exact absurd (aA eo) (by rw[q]; exact cO _))]
   exact(hf b hb).1
 done:=by
  intro X hP hw hK hc i pins s σ H E I hf st hg
  subst hP hw hK
  obtain⟨xs,hq1,hend⟩:=hg
  obtain⟨⟨old,he⟩,h1⟩:=st
  obtain⟨its1,r1,p1,_⟩:=I.sq hq1
  have e1:=r1.length
  refine jK8 (I.ok.hd hc) he h1 p1 (by simp; omega) fun h' kp=>⟨rfl,?_⟩
  have kp2:∀ b o,b∉([e,it]:List Addr)->s.heap.get? b=some o->h'.get? b=some o:=fun b o hb z=>by
   simp only [aG,bU,eN,jn] at hb
   exact kp b o hb.1 hb.2 z
  have ntr:∀ b o,H b=some o->b∉([e,it]:List Addr):=fun b o z hb=>by
   have:=(hf b hb).1
   rw[z] at this; cases this
  refine I.step (g':=s.gens) (d':=s.drawn) (t':=s.toks) (ch:=[e,it]) (fun b hb=>?_) (fun b o _ _ hb z _=>kp2 b o hb z) (fun b o _ _ hb z _=>⟨o.slots,kp2 b o hb z⟩)
   (fun b o _ z n=>n) (fun b o hb z=>⟨o,kp2 b o hb z⟩) (fun b ws z=>z) (fun b o ws z=>z) (fun b ps z=>⟨#[],by rw[z]; simp⟩) (fun m hm=>?_) (fun b o z=>?_) I.bare
  ·obtain⟨f0,f1,f2,f3,f4,f5⟩:=hf b hb
   exact⟨f3,f1,f4,f5⟩
  ·obtain⟨o,es,ep,ho,r⟩:=hm
   exact⟨o,es,ep,kp2 _ o (fun hb=>(hf _ hb).2.1 rfl) ho,r⟩
  ·refine(I.hok b o z).stay (fun c w hc q=>kp2 c w ?_ q) (fun _ q=>q) fun _ _ q=>q
   rcases hc with rfl | hc
   ·exact ntr _ _ z
   ·exact ntr _ _ hc
 self:=fun _ _ _ _ _ st h=>wpAny_pyIter_enum st.1.choose_spec h
def iEnum (K:W.Frag)(ta:TA):TI:=fun σ H R=>ta σ H fun vs H1=>∃ tp l,vs=[.ref l]/\(∃ xs,Sq tp K H1 l xs)/\R (Ite tp K l) H1
theorem jRI {a:Expr}{ta:TA}{p pos:Pos}{elts:List Expr}{x1:Nat}{tp:Pos}(hg:Gl X "enumerate")(hm:X.mg "enumerate" =none)(ha:PA X [a] ta)(hv:bootBuiltins "enumerate" =some (.type "enumerate"):=by decide+kernel)
  (he:starEach [a] X.env=(false,eval a X.env)::starEach [] X.env:=by rfl) (hpl:(backTo pos (starEach [] X.env)).any (·.1)=false:=by rfl):
  PI X (.Tuple elts x1 tp) (.Call (.Name "enumerate" p) [a] [] pos) (iEnum X.K ta):=by
 intro pins s σ H R I h
 refine Call_ (jE7 I hg hm hv (dE (thn (ha pos pins s σ H _ I h) fun us s1 ⟨vs,H1,I1,r1,q1⟩=>?_) he hpl))
 obtain⟨t1,l1,rfl,⟨xs,hq1⟩,q⟩:=q1
 obtain⟨u,rfl,ru⟩:=r1.one
 cases ru
 obtain⟨its1,_,p1,_⟩:=I1.sq hq1
 refine jPO p1 fun h' a1 a2 kp=>?_
 have I2:Inv X pins σ H1 { s1 with heap:=h'} :=I1.kept (t':=s1.toks) kp
 refine wpAny_pyIter_enum a1 ⟨s1.heap.objs.size+1,[s1.heap.objs.size+1,s1.heap.objs.size],_,Ite t1 X.K l1,H1,rfl,I2,jL2 t1 l1 _ _ (Nat.succ_ne_self _),⟨⟨_,a1⟩,a2⟩,fun b hb=>?_,q⟩
 have hge:s1.heap.objs.size<=b:=by
  simp only [aG,bU,eN] at hb
  rcases hb with rfl | rfl
  ·exact Nat.le_add_right _ 1
  ·exact ao _
 exact I1.fpOk hge (I1.hok.fresh hge)
theorem jI4 {a:Expr}{t:TA}{p pos:Pos}{elts:List Expr}{x1:Nat}{tp:Pos}(hg:Gl1 X "enumerate")(hm:X.mg "enumerate" =none)(ha:JA X [a] t)(he:starEach [a] X.env=(false,eval a X.env)::starEach [] X.env)(hv:bootBuiltins "enumerate" =some (.type "enumerate"):=by decide+kernel)
  (hpl:(backTo pos (starEach [] X.env)).any (·.1)=false:=by rfl):JI X (.Tuple elts x1 tp) (.Call (.Name "enumerate" p) [a] [] pos) (iEnum X.K t):=⟨jRI hg.a hm ha.h hv he hpl⟩
end
section
variable {K:W.Frag}{m:List (Option Nat)}{g:TG}{tt:TT}{te:TE}{σ:St}{H1:Hp}{Q:VK}
theorem jH6 {tp:Bool}{l:Addr}{xs:List V}(hn:xs.length<sizeLine)(Pv:Addr->Nat->St->Hp->List V->Prop)(h0:∀ D,H1 D=none->Pv D 0 (blkσ m σ) (upd H1 D (.lst [])) [])
  (hD:∀ D i σ' H' zs,H1 D=none->Pv D i σ' H' zs->Sq tp K H' l xs/\H' D=some (.lst zs)/\zs.length<=i)
  (hs:∀ D i σ' H' zs x T,H1 D=none->xs[i]?=some x->H' T=none->Pv D i σ' H' zs->g (.ref T) σ' (upd H' T (.tup [.int (i:Int),x])) fun σ2 H2=>tt σ2 H2 fun b H3=>if b=true then te σ2 H3 fun v H4=>H4 D=some (.lst zs)/\Pv D (i+1) σ2 (upd H4 D (.lst (zs++[v]))) (zs++[v]) else Pv D (i+1) σ2 H3 zs)
  (hd:∀ D σ' H' zs,H1 D=none->Pv D xs.length σ' H' zs->Q (.ref D) H'):qL m g tt te σ Q (Ite tp K l) H1:=by
 intro D hDn
 refine⟨fun i k σ' H' zs=>k=xs.length - i/\i<=xs.length/\Pv D i σ' H' zs,⟨_,rfl,br _,h0 D hDn⟩,?_⟩
 rintro i k σ' H' zs ⟨rfl,hi,p⟩
 obtain⟨s1,q1,q2⟩:=hD D i σ' H' zs hDn p
 refine⟨q1,by omega,?_⟩
 by_cases hlt:i<xs.length
 ·refine .inr ⟨⟨xs,xs[i],s1,by simp [hlt]⟩,Pv D (i+1),fun σ2 H2 zs z=>⟨xs.length - (i+1),by omega,rfl,hlt,z⟩,fun v H'' y=>?_⟩
  obtain⟨T,x,e1,e2,e3,e4⟩:=y
  subst e2 e3
  exact hs D i σ' _ zs x T hDn (e4 xs s1) e1 p
 ·have e:i=xs.length:=by omega
  subst e
  exact .inl ⟨⟨xs,s1,ao _⟩,hd D σ' H' zs hDn p⟩
end
section
variable {κ:Type} [DecidableEq κ]
def valV (kvs:List (κ×V))(k:κ):Option V:=(kvs.find? fun kv=>decide (kv.1=k)).map (·.2)
def putK (kvs:List (κ×V))(k:κ)(v:V):List (κ×V):=
 if (kvs.any fun kv=>decide (kv.1=k))=true then kvs.map (fun kv=>if kv.1=k then (kv.1,v) else kv) else kvs++[(k,v)]
theorem jBD {p:κ×V}{r:List (κ×V)}{k:κ}(e:p.1=k):valV (p::r) k=some p.2:=by simp [valV,dO,e]
theorem jBE {p:κ×V}{r:List (κ×V)}{k:κ}(e:¬ p.1=k):valV (p::r) k=valV r k:=by simp [valV,dO,e]
theorem jF7 (k:κ):∀ kvs:List (κ×V),(kvs.any fun kv=>decide (kv.1=k))=(valV kvs k).isSome
 | []=>rfl
 | p::r=>by
  rw[gk]
  by_cases e:p.1=k
  ·simp only [jBD e,ar e,Bool.true_or,Option.isSome_some]
  ·rw[jBE e,aH e,hG]; exact jF7 k r
theorem jBZ (kvs:List (κ×V))(k:κ)(v:V):(putK kvs k v).length<=kvs.length+1:=by
 unfold putK
 split
 ·rw[ae]; omega
 ·rw[aB,aR,bZ]; omega
theorem jJ2 {kvs:List (κ×V)}{k:κ}(v:V)(h:valV kvs k=none):putK kvs k v=kvs++[(k,v)]:=by
 unfold putK
 rw[jF7,h]
 exact am (by decide)
theorem RelO.isSome_eq {o:Option V}{u:Option Value}(r:RelO o u):o.isSome=u.isSome:=by
 cases o with
 | none=>cases u with
  | none=>rfl
  | some _=>exact(show False from r).elim
 | some _=>cases u with
  | none=>exact(show False from r).elim
  | some _=>rfl
theorem KV.val {kvs:List (κ×V)}{vs:List (κ×Value)}(r:KV kvs vs)(k:κ):RelO (valV kvs k) (valueAt vs k):=by
 unfold KV at r
 induction r with
 | nil=>exact True.intro
 | @cons p q ps qs h t ih=>
  obtain⟨h1,h2⟩:=h
  by_cases e:p.1=k
  ·have e':q.1=k:=h1.symm.trans e
   have b:valueAt (q::qs) k=some q.2:=by simp [valueAt,dO,e']
   rw[jBD e,b]; exact h2
  ·have e':¬ q.1=k:=fun z=>e (h1.trans z)
   have b:valueAt (q::qs) k=valueAt qs k:=by simp [valueAt,dO,e']
   rw[jBE e,b]; exact ih
theorem KV.any {kvs:List (κ×V)}{vs:List (κ×Value)}(r:KV kvs vs)(k:κ):(kvs.any fun kv=>decide (kv.1=k))=vs.any fun kv=>decide (kv.1=k):=by
 unfold KV at r
 induction r with
 | nil=>rfl
 | cons h t ih=>rw[gk,gk,ih,h.1]
theorem KV.repl {kvs:List (κ×V)}{vs:List (κ×Value)}(r:KV kvs vs)(k:κ){y:V}{u:Value}(ry:RelV y u):
  KV (kvs.map fun kv=>if kv.1=k then (kv.1,y) else kv) (vs.map fun kv=>if kv.1=k then (kv.1,u) else kv):=by
 unfold KV at r ⊢
 induction r with
 | nil=>exact .nil
 | @cons p q ps qs h t ih=>
  rw[bu,bu]
  refine .cons ?_ ih
  obtain⟨h1,h2⟩:=h
  by_cases e:p.1=k
  ·rw[aq e,aq (h1.symm.trans e)]; exact⟨h1,ry⟩
  ·rw[am e,am (fun z=>e (h1.trans z))]; exact⟨h1,h2⟩
theorem KV.put {kvs:List (κ×V)}{vs:List (κ×Value)}(r:KV kvs vs)(k:κ){y:V}{u:Value}(ry:RelV y u):KV (putK kvs k y) (stored vs k u):=by
 unfold putK stored
 rw[r.any k]
 by_cases e:(vs.any fun kv=>decide (kv.1=k))=true
 ·rw[aq e,aq e]; exact r.repl k ry
 ·rw[am e,am e]; exact Paired.snoc r ⟨rfl,ry⟩
theorem KV.keys {kvs:List (κ×V)}{vs:List (κ×Value)}(r:KV kvs vs):kvs.map (·.1)=vs.map (·.1):=by
 unfold KV at r
 induction r with
 | nil=>rfl
 | cons h t ih=>rw[bu,bu,ih,h.1]
theorem KV.length {kvs:List (κ×V)}{vs:List (κ×Value)}(r:KV kvs vs):kvs.length=vs.length:=fe r
end
theorem kV_is {P:Program}{w:World}{k:Key}{u:Value}(r:RelV (kV k) u):(kQ P w).is k u=true:=by
 cases k with
 | inl i=>obtain⟨t,e⟩:=(show ∃ t,u=Value.int i t from r); subst e; exact jHZ P w i t
 | inr x=>obtain⟨t,e⟩:=(show ∃ t,u=Value.str x t from r); subst e; exact jHY P w x t
theorem jGY {P:Program}{w:World} :∀ {ks:List Key}{us:List Value},Vals (ks.map kV) us->ItemsAre (kQ P w) ks us
 | [],_,r=>by rw[iA] at r; cases r; exact .nil
 | k::ks,_,r=>by
  rw[bu] at r
  cases r with
  | cons h t=>exact .cons (kV_is h) (jGY t)
abbrev KT (H:Hp):List (List Key×V)->List (List Key×Addr×Value)->Prop:=Paired fun p q=>p.1=q.1/\H q.2.1=some (.tup (p.1.map kV))/\RelV p.2 q.2.2
theorem KT.val {H:Hp}{kvs:List (List Key×V)}{xs:List (List Key×Addr×Value)}(r:KT H kvs xs)(k:List Key):RelO (valV kvs k) ((atKey xs k).map (·.2)):=by
 induction r with
 | nil=>exact True.intro
 | @cons p q ps qs h t ih=>
  obtain⟨h1,_,h2⟩:=h
  by_cases e:p.1=k
  ·have e':q.1=k:=h1.symm.trans e
   have b:atKey (q::qs) k=some q.2:=by simp [atKey,dO,e']
   rw[jBD e,b]; exact h2
  ·have e':¬ q.1=k:=fun z=>e (h1.trans z)
   have b:atKey (q::qs) k=atKey qs k:=by simp [atKey,dO,e']
   rw[jBE e,b]; exact ih
theorem KT.repl {H:Hp}{kvs:List (List Key×V)}{xs:List (List Key×Addr×Value)}(r:KT H kvs xs)(k:List Key){y:V}{u:Value}(ry:RelV y u):
  KT H (kvs.map fun kv=>if kv.1=k then (kv.1,y) else kv) (xs.map (putAt k u)):=by
 induction r with
 | nil=>exact .nil
 | @cons p q ps qs h t ih=>
  rw[bu,bu]
  refine .cons ?_ ih
  obtain⟨h1,h2,h3⟩:=h
  unfold putAt
  by_cases e:p.1=k
  ·rw[aq e,aq (h1.symm.trans e)]; exact⟨h1,h2,ry⟩
  ·rw[am e,am (fun z=>e (h1.trans z))]; exact⟨h1,h2,h3⟩
theorem KT.put {H:Hp}{kvs:List (List Key×V)}{xs:List (List Key×Addr×Value)}(r:KT H kvs xs)(k:List Key){b:Addr}{y:V}{u:Value}(hb:H b=some (.tup (k.map kV)))(ry:RelV y u):
  KT H (putK kvs k y) (storedH xs k b u):=by
 have e:(kvs.any fun kv=>decide (kv.1=k))=(atKey xs k).isSome:=by
  rw[jF7,(r.val k).isSome_eq,g4]
 unfold putK storedH
 rw[e]
 by_cases q:(atKey xs k).isSome=true
 ·rw[aq q,aq q]; exact r.repl k ry
 ·rw[am q,am q]; exact Paired.snoc r ⟨rfl,hb,ry⟩
theorem KT.keeps {H H':Hp}{kvs:List (List Key×V)}{xs:List (List Key×Addr×Value)}(r:KT H kvs xs)(ht:∀ b ys,H b=some (.tup ys)->H' b=some (.tup ys)):KT H' kvs xs:=
 Paired.mapP r fun _ _ z=>⟨z.1,ht _ _ z.2.1,z.2.2⟩
section
variable {P:Program}{w:World}{H:Hp}{h:Heap}{a:Addr}
theorem rd_of {u:HO}(ok:HOk P w H h)(e:Rd H a u):ObjOk P w H h a u:=e.ok ok
theorem dk_rd {kvs:List (Key×V)}(ok:HOk P w H h)(e:Rd H a (.dK kvs)):kvs.length<=sizeLine/\(a==sysModules)=false/\∃ vs,KV kvs vs/\h.DictOf (kQ P w) a vs:=
 show ObjOk P w H h a (.dK kvs) from rd_of ok e
theorem dk_of {kvs:List (Key×V)}(ok:HOk P w H h)(e:H a=some (.dK kvs)):kvs.length<=sizeLine/\(a==sysModules)=false/\∃ vs,KV kvs vs/\h.DictOf (kQ P w) a vs:=dk_rd ok (.inl e)
theorem jGV {ks:List Key}(ok:HOk P w H h)(e:H a=some (.tup (ks.map kV))):(tupleKind (kQ P w)).is h ks a:=by
 obtain⟨_,its,r,p⟩:=(show ObjOk P w H h a (.tup (ks.map kV)) from ok a _ e)
 obtain⟨o,h1,h2,n,h3⟩:=p.isTup
 exact⟨o,its.toArray,n,h1,h2,h3,by simpa using jGY r⟩
theorem dt_rd {kvs:List (List Key×V)}(ok:HOk P w H h)(e:Rd H a (.dT kvs)):kvs.length<=sizeLine/\(a==sysModules)=false/\
  ∃ xs,KT H kvs xs/\h.DictOfH (tupleKind (kQ P w)) a xs:=by
 obtain⟨z,y,xs,r,o,es,ep,h1,h2,h3,h4,h5⟩:=(show ObjOk P w H h a (.dT kvs) from rd_of ok e)
 refine⟨z,y,xs,r,o,es,ep,h1,h2,h3,h4,fun x hx=>?_,h5⟩
 have all:∀ {l:List (List Key×V)}{m:List (List Key×Addr×Value)},KT H l m->∀ x∈m,(tupleKind (kQ P w)).is h x.1 x.2.1:=by
  intro l m q
  induction q with
  | nil=>intro x hx; exact nomatch hx
  | @cons p q ps qs hq t ih=>
   intro x hx
   rcases aG.mp hx with e | hx
   ·subst e
    exact jGV ok (by rw[<- hq.1]; exact hq.2.1)
   ·exact ih x hx
 exact all r x hx
theorem dt_of {kvs:List (List Key×V)}(ok:HOk P w H h)(e:H a=some (.dT kvs)):kvs.length<=sizeLine/\(a==sysModules)=false/\
  ∃ xs,KT H kvs xs/\h.DictOfH (tupleKind (kQ P w)) a xs:=dt_rd ok (.inl e)
end
def DGet (H:Hp)(a:Addr)(y:V)(r:Option V):Prop:=
 (∃ kvs k,Rd H a (.dK kvs)/\y=kV k/\r=valV kvs k)\/∃ kvs k b,Rd H a (.dT kvs)/\y= .ref b/\H b=some (.tup (k.map kV))/\r=valV kvs k
def DPut (H:Hp)(a:Addr)(y v:V)(H':Hp):Prop:=
 (∃ kvs k,H a=some (.dK kvs)/\y=kV k/\kvs.length<sizeLine/\H'=upd H a (.dK (putK kvs k v)))\/
 ∃ kvs k b,H a=some (.dT kvs)/\y= .ref b/\H b=some (.tup (k.map kV))/\kvs.length<sizeLine/\H'=upd H a (.dT (putK kvs k v))
theorem DGet.k {H:Hp}{a:Addr}{kvs:List (Key×V)}{k:Key}(e:H a=some (.dK kvs)):DGet H a (kV k) (valV kvs k):= .inl ⟨kvs,k, .inl e,rfl,rfl⟩
theorem DPut.k {H:Hp}{a:Addr}{kvs:List (Key×V)}{k:Key}{v:V}(e:H a=some (.dK kvs))(hl:kvs.length<sizeLine):DPut H a (kV k) v (upd H a (.dK (putK kvs k v))):= .inl ⟨kvs,k,e,rfl,hl,rfl⟩
section
variable {X:Cx}{pins:List (Addr×Obj)}{σ:St}{H:Hp}{s:Shared}{a:Addr}{y v:V}{u r:Value}{o:Option V}{A:Around}{E:Value->Shared->Prop}
theorem Inv.big (I:Inv X pins σ H s):sysModules<s.heap.objs.size:=by
 have h:mainGlobals<s.heap.objs.size:=(I.mod.glob.keeps I.bk).lt
 exact eD (by decide) h
theorem jNI {Q:Value->Shared->Prop}(hu:A.units+1<cLine)(I:Inv X pins σ H s)(g:DGet H a y (some v))(ry:RelV y u)(h:∀ w' s',Inv X pins σ H s'->RelV v w'->Q w' s'):
  wpAny (model X.prog X.w) A (getItem (.ref a) u) Q E s:=by
 rcases g with ⟨kvs,k,e,ey,l⟩ | ⟨kvs,k,b,e,ey,eb,l⟩
 ·subst ey
  obtain⟨z,hd,vs,rel,dd⟩:=dk_rd I.hok e
  obtain⟨w',hw,rw'⟩:=RelO.some_of (v:=v) (o:=valueAt vs k) (by rw[l]; exact rel.val k)
  exact wpAny_getItem_of (kV_is ry) dd.mapOf hw (h w' _ (I.tok _) rw')
 ·subst ey
  cases (show u=Value.ref b from ry)
  obtain⟨z,hd,xs,rel,dd⟩:=dt_rd I.hok e
  obtain⟨w',hw,rw'⟩:=RelO.some_of (v:=v) (o:=(atKey xs k).map (·.2)) (by rw[l]; exact rel.val k)
  obtain⟨p,hp,hp2⟩:=Option.map_eq_some_iff.mp hw
  refine wpAny_getItem_heap (fq hu) (jGV I.hok eb) dd hp ?_
  rw[hp2]
  exact h w' _ (I.tok _) rw'
theorem d_in {Q:Value->Shared->Prop}(hu:A.units+1<cLine)(I:Inv X pins σ H s)(g:DGet H a y o)(ry:RelV y u)(h:∀ s',Inv X pins σ H s'->Q (.bool o.isSome) s'):
  wpAny (model X.prog X.w) A (compareOp .In u (.ref a)) Q E s:=by
 rcases g with ⟨kvs,k,e,ey,l⟩ | ⟨kvs,k,b,e,ey,eb,l⟩
 ·subst ey
  obtain⟨z,hd,vs,rel,dd⟩:=dk_rd I.hok e
  refine wpAny_in_of (kV_is ry) hd dd.mapOf ?_
  rw[<- (rel.val k).isSome_eq,<- l]
  exact h _ (I.tok _)
 ·subst ey
  cases (show u=Value.ref b from ry)
  obtain⟨z,hd,xs,rel,dd⟩:=dt_rd I.hok e
  refine wpAny_in_heap (fq hu) (jGV I.hok eb) hd dd ?_
  have q:=(rel.val k).isSome_eq
  rw[g4] at q
  rw[<- q,<- l]
  exact h _ (I.tok _)
theorem jSX {Q:Value->Shared->Prop}(hu:A.units+1<cLine)(I:Inv X pins σ H s)(g:DGet H a y o)(ry:RelV y u)(h:∀ s',Inv X pins σ H s'->Q (.bool (!o.isSome)) s'):
  wpAny (model X.prog X.w) A (compareOp .NotIn u (.ref a)) Q E s:=by
 rcases g with ⟨kvs,k,e,ey,l⟩ | ⟨kvs,k,b,e,ey,eb,l⟩
 ·subst ey
  obtain⟨z,hd,vs,rel,dd⟩:=dk_rd I.hok e
  refine wpAny_notIn_of (kV_is ry) hd dd.mapOf ?_
  rw[<- (rel.val k).isSome_eq,<- l]
  exact h _ (I.tok _)
 ·subst ey
  cases (show u=Value.ref b from ry)
  obtain⟨z,hd,xs,rel,dd⟩:=dt_rd I.hok e
  refine wpAny_notIn_heap (fq hu) (jGV I.hok eb) hd dd ?_
  have q:=(rel.val k).isSome_eq
  rw[g4] at q
  rw[<- q,<- l]
  exact h _ (I.tok _)
theorem jIC {h':Heap}{t':Nat}{ob:HO}(I:Inv X pins σ H s)(mu:Mut (H a))(hs:Heap.SameBut a s.heap h')(he:∃ q,h'.get? a=some q)(new:ObjOk X.prog X.w (upd H a ob) h' a ob):
  Inv X pins σ (upd H a ob) { s with heap:=h',toks:=t'} :=
 I.write (x:=a) (e:=a) mu (.inl rfl) (fun b q hb z=>(hs.2 b hb).trans z) he new
theorem jQP {P:Program}{w:World}{H':Hp}{h':Heap}{kvs:List (Key×V)}{vs:List (Key×Value)}(z:kvs.length<=sizeLine)(hd:(a==sysModules)=false)(rel:KV kvs vs)(dd:h'.DictOf (kQ P w) a vs):
  ObjOk P w H' h' a (.dK kvs):=⟨z,hd,vs,rel,dd⟩
theorem jNH {H':Hp}{Q:Unit->Shared->Prop}(hu:A.units+1<cLine)(I:Inv X pins σ H s)(g:DPut H a y v H')(ry:RelV y u)(rv:RelV v r)(h:∀ s',Inv X pins σ H' s'->Q () s'):
  wpAny (model X.prog X.w) A (setItem (.ref a) u r) Q E s:=by
 rcases g with ⟨kvs,k,e,ey,l,eH⟩ | ⟨kvs,k,b,e,ey,eb,l,eH⟩
 ·subst ey eH
  obtain⟨z,hd,vs,rel,dd⟩:=dk_of I.hok e
  have hz:vs.length<=sizeLine:=by rw[<- rel.length]; exact z
  have hl:(putK kvs k v).length<=sizeLine:=by have:=jBZ kvs k v; omega
  refine wpAny_setItem_pairs (hsz:=hz) (kV_is ry) dd fun h' dd' hs=>h _ ?_
  have he:∃ q,h'.get? a=some q:=let ⟨q,_,_,hq,_⟩:=dd'; ⟨q,hq⟩
  exact jIC I (by rw[e]; exact True.intro) hs he (jQP hl hd (rel.put k rv) dd')
 ·subst ey eH
  cases (show u=Value.ref b from ry)
  obtain⟨z,hd,xs,rel,dd⟩:=dt_of I.hok e
  have hz:xs.length<=sizeLine:=by rw[<- fe rel]; exact z
  have hl:(putK kvs k v).length<=sizeLine:=by have:=jBZ kvs k v; omega
  refine wpAny_setItem_heap (hsz:=hz) (fq hu) (jGV I.hok eb) dd fun h' dd' hs=>h _ ?_
  obtain⟨q,es,ep,hq,h2,h3,h4,_,h5⟩:=dd'
  refine jIC I (by rw[e]; exact True.intro) hs ⟨q,hq⟩ ⟨hl,hd,_,(rel.put k eb rv).keeps fun c ys ec=>?_,q,es,ep,hq,h2,h3,h4,h5⟩
  rw[j9 (ne_of ec e (fun z=>nomatch z))]
  exact ec
end
section
variable {X:Cx}{pins:List (Addr×Obj)}{σ:St}{H:Hp}{s:Shared}{a:Addr}{kvs:List (Key×V)}{k:Key}{u:Value}{A:Around}{E:Value->Shared->Prop}
end
def NoSl (i:Expr):Prop:=∀ ov iv,subscripted i false ov iv=operate [ov,iv] (getItem ov iv)
theorem jR0 {prog:Program}{w:World}{A:Around}{E:Value->Shared->Prop}{s:Shared}{env:Env}{value slice:Expr}{pos:Pos}{T id:String}{Q:Value->Shared->Prop}
  (hl:typeLookup (.type T) "__getitem__" =pure (some (.builtin id))) (hs:NoSl slice)
  (h:wpAny (model prog w) A (eval value env) (fun o s₁=>wpAny (model prog w) A (eval slice env) (fun i s₂=>s₂.TypeIs o T/\wpAny (model prog w) A (getItem o i) Q E s₂) E s₁) E s):
  wpAny (model prog w) A (eval (.Subscript value slice pos) env) Q E s:=by
 refine Subscript_ (cr h (fun o s₁ h₁=>cr h₁ (fun i s₂ h₂=>?_) fun _ _ x=>x) fun _ _ x=>x)
 obtain⟨hT,h₂⟩:=h₂
 unfold subscriptTail
 refine ab ?_
 rw[getitemInPython_of_ne hT.not_modules]
 refine ab (wpAny_specialOf hT hl ?_)
 have fin:wpAny (model prog w) A (subscripted slice false o i) (fun r s₃=>wpAny (model prog w) A (letTemporaryGo value o r >>= fun _=>pure r) Q E s₃) E s₂:=by
  rw[hs o i]
  exact wpAny_operating (cr h₂ (fun r s₃ h₃=>ab (wpAny_letTemporaryGo (ah h₃))) fun _ _ x=>x)
 first
  | exact ah (ab fin)
  | exact ab (ah (ab fin))
  | exact ab fin
theorem jIA {X:Cx}{pins:List (Addr×Obj)}{σ:St}{H:Hp}{s:Shared}{a:Addr}{y:V}{o:Option V}(I:Inv X pins σ H s)(g:DGet H a y o):s.TypeIs (.ref a) "dict" :=by
 rcases g with ⟨kvs,k,e,_,_⟩ | ⟨kvs,k,b,e,_,_,_⟩
 ·obtain⟨_,_,vs,_,dd⟩:=dk_rd I.hok e
  exact dd.typeIs
 ·obtain⟨_,_,xs,_,dd⟩:=dt_rd I.hok e
  exact dd.typeIs
def tDGet (td ty:TE):TE:=fun σ H Q=>td σ H fun x H1=>ty σ H1 fun y H2=>∃ a v,x= .ref a/\DGet H2 a y (some v)/\Q v H2
def tDIn (ty td:TE):TE:=fun σ H Q=>ty σ H fun y H1=>td σ H1 fun x H2=>∃ a o,x= .ref a/\DGet H2 a y o/\Q (.bl o.isSome) H2
def jL9 (ty td:TE):TE:=fun σ H Q=>ty σ H fun y H1=>td σ H1 fun x H2=>∃ a o,x= .ref a/\DGet H2 a y o/\Q (.bl (!o.isSome)) H2
def sDPut (td ty tv:TE):TS:=fun D σ H=>tv σ H fun v H1=>td σ H1 fun x H2=>ty σ H2 fun y H3=>∃ a H4,x= .ref a/\DPut H3 a y v H4/\D.nx σ H4
section
variable {X:Cx}{o i e value:Expr}{pos pos' tpos:Pos}{td ty tv:TE}
theorem jRL (hu:X.A.units+1<cLine)(ho:PE X o td)(hi:PE X i ty)(hs:NoSl i):PE X (.Subscript o i pos) (tDGet td ty):=by
 intro pins s σ H Q I h
 refine jR0 PySem.F.slot_dict_getitem.lookup hs (thn (ho pins s σ H _ I h) fun u s1 ⟨x,H1,I1,rx,q1⟩=>thn (hi pins s1 σ H1 _ I1 q1) fun iv s2 ⟨y,H2,I2,ry,a,v,ex,g,q2⟩=>?_)
 subst ex
 obtain rfl:u=Value.ref a:=rx
 exact⟨jIA I2 g,jNI hu I2 g ry fun w' s3 I3 rw'=>⟨v,H2,I3,rw',q2⟩⟩
theorem jU0 (hu:X.A.units+1<cLine)(hi:PE X i ty)(ho:PE X o td):PC X .In i o (tDIn ty td):=by
 intro pins s σ H Q I h
 refine thn (hi pins s σ H _ I h) fun iv s1 ⟨y,H1,I1,ry,q1⟩=>thn (ho pins s1 σ H1 _ I1 q1) fun u s2 ⟨x,H2,I2,rx,a,ov,ex,g,q2⟩=>?_
 subst ex
 obtain rfl:u=Value.ref a:=rx
 exact d_in hu I2 g ry fun s3 I3=>⟨.bl ov.isSome,H2,I3,rfl,q2⟩
theorem jLT (hu:X.A.units+1<cLine)(hi:PE X i ty)(ho:PE X o td):PC X .NotIn i o (jL9 ty td):=by
 intro pins s σ H Q I h
 refine thn (hi pins s σ H _ I h) fun iv s1 ⟨y,H1,I1,ry,q1⟩=>thn (ho pins s1 σ H1 _ I1 q1) fun u s2 ⟨x,H2,I2,rx,a,ov,ex,g,q2⟩=>?_
 subst ex
 obtain rfl:u=Value.ref a:=rx
 exact jSX hu I2 g ry fun s3 I3=>⟨.bl (!ov.isSome),H2,I3,rfl,q2⟩
theorem jRA (hu:X.A.units+1<cLine)(ho:PE X o td)(hi:PE X i ty)(hv:PE X value tv)(hs:swapsWith value (some (.Subscript o i pos')) pos.line X.env=pure false):
  PS X (.Assign [.Subscript o i pos'] value pos) (sDPut td ty tv):=by
 intro pins s σ H D I h
 refine wpAny_Assign_Subscript (thn (hv pins s σ H _ I h) fun r s1 ⟨v,H1,I1,rv,q1⟩=>thn (ho pins s1 σ H1 _ I1 q1) fun u s2 ⟨x,H2,I2,rx,q2⟩=>thn (hi pins s2 σ H2 _ I2 q2) fun iv s3 ⟨y,H3,I3,ry,a,H4,ex,g,q3⟩=>?_) hs
 subst ex
 obtain rfl:u=Value.ref a:=rx
 exact jNH hu I3 g ry rv fun s4 I4=>⟨σ,H4,I4,q3⟩
end
theorem jPJ {P:Program}{w:World}{H:Hp}(h:Heap)(hb:sysModules<h.objs.size):ObjOk P w H (h.push { cls:= .type "dict",data:= .dict #[]}) h.objs.size (.dK []):=
 ⟨br _,cY.mpr (fk (aS hb)),[], .nil,iJ h⟩
section
variable {X:Cx}{pos:Pos}
end
def jL7:List (TE×TE)->St->Hp->(List (V×V)->Hp->Prop)->Prop
 | [],_,H,Q=>Q [] H
 | (tk,tv)::r,σ,H,Q=>tk σ H fun x H1=>tv σ H1 fun y H2=>jL7 r σ H2 fun ps H3=>Q ((x,y)::ps) H3
abbrev VV:List (V×V)->List (Value×Value)->Prop:=Paired fun p q=>RelV p.1 q.1/\RelV p.2 q.2
def PPs (X:Cx)(pos:Pos)(keys:List (Option Expr))(values:List Expr)(trs:List (TE×TE)):Prop:=
 ∀ (pins:List (Addr×Obj)) (s:Shared) (σ:St) (H:Hp) (Q:List (V×V)->Hp->Prop),Inv X pins σ H s->jL7 trs σ H Q->
  wpAny (model X.prog X.w) X.A (evalPairs (pairTrees keys values X.env pos)) (fun vs s'=>∃ ps H',Inv X pins σ H' s'/\VV ps vs/\Q ps H') X.xe s
theorem jRB {X:Cx}{pos:Pos} :PPs X pos [] [] []:=fun pins s σ H Q I h=>pairTrees_nil_walk ⟨[],H,I, .nil,h⟩
theorem jOC {X:Cx}{pos:Pos}{k v:Expr}{ks:List (Option Expr)}{vs:List Expr}{tk tv:TE}{trs:List (TE×TE)}(hk:PE X k tk)(hv:PE X v tv)(hr:PPs X pos ks vs trs):
  PPs X pos (some k::ks) (v::vs) ((tk,tv)::trs):=fun pins s σ H Q I h=>
 pairTrees_cons_walk (thn (hk pins s σ H _ I h) fun u s1 ⟨x,H1,I1,rx,q1⟩=>thn (hv pins s1 σ H1 _ I1 q1) fun w2 s2 ⟨y,H2,I2,ry,q2⟩=>
  thn (hr pins s2 σ H2 _ I2 q2) fun ws s3 ⟨ps,H3,I3,rel,q3⟩=>⟨(x,y)::ps,H3,I3, .cons ⟨rx,ry⟩ rel,q3⟩)
def jGQ (kvs more:List (Key×V)):List (Key×V):=more.foldl (fun acc kv=>putK acc kv.1 kv.2) kvs
theorem KV.merge:∀ {more:List (Key×V)}{rs:List (Key×Value)}{kvs:List (Key×V)}{vs:List (Key×Value)},KV more rs->KV kvs vs->KV (jGQ kvs more) (merged vs rs):=by
 intro more rs kvs vs r
 unfold KV at r
 induction r generalizing kvs vs with
 | nil=>intro q; exact q
 | @cons p q ps qs h t ih=>
  intro r0
  have e:KV (putK kvs p.1 p.2) (stored vs q.1 q.2):=by
   have:=r0.put p.1 h.2
   rw[<- h.1]; exact this
  exact ih e
theorem jCI:∀ (more kvs:List (Key×V)),(jGQ kvs more).length<=kvs.length+more.length
 | [],kvs=>by show kvs.length<=kvs.length+0; omega
 | p::r,kvs=>by
  have h1:=jCI r (putK kvs p.1 p.2)
  have h2:=jBZ kvs p.1 p.2
  show (jGQ (putK kvs p.1 p.2) r).length<=_
  rw[aR]; omega
theorem jF2 {P:Program}{w:World} :∀ {kvs:List (Key×V)}{ws:List (Value×Value)},VV (kvs.map fun kv=>(kV kv.1,kv.2)) ws->∃ rs,Carries (kQ P w) ws rs/\KV kvs rs
 | [],_,r=>by rw[iA] at r; cases r; exact⟨[],True.intro, .nil⟩
 | p::kvs,_,r=>by
  rw[bu] at r
  cases r with
  | @cons a b as bs h t=>
   obtain⟨rs,c,q⟩:=jF2 (P:=P) (w:=w) t
   obtain⟨b1,b2⟩:=b
   exact⟨(p.1,b2)::rs,⟨kV_is h.1,rfl,c⟩, .cons ⟨rfl,h.2⟩ q⟩
def tDisp (trs:List (TE×TE)):TE:=fun σ H Q=>∀ p,H p=none->jL7 trs σ (upd H p (.dK [])) fun ps H2=>H2 p=some (.dK [])/\∃ kvs:List (Key×V),ps=kvs.map (fun kv=>(kV kv.1,kv.2))/\kvs.length<=15/\Q (.ref p) (upd H2 p (.dK (jGQ [] kvs)))
theorem jRK {X:Cx}{pos:Pos}{keys:List (Option Expr)}{values:List Expr}{trs:List (TE×TE)}(h:PPs X pos keys values trs)(hall:keys.all (·.isSome)=true)(hl:keys.length=values.length)(h0:keys≠ [])
  (h15:keys.length<=15):PE X (.Dict keys values pos) (tDisp trs):=by
 intro pins s σ H Q I q
 have hn:=I.hok.fresh (ao s.heap.objs.size)
 have I1:=I.laid (a:=s.heap.objs.size) (o:= .dK []) (h':=s.heap.push { cls:= .type "dict",data:= .dict #[]}) (t':=s.toks) (fun _ _ q=>af _ q) (ao _) (jPJ s.heap I.big)
 refine wpAny_Dict_walk (knd:=kQ X.prog X.w) hall hl h0 h15 (thn (h pins _ σ _ _ I1 (q _ hn)) fun ws s2 ⟨ps,H2,I2,rel,e,kvs,ep,lk,q2⟩=>?_)
 subst ep
 obtain⟨rs,c,rk⟩:=jF2 (P:=X.prog) (w:=X.w) rel
 obtain⟨z,hd,vs0,r0,dd⟩:=dk_of I2.hok e
 cases r0
 refine⟨rs,c,dd,fun h' dd' hs=>⟨.ref s.heap.objs.size,_,?_,rfl,q2⟩⟩
 have hz:(jGQ [] kvs).length<=sizeLine:=by
  have h1:=jCI kvs []
  rw[bZ] at h1
  rw[eB]; omega
 have he:∃ q,h'.get? s.heap.objs.size=some q:=let ⟨q,_,_,hq,_⟩:=dd'; ⟨q,hq⟩
 exact jIC I2 (by rw[e]; exact True.intro) hs he (jQP hz hd (rk.merge .nil) dd')
section
variable {X:Cx}{pins:List (Addr×Obj)}{σ:St}{H:Hp}{s:Shared}{a:Addr}{y d:V}{u r:Value}{o:Option V}{A:Around}{E:Value->Shared->Prop}
end
section
variable {X:Cx}{o e f:Expr}{apos cpos:Pos}{td ty tx:TE}
end
section
variable {X:Cx}{pins:List (Addr×Obj)}{σ:St}{H:Hp}{s:Shared}{a:Addr}{kvs:List (Key×V)}{A:Around}{E:Value->Shared->Prop}
end
section
variable {X:Cx}{pins:List (Addr×Obj)}{σ:St}{H:Hp}{s:Shared}{a:Addr}{y:V}{u:Value}{A:Around}{E:Value->Shared->Prop}
end
section
variable {κ:Type} [DecidableEq κ]
end
section
variable {prog:Program}{w:World}{A:Around}{E:Value->Shared->Prop}{s:Shared}{d:Addr}{kvs:List (Key×Value)}
theorem jIG {T:String}{r d:Addr}{n:Nat}{P:Nat->Value->Prop}{OK:Heap->Prop}{R:List Value->Shared->Prop}(K:PySem.W.KdlSrc prog w T r d n P OK)(hh:A.handled=none)(hok:OK s.heap)(hn:n<=sizeLine)
  (h:∀ (h':Heap) (tk:Nat) (acc:Array Value),(∀ b o,s.heap.get? b=some o->h'.get? b=some o)->s.heap.objs.size<h'.objs.size->ItemsOf P acc n->R acc.toList { s with heap:=h',toks:=tk}):
  wpAny (model prog w) A (collect (.ref r)) R E s:=by
 have hlt:=K.there _ hok
 unfold collect
 refine ab (gL (ce entry_proto_collect' ?_))
 rw[bX gE _]
 show wpAny _ A.in1 (newList [] >>= fun l=>again (.builtin "list.__iadd__" ⟨[l, .ref r],[]⟩)) _ _ s
 refine ab (cR ?_)
 refine ah ⟨eI eh _,ce entry_list_iadd' ?_⟩
 rw[bX eh _]
 have hS:(s.heap.push { cls:= .type "list",data:= .seq ([]:List Value).toArray}).get? s.heap.objs.size=some { cls:= .type "list",data:= .seq #[]} :=ax _ rfl
 show wpAny _ A.in1 (Builtin.List.listExtendWith (.ref s.heap.objs.size) (.ref r) (.ref s.heap.objs.size)) _ _ _
 refine cr (PySem.W.kdl_extend (A:=A) (s:= { s with heap:=s.heap.push { cls:= .type "list",data:= .seq ([]:List Value).toArray}})
  (R:=fun (q:Result) (s':Shared)=>∃ (h':Heap) (tk:Nat) (acc:Array Value) (c:Nat),q= .ok (.ret (.ref s.heap.objs.size))/\s'= { s with heap:=h',toks:=tk} /\
   (∀ b o,s.heap.get? b=some o->h'.get? b=some o)/\h'.get? s.heap.objs.size=some { cls:= .type "list",dict:=none,data:= .seq acc c,slots:=#[]} /\ItemsOf P acc n)
  K hh (K.keep _ _ hok fun b _ o e=>af _ e) s.heap.objs.size (dD hlt.1) (dD hlt.2) (.ref s.heap.objs.size) 0 hS
  (fun h' tk acc c hk hS' hacc=>⟨h',tk,acc,c,rfl,rfl,fun b o e=>hk b o (aS (aA e)) (af _ e),hS',hacc⟩) hn) (fun fin s' x=>?_) fun e s' x=>?_
 ·cases fin with
  | done f=>
   obtain⟨h',tk,acc,c,e,rfl,hk,hS',hacc⟩:=x
   cases e
   show wpAny _ A (load s.heap.objs.size >>= _) _ _ _
   exact ab (gd hS' (ah (h h' tk acc hk (aA hS') hacc)))
  | again c1=>
   refine⟨x.1,dQ x.2 fun q s2 y=>?_⟩
   obtain⟨h',tk,acc,c,rfl,rfl,hk,hS',hacc⟩:=y
   show wpAny _ A (load s.heap.objs.size >>= _) _ _ _
   exact ab (gd hS' (ah (h h' tk acc hk (aA hS') hacc)))
 ·obtain⟨_,_,_,_,e',_⟩:=x
  cases e'
end
section
variable {X:Cx}{o i e f value:Expr}{td ty tv tx:TE}{pos pos' apos cpos:Pos}
theorem jFS (hu:X.A.units+1<cLine)(ho:JE X o td)(hi:JE X i ty)(hs:jB4 i):JE X (.Subscript o i pos) (tDGet td ty):=⟨jRL hu ho.h hi.h hs⟩
theorem jI2 (hu:X.A.units+1<cLine)(ho:JE X o td)(hi:JE X i ty)(hv:JE X value tv)(hs:SwOk value (some (.Subscript o i pos'))):JS X (.Assign [.Subscript o i pos'] value pos) (sDPut td ty tv):=⟨jRA hu ho.h hi.h hv.h (hs.h _ _)⟩
end
theorem jG9:entryFor table "dict.update.loop" =some Builtin.«dict.update.loop»:=entryFor_of_fast (by kernel_rfl)
theorem jC6:plainId "dict.update.loop" =true:=by decide+kernel
theorem jGT:typeLookup (.type "list") "keys" =pure none:=am_miss_of_fast (by kernel_rfl)
theorem jE6:typeLookup (.type "list") "__getattr__" =pure none:=am_miss_of_fast (by kernel_rfl)
section
variable {prog:Program}{w:World}{A:Around}{E:Value->Shared->Prop}{s:Shared}
theorem jME (a:Addr)(name:Str)(u:Tok)(hmiss:typeLookup (.type "list") name=pure none)(hsz:name.length+100<=sizeLine)(hgd: [Str.ofString "__module__",Str.ofString "__name__",Str.ofString "__qualname__",Str.ofString "__doc__",Str.ofString "__annotations__"].contains name=false):Meets (Builtin.«object.__getattribute__» ⟨[.ref a, .str name u],[]⟩) (fun A R s=>(∃ its n,s.heap.get? a=some { cls:= .type "list",data:= .seq its n})/\raisesAttr (.ref a) name A R s):=
 Meets.of_wp fun prog w A R s hs=>by
  obtain⟨⟨its,n,ho⟩,hs⟩:=hs
  obtain⟨hp,g,d,tk,os⟩:=s
  have hT:(⟨hp,g,d,tk,os⟩:Shared).TypeIs (.ref a) "list" :=⟨_,ho,rfl⟩
  unfold Builtin.«object.__getattribute__»
  repeat (any_goals (first | assumption | wp_step))
  rw[hgd,am aj]
  repeat (any_goals (first | assumption | wp_step))
  exact wpAny_raiseAttrError hs.1 hs.2 (attrMsg_fits (by decide+kernel) hsz)
theorem jMO {a:Addr}{name:Str}(hmiss:typeLookup (.type "list") name=pure none)(hsz:name.length+100<=sizeLine)(hgd: [Str.ofString "__module__",Str.ofString "__name__",Str.ofString "__qualname__",Str.ofString "__doc__",Str.ofString "__annotations__"].contains name=false){its:Array Value}{n:Nat}{Q:Option Value->Shared->Prop}(hA:A.handled=none)(ho:s.heap.get? a=some { cls:= .type "list",data:= .seq its n})
  (h:∀ h' tk,(∀ b u,s.heap.get? b=some u->h'.get? b=some u)->Q none { s with heap:=h',toks:=tk}):wpAny (model prog w) A (getAttr? (.ref a) name) Q E s:=by
 obtain⟨hp,g,d,tk,os⟩:=s
 have hT:∀ tk',(⟨hp,g,d,tk',os⟩:Shared).TypeIs (.ref a) "list" :=fun _=>⟨_,ho,rfl⟩
 have f1:=sub_AttributeError
 have f3:=F.slot_list_getattribute.lookup
 have f4:=F.slot_list_getattribute.bind (.ref a)
 have f5:=jE6
 unfold getAttr? getAttrBy? getAttrBy
 repeat (any_goals (first | assumption | ((with_reducible show wpAny _ _ (call (Value.builtin "list.__getattribute__") _ _) _ _ _); refine gK F.slot_list_getattribute (hT _) F.entry_list_ga (F.args_list_getattribute_2 _ _) (jME a name _ hmiss hsz hgd) ⟨⟨its,n,ho⟩,hA,fun h' tk' e hx=>?_⟩) | wp_step))
 obtain⟨t',u',he⟩:=hx.there
 show wpAny _ _ (getattributeRaised _ _ _ _ _ _ _) _ _ _
 unfold getattributeRaised
 repeat (any_goals (first | assumption | wp_step))
 exact h _ _ fun b u q=>hx.keeps b u q
theorem jK9 {a:Addr}{k v:Value}{m:Nat}{Q:List Value->Shared->Prop}(ho:s.heap.get? a=some { cls:= .type "tuple",data:= .seq #[k,v] m})(h:Q [k,v] s):wpAny (model prog w) A (Builtin.Dict.pairItems (.ref a)) Q E s:=by
 obtain⟨hp,g,d,tk,os⟩:=s
 have hT:(⟨hp,g,d,tk,os⟩:Shared).TypeIs (.ref a) "tuple" :=⟨_,ho,rfl⟩
 unfold Builtin.Dict.pairItems
 repeat (any_goals (first | assumption | wp_step))
end
section
variable {prog:Program}{w:World}{K:Type} [DecidableEq K]{knd:KeyKind prog w K}{A:Around}{R:Result->Shared->Prop}{I:Addr}{fp wr:List Addr}{n:Nat}{P:Nat->Value->Prop}{St:Nat->Shared->Prop}
def jJY (knd:KeyKind prog w K)(h:Heap)(a:Addr)(p:K×Value):Prop:=∃ key m,h.get? a=some { cls:= .type "tuple",data:= .seq #[key,p.2] m} /\knd.is p.1 key=true
theorem upl (W:WalksS prog w A.in1 I fp wr (fun a b=>b=a) n P St)(d:Addr)(hd:d∉fp)(more:List (K×Value))(hmn:more.length=n)(pa:Nat->Addr)(hpd:∀ i,i<n->pa i≠d/\pa i∉wr)(hP:∀ i v,P i v->v= .ref (pa i))(hn:n<=sizeLine):
  ∀ (k i:Nat) (z:Int) (s:Shared),n - i=k->i<=n->St i s->s.heap.DictOf knd d (merged [] (more.take i))->(∀ j p,more[j]?=some p->jJY knd s.heap (pa j) p)->
   (∀ s',Moved (d::wr) (fun a b=>b=a) s s'->s'.heap.DictOf knd d (merged [] more)->R (.ok (.ret .none)) s')->
   codeAny (model prog w) A (.builtin "dict.update.loop" ⟨[.ref d, .ref I,rawInt z, .none],[]⟩) R s:=by
 have hdw:d∉wr:=fun h=>hd (W.sub _ h)
 have sub1:∀ b∈wr,b∈d::wr:=fun b hb=>aK _ hb
 intro k
 induction k with
 | zero=>
  intro i z s hk hi hst hS hp hR
  obtain rfl:i=n:=by omega
  refine ce jG9 ?_
  rw[bX jC6 _]
  show wpAny _ A.in1 (pyNext (.ref I) >>= _) _ _ s
  refine ab (W.done s _ _ hst fun s' mv=>?_)
  show wpAny _ A.in1 (Builtin.Dict.addKeywords d [] >>= fun _=>ret Value.none) _ _ s'
  refine ab (ah (ah (hR s' (mv.mono sub1) ?_)))
  obtain⟨o,es,ep,ho,r⟩:=hS
  rw[<- hmn,aZ] at r
  exact⟨o,es,ep,mv.heap d o hdw ho,r⟩
 | succ k ih=>
  intro i z s hk hi hst hS hp hR
  have hlt:i<n:=by omega
  refine ce jG9 ?_
  rw[bX jC6 _]
  show wpAny _ A.in1 (pyNext (.ref I) >>= _) _ _ s
  refine ab (W.item i s _ _ hlt hst fun v s' hPv hst' mv=>?_)
  obtain rfl:=hP i v hPv
  have hS':s'.heap.DictOf knd d (merged [] (more.take i)):=by
   obtain⟨o,es,ep,ho,r⟩:=hS
   exact⟨o,es,ep,mv.heap d o hdw ho,r⟩
  have hp':∀ j p,more[j]?=some p->jJY knd s'.heap (pa j) p:=fun j p hj=>by
   obtain⟨key,m,e,q⟩:=hp j p hj
   have hjn:j<n:=by rw[<- hmn]; exact(ai.mp hj).1
   exact⟨key,m,mv.heap _ _ (hpd j hjn).2 e,q⟩
  obtain⟨p,hpi⟩:∃ p,more[i]?=some p:=⟨more[i],by simp [hmn,hlt]⟩
  obtain⟨key,m,e1,hk1⟩:=hp' i p hpi
  show wpAny _ A.in1 (holding [Value.ref (pa i)] _ >>= _) _ _ s'
  refine ab (bJ (ab ?_))
  refine wpAny_tryCatch (jK9 e1 ?_)
  refine bJ (wpAny_dictSet_pairs hk1 hS' (fun h' hd' sb=>?_) (by
   have:=merged_length_le (K:=K) [] (more.take i)
   have h2:=bh i more
   have:(merged [] (more.take i)).length<=i:=by
    refine bb (merged_length_le (K:=K) [] (more.take i)) ?_
    simp only [bZ,Nat.zero_add]
    exact bh _ _
   omega))
  refine ah ⟨eI jC6 _,ih (i+1) (z+1) _ (by omega) hlt (W.frame _ s' _ _ hst' (dF _) fun b hb o e=>?_) ?_ (fun j p hj=>?_) fun s'' mv2 hS3=>?_⟩
  ·rw[sb.2 b (fun h:b=d=>hd (by rw[<- h]; exact hb))]
   exact e
  ·rw[merged_take_succ _ _ _ _ hpi]
   exact hd'
  ·obtain⟨key,m,e,q⟩:=hp' j p hj
   have hjn:j<n:=by rw[<- hmn]; exact(ai.mp hj).1
   exact⟨key,m,by show h'.get? _=_; rw[sb.2 _ (hpd j hjn).1]; exact e,q⟩
  ·refine hR s'' (Moved.trans W.gtrans ((mv.mono sub1).then_heap (dF _) fun b o hb e=>?_) mv2) hS3
   rw[sb.2 b (fun h:b=d=>hb (by rw[h]; exact aE))]
   exact e
end
section
variable {prog:Program}{w:World}{K:Type} [DecidableEq K]{knd:KeyKind prog w K}{A:Around}{E:Value->Shared->Prop}{s:Shared}
theorem jEN {l:Addr}{its:List Value}{nl:Nat}{more:List (K×Value)}{Q:Value->Shared->Prop}(hA:A.handled=none)(hl:s.heap.get? l=some { cls:= .type "list",data:= .seq its.toArray nl})(hsz:its.length<=sizeLine)
  (pa:Nat->Addr) (hit:∀ i v,its[i]?=some v->v=Value.ref (pa i)) (hlen:more.length=its.length) (hp:∀ j p,more[j]?=some p->jJY knd s.heap (pa j) p)
  (h:∀ h' tk,h'.DictOf knd s.heap.objs.size (merged [] more)->(∀ b u,s.heap.get? b=some u->h'.get? b=some u)->Q (.ref s.heap.objs.size) { s with heap:=h',toks:=tk}):
  wpAny (model prog w) A (call (.type "dict") [.ref l]) Q E s:=by
 refine callType_codes (Q₁:=fun obj s₁=>obj= .ref s.heap.objs.size/\s₁= { s with heap:=s.heap.push { cls:= .type "dict",data:= .dict #[]}}) F.kt_called_dict (F.kt_typeCall_dict_1 _) F.entry_dict_init (kt_code_dict_new _ ⟨rfl,rfl⟩) ?_
 rintro obj s₁ ⟨rfl,rfl⟩
 have hnew:(s.heap.push { cls:= .type "dict",data:= .dict #[]}).DictOf knd s.heap.objs.size []:=iJ s.heap
 have hl1:(s.heap.push { cls:= .type "dict",data:= .dict #[]}).get? l=some { cls:= .type "list",data:= .seq its.toArray nl} :=af _ hl
 have hls:l<s.heap.objs.size:=aA hl
 have hT:Shared.TypeIs { s with heap:=s.heap.push { cls:= .type "dict",data:= .dict #[]}} (.ref l) "list" :=⟨_,hl1,rfl⟩
 refine⟨hnew.typeIs,F.args_dict_init_2 _ _,?_⟩
 unfold Builtin.«dict.__init__»
 refine ab ?_
 unfold Builtin.Dict.selfAndRest
 refine ab (wpAny_notOrdered_dict hnew.typeIs ?_)
 show wpAny _ _ (pure (s.heap.objs.size,[Value.ref l])) _ _ _
 refine ah ?_
 show wpAny _ _ (Builtin.Dict.updateFrom "dict.__init__" s.heap.objs.size (.ref l) [] .none) _ _ _
 unfold Builtin.Dict.updateFrom
 refine ab (iB hT ?_)
 rw[aq (by decide)]
 refine ab (jMO jGT (by decide+kernel) (by decide+kernel) (by simpa using hA) hl1 fun h2 tk2 k2=>?_)
 rw[aq (by rfl)]
 refine ab (de (ab ?_))
 have hl2:h2.IsList l its.toArray:=⟨_,k2 _ _ hl1,rfl,nl,rfl⟩
 refine cP hl2 ?_
 have z2:s.heap.objs.size<h2.objs.size:=by
  have:=aA (k2 _ _ (ax s.heap (o:= { cls:= .type "dict",data:= .dict #[]}) rfl))
  exact this
 have hlI:l≠h2.objs.size:=aS (eD hls z2)
 have hdI:s.heap.objs.size≠h2.objs.size:=aS z2
 have hdl:s.heap.objs.size≠l:=dD hls
 have hplt:∀ i,i<its.length->pa i<s.heap.objs.size:=fun i hi=>by
  obtain⟨key,m,e,_⟩:=hp i more[i] (by simp [hlen,hi])
  exact aA e
 have keep:∀ b u,s.heap.get? b=some u->(h2.push { cls:= .type "list_iterator",data:= .fields #[.ref l, .int 0 0]}).get? b=some u:=fun b u e=>af _ (k2 _ _ (af _ e))
 refine ah ⟨eI jC6 _,upl (knd:=knd) ((gM (by simp [hA]) _ l hlI its.toArray).toS) s.heap.objs.size ?_ more (by simp [hlen]) pa (fun i hi=>?_) (fun i v q=>hit i v (by simpa using q)) (by simpa using hsz) (its.toArray.size - 0) 0 0 _ rfl (br _) ⟨⟨_,ax _ rfl,rfl,rfl⟩,hl2.push _⟩ ?_ (fun j p hj=>?_) fun s' mv hD=>?_⟩
 ·simp only [aG,bU,eN,jn]
  exact⟨hdI,hdl⟩
 ·have:=hplt i (by simpa using hi)
  refine⟨aS this,?_⟩
  simp only [aG,bU,eN]
  exact aS (eD this z2)
 ·obtain⟨o,es,ep,ho,r⟩:=hnew
  exact⟨o,es,ep,af _ (k2 _ _ ho),r⟩
 ·obtain⟨key,m,e,q⟩:=hp j p hj
  exact⟨key,m,keep _ _ e,q⟩
 ·obtain⟨h',g',d',tk',os'⟩:=s'
  have e1:g'=s.gens:=mv.gens
  have e2:d'=s.drawn:=mv.drawn
  have e3:os'=s.os:=mv.os
  subst e1; subst e2; subst e3
  refine⟨rfl,h h' tk' hD fun b u e=>mv.heap b u ?_ (keep b u e)⟩
  have hb:=aA e
  simp only [aG,bU,eN,jn]
  exact⟨aS hb,aS (eD hb z2)⟩
end
section
variable {X:Cx}
theorem jMD {P:Program}{w:World}{h:Heap} :∀ (kvs:List (Key×V)) (pa:Nat->Addr),(∀ i k v,kvs[i]?=some (k,v)->∃ key u m,h.get? (pa i)=some { cls:= .type "tuple",data:= .seq #[key,u] m} /\RelV (kV k) key/\RelV v u)->
  ∃ more:List (Key×Value),KV kvs more/\∀ j p,more[j]?=some p->jJY (kQ P w) h (pa j) p
 | [],_,_=>⟨[], .nil,fun j p e=>by simp at e⟩
 | (k,v)::r,pa,hk=>by
  obtain⟨more,k1,k2⟩:=jMD (P:=P) (w:=w) r (fun i=>pa (i+1)) fun i k v e=>hk (i+1) k v (by simpa using e)
  obtain⟨key,u,m,e,r1,r2⟩:=hk 0 k v rfl
  refine⟨(k,u)::more, .cons ⟨rfl,r2⟩ k1,fun j p hj=>?_⟩
  cases j with
  | zero=>
   simp at hj
   subst hj
   exact⟨key,m,e,kV_is r1⟩
  | succ j=>exact k2 j p (by simpa using hj)
theorem jKS (hc:X.calm=true):yE X (.type "dict") (fun xs H Q=>∃ (p:Addr) (vs:List V) (kvs:List (Key×V)),xs=[.ref p]/\H p=some (.lst vs)/\vs.length=kvs.length/\(∀ (i:Nat) (k:Key) (v:V),kvs[i]?=some (k,v)->∃ a:Addr,vs[i]?=some (V.ref a)/\H a=some (.tup [kV k,v]))/\(kvs.map (·.1)).Nodup/\∀ l:Addr,H l=none->Q (.ref l) (upd H l (.dK kvs))):=by
 intro pins s σ H xs us Q I r h
 obtain⟨p,vs,kvs,rfl,hq,hl,hkv,hnd,q⟩:=h
 obtain⟨u,rfl,rx⟩:=r.one
 cases rx
 obtain⟨hz,its,nl,r',e0⟩:=I.hok p _ hq
 have hli:=r'.length
 obtain⟨more,k1,k2⟩:=jMD (P:=X.prog) (w:=X.w) (h:=s.heap) kvs (fun i=>match vs[i]? with | some (.ref a)=>a | _=>0) fun i k v e=>by
  obtain⟨a,e1,e2⟩:=hkv i k v e
  obtain⟨_,it2,r2,m,e3⟩:=I.hok a _ e2
  have l2:=r2.length
  obtain⟨k',rest,rfl⟩:∃ k' rest,it2=k'::rest:=by
   cases it2 with
   | nil=>simp at l2
   | cons a b=>exact⟨a,b,rfl⟩
  obtain⟨u',rest',rfl⟩:∃ u' rest',rest=u'::rest':=by
   cases rest with
   | nil=>simp at l2
   | cons a b=>exact⟨a,b,rfl⟩
  obtain rfl:rest'=[]:=by
   cases rest' with
   | nil=>rfl
   | cons a b=>simp at l2
  rw[e1]
  cases r2 with
  | cons a1 a2=>
   cases a2 with
   | cons b1 b2=>exact⟨k',u',m,e3,a1,b1⟩
 have lm:more.length=kvs.length:=(fe k1).symm
 refine jEN (knd:=kQ X.prog X.w) (I.ok.hd hc) e0 (by omega) (fun i=>match vs[i]? with | some (.ref a)=>a | _=>0) (fun i v hv=>?_) (by omega) k2 fun h' tk hD kp=>?_
 ·have hi:i<its.length:=(ai.mp hv).1
  have hik:i<kvs.length:=by omega
  obtain⟨a,e1,e2⟩:=hkv i kvs[i].1 kvs[i].2 (by simp [hik])
  obtain⟨u,e3,e4⟩:=r'.get e1
  rw[hv] at e3
  cases e3
  simp only [e1]
  exact e4
 ·rw[merged_nil_of_nodup _ (by rw[<- KV.keys k1]; exact hnd)] at hD
  have hsz:(s.heap.objs.size==sysModules)=false:=by
   have:=I.big
   exact cY.mpr (dD this)
  exact⟨.ref s.heap.objs.size,_,I.laid (t':=tk) (o:= .dK kvs) kp (ao _) ⟨by omega,hsz,more,k1,hD⟩,rfl,q _ I.fresh⟩
end
section
variable {X:Cx}
theorem jNO (hc:X.calm=true):yE X (.type "set") (fun xs H Q=>∃ (p:Addr) (ns:List Int),xs=[.ref p]/\SqL X.K H p (ns.map V.int)/\ns.length<=1000/\∀ (l:Addr) (S:Int->Bool),H l=none->Q (.ref l) (upd H l (.set S (PyProof.Rows.firstMet (fun i=>ns.getD i 0) ns.length).length))):=by
 intro pins s σ H xs us Q I r h
 obtain⟨p,ns,rfl,hq,hl,q⟩:=h
 obtain⟨u,rfl,rx⟩:=r.one
 cases rx
 obtain⟨its,r',pl,hz⟩:=I.list hq
 have hlen:=r'.length
 rw[ae] at hlen
 have hsz:its.toArray.size=ns.length:=by rw[ag,hlen]
 refine call_set_list (I.ok.hd hc) pl.isList (jAI r') (by rw[hsz]; have hb:(2000:Nat)<scanBound:=(by decide); omega) fun h' tk S kp=>?_
 rw[hsz] at S
 exact⟨.ref s.heap.objs.size,_,I.laid (t':=tk) (o:= .set (fun k'=>(PyProof.Rows.firstMet (fun i=>ns.getD i 0) ns.length).any (· ==k')) (PyProof.Rows.firstMet (fun i=>ns.getD i 0) ns.length).length) (fun b u e=>kp b u (aA e) e) (ao _) S,rfl,q _ _ I.fresh⟩
theorem jNR:yE X (.builtin "len") (fun xs H Q=>∃ p S n,xs=[.ref p]/\H p=some (.set S n)/\Q (.int (n:Nat)) H):=by
 intro pins s σ H xs us Q I r h
 obtain⟨p,S,n,rfl,hp,q⟩:=h
 obtain⟨u,rfl,rx⟩:=r.one
 cases rx
 obtain⟨o,es,ep,t,h1,h2,h3,h4,h5,h6,h7,h8⟩:=(show s.heap.SetOf (intKind X.prog X.w) p S n from I.hok p _ hp)
 subst h8
 exact call_len_set h1 h2 h3 h7 (by have hb:(scanBound:Int)<2 ^ 63:=(by decide); omega) ⟨.int _,H,I.tok _,⟨_,rfl⟩,q⟩
end
section
variable {P:Program}{w:World}{K:W.Frag}{mg:Str->Option Value}{base:Heap}{N:List Str}{qual:Str}{sc:Scope}{f:Addr}{cd:Value}{cl:List (Str×Addr)}{A:Around}{outer:List Env}{s:Shared}{H:Hp}{x:Str}
theorem gl_n (h:sc.names.lookup x=some .globalImplicit):Gl1 (cxN P w K mg base N qual sc f cd cl A outer s H) x:=⟨h⟩
theorem qA (h:sc.names.lookup x=some .local):Vis1 (cxN P w K mg base N qual sc f cd cl A outer s H) x:=⟨.inl h⟩
theorem jT8 (h:sc.names.lookup x=some .free):Vis1 (cxN P w K mg base N qual sc f cd cl A outer s H) x:=⟨.inr (.inr h)⟩
theorem loc_n (h:sc.names.lookup x=some .local):Loc1 (cxN P w K mg base N qual sc f cd cl A outer s H) x:=⟨.inl h, .inr h⟩
end
section
variable {X:Cx}
theorem jQG {x:Str}{args:Arguments}{body:List Stmt}{scope:Scope}{pos:Pos}{c0 T:Addr}{j:Nat}(hN:X.N.Nodup)(hj:X.N[j]?=some x)(lx:Loc1 X x)(hcode:X.env.code= .ref c0)(CH:PySem.W.CodeHd X.base c0 T)(hbm:BltAt X.base X.mg)
  (hfree:∀ y∈scope.names,y.2= .free->X.env.scope.names.lookup y.1=some .cell\/X.env.scope.names.lookup y.1=some .free) (hdf:defaultsOf args X.env=([],[])) (han:annTrees args none X.env=[]):
  JS X (.FunctionDef x args body [] none [] scope none x pos) (tDef x (qualnameIn X.env x x) args body scope (jN X.env.cells scope.names []) T pos j):=⟨jTO hN hj lx.a hcode CH hbm hfree hdf han lx.b⟩
def iSeq (K:W.Frag)(te:TE):TI:=fun σ H R=>iList K te σ H R\/iTup K te σ H R
theorem jUP {tg a:Expr}{ta:TE}(hl:JE X a ta):JI X tg a (iSeq X.K ta):=⟨fun pins s σ H R I h=>by
 rcases h with h | h
 ·exact(yS hl).h pins s σ H R I h
 ·exact(qF hl).h pins s σ H R I h⟩
def AtS (tp:Bool)(H:Hp)(a:Addr)(xs:List V):Prop:=match tp with
 | false=>H a=some (.lst xs)
 | true=>H a=some (.tup xs)
theorem AtS.sq {tp:Bool}{K:W.Frag}{H:Hp}{a:Addr}{xs:List V}(h:AtS tp H a xs):Sq tp K H a xs:=by
 cases tp with
 | false=>exact SqL.of h
 | true=>exact SqT.of h
theorem AtS.or {tp:Bool}{K:W.Frag}{H:Hp}{a:Addr}{xs:List V}(h:AtS tp H a xs):SqL K H a xs\/SqT K H a xs:=by
 cases tp with
 | false=>exact .inl (SqL.of h)
 | true=>exact .inr (SqT.of h)
def AtS.ob (tp:Bool)(xs:List V):HO:=match tp with
 | false=> .lst xs
 | true=> .tup xs
theorem AtS.is {tp:Bool}{H:Hp}{a:Addr}{xs:List V} :AtS tp H a xs↔H a=some (AtS.ob tp xs):=by cases tp <;> exact Iff.rfl
theorem AtS.ext {tp:Bool}{H H':Hp}{a:Addr}{xs:List V}(h:AtS tp H a xs)(e:Ext H H'):AtS tp H' a xs:=AtS.is.mpr (e _ _ (AtS.is.mp h))
theorem jUR {i o:Expr}{ty td:TE}{pos:Pos}(hu:X.A.units+1<cLine)(hi:JE X i ty)(ho:JE X o td)(h1:behindInMarks .In o=false):JT X (.Compare i [.In] [o] pos) (tB (tDIn ty td)):=⟨jQ3 (jU0 hu hi.h ho.h) h1⟩
end
section
variable {K:W.Frag}{m:List (Option Nat)}{g:TG}{tt:TT}{te:TE}{σ:St}{H1:Hp}{Q:VK}
theorem jH5 {a:Addr}{xs:List V}(hn:xs.length<sizeLine)(Pv:Addr->Nat->St->Hp->List V->Prop)(h0:∀ D,H1 D=none->Pv D 0 (blkσ m σ) (upd H1 D (.lst [])) [])
  (hD:∀ D i σ' H' zs,H1 D=none->Pv D i σ' H' zs->H' a=some (.lst xs)/\H' D=some (.lst zs)/\zs.length<=i)
  (hs:∀ D i σ' H' zs x,H1 D=none->xs[i]?=some x->Pv D i σ' H' zs->g x σ' H' fun σ2 H2=>tt σ2 H2 fun b H3=>if b=true then te σ2 H3 fun v H4=>H4 D=some (.lst zs)/\Pv D (i+1) σ2 (upd H4 D (.lst (zs++[v]))) (zs++[v]) else Pv D (i+1) σ2 H3 zs)
  (hd:∀ D σ' H' zs,H1 D=none->Pv D xs.length σ' H' zs->Q (.ref D) H'):qL m g tt te σ Q (Itl K a) H1:=by
 intro D hDn
 refine⟨fun i k σ' H' zs=>k=xs.length - i/\i<=xs.length/\Pv D i σ' H' zs,⟨_,rfl,br _,h0 D hDn⟩,?_⟩
 rintro i k σ' H' zs ⟨rfl,hi,p⟩
 obtain⟨s1,q1,q2⟩:=hD D i σ' H' zs hDn p
 refine⟨q1,by omega,?_⟩
 by_cases hlt:i<xs.length
 ·refine .inr ⟨⟨xs,xs[i],SqL.of s1,by simp [hlt]⟩,Pv D (i+1),fun σ2 H2 zs z=>⟨xs.length - (i+1),by omega,rfl,hlt,z⟩,fun v H'' y=>?_⟩
  obtain⟨e1,e2⟩:=y
  subst e1
  exact hs D i σ' _ zs v hDn (e2 xs (SqL.of s1)) p
 ·have e:i=xs.length:=by omega
  subst e
  exact .inl ⟨⟨xs,SqL.of s1,ao _⟩,hd D σ' H' zs hDn p⟩
theorem jPL {tp:Bool}{ta:TE}{a:Addr}{xs:List V}(ha:AtS tp H1 a xs)(hta:∀ Q:VK,Q (.ref a) H1->ta σ H1 Q)(hn:xs.length<sizeLine)(Pv:Addr->Nat->St->Hp->List V->Prop)(h0:∀ D,H1 D=none->Pv D 0 (blkσ m σ) (upd H1 D (.lst [])) [])
  (hD:∀ D i σ' H' zs,H1 D=none->Pv D i σ' H' zs->AtS tp H' a xs/\H' D=some (.lst zs)/\zs.length<=i)
  (hs:∀ D i σ' H' zs x,H1 D=none->xs[i]?=some x->Pv D i σ' H' zs->g x σ' H' fun σ2 H2=>tt σ2 H2 fun b H3=>if b=true then te σ2 H3 fun v H4=>H4 D=some (.lst zs)/\Pv D (i+1) σ2 (upd H4 D (.lst (zs++[v]))) (zs++[v]) else Pv D (i+1) σ2 H3 zs)
  (hd:∀ D σ' H' zs,H1 D=none->Pv D xs.length σ' H' zs->Q (.ref D) H'):iSeq K ta σ H1 (qL m g tt te σ Q):=by
 cases tp with
 | false=>exact .inl (hta _ ⟨a,rfl,⟨xs,SqL.of ha⟩,jH5 hn Pv h0 hD hs hd⟩)
 | true=>exact .inr (hta _ ⟨a,rfl,⟨xs,SqT.of ha⟩,jB1 hn Pv h0 hD hs hd⟩)
end
theorem ExtT.of {T:Addr}{H H':Hp}(e:Ext H H'):ExtT T H H':=fun b o h _=>e b o h
theorem ExtT.trans {T:Addr}{H H' H'':Hp}(a:ExtT T H H')(b:ExtT T H' H''):ExtT T H H'':=fun c o h n=>b c o (a c o h n) n
theorem TabOk.is {H:Hp}{T:Addr}{pos:Pos}{q:Str}(t:TabOk H T pos q):∃ ps,H T=some (.tbl ps):=by
 rcases t with h | ⟨c,h,_⟩
 ·exact⟨_,h⟩
 ·exact⟨_,h⟩
theorem TabOk.ne {H:Hp}{T:Addr}{pos:Pos}{q:Str}(t:TabOk H T pos q){b:Addr}{o:HO}(h:H b=some o)(ho:∀ ps,o≠ .tbl ps):b≠T:=fun e=>by
 obtain⟨ps,z⟩:=t.is
 rw[e,z] at h
 cases h
 exact ho ps rfl
theorem TabOk.ext {H H':Hp}{T:Addr}{pos:Pos}{q:Str}(t:TabOk H T pos q)(e:Ext H H'):TabOk H' T pos q:=by
 rcases t with h | ⟨c,h,h2⟩
 ·exact .inl (e _ _ h)
 ·exact .inr ⟨c,e _ _ h,e _ _ h2⟩
theorem ExtT.at {T:Addr}{H H':Hp}(e:ExtT T H H'){pos:Pos}{q:Str}(t:TabOk H T pos q){b:Addr}{o:HO}(h:H b=some o)(ho:∀ ps,o≠ .tbl ps:=by intro _ z; cases z):H' b=some o:=e b o h (t.ne h ho)
theorem ExtT.seq {T:Addr}{H H':Hp}(e:ExtT T H H'){pos:Pos}{q:Str}(t:TabOk H T pos q){tp:Bool}{b:Addr}{xs:List V}(h:AtS tp H b xs):AtS tp H' b xs:=by
 cases tp with
 | false=>exact e.at t (show H b=some (.lst xs) from h)
 | true=>exact e.at t (show H b=some (.tup xs) from h)
structure FunC (K:W.Frag)(x qual:Str)(st:Stmt)(f:Addr)(fd:FuncData)(c0:Addr):Prop where
 ex:∃ (oc:Value) (od:Option Addr) (kV doc pm:Value) (an:Option Addr) (ct:Value) (osl:Array (Option Value)),fd=PySem.W.fnOf x qual (jG st) (jB st) (j6 st) .none kV doc pm an (.ref c0) ct/\K.lookup f=some ⟨oc,od, .func fd,osl⟩/\PySem.W.codeIn K (.ref c0) qual=true
theorem FunC.ok {P:Program}{w:World}{K:W.Frag}{mg:Str->Option Value}{base:Heap}{x qual:Str}{st:Stmt}{f c0:Addr}{fd:FuncData}{N ps:List Str}{k:Nat}{sp:Sp}(F:FunC K x qual st f fd c0)(S:FnScope N ps (j6 st))(len:∀ vs H Q E,sp vs H Q E->vs.length=ps.length)
  (hbody:∀ (A:Around) (outer:List Env) (s:Shared) (H:Hp) (vs:List V) (Q:VK) (E:XK),Room k (A.deeper (envOfC qual (j6 st) s.heap.objs.size f (.ref c0)))->sp vs H Q E->
   ∃ t,PSs (cxOf CX0 P w K mg base N qual (j6 st) f (.ref c0) A outer s H E).nox (jB st) t/\t { nx:=fun _ H'=>Q .non H',rt:=Q} (y4 N vs) H):FnOk P w K mg base CX0 (k+1) f fd ps sp:=by
 obtain⟨oc,od,kV,doc,pm,an,ct,osl,rfl,lk,hcd⟩:=F.ex
 refine fn_of lk hcd S len fun A outer s H vs Q E hr hsp=>?_
 obtain⟨t,ht,hq⟩:=hbody A outer s H vs Q E hr hsp
 exact⟨t,ht.nox,hq⟩
section
variable {X:Cx}{sc:Scope}{cl:List (Str×Addr)}{C:Addr}{Nc:List Str}{fp:List Addr}{s:Shared}{H:Hp}
theorem jPF {sc2:Scope}(h:(sc2.names.all fun y=>decide (y.2= .free->sc.names.lookup y.1=some .cell\/sc.names.lookup y.1=some .free))=true):
  ∀ y∈sc2.names,y.2= .free->(blk X sc cl C Nc fp s H).env.scope.names.lookup y.1=some .cell\/(blk X sc cl C Nc fp s H).env.scope.names.lookup y.1=some .free:=fun y hy hf=>by
 rcases aF (bC.mp h y hy) hf with q | q
 ·exact .inl (jAF (by decide) q)
 ·exact jBJ q
theorem jP3 {tg a:Expr}{ta:TE}(hl:JE (blk X sc cl C Nc fp s H) a ta):JI (blk X sc cl C Nc fp s H) tg a (iTup X.K ta):=qF hl
variable {sc2:Scope}{cl2:List (Str×Addr)}{C2:Addr}{Nc2:List Str}{fp2:List Addr}{s2:Shared}{H2:Hp}
theorem jOL:OpR (blk (blk X sc cl C Nc fp s H) sc2 cl2 C2 Nc2 fp2 s2 H2) (compareOp .In) (rIn X.K false):=jCB
theorem jIJ:yE (blk X sc cl C Nc fp s H) (.type "tuple") (fun xs H Q=>∃ p ys,xs=[.ref p]/\((SqL X.K H p ys/\∀ l,H l=none->Q (.ref l) (upd H l (.tup ys)))\/(SqT X.K H p ys/\Q (.ref p) H))):=jM
theorem jIL (hc:X.calm=true):yE (blk X sc cl C Nc fp s H) (.builtin "all") (fun xs H Q=>∃ (p:Addr) (bs:List Bool),xs=[.ref p]/\SqL X.K H p (bs.map V.bl)/\Q (.bl (bs.all id)) H):=jEH hc
end
theorem jQF {X:Cx}{st:Stmt} :JS X st (fun _ _ _=>False):=⟨fun _ _ _ _ _ _ h=>h.elim⟩
section
variable {K:W.Frag}{m:List (Option Nat)}{g:TG}{tt:TT}{te:TE}{σ:St}{H:Hp}{Q:VK}
abbrev TupsK (H H':Hp):Prop:=∀ b xs,H b=some (.tup xs)->H' b=some (.tup xs)
structure ZOk (Z:Hp->List V->Nat->Prop):Prop where
 z0:∀ H,Z H [] 0
 mono:∀ H H' zs j,TupsK H H'->Z H zs j->Z H' zs j
 len:∀ H zs j,Z H zs j->zs.length<=j
theorem jL3 {H:Hp}{D:Addr}{zs:List V}(h:H D=some (.lst zs))(o:HO):TupsK H (upd H D o):=fun b xs hb=>by
 rw[j9 (fun e=>by rw[e,h] at hb; cases hb)]
 exact hb
def TurnZ (g:TG)(tt:TT)(te:TE)(σP:St->Prop)(Z:Hp->List V->Nat->Prop)(x:V)(j:Nat)(σ':St)(H':Hp)(zs:List V):Prop:=
 ∀ (R:St->V->Hp->Prop) (S:St->Hp->Prop),(∀ σ2 v H2,σP σ2->Ext H' H2->Z H2 (zs++[v]) (j+1)->R σ2 v H2)->(∀ σ2 H2,σP σ2->Ext H' H2->Z H2 zs (j+1)->S σ2 H2)->
  g x σ' H' fun σ2 H2=>tt σ2 H2 fun b H3=>if b=true then te σ2 H3 (R σ2) else S σ2 H3
theorem jNM {tp:Bool}{a:Addr}{xs:List V}(σP:St->Prop)(Z:Hp->List V->Nat->Prop)(zo:ZOk Z)(ha:AtS tp H a xs)(hn:xs.length<sizeLine)(h0:σP (blkσ m σ))
  (step:∀ j x σ' H' zs,xs[j]?=some x->σP σ'->Ext H H'->Z H' zs j->TurnZ g tt te σP Z x j σ' H' zs)
  (hd:∀ D H' zs,H' D=some (.lst zs)->Ext H H'->H D=none->Z H' zs xs.length->Q (.ref D) H'):qL m g tt te σ Q (match tp with | false=>Itl K a | true=>Itt K a) H:=by
 have turn:∀ D j σ' H' zs x,H D=none->xs[j]?=some x->(σP σ'/\Ext H H'/\H' D=some (.lst zs)/\H D=none/\Z H' zs j)->g x σ' H' fun σ2 H2=>tt σ2 H2 fun b H3=>if b=true then te σ2 H3 fun v H4=>H4 D=some (.lst zs)/\(σP σ2/\Ext H (upd H4 D (.lst (zs++[v])))/\(upd H4 D (.lst (zs++[v]))) D=some (.lst (zs++[v]))/\H D=none/\Z (upd H4 D (.lst (zs++[v]))) (zs++[v]) (j+1)) else (σP σ2/\Ext H H3/\H3 D=some (.lst zs)/\H D=none/\Z H3 zs (j+1)):=by
  rintro D j σ' H' zs x hD hx ⟨p,e,h2,hn,hz⟩
  exact step j x σ' H' zs hx p e hz _ _ (fun σ2 v H2 p2 e2 z2=>⟨e2 _ _ h2,p2,(e.trans e2).updNew hn _,j5,hn,zo.mono _ _ _ _ (jL3 (e2 _ _ h2) _) z2⟩) fun σ2 H2 p2 e2 z2=>⟨p2,e.trans e2,e2 _ _ h2,hn,z2⟩
 cases tp with
 | false=>exact jH5 (xs:=xs) hn (fun D j σ' H' zs=>σP σ'/\Ext H H'/\H' D=some (.lst zs)/\H D=none/\Z H' zs j) (fun D hD=>⟨h0,(Ext.refl _).new hD _,j5,hD,zo.z0 _⟩) (fun D j σ' H' zs hD ⟨_,e,h2,_,hz⟩=>⟨e _ _ ha,h2,zo.len _ _ _ hz⟩) turn fun D σ' H' zs hD ⟨_,e,h2,hn,hz⟩=>hd D H' zs h2 e hn hz
 | true=>exact jB1 (xs:=xs) hn (fun D j σ' H' zs=>σP σ'/\Ext H H'/\H' D=some (.lst zs)/\H D=none/\Z H' zs j) (fun D hD=>⟨h0,(Ext.refl _).new hD _,j5,hD,zo.z0 _⟩) (fun D j σ' H' zs hD ⟨_,e,h2,_,hz⟩=>⟨e _ _ ha,h2,zo.len _ _ _ hz⟩) turn fun D σ' H' zs hD ⟨_,e,h2,hn,hz⟩=>hd D H' zs h2 e hn hz
theorem jDL {a:Addr}{xs:List V}(σP:St->Prop)(Z:Hp->List V->Nat->Prop)(zo:ZOk Z)(ha:H a=some (.tup xs))(hn:xs.length<sizeLine)(h0:σP (blkσ m σ))
  (step:∀ j x σ' H' zs,xs[j]?=some x->σP σ'->Ext H H'->Z H' zs j->TurnZ g tt te σP Z x j σ' H' zs)
  (hd:∀ D H' zs,H' D=some (.lst zs)->Ext H H'->H D=none->Z H' zs xs.length->Q (.ref D) H'):qL m g tt te σ Q (Itt K a) H:=jNM (tp:=true) σP Z zo ha hn h0 step hd
theorem jB2 {a:Addr}{xs:List V}(σP:St->Prop)(Z:Hp->List V->Nat->Prop)(zo:ZOk Z)(ha:H a=some (.lst xs))(hn:xs.length<sizeLine)(h0:σP (blkσ m σ))
  (step:∀ j x σ' H' zs,xs[j]?=some x->σP σ'->Ext H H'->Z H' zs j->TurnZ g tt te σP Z x j σ' H' zs)
  (hd:∀ D H' zs,H' D=some (.lst zs)->Ext H H'->H D=none->Z H' zs xs.length->Q (.ref D) H'):qL m g tt te σ Q (Itl K a) H:=jNM (tp:=false) σP Z zo ha hn h0 step hd
end
def mapZ {α:Type}(l:List α)(f:α->V):Hp->List V->Nat->Prop:=fun _ zs j=>zs=(l.take j).map f
theorem mapZ.ok {α:Type}(l:List α)(f:α->V):ZOk (mapZ l f):=⟨fun _=>rfl,fun _ _ _ _ _ h=>h,fun _ zs j h=>by
 rw[show zs=_ from h,ae]
 exact bh _ _⟩
theorem mapZ.yes {α:Type}{l:List α}{f:α->V}{H H':Hp}{zs:List V}{j:Nat}{x:α}(h:mapZ l f H zs j)(hx:l[j]?=some x):mapZ l f H' (zs++[f x]) (j+1):=by
 show _=_
 rw[aV,hx,aJ,<- show zs=_ from h]
 rfl
theorem mapZ.all {α:Type}{l:List α}{f:α->V}{H:Hp}{zs:List V}{n:Nat}(h:mapZ l f H zs n)(hn:l.length<=n):zs=l.map f:=by
 rw[show zs=_ from h,bE hn]
theorem int_at {l:List Int}{j:Nat}{x:V}(h:(l.map V.int)[j]?=some x):∃ z:Int,l[j]?=some z/\x=V.int z:=by
 rw[aN] at h
 cases hq:l[j]? with
 | none=>rw[hq] at h; cases h
 | some z=>rw[hq] at h; cases h; exact⟨z,rfl,rfl⟩
section
variable {X:Cx}{sc:Scope}{cl:List (Str×Addr)}{C:Addr}{Nc:List Str}{fp:List Addr}{s:Shared}{H:Hp}
end
section
variable {X:Cx}{st:Stmt}{sts:List Stmt}{t:TS}{e:Expr}{tt:TT}
end
end L2
namespace L2
open PySem PySem.Spec PyProof.Rows
end L2
namespace L2
open PySem
end L2
namespace L2
open PySem PySem.Spec PyProof.Rows
section
variable {m:List (Option Nat)}{g:TG}{tt:TT}{te:TE}{σ:St}{H1:Hp}{Q:VK}
end
open PySem.AutoSeq1 (wpAny_loadPart')
section
variable {prog:Program}{w:World}{A:Around}{E:Value->Shared->Prop}{s:Shared}
end
section
variable {X:Cx}
variable {sc:Scope}{cl:List (Str×Addr)}{C:Addr}{Nc:List Str}{fp:List Addr}{s:Shared}{H:Hp}
end
section
variable {X:Cx}
def rMinL (K:W.Frag):List V->Hp->VK->Prop:=fun xs H Q=>∃ (p:Addr) (ns:List Int),xs=[.ref p]/\(SqL K H p (ns.map V.int))/\0<ns.length/\∀ m,m∈ns->(∀ a∈ns,m<=a)->Q (.int m) H
theorem jNQ (hc:X.calm=true):yE X (.builtin "min") (rMinL X.K):=by
 intro pins s σ H xs us Q I r h
 obtain⟨p,ns,rfl,hq,hn,q⟩:=h
 obtain⟨u,rfl,rx⟩:=r.one
 cases rx
 obtain⟨its,r',pl,hz⟩:=I.list hq
 have hlen:=r'.length
 rw[ae] at hlen
 have val:∀ (i:Nat) (v:Value),its[i]?=some v->∃ t,v=Value.int (ns.getD i 0) t:=fun i v hi=>by
  have hb:i<ns.length:=by
   rw[hlen]
   exact(ai.mp hi).1
  obtain⟨u,hu,ru⟩:=r'.get (i:=i) (x:= .int (ns[i])) (by simp [hb])
  rw[hi] at hu
  cases hu
  obtain⟨t,rfl⟩:=ru
  exact⟨t,by simp [List.getD,hb]⟩
 refine call_min_walk (cP pl.isList ?_)
 have hne:p≠s.heap.objs.size:=by
  obtain⟨o,ho,_⟩:=pl.isList
  exact aS (aA ho)
 refine⟨s.heap.objs.size,_,_,_,_,_,_,rfl,gM (by simpa using I.ok.hd hc) _ p hne its.toArray,⟨⟨_,ax _ rfl,rfl,rfl⟩,pl.isList.push _⟩,(fun b hb=>?_),by rw[ag]; omega,CmpOf.ints_lt (fun i=>ns.getD i 0) (fun i v hP=>val i v (by simpa using hP)),fun v h' tk hP hk=>?_⟩
 ·show b<(s.heap.push _).objs.size
  rw[dG]
  obtain⟨o,ho,_⟩:=pl.isList
  have:=aA ho
  rcases aG.mp hb with rfl | hb
  ·exact ir _
  ·rcases aG.mp hb with rfl | hb
   ·exact cC this
   ·cases hb
 ·obtain⟨h1,h2⟩:=argBest_lt (fun i=>ns.getD i 0) (its.toArray.size - 1)
  rw[ag] at h1 h2 hP
  rw[List.getElem?_toArray] at hP
  obtain⟨t,rfl⟩:=val _ v hP
  refine⟨.int _,H,I.kept (t':=tk) fun b o e=>hk b o (by
   intro z
   have z:b=s.heap.objs.size:=by simpa using z
   exact absurd (aA e) (by rw[z]; exact cO _)) (af _ e),⟨_,rfl⟩,q _ ?_ fun a ha=>?_⟩
  ·generalize argBest _ _=j at h1
   have hj:j<ns.length:=by omega
   rw[ak,aw hj]
   exact cz hj
  ·obtain⟨j,hj⟩:=List.mem_iff_getElem?.mp ha
   have hjl:=(ai.mp hj).1
   have:=h2 j (by omega)
   have e:ns.getD j 0=a:=by rw[ak,hj]; rfl
   rw[e] at this
   exact this
end
structure FnZ (P:Program)(w:World)(K:W.Frag)(mg:Str->Option Value)(base:Heap)(CX:CXT)(Z:Shared->Hp->Prop)(k:Nat)(f:Addr)(fd:FuncData)(ps:List Str)(sp:Sp):Prop where
 len:∀ vs H Q E,sp vs H Q E->vs.length=ps.length
 run:∀ (A:Around) (outer:List Env) (s:Shared) (H:Hp) (args:Args) (us:List Value) (vs:List V) (Q:VK) (E:XK),Room k A->Env0 P w K mg base A outer s H->BindsTo s fd args (ps.zip us)->Vals vs us->Z s H->sp vs H Q E->
  codeAny (model P w) A (.call (.ref f) args) (CR CX outer P w H s Q E) s
theorem jUV {Z:Shared->Hp->Prop}{CX:CXT}{P:Program}{w:World}{K:W.Frag}{mg:Str->Option Value}{base:Heap}{k:Nat}{f:Addr}{name qual:Str}{params:Arguments}{body:List Stmt}{scope:Scope}{dV kV doc pm cdv ct oc:Value}{an od:Option Addr}
  {osl:Array (Option Value)}{N ps:List Str}{sp:Sp}(lk:K.lookup f=some ⟨oc,od, .func (PySem.W.fnOf name qual params body scope dV kV doc pm an cdv ct),osl⟩) (hcd:PySem.W.codeIn K cdv qual=true) (S:FnScope N ps scope)
  (len:∀ vs H Q E,sp vs H Q E->vs.length=ps.length)
  (hbody:∀ (A:Around) (outer:List Env) (s:Shared) (H:Hp) (vs:List V) (Q:VK) (E:XK),Room k (A.deeper (envOfC qual scope s.heap.objs.size f cdv))->Z s H->sp vs H Q E->
   ∃ t,PSs (cxOf CX P w K mg base N qual scope f cdv A outer s H E) body t/\t { nx:=fun _ H'=>Q .non H',rt:=Q} (y4 N vs) H):
  FnZ P w K mg base CX Z (k+1) f (PySem.W.fnOf name qual params body scope dV kV doc pm an cdv ct) ps sp:=by
 refine⟨len,fun A outer s H args us vs Q E hr e0 hb r hz hsp=>?_⟩
 have hl:=len _ _ _ _ hsp
 have KX:K.In s.heap:=e0.mod.kin.keeps fun b o e=>(e0.bs b o e).1
 have lim:s.heap.NoLimit:=e0.mod.nolimit.keeps fun b o e=>(e0.bs b o e).1
 have hkind:∀ y∈ps.zip us,scope.names.lookup y.1=some .local\/(scope.names.lookup y.1=some .cell/\((cellsFrom (s.heap.objs.size+1) scope.names []).lookup y.1).isSome=true):=fun ⟨n,v⟩ hy=>by
  rcases S.par n (dN hy).1 with q | q
  ·exact .inl q
  ·exact .inr ⟨q,fQ _ _ _ (.inl q)⟩
 refine codeAny_call_function hr.depth (KX _ _ lk) rfl S.co S.gen rfl (ja KX hcd) (hb _ _ _ _ ?_)
 refine gI S.kind hkind fun env he s1 x=>?_
 subst he
 refine⟨lim.keeps x.toInCall.keep,codeAny_func ?_⟩
 obtain⟨t,ht,hq⟩:=hbody A outer s H vs Q E (hr.deeper _) hz hsp
 have I:Inv (cxOf CX P w K mg base N qual scope f cdv A outer s H E) [] (y4 N vs) H s1:=jGZ S hr.hd e0 hl r x
 refine cr (ht [] s1 (y4 N vs) H _ I hq) (fun fl s' hs=>?_) fun e s' hs=>hs
 have fin:∀ {σ':St}{H':Hp}{v:V}{u:Value},Inv (cxOf CX P w K mg base N qual scope f cdv A outer s H E) [] σ' H' s'->RelV v u->Q v H'->CE outer P w H s Q u s':=
  fun {σ' H' v u} J rv q=>⟨v,H',J.os,J.bare,J.base,J.hok,rv,q⟩
 cases fl with
 | ret u=>
  obtain⟨v,σ',H',J,rv,q⟩:=hs
  exact fin J rv q
 | next=>
  obtain⟨σ',H',J,q⟩:=hs
  exact fin (v:=V.non) (u:=Value.none) J rfl q
 | brk=>
  obtain⟨_,_,_,q⟩:=hs
  exact False.elim q
 | cont=>
  obtain⟨_,_,_,q⟩:=hs
  exact False.elim q
def ZSt (Z:Shared->Hp->Prop):Prop:=∀ (fs:List Addr) (s s':Shared) (H H':Hp),Un fs [] H H' s.heap s'.heap->Z s H->Z s' H'
abbrev ZT:Shared->Hp->Prop:=fun _ _=>True
theorem ZT.st:ZSt ZT:=fun _ _ _ _ _ _ _=>trivial
theorem FnZ.ok {P:Program}{w:World}{K:W.Frag}{mg:Str->Option Value}{base:Heap}{CX:CXT}{k:Nat}{f:Addr}{fd:FuncData}{ps:List Str}{sp:Sp}(F:FnZ P w K mg base CX ZT k f fd ps sp):FnOk P w K mg base CX k f fd ps sp:=
 ⟨F.len,fun A outer s H args us vs Q E hr he hb hv hs=>F.run A outer s H args us vs Q E hr he hb hv trivial hs⟩
section
variable {P:Program}{w:World}{K:W.Frag}{mg:Str->Option Value}{base:Heap}
theorem Fun.okZ {Z:Shared->Hp->Prop}{x qual:Str}{st:Stmt}{f:Addr}{fd:FuncData}{N ps:List Str}{k:Nat}{sp:Sp}(F:Fun K x qual st f fd)(S:FnScope N ps (j6 st))(len:∀ vs H Q E,sp vs H Q E->vs.length=ps.length)
  (hbody:∀ (cdv:Value) (A:Around) (outer:List Env) (s:Shared) (H:Hp) (vs:List V) (Q:VK) (E:XK),Room k (A.deeper (envOfC qual (j6 st) s.heap.objs.size f cdv))->Z s H->sp vs H Q E->
   ∃ t,PSs (cxOf CX0 P w K mg base N qual (j6 st) f cdv A outer s H E).nox (jB st) t/\t { nx:=fun _ H'=>Q .non H',rt:=Q} (y4 N vs) H):FnZ P w K mg base CX0 Z (k+1) f fd ps sp:=by
 obtain⟨_,_,_,_,_,_,cdv,_,_,rfl,lk,hcd⟩:=F.ex
 refine jUV lk hcd S len fun A outer s H vs Q E hr hz hsp=>?_
 obtain⟨t,h,q⟩:=hbody cdv A outer s H vs Q E hr hz hsp
 exact⟨t,h.nox,q⟩
end
structure Callee (P:Program)(w:World)(K:W.Frag)(mg:Str->Option Value)(base:Heap)(Z:Shared->Hp->Prop)(zh:Hp->Prop)(k:Nat)(a:Addr)(sp:Sp):Prop where
 fn:∀ (A:Around) (outer:List Env) (s:Shared) (H:Hp),Env0 P w K mg base A outer s H->zh H->PySem.W.FnAt a s.heap
 run:∀ (A:Around) (outer:List Env) (s:Shared) (H:Hp) (us:List Value) (vs:List V) (Q:VK) (E:XK),Room k A->Env0 P w K mg base A outer s H->Z s H->zh H->Vals vs us->sp vs H Q E->codeAny (model P w) A (.call (.ref a) ⟨us,[]⟩) (CR CX0 outer P w H s Q E) s
def jTE (a:Addr)(zh:Hp->Prop)(sp:Sp)(j:Nat)(t:TA):TE:=fun σ H Q=>σ[j]?=some (some (.ref a))/\t σ H fun vs H1=>zh H1/\sp vs H1 Q E0
section
variable {X:Cx}{Z:Shared->Hp->Prop}{zh:Hp->Prop}{k:Nat}{a:Addr}{sp:Sp}{x:Str}{p pos:Pos}{e:Expr}{es:List Expr}{t:TA}{j:Nat}
theorem jPA (F:Callee X.prog X.w X.K X.mg X.base Z zh k a sp)(hr:Room k X.A)(st:ZSt Z)(hz:Z X.s₀ X.H₀)(hex:X.ex=[])(hN:X.N[j]?=some x)(hv:Vis1 X x)
  (ha:JA X (e::es) t) (he:starEach (e::es) X.env=(false,eval e X.env)::starEach es X.env) (hdb:(x==("__debug__" :Str))=false:=by decide) (hcd:(x==("__classdict__" :Str))=false:=by decide) (hpl:(backTo pos (starEach es X.env)).any (·.1)=false:=by rfl):
  JE X (.Call (.Name x p) (e::es) [] pos) (jTE a zh sp j t):=by
 refine⟨fun pins s σ H Q I h=>?_⟩
 obtain⟨hj,h⟩:=h
 refine cE (thn (jGK (pos:=p) hN hv.a hdb hcd pins s σ H (fun v H'=>v= .ref a/\H'=H) I ⟨_,hj,rfl,rfl⟩) fun v s1 ⟨v',H1,I1,r1,q1,q2⟩=>?_)
 subst q1 q2
 cases (show v=Value.ref a from r1)
 have hX:=thn (ha.h pos pins s1 σ H1 _ I1 h) fun us s2 (z:AP X pins σ _ us s2)=>show PySem.W.FnAt a s2.heap/\wpAny (model X.prog X.w) X.A (call (.ref a) ([]++us)) (EP X pins σ Q) X.xe s2 from by
  obtain⟨vs,H2,I2,r,h1,h2⟩:=z
  have un:=I2.base
  rw[hex] at un
  refine⟨F.fn _ _ _ _ I2.env0 h1,ix (dQ (F.run X.A X.stack s2 H2 us vs Q E0 hr I2.env0 (st _ _ _ _ _ un hz) h1 r h2) fun r s' hq=>?_)⟩
  cases r with
  | error e=>exact hq.elim
  | ok fl=>
   cases fl with
   | ret u=>exact I2.after hq
   | next=>exact False.elim hq
   | brk=>exact False.elim hq
   | cont=>exact False.elim hq
 rw[he] at hX ⊢
 exact gB (by show ((false || (backTo pos (starEach es X.env)).any (·.1)) || false)=false; rw[hpl]; rfl) iK (eL hX)
end
def nlP (q:Str)(args:Arguments)(body:Expr)(scope:Scope)(cl:List (Str×Addr))(a c:Addr):Heap->Prop:=fun h=>∃ pm ctv,h.get? a=some (kla_obj "<lambda>" q args body scope cl pm c ctv)
theorem nlP.stay {q:Str}{args:Arguments}{body:Expr}{scope:Scope}{cl:List (Str×Addr)}{a c:Addr}(h1 h2:Heap)(p:nlP q args body scope cl a c h1)(k:∀ o,h1.get? a=some o->h2.get? a=some o):nlP q args body scope cl a c h2:=by
 obtain⟨m,t,e⟩:=p
 exact⟨m,t,k _ e⟩
def tLam (q:Str)(args:Arguments)(body:Expr)(scope:Scope)(cl:List (Str×Addr))(T:Addr)(pos:Pos):TE:=fun _ H Q=>TabOk H T pos q/\∀ a c H',H' a=some (.ext (nlP q args body scope cl a c))->H' c=some (.ext (ncP q c))->H' T=some (.tbl (onePs pos c))->ExtT T H H'->H a=none->Q (.ref a) H'
theorem jUQ {X:Cx}{args:Arguments}{body:Expr}{scope:Scope}{pos:Pos}{c0 T:Addr}(hcode:X.env.code= .ref c0)(CH:PySem.W.CodeHd X.base c0 T)(hbm:BltAt X.base X.mg)
  (hfree:∀ y∈scope.names,y.2= .free->X.env.scope.names.lookup y.1=some .cell\/X.env.scope.names.lookup y.1=some .free) (hdf:defaultsOf args X.env=([],[])):
  JE X (.Lambda args body scope pos) (tLam (X.env.qual++ "<lambda>") args body scope (jN X.env.cells scope.names []) T pos):=by
 refine⟨fun pins s σ H Q I h=>?_⟩
 obtain⟨tab,h⟩:=h
 refine PySem.W.kla_eval hdf ?_
 have hcl:closureFor scope X.env=pure (jN X.env.cells scope.names []):=jII fun y hy hz=>I.ok.has y.1 (hfree y hy hz)
 have hg:s.heap.Ns mainGlobals X.mg:=I.mod.glob.keeps I.bk
 have C:=CH.keeps I.bk
 have gT:∀ {ps:Array Value},H T=some (.tbl ps)->mainGlobals≠T:=fun hT z=>by
  obtain⟨o,es,ep,e,_⟩:=I.mod.glob
  have:=(I.bs _ _ e).2
  rw[z,hT] at this
  cases this
 have bT:∀ {ps:Array Value},H T=some (.tbl ps)->s.heap.BuiltinsAt X.mg T:=fun hT=>by
  obtain⟨bm,o,h1,h2,h3,h4,h5,h6,h7⟩:=hbm
  refine⟨bm,o,h1,h2,h3,fun z=>?_,(I.bs _ _ h4).1,h5,h6,h7⟩
  have:=(I.bs _ _ h4).2
  rw[z,hT] at this
  cases this
 rcases tab with hT | ⟨c,hT,hc⟩
 ·refine PySem.W.kla_makeFunction hcl I.ok.glob hg hcode C (I.hok T _ hT) trivial rfl (gT hT) (bT hT) fun c ctv h' tk k1 k2 k3 k4 k5=>?_
  obtain⟨oc,hoc⟩:=ncP.is (q:=X.env.qual++ "<lambda>") k4
  have I1:Inv X pins σ (upd (upd H T (.tbl (#[]++onePs pos c))) c (.ext (ncP (X.env.qual++ "<lambda>") c))) { s with heap:=h',toks:=tk} :=I.grown hT k1 k5 k2 k4 ⟨oc,hoc⟩ ncP.stay
  have I2:=I1.laidX (t':=tk) (a:=h'.objs.size) (φ:=nlP (X.env.qual++ "<lambda>") args body scope (jN X.env.cells scope.names []) h'.objs.size c) (h':=h'.push (kla_obj "<lambda>" (X.env.qual++ "<lambda>") args body scope (jN X.env.cells scope.names []) ((X.mg "__name__").getD .none) c ctv)) (fun b u q=>af _ q) (ao _) ⟨_,ctv,ax _ rfl⟩ ⟨_,ax _ rfl⟩ nlP.stay
  have hcn:H c=none:=I.hok.fresh k2
  have han:H h'.objs.size=none:=I.hok.fresh (bb k2 (dC k3))
  have ca:c≠h'.objs.size:=aS k3
  have Tc:T≠c:=fun z=>by rw[z,hcn] at hT; cases hT
  have Ta:T≠h'.objs.size:=fun z=>by rw[z,han] at hT; cases hT
  refine⟨.ref _,_,I2,rfl,h _ c _ j5 (by rw[j9 ca,j5]) (by rw[j9 Ta,j9 Tc,j5,jd]) (fun b o e n=>?_) han⟩
  rw[j9 (jA e han),j9 (jA e hcn),j9 n]
  exact e
 ·refine PySem.W.kla_makeFunctionHit (cv:= .ref c) hcl I.ok.glob hg hcode C (I.hok T _ hT) (by exact trivial) (by simp [codeAmong,rawInt]) (bT hT) fun ctv h' tk k1 k2=>?_
  have I2:=I.laidX (t':=tk) (a:=h'.objs.size) (φ:=nlP (X.env.qual++ "<lambda>") args body scope (jN X.env.cells scope.names []) h'.objs.size c) (h':=h'.push (kla_obj "<lambda>" (X.env.qual++ "<lambda>") args body scope (jN X.env.cells scope.names []) ((X.mg "__name__").getD .none) c ctv)) (fun b u q=>af _ (k1 b u q)) k2 ⟨_,ctv,ax _ rfl⟩ ⟨_,ax _ rfl⟩ nlP.stay
  have han:H h'.objs.size=none:=I.hok.fresh k2
  refine⟨.ref _,_,I2,rfl,h _ c _ j5 (by rw[j9 (jA hc han)]; exact hc) (by rw[j9 (jA hT han)]; exact hT) (fun b o e n=>?_) han⟩
  rw[j9 (jA e han)]
  exact e
theorem jUW {P:Program}{w:World}{K:W.Frag}{mg:Str->Option Value}{base:Heap}{k:Nat}{q:Str}{args:Arguments}{body:Expr}{scope:Scope}{N ps fs:List Str}{sp:Sp}{cl:List (Str×Addr)}{fv:List V}{a c:Addr}(S:NScope N ps fs scope)(len:∀ vs H Q E,sp vs H Q E->vs.length=ps.length)
  (hb:∀ pm ctv (us:List Value),us.length=ps.length->bindArgs (PySem.W.kla_fn "<lambda>" q args body scope cl pm (.ref c) ctv) ⟨us,[]⟩=pure (ps.zip us))
  (hbody:∀ (A:Around) (outer:List Env) (s:Shared) (H:Hp) (vs:List V) (Q:VK) (E:XK),Room k (A.deeper (envX q scope s.heap.objs.size a (.ref c) cl))->sp vs H Q E->
   ∃ t,PE (cxN P w K mg base N q scope a (.ref c) cl A outer s H) body t/\t (jBN N vs fv) H Q):
  Callee P w K mg base (fun s H=>ClOk cl s H/\FvOk fs fv cl s) (fun H=>H a=some (.ext (nlP q args body scope cl a c))/\H c=some (.ext (ncP q c))) (k+1) a sp:=by
 refine⟨fun A outer s H e z=>?_,fun A outer s H us vs Q E hr e0 hz zh r hsp=>?_⟩
 ·obtain⟨⟨m,t,g⟩,_,_⟩:=(show ObjOk P w H s.heap a (.ext _) from e.hok a _ z.1)
  exact⟨_,_,_,_,g⟩
 obtain⟨C,Fv⟩:=hz
 obtain⟨⟨pm,ctv,ho⟩,_,_⟩:=(show ObjOk P w H s.heap a (.ext _) from e0.hok a _ zh.1)
 obtain⟨hc,_,_⟩:=(show ObjOk P w H s.heap c (.ext _) from e0.hok c _ zh.2)
 have hl:us.length=ps.length:=r.length.symm.trans (len _ _ _ _ hsp)
 have lim:s.heap.NoLimit:=e0.mod.nolimit.keeps fun b o e=>(e0.bs b o e).1
 refine PySem.W.kla_callFunE hr.depth ho rfl S.co S.gen rfl hc ?_
 rw[hb pm ctv us hl]
 refine ah (wpAny_newFunctionEnv S.nocell (fun y hy=>S.par y.1 (dN hy).1) (fun h₁ hns hsb=>⟨lim.fresh _ hsb,?_⟩) S.kind)
 show codeAny _ _ (.expr body (envX q scope s.heap.objs.size a (.ref c) cl)) _ _
 have hk:∀ b o,s.heap.get? b=some o->h₁.get? b=some o:=fun b o e=>hsb.extBut b o (aS (aA e)) (af _ e)
 obtain⟨t,ht,hq⟩:=hbody A outer s H vs Q E (hr.deeper _) hsp
 have I:Inv (cxN P w K mg base N q scope a (.ref c) cl A outer s H) [] (jBN N vs fv) H { s with heap:=h₁,toks:=s.toks+(ps.zip us).length} :=jEZ S hr.hd e0 hl r C Fv hns hk
 refine PySem.W.kla_codeExpr (cr (ht [] _ (jBN N vs fv) H _ I hq) (fun u s' hs=>?_) fun e s' hs=>False.elim hs)
 obtain⟨v,H',J,rv,q⟩:=hs
 exact⟨v,H',J.os,J.bare,J.base,J.hok,rv,q⟩
end L2
end
section
namespace TM
open PySem PyProof.Rows
class Od where
 kd:SortKind
 ky:Keyed->Int
 is:Keyed->Prop
abbrev key [Od]:Keyed->Int:=Od.ky
abbrev IsI [Od]:Keyed->Prop:=Od.is
class LtOk (prog:Program) (w:World) (A:Around) (s:Shared) [Od]:Prop where
 lt:∀ {E:Value->Shared->Prop}{st:SortSt}{x y:Keyed}{Q:Option Bool->SortSt->Prop},kindOf st=Od.kd->IsI x->IsI y->Q (some (decide (key x<key y))) st->wpS (model prog w) A E s (lt' x y) Q st
variable [Od]
abbrev AllI (l:List Keyed):Prop:=∀ p∈l,IsI p
abbrev LE (x y:Keyed):Prop:=key x<=key y
def jC2:Bool->Keyed->Array Keyed->Nat->Nat->Nat->StateT SortSt Sem (Option Nat):=sortPriv% PySem.Builtin.gallop
def gallopB: { g:Bool->Keyed->Array Keyed->Nat->Nat->Nat->StateT SortSt Sem (Option Nat) // jC2=g} :=⟨fun _ _ _ _ _ _=>bind _ _,rfl⟩
theorem elP:(sortPriv% PySem.Builtin.elem)=elem':=rfl
theorem ltP:(sortPriv% PySem.Builtin.lt)=lt':=rfl
theorem ltAtP:(sortPriv% PySem.Builtin.ltAt)=ltAt':=rfl
theorem jI8:(sortPriv% PySem.Builtin.gallop)=jC2:=rfl
section
variable {prog:Program}{w:World}{A:Around}{E:Value->Shared->Prop}{s:Shared}
theorem jG6 [LtOk prog w A s]{st:SortSt}{x y:Keyed}{Q:Option Bool->SortSt->Prop}(hk:kindOf st=Od.kd)(hx:IsI x)(hy:IsI y)(h:Q (some (decide (key x<key y))) st):wpS (model prog w) A E s (lt' x y) Q st:=LtOk.lt hk hx hy h
theorem jU {st:SortSt}{arr:Array Keyed}{i:Nat}{p:Keyed}{Q:Keyed->SortSt->Prop}(hi:arr[i]?=some p)(h:Q p st):wpS (model prog w) A E s (elem' arr i) Q st:=by
 rw[elem'_eq,hi]
 exact aI h
end
section
variable {prog:Program}{w:World}{A:Around}{E:Value->Shared->Prop}{s:Shared} [LtOk prog w A s]
theorem jBC {left:Bool}{ky:Keyed}{arr:Array Keyed}{base n hint:Nat}{st:SortSt}{Q:Option Nat->SortSt->Prop}(hk:kindOf st=Od.kd)(hky:IsI ky)(hI:∀ i,i<n->∃ p,arr[base+i]?=some p/\IsI p)(hh:hint<n)(B:Nat->Bool)
  (hB:∀ i p,i<n->arr[base+i]?=some p->B i=(if left=true then decide (key p<key ky) else !decide (key ky<key p))) (mono:∀ i j,i<=j->j<n->B j=true->B i=true)
  (h:∀ k,k<=n->(∀ i,i<k->B i=true)->(∀ i,k<=i->i<n->B i=false)->Q (some k) st):wpS (model prog w) A E s (jC2 left ky arr base n hint) Q st:=by
 rw[gallopB.2]
 delta gallopB
 dsimp only
 simp only [elP,ltP]
 have bey:∀ i (R:Option Bool->SortSt->Prop),i<n->R (some (B i)) st->wpS (model prog w) A E s (do
   let x <- elem' arr (base+i)
   if left=true then lt' x ky else do
    let r <- lt' ky x
    pure (r.map (!·))) R st:=fun i R hi hR=>by
  obtain⟨p,hp,ip⟩:=hI i hi
  refine aC (jU hp ?_)
  have e:=hB i p hi hp
  cases left with
  | true=>
   rw[aq rfl] at e ⊢
   rw[e] at hR
   exact jG6 hk ip hky hR
  | false=>
   rw[am aj] at e ⊢
   rw[e] at hR
   exact aC (jG6 hk hky ip (aI hR))
 have down:∀ i j,i<=j->j<n->B i=false->B j=false:=fun i j hij hj hi=>by
  cases hb:B j with
  | false=>rfl
  | true=>rw[mono i j hij hj hb] at hi; cases hi
 refine aC (bey hint _ hh ?_)
 dsimp only
 cases hb:B hint with
 | true=>
  rw[aq rfl]
  refine aC (dq (bO (I:=fun x c st'=>st'=st/\∃ l o,c=(none,l,o)/\l<o/\x+1<=o/\hint+l<n/\B (hint+l)=true)
   (Q:=fun c st'=>st'=st/\∃ l o,c=(none,l,o)/\l<o/\hint+l<n/\B (hint+l)=true/\(n - hint<=o\/(hint+o<n/\B (hint+o)=false))) ?step ?fin ⟨rfl,0,1,rfl,by omega,by omega,by omega,by rw[jh]; exact hb⟩) ?post)
  case post=>
   rintro c st' ⟨rfl,l,o,rfl,a1,a2,a3,a4⟩
   dsimp only
   have p3:∀ i,i<hint+l+1->B i=true:=fun i hi=>mono i (hint+l) (by omega) a2 a3
   have p4:∀ i,hint+min o (n - hint)<=i->i<n->B i=false:=fun i h1 h2=>by
    rcases a4 with a4 | ⟨a4,a5⟩
    ·omega
    ·exact down (hint+o) i (by omega) h2 a5
   refine aC (dq (bO (I:=fun x c st''=>st''=st'/\∃ lo hi,c=(none,lo,hi)/\lo<=hi/\hi<=n/\hi - lo<=n - x/\(∀ i,i<lo->B i=true)/\(∀ i,hi<=i->i<n->B i=false))
    (Q:=fun c st''=>st''=st'/\∃ k,c=(none,k,k)/\k<=n/\(∀ i,i<k->B i=true)/\(∀ i,k<=i->i<n->B i=false)) ?step2 ?fin2 ⟨rfl,hint+l+1,hint+min o (n - hint),rfl,by omega,by omega,by omega,p3,p4⟩) ?post2)
   case post2=>
    rintro c st'' ⟨rfl,k,rfl,k1,k2,k3⟩
    exact aI (h k k1 k2 k3)
   case fin2=>
    rintro c st'' ⟨rfl,lo,hi,rfl,a1,a2,a3,a4,a5⟩
    have:lo=hi:=by omega
    subst this
    exact⟨rfl,lo,rfl,a2,a4,a5⟩
   case step2=>
    rintro x c st'' _ hx ⟨rfl,lo,hi,rfl,a1,a2,a3,a4,a5⟩
    dsimp only
    by_cases hge:lo ≥ hi
    ·rw[aq hge]
     have:lo=hi:=by omega
     subst this
     exact aI ⟨rfl,lo,rfl,a2,a4,a5⟩
    ·rw[am hge]
     refine aC (bey _ _ (by omega) ?_)
     dsimp only
     cases hb:B (lo+(hi - lo) / 2) with
     | true=>
      rw[aq rfl]
      exact aI ⟨rfl,lo+(hi - lo) / 2+1,hi,rfl,by omega,a2,by omega,fun i hi'=>mono i _ (by omega) (by omega) hb,a5⟩
     | false=>
      rw[am aj]
      exact aI ⟨rfl,lo,lo+(hi - lo) / 2,rfl,by omega,by omega,by omega,a4,fun i h1 h2=>down _ i h1 h2 hb⟩
  case fin=>
   rintro c st' ⟨rfl,l,o,rfl,a1,a2,a3,a4⟩
   exact⟨rfl,l,o,rfl,a1,a3,a4, .inl (by omega)⟩
  case step=>
   rintro x c st' _ hx ⟨rfl,l,o,rfl,a1,a2,a3,a4⟩
   dsimp only
   by_cases hge:o ≥ n - hint
   ·rw[aq hge]
    exact aI ⟨rfl,l,o,rfl,a1,a3,a4, .inl hge⟩
   ·rw[am hge]
    refine aC (bey _ _ (by omega) ?_)
    dsimp only
    cases hb2:B (hint+o) with
    | true=>
     rw[am (by decide)]
     exact aI ⟨rfl,o,2*o+1,rfl,by omega,by omega,by omega,hb2⟩
    | false=>
     rw[aq (by decide)]
     exact aI ⟨rfl,l,o,rfl,a1,a3,a4, .inr ⟨by omega,hb2⟩⟩
 | false=>
  rw[am aj]
  refine aC (dq (bO (I:=fun x c st'=>st'=st/\∃ l o,c=(none,l,o)/\l<o/\x+1<=o/\l<=hint/\B (hint - l)=false)
   (Q:=fun c st'=>st'=st/\∃ l o,c=(none,l,o)/\l<o/\l<=hint/\B (hint - l)=false/\(hint+1<=o\/(o<=hint/\B (hint - o)=true))) ?step ?fin ⟨rfl,0,1,rfl,by omega,by omega,by omega,by rw[Nat.sub_zero]; exact hb⟩) ?post)
  case post=>
   rintro c st' ⟨rfl,l,o,rfl,a1,a2,a3,a4⟩
   dsimp only
   have p3:∀ i,i<hint+1 - min o (hint+1)->B i=true:=fun i hi=>by
    rcases a4 with a4 | ⟨a4,a5⟩
    ·omega
    ·exact mono i (hint - o) (by omega) (by omega) a5
   have p4:∀ i,hint - l<=i->i<n->B i=false:=fun i h1 h2=>down (hint - l) i (by omega) h2 a3
   refine aC (dq (bO (I:=fun x c st''=>st''=st'/\∃ lo hi,c=(none,lo,hi)/\lo<=hi/\hi<=n/\hi - lo<=n - x/\(∀ i,i<lo->B i=true)/\(∀ i,hi<=i->i<n->B i=false))
    (Q:=fun c st''=>st''=st'/\∃ k,c=(none,k,k)/\k<=n/\(∀ i,i<k->B i=true)/\(∀ i,k<=i->i<n->B i=false)) ?step2 ?fin2 ⟨rfl,hint+1 - min o (hint+1),hint - l,rfl,by omega,by omega,by omega,p3,p4⟩) ?post2)
   case post2=>
    rintro c st'' ⟨rfl,k,rfl,k1,k2,k3⟩
    exact aI (h k k1 k2 k3)
   case fin2=>
    rintro c st'' ⟨rfl,lo,hi,rfl,a1,a2,a3,a4,a5⟩
    have:lo=hi:=by omega
    subst this
    exact⟨rfl,lo,rfl,a2,a4,a5⟩
   case step2=>
    rintro x c st'' _ hx ⟨rfl,lo,hi,rfl,a1,a2,a3,a4,a5⟩
    dsimp only
    by_cases hge:lo ≥ hi
    ·rw[aq hge]
     have:lo=hi:=by omega
     subst this
     exact aI ⟨rfl,lo,rfl,a2,a4,a5⟩
    ·rw[am hge]
     refine aC (bey _ _ (by omega) ?_)
     dsimp only
     cases hb:B (lo+(hi - lo) / 2) with
     | true=>
      rw[aq rfl]
      exact aI ⟨rfl,lo+(hi - lo) / 2+1,hi,rfl,by omega,a2,by omega,fun i hi'=>mono i _ (by omega) (by omega) hb,a5⟩
     | false=>
      rw[am aj]
      exact aI ⟨rfl,lo,lo+(hi - lo) / 2,rfl,by omega,by omega,by omega,a4,fun i h1 h2=>down _ i h1 h2 hb⟩
  case fin=>
   rintro c st' ⟨rfl,l,o,rfl,a1,a2,a3,a4⟩
   exact⟨rfl,l,o,rfl,a1,a3,a4, .inl (by omega)⟩
  case step=>
   rintro x c st' _ hx ⟨rfl,l,o,rfl,a1,a2,a3,a4⟩
   dsimp only
   by_cases hge:o ≥ hint+1
   ·rw[aq hge]
    exact aI ⟨rfl,l,o,rfl,a1,a3,a4, .inl hge⟩
   ·rw[am hge]
    refine aC (bey _ _ (by omega) ?_)
    dsimp only
    cases hb2:B (hint - o) with
    | true=>
     rw[aq rfl]
     exact aI ⟨rfl,l,o,rfl,a1,a3,a4, .inr ⟨by omega,hb2⟩⟩
    | false=>
     rw[am aj]
     exact aI ⟨rfl,o,2*o+1,rfl,by omega,by omega,by omega,hb2⟩
end
abbrev jGH (st:SortSt)(g:Nat):SortSt:=SortSt.mk' (kindOf st) (arrOf st) (pendingOf st) g (failedOf st)
def jC8:Nat->StateT SortSt Sem Unit:=sortPriv% PySem.Builtin.setMinGallop
theorem jLI:(sortPriv% PySem.Builtin.setMinGallop)=jC8:=rfl
theorem jA2 (g:Nat):jC8 g=modify fun s=>jGH s g:=rfl
def jFH:Array Keyed->Array Keyed->StateT SortSt Sem (Array Keyed):=sortPriv% PySem.Builtin.mergeLo
def mergeLoB: { g:Array Keyed->Array Keyed->StateT SortSt Sem (Array Keyed) // jFH=g} :=⟨fun _ _=>bind _ _,rfl⟩
theorem jOV:(sortPriv% PySem.Builtin.mergeLo)=jFH:=rfl
def jFI:Array Keyed->Array Keyed->StateT SortSt Sem (Array Keyed):=sortPriv% PySem.Builtin.mergeHi
def mergeHiB: { g:Array Keyed->Array Keyed->StateT SortSt Sem (Array Keyed) // jFI=g} :=⟨fun _ _=>bind _ _,rfl⟩
theorem jOW:(sortPriv% PySem.Builtin.mergeHi)=jFI:=rfl
abbrev Srt (l:List Keyed):Prop:=l.Pairwise LE
structure ML (a b out:List Keyed)(ia ib:Nat):Prop where
 perm:(out++(a.drop ia++b.drop ib)).Perm (a++b)
 srt:Srt out
 le:∀ x∈out,∀ y∈a.drop ia++b.drop ib,LE x y
theorem Srt.drop {l:List Keyed}(h:Srt l)(i:Nat):Srt (l.drop i):=h.sublist (gY _ _)
theorem Srt.take {l:List Keyed}(h:Srt l)(i:Nat):Srt (l.take i):=h.sublist (dw _ _)
theorem yT {l m:List Keyed}(h1:Srt l)(h2:Srt m)(h:∀ x∈l,∀ y∈m,LE x y):Srt (l++m):=bW.mpr ⟨h1,h2,h⟩
theorem ML.takeA {a b out:List Keyed}{ia ib:Nat}(h:ML a b out ia ib)(sa:Srt a)(k:Nat)(hc:∀ x∈(a.drop ia).take k,∀ y∈b.drop ib,LE x y):ML a b (out++(a.drop ia).take k) (ia+k) ib:=by
 have e:a.drop (ia+k)=(a.drop ia).drop k:=by rw[gP]
 refine⟨?_,yT h.srt ((sa.drop ia).take k) fun x hx y hy=>h.le x hx y (aX _ (bP hy)),fun x hx y hy=>?_⟩
 ·refine List.Perm.trans ?_ h.perm
  rw[e]
  refine iL ?_
  rw[aU,<- aU ((a.drop ia).take k),bv]
 ·rcases aL.mp hx with q | q
  ·refine h.le x q y ?_
   rcases aL.mp hy with z | z
   ·rw[e] at z
    exact aX _ (cG z)
   ·exact aQ _ z
  ·rcases aL.mp hy with z | z
   ·rw[e] at z
    have s:=sa.drop ia
    rw[<- bv k (a.drop ia)] at s
    exact(bW.mp s).2.2 x q y z
   ·exact hc x q y z
theorem ML.takeB {a b out:List Keyed}{ia ib:Nat}(h:ML a b out ia ib)(sb:Srt b)(k:Nat)(hc:∀ x∈(b.drop ib).take k,∀ y∈a.drop ia,LE x y):ML a b (out++(b.drop ib).take k) ia (ib+k):=by
 have e:b.drop (ib+k)=(b.drop ib).drop k:=by rw[gP]
 refine⟨?_,yT h.srt ((sb.drop ib).take k) fun x hx y hy=>h.le x hx y (aQ _ (bP hy)),fun x hx y hy=>?_⟩
 ·refine List.Perm.trans ?_ h.perm
  rw[e,aU]
  refine db out ?_
  refine dI.trans ?_
  rw[aU]
  refine db _ ?_
  refine dI.trans ?_
  rw[bv]
 ·rcases aL.mp hx with q | q
  ·refine h.le x q y ?_
   rcases aL.mp hy with z | z
   ·exact aX _ z
   ·rw[e] at z
    exact aQ _ (cG z)
  ·rcases aL.mp hy with z | z
   ·exact hc x q y z
   ·rw[e] at z
    have s:=sb.drop ib
    rw[<- bv k (b.drop ib)] at s
    exact(bW.mp s).2.2 x q y z
theorem ML.outA {a b out:List Keyed}{ia ib:Nat}(h:ML a b out ia ib)(sa:Srt a)(hb:b.length<=ib):(out++a.drop ia++b.drop ib).Perm (a++b)/\Srt (out++a.drop ia++b.drop ib):=by
 refine⟨by rw[aU]; exact h.perm,?_⟩
 rw[iE hb,aW]
 exact yT h.srt (sa.drop ia) fun x hx y hy=>h.le x hx y (aX _ hy)
theorem ML.outB {a b out:List Keyed}{ia ib:Nat}(h:ML a b out ia ib)(sb:Srt b)(ha:a.length<=ia):(out++a.drop ia++b.drop ib).Perm (a++b)/\Srt (out++a.drop ia++b.drop ib):=by
 refine⟨by rw[aU]; exact h.perm,?_⟩
 rw[iE ha,aW]
 exact yT h.srt (sb.drop ib) fun x hx y hy=>h.le x hx y (aQ _ hy)
theorem ML.last {a b out:List Keyed}{ia ib:Nat}(h:ML a b out ia ib)(sa:Srt a)(sb:Srt b)(ha:∀ x∈b,∀ y∈a.drop ia,LE x y):(out++b.drop ib++a.drop ia).Perm (a++b)/\Srt (out++b.drop ib++a.drop ia):=by
 refine⟨?_,?_⟩
 ·rw[aU]
  exact(db out dI).trans h.perm
 ·refine yT (yT h.srt (sb.drop ib) fun x hx y hy=>h.le x hx y (aQ _ hy)) (sa.drop ia) fun x hx y hy=>?_
  rcases aL.mp hx with q | q
  ·exact h.le x q y (aX _ hy)
  ·exact ha x (cG q) y hy
theorem jAD {l:List Keyed}{i:Nat}{p:Keyed}(h:l[i]?=some p):(l.drop i).take 1=[p]:=by
 obtain⟨hi,e⟩:=ai.mp h
 rw[<- List.getElem_cons_drop (h:=hi),e]
 rfl
theorem jEO {l:List Keyed}(h:Srt l){i j:Nat}{x y:Keyed}(hx:l[i]?=some x)(hy:l[j]?=some y)(hij:i<=j):LE x y:=by
 obtain⟨h1,rfl⟩:=ai.mp hx
 obtain⟨h2,rfl⟩:=ai.mp hy
 by_cases e:i=j
 ·subst e; exact cI _
 ·exact bL.mp h i j h1 h2 (by omega)
theorem jDH {l:List Keyed}{i:Nat}{y:Keyed}(h:y∈l.drop i):∃ j,i<=j/\l[j]?=some y:=by
 obtain⟨k,hk⟩:=bF h
 rw[gQ] at hk
 exact⟨i+k,by omega,hk⟩
theorem jA4 {l:List Keyed}{i k:Nat}{y:Keyed}(h:y∈(l.drop i).take k):∃ j,i<=j/\j<i+k/\l[j]?=some y:=by
 obtain⟨n,hn⟩:=bF h
 have hlt:n<k:=by
  have:=(ai.mp hn).1
  rw[bA] at this
  omega
 rw[cg hlt,gQ] at hn
 exact⟨i+n,by omega,by omega,hn⟩
theorem jD2 {a:Array Keyed}{i:Nat} :(a.extract i a.size).toList=a.toList.drop i:=by
 rw[eM,dL]
 exact bE (by rw[gf,aM]; exact ao _)
theorem ext_k {a:Array Keyed}{i k:Nat} :(a.extract i (i+k)).toList=(a.toList.drop i).take k:=by
 rw[eM,dL,cJ]
structure Two (a b:Array Keyed):Prop where
 ia:AllI a.toList
 ib:AllI b.toList
 sa:Srt a.toList
 sb:Srt b.toList
 na:0<a.size
 nb:0<b.size
 last:∀ x∈b.toList,∀ y,a.toList[a.size - 1]?=some y->key x<key y
 first:∀ y∈a.toList,∀ p,b.toList[0]?=some p->key p<key y
def yN (a b r:Array Keyed):Prop:=r.toList.Perm (a.toList++b.toList)/\Srt r.toList
structure SG (st st':SortSt):Prop where
 k:kindOf st'=kindOf st
 a:arrOf st'=arrOf st
 p:pendingOf st'=pendingOf st
 f:failedOf st'=failedOf st
theorem SG.refl (st:SortSt):SG st st:=⟨rfl,rfl,rfl,rfl⟩
theorem SG.gal {st st':SortSt}(h:SG st st')(g:Nat):SG st (jGH st' g):=⟨h.k,h.a,h.p,h.f⟩
abbrev MA (a b out:Array Keyed)(ia ib:Nat):Prop:=ML a.toList b.toList out.toList ia ib
section
variable {a b out:Array Keyed}{i j k:Nat}
theorem at_list {p:Keyed} :a[i]?=some p↔a.toList[i]?=some p:=by rw[bD]
theorem qG (h:i<a.size):∃ p,a[i]?=some p/\a.toList[i]?=some p:=⟨a[i],by simp [h],by simp [h]⟩
theorem MA.doneA (T:Two a b)(h:MA a b out i j)(hj:b.size<=j):yN a b (out++a.extract i a.size++b.extract j b.size):=by
 unfold yN
 rw[bi,bi,jD2,jD2]
 exact ML.outA h T.sa (by rw[aM]; exact hj)
theorem MA.doneB (T:Two a b)(h:MA a b out i j)(hi:a.size<=i):yN a b (out++a.extract i a.size++b.extract j b.size):=by
 unfold yN
 rw[bi,bi,jD2,jD2]
 exact ML.outB h T.sb (by rw[aM]; exact hi)
theorem MA.doneL (T:Two a b)(h:MA a b out i j)(hi:i+1=a.size):yN a b (out++b.extract j b.size++a.extract i a.size):=by
 unfold yN
 rw[bi,bi,jD2,jD2]
 refine ML.last h T.sa T.sb fun x hx y hy=>?_
 obtain⟨n,h1,h2⟩:=jDH hy
 have:n=a.size - 1:=by
  have:=(ai.mp h2).1
  rw[aM] at this
  omega
 subst this
 exact cA (T.last x hx y h2)
theorem MA.pushB (T:Two a b)(h:MA a b out i j){p q:Keyed}(hp:b[j]?=some p)(hc:∀ y∈a.toList.drop i,LE p y):MA a b (out.push p) i (j+1):=by
 have:=ML.takeB h T.sb 1 (by
  rw[jAD (at_list.mp hp)]
  intro x hx
  rw[aO.mp hx]
  exact hc)
 rw[jAD (at_list.mp hp)] at this
 unfold MA
 rw[dR]
 exact this
theorem MA.pushA (T:Two a b)(h:MA a b out i j){p q:Keyed}(hp:a[i]?=some p)(hc:∀ y∈b.toList.drop j,LE p y):MA a b (out.push p) (i+1) j:=by
 have:=ML.takeA h T.sa 1 (by
  rw[jAD (at_list.mp hp)]
  intro x hx
  rw[aO.mp hx]
  exact hc)
 rw[jAD (at_list.mp hp)] at this
 unfold MA
 rw[dR]
 exact this
theorem MA.appA (T:Two a b)(h:MA a b out i j)(k:Nat)(hc:∀ n x,i<=n->n<i+k->a.toList[n]?=some x->∀ y∈b.toList.drop j,LE x y):MA a b (out++a.extract i (i+k)) (i+k) j:=by
 unfold MA
 rw[bi,ext_k]
 exact ML.takeA h T.sa k fun x hx y hy=>by
  obtain⟨n,h1,h2,h3⟩:=jA4 hx
  exact hc n x h1 h2 h3 y hy
theorem MA.appB (T:Two a b)(h:MA a b out i j)(k:Nat)(hc:∀ n x,j<=n->n<j+k->b.toList[n]?=some x->∀ y∈a.toList.drop i,LE x y):MA a b (out++b.extract j (j+k)) i (j+k):=by
 unfold MA
 rw[bi,ext_k]
 exact ML.takeB h T.sb k fun x hx y hy=>by
  obtain⟨n,h1,h2,h3⟩:=jA4 hx
  exact hc n x h1 h2 h3 y hy
theorem Two.atA (T:Two a b)(h:i<a.size):∃ p,a[i]?=some p/\IsI p:=by
 obtain⟨p,h1,h2⟩:=qG h
 exact⟨p,h1,T.ia p (az h2)⟩
theorem Two.atB (T:Two a b)(h:i<b.size):∃ p,b[i]?=some p/\IsI p:=by
 obtain⟨p,h1,h2⟩:=qG h
 exact⟨p,h1,T.ib p (az h2)⟩
theorem jFQ (s:Srt a.toList){p q:Keyed}(hp:a[i]?=some p)(h:LE q p):∀ y∈a.toList.drop i,LE q y:=fun y hy=>by
 obtain⟨n,h1,h2⟩:=jDH hy
 exact cV h (jEO s (at_list.mp hp) h2 h1)
end
section
variable {prog:Program}{w:World}{A:Around}{E:Value->Shared->Prop}{s:Shared} [LtOk prog w A s]
theorem jSR {st:SortSt}{a:Array Keyed}{i:Nat}{p:Keyed}{Q:Option Nat->SortSt->Prop}(hk:kindOf st=Od.kd)(hp:IsI p)(ha:AllI a.toList)(sa:Srt a.toList)(hi:i<a.size)
  (h:∀ k,i+k<=a.size->(∀ n x,i<=n->n<i+k->a.toList[n]?=some x->LE x p)->(∀ n x,i+k<=n->a.toList[n]?=some x->key p<key x)->Q (some k) st):
  wpS (model prog w) A E s (jC2 false p a i (a.size - i) 0) Q st:=by
 refine jBC hk hp (fun n hn=>?_) (by omega) (fun n=>match a[i+n]? with | some x=>!decide (key p<key x) | none=>false) (fun n x hn hx=>?_) (fun n m hnm hm hb=>?_) fun k hk1 hk2 hk3=>h k (by omega) (fun n x h1 h2 h3=>?_) fun n x h1 h2=>?_
 ·obtain⟨q,q1,q2⟩:=qG (a:=a) (i:=i+n) (by omega)
  exact⟨q,q1,ha q (az q2)⟩
 ·rw[hx,am aj]
 ·obtain⟨x,x1,x2⟩:=qG (a:=a) (i:=i+n) (by omega)
  obtain⟨y,y1,y2⟩:=qG (a:=a) (i:=i+m) (by omega)
  rw[y1] at hb
  rw[x1]
  have:=jEO sa x2 y2 (by omega)
  have hb:¬ key p<key y:=by simpa using hb
  show (!decide (key p<key x))=true
  rw[dz,cK]
  have:key x<=key y:=this
  omega
 ·have:=hk2 (n - i) (by omega)
  rw[show i+(n - i)=n by omega,at_list.mpr h3] at this
  have this:¬ key p<key x:=by simpa using this
  show key x<=key p
  omega
 ·have hn:=(ai.mp h2).1
  rw[aM] at hn
  have:=hk3 (n - i) (by omega) (by omega)
  rw[show i+(n - i)=n by omega,at_list.mpr h2] at this
  simpa using this
theorem jSS {st:SortSt}{a:Array Keyed}{i:Nat}{p:Keyed}{Q:Option Nat->SortSt->Prop}(hk:kindOf st=Od.kd)(hp:IsI p)(ha:AllI a.toList)(sa:Srt a.toList)(hi:i<a.size)
  (h:∀ k,i+k<=a.size->(∀ n x,i<=n->n<i+k->a.toList[n]?=some x->key x<key p)->(∀ n x,i+k<=n->a.toList[n]?=some x->LE p x)->Q (some k) st):
  wpS (model prog w) A E s (jC2 true p a i (a.size - i) 0) Q st:=by
 refine jBC hk hp (fun n hn=>?_) (by omega) (fun n=>match a[i+n]? with | some x=>decide (key x<key p) | none=>false) (fun n x hn hx=>?_) (fun n m hnm hm hb=>?_) fun k hk1 hk2 hk3=>h k (by omega) (fun n x h1 h2 h3=>?_) fun n x h1 h2=>?_
 ·obtain⟨q,q1,q2⟩:=qG (a:=a) (i:=i+n) (by omega)
  exact⟨q,q1,ha q (az q2)⟩
 ·rw[hx,aq rfl]
 ·obtain⟨x,x1,x2⟩:=qG (a:=a) (i:=i+n) (by omega)
  obtain⟨y,y1,y2⟩:=qG (a:=a) (i:=i+m) (by omega)
  rw[y1] at hb
  rw[x1]
  have:=jEO sa x2 y2 (by omega)
  have hb:key y<key p:=aF hb
  show decide (key x<key p)=true
  rw[bo]
  have:key x<=key y:=this
  omega
 ·have:=hk2 (n - i) (by omega)
  rw[show i+(n - i)=n by omega,at_list.mpr h3] at this
  exact aF this
 ·have hn:=(ai.mp h2).1
  rw[aM] at hn
  have:=hk3 (n - i) (by omega) (by omega)
  rw[show i+(n - i)=n by omega,at_list.mpr h2] at this
  have this:¬ key x<key p:=fw this
  show key p<=key x
  omega
end
section
variable {prog:Program}{w:World}{A:Around}{E:Value->Shared->Prop}{s:Shared} [LtOk prog w A s]
theorem bp {a b:Nat}(h:a=b):(a==b)=true:=gR.mpr h
theorem bn {a b:Nat}(h:¬ a=b):¬ (a==b)=true:=fun z=>h (gR.mp z)
structure LoI (a b:Array Keyed)(st:SortSt)(out:Array Keyed)(ia ib:Nat)(st':SortSt):Prop where
 m:MA a b out ia ib
 i:ia+1<a.size
 j:ib<b.size
 s:SG st st'
theorem jHK {a b:Array Keyed}{st:SortSt}{Q:Array Keyed->SortSt->Prop}(hk:kindOf st=Od.kd)(T:Two a b)(h:∀ r st',yN a b r->SG st st'->Q r st'):wpS (model prog w) A E s (jFH a b) Q st:=by
 rw[mergeLoB.2]
 delta mergeLoB
 dsimp only
 simp only [elP,ltP,jI8,jLI]
 have na:=T.na
 have nb:=T.nb
 refine aC (gS (de ⟨rfl,?_⟩))
 obtain⟨p0,hp0,ip0⟩:=T.atB nb
 refine aC (jU hp0 ?_)
 have M0:MA a b #[p0] 0 1:=by
  have z:MA a b #[] 0 0:=⟨by show (([]:List Keyed)++(a.toList.drop 0++b.toList.drop 0)).Perm _; rw[List.nil_append,iV,iV],List.Pairwise.nil,fun x hx=>by cases hx⟩
  have:=MA.pushB (q:=p0) T z hp0 fun y hy=>cA (T.first y (cG hy) p0 (at_list.mp hp0))
  exact this
 by_cases e1:1=b.size
 ·rw[aq (bp e1)]
  exact aI (h _ _ (MA.doneA T M0 (by omega)) (SG.refl _))
 rw[am (bn e1)]
 by_cases e2:0+1=a.size
 ·rw[aq (bp e2)]
  exact aI (h _ _ (MA.doneL T M0 e2) (SG.refl _))
 rw[am (bn e2)]
 refine aC (gq ?_)
 refine aC (dq (bO (I:=fun x c st'=>∃ out ia ib mg,c=(none,out,ia,ib,mg)/\LoI a b st out ia ib st'/\x+1<=ia+ib)
  (Q:=fun c st'=>∃ r,c.1=some r/\yN a b r/\SG st st') ?step ?fin ⟨_,0,1,_,rfl,⟨M0,by omega,by omega,SG.refl _⟩,by omega⟩) ?post)
 case post=>
  rintro ⟨r0,c⟩ st' ⟨r,hr,d,g⟩
  have hr:r0=some r:=hr
  subst hr
  exact aI (h r st' d g)
 case fin=>
  rintro c st' ⟨out,ia,ib,mg,rfl,I0,hx⟩
  have:=I0.i
  have:=I0.j
  omega
 case step=>
  rintro x c st1 _ hx ⟨out,ia,ib,mg,rfl,I0,hxx⟩
  dsimp only
  refine aC (dq (bO (I:=fun y c st'=>∃ out' ia' ib' ac bc,c=(none,out',ia',ib',ac,bc)/\LoI a b st out' ia' ib' st'/\ia+ib<=ia'+ib'/\(y=0\/ia+ib<ia'+ib'))
   (Q:=fun c st'=>(∃ r,c.1=some r/\yN a b r/\SG st st')\/∃ out' ia' ib' ac bc,c=(none,out',ia',ib',ac,bc)/\LoI a b st out' ia' ib' st'/\ia+ib<ia'+ib') ?step1 ?fin1 ⟨_,_,_,_,_,rfl,I0,by omega, .inl rfl⟩) ?post1)
  case fin1=>
   rintro c st' ⟨out',ia',ib',ac,bc,rfl,I1,h1,h2⟩
   exact .inr ⟨_,_,_,_,_,rfl,I1,by omega⟩
  case step1=>
   rintro y c st2 _ hy ⟨out',ia',ib',ac,bc,rfl,I1,h1,h2⟩
   dsimp only
   obtain⟨pb,hpb,ipb⟩:=T.atB I1.j
   obtain⟨pa,hpa,ipa⟩:=T.atA (i:=ia') (by have:=I1.i; omega)
   have ii:=I1.i
   have jj:=I1.j
   refine aC (jU hpb (aC (jU hpa (aC (jG6 (I1.s.k.trans hk) ipb ipa ?_)))))
   dsimp only
   by_cases hlt:key pb<key pa
   ·rw[ar hlt,aq rfl]
    refine aC (jU hpb ?_)
    have M2:=MA.pushB (q:=pb) T I1.m hpb (jFQ T.sa hpa (cA hlt))
    by_cases f1:ib'+1=b.size
    ·rw[aq (bp f1)]
     exact aI (.inl ⟨_,rfl,MA.doneA T M2 (by omega),I1.s⟩)
    rw[am (bn f1)]
    split
    ·exact aI (.inr ⟨_,_,_,_,_,rfl,⟨M2,ii,by omega,I1.s⟩,by omega⟩)
    ·exact aI ⟨_,_,_,_,_,rfl,⟨M2,ii,by omega,I1.s⟩,by omega, .inr (by omega)⟩
   ·rw[aH hlt,am aj]
    refine aC (jU hpa ?_)
    have M2:=MA.pushA (q:=pa) T I1.m hpa (jFQ T.sb hpb (by show key pa<=key pb; omega))
    by_cases f1:ia'+1+1=a.size
    ·rw[aq (bp f1)]
     exact aI (.inl ⟨_,rfl,MA.doneL T M2 f1,I1.s⟩)
    rw[am (bn f1)]
    split
    ·exact aI (.inr ⟨_,_,_,_,_,rfl,⟨M2,by omega,jj,I1.s⟩,by omega⟩)
    ·exact aI ⟨_,_,_,_,_,rfl,⟨M2,by omega,jj,I1.s⟩,by omega, .inr (by omega)⟩
  case post1=>
   rintro c st2 (⟨r,hr,d,g⟩ | ⟨out1,ia1,ib1,ac,bc,rfl,I1,h1⟩)
   ·obtain⟨r0,c⟩:=c
    have hr:r0=some r:=hr
    subst hr
    exact aI ⟨r,rfl,d,g⟩
   dsimp only
   refine aC (gS (de ⟨rfl,?_⟩))
   refine aC (dq (bO (I:=fun y c st'=>∃ out' ia' ib' mg' ac bc,c=(none,out',ia',ib',mg',ac,bc)/\LoI a b st out' ia' ib' st'/\ia+ib<ia'+ib')
    (Q:=fun c st'=>(∃ r,c.1=some r/\yN a b r/\SG st st')\/∃ out' ia' ib' mg' ac bc,c=(none,out',ia',ib',mg',ac,bc)/\LoI a b st out' ia' ib' st'/\ia+ib<ia'+ib') ?step2 ?fin2 ⟨_,_,_,_,_,_,rfl,I1,h1⟩) ?post2)
   case fin2=>
    rintro c st' ⟨out',ia',ib',mg',ac,bc,rfl,I2,h2⟩
    exact .inr ⟨_,_,_,_,_,_,rfl,I2,h2⟩
   case post2=>
    rintro c st3 (⟨r,hr,d,g⟩ | ⟨out2,ia2,ib2,mg2,ac,bc,rfl,I2,h2⟩)
    ·obtain⟨r0,c⟩:=c
     have hr:r0=some r:=hr
     subst hr
     exact aI ⟨r,rfl,d,g⟩
    dsimp only
    rw[jA2]
    exact aC (eE (aI ⟨_,_,_,_,rfl,⟨I2.m,I2.i,I2.j,I2.s.gal _⟩,by omega⟩))
   case step2=>
    clear I0 I1
    rintro y c st2 _ hy ⟨out,ia,ib,mg',ac,bc,rfl,I0,h2⟩
    dsimp only
    obtain⟨pb,hpb,ipb⟩:=T.atB I0.j
    by_cases hg:mg'>1
    case' pos=>
     rw[aq hg]
     generalize hgg:mg' - 1=gg
    case' neg=>
     rw[am hg]
     generalize hgg:mg'=gg
    all_goals
     rw[jA2]
     refine aC (eE ?_)
     have G1:=I0.s.gal gg
     refine aC (jU hpb ?_)
     refine aC (jSR (G1.k.trans hk) ipb T.ia T.sa (by have:=I0.i; omega) fun k1 g1 g2 g3=>?_)
     dsimp only
     have M1:=MA.appA T I0.m k1 (fun n x h1 h2 h3=>jFQ T.sb hpb (g2 n x h1 h2 h3))
     have hgt:∀ y∈a.toList.drop (ia+k1),LE pb y:=fun y hy=>by
      obtain⟨n,h1,h2⟩:=jDH hy
      exact cA (g3 n y h1 h2)
     have jb:=I0.j
     by_cases e0:k1>0
     case' pos=>
      rw[aq e0]
      by_cases f1:ia+k1+1=a.size
      ·rw[aq (bp f1)]
       exact aI (.inl ⟨_,rfl,MA.doneL T M1 f1,G1⟩)
      rw[am (bn f1)]
      by_cases f2:ia+k1=a.size
      ·rw[aq (bp f2)]
       exact aI (.inl ⟨_,rfl,MA.doneB T M1 (by omega),G1⟩)
      rw[am (bn f2)]
      obtain⟨pa,hpa,ipa⟩:=T.atA (i:=ia+k1) (by omega)
      have hz:ia+k1<a.size:=by omega
      generalize hiz:ia+k1=iz at*
     case' neg=>
      rw[am e0]
      have e0':k1=0:=by omega
      subst e0'
      have M1:=I0.m
      obtain⟨pa,hpa,ipa⟩:=T.atA (i:=ia) (by have:=I0.i; omega)
      have hz:ia<a.size:=by have:=I0.i; omega
      rw[jh] at hgt
      have hia:=I0.i
      generalize hiz:ia=iz at*
     all_goals
      refine aC (jU hpb ?_)
      have M2:=MA.pushB (q:=pb) T M1 hpb hgt
      by_cases e1:ib+1=b.size
      ·rw[aq (bp e1)]
       exact aI (.inl ⟨_,rfl,MA.doneA T M2 (by omega),G1⟩)
      rw[am (bn e1)]
      refine aC (jU hpa ?_)
      refine aC (jSS (G1.k.trans hk) ipa T.ib T.sb (by omega) fun k2 l1 l2 l3=>?_)
      dsimp only
      have M3:=MA.appB T M2 k2 (fun n x h1 h2 h3=>jFQ T.sa hpa (cA (l2 n x h1 h2 h3)))
      have fin3:∀ y∈b.toList.drop (ib+1+k2),LE pa y:=fun y hy=>by
       obtain⟨n,h1,h2⟩:=jDH hy
       exact l3 n y h1 h2
      by_cases e2:k2>0
      ·rw[aq e2]
       by_cases e3:ib+1+k2=b.size
       ·rw[aq (bp e3)]
        exact aI (.inl ⟨_,rfl,MA.doneA T M3 (by omega),G1⟩)
       rw[am (bn e3)]
       refine aC (jU hpa ?_)
       have M4:=MA.pushA (q:=pa) T M3 hpa fin3
       by_cases e4:iz+1+1=a.size
       ·rw[aq (bp e4)]
        exact aI (.inl ⟨_,rfl,MA.doneL T M4 e4,G1⟩)
       rw[am (bn e4)]
       split
       ·exact aI (.inr ⟨_,_,_,_,_,_,rfl,⟨M4,by omega,by omega,G1⟩,by omega⟩)
       ·exact aI ⟨_,_,_,_,_,_,rfl,⟨M4,by omega,by omega,G1⟩,by omega⟩
      ·rw[am e2]
       have e0:k2=0:=by omega
       subst e0
       refine aC (jU hpa ?_)
       have M4:=MA.pushA (q:=pa) T M2 hpa fin3
       by_cases e4:iz+1+1=a.size
       ·rw[aq (bp e4)]
        exact aI (.inl ⟨_,rfl,MA.doneL T M4 e4,G1⟩)
       rw[am (bn e4)]
       split
       ·exact aI (.inr ⟨_,_,_,_,_,_,rfl,⟨M4,by omega,by omega,G1⟩,by omega⟩)
       ·exact aI ⟨_,_,_,_,_,_,rfl,⟨M4,by omega,by omega,G1⟩,by omega⟩
end
structure MHL (tot xa xb o:List Keyed):Prop where
 perm:(xa++xb++o).Perm tot
 srt:Srt o
 le:∀ x∈o,∀ y∈xa++xb,LE y x
theorem MHL.takeA {tot u v xb o:List Keyed}(h:MHL tot (u++v) xb o)(s:Srt (u++v))(hc:∀ x∈v,∀ y∈xb,LE y x):MHL tot u xb (v++o):=by
 have sp:=bW.mp s
 refine⟨?_,yT sp.2.1 h.srt fun x hx y hy=>h.le y hy x (aX _ (aQ _ hx)),fun x hx y hy=>?_⟩
 ·refine List.Perm.trans ?_ h.perm
  rw[aU,aU,aU]
  refine db u ?_
  rw[<- aU,<- aU]
  exact fY o dI
 ·rcases aL.mp hx with q | q
  ·rcases aL.mp hy with z | z
   ·exact sp.2.2 y z x q
   ·exact hc x q y z
  ·refine h.le x q y ?_
   rcases aL.mp hy with z | z
   ·exact aX _ (aX _ z)
   ·exact aQ _ z
theorem MHL.takeB {tot u v xa o:List Keyed}(h:MHL tot xa (u++v) o)(s:Srt (u++v))(hc:∀ x∈v,∀ y∈xa,LE y x):MHL tot xa u (v++o):=by
 have sp:=bW.mp s
 refine⟨?_,yT sp.2.1 h.srt fun x hx y hy=>h.le y hy x (aQ _ (aQ _ hx)),fun x hx y hy=>?_⟩
 ·refine List.Perm.trans (iL ?_) h.perm
  simp only [aU]
 ·rcases aL.mp hx with q | q
  ·rcases aL.mp hy with z | z
   ·exact hc x q y z
   ·exact sp.2.2 y z x q
  ·refine h.le x q y ?_
   rcases aL.mp hy with z | z
   ·exact aX _ z
   ·exact aQ _ (aX _ z)
theorem MHL.out {tot xa xb o:List Keyed}(h:MHL tot xa xb o)(s:Srt (xa++xb)):(xa++xb++o).Perm tot/\Srt (xa++xb++o):=
 ⟨h.perm,yT s h.srt fun x hx y hy=>h.le y hy x hx⟩
theorem MHL.outF {tot xa xb o:List Keyed}(h:MHL tot xa xb o)(s:Srt (xb++xa)):(xb++xa++o).Perm tot/\Srt (xb++xa++o):=
 ⟨(fY o dI).trans h.perm,yT s h.srt fun x hx y hy=>h.le y hy x (by
  rcases aL.mp hx with z | z
  ·exact aQ _ z
  ·exact aX _ z)⟩
theorem jIR {l:List Keyed}{n:Nat}{p:Keyed}(hn:0<n)(h:l[n - 1]?=some p):l.take n=l.take (n - 1)++[p]:=by
 obtain⟨m,rfl⟩:∃ m,n=m+1:=⟨n - 1,by omega⟩
 rw[Nat.add_sub_cancel] at h ⊢
 rw[List.take_succ,h]
 rfl
theorem jIQ {l:List Keyed}{k n:Nat}(hk:k<=n):l.take n=l.take k++(l.drop k).take (n - k):=by
 obtain⟨m,rfl⟩:∃ m,n=k+m:=⟨n - k,by omega⟩
 rw[cJ,List.take_add]
theorem jAR {a:Array Keyed}{k n:Nat} :(a.extract k n).toList=(a.toList.drop k).take (n - k):=by
 rw[eM,dL]
theorem jBK {a:Array Keyed}{n:Nat} :(a.extract 0 n).toList=a.toList.take n:=by
 rw[jAR,iV,Nat.sub_zero]
abbrev MH (a b out:Array Keyed)(na nb:Nat):Prop:=MHL (a.toList++b.toList) (a.toList.take na) (b.toList.take nb) out.toList.reverse
theorem jDG {l:List Keyed}{n:Nat}{y:Keyed}(h:y∈l.take n):∃ j,j<n/\l[j]?=some y:=by
 obtain⟨k,hk⟩:=bF h
 have hlt:k<n:=by
  have:=(ai.mp hk).1
  rw[bA] at this
  omega
 rw[cg hlt] at hk
 exact⟨k,hlt,hk⟩
section
variable {a b out:Array Keyed}{i j k:Nat}
theorem jDF (s:Srt a.toList){p q:Keyed}(hp:a[i - 1]?=some p)(h:LE p q):∀ y∈a.toList.take i,LE y q:=fun y hy=>by
 obtain⟨n,h1,h2⟩:=jDG hy
 exact cV (jEO s h2 (at_list.mp hp) (by omega)) h
theorem MH.pushA (T:Two a b)(h:MH a b out i j){p:Keyed}(hi:0<i)(hp:a[i - 1]?=some p)(hc:∀ y∈b.toList.take j,LE y p):MH a b (out.push p) (i - 1) j:=by
 have e:=jIR hi (at_list.mp hp)
 have s:=T.sa.take i
 unfold MH at h ⊢
 rw[e] at h s
 rw[dR,fb]
 exact h.takeA s fun x hx=>by rw[aO.mp hx]; exact hc
theorem MH.pushB (T:Two a b)(h:MH a b out i j){p:Keyed}(hj:0<j)(hp:b[j - 1]?=some p)(hc:∀ y∈a.toList.take i,LE y p):MH a b (out.push p) i (j - 1):=by
 have e:=jIR hj (at_list.mp hp)
 have s:=T.sb.take j
 unfold MH at h ⊢
 rw[e] at h s
 rw[dR,fb]
 exact h.takeB s fun x hx=>by rw[aO.mp hx]; exact hc
theorem MH.appA (T:Two a b)(h:MH a b out i j)(hk:k<=i)(hc:∀ n x,k<=n->n<i->a.toList[n]?=some x->∀ y∈b.toList.take j,LE y x):MH a b (out++(a.extract k i).reverse) k j:=by
 have e:=jIQ (l:=a.toList) hk
 have s:=T.sa.take i
 unfold MH at h ⊢
 rw[e] at h s
 rw[bi,dr,fb,iW,jAR]
 exact h.takeA s fun x hx y hy=>by
  obtain⟨n,h1,h2,h3⟩:=jA4 hx
  exact hc n x h1 (by omega) h3 y hy
theorem MH.appB (T:Two a b)(h:MH a b out i j)(hk:k<=j)(hc:∀ n x,k<=n->n<j->b.toList[n]?=some x->∀ y∈a.toList.take i,LE y x):MH a b (out++(b.extract k j).reverse) i k:=by
 have e:=jIQ (l:=b.toList) hk
 have s:=T.sb.take j
 unfold MH at h ⊢
 rw[e] at h s
 rw[bi,dr,fb,iW,jAR]
 exact h.takeB s fun x hx y hy=>by
  obtain⟨n,h1,h2,h3⟩:=jA4 hx
  exact hc n x h1 (by omega) h3 y hy
theorem MH.doneA (T:Two a b)(h:MH a b out 0 j):yN a b (a.extract 0 0++b.extract 0 j++out.reverse):=by
 unfold yN
 rw[bi,bi,jBK,jBK,dr]
 exact h.out (by rw[iX]; exact T.sb.take j)
theorem MH.doneB (T:Two a b)(h:MH a b out i 0):yN a b (a.extract 0 i++b.extract 0 0++out.reverse):=by
 unfold yN
 rw[bi,bi,jBK,jBK,dr]
 exact h.out (by rw[iX,aW]; exact T.sa.take i)
theorem MH.doneF (T:Two a b)(h:MH a b out i 1):yN a b (b.extract 0 1++a.extract 0 i++out.reverse):=by
 unfold yN
 rw[bi,bi,jBK,jBK,dr]
 refine h.outF (yT (T.sb.take 1) (T.sa.take i) fun x hx y hy=>?_)
 obtain⟨n,h1,h2⟩:=jDG hx
 have:n=0:=by omega
 subst this
 exact cA (T.first y (bP hy) x h2)
end
section
variable {prog:Program}{w:World}{A:Around}{E:Value->Shared->Prop}{s:Shared} [LtOk prog w A s]
theorem jJQ {st:SortSt}{a:Array Keyed}{i len hint:Nat}{p:Keyed}{Q:Option Nat->SortSt->Prop}(hk:kindOf st=Od.kd)(hp:IsI p)(ha:AllI a.toList)
  (sa:∀ n m x y,i<=n->n<=m->m<i+len->a[n]?=some x->a[m]?=some y->LE x y) (hh:hint<len) (hl:i+len<=a.size)
  (h:∀ k,k<=len->(∀ n x,i<=n->n<i+k->a[n]?=some x->LE x p)->(∀ n x,i+k<=n->n<i+len->a[n]?=some x->key p<key x)->Q (some k) st):
  wpS (model prog w) A E s (jC2 false p a i len hint) Q st:=by
 refine jBC hk hp (fun n hn=>?_) hh (fun n=>match a[i+n]? with | some x=>!decide (key p<key x) | none=>false) (fun n x hn hx=>?_) (fun n m hnm hm hb=>?_) fun k hk1 hk2 hk3=>h k (by omega) (fun n x h1 h2 h3=>?_) fun n x h1 h2 h3=>?_
 ·obtain⟨q,q1,q2⟩:=qG (a:=a) (i:=i+n) (by omega)
  exact⟨q,q1,ha q (az q2)⟩
 ·rw[hx,am aj]
 ·obtain⟨x,x1,x2⟩:=qG (a:=a) (i:=i+n) (by omega)
  obtain⟨y,y1,y2⟩:=qG (a:=a) (i:=i+m) (by omega)
  rw[y1] at hb
  rw[x1]
  have:=sa (i+n) (i+m) x y (by omega) (by omega) (by omega) x1 y1
  have hb:¬ key p<key y:=by simpa using hb
  show (!decide (key p<key x))=true
  rw[dz,cK]
  have:key x<=key y:=this
  omega
 ·have:=hk2 (n - i) (by omega)
  rw[show i+(n - i)=n by omega,h3] at this
  have this:¬ key p<key x:=by simpa using this
  show key x<=key p
  omega
 ·have:=hk3 (n - i) (by omega) (by omega)
  rw[show i+(n - i)=n by omega,h3] at this
  simpa using this
theorem jJR {st:SortSt}{a:Array Keyed}{i len hint:Nat}{p:Keyed}{Q:Option Nat->SortSt->Prop}(hk:kindOf st=Od.kd)(hp:IsI p)(ha:AllI a.toList)
  (sa:∀ n m x y,i<=n->n<=m->m<i+len->a[n]?=some x->a[m]?=some y->LE x y) (hh:hint<len) (hl:i+len<=a.size)
  (h:∀ k,k<=len->(∀ n x,i<=n->n<i+k->a[n]?=some x->key x<key p)->(∀ n x,i+k<=n->n<i+len->a[n]?=some x->LE p x)->Q (some k) st):
  wpS (model prog w) A E s (jC2 true p a i len hint) Q st:=by
 refine jBC hk hp (fun n hn=>?_) hh (fun n=>match a[i+n]? with | some x=>decide (key x<key p) | none=>false) (fun n x hn hx=>?_) (fun n m hnm hm hb=>?_) fun k hk1 hk2 hk3=>h k (by omega) (fun n x h1 h2 h3=>?_) fun n x h1 h2 h3=>?_
 ·obtain⟨q,q1,q2⟩:=qG (a:=a) (i:=i+n) (by omega)
  exact⟨q,q1,ha q (az q2)⟩
 ·rw[hx,aq rfl]
 ·obtain⟨x,x1,x2⟩:=qG (a:=a) (i:=i+n) (by omega)
  obtain⟨y,y1,y2⟩:=qG (a:=a) (i:=i+m) (by omega)
  rw[y1] at hb
  rw[x1]
  have:=sa (i+n) (i+m) x y (by omega) (by omega) (by omega) x1 y1
  have hb:key y<key p:=aF hb
  show decide (key x<key p)=true
  rw[bo]
  have:key x<=key y:=this
  omega
 ·have:=hk2 (n - i) (by omega)
  rw[show i+(n - i)=n by omega,h3] at this
  exact aF this
 ·have:=hk3 (n - i) (by omega) (by omega)
  rw[show i+(n - i)=n by omega,h3] at this
  have this:¬ key x<key p:=fw this
  show key p<=key x
  omega
end
section
variable {prog:Program}{w:World}{A:Around}{E:Value->Shared->Prop}{s:Shared} [LtOk prog w A s]
structure HiI (a b:Array Keyed)(st:SortSt)(out:Array Keyed)(na nb:Nat)(st':SortSt):Prop where
 m:MH a b out na nb
 i:0<na
 ia:na<=a.size
 j:1<nb
 jb:nb<=b.size
 s:SG st st'
theorem whole {a:Array Keyed}(s:Srt a.toList){len:Nat} :∀ n m x y,0<=n->n<=m->m<0+len->a[n]?=some x->a[m]?=some y->LE x y:=fun n m x y _ h _ hx hy=>jEO s (at_list.mp hx) (at_list.mp hy) h
theorem jHL {a b:Array Keyed}{st:SortSt}{Q:Array Keyed->SortSt->Prop}(hk:kindOf st=Od.kd)(T:Two a b)(h:∀ r st',yN a b r->SG st st'->Q r st'):wpS (model prog w) A E s (jFI a b) Q st:=by
 rw[mergeHiB.2]
 delta mergeHiB
 dsimp only
 simp only [elP,ltP,jI8,jLI]
 have na:=T.na
 have nb:=T.nb
 refine aC (gS (de ⟨rfl,?_⟩))
 obtain⟨p0,hp0,ip0⟩:=T.atA (i:=a.size - 1) (by omega)
 refine aC (jU hp0 ?_)
 have M0:MH a b #[p0] (a.size - 1) b.size:=by
  have z:MH a b #[] a.size b.size:=⟨by
   rw[show a.toList.take a.size=a.toList from bE (by simp),show b.toList.take b.size=b.toList from bE (by simp)]
   show ((a.toList++b.toList)++([]:List Keyed)).Perm _
   rw[aW],List.Pairwise.nil,fun x hx=>by cases hx⟩
  have:=MH.pushA T z (by omega) hp0 fun y hy=>cA (T.last y (bP hy) p0 (at_list.mp hp0))
  exact this
 by_cases e1:a.size - 1=0
 ·rw[aq (bp e1)]
  rw[e1] at M0 ⊢
  exact aI (h _ _ (MH.doneA T M0) (SG.refl _))
 rw[am (bn e1)]
 by_cases e2:b.size=1
 ·rw[aq (bp e2)]
  rw[e2] at M0 ⊢
  exact aI (h _ _ (MH.doneF T M0) (SG.refl _))
 rw[am (bn e2)]
 refine aC (gq ?_)
 refine aC (dq (bO (I:=fun x c st'=>∃ out na nb mg,c=(none,na,nb,out,mg)/\HiI a b st out na nb st'/\x+1<=a.size - na+(b.size - nb))
  (Q:=fun c st'=>∃ r,c.1=some r/\yN a b r/\SG st st') ?step ?fin ⟨_,_,_,_,rfl,⟨M0,by omega,by omega,by omega,by omega,SG.refl _⟩,by omega⟩) ?post)
 case post=>
  rintro ⟨r0,c⟩ st' ⟨r,hr,d,g⟩
  have hr:r0=some r:=hr
  subst hr
  exact aI (h r st' d g)
 case fin=>
  rintro c st' ⟨out,na,nb,mg,rfl,I0,hx⟩
  have:=I0.i
  have:=I0.j
  omega
 case step=>
  rintro x c st1 _ hx ⟨out,na,nb,mg,rfl,I0,hxx⟩
  dsimp only
  refine aC (dq (bO (I:=fun y c st'=>∃ out' na' nb' ac bc,c=(none,na',nb',out',ac,bc)/\HiI a b st out' na' nb' st'/\na'+nb'<=na+nb/\(y=0\/na'+nb'<na+nb))
   (Q:=fun c st'=>(∃ r,c.1=some r/\yN a b r/\SG st st')\/∃ out' na' nb' ac bc,c=(none,na',nb',out',ac,bc)/\HiI a b st out' na' nb' st'/\na'+nb'<na+nb) ?step1 ?fin1 ⟨_,_,_,_,_,rfl,I0,by omega, .inl rfl⟩) ?post1)
  case fin1=>
   rintro c st' ⟨out',na',nb',ac,bc,rfl,I1,h1,h2⟩
   exact .inr ⟨_,_,_,_,_,rfl,I1,by omega⟩
  case step1=>
   rintro y c st2 _ hy ⟨out',na',nb',ac,bc,rfl,I1,h1,h2⟩
   dsimp only
   have i0:=I1.i
   have i1:=I1.ia
   have j0:=I1.j
   have j1:=I1.jb
   obtain⟨pb,hpb,ipb⟩:=T.atB (i:=nb' - 1) (by omega)
   obtain⟨pa,hpa,ipa⟩:=T.atA (i:=na' - 1) (by omega)
   refine aC (jU hpb (aC (jU hpa (aC (jG6 (I1.s.k.trans hk) ipb ipa ?_)))))
   dsimp only
   by_cases hlt:key pb<key pa
   ·rw[ar hlt,aq rfl]
    refine aC (jU hpa ?_)
    have M2:=MH.pushA T I1.m i0 hpa (jDF T.sb hpb (cA hlt))
    by_cases f1:na' - 1=0
    ·rw[aq (bp f1)]
     rw[f1] at M2 ⊢
     exact aI (.inl ⟨_,rfl,MH.doneA T M2,I1.s⟩)
    rw[am (bn f1)]
    split
    ·exact aI (.inr ⟨_,_,_,_,_,rfl,⟨M2,by omega,by omega,j0,j1,I1.s⟩,by omega⟩)
    ·exact aI ⟨_,_,_,_,_,rfl,⟨M2,by omega,by omega,j0,j1,I1.s⟩,by omega, .inr (by omega)⟩
   ·rw[aH hlt,am aj]
    refine aC (jU hpb ?_)
    have M2:=MH.pushB T I1.m (by omega) hpb (jDF T.sa hpa (by show key pa<=key pb; omega))
    by_cases f1:nb' - 1=1
    ·rw[aq (bp f1)]
     rw[f1] at M2 ⊢
     exact aI (.inl ⟨_,rfl,MH.doneF T M2,I1.s⟩)
    rw[am (bn f1)]
    split
    ·exact aI (.inr ⟨_,_,_,_,_,rfl,⟨M2,i0,i1,by omega,by omega,I1.s⟩,by omega⟩)
    ·exact aI ⟨_,_,_,_,_,rfl,⟨M2,i0,i1,by omega,by omega,I1.s⟩,by omega, .inr (by omega)⟩
  case post1=>
   rintro c st2 (⟨r,hr,d,g⟩ | ⟨out1,na1,nb1,ac,bc,rfl,I1,h1⟩)
   ·obtain⟨r0,c⟩:=c
    have hr:r0=some r:=hr
    subst hr
    exact aI ⟨r,rfl,d,g⟩
   dsimp only
   refine aC (gS (de ⟨rfl,?_⟩))
   refine aC (dq (bO (I:=fun y c st'=>∃ out' na' nb' mg' ac bc,c=(none,na',nb',out',mg',ac,bc)/\HiI a b st out' na' nb' st'/\na'+nb'<na+nb)
    (Q:=fun c st'=>(∃ r,c.1=some r/\yN a b r/\SG st st')\/∃ out' na' nb' mg' ac bc,c=(none,na',nb',out',mg',ac,bc)/\HiI a b st out' na' nb' st'/\na'+nb'<na+nb) ?step2 ?fin2 ⟨_,_,_,_,_,_,rfl,I1,h1⟩) ?post2)
   case fin2=>
    rintro c st' ⟨out',na',nb',mg',ac,bc,rfl,I2,h2⟩
    exact .inr ⟨_,_,_,_,_,_,rfl,I2,h2⟩
   case post2=>
    have q1:=I0.ia
    have q2:=I0.jb
    rintro c st3 (⟨r,hr,d,g⟩ | ⟨out2,na2,nb2,mg2,ac,bc,rfl,I2,h2⟩)
    ·obtain⟨r0,c⟩:=c
     have hr:r0=some r:=hr
     subst hr
     exact aI ⟨r,rfl,d,g⟩
    dsimp only
    rw[jA2]
    have q3:=I2.ia
    have q4:=I2.jb
    exact aC (eE (aI ⟨_,_,_,_,rfl,⟨I2.m,I2.i,I2.ia,I2.j,I2.jb,I2.s.gal _⟩,by omega⟩))
   case step2=>
    clear I0 I1
    rename_i na00 nb00
    generalize hbd:na+nb=bd
    clear hxx h1
    rintro y c st2 _ hy ⟨out,na,nb,mg',ac,bc,rfl,I0,h2⟩
    dsimp only
    obtain⟨pb,hpb,ipb⟩:=T.atB (i:=nb - 1) (by have:=I0.j; have:=I0.jb; omega)
    by_cases hg:mg'>1
    case' pos=>
     rw[aq hg]
     generalize hgg:mg' - 1=gg
    case' neg=>
     rw[am hg]
     generalize hgg:mg'=gg
    all_goals
     rw[jA2]
     refine aC (eE ?_)
     have G1:=I0.s.gal gg
     have na0:=I0.i
     have na1:=I0.ia
     have nb0:=I0.j
     have nb1:=I0.jb
     refine aC (jU hpb ?_)
     refine aC (jJQ (G1.k.trans hk) ipb T.ia (whole T.sa) (by omega) (by omega) fun k1 g1 g2 g3=>?_)
     dsimp only
     have M1:=MH.appA T I0.m g1 (fun n x h1 h2 h3=>jDF T.sb hpb (cA (g3 n x (by omega) (by omega) (at_list.mpr h3))))
     have hle:∀ y∈a.toList.take k1,LE y pb:=fun y hy=>by
      obtain⟨n,h1,h2⟩:=jDG hy
      exact g2 n y (by omega) (by omega) (at_list.mpr h2)
     by_cases e0:na - k1>0
     case' pos=>
      rw[aq e0]
      by_cases f1:k1=0
      ·rw[aq (bp f1)]
       rw[f1] at M1 ⊢
       exact aI (.inl ⟨_,rfl,MH.doneA T M1,G1⟩)
      rw[am (bn f1)]
      obtain⟨pa,hpa,ipa⟩:=T.atA (i:=k1 - 1) (by omega)
      have hz:0<k1:=by omega
      generalize hiz:k1=iz at*
     case' neg=>
      rw[am e0]
      have e0':k1=na:=by omega
      subst e0'
      have M1:=I0.m
      obtain⟨pa,hpa,ipa⟩:=T.atA (i:=k1 - 1) (by omega)
      have hz:0<k1:=by omega
      generalize hiz:k1=iz at*
     all_goals
      refine aC (jU hpb ?_)
      have M2:=MH.pushB T M1 (by omega) hpb hle
      by_cases e1:nb - 1=1
      ·rw[aq (bp e1)]
       rw[e1] at M2 ⊢
       exact aI (.inl ⟨_,rfl,MH.doneF T M2,G1⟩)
      rw[am (bn e1)]
      refine aC (jU hpa ?_)
      refine aC (jJR (G1.k.trans hk) ipa T.ib (whole T.sb) (by omega) (by omega) fun k2 l1 l2 l3=>?_)
      dsimp only
      have M3:=MH.appB T M2 l1 (fun n x h1 h2 h3=>jDF T.sa hpa (l3 n x (by omega) (by omega) (at_list.mpr h3)))
      have fin3:∀ y∈b.toList.take k2,LE y pa:=fun y hy=>by
       obtain⟨n,h1,h2⟩:=jDG hy
       exact cA (l2 n y (by omega) (by omega) (at_list.mpr h2))
      by_cases e2:nb - 1 - k2>0
      ·rw[aq e2]
       by_cases e3:k2=1
       ·rw[aq (bp e3)]
        rw[e3] at M3 ⊢
        exact aI (.inl ⟨_,rfl,MH.doneF T M3,G1⟩)
       rw[am (bn e3)]
       by_cases e5:k2=0
       ·rw[aq (bp e5)]
        rw[e5] at M3 ⊢
        exact aI (.inl ⟨_,rfl,MH.doneB T M3,G1⟩)
       rw[am (bn e5)]
       refine aC (jU hpa ?_)
       have M4:=MH.pushA T M3 hz hpa fin3
       by_cases e4:iz - 1=0
       ·rw[aq (bp e4)]
        rw[e4] at M4 ⊢
        exact aI (.inl ⟨_,rfl,MH.doneA T M4,G1⟩)
       rw[am (bn e4)]
       split
       ·exact aI (.inr ⟨_,_,_,_,_,_,rfl,⟨M4,by omega,by omega,by omega,by omega,G1⟩,by omega⟩)
       ·exact aI ⟨_,_,_,_,_,_,rfl,⟨M4,by omega,by omega,by omega,by omega,G1⟩,by omega⟩
      ·rw[am e2]
       have e0:k2=nb - 1:=by omega
       subst e0
       refine aC (jU hpa ?_)
       have M4:=MH.pushA T M2 hz hpa fin3
       by_cases e4:iz - 1=0
       ·rw[aq (bp e4)]
        rw[e4] at M4 ⊢
        exact aI (.inl ⟨_,rfl,MH.doneA T M4,G1⟩)
       rw[am (bn e4)]
       split
       ·exact aI (.inr ⟨_,_,_,_,_,_,rfl,⟨M4,by omega,by omega,by omega,by omega,G1⟩,by omega⟩)
       ·exact aI ⟨_,_,_,_,_,_,rfl,⟨M4,by omega,by omega,by omega,by omega,G1⟩,by omega⟩
end
def KI (xs:Array Keyed)(i:Nat):Int:=match xs[i]? with
 | some p=>key p
 | none=>0
def STo (xs:Array Keyed)(k:Nat):Prop:=∀ i j,i<=j->j<k->KI xs i<=KI xs j
structure SB (a₀:Array Keyed)(st:SortSt):Prop where
 perm:(arrOf st).Perm a₀
 kind:kindOf st=Od.kd
 failed:failedOf st=none
 pend:pendingOf st=#[]
theorem SB.size {a₀:Array Keyed}{st:SortSt}(h:SB a₀ st):(arrOf st).size=a₀.size:=h.perm.size_eq
theorem jBM {xs ys:Array Keyed}{i j:Nat}(h:xs[i]?=ys[j]?):KI xs i=KI ys j:=by unfold KI; rw[h]
theorem jO0 {xs:Array Keyed}{src d:Nat}(hs:src<xs.size)(hd:d<=src)(k:Nat):
  KI (bubble xs src d) k=if k=src - d then KI xs src else if src - d<k/\k<=src then KI xs (k - 1) else KI xs k:=by
 have e:=getElem?_bubble hs d hd k
 by_cases h1:k=src - d
 ·rw[aq h1] at e ⊢; exact jBM e
 ·rw[am h1] at e ⊢
  by_cases h2:src - d<k/\k<=src
  ·rw[aq h2] at e ⊢; exact jBM e
  ·rw[am h2] at e ⊢; exact jBM e
theorem jCQ {xs:Array Keyed}{i j:Nat}(hj:j<=xs.size)(k:Nat):
  KI (mirror xs i j ((j - i) / 2)) k=if i<=k/\k<j then KI xs (i+j - 1 - k) else KI xs k:=by
 have e:=getElem?_mirror_all (i:=i) hj k
 by_cases h1:i<=k/\k<j
 ·rw[aq h1] at e
  rw[aq h1]
  exact jBM e
 ·rw[am h1] at e
  rw[am h1]
  exact jBM e
theorem jA1 {xs:Array Keyed}{i j:Nat}(hj:j<=xs.size)(heq:∀ k,i<=k->k<j->KI xs k=KI xs (j - 1))(k:Nat):
  KI (mirror xs i j ((j - i) / 2)) k=KI xs k:=by
 rw[jCQ hj]
 split
 ·rename_i h
  rw[heq _ (by omega) (by omega),heq k h.1 h.2]
 ·rfl
def Up (xs:Array Keyed)(lo n:Nat):Prop:=∀ i j,lo<=i->i<=j->j<lo+n->KI xs i<=KI xs j
def Dn (xs:Array Keyed)(lo n:Nat):Prop:=∀ i j,lo<=i->i<=j->j<lo+n->KI xs j<=KI xs i
structure BB (a₀:Array Keyed)(p:Array (Nat×Nat×Nat))(F:Nat->Int)(lo:Nat)(st:SortSt):Prop where
 perm:(arrOf st).Perm a₀
 kind:kindOf st=Od.kd
 failed:failedOf st=none
 pend:pendingOf st=p
 low:∀ k,k<lo->KI (arrOf st) k=F k
theorem jQB {a₀ xs:Array Keyed}(hp:xs.Perm a₀)(h0:AllI a₀.toList){i:Nat}(hi:i<a₀.size):∃ q,xs[i]?=some q/\IsI q/\key q=KI xs i:=by
 have hi':i<xs.size:=by rw[hp.size_eq]; exact hi
 have hm:xs[i]∈a₀.toList:=(cW.mp hp).mem_iff.mp (by simp)
 have e:xs[i]?=some xs[i]:=ji _ i hi'
 exact⟨xs[i],e,h0 _ hm,by unfold KI; rw[e]⟩
section
variable {prog:Program}{w:World}{A:Around}{E:Value->Shared->Prop}{s:Shared} [LtOk prog w A s]{a₀:Array Keyed}{p:Array (Nat×Nat×Nat)}{F:Nat->Int}{lo:Nat}
theorem BB.sz {st:SortSt}(h:BB a₀ p F lo st):(arrOf st).size=a₀.size:=h.perm.size_eq
theorem BB.arr {st:SortSt}(h:BB a₀ p F lo st){xs:Array Keyed}(hp:xs.Perm (arrOf st))(hl:∀ k,k<lo->KI xs k=KI (arrOf st) k):BB a₀ p F lo (setArr st xs):=
 ⟨hp.trans h.perm,h.kind,h.failed,h.pend,fun k hk=>(hl k hk).trans (h.low k hk)⟩
theorem jCR {st:SortSt}{i j:Nat}{Q:Option Bool->SortSt->Prop}(hB:BB a₀ p F lo st)(h0:AllI a₀.toList)(hi:i<a₀.size)(hj:j<a₀.size)
  (h:Q (some (decide (KI (arrOf st) i<KI (arrOf st) j))) st):wpS (model prog w) A E s (ltAt' i j) Q st:=by
 obtain⟨x,e1,i1,k1⟩:=jQB hB.perm h0 hi
 obtain⟨y,e2,i2,k2⟩:=jQB hB.perm h0 hj
 rw[ltAt'_eq]
 refine aC (gq ?_)
 show wpS _ _ _ _ (do let x <- elem' (arrOf st) i; let y <- elem' (arrOf st) j; lt' x y) Q st
 rw[elem'_eq,elem'_eq,e1,e2]
 refine aC (aI (aC (aI (jG6 hB.kind i1 i2 ?_))))
 rw[k1,k2]
 exact h
theorem Up.one {xs:Array Keyed} :Up xs lo 1:=fun i j h1 h2 h3=>by
 have:i=j:=by omega
 rw[this]
 exact cI _
theorem Dn.one {xs:Array Keyed} :Dn xs lo 1:=fun i j h1 h2 h3=>by
 have:i=j:=by omega
 rw[this]
 exact cI _
theorem Up.more {xs:Array Keyed}{n:Nat}(h:Up xs lo n)(hn:0<n)(hc:KI xs (lo+n - 1)<=KI xs (lo+n)):Up xs lo (n+1):=fun i j h1 h2 h3=>by
 by_cases e:j<lo+n
 ·exact h i j h1 h2 e
 ·have ej:j=lo+n:=by omega
  subst ej
  by_cases ei:i=lo+n
  ·rw[ei]
   exact cI _
  ·exact cV (h i (lo+n - 1) h1 (by omega) (by omega)) hc
theorem Dn.more {xs:Array Keyed}{n:Nat}(h:Dn xs lo n)(hn:0<n)(hc:KI xs (lo+n)<=KI xs (lo+n - 1)):Dn xs lo (n+1):=fun i j h1 h2 h3=>by
 by_cases e:j<lo+n
 ·exact h i j h1 h2 e
 ·have ej:j=lo+n:=by omega
  subst ej
  by_cases ei:i=lo+n
  ·rw[ei]
   exact cI _
  ·exact cV hc (h i (lo+n - 1) h1 (by omega) (by omega))
theorem Dn.congr {xs ys:Array Keyed}{n:Nat}(h:Dn xs lo n)(e:∀ k,KI ys k=KI xs k):Dn ys lo n:=fun i j h1 h2 h3=>by
 rw[e i,e j]
 exact h i j h1 h2 h3
theorem jF4 {st:SortSt}{nrem:Nat}{Q:Option Nat->SortSt->Prop}(h0:AllI a₀.toList)(hn:lo+nrem<=a₀.size)(hn1:1<=nrem)(hB:BB a₀ p F lo st)
  (h:∀ m st',BB a₀ p F lo st'->1<=m->m<=nrem->Up (arrOf st') lo m->Q (some m) st'):wpS (model prog w) A E s (countRun' lo nrem) Q st:=by
 rw[countRun'_eq]
 dsimp only
 refine aC (dq (bO (I:=fun x c st'=>st'=st/\c=(none,x)/\Up (arrOf st) lo x)
  (Q:=fun c st'=>st'=st/\∃ n,c=(none,n)/\1<=n/\n<=nrem/\Up (arrOf st) lo n/\(n=nrem\/KI (arrOf st) (lo+n)<KI (arrOf st) (lo+n - 1))) ?step ?fin ⟨rfl,rfl,Up.one⟩) ?post)
 case fin=>
  rintro c st' ⟨rfl,rfl,hu⟩
  rw[show max 1 nrem=nrem by omega] at hu ⊢
  exact⟨rfl,nrem,rfl,hn1,ao _,hu, .inl rfl⟩
 case step=>
  rintro x c st' h1 h2 ⟨rfl,rfl,hu⟩
  dsimp only
  refine aC (jCR hB h0 (by omega) (by omega) ?_)
  dsimp only
  by_cases hl:KI (arrOf st') (lo+x)<KI (arrOf st') (lo+x - 1)
  ·rw[ar hl,aq rfl]
   exact aI ⟨rfl,x,rfl,by omega,by omega,hu, .inr hl⟩
  ·rw[aH hl,am aj]
   exact aI ⟨rfl,rfl,hu.more (by omega) (by omega)⟩
 case post=>
  rintro c st' ⟨rfl,n,rfl,n1,n2,hu,hor⟩
  dsimp only
  by_cases hnn:n=nrem
  ·rw[aq (bp hnn)]
   exact aI (h n st' hB n1 n2 hu)
  rw[am (bn hnn)]
  have hlt:=hor.resolve_left hnn
  have hz:lo+n<=(arrOf st').size:=by rw[hB.sz]; omega
  by_cases hgt:n>1
  case' pos=>
   rw[aq hgt]
   refine aC (jCR hB h0 (by omega) (by omega) ?_)
   dsimp only
   by_cases hr:KI (arrOf st') lo<KI (arrOf st') (lo+n - 1)
   ·rw[ar hr,aq rfl]
    exact aI (h n st' hB n1 n2 hu)
   rw[aH hr,am aj]
   have hall:∀ k,lo<=k->k<lo+n->KI (arrOf st') k=KI (arrOf st') (lo+n - 1):=fun k h1 h2=>by
    have a1:=hu lo k (by omega) h1 h2
    have a2:=hu k (lo+n - 1) h1 (by omega) (by omega)
    omega
   refine aC (wpS_reverse ?_)
   have hB1:=hB.arr (xs:=mirror (arrOf st') lo (lo+n) ((lo+n - lo) / 2)) (mirror_perm _ _ _ _) fun k _=>jA1 hz hall k
   have hs0:Dn (arrOf st') lo n:=fun i j h1 h2 h3=>by
    rw[hall i h1 (by omega),hall j (by omega) h3]
    exact cI _
   have hs1:Dn (arrOf (setArr st' (mirror (arrOf st') lo (lo+n) ((lo+n - lo) / 2)))) lo (n+1):=(hs0.more (by omega) (cA hlt)).congr (jA1 hz hall)
   generalize setArr st' (mirror (arrOf st') lo (lo+n) ((lo+n - lo) / 2))=st1 at*
  case' neg=>
   rw[am hgt]
   have en:n=1:=by omega
   have hB1:=hB
   have hs1:Dn (arrOf st') lo (n+1):=by
    rw[en] at hlt ⊢
    exact Dn.one.more (by omega) (cA hlt)
  all_goals
   refine aC (gS (de ⟨rfl,?_⟩))
   refine aC (dq (bO (I:=fun x c st'=>∃ q,c=(none,x,q)/\BB a₀ p F lo st'/\Dn (arrOf st') lo x/\q+1<=x/\∀ i,lo+x - (q+1)<=i->i<lo+x->KI (arrOf st') i=KI (arrOf st') (lo+x - 1))
    (Q:=fun c st'=>∃ m q,c=(none,m,q)/\1<=m/\m<=nrem/\BB a₀ p F lo st'/\Dn (arrOf st') lo m/\q+1<=m/\∀ i,lo+m - (q+1)<=i->i<lo+m->KI (arrOf st') i=KI (arrOf st') (lo+m - 1)) ?dstep ?dfin ⟨0,rfl,hB1,hs1,by omega,fun i h1 h2=>by congr 1; omega⟩) ?dpost)
   case dfin=>
    rintro c st' ⟨q,rfl,hb,hd,hq,he⟩
    rw[show max (n+1) nrem=nrem by omega] at hd hq he ⊢
    exact⟨nrem,q,rfl,by omega,by omega,hb,hd,hq,he⟩
   case dstep=>
    rintro x c st' h1 h2 ⟨q,rfl,hb,hd,hq,he⟩
    dsimp only
    have hz:lo+x<=(arrOf st').size:=by rw[hb.sz]; omega
    refine aC (jCR hb h0 (by omega) (by omega) ?_)
    dsimp only
    by_cases hl:KI (arrOf st') (lo+x)<KI (arrOf st') (lo+x - 1)
    ·rw[ar hl,aq rfl]
     have d1:=hd.more (by omega) (cA hl)
     by_cases hq0:q>0
     ·rw[aq hq0]
      refine aC (wpS_reverse (aI ⟨0,rfl,hb.arr (mirror_perm _ _ _ _) fun k _=>jA1 hz he k,d1.congr (jA1 hz he),by omega,fun i h1 h2=>by congr 1; omega⟩))
     ·rw[am hq0]
      exact aI ⟨0,rfl,hb,d1,by omega,fun i h1 h2=>by congr 1; omega⟩
    ·rw[aH hl,am aj]
     refine aC (jCR hb h0 (by omega) (by omega) ?_)
     dsimp only
     by_cases hg:KI (arrOf st') (lo+x - 1)<KI (arrOf st') (lo+x)
     ·rw[ar hg,aq rfl]
      exact aI ⟨x,q,rfl,by omega,by omega,hb,hd,hq,he⟩
     ·rw[aH hg,am aj]
      have ex:KI (arrOf st') (lo+x)=KI (arrOf st') (lo+x - 1):=by omega
      refine aI ⟨q+1,rfl,hb,hd.more (by omega) (by omega),by omega,fun i h1 h2=>?_⟩
      rw[show lo+(x+1) - 1=lo+x by omega]
      by_cases hix:i=lo+x
      ·rw[hix]
      ·rw[ex]
       exact he i (by omega) (by omega)
   case dpost=>
    rintro c st2 ⟨m,q,rfl,m1,m2,hB2,hs2,hq,he⟩
    dsimp only
    have hz2:lo+m<=(arrOf st2).size:=by rw[hB2.sz]; omega
    by_cases hq0:q>0
    case' pos=>
     rw[aq hq0]
     refine aC (wpS_reverse ?_)
     have hB3:=hB2.arr (xs:=mirror (arrOf st2) (lo+m - (q+1)) (lo+m) ((lo+m - (lo+m - (q+1))) / 2)) (mirror_perm _ _ _ _) fun k _=>jA1 hz2 he k
     have hs3:Dn (arrOf (setArr st2 (mirror (arrOf st2) (lo+m - (q+1)) (lo+m) ((lo+m - (lo+m - (q+1))) / 2)))) lo m:=hs2.congr (jA1 hz2 he)
     generalize setArr st2 (mirror (arrOf st2) (lo+m - (q+1)) (lo+m) ((lo+m - (lo+m - (q+1))) / 2))=st3 at*
    case' neg=>
     rw[am hq0]
     have hB3:=hB2
     have hs3:=hs2
     generalize st2=st3 at*
    all_goals
     have hz3:lo+m<=(arrOf st3).size:=by rw[hB3.sz]; omega
     refine aC (wpS_reverse ?_)
     have hB4:=hB3.arr (xs:=mirror (arrOf st3) lo (lo+m) ((lo+m - lo) / 2)) (mirror_perm _ _ _ _) fun k hk=>by
      rw[jCQ hz3,am (by omega)]
     have hU:Up (mirror (arrOf st3) lo (lo+m) ((lo+m - lo) / 2)) lo m:=fun i j h1 h2 h3=>by
      rw[jCQ hz3,jCQ hz3,aq ⟨h1,by omega⟩,aq ⟨by omega,h3⟩]
      exact hs3 _ _ (by omega) (by omega) (by omega)
     generalize mirror (arrOf st3) lo (lo+m) ((lo+m - lo) / 2)=xs4 at*
     refine aC (dq (bO (I:=fun x c st'=>st'=setArr st3 xs4/\c=(none,x)/\Up xs4 lo x)
      (Q:=fun c st'=>st'=setArr st3 xs4/\∃ n,c=(none,n)/\1<=n/\n<=nrem/\Up xs4 lo n) ?tstep ?tfin ⟨rfl,rfl,hU⟩) ?tpost)
     case tfin=>
      rintro c st' ⟨rfl,rfl,hu⟩
      rw[show max m nrem=nrem by omega] at hu ⊢
      exact⟨rfl,nrem,rfl,by omega,by omega,hu⟩
     case tstep=>
      rintro x c st' h1 h2 ⟨rfl,rfl,hu⟩
      dsimp only
      refine aC (jCR hB4 h0 (by omega) (by omega) ?_)
      dsimp only
      by_cases hl:KI xs4 (lo+x)<KI xs4 (lo+x - 1)
      ·rw[ar hl,aq rfl]
       exact aI ⟨rfl,x,rfl,by omega,by omega,hu⟩
      ·rw[aH hl,am aj]
       exact aI ⟨rfl,rfl,hu.more (by omega) (by omega)⟩
     case tpost=>
      rintro c st' ⟨rfl,n,rfl,n1,n2,hu⟩
      exact aI (h n _ hB4 n1 n2 hu)
theorem jDO {st:SortSt}{n ok:Nat}{Q:Bool->SortSt->Prop}(h0:AllI a₀.toList)(hn:lo+n<=a₀.size)(hok:ok<=n)(hB:BB a₀ p F lo st)(hs:Up (arrOf st) lo ok)
  (h:∀ st',BB a₀ p F lo st'->Up (arrOf st') lo n->Q true st'):wpS (model prog w) A E s (binarySort' lo n ok) Q st:=by
 rw[binarySort'_eq]
 dsimp only
 refine aC (dq (bO (I:=fun k c st'=>c=(none,())/\BB a₀ p F lo st'/\Up (arrOf st') lo (min k n))
  (Q:=fun c st'=>c=(none,())/\BB a₀ p F lo st'/\Up (arrOf st') lo n) ?step ?fin ⟨rfl,hB,?init⟩) ?post)
 case post=>
  rintro c st' ⟨rfl,hb,hu⟩
  exact aI (h st' hb hu)
 case init=>
  by_cases e:ok=0
  ·intro i j h1 h2 h3
   have:i=j:=by omega
   rw[this]
   exact cI _
  ·exact fun i j h1 h2 h3=>hs i j h1 h2 (by omega)
 case fin=>
  rintro c st' ⟨hc,hb,hu⟩
  rw[show min (max (max ok 1) n) n=n by omega] at hu
  exact⟨hc,hb,hu⟩
 case step=>
  rintro k c st1 hk1 hk2 ⟨rfl,hb,hu⟩
  rw[show min k n=k by omega] at hu
  refine aC (dq (bO (I:=fun x c st'=>st'=st1/\∃ l r,c=(none,l,r)/\l<=r/\r<=k/\r - l<=k - x/\
    (∀ i,i<l->KI (arrOf st1) (lo+i)<=KI (arrOf st1) (lo+k))/\∀ i,r<=i->i<k->KI (arrOf st1) (lo+k)<KI (arrOf st1) (lo+i))
   (Q:=fun c st'=>st'=st1/\∃ l r,c=(none,l,r)/\l<=k/\
    (∀ i,i<l->KI (arrOf st1) (lo+i)<=KI (arrOf st1) (lo+k))/\∀ i,l<=i->i<k->KI (arrOf st1) (lo+k)<KI (arrOf st1) (lo+i)) ?step1 ?fin1 ⟨rfl,0,k,rfl,by omega,by omega,by omega,fun i hi=>by omega,fun i h1 h2=>by omega⟩) ?post1)
  case fin1=>
   rintro c st' ⟨rfl,l,r,rfl,b1,b2,b3,b4,b5⟩
   have:l=r:=by omega
   subst this
   exact⟨rfl,l,l,rfl,b2,b4,b5⟩
  case step1=>
   rintro x c st' _ hx ⟨rfl,l,r,rfl,b1,b2,b3,b4,b5⟩
   dsimp only
   by_cases hge:l ≥ r
   ·rw[aq hge]
    have:l=r:=by omega
    subst this
    exact aI ⟨rfl,l,l,rfl,b2,b4,b5⟩
   rw[am hge]
   refine aC (jCR hb h0 (by omega) (by omega) ?_)
   dsimp only
   by_cases hl:KI (arrOf st') (lo+k)<KI (arrOf st') (lo+(l+r) / 2)
   ·rw[ar hl,aq rfl]
    exact aI ⟨rfl,l,(l+r) / 2,rfl,by omega,by omega,by omega,b4,fun i h1 h2=>Int.lt_of_lt_of_le hl (hu _ _ (by omega) (by omega) (by omega))⟩
   ·rw[aH hl,am aj]
    exact aI ⟨rfl,(l+r) / 2+1,r,rfl,by omega,by omega,by omega,fun i h1=>cV (hu (lo+i) (lo+(l+r) / 2) (by omega) (by omega) (by omega)) (Int.not_lt.mp hl),b5⟩
  case post1=>
   rintro c st' ⟨rfl,l,r,rfl,hlk,b4,b5⟩
   dsimp only
   rw[moveDown'_eq]
   have hks:lo+k<(arrOf st').size:=by rw[hb.sz]; omega
   have kb:∀ x,KI (bubble (arrOf st') (lo+k) (lo+k - (lo+l))) x=if x=lo+l then KI (arrOf st') (lo+k) else if lo+l<x/\x<=lo+k then KI (arrOf st') (x - 1) else KI (arrOf st') x:=fun x=>by
    have:=jO0 hks (d:=lo+k - (lo+l)) (by omega) x
    rw[show lo+k - (lo+k - (lo+l))=lo+l by omega] at this
    exact this
   refine aC (eE (aI ⟨rfl,hb.arr (bubble_perm _ _ _) fun x hx=>?_,?_⟩))
   ·rw[kb,am (by omega),am (by omega)]
   rw[show min (k+1) n=k+1 by omega]
   intro i j h1 h2 h3
   show KI (bubble _ _ _) i<=KI (bubble _ _ _) j
   rw[kb,kb]
   have lo1:∀ i,lo<=i->i<lo+l->KI (arrOf st') i<=KI (arrOf st') (lo+k):=fun i h1 h2=>by
    have:=b4 (i - lo) (by omega)
    rw[show lo+(i - lo)=i by omega] at this
    exact this
   have hi1:∀ i,lo+l<=i->i<lo+k->KI (arrOf st') (lo+k)<=KI (arrOf st') i:=fun i h1 h2=>by
    have:=b5 (i - lo) (by omega) (by omega)
    rw[show lo+(i - lo)=i by omega] at this
    exact cA this
   repeat' split
   all_goals first
    | (exfalso; omega)
    | exact cI _
    | exact lo1 _ (by omega) (by omega)
    | exact hi1 _ (by omega) (by omega)
    | exact hu _ _ (by omega) (by omega) (by omega)
end
def mergeAtB: { g:Nat->StateT SortSt Sem Bool // mergeAt'=g} :=⟨fun _=>bind _ _,rfl⟩
theorem yK {xs:Array Keyed}{i:Nat}{p:Keyed}(h:xs[i]?=some p):KI xs i=key p:=by
 unfold KI
 rw[h]
theorem jJ1 (s1:Nat):∀ (l:List Keyed) (j0:Nat) (a:Array Keyed) (P M S:List Keyed),P.length=s1+j0->M.length=l.length->a.toList=P++(M++S)->
  ((l.zipIdx j0).foldl (fun (a:Array Keyed) (x:Keyed×Nat)=>a.setIfInBounds (s1+x.2) x.1) a).toList=P++(l++S)
 | [],j0,a,P,M,S,h1,h2,h3=>by
  rw[bY h2] at h3
  exact h3
 | q::l,j0,a,P,[],S,h1,h2,h3=>by cases h2
 | q::l,j0,a,P,m::M,S,h1,h2,h3=>by
  rw[List.zipIdx_cons,List.foldl_cons]
  have:=jJ1 s1 l (j0+1) (a.setIfInBounds (s1+j0) q) (P++[q]) M S (by rw[aB,h1]; rfl) (Nat.succ.inj h2) (by
   rw[gU,h3,<- h1,iR _ _ (ao _),gF,aU]
   rfl)
  rw[this,aU]
  rfl
theorem jSC {P m1 m2 S:List Keyed}(e:m1.length=m2.length){k:Nat}(h:k<P.length\/P.length+m1.length<=k):(P++(m1++S))[k]?=(P++(m2++S))[k]?:=by
 rcases h with h | h
 ·rw[bK h,bK h]
 ·rw[aY (by omega),aY (by omega),aY (by omega),aY (by omega),e]
theorem jUE {P m S:List Keyed}{k:Nat}(h1:P.length<=k)(h2:k<P.length+m.length):(P++(m++S))[k]?=m[k - P.length]?:=by
 rw[aY h1,bK (by omega)]
theorem jJU {xs:Array Keyed}{i j t:Nat}(h:t<j - i):(xs.extract i j).toList[t]?=xs[i+t]?:=by
 rw[jAR,cg h,gQ,bD]
theorem jD1 {xs:Array Keyed}{i j:Nat}{p:Keyed}(h:p∈(xs.extract i j).toList):∃ t,i<=t/\t<j/\xs[t]?=some p:=by
 rw[jAR] at h
 obtain⟨t,h1,h2,h3⟩:=jA4 h
 exact⟨t,h1,by omega,at_list.mpr h3⟩
theorem jEC {xs:Array Keyed}{i j:Nat}(h:j<=xs.size):(xs.extract i j).size=j - i:=by
 rw[Array.size_extract]
 omega
theorem jNE {xs:Array Keyed}{i j:Nat}(h:∀ n m x y,i<=n->n<=m->m<j->xs[n]?=some x->xs[m]?=some y->LE x y):Srt (xs.extract i j).toList:=by
 refine bL.mpr fun a b ha hb hab=>?_
 have hl:(xs.extract i j).toList.length<=j - i:=by rw[jAR,bA]; omega
 have e1:=jJU (xs:=xs) (i:=i) (j:=j) (t:=a) (by omega)
 have e2:=jJU (xs:=xs) (i:=i) (j:=j) (t:=b) (by omega)
 rw[aw ha] at e1
 rw[aw hb] at e2
 exact h (i+a) (i+b) _ _ (by omega) (by omega) (by omega) e1.symm e2.symm
theorem KI_at {xs ys:Array Keyed}{i j:Nat}(h:xs.toList[i]?=ys.toList[j]?):KI xs i=KI ys j:=jBM (by rw[<- bD,<- bD]; exact h)
theorem jKB {xs r R:Array Keyed}{sa na sb nb k1 k2:Nat}(hsb:sb=sa+na)(hk1:k1<na)(hk2:0<k2)(hk2':k2<=nb)(hz:sb+nb<=xs.size)
  (u1:Up xs sa na) (u2:Up xs sb nb) (g2:∀ t,sa<=t->t<sa+k1->KI xs t<=KI xs sb) (l3:∀ t,sb+k2<=t->t<sb+nb->KI xs (sb - 1)<=KI xs t)
  (D:yN (xs.extract (sa+k1) sb) (xs.extract sb (sb+k2)) r)
  (hR:R.toList=xs.toList.take (sa+k1)++(r.toList++xs.toList.drop (sb+k2))):
  R.Perm xs/\(∀ k,k<sa\/sa+(na+nb)<=k->KI R k=KI xs k)/\Up R sa (na+nb):=by
 have lr:r.toList.length=sb+k2 - (sa+k1):=by
  rw[D.1.length_eq,aB,aM,aM,jEC (by omega),jEC (by omega)]
  omega
 have lP:(xs.toList.take (sa+k1)).length=sa+k1:=by rw[bA,aM]; omega
 have hX:xs.toList=xs.toList.take (sa+k1)++(((xs.extract (sa+k1) sb).toList++(xs.extract sb (sb+k2)).toList)++xs.toList.drop (sb+k2)):=by
  have a1:=bv (sa+k1) xs.toList
  have a2:=bv (sb - (sa+k1)) (xs.toList.drop (sa+k1))
  have a3:=bv k2 (xs.toList.drop sb)
  rw[gP] at a2 a3
  rw[show sa+k1+(sb - (sa+k1))=sb by omega] at a2
  rw[jAR,jAR,cJ,aU,a3,a2,a1]
 have lm:((xs.extract (sa+k1) sb).toList++(xs.extract sb (sb+k2)).toList).length=r.toList.length:=D.1.length_eq.symm
 have out:∀ k,k<sa+k1\/sb+k2<=k->KI R k=KI xs k:=fun k hk=>KI_at (by
  have:=jSC (P:=xs.toList.take (sa+k1)) (S:=xs.toList.drop (sb+k2)) lm.symm (k:=k) (by rw[lP,lr]; omega)
  exact(bN (·[k]?) hR).trans (this.trans (bN (·[k]?) hX).symm))
 have inn:∀ k,sa+k1<=k->k<sb+k2->R.toList[k]?=r.toList[k - (sa+k1)]?:=fun k h1 h2=>by
  rw[hR,jUE (by rw[lP]; exact h1) (by rw[lP,lr]; omega),lP]
 have mem:∀ k,sa+k1<=k->k<sb+k2->∃ t,sa+k1<=t/\t<sb+k2/\KI R k=KI xs t:=fun k h1 h2=>by
  have hk:k - (sa+k1)<r.toList.length:=by omega
  have e:=inn k h1 h2
  rw[aw hk] at e
  have hm:=D.1.mem_iff.mp (cz hk)
  rcases aL.mp hm with q | q
  ·obtain⟨t,t1,t2,t3⟩:=jD1 q
   exact⟨t,t1,by omega,(yK (at_list.mpr e)).trans (yK t3).symm⟩
  ·obtain⟨t,t1,t2,t3⟩:=jD1 q
   exact⟨t,by omega,t2,(yK (at_list.mpr e)).trans (yK t3).symm⟩
 have srt:∀ i j,sa+k1<=i->i<=j->j<sb+k2->KI R i<=KI R j:=fun i j h1 h2 h3=>by
  have hi:i - (sa+k1)<r.toList.length:=by omega
  have hj:j - (sa+k1)<r.toList.length:=by omega
  have e1:=inn i h1 (by omega)
  have e2:=inn j (by omega) h3
  rw[aw hi] at e1
  rw[aw hj] at e2
  rw[yK (at_list.mpr e1),yK (at_list.mpr e2)]
  exact jEO D.2 (aw hi) (aw hj) (by omega)
 have low:∀ t u,sa<=t->t<sa+k1->t<=u->u<sb+nb->KI xs t<=KI xs u:=fun t u h1 h2 h3 h4=>by
  by_cases e:u<sb
  ·exact u1 t u h1 h3 (by omega)
  ·exact cV (g2 t h1 h2) (u2 sb u (ao _) (by omega) h4)
 have high:∀ t u,sa<=t->t<=u->sb+k2<=u->u<sb+nb->KI xs t<=KI xs u:=fun t u h1 h2 h3 h4=>by
  by_cases e:t<sb
  ·exact cV (u1 t (sb - 1) h1 (by omega) (by omega)) (l3 u h3 h4)
  ·exact u2 t u (by omega) h2 h4
 refine⟨?_,fun k hk=>out k (by omega),fun i j h1 h2 h3=>?_⟩
 ·refine cW.mpr ?_
  rw[hR]
  refine List.Perm.trans ?_ (iL hX.symm)
  exact db _ (fY _ D.1)
 ·have h3:j<sb+nb:=by omega
  by_cases i1:i<sa+k1
  ·rw[out i (.inl i1)]
   by_cases j1:j<sa+k1
   ·rw[out j (.inl j1)]
    exact low i j h1 i1 h2 h3
   by_cases j2:j<sb+k2
   ·obtain⟨t,t1,t2,t3⟩:=mem j (by omega) j2
    rw[t3]
    exact low i t h1 i1 (by omega) (by omega)
   ·rw[out j (.inr (by omega))]
    exact low i j h1 i1 h2 h3
  by_cases i2:i<sb+k2
  ·by_cases j2:j<sb+k2
   ·exact srt i j (by omega) h2 j2
   ·obtain⟨t,t1,t2,t3⟩:=mem i (by omega) i2
    rw[t3,out j (.inr (by omega))]
    exact high t j (by omega) (by omega) (by omega) h3
  ·rw[out i (.inr (by omega)),out j (.inr (by omega))]
   exact high i j h1 h2 (by omega) h3
section
variable {prog:Program}{w:World}{A:Around}{E:Value->Shared->Prop}{s:Shared} [LtOk prog w A s]
theorem jQT {st st':SortSt}{Q:PUnit->SortSt->Prop}(h:Q ⟨⟩ st'):wpS (model prog w) A E s (set st':StateT SortSt Sem PUnit) Q st:=eE (f:=fun _=>st') h
theorem jKX {α:Type}{a b:α}{Q:α->SortSt->Prop}{st:SortSt}(e:a=b)(h:Q b st):wpS (model prog w) A E s (pure a:StateT SortSt Sem α) Q st:=aI (e ▸ h)
structure Merged (st st':SortSt)(i sa na sb nb pw:Nat):Prop where
 perm:(arrOf st').Perm (arrOf st)
 kind:kindOf st'=Od.kd
 failed:failedOf st'=none
 pend:pendingOf st'=((pendingOf st).setIfInBounds i (sa,na+nb,pw)).eraseIdxIfInBounds (i+1)
 out:∀ k,k<sa\/sa+(na+nb)<=k->KI (arrOf st') k=KI (arrOf st) k
 up:Up (arrOf st') sa (na+nb)
theorem jHM {st:SortSt}{i sa na pw sb nb w2:Nat}{Q:Bool->SortSt->Prop}(hk:kindOf st=Od.kd)(hf:failedOf st=none)(hI:AllI (arrOf st).toList)
  (h1:(pendingOf st)[i]?=some (sa,na,pw)) (h2:(pendingOf st)[i+1]?=some (sb,nb,w2)) (hsb:sb=sa+na) (hna:0<na) (hnb:0<nb) (hz:sb+nb<=(arrOf st).size)
  (u1:Up (arrOf st) sa na) (u2:Up (arrOf st) sb nb) (h:∀ st',Merged st st' i sa na sb nb pw->Q true st'):wpS (model prog w) A E s (mergeAt' i) Q st:=by
 rw[mergeAtB.2]
 delta mergeAtB
 dsimp only
 simp only [elP,ltP,ltAtP,jI8,jOV,jOW]
 refine aC (gq ?_)
 rw[h1,h2]
 dsimp only
 refine aC (jQT ?_)
 generalize hpp:((pendingOf st).setIfInBounds i (sa,na+nb,pw)).eraseIdxIfInBounds (i+1)=pp
 show wpS _ _ _ _ _ _ (SortSt.mk' (kindOf st) (arrOf st) pp (gallopOf st) (failedOf st))
 generalize hst1:SortSt.mk' (kindOf st) (arrOf st) pp (gallopOf st) (failedOf st)=st1
 have G1:kindOf st1=kindOf st/\arrOf st1=arrOf st/\pendingOf st1=pp/\failedOf st1=failedOf st:=by rw[<- hst1]; exact⟨rfl,rfl,rfl,rfl⟩
 have at_:∀ t,t<(arrOf st).size->∃ q,(arrOf st)[t]?=some q/\IsI q:=fun t ht=>by
  obtain⟨q,q1,q2⟩:=qG ht
  exact⟨q,q1,hI q (az q2)⟩
 have m1:∀ n m x y,sa<=n->n<=m->m<sa+na->(arrOf st)[n]?=some x->(arrOf st)[m]?=some y->LE x y:=fun n m x y a1 a2 a3 hx hy=>by
  have:=u1 n m a1 a2 a3
  rw[yK hx,yK hy] at this
  exact this
 have m2:∀ n m x y,sb<=n->n<=m->m<sb+nb->(arrOf st)[n]?=some x->(arrOf st)[m]?=some y->LE x y:=fun n m x y a1 a2 a3 hx hy=>by
  have:=u2 n m a1 a2 a3
  rw[yK hx,yK hy] at this
  exact this
 obtain⟨pb,hpb,ipb⟩:=at_ sb (by omega)
 refine aC (jU hpb ?_)
 refine aC (jJQ (G1.1.trans hk) ipb hI m1 hna (show sa+na<=(arrOf st).size by omega) fun k1 g1 g2 g3=>?_)
 dsimp only
 have g2:∀ t,sa<=t->t<sa+k1->KI (arrOf st) t<=KI (arrOf st) sb:=fun t t1 t2=>by
  obtain⟨q,hq,_⟩:=at_ t (by omega)
  rw[yK hq,yK hpb]
  exact g2 t q t1 t2 hq
 by_cases e1:na - k1=0
 ·rw[aq (bp e1)]
  refine aI (h _ ⟨?_,G1.1.trans hk,G1.2.2.2.trans hf,G1.2.2.1.trans hpp.symm,fun k _=>?_,?_⟩)
  ·rw[G1.2.1]
  ·rw[G1.2.1]
  ·rw[G1.2.1]
   intro i j i1 i2 i3
   by_cases a:i<sb
   ·by_cases b:j<sb
    ·exact u1 i j i1 i2 (by omega)
    ·exact cV (g2 i i1 (by omega)) (u2 sb j (ao _) (by omega) (by omega))
   ·exact u2 i j (by omega) i2 (by omega)
 rw[am (bn e1)]
 obtain⟨pa,hpa,ipa⟩:=at_ (sa+k1+(na - k1) - 1) (by omega)
 refine aC (jU hpa ?_)
 refine aC (jJR (G1.1.trans hk) ipa hI m2 (by omega) (show sb+nb<=(arrOf st).size by omega) fun k2 l1 l2 l3=>?_)
 dsimp only
 have epa:sa+k1+(na - k1) - 1=sb - 1:=by omega
 rw[epa] at hpa
 have l3':∀ t,sb+k2<=t->t<sb+nb->KI (arrOf st) (sb - 1)<=KI (arrOf st) t:=fun t t1 t2=>by
  obtain⟨q,hq,_⟩:=at_ t (by omega)
  rw[yK hq,yK hpa]
  exact l3 t q t1 t2 hq
 by_cases e2:k2=0
 ·rw[aq (bp e2)]
  refine aI (h _ ⟨?_,G1.1.trans hk,G1.2.2.2.trans hf,G1.2.2.1.trans hpp.symm,fun k _=>?_,?_⟩)
  ·rw[G1.2.1]
  ·rw[G1.2.1]
  ·rw[G1.2.1]
   intro i j i1 i2 i3
   by_cases a:i<sb
   ·by_cases b:j<sb
    ·exact u1 i j i1 i2 (by omega)
    ·exact cV (u1 i (sb - 1) i1 (by omega) (by omega)) (l3' j (by omega) (by omega))
   ·exact u2 i j (by omega) i2 (by omega)
 rw[am (bn e2)]
 have T:Two ((arrOf st).extract (sa+k1) sb) ((arrOf st).extract sb (sb+k2)):=by
  refine⟨fun q hq=>?_,fun q hq=>?_,jNE fun n m x y a1 a2 a3=>m1 n m x y (by omega) a2 (by omega),jNE fun n m x y a1 a2 a3=>m2 n m x y (by omega) a2 (by omega),?_,?_,fun x hx y hy=>?_,fun y hy q hq=>?_⟩
  ·obtain⟨t,_,_,t3⟩:=jD1 hq
   exact hI q (az (at_list.mp t3))
  ·obtain⟨t,_,_,t3⟩:=jD1 hq
   exact hI q (az (at_list.mp t3))
  ·rw[jEC (by omega)]; omega
  ·rw[jEC (by omega)]; omega
  ·obtain⟨t,t1,t2,t3⟩:=jD1 hx
   rw[jEC (by omega),jJU (by omega),show sa+k1+(sb - (sa+k1) - 1)=sb - 1 by omega,hpa] at hy
   cases hy
   exact l2 t x t1 t2 t3
  ·obtain⟨t,t1,t2,t3⟩:=jD1 hy
   rw[jJU (by omega),jh,hpb] at hq
   cases hq
   exact g3 t y t1 (by omega) t3
 by_cases e3:na - k1<=k2
 case' pos=>
  rw[aq e3]
  refine aC (jHK (G1.1.trans hk) T fun r st2 D G0=>?_)
  have G:SG (SortSt.mk' (kindOf st) (arrOf st) pp (gallopOf st) (failedOf st)) st2:=by rw[hst1]; exact G0
  subst hpp
 case' neg=>
  rw[am e3]
  refine aC (jHL (G1.1.trans hk) T fun r st2 D G0=>?_)
  have G:SG (SortSt.mk' (kindOf st) (arrOf st) pp (gallopOf st) (failedOf st)) st2:=by rw[hst1]; exact G0
  subst hpp
 all_goals
  refine aC (eE (aC (gq ?_)))
  have ea:arrOf st2=arrOf st:=G.a
  have W:=jKB (R:=((r.toList.zipIdx 0).foldl (fun (a:Array Keyed) (x:Keyed×Nat)=>a.setIfInBounds (sa+k1+x.2) x.1) (arrOf st))) hsb (by omega) (by omega) l1 hz u1 u2 g2 l3' D (jJ1 (sa+k1) r.toList 0 (arrOf st) ((arrOf st).toList.take (sa+k1)) (((arrOf st).extract (sa+k1) sb).toList++((arrOf st).extract sb (sb+k2)).toList) ((arrOf st).toList.drop (sb+k2)) (by rw[bA,aM]; omega) D.1.length_eq.symm (by
   have a1:=bv (sa+k1) (arrOf st).toList
   have a2:=bv (sb - (sa+k1)) ((arrOf st).toList.drop (sa+k1))
   have a3:=bv k2 ((arrOf st).toList.drop sb)
   rw[gP] at a2 a3
   rw[show sa+k1+(sb - (sa+k1))=sb by omega] at a2
   rw[jAR,jAR,cJ,aU,a3,a2,a1]))
  rw[<- ea] at W
  refine jKX (by show (failedOf st2).isNone=true; rw[G.f]; show (failedOf st).isNone=true; rw[hf]; rfl) (h _ ⟨?_,G.k.trans hk,G.f.trans hf,G.p,?_,?_⟩)
  ·rw[<- ea]
   exact W.1
  ·rw[<- ea]
   exact W.2.1
  ·exact W.2.2
end
def Runs (xs:Array Keyed):List (Nat×Nat×Nat)->Nat->Nat->Prop
 | [],a,b=>a=b
 | (s,n,_)::t,a,b=>s=a/\0<n/\Up xs s n/\Runs xs t (a+n) b
section
variable {xs ys:Array Keyed}
theorem Runs.le:∀ {l:List (Nat×Nat×Nat)}{a b:Nat},Runs xs l a b->a+l.length<=b
 | [],a,b,h=>by have:a=b:=h; rw[bZ]; omega
 | (s,n,_)::t,a,b,⟨_,h2,_,h4⟩=>by
  have:=Runs.le h4
  rw[aR]
  omega
theorem Runs.app:∀ {l m:List (Nat×Nat×Nat)}{a b:Nat},Runs xs (l++m) a b->∃ c,Runs xs l a c/\Runs xs m c b
 | [],m,a,b,h=>⟨a,rfl,h⟩
 | (s,n,_)::t,m,a,b,⟨h1,h2,h3,h4⟩=>by
  obtain⟨c,c1,c2⟩:=Runs.app h4
  exact⟨c,⟨h1,h2,h3,c1⟩,c2⟩
theorem Runs.put:∀ {l m:List (Nat×Nat×Nat)}{a b c:Nat},Runs xs l a c->Runs xs m c b->Runs xs (l++m) a b
 | [],m,a,b,c,h,g=>by have:a=c:=h; subst this; exact g
 | (s,n,_)::t,m,a,b,c,⟨h1,h2,h3,h4⟩,g=>⟨h1,h2,h3,Runs.put h4 g⟩
theorem Up.same {lo n:Nat}(h:Up xs lo n)(e:∀ k,lo<=k->k<lo+n->KI ys k=KI xs k):Up ys lo n:=fun i j h1 h2 h3=>by
 rw[e i h1 (by omega),e j (by omega) h3]
 exact h i j h1 h2 h3
theorem Runs.same:∀ {l:List (Nat×Nat×Nat)}{a b:Nat},Runs xs l a b->(∀ k,a<=k->k<b->KI ys k=KI xs k)->Runs ys l a b
 | [],a,b,h,_=>h
 | (s,n,_)::t,a,b,⟨h1,h2,h3,h4⟩,e=>by
  have:=Runs.le h4
  exact⟨h1,h2,h3.same fun k k1 k2=>e k (by omega) (by omega),Runs.same h4 fun k k1 k2=>e k (by omega) k2⟩
theorem Runs.mod {f:Nat×Nat×Nat->Nat×Nat×Nat}(hf:∀ x,(f x).1=x.1/\(f x).2.1=x.2.1):∀ {l:List (Nat×Nat×Nat)}{i a b:Nat},Runs xs l a b->Runs xs (l.modify i f) a b
 | [],i,a,b,h=>by rw[List.modify_nil]; exact h
 | (s,n,w)::t,0,a,b,⟨h1,h2,h3,h4⟩=>by
  rw[List.modify_zero_cons]
  obtain⟨e1,e2⟩:=hf (s,n,w)
  generalize f (s,n,w)=v at e1 e2 ⊢
  obtain⟨s',n',w'⟩:=v
  have e1:s'=s:=e1
  have e2:n'=n:=e2
  subst e1 e2
  exact⟨h1,h2,h3,h4⟩
 | (s,n,w)::t,i+1,a,b,⟨h1,h2,h3,h4⟩=>by
  rw[List.modify_succ_cons]
  exact⟨h1,h2,h3,Runs.mod hf h4⟩
end
structure RI (a₀:Array Keyed)(lo:Nat)(st:SortSt):Prop where
 perm:(arrOf st).Perm a₀
 kind:kindOf st=Od.kd
 failed:failedOf st=none
 runs:Runs (arrOf st) (pendingOf st).toList 0 lo
theorem jGB:∀ (l:List (Nat×Nat×Nat)) (i:Nat),i+1<l.length->∃ u x y t,l=u++x::y::t/\u.length=i
 | [],i,h=>absurd h (eF _)
 | [x],i,h=>by rw[iP] at h; omega
 | x::y::t,0,h=>⟨[],x,y,t,rfl,rfl⟩
 | x::y::t,i+1,h=>by
  obtain⟨u,x',y',t',e,hu⟩:=jGB (y::t) i (by rw[aR] at h; omega)
  exact⟨x::u,x',y',t',by rw[e]; rfl,by rw[aR,hu]⟩
theorem jT3 {a₀ xs:Array Keyed}(h0:AllI a₀.toList)(hp:xs.Perm a₀):AllI xs.toList:=fun p hp'=>h0 p ((cW.mp hp).mem_iff.mp hp')
section
variable {prog:Program}{w:World}{A:Around}{E:Value->Shared->Prop}{s:Shared} [LtOk prog w A s]{a₀:Array Keyed}
theorem jDN {st:SortSt}{i lo:Nat}{Q:Bool->SortSt->Prop}(h0:AllI a₀.toList)(R:RI a₀ lo st)(hlo:lo<=a₀.size)(hi:i+1<(pendingOf st).size)
  (h:∀ st',RI a₀ lo st'->(pendingOf st').size+1=(pendingOf st).size->(∀ k,lo<=k->KI (arrOf st') k=KI (arrOf st) k)->Q true st'):wpS (model prog w) A E s (mergeAt' i) Q st:=by
 obtain⟨u,⟨sa,na,pw⟩,⟨sb,nb,w2⟩,t,e,hu⟩:=jGB (pendingOf st).toList i (by rw[aM]; exact hi)
 have rr:=R.runs
 rw[e] at rr
 obtain⟨c,r1,a1,a2,a3,a4,a5,a6,a7⟩:=Runs.app rr
 have r2:=Runs.le a7
 have r3:=Runs.le r1
 subst a1
 have e1:(pendingOf st)[i]?=some (sa,na,pw):=by
  rw[<- bD,e,aY (by omega),hu,gF]
  rfl
 have e2:(pendingOf st)[i+1]?=some (sb,nb,w2):=by
  rw[<- bD,e,aY (by omega),hu,cJ]
  rfl
 have z:=R.perm.size_eq
 refine jHM R.kind R.failed (jT3 h0 R.perm) e1 e2 a4 a2 a5 (by omega) a3 a6 fun st' M=>?_
 have ep:(pendingOf st').toList=u++(sa,na+nb,pw)::t:=by
  rw[M.pend,Array.toList_eraseIdxIfInBounds,gU,e,iR _ _ (by omega),hu,gF,List.set_cons_zero,List.eraseIdx_append_of_length_le (by omega),hu,cJ]
  rfl
 refine h st' ⟨M.perm.trans R.perm,M.kind,M.failed,?_⟩ ?_ fun k hk=>M.out k (by omega)
 ·rw[ep]
  refine Runs.put (Runs.same r1 fun k k1 k2=>M.out k (by omega)) ⟨rfl,by omega,M.up,?_⟩
  have:=Runs.same (ys:=arrOf st') a7 fun k k1 k2=>M.out k (by omega)
  rw[Nat.add_assoc] at this
  exact this
 ·have q1:=bN List.length ep
  have q2:=bN List.length e
  rw[aM,aB,aR] at q1
  rw[aM,aB,aR,aR] at q2
  omega
theorem RI.of {st:SortSt}{F:Nat->Int}{lo:Nat}{p:Array (Nat×Nat×Nat)}{xs:Array Keyed}(h:BB a₀ p F lo st)(hr:Runs xs p.toList 0 lo)(hF:∀ k,F k=KI xs k):RI a₀ lo st:=
 ⟨h.perm,h.kind,h.failed,by rw[h.pend]; exact hr.same fun k _ hk=>(h.low k hk).trans (hF k)⟩
theorem jDM {st:SortSt}{Q:Unit->SortSt->Prop}(h0:AllI a₀.toList)(hB:SB a₀ st)(h1:1<=a₀.size)
  (h:∀ st',(arrOf st').Perm a₀->failedOf st'=none->STo (arrOf st') a₀.size->Q () st'):wpS (model prog w) A E s sortRuns' Q st:=by
 rw[sortRuns'_eq]
 refine aC (gq ?_)
 try dsimp only
 have hz:=hB.size
 rw[hz]
 generalize minRun' a₀.size a₀.size 0=mr
 refine aC (dq (bO (I:=fun x c st'=>∃ lo,c=(none,lo)/\x<=lo/\lo<=a₀.size/\RI a₀ lo st')
  (Q:=fun c st'=>c=(none,a₀.size)/\RI a₀ a₀.size st') ?step ?fin ⟨0,rfl,ao _,br _,hB.perm,hB.kind,hB.failed,by rw[hB.pend]; rfl⟩) ?post)
 case fin=>
  rintro c st' ⟨lo,rfl,l1,l2,R⟩
  have:lo=a₀.size:=by omega
  subst this
  exact⟨rfl,R⟩
 case step=>
  rintro x c st1 _ hx ⟨lo,rfl,l1,l2,R1⟩
  try dsimp only
  by_cases hl:lo ≥ a₀.size
  ·rw[aq hl]
   have:lo=a₀.size:=by omega
   subst this
   exact aI ⟨rfl,R1⟩
  rw[am hl]
  refine aC (jF4 (F:=fun k=>KI (arrOf st1) k) (p:=pendingOf st1) h0 (by omega) (by omega) ⟨R1.perm,R1.kind,R1.failed,rfl,fun _ _=>rfl⟩ fun m st2 B2 m1 m2 U2=>?_)
  try dsimp only
  by_cases hm:m<mr
  case' pos=>
   rw[aq hm]
   refine aC (gS (de ⟨rfl,?_⟩))
   refine aC (jDO h0 (by omega) (by omega) B2 U2 fun st4 B4 U4=>?_)
   have R4:=RI.of B4 R1.runs fun _=>rfl
   have n0:0<min (a₀.size - lo) mr:=by omega
   have n9:min (a₀.size - lo) mr<=a₀.size - lo:=by omega
   generalize min (a₀.size - lo) mr=n at*
  case' neg=>
   rw[am hm]
   have R4:=RI.of B2 R1.runs fun _=>rfl
   have U4:=U2
   generalize st2=st4 at*
   generalize m=n at*
  all_goals
   refine aC (gq ?_)
   have last:∀ st5:SortSt,RI a₀ lo st5->Up (arrOf st5) lo n->∃ lo',(none,lo+n)=((none:Option PUnit),lo')/\x+1<=lo'/\lo'<=a₀.size/\RI a₀ lo' (setPending st5 ((pendingOf st5).push (lo,n,0))):=fun st5 R5 U5=>
    ⟨lo+n,rfl,by omega,by omega,R5.perm,R5.kind,R5.failed,by
     show Runs (arrOf st5) ((pendingOf st5).push (lo,n,0)).toList 0 (lo+n)
     rw[dR]
     exact R5.runs.put ⟨rfl,by omega,U5,rfl⟩⟩
   cases hb:(pendingOf st4).back? with
   | none=>
    try dsimp only
    exact aC (eE (aI (last st4 R4 U4)))
   | some v=>
    obtain⟨s1,n1,w1⟩:=v
    try dsimp only
    refine aC (dq (bO (I:=fun _ c st'=>c=(none,())/\RI a₀ lo st'/\Up (arrOf st') lo n) (Q:=fun c st'=>c=(none,())/\RI a₀ lo st'/\Up (arrOf st') lo n) ?mstep (fun _ _ z=>z) ⟨rfl,R4,U4⟩) ?mpost)
    case mstep=>
     rintro y c st5 _ _ ⟨rfl,R5,U5⟩
     try dsimp only
     refine aC (gq ?_)
     by_cases hs:(pendingOf st5).size>1
     ·rw[aq hs]
      obtain⟨v,hv⟩:∃ v,(pendingOf st5)[(pendingOf st5).size - 2]?=some v:=⟨_,Array.getElem?_eq_getElem (by omega)⟩
      rw[hv]
      obtain⟨v1,v2,older⟩:=v
      try dsimp only
      by_cases ho:older<=power' a₀.size (2*s1+n1) (2*s1+n1+n1+n) a₀.size
      ·rw[aq ho]
       exact aI ⟨rfl,R5,U5⟩
      rw[am ho]
      refine aC (jDN h0 R5 (by omega) (by omega) fun st6 R6 _ E6=>?_)
      exact aI ⟨rfl,R6,U5.same fun k k1 _=>E6 k k1⟩
     ·rw[am hs]
      exact aI ⟨rfl,R5,U5⟩
    case mpost=>
     rintro c st5 ⟨rfl,R5,U5⟩
     try dsimp only
     refine aC (eE (aC (eE (aI (last (setPending st5 ((pendingOf st5).modify ((pendingOf st5).size - 1) fun x=>(x.1,x.2.1,power' a₀.size (2*s1+n1) (2*s1+n1+n1+n) a₀.size))) ⟨R5.perm,R5.kind,R5.failed,?_⟩ U5)))))
     show Runs (arrOf st5) (Array.modify _ _ _).toList 0 lo
     rw[Array.toList_modify]
     exact Runs.mod (f:=fun x=>(x.1,x.2.1,power' a₀.size (2*s1+n1) (2*s1+n1+n1+n) a₀.size)) (fun _=>⟨rfl,rfl⟩) R5.runs
 case post=>
  rintro c st1 ⟨rfl,R1⟩
  try dsimp only
  refine aC (dq (bO (I:=fun x c st'=>c=(none,())/\RI a₀ a₀.size st'/\1<=(pendingOf st').size/\(pendingOf st').size+x<=a₀.size)
   (Q:=fun c st'=>c=(none,())/\RI a₀ a₀.size st'/\(pendingOf st').size=1) ?step2 ?fin2 ⟨rfl,R1,?a1,?a2⟩) ?post2)
  case a1=>
   have:=R1.runs
   cases hp:(pendingOf st1).toList with
   | nil=>
    rw[hp] at this
    have:0=a₀.size:=this
    omega
   | cons v t=>
    have:=bN List.length hp
    rw[aM,aR] at this
    omega
  case a2=>
   have:=R1.runs.le
   rw[aM] at this
   omega
  case fin2=>
   rintro c st2 ⟨_,_,h2,h3⟩
   omega
  case post2=>
   rintro c st2 ⟨rfl,R2,h2⟩
   try dsimp only
   refine aI (h st2 R2.perm R2.failed ?_)
   have rr:=R2.runs
   cases hp:(pendingOf st2).toList with
   | nil=>
    rw[<- aM,hp] at h2
    cases h2
   | cons v t=>
    have:=bN List.length hp
    rw[aM,h2,aR] at this
    have:t=[]:=bY (by omega)
    subst this
    rw[hp] at rr
    obtain⟨v1,v2,v3⟩:=v
    obtain⟨q1,q2,q3,q4⟩:=rr
    have q4:0+v2=a₀.size:=q4
    subst q1
    exact fun i j hij hj=>q3 i j (br _) hij (by omega)
  case step2=>
   rintro x c st2 _ hx ⟨rfl,R2,h2,h3⟩
   try dsimp only
   refine aC (gq ?_)
   by_cases hs:(pendingOf st2).size<=1
   ·rw[aq hs]
    exact aI ⟨rfl,R2,by omega⟩
   rw[am hs]
   refine aC (jDN h0 R2 (ao _) ?_ fun st3 R3 e3 _=>?_)
   ·have ite_le:∀ (c:Prop) [Decidable c] (a b:Nat),(if c then a else b)<=max a b:=fun c _ a b=>by
     by_cases z:c
     ·rw[aq z]; omega
     ·rw[am z]; omega
    refine jc (Nat.add_le_add_right (ite_le _ _ _) 1) ?_
    omega
   ·exact aI ⟨rfl,R3,by omega,by omega⟩
end
end TM
end
section
namespace TM
open PySem PySem.Spec PyProof.Rows
section
variable {prog:Program}{w:World}{A:Around}{E:Value->Shared->Prop}{s:Shared}
abbrev turned (b:Bool)(xs:Array Value):Array Value:=if b then xs.reverse else xs
theorem jHP {b:Bool}{xs:Array Value} :(turned b xs).size=xs.size:=by
 cases b
 ·rfl
 ·exact Array.size_reverse
theorem jCT (b:Bool)(vs:List Value):(if b=true then (vs.toArray.zip vs.toArray).reverse else vs.toArray.zip vs.toArray).Perm (pairsOf vs):=by
 cases b with
 | false=>exact Array.Perm.refl _
 | true=>exact cW.mpr (by show ((vs.toArray.zip vs.toArray).reverse).toList.Perm _; rw[dr]; exact List.reverse_perm _)
def AskOk [Od](prog:Program)(w:World)(A:Around)(s:Shared)(a:Addr)(vs:List Value):Prop:=
 ∀ h6:Heap,(∀ c o,s.heap.get? c=some o->c≠a->h6.get? c=some o)->
  (∀ (Q:SortKind->Shared->Prop) (E:Value->Shared->Prop),Q Od.kd { s with heap:=h6} ->wpAny (model prog w) A (keyKind' vs.toArray) Q E { s with heap:=h6})/\LtOk prog w A { s with heap:=h6}
theorem jIX [Od]{a:Addr}{vs:List Value}{n:Nat}{b:Bool}{P:Fin->Shared->Prop}(ho:s.heap.get? a=some (seqObj "list" vs.toArray n))(hz:vs.length<=sizeLine)(hI:AllI (pairsOf vs).toList)(hk:2<=vs.length->AskOk prog w A s a vs)
  (h:∀ xs:Array Keyed,xs.Perm (pairsOf vs)->STo xs (pairsOf vs).size->P (.done (.ret .none)) { s with heap:=sortedHeap s.heap a vs (turned b (xs.map (·.2)))}):
  wpAny (model prog w) A (Builtin.«list.sort» ⟨[.ref a],[(Str.ofString "reverse", .bool b)]⟩) P E s:=by
 rw[list_sort_rev]
 have ha:=aA ho
 have hz':vs.toArray.size<=sizeLine:=by rw[ag]; exact hz
 refine ab (listItems_at ho rfl (ab (g9 ho rfl ?_ hz' (br _))))
 obtain⟨e1,ho1⟩:∃ e1,(s.heap.update a (Obj.mapSeq fun _=>#[])).get? a=some (seqObj "list" #[] e1):=⟨_,get?_update_seq ho _⟩
 refine ab (seqEpoch_at ho1 rfl (ab (wpAny_newTuple ?_ hz)))
 refine ab (fj (bJ ?_))
 generalize hh6:((s.heap.update a (Obj.mapSeq fun _=>#[])).push (seqObj "tuple" vs.toArray 0)).push (seqObj "list" #[] 0)=h6
 have ho6:h6.get? a=some (seqObj "list" #[] e1):=by
  rw[<- hh6]
  exact af _ (af _ ho1)
 have k6:∀ c o,s.heap.get? c=some o->c≠a->h6.get? c=some o:=fun c o q ne=>by
  rw[<- hh6]
  exact af _ (af _ ((cQ _ _ (fk ne)).trans q))
 have sh:∀ out,sortedHeap s.heap a vs out=h6.update a (Obj.mapSeq fun _=>out):=fun out=>by rw[<- hh6]; rfl
 have go:∀ X:Sem Fin,wpAny (model prog w) A X P E { s with heap:=h6} ->wpAny (model prog w) A (if b=true then (do let _ <- rule "list.sort.reverse"; X) else X) P E { s with heap:=h6} :=fun X hX=>by
  cases b with
  | false=>exact hX
  | true=>exact ab (de hX)
 have hend:∀ st':SortSt,(arrOf st').Perm (pairsOf vs)->STo (arrOf st') (pairsOf vs).size->P (.done (.ret .none)) { s with heap:=h6.update a (Obj.mapSeq fun _=>turned b ((arrOf st').map (·.2)))} :=fun st' p1 p2=>by
  rw[<- sh]
  exact h _ p1 p2
 have hfit:∀ st':SortSt,(arrOf st').Perm (pairsOf vs)->(turned b ((arrOf st').map (·.2))).size<=sizeLine+1:=fun st' p1=>by
  rw[jHP,Array.size_map,p1.size_eq,pairsOf_size]
  omega
 dsimp only
 refine go _ ?_
 by_cases few:vs.toArray.size<2
 ·rw[aq few,aq few]
  refine ab (ah ?_)
  rw[StateT.run_pure]
  refine ab (ah ?_)
  dsimp only
  refine ab (seqEpoch_at ho6 rfl (ab (g9 ho6 rfl ?_ (br _) (hfit (SortSt.mk' general' _ #[] 7 none) (jCT b vs)))))
  rw[bne_self_eq_false,am aj]
  refine ah (hend (SortSt.mk' general' _ #[] 7 none) (jCT b vs) fun i j hij hj=>?_)
  have:i=j:=by
   rw[pairsOf_size] at hj
   rw[ag] at few
   omega
  rw[this]
  exact cI _
 ·rw[am few,am few]
  rw[ag] at few
  obtain⟨kk,ll⟩:=hk (by omega) h6 k6
  refine ab (kk _ _ (ab (cr (jDM (a₀:=pairsOf vs) (st:=SortSt.mk' Od.kd _ #[] 7 none)
   (Q:=fun _ st'=>(arrOf st').Perm (pairsOf vs)/\failedOf st'=none/\STo (arrOf st') (pairsOf vs).size)
   hI ⟨jCT b _,rfl,rfl,rfl⟩ (by rw[pairsOf_size]; omega) fun st' a1 a2 a3=>⟨a1,a2,a3⟩) ?_ fun _ _ e=>e)))
  rintro ⟨⟨⟩,st'⟩ s' ⟨rfl,p1,p2,p3⟩
  dsimp only
  refine ab (seqEpoch_at ho6 rfl (ab (g9 ho6 rfl ?_ (br _) (hfit st' p1))))
  rw[p2]
  dsimp only
  rw[bne_self_eq_false,am aj]
  exact ah (hend st' p1 p3)
theorem jLR (a:Addr):Builtin.«list.sort» ⟨[.ref a],[]⟩=Builtin.«list.sort» ⟨[.ref a],[(Str.ofString "reverse", .bool false)]⟩:=by
 rw[list_sort_plain,list_sort_rev]
 rfl
abbrev odI:Od:=⟨oneType',fun p=>numOf p.1,fun p=>∃ n t,p.1=Value.int n t⟩
theorem ltI: @LtOk prog w A s odI:= @LtOk.mk prog w A s odI fun {E st x y Q} hk hx hy h=>by
 obtain⟨a,t,ha⟩:=hx
 obtain⟨b,u,hb⟩:=hy
 have e1: @key odI x=a:=by show numOf x.1=a; rw[ha]; rfl
 have e2: @key odI y=b:=by show numOf y.1=b; rw[hb]; rfl
 rw[e1,e2] at h
 rw[lt'_eq]
 refine aC (gq ?_)
 rw[show kindOf st=oneType' from hk,keyLt'_oneType,ha,hb]
 exact aC (gS (fh (oneLt_int ⟨rfl,aI h⟩)))
theorem stoI {xs:Array Keyed}{k:Nat}(h: @STo odI xs k):SortedTo xs k:=h
theorem askI {a:Addr}{vs:List Value}{ns:List Int}(hI:IntsAre vs ns)(h2:2<=vs.length): @AskOk odI prog w A s a vs:=fun h6 _=>⟨fun Q E h=>by
 obtain⟨u,v,r,rfl⟩:∃ u v r,vs=u::v::r:=by
  match vs,h2 with
  | [_],few=>exact absurd few (show ¬ 2<=1 by decide)
  | u::v::r,_=>exact⟨u,v,r,rfl⟩
 rw[keyKind_ints hI]
 exact ah h,ltI⟩
theorem sort_rev_any {a:Addr}{vs:List Value}{ns:List Int}{n:Nat}{b:Bool}{P:Fin->Shared->Prop}(ho:s.heap.get? a=some (seqObj "list" vs.toArray n))(hI:IntsAre vs ns)(hz:vs.length<=sizeLine)
  (h:∀ (out:Array Value) (ns':List Int),IntsAre out.toList ns'->ns'.Perm ns->Ordered b ns'->P (.done (.ret .none)) { s with heap:=sortedHeap s.heap a vs out}):
  wpAny (model prog w) A (Builtin.«list.sort» ⟨[.ref a],[(Str.ofString "reverse", .bool b)]⟩) P E s:=
 @jIX prog w A E s odI a vs n b P ho hz hI.intKeys (fun h2=>askI hI h2) fun xs p1 p2=>by
  obtain⟨ns',q1,q2,q3⟩:=sorted_out_rev hI p1 (stoI p2) b
  exact h _ ns' q1 q2 q3
end
end TM
end
section
namespace L2
open PySem PySem.Spec PyProof.Rows
section
variable {prog:Program}{w:World}{A:Around}{E:Value->Shared->Prop}{s:Shared}{d:Addr}{kvs:List (Key×Value)}
theorem jF0:∀ {vs:List Value}{ks:List Int},vs.length=ks.length->(∀ (j:Nat) (v:Value),vs[j]?=some v->∃ i t,ks[j]?=some i/\v=Value.int i t)->IntsAre vs ks
 | [],[],_,_=> .nil
 | [],_::_,h,_=>by cases h
 | _::_,[],h,_=>by cases h
 | v::vs,a::r,h,hat=>by
  obtain⟨i,t,e1,rfl⟩:=hat 0 v rfl
  cases e1
  exact .cons _ t (jF0 (Nat.succ.inj h) fun j v e=>hat (j+1) v e)
theorem jGD {Q:Value->Shared->Prop}{ks:List Int}{b:Bool}(hh:A.handled=none)(lo:(d==sysModules)=false)(D:s.heap.DictOf (kQ prog w) d kvs)(hk:kvs.map (·.1)=ks.map Sum.inl)(hz:ks.length<=sizeLine)
  (h:∀ (hf:Heap) (tk:Nat) (l:Addr) (vs:List Value) (ns:List Int) (e:Nat),s.heap.objs.size<=l->(∀ b u,s.heap.get? b=some u->hf.get? b=some u)->
   hf.get? l=some { cls:= .type "list",data:= .seq vs.toArray e} ->IntsAre vs ns->ns.Perm ks->Ordered b ns->Q (.ref l) { s with heap:=hf,toks:=tk}):
  wpAny (model prog w) A (call (.builtin "sorted") [.ref d] [(Str.ofString "reverse", .bool b)]) Q E s:=by
 obtain⟨ep,hat⟩:=D.dictAt
 have hlen:kvs.length=ks.length:=by
  have:=bN List.length hk
  rwa [ae,ae] at this
 refine call_function_entry_kw kind_sorted plain_sorted entry_sorted (args_sorted_rev _ _) ?_
 unfold Builtin.«sorted»
 refine ab (m:=checkCount "sorted" 1 1 _) (ah ?_)
 refine ab (jIG (A:=A.in1) (PySem.W.kdl_dict (knd:=kQ prog w) (kvs:=kvs) (ep:=ep) lo) hh hat (by omega) fun h1 tk acc hk1 hlt1 hacc=>?_)
 have hal:acc.toList.length=ks.length:=by rw[aM,hacc.1,hlen]
 have hI:IntsAre acc.toList ks:=jF0 hal fun j v e=>by
  obtain⟨k,x,hx,hv⟩:=hacc.2 j v (by rw[<- bD]; exact e)
  have e2:(kvs.map (·.1))[j]?=some k:=by rw[aN,hx]; rfl
  rw[hk,aN] at e2
  cases hq:ks[j]? with
  | none=>rw[hq] at e2; cases e2
  | some i=>
   rw[hq] at e2
   cases e2
   rcases jA0 (show keyIs (Sum.inl i) v=true from hv) with ⟨i',t,q1,q2⟩ | ⟨x,t,q1,q2⟩
   ·cases q1
    exact⟨i,t,rfl,q2⟩
   ·cases q1
 refine ab (fj ?_ (by omega))
 have hL:(h1.push (seqObj "list" acc.toList.toArray 0)).get? h1.objs.size=some (seqObj "list" acc.toList.toArray 0):=ax _ rfl
 show wpAny _ _ _ _ _ { s with heap:=h1.push (seqObj "list" acc.toList.toArray 0),toks:=tk}
 refine ab (bJ (wpAny_call_entry_kw gN ⟨_,hL,rfl⟩ gz (TM.sort_rev_any hL hI (by omega) fun out ns' a1 a2 a3=>⟨_,rfl,?_⟩) (args_list_sort_rev _ _)))
 obtain⟨e,he⟩:=sortedHeap_at (out:=out) hL
 have kept:∀ b u,s.heap.get? b=some u->(sortedHeap (h1.push (seqObj "list" acc.toList.toArray 0)) h1.objs.size acc.toList out).get? b=some u:=fun b u q=>by
  have q1:=hk1 b u q
  have hb:b<h1.objs.size:=aA q1
  rw[sortedHeap_old (aS hb) (by rw[size_push']; exact cC hb)]
  exact af _ q1
 generalize sortedHeap (h1.push (seqObj "list" acc.toList.toArray 0)) h1.objs.size acc.toList out=hf at he kept ⊢
 exact ah ⟨_,rfl,h hf tk h1.objs.size out.toList ns' e (dC hlt1) kept (by rw[dk]; exact he) a1 a2 a3⟩
end
def jQR (X:Cx)(f:Value)(ks:List Str)(r:List V->List V->Hp->VK->Prop):Prop:=
 ∀ (pins:List (Addr×Obj)) (s:Shared) (σ:St) (H:Hp) (xs zs:List V) (us ws:List Value) (Q:VK),Inv X pins σ H s->Vals xs us->Vals zs ws->r xs zs H Q->
  wpAny (model X.prog X.w) X.A (call f us (ks.zip ws)) (EP X pins σ Q) X.xe s
def tCBK (r:List V->List V->Hp->VK->Prop)(t tk:TA):TE:=fun σ H Q=>t σ H fun vs H1=>tk σ H1 fun zs H2=>r vs zs H2 Q
structure JK (X:Cx)(kws:List Keyword)(t:TA):Prop where
 h:PK X kws t
section
variable {X:Cx}{x:Str}{p pos kpos:Pos}{e:Expr}{es:List Expr}{kws:List Keyword}{t tk:TA}{te:TE}{nm:Option Str}{ks:List Str}{id:String}{r:List V->List V->Hp->VK->Prop}
theorem jUO:JK X [] tNil:=⟨jTP⟩
theorem jSJ (ha:JE X e te)(hr:JK X kws t):JK X (⟨nm,e,kpos⟩::kws) (tCons te t):=⟨jRE ha.h hr.h⟩
theorem jMZ (hc:jQR X (.builtin id) ks r)(hg:Gl1 X x)(hm:X.mg x=none)(hv:bootBuiltins x=some (.builtin id))(ha:JA X (e::es) t)(hkw:JK X kws tk)(he:starEach (e::es) X.env=(false,eval e X.env)::starEach es X.env)
  (hn:x≠ "__name__" :=by decide) (hdb:(x==("__debug__" :Str))=false:=by decide) (hall:(backToKw pos (keywordEach kws X.env)).all (·.1.isSome)=true:=by rfl) (hks:(backToKw pos (keywordEach kws X.env)).filterMap (·.1)=ks:=by rfl)
  (hpl:(backTo pos (starEach es X.env)).any (·.1)=false:=by rfl) (hkn:(backToKw pos (keywordEach kws X.env)).any (·.1.isNone)=false:=by rfl):JE X (.Call (.Name x p) (e::es) kws pos) (tCBK r t tk):=by
 refine⟨fun pins s σ H Q I h=>?_⟩
 refine cE (jE7 I hg.a hm hv ?_ hn hdb)
 refine callWith_kw (thn (ha.h pos pins s σ H _ I h) fun us s1 ⟨vs,H1,I1,r1,q1⟩=>thn (hkw.h pos pins s1 σ H1 _ I1 q1) fun ws s2 ⟨zs,H2,I2,rz,q2⟩=>?_) (by rw[he]; rfl) (by rw[he]; exact hpl) hall hkn
 rw[hks]
 exact hc pins s2 σ H2 vs zs us ws Q I2 r1 rz q2
theorem jG2 (hc:X.calm=true):jQR X (.builtin "sorted") [Str.ofString "reverse"] (fun xs zs H Q=>∃ (p:Addr) (kvs:List (Key×V)) (ks:List Int) (b:Bool),xs=[.ref p]/\zs=[.bl b]/\H p=some (.dK kvs)/\kvs.map (·.1)=ks.map Sum.inl/\ks.length<=sizeLine/\
  ∀ (l:Addr) (ns:List Int),H l=none->Ordered b ns->ns.Perm ks->Q (.ref l) (upd H l (.lst (ns.map V.int)))):=by
 intro pins s σ H xs zs us ws Q I r rz h
 obtain⟨p,kvs,ks,b,rfl,rfl,hp,hk,hn,q⟩:=h
 obtain⟨u,rfl,rx⟩:=r.one
 obtain⟨v,rfl,ry⟩:=rz.one
 cases rx
 cases ry
 obtain⟨z,lo,vs,rel,dd⟩:=dk_of I.hok hp
 refine jGD (I.ok.hd hc) lo dd (by rw[<- rel.keys]; exact hk) hn fun hf tk l vs ns e hl kp he hi pm srt=>?_
 have hz:(ns.map V.int).length<=sizeLine:=by rw[ae,pm.length_eq]; exact hn
 have I2:Inv X pins σ (upd H l (.lst (ns.map V.int))) { s with heap:=hf,toks:=tk} :=I.laid (t':=tk) kp hl ⟨hz,vs,e,jA8 hi,he⟩
 exact⟨.ref l,_,I2,rfl,q l ns (I.hok.fresh hl) srt pm⟩
end
section
variable {X:Cx}
theorem jQH {o:Expr}{to:TE}{name:Str}{apos cpos:Pos}{T id:String}{r:V->List V->Hp->VK->Prop}(pa:PlainAttrs T)(slot:Slot T name id)(hty:typeOf (.builtin id)=pure (.type "method_descriptor"))(hm:MtR X id r)(ho:JE X o to)
  (hbase:attributeBase o name X.env (eval o X.env)=eval o X.env:=by rfl) (hline:(apos.endLine==cpos.line)=true:=by rfl):JE X (.Call (.Attribute o name apos) [] [] cpos) (tBM0 X.K T r to):=⟨jTX pa slot hty hm ho.h hbase hline⟩
def rBits:V->List V->Hp->VK->Prop:=fun x vs H Q=>∃ i,x= .int i/\vs=[]/\Q (.int (Builtin.Int.intBits i)) H
theorem jSA:MtR X "int.bit_length" rBits:=by
 intro pins s σ H x vs v us Q I rx rv h
 obtain⟨i,rfl,rfl,q⟩:=h
 obtain⟨t,rfl⟩:=rx
 have hus:=rv.zero
 subst hus
 exact call_int_bit_length ⟨.int _,H,I.tok _,⟨_,rfl⟩,q⟩
theorem jMY {i o:Expr}{ty td:TE}{pos:Pos}(hu:X.A.units+1<cLine)(hi:JE X i ty)(ho:JE X o td)(h1:behindInMarks .NotIn o=false):JT X (.Compare i [.NotIn] [o] pos) (tB (jL9 ty td)):=⟨jQ3 (jLT hu hi.h ho.h) h1⟩
def jTB (i:Int)(b:Bool):TE:=fun _ H Q=>∀ p H',H' p=some (.dK [(.inl i, .bl b)])->Ext H H'->H p=none->Q (.ref p) H'
theorem jP6 {i:Int}{b:Bool}{k1 k2:Nat}{p1 p2 pos:Pos} :JE X (.Dict [some (.Constant (.int i) k1 p1)] [.Constant (.bool b) k2 p2] pos) (jTB i b):=
 ⟨fun pins s σ H Q I h=>jRK (jOC je_int.h je_bl.h jRB) rfl rfl (by intro z; cases z) (by show 1<=15; decide) pins s σ H Q I fun p hp=>⟨j5,[(.inl i, .bl b)],rfl,by show 1<=15; decide,h p _ j5 (((Ext.refl H).new hp _).updNew hp _) hp⟩⟩
theorem jPG {K:W.Frag}{tp:Bool}{l:Addr}{xs:List V}{g:TG}{tb:TS}{D:Ends}{σ:St}{H:Hp}(Pv:Nat->St->Hp->Prop)(h0:Pv 0 σ H)(hl:∀ i σ H,Pv i σ H->Sq tp K H l xs)
  (hs:∀ i x T σ H,xs[i]?=some x->H T=none->Pv i σ H->g (.ref T) σ (upd H T (.tup [.int (i:Int),x])) fun σ2 H2=>tb { D with nx:=Pv (i+1),ct:=Pv (i+1),bk:=D.nx} σ2 H2) (hd:∀ σ H,Pv xs.length σ H->D.nx σ H):
  ∃ W:Nat->Nat->St->Hp->Prop,(∃ m,W 0 m σ H)/\∀ i m σ H,W i m σ H->
   ((Ite tp K l).stop i H/\D.nx σ H)\/((Ite tp K l).go i H/\∃ N:St->Hp->Prop,(∀ σ' H',N σ' H'->∃ m',m'<m/\W (i+1) m' σ' H')/\∀ x H',(Ite tp K l).yld i H x H'->g x σ H' fun σ2 H2=>tb { D with nx:=N,ct:=N,bk:=D.nx} σ2 H2):=by
 refine⟨fun i m σ H=>m=xs.length - i/\i<=xs.length/\Pv i σ H,⟨_,rfl,br _,h0⟩,?_⟩
 rintro i m σ H ⟨rfl,hi,p⟩
 have s1:=hl i σ H p
 by_cases hlt:i<xs.length
 ·refine .inr ⟨⟨xs,xs[i],s1,by simp [hlt]⟩,Pv (i+1),fun σ' H' p'=>⟨xs.length - (i+1),by omega,rfl,hlt,p'⟩,fun v H'' y=>?_⟩
  obtain⟨T,x,e1,e2,e3,e4⟩:=y
  subst e2 e3
  exact hs i x T σ _ (e4 xs s1) e1 p
 ·have e:i=xs.length:=by omega
  subst e
  exact .inl ⟨⟨xs,s1,ao _⟩,hd σ H p⟩
end
def All2 {α β:Type}(R:α->β->Prop):List α->List β->Prop
 | [],[]=>True
 | a::as,b::bs=>R a b/\All2 R as bs
 | _,_=>False
section
variable {α β:Type}{R S:α->β->Prop}
theorem All2.len:∀ {as:List α}{bs:List β},All2 R as bs->as.length=bs.length
 | [],[],_=>rfl
 | _::_,_::_,h=>bN (· +1) (All2.len h.2)
theorem All2.imp (f:∀ a b,R a b->S a b):∀ {as:List α}{bs:List β},All2 R as bs->All2 S as bs
 | [],[],_=>trivial
 | _::_,_::_,h=>⟨f _ _ h.1,All2.imp f h.2⟩
theorem All2.snoc {a:α}{b:β} :∀ {as:List α}{bs:List β},All2 R as bs->R a b->All2 R (as++[a]) (bs++[b])
 | [],[],_,h=>⟨h,trivial⟩
 | _::_,_::_,h,k=>⟨h.1,All2.snoc h.2 k⟩
theorem All2.get:∀ {as:List α}{bs:List β}{i:Nat}{b:β},All2 R as bs->bs[i]?=some b->∃ a,as[i]?=some a/\R a b
 | [],[],i,b,_,h=>by simp at h
 | a::_,_::_,0,b,h,e=>by
  simp at e
  subst e
  exact⟨a,rfl,h.1⟩
 | _::_,_::_,i+1,b,h,e=>by
  obtain⟨a,h1,h2⟩:=All2.get h.2 (i:=i) (b:=b) (by simpa using e)
  exact⟨a,by simpa using h1,h2⟩
theorem All2.get':∀ {as:List α}{bs:List β}{i:Nat}{a:α},All2 R as bs->as[i]?=some a->∃ b,bs[i]?=some b/\R a b
 | [],[],i,b,_,h=>by simp at h
 | a::_,b::_,0,x,h,e=>by
  simp at e
  subst e
  exact⟨b,rfl,h.1⟩
 | _::_,_::_,i+1,x,h,e=>by
  obtain⟨b,h1,h2⟩:=All2.get' h.2 (i:=i) (a:=x) (by simpa using e)
  exact⟨b,by simpa using h1,h2⟩
theorem All2.append:∀ {as as':List α}{bs bs':List β},All2 R as bs->All2 R as' bs'->All2 R (as++as') (bs++bs')
 | [],_,[],_,_,h=>h
 | _::_,_,_::_,_,h,k=>⟨h.1,All2.append h.2 k⟩
theorem All2.of_get {as:List α}{bs:List β}(hl:as.length=bs.length)(h:∀ (i:Nat) a b,as[i]?=some a->bs[i]?=some b->R a b):All2 R as bs:=by
 induction as generalizing bs with
 | nil=>cases bs with
  | nil=>trivial
  | cons b bs=>cases hl
 | cons a as ih=>cases bs with
  | nil=>cases hl
  | cons b bs=>exact⟨h 0 a b rfl rfl,ih (by simpa using hl) fun i a b h1 h2=>h (i+1) a b (by simpa using h1) (by simpa using h2)⟩
end
def lowN (m:Nat):Nat:=if m % 2=1 then lowN (m / 2)+1 else 0
theorem jE5 {m:Nat}(h:m % 2=0):lowN m=0:=by
 unfold lowN
 rw[am (by omega)]
theorem jFL {m:Nat}(h:m % 2=1):lowN m=lowN (m / 2)+1:=by
 rw[lowN,aq h]
theorem jT2 (a b:Nat):a&&&b=2*((a / 2)&&&(b / 2))+(a % 2)*(b % 2):=by
 have h1:(a&&&b) / 2=(a / 2)&&&(b / 2):=Nat.and_div_two
 have h2:(a&&&b) % 2=(a % 2)*(b % 2):=by
  have t:=dP a b 0
  rw[eT,eT,eT] at t
  have t':((a&&&b) % 2=1)↔(a % 2=1/\b % 2=1):=by
   rw[<- gw.trans (and_congr bo bo),<- t,bo]
  rcases cX a with ha | ha <;> rcases cX b with hb | hb <;> rw[ha,hb] at t' ⊢ <;> omega
 omega
theorem jSE (m:Nat):(m+1) - ((m+1)&&&m)=2 ^ lowN m:=by
 induction m using strongRecOn with
 | _ m ih=>
  rw[jT2]
  rcases cX m with h | h
  ·rw[jE5 h,show (m+1) / 2=m / 2 by omega,Nat.and_self,h]
   omega
  ·have:=ih (m / 2) (by omega)
   rw[jFL h,Nat.pow_succ,show (m+1) / 2=m / 2+1 by omega,show (m+1) % 2=0 by omega]
   omega
theorem jOX (m:Nat):Builtin.Int.intBits (Builtin.bitAnd (Builtin.bitNot (m:Int)) ((m:Int)+1))=lowN m+1:=by
 have e:Builtin.bitAnd (Builtin.bitNot (m:Int)) ((m:Int)+1)=((2 ^ lowN m:Nat):Int):=by
  unfold Builtin.bitAnd
  have h1:¬ (0<=Builtin.bitNot (m:Int)):=by unfold Builtin.bitNot; omega
  have h2:(0:Int)<=(m:Int)+1:=by omega
  have h3:(Builtin.bitNot (Builtin.bitNot (m:Int))).toNat=m:=by unfold Builtin.bitNot; omega
  rw[aH h1,ar h2]
  show ((m:Int)+1) - ((((m:Int)+1).toNat&&&(Builtin.bitNot (Builtin.bitNot (m:Int))).toNat:Nat):Int)=_
  rw[h3,show ((m:Int)+1).toNat=m+1 by omega,<- jSE m]
  have:(m+1)&&&m<=m+1:=Nat.and_le_left
  omega
 rw[e]
 unfold Builtin.Int.intBits
 have hp:0<2 ^ lowN m:=dB _
 have h0:((((2 ^ lowN m:Nat):Int))==0)=false:=by
  rw[cY]
  omega
 rw[h0]
 simp [Nat.log2_two_pow]
theorem jE4 (m:Nat):m.testBit (lowN m)=false:=by
 induction m using strongRecOn with
 | _ m ih=>
  rcases cX m with h | h
  ·rw[jE5 h,eT,h]
   rfl
  ·rw[jFL h,Nat.testBit_succ]
   exact ih _ (by omega)
theorem jFK (m:Nat):∀ j,j<lowN m->m.testBit j=true:=by
 induction m using strongRecOn with
 | _ m ih=>
  intro j hj
  rcases cX m with h | h
  ·rw[jE5 h] at hj
   omega
  ·rw[jFL h] at hj
   cases j with
   | zero=>rw[eT,h]; rfl
   | succ j=>
    rw[Nat.testBit_succ]
    exact ih _ (by omega) j (by omega)
theorem jQA {m t:Nat}(h1:m.testBit t=false)(h2:∀ j,j<t->m.testBit j=true):lowN m=t:=by
 rcases gX (lowN m) t with h | h | h
 ·have:=h2 _ h
  rw[jE4] at this
  cases this
 ·exact h
 ·have:=jFK m t h
  rw[h1] at this
  cases this
theorem jN8 {m w:Nat}(h:m<2 ^ w)(a:∀ j,j<w->m.testBit j=true):m=2 ^ w - 1:=by
 apply dW
 intro i
 rw[cN]
 by_cases hi:i<w
 ·rw[a i hi,ar hi]
 ·rw[aH hi]
  exact iF (bf h (cL (by decide) (by omega)))
theorem jCG {m w:Nat}(h:m<2 ^ w)(hn:m≠2 ^ w - 1):lowN m<w:=by
 refine da fun z=>hn (jN8 h fun j hj=>jFK m j (by omega))
abbrev Ch:=List (List (Int×Nat))
def fullN (ch:Ch):Nat:=2 ^ ch.length - 1
def chAt (ch:Ch)(m:Nat):List (Int×Nat):=(ch.getD (lowN m) []).filter fun c=>c.2&&&m==0
structure ChOk (ch:Ch):Prop where
 w:ch.length<=16
 len:∀ (t:Nat) (cs:List (Int×Nat)),ch[t]?=some cs->cs.length<=33
 it:∀ (t:Nat) (cs:List (Int×Nat)),ch[t]?=some cs->∀ c∈cs,c.2.testBit t=true/\c.2<2 ^ ch.length/\ -1<=c.1/\c.1<32
theorem ChOk.mem {ch:Ch}{m:Nat}{c:Int×Nat}(o:ChOk ch)(h:m<2 ^ ch.length)(hn:m≠fullN ch)(hc:c∈chAt ch m):c.2.testBit (lowN m)=true/\c.2<2 ^ ch.length/\c.2&&&m=0/\ -1<=c.1/\c.1<32:=by
 obtain⟨h1,h2⟩:=be.mp hc
 have hl:=jCG h hn
 rw[ak,aw hl] at h1
 obtain⟨a,b,c1,c2⟩:=o.it _ _ (aw hl) c h1
 exact⟨a,b,by simpa using h2,c1,c2⟩
theorem ChOk.up {ch:Ch}{m:Nat}{c:Int×Nat}(o:ChOk ch)(h:m<2 ^ ch.length)(hn:m≠fullN ch)(hc:c∈chAt ch m):m<m|||c.2/\m|||c.2<2 ^ ch.length:=by
 obtain⟨a,b,z,_⟩:=o.mem h hn hc
 refine⟨?_,g5 h b⟩
 refine Nat.lt_of_le_of_ne Nat.left_le_or fun e=>?_
 have t:m.testBit (lowN m)=(m|||c.2).testBit (lowN m):=bN (fun z=>z.testBit (lowN m)) e
 rw[bH,a,eS,jE4] at t
 cases t
def gvN {α:Type}(ch:Ch)(e:α)(J:List (Int×α)->α):Nat->Nat->α
 | 0,_=>e
 | n+1,m=>if m=fullN ch then e else J ((chAt ch m).map fun c=>(c.1,gvN ch e J n (m|||c.2)))
def gv {α:Type}(ch:Ch)(e:α)(J:List (Int×α)->α)(m:Nat):α:=gvN ch e J (fullN ch - m) m
theorem jSP {α:Type}{ch:Ch}{e:α}{J:List (Int×α)->α}(o:ChOk ch):∀ (k n m:Nat),fullN ch - m<=k->fullN ch - m<=n->m<2 ^ ch.length->gvN ch e J n m=gvN ch e J k m:=by
 intro k
 induction k with
 | zero=>
  intro n m h1 h2 h3
  have:m=fullN ch:=by
   unfold fullN at h1 ⊢
   omega
  subst this
  cases n with
  | zero=>rfl
  | succ n=>show gvN ch e J (n+1) (fullN ch)=e; rw[gvN,aq rfl]
 | succ k ih=>
  intro n m h1 h2 h3
  by_cases hm:m=fullN ch
  ·subst hm
   cases n with
   | zero=>show e=gvN ch e J (k+1) (fullN ch); rw[gvN,aq rfl]
   | succ n=>
    have q:∀ i,gvN ch e J (i+1) (fullN ch)=e:=fun i=>by rw[gvN,aq rfl]
    rw[q,q]
  ·have hlt:m<fullN ch:=by
    unfold fullN at hm ⊢
    omega
   cases n with
   | zero=>omega
   | succ n=>
    rw[gvN,am hm,gvN,am hm]
    congr 1
    refine bR fun c hc=>?_
    obtain⟨u1,u2⟩:=o.up h3 hm hc
    rw[ih n (m|||c.2) (by omega) (by omega) u2]
theorem jSO {α:Type}{ch:Ch}{e:α}{J:List (Int×α)->α} :gv ch e J (fullN ch)=e:=by
 unfold gv
 rw[gF,gvN]
theorem jSN {α:Type}{ch:Ch}{e:α}{J:List (Int×α)->α}{m:Nat}(o:ChOk ch)(h:m<2 ^ ch.length)(hn:m≠fullN ch):gv ch e J m=J ((chAt ch m).map fun c=>(c.1,gv ch e J (m|||c.2))):=by
 have hlt:m<fullN ch:=by
  unfold fullN at hn ⊢
  omega
 have:gv ch e J m=gvN ch e J ((fullN ch - m - 1)+1) m:=by
  unfold gv
  rw[show fullN ch - m - 1+1=fullN ch - m by omega]
 rw[this,gvN,am hn]
 congr 1
 refine bR fun c hc=>?_
 obtain⟨u1,u2⟩:=o.up h hn hc
 unfold gv
 rw[jSP o (fullN ch - (m|||c.2)) _ _ (ao _) (by omega) u2]
end L2
end
section
namespace L2
open PySem
section
variable {X:Cx}{tg iter elt:Expr}{ifs:List Expr}{sc:Scope}{pos:Pos}{wi:TI}{g:TG}{tt:TT}{te:TE}{m:List (Option Nat)}{Nc:List Str}
end
section
variable {X:Cx}
end
end L2
end
section
namespace L2
open PySem PySem.Spec PyProof.Rows
def ZC (cl:List (Str×Addr))(fs:List Str)(fv:List V):Shared->Hp->Prop:=fun s H=>ClOk cl s H/\FvOk fs fv cl s
theorem ZC.st (cl:List (Str×Addr))(fs:List Str)(fv:List V):ZSt (ZC cl fs fv):=by
 rintro fr s s' H H' u ⟨C,F1,F2⟩
 have kc:∀ {x c v},cl.lookup x=some c->s.heap.IsCell c v->s'.heap.IsCell c v:=fun {x c v} hc ⟨o,ho,hd⟩=>by
  obtain⟨sl,e⟩:=u.any ho (C.cell x c hc).2 (by simp)
  exact⟨_,e,hd⟩
 refine⟨⟨C.inj,fun x c hc=>?_⟩,F1,fun i x v h1 h2=>?_⟩
 ·obtain⟨⟨v,o,ho,hd⟩,n⟩:=C.cell x c hc
  exact⟨⟨v,kc hc ⟨o,ho,hd⟩⟩,u.free c o ho n (by simp)⟩
 ·obtain⟨c,w,a1,a2,a3⟩:=F2 i x v h1 h2
  exact⟨c,w,a1,a2,kc a1 a3⟩
theorem Callee.ofN {P:Program}{w:World}{K:W.Frag}{mg:Str->Option Value}{base:Heap}{k:Nat}{x q:Str}{args:Arguments}{body:List Stmt}{scope:Scope}{ps fs:List Str}{sp:List V->Sp}{cl:List (Str×Addr)}{fv:List V}{a c:Addr}(F:FnN P w K mg base k x q args body scope ps fs sp):
  Callee P w K mg base (ZC cl fs fv) (fun H=>H a=some (.ext (nfP x q args body scope cl a c))/\H c=some (.ext (ncP q c))) k a (sp fv):=by
 refine⟨fun A outer s H e z=>?_,fun A outer s H us vs Q E hr e0 hz zh r hsp=>?_⟩
 ·obtain⟨⟨d,m,t,g⟩,_,_⟩:=(show ObjOk P w H s.heap a (.ext _) from e.hok a _ z.1)
  exact⟨_,_,_,_,g⟩
 ·obtain⟨p1,_,_⟩:=(show ObjOk P w H s.heap a (.ext _) from e0.hok a _ zh.1)
  obtain⟨p2,_,_⟩:=(show ObjOk P w H s.heap c (.ext _) from e0.hok c _ zh.2)
  exact F.run A outer s H a c cl us vs fv Q E hr e0 p1 p2 hz.1 hz.2 r hsp
def jTD {ι:Type}(G:ι->St->Prop)(sp:ι->Sp)(t:TA):TE:=fun σ H Q=>t σ H fun vs H1=>∃ i,G i σ/\sp i vs H1 Q E0
theorem jP9 {ι:Type}{X:Cx}{Z:ι->Shared->Hp->Prop}{G:ι->St->Prop}{k:Nat}{f:Addr}{fd:FuncData}{ps:List Str}{sp:ι->Sp}{x:Str}{p pos:Pos}{e:Expr}{es:List Expr}{t:TA}(F:∀ i,FnZ X.prog X.w X.K X.mg X.base CX0 (Z i) k f fd ps (sp i))(hr:Room k X.A)(hg:Gl1 X x)(hm:X.mg x=some (.ref f))(hk:keepIn X.K (.ref f)=true)(hb:Binds X.K fd ps [])
  (hZ:∀ i pins s σ H,Inv X pins σ H s->G i σ->Z i s H) (ha:JA X (e::es) t) (he:starEach (e::es) X.env=(false,eval e X.env)::starEach es X.env) (hdb:(x==("__debug__" :Str))=false:=by decide) (hpl:(backTo pos (starEach es X.env)).any (·.1)=false:=by rfl):
  JE X (.Call (.Name x p) (e::es) [] pos) (jTD G sp t):=by
 refine⟨fun pins s σ H Q I h=>?_⟩
 refine cE (jMN I hg.a hm ?_ hdb)
 refine i9 (h₀:=X.base) I.ok.mod.kin hk (thn (ha.h pos pins s σ H _ I h) fun us s1 ⟨vs,H1,I1,r,i,gi,q⟩=>⟨I1.kIn,?_⟩) he hpl
 have hl:(us++[]).length=ps.length:=by rw[aW,<- r.length]; exact(F i).len _ _ _ _ q
 have b:=hb s1 us I1.kIn hl
 rw[aW] at b
 refine ix (dQ ((F i).run X.A X.stack s1 H1 ⟨us,[]⟩ us vs Q E0 hr I1.env0 b r (hZ i _ _ _ _ I1 gi) q) fun r s' hq=>?_)
 cases r with
 | error e=>exact hq.elim
 | ok fl=>
  cases fl with
  | ret u=>exact I1.after hq
  | next=>exact False.elim hq
  | brk=>exact False.elim hq
  | cont=>exact False.elim hq
theorem jP4 {P:Program}{w:World}{K:W.Frag}{mg:Str->Option Value}{base:Heap}{N:List Str}{qual:Str}{sc:Scope}{f:Addr}{cd:Value}{cl:List (Str×Addr)}{A:Around}{outer:List Env}{s:Shared}{H:Hp}{x y:Str}{p1 p2 pos:Pos}{k i j:Nat}(hN:N.Nodup)(hi:N[i]?=some x)(hj:N[j]?=some y)(hx:sc.names.lookup x=some .local)(hy:sc.names.lookup y=some .local):
  JG (cxN P w K mg base N qual sc f cd cl A outer s H) (.Tuple [.Name x p1, .Name y p2] k pos) (gTup K 2 (gCons (kL i) (gCons (kL j) gNil))):=
 jJM (X:=cxN P w K mg base N qual sc f cd cl A outer s H) rfl (jAC (jJ hN hi (loc_n hx)) (jAC (jJ hN hj (loc_n hy)) jFR jB3) jB3)
section
variable {X:Cx}
open Classical in
end
end L2
end
section
namespace TM
open PySem PySem.Spec PyProof.Rows PySem.W
open HT (lexLt jAE)
open L2 (All2)
theorem lex_irr:∀ x:List Int,lexLt x x=false
 | []=>rfl
 | a::x=>by rw[jAE,aq rfl]; exact lex_irr x
theorem jMJ:∀ {x y z:List Int},lexLt x y=true->lexLt y z=true->lexLt x z=true
 | [],[],_,h,_=>by cases h
 | [],_::_,[],_,h=>by cases h
 | [],_::_,_::_,_,_=>rfl
 | _::_,[],_,h,_=>by cases h
 | _::_,_::_,[],_,h=>by cases h
 | a::x,b::y,c::z,h,k=>by
  rw[jAE] at h k ⊢
  by_cases e1:a=b
  ·rw[aq e1] at h
   by_cases e2:b=c
   ·rw[aq e2] at k
    rw[aq (e1.trans e2)]
    exact jMJ h k
   ·rw[am e2] at k
    rw[am (e1 ▸ e2),e1]
    exact k
  ·rw[am e1] at h
   have h:=aF h
   by_cases e2:b=c
   ·rw[am (e2 ▸ e1),<- e2]
    exact ar h
   ·rw[am e2] at k
    have k:=aF k
    rw[am (by omega)]
    exact ar (by omega)
theorem lex_tot:∀ {x y:List Int},lexLt x y=false->lexLt y x=false->x=y
 | [],[],_,_=>rfl
 | [],_::_,h,_=>by cases h
 | _::_,[],_,h=>by cases h
 | a::x,b::y,h,k=>by
  rw[jAE] at h k
  by_cases e:a=b
  ·rw[aq e] at h
   rw[aq e.symm] at k
   rw[e,lex_tot h k]
  ·rw[am e] at h
   rw[am (fun z=>e z.symm)] at k
   have:=fw h
   have:=fw k
   omega
def rk (ws:List (List Int))(x:List Int):Int:=((ws.countP fun z=>lexLt z x:Nat):Int)
theorem jG0 {p q:List Int->Bool}(h:∀ z,p z=true->q z=true):∀ ws:List (List Int),ws.countP p<=ws.countP q
 | []=>ao _
 | a::ws=>by
  have:=jG0 h ws
  rw[df,df]
  have:=h a
  cases hp:p a <;> cases hq:q a <;> simp_all <;> omega
theorem jJV {p q:List Int->Bool}(h:∀ z,p z=true->q z=true){x:List Int}(hp:p x=false)(hq:q x=true):∀ {ws:List (List Int)},x∈ws->ws.countP p<ws.countP q
 | a::ws,hx=>by
  rw[df,df]
  rcases aG.mp hx with e | hx
  ·have:=jG0 h ws
   rw[<- e,hp,hq]
   simp
   omega
  ·have:=jJV h hp hq hx
   have:=h a
   cases hpa:p a <;> cases hqa:q a <;> simp_all <;> omega
theorem rk_lt {ws:List (List Int)}{x y:List Int}(hx:x∈ws):decide (rk ws x<rk ws y)=lexLt x y:=by
 unfold rk
 cases h:lexLt x y with
 | true=>
  have:=jJV (p:=fun z=>lexLt z x) (q:=fun z=>lexLt z y) (fun z hz=>jMJ hz h) (lex_irr x) h hx
  exact ar (by omega)
 | false=>
  refine aH ?_
  by_cases k:lexLt y x=true
  ·have:=jG0 (p:=fun z=>lexLt z y) (q:=fun z=>lexLt z x) (fun z hz=>jMJ hz k) ws
   omega
  ·have:=lex_tot h (eJ.mpr k)
   rw[this]
   omega
section
variable {prog:Program}{w:World}{A:Around}{E:Value->Shared->Prop}{s:Shared}{kd:SortKind}{f:Value->List Int}
abbrev odL (kd:SortKind)(f:Value->List Int)(ks:List Value):Od:=⟨kd,fun p=>rk (ks.map f) (f p.1),fun p=>p.1∈ks⟩
theorem ltL {ks:List Value}(hlt:∀ u∈ks,∀ v∈ks,∀ (Q:Bool->Shared->Prop) (E:Value->Shared->Prop),Q (lexLt (f u) (f v)) s->wpAny (model prog w) A (keyLt' kd u v) Q E s): @LtOk prog w A s (odL kd f ks):= @LtOk.mk prog w A s (odL kd f ks) fun {E st x y Q} hk hx hy h=>by
 have e:decide (@key (odL kd f ks) x< @key (odL kd f ks) y)=lexLt (f x.1) (f y.1):=rk_lt (cq hx)
 rw[e] at h
 rw[lt'_eq]
 refine aC (gq ?_)
 rw[show kindOf st=kd from hk]
 exact aC (gS (fh (hlt x.1 hx y.1 hy _ _ ⟨rfl,aI h⟩)))
theorem jGL {vs:List Value}{p:Keyed}(h:p∈(pairsOf vs).toList):p.1=p.2/\p.1∈vs:=by
 rw[pairsOf_toList] at h
 exact mem_zip_self h
theorem allL {vs:List Value} : @AllI (odL kd f vs) (pairsOf vs).toList:=fun p hp=>(jGL hp).2
theorem sto_out {vs:List Value}{xs:Array Keyed}(p:xs.Perm (pairsOf vs))(h: @STo (odL kd f vs) xs (pairsOf vs).size):(xs.map (·.2)).toList.Perm vs/\(xs.map (·.2)).toList.Pairwise fun u v=>lexLt (f v) (f u)=false:=by
 have pl:=cW.mp p
 have me:∀ q∈xs.toList,q.1=q.2/\q.1∈vs:=fun q hq=>jGL (pl.mem_iff.mp hq)
 have sz:xs.size=(pairsOf vs).size:=p.size_eq
 rw[Array.toList_map]
 constructor
 ·have:=pl.map Prod.snd
  rw[pairsOf_toList,List.map_snd_zip (ao _)] at this
  exact this
 ·rw[bz,bL]
  intro i j hi hj hij
  rw[aM] at hi hj
  have k:=h i j (dC hij) (by omega)
  have ei:xs[i]?=some xs[i]:=ji _ i hi
  have ej:xs[j]?=some xs[j]:=ji _ j hj
  have m1:=me xs[i] (by simp)
  have m2:=me xs[j] (by simp)
  rw[@yK (odL kd f vs) _ _ _ ei,@yK (odL kd f vs) _ _ _ ej] at k
  have e:decide (@key (odL kd f vs) xs[j]< @key (odL kd f vs) xs[i])=lexLt (f xs[j].1) (f xs[i].1):=rk_lt (cq m2.2)
  rw[iY,iY,<- m1.1,<- m2.1,<- e]
  exact aH (by omega)
end
def TupI (h:Heap)(v:Value)(l:List Int):Prop:=∃ a n its,v= .ref a/\h.get? a=some { cls:= .type "tuple",data:= .seq its n} /\IntsAre its.toList l
def decV (h:Heap):Value->List Int
 | .ref a=>match h.get? a with
  | some o=>match o.data with
   | .seq xs _=>xs.toList.map numOf
   | _=> []
  | none=> []
 | _=> []
theorem TupI.dec {h:Heap}{v:Value}{l:List Int}(t:TupI h v l):decV h v=l:=by
 obtain⟨a,n,its,rfl,ho,hi⟩:=t
 dsimp only [decV]
 rw[ho]
 exact hi.nums
section
variable {prog:Program}{w:World}{A:Around}{E:Value->Shared->Prop}{s:Shared}
theorem jRX {b:Bool}{x y:Int}{t u:Tok}{Q:Bool->Shared->Prop}(h:Q (decide (x<y)) s):wpAny (model prog w) A (oneLt' b (.int x t) (.int y u)) Q E s:=by
 cases b with
 | true=>exact oneLt_int h
 | false=>exact kat_one _ _ (HT.rcLt_int A s x t y u prog w E _ h)
theorem jQC {b fin:Bool}{Q:Bool->Shared->Prop} :∀ {us:List Value}{x:List Int}{vs:List Value}{y:List Int}(i:Nat),IntsAre us x->IntsAre vs y->fin=decide (us.length<vs.length)->Q (lexLt x y) s->KatLex prog w A b fin Q (us.zip vs) i s
 | _,_,_,_,i, .nil, .nil,hf,h=>by rw[hf]; exact h
 | _,_,_,_,i, .nil, .cons _ _ _,hf,h=>by rw[hf]; exact h
 | _,_,_,_,i, .cons _ _ _, .nil,hf,h=>by rw[hf]; exact h
 | _,_,_,_,i, .cons (ns:=ns) a t h1, .cons (ns:=ms) c u h2,hf,h=>by
  rw[eC]
  refine kat_cons (gJ a t c u prog w _ _ ?_)
  rw[jAE] at h
  by_cases e:a=c
  ·rw[aq e] at h
   rw[show (a==c)=true by simp [e]]
   refine kat_yes (jQC (i+1) h1 h2 ?_ h)
   rw[hf,aR,aR]
   exact decide_eq_decide.mpr (by omega)
  ·rw[am e] at h
   rw[show (a==c)=false by simp [e]]
   exact kat_no (jRX h)
theorem jMH {b:Bool}{u v:Value}{x y:List Int}{Q:Bool->Shared->Prop}(hu:TupI s.heap u x)(hv:TupI s.heap v y)(h:Q (lexLt x y) s):wpAny (model prog w) A (keyLt' (tuples' b) u v) Q E s:=by
 obtain⟨a,n,its,rfl,ho,hi⟩:=hu
 obtain⟨a2,n2,its2,rfl,ho2,hi2⟩:=hv
 exact kat_lt ho rfl ho2 rfl (jQC 0 hi hi2 rfl h)
theorem jKN (x y:Value):keyLt' general' x y=oneLt' false x y:=rfl
theorem jKF {u v:Value}{x y:List Int}{Q:Bool->Shared->Prop}(hu:TupI s.heap u x)(hv:TupI s.heap v y)(room:A.units<cLine)(h:Q (lexLt x y) s):wpAny (model prog w) A (keyLt' general' u v) Q E s:=by
 obtain⟨a,n,its,rfl,ho,hi⟩:=hu
 obtain⟨a2,n2,its2,rfl,ho2,hi2⟩:=hv
 rw[jKN]
 exact kat_one _ _ (HT.lt_tupInts (items:=its) (items2:=its2) ⟨_,ho,rfl,n,rfl⟩ ⟨_,ho2,rfl,n2,rfl⟩ hi hi2 room h)
theorem jKE {u v:Value}{x y:List Int}{Q:Bool->Shared->Prop}(hu:TupI s.heap u x)(hv:TupI s.heap v y)(room:A.units<cLine)(h:Q (lexLt x y) s):wpAny (model prog w) A (keyLt' oneType' u v) Q E s:=by
 obtain⟨a,n,its,rfl,ho,hi⟩:=hu
 obtain⟨a2,n2,its2,rfl,ho2,hi2⟩:=hv
 rw[keyLt'_oneType,oneLt'_eq]
 simp only [gj]
 refine ab (wpAny_cRoomFor room ?_)
 have hT:s.TypeIs (.ref a) "tuple" :=⟨_,ho,rfl⟩
 refine ab (wpAny_callSpecialIfBound?_slot hT ga (gK ga hT iy (ik _ _) (HT.tuple_lt_ints a a2 its its2 n n2 _ _ _ _ x y hi hi2) ⟨ho,ho2,?_⟩))
 exact dv h
def FsOf:List (Option Value)->List (List Int)->Prop:=All2 fun o l=>(o=none/\l=[])\/∃ n t r,o=some (Value.int n t)/\l=n::r
theorem jQM:∀ {vs:List Value}{ws:List (List Int)},All2 (TupI s.heap) vs ws->∃ fs,FsOf fs ws/\∀ (Q:List (Option Value)->Shared->Prop) (E:Value->Shared->Prop),Q fs s->wpAny (model prog w) A (vs.mapM firstOfTuple') Q E s
 | [],[],_=>⟨[],trivial,fun Q E h=>by rw[List.mapM_nil]; exact ah h⟩
 | v::vs,l::ws,⟨⟨a,n,its,e,ho,hi⟩,r⟩=>by
  obtain⟨fs,h1,h2⟩:=jQM r
  refine⟨its[0]?::fs,⟨?_,h1⟩,fun Q E h=>?_⟩
  ·obtain⟨li⟩:=its
   cases hi with
   | nil=>exact .inl ⟨rfl,rfl⟩
   | cons c t _=>exact .inr ⟨c,t,_,rfl,rfl⟩
  ·rw[List.mapM_cons,e]
   refine ab ?_
   rw[kas_first_eq]
   refine ab (Looks.here (show Looks (model prog w) s.heap (typeOf (.ref a)) (.type "tuple") from(Looks.ld ho).andThen .now) ?_)
   rw[am (by first | decide | simp)]
   refine ab (listItems_at ho rfl (ah ?_))
   exact ab (h2 _ _ (ah h))
theorem jN9:∀ {fs:List (Option Value)}{ws:List (List Int)},FsOf fs ws->fs.all (·.isSome)=ws.all fun x=>!x.isEmpty
 | [],[],_=>rfl
 | o::fs,l::ws,⟨h,r⟩=>by
  rw[fg,fg,jN9 r]
  rcases h with ⟨rfl,rfl⟩ | ⟨n,t,r,rfl,rfl⟩ <;> rfl
theorem jI9:∀ {fs:List (Option Value)}{ws:List (List Int)},FsOf fs ws->∀ v∈fs.filterMap id,∃ n t,v=Value.int n t
 | [],[],_,v,h=>by cases h
 | o::fs,l::ws,⟨h,r⟩,v,hv=>by
  rcases h with ⟨rfl,rfl⟩ | ⟨n,t,r',rfl,rfl⟩
  ·exact jI9 r v (by simpa using hv)
  ·rw[dZ] at hv
   rcases aG.mp hv with e | hv
   ·exact⟨n,t,e⟩
   ·exact jI9 r v hv
def kdOf (ws:List (List Int)):SortKind:=if (ws.all fun x=>!x.isEmpty)=true then tuples' true else if (ws.headD []).isEmpty=true then oneType' else general'
theorem jJ9 {T:Value}{vs:List Value}(ne:vs≠ [])(hT:∀ v∈vs,Looks (model prog w) s.heap (typeOf v) T)(hT2:(T==T)=true){Q:Option Value->Shared->Prop}(h:Q (some T) s):wpAny (model prog w) A (oneTypeOnly' vs.toArray) Q E s:=by
 obtain⟨v,r,rfl⟩:=eO ne
 rw[oneTypeOnly'_eq,List.mapM_toArray,map_eq_pure_bind]
 refine ab (ab (kas_mapM (r:=T) _ (fun v hv Q' hq=>(hT v hv).here hq) (ah ?_)))
 have hall2:((List.map (fun _=>T) (v::r)).toArray.all fun x=>x==T)=true:=by
  simp only [List.all_toArray,iC,bC]
  intro _ _
  exact hT2
 have h0:(List.map (fun _=>T) (v::r)).toArray[0]?=some T:=by simp
 rw[h0]
 simp only [hall2,gj]
 exact ah h
theorem jO6 {v:Value}{l:List Int}(h:TupI s.heap v l):Looks (model prog w) s.heap (typeOf v) (.type "tuple"):=by
 obtain⟨a,n,its,rfl,ho,_⟩:=h
 exact(Looks.ld ho).andThen .now
theorem jSG {vs:List Value}{ws:List (List Int)}{Q:SortKind->Shared->Prop}(t:All2 (TupI s.heap) vs ws)(h2:vs≠ [])(h:Q (kdOf ws) s):wpAny (model prog w) A (keyKind' vs.toArray) Q E s:=by
 obtain⟨fs,f1,f2⟩:=jQM (prog:=prog) (w:=w) (A:=A) t
 rw[kat_kind_eq,List.mapM_toArray,map_eq_pure_bind]
 refine ab (ab (f2 _ _ (ah ?_)))
 have e:=jN9 f1
 have ha:(fs.toArray.all fun x=>x.isSome)=fs.all (·.isSome):=by simp
 unfold kdOf at h
 rw[ha,e]
 cases hc:(ws.all fun x=>!x.isEmpty) with
 | true=>
  rw[hc,aq rfl] at h
  rw[aq rfl]
  refine ab (de ?_)
  have hf:(fs.toArray.filterMap id)=(fs.filterMap id).toArray:=by simp
  rw[hf]
  have ne:fs.filterMap id≠ []:=by
   intro z
   obtain⟨v,vs',rfl⟩:=eO h2
   cases ws with
   | nil=>exact t.elim
   | cons l ws=>
    cases fs with
    | nil=>exact f1.elim
    | cons o fs=>
     rcases f1.1 with ⟨_,q⟩ | ⟨n,t',r,q,_⟩
     ·rw[q] at hc; simp at hc
     ·rw[q,dZ] at z; cases z
  refine ab (jJ9 (T:= .type "int") ne (fun v hv=>?_) rfl (ah ?_))
  ·obtain⟨n,t',e⟩:=jI9 f1 v hv
   rw[e]
   exact .now
  ·exact h
 | false=>
  rw[hc,am aj] at h
  rw[am aj]
  obtain⟨v,vs',rfl⟩:=eO h2
  cases ws with
  | nil=>exact t.elim
  | cons l ws=>
   cases fs with
   | nil=>exact f1.elim
   | cons o fs=>
    have h0:(o::fs).toArray[0]?=some o:=by simp
    rw[h0]
    rcases f1.1 with ⟨q,q2⟩ | ⟨n,t',r,q,q2⟩
    ·rw[q2] at h
     rw[q,am (by simp)]
     refine ab (jJ9 (T:= .type "tuple") h2 (fun u hu=>?_) rfl (ah h))
     obtain⟨i,hi⟩:=bF hu
     obtain⟨l',_,hl⟩:=t.get' hi
     exact jO6 hl
    ·rw[q2] at h
     rw[q,aq (by simp)]
     exact ah h
theorem lt_kd {ws:List (List Int)}{u v:Value}{x y:List Int}{Q:Bool->Shared->Prop}(hu:TupI s.heap u x)(hv:TupI s.heap v y)(room:A.units<cLine)(h:Q (lexLt x y) s):wpAny (model prog w) A (keyLt' (kdOf ws) u v) Q E s:=by
 unfold kdOf
 split
 ·exact jMH hu hv h
 ·split
  ·exact jKE hu hv room h
  ·exact jKF hu hv room h
theorem askT {f:Value->List Int}{a:Addr}{vs:List Value}{ws:List (List Int)}(t:All2 (TupI s.heap) vs ws)(hf:∀ v l,v∈vs->TupI s.heap v l->f v=l)(na:∀ v∈vs,v≠ .ref a)(room:A.units<cLine)(h2:2<=vs.length): @AskOk (odL (kdOf ws) f vs) prog w A s a vs:=fun h6 k6=>by
 have keep:∀ v l,v∈vs->TupI s.heap v l->TupI h6 v l:=fun v l hv ⟨c,n,its,e,ho,hi⟩=>⟨c,n,its,e,k6 _ _ ho fun z=>na v hv (by rw[e,z]),hi⟩
 have t6:All2 (TupI h6) vs ws:=by
  have go:∀ {us:List Value}{ls:List (List Int)},(∀ v∈us,v∈vs)->All2 (TupI s.heap) us ls->All2 (TupI h6) us ls:=by
   intro us
   induction us with
   | nil=>intro ls _ h; cases ls with
    | nil=>trivial
    | cons _ _=>exact h.elim
   | cons u us ih=>intro ls hm h; cases ls with
    | nil=>exact h.elim
    | cons l ls=>exact⟨keep u l (hm u (aE ..)) h.1,ih (fun v hv=>hm v (aK _ hv)) h.2⟩
  exact go (fun v hv=>hv) t
 have ne:vs≠ []:=fun z=>by rw[z] at h2; exact absurd h2 (by decide)
 refine⟨fun Q E h=>jSG (s:= { s with heap:=h6}) t6 ne h,ltL fun u hu v hv Q E h=>?_⟩
 obtain⟨i,hi⟩:=bF hu
 obtain⟨j,hj⟩:=bF hv
 obtain⟨x,_,hx⟩:=t.get' hi
 obtain⟨y,_,hy⟩:=t.get' hj
 rw[hf u x hu hx,hf v y hv hy] at h
 exact lt_kd (s:= { s with heap:=h6}) (keep _ _ hu hx) (keep _ _ hv hy) room h
theorem sorted_gen [Od]{l:Addr}{vs:List Value}{Q:Value->Shared->Prop}(hl:s.heap.IsList l vs.toArray)(hz:vs.length<=sizeLine)(hI:AllI (pairsOf vs).toList)
  (hk:2<=vs.length->∀ (h5:Heap) (a:Addr),(∀ c o,s.heap.get? c=some o->h5.get? c=some o)->s.heap.objs.size<=a->AskOk prog w A.in1.in1 { s with heap:=h5} a vs)
  (h:∀ xs:Array Keyed,xs.Perm (pairsOf vs)->STo xs (pairsOf vs).size->Q (.ref (s.heap.objs.size+1)) { s with heap:=sortedAll s.heap vs (xs.map (·.2))}):
  wpAny (model prog w) A (call (.builtin "sorted") [.ref l]) Q E s:=by
 refine eW kind_sorted plain_sorted entry_sorted (args_sorted1 _) ?_
 unfold Builtin.«sorted»
 refine ab (m:=checkCount "sorted" 1 1 _) (ah ?_)
 refine ab (collect_list hl ?_ hz)
 refine ab (fj ?_ hz)
 have hsz:((s.heap.push (seqObj "list" #[] 0)).update s.heap.objs.size (Obj.mapSeq (· ++vs.toArray))).objs.size=s.heap.objs.size+1:=by
  rw[Heap.size_update,size_push']
 have hoL:(((s.heap.push (seqObj "list" #[] 0)).update s.heap.objs.size (Obj.mapSeq (· ++vs.toArray))).push (seqObj "list" vs.toArray 0)).get? (s.heap.objs.size+1)=some (seqObj "list" vs.toArray 0):=by
  rw[<- hsz]; exact ax _ rfl
 have k5:∀ c o,s.heap.get? c=some o->(((s.heap.push (seqObj "list" #[] 0)).update s.heap.objs.size (Obj.mapSeq (· ++vs.toArray))).push (seqObj "list" vs.toArray 0)).get? c=some o:=fun c o q=>by
  refine af _ ?_
  rw[cQ _ _ (dD (aA q))]
  exact af _ q
 show wpAny _ _ _ _ _ { s with heap:=((s.heap.push (seqObj "list" #[] 0)).update s.heap.objs.size (Obj.mapSeq (· ++vs.toArray))).push (seqObj "list" vs.toArray 0)}
 rw[hsz]
 refine ab (bJ (cj gN ⟨_,hoL,rfl⟩ gz (by
  rw[jLR]
  exact jIX hoL hz hI (fun h2=>hk h2 _ _ k5 (dF _)) fun xs p1 p2=>⟨_,rfl,ah ⟨_,rfl,h xs p1 p2⟩⟩) (args_list_sort _)))
end
end TM
namespace L2
open PySem PySem.Spec PyProof.Rows
section
variable {X:Cx}
def TsOf (H:Hp)(us:List V)(ws:List (List Int)):Prop:=All2 (fun v x=>∃ a,v=V.ref a/\H a=some (.tup (x.map V.int))) us ws
theorem TsOf.tups {pins:List (Addr×Obj)}{σ:St}{H:Hp}{s:Shared}(I:Inv X pins σ H s):∀ {us:List V}{its:List Value}{ws:List (List Int)},Vals us its->TsOf H us ws->All2 (TM.TupI s.heap) its ws
 | [],_,[], .nil,_=>trivial
 | _::_,_,_::_, .cons r rs,⟨⟨a,e,h⟩,t⟩=>by
  subst e
  cases r
  obtain⟨_,its,r2,n,ho⟩:=(show ObjOk X.prog X.w H s.heap a (.tup _) from I.hok a _ h)
  exact⟨⟨a,n,its.toArray,rfl,ho,jKL r2⟩,TsOf.tups I rs t⟩
def refV:Value->V
 | .ref a=> .ref a
 | _=> .non
theorem jIP {h:Heap} :∀ {its:List Value}{ws:List (List Int)},All2 (TM.TupI h) its ws->its.map (TM.decV h)=ws
 | [],[],_=>rfl
 | _::_,_::_,⟨t,r⟩=>by rw[bu,t.dec,jIP r]
theorem ts_at {H:Hp}{us:List V}{its:List Value}{ws:List (List Int)}{h:Heap}(r:Vals us its)(t:TsOf H us ws)(d:All2 (TM.TupI h) its ws){v:Value}(hv:v∈its):∃ a,v= .ref a/\H a=some (.tup ((TM.decV h v).map V.int)):=by
 induction r generalizing ws with
 | nil=>cases hv
 | cons q rs ih=>
  cases ws with
  | nil=>exact t.elim
  | cons l ws=>
   obtain⟨⟨a,e,ha⟩,t⟩:=t
   rcases aG.mp hv with z | hv
   ·subst e
    cases q
    rw[z,d.1.dec]
    exact⟨a,rfl,ha⟩
   ·exact ih t d.2 hv
theorem jTA {H:Hp}{h:Heap}{out:List Value} :(∀ v∈out,∃ a,v= .ref a/\H a=some (.tup ((TM.decV h v).map V.int)))->Vals (out.map refV) out/\TsOf H (out.map refV) (out.map (TM.decV h)):=by
 induction out with
 | nil=>exact fun _=>⟨.nil,trivial⟩
 | cons v out ih=>
  intro k
  obtain⟨a,rfl,ha⟩:=k v (aE ..)
  obtain⟨i1,i2⟩:=ih fun u hu=>k u (aK _ hu)
  exact⟨.cons rfl i1,⟨a,rfl,ha⟩,i2⟩
theorem jCO (hu:X.A.units+101<cLine):yE X (.builtin "sorted") (fun xs H Q=>∃ (p:Addr) (us:List V) (ws:List (List Int)),xs=[.ref p]/\SqL X.K H p us/\TsOf H us ws/\
  ∀ (l:Addr) (us':List V) (ws':List (List Int)),H l=none->TsOf H us' ws'->ws'.Perm ws->ws'.Pairwise (fun x y=>HT.lexLt y x=false)->Q (.ref l) (upd H l (.lst us'))):=by
 intro pins s σ H xs us Q I r h
 obtain⟨p,us,ws,rfl,hp,ht,q⟩:=h
 obtain⟨u,rfl,rx⟩:=r.one
 cases rx
 obtain⟨its,r',pl,hz⟩:=I.list hp
 have hlen:=r'.length
 have d:=TsOf.tups I r' ht
 have hat:=fun v (hv:v∈its)=>ts_at r' ht d hv
 refine @TM.sorted_gen _ _ _ _ _ (TM.odL (TM.kdOf ws) (TM.decV s.heap) its) _ _ _ pl.isList (by omega) TM.allL (fun h2 h5 a k5 ha=>?_) fun out p1 p2=>?_
 ·have keep:∀ {vs:List Value}{ls:List (List Int)},All2 (TM.TupI s.heap) vs ls->All2 (TM.TupI h5) vs ls:=fun h=>All2.imp (fun v l ⟨c,n,its,e,ho,hi⟩=>⟨c,n,its,e,k5 _ _ ho,hi⟩) h
  refine TM.askT (s:= { s with heap:=h5}) (keep d) (fun v l hv t=>?_) (fun v hv e=>?_) (by rw[ek,ek]; omega) h2
  ·obtain⟨i,hi⟩:=bF hv
   obtain⟨l',hl',t'⟩:=d.get' hi
   obtain⟨l2,hl2,t2⟩:=(keep d).get' hi
   rw[hl'] at hl2
   cases hl2
   rw[t'.dec,<- t2.dec]
   exact t.dec
  ·obtain⟨c,e2,hc⟩:=hat v hv
   obtain⟨_,its2,_,n,ho⟩:=(show ObjOk X.prog X.w H s.heap c (.tup _) from I.hok c _ hc)
   rw[e2] at e
   cases e
   exact absurd (aA ho) (Nat.not_lt.mpr ha)
 ·obtain⟨o1,o2⟩:=TM.sto_out p1 p2
  obtain⟨v1,v2⟩:=jTA (H:=H) (h:=s.heap) (out:=(out.map (·.2)).toList) fun v hv=>hat v (o1.mem_iff.mp hv)
  obtain⟨e,he⟩:=sortedAll_at s.heap its (out.map (·.2))
  have hz2:((out.map (·.2)).toList.map refV).length<=sizeLine:=by
   rw[ae,o1.length_eq]
   omega
  have I2:Inv X pins σ (upd H (s.heap.objs.size+1) (.lst ((out.map (·.2)).toList.map refV))) { s with heap:=sortedAll s.heap its (out.map (·.2))} :=I.laid (t':=s.toks) (fun b o e=>sortedAll_old e) (dF _) ⟨hz2,(out.map (·.2)).toList,e,v1,by rw[dk]; exact he⟩
  refine⟨.ref _,_,I2,rfl,q _ _ ((out.map (·.2)).toList.map (TM.decV s.heap)) (I.hok.fresh (dF _)) v2 ?_ ?_⟩
  ·rw[<- jIP d]
   exact o1.map _
  ·exact bz.mpr o2
theorem jJJ:∀ {x y:List (List Int)},x.Perm y->x.Pairwise (fun a b=>HT.lexLt b a=false)->y.Pairwise (fun a b=>HT.lexLt b a=false)->x=y
 | [],y,p,_,_=>(List.nil_perm.mp p).symm
 | a::x,[],p,_,_=>absurd (List.perm_nil.mp p) (by simp)
 | a::x,b::y,p,h,k=>by
  obtain⟨h1,h2⟩:=cw.mp h
  obtain⟨k1,k2⟩:=cw.mp k
  have e:a=b:=by
   refine TM.lex_tot ?_ ?_
   ·rcases aG.mp (p.mem_iff.mp (aE ..)) with z | z
    ·rw[z]; exact TM.lex_irr b
    ·exact k1 a z
   ·rcases aG.mp (p.mem_iff.mpr (aE ..)) with z | z
    ·rw[z]; exact TM.lex_irr a
    ·exact h1 b z
  subst e
  rw[jJJ (List.perm_cons a |>.mp p) h2 k2]
end
end L2
end
section
end
section
namespace Eo
open PySem L2
def Keep (H H':Hp)(p:Addr):Prop:=∀ b o,H b=some o->b≠p->H' b=some o
structure Txt (mg:Str->Option Value):Prop where
 len:mg "len" =none
 range:mg "range" =none
 tuple:mg "tuple" =none
 sorted:mg "sorted" =none
 set:mg "set" =none
 list:mg "list" =none
 int:mg "int" =none
 isinstance:mg "isinstance" =none
 bool:mg "bool" =none
 str:mg "str" =none
 all:mg "all" =none
 zip:mg "zip" =none
 max:mg "max" =none
 min:mg "min" =none
 any:mg "any" =none
 abs:mg "abs" =none
 sum:mg "sum" =none
 enumerate:mg "enumerate" =none
 dict:mg "dict" =none
structure Can (P:Program)(w:World)(K:W.Frag)(mg:Str->Option Value)(base:Heap)(x:Str)(k:Nat)(f:Addr)(fd:FuncData)(ps:List Str)(sp:Sp):Prop where
 G:FnOk P w K mg base CX0 k f fd ps sp
 m:mg x=some (.ref f)
 kp:keepIn K (.ref f)=true
 b:Binds K fd ps []
theorem Can.pe {X:Cx}{x:Str}{k:Nat}{f:Addr}{fd:FuncData}{ps:List Str}{sp:Sp}{e:Expr}{es:List Expr}{t:TA}{p pos:Pos}(C:Can X.prog X.w X.K X.mg X.base x k f fd ps sp)(hr:Room k X.A)(hg:Gl X x)(ha:PA X (e::es) t)(hdb:(x==("__debug__" :Str))=false:=by decide)
  (he:starEach (e::es) X.env=(false,eval e X.env)::starEach es X.env:=by rfl) (hpl:(backTo pos (starEach es X.env)).any (·.1)=false:=by rfl):PE X (.Call (.Name x p) (e::es) [] pos) (tCall sp [] E0 t):=
 jRP C.G hr hg C.m C.kp C.b .nil pass0 ha hdb he hpl
theorem Can.je {X:Cx}{x:Str}{k:Nat}{f:Addr}{fd:FuncData}{ps:List Str}{sp:Sp}{e:Expr}{es:List Expr}{t:TA}{p pos:Pos}(C:Can X.prog X.w X.K X.mg X.base x k f fd ps sp)(hr:Room k X.A)(hg:Gl1 X x)(ha:JA X (e::es) t)(he:starEach (e::es) X.env=(false,eval e X.env)::starEach es X.env)
  (hdb:(x==("__debug__" :Str))=false:=by decide) (hpl:(backTo pos (starEach es X.env)).any (·.1)=false:=by rfl):JE X (.Call (.Name x p) (e::es) [] pos) (tCall sp [] E0 t):=
 ⟨C.pe hr hg.a ha.h hdb he hpl⟩
section
variable {P:Program}{w:World}{K:W.Frag}{mg:Str->Option Value}{base:Heap}
def yY (K:W.Frag):Sp:=fun vs H Q _=>∃ (a:Addr) (ns:List Int) (k:Int),vs=[.ref a, .int k]/\SqL K H a (ns.map V.int)/\0<=k/\∀ c:Int,Q (.int c) H
theorem jTH:FnScope ["script","k"] ["script","k"] (j6 sCell):=⟨rfl,rfl,rfl,by decide+kernel,rfl,by decide+kernel,by decide+kernel⟩
theorem jS6 {f:Addr}{fd:FuncData}(F:Fun K "_law_cell_at" "_law_cell_at" sCell f fd)(T:Txt mg):FnOk P w K mg base CX0 1 f fd ["script","k"] (yY K):=by
 refine F.ok jTH (fun vs H Q E h=>?_) (fun cdv A outer s H vs Q E hr h=>?_)
 ·obtain⟨a,ns,k,rfl,_⟩:=h
  rfl
 ·obtain⟨a,ns,k,rfl,hS,h0,q⟩:=h
  refine⟨_,kS (ps_if (jDS op_lt (pv 1) (jFF kB (by rfl) T.len PySem.boot_len (kG (pv 0) yH)) (jV _)) (jAZ (jD8 (pe_ix jC1 (pv 0) (pv 1) (fun _ _=>rfl)))) jFD) (jAZ (jD8 jP)),?_⟩
  refine⟨_,rfl,_,rfl,a,_,rfl, .inl hS,_,_,rfl,rfl,_,rfl,?_⟩
  refine ite2 (fun hlt=>?_) (fun _=>?_)
  ·have hlt:k<((ns.map V.int).length:Int):=aF hlt
   have hk:k.toNat<ns.length:=by rw[ae] at hlt; omega
   refine⟨_,rfl,_,rfl,a,_,k, .int (ns[k.toNat]),rfl,rfl,hS,?_,q _⟩
   have e:(k.toNat:Int)=k:=by omega
   have q2:=yD (xs:=ns.map V.int) (j:=k.toNat) (v:=V.int ns[k.toNat]) (by simp [hk])
   rw[e] at q2
   exact q2
  ·exact q 0
def yB:Sp:=fun vs H Q _=>∃ (p:Addr) (N w:Int),vs=[.ref p, .int w]/\H p=some (.lst [.int N])/\0<=N/\0<w/\w<2 ^ 64/\∀ N' r:Int,0<=N'->0<=r->r<w->Q (.int r) (upd H p (.lst [.int N']))
theorem scTake:FnScope ["pot","wide","found"] ["pot","wide"] (j6 sTake):=⟨rfl,rfl,rfl,by decide+kernel,rfl,by decide+kernel,by decide+kernel⟩
theorem jRZ {f:Addr}{fd:FuncData}(F:Fun K "_law_take" "_law_take" sTake f fd):FnOk P w K mg base CX0 1 f fd ["pot","wide"] yB:=by
 refine F.ok scTake (fun vs H Q E h=>?_) (fun cdv A outer s H vs Q E hr h=>?_)
 ·obtain⟨a,ns,k,rfl,_⟩:=h
  rfl
 ·obtain⟨p,N,w,rfl,hp,h0,h1,h2,q⟩:=h
  refine⟨_,kS (qE (i:=2) scTake.nd rfl (Or.inl rfl) (kN jGN (pe_ix jC1 (pv 0) jP (fun _ _=>rfl)) (pv 1)))
   (kS (jQ5 (kN jJ8 (pe_ix jC1 (pv 0) jP (fun _ _=>rfl)) (pv 1)) (jTS (pv 0) jP jO7))
   (jAZ (jD8 (pv 2)))),?_⟩
  refine⟨_,rfl,p,_,0, .int N,rfl,rfl,SqL.of hp,rfl,_,rfl,_,_,rfl,rfl,h1,?_⟩
  refine⟨_,rfl,p,_,0, .int N,rfl,rfl,SqL.of hp,rfl,_,rfl,_,_,rfl,rfl,⟨h1,h2⟩,?_⟩
  refine⟨_,rfl,p,_,0,0,rfl,rfl,hp,rfl,_,rfl,?_⟩
  exact q _ _ (Int.ediv_nonneg h0 (by omega)) (Int.emod_nonneg _ (by omega)) (jf _ h1)
def qN:Sp:=fun vs H Q _=>∃ c:Int,vs=[.int c]/\∀ (p:Addr) (N:Int),H p=none->0<=N->Q (.ref p) (upd H p (.lst [.int N]))
theorem scPot:FnScope ["cell","number","j","more"] ["cell"] (j6 sPot):=⟨rfl,rfl,rfl,by decide+kernel,rfl,by decide+kernel,by decide+kernel⟩
theorem jU5 {f:Addr}{fd:FuncData}(F:Fun K "_law_pot" "_law_pot" sPot f fd)(T:Txt mg):FnOk P w K mg base CX0 1 f fd ["cell"] qN:=by
 refine F.ok scPot (fun vs H Q E h=>?_) (fun cdv A outer s H vs Q E hr h=>?_)
 ·obtain⟨c,rfl,_⟩:=h
  rfl
 ·obtain⟨c,rfl,q⟩:=h
  have one: [V.int 0].length<=sizeLine:=by show 1<=sizeLine; decide
  refine⟨_,kS (ps_if (jDS op_ge (pv 0) (kN jLU jP jP) (jV _)) (jAZ (jD8 (jJ6 (kG (kN jDW (pv 0) (kN jLU jP jP)) yH)))) jFD)
   (kS (qE (i:=1) scPot.nd rfl (Or.inl rfl) jP)
   (kS (jQ4 cf rfl (jC9 rfl T.range (kG jP yH)) (jFE (i:=2) scPot.nd rfl (Or.inl rfl))
    (kS (qE (i:=3) scPot.nd rfl (Or.inl rfl) (kN jGN (kN jDA (kN y0 (kN y0 (kN jGN (pv 0) jP) (kN jDA jP (pv 2))) jP) jP) jP))
    (kS (qE (i:=3) scPot.nd rfl (Or.inl rfl) (kN jGN (kN y0 (kN y0 (kN jDA (pv 3) (pv 3)) (kN jDA jP (pv 2))) jP) jP))
    (jAZ (qE (i:=1) scPot.nd rfl (Or.inl rfl) (kN y0 (kN jDA (pv 1) jP) (pv 3)))))))
   (jAZ (jD8 (jJ6 (kG (pv 1) yH)))))),?_⟩
  refine⟨_,rfl,_,_,rfl,rfl,⟨by decide,by decide,by decide⟩,_,_,rfl,rfl,_,rfl,?_⟩
  refine ite2 (fun hge=>?_) (fun _=>?_)
  ·refine⟨_,rfl,_,_,rfl,rfl,⟨by decide,by decide,by decide⟩,_,_,rfl,rfl,one,fun p hp=>q p _ hp ?_⟩
   exact Int.sub_nonneg_of_le (aF hge)
  ·refine⟨64,rfl,by decide,by decide,jBA (n:=64) (fun i σ H2=>∃ (num:Int) (v1 v2:Option V),σ=[some (.int c),some (.int num),v1,v2]/\0<=num/\H2=H) ⟨0,none,none,rfl,cI _,rfl⟩ ?_ ?_⟩
   ·rintro i σ H2 hi ⟨num,v1,v2,rfl,hn,rfl⟩
    refine⟨_,rfl,_,_,rfl,rfl,(by show (0:Int)<2147483629; decide),_,rfl,_,_,rfl,rfl, .inl ⟨by decide,by decide⟩,_,_,rfl,rfl,_,_,rfl,rfl,_,_,rfl,rfl, .inr ⟨by decide,by decide⟩,_,_,rfl,rfl,(by show (0:Int)<2147483647; decide),?_⟩
    refine⟨_,rfl,_,rfl,_,_,rfl,rfl, .inl ⟨?_,?_⟩,_,rfl,_,_,rfl,rfl, .inl ⟨by decide,by decide⟩,_,_,rfl,rfl,_,_,rfl,rfl,_,_,rfl,rfl,(by show (0:Int)<2147483587; decide),?_⟩
    ·omega
    ·omega
    ·refine⟨_,rfl,_,_,rfl,rfl, .inr ⟨by decide,by decide⟩,_,rfl,_,_,rfl,rfl,?_⟩
     refine⟨_,_,_,rfl,?_,rfl⟩
     omega
   ·rintro σ H2 ⟨num,v1,v2,rfl,hn,rfl⟩
    exact⟨_,rfl,one,fun p hp=>q p num hp hn⟩
end
theorem jBX {H:Hp}{a:Addr}{o o':HO} :upd (upd H a o) a o'=upd H a o':=by
 funext b
 unfold upd
 by_cases h:b=a
 ·rw[aq h,aq h]
 ·rw[am h,am h,am h]
theorem y9 {H:Hp}{a b:Addr}{o:HO}(h:upd H a o b=none):b≠a/\H b=none:=by
 have h1:b≠a:=fun e=>by rw[e,j5] at h; cases h
 exact⟨h1,by rw[j9 h1] at h; exact h⟩
theorem Keep.refl (H:Hp)(p:Addr):Keep H H p:=fun _ _ h _=>h
theorem Keep.trans {H H1 H2:Hp}{p:Addr}(a:Keep H H1 p)(b:Keep H1 H2 p):Keep H H2 p:=fun c o h n=>b c o (a c o h n) n
theorem Keep.upd {H H1:Hp}{p:Addr}(a:Keep H H1 p)(o:HO):Keep H (upd H1 p o) p:=fun c u h n=>by rw[j9 n]; exact a c u h n
theorem Keep.new {H H1:Hp}{p l:Addr}(a:Keep H H1 p)(hl:H1 l=none)(o:HO):Keep H (L2.upd H1 l o) p:=fun c u h n=>by
 have:=a c u h n
 rw[j9 (jA this hl)]
 exact this
theorem pw {w:Int}(h1:1<=w)(h2:w<=16):(2:Int)<=2 ^ w.toNat/\(2:Int) ^ w.toNat<=65536:=by
 have e:∀ n:Nat,n<17->1<=n->(2:Int)<=2 ^ n/\(2:Int) ^ n<=65536:=by decide+kernel
 exact e w.toNat (by omega) (by omega)
structure Lot (w:Int)(ts:List Int):Prop where
 ris:ts.Pairwise (· < ·)
 bnd:∀ z∈ts,0<=z/\z<w
 ne:ts≠ []
def bits (n:Int)(k:Nat):List Int:=((List.range k).filter fun t=>decide (Builtin.bitAnd (n / 2 ^ t) 1=1)).map fun (t:Nat)=>(t:Int)
theorem jHD (n:Int)(k:Nat):bits n (k+1)=bits n k++(if decide (Builtin.bitAnd (n / 2 ^ k) 1=1)=true then [(k:Int)] else []):=by
 unfold bits
 rw[iM,bQ,aJ]
 congr 1
 rw[cM]
 split <;> rfl
theorem jPQ {n w:Int}(h1:1<=n)(hw:0<=w)(h2:n<2 ^ w.toNat):Lot w (bits n w.toNat):=by
 refine⟨?_,fun z hz=>?_,?_⟩
 ·unfold bits
  rw[bz]
  have:=(iG (n:=w.toNat)).filter (fun t=>decide (Builtin.bitAnd (n / 2 ^ t) 1=1))
  exact this.imp fun h=>by omega
 ·unfold bits at hz
  obtain⟨t,ht,rfl⟩:=aP.mp hz
  have:=bM.mp (be.mp ht).1
  omega
 ·obtain⟨m,rfl⟩:∃ m:Nat,n=(m:Int):=⟨n.toNat,by omega⟩
  have hm:m≠0:=by omega
  have hlt:m<2 ^ w.toNat:=by
   have:((m:Nat):Int)<((2 ^ w.toNat:Nat):Int):=by rw[Int.natCast_pow]; exact h2
   omega
  obtain⟨i,hi⟩:=Nat.exists_testBit_of_ne_zero hm
  have hiw:i<w.toNat:=by
   rcases eU i w.toNat with h | h
   ·exact h
   ·rw[iF (bf hlt (cL (by omega) h))] at hi
    cases hi
  have hb:Builtin.bitAnd ((m:Int) / 2 ^ i) 1=1:=by
   have e:((m:Int) / 2 ^ i)=((m / 2 ^ i:Nat):Int):=by rw[Int.natCast_ediv,Int.natCast_pow]; rfl
   rw[e,PyProof.Rows.bitAnd_pp (fo _) (by decide)]
   have e2:(((m / 2 ^ i:Nat):Int).toNat&&&(1:Int).toNat)=1:=by
    rw[bq]
    show (m / 2 ^ i)&&&1=1
    rw[Nat.and_one_is_mod]
    have:=hi
    rw[Nat.testBit_eq_decide_div_mod_eq] at this
    exact aF this
   rw[e2]
   rfl
  intro z
  have hmem:(i:Int)∈bits (m:Int) w.toNat:=by
   unfold bits
   exact aP.mpr ⟨i,be.mpr ⟨bM.mpr hiw,ar hb⟩,rfl⟩
  rw[z] at hmem
  cases hmem
section
variable {P:Program}{w:World}{K:W.Frag}{mg:Str->Option Value}{base:Heap}
def qK:Sp:=fun vs H Q _=>∃ (p:Addr) (N w:Int),vs=[.ref p, .int w]/\H p=some (.lst [.int N])/\0<=N/\1<=w/\w<=16/\
 ∀ (q:Addr) (N':Int) (ts:List Int) (H':Hp),0<=N'->Lot w ts->H' q=some (.tup (ts.map V.int))->H' p=some (.lst [.int N'])->Keep H H' p->Q (.ref q) H'
theorem scLot:FnScope ["pot","wide","way","number","start","step","size"] ["pot","wide"] (j6 sLot):=⟨rfl,rfl,rfl,by decide+kernel,rfl,by decide+kernel,by decide+kernel⟩
theorem jU7 {f fT:Addr}{fd fdT:FuncData}(F:Fun K "_law_lot" "_law_lot" sLot f fd)(T:Txt mg)(CT:Can P w K mg base "_law_take" 1 fT fdT ["pot","wide"] yB):FnOk P w K mg base CX0 2 f fd ["pot","wide"] qK:=by
 refine F.ok scLot (fun vs H Q E h=>?_) (fun cdv A outer s H vs Q E hr h=>?_)
 ·obtain⟨a,ns,k,rfl,_⟩:=h
  rfl
 ·obtain⟨p,N,w,rfl,hp,hN,h1,h2,q⟩:=h
  have hpw:=pw h1 h2
  have nd:=scLot.nd
  refine⟨_,kS (qE (i:=2) nd rfl (Or.inl rfl) (CT.pe hr rfl (kG (pv 0) (kG jP yH))))
   (kS (ps_if (jDS qO (pv 2) jP (jV _))
    (kS (qE (i:=3) nd rfl (Or.inr rfl) (kN y0 jP (CT.pe hr rfl (kG (pv 0) (kG (kN jDW (kN jJ7 jP (pv 1)) jP) yH)))))
    (jAZ (jD8 (jCA jM rfl T.tuple (by decide+kernel) (kG
     (jHT (m:=[none,some 3]) (Nc:=["t","number"]) rfl (jC9 rfl T.range (kG (pv 1) yH)) rfl (by decide+kernel) (by decide+kernel) (jS (psc:=j6 sLot) (by decide+kernel))
      (jI (N:=["pot","wide","way","number","start","step","size"]) rfl rfl (by decide+kernel))
      (fun cl C fp s H=>jFE (i:=0) (show (["t","number"]:List Str).Nodup by decide+kernel) rfl (Or.inl rfl))
      (fun cl C fp s H=>jLM (jDS qO (kN jLW (kN jU2 (pv 1) (pv 0)) jP) jP (jV _)))
      (fun cl C fp s H=>pv 0)) yH)))))
    jFD)
   (kS (qE (i:=4) nd rfl (Or.inr rfl) (CT.pe hr rfl (kG (pv 0) (kG (pv 1) yH))))
   (kS (qE (i:=5) nd rfl (Or.inr rfl) (kN y0 jP (CT.pe hr rfl (kG (pv 0) (kG jP yH)))))
   (kS (qE (i:=6) nd rfl (Or.inl rfl) (kN y0 jP (CT.pe hr rfl (kG (pv 0) (kG (pe_ix jC1 (jJ6 (kG jP (kG jP (kG jP yH)))) (kN jDW (pv 2) jP) (fun _ _=>rfl)) yH)))))
   (jAZ (jD8 (jCA jM rfl T.tuple (by decide+kernel) (kG (jFF (jEM rfl) rfl T.sorted (by decide+kernel) (kG (jCA (jNP rfl) rfl T.set (by decide+kernel) (kG
     (jHT (m:=[none,some 4,some 5,some 1]) (Nc:=["j","start","step","wide"]) rfl (jC9 rfl T.range (kG (pv 6) yH)) rfl (by decide+kernel) (by decide+kernel) (jS (psc:=j6 sLot) (by decide+kernel))
      (jI (N:=["pot","wide","way","number","start","step","size"]) rfl rfl (by decide+kernel))
      (fun cl C fp s H=>jFE (i:=0) (show (["j","start","step","wide"]:List Str).Nodup by decide+kernel) rfl (Or.inl rfl))
      (fun cl C fp s H=>jLN)
      (fun cl C fp s H=>kN jGN (kN y0 (pv 1) (kN jDA (pv 2) (pv 0))) (pv 3))) yH)) yH)) yH)))))))),?_⟩
  refine⟨_,rfl,p,N,4,rfl,hp,hN,by decide,by decide,fun N1 way b1 b2 b3=>?_⟩
  have hp1:∀ M,(upd H p (.lst [.int M])) p=some (.lst [.int M]):=fun _=>j5
  refine⟨_,rfl,rfl,_,rfl,?_⟩
  refine ite2 (fun _=>?_) (fun hw0=>?_)
  ·refine⟨_,rfl,_,rfl,_,_,rfl,rfl,⟨by omega,by omega,by decide⟩,_,_,rfl,rfl,p,N1,_,rfl,hp1 _,b1,by omega,by omega,fun N2 r2 c1 c2 c3=>⟨_,_,rfl,rfl,?_⟩⟩
   have hnum:1+r2<2 ^ w.toNat:=by omega
   refine⟨_,rfl,w,rfl,by omega,by omega,jBL (n:=w.toNat) (by rw[ay]; omega) (fun D i σ' H' ys=>(∃ v,σ'=[v,some (.int (1+r2))])/\ys=(bits (1+r2) i).map V.int/\H'=upd (upd (upd H p (.lst [.int N1])) p (.lst [.int N2])) D (.lst ys)) ?_ ?_ ?_ ?_⟩
   ·intro D hD
    exact⟨⟨_,rfl⟩,rfl,rfl⟩
   ·rintro D i σ' H' ys hD hi ⟨_,e1,e2⟩
    refine⟨by rw[e2]; exact j5,?_⟩
    rw[e1,ae]
    unfold bits
    rw[ae]
    exact bb (bw _ _) (by rw[cU]; exact ao _)
   ·rintro D i σ' H' ys hD hi ⟨⟨v,rfl⟩,rfl,rfl⟩
    refine⟨_,rfl,_,rfl,_,_,rfl,rfl,(by show (0:Int)<=0+(i:Int); omega),_,_,rfl,rfl,rfl,_,rfl,?_⟩
    have ei:(0+(i:Int)).toNat=i:=by omega
    refine ite2 (fun hb=>?_) (fun hb=>?_)
    ·have hb:Builtin.bitAnd ((1+r2) / 2 ^ i) 1=1:=by
      have:=aF hb
      rw[ei] at this
      exact V.int.inj this
     refine⟨_,rfl,j5,⟨_,rfl⟩,?_,jBX⟩
     rw[jHD,aq (ar hb),aJ]
     congr 1
     show [V.int (0+(i:Int))]=[V.int (i:Int)]
     rw[iH]
    ·have hb:¬ Builtin.bitAnd ((1+r2) / 2 ^ i) 1=1:=fun e=>hb (ar (by rw[ei]; exact bN V.int e))
     refine⟨⟨_,rfl⟩,?_,rfl⟩
     rw[jHD,am (by simpa using hb),aW]
   ·rintro D σ' H' ys hD ⟨_,rfl,rfl⟩
    refine⟨D,_,rfl, .inl ⟨SqL.of j5,fun qq hqq=>?_⟩⟩
    obtain⟨n1,n2⟩:=y9 hqq
    have pD:p≠D:=jA j5 hD
    have pq:p≠qq:=jA j5 n2
    exact q qq N2 (bits (1+r2) w.toNat) _ c1 (jPQ (by omega) (by omega) hnum) j5 (by rw[j9 pq,j9 pD,j5]) (((((Keep.refl H p).upd _).upd _).new hD _).new hqq _)
  ·have hway:1<=way:=by
    have:¬ way=0:=fun e=>hw0 (ar (by rw[e]))
    omega
   refine⟨_,rfl,_,rfl,p,N1,w,rfl,hp1 _,b1,by omega,by omega,fun N2 y4 c1 c2 c3=>?_⟩
   rw[jBX]
   refine⟨_,rfl,p,N2,3,rfl,hp1 _,c1,by decide,by decide,fun N3 st d1 d2 d3=>⟨_,_,rfl,rfl,?_⟩⟩
   rw[jBX]
   refine⟨_,rfl,(by show 3<=sizeLine; decide),fun l hl=>?_⟩
   have pl:p≠l:=jA (hp1 _) hl
   obtain⟨wd,hwd,e1,e2⟩:∃ wd:Int,atI [V.int 1,V.int 2,V.int 4] (way - 1)=some (.int wd)/\1<=wd/\wd<=4:=by
    rcases (show way=1\/way=2\/way=3 by omega) with e | e | e
    ·subst e; exact⟨1,rfl,by decide,by decide⟩
    ·subst e; exact⟨2,rfl,by decide,by decide⟩
    ·subst e; exact⟨4,rfl,by decide,by decide⟩
   refine⟨_,rfl,_,_,rfl,rfl,l,_,_,_,rfl,rfl,SqL.of j5,hwd,p,N3,wd,rfl,by rw[j9 pl]; exact hp1 _,d1,by omega,by omega,fun N4 r4 g1 g2 g3=>⟨_,_,rfl,rfl,?_⟩⟩
   have kp:Keep H (upd (upd (upd H p (.lst [.int N3])) l (.lst [V.int 1,V.int 2,V.int 4])) p (.lst [.int N4])) p:=(((Keep.refl H p).upd _).new hl _).upd _
   have hp4:(upd (upd (upd H p (.lst [.int N3])) l (.lst [V.int 1,V.int 2,V.int 4])) p (.lst [.int N4])) p=some (.lst [.int N4]):=j5
   generalize (upd (upd (upd H p (.lst [.int N3])) l (.lst [V.int 1,V.int 2,V.int 4])) p (.lst [.int N4]))=H4 at kp hp4 ⊢
   refine⟨_,rfl,1+r4,rfl,by omega,by omega,jBL (n:=(1+r4).toNat) (by rw[ay]; omega) (fun D i σ' H' ys=>(∃ v,σ'=[v,some (.int y4),some (.int (1+st)),some (.int w)])/\(∃ ns:List Int,ys=ns.map V.int/\ns.length=i/\∀ z∈ns,0<=z/\z<w)/\H'=upd H4 D (.lst ys)) ?_ ?_ ?_ ?_⟩
   ·intro D hD
    exact⟨⟨_,rfl⟩,⟨[],rfl,rfl,fun z hz=>by cases hz⟩,rfl⟩
   ·rintro D i σ' H' ys hD hi ⟨_,⟨ns,rfl,e,_⟩,rfl⟩
    exact⟨j5,by rw[ae,e]; exact ao _⟩
   ·rintro D i σ' H' ys hD hi ⟨⟨v,rfl⟩,⟨ns,rfl,e,hb⟩,rfl⟩
    dsimp only [kL,yL]
    rw[aq rfl]
    refine⟨_,rfl,_,rfl,_,rfl,_,_,rfl,rfl, .inl ⟨by omega,by omega⟩,_,_,rfl,rfl,_,rfl,_,_,rfl,rfl,(by show 0<w; omega),j5,⟨_,rfl⟩,⟨ns++[(y4+(1+st)*(0+(i:Int))) % w],by simp,by simp [e],fun z hz=>?_⟩,jBX⟩
    rcases aL.mp hz with hz | hz
    ·exact hb z hz
    ·have:z=(y4+(1+st)*(0+(i:Int))) % w:=by simpa using hz
     rw[this]
     exact⟨Int.emod_nonneg _ (by omega),jf _ (by omega)⟩
   ·rintro D σ' H' ys hD ⟨_,⟨ns,rfl,e,hb⟩,rfl⟩
    refine⟨D,ns,rfl,SqL.of j5,by omega,fun z hz=>⟨(hb z hz).1,by have:=(hb z hz).2; omega⟩,fun l1 ks h11 hm1=>?_⟩
    refine⟨l1,ks,rfl,j5,fun l2 ms h12 srt hm2=>?_⟩
    refine⟨l2,_,rfl, .inl ⟨SqL.of j5,fun qq hqq=>?_⟩⟩
    have pD:p≠D:=jA hp4 hD
    have p1:p≠l1:=jA hp4 (y9 h11).2
    have p2:p≠l2:=jA hp4 (y9 (y9 h12).2).2
    have pq:p≠qq:=jA hp4 (y9 (y9 (y9 hqq).2).2).2
    refine q qq N4 ms _ g1 ⟨srt,fun z hz=>hb z ((hm1 z).mp ((hm2 z).mp hz)),fun z=>?_⟩ j5 (by rw[j9 pq,j9 p2,j9 p1,j9 pD]; exact hp4) ((((kp.new hD _).new h11 _).new h12 _).new hqq _)
    subst z
    cases ns with
    | nil=>simp at e; omega
    | cons x r=>
     have:=(hm2 x).mpr ((hm1 x).mpr aE)
     cases this
end
structure Ris (w:Int)(ts:List Int):Prop where
 ris:ts.Pairwise (· < ·)
 bnd:∀ z∈ts,0<=z/\z<w
theorem Ris.nil (w:Int):Ris w []:=⟨.nil,fun z hz=>by cases hz⟩
theorem Ris.take {w:Int}{ts:List Int}(h:Ris w ts)(k:Nat):Ris w (ts.take k):=⟨h.ris.sublist (dw _ _),fun z hz=>h.bnd z (bP hz)⟩
theorem Ris.drop {w:Int}{ts:List Int}(h:Ris w ts)(k:Nat):Ris w (ts.drop k):=⟨h.ris.sublist (gY _ _),fun z hz=>h.bnd z (cG hz)⟩
theorem Ris.snoc {i:Nat}{ts:List Int}(h:Ris i ts):Ris (i+1:Nat) (ts++[(i:Int)]):=by
 refine⟨bW.mpr ⟨h.ris,fJ _ _,fun a ha b hb=>?_⟩,fun z hz=>?_⟩
 ·have:=(h.bnd a ha).2
  have e:b=i:=by simpa using hb
  omega
 ·rcases aL.mp hz with q | q
  ·have:=h.bnd z q
   omega
  ·have e:z=i:=by simpa using q
   omega
theorem Ris.step {i:Nat}{ts:List Int}(h:Ris i ts):Ris (i+1:Nat) ts:=⟨h.ris,fun z hz=>by have:=h.bnd z hz; omega⟩
def upto (n:Nat):List Int:=(List.range n).map fun (i:Nat)=>(i:Int)
theorem jN4 (n:Nat):jEA n=(upto n).map V.int:=by
 unfold jEA upto
 rw[bI]
 rfl
theorem yF (n:Nat):Ris n (upto n):=by
 refine⟨?_,fun z hz=>?_⟩
 ·unfold upto
  rw[bz]
  exact iG.imp fun h=>by omega
 ·unfold upto at hz
  obtain⟨t,ht,rfl⟩:=aP.mp hz
  have:=bM.mp ht
  omega
def Tups (H H':Hp):Prop:=∀ b xs,H b=some (.tup xs)->H' b=some (.tup xs)
theorem Tups.trans {H H1 H2:Hp}(a:Tups H H1)(b:Tups H1 H2):Tups H H2:=fun c o h=>b c o (a c o h)
theorem Keep.tups {H H':Hp}{p:Addr}{xs:List V}(k:Keep H H' p)(hp:H p=some (.lst xs)):Tups H H':=fun b ys hb=>k b _ hb fun e=>by
 subst e
 rw[hb] at hp
 cases hp
theorem Tups.upd {H:Hp}{p:Addr}{xs:List V}(hp:H p=some (.lst xs))(o:HO):Tups H (upd H p o):=fun b ys hb=>by
 rw[j9 (fun e=>by subst e; rw[hb] at hp; cases hp)]
 exact hb
theorem Tups.new {H:Hp}{p:Addr}(hp:H p=none)(o:HO):Tups H (L2.upd H p o):=fun b ys hb=>by
 rw[j9 (jA hb hp)]
 exact hb
def PcAt (H:Hp)(v:V)(pc:List Int×Int):Prop:=∃ a q,v= .ref a/\H a=some (.tup [.ref q, .int pc.2])/\H q=some (.tup (pc.1.map V.int))
def PcsAt (H:Hp):List V->List (List Int×Int)->Prop
 | [],[]=>True
 | v::vs,p::ps=>PcAt H v p/\PcsAt H vs ps
 | _,_=>False
theorem PcAt.mono {H H':Hp}{v:V}{pc:List Int×Int}(h:PcAt H v pc)(t:Tups H H'):PcAt H' v pc:=by
 obtain⟨a,q,rfl,h1,h2⟩:=h
 exact⟨a,q,rfl,t _ _ h1,t _ _ h2⟩
theorem PcsAt.mono {H H':Hp}(t:Tups H H'):∀ {vs:List V}{ps:List (List Int×Int)},PcsAt H vs ps->PcsAt H' vs ps
 | [],[],_=>trivial
 | _::_,_::_,h=>⟨h.1.mono t,PcsAt.mono t h.2⟩
 | [],_::_,h=>h.elim
 | _::_,[],h=>h.elim
theorem PcsAt.len {H:Hp} :∀ {vs:List V}{ps:List (List Int×Int)},PcsAt H vs ps->vs.length=ps.length
 | [],[],_=>rfl
 | _::_,_::_,h=>bN (· +1) (PcsAt.len h.2)
 | [],_::_,h=>h.elim
 | _::_,[],h=>h.elim
theorem PcsAt.put {H:Hp}{v:V}{p:List Int×Int}(hv:PcAt H v p):∀ (k:Nat) {vs:List V}{ps:List (List Int×Int)},PcsAt H vs ps->PcsAt H (vs.take k++v::vs.drop k) (ps.take k++p::ps.drop k)
 | 0,_,_,h=>⟨hv,h⟩
 | _+1,[],[],_=>⟨hv,trivial⟩
 | k+1,_::_,_::_,h=>⟨h.1,PcsAt.put hv k h.2⟩
 | _+1,[],_::_,h=>h.elim
 | _+1,_::_,[],h=>h.elim
structure GoodPc (w:Int)(pc:List Int×Int):Prop where
 lot:Lot w pc.1
 lo: -1000000000000<=pc.2
 hi:pc.2<=1000000000000
structure BoxAt (H:Hp)(b:Addr)(w:Int)(mays:List Int)(pcs:List (List Int×Int)):Prop where
 ex:∃ qm qp vs,H b=some (.tup [.int w, .ref qm, .ref qp])/\H qm=some (.tup (mays.map V.int))/\H qp=some (.tup vs)/\PcsAt H vs pcs
theorem BoxAt.mono {H H':Hp}{b:Addr}{w:Int}{mays:List Int}{pcs:List (List Int×Int)}(h:BoxAt H b w mays pcs)(t:Tups H H'):BoxAt H' b w mays pcs:=by
 obtain⟨qm,qp,vs,h1,h2,h3,h4⟩:=h.ex
 exact⟨qm,qp,vs,t _ _ h1,t _ _ h2,t _ _ h3,h4.mono t⟩
structure Good (mt mp:Int)(w:Int)(mays:List Int)(pcs:List (List Int×Int)):Prop where
 w0:0<=w
 w1:w<=mt
 mr:Ris w mays
 pl:(pcs.length:Int)<=mp
 pg:∀ pc∈pcs,GoodPc w pc
theorem Keep.updNew {H H1:Hp}{p l:Addr}(a:Keep H H1 p)(hl:H l=none)(o:HO):Keep H (L2.upd H1 l o) p:=fun c u h n=>by
 rw[j9 (jA h hl)]
 exact a c u h n
section
variable {P:Program}{w:World}{K:W.Frag}{mg:Str->Option Value}{base:Heap}
def spBox:Sp:=fun vs H Q _=>∃ (p:Addr) (N mt mp:Int),vs=[.ref p, .int mt, .int mp]/\H p=some (.lst [.int N])/\0<=N/\0<=mt/\mt<=16/\0<=mp/\mp<=32/\
 ∀ (b:Addr) (N' w:Int) (mays:List Int) (pcs:List (List Int×Int)) (H':Hp),0<=N'->H' p=some (.lst [.int N'])->BoxAt H' b w mays pcs->Good mt mp w mays pcs->Keep H H' p->Q (.ref b) H'
abbrev nBox:List Str:=["pot","most_things","most_pieces","wide","mays","left","far","pieces","k","size","things"]
theorem scBox:FnScope nBox ["pot","most_things","most_pieces"] (j6 sBox):=⟨rfl,rfl,rfl,by decide+kernel,rfl,by decide+kernel,by decide+kernel⟩
end
section
variable {P:Program}{w:World}{K:W.Frag}{mg:Str->Option Value}{base:Heap}
abbrev XBox (P:Program)(w:World)(K:W.Frag)(mg:Str->Option Value)(base:Heap)(f:Addr)(cdv:Value)(A:Around)(outer:List Env)(s:Shared)(H:Hp)(E:XK):Cx:=(cxOf CX0 P w K mg base nBox "_law_box" (j6 sBox) f cdv A outer s H E).nox
def jCH:Stmt->List Stmt
 | .For _ _ b _ _=>b
 | _=> []
def boxI {f fT fL:Addr}{fdT fdL:FuncData}{cdv:Value}{A:Around}{outer:List Env}{s:Shared}{H:Hp}{E:XK}(T:Txt mg)(CT:Can P w K mg base "_law_take" 1 fT fdT ["pot","wide"] yB)(CL:Can P w K mg base "_law_lot" 2 fL fdL ["pot","wide"] qK)(hr:Room 2 (XBox P w K mg base f cdv A outer s H E).A): { t:TS // JSs (XBox P w K mg base f cdv A outer s H E) ((jCH ((jB sBox).getD 7 (.Pass ⟨0,0,0,0⟩))).drop 4) t} :=
 have nd:=scBox.nd
 ⟨_,(jD (jC0 (je_bm bV PySem.F.slot_list_insert PySem.F.type_list_insert jMC (jv 7 rfl vL) (j3 (CT.je (hr.mono (by decide)) gD (j3 (jv 0 rfl vC) (j3 (kU y0 (jH kB gD T.len (by decide+kernel) (j3 (jv 7 rfl vL) j8 j4) j4) (je_int)) j8 yJ) j4) j4) (j3 (jJN (j3 (jv 10 rfl vL) (j3 (kU jDW (CT.je (hr.mono (by decide)) gD (j3 (jv 0 rfl vC) (j3 (jv 6 rfl vL) j8 j4) j4) j4) (kU jJ8 (jv 6 rfl vL) (je_int))) j8 yJ) j4)) j8 jD7) jF) jF) jZ))⟩
def boxL {f fT fL:Addr}{fdT fdL:FuncData}{cdv:Value}{A:Around}{outer:List Env}{s:Shared}{H:Hp}{E:XK}(T:Txt mg)(CT:Can P w K mg base "_law_take" 1 fT fdT ["pot","wide"] yB)(CL:Can P w K mg base "_law_lot" 2 fL fdL ["pot","wide"] qK)(hr:Room 2 (XBox P w K mg base f cdv A outer s H E).A): { t:TS // JSs (XBox P w K mg base f cdv A outer s H E) (jCH ((jB sBox).getD 7 (.Pass ⟨0,0,0,0⟩))) t} :=
 have nd:=scBox.nd
 ⟨_,(jC (jQ (i:=9) nd rfl lL (kU y0 (je_int) (CT.je (hr.mono (by decide)) gD (j3 (jv 0 rfl vC) (j3 (je_int) j8 jR) j4) j4)) jIU)
   (jC (jQ (i:=10) nd rfl lL (kE jM gD T.tuple (by decide+kernel) (j3 (jJO jLH (jv 5 rfl vL) jMT (jMS (jv 9 rfl vL))) j8 kD) kD) jZ)
   (jC (jQ (i:=5) nd rfl lL (jJO jLH (jv 5 rfl vL) (jMS (jv 9 rfl vL)) jMT) jIS)
   (jC (yC (jT (jU3 hr.units0) (jv 10 rfl vL) (jJN j8) (jV _)) (jD (jQ (i:=10) nd rfl lL (CL.je hr gD (j3 (jv 0 rfl vC) (j3 (jv 3 rfl vL) j8 j4) j4) j4) jZ)) kI)
   (boxI T CT CL hr).2))))⟩
def boxC {f fT fL:Addr}{fdT fdL:FuncData}{cdv:Value}{A:Around}{outer:List Env}{s:Shared}{H:Hp}{E:XK}(T:Txt mg)(CT:Can P w K mg base "_law_take" 1 fT fdT ["pot","wide"] yB)(CL:Can P w K mg base "_law_lot" 2 fL fdL ["pot","wide"] qK)(hr:Room 2 (XBox P w K mg base f cdv A outer s H E).A): { t:TS // JSs (XBox P w K mg base f cdv A outer s H E) ((jB sBox).drop 5) t} :=
 have nd:=scBox.nd
 ⟨_,(jC (jQ (i:=6) nd rfl lL (jL jC1 (jMW (j3 (je_int) (j3 (je_int) (j3 (jUS) j8 yJ) jR) jR)) (CT.je (hr.mono (by decide)) gD (j3 (jv 0 rfl vC) (j3 (je_int) j8 jR) j4) j4) jR5) jIS)
   (jC (jQ (i:=7) nd rfl lL (jMW j8) jD5)
   (jC (jBU cf rfl (jAU gD T.range (j3 (kU jDA (CT.je (hr.mono (by decide)) gD (j3 (jv 0 rfl vC) (j3 (kU y0 (jv 2 rfl vL) (je_int)) j8 yJ) j4) j4) (kE jNS gD T.int (by decide+kernel) (j3 (yX op_gt (jv 3 rfl vL) (je_int) (jV _)) j8 jQ1) jQ1)) j8 yJ) yJ) (jJ (i:=8) nd rfl lL) (boxL T CT CL hr).2 kZ)
   (jD (jW (jJN (j3 (jv 3 rfl vL) (j3 (jv 4 rfl vL) (j3 (kE jM gD T.tuple (by decide+kernel) (j3 (jv 7 rfl vL) j8 j4) j4) j8 jF) j4) j4)))))))⟩
def boxB {f fT fL:Addr}{fdT fdL:FuncData}{cdv:Value}{A:Around}{outer:List Env}{s:Shared}{H:Hp}{E:XK}(T:Txt mg)(CT:Can P w K mg base "_law_take" 1 fT fdT ["pot","wide"] yB)(CL:Can P w K mg base "_law_lot" 2 fL fdL ["pot","wide"] qK)(hr:Room 2 (XBox P w K mg base f cdv A outer s H E).A): { t:TS // JSs (XBox P w K mg base f cdv A outer s H E) ((jB sBox).drop 3) t} :=
 have nd:=scBox.nd
 ⟨_,(jC (jQ (i:=5) nd rfl lL (kE (jH9 rfl) gD T.list (by decide+kernel) (j3 (kE jIK gD T.range (by decide+kernel) (j3 (jv 3 rfl vL) j8 j4) j4) j8 jF) jF) jZ)
   (jC (yC (jT qO (CT.je (hr.mono (by decide)) gD (j3 (jv 0 rfl vC) (j3 (je_int) j8 jR) j4) j4) (je_int) (jV _)) (jD (jQ (i:=5) nd rfl lL (jMW j8) jD5)) kI)
   (boxC T CT CL hr).2))⟩
def boxA {f fT fL:Addr}{fdT fdL:FuncData}{cdv:Value}{A:Around}{outer:List Env}{s:Shared}{H:Hp}{E:XK}(T:Txt mg)(CT:Can P w K mg base "_law_take" 1 fT fdT ["pot","wide"] yB)(CL:Can P w K mg base "_law_lot" 2 fL fdL ["pot","wide"] qK)(hr:Room 2 (XBox P w K mg base f cdv A outer s H E).A): { t:TS // JSs (XBox P w K mg base f cdv A outer s H E) (jB sBox) t} :=
 have nd:=scBox.nd
 ⟨_,(jC (jQ (i:=3) nd rfl lL (CT.je (hr.mono (by decide)) gD (j3 (jv 0 rfl vC) (j3 (kU y0 (jv 1 rfl vL) (je_int)) j8 yJ) j4) j4) jZ)
   (jC (jQ (i:=4) nd rfl lL (jJN j8) jPY)
   (jC (yC (jT qO (CT.je (hr.mono (by decide)) gD (j3 (jv 0 rfl vC) (j3 (je_int) j8 jR) j4) j4) (je_int) (jV _)) (jD (jQ (i:=4) nd rfl lL (kE jM gD T.tuple (by decide+kernel) (j3 (kR (m:=[none,some 0]) (Nc:=["t","pot"]) rfl (jAU gD T.range (j3 (jv 3 rfl vL) j8 j4) j4) rfl (by decide+kernel) (by decide+kernel) (jS (psc:=j6 sBox) (by decide+kernel)) (jI (N:=nBox) rfl rfl (by decide+kernel)) (fun cl C fp s H=>jJ (i:=0) (show (["t","pot"]:List Str).Nodup by decide+kernel) rfl (yM (by decide+kernel))) (fun cl C fp s H=>jD0 (jT qO (CT.je (hr.mono (by decide)) (gl_b (by decide+kernel)) (j3 (jv 1 rfl (kW (by decide+kernel))) (j3 (je_int) j8 jR) j4) j4) (je_int) (jV _))) (fun cl C fp s H=>(jv 0 rfl (jX (by decide+kernel)))) kZ) j8 jK) jK) jZ)) kI)
   (boxB T CT CL hr).2)))⟩
end
structure St0 (H H2:Hp)(p:Addr)(w:Int)(qm ql:Addr)(mays lf:List Int)(N:Int):Prop where
 hp:H2 p=some (.lst [.int N])
 hN:0<=N
 hm:H2 qm=some (.tup (mays.map V.int))
 rm:Ris w mays
 hl:H2 ql=some (.lst (lf.map V.int))
 rl:Ris w lf
 ne:ql≠p
 kp:Keep H H2 p
theorem St0.step {H H2 H3:Hp}{p:Addr}{w:Int}{qm ql:Addr}{mays lf:List Int}{N N':Int}(S:St0 H H2 p w qm ql mays lf N)(k:Keep H2 H3 p)(hp:H3 p=some (.lst [.int N']))(hN:0<=N'):St0 H H3 p w qm ql mays lf N':=
 ⟨hp,hN,k qm _ S.hm (ne_of S.hm S.hp (by intro z; cases z)),S.rm,k ql _ S.hl S.ne,S.rl,S.ne,S.kp.trans k⟩
theorem jNK {w:Int}{lf:List Int}(h:Ris w lf)(lo hi:Option Int):∃ l',cutV (lf.map V.int) lo hi=l'.map V.int/\Ris w l':=by
 refine⟨(lf.drop (HT.sIx lf.length 0 lo)).take (HT.sIx lf.length lf.length hi - HT.sIx lf.length 0 lo),?_,(h.drop _).take _⟩
 unfold cutV
 rw[ae,i7,List.map_drop]
section
variable {P:Program}{w:World}{K:W.Frag}{mg:Str->Option Value}{base:Heap}
variable {f fT fL:Addr}{fdT fdL:FuncData}{cdv:Value}{A:Around}{outer:List Env}{s:Shared}{H0:Hp}{E:XK}
theorem jHA (T:Txt mg)(CT:Can P w K mg base "_law_take" 1 fT fdT ["pot","wide"] yB)(CL:Can P w K mg base "_law_lot" 2 fL fdL ["pot","wide"] qK)(hr:Room 2 (XBox P w K mg base f cdv A outer s H0 E).A)
  {D:Ends}{H H5:Hp}{p qm ql qp qt:Addr}{mt mp w N far:Int}{mays lf ts:List Int}{vs:List V}{pcs:List (List Int×Int)}{v8 v9:Option V}
  (S:St0 H H5 p w qm ql mays lf N) (hqp:H5 qp=some (.lst vs)) (hv:PcsAt H5 vs pcs) (hg:∀ pc∈pcs,GoodPc w pc) (hqt:H5 qt=some (.tup (ts.map V.int))) (lt:Lot w ts) (hf:far=1\/far=10\/far=2000000000001) (hn:pcs.length<=100) (hH:H qp=none) (hne:ql≠qp) (hpp:p≠qp)
  (nx:∀ H6 N' vs' pcs',St0 H H6 p w qm ql mays lf N'->H6 qp=some (.lst vs')->PcsAt H6 vs' pcs'->(∀ pc∈pcs',GoodPc w pc)->pcs'.length=pcs.length+1->D.nx [some (.ref p),some (.int mt),some (.int mp),some (.int w),some (.ref qm),some (.ref ql),some (.int far),some (.ref qp),v8,v9,some (.ref qt)] H6):
  (boxI T CT CL hr).1 D [some (.ref p),some (.int mt),some (.int mp),some (.int w),some (.ref qm),some (.ref ql),some (.int far),some (.ref qp),v8,v9,some (.ref qt)] H5:=by
 have hlen:=hv.len
 have h64:(0:Int)<far/\far<2 ^ 64:=by rcases hf with e | e | e <;> subst e <;> decide
 refine⟨_,rfl, .inl ⟨rfl,_,SqL.of hqp⟩,_,rfl,_,rfl,qp,vs,rfl, .inl (SqL.of hqp),_,_,rfl,rfl,p,N,_,rfl,S.hp,S.hN,by omega,by omega,fun N1 i a1 a2 a3=>?_⟩
 refine⟨_,rfl,_,rfl,_,rfl,p,N1,far,rfl,j5,a1,h64.1,h64.2,fun N2 r b1 b2 b3=>?_⟩
 rw[jBX]
 refine⟨_,rfl,_,_,rfl,rfl,⟨by decide,by decide⟩,_,_,rfl,rfl,(by show 2<=sizeLine; decide),fun tq htq=>?_⟩
 obtain⟨t1,t2⟩:=y9 htq
 have ht:tq≠qp:=fun e=>by subst e; rw[hqp] at t2; cases t2
 refine⟨qp,vs,i,_,rfl,rfl,by rw[j9 ht.symm,j9 hpp.symm]; exact hqp,a2,by omega,by rw[ay]; omega,?_⟩
 have T1:Tups H5 (upd (upd H5 p (.lst [.int N2])) tq (.tup [.ref qt, .int (r - far / 2)])):=(Tups.upd S.hp _).trans (Tups.new htq _)
 have k1:Keep H5 (upd (upd H5 p (.lst [.int N2])) tq (.tup [.ref qt, .int (r - far / 2)])) p:=((Keep.refl _ _).upd _).new htq _
 have S1:=S.step k1 (by rw[j9 t1.symm]; exact j5) b1
 have hq1:(upd (upd H5 p (.lst [.int N2])) tq (.tup [.ref qt, .int (r - far / 2)])) qp=some (.lst vs):=by rw[j9 ht.symm,j9 hpp.symm]; exact hqp
 have T2:=T1.trans (Tups.upd hq1 (.lst (vs.take i.toNat++V.ref tq::vs.drop i.toNat)))
 have pc:PcAt (upd (upd H5 p (.lst [.int N2])) tq (.tup [.ref qt, .int (r - far / 2)])) (.ref tq) (ts,r - far / 2):=⟨tq,qt,rfl,j5,T1 _ _ hqt⟩
 refine nx _ N2 _ (pcs.take i.toNat++(ts,r - far / 2)::pcs.drop i.toNat) ⟨?_,b1,?_,S.rm,?_,S.rl,S.ne,S1.kp.updNew hH _⟩ j5 ?_ ?_ ?_
 ·rw[j9 hpp]; exact S1.hp
 ·exact(Tups.upd hq1 _) _ _ S1.hm
 ·rw[j9 hne]; exact S1.hl
 ·exact PcsAt.put (pc.mono (Tups.upd hq1 _)) _ (hv.mono T2)
 ·intro c hc
  rcases aL.mp hc with h | h
  ·exact hg c (bP h)
  ·rcases aG.mp h with h | h
   ·subst h
    refine⟨lt,?_,?_⟩
    ·show -1000000000000<=r - far / 2
     rcases hf with e | e | e <;> subst e <;> omega
    ·show r - far / 2<=1000000000000
     rcases hf with e | e | e <;> subst e <;> omega
   ·exact hg c (cG h)
 ·rw[aB,aR,bA,gf]
  omega
end
section
variable {P:Program}{w:World}{K:W.Frag}{mg:Str->Option Value}{base:Heap}
variable {f fT fL:Addr}{fdT fdL:FuncData}{cdv:Value}{A:Around}{outer:List Env}{s:Shared}{H0:Hp}{E:XK}
theorem jNT (T:Txt mg)(CT:Can P w K mg base "_law_take" 1 fT fdT ["pot","wide"] yB)(CL:Can P w K mg base "_law_lot" 2 fL fdL ["pot","wide"] qK)(hr:Room 2 (XBox P w K mg base f cdv A outer s H0 E).A)
  {D:Ends}{H H5:Hp}{p qm ql qp:Addr}{mt mp w N far:Int}{mays lf:List Int}{vs:List V}{pcs:List (List Int×Int)}{v8 v9 v10:Option V}
  (S:St0 H H5 p w qm ql mays lf N) (hqp:H5 qp=some (.lst vs)) (hv:PcsAt H5 vs pcs) (hg:∀ pc∈pcs,GoodPc w pc) (hf:far=1\/far=10\/far=2000000000001) (hn:pcs.length<=100) (hH:H qp=none) (hpp:p≠qp) (w1:1<=w) (w2:w<=16)
  (nx:∀ H6 N' vs' pcs' ql' lf' v9' v10',St0 H H6 p w qm ql' mays lf' N'->ql'≠qp->H6 qp=some (.lst vs')->PcsAt H6 vs' pcs'->(∀ pc∈pcs',GoodPc w pc)->pcs'.length=pcs.length+1->D.nx [some (.ref p),some (.int mt),some (.int mp),some (.int w),some (.ref qm),some (.ref ql'),some (.int far),some (.ref qp),v8,v9',v10'] H6):
  (boxL T CT CL hr).1 D [some (.ref p),some (.int mt),some (.int mp),some (.int w),some (.ref qm),some (.ref ql),some (.int far),some (.ref qp),v8,v9,v10] H5:=by
 refine⟨_,rfl,p,N,3,rfl,S.hp,S.hN,by decide,by decide,fun N1 r1 a1 a2 a3=>⟨_,_,rfl,rfl,?_⟩⟩
 have S1:=S.step ((Keep.refl _ _).upd (.lst [.int N1])) j5 a1
 have hq1:(upd H5 p (.lst [.int N1])) qp=some (.lst vs):=by rw[j9 hpp.symm]; exact hqp
 have hv1:=hv.mono (Tups.upd S.hp (.lst [.int N1]))
 generalize upd H5 p (.lst [.int N1])=H6 at S1 hq1 hv1 ⊢
 clear S hqp hv
 obtain⟨l1,e1,g1⟩:=jNK S1.rl none (some (1+r1))
 obtain⟨l2,e2,g2⟩:=jNK S1.rl (some (1+r1)) none
 refine⟨_,rfl,_,rfl,1+r1,rfl,ql,_,rfl,SqL.of S1.hl,fun x hx=>⟨x,_,rfl, .inl ⟨SqL.of j5,fun qt hqt=>?_⟩⟩⟩
 rw[e1] at hqt ⊢
 have k1:Keep H6 (upd (upd H6 x (.lst (l1.map V.int))) qt (.tup (l1.map V.int))) p:=((Keep.refl _ _).new hx _).new hqt _
 obtain⟨t1,t2⟩:=y9 hqt
 have px:p≠x:=jA S1.hp hx
 have pt:p≠qt:=jA S1.hp t2
 have qx:qp≠x:=jA hq1 hx
 have qq:qp≠qt:=jA hq1 t2
 have S2:=S1.step k1 (by rw[j9 pt,j9 px]; exact S1.hp) S1.hN
 have hq2:(upd (upd H6 x (.lst (l1.map V.int))) qt (.tup (l1.map V.int))) qp=some (.lst vs):=by rw[j9 qq,j9 qx]; exact hq1
 have hv2:=hv1.mono (k1.tups S1.hp)
 have ht2:(upd (upd H6 x (.lst (l1.map V.int))) qt (.tup (l1.map V.int))) qt=some (.tup (l1.map V.int)):=j5
 generalize upd (upd H6 x (.lst (l1.map V.int))) qt (.tup (l1.map V.int))=H7 at S2 hq2 hv2 ht2 ⊢
 clear k1 hqt t2 hx S1 hq1 hv1
 refine⟨_,rfl,_,rfl,1+r1,rfl,ql,_,rfl,SqL.of S2.hl,fun ql' hql=>?_⟩
 rw[e2]
 have pl:p≠ql':=jA S2.hp hql
 have k2:Keep H7 (upd H7 ql' (.lst (l2.map V.int))) p:=(Keep.refl _ _).new hql _
 have S3':=S2.step k2 (by rw[j9 pl]; exact S2.hp) S2.hN
 have S3:St0 H (upd H7 ql' (.lst (l2.map V.int))) p w qm ql' mays l2 N1:=⟨S3'.hp,S3'.hN,S3'.hm,S3'.rm,j5,g2,pl.symm,S3'.kp⟩
 have hne:qp≠ql':=jA hq2 hql
 have hq3:(upd H7 ql' (.lst (l2.map V.int))) qp=some (.lst vs):=by rw[j9 hne]; exact hq2
 have hv3:=hv2.mono (k2.tups S2.hp)
 have ht3:=k2.tups S2.hp _ _ ht2
 generalize upd H7 ql' (.lst (l2.map V.int))=H8 at S3 hq3 hv3 ht3 ⊢
 clear k2 S3' S2 hq2 hv2 ht2 hql
 refine⟨_,rfl,(by show 0<=sizeLine; exact br _),fun z hz=>⟨qt,z,l1.map V.int,rfl,rfl,SqT.of ?_,SqT.of j5,_,rfl,?_⟩⟩
 ·rw[j9 (jA ht3 hz)]; exact ht3
 have pz:p≠z:=jA S3.hp hz
 have qz:qp≠z:=jA hq3 hz
 have k3:Keep H8 (upd H8 z (.tup [])) p:=(Keep.refl _ _).new hz _
 have S4:=S3.step k3 (by rw[j9 pz]; exact S3.hp) S3.hN
 have hq4:(upd H8 z (.tup [])) qp=some (.lst vs):=by rw[j9 qz]; exact hq3
 have hv4:=hv3.mono (k3.tups S3.hp)
 have ht4:=k3.tups S3.hp _ _ ht3
 generalize upd H8 z (.tup [])=H9 at S4 hq4 hv4 ht4 ⊢
 clear k3 S3 hq3 hv3 ht3 hz pz qz
 refine ite2 (fun hy=>?_) (fun hy=>?_)
 ·refine⟨_,rfl,_,rfl,p,N1,w,rfl,S4.hp,S4.hN,w1,w2,fun q N2 ts H' b1 lt b2 b3 b4=>?_⟩
  exact jHA T CT CL hr (S4.step b4 b3 b1) (b4 _ _ hq4 hpp.symm) (hv4.mono (b4.tups S4.hp)) hg b2 lt hf hn hH hne.symm hpp fun H6 N' vs' pcs' z1 z2 z3 z4 z5=>nx H6 N' vs' pcs' ql' l2 _ _ z1 hne.symm z2 z3 z4 z5
 ·have nl:l1≠ []:=fun e=>hy (ar (by rw[e]; rfl))
  exact jHA T CT CL hr S4 hq4 hv4 hg ht4 ⟨g1.ris,g1.bnd,nl⟩ hf hn hH hne.symm hpp fun H6 N' vs' pcs' z1 z2 z3 z4 z5=>nx H6 N' vs' pcs' ql' l2 _ _ z1 hne.symm z2 z3 z4 z5
end
section
variable {P:Program}{w:World}{K:W.Frag}{mg:Str->Option Value}{base:Heap}
variable {f fT fL:Addr}{fdT fdL:FuncData}{cdv:Value}{A:Around}{outer:List Env}{s:Shared}{H0:Hp}{E:XK}
def Told (H:Hp)(p:Addr)(mt mp:Int)(R:VK):Prop:=∀ (b:Addr) (N' w:Int) (mays:List Int) (pcs:List (List Int×Int)) (H':Hp),0<=N'->H' p=some (.lst [.int N'])->BoxAt H' b w mays pcs->Good mt mp w mays pcs->Keep H H' p->R (.ref b) H'
theorem jHB (T:Txt mg)(CT:Can P w K mg base "_law_take" 1 fT fdT ["pot","wide"] yB)(CL:Can P w K mg base "_law_lot" 2 fL fdL ["pot","wide"] qK)(hr:Room 2 (XBox P w K mg base f cdv A outer s H0 E).A)
  {D:Ends}{H H5:Hp}{p qm ql:Addr}{mt mp w N:Int}{mays lf:List Int}{v6 v7 v8 v9 v10:Option V}
  (S:St0 H H5 p w qm ql mays lf N) (hpH:∃ o,H p=some o) (w0:0<=w) (w1:w<=mt) (w2:mt<=16) (n0:0<=mp) (n1:mp<=32) (q:Told H p mt mp D.rt):
  (boxC T CT CL hr).1 D [some (.ref p),some (.int mt),some (.int mp),some (.int w),some (.ref qm),some (.ref ql),v6,v7,v8,v9,v10] H5:=by
 refine⟨(by show 3<=sizeLine; decide),fun l hl=>?_⟩
 have pl:p≠l:=jA S.hp hl
 refine⟨_,rfl,p,N,3,rfl,by rw[j9 pl]; exact S.hp,S.hN,by decide,by decide,fun N1 r a1 a2 a3=>?_⟩
 obtain⟨far,hfar,hf⟩:∃ far:Int,atI [V.int 1,V.int 10,V.int 2000000000001] r=some (.int far)/\(far=1\/far=10\/far=2000000000001):=by
  rcases (show r=0\/r=1\/r=2 by omega) with e | e | e
  ·subst e; exact⟨_,rfl, .inl rfl⟩
  ·subst e; exact⟨_,rfl, .inr (.inl rfl)⟩
  ·subst e; exact⟨_,rfl, .inr (.inr rfl)⟩
 refine⟨l,_,r,_,rfl,rfl,SqL.of (by rw[j9 pl.symm]; exact j5),hfar,?_⟩
 have S1:=S.step ((((Keep.refl _ _).new hl (.lst [V.int 1,V.int 10,V.int 2000000000001])).upd (.lst [.int N1]))) j5 a1
 generalize upd (upd H5 l (.lst [V.int 1,V.int 10,V.int 2000000000001])) p (.lst [.int N1])=H6 at S1 ⊢
 clear hl S
 refine⟨(by show 0<=sizeLine; exact br _),fun qp hqp=>?_⟩
 have pq:p≠qp:=jA S1.hp hqp
 have hHq:H qp=none:=by
  cases e:H qp with
  | none=>rfl
  | some o=>
   have:=S1.kp _ _ e pq.symm
   rw[hqp] at this
   cases this
 have lq:ql≠qp:=jA S1.hl hqp
 have S2:=S1.step ((Keep.refl _ _).new hqp (.lst [])) (by rw[j9 pq]; exact S1.hp) S1.hN
 have hq2:(upd H6 qp (.lst [])) qp=some (.lst []):=j5
 generalize upd H6 qp (.lst [])=H7 at S2 hq2 ⊢
 clear hqp S1
 refine⟨_,rfl,_,rfl,_,_,rfl,rfl,p,N1,_,rfl,S2.hp,S2.hN,by omega,by omega,fun N2 n b1 b2 b3=>?_⟩
 refine⟨_,rfl,_,_,rfl,rfl, .inr ⟨_,rfl,_,_,rfl,rfl, .inl ⟨by omega,by omega⟩,_,rfl,?_⟩⟩
 have S3:=S2.step ((Keep.refl _ _).upd (.lst [.int N2])) j5 b1
 have hq3:(upd H7 p (.lst [.int N2])) qp=some (.lst []):=by rw[j9 pq.symm]; exact hq2
 generalize upd H7 p (.lst [.int N2])=H8 at S3 hq3 ⊢
 clear S2 hq2
 obtain⟨m,em,hm,hw⟩:∃ m:Int,n*(if decide (0<w)=true then 1 else 0)=m/\(0<=m/\m<=mp)/\(0<m->1<=w):=by
  by_cases h:0<w
  ·exact⟨n,by simp [h],⟨b2,by omega⟩,fun _=>h⟩
  ·exact⟨0,by simp [h],⟨by omega,n0⟩,fun z=>by omega⟩
 show _/\_/\_
 rw[show (n*(if decide (0<w)=true then 1 else 0))=m from em]
 refine⟨by omega,by omega,jBA (n:=m.toNat) (fun i σ H5=>∃ ql' lf' N' vs pcs v8 v9 v10,σ=[some (.ref p),some (.int mt),some (.int mp),some (.int w),some (.ref qm),some (.ref ql'),some (.int far),some (.ref qp),v8,v9,v10]/\St0 H H5 p w qm ql' mays lf' N'/\ql'≠qp/\H5 qp=some (.lst vs)/\PcsAt H5 vs pcs/\(∀ pc∈pcs,GoodPc w pc)/\pcs.length=i) ?_ ?_ ?_⟩
 ·exact⟨ql,lf,N2,[],[],_,_,_,rfl,S3,lq,hq3,trivial,(fun _ h=>by cases h),rfl⟩
 ·rintro i σ H9 hi ⟨ql',lf',N',vs,pcs,x8,x9,x10,rfl,S4,l4,hq4,hv4,hg4,e4⟩
  exact jNT T CT CL hr S4 hq4 hv4 hg4 hf (by omega) hHq pq (hw (by omega)) (by omega) fun H6 N' vs' pcs' ql' lf' v9' v10' z1 z2 z3 z4 z5 z6=>⟨ql',lf',N',vs',pcs',_,_,_,rfl,z1,z2,z3,z4,z5,by omega⟩
 ·rintro σ H9 ⟨ql',lf',N',vs,pcs,x8,x9,x10,rfl,S4,l4,hq4,hv4,hg4,e4⟩
  refine⟨_,rfl,_,rfl,_,rfl,qp,vs,rfl, .inl ⟨SqL.of hq4,fun tq htq=>⟨(by show 3<=sizeLine; decide),fun b hb=>?_⟩⟩⟩
  have k1:Keep H9 (upd H9 tq (.tup vs)) p:=(Keep.refl _ _).new htq _
  have k2:Keep H9 (upd (upd H9 tq (.tup vs)) b (.tup [.int w, .ref qm, .ref tq])) p:=k1.new hb _
  have tb:=jA j5 hb
  have S5:=S4.step k2 (by rw[j9 (y9 hb |>.2 |> fun h=>jA S4.hp h),j9 (jA S4.hp htq)]; exact S4.hp) S4.hN
  exact q b N' w mays pcs _ S4.hN S5.hp ⟨qm,tq,vs,j5,S5.hm,by rw[j9 tb]; exact j5,hv4.mono (k2.tups S4.hp)⟩ ⟨w0,w1,S4.rm,by omega,hg4⟩ S5.kp
end
section
variable {P:Program}{w:World}{K:W.Frag}{mg:Str->Option Value}{base:Heap}
section
variable {f fT fL:Addr}{fdT fdL:FuncData}{cdv:Value}{A:Around}{outer:List Env}{s:Shared}{H0:Hp}{E:XK}
theorem jHC (T:Txt mg)(CT:Can P w K mg base "_law_take" 1 fT fdT ["pot","wide"] yB)(CL:Can P w K mg base "_law_lot" 2 fL fdL ["pot","wide"] qK)(hr:Room 2 (XBox P w K mg base f cdv A outer s H0 E).A)
  {D:Ends}{H H5:Hp}{p qm:Addr}{mt mp w N:Int}{mays:List Int}{v5 v6 v7 v8 v9 v10:Option V}
  (hp:H5 p=some (.lst [.int N])) (hN:0<=N) (hm:H5 qm=some (.tup (mays.map V.int))) (rm:Ris w mays) (kp:Keep H H5 p) (hpH:∃ o,H p=some o) (w0:0<=w) (w1:w<=mt) (w2:mt<=16) (n0:0<=mp) (n1:mp<=32) (q:Told H p mt mp D.rt):
  (boxB T CT CL hr).1 D [some (.ref p),some (.int mt),some (.int mp),some (.int w),some (.ref qm),v5,v6,v7,v8,v9,v10] H5:=by
 refine⟨_,rfl,w,rfl,fun x hx=>⟨x,w,rfl,j5,w0,by omega,fun ql hql=>?_⟩⟩
 rw[jN4]
 have px:p≠x:=jA hp hx
 have pl:p≠ql:=jA hp (y9 hql).2
 have k1:Keep H5 (upd (upd H5 x (.rng 0 w)) ql (.lst ((upto w.toNat).map V.int))) p:=((Keep.refl _ _).new hx _).new hql _
 have e:((w.toNat:Nat):Int)=w:=by omega
 have rl:Ris w (upto w.toNat):=by
  have:=yF w.toNat
  rw[e] at this
  exact this
 have S:St0 H (upd (upd H5 x (.rng 0 w)) ql (.lst ((upto w.toNat).map V.int))) p w qm ql mays (upto w.toNat) N:=
  ⟨by rw[j9 pl,j9 px]; exact hp,hN,k1 qm _ hm (ne_of hm hp (by intro z; cases z)),rm,j5,rl,pl.symm,kp.trans k1⟩
 generalize upd (upd H5 x (.rng 0 w)) ql (.lst ((upto w.toNat).map V.int))=H6 at S ⊢
 clear k1 hql hx hp hm kp
 refine⟨_,rfl,p,N,3,rfl,S.hp,S.hN,by decide,by decide,fun N1 r a1 a2 a3=>⟨rfl,_,rfl,?_⟩⟩
 have S1:=S.step ((Keep.refl _ _).upd (.lst [.int N1])) j5 a1
 generalize upd H6 p (.lst [.int N1])=H7 at S1 ⊢
 clear S
 refine ite2 (fun hy=>?_) (fun hy=>?_)
 ·refine⟨(by show 0<=sizeLine; exact br _),fun l hl=>?_⟩
  have pl2:p≠l:=jA S1.hp hl
  have S2:=S1.step ((Keep.refl _ _).new hl (.lst [])) (by rw[j9 pl2]; exact S1.hp) S1.hN
  have S3:St0 H (upd H7 l (.lst [])) p w qm l mays [] N1:=⟨S2.hp,S2.hN,S2.hm,S2.rm,j5,Ris.nil w,pl2.symm,S2.kp⟩
  exact jHB T CT CL hr S3 hpH w0 w1 w2 n0 n1 q
 ·exact jHB T CT CL hr S1 hpH w0 w1 w2 n0 n1 q
theorem jNU (T:Txt mg)(CT:Can P w K mg base "_law_take" 1 fT fdT ["pot","wide"] yB)(CL:Can P w K mg base "_law_lot" 2 fL fdL ["pot","wide"] qK)(hr:Room 2 (XBox P w K mg base f cdv A outer s H0 E).A)
  {D:Ends}{H:Hp}{p:Addr}{mt mp N:Int}
  (hp:H p=some (.lst [.int N])) (hN:0<=N) (w0:0<=mt) (w2:mt<=16) (n0:0<=mp) (n1:mp<=32) (q:Told H p mt mp D.rt):
  (boxA T CT CL hr).1 D [some (.ref p),some (.int mt),some (.int mp),none,none,none,none,none,none,none,none] H:=by
 refine⟨_,rfl,_,rfl,_,_,rfl,rfl,p,N,_,rfl,hp,hN,by omega,by omega,fun N1 w a1 a2 a3=>?_⟩
 refine⟨(by show 0<=sizeLine; exact br _),fun t ht=>?_⟩
 have pt:p≠t:=(y9 ht).1.symm
 refine⟨_,rfl,p,N1,3,rfl,by rw[j9 pt]; exact j5,a1,by decide,by decide,fun N2 r b1 b2 b3=>⟨rfl,_,rfl,?_⟩⟩
 have k1:Keep H (upd (upd (upd H p (.lst [.int N1])) t (.tup [])) p (.lst [.int N2])) p:=(((Keep.refl _ _).upd _).new ht _).upd _
 have hp1:(upd (upd (upd H p (.lst [.int N1])) t (.tup [])) p (.lst [.int N2])) p=some (.lst [.int N2]):=j5
 have ht1:(upd (upd (upd H p (.lst [.int N1])) t (.tup [])) p (.lst [.int N2])) t=some (.tup []):=by rw[j9 pt.symm]; exact j5
 generalize upd (upd (upd H p (.lst [.int N1])) t (.tup [])) p (.lst [.int N2])=H1 at k1 hp1 ht1 ⊢
 clear ht
 refine ite2 (fun hy=>?_) (fun hy=>?_)
 ·refine⟨_,rfl,w,rfl,by omega,by omega,jBL (n:=w.toNat) (by rw[ay]; omega) (fun D i σ' H' ys=>(∃ v,σ'=[v,some (.ref p)])/\(∃ (ms:List Int) (N':Int),ys=ms.map V.int/\ms.length<=i/\Ris i ms/\0<=N'/\H' p=some (.lst [.int N']))/\Keep H1 H' p/\H' D=some (.lst ys)/\D≠p/\H1 D=none) ?_ ?_ ?_ ?_⟩
  ·intro D hD
   have:p≠D:=jA hp1 hD
   exact⟨⟨_,rfl⟩,⟨[],N2,rfl,ao _,Ris.nil _,b1,by rw[j9 this]; exact hp1⟩,(Keep.refl _ _).new hD _,j5,this.symm,hD⟩
  ·rintro D i σ' H' ys hD hi ⟨_,⟨ms,N',rfl,e,_⟩,_,e2,_⟩
   exact⟨e2,by rw[ae]; exact e⟩
  ·rintro D i σ' H' ys hD hi ⟨⟨v,rfl⟩,⟨ms,N',rfl,e,rs,n',hp'⟩,kk,e2,dp,hn⟩
   refine⟨_,rfl,p,N',3,rfl,hp',n',by decide,by decide,fun N3 r3 c1 c2 c3=>⟨rfl,_,rfl,?_⟩⟩
   have k2:Keep H1 (upd H' p (.lst [.int N3])) p:=kk.upd _
   have e3:(upd H' p (.lst [.int N3])) D=some (.lst (ms.map V.int)):=by rw[j9 dp]; exact e2
   have hp3:(upd H' p (.lst [.int N3])) p=some (.lst [.int N3]):=j5
   generalize upd H' p (.lst [.int N3])=H'' at k2 e3 hp3 ⊢
   refine ite2 (fun hz=>?_) (fun hz=>?_)
   ·refine⟨_,rfl,e3,⟨_,rfl⟩,⟨ms++[(i:Int)],N3,?_,?_,rs.snoc,c1,by rw[j9 dp.symm]; exact hp3⟩,k2.updNew hn _,j5,dp,hn⟩
    ·rw[aJ]
     show _++[V.int (0+(i:Int))]=_++[V.int (i:Int)]
     rw[iH]
    ·rw[aB]
     show ms.length+1<=i+1
     omega
   ·exact⟨⟨_,rfl⟩,⟨ms,N3,rfl,by omega,rs.step,c1,hp3⟩,k2,e3,dp,hn⟩
  ·rintro D σ' H' ys hD ⟨_,⟨ms,N',rfl,e,rs,n',hp'⟩,kk,e2,dp,hn⟩
   refine⟨D,_,rfl, .inl ⟨SqL.of e2,fun qm hqm=>?_⟩⟩
   have pm:p≠qm:=jA hp' hqm
   have e':((w.toNat:Nat):Int)=w:=by omega
   rw[e'] at rs
   exact jHC T CT CL hr (by rw[j9 pm]; exact hp') n' j5 rs ((k1.trans kk).new hqm _) ⟨_,hp⟩ a2 (by omega) w2 n0 n1 q
 ·exact jHC T CT CL hr hp1 b1 (mays:=[]) ht1 (Ris.nil w) k1 ⟨_,hp⟩ a2 (by omega) w2 n0 n1 q
end
theorem jUA {f fT fL:Addr}{fd fdT fdL:FuncData}(F:Fun K "_law_box" "_law_box" sBox f fd)(T:Txt mg)(CT:Can P w K mg base "_law_take" 1 fT fdT ["pot","wide"] yB)(CL:Can P w K mg base "_law_lot" 2 fL fdL ["pot","wide"] qK):
  FnOk P w K mg base CX0 3 f fd ["pot","most_things","most_pieces"] spBox:=by
 refine F.ok scBox (fun vs H Q E h=>?_) (fun cdv A outer s H vs Q E hr h=>?_)
 ·obtain⟨_,_,_,_,rfl,_⟩:=h
  rfl
 ·obtain⟨p,N,mt,mp,rfl,hp,hN,m0,m1,n0,n1,q⟩:=h
  exact⟨_,(boxA T CT CL hr).2.h,jNU T CT CL hr hp hN m0 m1 n0 n1 q⟩
end
inductive Ob where
 | int (i:Int)
 | oth
 | tup (os:List Ob)
def OthAt (H:Hp)(v:V):Prop:=v= .non\/(∃ b,v= .bl b)\/(∃ x,v= .str x)\/∃ a,v= .ref a/\((∃ xs,H a=some (.lst xs))\/∃ kvs,H a=some (.dK kvs))
mutual
def At (H:Hp):Ob->V->Prop
 | .int i,v=>v= .int i
 | .oth,v=>OthAt H v
 | .tup os,v=>∃ a vs,v= .ref a/\H a=some (.tup vs)/\vs.length<=100/\Ats H os vs
def Ats (H:Hp):List Ob->List V->Prop
 | [],vs=>vs=[]
 | o::os,vs=>∃ v r,vs=v::r/\At H o v/\Ats H os r
end
structure Kp (H H':Hp):Prop where
 t:Tups H H'
 l:∀ a xs,H a=some (.lst xs)->∃ ys,H' a=some (.lst ys)
 d:∀ a xs,H a=some (.dK xs)->∃ ys,H' a=some (.dK ys)
theorem Kp.of {H H':Hp}(e:Ext H H'):Kp H H':=⟨fun b xs h=>e b _ h,fun a xs h=>⟨xs,e a _ h⟩,fun a xs h=>⟨xs,e a _ h⟩⟩
theorem OthAt.mono {H H':Hp}(k:Kp H H'){v:V}(h:OthAt H v):OthAt H' v:=by
 rcases h with h | h | h | ⟨a,rfl,⟨xs,h⟩ | ⟨xs,h⟩⟩
 ·exact .inl h
 ·exact .inr (.inl h)
 ·exact .inr (.inr (.inl h))
 ·exact .inr (.inr (.inr ⟨a,rfl, .inl (k.l _ _ h)⟩))
 ·exact .inr (.inr (.inr ⟨a,rfl, .inr (k.d _ _ h)⟩))
mutual
theorem At.mono {H H':Hp}(k:Kp H H'):∀ (o:Ob) (v:V),At H o v->At H' o v
 | .int _,_,h=>h
 | .oth,_,h=>OthAt.mono k h
 | .tup os,_,⟨a,vs,e,h,n,r⟩=>⟨a,vs,e,k.t _ _ h,n,Ats.mono k os vs r⟩
theorem Ats.mono {H H':Hp}(k:Kp H H'):∀ (os:List Ob) (vs:List V),Ats H os vs->Ats H' os vs
 | [],_,h=>h
 | o::os,_,⟨v,r,e,h,t⟩=>⟨v,r,e,At.mono k o v h,Ats.mono k os r t⟩
end
theorem At.ext {H H':Hp}(e:Ext H H'){o:Ob}{v:V}(h:At H o v):At H' o v:=At.mono (.of e) o v h
theorem Ats.len {H:Hp} :∀ {os:List Ob}{vs:List V},Ats H os vs->vs.length=os.length
 | [],_,h=>by cases (show _=[] from h); rfl
 | o::os,_,⟨v,r,e,h,t⟩=>by rw[e,aR,aR,Ats.len t]
theorem Ats.get {H:Hp} :∀ {os:List Ob}{vs:List V},Ats H os vs->∀ {i:Nat}{v:V},vs[i]?=some v->∃ o,os[i]?=some o/\At H o v
 | [],_,h,i,v,e=>by cases (show _=[] from h); cases e
 | o::os,_,⟨v,r,e,h,t⟩,0,v',e'=>by subst e; cases e'; exact⟨o,rfl,h⟩
 | o::os,_,⟨v,r,e,h,t⟩,i+1,v',e'=>by subst e; exact Ats.get t (i:=i) e'
theorem Ats.ints {H:Hp} :∀ (l:List Int),Ats H (l.map Ob.int) (l.map V.int)
 | []=>rfl
 | i::r=>⟨.int i,_,rfl,rfl,Ats.ints r⟩
def isInt:Ob->Bool
 | .int _=>true
 | _=>false
def isTup:Ob->Bool
 | .tup _=>true
 | _=>false
def upB (lo hi:Int):Ob->Bool
 | .int i=>decide (lo<=i)&&decide (i<=hi)
 | _=>false
def val:Ob->Int
 | .int i=>i
 | _=>0
def adj (is:List Int):List Bool:=(List.range (is.length - 1)).map fun k=>decide (is.getD k 0<is.getD (k+1) 0)
def risB:Ob->Bool
 | .tup os=>os.all isInt&&(adj (os.map val)).all id
 | _=>false
def lotB (w:Int):Ob->Bool
 | .tup os=>os.all (upB 0 (w - 1))&&(adj (os.map val)).all id
 | _=>false
def lotB' (w:Int)(o:Ob):Bool:=risB o&&match o with
 | .tup os=>decide (os=[]) || (decide (0<=(os.map val).getD 0 0)&&decide ((os.map val).getLastD 0<w))
 | _=>false
theorem jT5 {is:List Int}(h:(adj is).all id=true){k:Nat}(hk:k+1<is.length):is.getD k 0<is.getD (k+1) 0:=by
 rw[bC] at h
 exact aF (h _ (aP.mpr ⟨k,bM.mpr (by omega),rfl⟩))
theorem jNY {is:List Int}(h:(adj is).all id=true):∀ (j k:Nat),j<=k->k<is.length->is.getD j 0<=is.getD k 0
 | j,0,h1,_=>by
  have:j=0:=by omega
  subst this
  exact cI _
 | j,k+1,h1,h2=>by
  rcases eU k j with q | q
  ·have:j=k+1:=by omega
   subst this
   exact cI _
  ·have a:=jNY h j k q (by omega)
   have b:=jT5 h h2
   omega
theorem jUG (w:Int)(o:Ob):lotB' w o=lotB w o:=by
 cases o with
 | int i=>rfl
 | oth=>rfl
 | tup os=>
  rw[bS]
  unfold lotB' risB lotB
  simp only [ci,iN,g6]
  constructor
  ·rintro ⟨⟨a,b⟩,c⟩
   refine⟨?_,b⟩
   rw[bC] at a ⊢
   intro x hx
   obtain⟨j,hj,rfl⟩:=d0 hx
   have hi:=a _ hx
   have e:os≠ []:=fun e=>by subst e; cases hx
   obtain⟨c1,c2⟩:=c.resolve_left e
   have hl:(os.map val).length=os.length:=ae _
   have g:(os.map val).getD j 0=val os[j]:=by
    rw[ak,aN]
    simp [hj]
   have l1:=jNY b 0 j (by omega) (by omega)
   have l2:=jNY b j (os.length - 1) (by omega) (by omega)
   have l3:(os.map val).getLastD 0=(os.map val).getD (os.length - 1) 0:=by
    rw[eX,eY,ak,hl]
   rw[g] at l1 l2
   rw[l3] at c2
   cases e2:os[j] with
   | int i=>
    rw[e2] at l1 l2
    simp only [val] at l1 l2
    simp only [upB,ci,g6]
    omega
   | oth=>rw[e2] at hi; cases hi
   | tup r=>rw[e2] at hi; cases hi
  ·rintro ⟨a,b⟩
   rw[bC] at a
   refine⟨⟨?_,b⟩,?_⟩
   ·rw[bC]
    intro x hx
    have:=a x hx
    cases x with
    | int i=>rfl
    | oth=>cases this
    | tup r=>cases this
   ·by_cases e:os=[]
    ·exact .inl e
    ·refine .inr ?_
     have key:∀ j,j<os.length->0<=(os.map val).getD j 0/\(os.map val).getD j 0<w:=fun j hj=>by
      have g:(os.map val).getD j 0=val os[j]:=by
       rw[ak,aN]
       simp [hj]
      have:=a os[j] (cz hj)
      rw[g]
      cases e2:os[j] with
      | int i=>
       rw[e2] at this
       simp only [upB,ci,g6] at this
       simp only [val]
       omega
      | oth=>rw[e2] at this; cases this
      | tup r=>rw[e2] at this; cases this
     have hpos:0<os.length:=by
      cases os with
      | nil=>exact absurd rfl e
      | cons _ _=>simp
     have l3:(os.map val).getLastD 0=(os.map val).getD (os.length - 1) 0:=by
      rw[eX,eY,ak,ae]
     rw[l3]
     exact⟨(key 0 hpos).1,(key (os.length - 1) (by omega)).2⟩
theorem Ats.allInt {H:Hp} :∀ {os:List Ob}{vs:List V},Ats H os vs->os.all isInt=true->vs=(os.map val).map V.int
 | [],_,h,_=>by cases (show _=[] from h); rfl
 | o::os,_,⟨v,r,e,h,t⟩,ha=>by
  rw[fg,ci] at ha
  subst e
  rw[bu,bu,<- Ats.allInt t ha.2]
  cases o with
  | int i=>cases (show v= .int i from h); rfl
  | oth=>cases ha.1
  | tup _=>cases ha.1
theorem jV5 (l:List Ob)(F:Ob->Bool):(l.map F).all id=l.all F:=by
 rw[iC]
 rfl
theorem jT4 (is:List Int):(adj is).length=is.length - 1:=by
 unfold adj
 rw[ae,cU]
theorem jV6 {is:List Int}{k:Nat}(h:k<is.length - 1):(adj is)[k]?=some (decide (is.getD k 0<is.getD (k+1) 0)):=by
 unfold adj
 rw[aN,eg h]
 rfl
theorem jPS {is:List Int}{k:Nat}(h:k<is.length - 1):(adj is).take (k+1)=(adj is).take k++[decide (is.getD k 0<is.getD (k+1) 0)]:=by
 rw[aV,jV6 h]
 rfl
theorem getI {is:List Int}{k:Nat}(h:k<is.length):(is.map V.int)[k]?=some (.int (is.getD k 0)):=by
 rw[aN,ak]
 simp [h]
theorem At.ty (K:W.Frag){H:Hp}{o:Ob}{v:V}(h:At H o v):∃ t,TyOf K H v t/\kitOne K t (.type "tuple")=some (isTup o)/\∃ b1 b2,kitOne K t (.type "int")=some b1/\kitOne K t (.type "bool")=some b2/\(b1&&!b2)=isInt o:=by
 cases o with
 | int i=>
  cases (show v= .int i from h)
  exact⟨_, .int i,rfl,true,false,rfl,rfl,rfl⟩
 | oth=>
  rcases (show OthAt H v from h) with rfl | ⟨b,rfl⟩ | ⟨x,rfl⟩ | ⟨a,rfl,⟨xs,e⟩ | ⟨xs,e⟩⟩
  ·exact⟨_, .non,rfl,false,false,rfl,rfl,rfl⟩
  ·exact⟨_, .bl b,rfl,true,true,rfl,rfl,rfl⟩
  ·exact⟨_, .str x,rfl,false,false,rfl,rfl,rfl⟩
  ·exact⟨_, .lst e,rfl,false,false,rfl,rfl,rfl⟩
  ·exact⟨_, .dK e,rfl,false,false,rfl,rfl,rfl⟩
 | tup os=>
  obtain⟨a,vs,rfl,e,_⟩:=h
  exact⟨_, .tup e,rfl,false,false,rfl,rfl,rfl⟩
theorem At.tupOf {H:Hp}{o:Ob}{v:V}(h:At H o v)(t:isTup o=true):∃ os a vs,o= .tup os/\v= .ref a/\H a=some (.tup vs)/\vs.length<=100/\Ats H os vs:=by
 cases o with
 | int i=>cases t
 | oth=>cases t
 | tup os=>
  obtain⟨a,vs,e1,e2,e4,e3⟩:=h
  exact⟨os,a,vs,rfl,e1,e2,e4,e3⟩
theorem jNL {K:W.Frag}{m:List (Option Nat)}{g:TG}{tt:TT}{te:TE}{σ:St}{H1:Hp}{Q:VK}{a:Addr}{xs:List V}{os:List Ob}{F:Ob->Bool}(ha:H1 a=some (.tup xs))(hx:Ats H1 os xs)(hn:xs.length<sizeLine)(σP:St->Prop)(h0:σP (blkσ m σ))
  (step:∀ (σ':St) (H':Hp) (v:V) (o:Ob) (R:St->V->Hp->Prop) (S:St->Hp->Prop),σP σ'->Ext H1 H'->At H' o v->(∀ σ2 H'',σP σ2->Ext H' H''->R σ2 (.bl (F o)) H'')->g v σ' H' fun σ2 H2=>tt σ2 H2 fun b H3=>if b=true then te σ2 H3 (R σ2) else S σ2 H3)
  (hd:∀ D H',Ext H1 H'->H' D=some (.lst ((os.map F).map V.bl))->Q (.ref D) H'):qL m g tt te σ Q (Itt K a) H1:=by
 have hl:=hx.len
 refine jB1 (xs:=xs) hn (fun D i σ' H' zs=>σP σ'/\Ext H1 H'/\H' D=some (.lst zs)/\H1 D=none/\zs=((os.take i).map F).map V.bl) ?_ ?_ ?_ ?_
 ·intro D hD
  exact⟨h0,(Ext.refl _).new hD _,j5,hD,rfl⟩
 ·rintro D i σ' H' zs hD ⟨_,e,h2,_,rfl⟩
  refine⟨e _ _ ha,h2,?_⟩
  rw[ae,ae,bA]
  omega
 ·rintro D i σ' H' zs x hD hi ⟨p,e,h2,hn,rfl⟩
  obtain⟨o,ho,hAt⟩:=hx.get hi
  refine step σ' H' x o _ _ p e (hAt.ext e) fun σ2 H'' p2 e2=>⟨e2 _ _ h2,p2,(e.trans e2).updNew hn _,j5,hn,?_⟩
  have:os.take (i+1)=os.take i++[o]:=by
   rw[aV,ho]
   rfl
  rw[this,aJ,aJ]
  rfl
 ·rintro D σ' H' zs hD ⟨_,e,h2,_,rfl⟩
  rw[hl,aZ] at h2
  exact hd D H' e h2
section
variable {P:Program}{w:World}{K:W.Frag}{mg:Str->Option Value}{base:Heap}
abbrev XOf (N:List Str)(q:Str)(st:Stmt)(P:Program)(w:World)(K:W.Frag)(mg:Str->Option Value)(base:Heap)(f:Addr)(cdv:Value)(A:Around)(outer:List Env)(s:Shared)(H:Hp)(E:XK):Cx:=(cxOf CX0 P w K mg base N q (j6 st) f cdv A outer s H E).nox
variable {f fW fR:Addr}{fdW fdR:FuncData}{cdv:Value}{A:Around}{outer:List Env}{s:Shared}{H0:Hp}{E:XK}
abbrev jM7:List Str:=["thing"]
theorem scWhole0:FnScope jM7 ["thing"] (j6 jAY):=⟨rfl,rfl,rfl,by decide+kernel,rfl,by decide+kernel,by decide+kernel⟩
def spWh:Sp:=fun vs H Q _=>∃ v o,vs=[v]/\At H o v/\Q (.bl (isInt o)) H
def jQV (T:Txt mg): { t:TS // JSs (XOf jM7 "is_whole" jAY P w K mg base f cdv A outer s H0 E) (jB jAY) t} :=
 have nd:=scWhole0.nd
 ⟨_,(jD (jW ((jQI (jH jC3 gD T.isinstance (by decide+kernel) (j3 (jv 0 rfl vL) (j3 (jI5 (v:= .ty "int") gD T.int (by decide+kernel) rfl) j8 j4) j4) j4) (jMU (jMV (jH jC3 gD T.isinstance (by decide+kernel) (j3 (jv 0 rfl vL) (j3 (jI5 (v:= .ty "bool") gD T.bool (by decide+kernel) rfl) j8 j4) j4) j4)))))))⟩
theorem jLX {fd:FuncData}(F:Fun K "is_whole" "is_whole" jAY f fd)(T:Txt mg):FnOk P w K mg base CX0 1 f fd ["thing"] spWh:=by
 refine F.ok scWhole0 (fun vs H Q E h=>?_) (fun cdv A outer s H vs Q E hr h=>?_)
 ·obtain⟨_,_,rfl,_⟩:=h
  rfl
 ·obtain⟨v,o,rfl,hA,q⟩:=h
  obtain⟨t,ty,_,b1,b2,k1,k2,e⟩:=hA.ty K
  refine⟨_,(jQV T).2.h,?_⟩
  refine⟨_,rfl,_,_,_,b1,rfl,ty,k1,b1,rfl,?_⟩
  rw[<- e] at q
  cases b1 with
  | true=>exact iteT ⟨_,rfl,_,_,_,b2,rfl,ty,k2,b2,rfl,q⟩
  | false=>exact iteF q
abbrev jDY:List Str:=["thing"]
theorem scRising:FnScope jDY ["thing"] (j6 yO):=⟨rfl,rfl,rfl,by decide+kernel,rfl,by decide+kernel,by decide+kernel⟩
def spB (F:Ob->Bool):Sp:=fun vs H Q _=>∃ v o,vs=[v]/\At H o v/\∀ H',Ext H H'->Q (.bl (F o)) H'
def jR2 (T:Txt mg)(CW:Can P w K mg base "is_whole" 1 fW fdW ["thing"] spWh)(hr:Room 1 (XOf jDY "is_rising" yO P w K mg base f cdv A outer s H0 E).A): { t:TS // JSs (XOf jDY "is_rising" yO P w K mg base f cdv A outer s H0 E) (jB yO) t} :=
 have nd:=scRising.nd
 ⟨_,(jC (yC (jGW (jDB (jH jC3 gD T.isinstance (by decide+kernel) (j3 (jv 0 rfl vC) (j3 (jI5 (v:= .ty "tuple") gD T.tuple (by decide+kernel) rfl) j8 j4) j4) j4) jB7)) (jD (jW (je_bl))) kI)
   (jC (yC (jGW (jDB (jH (jEH rfl) gD T.all (by decide+kernel) (j3 (kR (m:=[none]) (Nc:=["number"]) rfl (qF (jv 0 rfl vC)) rfl (by decide+kernel) (by decide+kernel) (jS (psc:=j6 yO) (by decide+kernel)) (jI (N:=jDY) rfl rfl (by decide+kernel)) (fun cl C fp s H=>jJ (i:=0) (show (["number"]:List Str).Nodup by decide+kernel) rfl (yM (by decide+kernel))) (fun cl C fp s H=>kY) (fun cl C fp s H=>(CW.je hr (gl_b (by decide+kernel)) (j3 (jv 0 rfl (jX (by decide+kernel))) j8 j4) j4)) yI) j8 jK) jK) jB7)) (jD (jW (je_bl))) kI)
   (jD (jW (jH (jEH rfl) gD T.all (by decide+kernel) (j3 (kR (m:=[none,some 0]) (Nc:=["k","thing"]) rfl (jGX gD T.range (j3 (je_int) (j3 (jH kB gD T.len (by decide+kernel) (j3 (jv 0 rfl vC) j8 j4) j4) j8 jF) jR) jR jF) rfl (by decide+kernel) (by decide+kernel) (jS (psc:=j6 yO) (by decide+kernel)) (jI (N:=jDY) rfl rfl (by decide+kernel)) (fun cl C fp s H=>jJ (i:=0) (show (["k","thing"]:List Str).Nodup by decide+kernel) rfl (yM (by decide+kernel))) (fun cl C fp s H=>kY) (fun cl C fp s H=>(yX op_lt (jL kT (jv 1 rfl (kW (by decide+kernel))) (kU jDW (jv 0 rfl (jX (by decide+kernel))) (je_int)) jQ2) (jL kT (jv 1 rfl (kW (by decide+kernel))) (jv 0 rfl (jX (by decide+kernel))) yQ) (jV _))) kZ) j8 jK) jK)))))⟩
theorem jLZ {fd:FuncData}(F:Fun K "is_rising" "is_rising" yO f fd)(T:Txt mg)(CW:Can P w K mg base "is_whole" 1 fW fdW ["thing"] spWh):FnOk P w K mg base CX0 2 f fd ["thing"] (spB risB):=by
 refine F.ok scRising (fun vs H Q E h=>?_) (fun cdv A outer s H vs Q E hr h=>?_)
 ·obtain⟨_,_,rfl,_⟩:=h
  rfl
 ·obtain⟨v,o,rfl,hA,q⟩:=h
  obtain⟨t,ty,kt,_⟩:=hA.ty K
  refine⟨_,(jR2 T CW hr).2.h,?_⟩
  refine⟨_,rfl,_,_,_,_,rfl,ty,kt,_,rfl,?_⟩
  cases ht:isTup o with
  | false=>
   refine iteT ?_
   have:risB o=false:=by cases o <;> first | rfl | cases ht
   rw[<- this]
   exact q H (Ext.refl H)
  | true=>
   refine iteF ?_
   obtain⟨os,a,vs,rfl,rfl,ha,h100,hx⟩:=hA.tupOf ht
   have hl:=hx.len
   have hn:vs.length<sizeLine:=by rw[ay]; omega
   ·refine⟨_,rfl,a,rfl,⟨_,SqT.of ha⟩,jNL (F:=isInt) ha hx hn (fun σ'=>∃ v,σ'=[v]) ⟨_,rfl⟩ ?_ ?_⟩
    ·rintro σ' H' v o R S ⟨u,rfl⟩ e hA k
     dsimp only [kL,yL]
     rw[aq rfl]
     exact⟨_,rfl,v,o,rfl,hA,k _ H' ⟨_,rfl⟩ (Ext.refl _)⟩
    ·intro D H1 e1 hD
     refine⟨D,_,rfl,SqL.of hD,_,rfl,?_⟩
     rw[jV5]
     cases hi:os.all isInt with
     | false=>
      refine iteT ?_
      have:risB (.tup os)=false:=by
       show (os.all isInt&&_)=false
       rw[hi]
       rfl
      rw[<- this]
      exact q H1 e1
     | true=>
      refine iteF ?_
      have hv:=hx.allInt hi
      have hN:(os.map val).length=os.length:=ae _
      refine⟨_,rfl,a,_,rfl, .inr (SqT.of (e1 _ _ ha)),1,_,rfl,⟨by decide,by decide,by omega,by rw[ay] at hn; omega⟩,jBL (n:=((vs.length:Int) - 1).toNat) (by omega) (fun D i σ' H' zs=>(∃ v,σ'=[v,some (.ref a)])/\zs=((adj (os.map val)).take i).map V.bl/\H'=upd H1 D (.lst zs)) ?_ ?_ ?_ ?_⟩
      ·intro D hD
       exact⟨⟨_,rfl⟩,rfl,rfl⟩
      ·rintro D i σ' H' zs hD hi2 ⟨_,rfl,rfl⟩
       refine⟨j5,?_⟩
       rw[ae,bA]
       omega
      ·rintro D i σ' H' zs hD hi2 ⟨⟨v,rfl⟩,rfl,rfl⟩
       have hi3:i<(os.map val).length - 1:=by omega
       have ha':(upd H1 D (.lst (((adj (os.map val)).take i).map V.bl))) a=some (.tup ((os.map val).map V.int)):=by
        rw[j9 (jA (e1 _ _ ha) hD),e1 _ _ ha,hv]
       dsimp only [kL,yL]
       rw[aq rfl]
       have e0:(1+(i:Int)) - 1=(i:Int):=by omega
       have e2:(1+(i:Int))=((i+1:Nat):Int):=by omega
       refine⟨_,rfl,_,rfl,_,_,rfl,rfl,a,_,_,_,rfl,rfl,SqT.of ha',by rw[e0]; exact yD (getI (by omega)),_,rfl,_,rfl,a,_,_,_,rfl,rfl,SqT.of ha',by rw[e2]; exact yD (getI (by omega)),_,_,rfl,rfl,j5,⟨_,rfl⟩,?_,jBX⟩
       rw[jPS hi3,aJ]
       rfl
      ·rintro D2 σ' H' zs hD2 ⟨_,rfl,rfl⟩
       have hlen:((vs.length:Int) - 1).toNat=(adj (os.map val)).length:=by rw[jT4]; omega
       rw[hlen,aZ]
       refine⟨D2,_,rfl,SqL.of j5,?_⟩
       have:(adj (os.map val)).all id=risB (.tup os):=by
        show _=(os.all isInt&&(adj (os.map val)).all id)
        rw[hi,hV]
       rw[this]
       exact q _ (e1.new hD2 _)
end
end Eo
end
section
namespace L2
open PySem
theorem px_un {op:UnaryOp}{a:Expr}{pos:Pos} :jB4 (.UnaryOp op a pos):=fun _ _=>rfl
theorem jT1 {α:Type}{xs:List α}{v:α}(h:xs[xs.length - 1]?=some v):atI xs (-1)=some v:=by
 have hj:xs.length - 1<xs.length:=(ai.mp h).1
 have e:ixN xs.length (-1)=some (xs.length - 1):=by
  unfold ixN
  rw[am (by omega),aq (by omega)]
  congr 1
  omega
 unfold atI
 rw[e]
 exact h
theorem qb {Q:VK}{H:Hp}{a b:Bool}(q:Q (.bl a) H)(e:a=b):Q (.bl b) H:=e ▸ q
end L2
namespace Eo
open PySem L2
section
variable {P:Program}{w:World}{K:W.Frag}{mg:Str->Option Value}{base:Heap}
variable {f fW fR fL fG fI fPs:Addr}{fdW fdR fdL fdG fdI fdPs:FuncData}{cdv:Value}{A:Around}{outer:List Env}{s:Shared}{H0:Hp}{E:XK}
abbrev jM9:List Str:=["thing","many"]
theorem scIsLot:FnScope jM9 ["thing","many"] (j6 jBR):=⟨rfl,rfl,rfl,by decide+kernel,rfl,by decide+kernel,by decide+kernel⟩
def spB2 (F:Int->Ob->Bool):Sp:=fun vs H Q _=>∃ v o w,vs=[v, .int w]/\At H o v/\∀ H',Ext H H'->Q (.bl (F w o)) H'
def jUT (T:Txt mg)(CR:Can P w K mg base "is_rising" 2 fR fdR ["thing"] (spB risB))(hr:Room 2 (XOf jM9 "is_lot" jBR P w K mg base f cdv A outer s H0 E).A): { t:TS // JSs (XOf jM9 "is_lot" jBR P w K mg base f cdv A outer s H0 E) (jB jBR) t} :=
 have nd:=scIsLot.nd
 ⟨_,(jC (yC (jGW (jDB (CR.je hr gD (j3 (jv 0 rfl vL) j8 j4) j4) jB7)) (jD (jW (je_bl))) kI)
   (jD (jW ((je_or (yX qO (jH kB gD T.len (by decide+kernel) (j3 (jv 0 rfl vL) j8 j4) j4) (je_int) (jV _)) (jMU ((jQI (yX op_ge (jL jO (jv 0 rfl vL) (je_int) jE) (je_int) (jV _)) (jMU (yX op_lt (jL jO (jv 0 rfl vL) (je_un jPU (je_int)) px_un) (jv 1 rfl vL) (jV _)))))))))))⟩
theorem jOQ {fd:FuncData}(F:Fun K "is_lot" "is_lot" jBR f fd)(T:Txt mg)(CR:Can P w K mg base "is_rising" 2 fR fdR ["thing"] (spB risB)):FnOk P w K mg base CX0 3 f fd ["thing","many"] (spB2 lotB):=by
 refine F.ok scIsLot (fun vs H Q E h=>?_) (fun cdv A outer s H vs Q E hr h=>?_)
 ·obtain⟨_,_,_,rfl,_⟩:=h
  rfl
 ·obtain⟨v,o,w,rfl,hA,q⟩:=h
  refine⟨_,(jUT T CR hr).2.h,?_⟩
  refine⟨_,rfl,v,o,rfl,hA,fun H1 e1=>⟨_,rfl,?_⟩⟩
  have eq:=jUG w o
  cases hR:risB o with
  | false=>
   refine iteT (qb (q H1 e1) ?_)
   rw[<- eq]
   unfold lotB'
   rw[hR]
   rfl
  | true=>
   refine iteF ?_
   have ht:isTup o=true:=by cases o <;> first | rfl | cases hR
   obtain⟨os,a,vs,rfl,rfl,ha,h100,hx⟩:=hA.tupOf ht
   have hl:=hx.len
   have hi:os.all isInt=true:=by
    have:(os.all isInt&&(adj (os.map val)).all id)=true:=hR
    rw[ci] at this
    exact this.1
   have hv:=hx.allInt hi
   have ha1:=e1 _ _ ha
   refine⟨_,rfl,a,_,rfl, .inr (SqT.of ha1),rfl,_,rfl,ite2 (fun hy=>?_) (fun hy=>?_)⟩
   ·have h0:=V.int.inj (aF hy)
    have e0:os=[]:=fH.mp (by omega)
    refine qb (q H1 e1) ?_
    rw[<- eq]
    unfold lotB'
    rw[hR]
    simp [e0]
   ·have h0:0<vs.length:=Nat.pos_of_ne_zero fun h=>hy (ar (by rw[h]; rfl))
    have hml:(os.map val).length=vs.length:=by rw[ae,hl]
    refine⟨_,rfl,a,_,0, .int ((os.map val).getD 0 0),rfl,rfl,SqT.of ha1,?_,_,_,rfl,rfl,_,rfl,ite2 (fun hz=>?_) (fun hz=>?_)⟩
    ·rw[hv]
     exact yD (j:=0) (getI (by omega))
    ·refine⟨_,rfl,_,rfl,a,_,_, .int ((os.map val).getLastD 0),rfl,rfl,SqT.of ha1,?_,_,rfl,_,_,rfl,rfl,qb (q H1 e1) ?_⟩
     ·show atI vs (-1)=_
      refine jT1 ?_
      rw[hv,ae,getI (by omega),eX,eY,ak]
     ·rw[<- eq]
      unfold lotB'
      rw[hR]
      have e0:¬ os=[]:=fun e=>by rw[e] at hl; have:vs.length=0:=hl; omega
      have hz:=aF hz
      simp [e0]
      intro hh
      simpa using hz
    ·refine qb (q H1 e1) ?_
     rw[<- eq]
     unfold lotB'
     rw[hR]
     have e0:¬ os=[]:=fun e=>by rw[e] at hl; have:vs.length=0:=hl; omega
     have hz:¬ (0<=(os.map val).getD 0 0):=fun h=>hz (ar h)
     simp only [e0,decide_false,hG,hV,aH hz,fO]
end
end Eo
end
section
namespace L2
open PySem
section
variable {P:Program}{w:World}{K:W.Frag}{mg:Str->Option Value}{base:Heap}{N:List Str}{qual:Str}{sc:Scope}{f:Addr}{cdv:Value}{A:Around}{outer:List Env}{s:Shared}{H:Hp}{E:XK}{x y z:Str}{p1 p2 p3 pos:Pos}{k i j l:Nat}
theorem jJL (hN:N.Nodup)(hi:N[i]?=some x)(hj:N[j]?=some y)(hx:sc.names.lookup x=some .local)(hy:sc.names.lookup y=some .local):
  JG (cxOf CX0 P w K mg base N qual sc f cdv A outer s H E).nox (.Tuple [.Name x p1, .Name y p2] k pos) (gTup K 2 (gCons (kL i) (gCons (kL j) gNil))):=
 jJM (X:=(cxOf CX0 P w K mg base N qual sc f cdv A outer s H E).nox) rfl (jAC (jJ hN hi (loc_l hx)) (jAC (jJ hN hj (loc_l hy)) jFR jB3) jB3)
end
end L2
namespace L2
open PySem
section
variable {K:W.Frag}{m:List (Option Nat)}{g:TG}{tt:TT}{te:TE}{σ:St}{H1:Hp}{Q:VK}
end
end L2
namespace Eo
open PySem L2
theorem jFU {α:Type}{l:List α}{i:Nat}{d:α}(h:i<l.length):l.getD i d=l[i]:=by
 rw[ak,aw h]
 rfl
theorem jAA (l:List Int):(l.map V.int).all flatV=true:=by
 rw[bC]
 intro x hx
 obtain⟨i,_,rfl⟩:=aP.mp hx
 rfl
theorem jAJ (i:Int)(l:List Int):inV (.int i) (l.map V.int)=decide (i∈l):=by
 unfold inV
 rw[bS,gh,bo]
 constructor
 ·rintro ⟨x,hx,e⟩
  obtain⟨j,hj,rfl⟩:=aP.mp hx
  have:j=i:=eq_of_beq e
  rw[<- this]
  exact hj
 ·intro h
  exact⟨.int i,aP.mpr ⟨i,h,rfl⟩,by simp [eqV]⟩
theorem yV:∀ (ts:List Int) (lo w:Int),ts.Pairwise (· < ·)->(∀ z∈ts,lo<=z/\z<w)->(ts.length:Int)<=max (w - lo) 0
 | [],lo,w,_,_=>by show (0:Int)<=_; omega
 | a::r,lo,w,hp,hb=>by
  have h1:=hb a aE
  have hp':=cw.mp hp
  have:=yV r (a+1) w hp'.2 fun z hz=>⟨by have:=hp'.1 z hz; omega,(hb z (aK _ hz)).2⟩
  rw[aR]
  omega
def j7 (pcs:List (List Int×Int))(k:Int):List Int:=(pcs.getD k.toNat ([],0)).1
theorem PcsAt.get {H:Hp} :∀ {vs:List V}{ps:List (List Int×Int)},PcsAt H vs ps->∀ {k:Nat},k<ps.length->∃ v,vs[k]?=some v/\PcAt H v (ps.getD k ([],0))
 | v::vs,p::ps,h,0,_=>⟨v,rfl,h.1⟩
 | v::vs,p::ps,h,k+1,hk=>PcsAt.get h.2 (k:=k) (by simpa using hk)
 | [],[],_,k,hk=>absurd hk (eF _)
 | [],_::_,h,_,_=>h.elim
 | _::_,[],h,_,_=>h.elim
theorem Good.at {mt mp w:Int}{ms:List Int}{pcs:List (List Int×Int)}(g:Good mt mp w ms pcs){k:Nat}(hk:k<pcs.length):GoodPc w (pcs.getD k ([],0)):=by
 have e:pcs.getD k ([],0)=pcs[k]:=by simp [List.getD,hk]
 rw[e]
 exact g.pg _ (cz hk)
theorem jDP {n i:Nat}(h:i<n):(upto n).take (i+1)=(upto n).take i++[(i:Int)]:=by
 unfold upto
 rw[<- i7,<- i7,List.take_range,List.take_range,show min (i+1) n=i+1 by omega,show min i n=i by omega,iM,aJ]
 rfl
theorem jBF (n:Nat):(upto n).length=n:=by
 unfold upto
 rw[ae,cU]
theorem jIO {n i:Nat}(h:i<n):(upto n)[i]?=some (i:Int):=by
 unfold upto
 rw[aN,eg h]
 rfl
theorem jV1 {H:Hp}{a:Addr}{vs:List V}{os:List Ob}(h:H a=some (.tup vs))(n:vs.length<=100)(r:Ats H os vs):At H (.tup os) (.ref a):=⟨a,vs,rfl,h,n,r⟩
theorem _root_.L2.Ext.tups {H H':Hp}(e:Ext H H'):Tups H H':=fun b xs h=>e b _ h
theorem PcsAt.at {H:Hp} :∀ {vs:List V}{ps:List (List Int×Int)},PcsAt H vs ps->∀ {i:Nat}{v:V},vs[i]?=some v->∃ pc,ps[i]?=some pc/\PcAt H v pc
 | [],[],_,i,v,e=>by cases e
 | x::vs,p::ps,h,0,v,e=>by cases e; exact⟨p,rfl,h.1⟩
 | x::vs,p::ps,h,i+1,v,e=>PcsAt.at h.2 (i:=i) e
 | [],_::_,h,_,_,_=>h.elim
 | _::_,[],h,_,_,_=>h.elim
theorem PcsAt.snoc {H:Hp}{v:V}{p:List Int×Int}(hv:PcAt H v p):∀ {vs:List V}{ps:List (List Int×Int)},PcsAt H vs ps->PcsAt H (vs++[v]) (ps++[p])
 | [],[],_=>⟨hv,trivial⟩
 | x::vs,q::ps,h=>⟨h.1,PcsAt.snoc hv h.2⟩
 | [],_::_,h=>h.elim
 | _::_,[],h=>h.elim
def fitS (ds:List Int)(pc:List Int×Int):Bool:=!pc.1.any fun t=>decide (t∈ds)
theorem Keep.ext {H H':Hp}{p:Addr}{o:HO}(k:Keep (L2.upd H p o) H' p)(hp:H p=none):Ext H H':=fun b u hb=>by
 have n:b≠p:=jA hb hp
 exact k b u (by rw[j9 n]; exact hb) n
theorem Good.wide {mt mp w mt' mp':Int}{ms:List Int}{pcs:List (List Int×Int)}(g:Good mt mp w ms pcs)(h1:mt<=mt')(h2:mp<=mp'):Good mt' mp' w ms pcs:=⟨g.w0,cV g.w1 h1,g.mr,cV g.pl h2,g.pg⟩
structure Taken (wi:Int)(ds:List Int):Prop where
 nd:ds.Nodup
 bnd:∀ t∈ds,0<=t/\t<wi
theorem jGO (n:Nat):∀ (ds:List Int),ds.Nodup->(∀ t∈ds,0<=t/\t<(n:Int))->ds.length<=n:=by
 intro ds h1 h2
 have h3:(ds.map Int.toNat).Nodup:=by
  rw[List.Nodup,bz]
  refine h9 (R:=(· ≠ ·)) (fun {a b} ha hb hne e=>hne ?_) h1
  have:=h2 a ha
  have:=h2 b hb
  omega
 have h4:(ds.map Int.toNat).length<=(List.range n).length:=h3.length_le_of_subset fun x hx=>by
  obtain⟨t,ht,rfl⟩:=aP.mp hx
  have:=h2 t ht
  exact bM.mpr (by omega)
 rw[ae,cU] at h4
 exact h4
theorem Taken.len {wi:Int}{ds:List Int}(h:Taken wi ds)(w0:0<=wi):(ds.length:Int)<=wi:=by
 have:=jGO wi.toNat ds h.nd fun t ht=>by have:=h.bnd t ht; omega
 omega
theorem Taken.more {wi:Int}{ds:List Int}{pc:List Int×Int}(h:Taken wi ds)(g:GoodPc wi pc)(hf:fitS ds pc=true):Taken wi (ds++pc.1):=by
 refine⟨dU.mpr ⟨h.nd,g.lot.ris.imp fun {a b} h=>(by omega),fun a ha b hb e=>?_⟩,fun t ht=>?_⟩
 ·subst e
  unfold fitS at hf
  rw[dz,gW] at hf
  exact hf a hb (ar ha)
 ·rcases aL.mp ht with q | q
  ·exact h.bnd t q
  ·exact g.lot.bnd t q
section
variable {P:Program}{w:World}{K:W.Frag}{mg:Str->Option Value}{base:Heap}
variable {f fC fP fT fB fW:Addr}{fdC fdP fdT fdB fdW:FuncData}{cdv:Value}{A:Around}{outer:List Env}{s:Shared}{H0:Hp}{E:XK}
def jAM (K:W.Frag):Sp:=fun vs H Q _=>∃ (sc:Addr) (ns:List Int) (k mt mp:Int),vs=[.ref sc, .int k, .int mt, .int mp]/\SqL K H sc (ns.map V.int)/\0<=k/\0<=mt/\mt<=16/\0<=mp/\mp<=16/\
 ∀ b w ms pcs H',BoxAt H' b w ms pcs->Good 16 16 w ms pcs->Ext H H'->Q (.ref b) H'
abbrev jMA:List Str:=["script","k","things","pieces","pot"]
theorem scDrawn:FnScope jMA ["script","k","things","pieces"] (j6 jBS):=⟨rfl,rfl,rfl,by decide+kernel,rfl,by decide+kernel,by decide+kernel⟩
def jUY (T:Txt mg)(CC:Can P w K mg base "_law_cell_at" 1 fC fdC ["script","k"] (yY K))(CP:Can P w K mg base "_law_pot" 1 fP fdP ["cell"] qN)(CT:Can P w K mg base "_law_take" 1 fT fdT ["pot","wide"] yB)(CB:Can P w K mg base "_law_box" 3 fB fdB ["pot","most_things","most_pieces"] spBox)(hr:Room 3 (XOf jMA "_law_drawn" jBS P w K mg base f cdv A outer s H0 E).A): { t:TS // JSs (XOf jMA "_law_drawn" jBS P w K mg base f cdv A outer s H0 E) (jB jBS) t} :=
 have nd:=scDrawn.nd
 ⟨_,(jC (jQ (i:=4) nd rfl lL (CP.je (hr.mono (by decide)) gD (j3 (CC.je (hr.mono (by decide)) gD (j3 (jv 0 rfl vL) (j3 (jv 1 rfl vL) j8 j4) j4) j4) j8 jF) jF) jZ)
   (jC (yC (jT qO (CT.je (hr.mono (by decide)) gD (j3 (jv 4 rfl vL) (j3 (je_int) j8 jR) j4) j4) (je_int) (jV _)) (jD (jW (CB.je hr gD (j3 (jv 4 rfl vL) (j3 (je_int) (j3 (je_int) j8 jR) jR) j4) j4))) kI)
   (jD (jW (CB.je hr gD (j3 (jv 4 rfl vL) (j3 (jv 2 rfl vL) (j3 (jv 3 rfl vL) j8 j4) j4) j4) j4)))))⟩
theorem jOR {fd:FuncData}(F:Fun K "_law_drawn" "_law_drawn" jBS f fd)(T:Txt mg)(CC:Can P w K mg base "_law_cell_at" 1 fC fdC ["script","k"] (yY K))(CP:Can P w K mg base "_law_pot" 1 fP fdP ["cell"] qN)(CT:Can P w K mg base "_law_take" 1 fT fdT ["pot","wide"] yB)(CB:Can P w K mg base "_law_box" 3 fB fdB ["pot","most_things","most_pieces"] spBox):FnOk P w K mg base CX0 4 f fd ["script","k","things","pieces"] (jAM K):=by
 refine F.ok scDrawn (fun vs H Q E h=>?_) (fun cdv A outer s H vs Q E hr h=>?_)
 ·obtain⟨_,_,_,_,_,rfl,_⟩:=h
  rfl
 ·obtain⟨a,ns,k,mt,mp,rfl,hS,k0,m0,m1,p0,p1,q⟩:=h
  refine⟨_,(jUY T CC CP CT CB hr).2.h,?_⟩
  refine⟨_,rfl,_,rfl,a,ns,k,rfl,hS,k0,fun c=>?_⟩
  refine⟨c,rfl,fun p N hp hN=>?_⟩
  refine⟨_,rfl,p,N,8,rfl,j5,hN,by decide,by decide,fun N1 r a1 a2 a3=>?_⟩
  rw[jBX]
  refine⟨rfl,_,rfl,ite2 (fun _=>?_) (fun _=>?_)⟩
  ·refine⟨_,rfl,p,N1,16,7,rfl,j5,a1,by decide,by decide,by decide,by decide,fun b N' w ms pcs H1 c1 c2 c3 c4 c5=>?_⟩
   exact q b w ms pcs H1 c3 (c4.wide (by decide) (by decide)) (c5.ext hp)
  ·refine⟨_,rfl,_,rfl,_,rfl,p,N1,mt,mp,rfl,j5,a1,m0,m1,p0,by omega,fun b N' w ms pcs H1 c1 c2 c3 c4 c5=>?_⟩
   exact q b w ms pcs H1 c3 (c4.wide m1 p1) (c5.ext hp)
end
theorem jQJ {H:Hp} :∀ l:List Int,TsAt H (l.map Tr.int) (l.map V.int)
 | []=>rfl
 | i::r=>⟨.int i,_,rfl,rfl,jQJ r⟩
theorem jH3:∀ l:List Int,deps (l.map Tr.int)=0
 | []=>by simp [deps]
 | i::r=>by simp [deps,dep,jH3 r]
theorem iteN {A B:Prop}{c:Bool}(hc:c=false)(h:B):if c=true then A else B:=by
 rw[hc]
 exact iteF h
abbrev leI:Int->Int->Bool:=fun a b=>decide (a<=b)
def srt (l:List Int):List Int:=l.mergeSort leI
theorem jAB (l:List Int):(srt l).Perm l:=List.mergeSort_perm _ _
theorem jLD (l:List Int):(srt l).Pairwise (· <= ·):=by
 have:=List.pairwise_mergeSort (le:=leI) (fun a b c h1 h2=>ar (cV (aF h1) (aF h2))) (fun a b=>by
  rw[iN]
  rcases Int.le_total a b with h | h
  ·exact .inl (ar h)
  ·exact .inr (ar h)) l
 exact this.imp fun h=>aF h
theorem jDR {l m:List Int}(h1:m.Pairwise (· <= ·))(h2:m.Perm l):m=srt l:=
 List.Perm.eq_of_pairwise (fun a b _ _ h1 h2=>Int.le_antisymm h1 h2) h1 (jLD l) (h2.trans (jAB l).symm)
theorem jQ0 {l:List Int}(h:l.Pairwise (· <= ·)):srt l=l:=(jDR h (.refl _)).symm
theorem jLK {a b:List Int}(ra:a.Pairwise (· < ·))(rb:b.Pairwise (· < ·))(h:∀ x,x∈a↔x∈b):a=b:=by
 have na:a.Nodup:=ra.imp fun {a b} h=>by omega
 have nb:b.Nodup:=rb.imp fun {a b} h=>by omega
 have pm:a.Perm b:=(eQ na nb).mpr h
 rw[jDR (ra.imp fun {a b} h=>by omega) pm,jQ0 (rb.imp fun {a b} h=>by omega)]
def plcs (ts lot:List Int):List Int:=(lot.filter fun t=>decide (t∈ts)).map fun t=>((ts.idxOf t:Nat):Int)
def nmd (ts lot:List Int):List Int:=srt (plcs ts lot)
theorem jJ5 (ts lot:List Int):(plcs ts lot).length<=lot.length:=by
 unfold plcs
 rw[ae]
 exact bw _ _
def pick (ts:List Int)(pcs:List (List Int×Int))(ks:List Int):List (List Int×Int):=ks.map fun k=>(nmd ts (j7 pcs k),(pcs.getD k.toNat ([],0)).2)
section
variable {P:Program}{w:World}{K:W.Frag}{mg:Str->Option Value}{base:Heap}
variable {f fM:Addr}{fdM:FuncData}{cdv:Value}{A:Around}{outer:List Env}{s:Shared}{H0:Hp}{E:XK}
abbrev nFits:List Str:=["box","k","done"]
theorem scFits:FnScope nFits ["box","k","done"] (j6 sFits):=⟨rfl,rfl,rfl,by decide+kernel,rfl,by decide+kernel,by decide+kernel⟩
def jIW:Sp:=fun vs H Q _=>∃ (b d:Addr) (wi:Int) (ms:List Int) (pcs:List (List Int×Int)) (i:Nat) (pc:List Int×Int) (ds:List Int),vs=[.ref b, .int (i:Int), .ref d]/\BoxAt H b wi ms pcs/\Good 16 32 wi ms pcs/\pcs[i]?=some pc/\H d=some (.lst (ds.map V.int))/\∀ H',Ext H H'->Q (.bl (fitS ds pc)) H'
def fitsA (T:Txt mg): { t:TS // JSs (XOf nFits "_law_fits" sFits P w K mg base f cdv A outer s H0 E) (jB sFits) t} :=
 have nd:=scFits.nd
 ⟨_,(jD (jW (jMV (jH (jEG rfl) gD T.any (by decide+kernel) (j3 (kR (m:=[none,some 2]) (Nc:=["t","done"]) rfl (qF (jL jO (jL jO (jL jO (jv 0 rfl vL) (je_int) jE) (jv 1 rfl vL) yQ) (je_int) jE)) rfl (by decide+kernel) (by decide+kernel) (jS (psc:=j6 sFits) (by decide+kernel)) (jI (N:=nFits) rfl rfl (by decide+kernel)) (fun cl C fp s H=>jJ (i:=0) (show (["t","done"]:List Str).Nodup by decide+kernel) rfl (yM (by decide+kernel))) (fun cl C fp s H=>kY) (fun cl C fp s H=>(yX jHV (jv 0 rfl (jX (by decide+kernel))) (jv 1 rfl (kW (by decide+kernel))) jCW)) jNB) j8 jK) jK))))⟩
theorem jS4 {fd:FuncData}(F:Fun K "_law_fits" "_law_fits" sFits f fd)(T:Txt mg):FnOk P w K mg base CX0 1 f fd ["box","k","done"] jIW:=by
 refine F.ok scFits (fun vs H Q E h=>?_) (fun cdv A outer s H vs Q E hr h=>?_)
 ·obtain⟨_,_,_,_,_,_,_,_,rfl,_⟩:=h
  rfl
 ·obtain⟨b,d,wi,ms,pcs,i,pc,ds,rfl,hB,g,hpc,hd,k⟩:=h
  obtain⟨qm,qp,ps,b1,b2,b3,b4⟩:=hB.ex
  have pl:=b4.len
  have w0:=g.w0
  have w1:=g.w1
  have hil:i<ps.length:=by
   rw[pl]
   exact(ai.mp hpc).1
  have hy1:ps[i]?=some ps[i]:=aw hil
  obtain⟨pc',hpc',pa,pq,hpe,c1,c2⟩:=b4.at hy1
  rw[hpc] at hpc'
  cases hpc'
  have gp:=g.pg pc (az hpc)
  have lt:=yV _ 0 wi gp.lot.ris gp.lot.bnd
  refine⟨_,(fitsA T).2.h,?_⟩
  refine⟨_,rfl,b,_,2,_,rfl,rfl,SqT.of b1,rfl,_,rfl,qp,_,_,_,rfl,rfl,SqT.of b3,yD (by rw[hy1,hpe]),pa,_,0,_,rfl,rfl,SqT.of c1,rfl,pq,rfl,⟨_,SqT.of c2⟩,jB1 (xs:=pc.1.map V.int) (by rw[ae,ay]; omega) (fun D j σ' H' zs=>(∃ v,σ'=[v,some (.ref d)])/\Ext H H'/\H' D=some (.lst zs)/\H D=none/\zs=((pc.1.take j).map fun t=>decide (t∈ds)).map V.bl) ?_ ?_ ?_ ?_⟩
  ·intro D hD
   exact⟨⟨_,rfl⟩,(Ext.refl _).new hD _,j5,hD,rfl⟩
  ·rintro D j σ' H' zs hD ⟨_,e,h2,_,rfl⟩
   refine⟨e _ _ c2,h2,?_⟩
   rw[ae,ae,bA]
   omega
  ·rintro D j σ' H' zs x hD hx ⟨⟨v,rfl⟩,e,h2,hn,rfl⟩
   obtain⟨z,hz,rfl⟩:∃ z:Int,pc.1[j]?=some z/\V.int z=x:=by
    rw[aN] at hx
    cases hq:pc.1[j]? with
    | none=>rw[hq] at hx; cases hx
    | some z=>rw[hq] at hx; cases hx; exact⟨z,rfl,rfl⟩
   dsimp only [kL,yL]
   rw[aq rfl]
   refine⟨_,rfl,_,rfl,d,_,rfl, .inl (SqL.of (e _ _ hd)),rfl,jAA _,h2,⟨_,rfl⟩,e.updNew hn _,j5,hn,?_⟩
   have:pc.1.take (j+1)=pc.1.take j++[z]:=by
    rw[aV,hz]
    rfl
   rw[this,aJ,aJ]
   show _++[V.bl (inV (.int z) (ds.map V.int))]=_
   rw[jAJ]
   rfl
  ·rintro D σ' H' zs hD ⟨_,e,h2,hn,rfl⟩
   refine⟨D,_,rfl,SqL.of h2,_,rfl,?_⟩
   have ea:(((pc.1.map V.int).length |> fun n=>(pc.1.take n).map fun t=>decide (t∈ds)).any id)=pc.1.any fun t=>decide (t∈ds):=by
    show ((pc.1.take (pc.1.map V.int).length).map fun t=>decide (t∈ds)).any id=_
    rw[ae,aZ,jl]
    rfl
   have:=k H' e
   unfold fitS at this
   rw[<- ea] at this
   exact this
end
def plKv (ts:List Int):List (Key×V):=(List.range ts.length).map fun i=>(Sum.inl (ts.getD i 0),V.int (i:Int))
theorem jOE (ts:List Int):(plKv ts).length=ts.length:=by
 unfold plKv
 rw[ae,cU]
theorem jDU (ts:List Int):(plKv ts).map (·.1)=ts.map Sum.inl:=by
 unfold plKv
 rw[bI]
 refine List.ext_getElem (by simp) fun i h1 h2=>?_
 have:i<ts.length:=by simpa using h1
 simp [List.getD,this]
theorem jOF {ts:List Int}{i:Nat}{k:Key}{v:V}(h:(plKv ts)[i]?=some (k,v)):∃ t,ts[i]?=some t/\k=Sum.inl t/\v=V.int (i:Int):=by
 unfold plKv at h
 rw[aN] at h
 by_cases hi:i<ts.length
 ·rw[eg hi] at h
  simp only [map_some,fU,Prod.mk.injEq] at h
  refine⟨ts[i],by simp [hi],?_,h.2.symm⟩
  rw[<- h.1]
  simp [List.getD,hi]
 ·rw[dc (by simp; omega)] at h
  cases h
theorem jO4 {κ:Type} [DecidableEq κ]{kvs:List (κ×V)}{k:κ}(h:k∉kvs.map (·.1)):valV kvs k=none:=by
 unfold valV
 rw[List.find?_eq_none.mpr fun x hx=>?_]
 ·rfl
 ·intro e
  exact h (aP.mpr ⟨x,hx,aF e⟩)
theorem jPT {κ:Type} [DecidableEq κ]:∀ {kvs:List (κ×V)}{i:Nat}{k:κ}{v:V},(kvs.map (·.1)).Nodup->kvs[i]?=some (k,v)->valV kvs k=some v
 | [],_,_,_,_,h=>by simp at h
 | p::r,0,k,v,_,h=>by
  simp at h
  subst h
  exact jBD rfl
 | p::r,i+1,k,v,nd,h=>by
  rw[bu,cD] at nd
  have h:r[i]?=some (k,v):=by simpa using h
  have hm:k∈r.map (·.1):=aP.mpr ⟨_,az h,rfl⟩
  have ne:¬ p.1=k:=fun e=>nd.1 (by rw[e]; exact hm)
  have:=jPT (i:=i) nd.2 h
  unfold valV at this ⊢
  rw[dO,aH ne]
  exact this
theorem jGP {ts:List Int}(h:ts.Nodup):(ts.map (Sum.inl:Int->Key)).Nodup:=by
 rw[List.Nodup,bz]
 exact h.imp fun hne e=>hne (gt e)
theorem jOD {ts:List Int}(nd:ts.Nodup)(t:Int):valV (plKv ts) (Sum.inl t)=if t∈ts then some (.int ((ts.idxOf t:Nat):Int)) else none:=by
 by_cases h:t∈ts
 ·rw[aq h]
  have hi:=bG.mpr h
  refine jPT (i:=ts.idxOf t) (by rw[jDU]; exact jGP nd) ?_
  unfold plKv
  rw[aN,eg hi]
  show some (Sum.inl (ts.getD (ts.idxOf t) 0),_)=_
  rw[show ts.getD (ts.idxOf t) 0=t by simp [List.getD,hi,fz]]
 ·rw[am h]
  refine jO4 ?_
  rw[jDU]
  intro z
  obtain⟨x,hx,e⟩:=aP.mp z
  exact h (gt e ▸ hx)
section
variable {P:Program}{w:World}{K:W.Frag}{mg:Str->Option Value}{base:Heap}
variable {f:Addr}{cd:Value}{cl:List (Str×Addr)}{A:Around}{outer:List Env}{s:Shared}{H0:Hp}
abbrev yU:Stmt:=(jB kP).getD 1 (.Pass ⟨0,0,0,0⟩)
abbrev jJB:List Str:=["lot","places"]
theorem scNamed:NScope jJB ["lot"] ["places"] (j6 yU):=⟨rfl,rfl,rfl,by decide+kernel,rfl,by decide+kernel,by decide+kernel,fun x h=>by
 have:=ck h
 revert this
 have hl:∀ y∈(j6 yU).names,y.2= .free->y.1= "places" :=by decide+kernel
 intro m
 have:=hl _ m rfl
 exact this ▸ aE,by decide+kernel⟩
def jLE:List V->Sp:=fun fv vs H Q _=>∃ (d a:Addr) (ts lot:List Int),fv=[.ref d]/\vs=[.ref a]/\ts.Nodup/\H d=some (.dK (plKv ts))/\H a=some (.tup (lot.map V.int))/\lot.length<64/\∀ r H',H' r=some (.tup ((nmd ts lot).map V.int))->Ext H H'->Q (.ref r) H'
def jUC (T:Txt mg)(hr:Room 0 (cxN P w K mg base jJB "picked.<locals>.named" (j6 yU) f cd cl A outer s H0).A): { t:TS // JSs (cxN P w K mg base jJB "picked.<locals>.named" (j6 yU) f cd cl A outer s H0) (jB yU) t} :=
 have nd:=scNamed.nd
 ⟨_,(jD (jW (kE jM (gl_n (by decide+kernel)) T.tuple (by decide+kernel) (j3 (jH jH8 (gl_n (by decide+kernel)) T.sorted (by decide+kernel) (j3 (kR (m:=[none,some 1]) (Nc:=["thing","places"]) rfl (qF (jv 0 rfl (qA (by decide+kernel)))) rfl (by decide+kernel) (by decide+kernel) (jS (psc:=j6 yU) (by decide+kernel)) (jI (N:=jJB) rfl rfl (by decide+kernel)) (fun cl C fp s H=>jJ (i:=0) (show (["thing","places"]:List Str).Nodup by decide+kernel) rfl (yM (by decide+kernel))) (fun cl C fp s H=>jD0 (jUR (hu_of hr) (jv 0 rfl (jX (by decide+kernel))) (jv 1 rfl (kW (by decide+kernel))) rfl)) (fun cl C fp s H=>(jFS (hu_of hr) (jv 1 rfl (kW (by decide+kernel))) (jv 0 rfl (jX (by decide+kernel))) yQ)) yI) j8 jK) jK) j8 jF) jF)))⟩
theorem jON (T:Txt mg):FnN P w K mg base 1 "named" "picked.<locals>.named" (jG yU) (jB yU) (j6 yU) ["lot"] ["places"] jLE:=by
 refine jQL scNamed (fun fv vs H Q E h=>?_) (fun cl doc pm c ctv us hl=>?_) (fun A outer s H a c cl vs fv Q E hr h=>?_)
 ·obtain⟨_,_,_,_,_,rfl,_⟩:=h
  rfl
 ·match us,hl with
  | [u],_=>rfl
 ·obtain⟨d,a,ts,lot,rfl,rfl,nd,hd,ha,hl,q⟩:=h
  refine⟨_,(jUC T hr).2.h,?_⟩
  refine⟨_,rfl,a,rfl,⟨_,SqT.of ha⟩,jB1 (xs:=lot.map V.int) (by rw[ae,ay]; omega) (fun D j σ' H' zs=>(∃ v,σ'=[v,some (.ref d)])/\Ext H H'/\H' D=some (.lst zs)/\H D=none/\zs=(plcs ts (lot.take j)).map V.int) ?_ ?_ ?_ ?_⟩
  ·intro D hD
   exact⟨⟨_,rfl⟩,(Ext.refl _).new hD _,j5,hD,rfl⟩
  ·rintro D j σ' H' zs hD ⟨_,e,h2,_,rfl⟩
   refine⟨e _ _ ha,h2,?_⟩
   rw[ae]
   have:=jJ5 ts (lot.take j)
   have:=bh j lot
   omega
  ·rintro D j σ' H' zs x hD hx ⟨⟨v,rfl⟩,e,h2,hn,rfl⟩
   obtain⟨z,hz,rfl⟩:∃ z:Int,lot[j]?=some z/\V.int z=x:=by
    rw[aN] at hx
    cases hq:lot[j]? with
    | none=>rw[hq] at hx; cases hx
    | some z=>rw[hq] at hx; cases hx; exact⟨z,rfl,rfl⟩
   have ht:plcs ts (lot.take (j+1))=plcs ts (lot.take j)++(if z∈ts then [((ts.idxOf z:Nat):Int)] else []):=by
    unfold plcs
    rw[aV,hz,bQ,aJ]
    congr 1
    by_cases hzz:z∈ts <;> simp [hzz]
   have hD':H' d=some (.dK (plKv ts)):=e _ _ hd
   have gv:=jOD nd z
   refine⟨_,rfl,_,rfl,d,_,rfl,DGet.k (k:=Sum.inl z) hD',_,rfl,?_⟩
   rw[gv]
   by_cases hzz:z∈ts
   ·rw[aq hzz] at gv ht ⊢
    refine⟨_,rfl,_,rfl,d,_,rfl,by rw[<- gv]; exact DGet.k (k:=Sum.inl z) hD',h2,⟨_,rfl⟩,e.updNew hn _,j5,hn,?_⟩
    rw[ht,aJ]
    rfl
   ·rw[am hzz] at gv ht ⊢
    refine⟨⟨_,rfl⟩,e,h2,hn,?_⟩
    rw[ht,aW]
  ·rintro D σ' H' zs hD ⟨_,e,h2,hn,rfl⟩
   rw[ae,aZ] at h2
   refine⟨D,_,rfl,SqL.of h2,?_,fun l ns hl hs hp=>?_⟩
   ·have:=jJ5 ts lot
    omega
   refine⟨l,_,rfl, .inl ⟨SqL.of j5,fun r hr=>?_⟩⟩
   refine q r _ ?_ ((e.new hl _).new hr _)
   rw[j5,jDR hs hp]
   rfl
end
theorem jDV {H:Hp}{vs:List V}{pcs:List (List Int×Int)}(h:PcsAt H vs pcs){k:Int}(h0:0<=k)(h1:k<pcs.length):∃ a q,atI vs k=some (.ref a)/\H a=some (.tup [.ref q, .int (pcs.getD k.toNat ([],0)).2])/\H q=some (.tup ((j7 pcs k).map V.int)):=by
 obtain⟨v,hv,a,q,rfl,b1,b2⟩:=h.get (k:=k.toNat) (by omega)
 refine⟨a,q,?_,b1,b2⟩
 have e:((k.toNat:Nat):Int)=k:=by omega
 have:=yD hv
 rw[e] at this
 exact this
section
variable {P:Program}{w:World}{K:W.Frag}{mg:Str->Option Value}{base:Heap}
variable {f c0 tb:Addr}{A:Around}{outer:List Env}{s:Shared}{H0:Hp}{E:XK}
abbrev jCX:List Str:=["box","things","pieces","places","named"]
theorem scPicked:FnScope jCX ["box","things","pieces"] (j6 kP):=⟨rfl,rfl,rfl,by decide+kernel,rfl,by decide+kernel,by decide+kernel⟩
abbrev jU1:Pos:=match yU with
 | .FunctionDef _ _ _ _ _ _ _ _ _ p=>p
 | _=>⟨0,0,0,0⟩
abbrev TabP (H:Hp)(tb:Addr):Prop:=TabOk H tb jU1 "picked.<locals>.named"
theorem jJS:∀ x∈(["places"]:List Str),(j6 yU).names.lookup x=some .free:=by decide+kernel
theorem jEB:FsAt (XOf jCX "picked" kP P w K mg base f (.ref c0) A outer s H0 E) ["places"] [3]:=⟨rfl,fun k x h=>by
 cases k with
 | zero=>cases h; exact⟨3,rfl,rfl, .inl (show (j6 kP).names.lookup ("places" :Str)=some NameKind.cell by decide+kernel)⟩
 | succ k=>cases h⟩
def jDE (tb:Addr):Sp:=fun vs H Q _=>∃ (b a c:Addr) (tp tq:Bool) (w:Int) (ms:List Int) (pcs:List (List Int×Int)) (ts ks:List Int),vs=[.ref b, .ref a, .ref c]/\BoxAt H b w ms pcs/\AtS tp H a (ts.map V.int)/\AtS tq H c (ks.map V.int)/\ts.Nodup/\ts.length<=100/\ms.length<64/\(∀ p∈pcs,p.1.length<64)/\(∀ k∈ks,0<=k/\k<pcs.length)/\ks.length<=1000/\TabP H tb/\
 ∀ r H',BoxAt H' r ts.length (nmd ts ms) (pick ts pcs ks)->ExtT tb H H'->TabP H' tb->Q (.ref r) H'
def jRF (T:Txt mg)(CH:PySem.W.CodeHd base c0 tb)(BM:BltAt base mg)(FN:FnN P w K mg base 1 "named" "picked.<locals>.named" (jG yU) (jB yU) (j6 yU) ["lot"] ["places"] jLE)(hr:Room 1 (XOf jCX "picked" kP P w K mg base f (.ref c0) A outer s H0 E).A): { t:TS // JSs (XOf jCX "picked" kP P w K mg base f (.ref c0) A outer s H0 E) (jB kP) t} :=
 have nd:=scPicked.nd
 ⟨_,(jC (jQ (i:=3) nd rfl (loc_c (by decide+kernel)) (kE (jKS rfl) gD T.dict (by decide+kernel) (j3 (kR (m:=[none,none]) (Nc:=["place","thing"]) rfl (jI4 gD T.enumerate (j3 (jv 1 rfl vL) j8 j4) j4) rfl (by decide+kernel) (by decide+kernel) (jS (psc:=j6 kP) (by decide+kernel)) (jI (N:=jCX) rfl rfl (by decide+kernel)) (fun cl C fp s H=>jCJ (i:=0) (j:=1) rfl (show (["place","thing"]:List Str).Nodup by decide+kernel) rfl rfl (by decide+kernel) (by decide+kernel)) (fun cl C fp s H=>kY) (fun cl C fp s H=>(y8 (j3 (jv 1 rfl (jX (by decide+kernel))) (j3 (jv 0 rfl (jX (by decide+kernel))) j8 j4) j4))) kZ) j8 jK) jK) jZ)
   (jC (jQG (j:=4) nd rfl (loc_c (by decide+kernel)) rfl CH BM (jS (psc:=j6 kP) (by decide+kernel)) rfl rfl)
   (jD (jW (y8 (j3 (jH kB gD T.len (by decide+kernel) (j3 (jv 1 rfl vL) j8 j4) j4) (j3 (jSK (j:=4) FN hr rfl vC (jS (psc:=j6 kP) (by decide+kernel)) jJS jEB (j3 (jL jO (jv 0 rfl vC) (je_int) jE) j8 kD) kD) (j3 (kE jM gD T.tuple (by decide+kernel) (j3 (jP8 (m:=[none,some 4,some 0]) (Nc:=["piece","named","box"]) rfl (jUP (jv 2 rfl vL)) rfl (by decide+kernel) (by decide+kernel) (jS (psc:=j6 kP) (by decide+kernel)) (jI (N:=jCX) rfl rfl (by decide+kernel)) (fun cl C fp s H=>jJ (i:=0) (show (["piece","named","box"]:List Str).Nodup by decide+kernel) rfl (yM (by decide+kernel))) (fun cl C fp s H=>kY) (fun cl C fp s H pins σ I0 hfp=>(y8 (j3 (jP5 (j:=1) I0 hfp FN hr rfl (kW (by decide+kernel)) (jS (psc:=j6 kP) (by decide+kernel)) jJS jEB (j3 (jL kT (jL kT (jL kT (jv 2 rfl (kW (by decide+kernel))) (je_int) jE) (jv 0 rfl (jX (by decide+kernel))) yQ) (je_int) jE) j8 kD) kD) (j3 (jL kT (jL kT (jL kT (jv 2 rfl (kW (by decide+kernel))) (je_int) jE) (jv 0 rfl (jX (by decide+kernel))) yQ) (je_int) jE) j8 kD) jF))) yI) j8 jK) jK) j8 jF) jF) jF))))))⟩
theorem jM0 {fd:FuncData}(F:FunC K "picked" "picked" kP f fd c0)(T:Txt mg)(CH:PySem.W.CodeHd base c0 tb)(BM:BltAt base mg):FnOk P w K mg base CX0 2 f fd ["box","things","pieces"] (jDE tb):=by
 refine F.ok scPicked (fun vs H Q E h=>?_) (fun A outer s H vs Q E hr h=>?_)
 ·obtain⟨_,_,_,_,_,_,_,_,_,_,rfl,_⟩:=h
  rfl
 ·obtain⟨b,a,c,tp,tq,w,ms,pcs,ts,ks,rfl,hB,ha,hc,nd,lts,lms,lpc,hks,lks,tab,q⟩:=h
  refine⟨_,(jRF T CH BM (jON T) hr).2.h,?_⟩
  obtain⟨qm,qp,ps,b1,b2,b3,b4⟩:=id hB.ex
  have pl:=b4.len
  refine⟨_,rfl,tp,a,rfl,⟨_,ha.sq⟩,jH6 (xs:=ts.map V.int) (by rw[ae,ay]; omega) (fun D j σ' H' zs=>(∃ v v',σ'=[v,v'])/\Ext H H'/\H' D=some (.lst zs)/\H D=none/\zs.length=j/\∀ i,i<j->∃ r:Addr,zs[i]?=some (V.ref r)/\H' r=some (.tup [.int (ts.getD i 0), .int (i:Int)])) ?_ ?_ ?_ ?_⟩
  ·intro D hD
   exact⟨⟨_,_,rfl⟩,(Ext.refl _).new hD _,j5,hD,rfl,fun i hi=>absurd hi (eF _)⟩
  ·rintro D j σ' H' zs hD ⟨_,e,h2,_,hl,_⟩
   exact⟨(ha.ext e).sq,h2,by omega⟩
  ·rintro D j σ' H' zs x X hD hx hX ⟨⟨v,v',rfl⟩,e,h2,hn,hl,hz⟩
   obtain⟨z,hz1,rfl⟩:∃ z:Int,ts[j]?=some z/\V.int z=x:=by
    rw[aN] at hx
    cases hq:ts[j]? with
    | none=>rw[hq] at hx; cases hx
    | some z=>rw[hq] at hx; cases hx; exact⟨z,rfl,rfl⟩
   have hgd:ts.getD j 0=z:=by rw[ak,hz1]; rfl
   refine⟨X,_,rfl,SqT.of j5,rfl,_,_,rfl,_,_,rfl,rfl,?_⟩
   dsimp only [kL,yL]
   rw[aq rfl]
   refine⟨_,rfl,_,rfl,by show (2:Nat)<=_; decide,fun r H2 d2 e2=>?_⟩
   have e1:Ext H' (L2.upd H' X (.tup [.int (j:Int), .int z])):=(Ext.refl _).new hX _
   have hD2:H2 D=some (.lst zs):=e2 _ _ (e1 _ _ h2)
   have rD:r≠D:=fun z=>by rw[z,hD2] at d2; cases d2
   refine⟨hD2,⟨_,_,rfl⟩,((e.trans e1).trans e2).updNew hn _,j5,hn,by rw[aB,hl]; rfl,fun i hi=>?_⟩
   by_cases hij:i=j
   ·subst hij
    refine⟨r,?_,?_⟩
    ·rw[aY (by omega),hl,gF]
     rfl
    ·rw[j9 rD,d2,hgd]
   ·obtain⟨r',z1,z2⟩:=hz i (by omega)
    have z3:=e2 _ _ (e1 _ _ z2)
    refine⟨r',?_,?_⟩
    ·rw[bK (by omega)]
     exact z1
    ·rw[j9 (fun y=>by rw[y,hD2] at z3; cases z3)]
     exact z3
  ·rintro D σ' H1 zs hD ⟨_,e1,h2,hn,hl,hz⟩
   rw[ae] at hl hz
   refine⟨D,zs,plKv ts,rfl,h2,by rw[jOE]; exact hl,fun i k v hk=>?_,by rw[jDU]; exact jGP nd,fun d hd=>?_⟩
   ·obtain⟨t,z1,rfl,rfl⟩:=jOF hk
    obtain⟨r,z2,z3⟩:=hz i (ai.mp z1).1
    refine⟨r,z2,?_⟩
    rw[z3]
    show _=some (HO.tup [V.int t,V.int (i:Int)])
    rw[ak,z1]
    rfl
   have e2:Ext H (L2.upd H1 d (.dK (plKv ts))):=e1.new hd _
   have d2:(L2.upd H1 d (.dK (plKv ts))) d=some (.dK (plKv ts)):=j5
   generalize L2.upd H1 d (.dK (plKv ts))=H2 at e2 d2
   refine⟨tab.ext e2,fun fa fc H3 k1 k2 k3 k4 k5=>?_⟩
   have tab3:TabP H3 tb:= .inr ⟨fc,k3,k2⟩
   have E3:ExtT tb H H3:=(ExtT.of e2).trans k4
   have B1:=E3.at tab b1
   have B2:=E3.at tab b2
   have B3:=E3.at tab b3
   have dd:=k4.at (tab.ext e2) d2
   have aa:=E3.seq tab ha
   have cc:=E3.seq tab hc
   refine⟨_,rfl,a,_,rfl,aa.or,?_⟩
   refine⟨fa,rfl,_,rfl,b,_,1,_,rfl,rfl,SqT.of B1,rfl,fc,[.ref d],k1,k2,rfl,d,qm,ts,ms,rfl,rfl,nd,dd,B2,lms,fun r1 H4 d4 e4=>?_⟩
   refine jPL (tp:=tq) (xs:=ks.map V.int) (cc.ext e4) (fun Q h=>⟨_,rfl,h⟩) (by rw[ae,ay]; omega) (fun D j σ' H' zs=>(∃ v,σ'=[v,some (.ref fa),some (.ref b)])/\Ext H4 H'/\H' D=some (.lst zs)/\H4 D=none/\PcsAt H' zs (pick ts pcs (ks.take j))) ?_ ?_ ?_ ?_
   ·intro D hD
    exact⟨⟨_,rfl⟩,(Ext.refl _).new hD _,j5,hD,trivial⟩
   ·rintro D j σ' H' zs hD ⟨_,e,h2,_,pz⟩
    refine⟨cc.ext (e4.trans e),h2,?_⟩
    rw[pz.len]
    unfold pick
    rw[ae]
    exact bh _ _
   ·rintro D j σ' H' zs x hD hx ⟨⟨v,rfl⟩,e,h2,hn,pz⟩
    obtain⟨k,hk,rfl⟩:∃ z:Int,ks[j]?=some z/\V.int z=x:=by
     rw[aN] at hx
     cases hq:ks[j]? with
     | none=>rw[hq] at hx; cases hx
     | some z=>rw[hq] at hx; cases hx; exact⟨z,rfl,rfl⟩
    have hkb:=hks k (az hk)
    have e34:=e4.trans e
    obtain⟨pa,pq,g1,g2,g3⟩:=jDV b4 hkb.1 hkb.2
    have g2':=e34 _ _ (E3.at tab g2)
    have g3':=e34 _ _ (E3.at tab g3)
    have hlen:(j7 pcs k).length<64:=by
     unfold j7
     rw[jFU (by omega)]
     exact lpc _ (cz _)
    dsimp only [kL,yL]
    rw[aq rfl]
    refine⟨fa,rfl,_,rfl,b,_,2,_,rfl,rfl,SqT.of (e34 _ _ B1),rfl,_,rfl,qp,_,k,_,rfl,rfl,SqT.of (e34 _ _ B3),g1,pa,_,0,_,rfl,rfl,SqT.of g2',rfl,fc,[.ref d],e34 _ _ k1,e34 _ _ k2,rfl,d,pq,ts,j7 pcs k,rfl,rfl,nd,e34 _ _ dd,g3',hlen,fun r2 H5 d5 e5=>?_⟩
    have e35:=e34.trans e5
    refine⟨_,rfl,b,_,2,_,rfl,rfl,SqT.of (e35 _ _ B1),rfl,_,rfl,qp,_,k,_,rfl,rfl,SqT.of (e35 _ _ B3),g1,pa,_,1,_,rfl,rfl,SqT.of (e5 _ _ g2'),rfl,by show (2:Nat)<=_; decide,fun r3 H6 d6 e6=>?_⟩
    have hD6:H6 D=some (.lst zs):=e6 _ _ (e5 _ _ h2)
    refine⟨hD6,⟨_,rfl⟩,((e.trans e5).trans e6).updNew hn _,j5,hn,?_⟩
    have ez:pick ts pcs (ks.take (j+1))=pick ts pcs (ks.take j)++[(nmd ts (j7 pcs k),(pcs.getD k.toNat ([],0)).2)]:=by
     unfold pick
     rw[aV,hk,aJ]
     rfl
    rw[ez]
    exact PcsAt.mono (Tups.upd hD6 _) (PcsAt.snoc (p:=(nmd ts (j7 pcs k),(pcs.getD k.toNat ([],0)).2)) ⟨r3,r2,rfl,d6,e6 _ _ d5⟩ (pz.mono (e5.trans e6).tups))
   ·rintro D σ' H5 zs hD ⟨_,e5,h5,hn5,pz⟩
    rw[ae,aZ] at pz
    refine⟨D,_,rfl, .inl ⟨SqL.of h5,fun l hl=>?_⟩⟩
    have e6:Ext H5 (L2.upd H5 l (.tup zs)):=(Ext.refl _).new hl _
    have d6:(L2.upd H5 l (.tup zs)) l=some (.tup zs):=j5
    generalize L2.upd H5 l (.tup zs)=H6 at e6 d6
    refine⟨by show (3:Nat)<=_; decide,fun r H7 d7 e7=>?_⟩
    have e47:=(e5.trans e6).trans e7
    refine q r H7 ⟨r1,l,zs,?_,e47 _ _ d4,e7 _ _ d6,pz.mono (e6.trans e7).tups⟩ (E3.trans (ExtT.of (e4.trans e47))) (tab3.ext (e4.trans e47))
    rw[d7,ae]
end
theorem jI0 {n:Int}{ks:List Int}(h:ks.Pairwise (· < ·))(hb:∀ k∈ks,0<=k/\k<n):lotB n (.tup (ks.map Ob.int))=true:=by
 have hv:(ks.map Ob.int).map val=ks:=by rw[bI]; exact fN _
 show ((ks.map Ob.int).all (upB 0 (n - 1))&&(adj ((ks.map Ob.int).map val)).all id)=true
 rw[hv,ci,bC,bC]
 refine⟨fun x hx=>?_,fun x hx=>?_⟩
 ·obtain⟨k,hk,rfl⟩:=aP.mp hx
  have:=hb k hk
  show (decide (0<=k)&&decide (k<=n - 1))=true
  rw[ar (by omega),ar (by omega)]
  rfl
 ·unfold adj at hx
  obtain⟨i,hi,rfl⟩:=aP.mp hx
  have hi:=bM.mp hi
  refine ar ?_
  rw[jFU (by omega),jFU (by omega)]
  exact bL.mp h i (i+1) (by omega) (by omega) (by omega)
theorem jSD (ns:List Int):∀ i,i<=ns.length->((ns.take i).Nodup->PyProof.Rows.firstMet (fun i=>ns.getD i 0) i=ns.take i)/\(¬ (ns.take i).Nodup->(PyProof.Rows.firstMet (fun i=>ns.getD i 0) i).length<i):=by
 intro i
 induction i with
 | zero=>intro _; exact⟨fun _=>rfl,fun h=>absurd fX h⟩
 | succ i ih=>
  intro hi
  obtain⟨a1,a2⟩:=ih (by omega)
  have ht:ns.take (i+1)=ns.take i++[ns.getD i 0]:=by
   rw[aV,jFU (by omega),aw (by omega)]
   rfl
  have hm:∀ k,(PyProof.Rows.firstMet (fun i=>ns.getD i 0) i).any (· ==k)=(ns.take i).any (· ==k):=fun k=>by
   rw[PyProof.Rows.firstMet_any]
   congr 1
   refine List.ext_getElem (by simp; omega) fun j h1 h2=>?_
   have:j<ns.length:=by simp at h2; omega
   simp [List.getD,this]
  have hmem:(ns.take i).any (· ==ns.getD i 0)=decide (ns.getD i 0∈ns.take i):=by
   rw[bS,gh,bo]
   exact⟨fun ⟨x,h1,h2⟩=>(eq_of_beq h2) ▸ h1,fun h=>⟨_,h,io _⟩⟩
  have hnd:(ns.take i++[ns.getD i 0]).Nodup↔(ns.take i).Nodup/\¬ ns.getD i 0∈ns.take i:=by
   rw[dU]
   constructor
   ·rintro ⟨h1,_,h3⟩
    exact⟨h1,fun z=>h3 _ z _ aE rfl⟩
   ·rintro ⟨h1,h2⟩
    exact⟨h1,by simp,fun a ha b hb e=>h2 (by rw[aO] at hb; rw[<- hb,<- e]; exact ha)⟩
  rw[ht,hnd,PyProof.Rows.firstMet_succ]
  unfold PyProof.Rows.step_dedup
  rw[hm,hmem]
  have fl:=PyProof.Rows.firstMet_length_le (fun i=>ns.getD i 0) i
  by_cases hin:ns.getD i 0∈ns.take i
  ·rw[ar hin,aq rfl]
   exact⟨fun h=>absurd hin h.2,fun _=>by omega⟩
  ·rw[aH hin,am aj]
   refine⟨fun h=>by rw[a1 h.1],fun h=>?_⟩
   have:=a2 fun z=>h ⟨z,hin⟩
   rw[aB]
   show _+1<_
   omega
theorem jUF {ns:List Int}(h:ns.Nodup):(PyProof.Rows.firstMet (fun i=>ns.getD i 0) ns.length).length=ns.length:=by
 rw[(jSD ns ns.length (ao _)).1 (by rw[aZ]; exact h),aZ]
def lftT (w:Int)(held:List Int):List Int:=(upto w.toNat).filter fun t=>!decide (t∈held)
def lftP (pcs:List (List Int×Int))(ts:List Int):List Int:=(upto pcs.length).filter fun k=>(j7 pcs k).all fun t=>decide (t∈ts)
theorem jH2 {α:Type}{p:α->Bool}{l:List α}{i:Nat}{x:α}(h:l[i]?=some x):(l.take (i+1)).filter p=(l.take i).filter p++(if p x=true then [x] else []):=by
 rw[aV,h,bQ]
 congr 1
 rw[Option.toList,cM]
 split <;> rfl
theorem jK0 (n:Nat):(upto n).Nodup:=(yF n).ris.imp fun h=>by omega
theorem jJT {f:Int->List Int} :∀ {ks:List Int},(∀ k∈ks,(f k).length<=16)->∀ (i:Nat),ks.length<=i->(ks.flatMap f).length<=16*i
 | [],_,_,_=>by rw[List.flatMap_nil]; exact br _
 | a::r,h,i,hi=>by
  rw[g7,aB]
  have h1:=h a aE
  rw[aR] at hi
  have:=jJT (f:=f) (ks:=r) (fun k hk=>h k (aK _ hk)) (i - 1) (by omega)
  omega
theorem jFM {w:Int}{ts:List Int}(h:ts.Pairwise (· < ·))(b:∀ z∈ts,0<=z/\z<w)(hw:w<=16):ts.length<=16:=by
 have:=yV ts 0 w h b
 omega
theorem jCS {w:Int}{ms:List Int}{pcs:List (List Int×Int)}(g:Good 16 32 w ms pcs){k:Int}(h0:0<=k)(h1:k<pcs.length):(j7 pcs k).length<=16:=by
 have:=g.at (k:=k.toNat) (by omega)
 exact jFM this.lot.ris this.lot.bnd g.w1
theorem jSM {K:W.Frag}{m:List (Option Nat)}{σ:St}{H:Hp}{Q:VK}{q t:Addr}{tp:Bool}{lot ts:List Int}(hq:H q=some (.tup (lot.map V.int)))(ht:AtS tp H t (ts.map V.int))(hl:lot.length<=1000)(h0:blkσ m σ=[none,some (.ref t)])
  (k:∀ D H',H' D=some (.lst ((lot.map fun x=>decide (x∈ts)).map V.bl))->Ext H H'->H D=none->Q (.ref D) H'):qL m (kL 0) yL (tOp (rIn K false) (tVar 0) (tVar 1)) σ Q (Itt K q) H:=by
 refine jB1 (xs:=lot.map V.int) (by rw[ae,ay]; omega) (fun D j σ' H' zs=>(∃ v,σ'=[v,some (.ref t)])/\Ext H H'/\H' D=some (.lst zs)/\H D=none/\zs=((lot.take j).map fun x=>decide (x∈ts)).map V.bl) ?_ ?_ ?_ ?_
 ·intro D hD
  exact⟨⟨_,h0⟩,(Ext.refl _).new hD _,j5,hD,rfl⟩
 ·rintro D j σ' H' zs hD ⟨_,e,h2,_,rfl⟩
  refine⟨e _ _ hq,h2,?_⟩
  rw[ae,ae]
  exact bh _ _
 ·rintro D j σ' H' zs x hD hx ⟨⟨v,rfl⟩,e,h2,hn,rfl⟩
  obtain⟨z,hz,rfl⟩:∃ z:Int,lot[j]?=some z/\V.int z=x:=by
   rw[aN] at hx
   cases hq:lot[j]? with
   | none=>rw[hq] at hx; cases hx
   | some z=>rw[hq] at hx; cases hx; exact⟨z,rfl,rfl⟩
  dsimp only [kL,yL]
  rw[aq rfl]
  refine⟨_,rfl,_,rfl,t,_,rfl,(ht.ext e).or,rfl,jAA _,h2,⟨_,rfl⟩,e.updNew hn _,j5,hn,?_⟩
  have:lot.take (j+1)=lot.take j++[z]:=by
   rw[aV,hz]
   rfl
  rw[this,aJ,aJ]
  show _++[V.bl (inV (.int z) (ts.map V.int))]=_
  rw[jAJ]
  rfl
 ·rintro D σ' H' zs hD ⟨_,e,h2,hn,rfl⟩
  rw[ae,aZ] at h2
  exact k D H' h2 e hn
theorem jV4 {lot:List Int}{p:Int->Bool} :(lot.map p).all id=lot.all p:=by rw[iC]; rfl
theorem jFO {pcs:List (List Int×Int)}{ts:List Int} :∀ k∈lftP pcs ts,0<=k/\k<pcs.length:=fun k hk=>(yF pcs.length).bnd k (be.mp hk).1
theorem jKG (w:Int)(held:List Int):(lftT w held).Nodup:=(jK0 _).sublist cZ
theorem jOZ (w:Int)(held:List Int):(lftT w held).length<=w.toNat:=by
 have:=bw (fun t=>!decide (t∈held)) (upto w.toNat)
 rw[jBF] at this
 exact this
theorem jJI (pcs:List (List Int×Int))(ts:List Int):(lftP pcs ts).length<=pcs.length:=by
 have:=bw (fun k=>(j7 pcs k).all fun t=>decide (t∈ts)) (upto pcs.length)
 rw[jBF] at this
 exact this
theorem pc_lt {w:Int}{ms:List Int}{pcs:List (List Int×Int)}(g:Good 16 32 w ms pcs):∀ p∈pcs,p.1.length<64:=fun p hp=>by
 have:=g.pg p hp
 have:=jFM this.lot.ris this.lot.bnd g.w1
 omega
theorem jQK {ts:List Int}(h:ts.Pairwise (· < ·)){a b:Int}(ha:a∈ts)(hb:b∈ts)(hab:a<b):ts.idxOf a<ts.idxOf b:=by
 have ia:=bG.mpr ha
 have ib:=bG.mpr hb
 have ea:=fz ia
 have eb:=fz ib
 rcases gX (ts.idxOf a) (ts.idxOf b) with q | q | q
 ·exact q
 ·exfalso
  have e2:ts[ts.idxOf a]=ts[ts.idxOf b]:=by congr 1
  omega
 ·exfalso
  have:=bL.mp h _ _ ib ia q
  omega
theorem jJ4 {ts lot:List Int}(h:ts.Pairwise (· < ·))(hl:lot.Pairwise (· < ·)):(plcs ts lot).Pairwise (· < ·):=by
 unfold plcs
 rw[bz]
 refine h9 (R:=fun a b=>a<b) (fun {a b} ha hb hab=>?_) (hl.sublist cZ)
 have:=jQK h (aF (be.mp ha).2) (aF (be.mp hb).2) hab
 omega
theorem jS8 {ts lot:List Int}(h:ts.Pairwise (· < ·))(hl:lot.Pairwise (· < ·)):nmd ts lot=plcs ts lot:=jQ0 ((jJ4 h hl).imp fun h=>by omega)
theorem jFN (w:Int)(held:List Int):(lftT w held).Pairwise (· < ·):=(yF _).ris.sublist cZ
theorem jDJ (pcs:List (List Int×Int))(ts:List Int):(lftP pcs ts).Pairwise (· < ·):=(yF _).ris.sublist cZ
theorem jJF {n:Nat}{t:Int} :t∈upto n↔0<=t/\t<n:=by
 constructor
 ·exact fun h=>(yF n).bnd t h
 ·intro h
  unfold upto
  exact aP.mpr ⟨t.toNat,bM.mpr (by omega),by omega⟩
theorem jCD {w:Int}{held:List Int}{t:Int}(w0:0<=w):t∈lftT w held↔(0<=t/\t<w)/\t∉held:=by
 unfold lftT
 rw[be,jJF,dz,cK]
 constructor
 ·rintro ⟨h1,h2⟩
  exact⟨by omega,h2⟩
 ·rintro ⟨h1,h2⟩
  exact⟨by omega,h2⟩
theorem jCK {ts:List Int}{t:Int}(h:t∈ts):ts[ts.idxOf t]?=some t/\∀ m,m<ts.idxOf t->ts[m]?≠some t:=by
 have hi:=bG.mpr h
 refine⟨by rw[aw hi,fz],fun m hm e=>?_⟩
 have hm':m<ts.length:=by omega
 rw[aw hm'] at e
 have:=List.not_of_lt_findIdx (p:=(· ==t)) (xs:=ts) (i:=m) (by unfold List.idxOf at hm; exact hm)
 rw[bg e] at this
 simp at this
section
variable {P:Program}{w:World}{K:W.Frag}{mg:Str->Option Value}{base:Heap}
variable {f fF fT:Addr}{fdF fdT:FuncData}{cdv:Value}{A:Around}{outer:List Env}{s:Shared}{H0:Hp}{E:XK}
abbrev jMB:List Str:=["pot","box","held","found","k"]
theorem scApart:FnScope jMB ["pot","box"] (j6 jBT):=⟨rfl,rfl,rfl,by decide+kernel,rfl,by decide+kernel,by decide+kernel⟩
def jAN:Sp:=fun vs H Q _=>∃ (p b:Addr) (N w:Int) (ms:List Int) (pcs:List (List Int×Int)),vs=[.ref p, .ref b]/\H p=some (.lst [.int N])/\0<=N/\BoxAt H b w ms pcs/\Good 16 32 w ms pcs/\
 ∀ r ks N' H',H' r=some (.tup (ks.map V.int))->Ris pcs.length ks->(ks.flatMap (j7 pcs)).Nodup->H' p=some (.lst [.int N'])->0<=N'->Keep H H' p->Q (.ref r) H'
def jV2 (T:Txt mg)(CT:Can P w K mg base "_law_take" 1 fT fdT ["pot","wide"] yB)(CF:Can P w K mg base "_law_fits" 1 fF fdF ["box","k","done"] jIW)(hr:Room 1 (XOf jMB "_law_apart" jBT P w K mg base f cdv A outer s H0 E).A): { t:TS // JSs (XOf jMB "_law_apart" jBT P w K mg base f cdv A outer s H0 E) (jB jBT) t} :=
 have nd:=scApart.nd
 ⟨_,(jC (jQ (i:=2) nd rfl lL (yW j8) jD5)
   (jC (jQ (i:=3) nd rfl lL (yW j8) jD5)
   (jC (jBU cf rfl (jAU gD T.range (j3 (jH kB gD T.len (by decide+kernel) (j3 (jL jO (jv 1 rfl vL) (je_int) jE) j8 kD) kD) j8 jF) jF) (jJ (i:=4) nd rfl lL) (jD (yC (jt_w (jQE (jT qO (CT.je hr gD (j3 (jv 0 rfl vL) (j3 (je_int) j8 jR) j4) j4) (je_int) (jV _)) (jMR (jDB (CF.je hr gD (j3 (jv 1 rfl vL) (j3 (jv 4 rfl vL) (j3 (jv 2 rfl vL) j8 j4) j4) j4) j4) jB7)))) (jC (jC0 (je_bm bV dX dY jB8 (jv 3 rfl vL) (j3 (jv 4 rfl vL) j8 j4) j4) jZ)
   (jD (jC0 (je_bm bV ic ie jEX (jv 2 rfl vL) (j3 (jL jO (jL jO (jL jO (jv 1 rfl vL) (je_int) jE) (jv 4 rfl vL) yQ) (je_int) jE) j8 kD) kD) jZ))) kI)) kZ)
   (jD (jW (kE jM gD T.tuple (by decide+kernel) (j3 (jv 3 rfl vL) j8 j4) j4))))))⟩
theorem jOS {fd:FuncData}(F:Fun K "_law_apart" "_law_apart" jBT f fd)(T:Txt mg)(CT:Can P w K mg base "_law_take" 1 fT fdT ["pot","wide"] yB)(CF:Can P w K mg base "_law_fits" 1 fF fdF ["box","k","done"] jIW):FnOk P w K mg base CX0 2 f fd ["pot","box"] jAN:=by
 refine F.ok scApart (fun vs H Q E h=>?_) (fun cdv A outer s H vs Q E hr h=>?_)
 ·obtain⟨_,_,_,_,_,_,rfl,_⟩:=h
  rfl
 ·obtain⟨p,b,N,w,ms,pcs,rfl,hp,hN,hB,g,q⟩:=h
  refine⟨_,(jV2 T CT CF hr).2.h,?_⟩
  obtain⟨qm,qp,ps,b1,b2,b3,b4⟩:=id hB.ex
  have pl:=b4.len
  have gpl:=g.pl
  have w1:=g.w1
  have np:∀ {c:Addr}{xs:List V},H c=some (.tup xs)->c≠p:=fun h=>ne_of h hp (by intro z; cases z)
  refine⟨by show (0:Nat)<=_; decide,fun l H1 d1 e1 n1=>?_⟩
  refine⟨by show (0:Nat)<=_; decide,fun l2 H2 d2 e2 n2=>?_⟩
  have E2:=e1.trans e2
  have ll:l≠l2:=fun z=>by rw[<- z,d1] at n2; cases n2
  have lp:l≠p:=fun z=>by rw[z,hp] at n1; cases n1
  have l2p:l2≠p:=fun z=>by rw[z] at n2; rw[e1 _ _ hp] at n2; cases n2
  have nl:∀ {c:Addr}{o:HO},H c=some o->c≠l:=fun h z=>by rw[z,n1] at h; cases h
  have nl2:∀ {c:Addr}{o:HO},H c=some o->c≠l2:=fun h z=>by rw[z] at h; rw[e1 _ _ h] at n2; cases n2
  refine⟨_,rfl,b,_,2,_,rfl,rfl,SqT.of (E2 _ _ b1),rfl,qp,_,rfl, .inr (SqT.of (E2 _ _ b3)),(ps.length:Int),rfl,by omega,by omega,jBA (n:=ps.length) (fun i σ H'=>(∃ v4,σ=[some (.ref p),some (.ref b),some (.ref l),some (.ref l2),v4])/\Keep H H' p/\(∃ N',H' p=some (.lst [.int N'])/\0<=N')/\∃ ks:List Int,H' l2=some (.lst (ks.map V.int))/\H' l=some (.lst ((ks.flatMap (j7 pcs)).map V.int))/\Ris i ks/\Taken w (ks.flatMap (j7 pcs))) ⟨⟨_,rfl⟩,fun c o h _=>E2 _ _ h,⟨N,E2 _ _ hp,hN⟩,[],d2,e2 _ _ d1,⟨.nil,fun z hz=>by cases hz⟩,⟨fX,fun t ht=>by cases ht⟩⟩ ?_ ?_⟩
  ·rintro i σ H' hi ⟨⟨v4,rfl⟩,kp,⟨N',hp',hN'⟩,ks,h2,h1,rk,tk⟩
   have e0:(0+(i:Int))=(i:Int):=by omega
   have hi':i<pcs.length:=by omega
   have tkl:=tk.len g.w0
   rw[e0]
   refine⟨_,rfl,p,N',3,rfl,hp',hN',by decide,by decide,fun N2 r a1 a2 a3=>?_⟩
   have kp2:Keep H (L2.upd H' p (.lst [.int N2])) p:=fun c o h n=>by rw[j9 n]; exact kp c o h n
   have hp2:(L2.upd H' p (.lst [.int N2])) p=some (.lst [.int N2]):=j5
   have h2':(L2.upd H' p (.lst [.int N2])) l2=some (.lst (ks.map V.int)):=by rw[j9 l2p]; exact h2
   have h1':(L2.upd H' p (.lst [.int N2])) l=some (.lst ((ks.flatMap (j7 pcs)).map V.int)):=by rw[j9 lp]; exact h1
   generalize L2.upd H' p (.lst [.int N2])=H3 at kp2 hp2 h2' h1'
   have rk':Ris (i+1:Nat) ks:=⟨rk.ris,fun z hz=>by have:=rk.bnd z hz; omega⟩
   refine⟨rfl,_,rfl,ite2 (fun _=>?_) (fun _=>iteF ⟨⟨_,rfl⟩,kp2,⟨N2,hp2,a1⟩,ks,h2',h1',rk',tk⟩)⟩
   have TB:Tups H H3:=fun c xs h=>kp2 c _ h (np h)
   refine⟨_,rfl,_,rfl,_,rfl,b,l,w,ms,pcs,i,pcs.getD i ([],0),_,rfl,hB.mono TB,g,by simp [List.getD,hi'],h1',fun H4 e4=>⟨_,rfl,?_⟩⟩
   have kp4:Keep H H4 p:=fun c o h n=>e4 _ _ (kp2 c o h n)
   refine ite2 (fun hz=>?_) (fun _=>⟨⟨_,rfl⟩,kp4,⟨N2,e4 _ _ hp2,a1⟩,ks,e4 _ _ h2',e4 _ _ h1',rk',tk⟩)
   have gp:=g.at hi'
   obtain⟨pa,pq,g1,g2,g3⟩:=jDV b4 (k:=i) (by omega) (by omega)
   have h24:=e4 _ _ h2'
   have h14:=e4 _ _ h1'
   have kl:ks.length<=32:=by
    have:=yV ks 0 i rk.ris rk.bnd
    omega
   refine⟨_,rfl, .inl ⟨rfl,_,SqL.of h24⟩,_,rfl,l2,_,_,rfl,rfl,h24,by rw[ae,ay]; omega,?_⟩
   have u1:(L2.upd H4 l2 (.lst (ks.map V.int++[.int (i:Int)]))) l=some (.lst ((ks.flatMap (j7 pcs)).map V.int)):=by rw[j9 ll]; exact h14
   have u2:(L2.upd H4 l2 (.lst (ks.map V.int++[.int (i:Int)]))) l2=some (.lst ((ks++[(i:Int)]).map V.int)):=by rw[j5,aJ]; rfl
   have u3:(L2.upd H4 l2 (.lst (ks.map V.int++[.int (i:Int)]))) p=some (.lst [.int N2]):=by rw[j9 l2p.symm]; exact e4 _ _ hp2
   have u4:Keep H (L2.upd H4 l2 (.lst (ks.map V.int++[.int (i:Int)]))) p:=fun c o h n=>by rw[j9 (nl2 h)]; exact kp4 c o h n
   generalize L2.upd H4 l2 (.lst (ks.map V.int++[.int (i:Int)]))=H5 at u1 u2 u3 u4
   have TB5:Tups H H5:=fun c xs h=>u4 c _ h (np h)
   have lt:=jCS g (k:=i) (by omega) (by omega)
   refine⟨_,rfl, .inl ⟨rfl,_,SqL.of u1⟩,_,rfl,b,_,2,_,rfl,rfl,SqT.of (TB5 _ _ b1),rfl,_,rfl,qp,_,_,_,rfl,rfl,SqT.of (TB5 _ _ b3),g1,pa,_,0,_,rfl,rfl,SqT.of (TB5 _ _ g2),rfl,l,pq,_,_,rfl,rfl,u1,TB5 _ _ g3,?_,⟨_,rfl⟩,fun c o h n=>?_,⟨N2,?_,a1⟩,ks++[(i:Int)],?_,?_,⟨?_,fun z hz=>?_⟩,?_⟩
   ·rw[ae,ae,ay]
    omega
   ·rw[j9 (nl h)]
    exact u4 c o h n
   ·rw[j9 lp.symm]
    exact u3
   ·rw[j9 ll.symm]
    exact u2
   ·rw[j5,gC,aJ]
    simp
   ·refine bW.mpr ⟨rk.ris,fJ _ _,fun x hx y hy=>?_⟩
    rw[aO.mp hy]
    exact(rk.bnd x hx).2
   ·rcases aL.mp hz with y | y
    ·have:=rk.bnd z y
     omega
    ·rw[aO.mp y]
     omega
   ·have:=tk.more gp hz
    rw[gC]
    have e2: [(i:Int)].flatMap (j7 pcs)=(pcs.getD i ([],0)).1:=by
     rw[g7,List.flatMap_nil,aW]
     unfold j7
     rw[bq]
    rw[e2]
    exact this
  ·rintro σ H3 ⟨⟨v4,rfl⟩,kp,⟨N',hp',hN'⟩,ks,h2,h1,rk,tk⟩
   refine⟨_,rfl,l2,_,rfl, .inl ⟨SqL.of h2,fun r hr=>?_⟩⟩
   refine q r ks N' _ j5 (by rw[pl] at rk; exact rk) tk.nd ?_ hN' fun c o h n=>?_
   ·rw[j9 (jA hp' hr)]
    exact hp'
   ·rw[j9 (jA (kp c o h n) hr)]
    exact kp c o h n
end
section
variable {P:Program}{w:World}{K:W.Frag}{mg:Str->Option Value}{base:Heap}
variable {f fL fK tb:Addr}{fdL fdK:FuncData}{cdv:Value}{A:Around}{outer:List Env}{s:Shared}{H0:Hp}{E:XK}
abbrev jDZ:List Str:=["box","some","held","number","things","apart"]
theorem scBehind:FnScope jDZ ["box","some"] (j6 yP):=⟨rfl,rfl,rfl,by decide+kernel,rfl,by decide+kernel,by decide+kernel⟩
structure BhAt (H:Hp)(r:Addr)(w:Int)(ms:List Int)(pcs:List (List Int×Int))(ts aps:List Int):Prop where
 ex:∃ rb rt rp,H r=some (.tup [.ref rb, .ref rt, .ref rp])/\BoxAt H rb ts.length (nmd ts ms) (pick ts pcs aps)/\H rt=some (.tup (ts.map V.int))/\H rp=some (.tup (aps.map V.int))
def jA6 (tb:Addr):Sp:=fun vs H Q _=>∃ (b a:Addr) (w:Int) (ms:List Int) (pcs:List (List Int×Int)) (ks:List Int),vs=[.ref b, .ref a]/\BoxAt H b w ms pcs/\Good 16 32 w ms pcs/\H a=some (.tup (ks.map V.int))/\Ris pcs.length ks/\(ks.flatMap (j7 pcs)).Nodup/\TabP H tb/\
 ∀ r H',BhAt H' r w ms pcs (lftT w (ks.flatMap (j7 pcs))) (lftP pcs (lftT w (ks.flatMap (j7 pcs))))->ExtT tb H H'->TabP H' tb->Q (.ref r) H'
def jT0 (T:Txt mg)(CL:Can P w K mg base "is_lot" 3 fL fdL ["thing","many"] (spB2 lotB))(CK:Can P w K mg base "picked" 2 fK fdK ["box","things","pieces"] (jDE tb))(hr:Room 3 (XOf jDZ "behind" yP P w K mg base f cdv A outer s H0 E).A): { t:TS // JSs (XOf jDZ "behind" yP P w K mg base f cdv A outer s H0 E) (jB yP) t} :=
 have nd:=scBehind.nd
 ⟨_,(jC (yC (jGW (jDB (CL.je (hr.mono (by decide)) gD (j3 (jv 1 rfl vL) (j3 (jH kB gD T.len (by decide+kernel) (j3 (jL jO (jv 0 rfl vL) (je_int) jE) j8 kD) kD) j8 jF) j4) j4) jB7)) (jD (jQF)) kI)
   (jC (jQ (i:=2) nd rfl (loc_c (by decide+kernel)) (yW j8) jD5)
   (jC (jBU cf rfl (qF (jv 1 rfl vL)) (jJ (i:=3) nd rfl lL) (jD (jC0 (je_bm bV ic ie jEX (jv 2 rfl vC) (j3 (jL jO (jL jO (jL jO (jv 0 rfl vL) (je_int) jE) (jv 3 rfl vL) yQ) (je_int) jE) j8 kD) kD) jZ)) yI)
   (jC (yC (jT op_lt (jH jNR gD T.len (by decide+kernel) (j3 (kE (jNO rfl) gD T.set (by decide+kernel) (j3 (jv 2 rfl vC) j8 j4) j4) j8 jF) jF) (jH kB gD T.len (by decide+kernel) (j3 (jv 2 rfl vC) j8 j4) j4) (jV _)) (jD (jQF)) kI)
   (jC (jQ (i:=4) nd rfl (loc_c (by decide+kernel)) (kE jM gD T.tuple (by decide+kernel) (j3 (kR (m:=[none,some 2]) (Nc:=["thing","held"]) rfl (jAU gD T.range (j3 (jL jO (jv 0 rfl vL) (je_int) jE) j8 kD) kD) rfl (by decide+kernel) (by decide+kernel) (jS (psc:=j6 yP) (by decide+kernel)) (jI (N:=jDZ) rfl rfl (by decide+kernel)) (fun cl C fp s H=>jJ (i:=0) (show (["thing","held"]:List Str).Nodup by decide+kernel) rfl (yM (by decide+kernel))) (fun cl C fp s H=>jD0 (jT jEW (jv 0 rfl (jX (by decide+kernel))) (jv 1 rfl (kW (by decide+kernel))) jCW)) (fun cl C fp s H=>(jv 0 rfl (jX (by decide+kernel)))) kZ) j8 jK) jK) jZ)
   (jC (jI1 (i:=5) nd rfl lL ⟨by rfl⟩ (m:=[none,none,some 4]) (Nc:=["number","piece","things"]) rfl (jI4 gD T.enumerate (j3 (jL jO (jv 0 rfl vL) (je_int) jE) j8 kD) kD) rfl (by decide+kernel) (by decide+kernel) (jS (psc:=j6 yP) (by decide+kernel)) (jI (N:=jDZ) rfl rfl (by decide+kernel)) (fun cl C fp s H=>jCJ (i:=0) (j:=1) rfl (show (["number","piece","things"]:List Str).Nodup by decide+kernel) rfl rfl (by decide+kernel) (by decide+kernel)) (fun cl C fp s H=>jD0 (jDB (jH (jIL rfl) (gl_b (by decide+kernel)) T.all (by decide+kernel) (j3 (kR (m:=[none,some 2]) (Nc:=["thing","things"]) rfl (jP3 (jL kT (jv 1 rfl (jX (by decide+kernel))) (je_int) jE)) rfl (by decide+kernel) (by decide+kernel) (jPF (by decide+kernel)) (jI (N:=["number","piece","things"]) rfl rfl (by decide+kernel)) (fun cl C fp s H=>jJ (i:=0) (show (["thing","things"]:List Str).Nodup by decide+kernel) rfl (yM (by decide+kernel))) (fun cl C fp s H=>kY) (fun cl C fp s H=>(yX jOL (jv 0 rfl (jX (by decide+kernel))) (jv 1 rfl (kW (by decide+kernel))) jCW)) jNB) j8 jK) jK) jB7)) (fun cl C fp s H=>(jv 0 rfl (jX (by decide+kernel)))) kZ)
   (jD (jW (y8 (j3 (CK.je (hr.mono (by decide)) gD (j3 (jv 0 rfl vL) (j3 (jv 4 rfl vC) (j3 (jv 5 rfl vL) j8 j4) j4) j4) j4) (j3 (jv 4 rfl vC) (j3 (kE jM gD T.tuple (by decide+kernel) (j3 (jv 5 rfl vL) j8 j4) j4) j8 jF) j4) jF))))))))))⟩
theorem jOY {m:List (Option Nat)}{σ:St}{H:Hp}{Q:VK}{l:Addr}{w:Int}{held:List Int}(hl:H l=some (.lst (held.map V.int)))(w0:0<=w)(w1:w<=16)(h0:blkσ m σ=[none,some (.ref l)])
  (q:∀ D H',H' D=some (.lst ((lftT w held).map V.int))->Ext H H'->H D=none->Q (.ref D) H'):qL m (kL 0) (tB (tOp (rIn K true) (tVar 0) (tVar 1))) (tVar 0) σ Q (Itr 0 w.toNat) H:=by
 refine jBL (n:=w.toNat) (by rw[ay]; omega) (fun D j σ' H' zs=>(∃ v,σ'=[v,some (.ref l)])/\Ext H H'/\H' D=some (.lst zs)/\H D=none/\zs=(((upto w.toNat).take j).filter fun t=>!decide (t∈held)).map V.int) ?_ ?_ ?_ ?_
 ·intro D hD
  exact⟨⟨_,h0⟩,(Ext.refl _).new hD _,j5,hD,rfl⟩
 ·rintro D j σ' H' zs hD hj ⟨_,e,h2,_,rfl⟩
  refine⟨h2,?_⟩
  rw[ae]
  exact bb (bw _ _) (bh _ _)
 ·rintro D j σ' H' zs hD hj ⟨⟨v,rfl⟩,e,h2,hn,rfl⟩
  have e0:(0+(j:Int))=(j:Int):=by omega
  refine⟨_,rfl,_,rfl,l,_,rfl, .inl (SqL.of (e _ _ hl)),rfl,jAA held,_,rfl,?_⟩
  rw[e0,jAJ,jH2 (jIO hj)]
  refine ite2 (fun hz=>?_) (fun hz=>?_)
  ·have hz:(!decide ((j:Int)∈held))=true:=hz
   refine⟨_,rfl,h2,⟨_,rfl⟩,e.updNew hn _,j5,hn,?_⟩
   rw[aq hz,aJ]
   rfl
  ·have hz:¬ (!decide ((j:Int)∈held))=true:=hz
   refine⟨⟨_,rfl⟩,e,h2,hn,?_⟩
   rw[am hz,aW]
 ·rintro D σ' H' zs hD ⟨_,e,h2,hn,rfl⟩
  refine q D H' ?_ e hn
  rw[h2]
  unfold lftT
  rw[bE (by rw[jBF]; exact ao _)]
theorem jM3 {fd:FuncData}(F:Fun K "behind" "behind" yP f fd)(T:Txt mg)(CL:Can P w K mg base "is_lot" 3 fL fdL ["thing","many"] (spB2 lotB))(CK:Can P w K mg base "picked" 2 fK fdK ["box","things","pieces"] (jDE tb)):FnOk P w K mg base CX0 4 f fd ["box","some"] (jA6 tb):=by
 refine F.ok scBehind (fun vs H Q E h=>?_) (fun cdv A outer s H vs Q E hr h=>?_)
 ·obtain⟨_,_,_,_,_,_,rfl,_⟩:=h
  rfl
 ·obtain⟨b,a,w,ms,pcs,ks,rfl,hB,g,ha,rk,hnd,tab,q⟩:=h
  refine⟨_,(jT0 T CL CK hr).2.h,?_⟩
  obtain⟨qm,qp,ps,b1,b2,b3,b4⟩:=id hB.ex
  have pl:=b4.len
  have w0:=g.w0
  have w1:=g.w1
  have gpl:=g.pl
  have lk:ks.length<=32:=by
   have:=yV ks 0 pcs.length rk.ris rk.bnd
   omega
  have l16:∀ k∈ks,(j7 pcs k).length<=16:=fun k hk=>jCS g (rk.bnd k hk).1 (rk.bnd k hk).2
  have tlen:∀ (i:Nat),i<=ks.length->((ks.take i).flatMap (j7 pcs)).length<=512:=fun i hi=>by
   have:=jJT (f:=j7 pcs) (ks:=ks.take i) (fun k hk=>l16 k (bP hk)) 32 (by have:=bh i ks; omega)
   omega
  refine⟨_,rfl,_,rfl,b,_,2,_,rfl,rfl,SqT.of b1,rfl,qp,_,rfl, .inr (SqT.of b3), .ref a, .tup (ks.map Ob.int),_,rfl,jV1 ha (by rw[ae]; omega) (Ats.ints ks),fun H1 e1=>⟨_,rfl,?_⟩⟩
  rw[pl,jI0 rk.ris rk.bnd]
  refine iteF ?_
  refine⟨by show (0:Nat)<=_; decide,fun l H2 d2 e2 n2=>?_⟩
  have e02:=e1.trans e2
  refine⟨_,rfl,a,rfl,⟨_,SqT.of (e02 _ _ ha)⟩,jST (xs:=ks.map V.int) (fun i σ H'=>(∃ v3,σ=[some (.ref b),some (.ref a),some (.ref l),v3,none,none])/\Ext H H'/\H' l=some (.lst (((ks.take i).flatMap (j7 pcs)).map V.int))) ⟨⟨_,rfl⟩,e02,d2⟩ (fun i σ H' _ ⟨_,e,_⟩=>SqT.of (e _ _ ha)) ?_ ?_⟩
  ·rintro i x σ H' hx ⟨⟨v3,rfl⟩,e,h3⟩
   obtain⟨k,hk,rfl⟩:∃ z:Int,ks[i]?=some z/\V.int z=x:=by
    rw[aN] at hx
    cases hq:ks[i]? with
    | none=>rw[hq] at hx; cases hx
    | some z=>rw[hq] at hx; cases hx; exact⟨z,rfl,rfl⟩
   have hil:i<ks.length:=(ai.mp hk).1
   have km:=az hk
   obtain⟨pa,pq,g1,g2,g3⟩:=jDV b4 (rk.bnd k km).1 (rk.bnd k km).2
   refine⟨_,rfl, .inl ⟨rfl,_,SqL.of h3⟩,_,rfl,b,_,2,_,rfl,rfl,SqT.of (e _ _ b1),rfl,_,rfl,qp,_,k,_,rfl,rfl,SqT.of (e _ _ b3),g1,pa,_,0,_,rfl,rfl,SqT.of (e _ _ g2),rfl,l,pq,_,_,rfl,rfl,h3,e _ _ g3,?_,⟨_,rfl⟩,?_,?_⟩
   ·have q1:=tlen i (by omega)
    have q2:=l16 k km
    rw[ae,ae,ay]
    omega
   ·refine fun c o hc=>?_
    have nl:c≠l:=fun z=>by
     rw[z] at hc
     have:=e1 _ _ hc
     rw[n2] at this
     cases this
    rw[j9 nl]
    exact e _ _ hc
   ·rw[j5,aV,hk]
    simp
  ·rintro σ H3 ⟨⟨v3,rfl⟩,e3,h3⟩
   rw[ae,aZ] at h3
   have tl:=tlen ks.length (ao _)
   rw[aZ] at tl
   generalize hH:ks.flatMap (j7 pcs)=held at h3 hnd q tl
   refine⟨_,rfl,l,held,rfl,SqL.of h3,by omega,fun sl S hsl=>⟨sl,S,_,rfl,j5,?_⟩⟩
   have e4:Ext H3 (L2.upd H3 sl (.set S (PyProof.Rows.firstMet (fun i=>held.getD i 0) held.length).length)):=(Ext.refl _).new hsl _
   rw[jUF hnd] at e4 ⊢
   generalize L2.upd H3 sl (.set S held.length)=H4 at e4
   have h4:=e4 _ _ h3
   have E4:=e3.trans e4
   refine⟨_,rfl,l,_,rfl, .inl (SqL.of h4),_,_,rfl,rfl,_,rfl,iteN (by rw[ae]; exact aH (by omega)) ?_⟩
   refine⟨_,rfl,b,_,0,_,rfl,rfl,SqT.of (E4 _ _ b1),rfl,w,rfl,by omega,by omega,jOY h4 w0 w1 rfl fun D H5 k5 e5 n5=>?_⟩
   refine⟨D,_,rfl, .inl ⟨SqL.of k5,fun t ht=>?_⟩⟩
   generalize hT:lftT w held=ts at k5 q
   have e6:Ext H5 (L2.upd H5 t (.tup (ts.map V.int))):=(Ext.refl _).new ht _
   have d6:(L2.upd H5 t (.tup (ts.map V.int))) t=some (.tup (ts.map V.int)):=j5
   generalize L2.upd H5 t (.tup (ts.map V.int))=H6 at e6 d6
   have E6:=(E4.trans e5).trans e6
   refine⟨_,rfl,b,_,2,_,rfl,rfl,SqT.of (E6 _ _ b1),rfl,true,qp,rfl,⟨_,SqT.of (E6 _ _ b3)⟩,jH6 (xs:=ps) (by rw[pl,ay]; omega) (fun D j σ' H' zs=>(∃ v v',σ'=[v,v',some (.ref t)])/\Ext H6 H'/\H' D=some (.lst zs)/\H6 D=none/\zs=(((upto pcs.length).take j).filter fun k=>(j7 pcs k).all fun x=>decide (x∈ts)).map V.int) ?_ ?_ ?_ ?_⟩
   ·intro D hD
    exact⟨⟨_,_,rfl⟩,(Ext.refl _).new hD _,j5,hD,rfl⟩
   ·rintro D j σ' H' zs hD ⟨_,e,h2,_,rfl⟩
    refine⟨SqT.of (e _ _ (E6 _ _ b3)),h2,?_⟩
    rw[ae]
    exact bb (bw _ _) (bh _ _)
   ·rintro D j σ' H' zs x X hD hx hX ⟨⟨v,v',rfl⟩,e,h2,hn,rfl⟩
    have hj:j<pcs.length:=by
     rw[<- pl]
     exact(ai.mp hx).1
    obtain⟨x',hx',pa,pq,rfl,c1,c2⟩:=b4.get hj
    rw[hx] at hx'
    cases hx'
    have e7:Ext H' (L2.upd H' X (.tup [.int (j:Int), .ref pa])):=(Ext.refl _).new hX _
    have E7:=(E6.trans e).trans e7
    refine⟨X,_,rfl,SqT.of j5,rfl,_,_,rfl,_,_,rfl,rfl,?_⟩
    dsimp only [kL]
    refine⟨_,rfl,pa,_,0,_,rfl,rfl,SqT.of (E7 _ _ c1),rfl,pq,rfl,⟨_,SqT.of (E7 _ _ c2)⟩,jSM (tp:=true) (E7 _ _ c2) (e7 _ _ (e _ _ d6)) (by have:=jCS g (k:=j) (by omega) (by omega); unfold j7 at this; rw[bq] at this; omega) rfl fun D2 H8 k8 e8 n8=>?_⟩
    refine⟨D2,_,rfl,SqL.of k8,_,rfl,?_⟩
    have h8:=e8 _ _ (e7 _ _ h2)
    have et:j7 pcs (j:Int)=(pcs.getD j ([],0)).1:=by unfold j7; rw[bq]
    have E8:=(e.trans e7).trans e8
    rw[jV4,<- et,jH2 (jIO hj)]
    refine ite2 (fun hz=>?_) (fun hz=>?_)
    ·refine⟨_,rfl,h8,⟨_,_,rfl⟩,E8.updNew hn _,j5,hn,?_⟩
     rw[aq hz,aJ]
     rfl
    ·refine⟨⟨_,_,rfl⟩,E8,h8,hn,?_⟩
     rw[am hz,aW]
   ·rintro D σ' H7 zs hD ⟨_,e7,h7,n7,rfl⟩
    have hap:((upto pcs.length).take ps.length).filter (fun k=>(j7 pcs k).all fun x=>decide (x∈ts))=lftP pcs ts:=by
     rw[pl,bE (by rw[jBF]; exact ao _)]
     rfl
    rw[hap] at h7
    have E7:=E6.trans e7
    have tnd:ts.Nodup:=by rw[<- hT]; exact jKG _ _
    have tln:ts.length<=16:=by rw[<- hT]; have:=jOZ w held; omega
    have aln:=jJI pcs ts
    refine⟨_,rfl,_,rfl,_,rfl,b,t,D,true,false,w,ms,pcs,ts,lftP pcs ts,rfl,hB.mono E7.tups,e7 _ _ d6,h7,tnd,by omega,?_,pc_lt g,jFO,by omega,tab.ext E7,fun r1 H8 B8 e8 t8=>?_⟩
    ·have:=jFM g.mr.ris g.mr.bnd w1
     omega
    have tab7:=tab.ext E7
    have k8:=e8.at tab7 (e7 _ _ d6)
    have m8:=e8.at tab7 h7
    refine⟨_,rfl,_,rfl,D,_,rfl, .inl ⟨SqL.of m8,fun p hp=>?_⟩⟩
    have e9:Ext H8 (L2.upd H8 p (.tup ((lftP pcs ts).map V.int))):=(Ext.refl _).new hp _
    have d9:(L2.upd H8 p (.tup ((lftP pcs ts).map V.int))) p=some (.tup ((lftP pcs ts).map V.int)):=j5
    generalize L2.upd H8 p (.tup ((lftP pcs ts).map V.int))=H9 at e9 d9
    refine⟨by show (3:Nat)<=_; decide,fun r HA dA eA=>?_⟩
    have e8A:=e9.trans eA
    exact q r HA ⟨r1,t,p,dA,B8.mono e8A.tups,e8A _ _ k8,eA _ _ d9⟩ (((ExtT.of E7).trans e8).trans (ExtT.of e8A)) (t8.ext e8A)
end
section
variable {P:Program}{w:World}{K:W.Frag}{mg:Str->Option Value}{base:Heap}
variable {f fM:Addr}{fdM:FuncData}{cdv:Value}{A:Around}{outer:List Env}{s:Shared}{H0:Hp}{E:XK}
abbrev nMask:List Str:=["lot"]
theorem scMask:FnScope nMask ["lot"] (j6 sMask):=⟨rfl,rfl,rfl,by decide+kernel,rfl,by decide+kernel,by decide+kernel⟩
def jGC:Sp:=fun vs H Q _=>∃ (q:Addr) (ts:List Int),vs=[.ref q]/\H q=some (.tup (ts.map V.int))/\(∀ t∈ts,0<=t/\t<64)/\ts.length<=64/\∀ H',Ext H H'->Q (.int ((maskN ts:Nat):Int)) H'
def maskA (T:Txt mg): { t:TS // JSs (XOf nMask "mask_of" sMask P w K mg base f cdv A outer s H0 E) (jB sMask) t} :=
 have nd:=scMask.nd
 ⟨_,(jD (jW (jH (jEF rfl) gD T.sum (by decide+kernel) (j3 (kR (m:=[none]) (Nc:=["thing"]) rfl (qF (jv 0 rfl vL)) rfl (by decide+kernel) (by decide+kernel) (jS (psc:=j6 sMask) (by decide+kernel)) (jI (N:=nMask) rfl rfl (by decide+kernel)) (fun cl C fp s H=>jJ (i:=0) (show (["thing"]:List Str).Nodup by decide+kernel) rfl (yM (by decide+kernel))) (fun cl C fp s H=>kY) (fun cl C fp s H=>(kU jJ7 (je_int) (jv 0 rfl (jX (by decide+kernel))))) yI) j8 jK) jK)))⟩
theorem jKC (ts:List Int)(h:∀ t∈ts,0<=t):(ts.map fun t=>(1:Int)*2 ^ t.toNat).sum=((maskN ts:Nat):Int):=by
 induction ts with
 | nil=>rfl
 | cons t r ih=>
  have e:maskN (t::r)=2 ^ t.toNat+maskN r:=by simp [maskN]
  rw[bu,di,ih fun x hx=>h x (aK _ hx),e]
  push_cast
  omega
theorem jS0 {fd:FuncData}(F:Fun K "mask_of" "mask_of" sMask f fd)(T:Txt mg):FnOk P w K mg base CX0 1 f fd ["lot"] jGC:=by
 refine F.ok scMask (fun vs H Q E h=>?_) (fun cdv A outer s H vs Q E hr h=>?_)
 ·obtain⟨_,_,rfl,_⟩:=h
  rfl
 ·obtain⟨q,ts,rfl,hq,hb,hl,k⟩:=h
  refine⟨_,(maskA T).2.h,?_⟩
  refine⟨_,rfl,q,rfl,⟨_,SqT.of hq⟩,jB1 (xs:=ts.map V.int) (by rw[ae,ay]; omega) (fun D i σ' H' zs=>(∃ v,σ'=[v])/\Ext H H'/\H' D=some (.lst zs)/\H D=none/\zs=((ts.take i).map fun t=>(1:Int)*2 ^ t.toNat).map V.int) ?_ ?_ ?_ ?_⟩
  ·intro D hD
   exact⟨⟨_,rfl⟩,(Ext.refl _).new hD _,j5,hD,rfl⟩
  ·rintro D i σ' H' zs hD ⟨_,e,h2,_,rfl⟩
   refine⟨e _ _ hq,h2,?_⟩
   rw[ae,ae,bA]
   omega
  ·rintro D i σ' H' zs x hD hx ⟨⟨v,rfl⟩,e,h2,hn,rfl⟩
   obtain⟨z,hz,rfl⟩:∃ z:Int,ts[i]?=some z/\V.int z=x:=by
    rw[aN] at hx
    cases hq:ts[i]? with
    | none=>rw[hq] at hx; cases hx
    | some z=>rw[hq] at hx; cases hx; exact⟨z,rfl,rfl⟩
   have hzb:=hb z (az hz)
   dsimp only [kL,yL]
   rw[aq rfl]
   refine⟨_,rfl,_,_,rfl,rfl,⟨?_,?_,?_⟩,h2,⟨_,rfl⟩,e.updNew hn _,j5,hn,?_⟩
   ·first | omega | decide
   ·first | omega | decide
   ·first | omega | decide
   ·have:ts.take (i+1)=ts.take i++[z]:=by
     rw[aV,hz]
     rfl
    rw[this,aJ,aJ]
    rfl
  ·rintro D σ' H' zs hD ⟨_,e,h2,hn,rfl⟩
   refine⟨D,_,rfl,SqL.of h2,?_⟩
   rw[ae,aZ,jKC ts fun t ht=>(hb t ht).1]
   exact k H' e
end
end Eo
end
section
namespace L2
open PySem
theorem jMX {X:Cx}{a b c:Expr}{pos:Pos}{ta tb:TE}{tc:TT}(hc:JT X c tc)(ha:JE X a ta)(hb:JE X b tb):JE X (.IfExp c a b pos) (tIf tc ta tb):=⟨jOJ hc.h ha.h hb.h⟩
theorem jTG {a b c:Expr}{pos:Pos}{es:List Expr}{env:Env} :starEach (.IfExp c a b pos::es) env=(false,eval (.IfExp c a b pos) env)::starEach es env:=rfl
end L2
namespace Eo
open PySem L2
def PrAt (H:Hp)(v:V)(c:Int×Nat):Prop:=∃ q,v= .ref q/\H q=some (.tup [.int c.1, .int ((c.2:Nat):Int)])
theorem PrAt.mono {H H':Hp}(t:Tups H H'){v:V}{c:Int×Nat}(h:PrAt H v c):PrAt H' v c:=let ⟨q,e,z⟩:=h; ⟨q,e,t _ _ z⟩
def RowAt (H:Hp)(l:Addr)(cs:List (Int×Nat)):Prop:=∃ vs,H l=some (.lst vs)/\All2 (PrAt H) vs cs
structure ChAt (H:Hp)(L:Addr)(ch:Ch):Prop where
 ex:∃ ls:List Addr,H L=some (.lst (ls.map V.ref))/\ls.Nodup/\All2 (RowAt H) ls ch
theorem RowAt.keep {H H':Hp}{l:Addr}{cs:List (Int×Nat)}(h:RowAt H l cs)(k:∀ xs,H l=some (.lst xs)->H' l=some (.lst xs))(t:Tups H H'):RowAt H' l cs:=let ⟨vs,a,b⟩:=h; ⟨vs,k _ a,b.imp fun _ _=>PrAt.mono t⟩
theorem ChAt.keep {H H':Hp}{L:Addr}{ch:Ch}(h:ChAt H L ch)(k:∀ b xs,H b=some (.lst xs)->H' b=some (.lst xs))(t:Tups H H'):ChAt H' L ch:=by
 obtain⟨ls,a,b,c⟩:=h.ex
 exact⟨ls,k _ _ a,b,c.imp fun l cs r=>r.keep (k l) t⟩
theorem ChAt.ext {H H':Hp}{L:Addr}{ch:Ch}(h:ChAt H L ch)(e:Ext H H'):ChAt H' L ch:=h.keep (fun b xs z=>e _ _ z) e.tups
theorem ChAt.len {H:Hp}{L:Addr}{ch:Ch}(h:ChAt H L ch):∃ ls:List Addr,H L=some (.lst (ls.map V.ref))/\ls.length=ch.length:=by
 obtain⟨ls,a,b,c⟩:=h.ex
 exact⟨ls,a,c.len⟩
def y6 (ms:List Int)(pcs:List (List Int×Int))(n t:Nat):List (Int×Nat):=
 (if (t:Int)∈ms then [(-1,2 ^ t)] else [])++(((upto pcs.length).take n).filter fun k=>decide ((j7 pcs k).headD 0=(t:Int))).map fun k=>(k,maskN (j7 pcs k))
def chsN (w:Nat)(ms:List Int)(pcs:List (List Int×Int))(n:Nat):Ch:=(List.range w).map (y6 ms pcs n)
def chs (w:Nat)(ms:List Int)(pcs:List (List Int×Int)):Ch:=chsN w ms pcs pcs.length
theorem kO (w:Nat)(ms:List Int)(pcs:List (List Int×Int))(n:Nat):(chsN w ms pcs n).length=w:=by
 unfold chsN
 rw[ae,cU]
theorem yA {w:Nat}{ms:List Int}{pcs:List (List Int×Int)}{n t:Nat}(h:t<w):(chsN w ms pcs n)[t]?=some (y6 ms pcs n t):=by
 unfold chsN
 rw[aN,eg h]
 rfl
theorem jGR {ts:List Int}{t:Nat}(hp:ts.Pairwise (· < ·))(h0:∀ x∈ts,0<=x)(h:(t:Int)∈ts):(maskN ts).testBit t=true:=by
 rw[jA7 ts t hp h0,ar h]
theorem jE2 {ts:List Int}{w:Nat}(hp:ts.Pairwise (· < ·))(h0:∀ x∈ts,0<=x/\x<(w:Int)):maskN ts<2 ^ w:=by
 refine Nat.lt_pow_two_of_testBit _ fun i hi=>?_
 rw[jA7 ts i hp fun x hx=>(h0 x hx).1,aH]
 intro z
 have:=(h0 _ z).2
 omega
theorem jFT {l:List Int}(h:l≠ []):l.headD 0∈l:=by
 cases l with
 | nil=>exact absurd rfl h
 | cons a r=>exact aE ..
theorem yZ {w:Int}{ms:List Int}{pcs:List (List Int×Int)}{n:Nat}(g:Good 16 32 w ms pcs):ChOk (chsN w.toNat ms pcs n):=by
 have w0:=g.w0
 have w1:=g.w1
 have gpl:=g.pl
 refine⟨by rw[kO]; omega,fun t cs h=>?_,fun t cs h c hc=>?_⟩
 ·have ht:t<w.toNat:=by
   have:=(ai.mp h).1
   rwa [kO] at this
  rw[yA ht] at h
  cases h
  unfold y6
  rw[aB,ae]
  have:=bw (fun k=>decide ((j7 pcs k).headD 0=(t:Int))) ((upto pcs.length).take n)
  have:=bh n (upto pcs.length)
  have:=jBF pcs.length
  have:((upto pcs.length).take n).length<=(upto pcs.length).length:=by rw[bA]; omega
  split <;> simp only [aR,bZ] <;> omega
 ·have ht:t<w.toNat:=by
   have:=(ai.mp h).1
   rwa [kO] at this
  rw[yA ht] at h
  cases h
  unfold y6 at hc
  rw[kO]
  rcases aL.mp hc with hc | hc
  ·split at hc
   ·rw[aO] at hc
    subst hc
    exact⟨by simp [cB],gu (by decide) ht,by show (-1:Int)<= -1; decide,by show (-1:Int)<32; decide⟩
   ·cases hc
  ·obtain⟨k,hk,rfl⟩:=aP.mp hc
   obtain⟨hk1,hk2⟩:=be.mp hk
   have kb:=(yF pcs.length).bnd k (bP hk1)
   have gp:=g.at (k:=k.toNat) (by omega)
   have hk2:=aF hk2
   have hne:j7 pcs k≠ []:=gp.lot.ne
   have hm:(t:Int)∈j7 pcs k:=by
    rw[<- hk2]
    exact jFT hne
   exact⟨jGR gp.lot.ris (fun x hx=>(gp.lot.bnd x hx).1) hm,jE2 gp.lot.ris fun x hx=>⟨(gp.lot.bnd x hx).1,by have:=(gp.lot.bnd x hx).2; omega⟩,by omega,by omega⟩
section
variable {P:Program}{w:World}{K:W.Frag}{mg:Str->Option Value}{base:Heap}
variable {f fM:Addr}{fdM:FuncData}{cdv:Value}{A:Around}{outer:List Env}{s:Shared}{H0:Hp}{E:XK}
abbrev jBG:List Str:=["box","choices","number","piece"]
theorem scChoices:FnScope jBG ["box"] (j6 kX):=⟨rfl,rfl,rfl,by decide+kernel,rfl,by decide+kernel,by decide+kernel⟩
def jAS:Sp:=fun vs H Q _=>∃ (b:Addr) (w:Int) (ms:List Int) (pcs:List (List Int×Int)),vs=[.ref b]/\BoxAt H b w ms pcs/\Good 16 32 w ms pcs/\∀ r H',ChAt H' r (chs w.toNat ms pcs)->Ext H H'->Q (.ref r) H'
def jSZ (T:Txt mg)(CM:Can P w K mg base "mask_of" 1 fM fdM ["lot"] jGC)(hr:Room 1 (XOf jBG "choices_of" kX P w K mg base f cdv A outer s H0 E).A): { t:TS // JSs (XOf jBG "choices_of" kX P w K mg base f cdv A outer s H0 E) (jCH ((jB kX).getD 1 (.Pass ⟨0,0,0,0⟩))) t} :=
 have nd:=scChoices.nd
 ⟨_,(jD (jC0 (je_bm bV dX dY jB8 (jL jC1 (jv 1 rfl vL) (jL jO (jL jO (jv 3 rfl vL) (je_int) jE) (je_int) jE) jTJ) (j3 (y8 (j3 (jv 2 rfl vL) (j3 (CM.je hr gD (j3 (jL jO (jv 3 rfl vL) (je_int) jE) j8 kD) kD) j8 jF) j4)) j8 jD7) jD7) jZ))⟩
def jPN (T:Txt mg)(CM:Can P w K mg base "mask_of" 1 fM fdM ["lot"] jGC)(hr:Room 1 (XOf jBG "choices_of" kX P w K mg base f cdv A outer s H0 E).A): { t:TS // JSs (XOf jBG "choices_of" kX P w K mg base f cdv A outer s H0 E) (jB kX) t} :=
 have nd:=scChoices.nd
 ⟨_,(jC (jI1 (i:=1) nd rfl lL ⟨by rfl⟩ (m:=[none,some 0]) (Nc:=["thing","box"]) rfl (jAU gD T.range (j3 (jL jO (jv 0 rfl vC) (je_int) jE) j8 kD) kD) rfl (by decide+kernel) (by decide+kernel) (jS (psc:=j6 kX) (by decide+kernel)) (jI (N:=jBG) rfl rfl (by decide+kernel)) (fun cl C fp s H=>jJ (i:=0) (show (["thing","box"]:List Str).Nodup by decide+kernel) rfl (yM (by decide+kernel))) (fun cl C fp s H=>kY) (fun cl C fp s H=>(jMX (jT jHV (jv 0 rfl (jX (by decide+kernel))) (jL kT (jv 1 rfl (kW (by decide+kernel))) (je_int) jE) jQ7) (yW (j3 (y8 (j3 (je_un jPU (je_int)) (j3 (kU jJ7 (je_int) (jv 0 rfl (jX (by decide+kernel)))) j8 yJ) se_un)) j8 jD7)) (yW j8))) kZ) (jC (jBU cf rfl (jI4 gD T.enumerate (j3 (jL jO (jv 0 rfl vC) (je_int) jE) j8 kD) kD) (jJL (i:=2) (j:=3) nd rfl rfl (by decide+kernel) (by decide+kernel)) (jSZ T CM hr).2 kZ) (jD (jW (jv 1 rfl vL)))))⟩
abbrev nFull:List Str:=["choices"]
theorem scFull:FnScope nFull ["choices"] (j6 sFull):=⟨rfl,rfl,rfl,by decide+kernel,rfl,by decide+kernel,by decide+kernel⟩
def jEQ:Sp:=fun vs H Q _=>∃ (L:Addr) (ch:Ch),vs=[.ref L]/\ChAt H L ch/\ch.length<=16/\Q (.int ((fullN ch:Nat):Int)) H
def fullA (T:Txt mg): { t:TS // JSs (XOf nFull "full_mask" sFull P w K mg base f cdv A outer s H0 E) (jB sFull) t} :=
 have nd:=scFull.nd
 ⟨_,(jD (jW (kU jDW (kU jJ7 (je_int) (jH kB gD T.len (by decide+kernel) (j3 (jv 0 rfl vL) j8 j4) j4)) (je_int))))⟩
abbrev nAt:List Str:=["choices","mask","least_lacked"]
theorem scAt:FnScope nAt ["choices","mask"] (j6 sAt):=⟨rfl,rfl,rfl,by decide+kernel,rfl,by decide+kernel,by decide+kernel⟩
def spAt:Sp:=fun vs H Q _=>∃ (L:Addr) (ch:Ch) (m:Nat),vs=[.ref L, .int (m:Int)]/\ChAt H L ch/\ChOk ch/\m<2 ^ ch.length/\m≠fullN ch/\∀ r H',RowAt H' r (chAt ch m)->Ext H H'->H r=none->Q (.ref r) H'
def atA (T:Txt mg): { t:TS // JSs (XOf nAt "choices_at" sAt P w K mg base f cdv A outer s H0 E) (jB sAt) t} :=
 have nd:=scAt.nd
 ⟨_,(jC (jQ (i:=2) nd rfl lL (kU jDW (jQH PySem.F.plainAttrs_int PySem.F.slot_int_bit_length PySem.F.type_int_bit_length jSA (kU jLW (je_un jT9 (jv 1 rfl vC)) (kU y0 (jv 1 rfl vC) (je_int)))) (je_int)) jIU)
   (jD (jW (kR (m:=[none,some 1]) (Nc:=["choice","mask"]) rfl (yS (jL jC1 (jv 0 rfl vL) (jv 2 rfl vL) yQ)) rfl (by decide+kernel) (by decide+kernel) (jS (psc:=j6 sAt) (by decide+kernel)) (jI (N:=nAt) rfl rfl (by decide+kernel)) (fun cl C fp s H=>jJ (i:=0) (show (["choice","mask"]:List Str).Nodup by decide+kernel) rfl (yM (by decide+kernel))) (fun cl C fp s H=>jD0 (jT qO (kU jLW (jL kT (jv 0 rfl (jX (by decide+kernel))) (je_int) jE) (jv 1 rfl (kW (by decide+kernel)))) (je_int) (jV _))) (fun cl C fp s H=>(jv 0 rfl (jX (by decide+kernel)))) jNB))))⟩
theorem jD4 (ms:List Int)(pcs:List (List Int×Int))(t:Nat):y6 ms pcs 0 t=if (t:Int)∈ms then [(-1,2 ^ t)] else []:=by
 unfold y6
 rw[iX]
 simp
theorem jNN {w n:Nat}{ms:List Int}{pcs:List (List Int×Int)}(hn:n<pcs.length)(t:Nat)(ht:(j7 pcs (n:Int)).headD 0=(t:Int)):chsN w ms pcs (n+1)=(chsN w ms pcs n).set t (y6 ms pcs n t++[((n:Int),maskN (j7 pcs n))]):=by
 have key:∀ u,y6 ms pcs (n+1) u=y6 ms pcs n u++if u=t then [((n:Int),maskN (j7 pcs n))] else []:=fun u=>by
  unfold y6
  rw[jDP hn,bQ,aJ,aU]
  congr 2
  rw[cM,ht]
  by_cases hu:u=t
  ·subst hu
   rw[aq (ar rfl),aq rfl]
   rfl
  ·rw[am (by rw[bo]; omega),am hu]
   rfl
 refine List.ext_getElem? fun i=>?_
 rw[List.getElem?_set,kO]
 by_cases hi:i<w
 ·rw[yA hi,yA hi,key]
  by_cases h:t=i
  ·subst h
   rw[aq rfl,aq rfl,aq hi]
  ·rw[am h,am (fun z=>h z.symm),aW]
 ·rw[dc (by rw[kO]; omega),dc (by rw[kO]; omega)]
  split
  ·rw[am (by omega)]
  ·rfl
theorem ChAt.app {H:Hp}{L:Addr}{ch:Ch}{t:Nat}{l:Addr}{ls:List Addr}{vs:List V}{cs:List (Int×Nat)}{v:V}{c:Int×Nat}(hL:H L=some (.lst (ls.map V.ref)))(nd:ls.Nodup)(al:All2 (RowAt H) ls ch)(hl:ls[t]?=some l)(hc:ch[t]?=some cs)(hv:H l=some (.lst vs))(av:All2 (PrAt H) vs cs)(pv:PrAt H v c)(ne:l≠L):
  (L2.upd H l (.lst (vs++[v]))) L=some (.lst (ls.map V.ref))/\All2 (RowAt (L2.upd H l (.lst (vs++[v])))) ls (ch.set t (cs++[c])):=by
 have tu:Tups H (L2.upd H l (.lst (vs++[v]))):=Tups.upd hv _
 refine⟨by rw[j9 ne.symm]; exact hL,?_⟩
 refine All2.of_get (by rw[List.length_set]; exact al.len) fun i a b h1 h2=>?_
 rw[List.getElem?_set] at h2
 by_cases hi:t=i
 ·subst hi
  rw[aq rfl,aq (ai.mp hc).1] at h2
  cases h2
  rw[hl] at h1
  cases h1
  exact⟨_,j5,(av.imp fun _ _=>PrAt.mono tu).snoc (pv.mono tu)⟩
 ·rw[am hi] at h2
  obtain⟨b',hb',r⟩:=al.get' h1
  rw[h2] at hb'
  cases hb'
  refine r.keep (fun xs hx=>?_) tu
  rw[j9 fun z=>hi ?_]
  ·exact hx
  ·exact(g8 (ai.mp hl).1 nd).mp (by rw[hl,h1,z])
theorem jKA {fd:FuncData}(F:Fun K "choices_of" "choices_of" kX f fd)(T:Txt mg)(CM:Can P w K mg base "mask_of" 1 fM fdM ["lot"] jGC):FnOk P w K mg base CX0 2 f fd ["box"] jAS:=by
 refine F.ok scChoices (fun vs H Q E h=>?_) (fun cdv A outer s H vs Q E hr h=>?_)
 ·obtain⟨_,_,_,_,rfl,_⟩:=h
  rfl
 ·obtain⟨b,w,ms,pcs,rfl,hB,g,q⟩:=h
  refine⟨_,(jPN T CM hr).2.h,?_⟩
  obtain⟨qm,qp,ps,b1,b2,b3,b4⟩:=id hB.ex
  have pl:=b4.len
  have w0:=g.w0
  have w1:=g.w1
  have gpl:=g.pl
  refine⟨_,rfl,b,_,0,_,rfl,rfl,SqT.of b1,rfl,w,rfl,by omega,by omega,jBL (n:=w.toNat) (by rw[ay]; omega) (fun D i σ' H' zs=>(∃ v,σ'=[v,some (.ref b)])/\Ext H H'/\H' D=some (.lst zs)/\H D=none/\∃ ls:List Addr,zs=ls.map V.ref/\ls.Nodup/\D∉ls/\(∀ a∈ls,H a=none)/\All2 (RowAt H') ls ((List.range i).map (y6 ms pcs 0))) ?_ ?_ ?_ ?_⟩
  ·intro D hD
   exact⟨⟨_,rfl⟩,(Ext.refl _).new hD _,j5,hD,[],rfl,fX,by simp,by simp,trivial⟩
  ·rintro D i σ' H' zs hD hi ⟨_,e,h2,_,ls,rfl,_,_,_,al⟩
   refine⟨h2,?_⟩
   rw[ae,al.len,ae,cU]
   omega
  ·rintro D i σ' H' zs hD hi ⟨⟨v,rfl⟩,e,h2,hn,ls,rfl,nd,hDl,nol,al⟩
   dsimp only [kL,yL]
   rw[aq rfl]
   have e0:(0+(i:Int))=(i:Int):=by omega
   have key:∀ (l:Addr) (H2:Hp),Ext H' H2->H' l=none->RowAt H2 l (y6 ms pcs 0 i)->H2 D=some (.lst (ls.map V.ref))/\((∃ v,[some (V.int (i:Int)),some (.ref b)]=[v,some (.ref b)])/\Ext H (L2.upd H2 D (.lst (ls.map V.ref++[.ref l])))/\(L2.upd H2 D (.lst (ls.map V.ref++[.ref l]))) D=some (.lst (ls.map V.ref++[.ref l]))/\H D=none/\∃ ls':List Addr,ls.map V.ref++[.ref l]=ls'.map V.ref/\ls'.Nodup/\D∉ls'/\(∀ a∈ls',H a=none)/\All2 (RowAt (L2.upd H2 D (.lst (ls.map V.ref++[.ref l])))) ls' ((List.range (i+1)).map (y6 ms pcs 0))):=fun l H2 e2 nl rl=>by
    have hD2:=e2 _ _ h2
    have lD:l≠D:=fun z=>by rw[z,h2] at nl; cases nl
    have tu:Tups H2 (L2.upd H2 D (.lst (ls.map V.ref++[.ref l]))):=Tups.upd hD2 _
    have kp:∀ a xs,a≠D->H2 a=some (.lst xs)->(L2.upd H2 D (.lst (ls.map V.ref++[.ref l]))) a=some (.lst xs):=fun a xs ha h=>by rw[j9 ha]; exact h
    refine⟨hD2,⟨_,rfl⟩,(e.trans e2).updNew hn _,j5,hn,ls++[l],by rw[aJ]; rfl,?_,?_,?_,?_⟩
    ·rw[dU]
     refine⟨nd,by simp,fun a ha b hb z=>?_⟩
     rw[aO] at hb
     subst hb z
     obtain⟨j,hj⟩:=bF ha
     obtain⟨cs,_,vs,r,_⟩:=al.get' hj
     rw[nl] at r
     cases r
    ·rw[aL,aO]
     rintro (z | z)
     ·exact hDl z
     ·exact lD z.symm
    ·intro a ha
     rcases aL.mp ha with z | z
     ·exact nol a z
     ·rw[aO] at z
      subst z
      cases y:H a with
      | none=>rfl
      | some o=>rw[e _ _ y] at nl; cases nl
    ·rw[iM,aJ]
     refine(All2.of_get al.len fun j a c h1 h2'=>?_).snoc (rl.keep (fun xs=>kp l xs lD) tu)
     obtain⟨c',hc',r⟩:=al.get' h1
     rw[h2'] at hc'
     cases hc'
     have aD:a≠D:=fun z=>hDl (z ▸ az h1)
     exact r.keep (fun xs hx=>kp a xs aD (e2 _ _ hx)) (e2.tups.trans tu)
   refine⟨_,rfl,_,rfl,b,_,1,_,rfl,rfl,SqT.of (e _ _ b1),rfl,qm,_,rfl, .inr (SqT.of (e _ _ b2)),rfl,jAA ms,_,rfl,?_⟩
   rw[e0,jAJ]
   refine ite2 (fun hz=>?_) (fun hz=>?_)
   ·have hz:=aF hz
    refine⟨_,rfl,_,rfl,_,_,rfl,rfl,⟨by omega,by omega,by decide⟩,by show (2:Nat)<=_; decide,fun r H2 d2 e2=>⟨by show (1:Nat)<=_; decide,fun l H3 d3 e3 n3=>?_⟩⟩
    have nl:H' l=none:=by
     cases z:H' l with
     | none=>rfl
     | some o=>rw[e2 _ _ z] at n3; cases n3
    refine key l H3 (e2.trans e3) nl ⟨_,d3,?_⟩
    rw[jD4,aq hz]
    refine⟨⟨r,rfl,?_⟩,trivial⟩
    have:(1:Int)*2 ^ (i:Int).toNat=((2 ^ i:Nat):Int):=by
     rw[bq]
     push_cast
     omega
    rw[e3 _ _ d2]
    show some (HO.tup [V.int (-1),V.int ((1:Int)*2 ^ (i:Int).toNat)])=_
    rw[this]
   ·refine⟨by show (0:Nat)<=_; decide,fun l H3 d3 e3 n3=>?_⟩
    refine key l H3 e3 n3 ⟨_,d3,?_⟩
    rw[jD4,am (fun z=>hz (ar z))]
    trivial
  ·rintro D σ' H1 zs hD ⟨_,e1,h2,hn,ls,rfl,nd,hDl,nol,al⟩
   refine⟨_,rfl,b,_,2,_,rfl,rfl,SqT.of (e1 _ _ b1),rfl,true,qp,rfl,⟨_,SqT.of (e1 _ _ b3)⟩,jPG (tp:=true) (xs:=ps) (fun i σ H'=>(∃ v2 v3,σ=[some (.ref b),some (.ref D),v2,v3])/\Ext H H'/\H' D=some (.lst (ls.map V.ref))/\All2 (RowAt H') ls (chsN w.toNat ms pcs i)) ⟨⟨_,_,rfl⟩,e1,h2,al⟩ (fun i σ H' ⟨_,e,_⟩=>SqT.of (e _ _ b3)) ?_ ?_⟩
   ·rintro i x t σ H' hx ht ⟨⟨v2,v3,rfl⟩,e,h3,al3⟩
    obtain⟨pc,hpc,hPc⟩:=b4.at hx
    obtain⟨pa,pq,rfl,c1,c2⟩:=id hPc
    have hi:i<pcs.length:=(ai.mp hpc).1
    have gp:=g.pg pc (az hpc)
    have et:j7 pcs (i:Int)=pc.1:=by
     unfold j7
     rw[bq,ak,hpc]
     rfl
    have lt:=yV _ 0 w gp.lot.ris gp.lot.bnd
    have e':=e.new ht (.tup [.int (i:Int), .ref pa])
    have k':Ext H' (L2.upd H' t (.tup [.int (i:Int), .ref pa])):=(Ext.refl _).new ht _
    refine⟨t,_,rfl,SqT.of j5,rfl,_,_,rfl,_,_,rfl,rfl,?_⟩
    have h5:=k' _ _ h3
    have al5:=al3.imp fun l cs r=>r.keep (fun xs z=>k' _ _ z) k'.tups
    generalize L2.upd H' t (.tup [.int (i:Int), .ref pa])=H5 at e' h5 al5 ⊢
    obtain⟨hd,tl,hp1⟩:∃ hd tl,pc.1=hd::tl:=by
     cases z:pc.1 with
     | nil=>exact absurd z gp.lot.ne
     | cons a r=>exact⟨a,r,rfl⟩
    have hb:=gp.lot.bnd hd (by rw[hp1]; exact aE ..)
    have hdl:(j7 pcs (i:Int)).headD 0=((hd.toNat:Nat):Int):=by
     rw[et,hp1]
     show hd=_
     omega
    have hw:hd.toNat<w.toNat:=by omega
    obtain⟨l,hl,vs,hv,av⟩:=al5.get (yA hw)
    have lne:l≠D:=fun z=>hDl (z ▸ az hl)
    have iD:atI (ls.map V.ref) hd=some (.ref l):=by
     have:=yD (xs:=ls.map V.ref) (j:=hd.toNat) (v:= .ref l) (by rw[aN,hl]; rfl)
     rwa [show ((hd.toNat:Nat):Int)=hd by omega] at this
    have c2':H5 pq=some (.tup (pc.1.map V.int)):=e' _ _ c2
    refine⟨_,rfl,_,rfl,pa,_,0,_,rfl,rfl,SqT.of (e' _ _ c1),rfl,pq,_,0, .int hd,rfl,rfl,SqT.of c2',by rw[hp1]; exact yD (j:=0) rfl,D,_,_,_,rfl,rfl,SqL.of h5,iD, .inl ⟨rfl,_,SqL.of hv⟩,_,rfl,_,rfl,pa,_,0,_,rfl,rfl,SqT.of (e' _ _ c1),rfl,pq,pc.1,rfl,c2',fun x hx=>?_,by omega,fun H6 e6=>?_⟩
    ·have:=gp.lot.bnd x hx
     omega
    refine⟨by show (2:Nat)<=_; decide,fun r H7 d7 e7=>?_⟩
    have E7:=e6.trans e7
    have hv7:=E7 _ _ hv
    have vl:vs.length<=33:=by
     rw[av.len]
     exact(yZ g).len _ _ (yA hw)
    have ap:=ChAt.app (v:= .ref r) (c:=((i:Int),maskN (j7 pcs (i:Int)))) (E7 _ _ h5) nd (al5.imp fun l cs r=>r.keep (fun xs z=>E7 _ _ z) E7.tups) hl (yA hw) hv7 (av.imp fun _ _=>PrAt.mono E7.tups) ⟨r,rfl,by rw[et]; exact d7⟩ lne
    have nH:H l=none:=by
     cases z:H l with
     | none=>rfl
     | some o=>
      exfalso
      rw[nol l (az hl)] at z
      cases z
    refine⟨l,_,_,rfl,rfl,hv7,by rw[ay]; omega,⟨_,_,rfl⟩,?_,ap.1,?_⟩
    ·exact(e'.trans E7).updNew nH _
    ·rw[jNN hi hd.toNat hdl]
     exact ap.2
   ·rintro σ H' ⟨⟨v2,v3,rfl⟩,e,h3,al3⟩
    refine⟨_,rfl,q D H' ⟨ls,h3,nd,?_⟩ e⟩
    rw[pl] at al3
    exact al3
theorem jS3 {fd:FuncData}(F:Fun K "full_mask" "full_mask" sFull f fd)(T:Txt mg):FnOk P w K mg base CX0 1 f fd ["choices"] jEQ:=by
 refine F.ok scFull (fun vs H Q E h=>?_) (fun cdv A outer s H vs Q E hr h=>?_)
 ·obtain⟨_,_,rfl,_⟩:=h
  rfl
 ·obtain⟨L,ch,rfl,hL,hw,q⟩:=h
  refine⟨_,(fullA T).2.h,?_⟩
  obtain⟨ls,h1,h2⟩:=hL.len
  refine⟨_,rfl,L,_,rfl, .inl (SqL.of h1),_,_,rfl,rfl,⟨?_,?_,?_⟩,_,_,rfl,rfl,?_⟩
  ·first | omega | decide
  ·rw[ae]; omega
  ·first | omega | decide
  ·have e:(1:Int)*2 ^ (((ls.map V.ref).length:Nat):Int).toNat - 1=((fullN ch:Nat):Int):=by
    rw[ae,h2,bq]
    unfold fullN
    have:=dB ch.length
    have e2:((2 ^ ch.length:Nat):Int)=(2:Int) ^ ch.length:=by push_cast; rfl
    omega
   show Q (V.int ((1:Int)*2 ^ (((ls.map V.ref).length:Nat):Int).toNat - 1)) H
   rw[e]
   exact q
theorem ok_at {fd:FuncData}(F:Fun K "choices_at" "choices_at" sAt f fd)(T:Txt mg):FnOk P w K mg base CX0 1 f fd ["choices","mask"] spAt:=by
 refine F.ok scAt (fun vs H Q E h=>?_) (fun cdv A outer s H vs Q E hr h=>?_)
 ·obtain⟨_,_,_,rfl,_⟩:=h
  rfl
 ·obtain⟨L,ch,m,rfl,hL,ok,hm,hf,q⟩:=h
  refine⟨_,(atA T).2.h,?_⟩
  obtain⟨ls,h1,nd,al⟩:=hL.ex
  have hlow:=jCG hm hf
  have w16:=ok.w
  refine⟨_,rfl,_,rfl,_,rfl,_,_,rfl,rfl,_,_,rfl,rfl,rfl,_,rfl,rfl,_,_,rfl,rfl,?_⟩
  have el:(Builtin.Int.intBits (Builtin.bitAnd (Builtin.bitNot (m:Int)) ((m:Int)+1)):Int) - 1=((lowN m:Nat):Int):=by
   rw[jOX]
   omega
  show kL 2 (V.int ((Builtin.Int.intBits (Builtin.bitAnd (Builtin.bitNot (m:Int)) ((m:Int)+1)):Int) - 1)) _ _ _
  rw[el]
  obtain⟨l,hl,vs,hv,av⟩:=al.get (aw hlow)
  have vl:vs.length<=33:=by
   rw[av.len]
   exact ok.len _ _ (aw hlow)
  have er:ch.getD (lowN m) []=ch[lowN m]:=by
   rw[ak,aw hlow]
   rfl
  refine⟨_,rfl,_,rfl,L,_,_,_,rfl,rfl,SqL.of h1,yD (by rw[aN,hl]; rfl),l,rfl,⟨_,SqL.of hv⟩,jB2 (xs:=vs) (fun σ=>∃ v,σ=[v,some (.int (m:Int))]) (fun H' zs j=>All2 (PrAt H') zs (((ch[lowN m]).take j).filter fun c=>c.2&&&m==0)) ⟨fun H=>trivial,fun H H' zs j t h=>h.imp fun _ _=>PrAt.mono t,fun H zs j h=>?_⟩ hv (by rw[ay]; omega) ⟨_,rfl⟩ ?_ ?_⟩
  ·rw[h.len]
   exact bb (bw _ _) (bh _ _)
  ·rintro j x σ' H' zs hx ⟨v,rfl⟩ e hz R S yes no
   obtain⟨c,hc,qa,rfl,hq⟩:=av.get' hx
   have hq':=e _ _ hq
   have et:(ch[lowN m]).take (j+1)=(ch[lowN m]).take j++[c]:=by
    rw[aV,hc]
    rfl
   refine⟨_,rfl,qa,_,1,_,rfl,rfl,SqT.of hq',rfl,_,rfl,_,_,rfl,rfl,rfl,_,rfl,?_⟩
   have ez:decide (V.int (Builtin.bitAnd ((c.2:Nat):Int) (m:Int))=V.int 0)=(c.2&&&m==0):=by
    rw[jKT,bS,bo,gR]
    exact⟨fun h=>by have:=V.int.inj h; omega,fun h=>by rw[h]; rfl⟩
   show if decide (V.int (Builtin.bitAnd ((c.2:Nat):Int) (m:Int))=V.int 0)=true then _ else _
   rw[ez]
   refine ite2 (fun h=>?_) (fun h=>?_)
   ·refine⟨_,rfl,yes _ _ _ ⟨_,rfl⟩ (Ext.refl _) ?_⟩
    show All2 _ _ (((ch[lowN m]).take (j+1)).filter _)
    rw[et,bQ,cM,aq h]
    exact hz.snoc ⟨qa,rfl,hq'⟩
   ·refine no _ _ ⟨_,rfl⟩ (Ext.refl _) ?_
    show All2 _ _ (((ch[lowN m]).take (j+1)).filter _)
    rw[et,bQ,cM,am h,List.filter_nil,aW]
    exact hz
  ·rintro D H' zs hD e hn hz
   rw[av.len,aZ] at hz
   refine q D H' ⟨zs,hD,?_⟩ e hn
   unfold chAt
   rw[er]
   exact hz
end
end Eo
end
section
namespace L2
open PySem
theorem jLA {ks:List (Option Expr)}{vs:List Expr}{pos:Pos}{o:Option Expr} :SwOk (.Dict ks vs pos) o:=⟨fun _ _=>rfl⟩
end L2
namespace Eo
open PySem L2
abbrev natV (n:Nat):V:= .int (n:Int)
structure MetOk (ch:Ch)(ns:List Nat):Prop where
 zero:0∈ns
 bnd:∀ m∈ns,m<2 ^ ch.length
 up:∀ m∈ns,m≠fullN ch->∀ c∈chAt ch m,(m|||c.2)∈ns
def trK (ks:List Nat):List (Key×V):=ks.map fun (k:Nat)=>(Sum.inl (k:Int),V.bl true)
def jQW:Stmt->List Stmt
 | .While _ b _ _=>b
 | _=> []
theorem jHO (n:Nat):∀ ks:List Nat,valV (trK ks) (.inl (n:Int))=if n∈ks then some (.bl true) else none
 | []=>rfl
 | k::ks=>by
  show valV ((Sum.inl (k:Int),V.bl true)::trK ks) _=_
  by_cases h:k=n
  ·subst h
   rw[jBD rfl,aq (aE ..)]
  ·rw[jBE (by intro z; have:=gt z; omega),jHO n ks]
   by_cases h2:n∈ks
   ·rw[aq h2,aq (aK _ h2)]
   ·rw[am h2,am]
    intro z
    rcases aG.mp z with z | z
    ·exact h z.symm
    ·exact h2 z
theorem jSW {H:Hp}{M:Addr}{ks:List Nat}{m c:Nat}(h:H M=some (.dK (trK ks))):DGet H M (.int (Builtin.bitOr (m:Int) (c:Int))) (if (m|||c)∈ks then some (.bl true) else none):=by
 rw[jCP,<- jHO]
 exact DGet.k (k:=Sum.inl (((m|||c:Nat):Nat):Int)) h
theorem jSV {H:Hp}{M:Addr}{ks:List Nat}{m c:Nat}(h:H M=some (.dK (trK ks)))(hn:¬ (m|||c)∈ks)(hl:(trK ks).length<sizeLine):DPut H M (.int (Builtin.bitOr (m:Int) (c:Int))) (.bl true) (L2.upd H M (.dK (trK (ks++[m|||c])))):=by
 rw[jCP]
 have:=DPut.k (k:=Sum.inl (((m|||c:Nat):Nat):Int)) (v:= .bl true) h hl
 rw[jJ2 _ (by rw[jHO,am hn])] at this
 unfold trK
 rw[aJ]
 exact this
theorem jB0 {n:Nat}{ks:List Nat}(nd:ks.Nodup)(hb:∀ k∈ks,k<n):ks.length<=n:=by
 have:(ks.map fun k:Nat=>(k:Int)).length<=n:=jGO n _ (bz.mpr (nd.imp fun h=>by omega)) fun t ht=>by
  obtain⟨k,hk,rfl⟩:=aP.mp ht
  have:=hb k hk
  omega
 rwa [ae] at this
section
variable {P:Program}{w:World}{K:W.Frag}{mg:Str->Option Value}{base:Heap}
variable {f fF fA:Addr}{fdF fdA:FuncData}{cdv:Value}{A:Around}{outer:List Env}{s:Shared}{H0:Hp}{E:XK}
abbrev nMet:List Str:=["choices","full","met","waiting","mask","number","more"]
theorem scMet:FnScope nMet ["choices"] (j6 sMet):=⟨rfl,rfl,rfl,by decide+kernel,rfl,by decide+kernel,by decide+kernel⟩
def spMet:Sp:=fun vs H Q _=>∃ (L:Addr) (ch:Ch),vs=[.ref L]/\ChAt H L ch/\ChOk ch/\∀ (r:Addr) (ns:List Nat) (H':Hp),H' r=some (.lst (ns.map natV))->ns.Pairwise (· > ·)->MetOk ch ns->Ext H H'->H r=none->Q (.ref r) H'
def jJE (T:Txt mg)(CA:Can P w K mg base "choices_at" 1 fA fdA ["choices","mask"] spAt)(hr:Room 1 (XOf nMet "masks_met" sMet P w K mg base f cdv A outer s H0 E).A): { t:TS // JSs (XOf nMet "masks_met" sMet P w K mg base f cdv A outer s H0 E) (jQW ((jB sMet).getD 3 (.Pass ⟨0,0,0,0⟩))) t} :=
 have nd:=scMet.nd
 ⟨_,(jC (jQ (i:=4) nd rfl lL (jQH bV PySem.F.slot_list_pop PySem.F.type_list_pop jUD (jv 3 rfl vL)) jZ)
   (jD (yC (jT op_ne (jv 4 rfl vL) (jv 1 rfl vL) (jV _)) (jD (jBU cf rfl (yS (CA.je hr gD (j3 (jv 0 rfl vL) (j3 (jv 4 rfl vL) j8 j4) j4) j4)) (jJL (i:=5) (j:=6) nd rfl rfl (by decide+kernel) (by decide+kernel)) (jD (yC (jMY (hu_of hr) (kU op_or (jv 4 rfl vL) (jv 6 rfl vL)) (jv 2 rfl vL) rfl) (jC (jI2 (hu_of hr) (jv 2 rfl vL) (kU op_or (jv 4 rfl vL) (jv 6 rfl vL)) (je_bl) jIT)
   (jD (jC0 (je_bm bV dX dY jB8 (jv 3 rfl vL) (j3 (kU op_or (jv 4 rfl vL) (jv 6 rfl vL)) j8 yJ) yJ) jZ))) kI)) kZ)) kI)))⟩
def metA (T:Txt mg)(CF:Can P w K mg base "full_mask" 1 fF fdF ["choices"] jEQ)(CA:Can P w K mg base "choices_at" 1 fA fdA ["choices","mask"] spAt)(hr:Room 1 (XOf nMet "masks_met" sMet P w K mg base f cdv A outer s H0 E).A): { t:TS // JSs (XOf nMet "masks_met" sMet P w K mg base f cdv A outer s H0 E) (jB sMet) t} :=
 have nd:=scMet.nd
 ⟨_,(jC (jQ (i:=1) nd rfl lL (CF.je (hr.mono (by decide)) gD (j3 (jv 0 rfl vL) j8 j4) j4) jZ) (jC (jQ (i:=2) nd rfl lL (jP6) jLA) (jC (jQ (i:=3) nd rfl lL (yW (j3 (je_int) j8 jR)) jD5) (jC (jP2 cf (jT op_gt (jH kB gD T.len (by decide+kernel) (j3 (jv 3 rfl vL) j8 j4) j4) (je_int) (jV _)) (jJE T CA hr).2) (jD (jW (jMZ (jG2 rfl) gD T.sorted (by decide+kernel) (j3 (jv 2 rfl vL) j8 j4) (jSJ je_bl jUO) j4)))))))⟩
theorem jOU (T:Txt mg)(CA:Can P w K mg base "choices_at" 1 fA fdA ["choices","mask"] spAt)(hr:Room 1 (XOf nMet "masks_met" sMet P w K mg base f cdv A outer s H0 E).A)
  {D:Ends}{H:Hp}{L M W:Addr}{ch:Ch}{ks ws:List Nat}{m:Nat}{v4 v5 v6:Option V}(hL:ChAt H L ch) (ok:ChOk ch) (hM:H M=some (.dK (trK ks))) (hW:H W=some (.lst ((ws++[m]).map natV))) (nd:ks.Nodup) (hb:∀ k∈ks,k<2 ^ ch.length) (hm:m∈ks) (wln:ws.length<=ks.length)
  (nx:∀ (H':Hp) (new:List Nat) (v4 v5 v6:Option V),(∀ b o,H b=some o->b≠M->b≠W->H' b=some o)->H' M=some (.dK (trK (ks++new)))->H' W=some (.lst ((ws++new).map natV))->(ks++new).Nodup->(∀ k∈ks++new,k<2 ^ ch.length)->(m≠fullN ch->∀ c∈chAt ch m,(m|||c.2)∈ks++new)->D.nx [some (.ref L),some (natV (fullN ch)),some (.ref M),some (.ref W),v4,v5,v6] H'):
  (jJE T CA hr).1 D [some (.ref L),some (natV (fullN ch)),some (.ref M),some (.ref W),v4,v5,v6] H:=by
 have MW:M≠W:=fun z=>by rw[z,hW] at hM; cases hM
 have LW:∀ ls:List Addr,H L=some (.lst (ls.map V.ref))->L≠W:=fun ls h z=>by
  rw[z,hW] at h
  have h:=HO.lst.inj (bg h)
  have h2:natV m∈ls.map V.ref:=by rw[<- h]; simp
  obtain⟨a,_,ha⟩:=aP.mp h2
  cases ha
 have rw':∀ l cs,RowAt H l cs->l≠W:=fun l cs ⟨vs,h1,h2⟩ z=>by
  rw[z,hW] at h1
  have h1:=HO.lst.inj (bg h1)
  have h3:vs[ws.length]?=some (natV m):=by rw[<- h1]; simp
  obtain⟨_,_,q,e,_⟩:=h2.get' h3
  cases e
 have w16:=ok.w
 have hm2:=hb m hm
 have wl:((ws++[m]).map natV)[((ws++[m]).map natV).length - 1]?=some (natV m):=by
  rw[ae,aB,aN,aY (by simp)]
  simp
 have dl:((ws++[m]).map natV).dropLast=ws.map natV:=by
  rw[aJ]
  simp
 refine⟨_,rfl, .inl ⟨rfl,_,SqL.of hW⟩,W,_,_,rfl,rfl,hW,wl,?_⟩
 rw[dl]
 have hM1:(L2.upd H W (.lst (ws.map natV))) M=some (.dK (trK ks)):=by rw[j9 MW]; exact hM
 have hW1:(L2.upd H W (.lst (ws.map natV))) W=some (.lst (ws.map natV)):=j5
 have k1:∀ b o,H b=some o->b≠W->(L2.upd H W (.lst (ws.map natV))) b=some o:=fun b o h n=>by rw[j9 n]; exact h
 have hL1:ChAt (L2.upd H W (.lst (ws.map natV))) L ch:=by
  obtain⟨ls,a1,a2,a3⟩:=hL.ex
  exact⟨ls,k1 _ _ a1 (LW _ a1),a2,a3.imp fun l cs r=>r.keep (fun xs z=>k1 _ _ z (rw' _ _ r)) (Tups.upd hW _)⟩
 generalize L2.upd H W (.lst (ws.map natV))=H1 at hM1 hW1 k1 hL1
 refine⟨_,rfl,_,rfl,rfl,_,rfl,?_⟩
 have nf:(!decide (natV m=natV (fullN ch)))=true↔m≠fullN ch:=by
  rw[dz,cK]
  refine not_congr ⟨fun h=>?_,fun h=>by rw[h]⟩
  have:=V.int.inj h
  omega
 refine ite2 (fun h=>?_) (fun h=>?_)
 ·have h:=nf.mp h
  refine⟨_,rfl,_,rfl,L,ch,m,rfl,hL1,ok,hm2,h,fun r H2 ⟨vs,hr2,av⟩ e2 nr=>?_⟩
  have hM2:=e2 _ _ hM1
  have hW2:=e2 _ _ hW1
  have rW:r≠W:=fun z=>by rw[z,hW1] at nr; cases nr
  have rM:r≠M:=fun z=>by rw[z,hM1] at nr; cases nr
  refine⟨r,rfl,⟨_,SqL.of hr2⟩,jDK (xs:=vs) (fun i σ H'=>(∃ v5 v6,σ=[some (.ref L),some (natV (fullN ch)),some (.ref M),some (.ref W),some (natV m),v5,v6])/\(∀ b o,H2 b=some o->b≠M->b≠W->H' b=some o)/\∃ new:List Nat,H' M=some (.dK (trK (ks++new)))/\H' W=some (.lst ((ws++new).map natV))/\(ks++new).Nodup/\(∀ k∈ks++new,k<2 ^ ch.length)/\∀ c∈(chAt ch m).take i,(m|||c.2)∈ks++new) ⟨⟨_,_,rfl⟩,fun b o h _ _=>h,[],by rw[aW]; exact hM2,by rw[aW]; exact hW2,by rw[aW]; exact nd,by rw[aW]; exact hb,fun c hc=>by cases hc⟩ (fun i σ H' _ ⟨_,k,_⟩=>SqL.of (k _ _ hr2 rM rW)) ?_ ?_⟩
  ·rintro i x σ H' hx ⟨⟨v5,v6,rfl⟩,k,new,hM',hW',nd',hb',cl⟩
   obtain⟨c,hc,q,rfl,hq⟩:=av.get' hx
   have qM:q≠M:=fun z=>by rw[z,hM2] at hq; cases hq
   have qW:q≠W:=fun z=>by rw[z,hW2] at hq; cases hq
   have hcm:=az hc
   obtain⟨u1,u2⟩:=ok.up hm2 h hcm
   have tk:(chAt ch m).take (i+1)=(chAt ch m).take i++[c]:=by rw[aV,hc]; rfl
   refine⟨q,_,rfl,SqT.of (k _ _ hq qM qW),rfl,_,_,rfl,_,_,rfl,rfl,?_⟩
   refine⟨_,rfl,_,rfl,_,_,rfl,rfl,_,rfl,M,_,rfl,jSW hM',_,rfl,?_⟩
   by_cases hin:(m|||c.2)∈ks++new
   ·rw[aq hin]
    refine iteF ⟨⟨_,_,rfl⟩,k,new,hM',hW',nd',hb',fun c' hc'=>?_⟩
    rw[tk] at hc'
    rcases aL.mp hc' with z | z
    ·exact cl c' z
    ·rw[aO] at z
     rw[z]
     exact hin
   ·rw[am hin]
    have ndn:(ks++(new++[m|||c.2])).Nodup:=by
     rw[<- aU,dU]
     refine⟨nd',by simp,fun a ha b hb z=>?_⟩
     rw[aO] at hb
     exact hin (hb ▸ z ▸ ha)
    have bdn:∀ k∈ks++(new++[m|||c.2]),k<2 ^ ch.length:=fun k hk=>by
     rw[<- aU] at hk
     rcases aL.mp hk with z | z
     ·exact hb' k z
     ·rw[aO] at z
      rw[z]
      exact u2
    have sz:(ks++(new++[m|||c.2])).length<=2 ^ 16:=bb (jB0 ndn bdn) (cL (by decide) w16)
    rw[aB,aB] at sz
    have kl:(trK (ks++new)).length<sizeLine:=by
     unfold trK
     rw[ae,aB,ay]
     simp at sz
     omega
    refine iteT ⟨_,rfl,_,rfl,_,rfl,_,_,rfl,rfl,M,_,rfl,jSV hM' hin kl,?_⟩
    have hW3:(L2.upd H' M (.dK (trK (ks++new++[m|||c.2])))) W=some (.lst ((ws++new).map natV)):=by rw[j9 MW.symm]; exact hW'
    have hM3:(L2.upd H' M (.dK (trK (ks++new++[m|||c.2])))) M=some (.dK (trK (ks++(new++[m|||c.2])))):=by rw[j5,aU]
    have k3:∀ b o,H2 b=some o->b≠M->b≠W->(L2.upd H' M (.dK (trK (ks++new++[m|||c.2])))) b=some o:=fun b o hbo n1 n2=>by rw[j9 n1]; exact k b o hbo n1 n2
    generalize L2.upd H' M (.dK (trK (ks++new++[m|||c.2])))=H3 at hW3 hM3 k3
    refine⟨_,rfl, .inl ⟨rfl,_,SqL.of hW3⟩,_,rfl,_,rfl,_,_,rfl,rfl,W,_,_,rfl,rfl,hW3,?_,⟨_,_,rfl⟩,fun b o hbo n1 n2=>by rw[j9 n2]; exact k3 b o hbo n1 n2,new++[m|||c.2],by rw[j9 MW]; exact hM3,?_,ndn,bdn,fun c' hc'=>?_⟩
    ·skip
     rw[ae,aB,ay]
     simp at sz
     omega
    ·rw[j5]
     show some (HO.lst ((ws++new).map natV++[V.int (Builtin.bitOr (m:Int) (c.2:Int))]))=_
     rw[jCP,<- aU]
     exact bN (fun z=>some (HO.lst z)) (aJ (f:=natV) (l₁:=ws++new) (l₂:=[m|||c.2])).symm
    ·rw[<- aU,aL]
     rw[tk] at hc'
     rcases aL.mp hc' with z | z
     ·exact .inl (cl c' z)
     ·rw[aO] at z
      rw[z]
      exact .inr (aO.mpr rfl)
  ·rintro σ H' ⟨⟨v5,v6,rfl⟩,k,new,hM',hW',nd',hb',cl⟩
   have:(chAt ch m).take vs.length=chAt ch m:=by rw[av.len,aZ]
   rw[this] at cl
   exact nx H' new _ _ _ (fun b o hbo n1 n2=>k _ _ (e2 _ _ (k1 _ _ hbo n2)) n1 n2) hM' hW' nd' hb' fun _=>cl
 ·have h:m=fullN ch:=da fun z=>h (nf.mpr z)
  exact nx H1 [] _ _ _ (fun b o hbo n1 n2=>k1 _ _ hbo n2) (by rw[aW]; exact hM1) (by rw[aW]; exact hW1) (by rw[aW]; exact nd) (by rw[aW]; exact hb) fun z=>absurd h z
theorem jU6 {fd:FuncData}(F:Fun K "masks_met" "masks_met" sMet f fd)(T:Txt mg)(CF:Can P w K mg base "full_mask" 1 fF fdF ["choices"] jEQ)(CA:Can P w K mg base "choices_at" 1 fA fdA ["choices","mask"] spAt):FnOk P w K mg base CX0 2 f fd ["choices"] spMet:=by
 refine F.ok scMet (fun vs H Q E h=>?_) (fun cdv A outer s H vs Q E hr h=>?_)
 ·obtain⟨_,_,rfl,_⟩:=h
  rfl
 ·obtain⟨L,ch,rfl,hL,ok,q⟩:=h
  refine⟨_,(metA T CF CA hr).2.h,?_⟩
  have w16:=ok.w
  refine⟨_,rfl,L,ch,rfl,hL,w16,?_⟩
  refine fun M H1 hM1 e1 nM=>?_
  refine⟨by show (1:Nat)<=_; decide,fun W H2 hW2 e2 nW=>?_⟩
  have hM2:=e2 _ _ hM1
  have nW0:H W=none:=by
   cases z:H W with
   | none=>rfl
   | some o=>rw[e1 _ _ z] at nW; cases nW
  have E2:=e1.trans e2
  have pz:(0:Nat)<2 ^ ch.length:=dB _
  refine⟨fun n σ H'=>(∃ v4 v5 v6,σ=[some (.ref L),some (natV (fullN ch)),some (.ref M),some (.ref W),v4,v5,v6])/\Ext H H'/\∃ ks ws:List Nat,n=2*(2 ^ ch.length - ks.length)+ws.length/\H' M=some (.dK (trK ks))/\H' W=some (.lst (ws.map natV))/\ks.Nodup/\(∀ k∈ks,k<2 ^ ch.length)/\(∀ k∈ws,k∈ks)/\ws.length<=ks.length/\0∈ks/\∀ k∈ks,k∉ws->k≠fullN ch->∀ c∈chAt ch k,(k|||c.2)∈ks,⟨_,⟨_,_,_,rfl⟩,E2,[0],[0],rfl,hM2,hW2,by simp,fun k hk=>by rw[aO] at hk; omega,fun k hk=>hk,ao _,by simp,fun k h1 h2=>absurd h1 h2⟩,?_⟩
  rintro n σ H' ⟨⟨v4,v5,v6,rfl⟩,e,ks,ws,rfl,hM',hW',nd,hb,sub,wl,z0,cl⟩
  refine⟨_,rfl,W,_,rfl, .inl (SqL.of hW'),_,_,rfl,rfl,_,rfl,?_⟩
  rcases List.eq_nil_or_concat ws with hws | ⟨ws',m,hws⟩
  ·subst hws
   refine iteF ?_
   have ksl:=jB0 nd hb
   have p16:2 ^ ch.length<=2 ^ 16:=cL (by decide) w16
   refine⟨_,rfl,M,trK ks,ks.map fun k:Nat=>(k:Int),true,rfl,rfl,hM',by unfold trK; rw[bI,bI]; rfl,by rw[ae,ay]; omega,fun l ns hl ord pm=>?_⟩
   obtain⟨js,rfl⟩:∃ js:List Nat,ns=js.map fun k:Nat=>(k:Int):=by
    refine⟨ns.map Int.toNat,?_⟩
    rw[bI]
    refine(fN ns).symm.trans (bR fun x hx=>?_)
    obtain⟨k,_,rfl⟩:=aP.mp (pm.mem_iff.mp hx)
    show ((k:Nat):Int)=(((k:Nat):Int).toNat:Int)
    omega
   have pm':js.Perm ks:=by
    have:=pm.map Int.toNat
    rw[bI,bI] at this
    have e:∀ l:List Nat,l.map (Int.toNat ∘ fun k:Nat=>(k:Int))=l:=fun l=>(bR fun x _=>by show ((x:Nat):Int).toNat=x; omega).trans (fN l)
    rwa [e,e] at this
   refine q l js _ ?_ ?_ ⟨pm'.mem_iff.mpr z0,fun m hm=>hb m (pm'.mem_iff.mp hm),fun m hm hf c hc=>pm'.mem_iff.mpr (cl m (pm'.mem_iff.mp hm) (by simp) hf c hc)⟩ ((Ext.refl _).trans (e.new hl _)) ?_
   ·rw[j5,bI]
    rfl
   ·have nj:js.Nodup:=pm'.nodup_iff.mpr nd
    have:js.Pairwise (fun (a b:Nat)=>(b:Int)<=(a:Int)):=bz.mp ord
    exact(this.and nj).imp fun {a b} h=>by omega
   ·cases z:H l with
    | none=>rfl
    | some o=>rw[e _ _ z] at hl; cases hl
  ·have hws:ws=ws'++[m]:=by rw[hws,List.concat_eq_append]
   subst hws
   have lp:decide ((0:Int)<(((ws'++[m]).map natV).length:Int))=true:=by
    rw[bo,ae,aB]
    show (0:Int)<((ws'.length+1:Nat):Int)
    omega
   show if decide ((0:Int)<(((ws'++[m]).map natV).length:Int))=true then _ else _
   rw[aq lp]
   rw[aB] at wl
   refine⟨fun σ' H''=>(∃ v4 v5 v6,σ'=[some (.ref L),some (natV (fullN ch)),some (.ref M),some (.ref W),v4,v5,v6])/\Ext H H''/\∃ new:List Nat,H'' M=some (.dK (trK (ks++new)))/\H'' W=some (.lst ((ws'++new).map natV))/\(ks++new).Nodup/\(∀ k∈ks++new,k<2 ^ ch.length)/\(m≠fullN ch->∀ c∈chAt ch m,(m|||c.2)∈ks++new),?_,jOU T CA hr (ks:=ks) (ws:=ws') (m:=m) (hL.ext e) ok hM' hW' nd hb (sub m (by simp)) (by omega) ?_⟩
   ·rintro σ' H'' ⟨hσ,e',new,a1,a2,a3,a4,a5⟩
    have sl:=jB0 a3 a4
    rw[aB] at sl
    refine⟨_,?_,hσ,e',ks++new,ws'++new,rfl,a1,a2,a3,a4,fun k hk=>?_,?_,aX _ z0,fun k hk hkw hf c hc=>?_⟩
    ·rw[aB,aB,aB]
     simp only [aR,bZ]
     omega
    ·rcases aL.mp hk with z | z
     ·exact aX _ (sub k (aX _ z))
     ·exact aQ _ z
    ·rw[aB,aB]
     omega
    ·by_cases hkm:k=m
     ·subst hkm
      exact a5 hf c hc
     ·rcases aL.mp hk with z | z
      ·refine aX _ (cl k z (fun y=>?_) hf c hc)
       rcases aL.mp y with y | y
       ·exact hkw (aX _ y)
       ·exact hkm (aO.mp y)
      ·exact absurd (aQ _ z) hkw
   ·intro H'' new v4 v5 v6 kp a1 a2 a3 a4 a5
    refine⟨⟨_,_,_,rfl⟩,fun b o hbo=>?_,new,a1,a2,a3,a4,a5⟩
    refine kp b o (e b o hbo) (fun z=>?_) fun z=>?_
    ·rw[z,nM] at hbo; cases hbo
    ·rw[z,nW0] at hbo; cases hbo
end
end Eo
end
section
namespace L2
open PySem
theorem jQY {x:Str}{pos:Pos}{o:Option Expr} :SwOk (.Name x pos) o:=⟨fun _ _=>rfl⟩
end L2
namespace Eo
open PySem L2
structure HpOk (φ:Hp->Prop):Prop where
 keep:∀ (H H':Hp) (D:Addr) (kvs:List (Key×V)),H D=some (.dK kvs)->(∀ b o,H b=some o->b≠D->H' b=some o)->φ H->φ H'
 ext:∀ H H',Ext H H'->φ H->φ H'
abbrev RepT:=Nat->Hp->V->Prop
def RepOk (R:RepT):Prop:=∀ m v,HpOk fun H=>R m H v
def ItAt (R:RepT)(m:Nat)(H:Hp)(v:V)(c:Int×Nat):Prop:=∃ q u,v= .ref q/\H q=some (.tup [.int c.1,u])/\R (m|||c.2) H u
def jEP (ch:Ch)(R:RepT):Sp:=fun vs H Q _=>∃ (l:Addr) (us:List V) (m:Nat),vs=[.ref l]/\H l=some (.lst us)/\m<2 ^ ch.length/\m≠fullN ch/\All2 (ItAt R m H) us (chAt ch m)/\∀ r H',R m H' r->Ext H H'->Q r H'
def gvs (ns:List Nat)(us:List V):List (Key×V):=(ns.zip us).map fun p:Nat×V=>(Sum.inl (p.1:Int),p.2)
structure GotAt (H:Hp)(r:Addr)(ch:Ch)(R:RepT)(ns:List Nat):Prop where
 ex:∃ us,H r=some (.dK (gvs ns us))/\All2 (fun n u=>R n H u) ns us
theorem jF6 {R:Nat->V->Prop} :∀ {ns:List Nat}{us:List V}{n:Nat},All2 R ns us->ns.Nodup->n∈ns->∃ u,valV (gvs ns us) (.inl (n:Int))=some u/\R n u
 | [],_,_,_,_,h=>by cases h
 | k::ns,[],_,h,_,_=>h.elim
 | k::ns,u::us,n,h,nd,hm=>by
  show ∃ x,valV ((Sum.inl (k:Int),u)::gvs ns us) _=_/\_
  by_cases hk:k=n
  ·subst hk
   exact⟨u,jBD rfl,h.1⟩
  ·rw[jBE (by intro z; have:=gt z; omega)]
   rcases aG.mp hm with z | z
   ·exact absurd z.symm hk
   ·exact jF6 h.2 (cD.mp nd).2 z
theorem jC5:∀ {ns:List Nat}{us:List V}{n:Nat},n∉ns->valV (gvs ns us) (.inl (n:Int))=none
 | [],_,_,_=>by
  unfold gvs
  rw[List.zip_nil_left]
  rfl
 | k::ns,[],_,_=>rfl
 | k::ns,u::us,n,h=>by
  show valV ((Sum.inl (k:Int),u)::gvs ns us) _=_
  rw[jBE (by intro z; have:=gt z; exact h (by rw[show n=k by omega]; exact aE ..))]
  exact jC5 fun z=>h (aK _ z)
theorem jPE {ns:List Nat}{us:List V}{n:Nat}{u:V}(h:ns.length=us.length):gvs (ns++[n]) (us++[u])=gvs ns us++[(Sum.inl (n:Int),u)]:=by
 unfold gvs
 rw[List.zip_append h,aJ]
 rfl
section
variable {P:Program}{w:World}{K:W.Frag}{mg:Str->Option Value}{base:Heap}
variable {f fF fA fM j:Addr}{fdF fdA fdM:FuncData}{cdv:Value}{A:Around}{outer:List Env}{s:Shared}{H0:Hp}{E:XK}{Z:Shared->Hp->Prop}{zh:Hp->Prop}{ch:Ch}{R:RepT}
abbrev nGath:List Str:=["choices","at_end","join","full","values","mask"]
theorem scGath:FnScope nGath ["choices","at_end","join"] (j6 qH):=⟨rfl,rfl,rfl,by decide+kernel,rfl,by decide+kernel,by decide+kernel⟩
def jLG (j:Addr)(zh:Hp->Prop)(ch:Ch)(R:RepT):Sp:=fun vs H Q _=>∃ (L:Addr) (ve:V),vs=[.ref L,ve, .ref j]/\ChAt H L ch/\R (fullN ch) H ve/\zh H/\∀ (r:Addr) (ns:List Nat) (H':Hp),GotAt H' r ch R ns->ns.Pairwise (· > ·)->MetOk ch ns->Ext H H'->H r=none->Q (.ref r) H'
def jN7 (T:Txt mg)(CA:Can P w K mg base "choices_at" 1 fA fdA ["choices","mask"] spAt)(CJ:Callee P w K mg base Z zh 3 j (jEP ch R))(zs:ZSt Z)(hz:Z s H0)(hr:Room 3 (XOf nGath "gathered" qH P w K mg base f cdv A outer s H0 E).A): { t:TS // JSs (XOf nGath "gathered" qH P w K mg base f cdv A outer s H0 E) (jCH ((jB qH).getD 2 (.Pass ⟨0,0,0,0⟩))) t} :=
 have nd:=scGath.nd
 ⟨_,(jD (yC (jT qO (jv 5 rfl vC) (jv 3 rfl vL) (jV _)) (jD (jI2 (hu_of hr) (jv 4 rfl vC) (jv 5 rfl vC) (jv 1 rfl vL) jQY)) (jD (jI2 (hu_of hr) (jv 4 rfl vC) (jv 5 rfl vC) (jPA (j:=2) CJ (hr.mono (by decide)) zs hz rfl rfl vL (j3 (kR (m:=[none,none,some 4,some 5]) (Nc:=["number","more","values","mask"]) rfl (yS (CA.je (hr.mono (by decide)) gD (j3 (jv 0 rfl vL) (j3 (jv 5 rfl vC) j8 j4) j4) j4)) rfl (by decide+kernel) (by decide+kernel) (jS (psc:=j6 qH) (by decide+kernel)) (jI (N:=nGath) rfl rfl (by decide+kernel)) (fun cl C fp s H=>jCJ (i:=0) (j:=1) rfl (show (["number","more","values","mask"]:List Str).Nodup by decide+kernel) rfl rfl (by decide+kernel) (by decide+kernel)) (fun cl C fp s H=>kY) (fun cl C fp s H=>(y8 (j3 (jv 0 rfl (jX (by decide+kernel))) (j3 (jFS (hu_of hr) (jv 2 rfl (kW (by decide+kernel))) (kU op_or (jv 3 rfl (kW (by decide+kernel))) (jv 1 rfl (jX (by decide+kernel)))) jQ2) j8 kD) j4))) kZ) j8 jK) jK) jZ))))⟩
def gathA (T:Txt mg)(CF:Can P w K mg base "full_mask" 1 fF fdF ["choices"] jEQ)(CM:Can P w K mg base "masks_met" 2 fM fdM ["choices"] spMet)(CA:Can P w K mg base "choices_at" 1 fA fdA ["choices","mask"] spAt)(CJ:Callee P w K mg base Z zh 3 j (jEP ch R))(zs:ZSt Z)(hz:Z s H0)(hr:Room 3 (XOf nGath "gathered" qH P w K mg base f cdv A outer s H0 E).A): { t:TS // JSs (XOf nGath "gathered" qH P w K mg base f cdv A outer s H0 E) (jB qH) t} :=
 have nd:=scGath.nd
 ⟨_,(jC (jQ (i:=3) nd rfl lL (CF.je (hr.mono (by decide)) gD (j3 (jv 0 rfl vL) j8 j4) j4) jZ) (jC (jQ (i:=4) nd rfl (loc_c (by decide+kernel)) (jP7) jLA) (jC (jBU cf rfl (yS (CM.je (hr.mono (by decide)) gD (j3 (jv 0 rfl vL) j8 j4) j4)) (jJ (i:=5) nd rfl (loc_c (by decide+kernel))) (jN7 T CA CJ zs hz hr).2 kZ) (jD (jW (jv 4 rfl vC))))))⟩
theorem jM1 {fd:FuncData}(F:Fun K "gathered" "gathered" qH f fd)(T:Txt mg)(CF:Can P w K mg base "full_mask" 1 fF fdF ["choices"] jEQ)(CM:Can P w K mg base "masks_met" 2 fM fdM ["choices"] spMet)(CA:Can P w K mg base "choices_at" 1 fA fdA ["choices","mask"] spAt)(CJ:Callee P w K mg base Z zh 3 j (jEP ch R))(zs:ZSt Z)(zo:HpOk zh)(ro:RepOk R)(ok:ChOk ch):FnZ P w K mg base CX0 Z 4 f fd ["choices","at_end","join"] (jLG j zh ch R):=by
 refine F.okZ scGath (fun vs H Q E h=>?_) (fun cdv A outer s H vs Q E hr hz h=>?_)
 ·obtain⟨_,_,rfl,_⟩:=h
  rfl
 ·obtain⟨L,ve,rfl,hL,he,hzh,q⟩:=h
  refine⟨_,(gathA T CF CM CA CJ zs hz hr).2.h,?_⟩
  have w16:=ok.w
  have p16:2 ^ ch.length<=2 ^ 16:=cL (by decide) w16
  refine⟨_,rfl,L,ch,rfl,hL,w16,?_⟩
  refine fun D nD=>?_
  have e1:Ext H (L2.upd H D (.dK [])):=(Ext.refl _).new nD _
  have hD1:(L2.upd H D (.dK [])) D=some (.dK []):=j5
  generalize L2.upd H D (.dK [])=H1 at e1 hD1
  refine⟨_,rfl,L,ch,rfl,hL.ext e1,ok,fun r ns H2 hr2 srt mt e2 nr=>?_⟩
  have hD2:=e2 _ _ hD1
  have rD:r≠D:=fun z=>by rw[z,hD1] at nr; cases nr
  have E2:=e1.trans e2
  have nsn:ns.Nodup:=srt.imp fun {a b} h=>by omega
  have nsl:=jB0 nsn mt.bnd
  refine⟨r,rfl,⟨_,SqL.of hr2⟩,jDK (xs:=ns.map natV) (fun i σ H'=>(∃ v5,σ=[some (.ref L),some ve,some (.ref j),some (natV (fullN ch)),some (.ref D),v5])/\(∀ b o,H2 b=some o->b≠D->H' b=some o)/\GotAt H' D ch R (ns.take i)) ⟨⟨_,rfl⟩,fun b o h _=>h,[],hD2,trivial⟩ (fun i σ H' _ ⟨_,k,_⟩=>SqL.of (k _ _ hr2 rD)) ?_ ?_⟩
  ·rintro i x σ H' hx ⟨⟨v5,rfl⟩,k,us,hD',au⟩
   obtain⟨m,hm,rfl⟩:∃ m,ns[i]?=some m/\natV m=x:=by
    rw[aN] at hx
    cases hq:ns[i]? with
    | none=>rw[hq] at hx; cases hx
    | some z=>rw[hq] at hx; cases hx; exact⟨z,rfl,rfl⟩
   have hmn:=az hm
   have hm2:=mt.bnd m hmn
   have il:i<ns.length:=(ai.mp hm).1
   have tk:ns.take (i+1)=ns.take i++[m]:=by rw[aV,hm]; rfl
   have kl:(gvs (ns.take i) us).length<sizeLine:=by
    unfold gvs
    rw[ae,List.length_zip,bA,ay]
    omega
   have kH:∀ b o,H b=some o->H' b=some o:=fun b o h=>k _ _ (E2 _ _ h) fun z=>by rw[z,nD] at h; cases h
   have mi:m∉ns.take i:=fun z=>by
    obtain⟨a,ha⟩:=bF z
    have al:a<i:=by have:=(ai.mp ha).1; rw[bA] at this; omega
    rw[cg al] at ha
    have:=(g8 (by omega) nsn).mp (ha.trans hm.symm)
    omega
   have fin:∀ (u:V) (H3:Hp),(∀ b o,H' b=some o->H3 b=some o)->R m H3 u->DPut H3 D (natV m) u (L2.upd H3 D (.dK (gvs (ns.take (i+1)) (us++[u]))))/\((∃ v5,[some (V.ref L),some ve,some (.ref j),some (natV (fullN ch)),some (.ref D),some (natV m)]=[some (V.ref L),some ve,some (.ref j),some (natV (fullN ch)),some (.ref D),v5])/\(∀ b o,H2 b=some o->b≠D->(L2.upd H3 D (.dK (gvs (ns.take (i+1)) (us++[u])))) b=some o)/\GotAt (L2.upd H3 D (.dK (gvs (ns.take (i+1)) (us++[u])))) D ch R (ns.take (i+1))):=fun u H3 e3 ru=>by
    have hD3:=e3 _ _ hD'
    have up:∀ b o,H3 b=some o->b≠D->(L2.upd H3 D (.dK (gvs (ns.take (i+1)) (us++[u])))) b=some o:=fun b o h n=>by rw[j9 n]; exact h
    refine⟨?_,⟨_,rfl⟩,fun b o h n=>up b o (e3 _ _ (k b o h n)) n,us++[u],j5,?_⟩
    ·have:=DPut.k (k:=Sum.inl ((m:Nat):Int)) (v:=u) hD3 kl
     rw[jJ2 _ (jC5 mi),<- jPE au.len,<- tk] at this
     exact this
    ·rw[tk]
     refine All2.snoc ?_ ((ro m u).keep _ _ D _ hD3 (by rw[<- tk]; exact up) ru)
     rw[<- tk]
     exact au.imp fun n u h=>(ro n u).keep _ _ D _ hD3 up ((ro n u).ext _ _ e3 h)
   refine⟨_,rfl,_,rfl,rfl,_,rfl,?_⟩
   have ef:decide (natV m=natV (fullN ch))=true↔m=fullN ch:=by
    rw[bo]
    exact⟨fun h=>by have:=V.int.inj h; omega,fun h=>by rw[h]⟩
   refine ite2 (fun h=>?_) (fun h=>?_)
   ·have h:=ef.mp h
    obtain⟨f1,f2⟩:=fin ve H' (fun b o h=>h) (by rw[h]; exact(ro _ _).ext _ _ kH he)
    exact⟨_,rfl,_,rfl,_,rfl,D,_,rfl,f1,f2⟩
   ·have h:m≠fullN ch:=fun z=>h (ef.mpr z)
    refine⟨rfl,_,rfl,_,rfl,L,ch,m,rfl,hL.ext kH,ok,hm2,h,fun r4 H4 ⟨vs4,hr4,av4⟩ e4 n4=>?_⟩
    have hD4:=e4 _ _ hD'
    have vl4:vs4.length<=33:=by
     rw[av4.len]
     have hlow:=jCG hm2 h
     refine bb (bw _ _) ?_
     rw[ak,aw hlow]
     exact ok.len _ _ (aw hlow)
    refine⟨r4,rfl,⟨_,SqL.of hr4⟩,jB2 (xs:=vs4) (fun σ=>∃ v1 v2,σ=[v1,v2,some (.ref D),some (natV m)]) (fun H' zs t=>All2 (fun v c=>∃ q u,v= .ref q/\H' q=some (.tup [.int c.1,u])/\R (m|||c.2) H4 u) zs ((chAt ch m).take t)) ⟨fun H=>trivial,fun H H' zs t tu hz=>hz.imp fun v c ⟨q,u,a1,a2,a3⟩=>⟨q,u,a1,tu _ _ a2,a3⟩,fun H zs t hz=>?_⟩ hr4 (by rw[ay]; omega) ⟨_,_,rfl⟩ ?_ ?_⟩
    ·rw[hz.len]
     exact bh _ _
    ·rintro t x σ' H5 zs hx ⟨v1,v2,rfl⟩ e5 hz5 S1 S2 yes no
     obtain⟨c,hc,qa,rfl,hq⟩:=av4.get' hx
     have hcm:=az hc
     obtain⟨u1,u2⟩:=ok.up hm2 h hcm
     have ut:=mt.up m hmn h c hcm
     have up:(m|||c.2)∈ns.take i:=by
      obtain⟨a,ha⟩:=bF ut
      have al:a<i:=by
       refine da fun z=>?_
       have a1:=(ai.mp ha)
       have m1:=(ai.mp hm)
       rcases eU i a with y | y
       ·have:=bL.mp srt i a il a1.1 y
        rw[a1.2,m1.2] at this
        omega
       ·have:a=i:=by omega
        subst this
        rw[hm] at ha
        have:=bg ha
        omega
      exact az (i:=a) (by rw[cg al]; exact ha)
     obtain⟨u,hu,ru⟩:=jF6 au (nsn.sublist (dw _ _)) up
     have et:(chAt ch m).take (t+1)=(chAt ch m).take t++[c]:=by rw[aV,hc]; rfl
     have dg:DGet H5 D (.int (Builtin.bitOr (m:Int) (c.2:Int))) (some u):=by
      rw[jCP,<- hu]
      exact DGet.k (k:=Sum.inl (((m|||c.2:Nat):Nat):Int)) (e5 _ _ hD4)
     refine⟨qa,_,rfl,SqT.of (e5 _ _ hq),rfl,_,_,rfl,_,_,rfl,rfl,?_⟩
     dsimp only [yL]
     rw[aq rfl]
     refine⟨_,rfl,_,rfl,_,rfl,_,rfl,_,_,rfl,rfl,D,u,rfl,dg,by show (2:Nat)<=_; decide,fun r6 H6 d6 e6=>yes _ _ _ ⟨_,_,rfl⟩ e6 ?_⟩
     show All2 _ _ ((chAt ch m).take (t+1))
     rw[et]
     exact(hz5.imp fun v c ⟨q,u,a1,a2,a3⟩=>⟨q,u,a1,e6 _ _ a2,a3⟩).snoc ⟨r6,u,rfl,d6,(ro _ _).ext _ _ e4 ru⟩
    ·rintro D7 H7 zs hD7 e7 n7 hz7
     rw[av4.len,aZ] at hz7
     refine⟨zo.ext _ _ (fun b o h=>e7 _ _ (e4 _ _ (kH b o h))) hzh,D7,zs,m,rfl,hD7,hm2,h,hz7.imp fun v c ⟨q,u,a1,a2,a3⟩=>⟨q,u,a1,a2,(ro _ _).ext _ _ e7 a3⟩,fun rr H8 r8 e8=>?_⟩
     obtain⟨f1,f2⟩:=fin rr H8 (fun b o h=>e8 _ _ (e7 _ _ (e4 _ _ h))) r8
     exact⟨_,rfl,_,rfl,D,_,rfl,f1,f2⟩
  ·rintro σ H' ⟨⟨v5,rfl⟩,k,got⟩
   rw[ae,aZ] at got
   exact⟨_,rfl,q D ns H' got srt mt (fun b o h=>k _ _ (E2 _ _ h) fun z=>by rw[z,nD] at h; cases h) nD⟩
end
end Eo
end
section
namespace L2
open PySem
def spEx {α:Type}(p:α->Prop)(sp:α->Sp):Sp:=fun vs H Q E=>∃ a,p a/\sp a vs H Q E
theorem FnOk.ex {α:Type}{p:α->Prop}{sp:α->Sp}{P:Program}{w:World}{K:W.Frag}{mg:Str->Option Value}{base:Heap}{CX:CXT}{k:Nat}{f:Addr}{fd:FuncData}{ps:List Str}(h:∀ a,p a->FnOk P w K mg base CX k f fd ps (sp a)):FnOk P w K mg base CX k f fd ps (spEx p sp):=
 ⟨fun vs H Q E ⟨a,pa,q⟩=>(h a pa).len vs H Q E q,fun A outer s H args us vs Q E hr he hb hv ⟨a,pa,q⟩=>(h a pa).run A outer s H args us vs Q E hr he hb hv q⟩
theorem Callee.mono {P:Program}{w:World}{K:W.Frag}{mg:Str->Option Value}{base:Heap}{Z:Shared->Hp->Prop}{zh:Hp->Prop}{i k:Nat}{a:Addr}{sp:Sp}(C:Callee P w K mg base Z zh i a sp)(h:i<=k):Callee P w K mg base Z zh k a sp:=
 ⟨C.fn,fun A outer s H us vs Q E hr=>C.run A outer s H us vs Q E (hr.mono h)⟩
theorem Callee.imp {P:Program}{w:World}{K:W.Frag}{mg:Str->Option Value}{base:Heap}{Z Z':Shared->Hp->Prop}{zh:Hp->Prop}{k:Nat}{a:Addr}{sp:Sp}(C:Callee P w K mg base Z zh k a sp)(h:∀ s H,Z' s H->Z s H):Callee P w K mg base Z' zh k a sp:=
 ⟨C.fn,fun A outer s H us vs Q E hr he hz=>C.run A outer s H us vs Q E hr he (h _ _ hz)⟩
theorem jTF {a:Arguments}{b:Expr}{sc:Scope}{pos:Pos}{es:List Expr}{env:Env} :starEach (.Lambda a b sc pos::es) env=(false,eval (.Lambda a b sc pos) env)::starEach es env:=rfl
end L2
namespace Eo
open PySem L2
theorem got0 {H:Hp}{r:Addr}{ch:Ch}{R:RepT}{ns:List Nat}(g:GotAt H r ch R ns)(nd:ns.Pairwise (· > ·))(m:MetOk ch ns):∃ u,DGet H r (.int 0) (some u)/\R 0 H u:=by
 obtain⟨us,h1,h2⟩:=g.ex
 obtain⟨u,hu,ru⟩:=jF6 h2 (nd.imp fun {a b} h=>by omega) m.zero
 refine⟨u,?_,ru⟩
 have:=DGet.k (k:=Sum.inl (0:Int)) h1
 rw[show valV (gvs ns us) (Sum.inl (0:Int))=some u from hu] at this
 exact this
end Eo
end
section
namespace L2
open PySem PySem.Spec PyProof.Rows
end L2
end
section
namespace Eo
open PySem L2
def yR (pc:List Int×Int):Int:=pc.1.getD 0 0
def cntF (pcs:List (List Int×Int))(t:Int):Nat:=pcs.countP fun pc=>decide (t<=yR pc)
def lead (pcs:List (List Int×Int))(t:Int)(i:Nat):Nat:=(pcs.take i).countP fun pc=>decide (yR pc=t)
theorem jH7 (t:Int):∀ pcs:List (List Int×Int),cntF pcs t=cntF pcs (t+1)+pcs.countP fun pc=>decide (yR pc=t)
 | []=>rfl
 | p::r=>by
  have ih:=jH7 t r
  unfold cntF at ih ⊢
  rw[df,df,df,ih]
  by_cases h1:yR p=t
  ·have h2:t<=yR p:=by omega
   have h3:¬ t+1<=yR p:=by omega
   have h4:¬ t+1<=t:=by omega
   simp [h1,h4]
   try omega
  ·by_cases h2:t<=yR p
   ·have h3:t+1<=yR p:=by omega
    simp [h1,h2,h3]
    omega
   ·have h3:¬ t+1<=yR p:=by omega
    simp [h1,h2,h3]
theorem jUZ (pcs:List (List Int×Int))(t:Int):cntF pcs t<=pcs.length:=List.countP_le_length
theorem jP0 (pcs:List (List Int×Int))(t:Int):2 ^ cntF pcs (t+1)*(1+lead pcs t pcs.length)<=2 ^ cntF pcs t:=by
 unfold lead
 rw[aZ,jH7 t pcs,Nat.pow_add]
 refine i4 _ ?_
 have:=Nat.lt_two_pow_self (n:=pcs.countP fun pc=>decide (yR pc=t))
 omega
theorem jML {pcs:List (List Int×Int)}{t:Int}{i:Nat}{pc:List Int×Int}(h:pcs[i]?=some pc):lead pcs t (i+1)=lead pcs t i+if yR pc=t then 1 else 0:=by
 unfold lead
 rw[aV,h]
 show ((pcs.take i)++[pc]).countP _=_
 rw[List.countP_append,df,List.countP_nil]
 simp
theorem jHS {pcs:List (List Int×Int)}{t:Int}(h:pcs.length<=16):2 ^ cntF pcs t<=65536:=by
 have:=jUZ pcs t
 exact bb (cL (by decide) (bb this h)) (by decide)
def wJ (l:List (Int×List (List Int))):List (List Int):=l.flatMap fun p=>p.2.map fun x=>if p.1<0 then x else p.1::x
def wk (ch:Ch)(m:Nat):List (List Int):=gv ch [[]] wJ m
theorem jG7 (a b:List (Int×List (List Int))):wJ (a++b)=wJ a++wJ b:=gC
theorem jB6 (ch:Ch):wk ch (fullN ch)=[[]]:=jSO
theorem jB5 {ch:Ch}{m:Nat}(o:ChOk ch)(h:m<2 ^ ch.length)(hn:m≠fullN ch):wk ch m=wJ ((chAt ch m).map fun c=>(c.1,wk ch (m|||c.2))):=jSN o h hn
theorem jJH (w:Nat):lowN (2 ^ w - 1)=w:=by
 refine jQA ?_ fun j hj=>?_
 ·rw[cN,aH (by omega)]
 ·rw[cN,ar hj]
theorem jQ9 {m c:Nat}(h:c.testBit (lowN m)=true):lowN m<lowN (m|||c):=by
 refine da fun z=>?_
 have n1:=jE4 (m|||c)
 rw[bH] at n1
 rcases eU (lowN (m|||c)) (lowN m) with y | y
 ·rw[jFK m _ y] at n1
  cases n1
 ·rw[show lowN (m|||c)=lowN m by omega,h,eS] at n1
  cases n1
theorem jC4 {ch:Ch}(o:ChOk ch){P:Nat->Prop}(h0:P (fullN ch))(hs:∀ m,m<2 ^ ch.length->m≠fullN ch->(∀ c∈chAt ch m,P (m|||c.2))->P m):∀ m,m<2 ^ ch.length->P m:=by
 intro m hm
 generalize hk:fullN ch - m=k
 induction k using strongRecOn generalizing m with
 | _ k ih=>
  by_cases hf:m=fullN ch
  ·rw[hf]
   exact h0
  ·have hlt:m<fullN ch:=by
    unfold fullN at hf ⊢
    omega
   refine hs m hm hf fun c hc=>?_
   obtain⟨u1,u2⟩:=o.up hm hf hc
   exact ih (fullN ch - (m|||c.2)) (by omega) _ u2 rfl
theorem mem_wJ {l:List (Int×List (List Int))}{x:List Int} :x∈wJ l↔∃ p∈l,∃ y∈p.2,x=if p.1<0 then y else p.1::y:=by
 unfold wJ
 rw[eV]
 refine exists_congr fun p=>fm fun _=>?_
 rw[aP]
 exact exists_congr fun y=>fm fun _=>eq_comm
theorem jIM {ch:Ch}(o:ChOk ch):∀ m,m<2 ^ ch.length->∀ x∈wk ch m,(∀ k∈x,0<=k/\k<32)/\x.length+lowN m<=ch.length:=by
 refine jC4 o ?_ ?_
 ·intro x hx
  rw[jB6,aO] at hx
  subst hx
  refine⟨fun k hk=>(by cases hk),?_⟩
  unfold fullN
  rw[jJH]
  simp
 ·intro m hm hf ih x hx
  rw[jB5 o hm hf] at hx
  obtain⟨p,hp,y,hy,rfl⟩:=mem_wJ.mp hx
  obtain⟨c,hc,rfl⟩:=aP.mp hp
  obtain⟨i1,i2⟩:=ih c hc y hy
  obtain⟨m1,m2,m3,m4,m5⟩:=o.mem hm hf hc
  have lo:=jQ9 m1
  dsimp only
  split
  ·exact⟨i1,by omega⟩
  ·refine⟨fun k hk=>?_,by rw[aR]; omega⟩
   rcases aG.mp hk with z | z
   ·subst z
    omega
   ·exact i1 k z
theorem jKM (l:List Int):l.getD 0 0=l.headD 0:=by cases l <;> rfl
theorem jKH (pcs:List (List Int×Int))(t:Nat)(i:Nat)(hi:i<=pcs.length):(((upto pcs.length).take i).filter fun k=>decide ((j7 pcs k).headD 0=(t:Int))).length=lead pcs t i:=by
 induction i with
 | zero=>rfl
 | succ i ih=>
  have hil:i<pcs.length:=by omega
  rw[jDP hil,bQ,aB,ih (by omega),jML (aw hil)]
  congr 1
  rw[cM,List.filter_nil]
  have e:j7 pcs (i:Int)=pcs[i].1:=by
   unfold j7
   rw[bq,ak,aw hil]
   rfl
  unfold yR
  rw[e,jKM]
  by_cases h:pcs[i].1.headD 0=(t:Int)
  ·rw[aq (ar h),aq h]
   rfl
  ·rw[am (fun z=>h (aF z)),am h]
   rfl
theorem jPM (pcs:List (List Int×Int)){s t:Int}(h:s<=t):cntF pcs t<=cntF pcs s:=by
 unfold cntF
 refine List.countP_mono_left fun x _ hx=>?_
 have:=aF hx
 exact ar (by omega)
theorem jH1 {α β:Type}(f:α->List β)(B:Nat):∀ (l:List α),(∀ a∈l,(f a).length<=B)->(l.flatMap f).length<=l.length*B
 | [],_=>by simp
 | a::l,h=>by
  rw[g7,aB,aR,Nat.succ_mul]
  have h1:=h a (aE ..)
  have h2:=jH1 f B l fun x hx=>h x (aK _ hx)
  omega
theorem jKY {w:Int}{ms:List Int}{pcs:List (List Int×Int)}(g:Good 16 32 w ms pcs):∀ m,m<2 ^ (chs w.toNat ms pcs).length->(wk (chs w.toNat ms pcs) m).length<=2 ^ cntF pcs (lowN m:Nat):=by
 have o:ChOk (chs w.toNat ms pcs):=yZ g
 refine jC4 o ?_ ?_
 ·rw[jB6]
  exact Nat.one_le_two_pow
 ·intro m hm hf ih
  have hl:lowN m<w.toNat:=by
   have:=jCG hm hf
   unfold chs at this
   rwa [kO] at this
  rw[jB5 o hm hf]
  unfold wJ
  refine bb (jH1 _ (2 ^ cntF pcs ((lowN m:Nat)+1:Int)) _ fun p hp=>?_) ?_
  ·obtain⟨c,hc,rfl⟩:=aP.mp hp
   rw[ae]
   have lo:=jQ9 (o.mem hm hf hc).1
   exact bb (ih c hc) (cL (by decide) (jPM pcs (by omega)))
  ·rw[ae,Nat.mul_comm]
   refine bb (i4 _ ?_) (jP0 pcs (lowN m:Nat))
   unfold chAt
   refine bb (bw _ _) ?_
   unfold chs
   rw[ak,yA hl]
   show (y6 ms pcs pcs.length (lowN m)).length<=_
   unfold y6
   rw[aB,ae,jKH pcs _ _ (ao _)]
   split <;> simp only [aR,bZ] <;> omega
theorem jEE (a b:Int):decide (V.int a=V.int b)=decide (a=b):=by
 rw[bS,bo,bo]
 exact⟨fun h=>V.int.inj h,fun h=>by rw[h]⟩
def LsAt (H:Hp)(us:List V)(ws:List (List Int)):Prop:=All2 (fun v x=>∃ a,v=V.ref a/\H a=some (.tup (x.map V.int))) us ws
theorem LsAt.mono {H H':Hp}{us:List V}{ws:List (List Int)}(t:Tups H H')(h:LsAt H us ws):LsAt H' us ws:=All2.imp (fun v x ⟨a,e,q⟩=>⟨a,e,t _ _ q⟩) h
def cvs (w:Int)(ms:List Int)(pcs:List (List Int×Int)):List (List Int):=(wk (chs w.toNat ms pcs) 0).map srt
structure MkOk (w:Nat)(t:Nat)(hs:List Int)(m:Nat):Prop where
 lt:m<2 ^ w
 lo:∀ j,j<t->m.testBit j=true
 hi:∀ j,t<=j->j<w->(m.testBit j=true↔(j:Int)∈hs)
theorem MkOk.full {w:Nat}{hs:List Int}{m:Nat}(h:MkOk w w hs m):m=2 ^ w - 1:=jN8 h.lt h.lo
theorem MkOk.held {w t:Nat}{hs:List Int}{m:Nat}(h:MkOk w t hs m)(ht:t<w)(hm:(t:Int)∈hs):MkOk w (t+1) hs m:=by
 refine⟨h.lt,fun j hj=>?_,fun j h1 h2=>h.hi j (by omega) h2⟩
 rcases eU j t with y | y
 ·exact h.lo j y
 ·rw[show j=t by omega]
  exact(h.hi t (ao _) ht).mpr hm
theorem MkOk.low {w t:Nat}{hs:List Int}{m:Nat}(h:MkOk w t hs m)(ht:t<w)(hm:¬ (t:Int)∈hs):lowN m=t:=
 jQA (eJ.mpr fun z=>hm ((h.hi t (ao _) ht).mp z)) h.lo
theorem MkOk.ne {w t:Nat}{hs:List Int}{m:Nat}(h:MkOk w t hs m)(ht:t<w)(hm:¬ (t:Int)∈hs):m≠2 ^ w - 1:=fun z=>by
 have:=h.low ht hm
 rw[z,jJH] at this
 omega
theorem MkOk.may {w t:Nat}{hs:List Int}{m:Nat}(h:MkOk w t hs m)(ht:t<w):MkOk w (t+1) hs (m|||2 ^ t):=by
 refine⟨g5 h.lt (gu (by decide) ht),fun j hj=>?_,fun j h1 h2=>?_⟩
 ·rw[bH,cB]
  rcases eU j t with y | y
  ·rw[h.lo j y]
   rfl
  ·rw[show j=t by omega,ar rfl,eS]
 ·rw[bH,cB,aH (by omega),Bool.or_false]
  exact h.hi j (by omega) h2
theorem MkOk.piece {w t:Nat}{hs:List Int}{m:Nat}{own:List Int}(h:MkOk w t hs m)(ht:t<w)(l:Lot (w:Int) own)(hd:(t:Int)∈own):MkOk w (t+1) (hs++own) (m|||maskN own):=by
 have b0:∀ x∈own,0<=x:=fun x hx=>(l.bnd x hx).1
 refine⟨g5 h.lt (jE2 l.ris l.bnd),fun j hj=>?_,fun j h1 h2=>?_⟩
 ·rw[bH,jA7 own j l.ris b0]
  rcases eU j t with y | y
  ·rw[h.lo j y]
   rfl
  ·rw[show j=t by omega,ar hd,eS]
 ·rw[bH,jA7 own j l.ris b0,iN,bo,aL]
  exact or_congr (h.hi j (by omega) h2) Iff.rfl
theorem MkOk.fits {w t:Nat}{hs:List Int}{m:Nat}{own:List Int}(h:MkOk w t hs m)(l:Lot (w:Int) own)(hd:own.headD 0=(t:Int)):(maskN own&&&m==0)=!(own.any fun x=>decide (x∈hs)):=by
 have b0:∀ x∈own,0<=x:=fun x hx=>(l.bnd x hx).1
 have ge:∀ x∈own,(t:Int)<=x:=fun x hx=>by
  cases ho:own with
  | nil=>rw[ho] at hx; cases hx
  | cons a r=>
   rw[ho] at hd hx
   have hd:a=t:=hd
   have lr:=l.ris
   rw[ho] at lr
   rcases aG.mp hx with z | z
   ·omega
   ·have:=(cw.mp lr).1 x z
    omega
 rw[bS,gR,dz,gW]
 constructor
 ·intro z x hx hh
  have hh:=aF hh
  have bx:=l.bnd x hx
  have t1:=(h.hi x.toNat (by have:=ge x hx; omega) (by omega)).mpr (by rw[show ((x.toNat:Nat):Int)=x by omega]; exact hh)
  have t2:(maskN own).testBit x.toNat=true:=by
   rw[jA7 own _ l.ris b0,bo,show ((x.toNat:Nat):Int)=x by omega]
   exact hx
  have t3:=bN (fun y=>y.testBit x.toNat) z
  simp only [dP,t1,t2,dh] at t3
  cases t3
 ·intro z
  apply dW
  intro i
  rw[dP,dh,jA7 own i l.ris b0]
  by_cases hi:(i:Int)∈own
  ·have bx:=l.bnd _ hi
   have gi:=ge _ hi
   rw[ar hi,hV]
   refine eJ.mpr fun y=>?_
   exact z _ hi (ar ((h.hi i (by omega) (by omega)).mp y))
  ·rw[aH hi]
   rfl
def wkI (ch:Ch)(ms:List Int)(pcs:List (List Int×Int))(m t i:Nat):List (List Int):=wJ (((y6 ms pcs i t).filter fun c=>c.2&&&m==0).map fun c=>(c.1,wk ch (m|||c.2)))
theorem jKR {n:Nat}{ms:List Int}{pcs:List (List Int×Int)}(hn:n<pcs.length)(u:Nat):y6 ms pcs (n+1) u=y6 ms pcs n u++if (j7 pcs (n:Int)).headD 0=(u:Int) then [((n:Int),maskN (j7 pcs n))] else []:=by
 unfold y6
 rw[jDP hn,bQ,aJ,aU]
 congr 2
 rw[cM]
 by_cases hu:(j7 pcs (n:Int)).headD 0=(u:Int)
 ·rw[aq (ar hu),aq hu]
  rfl
 ·rw[am (fun z=>hu (aF z)),am hu]
  rfl
theorem jO2 {ch:Ch}{ms:List Int}{pcs:List (List Int×Int)}{m t:Nat}(hb:m.testBit t=false):wkI ch ms pcs m t 0=if (t:Int)∈ms then wk ch (m|||2 ^ t) else []:=by
 unfold wkI
 rw[jD4]
 by_cases h:(t:Int)∈ms
 ·have e:(2 ^ t&&&m==0)=true:=by
   rw[gR]
   apply dW
   intro i
   rw[dP,dh,cB]
   by_cases hi:t=i
   ·subst hi
    rw[hb,cS]
   ·rw[aH hi]
    rfl
  rw[aq h,aq h,cM,aq e]
  show wJ [(-1,wk ch (m|||2 ^ t))]=_
  unfold wJ
  rw[fZ]
  exact(bR fun x _=>aq (show (-1:Int)<0 by decide)).trans (fN _)
 ·rw[am h,am h]
  rfl
theorem jIN {ch:Ch}{ms:List Int}{pcs:List (List Int×Int)}{m t i:Nat}(hi:i<pcs.length):wkI ch ms pcs m t (i+1)=wkI ch ms pcs m t i++if (j7 pcs (i:Int)).headD 0=(t:Int)/\(maskN (j7 pcs (i:Int))&&&m==0)=true then (wk ch (m|||maskN (j7 pcs (i:Int)))).map ((i:Int):: ·) else []:=by
 unfold wkI
 rw[jKR hi,bQ,aJ,jG7]
 congr 1
 by_cases h1:(j7 pcs (i:Int)).headD 0=(t:Int)
 ·rw[aq h1,cM]
  by_cases h2:(maskN (j7 pcs (i:Int))&&&m==0)=true
  ·rw[aq h2,aq ⟨h1,h2⟩]
   show wJ [((i:Int),wk ch (m|||maskN (j7 pcs (i:Int))))]=_
   unfold wJ
   rw[fZ]
   exact bR fun x _=>am (by omega)
  ·rw[am h2,am (fun z=>h2 z.2)]
   rfl
 ·rw[am h1,am (fun z=>h1 z.1)]
  rfl
theorem jQU {w:Int}{ms:List Int}{pcs:List (List Int×Int)}{m t:Nat}(g:Good 16 32 w ms pcs)(hm:m<2 ^ w.toNat)(hf:m≠2 ^ w.toNat - 1)(hl:lowN m=t)(ht:t<w.toNat):wkI (chs w.toNat ms pcs) ms pcs m t pcs.length=wk (chs w.toNat ms pcs) m:=by
 have o:ChOk (chs w.toNat ms pcs):=yZ g
 have el:(chs w.toNat ms pcs).length=w.toNat:=kO _ _ _ _
 rw[jB5 o (by rw[el]; exact hm) (by unfold fullN; rw[el]; exact hf)]
 unfold wkI chAt
 have:(chs w.toNat ms pcs).getD (lowN m) []=y6 ms pcs pcs.length t:=by
  rw[hl,ak]
  unfold chs
  rw[yA ht]
  rfl
 rw[this]
theorem jO3 {ch:Ch}{ms:List Int}{pcs:List (List Int×Int)}{m t i:Nat}(hi:i<=pcs.length):(wkI ch ms pcs m t i).length<=(wkI ch ms pcs m t pcs.length).length:=by
 have key:∀ d i,i+d=pcs.length->(wkI ch ms pcs m t i).length<=(wkI ch ms pcs m t pcs.length).length:=by
  intro d
  induction d with
  | zero=>intro i h; rw[show i=pcs.length by omega]; exact ao _
  | succ d ih=>
   intro i h
   refine bb ?_ (ih (i+1) (by omega))
   rw[jIN (by omega),aB]
   omega
 exact key (pcs.length - i) i (by omega)
def jER (d:Nat):Sp:=fun vs H Q _=>∃ (b h:Addr) (w:Int) (t:Nat) (ms:List Int) (pcs:List (List Int×Int)) (hs:List Int) (m:Nat),vs=[.ref b, .int (t:Int), .ref h]/\BoxAt H b w ms pcs/\Good 16 16 w ms pcs/\(t:Int)<=w/\w - t<=d/\H h=some (.tup (hs.map V.int))/\hs.length<=16*t/\MkOk w.toNat t hs m/\
 ∀ l us H',H' l=some (.lst us)->LsAt H' us (wk (chs w.toNat ms pcs) m)->Ext H H'->Q (.ref l) H'
def spNo:Sp:=fun _ _ _ _=>False
def jF8:Nat->Sp
 | 0=>spNo
 | d+1=>jER d
section
variable {P:Program}{w:World}{K:W.Frag}{mg:Str->Option Value}{base:Heap}
variable {f fF fC fP fT fB:Addr}{fdF fdC fdP fdT fdB:FuncData}{cdv:Value}{A:Around}{outer:List Env}{s:Shared}{H0:Hp}{E:XK}
theorem ok_no {k:Nat}{f:Addr}{fd:FuncData}{ps:List Str} :FnOk P w K mg base CX0 k f fd ps spNo:=⟨fun _ _ _ _ h=>h.elim,fun _ _ _ _ _ _ _ _ _ _ _ _ _ h=>h.elim⟩
abbrev nFrom:List Str:=["box","thing","held","found","k","own"]
theorem scFrom:FnScope nFrom ["box","thing","held"] (j6 qI):=⟨rfl,rfl,rfl,by decide+kernel,rfl,by decide+kernel,by decide+kernel⟩
abbrev XFrom (P:Program)(w:World)(K:W.Frag)(mg:Str->Option Value)(base:Heap)(f:Addr)(cdv:Value)(A:Around)(outer:List Env)(s:Shared)(H:Hp)(E:XK):Cx:=XOf nFrom "_law_from" qI P w K mg base f cdv A outer s H E
def fromL {d:Nat}{sp:Sp}(T:Txt mg)(CF:Can P w K mg base "_law_from" (d+1) fF fdF ["box","thing","held"] sp)(hr:Room (d+1) (XFrom P w K mg base f cdv A outer s H0 E).A): { t:TS // JSs (XFrom P w K mg base f cdv A outer s H0 E) (jCH ((jB qI).getD 4 (.Pass ⟨0,0,0,0⟩))) t} :=
 have nd:=scFrom.nd
 ⟨_,(jC (jQ (i:=5) nd rfl lL (jL jO (jL jO (jL jO (jv 0 rfl vL) (je_int) jE) (jv 4 rfl vC) yQ) (je_int) jE) jIS)
   (jD (yC (jt_w (jQE (jT qO (jL jO (jv 5 rfl vL) (je_int) jE) (jv 1 rfl vL) (jV _)) (jMR (jGW (jDB (jH (jEG rfl) gD T.any (by decide+kernel) (j3 (kR (m:=[none,some 2]) (Nc:=["t","held"]) rfl (qF (jv 5 rfl vL)) rfl (by decide+kernel) (by decide+kernel) (jS (psc:=j6 qI) (by decide+kernel)) (jI (N:=nFrom) rfl rfl (by decide+kernel)) (fun cl C fp s H=>jJ (i:=0) (show (["t","held"]:List Str).Nodup by decide+kernel) rfl (yM (by decide+kernel))) (fun cl C fp s H=>kY) (fun cl C fp s H=>(yX jHV (jv 0 rfl (jX (by decide+kernel))) (jv 1 rfl (kW (by decide+kernel))) jCW)) yI) j8 jK) jK) jB7))))) (jD (jQ (i:=3) nd rfl lL (kU jOM (jv 3 rfl vL) (kR (m:=[none,some 4]) (Nc:=["rest","k"]) rfl (yS (CF.je hr gD (j3 (jv 0 rfl vL) (j3 (kU y0 (jv 1 rfl vL) (je_int)) (j3 (kU jFG (jv 2 rfl vC) (jv 5 rfl vL)) j8 yJ) yJ) j4) j4)) rfl (by decide+kernel) (by decide+kernel) (jS (psc:=j6 qI) (by decide+kernel)) (jI (N:=nFrom) rfl rfl (by decide+kernel)) (fun cl C fp s H=>jJ (i:=0) (show (["rest","k"]:List Str).Nodup by decide+kernel) rfl (yM (by decide+kernel))) (fun cl C fp s H=>kY) (fun cl C fp s H=>(kU jFG (y8 (j3 (jv 1 rfl (kW (by decide+kernel))) j8 j4)) (jv 0 rfl (jX (by decide+kernel))))) kZ)) jIU)) kI)))⟩
def fromB {d:Nat}{sp:Sp}(T:Txt mg)(CF:Can P w K mg base "_law_from" (d+1) fF fdF ["box","thing","held"] sp)(hr:Room (d+1) (XFrom P w K mg base f cdv A outer s H0 E).A): { t:TS // JSs (XFrom P w K mg base f cdv A outer s H0 E) ((jB qI).drop 4) t} :=
 have nd:=scFrom.nd
 ⟨_,(jC (jBU cf rfl (jAU gD T.range (j3 (jH kB gD T.len (by decide+kernel) (j3 (jL jO (jv 0 rfl vL) (je_int) jE) j8 kD) kD) j8 jF) jF) (jJ (i:=4) nd rfl (loc_c (by decide+kernel))) (fromL T CF hr).2 kZ) (jD (jW (jv 3 rfl vL))))⟩
def fromA {d:Nat}{sp:Sp}(T:Txt mg)(CF:Can P w K mg base "_law_from" (d+1) fF fdF ["box","thing","held"] sp)(hr:Room (d+1) (XFrom P w K mg base f cdv A outer s H0 E).A): { t:TS // JSs (XFrom P w K mg base f cdv A outer s H0 E) (jB qI) t} :=
 have nd:=scFrom.nd
 ⟨_,(jC (yC (jT qO (jv 1 rfl vL) (jL jO (jv 0 rfl vL) (je_int) jE) (jV _)) (jD (jW (yW (j3 (y8 j8) j8 jD7)))) kI) (jC (yC (jT jCB (jv 1 rfl vL) (jv 2 rfl vC) jCW) (jD (jW (CF.je hr gD (j3 (jv 0 rfl vL) (j3 (kU y0 (jv 1 rfl vL) (je_int)) (j3 (jv 2 rfl vC) j8 j4) yJ) j4) j4))) kI) (jC (jQ (i:=3) nd rfl lL (yW j8) jD5) (jC (yC (jT jCB (jv 1 rfl vL) (jL jO (jv 0 rfl vL) (je_int) jE) jQ7) (jD (jQ (i:=3) nd rfl lL (CF.je hr gD (j3 (jv 0 rfl vL) (j3 (kU y0 (jv 1 rfl vL) (je_int)) (j3 (jv 2 rfl vC) j8 j4) yJ) j4) j4) jZ)) kI) (fromB T CF hr).2))))⟩
theorem jF1 {d:Nat}(T:Txt mg)(CF:Can P w K mg base "_law_from" (d+1) fF fdF ["box","thing","held"] (jF8 d))(hr:Room (d+1) (XFrom P w K mg base f cdv A outer s H0 E).A)
  {H H1:Hp}{b h l:Addr}{wi:Int}{t m:Nat}{ms:List Int}{pcs:List (List Int×Int)}{hs:List Int}{us:List V}{v4 v5:Option V}{D:Ends}(hB:BoxAt H b wi ms pcs) (g:Good 16 16 wi ms pcs) (t1:(t:Int)<wi) (hd:wi - t<=d) (hh:H h=some (.tup (hs.map V.int))) (hl:hs.length<=16*t) (mk:MkOk wi.toNat t hs m) (hnt:¬ (t:Int)∈hs)
  (e1:Ext H H1) (hf:H1 l=some (.lst us)) (fc:LsAt H1 us (wkI (chs wi.toNat ms pcs) ms pcs m t 0))
  (q:∀ l us H',H' l=some (.lst us)->LsAt H' us (wk (chs wi.toNat ms pcs) m)->Ext H H'->D.rt (.ref l) H'):
  (fromB T CF hr).1 D [some (.ref b),some (.int (t:Int)),some (.ref h),some (.ref l),v4,v5] H1:=by
 obtain⟨qm,qp,ps,b1,b2,b3,b4⟩:=hB.ex
 have pl:=b4.len
 have gl:=g.pl
 have w0:=g.w0
 have w1:=g.w1
 have g32:Good 16 32 wi ms pcs:=g.wide (by omega) (by omega)
 have tw:t<wi.toNat:=by omega
 have o:ChOk (chs wi.toNat ms pcs):=yZ g32
 have el:(chs wi.toNat ms pcs).length=wi.toNat:=kO _ _ _ _
 have all:=jQU (pcs:=pcs) (ms:=ms) g32 mk.lt (mk.ne tw hnt) (mk.low tw hnt) tw
 have wlen:(wk (chs wi.toNat ms pcs) m).length<=65536:=bb (jKY g32 m (by rw[el]; exact mk.lt)) (jHS (by omega))
 refine⟨_,rfl,b,_,2,_,rfl,rfl,SqT.of (e1 _ _ b1),rfl,qp,_,rfl, .inr (SqT.of (e1 _ _ b3)),_,rfl,by omega,by omega,jBA (fun i σ H'=>(∃ l us v4 v5,σ=[some (.ref b),some (.int (t:Int)),some (.ref h),some (.ref l),v4,v5]/\H' l=some (.lst us)/\LsAt H' us (wkI (chs wi.toNat ms pcs) ms pcs m t i))/\Ext H H') ⟨⟨_,_,_,_,rfl,hf,fc⟩,e1⟩ ?_ ?_⟩
 ·rintro i σ H2 hi ⟨⟨l2,us2,v4,v5,rfl,g1,g3⟩,e2⟩
  have hil:i<ps.length:=by omega
  have hip:i<pcs.length:=by omega
  have hy1:ps[i]?=some ps[i]:=aw hil
  obtain⟨pc,hpc,pa,pq,hpe,c1,c2⟩:=b4.at hy1
  have hlot:=(g.pg pc (az hpc)).lot
  have et:j7 pcs (i:Int)=pc.1:=by
   unfold j7
   rw[bq,ak,hpc]
   rfl
  have lt2:pc.1.length<=16:=by
   have:=yV _ 0 wi hlot.ris hlot.bnd
   omega
  have lt0:atI (pc.1.map V.int) 0=some (.int (pc.1.headD 0)):=by
   cases z:pc.1 with
   | nil=>exact absurd z hlot.ne
   | cons a r=>exact yD (j:=0) rfl
  have at1:atI ps (0+(i:Int))=some (.ref pa):=by rw[iH]; exact yD (by rw[hy1,hpe])
  have hsu:=jIN (ch:=chs wi.toNat ms pcs) (ms:=ms) (m:=m) (t:=t) hip
  rw[et] at hsu
  have ul:us2.length<=65536:=by
   rw[g3.len]
   exact bb (jO3 (by omega)) (by rw[all]; exact wlen)
  have keep:∀ (v4 v5:Option V) (H3:Hp),Ext H2 H3->wkI (chs wi.toNat ms pcs) ms pcs m t (i+1)=wkI (chs wi.toNat ms pcs) ms pcs m t i->(∃ l us v4' v5',([some (.ref b),some (.int (t:Int)),some (.ref h),some (.ref l2),v4,v5]:St)=[some (.ref b),some (.int (t:Int)),some (.ref h),some (.ref l),v4',v5']/\H3 l=some (.lst us)/\LsAt H3 us (wkI (chs wi.toNat ms pcs) ms pcs m t (i+1)))/\Ext H H3:=fun v4 v5 H3 e3 ez=>⟨⟨l2,us2,v4,v5,rfl,e3 _ _ g1,by rw[ez]; exact g3.mono e3.tups⟩,e2.trans e3⟩
  refine⟨_,rfl,b,_,2,_,rfl,rfl,SqT.of (e2 _ _ b1),rfl,_,rfl,qp,_,_,_,rfl,rfl,SqT.of (e2 _ _ b3),at1,pa,_,0,_,rfl,rfl,SqT.of (e2 _ _ c1),rfl,?_⟩
  refine⟨_,rfl,pq,_,0,_,rfl,rfl,SqT.of (e2 _ _ c2),lt0,_,rfl,rfl,_,rfl,?_⟩
  rw[jEE]
  refine ite2 (fun h1=>?_) (fun h1=>?_)
  ·have h1:pc.1.headD 0=(t:Int):=aF h1
   have fi:=mk.fits (own:=pc.1) (by rw[show ((wi.toNat:Nat):Int)=wi by omega]; exact hlot) h1
   refine⟨_,rfl,pq,rfl,⟨_,SqT.of (e2 _ _ c2)⟩,jDL (xs:=pc.1.map V.int) (fun σ=>∃ v,σ=[v,some (.ref h)]) (mapZ pc.1 fun x=>V.bl (decide (x∈hs))) (mapZ.ok _ _) (e2 _ _ c2) (by rw[ae,ay]; omega) ⟨_,rfl⟩ ?_ ?_⟩
   ·rintro j x σ' H' zs hx ⟨v,rfl⟩ e hz S1 S2 yes no
    obtain⟨z,hz',rfl⟩:=int_at hx
    dsimp only [kL,yL]
    rw[aq rfl]
    refine⟨_,rfl,_,rfl,h,_,rfl, .inr (SqT.of (e _ _ (e2 _ _ hh))),rfl,jAA _,?_⟩
    rw[jAJ]
    exact yes _ _ _ ⟨_,rfl⟩ (Ext.refl _) (hz.yes hz')
   ·rintro D' H3 zs h2 e3 hn hz
    have hz:=hz.all (by rw[ae]; exact ao _)
    have hz2:zs=(pc.1.map fun x=>decide (x∈hs)).map V.bl:=by rw[hz,bI]; rfl
    rw[hz2] at h2
    refine⟨D',_,rfl,SqL.of h2,_,rfl,?_⟩
    have ea:((pc.1.map fun x=>decide (x∈hs)).any id)=pc.1.any fun x=>decide (x∈hs):=by rw[jl]; rfl
    rw[ea]
    have E3:=e2.trans e3
    refine ite2 (fun h3=>?_) (fun h3=>keep _ _ H3 e3 ?_)
    ·have h3:(maskN pc.1&&&m==0)=true:=by rw[fi]; exact h3
     rw[aq ⟨h1,h3⟩] at hsu
     cases d with
     | zero=>omega
     | succ d=>
     have htm:(t:Int)∈pc.1:=by rw[<- h1]; exact jFT hlot.ne
     refine⟨_,rfl,_,rfl,_,rfl,_,_,rfl,rfl,_,rfl,_,rfl,h,pq,_,_,rfl,rfl,E3 _ _ hh,E3 _ _ c2,by rw[ae,ae,ay]; omega,fun r H4 hr4 e4=>?_⟩
     have E4:=E3.trans e4
     refine⟨b,r,wi,t+1,ms,pcs,hs++pc.1,m|||maskN pc.1,rfl,hB.mono E4.tups,g,by omega,by omega,by rw[aJ]; exact hr4,by rw[aB]; omega,mk.piece tw (by rw[show ((wi.toNat:Nat):Int)=wi by omega]; exact hlot) htm,fun l5 us5 H5 hl5 hc5 e5=>?_⟩
     have E5:=E4.trans e5
     have mlt:m|||maskN pc.1<2 ^ (chs wi.toNat ms pcs).length:=by
      rw[el]
      exact(mk.piece tw (by rw[show ((wi.toNat:Nat):Int)=wi by omega]; exact hlot) htm).lt
     have u5:us5.length<=65536:=by
      rw[hc5.len]
      exact bb (jKY g32 _ mlt) (jHS (by omega))
     refine⟨l5,rfl,⟨_,SqL.of hl5⟩,jB2 (xs:=us5) (fun σ=>∃ v,σ=[v,some (.int (0+(i:Int)))]) (fun H' zs j=>LsAt H' zs (((wk (chs wi.toNat ms pcs) (m|||maskN pc.1)).take j).map ((i:Int):: ·))) ⟨fun H=>trivial,fun H H' zs j tt h=>h.mono tt,fun H zs j h=>?_⟩ hl5 (by rw[ay]; omega) ⟨_,rfl⟩ ?_ ?_⟩
     ·rw[h.len,ae]
      exact bh _ _
     ·rintro j x σ' H' zs hx ⟨v,rfl⟩ e hz S1 S2 yes no
      obtain⟨ks,hks,a,rfl,ha⟩:=hc5.get' hx
      have kl:=(jIM o _ mlt ks (az hks)).2
      dsimp only [kL,yL]
      rw[aq rfl]
      refine⟨_,rfl,by rw[ay]; show 1<=_; omega,fun r6 H6 hr6 e6=>⟨_,rfl,r6,a,_,_,rfl,rfl,hr6,e6 _ _ (e _ _ ha),by rw[ae,ay]; show 1+_<=_; omega,fun r7 H7 hr7 e7=>?_⟩⟩
      have e67:=e6.trans e7
      refine yes _ _ _ ⟨_,rfl⟩ e67 ?_
      show LsAt H7 _ (((wk (chs wi.toNat ms pcs) (m|||maskN pc.1)).take (j+1)).map ((i:Int):: ·))
      rw[aV,hks,aJ]
      refine All2.snoc (LsAt.mono e67.tups hz) ⟨r7,rfl,?_⟩
      rw[hr7,iH]
      rfl
     ·rintro D6 H6 zs h26 e6 hn6 hz6
      rw[hc5.len,aZ] at hz6
      have zl:zs.length<=65536:=by
       rw[hz6.len,ae,<- hc5.len]
       exact u5
      refine⟨l2,D6,_,_,rfl,rfl,e6 _ _ (e5 _ _ (e4 _ _ (e3 _ _ g1))),h26,by rw[ay]; omega,fun r7 H7 hr7 e7 hn7=>?_⟩
      have E37:=((e3.trans e4).trans e5).trans (e6.trans e7)
      refine⟨⟨r7,_,_,_,rfl,hr7,?_⟩,e2.trans E37⟩
      rw[hsu]
      exact All2.append (LsAt.mono E37.tups g3) (LsAt.mono e7.tups hz6)
    ·rw[hsu,am,aW]
     rintro ⟨_,z⟩
     rw[fi] at z
     exact h3 z
  ·refine iteF (keep _ _ H2 (Ext.refl _) ?_)
   rw[hsu,am,aW]
   rintro ⟨z,_⟩
   exact h1 (ar z)
 ·rintro σ H2 ⟨⟨l2,us2,v4,v5,rfl,g1,g3⟩,e2⟩
  have em:((ps.length:Int)).toNat=pcs.length:=by omega
  rw[em,all] at g3
  exact⟨_,rfl,q l2 us2 H2 g1 g3 e2⟩
theorem jH0 {fd:FuncData}(d:Nat)(F:Fun K "_law_from" "_law_from" qI f fd)(T:Txt mg)(CF:Can P w K mg base "_law_from" (d+1) f fd ["box","thing","held"] (jF8 d)):
  FnOk P w K mg base CX0 (d+2) f fd ["box","thing","held"] (jER d):=by
 refine F.ok scFrom (fun vs H Q E h=>?_) (fun cdv A outer s H vs Q E hr h=>?_)
 ·obtain⟨_,_,_,_,_,_,_,_,rfl,_⟩:=h
  rfl
 ·obtain⟨b,h,wi,t,ms,pcs,hs,m,rfl,hB,g,t1,hd,hh,hl,mk,q⟩:=h
  obtain⟨qm,qp,ps,b1,b2,b3,b4⟩:=hB.ex
  have gl:=g.pl
  have w0:=g.w0
  have w1:=g.w1
  have el:(chs wi.toNat ms pcs).length=wi.toNat:=kO _ _ _ _
  refine⟨_,(fromA T CF hr).2.h,?_⟩
  refine⟨_,rfl,_,rfl,b,_,0,_,rfl,rfl,SqT.of b1,rfl,rfl,_,rfl,?_⟩
  rw[jEE]
  refine ite2 (fun h1=>?_) (fun h1=>?_)
  ·have h1:(t:Int)=wi:=aF h1
   have tw:t=wi.toNat:=by omega
   subst tw
   have mf:m=fullN (chs wi.toNat ms pcs):=by
    unfold fullN
    rw[el]
    exact mk.full
   rw[mf,jB6] at q
   refine⟨by rw[ay]; show 0<=_; omega,fun r1 H1 hr1 e1=>⟨by rw[ay]; show 1<=_; omega,fun r2 H2 hr2 e2 _=>?_⟩⟩
   exact q r2 _ H2 hr2 ⟨⟨r1,rfl,e2 _ _ hr1⟩,trivial⟩ (e1.trans e2)
  ·have h1:¬ (t:Int)=wi:=fun h=>h1 (ar h)
   have tw:t<wi.toNat:=by omega
   refine⟨_,rfl,_,rfl,h,_,rfl, .inr (SqT.of hh),rfl,jAA _,_,rfl,?_⟩
   have hd1:∃ d',d=d'+1:=⟨d - 1,by omega⟩
   obtain⟨d',rfl⟩:=hd1
   have call:∀ (m':Nat) (H1:Hp) (Q':VK),MkOk wi.toNat (t+1) hs m'->Ext H H1->(∀ l us H',H' l=some (.lst us)->LsAt H' us (wk (chs wi.toNat ms pcs) m')->Ext H H'->Q' (.ref l) H')->jF8 (d'+1) [.ref b, .int ((t:Int)+1), .ref h] H1 Q' E0:=fun m' H1 Q' mk' e1 k=>by
    exact⟨b,h,wi,t+1,ms,pcs,hs,m',rfl,hB.mono e1.tups,g,by omega,by omega,e1 _ _ hh,by omega,mk',fun l us H' a1 a2 a3=>k l us H' a1 a2 (e1.trans a3)⟩
   rw[jAJ]
   refine ite2 (fun h2=>?_) (fun h2=>?_)
   ·have h2:(t:Int)∈hs:=aF h2
    refine⟨_,rfl,_,rfl,_,_,rfl,rfl,_,rfl,call m H _ (mk.held tw h2) (Ext.refl _) fun l us H' a1 a2 a3=>?_⟩
    exact q l us H' a1 a2 a3
   ·have h2:¬ (t:Int)∈hs:=fun z=>h2 (ar z)
    have hb:m.testBit t=false:=eJ.mpr fun z=>h2 ((mk.hi t (ao _) tw).mp z)
    refine⟨by rw[ay]; show 0<=_; omega,fun l1 H1 hl1 e1 _=>?_⟩
    refine⟨_,rfl,_,rfl,b,_,1,_,rfl,rfl,SqT.of (e1 _ _ b1),rfl,qm,_,rfl, .inr (SqT.of (e1 _ _ b2)),rfl,jAA _,_,rfl,?_⟩
    rw[jAJ]
    have hz:=jO2 (ch:=chs wi.toNat ms pcs) (ms:=ms) (pcs:=pcs) hb
    refine ite2 (fun h3=>?_) (fun h3=>?_)
    ·rw[aq (aF h3)] at hz
     refine⟨_,rfl,_,rfl,_,_,rfl,rfl,_,rfl,(show jF8 (d'+1) [.ref b, .int ((t:Int)+1), .ref h] H1 (fun x H2=>(fromB T CF hr).1 { nx:=fun x H'=>Q V.non H',rt:=Q} [some (.ref b),some (.int (t:Int)),some (.ref h),some x,none,none] H2) E0 from call (m|||2 ^ t) H1 _ (mk.may tw) e1 fun l us H' a1 a2 a3=>?_)⟩
     exact jF1 T CF hr hB g (by omega) hd hh hl mk h2 a3 a1 (by rw[hz]; exact a2) q
    ·rw[am (fun z=>h3 (ar z))] at hz
     exact jF1 T CF hr hB g (by omega) hd hh hl mk h2 e1 hl1 (by rw[hz]; trivial) q
theorem jM2 {fd:FuncData}(F:Fun K "_law_from" "_law_from" qI f fd)(T:Txt mg)(hm:mg "_law_from" =some (.ref f))(kp:keepIn K (.ref f)=true)(hb:Binds K fd ["box","thing","held"] []):
  ∀ d:Nat,FnOk P w K mg base CX0 (d+2) f fd ["box","thing","held"] (jER d)
 | 0=>jH0 0 F T ⟨ok_no,hm,kp,hb⟩
 | d+1=>jH0 (d+1) F T ⟨jM2 F T hm kp hb d,hm,kp,hb⟩
def jBP:Sp:=fun vs H Q _=>∃ (b:Addr) (w:Int) (ms:List Int) (pcs:List (List Int×Int)),vs=[.ref b]/\BoxAt H b w ms pcs/\Good 16 16 w ms pcs/\
 ∀ l us H',H' l=some (.lst us)->LsAt H' us (cvs w ms pcs)->us.length<=65536->Ext H H'->Q (.ref l) H'
abbrev nCovs:List Str:=["box"]
theorem scCovs:FnScope nCovs ["box"] (j6 qP):=⟨rfl,rfl,rfl,by decide+kernel,rfl,by decide+kernel,by decide+kernel⟩
def covsA (T:Txt mg)(CF:Can P w K mg base "_law_from" 18 fF fdF ["box","thing","held"] (jER 16))(hr:Room 18 (XOf nCovs "_law_coverings" qP P w K mg base f cdv A outer s H0 E).A): { t:TS // JSs (XOf nCovs "_law_coverings" qP P w K mg base f cdv A outer s H0 E) (jB qP) t} :=
 have nd:=scCovs.nd
 ⟨_,(jD (jW (kR (m:=[none]) (Nc:=["some"]) rfl (yS (CF.je hr gD (j3 (jv 0 rfl vL) (j3 (je_int) (j3 (y8 j8) j8 jD7) jR) j4) j4)) rfl (by decide+kernel) (by decide+kernel) (jS (psc:=j6 qP) (by decide+kernel)) (jI (N:=nCovs) rfl rfl (by decide+kernel)) (fun cl C fp s H=>jJ (i:=0) (show (["some"]:List Str).Nodup by decide+kernel) rfl (yM (by decide+kernel))) (fun cl C fp s H=>kY) (fun cl C fp s H=>(kE jIJ (gl_b (by decide+kernel)) T.tuple (by decide+kernel) (j3 (jH jBB (gl_b (by decide+kernel)) T.sorted (by decide+kernel) (j3 (jv 0 rfl (jX (by decide+kernel))) j8 j4) j4) j8 jF) jF)) kZ)))⟩
theorem jSB (w:Nat):MkOk w 0 [] 0:=⟨dB _,fun j hj=>by omega,fun j _ _=>by simp⟩
theorem jS5 {fd:FuncData}(F:Fun K "_law_coverings" "_law_coverings" qP f fd)(T:Txt mg)(CF:Can P w K mg base "_law_from" 18 fF fdF ["box","thing","held"] (jER 16)):FnOk P w K mg base CX0 19 f fd ["box"] jBP:=by
 refine F.ok scCovs (fun vs H Q E h=>?_) (fun cdv A outer s H vs Q E hr h=>?_)
 ·obtain⟨_,_,_,_,rfl,_⟩:=h
  rfl
 ·obtain⟨b,wi,ms,pcs,rfl,hB,g,q⟩:=h
  have gl:=g.pl
  have w0:=g.w0
  have w1:=g.w1
  have g32:Good 16 32 wi ms pcs:=g.wide (by omega) (by omega)
  have o:ChOk (chs wi.toNat ms pcs):=yZ g32
  have el:(chs wi.toNat ms pcs).length=wi.toNat:=kO _ _ _ _
  have z0:0<2 ^ (chs wi.toNat ms pcs).length:=dB _
  refine⟨_,(covsA T CF hr).2.h,?_⟩
  refine⟨_,rfl,by rw[ay]; show 0<=_; omega,fun r1 H1 hr1 e1=>⟨b,r1,wi,0,ms,pcs,[],0,rfl,hB.mono e1.tups,g,by omega,by omega,hr1,by show 0<=_; omega,jSB _,fun l us H2 a1 a3 a4=>?_⟩⟩
  have ul:us.length<=65536:=by
   rw[a3.len]
   exact bb (jKY g32 _ z0) (jHS (by omega))
  refine⟨l,rfl,⟨_,SqL.of a1⟩,jB2 (xs:=us) (fun σ=>∃ v,σ=[v]) (fun H' zs j=>LsAt H' zs (((wk (chs wi.toNat ms pcs) 0).take j).map srt)) ⟨fun H=>trivial,fun H H' zs j tt h=>h.mono tt,fun H zs j h=>?_⟩ a1 (by rw[ay]; omega) ⟨_,rfl⟩ ?_ ?_⟩
  ·rw[h.len,ae]
   exact bh _ _
  ·rintro j x σ' H' zs hx ⟨v,rfl⟩ e hz S1 S2 yes no
   obtain⟨ks,hks,a,rfl,ha⟩:=a3.get' hx
   have kl:=(jIM o _ z0 ks (az hks)).2
   dsimp only [kL,yL]
   rw[aq rfl]
   refine⟨_,rfl,a,ks,rfl,e _ _ ha,by omega,fun l6 ns hl6 sr pm=>⟨l6,_,rfl, .inl ⟨SqL.of j5,fun l7 hl7=>?_⟩⟩⟩
   have e6:Ext H' (L2.upd H' l6 (.lst (ns.map V.int))):=(Ext.refl _).new hl6 _
   have e7:Ext H' (L2.upd (L2.upd H' l6 (.lst (ns.map V.int))) l7 (.tup (ns.map V.int))):=e6.new hl7 _
   refine yes _ _ _ ⟨_,rfl⟩ e7 ?_
   show LsAt _ _ (((wk (chs wi.toNat ms pcs) 0).take (j+1)).map srt)
   rw[aV,hks,aJ]
   refine All2.snoc (LsAt.mono e7.tups hz) ⟨l7,rfl,?_⟩
   rw[j5,jDR sr pm]
  ·rintro D6 H6 zs h26 e6 hn6 hz6
   rw[a3.len,aZ] at hz6
   exact q D6 zs H6 h26 hz6 (by rw[hz6.len,ae,<- a3.len]; exact ul) ((e1.trans a4).trans e6)
end
theorem jV0 {w:Int}{ms:List Int}{pcs:List (List Int×Int)}{m:Nat}{c:Int×Nat}(hm:m<2 ^ (chs w.toNat ms pcs).length)(hf:m≠fullN (chs w.toNat ms pcs))(hc:c∈chAt (chs w.toNat ms pcs) m):c.1<pcs.length:=by
 have hl:lowN m<w.toNat:=by
  have:=jCG hm hf
  unfold chs at this
  rwa [kO] at this
 obtain⟨h1,_⟩:=be.mp hc
 unfold chs at h1
 rw[ak,yA hl] at h1
 have h1:c∈y6 ms pcs pcs.length (lowN m):=h1
 unfold y6 at h1
 rcases aL.mp h1 with z | z
 ·split at z
  ·rw[aO] at z
   rw[z]
   show (-1:Int)<_
   omega
  ·cases z
 ·obtain⟨k,hk,rfl⟩:=aP.mp z
  exact((yF pcs.length).bnd k (bP (be.mp hk).1)).2
theorem jBI {w:Int}{ms:List Int}{pcs:List (List Int×Int)}{m:Nat}{c:Int×Nat}(hl:lowN m<w.toNat):c∈chAt (chs w.toNat ms pcs) m↔c.2&&&m=0/\((c=(-1,2 ^ lowN m)/\(lowN m:Int)∈ms)\/∃ k:Int,c=(k,maskN (j7 pcs k))/\0<=k/\k<pcs.length/\(j7 pcs k).headD 0=(lowN m:Int)):=by
 unfold chAt
 rw[be,gR,and_comm]
 refine fm fun _=>?_
 unfold chs
 rw[ak,yA hl]
 show c∈y6 ms pcs pcs.length (lowN m)↔_
 unfold y6
 rw[aL]
 refine or_congr ?_ ?_
 ·by_cases h:(lowN m:Int)∈ms
  ·rw[aq h,aO]
   exact⟨fun z=>⟨z,h⟩,fun z=>z.1⟩
  ·rw[am h]
   exact⟨fun z=>(by cases z),fun z=>absurd z.2 h⟩
 ·rw[bE (by rw[jBF]; exact ao _),aP]
  constructor
  ·rintro ⟨k,hk,rfl⟩
   obtain⟨h1,h2⟩:=be.mp hk
   have b:=(yF pcs.length).bnd k h1
   exact⟨k,rfl,b.1,b.2,aF h2⟩
  ·rintro ⟨k,rfl,h1,h2,h3⟩
   refine⟨k,be.mpr ⟨?_,ar h3⟩,rfl⟩
   unfold upto
   exact aP.mpr ⟨k.toNat,bM.mpr (by omega),by omega⟩
structure CovM (w:Int)(ms:List Int)(pcs:List (List Int×Int))(m:Nat)(x:List Int):Prop where
 nd:x.Nodup
 bnd:∀ k∈x,0<=k/\k<pcs.length
 off:∀ k∈x,∀ t∈j7 pcs k,m.testBit t.toNat=false
 dis:∀ k∈x,∀ k'∈x,k≠k'->∀ t∈j7 pcs k,t∉j7 pcs k'
 cov:∀ t:Nat,t<w.toNat->m.testBit t=false->(t:Int)∉ms->∃ k∈x,(t:Int)∈j7 pcs k
section
variable {w:Int}{ms:List Int}{pcs:List (List Int×Int)}(g:Good 16 32 w ms pcs)
include g
theorem jAQ {k:Int}(h0:0<=k)(h1:k<pcs.length):Lot w (j7 pcs k):=(g.at (k:=k.toNat) (by omega)).lot
theorem jET {k:Int}(h0:0<=k)(h1:k<pcs.length)(t:Nat):(maskN (j7 pcs k)).testBit t=decide ((t:Int)∈j7 pcs k):=jA7 _ t (jAQ g h0 h1).ris fun x hx=>((jAQ g h0 h1).bnd x hx).1
theorem jQ6 {k:Int}(h0:0<=k)(h1:k<pcs.length){m:Nat} :maskN (j7 pcs k)&&&m=0↔∀ t∈j7 pcs k,m.testBit t.toNat=false:=by
 have l:=jAQ g h0 h1
 constructor
 ·intro h t ht
  have bt:=l.bnd t ht
  have q:=bN (fun z=>z.testBit t.toNat) h
  simp only [dP,dh,jET g h0 h1] at q
  rw[show ((t.toNat:Nat):Int)=t by omega,ar ht,hV] at q
  exact q
 ·intro h
  apply dW
  intro i
  rw[dP,dh,jET g h0 h1]
  by_cases hi:(i:Int)∈j7 pcs k
  ·have:=h _ hi
   rw[bq] at this
   rw[this,cS]
  ·rw[aH hi]
   rfl
theorem jA3 {k:Int}(h0:0<=k)(h1:k<pcs.length):(j7 pcs k).headD 0∈j7 pcs k/\∀ t∈j7 pcs k,(j7 pcs k).headD 0<=t:=by
 have l:=jAQ g h0 h1
 refine⟨jFT l.ne,fun t ht=>?_⟩
 have r:=l.ris
 cases z:j7 pcs k with
 | nil=>rw[z] at ht; cases ht
 | cons a q=>
  rw[z] at ht r
  show a<=t
  rcases aG.mp ht with y | y
  ·omega
  ·have:=(cw.mp r).1 t y
   omega
theorem jF5:∀ m,m<2 ^ (chs w.toNat ms pcs).length->∀ x∈wk (chs w.toNat ms pcs) m,CovM w ms pcs m x:=by
 have o:ChOk (chs w.toNat ms pcs):=yZ g
 have el:(chs w.toNat ms pcs).length=w.toNat:=kO _ _ _ _
 refine jC4 o ?_ ?_
 ·intro x hx
  rw[jB6,aO] at hx
  subst hx
  refine⟨fX,fun k hk=>(by cases hk),fun k hk=>(by cases hk),fun k hk=>(by cases hk),fun t ht hb _=>?_⟩
  unfold fullN at hb
  rw[el,cN,ar ht] at hb
  cases hb
 ·intro m hm hf ih x hx
  have hl:lowN m<w.toNat:=by have:=jCG hm hf; rwa [el] at this
  rw[jB5 o hm hf] at hx
  obtain⟨p,hp,y,hy,rfl⟩:=mem_wJ.mp hx
  obtain⟨c,hc,rfl⟩:=aP.mp hp
  have I:=ih c hc y hy
  have offm:∀ k∈y,∀ t∈j7 pcs k,m.testBit t.toNat=false:=fun k hk t ht=>by
   have:=I.off k hk t ht
   rw[bH,gx] at this
   exact this.1
  obtain⟨hz,hcase⟩:=(jBI hl).mp hc
  rcases hcase with ⟨rfl,hms⟩ | ⟨k,rfl,k0,k1,hd⟩
  ·dsimp only
   rw[aq (show (-1:Int)<0 by decide)]
   refine⟨I.nd,I.bnd,offm,I.dis,fun t ht hb hn=>?_⟩
   refine I.cov t ht ?_ hn
   rw[bH,hb,hG,cB,aH]
   intro z
   subst z
   exact hn hms
  ·dsimp only at I hz ⊢
   rw[am (by omega)]
   have ky:∀ t∈j7 pcs k,∀ k'∈y,t∉j7 pcs k':=fun t ht k' hk' ht'=>by
    have:=I.off k' hk' t ht'
    have bt:=(jAQ g k0 k1).bnd t ht
    rw[bH,jET g k0 k1,show ((t.toNat:Nat):Int)=t by omega,ar ht,eS] at this
    cases this
   have hhd:=(jA3 g k0 k1).1
   refine⟨cD.mpr ⟨fun z=>ky _ hhd k z hhd,I.nd⟩,fun k' hk'=>?_,fun k' hk' t ht=>?_,fun k1' h1' k2' h2' ne t ht=>?_,fun t ht hb hn=>?_⟩
   ·rcases aG.mp hk' with z | z
    ·rw[z]; exact⟨k0,k1⟩
    ·exact I.bnd k' z
   ·rcases aG.mp hk' with z | z
    ·rw[z] at ht
     exact(jQ6 g k0 k1).mp hz t ht
    ·exact offm k' z t ht
   ·rcases aG.mp h1' with z | z <;> rcases aG.mp h2' with u | u
    ·exact absurd (z.trans u.symm) ne
    ·rw[z] at ht
     exact ky t ht _ u
    ·rw[u]
     intro q
     exact ky t q _ z ht
    ·exact I.dis _ z _ u ne t ht
   ·by_cases hk:(t:Int)∈j7 pcs k
    ·exact⟨k,aE .., hk⟩
    ·obtain⟨k',h1,h2⟩:=I.cov t ht (by rw[bH,hb,jET g k0 k1,aH hk]; rfl) hn
     exact⟨k',aK _ h1,h2⟩
theorem jHN:∀ m,m<2 ^ (chs w.toNat ms pcs).length->∀ x,CovM w ms pcs m x->∃ y∈wk (chs w.toNat ms pcs) m,∀ k,k∈y↔k∈x:=by
 have o:ChOk (chs w.toNat ms pcs):=yZ g
 have el:(chs w.toNat ms pcs).length=w.toNat:=kO _ _ _ _
 have w0:=g.w0
 refine jC4 o ?_ ?_
 ·intro x C
  refine⟨[],by rw[jB6]; exact aO.mpr rfl,fun k=>⟨fun z=>(by cases z),fun hk=>?_⟩⟩
  exfalso
  have b:=C.bnd k hk
  have hh:=(jA3 g b.1 b.2).1
  have hb:=(jAQ g b.1 b.2).bnd _ hh
  have:=C.off k hk _ hh
  unfold fullN at this
  rw[el,cN,ar (by omega)] at this
  cases this
 ·intro m hm hf ih x C
  have hl:lowN m<w.toNat:=by have:=jCG hm hf; rwa [el] at this
  have hstep:=jB5 o hm hf
  by_cases hx:∃ k∈x,(lowN m:Int)∈j7 pcs k
  ·obtain⟨k,hk,ht⟩:=hx
   have b:=C.bnd k hk
   have hd:(j7 pcs k).headD 0=(lowN m:Int):=by
    obtain⟨h1,h2⟩:=jA3 g b.1 b.2
    have h3:=h2 _ ht
    have hb:=(jAQ g b.1 b.2).bnd _ h1
    have h4:=C.off k hk _ h1
    rcases Int.lt_or_eq_of_le h3 with z | z
    ·have:=jFK m ((j7 pcs k).headD 0).toNat (by omega)
     rw[this] at h4
     cases h4
    ·exact z
   have fit:maskN (j7 pcs k)&&&m=0:=(jQ6 g b.1 b.2).mpr (C.off k hk)
   have hc:((k,maskN (j7 pcs k)):Int×Nat)∈chAt (chs w.toNat ms pcs) m:=(jBI hl).mpr ⟨fit, .inr ⟨k,rfl,b.1,b.2,hd⟩⟩
   have memE:∀ j,j∈x.erase k↔j≠k/\j∈x:=fun j=>C.nd.mem_erase_iff
   obtain⟨y,hy,hye⟩:=ih _ hc (x.erase k) ⟨C.nd.erase k,fun j hj=>C.bnd j ((memE j).mp hj).2,fun j hj t ht'=>by
     obtain⟨n1,n2⟩:=(memE j).mp hj
     have bj:=C.bnd j n2
     have bt:=(jAQ g bj.1 bj.2).bnd t ht'
     have:=C.dis j n2 k hk n1 t ht'
     rw[bH,C.off j n2 t ht',jET g b.1 b.2,show ((t.toNat:Nat):Int)=t by omega,aH this]
     rfl,fun j1 h1 j2 h2=>C.dis j1 ((memE j1).mp h1).2 j2 ((memE j2).mp h2).2,fun t ht' hb hn=>by
     rw[bH,gx,jET g b.1 b.2,cK] at hb
     obtain⟨j,hj,hjt⟩:=C.cov t ht' hb.1 hn
     exact⟨j,(memE j).mpr ⟨fun z=>hb.2 (z ▸ hjt),hj⟩,hjt⟩⟩
   refine⟨k::y,?_,fun j=>?_⟩
   ·rw[hstep,mem_wJ]
    exact⟨_,cq hc,y,hy,by dsimp only; rw[am (by omega)]⟩
   ·rw[aG,hye,memE]
    constructor
    ·rintro (z | z)
     ·rw[z]; exact hk
     ·exact z.2
    ·intro z
     by_cases hj:j=k
     ·exact .inl hj
     ·exact .inr ⟨hj,z⟩
  ·have hms:(lowN m:Int)∈ms:=da fun z=>hx (C.cov (lowN m) hl (jE4 m) z)
   have fit:2 ^ lowN m&&&m=0:=by
    apply dW
    intro i
    rw[dP,dh,cB]
    by_cases hi:lowN m=i
    ·rw[<- hi,jE4,cS]
    ·rw[aH hi]
     rfl
   have hc:((-1,2 ^ lowN m):Int×Nat)∈chAt (chs w.toNat ms pcs) m:=(jBI hl).mpr ⟨fit, .inl ⟨rfl,hms⟩⟩
   obtain⟨y,hy,hye⟩:=ih _ hc x ⟨C.nd,C.bnd,fun j hj t ht'=>by
     have bj:=C.bnd j hj
     have bt:=(jAQ g bj.1 bj.2).bnd t ht'
     rw[bH,C.off j hj t ht',hG,cB,aH]
     intro z
     refine hx ⟨j,hj,?_⟩
     rw[z,show ((t.toNat:Nat):Int)=t by omega]
     exact ht',C.dis,fun t ht' hb hn=>by
     rw[bH,gx] at hb
     exact C.cov t ht' hb.1 hn⟩
   refine⟨y,?_,hye⟩
   rw[hstep,mem_wJ]
   exact⟨_,cq hc,y,hy,by dsimp only; rw[aq (by decide)]⟩
theorem jO1:∀ m,m<2 ^ (chs w.toNat ms pcs).length->(wk (chs w.toNat ms pcs) m).Pairwise fun y z=>¬ ∀ k,k∈y↔k∈z:=by
 have o:ChOk (chs w.toNat ms pcs):=yZ g
 have el:(chs w.toNat ms pcs).length=w.toNat:=kO _ _ _ _
 refine jC4 o ?_ ?_
 ·rw[jB6]
  exact fJ _ _
 ·intro m hm hf ih
  have hl:lowN m<w.toNat:=by have:=jCG hm hf; rwa [el] at this
  rw[jB5 o hm hf]
  unfold wJ
  rw[iS]
  have at0:∀ c∈chAt (chs w.toNat ms pcs) m,∀ y∈wk (chs w.toNat ms pcs) (m|||c.2),∀ k∈y,(lowN m:Int)∉j7 pcs k:=fun c hc y hy k hk ht=>by
   have C:=jF5 g _ (o.up hm hf hc).2 y hy
   have:=C.off k hk _ ht
   rw[bq,bH,(o.mem hm hf hc).1,eS] at this
   cases this
  constructor
  ·intro p hp
   obtain⟨c,hc,rfl⟩:=aP.mp hp
   rw[bz]
   refine(dJ.mp (ih c hc)).imp fun {y z} h=>?_
   obtain⟨hy,hz,h⟩:=h
   dsimp only
   obtain⟨_,hcase⟩:=(jBI hl).mp hc
   rcases hcase with ⟨rfl,hms⟩ | ⟨k,rfl,k0,k1,hd⟩
   ·rw[aq (show (-1:Int)<0 by decide),aq (show (-1:Int)<0 by decide)]
    exact h
   ·rw[am (by omega),am (by omega)]
    intro q
    refine h fun j=>?_
    have kt:(lowN m:Int)∈j7 pcs k:=by rw[<- hd]; exact(jA3 g k0 k1).1
    have ny:k∉y:=fun u=>at0 _ hc y hy k u kt
    have nz:k∉z:=fun u=>at0 _ hc z hz k u kt
    have qj:=q j
    rw[aG,aG] at qj
    constructor
    ·intro u
     rcases qj.mp (.inr u) with v | v
     ·rw[v] at u; exact absurd u ny
     ·exact v
    ·intro u
     rcases qj.mpr (.inr u) with v | v
     ·rw[v] at u; exact absurd u nz
     ·exact v
  ·rw[bz]
   have pw:(chAt (chs w.toNat ms pcs) m).Pairwise fun a b=>a.1≠b.1:=by
    unfold chAt chs
    rw[ak,yA hl]
    show ((y6 ms pcs pcs.length (lowN m)).filter _).Pairwise _
    refine iZ _ ?_
    unfold y6
    rw[bW]
    refine⟨by split <;> simp,?_,fun a ha b hb=>?_⟩
    ·rw[bz]
     refine iZ _ (List.Pairwise.sublist (dw _ _) ?_)
     exact(yF pcs.length).ris.imp fun {a b} h=>by
      show a≠b
      omega
    ·obtain⟨k,hk,rfl⟩:=aP.mp hb
     have bk:=(yF pcs.length).bnd k (bP (be.mp hk).1)
     split at ha
     ·rw[aO] at ha
      rw[ha]
      show (-1:Int)≠k
      omega
     ·cases ha
   refine(dJ.mp pw).imp fun {c d} h=>?_
   obtain⟨hc,hd',ne⟩:=h
   intro x hx y hy q
   obtain⟨u,hu,rfl⟩:=aP.mp hx
   obtain⟨v,hv,rfl⟩:=aP.mp hy
   dsimp only at hu hv q
   obtain⟨_,h1⟩:=(jBI hl).mp hc
   obtain⟨_,h2⟩:=(jBI hl).mp hd'
   have one:∀ (k:Int) (z:List Int),0<=k->k<pcs.length->(j7 pcs k).headD 0=(lowN m:Int)->(lowN m:Int)∈j7 pcs k:=fun k z k0 k1 e=>by rw[<- e]; exact(jA3 g k0 k1).1
   rcases h1 with ⟨rfl,_⟩ | ⟨k,rfl,k0,k1,hk⟩ <;> rcases h2 with ⟨rfl,_⟩ | ⟨j,rfl,j0,j1,hj⟩
   ·exact ne rfl
   ·rw[aq (show (-1:Int)<0 by decide),am (by omega)] at q
    exact at0 _ hc u hu j ((q j).mpr (aE ..)) (one j v j0 j1 hj)
   ·rw[am (by omega),aq (show (-1:Int)<0 by decide)] at q
    exact at0 _ hd' v hv k ((q k).mp (aE ..)) (one k v k0 k1 hk)
   ·rw[am (by omega),am (by omega)] at q
    rcases aG.mp ((q k).mp (aE ..)) with z | z
    ·exact ne z
    ·exact at0 _ hd' v hv k z (one k v k0 k1 hk)
end
structure IsCov (w:Int)(ms:List Int)(pcs:List (List Int×Int))(c:List Int):Prop where
 ris:Ris pcs.length c
 dis:∀ k∈c,∀ k'∈c,k≠k'->∀ t∈j7 pcs k,t∉j7 pcs k'
 cov:∀ t:Int,0<=t->t<w->t∉ms->∃ k∈c,t∈j7 pcs k
section
variable {w:Int}{ms:List Int}{pcs:List (List Int×Int)}(g:Good 16 32 w ms pcs)
include g
theorem jE1 {c:List Int} :c∈cvs w ms pcs↔IsCov w ms pcs c:=by
 have z0:0<2 ^ (chs w.toNat ms pcs).length:=dB _
 have w0:=g.w0
 unfold cvs
 rw[aP]
 constructor
 ·rintro ⟨x,hx,rfl⟩
  have C:=jF5 g 0 z0 x hx
  have me:∀ k,k∈srt x↔k∈x:=fun k=>(jAB x).mem_iff
  refine⟨⟨?_,fun k hk=>C.bnd k ((me k).mp hk)⟩,fun k hk k' hk'=>C.dis k ((me k).mp hk) k' ((me k').mp hk'),fun t t0 t1 hn=>?_⟩
  ·exact(gZ (jLD x) ((jAB x).nodup_iff.mpr C.nd)).imp fun {a b} h=>by omega
  ·obtain⟨k,hk,hkt⟩:=C.cov t.toNat (by omega) (dh _) (by rw[show ((t.toNat:Nat):Int)=t by omega]; exact hn)
   exact⟨k,(me k).mpr hk,by rwa [show ((t.toNat:Nat):Int)=t by omega] at hkt⟩
 ·intro C
  obtain⟨y,hy,hye⟩:=jHN g 0 z0 c ⟨C.ris.ris.imp fun {a b} h=>by omega,C.ris.bnd,fun k hk t ht=>dh _,C.dis,fun t ht _ hn=>C.cov t (by omega) (by omega) hn⟩
  refine⟨y,hy,?_⟩
  have ny:=(jF5 g 0 z0 y hy).nd
  have nc:c.Nodup:=C.ris.ris.imp fun {a b} h=>by omega
  have pm:c.Perm y:=(eQ nc ny).mpr fun k=>(hye k).symm
  exact(jDR (C.ris.ris.imp fun {a b} h=>by omega) pm).symm
theorem jH4:(cvs w ms pcs).Nodup:=by
 have z0:0<2 ^ (chs w.toNat ms pcs).length:=dB _
 unfold cvs
 refine bz.mpr ((jO1 g 0 z0).imp fun {y z} h e=>h fun k=>?_)
 rw[<- (jAB y).mem_iff,e,(jAB z).mem_iff]
end
theorem jNJ (w:Int)(ms:List Int)(pcs:List (List Int×Int)):(cvs w ms pcs).length=(wk (chs w.toNat ms pcs) 0).length:=ae ..
theorem mem_nmd {ts lot:List Int}{p:Int} :p∈nmd ts lot↔∃ t∈lot,t∈ts/\p=((ts.idxOf t:Nat):Int):=by
 unfold nmd
 rw[(jAB _).mem_iff]
 unfold plcs
 rw[aP]
 constructor
 ·rintro ⟨t,ht,rfl⟩
  obtain⟨h1,h2⟩:=be.mp ht
  exact⟨t,h1,aF h2,rfl⟩
 ·rintro ⟨t,h1,h2,rfl⟩
  exact⟨t,be.mpr ⟨h1,ar h2⟩,rfl⟩
theorem jAX {ts:List Int}{pcs:List (List Int×Int)}{ks:List Int}{j:Int}(h0:0<=j)(h1:j<ks.length):j7 (pick ts pcs ks) j=nmd ts (j7 pcs (ks.getD j.toNat 0)):=by
 have hj:j.toNat<ks.length:=by omega
 unfold pick
 show ((ks.map _).getD j.toNat ([],0)).1=_
 rw[ak,aN,ak,aw hj]
 rfl
theorem jI6 {ts:List Int}{a b:Int}(ha:a∈ts)(hb:b∈ts)(h:((ts.idxOf a:Nat):Int)=((ts.idxOf b:Nat):Int)):a=b:=by
 have e:ts.idxOf a=ts.idxOf b:=by omega
 have h1:=(jCK ha).1
 rw[e,(jCK hb).1] at h1
 exact(bg h1).symm
theorem jM5 {ts lot:List Int}(h:ts.Pairwise (· < ·))(hl:lot.Pairwise (· < ·)):Ris ts.length (nmd ts lot):=by
 rw[jS8 h hl]
 refine⟨jJ4 h hl,fun z hz=>?_⟩
 unfold plcs at hz
 obtain⟨t,ht,rfl⟩:=aP.mp hz
 have:=bG.mpr (aF (be.mp ht).2)
 omega
theorem jN6 {w mp:Int}{ms:List Int}{pcs:List (List Int×Int)}{ts ks:List Int}(g:Good 16 mp w ms pcs)(rk:Ris w ts)(hk:∀ k∈ks,0<=k/\k<pcs.length)(lk:(ks.length:Int)<=mp)(ha:∀ k∈ks,∃ x∈j7 pcs k,x∈ts):Good 16 mp ts.length (nmd ts ms) (pick ts pcs ks):=by
 have tl16:=jFM rk.ris rk.bnd g.w1
 refine⟨by omega,by omega,jM5 rk.ris g.mr.ris,?_,fun pc hpc=>?_⟩
 ·unfold pick
  rw[ae]
  exact lk
 ·unfold pick at hpc
  obtain⟨k,hk',rfl⟩:=aP.mp hpc
  have kb:=hk k hk'
  have gp:=g.at (k:=k.toNat) (by omega)
  have r:=jM5 rk.ris (lot:=j7 pcs k) gp.lot.ris
  refine⟨⟨r.ris,r.bnd,fun z=>?_⟩,gp.lo,gp.hi⟩
  obtain⟨x,hx,hx2⟩:=ha k hk'
  have:((ts.idxOf x:Nat):Int)∈nmd ts (j7 pcs k):=mem_nmd.mpr ⟨x,hx,hx2,rfl⟩
  rw[show nmd ts (j7 pcs k)=[] from z] at this
  cases this
structure SubCov (ms:List Int)(pcs:List (List Int×Int))(ts ks S:List Int):Prop where
 ris:S.Pairwise (· < ·)
 sub:∀ k∈S,k∈ks
 dis:∀ k∈S,∀ k'∈S,k≠k'->∀ t∈j7 pcs k,t∉j7 pcs k'
 cov:∀ t∈ts,t∉ms->∃ k∈S,t∈j7 pcs k
def kOf (ks c:List Int):List Int:=c.map fun j=>ks.getD j.toNat 0
def jOf (ks S:List Int):List Int:=S.map fun k=>((ks.idxOf k:Nat):Int)
theorem kget {ks:List Int}{j:Int}(h0:0<=j)(h1:j<ks.length):ks.getD j.toNat 0∈ks/\ks[j.toNat]?=some (ks.getD j.toNat 0):=by
 have hj:j.toNat<ks.length:=by omega
 rw[ak,aw hj]
 exact⟨cz hj,rfl⟩
theorem jJK {ks:List Int}{k:Int}(h:k∈ks):ks.getD ((ks.idxOf k:Nat):Int).toNat 0=k:=by
 rw[bq,ak,(jCK h).1]
 rfl
theorem jJP {ks:List Int}(r:ks.Pairwise (· < ·)){j:Int}(h0:0<=j)(h1:j<ks.length):((ks.idxOf (ks.getD j.toNat 0):Nat):Int)=j:=by
 obtain⟨a,b⟩:=kget h0 h1
 have nd:ks.Nodup:=r.imp fun {a b} h=>by omega
 have hlt:=bG.mpr a
 have:=(g8 hlt nd).mp ((jCK a).1.trans b.symm)
 omega
theorem kj {ks S:List Int}(h:∀ k∈S,k∈ks):kOf ks (jOf ks S)=S:=by
 unfold kOf jOf
 rw[bI]
 exact(bR fun k hk=>jJK (h k hk)).trans (fN _)
theorem jk {ks c:List Int}(r:ks.Pairwise (· < ·))(h:∀ j∈c,0<=j/\j<ks.length):jOf ks (kOf ks c)=c:=by
 unfold kOf jOf
 rw[bI]
 exact(bR fun j hj=>jJP r (h j hj).1 (h j hj).2).trans (fN _)
theorem jSH {ks:List Int}(r:ks.Pairwise (· < ·)){i j:Int}(h0:0<=i)(h1:i<j)(h2:j<ks.length):ks.getD i.toNat 0<ks.getD j.toNat 0:=by
 have hi:i.toNat<ks.length:=by omega
 have hj:j.toNat<ks.length:=by omega
 rw[ak,ak,aw hi,aw hj]
 exact bL.mp r _ _ hi hj (by omega)
theorem jQZ {ms:List Int}{pcs:List (List Int×Int)}{ts ks:List Int}(rt:ts.Pairwise (· < ·))(rk:ks.Pairwise (· < ·))(al:∀ k∈ks,∀ t∈j7 pcs k,t∈ts){c:List Int}(C:IsCov (ts.length:Int) (nmd ts ms) (pick ts pcs ks) c):SubCov ms pcs ts ks (kOf ks c):=by
 have pl:(pick ts pcs ks).length=ks.length:=ae ..
 have cb:∀ j∈c,0<=j/\j<ks.length:=fun j hj=>by have:=C.ris.bnd j hj; rwa [pl] at this
 refine⟨?_,fun k hk=>?_,fun k hk k' hk' ne t ht ht'=>?_,fun t ht hn=>?_⟩
 ·unfold kOf
  rw[bz]
  exact(dJ.mp C.ris.ris).imp fun {a b} h=>jSH rk (cb a h.1).1 h.2.2 (cb b h.2.1).2
 ·obtain⟨j,hj,rfl⟩:=aP.mp hk
  exact(kget (cb j hj).1 (cb j hj).2).1
 ·obtain⟨j,hj,rfl⟩:=aP.mp hk
  obtain⟨j',hj',rfl⟩:=aP.mp hk'
  have hts:=al _ (kget (cb j hj).1 (cb j hj).2).1 t ht
  refine C.dis j hj j' hj' (fun z=>ne (by rw[z])) ((ts.idxOf t:Nat):Int) ?_ ?_
  ·rw[jAX (cb j hj).1 (cb j hj).2]
   exact mem_nmd.mpr ⟨t,ht,hts,rfl⟩
  ·rw[jAX (cb j' hj').1 (cb j' hj').2]
   exact mem_nmd.mpr ⟨t,ht',hts,rfl⟩
 ·have hp:ts.idxOf t<ts.length:=bG.mpr ht
  obtain⟨j,hj,hjt⟩:=C.cov ((ts.idxOf t:Nat):Int) (by omega) (by omega) (fun z=>by
   obtain⟨u,hu,hut,e⟩:=mem_nmd.mp z
   exact hn (jI6 ht hut e ▸ hu))
  rw[jAX (cb j hj).1 (cb j hj).2] at hjt
  obtain⟨u,hu,hut,e⟩:=mem_nmd.mp hjt
  exact⟨_,cq hj,jI6 ht hut e ▸ hu⟩
theorem jSY {ms:List Int}{pcs:List (List Int×Int)}{ts ks:List Int}(rt:ts.Pairwise (· < ·))(rk:ks.Pairwise (· < ·)){S:List Int}(C:SubCov ms pcs ts ks S):IsCov (ts.length:Int) (nmd ts ms) (pick ts pcs ks) (jOf ks S):=by
 have pl:(pick ts pcs ks).length=ks.length:=ae ..
 have tp:∀ k∈S,j7 (pick ts pcs ks) ((ks.idxOf k:Nat):Int)=nmd ts (j7 pcs k):=fun k hk=>by
  have hlt:=bG.mpr (C.sub k hk)
  rw[jAX (by omega) (by omega),jJK (C.sub k hk)]
 refine⟨⟨?_,fun j hj=>?_⟩,fun j hj j' hj' ne p h1 h2=>?_,fun p p0 p1 hn=>?_⟩
 ·unfold jOf
  rw[bz]
  refine(dJ.mp C.ris).imp fun {a b} h=>?_
  have:=jQK rk (C.sub a h.1) (C.sub b h.2.1) h.2.2
  omega
 ·obtain⟨k,hk,rfl⟩:=aP.mp hj
  have hlt:=bG.mpr (C.sub k hk)
  rw[pl]
  omega
 ·obtain⟨k,hk,rfl⟩:=aP.mp hj
  obtain⟨k',hk',rfl⟩:=aP.mp hj'
  rw[tp k hk] at h1
  rw[tp k' hk'] at h2
  obtain⟨t,ht,hts,e⟩:=mem_nmd.mp h1
  obtain⟨u,hu,hus,e'⟩:=mem_nmd.mp h2
  have:t=u:=jI6 hts hus (by omega)
  subst this
  exact C.dis k hk k' hk' (fun z=>ne (by rw[z])) t ht hu
 ·have hp:p.toNat<ts.length:=by omega
  have ht:ts[p.toNat]∈ts:=cz hp
  have ip:((ts.idxOf ts[p.toNat]:Nat):Int)=p:=by
   have:=jJP rt p0 p1
   rw[ak,aw hp] at this
   exact this
  obtain⟨k,hk,hkt⟩:=C.cov _ ht (fun z=>hn (mem_nmd.mpr ⟨_,z,ht,ip.symm⟩))
  refine⟨_,cq hk,?_⟩
  rw[tp k hk]
  exact mem_nmd.mpr ⟨_,hkt,ht,ip.symm⟩
section
variable {w:Int}{ms:List Int}{pcs:List (List Int×Int)}(g:Good 16 32 w ms pcs)
include g
theorem jCE {ts:List Int}{k:Int} :k∈lftP pcs ts↔(0<=k/\k<pcs.length)/\∀ t∈j7 pcs k,t∈ts:=by
 unfold lftP
 rw[be,jJF,bC]
 refine fm fun _=>ig fun t=>ig fun _=>bo
theorem jA9 {mp:Int}(gm:Good 16 mp w ms pcs)(held:List Int):Good 16 mp ((lftT w held).length:Int) (nmd (lftT w held) ms) (pick (lftT w held) pcs (lftP pcs (lftT w held))):=by
 refine jN6 gm ⟨jFN _ _,fun z hz=>((jCD g.w0).mp hz).1⟩ jFO (by have:=jJI pcs (lftT w held); have:=gm.pl; omega) fun k hk=>?_
 have kb:=jFO k hk
 have hm:=jA3 g kb.1 kb.2
 exact⟨_,hm.1,aF (bC.mp (be.mp hk).2 _ hm.1)⟩
abbrev tsB (w:Int)(pcs:List (List Int×Int))(tk:List Int):List Int:=lftT w (tk.flatMap (j7 pcs))
abbrev apB (w:Int)(pcs:List (List Int×Int))(tk:List Int):List Int:=lftP pcs (tsB w pcs tk)
theorem jCY {tk c:List Int}{k:Int} :k∈c.filter (fun k=>!decide (k∈tk))↔k∈c/\k∉tk:=by
 rw[be,dz,cK]
theorem jPZ {tk c:List Int}(C:IsCov w ms pcs c)(h2:∀ k∈tk,k∈c):SubCov ms pcs (tsB w pcs tk) (apB w pcs tk) (c.filter fun k=>!decide (k∈tk)):=by
 have w0:=g.w0
 refine⟨C.ris.ris.sublist cZ,fun k hk=>?_,fun k hk k' hk'=>C.dis k ((jCY g).mp hk).1 k' ((jCY g).mp hk').1,fun t ht hn=>?_⟩
 ·obtain⟨k1,k2⟩:=(jCY g).mp hk
  have kb:=C.ris.bnd k k1
  refine(jCE g).mpr ⟨kb,fun t ht=>(jCD w0).mpr ⟨(jAQ g kb.1 kb.2).bnd t ht,fun z=>?_⟩⟩
  obtain⟨k',hk',ht'⟩:=eV.mp z
  exact C.dis k k1 k' (h2 k' hk') (fun q=>k2 (q ▸ hk')) t ht ht'
 ·obtain⟨b,hnp⟩:=(jCD w0).mp ht
  obtain⟨k,hk,hkt⟩:=C.cov t b.1 b.2 hn
  exact⟨k,(jCY g).mpr ⟨hk,fun z=>hnp (eV.mpr ⟨k,z,hkt⟩)⟩,hkt⟩
theorem jDI {tk S:List Int}{k:Int} :k∈srt (tk++S)↔k∈tk\/k∈S:=by rw[(jAB _).mem_iff,aL]
section
variable {tk S:List Int}(r:Ris pcs.length tk)(C:SubCov ms pcs (tsB w pcs tk) (apB w pcs tk) S)
include C r
theorem jLB:∀ k∈S,∀ t∈j7 pcs k,∀ k'∈tk,t∉j7 pcs k':=fun k hk t ht k' hk' z=>((jCD g.w0).mp (((jCE g).mp (C.sub k hk)).2 t ht)).2 (eV.mpr ⟨k',hk',z⟩)
theorem jLC:∀ k∈tk,k∉S:=fun k hk z=>by
 have kb:=r.bnd k hk
 exact jLB g r C k z _ (jA3 g kb.1 kb.2).1 k hk (jA3 g kb.1 kb.2).1
theorem jG3:(srt (tk++S)).Pairwise (· < ·):=by
 have nS:S.Nodup:=C.ris.imp fun {a b} h=>by omega
 have nT:tk.Nodup:=r.ris.imp fun {a b} h=>by omega
 exact(gZ (jLD _) ((jAB (tk++S)).nodup_iff.mpr (dU.mpr ⟨nT,nS,fun a ha b hb e=>jLC g r C a ha (e ▸ hb)⟩))).imp fun {a b} h=>by omega
theorem jUB (dj:∀ k∈tk,∀ k'∈tk,k≠k'->∀ t∈j7 pcs k,t∉j7 pcs k'):IsCov w ms pcs (srt (tk++S)):=by
 have me:=fun k=>jDI g (tk:=tk) (S:=S) (k:=k)
 have np:=jLB g r C
 refine⟨⟨jG3 g r C,fun k hk=>?_⟩,fun k hk k' hk' ne t ht=>?_,fun t t0 t1 hn=>?_⟩
 ·rcases (me k).mp hk with z | z
  ·exact r.bnd k z
  ·exact((jCE g).mp (C.sub k z)).1
 ·rcases (me k).mp hk with z | z <;> rcases (me k').mp hk' with u | u
  ·exact dj k z k' u ne t ht
  ·exact fun q=>np k' u t q k z ht
  ·exact np k z t ht k' u
  ·exact C.dis k z k' u ne t ht
 ·by_cases hT:t∈tk.flatMap (j7 pcs)
  ·obtain⟨k,hk,hkt⟩:=eV.mp hT
   exact⟨k,(me k).mpr (.inl hk),hkt⟩
  ·obtain⟨k,hk,hkt⟩:=C.cov t ((jCD g.w0).mpr ⟨⟨t0,t1⟩,hT⟩) hn
   exact⟨k,(me k).mpr (.inr hk),hkt⟩
theorem jJX:(srt (tk++S)).filter (fun k=>!decide (k∈tk))=S:=by
 refine jLK ((jG3 g r C).sublist cZ) C.ris fun x=>?_
 rw[jCY g,jDI g]
 constructor
 ·rintro ⟨z | z,ne⟩
  ·exact absurd z ne
  ·exact z
 ·exact fun z=>⟨.inr z,fun q=>jLC g r C x q z⟩
end
theorem jPP {tk c:List Int}(r:Ris pcs.length tk)(C:IsCov w ms pcs c)(h2:∀ k∈tk,k∈c):srt (tk++c.filter fun k=>!decide (k∈tk))=c:=by
 refine jLK (jG3 g r (jPZ g C h2)) C.ris.ris fun x=>?_
 rw[jDI g,jCY g]
 constructor
 ·rintro (z | z)
  ·exact h2 x z
  ·exact z.1
 ·intro z
  by_cases q:x∈tk
  ·exact .inl q
  ·exact .inr ⟨z,q⟩
abbrev cvB (w:Int)(ms:List Int)(pcs:List (List Int×Int))(tk:List Int):List (List Int):=cvs ((tsB w pcs tk).length:Int) (nmd (tsB w pcs tk) ms) (pick (tsB w pcs tk) pcs (apB w pcs tk))
abbrev leadB (w:Int)(pcs:List (List Int×Int))(tk c:List Int):List Int:=srt (tk++kOf (apB w pcs tk) c)
abbrev dueB (w:Int)(ms:List Int)(pcs:List (List Int×Int))(tk:List Int):List (List Int):=(cvs w ms pcs).filter fun c=>tk.all fun k=>decide (k∈c)
theorem jMF {tk c:List Int} :c∈dueB w ms pcs tk↔IsCov w ms pcs c/\∀ k∈tk,k∈c:=by
 rw[be,jE1 g,bC]
 exact fm fun _=>ig fun k=>ig fun _=>bo
theorem jV3 {tk:List Int} :∀ k∈apB w pcs tk,∀ t∈j7 pcs k,t∈tsB w pcs tk:=fun k hk=>((jCE g).mp hk).2
theorem jID {tk c:List Int}(hc:c∈cvB w ms pcs tk):SubCov ms pcs (tsB w pcs tk) (apB w pcs tk) (kOf (apB w pcs tk) c):=jQZ (jFN _ _) (jDJ _ _) (jV3 g) ((jE1 (jA9 g g _)).mp hc)
theorem jFZ {tk c:List Int}(hc:c∈cvB w ms pcs tk):∀ j∈c,0<=j/\j<(apB w pcs tk).length:=fun j hj=>by
 have:=((jE1 (jA9 g g _)).mp hc).ris.bnd j hj
 unfold pick at this
 rw[ae] at this
 exact this
theorem jMM {tk:List Int}(r:Ris pcs.length tk)(dj:∀ k∈tk,∀ k'∈tk,k≠k'->∀ t∈j7 pcs k,t∉j7 pcs k'):((cvB w ms pcs tk).map (leadB w pcs tk)).Perm (dueB w ms pcs tk):=by
 refine(eQ ?_ ((jH4 g).sublist cZ)).mpr fun c=>?_
 ·refine bz.mpr ((dJ.mp (jH4 (jA9 g g _))).imp fun {a b} h e=>h.2.2 ?_)
  have q:=bN (fun c=>c.filter fun k=>!decide (k∈tk)) e
  rw[jJX g r (jID g h.1),jJX g r (jID g h.2.1)] at q
  have q:=bN (jOf (apB w pcs tk)) q
  rw[jk (jDJ _ _) (jFZ g h.1),jk (jDJ _ _) (jFZ g h.2.1)] at q
  exact q
 ·rw[aP,jMF g]
  constructor
  ·rintro ⟨a,ha,rfl⟩
   exact⟨jUB g r (jID g ha) dj,fun k hk=>(jDI g).mpr (.inl hk)⟩
  ·rintro ⟨C,h2⟩
   have S:=jPZ g C h2
   refine⟨jOf (apB w pcs tk) (c.filter fun k=>!decide (k∈tk)),(jE1 (jA9 g g _)).mpr (jSY (jFN _ _) (jDJ _ _) S),?_⟩
   show srt (tk++kOf _ (jOf _ _))=c
   rw[kj S.sub]
   exact jPP g r C h2
end
def lamOf (s:Stmt):Arguments×Expr×Scope×Pos:=match jB s with
 | [.Return (some (.Call _ [_,_, .Lambda a b sc p] _ _)) _]=>(a,b,sc,p)
 | _=>(jG s, .Constant .none 0 ⟨0,0,0,0⟩,j6 s,⟨0,0,0,0⟩)
abbrev lamA:Arguments:=(lamOf qD).1
abbrev lamB:Expr:=(lamOf qD).2.1
abbrev lamS:Scope:=(lamOf qD).2.2.1
abbrev lamP:Pos:=(lamOf qD).2.2.2
abbrev nLam:List Str:=["behind"]
theorem scLam:NScope nLam ["behind"] [] lamS:=⟨rfl,rfl,rfl,by decide+kernel,rfl,by decide+kernel,by decide+kernel,fun x h=>by
  have hl:∀ y∈lamS.names,y.2≠ .free:=by decide+kernel
  exact absurd rfl (hl _ (ck h)),by decide+kernel⟩
def RWay (ch:Ch):RepT:=fun m _ v=>v=natV (wk ch m).length
theorem RWay.ok (ch:Ch):RepOk (RWay ch):=fun _ _=>⟨fun _ _ _ _ _ _ h=>h,fun _ _ _ h=>h⟩
theorem jT7 (l:List (Int×List (List Int))):(wJ l).length=(l.map fun p=>p.2.length).sum:=by
 unfold wJ
 rw[List.length_flatMap]
 congr 1
 refine bR fun p _=>?_
 rw[ae]
section
variable {P:Program}{w:World}{K:W.Frag}{mg:Str->Option Value}{base:Heap}
variable {f fG fW fC a c c0 tb:Addr}{fdG fdW fdC:FuncData}{cdv:Value}{cl:List (Str×Addr)}{A:Around}{outer:List Env}{s:Shared}{H0:Hp}{E:XK}
abbrev qLam:Str:= "ways_of.<locals>.<lambda>"
def jP1 (T:Txt mg): { t:TE // JE (cxN P w K mg base nLam qLam lamS a (.ref c) cl A outer s H0) lamB t} :=⟨_,(jH (jEF rfl) (gl_n (by decide+kernel)) T.sum (by decide+kernel) (j3 (kR (m:=[none,none]) (Nc:=["number","ways"]) rfl (yS (jv 0 rfl (qA (by decide+kernel)))) rfl (by decide+kernel) (by decide+kernel) (fun y hy hf=>absurd hf (by revert y; decide+kernel)) (jI (N:=nLam) rfl rfl (by decide+kernel)) (fun cl C fp s H=>jCJ (i:=0) (j:=1) rfl (show (["number","ways"]:List Str).Nodup by decide+kernel) rfl rfl (by decide+kernel) (by decide+kernel)) (fun cl C fp s H=>kY) (fun cl C fp s H=>(jv 1 rfl (jX (by decide+kernel)))) yI) j8 jK) jK)⟩
def zhW (a c:Addr):Hp->Prop:=fun H=>H a=some (.ext (nlP qLam lamA lamB lamS [] a c))/\H c=some (.ext (ncP qLam c))
theorem zhW.ok (a c:Addr):HpOk (zhW a c):=⟨fun H H' D kvs hD k h=>⟨k _ _ h.1 fun z=>(by rw[<- z,h.1] at hD; cases hD),k _ _ h.2 fun z=>(by rw[<- z,h.2] at hD; cases hD)⟩,fun H H' e h=>⟨e _ _ h.1,e _ _ h.2⟩⟩
theorem jU9 {ch:Ch}(o:ChOk ch)(T:Txt mg):Callee P w K mg base ZT (zhW a c) 1 a (jEP ch (RWay ch)):=by
 refine Callee.imp (jUW (fv:=[]) scLam (fun vs H Q E h=>?_) (fun pm ctv us hl=>?_) fun A outer s H vs Q E hr h=>?_) fun s H _=>⟨⟨fun x y c h=>(by cases h),fun x c h=>(by cases h)⟩,rfl,fun i x v h=>(by cases h)⟩
 ·obtain⟨_,_,_,rfl,_⟩:=h
  rfl
 ·match us,hl with
  | [_],_=>rfl
 ·obtain⟨l,us,m,rfl,hl,hm,hf,av,q⟩:=h
  refine⟨_,(jP1 T).2.h,?_⟩
  have vl:us.length<=33:=by
   rw[av.len]
   have hlow:=jCG hm hf
   refine bb (bw _ _) ?_
   rw[ak,aw hlow]
   exact o.len _ _ (aw hlow)
  refine⟨_,rfl,l,rfl,⟨_,SqL.of hl⟩,jB2 (xs:=us) (fun σ=>∃ v1 v2,σ=[v1,v2]) (mapZ (chAt ch m) fun c=>natV (wk ch (m|||c.2)).length) (mapZ.ok _ _) hl (by rw[ay]; omega) ⟨_,_,rfl⟩ ?_ ?_⟩
  ·rintro j x σ' H' zs hx ⟨v1,v2,rfl⟩ e hz S1 S2 yes no
   obtain⟨c,hc,p,u,rfl,hp,hR⟩:=av.get' hx
   have hR:u=natV (wk ch (m|||c.2)).length:=hR
   subst hR
   refine⟨p,_,rfl,SqT.of (e _ _ hp),rfl,_,_,rfl,_,_,rfl,rfl,?_⟩
   dsimp only [yL]
   rw[aq rfl]
   exact⟨_,rfl,yes _ _ _ ⟨_,_,rfl⟩ (Ext.refl _) (hz.yes hc)⟩
  ·rintro D H' zs hD e nD hz
   have hz:=hz.all (by rw[av.len]; exact ao _)
   have hz2:zs=((chAt ch m).map fun c=>((wk ch (m|||c.2)).length:Int)).map V.int:=by rw[hz,bI]; rfl
   rw[hz2] at hD
   refine⟨D,_,rfl,SqL.of hD,q _ _ ?_ e⟩
   show V.int _=natV _
   rw[jB5 o hm hf,jT7,bI]
   congr 1
   generalize chAt ch m=cs
   induction cs with
   | nil=>rfl
   | cons a r ih=>
    rw[bu,di,bu,di,ih]
    push_cast
    rfl
abbrev nWays:List Str:=["choices"]
theorem scWays:FnScope nWays ["choices"] (j6 qD):=⟨rfl,rfl,rfl,by decide+kernel,rfl,by decide+kernel,by decide+kernel⟩
abbrev TabW (H:Hp)(tb:Addr):Prop:=TabOk H tb lamP qLam
def jHQ:Sp:=spEx (fun x:Addr×Addr×Ch=>ChOk x.2.2) fun x=>jLG x.1 (zhW x.1 x.2.1) x.2.2 (RWay x.2.2)
def jIV (tb:Addr):Sp:=fun vs H Q _=>∃ (L:Addr) (ch:Ch),vs=[.ref L]/\ChAt H L ch/\ChOk ch/\TabW H tb/\∀ (r:Addr) (ns:List Nat) (H':Hp),GotAt H' r ch (RWay ch) ns->ns.Pairwise (· > ·)->MetOk ch ns->ExtT tb H H'->TabW H' tb->H r=none->Q (.ref r) H'
def waysA (T:Txt mg)(CH:PySem.W.CodeHd base c0 tb)(BM:BltAt base mg)(CG:Can P w K mg base "gathered" 4 fG fdG ["choices","at_end","join"] jHQ)(hr:Room 4 (XOf nWays "ways_of" qD P w K mg base f (.ref c0) A outer s H0 E).A): { t:TS // JSs (XOf nWays "ways_of" qD P w K mg base f (.ref c0) A outer s H0 E) (jB qD) t} :=
 have nd:=scWays.nd
 ⟨_,(jD (jW (CG.je hr gD (j3 (jv 0 rfl vL) (j3 je_int (j3 (jUQ rfl CH BM (fun y hy hf=>absurd hf (by revert y; decide+kernel)) rfl) j8 jTF) jR) j4) j4)))⟩
theorem jRY {fd:FuncData}(F:FunC K "ways_of" "ways_of" qD f fd c0)(T:Txt mg)(CH:PySem.W.CodeHd base c0 tb)(BM:BltAt base mg)(CG:Can P w K mg base "gathered" 4 fG fdG ["choices","at_end","join"] jHQ):FnOk P w K mg base CX0 5 f fd ["choices"] (jIV tb):=by
 refine F.ok scWays (fun vs H Q E h=>?_) (fun A outer s H vs Q E hr h=>?_)
 ·obtain⟨_,_,rfl,_⟩:=h
  rfl
 ·obtain⟨L,ch,rfl,hL,o,tab,q⟩:=h
  refine⟨_,(waysA T CH BM CG hr).2.h,?_⟩
  refine⟨_,rfl,tab,fun a c H1 k1 k2 k3 e1 na=>?_⟩
  have hL1:ChAt H1 L ch:=hL.keep (fun b xs h=>e1.at tab h) fun b xs h=>e1.at tab h
  refine⟨(a,c,ch),o,L,_,rfl,hL1,?_,⟨k1,k2⟩,fun r ns H2 got srt mt e2 n2=>?_⟩
  ·show V.int 1=natV _
   rw[jB6]
   rfl
  ·refine q r ns H2 got srt mt (fun b o hb hn=>e2 _ _ (e1 b o hb hn)) (.inr ⟨c,e2 _ _ k3,e2 _ _ k2⟩) ?_
   cases z:H r with
   | none=>rfl
   | some o=>
    by_cases hr:r=tb
    ·rw[hr,k3] at n2
     cases n2
    ·rw[e1 _ _ z hr] at n2
     cases n2
abbrev nMany:List Str:=["box"]
theorem scMany:FnScope nMany ["box"] (j6 sMany):=⟨rfl,rfl,rfl,by decide+kernel,rfl,by decide+kernel,by decide+kernel⟩
def jBO (tb:Addr):Sp:=fun vs H Q _=>∃ (b:Addr) (w:Int) (ms:List Int) (pcs:List (List Int×Int)),vs=[.ref b]/\BoxAt H b w ms pcs/\Good 16 32 w ms pcs/\TabW H tb/\∀ H',ExtT tb H H'->TabW H' tb->Q (natV (wk (chs w.toNat ms pcs) 0).length) H'
def manyA (T:Txt mg)(CC:Can P w K mg base "choices_of" 2 fC fdC ["box"] jAS)(CW:Can P w K mg base "ways_of" 5 fW fdW ["choices"] (jIV tb))(hr:Room 5 (XOf nMany "many" sMany P w K mg base f cdv A outer s H0 E).A): { t:TS // JSs (XOf nMany "many" sMany P w K mg base f cdv A outer s H0 E) (jB sMany) t} :=
 have nd:=scMany.nd
 ⟨_,(jD (jW (jFS (hu_of hr) (CW.je hr gD (j3 (CC.je (hr.mono (by decide)) gD (j3 (jv 0 rfl vL) j8 j4) j4) j8 jF) jF) je_int jE)))⟩
theorem jS1 {fd:FuncData}(F:Fun K "many" "many" sMany f fd)(T:Txt mg)(CC:Can P w K mg base "choices_of" 2 fC fdC ["box"] jAS)(CW:Can P w K mg base "ways_of" 5 fW fdW ["choices"] (jIV tb)):FnOk P w K mg base CX0 6 f fd ["box"] (jBO tb):=by
 refine F.ok scMany (fun vs H Q E h=>?_) (fun cdv A outer s H vs Q E hr h=>?_)
 ·obtain⟨_,_,_,_,rfl,_⟩:=h
  rfl
 ·obtain⟨b,wi,ms,pcs,rfl,hB,g,tab,q⟩:=h
  refine⟨_,(manyA T CC CW hr).2.h,?_⟩
  refine⟨_,rfl,b,wi,ms,pcs,rfl,hB,g,fun L H1 hL1 e1=>?_⟩
  refine⟨L,_,rfl,hL1,yZ g,tab.ext e1,fun r ns H2 got srt mt e2 t2 n2=>?_⟩
  obtain⟨u,dg,ru⟩:=got0 got srt mt
  have ru:u=natV _:=ru
  subst ru
  exact⟨r,_,rfl,dg,q H2 ((ExtT.of e1).trans e2) t2⟩
end
end Eo
end
section
namespace L2
open PySem
theorem Callee.imp2 {P:Program}{w:World}{K:W.Frag}{mg:Str->Option Value}{base:Heap}{Z:Shared->Hp->Prop}{zh zh':Hp->Prop}{k:Nat}{a:Addr}{sp sp':Sp}(C:Callee P w K mg base Z zh k a sp)(h1:∀ H,zh' H->zh H)(h2:∀ vs H Q E,zh' H->sp' vs H Q E->sp vs H Q E):Callee P w K mg base Z zh' k a sp':=
 ⟨fun A outer s H e z=>C.fn A outer s H e (h1 H z),fun A outer s H us vs Q E hr he hz zh r q=>C.run A outer s H us vs Q E hr he hz (h1 H zh) r (h2 _ _ _ _ zh q)⟩
end L2
namespace Eo
open PySem L2
def wgt (pcs:List (List Int×Int))(k:Int):Int:=(pcs.getD k.toNat ([],0)).2
def wt (pcs:List (List Int×Int))(x:List Int):Int:=(x.map (wgt pcs)).sum
def minW (pcs:List (List Int×Int)):List (List Int)->Option (List Int)
 | []=>none
 | x::r=>match minW pcs r with
  | none=>some x
  | some y=>if wt pcs y<wt pcs x then some y else some x
def qJ (pcs:List (List Int×Int)):Option (List Int)->Option (List Int)->Option (List Int)
 | none,b=>b
 | some x,none=>some x
 | some x,some y=>if wt pcs y<wt pcs x then some y else some x
theorem minW_none {pcs:List (List Int×Int)}{l:List (List Int)} :minW pcs l=none↔l=[]:=by
 cases l with
 | nil=>exact⟨fun _=>rfl,fun _=>rfl⟩
 | cons x r=>
  refine⟨fun h=>?_,fun h=>(by cases h)⟩
  unfold minW at h
  split at h
  ·cases h
  ·split at h <;> cases h
theorem jI3 (pcs:List (List Int×Int))(a b c:Option (List Int)):qJ pcs (qJ pcs a b) c=qJ pcs a (qJ pcs b c):=by
 cases a with
 | none=>rfl
 | some x=>cases b with
  | none=>rfl
  | some y=>cases c with
   | none=>
    show qJ pcs (if wt pcs y<wt pcs x then some y else some x) none=if wt pcs y<wt pcs x then some y else some x
    split <;> rfl
   | some z=>
    show qJ pcs (if wt pcs y<wt pcs x then some y else some x) (some z)=qJ pcs (some x) (if wt pcs z<wt pcs y then some z else some y)
    by_cases h1:wt pcs y<wt pcs x <;> by_cases h2:wt pcs z<wt pcs y <;> by_cases h3:wt pcs z<wt pcs x <;> simp only [h1,h2,h3,gj,jm,qJ] <;> first | rfl | omega
theorem jB9 (pcs:List (List Int×Int))(x:List Int)(r:List (List Int)):minW pcs (x::r)=qJ pcs (some x) (minW pcs r):=by
 rw[minW]
 cases minW pcs r <;> rfl
theorem jE0 (pcs:List (List Int×Int)):∀ (a b:List (List Int)),minW pcs (a++b)=qJ pcs (minW pcs a) (minW pcs b)
 | [],b=>rfl
 | x::r,b=>by rw[iq,jB9,jE0 pcs r b,jB9,jI3]
theorem jKW (pcs:List (List Int×Int))(c:Int)(x:List Int):wt pcs (c::x)=wgt pcs c+wt pcs x:=by
 unfold wt
 rw[bu,di]
theorem jJD (pcs:List (List Int×Int))(c:Int):∀ (l:List (List Int)),minW pcs (l.map fun x=>if c<0 then x else c::x)=(minW pcs l).map fun x=>if c<0 then x else c::x
 | []=>rfl
 | x::r=>by
  rw[bu,jB9,jB9,jJD pcs c r]
  cases minW pcs r with
  | none=>rfl
  | some y=>
   show (if wt pcs (if c<0 then y else c::y)<wt pcs (if c<0 then x else c::x) then _ else _)=Option.map _ (if wt pcs y<wt pcs x then some y else some x)
   by_cases hc:c<0
   ·simp only [hc,gj]
    split <;> rfl
   ·simp only [hc,jm,jKW]
    by_cases h:wt pcs y<wt pcs x
    ·rw[aq (by omega),aq h]
     rfl
    ·rw[am (by omega),am h]
     rfl
theorem jCC {pcs:List (List Int×Int)}{x:List Int} :∀ {l:List (List Int)},minW pcs l=some x->x∈l/\∀ y∈l,wt pcs x<=wt pcs y
 | [],h=>by cases h
 | z::r,h=>by
  rw[jB9] at h
  cases hr:minW pcs r with
  | none=>
   rw[hr] at h
   have h:some z=some x:=h
   cases h
   rw[minW_none.mp hr]
   exact⟨aE .., fun y hy=>by rw[aO] at hy; rw[hy]; exact cI _⟩
  | some y=>
   rw[hr] at h
   obtain⟨i1,i2⟩:=jCC hr
   have h:(if wt pcs y<wt pcs z then some y else some z)=some x:=h
   split at h
   ·cases h
    refine⟨aK _ i1,fun u hu=>?_⟩
    rcases aG.mp hu with q | q
    ·rw[q]; omega
    ·exact i2 u q
   ·cases h
    refine⟨aE .., fun u hu=>?_⟩
    rcases aG.mp hu with q | q
    ·rw[q]; exact cI _
    ·have:=i2 u q
     omega
def LtAt (pcs:List (List Int×Int))(H:Hp)(v:V)(o:Option (List Int)):Prop:=match o with
 | none=>v= .non
 | some x=>∃ q r,v= .ref q/\H q=some (.tup [.int (wt pcs x), .ref r])/\H r=some (.tup (x.map V.int))
theorem LtAt.mono {pcs:List (List Int×Int)}{H H':Hp}{v:V}{o:Option (List Int)}(t:Tups H H')(h:LtAt pcs H v o):LtAt pcs H' v o:=by
 cases o with
 | none=>exact h
 | some x=>obtain⟨q,r,e,h1,h2⟩:=h; exact⟨q,r,e,t _ _ h1,t _ _ h2⟩
def RLt (pcs:List (List Int×Int))(ch:Ch):RepT:=fun m H v=>LtAt pcs H v (minW pcs (wk ch m))
theorem RLt.ok (pcs:List (List Int×Int))(ch:Ch):RepOk (RLt pcs ch):=fun m v=>⟨fun H H' D kvs hD k h=>h.mono fun q xs hq=>k _ _ hq fun z=>(by rw[z,hD] at hq; cases hq),fun H H' e h=>h.mono e.tups⟩
def preW (ch:Ch)(m i:Nat):List (List Int):=wJ (((chAt ch m).take i).map fun c=>(c.1,wk ch (m|||c.2)))
theorem jLP {ch:Ch}{m i:Nat}{c:Int×Nat}(h:(chAt ch m)[i]?=some c):preW ch m (i+1)=preW ch m i++(wk ch (m|||c.2)).map fun x=>if c.1<0 then x else c.1::x:=by
 unfold preW
 rw[aV,h,aJ,jG7]
 congr 1
 unfold wJ
 exact fZ _ _
theorem jOB {ch:Ch}{m:Nat}(o:ChOk ch)(h:m<2 ^ ch.length)(hn:m≠fullN ch):preW ch m (chAt ch m).length=wk ch m:=by
 unfold preW
 rw[aZ,jB5 o h hn]
def ifOf:Stmt->List Stmt
 | .If _ b _ _=>b
 | _=> []
structure LI where
 a:Addr
 c:Addr
 b:Addr
 w:Int
 ms:List Int
 pcs:List (List Int×Int)
 g:Good 16 32 w ms pcs
abbrev LI.ch (i:LI):Ch:=chs i.w.toNat i.ms i.pcs
abbrev qC:Stmt:=(jB yG).getD 0 (.Pass ⟨0,0,0,0⟩)
abbrev pLBeh:Pos:=match qC with
 | .FunctionDef _ _ _ _ _ _ _ _ _ p=>p
 | _=>⟨0,0,0,0⟩
abbrev qLB:Str:= "lightest.<locals>.lightest_behind"
abbrev nLBeh:List Str:=["behind","box","best","number","found","weight"]
theorem scLBeh:NScope nLBeh ["behind"] ["box"] (j6 qC):=⟨rfl,rfl,rfl,by decide+kernel,rfl,by decide+kernel,by decide+kernel,fun x h=>by
  have hl:∀ y∈(j6 qC).names,y.2= .free->y.1= "box" :=by decide+kernel
  rw[aO]
  exact hl _ (ck h) rfl,by decide+kernel⟩
def spLB:List V->Sp:=fun fv vs H Q E=>∃ i:LI,fv=[.ref i.b]/\BoxAt H i.b i.w i.ms i.pcs/\jEP i.ch (RLt i.pcs i.ch) vs H Q E
section
variable {P:Program}{w:World}{K:W.Frag}{mg:Str->Option Value}{base:Heap}
variable {f fG fC a c c0 tb:Addr}{fdG fdC:FuncData}{cd:Value}{cl:List (Str×Addr)}{A:Around}{outer:List Env}{s:Shared}{H0:Hp}{E:XK}
def lbInA (T:Txt mg): { t:TS // JSs (cxN P w K mg base nLBeh qLB (j6 qC) f cd cl A outer s H0) ((ifOf ((jCH ((jB qC).getD 1 (.Pass ⟨0,0,0,0⟩))).getD 0 (.Pass ⟨0,0,0,0⟩))).drop 1) t} :=
 have nd:=scLBeh.nd
 ⟨_,(jD (yC (jt_w (jw_or (jT jLV (jv 2 rfl (qA (by decide+kernel))) (jEY) (jV _)) (jQD (jT op_lt (jv 5 rfl (qA (by decide+kernel))) (jL jO (jv 2 rfl (qA (by decide+kernel))) (je_int) jE) (jV _))))) (jD (jQ (i:=2) nd rfl (loc_n (by decide+kernel)) (y8 (j3 (jv 5 rfl (qA (by decide+kernel))) (j3 (jMX (jT op_ge (jv 3 rfl (qA (by decide+kernel))) (je_int) (jV _)) (kU jFG (y8 (j3 (jv 3 rfl (qA (by decide+kernel))) j8 j4)) (jL jO (jv 4 rfl (qA (by decide+kernel))) (je_int) jE)) (jL jO (jv 4 rfl (qA (by decide+kernel))) (je_int) jE)) j8 jTG) j4)) jPY)) kI))⟩
def jSF (T:Txt mg): { t:TS // JSs (cxN P w K mg base nLBeh qLB (j6 qC) f cd cl A outer s H0) (jCH ((jB qC).getD 1 (.Pass ⟨0,0,0,0⟩))) t} :=
 have nd:=scLBeh.nd
 ⟨_,(jD (yC (jT jRS (jv 4 rfl (qA (by decide+kernel))) (jEY) (jV _)) (jC (jQ (i:=5) nd rfl (loc_n (by decide+kernel)) (kU y0 (jL jO (jv 4 rfl (qA (by decide+kernel))) (je_int) jE) (jMX (jT op_ge (jv 3 rfl (qA (by decide+kernel))) (je_int) (jV _)) (jL jO (jL jO (jL jO (jv 1 rfl (jT8 (by decide+kernel))) (je_int) jE) (jv 3 rfl (qA (by decide+kernel))) yQ) (je_int) jE) (je_int))) jIU) (lbInA T).2) kI))⟩
def lbehA (T:Txt mg): { t:TS // JSs (cxN P w K mg base nLBeh qLB (j6 qC) f cd cl A outer s H0) (jB qC) t} :=
 have nd:=scLBeh.nd
 ⟨_,(jC (jQ (i:=2) nd rfl (loc_n (by decide+kernel)) (jEY) jIT) (jC (jBU cf rfl (yS (jv 0 rfl (qA (by decide+kernel)))) (jP4 (i:=3) (j:=4) nd rfl rfl (by decide+kernel) (by decide+kernel)) (jSF T).2 yI) (jD (jW (jv 2 rfl (qA (by decide+kernel)))))))⟩
theorem lb_in (T:Txt mg){D:Ends}{H:Hp}{l b pq pr:Addr}{ve:V}{c:Int}{pcs:List (List Int×Int)}{y:List Int}{ob:Option (List Int)}(hpq:H pq=some (.tup [.int (wt pcs y), .ref pr]))(hpr:H pr=some (.tup (y.map V.int)))(yl:y.length<=16)(hve:LtAt pcs H ve ob)
  (nx:∀ H' ve',Ext H H'->LtAt pcs H' ve' (qJ pcs ob (some (if c<0 then y else c::y)))->D.nx [some (.ref l),some (.ref b),some ve',some (.int c),some (.ref pq),some (.int (wt pcs (if c<0 then y else c::y)))] H'):
  (lbInA (P:=P) (w:=w) (K:=K) (mg:=mg) (base:=base) (f:=f) (cd:=cd) (cl:=cl) (A:=A) (outer:=outer) (s:=s) (H0:=H0) T).1 D [some (.ref l),some (.ref b),some ve,some (.int c),some (.ref pq),some (.int (wt pcs (if c<0 then y else c::y)))] H:=by
 refine⟨_,rfl,rfl,_,rfl,?_⟩
 rcases ob with _ | z
 case' none=>
  have hve:ve= .non:=hve
  subst hve
  have ej:qJ pcs none (some (if c<0 then y else c::y))=some (if c<0 then y else c::y):=rfl
  refine iteT (iteT ?_)
 case' some=>
  obtain⟨zq,zr,rfl,hz1,hz2⟩:=hve
  refine iteF ⟨_,rfl,_,rfl,zq,_,0,_,rfl,rfl,SqT.of hz1,rfl,_,_,rfl,rfl,_,rfl,?_⟩
  by_cases hlt:wt pcs (if c<0 then y else c::y)<wt pcs z
  case' neg=>
   rw[aH hlt]
   exact iteF (nx H (.ref zq) (Ext.refl _) (by
    show LtAt pcs H (.ref zq) (if _ then _ else _)
    rw[am hlt]
    exact⟨zq,zr,rfl,hz1,hz2⟩))
  rw[ar hlt]
  have ej:qJ pcs (some z) (some (if c<0 then y else c::y))=some (if c<0 then y else c::y):=aq hlt
  refine iteT ?_
 all_goals
  rw[ej] at nx
  refine⟨_,rfl,_,rfl,_,_,rfl,rfl,_,rfl,?_⟩
  by_cases hc:c<0
  ·have h0:decide ((0:Int)<=c)=false:=aH (by omega)
   rw[h0]
   refine iteF ⟨_,rfl,pq,_,1,_,rfl,rfl,SqT.of hpq,rfl,by show (2:Nat)<=_; decide,fun r4 H4 d4 e4=>nx H4 (.ref r4) e4 ⟨r4,pr,rfl,d4,?_⟩⟩
   rw[aq hc]
   exact e4 _ _ hpr
  ·have h0:decide ((0:Int)<=c)=true:=ar (by omega)
   rw[h0]
   refine iteT ⟨_,rfl,by show (1:Nat)<=_; decide,fun r2 H2 d2 e2=>⟨_,rfl,pq,_,1,_,rfl,rfl,SqT.of (e2 _ _ hpq),rfl,r2,pr,_,_,rfl,rfl,d2,e2 _ _ hpr,by rw[ae,ay]; show 1+_<=_; omega,fun r3 H3 d3 e3=>⟨by show (2:Nat)<=_; decide,fun r4 H4 d4 e4=>nx H4 (.ref r4) ((e2.trans e3).trans e4) ⟨r4,r3,rfl,d4,?_⟩⟩⟩⟩
   rw[am hc]
   exact e4 _ _ d3
theorem jS2 (T:Txt mg):FnN P w K mg base 1 "lightest_behind" qLB (jG qC) (jB qC) (j6 qC) ["behind"] ["box"] spLB:=by
 refine jQL scLBeh (fun fv vs H Q E h=>?_) (fun cl doc pm c ctv us hl=>?_) fun A outer s H a c cl vs fv Q E hr h=>?_
 ·obtain⟨i,rfl,_,_,_,_,rfl,_⟩:=h
  rfl
 ·match us,hl with
  | [_],_=>rfl
 ·obtain⟨⟨_,_,b,w,ms,pcs,g⟩,rfl,hB,l,us,m,rfl,hl,hm,hf,av,q⟩:=h
  refine⟨_,(lbehA T).2.h,?_⟩
  have o:ChOk (chs w.toNat ms pcs):=yZ g
  obtain⟨qm,qp,ps,b1,b2,b3,b4⟩:=id hB.ex
  have gpl:=g.pl
  refine⟨_,rfl,l,rfl,⟨_,SqL.of hl⟩,jDK (xs:=us) (fun i σ H'=>Ext H H'/\∃ ve:V,(∃ v3 v4 v5,σ=[some (.ref l),some (.ref b),some ve,v3,v4,v5])/\LtAt pcs H' ve (minW pcs (preW (chs w.toNat ms pcs) m i))) ⟨Ext.refl _, .non,⟨_,_,_,rfl⟩,rfl⟩ (fun i σ H' _ ⟨e,_⟩=>SqL.of (e _ _ hl)) ?_ ?_⟩
  ·rintro i x σ H' hx ⟨e,ve,⟨v3,v4,v5,rfl⟩,hve⟩
   obtain⟨c,hc,p,u,rfl,hp,hR⟩:=av.get' hx
   obtain⟨m1,m2,m3,m4,m5⟩:=o.mem hm hf (az hc)
   have hsu:=jLP hc
   have hR:LtAt pcs H' u (minW pcs (wk (chs w.toNat ms pcs) (m|||c.2))):=LtAt.mono e.tups hR
   have mup:=(o.up hm hf (az hc)).2
   have hmin:minW pcs (preW (chs w.toNat ms pcs) m (i+1))=qJ pcs (minW pcs (preW (chs w.toNat ms pcs) m i)) ((minW pcs (wk (chs w.toNat ms pcs) (m|||c.2))).map fun x=>if c.1<0 then x else c.1::x):=by
    rw[hsu,jE0,jJD]
   refine⟨p,_,rfl,SqT.of (e _ _ hp),rfl,_,_,rfl,_,_,rfl,rfl,?_⟩
   refine⟨_,rfl,rfl,_,rfl,?_⟩
   cases hW:minW pcs (wk (chs w.toNat ms pcs) (m|||c.2)) with
   | none=>
    rw[hW] at hR hmin
    have hR:u= .non:=hR
    subst hR
    refine iteF ⟨e,ve,⟨_,_,_,rfl⟩,?_⟩
    rw[hmin]
    revert hve
    cases minW pcs (preW (chs w.toNat ms pcs) m i) with
    | none=>exact id
    | some z=>exact id
   | some y=>
    rw[hW] at hR hmin
    obtain⟨pq,pr,rfl,hpq,hpr⟩:=hR
    obtain⟨yb,yl⟩:=jIM o _ mup y (jCC hW).1
    have w16:=o.w
    refine iteT ⟨_,rfl,pq,_,0,_,rfl,rfl,SqT.of hpq,rfl,_,rfl,_,_,rfl,rfl,_,rfl,?_⟩
    have y16:y.length<=16:=by omega
    refine ite2 (fun h0=>?_) (fun h0=>?_)
    ·have h0:0<=c.1:=aF h0
     have hlt:=jV0 hm hf (az hc)
     obtain⟨pv,hpv,pa,pw,rfl,ha1,ha2⟩:=b4.get (k:=c.1.toNat) (by omega)
     have at1:atI ps c.1=some (.ref pa):=by
      have:=yD hpv
      rwa [show ((c.1.toNat:Nat):Int)=c.1 by omega] at this
     refine⟨_,rfl,b,_,2,_,rfl,rfl,SqT.of (e _ _ b1),rfl,_,rfl,qp,_,c.1,_,rfl,rfl,SqT.of (e _ _ b3),at1,pa,_,1,_,rfl,rfl,SqT.of (e _ _ ha1),rfl,_,_,rfl,rfl,?_⟩
     have ew:wt pcs y+(pcs.getD c.1.toNat ([],0)).2=wt pcs (if c.1<0 then y else c.1::y):=by
      rw[am (by omega),jKW]
      unfold wgt
      omega
     show kL 5 (V.int (wt pcs y+(pcs.getD c.1.toNat ([],0)).2)) _ _ _
     rw[ew]
     exact lb_in T hpq hpr y16 hve fun H2 ve' e2 h2=>⟨e.trans e2,ve',⟨_,_,_,rfl⟩,by rw[hmin]; exact h2⟩
    ·have h0:c.1<0:=Int.not_le.mp fun z=>h0 (ar z)
     refine⟨_,_,rfl,rfl,?_⟩
     have ew:wt pcs y+0=wt pcs (if c.1<0 then y else c.1::y):=by
      rw[aq h0]
      omega
     show kL 5 (V.int (wt pcs y+0)) _ _ _
     rw[ew]
     exact lb_in T hpq hpr y16 hve fun H2 ve' e2 h2=>⟨e.trans e2,ve',⟨_,_,_,rfl⟩,by rw[hmin]; exact h2⟩
  ·rintro σ H' ⟨e,ve,⟨v3,v4,v5,rfl⟩,hve⟩
   rw[av.len,jOB o hm hf] at hve
   exact⟨_,rfl,q ve H' hve e⟩
def zhL (cl:List (Str×Addr))(i:LI):Hp->Prop:=fun H=>(H i.a=some (.ext (nfP "lightest_behind" qLB (jG qC) (jB qC) (j6 qC) cl i.a i.c))/\H i.c=some (.ext (ncP qLB i.c)))/\BoxAt H i.b i.w i.ms i.pcs
theorem zhL.ok (cl:List (Str×Addr))(i:LI):HpOk (zhL cl i):=⟨fun H H' D kvs hD k h=>⟨⟨k _ _ h.1.1 fun z=>(by rw[<- z,h.1.1] at hD; cases hD),k _ _ h.1.2 fun z=>(by rw[<- z,h.1.2] at hD; cases hD)⟩,h.2.mono fun b xs hb=>k _ _ hb fun z=>(by rw[z,hD] at hb; cases hb)⟩,fun H H' e h=>⟨⟨e _ _ h.1.1,e _ _ h.1.2⟩,h.2.mono e.tups⟩⟩
theorem jHW (T:Txt mg)(cl:List (Str×Addr))(i:LI):Callee P w K mg base (ZC cl ["box"] [.ref i.b]) (zhL cl i) 1 i.a (jEP i.ch (RLt i.pcs i.ch)):=
 Callee.imp2 (Callee.ofN (jS2 T)) (fun H h=>h.1) fun vs H Q E zh q=>⟨i,rfl,zh.2,q⟩
abbrev jJC:List Str:=["box","lightest_behind","told"]
theorem scLight:FnScope jJC ["box"] (j6 yG):=⟨rfl,rfl,rfl,by decide+kernel,rfl,by decide+kernel,by decide+kernel⟩
abbrev TabL (H:Hp)(tb:Addr):Prop:=TabOk H tb pLBeh qLB
def jLF (cl:List (Str×Addr))(i:LI):Sp:=jLG i.a (zhL cl i) i.ch (RLt i.pcs i.ch)
theorem fsLB:∀ x∈(["box"]:List Str),(j6 qC).names.lookup x=some .free:=by decide+kernel
theorem jUU:FsAt (XOf jJC "lightest" yG P w K mg base f (.ref c0) A outer s H0 E) ["box"] [0]:=⟨rfl,fun k x h=>by
 match k,h with
 | 0,h=>
  cases h
  exact⟨0,rfl,rfl, .inl (show (j6 yG).names.lookup (("box" :String):Str)=some .cell by decide+kernel)⟩
 | k+1,h=>cases h⟩
def jAK (tb:Addr):Sp:=fun vs H Q _=>∃ (b:Addr) (w:Int) (ms:List Int) (pcs:List (List Int×Int)),vs=[.ref b]/\BoxAt H b w ms pcs/\Good 16 32 w ms pcs/\TabL H tb/\
 (minW pcs (wk (chs w.toNat ms pcs) 0)=none->∀ H',ExtT tb H H'->TabL H' tb->Q .non H')/\∀ x,minW pcs (wk (chs w.toNat ms pcs) 0)=some x->∀ r q H',H' r=some (.tup [.int (wt pcs x), .ref q])->H' q=some (.tup ((srt x).map V.int))->ExtT tb H H'->TabL H' tb->Q (.ref r) H'
def jUH (T:Txt mg)(CH:PySem.W.CodeHd base c0 tb)(BM:BltAt base mg)(CC:Can P w K mg base "choices_of" 2 fC fdC ["box"] jAS)(FG:∀ cl i,FnZ P w K mg base CX0 (ZC cl ["box"] [.ref i.b]) 4 fG fdG ["choices","at_end","join"] (jLF cl i))(MG:mg "gathered" =some (.ref fG))(KG:keepIn K (.ref fG)=true)(BG:Binds K fdG ["choices","at_end","join"] [])(hr:Room 4 (XOf jJC "lightest" yG P w K mg base f (.ref c0) A outer s H0 E).A): { t:TS // JSs (XOf jJC "lightest" yG P w K mg base f (.ref c0) A outer s H0 E) (jB yG) t} :=
 have nd:=scLight.nd
 ⟨_,(jC (jQG (j:=1) nd rfl lL rfl CH BM (jS (psc:=j6 yG) (by decide+kernel)) rfl rfl) (jC (jQ (i:=2) nd rfl lL (jFS (hu_of hr) (jP9 (G:=fun (i:LI) σ=>jF9 σ [0] [.ref i.b]) (FG _) hr gD MG KG BG (fun i pins s σ H I q=>⟨I.clOk (jS (psc:=j6 yG) (by decide+kernel)),I.fvOk (jS (psc:=j6 yG) (by decide+kernel)) fsLB jUU q⟩) (j3 (CC.je (hr.mono (by decide)) gD (j3 (jv 0 rfl vC) j8 j4) j4) (j3 (y8 (j3 (je_int) (j3 (y8 j8) j8 jD7) jR)) (j3 (jv 1 rfl vL) j8 j4) jD7) jF) jF) je_int jE) jIS) (jC (yC (jT jLV (jv 2 rfl vL) (jEY) (jV _)) (jD (jW (jEY))) kI) (jD (jW (y8 (j3 (jL jO (jv 2 rfl vL) (je_int) jE) (j3 (kE jM gD T.tuple (by decide+kernel) (j3 (jH jBB gD T.sorted (by decide+kernel) (j3 (jL jO (jv 2 rfl vL) (je_int) jE) j8 kD) kD) j8 jF) jF) j8 jF) kD)))))))⟩
set_option maxHeartbeats 4000000 in
theorem jOO {fd:FuncData}(F:FunC K "lightest" "lightest" yG f fd c0)(T:Txt mg)(CH:PySem.W.CodeHd base c0 tb)(BM:BltAt base mg)(CC:Can P w K mg base "choices_of" 2 fC fdC ["box"] jAS)(FG:∀ cl i,FnZ P w K mg base CX0 (ZC cl ["box"] [.ref i.b]) 4 fG fdG ["choices","at_end","join"] (jLF cl i))(MG:mg "gathered" =some (.ref fG))(KG:keepIn K (.ref fG)=true)(BG:Binds K fdG ["choices","at_end","join"] []):FnOk P w K mg base CX0 5 f fd ["box"] (jAK tb):=by
 refine F.ok scLight (fun vs H Q E h=>?_) (fun A outer s H vs Q E hr h=>?_)
 ·obtain⟨_,_,_,_,rfl,_⟩:=h
  rfl
 ·obtain⟨b,wi,ms,pcs,rfl,hB,g,tab,q0,q1⟩:=h
  refine⟨_,(jUH T CH BM CC FG MG KG BG hr).2.h,?_⟩
  refine⟨tab,fun a c H1 k1 k2 k3 e1 na=>?_⟩
  have tu1:Tups H H1:=fun b xs h=>e1.at tab h
  have hB1:=hB.mono tu1
  have tab1:TabL H1 tb:= .inr ⟨c,k3,k2⟩
  refine⟨_,rfl,b,wi,ms,pcs,rfl,hB1,g,fun L H2 hL2 e2=>?_⟩
  refine⟨by show (0:Nat)<=_; decide,fun t0 H3 d3 e3=>⟨by show (2:Nat)<=_; decide,fun t1 H4 d4 e4=>?_⟩⟩
  have E24:=(e2.trans e3).trans e4
  refine⟨_,rfl,⟨a,c,b,wi,ms,pcs,g⟩,rfl,L, .ref t1,rfl,hL2.ext (e3.trans e4),?_,⟨⟨E24 _ _ k1,E24 _ _ k2⟩,hB1.mono E24.tups⟩,fun r ns H5 got srt' mt e5 n5=>?_⟩
  ·show LtAt pcs H4 (.ref t1) (minW pcs (wk _ (fullN _)))
   rw[jB6]
   exact⟨t1,t0,rfl,d4,e4 _ _ d3⟩
  obtain⟨u,dg,ru⟩:=got0 got srt' mt
  refine⟨r,u,rfl,dg,?_⟩
  have E25:=E24.trans e5
  have x5:ExtT tb H H5:=fun b o hb hn=>E25 _ _ (e1 b o hb hn)
  have tab5:TabL H5 tb:=tab1.ext E25
  refine⟨_,rfl,rfl,_,rfl,?_⟩
  have ru:LtAt pcs H5 u (minW pcs (wk (chs wi.toNat ms pcs) 0)):=ru
  cases hW:minW pcs (wk (chs wi.toNat ms pcs) 0) with
  | none=>
   rw[hW] at ru
   have ru:u= .non:=ru
   subst ru
   exact iteT (q0 hW H5 x5 tab5)
  | some x=>
   rw[hW] at ru
   obtain⟨p,pr,rfl,hp,hpr⟩:=ru
   have o:ChOk (chs wi.toNat ms pcs):=yZ g
   have xl:=(jIM o 0 (dB _) x (jCC hW).1).2
   have w16:=o.w
   refine iteF ⟨_,rfl,p,_,0,_,rfl,rfl,SqT.of hp,rfl,_,rfl,p,_,1,_,rfl,rfl,SqT.of hp,rfl,pr,x,rfl,hpr,by omega,fun l6 ns6 hl6 sr pm=>⟨l6,_,rfl, .inl ⟨SqL.of j5,fun l7 hl7=>?_⟩⟩⟩
   have e6:Ext H5 (L2.upd H5 l6 (.lst (ns6.map V.int))):=(Ext.refl _).new hl6 _
   have e7:Ext H5 (L2.upd (L2.upd H5 l6 (.lst (ns6.map V.int))) l7 (.tup (ns6.map V.int))):=e6.new hl7 _
   have d7:(L2.upd (L2.upd H5 l6 (.lst (ns6.map V.int))) l7 (.tup (ns6.map V.int))) l7=some (.tup (ns6.map V.int)):=j5
   generalize L2.upd (L2.upd H5 l6 (.lst (ns6.map V.int))) l7 (.tup (ns6.map V.int))=H7 at e7 d7
   refine⟨by show (2:Nat)<=_; decide,fun r8 H8 d8 e8=>q1 x hW r8 l7 H8 d8 (by rw[e8 _ _ d7,jDR sr pm]) (fun b o hb hn=>e8 _ _ (e7 _ _ (x5 b o hb hn))) ((tab5.ext e7).ext e8)⟩
end
theorem TabOk.extO {H H':Hp}{T U:Addr}{pos:Pos}{q:Str}(t:TabOk H T pos q)(ne:T≠U)(u:∀ c,H c=some (.ext (ncP q c))->c≠U)(e:ExtT U H H'):TabOk H' T pos q:=by
 rcases t with h | ⟨c,h,h2⟩
 ·exact .inl (e _ _ h ne)
 ·exact .inr ⟨c,e _ _ h ne,e _ _ h2 (u c h2)⟩
structure Tb3 (H:Hp)(tb1 tb2 tb3:Addr):Prop where
 p:TabP H tb1
 w:TabW H tb2
 l:TabL H tb3
 n12:tb1≠tb2
 n13:tb1≠tb3
 n23:tb2≠tb3
def Ex3 (tb1 tb2 tb3:Addr)(H H':Hp):Prop:=∀ b o,H b=some o->b≠tb1->b≠tb2->b≠tb3->H' b=some o
section
variable {H H' H1 H2:Hp}{tb1 tb2 tb3:Addr}
theorem Tb3.ext (t:Tb3 H tb1 tb2 tb3)(e:Ext H H'):Tb3 H' tb1 tb2 tb3:=⟨t.p.ext e,t.w.ext e,t.l.ext e,t.n12,t.n13,t.n23⟩
theorem Tb3.extP (t:Tb3 H tb1 tb2 tb3)(e:ExtT tb1 H H')(p:TabP H' tb1):Tb3 H' tb1 tb2 tb3:=⟨p,TabOk.extO t.w t.n12.symm (fun c h=>t.p.ne h (by intro _ z; cases z)) e,TabOk.extO t.l t.n13.symm (fun c h=>t.p.ne h (by intro _ z; cases z)) e,t.n12,t.n13,t.n23⟩
theorem Tb3.extW (t:Tb3 H tb1 tb2 tb3)(e:ExtT tb2 H H')(p:TabW H' tb2):Tb3 H' tb1 tb2 tb3:=⟨TabOk.extO t.p t.n12 (fun c h=>t.w.ne h (by intro _ z; cases z)) e,p,TabOk.extO t.l t.n23.symm (fun c h=>t.w.ne h (by intro _ z; cases z)) e,t.n12,t.n13,t.n23⟩
theorem Tb3.extL (t:Tb3 H tb1 tb2 tb3)(e:ExtT tb3 H H')(p:TabL H' tb3):Tb3 H' tb1 tb2 tb3:=⟨TabOk.extO t.p t.n13 (fun c h=>t.l.ne h (by intro _ z; cases z)) e,TabOk.extO t.w t.n23 (fun c h=>t.l.ne h (by intro _ z; cases z)) e,p,t.n12,t.n13,t.n23⟩
theorem Ex3.of (e:Ext H H'):Ex3 tb1 tb2 tb3 H H':=fun b o h _ _ _=>e b o h
theorem Ex3.ofP (e:ExtT tb1 H H'):Ex3 tb1 tb2 tb3 H H':=fun b o h n _ _=>e b o h n
theorem Ex3.ofW (e:ExtT tb2 H H'):Ex3 tb1 tb2 tb3 H H':=fun b o h _ n _=>e b o h n
theorem Ex3.ofL (e:ExtT tb3 H H'):Ex3 tb1 tb2 tb3 H H':=fun b o h _ _ n=>e b o h n
theorem Ex3.trans (a:Ex3 tb1 tb2 tb3 H H1)(b:Ex3 tb1 tb2 tb3 H1 H2):Ex3 tb1 tb2 tb3 H H2:=fun c o h n m k=>b c o (a c o h n m k) n m k
theorem Ex3.at (e:Ex3 tb1 tb2 tb3 H H')(t:Tb3 H tb1 tb2 tb3){b:Addr}{o:HO}(h:H b=some o)(ho:∀ ps,o≠ .tbl ps:=by intro _ z; cases z):H' b=some o:=e b o h (t.p.ne h ho) (t.w.ne h ho) (t.l.ne h ho)
theorem Ex3.tups (e:Ex3 tb1 tb2 tb3 H H')(t:Tb3 H tb1 tb2 tb3):Tups H H':=fun b xs h=>e.at t h
theorem Ex3.sq {K:W.Frag}{a:Addr}{xs:List V}(t:Tb3 H tb1 tb2 tb3)(e:Ex3 tb1 tb2 tb3 H H')(h:SqL K H a xs):SqL K H' a xs:=by
 rcases h with h | h
 ·rcases h with h | ⟨o,h⟩
  ·exact .inl (.inl (e.at t h))
  ·exact .inl (.inr ⟨o,e.at t h⟩)
 ·exact .inr h
end
theorem jE3 {H:Hp} :∀ {us:List V}{ws:List (List Int)},LsAt H us ws->TsAt H (ws.map fun x=>Tr.tup (x.map Tr.int)) us
 | [],[],_=>rfl
 | v::us,x::ws,⟨⟨a,e,h⟩,r⟩=>⟨v,us,rfl,⟨a,_,e,h,jQJ x⟩,jE3 r⟩
theorem jFJ:∀ (ws:List (List Int)),deps (ws.map fun x=>Tr.tup (x.map Tr.int))<=100
 | []=>by show (0:Nat)<=100; decide
 | x::ws=>by
  refine Nat.max_le.mpr ⟨?_,jFJ ws⟩
  show deps (x.map Tr.int)+1<=100
  rw[jH3]
  decide
theorem jQ8 (ws:List (List Int)):eqTs (ws.map fun x=>Tr.tup (x.map Tr.int)) []=decide (ws=[]):=by
 cases ws <;> rfl
def lsZ {α:Type}(l:List α)(p:α->Bool)(f:α->List Int):Hp->List V->Nat->Prop:=fun H zs j=>LsAt H zs (((l.take j).filter p).map f)
theorem LsAt.len {H:Hp}{us:List V}{ws:List (List Int)}(h:LsAt H us ws):us.length=ws.length:=All2.len h
theorem lsZ.ok {α:Type}(l:List α)(p:α->Bool)(f:α->List Int):ZOk (lsZ l p f):=⟨fun _=>trivial,fun _ _ _ _ t h=>LsAt.mono t h,fun _ zs j h=>by
 rw[LsAt.len h,ae]
 exact bb (bw _ _) (bh _ _)⟩
theorem LsAt.snoc {H:Hp}{us:List V}{ws:List (List Int)}{a:Addr}{x:List Int}(h:LsAt H us ws)(ha:H a=some (.tup (x.map V.int))):LsAt H (us++[.ref a]) (ws++[x]):=All2.snoc h ⟨a,rfl,ha⟩
theorem lsZ.yes {α:Type}{l:List α}{p:α->Bool}{f:α->List Int}{H H':Hp}{zs:List V}{j:Nat}{x:α}{a:Addr}(h:lsZ l p f H zs j)(t:Tups H H')(hx:l[j]?=some x)(hp:p x=true)(ha:H' a=some (.tup ((f x).map V.int))):lsZ l p f H' (zs++[.ref a]) (j+1):=by
 unfold lsZ
 rw[aV,hx,bQ,aJ]
 have e:((some x).toList.filter p).map f=[f x]:=by simp [hp]
 rw[e]
 exact LsAt.snoc (LsAt.mono t h) ha
theorem lsZ.no {α:Type}{l:List α}{p:α->Bool}{f:α->List Int}{H H':Hp}{zs:List V}{j:Nat}{x:α}(h:lsZ l p f H zs j)(t:Tups H H')(hx:l[j]?=some x)(hp:p x=false):lsZ l p f H' zs (j+1):=by
 unfold lsZ
 rw[aV,hx,bQ,aJ]
 have e:((some x).toList.filter p).map f=[]:=by simp [hp]
 rw[e,aW]
 exact LsAt.mono t h
theorem lsZ.all {α:Type}{l:List α}{p:α->Bool}{f:α->List Int}{H:Hp}{zs:List V}{n:Nat}(h:lsZ l p f H zs n)(hn:l.length<=n):LsAt H zs ((l.filter p).map f):=by
 unfold lsZ at h
 rw[bE hn] at h
 exact h
theorem jSI {ks:List Int}{z:Int}(h0:0<=z)(h1:z<ks.length):atI (ks.map V.int) z=some (V.int (ks.getD z.toNat 0)):=by
 obtain⟨n,rfl⟩:∃ n:Nat,z=(n:Int):=⟨z.toNat,by omega⟩
 refine yD ?_
 have:=(kget h0 h1).2
 rw[bq] at this
 rw[aN,this,bq]
 rfl
theorem jOH {a b:List Int}(h:a.Perm b):a.sum=b.sum:=by
 induction h with
 | nil=>rfl
 | cons x _ ih=>rw[di,di,ih]
 | swap x y l=>rw[di,di,di,di]; omega
 | trans _ _ h1 h2=>exact h1.trans h2
theorem jKU (pcs:List (List Int×Int))(x:List Int):wt pcs (srt x)=wt pcs x:=by
 unfold wt
 exact jOH ((jAB x).map _)
section
variable {P:Program}{w:World}{K:W.Frag}{mg:Str->Option Value}{base:Heap}
variable {f:Addr}{cdv:Value}{A:Around}{outer:List Env}{s:Shared}{H0:Hp}{E:XK}
abbrev jHX:List Str:=["box","covering"]
theorem scWeight:FnScope jHX ["box","covering"] (j6 jAO):=⟨rfl,rfl,rfl,by decide+kernel,rfl,by decide+kernel,by decide+kernel⟩
def jA5:Sp:=fun vs H Q _=>∃ (b a:Addr) (w:Int) (ms:List Int) (pcs:List (List Int×Int)) (ks:List Int),vs=[.ref b, .ref a]/\BoxAt H b w ms pcs/\H a=some (.tup (ks.map V.int))/\(∀ k∈ks,0<=k/\k<pcs.length)/\ks.length<=100/\∀ H',Ext H H'->Q (.int (wt pcs ks)) H'
def jQX (T:Txt mg): { t:TS // JSs (XOf jHX "_law_weight" jAO P w K mg base f cdv A outer s H0 E) (jB jAO) t} :=
 have nd:=scWeight.nd
 ⟨_,(jD (jW (jH (jEF rfl) gD T.sum (by decide+kernel) (j3 (kR (m:=[none,some 0]) (Nc:=["k","box"]) rfl (qF (jv 1 rfl vL)) rfl (by decide+kernel) (by decide+kernel) (jS (psc:=j6 jAO) (by decide+kernel)) (jI (N:=jHX) rfl rfl (by decide+kernel)) (fun cl C fp s H=>jJ (i:=0) (show (["k","box"]:List Str).Nodup by decide+kernel) rfl (yM (by decide+kernel))) (fun cl C fp s H=>kY) (fun cl C fp s H=>(jL kT (jL kT (jL kT (jv 1 rfl (kW (by decide+kernel))) (je_int) jE) (jv 0 rfl (jX (by decide+kernel))) yQ) (je_int) jE)) yI) j8 jK) jK)))⟩
theorem jLY {fd:FuncData}(F:Fun K "_law_weight" "_law_weight" jAO f fd)(T:Txt mg):FnOk P w K mg base CX0 1 f fd ["box","covering"] jA5:=by
 refine F.ok scWeight (fun vs H Q E h=>?_) (fun cdv A outer s H vs Q E hr h=>?_)
 ·obtain⟨_,_,_,_,_,_,rfl,_⟩:=h
  rfl
 ·obtain⟨b,a,wi,ms,pcs,ks,rfl,hB,ha,hk,hl,q⟩:=h
  refine⟨_,(jQX T).2.h,?_⟩
  obtain⟨qm,qp,ps,b1,b2,b3,b4⟩:=id hB.ex
  refine⟨_,rfl,a,rfl,⟨_,SqT.of ha⟩,jDL (xs:=ks.map V.int) (fun σ=>∃ v,σ=[v,some (.ref b)]) (mapZ ks fun k=>V.int (wgt pcs k)) (mapZ.ok _ _) ha (by rw[ae,ay]; omega) ⟨_,rfl⟩ ?_ ?_⟩
  ·rintro j x σ' H' zs hx ⟨v,rfl⟩ e hz S1 S2 yes no
   obtain⟨k,hk',rfl⟩:=int_at hx
   have kb:=hk k (az hk')
   obtain⟨pv,hpv,pa,pw,rfl,ha1,ha2⟩:=b4.get (k:=k.toNat) (by omega)
   have at1:atI ps k=some (.ref pa):=by
    have:=yD hpv
    rwa [show ((k.toNat:Nat):Int)=k by omega] at this
   dsimp only [kL,yL]
   rw[aq rfl]
   exact⟨_,rfl,b,_,2,_,rfl,rfl,SqT.of (e _ _ b1),rfl,_,rfl,qp,_,k,_,rfl,rfl,SqT.of (e _ _ b3),at1,pa,_,1,_,rfl,rfl,SqT.of (e _ _ ha1),rfl,yes _ _ _ ⟨_,rfl⟩ (Ext.refl _) (hz.yes hk')⟩
  ·rintro D H' zs hD e nD hz
   have hz:=hz.all (by rw[ae]; exact ao _)
   have hz2:zs=(ks.map (wgt pcs)).map V.int:=by rw[hz,bI]; rfl
   rw[hz2] at hD
   exact⟨D,_,rfl,SqL.of hD,q H' e⟩
end
section
variable {P:Program}{w:World}{K:W.Frag}{mg:Str->Option Value}{base:Heap}
variable {f:Addr}{cdv:Value}{A:Around}{outer:List Env}{s:Shared}{H0:Hp}{E:XK}
abbrev jM8:List Str:=["one","other"]
theorem scLawIn:FnScope jM8 ["one","other"] (j6 jBQ):=⟨rfl,rfl,rfl,by decide+kernel,rfl,by decide+kernel,by decide+kernel⟩
def jAL:Sp:=fun vs H Q _=>∃ (a b:Addr) (xs ys:List Int),vs=[.ref a, .ref b]/\H a=some (.tup (xs.map V.int))/\H b=some (.tup (ys.map V.int))/\xs.length<=1000/\∀ H',Ext H H'->Q (.bl (xs.all fun x=>decide (x∈ys))) H'
def jUI (T:Txt mg): { t:TS // JSs (XOf jM8 "_law_in" jBQ P w K mg base f cdv A outer s H0 E) (jB jBQ) t} :=
 have nd:=scLawIn.nd
 ⟨_,(jD (jW (jMV (jH (jEG rfl) gD T.any (by decide+kernel) (j3 (kR (m:=[none,some 1]) (Nc:=["t","other"]) rfl (qF (jv 0 rfl vL)) rfl (by decide+kernel) (by decide+kernel) (jS (psc:=j6 jBQ) (by decide+kernel)) (jI (N:=jM8) rfl rfl (by decide+kernel)) (fun cl C fp s H=>jJ (i:=0) (show (["t","other"]:List Str).Nodup by decide+kernel) rfl (yM (by decide+kernel))) (fun cl C fp s H=>kY) (fun cl C fp s H=>(yX jEW (jv 0 rfl (jX (by decide+kernel))) (jv 1 rfl (kW (by decide+kernel))) jCW)) yI) j8 jK) jK))))⟩
theorem jOP {fd:FuncData}(F:Fun K "_law_in" "_law_in" jBQ f fd)(T:Txt mg):FnOk P w K mg base CX0 1 f fd ["one","other"] jAL:=by
 refine F.ok scLawIn (fun vs H Q E h=>?_) (fun cdv A outer s H vs Q E hr h=>?_)
 ·obtain⟨_,_,_,_,rfl,_⟩:=h
  rfl
 ·obtain⟨a,b,xs,ys,rfl,ha,hb,hl,q⟩:=h
  refine⟨_,(jUI T).2.h,?_⟩
  refine⟨_,rfl,a,rfl,⟨_,SqT.of ha⟩,jDL (xs:=xs.map V.int) (fun σ=>∃ v1,σ=[v1,some (.ref b)]) (mapZ xs fun x=>V.bl (!decide (x∈ys))) (mapZ.ok _ _) ha (by rw[ae,ay]; omega) ⟨_,rfl⟩ ?_ ?_⟩
  ·rintro j x σ' H' zs hx ⟨v1,rfl⟩ e hz S1 S2 yes no
   obtain⟨z,hz',rfl⟩:=int_at hx
   dsimp only [kL,yL]
   rw[aq rfl]
   refine⟨_,rfl,_,rfl,b,_,rfl, .inr (SqT.of (e _ _ hb)),rfl,jAA _,?_⟩
   rw[jAJ]
   exact yes _ _ _ ⟨_,rfl⟩ (Ext.refl _) (hz.yes hz')
  ·rintro D H3 zs h3 e3 hn hz
   have hz:=hz.all (by rw[ae]; exact ao _)
   have hz2:zs=(xs.map fun x=>!decide (x∈ys)).map V.bl:=by rw[hz,bI]; rfl
   rw[hz2] at h3
   refine⟨D,_,rfl,SqL.of h3,?_⟩
   have an:(!(xs.map fun x=>!decide (x∈ys)).any id)=xs.all fun x=>decide (x∈ys):=by
    rw[jl,List.not_any_eq_all_not]
    congr 1
    funext x
    simp
   refine⟨_,rfl,?_⟩
   rw[an]
   exact q H3 e3
end
section
variable {P:Program}{w:World}{K:W.Frag}{mg:Str->Option Value}{base:Heap}
variable {f fC fP fD fV fA fI fB fM fL fG tb1 tb2 tb3:Addr}{fdC fdP fdD fdV fdA fdI fdB fdM fdL fdG:FuncData}{cdv:Value}{A:Around}{outer:List Env}{s:Shared}{H0:Hp}{E:XK}
abbrev nLaw:List Str:=["script","box","every","k","some","left","things","pieces","due","found","one","light","least"]
theorem scLaw:FnScope nLaw ["script"] (j6 sLaw):=⟨rfl,rfl,rfl,by decide+kernel,rfl,by decide+kernel,by decide+kernel⟩
abbrev XLaw (P:Program)(w:World)(K:W.Frag)(mg:Str->Option Value)(base:Heap)(f:Addr)(cdv:Value)(A:Around)(outer:List Env)(s:Shared)(H:Hp)(E:XK):Cx:=XOf nLaw "law" sLaw P w K mg base f cdv A outer s H E
abbrev lawL:List Stmt:=jCH ((jB sLaw).getD 2 (.Pass ⟨0,0,0,0⟩))
def innA (T:Txt mg)(CC:Can P w K mg base "_law_cell_at" 1 fC fdC ["script","k"] (yY K))(CP:Can P w K mg base "_law_pot" 1 fP fdP ["cell"] qN)(CD:Can P w K mg base "_law_drawn" 4 fD fdD ["script","k","things","pieces"] (jAM K))(CV:Can P w K mg base "_law_coverings" 19 fV fdV ["box"] jBP)(CA:Can P w K mg base "_law_apart" 2 fA fdA ["pot","box"] jAN)(CI:Can P w K mg base "_law_in" 1 fI fdI ["one","other"] jAL)(CB:Can P w K mg base "behind" 4 fB fdB ["box","some"] (jA6 tb1))(CM:Can P w K mg base "many" 6 fM fdM ["box"] (jBO tb2))(CL:Can P w K mg base "lightest" 5 fL fdL ["box"] (jAK tb3))(CG:Can P w K mg base "_law_weight" 1 fG fdG ["box","covering"] jA5)(hr:Room 19 (XLaw P w K mg base f cdv A outer s H0 E).A): { t:TS // JSs (XLaw P w K mg base f cdv A outer s H0 E) (jCH (lawL.getD 4 (.Pass ⟨0,0,0,0⟩))) t} :=
 have nd:=scLaw.nd
 ⟨_,(jD (jC0 (je_bm bV dX dY jB8 (jv 9 rfl vL) (j3 (kE jM gD T.tuple (by decide+kernel) (j3 (jH jBB gD T.sorted (by decide+kernel) (j3 (kU jFG (jv 4 rfl vC) (kE jM gD T.tuple (by decide+kernel) (j3 (kR (m:=[none,some 7]) (Nc:=["j","pieces"]) rfl (qF (jv 10 rfl vL)) rfl (by decide+kernel) (by decide+kernel) (jS (psc:=j6 sLaw) (by decide+kernel)) (jI (N:=nLaw) rfl rfl (by decide+kernel)) (fun cl C fp s H=>jJ (i:=0) (show (["j","pieces"]:List Str).Nodup by decide+kernel) rfl (yM (by decide+kernel))) (fun cl C fp s H=>kY) (fun cl C fp s H=>(jL kT (jv 1 rfl (kW (by decide+kernel))) (jv 0 rfl (jX (by decide+kernel))) yQ)) yI) j8 jK) jK)) j8 yJ) yJ) j8 jF) jF) j8 jF) jF) jZ))⟩
def restA (T:Txt mg)(CC:Can P w K mg base "_law_cell_at" 1 fC fdC ["script","k"] (yY K))(CP:Can P w K mg base "_law_pot" 1 fP fdP ["cell"] qN)(CD:Can P w K mg base "_law_drawn" 4 fD fdD ["script","k","things","pieces"] (jAM K))(CV:Can P w K mg base "_law_coverings" 19 fV fdV ["box"] jBP)(CA:Can P w K mg base "_law_apart" 2 fA fdA ["pot","box"] jAN)(CI:Can P w K mg base "_law_in" 1 fI fdI ["one","other"] jAL)(CB:Can P w K mg base "behind" 4 fB fdB ["box","some"] (jA6 tb1))(CM:Can P w K mg base "many" 6 fM fdM ["box"] (jBO tb2))(CL:Can P w K mg base "lightest" 5 fL fdL ["box"] (jAK tb3))(CG:Can P w K mg base "_law_weight" 1 fG fdG ["box","covering"] jA5)(hr:Room 19 (XLaw P w K mg base f cdv A outer s H0 E).A): { t:TS // JSs (XLaw P w K mg base f cdv A outer s H0 E) (lawL.drop 5) t} :=
 have nd:=scLaw.nd
 ⟨_,(jC (yC (jt_w (jw_or (jT (jRT hr.units101) (jH (jCO hr.units101) gD T.sorted (by decide+kernel) (j3 (jv 9 rfl vL) j8 j4) j4) (jH (jCO hr.units101) gD T.sorted (by decide+kernel) (j3 (jv 8 rfl vL) j8 j4) j4) (jV _)) (jQD (jT op_ne (CM.je (hr.mono (by decide)) gD (j3 (jv 5 rfl vL) j8 j4) j4) (jH kB gD T.len (by decide+kernel) (j3 (jv 8 rfl vL) j8 j4) j4) (jV _))))) (jD (jW (je_bl))) kI)
   (jC (jQ (i:=11) nd rfl lL (CL.je (hr.mono (by decide)) gD (j3 (jv 5 rfl vL) j8 j4) j4) jZ)
   (jC (yC (jT op_ne (yX jLV (jv 11 rfl vL) (jEY) (jV _)) (yX (jRV hr.units101) (jv 8 rfl vL) (yW j8) (jV _)) (jV _)) (jD (jW (je_bl))) kI)
   (jD (yC (jT (jRU hr.units0) (jv 8 rfl vL) (yW j8) (jV _)) (jC (jQ (i:=12) nd rfl lL (jH (jNQ rfl) gD T.min (by decide+kernel) (j3 (kR (m:=[none,some 1]) (Nc:=["one","box"]) rfl (yS (jv 8 rfl vL)) rfl (by decide+kernel) (by decide+kernel) (jS (psc:=j6 sLaw) (by decide+kernel)) (jI (N:=nLaw) rfl rfl (by decide+kernel)) (fun cl C fp s H=>jJ (i:=0) (show (["one","box"]:List Str).Nodup by decide+kernel) rfl (yM (by decide+kernel))) (fun cl C fp s H=>kY) (fun cl C fp s H=>(CG.je (hr.mono (by decide)) (gl_b (by decide+kernel)) (j3 (jv 1 rfl (kW (by decide+kernel))) (j3 (jv 0 rfl (jX (by decide+kernel))) j8 j4) j4) j4)) yI) j8 jK) jK) jZ)
   (jD (yC (jT op_ne (kU y0 (jL jO (jv 11 rfl vL) (je_int) jE) (CG.je (hr.mono (by decide)) gD (j3 (jv 1 rfl vC) (j3 (jv 4 rfl vC) j8 j4) j4) j4)) (jv 12 rfl vL) (jV _)) (jD (jW (je_bl))) kI))) kI)))))⟩
def turnA (T:Txt mg)(CC:Can P w K mg base "_law_cell_at" 1 fC fdC ["script","k"] (yY K))(CP:Can P w K mg base "_law_pot" 1 fP fdP ["cell"] qN)(CD:Can P w K mg base "_law_drawn" 4 fD fdD ["script","k","things","pieces"] (jAM K))(CV:Can P w K mg base "_law_coverings" 19 fV fdV ["box"] jBP)(CA:Can P w K mg base "_law_apart" 2 fA fdA ["pot","box"] jAN)(CI:Can P w K mg base "_law_in" 1 fI fdI ["one","other"] jAL)(CB:Can P w K mg base "behind" 4 fB fdB ["box","some"] (jA6 tb1))(CM:Can P w K mg base "many" 6 fM fdM ["box"] (jBO tb2))(CL:Can P w K mg base "lightest" 5 fL fdL ["box"] (jAK tb3))(CG:Can P w K mg base "_law_weight" 1 fG fdG ["box","covering"] jA5)(hr:Room 19 (XLaw P w K mg base f cdv A outer s H0 E).A): { t:TS // JSs (XLaw P w K mg base f cdv A outer s H0 E) lawL t} :=
 have nd:=scLaw.nd
 ⟨_,(jC (jQ (i:=4) nd rfl (loc_c (by decide+kernel)) (CA.je (hr.mono (by decide)) gD (j3 (CP.je (hr.mono (by decide)) gD (j3 (CC.je (hr.mono (by decide)) gD (j3 (jv 0 rfl vL) (j3 (jv 3 rfl vL) j8 j4) j4) j4) j8 jF) jF) (j3 (jv 1 rfl vC) j8 j4) jF) jF) jZ) (jC (jUN (CB.je (hr.mono (by decide)) gD (j3 (jv 1 rfl vC) (j3 (jv 4 rfl vC) j8 j4) j4) j4) (jJM rfl (jAC (jJ (i:=5) nd rfl lL) (jAC (jJ (i:=6) nd rfl lL) (jAC (jJ (i:=7) nd rfl (loc_c (by decide+kernel))) jFR jB3) jB3) jB3))) (jC (jI1 (i:=8) nd rfl lL ⟨by rfl⟩ (m:=[none,some 4]) (Nc:=["one","some"]) rfl (yS (jv 2 rfl vL)) rfl (by decide+kernel) (by decide+kernel) (jS (psc:=j6 sLaw) (by decide+kernel)) (jI (N:=nLaw) rfl rfl (by decide+kernel)) (fun cl C fp s H=>jJ (i:=0) (show (["one","some"]:List Str).Nodup by decide+kernel) rfl (yM (by decide+kernel))) (fun cl C fp s H=>jD0 (jDB (CI.je (hr.mono (by decide)) (gl_b (by decide+kernel)) (j3 (jv 1 rfl (kW (by decide+kernel))) (j3 (jv 0 rfl (jX (by decide+kernel))) j8 j4) j4) j4) jB7)) (fun cl C fp s H=>(jv 0 rfl (jX (by decide+kernel)))) yI) (jC (jQ (i:=9) nd rfl lL (yW j8) jD5) (jC (jBU cf rfl (yS (CV.je hr gD (j3 (jv 5 rfl vL) j8 j4) j4)) (jJ (i:=10) nd rfl lL) (innA T CC CP CD CV CA CI CB CM CL CG hr).2 kZ) (restA T CC CP CD CV CA CI CB CM CL CG hr).2)))))⟩
def lawA (T:Txt mg)(CC:Can P w K mg base "_law_cell_at" 1 fC fdC ["script","k"] (yY K))(CP:Can P w K mg base "_law_pot" 1 fP fdP ["cell"] qN)(CD:Can P w K mg base "_law_drawn" 4 fD fdD ["script","k","things","pieces"] (jAM K))(CV:Can P w K mg base "_law_coverings" 19 fV fdV ["box"] jBP)(CA:Can P w K mg base "_law_apart" 2 fA fdA ["pot","box"] jAN)(CI:Can P w K mg base "_law_in" 1 fI fdI ["one","other"] jAL)(CB:Can P w K mg base "behind" 4 fB fdB ["box","some"] (jA6 tb1))(CM:Can P w K mg base "many" 6 fM fdM ["box"] (jBO tb2))(CL:Can P w K mg base "lightest" 5 fL fdL ["box"] (jAK tb3))(CG:Can P w K mg base "_law_weight" 1 fG fdG ["box","covering"] jA5)(hr:Room 19 (XLaw P w K mg base f cdv A outer s H0 E).A): { t:TS // JSs (XLaw P w K mg base f cdv A outer s H0 E) (jB sLaw) t} :=
 have nd:=scLaw.nd
 ⟨_,(jC (jQ (i:=1) nd rfl (loc_c (by decide+kernel)) (CD.je (hr.mono (by decide)) gD (j3 (jv 0 rfl vL) (j3 (je_int) (j3 (je_int) (j3 (je_int) j8 jR) jR) jR) j4) j4) jZ) (jC (jQ (i:=2) nd rfl lL (CV.je hr gD (j3 (jv 1 rfl vC) j8 j4) j4) jZ) (jC (jBU cf rfl (jGX gD T.range (j3 (je_int) (j3 (je_int) j8 jR) jR) jR jR) (jJ (i:=3) nd rfl lL) (turnA T CC CP CD CV CA CI CB CM CL CG hr).2 kZ) (jD (jW (je_bl))))))⟩
theorem jPB (T:Txt mg)(CC:Can P w K mg base "_law_cell_at" 1 fC fdC ["script","k"] (yY K))(CP:Can P w K mg base "_law_pot" 1 fP fdP ["cell"] qN)(CD:Can P w K mg base "_law_drawn" 4 fD fdD ["script","k","things","pieces"] (jAM K))(CV:Can P w K mg base "_law_coverings" 19 fV fdV ["box"] jBP)(CA:Can P w K mg base "_law_apart" 2 fA fdA ["pot","box"] jAN)(CI:Can P w K mg base "_law_in" 1 fI fdI ["one","other"] jAL)(CB:Can P w K mg base "behind" 4 fB fdB ["box","some"] (jA6 tb1))(CM:Can P w K mg base "many" 6 fM fdM ["box"] (jBO tb2))(CL:Can P w K mg base "lightest" 5 fL fdL ["box"] (jAK tb3))(CG:Can P w K mg base "_law_weight" 1 fG fdG ["box","covering"] jA5)(hr:Room 19 (XLaw P w K mg base f cdv A outer s H0 E).A)
  {D:Ends}{H:Hp}{so pq fl on:Addr}{tk aps c:List Int}{us:List V}{v0 v1 v2 v3 v5 v6 v8 v11 v12:Option V}
  (hs:H so=some (.tup (tk.map V.int))) (hp:H pq=some (.tup (aps.map V.int))) (hf:H fl=some (.lst us)) (ho:H on=some (.tup (c.map V.int))) (cb:∀ j∈c,0<=j/\j<aps.length) (tl:tk.length<=16) (cl:c.length<=16) (ul:us.length<=65536)
  (nx:∀ H' r,Keep H H' fl->H' fl=some (.lst (us++[.ref r]))->H' r=some (.tup ((srt (tk++kOf aps c)).map V.int))->D.nx [v0,v1,v2,v3,some (.ref so),v5,v6,some (.ref pq),v8,some (.ref fl),some (.ref on),v11,v12] H'):
  (innA T CC CP CD CV CA CI CB CM CL CG hr).1 D [v0,v1,v2,v3,some (.ref so),v5,v6,some (.ref pq),v8,some (.ref fl),some (.ref on),v11,v12] H:=by
 refine⟨_,rfl, .inl ⟨rfl,_,SqL.of hf⟩,_,rfl,?_⟩
 refine⟨_,rfl,on,rfl,⟨_,SqT.of ho⟩,jDL (xs:=c.map V.int) (fun σ=>∃ v1,σ=[v1,some (.ref pq)]) (mapZ c fun j=>V.int (aps.getD j.toNat 0)) (mapZ.ok _ _) ho (by rw[ae,ay]; omega) ⟨_,rfl⟩ ?_ ?_⟩
 ·rintro j x σ' H' zs hx ⟨v1,rfl⟩ e hz S1 S2 yes no
  obtain⟨z,hz',rfl⟩:=int_at hx
  dsimp only [kL,yL]
  rw[aq rfl]
  have zb:=cb z (az hz')
  exact⟨_,rfl,_,rfl,pq,_,z,_,rfl,rfl,SqT.of (e _ _ hp),jSI zb.1 zb.2,yes _ _ _ ⟨_,rfl⟩ (Ext.refl _) (hz.yes hz')⟩
 ·rintro D' H1 zs h1 e1 hn hz
  have hz:=hz.all (by rw[ae]; exact ao _)
  have hz2:zs=(kOf aps c).map V.int:=by rw[hz]; unfold kOf; rw[bI]; rfl
  rw[hz2] at h1
  have kl:(kOf aps c).length=c.length:=by unfold kOf; rw[ae]
  refine⟨D',_,rfl, .inl ⟨SqL.of h1,fun r2 hr2=>?_⟩⟩
  have e2:Ext H1 (L2.upd H1 r2 (.tup ((kOf aps c).map V.int))):=(Ext.refl _).new hr2 _
  have d2:(L2.upd H1 r2 (.tup ((kOf aps c).map V.int))) r2=some (.tup ((kOf aps c).map V.int)):=j5
  generalize L2.upd H1 r2 (.tup ((kOf aps c).map V.int))=H2 at e2 d2
  have E2:=e1.trans e2
  refine⟨so,r2,_,_,rfl,rfl,E2 _ _ hs,d2,by rw[ae,ae,kl,ay]; omega,fun r3 H3 d3 e3=>?_⟩
  rw[<- aJ] at d3
  refine⟨r3,tk++kOf aps c,rfl,d3,by rw[aB,kl]; omega,fun r4 ns hr4 pw pm=>?_⟩
  have es:=jDR pw pm
  subst es
  have e4:Ext H3 (L2.upd H3 r4 (.lst ((srt (tk++kOf aps c)).map V.int))):=(Ext.refl _).new hr4 _
  have d4:(L2.upd H3 r4 (.lst ((srt (tk++kOf aps c)).map V.int))) r4=some (.lst ((srt (tk++kOf aps c)).map V.int)):=j5
  generalize L2.upd H3 r4 (.lst ((srt (tk++kOf aps c)).map V.int))=H4 at e4 d4
  refine⟨r4,_,rfl, .inl ⟨SqL.of d4,fun r5 hr5=>?_⟩⟩
  have e5:Ext H4 (L2.upd H4 r5 (.tup ((srt (tk++kOf aps c)).map V.int))):=(Ext.refl _).new hr5 _
  have d5:(L2.upd H4 r5 (.tup ((srt (tk++kOf aps c)).map V.int))) r5=some (.tup ((srt (tk++kOf aps c)).map V.int)):=j5
  generalize L2.upd H4 r5 (.tup ((srt (tk++kOf aps c)).map V.int))=H5 at e5 d5
  have E5:=(E2.trans e3).trans (e4.trans e5)
  have f5:=E5 _ _ hf
  have ne:r5≠fl:=fun z=>by rw[z,f5] at d5; cases d5
  refine⟨fl,us,_,rfl,rfl,f5,by rw[ay]; omega,?_⟩
  exact nx _ r5 (fun c o h n=>by rw[j9 n]; exact E5 _ _ h) j5 (by rw[j9 ne]; exact d5)
theorem jT6 (pcs:List (List Int×Int))(a b:List Int):wt pcs (a++b)=wt pcs a+wt pcs b:=by
 unfold wt
 rw[aJ,List.sum_append]
theorem jQS (ts:List Int)(pcs:List (List Int×Int))(ks:List Int){c:List Int}(h:∀ j∈c,0<=j/\j<ks.length):wt (pick ts pcs ks) c=wt pcs (kOf ks c):=by
 unfold wt kOf
 rw[bI]
 congr 1
 refine bR fun j hj=>?_
 obtain⟨h0,h1⟩:=h j hj
 have e:=(kget h0 h1).2
 show wgt (pick ts pcs ks) j=wgt pcs (ks.getD j.toNat 0)
 unfold wgt pick
 rw[ak,aN,e]
 rfl
theorem jKV {w:Int}{ms:List Int}{pcs:List (List Int×Int)}(g:Good 16 32 w ms pcs){tk c:List Int}(hc:c∈cvB w ms pcs tk):wt pcs (leadB w pcs tk c)=wt pcs tk+wt (pick (tsB w pcs tk) pcs (apB w pcs tk)) c:=by
 rw[jKU,jT6,jQS _ _ _ (jFZ g hc)]
theorem jMK {w:Int}{ms:List Int}{pcs:List (List Int×Int)}(g:Good 16 32 w ms pcs){tk x:List Int}{m:Int}(pm:((cvB w ms pcs tk).map (leadB w pcs tk)).Perm (dueB w ms pcs tk))
  (hx:minW (pick (tsB w pcs tk) pcs (apB w pcs tk)) (wk (chs ((tsB w pcs tk).length:Int).toNat (nmd (tsB w pcs tk) ms) (pick (tsB w pcs tk) pcs (apB w pcs tk))) 0)=some x)
  (hm:m∈(dueB w ms pcs tk).map (wt pcs)) (hle:∀ a∈(dueB w ms pcs tk).map (wt pcs),m<=a):wt (pick (tsB w pcs tk) pcs (apB w pcs tk)) x+wt pcs tk=m:=by
 obtain⟨m1,m2⟩:=jCC hx
 have x1:srt x∈cvB w ms pcs tk:=cq m1
 have l1:=hle _ (cq (pm.mem_iff.mp (cq x1)))
 rw[jKV g x1,jKU] at l1
 obtain⟨c,hc,e⟩:=aP.mp hm
 obtain⟨a,ha,e2⟩:=aP.mp (pm.mem_iff.mpr hc)
 obtain⟨y,hy,e3⟩:=aP.mp ha
 have l2:=m2 y hy
 have e4:=jKV g ha
 rw[e2,<- e3,jKU,e] at e4
 omega
theorem jLL (T:Txt mg)(CC:Can P w K mg base "_law_cell_at" 1 fC fdC ["script","k"] (yY K))(CP:Can P w K mg base "_law_pot" 1 fP fdP ["cell"] qN)(CD:Can P w K mg base "_law_drawn" 4 fD fdD ["script","k","things","pieces"] (jAM K))(CV:Can P w K mg base "_law_coverings" 19 fV fdV ["box"] jBP)(CA:Can P w K mg base "_law_apart" 2 fA fdA ["pot","box"] jAN)(CI:Can P w K mg base "_law_in" 1 fI fdI ["one","other"] jAL)(CB:Can P w K mg base "behind" 4 fB fdB ["box","some"] (jA6 tb1))(CM:Can P w K mg base "many" 6 fM fdM ["box"] (jBO tb2))(CL:Can P w K mg base "lightest" 5 fL fdL ["box"] (jAK tb3))(CG:Can P w K mg base "_law_weight" 1 fG fdG ["box","covering"] jA5)(hr:Room 19 (XLaw P w K mg base f cdv A outer s H0 E).A)
  {D:Ends}{H:Hp}{b so lb dl fl:Addr}{wi:Int}{ms:List Int}{pcs:List (List Int×Int)}{tk:List Int}{us ds:List V}{v0 v2 v3 v6 v7 v10 v11 v12:Option V}
  (hB:BoxAt H b wi ms pcs) (g:Good 16 32 wi ms pcs) (hs:H so=some (.tup (tk.map V.int))) (rk:Ris pcs.length tk)
  (hL:BoxAt H lb ((tsB wi pcs tk).length:Int) (nmd (tsB wi pcs tk) ms) (pick (tsB wi pcs tk) pcs (apB wi pcs tk)))
  (hd:H dl=some (.lst ds)) (hD:LsAt H ds (dueB wi ms pcs tk)) (hf:H fl=some (.lst us)) (hF:LsAt H us ((cvB wi ms pcs tk).map (leadB wi pcs tk))) (dn:ds.length<=65536)
  (pm:((cvB wi ms pcs tk).map (leadB wi pcs tk)).Perm (dueB wi ms pcs tk)) (tab:Tb3 H tb1 tb2 tb3)
  (nx:∀ H' v11 v12,Ex3 tb1 tb2 tb3 H H'->Tb3 H' tb1 tb2 tb3->D.nx [v0,some (.ref b),v2,v3,some (.ref so),some (.ref lb),v6,v7,some (.ref dl),some (.ref fl),v10,v11,v12] H'):
  (restA T CC CP CD CV CA CI CB CM CL CG hr).1 D [v0,some (.ref b),v2,v3,some (.ref so),some (.ref lb),v6,v7,some (.ref dl),some (.ref fl),v10,v11,v12] H:=by
 have gb:=jA9 g g (tk.flatMap (j7 pcs))
 have tkl:tk.length<=100:=by
  have:=yV tk 0 pcs.length rk.ris rk.bnd
  have:=g.pl
  omega
 refine⟨_,rfl,fl,_,_,rfl,SqL.of hf,hF,fun l1 us1 ws1 n1 t1 p1 s1=>?_⟩
 have e1:Ext H (L2.upd H l1 (.lst us1)):=(Ext.refl _).new n1 _
 have d1:(L2.upd H l1 (.lst us1)) l1=some (.lst us1):=j5
 generalize L2.upd H l1 (.lst us1)=H1 at e1 d1
 refine⟨_,rfl,dl,_,_,rfl,SqL.of (e1 _ _ hd),LsAt.mono e1.tups hD,fun l2 us2 ws2 n2 t2 p2 s2=>?_⟩
 have e2:Ext H1 (L2.upd H1 l2 (.lst us2)):=(Ext.refl _).new n2 _
 have d2:(L2.upd H1 l2 (.lst us2)) l2=some (.lst us2):=j5
 generalize L2.upd H1 l2 (.lst us2)=H2 at e2 d2
 have E2:=e1.trans e2
 have ew:ws1=ws2:=jJJ (p1.trans (pm.trans p2.symm)) s1 s2
 refine⟨_,_,⟨l1,us1,rfl,e2 _ _ d1,jE3 (LsAt.mono E2.tups t1)⟩,⟨l2,us2,rfl,d2,jE3 (LsAt.mono e2.tups t2)⟩,jFJ _,_,rfl,?_⟩
 rw[ew,jCM]
 refine iteF ?_
 refine⟨_,rfl,lb,_,_,_,rfl,hL.mono E2.tups,gb,tab.w.ext E2,fun H3 e3 t3=>?_⟩
 have T2:=tab.ext E2
 have T3:=T2.extW e3 t3
 have X3:Ex3 tb1 tb2 tb3 H H3:=(Ex3.of E2).trans (Ex3.ofW e3)
 have tu3:=X3.tups tab
 refine⟨_,rfl,dl,_,rfl, .inl (SqL.of (X3.at tab hd)),rfl,_,rfl,?_⟩
 have ll:(wk (chs ((tsB wi pcs tk).length:Int).toNat (nmd (tsB wi pcs tk) ms) (pick (tsB wi pcs tk) pcs (apB wi pcs tk))) 0).length=ds.length:=by
  rw[LsAt.len hD,<- pm.length_eq,ae,jNJ]
 refine iteN (by
  rw[ll,ar rfl]
  rfl) ?_
 refine⟨_,rfl,lb,_,_,_,rfl,hL.mono tu3,gb,T3.l,fun hn H4 e4 t4=>?_,fun x hx r q H4 h1 h2 e4 t4=>?_⟩
 ·have cn:cvB wi ms pcs tk=[]:=by
   unfold cvB cvs
   rw[minW_none.mp hn]
   rfl
  have dn0:dueB wi ms pcs tk=[]:=by
   have:=pm.length_eq
   rw[cn] at this
   exact bY this.symm
  have X4:=X3.trans (Ex3.ofL e4)
  have T4:=T3.extL e4 t4
  have D4:=LsAt.mono (X4.tups tab) hD
  have dd:ds=[]:=bY (by rw[LsAt.len hD,dn0]; rfl)
  refine⟨_,rfl,rfl,_,rfl,by show (0:Nat)<=_; decide,fun m H5 d5 e5 n5=>?_⟩
  refine⟨_,[],⟨dl,ds,rfl,e5 _ _ (X4.at tab hd),jE3 (LsAt.mono e5.tups D4)⟩,⟨m,_,rfl,d5,rfl⟩,jFJ _,?_⟩
  rw[jQ8,dn0]
  refine⟨rfl,_,rfl,iteF ?_⟩
  refine⟨_,rfl,by show (0:Nat)<=_; decide,fun m2 H6 d6 e6 n6=>?_⟩
  refine⟨dl,m2,_,rfl,rfl,e6 _ _ (e5 _ _ (X4.at tab hd)),d6,_,rfl,?_⟩
  rw[dd]
  refine iteF (nx H6 _ _ (X4.trans (Ex3.of (e5.trans e6))) ((T4.ext e5).ext e6))
 ·have X4:=X3.trans (Ex3.ofL e4)
  have T4:=T3.extL e4 t4
  have D4:=LsAt.mono (X4.tups tab) hD
  have dne:dueB wi ms pcs tk≠ []:=fun z=>by
   have:=(jCC hx).1
   have h0:=pm.length_eq
   rw[z,ae,jNJ] at h0
   have:=List.length_pos_of_mem this
   rw[bZ] at h0
   omega
  have dd:ds≠ []:=fun z=>dne (bY (by rw[<- LsAt.len hD,z]; rfl))
  refine⟨_,rfl,rfl,_,rfl,by show (0:Nat)<=_; decide,fun m H5 d5 e5 n5=>?_⟩
  refine⟨_,[],⟨dl,ds,rfl,e5 _ _ (X4.at tab hd),jE3 (LsAt.mono e5.tups D4)⟩,⟨m,_,rfl,d5,rfl⟩,jFJ _,?_⟩
  rw[jQ8,aH dne]
  refine⟨rfl,_,rfl,iteF ?_⟩
  refine⟨_,rfl,by show (0:Nat)<=_; decide,fun m2 H6 d6 e6 n6=>?_⟩
  have E6:=e5.trans e6
  refine⟨dl,m2,_,rfl,rfl,E6 _ _ (X4.at tab hd),d6,_,rfl,?_⟩
  rw[aH dd]
  refine iteT ?_
  have X6:=X4.trans (Ex3.of E6)
  have tu6:=X6.tups tab
  have D6:=LsAt.mono tu6 hD
  refine⟨_,rfl,dl,rfl,⟨_,SqL.of (E6 _ _ (X4.at tab hd))⟩,jB2 (xs:=ds) (fun σ=>∃ v1,σ=[v1,some (.ref b)]) (mapZ (dueB wi ms pcs tk) fun c=>V.int (wt pcs c)) (mapZ.ok _ _) (E6 _ _ (X4.at tab hd)) (by rw[ay]; omega) ⟨_,rfl⟩ ?_ ?_⟩
  ·rintro j v σ' H' zs hv ⟨v1,rfl⟩ e hz S1 S2 yes no
   obtain⟨c,hc,a,rfl,ha⟩:=All2.get' D6 hv
   have C:=((jMF g).mp (az hc)).1
   dsimp only [kL,yL]
   rw[aq rfl]
   have cl:c.length<=100:=by
    have:=yV c 0 pcs.length C.ris.ris C.ris.bnd
    have:=g.pl
    omega
   exact⟨_,rfl,_,rfl,b,a,wi,ms,pcs,c,rfl,(hB.mono tu6).mono e.tups,e _ _ ha,C.ris.bnd,cl,fun H'' e'=>yes _ _ _ ⟨_,rfl⟩ e' (hz.yes hc)⟩
  ·rintro D' H7 zs h7 e7 n7 hz
   have hz:=hz.all (by rw[LsAt.len hD]; exact ao _)
   have hz2:zs=((dueB wi ms pcs tk).map (wt pcs)).map V.int:=by rw[hz,bI]; rfl
   rw[hz2] at h7
   refine⟨D',_,rfl,SqL.of h7,by rw[ae]; exact List.length_pos_iff.mpr dne,fun mm hm hle=>?_⟩
   have X7:=X6.trans (Ex3.of e7)
   have tu7:=X7.tups tab
   have h1':=e7 _ _ (E6 _ _ h1)
   refine⟨_,rfl,r,_,0,_,rfl,rfl,SqT.of h1',rfl,_,rfl,_,rfl,b,so,wi,ms,pcs,tk,rfl,hB.mono tu7,tu7 _ _ hs,rk.bnd,tkl,fun H8 e8=>?_⟩
   refine⟨_,_,rfl,rfl,_,rfl,rfl,_,rfl,?_⟩
   have ed:(!decide (V.int (wt (pick (tsB wi pcs tk) pcs (apB wi pcs tk)) x+wt pcs tk)=V.int mm))=false:=by
    rw[jMK g pm hx hm hle,ar rfl]
    rfl
   exact iteN ed (nx H8 _ _ (X7.trans (Ex3.of e8)) ((T4.ext (E6.trans e7)).ext e8))
theorem jDQ {H H':Hp}{p T:Addr}{pos:Pos}{q:Str}{xs:List V}(t:TabOk H T pos q)(hp:H p=some (.lst xs))(k:Keep H H' p):TabOk H' T pos q:=by
 have ne:∀ c o,H c=some o->(∀ xs,o≠ .lst xs)->c≠p:=fun c o h n z=>by
  rw[z,hp] at h
  cases h
  exact n _ rfl
 rcases t with h | ⟨c,h,h2⟩
 ·exact .inl (k _ _ h (ne _ _ h (by intro _ z; cases z)))
 ·exact .inr ⟨c,k _ _ h (ne _ _ h (by intro _ z; cases z)),k _ _ h2 (ne _ _ h2 (by intro _ z; cases z))⟩
theorem Tb3.keep {H H':Hp}{p:Addr}{xs:List V}(t:Tb3 H tb1 tb2 tb3)(hp:H p=some (.lst xs))(k:Keep H H' p):Tb3 H' tb1 tb2 tb3:=⟨jDQ t.p hp k,jDQ t.w hp k,jDQ t.l hp k,t.n12,t.n13,t.n23⟩
theorem jE8 {H H':Hp}{p:Addr}{xs:List V}(hp:H p=some (.lst xs))(k:Keep H H' p):Tups H H':=fun c ys h=>k _ _ h fun z=>by rw[z,hp] at h; cases h
theorem jPR {w:Int}{ms:List Int}{pcs:List (List Int×Int)}(g:Good 16 32 w ms pcs){tk:List Int}(r:Ris pcs.length tk)(nd:(tk.flatMap (j7 pcs)).Nodup):∀ k∈tk,∀ k'∈tk,k≠k'->∀ t∈j7 pcs k,t∉j7 pcs k':=by
 have h:=(iS.mp nd).2
 intro k hk k' hk' ne t ht ht'
 have go:∀ {l:List Int},l.Pairwise (fun a b=>∀ x∈j7 pcs a,∀ y∈j7 pcs b,x≠y)->k∈l->k'∈l->False:=by
  intro l
  induction l with
  | nil=>intro _ h; cases h
  | cons a l ih=>
   intro hp h1 h2
   obtain⟨q1,q2⟩:=cw.mp hp
   rcases aG.mp h1 with e1 | m1 <;> rcases aG.mp h2 with e2 | m2
   ·exact ne (e1.trans e2.symm)
   ·exact q1 k' m2 t (e1 ▸ ht) t ht' rfl
   ·exact q1 k m1 t (e2 ▸ ht') t ht rfl
   ·exact ih q2 m1 m2
 exact go h hk hk'
theorem jL0 (T:Txt mg)(CC:Can P w K mg base "_law_cell_at" 1 fC fdC ["script","k"] (yY K))(CP:Can P w K mg base "_law_pot" 1 fP fdP ["cell"] qN)(CD:Can P w K mg base "_law_drawn" 4 fD fdD ["script","k","things","pieces"] (jAM K))(CV:Can P w K mg base "_law_coverings" 19 fV fdV ["box"] jBP)(CA:Can P w K mg base "_law_apart" 2 fA fdA ["pot","box"] jAN)(CI:Can P w K mg base "_law_in" 1 fI fdI ["one","other"] jAL)(CB:Can P w K mg base "behind" 4 fB fdB ["box","some"] (jA6 tb1))(CM:Can P w K mg base "many" 6 fM fdM ["box"] (jBO tb2))(CL:Can P w K mg base "lightest" 5 fL fdL ["box"] (jAK tb3))(CG:Can P w K mg base "_law_weight" 1 fG fdG ["box","covering"] jA5)(hr:Room 19 (XLaw P w K mg base f cdv A outer s H0 E).A)
  {D:Ends}{H:Hp}{a b ev:Addr}{ns:List Int}{k wi:Int}{ms:List Int}{pcs:List (List Int×Int)}{us:List V}{v4 v5 v6 v7 v8 v9 v10 v11 v12:Option V}
  (hS:SqL K H a (ns.map V.int)) (k0:0<=k) (hB:BoxAt H b wi ms pcs) (g0:Good 16 16 wi ms pcs) (he:H ev=some (.lst us)) (hls:LsAt H us (cvs wi ms pcs)) (ul:us.length<=65536) (tab:Tb3 H tb1 tb2 tb3)
  (nx:∀ H' v4 v5 v6 v7 v8 v9 v10 v11 v12,Ex3 tb1 tb2 tb3 H H'->Tb3 H' tb1 tb2 tb3->D.nx [some (.ref a),some (.ref b),some (.ref ev),some (.int k),v4,v5,v6,v7,v8,v9,v10,v11,v12] H'):
  (turnA T CC CP CD CV CA CI CB CM CL CG hr).1 D [some (.ref a),some (.ref b),some (.ref ev),some (.int k),v4,v5,v6,v7,v8,v9,v10,v11,v12] H:=by
 have g:Good 16 32 wi ms pcs:=g0.wide (by decide) (by decide)
 have gpl:=g0.pl
 refine⟨_,rfl,_,rfl,a,ns,k,rfl,hS,k0,fun c=>⟨c,rfl,fun p N hp hN=>?_⟩⟩
 have e1:Ext H (L2.upd H p (.lst [.int N])):=(Ext.refl _).new hp _
 have d1:(L2.upd H p (.lst [.int N])) p=some (.lst [.int N]):=j5
 generalize L2.upd H p (.lst [.int N])=H1 at e1 d1
 refine⟨_,rfl,p,b,N,wi,ms,pcs,rfl,d1,hN,hB.mono e1.tups,g,fun so tk N' H2 hso rk nd d2 hN' kp=>?_⟩
 have dj:=jPR g rk nd
 have e2:Ext H H2:=fun c o h=>kp _ _ (e1 _ _ h) (jA h hp)
 have B2:=hB.mono e2.tups
 have T2:=(tab.ext e1).keep d1 kp
 refine⟨_,rfl,_,rfl,b,so,wi,ms,pcs,tk,rfl,B2,g,hso,rk,nd,T2.p,fun r H3 hb e3 t3=>?_⟩
 obtain⟨lb,rt,rp,c1,c2,c3,c4⟩:=hb.ex
 refine⟨r,_,rfl,SqT.of c1,rfl,_,_,rfl,_,_,rfl,_,_,rfl,rfl,?_⟩
 have T3:=T2.extP e3 t3
 have X3:Ex3 tb1 tb2 tb3 H2 H3:=Ex3.ofP e3
 have tu3:=X3.tups T2
 have L3:=LsAt.mono tu3 (LsAt.mono e2.tups hls)
 have he3:=X3.at T2 (e2 _ _ he)
 have hso3:=tu3 _ _ hso
 have tkl:tk.length<=16:=by
  have:=yV tk 0 pcs.length rk.ris rk.bnd
  omega
 refine⟨_,rfl,ev,rfl,⟨_,SqL.of he3⟩,jB2 (xs:=us) (fun σ=>∃ v1,σ=[v1,some (.ref so)]) (lsZ (cvs wi ms pcs) (fun c=>tk.all fun k=>decide (k∈c)) id) (lsZ.ok _ _ _) he3 (by rw[ay]; omega) ⟨_,rfl⟩ ?_ ?_⟩
 ·rintro j x σ' H' zs hx ⟨v1,rfl⟩ e hz S1 S2 yes no
  obtain⟨c,hc,q,rfl,hq⟩:=All2.get' L3 hx
  dsimp only [kL]
  refine⟨_,rfl,_,rfl,so,q,tk,c,rfl,e _ _ hso3,e _ _ hq,by omega,fun H'' e'=>⟨_,rfl,?_⟩⟩
  refine ite2 (fun h=>?_) (fun h=>?_)
  ·exact⟨_,rfl,yes _ _ _ ⟨_,rfl⟩ e' (hz.yes e'.tups hc h (e' _ _ (e _ _ hq)))⟩
  ·exact no _ _ ⟨_,rfl⟩ e' (hz.no e'.tups hc (eJ.mpr h))
 ·rintro dl H4 ds h4 e4 n4 hz
  have hD:LsAt H4 ds (dueB wi ms pcs tk):=by
   have:=hz.all (by rw[LsAt.len L3]; exact ao _)
   rw[fN] at this
   exact this
  have dn:ds.length<=65536:=by
   have:(dueB wi ms pcs tk).length<=(cvs wi ms pcs).length:=bw _ _
   rw[LsAt.len hD]
   have:=LsAt.len hls
   omega
  refine⟨by show (0:Nat)<=_; decide,fun fl H5 d5 e5 n5=>?_⟩
  have E5:=e4.trans e5
  refine⟨_,rfl,lb,_,_,_,rfl,c2.mono E5.tups,jA9 g g0 _,fun cl cs H6 h6 hC cn e6=>?_⟩
  have E6:=E5.trans e6
  have f6:=e6 _ _ d5
  have hso6:=E6 _ _ hso3
  have hp6:=E6 _ _ c4
  refine⟨cl,rfl,⟨_,SqL.of h6⟩,jDK (xs:=cs) (fun i σ H'=>(∃ v10,σ=[some (.ref a),some (.ref b),some (.ref ev),some (.int k),some (.ref so),some (.ref lb),some (.ref rt),some (.ref rp),some (.ref dl),some (.ref fl),v10,v11,v12])/\Keep H6 H' fl/\∃ zs,H' fl=some (.lst zs)/\LsAt H' zs (((cvB wi ms pcs tk).take i).map (leadB wi pcs tk))) ⟨⟨_,rfl⟩,fun c o h _=>h,[],f6,trivial⟩ ?_ ?_ ?_⟩
  ·rintro i σ H' hi ⟨_,kp',zs,hz1,hz2⟩
   by_cases z:cl=fl
   ·have e0:cs=[]:=by
     rw[z,f6] at h6
     cases h6
     rfl
    rw[e0] at hi ⊢
    have i0:i=0:=Nat.le_zero.mp hi
    rw[i0] at hz2
    have:zs=[]:=bY (by rw[LsAt.len hz2]; rfl)
    rw[z]
    rw[this] at hz1
    exact SqL.of hz1
   ·exact SqL.of (kp' _ _ h6 z)
  ·rintro i x σ H' hx ⟨⟨v10,rfl⟩,kp',zs,hz1,hz2⟩
   obtain⟨c,hc,q,rfl,hq⟩:=All2.get' hC hx
   have tu:=jE8 f6 kp'
   have cm:=az hc
   have C:=(jE1 (jA9 g g _)).mp cm
   have c16:c.length<=16:=by
    have:=yV c 0 _ C.ris.ris C.ris.bnd
    have:=(jA9 g g0 (tk.flatMap (j7 pcs))).pl
    omega
   have zl:zs.length<=65536:=by
    rw[LsAt.len hz2,ae]
    have:=bh i (cvB wi ms pcs tk)
    have:=(ai.mp hx).1
    omega
   refine jPB T CC CP CD CV CA CI CB CM CL CG hr (tu _ _ hso6) (tu _ _ hp6) hz1 (tu _ _ hq) (jFZ g cm) tkl c16 zl fun H'' r kp2 f2 d2=>?_
   refine⟨⟨_,rfl⟩,fun c o h n=>kp2 _ _ (kp' _ _ h n) n,_,f2,?_⟩
   rw[aV,hc,aJ]
   exact LsAt.snoc (LsAt.mono (jE8 hz1 kp2) hz2) d2
  ·rintro σ H' ⟨⟨v10,rfl⟩,kp',zs,hz1,hz2⟩
   rw[LsAt.len hC,aZ] at hz2
   have tu:=jE8 f6 kp'
   have T6:=T3.ext E6
   have T7:=T6.keep f6 kp'
   have nd4:dl≠fl:=fun z=>by rw[<- z,h4] at n5; cases n5
   have XX:Ex3 tb1 tb2 tb3 H H':=fun c o h n1 n2 n3=>by
    have q:=E6 _ _ (X3 _ _ (e2 _ _ h) n1 n2 n3)
    refine kp' _ _ q fun z=>?_
    rw[z] at h
    have:=E5
    have q5:=e4 _ _ (X3 _ _ (e2 _ _ h) (z ▸ n1) (z ▸ n2) (z ▸ n3))
    rw[n5] at q5
    cases q5
   refine jLL T CC CP CD CV CA CI CB CM CL CG hr (((B2.mono tu3).mono E6.tups).mono tu) g (tu _ _ hso6) rk ((c2.mono E6.tups).mono tu) (kp' _ _ (e6 _ _ (e5 _ _ h4)) nd4) (LsAt.mono tu (LsAt.mono (e5.trans e6).tups hD)) hz1 hz2 dn (jMM g rk dj) T7 fun H8 v11 v12 x8 t8=>?_
   exact nx H8 _ _ _ _ _ _ _ _ _ (XX.trans x8) t8
def spLaw (K:W.Frag)(tb1 tb2 tb3:Addr):Sp:=fun vs H Q _=>∃ (a:Addr) (ns:List Int),vs=[.ref a]/\SqL K H a (ns.map V.int)/\ns.length<=63/\TabP H tb1/\TabW H tb2/\TabL H tb3/\tb1≠tb2/\tb1≠tb3/\tb2≠tb3/\∀ H',Q (.bl true) H'
theorem jU8 {fd:FuncData}(F:Fun K "law" "law" sLaw f fd)(T:Txt mg)(CC:Can P w K mg base "_law_cell_at" 1 fC fdC ["script","k"] (yY K))(CP:Can P w K mg base "_law_pot" 1 fP fdP ["cell"] qN)(CD:Can P w K mg base "_law_drawn" 4 fD fdD ["script","k","things","pieces"] (jAM K))(CV:Can P w K mg base "_law_coverings" 19 fV fdV ["box"] jBP)(CA:Can P w K mg base "_law_apart" 2 fA fdA ["pot","box"] jAN)(CI:Can P w K mg base "_law_in" 1 fI fdI ["one","other"] jAL)(CB:Can P w K mg base "behind" 4 fB fdB ["box","some"] (jA6 tb1))(CM:Can P w K mg base "many" 6 fM fdM ["box"] (jBO tb2))(CL:Can P w K mg base "lightest" 5 fL fdL ["box"] (jAK tb3))(CG:Can P w K mg base "_law_weight" 1 fG fdG ["box","covering"] jA5):FnOk P w K mg base CX0 20 f fd ["script"] (spLaw K tb1 tb2 tb3):=by
 refine F.ok scLaw (fun vs H Q E h=>?_) (fun cdv A outer s H vs Q E hr h=>?_)
 ·obtain⟨_,_,rfl,_⟩:=h
  rfl
 ·obtain⟨a,ns,rfl,hS,hlen,tp,tw,tl,n1,n2,n3,k⟩:=h
  have tab:Tb3 H tb1 tb2 tb3:=⟨tp,tw,tl,n1,n2,n3⟩
  refine⟨_,(lawA T CC CP CD CV CA CI CB CM CL CG hr).2.h,?_⟩
  refine⟨_,rfl,a,ns,0,6,10,rfl,hS,by decide,by decide,by decide,by decide,by decide,fun b wi ms pcs H1 hB g0 e1=>?_⟩
  refine⟨_,rfl,b,wi,ms,pcs,rfl,hB,g0,fun ev us H2 he hls ul e2=>?_⟩
  have E2:=e1.trans e2
  have T2:=tab.ext E2
  have S2:SqL K H2 a (ns.map V.int):=Ex3.sq tab (Ex3.of E2) hS
  refine⟨1,4,rfl,by decide,jBA (lo:=1) (n:=3) (fun i σ H'=>(∃ v3 v4 v5 v6 v7 v8 v9 v10 v11 v12,σ=[some (.ref a),some (.ref b),some (.ref ev),v3,v4,v5,v6,v7,v8,v9,v10,v11,v12])/\Ex3 tb1 tb2 tb3 H2 H'/\Tb3 H' tb1 tb2 tb3) ⟨⟨_,_,_,_,_,_,_,_,_,_,rfl⟩,Ex3.of (Ext.refl _),T2⟩ ?_ ?_⟩
  ·rintro i σ H3 hi ⟨⟨v3,v4,v5,v6,v7,v8,v9,v10,v11,v12,rfl⟩,e3,t3⟩
   have tu:=e3.tups T2
   exact jL0 T CC CP CD CV CA CI CB CM CL CG hr (Ex3.sq T2 e3 S2) (by omega) ((hB.mono e2.tups).mono tu) g0 (e3.at T2 he) (LsAt.mono tu hls) ul t3 fun H4 v4 v5 v6 v7 v8 v9 v10 v11 v12 e4 t4=>⟨⟨_,_,_,_,_,_,_,_,_,_,rfl⟩,e3.trans e4,t4⟩
  ·rintro σ H3 ⟨⟨v3,v4,v5,v6,v7,v8,v9,v10,v11,v12,rfl⟩,e3,t3⟩
   exact k H3
end
theorem qQ {P:List Value->Prop} :∀ {us:List Value},us.length=1->(∀ a,P [a])->P us
 | [a],_,h=>h a
theorem lenU2 {P:List Value->Prop} :∀ {us:List Value},us.length=2->(∀ a b,P [a,b])->P us
 | [a,b],_,h=>h a b
theorem lenU3 {P:List Value->Prop} :∀ {us:List Value},us.length=3->(∀ a b c,P [a,b,c])->P us
 | [a,b,c],_,h=>h a b c
theorem lenU4 {P:List Value->Prop} :∀ {us:List Value},us.length=4->(∀ a b c d,P [a,b,c,d])->P us
 | [a,b,c,d],_,h=>h a b c d
set_option maxHeartbeats 8000000 in
theorem all_mk {l:PySem.W.OpenLaw}{w:World}{K:W.Frag}{h:Heap}{mg:Str->Option Value}{fa f1 f2 f3 f4 f5 f6 f7 f8 f9 f10 f11 f12 f13 f14 f15 f16 f17 f18 f19 f20 f21 f22 f23 f24 f25 f26 f27:Addr}(X:K.In h)(G:h.Ns mainGlobals mg)(hfa:mg "law" =some (.ref fa))
  {od1 an1 od2 an2 od3 an3 od4 an4 od5 an5 od6 an6 od7 an7 od8 an8 od9 an9 od10 an10 od11 an11 od12 an12 od13 an13 od14 an14 od15 an15 od16 an16 od17 an17 od18 an18 od19 an19 od20 an20 od21 an21 od22 an22 od23 an23 od24 an24 od25 an25 od26 an26 od27 an27:Option Addr}{sl1 sl2 sl3 sl4 sl5 sl6 sl7 sl8 sl9 sl10 sl11 sl12 sl13 sl14 sl15 sl16 sl17 sl18 sl19 sl20 sl21 sl22 sl23 sl24 sl25 sl26 sl27:Array (Option Value)}{oc1 kV1 dc1 pm1 cd1 ct1 oc2 kV2 dc2 pm2 cd2 ct2 oc3 kV3 dc3 pm3 cd3 ct3 oc4 kV4 dc4 pm4 cd4 ct4 oc5 kV5 dc5 pm5 cd5 ct5 oc6 kV6 dc6 pm6 cd6 ct6 oc7 kV7 dc7 pm7 cd7 ct7 oc8 kV8 dc8 pm8 cd8 ct8 oc9 kV9 dc9 pm9 cd9 ct9 oc10 kV10 dc10 pm10 cd10 ct10 oc11 kV11 dc11 pm11 cd11 ct11 oc12 kV12 dc12 pm12 cd12 ct12 oc13 kV13 dc13 pm13 cd13 ct13 oc14 kV14 dc14 pm14 cd14 ct14 oc15 kV15 dc15 pm15 cd15 ct15 oc16 kV16 dc16 pm16 cd16 ct16 oc17 kV17 dc17 pm17 cd17 ct17 oc18 kV18 dc18 pm18 cd18 ct18 oc19 kV19 dc19 pm19 cd19 ct19 oc20 kV20 dc20 pm20 cd20 ct20 oc21 kV21 dc21 pm21 cd21 ct21 oc22 kV22 dc22 pm22 cd22 ct22 oc23 kV23 dc23 pm23 cd23 ct23 oc24 kV24 dc24 pm24 cd24 ct24 oc25 kV25 dc25 pm25 cd25 ct25 oc26 kV26 dc26 pm26 cd26 ct26 oc27 kV27 dc27 pm27 cd27 ct27:Value}
  (a1:PySem.W.nsIn K mainGlobals "is_whole" =some (some (.ref f1))) (l1:K.lookup f1=some ⟨oc1,od1, .func (PySem.W.fnOf "is_whole" "is_whole" (jG jAY) (jB jAY) (j6 jAY) .none kV1 dc1 pm1 an1 cd1 ct1),sl1⟩) (c1:PySem.W.codeIn K cd1 "is_whole" =true) (k1:keepIn K (.ref f1)=true)
  (a2:PySem.W.nsIn K mainGlobals "is_rising" =some (some (.ref f2))) (l2:K.lookup f2=some ⟨oc2,od2, .func (PySem.W.fnOf "is_rising" "is_rising" (jG yO) (jB yO) (j6 yO) .none kV2 dc2 pm2 an2 cd2 ct2),sl2⟩) (c2:PySem.W.codeIn K cd2 "is_rising" =true) (k2:keepIn K (.ref f2)=true)
  (a3:PySem.W.nsIn K mainGlobals "is_lot" =some (some (.ref f3))) (l3:K.lookup f3=some ⟨oc3,od3, .func (PySem.W.fnOf "is_lot" "is_lot" (jG jBR) (jB jBR) (j6 jBR) .none kV3 dc3 pm3 an3 cd3 ct3),sl3⟩) (c3:PySem.W.codeIn K cd3 "is_lot" =true) (k3:keepIn K (.ref f3)=true)
  (a4:PySem.W.nsIn K mainGlobals "mask_of" =some (some (.ref f4))) (l4:K.lookup f4=some ⟨oc4,od4, .func (PySem.W.fnOf "mask_of" "mask_of" (jG sMask) (jB sMask) (j6 sMask) .none kV4 dc4 pm4 an4 cd4 ct4),sl4⟩) (c4:PySem.W.codeIn K cd4 "mask_of" =true) (k4:keepIn K (.ref f4)=true)
  (a5:PySem.W.nsIn K mainGlobals "picked" =some (some (.ref f5))) (l5:K.lookup f5=some ⟨oc5,od5, .func (PySem.W.fnOf "picked" "picked" (jG kP) (jB kP) (j6 kP) .none kV5 dc5 pm5 an5 cd5 ct5),sl5⟩) (c5:PySem.W.codeIn K cd5 "picked" =true) (k5:keepIn K (.ref f5)=true)
  (a6:PySem.W.nsIn K mainGlobals "choices_of" =some (some (.ref f6))) (l6:K.lookup f6=some ⟨oc6,od6, .func (PySem.W.fnOf "choices_of" "choices_of" (jG kX) (jB kX) (j6 kX) .none kV6 dc6 pm6 an6 cd6 ct6),sl6⟩) (c6:PySem.W.codeIn K cd6 "choices_of" =true) (k6:keepIn K (.ref f6)=true)
  (a7:PySem.W.nsIn K mainGlobals "full_mask" =some (some (.ref f7))) (l7:K.lookup f7=some ⟨oc7,od7, .func (PySem.W.fnOf "full_mask" "full_mask" (jG sFull) (jB sFull) (j6 sFull) .none kV7 dc7 pm7 an7 cd7 ct7),sl7⟩) (c7:PySem.W.codeIn K cd7 "full_mask" =true) (k7:keepIn K (.ref f7)=true)
  (a8:PySem.W.nsIn K mainGlobals "choices_at" =some (some (.ref f8))) (l8:K.lookup f8=some ⟨oc8,od8, .func (PySem.W.fnOf "choices_at" "choices_at" (jG sAt) (jB sAt) (j6 sAt) .none kV8 dc8 pm8 an8 cd8 ct8),sl8⟩) (c8:PySem.W.codeIn K cd8 "choices_at" =true) (k8:keepIn K (.ref f8)=true)
  (a9:PySem.W.nsIn K mainGlobals "masks_met" =some (some (.ref f9))) (l9:K.lookup f9=some ⟨oc9,od9, .func (PySem.W.fnOf "masks_met" "masks_met" (jG sMet) (jB sMet) (j6 sMet) .none kV9 dc9 pm9 an9 cd9 ct9),sl9⟩) (c9:PySem.W.codeIn K cd9 "masks_met" =true) (k9:keepIn K (.ref f9)=true)
  (a10:PySem.W.nsIn K mainGlobals "gathered" =some (some (.ref f10))) (l10:K.lookup f10=some ⟨oc10,od10, .func (PySem.W.fnOf "gathered" "gathered" (jG qH) (jB qH) (j6 qH) .none kV10 dc10 pm10 an10 cd10 ct10),sl10⟩) (c10:PySem.W.codeIn K cd10 "gathered" =true) (k10:keepIn K (.ref f10)=true)
  (a11:PySem.W.nsIn K mainGlobals "ways_of" =some (some (.ref f11))) (l11:K.lookup f11=some ⟨oc11,od11, .func (PySem.W.fnOf "ways_of" "ways_of" (jG qD) (jB qD) (j6 qD) .none kV11 dc11 pm11 an11 cd11 ct11),sl11⟩) (c11:PySem.W.codeIn K cd11 "ways_of" =true) (k11:keepIn K (.ref f11)=true)
  (a12:PySem.W.nsIn K mainGlobals "many" =some (some (.ref f12))) (l12:K.lookup f12=some ⟨oc12,od12, .func (PySem.W.fnOf "many" "many" (jG sMany) (jB sMany) (j6 sMany) .none kV12 dc12 pm12 an12 cd12 ct12),sl12⟩) (c12:PySem.W.codeIn K cd12 "many" =true) (k12:keepIn K (.ref f12)=true)
  (a13:PySem.W.nsIn K mainGlobals "behind" =some (some (.ref f13))) (l13:K.lookup f13=some ⟨oc13,od13, .func (PySem.W.fnOf "behind" "behind" (jG yP) (jB yP) (j6 yP) .none kV13 dc13 pm13 an13 cd13 ct13),sl13⟩) (c13:PySem.W.codeIn K cd13 "behind" =true) (k13:keepIn K (.ref f13)=true)
  (a14:PySem.W.nsIn K mainGlobals "lightest" =some (some (.ref f14))) (l14:K.lookup f14=some ⟨oc14,od14, .func (PySem.W.fnOf "lightest" "lightest" (jG yG) (jB yG) (j6 yG) .none kV14 dc14 pm14 an14 cd14 ct14),sl14⟩) (c14:PySem.W.codeIn K cd14 "lightest" =true) (k14:keepIn K (.ref f14)=true)
  (a15:PySem.W.nsIn K mainGlobals "_law_cell_at" =some (some (.ref f15))) (l15:K.lookup f15=some ⟨oc15,od15, .func (PySem.W.fnOf "_law_cell_at" "_law_cell_at" (jG sCell) (jB sCell) (j6 sCell) .none kV15 dc15 pm15 an15 cd15 ct15),sl15⟩) (c15:PySem.W.codeIn K cd15 "_law_cell_at" =true) (k15:keepIn K (.ref f15)=true)
  (a16:PySem.W.nsIn K mainGlobals "_law_pot" =some (some (.ref f16))) (l16:K.lookup f16=some ⟨oc16,od16, .func (PySem.W.fnOf "_law_pot" "_law_pot" (jG sPot) (jB sPot) (j6 sPot) .none kV16 dc16 pm16 an16 cd16 ct16),sl16⟩) (c16:PySem.W.codeIn K cd16 "_law_pot" =true) (k16:keepIn K (.ref f16)=true)
  (a17:PySem.W.nsIn K mainGlobals "_law_take" =some (some (.ref f17))) (l17:K.lookup f17=some ⟨oc17,od17, .func (PySem.W.fnOf "_law_take" "_law_take" (jG sTake) (jB sTake) (j6 sTake) .none kV17 dc17 pm17 an17 cd17 ct17),sl17⟩) (c17:PySem.W.codeIn K cd17 "_law_take" =true) (k17:keepIn K (.ref f17)=true)
  (a18:PySem.W.nsIn K mainGlobals "_law_lot" =some (some (.ref f18))) (l18:K.lookup f18=some ⟨oc18,od18, .func (PySem.W.fnOf "_law_lot" "_law_lot" (jG sLot) (jB sLot) (j6 sLot) .none kV18 dc18 pm18 an18 cd18 ct18),sl18⟩) (c18:PySem.W.codeIn K cd18 "_law_lot" =true) (k18:keepIn K (.ref f18)=true)
  (a19:PySem.W.nsIn K mainGlobals "_law_box" =some (some (.ref f19))) (l19:K.lookup f19=some ⟨oc19,od19, .func (PySem.W.fnOf "_law_box" "_law_box" (jG sBox) (jB sBox) (j6 sBox) .none kV19 dc19 pm19 an19 cd19 ct19),sl19⟩) (c19:PySem.W.codeIn K cd19 "_law_box" =true) (k19:keepIn K (.ref f19)=true)
  (a20:PySem.W.nsIn K mainGlobals "_law_from" =some (some (.ref f20))) (l20:K.lookup f20=some ⟨oc20,od20, .func (PySem.W.fnOf "_law_from" "_law_from" (jG qI) (jB qI) (j6 qI) .none kV20 dc20 pm20 an20 cd20 ct20),sl20⟩) (c20:PySem.W.codeIn K cd20 "_law_from" =true) (k20:keepIn K (.ref f20)=true)
  (a21:PySem.W.nsIn K mainGlobals "_law_coverings" =some (some (.ref f21))) (l21:K.lookup f21=some ⟨oc21,od21, .func (PySem.W.fnOf "_law_coverings" "_law_coverings" (jG qP) (jB qP) (j6 qP) .none kV21 dc21 pm21 an21 cd21 ct21),sl21⟩) (c21:PySem.W.codeIn K cd21 "_law_coverings" =true) (k21:keepIn K (.ref f21)=true)
  (a22:PySem.W.nsIn K mainGlobals "_law_weight" =some (some (.ref f22))) (l22:K.lookup f22=some ⟨oc22,od22, .func (PySem.W.fnOf "_law_weight" "_law_weight" (jG jAO) (jB jAO) (j6 jAO) .none kV22 dc22 pm22 an22 cd22 ct22),sl22⟩) (c22:PySem.W.codeIn K cd22 "_law_weight" =true) (k22:keepIn K (.ref f22)=true)
  (a23:PySem.W.nsIn K mainGlobals "_law_drawn" =some (some (.ref f23))) (l23:K.lookup f23=some ⟨oc23,od23, .func (PySem.W.fnOf "_law_drawn" "_law_drawn" (jG jBS) (jB jBS) (j6 jBS) .none kV23 dc23 pm23 an23 cd23 ct23),sl23⟩) (c23:PySem.W.codeIn K cd23 "_law_drawn" =true) (k23:keepIn K (.ref f23)=true)
  (a24:PySem.W.nsIn K mainGlobals "_law_fits" =some (some (.ref f24))) (l24:K.lookup f24=some ⟨oc24,od24, .func (PySem.W.fnOf "_law_fits" "_law_fits" (jG sFits) (jB sFits) (j6 sFits) .none kV24 dc24 pm24 an24 cd24 ct24),sl24⟩) (c24:PySem.W.codeIn K cd24 "_law_fits" =true) (k24:keepIn K (.ref f24)=true)
  (a25:PySem.W.nsIn K mainGlobals "_law_in" =some (some (.ref f25))) (l25:K.lookup f25=some ⟨oc25,od25, .func (PySem.W.fnOf "_law_in" "_law_in" (jG jBQ) (jB jBQ) (j6 jBQ) .none kV25 dc25 pm25 an25 cd25 ct25),sl25⟩) (c25:PySem.W.codeIn K cd25 "_law_in" =true) (k25:keepIn K (.ref f25)=true)
  (a26:PySem.W.nsIn K mainGlobals "_law_apart" =some (some (.ref f26))) (l26:K.lookup f26=some ⟨oc26,od26, .func (PySem.W.fnOf "_law_apart" "_law_apart" (jG jBT) (jB jBT) (j6 jBT) .none kV26 dc26 pm26 an26 cd26 ct26),sl26⟩) (c26:PySem.W.codeIn K cd26 "_law_apart" =true) (k26:keepIn K (.ref f26)=true)
  (a27:PySem.W.nsIn K mainGlobals "law" =some (some (.ref f27))) (l27:K.lookup f27=some ⟨oc27,od27, .func (PySem.W.fnOf "law" "law" (jG sLaw) (jB sLaw) (j6 sLaw) .none kV27 dc27 pm27 an27 cd27 ct27),sl27⟩) (c27:PySem.W.codeIn K cd27 "law" =true) (k27:keepIn K (.ref f27)=true)
   (z1:PySem.W.nsIn K mainGlobals "len" =some none) (z2:PySem.W.nsIn K mainGlobals "range" =some none) (z3:PySem.W.nsIn K mainGlobals "tuple" =some none) (z4:PySem.W.nsIn K mainGlobals "sorted" =some none) (z5:PySem.W.nsIn K mainGlobals "set" =some none) (z6:PySem.W.nsIn K mainGlobals "list" =some none) (z7:PySem.W.nsIn K mainGlobals "int" =some none) (z8:PySem.W.nsIn K mainGlobals "isinstance" =some none) (z9:PySem.W.nsIn K mainGlobals "bool" =some none) (z10:PySem.W.nsIn K mainGlobals "str" =some none) (z11:PySem.W.nsIn K mainGlobals "all" =some none) (z12:PySem.W.nsIn K mainGlobals "zip" =some none) (z13:PySem.W.nsIn K mainGlobals "max" =some none) (z14:PySem.W.nsIn K mainGlobals "min" =some none) (z15:PySem.W.nsIn K mainGlobals "any" =some none) (z16:PySem.W.nsIn K mainGlobals "abs" =some none) (z17:PySem.W.nsIn K mainGlobals "sum" =some none) (z18:PySem.W.nsIn K mainGlobals "enumerate" =some none) (z19:PySem.W.nsIn K mainGlobals "dict" =some none) {tb1 cc1:Addr}(cde1:cd5= .ref cc1) (hcd1:codeHdIn K cc1 tb1=true) {tb2 cc2:Addr}(cde2:cd11= .ref cc2) (hcd2:codeHdIn K cc2 tb2=true) {tb3 cc3:Addr}(cde3:cd14= .ref cc3) (hcd3:codeHdIn K cc3 tb3=true) {bmA:Addr}(xb1:PySem.W.nsIn K mainGlobals "__builtins__" =some (some (.ref bmA))) (xb2:K.lookup bmA=some ⟨.type "module",some builtinsNs, .plain,#[]⟩) (xb3:bmA≠builtinsNs) (xb4:bmA≠mainGlobals):
  ∃ fd:FuncData,(∀ (s:Shared) (v:Value),BindsTo s fd ⟨[v],[]⟩ [("script",v)])/\∀ base:Heap,K.In base->base.Ns mainGlobals mg->FnOk l.prog w K mg base CX0 20 fa fd ["script"] (spLaw K tb1 tb2 tb3):=by
 have e:=hfa.symm.trans (gn X G a27)
 cases e
 have T:Txt mg:=⟨ba X G z1,ba X G z2,ba X G z3,ba X G z4,ba X G z5,ba X G z6,ba X G z7,ba X G z8,ba X G z9,ba X G z10,ba X G z11,ba X G z12,ba X G z13,ba X G z14,ba X G z15,ba X G z16,ba X G z17,ba X G z18,ba X G z19⟩
 have F1:=kJ (st:=jAY) l1 c1 k1
 have b1:=F1.binds (ps:=["thing"]) fun _ _ _ _ _ _ us hl=>qQ (P:=fun us=>bindArgs _ ⟨us,[]⟩=pure (List.zip _ us)) hl fun _=>rfl
 have F2:=kJ (st:=yO) l2 c2 k2
 have b2:=F2.binds (ps:=["thing"]) fun _ _ _ _ _ _ us hl=>qQ (P:=fun us=>bindArgs _ ⟨us,[]⟩=pure (List.zip _ us)) hl fun _=>rfl
 have F3:=kJ (st:=jBR) l3 c3 k3
 have b3:=F3.binds (ps:=["thing","many"]) fun _ _ _ _ _ _ us hl=>lenU2 (P:=fun us=>bindArgs _ ⟨us,[]⟩=pure (List.zip _ us)) hl fun _ _=>rfl
 have F4:=kJ (st:=sMask) l4 c4 k4
 have b4:=F4.binds (ps:=["lot"]) fun _ _ _ _ _ _ us hl=>qQ (P:=fun us=>bindArgs _ ⟨us,[]⟩=pure (List.zip _ us)) hl fun _=>rfl
 have F5:=kJ (st:=kP) l5 c5 k5
 have b5:=F5.binds (ps:=["box","things","pieces"]) fun _ _ _ _ _ _ us hl=>lenU3 (P:=fun us=>bindArgs _ ⟨us,[]⟩=pure (List.zip _ us)) hl fun _ _ _=>rfl
 have F6:=kJ (st:=kX) l6 c6 k6
 have b6:=F6.binds (ps:=["box"]) fun _ _ _ _ _ _ us hl=>qQ (P:=fun us=>bindArgs _ ⟨us,[]⟩=pure (List.zip _ us)) hl fun _=>rfl
 have F7:=kJ (st:=sFull) l7 c7 k7
 have b7:=F7.binds (ps:=["choices"]) fun _ _ _ _ _ _ us hl=>qQ (P:=fun us=>bindArgs _ ⟨us,[]⟩=pure (List.zip _ us)) hl fun _=>rfl
 have F8:=kJ (st:=sAt) l8 c8 k8
 have b8:=F8.binds (ps:=["choices","mask"]) fun _ _ _ _ _ _ us hl=>lenU2 (P:=fun us=>bindArgs _ ⟨us,[]⟩=pure (List.zip _ us)) hl fun _ _=>rfl
 have F9:=kJ (st:=sMet) l9 c9 k9
 have b9:=F9.binds (ps:=["choices"]) fun _ _ _ _ _ _ us hl=>qQ (P:=fun us=>bindArgs _ ⟨us,[]⟩=pure (List.zip _ us)) hl fun _=>rfl
 have F10:=kJ (st:=qH) l10 c10 k10
 have b10:=F10.binds (ps:=["choices","at_end","join"]) fun _ _ _ _ _ _ us hl=>lenU3 (P:=fun us=>bindArgs _ ⟨us,[]⟩=pure (List.zip _ us)) hl fun _ _ _=>rfl
 have F11:=kJ (st:=qD) l11 c11 k11
 have b11:=F11.binds (ps:=["choices"]) fun _ _ _ _ _ _ us hl=>qQ (P:=fun us=>bindArgs _ ⟨us,[]⟩=pure (List.zip _ us)) hl fun _=>rfl
 have F12:=kJ (st:=sMany) l12 c12 k12
 have b12:=F12.binds (ps:=["box"]) fun _ _ _ _ _ _ us hl=>qQ (P:=fun us=>bindArgs _ ⟨us,[]⟩=pure (List.zip _ us)) hl fun _=>rfl
 have F13:=kJ (st:=yP) l13 c13 k13
 have b13:=F13.binds (ps:=["box","some"]) fun _ _ _ _ _ _ us hl=>lenU2 (P:=fun us=>bindArgs _ ⟨us,[]⟩=pure (List.zip _ us)) hl fun _ _=>rfl
 have F14:=kJ (st:=yG) l14 c14 k14
 have b14:=F14.binds (ps:=["box"]) fun _ _ _ _ _ _ us hl=>qQ (P:=fun us=>bindArgs _ ⟨us,[]⟩=pure (List.zip _ us)) hl fun _=>rfl
 have F15:=kJ (st:=sCell) l15 c15 k15
 have b15:=F15.binds (ps:=["script","k"]) fun _ _ _ _ _ _ us hl=>lenU2 (P:=fun us=>bindArgs _ ⟨us,[]⟩=pure (List.zip _ us)) hl fun _ _=>rfl
 have F16:=kJ (st:=sPot) l16 c16 k16
 have b16:=F16.binds (ps:=["cell"]) fun _ _ _ _ _ _ us hl=>qQ (P:=fun us=>bindArgs _ ⟨us,[]⟩=pure (List.zip _ us)) hl fun _=>rfl
 have F17:=kJ (st:=sTake) l17 c17 k17
 have b17:=F17.binds (ps:=["pot","wide"]) fun _ _ _ _ _ _ us hl=>lenU2 (P:=fun us=>bindArgs _ ⟨us,[]⟩=pure (List.zip _ us)) hl fun _ _=>rfl
 have F18:=kJ (st:=sLot) l18 c18 k18
 have b18:=F18.binds (ps:=["pot","wide"]) fun _ _ _ _ _ _ us hl=>lenU2 (P:=fun us=>bindArgs _ ⟨us,[]⟩=pure (List.zip _ us)) hl fun _ _=>rfl
 have F19:=kJ (st:=sBox) l19 c19 k19
 have b19:=F19.binds (ps:=["pot","most_things","most_pieces"]) fun _ _ _ _ _ _ us hl=>lenU3 (P:=fun us=>bindArgs _ ⟨us,[]⟩=pure (List.zip _ us)) hl fun _ _ _=>rfl
 have F20:=kJ (st:=qI) l20 c20 k20
 have b20:=F20.binds (ps:=["box","thing","held"]) fun _ _ _ _ _ _ us hl=>lenU3 (P:=fun us=>bindArgs _ ⟨us,[]⟩=pure (List.zip _ us)) hl fun _ _ _=>rfl
 have F21:=kJ (st:=qP) l21 c21 k21
 have b21:=F21.binds (ps:=["box"]) fun _ _ _ _ _ _ us hl=>qQ (P:=fun us=>bindArgs _ ⟨us,[]⟩=pure (List.zip _ us)) hl fun _=>rfl
 have F22:=kJ (st:=jAO) l22 c22 k22
 have b22:=F22.binds (ps:=["box","covering"]) fun _ _ _ _ _ _ us hl=>lenU2 (P:=fun us=>bindArgs _ ⟨us,[]⟩=pure (List.zip _ us)) hl fun _ _=>rfl
 have F23:=kJ (st:=jBS) l23 c23 k23
 have b23:=F23.binds (ps:=["script","k","things","pieces"]) fun _ _ _ _ _ _ us hl=>lenU4 (P:=fun us=>bindArgs _ ⟨us,[]⟩=pure (List.zip _ us)) hl fun _ _ _ _=>rfl
 have F24:=kJ (st:=sFits) l24 c24 k24
 have b24:=F24.binds (ps:=["box","k","done"]) fun _ _ _ _ _ _ us hl=>lenU3 (P:=fun us=>bindArgs _ ⟨us,[]⟩=pure (List.zip _ us)) hl fun _ _ _=>rfl
 have F25:=kJ (st:=jBQ) l25 c25 k25
 have b25:=F25.binds (ps:=["one","other"]) fun _ _ _ _ _ _ us hl=>lenU2 (P:=fun us=>bindArgs _ ⟨us,[]⟩=pure (List.zip _ us)) hl fun _ _=>rfl
 have F26:=kJ (st:=jBT) l26 c26 k26
 have b26:=F26.binds (ps:=["pot","box"]) fun _ _ _ _ _ _ us hl=>lenU2 (P:=fun us=>bindArgs _ ⟨us,[]⟩=pure (List.zip _ us)) hl fun _ _=>rfl
 have F27:=kJ (st:=sLaw) l27 c27 k27
 refine⟨PySem.W.fnOf "law" "law" (jG sLaw) (jB sLaw) (j6 sLaw) .none kV27 dc27 pm27 an27 cd27 ct27,fun s v=> .of_eq rfl,fun base KB _=>?_⟩
 have M:=fun {x:Str}{f:Addr}(a:PySem.W.nsIn K mainGlobals x=some (some (.ref f)))=>gn X G a
 have M':=fun {x:Str}{v:Value}(a:PySem.W.nsIn K mainGlobals x=some (some v))=>gn X G a
 have CD1:PySem.W.CodeHd base cc1 tb1:=eZ KB hcd1
 have FC1:FunC K "picked" "picked" kP f5 _ cc1:=⟨_,_,_,_,_,_,_,_,rfl,cde1 ▸ l5,cde1 ▸ c5⟩
 have CD2:PySem.W.CodeHd base cc2 tb2:=eZ KB hcd2
 have FC2:FunC K "ways_of" "ways_of" qD f11 _ cc2:=⟨_,_,_,_,_,_,_,_,rfl,cde2 ▸ l11,cde2 ▸ c11⟩
 have CD3:PySem.W.CodeHd base cc3 tb3:=eZ KB hcd3
 have FC3:FunC K "lightest" "lightest" yG f14 _ cc3:=⟨_,_,_,_,_,_,_,_,rfl,cde3 ▸ l14,cde3 ▸ c14⟩
 have BM:BltAt base mg:=⟨bmA,_,gn X G xb1,xb3,xb4,KB _ _ xb2,rfl,rfl,rfl⟩
 have C1:Can l.prog w K mg base "is_whole" 1 f1 _ ["thing"] spWh:=⟨jLX F1 T,M a1,k1,b1⟩
 have C2:Can l.prog w K mg base "is_rising" 2 f2 _ ["thing"] (spB risB):=⟨jLZ F2 T C1,M a2,k2,b2⟩
 have C3:Can l.prog w K mg base "is_lot" 3 f3 _ ["thing","many"] (spB2 lotB):=⟨jOQ F3 T C2,M a3,k3,b3⟩
 have C4:Can l.prog w K mg base "mask_of" 1 f4 _ ["lot"] jGC:=⟨jS0 F4 T,M a4,k4,b4⟩
 have C5:Can l.prog w K mg base "picked" 2 f5 _ ["box","things","pieces"] (jDE tb1):=⟨jM0 FC1 T CD1 BM,M a5,k5,b5⟩
 have C6:Can l.prog w K mg base "choices_of" 2 f6 _ ["box"] jAS:=⟨jKA F6 T C4,M a6,k6,b6⟩
 have C7:Can l.prog w K mg base "full_mask" 1 f7 _ ["choices"] jEQ:=⟨jS3 F7 T,M a7,k7,b7⟩
 have C8:Can l.prog w K mg base "choices_at" 1 f8 _ ["choices","mask"] spAt:=⟨ok_at F8 T,M a8,k8,b8⟩
 have C9:Can l.prog w K mg base "masks_met" 2 f9 _ ["choices"] spMet:=⟨jU6 F9 T C7 C8,M a9,k9,b9⟩
 have C10:Can l.prog w K mg base "gathered" 4 f10 _ ["choices","at_end","join"] jHQ:=⟨FnOk.ex fun x o=>(jM1 F10 T C7 C9 C8 ((jU9 o T).mono (by decide)) ZT.st (zhW.ok _ _) (RWay.ok _) o).ok,M a10,k10,b10⟩
 have C11:Can l.prog w K mg base "ways_of" 5 f11 _ ["choices"] (jIV tb2):=⟨jRY FC2 T CD2 BM C10,M a11,k11,b11⟩
 have C12:Can l.prog w K mg base "many" 6 f12 _ ["box"] (jBO tb2):=⟨jS1 F12 T C6 C11,M a12,k12,b12⟩
 have C13:Can l.prog w K mg base "behind" 4 f13 _ ["box","some"] (jA6 tb1):=⟨jM3 F13 T C3 C5,M a13,k13,b13⟩
 have C14:Can l.prog w K mg base "lightest" 5 f14 _ ["box"] (jAK tb3):=⟨jOO FC3 T CD3 BM C6 (fun cl i=>jM1 F10 T C7 C9 C8 ((jHW T cl i).mono (by decide)) (ZC.st _ _ _) (zhL.ok cl i) (RLt.ok _ _) (yZ i.g)) (M a10) k10 b10,M a14,k14,b14⟩
 have C15:Can l.prog w K mg base "_law_cell_at" 1 f15 _ ["script","k"] (yY K):=⟨jS6 F15 T,M a15,k15,b15⟩
 have C16:Can l.prog w K mg base "_law_pot" 1 f16 _ ["cell"] qN:=⟨jU5 F16 T,M a16,k16,b16⟩
 have C17:Can l.prog w K mg base "_law_take" 1 f17 _ ["pot","wide"] yB:=⟨jRZ F17,M a17,k17,b17⟩
 have C18:Can l.prog w K mg base "_law_lot" 2 f18 _ ["pot","wide"] qK:=⟨jU7 F18 T C17,M a18,k18,b18⟩
 have C19:Can l.prog w K mg base "_law_box" 3 f19 _ ["pot","most_things","most_pieces"] spBox:=⟨jUA F19 T C17 C18,M a19,k19,b19⟩
 have C20:Can l.prog w K mg base "_law_from" 18 f20 _ ["box","thing","held"] (jER 16):=⟨jM2 F20 T (M a20) k20 b20 16,M a20,k20,b20⟩
 have C21:Can l.prog w K mg base "_law_coverings" 19 f21 _ ["box"] jBP:=⟨jS5 F21 T C20,M a21,k21,b21⟩
 have C22:Can l.prog w K mg base "_law_weight" 1 f22 _ ["box","covering"] jA5:=⟨jLY F22 T,M a22,k22,b22⟩
 have C23:Can l.prog w K mg base "_law_drawn" 4 f23 _ ["script","k","things","pieces"] (jAM K):=⟨jOR F23 T C15 C16 C17 C19,M a23,k23,b23⟩
 have C24:Can l.prog w K mg base "_law_fits" 1 f24 _ ["box","k","done"] jIW:=⟨jS4 F24 T,M a24,k24,b24⟩
 have C25:Can l.prog w K mg base "_law_in" 1 f25 _ ["one","other"] jAL:=⟨jOP F25 T,M a25,k25,b25⟩
 have C26:Can l.prog w K mg base "_law_apart" 2 f26 _ ["pot","box"] jAN:=⟨jOS F26 T C17 C24,M a26,k26,b26⟩
 exact jU8 F27 T C15 C16 C23 C21 C26 C25 C13 C12 C14 C22
theorem walk {l:PySem.W.OpenLaw}{q:Program}{loose:List Str}{XP:(Str->Option Value)->Heap->Prop}{YP:World->Heap->Prop}{d:DefRec}{K:Params->W.Frag}(hn:l.most=some 63)(hdf:d.params.defaults=[]){tb1 tb2 tb3:Addr}{cc1 cc2 cc3:Addr}
  (hY:∀ (w:World) (h:Heap),YP w h->(K w.params).In h/\∀ T∈[tb1,tb2,tb3],h.get? T=some (tabObj #[])) (hcd:∀ w:World,codeHdIn (K w.params) cc1 tb1=true/\codeHdIn (K w.params) cc2 tb2=true/\codeHdIn (K w.params) cc3 tb3=true) (hKT:∀ w:World,∀ T∈[tb1,tb2,tb3],(K w.params).lookup T=none) (hnd:([tb1,tb2,tb3]:List Addr).Nodup)
  (F:∀ (w:World) (mg:Str->Option Value) (fa:Addr) (h:Heap),(K w.params).In h->h.Ns mainGlobals mg->mg d.name=some (.ref fa)->
   ∃ fd:FuncData,(∀ (s:Shared) (u:Value),BindsTo s fd ⟨[u],[]⟩ [("script",u)])/\∀ base:Heap,(K w.params).In base->base.Ns mainGlobals mg->FnOk l.prog w (K w.params) mg base CX0 20 fa fd ["script"] (spLaw (K w.params) tb1 tb2 tb3)):
  PySem.W.WalkO q loose XP YP l.row.toRowW d [] (fun f vs=>PySem.call f vs):=
 L2.walk_ofTs (cts:=[(cc1,tb1),(cc2,tb2),(cc3,tb3)]) (n:=63) (k:=20) (x:= "script") (CX:=fun _=>CX0) (sp:=fun w=>spLaw (K w.params) tb1 tb2 tb3) hn (by decide) hdf ⟨rfl,by decide,by decide⟩ hY (fun w p hp=>by
  obtain⟨_h0,_h1,_h2⟩:=hcd w
  simp only [aG,bU,eN] at hp
  rcases hp with rfl | rfl | rfl <;> assumption) hKT F (fun _ H a ns hl hT hS=>⟨a,ns,rfl,hS,hl, .inl (hT _ aE), .inl (hT _ (aK _ aE)), .inl (hT _ (aK _ (aK _ aE))),(by rintro rfl; simp at hnd),(by rintro rfl; simp at hnd),(by rintro rfl; simp at hnd),fun _=>rfl⟩) fun _ _ _ _ _ z=>z
end Eo
open PySem PySem.W PyProof.Rows
set_option maxRecDepth 100000 in
set_option maxHeartbeats 0 in
theorem PySem.Challenge.cw_eachonce_k75_whole_coverings_behind_holds : PySem.Challenge.rw_eachonce_k75_whole_coverings_behind.Holds := by
 w_on
 refine holds_law (by decide+kernel) fun said=>?_
 refine holds_open (q:=Eo.vw) (loose:=[]) (Xt:=fun s=>xlAt Eo.vw [] s&&recOk (RowW.records (OpenRow.toRowW PySem.Challenge.rw_eachonce_k75_whole_coverings_behind.row)) s) (XP:=XL Eo.vw []) (Yf:=Hook.obs Eo.kH) (Ya:=Hook.val Eo.kH) (YP:=Hook.says Eo.kH) (N:=3100) Eo.left (Hook.of Eo.kH) (Hook.keeps Eo.kH) (fun s e=>xl_of s (gw.mp e).1) XL.keeps (by rfl) (by rfl) (by rfl) (fun s e=>recFacts_of (gw.mp e).2) rfl said (by decide+kernel) ⟨rfl,rfl,rfl,rfl,rfl,by decide+kernel⟩ ?hw ?hc
 case hw=>w_witness2
 refine Eo.walk (l:=PySem.Challenge.rw_eachonce_k75_whole_coverings_behind) (K:=Eo.kK) rfl rfl (tb1:=40) (cc1:=42) (tb2:=99) (cc2:=103) (tb3:=118) (cc3:=122) (fun w h Y=>⟨PySem.W.km_in_of Y,PySem.W.km_tabs_of Y⟩) (fun w=>⟨by kernel_rfl,by kernel_rfl,by kernel_rfl⟩) (fun w T hm=>by
   simp only [aG,bU,eN] at hm
   rcases hm with rfl | rfl | rfl <;> kernel_rfl) (by decide) ?F
 case F=>
  intro w mg fa h KX G hmg
  k_fill
  refine' Eo.all_mk KX G hmg _ _ _ _ _ _ _ _ _ _ _ _ _ _ _ _ _ _ _ _ _ _ _ _ _ _ _ _ _ _ _ _ _ _ _ _ _ _ _ _ _ _ _ _ _ _ _ _ _ _ _ _ _ _ _ _ _ _ _ _ _ _ _ _ _ _ _ _ _ _ _ _ _ _ _ _ _ _ _ _ _ _ _ _ _ _ _ _ _ _ _ _ _ _ _ _ _ _ _ _ _ _ _ _ _ _ _ _ _ _ _ _ _ _ _ _ _ _ _ _ _ _ _ _ _ _ _ (tb1:=40) rfl (by kernel_rfl) (tb2:=99) rfl (by kernel_rfl) (tb3:=118) rfl (by kernel_rfl) (bmA:=4) (by kernel_rfl) (by kernel_rfl) (by decide) (by decide)
  all_goals try k_is
end
