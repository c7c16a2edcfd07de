import PyProof.Rows.All
import KE.KDictList
import KE.KDictOf
import KE.KFromBytes
import KE.KIsAll
import KE.KItem
import KE.KLam
import KE.KNestM
import PySem.Challenge.RW_eachonce_k87_coverings_led
noncomputable section
set_option Elab.async false
set_option linter.all false
set_option maxRecDepth 100000
def ac:=@List.length_map
def ae:=@PySem.wpAny_bind
def af:=@PySem.Heap.get?_push_of_some
def ag:=@PySem.wpAny_pure
def ah:=@PySem.sizeLine_eq
def ai:=@Nat.le_refl
def aj:=@List.size_toArray
def ak:=@PySem.Heap.lt_size
def am:=@PySem.Heap.get?_push_size
def ao:=@decide_eq_true
def aq:=@of_decide_eq_true
def ar:=@Bool.false_ne_true
def au:=@List.map_append
def av:=@List.getElem?_eq_some_iff
def aw:=@List.mem_cons_self
def ay:=@List.getElem?_map
def az:=@List.mem_cons
def aA:=@List.mem_cons_of_mem
def aB:=@List.mem_of_getElem?
def aC:=@List.getD_eq_getElem?_getD
def aD:=@if_pos
def aE:=@List.length_append
def aF:=@if_neg
def aG:=@Nat.ne_of_lt
def aI:=@List.mem_singleton
def aJ:=@List.take_add_one
def aK:=@List.getElem?_eq_getElem
def aM:=@List.lookup_cons
def aN:=@decide_eq_false
def aO:=@List.take_length
def aP:=@Nat.lt_of_lt_of_le
def aQ:=@Nat.le_trans
def aR:=@List.mem_append_right
def aS:=@List.all_eq_true
def aU:=@PySem.wpAny_newObj_type
def aV:=@List.mem_map
def aW:=@List.mem_filter
def aX:=@List.length_take_le
def aY:=@List.length_filter_le
def aZ:=@List.length_cons
def ba:=@PySem.W.mg_none_of
def bb:=@PySem.F.plainAttrs_list
def bc:=@List.mem_range
def bd:=@Bool.and_eq_true
def be:=@Option.some.inj
def bf:=@List.append_nil
def bg:=@List.length_take
def bh:=@Nat.zero_le
def bi:=@PyProof.Rows.slot_tuple_getitem
def bn:=@List.filter_append
def bo:=@decide_eq_true_iff
def bp:=@Int.toNat_natCast
def bq:=@Bool.eq_iff_iff
def br:=@PySem.wpAny_holding
def bu:=@PySem.wpAny_field
def bv:=@List.mem_append
def bw:=@PySem.wpAny_callSpecial?_slot
def bz:=@List.not_mem_nil
def bA:=@List.map_cons
def bB:=@PySem.PassesOwn.never
def bC:=@PySem.wpAny_mono
def bD:=@PySem.wpAny_call_entry
def bE:=@Array.length_toList
def bF:=@PySem.Heap.get?_update_other
def bG:=@PySem.Heap.size_push
def bH:=@List.take_of_length_le
def bI:=@Nat.testBit_or
def bJ:=@Bool.eq_false_iff
def bK:=@PySem.F.slot_list_append
def bL:=@PySem.F.type_list_append
def bM:=@List.eraseIdx_eq_take_drop_succ
def bN:=@PySem.Heap.get?_update_self
def bO:=@PySem.codeAny_builtin
def bP:=@Bool.and_false
def bQ:=@Nat.lt_succ_of_lt
def bR:=@PySem.Around.under_plainId
def bS:=@List.mem_of_mem_take
def bU:=@PySem.W.kia_one
def bV:=@Nat.lt_irrefl
def bW:=@List.filter_cons
def bX:=@Nat.zero_testBit
def bY:=@beq_eq_false_iff_ne
def bZ:=@List.map_congr_left
def b7:=@List.length_range
def b8:=@Bool.not_eq_true'
def b9:=@List.nodup_cons
def cb:=@PySem.wpAny_loadPart'
def ce:=@Nat.lt_succ_self
def cf:=@List.any_eq_true
def cg:=@congrArg
def cj:=@Nat.testBit_two_pow
def ck:=@PySem.wpAny_setField_rec
def cm:=@decide_eq_false_iff_not
def cq:=@PyProof.Rows.callWith_type1
def cr:=@Nat.testBit_two_pow_sub_one
def cw:=@List.any_eq_false
def cx:=@List.getElem?_append_right
def cy:=@PySem.mem_of_lookup
def cz:=@List.getElem_of_mem
def cA:=@List.getElem?_append_left
def cB:=@PySem.wpAny_Call_Name_kw
def cC:=@List.pairwise_cons
def cD:=@List.countP_cons
def cF:=@Nat.le_of_lt
def cG:=@List.map_map
def cH:=@List.idxOf_lt_length_iff
def cI:=@PySem.Calls.evalArgs_plain
def cJ:=@Array.toArray_toList
def cK:=@Nat.eq_of_testBit_eq
def cL:=@PySem.wpAny_pyIter_list
def cM:=@PySem.wpAny_setState_of
def cN:=@Nat.not_lt_zero
def cP:=@List.find?_cons
def cQ:=@Nat.testBit_and
def cR:=@List.filter_sublist
def cS:=@Ne.symm
def cU:=@List.length_drop
def cV:=@List.getElem_mem
def cW:=@List.take_append_drop
def cX:=@List.getElem?_eq_none
def cY:=@List.pairwise_iff_getElem
def cZ:=@Classical.byContradiction
def da:=@PySem.wpAny_passesOwn
def db:=@PySem.wpAny_truthy_bool
def de:=@Nat.ne_of_gt
def df:=@PySem.sizeLine_eq
def dg:=@PySem.wpAny_typeOf
def dh:=@or_false
def di:=@Bool.or_true
def dj:=@List.pairwise_map
def dk:=@List.flatMap_cons
def dq:=@Option.isSome_iff_exists
def dr:=@PySem.F.slot_list_extend
def dv:=@PySem.F.type_list_extend
def dw:=@List.getElem?_range
def dy:=@Bool.false_and
def dz:=@List.pairwise_singleton
def dF:=@PySem.codeAny_mono
def dG:=@Nat.lt_trans
def dH:=@PySem.wpAny_execs_nil
def dI:=@List.of_mem_zip
def dJ:=@PySem.plainId_quiet
def dL:=@PySem.wpAny_attempt
def dM:=@List.pairwise_append
def dN:=@Array.getElem?_eq_some_iff
def dO:=@Nat.le_succ
def dP:=@PySem.wpAny_setField
def dQ:=@Nat.pow_le_pow_right
def dR:=@beq_self_eq_true
def dS:=@PySem.wpAny_askSetting
def dU:=@PySem.Around.in1_units
def dW:=@List.ext_getElem
def dX:=@List.getLastD_eq_getLast?
def dY:=@List.getLast?_eq_getElem?
def dZ:=@List.filterMap_cons
def d0:=@List.length_reverse
def eg:=@List.flatMap_append
def eh:=@PySem.wpAny_standAt
def ej:=@PySem.F.args_tuple_add_2
def eF:=@PySem.wpAny_comprehension_free
def eG:=@Bool.true_and
def eH:=@List.length_nil
def eI:=@Int.natCast_nonneg
def eJ:=@PySem.wpAny_rule
def eL:=@List.getElem_idxOf
def eM:=@PySem.F.entry_tuple_add
def eN:=@List.length_eq_zero_iff
def eO:=@List.getElem?_set_self
def eQ:=@PySem.W.cellsFrom_some
def eR:=@List.take_sublist
def eS:=@PySem.F.slot_tuple_add
def eU:=@PySem.wpAny_Call_method_late
def eV:=@PySem.Calls.callWith_builtin
def eW:=@List.reverse_cons
def eX:=@List.map_nil
def eY:=@PySem.codeAny_compStart_list
def eZ:=@Option.some.injEq
def fb:=@PySem.wpAny_runValue
def fe:=@List.nodup_append
def ff:=@Option.map_eq_some_iff
def fg:=@List.pairwise_lt_range
def fh:=@Nat.lt_or_ge
def fj:=@List.length_eq_one_iff
def fk:=@Array.getElem?_setIfInBounds_ne
def fo:=@Array.getElem?_toList
def fq:=@PySem.builtinLookup_eq_fast
def fw:=@PySem.wpAny_load
def fz:=@PySem.wpAny_call
def fE:=@PySem.wpAny_isInstance
def fH:=@PySem.Heap.size_update
def fJ:=@List.flatMap_nil
def fQ:=@List.all_cons
def fX:=@PySem.W.mg_of
def fY:=@List.map_take
def fZ:=@List.getElem?_set_ne
def gb:=@PySem.Around.frames_deeper
def gc:=@List.mem_of_mem_drop
def gd:=@Nat.pow_lt_pow_right
def gf:=@List.map_id
def gg:=@Bool.or_eq_false_iff
def gh:=@List.range_succ
def gj:=@PyProof.Rows.entry_tuple_getitem
def gm:=@PySem.Heap.SameBut.update
def gn:=@List.filter_eq_self
def gq:=@List.all_map
def gt:=@Int.zero_add
def gu:=@List.any_map
def gw:=@PySem.Calls.Name_function_global
def gx:=@Int.fdiv_eq_ediv_of_nonneg
def gy:=@PySem.W.callWith_K
def gz:=@PySem.wpAny_newFunctionEnv_cells
def gA:=@PyProof.Rows.slicePart_none
def gB:=@PyProof.Rows.args_tuple_getitem
def gC:=@PySem.call_meets
def gE:=@List.nodup_nil
def gF:=@PySem.SeqAt.RcNeAt.lists_lengths
def gG:=@PySem.F.excBase_ValueError
def gH:=@Nat.mod_two_eq_zero_or_one
def gI:=@List.find?_eq_none
def gJ:=@PySem.Calls.call_function_entry
def gK:=@List.mem_of_find?_eq_some
def gL:=@if_true
def gM:=@PySem.wpAny_sequenceKey
def gN:=@Nat.lt_trichotomy
def gO:=@PySem.wpAny_of_eq
def gP:=@Nat.or_lt_two_pow
def gQ:=@decide_eq_true_eq
def gR:=@PySem.Paired.length
def gS:=@PySem.rangeSize_one
def gU:=@List.getElem?_take_of_lt
def gW:=@PySem.eval_ListComp
def gX:=@Bool.not_true
def gY:=@Bool.and_true
def gZ:=@List.Pairwise.imp_of_mem
def g0:=@PySem.F.slot_tuple_index
def g4:=@PySem.F.type_tuple_index
def g5:=@List.find?_range_eq_some
def g6:=@PySem.wpAny_execs_cons
def g7:=@List.getElem?_replicate
def g8:=@PySem.noFill_tuple_add
def g9:=@PySem.entryFor_of_fast
def hG:=@PySem.F.plain_list_iadd
def hU:=@List.range'_succ
def hV:=@PySem.F.attr_ValueError
def hW:=@decide_eq_decide
def hZ:=@PySem.F.slot_list_count
def ic:=@PySem.F.type_list_count
def ie:=@PySem.Walks.list
def ig:=@Nat.testBit_lt_two_pow
def ii:=@List.getElem_cons_drop
def ij:=@List.flatMap_singleton
def ik:=@List.length_set
def im:=@PySem.typeLookup_type
def io:=@PySem.pushCells_keeps
def ip:=@Bool.or_eq_true
def iq:=@and_congr_right
def ir:=@Nat.two_pow_pos
def iu:=@List.length_replicate
def iw:=@PySem.F.slot_set_iter
def ix:=@List.mem_append_left
def iy:=@PySem.isSubtype_type
def iz:=@PySem.isSubtype_stop
def iA:=@List.range_eq_range'
def iB:=@PySem.W.looks_findIn
def iC:=@List.getElem?_of_mem
def iD:=@Bool.and_eq_true_iff
def iE:=@PySem.W.callWith_of
def iF:=@PySem.W.codeHd_of_K
def iG:=@Nat.mul_le_mul_left
def iH:=@List.mem_map_of_mem
def iI:=@List.map_drop
def iJ:=@Bool.false_or
def iK:=@Array.append_assoc
def iL:=@List.mem_filterMap
def iM:=@PySem.W.codeRec_of
def iN:=@List.contains_cons
def iO:=@beq_iff_eq
def iP:=@List.zip_cons_cons
def iQ:=@Int.emod_lt_of_pos
def iR:=@Nat.add_comm
def iS:=@Int.le_trans
def iT:=@Sum.inl.inj
def iU:=@Int.mul_one
def iV:=@Int.le_refl
def iW:=@if_false
def iX:=@not_or
open PySem.W (clsIn codeHdIn envX findIn findObj fnMade instObj keepIn keeps_F kitOne kitx_dict kitx_list lookIn methodObj mg_of mroIn plainGet specialIn tabObj takesIn)
open List (range')
open Nat (strongRecOn)
open Option (bind_some getD_none map_some)
namespace L2
open PySem PySem.Spec PyProof.Rows
def qD (s:Stmt):Arguments:=match s with
 | .FunctionDef _ a _ _ _ _ _ _ _ _=>a
 | _=> { posonlyargs:=[],args:=[],vararg:=none,kwonlyargs:=[],kw_defaults:=[],kwarg:=none,defaults:=[]}
def jN (s:Stmt):List Stmt:=match s with
 | .FunctionDef _ _ b _ _ _ _ _ _ _=>b
 | _=> []
def jA (s:Stmt):Scope:=match s with
 | .FunctionDef _ _ _ _ _ _ sc _ _ _=>sc
 | _=> { kind:= .function,names:=[],isGenerator:=false,isCoroutine:=false}
end L2
namespace Eo
open PySem L2
noncomputable def top (i:Nat):Stmt:=PySem.Challenge.pw_eachonce_k87_coverings_led.main.body.getD i (.Pass ⟨0,0,0,0⟩)
abbrev jBZ:Stmt:=top 1
abbrev jAR:Stmt:=top 2
abbrev jD4:Stmt:=top 3
abbrev sMask:Stmt:=top 4
abbrev jD1:Stmt:=top 6
abbrev yL:Stmt:=top 7
abbrev sCov:Stmt:=top 21
abbrev jBV:Stmt:=top 23
abbrev jAS:Stmt:=top 24
abbrev xH:Stmt:=top 26
abbrev jD2:Stmt:=top 27
abbrev jB0:Stmt:=top 28
abbrev jBC:Stmt:=top 29
abbrev qI:Stmt:=top 30
abbrev jD3:Stmt:=top 31
abbrev jB2:Stmt:=top 32
abbrev sCell:Stmt:=top 34
abbrev sPot:Stmt:=top 35
abbrev sTake:Stmt:=top 36
abbrev sLot:Stmt:=top 37
abbrev sBox:Stmt:=top 38
abbrev jDU:Stmt:=top 39
abbrev xF:Stmt:=top 40
abbrev sCovs:Stmt:=top 41
abbrev jD5:Stmt:=top 42
abbrev sFits:Stmt:=top 43
abbrev qB:Stmt:=top 44
abbrev jD6:Stmt:=top 45
abbrev jC6:Stmt:=top 46
abbrev jBU:Stmt:=top 47
abbrev qC:Stmt:=top 48
abbrev jB1:Stmt:=top 49
abbrev xA:Stmt:=top 50
abbrev sLaw:Stmt:=top 51
noncomputable def kC (x:Str)(t:Nat)(l n:Int)(a:Nat)(X Y:Value)(z:Nat)(u:Int)(v:Nat):Obj:=⟨.type "code",none, .fields #[.str x t, .str x (t+1), .str "/claim/cut.py" (t+2), .int l 0, .int n 0, .int 0 0, .int 0 0, .int 3 0, .ref a, .bool true, .int 181 0, .ref (a+1), .none,X,Y, .ref z, .int u 0, .int l 0, .str "/claim/cut.py" v],#[]⟩
noncomputable def kF (x:Str)(s:Stmt)(m:Str)(t c:Nat):Obj:=⟨.type "function",none, .func (PySem.W.fnOf x x (qD s) (jN s) (jA s) .none .none .none (.str m t) none (.ref c) .none),#[]⟩
noncomputable def kE (P:Params)(x:Str)(t:Nat)(v:Value):DictEntry:=⟨PyData.keyHash P x, .str x t,v⟩
noncomputable def kM (P:Params):Obj:=
 let e (x:Str) (t:Nat) (v:Value):DictEntry:=⟨PyData.keyHash P x, .str x t,v⟩
 ⟨.type "dict",none, .dict #[e "__name__" 165 (.str "law_eachonce_k87_coverings_led" 494),e "__doc__" 166 (.none),e "__package__" 167 (.none),e "__loader__" 168 (.builtin "__main__.__loader__#opaque"),e "__spec__" 169 (.none),e "__annotations__" 170 (.ref 6),e "__builtins__" 171 (.ref 4),e "__file__" 173 (.str "/claim/cut.py" 172),e "__cached__" 174 (.none),e "is_whole" 195 (.ref 21),e "is_rising" 201 (.ref 26),e "is_lot" 209 (.ref 33),e "mask_of" 215 (.ref 38),e "musts_of" 223 (.ref 43),e "picked" 229 (.ref 48),e "OnceError" 249 (.ref 58),e "NoText" 274 (.ref 78),e "NoCovering" 290 (.ref 90),e "TooMany" 306 (.ref 102),e "NoThing" 322 (.ref 114),e "NoPiece" 338 (.ref 126),e "NoWeight" 354 (.ref 138),e "NoOrder" 370 (.ref 150),e "Held" 386 (.ref 162),e "NoDeed" 402 (.ref 174),e "NoRow" 418 (.ref 186),e "is_covering" 426 (.ref 193),e "forced_next" 434 (.ref 198),e "behind" 440 (.ref 203),e "is_idle" 448 (.ref 208),e "least_idle" 456 (.ref 215),e "step_of" 462 (.ref 220),e "traced" 468 (.ref 225),e "turned_smaller" 478 (.ref 232),e "led_back" 487 (.ref 239),e "led_there" 493 (.ref 244),e "_law_cell_at" 503 (.ref 251),e "_law_pot" 513 (.ref 258),e "_law_take" 522 (.ref 265),e "_law_lot" 528 (.ref 270),e "_law_box" 534 (.ref 275),e "_law_whole" 541 (.ref 282),e "_law_from" 547 (.ref 287),e "_law_coverings" 553 (.ref 292),e "_law_drawn" 564 (.ref 299),e "_law_fits" 570 (.ref 304),e "_law_behind" 576 (.ref 309),e "_law_apart" 587 (.ref 316),e "_law_idle" 593 (.ref 321),e "_law_step" 599 (.ref 326),e "_law_smaller" 605 (.ref 331),e "_law_others" 611 (.ref 336),e "_law_told" 621 (.ref 343),e "law" 627 (.ref 348)] 54,#[]⟩
noncomputable def kK (P:Params):W.Frag:=(nat_lit 3,kM P)::(nat_lit 4,⟨.type "module",some 0, .plain,#[]⟩)::(nat_lit 20,kC "is_whole" 189 2 1 15 (.ref 17) (.ref 18) 19 193 194)::(nat_lit 21,kF "is_whole" jBZ "eachonce.kinds" 187 20)::(nat_lit 25,kC "is_rising" 196 4 1 22 (.none) (.none) 24 199 200)::(nat_lit 26,kF "is_rising" jAR "eachonce.kinds" 187 25)::(nat_lit 32,kC "is_lot" 202 10 2 27 (.ref 29) (.ref 30) 31 207 208)::(nat_lit 33,kF "is_lot" jD4 "eachonce.kinds" 187 32)::(nat_lit 37,kC "mask_of" 210 14 1 34 (.none) (.none) 36 213 214)::(nat_lit 38,kF "mask_of" sMask "eachonce.kinds" 187 37)::(nat_lit 42,kC "musts_of" 218 17 1 39 (.none) (.none) 41 221 222)::(nat_lit 43,kF "musts_of" jD1 "eachonce.boxes" 216 42)::(nat_lit 47,kC "picked" 224 20 3 44 (.none) (.none) 46 227 228)::(nat_lit 48,kF "picked" yL "eachonce.boxes" 216 47)::(nat_lit 57,⟨.type "dict",none, .dict #[kE P "__module__" 239 (.str "eachonce.errors" 230),kE P "__firstlineno__" 243 (.int 27 242),kE P "__static_attributes__" 244 (.ref 56),kE P "__weakref__" 246 (.ref 59),kE P "__doc__" 247 (.none)] 3,#[]⟩)::(nat_lit 58,⟨.type "type",none, .cls { name:= "OnceError",bases:=[.type "ValueError"],mro:=[.ref 58, .type "ValueError", .type "Exception", .type "BaseException", .type "object"],ns:=57,qualname:= "OnceError",subclasses:=[.ref 78, .ref 90, .ref 102, .ref 114, .ref 126, .ref 138, .ref 150, .ref 162, .ref 174, .ref 186]},#[some (.ref 49),none,some (.str "OnceError" 232),some (.str "OnceError" 240),some (.builtin "ValueError.__new__"),some (.bool true)]⟩)::(nat_lit 78,⟨.type "type",none, .cls { name:= "NoText",bases:=[.ref 58],mro:=[.ref 78, .ref 58, .type "ValueError", .type "Exception", .type "BaseException", .type "object"],ns:=77,qualname:= "NoText",subclasses:=[]},#[some (.ref 62),none,some (.str "NoText" 250),some (.str "NoText" 258),some (.builtin "ValueError.__new__"),some (.bool true)]⟩)::(nat_lit 89,⟨.type "dict",none, .dict #[kE P "__module__" 282 (.str "eachonce.errors" 230),kE P "__firstlineno__" 286 (.int 34 285),kE P "__static_attributes__" 287 (.ref 88),kE P "__doc__" 288 (.none)] 2,#[]⟩)::(nat_lit 90,⟨.type "type",none, .cls { name:= "NoCovering",bases:=[.ref 58],mro:=[.ref 90, .ref 58, .type "ValueError", .type "Exception", .type "BaseException", .type "object"],ns:=89,qualname:= "NoCovering",subclasses:=[]},#[some (.ref 81),none,some (.str "NoCovering" 275),some (.str "NoCovering" 283),some (.builtin "ValueError.__new__"),some (.bool true)]⟩)::(nat_lit 102,⟨.type "type",none, .cls { name:= "TooMany",bases:=[.ref 58],mro:=[.ref 102, .ref 58, .type "ValueError", .type "Exception", .type "BaseException", .type "object"],ns:=101,qualname:= "TooMany",subclasses:=[]},#[some (.ref 93),none,some (.str "TooMany" 291),some (.str "TooMany" 299),some (.builtin "ValueError.__new__"),some (.bool true)]⟩)::(nat_lit 114,⟨.type "type",none, .cls { name:= "NoThing",bases:=[.ref 58],mro:=[.ref 114, .ref 58, .type "ValueError", .type "Exception", .type "BaseException", .type "object"],ns:=113,qualname:= "NoThing",subclasses:=[]},#[some (.ref 105),none,some (.str "NoThing" 307),some (.str "NoThing" 315),some (.builtin "ValueError.__new__"),some (.bool true)]⟩)::(nat_lit 126,⟨.type "type",none, .cls { name:= "NoPiece",bases:=[.ref 58],mro:=[.ref 126, .ref 58, .type "ValueError", .type "Exception", .type "BaseException", .type "object"],ns:=125,qualname:= "NoPiece",subclasses:=[]},#[some (.ref 117),none,some (.str "NoPiece" 323),some (.str "NoPiece" 331),some (.builtin "ValueError.__new__"),some (.bool true)]⟩)::(nat_lit 138,⟨.type "type",none, .cls { name:= "NoWeight",bases:=[.ref 58],mro:=[.ref 138, .ref 58, .type "ValueError", .type "Exception", .type "BaseException", .type "object"],ns:=137,qualname:= "NoWeight",subclasses:=[]},#[some (.ref 129),none,some (.str "NoWeight" 339),some (.str "NoWeight" 347),some (.builtin "ValueError.__new__"),some (.bool true)]⟩)::(nat_lit 150,⟨.type "type",none, .cls { name:= "NoOrder",bases:=[.ref 58],mro:=[.ref 150, .ref 58, .type "ValueError", .type "Exception", .type "BaseException", .type "object"],ns:=149,qualname:= "NoOrder",subclasses:=[]},#[some (.ref 141),none,some (.str "NoOrder" 355),some (.str "NoOrder" 363),some (.builtin "ValueError.__new__"),some (.bool true)]⟩)::(nat_lit 162,⟨.type "type",none, .cls { name:= "Held",bases:=[.ref 58],mro:=[.ref 162, .ref 58, .type "ValueError", .type "Exception", .type "BaseException", .type "object"],ns:=161,qualname:= "Held",subclasses:=[]},#[some (.ref 153),none,some (.str "Held" 371),some (.str "Held" 379),some (.builtin "ValueError.__new__"),some (.bool true)]⟩)::(nat_lit 174,⟨.type "type",none, .cls { name:= "NoDeed",bases:=[.ref 58],mro:=[.ref 174, .ref 58, .type "ValueError", .type "Exception", .type "BaseException", .type "object"],ns:=173,qualname:= "NoDeed",subclasses:=[]},#[some (.ref 165),none,some (.str "NoDeed" 387),some (.str "NoDeed" 395),some (.builtin "ValueError.__new__"),some (.bool true)]⟩)::(nat_lit 186,⟨.type "type",none, .cls { name:= "NoRow",bases:=[.ref 58],mro:=[.ref 186, .ref 58, .type "ValueError", .type "Exception", .type "BaseException", .type "object"],ns:=185,qualname:= "NoRow",subclasses:=[]},#[some (.ref 177),none,some (.str "NoRow" 403),some (.str "NoRow" 411),some (.builtin "ValueError.__new__"),some (.bool true)]⟩)::(nat_lit 192,kC "is_covering" 421 53 2 189 (.none) (.none) 191 424 425)::(nat_lit 193,kF "is_covering" sCov "eachonce.coverings" 419 192)::(nat_lit 197,kC "forced_next" 429 61 2 194 (.none) (.none) 196 432 433)::(nat_lit 198,kF "forced_next" jBV "eachonce.needs" 427 197)::(nat_lit 202,kC "behind" 435 68 2 199 (.none) (.none) 201 438 439)::(nat_lit 203,kF "behind" jAS "eachonce.needs" 427 202)::(nat_lit 207,kC "is_idle" 443 80 2 204 (.none) (.none) 206 446 447)::(nat_lit 208,kF "is_idle" xH "eachonce.smaller" 441 207)::(nat_lit 214,kC "least_idle" 449 87 1 209 (.ref 211) (.ref 212) 213 454 455)::(nat_lit 215,kF "least_idle" jD2 "eachonce.smaller" 441 214)::(nat_lit 219,kC "step_of" 457 92 1 216 (.none) (.none) 218 460 461)::(nat_lit 220,kF "step_of" jB0 "eachonce.smaller" 441 219)::(nat_lit 224,kC "traced" 463 102 2 221 (.none) (.none) 223 466 467)::(nat_lit 225,kF "traced" jBC "eachonce.smaller" 441 224)::(nat_lit 231,kC "turned_smaller" 469 104 1 226 (.ref 228) (.ref 229) 230 476 477)::(nat_lit 232,kF "turned_smaller" qI "eachonce.smaller" 441 231)::(nat_lit 238,kC "led_back" 479 112 2 233 (.ref 235) (.ref 236) 237 485 486)::(nat_lit 239,kF "led_back" jD3 "eachonce.smaller" 441 238)::(nat_lit 243,kC "led_there" 488 117 2 240 (.none) (.none) 242 491 492)::(nat_lit 244,kF "led_there" jB2 "eachonce.smaller" 441 243)::(nat_lit 250,kC "_law_cell_at" 496 122 2 245 (.ref 247) (.ref 248) 249 501 502)::(nat_lit 251,kF "_law_cell_at" sCell "law_eachonce_k87_coverings_led" 494 250)::(nat_lit 257,kC "_law_pot" 504 126 1 252 (.ref 254) (.ref 255) 256 511 512)::(nat_lit 258,kF "_law_pot" sPot "law_eachonce_k87_coverings_led" 494 257)::(nat_lit 264,kC "_law_take" 514 135 2 259 (.ref 261) (.ref 262) 263 520 521)::(nat_lit 265,kF "_law_take" sTake "law_eachonce_k87_coverings_led" 494 264)::(nat_lit 269,kC "_law_lot" 523 139 2 266 (.none) (.none) 268 526 527)::(nat_lit 270,kF "_law_lot" sLot "law_eachonce_k87_coverings_led" 494 269)::(nat_lit 274,kC "_law_box" 529 148 3 271 (.none) (.none) 273 532 533)::(nat_lit 275,kF "_law_box" sBox "law_eachonce_k87_coverings_led" 494 274)::(nat_lit 281,kC "_law_whole" 535 166 1 276 (.ref 278) (.ref 279) 280 539 540)::(nat_lit 282,kF "_law_whole" jDU "law_eachonce_k87_coverings_led" 494 281)::(nat_lit 286,kC "_law_from" 542 168 3 283 (.none) (.none) 285 545 546)::(nat_lit 287,kF "_law_from" xF "law_eachonce_k87_coverings_led" 494 286)::(nat_lit 291,kC "_law_coverings" 548 181 1 288 (.none) (.none) 290 551 552)::(nat_lit 292,kF "_law_coverings" sCovs "law_eachonce_k87_coverings_led" 494 291)::(nat_lit 298,kC "_law_drawn" 554 183 4 293 (.ref 295) (.ref 296) 297 562 563)::(nat_lit 299,kF "_law_drawn" jD5 "law_eachonce_k87_coverings_led" 494 298)::(nat_lit 303,kC "_law_fits" 565 188 3 300 (.none) (.none) 302 568 569)::(nat_lit 304,kF "_law_fits" sFits "law_eachonce_k87_coverings_led" 494 303)::(nat_lit 308,kC "_law_behind" 571 190 2 305 (.none) (.none) 307 574 575)::(nat_lit 309,kF "_law_behind" qB "law_eachonce_k87_coverings_led" 494 308)::(nat_lit 315,kC "_law_apart" 577 199 2 310 (.ref 312) (.ref 313) 314 585 586)::(nat_lit 316,kF "_law_apart" jD6 "law_eachonce_k87_coverings_led" 494 315)::(nat_lit 320,kC "_law_idle" 588 207 2 317 (.none) (.none) 319 591 592)::(nat_lit 321,kF "_law_idle" jC6 "law_eachonce_k87_coverings_led" 494 320)::(nat_lit 325,kC "_law_step" 594 215 1 322 (.none) (.none) 324 597 598)::(nat_lit 326,kF "_law_step" jBU "law_eachonce_k87_coverings_led" 494 325)::(nat_lit 330,kC "_law_smaller" 600 224 1 327 (.none) (.none) 329 603 604)::(nat_lit 331,kF "_law_smaller" qC "law_eachonce_k87_coverings_led" 494 330)::(nat_lit 335,kC "_law_others" 606 241 2 332 (.none) (.none) 334 609 610)::(nat_lit 336,kF "_law_others" jB1 "law_eachonce_k87_coverings_led" 494 335)::(nat_lit 342,kC "_law_told" 612 246 2 337 (.ref 339) (.ref 340) 341 619 620)::(nat_lit 343,kF "_law_told" xA "law_eachonce_k87_coverings_led" 494 342)::(nat_lit 347,kC "law" 622 257 1 344 (.none) (.none) 346 625 626)::(nat_lit 348,kF "law" sLaw "law_eachonce_k87_coverings_led" 494 347)::[]
noncomputable def kA:List Addr:=[3,4,20,21,25,26,32,33,37,38,42,43,47,48,57,58,78,89,90,102,114,126,138,150,162,174,186,192,193,197,198,202,203,207,208,214,215,219,220,224,225,231,232,238,239,243,244,250,251,257,258,264,265,269,270,274,275,281,282,286,287,291,292,298,299,303,304,308,309,315,316,320,321,325,326,330,331,335,336,342,343,347,348]
noncomputable def vw:Program:= { PySem.Challenge.pw_eachonce_k87_coverings_led with main:= { PySem.Challenge.pw_eachonce_k87_coverings_led.main with body:=[top 1,top 2,top 3,top 4,top 6,top 7,top 9,top 10,top 11,top 12,top 13,top 14,top 15,top 16,top 17,top 18,top 19,top 21,top 23,top 24,top 26,top 27,top 28,top 29,top 30,top 31,top 32,top 34,top 35,top 36,top 37,top 38,top 39,top 40,top 41,top 42,top 43,top 44,top 45,top 46,top 47,top 48,top 49,top 50,top 51]}}
theorem kA_eq:∀ P,kA=(kK P).map (·.1):=fun _=>by kernel_rfl
noncomputable abbrev kH:PySem.W.Hook:=PySem.W.kmHook kK kA kA_eq [45]
set_option maxHeartbeats 0 in
theorem left:PySem.W.LeftO PySem.Challenge.rw_eachonce_k87_coverings_led.prog vw [] (fun s=>PySem.W.xlAt vw [] s&&PySem.W.recOk (PySem.W.RowW.records (PySem.W.OpenRow.toRowW PySem.Challenge.rw_eachonce_k87_coverings_led.row)) s) (PySem.W.Hook.obs kH) (PySem.W.Hook.val kH) 7300:=fun w=>by kernel_rfl
end Eo
section
namespace L2
open PySem PySem.Spec PyProof.Rows
abbrev Key:=Sum Int Str
def keyIs:Key->Value->Bool
 | .inl k,v=>Value.isInt k v
 | .inr x,v=>Value.isStrOf x v
def keyH (w:World):Key->Int
 | .inl k=>hashInt k
 | .inr x=>hashStr w x
theorem jA0:∀ {k:Key}{v:Value},keyIs k v=true->(∃ i t,k=Sum.inl i/\v=Value.int i t)\/(∃ x t,k=Sum.inr x/\v=Value.str x t)
 | .inl i,v,h=>by
  obtain⟨t,e⟩:=Value.isInt_shape (k:=i) (v:=v) h
  exact .inl ⟨i,t,rfl,e⟩
 | .inr x,v,h=>by
  obtain⟨t,e⟩:=Value.isStrOf_shape (x:=x) (v:=v) h
  exact .inr ⟨x,t,rfl,e⟩
theorem jNA (i:Int)(t:Tok):keyIs (.inl i) (.int i t)=true:=by simp [keyIs,Value.isInt]
theorem jN9 (x:Str)(t:Tok):keyIs (.inr x) (.str x t)=true:=by simp [keyIs,Value.isStrOf]
theorem jUU (a b:Int):decide ((Sum.inl a:Key)=Sum.inl b)=(a==b):=by
 by_cases e:a=b
 ·subst e; simp
 ·have h:¬ (Sum.inl a:Key)=Sum.inl b:=fun q=>e (iT q)
  rw[aN h]
  exact(bY.mpr e).symm
theorem jUR (a b:Str):decide ((Sum.inr a:Key)=Sum.inr b)=decide (a=b):=by
 by_cases e:a=b
 ·subst e; simp
 ·have h:¬ (Sum.inr a:Key)=Sum.inr b:=fun q=>e (Sum.inr.inj q)
  rw[aN h,aN e]
theorem jUT (a:Int)(b:Str):decide ((Sum.inl a:Key)=Sum.inr b)=false:=aN (fun q=>nomatch q)
theorem jUS (a:Str)(b:Int):decide ((Sum.inr a:Key)=Sum.inl b)=false:=aN (fun q=>nomatch q)
def qJ (prog:Program)(w:World):PySem.KeyKind prog w Key where
 is:=keyIs
 hash:=keyH w
 inj:=fun v a b ha hb=>by
  rcases jA0 ha with ⟨i,t,rfl,rfl⟩ | ⟨x,t,rfl,rfl⟩
  ·rcases jA0 hb with ⟨j,u,rfl,e⟩ | ⟨y,u,rfl,e⟩
   ·injection e with e1 _; rw[e1]
   ·exact nomatch e
  ·rcases jA0 hb with ⟨j,u,rfl,e⟩ | ⟨y,u,rfl,e⟩
   ·exact nomatch e
   ·injection e with e1 _; rw[e1]
 byValue:=fun k v h=>by
  rcases jA0 h with ⟨i,t,rfl,rfl⟩ | ⟨x,t,rfl,rfl⟩ <;> rfl
 pyHash:=fun hv h=>by
  rcases jA0 hv with ⟨i,t,rfl,rfl⟩ | ⟨x,t,rfl,rfl⟩
  ·exact wpAny_pyHash_int h
  ·exact wpAny_pyHash_str h
 eqBool:=fun hu hv h=>by
  rcases jA0 hu with ⟨i,t,rfl,rfl⟩ | ⟨x,t,rfl,rfl⟩
  ·rcases jA0 hv with ⟨j,u,rfl,rfl⟩ | ⟨y,u,rfl,rfl⟩
   ·rw[jUU] at h; exact wpAny_eqBool_int h
   ·rw[jUT] at h; exact SeqAt.EqAt.int_str i t y u _ _ _ _ h
  ·rcases jA0 hv with ⟨j,u,rfl,rfl⟩ | ⟨y,u,rfl,rfl⟩
   ·rw[jUS] at h; exact SeqAt.EqAt.str_int x t j u _ _ _ _ h
   ·rw[jUR] at h; exact wpAny_eqBool_str h
 «strs»:=fun k x t v h=>by
  rcases jA0 h with ⟨i,u,rfl,e⟩ | ⟨y,u,rfl,e⟩
  ·exact nomatch e
  ·injection e with e1 _
   subst e1
   cases v <;> rfl
theorem jIG (prog:Program)(w:World)(i:Int)(t:Tok):(qJ prog w).is (.inl i) (.int i t)=true:=jNA i t
theorem jIF (prog:Program)(w:World)(x:Str)(t:Tok):(qJ prog w).is (.inr x) (.str x t)=true:=jN9 x t
inductive V where
 | non | bl (b:Bool) | int (i:Int) | str (x:Str) | byt (b:Array UInt8) | flt (b:UInt64) | ref (a:Addr) | ty (n:String)
 deriving DecidableEq
def RelV:V->Value->Prop
 | .non,u=>u=Value.none
 | .bl b,u=>u=Value.bool b
 | .int i,u=>∃ t,u=Value.int i t
 | .str x,u=>∃ t,u=Value.str x t
 | .byt b,u=>∃ t,u=Value.bytes b t
 | .flt b,u=>∃ t,u=Value.float b t
 | .ref a,u=>u=Value.ref a
 | .ty n,u=>u=Value.type n
abbrev Vals:List V->List Value->Prop:=Paired RelV
theorem Vals.length {xs:List V}{us:List Value}(r:Vals xs us):xs.length=us.length:=gR r
theorem Vals.get:∀ {xs:List V}{us:List Value}{i:Nat}{x:V},Vals xs us->xs[i]?=some x->∃ u,us[i]?=some u/\RelV x u
 | _,_,_,_, .nil,e=>by simp at e
 | _,_,0,_, .cons r _,e=>by simp at e; subst e; exact⟨_,rfl,r⟩
 | _,_,i+1,x, .cons _ t,e=>by
  obtain⟨u,h1,h2⟩:=Vals.get (i:=i) (x:=x) t (by simpa using e)
  exact⟨u,by simpa using h1,h2⟩
theorem Vals.set {x:V}{u:Value}(r:RelV x u):∀ {xs:List V}{us:List Value}(i:Nat),Vals xs us->Vals (xs.set i x) (us.set i u)
 | _,_,_, .nil=> .nil
 | _,_,0, .cons _ t=> .cons r t
 | _,_,i+1, .cons q t=> .cons q (Vals.set r i t)
theorem Vals.append:∀ {xs ys:List V}{us ws:List Value},Vals xs us->Vals ys ws->Vals (xs++ys) (us++ws)
 | _,_,_,_, .nil,s=>s
 | _,_,_,_, .cons r t,s=> .cons r (Vals.append t s)
theorem Vals.take:∀ {xs:List V}{us:List Value}(n:Nat),Vals xs us->Vals (xs.take n) (us.take n)
 | _,_,0,_=> .nil
 | _,_,_+1, .nil=> .nil
 | _,_,n+1, .cons r t=> .cons r (Vals.take n t)
theorem Vals.drop:∀ {xs:List V}{us:List Value}(n:Nat),Vals xs us->Vals (xs.drop n) (us.drop n)
 | _,_,0,r=>r
 | _,_,_+1, .nil=> .nil
 | _,_,n+1, .cons _ t=>Vals.drop n t
def RelO:Option V->Option Value->Prop
 | some v,some u=>RelV v u
 | none,none=>True
 | _,_=>False
def KV {κ:Type} :List (κ×V)->List (κ×Value)->Prop:=Paired fun (p:κ×V) (q:κ×Value)=>p.1=q.1/\RelV p.2 q.2
noncomputable def kV:Key->V
 | .inl i=> .int i
 | .inr x=> .str x
def TupO (h:Heap)(a:Addr)(items:Array Value):Prop:=∃ n,h.get? a=some { cls:= .type "tuple",data:= .seq items n}
theorem TupO.isTup {h:Heap}{a:Addr}{items:Array Value}(x:TupO h a items):IsTup h a items:=let ⟨n,e⟩:=x; ⟨_,e,rfl,n,rfl⟩
theorem TupO.new (h:Heap)(items:Array Value):TupO (h.push { cls:= .type "tuple",data:= .seq items}) h.objs.size items:=⟨0,am _ rfl⟩
inductive HO where
  | lst (xs:List V)
  | tup (xs:List V)
  | dK (iY:List (Key×V)) | dT (iY:List (List Key×V))
  | set (S:Int->Bool) (n:Nat)
  | ins (C dx:Addr) (fs:List (Str×V))
  | own (x:Addr)
  | xd (fs:List (Str×V))
  | met (f x:Addr)
  | rng (lo hi:Int)
  | frz (o:Obj) (u:HO)
  | tbl (ps:Array Value)
  | ext (φ:Heap->Prop)
abbrev Hp:=Addr->Option HO
def upd (H:Hp)(a:Addr)(o:HO):Hp:=fun b=>if b=a then some o else H b
theorem j7 {H:Hp}{a:Addr}{o:HO} :upd H a o a=some o:=by unfold upd; rw[aD rfl]
theorem jD {H:Hp}{a b:Addr}{o:HO}(h:b≠a):upd H a o b=H b:=by unfold upd; rw[aF h]
theorem ne_of {H:Hp}{a b:Addr}{o u:HO}(h:H a=some o)(h':H b=some u)(d:o≠u):a≠b:=by
 intro e; subst e; rw[h] at h'; exact d (be h')
theorem jF {H:Hp}{a b:Addr}{o:HO}(h:H a=some o)(h':H b=none):a≠b:=by
 intro e; subst e; rw[h] at h'; cases h'
section
variable (P:Program)(w:World)
def ObjOk (H:Hp)(h:Heap)(a:Addr):HO->Prop
 | .lst xs=>xs.length<=sizeLine/\∃ (its:List Value) (n:Nat),Vals xs its/\h.get? a=some { cls:= .type "list",data:= .seq its.toArray n}
 | .tup xs=>xs.length<=sizeLine/\∃ its:List Value,Vals xs its/\TupO h a its.toArray
 | .dK iY=>iY.length<=sizeLine/\(a==sysModules)=false/\∃ vs,KV iY vs/\h.DictOf (qJ P w) a vs
 | .dT iY=>iY.length<=sizeLine/\(a==sysModules)=false/\∃ xs:List (List Key×Addr×Value),
   Paired (fun (p:List Key×V) (q:List Key×Addr×Value)=>p.1=q.1/\H q.2.1=some (.tup (p.1.map kV))/\RelV p.2 q.2.2) iY xs/\
   ∃ o es ep,h.get? a=some o/\o.ExactDict/\o.data= .dict es ep/\es.toList=xs.map (entryOfKey (tupleKind (qJ P w)))/\(xs.map (·.1)).Nodup
 | .set S n=>h.SetOf (intKind P w) a S n
 | .ins C dx fs=>H dx=some (.own a)/\fs.length<=1000/\dx≠a/\h.get? a=some (instObj C dx)/\
   ∃ mA,h.Ns1 dx mA/\(∀ f,RelO (fs.lookup f) (mA f))/\PySem.Within mA (fs.map (·.1))
 | .own _=>∃ o,h.get? a=some o
 | .xd fs=>∃ mA,h.Ns1 a mA/\∀ f,RelO (fs.lookup f) (mA f)
 | .rng lo hi=>∃ t u v,h.get? a=some { cls:= .type "range",data:= .fields #[.int lo t, .int hi u, .int 1 v]}
 | .frz o u=>h.get? a=some o/\ObjOk H h a u
 | .tbl ps=>h.get? a=some { cls:= .none,data:= .fields ps}
 | .met f x=>h.get? a=some (methodObj (.ref f) (.ref x))
 | .ext φ=>φ h/\(∃ o,h.get? a=some o)/\∀ h1 h2:Heap,φ h1->(∀ o,h1.get? a=some o->h2.get? a=some o)->φ h2
def HOk (H:Hp)(h:Heap):Prop:=∀ a o,H a=some o->ObjOk P w H h a o
end
variable {P:Program}{w:World}{H H':Hp}{h h':Heap}{a:Addr}
section
variable {o:HO}
theorem ObjOk.lt (x:ObjOk P w H h a o):a<h.objs.size:=by
 cases o with
 | lst xs=>obtain⟨_,_,_,_,e⟩:=x; exact ak e
 | tup xs=>obtain⟨_,_,_,_,e⟩:=x; exact ak e
 | dK iY=>obtain⟨_,_,_,_,o,_,_,e,_⟩:=x; exact ak e
 | dT iY=>obtain⟨_,_,_,_,o,_,_,e,_⟩:=x; exact ak e
 | set S n=>obtain⟨o,_,_,_,e,_⟩:=x; exact ak e
 | ins C dx fs=>obtain⟨_,_,_,e,_⟩:=x; exact ak e
 | own y=>obtain⟨_,e⟩:=x; exact ak e
 | xd fs=>obtain⟨_,⟨_,_,_,e,_⟩,_⟩:=x; exact ak e
 | rng lo hi=>obtain⟨_,_,_,e⟩:=x; exact ak e
 | frz ob u=>obtain⟨e,_⟩:=x; exact ak e
 | tbl ps=>exact ak (show h.get? a=some _ from x)
 | met f y=>exact ak (show h.get? a=some _ from x)
 | ext φ=>obtain⟨_,⟨_,e⟩,_⟩:=x; exact ak e
theorem Paired.mapP {α β:Type}{F G:α->β->Prop} :∀ {l₁:List α}{l₂:List β},Paired F l₁ l₂->(∀ a b,F a b->G a b)->Paired G l₁ l₂
 | _,_, .nil,_=> .nil
 | _,_, .cons r t,f=> .cons (f _ _ r) (Paired.mapP t f)
theorem ObjOk.stay (x:ObjOk P w H h a o)(k:∀ b u,(b=a\/H b=some (.own a))->h.get? b=some u->h'.get? b=some u)
  (ho:∀ b,H b=some (.own a)->H' b=some (.own a)) (ht:∀ b xs,H b=some (.tup xs)->H' b=some (.tup xs)):ObjOk P w H' h' a o:=by
 induction o with
 | lst xs=>obtain⟨z,its,n,r,e⟩:=x; exact⟨z,its,n,r,k _ _ (.inl rfl) e⟩
 | tup xs=>obtain⟨z,its,r,n,e⟩:=x; exact⟨z,its,r,n,k _ _ (.inl rfl) e⟩
 | dK iY=>obtain⟨z,y,vs,r,ob,es,ep,e,c⟩:=x; exact⟨z,y,vs,r,ob,es,ep,k _ _ (.inl rfl) e,c⟩
 | dT iY=>
  obtain⟨z,y,xs,r,ob,es,ep,e,c⟩:=x
  exact⟨z,y,xs,Paired.mapP r fun p q z=>⟨z.1,ht _ _ z.2.1,z.2.2⟩,ob,es,ep,k _ _ (.inl rfl) e,c⟩
 | set S n=>obtain⟨ob,es,ep,t,e,c⟩:=x; exact⟨ob,es,ep,t,k _ _ (.inl rfl) e,c⟩
 | ins C dx fs=>
  obtain⟨d,z,ne,e,mA,⟨od,es,ep,e2,c⟩,r⟩:=x
  exact⟨ho _ d,z,ne,k _ _ (.inl rfl) e,mA,⟨od,es,ep,k _ _ (.inr d) e2,c⟩,r⟩
 | own y=>obtain⟨ob,e⟩:=x; exact⟨ob,k _ _ (.inl rfl) e⟩
 | xd fs=>obtain⟨mA,⟨od,es,ep,e,c⟩,r⟩:=x; exact⟨mA,⟨od,es,ep,k _ _ (.inl rfl) e,c⟩,r⟩
 | rng lo hi=>obtain⟨t,u,v,e⟩:=x; exact⟨t,u,v,k _ _ (.inl rfl) e⟩
 | frz ob u ih=>obtain⟨e,q⟩:=x; exact⟨k _ _ (.inl rfl) e,ih q⟩
 | tbl ps=>
  have e:h.get? a=some { cls:= .none,data:= .fields ps} :=x
  show h'.get? a=some { cls:= .none,data:= .fields ps}
  exact k a _ (.inl rfl) e
 | met f y=>
  have e:h.get? a=some (methodObj (.ref f) (.ref y)):=x
  show h'.get? a=some (methodObj (.ref f) (.ref y))
  exact k a _ (.inl rfl) e
 | ext φ=>obtain⟨p,⟨o,e⟩,st⟩:=x; exact⟨st _ _ p fun o q=>k _ _ (.inl rfl) q,⟨o,k _ _ (.inl rfl) e⟩,st⟩
theorem HOk.lt (x:HOk P w H h)(e:H a=some o):a<h.objs.size:=(x a o e).lt
theorem HOk.fresh (x:HOk P w H h)(e:h.objs.size<=a):H a=none:=by
 cases q:H a with
 | none=>rfl
 | some u=>exact absurd (aP (x.lt q) e) (bV _)
theorem HOk.kept (x:HOk P w H h)(k:∀ b u,h.get? b=some u->h'.get? b=some u):HOk P w H h':=fun a o e=>
 (x a o e).stay (fun b u _ q=>k b u q) (fun _ q=>q) fun _ _ q=>q
theorem HOk.laid (x:HOk P w H h)(k:∀ b u,h.get? b=some u->h'.get? b=some u)(hp:h.objs.size<=a)(new:ObjOk P w (upd H a o) h' a o):HOk P w (upd H a o) h':=fun b u e=>by
 have hn:=x.fresh hp
 by_cases hb:b=a
 ·subst hb; rw[j7] at e; cases e; exact new
 ·rw[jD hb] at e
  exact(x b u e).stay (fun c v _ q=>k c v q) (fun c q=>by rw[jD (jF q hn)]; exact q) fun c xs q=>by rw[jD (jF q hn)]; exact q
end
def Rd (H:Hp)(a:Addr)(u:HO):Prop:=H a=some u\/∃ o,H a=some (.frz o u)
theorem Rd.ok {P:Program}{w:World}{H:Hp}{h:Heap}{a:Addr}{u:HO}(r:Rd H a u)(x:HOk P w H h):ObjOk P w H h a u:=by
 rcases r with r | ⟨o,r⟩
 ·exact x a u r
 ·obtain⟨_,q⟩:=x a _ r
  exact q
def Mut:Option HO->Prop
 | some (.lst _)=>True
 | some (.dK _)=>True
 | some (.dT _)=>True
 | some (.set _ _)=>True
 | some (.ins _ _ _)=>True
 | some (.ext _)=>True
 | _=>False
variable {x:Addr}
section
variable {e:Addr}{o':HO}
theorem HOk.write (ok:HOk P w H h)(mu:Mut (H x))(he:e=x\/H e=some (.own x))(k:∀ b u,b≠e->h.get? b=some u->h'.get? b=some u)(heo:∃ u,h'.get? e=some u)
  (new:ObjOk P w (upd H x o') h' x o'):HOk P w (upd H x o') h':=fun b u q=>by
 have nown:∀ c y,H c=some (.own y)->c≠x:=fun c y r z=>by subst z; rw[r] at mu; exact mu
 have ntup:∀ c xs,H c=some (.tup xs)->c≠x:=fun c xs r z=>by subst z; rw[r] at mu; exact mu
 by_cases hb:b=x
 ·subst hb; rw[j7] at q; cases q; exact new
 ·rw[jD hb] at q
  by_cases hbe:b=e
  ·have q':H b=some (.own x):=by
    rcases he with z | z
    ·exact absurd (hbe.trans z) hb
    ·rw[hbe]; exact z
   rw[q] at q'; cases q'
   obtain⟨v,hv⟩:=heo
   exact⟨v,by rw[hbe]; exact hv⟩
  ·refine(ok b u q).stay (fun c v hc r=>k c v ?_ r) (fun c r=>by rw[jD (nown c b r)]; exact r) fun c xs r=>by rw[jD (ntup c xs r)]; exact r
   rcases hc with rfl | hc
   ·exact hbe
   ·rintro rfl
    rcases he with z | z
    ·exact nown c b hc z
    ·rw[hc] at z; cases z; exact hb rfl
end
structure Un (fs ex:List Addr)(H H':Hp)(h h':Heap):Prop where
 keep:∀ b o,h.get? b=some o->H b=none->b∉fs->b∉ex->h'.get? b=some o
 slot:∀ b o,h.get? b=some o->H b=none->b∈fs->b∉ex->∃ sl,h'.get? b=some { o with slots:=sl}
 free:∀ b o,h.get? b=some o->H b=none->b∉ex->H' b=none
 there:∀ b o,h.get? b=some o->b∉ex->∃ o',h'.get? b=some o'
 tups:∀ b xs,H b=some (.tup xs)->H' b=some (.tup xs)
 frzs:∀ b o u,H b=some (.frz o u)->H' b=some (.frz o u)
 tbls:∀ b ps,H b=some (.tbl ps)->∃ more,H' b=some (.tbl (ps++more))
section
variable {fs fs' ex ex':List Addr}{H1 H2:Hp}{h1 h2:Heap}{e:Addr}{o:HO}
theorem Un.any (u:Un fs ex H H1 h h1){b:Addr}{ob:Obj}(q:h.get? b=some ob)(n:H b=none)(hx:b∉ex):∃ sl,h1.get? b=some { ob with slots:=sl} :=by
 by_cases hb:b∈fs
 ·exact u.slot b ob q n hb hx
 ·exact⟨ob.slots,u.keep b ob q n hb hx⟩
theorem Un.kept (k:∀ b u,h.get? b=some u->h'.get? b=some u):Un fs ex H H h h':=
 ⟨fun b ob q _ _ _=>k b ob q,fun b ob q _ _ _=>⟨ob.slots,k b ob q⟩,fun _ _ _ n _=>n,fun b ob q _=>⟨ob,k b ob q⟩,fun _ _ q=>q,fun _ _ _ q=>q,fun _ ps q=>⟨#[],by rw[q]; simp⟩⟩
theorem Un.refl:Un fs ex H H h h:=Un.kept fun _ _ q=>q
theorem Un.laid (k:∀ b u,h.get? b=some u->h'.get? b=some u)(hp:h.objs.size<=a)(hn:H a=none):Un fs ex H (upd H a o) h h' where
 keep:=fun b u q _ _ _=>k b u q
 slot:=fun b u q _ _ _=>⟨u.slots,k b u q⟩
 free:=fun b u q n _=>by rw[jD (aG (aP (ak q) hp))]; exact n
 there:=fun b u q _=>⟨u,k b u q⟩
 tups:=fun b xs q=>by rw[jD (jF q hn)]; exact q
 frzs:=fun b u xs q=>by rw[jD (jF q hn)]; exact q
 tbls:=fun b ps q=>⟨#[],by rw[jD (jF q hn),q]; simp⟩
theorem Un.write (mu:Mut (H x))(he:e=x\/H e=some (.own x))(k:∀ b u,b≠e->h.get? b=some u->h'.get? b=some u)(heo:∃ u,h'.get? e=some u):Un fs ex H (upd H x o) h h':=by
 have hx:∀ b,H b=none->b≠x:=fun b n z=>by subst z; rw[n] at mu; exact mu
 have hb:∀ b,H b=none->b≠e:=fun b n z=>by
  subst z
  rcases he with r | r
  ·exact hx b n r
  ·rw[n] at r; cases r
 have hm:∀ b u,H b=some u->¬ Mut (some u)->b≠x:=fun b u q nm z=>by subst z; rw[q] at mu; exact nm mu
 refine⟨fun b u q n _ _=>k b u (hb b n) q,fun b u q n _ _=>⟨u.slots,k b u (hb b n) q⟩,fun b u q n _=>by rw[jD (hx b n)]; exact n,fun b u q _=>?_,
  fun b xs q=>by rw[jD (hm b _ q fun z=>z)]; exact q,fun b u xs q=>by rw[jD (hm b _ q fun z=>z)]; exact q,fun b ps q=>⟨#[],by rw[jD (hm b _ q fun z=>z),q]; simp⟩⟩
 by_cases hbe:b=e
 ·subst hbe; exact heo
 ·exact⟨u,k b u hbe q⟩
end
def trk (h:Heap)(H:Hp):List Addr:=(List.range h.objs.size).filter fun a=>(H a).isSome
def hidT (h:Heap)(H:Hp):Heap:=PySem.W.hideAll h (trk h H)
theorem jNR (h:Heap)(H:Hp):(hidT h H).objs.size=h.objs.size:=PySem.W.hideAll_size _ _
theorem jQ9 {h:Heap}{H:Hp}{b:Addr}{o:Obj}(e:h.get? b=some o)(n:H b=none):(hidT h H).get? b=some o:=
 PySem.W.hideAll_get _ e fun hm=>by
  have q:(H b).isSome=true:=(aW.mp hm).2
  rw[n] at q; simp at q
theorem jSV {h:Heap}{H:Hp}{b:Addr}{o:Obj}(e:(hidT h H).get? b=some o):h.get? b=some o/\H b=none:=by
 have e':h.get? b=some o:=PySem.W.of_hideAll (trk h H) e
 refine⟨e',?_⟩
 cases q:H b with
 | none=>rfl
 | some x=>
  have hm:b∈trk h H:=aW.mpr ⟨bc.mpr (ak e'),by simp [q]⟩
  have z:(hidT h H).get? b=none:=PySem.W.hideAll_none (trk h H) hm
  rw[z] at e; cases e
structure Mod (K:W.Frag)(mg:Str->Option Value)(base:Heap):Prop where
 kin:K.In base
 glob:base.Ns mainGlobals mg
 blt:∃ mb,base.Ns builtinsNs mb/\∀ x:Str,x≠ "__name__" ->mb x=bootBuiltins x
 nolimit:base.NoLimit
structure Cx where
 prog:Program
 w:World
 K:W.Frag
 mg:Str->Option Value
 base:Heap
 A:Around
 N:List Str
 s₀:Shared
 H₀:Hp
 env:Env
 outer:List Env
 stack:List Env
 ex:List Addr
 fn:Str->Bool
 calm:Bool
 pn:List (Addr×Obj)
 xe:Value->Shared->Prop
def frs (l:List Env):List Addr:=l.filterMap (·.frame)
abbrev Cx.fs (X:Cx):List Addr:=frs X.outer
def Vis (sc:Scope)(x:Str):Prop:=sc.names.lookup x=some .local\/sc.names.lookup x=some .cell\/sc.names.lookup x=some .free
def Loc (sc:Scope)(x:Str):Prop:=sc.names.lookup x=some .local\/sc.names.lookup x=some .cell
def Look (env:Env)(h:Heap)(m:Str->Option Value)(x:Str)(u:Value):Prop:=
 (env.kindOf x=some .local/\m x=some u)\/((env.kindOf x=some .cell\/env.kindOf x=some .free)/\∃ c,env.cells.lookup x=some c/\h.IsCell c (some u))
structure Cx.Ok (X:Cx):Prop where
 mod:Mod X.K X.mg X.base
 kind:X.env.scope.kind= .function
 glob:X.env.globals=mainGlobals
 blt:X.env.builtins=builtinsNs
 above:X.s₀.heap.objs.size<=X.env.locals
 inj:∀ x y c,X.env.cells.lookup x=some c->X.env.cells.lookup y=some c->x=y
 has:∀ x,(X.env.kindOf x=some .cell\/X.env.kindOf x=some .free)->∃ c,X.env.cells.lookup x=some c
 cab:∀ x c,X.fn x=true->X.env.cells.lookup x=some c->X.s₀.heap.objs.size<=c
 hd:X.calm=true->X.A.handled=none
 frames:X.A.frames=some X.stack
 stk:X.stack=X.outer\/(X.stack=X.env::X.outer/\X.env.frame=some X.env.locals)
 exf:∀ b∈X.ex,b≠X.env.locals/\∀ x c,X.env.cells.lookup x=some c->c≠b
 bs:∀ b o,X.base.get? b=some o->X.s₀.heap.get? b=some o/\X.H₀ b=none
 bsz:X.base.objs.size<=X.s₀.heap.objs.size
 noex:∀ b o,X.base.get? b=some o->b∉X.ex
 exfs:∀ b∈X.ex,b∉X.fs
 funs:X.s₀.heap.FunFrames X.base X.outer
 frf:∀ b∈X.fs,X.H₀ b=none
structure Inv (X:Cx)(ad:List (Addr×Obj))(σ:List (Option V))(H:Hp)(s:Shared):Prop where
 ok:X.Ok
 os:s.os=X.s₀.os
 bare:AllBare s.gens
 base:Un X.fs X.ex X.H₀ H X.s₀.heap s.heap
 loc:∃ m,s.heap.Ns X.env.locals m/\∀ (i:Nat) (x:Str) (v:V),X.N[i]?=some x->σ[i]?=some (some v)->Vis X.env.scope x->∃ u,RelV v u/\Look X.env s.heap m x u
 cell:∀ x c,X.env.cells.lookup x=some c->∃ v,s.heap.IsCell c v
 free:H X.env.locals=none
 freeC:∀ x c,X.env.cells.lookup x=some c->H c=none
 pin:∀ p∈X.pn++ad,s.heap.get? p.1=some p.2/\H p.1=none/\p.1≠X.env.locals/\p.1∉X.fs/\∀ v,p.2.data≠ .cell v
 hok:HOk X.prog X.w H s.heap
 len:σ.length=X.N.length
variable {X:Cx}{ad:List (Addr×Obj)}{s:Shared}
section
variable {σ:List (Option V)}
theorem Cx.Ok.nofr (ok:X.Ok){b:Addr}{o:Obj}(e:X.base.get? b=some o):b∉X.fs:=fun hb=>by
 have:=(ok.funs.mem hb).1
 rw[e] at this; cases this
theorem Inv.bs (I:Inv X ad σ H s):∀ b o,X.base.get? b=some o->s.heap.get? b=some o/\H b=none:=fun b o e=>
 ⟨I.base.keep b o (I.ok.bs b o e).1 (I.ok.bs b o e).2 (I.ok.nofr e) (I.ok.noex b o e),I.base.free b o (I.ok.bs b o e).1 (I.ok.bs b o e).2 (I.ok.noex b o e)⟩
theorem Inv.bk (I:Inv X ad σ H s):∀ b o,X.base.get? b=some o->s.heap.get? b=some o:=fun b o e=>(I.bs b o e).1
theorem Inv.mod (I:Inv X ad σ H s):Mod X.K X.mg X.base:=I.ok.mod
theorem Inv.kIn (I:Inv X ad σ H s):X.K.In s.heap:=I.ok.mod.kin.keeps I.bk
theorem Inv.lt (I:Inv X ad σ H s):X.env.locals<s.heap.objs.size:=let ⟨_,hn,_⟩:=I.loc; hn.lt
theorem Inv.sz (I:Inv X ad σ H s):X.s₀.heap.objs.size<=s.heap.objs.size:=aQ I.ok.above (cF I.lt)
theorem Inv.nofs (I:Inv X ad σ H s){a:Addr}(h:s.heap.objs.size<=a):a∉X.fs:=fun hb=>by
 obtain⟨_,o,ho,_⟩:=I.ok.funs.mem hb
 exact absurd (aP (ak ho) (aQ I.sz h)) (bV _)
theorem Inv.cne (I:Inv X ad σ H s):∀ x c,X.env.cells.lookup x=some c->c≠X.env.locals:=fun x c e z=>by
 obtain⟨v,o,ho,hd⟩:=I.cell x c e
 obtain⟨m,⟨o',es,ep,ho',hd',_⟩,_⟩:=I.loc
 rw[z,ho'] at ho; cases ho; rw[hd'] at hd; cases hd
theorem Inv.funs (I:Inv X ad σ H s):s.heap.FunFrames X.base X.outer:=by
 have all:∀ (l:List Env),(∀ b∈frs l,b∈X.fs)->X.s₀.heap.FunFrames X.base l->s.heap.FunFrames X.base l:=by
  intro l
  induction l with
  | nil=>intro _ _; trivial
  | cons env r ih=>
   intro hs hl
   obtain⟨hk,⟨L,o,hf,hn,ho,hd⟩,hr⟩:=hl
   have hL:L∈X.fs:=hs L (by unfold frs; rw[dZ,hf]; exact aw)
   obtain⟨sl,e⟩:=I.base.slot L o ho (I.ok.frf L hL) hL fun z=>I.ok.exfs L z hL
   exact⟨hk,⟨L,_,hf,hn,e,hd⟩,ih (fun b hb=>hs b (by unfold frs; rw[dZ,hf]; exact aA _ hb)) hr⟩
 exact all X.outer (fun _ hb=>hb) I.ok.funs
theorem Inv.stack (I:Inv X ad σ H s):s.heap.FunFrames X.base X.stack:=by
 rcases I.ok.stk with e | ⟨e,hf⟩
 ·rw[e]; exact I.funs
 ·rw[e]
  obtain⟨m,hn,_⟩:=I.loc
  refine .cons (by rw[I.ok.kind]; decide) hf hn ?_ I.funs
  exact Heap.get?_none_of_le (aQ I.ok.bsz I.ok.above)
theorem Inv.stkSub (I:Inv X ad σ H s):∀ b∈frs X.stack,b∈X.env.locals::X.fs:=fun b hb=>by
 rcases I.ok.stk with e | ⟨e,hf⟩
 ·rw[e] at hb; exact aA _ hb
 ·rw[e] at hb
  unfold frs at hb
  rw[dZ,hf] at hb
  exact hb
theorem Inv.stkFree (I:Inv X ad σ H s):∀ b∈frs X.stack,H b=none:=fun b hb=>by
 rcases az.mp (I.stkSub b hb) with e | hb
 ·rw[e]; exact I.free
 ·obtain⟨_,o,ho,_⟩:=I.ok.funs.mem hb
  exact I.base.free b o ho (I.ok.frf b hb) fun z=>I.ok.exfs b z hb
theorem Inv.step {g':Array GenState}{t':Nat}{d':Drawn}{ch:List Addr}(I:Inv X ad σ H s)
  (hch:∀ b∈ch,(b∈X.ex\/X.s₀.heap.objs.size<=b)/\b≠X.env.locals/\(∀ x c,X.env.cells.lookup x=some c->c≠b)/\∀ p∈X.pn++ad,p.1≠b)
  (keep:∀ b o,b≠X.env.locals->b∉X.fs->b∉ch->s.heap.get? b=some o->H b=none->h'.get? b=some o)
  (slot:∀ b o,b≠X.env.locals->b∈X.fs->b∉ch->s.heap.get? b=some o->H b=none->∃ sl,h'.get? b=some { o with slots:=sl}) (free:∀ b o,b∉ch->s.heap.get? b=some o->H b=none->H' b=none)
  (there:∀ b o,b∉ch->s.heap.get? b=some o->∃ o',h'.get? b=some o')
  (tups:∀ b xs,H b=some (.tup xs)->H' b=some (.tup xs)) (frzs:∀ b o u,H b=some (.frz o u)->H' b=some (.frz o u)) (tbls:∀ b ps,H b=some (.tbl ps)->∃ more,H' b=some (.tbl (ps++more)))
  (ns:∀ m,s.heap.Ns X.env.locals m->h'.Ns X.env.locals m) (hok:HOk X.prog X.w H' h') (hg:AllBare g'):
  Inv X ad σ H' { s with heap:=h',gens:=g',drawn:=d',toks:=t'} :=by
 have neL:∀ b o,X.s₀.heap.get? b=some o->b≠X.env.locals:=fun b o e=>aG (aP (ak e) I.ok.above)
 have neC:∀ b o,X.s₀.heap.get? b=some o->b∉X.ex->b∉ch:=fun b o e hx hb=>by
  rcases (hch b hb).1 with z | z
  ·exact hx z
  ·exact absurd (aP (ak e) z) (bV _)
 have cellK:∀ x c,X.env.cells.lookup x=some c->∀ v,s.heap.IsCell c v->h'.IsCell c v:=fun x c e v ⟨o,ho,hd⟩=>by
  have nch:c∉ch:=fun z=>(hch c z).2.2.1 x c e rfl
  by_cases hc:c∈X.fs
  ·obtain⟨sl,q⟩:=slot c o (I.cne x c e) hc nch ho (I.freeC x c e)
   exact⟨_,q,hd⟩
  ·exact⟨o,keep c o (I.cne x c e) hc nch ho (I.freeC x c e),hd⟩
 refine⟨I.ok,I.os,hg,⟨fun b o e n hb hx=>?_,fun b o e n hb hx=>?_,fun b o e n hx=>?_,fun b o e hx=>?_,fun b xs e=>tups b xs (I.base.tups b xs e),fun b o xs e=>frzs b o xs (I.base.frzs b o xs e),fun b ps e=>?_⟩,?_,fun x c e=>?_,?_,fun x c e=>?_,fun p hp=>?_,hok,I.len⟩
 ·exact keep b o (neL b o e) hb (neC b o e hx) (I.base.keep b o e n hb hx) (I.base.free b o e n hx)
 ·obtain⟨sl,e1⟩:=I.base.slot b o e n hb hx
  obtain⟨sl',e2⟩:=slot b _ (neL b o e) hb (neC b o e hx) e1 (I.base.free b o e n hx)
  exact⟨sl',e2⟩
 ·obtain⟨o',e1⟩:=I.base.there b o e hx
  exact free b o' (neC b o e hx) e1 (I.base.free b o e n hx)
 ·obtain⟨o',e1⟩:=I.base.there b o e hx
  exact there b o' (neC b o e hx) e1
 ·obtain⟨m1,e1⟩:=I.base.tbls b ps e
  obtain⟨m2,e2⟩:=tbls b _ e1
  exact⟨m1++m2,by rw[e2,iK]⟩
 ·obtain⟨m,hn,hl⟩:=I.loc
  refine⟨m,ns m hn,fun i x v e1 e2 e3=>?_⟩
  obtain⟨u,r,l⟩:=hl i x v e1 e2 e3
  refine⟨u,r,?_⟩
  rcases l with l | ⟨k,c,e,z⟩
  ·exact .inl l
  ·exact .inr ⟨k,c,e,cellK x c e _ z⟩
 ·obtain⟨v,z⟩:=I.cell x c e
  exact⟨v,cellK x c e v z⟩
 ·obtain⟨m,⟨o,_,_,ho,_⟩,_⟩:=I.loc
  exact free _ o (fun z=>(hch _ z).2.1 rfl) ho I.free
 ·obtain⟨v,o,ho,hd⟩:=I.cell x c e
  exact free c o (fun z=>(hch c z).2.2.1 x c e rfl) ho (I.freeC x c e)
 ·obtain⟨e,n,ne,nf,d⟩:=I.pin p hp
  have nch:p.1∉ch:=fun z=>(hch p.1 z).2.2.2 p hp rfl
  exact⟨keep p.1 p.2 ne nf nch e n,free p.1 p.2 nch e n,ne,nf,d⟩
theorem Inv.un {t':Nat}(I:Inv X ad σ H s)(u:Un X.fs [] H H' s.heap h')(hok:HOk X.prog X.w H' h'):Inv X ad σ H' { s with heap:=h',toks:=t'} :=by
 obtain⟨m,⟨o,es,ep,ho,r⟩,_⟩:=id I.loc
 obtain⟨sl,hL⟩:=u.any ho I.free (by simp)
 exact I.step (g':=s.gens) (d':=s.drawn) (ch:=[]) (fun _ z=>nomatch z) (fun b o _ hb _ e n=>u.keep b o e n hb (by simp)) (fun b o _ hb _ e n=>u.slot b o e n hb (by simp)) (fun b o _ e n=>u.free b o e n (by simp)) (fun b o _ e=>u.there b o e (by simp)) u.tups u.frzs u.tbls (fun m' hm=>by
  obtain⟨o',es',ep',ho',r'⟩:=hm
  rw[ho] at ho'; cases ho'
  exact⟨_,es',ep',hL,r'⟩) hok I.bare
theorem Inv.call {g':Array GenState}{t':Nat}{d':Drawn}{ch:List Addr}(I:Inv X ad σ H s)(u:Un (frs X.stack) ch H H' s.heap h')(hok:HOk X.prog X.w H' h')(hg:AllBare g')
  (hch:∀ b∈ch,(b∈X.ex\/X.s₀.heap.objs.size<=b)/\b≠X.env.locals/\(∀ x c,X.env.cells.lookup x=some c->c≠b)/\∀ p∈X.pn++ad,p.1≠b):
  Inv X ad σ H' { s with heap:=h',gens:=g',drawn:=d',toks:=t'} :=by
 obtain⟨m,⟨o,es,ep,ho,r⟩,_⟩:=id I.loc
 obtain⟨sl,hL⟩:=u.any ho I.free fun z=>(hch _ z).2.1 rfl
 exact I.step (ch:=ch) hch (fun b o hL hb hc e n=>u.keep b o e n (fun z=>(az.mp (I.stkSub b z)).elim hL hb) hc) (fun b o _ _ hc e n=>u.any e n hc) (fun b o hc e n=>u.free b o e n hc) (fun b o hc e=>u.there b o e hc) u.tups u.frzs u.tbls (fun m' hm=>by
  obtain⟨o',es',ep',ho',r'⟩:=hm
  rw[ho] at ho'; cases ho'
  exact⟨_,es',ep',hL,r'⟩) hok hg
theorem Inv.turned {t':Nat}{it:Addr}(I:Inv X ad σ H s)(k:∀ b o,b≠it->s.heap.get? b=some o->h'.get? b=some o)(hn:H it=none)(hL:it≠X.env.locals)
  (h1:it∈X.ex\/X.s₀.heap.objs.size<=it) (h2:∀ x c,X.env.cells.lookup x=some c->c≠it) (h3:∀ p∈X.pn++ad,p.1≠it):Inv X ad σ H { s with heap:=h',toks:=t'} :=by
 have nit:∀ b u,H b=some u->b≠it:=fun b u e z=>by rw[z,hn] at e; cases e
 refine I.step (g':=s.gens) (d':=s.drawn) (ch:=[it]) (fun b hb=>?_) (fun b o _ _ hc e _=>k b o (fun z=>hc (by simp [z])) e) (fun b o _ _ hc e _=>⟨o.slots,k b o (fun z=>hc (by simp [z])) e⟩) (fun _ _ _ _ n=>n)
  (fun b o hc e=>⟨o,k b o (fun z=>hc (by simp [z])) e⟩) (fun _ _ e=>e) (fun _ _ _ e=>e) (fun b ps e=>⟨#[],by rw[e]; simp⟩) (fun m hm=>?_) (fun b u e=>?_) I.bare
 ·have e:b=it:=by simpa using hb
  subst e
  exact⟨h1,hL,h2,h3⟩
 ·obtain⟨o,es,ep,ho,r⟩:=hm
  exact⟨o,es,ep,k _ o (cS hL) ho,r⟩
 ·refine(I.hok b u e).stay (fun c v hc q=>k c v ?_ q) (fun _ q=>q) fun _ _ q=>q
  rcases hc with z | z
  ·rw[z]; exact nit b u e
  ·exact nit c _ z
theorem Inv.tok (I:Inv X ad σ H s)(t:Nat):Inv X ad σ H { s with toks:=t} :=I.un (h':=s.heap) (t':=t) Un.refl I.hok
theorem Inv.kept {t':Nat}(I:Inv X ad σ H s)(k:∀ b u,s.heap.get? b=some u->h'.get? b=some u):Inv X ad σ H { s with heap:=h',toks:=t'} :=I.un (Un.kept k) (I.hok.kept k)
theorem Inv.laid {a:Addr}{o:HO}{t':Nat}(I:Inv X ad σ H s)(k:∀ b u,s.heap.get? b=some u->h'.get? b=some u)(hp:s.heap.objs.size<=a)(new:ObjOk X.prog X.w (upd H a o) h' a o):
  Inv X ad σ (upd H a o) { s with heap:=h',toks:=t'} :=I.un (Un.laid k hp (I.hok.fresh hp)) (I.hok.laid k hp new)
theorem Inv.write {x e:Addr}{o:HO}{t':Nat}(I:Inv X ad σ H s)(mu:Mut (H x))(he:e=x\/H e=some (.own x))(k:∀ b u,b≠e->s.heap.get? b=some u->h'.get? b=some u)(heo:∃ u,h'.get? e=some u)
  (new:ObjOk X.prog X.w (upd H x o) h' x o):Inv X ad σ (upd H x o) { s with heap:=h',toks:=t'} :=I.un (Un.write mu he k heo) (I.hok.write mu he k heo new)
theorem Inv.pins_of {ad':List (Addr×Obj)}(I:Inv X ad σ H s)(h:∀ p∈ad',s.heap.get? p.1=some p.2/\H p.1=none/\p.1≠X.env.locals/\p.1∉X.fs/\∀ v,p.2.data≠ .cell v):Inv X ad' σ H s:=
 ⟨I.ok,I.os,I.bare,I.base,I.loc,I.cell,I.free,I.freeC,fun p hp=>(bv.mp hp).elim (fun z=>I.pin p (ix _ z)) (h p),I.hok,I.len⟩
theorem jJG {N:List Str}(hN:N.Nodup){i j:Nat}{x:Str}(a:N[i]?=some x)(b:N[j]?=some x):i=j:=by
 obtain⟨h1,e1⟩:=av.mp a
 obtain⟨h2,e2⟩:=av.mp b
 exact(List.getElem_inj hN).mp (e1.trans e2.symm)
theorem jGM {M:Model}{A:Around}{E:Value->Shared->Prop}{i:Nat}{x:Str}{v:V}{u:Value}{Q:Unit->Shared->Prop}(I:Inv X ad σ H s)(hN:X.N.Nodup)(hi:X.N[i]?=some x)(hx:Loc X.env.scope x)(r:RelV v u)
  (h:∀ s',Inv X ad (σ.set i (some v)) H s'->(∃ a,Heap.SameBut a s.heap s'.heap/\(a=X.env.locals\/X.env.cells.lookup x=some a))->Q () s') (hf:X.fn x=true\/X.env.scope.names.lookup x=some .local:=by first | exact .inl rfl | exact .inr rfl | assumption):wpAny M A (storeName X.env x u) Q E s:=by
 obtain⟨m,hn,hl⟩:=id I.loc
 have hcls:(X.env.scope.kind== .class || (X.env.scope.kind== .module&&X.env.locals != X.env.globals))=false:=by rw[I.ok.kind]; rfl
 have hiσ:i<σ.length:=by rw[I.len]; exact(av.mp hi).1
 have cne:=I.cne
 have tracked:∀ {a:Addr}{h':Heap},(∃ o,s.heap.get? a=some o/\H a=none)->Heap.SameBut a s.heap h'->HOk X.prog X.w H h':=fun {a h'} ha hs b ob e=>by
  obtain⟨_,_,hfree⟩:=ha
  refine(I.hok b ob e).stay (fun c w' hc q=>(hs.2 c ?_).trans q) (fun _ q=>q) fun _ _ q=>q
  rintro rfl
  rcases hc with rfl | hc
  ·rw[hfree] at e; cases e
  ·rw[hfree] at hc; cases hc
 rcases hx with hk | hk
 ·refine wpAny_storeName_local hk hn (fun h' hn' hs=>?_) hcls
  obtain⟨oL,_,_,hoL,_⟩:=id hn
  refine h _ ⟨I.ok,I.os,I.bare,⟨fun b o e n hb hx=>?_,fun b o e n hb hx=>?_,I.base.free,fun b o e hx=>?_,I.base.tups,I.base.frzs,I.base.tbls⟩,⟨_,hn',fun j y v' e1 e2 e3=>?_⟩,fun y c e=>?_,I.free,I.freeC,fun p hp=>?_,tracked ⟨oL,hoL,I.free⟩ hs,by simpa using I.len⟩ ⟨_,hs, .inl rfl⟩
  ·exact(hs.2 b (aG (aP (ak e) I.ok.above))).trans (I.base.keep b o e n hb hx)
  ·obtain⟨sl,e1⟩:=I.base.slot b o e n hb hx
   exact⟨sl,(hs.2 b (aG (aP (ak e) I.ok.above))).trans e1⟩
  ·obtain⟨o',e1⟩:=I.base.there b o e hx
   exact⟨o',(hs.2 b (aG (aP (ak e) I.ok.above))).trans e1⟩
  ·by_cases hj:j=i
   ·subst hj
    rw[hi] at e1; cases e1
    rw[eO hiσ] at e2
    cases e2
    exact⟨u,r, .inl ⟨hk,by simp⟩⟩
   ·rw[fZ (cS hj)] at e2
    obtain⟨u',r',q⟩:=hl j y v' e1 e2 e3
    refine⟨u',r',?_⟩
    rcases q with ⟨k,e⟩ | ⟨k,c,e,z⟩
    ·refine .inl ⟨k,?_⟩
     have:y≠x:=fun e=>hj (jJG hN e1 (e ▸ hi))
     simp [this,e]
    ·exact .inr ⟨k,c,e,z.sameBut hs (cne y c e)⟩
  ·obtain⟨w',z⟩:=I.cell y c e
   exact⟨w',z.sameBut hs (cne y c e)⟩
  ·obtain⟨e,n,ne,nf,d⟩:=I.pin p hp
   exact⟨(hs.2 p.1 ne).trans e,n,ne,nf,d⟩
 ·have hfn:X.fn x=true:=by
   rcases hf with z | z
   ·exact z
   ·rw[z] at hk; cases hk
  obtain⟨c,hc⟩:=I.ok.has x (.inl hk)
  obtain⟨w',z⟩:=I.cell x c hc
  refine wpAny_storeName_cell I.ok.kind hk hc z (fun h' hc' hs=>?_)
  obtain⟨oc,hoc,hocd⟩:=id z
  refine h { s with heap:=h'} ⟨I.ok,I.os,I.bare,⟨fun b o e n hb hx=>?_,fun b o e n hb hx=>?_,I.base.free,fun b o e hx=>?_,I.base.tups,I.base.frzs,I.base.tbls⟩,⟨m,hn.sameBut hs (cS (cne x c hc)),fun j y v' e1 e2 e3=>?_⟩,fun y c' e=>?_,I.free,I.freeC,fun p hp=>?_,tracked ⟨oc,hoc,I.freeC x c hc⟩ hs,by simpa using I.len⟩ ⟨c,hs, .inr hc⟩
  ·exact(hs.2 b (aG (aP (ak e) (I.ok.cab x c hfn hc)))).trans (I.base.keep b o e n hb hx)
  ·obtain⟨sl,e1⟩:=I.base.slot b o e n hb hx
   exact⟨sl,(hs.2 b (aG (aP (ak e) (I.ok.cab x c hfn hc)))).trans e1⟩
  ·obtain⟨o',e1⟩:=I.base.there b o e hx
   exact⟨o',(hs.2 b (aG (aP (ak e) (I.ok.cab x c hfn hc)))).trans e1⟩
  ·by_cases hj:j=i
   ·subst hj
    rw[hi] at e1; cases e1
    rw[eO hiσ] at e2
    cases e2
    exact⟨u,r, .inr ⟨.inl hk,c,hc,hc'⟩⟩
   ·rw[fZ (cS hj)] at e2
    obtain⟨u',r',q⟩:=hl j y v' e1 e2 e3
    refine⟨u',r',?_⟩
    rcases q with q | ⟨k,c',e,z'⟩
    ·exact .inl q
    ·refine .inr ⟨k,c',e,z'.sameBut hs ?_⟩
     rintro rfl
     exact hj (jJG hN e1 (I.ok.inj _ _ _ e hc ▸ hi))
  ·by_cases hcc:c'=c
   ·subst hcc; exact⟨_,hc'⟩
   ·obtain⟨w2,z2⟩:=I.cell y c' e
    exact⟨w2,z2.sameBut hs hcc⟩
  ·obtain⟨e,n,ne,nf,d⟩:=I.pin p hp
   refine⟨(hs.2 p.1 ?_).trans e,n,ne,nf,d⟩
   intro q
   rw[q,hoc] at e
   have q':oc=p.2:=be e
   exact d w' (by rw[<- q']; exact hocd)
theorem jC4 {M:Model}{A:Around}{E:Value->Shared->Prop}{i:Nat}{x:Str}{v:V}{u:Value}{Q:Unit->Shared->Prop}(I:Inv X ad σ H s)(hN:X.N.Nodup)(hi:X.N[i]?=some x)(hx:Loc X.env.scope x)(r:RelV v u)
  (h:∀ s',Inv X ad (σ.set i (some v)) H s'->Q () s') (hf:X.fn x=true\/X.env.scope.names.lookup x=some .local:=by first | exact .inl rfl | exact .inr rfl | assumption):wpAny M A (storeName X.env x u) Q E s:=
 jGM I hN hi hx r (fun s' I' _=>h s' I') hf
theorem Inv.call' {s':Shared}{ch:List Addr}(I:Inv X ad σ H s)(ho:s'.os=s.os)(u:Un (frs X.stack) ch H H' s.heap s'.heap)(hok:HOk X.prog X.w H' s'.heap)(hg:AllBare s'.gens)
  (hch:∀ b∈ch,(b∈X.ex\/X.s₀.heap.objs.size<=b)/\b≠X.env.locals/\(∀ x c,X.env.cells.lookup x=some c->c≠b)/\∀ p∈X.pn++ad,p.1≠b):Inv X ad σ H' s':=by
 obtain⟨h',g',d',t',o'⟩:=s'
 have e:o'=s.os:=ho
 subst e
 exact I.call (g':=g') (t':=t') (d':=d') u hok hg hch
end
abbrev XK:=Value->Option Addr->Hp->Prop
abbrev St:=List (Option V)
abbrev VK:=V->Hp->Prop
abbrev TE:=St->Hp->VK->Prop
abbrev TT:=St->Hp->(Bool->Hp->Prop)->Prop
abbrev TA:=St->Hp->(List V->Hp->Prop)->Prop
structure Ends where
 nx:St->Hp->Prop
 rt:VK
 bk:St->Hp->Prop:=fun _ _=>False
 ct:St->Hp->Prop:=fun _ _=>False
abbrev TS:=Ends->St->Hp->Prop
def EP (X:Cx)(ad:List (Addr×Obj))(σ:St)(Q:VK)(u:Value)(s':Shared):Prop:=∃ v H',Inv X ad σ H' s'/\RelV v u/\Q v H'
def TP (X:Cx)(ad:List (Addr×Obj))(σ:St)(Q:Bool->Hp->Prop)(b:Bool)(s':Shared):Prop:=∃ H',Inv X ad σ H' s'/\Q b H'
def AP (X:Cx)(ad:List (Addr×Obj))(σ:St)(Q:List V->Hp->Prop)(us:List Value)(s':Shared):Prop:=∃ vs H',Inv X ad σ H' s'/\Vals vs us/\Q vs H'
def SP (X:Cx)(ad:List (Addr×Obj))(D:Ends)(f:Flow)(s':Shared):Prop:=
 match f with
 | .next=>∃ σ' H',Inv X ad σ' H' s'/\D.nx σ' H'
 | .brk=>∃ σ' H',Inv X ad σ' H' s'/\D.bk σ' H'
 | .cont=>∃ σ' H',Inv X ad σ' H' s'/\D.ct σ' H'
 | .ret u=>∃ v σ' H',Inv X ad σ' H' s'/\RelV v u/\D.rt v H'
def PE (X:Cx)(e:Expr)(t:TE):Prop:=
 ∀ (ad:List (Addr×Obj)) (s:Shared) (σ:St) (H:Hp) (Q:VK),Inv X ad σ H s->t σ H Q->wpAny (model X.prog X.w) X.A (eval e X.env) (EP X ad σ Q) X.xe s
def PT (X:Cx)(e:Expr)(t:TT):Prop:=
 ∀ (ad:List (Addr×Obj)) (s:Shared) (σ:St) (H:Hp) (Q:Bool->Hp->Prop),Inv X ad σ H s->t σ H Q->wpAny (model X.prog X.w) X.A (isTrue e X.env (eval e X.env)) (TP X ad σ Q) X.xe s
def PW (X:Cx)(e:Expr)(t:TT):Prop:=
 ∀ (whole:Sem Value) (ad:List (Addr×Obj)) (s:Shared) (σ:St) (H:Hp) (Q:Bool->Hp->Prop),Inv X ad σ H s->t σ H Q->wpAny (model X.prog X.w) X.A (isTrue e X.env whole) (TP X ad σ Q) X.xe s
theorem PW.pt {X:Cx}{e:Expr}{t:TT}(h:PW X e t):PT X e t:=h _
def PA (X:Cx)(es:List Expr)(t:TA):Prop:=
 ∀ (pos:Pos) (ad:List (Addr×Obj)) (s:Shared) (σ:St) (H:Hp) (Q:List V->Hp->Prop),Inv X ad σ H s->t σ H Q->wpAny (model X.prog X.w) X.A (spliced (backTo pos (starEach es X.env))) (AP X ad σ Q) X.xe s
def PS (X:Cx)(st:Stmt)(t:TS):Prop:=
 ∀ (ad:List (Addr×Obj)) (s:Shared) (σ:St) (H:Hp) (D:Ends),Inv X ad σ H s->t D σ H->wpAny (model X.prog X.w) X.A (exec st X.env) (SP X ad D) X.xe s
def PSs (X:Cx)(st:List Stmt)(t:TS):Prop:=
 ∀ (ad:List (Addr×Obj)) (s:Shared) (σ:St) (H:Hp) (D:Ends),Inv X ad σ H s->t D σ H->wpAny (model X.prog X.w) X.A (execs st X.env) (SP X ad D) X.xe s
theorem iZ {α:Type}{t:Sem α}{Q Q':α->Shared->Prop}{M:Model}{A:Around}{E:Value->Shared->Prop}{s:Shared}(h:wpAny M A t Q E s)(hQ:∀ a s,Q a s->Q' a s):wpAny M A t Q' E s:=bC h hQ fun _ _ x=>x
variable {b:Expr}{ta tb:TE}{pos:Pos}
section
def tVar (i:Nat):TE:=fun σ H Q=>∃ v,σ[i]?=some (some v)/\Q v H
def tC (v:V):TE:=fun _ H Q=>Q v H
theorem jJA {i:Nat}{x:Str}{pos:Pos}(hN:X.N[i]?=some x)(hv:Vis X.env.scope x)(hd:(x==("__debug__" :Str))=false:=by decide)(hcd:(x==("__classdict__" :Str))=false:=by decide):PE X (.Name x pos) (tVar i):=by
 intro ad s σ H Q I h
 obtain⟨v,e,h⟩:=h
 obtain⟨m,hn,hl⟩:=I.loc
 obtain⟨u,r,l⟩:=hl i x v hN e hv
 have fin:EP X ad σ Q u s:=⟨v,H,I,r,h⟩
 rcases l with ⟨hk,hm⟩ | ⟨hk,c,hc,hcell⟩
 ·exact wpAny_Name (wpAny_loadName_local I.ok.kind hk hn hm fin) hd
 ·rcases hk with hk | hk
  ·exact wpAny_Name (wpAny_loadName_cell I.ok.kind hk hc hcell fin) hd
  ·exact wpAny_Name (wpAny_loadName_free I.ok.kind hk hc hcell fin hcd) hd
theorem kO {i j pos} :PE X (.Constant (.int i) j pos) (tC (.int i)):=fun _ _ _ H _ I h=>wpAny_Constant_int ⟨.int i,H,I.tok _,⟨_,rfl⟩,h⟩
theorem pe_bl {b j pos} :PE X (.Constant (.bool b) j pos) (tC (.bl b)):=fun _ _ _ H _ I h=>Constant_bool ⟨.bl b,H,I,rfl,h⟩
theorem jU6 {j pos} :PE X (.Constant .none j pos) (tC .non):=fun _ _ _ H _ I h=>Constant_none ⟨.non,H,I,rfl,h⟩
theorem jU3 {x j pos} :PE X (.Constant (.str x) j pos) (tC (.str x)):=fun _ _ _ H _ I h=>Calls.Constant_str ⟨.str x,H,I.tok _,⟨_,rfl⟩,h⟩
def Gl (X:Cx)(x:Str):Prop:=X.env.kindOf x=some .globalImplicit
theorem jCP {E:Value->Shared->Prop}{ad:List (Addr×Obj)}{s:Shared}{σ:St}{H:Hp}{x:Str}{u:Value}{pos:Pos}{Q:Value->Shared->Prop}(I:Inv X ad σ H s)(hg:Gl X x)(hm:X.mg x=some u)(h:Q u s)
  (hd:(x==("__debug__" :Str))=false:=by decide):wpAny (model X.prog X.w) X.A (eval (.Name x pos) X.env) Q E s:=
 gw I.ok.kind hg (Calls.loadGlobal_global (by rw[I.ok.glob]; exact I.mod.glob.keeps I.bk) hm h) hd
theorem jEA {E:Value->Shared->Prop}{ad:List (Addr×Obj)}{s:Shared}{σ:St}{H:Hp}{x:Str}{u:Value}{pos:Pos}{Q:Value->Shared->Prop}(I:Inv X ad σ H s)(hg:Gl X x)(hm:X.mg x=none)(hv:bootBuiltins x=some u)(h:Q u s)
  (hn:x≠ "__name__" :=by decide) (hd:(x==("__debug__" :Str))=false:=by decide):wpAny (model X.prog X.w) X.A (eval (.Name x pos) X.env) Q E s:=by
 obtain⟨mb,h1,h2⟩:=I.mod.blt
 exact gw I.ok.kind hg (Calls.loadGlobal_builtin (by rw[I.ok.glob]; exact I.mod.glob.keeps I.bk) hm (by rw[I.ok.blt]; exact h1.keeps I.bk) ((h2 x hn).trans hv) h) hd
theorem jS9 {x:Str}{v:V}{u:Value}{pos:Pos}(hg:Gl X x)(hm:X.mg x=some u)(r:RelV v u)(hd:(x==("__debug__" :Str))=false:=by decide):PE X (.Name x pos) (tC v):=
 fun _ _ _ H _ I h=>jCP I hg hm ⟨v,H,I,r,h⟩ hd
theorem jSG {x:Str}{v:V}{u:Value}{pos:Pos}(hg:Gl X x)(hm:X.mg x=none)(hv:bootBuiltins x=some u)(r:RelV v u)(hn:x≠ "__name__" :=by decide)(hd:(x==("__debug__" :Str))=false:=by decide):PE X (.Name x pos) (tC v):=
 fun _ _ _ H _ I h=>jEA I hg hm hv ⟨v,H,I,r,h⟩ hn hd
variable {a:Expr}
def PC (X:Cx)(op:CmpOp)(a b:Expr)(t:TE):Prop:=
 ∀ (ad:List (Addr×Obj)) (s:Shared) (σ:St) (H:Hp) (Q:VK),Inv X ad σ H s->t σ H Q->
  wpAny (model X.prog X.w) X.A (eval a X.env) (fun v s₁=>wpAny (model X.prog X.w) X.A (eval b X.env) (fun u s₂=>wpAny (model X.prog X.w) X.A (compareOp op v u) (EP X ad σ Q) X.xe s₂) X.xe s₁) X.xe s
def tB (t:TE):TT:=fun σ H Q=>t σ H fun x H1=>∃ c,x= .bl c/\Q c H1
theorem jTY {op:CmpOp}{t:TE}(h:PC X op a b t)(h1:behindInMarks op b=false:=by first | exact nobehind _ (by decide) (by decide) | rfl):PT X (.Compare a [op] [b] pos) (tB t):=by
 intro ad s σ H Q I hw
 refine wpAny_isTrue_Compare1 (iZ (h ad s σ H _ I hw) fun v s1 h1=>iZ h1 fun u s2 h2=>iZ h2 fun c s3 ⟨x,H1,I1,r1,q1⟩=>?_) h1
 obtain⟨d,rfl,q⟩:=q1
 cases r1
 exact db ⟨H1,I1,q⟩
theorem jTW {e:Expr}{t:TE}(h:PE X e t)(he:∀ whole,isTrue e X.env whole=(do let v <- whole; standAt e.pos; holding [v] (truthy v)):=by intro _; rfl):PT X e (tB t):=by
 intro ad s σ H Q I hw
 refine isTrue_plain (iZ (h ad s σ H _ I hw) fun v s1 ⟨x,H1,I1,r1,q1⟩=>?_) (he _)
 obtain⟨d,rfl,q⟩:=q1
 cases r1
 exact db ⟨H1,I1,q⟩
variable {tA tB':TT}{rest:List Expr}
def tAnd (t u:TT):TT:=fun σ H Q=>t σ H fun c H1=>if c=true then u σ H1 Q else Q false H1
def tNot (t:TT):TT:=fun σ H Q=>t σ H fun c H1=>Q (!c) H1
theorem jRY (ha:PT X a tA):PW X (.BoolOp .And [a] pos) tA:=by
 intro wh ad s σ H Q I h
 refine isTrue_and (iZ (ha ad s σ H Q I h) fun c s1 e=>?_)
 cases c with
 | true=>exact isTrue_and_nil e
 | false=>exact e
theorem jTV (ha:PT X a tA)(hb:PW X (.BoolOp .And (b::rest) pos) tB'):PW X (.BoolOp .And (a::b::rest) pos) (tAnd tA tB'):=by
 intro wh ad s σ H Q I h
 refine isTrue_and (iZ (ha ad s σ H _ I h) fun c s1 ⟨H1,I1,q1⟩=>?_)
 cases c with
 | true=>exact hb wh ad s1 σ H1 Q I1 q1
 | false=>exact⟨H1,I1,q1⟩
theorem jTX (ha:PT X a tA):PT X (.UnaryOp .Not a pos) (tNot tA):=by
 intro ad s σ H Q I h
 exact isTrue_not (ha ad s σ H (fun c H1=>Q (!c) H1) I h)
def tAndV (ta tb:TE):TE:=fun σ H Q=>ta σ H fun x H1=>∃ c,x= .bl c/\if c=true then tb σ H1 Q else Q (.bl false) H1
def tOrV (ta tb:TE):TE:=fun σ H Q=>ta σ H fun x H1=>∃ c,x= .bl c/\if c=true then Q (.bl true) H1 else tb σ H1 Q
def tNotV (ta:TE):TE:=fun σ H Q=>ta σ H fun x H1=>∃ c,x= .bl c/\Q (.bl (!c)) H1
theorem jU4 {op}{t:TE}(h:PE X a t):PE X (.BoolOp op [a] pos) t:=fun ad s σ H Q I hw=>BoolOp_one (h ad s σ H Q I hw)
theorem jU9 (ha:PE X a ta)(hb:PE X (.BoolOp .And (b::rest) pos) tb):PE X (.BoolOp .And (a::b::rest) pos) (tAndV ta tb):=by
 intro ad s σ H Q I h
 refine BoolOp_and (iZ (ha ad s σ H _ I h) fun v s1 ⟨x,H1,I1,r1,q1⟩=>?_)
 obtain⟨c,rfl,q1⟩:=q1
 cases r1
 refine db ?_
 cases c with
 | true=>exact hb ad s1 σ H1 Q I1 q1
 | false=>exact⟨.bl false,H1,I1,rfl,q1⟩
theorem pe_or (ha:PE X a ta)(hb:PE X (.BoolOp .Or (b::rest) pos) tb):PE X (.BoolOp .Or (a::b::rest) pos) (tOrV ta tb):=by
 intro ad s σ H Q I h
 refine BoolOp_or (iZ (ha ad s σ H _ I h) fun v s1 ⟨x,H1,I1,r1,q1⟩=>?_)
 obtain⟨c,rfl,q1⟩:=q1
 cases r1
 refine db ?_
 cases c with
 | false=>exact hb ad s1 σ H1 Q I1 q1
 | true=>exact⟨.bl true,H1,I1,rfl,q1⟩
theorem jU5 (ha:PE X a ta):PE X (.UnaryOp .Not a pos) (tNotV ta):=by
 intro ad s σ H Q I h
 refine UnaryOp_ (iZ (ha ad s σ H _ I h) fun v s1 ⟨x,H1,I1,r1,q1⟩=>?_)
 obtain⟨c,rfl,q1⟩:=q1
 cases r1
 exact not_of (db ⟨.bl (!c),H1,I1,rfl,q1⟩)
end
def SqL (K:W.Frag)(H:Hp)(a:Addr)(xs:List V):Prop:=
 Rd H a (.lst xs)\/
  ∃ (o:Obj) (its:Array Value) (n:Nat),K.lookup a=some o/\o.cls= .type "list" /\o.dict=none/\o.data= .seq its n/\its.size<=sizeLine/\Vals xs its.toList
def SqT (K:W.Frag)(H:Hp)(a:Addr)(xs:List V):Prop:=
 Rd H a (.tup xs)\/
  ∃ (o:Obj) (its:Array Value) (n:Nat),K.lookup a=some o/\o.cls= .type "tuple" /\o.data= .seq its n/\its.size<=sizeLine/\Vals xs its.toList
noncomputable def absV:Value->Option V
 | .none=>some .non
 | .bool b=>some (.bl b)
 | .int i _=>some (.int i)
 | .str x _=>some (.str x)
 | .bytes b _=>some (.byt b)
 | .float b _=>some (.flt b)
 | .ref a=>some (.ref a)
 | .type n=>some (.ty n)
 | _=>none
theorem RelV.abs {x:V}{u:Value}(r:RelV x u):absV u=some x:=by
 cases x with
 | non=>cases r; rfl
 | bl _=>cases r; rfl
 | int _=>obtain⟨t,rfl⟩:=r; rfl
 | str _=>obtain⟨t,rfl⟩:=r; rfl
 | byt _=>obtain⟨t,rfl⟩:=r; rfl
 | flt _=>obtain⟨t,rfl⟩:=r; rfl
 | ref _=>cases r; rfl
 | ty _=>cases r; rfl
theorem RelV.inj {x y:V}{u:Value}(r:RelV x u)(q:RelV y u):x=y:=be (r.abs.symm.trans q.abs)
theorem Vals.inj:∀ {xs ys:List V}{us:List Value},Vals xs us->Vals ys us->xs=ys
 | _,_,_, .nil, .nil=>rfl
 | _,_,_, .cons r t, .cons r' t'=>by rw[r.inj r',Vals.inj t t']
section
variable {σ:St}{xs ys:List V}
theorem SqL.of {K:W.Frag}(h:H a=some (.lst xs)):SqL K H a xs:= .inl (.inl h)
theorem SqT.of {K:W.Frag}(h:H a=some (.tup xs)):SqT K H a xs:= .inl (.inl h)
theorem Inv.list (I:Inv X ad σ H s)(h:SqL X.K H a xs):∃ its:List Value,Vals xs its/\PlainL s.heap a its.toArray/\xs.length<=sizeLine:=by
 rcases h with h | ⟨o,its,n,hk,hc,hd,hs,hz,r⟩
 ·obtain⟨z,its,n,r,e⟩:=h.ok I.hok
  exact⟨its,r,⟨_,n,e,rfl,rfl,rfl⟩,z⟩
 ·refine⟨its.toList,r,⟨o,n,I.kIn a o hk,hc,hd,by simpa using hs⟩,?_⟩
  have e:=r.length
  simp only [bE] at e
  lia
theorem Inv.tuple (I:Inv X ad σ H s)(h:SqT X.K H a xs):∃ its:List Value,Vals xs its/\IsTup s.heap a its.toArray/\xs.length<=sizeLine:=by
 rcases h with h | ⟨o,its,n,hk,hc,hs,hz,r⟩
 ·obtain⟨z,its,r,p⟩:=h.ok I.hok
  exact⟨its,r,p.isTup,z⟩
 ·refine⟨its.toList,r,⟨o,I.kIn a o hk,hc,n,by simpa using hs⟩,?_⟩
  have e:=r.length
  simp only [bE] at e
  lia
theorem Inv.list_inj (I:Inv X ad σ H s)(h:SqL X.K H a xs)(h':SqL X.K H a ys):xs=ys:=by
 obtain⟨its,r,⟨o,n,e,_,_,d⟩,_⟩:=I.list h
 obtain⟨its',r',⟨o',n',e',_,_,d'⟩,_⟩:=I.list h'
 rw[e] at e'; cases e'
 rw[d] at d'
 injection d' with d1 _
 have:its=its':=by simpa using cg Array.toList d1
 subst this
 exact r.inj r'
theorem Inv.tuple_inj (I:Inv X ad σ H s)(h:SqT X.K H a xs)(h':SqT X.K H a ys):xs=ys:=by
 obtain⟨its,r,⟨o,e,_,n,d⟩,_⟩:=I.tuple h
 obtain⟨its',r',⟨o',e',_,n',d'⟩,_⟩:=I.tuple h'
 rw[e] at e'; cases e'
 rw[d] at d'
 injection d' with d1 _
 have:its=its':=by simpa using cg Array.toList d1
 subst this
 exact r.inj r'
end
abbrev Cx.wish (X:Cx)(E:Value->Shared->Prop):Cx:= { X with xe:=E}
abbrev Cx.nox (X:Cx):Cx:=X.wish fun _ _=>False
theorem Cx.Ok.wish {X:Cx}(ok:X.Ok)(E:Value->Shared->Prop):(X.wish E).Ok:=
 ⟨ok.mod,ok.kind,ok.glob,ok.blt,ok.above,ok.inj,ok.has,ok.cab,ok.hd,ok.frames,ok.stk,ok.exf,ok.bs,ok.bsz,ok.noex,ok.exfs,ok.funs,ok.frf⟩
theorem Cx.Ok.unwish {X:Cx}{E:Value->Shared->Prop}(ok:(X.wish E).Ok):X.Ok:=
 ⟨ok.mod,ok.kind,ok.glob,ok.blt,ok.above,ok.inj,ok.has,ok.cab,ok.hd,ok.frames,ok.stk,ok.exf,ok.bs,ok.bsz,ok.noex,ok.exfs,ok.funs,ok.frf⟩
variable {E:Value->Shared->Prop}
section
variable {σ:St}
theorem Inv.wish (I:Inv X ad σ H s)(E:Value->Shared->Prop):Inv (X.wish E) ad σ H s:=⟨I.ok.wish E,I.os,I.bare,I.base,I.loc,I.cell,I.free,I.freeC,I.pin,I.hok,I.len⟩
theorem Inv.unwish (I:Inv (X.wish E) ad σ H s):Inv X ad σ H s:=⟨I.ok.unwish,I.os,I.bare,I.base,I.loc,I.cell,I.free,I.freeC,I.pin,I.hok,I.len⟩
theorem SP.unwish {D:Ends}{f:Flow}{s':Shared}(h:SP (X.wish E) ad D f s'):SP X ad D f s':=by
 cases f with
 | next=>obtain⟨σ',H',I,q⟩:=h; exact⟨σ',H',I.unwish,q⟩
 | brk=>obtain⟨σ',H',I,q⟩:=h; exact⟨σ',H',I.unwish,q⟩
 | cont=>obtain⟨σ',H',I,q⟩:=h; exact⟨σ',H',I.unwish,q⟩
 | ret u=>obtain⟨v,σ',H',I,r,q⟩:=h; exact⟨v,σ',H',I.unwish,r,q⟩
theorem PT.nox {e:Expr}{t:TT}(h:PT X.nox e t):PT X e t:=fun ad s σ H Q I hw=>
 bC (h ad s σ H Q (I.wish _) hw) (fun _ _ ⟨H',I',q⟩=>⟨H',I'.unwish,q⟩) fun _ _ z=>False.elim z
theorem PSs.nox {st:List Stmt}{t:TS}(h:PSs X.nox st t):PSs X st t:=fun ad s σ H D I hw=>
 bC (h ad s σ H D (I.wish _) hw) (fun _ _ q=>q.unwish) fun _ _ z=>False.elim z
end
variable {e:Expr}{te:TE}
section
variable {st:Stmt}{rest:List Stmt}{t u:TS}
def tNext:TS:=fun D σ H=>D.nx σ H
def tSeq (t u:TS):TS:=fun D σ H=>t { D with nx:=u D} σ H
theorem jFO:PSs X [] tNext:=fun _ _ σ H _ I h=>dH ⟨σ,H,I,h⟩
theorem yH (h1:PS X st t)(h2:PSs X rest u):PSs X (st::rest) (tSeq t u):=by
 intro ad s σ H D I h
 refine g6 (iZ (h1 ad s σ H { D with nx:=u D} I h) fun f s1 q=>?_)
 cases f with
 | next=>
  obtain⟨σ',H',I',q⟩:=q
  exact h2 ad s1 σ' H' D I' q
 | ret v=>exact q
 | brk=>exact q
 | cont=>exact q
theorem jB3 (h1:PS X st t):PSs X [st] t:=by
 intro ad s σ H D I h
 refine g6 (iZ (h1 ad s σ H D I h) fun f s1 q=>?_)
 cases f with
 | next=>exact dH q
 | ret v=>exact q
 | brk=>exact q
 | cont=>exact q
theorem Inv.quiet {ad:List (Addr×Obj)}{σ:St}{H:Hp}{s:Shared}(I:Inv X ad σ H s):interactive X.env=false:=by simp [interactive,I.ok.kind]
def tDrop (te:TE):TS:=fun D σ H=>te σ H fun _ H1=>D.nx σ H1
theorem jS1 (he:PE X e te)(hs:swapsWith e none pos.line X.env=pure false:=by rfl):PS X (.Expr e pos) (tDrop te):=by
 intro ad s σ H D I h
 exact wpAny_Expr_any (iZ (he ad s σ H _ I h) fun v s1 ⟨x,H1,I1,r1,q1⟩=>⟨σ,H1,I1,q1⟩) I.quiet hs
def tRet (te:TE):TS:=fun D σ H=>te σ H D.rt
theorem jD7 (he:PE X e te):PS X (.Return (some e) pos) (tRet te):=by
 intro ad s σ H D I h
 exact wpAny_Return_some (iZ (he ad s σ H _ I h) fun v s1 ⟨x,H1,I1,r1,q1⟩=>⟨x,σ,H1,I1,r1,q1⟩)
def tIfS (c:TT)(t u:TS):TS:=fun D σ H=>c σ H fun b H1=>if b=true then t D σ H1 else u D σ H1
theorem ps_if {c:Expr}{a b:List Stmt}{tc:TT}(hc:PT X c tc)(ha:PSs X a t)(hb:PSs X b u):PS X (.If c a b pos) (tIfS tc t u):=by
 intro ad s σ H D I h
 refine wpAny_If (iZ (hc ad s σ H _ I h) fun d s1 ⟨H1,I1,q1⟩=>?_)
 cases d with
 | true=>exact ha ad s1 σ H1 D I1 q1
 | false=>exact hb ad s1 σ H1 D I1 q1
end
abbrev TG:=V->St->Hp->(St->Hp->Prop)->Prop
abbrev TGs:=List V->St->Hp->(St->Hp->Prop)->Prop
def PG (X:Cx)(target:Expr)(t:TG):Prop:=
 ∀ (ad:List (Addr×Obj)) (s:Shared) (σ:St) (H:Hp) (v:V) (u:Value) (Q:St->Hp->Prop),Inv X ad σ H s->RelV v u->t v σ H Q->
  wpAny (model X.prog X.w) X.A (assign target X.env u) (fun _ s'=>∃ σ' H',Inv X ad σ' H' s'/\Q σ' H') X.xe s
def PGs (X:Cx)(ts:List Expr)(t:TGs):Prop:=
 ∀ (ad:List (Addr×Obj)) (s:Shared) (σ:St) (H:Hp) (vs:List V) (us:List Value) (Q:St->Hp->Prop),Inv X ad σ H s->Vals vs us->t vs σ H Q->
  wpAny (model X.prog X.w) X.A (assignInOrder ((assignEach ts X.env).map (·.2)) us) (fun _ s'=>∃ σ' H',Inv X ad σ' H' s'/\Q σ' H') X.xe s
abbrev TSet:=V->V->V->Hp->(Hp->Prop)->Prop
def PSet (X:Cx)(t:TSet):Prop:=
 ∀ (ad:List (Addr×Obj)) (s:Shared) (σ:St) (H:Hp) (o i v:V) (ov iv u:Value) (Q:Hp->Prop),Inv X ad σ H s->RelV o ov->RelV i iv->RelV v u->t o i v H Q->
  wpAny (model X.prog X.w) X.A (setItem ov iv u) (fun _ s'=>∃ H',Inv X ad σ H' s'/\Q H') X.xe s
def kI (i:Nat):TG:=fun v σ H Q=>Q (σ.set i (some v)) H
theorem jFR {i:Nat}{x:Str}(hN:X.N.Nodup)(hi:X.N[i]?=some x)(hx:Loc X.env.scope x)(hf:X.fn x=true\/X.env.scope.names.lookup x=some .local:=by first | exact .inl rfl | exact .inr rfl | assumption):PG X (.Name x pos) (kI i):=by
 intro ad s σ H v u Q I r h
 exact wpAny_assign_Name (jC4 I hN hi hx r (fun s' I'=>⟨_,H,I',h⟩) hf)
def gNil:TGs:=fun vs σ H Q=>vs=[]/\Q σ H
def gCons (t:TG)(u:TGs):TGs:=fun vs σ H Q=>∃ v r,vs=v::r/\t v σ H fun σ' H'=>u r σ' H' Q
theorem jS8:PGs X [] gNil:=by
 intro ad s σ H vs us Q I r h
 obtain⟨e,h⟩:=h
 subst e
 cases r
 exact assignInOrder_nil ⟨σ,H,I,h⟩
theorem jP8 {e:Expr}{es:List Expr}{t:TG}{u:TGs}(h1:PG X e t)(h2:PGs X es u)
  (hs:(assignEach (e::es) X.env).map (·.2)=assign e X.env::(assignEach es X.env).map (·.2):=by rfl):PGs X (e::es) (gCons t u):=by
 intro ad s σ H vs us Q I r h
 obtain⟨v,vr,e1,h⟩:=h
 subst e1
 cases r with
 | cons r rr=>
  rw[hs]
  refine assignInOrder_cons (iZ (h1 ad s σ H _ _ _ I r h) fun _ s1 ⟨σ1,H1,I1,q1⟩=>?_)
  exact h2 ad s1 σ1 H1 _ _ Q I1 rr q1
def gTup (K:W.Frag)(n:Nat)(t:TGs):TG:=fun v σ H Q=>∃ a xs,v= .ref a/\SqT K H a xs/\xs.length=n/\t xs σ H Q
theorem jU1 {es:List Expr}{k:Nat}{t:TGs}{n:Nat}(hc:X.calm=true)(h:PGs X es t)
  (hn:(assignEach es X.env).length=n:=by rfl) (hst:(assignEach es X.env).findIdx? (·.1)=none:=by rfl):PG X (.Tuple es k pos) (gTup X.K n t):=by
 intro ad s σ H v u Q I r hw
 obtain⟨a,xs,e1,hq,hl,hw⟩:=hw
 subst e1
 cases r
 obtain⟨its,rv,ht,hz⟩:=I.tuple hq
 refine assign_Tuple_tuple (I.ok.hd hc) ht (by simp [hn,<- hl,rv.length]) hst fun h' hx=>?_
 have I1:Inv X ad σ H { s with heap:=h'} :=I.kept (t':=s.toks) fun b o e=>hx b o (aG (ak e)) e
 exact h ad _ σ H xs _ Q I1 (by simpa using rv) hw
def gSub (to ti:TE)(t:TSet):TG:=fun v σ H Q=>to σ H fun o H1=>ti σ H1 fun i H2=>t o i v H2 fun H3=>Q σ H3
theorem jQX {o i:Expr}{to ti:TE}{t:TSet}(ho:PE X o to)(hi:PE X i ti)(hs:PSet X t)
  (ha:∀ v,assign (.Subscript o i pos) X.env v=(do
   let ov <- holding [v] (eval o X.env)
   let iv <- holding [v,ov] (eval i X.env)
   standAt pos
   holding [v,ov,iv] (setItem ov iv v)
   release [v,ov,iv] []):=by intro _; rfl):PG X (.Subscript o i pos) (gSub to ti t):=by
 intro ad s σ H v u Q I r h
 rw[ha]
 refine ae (br (iZ (ho ad s σ H _ I h) fun ov s1 ⟨x,H1,I1,r1,q1⟩=>?_))
 refine ae (br (iZ (hi ad s1 σ H1 _ I1 q1) fun iv s2 ⟨y,H2,I2,r2,q2⟩=>?_))
 refine ae (eh (ae (br (iZ (hs ad s2 σ H2 x y v ov iv u _ I2 r1 r2 r q2) fun _ s3 ⟨H3,I3,q3⟩=>?_))))
 exact wpAny_release ⟨σ,H3,I3,q3⟩
def tAsg (te:TE)(g:TG):TS:=fun D σ H=>te σ H fun x H1=>g x σ H1 D.nx
theorem jQW {tg e:Expr}{te:TE}{g:TG}(he:PE X e te)(hg:PG X tg g)(hs:swapsWithSole [tg] e pos.line X.env=pure false:=by rfl)(hw:swappedStores [tg] e X.env=pure none:=by rfl)
  (h1:(assignEach [tg] X.env).map (·.2)=[assign tg X.env]:=by rfl):PS X (.Assign [tg] e pos) (tAsg te g):=by
 intro ad s σ H D I h
 refine wpAny_Assign_stores (iZ (he ad s σ H _ I h) fun v s1 ⟨x,H1,I1,r1,q1⟩=>?_) hs hw
 rw[h1]
 exact iZ (hg ad s1 σ H1 x v _ I1 r1 q1) fun _ s2 q=>q
theorem qV {i:Nat}{x:Str}{e:Expr}{te:TE}{pos':Pos}(hN:X.N.Nodup)(hi:X.N[i]?=some x)(hx:Loc X.env.scope x)(he:PE X e te)(hs:swapsWith e (some (.Name x pos')) pos.line X.env=pure false:=by rfl)(hf:X.fn x=true\/X.env.scope.names.lookup x=some .local:=by first | exact .inl rfl | exact .inr rfl | assumption):
  PS X (.Assign [.Name x pos'] e pos) (tAsg te (kI i)):=by
 intro ad s σ H D I h
 refine wpAny_Assign_Name (iZ (he ad s σ H _ I h) fun v s1 ⟨y,H1,I1,r1,q1⟩=>?_) hs
 exact jC4 I1 hN hi hx r1 (fun s2 I2=>⟨_,H1,I2,q1⟩) hf
def jQS (c:TT)(tb:TS):TS:=fun D σ H=>∃ W:Nat->St->Hp->Prop,(∃ m,W m σ H)/\∀ m σ H,W m σ H->
 c σ H fun b H1=>if b=true then ∃ N:St->Hp->Prop,(∀ σ' H',N σ' H'->∃ m',m'<m/\W m' σ' H')/\tb { D with nx:=N,ct:=N,bk:=D.nx} σ H1 else D.nx σ H1
theorem jP2 {c:Expr}{body:List Stmt}{tc:TT}{tb:TS}(hp:PassesOwn (model X.prog X.w) X.A X.env X.xe)(hc:PT X c tc)(hb:PSs X body tb):PS X (.While c body [] pos) (jQS tc tb):=by
 intro ad s σ H D I h
 obtain⟨W,⟨m0,w0⟩,turn⟩:=h
 refine wpAny_While (codeAny_whileLoop (fun n s'=>∃ σ' H',Inv X ad σ' H' s'/\W n σ' H') ?_ m0 ⟨σ,H,I,w0⟩)
 rintro n s1 ⟨σ1,H1,I1,w1⟩
 refine da hp (iZ (hc ad s1 σ1 H1 _ I1 (turn n σ1 H1 w1)) fun b s2 ⟨H2,I2,q2⟩=>?_)
 cases b with
 | true=>
  obtain⟨N,hN,q2⟩:=q2
  rw[aD rfl]
  refine da hp (iZ (hb ad s2 σ1 H2 _ I2 q2) fun f s3 q3=>?_)
  cases f with
  | next=>
   obtain⟨σ3,H3,I3,n3⟩:=q3
   obtain⟨m',hm,w3⟩:=hN σ3 H3 n3
   exact⟨m',hm,σ3,H3,I3,w3⟩
  | cont=>
   obtain⟨σ3,H3,I3,n3⟩:=q3
   obtain⟨m',hm,w3⟩:=hN σ3 H3 n3
   exact⟨m',hm,σ3,H3,I3,w3⟩
  | brk=>exact q3
  | ret v=>exact q3
 | false=>
  rw[aF ar]
  exact dH ⟨σ1,H2,I2,q2⟩
structure It where
 go:Nat->Hp->Prop
 yld:Nat->Hp->V->Hp->Prop
 stop:Nat->Hp->Prop
def FpOk (X:Cx)(ad:List (Addr×Obj))(H:Hp)(b:Addr):Prop:=
 H b=none/\b≠X.env.locals/\b∉X.fs/\(b∈X.ex\/X.s₀.heap.objs.size<=b)/\(∀ x c,X.env.cells.lookup x=some c->c≠b)/\∀ p∈X.pn++ad,p.1≠b
theorem Inv.fpOk {X:Cx}{ad:List (Addr×Obj)}{σ:St}{H H':Hp}{s:Shared}{b:Addr}(I:Inv X ad σ H s)(hb:s.heap.objs.size<=b)(hn:H' b=none):FpOk X ad H' b:=by
 refine⟨hn,de (aP I.lt hb),I.nofs hb, .inr (aQ I.sz hb),fun x c e z=>?_,fun p hp z=>?_⟩
 ·obtain⟨v,q⟩:=I.cell x c e
  exact absurd (aP q.lt (by rw[z]; exact hb)) (bV _)
 ·exact absurd (aP (ak (I.pin p hp).1) (by rw[z]; exact hb)) (bV _)
structure Turn (P:Program)(w:World)(K:W.Frag)(tg:Expr)(J:It)(fp:List Addr)(it:Addr)(tn:Nat->Heap->Prop):Prop where
 mem:it∈fp
 obj:∀ i h,tn i h->∀ b∈fp,∃ o,h.get? b=some o/\∀ v,o.data≠ .cell v
 keep:∀ i h h',tn i h->(∀ b∈fp,∀ o,h.get? b=some o->h'.get? b=some o)->tn i h'
 item:∀ (X:Cx),X.prog=P->X.w=w->X.K=K->X.calm=true->∀ (i:Nat) (ad:List (Addr×Obj)) (s:Shared) (σ:St) (H:Hp) (E:Value->Shared->Prop),Inv X ad σ H s->(∀ b∈fp,FpOk X ad H b)->tn i s.heap->J.go i H->
  wpAny (model P w) X.A (pyNext (.ref it)) (fun r s1=>∃ u,r=some u/\
   wpAny (model P w) X.A (letOwnedTupleGo tg (.ref it) u) (fun _ s2=>∃ x H',Inv X ad σ H' s2/\RelV x u/\J.yld i H x H'/\tn (i+1) s2.heap/\∀ b∈fp,H' b=none) E s1) E s
 done:∀ (X:Cx),X.prog=P->X.w=w->X.K=K->X.calm=true->∀ (i:Nat) (ad:List (Addr×Obj)) (s:Shared) (σ:St) (H:Hp) (E:Value->Shared->Prop),Inv X ad σ H s->(∀ b∈fp,FpOk X ad H b)->tn i s.heap->J.stop i H->
  wpAny (model P w) X.A (pyNext (.ref it)) (fun r s1=>r=none/\Inv X ad σ H s1) E s
 self:∀ (A:Around) (i:Nat) (s:Shared) (Q:Value->Shared->Prop) (E:Value->Shared->Prop),tn i s.heap->Q (.ref it) s->wpAny (model P w) A (pyIter (.ref it)) Q E s
abbrev TI:=St->Hp->(It->Hp->Prop)->Prop
def PIE (X:Cx)(ad:List (Addr×Obj))(σ:St)(tg:Expr)(R:It->Hp->Prop)(itv:Value)(s2:Shared):Prop:=
 ∃ (it:Addr) (fp:List Addr) (tn:Nat->Heap->Prop) (J:It) (H':Hp),itv= .ref it/\Inv X ad σ H' s2/\Turn X.prog X.w X.K tg J fp it tn/\tn 0 s2.heap/\(∀ b∈fp,FpOk X ad H' b)/\R J H'
def PI (X:Cx)(tg iter:Expr)(wi:TI):Prop:=
 ∀ (ad:List (Addr×Obj)) (s:Shared) (σ:St) (H:Hp) (R:It->Hp->Prop),Inv X ad σ H s->wi σ H R->
  wpAny (model X.prog X.w) X.A (eval iter X.env) (fun v s1=>wpAny (model X.prog X.w) X.A (pyIter v) (PIE X ad σ tg R) X.xe s1) X.xe s
theorem go_of {M:Model}{A:Around}{E:Value->Shared->Prop}{s:Shared}{tg:Expr}{it:Addr}{u:Value}{o:Obj}{n:String}{vs:Array Value}{Q:Unit->Shared->Prop}(ho:s.heap.get? it=some o)(hc:o.cls= .type n)(hd:o.data= .fields vs)
  (hn: ["enumerate","zip","dict_itemiterator","dict_reverseitemiterator","odict_iterator","itertools.zip_longest","itertools.pairwise"].contains n=false) (hQ:Q () s):wpAny M A (letOwnedTupleGo tg (.ref it) u) Q E s:=by
 unfold letOwnedTupleGo
 cases tg <;> first
  | exact ag hQ
  | (cases u <;> first
    | exact ag hQ
    | (refine ae (fw ho ?_)
       rw [hc, hd]
       show wpAny M A (if (["enumerate", "zip", "dict_itemiterator", "dict_reverseitemiterator", "odict_iterator", "itertools.zip_longest", "itertools.pairwise"].contains n && vs[0]? == some (rawInt _)) = true then _ else _) Q E s
       rw [aF (by intro h; rw [hn, dy] at h; cases h)]
       exact ag hQ))
def Itl (K:W.Frag)(a:Addr):It:=
 ⟨fun i H=>∃ xs x,SqL K H a xs/\xs[i]?=some x,fun i H x H'=>H'=H/\∀ xs,SqL K H a xs->xs[i]?=some x,fun i H=>∃ xs,SqL K H a xs/\xs.length<=i⟩
def Itt (K:W.Frag)(a:Addr):It:=
 ⟨fun i H=>∃ xs x,SqT K H a xs/\xs[i]?=some x,fun i H x H'=>H'=H/\∀ xs,SqT K H a xs->xs[i]?=some x,fun i H=>∃ xs,SqT K H a xs/\xs.length<=i⟩
def Itr (lo:Int)(n:Nat):It:=⟨fun i _=>i<n,fun i H x H'=>H'=H/\x= .int (lo+i),fun i _=>n<=i⟩
theorem jLK {P:Program}{w:World}{K:W.Frag}{tg:Expr}(a it:Addr):Turn P w K tg (Itl K a) [it] it (fun i h=>h.IsListIter it a i) where
 mem:=by simp
 obj:=fun i h st b hb=>by
  have e:b=it:=by simpa using hb
  subst e
  obtain⟨o,e,c,d⟩:=st
  exact⟨o,e,fun v z=>by rw[d] at z; cases z⟩
 keep:=fun i h h' st k=>st.at fun o e=>k it (by simp) o e
 item:=by
  intro X hP hw hK hc i ad s σ H E I hf st hg
  subst hP hw hK
  obtain⟨xs,x,hq,hx⟩:=hg
  obtain⟨its,rv,p,hz⟩:=I.list hq
  obtain⟨u,hu,ru⟩:=rv.get hx
  obtain⟨f0,f1,f2,f3,f4,f5⟩:=hf it (by simp)
  refine wpAny_pyNext_list_item st p.isList (x:=u) (by simpa using hu) fun h' st' sb=>?_
  have I1:Inv X ad σ H { s with heap:=h'} :=I.turned (t':=s.toks) (fun b o hb e=>(sb.2 b hb).trans e) f0 f1 f3 f4 f5
  obtain⟨o,e,c,d⟩:=id st'
  exact⟨u,rfl,go_of (s:= { s with heap:=h'}) e c d (by decide) ⟨x,H,I1,ru,⟨rfl,fun ys hy=>by rw[I.list_inj hy hq]; exact hx⟩,st',fun b hb=>(hf b hb).1⟩⟩
 done:=by
  intro X hP hw hK hc i ad s σ H E I hf st hg
  subst hP hw hK
  obtain⟨xs,hq,hx⟩:=hg
  obtain⟨its,rv,p,hz⟩:=I.list hq
  obtain⟨f0,f1,f2,f3,f4,f5⟩:=hf it (by simp)
  have hl:=rv.length
  exact wpAny_pyNext_list_end (I.ok.hd hc) st p.isList (by simp; lia) fun h' eb=>⟨rfl,I.turned (t':=s.toks) (fun b o hb e=>eb b o hb e) f0 f1 f3 f4 f5⟩
 self:=fun _ _ _ _ _ st h=>wpAny_pyIter_listiter st h
theorem jKD {P:Program}{w:World}{K:W.Frag}{tg:Expr}(a it:Addr):Turn P w K tg (Itt K a) [it] it (fun i h=>h.IsTupleIter it a i) where
 mem:=by simp
 obj:=fun i h st b hb=>by
  have e:b=it:=by simpa using hb
  subst e
  obtain⟨o,e,c,d⟩:=st
  exact⟨o,e,fun v z=>by rw[d] at z; cases z⟩
 keep:=fun i h h' st k=>st.at fun o e=>k it (by simp) o e
 item:=by
  intro X hP hw hK hc i ad s σ H E I hf st hg
  subst hP hw hK
  obtain⟨xs,x,hq,hx⟩:=hg
  obtain⟨its,rv,p,hz⟩:=I.tuple hq
  obtain⟨u,hu,ru⟩:=rv.get hx
  obtain⟨f0,f1,f2,f3,f4,f5⟩:=hf it (by simp)
  refine wpAny_pyNext_tuple_item st (show s.heap.IsTuple a its.toArray from p) (x:=u) (by simpa using hu) fun h' st' sb=>?_
  have I1:Inv X ad σ H { s with heap:=h'} :=I.turned (t':=s.toks) (fun b o hb e=>(sb.2 b hb).trans e) f0 f1 f3 f4 f5
  obtain⟨o,e,c,d⟩:=id st'
  exact⟨u,rfl,go_of (s:= { s with heap:=h'}) e c d (by decide) ⟨x,H,I1,ru,⟨rfl,fun ys hy=>by rw[I.tuple_inj hy hq]; exact hx⟩,st',fun b hb=>(hf b hb).1⟩⟩
 done:=by
  intro X hP hw hK hc i ad s σ H E I hf st hg
  subst hP hw hK
  obtain⟨xs,hq,hx⟩:=hg
  obtain⟨its,rv,p,hz⟩:=I.tuple hq
  obtain⟨f0,f1,f2,f3,f4,f5⟩:=hf it (by simp)
  have hl:=rv.length
  exact wpAny_pyNext_tuple_end (I.ok.hd hc) st (show s.heap.IsTuple a its.toArray from p) (by simp; lia) fun h' eb=>⟨rfl,I.turned (t':=s.toks) (fun b o hb e=>eb b o hb e) f0 f1 f3 f4 f5⟩
 self:=fun _ _ _ _ _ st h=>wpAny_pyIter_tupleiter st h
theorem jKE {P:Program}{w:World}{K:W.Frag}{tg:Expr}(it:Addr)(lo:Int)(n:Nat):Turn P w K tg (Itr lo n) [it] it (fun i h=>IsRangeIter h it (lo+(i:Nat)*1) ((n:Int) - (i:Nat)) 1) where
 mem:=by simp
 obj:=fun i h st b hb=>by
  have e:b=it:=by simpa using hb
  subst e
  exact⟨_,st,fun v z=>by
   have z':Data.fields _=Data.cell v:=z
   cases z'⟩
 keep:=fun i h h' st k=>k it (by simp) _ st
 item:=by
  intro X hP hw hK hc i ad s σ H E I hf st hg
  subst hP hw hK
  obtain⟨f0,f1,f2,f3,f4,f5⟩:=hf it (by simp)
  have W:=Walks.range (prog:=X.prog) (w:=X.w) (I.ok.hd hc) it lo 1 n
  refine W.item i s _ _ hg st fun v h' tk hv st' kk=>?_
  obtain⟨t,rfl⟩:=hv
  have I1:Inv X ad σ H { s with heap:=h',toks:=tk} :=I.turned (fun b o hb e=>kk b o (by simpa using hb) e) f0 f1 f3 f4 f5
  refine⟨_,rfl,go_of (s:= { s with heap:=h',toks:=tk}) (n:= "range_iterator") st' rfl rfl (by decide) ⟨.int (lo+i),H,I1,⟨t,?_⟩,⟨rfl,rfl⟩,st',fun b hb=>(hf b hb).1⟩⟩
  rw[iU]
 done:=by
  intro X hP hw hK hc i ad s σ H E I hf st hg
  subst hP hw hK
  obtain⟨f0,f1,f2,f3,f4,f5⟩:=hf it (by simp)
  exact wpAny_pyNext_range_end (I.ok.hd hc) st (by have:n<=i:=hg; lia) fun h' eb=>⟨rfl,I.turned (t':=s.toks) (fun b o hb e=>eb b o hb e) f0 f1 f3 f4 f5⟩
 self:=fun _ _ _ _ _ st h=>wpAny_pyIter_rangeiter st h
section
variable {tg:Expr}
def iList (K:W.Frag)(tl:TE):TI:=fun σ H R=>tl σ H fun x H1=>∃ a,x= .ref a/\(∃ xs,SqL K H1 a xs)/\R (Itl K a) H1
def iTup (K:W.Frag)(tl:TE):TI:=fun σ H R=>tl σ H fun x H1=>∃ a,x= .ref a/\(∃ xs,SqT K H1 a xs)/\R (Itt K a) H1
theorem jS6 {l:Expr}{tl:TE}(hl:PE X l tl):PI X tg l (iList X.K tl):=by
 intro ad s σ H R I h
 refine iZ (hl ad s σ H _ I h) fun v s1 ⟨x,H1,I1,r1,q1⟩=>?_
 obtain⟨a,e,⟨xs,hq⟩,q⟩:=q1
 subst e
 cases r1
 obtain⟨its,rv,p,hz⟩:=I1.list hq
 refine cL p.isList ?_
 refine⟨s1.heap.objs.size,[s1.heap.objs.size],_,_,H1,rfl,I1.kept (t':=s1.toks) fun b o e=>af _ e,jLK a _,⟨_,am _ rfl,rfl,rfl⟩,fun b hb=>?_,q⟩
 have e:b=s1.heap.objs.size:=by simpa using hb
 subst e
 exact I1.fpOk (ai _) (I1.hok.fresh (ai _))
theorem jU0 {l:Expr}{tl:TE}(hl:PE X l tl):PI X tg l (iTup X.K tl):=by
 intro ad s σ H R I h
 refine iZ (hl ad s σ H _ I h) fun v s1 ⟨x,H1,I1,r1,q1⟩=>?_
 obtain⟨a,e,⟨xs,hq⟩,q⟩:=q1
 subst e
 cases r1
 obtain⟨its,rv,p,hz⟩:=I1.tuple hq
 refine wpAny_pyIter_tuple (show s1.heap.IsTuple a its.toArray from p) ?_
 refine⟨s1.heap.objs.size,[s1.heap.objs.size],_,_,H1,rfl,I1.kept (t':=s1.toks) fun b o e=>af _ e,jKD a _,⟨_,am _ rfl,rfl,rfl⟩,fun b hb=>?_,q⟩
 have e:b=s1.heap.objs.size:=by simpa using hb
 subst e
 exact I1.fpOk (ai _) (I1.hok.fresh (ai _))
theorem jJ7 {ad:List (Addr×Obj)}{σ:St}{H:Hp}{s:Shared}{R:It->Hp->Prop}{E:Value->Shared->Prop}{lo hi:Int}{t u v:Tok}{tk:Nat}(I:Inv X ad σ H s)(h1: -(2 ^ 62)<=lo)(h2:lo<2 ^ 62)(h3: -(2 ^ 62)<=hi)(h4:hi<2 ^ 62)
  (q:R (Itr lo (hi - lo).toNat) H):wpAny (model X.prog X.w) X.A (pyIter (.ref s.heap.objs.size)) (PIE X ad σ tg R) E { s with heap:=s.heap.push { cls:= .type "range",data:= .fields #[.int lo t, .int hi u, .int 1 v]},toks:=tk} :=by
 refine wpAny_pyIter_range (IsRange.new ..) (small_one h1 h2 h3 h4) ?_
 have I1:Inv X ad σ H { s with heap:=s.heap.push { cls:= .type "range",data:= .fields #[.int lo t, .int hi u, .int 1 v]},toks:=tk} :=I.kept fun b o e=>af _ e
 refine⟨(s.heap.push { cls:= .type "range",data:= .fields #[.int lo t, .int hi u, .int 1 v]}).objs.size,[(s.heap.push { cls:= .type "range",data:= .fields #[.int lo t, .int hi u, .int 1 v]}).objs.size],_,_,H,rfl,
  I1.kept (t':=tk) fun b o e=>af _ e,jKE _ lo (hi - lo).toNat,?_,fun b hb=>?_,q⟩
 ·have e1:lo+((0:Nat):Int)*1=lo:=by simp
  have e2:(((hi - lo).toNat:Nat):Int) - ((0:Nat):Int)=Builtin.Range.rangeSize lo hi 1:=by rw[gS]; split <;> lia
  show IsRangeIter _ _ (lo+((0:Nat):Int)*1) ((((hi - lo).toNat:Nat):Int) - ((0:Nat):Int)) 1
  rw[e1,e2]
  exact am _ rfl
 ·have e:b=(s.heap.push { cls:= .type "range",data:= .fields #[.int lo t, .int hi u, .int 1 v]}).objs.size:=by simpa using hb
  subst e
  exact I1.fpOk (ai _) (I1.hok.fresh (ai _))
def iRng1 (ta:TA):TI:=fun σ H R=>ta σ H fun vs H1=>∃ j:Int,vs=[.int j]/\ -(2 ^ 62)<=j/\j<2 ^ 62/\R (Itr 0 j.toNat) H1
def iRng2 (ta:TA):TI:=fun σ H R=>ta σ H fun vs H1=>∃ i j:Int,vs=[.int i, .int j]/\(-(2 ^ 62)<=i/\i<2 ^ 62/\ -(2 ^ 62)<=j/\j<2 ^ 62)/\R (Itr i (j - i).toNat) H1
theorem jC7 {a:Expr}{ta:TA}{p pos:Pos}(hg:Gl X "range")(hm:X.mg "range" =none)(ha:PA X [a] ta)(hs:starEach [a] X.env=[(false,eval a X.env)]:=by rfl):PI X tg (.Call (.Name "range" p) [a] [] pos) (iRng1 ta):=by
 intro ad s σ H R I h
 refine Call_ (jEA I hg hm boot_range (cq (iZ (ha pos ad s σ H _ I h) fun us s1 ⟨vs,H1,I1,r1,q1⟩=>?_) hs rfl))
 obtain⟨j,e,q1,q2,q⟩:=q1
 subst e
 cases r1 with
 | cons r rr=>
  cases rr
  obtain⟨t,rfl⟩:=r
  exact call_range_1 (jJ7 I1 (by lia) (by lia) q1 q2 (by simpa using q))
theorem jM6 {a b:Expr}{ta:TA}{p pos:Pos}(hg:Gl X "range")(hm:X.mg "range" =none)(ha:PA X [a,b] ta)(hs:starEach [a,b] X.env=[(false,eval a X.env),(false,eval b X.env)]:=by rfl)(hs2:starEach [b] X.env=[(false,eval b X.env)]:=by rfl):
  PI X tg (.Call (.Name "range" p) [a,b] [] pos) (iRng2 ta):=by
 intro ad s σ H R I h
 refine Call_ (jEA I hg hm boot_range (cq (iZ (ha pos ad s σ H _ I h) fun us s1 ⟨vs,H1,I1,r1,q1⟩=>?_) (by rw[hs,hs2]) (by rw[hs2]; rfl)))
 obtain⟨i,j,e,⟨q1,q2,q3,q4⟩,q⟩:=q1
 subst e
 cases r1 with
 | cons r rr=>
  cases rr with
  | cons r' rr=>
   cases rr
   obtain⟨t,rfl⟩:=r
   obtain⟨t',rfl⟩:=r'
   exact call_range_2 (jJ7 I1 q1 q2 q3 q4 q)
def tFor (wi:TI)(g:TG)(tb:TS):TS:=fun D σ H=>wi σ H fun J H1=>∃ W:Nat->Nat->St->Hp->Prop,(∃ m,W 0 m σ H1)/\∀ i m σ H,W i m σ H->
 (J.stop i H/\D.nx σ H)\/(J.go i H/\∃ N:St->Hp->Prop,(∀ σ' H',N σ' H'->∃ m',m'<m/\W (i+1) m' σ' H')/\∀ x H',J.yld i H x H'->g x σ H' fun σ2 H2=>tb { D with nx:=N,ct:=N,bk:=D.nx} σ2 H2)
def jDZ (fp:List Addr)(h:Heap):List (Addr×Obj):=fp.filterMap fun b=>(h.get? b).map fun o=>(b,o)
theorem jA3 {fp:List Addr}{h:Heap}{b:Addr}{o:Obj}(hb:b∈fp)(e:h.get? b=some o):(b,o)∈jDZ fp h:=iL.mpr ⟨b,hb,by rw[e]; rfl⟩
theorem jMM {fp:List Addr}{h:Heap}{p:Addr×Obj}(hp:p∈jDZ fp h):p.1∈fp/\h.get? p.1=some p.2:=by
 obtain⟨b,hb,e⟩:=iL.mp hp
 cases q:h.get? b with
 | none=>rw[q] at e; cases e
 | some o=>
  rw[q] at e
  have e':(b,o)=p:=be e
  subst e'
  exact⟨hb,q⟩
theorem Inv.pinned {ad:List (Addr×Obj)}{σ:St}{H:Hp}{s:Shared}{fp:List Addr}(I:Inv X ad σ H s)(hf:∀ b∈fp,FpOk X ad H b)(ho:∀ b∈fp,∃ o,s.heap.get? b=some o/\∀ v,o.data≠ .cell v):Inv X (ad++jDZ fp s.heap) σ H s:=
 I.pins_of fun p hp=>(bv.mp hp).elim (fun z=>I.pin p (aR _ z)) fun z=>by
  obtain⟨hb,e⟩:=jMM z
  obtain⟨f0,f1,f2,_⟩:=hf p.1 hb
  obtain⟨o,e',d⟩:=ho p.1 hb
  rw[e] at e'; cases e'
  exact⟨e,f0,f1,f2,d⟩
theorem Inv.unpinned {ad pl:List (Addr×Obj)}{σ:St}{H:Hp}{s:Shared}(I:Inv X (ad++pl) σ H s):Inv X ad σ H s:=I.pins_of fun p hp=>I.pin p (aR _ (ix _ hp))
theorem jQV {iter:Expr}{body:List Stmt}{wi:TI}{g:TG}{tb:TS}{pos:Pos}(hp:PassesOwn (model X.prog X.w) X.A X.env X.xe)(hc:X.calm=true)(hi:PI X tg iter wi)(hg:PG X tg g)(hb:PSs X body tb)
  (hs:∀ x,foldedSetIterable iter X.env x=pure x:=by intro _; rfl):PS X (.For tg iter body [] pos) (tFor wi g tb):=by
 intro ad s σ H D I h
 refine wpAny_For (iZ (hi ad s σ H _ I h) fun v s1 h1=>iZ h1 fun itv s2 h2=>?_) hs
 obtain⟨it,fp,tn,J,H2,e,I2,T,st2,f2,W,⟨m0,w0⟩,turn⟩:=h2
 subst e
 have stat:∀ {H':Hp},(∀ b∈fp,H' b=none)->∀ b∈fp,FpOk X ad H' b:=fun hn b hb=>⟨hn b hb,(f2 b hb).2⟩
 refine codeAny_forLoop_any (fun n s'=>∃ i σ' H',Inv X ad σ' H' s'/\tn i s'.heap/\(∀ b∈fp,H' b=none)/\W i n σ' H') ?_ m0 ⟨0,σ,H2,I2,st2,fun b hb=>(f2 b hb).1,w0⟩
 rintro n s3 ⟨i,σ3,H3,I3,st3,fr3,w3⟩
 rcases turn i n σ3 H3 w3 with ⟨stop,qn⟩ | ⟨go,N,hN,step⟩
 ·refine da hp (iZ (T.done X rfl rfl rfl hc i ad s3 σ3 H3 X.xe I3 (stat fr3) st3 stop) fun r s4 ⟨hr,I4⟩=>?_)
  subst hr
  exact dH ⟨σ3,H3,I4,qn⟩
 ·refine da hp (iZ (T.item X rfl rfl rfl hc i ad s3 σ3 H3 X.xe I3 (stat fr3) st3 go) fun r s4 ⟨u,hr,h4⟩=>?_)
  subst hr
  refine da hp (iZ h4 fun _ s5 ⟨x,H5,I5,r5,y5,st5,fr5⟩=>?_)
  have I5':=I5.pinned (stat fr5) (T.obj _ _ st5)
  refine da hp (iZ (hg _ s5 σ3 H5 x u _ I5' r5 (step x H5 y5)) fun _ s6 ⟨σ6,H6,I6,q6⟩=>?_)
  refine da hp (iZ (hb _ s6 σ6 H6 _ I6 q6) fun f s7 q7=>?_)
  have again:∀ {σ7:St}{H7:Hp},Inv X (ad++jDZ fp s5.heap) σ7 H7 s7->N σ7 H7->∃ m,m<n/\∃ i σ' H',Inv X ad σ' H' s7/\tn i s7.heap/\(∀ b∈fp,H' b=none)/\W i m σ' H':=fun {σ7 H7} I7 n7=>by
   obtain⟨m',hm,w7⟩:=hN σ7 H7 n7
   refine⟨m',hm,i+1,σ7,H7,I7.unpinned,T.keep _ _ _ st5 fun b hb o e=>(I7.pin (b,o) (aR _ (aR _ (jA3 hb e)))).1,fun b hb=>?_,w7⟩
   obtain⟨o,e,d⟩:=T.obj _ _ st5 b hb
   exact(I7.pin (b,o) (aR _ (aR _ (jA3 hb e)))).2.1
  cases f with
  | next=>obtain⟨σ7,H7,I7,n7⟩:=q7; exact again I7 n7
  | cont=>obtain⟨σ7,H7,I7,n7⟩:=q7; exact again I7 n7
  | brk=>obtain⟨σ7,H7,I7,q7⟩:=q7; exact⟨σ7,H7,I7.unpinned,q7⟩
  | ret v=>obtain⟨x7,σ7,H7,I7,r7,q7⟩:=q7; exact⟨x7,σ7,H7,I7.unpinned,r7,q7⟩
end
theorem jG6 {K:W.Frag}{a:Addr}{xs:List V}{g:TG}{tb:TS}{D:Ends}{σ:St}{H:Hp}(Pv:Nat->St->Hp->Prop)(h0:Pv 0 σ H)(hl:∀ i σ H,i<=xs.length->Pv i σ H->SqL K H a xs)
  (hs:∀ i x σ H,xs[i]?=some x->Pv i σ H->g x σ H fun σ2 H2=>tb { D with nx:=Pv (i+1),ct:=Pv (i+1),bk:=D.nx} σ2 H2) (hd:∀ σ H,Pv xs.length σ H->D.nx σ H):
  ∃ W:Nat->Nat->St->Hp->Prop,(∃ m,W 0 m σ H)/\∀ i m σ H,W i m σ H->
   ((Itl K a).stop i H/\D.nx σ H)\/((Itl K a).go i H/\∃ N:St->Hp->Prop,(∀ σ' H',N σ' H'->∃ m',m'<m/\W (i+1) m' σ' H')/\∀ x H',(Itl K a).yld i H x H'->g x σ H' fun σ2 H2=>tb { D with nx:=N,ct:=N,bk:=D.nx} σ2 H2):=by
 refine⟨fun i m σ H=>m=xs.length - i/\i<=xs.length/\Pv i σ H,⟨xs.length,by simp,bh _,h0⟩,?_⟩
 rintro i m σ H ⟨rfl,hi,p⟩
 have q:=hl i σ H hi p
 by_cases hlt:i<xs.length
 ·refine .inr ⟨⟨xs,xs[i],q,by simp [hlt]⟩,Pv (i+1),fun σ' H' p'=>⟨xs.length - (i+1),by lia,rfl,hlt,p'⟩,fun x H' y=>?_⟩
  obtain⟨e,y⟩:=y
  subst e
  exact hs i x σ _ (y xs q) p
 ·have e:i=xs.length:=by lia
  subst e
  exact .inl ⟨⟨xs,q,ai _⟩,hd σ H p⟩
theorem jIM {K:W.Frag}{a:Addr}{xs:List V}{g:TG}{tb:TS}{D:Ends}{σ:St}{H:Hp}(Pv:Nat->St->Hp->Prop)(h0:Pv 0 σ H)(hl:∀ i σ H,i<=xs.length->Pv i σ H->SqT K H a xs)
  (hs:∀ i x σ H,xs[i]?=some x->Pv i σ H->g x σ H fun σ2 H2=>tb { D with nx:=Pv (i+1),ct:=Pv (i+1),bk:=D.nx} σ2 H2) (hd:∀ σ H,Pv xs.length σ H->D.nx σ H):
  ∃ W:Nat->Nat->St->Hp->Prop,(∃ m,W 0 m σ H)/\∀ i m σ H,W i m σ H->
   ((Itt K a).stop i H/\D.nx σ H)\/((Itt K a).go i H/\∃ N:St->Hp->Prop,(∀ σ' H',N σ' H'->∃ m',m'<m/\W (i+1) m' σ' H')/\∀ x H',(Itt K a).yld i H x H'->g x σ H' fun σ2 H2=>tb { D with nx:=N,ct:=N,bk:=D.nx} σ2 H2):=by
 refine⟨fun i m σ H=>m=xs.length - i/\i<=xs.length/\Pv i σ H,⟨xs.length,by simp,bh _,h0⟩,?_⟩
 rintro i m σ H ⟨rfl,hi,p⟩
 have q:=hl i σ H hi p
 by_cases hlt:i<xs.length
 ·refine .inr ⟨⟨xs,xs[i],q,by simp [hlt]⟩,Pv (i+1),fun σ' H' p'=>⟨xs.length - (i+1),by lia,rfl,hlt,p'⟩,fun x H' y=>?_⟩
  obtain⟨e,y⟩:=y
  subst e
  exact hs i x σ _ (y xs q) p
 ·have e:i=xs.length:=by lia
  subst e
  exact .inl ⟨⟨xs,q,ai _⟩,hd σ H p⟩
theorem jAF {lo:Int}{n:Nat}{g:TG}{tb:TS}{D:Ends}{σ:St}{H:Hp}(Pv:Nat->St->Hp->Prop)(h0:Pv 0 σ H)
  (hs:∀ i σ H,i<n->Pv i σ H->g (.int (lo+i)) σ H fun σ2 H2=>tb { D with nx:=Pv (i+1),ct:=Pv (i+1),bk:=D.nx} σ2 H2) (hd:∀ σ H,Pv n σ H->D.nx σ H):
  ∃ W:Nat->Nat->St->Hp->Prop,(∃ m,W 0 m σ H)/\∀ i m σ H,W i m σ H->
   ((Itr lo n).stop i H/\D.nx σ H)\/((Itr lo n).go i H/\∃ N:St->Hp->Prop,(∀ σ' H',N σ' H'->∃ m',m'<m/\W (i+1) m' σ' H')/\∀ x H',(Itr lo n).yld i H x H'->g x σ H' fun σ2 H2=>tb { D with nx:=N,ct:=N,bk:=D.nx} σ2 H2):=by
 refine⟨fun i m σ H=>m=n - i/\i<=n/\Pv i σ H,⟨n,by simp,bh _,h0⟩,?_⟩
 rintro i m σ H ⟨rfl,hi,p⟩
 by_cases hlt:i<n
 ·refine .inr ⟨hlt,Pv (i+1),fun σ' H' p'=>⟨n - (i+1),by lia,rfl,hlt,p'⟩,fun x H' y=>?_⟩
  obtain⟨e,y⟩:=y
  subst e y
  exact hs i σ _ hlt p
 ·have e:i=n:=by lia
  subst e
  exact .inl ⟨ai _,hd σ H p⟩
abbrev R2:=V->V->Hp->VK->Prop
def OpR (X:Cx)(f:Value->Value->Sem Value)(r:R2):Prop:=
 ∀ (ad:List (Addr×Obj)) (s:Shared) (σ:St) (H:Hp) (x y:V) (v u:Value) (Q:VK),Inv X ad σ H s->RelV x v->RelV y u->r x y H Q->
  wpAny (model X.prog X.w) X.A (f v u) (EP X ad σ Q) X.xe s
def UnR (X:Cx)(f:Value->Sem Value)(r:V->Hp->VK->Prop):Prop:=
 ∀ (ad:List (Addr×Obj)) (s:Shared) (σ:St) (H:Hp) (x:V) (v:Value) (Q:VK),Inv X ad σ H s->RelV x v->r x H Q->
  wpAny (model X.prog X.w) X.A (f v) (EP X ad σ Q) X.xe s
def yO (X:Cx)(f:Value)(r:List V->Hp->VK->Prop):Prop:=
 ∀ (ad:List (Addr×Obj)) (s:Shared) (σ:St) (H:Hp) (xs:List V) (us:List Value) (Q:VK),Inv X ad σ H s->Vals xs us->r xs H Q->
  wpAny (model X.prog X.w) X.A (call f us) (EP X ad σ Q) X.xe s
def tOp (r:R2)(ta tb:TE):TE:=fun σ H Q=>ta σ H fun x H1=>tb σ H1 fun y H2=>r x y H2 Q
def tUn (r:V->Hp->VK->Prop)(ta:TE):TE:=fun σ H Q=>ta σ H fun x H1=>r x H1 Q
def rI (C:Int->Int->Prop)(g:Int->Int->V):R2:=fun x y H Q=>∃ i j,x= .int i/\y= .int j/\C i j/\Q (g i j) H
def rI0 (g:Int->Int->V):R2:=fun x y H Q=>∃ i j,x= .int i/\y= .int j/\Q (g i j) H
def rU (g:Int->V):V->Hp->VK->Prop:=fun x H Q=>∃ i,x= .int i/\Q (g i) H
variable {c:Expr}{tc:TE}
section
variable {a:Expr}
theorem binT (ha:PE X a ta)(hb:PE X b tb){ad:List (Addr×Obj)}{s:Shared}{σ:St}{H:Hp}{R:V->V->Hp->Prop}(I:Inv X ad σ H s)
  (h:ta σ H fun x H1=>tb σ H1 fun y H2=>R x y H2) {Q:Value->Shared->Prop}{f:Value->Value->Sem Value}
  (hf:∀ v u s2 x y H2,Inv X ad σ H2 s2->RelV x v->RelV y u->R x y H2->wpAny (model X.prog X.w) X.A (f v u) Q X.xe s2):
  wpAny (model X.prog X.w) X.A (eval a X.env) (fun v s₁=>wpAny (model X.prog X.w) X.A (eval b X.env) (fun u s₂=>wpAny (model X.prog X.w) X.A (f v u) Q X.xe s₂) X.xe s₁) X.xe s:=by
 refine iZ (ha ad s σ H _ I h) fun v s1 ⟨x,H1,I1,r1,q1⟩=>?_
 refine iZ (hb ad s1 σ H1 _ I1 q1) fun u s2 ⟨y,H2,I2,r2,q2⟩=>?_
 exact hf v u s2 x y H2 I2 r1 r2 q2
theorem yE {op:Operator}{r:R2}(ho:OpR X (binaryOp op) r)(ha:PE X a ta)(hb:PE X b tb):PE X (.BinOp a op b pos) (tOp r ta tb):=by
 intro ad s σ H Q I h
 exact wpAny_BinOp (binT ha hb I h fun v u s2 x y H2 I2 rx ry q=>ho ad s2 σ H2 x y v u Q I2 rx ry q)
theorem pe_un {op:UnaryOp}{r:V->Hp->VK->Prop}(ho:UnR X (unaryOp op) r)(ha:PE X a ta):PE X (.UnaryOp op a pos) (tUn r ta):=by
 intro ad s σ H Q I h
 exact UnaryOp_ (iZ (ha ad s σ H _ I h) fun v s1 ⟨x,H1,I1,r1,q1⟩=>ho ad s1 σ H1 x v Q I1 r1 q1)
theorem opI {f:Value->Value->Sem Value}{C:Int->Int->Prop}{g:Int->Int->Int}
  (rule:∀ (i j:Int) (t u:Tok) (s:Shared) (Q:Value->Shared->Prop) (E:Value->Shared->Prop),C i j->Q (.int (g i j) s.toks) { s with toks:=s.toks+1} ->wpAny (model X.prog X.w) X.A (f (.int i t) (.int j u)) Q E s):
  OpR X f (rI C fun i j=> .int (g i j)):=by
 intro ad s σ H x y v u Q I rx ry h
 obtain⟨i,j,rfl,rfl,hc,q⟩:=h
 obtain⟨t,rfl⟩:=rx
 obtain⟨t',rfl⟩:=ry
 exact rule i j t t' s _ _ hc ⟨.int (g i j),H,I.tok _,⟨_,rfl⟩,q⟩
theorem opI0 {f:Value->Value->Sem Value}{g:Int->Int->Int}
  (rule:∀ (i j:Int) (t u:Tok) (s:Shared) (Q:Value->Shared->Prop) (E:Value->Shared->Prop),Q (.int (g i j) s.toks) { s with toks:=s.toks+1} ->wpAny (model X.prog X.w) X.A (f (.int i t) (.int j u)) Q E s):
  OpR X f (rI0 fun i j=> .int (g i j)):=by
 intro ad s σ H x y v u Q I rx ry h
 obtain⟨i,j,rfl,rfl,q⟩:=h
 obtain⟨t,rfl⟩:=rx
 obtain⟨t',rfl⟩:=ry
 exact rule i j t t' s _ _ ⟨.int (g i j),H,I.tok _,⟨_,rfl⟩,q⟩
theorem opB0 {f:Value->Value->Sem Value}{g:Int->Int->Bool}
  (rule:∀ (i j:Int) (t u:Tok) (s:Shared) (Q:Value->Shared->Prop) (E:Value->Shared->Prop),Q (.bool (g i j)) s->wpAny (model X.prog X.w) X.A (f (.int i t) (.int j u)) Q E s):
  OpR X f (rI0 fun i j=> .bl (g i j)):=by
 intro ad s σ H x y v u Q I rx ry h
 obtain⟨i,j,rfl,rfl,q⟩:=h
 obtain⟨t,rfl⟩:=rx
 obtain⟨t',rfl⟩:=ry
 exact rule i j t t' s _ _ ⟨.bl (g i j),H,I,rfl,q⟩
def CPow (i j:Int):Prop:=0<=j/\j<=1000000/\i.natAbs<2 ^ 64
def CMul (i j:Int):Prop:=(-(2 ^ 64)<i/\i<2 ^ 64)\/(-(2 ^ 64)<j/\j<2 ^ 64)
theorem CMul.ok {i j:Int}(h:CMul i j):IntMulOk i j:=by
 rcases h with ⟨h1,h2⟩ | ⟨h1,h2⟩
 ·exact .of_left (intBits_le_64 h1 h2)
 ·exact .of_right (intBits_le_64 h1 h2)
theorem jKC (k:Nat):(0:Int)<=2 ^ k:=by
 rw[two_pow_cast]
 exact eI _
theorem yV:OpR X (binaryOp .Add) (rI0 fun i j=> .int (i+j)):=opI0 fun _ _ _ _ _ _ _ q=>add_int q
theorem jEZ:OpR X (binaryOp .Sub) (rI0 fun i j=> .int (i - j)):=opI0 fun _ _ _ _ _ _ _ q=>sub_int q
theorem jD9:OpR X (binaryOp .Mult) (rI CMul fun i j=> .int (i*j)):=opI fun _ _ _ _ _ _ _ hc q=>mul_int q hc.ok
theorem jGU:OpR X (binaryOp .Mod) (rI (fun _ j=>0<j) fun i j=> .int (i % j)):=opI fun i j _ _ _ _ _ hc q=>by
 have h1:(0:Int)<j:=hc
 exact mod_int' (by lia) (by rw[Int.fmod_eq_emod_of_nonneg i (by lia)]; exact q)
theorem jM8:OpR X (binaryOp .Pow) (rI CPow fun i j=> .int (i ^ j.toNat)):=opI fun _ _ _ _ _ _ _ hc q=>pow_int_small hc.1 hc.2.1 hc.2.2 q
theorem jQZ:OpR X (binaryOp .LShift) (rI CPow fun i j=> .int (i*2 ^ j.toNat)):=opI fun _ _ _ _ _ _ _ hc q=>lshift_int_small hc.1 hc.2.1 hc.2.2 q
theorem jUC:OpR X (binaryOp .RShift) (rI (fun _ j=>0<=j) fun i j=> .int (i / 2 ^ j.toNat)):=opI fun i j _ _ _ _ _ hc q=>
 rshift_int hc (by rw[gx i (jKC _)]; exact q)
theorem jR0:OpR X (binaryOp .BitAnd) (rI0 fun i j=> .int (Builtin.bitAnd i j)):=opI0 fun _ _ _ _ _ _ _ q=>and_int q
theorem unI {f:Value->Sem Value}{g:Int->Int}
  (rule:∀ (i:Int) (t:Tok) (s:Shared) (Q:Value->Shared->Prop) (E:Value->Shared->Prop),Q (.int (g i) s.toks) { s with toks:=s.toks+1} ->wpAny (model X.prog X.w) X.A (f (.int i t)) Q E s):
  UnR X f (rU fun i=> .int (g i)):=by
 intro ad s σ H x v Q I rx h
 obtain⟨i,rfl,q⟩:=h
 obtain⟨t,rfl⟩:=rx
 exact rule i t s _ _ ⟨.int (g i),H,I.tok _,⟨_,rfl⟩,q⟩
theorem jQQ:UnR X (unaryOp .USub) (rU fun i=> .int (-i)):=unI fun _ _ _ _ _ q=>neg_int q
end
noncomputable def scal:V->V->Bool
 | .non, .non=>true | .non, .int _=>true | .int _, .non=>true | .non, .bl _=>true | .bl _, .non=>true | .non, .str _=>true | .str _, .non=>true
 | .int _, .int _=>true | .bl _, .bl _=>true | .str _, .str _=>true | .byt _, .byt _=>true
 | .int _, .str _=>true | .str _, .int _=>true | .bl _, .str _=>true | .str _, .bl _=>true
 | _,_=>false
def rEq:R2:=fun x y H Q=>scal x y=true/\Q (.bl (decide (x=y))) H
def rNe:R2:=fun x y H Q=>scal x y=true/\Q (.bl (!decide (x=y))) H
theorem jEJ {i j:Int} :decide (V.int i=V.int j)=(i==j):=by
 rw[bq]
 simp
theorem jRC {i j:Bool} :decide (V.bl i=V.bl j)=(i==j):=by
 rw[bq]
 simp
theorem jNZ {i j:Str} :decide (V.str i=V.str j)=(i==j):=by
 rw[bq]
 simp
theorem jO0 {i j:Array UInt8} :decide (V.byt i=V.byt j)=(i.toList==j.toList):=by
 rw[bq]
 cases i
 cases j
 simp
section
variable {a:Expr}
theorem kW {ad:List (Addr×Obj)}{σ:St}{H:Hp}{s:Shared}{Q:VK}{k k':Bool}(I:Inv X ad σ H s)(q:Q (.bl k) H)(e:k=k'):EP X ad σ Q (.bool k') s:=by
 subst e
 exact⟨.bl k,H,I,rfl,q⟩
theorem qX:OpR X (compareOp .Eq) rEq:=by
 intro ad s σ H x y v u Q I rx ry h
 obtain⟨hs,q⟩:=h
 cases x with
 | non=>
  cases rx
  cases y with
  | non=>cases ry; exact PySem.EqNone.eq_none_none (kW I q (by simp))
  | bl j=>cases ry; exact PySem.EqNone.eq_none_bool (kW I q (by simp))
  | int j=>obtain⟨t',rfl⟩:=ry; exact PySem.EqNone.eq_none_int (kW I q (by simp))
  | str j=>obtain⟨t',rfl⟩:=ry; exact PySem.EqNone.eq_none_str (kW I q (by simp))
  | _=>exact absurd (show false=true from hs) ar
 | bl i=>
  cases rx
  cases y with
  | non=>cases ry; exact PySem.EqNone.eq_bool_none (kW I q (by simp))
  | bl j=>cases ry; exact eq_bool (kW I q jRC)
  | str j=>obtain⟨t',rfl⟩:=ry; exact PySem.EqMixed.eq_bool_str (kW I q (by simp))
  | _=>exact absurd (show false=true from hs) ar
 | int i=>
  obtain⟨t,rfl⟩:=rx
  cases y with
  | non=>cases ry; exact PySem.EqNone.eq_int_none (kW I q (by simp))
  | int j=>obtain⟨t',rfl⟩:=ry; exact eq_int (kW I q jEJ)
  | str j=>obtain⟨t',rfl⟩:=ry; exact PySem.EqMixed.eq_int_str (kW I q (by simp))
  | _=>exact absurd (show false=true from hs) ar
 | str i=>
  obtain⟨t,rfl⟩:=rx
  cases y with
  | non=>cases ry; exact PySem.EqNone.eq_str_none (kW I q (by simp))
  | bl j=>cases ry; exact PySem.EqMixed.eq_str_bool (kW I q (by simp))
  | int j=>obtain⟨t',rfl⟩:=ry; exact PySem.EqMixed.eq_str_int (kW I q (by simp))
  | str j=>obtain⟨t',rfl⟩:=ry; exact eq_str (kW I q jNZ)
  | _=>exact absurd (show false=true from hs) ar
 | byt i=>
  obtain⟨t,rfl⟩:=rx
  cases y with
  | byt j=>obtain⟨t',rfl⟩:=ry; exact PySem.W.eq_bytes (kW I q jO0)
  | _=>exact absurd (show false=true from hs) ar
 | _=>cases y <;> exact absurd (show false=true from hs) ar
theorem op_ne:OpR X (compareOp .NotEq) rNe:=by
 intro ad s σ H x y v u Q I rx ry h
 obtain⟨hs,q⟩:=h
 cases x with
 | non=>
  cases rx
  cases y with
  | non=>cases ry; exact PySem.EqNone.ne_none_none (kW I q (by simp))
  | bl j=>cases ry; exact PySem.EqNone.ne_none_bool (kW I q (by simp))
  | int j=>obtain⟨t',rfl⟩:=ry; exact PySem.EqNone.ne_none_int (kW I q (by simp))
  | str j=>obtain⟨t',rfl⟩:=ry; exact PySem.EqNone.ne_none_str (kW I q (by simp))
  | _=>exact absurd (show false=true from hs) ar
 | bl i=>
  cases rx
  cases y with
  | non=>cases ry; exact PySem.EqNone.ne_bool_none (kW I q (by simp))
  | bl j=>cases ry; exact ne_bool (kW I q (cg not jRC))
  | str j=>obtain⟨t',rfl⟩:=ry; exact PySem.EqMixed.ne_bool_str (kW I q (by simp))
  | _=>exact absurd (show false=true from hs) ar
 | int i=>
  obtain⟨t,rfl⟩:=rx
  cases y with
  | non=>cases ry; exact PySem.EqNone.ne_int_none (kW I q (by simp))
  | int j=>obtain⟨t',rfl⟩:=ry; exact ne_int (kW I q (cg not jEJ))
  | str j=>obtain⟨t',rfl⟩:=ry; exact PySem.EqMixed.ne_int_str (kW I q (by simp))
  | _=>exact absurd (show false=true from hs) ar
 | str i=>
  obtain⟨t,rfl⟩:=rx
  cases y with
  | non=>cases ry; exact PySem.EqNone.ne_str_none (kW I q (by simp))
  | bl j=>cases ry; exact PySem.EqMixed.ne_str_bool (kW I q (by simp))
  | int j=>obtain⟨t',rfl⟩:=ry; exact PySem.EqMixed.ne_str_int (kW I q (by simp))
  | str j=>obtain⟨t',rfl⟩:=ry; exact ne_str (kW I q (cg not jNZ))
  | _=>exact absurd (show false=true from hs) ar
 | byt i=>
  obtain⟨t,rfl⟩:=rx
  cases y with
  | byt j=>obtain⟨t',rfl⟩:=ry; exact PySem.W.ne_bytes (kW I q (cg not jO0))
  | _=>exact absurd (show false=true from hs) ar
 | _=>cases y <;> exact absurd (show false=true from hs) ar
theorem op_lt:OpR X (compareOp .Lt) (rI0 fun i j=> .bl (decide (i<j))):=opB0 fun _ _ _ _ _ _ _ q=>lt_int q
theorem op_le:OpR X (compareOp .LtE) (rI0 fun i j=> .bl (decide (i<=j))):=opB0 fun _ _ _ _ _ _ _ q=>le_int q
theorem op_gt:OpR X (compareOp .Gt) (rI0 fun i j=> .bl (decide (j<i))):=opB0 fun _ _ _ _ _ _ _ q=>gt_int q
theorem op_ge:OpR X (compareOp .GtE) (rI0 fun i j=> .bl (decide (j<=i))):=opB0 fun _ _ _ _ _ _ _ q=>ge_int q
theorem jFT:OpR X (compareOp .IsNot) (fun x y H Q=>y= .non/\Q (.bl (!decide (x= .non))) H):=by
 intro ad s σ H x y v u Q I rx ry h
 obtain⟨rfl,q⟩:=h
 cases ry
 refine isnot_none_gen (kW I q ?_)
 cases x <;> first
  | (cases rx; rfl)
  | (obtain⟨t,rfl⟩:=rx; rfl)
theorem kT (b:Expr){op:CmpOp}(h:op≠ .In:=by decide)(h2:op≠ .NotIn:=by decide):behindInMarks op b=false:=by
 have e1:(op==CmpOp.In)=false:=by cases op <;> first | rfl | exact absurd rfl h
 have e2:(op==CmpOp.NotIn)=false:=by cases op <;> first | rfl | exact absurd rfl h2
 cases b <;> simp [behindInMarks,e1,e2]
theorem jSD {op:CmpOp}{r:R2}(ho:OpR X (compareOp op) r)(ha:PE X a ta)(hb:PE X b tb)(hm:behindInMarks op b=false):PE X (.Compare a [op] [b] pos) (tOp r ta tb):=by
 intro ad s σ H Q I h
 exact wpAny_Compare1 (binT ha hb I h fun v u s2 x y H2 I2 rx ry q=>ho ad s2 σ H2 x y v u Q I2 rx ry q) hm
def tTest (t:TE):TT:=fun σ H Q=>t σ H fun x H'=>∃ k,x= .bl k/\Q k H'
theorem jDW {op:CmpOp}{r:R2}(ho:OpR X (compareOp op) r)(ha:PE X a ta)(hb:PE X b tb)(hm:behindInMarks op b=false):PT X (.Compare a [op] [b] pos) (tTest (tOp r ta tb)):=by
 intro ad s σ H Q I h
 refine wpAny_isTrue_Compare1 (iZ (ha ad s σ H _ I h) fun v s1 ⟨x,H1,I1,r1,q1⟩=>iZ (hb ad s1 σ H1 _ I1 q1) fun u s2 ⟨y,H2,I2,r2,q2⟩=>
  iZ (ho ad s2 σ H2 x y v u _ I2 r1 r2 q2) fun c s3 ⟨z,H3,I3,r3,k,e,q3⟩=>?_) hm
 subst e
 cases r3
 exact db ⟨H3,I3,q3⟩
theorem jH5:(sizeLine:Nat)<2 ^ 63:=by rw[df]; decide
theorem vals1 {x:V}{us:List Value}(r:Vals [x] us):∃ u,us=[u]/\RelV x u:=by
 cases r with
 | cons r1 r2=>cases r2; exact⟨_,rfl,r1⟩
theorem jOI:yO X (.type "int") (fun xs H Q=>(∃ i,xs=[.int i]/\Q (.int i) H)\/∃ k,xs=[.bl k]/\Q (.int (if k then 1 else 0)) H):=by
 intro ad s σ H xs us Q I r h
 rcases h with ⟨i,rfl,q⟩ | ⟨k,rfl,q⟩
 ·obtain⟨u,rfl,t,rfl⟩:=vals1 r
  exact call_int_int ⟨.int i,H,I,⟨_,rfl⟩,q⟩
 ·obtain⟨u,rfl,r1⟩:=vals1 r
  cases r1
  exact call_int_bool ⟨.int (if k then 1 else 0),H,I.tok _,⟨_,rfl⟩,q⟩
end
structure ObjM (h:Heap)(x dx C:Addr)(mA:Str->Option Value):Prop where
 obj:h.get? x=some (instObj C dx)
 ns:h.Ns1 dx mA
 ne:dx≠x
theorem jN3 {h:Heap}{dx:Addr}{mA:Str->Option Value}(n:h.Ns1 dx mA):∃ od,h.get? dx=some od/\∀ name,lookIn name od=some (mA name):=by
 obtain⟨o,es,ep,ho,hd,hk,_,hm⟩:=n
 refine⟨o,ho,fun name=>?_⟩
 have e:=hm name
 unfold nsFind findBy at e
 rw[<- Array.find?_toList] at e
 unfold lookIn
 rw[hd]
 dsimp only
 split
 ·rename_i y q
  rw[q] at e
  exact cg some e
 ·rename_i q
  rw[q] at e
  have a:es.toList.any (·.refKey)=false:=by
   rw[cw]
   intro y hy
   obtain⟨z,t,hkey⟩:=hk y (Array.mem_toList_iff.mp hy)
   simp [DictEntry.refKey,hkey]
  have a':¬ es.toList.any (·.refKey)=true:=by rw[a]; exact ar
  rw[aF a']
  exact cg some e
theorem ObjM.look {h:Heap}{x dx C:Addr}{mA:Str->Option Value}(I:ObjM h x dx C mA):∃ od,PySem.W.InstAt h x (instObj C dx) C (some od)/\∀ name,lookIn name od=some (mA name):=
 let ⟨od,ho,hl⟩:=jN3 I.ns
 ⟨od,⟨I.obj,rfl,rfl,ho⟩,hl⟩
variable {A:Around}{dx C f:Addr}
section
variable {prog:Program}{K:W.Frag}{mA:Str->Option Value}{name:Str}{v:Value}
end
theorem RelO.some_of {v:V}{o:Option Value}(r:RelO (some v) o):∃ u,o=some u/\RelV v u:=by
 cases o with
 | none=>exact(show False from r).elim
 | some u=>exact⟨u,rfl,r⟩
section
variable {fs fs':List (Str×V)}
theorem jT3 (hok:HOk P w H h)(e:H a=some (.ins C dx fs)):∃ mA,ObjM h a dx C mA/\(∀ f,RelO (fs.lookup f) (mA f))/\PySem.Within mA (fs.map (·.1))/\fs.length<=1000/\H dx=some (.own a):=by
 obtain⟨d,z,ne,ob,mA,n,r,q⟩:=(show ObjOk P w H h a (.ins C dx fs) from hok a _ e)
 exact⟨mA,⟨ob,n,ne⟩,r,q,z,d⟩
end
structure Cls (K:W.Frag)(C:Addr):Prop where
 pg:plainGet K C Str.empty=true
 hd:PySem.W.hasDictIn K C=true
 po:PySem.W.plainOver K C=true
 sa:findIn K (.ref C) "__setattr__" =some (some (.builtin "object.__setattr__"))
theorem Cls.get {K:W.Frag}{C:Addr}(c:Cls K C)(f:Str):plainGet K C f=true:=c.pg
section
variable {σ:St}{fs:List (Str×V)}{f:Str}{v:V}
end
variable {o:Expr}
section
variable {value:Expr}{f:Str}{pos' tpos:Pos}{tv:TE}
end
section
variable {σ:St}{Q:Value->Shared->Prop}{c:Value}{b:Bool}
inductive TyOf (K:W.Frag) (H:Hp):V->Value->Prop where
 | non:TyOf K H .non (.type "NoneType")
 | bl (x:Bool):TyOf K H (.bl x) (.type "bool")
 | int (i:Int):TyOf K H (.int i) (.type "int")
 | str (x:Str):TyOf K H (.str x) (.type "str")
 | flt (x:UInt64):TyOf K H (.flt x) (.type "float")
 | lst {a:Addr}{xs:List V}(e:H a=some (.lst xs)):TyOf K H (.ref a) (.type "list")
 | frz {a:Addr}{o:Obj}{xs:List V}(e:H a=some (.frz o (.lst xs))):TyOf K H (.ref a) (.type "list")
 | tup {a:Addr}{xs:List V}(e:H a=some (.tup xs)):TyOf K H (.ref a) (.type "tuple")
 | dK {a:Addr}{iY:List (Key×V)}(e:H a=some (.dK iY)):TyOf K H (.ref a) (.type "dict")
 | dT {a:Addr}{iY:List (List Key×V)}(e:H a=some (.dT iY)):TyOf K H (.ref a) (.type "dict")
 | ins {a C dx:Addr}{fs:List (Str×V)}(e:H a=some (.ins C dx fs)) (cl:Cls K C) (ha:findIn K (.ref C) "__class__" =some (some (.builtin "object.__class__")))
   (hn:specialIn K (.builtin "object.__class__") "__get__" =some (some (.builtin "getset_descriptor.__get__"))) (htk:takesIn K (.builtin "object.__class__")=some true)
   (hm:mroIn K C (.type "object")=some true):TyOf K H (.ref a) (.ref C)
theorem jNK {x:V}{u t:Value}(I:Inv X ad σ H s)(rx:RelV x u)(ty:TyOf X.K H x t)(e:kitOne X.K t c=some b)(h:∀ tk,Q (.bool b) { s with toks:=tk}):
  wpAny (model X.prog X.w) A (call (.builtin "isinstance") [u,c]) Q E s:=by
 cases ty with
 | non=>cases (show u=Value.none from rx); exact bU PySem.W.kitx_none I.kIn True.intro e (fun z=>nomatch z) h
 | bl y=>cases (show u=Value.bool y from rx); exact bU PySem.W.kitx_bool I.kIn True.intro e (fun z=>nomatch z) h
 | int i=>obtain⟨t,q⟩:=(show ∃ t,u=Value.int i t from rx); cases q; exact bU PySem.W.kitx_int I.kIn True.intro e (fun z=>nomatch z) h
 | str y=>obtain⟨t,q⟩:=(show ∃ t,u=Value.str y t from rx); cases q; exact bU PySem.W.kitx_str I.kIn True.intro e (fun z=>nomatch z) h
 | flt y=>obtain⟨t,q⟩:=(show ∃ t,u=Value.float y t from rx); cases q; exact bU PySem.W.kitx_float I.kIn True.intro e (fun z=>nomatch z) h
 | @lst a xs ea=>
  cases (show u=Value.ref a from rx)
  obtain⟨_,_,n,_,h1⟩:=(show ObjOk X.prog X.w H s.heap a (.lst xs) from I.hok a _ ea)
  exact bU kitx_list I.kIn ⟨_,h1,rfl⟩ e (fun z=>nomatch z) h
 | @frz a ob xs ea=>
  cases (show u=Value.ref a from rx)
  obtain⟨_,_,_,n,_,h1⟩:=(show ObjOk X.prog X.w H s.heap a (.frz ob (.lst xs)) from I.hok a _ ea)
  exact bU kitx_list I.kIn ⟨_,h1,rfl⟩ e (fun z=>nomatch z) h
 | @tup a xs ea=>
  cases (show u=Value.ref a from rx)
  obtain⟨_,_,_,p⟩:=(show ObjOk X.prog X.w H s.heap a (.tup xs) from I.hok a _ ea)
  obtain⟨o,h1,h2,_⟩:=p.isTup
  exact bU PySem.W.kitx_tuple I.kIn ⟨o,h1,h2⟩ e (fun z=>nomatch z) h
 | @dK a iY ea=>
  cases (show u=Value.ref a from rx)
  obtain⟨_,_,vs,_,p⟩:=(show ObjOk X.prog X.w H s.heap a (.dK iY) from I.hok a _ ea)
  obtain⟨o,es,ep,h1,h2,_⟩:=p
  exact bU kitx_dict I.kIn ⟨o,h1,h2.1⟩ e (fun z=>nomatch z) h
 | @dT a iY ea=>
  cases (show u=Value.ref a from rx)
  obtain⟨_,_,xs,_,o,es,ep,h1,h2,_⟩:=(show ObjOk X.prog X.w H s.heap a (.dT iY) from I.hok a _ ea)
  exact bU kitx_dict I.kIn ⟨o,h1,h2.1⟩ e (fun z=>nomatch z) h
 | @ins a C dx fs ea cl ha hn htk hm=>
  cases (show u=Value.ref a from rx)
  obtain⟨mA,O,_⟩:=jT3 I.hok ea
  obtain⟨od,J,_⟩:=O.look
  exact bU (PySem.W.kitx_own (cl.get _) cl.hd ha hn htk hm) I.kIn J e (fun z=>nomatch z) h
end
structure Room (k:Nat)(A:Around):Prop where
 hd:A.handled=none
 dp:A.depth+3*k+5<recursionLimit
 un:A.units+16*k+200<cLine
theorem Room.mono {j k:Nat}{A:Around}(r:Room k A)(h:j<=k):Room j A:=⟨r.hd,by have:=r.dp; lia,by have:=r.un; lia⟩
theorem Room.deeper {k:Nat}{A:Around}(r:Room (k+1) A)(env:Env):Room k (A.deeper env):=
 ⟨r.hd,by have:=r.dp; show A.depth+1+3*k+5<_; lia,by have:=r.un; show A.units+3+16*k+200<_; lia⟩
theorem Room.depth {k:Nat}{A:Around}(r:Room k A):A.depth<recursionLimit:=by have:=r.dp; lia
theorem Room.units {k:Nat}{A:Around}(r:Room k A):A.units+64<cLine:=by have:=r.un; lia
theorem Room.units0 {k:Nat}{A:Around}(r:Room k A):A.units<cLine:=by have:=r.un; lia
def tNil:TA:=fun _ H Q=>Q [] H
def tCons (ta:TE)(tr:TA):TA:=fun σ H Q=>ta σ H fun x H1=>tr σ H1 fun xs H2=>Q (x::xs) H2
variable {es:List Expr}{t:TA}
theorem qF:PA X [] tNil:=fun _ _ _ _ H Q I h=>Calls.spliced_nil ⟨[],H,I, .nil,h⟩
theorem kY (ha:PE X e te)(hr:PA X es t)(hs:starEach (e::es) X.env=(false,eval e X.env)::starEach es X.env:=by rfl):PA X (e::es) (tCons te t):=by
 intro pos ad s σ H Q I h
 rw[hs]
 show wpAny _ _ (spliced ((false,eval e X.env)::backTo pos (starEach es X.env))) _ _ s
 refine Calls.spliced_cons (iZ (ha ad s σ H _ I h) fun u s1 ⟨x,H1,I1,r1,q1⟩=>?_)
 exact iZ (hr pos ad s1 σ H1 _ I1 q1) fun us s2 ⟨xs,H2,I2,r2,q2⟩=>⟨x::xs,H2,I2, .cons r1 r2,q2⟩
def tTup (t:TA):TE:=fun σ H Q=>t σ H fun xs H1=>xs.length<=sizeLine/\∀ p,H1 p=none->Q (.ref p) (upd H1 p (.tup xs))
def tLst (t:TA):TE:=fun σ H Q=>t σ H fun xs H1=>xs.length<=sizeLine/\∀ p,H1 p=none->Q (.ref p) (upd H1 p (.lst xs))
theorem jU2 {x1}(h:PA X es t):PE X (.Tuple es x1 pos) (tTup t):=by
 intro ad s σ H Q I hq
 refine wpAny_Tuple_spliced (iZ (h pos ad s σ H _ I hq) fun us s1 ⟨xs,H1,I1,r,z,q⟩=>⟨by rw[<- r.length]; exact z,?_⟩)
 have hf:H1 s1.heap.objs.size=none:=I1.hok.fresh (ai _)
 refine⟨.ref s1.heap.objs.size,upd H1 s1.heap.objs.size (.tup xs),I1.laid (t':=s1.toks) (fun b u e=>af _ e) (ai _) ?_,rfl,q _ hf⟩
 exact⟨z,us,r,TupO.new _ _⟩
theorem jJB (h:PA X es t):PE X (.List es pos) (tLst t):=by
 intro ad s σ H Q I hq
 refine wpAny_List_spliced (iZ (h pos ad s σ H _ I hq) fun us s1 ⟨xs,H1,I1,r,z,q⟩=>⟨by rw[<- r.length]; exact z,?_⟩)
 have hf:H1 s1.heap.objs.size=none:=I1.hok.fresh (ai _)
 refine⟨.ref s1.heap.objs.size,upd H1 s1.heap.objs.size (.lst xs),I1.laid (t':=s1.toks) (fun b u e=>af _ e) (ai _) ?_,rfl,q _ hf⟩
 exact⟨z,us,0,r,am _ rfl⟩
abbrev Sp:=List V->Hp->VK->XK->Prop
abbrev CXT:=List Env->Hp->Shared->XK->Value->Shared->Prop
structure Env0 (P:Program)(w:World)(K:W.Frag)(mg:Str->Option Value)(base:Heap)(A:Around)(outer:List Env)(s:Shared)(H:Hp):Prop where
 frames:A.frames=some outer
 mod:Mod K mg base
 bs:∀ b o,base.get? b=some o->s.heap.get? b=some o/\H b=none
 bsz:base.objs.size<=s.heap.objs.size
 funs:s.heap.FunFrames base outer
 frf:∀ b∈frs outer,H b=none
 hok:HOk P w H s.heap
 bare:AllBare s.gens
def CE (outer:List Env)(P:Program)(w:World)(H:Hp)(s:Shared)(Q:VK)(u:Value)(s':Shared):Prop:=
 ∃ v H',s'.os=s.os/\AllBare s'.gens/\Un (frs outer) [] H H' s.heap s'.heap/\HOk P w H' s'.heap/\RelV v u/\Q v H'
def CR (CX:CXT)(outer:List Env)(P:Program)(w:World)(H:Hp)(s:Shared)(Q:VK)(E:XK)(r:Result)(s':Shared):Prop:=
 match r with
 | .ok (.ret u)=>CE outer P w H s Q u s'
 | .ok _=>False
 | .error e=>CX outer H s E e s'
structure FnOk (P:Program)(w:World)(K:W.Frag)(mg:Str->Option Value)(base:Heap)(CX:CXT)(k:Nat)(f:Addr)(fd:FuncData)(ps:List Str)(sp:Sp):Prop where
 len:∀ vs H Q E,sp vs H Q E->vs.length=ps.length
 run:∀ (A:Around) (outer:List Env) (s:Shared) (H:Hp) (args:Args) (us:List Value) (vs:List V) (Q:VK) (E:XK),Room k A->Env0 P w K mg base A outer s H->BindsTo s fd args (ps.zip us)->Vals vs us->sp vs H Q E->
  codeAny (model P w) A (.call (.ref f) args) (CR CX outer P w H s Q E) s
section
variable {σ:St}{s':Shared}
theorem Inv.env0 (I:Inv X ad σ H s):Env0 X.prog X.w X.K X.mg X.base X.A X.stack s H:=
 ⟨I.ok.frames,I.ok.mod,I.bs,aQ I.ok.bsz I.sz,I.stack,I.stkFree,I.hok,I.bare⟩
theorem Inv.after {Q:VK}{u:Value}(I:Inv X ad σ H s)(h:CE X.stack X.prog X.w H s Q u s'):EP X ad σ Q u s':=by
 obtain⟨v,H',os,bare,un,hok,r,q⟩:=h
 obtain⟨hh,g,d,t,os'⟩:=s'
 obtain rfl:os'=s.os:=os
 exact⟨v,H',I.call (h':=hh) (g':=g) (d':=d) (t':=t) (ch:=[]) un hok bare (fun b z=>absurd z (by simp)),r,q⟩
end
def tCall (sp:Sp)(dvs:List V)(E:XK)(t:TA):TE:=fun σ H Q=>t σ H fun vs H1=>sp (vs++dvs) H1 Q E
def Binds (K:W.Frag)(fd:FuncData)(ps:List Str)(ds:List Value):Prop:=
 ∀ (s:Shared) (us:List Value),K.In s.heap->(us++ds).length=ps.length->BindsTo s fd ⟨us,[]⟩ (ps.zip (us++ds))
theorem Binds.all {K:W.Frag}{fd:FuncData}{ps:List Str}(h:∀ us:List Value,us.length=ps.length->bindArgs fd ⟨us,[]⟩=pure (ps.zip us)):Binds K fd ps []:=fun s us _ hl=>by
 rw[bf] at hl ⊢
 exact .of_eq (h us hl)
def jOR (CX:CXT)(X:Cx)(E:XK):Prop:=∀ (ad:List (Addr×Obj)) (σ:St) (H:Hp) (s:Shared) (e:Value) (s':Shared),Inv X ad σ H s->CX X.stack H s E e s'->X.xe e s'
variable {CX:CXT}{fd:FuncData}{ps:List Str}{sp:Sp}{m:Str}{p apos:Pos}
section
variable {k:Nat}{dvs:List V}{ds:List Value}{E:XK}{x:Str}
theorem jTT {ad:List (Addr×Obj)}{σ:St}{H:Hp}{s:Shared}{Q:VK}{us:List Value}{vs:List V}(F:FnOk X.prog X.w X.K X.mg X.base CX k f fd ps sp)(hr:Room k X.A)(hb:Binds X.K fd ps ds)(hd:Vals dvs ds)(hx:jOR CX X E)
  (I:Inv X ad σ H s) (r:Vals vs us) (h:sp (vs++dvs) H Q E):wpAny (model X.prog X.w) X.A (call (.ref f) us) (EP X ad σ Q) X.xe s:=by
 have r2:Vals (vs++dvs) (us++ds):=r.append hd
 have hl:(us++ds).length=ps.length:=by rw[<- r2.length]; exact F.len _ _ _ _ h
 refine fz (dF (F.run X.A X.stack s H ⟨us,[]⟩ (us++ds) (vs++dvs) Q E hr I.env0 (hb s us I.kIn hl) r2 h) fun r s' hq=>?_)
 cases r with
 | error e=>exact hx ad σ H s e s' I hq
 | ok fl=>
  cases fl with
  | ret u=>exact I.after hq
  | next=>exact False.elim hq
  | brk=>exact False.elim hq
  | cont=>exact False.elim hq
theorem jSE (F:FnOk X.prog X.w X.K X.mg X.base CX k f fd ps sp)(hr:Room k X.A)(hg:Gl X x)(hm:X.mg x=some (.ref f))(hk:keepIn X.K (.ref f)=true)(hb:Binds X.K fd ps ds)(hd:Vals dvs ds)(hx:jOR CX X E)
  (ha:PA X (e::es) t) (hdb:(x==("__debug__" :Str))=false:=by decide) (he:starEach (e::es) X.env=(false,eval e X.env)::starEach es X.env:=by rfl) (hpl:(backTo pos (starEach es X.env)).any (·.1)=false:=by rfl):
  PE X (.Call (.Name x p) (e::es) [] pos) (tCall sp dvs E t):=by
 intro ad s σ H Q I h
 refine cB (jCP I hg hm ?_ hdb)
 refine gy (h₀:=X.base) I.ok.mod.kin hk (iZ (ha pos ad s σ H _ I h) fun us s1 ⟨vs,H1,I1,r,q⟩=>⟨I1.kIn,?_⟩) he hpl
 exact jTT F hr hb hd hx I1 r q
end
section
variable {k:Nat}{ks:List Str}{E:XK}{x:Str}{kpos:Pos}{kws:List Keyword}{tk:TA}{nm:Option Str}
variable {g:List Value->List Value->List Value}{gV:List V->List V->List V}
end
structure FnScope (N P:List Str)(sc:Scope):Prop where
 kind:sc.kind= .function:=by rfl
 co:sc.isCoroutine=false:=by rfl
 gen:sc.isGenerator=false:=by rfl
 nd:N.Nodup:=by decide+kernel
 pre:N.take P.length=P:=by rfl
 par:∀ x∈P,sc.names.lookup x=some .local\/sc.names.lookup x=some .cell:=by decide+kernel
 nofree:∀ y∈sc.names,y.2≠ .free:=by decide+kernel
theorem jHU {kindOf:Str->Option NameKind}{x:Str} :∀ {binds:List (Str×Value)}{m:Str->Option Value},(∀ v,(x,v)∉binds)->bindL kindOf binds m x=m x
 | [],_,_=>rfl
 | (n,v)::r,m,h=>by
  unfold bindL
  rw[jHU fun w hw=>h w (aA _ hw)]
  split
  ·have:x≠n:=by rintro rfl; exact h v aw
   simp [this]
  ·rfl
theorem jHW {kindOf:Str->Option NameKind}{x:Str} :∀ {binds:List (Str×Value)}{m:Str->Option Value},(∀ v,(x,v)∉binds)->bindC kindOf binds m x=m x
 | [],_,_=>rfl
 | (n,v)::r,m,h=>by
  unfold bindC
  rw[jHW fun w hw=>h w (aA _ hw)]
  split
  ·rfl
  ·have:x≠n:=by rintro rfl; exact h v aw
   simp [this]
theorem jHV {kindOf:Str->Option NameKind}{x:Str}{v:Value} :∀ {P:List Str}{vs:List Value}{i:Nat}{m:Str->Option Value},P.Nodup->P[i]?=some x->vs[i]?=some v->kindOf x=some .local->
  bindL kindOf (P.zip vs) m x=some v
 | [],_,_,_,_,h,_,_=>by simp at h
 | _::_,[],_,_,_,_,h,_=>by simp at h
 | p::P,w::vs,0,m,nd,h1,h2,hk=>by
  simp at h1 h2; subst h1; subst h2
  show bindL kindOf ((p,w)::P.zip vs) m p=_
  unfold bindL
  rw[jHU fun v hv=>(b9.mp nd).1 (dI hv).1,aD hk]
  simp
 | p::P,w::vs,i+1,m,nd,h1,h2,hk=>by
  show bindL kindOf ((p,w)::P.zip vs) m x=_
  unfold bindL
  exact jHV (i:=i) (b9.mp nd).2 (by simpa using h1) (by simpa using h2) hk
theorem jHX {kindOf:Str->Option NameKind}{x:Str}{v:Value} :∀ {P:List Str}{vs:List Value}{i:Nat}{m:Str->Option Value},P.Nodup->P[i]?=some x->vs[i]?=some v->kindOf x≠some .local->
  bindC kindOf (P.zip vs) m x=some v
 | [],_,_,_,_,h,_,_=>by simp at h
 | _::_,[],_,_,_,_,h,_=>by simp at h
 | p::P,w::vs,0,m,nd,h1,h2,hk=>by
  simp at h1 h2; subst h1; subst h2
  show bindC kindOf ((p,w)::P.zip vs) m p=_
  unfold bindC
  rw[jHW fun v hv=>(b9.mp nd).1 (dI hv).1,aF hk]
  simp
 | p::P,w::vs,i+1,m,nd,h1,h2,hk=>by
  show bindC kindOf ((p,w)::P.zip vs) m x=_
  unfold bindC
  exact jHX (i:=i) (b9.mp nd).2 (by simpa using h1) (by simpa using h2) hk
def yT (N:List Str)(vs:List V):St:=vs.map some++List.replicate (N.length - vs.length) none
def cxOf (CX:CXT)(P:Program)(w:World)(K:W.Frag)(mg:Str->Option Value)(base:Heap)(N:List Str)(qual:Str)(scope:Scope)(f:Addr)(cd:Value)(A:Around)(outer:List Env)(s:Shared)(H:Hp)(E:XK):Cx where
 prog:=P
 w:=w
 K:=K
 mg:=mg
 base:=base
 A:=A.deeper (envOfC qual scope s.heap.objs.size f cd)
 N:=N
 s₀:=s
 H₀:=H
 env:=envOfC qual scope s.heap.objs.size f cd
 outer:=outer
 stack:=envOfC qual scope s.heap.objs.size f cd::outer
 ex:=[]
 calm:=true
 fn:=fun _=>true
 pn:=[]
 xe:=fun e s'=>wpAny (model P w) (A.deeper (envOfC qual scope s.heap.objs.size f cd)) (leaving (envOfC qual scope s.heap.objs.size f cd) e) (fun _ s''=>CX outer H s E e s'') (fun e' s''=>CX outer H s E e' s'') s'
theorem jK6 {sc:Scope}{n:Nat}{x:Str}(h:sc.names.lookup x=some .cell):∃ c,(cellsFrom n sc.names []).lookup x=some c:=by
 have q:=eQ sc.names n [] (.inl h)
 exact dq.mp q
theorem jHB {CX:CXT}{P:Program}{w:World}{K:W.Frag}{mg:Str->Option Value}{base:Heap}{N ps:List Str}{qual:Str}{scope:Scope}{f:Addr}{cd:Value}{A:Around}{outer:List Env}{s s1:Shared}{H:Hp}{E:XK}{us:List Value}{vs:List V}
  (S:FnScope N ps scope) (hd:A.handled=none) (e0:Env0 P w K mg base A outer s H) (hl:vs.length=ps.length) (r:Vals vs us)
  (x:InCallC s s.heap.objs.size (bindL (envOfC qual scope s.heap.objs.size f cd).kindOf (ps.zip us) fun _=>none) (cellsFrom (s.heap.objs.size+1) scope.names []) (bindC (envOfC qual scope s.heap.objs.size f cd).kindOf (ps.zip us) fun _=>none) s1):
  Inv (cxOf CX P w K mg base N qual scope f cd A outer s H E) [] (yT N vs) H s1:=by
 have hpl:ps.length<=N.length:=by have:=cg List.length S.pre; rw[bg] at this; lia
 obtain⟨h1,tk,rfl,hk⟩:=x.done
 have noA:∀ b:Addr,b∉(cxOf CX P w K mg base N qual scope f cd A outer s H E).ex:=fun b z=>absurd (show b∈([]:List Addr) from z) (by simp)
 refine⟨⟨e0.mod,S.kind,rfl,rfl,ai _,fun y z c h1 h2=>?_,fun y hy=>?_,fun y c _ h=>?_,fun _=>hd,gb e0.frames, .inr ⟨rfl,rfl⟩,fun b z=>absurd z (noA b),e0.bs,e0.bsz,fun b _ _=>noA b,fun b z=>absurd z (noA b),e0.funs,e0.frf⟩,
  rfl,e0.bare,Un.kept hk,⟨_,x.toInCall.ns,fun i y v h1 h2 h3=>?_⟩,fun y c h=>⟨_,x.cell y c h⟩,e0.hok.fresh (ai _),fun y c h=>?_,fun p hp=>absurd (show p∈([]:List (Addr×Obj)) from hp) (by simp),e0.hok.kept hk,?_⟩
 ·exact name_of_addr x.apart (cy h1) (cy h2)
 ·have hy:scope.names.lookup y=some .cell\/scope.names.lookup y=some .free:=hy
  rcases hy with hy | hy
  ·exact jK6 hy
  ·exact absurd rfl (S.nofree _ (cy hy))
 ·exact cF (x.above y c (cy h))
 ·have hi:i<vs.length:=by
   unfold yT at h2
   by_cases hi:i<vs.length
   ·exact hi
   ·rw[cx (by simpa using hi)] at h2
    rw[g7] at h2
    split at h2 <;> cases h2
  have ha:vs[i]?=some v:=by
   unfold yT at h2
   rw[cA (by simpa using hi),ay] at h2
   cases e:vs[i]? with
   | none=>rw[e] at h2; cases h2
   | some a=>rw[e] at h2; cases h2; rfl
  obtain⟨u,hu,rv⟩:=r.get ha
  have hp:ps[i]?=some y:=by
   rw[<- S.pre,gU (by lia)]; exact h1
  have ndP:ps.Nodup:=by rw[<- S.pre]; exact S.nd.sublist (eR _ _)
  refine⟨u,rv,?_⟩
  rcases S.par y (aB hp) with k | k
  ·exact .inl ⟨k,jHV ndP hp hu k⟩
  ·obtain⟨c,e⟩:=jK6 (n:=s.heap.objs.size+1) k
   refine .inr ⟨.inl k,c,e,?_⟩
   have q:=x.cell y c e
   rw[jHX ndP hp hu (by show scope.names.lookup y≠_; rw[k]; decide)] at q
   exact q
 ·exact e0.hok.fresh (cF (x.above y c (cy h)))
 ·unfold yT
  show _=N.length
  rw[aE,ac,iu]
  lia
theorem fn_of {CX:CXT}{P:Program}{w:World}{K:W.Frag}{mg:Str->Option Value}{base:Heap}{k:Nat}{f:Addr}{name qual:Str}{params:Arguments}{body:List Stmt}{scope:Scope}{dV kV doc pm dl ct oc:Value}{an od:Option Addr}
  {osl:Array (Option Value)}{N ps:List Str}{sp:Sp}(lk:K.lookup f=some ⟨oc,od, .func (PySem.W.fnOf name qual params body scope dV kV doc pm an dl ct),osl⟩) (hcd:PySem.W.codeIn K dl qual=true) (S:FnScope N ps scope)
  (len:∀ vs H Q E,sp vs H Q E->vs.length=ps.length)
  (hbody:∀ (A:Around) (outer:List Env) (s:Shared) (H:Hp) (vs:List V) (Q:VK) (E:XK),Room k (A.deeper (envOfC qual scope s.heap.objs.size f dl))->sp vs H Q E->
   ∃ t,PSs (cxOf CX P w K mg base N qual scope f dl A outer s H E) body t/\t { nx:=fun _ H'=>Q .non H',rt:=Q} (yT N vs) H):
  FnOk P w K mg base CX (k+1) f (PySem.W.fnOf name qual params body scope dV kV doc pm an dl ct) ps sp:=by
 refine⟨len,fun A outer s H args us vs Q E hr e0 hb r hsp=>?_⟩
 have hl:=len _ _ _ _ hsp
 have KX:K.In s.heap:=e0.mod.kin.keeps fun b o e=>(e0.bs b o e).1
 have lim:s.heap.NoLimit:=e0.mod.nolimit.keeps fun b o e=>(e0.bs b o e).1
 have hkind:∀ y∈ps.zip us,scope.names.lookup y.1=some .local\/(scope.names.lookup y.1=some .cell/\((cellsFrom (s.heap.objs.size+1) scope.names []).lookup y.1).isSome=true):=fun ⟨n,v⟩ hy=>by
  rcases S.par n (dI hy).1 with q | q
  ·exact .inl q
  ·exact .inr ⟨q,eQ _ _ _ (.inl q)⟩
 refine codeAny_call_function hr.depth (KX _ _ lk) rfl S.co S.gen rfl (iM KX hcd) (hb _ _ _ _ ?_)
 refine gz S.kind hkind fun env he s1 x=>?_
 subst he
 refine⟨lim.keeps x.toInCall.keep,codeAny_func ?_⟩
 obtain⟨t,ht,hq⟩:=hbody A outer s H vs Q E (hr.deeper _) hsp
 have I:Inv (cxOf CX P w K mg base N qual scope f dl A outer s H E) [] (yT N vs) H s1:=jHB S hr.hd e0 hl r x
 refine bC (ht [] s1 (yT N vs) H _ I hq) (fun fl s' hs=>?_) fun e s' hs=>hs
 have fin:∀ {σ':St}{H':Hp}{v:V}{u:Value},Inv (cxOf CX P w K mg base N qual scope f dl A outer s H E) [] σ' H' s'->RelV v u->Q v H'->CE outer P w H s Q u s':=
  fun {σ' H' v u} J rv q=>⟨v,H',J.os,J.bare,J.base,J.hok,rv,q⟩
 cases fl with
 | ret u=>
  obtain⟨v,σ',H',J,rv,q⟩:=hs
  exact fin J rv q
 | next=>
  obtain⟨σ',H',J,q⟩:=hs
  exact fin (v:=V.non) (u:=Value.none) J rfl q
 | brk=>
  obtain⟨_,_,_,q⟩:=hs
  exact False.elim q
 | cont=>
  obtain⟨_,_,_,q⟩:=hs
  exact False.elim q
section
variable {x:Str}{id T:String}{r:List V->Hp->VK->Prop}
def tCB (r:List V->Hp->VK->Prop)(t:TA):TE:=fun σ H Q=>t σ H fun vs H1=>r vs H1 Q
theorem jFS (hc:yO X (.builtin id) r)(hg:Gl X x)(hm:X.mg x=none)(hv:bootBuiltins x=some (.builtin id))(ha:PA X (e::es) t)(hn:x≠ "__name__" :=by decide)(hdb:(x==("__debug__" :Str))=false:=by decide)
  (he:starEach (e::es) X.env=(false,eval e X.env)::starEach es X.env:=by rfl) (hpl:(backTo pos (starEach es X.env)).any (·.1)=false:=by rfl):PE X (.Call (.Name x p) (e::es) [] pos) (tCB r t):=by
 intro ad s σ H Q I h
 refine cB (jEA I hg hm hv ?_ hn hdb)
 exact PyProof.Rows.callWith_builtin1 (iZ (ha pos ad s σ H _ I h) fun us s1 ⟨vs,H1,I1,r1,q1⟩=>hc ad s1 σ H1 vs us Q I1 r1 q1) he hpl
theorem jC8 (hc:yO X (.type T) r)(hg:Gl X x)(hm:X.mg x=none)(hv:bootBuiltins x=some (.type T))(ha:PA X (e::es) t)(hn:x≠ "__name__" :=by decide)(hdb:(x==("__debug__" :Str))=false:=by decide)
  (he:starEach (e::es) X.env=(false,eval e X.env)::starEach es X.env:=by rfl) (hpl:(backTo pos (starEach es X.env)).any (·.1)=false:=by rfl):PE X (.Call (.Name x p) (e::es) [] pos) (tCB r t):=by
 intro ad s σ H Q I h
 refine cB (jEA I hg hm hv ?_ hn hdb)
 exact cq (iZ (ha pos ad s σ H _ I h) fun us s1 ⟨vs,H1,I1,r1,q1⟩=>hc ad s1 σ H1 vs us Q I1 r1 q1) he hpl
end
end L2
namespace HT
open PySem PyProof.Rows
section
open PySem.SeqAt
open PySem.AutoSeq1 (wpAny_loadPart')
open PySem.MeetsSeq PySem.MeetsSeq2 PySem.MeetsSeq3
end
section
variable {prog:Program}{w:World}{A:Around}{E:Value->Shared->Prop}{s:Shared}
theorem cat_tup {t b:Addr}{vs ws:List Value}{Q:Value->Shared->Prop}(ht:IsTup s.heap t vs.toArray)(hb:IsTup s.heap b ws.toArray)(hv:vs≠ [])
  (h1:ws=[]->Q (.ref t) s) (h2:ws≠ []->Q (.ref s.heap.objs.size) { s with heap:=s.heap.push { cls:= .type "tuple",data:= .seq (vs++ws).toArray}})
  (hsz:vs.length+ws.length<=sizeLine):wpAny (model prog w) A (binaryOp .Add (.ref t) (.ref b)) Q E s:=by
 obtain⟨⟨cls,dd,data,sl⟩,ho,hc,n,hd⟩:=id ht
 obtain⟨⟨cls2,dd2,data2,sl2⟩,ho2,hc2,n2,hd2⟩:=id hb
 simp only at hc hd hc2 hd2
 subst hc hd hc2 hd2
 have e:vs.toArray++ws.toArray=(vs++ws).toArray:=by simp
 by_cases hw:ws=[]
 ·exact concat_meets ⟨_,ho,rfl⟩ ⟨_,ho2,rfl⟩ g8 seq_tuple_add eS eM (ej _ _)
   (tuple_addW1 t b vs.toArray ws.toArray n n2 dd dd2 sl sl2 (by simpa using hv) (by simp [hw])) ⟨ho,ho2,h1 hw⟩
 ·refine concat_meets ⟨_,ho,rfl⟩ ⟨_,ho2,rfl⟩ g8 seq_tuple_add eS eM (ej _ _)
   (tuple_addW2 t b vs.toArray ws.toArray n n2 dd dd2 sl sl2 (by simpa using hv) (by simpa using hw) (by rw[aj,aj]; exact hsz)) ⟨ho,ho2,?_⟩
  rw[e]
  exact h2 hw
noncomputable def sIx (n d:Nat):Option Int->Nat
 | none=>d
 | some v=>if v<0 then (v+(n:Int)).toNat else min v.toNat n
theorem sIx_none (n d:Nat):sIx n d none=d:=rfl
theorem sIx_nat (n d k:Nat):sIx n d (some (k:Int))=min k n:=by
 show (if (k:Int)<0 then ((k:Int)+(n:Int)).toNat else min (k:Int).toNat n)=min k n
 rw[aF (by lia),bp]
theorem jTS (n d:Nat)(hd:d<=n)(o:Option Int):sIx n d o<=n:=by
 cases o with
 | none=>exact hd
 | some v=>
  show (if v<0 then (v+(n:Int)).toNat else min v.toNat n)<=n
  by_cases hv:v<0
  ·rw[aD hv]; lia
  ·rw[aF hv]; exact Nat.min_le_right _ _
theorem jO9 (v:Int)(n d:Nat):(if v<0 then max (v+(n:Int)) 0 else min v (n:Int))=((sIx n d (some v):Nat):Int):=by
 show (if v<0 then max (v+(n:Int)) 0 else min v (n:Int))=(((if v<0 then (v+(n:Int)).toNat else min v.toNat n):Nat):Int)
 by_cases hv:v<0
 ·simp only [aD hv]; lia
 ·simp only [aF hv]; lia
theorem jLA (lo hi:Option Int)(n:Nat):Builtin.Slice.sliceAdjust lo hi 1 (n:Int)=(((sIx n 0 lo:Nat):Int),((sIx n n hi:Nat):Int)):=by
 have h1:¬ ((1:Int)<0):=by lia
 unfold Builtin.Slice.sliceAdjust
 simp only [h1,iW]
 refine Prod.ext ?_ ?_
 ·cases lo with
  | none=>rfl
  | some v=>exact jO9 v n 0
 ·cases hi with
  | none=>rfl
  | some v=>exact jO9 v n n
theorem jKL (i j:Nat):Builtin.Slice.slicePlaces (i:Int) (j:Int) 1=j - i:=by
 unfold Builtin.Slice.slicePlaces
 have h1:(1:Int)>0:=by lia
 simp only [h1,gL,Int.ediv_one]
 split <;> lia
theorem slicePart_ {v:Value}{o:Option Int}{Q:Option Int->Shared->Prop}(p:IsPart v o)(h:Q o s):wpAny (model prog w) A (Builtin.Slice.slicePartIndex v) Q E s:=by
 cases p with
 | none=>exact gA h
 | int i t=>exact slicePart_int h
theorem sliceApplied_gen {sl:Addr}{vl vu:Value}{lo hi:Option Int}{n:Nat}{Q:Int×Int×Nat->Shared->Prop}(hs:s.heap.IsSliceOf sl vl vu .none)(pl:IsPart vl lo)(pu:IsPart vu hi)
  (h:Q (((sIx n 0 lo:Nat):Int),1,sIx n n hi - sIx n 0 lo) s):wpAny (model prog w) A (Builtin.Slice.sliceApplied (.ref sl) (pure (n:Int))) Q E s:=by
 obtain⟨os,hos,hcs,hds⟩:=id hs
 unfold Builtin.Slice.sliceApplied Builtin.Slice.sliceFields
 refine ae (ae (bu hos hds (x:=vl) rfl (ae (bu hos hds (x:=vu) rfl (ae (bu hos hds (x:= .none) rfl (ag ?_)))))))
 refine ae (gA ?_)
 show wpAny _ _ (if ((1:Int)==0)=true then _ else _) _ _ s
 rw[aF (by decide)]
 refine ae (slicePart_ pl (ae (slicePart_ pu (ae (ag ?_)))))
 show wpAny _ _ (match Builtin.Slice.sliceAdjust lo hi 1 (n:Int) with | (lo,hi)=>pure (lo,(1:Int),Builtin.Slice.slicePlaces lo hi 1)) _ _ s
 rw[jLA lo hi n]
 show wpAny _ _ (pure (((sIx n 0 lo:Nat):Int),(1:Int),Builtin.Slice.slicePlaces ((sIx n 0 lo:Nat):Int) ((sIx n n hi:Nat):Int) 1)) _ _ s
 rw[jKL]
 exact ag h
theorem jP7 (xs:Array Value)(i k:Nat):((List.range k).filterMap fun (m:Nat)=>xs[((i:Int)+(m:Int)*1).toNat]?).toArray=((xs.toList.drop i).take k).toArray:=by
 have e:(fun (m:Nat)=>xs[((i:Int)+(m:Int)*1).toNat]?)=fun m=>xs[i+m]?:=by
  funext m
  have:((i:Int)+(m:Int)*1).toNat=i+m:=by lia
  rw[this]
 rw[e]
 have:=pick_run xs i k
 rw[List.filterMap_map] at this
 have e2:((fun x=>xs[x]?) ∘ fun x=>i+x)=fun m=>xs[i+m]?:=rfl
 rw[e2] at this
 rw[this]
theorem getItem_tuple_cut {t sl:Addr}{items:Array Value}{vl vu:Value}{lo hi:Option Int}{Q:Value->Shared->Prop}(ht:IsTup s.heap t items)(hs:s.heap.IsSliceOf sl vl vu .none)(pl:IsPart vl lo)(pu:IsPart vu hi)
  (hw:¬ (sIx items.size 0 lo=0/\sIx items.size items.size hi=items.size))
  (h:Q (.ref s.heap.objs.size) { s with heap:=s.heap.push { cls:= .type "tuple",data:= .seq ((items.toList.drop (sIx items.size 0 lo)).take (sIx items.size items.size hi - sIx items.size 0 lo)).toArray}})
  (hsz:items.size<=sizeLine):wpAny (model prog w) A (getItem (.ref t) (.ref sl)) Q E s:=by
 have htake:sizeOk (.seq ((items.toList.drop (sIx items.size 0 lo)).take (sIx items.size items.size hi - sIx items.size 0 lo)).toArray):=by
  show ((items.toList.drop (sIx items.size 0 lo)).take (sIx items.size items.size hi - sIx items.size 0 lo)).toArray.size<=sizeLine
  rw[aj,bg,cU,bE]
  lia
 have hj:sIx items.size items.size hi<=items.size:=jTS _ _ (ai _) hi
 obtain⟨os,hos,hcs,hds⟩:=id hs
 have hTs:s.TypeIs (.ref sl) "slice" :=⟨os,hos,hcs⟩
 unfold getItem
 try with_reducible refine br ?_
 first | refine ae (ag ?_) | skip
 refine ae (gM ht.typeIs (by decide) ?_)
 refine ae (bw (name:=Str.ofString "__getitem__") ht.typeIs bi
  (bD bi ht.typeIs gj ?_ (gB _ _)))
 show wpAny _ _ (Builtin.Tuple.tupleItemsOf (.ref t) >>= _) _ _ s
 refine ae (tupleItemsOf_ ht ?_)
 refine ae (dg hTs ?_)
 rw[aD (by decide)]
 refine ae (sliceApplied_gen hs pl pu ?_)
 have hno:¬ ((((sIx items.size 0 lo:Nat):Int)==0&&(1:Int)==1&&(sIx items.size items.size hi - sIx items.size 0 lo)==items.size)=true):=by
  intro q
  rw[bd,bd] at q
  have q1:((sIx items.size 0 lo:Nat):Int)=0:=eq_of_beq q.1.1
  have q2:sIx items.size items.size hi - sIx items.size 0 lo=items.size:=eq_of_beq q.2
  exact hw ⟨by lia,by lia⟩
 show wpAny _ _ (if (((sIx items.size 0 lo:Nat):Int)==0&&(1:Int)==1&&(sIx items.size items.size hi - sIx items.size 0 lo)==items.size)=true then _ else _) _ _ s
 rw[aF hno,jP7]
 first
  | exact ae (m:=Builtin.Tuple.tupleExact _) (aU (ag ⟨_,rfl,ag h⟩) htake)
  | exact ae (m:=Builtin.Tuple.tupleExact _) (aU (ae (ag (ag ⟨_,rfl,ag h⟩))) htake)
  | exact ae (ae (m:=Builtin.Tuple.tupleExact _) (aU (ag (ag ⟨_,rfl,ag h⟩)) htake))
  | exact ae (ae (m:=Builtin.Tuple.tupleExact _) (aU (ag ⟨_,rfl,ag h⟩) htake))
end
end HT
namespace L2
open PySem PySem.Spec PyProof.Rows
abbrev TO:=St->Hp->(Option Int->Hp->Prop)->Prop
def PO (X:Cx)(e:Option Expr)(t:TO):Prop:=
 ∀ (ad:List (Addr×Obj)) (s:Shared) (σ:St) (H:Hp) (Q:Option Int->Hp->Prop),Inv X ad σ H s->t σ H Q->
  wpAny (model X.prog X.w) X.A (evalPart e X.env) (fun u s'=>∃ o H',Inv X ad σ H' s'/\IsPart u o/\Q o H') X.xe s
def jLQ:TO:=fun _ H Q=>Q none H
def tPart (t:TE):TO:=fun σ H Q=>t σ H fun x H1=>∃ i,x= .int i/\Q (some i) H1
variable {X:Cx}{e:Expr}{pos:Pos}
section
variable {te:TE}{lo hi:Option Expr}{tl th:TO}{p2:Pos}
theorem jS3:PO X none jLQ:=by
 intro ad s σ H Q I h
 rw[evalPart_none]
 exact ag ⟨none,H,I, .none,h⟩
theorem jS2 (h:PE X e te):PO X (some e) (tPart te):=by
 intro ad s σ H Q I hw
 rw[evalPart_some]
 refine iZ (h ad s σ H _ I hw) fun u s1 ⟨x,H1,I1,r1,q1⟩=>?_
 obtain⟨i,rfl,q⟩:=q1
 obtain⟨t,rfl⟩:=r1
 exact⟨some i,H1,I1, .int i t,q⟩
def SlR (X:Cx)(r:V->Option Int->Option Int->Hp->VK->Prop):Prop:=
 ∀ (ad:List (Addr×Obj)) (s:Shared) (σ:St) (H:Hp) (x:V) (v vl vu:Value) (lo hi:Option Int) (sl:Addr) (Q:VK),Inv X ad σ H s->RelV x v->s.heap.IsSliceOf sl vl vu .none->IsPart vl lo->IsPart vu hi->r x lo hi H Q->
  ∃ T id,typeLookup (.type T) "__getitem__" =pure (some (.builtin id))/\s.TypeIs v T/\wpAny (model X.prog X.w) X.A (getItem v (.ref sl)) (EP X ad σ Q) X.xe s
def tSl (r:V->Option Int->Option Int->Hp->VK->Prop)(te:TE)(tl th:TO):TE:=fun σ H Q=>te σ H fun x H1=>tl σ H1 fun l H2=>th σ H2 fun u H3=>r x l u H3 Q
theorem jP9 {r:V->Option Int->Option Int->Hp->VK->Prop}(hr:SlR X r)(he:PE X e te)(hl:PO X lo tl)(hu:PO X hi th):PE X (.Subscript e (.Slice lo hi none p2) pos) (tSl r te tl th):=by
 intro ad s σ H Q I h
 refine Subscript_ (iZ (he ad s σ H _ I h) fun v s1 ⟨x,H1,I1,r1,q1⟩=>?_)
 refine wpAny_Slice (iZ (hl ad s1 σ H1 _ I1 q1) fun vl s2 ⟨l,H2,I2,pl,q2⟩=>iZ (hu ad s2 σ H2 _ I2 q2) fun vu s3 ⟨u,H3,I3,pu,q3⟩=>?_)
 rw[evalPart_none]
 refine ag ?_
 have I4:Inv X ad σ H3 { s3 with heap:=s3.heap.push { cls:= .type "slice",data:= .fields #[vl,vu, .none]}} :=I3.kept (t':=s3.toks) fun b ob q=>af _ q
 obtain⟨T,id,hT,ht,hg⟩:=hr ad { s3 with heap:=s3.heap.push { cls:= .type "slice",data:= .fields #[vl,vu, .none]}} σ H3 x v vl vu l u s3.heap.objs.size Q I4 r1 (Heap.IsSliceOf.new ..) pl pu q3
 show wpAny (model X.prog X.w) X.A (subscriptTail e (.Slice lo hi none p2) v (.ref s3.heap.objs.size)) (EP X ad σ Q) X.xe { s3 with heap:=s3.heap.push { cls:= .type "slice",data:= .fields #[vl,vu, .none]}}
 exact tail_any (ops:=[.ref s3.heap.objs.size,v]) ht hT hg (by with_unfolding_all rfl)
def cutV (xs:List V)(lo hi:Option Int):List V:=(xs.drop (HT.sIx xs.length 0 lo)).take (HT.sIx xs.length xs.length hi - HT.sIx xs.length 0 lo)
theorem jEK (xs:List V)(lo hi:Option Int):(cutV xs lo hi).length<=xs.length:=by
 unfold cutV
 rw[bg,cU]
 lia
def rSlT (K:W.Frag):V->Option Int->Option Int->Hp->VK->Prop:=fun x lo hi H Q=>∃ a xs,x= .ref a/\SqT K H a xs/\
 ¬ (HT.sIx xs.length 0 lo=0/\HT.sIx xs.length xs.length hi=xs.length)/\∀ p,H p=none->Q (.ref p) (upd H p (.tup (cutV xs lo hi)))
theorem jTQ:SlR X (rSlT X.K):=by
 intro ad s σ H x v vl vu lo hi sl Q I rx hs pl pu h
 obtain⟨a,xs,rfl,hx,hw,q⟩:=h
 cases rx
 obtain⟨its,r,ht,hz⟩:=I.tuple hx
 have hlen:its.toArray.size=xs.length:=by rw[aj]; exact r.length.symm
 refine⟨"tuple",_,bi.lookup,ht.typeIs,?_⟩
 refine HT.getItem_tuple_cut ht hs pl pu (by rw[hlen]; exact hw) ?_ (by rw[hlen]; exact hz)
 rw[hlen]
 refine⟨.ref s.heap.objs.size,_,I.laid (t':=s.toks) (o:= .tup (cutV xs lo hi)) (fun b ob q=>af _ q) (ai _) ?_,rfl,q _ (I.hok.fresh (ai _))⟩
 exact⟨aQ (jEK xs lo hi) hz,_,(r.drop (HT.sIx xs.length 0 lo)).take (HT.sIx xs.length xs.length hi - HT.sIx xs.length 0 lo),TupO.new _ _⟩
def rCatT (K:W.Frag):R2:=fun x y H Q=>∃ a b xs ys,x= .ref a/\y= .ref b/\SqT K H a xs/\SqT K H b ys/\xs≠ []/\xs.length+ys.length<=sizeLine/\
 (ys=[]->Q (.ref a) H)/\(ys≠ []->∀ p,H p=none->Q (.ref p) (upd H p (.tup (xs++ys))))
theorem Vals.nil_iff {xs:List V}{us:List Value}(r:Vals xs us):us=[]↔xs=[]:=by
 cases r with
 | nil=>simp
 | cons _ _=>simp
theorem jSL:OpR X (binaryOp .Add) (rCatT X.K):=by
 intro ad s σ H x y v u Q I rx ry h
 obtain⟨a,b,xs,ys,rfl,rfl,ha,hb,hx,hz,q1,q2⟩:=h
 cases rx
 cases ry
 obtain⟨its,r1,p1,_⟩:=I.tuple ha
 obtain⟨its2,r2,p2,_⟩:=I.tuple hb
 refine HT.cat_tup p1 p2 (fun z=>hx (r1.nil_iff.mp z)) (fun z=>⟨.ref a,H,I,rfl,q1 (r2.nil_iff.mp z)⟩) (fun z=>?_) (by rw[<- r1.length,<- r2.length]; exact hz)
 refine⟨.ref s.heap.objs.size,_,I.laid (t':=s.toks) (o:= .tup (xs++ys)) (fun b ob q=>af _ q) (ai _) ?_,rfl,q2 (fun w=>z (r2.nil_iff.mpr w)) _ (I.hok.fresh (ai _))⟩
 exact⟨by rw[aE]; exact hz,_,r1.append r2,TupO.new _ _⟩
end
noncomputable def ixN (n:Nat)(i:Int):Option Nat:=if 0<=i then (if i<n then some i.toNat else none) else if -(n:Int)<=i then some (i+n).toNat else none
def atI {α:Type}(xs:List α)(i:Int):Option α:=(ixN xs.length i).bind fun j=>xs[j]?
theorem jNI {n:Nat}{i:Int}{j:Nat}(h:ixN n i=some j):seqIndex? i n=some j/\j<n/\ -(n:Int)<=i/\i<n:=by
 unfold ixN at h
 by_cases h0:0<=i
 ·rw[aD h0] at h
  by_cases h1:i<n
  ·rw[aD h1] at h
   have e:i.toNat=j:=be h
   exact⟨by rw[seqIndex_of h0 h1,e],by lia,by lia,h1⟩
  ·rw[aF h1] at h; cases h
 ·rw[aF h0] at h
  by_cases h1: -(n:Int)<=i
  ·rw[aD h1] at h
   have e:(i+n).toNat=j:=be h
   exact⟨by rw[seqIndex_neg (by lia) h1,e],by lia,h1,by lia⟩
  ·rw[aF h1] at h; cases h
theorem jON {α:Type}{xs:List α}{i:Int}{v:α}(h:atI xs i=some v):∃ j,seqIndex? i xs.length=some j/\xs[j]?=some v/\j<xs.length/\ -(xs.length:Int)<=i/\i<xs.length:=by
 unfold atI at h
 cases e:ixN xs.length i with
 | none=>rw[e] at h; cases h
 | some j=>
  rw[e] at h
  obtain⟨h1,h2,h3,h4⟩:=jNI e
  exact⟨j,h1,h,h2,h3,h4⟩
theorem yR {α:Type}{xs:List α}{j:Nat}{v:α}(h:xs[j]?=some v):atI xs (j:Int)=some v:=by
 have hj:j<xs.length:=(av.mp h).1
 have e:ixN xs.length (j:Int)=some j:=by
  unfold ixN
  rw[aD (by lia),aD (by lia)]; simp
 unfold atI; rw[e]; exact h
def jBJ (b:Expr):Prop:=∀ o i,subscripted b false o i=operate [o,i] (getItem o i)
def IxR (X:Cx)(r:R2):Prop:=
 ∀ (value slice:Expr) (ad:List (Addr×Obj)) (s:Shared) (σ:St) (H:Hp) (x y:V) (v u:Value) (Q:VK),Inv X ad σ H s->RelV x v->RelV y u->r x y H Q->
  subscripted slice false v u=operate [v,u] (getItem v u)->wpAny (model X.prog X.w) X.A (subscriptTail value slice v u) (EP X ad σ Q) X.xe s
def MtR (X:Cx)(id:String)(r:V->List V->Hp->VK->Prop):Prop:=
 ∀ (ad:List (Addr×Obj)) (s:Shared) (σ:St) (H:Hp) (x:V) (xs:List V) (v:Value) (us:List Value) (Q:VK),Inv X ad σ H s->RelV x v->Vals xs us->r x xs H Q->
  wpAny (model X.prog X.w) X.A (call (.builtin id) (v::us)) (EP X ad σ Q) X.xe s
section
variable {a b:Expr}{ta tb:TE}
theorem pe_ix {r:R2}(hr:IxR X r)(ha:PE X a ta)(hb:PE X b tb)(hs:jBJ b):PE X (.Subscript a b pos) (tOp r ta tb):=by
 intro ad s σ H Q I h
 exact Subscript_ (binT ha hb I h fun v u s2 x y H2 I2 rx ry q=>hr a b ad s2 σ H2 x y v u Q I2 rx ry q (hs _ _))
def rIxL (K:W.Frag):R2:=fun x y H Q=>∃ p xs i v,x= .ref p/\y= .int i/\SqL K H p xs/\atI xs i=some v/\Q v H
def rIxT (K:W.Frag):R2:=fun x y H Q=>∃ p xs i v,x= .ref p/\y= .int i/\SqT K H p xs/\atI xs i=some v/\Q v H
theorem jB9:IxR X (rIxL X.K):=by
 intro value slice ad s σ H x y v u Q I rx ry h hs
 obtain⟨p,xs,i,z,rfl,rfl,hq,he,q⟩:=h
 cases rx
 obtain⟨t,rfl⟩:=ry
 obtain⟨its,r,pl,hz⟩:=I.list hq
 obtain⟨j,h1,h2,h3,h4,h5⟩:=jON he
 obtain⟨w,ew,rw'⟩:=r.get h2
 have hl:=r.length
 have hn:=jH5
 have fin:EP X ad σ Q w s:=⟨z,H,I,rw',q⟩
 by_cases h0:0<=i
 ·have hj:i.toNat=j:=by
   rw[seqIndex_of h0 h5] at h1
   exact be h1
  exact item_listR pl.isList h0 (by lia) (by rw[hj]; simpa using ew) fin hs
 ·have hj:(i+(its.toArray.size:Int)).toNat=j:=by
   rw[seqIndex_neg (by lia) h4] at h1
   rw[aj,<- hl]
   exact be h1
  exact subscriptTail_builtinR (x:=w) pl.isList.typeIs slot_list_getitem.lookup
   (wpAny_getItem_list_neg (Q:=fun r s'=>r=w/\EP X ad σ Q r s') pl.isList (by lia) (by rw[aj] <;> lia) (by lia) (by rw[hj]; simpa using ew) ⟨rfl,fin⟩) hs
theorem jL:IxR X (rIxT X.K):=by
 intro value slice ad s σ H x y v u Q I rx ry h hs
 obtain⟨p,xs,i,z,rfl,rfl,hq,he,q⟩:=h
 cases rx
 obtain⟨t,rfl⟩:=ry
 obtain⟨its,r,pl,hz⟩:=I.tuple hq
 obtain⟨j,h1,h2,h3,h4,h5⟩:=jON he
 obtain⟨w,ew,rw'⟩:=r.get h2
 have hl:=r.length
 have hn:=jH5
 have fin:EP X ad σ Q w s:=⟨z,H,I,rw',q⟩
 exact subscriptTail_builtinR (x:=w) pl.typeIs slot_tuple_getitem.lookup
  (getItem_tuple (j:=j) (Q:=fun r s'=>r=w/\EP X ad σ Q r s') pl (by lia) (by lia) (by rw[aj,<- hl]; exact h1) (by simpa using ew) ⟨rfl,fin⟩) hs
theorem jKQ (its:List Value)(n j:Nat)(u:Value):Obj.mapSeq (·.setIfInBounds j u) { cls:= .type "list",data:= .seq its.toArray n} = { cls:= .type "list",data:= .seq (its.set j u).toArray n} :=by
 simp [Obj.mapSeq]
theorem Inv.lst {ad:List (Addr×Obj)}{σ:St}{H:Hp}{s:Shared}{p:Addr}{xs:List V}(I:Inv X ad σ H s)(h:H p=some (.lst xs)):
  ∃ (its:List Value) (n:Nat),Vals xs its/\s.heap.get? p=some { cls:= .type "list",data:= .seq its.toArray n} /\xs.length<=sizeLine:=by
 obtain⟨z,its,n,r,e⟩:=I.hok p _ h
 exact⟨its,n,r,e,z⟩
theorem Inv.lstUpd {ad:List (Addr×Obj)}{σ:St}{H:Hp}{s:Shared}{p:Addr}{xs ys:List V}{its its':List Value}{n n':Nat}{f:Obj->Obj}(I:Inv X ad σ H s)(h:H p=some (.lst xs))
  (ho:s.heap.get? p=some { cls:= .type "list",data:= .seq its.toArray n}) (hf:f { cls:= .type "list",data:= .seq its.toArray n} = { cls:= .type "list",data:= .seq its'.toArray n'}) (r:Vals ys its') (hz:ys.length<=sizeLine) (t:Nat):
  Inv X ad σ (upd H p (.lst ys)) { s with heap:=s.heap.update p f,toks:=t} :=by
 have e:(s.heap.update p f).get? p=some { cls:= .type "list",data:= .seq its'.toArray n'} :=by
  rw[bN f ho (by rw[hf] <;> rfl),hf]
 refine I.write (x:=p) (e:=p) (by rw[h]; trivial) (.inl rfl) (fun b u hb q=>(bF _ _ (cS hb)).trans q) ⟨_,e⟩ ?_
 exact⟨hz,its',n',r,e⟩
def rSetL:V->V->V->Hp->(Hp->Prop)->Prop:=fun o i v H Q=>∃ p xs k j,o= .ref p/\i= .int k/\H p=some (.lst xs)/\ixN xs.length k=some j/\Q (upd H p (.lst (xs.set j v)))
theorem jFK:PSet X rSetL:=by
 intro ad s σ H o i v ov iv u Q I ro ri rv h
 obtain⟨p,xs,k,j,rfl,rfl,hp,hj,q⟩:=h
 cases ro
 obtain⟨t,rfl⟩:=ri
 obtain⟨its,n,r,ho,hz⟩:=I.lst hp
 obtain⟨h1,h2,h3,h4⟩:=jNI hj
 have hl:=r.length
 have hn:=jH5
 have I':Inv X ad σ (upd H p (.lst (xs.set j v))) { s with heap:=s.heap.update p (Obj.mapSeq (·.setIfInBounds j u))} :=
  I.lstUpd hp ho (jKQ its n j u) (r.set rv j) (by rw[ik]; exact hz) s.toks
 by_cases h0:0<=k
 ·have hk:k.toNat=j:=by
   rw[seqIndex_of h0 h4] at h1
   exact be h1
  exact PySem.W.ki_setAt ho h0 (by lia) (by rw[aj,<- hl]; exact h4) (by rw[hk]; exact⟨_,I',q⟩)
 ·have hk:(k+(its.toArray.size:Int)).toNat=j:=by
   rw[seqIndex_neg (by lia) h3] at h1
   rw[aj,<- hl]
   exact be h1
  exact PySem.W.ki_setBack ho (by lia) (by rw[aj,<- hl]; exact h3) (by lia) (by rw[hk]; exact⟨_,I',q⟩)
theorem jGP (lo hi:Option Int)(n:Nat):(sliceBounds lo hi none n).1=((HT.sIx n 0 lo:Nat):Int)/\(sliceBounds lo hi none n).2.1=((HT.sIx n n hi:Nat):Int)/\(sliceBounds lo hi none n).2.2=1:=by
 refine⟨?_,?_,rfl⟩
 ·cases lo with
  | none=>simp [sliceBounds,HT.sIx]
  | some i=>
   simp only [sliceBounds,HT.sIx,getD_none,show (1:Int)>0 by decide,gL]
   by_cases h:i<0
   ·simp only [h,gL] <;> lia
   ·simp only [h,iW] <;> lia
 ·cases hi with
  | none=>simp [sliceBounds,HT.sIx]
  | some i=>
   simp only [sliceBounds,HT.sIx,getD_none,show (1:Int)>0 by decide,gL]
   by_cases h:i<0
   ·simp only [h,gL] <;> lia
   ·simp only [h,iW] <;> lia
theorem jFH (its:List Value)(lo hi:Option Int):slicePick its.toArray lo hi none=((its.drop (HT.sIx its.length 0 lo)).take (HT.sIx its.length its.length hi - HT.sIx its.length 0 lo)).toArray:=by
 obtain⟨h1,h2,h3⟩:=jGP lo hi its.toArray.size
 unfold slicePick
 rw[h1,h2,h3]
 simp only [sliceRange_one,pick_run,aj] <;> rfl
def rSlL (K:W.Frag):V->Option Int->Option Int->Hp->VK->Prop:=fun x lo hi H Q=>∃ a xs,x= .ref a/\SqL K H a xs/\∀ p,H p=none->Q (.ref p) (upd H p (.lst (cutV xs lo hi)))
theorem jFJ:SlR X (rSlL X.K):=by
 intro ad s σ H x v vl vu lo hi sl Q I rx hs pl pu h
 obtain⟨a,xs,rfl,hx,q⟩:=h
 cases rx
 obtain⟨its,r,ht,hz⟩:=I.list hx
 have hlen:=r.length
 refine⟨"list",_,slot_list_getitem.lookup,ht.isList.typeIs,?_⟩
 refine wpAny_getItem_list_slice ht.isList hs pl pu .none (by simp) ?_ (by rw[aj] <;> lia)
 rw[jFH,<- hlen]
 refine⟨.ref s.heap.objs.size,_,I.laid (t':=s.toks) (o:= .lst (cutV xs lo hi)) (fun b ob q=>af _ q) (ai _) ?_,rfl,q _ (I.hok.fresh (ai _))⟩
 exact⟨aQ (jEK xs lo hi) hz,_,0,(r.drop (HT.sIx xs.length 0 lo)).take (HT.sIx xs.length xs.length hi - HT.sIx xs.length 0 lo),am _ rfl⟩
def xE:V->Bool
 | .non=>true
 | .bl _=>true
 | .int _=>true
 | .str _=>true
 | _=>false
noncomputable def eqV:V->V->Bool
 | .non, .non=>true
 | .bl a, .bl b=>a==b
 | .bl a, .int b=>(if a then 1 else 0)==b
 | .int a, .bl b=>a==(if b then 1 else 0)
 | .int a, .int b=>a==b
 | .str a, .str b=>a==b
 | _,_=>false
theorem jRA {A:Around}{s:Shared}{y x:V}{u v:Value}(ry:RelV y u)(rx:RelV x v)(fy:xE y=true)(fx:xE x=true):SeqAt.EqAt A s u v (eqV y x):=by
 cases y with
 | non=>
  cases ry
  cases x with
  | non=>cases rx; exact SeqAt.EqAt.same _
  | bl b=>cases rx; exact SeqAt.EqAt.none_bool b
  | int b=>obtain⟨t,rfl⟩:=rx; exact SeqAt.EqAt.none_int b t
  | str b=>obtain⟨t,rfl⟩:=rx; exact SeqAt.EqAt.none_str b t
  | _=>exact absurd (show false=true from fx) ar
 | bl a=>
  cases ry
  cases x with
  | non=>cases rx; exact SeqAt.EqAt.bool_none a
  | bl b=>cases rx; exact SeqAt.EqAt.bool_bool a b
  | int b=>obtain⟨t,rfl⟩:=rx; exact SeqAt.EqAt.bool_int a b t
  | str b=>obtain⟨t,rfl⟩:=rx; exact SeqAt.EqAt.bool_str a b t
  | _=>exact absurd (show false=true from fx) ar
 | int a=>
  obtain⟨t',rfl⟩:=ry
  cases x with
  | non=>cases rx; exact SeqAt.EqAt.int_none a t'
  | bl b=>cases rx; exact SeqAt.EqAt.int_bool a t' b
  | int b=>obtain⟨t,rfl⟩:=rx; exact SeqAt.EqAt.int_int a t' b t
  | str b=>obtain⟨t,rfl⟩:=rx; exact SeqAt.EqAt.int_str a t' b t
  | _=>exact absurd (show false=true from fx) ar
 | str a=>
  obtain⟨t',rfl⟩:=ry
  cases x with
  | non=>cases rx; exact SeqAt.EqAt.str_none a t'
  | bl b=>cases rx; exact SeqAt.EqAt.str_bool a t' b
  | int b=>obtain⟨t,rfl⟩:=rx; exact SeqAt.EqAt.str_int a t' b t
  | str b=>obtain⟨t,rfl⟩:=rx; exact SeqAt.EqAt.str_str a t' b t
  | _=>exact absurd (show false=true from fx) ar
 | _=>exact absurd (show false=true from fy) ar
noncomputable def eqU (x:V)(u:Value):Bool:=match u with
 | .none=>eqV .non x
 | .bool b=>eqV (.bl b) x
 | .int i _=>eqV (.int i) x
 | .str z _=>eqV (.str z) x
 | _=>false
theorem jNY {x y:V}{u:Value}(r:RelV y u)(f:xE y=true):eqU x u=eqV y x:=by
 cases y with
 | non=>cases r; rfl
 | bl b=>cases r; rfl
 | int i=>obtain⟨t,rfl⟩:=r; rfl
 | str z=>obtain⟨t,rfl⟩:=r; rfl
 | _=>exact absurd (show false=true from f) ar
theorem jEM {x:V} :∀ {xs:List V}{us:List Value},Vals xs us->xs.all xE=true->us.any (eqU x)=xs.any fun y=>eqV y x
 | _,_, .nil,_=>rfl
 | y::xs,u::us, .cons r t,f=>by
  rw[fQ,bd] at f
  rw[List.any_cons,List.any_cons,jNY r f.1,jEM t f.2]
theorem jB6 {A:Around}{s:Shared}{x:V}{v:Value}(rx:RelV x v)(fx:xE x=true):∀ {xs:List V}{us:List Value},Vals xs us->xs.all xE=true->∀ u∈us,SeqAt.EqAt A s u v (eqU x u)
 | _,_, .nil,_=>fun u hu=>by cases hu
 | y::xs,u::us, .cons r t,f=>fun u' hu=>by
  rw[fQ,bd] at f
  rcases az.mp hu with rfl | hu
  ·rw[jNY r f.1]; exact jRA r rx f.1 fx
  ·exact jB6 rx fx t f.2 u' hu
def inV (x:V)(xs:List V):Bool:=xs.any fun y=>eqV y x
def rIn (K:W.Frag)(neg:Bool):R2:=fun x y H Q=>∃ p xs,y= .ref p/\(SqL K H p xs\/SqT K H p xs)/\xE x=true/\xs.all xE=true/\Q (.bl (if neg then !inV x xs else inV x xs)) H
theorem jBD:OpR X (compareOp .In) (rIn X.K false):=by
 intro ad s σ H x y v u Q I rx ry h
 obtain⟨p,xs,rfl,hq,fx,fs,q⟩:=h
 cases ry
 rcases hq with hq | hq
 ·obtain⟨its,r,pl,hz⟩:=I.list hq
  refine SeqAt.in_listAt (eqU x) pl.isList (fun w hw=>jB6 rx fx r fs w (by simpa using hw)) ⟨.bl _,H,I,rfl,?_⟩
  rw[show its.toArray.any (eqU x)=its.any (eqU x) by simp,jEM r fs]
  exact q
 ·obtain⟨its,r,pl,hz⟩:=I.tuple hq
  refine SeqAt.in_tupleAt (eqU x) pl (fun w hw=>jB6 rx fx r fs w (by simpa using hw)) ⟨.bl _,H,I,rfl,?_⟩
  rw[show its.toArray.any (eqU x)=its.any (eqU x) by simp,jEM r fs]
  exact q
theorem jAE:OpR X (compareOp .NotIn) (rIn X.K true):=by
 intro ad s σ H x y v u Q I rx ry h
 obtain⟨p,xs,rfl,hq,fx,fs,q⟩:=h
 cases ry
 rcases hq with hq | hq
 ·obtain⟨its,r,pl,hz⟩:=I.list hq
  refine SeqAt.notIn_listAt (eqU x) pl.isList (fun w hw=>jB6 rx fx r fs w (by simpa using hw)) ⟨.bl _,H,I,rfl,?_⟩
  rw[show its.toArray.any (eqU x)=its.any (eqU x) by simp,jEM r fs]
  exact q
 ·obtain⟨its,r,pl,hz⟩:=I.tuple hq
  refine SeqAt.notIn_tupleAt (eqU x) pl (fun w hw=>jB6 rx fx r fs w (by simpa using hw)) ⟨.bl _,H,I,rfl,?_⟩
  rw[show its.toArray.any (eqU x)=its.any (eqU x) by simp,jEM r fs]
  exact q
theorem jV:yO X (.builtin "len") (fun xs H Q=>∃ p ys,xs=[.ref p]/\(SqL X.K H p ys\/SqT X.K H p ys)/\Q (.int ys.length) H):=by
 intro ad s σ H xs us Q I r h
 obtain⟨p,ys,rfl,hq,q⟩:=h
 obtain⟨u,rfl,rx⟩:=vals1 r
 cases rx
 have hn:=jH5
 rcases hq with hq | hq
 ·obtain⟨its,r',pl,hz⟩:=I.list hq
  have hlen:=r'.length
  exact Calls.call_len_list pl.isList (by simp only [aj] <;> lia) ⟨.int ys.length,H,I.tok _,⟨s.toks+1,by rw[aj,hlen]⟩,q⟩
 ·obtain⟨its,r',pl,hz⟩:=I.tuple hq
  have hlen:=r'.length
  exact len_tuple pl (by simp only [aj] <;> lia) ⟨.int ys.length,H,I.tok _,⟨s.toks+1,by rw[aj,hlen]⟩,q⟩
theorem jHL:yO X (.type "list") (fun xs H Q=>∃ p ys,xs=[.ref p]/\(SqL X.K H p ys\/SqT X.K H p ys)/\∀ l,H l=none->Q (.ref l) (upd H l (.lst ys))):=by
 intro ad s σ H xs us Q I r h
 obtain⟨p,ys,rfl,hq,q⟩:=h
 obtain⟨u,rfl,rx⟩:=vals1 r
 cases rx
 have fin:∀ (its:List Value),Vals ys its->ys.length<=sizeLine->∀ (h':Heap) (c':Nat),(∀ b o',s.heap.get? b=some o'->h'.get? b=some o')->
   h'.get? s.heap.objs.size=some { cls:= .type "list",dict:=none,data:= .seq its.toArray c',slots:=#[]} ->EP X ad σ Q (.ref s.heap.objs.size) { s with heap:=h'} :=fun its r' hz h' c' kp e=>
  ⟨.ref s.heap.objs.size,_,I.laid (t':=s.toks) kp (ai _) (show ObjOk X.prog X.w _ h' _ (.lst ys) from ⟨hz,its,c',r',e⟩),rfl,q _ (I.hok.fresh (ai _))⟩
 rcases hq with hq | hq
 ·obtain⟨its,r',pl,hz⟩:=I.list hq
  have hlen:=r'.length
  obtain⟨o,ho,hc,n,hd⟩:=pl.isList
  exact call_list_seq p (.inl rfl) ho hc hd (fun h' c' kp e=>fin its r' hz h' c' kp e) (by simp only [aj] <;> lia)
 ·obtain⟨its,r',pl,hz⟩:=I.tuple hq
  have hlen:=r'.length
  obtain⟨o,ho,hc,n,hd⟩:=pl
  exact call_list_seq p (.inr rfl) ho hc hd (fun h' c' kp e=>fin its r' hz h' c' kp e) (by simp only [aj] <;> lia)
theorem jO:yO X (.type "tuple") (fun xs H Q=>∃ p ys,xs=[.ref p]/\((SqL X.K H p ys/\∀ l,H l=none->Q (.ref l) (upd H l (.tup ys)))\/(SqT X.K H p ys/\Q (.ref p) H))):=by
 intro ad s σ H xs us Q I r h
 obtain⟨p,ys,rfl,h⟩:=h
 obtain⟨u,rfl,rx⟩:=vals1 r
 cases rx
 rcases h with ⟨hq,q⟩ | ⟨hq,q⟩
 ·obtain⟨its,r',pl,hz⟩:=I.list hq
  have hlen:=r'.length
  refine call_tuple_list pl.isList (fun h' kp=>?_) (by simp only [aj] <;> lia)
  have I1:Inv X ad σ H { s with heap:=h'} :=I.kept (t':=s.toks) kp
  have I2:Inv X ad σ (upd H h'.objs.size (.tup ys)) { s with heap:=h'.push { cls:= .type "tuple",data:= .seq its.toArray}} :=
   I1.laid (t':=s.toks) (fun b o e=>af _ e) (ai _) (show ObjOk X.prog X.w _ _ _ (.tup ys) from ⟨hz,its,r',TupO.new _ _⟩)
  exact⟨.ref h'.objs.size,_,I2,rfl,q _ (I1.hok.fresh (ai _))⟩
 ·obtain⟨its,r',pl,hz⟩:=I.tuple hq
  exact call_tuple_same pl ⟨.ref p,H,I,rfl,q⟩
def tyV (K:W.Frag)(T:String)(x:V)(H:Hp):Prop:=match x with
 | .str _=>T= "str"
 | .int _=>T= "int"
 | .ref p=>(T= "list" /\∃ xs,SqL K H p xs)\/(T= "tuple" /\∃ o,K.lookup p=some o/\o.cls= .type "tuple" /\o.dict=none)\/
   (T= "dict" /\((∃ iY,H p=some (.dK iY))\/∃ iY,H p=some (.dT iY)))\/(T= "set" /\∃ S n,H p=some (.set S n))
 | _=>False
theorem jQR {ad:List (Addr×Obj)}{σ:St}{H:Hp}{s:Shared}{T:String}{x:V}{v:Value}(I:Inv X ad σ H s)(r:RelV x v)(ty:tyV X.K T x H):
  s.TypeIs v T/\∀ a,v= .ref a->∃ ob,s.heap.get? a=some ob/\ob.dict=none:=by
 cases x with
 | str z=>
  obtain⟨t,rfl⟩:=r
  cases (show T= "str" from ty)
  exact⟨typeIs_str s z t,fun _ e=>nomatch e⟩
 | int i=>
  obtain⟨t,rfl⟩:=r
  cases (show T= "int" from ty)
  exact⟨typeIs_int s i t,fun _ e=>nomatch e⟩
 | ref p=>
  cases r
  rcases ty with ⟨rfl,xs,hq⟩ | ⟨rfl,o,hk,hc,hd⟩ | ⟨rfl,hk⟩ | ⟨rfl,S,n,hk⟩
  ·obtain⟨its,_,pl,_⟩:=I.list hq
   refine⟨pl.isList.typeIs,fun a e=>?_⟩
   cases e
   obtain⟨o,n,e,c,hd,_⟩:=pl
   exact⟨o,e,hd⟩
  ·refine⟨⟨o,I.kIn p o hk,hc⟩,fun a e=>?_⟩
   cases e
   exact⟨o,I.kIn _ o hk,hd⟩
  ·have z:∃ o,s.heap.get? p=some o/\o.ExactDict:=by
    rcases hk with ⟨iY,hk⟩ | ⟨iY,hk⟩
    ·obtain⟨_,_,_,_,o,_,_,e,ex,_⟩:=I.hok p _ hk
     exact⟨o,e,ex⟩
    ·obtain⟨_,_,_,_,o,_,_,e,ex,_⟩:=I.hok p _ hk
     exact⟨o,e,ex⟩
   obtain⟨o,e,ex⟩:=z
   refine⟨⟨o,e,ex.1⟩,fun a e2=>?_⟩
   cases e2
   exact⟨o,e,ex.2.1⟩
  ·obtain⟨o,_,_,_,e,ex,_⟩:=I.hok p _ hk
   refine⟨⟨o,e,ex.1⟩,fun a e2=>?_⟩
   cases e2
   exact⟨o,e,ex.2.1⟩
 | _=>exact False.elim ty
def tBM (K:W.Frag)(T:String)(r:V->List V->Hp->VK->Prop)(to:TE)(t:TA):TE:=fun σ H Q=>to σ H fun x H1=>tyV K T x H1/\t σ H1 fun xs H2=>r x xs H2 Q
variable {o:Expr}{es:List Expr}{to:TE}{t:TA}{name:Str}{apos cpos:Pos}{T id:String}{r:V->List V->Hp->VK->Prop}
theorem pe_bm (pa:PlainAttrs T)(slot:Slot T name id)(hty:typeOf (.builtin id)=pure (.type "method_descriptor"))(hm:MtR X id r)(ho:PE X o to)(ha:PA X (e::es) t)
  (hbase:attributeBase o name X.env (eval o X.env)=eval o X.env:=by rfl)
  (hfew:((backTo cpos (starEach (e::es) X.env)).all (fun x=>!x.1)&&(backToKw cpos (keywordEach [] X.env)).all (fun x=>x.1.isSome)
   &&decide ((e::es).length+([]:List Keyword).length+(if ([]:List Keyword).isEmpty then 0 else 1)<30))=true:=by rfl)
  (hline:(apos.endLine==cpos.line)=true:=by rfl) (hs:starEach (e::es) X.env=(false,eval e X.env)::starEach es X.env:=by rfl) (hplain:(backTo cpos (starEach es X.env)).any (·.1)=false:=by rfl):
  PE X (.Call (.Attribute o name apos) (e::es) [] cpos) (tBM X.K T r to t):=by
 intro ad s σ H Q I h
 refine eU hbase hfew hline rfl (iZ (ho ad s σ H _ I h) fun v s1 ⟨x,H1,I1,r1,ty,q1⟩=>?_)
 obtain⟨h1,h2⟩:=jQR I1 r1 ty
 refine⟨T,id,pa,slot,hty,h1,h2,?_⟩
 have hA:=ha cpos ad s1 σ H1 _ I1 q1
 rw[hs] at hA ⊢
 refine eV (by show (false || (backTo cpos (starEach es X.env)).any (·.1))=false; rw[hplain] <;> rfl) (cI ?_)
 exact iZ hA fun us s2 ⟨vs,H2,I2,r2,q2⟩=>hm ad s2 σ H2 x vs v us Q I2 r1 r2 q2
/- xs.append(e),list.index on a module's tuple .. are MtR facts of 06m -/
end
def MtM (X:Cx)(id:String)(r:V->List V->Hp->VK->Prop):Prop:=
 ∀ (ad:List (Addr×Obj)) (s:Shared) (σ:St) (H:Hp) (x:V) (xs:List V) (v:Value) (us:List Value) (Q:VK),Inv X ad σ H s->RelV x v->Vals xs us->r x xs H Q->
  wpAny (model X.prog X.w) X.A (call (.builtin id) (v::us)) (EP X ad σ Q) X.xe s
theorem Vals.one:∀ {x:V}{us:List Value},Vals [x] us->∃ u,us=[u]/\RelV x u
 | _,_, .cons r .nil=>⟨_,rfl,r⟩
theorem Vals.two:∀ {x y:V}{us:List Value},Vals [x,y] us->∃ u v,us=[u,v]/\RelV x u/\RelV y v
 | _,_,_, .cons r (.cons q .nil)=>⟨_,_,rfl,r,q⟩
theorem Vals.zero:∀ {us:List Value},Vals [] us->us=[]
 | _, .nil=>rfl
theorem Vals.reverse {xs:List V}{us:List Value}(h:Vals xs us):Vals xs.reverse us.reverse:=by
 induction h with
 | nil=>exact .nil
 | cons r t ih=>rw[eW,eW]; exact Vals.append ih (.cons r .nil)
variable {s:Shared}
section
variable {ad:List (Addr×Obj)}{σ:St}{H:Hp}{l b:Addr}{xs ys zs:List V}
theorem Inv.lset {its its':List Value}{n:Nat}{f:Array Value->Array Value}{t':Nat}(I:Inv X ad σ H s)(hH:H l=some (.lst xs))
  (e:s.heap.get? l=some { cls:= .type "list",data:= .seq its.toArray n}) (hf:f its.toArray=its'.toArray) (hv:Vals ys its') (hz:ys.length<=sizeLine):
  Inv X ad σ (upd H l (.lst ys)) { s with heap:=s.heap.update l (Obj.mapSeq f),toks:=t'} :=by
 have q:=PySem.IsL.update e f
 rw[hf] at q
 refine I.write (x:=l) (e:=l) (by rw[hH]; exact trivial) (.inl rfl) (fun b' u hb hu=>(bF s.heap (Obj.mapSeq f) (cS hb)).trans hu) ⟨_,q⟩ ?_
 exact⟨hz,its',_,hv,q⟩
theorem Inv.lnew {its:List Value}{t':Nat}(I:Inv X ad σ H s)(hv:Vals ys its)(hz:ys.length<=sizeLine):
  Inv X ad σ (upd H s.heap.objs.size (.lst ys)) { s with heap:=s.heap.push { cls:= .type "list",data:= .seq its.toArray},toks:=t'} :=
 I.laid (fun _ _ q=>af _ q) (ai _) ⟨hz,its,0,hv,am _ rfl⟩
theorem Inv.fresh (I:Inv X ad σ H s):H s.heap.objs.size=none:=I.hok.fresh (ai _)
theorem Inv.lstM (I:Inv X ad σ H s)(hH:H l=some (.lst xs)):xs.length<=sizeLine/\∃ (its:List Value) (n:Nat),Vals xs its/\xs.length=its.length/\s.heap.get? l=some { cls:= .type "list",data:= .seq its.toArray n} :=by
 obtain⟨z,its,n,r,e⟩:=I.hok l _ hH
 exact⟨z,its,n,r,r.length,e⟩
theorem jPR {n:Nat}(h:n<=sizeLine):Builtin.List.listTooLong n=false:=by
 unfold Builtin.List.listTooLong
 exact aN (by lia)
end
def jRX:V->List V->Hp->VK->Prop:=fun x vs H Q=>∃ l xs y,x= .ref l/\vs=[y]/\H l=some (.lst xs)/\xs.length<sizeLine/\Q .non (upd H l (.lst (xs++[y])))
theorem yW:MtM X "list.append" jRX:=by
 intro ad s σ H x vs v us Q I rx rv h
 obtain⟨l,xs,y,rfl,rfl,hH,hz,q⟩:=h
 cases rx
 obtain⟨u,rfl,ru⟩:=rv.one
 obtain⟨z,its,n,r,hl,e⟩:=I.lstM hH
 refine gC F.slot_list_append ⟨_,e,rfl⟩ F.entry_list_append (F.args_list_append_2 _ _) (PySem.list_append l its.toArray n u (by rw[aj]; lia)) ⟨e,?_⟩
 refine⟨.non,_,I.lset (its':=its++[u]) hH e (by simp) (r.append (.cons ru .nil)) ?_,rfl,q⟩
 rw[aE,List.length_singleton]
 lia
def rCat:R2:=fun x y H Q=>∃ l b xs zs,x= .ref l/\y= .ref b/\H l=some (.lst xs)/\H b=some (.lst zs)/\xs.length+zs.length<=sizeLine/\∀ p,H p=none->Q (.ref p) (upd H p (.lst (xs++zs)))
theorem jUE:OpR X (binaryOp .Add) rCat:=by
 intro ad s σ H x y v u Q I rx ry h
 obtain⟨l,b,xs,zs,rfl,rfl,hH,hB,hz,q⟩:=h
 cases rx
 cases ry
 obtain⟨z,its,n,r,hl,e⟩:=I.lstM hH
 obtain⟨z2,its2,n2,r2,hl2,e2⟩:=I.lstM hB
 refine PySem.P.add_list e e2 ?_ (by rw[aj,aj]; lia)
 have ea:its.toArray++its2.toArray=(its++its2).toArray:=by simp
 rw[ea]
 exact⟨.ref _,_,I.lnew (t':=s.toks) (r.append r2) (by rw[aE]; lia),rfl,q _ I.fresh⟩
section
variable {prog:Program}{w:World}{A:Around}{E:Value->Shared->Prop}
set_option maxRecDepth 100000 in
end
end L2
namespace Att
open PySem PySem.W PySem.Calls PyProof.Rows
theorem jEC {P:Params}{h:Heap} :∀ (ns:List Int) (vs:List Value),WellAll P h vs (ns.map WData.int)->IntsAre vs ns:=by
 intro ns
 induction ns with
 | nil=>
  intro vs w
  rw[eX] at w
  cases w
  exact .nil
 | cons n ns ih=>
  intro vs w
  rw[bA] at w
  cases w with
  | cons a b=>
   cases a
   exact .cons _ _ (ih _ b)
theorem jLW {l:OpenLaw}{n:Nat}(hn:l.most=some n){P:Params}{h:Heap}{args:List WData}{vals:List Value}
  (hpre:l.row.toRowW.claim.pre args=true) (hwl:WellAll P h vals args):
  ∃ a vs ns,vals=[Value.ref a]/\args=[WData.list (ns.map WData.int)]/\h.get? a=some { cls:= .type "list",data:= .seq vs.toArray} /\IntsAre vs ns/\ns.length<=n:=by
 have hsh:WShape.hasAll [] args [.list .int]=true:=(pre_splitW hpre).1
 have hc:l.pre.holds [] { args:=args} =true:=(pre_splitW hpre).2
 obtain⟨d,r,rfl,h1,h2⟩:=hasAllW_cons hsh
 obtain rfl:=hasAllW_nil h2
 obtain⟨xs,rfl,h3⟩:=hasW_list h1
 obtain⟨ns,rfl⟩:=items_int h3
 have hlen:ns.length<=n:=by
  unfold OpenLaw.pre at hc
  have h4:(WTm.not (.lt (.lit (.int (n:Int))) (.len (.arg 0)))).holds [] { args:=[.list (ns.map .int)]} =true:=by
   have h4:=(holds_andW hc).1
   rw[hn] at h4
   exact h4
  have h5:=condW_of h4 (w_not (w_lt w_lit (w_len_list (w_arg rfl))))
  rw[ac] at h5
  refine Nat.le_of_not_lt fun q=>?_
  have q':(n:Int)<((ns.length:Nat):Int):=by lia
  first
   | (rw[ao q'] at h5; exact absurd h5 (by decide))
   | (simp at h5; lia)
 cases hwl with
 | cons w1 w2=>
  cases w2
  cases w1 with
  | list ho hall=>exact⟨_,_,ns,rfl,rfl,ho,jEC ns _ hall,hlen⟩
theorem jM5 (l:OpenLaw)(args:List WData):l.row.toRowW.claim.post args (.bool true) args=true:=
 postW_of (r:=l.row.toRowW) (X:=(true==true))
  (show WShape.has [] (.bool true) .bool=true by first | rfl | decide | simp [WShape.has,WShape.arms,WShape.armsAll])
  (show (WTm.eq .res (.lit (.bool true))).value [] { args:=args,res:=some (.bool true),after:=args} =some (.bool (true==true)) from w_eq_bool (w_res rfl) w_lit) rfl
theorem attach_call {l:OpenLaw}{n:Nat}{q:Program}{loose:List Str}{XP:(Str->Option Value)->Heap->Prop}{YP:World->Heap->Prop}{d:DefRec}
  (hn:l.most=some n) (hdf:d.params.defaults=[])
  (call:∀ (w:World) (s₀ s₁:Shared) (mg mb:Str->Option Value) (fa:Addr) (o:Obj) (pm cd doc:Value) (a:Addr) (vs:List Value) (ns:List Int),
   Ground q loose [] XP w s₀ mg mb s₁.heap->YP w s₁.heap->
   s₁.heap.get? fa=some o->o.data= .func (docDef d.name d.params d.body d.scope pm cd doc)->s₁.heap.CodeRec cd d.name->mg d.name=some (.ref fa)->
   s₁.heap.get? a=some { cls:= .type "list",data:= .seq vs.toArray} ->IntsAre vs ns->ns.length<=n->s₁.gens=#[]->
   codeAny (model l.prog w) callerA (.call (.ref fa) ⟨[.ref a],[]⟩) (fun r s'=>r= .ok (.ret (.bool true))/\OldK s₁.heap s'.heap/\s'.os=s₁.os/\AllBare s'.gens) s₁):
  WalkO q loose XP YP l.row.toRowW d [] (fun f vs=>PySem.call f vs):=by
 intro w s₀ s₁ mg mb G Y fa o pm cd doc dV kV ho hd hcd hD hmg hg args vals as hpre hlay hrd hwl hlo
 obtain rfl:dV= .none:=Dflts.none hD hdf
 obtain rfl:kV= .none:=Dflts.noKw hD
 obtain⟨a,vs,ns,rfl,rfl,hobj,hints,hlen⟩:=jLW hn hpre hwl
 refine enter_call (dF (call w s₀ s₁ mg mb fa o pm cd doc a vs ns G Y ho (fd_plain hd) hcd hmg hobj hints hlen hg) fun r s' hq=>?_)
 obtain⟨rfl,h2,h3,h4⟩:=hq
 exact⟨.inl ⟨.bool true, .bool true,[],rfl,fun _=>rfl, .bool true,jM5 l _,fun _=>⟨List.Pairwise.nil,fun _ hm=>(nomatch hm)⟩⟩,h2,h3,h4⟩
section
variable {prog:Program}{w:World}{A:Around}{E:Value->Shared->Prop}{s:Shared}{K:Frag}
end
end Att
namespace L2
open PySem PySem.Spec PyProof.Rows
theorem jGH:∀ {vs:List Value}{ns:List Int},IntsAre vs ns->Vals (ns.map V.int) vs
 | _,_, .nil=> .nil
 | _,_, .cons n t h=> .cons ⟨t,rfl⟩ (jGH h)
end L2
/- THE LAST THEOREM (shape; LID,My.* are yours):
  My.Adr:a structure of the addresses that your layer names (classes,functions); My.Txt K t:a structure (Prop) of the equations over K;
  My.txt_mk: {K} {implicit addresses ..} (e1:nsIn K mainGlobals "law" =some (some (.ref f))) (e2:K.lookup f=some ⟨oc,od, .func (fnOf "law" "law" params body scope dV kV doc pm an dl ct),sl⟩) (e3:codeIn K dl "law" =true) .. :∃ t,My.Txt K t
set_option maxRecDepth 100000 in
set_option maxHeartbeats 0 in
theorem PySem.Challenge.cw_LID_holds : PySem.Challenge.rw_LID.Holds := by
 w_on; o_law; k_head; (case hw=>w_witness2)
 k_fill
 refine L2.walk_of (l:=PySem.Challenge.rw_LID) (n:=63) (k:=40) (x:= "script") (CX:=fun w=> ..) (sp:=fun _=>My.sp_law) rfl (by decide) rfl ⟨rfl,by decide,by decide⟩ (fun w h Y=>PySem.W.kIn_of Y) ?F ?S ?C
 case F=>
  intro w mg fa h KX G hmg
  have T:∃ t,My.Txt (L2.KOf KX) t:=by
   dsimp only [L2.KOf] -- K must stand as «<heap const>w.params» for k_is
   refine' My.txt_mk ?e1 ?e2 ?e3 ..
   (case e1=>PySem.W.k_is) -- in the order:a name->its address->its object->its parts
   (case e2=>PySem.W.k_is)
   ..
  obtain⟨t,T⟩:=T
  have e0:=hmg.symm.trans (fX KX G T.law)
  cases e0 -- fa is the law's own address
  exact⟨_,fun s u=> .of_eq rfl,fun base kb nb=>My.law_fn T kb nb⟩ -- if «.of_eq rfl» comes too early:refine' ⟨_,?b,fun base kb nb=>My.law_fn T kb nb⟩; exact fun s u=> .of_eq rfl
 case S=>exact fun w H a ns hl hO hS=> ..
 case C=>exact ..
(the tactic k_is has no namespace:write k_is) -/
namespace L2
open PySem PySem.Spec PyProof.Rows
abbrev CX0:CXT:=fun _ _ _ _ _ _=>False
abbrev E0:XK:=fun _ _ _=>False
theorem pass0 {X:Cx} :jOR CX0 X E0:=fun _ _ _ _ _ _ _ h=>h.elim
structure Fun (K:W.Frag)(x qual:Str)(st:Stmt)(f:Addr)(fd:FuncData):Prop where
 ex:∃ (oc:Value) (od:Option Addr) (kV doc pm:Value) (an:Option Addr) (dl ct:Value) (osl:Array (Option Value)),
  fd=PySem.W.fnOf x qual (qD st) (jN st) (jA st) .none kV doc pm an dl ct/\K.lookup f=some ⟨oc,od, .func fd,osl⟩/\PySem.W.codeIn K dl qual=true
 kp:keepIn K (.ref f)=true
variable {w:World}
section
variable {P:Program}{K:W.Frag}{mg:Str->Option Value}{base:Heap}
theorem Fun.ok {x qual:Str}{st:Stmt}{f:Addr}{fd:FuncData}{N ps:List Str}{k:Nat}{sp:Sp}(F:Fun K x qual st f fd)(S:FnScope N ps (jA st))(len:∀ vs H Q E,sp vs H Q E->vs.length=ps.length)
  (hbody:∀ (dl:Value) (A:Around) (outer:List Env) (s:Shared) (H:Hp) (vs:List V) (Q:VK) (E:XK),Room k (A.deeper (envOfC qual (jA st) s.heap.objs.size f dl))->sp vs H Q E->
   ∃ t,PSs (cxOf CX0 P w K mg base N qual (jA st) f dl A outer s H E).nox (jN st) t/\t { nx:=fun _ H'=>Q .non H',rt:=Q} (yT N vs) H):FnOk P w K mg base CX0 (k+1) f fd ps sp:=by
 obtain⟨oc,od,kV,doc,pm,an,dl,ct,osl,rfl,lk,hcd⟩:=F.ex
 refine fn_of lk hcd S len fun A outer s H vs Q E hr hsp=>?_
 obtain⟨t,h,q⟩:=hbody dl A outer s H vs Q E hr hsp
 exact⟨t,h.nox,q⟩
theorem Fun.binds {x qual:Str}{st:Stmt}{f:Addr}{fd:FuncData}{ps:List Str}(F:Fun K x qual st f fd)
  (h:∀ (kV doc pm:Value) (an:Option Addr) (dl ct:Value) (us:List Value),us.length=ps.length->bindArgs (PySem.W.fnOf x qual (qD st) (jN st) (jA st) .none kV doc pm an dl ct) ⟨us,[]⟩=pure (ps.zip us)):Binds K fd ps []:=by
 obtain⟨oc,od,kV,doc,pm,an,dl,ct,osl,rfl,lk,hcd⟩:=F.ex
 exact .all (h kV doc pm an dl ct)
theorem kS {x qual:Str}{st:Stmt}{f:Addr}{oc:Value}{od an:Option Addr}{osl:Array (Option Value)}{kV doc pm dl ct:Value}(l:K.lookup f=some ⟨oc,od, .func (PySem.W.fnOf x qual (qD st) (jN st) (jA st) .none kV doc pm an dl ct),osl⟩)
  (c:PySem.W.codeIn K dl qual=true) (k:keepIn K (.ref f)=true):Fun K x qual st f (PySem.W.fnOf x qual (qD st) (jN st) (jA st) .none kV doc pm an dl ct):=⟨⟨oc,od,kV,doc,pm,an,dl,ct,osl,rfl,l,c⟩,k⟩
end
theorem hu_of {A:Around}{k:Nat}(hr:Room k A):A.units+1<cLine:=Nat.lt_of_le_of_lt (Nat.add_le_add_left (by decide:1<=64) _) hr.units
variable {X:Cx}
theorem pv (i:Nat){x:Str}{pos:Pos}(hN:X.N[i]?=some x:=by rfl)(hv:Vis X.env.scope x:=by first | exact Or.inl rfl | exact Or.inr (Or.inl rfl) | exact Or.inr (Or.inr rfl))(hd:(x==("__debug__" :Str))=false:=by decide)
  (hcd:(x==("__classdict__" :Str))=false:=by decide):PE X (.Name x pos) (tVar i):=jJA hN hv hd hcd
theorem iteF {A B:Prop}(h:B):if false=true then A else B:=by
 rw[aF ar]
 exact h
theorem iteT {A B:Prop}(h:A):if true=true then A else B:=by
 rw[aD rfl]
 exact h
theorem ite2 {c A B:Prop} [Decidable c](h1:c->A)(h2:¬ c->B):if c then A else B:=by
 by_cases h:c
 ·rw[aD h]
  exact h1 h
 ·rw[aF h]
  exact h2 h
def kG (cells:List (Str×Addr)):List (Str×NameKind)->List (Str×Addr)->List (Str×Addr)
 | [],acc=>acc
 | (n,k)::r,acc=>if k= .free then kG cells r ((n,(cells.lookup n).getD 0)::acc) else kG cells r acc
theorem jCX {env:Env} :∀ (l:List (Str×NameKind)) (acc:List (Str×Addr)),(∀ y∈l,y.2= .free->∃ c,env.cells.lookup y.1=some c)->
  (forIn l acc fun (x:Str×NameKind) (cs:List (Str×Addr))=>(if (x.2==NameKind.free)=true then (do let a <- cellOf env x.1; pure (ForInStep.yield ((x.1,a)::cs))) else pure (ForInStep.yield cs):Sem (ForInStep (List (Str×Addr)))))=pure (kG env.cells l acc)
 | [],acc,_=>rfl
 | (n,k)::r,acc,h=>by
  have hr:∀ y∈r,y.2= .free->∃ c,env.cells.lookup y.1=some c:=fun y hy=>h y (aA _ hy)
  rw[List.forIn_cons]
  by_cases hk:k= .free
  ·subst hk
   obtain⟨c,hc⟩:=h (n, .free) aw rfl
   have e:cellOf env n=pure c:=by unfold cellOf; rw[hc]
   have e2:kG env.cells ((n,NameKind.free)::r) acc=kG env.cells r ((n,c)::acc):=by
    show (if NameKind.free=NameKind.free then kG env.cells r ((n,(env.cells.lookup n).getD 0)::acc) else _)=_
    rw[aD rfl,hc]; rfl
   rw[e2,<- jCX r ((n,c)::acc) hr]
   show ((do let a <- cellOf env n; pure (ForInStep.yield ((n,a)::acc))) >>= _)=_
   rw[e]; rfl
  ·have hb:(k==NameKind.free)=false:=by cases k <;> first | rfl | exact absurd rfl hk
   have e2:kG env.cells ((n,k)::r) acc=kG env.cells r acc:=by
    show (if k=NameKind.free then _ else kG env.cells r acc)=_
    rw[aF hk]
   rw[e2,<- jCX r acc hr]
   show ((if (k==NameKind.free)=true then _ else pure (ForInStep.yield acc)) >>= _)=_
   rw[hb]; rfl
theorem jGC {env:Env}{sc:Scope}(h:∀ y∈sc.names,y.2= .free->∃ c,env.cells.lookup y.1=some c):closureFor sc env=pure (kG env.cells sc.names []):=by
 unfold closureFor
 show (forIn sc.names [] _ >>= fun cs=>pure cs)=_
 rw[show (forIn sc.names ([]:List (Str×Addr)) _:Sem _)=_ from jCX sc.names [] h]
 rfl
theorem jA8 {cells:List (Str×Addr)} :∀ (l:List (Str×NameKind)) (acc:List (Str×Addr)),(∀ y∈l,y.2= .free->∃ c,cells.lookup y.1=some c)->
  (∀ x c,acc.lookup x=some c->cells.lookup x=some c)->∀ x c,(kG cells l acc).lookup x=some c->cells.lookup x=some c
 | [],acc,_,ha=>ha
 | (n,k)::r,acc,h,ha=>by
  have hr:∀ y∈r,y.2= .free->∃ c,cells.lookup y.1=some c:=fun y hy=>h y (aA _ hy)
  unfold kG
  by_cases hk:k= .free
  ·rw[aD hk]
   obtain⟨c0,hc⟩:=h (n,k) aw hk
   refine jA8 r _ hr fun x c e=>?_
   rw[aM] at e
   cases hx:x==n with
   | true=>
    rw[hx] at e
    have exn:x=n:=eq_of_beq hx
    subst exn
    have hc':cells.lookup x=some c0:=hc
    rw[hc'] at e ⊢
    exact e
   | false=>rw[hx] at e; exact ha x c e
  ·rw[aF hk]; exact jA8 r acc hr ha
theorem jA9 {cells:List (Str×Addr)}{x:Str} :∀ (l:List (Str×NameKind)) (acc:List (Str×Addr)),((x,NameKind.free)∈l\/∃ c,acc.lookup x=some c)->∃ c,(kG cells l acc).lookup x=some c
 | [],acc,h=>by
  rcases h with h | h
  ·cases h
  ·exact h
 | (n,k)::r,acc,h=>by
  unfold kG
  by_cases hk:k= .free
  ·rw[aD hk]
   refine jA9 r _ ?_
   by_cases e:x=n
   ·subst e
    exact .inr ⟨_,by rw[aM,dR]⟩
   ·rcases h with h | ⟨c,h⟩
    ·rcases az.mp h with q | q
     ·cases q; exact absurd rfl e
     ·exact .inl q
    ·refine .inr ⟨c,?_⟩
     rw[aM,bY.mpr e]
     exact h
  ·rw[aF hk]
   refine jA9 r _ ?_
   rcases h with h | h
   ·rcases az.mp h with q | q
    ·cases q; exact absurd rfl hk
    ·exact .inl q
   ·exact .inr h
theorem jA4 {x:Str}{k:NameKind} :∀ {l:List (Str×NameKind)},l.lookup x=some k->(x,k)∈l
 | [],h=>by cases h
 | (n,k')::r,h=>by
  rw[aM] at h
  cases hx:x==n with
  | true=>rw[hx] at h; cases h; rw[eq_of_beq hx]; exact aw
  | false=>rw[hx] at h; exact aA _ (jA4 h)
theorem jCL {env:Env}{x:Str}{k:NameKind}(hk:k= .cell\/k= .free):∀ {l:List (Str×NameKind)},(∀ y∈l,y.2≠ .cell)->
  (l.map fun (n,k)=>if (k==NameKind.free&&env.scope.kind== .function&&env.kindOf n==some .cell) then (n,NameKind.cell) else (n,k)).lookup x=some k->l.lookup x=some .free
 | [],_,h=>by simp at h
 | (n,k')::r,hc,h=>by
  have ih:= @jCL env x k hk r (fun y hy=>hc y (aA _ hy))
  have hc0:k'≠ .cell:=hc (n,k') aw
  rw[aM]
  rw[bA] at h
  dsimp only at h
  by_cases hb:(k'==NameKind.free&&env.scope.kind== .function&&env.kindOf n==some .cell)=true
  ·rw[aD hb,aM] at h
   cases hx:x==n with
   | true=>
    have:k'= .free:=by
     simp only [bd] at hb
     exact eq_of_beq hb.1.1
    rw[this]
   | false=>rw[hx] at h; exact ih h
  ·rw[aF hb,aM] at h
   cases hx:x==n with
   | true=>
    rw[hx] at h
    have e:k'=k:=be h
    rcases hk with q | q
    ·exact absurd (e.trans q) hc0
    ·rw[e,q]
   | false=>rw[hx] at h; exact ih h
theorem jA7 {env:Env}{x:Str} :∀ {l:List (Str×NameKind)},l.lookup x=some .free->
  (l.map fun (n,k)=>if (k==NameKind.free&&env.scope.kind== .function&&env.kindOf n==some .cell) then (n,NameKind.cell) else (n,k)).lookup x=some .cell\/
  (l.map fun (n,k)=>if (k==NameKind.free&&env.scope.kind== .function&&env.kindOf n==some .cell) then (n,NameKind.cell) else (n,k)).lookup x=some .free
 | [],h=>by cases h
 | (n,k')::r,h=>by
  have ih:= @jA7 env x r
  rw[aM] at h
  rw[bA]
  dsimp only
  by_cases hb:(k'==NameKind.free&&env.scope.kind== .function&&env.kindOf n==some .cell)=true
  ·rw[aD hb,aM]
   cases hx:x==n with
   | true=>exact .inl rfl
   | false=>rw[hx] at h; exact ih h
  ·rw[aF hb,aM]
   cases hx:x==n with
   | true=>rw[hx] at h; exact .inr h
   | false=>rw[hx] at h; exact ih h
section
variable {prog:Program}{A:Around}{R:Result->Shared->Prop}{s:Shared}
abbrev jLO (ifs:List Expr)(env:Env):Sem Bool:=forIn ifs true fun c r=>if r=true then do let ok <- isTrue c env (eval c env); pure (ForInStep.yield ok) else pure (ForInStep.yield r)
theorem jCW {elt tg iter:Expr}{ifs:List Expr}{sc:Scope}{pos:Pos}{it acc:Value}{env:Env}(J:Nat->Shared->Prop)
  (turn:∀ n z,J n z->wpAny (model prog w) A (pyNext it) (fun r z1=>match r with
   | none=>R (.ok .next) z1
   | some v=>wpAny (model prog w) A (letOwnedTupleGo tg it v) (fun _ z2=>wpAny (model prog w) A (assign tg env v) (fun _ z3=>wpAny (model prog w) A (jLO ifs env) (fun ok z4=>
     if ok=true then wpAny (model prog w) A (eval elt env) (fun x z5=>wpAny (model prog w) A (call (.builtin "list.append") [acc,x]) (fun _ z6=>∃ k,k<n/\J k z6) (fun _ _=>False) z5) (fun _ _=>False) z4
     else ∃ k,k<n/\J k z4) (fun _ _=>False) z3) (fun _ _=>False) z2) (fun _ _=>False) z1) (fun _ _=>False) z)
  (n:Nat) (h:J n s):codeAny (model prog w) A (.compLoop (.ListComp elt [⟨tg,iter,ifs,0⟩] sc pos) 0 it acc env) R s:=by
 refine codeAny_loop rfl J (fun k z hJ=>?_) n h
 have noE:∀ {α:Type}{t:Sem α}{Q:α->Shared->Prop}{E:Value->Shared->Prop}{z:Shared},wpAny (model prog w) A t Q (fun _ _=>False) z->wpAny (model prog w) A t Q E z:=
  fun q=>bC q (fun _ _ a=>a) fun _ _ f=>f.elim
 show wpAny _ A ((compTurn (.ListComp elt [⟨tg,iter,ifs,0⟩] sc pos) 0 it acc env).onRaise (fun x=>do noteFrame x env; theTreesLotGoes x)) _ _ z
 refine wpAny_noted ?_
 rw[compTurn_list]
 refine ae (eh (ae (bC (turn k z hJ) (fun r z1 q1=>?_) fun _ _ f=>f.elim)))
 cases r with
 | none=>exact ag q1
 | some v=>
  refine ae (bC q1 (fun _ z2 q2=>?_) fun _ _ f=>f.elim)
  refine ae (bC q2 (fun _ z3 q3=>?_) fun _ _ f=>f.elim)
  refine ae (bC q3 (fun ok z4 q4=>?_) fun _ _ f=>f.elim)
  cases ok with
  | false=>exact ag ⟨rfl,q4⟩
  | true=>
   refine ae (ae (bC q4 (fun x z5 q5=>?_) fun _ _ f=>f.elim))
   exact ae (bC q5 (fun _ z6 q6=>ag (ag ⟨rfl,q6⟩)) fun _ _ f=>f.elim)
end
noncomputable def blk (X:Cx)(sc:Scope)(cl:List (Str×Addr))(C:Addr)(Nc:List Str)(fp:List Addr)(s:Shared)(H:Hp):Cx where
 prog:=X.prog
 w:=X.w
 K:=X.K
 mg:=X.mg
 base:=X.base
 A:=X.A
 N:=Nc
 s₀:=s
 H₀:=H
 env:=compEnvC sc cl C X.env
 outer:=X.stack
 stack:=X.stack
 ex:=fp
 fn:=fun _=>false
 calm:=X.calm
 pn:=[]
 xe:=fun _ _=>False
def blkσ (m:List (Option Nat))(σ:St):St:=m.map fun o=>match o with
 | none=>none
 | some i=>(σ[i]?).getD none
def PTs (X:Cx)(ifs:List Expr)(t:TT):Prop:=
 ∀ (ad:List (Addr×Obj)) (s:Shared) (σ:St) (H:Hp) (Q:Bool->Hp->Prop),Inv X ad σ H s->t σ H Q->wpAny (model X.prog X.w) X.A (jLO ifs X.env) (TP X ad σ Q) X.xe s
def yG:TT:=fun _ H Q=>Q true H
theorem jM2 {X:Cx} :PTs X [] yG:=fun _ _ _ H _ I h=>wpAny_tests_nil ⟨H,I,h⟩
theorem jM1 {X:Cx}{c:Expr}{t:TT}(h:PT X c t):PTs X [c] t:=fun ad s σ H Q I q=>wpAny_tests_one (h ad s σ H Q I q)
def qE (m:List (Option Nat))(g:TG)(tt:TT)(te:TE)(σ:St)(Q:VK)(J:It)(H1:Hp):Prop:=∀ D,H1 D=none->∃ W:Nat->Nat->St->Hp->List V->Prop,
  (∃ n,W 0 n (blkσ m σ) (upd H1 D (.lst [])) [])/\∀ i n σ' H' ys,W i n σ' H' ys->H' D=some (.lst ys)/\ys.length<sizeLine/\
   ((J.stop i H'/\Q (.ref D) H')\/(J.go i H'/\∃ N:St->Hp->List V->Prop,(∀ σ2 H2 zs,N σ2 H2 zs->∃ n',n'<n/\W (i+1) n' σ2 H2 zs)/\∀ x H'',J.yld i H' x H''->g x σ' H'' fun σ2 H2=>tt σ2 H2 fun b H3=>
    if b=true then te σ2 H3 fun v H4=>H4 D=some (.lst ys)/\N σ2 (upd H4 D (.lst (ys++[v]))) (ys++[v])
    else N σ2 H3 ys))
def tComp (m:List (Option Nat))(wi:TI)(g:TG)(tt:TT)(te:TE):TE:=fun σ H Q=>wi σ H (qE m g tt te σ Q)
theorem Un.sameBut {fs ex:List Addr}{H H':Hp}{h h1 h2:Heap}{C:Addr}(u:Un fs ex H H' h h1)(sb:Heap.SameBut C h1 h2)(hC:h.objs.size<=C):Un fs ex H H' h h2:=by
 have ne:∀ {b:Addr}{o:Obj},h.get? b=some o->b≠C:=fun e=>aG (aP (ak e) hC)
 refine⟨fun b o e n hf hx=>(sb.2 b (ne e)).trans (u.keep b o e n hf hx),fun b o e n hf hx=>?_,u.free,fun b o e hx=>?_,u.tups,u.frzs,u.tbls⟩
 ·obtain⟨sl,q⟩:=u.slot b o e n hf hx
  exact⟨sl,(sb.2 b (ne e)).trans q⟩
 ·obtain⟨o',q⟩:=u.there b o e hx
  exact⟨o',(sb.2 b (ne e)).trans q⟩
theorem HOk.sameBut {P:Program}{w:World}{H:Hp}{h1 h2:Heap}{C:Addr}(x:HOk P w H h1)(sb:Heap.SameBut C h1 h2)(hC:H C=none):HOk P w H h2:=fun a o e=>
 (x a o e).stay (fun b u hb q=>(sb.2 b (by
  rintro rfl
  rcases hb with rfl | hb
  ·rw[hC] at e; cases e
  ·rw[hC] at hb; cases hb)).trans q) (fun _ q=>q) fun _ _ q=>q
variable {g:TG}{tt:TT}{te:TE}{m:List (Option Nat)}
section
variable {tg iter elt:Expr}{ifs:List Expr}{sc:Scope}{pos:Pos}{wi:TI}{Nc:List Str}
def qL (X:Cx)(sc:Scope)(Nc:List Str)(m:List (Option Nat)):Prop:=
 m.length=Nc.length/\∀ (k i:Nat),m[k]?=some (some i)->∃ x,Nc[k]?=some x/\X.N[i]?=some x/\sc.names.lookup x=some .free
theorem jHS {ad:List (Addr×Obj)}{s:Shared}{σ:St}{H:Hp}{fp:List Addr}(I:Inv X ad σ H s)(hkind:sc.kind= .function)(hcell:∀ y∈sc.names,y.2≠ .cell)
  (hfree:∀ y∈sc.names,y.2= .free->X.env.scope.names.lookup y.1=some .cell\/X.env.scope.names.lookup y.1=some .free) (hm:qL X sc Nc m) (hfp:∀ b∈fp,FpOk X ad H b) (hlt:∀ b∈fp,b<s.heap.objs.size)
  {h1:Heap}{tk:Nat}{md:Str->Option Value}(hns:h1.Ns s.heap.objs.size md) (old:∀ b o,s.heap.get? b=some o->h1.get? b=some o):
  Inv (blk X sc (kG X.env.cells sc.names []) s.heap.objs.size Nc fp s H) [] (blkσ m σ) H { s with heap:=h1,toks:=tk} :=by
 have hcl:∀ y∈sc.names,y.2= .free->∃ c,X.env.cells.lookup y.1=some c:=fun y hy hf=>I.ok.has y.1 (hfree y hy hf)
 have sub:∀ x c,(kG X.env.cells sc.names []).lookup x=some c->X.env.cells.lookup x=some c:=jA8 sc.names [] hcl (fun x c e=>by cases e)
 have isfree:∀ x,(compEnvC sc (kG X.env.cells sc.names []) s.heap.objs.size X.env).kindOf x=some .cell\/(compEnvC sc (kG X.env.cells sc.names []) s.heap.objs.size X.env).kindOf x=some .free->sc.names.lookup x=some .free:=fun x h=>by
  rcases h with h | h
  ·exact jCL (.inl rfl) hcell h
  ·exact jCL (.inr rfl) hcell h
 refine⟨⟨I.ok.mod,hkind,I.ok.glob,I.ok.blt,ai _,fun x y c h1 h2=>I.ok.inj x y c (sub x c h1) (sub y c h2),fun x hx=>?_,fun x c hf _=>?_,I.ok.hd,I.ok.frames, .inl rfl,fun b hb=>?_,I.bs,aQ I.ok.bsz I.sz,fun b o e hb=>?_,fun b hb hz=>?_,I.stack,I.stkFree⟩,
  rfl,I.bare,Un.kept old,⟨md,hns,fun k x v e1 e2 e3=>?_⟩,fun x c e=>?_,I.hok.fresh (ai _),fun x c e=>I.freeC x c (sub x c e),fun p hp=>absurd (show p∈([]:List (Addr×Obj)) from hp) (by simp),I.hok.kept old,?_⟩
 ·exact jA9 sc.names [] (.inl (jA4 (isfree x hx)))
 ·exact absurd (show false=true from hf) ar
 ·obtain⟨f0,f1,f2,f3,f4,f5⟩:=hfp b hb
  exact⟨aG (hlt b hb),fun x c e=>f4 x c (sub x c e)⟩
 ·obtain⟨f0,f1,f2,f3,f4,f5⟩:=hfp b hb
  rcases f3 with q | q
  ·exact I.ok.noex b o e q
  ·exact absurd (aP (ak (I.ok.bs b o e).1) q) (bV _)
 ·obtain⟨f0,f1,f2,f3,f4,f5⟩:=hfp b hb
  rcases az.mp (I.stkSub b hz) with q | q
  ·exact f1 q
  ·exact f2 q
 ·have e2':∃ i,m[k]?=some (some i)/\σ[i]?=some (some v):=by
   unfold blkσ at e2
   rw[ay] at e2
   cases q:m[k]? with
   | none=>rw[q] at e2; cases e2
   | some o=>
    rw[q] at e2
    cases o with
    | none=>cases e2
    | some i=>
     refine⟨i,rfl,?_⟩
     have e2:(σ[i]?).getD none=some v:=be e2
     cases r:σ[i]? with
     | none=>rw[r] at e2; cases e2
     | some z=>rw[r] at e2; exact cg some e2
  obtain⟨i,q1,q2⟩:=e2'
  obtain⟨x',a1,a2,a3⟩:=hm.2 k i q1
  have e1':Nc[k]?=some x:=e1
  rw[e1'] at a1
  cases a1
  have vis:=hfree (x, .free) (jA4 a3) rfl
  obtain⟨m0,hn0,hl0⟩:=I.loc
  obtain⟨u,r,l⟩:=hl0 i x v a2 q2 (.inr vis)
  refine⟨u,r, .inr ⟨jA7 a3,?_⟩⟩
  obtain⟨c,hc⟩:=jA9 (cells:=X.env.cells) (x:=x) sc.names [] (.inl (jA4 a3))
  rcases l with ⟨lk,_⟩ | ⟨_,c',hc',o,ho,hd⟩
  ·have lk':X.env.scope.names.lookup x=some .local:=lk
   rcases vis with z | z
   ·rw[lk'] at z; cases z
   ·rw[lk'] at z; cases z
  ·have:=sub x c hc
   rw[hc'] at this
   cases this
   exact⟨c,hc,o,old _ _ ho,hd⟩
 ·obtain⟨v,o,ho,hd⟩:=I.cell x c (sub x c e)
  exact⟨v,o,old _ _ ho,hd⟩
 ·show (blkσ m σ).length=Nc.length
  unfold blkσ
  rw[ac]
  exact hm.1
theorem jGB {tf:St->TE}(hc:X.calm=true)(hi:PI X tg iter wi)(hkind:sc.kind= .function)(hcell:∀ y∈sc.names,y.2≠ .cell)(hnames:∀ y∈sc.names,y.2= .local->sc.names.lookup y.1=some .local)
  (hfree:∀ y∈sc.names,y.2= .free->X.env.scope.names.lookup y.1=some .cell\/X.env.scope.names.lookup y.1=some .free) (hm:qL X sc Nc m)
  (hg:∀ cl C fp s H,PG (blk X sc cl C Nc fp s H) tg g) (ht:∀ cl C fp s H,PTs (blk X sc cl C Nc fp s H) ifs tt) (he:∀ cl C fp s H ad σ,Inv X ad σ H s->(∀ b∈fp,FpOk X ad H b)->PE (blk X sc cl C Nc fp s H) elt (tf σ))
  (hs:∀ x,foldedSetIterable iter X.env x=pure x) {fpos:Pos}{use:Option (Value->Sem Unit)}{R:Value->Shared->Prop}{ad:List (Addr×Obj)}{s:Shared}{σ:St}{H:Hp}{Q:VK}(I:Inv X ad σ H s) (h:tComp m wi g tt (tf σ) σ H Q)
  (fin:∀ (D C:Addr) (H5:Hp) (z1:Shared) (r:Flow),(∃ mm,z1.heap.Ns C mm)->FpOk X ad H5 C->(∀ h',Heap.SameBut C z1.heap h'->Inv X ad σ H5 { z1 with heap:=h'})->Q (.ref D) H5->compPost (model X.prog X.w) X.A X.xe use R (.ref D) C (.ok r) z1):
  wpAny (model X.prog X.w) X.A (comprehension (.ListComp elt [⟨tg,iter,ifs,0⟩] sc pos) sc X.env fpos (newList []) false (eval iter X.env) use) R X.xe s:=by
 have hcl:∀ y∈sc.names,y.2= .free->∃ c,X.env.cells.lookup y.1=some c:=fun y hy hf=>I.ok.has y.1 (hfree y hy hf)
 refine eF (use:=use) rfl hs (jGC hcl) hkind hnames (iZ (hi ad s σ H _ I h) fun v s1 h1=>iZ h1 fun itv s2 h2=>?_)
 obtain⟨it,fp,tn,J,H2,e,I2,T,st2,f2,hQ⟩:=h2
 subst e
 have hlt:∀ b∈fp,b<s2.heap.objs.size:=fun b hb=>by
  obtain⟨o,e,_⟩:=T.obj 0 _ st2 b hb
  exact ak e
 refine aU (wpAny_newFunctionEnv hcell (by intro y hy; simp at hy) (fun h₁ hns₁ hsb₁=>?_) hkind)
 have I3:Inv X ad σ (upd H2 s2.heap.objs.size (.lst [])) { s2 with heap:=s2.heap.push { cls:= .type "list",data:= .seq ([]:List Value).toArray}} :=I2.lnew (t':=s2.toks) .nil (bh _)
 obtain⟨W,⟨n0,w0⟩,turn⟩:=hQ s2.heap.objs.size I2.fresh
 have hD3:∀ b∈fp,b≠s2.heap.objs.size:=fun b hb=>aG (hlt b hb)
 have f3:∀ b∈fp,FpOk X ad (upd H2 s2.heap.objs.size (.lst [])) b:=fun b hb=>by
  obtain⟨a0,a1⟩:=f2 b hb
  exact⟨by rw[jD (hD3 b hb)]; exact a0,a1⟩
 generalize hE:({ s2 with heap:=s2.heap.push { cls:= .type "list",data:= .seq ([]:List Value).toArray}} :Shared)=s3 at I3 hns₁ hsb₁ ⊢
 generalize hH3:upd H2 s2.heap.objs.size (.lst [])=H3 at I3 f3 w0
 have hsz3:s3.heap.objs.size=s2.heap.objs.size+1:=by rw[<- hE]; exact bG _ _
 have old:∀ b o,s3.heap.get? b=some o->h₁.get? b=some o:=fun b o e=>hsb₁.extBut b o (aG (ak e)) (af _ e)
 have old2:∀ b o,s2.heap.get? b=some o->h₁.get? b=some o:=fun b o e=>old b o (by rw[<- hE]; exact af _ e)
 have I4:=jHS (fp:=fp) (tk:=s3.toks+([]:List (Str×Value)).length) I3 hkind hcell hfree hm f3 (fun b hb=>show b<s3.heap.objs.size by rw[hsz3]; exact bQ (hlt b hb)) hns₁ old
 have st4:tn 0 h₁:=T.keep _ _ _ st2 fun b hb o e=>old2 b o e
 have loop:codeAny (model X.prog X.w) X.A (.compLoop (.ListComp elt [⟨tg,iter,ifs,0⟩] sc pos) 0 (.ref it) (.ref s2.heap.objs.size) (compEnvC sc (kG X.env.cells sc.names []) s3.heap.objs.size X.env))
   (compPost (model X.prog X.w) X.A X.xe use R (.ref s2.heap.objs.size) s3.heap.objs.size) { s3 with heap:=h₁,toks:=s3.toks+([]:List (Str×Value)).length} :=by
  generalize hX:blk X sc (kG X.env.cells sc.names []) s3.heap.objs.size Nc fp s3 H3=Xb at I4
  have eP:Xb.prog=X.prog:=by rw[<- hX]; rfl
  have ew:Xb.w=X.w:=by rw[<- hX]; rfl
  have eK:Xb.K=X.K:=by rw[<- hX]; rfl
  have eA:Xb.A=X.A:=by rw[<- hX]; rfl
  have ec:Xb.calm=true:=by rw[<- hX]; exact hc
  have ee:Xb.env=compEnvC sc (kG X.env.cells sc.names []) s3.heap.objs.size X.env:=by rw[<- hX]; rfl
  have ex:Xb.xe=fun _ _=>False:=by rw[<- hX]; rfl
  have hgb:PG Xb tg g:=by rw[<- hX]; exact hg _ _ _ _ _
  have htb:PTs Xb ifs tt:=by rw[<- hX]; exact ht _ _ _ _ _
  have heb:PE Xb elt (tf σ):=by rw[<- hX]; exact he _ _ _ _ _ _ _ I3 f3
  have stat:∀ {H':Hp},(∀ b∈fp,H' b=none)->∀ b∈fp,FpOk Xb [] H' b:=fun {H'} hn b hb=>by
   obtain⟨o,eo,_⟩:=T.obj _ _ st4 b hb
   have q:=I4.ok.exf b (by rw[<- hX]; exact hb)
   exact⟨hn b hb,q.1,I4.ok.exfs b (by rw[<- hX]; exact hb), .inl (by rw[<- hX]; exact hb),q.2,fun p hp=>absurd hp (by rw[<- hX]; simp [blk])⟩
  have fr4:∀ b∈fp,H3 b=none:=fun b hb=>(f3 b hb).1
  unfold PG at hgb
  unfold PTs at htb
  unfold PE at heb
  rw[eP,ew,eA,ee,ex] at hgb htb heb
  refine jCW (fun n z=>∃ i σ' H' ys,Inv Xb [] σ' H' z/\tn i z.heap/\(∀ b∈fp,H' b=none)/\W i n σ' H' ys) ?_ n0 ⟨0,_,H3,[],I4,st4,fr4,w0⟩
  rintro n z ⟨i,σ5,H5,ys,I5,st5,fr5,w5⟩
  obtain⟨hD,hlen,way⟩:=turn i n σ5 H5 ys w5
  rcases way with ⟨stop,q⟩ | ⟨go,N,hN,step⟩
  ·have RR:=T.done Xb eP ew eK ec i [] z σ5 H5 (fun _ _=>False) I5 (stat fr5) st5 stop
   rw[eA] at RR
   refine iZ RR fun r z1 ⟨hr,I6⟩=>?_
   subst hr
   obtain⟨mm,hn6,_⟩:=I6.loc
   rw[ee] at hn6
   have u6:Un (frs X.stack) fp H3 H5 s3.heap z1.heap:=by
    have:=I6.base
    rw[<- hX] at this
    exact this
   have fC:H5 s3.heap.objs.size=none:=by
    have:=I6.free
    rw[ee] at this
    exact this
   have hok6:HOk X.prog X.w H5 z1.heap:=by
    have:=I6.hok
    rw[eP,ew] at this
    exact this
   have os6:z1.os=s3.os:=by
    have:=I6.os
    rw[<- hX] at this
    exact this
   refine fin s2.heap.objs.size s3.heap.objs.size H5 z1 .next ⟨mm,hn6⟩ (I3.fpOk (ai _) fC) (fun h' sb=>?_) q
   refine I3.call' (s':= { z1 with heap:=h'}) (ch:=fp) os6 (u6.sameBut sb (ai _)) (hok6.sameBut sb fC) I6.bare (fun b hb=>?_)
   obtain⟨a0,a1,a2,a3,a4,a5⟩:=f3 b hb
   exact⟨a3,a1,a4,a5⟩
  ·have RR:=T.item Xb eP ew eK ec i [] z σ5 H5 (fun _ _=>False) I5 (stat fr5) st5 go
   rw[eA] at RR
   refine iZ RR fun r z1 ⟨u,hr,h6⟩=>?_
   subst hr
   refine iZ h6 fun _ z2 ⟨x,H7,I7,r7,y7,st7,fr7⟩=>?_
   have I7':=I7.pinned (stat fr7) (T.obj _ _ st7)
   refine iZ (hgb _ z2 σ5 H7 x u _ I7' r7 (step x H7 y7)) fun _ z3 ⟨σ8,H8,I8,q8⟩=>?_
   refine iZ (htb _ z3 σ8 H8 _ I8 q8) fun ok z4 ⟨H9,I9,q9⟩=>?_
   have again:∀ {σ7:St}{Hz:Hp}{zz:Shared}{yy:List V}{n':Nat},Inv Xb ([]++jDZ fp z2.heap) σ7 Hz zz->n'<n->W (i+1) n' σ7 Hz yy->∃ k,k<n/\∃ i σ' H' ys,Inv Xb [] σ' H' zz/\tn i zz.heap/\(∀ b∈fp,H' b=none)/\W i k σ' H' ys:=fun {σ7 Hz zz yy n'} Iz hn wz=>by
    refine⟨n',hn,i+1,σ7,Hz,yy,Iz.unpinned,T.keep _ _ _ st7 fun b hb o e=>(Iz.pin (b,o) (aR _ (aR _ (jA3 hb e)))).1,fun b hb=>?_,wz⟩
    obtain⟨o,e,d⟩:=T.obj _ _ st7 b hb
    exact(Iz.pin (b,o) (aR _ (aR _ (jA3 hb e)))).2.1
   cases ok with
   | false=>
    obtain⟨n',hn,w9⟩:=hN _ _ _ (show N σ8 H9 ys from q9)
    exact again I9 hn w9
   | true=>
    refine iZ (heb _ z4 σ8 H9 _ I9 q9) fun xv z5 ⟨vv,H10,I10,r10,hD10,n10⟩=>?_
    obtain⟨n',hn,w10⟩:=hN _ _ _ n10
    have RR:=yW (X:=Xb) _ z5 σ8 H10 (.ref s2.heap.objs.size) [vv] (.ref s2.heap.objs.size) [xv] (fun _ H'=>H'=upd H10 s2.heap.objs.size (.lst (ys++[vv]))) I10 rfl (.cons r10 .nil) ⟨_,ys,vv,rfl,rfl,hD10,hlen,rfl⟩
    rw[eP,ew,eA,ex] at RR
    refine iZ RR fun _ z6 ⟨_,H11,I11,_,e11⟩=>?_
    subst e11
    exact again I11 hn w10
 exact eY loop (T.self _ 0 _ _ _ st4 loop)
theorem jI9 (hc:X.calm=true)(hi:PI X tg iter wi)(hkind:sc.kind= .function)(hcell:∀ y∈sc.names,y.2≠ .cell)(hnames:∀ y∈sc.names,y.2= .local->sc.names.lookup y.1=some .local)
  (hfree:∀ y∈sc.names,y.2= .free->X.env.scope.names.lookup y.1=some .cell\/X.env.scope.names.lookup y.1=some .free) (hm:qL X sc Nc m)
  (hg:∀ cl C fp s H,PG (blk X sc cl C Nc fp s H) tg g) (ht:∀ cl C fp s H,PTs (blk X sc cl C Nc fp s H) ifs tt) (he:∀ cl C fp s H,PE (blk X sc cl C Nc fp s H) elt te)
  (hs:∀ x,foldedSetIterable iter X.env x=pure x:=by intro _; rfl):PE X (.ListComp elt [⟨tg,iter,ifs,0⟩] sc pos) (tComp m wi g tt te):=by
 intro ad s σ H Q I h
 rw[gW]
 exact jGB (tf:=fun _=>te) (use:=none) hc hi hkind hcell hnames hfree hm hg ht (fun cl C fp s H _ _ _ _=>he cl C fp s H) hs I h (fun D C H5 z1 r ⟨mm,hn⟩ fC sb q=>⟨mm,hn,fun h' s2=>⟨.ref D,H5,sb h' s2,rfl,q⟩⟩)
end
theorem jX {X:Cx}{sc psc:Scope}(h:(sc.names.all fun y=>decide (y.2= .free->psc.names.lookup y.1=some .cell\/psc.names.lookup y.1=some .free))=true:=by decide+kernel)(e:X.env.scope=psc:=by rfl):
  ∀ y∈sc.names,y.2= .free->X.env.scope.names.lookup y.1=some .cell\/X.env.scope.names.lookup y.1=some .free:=by
 rw[e]
 intro y hy
 exact aq (aS.mp h y hy)
def jNT (sc:Scope)(N Nc:List Str)(m:List (Option Nat))(k:Nat):Bool:=match m[k]? with
 | some (some i)=>match Nc[k]? with
  | some x=>decide (N[i]?=some x)&&decide (sc.names.lookup x=some .free)
  | none=>false
 | _=>true
theorem jM {X:Cx}{sc:Scope}{N Nc:List Str}{m:List (Option Nat)}(e:X.N=N)(hl:m.length=Nc.length)(h:((List.range m.length).all (jNT sc N Nc m))=true):qL X sc Nc m:=by
 refine⟨hl,fun k i hk=>?_⟩
 have hlt:k<m.length:=(av.mp hk).1
 have q:=aS.mp h k (bc.mpr hlt)
 unfold jNT at q
 rw[hk] at q
 cases e2:Nc[k]? with
 | none=>rw[e2] at q; cases q
 | some x=>
  rw[e2] at q
  have q:(decide (N[i]?=some x)&&decide (sc.names.lookup x=some .free))=true:=q
  rw[bd] at q
  exact⟨x,rfl,by rw[e]; exact aq q.1,aq q.2⟩
section
variable {σ:St}{H1:Hp}{Q:VK}
theorem jAD {lo:Int}{n:Nat}(hn:n<sizeLine)(Pv:Addr->Nat->St->Hp->List V->Prop)(h0:∀ D,H1 D=none->Pv D 0 (blkσ m σ) (upd H1 D (.lst [])) [])
  (hD:∀ D i σ' H' ys,H1 D=none->i<=n->Pv D i σ' H' ys->H' D=some (.lst ys)/\ys.length<=i)
  (hs:∀ D i σ' H' ys,H1 D=none->i<n->Pv D i σ' H' ys->g (.int (lo+i)) σ' H' fun σ2 H2=>tt σ2 H2 fun b H3=>if b=true then te σ2 H3 fun v H4=>H4 D=some (.lst ys)/\Pv D (i+1) σ2 (upd H4 D (.lst (ys++[v]))) (ys++[v]) else Pv D (i+1) σ2 H3 ys)
  (hd:∀ D σ' H' ys,H1 D=none->Pv D n σ' H' ys->Q (.ref D) H'):qE m g tt te σ Q (Itr lo n) H1:=by
 intro D hDn
 refine⟨fun i k σ' H' ys=>k=n - i/\i<=n/\Pv D i σ' H' ys,⟨n,rfl,bh _,h0 D hDn⟩,?_⟩
 rintro i k σ' H' ys ⟨rfl,hi,p⟩
 obtain⟨q1,q2⟩:=hD D i σ' H' ys hDn hi p
 refine⟨q1,by lia,?_⟩
 by_cases hlt:i<n
 ·refine .inr ⟨hlt,Pv D (i+1),fun σ2 H2 zs z=>⟨n - (i+1),by lia,rfl,hlt,z⟩,fun x H'' y=>?_⟩
  obtain⟨e1,e2⟩:=y
  subst e1 e2
  exact hs D i σ' _ ys hDn hlt p
 ·have e:i=n:=by lia
  subst e
  exact .inl ⟨ai _,hd D σ' H' ys hDn p⟩
end
end L2
end
namespace SS
open PySem PySem.SetTable
abbrev Ris (xs:Array Nat):Prop:=xs.toList.Pairwise (· < ·)
theorem jCK {xs:Array Nat}(h:Ris xs){a b:Nat}(hab:a<b)(hb:b<xs.size):xs.getD a 0<xs.getD b 0:=by
 have h1:a<xs.size:=dG hab hb
 have:=cY.mp h a b (by simpa using h1) (by simpa using hb) hab
 simpa [Array.getD,h1,hb] using this
theorem jT8 {xs:Array Nat}{j:Nat}(hr:Ris xs):∀ (fuel lo hi:Nat),hi - lo<=fuel->lo<=hi->hi<=xs.size->(∀ a,a<lo->xs.getD a 0<j)->(∀ a,hi<=a->a<xs.size->j<=xs.getD a 0)->
  (below.go xs j fuel lo hi<=xs.size/\(∀ a,a<below.go xs j fuel lo hi->xs.getD a 0<j)/\(∀ a,below.go xs j fuel lo hi<=a->a<xs.size->j<=xs.getD a 0)):=by
 intro fuel
 induction fuel with
 | zero=>
  intro lo hi h1 h2 h3 h4 h5
  have e:lo=hi:=by lia
  subst e
  exact⟨h3,h4,h5⟩
 | succ fuel ih=>
  intro lo hi h1 h2 h3 h4 h5
  unfold below.go
  by_cases hlt:lo<hi
  ·rw[aD hlt]
   have hm:(lo+hi) / 2<xs.size:=by lia
   have e:xs.getD ((lo+hi) / 2) j=xs.getD ((lo+hi) / 2) 0:=by simp [Array.getD,hm]
   dsimp only
   rw[e]
   by_cases hc:xs.getD ((lo+hi) / 2) 0<j
   ·rw[aD hc]
    refine ih _ _ (by lia) (by lia) h3 (fun a ha=>?_) h5
    by_cases e2:a=(lo+hi) / 2
    ·rw[e2]; exact hc
    ·exact dG (jCK hr (by lia) hm) hc
   ·rw[aF hc]
    refine ih _ _ (by lia) (by lia) (by lia) h4 (fun a ha hs=>?_)
    by_cases e2:a=(lo+hi) / 2
    ·rw[e2]; lia
    ·have:=jCK hr (show (lo+hi) / 2<a by lia) hs
     lia
  ·rw[aF hlt]
   have e:lo=hi:=by lia
   subst e
   exact⟨h3,h4,h5⟩
theorem jF9 {xs:Array Nat}(hr:Ris xs)(j:Nat):below xs j<=xs.size/\(∀ a,a<below xs j->xs.getD a 0<j)/\(∀ a,below xs j<=a->a<xs.size->j<=xs.getD a 0):=
 jT8 hr xs.size 0 xs.size (by lia) (bh _) (ai _) (fun a h=>absurd h (cN _)) (fun a h1 h2=>absurd h2 (by lia))
theorem jGD {xs:Array Nat}(hr:Ris xs){j i:Nat}(hi:i<=xs.size)(h1:∀ a,a<i->xs.getD a 0<j)(h2:∀ a,i<=a->a<xs.size->j<=xs.getD a 0):below xs j=i:=by
 obtain⟨b1,b2,b3⟩:=jF9 hr j
 rcases gN (below xs j) i with h | h | h
 ·have q1:=h1 _ h
  have q2:=b3 _ (ai _) (by lia)
  lia
 ·exact h
 ·have q1:=b2 _ h
  have q2:=h2 _ (ai _) (by lia)
  lia
theorem jAH {α:Type}(xs:Array α)(p:Nat)(x:α):(insertAt xs p x).toList=xs.toList.take p++x::xs.toList.drop p:=by
 unfold insertAt
 simp [Array.toList_extract,List.extract]
 rw[bH (by simp)]
theorem jC5 {α:Type}(xs:Array α)(p:Nat)(x:α):(insertAt xs p x).size=xs.size+1:=by
 rw[<- bE,jAH]
 simp
 lia
theorem jKI {xs:Array Nat}{j:Nat}(hr:Ris xs)(hj:j∉xs.toList):Ris (insertAt xs (below xs j) j):=by
 obtain⟨b1,b2,b3⟩:=jF9 hr j
 show (insertAt xs (below xs j) j).toList.Pairwise (· < ·)
 rw[jAH,dM,cC]
 have hl:∀ a∈xs.toList.take (below xs j),a<j:=by
  intro a ha
  obtain⟨i,hi,e⟩:=List.mem_take_iff_getElem.mp ha
  have:=b2 i (by lia)
  have hs:i<xs.size:=by simp at hi; lia
  simp [Array.getD,hs] at this
  simp at e
  lia
 have hg:∀ a∈xs.toList.drop (below xs j),j<a:=by
  intro a ha
  obtain⟨i,hi,e⟩:=List.mem_drop_iff_getElem.mp ha
  have hs:i+below xs j<xs.size:=by simpa [iR] using hi
  have:=b3 (i+below xs j) (by lia) hs
  simp [Array.getD,hs] at this
  have e':xs[i+below xs j]=a:=by simpa [iR] using e
  have hne:a≠j:=by
   intro z
   apply hj
   rw[<- z]
   exact gc ha
  lia
 refine⟨hr.sublist (eR _ _),⟨hg,hr.sublist (List.drop_sublist _ _)⟩,?_⟩
 intro a ha b hb
 rcases az.mp hb with rfl | hb
 ·exact hl a ha
 ·exact dG (hl a ha) (hg b hb)
theorem jE0 {t:SetTable}{j:Nat}(hr:Ris t.place)(h:t.slot j= .empty):j∉t.place.toList:=by
 intro hm
 obtain⟨i,hi,e⟩:=cz hm
 have hs:i<t.place.size:=by simpa using hi
 have e0:t.place[i]=j:=by simpa using e
 have eb:below t.place j=i:=by
  refine jGD hr (cF hs) (fun a ha=>?_) (fun a h1 h2=>?_)
  ·have:=jCK hr ha hs
   simp only [Array.getD,hs] at this ⊢
   simp [e0] at this ⊢
   exact this
  ·by_cases e2:a=i
   ·subst e2
    simp [Array.getD,hs,e0]
   ·have:=jCK hr (show i<a by lia) h2
    simp only [Array.getD,hs] at this
    simp [e0] at this
    simp [Array.getD]
    lia
 unfold SetTable.slot at h
 dsimp only at h
 rw[eb] at h
 rw[aD (by simp [hs,e0])] at h
 cases h
theorem jIL (j:Nat):has #[] j=false:=by
 unfold has
 simp
theorem jJ8 {t:SetTable}(hd:t.dummies=#[]){f:Nat->Int}{h:Int} :∀ (fuel:Nat) (p:Probe) (m:Met),p.dummy=none->probe.go t f h fuel p=some m->
  (∃ j,m= .empty j none/\t.slot j= .empty)\/(∃ j i n,m= .candidate j i n):=by
 intro fuel
 induction fuel with
 | zero=>intro p m _ e; simp [probe.go] at e
 | succ fuel ih=>
  intro p m hp e
  unfold probe.go at e
  cases hs:t.slot p.j with
  | empty=>
   rw[hs] at e
   simp only [eZ] at e
   subst e
   exact .inl ⟨p.j,by rw[hp],hs⟩
  | dummy=>
   unfold SetTable.slot at hs
   dsimp only at hs
   rw[hd,jIL] at hs
   split at hs
   ·cases hs
   ·simp at hs
  | live i=>
   rw[hs] at e
   dsimp only at e
   split at e
   ·simp only [eZ] at e
    subst e
    exact .inr ⟨_,_,_,rfl⟩
   ·refine ih _ _ ?_ e
    unfold advance
    split
    ·exact hp
    ·exact hp
theorem jG5 {t:SetTable}(hr:Ris t.place)(hd:t.dummies=#[]){h:Int}{slot:Nat}{d:Bool}(e:t.freeSlot h=some (slot,d)):slot∉t.place.toList:=by
 unfold SetTable.freeSlot at e
 split at e
 ·rename_i j dummy hp
  simp only [eZ,Prod.mk.injEq] at e
  have hp':probe.go t (fun _=>h+1) h (10*turns t.mask) (t.probeStart h)=some (.empty j dummy):=hp
  rcases jJ8 hd _ _ _ (by unfold probeStart; rfl) hp' with ⟨j',em,hs⟩ | ⟨_,_,_,em⟩
  ·cases em
   have:slot=j:=by rw[<- e.1]; rfl
   rw[this]
   exact jE0 hr hs
  ·cases em
 ·cases e
theorem jKH {t:SetTable}{j:Nat}(hd:t.dummies=#[])(h:t.slot j≠ .empty):(∃ i,t.slot j= .live i)/\j∈t.place.toList:=by
 unfold SetTable.slot at h ⊢
 dsimp only at h ⊢
 by_cases q:(t.place[below t.place j]?==some j)=true
 ·rw[aD q]
  refine⟨⟨_,rfl⟩,?_⟩
  have e:t.place[below t.place j]?=some j:=eq_of_beq q
  obtain⟨hi,e⟩:=dN.mp e
  rw[<- e]
  exact Array.getElem_mem_toList hi
 ·rw[aF q,hd,jIL] at h
  exact absurd rfl h
theorem run7 (i:Nat):runEnd 7 i=i:=by unfold runEnd; rw[aF (by lia)]
theorem jM4 {t:SetTable}(hm:t.mask=7)(hd:t.dummies=#[]){h:Int} :∀ (k fuel:Nat) (p:Probe),p.j=p.i->p.more=0->p.i<8->p.perturb<32->k<=fuel->
  probe.go t (fun _=>h+1) h fuel p=none->∀ r,r<k->Nat.repeat (fun i=>(i*5+1) % 8) r p.i∈t.place.toList:=by
 intro k
 induction k with
 | zero=>intro fuel p _ _ _ _ _ _ r hr; lia
 | succ k ih=>
  intro fuel p h1 h2 h3 h4 h5 h6 r hr
  obtain⟨f,rfl⟩:∃ f,fuel=f+1:=⟨fuel - 1,by lia⟩
  unfold probe.go at h6
  by_cases he:t.slot p.j= .empty
  ·rw[he] at h6; cases h6
  ·obtain⟨⟨i,hl⟩,hmem⟩:=jKH hd he
   rw[hl] at h6
   dsimp only at h6
   rw[aF (by simp; lia)] at h6
   have hz:p.perturb / 32=0:=by lia
   have ea:t.advance p= { p with j:=(p.i*5+1) % 8,more:=0,i:=(p.i*5+1) % 8,perturb:=0} :=by
    unfold advance leap
    rw[aF (by lia),hm,hz]
    simp [run7]
   rw[ea] at h6
   cases r with
   | zero=>show p.i∈_; rw[<- h1]; exact hmem
   | succ r=>
    have q:=ih f _ (by rfl) (by rfl) (by show (p.i*5+1) % 8<8; lia) (by show 0<32; lia) (by lia) h6 r (by lia)
    have e:∀ (r i:Nat),Nat.repeat (fun i=>(i*5+1) % 8) (r+1) i=Nat.repeat (fun i=>(i*5+1) % 8) r ((i*5+1) % 8):=by
     intro r
     induction r with
     | zero=>intro i; rfl
     | succ r ihr=>
      intro i
      show ((Nat.repeat _ (r+1) i)*5+1) % 8=((Nat.repeat _ r ((i*5+1) % 8))*5+1) % 8
      rw[ihr]
    rw[e]
    exact q
theorem jOP:∀ i,i<8->∀ j,j<8->∃ r,r<8/\Nat.repeat (fun i=>(i*5+1) % 8) r i=j:=by decide+kernel
theorem jG4 {t:SetTable}(hm:t.mask=7)(hd:t.dummies=#[])(hz:t.place.size<8){h:Int}(h0:0<=h)(h1:h<32):∃ q,t.freeSlot h=some q:=by
 unfold SetTable.freeSlot
 have hb:bits h<32:=by unfold bits; lia
 have hps:t.probeStart h= { j:=bits h % 8,more:=0,i:=bits h % 8,perturb:=bits h,dummy:=none} :=by
  unfold probeStart
  rw[hm]
  simp [run7]
 cases e:t.probe (fun _=>h+1) h (t.probeStart h) with
 | none=>
  exfalso
  have e':probe.go t (fun _=>h+1) h (10*turns t.mask) (t.probeStart h)=none:=e
  rw[hps] at e'
  have q:=jM4 hm hd 8 _ _ (by rfl) (by rfl) (by show bits h % 8<8; lia) (by exact hb) (by rw[hm]; decide) e'
  have sub:List.range 8 ⊆ t.place.toList:=by
   intro j hj
   obtain⟨r,hr,er⟩:=jOP (bits h % 8) (by lia) j (bc.mp hj)
   rw[<- er]
   exact q r hr
  have:=List.Nodup.length_le_of_subset (List.nodup_range (n:=8)) sub
  simp at this
  lia
 | some m=>
  rcases jJ8 hd _ _ _ (by rw[hps]) (show probe.go t (fun _=>h+1) h (10*turns t.mask) (t.probeStart h)=some m from e) with ⟨j,rfl,_⟩ | ⟨j,i,n,rfl⟩
  ·exact⟨_,rfl⟩
  ·exfalso
   have nc:∀ (fuel:Nat) (p:Probe) (j i:Nat) (n:Probe),probe.go t (fun _=>h+1) h fuel p≠some (.candidate j i n):=by
    intro fuel
    induction fuel with
    | zero=>intro p j i n; simp [probe.go]
    | succ f ih=>
     intro p j i n
     unfold probe.go
     cases t.slot p.j with
     | empty=>simp
     | dummy=>exact ih _ _ _ _
     | live i'=>
      dsimp only
      rw[aF (by simp; lia)]
      exact ih _ _ _ _
   exact nc _ _ _ _ _ e
structure Tab (t:SetTable)(n:Nat)(led:Bool):Prop where
 ris:Ris t.place
 sz:t.place.size=n
 dm:t.dummies=#[]
 msk:t.mask=7
 pl:t.plain=true
 ld:t.led=led
theorem Tab.fits {t:SetTable}{n:Nat}{led:Bool}(T:Tab t n led)(hn:n<=4):t.fits n=true:=by
 unfold SetTable.fits fill
 simp [T.sz,T.dm,T.msk]
 lia
theorem Tab.full {t:SetTable}{n:Nat}{led:Bool}(T:Tab t n led)(hn:n<=4):t.tooFull=false:=by
 unfold tooFull fill
 simp [T.sz,T.dm,T.msk]
 lia
theorem jLP (led:Bool):Tab (fresh 0 0 led) 0 led:=⟨List.Pairwise.nil,rfl,rfl,rfl,rfl,rfl⟩
theorem jKT {t:SetTable}{n:Nat}{led:Bool}(T:Tab t n led)(hn:n+1<=4)(es:Array (Int×Value))(he:es.size=n){h:Int}(h0:0<=h)(h1:h<32)(x:Value):
  Tab (layNew t es h x).2.1 (n+1) led/\∃ p,(layNew t es h x).1.toList=es.toList.take p++(h,x)::es.toList.drop p:=by
 obtain⟨⟨slot,d⟩,hf⟩:=jG4 T.msk T.dm (by rw[T.sz]; lia) h0 h1
 unfold layNew
 rw[hf]
 dsimp only [SetTable.put]
 have hnm:=jG5 T.ris T.dm hf
 have T2:Tab { t with place:=insertAt t.place (below t.place slot) slot,dummies:=if has t.dummies slot then eraseAt t.dummies (below t.dummies slot) else t.dummies} (n+1) led:=by
  refine⟨jKI T.ris hnm,by rw[jC5,T.sz],?_,T.msk,T.pl,T.ld⟩
  rw[T.dm,jIL]
  rfl
 refine⟨?_,_,jAH _ _ _⟩
 unfold SetTable.orStandIn
 rw[jC5,he,T2.fits hn]
 exact T2
def jJ5 (xs:Array Nat):Nat->Nat
 | 0=>0
 | i+1=>xs.getD i 0+1
theorem jHY {xs:Array Nat}(hr:Ris xs){i:Nat}(hi:i<=xs.size):below xs (jJ5 xs i)=i:=by
 cases i with
 | zero=>exact jGD hr (bh _) (fun a h=>absurd h (cN _)) (fun a _ _=>bh _)
 | succ i=>
  refine jGD hr hi (fun a ha=>?_) (fun a h1 h2=>?_)
  ·show _<xs.getD i 0+1
   by_cases e:a=i
   ·rw[e]; lia
   ·have:=jCK hr (show a<i by lia) (show i<xs.size by lia)
    lia
  ·show xs.getD i 0+1<=_
   exact jCK hr (show i<a by lia) h2
theorem jL2 {α:Type}{l:List α}{i:Nat}(h:i<l.length):(l[i]::l.eraseIdx i).Perm l:=by
 rw[bM]
 have e:l=l.take i++l[i]::l.drop (i+1):=by rw[<- List.drop_eq_getElem_cons h,cW]
 conv=>rhs; rw[e]
 exact List.perm_middle.symm
theorem jS5 {α:Type}(next:Nat->Nat):∀ (fuel k:Nat) (left:List α) (out:Array α),fuel=left.length->(pickOrder.go next fuel k left out).toList.Perm (out.toList++left):=by
 intro fuel
 induction fuel with
 | zero=>
  intro k left out h
  have:left=[]:=eN.mp h.symm
  subst this
  simp [pickOrder.go]
 | succ f ih=>
  intro k left out h
  have hl:next k % left.length<left.length:=Nat.mod_lt _ (by lia)
  unfold pickOrder.go
  rw[aK hl]
  dsimp only
  refine(ih _ _ _ (by rw[List.length_eraseIdx_of_lt hl]; lia)).trans ?_
  rw[Array.toList_push,List.append_assoc]
  exact List.Perm.append_left _ (jL2 hl)
theorem jGS {α:Type}(next:Nat->Nat)(xs:Array α):(pickOrder next xs).toList.Perm xs.toList:=by
 unfold pickOrder
 have:=jS5 next xs.size 0 xs.toList #[] (by simp)
 simpa using this
end SS
namespace SS
open PySem
abbrev ledW (w:World):Bool:=!(w.params.followText "set-order")
def El (e:Int×Value)(k:Int):Prop:=e.1=hashInt k/\∃ t,e.2= .int k t
theorem jC0 {α β:Type}{F:α->β->Prop} :∀ {l:List α}{r:List β},Paired F l r->∀ a∈l,∃ b∈r,F a b
 | _,_, .nil=>fun a h=>by cases h
 | _,_, .cons f t=>fun a h=>by
  rcases az.mp h with rfl | h
  ·exact⟨_,aw,f⟩
  ·obtain⟨b,hb,q⟩:=jC0 t a h
   exact⟨b,aA _ hb,q⟩
theorem jD8 {α β:Type}{F:α->β->Prop} :∀ {l:List α}{r:List β},Paired F l r->∀ b∈r,∃ a∈l,F a b
 | _,_, .nil=>fun a h=>by cases h
 | _,_, .cons f t=>fun b h=>by
  rcases az.mp h with rfl | h
  ·exact⟨_,aw,f⟩
  ·obtain⟨a,ha,q⟩:=jD8 t b h
   exact⟨a,aA _ ha,q⟩
theorem jEX {α β:Type}{F:α->β->Prop}{a:α}{b:β}(f:F a b):∀ {l:List α}{r:List β}(p:Nat),Paired F l r->Paired F (l.take p++a::l.drop p) (r.take p++b::r.drop p)
 | _,_,0,q=>by simpa using Paired.cons f q
 | _,_,p+1, .nil=>by simpa using Paired.cons f .nil
 | _,_,p+1, .cons g t=>by
  simp only [List.take_succ_cons,List.drop_succ_cons,List.cons_append]
  exact .cons g (jEX f p t)
theorem jRZ {α:Type}(l:List α)(p:Nat)(x z:α):z∈l.take p++x::l.drop p↔z=x\/z∈l:=by
 conv=>rhs; rw[<- cW p l]
 simp only [bv,az]
 constructor
 ·rintro (h | h | h)
  ·exact .inr (.inl h)
  ·exact .inl h
  ·exact .inr (.inr h)
 ·rintro (h | h | h)
  ·exact .inr (.inl h)
  ·exact .inl h
  ·exact .inr (.inr h)
theorem jFN {α:Type}(l:List α)(p:Nat)(x:α):(l.take p++x::l.drop p).Perm (x::l):=by
 have h:(l.take p++x::l.drop p).Perm (x::(l.take p++l.drop p)):=List.perm_middle
 rw[cW] at h
 exact h
structure SetG (w:World)(h:Heap)(a:Addr)(ks:List Int):Prop where
 ex:∃ o es ep t,h.get? a=some o/\o.ExactSet/\o.data= .set es ep t/\Paired El es.toList ks/\Tab t es.size (ledW w)
 nd:ks.Nodup
 len:ks.length<=4
variable {prog:Program}{w:World}{A:Around}{E:Value->Shared->Prop}{s:Shared}{a:Addr}
section
variable {ks:List Int}{k:Int}{tk:Tok}
theorem elems {es:List (Int×Value)}(h:Paired El es ks):ElemsOf (intKind prog w) es:=fun e he=>by
 obtain⟨k,_,h1,t,h2⟩:=jC0 h e he
 rw[h2]
 exact⟨⟨k,by show Value.isInt k (.int k t)=true; simp [Value.isInt],h1⟩,rfl⟩
theorem SetG.at {h h':Heap}(S:SetG w h a ks)(e:∀ o,h.get? a=some o->h'.get? a=some o):SetG w h' a ks:=by
 obtain⟨⟨o,es,ep,t,ho,r⟩,nd,len⟩:=S
 exact⟨⟨o,es,ep,t,e _ ho,r⟩,nd,len⟩
theorem jCB (k0:0<=k)(k1:k<32):hashInt k=k:=by
 obtain⟨n,rfl⟩:=Int.eq_ofNat_of_zero_le k0
 have e:∀ n:Nat,n<32->hashInt (n:Int)=(n:Int):=by decide+kernel
 exact e n (by lia)
theorem jVE {Q:Bool->Shared->Prop}(S:SetG w s.heap a ks)(hl:ks.length+1<=4)(k0:0<=k)(k1:k<32)
  (h:∀ b h' ks',Heap.SameBut a s.heap h'->SetG w h' a ks'->(∀ z,z∈ks'↔z=k\/z∈ks)->ks'.length<=ks.length+1->Q b { s with heap:=h'}):
  wpAny (model prog w) A (setAddHashed a (.int k tk) (hashInt k)) Q E s:=by
 obtain⟨o,es,ep,t,ho,hex,hd,hp,T⟩:=id S.ex
 have hn:es.size=ks.length:=by rw[<- bE]; exact gR hp
 have hf:=T.fits (by lia)
 have hel:ElemsOf (intKind prog w) es.toList:=elems hp
 have hb:es.size<scanBound:=by unfold scanBound; lia
 have hi:∀ (j:Int) (t:Tok),Value.isInt k (.int j t)=true->j=k:=fun j t e=>by simpa [Value.isInt] using e
 unfold setAddHashed setAddHashedIn
 refine br (ae (cM ho hd hf ?_))
 dsimp only
 rw[byScan_of (knd:=intKind prog w) rfl hb hel,aD rfl]
 unfold setAddByScan
 refine ae (ae (eJ (ae ?_)))
 refine wpAny_setScan_of (knd:=intKind prog w) (k:=k) (by show Value.isInt k (.int k tk)=true; simp [Value.isInt]) ho hd hf hel ?_
 have es0:s= { s with heap:=s.heap} :=by cases s; rfl
 cases hr:List.findIdx? (fun e=>(intKind prog w).is k e.2) es.toList with
 | some j=>
  obtain⟨hj,hpj,_⟩:=List.findIdx?_eq_some_iff_getElem.mp hr
  obtain⟨k',hk',_,t',e'⟩:=jC0 hp _ (cV hj)
  have hkk:k'=k:=hi k' t' (by rw[<- e']; exact hpj)
  subst hkk
  refine ag (ag ?_)
  rw[es0]
  exact h false s.heap ks (Heap.SameBut.refl a s.heap) S (fun z=>⟨.inr,fun q=>q.elim (fun e=>e ▸ hk') id⟩) (by lia)
 | none=>
  have hnk:k∉ks:=fun hm=>by
   obtain⟨e,he,_,t',e'⟩:=jD8 hp k hm
   have q:=List.findIdx?_eq_none_iff.mp hr e he
   rw[e'] at q
   have q':Value.isInt k (.int k t')=false:=q
   simp [Value.isInt] at q'
  obtain⟨T1,p,hp1⟩:=jKT T (by lia) es rfl (h:=hashInt k) (by rw[jCB k0 k1]; exact k0) (by rw[jCB k0 k1]; exact k1) (.int k tk)
  dsimp only
  show wpAny _ A (match layNew t es (hashInt k) (Value.int k tk) with | (es,t,wasDummy,gave)=>_) _ E s
  generalize layNew t es (hashInt k) (Value.int k tk)=L at T1 hp1 ⊢
  obtain⟨es1,t1,wd,gv⟩:=L
  dsimp only at T1 hp1 ⊢
  have hp2:Paired El es1.toList (ks.take p++k::ks.drop p):=by
   rw[hp1]
   exact jEX ⟨rfl,tk,rfl⟩ p hp
  have hz1:es1.size=es.size+1:=by
   rw[<- bE,hp1,(jFN es.toList p (hashInt k,Value.int k tk)).length_eq]
   simp
  have hlen:(ks.take p++k::ks.drop p).length=ks.length+1:=(jFN ks p k).length_eq
  have T1':Tab t1 es1.size (ledW w):=by rw[hz1]; exact T1
  have hg:(s.heap.update a (Obj.putSet es1 t1)).get? a=some { o with data:= .set es1 (ep+1) t1} :=by
   have q:=bN (Obj.putSet es1 t1) ho (by rw[putSet_of es1 t1 hd]; rfl)
   rw[putSet_of es1 t1 hd] at q
   exact q
  have fin:Q true { s with heap:=s.heap.update a (Obj.putSet es1 t1)} :=
   h true _ _ (gm ..) ⟨⟨_,es1,ep+1,t1,hg,hex,rfl,hp2,T1'⟩,(jFN ks p k).nodup_iff.mpr (b9.mpr ⟨hnk,S.nd⟩),by lia⟩ (fun z=>jRZ ks p k z) (by lia)
  have hfull:t1.tooFull=false:=T1'.full (by lia)
  refine ae (show wpAny _ A (match gv with | true=>rule "set.scan.the-table-gave-way" | false=>pure ()) _ E s from ?_)
  have hzl:es1.size<=sizeLine:=by rw[hz1,show sizeLine=2 ^ 24 from rfl]; lia
  cases gv with
  | true=>
   refine eJ ?_
   split
   all_goals
    refine ae (show wpAny _ A (pure true:Sem Bool) _ E s from ag ?_)
    simp only [gL]
    refine ae (wpAny_storeSet_of ho hd ?_ hzl)
    rw[hfull,bP,aF ar]
    exact ag (ag fin)
  | false=>
   refine ag ?_
   split
   all_goals
    refine ae (show wpAny _ A (pure true:Sem Bool) _ E s from ag ?_)
    simp only [gL]
    refine ae (wpAny_storeSet_of ho hd ?_ hzl)
    rw[hfull,bP,aF ar]
    exact ag (ag fin)
end
theorem jBY:entryFor table "set.update.loop" =some Builtin.«set.update.loop»:=g9 (by kernel_rfl)
theorem jAT:plainId "set.update.loop" =true:=by decide+kernel
variable {I:Addr}
section
variable {R:Result->Shared->Prop}{fp wr:List Addr}{n:Nat}{P:Nat->Value->Prop}{St:Nat->Shared->Prop}
theorem jOW (W:WalksS prog w A.in1 I fp wr (fun a b=>b=a) n P St)(S:Addr)(hSf:S∉fp)(val:Nat->Int)(hval:∀ i v,P i v->∃ t,v= .int (val i) t)(hv:∀ i,i<n->0<=val i/\val i<32)(hn:n<=4):
  ∀ (k i:Nat) (s:Shared) (ks:List Int),n - i=k->i<=n->St i s->SetG w s.heap S ks->ks.length<=i->(∀ z,z∈ks↔∃ j,j<i/\val j=z)->
   (∀ s' ks',Moved (S::wr) (fun a b=>b=a) s s'->SetG w s'.heap S ks'->(∀ z,z∈ks'↔∃ j,j<n/\val j=z)->R (.ok (.ret .none)) s')->
   codeAny (model prog w) A (.builtin "set.update.loop" ⟨[.ref S, .ref I],[]⟩) R s:=by
 have hSw:S∉wr:=fun h=>hSf (W.sub _ h)
 have sub1:∀ b∈wr,b∈S::wr:=fun b hb=>aA _ hb
 intro k
 induction k with
 | zero=>
  intro i s ks hk hi hst hS hl hm hR
  obtain rfl:i=n:=by lia
  refine bO jBY ?_
  rw[bR jAT _]
  show wpAny _ A.in1 (pyNext (.ref I) >>= _) _ _ s
  refine ae (W.done s _ _ hst fun s' mv=>?_)
  show wpAny _ A.in1 (ret Value.none) _ _ s'
  exact ag (hR s' ks (mv.mono sub1) (hS.at fun o e=>mv.heap S o hSw e) hm)
 | succ k ih=>
  intro i s ks hk hi hst hS hl hm hR
  have hlt:i<n:=by lia
  refine bO jBY ?_
  rw[bR jAT _]
  show wpAny _ A.in1 (pyNext (.ref I) >>= _) _ _ s
  refine ae (W.item i s _ _ hlt hst fun v s' hP hst' mv=>?_)
  obtain⟨t,rfl⟩:=hval i v hP
  have hS':=hS.at (h':=s'.heap) fun o e=>mv.heap S o hSw e
  show wpAny _ A.in1 (holding [Value.int (val i) t] (setAdd S (.int (val i) t)) >>= _) _ _ s'
  refine ae (br ?_)
  unfold setAdd
  refine br (ae (wpAny_pyHash_int ?_))
  refine jVE (s:= { s' with toks:=s'.toks+1}) hS' (by lia) (hv i hlt).1 (hv i hlt).2 fun b h' ks' sb hS2 hm2 hl2=>?_
  refine ag ⟨dJ jAT _,ih (i+1) _ ks' (by lia) hlt (W.frame _ s' _ _ hst' (dO _) fun b hb o e=>?_) hS2 (by lia) (fun z=>?_) fun s'' ks'' mv2 hS3 hm3=>?_⟩
  ·rw[sb.2 b (fun h:b=S=>hSf (by rw[<- h]; exact hb))]
   exact e
  ·rw[hm2,hm]
   constructor
   ·rintro (h | ⟨j,hj,e⟩)
    ·exact⟨i,by lia,h.symm⟩
    ·exact⟨j,by lia,e⟩
   ·rintro ⟨j,hj,e⟩
    by_cases hji:j=i
    ·exact .inl (by rw[<- e,hji])
    ·exact .inr ⟨j,by lia,e⟩
  ·refine hR s'' ks'' (Moved.trans W.gtrans ((mv.mono sub1).then_heap (dO _) fun b o hb e=>?_) mv2) hS3 hm3
   rw[sb.2 b (fun h:b=S=>hb (by rw[h]; exact aw))]
   exact e
end
section
theorem jSW (a:Value){Q:Value->Shared->Prop}
  (h:Q (.ref s.heap.objs.size) { s with heap:=s.heap.push { cls:= .type "set",dict:=none,data:= .set #[] 0 (.fresh 0 0 (ledW w))}}):
  codeAny (model prog w) A (.call (.builtin "set.__new__") ⟨[.type "set",a],[]⟩) (wants Q E) s:=by
 refine codeAny_of_tree (show wpAny _ A.in1 (do checkBuiltinCall "set.__new__" ⟨[.type "set",a],[]⟩; again (.builtin "set.__new__" ⟨[.type "set",a],[]⟩)) _ _ s from ?_)
 refine ae (gO (F.newCall_set_1 a) (ag ⟨dJ F.plain_set_new _,bO F.entry_set_new ?_⟩))
 rw[bR F.plain_set_new _]
 unfold Builtin.«set.__new__» Builtin.Frozenset.newClass
 have q:=sub_set_self
 obtain⟨hp,g,d,tk,os⟩:=s
 dsimp only
 wp_walk
 refine dS (ag ?_)
 dsimp only
 simp only [newObj]
 exact ae (wpAny_alloc (ag (ag h)))
set_option maxHeartbeats 3200000 in
theorem set_of_list {l:Addr}{items:Array Value}{ns:List Int}{Q:Value->Shared->Prop}(hh:A.handled=none)(hl:s.heap.IsList l items)(hi:PyProof.Rows.IntsAre items.toList ns)
  (hn:items.size<=4) (hv:∀ z∈ns,0<=z/\z<32)
  (h:∀ (h':Heap) (tk:Nat) (ks:List Int),SetG w h' s.heap.objs.size ks->(∀ z,z∈ks↔z∈ns)->(∀ b o,s.heap.get? b=some o->h'.get? b=some o)->Q (.ref s.heap.objs.size) { s with heap:=h',toks:=tk}):
  wpAny (model prog w) A (call (.type "set") [.ref l]) Q E s:=by
 obtain⟨c,tl,hmro⟩:=F.called_set.mro
 have hmade:=F.called_set.made
 have hsub:=F.called_set.sub
 have g1:=F.called_set.notType
 have g2:=F.called_set.canCreate
 have g3:=F.typeCall_set_1 (.ref l)
 refine fz (codeAny_of_tree (show wpAny _ _ (callAny (.type "set") _) _ _ _ from ?_))
 refine ag ⟨Code.quiet_builtin _ (by decide+kernel),bO F.entry_type_call ?_⟩
 rw[Around.under_plain (weight_type_call_type "set" [.ref l] []) rfl]
 repeat (any_goals (first | assumption | wp_step))
 have hlen:items.size=ns.length:=by rw[<- bE]; exact hi.length
 refine dF (jSW (.ref l) (E:=E) (Q:=fun obj z=>obj= .ref s.heap.objs.size/\z= { s with heap:=s.heap.push { cls:= .type "set",dict:=none,data:= .set #[] 0 (.fresh 0 0 (ledW w))}}) ⟨rfl,rfl⟩) fun r z hr=>?_
 cases r with
 | error e=>exact hr
 | ok fl=>
  cases fl with
  | ret obj=>
   obtain⟨rfl,rfl⟩:=hr
   generalize hO:({ cls:= .type "set",dict:=none,data:= .set #[] 0 (.fresh 0 0 (ledW w))} :Obj)=oS
   have hS:(s.heap.push oS).get? s.heap.objs.size=some oS:=am _ (by rw[<- hO]; rfl)
   have hT:Shared.TypeIs { s with heap:=s.heap.push oS} (.ref s.heap.objs.size) "set" :=⟨_,hS,by rw[<- hO]⟩
   have hli:=F.called_set.init.lookup
   have hbi:=F.called_set.init.bind (.ref s.heap.objs.size)
   repeat (any_goals (first | assumption | wp_step))
   refine dF (codeAny_call_builtin (R:=wants (fun r z2=>r= .none/\∃ h' tk ks,z2= { s with heap:=h',toks:=tk} /\SetG w h' s.heap.objs.size ks/\(∀ z,z∈ks↔z∈ns)/\(∀ b o,s.heap.get? b=some o->h'.get? b=some o)) E)
    F.called_set.init.plain F.entry_set_init (check_set_init_1 hT ?_)) fun r2 z2 hr2=>?_
   ·obtain⟨ol,hol,hcl,nl,hdl⟩:=hl
    obtain⟨ocls,odict,odata,oslots⟩:=ol
    simp only at hcl hdl
    subst hcl; subst hdl
    have hol':(s.heap.push oS).get? l=some { cls:= .type "list",dict:=odict,data:= .seq items nl,slots:=oslots} :=af _ hol
    have y1:=F.sub_list_set
    have y2:=F.sub_list_frozenset
    have y3:(Value.type "list" ==Value.type "dict")=false:=by decide
    have hl1:(s.heap.push oS).IsList l items:=⟨_,hol',rfl,nl,rfl⟩
    subst hO
    unfold Builtin.«set.__init__» noKeywords Builtin.Frozenset.updateFrom
    generalize hPI:pyIter=PI
    wp_walk
    subst hPI
    refine cL hl1 (ae (fb ?_))
    have hlS:l<s.heap.objs.size:=ak hol
    have hz1:(s.heap.push { cls:= .type "set",dict:=none,data:= .set #[] 0 (.fresh 0 0 (ledW w))}).objs.size=s.heap.objs.size+1:=bG _ _
    have nI:l≠(s.heap.push { cls:= .type "set",dict:=none,data:= .set #[] 0 (.fresh 0 0 (ledW w))}).objs.size:=by
     rw[hz1]
     exact aG (bQ hlS)
    have nS:s.heap.objs.size∉ [(s.heap.push { cls:= .type "set",dict:=none,data:= .set #[] 0 (.fresh 0 0 (ledW w))}).objs.size,l]:=by
     rw[hz1]
     simp only [az,bz,dh,iX]
     exact⟨aG (ce _),de hlS⟩
    have hget:((s.heap.push { cls:= .type "set",dict:=none,data:= .set #[] 0 (.fresh 0 0 (ledW w))}).push { cls:= .type "list_iterator",data:= .fields #[.ref l, .int 0 0]}).get? s.heap.objs.size
      =some { cls:= .type "set",dict:=none,data:= .set #[] 0 (.fresh 0 0 (ledW w))} :=af _ hS
    refine jOW ((ie (by simp [hh]) _ l nI items).toS) s.heap.objs.size nS (fun i=>ns.getD i 0) (fun i v q=>PyProof.Rows.IntsAre.int_at hi i v (by rw[fo]; exact q))
     (fun i q=>hv _ ?_) hn (items.size - 0) 0 _ [] rfl (bh _) ⟨⟨_,am _ rfl,rfl,rfl⟩,hl1.push _⟩ ⟨⟨_,#[],0,_,hget,⟨rfl,rfl,rfl⟩,rfl, .nil,jLP _⟩,gE,bh _⟩ (ai _) (fun z=>⟨fun q=>by(cases q),fun ⟨j,q,_⟩=>absurd q (cN _)⟩) ?_
    ·have q':i<ns.length:=by rw[<- hlen]; exact q
     simp [List.getD,q']
    ·intro s' ks mv S' hm
     obtain⟨h',g',d',tk',os'⟩:=s'
     have e1:g'=s.gens:=mv.gens
     have e2:d'=s.drawn:=mv.drawn
     have e3:os'=s.os:=mv.os
     subst e1; subst e2; subst e3
     refine ag (ag ⟨rfl,h',tk',ks,rfl,S',fun z=>?_,fun b o e=>?_⟩)
     ·rw[hm]
      constructor
      ·rintro ⟨j,hj,e⟩
       have hj':j<ns.length:=by rw[<- hlen]; exact hj
       rw[<- e]
       simp [List.getD,hj']
      ·intro hz
       obtain⟨j,hj,e⟩:=cz hz
       exact⟨j,by rw[hlen]; exact hj,by simp [List.getD,hj,e]⟩
     ·have hb:=ak e
      refine mv.heap b o ?_ (af _ (af _ e))
      rw[hz1]
      simp only [az,bz,dh,iX]
      exact⟨aG hb,aG (bQ hb)⟩
   ·cases r2 with
    | error e=>exact hr2
    | ok fl2=>
     cases fl2 with
     | ret r=>
      obtain⟨rfl,h',tk,ks,rfl,hS',hm,hk⟩:=hr2
      repeat (any_goals (first | assumption | wp_step))
      exact h _ _ _ hS' hm hk
     | _=>exact hr2.elim
  | _=>exact hr.elim
end
theorem slot_si_next:Slot "set_iterator" "__next__" "set_iterator.__next__" :=
 .of (owner:= "set_iterator") (n:= "__next__") (by
   rw[im,fq]
   kernel_rfl) (by decide+kernel) (by decide+kernel)
  (by decide+kernel)
  (by first
   | exact .inl (by decide+kernel)
   | exact .inr (by decide+kernel))
  (by
   rw[iy]
   kernel_rfl)
theorem jD0:Slot "set_iterator" "__iter__" "set_iterator.__iter__" :=
 .of (owner:= "set_iterator") (n:= "__iter__") (by
   rw[im,fq]
   kernel_rfl) (by decide+kernel) (by decide+kernel)
  (by decide+kernel)
  (by first
   | exact .inl (by decide+kernel)
   | exact .inr (by decide+kernel))
  (by
   rw[iy]
   kernel_rfl)
theorem jCD:entryFor table "set_iterator.__next__" =some Builtin.«set_iterator.__next__»:=entryFor_of_tree (by kernel_rfl)
theorem jEN:entryFor table "set.__iter__" =some Builtin.«frozenset.__iter__»:=
 entryFor_alias (id':= "frozenset.__iter__") (by kernel_rfl) rfl (by decide+kernel) (by kernel_rfl)
theorem jG7:entryFor table "set_iterator.__iter__" =some Builtin.«dict_keyiterator.__iter__»:=
 entryFor_alias (id':= "dict_keyiterator.__iter__") (by kernel_rfl) (by first | rfl | decide+kernel | (unfold String.splitOn; simp+decide [String.splitOnAux])) (by decide+kernel)
  (by kernel_rfl)
theorem jDC (a:Value):argsOk "set_iterator.__next__" ⟨[a],[]⟩:=by unfold argsOk; kernel_rfl
theorem jHZ (a:Value):argsOk "set_iterator.__iter__" ⟨[a],[]⟩:=by unfold argsOk; kernel_rfl
theorem jGF (a:Value):argsOk "set.__iter__" ⟨[a],[]⟩:=by unfold argsOk; kernel_rfl
abbrev byTxt (w:World):Bool:=w.params.followText "set-order"
abbrev IsSI (h:Heap)(I:Addr)(slot i:Nat)(a:Addr)(n ep:Nat):Prop:=
 h.get? I=some { cls:= .type "set_iterator",dict:=none,data:= .fields #[rawInt slot,rawInt i, .ref a,rawInt n,rawInt ep],slots:=#[]}
def qW (w:World)(t:SetTable)(i:Nat):Nat:=if byTxt w=true then 0 else jJ5 t.place i
noncomputable def told (w:World)(a:Addr)(ep:Nat)(es:Array (Int×Value)):List Value:=(if byTxt w=true then (pickOrder (w.params.setOrder a ep) es).toList else es.toList).map (·.2)
theorem jAY (w:World)(a:Addr)(ep:Nat)(es:Array (Int×Value)):(told w a ep es).length=es.size:=by
 unfold told
 rw[ac]
 split
 ·rw[(jGS _ es).length_eq]; simp
 ·simp
theorem jLM (w:World)(a:Addr)(ep:Nat)(es:Array (Int×Value)):(told w a ep es).Perm (es.toList.map (·.2)):=by
 unfold told
 split
 ·exact(jGS _ es).map _
 ·exact .refl _
variable {o:Obj}{es:Array (Int×Value)}{ep:Nat}{t:SetTable}
theorem jMQ {i:Nat}{Q:Option (Value×Nat)->Shared->Prop}(ho:s.heap.get? a=some o)(hd:o.data= .set es ep t)(T:Tab t es.size (ledW w))(hn:es.size<=4)(hi:i<=es.size)
  (h:Q ((told w a ep es)[i]?.map fun v=>(v,qW w t (i+1))) s):wpAny (model prog w) A (setNext a (qW w t i) i ep) Q E s:=by
 unfold setNext
 refine ae (cM ho hd (T.fits hn) ?_)
 dsimp only
 unfold setsByText
 refine ae (ae (dS (ag ?_)))
 show wpAny _ A (if byTxt w=true then _ else _) Q E s
 have hl:=jAY w a ep es
 by_cases hb:byTxt w=true
 ·rw[aD hb,aF (by simp)]
  unfold setWalk
  refine ae (ae (cM ho hd (T.fits hn) ?_))
  dsimp only
  unfold setsByText
  refine ae (ae (dS (ag ?_)))
  show wpAny _ A (if byTxt w=true then _ else _) _ E s
  rw[aD hb]
  refine ae (dS (ag (ag ?_)))
  have e:(told w a ep es)[i]?.map (fun v=>(v,qW w t (i+1)))=(pickOrder (w.params.setOrder a ep) es)[i]?.map (fun e=>(e.snd,qW w t i)):=by
   unfold told qW
   rw[aD hb,aD hb,aD hb,ay,fo,Option.map_map]
   rfl
  rw[e] at h
  exact h
 ·rw[aF hb]
  have hb':byTxt w=false:=by simpa using hb
  have hld:t.led=true:=by rw[T.ld]; show (!byTxt w)=true; rw[hb']; rfl
  show wpAny _ A (if (!t.plain&&decide (es.size>1))=true then _ else _) Q E s
  rw[T.pl,gX,dy,aF ar]
  refine ae ?_
  show wpAny _ A (if (!t.led&&!es.isEmpty)=true then _ else pure ()) _ E s
  rw[hld,gX,dy,aF ar]
  refine ag (ag ?_)
  have eb:SetTable.below t.place (qW w t i)=i:=by
   unfold qW
   rw[aF hb]
   exact jHY T.ris (by rw[T.sz]; exact hi)
  rw[eb]
  have et:(told w a ep es)[i]?=es[i]?.map (·.2):=by
   unfold told
   rw[aF hb,ay,fo]
  rw[et] at h
  by_cases hlt:i<es.size
  ·have h1:es[i]?=some es[i]:=by simp [hlt]
   have hlt2:i<t.place.size:=by rw[T.sz]; exact hlt
   have h2:t.place[i]?=some t.place[i]:=by simp [hlt2]
   have h3:qW w t (i+1)=t.place[i]+1:=by
    unfold qW jJ5
    rw[aF hb]
    simp [Array.getD,hlt2]
   rw[h1,h3] at h
   rw[h1,h2]
   exact h
  ·have h1:es[i]?=none:=by simp; lia
   rw[h1] at h
   rw[h1]
   exact h
theorem jGQ {i:Nat}{v:Value}{Q:Option Value->Shared->Prop}(ho:s.heap.get? a=some o)(hd:o.data= .set es ep t)(T:Tab t es.size (ledW w))(hn:es.size<=4)
  (hit:IsSI s.heap I (qW w t i) i a es.size ep) (hv:(told w a ep es)[i]?=some v)
  (hQ:∀ h',IsSI h' I (qW w t (i+1)) (i+1) a es.size ep->Heap.SameBut I s.heap h'->Q (some v) { s with heap:=h'}):wpAny (model prog w) A (pyNext (.ref I)) Q E s:=by
 have hT:s.TypeIs (.ref I) "set_iterator" :=⟨_,hit,rfl⟩
 have hi:i<es.size:=by
  rw[<- jAY w a ep es]
  exact(av.mp hv).1
 unfold pyNext
 refine ae (dL (bw (name:=Str.ofString "__next__") hT slot_si_next (bD slot_si_next hT jCD ?_ (jDC _))))
 unfold Builtin.«set_iterator.__next__»
 refine ae (m:=slotArgs "__next__" 0 _) (ag ?_)
 dsimp only
 unfold fieldsOf
 refine ae (ae (fw hit ?_))
 refine ag ?_
 dsimp only [rawInt]
 unfold setEntries
 refine ae (ae (cM ho hd (T.fits hn) (ag ?_)))
 rw[aF (by simp)]
 simp only [bp]
 refine ae (jMQ ho hd T hn (cF hi) ?_)
 rw[hv]
 dsimp only [Option.map]
 refine ae (ck hit (by simp) fun h1 hit1 sb1=>?_)
 refine ae (ck hit1 (by simp) fun h2 hit2 sb2=>?_)
 refine ag ⟨v,rfl,ag (hQ h2 ?_ (sb1.trans sb2))⟩
 show h2.get? I=_
 rw[hit2]
 simp [rawInt]
theorem jI5 {Q:Option Value->Shared->Prop}(hh:A.handled=none)(ho:s.heap.get? a=some o)(hd:o.data= .set es ep t)(T:Tab t es.size (ledW w))(hn:es.size<=4)
  (hit:IsSI s.heap I (qW w t es.size) es.size a es.size ep)
  (hQ:∀ h',Heap.ExtBut I s.heap h'->Q none { s with heap:=h'}):wpAny (model prog w) A (pyNext (.ref I)) Q E s:=by
 have hT:s.TypeIs (.ref I) "set_iterator" :=⟨_,hit,rfl⟩
 unfold pyNext
 refine ae (dL (bw (name:=Str.ofString "__next__") hT slot_si_next (bD slot_si_next hT jCD ?_ (jDC _))))
 unfold Builtin.«set_iterator.__next__»
 refine ae (m:=slotArgs "__next__" 0 _) (ag ?_)
 dsimp only
 unfold fieldsOf
 refine ae (ae (fw hit ?_))
 refine ag ?_
 dsimp only [rawInt]
 unfold setEntries
 refine ae (ae (cM ho hd (T.fits hn) (ag ?_)))
 rw[aF (by simp)]
 simp only [bp]
 refine ae (jMQ ho hd T hn (ai _) ?_)
 rw[cX (by rw[jAY]; exact ai _)]
 dsimp only [Option.map]
 refine ae (ck hit (by simp) fun h1 hit1 sb1=>?_)
 refine ae ?_
 simp only [newExc,newTuple]
 refine ae (aU ?_ (by size_fits))
 refine ae (m:=firstArgMember _ _) (gO (a:=Value.none) (by first | rfl | (simp only [firstArgMember]; rfl)) ?_)
 refine aU ?_ (by size_fits)
 simp only [raiseNew]
 refine ae (wpAny_handled ?_)
 rw[show A.in1.handled=none from hh]
 refine ae (ag (wpAny_throw ?_))
 refine ae (fE (T:= "StopIteration") (b:=true) ⟨_,am _ rfl,rfl⟩ iz ?_)
 exact ag (hQ _ ((sb1.extBut.push _).push _))
theorem jRS {i:Nat}{slot n:Nat}{Q:Value->Shared->Prop}(hit:IsSI s.heap I slot i a n ep)(h:Q (.ref I) s):wpAny (model prog w) A (pyIter (.ref I)) Q E s:=by
 have hT:s.TypeIs (.ref I) "set_iterator" :=⟨_,hit,rfl⟩
 refine wpAny_pyIter_slot hT jD0 (bD jD0 hT jG7 ?_ (jHZ _))
 show wpAny _ _ (ret (.ref I)) _ _ s
 exact ag ⟨_,rfl,"set_iterator",_,hT,slot_si_next.lookup,h⟩
theorem jOZ {Q:Value->Shared->Prop}(hx:o.ExactSet)(ho:s.heap.get? a=some o)(hd:o.data= .set es ep t)(T:Tab t es.size (ledW w))(hn:es.size<=4)
  (hQ:∀ h',h'.get? s.heap.objs.size=some { cls:= .type "set_iterator",dict:=none,data:= .fields #[rawInt (qW w t 0),rawInt 0, .ref a,rawInt es.size,rawInt ep],slots:=#[]} ->(∀ b u,s.heap.get? b=some u->h'.get? b=some u)->
   h'.objs.size=s.heap.objs.size+1->Q (.ref s.heap.objs.size) { s with heap:=h'}):wpAny (model prog w) A (pyIter (.ref a)) Q E s:=by
 have hT:s.TypeIs (.ref a) "set" :=⟨o,ho,hx.1⟩
 refine wpAny_pyIter_slot hT iw (bD iw hT jEN ?_ (jGF _))
 unfold Builtin.«frozenset.__iter__»
 refine ae (show wpAny _ _ (pure a:Sem Addr) _ _ s from ag ?_)
 unfold Builtin.Frozenset.sizeOf setEntries
 refine ae (ae (ae (cM ho hd (T.fits hn) (ag (ag ?_)))))
 dsimp only
 unfold setDrawn
 refine ae (ae (cM ho hd (T.fits hn) ?_))
 dsimp only
 unfold setsByText
 refine ae (ae (dS (ag (ag ?_))))
 show wpAny _ _ (if (!byTxt w&&(!t.plain&&decide (es.size>1)))=true then _ else _) _ _ s
 rw[T.pl,gX,dy,bP,aF ar]
 refine ae (ag ?_)
 refine ae (wpAny_setEpoch_of ho hd (T.fits hn) ?_)
 refine ae (aU (ag ⟨_,rfl,"set_iterator",_,⟨_,am _ rfl,rfl⟩,slot_si_next.lookup,hQ _ ?_ (fun b u e=>af _ e) (bG _ _)⟩) (by size_fits))
 have e0:qW w t 0=0:=by unfold qW jJ5; split <;> rfl
 rw[e0]
 exact am _ rfl
theorem jLD (hh:A.handled=none)(hne:a≠I)(hd:o.data= .set es ep t)(T:Tab t es.size (ledW w))(hn:es.size<=4):
  Walks prog w A I [I,a] [I] es.size (fun i v=>(told w a ep es)[i]?=some v) (fun i h=>IsSI h I (qW w t i) i a es.size ep/\h.get? a=some o) where
 sub:=fun b hb=>by simp at hb; simp [hb]
 frame:=fun _ _ _ st hk=>⟨hk I (by simp) _ st.1,hk a (by simp) _ st.2⟩
 item:=fun i s Q E hi st hQ=>by
  obtain⟨v,hv⟩:∃ v,(told w a ep es)[i]?=some v:=⟨_,aK (by rw[jAY]; exact hi)⟩
  exact jGQ st.2 hd T hn st.1 hv fun h' hit' sb=>hQ v h' s.toks hv ⟨hit',(sb.2 a hne).trans st.2⟩ fun b o hb e=>(sb.2 b (fun z=>hb (by simp [z]))).trans e
 done:=fun s Q E st hQ=>jI5 hh st.2 hd T hn st.1 fun h' eb=>hQ h' s.toks fun b o hb e=>eb b o (fun z=>hb (by simp [z])) e
 self:=fun _ _ _ _ st hQ=>jRS st.1 hQ
theorem jGO:typeLookup (.type "set") "__len__" =pure (some (.builtin "set.__len__")):=by rw[im,fq]; kernel_rfl
theorem jQ8 {Q:Bool->Shared->Prop}(hT:s.TypeIs (.ref a) "set")(h:Q false s):wpAny (model prog w) A (Builtin.List.listLengthHint (.ref a)) Q E s:=by
 unfold Builtin.List.listLengthHint
 refine ae (wpAny_specialOf hT jGO ?_)
 generalize hid:("set.__len__" :String)=id0
 wp_delta
 rw[show splitId id0=some ("set","__len__") from by subst hid; decide+kernel]
 subst hid
 refine ae (fE (b:=true) hT (by rw[iy]; kernel_rfl) ?_)
 refine wpAny_ite_split (fun q=>absurd q (by decide)) (fun _=>?_)
 refine wpAny_ite_split (fun _=>?_) (fun q=>absurd (by decide+kernel) q)
 exact ae (dg hT (ag h))
theorem jIR {Q:List Value->Shared->Prop}(hh:A.handled=none)(hx:o.ExactSet)(ho:s.heap.get? a=some o)(hd:o.data= .set es ep t)(T:Tab t es.size (ledW w))(hn:es.size<=4)
  (hQ:∀ s',(∀ b u,s.heap.get? b=some u->s'.heap.get? b=some u)->s'.gens=s.gens->s'.drawn=s.drawn->s'.os=s.os->s.heap.objs.size<s'.heap.objs.size->Q (told w a ep es) s'):wpAny (model prog w) A (collect (.ref a)) Q E s:=by
 have ha:a<s.heap.objs.size:=ak ho
 have hSa:s.heap.objs.size≠a:=de ha
 unfold collect
 refine ae (fb (bO PySem.F.entry_proto_collect ?_))
 rw[bR PySem.F.plain_proto_collect _]
 show wpAny _ A.in1 (newList [] >>= fun l=>again (.builtin "list.__iadd__" ⟨[l, .ref a],[]⟩)) _ _ s
 refine ae (aU (ag ⟨dJ hG _,bO PySem.F.entry_list_iadd ?_⟩))
 rw[bR hG _]
 generalize hE:({ s with heap:=s.heap.push { cls:= .type "list",dict:=none,data:= .seq ([]:List Value).toArray}} :Shared)=s1
 have ho1:s1.heap.get? a=some o:=by rw[<- hE]; exact af _ ho
 have hL1:s1.heap.get? s.heap.objs.size=some { cls:= .type "list",dict:=none,data:= .seq ([]:List Value).toArray} :=by rw[<- hE]; exact am _ rfl
 have hz1:s1.heap.objs.size=s.heap.objs.size+1:=by rw[<- hE]; exact bG _ _
 have hT1:s1.TypeIs (.ref a) "set" :=⟨o,ho1,hx.1⟩
 show wpAny _ A.in1 (Builtin.List.listExtendWith (.ref s.heap.objs.size) (.ref a) (.ref s.heap.objs.size)) _ _ _
 unfold Builtin.List.listExtendWith
 refine ae (dg hT1 ?_)
 have q1:Builtin.List.listSameRef (.ref s.heap.objs.size) (.ref a)=false:=by simp [Builtin.List.listSameRef,hSa]
 rw[aF (by rw[q1]; decide)]
 refine ae (jOZ hx ho1 hd T hn fun h2 hI2 k2 z2=>?_)
 refine ae (br ?_)
 have ho2:h2.get? a=some o:=k2 _ _ ho1
 have hT2:Shared.TypeIs { s1 with heap:=h2} (.ref a) "set" :=⟨o,ho2,hx.1⟩
 have hL2:=k2 _ _ hL1
 refine jQ8 hT2 ?_
 rw[aD (by decide+kernel)]
 refine ae (eJ ?_)
 have hne:s.heap.objs.size≠s1.heap.objs.size:=by lia
 refine ae ?_
 show wpAny _ A.in1 (updateSeq s.heap.objs.size (·.push .none) >>= fun _=>updateSeq s.heap.objs.size (·.pop)) _ _ _
 refine ae (wpAny_updateSeq hL2 rfl ?_)
 have hL3:=bN (Obj.mapSeq (·.push Value.none)) hL2 rfl
 refine wpAny_updateSeq hL3 rfl ?_
 have hL4:=bN (Obj.mapSeq (·.pop)) hL3 rfl
 have oth:∀ b u,b≠s.heap.objs.size->h2.get? b=some u->((h2.update s.heap.objs.size (Obj.mapSeq (·.push Value.none))).update s.heap.objs.size (Obj.mapSeq (·.pop))).get? b=some u:=
  fun b u hb e=>(bF _ _ (cS hb)).trans ((bF _ _ (cS hb)).trans e)
 have W:=(jLD (prog:=prog) (A:=A.in1) (a:=a) (I:=s1.heap.objs.size) hh (aG (show a<s1.heap.objs.size by rw[hz1]; exact bQ ha)) hd T hn).toS
 have z24:es.size<=sizeLine:=by rw[show sizeLine=2 ^ 24 from rfl]; lia
 refine ag ⟨dJ PySem.F.plain_extend_loop _,codeAny_extend_loopS W z24 s.heap.objs.size (by simp [hne,hSa]) _ es.size 0 _ _ _ rfl (bh _) ⟨oth _ _ (cS hne) hI2,oth _ _ (cS hSa) ho2⟩ hL4 (ItemsOf.nil _) fun s' acc' c' hm hS' hacc=>?_⟩
 show wpAny _ A (load s.heap.objs.size >>= _) _ _ s'
 refine ae (fw hS' ?_)
 have eacc:acc'.toList=told w a ep es:=by
  apply List.ext_getElem?
  intro i
  by_cases hi:i<es.size
  ·have hi':i<acc'.size:=by rw[hacc.1]; exact hi
   have:=hacc.2 i acc'[i] (by simp [hi'])
   rw[this]
   simp [hi']
  ·rw[cX (by rw[bE,hacc.1]; lia),cX (by rw[jAY]; lia)]
 refine ag ?_
 rw[eacc]
 refine hQ s' (fun b u e=>?_) ?_ ?_ ?_ (ak hS')
 ·have hb:b≠s.heap.objs.size:=aG (ak e)
  have hb1:b≠s1.heap.objs.size:=aG (show b<s1.heap.objs.size by rw[hz1]; exact bQ (ak e))
  exact hm.heap b u (by simp [hb,hb1]) (oth b u hb (k2 b u (by rw[<- hE]; exact af _ e)))
 ·have:=hm.gens; rw[<- hE] at this; exact this
 ·have:=hm.drawn; rw[<- hE] at this; exact this
 ·have:=hm.os; rw[<- hE] at this; exact this
end SS
namespace SS
open PySem PyProof.Rows
section
variable {prog:Program}{w:World}{A:Around}{E:Value->Shared->Prop}{s:Shared}{a:Addr}{ks:List Int}
theorem jNL:∀ {vs:List Value}{ks:List Int},Paired (fun v k=>∃ t,v=Value.int k t) vs ks->IntsAre vs ks
 | _,_, .nil=> .nil
 | _,_, .cons ⟨t,e⟩ r=>by subst e; exact .cons _ t (jNL r)
theorem jEY {es:List (Int×Value)} :∀ {ks:List Int},Paired El es ks->Paired (fun v k=>∃ t,v=Value.int k t) (es.map (·.2)) ks
 | _, .nil=> .nil
 | _, .cons ⟨_,q⟩ r=> .cons q (jEY r)
theorem jIA {α β:Type}{F:α->β->Prop}{l l':List α}(p:l'.Perm l):∀ {r:List β},Paired F l r->∃ r',Paired F l' r'/\r'.Perm r:=by
 induction p with
 | nil=>intro r h; cases h; exact⟨[], .nil, .nil⟩
 | cons x _ ih=>
  intro r h
  cases h with
  | cons f t=>
   obtain⟨r',h1,h2⟩:=ih t
   exact⟨_::r', .cons f h1,h2.cons _⟩
 | swap x y l=>
  intro r h
  cases h with
  | cons f t=>
   cases t with
   | cons g t=>exact⟨_, .cons g (.cons f t), .swap _ _ _⟩
 | trans _ _ ih1 ih2=>
  intro r h
  obtain⟨r1,h1,h2⟩:=ih2 h
  obtain⟨r2,h3,h4⟩:=ih1 h1
  exact⟨r2,h3,h4.trans h2⟩
theorem sorted_set {Q:Value->Shared->Prop}(hh:A.handled=none)(S:SetG w s.heap a ks)
  (h:∀ (s':Shared) (l:Addr) (vs:List Value) (ns:List Int) (e:Nat),s.heap.objs.size<=l->(∀ b u,s.heap.get? b=some u->s'.heap.get? b=some u)->s'.gens=s.gens->s'.drawn=s.drawn->s'.os=s.os->
   s'.heap.get? l=some { cls:= .type "list",data:= .seq vs.toArray e} ->IntsAre vs ns->ns.Perm ks->ns.Pairwise (· <= ·)->Q (.ref l) s'):
  wpAny (model prog w) A (call (.builtin "sorted") [.ref a]) Q E s:=by
 obtain⟨o,es,ep,t,ho,hex,hd,hp,T⟩:=S.ex
 have hn:es.size<=4:=by
  have:=gR hp
  rw[bE] at this
  have:=S.len
  lia
 refine gJ kind_sorted plain_sorted entry_sorted (args_sorted1 _) ?_
 unfold Builtin.«sorted»
 refine ae (m:=checkCount "sorted" 1 1 _) (ag ?_)
 refine ae (jIR (A:=A.in1) hh hex ho hd T hn fun s1 k1 g1 d1 o1 z1=>?_)
 refine ae (wpAny_newList ?_ (by rw[jAY,show sizeLine=2 ^ 24 from rfl]; lia))
 obtain⟨ks1,hp1,pm1⟩:=jIA (jLM w a ep es) (jEY hp)
 have hI:=jNL hp1
 have hl:(told w a ep es).length<64:=by rw[jAY]; lia
 have hL:(s1.heap.push (seqObj "list" (told w a ep es).toArray 0)).get? s1.heap.objs.size=some (seqObj "list" (told w a ep es).toArray 0):=am _ rfl
 show wpAny _ _ _ _ _ { s1 with heap:=s1.heap.push (seqObj "list" (told w a ep es).toArray 0)}
 refine ae (br (bD slot_list_sort ⟨_,hL,rfl⟩ entry_list_sort (list_sort_tree hL hI hl fun out ns' a1 a2 a3=>⟨_,rfl,?_⟩) (args_list_sort _)))
 obtain⟨e,he⟩:=sortedHeap_at (out:=out) hL
 have kept:∀ b u,s.heap.get? b=some u->(sortedHeap (s1.heap.push (seqObj "list" (told w a ep es).toArray 0)) s1.heap.objs.size (told w a ep es) out).get? b=some u:=fun b u q=>by
  have q1:=k1 b u q
  have hb:b<s1.heap.objs.size:=ak q1
  rw[sortedHeap_old (aG hb) (by rw[size_push']; exact bQ hb)]
  exact af _ q1
 generalize sortedHeap (s1.heap.push (seqObj "list" (told w a ep es).toArray 0)) s1.heap.objs.size (told w a ep es) out=hf at he kept ⊢
 exact ag ⟨_,rfl,h { s1 with heap:=hf} s1.heap.objs.size out.toList ns' e (cF z1) kept g1 d1 o1 (by rw[cJ]; exact he) a1 (a2.trans pm1) a3⟩
end
end SS
namespace L2
open PySem PySem.Spec PyProof.Rows
variable {es xs:List Expr}{env:Env}{a b:Expr}{pos:Pos}
section
variable {ys:List Expr}
theorem yU {op:Operator} :starEach (.BinOp a op b pos::es) env=(false,eval (.BinOp a op b pos) env)::starEach es env:=rfl
theorem se_un {op:UnaryOp} :starEach (.UnaryOp op a pos::es) env=(false,eval (.UnaryOp op a pos) env)::starEach es env:=rfl
theorem jQU {ops:List CmpOp} :starEach (.Compare a ops xs pos::es) env=(false,eval (.Compare a ops xs pos) env)::starEach es env:=rfl
theorem jG {kw:List Keyword} :starEach (.Call a xs kw pos::es) env=(false,eval (.Call a xs kw pos) env)::starEach es env:=rfl
theorem jI:starEach (.Subscript a b pos::es) env=(false,eval (.Subscript a b pos) env)::starEach es env:=rfl
theorem jR {gs sc} :starEach (.ListComp a gs sc pos::es) env=(false,eval (.ListComp a gs sc pos) env)::starEach es env:=rfl
theorem jBT {x1} :starEach (.Tuple xs x1 pos::es) env=(false,eval (.Tuple xs x1 pos) env)::starEach es env:=rfl
theorem jEU:starEach (.List xs pos::es) env=(false,eval (.List xs pos) env)::starEach es env:=rfl
theorem jU {c k} :starEach (.Constant c k pos::es) env=(false,eval (.Constant c k pos) env)::starEach es env:=rfl
theorem j6 {x:Str} :starEach (.Name x pos::es) env=(false,eval (.Name x pos) env)::starEach es env:=rfl
end
variable {X:Cx}
def CDivL (i j:Int):Prop:=0<j/\j<2 ^ 64
theorem jJD:OpR X (binaryOp .FloorDiv) (rI CDivL fun i j=> .int (i / j)):=opI fun i j _ _ _ _ _ hc q=>by
 have h1:(0:Int)<j:=hc.1
 have h2:j<2 ^ 64:=hc.2
 refine floordiv_int (by lia) (by rw[gx i (by lia)]; exact q) (.inl (PyProof.noPylong_of_log2 ?_))
 have h3:j.natAbs<2 ^ 64:=by lia
 have h4:j.natAbs≠0:=by lia
 have:=(Nat.log2_lt h4).mpr h3
 lia
theorem jAB:yO X (.builtin "isinstance") (fun xs H Q=>∃ x T t b,xs=[x, .ty T]/\TyOf X.K H x t/\kitOne X.K t (.type T)=some b/\Q (.bl b) H):=by
 intro ad s σ H xs us Q I r h
 obtain⟨x,T,t,b,rfl,ty,e,q⟩:=h
 obtain⟨u,v,rfl,ru,rv⟩:=r.two
 cases rv
 exact jNK I ru ty e fun tk=>⟨.bl b,H,I.tok tk,rfl,q⟩
def jRV:V->List V->Hp->VK->Prop:=fun x vs H Q=>∃ l xs i y,x= .ref l/\vs=[.int i,y]/\H l=some (.lst xs)/\0<=i/\i<=xs.length/\xs.length<sizeLine/\Q .non (upd H l (.lst (xs.take i.toNat++y::xs.drop i.toNat)))
theorem Vals.put {y:V}{v:Value}(r:RelV y v){xs:List V}{us:List Value}(h:Vals xs us)(k:Nat):Vals (xs.take k++y::xs.drop k) (us.take k++v::us.drop k):=(h.take k).append (.cons r (h.drop k))
theorem jMZ:MtM X "list.insert" jRV:=by
 intro ad s σ H x vs v us Q I rx rv h
 obtain⟨l,xs,i,y,rfl,rfl,hH,h0,h1,hz,q⟩:=h
 cases rx
 obtain⟨a,b,rfl,ra,rb⟩:=rv.two
 obtain⟨t,rfl⟩:=ra
 obtain⟨z,its,n,r,hl,e⟩:=I.lstM hH
 have line:=jH5
 have hf:Builtin.List.listFitsIndex i=true:=fitsIndex_both (by lia) (by lia)
 refine gC F.slot_list_insert ⟨_,e,rfl⟩ F.entry_list_insert (F.args_list_insert_3 _ _ _) (AutoSeq1.list_insert_list_int_val_1 l its.toArray n i t b (by simp [hf]) (by rw[aj]; lia)) ⟨e,?_⟩
 refine⟨.non,_,I.lset (its':=its.take i.toNat++b::its.drop i.toNat) hH e ?_ (Vals.put rb r i.toNat) ?_,rfl,q⟩
 ·have hk:(if i<0 then (i+(its.toArray.size:Int)).toNat else min i.toNat its.toArray.size)=i.toNat:=by
   rw[aF (by lia),aj]
   lia
  show (its.toArray.extract 0 (if i<0 then (i+(its.toArray.size:Int)).toNat else min i.toNat its.toArray.size)).push b++its.toArray.extract (if i<0 then (i+(its.toArray.size:Int)).toNat else min i.toNat its.toArray.size)=_
  rw[hk]
  apply Array.ext'
  simp [List.extract_eq_take_drop,bH]
 ·rw[aE,aZ,bg,cU]
  lia
def tBMT (r:V->List V->Hp->VK->Prop)(to:TE)(t:TA):TE:=fun σ H Q=>to σ H fun x H1=>(∃ p xs,x= .ref p/\H1 p=some (.tup xs))/\t σ H1 fun xs H2=>r x xs H2 Q
theorem jU7 {o e:Expr}{es:List Expr}{to:TE}{t:TA}{name:Str}{apos cpos:Pos}{id:String}{r:V->List V->Hp->VK->Prop}(slot:Slot "tuple" name id)(hty:typeOf (.builtin id)=pure (.type "method_descriptor"))(hm:MtM X id r)(ho:PE X o to)(ha:PA X (e::es) t)
  (hbase:attributeBase o name X.env (eval o X.env)=eval o X.env:=by rfl)
  (hfew:((backTo cpos (starEach (e::es) X.env)).all (fun x=>!x.1)&&(backToKw cpos (keywordEach [] X.env)).all (fun x=>x.1.isSome)
   &&decide ((e::es).length+([]:List Keyword).length+(if ([]:List Keyword).isEmpty then 0 else 1)<30))=true:=by rfl)
  (hline:(apos.endLine==cpos.line)=true:=by rfl) (hs:starEach (e::es) X.env=(false,eval e X.env)::starEach es X.env:=by rfl) (hplain:(backTo cpos (starEach es X.env)).any (·.1)=false:=by rfl):
  PE X (.Call (.Attribute o name apos) (e::es) [] cpos) (tBMT r to t):=by
 intro ad s σ H Q I h
 refine eU hbase hfew hline rfl (iZ (ho ad s σ H _ I h) fun v s1 ⟨x,H1,I1,r1,⟨p,xs,ex,hp⟩,q1⟩=>?_)
 subst ex
 cases r1
 obtain⟨_,its,_,n,e0⟩:=I1.hok p _ hp
 refine⟨"tuple",id,PySem.F.plainAttrs_tuple,slot,hty,⟨_,e0,rfl⟩,fun a ea=>?_,?_⟩
 ·cases ea
  exact⟨_,e0,rfl⟩
 have hA:=ha cpos ad s1 σ H1 _ I1 q1
 rw[hs] at hA ⊢
 refine eV (by show (false || (backTo cpos (starEach es X.env)).any (·.1))=false; rw[hplain] <;> rfl) (cI ?_)
 exact iZ hA fun us s2 ⟨vs,H2,I2,r2,q2⟩=>hm ad s2 σ H2 (.ref p) vs (.ref p) us Q I2 rfl r2 q2
theorem jF7 {x:V} :∀ {xs:List V}{us:List Value},Vals xs us->xs.all xE=true->us.countP (eqU x)=xs.countP fun y=>eqV y x
 | _,_, .nil,_=>rfl
 | y::xs,u::us, .cons r t,f=>by
  rw[fQ,bd] at f
  rw[cD,cD,jNY r f.1,jF7 t f.2]
def rEqE (K:W.Frag):R2:=fun x y H Q=>∃ p q xs,x= .ref p/\y= .ref q/\SqT K H p xs/\SqT K H q []/\Q (.bl (decide (xs=[]))) H
theorem jUD (hu:X.A.units<cLine):OpR X (compareOp .Eq) (rEqE X.K):=by
 intro ad s σ H x y v u Q I rx ry h
 obtain⟨p,q,xs,rfl,rfl,hp,hq,k⟩:=h
 cases rx
 cases ry
 obtain⟨its,r,t1,_⟩:=I.tuple hp
 obtain⟨its2,r2,t2,_⟩:=I.tuple hq
 have e2:its2=[]:=r2.zero
 subst e2
 refine SeqAt.eq_tupleAt (e:=fun _=>true) (show s.heap.IsTuple p its.toArray from t1) (show s.heap.IsTuple q ([]:List Value).toArray from t2) hu (fun j h1 h2=>absurd h2 (by simp)) ⟨.bl _,H,I,rfl,?_⟩
 have hl:=r.length
 have e:((List.range (min its.toArray.size ([]:List Value).toArray.size)).all (fun _=>true)&&its.toArray.size==([]:List Value).toArray.size)=decide (xs=[]):=by
  cases xs with
  | nil=>
   have:its=[]:=by simpa using hl.symm
   subst this
   rfl
  | cons a b=>
   have:its.length≠0:=by rw[<- hl]; simp
   simp [this]
 rw[e]
 exact k
theorem jAX (hc:X.calm=true):yO X (.builtin "all") (fun xs H Q=>∃ (p:Addr) (bs:List Bool),xs=[.ref p]/\SqL X.K H p (bs.map V.bl)/\Q (.bl (bs.all id)) H):=by
 intro ad s σ H xs us Q I r h
 obtain⟨p,bs,rfl,hq,q⟩:=h
 obtain⟨u,rfl,rx⟩:=r.one
 cases rx
 obtain⟨its,r',pl,hz⟩:=I.list hq
 have hlen:=r'.length
 rw[ac] at hlen
 refine call_all_walk (cL pl.isList ?_)
 have hne:p≠s.heap.objs.size:=by
  obtain⟨o,ho,_⟩:=pl.isList
  exact aG (ak ho)
 refine⟨s.heap.objs.size,_,_,_,_,_,fun i=>bs.getD i true,rfl,ie (by simpa using I.ok.hd hc) _ p hne its.toArray,⟨⟨_,am _ rfl,rfl,rfl⟩,pl.isList.push _⟩,fun i v z Q' E' hP hQ'=>?_,fun h' tk hk=>?_⟩
 ·have hi:its[i]?=some v:=by simpa using hP
  have hb:i<bs.length:=by
   rw[hlen]
   exact(av.mp hi).1
  obtain⟨u,hu,ru⟩:=r'.get (i:=i) (x:= .bl (bs[i])) (by simp [hb])
  rw[hi] at hu
  cases hu
  cases ru
  have e:bs.getD i true=bs[i]:=by simp [List.getD,hb]
  have hQ2:Q' (bs.getD i true) z:=hQ'
  rw[e] at hQ2
  exact ag hQ2
 ·have e:(List.range its.toArray.size).all (fun i=>bs.getD i true)=bs.all id:=by
   rw[aj,<- hlen]
   rw[bq,aS,aS]
   constructor
   ·intro a b hb
    obtain⟨i,hi,rfl⟩:=cz hb
    have:=a i (bc.mpr hi)
    simpa [List.getD,hi] using this
   ·intro a i hi
    have hi:=bc.mp hi
    have:=a bs[i] (cV hi)
    simpa [List.getD,hi] using this
  rw[e]
  exact⟨.bl _,H,I.kept (t':=tk) fun b o e=>hk b o (by
   intro z
   have z:b=s.heap.objs.size:=by simpa using z
   exact absurd (ak e) (by rw[z]; exact bV _)) (af _ e),rfl,q⟩
def jED (n:Nat):List V:=(List.range n).map fun (i:Nat)=>V.int (i:Int)
theorem jKB {n:Nat}{acc:Array Value}(h:ItemsOf (fun i v=>∃ t,v=Value.int (0+(i:Int)*1) t) acc n):Vals (jED n) acc.toList:=by
 have key:∀ (l:List Value) (k:Nat),(∀ j v,l[j]?=some v->∃ t,v=Value.int ((k+j:Nat):Int) t)->Vals ((range' k l.length).map fun (i:Nat)=>V.int (i:Int)) l:=by
  intro l
  induction l with
  | nil=>intro k _; exact .nil
  | cons v l ih=>
   intro k hk
   rw[aZ,hU,bA]
   refine .cons ?_ (ih (k+1) fun j u hj=>?_)
   ·obtain⟨t,e⟩:=hk 0 v rfl
    exact⟨t,by simpa using e⟩
   ·obtain⟨t,e⟩:=hk (j+1) u (by simpa using hj)
    exact⟨t,by rw[e]; congr 1; lia⟩
 have:=key acc.toList 0 fun j v hj=>by
  obtain⟨t,e⟩:=h.2 j v (by simpa using hj)
  exact⟨t,by rw[e]; congr 1; lia⟩
 rw[bE,h.1] at this
 unfold jED
 rw[iA]
 exact this
theorem jAA:yO X (.type "range") (fun xs H Q=>∃ j:Int,xs=[.int j]/\∀ p,H p=none->Q (.ref p) (upd H p (.rng 0 j))):=by
 intro ad s σ H xs us Q I r h
 obtain⟨j,rfl,q⟩:=h
 obtain⟨u,rfl,t,rfl⟩:=r.one
 refine call_range_1 ⟨.ref s.heap.objs.size,_,I.laid (o:= .rng 0 j) (fun b o e=>af _ e) (ai _) ?_,rfl,q _ I.fresh⟩
 exact⟨_,_,_,am _ rfl⟩
theorem jHM (hc:X.calm=true):yO X (.type "list") (fun xs H Q=>∃ p j,xs=[.ref p]/\H p=some (.rng 0 j)/\0<=j/\j<=1000/\∀ l,H l=none->Q (.ref l) (upd H l (.lst (jED j.toNat)))):=by
 intro ad s σ H xs us Q I r h
 obtain⟨p,j,rfl,hp,h0,h1,q⟩:=h
 obtain⟨u,rfl,rx⟩:=r.one
 cases rx
 obtain⟨t,u,v,e⟩:=I.hok p _ hp
 have en:Builtin.Range.rangeSize 0 j 1=(j.toNat:Int):=by
  rw[gS]
  split <;> lia
 refine call_list_range (I.ok.hd hc) (show IsRange s.heap p 0 j 1 t u v from e) (small_one (by lia) (by lia) (by lia) (by lia)) en (by lia) fun h' tk acc' c' kp hS hacc=>?_
 refine⟨.ref s.heap.objs.size,_,I.laid (t':=tk) (o:= .lst (jED j.toNat)) kp (ai _) ?_,rfl,q _ I.fresh⟩
 refine⟨?_,acc'.toList,c',jKB hacc,by rw[cJ]; exact hS⟩
 unfold jED
 rw[ac,b7,df]
 lia
def SetO (w:World)(a:Addr)(ks:List Int):HO:= .ext fun h=>SS.SetG w h a ks
theorem jAK {ns:List Int} :∀ {us:List Value},Vals (ns.map V.int) us->IntsAre us ns:=by
 induction ns with
 | nil=>intro us h; cases h; exact .nil
 | cons n ns ih=>
  intro us h
  cases h with
  | cons r t=>
   obtain⟨k,rfl⟩:=r
   exact .cons n k (ih t)
theorem jAO:∀ {us:List Value}{ns:List Int},IntsAre us ns->Vals (ns.map V.int) us
 | _,_, .nil=> .nil
 | _,_, .cons n t r=> .cons ⟨t,rfl⟩ (jAO r)
theorem jOG (hc:X.calm=true):yO X (.type "set") (fun xs H Q=>∃ (p:Addr) (ns:List Int),xs=[.ref p]/\SqL X.K H p (ns.map V.int)/\ns.length<=4/\(∀ z∈ns,0<=z/\z<32)/\
  ∀ (l:Addr) (ks:List Int),H l=none->(∀ z,z∈ks↔z∈ns)->Q (.ref l) (upd H l (SetO X.w l ks))):=by
 intro ad s σ H xs us Q I r h
 obtain⟨p,ns,rfl,hq,hl,hv,q⟩:=h
 obtain⟨u,rfl,rx⟩:=r.one
 cases rx
 obtain⟨its,r',pl,hz⟩:=I.list hq
 have hlen:=r'.length
 rw[ac] at hlen
 refine SS.set_of_list (I.ok.hd hc) pl.isList (jAK r') (by rw[aj]; lia) hv fun h' tk ks S hm kp=>?_
 have hg:∃ o,h'.get? s.heap.objs.size=some o:=let ⟨o,_,_,_,e,_⟩:=S.ex; ⟨o,e⟩
 exact⟨.ref s.heap.objs.size,_,I.laid (t':=tk) (o:=SetO X.w s.heap.objs.size ks) kp (ai _) ⟨S,hg,fun h1 h2 a b=>a.at b⟩,rfl,q _ ks I.fresh hm⟩
theorem jEO (hc:X.calm=true):yO X (.builtin "sorted") (fun xs H Q=>∃ (p:Addr) (ks:List Int),xs=[.ref p]/\H p=some (SetO X.w p ks)/\
  ∀ (l:Addr) (ns:List Int),H l=none->ns.Pairwise (· < ·)->(∀ z,z∈ns↔z∈ks)->Q (.ref l) (upd H l (.lst (ns.map V.int)))):=by
 intro ad s σ H xs us Q I r h
 obtain⟨p,ks,rfl,hp,q⟩:=h
 obtain⟨u,rfl,rx⟩:=r.one
 cases rx
 obtain⟨S,_,_⟩:=I.hok p _ hp
 refine SS.sorted_set (I.ok.hd hc) S fun s' l vs ns e hl kp g d o he hi pm srt=>?_
 obtain⟨h',g',d',t',o'⟩:=s'
 have g:g'=s.gens:=g
 have o:o'=s.os:=o
 have d:d'=s.drawn:=d
 subst g; subst o; subst d
 have nd:ns.Nodup:=pm.nodup_iff.mpr S.nd
 have lt:ns.Pairwise (· < ·):=by
  have:=List.Pairwise.and srt nd
  exact this.imp fun {a b} ⟨x,y⟩=>by lia
 have hz:(ns.map V.int).length<=sizeLine:=by
  rw[ac,pm.length_eq,df]
  have:=S.len
  lia
 have I2:Inv X ad σ (upd H l (.lst (ns.map V.int))) { s with heap:=h',toks:=t'} :=I.laid (t':=t') kp hl ⟨hz,vs,e,jAO hi,he⟩
 exact⟨.ref l,_,I2,rfl,q l ns (I.hok.fresh hl) lt fun z=>pm.mem_iff⟩
variable {p2:Pos}
section
variable {p1 p3 p4 p5 p6 p7:Pos}{k1 k2 k3 k4:Nat}
theorem jSB {i j r:Int}(hj:0<=j)(hj2:j<=1000000)(hi:i.natAbs<2 ^ 64)(e:i ^ j.toNat=r):PE X (.BinOp (.Constant (.int i) k2 p2) .Pow (.Constant (.int j) k3 p3) p4) (tC (.int r)):=fun ad s σ H Q I h=>
 (yE (X:=X) jM8 kO kO) ad s σ H Q I ⟨_,_,rfl,rfl,⟨hj,hj2,hi⟩,by subst e; exact h⟩
theorem jSC {a b:Expr}{i j r:Int}(ha:PE X a (tC (.int i)))(hb:PE X b (tC (.int j)))(hc:CMul i j)(e:i*j=r):PE X (.BinOp a .Mult b p1) (tC (.int r)):=fun ad s σ H Q I h=>
 (yE (X:=X) jD9 ha hb) ad s σ H Q I ⟨_,_,rfl,rfl,hc,by subst e; exact h⟩
theorem jSF {a b:Expr}{i j r:Int}(ha:PE X a (tC (.int i)))(hb:PE X b (tC (.int j)))(e:i+j=r):PE X (.BinOp a .Add b p1) (tC (.int r)):=fun ad s σ H Q I h=>
 (yE (X:=X) yV ha hb) ad s σ H Q I ⟨_,_,rfl,rfl,by subst e; exact h⟩
theorem jU8:PE X (.BinOp (.BinOp (.Constant (.int 2) k1 p1) .Mult (.BinOp (.Constant (.int 10) k2 p2) .Pow (.Constant (.int 12) k3 p3) p4) p5) .Add (.Constant (.int 1) k4 p6) p7) (tC (.int 2000000000001)):=
 jSF (i:=2000000000000) (jSC (j:=1000000000000) kO (jSB (by decide) (by decide) (by decide) (by decide)) (.inl ⟨by decide,by decide⟩) (by decide)) kO (by decide)
end
def ItAt (tp:Bool)(h:Heap)(it a:Addr)(i:Nat):Prop:=match tp with
 | false=>h.IsListIter it a i
 | true=>h.IsTupleIter it a i
def ObAt (tp:Bool)(h:Heap)(a:Addr)(xs:Array Value):Prop:=match tp with
 | false=>h.IsList a xs
 | true=>h.IsTuple a xs
theorem ItAt.but {tp:Bool}{h h':Heap}{it a b:Addr}{i:Nat}(x:ItAt tp h it a i)(e:Heap.ExtBut b h h')(n:it≠b):ItAt tp h' it a i:=by
 cases tp with
 | false=>exact Heap.IsListIter.extBut x e n
 | true=>exact Heap.IsTupleIter.extBut x e n
theorem ItAt.at {tp:Bool}{h h':Heap}{it a:Addr}{i:Nat}(x:ItAt tp h it a i)(e:∀ o,h.get? it=some o->h'.get? it=some o):ItAt tp h' it a i:=by
 cases tp with
 | false=>exact Heap.IsListIter.at x e
 | true=>exact Heap.IsTupleIter.at x e
theorem ItAt.obj {tp:Bool}{h:Heap}{it a:Addr}{i:Nat}(x:ItAt tp h it a i):∃ o,h.get? it=some o/\∀ v,o.data≠ .cell v:=by
 cases tp with
 | false=>obtain⟨o,e,_,d⟩:=x; exact⟨o,e,fun v q=>by rw[d] at q; cases q⟩
 | true=>obtain⟨o,e,_,d⟩:=x; exact⟨o,e,fun v q=>by rw[d] at q; cases q⟩
variable {w:World}{A:Around}{s:Shared}
section
variable {prog:Program}{E:Value->Shared->Prop}
theorem next1 {tp:Bool}{it a:Addr}{i:Nat}{xs:Array Value}{x:Value}{Q:Value->Shared->Prop}(hi:ItAt tp s.heap it a i)(ha:ObAt tp s.heap a xs)(hx:xs[i]?=some x)
  (k:∀ h',ItAt tp h' it a (i+1)->Heap.SameBut it s.heap h'->Q x { s with heap:=h'}):wpAny (model prog w) A (Builtin.SmallTypes.nextOf (.ref it)) Q E s:=by
 cases tp with
 | false=>exact wpAny_nextOf_list_item hi ha hx k
 | true=>
  obtain⟨o,e,c,d⟩:=id (show s.heap.IsTupleIter it a i from hi)
  obtain⟨u,eu,_,n,du⟩:=(show s.heap.IsTuple a xs from ha)
  have ty:=Heap.IsTupleIter.typeIs (show s.heap.IsTupleIter it a i from hi)
  unfold Builtin.SmallTypes.nextOf
  refine ae (bw (name:=Str.ofString "__next__") ty F.slot_tuple_iterator_next (bD F.slot_tuple_iterator_next ty F.entry_tuple_iterator_next (?_:wpAny (model prog w) _ (field (.ref it) 0 >>= _) _ _ s) (F.args_tuple_iterator_next_1 _)))
  refine ae (bu e d (x:= .ref a) rfl (?_:wpAny (model prog w) _ (if (Value.ref a==Value.none)=true then _ else _) _ _ s))
  rw[aF (by exact ar)]
  show wpAny (model prog w) _ (field (.ref it) 1 >>= _) _ _ s
  refine ae (bu e d (x:= .int i 0) rfl ?_)
  show wpAny (model prog w) _ (seqItems? (.ref a) >>= _) _ _ s
  refine ae (wpAny_seqItems eu du ?_)
  simp only [bp,hx]
  refine ae (dP e d (by simp) (ag ⟨x,rfl,ag (k _ ⟨_,bN _ e (Obj.isFreed_of_fields (Obj.data_mapFields d _)),(Obj.cls_mapFields ..).trans c,?_⟩ (gm ..))⟩))
  rw[Obj.data_mapFields d]
  simp [rawInt]
theorem next0 {tp:Bool}{it a:Addr}{i:Nat}{xs:Array Value}{Q:Value->Shared->Prop}(hh:A.handled=none)(hi:ItAt tp s.heap it a i)(ha:ObAt tp s.heap a xs)(hx:xs[i]?=none)
  (k:∀ h' e,Heap.ExtBut it s.heap h'->(∃ o,h'.get? e=some o/\o.cls= .type "StopIteration")->E (.ref e) { s with heap:=h'}):wpAny (model prog w) A (Builtin.SmallTypes.nextOf (.ref it)) Q E s:=by
 cases tp with
 | false=>exact wpAny_nextOf_list_end hh hi ha hx k
 | true=>
  obtain⟨o,e,c,d⟩:=id (show s.heap.IsTupleIter it a i from hi)
  obtain⟨u,eu,_,n,du⟩:=(show s.heap.IsTuple a xs from ha)
  have ty:=Heap.IsTupleIter.typeIs (show s.heap.IsTupleIter it a i from hi)
  unfold Builtin.SmallTypes.nextOf
  refine ae (bw (name:=Str.ofString "__next__") ty F.slot_tuple_iterator_next (bD F.slot_tuple_iterator_next ty F.entry_tuple_iterator_next (?_:wpAny (model prog w) _ (field (.ref it) 0 >>= _) _ _ s) (F.args_tuple_iterator_next_1 _)))
  refine ae (bu e d (x:= .ref a) rfl (?_:wpAny (model prog w) _ (if (Value.ref a==Value.none)=true then _ else _) _ _ s))
  rw[aF (by exact ar)]
  show wpAny (model prog w) _ (field (.ref it) 1 >>= _) _ _ s
  refine ae (bu e d (x:= .int i 0) rfl ?_)
  show wpAny (model prog w) _ (seqItems? (.ref a) >>= _) _ _ s
  refine ae (wpAny_seqItems eu du ?_)
  simp only [bp,hx]
  refine ae (eJ (ae (dP e d (by simp) (?_:wpAny (model prog w) _ (newExc (.type "StopIteration") [] >>= _) _ _ _))))
  refine ae (by
   simp only [newExc,newTuple]
   refine ae (aU (ae (m:=firstArgMember _ _) (gO (a:=Value.none) (by first | rfl | (simp only [firstArgMember]; rfl)) (aU ?_ (by size_fits)))) (by size_fits))
   simp only [raiseNew]
   refine ae (wpAny_handled ?_)
   first | rw[show A.in1.handled=none from hh] | rw[hh]
   exact ae (ag (wpAny_throw (k _ _ (((gm ..).extBut.push _).push _) ⟨_,am _ rfl,rfl⟩))))
end
noncomputable def iterO (tp:Bool)(a:Addr):Obj:=match tp with
 | false=> { cls:= .type "list_iterator",data:= .fields #[.ref a, .int 0 0]}
 | true=> { cls:= .type "tuple_iterator",data:= .fields #[.ref a, .int 0 0]}
theorem jKW (tp:Bool)(a:Addr):(iterO tp a).isFreed=false:=by cases tp <;> rfl
theorem jFM {prog:Program}{w:World}{A:Around}{E:Value->Shared->Prop}{s:Shared}{tp:Bool}{a:Addr}{xs:Array Value}{Q:Value->Shared->Prop}(h:ObAt tp s.heap a xs)(q:Q (.ref s.heap.objs.size) { s with heap:=s.heap.push (iterO tp a)}):
  wpAny (model prog w) A (pyIter (.ref a)) Q E s:=by
 cases tp with
 | false=>exact cL h q
 | true=>exact wpAny_pyIter_tuple h q
theorem ItAt.new (tp:Bool){h:Heap}{it a:Addr}(e:h.get? it=some (iterO tp a)):ItAt tp h it a 0:=by
 cases tp with
 | false=>exact⟨_,e,rfl,rfl⟩
 | true=>exact⟨_,e,rfl,rfl⟩
def Sq (tp:Bool)(K:W.Frag)(H:Hp)(a:Addr)(xs:List V):Prop:=match tp with
 | false=>SqL K H a xs
 | true=>SqT K H a xs
theorem Inv.sq {X:Cx}{ad:List (Addr×Obj)}{σ:St}{H:Hp}{s:Shared}{tp:Bool}{a:Addr}{xs:List V}(I:Inv X ad σ H s)(h:Sq tp X.K H a xs):∃ its:List Value,Vals xs its/\ObAt tp s.heap a its.toArray/\xs.length<=sizeLine:=by
 cases tp with
 | false=>
  obtain⟨its,r,p,z⟩:=I.list h
  exact⟨its,r,p.isList,z⟩
 | true=>exact I.tuple h
theorem Inv.sq_inj {X:Cx}{ad:List (Addr×Obj)}{σ:St}{H:Hp}{s:Shared}{tp:Bool}{a:Addr}{xs ys:List V}(I:Inv X ad σ H s)(h:Sq tp X.K H a xs)(h':Sq tp X.K H a ys):xs=ys:=by
 cases tp with
 | false=>exact I.list_inj h h'
 | true=>exact I.tuple_inj h h'
structure JE (X:Cx)(e:Expr)(t:TE):Prop where
 h:PE X e t
structure JA (X:Cx)(es:List Expr)(t:TA):Prop where
 h:PA X es t
structure JT (X:Cx)(e:Expr)(t:TT):Prop where
 h:PT X e t
structure JTs (X:Cx)(e:List Expr)(t:TT):Prop where
 h:PTs X e t
structure JS (X:Cx)(e:Stmt)(t:TS):Prop where
 h:PS X e t
structure JSs (X:Cx)(e:List Stmt)(t:TS):Prop where
 h:PSs X e t
structure JG (X:Cx)(e:Expr)(t:TG):Prop where
 h:PG X e t
structure JGs (X:Cx)(e:List Expr)(t:TGs):Prop where
 h:PGs X e t
structure JI (X:Cx)(tg e:Expr)(t:TI):Prop where
 h:PI X tg e t
structure JO (X:Cx)(e:Option Expr)(t:TO):Prop where
 h:PO X e t
structure Loc1 (X:Cx)(x:Str):Prop where
 a:Loc X.env.scope x
 b:X.fn x=true\/X.env.scope.names.lookup x=some .local
structure Vis1 (X:Cx)(x:Str):Prop where
 a:Vis X.env.scope x
structure Gl1 (X:Cx)(x:Str):Prop where
 a:Gl X x
section
variable {o:Option Expr}{l:Nat}
structure SwOk (e:Expr)(o:Option Expr):Prop where
 h:∀ l env,swapsWith e o l env=pure false
theorem jER {op:Operator} :SwOk (.BinOp a op b pos) o:=⟨fun _ _=>rfl⟩
theorem jRO {op} :SwOk (.BoolOp op xs pos) o:=⟨fun _ _=>rfl⟩
theorem jW {kw:List Keyword} :SwOk (.Call a xs kw pos) o:=⟨fun _ _=>rfl⟩
theorem jDS:SwOk (.Subscript a b pos) o:=⟨fun _ _=>rfl⟩
theorem jGL {x1} :SwOk (.Tuple xs x1 pos) o:=⟨fun _ _=>rfl⟩
theorem qU:SwOk (.List xs pos) o:=⟨fun _ _=>rfl⟩
theorem jTU {op:Operator} :jBJ (.BinOp a op b pos):=fun _ _=>rfl
theorem jM0 {kw:List Keyword} :jBJ (.Call a xs kw pos):=fun _ _=>rfl
theorem jE {i:Int}{k} :jBJ (.Constant (.int i) k pos):=fun _ _=>rfl
theorem y9 {x:Str} :jBJ (.Name x pos):=fun _ _=>rfl
structure FoOk (iter:Expr):Prop where
 h:∀ env x,foldedSetIterable iter env x=pure x
theorem kQ {kw:List Keyword} :FoOk (.Call a xs kw pos):=⟨fun _ _=>rfl⟩
theorem yD {x:Str} :FoOk (.Name x pos):=⟨fun _ _=>rfl⟩
theorem jF5:FoOk (.Subscript a b pos):=⟨fun _ _=>rfl⟩
structure TvOk (e:Expr):Prop where
 h:∀ env whole,isTrue e env whole=(do let v <- whole; standAt e.pos; holding [v] (truthy v))
theorem yY {kw:List Keyword} :TvOk (.Call a xs kw pos):=⟨fun _ _=>rfl⟩
theorem jLI {x:Str} :TvOk (.Name x pos):=⟨fun _ _=>rfl⟩
end
variable {te:TE}{x:Str}
section
variable {e o:Expr}{ta tb to:TE}{t:TA}{p cpos apos:Pos}{T:String}{id:String}
theorem jv (i:Nat)(hN:X.N[i]?=some x)(hv:Vis1 X x)(hd:(x==("__debug__" :Str))=false:=by decide)(hcd:(x==("__classdict__" :Str))=false:=by decide):JE X (.Name x pos) (tVar i):=⟨jJA hN hv.a hd hcd⟩
theorem jC {i j} :JE X (.Constant (.int i) j pos) (tC (.int i)):=⟨kO⟩
theorem xD {i j} :JE X (.Constant (.bool i) j pos) (tC (.bl i)):=⟨pe_bl⟩
theorem jBW {j} :JE X (.Constant .none j pos) (tC .non):=⟨jU6⟩
theorem jF2 {i j} :JE X (.Constant (.str i) j pos) (tC (.str i)):=⟨jU3⟩
theorem jC1 {v:V}{u:Value}(hg:Gl1 X x)(hm:X.mg x=none)(hv:bootBuiltins x=some u)(r:RelV v u)(hn:x≠ "__name__" :=by decide)(hd:(x==("__debug__" :Str))=false:=by decide):JE X (.Name x pos) (tC v):=⟨jSG hg.a hm hv r hn hd⟩
theorem yK {op:Operator}{r:R2}(ho:OpR X (binaryOp op) r)(ha:JE X a ta)(hb:JE X b tb):JE X (.BinOp a op b pos) (tOp r ta tb):=⟨yE ho ha.h hb.h⟩
theorem je_un {op:UnaryOp}{r:V->Hp->VK->Prop}(ho:UnR X (unaryOp op) r)(ha:JE X a ta):JE X (.UnaryOp op a pos) (tUn r ta):=⟨pe_un ho ha.h⟩
theorem jH8 (ha:JE X a ta):JE X (.UnaryOp .Not a pos) (tNotV ta):=⟨jU5 ha.h⟩
theorem q0 {op:CmpOp}{r:R2}(ho:OpR X (compareOp op) r)(ha:JE X a ta)(hb:JE X b tb)(hm:behindInMarks op b=false):JE X (.Compare a [op] [b] pos) (tOp r ta tb):=⟨jSD ho ha.h hb.h hm⟩
theorem jH9 {rest:List Expr}(ha:JE X a ta)(hb:JE X (.BoolOp .And (b::rest) pos) tb):JE X (.BoolOp .And (a::b::rest) pos) (tAndV ta tb):=⟨jU9 ha.h hb.h⟩
theorem je_or {rest:List Expr}(ha:JE X a ta)(hb:JE X (.BoolOp .Or (b::rest) pos) tb):JE X (.BoolOp .Or (a::b::rest) pos) (tOrV ta tb):=⟨pe_or ha.h hb.h⟩
theorem jEB {op}(ha:JE X a ta):JE X (.BoolOp op [a] pos) ta:=⟨jU4 ha.h⟩
theorem jNF (h:JA X es t):JE X (.List es pos) (tLst t):=⟨jJB h.h⟩
theorem jJV {x1}(h:JA X es t):JE X (.Tuple es x1 pos) (tTup t):=⟨jU2 h.h⟩
theorem jAN {lo hi:Option Expr}{tl th:TO}{r:V->Option Int->Option Int->Hp->VK->Prop}(hr:SlR X r)(he:JE X e te)(hl:JO X lo tl)(hu:JO X hi th):JE X (.Subscript e (.Slice lo hi none p2) pos) (tSl r te tl th):=⟨jP9 hr he.h hl.h hu.h⟩
theorem jJ {r:R2}(hr:IxR X r)(ha:JE X a ta)(hb:JE X b tb)(hs:jBJ b):JE X (.Subscript a b pos) (tOp r ta tb):=⟨pe_ix hr ha.h hb.h hs⟩
theorem jP {T}{r:List V->Hp->VK->Prop}(hc:yO X (.type T) r)(hg:Gl1 X x)(hm:X.mg x=none)(hv:bootBuiltins x=some (.type T))(ha:JA X (e::es) t)(he:starEach (e::es) X.env=(false,eval e X.env)::starEach es X.env)(hn:x≠ "__name__" :=by decide)(hdb:(x==("__debug__" :Str))=false:=by decide)
  (hpl:(backTo pos (starEach es X.env)).any (·.1)=false:=by rfl):JE X (.Call (.Name x p) (e::es) [] pos) (tCB r t):=⟨jC8 hc hg.a hm hv ha.h hn hdb he hpl⟩
theorem jK {id}{r:List V->Hp->VK->Prop}(hc:yO X (.builtin id) r)(hg:Gl1 X x)(hm:X.mg x=none)(hv:bootBuiltins x=some (.builtin id))(ha:JA X (e::es) t)(he:starEach (e::es) X.env=(false,eval e X.env)::starEach es X.env)(hn:x≠ "__name__" :=by decide)(hdb:(x==("__debug__" :Str))=false:=by decide)
  (hpl:(backTo pos (starEach es X.env)).any (·.1)=false:=by rfl):JE X (.Call (.Name x p) (e::es) [] pos) (tCB r t):=⟨jFS hc hg.a hm hv ha.h hn hdb he hpl⟩
theorem j8:JA X [] tNil:=⟨qF⟩
theorem j4 (ha:JE X e te)(hr:JA X es t)(hs:starEach (e::es) X.env=(false,eval e X.env)::starEach es X.env):JA X (e::es) (tCons te t):=⟨kY ha.h hr.h hs⟩
theorem jY {op:CmpOp}{r:R2}(ho:OpR X (compareOp op) r)(ha:JE X a ta)(hb:JE X b tb)(hm:behindInMarks op b=false):JT X (.Compare a [op] [b] pos) (tTest (tOp r ta tb)):=⟨jDW ho ha.h hb.h hm⟩
theorem qG (h:JE X e te)(he:TvOk e):JT X e (tB te):=⟨jTW h.h (he.h _)⟩
theorem jDA {tA:TT}(ha:JT X a tA):JT X (.UnaryOp .Not a pos) (tNot tA):=⟨jTX ha.h⟩
theorem kZ:JTs X [] yG:=⟨jM2⟩
theorem yI {t:TT}(h:JT X e t):JTs X [e] t:=⟨jM1 h.h⟩
theorem jQ {i:Nat}(hN:X.N.Nodup)(hi:X.N[i]?=some x)(hx:Loc1 X x):JG X (.Name x pos) (kI i):=⟨jFR hN hi hx.a hx.b⟩
theorem kX {tg:Expr}(hg:Gl1 X "range")(hm:X.mg "range" =none)(ha:JA X [a] t)(hs:starEach [a] X.env=(false,eval a X.env)::starEach [] X.env):JI X tg (.Call (.Name "range" p) [a] [] pos) (iRng1 t):=⟨jC7 hg.a hm ha.h hs⟩
theorem jB8 {tg:Expr}(hl:JE X a ta):JI X tg a (iList X.K ta):=⟨jS6 hl.h⟩
theorem yP {tg:Expr}(hl:JE X a ta):JI X tg a (iTup X.K ta):=⟨jU0 hl.h⟩
theorem jBG:JO X none jLQ:=⟨jS3⟩
theorem jB7 (h:JE X e te):JO X (some e) (tPart te):=⟨jS2 h.h⟩
theorem jT {i:Nat}{pos':Pos}(hN:X.N.Nodup)(hi:X.N[i]?=some x)(hx:Loc1 X x)(he:JE X e te)(hs:SwOk e (some (.Name x pos'))):JS X (.Assign [.Name x pos'] e pos) (tAsg te (kI i)):=⟨qV hN hi hx.a he.h (hs.h _ _) hx.b⟩
theorem kB (he:JE X e te):JS X (.Return (some e) pos) (tRet te):=⟨jD7 he.h⟩
theorem qO (he:JE X e te)(hs:SwOk e none):JS X (.Expr e pos) (tDrop te):=⟨jS1 he.h (hs.h _ _)⟩
theorem kP:JSs X [] tNext:=⟨jFO⟩
theorem jH {st:Stmt}{t:TS}(h1:JS X st t):JSs X [st] t:=⟨jB3 h1.h⟩
theorem jB {st:Stmt}{rest:List Stmt}{t u:TS}(h1:JS X st t)(h2:JSs X rest u):JSs X (st::rest) (tSeq t u):=⟨yH h1.h h2.h⟩
theorem yJ {c:Expr}{a b:List Stmt}{tc:TT}{t u:TS}(hc:JT X c tc)(ha:JSs X a t)(hb:JSs X b u):JS X (.If c a b pos) (tIfS tc t u):=⟨ps_if hc.h ha.h hb.h⟩
theorem qS {tg iter:Expr}{body:List Stmt}{wi:TI}{g:TG}{tb:TS}(hp:PassesOwn (model X.prog X.w) X.A X.env X.xe)(hc:X.calm=true)(hi:JI X tg iter wi)(hg:JG X tg g)(hb:JSs X body tb)(hs:FoOk iter):JS X (.For tg iter body [] pos) (tFor wi g tb):=⟨jQV hp hc hi.h hg.h hb.h (hs.h _)⟩
theorem xG {T:String}{name:Str}{r}(pa:PlainAttrs T)(slot:Slot T name id)(hty:typeOf (.builtin id)=pure (.type "method_descriptor"))(hm:MtR X id r)(ho:JE X o to)(ha:JA X (e::es) t)
  (hs:starEach (e::es) X.env=(false,eval e X.env)::starEach es X.env)
  (hbase:attributeBase o name X.env (eval o X.env)=eval o X.env:=by rfl)
  (hfew:((backTo cpos (starEach (e::es) X.env)).all (fun x=>!x.1)&&(backToKw cpos (keywordEach [] X.env)).all (fun x=>x.1.isSome)
   &&decide ((e::es).length+([]:List Keyword).length+(if ([]:List Keyword).isEmpty then 0 else 1)<30))=true:=by rfl)
  (hline:(apos.endLine==cpos.line)=true:=by rfl) (hplain:(backTo cpos (starEach es X.env)).any (·.1)=false:=by rfl):
  JE X (.Call (.Attribute o name apos) (e::es) [] cpos) (tBM X.K T r to t):=⟨pe_bm pa slot hty hm ho.h ha.h hbase hfew hline hs hplain⟩
theorem jR9 {name:Str}{r}(slot:Slot "tuple" name id)(hty:typeOf (.builtin id)=pure (.type "method_descriptor"))(hm:MtM X id r)(ho:JE X o to)(ha:JA X (e::es) t)
  (hs:starEach (e::es) X.env=(false,eval e X.env)::starEach es X.env)
  (hbase:attributeBase o name X.env (eval o X.env)=eval o X.env:=by rfl)
  (hfew:((backTo cpos (starEach (e::es) X.env)).all (fun x=>!x.1)&&(backToKw cpos (keywordEach [] X.env)).all (fun x=>x.1.isSome)
   &&decide ((e::es).length+([]:List Keyword).length+(if ([]:List Keyword).isEmpty then 0 else 1)<30))=true:=by rfl)
  (hline:(apos.endLine==cpos.line)=true:=by rfl) (hplain:(backTo cpos (starEach es X.env)).any (·.1)=false:=by rfl):
  JE X (.Call (.Attribute o name apos) (e::es) [] cpos) (tBMT r to t):=⟨jU7 slot hty hm ho.h ha.h hbase hfew hline hs hplain⟩
theorem kN {tg iter elt:Expr}{ifs:List Expr}{sc:Scope}{wi:TI}{g:TG}{tt:TT}{m:List (Option Nat)}{Nc:List Str}(hc:X.calm=true)(hi:JI X tg iter wi)(hkind:sc.kind= .function)(hcell:∀ y∈sc.names,y.2≠ .cell)(hnames:∀ y∈sc.names,y.2= .local->sc.names.lookup y.1=some .local)
  (hfree:∀ y∈sc.names,y.2= .free->X.env.scope.names.lookup y.1=some .cell\/X.env.scope.names.lookup y.1=some .free) (hm:qL X sc Nc m)
  (hg:∀ cl C fp s H,JG (blk X sc cl C Nc fp s H) tg g) (ht:∀ cl C fp s H,JTs (blk X sc cl C Nc fp s H) ifs tt) (he:∀ cl C fp s H,JE (blk X sc cl C Nc fp s H) elt te)
  (hs:FoOk iter):JE X (.ListComp elt [⟨tg,iter,ifs,0⟩] sc pos) (tComp m wi g tt te):=⟨jI9 hc hi.h hkind hcell hnames hfree hm (fun cl C fp s H=>(hg cl C fp s H).h) (fun cl C fp s H=>(ht cl C fp s H).h) (fun cl C fp s H=>(he cl C fp s H).h) (hs.h _)⟩
theorem jUZ {p1 p2 p3 p4 p5 p6 p7:Pos}{k1 k2 k3 k4:Nat} :JE X (.BinOp (.BinOp (.Constant (.int 2) k1 p1) .Mult (.BinOp (.Constant (.int 10) k2 p2) .Pow (.Constant (.int 12) k3 p3) p4) p5) .Add (.Constant (.int 1) k4 p6) p7) (tC (.int 2000000000001)):=⟨jU8⟩
end
variable {P:Program}{mg:Str->Option Value}{base:Heap}{N:List Str}{qual:Str}{sc:Scope}{f:Addr}{dl:Value}{outer:List Env}{H:Hp}{E:XK}
section
variable {K:W.Frag}
theorem gl_d (h:sc.names.lookup x=some .globalImplicit):Gl1 (cxOf CX0 P w K mg base N qual sc f dl A outer s H E).nox x:=⟨h⟩
theorem gD (h:sc.names.lookup x=some .globalImplicit:=by decide+kernel):Gl1 (cxOf CX0 P w K mg base N qual sc f dl A outer s H E).nox x:=gl_d h
theorem vis_l (h:sc.names.lookup x=some .local):Vis1 (cxOf CX0 P w K mg base N qual sc f dl A outer s H E).nox x:=⟨.inl h⟩
theorem vL (h:sc.names.lookup x=some .local:=by decide+kernel):Vis1 (cxOf CX0 P w K mg base N qual sc f dl A outer s H E).nox x:=vis_l h
theorem vis_c (h:sc.names.lookup x=some .cell):Vis1 (cxOf CX0 P w K mg base N qual sc f dl A outer s H E).nox x:=⟨.inr (.inl h)⟩
theorem vC (h:sc.names.lookup x=some .cell:=by decide+kernel):Vis1 (cxOf CX0 P w K mg base N qual sc f dl A outer s H E).nox x:=vis_c h
end
theorem jA1 {env:Env}{x:Str}{k:NameKind}(hk:k≠ .free):∀ {l:List (Str×NameKind)},l.lookup x=some k->
  (l.map fun (n,k)=>if (k==NameKind.free&&env.scope.kind== .function&&env.kindOf n==some .cell) then (n,NameKind.cell) else (n,k)).lookup x=some k
 | [],h=>by cases h
 | (n,k')::r,h=>by
  have ih:= @jA1 env x k hk r
  rw[aM] at h
  rw[bA]
  dsimp only
  by_cases hb:(k'==NameKind.free&&env.scope.kind== .function&&env.kindOf n==some .cell)=true
  ·rw[aD hb,aM]
   cases hx:x==n with
   | true=>
    rw[hx] at h
    have e:k'=k:=be h
    simp only [bd] at hb
    exact absurd (e.symm.trans (eq_of_beq hb.1.1)) hk
   | false=>rw[hx] at h; exact ih h
  ·rw[aF hb,aM]
   cases hx:x==n with
   | true=>rw[hx] at h; exact h
   | false=>rw[hx] at h; exact ih h
variable {cl:List (Str×Addr)}{C:Addr}{Nc:List Str}{fp:List Addr}
theorem gl_b (h:sc.names.lookup x=some .globalImplicit:=by decide+kernel):Gl1 (blk X sc cl C Nc fp s H) x:=⟨jA1 (by decide) h⟩
theorem jS (h:sc.names.lookup x=some .local:=by decide+kernel):Vis1 (blk X sc cl C Nc fp s H) x:=⟨.inl (jA1 (by decide) h)⟩
theorem jZ (h:sc.names.lookup x=some .free:=by decide+kernel):Vis1 (blk X sc cl C Nc fp s H) x:=⟨.inr (jA7 h)⟩
theorem yA (h:sc.names.lookup x=some .local:=by decide+kernel):Loc1 (blk X sc cl C Nc fp s H) x:=⟨.inl (jA1 (by decide) h), .inr (jA1 (by decide) h)⟩
section
variable {K:W.Frag}
theorem loc_l (h:sc.names.lookup x=some .local):Loc1 (cxOf CX0 P w K mg base N qual sc f dl A outer s H E).nox x:=⟨.inl h, .inl rfl⟩
theorem lL (h:sc.names.lookup x=some .local:=by decide+kernel):Loc1 (cxOf CX0 P w K mg base N qual sc f dl A outer s H E).nox x:=loc_l h
theorem yX (h:sc.names.lookup x=some .cell:=by decide+kernel):Loc1 (cxOf CX0 P w K mg base N qual sc f dl A outer s H E).nox x:=⟨.inr h, .inl rfl⟩
end
structure JW (X:Cx)(e:Expr)(t:TT):Prop where
 h:PW X e t
section
variable {rest:List Expr}{tA tB':TT}
theorem jCQ (ha:JT X a tA):JW X (.BoolOp .And [a] pos) tA:=⟨jRY ha.h⟩
theorem jF0 (ha:JT X a tA)(hb:JW X (.BoolOp .And (b::rest) pos) tB'):JW X (.BoolOp .And (a::b::rest) pos) (tAnd tA tB'):=⟨jTV ha.h hb.h⟩
theorem jt_w (h:JW X a tA):JT X a tA:=⟨h.h.pt⟩
theorem jIK:JGs X [] gNil:=⟨jS8⟩
structure AsOk (e:Expr):Prop where
 h:∀ es env,assignEach (e::es) env=(false,assign e env)::assignEach es env
theorem jBA {x:Str} :AsOk (.Name x pos):=⟨fun _ _=>rfl⟩
theorem jAG {e:Expr}{es:List Expr}{t:TG}{u:TGs}(h1:JG X e t)(h2:JGs X es u)(hs:AsOk e):JGs X (e::es) (gCons t u):=⟨jP8 h1.h h2.h (by rw[hs.h]; rfl)⟩
theorem jNE {es:List Expr}{k:Nat}{t:TGs}{n:Nat}(hc:X.calm=true)(h:JGs X es t)(hn:(assignEach es X.env).length=n:=by rfl)(hst:(assignEach es X.env).findIdx? (·.1)=none:=by rfl):JG X (.Tuple es k pos) (gTup X.K n t):=⟨jU1 hc h.h hn hst⟩
theorem yN {op:CmpOp}{x:Str} :behindInMarks op (.Name x pos)=false:=by cases op <;> rfl
end
theorem jBH {X:Cx}{sc:Scope}{cl:List (Str×Addr)}{C:Addr}{Nc:List Str}{fp:List Addr}{s:Shared}{H:Hp}{x y:Str}{p1 p2 pos:Pos}{k:Nat}{i j:Nat}(hc:X.calm=true)(hN:Nc.Nodup)(hi:Nc[i]?=some x)(hj:Nc[j]?=some y)(hx:sc.names.lookup x=some .local)(hy:sc.names.lookup y=some .local):
  JG (blk X sc cl C Nc fp s H) (.Tuple [.Name x p1, .Name y p2] k pos) (gTup X.K 2 (gCons (kI i) (gCons (kI j) gNil))):=
 jNE (X:=blk X sc cl C Nc fp s H) hc (jAG (jQ hN hi (yA hx)) (jAG (jQ hN hj (yA hy)) jIK jBA) jBA)
variable {m:List (Option Nat)}{g:TG}{tt:TT}{H1:Hp}{Q:VK}
section
variable {K:W.Frag}{σ:St}
end
theorem jAU:OpR (blk X sc cl C Nc fp s H) (compareOp .In) (rIn X.K false):=jBD
theorem jBQ:OpR (blk X sc cl C Nc fp s H) (compareOp .NotIn) (rIn X.K true):=jAE
theorem kD:IxR (blk X sc cl C Nc fp s H) (rIxT X.K):=jL
theorem jL6:yO (blk X sc cl C Nc fp s H) (.builtin "len") (fun xs H Q=>∃ p ys,xs=[.ref p]/\(SqL X.K H p ys\/SqT X.K H p ys)/\Q (.int ys.length) H):=jV
def Ext (H H':Hp):Prop:=∀ b o,H b=some o->H' b=some o
theorem Ext.refl (H:Hp):Ext H H:=fun _ _ h=>h
theorem Ext.trans {H H1 H2:Hp}(a:Ext H H1)(b:Ext H1 H2):Ext H H2:=fun c o h=>b c o (a c o h)
theorem Ext.new {H H1:Hp}{l:Addr}(a:Ext H H1)(hl:H1 l=none)(o:HO):Ext H (upd H1 l o):=fun c u h=>by
 have:=a c u h
 rw[jD (jF this hl)]
 exact this
theorem Ext.updNew {H H1:Hp}{l:Addr}(a:Ext H H1)(hl:H l=none)(o:HO):Ext H (upd H1 l o):=fun c u h=>by
 rw[jD (jF h hl)]
 exact a c u h
def TupR (H:Hp)(xs:List V)(Q:VK):Prop:=∀ r H',H' r=some (.tup xs)->Ext H H'->Q (.ref r) H'
theorem TupR.new {H:Hp}{xs:List V}{Q:VK}(q:TupR H xs Q){p:Addr}(hp:H p=none):Q (.ref p) (upd H p (.tup xs)):=q p _ j7 ((Ext.refl H).new hp _)
theorem TupR.old {H:Hp}{xs:List V}{Q:VK}(q:TupR H xs Q){p:Addr}(hp:H p=some (.tup xs)):Q (.ref p) H:=q p H hp (Ext.refl H)
def rCatU:R2:=fun x y H Q=>∃ a b xs ys,x= .ref a/\y= .ref b/\H a=some (.tup xs)/\H b=some (.tup ys)/\xs.length+ys.length<=sizeLine/\TupR H (xs++ys) Q
theorem jB4:OpR X (binaryOp .Add) rCatU:=by
 intro ad s σ H x y v u Q I rx ry h
 obtain⟨a,b,xs,ys,rfl,rfl,ha,hb,hz,q⟩:=h
 by_cases hx:xs=[]
 ·subst hx
  cases rx
  cases ry
  obtain⟨_,its,r1,n1,e1⟩:=I.hok a _ ha
  obtain⟨_,its2,r2,n2,e2⟩:=I.hok b _ hb
  cases r1
  exact concat_meets ⟨_,e1,rfl⟩ ⟨_,e2,rfl⟩ g8 seq_tuple_add eS eM (ej _ _) (AutoSeq1.tuple___add___tuple_tuple_0 a _ n1 b its2.toArray n2 (by simp)) ⟨e1,e2, .ref b,H,I,rfl,q.old hb⟩
 ·refine jSL ad s σ H _ _ v u Q I rx ry ⟨a,b,xs,ys,rfl,rfl,SqT.of ha,SqT.of hb,hx,hz,fun e=>?_,fun _ p hp=>q.new hp⟩
  subst e
  rw[bf] at q
  exact q.old ha
section
variable (l:Addr)(items:Array Value)(n:Nat)(x:Int)(u:Tok)(h1:¬ (decide (x< -(2 ^ 63)) || decide (x ≥ 2 ^ 63))=true)
include h1
end
theorem jCU {prog:Program}{w:World}{A:Around}{E:Value->Shared->Prop}{s:Shared}{t sl:Addr}{items:Array Value}{n:Nat}{vl vu:Value}{lo hi:Option Int}{Q:Value->Shared->Prop}
  (e0:s.heap.get? t=some { cls:= .type "tuple",data:= .seq items n}) (hs:s.heap.IsSliceOf sl vl vu .none) (pl:IsPart vl lo) (pu:IsPart vu hi)
  (hw:HT.sIx items.size 0 lo=0/\HT.sIx items.size items.size hi=items.size) (h:Q (.ref t) s):wpAny (model prog w) A (getItem (.ref t) (.ref sl)) Q E s:=by
 have ht:IsTup s.heap t items:=⟨_,e0,rfl,n,rfl⟩
 obtain⟨os,hos,hcs,hds⟩:=id hs
 have hTs:s.TypeIs (.ref sl) "slice" :=⟨os,hos,hcs⟩
 unfold getItem
 try with_reducible refine br ?_
 first | refine ae (ag ?_) | skip
 refine ae (gM ht.typeIs (by decide) (ae (bw (name:=Str.ofString "__getitem__") ht.typeIs bi
  (bD bi ht.typeIs gj (?_:wpAny (model prog w) _ (Builtin.Tuple.tupleItemsOf (.ref t) >>= _) _ _ s) (gB _ _)))))
 refine ae (tupleItemsOf_ ht (ae (dg hTs ?_)))
 rw[aD (by decide)]
 refine ae (HT.sliceApplied_gen hs pl pu ?_)
 have yes:(((HT.sIx items.size 0 lo:Nat):Int)==0&&(1:Int)==1&&(HT.sIx items.size items.size hi - HT.sIx items.size 0 lo)==items.size)=true:=by
  rw[hw.1,hw.2]
  simp
 show wpAny (model prog w) _ (if (((HT.sIx items.size 0 lo:Nat):Int)==0&&(1:Int)==1&&(HT.sIx items.size items.size hi - HT.sIx items.size 0 lo)==items.size)=true then _ else _) _ _ s
 rw[aD yes]
 have ex:∀ {A:Around}{Q:Bool->Shared->Prop},Q true s->wpAny (model prog w) A (Builtin.Tuple.tupleIsExact (.ref t)) Q E s:=fun q=>by
  unfold Builtin.Tuple.tupleIsExact
  exact ae (dg ⟨_,e0,rfl⟩ (ag q))
 refine ae (ex ?_)
 rw[aD rfl]
 exact ae (eJ (ag ⟨_,rfl,ag h⟩))
def rSlU:V->Option Int->Option Int->Hp->VK->Prop:=fun x lo hi H Q=>∃ a xs,x= .ref a/\H a=some (.tup xs)/\TupR H (cutV xs lo hi) Q
theorem jFI:SlR X rSlU:=by
 intro ad s σ H x v vl vu lo hi sl Q I rx hs pl pu h
 obtain⟨a,xs,rfl,hx,q⟩:=h
 by_cases hw:HT.sIx xs.length 0 lo=0/\HT.sIx xs.length xs.length hi=xs.length
 ·cases rx
  obtain⟨_,its,r,n,e⟩:=I.hok a _ hx
  have hlen:its.toArray.size=xs.length:=by rw[aj]; exact r.length.symm
  refine⟨"tuple",_,bi.lookup,⟨_,e,rfl⟩,jCU e hs pl pu (by rw[hlen]; exact hw) ⟨.ref a,H,I,rfl,q.old ?_⟩⟩
  rw[hx]
  congr 2
  unfold cutV
  rw[hw.1,hw.2]
  simp
 ·exact jTQ ad s σ H _ v vl vu lo hi sl Q I rx hs pl pu ⟨a,xs,rfl,SqT.of hx,hw,fun p hp=>q.new hp⟩
theorem Inv.big' {ad:List (Addr×Obj)}{σ:St}{H:Hp}{s:Shared}(I:Inv X ad σ H s):sysModules<s.heap.objs.size:=dG (by decide) (I.mod.glob.keeps I.bk).lt
def jTO:TE:=fun _ H Q=>∀ p,H p=none->Q (.ref p) (upd H p (.dK []))
theorem je_dict0 {pos:Pos} :JE X (.Dict [] [] pos) jTO:=⟨fun ad s σ H Q I h=>
 wpAny_Dict_empty ⟨.ref s.heap.objs.size,_,I.laid (a:=s.heap.objs.size) (o:= .dK []) (t':=s.toks) (fun _ _ q=>af _ q) (ai _)
  ⟨bh _,bY.mpr (cS (aG I.big')),[], .nil,Heap.DictOf.new s.heap⟩,rfl,h _ (I.hok.fresh (ai _))⟩⟩
theorem jAV {x:Str}{v:V}{u:Value}{pos:Pos}(hg:Gl1 X x)(hm:X.mg x=some u)(r:RelV v u)(hd:(x==("__debug__" :Str))=false:=by decide):JE X (.Name x pos) (tC v):=⟨jS9 hg.a hm r hd⟩
theorem jH7 {tg a b:Expr}{t:TA}{p pos:Pos}(hg:Gl1 X "range")(hm:X.mg "range" =none)(ha:JA X [a,b] t)(hs:starEach [a,b] X.env=(false,eval a X.env)::starEach [b] X.env)(hs2:starEach [b] X.env=(false,eval b X.env)::starEach [] X.env):
  JI X tg (.Call (.Name "range" p) [a,b] [] pos) (iRng2 t):=⟨jM6 hg.a hm ha.h (by rw[hs,hs2]; rfl) hs2⟩
theorem jJT {tg e:Expr}{te:TE}{g:TG}{pos:Pos}(he:JE X e te)(hg:JG X tg g)(hs:swapsWithSole [tg] e pos.line X.env=pure false:=by rfl)(hw:swappedStores [tg] e X.env=pure none:=by rfl)
  (h1:(assignEach [tg] X.env).map (·.2)=[assign tg X.env]:=by rfl):JS X (.Assign [tg] e pos) (tAsg te g):=⟨jQW he.h hg.h hs hw h1⟩
section
variable {K:W.Frag}{σ:St}
theorem jAC {a:Addr}{xs:List V}(hn:xs.length<sizeLine)(Pv:Addr->Nat->St->Hp->List V->Prop)(h0:∀ D,H1 D=none->Pv D 0 (blkσ m σ) (upd H1 D (.lst [])) [])
  (hD:∀ D i σ' H' zs,H1 D=none->Pv D i σ' H' zs->H' a=some (.tup xs)/\H' D=some (.lst zs)/\zs.length<=i)
  (hs:∀ D i σ' H' zs x,H1 D=none->xs[i]?=some x->Pv D i σ' H' zs->g x σ' H' fun σ2 H2=>tt σ2 H2 fun b H3=>if b=true then te σ2 H3 fun v H4=>H4 D=some (.lst zs)/\Pv D (i+1) σ2 (upd H4 D (.lst (zs++[v]))) (zs++[v]) else Pv D (i+1) σ2 H3 zs)
  (hd:∀ D σ' H' zs,H1 D=none->Pv D xs.length σ' H' zs->Q (.ref D) H'):qE m g tt te σ Q (Itt K a) H1:=by
 intro D hDn
 refine⟨fun i k σ' H' zs=>k=xs.length - i/\i<=xs.length/\Pv D i σ' H' zs,⟨_,rfl,bh _,h0 D hDn⟩,?_⟩
 rintro i k σ' H' zs ⟨rfl,hi,p⟩
 obtain⟨s1,q1,q2⟩:=hD D i σ' H' zs hDn p
 refine⟨q1,by lia,?_⟩
 by_cases hlt:i<xs.length
 ·refine .inr ⟨⟨xs,xs[i],SqT.of s1,by simp [hlt]⟩,Pv D (i+1),fun σ2 H2 zs z=>⟨xs.length - (i+1),by lia,rfl,hlt,z⟩,fun v H'' y=>?_⟩
  obtain⟨e1,e2⟩:=y
  subst e1
  exact hs D i σ' _ zs v hDn (e2 xs (SqT.of s1)) p
 ·have e:i=xs.length:=by lia
  subst e
  exact .inl ⟨⟨xs,SqT.of s1,ai _⟩,hd D σ' H' zs hDn p⟩
end
inductive Tr where
 | non
 | bl (b:Bool)
 | int (i:Int)
 | str (x:Str)
 | lst (ts:List Tr)
 | tup (ts:List Tr)
mutual
def TAt (H:Hp):Tr->V->Prop
 | .non,v=>v= .non
 | .bl b,v=>v= .bl b
 | .int i,v=>v= .int i
 | .str x,v=>v= .str x
 | .lst ts,v=>∃ a vs,v= .ref a/\H a=some (.lst vs)/\TsAt H ts vs
 | .tup ts,v=>∃ a vs,v= .ref a/\H a=some (.tup vs)/\TsAt H ts vs
def TsAt (H:Hp):List Tr->List V->Prop
 | [],vs=>vs=[]
 | t::ts,vs=>∃ v r,vs=v::r/\TAt H t v/\TsAt H ts r
end
mutual
def dep:Tr->Nat
 | .lst ts=>deps ts+1
 | .tup ts=>deps ts+1
 | _=>0
def deps:List Tr->Nat
 | []=>0
 | t::ts=>max (dep t) (deps ts)
end
mutual
def eqT:Tr->Tr->Bool
 | .non, .non=>true
 | .bl a, .bl b=>a==b
 | .bl a, .int b=>(if a then 1 else 0)==b
 | .int a, .bl b=>a==(if b then 1 else 0)
 | .int a, .int b=>a==b
 | .str a, .str b=>a==b
 | .lst a, .lst b=>eqTs a b
 | .tup a, .tup b=>eqTs a b
 | _,_=>false
def eqTs:List Tr->List Tr->Bool
 | [],[]=>true
 | a::as,b::bs=>eqT a b&&eqTs as bs
 | _,_=>false
end
mutual
theorem jDM:∀ t:Tr,eqT t t=true
 | .non=>by simp [eqT]
 | .bl b=>by simp [eqT]
 | .int i=>by simp [eqT]
 | .str x=>by simp [eqT]
 | .lst ts=>by rw[eqT]; exact jCC ts
 | .tup ts=>by rw[eqT]; exact jCC ts
theorem jCC:∀ ts:List Tr,eqTs ts ts=true
 | []=>by simp [eqTs]
 | t::ts=>by rw[eqTs,jDM t,jCC ts]; rfl
end
mutual
theorem TAt.ext {H H':Hp}(e:Ext H H'):∀ {t:Tr}{v:V},TAt H t v->TAt H' t v
 | .non,_,h=>h
 | .bl _,_,h=>h
 | .int _,_,h=>h
 | .str _,_,h=>h
 | .lst ts,_,⟨a,vs,q,h,r⟩=>⟨a,vs,q,e _ _ h,TsAt.ext e r⟩
 | .tup ts,_,⟨a,vs,q,h,r⟩=>⟨a,vs,q,e _ _ h,TsAt.ext e r⟩
theorem TsAt.ext {H H':Hp}(e:Ext H H'):∀ {ts:List Tr}{vs:List V},TsAt H ts vs->TsAt H' ts vs
 | [],_,h=>h
 | t::ts,_,⟨v,r,q,h,s⟩=>⟨v,r,q,TAt.ext e h,TsAt.ext e s⟩
end
mutual
theorem TAt.inj {H:Hp} :∀ {t u:Tr}{v:V},TAt H t v->TAt H u v->t=u
 | .non,u,_,h,h'=>by
  cases (show _=V.non from h)
  cases u with
  | non=>rfl
  | bl b=>cases (show V.non=_ from h')
  | int b=>cases (show V.non=_ from h')
  | str b=>cases (show V.non=_ from h')
  | lst ts=>obtain⟨_,_,q,_⟩:=h'; cases q
  | tup ts=>obtain⟨_,_,q,_⟩:=h'; cases q
 | .bl b,u,_,h,h'=>by
  cases (show _=V.bl b from h)
  cases u with
  | non=>cases (show V.bl b=_ from h')
  | bl b=>cases (show V.bl _=V.bl b from h'); rfl
  | int i=>cases (show V.bl b=V.int i from h')
  | str i=>cases (show V.bl b=V.str i from h')
  | lst ts=>obtain⟨_,_,q,_⟩:=h'; cases q
  | tup ts=>obtain⟨_,_,q,_⟩:=h'; cases q
 | .int b,u,_,h,h'=>by
  cases (show _=V.int b from h)
  cases u with
  | non=>cases (show V.int b=_ from h')
  | bl i=>cases (show V.int b=V.bl i from h')
  | int b=>cases (show V.int _=V.int b from h'); rfl
  | str i=>cases (show V.int b=V.str i from h')
  | lst ts=>obtain⟨_,_,q,_⟩:=h'; cases q
  | tup ts=>obtain⟨_,_,q,_⟩:=h'; cases q
 | .str b,u,_,h,h'=>by
  cases (show _=V.str b from h)
  cases u with
  | non=>cases (show V.str b=_ from h')
  | bl i=>cases (show V.str b=V.bl i from h')
  | int i=>cases (show V.str b=V.int i from h')
  | str b=>cases (show V.str _=V.str b from h'); rfl
  | lst ts=>obtain⟨_,_,q,_⟩:=h'; cases q
  | tup ts=>obtain⟨_,_,q,_⟩:=h'; cases q
 | .lst ts,u,_,⟨a,vs,q,h,r⟩,h'=>by
  subst q
  cases u with
  | non=>cases (show V.ref a=_ from h')
  | bl i=>cases (show V.ref a=V.bl i from h')
  | int i=>cases (show V.ref a=V.int i from h')
  | str i=>cases (show V.ref a=V.str i from h')
  | lst us=>
   obtain⟨a',vs',q',h2,r'⟩:=h'
   cases q'
   rw[h] at h2
   cases h2
   rw[TsAt.inj r r']
  | tup us=>
   obtain⟨a',vs',q',h2,r'⟩:=h'
   cases q'
   rw[h] at h2
   cases h2
 | .tup ts,u,_,⟨a,vs,q,h,r⟩,h'=>by
  subst q
  cases u with
  | non=>cases (show V.ref a=_ from h')
  | bl i=>cases (show V.ref a=V.bl i from h')
  | int i=>cases (show V.ref a=V.int i from h')
  | str i=>cases (show V.ref a=V.str i from h')
  | lst us=>
   obtain⟨a',vs',q',h2,r'⟩:=h'
   cases q'
   rw[h] at h2
   cases h2
  | tup us=>
   obtain⟨a',vs',q',h2,r'⟩:=h'
   cases q'
   rw[h] at h2
   cases h2
   rw[TsAt.inj r r']
theorem TsAt.inj {H:Hp} :∀ {ts us:List Tr}{vs:List V},TsAt H ts vs->TsAt H us vs->ts=us
 | [],us,_,h,h'=>by
  cases (show _=[] from h)
  cases us with
  | nil=>rfl
  | cons u us=>obtain⟨_,_,q,_⟩:=h'; cases q
 | t::ts,us,_,⟨v,r,q,h,s⟩,h'=>by
  subst q
  cases us with
  | nil=>cases (show v::r=[] from h')
  | cons u us=>
   obtain⟨v',r',q,h2,s2⟩:=h'
   cases q
   rw[TAt.inj h h2,TsAt.inj s s2]
end
theorem TsAt.len {H:Hp} :∀ {ts:List Tr}{vs:List V},TsAt H ts vs->vs.length=ts.length
 | [],_,h=>by cases (show _=[] from h); rfl
 | t::ts,_,⟨v,r,q,_,s⟩=>by rw[q,aZ,aZ,TsAt.len s]
theorem TsAt.get {H:Hp} :∀ {ts:List Tr}{vs:List V},TsAt H ts vs->∀ {i:Nat}{v:V},vs[i]?=some v->∃ t,ts[i]?=some t/\TAt H t v
 | [],_,h,i,v,e=>by cases (show _=[] from h); cases e
 | t::ts,_,⟨v,r,q,h,s⟩,0,v',e=>by subst q; cases e; exact⟨t,rfl,h⟩
 | t::ts,_,⟨v,r,q,h,s⟩,i+1,v',e=>by subst q; exact TsAt.get s (i:=i) e
theorem jEH:∀ ts us:List Tr,eqTs ts us=((List.range (min ts.length us.length)).all (fun j=>eqT (ts.getD j .non) (us.getD j .non))&&ts.length==us.length)
 | [],[]=>by simp [eqTs]
 | [],u::us=>by simp [eqTs]
 | t::ts,[]=>by simp [eqTs]
 | t::ts,u::us=>by
  rw[eqTs,jEH ts us,aZ,aZ,show min (ts.length+1) (us.length+1)=min ts.length us.length+1 by lia,List.range_succ_eq_map,fQ,gq]
  have e:(ts.length+1==us.length+1)=(ts.length==us.length):=by
   rw[bq]
   simp
  rw[e,Bool.and_assoc]
  rfl
theorem jG9 {ts:List Tr}{t:Tr}(h:t∈ts):dep t<=deps ts:=by
 induction ts with
 | nil=>cases h
 | cons a r ih=>
  rw[deps]
  rcases az.mp h with q | q
  ·subst q; lia
  ·have:=ih q; lia
def flatT:Tr->Bool
 | .lst _=>false
 | .tup _=>false
 | _=>true
theorem jNV {H:Hp}{t:Tr}{x:V}(h:TAt H t x)(f:flatT t=true):xE x=true:=by
 cases t with
 | non=>cases (show x=_ from h); rfl
 | bl b=>cases (show x=V.bl b from h); rfl
 | int b=>cases (show x=V.int b from h); rfl
 | str b=>cases (show x=V.str b from h); rfl
 | lst ts=>cases f
 | tup ts=>cases f
theorem jTC {H:Hp}{t u:Tr}{x y:V}(h:TAt H t x)(h':TAt H u y)(f:flatT t=true)(f':flatT u=true):eqV x y=eqT t u:=by
 cases t with
 | non=>
  cases (show x=_ from h)
  cases u with
  | non=>cases (show y=_ from h'); simp [eqV,eqT]
  | bl b=>cases (show y=V.bl b from h'); simp [eqV,eqT]
  | int b=>cases (show y=V.int b from h'); simp [eqV,eqT]
  | str b=>cases (show y=V.str b from h'); simp [eqV,eqT]
  | lst ts=>cases f'
  | tup ts=>cases f'
 | bl c=>
  cases (show x=V.bl c from h)
  cases u with
  | non=>cases (show y=_ from h'); simp [eqV,eqT]
  | bl b=>cases (show y=V.bl b from h'); simp [eqV,eqT]
  | int b=>cases (show y=V.int b from h'); simp [eqV,eqT]
  | str b=>cases (show y=V.str b from h'); simp [eqV,eqT]
  | lst ts=>cases f'
  | tup ts=>cases f'
 | int c=>
  cases (show x=V.int c from h)
  cases u with
  | non=>cases (show y=_ from h'); simp [eqV,eqT]
  | bl b=>cases (show y=V.bl b from h'); simp [eqV,eqT]
  | int b=>cases (show y=V.int b from h'); simp [eqV,eqT]
  | str b=>cases (show y=V.str b from h'); simp [eqV,eqT]
  | lst ts=>cases f'
  | tup ts=>cases f'
 | str c=>
  cases (show x=V.str c from h)
  cases u with
  | non=>cases (show y=_ from h'); simp [eqV,eqT]
  | bl b=>cases (show y=V.bl b from h'); simp [eqV,eqT]
  | int b=>cases (show y=V.int b from h'); simp [eqV,eqT]
  | str b=>cases (show y=V.str b from h'); simp [eqV,eqT]
  | lst ts=>cases f'
  | tup ts=>cases f'
 | lst ts=>cases f
 | tup ts=>cases f
section
variable {ad:List (Addr×Obj)}{σ:St}
theorem TsAt.both {ts us:List Tr}{vs ws:List V}{its its2:List Value}(h1:TsAt H ts vs)(h2:TsAt H us ws)(r1:Vals vs its)(r2:Vals ws its2){j:Nat}(a1:j<its.toArray.size)(a2:j<its2.toArray.size):
  ∃ t u x y,ts.getD j .non=t/\us.getD j .non=u/\t∈ts/\TAt H t x/\TAt H u y/\RelV x its.toArray[j]/\RelV y its2.toArray[j]:=by
 have l1:=r1.length
 have l2:=r2.length
 rw[aj] at a1 a2
 obtain⟨x,hx⟩:∃ x,vs[j]?=some x:=⟨vs[j]'(by lia),by simp [show j<vs.length by lia]⟩
 obtain⟨y,hy⟩:∃ y,ws[j]?=some y:=⟨ws[j]'(by lia),by simp [show j<ws.length by lia]⟩
 obtain⟨t,ht,hxt⟩:=h1.get hx
 obtain⟨u,hu,hyu⟩:=h2.get hy
 obtain⟨v,hv,rv⟩:=r1.get hx
 obtain⟨w,hw,rw'⟩:=r2.get hy
 have e1:its.toArray[j]=v:=by
  have:its[j]?=some its[j]:=by simp [a1]
  rw[hv] at this
  simpa using (be this).symm
 have e2:its2.toArray[j]=w:=by
  have:its2[j]?=some its2[j]:=by simp [a2]
  rw[hw] at this
  simpa using (be this).symm
 refine⟨t,u,x,y,by rw[aC,ht]; rfl,by rw[aC,hu]; rfl,aB ht,hxt,hyu,by rw[e1]; exact rv,by rw[e2]; exact rw'⟩
theorem jRB (I:Inv X ad σ H s):∀ (n:Nat) (t u:Tr) (x y:V) (vx vy:Value) (A:Around),dep t=n->TAt H t x->TAt H u y->RelV x vx->RelV y vy->A.units+n<cLine->SeqAt.EqAt A s vx vy (eqT t u):=by
 intro n
 induction n using strongRecOn with
 | ind n ih=>
  intro t u x y vx vy A hn ht hu rx ry hc
  have hcu:A.units<cLine:=by lia
  cases ft:flatT t with
  | true=>
   cases fu:flatT u with
   | true=>
    rw[<- jTC ht hu ft fu]
    exact jRA rx ry (jNV ht ft) (jNV hu fu)
   | false=>
    cases u with
    | lst us=>
     obtain⟨b,ws,rfl,hb,_⟩:=hu
     cases ry
     obtain⟨its,_,pl,_⟩:=I.list (SqL.of hb)
     cases t with
     | non=>cases (show x=_ from ht); cases rx; rw[show eqT .non (.lst us)=false by simp [eqT]]; exact .none_list pl.isList hcu
     | bl c=>cases (show x=V.bl c from ht); cases rx; rw[show eqT (.bl c) (.lst us)=false by simp [eqT]]; exact .bool_list c pl.isList hcu
     | int c=>cases (show x=V.int c from ht); obtain⟨k,rfl⟩:=rx; rw[show eqT (.int c) (.lst us)=false by simp [eqT]]; exact .int_list c k pl.isList hcu
     | str c=>cases (show x=V.str c from ht); obtain⟨k,rfl⟩:=rx; rw[show eqT (.str c) (.lst us)=false by simp [eqT]]; exact .str_list c k pl.isList hcu
     | lst ts=>cases ft
     | tup ts=>cases ft
    | tup us=>
     obtain⟨b,ws,rfl,hb,_⟩:=hu
     cases ry
     obtain⟨its,_,pl,_⟩:=I.tuple (SqT.of hb)
     cases t with
     | non=>cases (show x=_ from ht); cases rx; rw[show eqT .non (.tup us)=false by simp [eqT]]; exact .none_tuple pl hcu
     | bl c=>cases (show x=V.bl c from ht); cases rx; rw[show eqT (.bl c) (.tup us)=false by simp [eqT]]; exact .bool_tuple c pl hcu
     | int c=>cases (show x=V.int c from ht); obtain⟨k,rfl⟩:=rx; rw[show eqT (.int c) (.tup us)=false by simp [eqT]]; exact .int_tuple c k pl hcu
     | str c=>cases (show x=V.str c from ht); obtain⟨k,rfl⟩:=rx; rw[show eqT (.str c) (.tup us)=false by simp [eqT]]; exact .str_tuple c k pl hcu
     | lst ts=>cases ft
     | tup ts=>cases ft
    | non=>cases fu
    | bl c=>cases fu
    | int c=>cases fu
    | str c=>cases fu
  | false=>
   cases t with
   | non=>cases ft
   | bl c=>cases ft
   | int c=>cases ft
   | str c=>cases ft
   | lst ts=>
    have ht0:=ht
    obtain⟨a,vs,rfl,ha,hts⟩:=ht
    cases rx
    obtain⟨its,r1,pl,_⟩:=I.list (SqL.of ha)
    cases u with
    | non=>cases (show y=_ from hu); cases ry; rw[show eqT (.lst ts) .non=false by simp [eqT]]; exact .list_none pl.isList hcu
    | bl c=>cases (show y=V.bl c from hu); cases ry; rw[show eqT (.lst ts) (.bl c)=false by simp [eqT]]; exact .list_bool c pl.isList hcu
    | int c=>cases (show y=V.int c from hu); obtain⟨k,rfl⟩:=ry; rw[show eqT (.lst ts) (.int c)=false by simp [eqT]]; exact .list_int c k pl.isList hcu
    | str c=>cases (show y=V.str c from hu); obtain⟨k,rfl⟩:=ry; rw[show eqT (.lst ts) (.str c)=false by simp [eqT]]; exact .list_str c k pl.isList hcu
    | tup us=>
     obtain⟨b,ws,rfl,hb,_⟩:=hu
     cases ry
     obtain⟨its2,_,pl2,_⟩:=I.tuple (SqT.of hb)
     rw[show eqT (.lst ts) (.tup us)=false by simp [eqT]]
     exact .list_tuple pl.isList pl2 hcu
    | lst us=>
     have hu0:=hu
     obtain⟨b,ws,rfl,hb,hus⟩:=hu
     cases ry
     by_cases e:a=b
     ·subst e
      rw[<- TAt.inj ht0 hu0,jDM]
      exact .same _
     ·obtain⟨its2,r2,pl2,_⟩:=I.list (SqL.of hb)
      refine .of_refs e ?_
      have l1:=r1.length
      have l2:=r2.length
      have m1:=hts.len
      have m2:=hus.len
      rw[eqT,jEH]
      by_cases hl:ts.length=us.length
      ·have key:=SeqAt.RcAt.lists (e:=fun j=>eqT (ts.getD j .non) (us.getD j .non)) pl.isList pl2.isList (by rw[aj,aj]; lia) hcu fun j a1 a2=>by
        obtain⟨t',u',x',y',e1,e2,hm,q1,q2,q3,q4⟩:=TsAt.both hts hus r1 r2 a1 a2
        rw[e1,e2]
        have hd:=jG9 hm
        have hn':deps ts+1=n:=by rw[<- hn,dep]
        exact ih (dep t') (by lia) t' u' x' y' _ _ _ rfl q1 q2 q3 q4 (by rw[dU]; lia)
       have ez:its.toArray.size=min ts.length us.length:=by rw[aj]; lia
       rw[ez] at key
       rw[show (ts.length==us.length)=true by simp [hl],gY]
       exact key
      ·rw[show (ts.length==us.length)=false by simp [hl],bP]
       refine SeqAt.RcAt.lists_lengths pl.isList pl2.isList ?_ hcu
       rw[aj,aj]
       simp
       lia
   | tup ts=>
    have ht0:=ht
    obtain⟨a,vs,rfl,ha,hts⟩:=ht
    cases rx
    obtain⟨its,r1,pl,_⟩:=I.tuple (SqT.of ha)
    cases u with
    | non=>cases (show y=_ from hu); cases ry; rw[show eqT (.tup ts) .non=false by simp [eqT]]; exact .tuple_none pl hcu
    | bl c=>cases (show y=V.bl c from hu); cases ry; rw[show eqT (.tup ts) (.bl c)=false by simp [eqT]]; exact .tuple_bool c pl hcu
    | int c=>cases (show y=V.int c from hu); obtain⟨k,rfl⟩:=ry; rw[show eqT (.tup ts) (.int c)=false by simp [eqT]]; exact .tuple_int c k pl hcu
    | str c=>cases (show y=V.str c from hu); obtain⟨k,rfl⟩:=ry; rw[show eqT (.tup ts) (.str c)=false by simp [eqT]]; exact .tuple_str c k pl hcu
    | lst us=>
     obtain⟨b,ws,rfl,hb,_⟩:=hu
     cases ry
     obtain⟨its2,_,pl2,_⟩:=I.list (SqL.of hb)
     rw[show eqT (.tup ts) (.lst us)=false by simp [eqT]]
     exact .tuple_list pl pl2.isList hcu
    | tup us=>
     have hu0:=hu
     obtain⟨b,ws,rfl,hb,hus⟩:=hu
     cases ry
     by_cases e:a=b
     ·subst e
      rw[<- TAt.inj ht0 hu0,jDM]
      exact .same _
     ·obtain⟨its2,r2,pl2,_⟩:=I.tuple (SqT.of hb)
      refine .of_refs e ?_
      have l1:=r1.length
      have l2:=r2.length
      have m1:=hts.len
      have m2:=hus.len
      rw[eqT,jEH]
      have key:=SeqAt.RcAt.tuples (e:=fun j=>eqT (ts.getD j .non) (us.getD j .non)) pl pl2 hcu fun j a1 a2=>by
       obtain⟨t',u',x',y',e1,e2,hm,q1,q2,q3,q4⟩:=TsAt.both hts hus r1 r2 a1 a2
       rw[e1,e2]
       have hd:=jG9 hm
       have hn':deps ts+1=n:=by rw[<- hn,dep]
       exact ih (dep t') (by lia) t' u' x' y' _ _ _ rfl q1 q2 q3 q4 (by rw[dU]; lia)
      have z1:its.toArray.size=ts.length:=by rw[aj]; lia
      have z2:its2.toArray.size=us.length:=by rw[aj]; lia
      rw[z1,z2] at key
      exact key
theorem jNJ (I:Inv X ad σ H s){ts us:List Tr}{vs ws:List V}{its its2:List Value}(h1:TsAt H ts vs)(h2:TsAt H us ws)(r1:Vals vs its)(r2:Vals ws its2){A:Around}(hc:A.units+deps ts<cLine):
  ∀ j (a1:j<its.toArray.size) (a2:j<its2.toArray.size),SeqAt.EqAt A s its.toArray[j] its2.toArray[j] (eqT (ts.getD j .non) (us.getD j .non)):=fun j a1 a2=>by
 obtain⟨t',u',x',y',e1,e2,hm,q1,q2,q3,q4⟩:=TsAt.both h1 h2 r1 r2 a1 a2
 rw[e1,e2]
 have hd:=jG9 hm
 exact jRB I (dep t') t' u' x' y' _ _ _ rfl q1 q2 q3 q4 (by lia)
theorem jSK (hu:X.A.units+101<cLine):OpR X (compareOp .Eq) (fun x y H Q=>∃ ts us,TAt H (.lst ts) x/\TAt H (.lst us) y/\deps ts<=100/\Q (.bl (eqTs ts us)) H):=by
 intro ad s σ H x y v u Q I rx ry h
 obtain⟨ts,us,⟨a,vs,rfl,ha,hts⟩,⟨b,ws,rfl,hb,hus⟩,hd,q⟩:=h
 cases rx
 cases ry
 obtain⟨its,r1,p1,_⟩:=I.list (SqL.of ha)
 obtain⟨its2,r2,p2,_⟩:=I.list (SqL.of hb)
 have l1:=r1.length
 have l2:=r2.length
 have m1:=hts.len
 have m2:=hus.len
 rw[jEH] at q
 by_cases hl:ts.length=us.length
 ·refine SeqAt.eq_listAt (e:=fun j=>eqT (ts.getD j .non) (us.getD j .non)) p1.isList p2.isList (by rw[aj,aj]; lia) (by lia) (jNJ I hts hus r1 r2 (by rw[dU]; lia)) ⟨.bl _,H,I,rfl,?_⟩
  have ez:its.toArray.size=min ts.length us.length:=by rw[aj]; lia
  rw[ez]
  rw[show (ts.length==us.length)=true by simp [hl],gY] at q
  exact q
 ·rw[show (ts.length==us.length)=false by simp [hl],bP] at q
  refine SeqAt.eq_list_lengthsAt p1.isList p2.isList ?_ (by lia) ⟨.bl _,H,I,rfl,q⟩
  rw[aj,aj]
  simp
  lia
theorem jSI (hu:X.A.units+101<cLine):OpR X (compareOp .NotEq) (fun x y H Q=>∃ ts us,TAt H (.lst ts) x/\TAt H (.lst us) y/\deps ts<=100/\Q (.bl (!eqTs ts us)) H):=by
 intro ad s σ H x y v u Q I rx ry h
 obtain⟨ts,us,⟨a,vs,rfl,ha,hts⟩,⟨b,ws,rfl,hb,hus⟩,hd,q⟩:=h
 cases rx
 cases ry
 obtain⟨its,r1,p1,_⟩:=I.list (SqL.of ha)
 obtain⟨its2,r2,p2,_⟩:=I.list (SqL.of hb)
 have l1:=r1.length
 have l2:=r2.length
 have m1:=hts.len
 have m2:=hus.len
 rw[jEH] at q
 by_cases hl:ts.length=us.length
 ·refine SeqAt.RcNeAt.lists (e:=fun j=>eqT (ts.getD j .non) (us.getD j .non)) p1.isList p2.isList (by rw[aj,aj]; lia) (by lia) (jNJ I hts hus r1 r2 (by rw[dU]; lia)) _ _ _ _ ⟨.bl _,H,I,rfl,?_⟩
  have ez:its.toArray.size=min ts.length us.length:=by rw[aj]; lia
  rw[ez]
  rw[show (ts.length==us.length)=true by simp [hl],gY] at q
  exact q
 ·rw[show (ts.length==us.length)=false by simp [hl],bP] at q
  refine gF p1.isList p2.isList ?_ (by lia) _ _ _ _ ⟨.bl _,H,I,rfl,q⟩
  rw[aj,aj]
  simp
  lia
theorem Room.units101 {k:Nat}{A:Around}(r:Room k A):A.units+101<cLine:=by have:=r.un; lia
end
theorem jOA {x:Str}{c:Addr} :∀ (l:List (Str×NameKind)) (n:Nat) (acc:List (Str×Addr)),(cellsFrom n l acc).lookup x=some c->acc.lookup x=some c\/(n<=c/\(x,NameKind.cell)∈l)
 | [],n,acc,h=> .inl h
 | (y,k)::r,n,acc,h=>by
  unfold cellsFrom at h
  by_cases hk:(k==NameKind.cell)=true
  ·rw[aD hk] at h
   have ek:k= .cell:=eq_of_beq hk
   rcases jOA r (n+1) _ h with q | ⟨q1,q2⟩
   ·rw[aM] at q
    cases e:x==y with
    | true=>
     rw[e] at q
     cases q
     exact .inr ⟨ai _,by rw[eq_of_beq e,ek]; exact aw⟩
    | false=>rw[e] at q; exact .inl q
   ·exact .inr ⟨by lia,aA _ q2⟩
  ·rw[aF hk] at h
   rcases jOA r n _ h with q | ⟨q1,q2⟩
   ·exact .inl q
   ·exact .inr ⟨q1,aA _ q2⟩
theorem jOC:∀ (l:List (Str×NameKind)) (n:Nat) (acc:List (Str×Addr)),(∀ x y c,acc.lookup x=some c->acc.lookup y=some c->x=y)->(∀ x c,acc.lookup x=some c->c<n)->
  ∀ x y c,(cellsFrom n l acc).lookup x=some c->(cellsFrom n l acc).lookup y=some c->x=y
 | [],n,acc,h1,_=>h1
 | (z,k)::r,n,acc,h1,h2=>by
  unfold cellsFrom
  by_cases hk:(k==NameKind.cell)=true
  ·rw[aD hk]
   refine jOC r (n+1) _ (fun x y c a b=>?_) (fun x c a=>?_)
   ·rw[aM] at a b
    cases e1:x==z with
    | true=>
     rw[e1] at a
     cases a
     cases e2:y==z with
     | true=>exact(eq_of_beq e1).trans (eq_of_beq e2).symm
     | false=>rw[e2] at b; exact absurd (h2 y n b) (bV _)
    | false=>
     rw[e1] at a
     cases e2:y==z with
     | true=>rw[e2] at b; cases b; exact absurd (h2 x n a) (bV _)
     | false=>rw[e2] at b; exact h1 x y c a b
   ·rw[aM] at a
    cases e1:x==z with
    | true=>rw[e1] at a; cases a; exact ce _
    | false=>rw[e1] at a; exact bQ (h2 x c a)
  ·rw[aF hk]
   exact jOC r n acc h1 h2
theorem jOD {x:Str} :∀ (l:List (Str×NameKind)) (n:Nat) (acc:List (Str×Addr)),((x,NameKind.cell)∈l\/∃ c,acc.lookup x=some c)->∃ c,(cellsFrom n l acc).lookup x=some c
 | [],n,acc,h=>by
  rcases h with h | h
  ·cases h
  ·exact h
 | (z,k)::r,n,acc,h=>by
  unfold cellsFrom
  by_cases hk:(k==NameKind.cell)=true
  ·rw[aD hk]
   refine jOD r (n+1) _ ?_
   by_cases e:x=z
   ·subst e
    exact .inr ⟨n,by rw[aM,dR]⟩
   ·rcases h with h | ⟨c,h⟩
    ·rcases az.mp h with q | q
     ·cases q; exact absurd rfl e
     ·exact .inl q
    ·exact .inr ⟨c,by rw[aM,bY.mpr e]; exact h⟩
  ·rw[aF hk]
   refine jOD r n acc ?_
   rcases h with h | h
   ·rcases az.mp h with q | q
    ·cases q; exact absurd rfl hk
    ·exact .inl q
   ·exact .inr h
theorem jOB {x:Str}{c n0:Nat} :∀ (l:List (Str×NameKind)) (n:Nat) (acc:List (Str×Addr)),n0<=n->((x,NameKind.cell)∈l\/∀ c,acc.lookup x=some c->n0<=c)->(cellsFrom n l acc).lookup x=some c->n0<=c
 | [],n,acc,_,h,e=>by
  rcases h with h | h
  ·cases h
  ·exact h c e
 | (z,k)::r,n,acc,hn,h,e=>by
  unfold cellsFrom at e
  by_cases hk:(k==NameKind.cell)=true
  ·rw[aD hk] at e
   refine jOB r (n+1) _ (by lia) ?_ e
   by_cases ez:x=z
   ·subst ez
    refine .inr fun c' h'=>?_
    rw[aM,dR] at h'
    cases h'
    exact hn
   ·rcases h with h | h
    ·rcases az.mp h with q | q
     ·cases q; exact absurd rfl ez
     ·exact .inl q
    ·refine .inr fun c' h'=>?_
     rw[aM,bY.mpr ez] at h'
     exact h c' h'
  ·rw[aF hk] at e
   refine jOB r n acc hn ?_ e
   rcases h with h | h
   ·rcases az.mp h with q | q
    ·cases q; exact absurd rfl hk
    ·exact .inl q
   ·exact .inr h
theorem jIT {x:Str} :∀ (l:List (Str×NameKind)) (n:Nat) (acc:List (Str×Addr)),(x,NameKind.cell)∉l->(cellsFrom n l acc).lookup x=acc.lookup x
 | [],_,_,_=>rfl
 | (z,k)::r,n,acc,h=>by
  unfold cellsFrom
  by_cases hk:(k==NameKind.cell)=true
  ·have ek:k= .cell:=eq_of_beq hk
   subst ek
   have ne:x≠z:=fun e=>h (by rw[e]; exact aw)
   rw[aD hk,jIT r (n+1) _ (fun q=>h (aA _ q)),aM,bY.mpr ne]
  ·rw[aF hk,jIT r n _ (fun q=>h (aA _ q))]
theorem jIU:∀ (l:List (Str×NameKind)) (h:Heap) (acc:List (Str×Addr)),(∀ x c,acc.lookup x=some c->∃ v,h.IsCell c v)->∀ x c,(cellsFrom h.objs.size l acc).lookup x=some c->∃ v,(pushCells h l).IsCell c v
 | [],h,acc,k=>k
 | (z,k)::r,h,acc,hc=>by
  unfold cellsFrom pushCells
  by_cases hk:(k==NameKind.cell)=true
  ·rw[aD hk,aD hk]
   have e:(h.push { cls:= .type "cell",data:= .cell none}).objs.size=h.objs.size+1:=bG _ _
   rw[<- e]
   refine jIU r _ _ (fun x c q=>?_)
   rw[aM] at q
   cases ez:x==z with
   | true=>rw[ez] at q; cases q; exact⟨none,⟨_,am _ rfl,rfl⟩⟩
   | false=>
    rw[ez] at q
    obtain⟨v,o,ho,hd⟩:=hc x c q
    exact⟨v,o,af _ ho,hd⟩
  ·rw[aF hk,aF hk]
   exact jIU r h acc hc
theorem jDV {env:Env}{x:Str}{k:NameKind}(hk:k= .cell\/k= .free):∀ {l:List (Str×NameKind)},
  (l.map fun (n,k)=>if (k==NameKind.free&&env.scope.kind== .function&&env.kindOf n==some .cell) then (n,NameKind.cell) else (n,k)).lookup x=some k->(x,NameKind.cell)∈l\/(x,NameKind.free)∈l
 | [],h=>by simp at h
 | (n,k')::r,h=>by
  have ih:= @jDV env x k hk r
  have up:(x,NameKind.cell)∈r\/(x,NameKind.free)∈r->(x,NameKind.cell)∈(n,k')::r\/(x,NameKind.free)∈(n,k')::r:=fun q=>q.imp (aA _) (aA _)
  rw[bA] at h
  dsimp only at h
  by_cases hb:(k'==NameKind.free&&env.scope.kind== .function&&env.kindOf n==some .cell)=true
  ·rw[aD hb,aM] at h
   cases hx:x==n with
   | true=>
    have:k'= .free:=by
     simp only [bd] at hb
     exact eq_of_beq hb.1.1
    rw[this,eq_of_beq hx]
    exact .inr aw
   | false=>rw[hx] at h; exact up (ih h)
  ·rw[aF hb,aM] at h
   cases hx:x==n with
   | true=>
    rw[hx] at h
    have e:k'=k:=be h
    rw[eq_of_beq hx,e]
    rcases hk with q | q
    ·rw[q]; exact .inl aw
    ·rw[q]; exact .inr aw
   | false=>rw[hx] at h; exact up (ih h)
theorem jID {M:Model}{A:Around}{E:Value->Shared->Prop}{s:Shared}{scope:Scope}{globals:Addr}{closure:List (Str×Addr)}{qual:Str}{func:Option Addr}{code:Value}{outer:Env}{builtins:Addr}{Q:Env->Shared->Prop}
  (hQ:Q (newEnv scope s.heap.objs.size globals (cellsFrom (s.heap.objs.size+1) scope.names closure) qual func code (some outer) builtins) { s with heap:=pushCells (s.heap.push { cls:= .type "dict",data:= .dict #[]}) scope.names}):
  wpAny M A (newFunctionEnv scope globals closure [] qual func code (some outer) builtins) Q E s:=by
 simp only [newFunctionEnv,Option.isSome_some,gL]
 refine ae (wpAny_alloc ?_)
 refine ae (wpAny_layCells _ (fun name kind cells=>by cases hkc:kind==NameKind.cell <;> simp [hkc]) _ _ _ _ ?_)
 rw[show ({ s with heap:=s.heap.push { cls:= .type "dict",data:= .dict #[]}} :Shared).heap.objs.size=s.heap.objs.size+1 from bG ..]
 first
  | exact ag hQ
  | exact ae (ag (ag hQ))
  | (rw[List.forIn_nil]; exact ae (ag (ag hQ)))
def blkC (X:Cx)(sc:Scope)(cl:List (Str×Addr))(C:Addr)(Nc:List Str)(fp:List Addr)(s:Shared)(H:Hp):Cx where
 prog:=X.prog
 w:=X.w
 K:=X.K
 mg:=X.mg
 base:=X.base
 A:=X.A
 N:=Nc
 s₀:=s
 H₀:=H
 env:=compEnvC sc cl C X.env
 outer:=X.stack
 stack:=X.stack
 ex:=fp
 fn:=fun x=>sc.names.lookup x==some .cell
 calm:=X.calm
 pn:=[]
 xe:=fun _ _=>False
section
variable {tg iter elt:Expr}{ifs:List Expr}{wi:TI}
theorem jL8 {ad:List (Addr×Obj)}{s:Shared}{σ:St}{H:Hp}{fp:List Addr}(I:Inv X ad σ H s)(hkind:sc.kind= .function)(hdis:∀ x,sc.names.lookup x=some .free->(x,NameKind.cell)∉sc.names)
  (hfree:∀ y∈sc.names,y.2= .free->X.env.scope.names.lookup y.1=some .cell\/X.env.scope.names.lookup y.1=some .free) (hm:qL X sc Nc m) (hfp:∀ b∈fp,FpOk X ad H b) (hlt:∀ b∈fp,b<s.heap.objs.size):
  Inv (blkC X sc (cellsFrom (s.heap.objs.size+1) sc.names (kG X.env.cells sc.names [])) s.heap.objs.size Nc fp s H) [] (blkσ m σ) H { s with heap:=pushCells (s.heap.push { cls:= .type "dict",data:= .dict #[]}) sc.names} :=by
 have hcl:∀ y∈sc.names,y.2= .free->∃ c,X.env.cells.lookup y.1=some c:=fun y hy hf=>I.ok.has y.1 (hfree y hy hf)
 have sub:∀ x c,(kG X.env.cells sc.names []).lookup x=some c->X.env.cells.lookup x=some c:=jA8 sc.names [] hcl (fun x c e=>by cases e)
 have clt:∀ x c,(kG X.env.cells sc.names []).lookup x=some c->c<s.heap.objs.size:=fun x c e=>by
  obtain⟨v,o,ho,_⟩:=I.cell x c (sub x c e)
  exact ak ho
 have way:∀ x c,(cellsFrom (s.heap.objs.size+1) sc.names (kG X.env.cells sc.names [])).lookup x=some c->(kG X.env.cells sc.names []).lookup x=some c\/s.heap.objs.size+1<=c:=fun x c e=>(jOA _ _ _ e).imp id fun q=>q.1
 have old:∀ b o,s.heap.get? b=some o->(pushCells (s.heap.push { cls:= .type "dict",data:= .dict #[]}) sc.names).get? b=some o:=fun b o e=>io _ _ b o (af _ e)
 have hns:(pushCells (s.heap.push { cls:= .type "dict",data:= .dict #[]}) sc.names).Ns s.heap.objs.size (fun _=>none):=(Heap.Ns.new s.heap (.type "dict")).keeps (io _ _)
 refine⟨⟨I.ok.mod,hkind,I.ok.glob,I.ok.blt,ai _,jOC _ _ _ (fun x y c h1 h2=>I.ok.inj x y c (sub x c h1) (sub y c h2)) (fun x c e=>bQ (clt x c e)),fun x hx=>?_,fun x c hf e=>?_,I.ok.hd,I.ok.frames, .inl rfl,fun b hb=>?_,I.bs,aQ I.ok.bsz I.sz,fun b o e hb=>?_,fun b hb hz=>?_,I.stack,I.stkFree⟩,
  rfl,I.bare,Un.kept old,⟨_,hns,fun k x v e1 e2 e3=>?_⟩,fun x c e=>?_,I.hok.fresh (ai _),fun x c e=>?_,fun p hp=>absurd (show p∈([]:List (Addr×Obj)) from hp) (by simp),I.hok.kept old,?_⟩
 ·have q:(x,NameKind.cell)∈sc.names\/(x,NameKind.free)∈sc.names:=by
   rcases hx with h | h
   ·exact jDV (.inl rfl) h
   ·exact jDV (.inr rfl) h
  exact jOD _ _ _ (q.imp id fun q=>jA9 sc.names [] (.inl q))
 ·have hf:(sc.names.lookup x==some NameKind.cell)=true:=hf
  have:=jOB (n0:=s.heap.objs.size+1) _ _ _ (ai _) (.inl (jA4 (eq_of_beq hf))) e
  exact Nat.le_of_succ_le this
 ·obtain⟨f0,f1,f2,f3,f4,f5⟩:=hfp b hb
  refine⟨aG (hlt b hb),fun x c e=>?_⟩
  rcases way x c e with q | q
  ·exact f4 x c (sub x c q)
  ·exact de (aP (hlt b hb) (Nat.le_of_succ_le q))
 ·obtain⟨f0,f1,f2,f3,f4,f5⟩:=hfp b hb
  rcases f3 with q | q
  ·exact I.ok.noex b o e q
  ·exact absurd (aP (ak (I.ok.bs b o e).1) q) (bV _)
 ·obtain⟨f0,f1,f2,f3,f4,f5⟩:=hfp b hb
  rcases az.mp (I.stkSub b hz) with q | q
  ·exact f1 q
  ·exact f2 q
 ·have e2':∃ i,m[k]?=some (some i)/\σ[i]?=some (some v):=by
   unfold blkσ at e2
   rw[ay] at e2
   cases q:m[k]? with
   | none=>rw[q] at e2; cases e2
   | some o=>
    rw[q] at e2
    cases o with
    | none=>cases e2
    | some i=>
     refine⟨i,rfl,?_⟩
     have e2:(σ[i]?).getD none=some v:=be e2
     cases r:σ[i]? with
     | none=>rw[r] at e2; cases e2
     | some z=>rw[r] at e2; exact cg some e2
  obtain⟨i,q1,q2⟩:=e2'
  obtain⟨x',a1,a2,a3⟩:=hm.2 k i q1
  have e1':Nc[k]?=some x:=e1
  rw[e1'] at a1
  cases a1
  have vis:=hfree (x, .free) (jA4 a3) rfl
  obtain⟨m0,hn0,hl0⟩:=I.loc
  obtain⟨u,r,l⟩:=hl0 i x v a2 q2 (.inr vis)
  refine⟨u,r, .inr ⟨jA7 a3,?_⟩⟩
  obtain⟨c,hc⟩:=jA9 (cells:=X.env.cells) (x:=x) sc.names [] (.inl (jA4 a3))
  rcases l with ⟨lk,_⟩ | ⟨_,c',hc',o,ho,hd⟩
  ·have lk':X.env.scope.names.lookup x=some .local:=lk
   rcases vis with z | z
   ·rw[lk'] at z; cases z
   ·rw[lk'] at z; cases z
  ·have:=sub x c hc
   rw[hc'] at this
   cases this
   exact⟨c,(jIT _ _ _ (hdis x a3)).trans hc,o,old _ _ ho,hd⟩
 ·have e':(cellsFrom (s.heap.push { cls:= .type "dict",data:= .dict #[]}).objs.size sc.names (kG X.env.cells sc.names [])).lookup x=some c:=by
   rw[show (s.heap.push { cls:= .type "dict",data:= .dict #[]}).objs.size=s.heap.objs.size+1 from bG _ _]
   exact e
  refine jIU _ _ _ (fun x c q=>?_) x c e'
  obtain⟨v,o,ho,hd⟩:=I.cell x c (sub x c q)
  exact⟨v,o,af _ ho,hd⟩
 ·rcases way x c e with q | q
  ·exact I.freeC x c (sub x c q)
  ·exact I.hok.fresh (by lia)
 ·show (blkσ m σ).length=Nc.length
  unfold blkσ
  rw[ac]
  exact hm.1
theorem jPC (hc:X.calm=true)(hi:PI X tg iter wi)(hkind:sc.kind= .function)(hdis:∀ x,sc.names.lookup x=some .free->(x,NameKind.cell)∉sc.names)(hnames:∀ y∈sc.names,y.2= .local->sc.names.lookup y.1=some .local)
  (hfree:∀ y∈sc.names,y.2= .free->X.env.scope.names.lookup y.1=some .cell\/X.env.scope.names.lookup y.1=some .free) (hm:qL X sc Nc m)
  (hg:∀ cl C fp s H,PG (blkC X sc cl C Nc fp s H) tg g) (ht:∀ cl C fp s H,PTs (blkC X sc cl C Nc fp s H) ifs tt) (he:∀ cl C fp s H,PE (blkC X sc cl C Nc fp s H) elt te)
  (hs:∀ x,foldedSetIterable iter X.env x=pure x:=by intro _; rfl):PE X (.ListComp elt [⟨tg,iter,ifs,0⟩] sc pos) (tComp m wi g tt te):=by
 intro ad s σ H Q I h
 rw[gW]
 have hcl:∀ y∈sc.names,y.2= .free->∃ c,X.env.cells.lookup y.1=some c:=fun y hy hf=>I.ok.has y.1 (hfree y hy hf)
 refine eF (use:=none) rfl hs (jGC hcl) hkind hnames (iZ (hi ad s σ H _ I h) fun v s1 h1=>iZ h1 fun itv s2 h2=>?_)
 obtain⟨it,fp,tn,J,H2,e,I2,T,st2,f2,hQ⟩:=h2
 subst e
 have hlt:∀ b∈fp,b<s2.heap.objs.size:=fun b hb=>by
  obtain⟨o,e,_⟩:=T.obj 0 _ st2 b hb
  exact ak e
 refine aU (jID ?_)
 have I3:Inv X ad σ (upd H2 s2.heap.objs.size (.lst [])) { s2 with heap:=s2.heap.push { cls:= .type "list",data:= .seq ([]:List Value).toArray}} :=I2.lnew (t':=s2.toks) .nil (bh _)
 obtain⟨W,⟨n0,w0⟩,turn⟩:=hQ s2.heap.objs.size I2.fresh
 have hD3:∀ b∈fp,b≠s2.heap.objs.size:=fun b hb=>aG (hlt b hb)
 have f3:∀ b∈fp,FpOk X ad (upd H2 s2.heap.objs.size (.lst [])) b:=fun b hb=>by
  obtain⟨a0,a1⟩:=f2 b hb
  exact⟨by rw[jD (hD3 b hb)]; exact a0,a1⟩
 generalize hE:({ s2 with heap:=s2.heap.push { cls:= .type "list",data:= .seq ([]:List Value).toArray}} :Shared)=s3 at I3 ⊢
 generalize hH3:upd H2 s2.heap.objs.size (.lst [])=H3 at I3 f3 w0
 have hsz3:s3.heap.objs.size=s2.heap.objs.size+1:=by rw[<- hE]; exact bG _ _
 have I4:=jL8 (fp:=fp) I3 hkind hdis hfree hm f3 (fun b hb=>show b<s3.heap.objs.size by rw[hsz3]; exact bQ (hlt b hb))
 have old:∀ b o,s3.heap.get? b=some o->(pushCells (s3.heap.push { cls:= .type "dict",data:= .dict #[]}) sc.names).get? b=some o:=fun b o e=>io _ _ b o (af _ e)
 have old2:∀ b o,s2.heap.get? b=some o->(pushCells (s3.heap.push { cls:= .type "dict",data:= .dict #[]}) sc.names).get? b=some o:=fun b o e=>old b o (by rw[<- hE]; exact af _ e)
 have st4:tn 0 (pushCells (s3.heap.push { cls:= .type "dict",data:= .dict #[]}) sc.names):=T.keep _ _ _ st2 fun b hb o e=>old2 b o e
 clear old old2
 generalize hcs:cellsFrom (s3.heap.objs.size+1) sc.names (kG X.env.cells sc.names [])=cs at I4 ⊢
 generalize hh1:pushCells (s3.heap.push { cls:= .type "dict",data:= .dict #[]}) sc.names=h₁ at I4 st4 ⊢
 have loop:codeAny (model X.prog X.w) X.A (.compLoop (.ListComp elt [⟨tg,iter,ifs,0⟩] sc pos) 0 (.ref it) (.ref s2.heap.objs.size) (compEnvC sc cs s3.heap.objs.size X.env))
   (compPost (model X.prog X.w) X.A X.xe none (EP X ad σ Q) (.ref s2.heap.objs.size) s3.heap.objs.size) { s3 with heap:=h₁} :=by
  generalize hX:blkC X sc cs s3.heap.objs.size Nc fp s3 H3=Xb at I4
  have eP:Xb.prog=X.prog:=by rw[<- hX]; rfl
  have ew:Xb.w=X.w:=by rw[<- hX]; rfl
  have eK:Xb.K=X.K:=by rw[<- hX]; rfl
  have eA:Xb.A=X.A:=by rw[<- hX]; rfl
  have ec:Xb.calm=true:=by rw[<- hX]; exact hc
  have ee:Xb.env=compEnvC sc cs s3.heap.objs.size X.env:=by rw[<- hX]; rfl
  have ex:Xb.xe=fun _ _=>False:=by rw[<- hX]; rfl
  have hgb:PG Xb tg g:=by rw[<- hX]; exact hg _ _ _ _ _
  have htb:PTs Xb ifs tt:=by rw[<- hX]; exact ht _ _ _ _ _
  have heb:PE Xb elt te:=by rw[<- hX]; exact he _ _ _ _ _
  have stat:∀ {H':Hp},(∀ b∈fp,H' b=none)->∀ b∈fp,FpOk Xb [] H' b:=fun {H'} hn b hb=>by
   obtain⟨o,eo,_⟩:=T.obj _ _ st4 b hb
   have q:=I4.ok.exf b (by rw[<- hX]; exact hb)
   exact⟨hn b hb,q.1,I4.ok.exfs b (by rw[<- hX]; exact hb), .inl (by rw[<- hX]; exact hb),q.2,fun p hp=>absurd hp (by rw[<- hX]; simp [blkC])⟩
  have fr4:∀ b∈fp,H3 b=none:=fun b hb=>(f3 b hb).1
  unfold PG at hgb
  unfold PTs at htb
  unfold PE at heb
  rw[eP,ew,eA,ee,ex] at hgb htb heb
  refine jCW (fun n z=>∃ i σ' H' ys,Inv Xb [] σ' H' z/\tn i z.heap/\(∀ b∈fp,H' b=none)/\W i n σ' H' ys) ?_ n0 ⟨0,_,H3,[],I4,st4,fr4,w0⟩
  rintro n z ⟨i,σ5,H5,ys,I5,st5,fr5,w5⟩
  obtain⟨hD,hlen,way⟩:=turn i n σ5 H5 ys w5
  rcases way with ⟨stop,q⟩ | ⟨go,N,hN,step⟩
  ·have R:=T.done Xb eP ew eK ec i [] z σ5 H5 (fun _ _=>False) I5 (stat fr5) st5 stop
   rw[eA] at R
   refine iZ R fun r z1 ⟨hr,I6⟩=>?_
   subst hr
   obtain⟨mm,hn6,_⟩:=I6.loc
   rw[ee] at hn6
   refine⟨mm,hn6,fun h' sb=>?_⟩
   have u6:Un (frs X.stack) fp H3 H5 s3.heap z1.heap:=by
    have:=I6.base
    rw[<- hX] at this
    exact this
   have fC:H5 s3.heap.objs.size=none:=by
    have:=I6.free
    rw[ee] at this
    exact this
   have hok6:HOk X.prog X.w H5 z1.heap:=by
    have:=I6.hok
    rw[eP,ew] at this
    exact this
   have os6:z1.os=s3.os:=by
    have:=I6.os
    rw[<- hX] at this
    exact this
   refine⟨.ref s2.heap.objs.size,H5,I3.call' (s':= { z1 with heap:=h'}) (ch:=fp) os6 (u6.sameBut sb (ai _)) (hok6.sameBut sb fC) I6.bare (fun b hb=>?_),rfl,q⟩
   obtain⟨a0,a1,a2,a3,a4,a5⟩:=f3 b hb
   exact⟨a3,a1,a4,a5⟩
  ·have R:=T.item Xb eP ew eK ec i [] z σ5 H5 (fun _ _=>False) I5 (stat fr5) st5 go
   rw[eA] at R
   refine iZ R fun r z1 ⟨u,hr,h6⟩=>?_
   subst hr
   refine iZ h6 fun _ z2 ⟨x,H7,I7,r7,y7,st7,fr7⟩=>?_
   have I7':=I7.pinned (stat fr7) (T.obj _ _ st7)
   refine iZ (hgb _ z2 σ5 H7 x u _ I7' r7 (step x H7 y7)) fun _ z3 ⟨σ8,H8,I8,q8⟩=>?_
   refine iZ (htb _ z3 σ8 H8 _ I8 q8) fun ok z4 ⟨H9,I9,q9⟩=>?_
   have again:∀ {σ7:St}{Hz:Hp}{zz:Shared}{yy:List V}{n':Nat},Inv Xb ([]++jDZ fp z2.heap) σ7 Hz zz->n'<n->W (i+1) n' σ7 Hz yy->∃ k,k<n/\∃ i σ' H' ys,Inv Xb [] σ' H' zz/\tn i zz.heap/\(∀ b∈fp,H' b=none)/\W i k σ' H' ys:=fun {σ7 Hz zz yy n'} Iz hn wz=>by
    refine⟨n',hn,i+1,σ7,Hz,yy,Iz.unpinned,T.keep _ _ _ st7 fun b hb o e=>(Iz.pin (b,o) (aR _ (aR _ (jA3 hb e)))).1,fun b hb=>?_,wz⟩
    obtain⟨o,e,d⟩:=T.obj _ _ st7 b hb
    exact(Iz.pin (b,o) (aR _ (aR _ (jA3 hb e)))).2.1
   cases ok with
   | false=>
    obtain⟨n',hn,w9⟩:=hN _ _ _ (show N σ8 H9 ys from q9)
    exact again I9 hn w9
   | true=>
    refine iZ (heb _ z4 σ8 H9 _ I9 q9) fun xv z5 ⟨vv,H10,I10,r10,hD10,n10⟩=>?_
    obtain⟨n',hn,w10⟩:=hN _ _ _ n10
    have R:=yW (X:=Xb) _ z5 σ8 H10 (.ref s2.heap.objs.size) [vv] (.ref s2.heap.objs.size) [xv] (fun _ H'=>H'=upd H10 s2.heap.objs.size (.lst (ys++[vv]))) I10 rfl (.cons r10 .nil) ⟨_,ys,vv,rfl,rfl,hD10,hlen,rfl⟩
    rw[eP,ew,eA,ex] at R
    refine iZ R fun _ z6 ⟨_,H11,I11,_,e11⟩=>?_
    subst e11
    exact again I11 hn w10
 exact eY loop (T.self _ 0 _ _ _ st4 loop)
theorem jV5 (h:(sc.names.all fun y=>decide (y.2= .cell->sc.names.lookup y.1=some .cell))=true):∀ x,sc.names.lookup x=some .free->(x,NameKind.cell)∉sc.names:=fun x hx hm=>by
 have:=aq (aS.mp h _ hm) rfl
 rw[hx] at this
 cases this
theorem jJW (hc:X.calm=true)(hi:JI X tg iter wi)(hkind:sc.kind= .function)(hdis:(sc.names.all fun y=>decide (y.2= .cell->sc.names.lookup y.1=some .cell))=true)(hnames:∀ y∈sc.names,y.2= .local->sc.names.lookup y.1=some .local)
  (hfree:∀ y∈sc.names,y.2= .free->X.env.scope.names.lookup y.1=some .cell\/X.env.scope.names.lookup y.1=some .free) (hm:qL X sc Nc m)
  (hg:∀ cl C fp s H,JG (blkC X sc cl C Nc fp s H) tg g) (ht:∀ cl C fp s H,JTs (blkC X sc cl C Nc fp s H) ifs tt) (he:∀ cl C fp s H,JE (blkC X sc cl C Nc fp s H) elt te)
  (hs:FoOk iter):JE X (.ListComp elt [⟨tg,iter,ifs,0⟩] sc pos) (tComp m wi g tt te):=⟨jPC hc hi.h hkind (jV5 hdis) hnames hfree hm (fun cl C fp s H=>(hg cl C fp s H).h) (fun cl C fp s H=>(ht cl C fp s H).h) (fun cl C fp s H=>(he cl C fp s H).h) (hs.h _)⟩
end
section
theorem gl_bC (h:sc.names.lookup x=some .globalImplicit):Gl1 (blkC X sc cl C Nc fp s H) x:=⟨jA1 (by decide) h⟩
theorem jLF (h:sc.names.lookup x=some .free):Vis1 (blkC X sc cl C Nc fp s H) x:=⟨.inr (jA7 h)⟩
theorem jN4 (h:sc.names.lookup x=some .cell):Loc1 (blkC X sc cl C Nc fp s H) x:=⟨.inr (jA1 (by decide) h), .inl (by show (sc.names.lookup x==some NameKind.cell)=true; rw[h]; rfl)⟩
theorem jK0 {sc2:Scope}(h:(sc2.names.all fun y=>decide (y.2= .free->sc.names.lookup y.1=some .cell\/sc.names.lookup y.1=some .free))=true):
  ∀ y∈sc2.names,y.2= .free->(blkC X sc cl C Nc fp s H).env.scope.names.lookup y.1=some .cell\/(blkC X sc cl C Nc fp s H).env.scope.names.lookup y.1=some .free:=fun y hy hf=>by
 rcases aq (aS.mp h y hy) hf with q | q
 ·exact .inl (jA1 (by decide) q)
 ·exact jA7 q
theorem jF1 {tg a:Expr}{ta:TE}(hl:JE (blkC X sc cl C Nc fp s H) a ta):JI (blkC X sc cl C Nc fp s H) tg a (iList X.K ta):=jB8 hl
variable {sc2:Scope}{cl2:List (Str×Addr)}{C2:Addr}{Nc2:List Str}{fp2:List Addr}{s2:Shared}{H2:Hp}
theorem jPE:OpR (blk (blkC X sc cl C Nc fp s H) sc2 cl2 C2 Nc2 fp2 s2 H2) (compareOp .In) (rIn X.K false):=jBD
theorem jIC:OpR (blk (blkC X sc cl C Nc fp s H) sc2 cl2 C2 Nc2 fp2 s2 H2) (compareOp .NotIn) (rIn X.K true):=jAE
end
def jP1:V->List V->Hp->VK->Prop:=fun x vs H Q=>∃ l b xs zs,x= .ref l/\vs=[.ref b]/\H l=some (.lst xs)/\H b=some (.tup zs)/\xs.length+zs.length<=sizeLine/\Q .non (upd H l (.lst (xs++zs)))
theorem jBR:MtM X "list.extend" jP1:=by
 intro ad s σ H x vs v us Q I rx rv h
 obtain⟨l,b,xs,zs,rfl,rfl,hH,hB,hz,q⟩:=h
 cases rx
 obtain⟨u,rfl,ru⟩:=rv.one
 cases ru
 obtain⟨z,its,n,r,hl,e⟩:=I.lstM hH
 obtain⟨_,its2,r2,n2,e2⟩:=I.hok b _ hB
 have hl2:=r2.length
 have hsz:its.toArray.size+its2.toArray.size<=sizeLine:=by rw[aj,aj]; lia
 have hlong:¬ (!its.toArray.isEmpty&&Builtin.List.listTooLong (its.toArray.size+its2.toArray.size))=true:=by
  rw[jPR hsz,bP]
  exact ar
 refine gC F.slot_list_extend ⟨_,e,rfl⟩ F.entry_list_extend (F.args_list_extend_2 _ _)
  (AutoSeq1.list_extend_list_tuple_0 l its.toArray n b its2.toArray n2 hlong (by rw[aj]; lia) (by lia)) ⟨e,e2,?_⟩
 refine⟨.non,_,I.lset (its':=its++its2) hH e (by simp) (r.append r2) ?_,rfl,q⟩
 rw[aE]
 lia
def jRW:V->List V->Hp->VK->Prop:=fun x vs H Q=>∃ p xs y,x= .ref p/\vs=[y]/\H p=some (.lst xs)/\xE y=true/\xs.all xE=true/\Q (.int ((xs.countP fun z=>eqV z y:Nat):Int)) H
theorem jGZ:MtM X "list.count" jRW:=by
 intro ad s σ H x vs v us Q I rx rv h
 obtain⟨p,xs,y,rfl,rfl,hp,fy,fs,q⟩:=h
 cases rx
 obtain⟨u,rfl,ru⟩:=rv.one
 obtain⟨z,its,n,r,hl,e0⟩:=I.lstM hp
 refine gC F.slot_list_count ⟨_,e0,rfl⟩ F.entry_list_count (F.args_list_count_2 _ _) (SeqAt.list_countAt p its.toArray n none #[] u (eqU y)) ⟨e0,fun w hw=>jB6 ru fy r fs w (by simpa using hw),?_⟩
 refine⟨.int _,H,I.tok _,⟨s.toks,rfl⟩,?_⟩
 rw[show its.toArray.toList.countP (eqU y)=xs.countP (fun z=>eqV z y) from jF7 r fs]
 exact q
def rAny (K:W.Frag):List V->Hp->VK->Prop:=fun xs H Q=>∃ (p:Addr) (bs:List Bool),xs=[.ref p]/\SqL K H p (bs.map V.bl)/\Q (.bl (bs.any id)) H
theorem jBI (hc:X.calm=true):yO X (.builtin "any") (rAny X.K):=by
 intro ad s σ H xs us Q I r h
 obtain⟨p,bs,rfl,hq,q⟩:=h
 obtain⟨u,rfl,rx⟩:=r.one
 cases rx
 obtain⟨its,r',pl,hz⟩:=I.list hq
 have hlen:=r'.length
 rw[ac] at hlen
 refine call_any_walk (cL pl.isList ?_)
 have hne:p≠s.heap.objs.size:=by
  obtain⟨o,ho,_⟩:=pl.isList
  exact aG (ak ho)
 refine⟨s.heap.objs.size,_,_,_,_,_,fun i=>bs.getD i true,rfl,ie (by simpa using I.ok.hd hc) _ p hne its.toArray,⟨⟨_,am _ rfl,rfl,rfl⟩,pl.isList.push _⟩,fun i v z Q' E' hP hQ'=>?_,fun h' tk hk=>?_⟩
 ·have hi:its[i]?=some v:=by simpa using hP
  have hb:i<bs.length:=by
   rw[hlen]
   exact(av.mp hi).1
  obtain⟨u,hu,ru⟩:=r'.get (i:=i) (x:= .bl (bs[i])) (by simp [hb])
  rw[hi] at hu
  cases hu
  cases ru
  have e:bs.getD i true=bs[i]:=by simp [List.getD,hb]
  have hQ2:Q' (bs.getD i true) z:=hQ'
  rw[e] at hQ2
  exact ag hQ2
 ·have e:(List.range its.toArray.size).any (fun i=>bs.getD i true)=bs.any id:=by
   rw[aj,<- hlen]
   rw[bq,cf,cf]
   constructor
   ·rintro ⟨i,hi,hb⟩
    have hi:=bc.mp hi
    exact⟨bs[i],cV hi,by simpa [List.getD,hi] using hb⟩
   ·rintro ⟨b,hb,hq⟩
    obtain⟨i,hi,rfl⟩:=cz hb
    exact⟨i,bc.mpr hi,by simpa [List.getD,hi] using hq⟩
  rw[e]
  exact⟨.bl _,H,I.kept (t':=tk) fun b o e=>hk b o (by
   intro z
   have z:b=s.heap.objs.size:=by simpa using z
   exact absurd (ak e) (by rw[z]; exact bV _)) (af _ e),rfl,q⟩
theorem jDB:yO X (.builtin "sorted") (fun xs H Q=>∃ (p:Addr) (ks:List Int),xs=[.ref p]/\SqL X.K H p (ks.map V.int)/\ks.length<64/\
  ∀ (l:Addr) (ns:List Int),H l=none->ns.Pairwise (· <= ·)->ns.Perm ks->Q (.ref l) (upd H l (.lst (ns.map V.int)))):=by
 intro ad s σ H xs us Q I r h
 obtain⟨p,ks,rfl,hp,hn,q⟩:=h
 obtain⟨u,rfl,rx⟩:=r.one
 cases rx
 obtain⟨its,r',pl,hz⟩:=I.list hp
 have hlen:=r'.length
 rw[ac] at hlen
 refine sorted_ints pl.isList (jAK r') (by lia) fun out ns' a1 a2 a3=>?_
 obtain⟨e,he⟩:=sortedAll_at s.heap its out
 have hz:(ns'.map V.int).length<=sizeLine:=by
  rw[ac,a2.length_eq,df]
  lia
 have I2:Inv X ad σ (upd H (s.heap.objs.size+1) (.lst (ns'.map V.int))) { s with heap:=sortedAll s.heap its out} :=I.laid (t':=s.toks) (fun b o e=>sortedAll_old e) (dO _) ⟨hz,out.toList,e,jAO a1,by rw[cJ]; exact he⟩
 exact⟨.ref _,_,I2,rfl,q _ ns' (I.hok.fresh (dO _)) a3 a2⟩
theorem jSJ (hu:X.A.units<cLine):OpR X (compareOp .NotEq) (fun x y H Q=>∃ p q xs,x= .ref p/\y= .ref q/\H p=some (.lst xs)/\H q=some (.lst [])/\Q (.bl (!decide (xs=[]))) H):=by
 intro ad s σ H x y v u Q I rx ry h
 obtain⟨p,q,xs,rfl,rfl,hp,hq,k⟩:=h
 cases rx
 cases ry
 obtain⟨its,r1,p1,_⟩:=I.list (SqL.of hp)
 obtain⟨its2,r2,p2,_⟩:=I.list (SqL.of hq)
 have l1:=r1.length
 have l2:its2.length=0:=r2.length.symm
 by_cases hl:xs=[]
 ·subst hl
  have l1:its.length=0:=r1.length.symm
  refine SeqAt.RcNeAt.lists (e:=fun _=>true) p1.isList p2.isList (by rw[aj,aj]; lia) hu (fun j a1 a2=>absurd a2 (by rw[aj]; lia)) _ _ _ _ ⟨.bl _,H,I,rfl,?_⟩
  have ez:its.toArray.size=0:=by rw[aj]; lia
  rw[ez]
  exact k
 ·refine gF p1.isList p2.isList ?_ hu _ _ _ _ ⟨.bl _,H,I,rfl,?_⟩
  ·rw[aj,aj]
   have:xs.length≠0:=fun e=>hl (eN.mp e)
   simp
   lia
  ·rw[aN hl] at k
   exact k
theorem jDD {prog:Program}{w:World}{A:Around}{E:Value->Shared->Prop}{s:Shared}{sl:Addr}{vs:Value}{n:Nat}{Q:Int×Int×Nat->Shared->Prop}(hs:s.heap.IsSliceOf sl .none .none vs)(ps:IsPart vs (some (-1)))
  (h:Q (((n:Int) - 1), -1,n) s):wpAny (model prog w) A (Builtin.Slice.sliceApplied (.ref sl) (pure (n:Int))) Q E s:=by
 obtain⟨os,hos,hcs,hds⟩:=id hs
 unfold Builtin.Slice.sliceApplied Builtin.Slice.sliceFields
 refine ae (ae (bu hos hds (x:= .none) rfl (ae (bu hos hds (x:= .none) rfl (ae (bu hos hds (x:=vs) rfl (ag ?_)))))))
 refine ae (HT.slicePart_ ps ?_)
 show wpAny _ _ (if ((-1:Int)==0)=true then _ else _) _ _ s
 rw[aF (by decide)]
 refine ae (gA (ae (gA (ae (ag ?_)))))
 show wpAny _ _ (pure (((n:Int) - 1),(-1:Int),Builtin.Slice.slicePlaces ((n:Int) - 1) (-1) (-1))) _ _ s
 have e:Builtin.Slice.slicePlaces ((n:Int) - 1) (-1) (-1)=n:=by
  unfold Builtin.Slice.slicePlaces
  rw[aF (by decide)]
  have:(-(-1:Int))=1:=rfl
  rw[this]
  split <;> lia
 rw[e]
 exact ag h
theorem jBX {α β:Type}{f:α->Option β}{g:α->β} :∀ {l:List α},(∀ k∈l,f k=some (g k))->l.filterMap f=l.map g
 | [],_=>rfl
 | a::r,h=>by
  rw[dZ,h a aw,bA,jBX fun k hk=>h k (aA _ hk)]
theorem jP0 (xs:List Value):((List.range xs.length).filterMap fun (k:Nat)=>xs.toArray[(((xs.length:Int) - 1)+(k:Int)*(-1)).toNat]?)=xs.reverse:=by
 rw[jBX (g:=fun k=>xs.reverse.getD k .none) fun k hk=>?_]
 ·apply dW
  ·simp
  ·intro i h1 h2
   have h3:i<xs.length:=by simpa using h2
   simp [List.getD,h3]
 ·have hk:=bc.mp hk
  have e1:(((xs.length:Int) - 1)+(k:Int)*(-1)).toNat=xs.length - 1 - k:=by lia
  rw[e1]
  have h1:xs.length - 1 - k<xs.length:=by lia
  simp [List.getD,hk,h1]
theorem jCT {prog:Program}{w:World}{A:Around}{E:Value->Shared->Prop}{s:Shared}{t sl:Addr}{its:List Value}{n:Nat}{vs:Value}{Q:Value->Shared->Prop}
  (e0:s.heap.get? t=some { cls:= .type "tuple",data:= .seq its.toArray n}) (hs:s.heap.IsSliceOf sl .none .none vs) (ps:IsPart vs (some (-1))) (hz:its.length<=sizeLine)
  (h:Q (.ref s.heap.objs.size) { s with heap:=s.heap.push { cls:= .type "tuple",data:= .seq its.reverse.toArray}}):wpAny (model prog w) A (getItem (.ref t) (.ref sl)) Q E s:=by
 have ht:IsTup s.heap t its.toArray:=⟨_,e0,rfl,n,rfl⟩
 obtain⟨os,hos,hcs,hds⟩:=id hs
 have hTs:s.TypeIs (.ref sl) "slice" :=⟨os,hos,hcs⟩
 have htake:sizeOk (.seq its.reverse.toArray):=by
  show its.reverse.toArray.size<=sizeLine
  rw[aj,d0]
  exact hz
 unfold getItem
 try with_reducible refine br ?_
 first | refine ae (ag ?_) | skip
 refine ae (gM ht.typeIs (by decide) (ae (bw (name:=Str.ofString "__getitem__") ht.typeIs bi
  (bD bi ht.typeIs gj (?_:wpAny (model prog w) _ (Builtin.Tuple.tupleItemsOf (.ref t) >>= _) _ _ s) (gB _ _)))))
 refine ae (tupleItemsOf_ ht (ae (dg hTs ?_)))
 rw[aD (by decide)]
 refine ae (jDD (n:=its.toArray.size) hs ps ?_)
 have hno:¬ ((((its.toArray.size:Int) - 1)==0&&(-1:Int)==1&&its.toArray.size==its.toArray.size)=true):=by
  intro q
  rw[bd,bd] at q
  exact absurd q.1.2 (by decide)
 show wpAny _ _ (if (((its.toArray.size:Int) - 1)==0&&(-1:Int)==1&&its.toArray.size==its.toArray.size)=true then _ else _) _ _ s
 rw[aF hno,aj,jP0]
 first
  | exact ae (m:=Builtin.Tuple.tupleExact _) (aU (ag ⟨_,rfl,ag h⟩) htake)
  | exact ae (m:=Builtin.Tuple.tupleExact _) (aU (ae (ag (ag ⟨_,rfl,ag h⟩))) htake)
  | exact ae (ae (m:=Builtin.Tuple.tupleExact _) (aU (ag (ag ⟨_,rfl,ag h⟩)) htake))
  | exact ae (ae (m:=Builtin.Tuple.tupleExact _) (aU (ag ⟨_,rfl,ag h⟩) htake))
def tRev (te:TE)(ts:TO):TE:=fun σ H Q=>te σ H fun x H1=>ts σ H1 fun o H2=>o=some (-1)/\∃ a xs,x= .ref a/\H2 a=some (.tup xs)/\TupR H2 xs.reverse Q
theorem jUX {e st:Expr}{te:TE}{ts:TO}{p2 pos:Pos}(he:JE X e te)(hst:JO X (some st) ts):JE X (.Subscript e (.Slice none none (some st) p2) pos) (tRev te ts):=⟨by
 intro ad s σ H Q I h
 refine Subscript_ (iZ (he.h ad s σ H _ I h) fun v s1 ⟨x,H1,I1,r1,q1⟩=>?_)
 refine wpAny_Slice ?_
 rw[evalPart_none]
 refine ag (ag (iZ (hst.h ad s1 σ H1 _ I1 q1) fun vst s2 ⟨o,H2,I2,ps,eo,a,xs,ex,hx,q⟩=>?_))
 subst eo
 subst ex
 cases r1
 have I4:Inv X ad σ H2 { s2 with heap:=s2.heap.push { cls:= .type "slice",data:= .fields #[.none, .none,vst]}} :=I2.kept (t':=s2.toks) fun b ob q=>af _ q
 obtain⟨hz,its,r,n,e0⟩:=I4.hok a _ hx
 have hlen:=r.length
 show wpAny (model X.prog X.w) X.A (subscriptTail e (.Slice none none (some st) p2) (.ref a) (.ref s2.heap.objs.size)) (EP X ad σ Q) X.xe { s2 with heap:=s2.heap.push { cls:= .type "slice",data:= .fields #[.none, .none,vst]}}
 refine tail_any (ops:=[.ref a, .ref s2.heap.objs.size]) ⟨_,e0,rfl⟩ bi.lookup ?_ (by with_unfolding_all rfl)
 refine jCT e0 (Heap.IsSliceOf.new ..) ps (by lia) ?_
 refine⟨.ref _,_,I4.laid (t':=s2.toks) (o:= .tup xs.reverse) (fun b ob q=>af _ q) (ai _) ⟨by rw[d0]; exact hz,its.reverse,r.reverse,TupO.new _ _⟩,rfl,q.new (I4.hok.fresh (ai _))⟩⟩
theorem jJS {c:Expr}{body:List Stmt}{tc:TT}{tb:TS}{pos:Pos}(hp:PassesOwn (model X.prog X.w) X.A X.env X.xe)(hc:JT X c tc)(hb:JSs X body tb):JS X (.While c body [] pos) (jQS tc tb):=⟨jP2 hp hc.h hb.h⟩
theorem jE2 {op:CmpOp}{a b:Expr}{pos:Pos} :behindInMarks op (.Subscript a b pos)=false:=by cases op <;> rfl
theorem jHN (hc:X.calm=true):yO (blkC X sc cl C Nc fp s H) (.builtin "any") (rAny X.K):=jBI hc
theorem jNG {o e:Expr}{es:List Expr}{to:TE}{t:TA}{cpos apos:Pos}{id:String}{T:String}{name:Str}{r}(pa:PlainAttrs T)(slot:Slot T name id)(hty:typeOf (.builtin id)=pure (.type "method_descriptor"))(hm:MtR (blk X sc cl C Nc fp s H) id r)(ho:JE (blk X sc cl C Nc fp s H) o to)(ha:JA (blk X sc cl C Nc fp s H) (e::es) t)
  (hs:starEach (e::es) (blk X sc cl C Nc fp s H).env=(false,eval e (blk X sc cl C Nc fp s H).env)::starEach es (blk X sc cl C Nc fp s H).env)
  (hbase:attributeBase o name (blk X sc cl C Nc fp s H).env (eval o (blk X sc cl C Nc fp s H).env)=eval o (blk X sc cl C Nc fp s H).env:=by rfl)
  (hfew:((backTo cpos (starEach (e::es) (blk X sc cl C Nc fp s H).env)).all (fun x=>!x.1)&&(backToKw cpos (keywordEach [] (blk X sc cl C Nc fp s H).env)).all (fun x=>x.1.isSome)
   &&decide ((e::es).length+([]:List Keyword).length+(if ([]:List Keyword).isEmpty then 0 else 1)<30))=true:=by rfl)
  (hline:(apos.endLine==cpos.line)=true:=by rfl) (hplain:(backTo cpos (starEach es (blk X sc cl C Nc fp s H).env)).any (·.1)=false:=by rfl):
  JE (blk X sc cl C Nc fp s H) (.Call (.Attribute o name apos) (e::es) [] cpos) (tBM X.K T r to t):=xG pa slot hty hm ho ha hs hbase hfew hline hplain
end L2
namespace L2
open PySem
theorem jRT {es:List Expr}{env:Env}{pos:Pos}{ks:List (Option Expr)}{vs:List Expr} :starEach (.Dict ks vs pos::es) env=(false,eval (.Dict ks vs pos) env)::starEach es env:=rfl
def LstR (H:Hp)(xs:List V)(Q:VK):Prop:=∀ r H',H' r=some (.lst xs)->Ext H H'->H r=none->Q (.ref r) H'
theorem LstR.new {H:Hp}{xs:List V}{Q:VK}(q:LstR H xs Q){p:Addr}(hp:H p=none):Q (.ref p) (upd H p (.lst xs)):=q p _ j7 ((Ext.refl H).new hp _) hp
def tTupU (t:TA):TE:=fun σ H Q=>t σ H fun xs H1=>xs.length<=sizeLine/\TupR H1 xs Q
def tLstU (t:TA):TE:=fun σ H Q=>t σ H fun xs H1=>xs.length<=sizeLine/\LstR H1 xs Q
def jTN:TE:=fun _ H Q=>∀ r H',H' r=some (.dK [])->Ext H H'->Q (.ref r) H'
section
variable {X:Cx}{es:List Expr}{t:TA}{pos:Pos}
theorem kR {x1}(h:JA X es t):JE X (.Tuple es x1 pos) (tTupU t):=⟨fun ad s σ H Q I hq=>by
 refine wpAny_Tuple_spliced (iZ (h.h pos ad s σ H _ I hq) fun us s1 ⟨xs,H1,I1,r,z,q⟩=>⟨by rw[<- r.length]; exact z,?_⟩)
 have hf:H1 s1.heap.objs.size=none:=I1.hok.fresh (ai _)
 exact⟨.ref s1.heap.objs.size,upd H1 s1.heap.objs.size (.tup xs),I1.laid (t':=s1.toks) (fun b u e=>af _ e) (ai _) ⟨z,us,r,TupO.new _ _⟩,rfl,q.new hf⟩⟩
theorem yF (h:JA X es t):JE X (.List es pos) (tLstU t):=⟨fun ad s σ H Q I hq=>by
 refine wpAny_List_spliced (iZ (h.h pos ad s σ H _ I hq) fun us s1 ⟨xs,H1,I1,r,z,q⟩=>⟨by rw[<- r.length]; exact z,?_⟩)
 have hf:H1 s1.heap.objs.size=none:=I1.hok.fresh (ai _)
 exact⟨.ref s1.heap.objs.size,upd H1 s1.heap.objs.size (.lst xs),I1.laid (t':=s1.toks) (fun b u e=>af _ e) (ai _) ⟨z,us,0,r,am _ rfl⟩,rfl,q.new hf⟩⟩
theorem jQ3:JE X (.Dict [] [] pos) jTN:=⟨fun ad s σ H Q I h=>je_dict0.h ad s σ H Q I fun p hp=>h p _ j7 ((Ext.refl H).new hp _)⟩
theorem jL5:yO X (.type "list") (fun xs H Q=>∃ p ys,xs=[.ref p]/\H p=some (.tup ys)/\LstR H ys Q):=by
 intro ad s σ H xs us Q I r h
 obtain⟨p,ys,rfl,hp,q⟩:=h
 exact jHL ad s σ H _ us Q I r ⟨p,ys,rfl, .inr (SqT.of hp),fun l hl=>q.new hl⟩
theorem jDI:OpR X (binaryOp .Add) (fun x y H Q=>∃ l b xs zs,x= .ref l/\y= .ref b/\H l=some (.lst xs)/\H b=some (.lst zs)/\xs.length+zs.length<=sizeLine/\LstR H (xs++zs) Q):=by
 intro ad s σ H x y v u Q I rx ry h
 obtain⟨l,b,xs,zs,rfl,rfl,h1,h2,h3,q⟩:=h
 exact jUE ad s σ H _ _ v u Q I rx ry ⟨l,b,xs,zs,rfl,rfl,h1,h2,h3,fun p hp=>q.new hp⟩
end
end L2
namespace L2
open PySem PySem.Spec PyProof.Rows
variable {X:Cx}
theorem jR8 {o i:Expr}{pos:Pos}{to ti:TE}{t:TSet}(ho:JE X o to)(hi:JE X i ti)(hs:PSet X t)
  (ha:∀ v,assign (.Subscript o i pos) X.env v=(do
   let ov <- holding [v] (eval o X.env)
   let iv <- holding [v,ov] (eval i X.env)
   standAt pos
   holding [v,ov,iv] (setItem ov iv v)
   release [v,ov,iv] []):=by intro _; rfl):JG X (.Subscript o i pos) (gSub to ti t):=⟨jQX ho.h hi.h hs ha⟩
theorem jIQ {prog:Program}{w:World}{A:Around}{E:Value->Shared->Prop}{s:Shared}{l:Addr}{vs:List Value}{n:Nat}{Q:List Value->Shared->Prop}(ho:s.heap.get? l=some { cls:= .type "tuple",data:= .seq vs.toArray n})
  (h:Q vs { s with heap:=(s.heap.push (seqObj "list" #[] 0)).update s.heap.objs.size (Obj.mapSeq (· ++vs.toArray))}) (hsz:vs.length<=sizeLine):
  wpAny (model prog w) A (collect (.ref l)) Q E s:=by
 unfold collect
 refine ae (fb (bO entry_proto_collect' ?_))
 show wpAny _ _ (do again (.builtin "list.__iadd__" ⟨[<- newList [], .ref l],[]⟩)) _ _ s
 refine ae (wpAny_newList (ag ⟨Code.quiet_builtin _ (by decide+kernel),bO entry_list_iadd' ?_⟩))
 show wpAny _ _ (Builtin.List.listExtendWith (.ref s.heap.objs.size) (.ref l) (.ref s.heap.objs.size)) _ _ { s with heap:=s.heap.push (seqObj "list" #[] 0)}
 unfold Builtin.List.listExtendWith
 have ho':(s.heap.push (seqObj "list" #[] 0)).get? l=some { cls:= .type "tuple",data:= .seq vs.toArray n} :=af _ ho
 refine ae (dg (T:= "tuple") ⟨_,ho',rfl⟩ ?_)
 have ht:(Value.type "tuple" ==Value.type "tuple")=true:=by rfl
 rw[aD (by rw[ht,di])]
 refine ae (listItems_at ho' rfl ?_)
 refine ae (listItems_at (xs:=#[]) (n:=0) (am _ rfl) rfl ?_)
 rw[aF (by simp)]
 refine ae (listUpdate_at (xs:=#[]) (n:=0) (am _ rfl) rfl ?_ (bh _) (by show (#[]++vs.toArray).size<=sizeLine+1; simp only [Array.size_append,aj,eH]; lia))
 refine ag ?_
 show wpAny (model prog w) A (do
   let o <- load s.heap.objs.size
   match o.data with
   | .seq xs _=>pure xs.toList
   | _=>unsupported "internal:collect") Q E { s with heap:=(s.heap.push (seqObj "list" #[] 0)).update s.heap.objs.size (Obj.mapSeq (· ++vs.toArray))}
 refine ae (fw (get?_update_seq (am _ rfl) _) ?_)
 show wpAny _ _ (pure ((#[]:Array Value)++vs.toArray).toList) Q E _
 rw[show ((#[]:Array Value)++vs.toArray).toList=vs by simp]
 exact ag h
theorem jKG {prog:Program}{w:World}{A:Around}{E:Value->Shared->Prop}{s:Shared}{l:Addr}{vs:List Value}{ns:List Int}{n:Nat}{Q:Value->Shared->Prop}(ho:s.heap.get? l=some { cls:= .type "tuple",data:= .seq vs.toArray n})(hI:IntsAre vs ns)(h64:vs.length<64)
  (h:∀ (out:Array Value) (ns':List Int),IntsAre out.toList ns'->ns'.Perm ns->ns'.Pairwise (· <= ·)->Q (.ref (s.heap.objs.size+1)) { s with heap:=sortedAll s.heap vs out}):
  wpAny (model prog w) A (call (.builtin "sorted") [.ref l]) Q E s:=by
 refine gJ kind_sorted plain_sorted entry_sorted (args_sorted1 _) ?_
 unfold Builtin.«sorted»
 refine ae (m:=checkCount "sorted" 1 1 _) (ag ?_)
 refine ae (jIQ ho ?_ (by rw[df]; lia))
 refine ae (wpAny_newList ?_ (by rw[df]; lia))
 have hsz:((s.heap.push (seqObj "list" #[] 0)).update s.heap.objs.size (Obj.mapSeq (· ++vs.toArray))).objs.size=s.heap.objs.size+1:=by
  rw[fH,size_push']
 have hoL:(((s.heap.push (seqObj "list" #[] 0)).update s.heap.objs.size (Obj.mapSeq (· ++vs.toArray))).push (seqObj "list" vs.toArray 0)).get? (s.heap.objs.size+1)=some (seqObj "list" vs.toArray 0):=by
  rw[<- hsz]; exact am _ rfl
 show wpAny _ _ _ _ _ { s with heap:=((s.heap.push (seqObj "list" #[] 0)).update s.heap.objs.size (Obj.mapSeq (· ++vs.toArray))).push (seqObj "list" vs.toArray 0)}
 rw[hsz]
 refine ae (br (bD slot_list_sort ⟨_,hoL,rfl⟩ entry_list_sort (list_sort_tree hoL hI h64 fun out ns' a1 a2 a3=>⟨_,rfl,?_⟩) (args_list_sort _)))
 exact ag ⟨_,rfl,h out ns' a1 a2 a3⟩
theorem jAQ:yO X (.builtin "sorted") (fun xs H Q=>∃ (p:Addr) (ks:List Int),xs=[.ref p]/\H p=some (.tup (ks.map V.int))/\ks.length<64/\
  ∀ (l:Addr) (ns:List Int),H l=none->ns.Pairwise (· <= ·)->ns.Perm ks->Q (.ref l) (upd H l (.lst (ns.map V.int)))):=by
 intro ad s σ H xs us Q I r h
 obtain⟨p,ks,rfl,hp,hn,q⟩:=h
 obtain⟨u,rfl,rx⟩:=r.one
 cases rx
 obtain⟨_,its,r',n,e0⟩:=I.hok p _ hp
 have hlen:=r'.length
 rw[ac] at hlen
 refine jKG e0 (jAK r') (by lia) fun out ns' a1 a2 a3=>?_
 obtain⟨e,he⟩:=sortedAll_at s.heap its out
 have hz:(ns'.map V.int).length<=sizeLine:=by
  rw[ac,a2.length_eq,df]
  lia
 have I2:Inv X ad σ (upd H (s.heap.objs.size+1) (.lst (ns'.map V.int))) { s with heap:=sortedAll s.heap its out} :=I.laid (t':=s.toks) (fun b o e=>sortedAll_old e) (dO _) ⟨hz,out.toList,e,jAO a1,by rw[cJ]; exact he⟩
 exact⟨.ref _,_,I2,rfl,q _ ns' (I.hok.fresh (dO _)) a3 a2⟩
theorem jDX (ns:List Int):∀ j,preSum (fun i=>ns.getD i 0) j=(ns.take j).sum
 | 0=>rfl
 | j+1=>by
  rw[preSum,jDX ns j,aJ,List.sum_append]
  congr 1
  rw[aC]
  cases ns[j]? with
  | none=>rfl
  | some z=>simp
section
def rSum (K:W.Frag):List V->Hp->VK->Prop:=fun xs H Q=>∃ (p:Addr) (ns:List Int),xs=[.ref p]/\(SqL K H p (ns.map V.int))/\Q (.int ns.sum) H
theorem jOE (hc:X.calm=true):yO X (.builtin "sum") (rSum X.K):=by
 intro ad s σ H xs us Q I r h
 obtain⟨p,ns,rfl,hq,q⟩:=h
 obtain⟨u,rfl,rx⟩:=r.one
 cases rx
 obtain⟨its,r',pl,hz⟩:=I.list hq
 have hlen:=r'.length
 rw[ac] at hlen
 refine call_sum_walkG (cL pl.isList ?_)
 have hne:p≠s.heap.objs.size:=by
  obtain⟨o,ho,_⟩:=pl.isList
  exact aG (ak ho)
 refine⟨s.heap.objs.size,_,_,_,_,_,fun i=>ns.getD i 0,rfl,ie (by simpa using I.ok.hd hc) _ p hne its.toArray,⟨⟨_,am _ rfl,rfl,rfl⟩,pl.isList.push _⟩,(fun b hb=>?_),(fun i v hP=>?_),fun h' tk t' hk=>?_⟩
 ·show b<(s.heap.push _).objs.size
  rw[bG]
  obtain⟨o,ho,_⟩:=pl.isList
  have:=ak ho
  rcases az.mp hb with rfl | hb
  ·exact ce _
  ·rcases az.mp hb with rfl | hb
   ·exact bQ this
   ·cases hb
 ·have hi:its[i]?=some v:=by simpa using hP
  have hb:i<ns.length:=by
   rw[hlen]
   exact(av.mp hi).1
  obtain⟨u,hu,ru⟩:=r'.get (i:=i) (x:= .int (ns[i])) (by simp [hb])
  rw[hi] at hu
  cases hu
  obtain⟨t,rfl⟩:=ru
  exact⟨t,by simp [List.getD,hb]⟩
 ·have e:preSum (fun i=>ns.getD i 0) its.toArray.size=ns.sum:=by
   rw[jDX,aj,<- hlen,aO]
  rw[e]
  exact⟨.int _,H,I.kept (t':=tk) fun b o e=>hk b o (by
   intro z
   have z:b=s.heap.objs.size:=by simpa using z
   exact absurd (ak e) (by rw[z]; exact bV _)) (af _ e),⟨_,rfl⟩,q⟩
variable {sc:Scope}{cl:List (Str×Addr)}{C:Addr}{Nc:List Str}{fp:List Addr}{s:Shared}{H:Hp}
end
theorem jL9 (a b:Nat):Builtin.bitAnd (a:Int) (b:Int)=((a&&&b:Nat):Int):=by
 unfold Builtin.bitAnd
 rw[ao (eI a),ao (eI b)]
 rfl
def maskN (ts:List Int):Nat:=(ts.map fun t=>2 ^ t.toNat).sum
theorem jJL:∀ (ts:List Int) (lo:Nat),ts.Pairwise (· < ·)->(∀ t∈ts,(lo:Int)<=t)->maskN ts % 2 ^ lo=0
 | [],_,_,_=>by simp [maskN]
 | t::r,lo,hp,hl=>by
  have ih:=jJL r lo (cC.mp hp).2 fun x hx=>hl x (aA _ hx)
  have h0:=hl t (aw ..)
  have e:maskN (t::r)=2 ^ t.toNat+maskN r:=by simp [maskN]
  have d:2 ^ t.toNat % 2 ^ lo=0:=Nat.mod_eq_zero_of_dvd (Nat.pow_dvd_pow 2 (by lia))
  rw[e,Nat.add_mod,ih,d]
  simp
theorem jA6:∀ (ts:List Int) (n:Nat),ts.Pairwise (· < ·)->(∀ t∈ts,0<=t)->(maskN ts).testBit n=decide ((n:Int)∈ts)
 | [],n,_,_=>by simp [maskN]
 | t::r,n,hp,h0=>by
  obtain⟨h1,h2⟩:=cC.mp hp
  have ih:=jA6 r n h2 fun x hx=>h0 x (aA _ hx)
  have ht:=h0 t (aw ..)
  obtain⟨k,rfl⟩:∃ k:Nat,t=(k:Int):=⟨t.toNat,by lia⟩
  have e:maskN ((k:Int)::r)=2 ^ k+maskN r:=by simp [maskN]
  have m0:maskN r % 2 ^ (k+1)=0:=jJL r (k+1) h2 fun x hx=>by have:=h1 x hx; lia
  obtain⟨c,hc⟩:∃ c,maskN r=2 ^ (k+1)*c:=(Nat.dvd_of_mod_eq_zero m0)
  have hor:2 ^ k+maskN r=maskN r|||2 ^ k:=by
   rw[hc,Nat.mul_comm,<- Nat.shiftLeft_eq,Nat.shiftLeft_add_eq_or_of_lt (b:=2 ^ k) (i:=k+1) (gd (by decide) (by lia)) c |>.symm,iR]
  rw[e,hor,bI,ih,cj]
  by_cases hk:k=n
  ·subst hk
   simp
  ·have:¬ ((n:Int)=(k:Int)):=by lia
   simp [hk,this]
end L2
namespace L2
open PySem
variable {X:Cx}
section
variable {tg iter elt:Expr}{ifs:List Expr}{sc:Scope}{pos:Pos}{wi:TI}{g:TG}{tt:TT}{te:TE}{m:List (Option Nat)}{Nc:List Str}
theorem jQF (hc:X.calm=true)(hi:PI X tg iter wi)(hkind:sc.kind= .function)(hcell:∀ y∈sc.names,y.2≠ .cell)(hnames:∀ y∈sc.names,y.2= .local->sc.names.lookup y.1=some .local)
  (hfree:∀ y∈sc.names,y.2= .free->X.env.scope.names.lookup y.1=some .cell\/X.env.scope.names.lookup y.1=some .free) (hm:qL X sc Nc m)
  (hg:∀ cl C fp s H,PG (blk X sc cl C Nc fp s H) tg g) (ht:∀ cl C fp s H,PTs (blk X sc cl C Nc fp s H) ifs tt) (he:∀ cl C fp s H,PE (blk X sc cl C Nc fp s H) elt te)
  (hs:∀ x,foldedSetIterable iter X.env x=pure x) {fpos:Pos}{use:Option (Value->Sem Unit)}{R:Value->Shared->Prop}{ad:List (Addr×Obj)}{s:Shared}{σ:St}{H:Hp}{Q:VK}(I:Inv X ad σ H s) (h:tComp m wi g tt te σ H Q)
  (fin:∀ (D C:Addr) (H5:Hp) (z1:Shared) (r:Flow),(∃ mm,z1.heap.Ns C mm)->FpOk X ad H5 C->(∀ h',Heap.SameBut C z1.heap h'->Inv X ad σ H5 { z1 with heap:=h'})->Q (.ref D) H5->compPost (model X.prog X.w) X.A X.xe use R (.ref D) C (.ok r) z1):
  wpAny (model X.prog X.w) X.A (comprehension (.ListComp elt [⟨tg,iter,ifs,0⟩] sc pos) sc X.env fpos (newList []) false (eval iter X.env) use) R X.xe s:=
 jGB (tf:=fun _=>te) hc hi hkind hcell hnames hfree hm hg ht (fun cl C fp s H _ _ _ _=>he cl C fp s H) hs I h fin
theorem jS0 {i:Nat}{x:Str}{pos' spos:Pos}(hN:X.N.Nodup)(hi':X.N[i]?=some x)(hx:Loc X.env.scope x)(hf:X.fn x=true\/X.env.scope.names.lookup x=some .local)(hsw:swapsWith (.ListComp elt [⟨tg,iter,ifs,0⟩] sc pos) (some (.Name x pos')) spos.line X.env=pure true)
  (hc:X.calm=true) (hi:PI X tg iter wi) (hkind:sc.kind= .function) (hcell:∀ y∈sc.names,y.2≠ .cell) (hnames:∀ y∈sc.names,y.2= .local->sc.names.lookup y.1=some .local)
  (hfree:∀ y∈sc.names,y.2= .free->X.env.scope.names.lookup y.1=some .cell\/X.env.scope.names.lookup y.1=some .free) (hm:qL X sc Nc m)
  (hg:∀ cl C fp s H,PG (blk X sc cl C Nc fp s H) tg g) (ht:∀ cl C fp s H,PTs (blk X sc cl C Nc fp s H) ifs tt) (he:∀ cl C fp s H,PE (blk X sc cl C Nc fp s H) elt te)
  (hs:∀ x,foldedSetIterable iter X.env x=pure x):PS X (.Assign [.Name x pos'] (.ListComp elt [⟨tg,iter,ifs,0⟩] sc pos) spos) (tAsg (tComp m wi g tt te) (kI i)):=by
 intro ad s σ H D I h
 rw[exec_Assign_Name_used _ _ _ _ hsw]
 refine ae (eh (ae ?_))
 show wpAny _ _ (do let _ <- comprehension (.ListComp elt [⟨tg,iter,ifs,0⟩] sc pos) sc X.env _ (newList []) false (eval iter X.env) (some (assign (.Name x pos') X.env))) _ _ _
 refine ae (bC (jQF (R:=fun _ s'=>SP X ad D .next s') hc hi hkind hcell hnames hfree hm hg ht he hs ⟨I.ok,I.os,I.bare,I.base,I.loc,I.cell,I.free,I.freeC,I.pin,I.hok,I.len⟩ h ?_) (fun _ s' hq=>ag (ag hq)) fun _ _ e=>e)
 intro D' C H5 z1 r ⟨mm,hn⟩ fC sb q
 have I1:=sb _ (Heap.SameBut.refl C z1.heap)
 refine wpAny_assign_Name (jGM (v:= .ref D') I1 hN hi' hx rfl (fun s2 I2 ⟨a,sa,ha⟩=>?_) hf)
 obtain⟨f0,f1,f2,f3,f4,f5⟩:=fC
 have hCa:C≠a:=by
  rcases ha with rfl | ha
  ·exact f1
  ·exact(f4 _ _ ha).symm
 refine⟨mm,hn.sameBut sa hCa,fun h' sb2=>⟨_,H5,?_,q⟩⟩
 refine I2.call' (s':= { s2 with heap:=h'}) (ch:=[C]) rfl ?_ (I2.hok.sameBut sb2 f0) I2.bare (fun b hb=>?_)
 ·have ne:∀ {b:Addr},b∉ [C]->b≠C:=fun h e=>h (by rw[e]; exact aI.mpr rfl)
  refine⟨fun b o e n hf hx=>(sb2.2 b (ne hx)).trans e,fun b o e n hf hx=>⟨o.slots,(sb2.2 b (ne hx)).trans e⟩,fun b o e n hx=>n,fun b o e hx=>⟨o,(sb2.2 b (ne hx)).trans e⟩,fun b xs e=>e,fun b o u e=>e,fun b ps e=>⟨#[],by rw[Array.append_empty]; exact e⟩⟩
 ·cases aI.mp hb
  exact⟨f3,f1,f4,f5⟩
end
structure SwC (e:Expr)(x:Str)(pos' spos:Pos)(X:Cx):Prop where
 h:swapsWith e (some (.Name x pos')) spos.line X.env=pure true
theorem jCR {i:Nat}{x:Str}{pos' spos pos:Pos}{tg iter elt:Expr}{ifs:List Expr}{sc:Scope}{wi:TI}{g:TG}{tt:TT}{te:TE}{m:List (Option Nat)}{Nc:List Str}(hN:X.N.Nodup)(hi':X.N[i]?=some x)(hx:Loc1 X x)(hsw:SwC (.ListComp elt [⟨tg,iter,ifs,0⟩] sc pos) x pos' spos X)
  (hc:X.calm=true) (hi:JI X tg iter wi) (hkind:sc.kind= .function) (hcell:∀ y∈sc.names,y.2≠ .cell) (hnames:∀ y∈sc.names,y.2= .local->sc.names.lookup y.1=some .local)
  (hfree:∀ y∈sc.names,y.2= .free->X.env.scope.names.lookup y.1=some .cell\/X.env.scope.names.lookup y.1=some .free) (hm:qL X sc Nc m)
  (hg:∀ cl C fp s H,JG (blk X sc cl C Nc fp s H) tg g) (ht:∀ cl C fp s H,JTs (blk X sc cl C Nc fp s H) ifs tt) (he:∀ cl C fp s H,JE (blk X sc cl C Nc fp s H) elt te)
  (hs:FoOk iter):JS X (.Assign [.Name x pos'] (.ListComp elt [⟨tg,iter,ifs,0⟩] sc pos) spos) (tAsg (tComp m wi g tt te) (kI i)):=
 ⟨jS0 hN hi' hx.a hx.b hsw.h hc hi.h hkind hcell hnames hfree hm (fun cl C fp s H=>(hg cl C fp s H).h) (fun cl C fp s H=>(ht cl C fp s H).h) (fun cl C fp s H=>(he cl C fp s H).h) (hs.h _)⟩
end L2
namespace L2
open PySem PySem.Spec PyProof.Rows
variable {prog:Program}{w:World}{A:Around}{E:Value->Shared->Prop}
variable {X:Cx}
theorem jIO:entryFor table "proto.unchain" =some Builtin.«proto.unchain»:=g9 (by kernel_rfl)
def Hnd (h:Heap)(x:Addr):Prop:=∃ o vs,h.get? x=some o/\o.data= .fields vs/\vs[2]?=some .none
variable {s:Shared}
theorem jI6 {α:Type}{e x:Addr}{oe:Obj}{es:Array Value}{Q:α->Shared->Prop}(hh:A.handled=some (.ref x))(ne:x≠e)(hx:Hnd s.heap x)(he:s.heap.get? e=some oe)(hd:oe.data= .fields es)(hz:2<es.size)
  (h:E (.ref e) { s with heap:=s.heap.update e (Obj.mapFields (·.setIfInBounds 2 (.ref x)))}):wpAny (model prog w) A (raiseNew (.ref e):Sem α) Q E s:=by
 obtain⟨ox,vs,hox,hdx,h2⟩:=hx
 unfold raiseNew
 refine ae (wpAny_handled ?_)
 rw[hh]
 have hne:(Value.ref x != Value.ref e)=true:=by simp [ne]
 dsimp only
 rw[aD hne]
 refine ae (br (fb (bO jIO ?_)))
 show wpAny _ _ (bind (field (.ref x) 2) _) _ _ _
 refine ae (bu hox hdx h2 ?_)
 rw[aD (by rfl)]
 refine ag ?_
 obtain⟨c,d,dt,sl⟩:=oe
 simp only at hd
 subst hd
 simp only [updateField]
 refine ae (ae (fw he ?_))
 dsimp only
 rw[aD hz]
 exact wpAny_update he (wpAny_throw h)
structure NoteX (fs R:List Addr)(h h':Heap):Prop where
 keep:∀ b o,h.get? b=some o->b∉fs->b∉R->h'.get? b=some o
 slot:∀ b o,h.get? b=some o->b∉R->∃ sl,h'.get? b=some { o with slots:=sl}
 size:h.objs.size<=h'.objs.size
def ExcX (h:Heap)(x C T:Addr):Prop:=∃ vs oT ts,h.get? x=some { cls:= .ref C,data:= .fields vs} /\vs.size=6/\vs[1]?=some (.ref T)/\vs[2]?=some .none/\T≠x/\h.get? T=some oT/\oT.data= .fields ts/\ts[3]?=some .none
theorem jK2 {env:Env}{outer:List Env}{L x C:Addr}{base:Heap}{vs:Array Value}{head:Value}{had:Bool}{Q:Unit->Shared->Prop}(hfr:A.frames=some (env::outer))(hl:s.heap.FunFrames base (env::outer))(hf:env.frame=some L)
  (hx:s.heap.get? x=some { cls:= .ref C,data:= .fields vs}) (v6:vs.size=6) (v2:vs[2]?=some .none)
  (h:∀ h' T,NoteX (frs (env::outer)) [x] s.heap h'->ExcX h' x C T->s.heap.objs.size<=T->Q () { s with heap:=h'}):
  wpAny (model prog w) A (do let a <- frameOf env; let pl <- entryPlaceOf L had; let b <- EntryCells.newEntry head a .none (rawInt L) .none pl; setField (.ref x) 1 b) (fun _ s'=>wpAny (model prog w) A (setFlight (.ref x) none) Q E s') E s:=by
 have xf:x∉frs (env::outer):=fun hm=>by
  obtain⟨_,o,ho,hn⟩:=hl.mem hm
  rw[hx] at ho
  cases ho
  exact hn _ rfl
 refine ae (wpAny_frameOf_fun hfr hl hf fun h1 so=>ae (wpAny_entryPlaceOf fun pl hpl=>?_))
 have hx1:=(so.2.1 x xf).trans hx
 unfold EntryCells.newEntry newFields
 refine ae (aU ?_ (hpl.sizeOk5 _ _ _ _ _))
 generalize hts:([head, .ref L, .none,rawInt L, .none]++(if pl.isEmpty then List.replicate 6 Value.none else pl)).toArray=ts
 have ts3:3<ts.size:=by
  rw[<- hts]
  simp
 have h2x:=af (h:=h1) { cls:= .type "traceback",data:= .fields ts} hx1
 have h2T:(h1.push { cls:= .type "traceback",data:= .fields ts}).get? h1.objs.size=some { cls:= .type "traceback",data:= .fields ts} :=am h1 rfl
 have sz2:(h1.push { cls:= .type "traceback",data:= .fields ts}).objs.size=h1.objs.size+1:=bG ..
 have nTx:h1.objs.size≠x:=de (ak hx1)
 have k2:∀ b o,h1.get? b=some o->(h1.push { cls:= .type "traceback",data:= .fields ts}).get? b=some o:=fun b o e=>af _ e
 generalize h1.push { cls:= .type "traceback",data:= .fields ts} =h2 at h2x h2T sz2 k2 ⊢
 refine dP h2x rfl (by lia) ?_
 have h3x:=bN (Obj.mapFields (·.setIfInBounds 1 (Value.ref h1.objs.size))) h2x rfl
 have h3o:∀ b,b≠x->(h2.update x (Obj.mapFields (·.setIfInBounds 1 (Value.ref h1.objs.size)))).get? b=h2.get? b:=fun b n=>bF _ _ (cS n)
 have h3T:=(h3o _ nTx).trans h2T
 have sz3:(h2.update x (Obj.mapFields (·.setIfInBounds 1 (Value.ref h1.objs.size)))).objs.size=h2.objs.size:=fH ..
 generalize h2.update x (Obj.mapFields (·.setIfInBounds 1 (Value.ref h1.objs.size)))=h3 at h3x h3o h3T sz3 ⊢
 have w1:(vs.setIfInBounds 1 (Value.ref h1.objs.size))[1]?=some (.ref h1.objs.size):=by simp [v6]
 have w2:(vs.setIfInBounds 1 (Value.ref h1.objs.size))[2]?=some .none:=by rw[fk (by decide)]; exact v2
 unfold setFlight
 refine ae (bu (x:= .ref h1.objs.size) h3x rfl w1 ?_)
 rw[aD (show (Value.ref h1.objs.size != Value.none)=true by rfl)]
 refine dP h3T rfl ts3 ?_
 have h4T:=bN (Obj.mapFields (·.setIfInBounds 3 Value.none)) h3T rfl
 have h4o:∀ b,b≠h1.objs.size->(h3.update h1.objs.size (Obj.mapFields (·.setIfInBounds 3 Value.none))).get? b=h3.get? b:=fun b n=>bF _ _ (cS n)
 have sz4:(h3.update h1.objs.size (Obj.mapFields (·.setIfInBounds 3 Value.none))).objs.size=h3.objs.size:=fH ..
 have sz1:=so.1
 refine h (h3.update h1.objs.size (Obj.mapFields (·.setIfInBounds 3 Value.none))) h1.objs.size ⟨fun b o hb n1 n2=>?_,fun b o hb n2=>?_,by lia⟩ ⟨_,_,_,(h4o x (cS nTx)).trans h3x,by simp [v6],w1,w2,nTx,h4T,rfl,?_⟩ (by lia)
 ·have hb1:=(so.2.1 b n1).trans hb
  have nx:b≠x:=fun z=>n2 (by rw[z]; exact aI.mpr rfl)
  rw[h4o b (aG (ak hb1)),h3o b nx]
  exact k2 b o hb1
 ·obtain⟨sl,hb1⟩:=so.2.2 b o hb
  have nx:b≠x:=fun z=>n2 (by rw[z]; exact aI.mpr rfl)
  refine⟨sl,?_⟩
  rw[h4o b (aG (ak hb1)),h3o b nx]
  exact k2 b _ hb1
 ·simp [ts3]
theorem jN5 {env:Env}{outer:List Env}{L x C t:Addr}{base:Heap}{Q:Unit->Shared->Prop}(hfr:A.frames=some (env::outer))(hl:s.heap.FunFrames base (env::outer))(hf:env.frame=some L)
  (hx:s.heap.get? x=some { cls:= .ref C,data:= .fields #[.ref t, .none, .none, .none, .bool false, .none]})
  (h:∀ h' T,NoteX (frs (env::outer)) [x] s.heap h'->ExcX h' x C T->s.heap.objs.size<=T->Q () { s with heap:=h'}):wpAny (model prog w) A (leaving env (.ref x)) Q E s:=by
 unfold leaving noteFrame
 simp only [hf]
 refine ae (ae (bu (x:=Value.none) hx rfl rfl ?_))
 rw[aF (by decide)]
 exact jK2 hfr hl hf hx rfl rfl h
theorem jPQ {env:Env}{outer:List Env}{L x C T:Addr}{base:Heap}{Q:Unit->Shared->Prop}(hfr:A.frames=some (env::outer))(hl:s.heap.FunFrames base (env::outer))(hf:env.frame=some L)(hx:ExcX s.heap x C T)
  (h:∀ h' T',NoteX (frs (env::outer)) [x,T] s.heap h'->ExcX h' x C T'->s.heap.objs.size<=T'->Q () { s with heap:=h'}):
  wpAny (model prog w) A (noteFrame (.ref x) env) (fun _ s'=>wpAny (model prog w) A (setFlight (.ref x) none) Q E s') E s:=by
 obtain⟨vs,oT,ts,hx,v6,v1,v2,nTx,hT,hd,t3⟩:=hx
 have t3s:3<ts.size:=(dN.mp t3).1
 unfold noteFrame
 simp only [hf]
 refine ae (bu hx rfl v1 ?_)
 rw[aD (show (Value.ref T != Value.none)=true by rfl)]
 refine ae (bu hT hd t3 ?_)
 rw[aF (show ¬ ((Value.none==rawInt L)=true) by simp [rawInt])]
 refine ae (dP hT hd t3s ?_)
 have uo:∀ b,b≠T->(s.heap.update T (Obj.mapFields (·.setIfInBounds 3 Value.none))).get? b=s.heap.get? b:=fun b n=>bF _ _ (cS n)
 have us:(s.heap.update T (Obj.mapFields (·.setIfInBounds 3 Value.none))).objs.size=s.heap.objs.size:=fH ..
 have nT:∀ b o,s.heap.get? b=some o->(∀ vs,o.data≠ .fields vs)->b≠T:=fun b o hb hn z=>by
  rw[z,hT] at hb
  cases hb
  exact hn _ hd
 generalize s.heap.update T (Obj.mapFields (·.setIfInBounds 3 Value.none))=h1 at uo us ⊢
 refine jK2 (s:= { s with heap:=h1}) (C:=C) hfr (hl.of_keeps fun b o hb hn=>⟨o,(uo b (nT b o hb hn)).trans hb,rfl⟩) hf ((uo x (cS nTx)).trans hx) v6 v2 fun h' T' n e z=>h h' T' ⟨fun b o hb m1 m2=>?_,fun b o hb m2=>?_,by have:=n.size; show s.heap.objs.size<=_; rw[<- us]; exact this⟩ e (by rw[<- us]; exact z)
 ·have b1:b≠T:=fun z=>m2 (by rw[z]; simp)
  have b2:b≠x:=fun z=>m2 (by rw[z]; simp)
  exact n.keep b o ((uo b b1).trans hb) m1 (by simpa using b2)
 ·have b1:b≠T:=fun z=>m2 (by rw[z]; simp)
  have b2:b≠x:=fun z=>m2 (by rw[z]; simp)
  exact n.slot b o ((uo b b1).trans hb) (by simpa using b2)
abbrev bmVE:List Value:=[.type "ValueError", .type "Exception", .type "BaseException", .type "object"]
def ExcK (K:W.Frag)(C:Addr):Prop:=∃ (nm q:Str) (N:Addr) (bs bm:List Value) (hdct:Bool) (sn:List Str) (sub:List Value) (ab:Bool) (col:Option Bool) (dd:Option Addr) (k0 k1 k2 k3 k5:Option Value) (mN:Str->Option Value),
 mN "__init__" =none/\bm.contains (.type "BaseException")=true/\∀ h:Heap,K.In h->h.get? C=some (excClassObj nm q C N bs bm hdct sn sub ab col dd k0 k1 k2 k3 k5 "ValueError.__new__")/\h.Ns N mN/\OwnTail h bmVE bm
variable {x:Str}{C:Addr}{e:Expr}{t:TA}{np cpos pos:Pos}
section
variable {W:Hp->Prop}
theorem jM3 (hc:X.calm=true)(ek:ExcK X.K C)(hg:Gl X x)(hm:X.mg x=some (.ref C))(ha:PA X [e] t)
  (hx:∀ ad σ H s h' a us,Inv X ad σ H s->Heap.MadeExcOf s.heap h' a (.ref C) us->W H->X.xe (.ref a) { s with heap:=h'})
  (hd:(x==("__debug__" :Str))=false:=by decide) (he:starEach [e] X.env=(false,eval e X.env)::starEach [] X.env:=by rfl) (hpl:(backTo cpos (starEach [e] X.env)).any (·.1)=false:=by rfl):
  PS X (.Raise (some (.Call (.Name x np) [e] [] cpos)) none pos) (fun _ σ H=>t σ H fun vs H1=>vs.length<=sizeLine/\W H1):=by
 intro ad s σ H D I h
 obtain⟨nm,q,N,bs,bm,hdct,sn,sub,ab,col,dd,k0,k1,k2,k3,k5,mN,hni,hb,hK⟩:=ek
 refine wpAny_Raise_call_subU (C:=C) (N:=N) (bs:=bs) (bm:=bm) (hdct:=hdct) (sn:=sn) (sub:=sub) (ab:=ab) (col:=col) (dd:=dd) (k0:=k0) (k1:=k1) (k2:=k2) (k3:=k3) (k5:=k5) (nm:=nm) (q:=q) gG (by decide) gG hb (I.ok.hd hc) hpl hni (jCP I hg hm ⟨rfl,?_⟩ hd)
 obtain⟨y,r,hy⟩:∃ y r,backTo cpos (starEach [e] X.env)=(false,y)::r:=by
  rw[he]
  exact⟨_,_,rfl⟩
 have h2:=ha cpos ad s σ H _ I h
 rw[hy] at h2 ⊢
 refine cI (iZ h2 fun us s1 ⟨vs,H1,I1,r1,z,w1⟩=>?_)
 obtain⟨c1,c2,c3⟩:=hK s1.heap I1.kIn
 exact⟨rfl,by rw[<- r1.length]; exact z,c1,c2,c3,fun h' a m=>hx ad σ H1 s1 h' a us I1 m w1⟩
end
theorem HOk.note {P:Program}{w:World}{H:Hp}{h h':Heap}{fs R:List Addr}(x:HOk P w H h)(n:NoteX fs R h h')(hf:∀ b∈fs,H b=none)(hR:∀ b∈R,H b=none):HOk P w H h':=fun a o e=>
 (x a o e).stay (fun b u hb q=>n.keep b u q (fun z=>by
   have:=hf b z
   rcases hb with rfl | hb
   ·rw[e] at this; cases this
   ·rw[hb] at this; cases this) (fun z=>by
   have:=hR b z
   rcases hb with rfl | hb
   ·rw[e] at this; cases this
   ·rw[hb] at this; cases this)) (fun _ q=>q) fun _ _ q=>q
theorem ObjOk.is {P:Program}{w:World}{H:Hp}{h:Heap}{a:Addr}{o:HO}(x:ObjOk P w H h a o):∃ u,h.get? a=some u:=by
 cases o with
 | lst xs=>obtain⟨_,_,_,_,e⟩:=x; exact⟨_,e⟩
 | tup xs=>obtain⟨_,_,_,_,e⟩:=x; exact⟨_,e⟩
 | dK iY=>obtain⟨_,_,_,_,o,_,_,e,_⟩:=x; exact⟨_,e⟩
 | dT iY=>obtain⟨_,_,_,_,o,_,_,e,_⟩:=x; exact⟨_,e⟩
 | set S n=>obtain⟨o,_,_,_,e,_⟩:=x; exact⟨_,e⟩
 | ins C dx fs=>obtain⟨_,_,_,e,_⟩:=x; exact⟨_,e⟩
 | own y=>exact x
 | xd fs=>obtain⟨_,⟨_,_,_,e,_⟩,_⟩:=x; exact⟨_,e⟩
 | rng lo hi=>obtain⟨_,_,_,e⟩:=x; exact⟨_,e⟩
 | frz ob u=>obtain⟨e,_⟩:=x; exact⟨_,e⟩
 | tbl ps=>exact⟨_,x⟩
 | met f y=>exact⟨_,x⟩
 | ext φ=>obtain⟨_,q,_⟩:=x; exact q
def CXX (P:Program)(w:World)(C:Addr):CXT:=fun outer H s E e s'=>∃ x T H',e= .ref x/\s'.os=s.os/\AllBare s'.gens/\Un (frs outer) [] H H' s.heap s'.heap/\HOk P w H' s'.heap/\s.heap.get? x=none/\s.heap.objs.size<=T/\H' x=none/\H' T=none/\ExcX s'.heap x C T/\E e (some x) H'
theorem xe_cx {P:Program}{w:World}{K:W.Frag}{mg:Str->Option Value}{base:Heap}{N:List Str}{qual:Str}{sc:Scope}{f:Addr}{dl:Value}{A:Around}{outer:List Env}{s:Shared}{H:Hp}{E:XK}{C:Addr}
  {ad:List (Addr×Obj)}{σ:St}{H1:Hp}{s1:Shared}{h':Heap}{a:Addr}{us:List Value}(I:Inv (cxOf (CXX P w C) P w K mg base N qual sc f dl A outer s H E) ad σ H1 s1) (m:Heap.MadeExcOf s1.heap h' a (.ref C) us) (w1:∀ a,E (.ref a) (some a) H1):
  (cxOf (CXX P w C) P w K mg base N qual sc f dl A outer s H E).xe (.ref a) { s1 with heap:=h'} :=by
 obtain⟨t,ha,ht,_⟩:=m.there
 have fr:=I.ok.frames
 have st:s1.heap.FunFrames base (PyProof.Rows.envOfC qual sc s.heap.objs.size f dl::outer):=I.stack
 have an:=m.new
 have sz:s.heap.objs.size<=s1.heap.objs.size:=I.sz
 have aH:H1 a=none:=by
  cases q:H1 a with
  | none=>rfl
  | some o=>
   obtain⟨u,hu⟩:=(I.hok a o q).is
   rw[an] at hu
   cases hu
 have hs:s.heap.objs.size<h'.objs.size:=by
  obtain⟨mm,⟨o,es,ep,hL,_⟩,_⟩:=I.loc
  exact ak (m.keeps _ _ hL)
 refine jN5 (s:= { s1 with heap:=h'}) (base:=base) fr (st.of_keeps fun b o hb _=>⟨o,m.keeps b o hb,rfl⟩) rfl ha fun h2 T n e z=>?_
 have z:h'.objs.size<=T:=z
 have un:Un (frs outer) [] H H1 s.heap s1.heap:=I.base
 have nl:∀ b o,s.heap.get? b=some o->b∉frs outer->b∉frs (PyProof.Rows.envOfC qual sc s.heap.objs.size f dl::outer):=fun b o hb n1 hm=>by
  rcases az.mp (show b∈s.heap.objs.size::frs outer from hm) with q | q
  ·exact absurd (ak hb) (by rw[q]; exact bV _)
  ·exact n1 q
 have na:∀ b o,s.heap.get? b=some o->b∉ [a]:=fun b o hb hm=>by
  obtain⟨o',q⟩:=un.there b o hb (by simp)
  rw[aI.mp hm,an] at q
  cases q
 refine⟨a,T,H1,rfl,I.os,I.bare,⟨fun b o hb n1 n2 n3=>?_,fun b o hb n1 n2 n3=>?_,un.free,fun b o hb n3=>?_,un.tups,un.frzs,un.tbls⟩,?_,?_,by lia,aH,(I.hok.kept m.keeps).fresh z,e,w1 a⟩
 ·exact n.keep b o (m.keeps _ _ (un.keep b o hb n1 n2 n3)) (nl b o hb n2) (na b o hb)
 ·obtain⟨sl,q⟩:=un.slot b o hb n1 n2 n3
  obtain⟨sl2,q2⟩:=n.slot b _ (m.keeps _ _ q) (na b o hb)
  exact⟨sl2,q2⟩
 ·obtain⟨o',q⟩:=un.there b o hb n3
  obtain⟨sl2,q2⟩:=n.slot b _ (m.keeps _ _ q) (na b o hb)
  exact⟨_,q2⟩
 ·refine(I.hok.kept m.keeps).note n (fun b hb=>I.stkFree b hb) fun b hb=>?_
  rw[aI.mp hb]
  exact aH
 ·cases q:s.heap.get? a with
  | none=>rfl
  | some o=>exact absurd (aI.mpr rfl) (na a o q)
variable {M:Model}{h:Heap}
section
variable {g:Array GenState}{d:Drawn}{tk:Nat}{os:OsState}
theorem jPU {nm q nm' q':Str}{C N B N' x:Addr}{bs bm bs' bm':List Value}{hdct hdct':Bool}{sn sn':List Str}{sub sub':List Value}{ab ab':Bool}{col col':Option Bool}{dd dd':Option Addr}{k0 k1 k2 k3 k5 j0 j1 j2 j3 j5:Option Value}{ni ni':String}{ox:Obj}{Q:Bool->Shared->Prop}
  (hC:h.get? C=some (excClassObj nm q C N bs bm hdct sn sub ab col dd k0 k1 k2 k3 k5 ni)) (hB:h.get? B=some (excClassObj nm' q' B N' bs' bm' hdct' sn' sub' ab' col' dd' j0 j1 j2 j3 j5 ni')) (hx:h.get? x=some ox) (hc:ox.cls= .ref C)
  (hb:bm'.contains (.type "BaseException")=true) (hin:bm.contains (.ref B)=true) (z:Q true ⟨h,g,d,tk,os⟩):wpAny M A (excMatches (.ref x) (.ref B)) Q E ⟨h,g,d,tk,os⟩:=by
 have b1:(Value.ref B::bm').contains (.type "BaseException")=true:=by rw[iN,hb,di]
 have b2:(Value.ref C::bm).contains (.ref B)=true:=by rw[iN,hin,di]
 have f0:=tc_notTuple
 unfold excMatches
 repeat (first | (with_reducible refine wpAny_loadPart_at hx ?_; rw[hc]) | with_reducible refine wpAny_loadPart_at hB ?_ | (with_reducible refine wpAny_isSubtype_exc hB ?_; rw[b1]) | (with_reducible refine wpAny_isSubtype_exc hC ?_; rw[b2]) | wp_step)
 exact z
end
structure ExcIs (K:W.Frag)(C:Addr):Prop where
 ga:findIn K (.ref C) "__getattribute__" =some (some (.builtin "BaseException.__getattribute__"))
 gr:findIn K (.ref C) "__getattr__" =some none
 hc:(clsIn K C).isSome=true
 ha:findIn K (.ref C) "__class__" =some (some (.builtin "object.__class__"))
 hn:specialIn K (.builtin "object.__class__") "__get__" =some (some (.builtin "getset_descriptor.__get__"))
 tk:takesIn K (.builtin "object.__class__")=some true
 hm:mroIn K C (.type "object")=some true
 hb:mroIn K C (.type "BaseException")=some true
def excP (x C:Addr):Heap->Prop:=fun h=>∃ vs,h.get? x=some { cls:= .ref C,data:= .fields vs} /\vs[2]?=some .none
theorem excP.inst {x C:Addr}{h:Heap}(p:excP x C h):∃ ox,PySem.W.InstAt h x ox C none:=by
 obtain⟨vs,e,_⟩:=p
 exact⟨_,e,rfl,rfl,True.intro⟩
theorem jNX {K:W.Frag}{x C:Addr}{ox:Obj}{prog:Program}{w:World}{A:Around}{E:Value->Shared->Prop}{Q:Option Value->Shared->Prop}{s:Shared}(c:ExcIs K C)(X:K.In s.heap)(I:PySem.W.InstAt s.heap x ox C none)(k:Q (some (.ref C)) { s with toks:=s.toks+1}):wpAny (model prog w) A (getAttr? (.ref x) "__class__") Q E s:=by
 have hf:findObj K C none "__class__" =some (.bind (.builtin "getset_descriptor.__get__") (.builtin "object.__class__")):=by
  obtain⟨cd,hcd⟩:=dq.mp c.hc
  unfold findObj
  rw[hcd,bind_some,c.ha,bind_some]
  simp [c.hn,c.tk]
 obtain⟨hh,g,d,t,os⟩:=s
 have L0:=I.type (M:=model prog w)
 have L1:=iB (M:=model prog w) X c.ga
 have L2:=iB (M:=model prog w) X c.gr
 have L3:=PySem.W.looks_find (M:=model prog w) X I hf
 have L4:PySem.W.Looks (model prog w) hh (isInstance (.ref x) (.type "BaseException")) true:=L0.andThen (PySem.W.looks_mroIn (M:=model prog w) X c.hb)
 have e1:(onTheHeap (.ref C)&&(Value.builtin "BaseException.__getattribute__" == .builtin "object.__getattribute__"))=false:=by
  have z:(Value.builtin "BaseException.__getattribute__" == .builtin "object.__getattribute__")=false:=by decide+kernel
  rw[z,bP]
 unfold getAttr? getAttrBy? getAttrBy
 refine ae (wpAny_mkText (ae (dL (br (ae (L0.at (ae (L1.at ?_))))))))
 dsimp only
 rw[e1,aF (by decide)]
 unfold getAttrByItsOwn hookBefore
 rw[aD (by rfl)]
 refine ae (L2.at (ae (dL (br ?_))))
 unfold callGetattribute boundAndCalled
 rw[aF (by decide),hV.ga.bind]
 refine ae (ag (fz (codeAny_call_builtin hV.ga.plain PySem.F.entry_bexc_ga ?_)))
 have hk:builtinKind "BaseException.__getattribute__" =some .slot/\splitId "BaseException.__getattribute__" =some ("BaseException","__getattribute__"):=by decide+kernel
 have ha:=PySem.F.args_bexc_ga (.ref x) (.str "__class__" t)
 simp only [checkBuiltinCall,hk.1,hk.2]
 refine ae (L4.at ?_)
 rw[aF (by decide)]
 refine gO (a:=()) ha (ae (ag (ae (ag (ae (L0.at (ae (L3.at ?_))))))))
 refine(show wpAny _ _ (holding [.builtin "object.__class__"] (call (.builtin "getset_descriptor.__get__") [.builtin "object.__class__", .ref x, .ref C]) >>= ret) _ _ _ from ae (br (fz ?_)))
 exact PySem.W.class_get (s:=⟨hh,g,d,t+1,os⟩) (ox:=ox) (od:=none) X I c.hm (ag (PySem.W.handed_on rfl (ag k)))
theorem jQ0 {K:W.Frag}{x C:Addr}(c:ExcIs K C):PySem.W.KitX K (.ref x) (.ref C) (excP x C) where
 ty:=fun _ _ _ p=>by
  obtain⟨ox,I⟩:=p.inst
  exact I.type
 it:=fun _ _ X _=>by
  obtain⟨cd,hcd⟩:=dq.mp c.hc
  unfold clsIn at hcd
  split at hcd
  ·rename_i c' d' cd' sl' ho
   intro A' Q' E' s' k q
   unfold isType loadHead
   exact ae (wpAny_loadPart (k _ _ (X _ _ ho)) (ag q))
  ·cases hcd
 ne:=fun h tp dd its n sl X htp=>by
  obtain⟨cd,hcd⟩:=dq.mp c.hc
  refine bJ.mpr fun q=>?_
  have e:C=tp:=Value.ref.inj (iO.mp q)
  subst e
  unfold clsIn at hcd
  split at hcd
  ·rename_i c' d' cd' sl' ho
   have z:=(X _ _ ho).symm.trans htp
   cases z
  ·cases hcd
 ca:=fun {prog w A E Q s} X p k=>by
  obtain⟨ox,I⟩:=p.inst
  exact jNX c X I k
theorem y8 {X:Cx}{C:Addr}(ci:ExcIs X.K C):yO X (.builtin "isinstance") (fun xs H Q=>∃ x c u b,xs=[.ref x,c]/\H x=some (.ext (excP x C))/\(∀ v,RelV c v->v=u)/\kitOne X.K (.ref C) u=some b/\Q (.bl b) H):=by
 intro ad s σ H xs us Q I r h
 obtain⟨x,c,u,b,rfl,hx,hu,e,q⟩:=h
 obtain⟨v,y,rfl,rv,ry⟩:=r.two
 cases (show v=Value.ref x from rv)
 cases hu y ry
 obtain⟨p,_,_⟩:=(show ObjOk X.prog X.w H s.heap x (.ext (excP x C)) from I.hok x _ hx)
 exact bU (jQ0 ci) I.kIn p e (fun z=>nomatch z) fun tk=>⟨.bl b,H,I.tok tk,rfl,q⟩
variable {ad:List (Addr×Obj)}{H H':Hp}
section
variable {σ:List (Option V)}{h':Heap}
theorem Inv.stepX {g':Array GenState}{t':Nat}{d':Drawn}{ch:List Addr}(I:Inv X ad σ H s)
  (hch:∀ b∈ch,X.s₀.heap.get? b=none/\b≠X.env.locals/\(∀ x c,X.env.cells.lookup x=some c->c≠b)/\∀ p∈X.pn++ad,p.1≠b)
  (keep:∀ b o,b≠X.env.locals->b∉X.fs->b∉ch->s.heap.get? b=some o->H b=none->h'.get? b=some o)
  (slot:∀ b o,b≠X.env.locals->b∈X.fs->b∉ch->s.heap.get? b=some o->H b=none->∃ sl,h'.get? b=some { o with slots:=sl}) (free:∀ b o,b∉ch->s.heap.get? b=some o->H b=none->H' b=none)
  (there:∀ b o,b∉ch->s.heap.get? b=some o->∃ o',h'.get? b=some o')
  (tups:∀ b xs,H b=some (.tup xs)->H' b=some (.tup xs)) (frzs:∀ b o u,H b=some (.frz o u)->H' b=some (.frz o u)) (tbls:∀ b ps,H b=some (.tbl ps)->∃ more,H' b=some (.tbl (ps++more)))
  (ns:∀ m,s.heap.Ns X.env.locals m->h'.Ns X.env.locals m) (hok:HOk X.prog X.w H' h') (hg:AllBare g'):
  Inv X ad σ H' { s with heap:=h',gens:=g',drawn:=d',toks:=t'} :=by
 have neL:∀ b o,X.s₀.heap.get? b=some o->b≠X.env.locals:=fun b o e=>aG (aP (ak e) I.ok.above)
 have neC:∀ b o,X.s₀.heap.get? b=some o->b∉X.ex->b∉ch:=fun b o e hx hb=>by
  have z:=(hch b hb).1
  rw[e] at z
  cases z
 have cellK:∀ x c,X.env.cells.lookup x=some c->∀ v,s.heap.IsCell c v->h'.IsCell c v:=fun x c e v ⟨o,ho,hd⟩=>by
  have nch:c∉ch:=fun z=>(hch c z).2.2.1 x c e rfl
  by_cases hc:c∈X.fs
  ·obtain⟨sl,q⟩:=slot c o (I.cne x c e) hc nch ho (I.freeC x c e)
   exact⟨_,q,hd⟩
  ·exact⟨o,keep c o (I.cne x c e) hc nch ho (I.freeC x c e),hd⟩
 refine⟨I.ok,I.os,hg,⟨fun b o e n hb hx=>?_,fun b o e n hb hx=>?_,fun b o e n hx=>?_,fun b o e hx=>?_,fun b xs e=>tups b xs (I.base.tups b xs e),fun b o xs e=>frzs b o xs (I.base.frzs b o xs e),fun b ps e=>?_⟩,?_,fun x c e=>?_,?_,fun x c e=>?_,fun p hp=>?_,hok,I.len⟩
 ·exact keep b o (neL b o e) hb (neC b o e hx) (I.base.keep b o e n hb hx) (I.base.free b o e n hx)
 ·obtain⟨sl,e1⟩:=I.base.slot b o e n hb hx
  obtain⟨sl',e2⟩:=slot b _ (neL b o e) hb (neC b o e hx) e1 (I.base.free b o e n hx)
  exact⟨sl',e2⟩
 ·obtain⟨o',e1⟩:=I.base.there b o e hx
  exact free b o' (neC b o e hx) e1 (I.base.free b o e n hx)
 ·obtain⟨o',e1⟩:=I.base.there b o e hx
  exact there b o' (neC b o e hx) e1
 ·obtain⟨m1,e1⟩:=I.base.tbls b ps e
  obtain⟨m2,e2⟩:=tbls b _ e1
  exact⟨m1++m2,by rw[e2,iK]⟩
 ·obtain⟨m,hn,hl⟩:=I.loc
  refine⟨m,ns m hn,fun i x v e1 e2 e3=>?_⟩
  obtain⟨u,r,l⟩:=hl i x v e1 e2 e3
  refine⟨u,r,?_⟩
  rcases l with l | ⟨k,c,e,z⟩
  ·exact .inl l
  ·exact .inr ⟨k,c,e,cellK x c e _ z⟩
 ·obtain⟨v,z⟩:=I.cell x c e
  exact⟨v,cellK x c e v z⟩
 ·obtain⟨m,⟨o,_,_,ho,_⟩,_⟩:=I.loc
  exact free _ o (fun z=>(hch _ z).2.1 rfl) ho I.free
 ·obtain⟨v,o,ho,hd⟩:=I.cell x c e
  exact free c o (fun z=>(hch c z).2.2.1 x c e rfl) ho (I.freeC x c e)
 ·obtain⟨e,n,ne,nf,d⟩:=I.pin p hp
  have nch:p.1∉ch:=fun z=>(hch p.1 z).2.2.2 p hp rfl
  exact⟨keep p.1 p.2 ne nf nch e n,free p.1 p.2 nch e n,ne,nf,d⟩
theorem Inv.callX {g':Array GenState}{t':Nat}{d':Drawn}{ch:List Addr}(I:Inv X ad σ H s)(u:Un (frs X.stack) ch H H' s.heap h')(hok:HOk X.prog X.w H' h')(hg:AllBare g')
  (hch:∀ b∈ch,X.s₀.heap.get? b=none/\b≠X.env.locals/\(∀ x c,X.env.cells.lookup x=some c->c≠b)/\∀ p∈X.pn++ad,p.1≠b):
  Inv X ad σ H' { s with heap:=h',gens:=g',drawn:=d',toks:=t'} :=by
 obtain⟨m,⟨o,es,ep,ho,r⟩,_⟩:=id I.loc
 obtain⟨sl,hL⟩:=u.any ho I.free fun z=>(hch _ z).2.1 rfl
 exact I.stepX (ch:=ch) hch (fun b o hL hb hc e n=>u.keep b o e n (fun z=>(az.mp (I.stkSub b z)).elim hL hb) hc) (fun b o _ _ hc e n=>u.any e n hc) (fun b o hc e n=>u.free b o e n hc) (fun b o hc e=>u.there b o e hc) u.tups u.frzs u.tbls (fun m' hm=>by
  obtain⟨o',es',ep',ho',r'⟩:=hm
  rw[ho] at ho'; cases ho'
  exact⟨_,es',ep',hL,r'⟩) hok hg
end
theorem excP.of {h:Heap}{x C T:Addr}(e:ExcX h x C T):excP x C h:=by
 obtain⟨vs,_,_,h1,_,_,h2,_⟩:=e
 exact⟨vs,h1,h2⟩
theorem excP.stay {x C:Addr}(h1 h2:Heap)(p:excP x C h1)(k:∀ o,h1.get? x=some o->h2.get? x=some o):excP x C h2:=by
 obtain⟨vs,e,c⟩:=p
 exact⟨vs,k _ e,c⟩
section
variable {σ:St}{h2:Heap}{x T T':Addr}
theorem Inv.apart (I:Inv X ad σ H s)(hex:X.ex=[]){b:Addr}(hb:s.heap.get? b=none):X.s₀.heap.get? b=none/\b≠X.env.locals/\(∀ y c,X.env.cells.lookup y=some c->c≠b)/\∀ p∈X.pn++ad,p.1≠b:=by
 refine⟨?_,fun z=>?_,fun y c e z=>?_,fun p hp z=>?_⟩
 ·cases q:X.s₀.heap.get? b with
  | none=>rfl
  | some o=>
   obtain⟨o',e⟩:=I.base.there b o q (by rw[hex]; simp)
   rw[hb] at e
   cases e
 ·obtain⟨m,⟨o,es,ep,hL,_⟩,_⟩:=I.loc
  rw[<- z,hb] at hL
  cases hL
 ·obtain⟨v,o,ho,_⟩:=I.cell y c e
  rw[z,hb] at ho
  cases ho
 ·have:=(I.pin p hp).1
  rw[z,hb] at this
  cases this
theorem Inv.held (I:Inv X ad σ H' s)(n:NoteX (frs X.stack) [x,T] s.heap h2)(e:ExcX h2 x C T')(hx:H' x=none)(hT:H' T=none)
  (ax:X.s₀.heap.get? x=none/\x≠X.env.locals/\(∀ y c,X.env.cells.lookup y=some c->c≠x)/\∀ p∈X.pn++ad,p.1≠x)
  (aT:X.s₀.heap.get? T=none/\T≠X.env.locals/\(∀ y c,X.env.cells.lookup y=some c->c≠T)/\∀ p∈X.pn++ad,p.1≠T):
  Inv X ad σ (upd H' x (.ext (excP x C))) { s with heap:=h2} :=by
 have nx:∀ {b:Addr}{o:HO},H' b=some o->b≠x:=fun {b o} q z=>by
  rw[z,hx] at q
  cases q
 refine I.callX (g':=s.gens) (d':=s.drawn) (t':=s.toks) (ch:=[x,T]) ⟨fun b o q z n1 n2=>n.keep b o q n1 n2,fun b o q z n1 n2=>n.slot b o q n2,fun b o q z n2=>?_,fun b o q n2=>?_,fun b xs q=>by rw[jD (nx q)]; exact q,fun b o u q=>by rw[jD (nx q)]; exact q,fun b ps q=>⟨#[],by rw[jD (nx q),q]; simp⟩⟩ (fun a o q=>?_) I.bare (fun b hb=>?_)
 ·rw[jD (fun z=>n2 (by rw[z]; simp))]
  exact z
 ·obtain⟨sl,w⟩:=n.slot b o q n2
  exact⟨_,w⟩
 ·by_cases ha:a=x
  ·subst ha
   rw[j7] at q
   cases q
   obtain⟨vs,_,_,w,_⟩:=id e
   exact⟨.of e,⟨_,w⟩,excP.stay⟩
  ·rw[jD ha] at q
   have hk:=I.hok.note n I.stkFree fun b hb=>by
    rcases az.mp hb with z | z
    ·rw[z]; exact hx
    ·rw[aI.mp z]; exact hT
   exact(hk a o q).stay (fun _ _ _ w=>w) (fun b w=>by rw[jD (nx w)]; exact w) fun b xs w=>by rw[jD (nx w)]; exact w
 ·rcases az.mp hb with z | z
  ·rw[z]; exact ax
  ·rw[aI.mp z]; exact aT
end
def jAZ (X:Cx)(x:Addr):Cx:= { X with A:=X.A.mark (some (.ref x)),calm:=false,xe:=fun _ _=>False}
section
variable {σ:St}{x:Addr}
theorem Cx.Ok.suite (ok:X.Ok)(x:Addr):(jAZ X x).Ok:=
 ⟨ok.mod,ok.kind,ok.glob,ok.blt,ok.above,ok.inj,ok.has,ok.cab,fun z=>(nomatch z),ok.frames,ok.stk,ok.exf,ok.bs,ok.bsz,ok.noex,ok.exfs,ok.funs,ok.frf⟩
theorem Inv.suite (I:Inv X ad σ H s)(x:Addr):Inv (jAZ X x) ad σ H s:=⟨I.ok.suite x,I.os,I.bare,I.base,I.loc,I.cell,I.free,I.freeC,I.pin,I.hok,I.len⟩
theorem Inv.unsuite (ok:X.Ok)(I:Inv (jAZ X x) ad σ H s):Inv X ad σ H s:=⟨ok,I.os,I.bare,I.base,I.loc,I.cell,I.free,I.freeC,I.pin,I.hok,I.len⟩
end
section
variable {x T:Addr}{Q:Unit->Shared->Prop}
theorem jIN (e:ExcX s.heap x C T)(h:∀ h',(∀ b o,s.heap.get? b=some o->h'.get? b=some o)->Q () { s with heap:=h'}):wpAny M A (setFlight (.ref x) none) Q E s:=by
 obtain⟨vs,oT,ts,hx,v6,v1,v2,nTx,hT,hd,t3⟩:=e
 have t3s:3<ts.size:=(dN.mp t3).1
 unfold setFlight
 refine ae (bu (x:= .ref T) hx rfl v1 ?_)
 rw[aD (show (Value.ref T != Value.none)=true by rfl)]
 refine dP hT hd t3s (h _ fun b o hb=>?_)
 by_cases hbT:b=T
 ·subst hbT
  rw[hT] at hb
  cases hb
  obtain⟨c,d,dt,sl⟩:=oT
  simp only at hd
  subst hd
  refine(bN (Obj.mapFields (·.setIfInBounds 3 Value.none)) hT rfl).trans ?_
  have e3:ts.setIfInBounds 3 Value.none=ts:=by
   apply Array.ext_getElem?
   intro i
   by_cases hi:i=3
   ·subst hi
    rw[t3]
    simp [t3s]
   ·rw[fk (cS hi)]
  show some ({ cls:=c,dict:=d,data:= .fields (ts.setIfInBounds 3 Value.none),slots:=sl} :Obj)=_
  rw[e3]
 ·exact(bF _ _ (cS hbT)).trans hb
end
def Above (K:W.Frag)(C B:Addr):Prop:=∃ (nm q nm' q':Str) (N N':Addr) (bs bm bs' bm':List Value) (hdct hdct':Bool) (sn sn':List Str) (sub sub':List Value) (ab ab':Bool) (col col':Option Bool) (dd dd':Option Addr) (k0 k1 k2 k3 k5 j0 j1 j2 j3 j5:Option Value) (ni ni':String),
 bm'.contains (.type "BaseException")=true/\bm.contains (.ref B)=true/\∀ h:Heap,K.In h->h.get? C=some (excClassObj nm q C N bs bm hdct sn sub ab col dd k0 k1 k2 k3 k5 ni)/\h.get? B=some (excClassObj nm' q' B N' bs' bm' hdct' sn' sub' ab' col' dd' j0 j1 j2 j3 j5 ni')
variable {n c:Str}{i j:Nat}{f B:Addr}{fd:FuncData}{ps:List Str}{sp:Sp}{es:List Expr}{yp gp cp ap rp hp tp:Pos}
section
variable {y g:Str}{k:Nat}{r:Expr}{te:Addr->TE}
end
theorem Hnd.kept {h h':Heap}{x:Addr}(n:Hnd h x)(k:∀ b o,h.get? b=some o->h'.get? b=some o):Hnd h' x:=by
 obtain⟨o,vs,e,d,z⟩:=n
 exact⟨o,vs,k _ _ e,d,z⟩
theorem excP.hnd {h:Heap}{x C:Addr}(p:excP x C h):Hnd h x:=by
 obtain⟨vs,e,z⟩:=p
 exact⟨_,vs,e,rfl,z⟩
theorem jGR {it x:Addr}{lo left step:Int}{Q:Option Value->Shared->Prop}(hh:A.handled=some (.ref x))(hx:Hnd s.heap x)(hit:IsRangeIter s.heap it lo left step)(hl:left<=0)
  (hQ:∀ h',(∀ b o,s.heap.get? b=some o->h'.get? b=some o)->Q none { s with heap:=h'}):wpAny (model prog w) A (pyNext (.ref it)) Q E s:=by
 have ty:s.TypeIs (.ref it) "range_iterator" :=⟨_,hit,rfl⟩
 unfold pyNext
 refine ae (dL (bw (name:=Str.ofString "__next__") ty F.slot_range_iterator_next (bD F.slot_range_iterator_next ty F.entry_range_iterator_next ?_ (F.args_range_iterator_next_1 _))))
 refine(show wpAny _ _ (field (.ref it) 0 >>= _) _ _ s from ae (bu hit rfl (x:=rawInt lo) rfl ?_))
 refine(show wpAny _ _ (field (.ref it) 1 >>= _) _ _ s from ae (bu hit rfl (x:=rawInt left) rfl ?_))
 refine(show wpAny _ _ (field (.ref it) 2 >>= _) _ _ s from ae (bu hit rfl (x:=rawInt step) rfl ?_))
 refine(show wpAny _ _ (if left<=0 then _ else _) _ _ s from ?_)
 rw[aD hl]
 refine ae (eJ (ae ?_))
 refine(show wpAny _ _ (newExc (.type "StopIteration") [] >>= _) _ _ _ from ae ?_)
 simp only [newExc,newTuple]
 refine ae (aU (ae (m:=firstArgMember _ _) (gO (a:=Value.none) (by first | rfl | (simp only [firstArgMember]; rfl)) (aU ?_ (by size_fits)))) (by size_fits))
 have xl:x<s.heap.objs.size:=by
  obtain⟨o,_,e,_⟩:=hx
  exact ak e
 refine jI6 hh (aG (aP xl ?_)) (hx.kept fun b o e=>af _ (af _ e)) (am _ rfl) rfl (by simp only [Array.size_append,aj,aZ,eH]; lia) ?_
 ·exact cF (by rw[bG]; exact ce _)
 ·refine ae (fE (T:= "StopIteration") (b:=true) ⟨_,bN _ (am _ rfl) rfl,rfl⟩ iz (ag (hQ _ fun b o e=>?_)))
  rw[bF _ _ (cS (aG (aP (ak e) (cF (by rw[bG]; exact ce _)))))]
  exact af _ (af _ e)
def ItrS (x:Addr)(lo:Int)(n:Nat):It:=⟨fun i _=>i<n,fun i H y H'=>H'=H/\y= .int (lo+i),fun i H=>n<=i/\∃ C,H x=some (.ext (excP x C))⟩
def iRngS (x:Addr)(ta:TA):TI:=fun σ H R=>ta σ H fun vs H1=>∃ j:Int,vs=[.int j]/\ -(2 ^ 62)<=j/\j<2 ^ 62/\R (ItrS x 0 j.toNat) H1
structure TurnS (x:Addr)(P:Program)(w:World)(K:W.Frag)(tg:Expr)(J:It)(fp:List Addr)(it:Addr)(tn:Nat->Heap->Prop):Prop where
 mem:it∈fp
 obj:∀ i h,tn i h->∀ b∈fp,∃ o,h.get? b=some o/\∀ v,o.data≠ .cell v
 keep:∀ i h h',tn i h->(∀ b∈fp,∀ o,h.get? b=some o->h'.get? b=some o)->tn i h'
 item:∀ (X:Cx),X.prog=P->X.w=w->X.K=K->X.A.handled=some (.ref x)->∀ (i:Nat) (ad:List (Addr×Obj)) (s:Shared) (σ:St) (H:Hp) (E:Value->Shared->Prop),Inv X ad σ H s->(∀ b∈fp,FpOk X ad H b)->tn i s.heap->J.go i H->
  wpAny (model P w) X.A (pyNext (.ref it)) (fun r s1=>∃ u,r=some u/\
   wpAny (model P w) X.A (letOwnedTupleGo tg (.ref it) u) (fun _ s2=>∃ x H',Inv X ad σ H' s2/\RelV x u/\J.yld i H x H'/\tn (i+1) s2.heap/\∀ b∈fp,H' b=none) E s1) E s
 done:∀ (X:Cx),X.prog=P->X.w=w->X.K=K->X.A.handled=some (.ref x)->∀ (i:Nat) (ad:List (Addr×Obj)) (s:Shared) (σ:St) (H:Hp) (E:Value->Shared->Prop),Inv X ad σ H s->(∀ b∈fp,FpOk X ad H b)->tn i s.heap->J.stop i H->
  wpAny (model P w) X.A (pyNext (.ref it)) (fun r s1=>r=none/\Inv X ad σ H s1) E s
 self:∀ (A:Around) (i:Nat) (s:Shared) (Q:Value->Shared->Prop) (E:Value->Shared->Prop),tn i s.heap->Q (.ref it) s->wpAny (model P w) A (pyIter (.ref it)) Q E s
def PISE (x:Addr)(X:Cx)(ad:List (Addr×Obj))(σ:St)(tg:Expr)(R:It->Hp->Prop)(itv:Value)(s2:Shared):Prop:=
 ∃ (it:Addr) (fp:List Addr) (tn:Nat->Heap->Prop) (J:It) (H':Hp),itv= .ref it/\Inv X ad σ H' s2/\TurnS x X.prog X.w X.K tg J fp it tn/\tn 0 s2.heap/\(∀ b∈fp,FpOk X ad H' b)/\R J H'
def PIS (x:Addr)(X:Cx)(tg iter:Expr)(wi:TI):Prop:=
 ∀ (ad:List (Addr×Obj)) (s:Shared) (σ:St) (H:Hp) (R:It->Hp->Prop),Inv X ad σ H s->wi σ H R->
  wpAny (model X.prog X.w) X.A (eval iter X.env) (fun v s1=>wpAny (model X.prog X.w) X.A (pyIter v) (PISE x X ad σ tg R) X.xe s1) X.xe s
theorem jI2 {x:Addr}{P:Program}{w:World}{K:W.Frag}{tg:Expr}(it:Addr)(lo:Int)(n:Nat):TurnS x P w K tg (ItrS x lo n) [it] it (fun i h=>IsRangeIter h it (lo+(i:Nat)*1) ((n:Int) - (i:Nat)) 1) where
 mem:=by simp
 obj:=fun i h st b hb=>by
  have e:b=it:=by simpa using hb
  subst e
  exact⟨_,st,fun v z=>by
   have z':Data.fields _=Data.cell v:=z
   cases z'⟩
 keep:=fun i h h' st k=>k it (by simp) _ st
 item:=by
  intro X hP hw hK hc i ad s σ H E I hf st hg
  subst hP hw hK
  obtain⟨f0,f1,f2,f3,f4,f5⟩:=hf it (by simp)
  refine wpAny_pyNext_range_item st (by have:i<n:=hg; lia) fun h' st' sb=>?_
  replace st':IsRangeIter h' it (lo+((i+1:Nat):Int)*1) ((n:Int) - ((i+1:Nat):Int)) 1:=by
   have e1:lo+((i+1:Nat):Int)*1=lo+(i:Int)*1+1:=by lia
   have e2:(n:Int) - ((i+1:Nat):Int)=(n:Int) - (i:Int) - 1:=by lia
   rw[e1,e2]
   exact st'
  have kk:∀ b o,b≠it->s.heap.get? b=some o->h'.get? b=some o:=fun b o hb e=>sb.extBut b o hb e
  have I1:Inv X ad σ H { s with heap:=h',toks:=s.toks+1} :=I.turned kk f0 f1 f3 f4 f5
  refine⟨_,rfl,go_of (s:= { s with heap:=h',toks:=s.toks+1}) (n:= "range_iterator") st' rfl rfl (by decide) ⟨.int (lo+i),H,I1,⟨s.toks,?_⟩,⟨rfl,rfl⟩,st',fun b hb=>(hf b hb).1⟩⟩
  rw[iU]
 done:=by
  intro X hP hw hK hc i ad s σ H E I hf st hg
  subst hP hw hK
  obtain⟨f0,f1,f2,f3,f4,f5⟩:=hf it (by simp)
  obtain⟨hg,C,hC⟩:=hg
  obtain⟨p,_,_⟩:=(show ObjOk X.prog X.w H s.heap x (.ext (excP x C)) from I.hok x _ hC)
  exact jGR hc p.hnd st (by lia) fun h' eb=>⟨rfl,I.kept (t':=s.toks) eb⟩
 self:=fun _ _ _ _ _ st h=>wpAny_pyIter_rangeiter st h
variable {tg:Expr}
theorem jLZ {x:Addr}{ad:List (Addr×Obj)}{σ:St}{H:Hp}{s:Shared}{R:It->Hp->Prop}{E:Value->Shared->Prop}{lo hi:Int}{t u v:Tok}{tk:Nat}(I:Inv X ad σ H s)(h1: -(2 ^ 62)<=lo)(h2:lo<2 ^ 62)(h3: -(2 ^ 62)<=hi)(h4:hi<2 ^ 62)
  (q:R (ItrS x lo (hi - lo).toNat) H):wpAny (model X.prog X.w) X.A (pyIter (.ref s.heap.objs.size)) (PISE x X ad σ tg R) E { s with heap:=s.heap.push { cls:= .type "range",data:= .fields #[.int lo t, .int hi u, .int 1 v]},toks:=tk} :=by
 refine wpAny_pyIter_range (IsRange.new ..) (small_one h1 h2 h3 h4) ?_
 have I1:Inv X ad σ H { s with heap:=s.heap.push { cls:= .type "range",data:= .fields #[.int lo t, .int hi u, .int 1 v]},toks:=tk} :=I.kept fun b o e=>af _ e
 refine⟨(s.heap.push { cls:= .type "range",data:= .fields #[.int lo t, .int hi u, .int 1 v]}).objs.size,[(s.heap.push { cls:= .type "range",data:= .fields #[.int lo t, .int hi u, .int 1 v]}).objs.size],_,_,H,rfl,
  I1.kept (t':=tk) fun b o e=>af _ e,jI2 _ lo (hi - lo).toNat,?_,fun b hb=>?_,q⟩
 ·have e1:lo+((0:Nat):Int)*1=lo:=by simp
  have e2:(((hi - lo).toNat:Nat):Int) - ((0:Nat):Int)=Builtin.Range.rangeSize lo hi 1:=by rw[gS]; split <;> lia
  show IsRangeIter _ _ (lo+((0:Nat):Int)*1) ((((hi - lo).toNat:Nat):Int) - ((0:Nat):Int)) 1
  rw[e1,e2]
  exact am _ rfl
 ·have e:b=(s.heap.push { cls:= .type "range",data:= .fields #[.int lo t, .int hi u, .int 1 v]}).objs.size:=by simpa using hb
  subst e
  exact I1.fpOk (ai _) (I1.hok.fresh (ai _))
theorem jKM {x:Addr}{a:Expr}{ta:TA}{p pos:Pos}(hg:Gl X "range")(hm:X.mg "range" =none)(ha:PA X [a] ta)(hs:starEach [a] X.env=[(false,eval a X.env)]:=by rfl):PIS x X tg (.Call (.Name "range" p) [a] [] pos) (iRngS x ta):=by
 intro ad s σ H R I h
 refine Call_ (jEA I hg hm boot_range (cq (iZ (ha pos ad s σ H _ I h) fun us s1 ⟨vs,H1,I1,r1,q1⟩=>?_) hs rfl))
 obtain⟨j,e,q1,q2,q⟩:=q1
 subst e
 cases r1 with
 | cons r rr=>
  cases rr
  obtain⟨t,rfl⟩:=r
  exact call_range_1 (jLZ I1 (by lia) (by lia) q1 q2 (by simpa using q))
variable {g:TG}{iter elt:Expr}{ifs:List Expr}{sc:Scope}{wi:TI}{tt:TT}{te:TE}{m:List (Option Nat)}{Nc:List Str}
theorem jPA {x:Addr}(hc:X.A.handled=some (.ref x))(hi:PIS x X tg iter wi)(hkind:sc.kind= .function)(hcell:∀ y∈sc.names,y.2≠ .cell)(hnames:∀ y∈sc.names,y.2= .local->sc.names.lookup y.1=some .local)
  (hfree:∀ y∈sc.names,y.2= .free->X.env.scope.names.lookup y.1=some .cell\/X.env.scope.names.lookup y.1=some .free) (hm:qL X sc Nc m)
  (hg:∀ cl C fp s H,PG (blk X sc cl C Nc fp s H) tg g) (ht:∀ cl C fp s H,PTs (blk X sc cl C Nc fp s H) ifs tt) (he:∀ cl C fp s H,PE (blk X sc cl C Nc fp s H) elt te)
  (hs:∀ x,foldedSetIterable iter X.env x=pure x:=by intro _; rfl):PE X (.ListComp elt [⟨tg,iter,ifs,0⟩] sc pos) (tComp m wi g tt te):=by
 intro ad s σ H Q I h
 rw[gW]
 have hcl:∀ y∈sc.names,y.2= .free->∃ c,X.env.cells.lookup y.1=some c:=fun y hy hf=>I.ok.has y.1 (hfree y hy hf)
 refine eF (use:=none) rfl hs (jGC hcl) hkind hnames (iZ (hi ad s σ H _ I h) fun v s1 h1=>iZ h1 fun itv s2 h2=>?_)
 obtain⟨it,fp,tn,J,H2,e,I2,T,st2,f2,hQ⟩:=h2
 subst e
 have hlt:∀ b∈fp,b<s2.heap.objs.size:=fun b hb=>by
  obtain⟨o,e,_⟩:=T.obj 0 _ st2 b hb
  exact ak e
 refine aU (wpAny_newFunctionEnv hcell (by intro y hy; simp at hy) (fun h₁ hns₁ hsb₁=>?_) hkind)
 have I3:Inv X ad σ (upd H2 s2.heap.objs.size (.lst [])) { s2 with heap:=s2.heap.push { cls:= .type "list",data:= .seq ([]:List Value).toArray}} :=I2.lnew (t':=s2.toks) .nil (bh _)
 obtain⟨W,⟨n0,w0⟩,turn⟩:=hQ s2.heap.objs.size I2.fresh
 have hD3:∀ b∈fp,b≠s2.heap.objs.size:=fun b hb=>aG (hlt b hb)
 have f3:∀ b∈fp,FpOk X ad (upd H2 s2.heap.objs.size (.lst [])) b:=fun b hb=>by
  obtain⟨a0,a1⟩:=f2 b hb
  exact⟨by rw[jD (hD3 b hb)]; exact a0,a1⟩
 generalize hE:({ s2 with heap:=s2.heap.push { cls:= .type "list",data:= .seq ([]:List Value).toArray}} :Shared)=s3 at I3 hns₁ hsb₁ ⊢
 generalize hH3:upd H2 s2.heap.objs.size (.lst [])=H3 at I3 f3 w0
 have hsz3:s3.heap.objs.size=s2.heap.objs.size+1:=by rw[<- hE]; exact bG _ _
 have old:∀ b o,s3.heap.get? b=some o->h₁.get? b=some o:=fun b o e=>hsb₁.extBut b o (aG (ak e)) (af _ e)
 have old2:∀ b o,s2.heap.get? b=some o->h₁.get? b=some o:=fun b o e=>old b o (by rw[<- hE]; exact af _ e)
 have I4:=jHS (fp:=fp) (tk:=s3.toks+([]:List (Str×Value)).length) I3 hkind hcell hfree hm f3 (fun b hb=>show b<s3.heap.objs.size by rw[hsz3]; exact bQ (hlt b hb)) hns₁ old
 have st4:tn 0 h₁:=T.keep _ _ _ st2 fun b hb o e=>old2 b o e
 have loop:codeAny (model X.prog X.w) X.A (.compLoop (.ListComp elt [⟨tg,iter,ifs,0⟩] sc pos) 0 (.ref it) (.ref s2.heap.objs.size) (compEnvC sc (kG X.env.cells sc.names []) s3.heap.objs.size X.env))
   (compPost (model X.prog X.w) X.A X.xe none (EP X ad σ Q) (.ref s2.heap.objs.size) s3.heap.objs.size) { s3 with heap:=h₁,toks:=s3.toks+([]:List (Str×Value)).length} :=by
  generalize hX:blk X sc (kG X.env.cells sc.names []) s3.heap.objs.size Nc fp s3 H3=Xb at I4
  have eP:Xb.prog=X.prog:=by rw[<- hX]; rfl
  have ew:Xb.w=X.w:=by rw[<- hX]; rfl
  have eK:Xb.K=X.K:=by rw[<- hX]; rfl
  have eA:Xb.A=X.A:=by rw[<- hX]; rfl
  have ec:Xb.A.handled=some (.ref x):=by rw[<- hX]; exact hc
  have ee:Xb.env=compEnvC sc (kG X.env.cells sc.names []) s3.heap.objs.size X.env:=by rw[<- hX]; rfl
  have ex:Xb.xe=fun _ _=>False:=by rw[<- hX]; rfl
  have hgb:PG Xb tg g:=by rw[<- hX]; exact hg _ _ _ _ _
  have htb:PTs Xb ifs tt:=by rw[<- hX]; exact ht _ _ _ _ _
  have heb:PE Xb elt te:=by rw[<- hX]; exact he _ _ _ _ _
  have stat:∀ {H':Hp},(∀ b∈fp,H' b=none)->∀ b∈fp,FpOk Xb [] H' b:=fun {H'} hn b hb=>by
   obtain⟨o,eo,_⟩:=T.obj _ _ st4 b hb
   have q:=I4.ok.exf b (by rw[<- hX]; exact hb)
   exact⟨hn b hb,q.1,I4.ok.exfs b (by rw[<- hX]; exact hb), .inl (by rw[<- hX]; exact hb),q.2,fun p hp=>absurd hp (by rw[<- hX]; simp [blk])⟩
  have fr4:∀ b∈fp,H3 b=none:=fun b hb=>(f3 b hb).1
  unfold PG at hgb
  unfold PTs at htb
  unfold PE at heb
  rw[eP,ew,eA,ee,ex] at hgb htb heb
  refine jCW (fun n z=>∃ i σ' H' ys,Inv Xb [] σ' H' z/\tn i z.heap/\(∀ b∈fp,H' b=none)/\W i n σ' H' ys) ?_ n0 ⟨0,_,H3,[],I4,st4,fr4,w0⟩
  rintro n z ⟨i,σ5,H5,ys,I5,st5,fr5,w5⟩
  obtain⟨hD,hlen,way⟩:=turn i n σ5 H5 ys w5
  rcases way with ⟨stop,q⟩ | ⟨go,N,hN,step⟩
  ·have R:=T.done Xb eP ew eK ec i [] z σ5 H5 (fun _ _=>False) I5 (stat fr5) st5 stop
   rw[eA] at R
   refine iZ R fun r z1 ⟨hr,I6⟩=>?_
   subst hr
   obtain⟨mm,hn6,_⟩:=I6.loc
   rw[ee] at hn6
   refine⟨mm,hn6,fun h' sb=>?_⟩
   have u6:Un (frs X.stack) fp H3 H5 s3.heap z1.heap:=by
    have:=I6.base
    rw[<- hX] at this
    exact this
   have fC:H5 s3.heap.objs.size=none:=by
    have:=I6.free
    rw[ee] at this
    exact this
   have hok6:HOk X.prog X.w H5 z1.heap:=by
    have:=I6.hok
    rw[eP,ew] at this
    exact this
   have os6:z1.os=s3.os:=by
    have:=I6.os
    rw[<- hX] at this
    exact this
   refine⟨.ref s2.heap.objs.size,H5,I3.call' (s':= { z1 with heap:=h'}) (ch:=fp) os6 (u6.sameBut sb (ai _)) (hok6.sameBut sb fC) I6.bare (fun b hb=>?_),rfl,q⟩
   obtain⟨a0,a1,a2,a3,a4,a5⟩:=f3 b hb
   exact⟨a3,a1,a4,a5⟩
  ·have R:=T.item Xb eP ew eK ec i [] z σ5 H5 (fun _ _=>False) I5 (stat fr5) st5 go
   rw[eA] at R
   refine iZ R fun r z1 ⟨u,hr,h6⟩=>?_
   subst hr
   refine iZ h6 fun _ z2 ⟨y,H7,I7,r7,y7,st7,fr7⟩=>?_
   have I7':=I7.pinned (stat fr7) (T.obj _ _ st7)
   refine iZ (hgb _ z2 σ5 H7 y u _ I7' r7 (step y H7 y7)) fun _ z3 ⟨σ8,H8,I8,q8⟩=>?_
   refine iZ (htb _ z3 σ8 H8 _ I8 q8) fun ok z4 ⟨H9,I9,q9⟩=>?_
   have again:∀ {σ7:St}{Hz:Hp}{zz:Shared}{yy:List V}{n':Nat},Inv Xb ([]++jDZ fp z2.heap) σ7 Hz zz->n'<n->W (i+1) n' σ7 Hz yy->∃ k,k<n/\∃ i σ' H' ys,Inv Xb [] σ' H' zz/\tn i zz.heap/\(∀ b∈fp,H' b=none)/\W i k σ' H' ys:=fun {σ7 Hz zz yy n'} Iz hn wz=>by
    refine⟨n',hn,i+1,σ7,Hz,yy,Iz.unpinned,T.keep _ _ _ st7 fun b hb o e=>(Iz.pin (b,o) (aR _ (aR _ (jA3 hb e)))).1,fun b hb=>?_,wz⟩
    obtain⟨o,e,d⟩:=T.obj _ _ st7 b hb
    exact(Iz.pin (b,o) (aR _ (aR _ (jA3 hb e)))).2.1
   cases ok with
   | false=>
    obtain⟨n',hn,w9⟩:=hN _ _ _ (show N σ8 H9 ys from q9)
    exact again I9 hn w9
   | true=>
    refine iZ (heb _ z4 σ8 H9 _ I9 q9) fun xv z5 ⟨vv,H10,I10,r10,hD10,n10⟩=>?_
    obtain⟨n',hn,w10⟩:=hN _ _ _ n10
    have R:=yW (X:=Xb) _ z5 σ8 H10 (.ref s2.heap.objs.size) [vv] (.ref s2.heap.objs.size) [xv] (fun _ H'=>H'=upd H10 s2.heap.objs.size (.lst (ys++[vv]))) I10 rfl (.cons r10 .nil) ⟨_,ys,vv,rfl,rfl,hD10,hlen,rfl⟩
    rw[eP,ew,eA,ex] at R
    refine iZ R fun _ z6 ⟨_,H11,I11,_,e11⟩=>?_
    subst e11
    exact again I11 hn w10
 exact eY loop (T.self _ 0 _ _ _ st4 loop)
structure RoomS (k:Nat)(A:Around)(x:Addr):Prop where
 hd:A.handled=some (.ref x)
 dp:A.depth+3*k+5<recursionLimit
 un:A.units+16*k+200<cLine
theorem Room.suite {k:Nat}{A:Around}(r:Room k A)(x:Addr):RoomS k (A.mark (some (.ref x))) x:=⟨rfl,r.dp,r.un⟩
theorem RoomS.deeper {k:Nat}{A:Around}{x:Addr}(r:RoomS (k+1) A x)(env:Env):RoomS k (A.deeper env) x:=
 ⟨r.hd,by have:=r.dp; show A.depth+1+3*k+5<_; lia,by have:=r.un; show A.units+3+16*k+200<_; lia⟩
structure FnS (P:Program)(w:World)(K:W.Frag)(mg:Str->Option Value)(base:Heap)(k:Nat)(f:Addr)(fd:FuncData)(ps:List Str)(sp:Addr->Sp):Prop where
 len:∀ x vs H Q E,sp x vs H Q E->vs.length=ps.length
 run:∀ (A:Around) (outer:List Env) (s:Shared) (H:Hp) (args:Args) (us:List Value) (vs:List V) (Q:VK) (E:XK) (x:Addr),RoomS k A x->Env0 P w K mg base A outer s H->BindsTo s fd args (ps.zip us)->Vals vs us->sp x vs H Q E->
  codeAny (model P w) A (.call (.ref f) args) (CR CX0 outer P w H s Q E) s
def cxS (P:Program)(w:World)(K:W.Frag)(mg:Str->Option Value)(base:Heap)(N:List Str)(qual:Str)(scope:Scope)(f:Addr)(cd:Value)(A:Around)(outer:List Env)(s:Shared)(H:Hp)(E:XK):Cx:= { (cxOf CX0 P w K mg base N qual scope f cd A outer s H E).nox with calm:=false}
theorem jV2 {P:Program}{w:World}{K:W.Frag}{mg:Str->Option Value}{base:Heap}{k:Nat}{x qual:Str}{st:Stmt}{f:Addr}{fd:FuncData}{N ps:List Str}{sp:Addr->Sp}(F:Fun K x qual st f fd)(S:FnScope N ps (jA st))(len:∀ x vs H Q E,sp x vs H Q E->vs.length=ps.length)
  (hbody:∀ (dl:Value) (A:Around) (outer:List Env) (s:Shared) (H:Hp) (vs:List V) (Q:VK) (E:XK) (x:Addr),RoomS k (A.deeper (envOfC qual (jA st) s.heap.objs.size f dl)) x->sp x vs H Q E->
   ∃ t,PSs (cxS P w K mg base N qual (jA st) f dl A outer s H E) (jN st) t/\t { nx:=fun _ H'=>Q .non H',rt:=Q} (yT N vs) H):
  FnS P w K mg base (k+1) f fd ps sp:=by
 obtain⟨oc,od,kV,doc,pm,an,dl,ct,osl,rfl,lk,hcd⟩:=F.ex
 refine⟨len,fun A outer s H args us vs Q E x hr e0 hb r hsp=>?_⟩
 have hl:=len _ _ _ _ _ hsp
 have KX:K.In s.heap:=e0.mod.kin.keeps fun b o e=>(e0.bs b o e).1
 have lim:s.heap.NoLimit:=e0.mod.nolimit.keeps fun b o e=>(e0.bs b o e).1
 have hkind:∀ y∈ps.zip us,(jA st).names.lookup y.1=some .local\/((jA st).names.lookup y.1=some .cell/\((cellsFrom (s.heap.objs.size+1) (jA st).names []).lookup y.1).isSome=true):=fun ⟨n,v⟩ hy=>by
  rcases S.par n (dI hy).1 with q | q
  ·exact .inl q
  ·exact .inr ⟨q,eQ _ _ _ (.inl q)⟩
 refine codeAny_call_function (by have:=hr.dp; lia) (KX _ _ lk) rfl S.co S.gen rfl (iM KX hcd) (hb _ _ _ _ ?_)
 refine gz S.kind hkind fun env he s1 z=>?_
 subst he
 refine⟨lim.keeps z.toInCall.keep,codeAny_func ?_⟩
 obtain⟨t,ht,hq⟩:=hbody dl A outer s H vs Q E x (hr.deeper _) hsp
 have J:Inv (cxOf CX0 P w K mg base N qual (jA st) f dl { A with handled:=none} outer s H E) [] (yT N vs) H s1:=jHB S rfl ⟨e0.frames,e0.mod,e0.bs,e0.bsz,e0.funs,e0.frf,e0.hok,e0.bare⟩ hl r z
 have ok:=J.ok
 have I:Inv (cxS P w K mg base N qual (jA st) f dl A outer s H E) [] (yT N vs) H s1:=
  ⟨⟨ok.mod,ok.kind,ok.glob,ok.blt,ok.above,ok.inj,ok.has,ok.cab,fun z=>(nomatch z),gb e0.frames,ok.stk,ok.exf,ok.bs,ok.bsz,ok.noex,ok.exfs,ok.funs,ok.frf⟩,J.os,J.bare,J.base,J.loc,J.cell,J.free,J.freeC,J.pin,J.hok,J.len⟩
 refine bC (ht [] s1 (yT N vs) H _ I hq) (fun fl s' hs=>?_) fun e s' hs=>False.elim hs
 have fin:∀ {σ':St}{H':Hp}{v:V}{u:Value},Inv (cxS P w K mg base N qual (jA st) f dl A outer s H E) [] σ' H' s'->RelV v u->Q v H'->CE outer P w H s Q u s':=
  fun {σ' H' v u} J rv q=>⟨v,H',J.os,J.bare,J.base,J.hok,rv,q⟩
 cases fl with
 | ret u=>
  obtain⟨v,σ',H',J,rv,q⟩:=hs
  exact fin J rv q
 | next=>
  obtain⟨σ',H',J,q⟩:=hs
  exact fin (v:=V.non) (u:=Value.none) J rfl q
 | brk=>
  obtain⟨_,_,_,q⟩:=hs
  exact False.elim q
 | cont=>
  obtain⟨_,_,_,q⟩:=hs
  exact False.elim q
variable {a:Addr}{p:Pos}
section
variable {k:Nat}{sp:Addr->Sp}
theorem jJX (F:FnS X.prog X.w X.K X.mg X.base k f fd ps sp)(hr:RoomS k X.A a)(hg:Gl1 X x)(hm:X.mg x=some (.ref f))(hk:keepIn X.K (.ref f)=true)(hb:Binds X.K fd ps [])
  (ha:JA X (e::es) t) (he:starEach (e::es) X.env=(false,eval e X.env)::starEach es X.env) (hdb:(x==("__debug__" :Str))=false:=by decide) (hpl:(backTo pos (starEach es X.env)).any (·.1)=false:=by rfl):
  JE X (.Call (.Name x p) (e::es) [] pos) (tCall (sp a) [] E0 t):=by
 refine⟨fun ad s σ H Q I h=>?_⟩
 refine cB (jCP I hg.a hm ?_ hdb)
 refine gy (h₀:=X.base) I.ok.mod.kin hk (iZ (ha.h pos ad s σ H _ I h) fun us s1 ⟨vs,H1,I1,r,q⟩=>⟨I1.kIn,?_⟩) he hpl
 replace q:sp a (vs++[]) H1 Q E0:=q
 rw[bf] at q
 have hl:us.length=ps.length:=by rw[<- r.length]; exact F.len _ _ _ _ _ q
 have hbb:=hb s1 us I1.kIn (by rw[bf]; exact hl)
 rw[bf] at hbb
 refine fz (dF (F.run X.A X.stack s1 H1 ⟨us,[]⟩ us vs Q E0 a hr I1.env0 hbb r q) fun r s' hq=>?_)
 cases r with
 | error e=>exact hq.elim
 | ok fl=>
  cases fl with
  | ret u=>exact I1.after hq
  | next=>exact False.elim hq
  | brk=>exact False.elim hq
  | cont=>exact False.elim hq
end
variable {P:Program}{mg:Str->Option Value}{base:Heap}{N:List Str}{qual:Str}{outer:List Env}
section
variable {CX:CXT}{K:W.Frag}{dl:Value}{E:XK}
theorem gl_x (h:sc.names.lookup x=some .globalImplicit:=by decide+kernel):Gl1 (cxOf CX P w K mg base N qual sc f dl A outer s H E).nox x:=⟨h⟩
theorem vis_x (h:sc.names.lookup x=some .local:=by decide+kernel):Vis1 (cxOf CX P w K mg base N qual sc f dl A outer s H E).nox x:=⟨.inl h⟩
theorem jTL (h:sc.names.lookup x=some .cell):Vis1 (cxOf CX P w K mg base N qual sc f dl A outer s H E).nox x:=⟨.inr (.inl h)⟩
theorem loc_x (h:sc.names.lookup x=some .local):Loc1 (cxOf CX P w K mg base N qual sc f dl A outer s H E).nox x:=⟨.inl h, .inl rfl⟩
theorem gl_s (h:sc.names.lookup x=some .globalImplicit:=by decide+kernel):Gl1 (cxS P w K mg base N qual sc f dl A outer s H E) x:=⟨h⟩
theorem qZ (h:sc.names.lookup x=some .local:=by decide+kernel):Vis1 (cxS P w K mg base N qual sc f dl A outer s H E) x:=⟨.inl h⟩
theorem loc_s (h:sc.names.lookup x=some .local:=by decide+kernel):Loc1 (cxS P w K mg base N qual sc f dl A outer s H E) x:=⟨.inl h, .inl rfl⟩
theorem gl_u {X:Cx}{a:Addr}(h:Gl1 X x):Gl1 (jAZ X a) x:=⟨h.a⟩
theorem vis_u {X:Cx}{a:Addr}(h:Vis1 X x):Vis1 (jAZ X a) x:=⟨h.a⟩
end
structure JIS (x:Addr)(X:Cx)(tg e:Expr)(t:TI):Prop where
 h:PIS x X tg e t
theorem jND {tg:Expr}(hg:Gl1 X "range")(hm:X.mg "range" =none)(ha:JA X [e] t)(hs:starEach [e] X.env=[(false,eval e X.env)]):JIS a X tg (.Call (.Name "range" p) [e] [] pos) (iRngS a t):=⟨jKM hg.a hm ha.h hs⟩
theorem jQ4 {tg iter elt:Expr}{ifs:List Expr}{sc:Scope}{wi:TI}{g:TG}{tt:TT}{te:TE}{m:List (Option Nat)}{Nc:List Str}(hc:X.A.handled=some (.ref a))(hi:JIS a X tg iter wi)(hkind:sc.kind= .function)(hcell:∀ y∈sc.names,y.2≠ .cell)(hnames:∀ y∈sc.names,y.2= .local->sc.names.lookup y.1=some .local)
  (hfree:∀ y∈sc.names,y.2= .free->X.env.scope.names.lookup y.1=some .cell\/X.env.scope.names.lookup y.1=some .free) (hm:qL X sc Nc m)
  (hg:∀ cl C fp s H,JG (blk X sc cl C Nc fp s H) tg g) (ht:∀ cl C fp s H,JTs (blk X sc cl C Nc fp s H) ifs tt) (he:∀ cl C fp s H,JE (blk X sc cl C Nc fp s H) elt te)
  (hs:FoOk iter):JE X (.ListComp elt [⟨tg,iter,ifs,0⟩] sc pos) (tComp m wi g tt te):=⟨jPA hc hi.h hkind hcell hnames hfree hm (fun cl C fp s H=>(hg cl C fp s H).h) (fun cl C fp s H=>(ht cl C fp s H).h) (fun cl C fp s H=>(he cl C fp s H).h) (hs.h _)⟩
def nfP (x q:Str)(args:Arguments)(body:List Stmt)(scope:Scope)(cl:List (Str×Addr))(a c:Addr):Heap->Prop:=fun h=>∃ doc pm ctv,h.get? a=some (fnMade x q args body scope cl doc pm c ctv)
def ncP (q:Str)(c:Addr):Heap->Prop:=fun h=>h.CodeRec (.ref c) q
noncomputable abbrev onePs (pos:Pos)(c:Addr):Array Value:=#[rawInt pos.line,rawInt pos.col, .ref c]
def TabOk (H:Hp)(T:Addr)(pos:Pos)(q:Str):Prop:=H T=some (.tbl #[])\/∃ c,H T=some (.tbl (onePs pos c))/\H c=some (.ext (ncP q c))
def ExtT (T:Addr)(H H':Hp):Prop:=∀ b o,H b=some o->b≠T->H' b=some o
def BltAt (base:Heap)(mg:Str->Option Value):Prop:=∃ bm o,mg "__builtins__" =some (.ref bm)/\bm≠builtinsNs/\bm≠mainGlobals/\base.get? bm=some o/\o.cls= .type "module" /\o.dict=some builtinsNs/\o.data= .plain
theorem nfP.stay {x q:Str}{args:Arguments}{body:List Stmt}{scope:Scope}{cl:List (Str×Addr)}{a c:Addr}(h1 h2:Heap)(p:nfP x q args body scope cl a c h1)(k:∀ o,h1.get? a=some o->h2.get? a=some o):nfP x q args body scope cl a c h2:=by
 obtain⟨d,m,t,e⟩:=p
 exact⟨d,m,t,k _ e⟩
theorem ncP.stay {q:Str}{c:Addr}(h1 h2:Heap)(p:ncP q c h1)(k:∀ o,h1.get? c=some o->h2.get? c=some o):ncP q c h2:=by
 obtain⟨c',o,vs,t,e,g,r⟩:=p
 cases e
 exact⟨c,o,vs,t,rfl,k _ g,r⟩
theorem ncP.is {q:Str}{c:Addr}{h:Heap}(p:ncP q c h):∃ o,h.get? c=some o:=by
 obtain⟨c',o,vs,t,e,g,r⟩:=p
 cases e
 exact⟨o,g⟩
def tDef (x q:Str)(args:Arguments)(body:List Stmt)(scope:Scope)(cl:List (Str×Addr))(T:Addr)(pos:Pos)(j:Nat):TS:=fun D σ H=>TabOk H T pos q/\∀ a c H',H' a=some (.ext (nfP x q args body scope cl a c))->H' c=some (.ext (ncP q c))->H' T=some (.tbl (onePs pos c))->ExtT T H H'->H a=none->D.nx (σ.set j (some (.ref a))) H'
section
variable {σ:St}
theorem Inv.laidX {h':Heap}{t':Nat}{φ:Heap->Prop}{a:Addr}(I:Inv X ad σ H s)(k:∀ b u,s.heap.get? b=some u->h'.get? b=some u)(hp:s.heap.objs.size<=a)(p:φ h')(ho:∃ o,h'.get? a=some o)(st:∀ h1 h2:Heap,φ h1->(∀ o,h1.get? a=some o->h2.get? a=some o)->φ h2):Inv X ad σ (upd H a (.ext φ)) { s with heap:=h',toks:=t'} :=
 I.laid k hp ⟨p,ho,st⟩
theorem Inv.grown {h':Heap}{t':Nat}{T c:Addr}{ps more:Array Value}{φ:Heap->Prop}(I:Inv X ad σ H s)(hT:H T=some (.tbl ps))(k:Heap.ExtBut T s.heap h')(e:h'.get? T=some { cls:= .none,data:= .fields (ps++more)})
  (hc:s.heap.objs.size<=c) (p:φ h') (ho:∃ o,h'.get? c=some o) (st:∀ h1 h2:Heap,φ h1->(∀ o,h1.get? c=some o->h2.get? c=some o)->φ h2):Inv X ad σ (upd (upd H T (.tbl (ps++more))) c (.ext φ)) { s with heap:=h',toks:=t'} :=by
 have hcn:H c=none:=I.hok.fresh hc
 have nT:∀ {b:Addr},H b=none->b≠T:=fun n z=>by rw[z,hT] at n; cases n
 have cT:T≠c:=fun z=>by rw[z,hcn] at hT; cases hT
 have nc:∀ {b:Addr}{o:Obj},s.heap.get? b=some o->b≠c:=fun q z=>absurd (ak q) (by rw[z]; exact Nat.not_lt.mpr hc)
 have mc:∀ {b:Addr}{o:HO},H b=some o->b≠c:=fun q=>jF q hcn
 refine I.un ⟨fun b o q n _ _=>k b o (nT n) q,fun b o q n _ _=>⟨o.slots,k b o (nT n) q⟩,fun b o q n _=>by rw[jD (nc q),jD (nT n)]; exact n,fun b o q _=>?_,fun b xs q=>?_,fun b o u q=>?_,fun b qs q=>?_⟩ fun b o q=>?_
 ·by_cases hb:b=T
  ·rw[hb]; exact⟨_,e⟩
  ·exact⟨o,k b o hb q⟩
 ·rw[jD (mc q),jD (fun z=>by rw[z,hT] at q; cases q)]; exact q
 ·rw[jD (mc q),jD (fun z=>by rw[z,hT] at q; cases q)]; exact q
 ·by_cases hb:b=T
  ·subst hb
   rw[hT] at q
   cases q
   exact⟨more,by rw[jD cT,j7]⟩
  ·exact⟨#[],by rw[jD (mc q),jD hb,q]; simp⟩
 ·by_cases hb1:b=c
  ·subst hb1
   rw[j7] at q
   cases q
   exact⟨p,ho,st⟩
  rw[jD hb1] at q
  by_cases hb:b=T
  ·subst hb
   rw[j7] at q
   cases q
   exact e
  ·rw[jD hb] at q
   refine(I.hok b o q).stay (fun d u hd z=>k d u ?_ z) (fun d z=>?_) fun d xs z=>?_
   ·rcases hd with rfl | hd
    ·exact hb
    ·exact fun y=>by rw[y,hT] at hd; cases hd
   ·rw[jD (mc z),jD (fun y=>by rw[y,hT] at z; cases z)]; exact z
   ·rw[jD (mc z),jD (fun y=>by rw[y,hT] at z; cases z)]; exact z
theorem jTZ {x:Str}{args:Arguments}{body:List Stmt}{scope:Scope}{pos:Pos}{c0 T:Addr}{j:Nat}(hN:X.N.Nodup)(hj:X.N[j]?=some x)(lx:Loc X.env.scope x)(hcode:X.env.code= .ref c0)(CH:PySem.W.CodeHd X.base c0 T)(hbm:BltAt X.base X.mg)
  (hfree:∀ y∈scope.names,y.2= .free->X.env.scope.names.lookup y.1=some .cell\/X.env.scope.names.lookup y.1=some .free) (hdf:defaultsOf args X.env=([],[])) (han:annTrees args none X.env=[])
  (hf:X.fn x=true\/X.env.scope.names.lookup x=some .local:=by first | exact .inl rfl | exact .inr rfl | assumption):
  PS X (.FunctionDef x args body [] none [] scope none x pos) (tDef x (qualnameIn X.env x x) args body scope (kG X.env.cells scope.names []) T pos j):=by
 intro ad s σ H D I h
 obtain⟨tab,h⟩:=h
 rw[exec_def,hdf,han]
 refine ae (eh (ae (br ?_)))
 refine ae (ag (ae (br (ag (br (ae (ag ?_)))))))
 have hcl:closureFor scope X.env=pure (kG X.env.cells scope.names []):=jGC fun y hy hz=>I.ok.has y.1 (hfree y hy hz)
 have hg:s.heap.Ns mainGlobals X.mg:=I.mod.glob.keeps I.bk
 have C:=CH.keeps I.bk
 have gT:∀ {ps:Array Value},H T=some (.tbl ps)->mainGlobals≠T:=fun hT z=>by
  obtain⟨o,es,ep,e,_⟩:=I.mod.glob
  have:=(I.bs _ _ e).2
  rw[z,hT] at this
  cases this
 have bT:∀ {ps:Array Value},H T=some (.tbl ps)->s.heap.BuiltinsAt X.mg T:=fun hT=>by
  obtain⟨bm,o,h1,h2,h3,h4,h5,h6,h7⟩:=hbm
  refine⟨bm,o,h1,h2,h3,fun z=>?_,(I.bs _ _ h4).1,h5,h6,h7⟩
  have:=(I.bs _ _ h4).2
  rw[z,hT] at this
  cases this
 rcases tab with hT | ⟨c,hT,hc⟩
 ·refine PySem.W.makeFunction_K hcl I.ok.glob hg hcode C (I.hok T _ hT) trivial rfl (gT hT) (bT hT) fun c ctv doc h' tk k1 k2 k3 k4 k5=>?_
  obtain⟨oc,hoc⟩:=ncP.is (q:=qualnameIn X.env x x) k4
  have I1:Inv X ad σ (upd (upd H T (.tbl (#[]++onePs pos c))) c (.ext (ncP (qualnameIn X.env x x) c))) { s with heap:=h',toks:=tk} :=I.grown hT k1 k5 k2 k4 ⟨oc,hoc⟩ ncP.stay
  have I2:=I1.laidX (t':=tk) (a:=h'.objs.size) (φ:=nfP x (qualnameIn X.env x x) args body scope (kG X.env.cells scope.names []) h'.objs.size c) (h':=h'.push (fnMade x (qualnameIn X.env x x) args body scope (kG X.env.cells scope.names []) doc ((X.mg "__name__").getD .none) c ctv)) (fun b u q=>af _ q) (ai _) ⟨doc,_,ctv,am _ rfl⟩ ⟨_,am _ rfl⟩ nfP.stay
  have hcn:H c=none:=I.hok.fresh k2
  have han:H h'.objs.size=none:=I.hok.fresh (aQ k2 (cF k3))
  have ca:c≠h'.objs.size:=aG k3
  have Tc:T≠c:=fun z=>by rw[z,hcn] at hT; cases hT
  have Ta:T≠h'.objs.size:=fun z=>by rw[z,han] at hT; cases hT
  refine ae (eh (ae (wpAny_bindName (jC4 (v:= .ref h'.objs.size) I2 hN hj lx rfl (fun s' I'=>ag ⟨_,_,I',?_⟩) hf))))
  refine h _ c _ j7 (by rw[jD ca,j7]) (by rw[jD Ta,jD Tc,j7,Array.empty_append]) (fun b o e n=>?_) han
  rw[jD (jF e han),jD (jF e hcn),jD n]
  exact e
 ·refine PySem.W.makeFunction_hit (cv:= .ref c) hcl I.ok.glob hg hcode C (I.hok T _ hT) (by exact trivial) (by simp [codeAmong,rawInt]) (bT hT) fun ctv doc h' tk k1 k2=>?_
  have I2:=I.laidX (t':=tk) (a:=h'.objs.size) (φ:=nfP x (qualnameIn X.env x x) args body scope (kG X.env.cells scope.names []) h'.objs.size c) (h':=h'.push (fnMade x (qualnameIn X.env x x) args body scope (kG X.env.cells scope.names []) doc ((X.mg "__name__").getD .none) c ctv)) (fun b u q=>af _ (k1 b u q)) k2 ⟨doc,_,ctv,am _ rfl⟩ ⟨_,am _ rfl⟩ nfP.stay
  have han:H h'.objs.size=none:=I.hok.fresh k2
  refine ae (eh (ae (wpAny_bindName (jC4 (v:= .ref h'.objs.size) I2 hN hj lx rfl (fun s' I'=>ag ⟨_,_,I',?_⟩) hf))))
  refine h _ c _ j7 (by rw[jD (jF hc han)]; exact hc) (by rw[jD (jF hT han)]; exact hT) (fun b o e n=>?_) han
  rw[jD (jF e han)]
  exact e
end
theorem jH3 {β:Type}{x:Str} :∀ {l:List (Str×β)},(∀ v,(x,v)∉l)->l.lookup x=none
 | [],_=>rfl
 | (y,v)::r,h=>by
  rw[aM,bY.mpr (fun e=>h v (by rw[e]; exact aw))]
  exact jH3 fun w hw=>h w (aA _ hw)
theorem jCO {β:Type}{x:Str} :∀ {l m:List (Str×β)},(l++m).lookup x=(l.lookup x).or (m.lookup x)
 | [],_=>rfl
 | (y,v)::r,m=>by
  rw[List.cons_append,aM,aM,jCO]
  cases x==y <;> rfl
theorem jEV:∀ {ps:List Str}{us:List Value}{i:Nat}{x:Str}{u:Value},ps.Nodup->ps[i]?=some x->us[i]?=some u->(ps.zip us).reverse.lookup x=some u
 | [],_,_,_,_,_,h,_=>by simp at h
 | _::_,[],_,_,_,_,_,h=>by simp at h
 | p::ps,w::us,0,x,u,nd,h1,h2=>by
  simp at h1 h2
  subst h1 h2
  rw[iP,eW,jCO,jH3 fun v hv=>(b9.mp nd).1 (dI (List.mem_reverse.mp hv)).1,aM,dR]
  rfl
 | p::ps,w::us,i+1,x,u,nd,h1,h2=>by
  rw[iP,eW,jCO,jEV (i:=i) (b9.mp nd).2 (by simpa using h1) (by simpa using h2)]
  rfl
noncomputable def cxN (P:Program)(w:World)(K:W.Frag)(mg:Str->Option Value)(base:Heap)(N:List Str)(qual:Str)(scope:Scope)(f:Addr)(cd:Value)(cl:List (Str×Addr))(A:Around)(outer:List Env)(s:Shared)(H:Hp):Cx where
 prog:=P
 w:=w
 K:=K
 mg:=mg
 base:=base
 A:=A.deeper (envX qual scope s.heap.objs.size f cd cl)
 N:=N
 s₀:=s
 H₀:=H
 env:=envX qual scope s.heap.objs.size f cd cl
 outer:=outer
 stack:=envX qual scope s.heap.objs.size f cd cl::outer
 ex:=[]
 calm:=true
 fn:=fun _=>false
 pn:=[]
 xe:=fun _ _=>False
structure ClOk (cl:List (Str×Addr))(s:Shared)(H:Hp):Prop where
 inj:∀ x y c,cl.lookup x=some c->cl.lookup y=some c->x=y
 cell:∀ x c,cl.lookup x=some c->(∃ v,s.heap.IsCell c v)/\H c=none
def FvOk (fs:List Str)(fv:List V)(cl:List (Str×Addr))(s:Shared):Prop:=fv.length=fs.length/\∀ (i:Nat) (x:Str) (v:V),fs[i]?=some x->fv[i]?=some v->∃ c u,cl.lookup x=some c/\RelV v u/\s.heap.IsCell c (some u)
structure NScope (N ps fs:List Str)(sc:Scope):Prop where
 kind:sc.kind= .function
 co:sc.isCoroutine=false
 gen:sc.isGenerator=false
 nd:N.Nodup
 pre:N.take (ps.length+fs.length)=ps++fs
 par:∀ x∈ps,sc.names.lookup x=some .local
 fre:∀ x∈fs,sc.names.lookup x=some .free
 all:∀ x,sc.names.lookup x=some .free->x∈fs
 nocell:∀ y∈sc.names,y.2≠ .cell
def jDT (N:List Str)(vs fv:List V):St:=yT N (vs++fv)
variable {scope:Scope}{cd:Value}{cl:List (Str×Addr)}{fv:List V}
section
variable {K:W.Frag}{fs:List Str}{us:List Value}{vs:List V}
theorem jKX {h1:Heap}{tk:Nat}(S:NScope N ps fs scope)(hd:A.handled=none)(e0:Env0 P w K mg base A outer s H)(hl:us.length=ps.length)(r:Vals vs us)(C:ClOk cl s H)(Fv:FvOk fs fv cl s)
  (ns:h1.Ns s.heap.objs.size fun x=>(ps.zip us).reverse.lookup x) (hk:∀ b o,s.heap.get? b=some o->h1.get? b=some o):
  Inv (cxN P w K mg base N qual scope f cd cl A outer s H) [] (jDT N vs fv) H { s with heap:=h1,toks:=tk} :=by
 have hpl:ps.length+fs.length<=N.length:=by have:=cg List.length S.pre; rw[bg,aE] at this; lia
 have noA:∀ b:Addr,b∉(cxN P w K mg base N qual scope f cd cl A outer s H).ex:=fun b z=>absurd (show b∈([]:List Addr) from z) (by simp)
 have vl:vs.length=ps.length:=r.length.trans hl
 refine⟨⟨e0.mod,S.kind,rfl,rfl,ai _,C.inj,fun y hy=>?_,fun y c z=>(nomatch z),fun _=>hd,gb e0.frames, .inr ⟨rfl,rfl⟩,fun b z=>absurd z (noA b),e0.bs,e0.bsz,fun b _ _=>noA b,fun b z=>absurd z (noA b),e0.funs,e0.frf⟩,
  rfl,e0.bare,Un.kept hk,⟨_,ns,fun i y v h1' h2 h3=>?_⟩,fun y c h=>?_,e0.hok.fresh (ai _),fun y c h=>(C.cell y c h).2,fun p hp=>absurd (show p∈([]:List (Addr×Obj)) from hp) (by simp),e0.hok.kept hk,?_⟩
 ·have hy:scope.names.lookup y=some .cell\/scope.names.lookup y=some .free:=hy
  rcases hy with hy | hy
  ·exact absurd rfl (S.nocell _ (cy hy))
  ·have m:=S.all y hy
   obtain⟨i,hi⟩:=iC m
   have hi2:i<fv.length:=by rw[Fv.1]; exact(av.mp hi).1
   obtain⟨c,u,e,_⟩:=Fv.2 i y fv[i] hi (by simp [hi2])
   exact⟨c,e⟩
 ·have h1':N[i]?=some y:=h1'
  have hlen:(vs++fv).length=ps.length+fs.length:=by rw[aE,vl,Fv.1]
  have hi:i<(vs++fv).length:=by
   unfold jDT yT at h2
   by_cases hi:i<(vs++fv).length
   ·exact hi
   ·rw[cx (by simpa using hi)] at h2
    rw[g7] at h2
    split at h2 <;> cases h2
  have hv:(vs++fv)[i]?=some v:=by
   unfold jDT yT at h2
   rw[cA (by simpa using hi),ay] at h2
   cases e:(vs++fv)[i]? with
   | none=>rw[e] at h2; cases h2
   | some a=>rw[e] at h2; cases h2; rfl
  have hy:(ps++fs)[i]?=some y:=by
   rw[<- S.pre,gU (by lia)]
   exact h1'
  by_cases hi1:i<ps.length
  ·rw[cA hi1] at hy
   rw[cA (by lia)] at hv
   obtain⟨u,hu,rv⟩:=r.get hv
   have ndP:ps.Nodup:=by
    have:(ps++fs).Nodup:=by rw[<- S.pre]; exact S.nd.sublist (eR _ _)
    exact(fe.mp this).1
   exact⟨u,rv, .inl ⟨S.par y (aB hy),jEV ndP hy hu⟩⟩
  ·rw[cx (by lia)] at hy
   rw[cx (by lia),vl] at hv
   obtain⟨c,u,e,rv,o,ho,hd⟩:=Fv.2 _ y v hy hv
   exact⟨u,rv, .inr ⟨.inr (S.fre y (aB hy)),c,e,o,hk _ _ ho,hd⟩⟩
 ·obtain⟨⟨v,o,ho,hd⟩,_⟩:=C.cell y c h
  exact⟨v,o,hk _ _ ho,hd⟩
 ·unfold jDT yT
  show _=N.length
  rw[aE,ac,iu,aE,vl,Fv.1]
  lia
end
structure FnN (P:Program)(w:World)(K:W.Frag)(mg:Str->Option Value)(base:Heap)(k:Nat)(x q:Str)(args:Arguments)(body:List Stmt)(scope:Scope)(ps fs:List Str)(sp:List V->Sp):Prop where
 len:∀ fv vs H Q E,sp fv vs H Q E->vs.length=ps.length
 run:∀ (A:Around) (outer:List Env) (s:Shared) (H:Hp) (a c:Addr) (cl:List (Str×Addr)) (us:List Value) (vs fv:List V) (Q:VK) (E:XK),Room k A->Env0 P w K mg base A outer s H->nfP x q args body scope cl a c s.heap->ncP q c s.heap->ClOk cl s H->FvOk fs fv cl s->Vals vs us->sp fv vs H Q E->
  codeAny (model P w) A (.call (.ref a) ⟨us,[]⟩) (CR CX0 outer P w H s Q E) s
theorem jV3 {P:Program}{w:World}{K:W.Frag}{mg:Str->Option Value}{base:Heap}{k:Nat}{x q:Str}{args:Arguments}{body:List Stmt}{scope:Scope}{N ps fs:List Str}{sp:List V->Sp}(S:NScope N ps fs scope)(len:∀ fv vs H Q E,sp fv vs H Q E->vs.length=ps.length)
  (hb:∀ cl doc pm c ctv (us:List Value),us.length=ps.length->bindArgs (PySem.W.fnX x q args body scope cl .none .none doc pm none (.ref c) ctv) ⟨us,[]⟩=pure (ps.zip us))
  (hbody:∀ (A:Around) (outer:List Env) (s:Shared) (H:Hp) (a c:Addr) (cl:List (Str×Addr)) (vs fv:List V) (Q:VK) (E:XK),Room k (A.deeper (envX q scope s.heap.objs.size a (.ref c) cl))->sp fv vs H Q E->
   ∃ t,PSs (cxN P w K mg base N q scope a (.ref c) cl A outer s H) body t/\t { nx:=fun _ H'=>Q .non H',rt:=Q} (jDT N vs fv) H):
  FnN P w K mg base (k+1) x q args body scope ps fs sp:=by
 refine⟨len,fun A outer s H a c cl us vs fv Q E hr e0 hf hc C Fv r hsp=>?_⟩
 have hl:us.length=ps.length:=r.length.symm.trans (len _ _ _ _ _ hsp)
 obtain⟨doc,pm,ctv,ho⟩:=hf
 have lim:s.heap.NoLimit:=e0.mod.nolimit.keeps fun b o e=>(e0.bs b o e).1
 refine codeAny_call_def (body:=body) (binds:=ps.zip us) hr.depth ho rfl lim hc rfl (.of_eq (hb cl doc pm c ctv us hl)) S.nocell (fun y hy=>S.par y.1 (dI hy).1) (fun h1 ns hk=>?_) S.co S.gen S.kind
 obtain⟨t,ht,hq⟩:=hbody A outer s H a c cl vs fv Q E (hr.deeper _) hsp
 have I:Inv (cxN P w K mg base N q scope a (.ref c) cl A outer s H) [] (jDT N vs fv) H { s with heap:=h1,toks:=s.toks+(ps.zip us).length} :=jKX S hr.hd e0 hl r C Fv ns hk
 refine bC (ht [] _ (jDT N vs fv) H _ I hq) (fun fl s' hs=>?_) fun e s' hs=>False.elim hs
 have fin:∀ {σ':St}{H':Hp}{v:V}{u:Value},Inv (cxN P w K mg base N q scope a (.ref c) cl A outer s H) [] σ' H' s'->RelV v u->Q v H'->CE outer P w H s Q u s':=
  fun {σ' H' v u} J rv q=>⟨v,H',J.os,J.bare,J.base,J.hok,rv,q⟩
 cases fl with
 | ret u=>
  obtain⟨v,σ',H',J,rv,q⟩:=hs
  exact fin J rv q
 | next=>
  obtain⟨σ',H',J,q⟩:=hs
  exact fin (v:=V.non) (u:=Value.none) J rfl q
 | brk=>
  obtain⟨_,_,_,q⟩:=hs
  exact False.elim q
 | cont=>
  obtain⟨_,_,_,q⟩:=hs
  exact False.elim q
def jJ4 (σ:St)(is:List Nat)(fv:List V):Prop:=is.map (fun i=>(σ[i]?).getD none)=fv.map some
def tNest (σ0:Option St)(j:Nat)(is:List Nat)(x q:Str)(args:Arguments)(body:List Stmt)(scope:Scope)(cl:List (Str×Addr))(sp:List V->Sp)(t:TA):TE:=fun σ H Q=>∃ a,σ[j]?=some (some (.ref a))/\t σ H fun vs H1=>∃ c fv,H1 a=some (.ext (nfP x q args body scope cl a c))/\H1 c=some (.ext (ncP q c))/\jJ4 (σ0.getD σ) is fv/\sp fv vs H1 Q E0
section
variable {σ:St}{fs:List Str}{is:List Nat}
def FsAt (X:Cx)(fs:List Str)(is:List Nat):Prop:=is.length=fs.length/\∀ (k:Nat) (x:Str),fs[k]?=some x->∃ i,is[k]?=some i/\X.N[i]?=some x/\(X.env.scope.names.lookup x=some .cell\/X.env.scope.names.lookup x=some .free)
theorem Inv.clOk (I:Inv X ad σ H s)(hfree:∀ y∈scope.names,y.2= .free->X.env.scope.names.lookup y.1=some .cell\/X.env.scope.names.lookup y.1=some .free):ClOk (kG X.env.cells scope.names []) s H:=by
 have sub:∀ x c,(kG X.env.cells scope.names []).lookup x=some c->X.env.cells.lookup x=some c:=jA8 scope.names [] (fun y hy hf=>I.ok.has y.1 (hfree y hy hf)) (fun x c e=>by cases e)
 exact⟨fun x y c h1 h2=>I.ok.inj x y c (sub x c h1) (sub y c h2),fun x c h=>⟨I.cell x c (sub x c h),I.freeC x c (sub x c h)⟩⟩
theorem Inv.fvOk (I:Inv X ad σ H s)(hfree:∀ y∈scope.names,y.2= .free->X.env.scope.names.lookup y.1=some .cell\/X.env.scope.names.lookup y.1=some .free)(hfs:∀ x∈fs,scope.names.lookup x=some .free)(ha:FsAt X fs is)(hs:jJ4 σ is fv):FvOk fs fv (kG X.env.cells scope.names []) s:=by
 have hl:fv.length=fs.length:=by
  have:=cg List.length hs
  rw[ac,ac] at this
  rw[<- this,ha.1]
 refine⟨hl,fun k x v h1 h2=>?_⟩
 obtain⟨i,hi,hN,hk⟩:=ha.2 k x h1
 have e:(σ[i]?).getD none=some v:=by
  have:=cg (fun l=>l[k]?) hs
  simp only [ay,hi,h2,map_some] at this
  exact be this
 have e2:σ[i]?=some (some v):=by
  cases q:σ[i]? with
  | none=>rw[q] at e; cases e
  | some z=>rw[q] at e; exact cg some e
 obtain⟨m,hn,hl⟩:=I.loc
 obtain⟨u,r,l⟩:=hl i x v hN e2 (.inr hk)
 obtain⟨c,hc⟩:=jA9 (cells:=X.env.cells) (x:=x) scope.names [] (.inl (jA4 (hfs x (aB h1))))
 have sub:=jA8 (cells:=X.env.cells) scope.names [] (fun y hy hf=>I.ok.has y.1 (hfree y hy hf)) (fun x c e=>by cases e) x c hc
 rcases l with ⟨lk,_⟩ | ⟨_,c',hc',z⟩
 ·have lk':X.env.scope.names.lookup x=some .local:=lk
  rcases hk with z | z <;> rw[lk'] at z <;> cases z
 ·rw[sub] at hc'
  cases hc'
  exact⟨c,u,hc,r,z⟩
end
section
variable {k:Nat}{q:Str}{args:Arguments}{body:List Stmt}{fs:List Str}{is:List Nat}{sp:List V->Sp}
theorem jJ6 {Y:Cx}{ad:List (Addr×Obj)}{σ:St}{H:Hp}{s:Shared}{Q:VK}{cl:List (Str×Addr)}{a c:Addr}{us:List Value}{vs fv:List V}(F:FnN Y.prog Y.w Y.K Y.mg Y.base k x q args body scope ps fs sp)(hr:Room k Y.A)(I:Inv Y ad σ H s)(h1:H a=some (.ext (nfP x q args body scope cl a c)))(h2:H c=some (.ext (ncP q c)))(C:ClOk cl s H)(Fv:FvOk fs fv cl s)(r:Vals vs us)(hs:sp fv vs H Q E0):
  wpAny (model Y.prog Y.w) Y.A (call (.ref a) us) (EP Y ad σ Q) Y.xe s:=by
 obtain⟨p1,_,_⟩:=(show ObjOk Y.prog Y.w H s.heap a (.ext _) from I.hok a _ h1)
 obtain⟨p2,_,_⟩:=(show ObjOk Y.prog Y.w H s.heap c (.ext _) from I.hok c _ h2)
 refine fz (dF (F.run Y.A Y.stack s H a c cl us vs fv Q E0 hr I.env0 p1 p2 C Fv r hs) fun r s' hq=>?_)
 cases r with
 | error e=>exact hq.elim
 | ok fl=>
  cases fl with
  | ret u=>exact I.after hq
  | next=>exact False.elim hq
  | brk=>exact False.elim hq
  | cont=>exact False.elim hq
theorem jNU {Y:Cx}{ad:List (Addr×Obj)}{σ:St}{H:Hp}{s:Shared}{cl:List (Str×Addr)}{a c:Addr}(I:Inv Y ad σ H s)(h1:H a=some (.ext (nfP x q args body scope cl a c))):PySem.W.FnAt a s.heap:=by
 obtain⟨⟨d,m,t,e⟩,_,_⟩:=(show ObjOk Y.prog Y.w H s.heap a (.ext _) from I.hok a _ h1)
 exact⟨_,_,_,_,e⟩
theorem jT1 (F:FnN X.prog X.w X.K X.mg X.base k x q args body scope ps fs sp)(hr:Room k X.A)(hN:X.N[j]?=some x)(hv:Vis1 X x)(hfree:∀ y∈scope.names,y.2= .free->X.env.scope.names.lookup y.1=some .cell\/X.env.scope.names.lookup y.1=some .free)(hfs:∀ x∈fs,scope.names.lookup x=some .free)(hat:FsAt X fs is)
  (ha:JA X (e::es) t) (he:starEach (e::es) X.env=(false,eval e X.env)::starEach es X.env) (hdb:(x==("__debug__" :Str))=false:=by decide) (hcd:(x==("__classdict__" :Str))=false:=by decide) (hpl:(backTo pos (starEach es X.env)).any (·.1)=false:=by rfl):
  JE X (.Call (.Name x p) (e::es) [] pos) (tNest none j is x q args body scope (kG X.env.cells scope.names []) sp t):=by
 refine⟨fun ad s σ H Q I h=>?_⟩
 obtain⟨a,hj,h⟩:=h
 refine cB (iZ (jJA (pos:=p) hN hv.a hdb hcd ad s σ H (fun v H'=>v= .ref a/\H'=H) I ⟨_,hj,rfl,rfl⟩) fun v s1 ⟨v',H1,I1,r1,q1,q2⟩=>?_)
 subst q1 q2
 cases (show v=Value.ref a from r1)
 have hX:=iZ (ha.h pos ad s1 σ H1 _ I1 h) fun us s2 (z:AP X ad σ _ us s2)=>show PySem.W.FnAt a s2.heap/\wpAny (model X.prog X.w) X.A (call (.ref a) ([]++us)) (EP X ad σ Q) X.xe s2 from by
  obtain⟨vs,H2,I2,r,c,fv,h1,h2,h3,h4⟩:=z
  exact⟨jNU I2 h1,jJ6 F hr I2 h1 h2 (I2.clOk hfree) (I2.fvOk hfree hfs hat h3) r h4⟩
 rw[he] at hX ⊢
 exact iE (by show ((false || (backTo pos (starEach es X.env)).any (·.1)) || false)=false; rw[hpl]; rfl) keeps_F (cI hX)
theorem jQ2 {sc:Scope}{cl:List (Str×Addr)}{C:Addr}{Nc:List Str}{fp:List Addr}{s0:Shared}{H0:Hp}{ad0:List (Addr×Obj)}{σ0:St}(I0:Inv X ad0 σ0 H0 s0)(hfp:∀ b∈fp,FpOk X ad0 H0 b)
  (F:FnN X.prog X.w X.K X.mg X.base k x q args body scope ps fs sp) (hr:Room k X.A) (hN:Nc[j]?=some x) (hv:Vis1 (blk X sc cl C Nc fp s0 H0) x) (hfree:∀ y∈scope.names,y.2= .free->X.env.scope.names.lookup y.1=some .cell\/X.env.scope.names.lookup y.1=some .free) (hfs:∀ x∈fs,scope.names.lookup x=some .free) (hat:FsAt X fs is)
  (ha:JA (blk X sc cl C Nc fp s0 H0) (e::es) t) (he:starEach (e::es) (blk X sc cl C Nc fp s0 H0).env=(false,eval e (blk X sc cl C Nc fp s0 H0).env)::starEach es (blk X sc cl C Nc fp s0 H0).env) (hdb:(x==("__debug__" :Str))=false:=by decide) (hcd:(x==("__classdict__" :Str))=false:=by decide) (hpl:(backTo pos (starEach es (blk X sc cl C Nc fp s0 H0).env)).any (·.1)=false:=by rfl):
  JE (blk X sc cl C Nc fp s0 H0) (.Call (.Name x p) (e::es) [] pos) (tNest (some σ0) j is x q args body scope (kG X.env.cells scope.names []) sp t):=by
 have sub:∀ x c,(kG X.env.cells scope.names []).lookup x=some c->X.env.cells.lookup x=some c:=jA8 scope.names [] (fun y hy hf=>I0.ok.has y.1 (hfree y hy hf)) (fun x c e=>by cases e)
 have nfp:∀ {x c},X.env.cells.lookup x=some c->c∉fp:=fun {x c} h z=>(hfp c z).2.2.2.2.1 x c h rfl
 refine⟨fun ad s σ H Q I h=>?_⟩
 obtain⟨a,hj,h⟩:=h
 refine cB (iZ (jJA (pos:=p) (show (blk X sc cl C Nc fp s0 H0).N[j]?=some x from hN) hv.a hdb hcd ad s σ H (fun v H'=>v= .ref a/\H'=H) I ⟨_,hj,rfl,rfl⟩) fun v s1 ⟨v',H1,I1,r1,q1,q2⟩=>?_)
 subst q1 q2
 cases (show v=Value.ref a from r1)
 have hX:=iZ (ha.h pos ad s1 σ H1 _ I1 h) fun us s2 (z:AP (blk X sc cl C Nc fp s0 H0) ad σ _ us s2)=>show PySem.W.FnAt a s2.heap/\wpAny (model X.prog X.w) X.A (call (.ref a) ([]++us)) (EP (blk X sc cl C Nc fp s0 H0) ad σ Q) (blk X sc cl C Nc fp s0 H0).xe s2 from by
  obtain⟨vs,H2,I2,r,c,fv,h1,h2,h3,h4⟩:=z
  have un:Un (frs X.stack) fp H0 H2 s0.heap s2.heap:=I2.base
  have cellK:∀ {y d v},X.env.cells.lookup y=some d->s0.heap.IsCell d v->s2.heap.IsCell d v:=fun {y d v} hd ⟨o,ho,hq⟩=>by
   obtain⟨sl,e⟩:=un.any ho (I0.freeC y d hd) (nfp hd)
   exact⟨_,e,hq⟩
  have C0:=I0.clOk hfree
  obtain⟨f1,f2⟩:=I0.fvOk hfree hfs hat h3
  refine⟨jNU I2 h1,jJ6 (Y:=blk X sc cl C Nc fp s0 H0) F hr I2 h1 h2 ⟨C0.inj,fun y d hd=>?_⟩ ⟨f1,fun i y v e1 e2=>?_⟩ r h4⟩
  ·obtain⟨⟨v,z⟩,n⟩:=C0.cell y d hd
   obtain⟨o,ho,hq⟩:=id z
   exact⟨⟨v,cellK (sub y d hd) z⟩,un.free d o ho n (nfp (sub y d hd))⟩
  ·obtain⟨d,u,g1,g2,g3⟩:=f2 i y v e1 e2
   exact⟨d,u,g1,g2,cellK (sub y d g1) g3⟩
 rw[he] at hX ⊢
 exact iE (by show ((false || (backTo pos (starEach es (blk X sc cl C Nc fp s0 H0).env)).any (·.1)) || false)=false; rw[hpl]; rfl) keeps_F (cI hX)
end
def jQT (m:List (Option Nat))(wi:TI)(g:TG)(tt:TT)(te:St->TE):TE:=fun σ H Q=>wi σ H (qE m g tt (te σ) σ Q)
section
variable {te:St->TE}
theorem jPB (hc:X.calm=true)(hi:PI X tg iter wi)(hkind:sc.kind= .function)(hcell:∀ y∈sc.names,y.2≠ .cell)(hnames:∀ y∈sc.names,y.2= .local->sc.names.lookup y.1=some .local)
  (hfree:∀ y∈sc.names,y.2= .free->X.env.scope.names.lookup y.1=some .cell\/X.env.scope.names.lookup y.1=some .free) (hm:qL X sc Nc m)
  (hg:∀ cl C fp s H,PG (blk X sc cl C Nc fp s H) tg g) (ht:∀ cl C fp s H,PTs (blk X sc cl C Nc fp s H) ifs tt) (he:∀ cl C fp s H ad σ,Inv X ad σ H s->(∀ b∈fp,FpOk X ad H b)->PE (blk X sc cl C Nc fp s H) elt (te σ))
  (hs:∀ x,foldedSetIterable iter X.env x=pure x:=by intro _; rfl):PE X (.ListComp elt [⟨tg,iter,ifs,0⟩] sc pos) (jQT m wi g tt te):=by
 intro ad s σ H Q I h
 rw[gW]
 exact jGB (tf:=te) (use:=none) hc hi hkind hcell hnames hfree hm hg ht he hs I h (fun D C H5 z1 r ⟨mm,hn⟩ fC sb q=>⟨mm,hn,fun h' s2=>⟨.ref D,H5,sb h' s2,rfl,q⟩⟩)
theorem jQ5 (hc:X.calm=true)(hi:JI X tg iter wi)(hkind:sc.kind= .function)(hcell:∀ y∈sc.names,y.2≠ .cell)(hnames:∀ y∈sc.names,y.2= .local->sc.names.lookup y.1=some .local)
  (hfree:∀ y∈sc.names,y.2= .free->X.env.scope.names.lookup y.1=some .cell\/X.env.scope.names.lookup y.1=some .free) (hm:qL X sc Nc m)
  (hg:∀ cl C fp s H,JG (blk X sc cl C Nc fp s H) tg g) (ht:∀ cl C fp s H,JTs (blk X sc cl C Nc fp s H) ifs tt) (he:∀ cl C fp s H ad σ,Inv X ad σ H s->(∀ b∈fp,FpOk X ad H b)->JE (blk X sc cl C Nc fp s H) elt (te σ))
  (hs:FoOk iter):JE X (.ListComp elt [⟨tg,iter,ifs,0⟩] sc pos) (jQT m wi g tt te):=⟨jPB hc hi.h hkind hcell hnames hfree hm (fun cl C fp s H=>(hg cl C fp s H).h) (fun cl C fp s H=>(ht cl C fp s H).h) (fun cl C fp s H ad σ I f=>(he cl C fp s H ad σ I f).h) (hs.h _)⟩
end
def jVF (Ts:List Addr)(H:Hp):Prop:=∀ b,H b=none\/(∃ o xs,H b=some (.frz o (.lst xs)))\/b∈Ts
theorem jKU {cts:List (Addr×Addr)}{P:Program}{w:World}{K:W.Frag}{mg mb:Str->Option Value}{CX:CXT}{k:Nat}{fa a:Addr}{fd:FuncData}{x:Str}{sp:Sp}{s₁:Shared}{vs:List Value}{ns:List Int}
  (KX:K.In s₁.heap) (hns:s₁.heap.Ns mainGlobals mg) (hb:s₁.heap.Ns builtinsNs mb) (hbb:∀ x:Str,x≠ "__name__" ->mb x=bootBuiltins x) (hlim:s₁.heap.NoLimit) (hg:s₁.gens=#[])
  (ha:s₁.heap.get? a=some { cls:= .type "list",data:= .seq vs.toArray}) (hi:IntsAre vs ns) (hl:ns.length<=sizeLine) (hr:Room k callerA) (hT:∀ T∈cts.map (·.2),s₁.heap.get? T=some (tabObj #[])) (CH:∀ p∈cts,PySem.W.CodeHd s₁.heap p.1 p.2) (hKT:∀ T∈cts.map (·.2),K.lookup T=none)
  (F:∀ base:Heap,K.In base->base.Ns mainGlobals mg->FnOk P w K mg base CX k fa fd [x] sp) (hbind:∀ (s:Shared) (u:Value),BindsTo s fd ⟨[u],[]⟩ [(x,u)])
  (hsp:∀ H:Hp,(∀ T∈cts.map (·.2),H T=some (.tbl #[]))->SqL K H a (ns.map V.int)->sp [.ref a] H (fun v _=>v= .bl true) fun _ _ _=>False)
  (hCX:∀ H e s',CX [] H s₁ (fun _ _ _=>False) e s'->False):
  codeAny (model P w) callerA (.call (.ref fa) ⟨[.ref a],[]⟩) (fun r s'=>r= .ok (.ret (.bool true))/\OldK s₁.heap s'.heap/\s'.os=s₁.os/\AllBare s'.gens) s₁:=by
 have rv:=jGH hi
 have lenV:=hi.length
 have core:∀ H:Hp,jVF (cts.map (·.2)) H->(∀ T∈cts.map (·.2),H T=some (.tbl #[]))->SqL K H a (ns.map V.int)->HOk P w H s₁.heap->(∀ b,H b≠none->b=a\/b∈cts.map (·.2))->(H a≠none->K.lookup a=none)->
   codeAny (model P w) callerA (.call (.ref fa) ⟨[.ref a],[]⟩) (fun r s'=>r= .ok (.ret (.bool true))/\OldK s₁.heap s'.heap/\s'.os=s₁.os/\AllBare s'.gens) s₁:=by
  intro H hO hHT hS hok hA hK
  have base_of:∀ {b:Addr}{o:Obj},s₁.heap.get? b=some o->H b=none->(hidT s₁.heap H).get? b=some o:=fun e n=>jQ9 e n
  have noA:∀ {b:Addr}{o:Obj}{es:Array DictEntry}{ep:Nat},s₁.heap.get? b=some o->o.data= .dict es ep->H b=none:=fun {b o es ep} e d=>by
   cases q:H b with
   | none=>rfl
   | some u=>
    rcases hA b (by rw[q]; simp) with e' | e'
    ·subst e'
     rw[ha] at e; cases e
     have d':Data.seq vs.toArray _=Data.dict es ep:=d
     cases d'
    ·rw[hT b e'] at e; cases e
     have d':Data.fields _=Data.dict es ep:=d
     cases d'
  have nsK:∀ {b:Addr}{m:Str->Option Value},s₁.heap.Ns b m->(hidT s₁.heap H).Ns b m:=fun {b m} ⟨o,es,ep,e,d,r⟩=>⟨o,es,ep,base_of e (noA e d),d,r⟩
  have hKb:K.In (hidT s₁.heap H):=fun b o e=>base_of (KX b o e) (by
   cases q:H b with
   | none=>rfl
   | some u=>
    rcases hA b (by rw[q]; simp) with e' | e'
    ·subst e'
     rw[hK (by rw[q]; simp)] at e; cases e
    ·rw[hKT b e'] at e; cases e)
  have hM:Mod K mg (hidT s₁.heap H):=⟨hKb,nsK hns,⟨mb,nsK hb,hbb⟩,let ⟨mc,h1,h2⟩:=hlim; ⟨mc,nsK h1,h2⟩⟩
  have e0:Env0 P w K mg (hidT s₁.heap H) callerA [] s₁ H:=⟨rfl,hM,fun b o e=>jSV e,Nat.le_of_eq (jNR _ _),trivial,fun b hb=>absurd (show b∈([]:List Addr) from hb) (by simp),hok, .of_eq hg⟩
  refine dF ((F _ hKb (nsK hns)).run callerA [] s₁ H ⟨[.ref a],[]⟩ [.ref a] [.ref a] _ _ hr e0 (hbind s₁ (.ref a)) (.cons rfl .nil) (hsp H hHT hS)) fun r s' h=>?_
  cases r with
  | error e=>exact(hCX H e s' h).elim
  | ok fl=>
   cases fl with
   | next=>exact False.elim h
   | brk=>exact False.elim h
   | cont=>exact False.elim h
   | ret u=>
    obtain⟨v,H',os,bare,un,hok',r',q⟩:=h
    have q':v= .bl true:=q
    subst q'
    obtain rfl:u=Value.bool true:=r'
    have gr:∀ T∈cts.map (·.2),∃ more,s'.heap.get? T=some (tabObj (#[]++more)):=fun T hTm=>by
     obtain⟨more,z⟩:=un.tbls T _ (hHT T hTm)
     exact⟨more,hok' T _ z⟩
    have kp:∀ b o,b∉cts.map (·.2)->s₁.heap.get? b=some o->s'.heap.get? b=some o:=fun b o hbT e=>?_
    ·refine⟨rfl,⟨fun b o e=>?_,fun b o e=>?_⟩,os,bare⟩
     ·by_cases hb:b∈cts.map (·.2)
      ·obtain⟨p,hp,rfl⟩:=aV.mp hb
       have q:=hT _ hb
       rw[q] at e
       cases e
       obtain⟨more,z⟩:=gr _ hb
       exact .inr (.inl ⟨((CH p hp).tab q).isCodeTable,rfl,#[],more,rfl,z⟩)
      ·exact .inl (kp b o hb e)
     ·by_cases hb:b∈cts.map (·.2)
      ·obtain⟨more,z⟩:=gr _ hb
       exact⟨_,z⟩
      ·exact⟨o,kp b o hb e⟩
    cases q:H b with
    | none=>exact un.keep b o e q (by intro z; exact absurd (show b∈([]:List Addr) from z) (by simp)) (by simp)
    | some u=>
     rcases hO b with z | ⟨ob,xs,z⟩ | z
     ·rw[q] at z; cases z
     ·have z2:=un.frzs b ob _ z
      obtain⟨e1,_⟩:=hok b _ z
      obtain⟨e2,_⟩:=hok' b _ z2
      rw[e] at e1; cases e1
      exact e2
     ·exact absurd z hbT
 have aT:a∉cts.map (·.2):=fun z=>by rw[hT a z] at ha; cases ha
 cases hk:K.lookup a with
 | some o=>
  have e:=KX a o hk
  rw[ha] at e
  cases e
  refine core (fun b=>if b∈cts.map (·.2) then some (.tbl #[]) else none) (fun b=>?_) (fun T hm=>aD hm) (.inr ⟨_,vs.toArray,_,hk,rfl,rfl,rfl,by rw[aj,lenV]; exact hl,by simpa using rv⟩) (fun b u z=>?_) (fun b z=>?_) fun z=>absurd (aF aT) z
  ·by_cases hb:b∈cts.map (·.2)
   ·exact .inr (.inr hb)
   ·exact .inl (aF hb)
  ·by_cases hb:b∈cts.map (·.2)
   ·have z':=(aD hb).symm.trans z
    cases z'
    exact hT b hb
   ·have z':=(aF hb).symm.trans z
    cases z'
  ·by_cases hb:b∈cts.map (·.2)
   ·exact .inr hb
   ·exact absurd (aF hb) z
 | none=>
  refine core (fun b=>if b∈cts.map (·.2) then some (.tbl #[]) else if b=a then some (.frz { cls:= .type "list",data:= .seq vs.toArray} (.lst (ns.map V.int))) else none) (fun b=>?_) (fun T hm=>aD hm) (.inl (.inr ⟨{ cls:= .type "list",data:= .seq vs.toArray},by dsimp only; rw[aF aT,aD rfl]⟩)) (fun b u z=>?_) (fun b z=>?_) fun _=>hk
  ·by_cases hT':b∈cts.map (·.2)
   ·exact .inr (.inr hT')
   ·by_cases hb:b=a
    ·exact .inr (.inl ⟨_,_,by dsimp only; rw[aF hT',aD hb]⟩)
    ·exact .inl (by dsimp only; rw[aF hT',aF hb])
  ·dsimp only at z
   by_cases hT':b∈cts.map (·.2)
   ·rw[aD hT'] at z
    cases z
    exact hT b hT'
   ·rw[aF hT'] at z
    by_cases hb:b=a
    ·rw[aD hb] at z
     cases z
     subst hb
     exact⟨ha,by rw[ac]; exact hl,vs,_,rv,ha⟩
    ·rw[aF hb] at z
     cases z
  ·replace z:(if b∈cts.map (·.2) then some (HO.tbl #[]) else if b=a then some (HO.frz { cls:= .type "list",data:= .seq vs.toArray} (.lst (ns.map V.int))) else none)≠none:=z
   by_cases hT':b∈cts.map (·.2)
   ·exact .inr hT'
   ·by_cases hb:b=a
    ·exact .inl hb
    ·rw[aF hT',aF hb] at z
     exact absurd rfl z
theorem walk_ofTs {cts:List (Addr×Addr)}{l:PySem.W.OpenLaw}{n k:Nat}{q:Program}{loose:List Str}{XP:(Str->Option Value)->Heap->Prop}{YP:World->Heap->Prop}{d:DefRec}{K:Params->W.Frag}{CX:World->CXT}{sp:World->Sp}{x:Str}
  (hn:l.most=some n) (hn2:n<=sizeLine) (hdf:d.params.defaults=[]) (hr:Room k callerA)
  (hY:∀ (w:World) (h:Heap),YP w h->(K w.params).In h/\∀ T∈cts.map (·.2),h.get? T=some (tabObj #[])) (hcd:∀ w:World,∀ p∈cts,codeHdIn (K w.params) p.1 p.2=true) (hKT:∀ w:World,∀ T∈cts.map (·.2),(K w.params).lookup T=none)
  (F:∀ (w:World) (mg:Str->Option Value) (fa:Addr) (h:Heap),(K w.params).In h->h.Ns mainGlobals mg->mg d.name=some (.ref fa)->
   ∃ fd:FuncData,(∀ (s:Shared) (u:Value),BindsTo s fd ⟨[u],[]⟩ [(x,u)])/\
    ∀ base:Heap,(K w.params).In base->base.Ns mainGlobals mg->FnOk l.prog w (K w.params) mg base (CX w) k fa fd [x] (sp w))
  (hsp:∀ (w:World) (H:Hp) (a:Addr) (ns:List Int),ns.length<=n->(∀ T∈cts.map (·.2),H T=some (.tbl #[]))->SqL (K w.params) H a (ns.map V.int)->sp w [.ref a] H (fun v _=>v= .bl true) fun _ _ _=>False)
  (hCX:∀ (w:World) (H:Hp) (s:Shared) (e:Value) (s':Shared),CX w [] H s (fun _ _ _=>False) e s'->False):
  PySem.W.WalkO q loose XP YP l.row.toRowW d [] (fun f vs=>PySem.call f vs):=by
 refine Att.attach_call hn hdf fun w s₀ s₁ mg mb fa o pm cd doc a vs ns G Y ho hd _ hmg hobj hints hlen hg=>?_
 obtain⟨KX,hT⟩:=hY w _ Y
 obtain⟨fd,hb,hF⟩:=F w mg fa _ KX G.T.g hmg
 exact jKU KX G.T.g G.T.b G.T.builtins G.T.nolimit hg hobj hints (aQ hlen hn2) hr hT (fun p hp=>iF KX (hcd w p hp)) (hKT w) hF hb (fun H hO hS=>hsp w H a ns hlen hO hS) fun H e s'=>hCX w H s₁ e s'
open PySem.AutoSeq1 (wpAny_loadPart')
theorem jQC {tp:Bool}{e it l:Addr}{i:Nat}{xs:Array Value}{x old:Value}{Q:Value->Shared->Prop}(ee:IsEnum s.heap e it i old)(g1:ItAt tp s.heap it l i)(o1:ObAt tp s.heap l xs)(hx:xs[i]?=some x)(ne:e≠it)
  (k:∀ h',IsEnumOut h' e it ((i:Int)+1) x s.heap.objs.size->ItAt tp h' it l (i+1)->h'.get? s.heap.objs.size=some { cls:= .type "tuple",data:= .seq #[.int i s.toks,x]} ->h'.objs.size=s.heap.objs.size+1->
   (∀ c o,c≠e->c≠it->s.heap.get? c=some o->h'.get? c=some o)->Q (.ref s.heap.objs.size) { s with heap:=h',toks:=s.toks+1}):
  wpAny (model prog w) A (Builtin.«enumerate.__next__» ⟨[.ref e],[]⟩) (fun fin s'=>∃ v,fin= .done (.ret v)/\Q v s') E s:=by
 obtain⟨hp,g,d,tk,os⟩:=s
 show wpAny (model prog w) A (field (.ref e) 2 >>= _) _ _ _
 refine ae (bu ee rfl (x:= .ref it) rfl (ae (next1 g1 o1 hx fun p1 r1 q1=>?_)))
 have q1:Heap.SameBut it hp p1:=q1
 have e1:IsEnum p1 e it i old:=(q1.2 e ne).trans ee
 show wpAny (model prog w) A (field (.ref e) 3 >>= _) _ _ ⟨p1,g,d,tk,os⟩
 refine ae (bu e1 rfl (x:=rawInt i) rfl (?_:wpAny (model prog w) A (field (.ref e) 4 >>= _) _ _ ⟨p1,g,d,tk,os⟩))
 refine ae (bu e1 rfl (x:= .none) rfl (?_:wpAny (model prog w) A (mkInt i >>= _) _ _ ⟨p1,g,d,tk,os⟩))
 refine ae (wpAny_mkInt (?_:wpAny (model prog w) A (setField (.ref e) 3 (rawInt ((i:Int)+1)) >>= _) _ _ ⟨p1,g,d,tk+1,os⟩))
 refine ae (ck e1 (by simp) fun p2 e2 q2=>?_)
 have q2:Heap.SameBut e p1 p2:=q2
 have e2:IsEnum p2 e it ((i:Int)+1) old:=e2
 show wpAny (model prog w) A (setField (.ref e) 4 .none >>= _) _ _ ⟨p2,g,d,tk+1,os⟩
 refine ae (ck e2 (by simp) fun p3 e3 q3=>?_)
 have q3:Heap.SameBut e p2 p3:=q3
 have e3:IsEnum p3 e it ((i:Int)+1) old:=e3
 show wpAny (model prog w) A (newTuple [.int i tk,x] >>= _) _ _ ⟨p3,g,d,tk+1,os⟩
 refine ae (wpAny_newTuple ?_)
 have e4:IsEnum (p3.push { cls:= .type "tuple",data:= .seq #[.int i tk,x]}) e it ((i:Int)+1) old:=af _ e3
 have sz:p3.objs.size=hp.objs.size:=by rw[q3.1,q2.1,q1.1]
 have lt:e<hp.objs.size:=ak ee
 have t4:(p3.push { cls:= .type "tuple",data:= .seq #[.int i tk,x]}).get? hp.objs.size=some { cls:= .type "tuple",data:= .seq #[.int i tk,x]} :=by rw[<- sz]; exact am _ rfl
 have z4:(p3.push { cls:= .type "tuple",data:= .seq #[.int i tk,x]}).objs.size=hp.objs.size+1:=by rw[bG,sz]
 have k4:∀ c o,c≠e->c≠it->hp.get? c=some o->(p3.push { cls:= .type "tuple",data:= .seq #[.int i tk,x]}).get? c=some o:=fun c o n1 n2 v=>af _ (q3.extBut c o n1 (q2.extBut c o n1 (q1.extBut c o n2 v)))
 have r4:ItAt tp (p3.push { cls:= .type "tuple",data:= .seq #[.int i tk,x]}) it l (i+1):=((r1.but q2.extBut ne.symm).but q3.extBut ne.symm).at fun o v=>af _ v
 generalize p3.push { cls:= .type "tuple",data:= .seq #[.int i tk,x]} =p4 at e4 t4 z4 k4 r4 ⊢
 show wpAny (model prog w) A (Builtin.SmallTypes.ownedTupleIsFree (.ref e) >>= _) _ _ ⟨p4,g,d,tk+1,os⟩
 rw[sz]
 refine ae (by
  unfold Builtin.SmallTypes.ownedTupleIsFree
  refine ae (bu e4 rfl (x:= .none) rfl (ag ?_))
  simp only [gL]
  refine ae (eJ (ae (bu e4 rfl (x:=old) rfl (ae (ck e4 (by simp) fun p5 e5 q5=>?_)))))
  have q5:Heap.SameBut e p4 p5:=q5
  have e5:IsEnum p5 e it ((i:Int)+1) x:=e5
  refine ae (m:=Builtin.SmallTypes.ownedTupleHandOut (.ref e) (.ref hp.objs.size)) ?_
  unfold Builtin.SmallTypes.ownedTupleHandOut
  refine ae (ck e5 (by simp) fun p6 e6 q6=>?_)
  have q6:Heap.SameBut e p5 p6:=q6
  have e6:IsEnumOut p6 e it ((i:Int)+1) x hp.objs.size:=e6
  refine ck e6 (by simp) fun p7 e7 q7=>?_
  have q7:Heap.SameBut e p6 p7:=q7
  have e7:IsEnumOut p7 e it ((i:Int)+1) x hp.objs.size:=e7
  have up:∀ c o,c≠e->p4.get? c=some o->p7.get? c=some o:=fun c o n v=>q7.extBut _ _ n (q6.extBut _ _ n (q5.extBut _ _ n v))
  exact ae (wpAny_letGo (ag ⟨_,rfl,k p7 e7 (r4.at fun o v=>up _ o ne.symm v) (up _ _ (de lt) t4) (by rw[q7.1,q6.1,q5.1,z4]) fun c o n1 n2 v=>up c o n1 (k4 c o n1 n2 v)⟩)))
theorem jKJ {tp:Bool}{e it l:Addr}{i:Nat}{xs:Array Value}{x old:Value}{Q:Option Value->Shared->Prop}(ee:IsEnum s.heap e it i old)(g1:ItAt tp s.heap it l i)(o1:ObAt tp s.heap l xs)(hx:xs[i]?=some x)(ne:e≠it)
  (k:∀ h',IsEnumOut h' e it ((i:Int)+1) x s.heap.objs.size->ItAt tp h' it l (i+1)->h'.get? s.heap.objs.size=some { cls:= .type "tuple",data:= .seq #[.int i s.toks,x]} ->h'.objs.size=s.heap.objs.size+1->
   (∀ c o,c≠e->c≠it->s.heap.get? c=some o->h'.get? c=some o)->Q (some (.ref s.heap.objs.size)) { s with heap:=h',toks:=s.toks+1}):
  wpAny (model prog w) A (pyNext (.ref e)) Q E s:=by
 have ty:s.TypeIs (.ref e) "enumerate" :=⟨_,ee,rfl⟩
 unfold pyNext
 exact ae (dL (bw (name:=Str.ofString "__next__") ty F.slot_enumerate_next (bD F.slot_enumerate_next ty F.entry_enumerate_next (jQC ee g1 o1 hx ne fun h' b1 b2 b3 b4 b5=>ag (k h' b1 b2 b3 b4 b5)) (F.args_enumerate_next_1 _))))
theorem jKK {tp:Bool}{e it l:Addr}{i:Nat}{xs:Array Value}{old:Value}{Q:Option Value->Shared->Prop}(hh:A.handled=none)(ee:IsEnum s.heap e it i old)(g1:ItAt tp s.heap it l i)(o1:ObAt tp s.heap l xs)(hx:xs[i]?=none)
  (k:∀ h',(∀ c o,c≠e->c≠it->s.heap.get? c=some o->h'.get? c=some o)->Q none { s with heap:=h'}):wpAny (model prog w) A (pyNext (.ref e)) Q E s:=by
 have ty:s.TypeIs (.ref e) "enumerate" :=⟨_,ee,rfl⟩
 unfold pyNext
 refine ae (dL (bw (name:=Str.ofString "__next__") ty F.slot_enumerate_next (bD F.slot_enumerate_next ty F.entry_enumerate_next (?_:wpAny (model prog w) _ (field (.ref e) 2 >>= _) _ _ _) (F.args_enumerate_next_1 _))))
 refine ae (bu ee rfl (x:= .ref it) rfl (ae (next0 hh g1 o1 hx fun h' x kp ⟨u,eu,cu⟩=>?_)))
 exact ae (fE (T:= "StopIteration") (b:=true) ⟨u,eu,cu⟩ iz (ag (k _ fun c o _ n v=>kp c o n v)))
set_option maxHeartbeats 2000000 in
theorem jN2 (tp:Bool)(l:Addr)(xs:Array Value)(u:Obj):
  Meets (Builtin.«enumerate.__new__» ⟨[.type "enumerate", .ref l],[]⟩) (fun _ R s=>s.heap.get? l=some u/\ObAt tp s.heap l xs/\
   R (.ok (.ret (.ref (s.heap.push (iterO tp l)).objs.size))) { s with heap:=(s.heap.push (iterO tp l)).push { cls:= .type "enumerate",data:= .fields #[.none, .bool false, .ref s.heap.objs.size,rawInt 0, .none, .none]}}):=
 .of_wp fun prog w A R s h=>by
  obtain⟨hp,g,d,tk,os⟩:=s
  obtain⟨a0,a1,q⟩:=h
  have sub:=sub_enumerate
  have e1:ObAt tp (Shared.heap ⟨hp,g,d,tk,os⟩) l xs:=a1
  obtain⟨c,dct,dt,sl⟩:=u
  obtain⟨n,hc,hd⟩:∃ n,c=(if tp then .type "tuple" else .type "list")/\dt= .seq xs n:=by
   cases tp with
   | false=>obtain⟨o,e,hc,n,hd⟩:=a1; cases (a0.symm.trans e); exact⟨n,hc,hd⟩
   | true=>obtain⟨o,e,hc,n,hd⟩:=a1; cases (a0.symm.trans e); exact⟨n,hc,hd⟩
  subst hd
  cases tp with
  | false=>
   subst hc
   wp_walk using cb a0
   refine wpAny_stack_any fun _=>ag ?_
   split
   ·rename_i c _ _ _ _ _
    cases hcc:(c==Value.type "enumerate")
    all_goals (wp_walk using cb a0,jFM e1; exact⟨_,rfl,q⟩)
   ·wp_walk using cb a0,jFM e1
    exact⟨_,rfl,q⟩
  | true=>
   subst hc
   wp_walk using cb a0
   refine wpAny_stack_any fun _=>ag ?_
   split
   ·rename_i c _ _ _ _ _
    cases hcc:(c==Value.type "enumerate")
    all_goals (wp_walk using cb a0,jFM e1; exact⟨_,rfl,q⟩)
   ·wp_walk using cb a0,jFM e1
    exact⟨_,rfl,q⟩
theorem jQK {prog:Program}{w:World}{A:Around}{E:Value->Shared->Prop}{s:Shared}{tp:Bool}{l:Addr}{xs:Array Value}{Q:Value->Shared->Prop}(a1:ObAt tp s.heap l xs)
  (k:∀ h',IsEnum h' (s.heap.objs.size+1) s.heap.objs.size 0 .none->ItAt tp h' s.heap.objs.size l 0->(∀ c o,s.heap.get? c=some o->h'.get? c=some o)->Q (.ref (s.heap.objs.size+1)) { s with heap:=h'}):
  wpAny (model prog w) A (call (.type "enumerate") [.ref l]) Q E s:=by
 obtain⟨u,eu⟩:∃ u,s.heap.get? l=some u:=by
  cases tp with
  | false=>obtain⟨o,e,_⟩:=a1; exact⟨o,e⟩
  | true=>obtain⟨o,e,_⟩:=a1; exact⟨o,e⟩
 refine callType_new F.called_enumerate (by decide) (F.typeCall_enumerate_1 _) (F.newCall_enumerate_1 _) (fun obj=>F.args_object_init_2 obj _) F.entry_enumerate_new (jN2 tp l xs u) ⟨eu,a1,?_⟩
 have z1:(s.heap.push (iterO tp l)).objs.size=s.heap.objs.size+1:=bG ..
 have y2:IsEnum ((s.heap.push (iterO tp l)).push { cls:= .type "enumerate",data:= .fields #[.none, .bool false, .ref s.heap.objs.size,rawInt 0, .none, .none]}) (s.heap.push (iterO tp l)).objs.size s.heap.objs.size 0 .none:=am _ rfl
 have y1:((s.heap.push (iterO tp l)).push { cls:= .type "enumerate",data:= .fields #[.none, .bool false, .ref s.heap.objs.size,rawInt 0, .none, .none]}).get? s.heap.objs.size=some (iterO tp l):=af _ (am _ (jKW _ _))
 show _/\_
 rw[z1] at y2 ⊢
 exact⟨⟨_,y2,rfl⟩,k _ y2 (.new tp y1) fun c o e=>af _ (af _ e)⟩
def Ite (tp:Bool)(K:W.Frag)(l:Addr):It:=
 ⟨fun i H=>∃ xs x,Sq tp K H l xs/\xs[i]?=some x,
  fun i H v H'=>∃ T x,H T=none/\v= .ref T/\H'=upd H T (.tup [.int (i:Int),x])/\∀ xs,Sq tp K H l xs->xs[i]?=some x,
  fun i H=>∃ xs,Sq tp K H l xs/\xs.length<=i⟩
theorem jLL {P:Program}{w:World}{K:W.Frag}{elts:List Expr}{x1:Nat}{tps:Pos}(tp:Bool)(l e it:Addr)(ne:e≠it):
  Turn P w K (.Tuple elts x1 tps) (Ite tp K l) [e,it] e (fun i h=>(∃ old,IsEnum h e it ((i:Nat):Int) old)/\ItAt tp h it l i) where
 mem:=by simp
 obj:=fun i h st b hb=>by
  obtain⟨⟨old,he⟩,y1⟩:=st
  simp only [az,bz,dh] at hb
  rcases hb with rfl | rfl
  ·exact⟨_,he,fun v q=>by cases q⟩
  ·exact y1.obj
 keep:=fun i h h' st k=>by
  obtain⟨⟨old,he⟩,h1⟩:=st
  exact⟨⟨old,k e (by simp) _ he⟩,h1.at fun o z=>k it (by simp) o z⟩
 item:=by
  intro X hP hw hK hc i ad s σ H E I hf st hg
  subst hP hw hK
  obtain⟨xs,x,hq1,hx⟩:=hg
  obtain⟨⟨old,he⟩,h1⟩:=st
  obtain⟨its1,r1,p1,_⟩:=I.sq hq1
  obtain⟨u,hu,ru⟩:=r1.get hx
  refine jKJ he h1 p1 (x:=u) (by simpa using hu) ne fun h' a1 a2 a3 a4 a5=>?_
  refine⟨_,rfl,wpAny_letOwnedTupleGo_enum (s:= { s with heap:=h',toks:=s.toks+1}) a1 fun h'' b1 sb=>?_⟩
  have fresh:H s.heap.objs.size=none:=I.fresh
  have ntr:∀ b o,H b=some o->b∉([e,it]:List Addr):=fun b o z hb=>by
   have:=(hf b hb).1
   rw[z] at this; cases this
  have kp:∀ b o,b∉([e,it]:List Addr)->s.heap.get? b=some o->h''.get? b=some o:=fun b o hb z=>by
   simp only [az,bz,dh,iX] at hb
   exact(sb.2 b hb.1).trans (a5 b o hb.1 hb.2 z)
  have nz:s.heap.objs.size≠e:=de (ak he)
  have hT2:h''.get? s.heap.objs.size=some { cls:= .type "tuple",data:= .seq #[.int i s.toks,u]} :=(sb.2 _ nz).trans a3
  have I2:Inv X ad σ (upd H s.heap.objs.size (.tup [.int (i:Int),x])) { s with heap:=h'',toks:=s.toks+1} :=by
   refine I.step (g':=s.gens) (d':=s.drawn) (t':=s.toks+1) (ch:=[e,it]) (fun b hb=>?_) (fun b o _ _ hb z _=>kp b o hb z) (fun b o _ _ hb z _=>⟨o.slots,kp b o hb z⟩)
    (fun b o _ z n=>by rw[jD (aG (ak z))]; exact n) (fun b o hb z=>⟨o,kp b o hb z⟩) (fun b ws z=>by rw[jD (jF z fresh)]; exact z) (fun b o ws z=>by rw[jD (jF z fresh)]; exact z)
    (fun b ps z=>⟨#[],by rw[jD (jF z fresh),z]; simp⟩) (fun m hm=>?_) (fun b o z=>?_) I.bare
   ·obtain⟨f0,f1,f2,f3,f4,f5⟩:=hf b hb
    exact⟨f3,f1,f4,f5⟩
   ·obtain⟨o,es,ep,ho,r⟩:=hm
    exact⟨o,es,ep,kp _ o (fun hb=>(hf _ hb).2.1 rfl) ho,r⟩
   ·by_cases hb:b=s.heap.objs.size
    ·subst hb
     rw[j7] at z
     cases z
     exact⟨by rw[df]; show 2<=_; decide,[.int i s.toks,u], .cons ⟨_,rfl⟩ (.cons ru .nil),0,hT2⟩
    ·rw[jD hb] at z
     refine(I.hok b o z).stay (fun c w hc q=>kp c w ?_ q) (fun c q=>by rw[jD (jF q fresh)]; exact q) (fun c ws q=>by rw[jD (jF q fresh)]; exact q)
     rcases hc with rfl | hc
     ·exact ntr _ _ z
     ·exact ntr _ _ hc
  refine⟨.ref s.heap.objs.size,_,I2,rfl,⟨_,x,fresh,rfl,rfl,fun xs' q1=>by rw[I.sq_inj q1 hq1]; exact hx⟩,⟨⟨_,b1⟩,?_⟩,fun b hb=>?_⟩
  ·exact a2.at fun o z=>(sb.2 it ne.symm).trans z
  ·rw[jD (fun q=>by
    obtain⟨o,eo⟩:∃ o,s.heap.get? b=some o:=by
     simp only [az,bz,dh] at hb
     rcases hb with rfl | rfl
     ·exact⟨_,he⟩
     ·obtain⟨o,z,_⟩:=h1.obj; exact⟨o,z⟩
    exact absurd (ak eo) (by rw[q]; exact bV _))]
   exact(hf b hb).1
 done:=by
  intro X hP hw hK hc i ad s σ H E I hf st hg
  subst hP hw hK
  obtain⟨xs,hq1,hend⟩:=hg
  obtain⟨⟨old,he⟩,h1⟩:=st
  obtain⟨its1,r1,p1,_⟩:=I.sq hq1
  have e1:=r1.length
  refine jKK (I.ok.hd hc) he h1 p1 (by simp; lia) fun h' kp=>⟨rfl,?_⟩
  have kp2:∀ b o,b∉([e,it]:List Addr)->s.heap.get? b=some o->h'.get? b=some o:=fun b o hb z=>by
   simp only [az,bz,dh,iX] at hb
   exact kp b o hb.1 hb.2 z
  have ntr:∀ b o,H b=some o->b∉([e,it]:List Addr):=fun b o z hb=>by
   have:=(hf b hb).1
   rw[z] at this; cases this
  refine I.step (g':=s.gens) (d':=s.drawn) (t':=s.toks) (ch:=[e,it]) (fun b hb=>?_) (fun b o _ _ hb z _=>kp2 b o hb z) (fun b o _ _ hb z _=>⟨o.slots,kp2 b o hb z⟩)
   (fun b o _ z n=>n) (fun b o hb z=>⟨o,kp2 b o hb z⟩) (fun b ws z=>z) (fun b o ws z=>z) (fun b ps z=>⟨#[],by rw[z]; simp⟩) (fun m hm=>?_) (fun b o z=>?_) I.bare
  ·obtain⟨f0,f1,f2,f3,f4,f5⟩:=hf b hb
   exact⟨f3,f1,f4,f5⟩
  ·obtain⟨o,es,ep,ho,r⟩:=hm
   exact⟨o,es,ep,kp2 _ o (fun hb=>(hf _ hb).2.1 rfl) ho,r⟩
  ·refine(I.hok b o z).stay (fun c w hc q=>kp2 c w ?_ q) (fun _ q=>q) fun _ _ q=>q
   rcases hc with rfl | hc
   ·exact ntr _ _ z
   ·exact ntr _ _ hc
 self:=fun _ _ _ _ _ st h=>wpAny_pyIter_enum st.1.choose_spec h
def iEnum (K:W.Frag)(ta:TA):TI:=fun σ H R=>ta σ H fun vs H1=>∃ tp l,vs=[.ref l]/\(∃ xs,Sq tp K H1 l xs)/\R (Ite tp K l) H1
theorem jS7 {a:Expr}{ta:TA}{p pos:Pos}{elts:List Expr}{x1:Nat}{tp:Pos}(hg:Gl X "enumerate")(hm:X.mg "enumerate" =none)(ha:PA X [a] ta)(hv:bootBuiltins "enumerate" =some (.type "enumerate"):=by decide+kernel)
  (he:starEach [a] X.env=(false,eval a X.env)::starEach [] X.env:=by rfl) (hpl:(backTo pos (starEach [] X.env)).any (·.1)=false:=by rfl):
  PI X (.Tuple elts x1 tp) (.Call (.Name "enumerate" p) [a] [] pos) (iEnum X.K ta):=by
 intro ad s σ H R I h
 refine Call_ (jEA I hg hm hv (cq (iZ (ha pos ad s σ H _ I h) fun us s1 ⟨vs,H1,I1,r1,q1⟩=>?_) he hpl))
 obtain⟨t1,l1,rfl,⟨xs,hq1⟩,q⟩:=q1
 obtain⟨u,rfl,ru⟩:=r1.one
 cases ru
 obtain⟨its1,_,p1,_⟩:=I1.sq hq1
 refine jQK p1 fun h' a1 a2 kp=>?_
 have I2:Inv X ad σ H1 { s1 with heap:=h'} :=I1.kept (t':=s1.toks) kp
 refine wpAny_pyIter_enum a1 ⟨s1.heap.objs.size+1,[s1.heap.objs.size+1,s1.heap.objs.size],_,Ite t1 X.K l1,H1,rfl,I2,jLL t1 l1 _ _ (Nat.succ_ne_self _),⟨⟨_,a1⟩,a2⟩,fun b hb=>?_,q⟩
 have hge:s1.heap.objs.size<=b:=by
  simp only [az,bz,dh] at hb
  rcases hb with rfl | rfl
  ·exact Nat.le_add_right _ 1
  ·exact ai _
 exact I1.fpOk hge (I1.hok.fresh hge)
theorem jG2 {a:Expr}{t:TA}{p pos:Pos}{elts:List Expr}{x1:Nat}{tp:Pos}(hg:Gl1 X "enumerate")(hm:X.mg "enumerate" =none)(ha:JA X [a] t)(he:starEach [a] X.env=(false,eval a X.env)::starEach [] X.env)(hv:bootBuiltins "enumerate" =some (.type "enumerate"):=by decide+kernel)
  (hpl:(backTo pos (starEach [] X.env)).any (·.1)=false:=by rfl):JI X (.Tuple elts x1 tp) (.Call (.Name "enumerate" p) [a] [] pos) (iEnum X.K t):=⟨jS7 hg.a hm ha.h hv he hpl⟩
variable {H1:Hp}{Q:VK}
section
variable {K:W.Frag}{σ:St}
theorem jCG {tp:Bool}{l:Addr}{xs:List V}(hn:xs.length<sizeLine)(Pv:Addr->Nat->St->Hp->List V->Prop)(h0:∀ D,H1 D=none->Pv D 0 (blkσ m σ) (upd H1 D (.lst [])) [])
  (hD:∀ D i σ' H' zs,H1 D=none->Pv D i σ' H' zs->Sq tp K H' l xs/\H' D=some (.lst zs)/\zs.length<=i)
  (hs:∀ D i σ' H' zs x T,H1 D=none->xs[i]?=some x->H' T=none->Pv D i σ' H' zs->g (.ref T) σ' (upd H' T (.tup [.int (i:Int),x])) fun σ2 H2=>tt σ2 H2 fun b H3=>if b=true then te σ2 H3 fun v H4=>H4 D=some (.lst zs)/\Pv D (i+1) σ2 (upd H4 D (.lst (zs++[v]))) (zs++[v]) else Pv D (i+1) σ2 H3 zs)
  (hd:∀ D σ' H' zs,H1 D=none->Pv D xs.length σ' H' zs->Q (.ref D) H'):qE m g tt te σ Q (Ite tp K l) H1:=by
 intro D hDn
 refine⟨fun i k σ' H' zs=>k=xs.length - i/\i<=xs.length/\Pv D i σ' H' zs,⟨_,rfl,bh _,h0 D hDn⟩,?_⟩
 rintro i k σ' H' zs ⟨rfl,hi,p⟩
 obtain⟨s1,q1,q2⟩:=hD D i σ' H' zs hDn p
 refine⟨q1,by lia,?_⟩
 by_cases hlt:i<xs.length
 ·refine .inr ⟨⟨xs,xs[i],s1,by simp [hlt]⟩,Pv D (i+1),fun σ2 H2 zs z=>⟨xs.length - (i+1),by lia,rfl,hlt,z⟩,fun v H'' y=>?_⟩
  obtain⟨T,x,e1,e2,e3,e4⟩:=y
  subst e2 e3
  exact hs D i σ' _ zs x T hDn (e4 xs s1) e1 p
 ·have e:i=xs.length:=by lia
  subst e
  exact .inl ⟨⟨xs,s1,ai _⟩,hd D σ' H' zs hDn p⟩
end
section
variable {κ:Type} [DecidableEq κ]
def valV (iY:List (κ×V))(k:κ):Option V:=(iY.find? fun kv=>decide (kv.1=k)).map (·.2)
theorem jFA {p:κ×V}{r:List (κ×V)}{k:κ}(e:p.1=k):valV (p::r) k=some p.2:=by simp [valV,cP,e]
theorem jIY {p:κ×V}{r:List (κ×V)}{k:κ}(e:¬ p.1=k):valV (p::r) k=valV r k:=by simp [valV,cP,e]
theorem RelO.isSome_eq {o:Option V}{u:Option Value}(r:RelO o u):o.isSome=u.isSome:=by
 cases o with
 | none=>cases u with
  | none=>rfl
  | some _=>exact(show False from r).elim
 | some _=>cases u with
  | none=>exact(show False from r).elim
  | some _=>rfl
theorem KV.val {iY:List (κ×V)}{vs:List (κ×Value)}(r:KV iY vs)(k:κ):RelO (valV iY k) (valueAt vs k):=by
 unfold KV at r
 induction r with
 | nil=>exact True.intro
 | @cons p q ps qs h t ih=>
  obtain⟨h1,h2⟩:=h
  by_cases e:p.1=k
  ·have e':q.1=k:=h1.symm.trans e
   have b:valueAt (q::qs) k=some q.2:=by simp [valueAt,cP,e']
   rw[jFA e,b]; exact h2
  ·have e':¬ q.1=k:=fun z=>e (h1.trans z)
   have b:valueAt (q::qs) k=valueAt qs k:=by simp [valueAt,cP,e']
   rw[jIY e,b]; exact ih
theorem KV.keys {iY:List (κ×V)}{vs:List (κ×Value)}(r:KV iY vs):iY.map (·.1)=vs.map (·.1):=by
 unfold KV at r
 induction r with
 | nil=>rfl
 | cons h t ih=>rw[bA,bA,ih,h.1]
end
theorem kV_is {P:Program}{w:World}{k:Key}{u:Value}(r:RelV (kV k) u):(qJ P w).is k u=true:=by
 cases k with
 | inl i=>obtain⟨t,e⟩:=(show ∃ t,u=Value.int i t from r); subst e; exact jIG P w i t
 | inr x=>obtain⟨t,e⟩:=(show ∃ t,u=Value.str x t from r); subst e; exact jIF P w x t
theorem jHA {P:Program}{w:World} :∀ {ks:List Key}{us:List Value},Vals (ks.map kV) us->ItemsAre (qJ P w) ks us
 | [],_,r=>by rw[eX] at r; cases r; exact .nil
 | k::ks,_,r=>by
  rw[bA] at r
  cases r with
  | cons h t=>exact .cons (kV_is h) (jHA t)
abbrev KT (H:Hp):List (List Key×V)->List (List Key×Addr×Value)->Prop:=Paired fun p q=>p.1=q.1/\H q.2.1=some (.tup (p.1.map kV))/\RelV p.2 q.2.2
theorem KT.val {H:Hp}{iY:List (List Key×V)}{xs:List (List Key×Addr×Value)}(r:KT H iY xs)(k:List Key):RelO (valV iY k) ((atKey xs k).map (·.2)):=by
 induction r with
 | nil=>exact True.intro
 | @cons p q ps qs h t ih=>
  obtain⟨h1,_,h2⟩:=h
  by_cases e:p.1=k
  ·have e':q.1=k:=h1.symm.trans e
   have b:atKey (q::qs) k=some q.2:=by simp [atKey,cP,e']
   rw[jFA e,b]; exact h2
  ·have e':¬ q.1=k:=fun z=>e (h1.trans z)
   have b:atKey (q::qs) k=atKey qs k:=by simp [atKey,cP,e']
   rw[jIY e,b]; exact ih
theorem rd_of {u:HO}(ok:HOk P w H h)(e:Rd H a u):ObjOk P w H h a u:=e.ok ok
theorem dk_rd {iY:List (Key×V)}(ok:HOk P w H h)(e:Rd H a (.dK iY)):iY.length<=sizeLine/\(a==sysModules)=false/\∃ vs,KV iY vs/\h.DictOf (qJ P w) a vs:=
 show ObjOk P w H h a (.dK iY) from rd_of ok e
theorem jN8 {ks:List Key}(ok:HOk P w H h)(e:H a=some (.tup (ks.map kV))):(tupleKind (qJ P w)).is h ks a:=by
 obtain⟨_,its,r,p⟩:=(show ObjOk P w H h a (.tup (ks.map kV)) from ok a _ e)
 obtain⟨o,h1,h2,n,h3⟩:=p.isTup
 exact⟨o,its.toArray,n,h1,h2,h3,by simpa using jHA r⟩
theorem dt_rd {iY:List (List Key×V)}(ok:HOk P w H h)(e:Rd H a (.dT iY)):iY.length<=sizeLine/\(a==sysModules)=false/\
  ∃ xs,KT H iY xs/\h.DictOfH (tupleKind (qJ P w)) a xs:=by
 obtain⟨z,y,xs,r,o,es,ep,h1,h2,h3,h4,h5⟩:=(show ObjOk P w H h a (.dT iY) from rd_of ok e)
 refine⟨z,y,xs,r,o,es,ep,h1,h2,h3,h4,fun x hx=>?_,h5⟩
 have all:∀ {l:List (List Key×V)}{m:List (List Key×Addr×Value)},KT H l m->∀ x∈m,(tupleKind (qJ P w)).is h x.1 x.2.1:=by
  intro l m q
  induction q with
  | nil=>intro x hx; exact nomatch hx
  | @cons p q ps qs hq t ih=>
   intro x hx
   rcases az.mp hx with e | hx
   ·subst e
    exact jN8 ok (by rw[<- hq.1]; exact hq.2.1)
   ·exact ih x hx
 exact all r x hx
def DGet (H:Hp)(a:Addr)(y:V)(r:Option V):Prop:=
 (∃ iY k,Rd H a (.dK iY)/\y=kV k/\r=valV iY k)\/∃ iY k b,Rd H a (.dT iY)/\y= .ref b/\H b=some (.tup (k.map kV))/\r=valV iY k
theorem DGet.k {H:Hp}{a:Addr}{iY:List (Key×V)}{k:Key}(e:H a=some (.dK iY)):DGet H a (kV k) (valV iY k):= .inl ⟨iY,k, .inl e,rfl,rfl⟩
variable {y:V}{u r:Value}
section
variable {σ:St}{v:V}{o:Option V}
theorem Inv.big (I:Inv X ad σ H s):sysModules<s.heap.objs.size:=by
 have h:mainGlobals<s.heap.objs.size:=(I.mod.glob.keeps I.bk).lt
 exact dG (by decide) h
theorem jO1 {Q:Value->Shared->Prop}(hu:A.units+1<cLine)(I:Inv X ad σ H s)(g:DGet H a y (some v))(ry:RelV y u)(h:∀ w' s',Inv X ad σ H s'->RelV v w'->Q w' s'):
  wpAny (model X.prog X.w) A (getItem (.ref a) u) Q E s:=by
 rcases g with ⟨iY,k,e,ey,l⟩ | ⟨iY,k,b,e,ey,eb,l⟩
 ·subst ey
  obtain⟨z,hd,vs,rel,dd⟩:=dk_rd I.hok e
  obtain⟨w',hw,rw'⟩:=RelO.some_of (v:=v) (o:=valueAt vs k) (by rw[l]; exact rel.val k)
  exact wpAny_getItem_of (kV_is ry) dd.mapOf hw (h w' _ (I.tok _) rw')
 ·subst ey
  cases (show u=Value.ref b from ry)
  obtain⟨z,hd,xs,rel,dd⟩:=dt_rd I.hok e
  obtain⟨w',hw,rw'⟩:=RelO.some_of (v:=v) (o:=(atKey xs k).map (·.2)) (by rw[l]; exact rel.val k)
  obtain⟨p,hp,hp2⟩:=ff.mp hw
  refine wpAny_getItem_heap (tupleKind_room_in1 hu) (jN8 I.hok eb) dd hp ?_
  rw[hp2]
  exact h w' _ (I.tok _) rw'
theorem d_in {Q:Value->Shared->Prop}(hu:A.units+1<cLine)(I:Inv X ad σ H s)(g:DGet H a y o)(ry:RelV y u)(h:∀ s',Inv X ad σ H s'->Q (.bool o.isSome) s'):
  wpAny (model X.prog X.w) A (compareOp .In u (.ref a)) Q E s:=by
 rcases g with ⟨iY,k,e,ey,l⟩ | ⟨iY,k,b,e,ey,eb,l⟩
 ·subst ey
  obtain⟨z,hd,vs,rel,dd⟩:=dk_rd I.hok e
  refine wpAny_in_of (kV_is ry) hd dd.mapOf ?_
  rw[<- (rel.val k).isSome_eq,<- l]
  exact h _ (I.tok _)
 ·subst ey
  cases (show u=Value.ref b from ry)
  obtain⟨z,hd,xs,rel,dd⟩:=dt_rd I.hok e
  refine wpAny_in_heap (tupleKind_room_in1 hu) (jN8 I.hok eb) hd dd ?_
  have q:=(rel.val k).isSome_eq
  rw[Option.isSome_map] at q
  rw[<- q,<- l]
  exact h _ (I.tok _)
end
variable {iY:List (Key×V)}
section
variable {σ:St}{k:Key}
end
def NoSl (i:Expr):Prop:=∀ ov iv,subscripted i false ov iv=operate [ov,iv] (getItem ov iv)
theorem jRP {prog:Program}{w:World}{A:Around}{E:Value->Shared->Prop}{s:Shared}{env:Env}{value slice:Expr}{pos:Pos}{T id:String}{Q:Value->Shared->Prop}
  (hl:typeLookup (.type T) "__getitem__" =pure (some (.builtin id))) (hs:NoSl slice)
  (h:wpAny (model prog w) A (eval value env) (fun o s₁=>wpAny (model prog w) A (eval slice env) (fun i s₂=>s₂.TypeIs o T/\wpAny (model prog w) A (getItem o i) Q E s₂) E s₁) E s):
  wpAny (model prog w) A (eval (.Subscript value slice pos) env) Q E s:=by
 refine Subscript_ (bC h (fun o s₁ h₁=>bC h₁ (fun i s₂ h₂=>?_) fun _ _ x=>x) fun _ _ x=>x)
 obtain⟨hT,h₂⟩:=h₂
 unfold subscriptTail
 refine ae ?_
 rw[getitemInPython_of_ne hT.not_modules]
 refine ae (wpAny_specialOf hT hl ?_)
 have fin:wpAny (model prog w) A (subscripted slice false o i) (fun r s₃=>wpAny (model prog w) A (letTemporaryGo value o r >>= fun _=>pure r) Q E s₃) E s₂:=by
  rw[hs o i]
  exact wpAny_operating (bC h₂ (fun r s₃ h₃=>ae (wpAny_letTemporaryGo (ag h₃))) fun _ _ x=>x)
 first
  | exact ag (ae fin)
  | exact ae (ag (ae fin))
  | exact ae fin
theorem jIP {X:Cx}{ad:List (Addr×Obj)}{σ:St}{H:Hp}{s:Shared}{a:Addr}{y:V}{o:Option V}(I:Inv X ad σ H s)(g:DGet H a y o):s.TypeIs (.ref a) "dict" :=by
 rcases g with ⟨iY,k,e,_,_⟩ | ⟨iY,k,b,e,_,_,_⟩
 ·obtain⟨_,_,vs,_,dd⟩:=dk_rd I.hok e
  exact dd.typeIs
 ·obtain⟨_,_,xs,_,dd⟩:=dt_rd I.hok e
  exact dd.typeIs
def tDGet (td ty:TE):TE:=fun σ H Q=>td σ H fun x H1=>ty σ H1 fun y H2=>∃ a v,x= .ref a/\DGet H2 a y (some v)/\Q v H2
def tDIn (ty td:TE):TE:=fun σ H Q=>ty σ H fun y H1=>td σ H1 fun x H2=>∃ a o,x= .ref a/\DGet H2 a y o/\Q (.bl o.isSome) H2
variable {o value:Expr}{pos':Pos}{td tv:TE}
section
variable {i:Expr}{tpos:Pos}{ty:TE}
theorem jSA (hu:X.A.units+1<cLine)(ho:PE X o td)(hi:PE X i ty)(hs:NoSl i):PE X (.Subscript o i pos) (tDGet td ty):=by
 intro ad s σ H Q I h
 refine jRP PySem.F.slot_dict_getitem.lookup hs (iZ (ho ad s σ H _ I h) fun u s1 ⟨x,H1,I1,rx,q1⟩=>iZ (hi ad s1 σ H1 _ I1 q1) fun iv s2 ⟨y,H2,I2,ry,a,v,ex,g,q2⟩=>?_)
 subst ex
 obtain rfl:u=Value.ref a:=rx
 exact⟨jIP I2 g,jO1 hu I2 g ry fun w' s3 I3 rw'=>⟨v,H2,I3,rw',q2⟩⟩
theorem jUA (hu:X.A.units+1<cLine)(hi:PE X i ty)(ho:PE X o td):PC X .In i o (tDIn ty td):=by
 intro ad s σ H Q I h
 refine iZ (hi ad s σ H _ I h) fun iv s1 ⟨y,H1,I1,ry,q1⟩=>iZ (ho ad s1 σ H1 _ I1 q1) fun u s2 ⟨x,H2,I2,rx,a,ov,ex,g,q2⟩=>?_
 subst ex
 obtain rfl:u=Value.ref a:=rx
 exact d_in hu I2 g ry fun s3 I3=>⟨.bl ov.isSome,H2,I3,rfl,q2⟩
end
section
variable {σ:St}{d:V}{o:Option V}
end
variable {apos:Pos}{tx:TE}
section
variable {f:Expr}{ty:TE}
end
section
variable {σ:St}
end
section
variable {σ:St}
end
section
variable {κ:Type} [DecidableEq κ]
end
section
variable {d:Addr}{iY:List (Key×Value)}
end
section
variable {i f:Expr}{ty:TE}
theorem jT2 (hu:X.A.units+1<cLine)(ho:JE X o td)(hi:JE X i ty)(hs:jBJ i):JE X (.Subscript o i pos) (tDGet td ty):=⟨jSA hu ho.h hi.h hs⟩
end
theorem jGI:entryFor table "dict.update.loop" =some Builtin.«dict.update.loop»:=g9 (by kernel_rfl)
theorem jC2:plainId "dict.update.loop" =true:=by decide+kernel
theorem jH4:typeLookup (.type "list") "keys" =pure none:=am_miss_of_fast (by kernel_rfl)
theorem jE9:typeLookup (.type "list") "__getattr__" =pure none:=am_miss_of_fast (by kernel_rfl)
theorem jN1 (a:Addr)(name:Str)(u:Tok)(hmiss:typeLookup (.type "list") name=pure none)(hsz:name.length+100<=sizeLine)(hgd: [Str.ofString "__module__",Str.ofString "__name__",Str.ofString "__qualname__",Str.ofString "__doc__",Str.ofString "__annotations__"].contains name=false):Meets (Builtin.«object.__getattribute__» ⟨[.ref a, .str name u],[]⟩) (fun A R s=>(∃ its n,s.heap.get? a=some { cls:= .type "list",data:= .seq its n})/\raisesAttr (.ref a) name A R s):=
 Meets.of_wp fun prog w A R s hs=>by
  obtain⟨⟨its,n,ho⟩,hs⟩:=hs
  obtain⟨hp,g,d,tk,os⟩:=s
  have hT:(⟨hp,g,d,tk,os⟩:Shared).TypeIs (.ref a) "list" :=⟨_,ho,rfl⟩
  unfold Builtin.«object.__getattribute__»
  repeat (any_goals (first | assumption | wp_step))
  rw[hgd,aF ar]
  repeat (any_goals (first | assumption | wp_step))
  exact wpAny_raiseAttrError hs.1 hs.2 (attrMsg_fits (by decide+kernel) hsz)
theorem jN7 {a:Addr}{name:Str}(hmiss:typeLookup (.type "list") name=pure none)(hsz:name.length+100<=sizeLine)(hgd: [Str.ofString "__module__",Str.ofString "__name__",Str.ofString "__qualname__",Str.ofString "__doc__",Str.ofString "__annotations__"].contains name=false){its:Array Value}{n:Nat}{Q:Option Value->Shared->Prop}(hA:A.handled=none)(ho:s.heap.get? a=some { cls:= .type "list",data:= .seq its n})
  (h:∀ h' tk,(∀ b u,s.heap.get? b=some u->h'.get? b=some u)->Q none { s with heap:=h',toks:=tk}):wpAny (model prog w) A (getAttr? (.ref a) name) Q E s:=by
 obtain⟨hp,g,d,tk,os⟩:=s
 have hT:∀ tk',(⟨hp,g,d,tk',os⟩:Shared).TypeIs (.ref a) "list" :=fun _=>⟨_,ho,rfl⟩
 have f1:=sub_AttributeError
 have f3:=F.slot_list_getattribute.lookup
 have f4:=F.slot_list_getattribute.bind (.ref a)
 have f5:=jE9
 unfold getAttr? getAttrBy? getAttrBy
 repeat (any_goals (first | assumption | ((with_reducible show wpAny _ _ (call (Value.builtin "list.__getattribute__") _ _) _ _ _); refine gC F.slot_list_getattribute (hT _) F.entry_list_ga (F.args_list_getattribute_2 _ _) (jN1 a name _ hmiss hsz hgd) ⟨⟨its,n,ho⟩,hA,fun h' tk' e hx=>?_⟩) | wp_step))
 obtain⟨t',u',he⟩:=hx.there
 show wpAny _ _ (getattributeRaised _ _ _ _ _ _ _) _ _ _
 unfold getattributeRaised
 repeat (any_goals (first | assumption | wp_step))
 exact h _ _ fun b u q=>hx.keeps b u q
theorem jKN {a:Addr}{k v:Value}{m:Nat}{Q:List Value->Shared->Prop}(ho:s.heap.get? a=some { cls:= .type "tuple",data:= .seq #[k,v] m})(h:Q [k,v] s):wpAny (model prog w) A (Builtin.Dict.pairItems (.ref a)) Q E s:=by
 obtain⟨hp,g,d,tk,os⟩:=s
 have hT:(⟨hp,g,d,tk,os⟩:Shared).TypeIs (.ref a) "tuple" :=⟨_,ho,rfl⟩
 unfold Builtin.Dict.pairItems
 repeat (any_goals (first | assumption | wp_step))
section
variable {prog:Program}{w:World}{K:Type} [DecidableEq K]{knd:KeyKind prog w K}{A:Around}{R:Result->Shared->Prop}{I:Addr}{fp wr:List Addr}{n:Nat}{P:Nat->Value->Prop}{St:Nat->Shared->Prop}
def jKA (knd:KeyKind prog w K)(h:Heap)(a:Addr)(p:K×Value):Prop:=∃ key m,h.get? a=some { cls:= .type "tuple",data:= .seq #[key,p.2] m} /\knd.is p.1 key=true
theorem upl (W:WalksS prog w A.in1 I fp wr (fun a b=>b=a) n P St)(d:Addr)(hd:d∉fp)(more:List (K×Value))(hmn:more.length=n)(pa:Nat->Addr)(hpd:∀ i,i<n->pa i≠d/\pa i∉wr)(hP:∀ i v,P i v->v= .ref (pa i))(hn:n<=sizeLine):
  ∀ (k i:Nat) (z:Int) (s:Shared),n - i=k->i<=n->St i s->s.heap.DictOf knd d (merged [] (more.take i))->(∀ j p,more[j]?=some p->jKA knd s.heap (pa j) p)->
   (∀ s',Moved (d::wr) (fun a b=>b=a) s s'->s'.heap.DictOf knd d (merged [] more)->R (.ok (.ret .none)) s')->
   codeAny (model prog w) A (.builtin "dict.update.loop" ⟨[.ref d, .ref I,rawInt z, .none],[]⟩) R s:=by
 have hdw:d∉wr:=fun h=>hd (W.sub _ h)
 have sub1:∀ b∈wr,b∈d::wr:=fun b hb=>aA _ hb
 intro k
 induction k with
 | zero=>
  intro i z s hk hi hst hS hp hR
  obtain rfl:i=n:=by lia
  refine bO jGI ?_
  rw[bR jC2 _]
  show wpAny _ A.in1 (pyNext (.ref I) >>= _) _ _ s
  refine ae (W.done s _ _ hst fun s' mv=>?_)
  show wpAny _ A.in1 (Builtin.Dict.addKeywords d [] >>= fun _=>ret Value.none) _ _ s'
  refine ae (ag (ag (hR s' (mv.mono sub1) ?_)))
  obtain⟨o,es,ep,ho,r⟩:=hS
  rw[<- hmn,aO] at r
  exact⟨o,es,ep,mv.heap d o hdw ho,r⟩
 | succ k ih=>
  intro i z s hk hi hst hS hp hR
  have hlt:i<n:=by lia
  refine bO jGI ?_
  rw[bR jC2 _]
  show wpAny _ A.in1 (pyNext (.ref I) >>= _) _ _ s
  refine ae (W.item i s _ _ hlt hst fun v s' hPv hst' mv=>?_)
  obtain rfl:=hP i v hPv
  have hS':s'.heap.DictOf knd d (merged [] (more.take i)):=by
   obtain⟨o,es,ep,ho,r⟩:=hS
   exact⟨o,es,ep,mv.heap d o hdw ho,r⟩
  have hp':∀ j p,more[j]?=some p->jKA knd s'.heap (pa j) p:=fun j p hj=>by
   obtain⟨key,m,e,q⟩:=hp j p hj
   have hjn:j<n:=by rw[<- hmn]; exact(av.mp hj).1
   exact⟨key,m,mv.heap _ _ (hpd j hjn).2 e,q⟩
  obtain⟨p,hpi⟩:∃ p,more[i]?=some p:=⟨more[i],by simp [hmn,hlt]⟩
  obtain⟨key,m,e1,hk1⟩:=hp' i p hpi
  show wpAny _ A.in1 (holding [Value.ref (pa i)] _ >>= _) _ _ s'
  refine ae (br (ae ?_))
  refine wpAny_tryCatch (jKN e1 ?_)
  refine br (wpAny_dictSet_pairs hk1 hS' (fun h' hd' sb=>?_) (by
   have:=merged_length_le (K:=K) [] (more.take i)
   have h2:=aX i more
   have:(merged [] (more.take i)).length<=i:=by
    refine aQ (merged_length_le (K:=K) [] (more.take i)) ?_
    simp only [eH,Nat.zero_add]
    exact aX _ _
   lia))
  refine ag ⟨dJ jC2 _,ih (i+1) (z+1) _ (by lia) hlt (W.frame _ s' _ _ hst' (dO _) fun b hb o e=>?_) ?_ (fun j p hj=>?_) fun s'' mv2 hS3=>?_⟩
  ·rw[sb.2 b (fun h:b=d=>hd (by rw[<- h]; exact hb))]
   exact e
  ·rw[merged_take_succ _ _ _ _ hpi]
   exact hd'
  ·obtain⟨key,m,e,q⟩:=hp' j p hj
   have hjn:j<n:=by rw[<- hmn]; exact(av.mp hj).1
   exact⟨key,m,by show h'.get? _=_; rw[sb.2 _ (hpd j hjn).1]; exact e,q⟩
  ·refine hR s'' (Moved.trans W.gtrans ((mv.mono sub1).then_heap (dO _) fun b o hb e=>?_) mv2) hS3
   rw[sb.2 b (fun h:b=d=>hb (by rw[h]; exact aw))]
   exact e
end
section
variable {prog:Program}{w:World}{K:Type} [DecidableEq K]{knd:KeyKind prog w K}{A:Around}{E:Value->Shared->Prop}{s:Shared}
theorem jEP {l:Addr}{its:List Value}{nl:Nat}{more:List (K×Value)}{Q:Value->Shared->Prop}(hA:A.handled=none)(hl:s.heap.get? l=some { cls:= .type "list",data:= .seq its.toArray nl})(hsz:its.length<=sizeLine)
  (pa:Nat->Addr) (hit:∀ i v,its[i]?=some v->v=Value.ref (pa i)) (hlen:more.length=its.length) (hp:∀ j p,more[j]?=some p->jKA knd s.heap (pa j) p)
  (h:∀ h' tk,h'.DictOf knd s.heap.objs.size (merged [] more)->(∀ b u,s.heap.get? b=some u->h'.get? b=some u)->Q (.ref s.heap.objs.size) { s with heap:=h',toks:=tk}):
  wpAny (model prog w) A (call (.type "dict") [.ref l]) Q E s:=by
 refine callType_codes (Q₁:=fun obj s₁=>obj= .ref s.heap.objs.size/\s₁= { s with heap:=s.heap.push { cls:= .type "dict",data:= .dict #[]}}) F.kt_called_dict (F.kt_typeCall_dict_1 _) F.entry_dict_init (kt_code_dict_new _ ⟨rfl,rfl⟩) ?_
 rintro obj s₁ ⟨rfl,rfl⟩
 have hnew:(s.heap.push { cls:= .type "dict",data:= .dict #[]}).DictOf knd s.heap.objs.size []:=Heap.DictOf.new s.heap
 have hl1:(s.heap.push { cls:= .type "dict",data:= .dict #[]}).get? l=some { cls:= .type "list",data:= .seq its.toArray nl} :=af _ hl
 have hls:l<s.heap.objs.size:=ak hl
 have hT:Shared.TypeIs { s with heap:=s.heap.push { cls:= .type "dict",data:= .dict #[]}} (.ref l) "list" :=⟨_,hl1,rfl⟩
 refine⟨hnew.typeIs,F.args_dict_init_2 _ _,?_⟩
 unfold Builtin.«dict.__init__»
 refine ae ?_
 unfold Builtin.Dict.selfAndRest
 refine ae (wpAny_notOrdered_dict hnew.typeIs ?_)
 show wpAny _ _ (pure (s.heap.objs.size,[Value.ref l])) _ _ _
 refine ag ?_
 show wpAny _ _ (Builtin.Dict.updateFrom "dict.__init__" s.heap.objs.size (.ref l) [] .none) _ _ _
 unfold Builtin.Dict.updateFrom
 refine ae (dg hT ?_)
 rw[aD (by decide)]
 refine ae (jN7 jH4 (by decide+kernel) (by decide+kernel) (by simpa using hA) hl1 fun h2 tk2 k2=>?_)
 rw[aD (by rfl)]
 refine ae (eJ (ae ?_))
 have hl2:h2.IsList l its.toArray:=⟨_,k2 _ _ hl1,rfl,nl,rfl⟩
 refine cL hl2 ?_
 have z2:s.heap.objs.size<h2.objs.size:=by
  have:=ak (k2 _ _ (am s.heap (o:= { cls:= .type "dict",data:= .dict #[]}) rfl))
  exact this
 have hlI:l≠h2.objs.size:=aG (dG hls z2)
 have hdI:s.heap.objs.size≠h2.objs.size:=aG z2
 have hdl:s.heap.objs.size≠l:=de hls
 have hplt:∀ i,i<its.length->pa i<s.heap.objs.size:=fun i hi=>by
  obtain⟨key,m,e,_⟩:=hp i more[i] (by simp [hlen,hi])
  exact ak e
 have keep:∀ b u,s.heap.get? b=some u->(h2.push { cls:= .type "list_iterator",data:= .fields #[.ref l, .int 0 0]}).get? b=some u:=fun b u e=>af _ (k2 _ _ (af _ e))
 refine ag ⟨dJ jC2 _,upl (knd:=knd) ((ie (by simp [hA]) _ l hlI its.toArray).toS) s.heap.objs.size ?_ more (by simp [hlen]) pa (fun i hi=>?_) (fun i v q=>hit i v (by simpa using q)) (by simpa using hsz) (its.toArray.size - 0) 0 0 _ rfl (bh _) ⟨⟨_,am _ rfl,rfl,rfl⟩,hl2.push _⟩ ?_ (fun j p hj=>?_) fun s' mv hD=>?_⟩
 ·simp only [az,bz,dh,iX]
  exact⟨hdI,hdl⟩
 ·have:=hplt i (by simpa using hi)
  refine⟨aG this,?_⟩
  simp only [az,bz,dh]
  exact aG (dG this z2)
 ·obtain⟨o,es,ep,ho,r⟩:=hnew
  exact⟨o,es,ep,af _ (k2 _ _ ho),r⟩
 ·obtain⟨key,m,e,q⟩:=hp j p hj
  exact⟨key,m,keep _ _ e,q⟩
 ·obtain⟨h',g',d',tk',os'⟩:=s'
  have e1:g'=s.gens:=mv.gens
  have e2:d'=s.drawn:=mv.drawn
  have e3:os'=s.os:=mv.os
  subst e1; subst e2; subst e3
  refine⟨rfl,h h' tk' hD fun b u e=>mv.heap b u ?_ (keep b u e)⟩
  have hb:=ak e
  simp only [az,bz,dh,iX]
  exact⟨aG hb,aG (dG hb z2)⟩
end
theorem jN0 {P:Program}{w:World}{h:Heap} :∀ (iY:List (Key×V)) (pa:Nat->Addr),(∀ i k v,iY[i]?=some (k,v)->∃ key u m,h.get? (pa i)=some { cls:= .type "tuple",data:= .seq #[key,u] m} /\RelV (kV k) key/\RelV v u)->
  ∃ more:List (Key×Value),KV iY more/\∀ j p,more[j]?=some p->jKA (qJ P w) h (pa j) p
 | [],_,_=>⟨[], .nil,fun j p e=>by simp at e⟩
 | (k,v)::r,pa,hk=>by
  obtain⟨more,k1,k2⟩:=jN0 (P:=P) (w:=w) r (fun i=>pa (i+1)) fun i k v e=>hk (i+1) k v (by simpa using e)
  obtain⟨key,u,m,e,r1,r2⟩:=hk 0 k v rfl
  refine⟨(k,u)::more, .cons ⟨rfl,r2⟩ k1,fun j p hj=>?_⟩
  cases j with
  | zero=>
   simp at hj
   subst hj
   exact⟨key,m,e,kV_is r1⟩
  | succ j=>exact k2 j p (by simpa using hj)
theorem jL7 (hc:X.calm=true):yO X (.type "dict") (fun xs H Q=>∃ (p:Addr) (vs:List V) (iY:List (Key×V)),xs=[.ref p]/\H p=some (.lst vs)/\vs.length=iY.length/\(∀ (i:Nat) (k:Key) (v:V),iY[i]?=some (k,v)->∃ a:Addr,vs[i]?=some (V.ref a)/\H a=some (.tup [kV k,v]))/\(iY.map (·.1)).Nodup/\∀ l:Addr,H l=none->Q (.ref l) (upd H l (.dK iY))):=by
 intro ad s σ H xs us Q I r h
 obtain⟨p,vs,iY,rfl,hq,hl,hkv,hnd,q⟩:=h
 obtain⟨u,rfl,rx⟩:=r.one
 cases rx
 obtain⟨hz,its,nl,r',e0⟩:=I.hok p _ hq
 have hli:=r'.length
 obtain⟨more,k1,k2⟩:=jN0 (P:=X.prog) (w:=X.w) (h:=s.heap) iY (fun i=>match vs[i]? with | some (.ref a)=>a | _=>0) fun i k v e=>by
  obtain⟨a,e1,e2⟩:=hkv i k v e
  obtain⟨_,it2,r2,m,e3⟩:=I.hok a _ e2
  have l2:=r2.length
  obtain⟨k',rest,rfl⟩:∃ k' rest,it2=k'::rest:=by
   cases it2 with
   | nil=>simp at l2
   | cons a b=>exact⟨a,b,rfl⟩
  obtain⟨u',rest',rfl⟩:∃ u' rest',rest=u'::rest':=by
   cases rest with
   | nil=>simp at l2
   | cons a b=>exact⟨a,b,rfl⟩
  obtain rfl:rest'=[]:=by
   cases rest' with
   | nil=>rfl
   | cons a b=>simp at l2
  rw[e1]
  cases r2 with
  | cons a1 a2=>
   cases a2 with
   | cons b1 b2=>exact⟨k',u',m,e3,a1,b1⟩
 have lm:more.length=iY.length:=(gR k1).symm
 refine jEP (knd:=qJ X.prog X.w) (I.ok.hd hc) e0 (by lia) (fun i=>match vs[i]? with | some (.ref a)=>a | _=>0) (fun i v hv=>?_) (by lia) k2 fun h' tk hD kp=>?_
 ·have hi:i<its.length:=(av.mp hv).1
  have hik:i<iY.length:=by lia
  obtain⟨a,e1,e2⟩:=hkv i iY[i].1 iY[i].2 (by simp [hik])
  obtain⟨u,e3,e4⟩:=r'.get e1
  rw[hv] at e3
  cases e3
  simp only [e1]
  exact e4
 ·rw[merged_nil_of_nodup _ (by rw[<- KV.keys k1]; exact hnd)] at hD
  have hsz:(s.heap.objs.size==sysModules)=false:=by
   have:=I.big
   exact bY.mpr (de this)
  exact⟨.ref s.heap.objs.size,_,I.laid (t':=tk) (o:= .dK iY) kp (ai _) ⟨by lia,hsz,more,k1,hD⟩,rfl,q _ I.fresh⟩
theorem jFB (l:Addr)(items:Array Value)(n:Nat)(dd:Option Addr)(sl:Array (Option Value))(x:Value)(e:Value->Bool)(j:Nat)(hj:j<items.size)(hit:e items[j]=true)(hno:∀ m (hm:m<items.size),m<j->e items[m]=false):
  Meets (Builtin.«tuple.index» ⟨[.ref l,x],[]⟩)
   (fun A R s=>s.heap.get? l=some { cls:= .type "tuple",dict:=dd,data:= .seq items n,slots:=sl} /\(∀ y,y∈items->SeqAt.EqAt A.in1 s y x (e y))/\R (.ok (.ret (.int j s.toks))) { s with toks:=s.toks+1}):=
 .of_wp fun prog w A R s h=>by
  obtain⟨hp,g,d,tk,os⟩:=s; obtain⟨hl,he,h⟩:=h
  unfold Builtin.«tuple.index»
  simp only [Std.Legacy.Range.forIn_eq_forIn_range']
  wp_walk using cb hl,wpAny_forIn_list _ (fun rest b s'=>b.1=none/\s'=⟨hp,g,d,tk,os⟩/\∃ i,i<=j/\rest=range' i (items.size - i)) _
  case turn=>
   rintro y rest b s' ⟨hb,rfl,i,hij,hr⟩
   have hi:i<items.size:=by lia
   rw[show items.size - i=(items.size - (i+1))+1 by lia,hU] at hr
   obtain⟨rfl,rfl⟩:=List.cons.inj hr
   rw[show items[y]?=some items[y] by simp [hi]]
   refine ae (he _ (Array.getElem_mem hi) prog w _ _ ?_)
   by_cases hyj:y=j
   ·subst hyj
    rw[hit]
    wp_walk
    exact⟨_,rfl,h⟩
   ·rw[hno y hi (by lia)]
    wp_walk
    exact⟨rfl,rfl,y+1,by lia,rfl⟩
  case fin=>
   rintro b s' ⟨hb,rfl,i,hij,hr⟩
   have:=cg List.length hr
   rw[List.length_range'] at this
   have:(0:Nat)=items.size - i:=this
   lia
  case h=>
   exact⟨rfl,rfl,0,bh _,by simp [Std.Legacy.Range.size]⟩
def jI7:V->List V->Hp->VK->Prop:=fun x vs H Q=>∃ (p:Addr) (ns:List Int) (i:Int) (k:Nat),x= .ref p/\vs=[.int i]/\H p=some (.tup (ns.map V.int))/\ns[k]?=some i/\(∀ m,m<k->ns[m]?≠some i)/\Q (.int (k:Int)) H
theorem jGY:MtM X "tuple.index" jI7:=by
 intro ad s σ H x vs v us Q I rx rv h
 obtain⟨p,ns,i,k,rfl,rfl,hp,hk,hno,q⟩:=h
 cases rx
 obtain⟨u,rfl,ru⟩:=rv.one
 obtain⟨_,its,r,n,e0⟩:=I.hok p _ hp
 have hl:=r.length
 rw[ac] at hl
 have hkl:k<its.length:=by rw[<- hl]; exact(av.mp hk).1
 have at_:∀ m (hm:m<its.length),∃ (z:Int) (t:Tok),ns[m]?=some z/\its[m]= .int z t:=fun m hm=>by
  have hz:(ns.map V.int)[m]?=some (.int ns[m]):=by simp [show m<ns.length by lia]
  obtain⟨w,hw,t,rw'⟩:=r.get hz
  refine⟨ns[m],t,by simp [show m<ns.length by lia],?_⟩
  rw[aK hm] at hw
  rw[be hw]
  exact rw'
 refine gC F.slot_tuple_index ⟨_,e0,rfl⟩ F.entry_tuple_index (F.args_tuple_index_2 _ _) (jFB p its.toArray n none #[] u (eqU (.int i)) k (by simpa using hkl) ?_ fun m hm hmk=>?_) ⟨e0,fun w hw=>jB6 ru rfl r ?_ w (by simpa using hw),?_⟩
 ·obtain⟨z,t,h1,h2⟩:=at_ k hkl
  rw[hk] at h1
  cases h1
  show eqU (.int i) its[k]=true
  rw[h2]
  show (i==i)=true
  simp
 ·have hm':m<its.length:=by simpa using hm
  obtain⟨z,t,h1,h2⟩:=at_ m hm'
  show eqU (.int i) its[m]=false
  rw[h2]
  show (z==i)=false
  rw[bY]
  exact fun e=>hno m hmk (by rw[h1,e])
 ·rw[aS]
  intro x hx
  obtain⟨z,_,rfl⟩:=aV.mp hx
  rfl
 ·exact⟨.int _,H,I.tok _,⟨s.toks,rfl⟩,q⟩
theorem jOF (hc:X.calm=true):yO X (.type "set") (fun xs H Q=>∃ (p:Addr) (ns:List Int),xs=[.ref p]/\SqL X.K H p (ns.map V.int)/\ns.length<=1000/\∀ (l:Addr) (S:Int->Bool),H l=none->Q (.ref l) (upd H l (.set S (PyProof.Rows.firstMet (fun i=>ns.getD i 0) ns.length).length))):=by
 intro ad s σ H xs us Q I r h
 obtain⟨p,ns,rfl,hq,hl,q⟩:=h
 obtain⟨u,rfl,rx⟩:=r.one
 cases rx
 obtain⟨its,r',pl,hz⟩:=I.list hq
 have hlen:=r'.length
 rw[ac] at hlen
 have hsz:its.toArray.size=ns.length:=by rw[aj,hlen]
 refine call_set_list (I.ok.hd hc) pl.isList (jAK r') (by rw[hsz]; have hb:(2000:Nat)<scanBound:=(by decide); lia) fun h' tk S kp=>?_
 rw[hsz] at S
 exact⟨.ref s.heap.objs.size,_,I.laid (t':=tk) (o:= .set (fun k'=>(PyProof.Rows.firstMet (fun i=>ns.getD i 0) ns.length).any (· ==k')) (PyProof.Rows.firstMet (fun i=>ns.getD i 0) ns.length).length) (fun b u e=>kp b u (ak e) e) (ai _) S,rfl,q _ _ I.fresh⟩
theorem jOH:yO X (.builtin "len") (fun xs H Q=>∃ p S n,xs=[.ref p]/\H p=some (.set S n)/\Q (.int (n:Nat)) H):=by
 intro ad s σ H xs us Q I r h
 obtain⟨p,S,n,rfl,hp,q⟩:=h
 obtain⟨u,rfl,rx⟩:=r.one
 cases rx
 obtain⟨o,es,ep,t,h1,h2,h3,h4,h5,h6,h7,h8⟩:=(show s.heap.SetOf (intKind X.prog X.w) p S n from I.hok p _ hp)
 subst h8
 exact call_len_set h1 h2 h3 h7 (by have hb:(scanBound:Int)<2 ^ 63:=(by decide); lia) ⟨.int _,H,I.tok _,⟨_,rfl⟩,q⟩
section
variable {K:W.Frag}
theorem gl_n (h:sc.names.lookup x=some .globalImplicit):Gl1 (cxN P w K mg base N qual sc f cd cl A outer s H) x:=⟨h⟩
theorem vis_n (h:sc.names.lookup x=some .local):Vis1 (cxN P w K mg base N qual sc f cd cl A outer s H) x:=⟨.inl h⟩
end
theorem jUV {x:Str}{args:Arguments}{body:List Stmt}{scope:Scope}{pos:Pos}{c0 T:Addr}{j:Nat}(hN:X.N.Nodup)(hj:X.N[j]?=some x)(lx:Loc1 X x)(hcode:X.env.code= .ref c0)(CH:PySem.W.CodeHd X.base c0 T)(hbm:BltAt X.base X.mg)
  (hfree:∀ y∈scope.names,y.2= .free->X.env.scope.names.lookup y.1=some .cell\/X.env.scope.names.lookup y.1=some .free) (hdf:defaultsOf args X.env=([],[])) (han:annTrees args none X.env=[]):
  JS X (.FunctionDef x args body [] none [] scope none x pos) (tDef x (qualnameIn X.env x x) args body scope (kG X.env.cells scope.names []) T pos j):=⟨jTZ hN hj lx.a hcode CH hbm hfree hdf han lx.b⟩
def iSeq (K:W.Frag)(te:TE):TI:=fun σ H R=>iList K te σ H R\/iTup K te σ H R
theorem jUW {tg a:Expr}{ta:TE}(hl:JE X a ta):JI X tg a (iSeq X.K ta):=⟨fun ad s σ H R I h=>by
 rcases h with h | h
 ·exact(jB8 hl).h ad s σ H R I h
 ·exact(yP hl).h ad s σ H R I h⟩
def AtS (tp:Bool)(H:Hp)(a:Addr)(xs:List V):Prop:=match tp with
 | false=>H a=some (.lst xs)
 | true=>H a=some (.tup xs)
theorem AtS.sq {tp:Bool}{K:W.Frag}{H:Hp}{a:Addr}{xs:List V}(h:AtS tp H a xs):Sq tp K H a xs:=by
 cases tp with
 | false=>exact SqL.of h
 | true=>exact SqT.of h
theorem AtS.or {tp:Bool}{K:W.Frag}{H:Hp}{a:Addr}{xs:List V}(h:AtS tp H a xs):SqL K H a xs\/SqT K H a xs:=by
 cases tp with
 | false=>exact .inl (SqL.of h)
 | true=>exact .inr (SqT.of h)
def AtS.ob (tp:Bool)(xs:List V):HO:=match tp with
 | false=> .lst xs
 | true=> .tup xs
theorem AtS.is {tp:Bool}{H:Hp}{a:Addr}{xs:List V} :AtS tp H a xs↔H a=some (AtS.ob tp xs):=by cases tp <;> exact Iff.rfl
theorem AtS.ext {tp:Bool}{H H':Hp}{a:Addr}{xs:List V}(h:AtS tp H a xs)(e:Ext H H'):AtS tp H' a xs:=AtS.is.mpr (e _ _ (AtS.is.mp h))
theorem jUY {i o:Expr}{ty td:TE}{pos:Pos}(hu:X.A.units+1<cLine)(hi:JE X i ty)(ho:JE X o td)(h1:behindInMarks .In o=false):JT X (.Compare i [.In] [o] pos) (tB (tDIn ty td)):=⟨jTY (jUA hu hi.h ho.h) h1⟩
section
variable {K:W.Frag}{σ:St}
theorem jHJ {a:Addr}{xs:List V}(hn:xs.length<sizeLine)(Pv:Addr->Nat->St->Hp->List V->Prop)(h0:∀ D,H1 D=none->Pv D 0 (blkσ m σ) (upd H1 D (.lst [])) [])
  (hD:∀ D i σ' H' zs,H1 D=none->Pv D i σ' H' zs->H' a=some (.lst xs)/\H' D=some (.lst zs)/\zs.length<=i)
  (hs:∀ D i σ' H' zs x,H1 D=none->xs[i]?=some x->Pv D i σ' H' zs->g x σ' H' fun σ2 H2=>tt σ2 H2 fun b H3=>if b=true then te σ2 H3 fun v H4=>H4 D=some (.lst zs)/\Pv D (i+1) σ2 (upd H4 D (.lst (zs++[v]))) (zs++[v]) else Pv D (i+1) σ2 H3 zs)
  (hd:∀ D σ' H' zs,H1 D=none->Pv D xs.length σ' H' zs->Q (.ref D) H'):qE m g tt te σ Q (Itl K a) H1:=by
 intro D hDn
 refine⟨fun i k σ' H' zs=>k=xs.length - i/\i<=xs.length/\Pv D i σ' H' zs,⟨_,rfl,bh _,h0 D hDn⟩,?_⟩
 rintro i k σ' H' zs ⟨rfl,hi,p⟩
 obtain⟨s1,q1,q2⟩:=hD D i σ' H' zs hDn p
 refine⟨q1,by lia,?_⟩
 by_cases hlt:i<xs.length
 ·refine .inr ⟨⟨xs,xs[i],SqL.of s1,by simp [hlt]⟩,Pv D (i+1),fun σ2 H2 zs z=>⟨xs.length - (i+1),by lia,rfl,hlt,z⟩,fun v H'' y=>?_⟩
  obtain⟨e1,e2⟩:=y
  subst e1
  exact hs D i σ' _ zs v hDn (e2 xs (SqL.of s1)) p
 ·have e:i=xs.length:=by lia
  subst e
  exact .inl ⟨⟨xs,SqL.of s1,ai _⟩,hd D σ' H' zs hDn p⟩
theorem jQG {tp:Bool}{ta:TE}{a:Addr}{xs:List V}(ha:AtS tp H1 a xs)(hta:∀ Q:VK,Q (.ref a) H1->ta σ H1 Q)(hn:xs.length<sizeLine)(Pv:Addr->Nat->St->Hp->List V->Prop)(h0:∀ D,H1 D=none->Pv D 0 (blkσ m σ) (upd H1 D (.lst [])) [])
  (hD:∀ D i σ' H' zs,H1 D=none->Pv D i σ' H' zs->AtS tp H' a xs/\H' D=some (.lst zs)/\zs.length<=i)
  (hs:∀ D i σ' H' zs x,H1 D=none->xs[i]?=some x->Pv D i σ' H' zs->g x σ' H' fun σ2 H2=>tt σ2 H2 fun b H3=>if b=true then te σ2 H3 fun v H4=>H4 D=some (.lst zs)/\Pv D (i+1) σ2 (upd H4 D (.lst (zs++[v]))) (zs++[v]) else Pv D (i+1) σ2 H3 zs)
  (hd:∀ D σ' H' zs,H1 D=none->Pv D xs.length σ' H' zs->Q (.ref D) H'):iSeq K ta σ H1 (qE m g tt te σ Q):=by
 cases tp with
 | false=>exact .inl (hta _ ⟨a,rfl,⟨xs,SqL.of ha⟩,jHJ hn Pv h0 hD hs hd⟩)
 | true=>exact .inr (hta _ ⟨a,rfl,⟨xs,SqT.of ha⟩,jAC hn Pv h0 hD hs hd⟩)
end
theorem ExtT.of {T:Addr}{H H':Hp}(e:Ext H H'):ExtT T H H':=fun b o h _=>e b o h
theorem ExtT.refl {T:Addr}(H:Hp):ExtT T H H:=fun b o h _=>h
theorem ExtT.trans {T:Addr}{H H' H'':Hp}(a:ExtT T H H')(b:ExtT T H' H''):ExtT T H H'':=fun c o h n=>b c o (a c o h n) n
theorem TabOk.is {H:Hp}{T:Addr}{pos:Pos}{q:Str}(t:TabOk H T pos q):∃ ps,H T=some (.tbl ps):=by
 rcases t with h | ⟨c,h,_⟩
 ·exact⟨_,h⟩
 ·exact⟨_,h⟩
theorem TabOk.ne {H:Hp}{T:Addr}{pos:Pos}{q:Str}(t:TabOk H T pos q){b:Addr}{o:HO}(h:H b=some o)(ho:∀ ps,o≠ .tbl ps):b≠T:=fun e=>by
 obtain⟨ps,z⟩:=t.is
 rw[e,z] at h
 cases h
 exact ho ps rfl
theorem TabOk.ext {H H':Hp}{T:Addr}{pos:Pos}{q:Str}(t:TabOk H T pos q)(e:Ext H H'):TabOk H' T pos q:=by
 rcases t with h | ⟨c,h,h2⟩
 ·exact .inl (e _ _ h)
 ·exact .inr ⟨c,e _ _ h,e _ _ h2⟩
theorem ExtT.at {T:Addr}{H H':Hp}(e:ExtT T H H'){pos:Pos}{q:Str}(t:TabOk H T pos q){b:Addr}{o:HO}(h:H b=some o)(ho:∀ ps,o≠ .tbl ps:=by intro _ z; cases z):H' b=some o:=e b o h (t.ne h ho)
theorem ExtT.seq {T:Addr}{H H':Hp}(e:ExtT T H H'){pos:Pos}{q:Str}(t:TabOk H T pos q){tp:Bool}{b:Addr}{xs:List V}(h:AtS tp H b xs):AtS tp H' b xs:=by
 cases tp with
 | false=>exact e.at t (show H b=some (.lst xs) from h)
 | true=>exact e.at t (show H b=some (.tup xs) from h)
structure FunC (K:W.Frag)(x qual:Str)(st:Stmt)(f:Addr)(fd:FuncData)(c0:Addr):Prop where
 ex:∃ (oc:Value) (od:Option Addr) (kV doc pm:Value) (an:Option Addr) (ct:Value) (osl:Array (Option Value)),fd=PySem.W.fnOf x qual (qD st) (jN st) (jA st) .none kV doc pm an (.ref c0) ct/\K.lookup f=some ⟨oc,od, .func fd,osl⟩/\PySem.W.codeIn K (.ref c0) qual=true
theorem FunC.ok {P:Program}{w:World}{K:W.Frag}{mg:Str->Option Value}{base:Heap}{x qual:Str}{st:Stmt}{f c0:Addr}{fd:FuncData}{N ps:List Str}{k:Nat}{sp:Sp}(F:FunC K x qual st f fd c0)(S:FnScope N ps (jA st))(len:∀ vs H Q E,sp vs H Q E->vs.length=ps.length)
  (hbody:∀ (A:Around) (outer:List Env) (s:Shared) (H:Hp) (vs:List V) (Q:VK) (E:XK),Room k (A.deeper (envOfC qual (jA st) s.heap.objs.size f (.ref c0)))->sp vs H Q E->
   ∃ t,PSs (cxOf CX0 P w K mg base N qual (jA st) f (.ref c0) A outer s H E).nox (jN st) t/\t { nx:=fun _ H'=>Q .non H',rt:=Q} (yT N vs) H):FnOk P w K mg base CX0 (k+1) f fd ps sp:=by
 obtain⟨oc,od,kV,doc,pm,an,ct,osl,rfl,lk,hcd⟩:=F.ex
 refine fn_of lk hcd S len fun A outer s H vs Q E hr hsp=>?_
 obtain⟨t,ht,hq⟩:=hbody A outer s H vs Q E hr hsp
 exact⟨t,ht.nox,hq⟩
variable {fp:List Addr}
section
theorem jK1 {sc2:Scope}(h:(sc2.names.all fun y=>decide (y.2= .free->sc.names.lookup y.1=some .cell\/sc.names.lookup y.1=some .free))=true):
  ∀ y∈sc2.names,y.2= .free->(blk X sc cl C Nc fp s H).env.scope.names.lookup y.1=some .cell\/(blk X sc cl C Nc fp s H).env.scope.names.lookup y.1=some .free:=fun y hy hf=>by
 rcases aq (aS.mp h y hy) hf with q | q
 ·exact .inl (jA1 (by decide) q)
 ·exact jA7 q
theorem jJU {tg a:Expr}{ta:TE}(hl:JE (blk X sc cl C Nc fp s H) a ta):JI (blk X sc cl C Nc fp s H) tg a (iTup X.K ta):=yP hl
variable {sc2:Scope}{cl2:List (Str×Addr)}{C2:Addr}{Nc2:List Str}{fp2:List Addr}{s2:Shared}{H2:Hp}
theorem jPF:OpR (blk (blk X sc cl C Nc fp s H) sc2 cl2 C2 Nc2 fp2 s2 H2) (compareOp .In) (rIn X.K false):=jBD
theorem jEL:yO (blk X sc cl C Nc fp s H) (.type "tuple") (fun xs H Q=>∃ p ys,xs=[.ref p]/\((SqL X.K H p ys/\∀ l,H l=none->Q (.ref l) (upd H l (.tup ys)))\/(SqT X.K H p ys/\Q (.ref p) H))):=jO
theorem jIV (hc:X.calm=true):yO (blk X sc cl C Nc fp s H) (.builtin "all") (fun xs H Q=>∃ (p:Addr) (bs:List Bool),xs=[.ref p]/\SqL X.K H p (bs.map V.bl)/\Q (.bl (bs.all id)) H):=jAX hc
end
theorem jR7 {X:Cx}{st:Stmt} :JS X st (fun _ _ _=>False):=⟨fun _ _ _ _ _ _ h=>h.elim⟩
section
variable {K:W.Frag}{σ:St}
abbrev TupsK (H H':Hp):Prop:=∀ b xs,H b=some (.tup xs)->H' b=some (.tup xs)
structure ZOk (Z:Hp->List V->Nat->Prop):Prop where
 z0:∀ H,Z H [] 0
 mono:∀ H H' zs j,TupsK H H'->Z H zs j->Z H' zs j
 len:∀ H zs j,Z H zs j->zs.length<=j
theorem jDR {H:Hp}{D:Addr}{zs:List V}(h:H D=some (.lst zs))(o:HO):TupsK H (upd H D o):=fun b xs hb=>by
 rw[jD (fun e=>by rw[e,h] at hb; cases hb)]
 exact hb
def TurnZ (g:TG)(tt:TT)(te:TE)(σP:St->Prop)(Z:Hp->List V->Nat->Prop)(x:V)(j:Nat)(σ':St)(H':Hp)(zs:List V):Prop:=
 ∀ (R:St->V->Hp->Prop) (S:St->Hp->Prop),(∀ σ2 v H2,σP σ2->Ext H' H2->Z H2 (zs++[v]) (j+1)->R σ2 v H2)->(∀ σ2 H2,σP σ2->Ext H' H2->Z H2 zs (j+1)->S σ2 H2)->
  g x σ' H' fun σ2 H2=>tt σ2 H2 fun b H3=>if b=true then te σ2 H3 (R σ2) else S σ2 H3
theorem jO8 {tp:Bool}{a:Addr}{xs:List V}(σP:St->Prop)(Z:Hp->List V->Nat->Prop)(zo:ZOk Z)(ha:AtS tp H a xs)(hn:xs.length<sizeLine)(h0:σP (blkσ m σ))
  (step:∀ j x σ' H' zs,xs[j]?=some x->σP σ'->Ext H H'->Z H' zs j->TurnZ g tt te σP Z x j σ' H' zs)
  (hd:∀ D H' zs,H' D=some (.lst zs)->Ext H H'->H D=none->Z H' zs xs.length->Q (.ref D) H'):qE m g tt te σ Q (match tp with | false=>Itl K a | true=>Itt K a) H:=by
 have turn:∀ D j σ' H' zs x,H D=none->xs[j]?=some x->(σP σ'/\Ext H H'/\H' D=some (.lst zs)/\H D=none/\Z H' zs j)->g x σ' H' fun σ2 H2=>tt σ2 H2 fun b H3=>if b=true then te σ2 H3 fun v H4=>H4 D=some (.lst zs)/\(σP σ2/\Ext H (upd H4 D (.lst (zs++[v])))/\(upd H4 D (.lst (zs++[v]))) D=some (.lst (zs++[v]))/\H D=none/\Z (upd H4 D (.lst (zs++[v]))) (zs++[v]) (j+1)) else (σP σ2/\Ext H H3/\H3 D=some (.lst zs)/\H D=none/\Z H3 zs (j+1)):=by
  rintro D j σ' H' zs x hD hx ⟨p,e,h2,hn,hz⟩
  exact step j x σ' H' zs hx p e hz _ _ (fun σ2 v H2 p2 e2 z2=>⟨e2 _ _ h2,p2,(e.trans e2).updNew hn _,j7,hn,zo.mono _ _ _ _ (jDR (e2 _ _ h2) _) z2⟩) fun σ2 H2 p2 e2 z2=>⟨p2,e.trans e2,e2 _ _ h2,hn,z2⟩
 cases tp with
 | false=>exact jHJ (xs:=xs) hn (fun D j σ' H' zs=>σP σ'/\Ext H H'/\H' D=some (.lst zs)/\H D=none/\Z H' zs j) (fun D hD=>⟨h0,(Ext.refl _).new hD _,j7,hD,zo.z0 _⟩) (fun D j σ' H' zs hD ⟨_,e,h2,_,hz⟩=>⟨e _ _ ha,h2,zo.len _ _ _ hz⟩) turn fun D σ' H' zs hD ⟨_,e,h2,hn,hz⟩=>hd D H' zs h2 e hn hz
 | true=>exact jAC (xs:=xs) hn (fun D j σ' H' zs=>σP σ'/\Ext H H'/\H' D=some (.lst zs)/\H D=none/\Z H' zs j) (fun D hD=>⟨h0,(Ext.refl _).new hD _,j7,hD,zo.z0 _⟩) (fun D j σ' H' zs hD ⟨_,e,h2,_,hz⟩=>⟨e _ _ ha,h2,zo.len _ _ _ hz⟩) turn fun D σ' H' zs hD ⟨_,e,h2,hn,hz⟩=>hd D H' zs h2 e hn hz
theorem jAP {a:Addr}{xs:List V}(σP:St->Prop)(Z:Hp->List V->Nat->Prop)(zo:ZOk Z)(ha:H a=some (.tup xs))(hn:xs.length<sizeLine)(h0:σP (blkσ m σ))
  (step:∀ j x σ' H' zs,xs[j]?=some x->σP σ'->Ext H H'->Z H' zs j->TurnZ g tt te σP Z x j σ' H' zs)
  (hd:∀ D H' zs,H' D=some (.lst zs)->Ext H H'->H D=none->Z H' zs xs.length->Q (.ref D) H'):qE m g tt te σ Q (Itt K a) H:=jO8 (tp:=true) σP Z zo ha hn h0 step hd
theorem jCF {a:Addr}{xs:List V}(σP:St->Prop)(Z:Hp->List V->Nat->Prop)(zo:ZOk Z)(ha:H a=some (.lst xs))(hn:xs.length<sizeLine)(h0:σP (blkσ m σ))
  (step:∀ j x σ' H' zs,xs[j]?=some x->σP σ'->Ext H H'->Z H' zs j->TurnZ g tt te σP Z x j σ' H' zs)
  (hd:∀ D H' zs,H' D=some (.lst zs)->Ext H H'->H D=none->Z H' zs xs.length->Q (.ref D) H'):qE m g tt te σ Q (Itl K a) H:=jO8 (tp:=false) σP Z zo ha hn h0 step hd
theorem jCE {n:Nat}(σP:St->Prop)(Z:Hp->List V->Nat->Prop)(zo:ZOk Z)(hn:n<sizeLine)(h0:σP (blkσ m σ))
  (step:∀ j σ' H' zs,j<n->σP σ'->Ext H H'->Z H' zs j->TurnZ g tt te σP Z (.int (0+j)) j σ' H' zs)
  (hd:∀ D H' zs,H' D=some (.lst zs)->Ext H H'->H D=none->Z H' zs n->Q (.ref D) H'):qE m g tt te σ Q (Itr 0 n) H:=by
 refine jAD (lo:=0) (n:=n) hn (fun D j σ' H' zs=>σP σ'/\Ext H H'/\H' D=some (.lst zs)/\H D=none/\Z H' zs j) (fun D hD=>⟨h0,(Ext.refl _).new hD _,j7,hD,zo.z0 _⟩) (fun D j σ' H' zs hD hj ⟨_,e,h2,_,hz⟩=>⟨h2,zo.len _ _ _ hz⟩) ?_ fun D σ' H' zs hD ⟨_,e,h2,hn,hz⟩=>hd D H' zs h2 e hn hz
 rintro D j σ' H' zs hD hj ⟨p,e,h2,hn,hz⟩
 exact step j σ' H' zs hj p e hz _ _ (fun σ2 v H2 p2 e2 z2=>⟨e2 _ _ h2,p2,(e.trans e2).updNew hn _,j7,hn,zo.mono _ _ _ _ (jDR (e2 _ _ h2) _) z2⟩) fun σ2 H2 p2 e2 z2=>⟨p2,e.trans e2,e2 _ _ h2,hn,z2⟩
theorem jQI {tp:Bool}{l:Addr}{xs:List V}(σP:St->Prop)(Z:Hp->List V->Nat->Prop)(zo:ZOk Z)(ha:AtS tp H l xs)(hn:xs.length<sizeLine)(h0:σP (blkσ m σ))
  (step:∀ (j:Nat) x T σ' H' zs,xs[j]?=some x->σP σ'->Ext H H'->H' T=some (.tup [.int (j:Int),x])->Z H' zs j->TurnZ g tt te σP Z (.ref T) j σ' H' zs)
  (hd:∀ D H' zs,H' D=some (.lst zs)->Ext H H'->H D=none->Z H' zs xs.length->Q (.ref D) H'):qE m g tt te σ Q (Ite tp K l) H:=by
 refine jCG (xs:=xs) hn (fun D j σ' H' zs=>σP σ'/\Ext H H'/\H' D=some (.lst zs)/\H D=none/\Z H' zs j) (fun D hD=>⟨h0,(Ext.refl _).new hD _,j7,hD,zo.z0 _⟩) (fun D j σ' H' zs hD ⟨_,e,h2,_,hz⟩=>⟨(ha.ext e).sq,h2,zo.len _ _ _ hz⟩) ?_ fun D σ' H' zs hD ⟨_,e,h2,hn,hz⟩=>hd D H' zs h2 e hn hz
 rintro D j σ' H' zs x T hD hx hT ⟨p,e,h2,hn,hz⟩
 have e1:Ext H' (upd H' T (.tup [.int (j:Int),x])):=(Ext.refl _).new hT _
 have h2':=e1 _ _ h2
 exact step j x T σ' _ zs hx p (e.trans e1) j7 (zo.mono _ _ _ _ (fun b xs h=>e1 _ _ h) hz) _ _ (fun σ2 v H2 p2 e2 z2=>⟨e2 _ _ h2',p2,((e.trans e1).trans e2).updNew hn _,j7,hn,zo.mono _ _ _ _ (jDR (e2 _ _ h2') _) z2⟩) fun σ2 H2 p2 e2 z2=>⟨p2,(e.trans e1).trans e2,e2 _ _ h2',hn,z2⟩
end
def outZ {α:Type}(l:List α)(p:α->Bool)(f:α->V):Hp->List V->Nat->Prop:=fun _ zs j=>zs=((l.take j).filter p).map f
theorem outZ.ok {α:Type}(l:List α)(p:α->Bool)(f:α->V):ZOk (outZ l p f):=⟨fun _=>rfl,fun _ _ _ _ _ h=>h,fun _ zs j h=>by
 rw[show zs=_ from h,ac]
 exact aQ (aY _ _) (aX _ _)⟩
theorem outZ.yes {α:Type}{l:List α}{p:α->Bool}{f:α->V}{H H':Hp}{zs:List V}{j:Nat}{x:α}(h:outZ l p f H zs j)(hx:l[j]?=some x)(hp:p x=true):outZ l p f H' (zs++[f x]) (j+1):=by
 show _=_
 rw[aJ,hx,bn,au,<- show zs=_ from h]
 simp [hp]
theorem outZ.no {α:Type}{l:List α}{p:α->Bool}{f:α->V}{H H':Hp}{zs:List V}{j:Nat}{x:α}(h:outZ l p f H zs j)(hx:l[j]?=some x)(hp:p x=false):outZ l p f H' zs (j+1):=by
 show _=_
 rw[aJ,hx,bn,au,<- show zs=_ from h]
 simp [hp]
theorem outZ.all {α:Type}{l:List α}{p:α->Bool}{f:α->V}{H:Hp}{zs:List V}{n:Nat}(h:outZ l p f H zs n)(hn:l.length<=n):zs=(l.filter p).map f:=by
 rw[show zs=_ from h,bH hn]
def mapZ {α:Type}(l:List α)(f:α->V):Hp->List V->Nat->Prop:=fun _ zs j=>zs=(l.take j).map f
theorem mapZ.ok {α:Type}(l:List α)(f:α->V):ZOk (mapZ l f):=⟨fun _=>rfl,fun _ _ _ _ _ h=>h,fun _ zs j h=>by
 rw[show zs=_ from h,ac]
 exact aX _ _⟩
theorem mapZ.yes {α:Type}{l:List α}{f:α->V}{H H':Hp}{zs:List V}{j:Nat}{x:α}(h:mapZ l f H zs j)(hx:l[j]?=some x):mapZ l f H' (zs++[f x]) (j+1):=by
 show _=_
 rw[aJ,hx,au,<- show zs=_ from h]
 rfl
theorem mapZ.all {α:Type}{l:List α}{f:α->V}{H:Hp}{zs:List V}{n:Nat}(h:mapZ l f H zs n)(hn:l.length<=n):zs=l.map f:=by
 rw[show zs=_ from h,bH hn]
theorem int_at {l:List Int}{j:Nat}{x:V}(h:(l.map V.int)[j]?=some x):∃ z:Int,l[j]?=some z/\x=V.int z:=by
 rw[ay] at h
 cases hq:l[j]? with
 | none=>rw[hq] at h; cases h
 | some z=>rw[hq] at h; cases h; exact⟨z,rfl,rfl⟩
theorem jTB {e:Expr}{gs:List Comprehension}{sc:Scope}{pos:Pos} :FoOk (.ListComp e gs sc pos):=⟨fun _ _=>rfl⟩
theorem jNC {X:Cx}{e:Expr}{te:TE}{x:Str}{pos:Pos}{i:Nat}{pos':Pos}(hN:X.N.Nodup)(hi:X.N[i]?=some x)(hx:Loc1 X x)(he:JE X e te)(hs:swapsWith e (some (.Name x pos')) pos.line X.env=pure false):JS X (.Assign [.Name x pos'] e pos) (tAsg te (kI i)):=⟨qV hN hi hx.a he.h hs hx.b⟩
theorem jHO (hc:X.calm=true):yO (blkC X sc cl C Nc fp s H) (.builtin "all") (fun xs H Q=>∃ (p:Addr) (bs:List Bool),xs=[.ref p]/\SqL X.K H p (bs.map V.bl)/\Q (.bl (bs.all id)) H):=jAX hc
open PySem.AutoSeq1 (wpAny_loadPart')
theorem jDE {R:Result->Shared->Prop}(hh:A.handled=none){r:Addr}{a b c:Int}{t u v:Tok}{n:Nat}(hr:IsRange s.heap r a b c t u v)(hsm:Builtin.Range.small a b c=true)(hn:Builtin.Range.rangeSize a b c=n)(hlen:n<=2 ^ 24)
  (k:∀ (h':Heap) (tk:Nat) (acc:Array Value) (c':Nat),(∀ b o,s.heap.get? b=some o->h'.get? b=some o)->h'.get? s.heap.objs.size=some { cls:= .type "list",dict:=none,data:= .seq acc c',slots:=#[]} ->ItemsOf (fun i v=>∃ t,v= .int (a+i*c) t) acc n->R (.ok (.ret (.ref s.heap.objs.size))) { s with heap:=h',toks:=tk}):
  codeAny (model prog w) A (.builtin "proto.collect" ⟨[.ref r],[]⟩) R s:=by
 refine bO F.entry_proto_collect ?_
 rw[bR F.plain_proto_collect _]
 refine(?_:wpAny _ A.in1 (newList [] >>= fun l=>again (.builtin "list.__iadd__" ⟨[l, .ref r],[]⟩)) _ _ s)
 refine ae (aU (ag ⟨dJ F.plain_list_iadd _,bO F.entry_list_iadd ?_⟩))
 rw[bR F.plain_list_iadd _]
 refine(?_:wpAny _ A.in1 (Builtin.List.listExtendWith (.ref s.heap.objs.size) (.ref r) (.ref s.heap.objs.size)) _ _ _)
 have hr1:IsRange (s.heap.push { cls:= .type "list",data:= .seq ([]:List Value).toArray}) r a b c t u v:=af _ hr
 have hS1:(s.heap.push { cls:= .type "list",data:= .seq ([]:List Value).toArray}).get? s.heap.objs.size=some { cls:= .type "list",data:= .seq #[]} :=am _ rfl
 exact wpAny_extend_range (R:=R) (s:= { s with heap:=s.heap.push { cls:= .type "list",data:= .seq ([]:List Value).toArray}}) hh hr1 hsm hn hlen s.heap.objs.size _ 0 hS1 fun h' tk acc' c' kp hS' hacc=>k h' tk acc' c' (fun b o e=>kp b o (aG (ak e)) (af _ e)) hS' hacc
theorem jIS {Q:List Value->Shared->Prop}(hh:A.handled=none){r:Addr}{a b c:Int}{t u v:Tok}{n:Nat}(hr:IsRange s.heap r a b c t u v)(hsm:Builtin.Range.small a b c=true)(hn:Builtin.Range.rangeSize a b c=n)(hlen:n<=2 ^ 24)
  (k:∀ (h':Heap) (tk:Nat) (acc:Array Value),(∀ b o,s.heap.get? b=some o->h'.get? b=some o)->s.heap.objs.size<=h'.objs.size->ItemsOf (fun i v=>∃ t,v= .int (a+i*c) t) acc n->Q acc.toList { s with heap:=h',toks:=tk}):
  wpAny (model prog w) A (collect (.ref r)) Q E s:=by
 unfold collect
 refine ae (fb (jDE hh hr hsm hn hlen fun h' tk acc c' kp hS' hacc=>?_))
 refine(?_:wpAny _ A (load s.heap.objs.size >>= _) _ _ _)
 exact ae (fw hS' (ag (k h' tk acc kp (cF (ak hS')) hacc)))
theorem jE5 (r:Addr)(a b c:Int)(t u v:Tok)(n:Nat)(hsm:Builtin.Range.small a b c=true)(hn:Builtin.Range.rangeSize a b c=n)(hlen:n<=2 ^ 24):
  Meets (Builtin.«tuple.__new__» ⟨[.type "tuple", .ref r],[]⟩) (fun A R s=>A.handled=none/\IsRange s.heap r a b c t u v/\∀ (h':Heap) (tk:Nat) (acc:Array Value),(∀ b o,s.heap.get? b=some o->h'.get? b=some o)->s.heap.objs.size<=h'.objs.size->ItemsOf (fun i v=>∃ t,v= .int (a+i*c) t) acc n->
   R (.ok (.ret (.ref h'.objs.size))) { s with heap:=h'.push { cls:= .type "tuple",data:= .seq acc},toks:=tk}):=
 .of_wp fun prog w A R s h=>by
  obtain⟨hh,hr,k⟩:=h
  have sub:=sub_tuple_self
  have ini:=init_tuple_lookup
  have mh:=madeHere_tuple
  have ty:s.TypeIs (.ref r) "range" :=⟨_,hr,rfl⟩
  have hh1:A.in1.handled=none:=hh
  have nt:(Value.type "range" ==Value.type "tuple")=false:=by decide
  wp_walk using dg ty,jIS hh1 hr hsm hn hlen
  intro h' tk acc kp hsz hacc
  refine(?_:wpAny _ _ (Builtin.Tuple.tupleExact acc.toList.toArray >>= fun v=>ret v) _ _ _)
  unfold Builtin.Tuple.tupleExact
  refine ae (aU (ag ⟨_,rfl,?_⟩) (show acc.toList.toArray.size<=sizeLine by rw[cJ,hacc.1,df]; lia))
  rw[cJ]
  exact k h' tk acc kp hsz hacc
def jEE (a:Int)(n:Nat):List Int:=(List.range n).map fun (i:Nat)=>a+(i:Int)
theorem jLG {a:Int}{n:Nat}{acc:Array Value}(h:ItemsOf (fun i v=>∃ t,v=Value.int (a+(i:Int)*1) t) acc n):Vals ((jEE a n).map V.int) acc.toList:=by
 have key:∀ (l:List Value) (k:Nat),(∀ j v,l[j]?=some v->∃ t,v=Value.int (a+((k+j:Nat):Int)) t)->Vals ((range' k l.length).map fun (i:Nat)=>V.int (a+(i:Int))) l:=by
  intro l
  induction l with
  | nil=>intro k _; exact .nil
  | cons v l ih=>
   intro k hk
   rw[aZ,hU,bA]
   refine .cons ?_ (ih (k+1) fun j u hj=>?_)
   ·obtain⟨t,e⟩:=hk 0 v rfl
    exact⟨t,by simpa using e⟩
   ·obtain⟨t,e⟩:=hk (j+1) u (by simpa using hj)
    exact⟨t,by rw[e]; congr 2; lia⟩
 have:=key acc.toList 0 fun j v hj=>by
  obtain⟨t,e⟩:=h.2 j v (by simpa using hj)
  exact⟨t,by rw[e,iU,Nat.zero_add]⟩
 rw[bE,h.1,<- iA] at this
 unfold jEE
 rw[cG]
 exact this
theorem jAJ (hc:X.calm=true):yO X (.type "tuple") (fun xs H Q=>∃ p i j,xs=[.ref p]/\H p=some (.rng i j)/\0<=i/\i<=j/\j<=1000/\∀ l,H l=none->Q (.ref l) (upd H l (.tup ((jEE i (j - i).toNat).map V.int)))):=by
 intro ad s σ H xs us Q I r h
 obtain⟨p,i,j,rfl,hp,h0,h1,h2,q⟩:=h
 obtain⟨u,rfl,rx⟩:=r.one
 cases rx
 obtain⟨t,u,v,e⟩:=I.hok p _ hp
 have en:Builtin.Range.rangeSize i j 1=((j - i).toNat:Int):=by
  rw[gS]
  split <;> lia
 refine callType_new F.called_tuple (by decide) (F.typeCall_tuple_1 _) (F.newCall_tuple_1 _) (fun obj=>F.args_object_init_2 obj _) F.entry_tuple_new
  (jE5 p i j 1 t u v (j - i).toNat (small_one (by lia) (by lia) (by lia) (by lia)) en (by lia)) ⟨I.ok.hd hc,e,fun h' tk acc kp hsz hacc=>⟨⟨_,am _ rfl,rfl⟩,?_⟩⟩
 have hv:=jLG hacc
 refine⟨.ref h'.objs.size,_,I.laid (a:=h'.objs.size) (t':=tk) (o:= .tup ((jEE i (j - i).toNat).map V.int)) (fun b o e=>af _ (kp b o e)) hsz ?_,rfl,q _ (I.hok.fresh hsz)⟩
 refine⟨?_,acc.toList,hv,0,?_⟩
 ·unfold jEE
  rw[ac,ac,b7,df]
  lia
 ·have:acc.toList.toArray=acc:=by simp
  rw[this]
  exact am _ rfl
abbrev WX:=Addr->Addr->St->Hp->Prop
def RZ (X:Cx)(ad:List (Addr×Obj))(W:WX):Value->Shared->Prop:=fun ev s2=>∃ x T C σ2 H2,ev= .ref x/\Inv X ad σ2 H2 s2/\H2 x=none/\H2 T=none/\ExcX s2.heap x C T/\
 (X.s₀.heap.get? x=none/\x≠X.env.locals/\(∀ y c,X.env.cells.lookup y=some c->c≠x)/\∀ p∈X.pn++ad,p.1≠x)/\(X.s₀.heap.get? T=none/\T≠X.env.locals/\(∀ y c,X.env.cells.lookup y=some c->c≠T)/\∀ p∈X.pn++ad,p.1≠T)/\W x C σ2 H2
abbrev TEX:=St->Hp->VK->(Addr->Addr->Hp->Prop)->Prop
abbrev TBX:=Ends->WX->St->Hp->Prop
structure JX (X:Cx)(e:Expr)(t:TEX):Prop where
 h:∀ (ad:List (Addr×Obj)) (s:Shared) (σ:St) (H:Hp) (Q:VK) (W:Addr->Addr->Hp->Prop),Inv X ad σ H s->t σ H Q W->wpAny (model X.prog X.w) X.A (eval e X.env) (EP X ad σ Q) (RZ X ad fun x C σ2 H2=>σ2=σ/\W x C H2) s
structure JB (X:Cx)(body:List Stmt)(t:TBX):Prop where
 h:∀ (ad:List (Addr×Obj)) (s:Shared) (σ:St) (H:Hp) (D:Ends) (W:WX),Inv X ad σ H s->t D W σ H->wpAny (model X.prog X.w) X.A (execs body X.env) (SP X ad D) (RZ X ad W) s
def jTP (C:Addr)(t:TA)(sp:Sp):TEX:=fun σ H Q W=>t σ H fun vs H1=>sp vs H1 Q fun e ox H2=>∀ x,e= .ref x->ox=some x->H2 x=none->W x C H2
def bExpr (t:TEX):TBX:=fun D W σ H=>t σ H (fun _ H1=>D.nx σ H1) fun x C H2=>W x C σ H2
def Dh (D:Ends)(j:Nat):Ends:= { nx:=fun σ H=>D.nx (σ.set j none) H,rt:=D.rt,bk:=fun σ H=>D.bk (σ.set j none) H,ct:=fun σ H=>D.ct (σ.set j none) H}
def tTryB (K:W.Frag)(B:Addr)(j:Nat)(tb:TBX)(ts:Addr->TS):TS:=fun D σ H=>tb D (fun x C σ2 H2=>Above K C B/\ts x (Dh D j) (σ2.set j (some (.ref x))) (upd H2 x (.ext (excP x C)))) σ H
section
variable {y g:Str}{k:Nat}{te t1:TEX}
theorem jUK (h:X.xe=fun _ _=>False):X=X.nox:=by
 cases X
 cases h
 rfl
theorem jNB (F:FnOk X.prog X.w X.K X.mg X.base (CXX X.prog X.w C) k f fd ps sp)(hr:Room k X.A)(hg:Gl1 X g)(hm:X.mg g=some (.ref f))(hk:keepIn X.K (.ref f)=true)(hb:Binds X.K fd ps [])(ha0:JA X (e::es) t)(hex:X.ex=[])
  (he:starEach (e::es) X.env=(false,eval e X.env)::starEach es X.env) (hdb:(g==("__debug__" :Str))=false:=by decide) (hpl:(backTo cp (starEach es X.env)).any (·.1)=false:=by rfl) (hxe:X.xe=fun _ _=>False:=by rfl):
  JX X (.Call (.Name g gp) (e::es) [] cp) (jTP C t sp):=by
 have ha:JA X.nox (e::es) t:=jUK hxe ▸ ha0
 refine⟨fun ad s σ H Q W I h=>cB (jCP I hg.a hm ?_ hdb)⟩
 refine gy (h₀:=X.base) I.ok.mod.kin hk (bC (ha.h cp ad s σ H _ (I.wish _) h) (fun us s1 ⟨vs,H1,I1,r1,q⟩=>⟨I1.unwish.kIn,?_⟩) fun _ _ z=>False.elim z) he hpl
 have I1:=I1.unwish
 have hl:us.length=ps.length:=by rw[<- r1.length]; exact F.len _ _ _ _ q
 have hbb:=hb s1 us I1.kIn (by rw[bf]; exact hl)
 rw[bf] at hbb
 refine fz (dF (F.run X.A X.stack s1 H1 ⟨us,[]⟩ us vs _ _ hr I1.env0 hbb r1 q) fun res s2 hq=>?_)
 cases res with
 | ok fl=>
  cases fl with
  | ret u=>exact I1.after hq
  | next=>exact False.elim hq
  | brk=>exact False.elim hq
  | cont=>exact False.elim hq
 | error ev=>
  obtain⟨x,T,H2,rfl,os2,bare2,un2,hok2,fx,fT,hx,hT,ex2,q2⟩:=hq
  have I2:Inv X ad σ H2 s2:=I1.call' os2 un2 hok2 bare2 fun b z=>absurd z (by simp)
  have hT1:s1.heap.get? T=none:=by
   cases z:s1.heap.get? T with
   | none=>rfl
   | some o=>exact absurd (ak z) (Nat.not_lt.mpr fT)
  exact⟨x,T,C,σ,H2,rfl,I2,hx,hT,ex2,I1.apart hex fx,I1.apart hex hT1,rfl,q2 x rfl rfl hx⟩
theorem RZ.out {ad:List (Addr×Obj)}{σ:St}{W':Addr->Addr->Hp->Prop}{W:WX}{ev:Value}{s:Shared}(h:RZ X ad (fun x C σ2 H2=>σ2=σ/\W' x C H2) ev s)(k:∀ x C H2,W' x C H2->W x C σ H2):RZ X ad W ev s:=by
 obtain⟨x,T,C,σ2,H2,e1,I2,a1,a2,a3,a4,a5,rfl,a6⟩:=h
 exact⟨x,T,C,_,H2,e1,I2,a1,a2,a3,a4,a5,k _ _ _ a6⟩
theorem jNH (h:JX X e te)(hs:SwOk e none):JB X [.Expr e rp] (bExpr te):=by
 refine⟨fun ad s σ H D W I hq=>g6 (wpAny_Expr_any (bC (h.h ad s σ H _ _ I hq) (fun u s1 ⟨x,H1,I1,r1,q1⟩=>?_) fun ev s1 z=>z.out fun _ _ _ q=>q) I.quiet (hs.h _ _))⟩
 exact dH ⟨σ,H1,I1,q1⟩
theorem Inv.lost {ad:List (Addr×Obj)}{σ:St}{H:Hp}{s:Shared}{h':Heap}{t':Nat}{v:Option Value}{m:Str->Option Value}(I:Inv X ad σ H s)(hN:X.N.Nodup)(hj:X.N[j]?=some n)(ln:X.env.scope.names.lookup n=some .local)(hm:s.heap.Ns X.env.locals m)(hl:∀ (i:Nat) (y:Str) (v:V),X.N[i]?=some y->σ[i]?=some (some v)->Vis X.env.scope y->∃ u,RelV v u/\Look X.env s.heap m y u)
  (hn:h'.Ns X.env.locals (fun x=>if x=n then v else m x)) (sb:Heap.SameBut X.env.locals s.heap h'):Inv X ad (σ.set j none) H { s with heap:=h',toks:=t'} :=by
 refine⟨I.ok,I.os,I.bare,I.base.sameBut sb I.ok.above,⟨_,hn,fun i y v e1 e2 e3=>?_⟩,fun y c e=>?_,I.free,I.freeC,fun p hp=>?_,I.hok.sameBut sb I.free,by rw[ik]; exact I.len⟩
 ·have nij:i≠j:=fun z=>by
   subst z
   by_cases hlt:i<σ.length
   ·rw[eO hlt] at e2
    cases e2
   ·rw[cX (by rw[ik]; lia)] at e2
    cases e2
  rw[fZ (cS nij)] at e2
  have yn:y≠n:=fun z=>by
   subst z
   exact nij ((List.getElem?_inj (av.mp e1).1 hN).mp (e1.trans hj.symm))
  obtain⟨u,r,l⟩:=hl i y v e1 e2 e3
  refine⟨u,r,?_⟩
  rcases l with ⟨lk,l⟩ | ⟨lk,c,hc,o,ho,hd⟩
  ·exact .inl ⟨lk,(aF yn).trans l⟩
  ·exact .inr ⟨lk,c,hc,o,(sb.2 c (I.cne y c hc)).trans ho,hd⟩
 ·obtain⟨v,o,ho,hd⟩:=I.cell y c e
  exact⟨v,o,(sb.2 c (I.cne y c e)).trans ho,hd⟩
 ·obtain⟨e,n,ne,nf,d⟩:=I.pin p hp
  exact⟨(sb.2 _ ne).trans e,n,ne,nf,d⟩
theorem jR6 {body:List Stmt}{s0:Stmt}{suite:List Stmt}{tb:TBX}{ts:Addr->TS}(hN:X.N.Nodup)(hn:X.N[j]?=some n)(ln:X.env.scope.names.lookup n=some .local)(hb:JB X body tb)
  (hc:Gl1 X c) (hmc:X.mg c=some (.ref B)) (hst:X.stack=X.env::X.outer) (hfr:X.env.frame=some X.env.locals) (hs:∀ x,JSs (jAZ X x) (s0::suite) (ts x)) (hdc:(c==("__debug__" :Str))=false:=by decide):
  JS X (.Try body [.ExceptHandler (some (.Name c np)) (some n) (s0::suite) hp] [] [] tp) (tTryB X.K B j tb ts):=by
 refine⟨fun ad s σ H D I h=>wpAny_Try_except (bC (hb.h ad s σ H D _ I h) (fun fl s1 q=>?_) fun ev s2 hz=>?_)⟩
 ·cases fl with
  | next=>exact dH q
  | brk=>exact q
  | cont=>exact q
  | ret u=>exact q
 ·obtain⟨x,T,C,σ2,H2,rfl,I2,hx,hT,ex2,ax,aT,ab,q3⟩:=hz
  have fr:=I.ok.frames
  have st2:=I2.stack
  rw[hst] at fr st2
  refine jPQ (base:=X.base) fr st2 hfr ex2 fun h3 T3 n3 e3 z3=>?_
  have I3:Inv X ad σ2 (upd H2 x (.ext (excP x C))) { s2 with heap:=h3} :=I2.held (by rw[hst]; exact n3) e3 hx hT ax aT
  refine wpAny_handleBy_cons (codeAny_handlers_test (jCP (X:=jAZ X x) (I3.suite x) hc.a hmc ?_ hdc)) (by intro q; cases q)
  obtain⟨nm,q,nm',q',N,N',bs,bm,bs',bm',hdct,hdct',sn,sn',sub,sub',ab,ab',col,col',dd,dd',k0,k1,k2,k3,k5,j0,j1,j2,j3,j5,ni,ni',b1,b2,hK⟩:=ab
  obtain⟨c1,c2⟩:=hK h3 I3.kIn
  obtain⟨vs3,_,_,hx3,_⟩:=id e3
  refine jPU c1 c2 hx3 rfl b1 b2 ?_
  refine codeAny_handlers_suite_as (jIN (s:= { s2 with heap:=h3}) e3 fun h4 k4=>?_)
  have I4:Inv X ad σ2 (upd H2 x (.ext (excP x C))) { s2 with heap:=h4} :=I3.kept (h':=h4) (t':=s2.toks) k4
  refine jC4 (X:=jAZ X x) (v:= .ref x) (I4.suite x) hN hn (.inl ln) rfl (fun s5 I5=>?_) (.inr ln)
  refine bC ((hs x).h ad s5 _ _ (Dh D j) I5 q3) (fun fl s6 q6=>?_) fun _ _ z=>False.elim z
  have go:∀ {σ6:St}{H6:Hp}{Q:Shared->Prop},Inv (jAZ X x) ad σ6 H6 s6->(∀ s7,Inv X ad (σ6.set j none) H6 s7->Q s7)->wpAny (model X.prog X.w) X.A (do bindName X.env n .none; unbindBehindTheSuite X.env n hp) (fun _ s7=>Q s7) X.xe s6:=fun {σ6 H6 Q} I6 k=>by
   have I6:=I6.unsuite I.ok
   obtain⟨m6,hn6,hl6⟩:=id I6.loc
   exact wpAny_nameGoes_keeps ln hn6 (by rw[I.ok.kind]; rfl) fun h7 v hn7 sb7=>k _ (I6.lost hN hn ln hn6 hl6 hn7 sb7)
  cases fl with
  | next=>
   obtain⟨σ6,H6,I6,d6⟩:=q6
   exact go I6 fun s7 I7=>⟨_,H6,I7,d6⟩
  | brk=>
   obtain⟨σ6,H6,I6,d6⟩:=q6
   exact go I6 fun s7 I7=>⟨_,H6,I7,d6⟩
  | cont=>
   obtain⟨σ6,H6,I6,d6⟩:=q6
   exact go I6 fun s7 I7=>⟨_,H6,I7,d6⟩
  | ret u=>
   obtain⟨v,σ6,H6,I6,r6,d6⟩:=q6
   exact go I6 fun s7 I7=>⟨v,_,H6,I7,r6,d6⟩
end
section
variable {st:Stmt}{sts:List Stmt}{t:TS}
theorem JS.nox (h:JS X.nox st t):JS X st t:=⟨fun ad s σ H D I hw=>bC (h.h ad s σ H D (I.wish _) hw) (fun _ _ q=>q.unwish) fun _ _ z=>False.elim z⟩
theorem JT.nox (h:JT X.nox e tt):JT X e tt:=⟨h.h.nox⟩
theorem JSs.nox (h:JSs X.nox sts t):JSs X sts t:=⟨h.h.nox⟩
end
def jTM (E:XK)(t:TA):TS:=fun _ σ H=>t σ H fun vs H1=>vs.length<=sizeLine/\∀ a,E (.ref a) (some a) H1
theorem jH6 {P:Program}{w:World}{K:W.Frag}{mg:Str->Option Value}{base:Heap}{N:List Str}{qual:Str}{sc:Scope}{f:Addr}{dl:Value}{A:Around}{outer:List Env}{s:Shared}{H:Hp}{E:XK}{x:Str}{C:Addr}{c:Const}{k:Nat}{t:TA}{np cpos pos p:Pos}
  (hc:(cxOf (CXX P w C) P w K mg base N qual sc f dl A outer s H E).calm=true) (ek:ExcK K C) (hg:Gl1 (cxOf (CXX P w C) P w K mg base N qual sc f dl A outer s H E).nox x) (hm:mg x=some (.ref C)) (ha:JA (cxOf (CXX P w C) P w K mg base N qual sc f dl A outer s H E) [.Constant c k p] t) (hd:(x==("__debug__" :Str))=false:=by decide):
  JS (cxOf (CXX P w C) P w K mg base N qual sc f dl A outer s H E) (.Raise (some (.Call (.Name x np) [.Constant c k p] [] cpos)) none pos) (jTM E t):=
 ⟨jM3 hc ek hg.a hm ha.h (fun _ _ _ _ _ _ _ I m w1=>xe_cx I m w1) hd rfl rfl⟩
theorem Fun.okX {P:Program}{w:World}{K:W.Frag}{mg:Str->Option Value}{base:Heap}{C:Addr}{x qual:Str}{st:Stmt}{f:Addr}{fd:FuncData}{N ps:List Str}{k:Nat}{sp:Sp}(F:Fun K x qual st f fd)(S:FnScope N ps (jA st))(len:∀ vs H Q E,sp vs H Q E->vs.length=ps.length)
  (hbody:∀ (dl:Value) (A:Around) (outer:List Env) (s:Shared) (H:Hp) (vs:List V) (Q:VK) (E:XK),Room k (A.deeper (envOfC qual (jA st) s.heap.objs.size f dl))->sp vs H Q E->
   ∃ t,PSs (cxOf (CXX P w C) P w K mg base N qual (jA st) f dl A outer s H E) (jN st) t/\t { nx:=fun _ H'=>Q .non H',rt:=Q} (yT N vs) H):FnOk P w K mg base (CXX P w C) (k+1) f fd ps sp:=by
 obtain⟨oc,od,kV,doc,pm,an,dl,ct,osl,rfl,lk,hcd⟩:=F.ex
 exact fn_of lk hcd S len fun A outer s H vs Q E hr hsp=>hbody dl A outer s H vs Q E hr hsp
end L2
namespace L2
open PySem
structure CanS (P:Program)(w:World)(K:W.Frag)(mg:Str->Option Value)(base:Heap)(x:Str)(k:Nat)(f:Addr)(fd:FuncData)(ps:List Str)(sp:Addr->Sp):Prop where
 G:FnS P w K mg base k f fd ps sp
 m:mg x=some (.ref f)
 kp:keepIn K (.ref f)=true
 b:Binds K fd ps []
structure CanX (C:Addr)(P:Program)(w:World)(K:W.Frag)(mg:Str->Option Value)(base:Heap)(x:Str)(k:Nat)(f:Addr)(fd:FuncData)(ps:List Str)(sp:Sp):Prop where
 G:FnOk P w K mg base (CXX P w C) k f fd ps sp
 m:mg x=some (.ref f)
 kp:keepIn K (.ref f)=true
 b:Binds K fd ps []
end L2
namespace L2
open PySem PySem.Spec PyProof.Rows
theorem RoomS.units101 {k:Nat}{A:Around}{x:Addr}(r:RoomS k A x):A.units+101<cLine:=by have:=r.un; lia
section
variable {m:List (Option Nat)}{g:TG}{tt:TT}{te:TE}{σ:St}{H1:Hp}{Q:VK}
theorem jO7 {x:Addr}{n:Nat}(hn:n<sizeLine)(Pv:Addr->Nat->St->Hp->List V->Prop)(h0:∀ D,H1 D=none->Pv D 0 (blkσ m σ) (upd H1 D (.lst [])) [])
  (hD:∀ D i σ' H' ys,H1 D=none->i<=n->Pv D i σ' H' ys->(∃ C,H' x=some (.ext (excP x C)))/\H' D=some (.lst ys)/\ys.length<=i)
  (hs:∀ D i σ' H' ys,H1 D=none->i<n->Pv D i σ' H' ys->g (.int (0+i)) σ' H' fun σ2 H2=>tt σ2 H2 fun b H3=>if b=true then te σ2 H3 fun v H4=>H4 D=some (.lst ys)/\Pv D (i+1) σ2 (upd H4 D (.lst (ys++[v]))) (ys++[v]) else Pv D (i+1) σ2 H3 ys)
  (hd:∀ D σ' H' ys,H1 D=none->Pv D n σ' H' ys->Q (.ref D) H'):qE m g tt te σ Q (ItrS x 0 n) H1:=by
 intro D hDn
 obtain⟨W,w0,k⟩:=jAD (lo:=0) (m:=m) (g:=g) (tt:=tt) (te:=te) (σ:=σ) (Q:=fun v H'=>(∃ C,H' x=some (.ext (excP x C)))/\Q v H') hn Pv h0 (fun D i σ' H' ys a b c=>(hD D i σ' H' ys a b c).2) hs (fun D σ' H' ys a c=>⟨(hD D n σ' H' ys a (ai _) c).1,hd D σ' H' ys a c⟩) D hDn
 refine⟨W,w0,fun i n σ' H' ys w=>?_⟩
 obtain⟨a,b,c⟩:=k i n σ' H' ys w
 refine⟨a,b,?_⟩
 rcases c with ⟨c1,c2,c3⟩ | c
 ·exact .inl ⟨⟨c1,c2⟩,c3⟩
 ·exact .inr c
end
section
variable {P:Program}{w:World}{K:W.Frag}{mg:Str->Option Value}{base:Heap}
end
section
variable {X:Cx}{Z:Shared->Hp->Prop}{zh:Hp->Prop}{k:Nat}{a:Addr}{sp:Sp}{x:Str}{p pos:Pos}{e:Expr}{es:List Expr}{t:TA}{j:Nat}
end
end L2
namespace TM
open PySem PyProof.Rows
class Od where
 kd:SortKind
 ky:Keyed->Int
 is:Keyed->Prop
abbrev key [Od]:Keyed->Int:=Od.ky
abbrev IsI [Od]:Keyed->Prop:=Od.is
class LtOk (prog:Program) (w:World) (A:Around) (s:Shared) [Od]:Prop where
 lt:∀ {E:Value->Shared->Prop}{st:SortSt}{x y:Keyed}{Q:Option Bool->SortSt->Prop},kindOf st=Od.kd->IsI x->IsI y->Q (some (decide (key x<key y))) st->wpS (model prog w) A E s (lt' x y) Q st
variable [Od]
def jTA:Bool->Keyed->Array Keyed->Nat->Nat->Nat->StateT SortSt Sem (Option Nat):=sortPriv% PySem.Builtin.gallop
theorem elP:(sortPriv% PySem.Builtin.elem)=elem':=rfl
theorem ltP:(sortPriv% PySem.Builtin.lt)=lt':=rfl
theorem ltAtP:(sortPriv% PySem.Builtin.ltAt)=ltAt':=rfl
theorem gallopP:(sortPriv% PySem.Builtin.gallop)=jTA:=rfl
section
variable {prog:Program}{w:World}{A:Around}{E:Value->Shared->Prop}{s:Shared}
end
section
variable {prog:Program}{w:World}{A:Around}{E:Value->Shared->Prop}{s:Shared} [LtOk prog w A s]
end
def jFL:Nat->StateT SortSt Sem Unit:=sortPriv% PySem.Builtin.setMinGallop
theorem setMinP:(sortPriv% PySem.Builtin.setMinGallop)=jFL:=rfl
def jPS:Array Keyed->Array Keyed->StateT SortSt Sem (Array Keyed):=sortPriv% PySem.Builtin.mergeLo
theorem mergeLoP:(sortPriv% PySem.Builtin.mergeLo)=jPS:=rfl
def jPT:Array Keyed->Array Keyed->StateT SortSt Sem (Array Keyed):=sortPriv% PySem.Builtin.mergeHi
theorem mergeHiP:(sortPriv% PySem.Builtin.mergeHi)=jPT:=rfl
variable {a b:Array Keyed}{i j:Nat}
section
variable {out:Array Keyed}{k:Nat}
end
section
variable {prog:Program}{w:World}{A:Around}{E:Value->Shared->Prop}{s:Shared} [LtOk prog w A s]
end
section
variable {prog:Program}{w:World}{A:Around}{E:Value->Shared->Prop}{s:Shared} [LtOk prog w A s]
end
section
variable {out:Array Keyed}{k:Nat}
end
section
variable {prog:Program}{w:World}{A:Around}{E:Value->Shared->Prop}{s:Shared} [LtOk prog w A s]
end
section
variable {prog:Program}{w:World}{A:Around}{E:Value->Shared->Prop}{s:Shared} [LtOk prog w A s]
end
section
variable {prog:Program}{w:World}{A:Around}{E:Value->Shared->Prop}{s:Shared} [LtOk prog w A s]{a₀:Array Keyed}{p:Array (Nat×Nat×Nat)}{F:Nat->Int}{lo:Nat}
end
section
variable {prog:Program}{w:World}{A:Around}{E:Value->Shared->Prop}{s:Shared} [LtOk prog w A s]
end
section
variable {xs ys:Array Keyed}
end
section
variable {prog:Program}{w:World}{A:Around}{E:Value->Shared->Prop}{s:Shared} [LtOk prog w A s]{a₀:Array Keyed}
end
end TM
namespace TM
open PySem PySem.Spec PyProof.Rows
section
variable {prog:Program}{w:World}{A:Around}{E:Value->Shared->Prop}{s:Shared}
end
end TM
namespace L2
open PySem PySem.Spec PyProof.Rows
section
variable {prog:Program}{w:World}{A:Around}{E:Value->Shared->Prop}{s:Shared}{d:Addr}{iY:List (Key×Value)}
end
variable {X:Cx}
section
variable {x:Str}{p pos kpos:Pos}{e:Expr}{es:List Expr}{kws:List Keyword}{t tk:TA}{te:TE}{nm:Option Str}{ks:List Str}{id:String}{r:List V->List V->Hp->VK->Prop}
end
def All2 {α β:Type}(R:α->β->Prop):List α->List β->Prop
 | [],[]=>True
 | a::as,b::bs=>R a b/\All2 R as bs
 | _,_=>False
section
variable {α β:Type}{R S:α->β->Prop}
theorem All2.len:∀ {as:List α}{bs:List β},All2 R as bs->as.length=bs.length
 | [],[],_=>rfl
 | _::_,_::_,h=>cg (· +1) (All2.len h.2)
theorem All2.imp (f:∀ a b,R a b->S a b):∀ {as:List α}{bs:List β},All2 R as bs->All2 S as bs
 | [],[],_=>trivial
 | _::_,_::_,h=>⟨f _ _ h.1,All2.imp f h.2⟩
theorem All2.snoc {a:α}{b:β} :∀ {as:List α}{bs:List β},All2 R as bs->R a b->All2 R (as++[a]) (bs++[b])
 | [],[],_,h=>⟨h,trivial⟩
 | _::_,_::_,h,k=>⟨h.1,All2.snoc h.2 k⟩
theorem All2.get':∀ {as:List α}{bs:List β}{i:Nat}{a:α},All2 R as bs->as[i]?=some a->∃ b,bs[i]?=some b/\R a b
 | [],[],i,b,_,h=>by simp at h
 | a::_,b::_,0,x,h,e=>by
  simp at e
  subst e
  exact⟨b,rfl,h.1⟩
 | _::_,_::_,i+1,x,h,e=>by
  obtain⟨b,h1,h2⟩:=All2.get' h.2 (i:=i) (a:=x) (by simpa using e)
  exact⟨b,by simpa using h1,h2⟩
theorem All2.append:∀ {as as':List α}{bs bs':List β},All2 R as bs->All2 R as' bs'->All2 R (as++as') (bs++bs')
 | [],_,[],_,_,h=>h
 | _::_,_,_::_,_,h,k=>⟨h.1,All2.append h.2 k⟩
end
def lowN (m:Nat):Nat:=if m % 2=1 then lowN (m / 2)+1 else 0
theorem jH1 {m:Nat}(h:m % 2=0):lowN m=0:=by
 unfold lowN
 rw[aF (by lia)]
theorem jJO {m:Nat}(h:m % 2=1):lowN m=lowN (m / 2)+1:=by
 rw[lowN,aD h]
theorem jE7 (m:Nat):m.testBit (lowN m)=false:=by
 induction m using strongRecOn with
 | _ m ih=>
  rcases gH m with h | h
  ·rw[jH1 h,Nat.testBit_zero,h]
   rfl
  ·rw[jJO h,Nat.testBit_succ]
   exact ih _ (by lia)
theorem jFZ (m:Nat):∀ j,j<lowN m->m.testBit j=true:=by
 induction m using strongRecOn with
 | _ m ih=>
  intro j hj
  rcases gH m with h | h
  ·rw[jH1 h] at hj
   lia
  ·rw[jJO h] at hj
   cases j with
   | zero=>rw[Nat.testBit_zero,h]; rfl
   | succ j=>
    rw[Nat.testBit_succ]
    exact ih _ (by lia) j (by lia)
theorem jR5 {m t:Nat}(h1:m.testBit t=false)(h2:∀ j,j<t->m.testBit j=true):lowN m=t:=by
 rcases gN (lowN m) t with h | h | h
 ·have:=h2 _ h
  rw[jE7] at this
  cases this
 ·exact h
 ·have:=jFZ m t h
  rw[h1] at this
  cases this
theorem jNS {m w:Nat}(h:m<2 ^ w)(a:∀ j,j<w->m.testBit j=true):m=2 ^ w - 1:=by
 apply cK
 intro i
 rw[cr]
 by_cases hi:i<w
 ·rw[a i hi,ao hi]
 ·rw[aN hi]
  exact ig (aP h (dQ (by decide) (by lia)))
theorem jJM {m w:Nat}(h:m<2 ^ w)(hn:m≠2 ^ w - 1):lowN m<w:=by
 refine cZ fun z=>hn (jNS h fun j hj=>jFZ m j (by lia))
abbrev Ch:=List (List (Int×Nat))
def yB (ch:Ch):Nat:=2 ^ ch.length - 1
def chAt (ch:Ch)(m:Nat):List (Int×Nat):=(ch.getD (lowN m) []).filter fun c=>c.2&&&m==0
structure ChOk (ch:Ch):Prop where
 w:ch.length<=16
 len:∀ (t:Nat) (cs:List (Int×Nat)),ch[t]?=some cs->cs.length<=33
 it:∀ (t:Nat) (cs:List (Int×Nat)),ch[t]?=some cs->∀ c∈cs,c.2.testBit t=true/\c.2<2 ^ ch.length/\ -1<=c.1/\c.1<32
theorem ChOk.mem {ch:Ch}{m:Nat}{c:Int×Nat}(o:ChOk ch)(h:m<2 ^ ch.length)(hn:m≠yB ch)(hc:c∈chAt ch m):c.2.testBit (lowN m)=true/\c.2<2 ^ ch.length/\c.2&&&m=0/\ -1<=c.1/\c.1<32:=by
 obtain⟨h1,h2⟩:=aW.mp hc
 have hl:=jJM h hn
 rw[aC,aK hl] at h1
 obtain⟨a,b,c1,c2⟩:=o.it _ _ (aK hl) c h1
 exact⟨a,b,by simpa using h2,c1,c2⟩
theorem ChOk.up {ch:Ch}{m:Nat}{c:Int×Nat}(o:ChOk ch)(h:m<2 ^ ch.length)(hn:m≠yB ch)(hc:c∈chAt ch m):m<m|||c.2/\m|||c.2<2 ^ ch.length:=by
 obtain⟨a,b,z,_⟩:=o.mem h hn hc
 refine⟨?_,gP h b⟩
 refine Nat.lt_of_le_of_ne Nat.left_le_or fun e=>?_
 have t:m.testBit (lowN m)=(m|||c.2).testBit (lowN m):=cg (fun z=>z.testBit (lowN m)) e
 rw[bI,a,di,jE7] at t
 cases t
def gvN {α:Type}(ch:Ch)(e:α)(J:List (Int×α)->α):Nat->Nat->α
 | 0,_=>e
 | n+1,m=>if m=yB ch then e else J ((chAt ch m).map fun c=>(c.1,gvN ch e J n (m|||c.2)))
def gv {α:Type}(ch:Ch)(e:α)(J:List (Int×α)->α)(m:Nat):α:=gvN ch e J (yB ch - m) m
theorem jT7 {α:Type}{ch:Ch}{e:α}{J:List (Int×α)->α}(o:ChOk ch):∀ (k n m:Nat),yB ch - m<=k->yB ch - m<=n->m<2 ^ ch.length->gvN ch e J n m=gvN ch e J k m:=by
 intro k
 induction k with
 | zero=>
  intro n m h1 h2 h3
  have:m=yB ch:=by
   unfold yB at h1 ⊢
   lia
  subst this
  cases n with
  | zero=>rfl
  | succ n=>show gvN ch e J (n+1) (yB ch)=e; rw[gvN,aD rfl]
 | succ k ih=>
  intro n m h1 h2 h3
  by_cases hm:m=yB ch
  ·subst hm
   cases n with
   | zero=>show e=gvN ch e J (k+1) (yB ch); rw[gvN,aD rfl]
   | succ n=>
    have q:∀ i,gvN ch e J (i+1) (yB ch)=e:=fun i=>by rw[gvN,aD rfl]
    rw[q,q]
  ·have hlt:m<yB ch:=by
    unfold yB at hm ⊢
    lia
   cases n with
   | zero=>lia
   | succ n=>
    rw[gvN,aF hm,gvN,aF hm]
    congr 1
    refine bZ fun c hc=>?_
    obtain⟨u1,u2⟩:=o.up h3 hm hc
    rw[ih n (m|||c.2) (by lia) (by lia) u2]
theorem jT6 {α:Type}{ch:Ch}{e:α}{J:List (Int×α)->α} :gv ch e J (yB ch)=e:=by
 unfold gv
 rw[Nat.sub_self,gvN]
theorem jT5 {α:Type}{ch:Ch}{e:α}{J:List (Int×α)->α}{m:Nat}(o:ChOk ch)(h:m<2 ^ ch.length)(hn:m≠yB ch):gv ch e J m=J ((chAt ch m).map fun c=>(c.1,gv ch e J (m|||c.2))):=by
 have hlt:m<yB ch:=by
  unfold yB at hn ⊢
  lia
 have:gv ch e J m=gvN ch e J ((yB ch - m - 1)+1) m:=by
  unfold gv
  rw[show yB ch - m - 1+1=yB ch - m by lia]
 rw[this,gvN,aF hn]
 congr 1
 refine bZ fun c hc=>?_
 obtain⟨u1,u2⟩:=o.up h hn hc
 unfold gv
 rw[jT7 o (yB ch - (m|||c.2)) _ _ (ai _) (by lia) u2]
end L2
namespace L2
open PySem
variable {X:Cx}
section
variable {tg iter elt:Expr}{ifs:List Expr}{sc:Scope}{pos:Pos}{wi:TI}{g:TG}{tt:TT}{te:TE}{m:List (Option Nat)}{Nc:List Str}
end
end L2
namespace L2
open PySem PySem.Spec PyProof.Rows
variable {X:Cx}
section
open Classical in
theorem jM9 (hu:X.A.units+101<cLine):OpR X (compareOp .In) (fun x y H Q=>∃ u ts,TAt H u x/\TAt H (.lst ts) y/\deps ts<=100/\Q (.bl (ts.any fun t=>eqT t u)) H):=by
 intro ad s σ H x y v w Q I rx ry h
 obtain⟨u,ts,hx,⟨b,vs,rfl,hb,hts⟩,hd,q⟩:=h
 cases ry
 obtain⟨its,r,pl,_⟩:=I.list (SqL.of hb)
 have l1:=r.length
 have m1:=hts.len
 have at_:∀ y∈its,∃ t z,t∈ts/\TAt H t z/\RelV z y:=fun y hy=>by
  obtain⟨j,hj,rfl⟩:=cz hy
  have hv:vs[j]?=some (vs[j]'(by lia)):=by simp [show j<vs.length by lia]
  obtain⟨y',hy',ry⟩:=r.get hv
  rw[aK hj] at hy'
  cases hy'
  obtain⟨t,ht,tz⟩:=hts.get hv
  exact⟨t,_,aB ht,tz,ry⟩
 have of_:∀ t∈ts,∃ y∈its,∃ z,TAt H t z/\RelV z y:=fun t ht=>by
  obtain⟨j,hj,rfl⟩:=cz ht
  have hv:vs[j]?=some (vs[j]'(by lia)):=by simp [show j<vs.length by lia]
  obtain⟨y',hy',ry⟩:=r.get hv
  obtain⟨t,ht,tz⟩:=hts.get hv
  rw[aK hj] at ht
  cases ht
  exact⟨y',aB hy',_,tz,ry⟩
 let e:Value->Bool:=fun y=>decide (∃ t z,t∈ts/\TAt H t z/\RelV z y/\eqT t u=true)
 have one:∀ {t:Tr}{z:V}{y:Value},t∈ts->TAt H t z->RelV z y->e y=eqT t u:=fun {t z y} ht tz rz=>by
  show decide _=_
  cases he:eqT t u with
  | true=>exact ao ⟨t,z,ht,tz,rz,he⟩
  | false=>
   refine aN ?_
   rintro ⟨t',z',_,tz',rz',he'⟩
   have:z=z':=rz.inj rz'
   subst this
   have:t=t':=tz.inj tz'
   subst this
   rw[he] at he'
   cases he'
 refine SeqAt.in_listAt e pl.isList (fun y hy=>?_) ⟨.bl _,H,I,rfl,?_⟩
 ·obtain⟨t,z,ht,tz,rz⟩:=at_ y (by simpa using hy)
  rw[one ht tz rz]
  have hd':=jG9 ht
  exact jRB I (dep t) t u z x y v _ rfl tz hx rz rx (by rw[dU]; lia)
 ·have ea:its.toArray.any e=ts.any fun t=>eqT t u:=by
   rw[bq,cf]
   constructor
   ·intro h
    obtain⟨y,hy,hye⟩:∃ y∈its,e y=true:=by simpa [cf] using h
    obtain⟨t,z,ht,tz,rz⟩:=at_ y hy
    rw[one ht tz rz] at hye
    exact⟨t,ht,hye⟩
   ·rintro ⟨t,ht,he⟩
    obtain⟨y,hy,z,tz,rz⟩:=of_ t ht
    have:∃ y∈its,e y=true:=⟨y,hy,by rw[one ht tz rz]; exact he⟩
    simpa [cf] using this
  rw[ea]
  exact q
end
def tBMX (K:W.Frag)(T:String)(r:V->List V->Hp->VK->Prop)(to:TE)(t1:TEX):TEX:=fun σ H Q W=>to σ H fun x H1=>tyV K T x H1/\t1 σ H1 (fun v H2=>r x [v] H2 Q) W
section
variable {o e:Expr}{to:TE}{t1:TEX}{T id:String}{name:Str}{r:V->List V->Hp->VK->Prop}{apos cpos:Pos}
theorem jx_bm (pa:PlainAttrs T)(slot:Slot T name id)(hty:typeOf (.builtin id)=pure (.type "method_descriptor"))(hm:MtR X id r)(ho:JE X o to)(h1:JX X e t1)
  (hs:starEach [e] X.env=(false,eval e X.env)::starEach [] X.env) (hxe:X.xe=fun _ _=>False:=by rfl)
  (hbase:attributeBase o name X.env (eval o X.env)=eval o X.env:=by rfl)
  (hfew:((backTo cpos (starEach [e] X.env)).all (fun x=>!x.1)&&(backToKw cpos (keywordEach [] X.env)).all (fun x=>x.1.isSome)
   &&decide ([e].length+([]:List Keyword).length+(if ([]:List Keyword).isEmpty then 0 else 1)<30))=true:=by rfl)
  (hline:(apos.endLine==cpos.line)=true:=by rfl):
  JX X (.Call (.Attribute o name apos) [e] [] cpos) (tBMX X.K T r to t1):=by
 have nox:∀ {α:Type}{m:Sem α}{Q:α->Shared->Prop}{R:Value->Shared->Prop}{s:Shared},wpAny (model X.prog X.w) X.A m Q X.xe s->wpAny (model X.prog X.w) X.A m Q R s:=fun h=>bC h (fun _ _ z=>z) fun _ _ z=>by rw[hxe] at z; exact z.elim
 refine⟨fun ad s σ H Q W I h=>eU hbase hfew hline rfl (bC (nox (ho.h ad s σ H _ I h)) (fun v s1 ⟨x,H1,I1,r1,ty,q1⟩=>?_) fun _ _ z=>z)⟩
 obtain⟨a1,a2⟩:=jQR I1 r1 ty
 refine⟨T,id,pa,slot,hty,a1,a2,?_⟩
 rw[hs]
 refine eV rfl (cI ?_)
 refine Calls.spliced_cons (bC (h1.h ad s1 σ H1 _ W I1 q1) (fun u s2 ⟨y,H2,I2,r2,q2⟩=>?_) fun _ _ z=>z)
 refine Calls.spliced_nil ?_
 exact nox (hm ad s2 σ H2 x [y] v [u] Q I2 r1 (.cons r2 .nil) q2)
end
open AutoSeq1 (wpAny_loadPart')
end L2
open PySem L2
variable {P:Program}{w:World}{K:W.Frag}{mg:Str->Option Value}{base:Heap}{f fT fL fW fR fI fM fC fP fB fU tb fK fF fS cE:Addr}{fdT fdL fdW fdR fdI fdM fdC fdP fdB fdU fdK fdF fdS:FuncData}{dl:Value}{A:Around}{outer:List Env}{s:Shared}{H0:Hp}{E:XK}{cl:List (Str×Addr)}{ms:List Int}{pcs:List (List Int×Int)}{ks:Nat->Bool}
namespace Eo
open PySem L2
def Keep (H H':Hp)(p:Addr):Prop:=∀ b o,H b=some o->b≠p->H' b=some o
structure Txt (mg:Str->Option Value):Prop where
 len:mg "len" =none
 range:mg "range" =none
 tuple:mg "tuple" =none
 sorted:mg "sorted" =none
 set:mg "set" =none
 list:mg "list" =none
 int:mg "int" =none
 isinstance:mg "isinstance" =none
 bool:mg "bool" =none
 str:mg "str" =none
 all:mg "all" =none
 zip:mg "zip" =none
 max:mg "max" =none
 min:mg "min" =none
 any:mg "any" =none
 abs:mg "abs" =none
 sum:mg "sum" =none
 enumerate:mg "enumerate" =none
 dict:mg "dict" =none
 ValueError:mg "ValueError" =none
structure Can (P:Program)(w:World)(K:W.Frag)(mg:Str->Option Value)(base:Heap)(x:Str)(k:Nat)(f:Addr)(fd:FuncData)(ps:List Str)(sp:Sp):Prop where
 G:FnOk P w K mg base CX0 k f fd ps sp
 m:mg x=some (.ref f)
 kp:keepIn K (.ref f)=true
 b:Binds K fd ps []
theorem Can.pe {X:Cx}{x:Str}{k:Nat}{f:Addr}{fd:FuncData}{ps:List Str}{sp:Sp}{e:Expr}{es:List Expr}{t:TA}{p pos:Pos}(C:Can X.prog X.w X.K X.mg X.base x k f fd ps sp)(hr:Room k X.A)(hg:Gl X x)(ha:PA X (e::es) t)(hdb:(x==("__debug__" :Str))=false:=by decide)
  (he:starEach (e::es) X.env=(false,eval e X.env)::starEach es X.env:=by rfl) (hpl:(backTo pos (starEach es X.env)).any (·.1)=false:=by rfl):PE X (.Call (.Name x p) (e::es) [] pos) (tCall sp [] E0 t):=
 jSE C.G hr hg C.m C.kp C.b .nil pass0 ha hdb he hpl
theorem Can.je {X:Cx}{x:Str}{k:Nat}{f:Addr}{fd:FuncData}{ps:List Str}{sp:Sp}{e:Expr}{es:List Expr}{t:TA}{p pos:Pos}(C:Can X.prog X.w X.K X.mg X.base x k f fd ps sp)(hr:Room k X.A)(hg:Gl1 X x)(ha:JA X (e::es) t)(he:starEach (e::es) X.env=(false,eval e X.env)::starEach es X.env)
  (hdb:(x==("__debug__" :Str))=false:=by decide) (hpl:(backTo pos (starEach es X.env)).any (·.1)=false:=by rfl):JE X (.Call (.Name x p) (e::es) [] pos) (tCall sp [] E0 t):=
 ⟨C.pe hr hg.a ha.h hdb he hpl⟩
def jGN (K:W.Frag):Sp:=fun vs H Q _=>∃ (a:Addr) (ns:List Int) (k:Int),vs=[.ref a, .int k]/\SqL K H a (ns.map V.int)/\0<=k/\∀ c:Int,Q (.int c) H
theorem jTR:FnScope ["script","k"] ["script","k"] (jA sCell):= {}
theorem jSU {f:Addr}{fd:FuncData}(F:Fun K "_law_cell_at" "_law_cell_at" sCell f fd)(T:Txt mg):FnOk P w K mg base CX0 1 f fd ["script","k"] (jGN K):=by
 refine F.ok jTR (fun vs H Q E h=>?_) (fun dl A outer s H vs Q E hr h=>?_)
 ·obtain⟨a,ns,k,rfl,_⟩:=h
  rfl
 ·obtain⟨a,ns,k,rfl,hS,h0,q⟩:=h
  refine⟨_,yH (ps_if (jDW op_lt (pv 1) (jFS jV (by rfl) T.len PySem.boot_len (kY (pv 0) qF)) (kT _)) (jB3 (jD7 (pe_ix jB9 (pv 0) (pv 1) (fun _ _=>rfl)))) jFO) (jB3 (jD7 kO)),?_⟩
  refine⟨_,rfl,_,rfl,a,_,rfl, .inl hS,_,_,rfl,rfl,_,rfl,?_⟩
  refine ite2 (fun hlt=>?_) (fun _=>?_)
  ·have hlt:k<((ns.map V.int).length:Int):=aq hlt
   have hk:k.toNat<ns.length:=by rw[ac] at hlt; lia
   refine⟨_,rfl,_,rfl,a,_,k, .int (ns[k.toNat]),rfl,rfl,hS,?_,q _⟩
   have e:(k.toNat:Int)=k:=by lia
   have q2:=yR (xs:=ns.map V.int) (j:=k.toNat) (v:=V.int ns[k.toNat]) (by simp [hk])
   rw[e] at q2
   exact q2
  ·exact q 0
def yZ:Sp:=fun vs H Q _=>∃ (p:Addr) (N w:Int),vs=[.ref p, .int w]/\H p=some (.lst [.int N])/\0<=N/\0<w/\w<2 ^ 64/\∀ N' r:Int,0<=N'->0<=r->r<w->Q (.int r) (upd H p (.lst [.int N']))
theorem scTake:FnScope ["pot","wide","found"] ["pot","wide"] (jA sTake):= {}
theorem jSO {f:Addr}{fd:FuncData}(F:Fun K "_law_take" "_law_take" sTake f fd):FnOk P w K mg base CX0 1 f fd ["pot","wide"] yZ:=by
 refine F.ok scTake (fun vs H Q E h=>?_) (fun dl A outer s H vs Q E hr h=>?_)
 ·obtain⟨a,ns,k,rfl,_⟩:=h
  rfl
 ·obtain⟨p,N,w,rfl,hp,h0,h1,h2,q⟩:=h
  refine⟨_,yH (qV (i:=2) scTake.nd rfl (Or.inl rfl) (yE jGU (pe_ix jB9 (pv 0) kO (fun _ _=>rfl)) (pv 1)))
   (yH (jQW (yE jJD (pe_ix jB9 (pv 0) kO (fun _ _=>rfl)) (pv 1)) (jQX (pv 0) kO jFK))
   (jB3 (jD7 (pv 2)))),?_⟩
  refine⟨_,rfl,p,_,0, .int N,rfl,rfl,SqL.of hp,rfl,_,rfl,_,_,rfl,rfl,h1,?_⟩
  refine⟨_,rfl,p,_,0, .int N,rfl,rfl,SqL.of hp,rfl,_,rfl,_,_,rfl,rfl,⟨h1,h2⟩,?_⟩
  refine⟨_,rfl,p,_,0,0,rfl,rfl,hp,rfl,_,rfl,?_⟩
  exact q _ _ (Int.ediv_nonneg h0 (by lia)) (Int.emod_nonneg _ (by lia)) (iQ _ h1)
def spPot:Sp:=fun vs H Q _=>∃ c:Int,vs=[.int c]/\∀ (p:Addr) (N:Int),H p=none->0<=N->Q (.ref p) (upd H p (.lst [.int N]))
theorem scPot:FnScope ["cell","number","j","more"] ["cell"] (jA sPot):= {}
theorem jUF {f:Addr}{fd:FuncData}(F:Fun K "_law_pot" "_law_pot" sPot f fd)(T:Txt mg):FnOk P w K mg base CX0 1 f fd ["cell"] spPot:=by
 refine F.ok scPot (fun vs H Q E h=>?_) (fun dl A outer s H vs Q E hr h=>?_)
 ·obtain⟨c,rfl,_⟩:=h
  rfl
 ·obtain⟨c,rfl,q⟩:=h
  have one: [V.int 0].length<=sizeLine:=by show 1<=sizeLine; decide
  refine⟨_,yH (ps_if (jDW op_ge (pv 0) (yE jM8 kO kO) (kT _)) (jB3 (jD7 (jJB (kY (yE jEZ (pv 0) (yE jM8 kO kO)) qF)))) jFO)
   (yH (qV (i:=1) scPot.nd rfl (Or.inl rfl) kO)
   (yH (jQV bB rfl (jC7 rfl T.range (kY kO qF)) (jFR (i:=2) scPot.nd rfl (Or.inl rfl))
    (yH (qV (i:=3) scPot.nd rfl (Or.inl rfl) (yE jGU (yE jD9 (yE yV (yE yV (yE jGU (pv 0) kO) (yE jD9 kO (pv 2))) kO) kO) kO))
    (yH (qV (i:=3) scPot.nd rfl (Or.inl rfl) (yE jGU (yE yV (yE yV (yE jD9 (pv 3) (pv 3)) (yE jD9 kO (pv 2))) kO) kO))
    (jB3 (qV (i:=1) scPot.nd rfl (Or.inl rfl) (yE yV (yE jD9 (pv 1) kO) (pv 3)))))))
   (jB3 (jD7 (jJB (kY (pv 1) qF)))))),?_⟩
  refine⟨_,rfl,_,_,rfl,rfl,⟨by decide,by decide,by decide⟩,_,_,rfl,rfl,_,rfl,?_⟩
  refine ite2 (fun hge=>?_) (fun _=>?_)
  ·refine⟨_,rfl,_,_,rfl,rfl,⟨by decide,by decide,by decide⟩,_,_,rfl,rfl,one,fun p hp=>q p _ hp ?_⟩
   exact Int.sub_nonneg_of_le (aq hge)
  ·refine⟨64,rfl,by decide,by decide,jAF (n:=64) (fun i σ H2=>∃ (num:Int) (v1 v2:Option V),σ=[some (.int c),some (.int num),v1,v2]/\0<=num/\H2=H) ⟨0,none,none,rfl,iV _,rfl⟩ ?_ ?_⟩
   ·rintro i σ H2 hi ⟨num,v1,v2,rfl,hn,rfl⟩
    refine⟨_,rfl,_,_,rfl,rfl,(by show (0:Int)<2147483629; decide),_,rfl,_,_,rfl,rfl, .inl ⟨by decide,by decide⟩,_,_,rfl,rfl,_,_,rfl,rfl,_,_,rfl,rfl, .inr ⟨by decide,by decide⟩,_,_,rfl,rfl,(by show (0:Int)<2147483647; decide),?_⟩
    refine⟨_,rfl,_,rfl,_,_,rfl,rfl, .inl ⟨?_,?_⟩,_,rfl,_,_,rfl,rfl, .inl ⟨by decide,by decide⟩,_,_,rfl,rfl,_,_,rfl,rfl,_,_,rfl,rfl,(by show (0:Int)<2147483587; decide),?_⟩
    ·lia
    ·lia
    ·refine⟨_,rfl,_,_,rfl,rfl, .inr ⟨by decide,by decide⟩,_,rfl,_,_,rfl,rfl,?_⟩
     refine⟨_,_,_,rfl,?_,rfl⟩
     lia
   ·rintro σ H2 ⟨num,v1,v2,rfl,hn,rfl⟩
    exact⟨_,rfl,one,fun p hp=>q p num hp hn⟩
theorem jBB {H:Hp}{a:Addr}{o o':HO} :upd (upd H a o) a o'=upd H a o':=by
 funext b
 unfold upd
 by_cases h:b=a
 ·rw[aD h,aD h]
 ·rw[aF h,aF h,aF h]
theorem qA {H:Hp}{a b:Addr}{o:HO}(h:upd H a o b=none):b≠a/\H b=none:=by
 have h1:b≠a:=fun e=>by rw[e,j7] at h; cases h
 exact⟨h1,by rw[jD h1] at h; exact h⟩
theorem Keep.refl (H:Hp)(p:Addr):Keep H H p:=fun _ _ h _=>h
theorem Keep.trans {H H1 H2:Hp}{p:Addr}(a:Keep H H1 p)(b:Keep H1 H2 p):Keep H H2 p:=fun c o h n=>b c o (a c o h n) n
theorem Keep.upd {H H1:Hp}{p:Addr}(a:Keep H H1 p)(o:HO):Keep H (upd H1 p o) p:=fun c u h n=>by rw[jD n]; exact a c u h n
theorem Keep.new {H H1:Hp}{p l:Addr}(a:Keep H H1 p)(hl:H1 l=none)(o:HO):Keep H (L2.upd H1 l o) p:=fun c u h n=>by
 have:=a c u h n
 rw[jD (jF this hl)]
 exact this
theorem pw {w:Int}(h1:1<=w)(h2:w<=16):(2:Int)<=2 ^ w.toNat/\(2:Int) ^ w.toNat<=65536:=by
 have e:∀ n:Nat,n<17->1<=n->(2:Int)<=2 ^ n/\(2:Int) ^ n<=65536:=by decide+kernel
 exact e w.toNat (by lia) (by lia)
structure Lot (w:Int)(ts:List Int):Prop where
 ris:ts.Pairwise (· < ·)
 bnd:∀ z∈ts,0<=z/\z<w
 ne:ts≠ []
def bits (n:Int)(k:Nat):List Int:=((List.range k).filter fun t=>decide (Builtin.bitAnd (n / 2 ^ t) 1=1)).map fun (t:Nat)=>(t:Int)
theorem jHT (n:Int)(k:Nat):bits n (k+1)=bits n k++(if decide (Builtin.bitAnd (n / 2 ^ k) 1=1)=true then [(k:Int)] else []):=by
 unfold bits
 rw[gh,bn,au]
 congr 1
 rw[bW]
 split <;> rfl
theorem jQL {n w:Int}(h1:1<=n)(hw:0<=w)(h2:n<2 ^ w.toNat):Lot w (bits n w.toNat):=by
 refine⟨?_,fun z hz=>?_,?_⟩
 ·unfold bits
  rw[dj]
  have:=(fg (n:=w.toNat)).filter (fun t=>decide (Builtin.bitAnd (n / 2 ^ t) 1=1))
  exact this.imp fun h=>by lia
 ·unfold bits at hz
  obtain⟨t,ht,rfl⟩:=aV.mp hz
  have:=bc.mp (aW.mp ht).1
  lia
 ·obtain⟨m,rfl⟩:∃ m:Nat,n=(m:Int):=⟨n.toNat,by lia⟩
  have hm:m≠0:=by lia
  have hlt:m<2 ^ w.toNat:=by
   have:((m:Nat):Int)<((2 ^ w.toNat:Nat):Int):=by rw[Int.natCast_pow]; exact h2
   lia
  obtain⟨i,hi⟩:=Nat.exists_testBit_of_ne_zero hm
  have hiw:i<w.toNat:=by
   rcases fh i w.toNat with h | h
   ·exact h
   ·rw[ig (aP hlt (dQ (by lia) h))] at hi
    cases hi
  have hb:Builtin.bitAnd ((m:Int) / 2 ^ i) 1=1:=by
   have e:((m:Int) / 2 ^ i)=((m / 2 ^ i:Nat):Int):=by rw[Int.natCast_ediv,Int.natCast_pow]; rfl
   rw[e,PyProof.Rows.bitAnd_pp (eI _) (by decide)]
   have e2:(((m / 2 ^ i:Nat):Int).toNat&&&(1:Int).toNat)=1:=by
    rw[bp]
    show (m / 2 ^ i)&&&1=1
    rw[Nat.and_one_is_mod]
    have:=hi
    rw[Nat.testBit_eq_decide_div_mod_eq] at this
    exact aq this
   rw[e2]
   rfl
  intro z
  have hmem:(i:Int)∈bits (m:Int) w.toNat:=by
   unfold bits
   exact aV.mpr ⟨i,aW.mpr ⟨bc.mpr hiw,ao hb⟩,rfl⟩
  rw[z] at hmem
  cases hmem
def xC:Sp:=fun vs H Q _=>∃ (p:Addr) (N w:Int),vs=[.ref p, .int w]/\H p=some (.lst [.int N])/\0<=N/\1<=w/\w<=16/\
 ∀ (q:Addr) (N':Int) (ts:List Int) (H':Hp),0<=N'->Lot w ts->H' q=some (.tup (ts.map V.int))->H' p=some (.lst [.int N'])->Keep H H' p->Q (.ref q) H'
theorem scLot:FnScope ["pot","wide","way","number","start","step","size"] ["pot","wide"] (jA sLot):= {}
theorem jUG {f fT:Addr}{fd fdT:FuncData}(F:Fun K "_law_lot" "_law_lot" sLot f fd)(T:Txt mg)(CT:Can P w K mg base "_law_take" 1 fT fdT ["pot","wide"] yZ):FnOk P w K mg base CX0 2 f fd ["pot","wide"] xC:=by
 refine F.ok scLot (fun vs H Q E h=>?_) (fun dl A outer s H vs Q E hr h=>?_)
 ·obtain⟨a,ns,k,rfl,_⟩:=h
  rfl
 ·obtain⟨p,N,w,rfl,hp,hN,h1,h2,q⟩:=h
  have hpw:=pw h1 h2
  have nd:=scLot.nd
  refine⟨_,yH (qV (i:=2) nd rfl (Or.inl rfl) (CT.pe hr rfl (kY (pv 0) (kY kO qF))))
   (yH (ps_if (jDW qX (pv 2) kO (kT _))
    (yH (qV (i:=3) nd rfl (Or.inr rfl) (yE yV kO (CT.pe hr rfl (kY (pv 0) (kY (yE jEZ (yE jQZ kO (pv 1)) kO) qF)))))
    (jB3 (jD7 (jC8 jO rfl T.tuple (by decide+kernel) (kY
     (jI9 (m:=[none,some 3]) (Nc:=["t","number"]) rfl (jC7 rfl T.range (kY (pv 1) qF)) rfl (by decide+kernel) (by decide+kernel) (jX (psc:=jA sLot))
      (jM (N:=["pot","wide","way","number","start","step","size"]) rfl rfl (by decide+kernel))
      (fun cl C fp s H=>jFR (i:=0) (show (["t","number"]:List Str).Nodup by decide+kernel) rfl (Or.inl rfl))
      (fun cl C fp s H=>jM1 (jDW qX (yE jR0 (yE jUC (pv 1) (pv 0)) kO) kO (kT _)))
      (fun cl C fp s H=>pv 0)) qF)))))
    jFO)
   (yH (qV (i:=4) nd rfl (Or.inr rfl) (CT.pe hr rfl (kY (pv 0) (kY (pv 1) qF))))
   (yH (qV (i:=5) nd rfl (Or.inr rfl) (yE yV kO (CT.pe hr rfl (kY (pv 0) (kY kO qF)))))
   (yH (qV (i:=6) nd rfl (Or.inl rfl) (yE yV kO (CT.pe hr rfl (kY (pv 0) (kY (pe_ix jB9 (jJB (kY kO (kY kO (kY kO qF)))) (yE jEZ (pv 2) kO) (fun _ _=>rfl)) qF)))))
   (jB3 (jD7 (jC8 jO rfl T.tuple (by decide+kernel) (kY (jFS (jEO rfl) rfl T.sorted (by decide+kernel) (kY (jC8 (jOG rfl) rfl T.set (by decide+kernel) (kY
     (jI9 (m:=[none,some 4,some 5,some 1]) (Nc:=["j","start","step","wide"]) rfl (jC7 rfl T.range (kY (pv 6) qF)) rfl (by decide+kernel) (by decide+kernel) (jX (psc:=jA sLot))
      (jM (N:=["pot","wide","way","number","start","step","size"]) rfl rfl (by decide+kernel))
      (fun cl C fp s H=>jFR (i:=0) (show (["j","start","step","wide"]:List Str).Nodup by decide+kernel) rfl (Or.inl rfl))
      (fun cl C fp s H=>jM2)
      (fun cl C fp s H=>yE jGU (yE yV (pv 1) (yE jD9 (pv 2) (pv 0))) (pv 3))) qF)) qF)) qF)))))))),?_⟩
  refine⟨_,rfl,p,N,4,rfl,hp,hN,by decide,by decide,fun N1 way b1 b2 b3=>?_⟩
  have hp1:∀ M,(upd H p (.lst [.int M])) p=some (.lst [.int M]):=fun _=>j7
  refine⟨_,rfl,rfl,_,rfl,?_⟩
  refine ite2 (fun _=>?_) (fun hw0=>?_)
  ·refine⟨_,rfl,_,rfl,_,_,rfl,rfl,⟨by lia,by lia,by decide⟩,_,_,rfl,rfl,p,N1,_,rfl,hp1 _,b1,by lia,by lia,fun N2 r2 c1 c2 c3=>⟨_,_,rfl,rfl,?_⟩⟩
   have hnum:1+r2<2 ^ w.toNat:=by lia
   refine⟨_,rfl,w,rfl,by lia,by lia,jAD (n:=w.toNat) (by rw[ah]; lia) (fun D i σ' H' ys=>(∃ v,σ'=[v,some (.int (1+r2))])/\ys=(bits (1+r2) i).map V.int/\H'=upd (upd (upd H p (.lst [.int N1])) p (.lst [.int N2])) D (.lst ys)) ?_ ?_ ?_ ?_⟩
   ·intro D hD
    exact⟨⟨_,rfl⟩,rfl,rfl⟩
   ·rintro D i σ' H' ys hD hi ⟨_,e1,e2⟩
    refine⟨by rw[e2]; exact j7,?_⟩
    rw[e1,ac]
    unfold bits
    rw[ac]
    exact aQ (aY _ _) (by rw[b7]; exact ai _)
   ·rintro D i σ' H' ys hD hi ⟨⟨v,rfl⟩,rfl,rfl⟩
    refine⟨_,rfl,_,rfl,_,_,rfl,rfl,(by show (0:Int)<=0+(i:Int); lia),_,_,rfl,rfl,rfl,_,rfl,?_⟩
    have ei:(0+(i:Int)).toNat=i:=by lia
    refine ite2 (fun hb=>?_) (fun hb=>?_)
    ·have hb:Builtin.bitAnd ((1+r2) / 2 ^ i) 1=1:=by
      have:=aq hb
      rw[ei] at this
      exact V.int.inj this
     refine⟨_,rfl,j7,⟨_,rfl⟩,?_,jBB⟩
     rw[jHT,aD (ao hb),au]
     congr 1
     show [V.int (0+(i:Int))]=[V.int (i:Int)]
     rw[gt]
    ·have hb:¬ Builtin.bitAnd ((1+r2) / 2 ^ i) 1=1:=fun e=>hb (ao (by rw[ei]; exact cg V.int e))
     refine⟨⟨_,rfl⟩,?_,rfl⟩
     rw[jHT,aF (by simpa using hb),bf]
   ·rintro D σ' H' ys hD ⟨_,rfl,rfl⟩
    refine⟨D,_,rfl, .inl ⟨SqL.of j7,fun qq hqq=>?_⟩⟩
    obtain⟨n1,n2⟩:=qA hqq
    have pD:p≠D:=jF j7 hD
    have pq:p≠qq:=jF j7 n2
    exact q qq N2 (bits (1+r2) w.toNat) _ c1 (jQL (by lia) (by lia) hnum) j7 (by rw[jD pq,jD pD,j7]) (((((Keep.refl H p).upd _).upd _).new hD _).new hqq _)
  ·have hway:1<=way:=by
    have:¬ way=0:=fun e=>hw0 (ao (by rw[e]))
    lia
   refine⟨_,rfl,_,rfl,p,N1,w,rfl,hp1 _,b1,by lia,by lia,fun N2 yT c1 c2 c3=>?_⟩
   rw[jBB]
   refine⟨_,rfl,p,N2,3,rfl,hp1 _,c1,by decide,by decide,fun N3 st d1 d2 d3=>⟨_,_,rfl,rfl,?_⟩⟩
   rw[jBB]
   refine⟨_,rfl,(by show 3<=sizeLine; decide),fun l hl=>?_⟩
   have pl:p≠l:=jF (hp1 _) hl
   obtain⟨wd,hwd,e1,e2⟩:∃ wd:Int,atI [V.int 1,V.int 2,V.int 4] (way - 1)=some (.int wd)/\1<=wd/\wd<=4:=by
    rcases (show way=1\/way=2\/way=3 by lia) with e | e | e
    ·subst e; exact⟨1,rfl,by decide,by decide⟩
    ·subst e; exact⟨2,rfl,by decide,by decide⟩
    ·subst e; exact⟨4,rfl,by decide,by decide⟩
   refine⟨_,rfl,_,_,rfl,rfl,l,_,_,_,rfl,rfl,SqL.of j7,hwd,p,N3,wd,rfl,by rw[jD pl]; exact hp1 _,d1,by lia,by lia,fun N4 r4 g1 g2 g3=>⟨_,_,rfl,rfl,?_⟩⟩
   have kp:Keep H (upd (upd (upd H p (.lst [.int N3])) l (.lst [V.int 1,V.int 2,V.int 4])) p (.lst [.int N4])) p:=(((Keep.refl H p).upd _).new hl _).upd _
   have hp4:(upd (upd (upd H p (.lst [.int N3])) l (.lst [V.int 1,V.int 2,V.int 4])) p (.lst [.int N4])) p=some (.lst [.int N4]):=j7
   generalize (upd (upd (upd H p (.lst [.int N3])) l (.lst [V.int 1,V.int 2,V.int 4])) p (.lst [.int N4]))=H4 at kp hp4 ⊢
   refine⟨_,rfl,1+r4,rfl,by lia,by lia,jAD (n:=(1+r4).toNat) (by rw[ah]; lia) (fun D i σ' H' ys=>(∃ v,σ'=[v,some (.int yT),some (.int (1+st)),some (.int w)])/\(∃ ns:List Int,ys=ns.map V.int/\ns.length=i/\∀ z∈ns,0<=z/\z<w)/\H'=upd H4 D (.lst ys)) ?_ ?_ ?_ ?_⟩
   ·intro D hD
    exact⟨⟨_,rfl⟩,⟨[],rfl,rfl,fun z hz=>by cases hz⟩,rfl⟩
   ·rintro D i σ' H' ys hD hi ⟨_,⟨ns,rfl,e,_⟩,rfl⟩
    exact⟨j7,by rw[ac,e]; exact ai _⟩
   ·rintro D i σ' H' ys hD hi ⟨⟨v,rfl⟩,⟨ns,rfl,e,hb⟩,rfl⟩
    dsimp only [kI,yG]
    rw[aD rfl]
    refine⟨_,rfl,_,rfl,_,rfl,_,_,rfl,rfl, .inl ⟨by lia,by lia⟩,_,_,rfl,rfl,_,rfl,_,_,rfl,rfl,(by show 0<w; lia),j7,⟨_,rfl⟩,⟨ns++[(yT+(1+st)*(0+(i:Int))) % w],by simp,by simp [e],fun z hz=>?_⟩,jBB⟩
    rcases bv.mp hz with hz | hz
    ·exact hb z hz
    ·have:z=(yT+(1+st)*(0+(i:Int))) % w:=by simpa using hz
     rw[this]
     exact⟨Int.emod_nonneg _ (by lia),iQ _ (by lia)⟩
   ·rintro D σ' H' ys hD ⟨_,⟨ns,rfl,e,hb⟩,rfl⟩
    refine⟨D,ns,rfl,SqL.of j7,by lia,fun z hz=>⟨(hb z hz).1,by have:=(hb z hz).2; lia⟩,fun l1 ks h11 hm1=>?_⟩
    refine⟨l1,ks,rfl,j7,fun l2 ms h12 srt hm2=>?_⟩
    refine⟨l2,_,rfl, .inl ⟨SqL.of j7,fun qq hqq=>?_⟩⟩
    have pD:p≠D:=jF hp4 hD
    have p1:p≠l1:=jF hp4 (qA h11).2
    have p2:p≠l2:=jF hp4 (qA (qA h12).2).2
    have pq:p≠qq:=jF hp4 (qA (qA (qA hqq).2).2).2
    refine q qq N4 ms _ g1 ⟨srt,fun z hz=>hb z ((hm1 z).mp ((hm2 z).mp hz)),fun z=>?_⟩ j7 (by rw[jD pq,jD p2,jD p1,jD pD]; exact hp4) ((((kp.new hD _).new h11 _).new h12 _).new hqq _)
    subst z
    cases ns with
    | nil=>simp at e; lia
    | cons x r=>
     have:=(hm2 x).mpr ((hm1 x).mpr aw)
     cases this
structure Ris (w:Int)(ts:List Int):Prop where
 ris:ts.Pairwise (· < ·)
 bnd:∀ z∈ts,0<=z/\z<w
theorem Ris.nil (w:Int):Ris w []:=⟨.nil,fun z hz=>by cases hz⟩
theorem Ris.take {w:Int}{ts:List Int}(h:Ris w ts)(k:Nat):Ris w (ts.take k):=⟨h.ris.sublist (eR _ _),fun z hz=>h.bnd z (bS hz)⟩
theorem Ris.drop {w:Int}{ts:List Int}(h:Ris w ts)(k:Nat):Ris w (ts.drop k):=⟨h.ris.sublist (List.drop_sublist _ _),fun z hz=>h.bnd z (gc hz)⟩
theorem Ris.snoc {i:Nat}{ts:List Int}(h:Ris i ts):Ris (i+1:Nat) (ts++[(i:Int)]):=by
 refine⟨dM.mpr ⟨h.ris,dz _ _,fun a ha b hb=>?_⟩,fun z hz=>?_⟩
 ·have:=(h.bnd a ha).2
  have e:b=i:=by simpa using hb
  lia
 ·rcases bv.mp hz with q | q
  ·have:=h.bnd z q
   lia
  ·have e:z=i:=by simpa using q
   lia
theorem Ris.step {i:Nat}{ts:List Int}(h:Ris i ts):Ris (i+1:Nat) ts:=⟨h.ris,fun z hz=>by have:=h.bnd z hz; lia⟩
def upto (n:Nat):List Int:=(List.range n).map fun (i:Nat)=>(i:Int)
theorem jNN (n:Nat):jED n=(upto n).map V.int:=by
 unfold jED upto
 rw[cG]
 rfl
theorem yS (n:Nat):Ris n (upto n):=by
 refine⟨?_,fun z hz=>?_⟩
 ·unfold upto
  rw[dj]
  exact fg.imp fun h=>by lia
 ·unfold upto at hz
  obtain⟨t,ht,rfl⟩:=aV.mp hz
  have:=bc.mp ht
  lia
def Tups (H H':Hp):Prop:=∀ b xs,H b=some (.tup xs)->H' b=some (.tup xs)
theorem Tups.trans {H H1 H2:Hp}(a:Tups H H1)(b:Tups H1 H2):Tups H H2:=fun c o h=>b c o (a c o h)
theorem Keep.tups {H H':Hp}{p:Addr}{xs:List V}(k:Keep H H' p)(hp:H p=some (.lst xs)):Tups H H':=fun b ys hb=>k b _ hb fun e=>by
 subst e
 rw[hb] at hp
 cases hp
theorem Tups.upd {H:Hp}{p:Addr}{xs:List V}(hp:H p=some (.lst xs))(o:HO):Tups H (upd H p o):=fun b ys hb=>by
 rw[jD (fun e=>by subst e; rw[hb] at hp; cases hp)]
 exact hb
theorem Tups.new {H:Hp}{p:Addr}(hp:H p=none)(o:HO):Tups H (L2.upd H p o):=fun b ys hb=>by
 rw[jD (jF hb hp)]
 exact hb
def PcAt (H:Hp)(v:V)(pc:List Int×Int):Prop:=∃ a q,v= .ref a/\H a=some (.tup [.ref q, .int pc.2])/\H q=some (.tup (pc.1.map V.int))
def PcsAt (H:Hp):List V->List (List Int×Int)->Prop
 | [],[]=>True
 | v::vs,p::ps=>PcAt H v p/\PcsAt H vs ps
 | _,_=>False
theorem PcAt.mono {H H':Hp}{v:V}{pc:List Int×Int}(h:PcAt H v pc)(t:Tups H H'):PcAt H' v pc:=by
 obtain⟨a,q,rfl,h1,h2⟩:=h
 exact⟨a,q,rfl,t _ _ h1,t _ _ h2⟩
theorem PcsAt.mono {H H':Hp}(t:Tups H H'):∀ {vs:List V}{ps:List (List Int×Int)},PcsAt H vs ps->PcsAt H' vs ps
 | [],[],_=>trivial
 | _::_,_::_,h=>⟨h.1.mono t,PcsAt.mono t h.2⟩
 | [],_::_,h=>h.elim
 | _::_,[],h=>h.elim
theorem PcsAt.len {H:Hp} :∀ {vs:List V}{ps:List (List Int×Int)},PcsAt H vs ps->vs.length=ps.length
 | [],[],_=>rfl
 | _::_,_::_,h=>cg (· +1) (PcsAt.len h.2)
 | [],_::_,h=>h.elim
 | _::_,[],h=>h.elim
theorem PcsAt.put {H:Hp}{v:V}{p:List Int×Int}(hv:PcAt H v p):∀ (k:Nat) {vs:List V}{ps:List (List Int×Int)},PcsAt H vs ps->PcsAt H (vs.take k++v::vs.drop k) (ps.take k++p::ps.drop k)
 | 0,_,_,h=>⟨hv,h⟩
 | _+1,[],[],_=>⟨hv,trivial⟩
 | k+1,_::_,_::_,h=>⟨h.1,PcsAt.put hv k h.2⟩
 | _+1,[],_::_,h=>h.elim
 | _+1,_::_,[],h=>h.elim
structure GoodPc (w:Int)(pc:List Int×Int):Prop where
 lot:Lot w pc.1
 lo: -1000000000000<=pc.2
 hi:pc.2<=1000000000000
structure BoxAt (H:Hp)(b:Addr)(w:Int)(mays:List Int)(pcs:List (List Int×Int)):Prop where
 ex:∃ qm qp vs,H b=some (.tup [.int w, .ref qm, .ref qp])/\H qm=some (.tup (mays.map V.int))/\H qp=some (.tup vs)/\PcsAt H vs pcs
theorem BoxAt.mono {H H':Hp}{b:Addr}{w:Int}{mays:List Int}{pcs:List (List Int×Int)}(h:BoxAt H b w mays pcs)(t:Tups H H'):BoxAt H' b w mays pcs:=by
 obtain⟨qm,qp,vs,h1,h2,h3,h4⟩:=h.ex
 exact⟨qm,qp,vs,t _ _ h1,t _ _ h2,t _ _ h3,h4.mono t⟩
structure Good (mt mp:Int)(w:Int)(mays:List Int)(pcs:List (List Int×Int)):Prop where
 w0:0<=w
 w1:w<=mt
 mr:Ris w mays
 pl:(pcs.length:Int)<=mp
 pg:∀ pc∈pcs,GoodPc w pc
theorem Keep.updNew {H H1:Hp}{p l:Addr}(a:Keep H H1 p)(hl:H l=none)(o:HO):Keep H (L2.upd H1 l o) p:=fun c u h n=>by
 rw[jD (jF h hl)]
 exact a c u h n
def spBox:Sp:=fun vs H Q _=>∃ (p:Addr) (N mt mp:Int),vs=[.ref p, .int mt, .int mp]/\H p=some (.lst [.int N])/\0<=N/\0<=mt/\mt<=16/\0<=mp/\mp<=32/\
 ∀ (b:Addr) (N' w:Int) (mays:List Int) (pcs:List (List Int×Int)) (H':Hp),0<=N'->H' p=some (.lst [.int N'])->BoxAt H' b w mays pcs->Good mt mp w mays pcs->Keep H H' p->Q (.ref b) H'
noncomputable abbrev nBox:List Str:=["pot","most_things","most_pieces","wide","mays","left","far","pieces","k","size","things"]
theorem scBox:FnScope nBox ["pot","most_things","most_pieces"] (jA sBox):= {}
abbrev XBox (P:Program)(w:World)(K:W.Frag)(mg:Str->Option Value)(base:Heap)(f:Addr)(dl:Value)(A:Around)(outer:List Env)(s:Shared)(H:Hp)(E:XK):Cx:=(cxOf CX0 P w K mg base nBox "_law_box" (jA sBox) f dl A outer s H E).nox
def jH2:Stmt->List Stmt
 | .For _ _ b _ _=>b
 | _=> []
def boxI {f fT fL:Addr}{fdT fdL:FuncData}{dl:Value}{A:Around}{outer:List Env}{s:Shared}{H:Hp}{E:XK}(T:Txt mg)(CT:Can P w K mg base "_law_take" 1 fT fdT ["pot","wide"] yZ)(CL:Can P w K mg base "_law_lot" 2 fL fdL ["pot","wide"] xC)(hr:Room 2 (XBox P w K mg base f dl A outer s H E).A): { t:TS // JSs (XBox P w K mg base f dl A outer s H E) ((jH2 ((jN sBox).getD 7 (.Pass ⟨0,0,0,0⟩))).drop 4) t} :=
 have nd:=scBox.nd
 ⟨_,(jH (qO (xG bb PySem.F.slot_list_insert PySem.F.type_list_insert jMZ (jv 7 rfl vL) (j4 (CT.je (hr.mono (by decide)) gD (j4 (jv 0 rfl vC) (j4 (yK yV (jK jV gD T.len (by decide+kernel) (j4 (jv 7 rfl vL) j8 j6) j6) (jC)) j8 yU) j6) j6) (j4 (jJV (j4 (jv 10 rfl vL) (j4 (yK jEZ (CT.je (hr.mono (by decide)) gD (j4 (jv 0 rfl vC) (j4 (jv 6 rfl vL) j8 j6) j6) j6) (yK jJD (jv 6 rfl vL) (jC))) j8 yU) j6)) j8 jBT) jG) jG) jW))⟩
def boxL {f fT fL:Addr}{fdT fdL:FuncData}{dl:Value}{A:Around}{outer:List Env}{s:Shared}{H:Hp}{E:XK}(T:Txt mg)(CT:Can P w K mg base "_law_take" 1 fT fdT ["pot","wide"] yZ)(CL:Can P w K mg base "_law_lot" 2 fL fdL ["pot","wide"] xC)(hr:Room 2 (XBox P w K mg base f dl A outer s H E).A): { t:TS // JSs (XBox P w K mg base f dl A outer s H E) (jH2 ((jN sBox).getD 7 (.Pass ⟨0,0,0,0⟩))) t} :=
 have nd:=scBox.nd
 ⟨_,(jB (jT (i:=9) nd rfl lL (yK yV (jC) (CT.je (hr.mono (by decide)) gD (j4 (jv 0 rfl vC) (j4 (jC) j8 jU) j6) j6)) jER)
   (jB (jT (i:=10) nd rfl lL (jP jO gD T.tuple (by decide+kernel) (j4 (jAN jFJ (jv 5 rfl vL) jBG (jB7 (jv 9 rfl vL))) j8 jI) jI) jW)
   (jB (jT (i:=5) nd rfl lL (jAN jFJ (jv 5 rfl vL) (jB7 (jv 9 rfl vL)) jBG) jDS)
   (jB (yJ (jY (jUD hr.units0) (jv 10 rfl vL) (jJV j8) (kT _)) (jH (jT (i:=10) nd rfl lL (CL.je hr gD (j4 (jv 0 rfl vC) (j4 (jv 3 rfl vL) j8 j6) j6) j6) jW)) kP)
   (boxI T CT CL hr).2))))⟩
def boxC {f fT fL:Addr}{fdT fdL:FuncData}{dl:Value}{A:Around}{outer:List Env}{s:Shared}{H:Hp}{E:XK}(T:Txt mg)(CT:Can P w K mg base "_law_take" 1 fT fdT ["pot","wide"] yZ)(CL:Can P w K mg base "_law_lot" 2 fL fdL ["pot","wide"] xC)(hr:Room 2 (XBox P w K mg base f dl A outer s H E).A): { t:TS // JSs (XBox P w K mg base f dl A outer s H E) ((jN sBox).drop 5) t} :=
 have nd:=scBox.nd
 ⟨_,(jB (jT (i:=6) nd rfl lL (jJ jB9 (jNF (j4 (jC) (j4 (jC) (j4 (jUZ) j8 yU) jU) jU)) (CT.je (hr.mono (by decide)) gD (j4 (jv 0 rfl vC) (j4 (jC) j8 jU) j6) j6) jM0) jDS)
   (jB (jT (i:=7) nd rfl lL (jNF j8) qU)
   (jB (qS bB rfl (kX gD T.range (j4 (yK jD9 (CT.je (hr.mono (by decide)) gD (j4 (jv 0 rfl vC) (j4 (yK yV (jv 2 rfl vL) (jC)) j8 yU) j6) j6) (jP jOI gD T.int (by decide+kernel) (j4 (q0 op_gt (jv 3 rfl vL) (jC) (kT _)) j8 jQU) jQU)) j8 yU) yU) (jQ (i:=8) nd rfl lL) (boxL T CT CL hr).2 kQ)
   (jH (kB (jJV (j4 (jv 3 rfl vL) (j4 (jv 4 rfl vL) (j4 (jP jO gD T.tuple (by decide+kernel) (j4 (jv 7 rfl vL) j8 j6) j6) j8 jG) j6) j6)))))))⟩
def boxB {f fT fL:Addr}{fdT fdL:FuncData}{dl:Value}{A:Around}{outer:List Env}{s:Shared}{H:Hp}{E:XK}(T:Txt mg)(CT:Can P w K mg base "_law_take" 1 fT fdT ["pot","wide"] yZ)(CL:Can P w K mg base "_law_lot" 2 fL fdL ["pot","wide"] xC)(hr:Room 2 (XBox P w K mg base f dl A outer s H E).A): { t:TS // JSs (XBox P w K mg base f dl A outer s H E) ((jN sBox).drop 3) t} :=
 have nd:=scBox.nd
 ⟨_,(jB (jT (i:=5) nd rfl lL (jP (jHM rfl) gD T.list (by decide+kernel) (j4 (jP jAA gD T.range (by decide+kernel) (j4 (jv 3 rfl vL) j8 j6) j6) j8 jG) jG) jW)
   (jB (yJ (jY qX (CT.je (hr.mono (by decide)) gD (j4 (jv 0 rfl vC) (j4 (jC) j8 jU) j6) j6) (jC) (kT _)) (jH (jT (i:=5) nd rfl lL (jNF j8) qU)) kP)
   (boxC T CT CL hr).2))⟩
def boxA {f fT fL:Addr}{fdT fdL:FuncData}{dl:Value}{A:Around}{outer:List Env}{s:Shared}{H:Hp}{E:XK}(T:Txt mg)(CT:Can P w K mg base "_law_take" 1 fT fdT ["pot","wide"] yZ)(CL:Can P w K mg base "_law_lot" 2 fL fdL ["pot","wide"] xC)(hr:Room 2 (XBox P w K mg base f dl A outer s H E).A): { t:TS // JSs (XBox P w K mg base f dl A outer s H E) (jN sBox) t} :=
 have nd:=scBox.nd
 ⟨_,(jB (jT (i:=3) nd rfl lL (CT.je (hr.mono (by decide)) gD (j4 (jv 0 rfl vC) (j4 (yK yV (jv 1 rfl vL) (jC)) j8 yU) j6) j6) jW)
   (jB (jT (i:=4) nd rfl lL (jJV j8) jGL)
   (jB (yJ (jY qX (CT.je (hr.mono (by decide)) gD (j4 (jv 0 rfl vC) (j4 (jC) j8 jU) j6) j6) (jC) (kT _)) (jH (jT (i:=4) nd rfl lL (jP jO gD T.tuple (by decide+kernel) (j4 (kN (m:=[none,some 0]) (Nc:=["t","pot"]) rfl (kX gD T.range (j4 (jv 3 rfl vL) j8 j6) j6) rfl (by decide+kernel) (by decide+kernel) (jX (psc:=jA sBox)) (jM (N:=nBox) rfl rfl (by decide+kernel)) (fun cl C fp s H=>jQ (i:=0) (show (["t","pot"]:List Str).Nodup by decide+kernel) rfl yA) (fun cl C fp s H=>yI (jY qX (CT.je (hr.mono (by decide)) gl_b (j4 (jv 1 rfl jZ) (j4 (jC) j8 jU) j6) j6) (jC) (kT _))) (fun cl C fp s H=>(jv 0 rfl jS)) kQ) j8 jR) jR) jW)) kP)
   (boxB T CT CL hr).2)))⟩
structure St0 (H H2:Hp)(p:Addr)(w:Int)(qm ql:Addr)(mays lf:List Int)(N:Int):Prop where
 hp:H2 p=some (.lst [.int N])
 hN:0<=N
 hm:H2 qm=some (.tup (mays.map V.int))
 rm:Ris w mays
 hl:H2 ql=some (.lst (lf.map V.int))
 rl:Ris w lf
 ne:ql≠p
 kp:Keep H H2 p
theorem St0.step {H H2 H3:Hp}{p:Addr}{w:Int}{qm ql:Addr}{mays lf:List Int}{N N':Int}(S:St0 H H2 p w qm ql mays lf N)(k:Keep H2 H3 p)(hp:H3 p=some (.lst [.int N']))(hN:0<=N'):St0 H H3 p w qm ql mays lf N':=
 ⟨hp,hN,k qm _ S.hm (ne_of S.hm S.hp (by intro z; cases z)),S.rm,k ql _ S.hl S.ne,S.rl,S.ne,S.kp.trans k⟩
theorem jO2 {w:Int}{lf:List Int}(h:Ris w lf)(lo hi:Option Int):∃ l',cutV (lf.map V.int) lo hi=l'.map V.int/\Ris w l':=by
 refine⟨(lf.drop (HT.sIx lf.length 0 lo)).take (HT.sIx lf.length lf.length hi - HT.sIx lf.length 0 lo),?_,(h.drop _).take _⟩
 unfold cutV
 rw[ac,fY,iI]
theorem jHP (T:Txt mg)(CT:Can P w K mg base "_law_take" 1 fT fdT ["pot","wide"] yZ)(CL:Can P w K mg base "_law_lot" 2 fL fdL ["pot","wide"] xC)(hr:Room 2 (XBox P w K mg base f dl A outer s H0 E).A)
  {D:Ends}{H H5:Hp}{p qm ql qp qt:Addr}{mt mp w N far:Int}{mays lf ts:List Int}{vs:List V}{pcs:List (List Int×Int)}{v8 v9:Option V}
  (S:St0 H H5 p w qm ql mays lf N) (hqp:H5 qp=some (.lst vs)) (hv:PcsAt H5 vs pcs) (hg:∀ pc∈pcs,GoodPc w pc) (hqt:H5 qt=some (.tup (ts.map V.int))) (lt:Lot w ts) (hf:far=1\/far=10\/far=2000000000001) (hn:pcs.length<=100) (hH:H qp=none) (hne:ql≠qp) (hpp:p≠qp)
  (nx:∀ H6 N' vs' pcs',St0 H H6 p w qm ql mays lf N'->H6 qp=some (.lst vs')->PcsAt H6 vs' pcs'->(∀ pc∈pcs',GoodPc w pc)->pcs'.length=pcs.length+1->D.nx [some (.ref p),some (.int mt),some (.int mp),some (.int w),some (.ref qm),some (.ref ql),some (.int far),some (.ref qp),v8,v9,some (.ref qt)] H6):
  (boxI T CT CL hr).1 D [some (.ref p),some (.int mt),some (.int mp),some (.int w),some (.ref qm),some (.ref ql),some (.int far),some (.ref qp),v8,v9,some (.ref qt)] H5:=by
 have hlen:=hv.len
 have h64:(0:Int)<far/\far<2 ^ 64:=by rcases hf with e | e | e <;> subst e <;> decide
 refine⟨_,rfl, .inl ⟨rfl,_,SqL.of hqp⟩,_,rfl,_,rfl,qp,vs,rfl, .inl (SqL.of hqp),_,_,rfl,rfl,p,N,_,rfl,S.hp,S.hN,by lia,by lia,fun N1 i a1 a2 a3=>?_⟩
 refine⟨_,rfl,_,rfl,_,rfl,p,N1,far,rfl,j7,a1,h64.1,h64.2,fun N2 r b1 b2 b3=>?_⟩
 rw[jBB]
 refine⟨_,rfl,_,_,rfl,rfl,⟨by decide,by decide⟩,_,_,rfl,rfl,(by show 2<=sizeLine; decide),fun tq htq=>?_⟩
 obtain⟨t1,t2⟩:=qA htq
 have ht:tq≠qp:=fun e=>by subst e; rw[hqp] at t2; cases t2
 refine⟨qp,vs,i,_,rfl,rfl,by rw[jD ht.symm,jD hpp.symm]; exact hqp,a2,by lia,by rw[ah]; lia,?_⟩
 have T1:Tups H5 (upd (upd H5 p (.lst [.int N2])) tq (.tup [.ref qt, .int (r - far / 2)])):=(Tups.upd S.hp _).trans (Tups.new htq _)
 have k1:Keep H5 (upd (upd H5 p (.lst [.int N2])) tq (.tup [.ref qt, .int (r - far / 2)])) p:=((Keep.refl _ _).upd _).new htq _
 have S1:=S.step k1 (by rw[jD t1.symm]; exact j7) b1
 have hq1:(upd (upd H5 p (.lst [.int N2])) tq (.tup [.ref qt, .int (r - far / 2)])) qp=some (.lst vs):=by rw[jD ht.symm,jD hpp.symm]; exact hqp
 have T2:=T1.trans (Tups.upd hq1 (.lst (vs.take i.toNat++V.ref tq::vs.drop i.toNat)))
 have pc:PcAt (upd (upd H5 p (.lst [.int N2])) tq (.tup [.ref qt, .int (r - far / 2)])) (.ref tq) (ts,r - far / 2):=⟨tq,qt,rfl,j7,T1 _ _ hqt⟩
 refine nx _ N2 _ (pcs.take i.toNat++(ts,r - far / 2)::pcs.drop i.toNat) ⟨?_,b1,?_,S.rm,?_,S.rl,S.ne,S1.kp.updNew hH _⟩ j7 ?_ ?_ ?_
 ·rw[jD hpp]; exact S1.hp
 ·exact(Tups.upd hq1 _) _ _ S1.hm
 ·rw[jD hne]; exact S1.hl
 ·exact PcsAt.put (pc.mono (Tups.upd hq1 _)) _ (hv.mono T2)
 ·intro c hc
  rcases bv.mp hc with h | h
  ·exact hg c (bS h)
  ·rcases az.mp h with h | h
   ·subst h
    refine⟨lt,?_,?_⟩
    ·show -1000000000000<=r - far / 2
     rcases hf with e | e | e <;> subst e <;> lia
    ·show r - far / 2<=1000000000000
     rcases hf with e | e | e <;> subst e <;> lia
   ·exact hg c (gc h)
 ·rw[aE,aZ,bg,cU]
  lia
theorem jOJ (T:Txt mg)(CT:Can P w K mg base "_law_take" 1 fT fdT ["pot","wide"] yZ)(CL:Can P w K mg base "_law_lot" 2 fL fdL ["pot","wide"] xC)(hr:Room 2 (XBox P w K mg base f dl A outer s H0 E).A)
  {D:Ends}{H H5:Hp}{p qm ql qp:Addr}{mt mp w N far:Int}{mays lf:List Int}{vs:List V}{pcs:List (List Int×Int)}{v8 v9 v10:Option V}
  (S:St0 H H5 p w qm ql mays lf N) (hqp:H5 qp=some (.lst vs)) (hv:PcsAt H5 vs pcs) (hg:∀ pc∈pcs,GoodPc w pc) (hf:far=1\/far=10\/far=2000000000001) (hn:pcs.length<=100) (hH:H qp=none) (hpp:p≠qp) (w1:1<=w) (w2:w<=16)
  (nx:∀ H6 N' vs' pcs' ql' lf' v9' v10',St0 H H6 p w qm ql' mays lf' N'->ql'≠qp->H6 qp=some (.lst vs')->PcsAt H6 vs' pcs'->(∀ pc∈pcs',GoodPc w pc)->pcs'.length=pcs.length+1->D.nx [some (.ref p),some (.int mt),some (.int mp),some (.int w),some (.ref qm),some (.ref ql'),some (.int far),some (.ref qp),v8,v9',v10'] H6):
  (boxL T CT CL hr).1 D [some (.ref p),some (.int mt),some (.int mp),some (.int w),some (.ref qm),some (.ref ql),some (.int far),some (.ref qp),v8,v9,v10] H5:=by
 refine⟨_,rfl,p,N,3,rfl,S.hp,S.hN,by decide,by decide,fun N1 r1 a1 a2 a3=>⟨_,_,rfl,rfl,?_⟩⟩
 have S1:=S.step ((Keep.refl _ _).upd (.lst [.int N1])) j7 a1
 have hq1:(upd H5 p (.lst [.int N1])) qp=some (.lst vs):=by rw[jD hpp.symm]; exact hqp
 have hv1:=hv.mono (Tups.upd S.hp (.lst [.int N1]))
 generalize upd H5 p (.lst [.int N1])=H6 at S1 hq1 hv1 ⊢
 clear S hqp hv
 obtain⟨l1,e1,g1⟩:=jO2 S1.rl none (some (1+r1))
 obtain⟨l2,e2,g2⟩:=jO2 S1.rl (some (1+r1)) none
 refine⟨_,rfl,_,rfl,1+r1,rfl,ql,_,rfl,SqL.of S1.hl,fun x hx=>⟨x,_,rfl, .inl ⟨SqL.of j7,fun qt hqt=>?_⟩⟩⟩
 rw[e1] at hqt ⊢
 have k1:Keep H6 (upd (upd H6 x (.lst (l1.map V.int))) qt (.tup (l1.map V.int))) p:=((Keep.refl _ _).new hx _).new hqt _
 obtain⟨t1,t2⟩:=qA hqt
 have px:p≠x:=jF S1.hp hx
 have pt:p≠qt:=jF S1.hp t2
 have qx:qp≠x:=jF hq1 hx
 have qq:qp≠qt:=jF hq1 t2
 have S2:=S1.step k1 (by rw[jD pt,jD px]; exact S1.hp) S1.hN
 have hq2:(upd (upd H6 x (.lst (l1.map V.int))) qt (.tup (l1.map V.int))) qp=some (.lst vs):=by rw[jD qq,jD qx]; exact hq1
 have hv2:=hv1.mono (k1.tups S1.hp)
 have ht2:(upd (upd H6 x (.lst (l1.map V.int))) qt (.tup (l1.map V.int))) qt=some (.tup (l1.map V.int)):=j7
 generalize upd (upd H6 x (.lst (l1.map V.int))) qt (.tup (l1.map V.int))=H7 at S2 hq2 hv2 ht2 ⊢
 clear k1 hqt t2 hx S1 hq1 hv1
 refine⟨_,rfl,_,rfl,1+r1,rfl,ql,_,rfl,SqL.of S2.hl,fun ql' hql=>?_⟩
 rw[e2]
 have pl:p≠ql':=jF S2.hp hql
 have k2:Keep H7 (upd H7 ql' (.lst (l2.map V.int))) p:=(Keep.refl _ _).new hql _
 have S3':=S2.step k2 (by rw[jD pl]; exact S2.hp) S2.hN
 have S3:St0 H (upd H7 ql' (.lst (l2.map V.int))) p w qm ql' mays l2 N1:=⟨S3'.hp,S3'.hN,S3'.hm,S3'.rm,j7,g2,pl.symm,S3'.kp⟩
 have hne:qp≠ql':=jF hq2 hql
 have hq3:(upd H7 ql' (.lst (l2.map V.int))) qp=some (.lst vs):=by rw[jD hne]; exact hq2
 have hv3:=hv2.mono (k2.tups S2.hp)
 have ht3:=k2.tups S2.hp _ _ ht2
 generalize upd H7 ql' (.lst (l2.map V.int))=H8 at S3 hq3 hv3 ht3 ⊢
 clear k2 S3' S2 hq2 hv2 ht2 hql
 refine⟨_,rfl,(by show 0<=sizeLine; exact bh _),fun z hz=>⟨qt,z,l1.map V.int,rfl,rfl,SqT.of ?_,SqT.of j7,_,rfl,?_⟩⟩
 ·rw[jD (jF ht3 hz)]; exact ht3
 have pz:p≠z:=jF S3.hp hz
 have qz:qp≠z:=jF hq3 hz
 have k3:Keep H8 (upd H8 z (.tup [])) p:=(Keep.refl _ _).new hz _
 have S4:=S3.step k3 (by rw[jD pz]; exact S3.hp) S3.hN
 have hq4:(upd H8 z (.tup [])) qp=some (.lst vs):=by rw[jD qz]; exact hq3
 have hv4:=hv3.mono (k3.tups S3.hp)
 have ht4:=k3.tups S3.hp _ _ ht3
 generalize upd H8 z (.tup [])=H9 at S4 hq4 hv4 ht4 ⊢
 clear k3 S3 hq3 hv3 ht3 hz pz qz
 refine ite2 (fun hy=>?_) (fun hy=>?_)
 ·refine⟨_,rfl,_,rfl,p,N1,w,rfl,S4.hp,S4.hN,w1,w2,fun q N2 ts H' b1 lt b2 b3 b4=>?_⟩
  exact jHP T CT CL hr (S4.step b4 b3 b1) (b4 _ _ hq4 hpp.symm) (hv4.mono (b4.tups S4.hp)) hg b2 lt hf hn hH hne.symm hpp fun H6 N' vs' pcs' z1 z2 z3 z4 z5=>nx H6 N' vs' pcs' ql' l2 _ _ z1 hne.symm z2 z3 z4 z5
 ·have nl:l1≠ []:=fun e=>hy (ao (by rw[e]; rfl))
  exact jHP T CT CL hr S4 hq4 hv4 hg ht4 ⟨g1.ris,g1.bnd,nl⟩ hf hn hH hne.symm hpp fun H6 N' vs' pcs' z1 z2 z3 z4 z5=>nx H6 N' vs' pcs' ql' l2 _ _ z1 hne.symm z2 z3 z4 z5
def Told (H:Hp)(p:Addr)(mt mp:Int)(R:VK):Prop:=∀ (b:Addr) (N' w:Int) (mays:List Int) (pcs:List (List Int×Int)) (H':Hp),0<=N'->H' p=some (.lst [.int N'])->BoxAt H' b w mays pcs->Good mt mp w mays pcs->Keep H H' p->R (.ref b) H'
theorem jHQ (T:Txt mg)(CT:Can P w K mg base "_law_take" 1 fT fdT ["pot","wide"] yZ)(CL:Can P w K mg base "_law_lot" 2 fL fdL ["pot","wide"] xC)(hr:Room 2 (XBox P w K mg base f dl A outer s H0 E).A)
  {D:Ends}{H H5:Hp}{p qm ql:Addr}{mt mp w N:Int}{mays lf:List Int}{v6 v7 v8 v9 v10:Option V}
  (S:St0 H H5 p w qm ql mays lf N) (hpH:∃ o,H p=some o) (w0:0<=w) (w1:w<=mt) (w2:mt<=16) (n0:0<=mp) (n1:mp<=32) (q:Told H p mt mp D.rt):
  (boxC T CT CL hr).1 D [some (.ref p),some (.int mt),some (.int mp),some (.int w),some (.ref qm),some (.ref ql),v6,v7,v8,v9,v10] H5:=by
 refine⟨(by show 3<=sizeLine; decide),fun l hl=>?_⟩
 have pl:p≠l:=jF S.hp hl
 refine⟨_,rfl,p,N,3,rfl,by rw[jD pl]; exact S.hp,S.hN,by decide,by decide,fun N1 r a1 a2 a3=>?_⟩
 obtain⟨far,hfar,hf⟩:∃ far:Int,atI [V.int 1,V.int 10,V.int 2000000000001] r=some (.int far)/\(far=1\/far=10\/far=2000000000001):=by
  rcases (show r=0\/r=1\/r=2 by lia) with e | e | e
  ·subst e; exact⟨_,rfl, .inl rfl⟩
  ·subst e; exact⟨_,rfl, .inr (.inl rfl)⟩
  ·subst e; exact⟨_,rfl, .inr (.inr rfl)⟩
 refine⟨l,_,r,_,rfl,rfl,SqL.of (by rw[jD pl.symm]; exact j7),hfar,?_⟩
 have S1:=S.step ((((Keep.refl _ _).new hl (.lst [V.int 1,V.int 10,V.int 2000000000001])).upd (.lst [.int N1]))) j7 a1
 generalize upd (upd H5 l (.lst [V.int 1,V.int 10,V.int 2000000000001])) p (.lst [.int N1])=H6 at S1 ⊢
 clear hl S
 refine⟨(by show 0<=sizeLine; exact bh _),fun qp hqp=>?_⟩
 have pq:p≠qp:=jF S1.hp hqp
 have hHq:H qp=none:=by
  cases e:H qp with
  | none=>rfl
  | some o=>
   have:=S1.kp _ _ e pq.symm
   rw[hqp] at this
   cases this
 have lq:ql≠qp:=jF S1.hl hqp
 have S2:=S1.step ((Keep.refl _ _).new hqp (.lst [])) (by rw[jD pq]; exact S1.hp) S1.hN
 have hq2:(upd H6 qp (.lst [])) qp=some (.lst []):=j7
 generalize upd H6 qp (.lst [])=H7 at S2 hq2 ⊢
 clear hqp S1
 refine⟨_,rfl,_,rfl,_,_,rfl,rfl,p,N1,_,rfl,S2.hp,S2.hN,by lia,by lia,fun N2 n b1 b2 b3=>?_⟩
 refine⟨_,rfl,_,_,rfl,rfl, .inr ⟨_,rfl,_,_,rfl,rfl, .inl ⟨by lia,by lia⟩,_,rfl,?_⟩⟩
 have S3:=S2.step ((Keep.refl _ _).upd (.lst [.int N2])) j7 b1
 have hq3:(upd H7 p (.lst [.int N2])) qp=some (.lst []):=by rw[jD pq.symm]; exact hq2
 generalize upd H7 p (.lst [.int N2])=H8 at S3 hq3 ⊢
 clear S2 hq2
 obtain⟨m,em,hm,hw⟩:∃ m:Int,n*(if decide (0<w)=true then 1 else 0)=m/\(0<=m/\m<=mp)/\(0<m->1<=w):=by
  by_cases h:0<w
  ·exact⟨n,by simp [h],⟨b2,by lia⟩,fun _=>h⟩
  ·exact⟨0,by simp [h],⟨by lia,n0⟩,fun z=>by lia⟩
 show _/\_/\_
 rw[show (n*(if decide (0<w)=true then 1 else 0))=m from em]
 refine⟨by lia,by lia,jAF (n:=m.toNat) (fun i σ H5=>∃ ql' lf' N' vs pcs v8 v9 v10,σ=[some (.ref p),some (.int mt),some (.int mp),some (.int w),some (.ref qm),some (.ref ql'),some (.int far),some (.ref qp),v8,v9,v10]/\St0 H H5 p w qm ql' mays lf' N'/\ql'≠qp/\H5 qp=some (.lst vs)/\PcsAt H5 vs pcs/\(∀ pc∈pcs,GoodPc w pc)/\pcs.length=i) ?_ ?_ ?_⟩
 ·exact⟨ql,lf,N2,[],[],_,_,_,rfl,S3,lq,hq3,trivial,(fun _ h=>by cases h),rfl⟩
 ·rintro i σ H9 hi ⟨ql',lf',N',vs,pcs,x8,x9,x10,rfl,S4,l4,hq4,hv4,hg4,e4⟩
  exact jOJ T CT CL hr S4 hq4 hv4 hg4 hf (by lia) hHq pq (hw (by lia)) (by lia) fun H6 N' vs' pcs' ql' lf' v9' v10' z1 z2 z3 z4 z5 z6=>⟨ql',lf',N',vs',pcs',_,_,_,rfl,z1,z2,z3,z4,z5,by lia⟩
 ·rintro σ H9 ⟨ql',lf',N',vs,pcs,x8,x9,x10,rfl,S4,l4,hq4,hv4,hg4,e4⟩
  refine⟨_,rfl,_,rfl,_,rfl,qp,vs,rfl, .inl ⟨SqL.of hq4,fun tq htq=>⟨(by show 3<=sizeLine; decide),fun b hb=>?_⟩⟩⟩
  have k1:Keep H9 (upd H9 tq (.tup vs)) p:=(Keep.refl _ _).new htq _
  have k2:Keep H9 (upd (upd H9 tq (.tup vs)) b (.tup [.int w, .ref qm, .ref tq])) p:=k1.new hb _
  have tb:=jF j7 hb
  have S5:=S4.step k2 (by rw[jD (qA hb |>.2 |> fun h=>jF S4.hp h),jD (jF S4.hp htq)]; exact S4.hp) S4.hN
  exact q b N' w mays pcs _ S4.hN S5.hp ⟨qm,tq,vs,j7,S5.hm,by rw[jD tb]; exact j7,hv4.mono (k2.tups S4.hp)⟩ ⟨w0,w1,S4.rm,by lia,hg4⟩ S5.kp
theorem jHR (T:Txt mg)(CT:Can P w K mg base "_law_take" 1 fT fdT ["pot","wide"] yZ)(CL:Can P w K mg base "_law_lot" 2 fL fdL ["pot","wide"] xC)(hr:Room 2 (XBox P w K mg base f dl A outer s H0 E).A)
  {D:Ends}{H H5:Hp}{p qm:Addr}{mt mp w N:Int}{mays:List Int}{v5 v6 v7 v8 v9 v10:Option V}
  (hp:H5 p=some (.lst [.int N])) (hN:0<=N) (hm:H5 qm=some (.tup (mays.map V.int))) (rm:Ris w mays) (kp:Keep H H5 p) (hpH:∃ o,H p=some o) (w0:0<=w) (w1:w<=mt) (w2:mt<=16) (n0:0<=mp) (n1:mp<=32) (q:Told H p mt mp D.rt):
  (boxB T CT CL hr).1 D [some (.ref p),some (.int mt),some (.int mp),some (.int w),some (.ref qm),v5,v6,v7,v8,v9,v10] H5:=by
 refine⟨_,rfl,w,rfl,fun x hx=>⟨x,w,rfl,j7,w0,by lia,fun ql hql=>?_⟩⟩
 rw[jNN]
 have px:p≠x:=jF hp hx
 have pl:p≠ql:=jF hp (qA hql).2
 have k1:Keep H5 (upd (upd H5 x (.rng 0 w)) ql (.lst ((upto w.toNat).map V.int))) p:=((Keep.refl _ _).new hx _).new hql _
 have e:((w.toNat:Nat):Int)=w:=by lia
 have rl:Ris w (upto w.toNat):=by
  have:=yS w.toNat
  rw[e] at this
  exact this
 have S:St0 H (upd (upd H5 x (.rng 0 w)) ql (.lst ((upto w.toNat).map V.int))) p w qm ql mays (upto w.toNat) N:=
  ⟨by rw[jD pl,jD px]; exact hp,hN,k1 qm _ hm (ne_of hm hp (by intro z; cases z)),rm,j7,rl,pl.symm,kp.trans k1⟩
 generalize upd (upd H5 x (.rng 0 w)) ql (.lst ((upto w.toNat).map V.int))=H6 at S ⊢
 clear k1 hql hx hp hm kp
 refine⟨_,rfl,p,N,3,rfl,S.hp,S.hN,by decide,by decide,fun N1 r a1 a2 a3=>⟨rfl,_,rfl,?_⟩⟩
 have S1:=S.step ((Keep.refl _ _).upd (.lst [.int N1])) j7 a1
 generalize upd H6 p (.lst [.int N1])=H7 at S1 ⊢
 clear S
 refine ite2 (fun hy=>?_) (fun hy=>?_)
 ·refine⟨(by show 0<=sizeLine; exact bh _),fun l hl=>?_⟩
  have pl2:p≠l:=jF S1.hp hl
  have S2:=S1.step ((Keep.refl _ _).new hl (.lst [])) (by rw[jD pl2]; exact S1.hp) S1.hN
  have S3:St0 H (upd H7 l (.lst [])) p w qm l mays [] N1:=⟨S2.hp,S2.hN,S2.hm,S2.rm,j7,Ris.nil w,pl2.symm,S2.kp⟩
  exact jHQ T CT CL hr S3 hpH w0 w1 w2 n0 n1 q
 ·exact jHQ T CT CL hr S1 hpH w0 w1 w2 n0 n1 q
theorem jOK (T:Txt mg)(CT:Can P w K mg base "_law_take" 1 fT fdT ["pot","wide"] yZ)(CL:Can P w K mg base "_law_lot" 2 fL fdL ["pot","wide"] xC)(hr:Room 2 (XBox P w K mg base f dl A outer s H0 E).A)
  {D:Ends}{H:Hp}{p:Addr}{mt mp N:Int}
  (hp:H p=some (.lst [.int N])) (hN:0<=N) (w0:0<=mt) (w2:mt<=16) (n0:0<=mp) (n1:mp<=32) (q:Told H p mt mp D.rt):
  (boxA T CT CL hr).1 D [some (.ref p),some (.int mt),some (.int mp),none,none,none,none,none,none,none,none] H:=by
 refine⟨_,rfl,_,rfl,_,_,rfl,rfl,p,N,_,rfl,hp,hN,by lia,by lia,fun N1 w a1 a2 a3=>?_⟩
 refine⟨(by show 0<=sizeLine; exact bh _),fun t ht=>?_⟩
 have pt:p≠t:=(qA ht).1.symm
 refine⟨_,rfl,p,N1,3,rfl,by rw[jD pt]; exact j7,a1,by decide,by decide,fun N2 r b1 b2 b3=>⟨rfl,_,rfl,?_⟩⟩
 have k1:Keep H (upd (upd (upd H p (.lst [.int N1])) t (.tup [])) p (.lst [.int N2])) p:=(((Keep.refl _ _).upd _).new ht _).upd _
 have hp1:(upd (upd (upd H p (.lst [.int N1])) t (.tup [])) p (.lst [.int N2])) p=some (.lst [.int N2]):=j7
 have ht1:(upd (upd (upd H p (.lst [.int N1])) t (.tup [])) p (.lst [.int N2])) t=some (.tup []):=by rw[jD pt.symm]; exact j7
 generalize upd (upd (upd H p (.lst [.int N1])) t (.tup [])) p (.lst [.int N2])=H1 at k1 hp1 ht1 ⊢
 clear ht
 refine ite2 (fun hy=>?_) (fun hy=>?_)
 ·refine⟨_,rfl,w,rfl,by lia,by lia,jAD (n:=w.toNat) (by rw[ah]; lia) (fun D i σ' H' ys=>(∃ v,σ'=[v,some (.ref p)])/\(∃ (ms:List Int) (N':Int),ys=ms.map V.int/\ms.length<=i/\Ris i ms/\0<=N'/\H' p=some (.lst [.int N']))/\Keep H1 H' p/\H' D=some (.lst ys)/\D≠p/\H1 D=none) ?_ ?_ ?_ ?_⟩
  ·intro D hD
   have:p≠D:=jF hp1 hD
   exact⟨⟨_,rfl⟩,⟨[],N2,rfl,ai _,Ris.nil _,b1,by rw[jD this]; exact hp1⟩,(Keep.refl _ _).new hD _,j7,this.symm,hD⟩
  ·rintro D i σ' H' ys hD hi ⟨_,⟨ms,N',rfl,e,_⟩,_,e2,_⟩
   exact⟨e2,by rw[ac]; exact e⟩
  ·rintro D i σ' H' ys hD hi ⟨⟨v,rfl⟩,⟨ms,N',rfl,e,rs,n',hp'⟩,kk,e2,dp,hn⟩
   refine⟨_,rfl,p,N',3,rfl,hp',n',by decide,by decide,fun N3 r3 c1 c2 c3=>⟨rfl,_,rfl,?_⟩⟩
   have k2:Keep H1 (upd H' p (.lst [.int N3])) p:=kk.upd _
   have e3:(upd H' p (.lst [.int N3])) D=some (.lst (ms.map V.int)):=by rw[jD dp]; exact e2
   have hp3:(upd H' p (.lst [.int N3])) p=some (.lst [.int N3]):=j7
   generalize upd H' p (.lst [.int N3])=H'' at k2 e3 hp3 ⊢
   refine ite2 (fun hz=>?_) (fun hz=>?_)
   ·refine⟨_,rfl,e3,⟨_,rfl⟩,⟨ms++[(i:Int)],N3,?_,?_,rs.snoc,c1,by rw[jD dp.symm]; exact hp3⟩,k2.updNew hn _,j7,dp,hn⟩
    ·rw[au]
     show _++[V.int (0+(i:Int))]=_++[V.int (i:Int)]
     rw[gt]
    ·rw[aE]
     show ms.length+1<=i+1
     lia
   ·exact⟨⟨_,rfl⟩,⟨ms,N3,rfl,by lia,rs.step,c1,hp3⟩,k2,e3,dp,hn⟩
  ·rintro D σ' H' ys hD ⟨_,⟨ms,N',rfl,e,rs,n',hp'⟩,kk,e2,dp,hn⟩
   refine⟨D,_,rfl, .inl ⟨SqL.of e2,fun qm hqm=>?_⟩⟩
   have pm:p≠qm:=jF hp' hqm
   have e':((w.toNat:Nat):Int)=w:=by lia
   rw[e'] at rs
   exact jHR T CT CL hr (by rw[jD pm]; exact hp') n' j7 rs ((k1.trans kk).new hqm _) ⟨_,hp⟩ a2 (by lia) w2 n0 n1 q
 ·exact jHR T CT CL hr hp1 b1 (mays:=[]) ht1 (Ris.nil w) k1 ⟨_,hp⟩ a2 (by lia) w2 n0 n1 q
theorem jUJ {f fT fL:Addr}{fd fdT fdL:FuncData}(F:Fun K "_law_box" "_law_box" sBox f fd)(T:Txt mg)(CT:Can P w K mg base "_law_take" 1 fT fdT ["pot","wide"] yZ)(CL:Can P w K mg base "_law_lot" 2 fL fdL ["pot","wide"] xC):
  FnOk P w K mg base CX0 3 f fd ["pot","most_things","most_pieces"] spBox:=by
 refine F.ok scBox (fun vs H Q E h=>?_) (fun dl A outer s H vs Q E hr h=>?_)
 ·obtain⟨_,_,_,_,rfl,_⟩:=h
  rfl
 ·obtain⟨p,N,mt,mp,rfl,hp,hN,m0,m1,n0,n1,q⟩:=h
  exact⟨_,(boxA T CT CL hr).2.h,jOK T CT CL hr hp hN m0 m1 n0 n1 q⟩
inductive Ob where
 | int (i:Int)
 | oth
 | tup (os:List Ob)
def OthAt (H:Hp)(v:V):Prop:=v= .non\/(∃ b,v= .bl b)\/(∃ x,v= .str x)\/∃ a,v= .ref a/\((∃ xs,H a=some (.lst xs))\/∃ iY,H a=some (.dK iY))
mutual
def At (H:Hp):Ob->V->Prop
 | .int i,v=>v= .int i
 | .oth,v=>OthAt H v
 | .tup os,v=>∃ a vs,v= .ref a/\H a=some (.tup vs)/\vs.length<=100/\Ats H os vs
def Ats (H:Hp):List Ob->List V->Prop
 | [],vs=>vs=[]
 | o::os,vs=>∃ v r,vs=v::r/\At H o v/\Ats H os r
end
structure Kp (H H':Hp):Prop where
 t:Tups H H'
 l:∀ a xs,H a=some (.lst xs)->∃ ys,H' a=some (.lst ys)
 d:∀ a xs,H a=some (.dK xs)->∃ ys,H' a=some (.dK ys)
theorem Kp.of {H H':Hp}(e:Ext H H'):Kp H H':=⟨fun b xs h=>e b _ h,fun a xs h=>⟨xs,e a _ h⟩,fun a xs h=>⟨xs,e a _ h⟩⟩
theorem OthAt.mono {H H':Hp}(k:Kp H H'){v:V}(h:OthAt H v):OthAt H' v:=by
 rcases h with h | h | h | ⟨a,rfl,⟨xs,h⟩ | ⟨xs,h⟩⟩
 ·exact .inl h
 ·exact .inr (.inl h)
 ·exact .inr (.inr (.inl h))
 ·exact .inr (.inr (.inr ⟨a,rfl, .inl (k.l _ _ h)⟩))
 ·exact .inr (.inr (.inr ⟨a,rfl, .inr (k.d _ _ h)⟩))
mutual
theorem At.mono {H H':Hp}(k:Kp H H'):∀ (o:Ob) (v:V),At H o v->At H' o v
 | .int _,_,h=>h
 | .oth,_,h=>OthAt.mono k h
 | .tup os,_,⟨a,vs,e,h,n,r⟩=>⟨a,vs,e,k.t _ _ h,n,Ats.mono k os vs r⟩
theorem Ats.mono {H H':Hp}(k:Kp H H'):∀ (os:List Ob) (vs:List V),Ats H os vs->Ats H' os vs
 | [],_,h=>h
 | o::os,_,⟨v,r,e,h,t⟩=>⟨v,r,e,At.mono k o v h,Ats.mono k os r t⟩
end
theorem At.ext {H H':Hp}(e:Ext H H'){o:Ob}{v:V}(h:At H o v):At H' o v:=At.mono (.of e) o v h
theorem Ats.len {H:Hp} :∀ {os:List Ob}{vs:List V},Ats H os vs->vs.length=os.length
 | [],_,h=>by cases (show _=[] from h); rfl
 | o::os,_,⟨v,r,e,h,t⟩=>by rw[e,aZ,aZ,Ats.len t]
theorem Ats.get {H:Hp} :∀ {os:List Ob}{vs:List V},Ats H os vs->∀ {i:Nat}{v:V},vs[i]?=some v->∃ o,os[i]?=some o/\At H o v
 | [],_,h,i,v,e=>by cases (show _=[] from h); cases e
 | o::os,_,⟨v,r,e,h,t⟩,0,v',e'=>by subst e; cases e'; exact⟨o,rfl,h⟩
 | o::os,_,⟨v,r,e,h,t⟩,i+1,v',e'=>by subst e; exact Ats.get t (i:=i) e'
theorem Ats.ints {H:Hp} :∀ (l:List Int),Ats H (l.map Ob.int) (l.map V.int)
 | []=>rfl
 | i::r=>⟨.int i,_,rfl,rfl,Ats.ints r⟩
def isInt:Ob->Bool
 | .int _=>true
 | _=>false
def isTup:Ob->Bool
 | .tup _=>true
 | _=>false
def upB (lo hi:Int):Ob->Bool
 | .int i=>decide (lo<=i)&&decide (i<=hi)
 | _=>false
def val:Ob->Int
 | .int i=>i
 | _=>0
def adj (is:List Int):List Bool:=(List.range (is.length - 1)).map fun k=>decide (is.getD k 0<is.getD (k+1) 0)
noncomputable def risB:Ob->Bool
 | .tup os=>os.all isInt&&(adj (os.map val)).all id
 | _=>false
noncomputable def lotB (w:Int):Ob->Bool
 | .tup os=>os.all (upB 0 (w - 1))&&(adj (os.map val)).all id
 | _=>false
def lotB' (w:Int)(o:Ob):Bool:=risB o&&match o with
 | .tup os=>decide (os=[]) || (decide (0<=(os.map val).getD 0 0)&&decide ((os.map val).getLastD 0<w))
 | _=>false
theorem jOQ {is:List Int}(h:(adj is).all id=true){k:Nat}(hk:k+1<is.length):is.getD k 0<is.getD (k+1) 0:=by
 rw[aS] at h
 exact aq (h _ (aV.mpr ⟨k,bc.mpr (by lia),rfl⟩))
theorem jK9 {is:List Int}(h:(adj is).all id=true):∀ (j k:Nat),j<=k->k<is.length->is.getD j 0<=is.getD k 0
 | j,0,h1,_=>by
  have:j=0:=by lia
  subst this
  exact iV _
 | j,k+1,h1,h2=>by
  rcases fh k j with q | q
  ·have:j=k+1:=by lia
   subst this
   exact iV _
  ·have a:=jK9 h j k q (by lia)
   have b:=jOQ h h2
   lia
theorem jUO (w:Int)(o:Ob):lotB' w o=lotB w o:=by
 cases o with
 | int i=>rfl
 | oth=>rfl
 | tup os=>
  rw[bq]
  unfold lotB' risB lotB
  simp only [bd,ip,gQ]
  constructor
  ·rintro ⟨⟨a,b⟩,c⟩
   refine⟨?_,b⟩
   rw[aS] at a ⊢
   intro x hx
   obtain⟨j,hj,rfl⟩:=cz hx
   have hi:=a _ hx
   have e:os≠ []:=fun e=>by subst e; cases hx
   obtain⟨c1,c2⟩:=c.resolve_left e
   have hl:(os.map val).length=os.length:=ac _
   have g:(os.map val).getD j 0=val os[j]:=by
    rw[aC,ay]
    simp [hj]
   have l1:=jK9 b 0 j (by lia) (by lia)
   have l2:=jK9 b j (os.length - 1) (by lia) (by lia)
   have l3:(os.map val).getLastD 0=(os.map val).getD (os.length - 1) 0:=by
    rw[dX,dY,aC,hl]
   rw[g] at l1 l2
   rw[l3] at c2
   cases e2:os[j] with
   | int i=>
    rw[e2] at l1 l2
    simp only [val] at l1 l2
    simp only [upB,bd,gQ]
    lia
   | oth=>rw[e2] at hi; cases hi
   | tup r=>rw[e2] at hi; cases hi
  ·rintro ⟨a,b⟩
   rw[aS] at a
   refine⟨⟨?_,b⟩,?_⟩
   ·rw[aS]
    intro x hx
    have:=a x hx
    cases x with
    | int i=>rfl
    | oth=>cases this
    | tup r=>cases this
   ·by_cases e:os=[]
    ·exact .inl e
    ·refine .inr ?_
     have key:∀ j,j<os.length->0<=(os.map val).getD j 0/\(os.map val).getD j 0<w:=fun j hj=>by
      have g:(os.map val).getD j 0=val os[j]:=by
       rw[aC,ay]
       simp [hj]
      have:=a os[j] (cV hj)
      rw[g]
      cases e2:os[j] with
      | int i=>
       rw[e2] at this
       simp only [upB,bd,gQ] at this
       simp only [val]
       lia
      | oth=>rw[e2] at this; cases this
      | tup r=>rw[e2] at this; cases this
     have hpos:0<os.length:=by
      cases os with
      | nil=>exact absurd rfl e
      | cons _ _=>simp
     have l3:(os.map val).getLastD 0=(os.map val).getD (os.length - 1) 0:=by
      rw[dX,dY,aC,ac]
     rw[l3]
     exact⟨(key 0 hpos).1,(key (os.length - 1) (by lia)).2⟩
theorem Ats.allInt {H:Hp} :∀ {os:List Ob}{vs:List V},Ats H os vs->os.all isInt=true->vs=(os.map val).map V.int
 | [],_,h,_=>by cases (show _=[] from h); rfl
 | o::os,_,⟨v,r,e,h,t⟩,ha=>by
  rw[fQ,bd] at ha
  subst e
  rw[bA,bA,<- Ats.allInt t ha.2]
  cases o with
  | int i=>cases (show v= .int i from h); rfl
  | oth=>cases ha.1
  | tup _=>cases ha.1
theorem jRF (l:List Ob)(F:Ob->Bool):(l.map F).all id=l.all F:=by
 rw[gq]
 rfl
theorem jTH (is:List Int):(adj is).length=is.length - 1:=by
 unfold adj
 rw[ac,b7]
theorem jVD {is:List Int}{k:Nat}(h:k<is.length - 1):(adj is)[k]?=some (decide (is.getD k 0<is.getD (k+1) 0)):=by
 unfold adj
 rw[ay,dw h]
 rfl
theorem jQN {is:List Int}{k:Nat}(h:k<is.length - 1):(adj is).take (k+1)=(adj is).take k++[decide (is.getD k 0<is.getD (k+1) 0)]:=by
 rw[aJ,jVD h]
 rfl
theorem getI {is:List Int}{k:Nat}(h:k<is.length):(is.map V.int)[k]?=some (.int (is.getD k 0)):=by
 rw[ay,aC]
 simp [h]
theorem At.ty (K:W.Frag){H:Hp}{o:Ob}{v:V}(h:At H o v):∃ t,TyOf K H v t/\kitOne K t (.type "tuple")=some (isTup o)/\∃ b1 b2,kitOne K t (.type "int")=some b1/\kitOne K t (.type "bool")=some b2/\(b1&&!b2)=isInt o:=by
 cases o with
 | int i=>
  cases (show v= .int i from h)
  exact⟨_, .int i,rfl,true,false,rfl,rfl,rfl⟩
 | oth=>
  rcases (show OthAt H v from h) with rfl | ⟨b,rfl⟩ | ⟨x,rfl⟩ | ⟨a,rfl,⟨xs,e⟩ | ⟨xs,e⟩⟩
  ·exact⟨_, .non,rfl,false,false,rfl,rfl,rfl⟩
  ·exact⟨_, .bl b,rfl,true,true,rfl,rfl,rfl⟩
  ·exact⟨_, .str x,rfl,false,false,rfl,rfl,rfl⟩
  ·exact⟨_, .lst e,rfl,false,false,rfl,rfl,rfl⟩
  ·exact⟨_, .dK e,rfl,false,false,rfl,rfl,rfl⟩
 | tup os=>
  obtain⟨a,vs,rfl,e,_⟩:=h
  exact⟨_, .tup e,rfl,false,false,rfl,rfl,rfl⟩
theorem At.tupOf {H:Hp}{o:Ob}{v:V}(h:At H o v)(t:isTup o=true):∃ os a vs,o= .tup os/\v= .ref a/\H a=some (.tup vs)/\vs.length<=100/\Ats H os vs:=by
 cases o with
 | int i=>cases t
 | oth=>cases t
 | tup os=>
  obtain⟨a,vs,e1,e2,e4,e3⟩:=h
  exact⟨os,a,vs,rfl,e1,e2,e4,e3⟩
theorem jHI {K:W.Frag}{m:List (Option Nat)}{g:TG}{tt:TT}{te:TE}{σ:St}{H1:Hp}{Q:VK}{a:Addr}{xs:List V}{os:List Ob}{F:Ob->Bool}(ha:H1 a=some (.tup xs))(hx:Ats H1 os xs)(hn:xs.length<sizeLine)(σP:St->Prop)(h0:σP (blkσ m σ))
  (step:∀ (σ':St) (H':Hp) (v:V) (o:Ob) (R:St->V->Hp->Prop) (S:St->Hp->Prop),σP σ'->Ext H1 H'->At H' o v->(∀ σ2 H'',σP σ2->Ext H' H''->R σ2 (.bl (F o)) H'')->g v σ' H' fun σ2 H2=>tt σ2 H2 fun b H3=>if b=true then te σ2 H3 (R σ2) else S σ2 H3)
  (hd:∀ D H',Ext H1 H'->H' D=some (.lst ((os.map F).map V.bl))->Q (.ref D) H'):qE m g tt te σ Q (Itt K a) H1:=by
 have hl:=hx.len
 refine jAC (xs:=xs) hn (fun D i σ' H' zs=>σP σ'/\Ext H1 H'/\H' D=some (.lst zs)/\H1 D=none/\zs=((os.take i).map F).map V.bl) ?_ ?_ ?_ ?_
 ·intro D hD
  exact⟨h0,(Ext.refl _).new hD _,j7,hD,rfl⟩
 ·rintro D i σ' H' zs hD ⟨_,e,h2,_,rfl⟩
  refine⟨e _ _ ha,h2,?_⟩
  rw[ac,ac,bg]
  lia
 ·rintro D i σ' H' zs x hD hi ⟨p,e,h2,hn,rfl⟩
  obtain⟨o,ho,hAt⟩:=hx.get hi
  refine step σ' H' x o _ _ p e (hAt.ext e) fun σ2 H'' p2 e2=>⟨e2 _ _ h2,p2,(e.trans e2).updNew hn _,j7,hn,?_⟩
  have:os.take (i+1)=os.take i++[o]:=by
   rw[aJ,ho]
   rfl
  rw[this,au,au]
  rfl
 ·rintro D σ' H' zs hD ⟨_,e,h2,_,rfl⟩
  rw[hl,aO] at h2
  exact hd D H' e h2
noncomputable abbrev XOf (N:List Str)(q:Str)(st:Stmt)(P:Program)(w:World)(K:W.Frag)(mg:Str->Option Value)(base:Heap)(f:Addr)(dl:Value)(A:Around)(outer:List Env)(s:Shared)(H:Hp)(E:XK):Cx:=(cxOf CX0 P w K mg base N q (jA st) f dl A outer s H E).nox
abbrev jMR:List Str:=["thing"]
theorem scWhole0:FnScope jMR ["thing"] (jA jBZ):= {}
def spWh:Sp:=fun vs H Q _=>∃ v o,vs=[v]/\At H o v/\Q (.bl (isInt o)) H
def jRI (T:Txt mg): { t:TS // JSs (XOf jMR "is_whole" jBZ P w K mg base f dl A outer s H0 E) (jN jBZ) t} :=
 have nd:=scWhole0.nd
 ⟨_,(jH (kB ((jH9 (jK jAB gD T.isinstance (by decide+kernel) (j4 (jv 0 rfl vL) (j4 (jC1 (v:= .ty "int") gD T.int (by decide+kernel) rfl) j8 j6) j6) j6) (jEB (jH8 (jK jAB gD T.isinstance (by decide+kernel) (j4 (jv 0 rfl vL) (j4 (jC1 (v:= .ty "bool") gD T.bool (by decide+kernel) rfl) j8 j6) j6) j6)))))))⟩
theorem jMC {fd:FuncData}(F:Fun K "is_whole" "is_whole" jBZ f fd)(T:Txt mg):FnOk P w K mg base CX0 1 f fd ["thing"] spWh:=by
 refine F.ok scWhole0 (fun vs H Q E h=>?_) (fun dl A outer s H vs Q E hr h=>?_)
 ·obtain⟨_,_,rfl,_⟩:=h
  rfl
 ·obtain⟨v,o,rfl,hA,q⟩:=h
  obtain⟨t,ty,_,b1,b2,k1,k2,e⟩:=hA.ty K
  refine⟨_,(jRI T).2.h,?_⟩
  refine⟨_,rfl,_,_,_,b1,rfl,ty,k1,b1,rfl,?_⟩
  rw[<- e] at q
  cases b1 with
  | true=>exact iteT ⟨_,rfl,_,_,_,b2,rfl,ty,k2,b2,rfl,q⟩
  | false=>exact iteF q
abbrev jE3:List Str:=["thing"]
theorem scRising:FnScope jE3 ["thing"] (jA jAR):= {}
def spB (F:Ob->Bool):Sp:=fun vs H Q _=>∃ v o,vs=[v]/\At H o v/\∀ H',Ext H H'->Q (.bl (F o)) H'
def jRU (T:Txt mg)(CW:Can P w K mg base "is_whole" 1 fW fdW ["thing"] spWh)(hr:Room 1 (XOf jE3 "is_rising" jAR P w K mg base f dl A outer s H0 E).A): { t:TS // JSs (XOf jE3 "is_rising" jAR P w K mg base f dl A outer s H0 E) (jN jAR) t} :=
 have nd:=scRising.nd
 ⟨_,(jB (yJ (jDA (qG (jK jAB gD T.isinstance (by decide+kernel) (j4 (jv 0 rfl vC) (j4 (jC1 (v:= .ty "tuple") gD T.tuple (by decide+kernel) rfl) j8 j6) j6) j6) yY)) (jH (kB (xD))) kP)
   (jB (yJ (jDA (qG (jK (jAX rfl) gD T.all (by decide+kernel) (j4 (kN (m:=[none]) (Nc:=["number"]) rfl (yP (jv 0 rfl vC)) rfl (by decide+kernel) (by decide+kernel) (jX (psc:=jA jAR)) (jM (N:=jE3) rfl rfl (by decide+kernel)) (fun cl C fp s H=>jQ (i:=0) (show (["number"]:List Str).Nodup by decide+kernel) rfl yA) (fun cl C fp s H=>kZ) (fun cl C fp s H=>(CW.je hr gl_b (j4 (jv 0 rfl jS) j8 j6) j6)) yD) j8 jR) jR) yY)) (jH (kB (xD))) kP)
   (jH (kB (jK (jAX rfl) gD T.all (by decide+kernel) (j4 (kN (m:=[none,some 0]) (Nc:=["k","thing"]) rfl (jH7 gD T.range (j4 (jC) (j4 (jK jV gD T.len (by decide+kernel) (j4 (jv 0 rfl vC) j8 j6) j6) j8 jG) jU) jU jG) rfl (by decide+kernel) (by decide+kernel) (jX (psc:=jA jAR)) (jM (N:=jE3) rfl rfl (by decide+kernel)) (fun cl C fp s H=>jQ (i:=0) (show (["k","thing"]:List Str).Nodup by decide+kernel) rfl yA) (fun cl C fp s H=>kZ) (fun cl C fp s H=>(q0 op_lt (jJ kD (jv 1 rfl jZ) (yK jEZ (jv 0 rfl jS) (jC)) jTU) (jJ kD (jv 1 rfl jZ) (jv 0 rfl jS) y9) (kT _))) kQ) j8 jR) jR)))))⟩
theorem jMG {fd:FuncData}(F:Fun K "is_rising" "is_rising" jAR f fd)(T:Txt mg)(CW:Can P w K mg base "is_whole" 1 fW fdW ["thing"] spWh):FnOk P w K mg base CX0 2 f fd ["thing"] (spB risB):=by
 refine F.ok scRising (fun vs H Q E h=>?_) (fun dl A outer s H vs Q E hr h=>?_)
 ·obtain⟨_,_,rfl,_⟩:=h
  rfl
 ·obtain⟨v,o,rfl,hA,q⟩:=h
  obtain⟨t,ty,kt,_⟩:=hA.ty K
  refine⟨_,(jRU T CW hr).2.h,?_⟩
  refine⟨_,rfl,_,_,_,_,rfl,ty,kt,_,rfl,?_⟩
  cases ht:isTup o with
  | false=>
   refine iteT ?_
   have:risB o=false:=by cases o <;> first | rfl | cases ht
   rw[<- this]
   exact q H (Ext.refl H)
  | true=>
   refine iteF ?_
   obtain⟨os,a,vs,rfl,rfl,ha,h100,hx⟩:=hA.tupOf ht
   have hl:=hx.len
   have hn:vs.length<sizeLine:=by rw[ah]; lia
   ·refine⟨_,rfl,a,rfl,⟨_,SqT.of ha⟩,jHI (F:=isInt) ha hx hn (fun σ'=>∃ v,σ'=[v]) ⟨_,rfl⟩ ?_ ?_⟩
    ·rintro σ' H' v o R S ⟨u,rfl⟩ e hA k
     dsimp only [kI,yG]
     rw[aD rfl]
     exact⟨_,rfl,v,o,rfl,hA,k _ H' ⟨_,rfl⟩ (Ext.refl _)⟩
    ·intro D H1 e1 hD
     refine⟨D,_,rfl,SqL.of hD,_,rfl,?_⟩
     rw[jRF]
     cases hi:os.all isInt with
     | false=>
      refine iteT ?_
      have:risB (.tup os)=false:=by
       show (os.all isInt&&_)=false
       rw[hi]
       rfl
      rw[<- this]
      exact q H1 e1
     | true=>
      refine iteF ?_
      have hv:=hx.allInt hi
      have hN:(os.map val).length=os.length:=ac _
      refine⟨_,rfl,a,_,rfl, .inr (SqT.of (e1 _ _ ha)),1,_,rfl,⟨by decide,by decide,by lia,by rw[ah] at hn; lia⟩,jAD (n:=((vs.length:Int) - 1).toNat) (by lia) (fun D i σ' H' zs=>(∃ v,σ'=[v,some (.ref a)])/\zs=((adj (os.map val)).take i).map V.bl/\H'=upd H1 D (.lst zs)) ?_ ?_ ?_ ?_⟩
      ·intro D hD
       exact⟨⟨_,rfl⟩,rfl,rfl⟩
      ·rintro D i σ' H' zs hD hi2 ⟨_,rfl,rfl⟩
       refine⟨j7,?_⟩
       rw[ac,bg]
       lia
      ·rintro D i σ' H' zs hD hi2 ⟨⟨v,rfl⟩,rfl,rfl⟩
       have hi3:i<(os.map val).length - 1:=by lia
       have ha':(upd H1 D (.lst (((adj (os.map val)).take i).map V.bl))) a=some (.tup ((os.map val).map V.int)):=by
        rw[jD (jF (e1 _ _ ha) hD),e1 _ _ ha,hv]
       dsimp only [kI,yG]
       rw[aD rfl]
       have e0:(1+(i:Int)) - 1=(i:Int):=by lia
       have e2:(1+(i:Int))=((i+1:Nat):Int):=by lia
       refine⟨_,rfl,_,rfl,_,_,rfl,rfl,a,_,_,_,rfl,rfl,SqT.of ha',by rw[e0]; exact yR (getI (by lia)),_,rfl,_,rfl,a,_,_,_,rfl,rfl,SqT.of ha',by rw[e2]; exact yR (getI (by lia)),_,_,rfl,rfl,j7,⟨_,rfl⟩,?_,jBB⟩
       rw[jQN hi3,au]
       rfl
      ·rintro D2 σ' H' zs hD2 ⟨_,rfl,rfl⟩
       have hlen:((vs.length:Int) - 1).toNat=(adj (os.map val)).length:=by rw[jTH]; lia
       rw[hlen,aO]
       refine⟨D2,_,rfl,SqL.of j7,?_⟩
       have:(adj (os.map val)).all id=risB (.tup os):=by
        show _=(os.all isInt&&(adj (os.map val)).all id)
        rw[hi,eG]
       rw[this]
       exact q _ (e1.new hD2 _)
end Eo
namespace L2
open PySem
theorem px_un {op:UnaryOp}{a:Expr}{pos:Pos} :jBJ (.UnaryOp op a pos):=fun _ _=>rfl
theorem jTG {α:Type}{xs:List α}{v:α}(h:xs[xs.length - 1]?=some v):atI xs (-1)=some v:=by
 have hj:xs.length - 1<xs.length:=(av.mp h).1
 have e:ixN xs.length (-1)=some (xs.length - 1):=by
  unfold ixN
  rw[aF (by lia),aD (by lia)]
  congr 1
  lia
 unfold atI
 rw[e]
 exact h
theorem qb {Q:VK}{H:Hp}{a b:Bool}(q:Q (.bl a) H)(e:a=b):Q (.bl b) H:=e ▸ q
end L2
namespace Eo
open PySem L2
section
variable {fG fPs:Addr}{fdG fdPs:FuncData}
abbrev jMV:List Str:=["thing","many"]
theorem scIsLot:FnScope jMV ["thing","many"] (jA jD4):= {}
def spB2 (F:Int->Ob->Bool):Sp:=fun vs H Q _=>∃ v o w,vs=[v, .int w]/\At H o v/\∀ H',Ext H H'->Q (.bl (F w o)) H'
def jV0 (T:Txt mg)(CR:Can P w K mg base "is_rising" 2 fR fdR ["thing"] (spB risB))(hr:Room 2 (XOf jMV "is_lot" jD4 P w K mg base f dl A outer s H0 E).A): { t:TS // JSs (XOf jMV "is_lot" jD4 P w K mg base f dl A outer s H0 E) (jN jD4) t} :=
 have nd:=scIsLot.nd
 ⟨_,(jB (yJ (jDA (qG (CR.je hr gD (j4 (jv 0 rfl vL) j8 j6) j6) yY)) (jH (kB (xD))) kP)
   (jH (kB ((je_or (q0 qX (jK jV gD T.len (by decide+kernel) (j4 (jv 0 rfl vL) j8 j6) j6) (jC) (kT _)) (jEB ((jH9 (q0 op_ge (jJ jL (jv 0 rfl vL) (jC) jE) (jC) (kT _)) (jEB (q0 op_lt (jJ jL (jv 0 rfl vL) (je_un jQQ (jC)) px_un) (jv 1 rfl vL) (kT _)))))))))))⟩
theorem jPN {fd:FuncData}(F:Fun K "is_lot" "is_lot" jD4 f fd)(T:Txt mg)(CR:Can P w K mg base "is_rising" 2 fR fdR ["thing"] (spB risB)):FnOk P w K mg base CX0 3 f fd ["thing","many"] (spB2 lotB):=by
 refine F.ok scIsLot (fun vs H Q E h=>?_) (fun dl A outer s H vs Q E hr h=>?_)
 ·obtain⟨_,_,_,rfl,_⟩:=h
  rfl
 ·obtain⟨v,o,w,rfl,hA,q⟩:=h
  refine⟨_,(jV0 T CR hr).2.h,?_⟩
  refine⟨_,rfl,v,o,rfl,hA,fun H1 e1=>⟨_,rfl,?_⟩⟩
  have eq:=jUO w o
  cases hR:risB o with
  | false=>
   refine iteT (qb (q H1 e1) ?_)
   rw[<- eq]
   unfold lotB'
   rw[hR]
   rfl
  | true=>
   refine iteF ?_
   have ht:isTup o=true:=by cases o <;> first | rfl | cases hR
   obtain⟨os,a,vs,rfl,rfl,ha,h100,hx⟩:=hA.tupOf ht
   have hl:=hx.len
   have hi:os.all isInt=true:=by
    have:(os.all isInt&&(adj (os.map val)).all id)=true:=hR
    rw[bd] at this
    exact this.1
   have hv:=hx.allInt hi
   have ha1:=e1 _ _ ha
   refine⟨_,rfl,a,_,rfl, .inr (SqT.of ha1),rfl,_,rfl,ite2 (fun hy=>?_) (fun hy=>?_)⟩
   ·have h0:=V.int.inj (aq hy)
    have e0:os=[]:=eN.mp (by lia)
    refine qb (q H1 e1) ?_
    rw[<- eq]
    unfold lotB'
    rw[hR]
    simp [e0]
   ·have h0:0<vs.length:=Nat.pos_of_ne_zero fun h=>hy (ao (by rw[h]; rfl))
    have hml:(os.map val).length=vs.length:=by rw[ac,hl]
    refine⟨_,rfl,a,_,0, .int ((os.map val).getD 0 0),rfl,rfl,SqT.of ha1,?_,_,_,rfl,rfl,_,rfl,ite2 (fun hz=>?_) (fun hz=>?_)⟩
    ·rw[hv]
     exact yR (j:=0) (getI (by lia))
    ·refine⟨_,rfl,_,rfl,a,_,_, .int ((os.map val).getLastD 0),rfl,rfl,SqT.of ha1,?_,_,rfl,_,_,rfl,rfl,qb (q H1 e1) ?_⟩
     ·show atI vs (-1)=_
      refine jTG ?_
      rw[hv,ac,getI (by lia),dX,dY,aC]
     ·rw[<- eq]
      unfold lotB'
      rw[hR]
      have e0:¬ os=[]:=fun e=>by rw[e] at hl; have:vs.length=0:=hl; lia
      have hz:=aq hz
      simp [e0]
      intro hh
      simpa using hz
    ·refine qb (q H1 e1) ?_
     rw[<- eq]
     unfold lotB'
     rw[hR]
     have e0:¬ os=[]:=fun e=>by rw[e] at hl; have:vs.length=0:=hl; lia
     have hz:¬ (0<=(os.map val).getD 0 0):=fun h=>hz (ao h)
     simp only [e0,decide_false,iJ,eG,aN hz,dy]
end
end Eo
section
namespace L2
open PySem
section
variable {P:Program}{w:World}{K:W.Frag}{mg:Str->Option Value}{base:Heap}{N:List Str}{qual:Str}{sc:Scope}{f:Addr}{dl:Value}{A:Around}{outer:List Env}{s:Shared}{H:Hp}{E:XK}{x y z:Str}{p1 p2 p3 pos:Pos}{k i j l:Nat}
theorem jQ1 (hN:N.Nodup)(hi:N[i]?=some x)(hj:N[j]?=some y)(hl:N[l]?=some z)(hx:sc.names.lookup x=some .local)(hy:sc.names.lookup y=some .local)(hz:sc.names.lookup z=some .local):
  JG (cxOf CX0 P w K mg base N qual sc f dl A outer s H E).nox (.Tuple [.Name x p1, .Name y p2, .Name z p3] k pos) (gTup K 3 (gCons (kI i) (gCons (kI j) (gCons (kI l) gNil)))):=
 jNE (X:=(cxOf CX0 P w K mg base N qual sc f dl A outer s H E).nox) rfl (jAG (jQ hN hi (loc_l hx)) (jAG (jQ hN hj (loc_l hy)) (jAG (jQ hN hl (loc_l hz)) jIK jBA) jBA) jBA)
end
section
variable {K:W.Frag}{m:List (Option Nat)}{g:TG}{tt:TT}{te:TE}{σ:St}{H1:Hp}{Q:VK}
theorem jQH {a:Addr}{xs:List V}(hn:xs.length<sizeLine)(Pv:Addr->Nat->St->Hp->List V->Prop)(h0:∀ D,H1 D=none->Pv D 0 (blkσ m σ) (upd H1 D (.lst [])) [])
  (hD:∀ D i σ' H' zs,H1 D=none->Pv D i σ' H' zs->H' a=some (.lst xs)/\H' D=some (.lst zs)/\zs.length<=i)
  (hs:∀ D i σ' H' zs x,H1 D=none->xs[i]?=some x->Pv D i σ' H' zs->g x σ' H' fun σ2 H2=>tt σ2 H2 fun b H3=>if b=true then te σ2 H3 fun v H4=>H4 D=some (.lst zs)/\Pv D (i+1) σ2 (upd H4 D (.lst (zs++[v]))) (zs++[v]) else Pv D (i+1) σ2 H3 zs)
  (hd:∀ D σ' H' zs,H1 D=none->Pv D xs.length σ' H' zs->Q (.ref D) H'):qE m g tt te σ Q (Itl K a) H1:=by
 intro D hDn
 refine⟨fun i k σ' H' zs=>k=xs.length - i/\i<=xs.length/\Pv D i σ' H' zs,⟨_,rfl,bh _,h0 D hDn⟩,?_⟩
 rintro i k σ' H' zs ⟨rfl,hi,p⟩
 obtain⟨s1,q1,q2⟩:=hD D i σ' H' zs hDn p
 refine⟨q1,by lia,?_⟩
 by_cases hlt:i<xs.length
 ·refine .inr ⟨⟨xs,xs[i],SqL.of s1,by simp [hlt]⟩,Pv D (i+1),fun σ2 H2 zs z=>⟨xs.length - (i+1),by lia,rfl,hlt,z⟩,fun v H'' y=>?_⟩
  obtain⟨e1,e2⟩:=y
  subst e1
  exact hs D i σ' _ zs v hDn (e2 xs (SqL.of s1)) p
 ·have e:i=xs.length:=by lia
  subst e
  exact .inl ⟨⟨xs,SqL.of s1,ai _⟩,hd D σ' H' zs hDn p⟩
end
end L2
namespace Eo
open PySem L2
theorem jCV {α:Type}{l:List α}{i:Nat}{d:α}(h:i<l.length):l.getD i d=l[i]:=by
 rw[aC,aK h]
 rfl
theorem kL (l:List Int):(l.map V.int).all xE=true:=by
 rw[aS]
 intro x hx
 obtain⟨i,_,rfl⟩:=aV.mp hx
 rfl
theorem kU (i:Int)(l:List Int):inV (.int i) (l.map V.int)=decide (i∈l):=by
 unfold inV
 rw[bq,cf,bo]
 constructor
 ·rintro ⟨x,hx,e⟩
  obtain⟨j,hj,rfl⟩:=aV.mp hx
  have:j=i:=eq_of_beq e
  rw[<- this]
  exact hj
 ·intro h
  exact⟨.int i,aV.mpr ⟨i,h,rfl⟩,by simp [eqV]⟩
theorem jO6 (i:Int):∀ (l:List Int),((l.map V.int).countP fun z=>eqV z (.int i))=l.count i
 | []=>rfl
 | a::r=>by
  rw[bA,cD,jO6 i r,List.count_cons]
  rfl
theorem yM:∀ (ts:List Int) (lo w:Int),ts.Pairwise (· < ·)->(∀ z∈ts,lo<=z/\z<w)->(ts.length:Int)<=max (w - lo) 0
 | [],lo,w,_,_=>by show (0:Int)<=_; lia
 | a::r,lo,w,hp,hb=>by
  have h1:=hb a aw
  have hp':=cC.mp hp
  have:=yM r (a+1) w hp'.2 fun z hz=>⟨by have:=hp'.1 z hz; lia,(hb z (aA _ hz)).2⟩
  rw[aZ]
  lia
def j9 (pcs:List (List Int×Int))(k:Int):List Int:=(pcs.getD k.toNat ([],0)).1
theorem PcsAt.get {H:Hp} :∀ {vs:List V}{ps:List (List Int×Int)},PcsAt H vs ps->∀ {k:Nat},k<ps.length->∃ v,vs[k]?=some v/\PcAt H v (ps.getD k ([],0))
 | v::vs,p::ps,h,0,_=>⟨v,rfl,h.1⟩
 | v::vs,p::ps,h,k+1,hk=>PcsAt.get h.2 (k:=k) (by simpa using hk)
 | [],[],_,k,hk=>absurd hk (cN _)
 | [],_::_,h,_,_=>h.elim
 | _::_,[],h,_,_=>h.elim
theorem Good.at {mt mp w:Int}{ms:List Int}{pcs:List (List Int×Int)}(g:Good mt mp w ms pcs){k:Nat}(hk:k<pcs.length):GoodPc w (pcs.getD k ([],0)):=by
 have e:pcs.getD k ([],0)=pcs[k]:=by simp [List.getD,hk]
 rw[e]
 exact g.pg _ (cV hk)
theorem jP6 {H:Hp}{vs:List V}{pcs:List (List Int×Int)}(h:PcsAt H vs pcs){k:Int}(h0:0<=k)(h1:k<pcs.length):∃ a q wt,atI vs k=some (.ref a)/\H a=some (.tup [.ref q, .int wt])/\H q=some (.tup ((j9 pcs k).map V.int)):=by
 obtain⟨v,hv,a,q,rfl,b1,b2⟩:=h.get (k:=k.toNat) (by lia)
 refine⟨a,q,_,?_,b1,b2⟩
 have e:((k.toNat:Nat):Int)=k:=by lia
 have:=yR hv
 rw[e] at this
 exact this
theorem jDQ {n i:Nat}(h:i<n):(upto n).take (i+1)=(upto n).take i++[(i:Int)]:=by
 unfold upto
 rw[<- fY,<- fY,List.take_range,List.take_range,show min (i+1) n=i+1 by lia,show min i n=i by lia,gh,au]
 rfl
theorem kJ (n:Nat):(upto n).length=n:=by
 unfold upto
 rw[ac,b7]
theorem yC {n i:Nat}(h:i<n):(upto n)[i]?=some (i:Int):=by
 unfold upto
 rw[ay,dw h]
 rfl
theorem jRE (H:Hp):At H .oth .non:= .inl rfl
theorem at_bl (H:Hp)(b:Bool):At H .oth (.bl b):= .inr (.inl ⟨b,rfl⟩)
theorem jV8 (H:Hp)(x:Str):At H .oth (.str x):= .inr (.inr (.inl ⟨x,rfl⟩))
theorem jV9 {H:Hp}{a:Addr}{xs:List V}(h:H a=some (.lst xs)):At H .oth (.ref a):= .inr (.inr (.inr ⟨a,rfl, .inl ⟨xs,h⟩⟩))
theorem jVA {H:Hp}{a:Addr}{xs:List (Key×V)}(h:H a=some (.dK xs)):At H .oth (.ref a):= .inr (.inr (.inr ⟨a,rfl, .inr ⟨xs,h⟩⟩))
theorem jOM {H:Hp}{a:Addr}{vs:List V}{os:List Ob}(h:H a=some (.tup vs))(n:vs.length<=100)(r:Ats H os vs):At H (.tup os) (.ref a):=⟨a,vs,rfl,h,n,r⟩
theorem ats0 (H:Hp):Ats H [] []:=rfl
theorem ats1 {H:Hp}{o:Ob}{v:V}{os:List Ob}{vs:List V}(h:At H o v)(r:Ats H os vs):Ats H (o::os) (v::vs):=⟨v,vs,rfl,h,r⟩
theorem _root_.L2.Ext.tups {H H':Hp}(e:Ext H H'):Tups H H':=fun b xs h=>e b _ h
theorem PcsAt.at {H:Hp} :∀ {vs:List V}{ps:List (List Int×Int)},PcsAt H vs ps->∀ {i:Nat}{v:V},vs[i]?=some v->∃ pc,ps[i]?=some pc/\PcAt H v pc
 | [],[],_,i,v,e=>by cases e
 | x::vs,p::ps,h,0,v,e=>by cases e; exact⟨p,rfl,h.1⟩
 | x::vs,p::ps,h,i+1,v,e=>PcsAt.at h.2 (i:=i) e
 | [],_::_,h,_,_,_=>h.elim
 | _::_,[],h,_,_,_=>h.elim
theorem PcsAt.snoc {H:Hp}{v:V}{p:List Int×Int}(hv:PcAt H v p):∀ {vs:List V}{ps:List (List Int×Int)},PcsAt H vs ps->PcsAt H (vs++[v]) (ps++[p])
 | [],[],_=>⟨hv,trivial⟩
 | x::vs,q::ps,h=>⟨h.1,PcsAt.snoc hv h.2⟩
 | [],_::_,h=>h.elim
 | _::_,[],h=>h.elim
def fitM (dn:Nat)(pc:List Int×Int):Bool:=decide (maskN pc.1&&&dn=0)
def fitS (ds:List Int)(pc:List Int×Int):Bool:=!pc.1.any fun t=>decide (t∈ds)
def Done (dn:Nat)(ds:List Int):Prop:=(∀ n:Nat,dn.testBit n=decide ((n:Int)∈ds))/\∀ t∈ds,0<=t/\t<64
theorem jQB {dn:Nat}{ds:List Int}(h:Done dn ds){w:Int}{pc:List Int×Int}(g:GoodPc w pc):fitM dn pc=fitS ds pc:=by
 have hb:∀ n,(maskN pc.1).testBit n=decide ((n:Int)∈pc.1):=fun n=>jA6 pc.1 n g.lot.ris fun t ht=>(g.lot.bnd t ht).1
 unfold fitM fitS
 rw[bq,bo,b8,cw]
 constructor
 ·intro e t ht hd
  have hd:t∈ds:=aq hd
  obtain⟨n,rfl⟩:∃ n:Nat,t=(n:Int):=⟨t.toNat,by have:=(g.lot.bnd t ht).1; lia⟩
  have:(maskN pc.1&&&dn).testBit n=true:=by rw[cQ,hb,h.1,ao ht,ao hd]; rfl
  rw[e,bX] at this
  cases this
 ·intro e
  refine cK fun n=>?_
  rw[bX,cQ,hb,h.1]
  by_cases h1:(n:Int)∈pc.1
  ·have:=e _ h1
   have h2:¬ (n:Int)∈ds:=fun z=>this (ao z)
   rw[aN h2,bP]
  ·rw[aN h1,dy]
def mus (mays:List Int)(n:Nat):List Int:=((List.range n).filter fun (t:Nat)=>!decide ((t:Int)∈mays)).map fun (t:Nat)=>(t:Int)
theorem jJK (mays:List Int)(n:Nat):mus mays (n+1)=mus mays n++(if (!decide ((n:Int)∈mays))=true then [(n:Int)] else []):=by
 unfold mus
 rw[gh,bn,au]
 congr 1
 rw[bW]
 split <;> rfl
theorem jMY (mays:List Int)(n:Nat):(mus mays n).length<=n:=by
 unfold mus
 rw[ac]
 exact aQ (aY _ _) (by rw[b7]; exact ai _)
theorem Keep.ext {H H':Hp}{p:Addr}{o:HO}(k:Keep (L2.upd H p o) H' p)(hp:H p=none):Ext H H':=fun b u hb=>by
 have n:b≠p:=jF hb hp
 exact k b u (by rw[jD n]; exact hb) n
theorem Good.wide {mt mp w mt' mp':Int}{ms:List Int}{pcs:List (List Int×Int)}(g:Good mt mp w ms pcs)(h1:mt<=mt')(h2:mp<=mp'):Good mt' mp' w ms pcs:=⟨g.w0,iS g.w1 h1,g.mr,iS g.pl h2,g.pg⟩
structure Taken (wi:Int)(ds:List Int):Prop where
 nd:ds.Nodup
 bnd:∀ t∈ds,0<=t/\t<wi
theorem jMO (n:Nat):∀ (ds:List Int),ds.Nodup->(∀ t∈ds,0<=t/\t<(n:Int))->ds.length<=n:=by
 intro ds h1 h2
 have h3:(ds.map Int.toNat).Nodup:=by
  rw[List.Nodup,dj]
  refine gZ (R:=(· ≠ ·)) (fun {a b} ha hb hne e=>hne ?_) h1
  have:=h2 a ha
  have:=h2 b hb
  lia
 have h4:(ds.map Int.toNat).length<=(List.range n).length:=h3.length_le_of_subset fun x hx=>by
  obtain⟨t,ht,rfl⟩:=aV.mp hx
  have:=h2 t ht
  exact bc.mpr (by lia)
 rw[ac,b7] at h4
 exact h4
theorem Taken.len {wi:Int}{ds:List Int}(h:Taken wi ds)(w0:0<=wi):(ds.length:Int)<=wi:=by
 have:=jMO wi.toNat ds h.nd fun t ht=>by have:=h.bnd t ht; lia
 lia
theorem Taken.more {wi:Int}{ds:List Int}{pc:List Int×Int}(h:Taken wi ds)(g:GoodPc wi pc)(hf:fitS ds pc=true):Taken wi (ds++pc.1):=by
 refine⟨fe.mpr ⟨h.nd,g.lot.ris.imp fun {a b} h=>(by lia),fun a ha b hb e=>?_⟩,fun t ht=>?_⟩
 ·subst e
  unfold fitS at hf
  rw[b8,cw] at hf
  exact hf a hb (ao ha)
 ·rcases bv.mp ht with q | q
  ·exact h.bnd t q
  ·exact g.lot.bnd t q
noncomputable abbrev nFits:List Str:=["box","k","done"]
theorem scFits:FnScope nFits ["box","k","done"] (jA sFits):= {}
def jET:Sp:=fun vs H Q _=>∃ (b d:Addr) (wi:Int) (ms:List Int) (pcs:List (List Int×Int)) (i:Nat) (pc:List Int×Int) (ds:List Int),vs=[.ref b, .int (i:Int), .ref d]/\BoxAt H b wi ms pcs/\Good 16 32 wi ms pcs/\pcs[i]?=some pc/\H d=some (.lst (ds.map V.int))/\∀ H',Ext H H'->Q (.bl (fitS ds pc)) H'
def fitsA (T:Txt mg): { t:TS // JSs (XOf nFits "_law_fits" sFits P w K mg base f dl A outer s H0 E) (jN sFits) t} :=
 have nd:=scFits.nd
 ⟨_,(jH (kB (jH8 (jK (jBI rfl) gD T.any (by decide+kernel) (j4 (kN (m:=[none,some 2]) (Nc:=["t","done"]) rfl (yP (jJ jL (jJ jL (jJ jL (jv 0 rfl vL) (jC) jE) (jv 1 rfl vL) y9) (jC) jE)) rfl (by decide+kernel) (by decide+kernel) (jX (psc:=jA sFits)) (jM (N:=nFits) rfl rfl (by decide+kernel)) (fun cl C fp s H=>jQ (i:=0) (show (["t","done"]:List Str).Nodup by decide+kernel) rfl yA) (fun cl C fp s H=>kZ) (fun cl C fp s H=>(q0 jAU (jv 0 rfl jS) (jv 1 rfl jZ) yN)) jF5) j8 jR) jR))))⟩
theorem jSS {fd:FuncData}(F:Fun K "_law_fits" "_law_fits" sFits f fd)(T:Txt mg):FnOk P w K mg base CX0 1 f fd ["box","k","done"] jET:=by
 refine F.ok scFits (fun vs H Q E h=>?_) (fun dl A outer s H vs Q E hr h=>?_)
 ·obtain⟨_,_,_,_,_,_,_,_,rfl,_⟩:=h
  rfl
 ·obtain⟨b,d,wi,ms,pcs,i,pc,ds,rfl,hB,g,hpc,hd,k⟩:=h
  obtain⟨qm,qp,ps,b1,b2,b3,b4⟩:=hB.ex
  have pl:=b4.len
  have w0:=g.w0
  have w1:=g.w1
  have hil:i<ps.length:=by
   rw[pl]
   exact(av.mp hpc).1
  have hy1:ps[i]?=some ps[i]:=aK hil
  obtain⟨pc',hpc',pa,pq,hpe,c1,c2⟩:=b4.at hy1
  rw[hpc] at hpc'
  cases hpc'
  have gp:=g.pg pc (aB hpc)
  have lt:=yM _ 0 wi gp.lot.ris gp.lot.bnd
  refine⟨_,(fitsA T).2.h,?_⟩
  refine⟨_,rfl,b,_,2,_,rfl,rfl,SqT.of b1,rfl,_,rfl,qp,_,_,_,rfl,rfl,SqT.of b3,yR (by rw[hy1,hpe]),pa,_,0,_,rfl,rfl,SqT.of c1,rfl,pq,rfl,⟨_,SqT.of c2⟩,jAC (xs:=pc.1.map V.int) (by rw[ac,ah]; lia) (fun D j σ' H' zs=>(∃ v,σ'=[v,some (.ref d)])/\Ext H H'/\H' D=some (.lst zs)/\H D=none/\zs=((pc.1.take j).map fun t=>decide (t∈ds)).map V.bl) ?_ ?_ ?_ ?_⟩
  ·intro D hD
   exact⟨⟨_,rfl⟩,(Ext.refl _).new hD _,j7,hD,rfl⟩
  ·rintro D j σ' H' zs hD ⟨_,e,h2,_,rfl⟩
   refine⟨e _ _ c2,h2,?_⟩
   rw[ac,ac,bg]
   lia
  ·rintro D j σ' H' zs x hD hx ⟨⟨v,rfl⟩,e,h2,hn,rfl⟩
   obtain⟨z,hz,rfl⟩:∃ z:Int,pc.1[j]?=some z/\V.int z=x:=by
    rw[ay] at hx
    cases hq:pc.1[j]? with
    | none=>rw[hq] at hx; cases hx
    | some z=>rw[hq] at hx; cases hx; exact⟨z,rfl,rfl⟩
   dsimp only [kI,yG]
   rw[aD rfl]
   refine⟨_,rfl,_,rfl,d,_,rfl, .inl (SqL.of (e _ _ hd)),rfl,kL _,h2,⟨_,rfl⟩,e.updNew hn _,j7,hn,?_⟩
   have:pc.1.take (j+1)=pc.1.take j++[z]:=by
    rw[aJ,hz]
    rfl
   rw[this,au,au]
   show _++[V.bl (inV (.int z) (ds.map V.int))]=_
   rw[kU]
   rfl
  ·rintro D σ' H' zs hD ⟨_,e,h2,hn,rfl⟩
   refine⟨D,_,rfl,SqL.of h2,_,rfl,?_⟩
   have ea:(((pc.1.map V.int).length |> fun n=>(pc.1.take n).map fun t=>decide (t∈ds)).any id)=pc.1.any fun t=>decide (t∈ds):=by
    show ((pc.1.take (pc.1.map V.int).length).map fun t=>decide (t∈ds)).any id=_
    rw[ac,aO,gu]
    rfl
   have:=k H' e
   unfold fitS at this
   rw[<- ea] at this
   exact this
def jI3 (K:W.Frag):Sp:=fun vs H Q _=>∃ (sc:Addr) (ns:List Int) (k mt mp:Int),vs=[.ref sc, .int k, .int mt, .int mp]/\SqL K H sc (ns.map V.int)/\0<=k/\0<=mt/\mt<=16/\0<=mp/\mp<=16/\
 ∀ b w ms pcs H',BoxAt H' b w ms pcs->Good 16 16 w ms pcs->Ext H H'->Q (.ref b) H'
abbrev jMW:List Str:=["script","k","things","pieces","pot"]
theorem scDrawn:FnScope jMW ["script","k","things","pieces"] (jA jD5):= {}
def jV4 (T:Txt mg)(CC:Can P w K mg base "_law_cell_at" 1 fC fdC ["script","k"] (jGN K))(CP:Can P w K mg base "_law_pot" 1 fP fdP ["cell"] spPot)(CT:Can P w K mg base "_law_take" 1 fT fdT ["pot","wide"] yZ)(CB:Can P w K mg base "_law_box" 3 fB fdB ["pot","most_things","most_pieces"] spBox)(hr:Room 3 (XOf jMW "_law_drawn" jD5 P w K mg base f dl A outer s H0 E).A): { t:TS // JSs (XOf jMW "_law_drawn" jD5 P w K mg base f dl A outer s H0 E) (jN jD5) t} :=
 have nd:=scDrawn.nd
 ⟨_,(jB (jT (i:=4) nd rfl lL (CP.je (hr.mono (by decide)) gD (j4 (CC.je (hr.mono (by decide)) gD (j4 (jv 0 rfl vL) (j4 (jv 1 rfl vL) j8 j6) j6) j6) j8 jG) jG) jW)
   (jB (yJ (jY qX (CT.je (hr.mono (by decide)) gD (j4 (jv 4 rfl vL) (j4 (jC) j8 jU) j6) j6) (jC) (kT _)) (jH (kB (CB.je hr gD (j4 (jv 4 rfl vL) (j4 (jC) (j4 (jC) j8 jU) jU) j6) j6))) kP)
   (jH (kB (CB.je hr gD (j4 (jv 4 rfl vL) (j4 (jv 2 rfl vL) (j4 (jv 3 rfl vL) j8 j6) j6) j6) j6)))))⟩
theorem jPO {fd:FuncData}(F:Fun K "_law_drawn" "_law_drawn" jD5 f fd)(T:Txt mg)(CC:Can P w K mg base "_law_cell_at" 1 fC fdC ["script","k"] (jGN K))(CP:Can P w K mg base "_law_pot" 1 fP fdP ["cell"] spPot)(CT:Can P w K mg base "_law_take" 1 fT fdT ["pot","wide"] yZ)(CB:Can P w K mg base "_law_box" 3 fB fdB ["pot","most_things","most_pieces"] spBox):FnOk P w K mg base CX0 4 f fd ["script","k","things","pieces"] (jI3 K):=by
 refine F.ok scDrawn (fun vs H Q E h=>?_) (fun dl A outer s H vs Q E hr h=>?_)
 ·obtain⟨_,_,_,_,_,rfl,_⟩:=h
  rfl
 ·obtain⟨a,ns,k,mt,mp,rfl,hS,k0,m0,m1,p0,p1,q⟩:=h
  refine⟨_,(jV4 T CC CP CT CB hr).2.h,?_⟩
  refine⟨_,rfl,_,rfl,a,ns,k,rfl,hS,k0,fun c=>?_⟩
  refine⟨c,rfl,fun p N hp hN=>?_⟩
  refine⟨_,rfl,p,N,8,rfl,j7,hN,by decide,by decide,fun N1 r a1 a2 a3=>?_⟩
  rw[jBB]
  refine⟨rfl,_,rfl,ite2 (fun _=>?_) (fun _=>?_)⟩
  ·refine⟨_,rfl,p,N1,16,7,rfl,j7,a1,by decide,by decide,by decide,by decide,fun b N' w ms pcs H1 c1 c2 c3 c4 c5=>?_⟩
   exact q b w ms pcs H1 c3 (c4.wide (by decide) (by decide)) (c5.ext hp)
  ·refine⟨_,rfl,_,rfl,_,rfl,p,N1,mt,mp,rfl,j7,a1,m0,m1,p0,by lia,fun b N' w ms pcs H1 c1 c2 c3 c4 c5=>?_⟩
   exact q b w ms pcs H1 c3 (c4.wide m1 p1) (c5.ext hp)
abbrev jR2:List Str:=["found"]
theorem scWhole:FnScope jR2 ["found"] (jA jDU):= {}
def jTK (T:Txt mg): { t:TS // JSs (XOf jR2 "_law_whole" jDU P w K mg base f dl A outer s H0 E) (jN jDU) t} :=
 have nd:=scWhole.nd
 ⟨_,(jH (kB ((jH9 (jK jAB gD T.isinstance (by decide+kernel) (j4 (jv 0 rfl vL) (j4 (jC1 (v:= .ty "int") gD T.int (by decide+kernel) rfl) j8 j6) j6) j6) (jEB (jH8 (jK jAB gD T.isinstance (by decide+kernel) (j4 (jv 0 rfl vL) (j4 (jC1 (v:= .ty "bool") gD T.bool (by decide+kernel) rfl) j8 j6) j6) j6)))))))⟩
theorem jPI {fd:FuncData}(F:Fun K "_law_whole" "_law_whole" jDU f fd)(T:Txt mg):FnOk P w K mg base CX0 1 f fd ["found"] spWh:=by
 refine F.ok scWhole (fun vs H Q E h=>?_) (fun dl A outer s H vs Q E hr h=>?_)
 ·obtain⟨_,_,rfl,_⟩:=h
  rfl
 ·obtain⟨v,o,rfl,hA,q⟩:=h
  obtain⟨t,ty,_,b1,b2,k1,k2,e⟩:=hA.ty K
  refine⟨_,(jTK T).2.h,?_⟩
  refine⟨_,rfl,_,_,_,b1,rfl,ty,k1,b1,rfl,?_⟩
  rw[<- e] at q
  cases b1 with
  | true=>exact iteT ⟨_,rfl,_,_,_,b2,rfl,ty,k2,b2,rfl,q⟩
  | false=>exact iteF q
theorem jNM {H:Hp} :∀ l:List Int,TsAt H (l.map Tr.int) (l.map V.int)
 | []=>rfl
 | i::r=>⟨.int i,_,rfl,rfl,jNM r⟩
theorem jEI:∀ l:List Int,deps (l.map Tr.int)=0
 | []=>by simp [deps]
 | i::r=>by simp [deps,dep,jEI r]
theorem iteN {A B:Prop}{c:Bool}(hc:c=false)(h:B):if c=true then A else B:=by
 rw[hc]
 exact iteF h
abbrev leI:Int->Int->Bool:=fun a b=>decide (a<=b)
def srt (l:List Int):List Int:=l.mergeSort leI
theorem jAL (l:List Int):(srt l).Perm l:=List.mergeSort_perm _ _
theorem jJ1 (l:List Int):(srt l).Pairwise (· <= ·):=by
 have:=List.pairwise_mergeSort (le:=leI) (fun a b c h1 h2=>ao (iS (aq h1) (aq h2))) (fun a b=>by
  rw[ip]
  rcases Int.le_total a b with h | h
  ·exact .inl (ao h)
  ·exact .inr (ao h)) l
 exact this.imp fun h=>aq h
theorem jBS {l m:List Int}(h1:m.Pairwise (· <= ·))(h2:m.Perm l):m=srt l:=
 List.Perm.eq_of_pairwise (fun a b _ _ h1 h2=>Int.le_antisymm h1 h2) h1 (jJ1 l) (h2.trans (jAL l).symm)
theorem jLS {l:List Int}(h:l.Pairwise (· <= ·)):srt l=l:=(jBS h (.refl _)).symm
theorem jLR (l:List Int):(srt l).length=l.length:=(jAL l).length_eq
def plcs (ts lot:List Int):List Int:=(lot.filter fun t=>decide (t∈ts)).map fun t=>((ts.idxOf t:Nat):Int)
def nmd (ts lot:List Int):List Int:=srt (plcs ts lot)
theorem jFQ (ts lot:List Int):(plcs ts lot).length<=lot.length:=by
 unfold plcs
 rw[ac]
 exact aY _ _
def pick (ts:List Int)(pcs:List (List Int×Int))(ks:List Int):List (List Int×Int):=ks.map fun k=>(nmd ts (j9 pcs k),(pcs.getD k.toNat ([],0)).2)
def plKv (ts:List Int):List (Key×V):=(List.range ts.length).map fun i=>(Sum.inl (ts.getD i 0),V.int (i:Int))
theorem jP4 (ts:List Int):(plKv ts).length=ts.length:=by
 unfold plKv
 rw[ac,b7]
theorem jDY (ts:List Int):(plKv ts).map (·.1)=ts.map Sum.inl:=by
 unfold plKv
 rw[cG]
 refine dW (by simp) fun i h1 h2=>?_
 have:i<ts.length:=by simpa using h1
 simp [List.getD,this]
theorem jP5 {ts:List Int}{i:Nat}{k:Key}{v:V}(h:(plKv ts)[i]?=some (k,v)):∃ t,ts[i]?=some t/\k=Sum.inl t/\v=V.int (i:Int):=by
 unfold plKv at h
 rw[ay] at h
 by_cases hi:i<ts.length
 ·rw[dw hi] at h
  simp only [map_some,eZ,Prod.mk.injEq] at h
  refine⟨ts[i],by simp [hi],?_,h.2.symm⟩
  rw[<- h.1]
  simp [List.getD,hi]
 ·rw[cX (by simp; lia)] at h
  cases h
theorem jOU {κ:Type} [DecidableEq κ]{iY:List (κ×V)}{k:κ}(h:k∉iY.map (·.1)):valV iY k=none:=by
 unfold valV
 rw[gI.mpr fun x hx=>?_]
 ·rfl
 ·intro e
  exact h (aV.mpr ⟨x,hx,aq e⟩)
theorem jQP {κ:Type} [DecidableEq κ]:∀ {iY:List (κ×V)}{i:Nat}{k:κ}{v:V},(iY.map (·.1)).Nodup->iY[i]?=some (k,v)->valV iY k=some v
 | [],_,_,_,_,h=>by simp at h
 | p::r,0,k,v,_,h=>by
  simp at h
  subst h
  exact jFA rfl
 | p::r,i+1,k,v,nd,h=>by
  rw[bA,b9] at nd
  have h:r[i]?=some (k,v):=by simpa using h
  have hm:k∈r.map (·.1):=aV.mpr ⟨_,aB h,rfl⟩
  have ne:¬ p.1=k:=fun e=>nd.1 (by rw[e]; exact hm)
  have:=jQP (i:=i) nd.2 h
  unfold valV at this ⊢
  rw[cP,aN ne]
  exact this
theorem jGV {ts:List Int}(h:ts.Nodup):(ts.map (Sum.inl:Int->Key)).Nodup:=by
 rw[List.Nodup,dj]
 exact h.imp fun hne e=>hne (iT e)
theorem jP3 {ts:List Int}(nd:ts.Nodup)(t:Int):valV (plKv ts) (Sum.inl t)=if t∈ts then some (.int ((ts.idxOf t:Nat):Int)) else none:=by
 by_cases h:t∈ts
 ·rw[aD h]
  have hi:=cH.mpr h
  refine jQP (i:=ts.idxOf t) (by rw[jDY]; exact jGV nd) ?_
  unfold plKv
  rw[ay,dw hi]
  show some (Sum.inl (ts.getD (ts.idxOf t) 0),_)=_
  rw[show ts.getD (ts.idxOf t) 0=t by simp [List.getD,hi,eL]]
 ·rw[aF h]
  refine jOU ?_
  rw[jDY]
  intro z
  obtain⟨x,hx,e⟩:=aV.mp z
  exact h (iT e ▸ hx)
section
variable {cd:Value}
abbrev qM:Stmt:=(jN yL).getD 1 (.Pass ⟨0,0,0,0⟩)
abbrev jJJ:List Str:=["lot","places"]
theorem scNamed:NScope jJJ ["lot"] ["places"] (jA qM):=⟨rfl,rfl,rfl,by decide+kernel,rfl,by decide+kernel,by decide+kernel,fun x h=>by
 have:=cy h
 revert this
 have hl:∀ y∈(jA qM).names,y.2= .free->y.1= "places" :=by decide+kernel
 intro m
 have:=hl _ m rfl
 exact this ▸ aw,by decide+kernel⟩
def jLU:List V->Sp:=fun fv vs H Q _=>∃ (d a:Addr) (ts lot:List Int),fv=[.ref d]/\vs=[.ref a]/\ts.Nodup/\H d=some (.dK (plKv ts))/\H a=some (.tup (lot.map V.int))/\lot.length<64/\∀ r H',H' r=some (.tup ((nmd ts lot).map V.int))->Ext H H'->Q (.ref r) H'
def jUL (T:Txt mg)(hr:Room 0 (cxN P w K mg base jJJ "picked.<locals>.named" (jA qM) f cd cl A outer s H0).A): { t:TS // JSs (cxN P w K mg base jJJ "picked.<locals>.named" (jA qM) f cd cl A outer s H0) (jN qM) t} :=
 have nd:=scNamed.nd
 ⟨_,(jH (kB (jP jO (gl_n (by decide+kernel)) T.tuple (by decide+kernel) (j4 (jK jDB (gl_n (by decide+kernel)) T.sorted (by decide+kernel) (j4 (kN (m:=[none,some 1]) (Nc:=["thing","places"]) rfl (yP (jv 0 rfl (vis_n (by decide+kernel)))) rfl (by decide+kernel) (by decide+kernel) (jX (psc:=jA qM)) (jM (N:=jJJ) rfl rfl (by decide+kernel)) (fun cl C fp s H=>jQ (i:=0) (show (["thing","places"]:List Str).Nodup by decide+kernel) rfl yA) (fun cl C fp s H=>yI (jUY (hu_of hr) (jv 0 rfl jS) (jv 1 rfl jZ) rfl)) (fun cl C fp s H=>(jT2 (hu_of hr) (jv 1 rfl jZ) (jv 0 rfl jS) y9)) yD) j8 jR) jR) j8 jG) jG)))⟩
theorem jPJ (T:Txt mg):FnN P w K mg base 1 "named" "picked.<locals>.named" (qD qM) (jN qM) (jA qM) ["lot"] ["places"] jLU:=by
 refine jV3 scNamed (fun fv vs H Q E h=>?_) (fun cl doc pm c ctv us hl=>?_) (fun A outer s H a c cl vs fv Q E hr h=>?_)
 ·obtain⟨_,_,_,_,_,rfl,_⟩:=h
  rfl
 ·match us,hl with
  | [u],_=>rfl
 ·obtain⟨d,a,ts,lot,rfl,rfl,nd,hd,ha,hl,q⟩:=h
  refine⟨_,(jUL T hr).2.h,?_⟩
  refine⟨_,rfl,a,rfl,⟨_,SqT.of ha⟩,jAC (xs:=lot.map V.int) (by rw[ac,ah]; lia) (fun D j σ' H' zs=>(∃ v,σ'=[v,some (.ref d)])/\Ext H H'/\H' D=some (.lst zs)/\H D=none/\zs=(plcs ts (lot.take j)).map V.int) ?_ ?_ ?_ ?_⟩
  ·intro D hD
   exact⟨⟨_,rfl⟩,(Ext.refl _).new hD _,j7,hD,rfl⟩
  ·rintro D j σ' H' zs hD ⟨_,e,h2,_,rfl⟩
   refine⟨e _ _ ha,h2,?_⟩
   rw[ac]
   have:=jFQ ts (lot.take j)
   have:=aX j lot
   lia
  ·rintro D j σ' H' zs x hD hx ⟨⟨v,rfl⟩,e,h2,hn,rfl⟩
   obtain⟨z,hz,rfl⟩:∃ z:Int,lot[j]?=some z/\V.int z=x:=by
    rw[ay] at hx
    cases hq:lot[j]? with
    | none=>rw[hq] at hx; cases hx
    | some z=>rw[hq] at hx; cases hx; exact⟨z,rfl,rfl⟩
   have ht:plcs ts (lot.take (j+1))=plcs ts (lot.take j)++(if z∈ts then [((ts.idxOf z:Nat):Int)] else []):=by
    unfold plcs
    rw[aJ,hz,bn,au]
    congr 1
    by_cases hzz:z∈ts <;> simp [hzz]
   have hD':H' d=some (.dK (plKv ts)):=e _ _ hd
   have gv:=jP3 nd z
   refine⟨_,rfl,_,rfl,d,_,rfl,DGet.k (k:=Sum.inl z) hD',_,rfl,?_⟩
   rw[gv]
   by_cases hzz:z∈ts
   ·rw[aD hzz] at gv ht ⊢
    refine⟨_,rfl,_,rfl,d,_,rfl,by rw[<- gv]; exact DGet.k (k:=Sum.inl z) hD',h2,⟨_,rfl⟩,e.updNew hn _,j7,hn,?_⟩
    rw[ht,au]
    rfl
   ·rw[aF hzz] at gv ht ⊢
    refine⟨⟨_,rfl⟩,e,h2,hn,?_⟩
    rw[ht,bf]
  ·rintro D σ' H' zs hD ⟨_,e,h2,hn,rfl⟩
   rw[ac,aO] at h2
   refine⟨D,_,rfl,SqL.of h2,?_,fun l ns hl hs hp=>?_⟩
   ·have:=jFQ ts lot
    lia
   refine⟨l,_,rfl, .inl ⟨SqL.of j7,fun r hr=>?_⟩⟩
   refine q r _ ?_ ((e.new hl _).new hr _)
   rw[j7,jBS hs hp]
   rfl
end
theorem jA5 {H:Hp}{vs:List V}{pcs:List (List Int×Int)}(h:PcsAt H vs pcs){k:Int}(h0:0<=k)(h1:k<pcs.length):∃ a q,atI vs k=some (.ref a)/\H a=some (.tup [.ref q, .int (pcs.getD k.toNat ([],0)).2])/\H q=some (.tup ((j9 pcs k).map V.int)):=by
 obtain⟨v,hv,a,q,rfl,b1,b2⟩:=h.get (k:=k.toNat) (by lia)
 refine⟨a,q,?_,b1,b2⟩
 have e:((k.toNat:Nat):Int)=k:=by lia
 have:=yR hv
 rw[e] at this
 exact this
section
variable {c0:Addr}
abbrev jCN:List Str:=["box","things","pieces","places","named"]
theorem scPicked:FnScope jCN ["box","things","pieces"] (jA yL):= {}
abbrev jUB:Pos:=match qM with
 | .FunctionDef _ _ _ _ _ _ _ _ _ p=>p
 | _=>⟨0,0,0,0⟩
abbrev TabP (H:Hp)(tb:Addr):Prop:=TabOk H tb jUB "picked.<locals>.named"
theorem jJZ:∀ x∈(["places"]:List Str),(jA qM).names.lookup x=some .free:=by decide+kernel
theorem jEF:FsAt (XOf jCN "picked" yL P w K mg base f (.ref c0) A outer s H0 E) ["places"] [3]:=⟨rfl,fun k x h=>by
 cases k with
 | zero=>cases h; exact⟨3,rfl,rfl, .inl (show (jA yL).names.lookup ("places" :Str)=some NameKind.cell by decide+kernel)⟩
 | succ k=>cases h⟩
def jBN (tb:Addr):Sp:=fun vs H Q _=>∃ (b a c:Addr) (tp tq:Bool) (w:Int) (ms:List Int) (pcs:List (List Int×Int)) (ts ks:List Int),vs=[.ref b, .ref a, .ref c]/\BoxAt H b w ms pcs/\AtS tp H a (ts.map V.int)/\AtS tq H c (ks.map V.int)/\ts.Nodup/\ts.length<=100/\ms.length<64/\(∀ p∈pcs,p.1.length<64)/\(∀ k∈ks,0<=k/\k<pcs.length)/\ks.length<=1000/\TabP H tb/\
 ∀ r H',BoxAt H' r ts.length (nmd ts ms) (pick ts pcs ks)->ExtT tb H H'->TabP H' tb->Q (.ref r) H'
def jS4 (T:Txt mg)(CH:PySem.W.CodeHd base c0 tb)(BM:BltAt base mg)(FN:FnN P w K mg base 1 "named" "picked.<locals>.named" (qD qM) (jN qM) (jA qM) ["lot"] ["places"] jLU)(hr:Room 1 (XOf jCN "picked" yL P w K mg base f (.ref c0) A outer s H0 E).A): { t:TS // JSs (XOf jCN "picked" yL P w K mg base f (.ref c0) A outer s H0 E) (jN yL) t} :=
 have nd:=scPicked.nd
 ⟨_,(jB (jT (i:=3) nd rfl yX (jP (jL7 rfl) gD T.dict (by decide+kernel) (j4 (kN (m:=[none,none]) (Nc:=["place","thing"]) rfl (jG2 gD T.enumerate (j4 (jv 1 rfl vL) j8 j6) j6) rfl (by decide+kernel) (by decide+kernel) (jX (psc:=jA yL)) (jM (N:=jCN) rfl rfl (by decide+kernel)) (fun cl C fp s H=>jBH (i:=0) (j:=1) rfl (show (["place","thing"]:List Str).Nodup by decide+kernel) rfl rfl (by decide+kernel) (by decide+kernel)) (fun cl C fp s H=>kZ) (fun cl C fp s H=>(kR (j4 (jv 1 rfl jS) (j4 (jv 0 rfl jS) j8 j6) j6))) kQ) j8 jR) jR) jW)
   (jB (jUV (j:=4) nd rfl yX rfl CH BM (jX (psc:=jA yL)) rfl rfl)
   (jH (kB (kR (j4 (jK jV gD T.len (by decide+kernel) (j4 (jv 1 rfl vL) j8 j6) j6) (j4 (jT1 (j:=4) FN hr rfl vC (jX (psc:=jA yL)) jJZ jEF (j4 (jJ jL (jv 0 rfl vC) (jC) jE) j8 jI) jI) (j4 (jP jO gD T.tuple (by decide+kernel) (j4 (jQ5 (m:=[none,some 4,some 0]) (Nc:=["piece","named","box"]) rfl (jUW (jv 2 rfl vL)) rfl (by decide+kernel) (by decide+kernel) (jX (psc:=jA yL)) (jM (N:=jCN) rfl rfl (by decide+kernel)) (fun cl C fp s H=>jQ (i:=0) (show (["piece","named","box"]:List Str).Nodup by decide+kernel) rfl yA) (fun cl C fp s H=>kZ) (fun cl C fp s H ad σ I0 hfp=>(kR (j4 (jQ2 (j:=1) I0 hfp FN hr rfl jZ (jX (psc:=jA yL)) jJZ jEF (j4 (jJ kD (jJ kD (jJ kD (jv 2 rfl jZ) (jC) jE) (jv 0 rfl jS) y9) (jC) jE) j8 jI) jI) (j4 (jJ kD (jJ kD (jJ kD (jv 2 rfl jZ) (jC) jE) (jv 0 rfl jS) y9) (jC) jE) j8 jI) jG))) yD) j8 jR) jR) j8 jG) jG) jG))))))⟩
theorem jMH {fd:FuncData}(F:FunC K "picked" "picked" yL f fd c0)(T:Txt mg)(CH:PySem.W.CodeHd base c0 tb)(BM:BltAt base mg):FnOk P w K mg base CX0 2 f fd ["box","things","pieces"] (jBN tb):=by
 refine F.ok scPicked (fun vs H Q E h=>?_) (fun A outer s H vs Q E hr h=>?_)
 ·obtain⟨_,_,_,_,_,_,_,_,_,_,rfl,_⟩:=h
  rfl
 ·obtain⟨b,a,c,tp,tq,w,ms,pcs,ts,ks,rfl,hB,ha,hc,nd,lts,lms,lpc,hks,lks,tab,q⟩:=h
  refine⟨_,(jS4 T CH BM (jPJ T) hr).2.h,?_⟩
  obtain⟨qm,qp,ps,b1,b2,b3,b4⟩:=id hB.ex
  have pl:=b4.len
  refine⟨_,rfl,tp,a,rfl,⟨_,ha.sq⟩,jCG (xs:=ts.map V.int) (by rw[ac,ah]; lia) (fun D j σ' H' zs=>(∃ v v',σ'=[v,v'])/\Ext H H'/\H' D=some (.lst zs)/\H D=none/\zs.length=j/\∀ i,i<j->∃ r:Addr,zs[i]?=some (V.ref r)/\H' r=some (.tup [.int (ts.getD i 0), .int (i:Int)])) ?_ ?_ ?_ ?_⟩
  ·intro D hD
   exact⟨⟨_,_,rfl⟩,(Ext.refl _).new hD _,j7,hD,rfl,fun i hi=>absurd hi (cN _)⟩
  ·rintro D j σ' H' zs hD ⟨_,e,h2,_,hl,_⟩
   exact⟨(ha.ext e).sq,h2,by lia⟩
  ·rintro D j σ' H' zs x X hD hx hX ⟨⟨v,v',rfl⟩,e,h2,hn,hl,hz⟩
   obtain⟨z,hz1,rfl⟩:∃ z:Int,ts[j]?=some z/\V.int z=x:=by
    rw[ay] at hx
    cases hq:ts[j]? with
    | none=>rw[hq] at hx; cases hx
    | some z=>rw[hq] at hx; cases hx; exact⟨z,rfl,rfl⟩
   have hgd:ts.getD j 0=z:=by rw[aC,hz1]; rfl
   refine⟨X,_,rfl,SqT.of j7,rfl,_,_,rfl,_,_,rfl,rfl,?_⟩
   dsimp only [kI,yG]
   rw[aD rfl]
   refine⟨_,rfl,_,rfl,by show (2:Nat)<=_; decide,fun r H2 d2 e2=>?_⟩
   have e1:Ext H' (L2.upd H' X (.tup [.int (j:Int), .int z])):=(Ext.refl _).new hX _
   have hD2:H2 D=some (.lst zs):=e2 _ _ (e1 _ _ h2)
   have rD:r≠D:=fun z=>by rw[z,hD2] at d2; cases d2
   refine⟨hD2,⟨_,_,rfl⟩,((e.trans e1).trans e2).updNew hn _,j7,hn,by rw[aE,hl]; rfl,fun i hi=>?_⟩
   by_cases hij:i=j
   ·subst hij
    refine⟨r,?_,?_⟩
    ·rw[cx (by lia),hl,Nat.sub_self]
     rfl
    ·rw[jD rD,d2,hgd]
   ·obtain⟨r',z1,z2⟩:=hz i (by lia)
    have z3:=e2 _ _ (e1 _ _ z2)
    refine⟨r',?_,?_⟩
    ·rw[cA (by lia)]
     exact z1
    ·rw[jD (fun y=>by rw[y,hD2] at z3; cases z3)]
     exact z3
  ·rintro D σ' H1 zs hD ⟨_,e1,h2,hn,hl,hz⟩
   rw[ac] at hl hz
   refine⟨D,zs,plKv ts,rfl,h2,by rw[jP4]; exact hl,fun i k v hk=>?_,by rw[jDY]; exact jGV nd,fun d hd=>?_⟩
   ·obtain⟨t,z1,rfl,rfl⟩:=jP5 hk
    obtain⟨r,z2,z3⟩:=hz i (av.mp z1).1
    refine⟨r,z2,?_⟩
    rw[z3]
    show _=some (HO.tup [V.int t,V.int (i:Int)])
    rw[aC,z1]
    rfl
   have e2:Ext H (L2.upd H1 d (.dK (plKv ts))):=e1.new hd _
   have d2:(L2.upd H1 d (.dK (plKv ts))) d=some (.dK (plKv ts)):=j7
   generalize L2.upd H1 d (.dK (plKv ts))=H2 at e2 d2
   refine⟨tab.ext e2,fun fa fc H3 k1 k2 k3 k4 k5=>?_⟩
   have tab3:TabP H3 tb:= .inr ⟨fc,k3,k2⟩
   have E3:ExtT tb H H3:=(ExtT.of e2).trans k4
   have B1:=E3.at tab b1
   have B2:=E3.at tab b2
   have B3:=E3.at tab b3
   have dd:=k4.at (tab.ext e2) d2
   have aa:=E3.seq tab ha
   have cc:=E3.seq tab hc
   refine⟨_,rfl,a,_,rfl,aa.or,?_⟩
   refine⟨fa,rfl,_,rfl,b,_,1,_,rfl,rfl,SqT.of B1,rfl,fc,[.ref d],k1,k2,rfl,d,qm,ts,ms,rfl,rfl,nd,dd,B2,lms,fun r1 H4 d4 e4=>?_⟩
   refine jQG (tp:=tq) (xs:=ks.map V.int) (cc.ext e4) (fun Q h=>⟨_,rfl,h⟩) (by rw[ac,ah]; lia) (fun D j σ' H' zs=>(∃ v,σ'=[v,some (.ref fa),some (.ref b)])/\Ext H4 H'/\H' D=some (.lst zs)/\H4 D=none/\PcsAt H' zs (pick ts pcs (ks.take j))) ?_ ?_ ?_ ?_
   ·intro D hD
    exact⟨⟨_,rfl⟩,(Ext.refl _).new hD _,j7,hD,trivial⟩
   ·rintro D j σ' H' zs hD ⟨_,e,h2,_,pz⟩
    refine⟨cc.ext (e4.trans e),h2,?_⟩
    rw[pz.len]
    unfold pick
    rw[ac]
    exact aX _ _
   ·rintro D j σ' H' zs x hD hx ⟨⟨v,rfl⟩,e,h2,hn,pz⟩
    obtain⟨k,hk,rfl⟩:∃ z:Int,ks[j]?=some z/\V.int z=x:=by
     rw[ay] at hx
     cases hq:ks[j]? with
     | none=>rw[hq] at hx; cases hx
     | some z=>rw[hq] at hx; cases hx; exact⟨z,rfl,rfl⟩
    have hkb:=hks k (aB hk)
    have e34:=e4.trans e
    obtain⟨pa,pq,g1,g2,g3⟩:=jA5 b4 hkb.1 hkb.2
    have g2':=e34 _ _ (E3.at tab g2)
    have g3':=e34 _ _ (E3.at tab g3)
    have hlen:(j9 pcs k).length<64:=by
     unfold j9
     rw[jCV (by lia)]
     exact lpc _ (cV _)
    dsimp only [kI,yG]
    rw[aD rfl]
    refine⟨fa,rfl,_,rfl,b,_,2,_,rfl,rfl,SqT.of (e34 _ _ B1),rfl,_,rfl,qp,_,k,_,rfl,rfl,SqT.of (e34 _ _ B3),g1,pa,_,0,_,rfl,rfl,SqT.of g2',rfl,fc,[.ref d],e34 _ _ k1,e34 _ _ k2,rfl,d,pq,ts,j9 pcs k,rfl,rfl,nd,e34 _ _ dd,g3',hlen,fun r2 H5 d5 e5=>?_⟩
    have e35:=e34.trans e5
    refine⟨_,rfl,b,_,2,_,rfl,rfl,SqT.of (e35 _ _ B1),rfl,_,rfl,qp,_,k,_,rfl,rfl,SqT.of (e35 _ _ B3),g1,pa,_,1,_,rfl,rfl,SqT.of (e5 _ _ g2'),rfl,by show (2:Nat)<=_; decide,fun r3 H6 d6 e6=>?_⟩
    have hD6:H6 D=some (.lst zs):=e6 _ _ (e5 _ _ h2)
    refine⟨hD6,⟨_,rfl⟩,((e.trans e5).trans e6).updNew hn _,j7,hn,?_⟩
    have ez:pick ts pcs (ks.take (j+1))=pick ts pcs (ks.take j)++[(nmd ts (j9 pcs k),(pcs.getD k.toNat ([],0)).2)]:=by
     unfold pick
     rw[aJ,hk,au]
     rfl
    rw[ez]
    exact PcsAt.mono (Tups.upd hD6 _) (PcsAt.snoc (p:=(nmd ts (j9 pcs k),(pcs.getD k.toNat ([],0)).2)) ⟨r3,r2,rfl,d6,e6 _ _ d5⟩ (pz.mono (e5.trans e6).tups))
   ·rintro D σ' H5 zs hD ⟨_,e5,h5,hn5,pz⟩
    rw[ac,aO] at pz
    refine⟨D,_,rfl, .inl ⟨SqL.of h5,fun l hl=>?_⟩⟩
    have e6:Ext H5 (L2.upd H5 l (.tup zs)):=(Ext.refl _).new hl _
    have d6:(L2.upd H5 l (.tup zs)) l=some (.tup zs):=j7
    generalize L2.upd H5 l (.tup zs)=H6 at e6 d6
    refine⟨by show (3:Nat)<=_; decide,fun r H7 d7 e7=>?_⟩
    have e47:=(e5.trans e6).trans e7
    refine q r H7 ⟨r1,l,zs,?_,e47 _ _ d4,e7 _ _ d6,pz.mono (e6.trans e7).tups⟩ (E3.trans (ExtT.of (e4.trans e47))) (tab3.ext (e4.trans e47))
    rw[d7,ac]
end
theorem jG0 {H:Hp}{n:Int}{os:List Ob}{vs:List V}(h:lotB n (.tup os)=true)(hx:Ats H os vs):vs=(os.map val).map V.int/\(os.map val).Pairwise (· < ·)/\∀ k∈os.map val,0<=k/\k<n:=by
 have h:(os.all (upB 0 (n - 1))&&(adj (os.map val)).all id)=true:=h
 rw[bd] at h
 obtain⟨h1,h2⟩:=h
 rw[aS] at h1
 have hi:os.all isInt=true:=by
  rw[aS]
  intro x hx
  have:=h1 x hx
  cases x with
  | int i=>rfl
  | oth=>cases this
  | tup r=>cases this
 refine⟨hx.allInt hi,?_,fun k hk=>?_⟩
 ·rw[cY]
  intro i j hi hj hij
  have a1:=jOQ h2 (k:=i) (by lia)
  have a2:=jK9 h2 (i+1) j (by lia) hj
  have e1:(os.map val).getD i 0=(os.map val)[i]:=jCV hi
  have e2:(os.map val).getD j 0=(os.map val)[j]:=jCV hj
  lia
 ·obtain⟨o,ho,rfl⟩:=aV.mp hk
  have:=h1 o ho
  cases o with
  | int i=>
   have this:(decide (0<=i)&&decide (i<=n - 1))=true:=this
   rw[bd] at this
   have q1:=aq this.1
   have q2:=aq this.2
   show 0<=i/\i<n
   lia
  | oth=>cases this
  | tup r=>cases this
theorem jE8 {n:Int}{ks:List Int}(h:ks.Pairwise (· < ·))(hb:∀ k∈ks,0<=k/\k<n):lotB n (.tup (ks.map Ob.int))=true:=by
 have hv:(ks.map Ob.int).map val=ks:=by rw[cG]; exact gf _
 show ((ks.map Ob.int).all (upB 0 (n - 1))&&(adj ((ks.map Ob.int).map val)).all id)=true
 rw[hv,bd,aS,aS]
 refine⟨fun x hx=>?_,fun x hx=>?_⟩
 ·obtain⟨k,hk,rfl⟩:=aV.mp hx
  have:=hb k hk
  show (decide (0<=k)&&decide (k<=n - 1))=true
  rw[ao (by lia),ao (by lia)]
  rfl
 ·unfold adj at hx
  obtain⟨i,hi,rfl⟩:=aV.mp hx
  have hi:=bc.mp hi
  refine ao ?_
  rw[jCV (by lia),jCV (by lia)]
  exact cY.mp h i (i+1) (by lia) (by lia) (by lia)
theorem jSZ (ns:List Int):∀ i,i<=ns.length->((ns.take i).Nodup->PyProof.Rows.firstMet (fun i=>ns.getD i 0) i=ns.take i)/\(¬ (ns.take i).Nodup->(PyProof.Rows.firstMet (fun i=>ns.getD i 0) i).length<i):=by
 intro i
 induction i with
 | zero=>intro _; exact⟨fun _=>rfl,fun h=>absurd gE h⟩
 | succ i ih=>
  intro hi
  obtain⟨a1,a2⟩:=ih (by lia)
  have ht:ns.take (i+1)=ns.take i++[ns.getD i 0]:=by
   rw[aJ,jCV (by lia),aK (by lia)]
   rfl
  have hm:∀ k,(PyProof.Rows.firstMet (fun i=>ns.getD i 0) i).any (· ==k)=(ns.take i).any (· ==k):=fun k=>by
   rw[PyProof.Rows.firstMet_any]
   congr 1
   refine dW (by simp; lia) fun j h1 h2=>?_
   have:j<ns.length:=by simp at h2; lia
   simp [List.getD,this]
  have hmem:(ns.take i).any (· ==ns.getD i 0)=decide (ns.getD i 0∈ns.take i):=by
   rw[bq,cf,bo]
   exact⟨fun ⟨x,h1,h2⟩=>(eq_of_beq h2) ▸ h1,fun h=>⟨_,h,dR _⟩⟩
  have hnd:(ns.take i++[ns.getD i 0]).Nodup↔(ns.take i).Nodup/\¬ ns.getD i 0∈ns.take i:=by
   rw[fe]
   constructor
   ·rintro ⟨h1,_,h3⟩
    exact⟨h1,fun z=>h3 _ z _ aw rfl⟩
   ·rintro ⟨h1,h2⟩
    exact⟨h1,by simp,fun a ha b hb e=>h2 (by rw[aI] at hb; rw[<- hb,<- e]; exact ha)⟩
  rw[ht,hnd,PyProof.Rows.firstMet_succ]
  unfold PyProof.Rows.step_dedup
  rw[hm,hmem]
  have fl:=PyProof.Rows.firstMet_length_le (fun i=>ns.getD i 0) i
  by_cases hin:ns.getD i 0∈ns.take i
  ·rw[ao hin,aD rfl]
   exact⟨fun h=>absurd hin h.2,fun _=>by lia⟩
  ·rw[aN hin,aF ar]
   refine⟨fun h=>by rw[a1 h.1],fun h=>?_⟩
   have:=a2 fun z=>h ⟨z,hin⟩
   rw[aE]
   show _+1<_
   lia
theorem jUN {ns:List Int}(h:ns.Nodup):(PyProof.Rows.firstMet (fun i=>ns.getD i 0) ns.length).length=ns.length:=by
 rw[(jSZ ns ns.length (ai _)).1 (by rw[aO]; exact h),aO]
def lftT (w:Int)(held:List Int):List Int:=(upto w.toNat).filter fun t=>!decide (t∈held)
def lftP (pcs:List (List Int×Int))(ts:List Int):List Int:=(upto pcs.length).filter fun k=>(j9 pcs k).all fun t=>decide (t∈ts)
theorem jEG {α:Type}{p:α->Bool}{l:List α}{i:Nat}{x:α}(h:l[i]?=some x):(l.take (i+1)).filter p=(l.take i).filter p++(if p x=true then [x] else []):=by
 rw[aJ,h,bn]
 congr 1
 rw[Option.toList,bW]
 split <;> rfl
theorem jBK (n:Nat):(upto n).Nodup:=(yS n).ris.imp fun h=>by lia
theorem jDL {f:Int->List Int} :∀ {ks:List Int},(∀ k∈ks,(f k).length<=16)->∀ (i:Nat),ks.length<=i->(ks.flatMap f).length<=16*i
 | [],_,_,_=>by rw[fJ]; exact bh _
 | a::r,h,i,hi=>by
  rw[dk,aE]
  have h1:=h a aw
  rw[aZ] at hi
  have:=jDL (f:=f) (ks:=r) (fun k hk=>h k (aA _ hk)) (i - 1) (by lia)
  lia
theorem jBF {w:Int}{ts:List Int}(h:ts.Pairwise (· < ·))(b:∀ z∈ts,0<=z/\z<w)(hw:w<=16):ts.length<=16:=by
 have:=yM ts 0 w h b
 lia
theorem jA2 {w:Int}{ms:List Int}{pcs:List (List Int×Int)}(g:Good 16 32 w ms pcs){k:Int}(h0:0<=k)(h1:k<pcs.length):(j9 pcs k).length<=16:=by
 have:=g.at (k:=k.toNat) (by lia)
 exact jBF this.lot.ris this.lot.bnd g.w1
theorem jT4 {K:W.Frag}{m:List (Option Nat)}{σ:St}{H:Hp}{Q:VK}{q t:Addr}{tp:Bool}{lot ts:List Int}(hq:H q=some (.tup (lot.map V.int)))(ht:AtS tp H t (ts.map V.int))(hl:lot.length<=1000)(h0:blkσ m σ=[none,some (.ref t)])
  (k:∀ D H',H' D=some (.lst ((lot.map fun x=>decide (x∈ts)).map V.bl))->Ext H H'->H D=none->Q (.ref D) H'):qE m (kI 0) yG (tOp (rIn K false) (tVar 0) (tVar 1)) σ Q (Itt K q) H:=by
 refine jAC (xs:=lot.map V.int) (by rw[ac,ah]; lia) (fun D j σ' H' zs=>(∃ v,σ'=[v,some (.ref t)])/\Ext H H'/\H' D=some (.lst zs)/\H D=none/\zs=((lot.take j).map fun x=>decide (x∈ts)).map V.bl) ?_ ?_ ?_ ?_
 ·intro D hD
  exact⟨⟨_,h0⟩,(Ext.refl _).new hD _,j7,hD,rfl⟩
 ·rintro D j σ' H' zs hD ⟨_,e,h2,_,rfl⟩
  refine⟨e _ _ hq,h2,?_⟩
  rw[ac,ac]
  exact aX _ _
 ·rintro D j σ' H' zs x hD hx ⟨⟨v,rfl⟩,e,h2,hn,rfl⟩
  obtain⟨z,hz,rfl⟩:∃ z:Int,lot[j]?=some z/\V.int z=x:=by
   rw[ay] at hx
   cases hq:lot[j]? with
   | none=>rw[hq] at hx; cases hx
   | some z=>rw[hq] at hx; cases hx; exact⟨z,rfl,rfl⟩
  dsimp only [kI,yG]
  rw[aD rfl]
  refine⟨_,rfl,_,rfl,t,_,rfl,(ht.ext e).or,rfl,kL _,h2,⟨_,rfl⟩,e.updNew hn _,j7,hn,?_⟩
  have:lot.take (j+1)=lot.take j++[z]:=by
   rw[aJ,hz]
   rfl
  rw[this,au,au]
  show _++[V.bl (inV (.int z) (ts.map V.int))]=_
  rw[kU]
  rfl
 ·rintro D σ' H' zs hD ⟨_,e,h2,hn,rfl⟩
  rw[ac,aO] at h2
  exact k D H' h2 e hn
theorem jVC {lot:List Int}{p:Int->Bool} :(lot.map p).all id=lot.all p:=by rw[gq]; rfl
theorem jDJ {pcs:List (List Int×Int)}{ts:List Int} :∀ k∈lftP pcs ts,0<=k/\k<pcs.length:=fun k hk=>(yS pcs.length).bnd k (aW.mp hk).1
theorem jKR (w:Int)(held:List Int):(lftT w held).Nodup:=(jBK _).sublist cR
theorem jPV (w:Int)(held:List Int):(lftT w held).length<=w.toNat:=by
 have:=aY (fun t=>!decide (t∈held)) (upto w.toNat)
 rw[kJ] at this
 exact this
theorem jJR (pcs:List (List Int×Int))(ts:List Int):(lftP pcs ts).length<=pcs.length:=by
 have:=aY (fun k=>(j9 pcs k).all fun t=>decide (t∈ts)) (upto pcs.length)
 rw[kJ] at this
 exact this
theorem pc_lt {w:Int}{ms:List Int}{pcs:List (List Int×Int)}(g:Good 16 32 w ms pcs):∀ p∈pcs,p.1.length<64:=fun p hp=>by
 have:=g.pg p hp
 have:=jBF this.lot.ris this.lot.bnd g.w1
 lia
theorem jV1 {ts:List Int}(h:ts.Pairwise (· < ·)){a b:Int}(ha:a∈ts)(hb:b∈ts)(hab:a<b):ts.idxOf a<ts.idxOf b:=by
 have ia:=cH.mpr ha
 have ib:=cH.mpr hb
 have ea:=eL ia
 have eb:=eL ib
 rcases gN (ts.idxOf a) (ts.idxOf b) with q | q | q
 ·exact q
 ·exfalso
  have e2:ts[ts.idxOf a]=ts[ts.idxOf b]:=by congr 1
  lia
 ·exfalso
  have:=cY.mp h _ _ ib ia q
  lia
theorem jFP {ts lot:List Int}(h:ts.Pairwise (· < ·))(hl:lot.Pairwise (· < ·)):(plcs ts lot).Pairwise (· < ·):=by
 unfold plcs
 rw[dj]
 refine gZ (R:=fun a b=>a<b) (fun {a b} ha hb hab=>?_) (hl.sublist cR)
 have:=jV1 h (aq (aW.mp ha).2) (aq (aW.mp hb).2) hab
 lia
theorem jE1 {ts lot:List Int}(h:ts.Pairwise (· < ·))(hl:lot.Pairwise (· < ·)):nmd ts lot=plcs ts lot:=jLS ((jFP h hl).imp fun h=>by lia)
theorem jJ9 {ts lot:List Int}(h:∀ t∈lot,t∈ts):plcs ts lot=lot.map fun t=>((ts.idxOf t:Nat):Int):=by
 unfold plcs
 rw[gn.mpr fun t ht=>ao (h t ht)]
theorem jJQ (w:Int)(held:List Int):(lftT w held).Pairwise (· < ·):=(yS _).ris.sublist cR
theorem jPW (pcs:List (List Int×Int))(ts:List Int):(lftP pcs ts).Pairwise (· < ·):=(yS _).ris.sublist cR
theorem mem_upto {n:Nat}{t:Int} :t∈upto n↔0<=t/\t<n:=by
 constructor
 ·exact fun h=>(yS n).bnd t h
 ·intro h
  unfold upto
  exact aV.mpr ⟨t.toNat,bc.mpr (by lia),by lia⟩
theorem jFX {w:Int}{held:List Int}{t:Int}(w0:0<=w):t∈lftT w held↔(0<=t/\t<w)/\t∉held:=by
 unfold lftT
 rw[aW,mem_upto,b8,cm]
 constructor
 ·rintro ⟨h1,h2⟩
  exact⟨by lia,h2⟩
 ·rintro ⟨h1,h2⟩
  exact⟨by lia,h2⟩
theorem jPX {w:Int}{ms:List Int}{pcs:List (List Int×Int)}(g:Good 16 32 w ms pcs)(held:List Int){k:Int}(h0:0<=k)(h1:k<pcs.length):((j9 pcs k).all fun t=>decide (t∈lftT w held))=fitS held (pcs.getD k.toNat ([],0)):=by
 have gp:=g.at (k:=k.toNat) (by lia)
 unfold fitS j9
 rw[bq,aS,b8,cw]
 refine forall_congr' fun t=>forall_congr' fun ht=>?_
 rw[bo,bo,jFX g.w0]
 exact⟨fun h=>h.2,fun h=>⟨gp.lot.bnd t ht,h⟩⟩
theorem jC9 {ts:List Int}{t:Int}(h:t∈ts):ts[ts.idxOf t]?=some t/\∀ m,m<ts.idxOf t->ts[m]?≠some t:=by
 have hi:=cH.mpr h
 refine⟨by rw[aK hi,eL],fun m hm e=>?_⟩
 have hm':m<ts.length:=by lia
 rw[aK hm'] at e
 have:=List.not_of_lt_findIdx (p:=(· ==t)) (xs:=ts) (i:=m) (by unfold List.idxOf at hm; exact hm)
 rw[be e] at this
 simp at this
theorem jQ6 {K:W.Frag}{m:List (Option Nat)}{σ:St}{H:Hp}{Q:VK}{q t:Addr}{lot ts:List Int}(hq:H q=some (.tup (lot.map V.int)))(ht:H t=some (.tup (ts.map V.int)))(hl:lot.length<=1000)(hs:∀ x∈lot,x∈ts)(h0:blkσ m σ=[none,some (.ref t)])
  (k:∀ D H',H' D=some (.lst ((lot.map fun t=>((ts.idxOf t:Nat):Int)).map V.int))->Ext H H'->H D=none->Q (.ref D) H'):qE m (kI 0) yG (tBMT jI7 (tVar 1) (tCons (tVar 0) tNil)) σ Q (Itt K q) H:=by
 refine jAC (xs:=lot.map V.int) (by rw[ac,ah]; lia) (fun D j σ' H' zs=>(∃ v,σ'=[v,some (.ref t)])/\Ext H H'/\H' D=some (.lst zs)/\H D=none/\zs=((lot.take j).map fun t=>((ts.idxOf t:Nat):Int)).map V.int) ?_ ?_ ?_ ?_
 ·intro D hD
  exact⟨⟨_,h0⟩,(Ext.refl _).new hD _,j7,hD,rfl⟩
 ·rintro D j σ' H' zs hD ⟨_,e,h2,_,rfl⟩
  refine⟨e _ _ hq,h2,?_⟩
  rw[ac,ac]
  exact aX _ _
 ·rintro D j σ' H' zs x hD hx ⟨⟨v,rfl⟩,e,h2,hn,rfl⟩
  obtain⟨z,hz,rfl⟩:∃ z:Int,lot[j]?=some z/\V.int z=x:=by
   rw[ay] at hx
   cases hq:lot[j]? with
   | none=>rw[hq] at hx; cases hx
   | some z=>rw[hq] at hx; cases hx; exact⟨z,rfl,rfl⟩
  have hzt:=hs z (aB hz)
  dsimp only [kI,yG]
  rw[aD rfl]
  refine⟨_,rfl,⟨t,_,rfl,e _ _ ht⟩,_,rfl,t,ts,z,ts.idxOf z,rfl,rfl,e _ _ ht,(jC9 hzt).1,(jC9 hzt).2,h2,⟨_,rfl⟩,e.updNew hn _,j7,hn,?_⟩
  have:lot.take (j+1)=lot.take j++[z]:=by
   rw[aJ,hz]
   rfl
  rw[this,au,au]
  rfl
 ·rintro D σ' H' zs hD ⟨_,e,h2,hn,rfl⟩
  rw[ac,aO] at h2
  exact k D H' h2 e hn
theorem jKZ {K:W.Frag}{m:List (Option Nat)}{σ:St}{H:Hp}{Q:VK}{q t:Addr}{lot ts:List Int}(hq:H q=some (.tup (lot.map V.int)))(ht:H t=some (.tup (ts.map V.int)))(hl:lot.length<=1000)(h0:blkσ m σ=[none,some (.ref t)])
  (k:∀ D H',H' D=some (.lst ((plcs ts lot).map V.int))->Ext H H'->H D=none->Q (.ref D) H'):qE m (kI 0) (tB (tOp (rIn K false) (tVar 0) (tVar 1))) (tBMT jI7 (tVar 1) (tCons (tVar 0) tNil)) σ Q (Itt K q) H:=by
 refine jAC (xs:=lot.map V.int) (by rw[ac,ah]; lia) (fun D j σ' H' zs=>(∃ v,σ'=[v,some (.ref t)])/\Ext H H'/\H' D=some (.lst zs)/\H D=none/\zs=(plcs ts (lot.take j)).map V.int) ?_ ?_ ?_ ?_
 ·intro D hD
  exact⟨⟨_,h0⟩,(Ext.refl _).new hD _,j7,hD,rfl⟩
 ·rintro D j σ' H' zs hD ⟨_,e,h2,_,rfl⟩
  refine⟨e _ _ hq,h2,?_⟩
  rw[ac]
  exact aQ (jFQ _ _) (aX _ _)
 ·rintro D j σ' H' zs x hD hx ⟨⟨v,rfl⟩,e,h2,hn,rfl⟩
  obtain⟨z,hz,rfl⟩:∃ z:Int,lot[j]?=some z/\V.int z=x:=by
   rw[ay] at hx
   cases hq:lot[j]? with
   | none=>rw[hq] at hx; cases hx
   | some z=>rw[hq] at hx; cases hx; exact⟨z,rfl,rfl⟩
  have hp:plcs ts (lot.take (j+1))=plcs ts (lot.take j)++(if z∈ts then [((ts.idxOf z:Nat):Int)] else []):=by
   unfold plcs
   rw[aJ,hz,bn,au]
   congr 1
   by_cases hzz:z∈ts <;> simp [hzz]
  dsimp only [kI]
  refine⟨_,rfl,_,rfl,t,_,rfl, .inr (SqT.of (e _ _ ht)),rfl,kL _,_,rfl,?_⟩
  rw[kU]
  refine ite2 (fun hzz=>?_) (fun hzz=>?_)
  ·have hzt:z∈ts:=aq hzz
   refine⟨_,rfl,⟨t,_,rfl,e _ _ ht⟩,_,rfl,t,ts,z,ts.idxOf z,rfl,rfl,e _ _ ht,(jC9 hzt).1,(jC9 hzt).2,h2,⟨_,rfl⟩,e.updNew hn _,j7,hn,?_⟩
   rw[hp,aD hzt,au]
   rfl
  ·have hzt:¬ z∈ts:=fun y=>hzz (ao y)
   refine⟨⟨_,rfl⟩,e,h2,hn,?_⟩
   rw[hp,aF hzt,bf]
 ·rintro D σ' H' zs hD ⟨_,e,h2,hn,rfl⟩
  rw[ac,aO] at h2
  exact k D H' h2 e hn
abbrev jE4:List Str:=["box","some","held","number","things","apart"]
theorem scBehind:FnScope jE4 ["box","some"] (jA jAS):= {}
structure BhAt (H:Hp)(r:Addr)(w:Int)(ms:List Int)(pcs:List (List Int×Int))(ts aps:List Int):Prop where
 ex:∃ rb rt rp,H r=some (.tup [.ref rb, .ref rt, .ref rp])/\BoxAt H rb ts.length (nmd ts ms) (pick ts pcs aps)/\H rt=some (.tup (ts.map V.int))/\H rp=some (.tup (aps.map V.int))
def jDG (tb:Addr):Sp:=fun vs H Q _=>∃ (b a:Addr) (w:Int) (ms:List Int) (pcs:List (List Int×Int)) (ks:List Int),vs=[.ref b, .ref a]/\BoxAt H b w ms pcs/\Good 16 32 w ms pcs/\H a=some (.tup (ks.map V.int))/\Ris pcs.length ks/\(ks.flatMap (j9 pcs)).Nodup/\TabP H tb/\
 ∀ r H',BhAt H' r w ms pcs (lftT w (ks.flatMap (j9 pcs))) (lftP pcs (lftT w (ks.flatMap (j9 pcs))))->ExtT tb H H'->TabP H' tb->Q (.ref r) H'
def jTE (T:Txt mg)(CL:Can P w K mg base "is_lot" 3 fL fdL ["thing","many"] (spB2 lotB))(CK:Can P w K mg base "picked" 2 fK fdK ["box","things","pieces"] (jBN tb))(hr:Room 3 (XOf jE4 "behind" jAS P w K mg base f dl A outer s H0 E).A): { t:TS // JSs (XOf jE4 "behind" jAS P w K mg base f dl A outer s H0 E) (jN jAS) t} :=
 have nd:=scBehind.nd
 ⟨_,(jB (yJ (jDA (qG (CL.je (hr.mono (by decide)) gD (j4 (jv 1 rfl vL) (j4 (jK jV gD T.len (by decide+kernel) (j4 (jJ jL (jv 0 rfl vL) (jC) jE) j8 jI) jI) j8 jG) j6) j6) yY)) (jH (jR7)) kP)
   (jB (jT (i:=2) nd rfl yX (yF j8) qU)
   (jB (qS bB rfl (yP (jv 1 rfl vL)) (jQ (i:=3) nd rfl lL) (jH (qO (xG bb dr dv jBR (jv 2 rfl vC) (j4 (jJ jL (jJ jL (jJ jL (jv 0 rfl vL) (jC) jE) (jv 3 rfl vL) y9) (jC) jE) j8 jI) jI) jW)) yD)
   (jB (yJ (jY op_lt (jK jOH gD T.len (by decide+kernel) (j4 (jP (jOF rfl) gD T.set (by decide+kernel) (j4 (jv 2 rfl vC) j8 j6) j6) j8 jG) jG) (jK jV gD T.len (by decide+kernel) (j4 (jv 2 rfl vC) j8 j6) j6) (kT _)) (jH (jR7)) kP)
   (jB (jT (i:=4) nd rfl yX (jP jO gD T.tuple (by decide+kernel) (j4 (kN (m:=[none,some 2]) (Nc:=["thing","held"]) rfl (kX gD T.range (j4 (jJ jL (jv 0 rfl vL) (jC) jE) j8 jI) jI) rfl (by decide+kernel) (by decide+kernel) (jX (psc:=jA jAS)) (jM (N:=jE4) rfl rfl (by decide+kernel)) (fun cl C fp s H=>jQ (i:=0) (show (["thing","held"]:List Str).Nodup by decide+kernel) rfl yA) (fun cl C fp s H=>yI (jY jBQ (jv 0 rfl jS) (jv 1 rfl jZ) yN)) (fun cl C fp s H=>(jv 0 rfl jS)) kQ) j8 jR) jR) jW)
   (jB (jCR (i:=5) nd rfl lL ⟨by rfl⟩ (m:=[none,none,some 4]) (Nc:=["number","piece","things"]) rfl (jG2 gD T.enumerate (j4 (jJ jL (jv 0 rfl vL) (jC) jE) j8 jI) jI) rfl (by decide+kernel) (by decide+kernel) (jX (psc:=jA jAS)) (jM (N:=jE4) rfl rfl (by decide+kernel)) (fun cl C fp s H=>jBH (i:=0) (j:=1) rfl (show (["number","piece","things"]:List Str).Nodup by decide+kernel) rfl rfl (by decide+kernel) (by decide+kernel)) (fun cl C fp s H=>yI (qG (jK (jIV rfl) gl_b T.all (by decide+kernel) (j4 (kN (m:=[none,some 2]) (Nc:=["thing","things"]) rfl (jJU (jJ kD (jv 1 rfl jS) (jC) jE)) rfl (by decide+kernel) (by decide+kernel) (jK1 (by decide+kernel)) (jM (N:=["number","piece","things"]) rfl rfl (by decide+kernel)) (fun cl C fp s H=>jQ (i:=0) (show (["thing","things"]:List Str).Nodup by decide+kernel) rfl yA) (fun cl C fp s H=>kZ) (fun cl C fp s H=>(q0 jPF (jv 0 rfl jS) (jv 1 rfl jZ) yN)) jF5) j8 jR) jR) yY)) (fun cl C fp s H=>(jv 0 rfl jS)) kQ)
   (jH (kB (kR (j4 (CK.je (hr.mono (by decide)) gD (j4 (jv 0 rfl vL) (j4 (jv 4 rfl vC) (j4 (jv 5 rfl vL) j8 j6) j6) j6) j6) (j4 (jv 4 rfl vC) (j4 (jP jO gD T.tuple (by decide+kernel) (j4 (jv 5 rfl vL) j8 j6) j6) j8 jG) j6) jG))))))))))⟩
theorem jJP {m:List (Option Nat)}{σ:St}{H:Hp}{Q:VK}{l:Addr}{w:Int}{held:List Int}(hl:H l=some (.lst (held.map V.int)))(w0:0<=w)(w1:w<=16)(h0:blkσ m σ=[none,some (.ref l)])
  (q:∀ D H',H' D=some (.lst ((lftT w held).map V.int))->Ext H H'->H D=none->Q (.ref D) H'):qE m (kI 0) (tB (tOp (rIn K true) (tVar 0) (tVar 1))) (tVar 0) σ Q (Itr 0 w.toNat) H:=by
 refine jAD (n:=w.toNat) (by rw[ah]; lia) (fun D j σ' H' zs=>(∃ v,σ'=[v,some (.ref l)])/\Ext H H'/\H' D=some (.lst zs)/\H D=none/\zs=(((upto w.toNat).take j).filter fun t=>!decide (t∈held)).map V.int) ?_ ?_ ?_ ?_
 ·intro D hD
  exact⟨⟨_,h0⟩,(Ext.refl _).new hD _,j7,hD,rfl⟩
 ·rintro D j σ' H' zs hD hj ⟨_,e,h2,_,rfl⟩
  refine⟨h2,?_⟩
  rw[ac]
  exact aQ (aY _ _) (aX _ _)
 ·rintro D j σ' H' zs hD hj ⟨⟨v,rfl⟩,e,h2,hn,rfl⟩
  have e0:(0+(j:Int))=(j:Int):=by lia
  refine⟨_,rfl,_,rfl,l,_,rfl, .inl (SqL.of (e _ _ hl)),rfl,kL held,_,rfl,?_⟩
  rw[e0,kU,jEG (yC hj)]
  refine ite2 (fun hz=>?_) (fun hz=>?_)
  ·have hz:(!decide ((j:Int)∈held))=true:=hz
   refine⟨_,rfl,h2,⟨_,rfl⟩,e.updNew hn _,j7,hn,?_⟩
   rw[aD hz,au]
   rfl
  ·have hz:¬ (!decide ((j:Int)∈held))=true:=hz
   refine⟨⟨_,rfl⟩,e,h2,hn,?_⟩
   rw[aF hz,bf]
 ·rintro D σ' H' zs hD ⟨_,e,h2,hn,rfl⟩
  refine q D H' ?_ e hn
  rw[h2]
  unfold lftT
  rw[bH (by rw[kJ]; exact ai _)]
theorem jML {fd:FuncData}(F:Fun K "behind" "behind" jAS f fd)(T:Txt mg)(CL:Can P w K mg base "is_lot" 3 fL fdL ["thing","many"] (spB2 lotB))(CK:Can P w K mg base "picked" 2 fK fdK ["box","things","pieces"] (jBN tb)):FnOk P w K mg base CX0 4 f fd ["box","some"] (jDG tb):=by
 refine F.ok scBehind (fun vs H Q E h=>?_) (fun dl A outer s H vs Q E hr h=>?_)
 ·obtain⟨_,_,_,_,_,_,rfl,_⟩:=h
  rfl
 ·obtain⟨b,a,w,ms,pcs,ks,rfl,hB,g,ha,rk,hnd,tab,q⟩:=h
  refine⟨_,(jTE T CL CK hr).2.h,?_⟩
  obtain⟨qm,qp,ps,b1,b2,b3,b4⟩:=id hB.ex
  have pl:=b4.len
  have w0:=g.w0
  have w1:=g.w1
  have gpl:=g.pl
  have lk:ks.length<=32:=by
   have:=yM ks 0 pcs.length rk.ris rk.bnd
   lia
  have l16:∀ k∈ks,(j9 pcs k).length<=16:=fun k hk=>jA2 g (rk.bnd k hk).1 (rk.bnd k hk).2
  have tlen:∀ (i:Nat),i<=ks.length->((ks.take i).flatMap (j9 pcs)).length<=512:=fun i hi=>by
   have:=jDL (f:=j9 pcs) (ks:=ks.take i) (fun k hk=>l16 k (bS hk)) 32 (by have:=aX i ks; lia)
   lia
  refine⟨_,rfl,_,rfl,b,_,2,_,rfl,rfl,SqT.of b1,rfl,qp,_,rfl, .inr (SqT.of b3), .ref a, .tup (ks.map Ob.int),_,rfl,jOM ha (by rw[ac]; lia) (Ats.ints ks),fun H1 e1=>⟨_,rfl,?_⟩⟩
  rw[pl,jE8 rk.ris rk.bnd]
  refine iteF ?_
  refine⟨by show (0:Nat)<=_; decide,fun l H2 d2 e2 n2=>?_⟩
  have e02:=e1.trans e2
  refine⟨_,rfl,a,rfl,⟨_,SqT.of (e02 _ _ ha)⟩,jIM (xs:=ks.map V.int) (fun i σ H'=>(∃ v3,σ=[some (.ref b),some (.ref a),some (.ref l),v3,none,none])/\Ext H H'/\H' l=some (.lst (((ks.take i).flatMap (j9 pcs)).map V.int))) ⟨⟨_,rfl⟩,e02,d2⟩ (fun i σ H' _ ⟨_,e,_⟩=>SqT.of (e _ _ ha)) ?_ ?_⟩
  ·rintro i x σ H' hx ⟨⟨v3,rfl⟩,e,h3⟩
   obtain⟨k,hk,rfl⟩:∃ z:Int,ks[i]?=some z/\V.int z=x:=by
    rw[ay] at hx
    cases hq:ks[i]? with
    | none=>rw[hq] at hx; cases hx
    | some z=>rw[hq] at hx; cases hx; exact⟨z,rfl,rfl⟩
   have hil:i<ks.length:=(av.mp hk).1
   have km:=aB hk
   obtain⟨pa,pq,g1,g2,g3⟩:=jA5 b4 (rk.bnd k km).1 (rk.bnd k km).2
   refine⟨_,rfl, .inl ⟨rfl,_,SqL.of h3⟩,_,rfl,b,_,2,_,rfl,rfl,SqT.of (e _ _ b1),rfl,_,rfl,qp,_,k,_,rfl,rfl,SqT.of (e _ _ b3),g1,pa,_,0,_,rfl,rfl,SqT.of (e _ _ g2),rfl,l,pq,_,_,rfl,rfl,h3,e _ _ g3,?_,⟨_,rfl⟩,?_,?_⟩
   ·have q1:=tlen i (by lia)
    have q2:=l16 k km
    rw[ac,ac,ah]
    lia
   ·refine fun c o hc=>?_
    have nl:c≠l:=fun z=>by
     rw[z] at hc
     have:=e1 _ _ hc
     rw[n2] at this
     cases this
    rw[jD nl]
    exact e _ _ hc
   ·rw[j7,aJ,hk]
    simp
  ·rintro σ H3 ⟨⟨v3,rfl⟩,e3,h3⟩
   rw[ac,aO] at h3
   have tl:=tlen ks.length (ai _)
   rw[aO] at tl
   generalize hH:ks.flatMap (j9 pcs)=held at h3 hnd q tl
   refine⟨_,rfl,l,held,rfl,SqL.of h3,by lia,fun sl S hsl=>⟨sl,S,_,rfl,j7,?_⟩⟩
   have e4:Ext H3 (L2.upd H3 sl (.set S (PyProof.Rows.firstMet (fun i=>held.getD i 0) held.length).length)):=(Ext.refl _).new hsl _
   rw[jUN hnd] at e4 ⊢
   generalize L2.upd H3 sl (.set S held.length)=H4 at e4
   have h4:=e4 _ _ h3
   have E4:=e3.trans e4
   refine⟨_,rfl,l,_,rfl, .inl (SqL.of h4),_,_,rfl,rfl,_,rfl,iteN (by rw[ac]; exact aN (by lia)) ?_⟩
   refine⟨_,rfl,b,_,0,_,rfl,rfl,SqT.of (E4 _ _ b1),rfl,w,rfl,by lia,by lia,jJP h4 w0 w1 rfl fun D H5 k5 e5 n5=>?_⟩
   refine⟨D,_,rfl, .inl ⟨SqL.of k5,fun t ht=>?_⟩⟩
   generalize hT:lftT w held=ts at k5 q
   have e6:Ext H5 (L2.upd H5 t (.tup (ts.map V.int))):=(Ext.refl _).new ht _
   have d6:(L2.upd H5 t (.tup (ts.map V.int))) t=some (.tup (ts.map V.int)):=j7
   generalize L2.upd H5 t (.tup (ts.map V.int))=H6 at e6 d6
   have E6:=(E4.trans e5).trans e6
   refine⟨_,rfl,b,_,2,_,rfl,rfl,SqT.of (E6 _ _ b1),rfl,true,qp,rfl,⟨_,SqT.of (E6 _ _ b3)⟩,jCG (xs:=ps) (by rw[pl,ah]; lia) (fun D j σ' H' zs=>(∃ v v',σ'=[v,v',some (.ref t)])/\Ext H6 H'/\H' D=some (.lst zs)/\H6 D=none/\zs=(((upto pcs.length).take j).filter fun k=>(j9 pcs k).all fun x=>decide (x∈ts)).map V.int) ?_ ?_ ?_ ?_⟩
   ·intro D hD
    exact⟨⟨_,_,rfl⟩,(Ext.refl _).new hD _,j7,hD,rfl⟩
   ·rintro D j σ' H' zs hD ⟨_,e,h2,_,rfl⟩
    refine⟨SqT.of (e _ _ (E6 _ _ b3)),h2,?_⟩
    rw[ac]
    exact aQ (aY _ _) (aX _ _)
   ·rintro D j σ' H' zs x X hD hx hX ⟨⟨v,v',rfl⟩,e,h2,hn,rfl⟩
    have hj:j<pcs.length:=by
     rw[<- pl]
     exact(av.mp hx).1
    obtain⟨x',hx',pa,pq,rfl,c1,c2⟩:=b4.get hj
    rw[hx] at hx'
    cases hx'
    have e7:Ext H' (L2.upd H' X (.tup [.int (j:Int), .ref pa])):=(Ext.refl _).new hX _
    have E7:=(E6.trans e).trans e7
    refine⟨X,_,rfl,SqT.of j7,rfl,_,_,rfl,_,_,rfl,rfl,?_⟩
    dsimp only [kI]
    refine⟨_,rfl,pa,_,0,_,rfl,rfl,SqT.of (E7 _ _ c1),rfl,pq,rfl,⟨_,SqT.of (E7 _ _ c2)⟩,jT4 (tp:=true) (E7 _ _ c2) (e7 _ _ (e _ _ d6)) (by have:=jA2 g (k:=j) (by lia) (by lia); unfold j9 at this; rw[bp] at this; lia) rfl fun D2 H8 k8 e8 n8=>?_⟩
    refine⟨D2,_,rfl,SqL.of k8,_,rfl,?_⟩
    have h8:=e8 _ _ (e7 _ _ h2)
    have et:j9 pcs (j:Int)=(pcs.getD j ([],0)).1:=by unfold j9; rw[bp]
    have E8:=(e.trans e7).trans e8
    rw[jVC,<- et,jEG (yC hj)]
    refine ite2 (fun hz=>?_) (fun hz=>?_)
    ·refine⟨_,rfl,h8,⟨_,_,rfl⟩,E8.updNew hn _,j7,hn,?_⟩
     rw[aD hz,au]
     rfl
    ·refine⟨⟨_,_,rfl⟩,E8,h8,hn,?_⟩
     rw[aF hz,bf]
   ·rintro D σ' H7 zs hD ⟨_,e7,h7,n7,rfl⟩
    have hap:((upto pcs.length).take ps.length).filter (fun k=>(j9 pcs k).all fun x=>decide (x∈ts))=lftP pcs ts:=by
     rw[pl,bH (by rw[kJ]; exact ai _)]
     rfl
    rw[hap] at h7
    have E7:=E6.trans e7
    have tnd:ts.Nodup:=by rw[<- hT]; exact jKR _ _
    have tln:ts.length<=16:=by rw[<- hT]; have:=jPV w held; lia
    have aln:=jJR pcs ts
    refine⟨_,rfl,_,rfl,_,rfl,b,t,D,true,false,w,ms,pcs,ts,lftP pcs ts,rfl,hB.mono E7.tups,e7 _ _ d6,h7,tnd,by lia,?_,pc_lt g,jDJ,by lia,tab.ext E7,fun r1 H8 B8 e8 t8=>?_⟩
    ·have:=jBF g.mr.ris g.mr.bnd w1
     lia
    have tab7:=tab.ext E7
    have k8:=e8.at tab7 (e7 _ _ d6)
    have m8:=e8.at tab7 h7
    refine⟨_,rfl,_,rfl,D,_,rfl, .inl ⟨SqL.of m8,fun p hp=>?_⟩⟩
    have e9:Ext H8 (L2.upd H8 p (.tup ((lftP pcs ts).map V.int))):=(Ext.refl _).new hp _
    have d9:(L2.upd H8 p (.tup ((lftP pcs ts).map V.int))) p=some (.tup ((lftP pcs ts).map V.int)):=j7
    generalize L2.upd H8 p (.tup ((lftP pcs ts).map V.int))=H9 at e9 d9
    refine⟨by show (3:Nat)<=_; decide,fun r HA dA eA=>?_⟩
    have e8A:=e9.trans eA
    exact q r HA ⟨r1,t,p,dA,B8.mono e8A.tups,e8A _ _ k8,eA _ _ d9⟩ (((ExtT.of E7).trans e8).trans (ExtT.of e8A)) (t8.ext e8A)
abbrev jB5:List Str:=["box","some","held","k","things","pieces","told","left"]
theorem scLBehind:FnScope jB5 ["box","some"] (jA qB):= {}
def jAW:Sp:=fun vs H Q _=>∃ (b a:Addr) (w:Int) (ms:List Int) (pcs:List (List Int×Int)) (ks:List Int),vs=[.ref b, .ref a]/\BoxAt H b w ms pcs/\Good 16 32 w ms pcs/\H a=some (.tup (ks.map V.int))/\Ris pcs.length ks/\
 ∀ r H',BhAt H' r w ms pcs (lftT w (ks.flatMap (j9 pcs))) (lftP pcs (lftT w (ks.flatMap (j9 pcs))))->Ext H H'->Q (.ref r) H'
def jPZ (T:Txt mg)(CF:Can P w K mg base "_law_fits" 1 fF fdF ["box","k","done"] jET)(hr:Room 1 (XOf jB5 "_law_behind" qB P w K mg base f dl A outer s H0 E).A): { t:TS // JSs (XOf jB5 "_law_behind" qB P w K mg base f dl A outer s H0 E) (jN qB) t} :=
 have nd:=scLBehind.nd
 ⟨_,(jB (jT (i:=2) nd rfl yX (yF j8) qU)
   (jB (qS bB rfl (yP (jv 1 rfl vL)) (jQ (i:=3) nd rfl lL) (jH (qO (xG bb dr dv jBR (jv 2 rfl vC) (j4 (jJ jL (jJ jL (jJ jL (jv 0 rfl vC) (jC) jE) (jv 3 rfl vL) y9) (jC) jE) j8 jI) jI) jW)) yD)
   (jB (jT (i:=4) nd rfl yX (jP jO gD T.tuple (by decide+kernel) (j4 (kN (m:=[none,some 2]) (Nc:=["t","held"]) rfl (kX gD T.range (j4 (jJ jL (jv 0 rfl vC) (jC) jE) j8 jI) jI) rfl (by decide+kernel) (by decide+kernel) (jX (psc:=jA qB)) (jM (N:=jB5) rfl rfl (by decide+kernel)) (fun cl C fp s H=>jQ (i:=0) (show (["t","held"]:List Str).Nodup by decide+kernel) rfl yA) (fun cl C fp s H=>yI (jY jBQ (jv 0 rfl jS) (jv 1 rfl jZ) yN)) (fun cl C fp s H=>(jv 0 rfl jS)) kQ) j8 jR) jR) jW)
   (jB (jT (i:=5) nd rfl lL (jP jO gD T.tuple (by decide+kernel) (j4 (kN (m:=[none,some 0,some 2]) (Nc:=["k","box","held"]) rfl (kX gD T.range (j4 (jK jV gD T.len (by decide+kernel) (j4 (jJ jL (jv 0 rfl vC) (jC) jE) j8 jI) jI) j8 jG) jG) rfl (by decide+kernel) (by decide+kernel) (jX (psc:=jA qB)) (jM (N:=jB5) rfl rfl (by decide+kernel)) (fun cl C fp s H=>jQ (i:=0) (show (["k","box","held"]:List Str).Nodup by decide+kernel) rfl yA) (fun cl C fp s H=>yI (qG (CF.je hr gl_b (j4 (jv 1 rfl jZ) (j4 (jv 0 rfl jS) (j4 (jv 2 rfl jZ) j8 j6) j6) j6) j6) yY)) (fun cl C fp s H=>(jv 0 rfl jS)) kQ) j8 jR) jR) jW)
   (jB (jCR (i:=6) nd rfl lL ⟨by rfl⟩ (m:=[none,some 0,some 4]) (Nc:=["k","box","things"]) rfl (yP (jv 5 rfl vL)) rfl (by decide+kernel) (by decide+kernel) (jX (psc:=jA qB)) (jM (N:=jB5) rfl rfl (by decide+kernel)) (fun cl C fp s H=>jQ (i:=0) (show (["k","box","things"]:List Str).Nodup by decide+kernel) rfl yA) (fun cl C fp s H=>kZ) (fun cl C fp s H=>(kR (j4 (jP jEL gl_b T.tuple (by decide+kernel) (j4 (kN (m:=[none,some 2]) (Nc:=["t","things"]) rfl (jJU (jJ kD (jJ kD (jJ kD (jv 1 rfl jZ) (jC) jE) (jv 0 rfl jS) y9) (jC) jE)) rfl (by decide+kernel) (by decide+kernel) (jK1 (by decide+kernel)) (jM (N:=["k","box","things"]) rfl rfl (by decide+kernel)) (fun cl C fp s H=>jQ (i:=0) (show (["t","things"]:List Str).Nodup by decide+kernel) rfl yA) (fun cl C fp s H=>kZ) (fun cl C fp s H=>(jR9 g0 g4 jGY (jv 1 rfl jZ) (j4 (jv 0 rfl jS) j8 j6) j6)) jF5) j8 jR) jR) (j4 (jJ kD (jJ kD (jJ kD (jv 1 rfl jZ) (jC) jE) (jv 0 rfl jS) y9) (jC) jE) j8 jI) jG))) yD)
   (jB (jT (i:=7) nd rfl lL (kR (j4 (jK jV gD T.len (by decide+kernel) (j4 (jv 4 rfl vC) j8 j6) j6) (j4 (jP jO gD T.tuple (by decide+kernel) (j4 (kN (m:=[none,some 4]) (Nc:=["t","things"]) rfl (yP (jJ jL (jv 0 rfl vC) (jC) jE)) rfl (by decide+kernel) (by decide+kernel) (jX (psc:=jA qB)) (jM (N:=jB5) rfl rfl (by decide+kernel)) (fun cl C fp s H=>jQ (i:=0) (show (["t","things"]:List Str).Nodup by decide+kernel) rfl yA) (fun cl C fp s H=>yI (jY jAU (jv 0 rfl jS) (jv 1 rfl jZ) yN)) (fun cl C fp s H=>(jR9 g0 g4 jGY (jv 1 rfl jZ) (j4 (jv 0 rfl jS) j8 j6) j6)) jF5) j8 jR) jR) (j4 (jP jO gD T.tuple (by decide+kernel) (j4 (jv 6 rfl vL) j8 j6) j6) j8 jG) jG) jG)) jGL)
   (jH (kB (kR (j4 (jv 7 rfl vL) (j4 (jv 4 rfl vC) (j4 (jv 5 rfl vL) j8 j6) j6) j6))))))))))⟩
theorem jKO {fd:FuncData}(F:Fun K "_law_behind" "_law_behind" qB f fd)(T:Txt mg)(CF:Can P w K mg base "_law_fits" 1 fF fdF ["box","k","done"] jET):FnOk P w K mg base CX0 2 f fd ["box","some"] jAW:=by
 refine F.ok scLBehind (fun vs H Q E h=>?_) (fun dl A outer s H vs Q E hr h=>?_)
 ·obtain⟨_,_,_,_,_,_,rfl,_⟩:=h
  rfl
 ·obtain⟨b,a,w,ms,pcs,ks,rfl,hB,g,ha,rk,q⟩:=h
  refine⟨_,(jPZ T CF hr).2.h,?_⟩
  obtain⟨qm,qp,ps,b1,b2,b3,b4⟩:=id hB.ex
  have pl:=b4.len
  have w0:=g.w0
  have w1:=g.w1
  have gpl:=g.pl
  have lk:ks.length<=32:=by
   have:=yM ks 0 pcs.length rk.ris rk.bnd
   lia
  have l16:∀ k∈ks,(j9 pcs k).length<=16:=fun k hk=>jA2 g (rk.bnd k hk).1 (rk.bnd k hk).2
  have tlen:∀ (i:Nat),i<=ks.length->((ks.take i).flatMap (j9 pcs)).length<=512:=fun i hi=>by
   have:=jDL (f:=j9 pcs) (ks:=ks.take i) (fun k hk=>l16 k (bS hk)) 32 (by have:=aX i ks; lia)
   lia
  refine⟨by show (0:Nat)<=_; decide,fun l H2 d2 e2 n2=>?_⟩
  refine⟨_,rfl,a,rfl,⟨_,SqT.of (e2 _ _ ha)⟩,jIM (xs:=ks.map V.int) (fun i σ H'=>(∃ v3,σ=[some (.ref b),some (.ref a),some (.ref l),v3,none,none,none,none])/\Ext H H'/\H' l=some (.lst (((ks.take i).flatMap (j9 pcs)).map V.int))) ⟨⟨_,rfl⟩,e2,d2⟩ (fun i σ H' _ ⟨_,e,_⟩=>SqT.of (e _ _ ha)) ?_ ?_⟩
  ·rintro i x σ H' hx ⟨⟨v3,rfl⟩,e,h3⟩
   obtain⟨k,hk,rfl⟩:∃ z:Int,ks[i]?=some z/\V.int z=x:=by
    rw[ay] at hx
    cases hq:ks[i]? with
    | none=>rw[hq] at hx; cases hx
    | some z=>rw[hq] at hx; cases hx; exact⟨z,rfl,rfl⟩
   have hil:i<ks.length:=(av.mp hk).1
   have km:=aB hk
   obtain⟨pa,pq,g1,g2,g3⟩:=jA5 b4 (rk.bnd k km).1 (rk.bnd k km).2
   refine⟨_,rfl, .inl ⟨rfl,_,SqL.of h3⟩,_,rfl,b,_,2,_,rfl,rfl,SqT.of (e _ _ b1),rfl,_,rfl,qp,_,k,_,rfl,rfl,SqT.of (e _ _ b3),g1,pa,_,0,_,rfl,rfl,SqT.of (e _ _ g2),rfl,l,pq,_,_,rfl,rfl,h3,e _ _ g3,?_,⟨_,rfl⟩,e.updNew n2 _,?_⟩
   ·have q1:=tlen i (by lia)
    have q2:=l16 k km
    rw[ac,ac,ah]
    lia
   ·rw[j7,aJ,hk]
    simp
  ·rintro σ H3 ⟨⟨v3,rfl⟩,e3,h3⟩
   rw[ac,aO] at h3
   generalize hH:ks.flatMap (j9 pcs)=held at h3 q
   refine⟨_,rfl,b,_,0,_,rfl,rfl,SqT.of (e3 _ _ b1),rfl,w,rfl,by lia,by lia,jJP h3 w0 w1 rfl fun D H5 k5 e5 n5=>?_⟩
   refine⟨D,_,rfl, .inl ⟨SqL.of k5,fun t ht=>?_⟩⟩
   generalize hT:lftT w held=ts at k5 q
   have e6:Ext H5 (L2.upd H5 t (.tup (ts.map V.int))):=(Ext.refl _).new ht _
   have d6:(L2.upd H5 t (.tup (ts.map V.int))) t=some (.tup (ts.map V.int)):=j7
   generalize L2.upd H5 t (.tup (ts.map V.int))=H6 at e6 d6
   have E6:=(e3.trans e5).trans e6
   have h6:=e6 _ _ (e5 _ _ h3)
   refine⟨_,rfl,b,_,2,_,rfl,rfl,SqT.of (E6 _ _ b1),rfl,qp,_,rfl, .inr (SqT.of (E6 _ _ b3)),(ps.length:Int),rfl,by lia,by lia,jAD (n:=ps.length) (by rw[ah]; lia) (fun D j σ' H' zs=>(∃ v,σ'=[v,some (.ref b),some (.ref l)])/\Ext H6 H'/\H' D=some (.lst zs)/\H6 D=none/\zs=(((upto pcs.length).take j).filter fun k=>(j9 pcs k).all fun x=>decide (x∈ts)).map V.int) ?_ ?_ ?_ ?_⟩
   ·intro D hD
    exact⟨⟨_,rfl⟩,(Ext.refl _).new hD _,j7,hD,rfl⟩
   ·rintro D j σ' H' zs hD hj ⟨_,e,h2,_,rfl⟩
    refine⟨h2,?_⟩
    rw[ac]
    exact aQ (aY _ _) (aX _ _)
   ·rintro D j σ' H' zs hD hj ⟨⟨v,rfl⟩,e,h2,hn,rfl⟩
    have e0:(0+(j:Int))=(j:Int):=by lia
    have hj':j<pcs.length:=by lia
    have E7:=E6.trans e
    have ef:=jPX g held (k:=j) (by lia) (by lia)
    rw[hT,bp] at ef
    rw[e0]
    refine⟨_,rfl,_,rfl,_,rfl,b,l,w,ms,pcs,j,pcs.getD j ([],0),held,rfl,hB.mono E7.tups,g,by simp [List.getD,hj'],e _ _ h6,fun H7 e7=>⟨_,rfl,?_⟩⟩
    rw[<- ef,jEG (yC hj')]
    refine ite2 (fun hz=>?_) (fun hz=>?_)
    ·refine⟨_,rfl,e7 _ _ h2,⟨_,rfl⟩,(e.trans e7).updNew hn _,j7,hn,?_⟩
     rw[aD hz,au]
     rfl
    ·refine⟨⟨_,rfl⟩,e.trans e7,e7 _ _ h2,hn,?_⟩
     rw[aF hz,bf]
   ·rintro D σ' H7 zs hD ⟨_,e7,h7,n7,rfl⟩
    have hap:((upto pcs.length).take ps.length).filter (fun k=>(j9 pcs k).all fun x=>decide (x∈ts))=lftP pcs ts:=by
     rw[pl,bH (by rw[kJ]; exact ai _)]
     rfl
    rw[hap] at h7
    refine⟨D,_,rfl, .inl ⟨SqL.of h7,fun p hp=>?_⟩⟩
    have e8:Ext H7 (L2.upd H7 p (.tup ((lftP pcs ts).map V.int))):=(Ext.refl _).new hp _
    have d8:(L2.upd H7 p (.tup ((lftP pcs ts).map V.int))) p=some (.tup ((lftP pcs ts).map V.int)):=j7
    generalize L2.upd H7 p (.tup ((lftP pcs ts).map V.int))=H8 at e8 d8
    have E8:=(E6.trans e7).trans e8
    have t8:=e8 _ _ (e7 _ _ d6)
    have aln:=jJR pcs ts
    have tris:ts.Pairwise (· < ·):=by rw[<- hT]; exact jJQ _ _
    have abnd:∀ k∈lftP pcs ts,0<=k/\k<pcs.length:=jDJ
    have asub:∀ k∈lftP pcs ts,∀ x∈j9 pcs k,x∈ts:=fun k hk x hx=>aq (aS.mp (aW.mp hk).2 x hx)
    generalize hA:lftP pcs ts=aps at d8 aln abnd asub q
    refine⟨_,rfl,p,rfl,⟨_,SqT.of d8⟩,jAC (xs:=aps.map V.int) (by rw[ac,ah]; lia) (fun D j σ' H' zs=>(∃ v,σ'=[v,some (.ref b),some (.ref t)])/\Ext H8 H'/\H' D=some (.lst zs)/\H8 D=none/\PcsAt H' zs (pick ts pcs (aps.take j))) ?_ ?_ ?_ ?_⟩
    ·intro D hD
     exact⟨⟨_,rfl⟩,(Ext.refl _).new hD _,j7,hD,trivial⟩
    ·rintro D j σ' H' zs hD ⟨_,e,h2,_,pz⟩
     refine⟨e _ _ d8,h2,?_⟩
     rw[pz.len]
     unfold pick
     rw[ac]
     exact aX _ _
    ·rintro D j σ' H' zs x hD hx ⟨⟨v,rfl⟩,e,h2,hn,pz⟩
     obtain⟨k,hk,rfl⟩:∃ z:Int,aps[j]?=some z/\V.int z=x:=by
      rw[ay] at hx
      cases hq:aps[j]? with
      | none=>rw[hq] at hx; cases hx
      | some z=>rw[hq] at hx; cases hx; exact⟨z,rfl,rfl⟩
     have km:=aB hk
     have kb:=abnd k km
     obtain⟨pa,pq,g1,g2,g3⟩:=jA5 b4 kb.1 kb.2
     have E9:=E8.trans e
     have gp:=g.at (k:=k.toNat) (by lia)
     have l16:=jA2 g kb.1 kb.2
     dsimp only [kI,yG]
     rw[aD rfl]
     refine⟨_,rfl,b,_,2,_,rfl,rfl,SqT.of (E9 _ _ b1),rfl,_,rfl,qp,_,k,_,rfl,rfl,SqT.of (E9 _ _ b3),g1,pa,_,0,_,rfl,rfl,SqT.of (E9 _ _ g2),rfl,pq,rfl,⟨_,SqT.of (E9 _ _ g3)⟩,jQ6 (E9 _ _ g3) (e _ _ t8) (by lia) (asub k km) rfl fun D2 HA kA eA nA=>?_⟩
     refine⟨D2,_,rfl, .inl ⟨SqL.of kA,fun r hr=>?_⟩⟩
     have gr:(j9 pcs k).Pairwise (· < ·):=gp.lot.ris
     rw[<- jJ9 (asub k km),<- jE1 tris gr]
     have eB:Ext HA (L2.upd HA r (.tup ((nmd ts (j9 pcs k)).map V.int))):=(Ext.refl _).new hr _
     have dB:(L2.upd HA r (.tup ((nmd ts (j9 pcs k)).map V.int))) r=some (.tup ((nmd ts (j9 pcs k)).map V.int)):=j7
     show tCons _ _ _ (L2.upd HA r (.tup ((nmd ts (j9 pcs k)).map V.int))) _
     generalize L2.upd HA r (.tup ((nmd ts (j9 pcs k)).map V.int))=HB at eB dB
     have EB:=(E9.trans eA).trans eB
     refine⟨_,rfl,b,_,2,_,rfl,rfl,SqT.of (EB _ _ b1),rfl,_,rfl,qp,_,k,_,rfl,rfl,SqT.of (EB _ _ b3),g1,pa,_,1,_,rfl,rfl,SqT.of (EB _ _ g2),rfl,by show (2:Nat)<=_; decide,fun r3 HC dC eC=>?_⟩
     have eBC:=(eA.trans eB).trans eC
     have hDC:HC D=some (.lst zs):=eBC _ _ h2
     refine⟨hDC,⟨_,rfl⟩,(e.trans eBC).updNew hn _,j7,hn,?_⟩
     have ez:pick ts pcs (aps.take (j+1))=pick ts pcs (aps.take j)++[(nmd ts (j9 pcs k),(pcs.getD k.toNat ([],0)).2)]:=by
      unfold pick
      rw[aJ,hk,au]
      rfl
     rw[ez]
     exact PcsAt.mono (Tups.upd hDC _) (PcsAt.snoc (p:=(nmd ts (j9 pcs k),(pcs.getD k.toNat ([],0)).2)) ⟨r3,r,rfl,dC,eC _ _ dB⟩ (pz.mono eBC.tups))
    ·rintro D σ' H9 zs hD ⟨_,e9,h9,n9,pz⟩
     rw[ac,aO] at pz
     have E9:=E8.trans e9
     have t9:=e9 _ _ t8
     have lm:=jBF g.mr.ris g.mr.bnd w1
     refine⟨_,rfl,t,_,rfl, .inr (SqT.of t9),_,rfl,b,_,1,_,rfl,rfl,SqT.of (E9 _ _ b1),rfl,qm,rfl,⟨_,SqT.of (E9 _ _ b2)⟩,jKZ (E9 _ _ b2) t9 (by lia) rfl fun D2 HA kA eA nA=>?_⟩
     refine⟨D2,_,rfl, .inl ⟨SqL.of kA,fun r hr=>?_⟩⟩
     rw[<- jE1 tris g.mr.ris]
     have eB:Ext HA (L2.upd HA r (.tup ((nmd ts ms).map V.int))):=(Ext.refl _).new hr _
     have dB:(L2.upd HA r (.tup ((nmd ts ms).map V.int))) r=some (.tup ((nmd ts ms).map V.int)):=j7
     show tCons _ _ _ (L2.upd HA r (.tup ((nmd ts ms).map V.int))) _
     generalize L2.upd HA r (.tup ((nmd ts ms).map V.int))=HB at eB dB
     have hB9:=eB _ _ (eA _ _ h9)
     refine⟨_,rfl,D,_,rfl, .inl ⟨SqL.of hB9,fun r4 hr4=>?_⟩⟩
     have eC:Ext HB (L2.upd HB r4 (.tup zs)):=(Ext.refl _).new hr4 _
     have dC:(L2.upd HB r4 (.tup zs)) r4=some (.tup zs):=j7
     generalize L2.upd HB r4 (.tup zs)=HC at eC dC
     refine⟨by show (3:Nat)<=_; decide,fun r5 HD dD eD=>?_⟩
     have eAD:=((eA.trans eB).trans eC).trans eD
     refine⟨_,rfl,_,rfl,_,rfl,by show (3:Nat)<=_; decide,fun r6 HE dE eE=>?_⟩
     have eAE:=eAD.trans eE
     have B5:BoxAt HD r5 ts.length (nmd ts ms) (pick ts pcs aps):=⟨r,r4,zs,by rw[dD,ac],eD _ _ (eC _ _ dB),eD _ _ dC,pz.mono eAD.tups⟩
     exact q r6 HE ⟨r5,t,p,dE,B5.mono eE.tups,eAE _ _ t9,eAE _ _ (e9 _ _ d8)⟩ (E9.trans eAE)
abbrev jMX:List Str:=["pot","box","held","found","k"]
theorem scApart:FnScope jMX ["pot","box"] (jA jD6):= {}
def jI4:Sp:=fun vs H Q _=>∃ (p b:Addr) (N w:Int) (ms:List Int) (pcs:List (List Int×Int)),vs=[.ref p, .ref b]/\H p=some (.lst [.int N])/\0<=N/\BoxAt H b w ms pcs/\Good 16 32 w ms pcs/\
 ∀ r ks N' H',H' r=some (.tup (ks.map V.int))->Ris pcs.length ks->(ks.flatMap (j9 pcs)).Nodup->H' p=some (.lst [.int N'])->0<=N'->Keep H H' p->Q (.ref r) H'
def jVB (T:Txt mg)(CT:Can P w K mg base "_law_take" 1 fT fdT ["pot","wide"] yZ)(CF:Can P w K mg base "_law_fits" 1 fF fdF ["box","k","done"] jET)(hr:Room 1 (XOf jMX "_law_apart" jD6 P w K mg base f dl A outer s H0 E).A): { t:TS // JSs (XOf jMX "_law_apart" jD6 P w K mg base f dl A outer s H0 E) (jN jD6) t} :=
 have nd:=scApart.nd
 ⟨_,(jB (jT (i:=2) nd rfl lL (yF j8) qU)
   (jB (jT (i:=3) nd rfl lL (yF j8) qU)
   (jB (qS bB rfl (kX gD T.range (j4 (jK jV gD T.len (by decide+kernel) (j4 (jJ jL (jv 1 rfl vL) (jC) jE) j8 jI) jI) j8 jG) jG) (jQ (i:=4) nd rfl lL) (jH (yJ (jt_w (jF0 (jY qX (CT.je hr gD (j4 (jv 0 rfl vL) (j4 (jC) j8 jU) j6) j6) (jC) (kT _)) (jCQ (qG (CF.je hr gD (j4 (jv 1 rfl vL) (j4 (jv 4 rfl vL) (j4 (jv 2 rfl vL) j8 j6) j6) j6) j6) yY)))) (jB (qO (xG bb bK bL yW (jv 3 rfl vL) (j4 (jv 4 rfl vL) j8 j6) j6) jW)
   (jH (qO (xG bb dr dv jBR (jv 2 rfl vL) (j4 (jJ jL (jJ jL (jJ jL (jv 1 rfl vL) (jC) jE) (jv 4 rfl vL) y9) (jC) jE) j8 jI) jI) jW))) kP)) kQ)
   (jH (kB (jP jO gD T.tuple (by decide+kernel) (j4 (jv 3 rfl vL) j8 j6) j6))))))⟩
theorem jPP {fd:FuncData}(F:Fun K "_law_apart" "_law_apart" jD6 f fd)(T:Txt mg)(CT:Can P w K mg base "_law_take" 1 fT fdT ["pot","wide"] yZ)(CF:Can P w K mg base "_law_fits" 1 fF fdF ["box","k","done"] jET):FnOk P w K mg base CX0 2 f fd ["pot","box"] jI4:=by
 refine F.ok scApart (fun vs H Q E h=>?_) (fun dl A outer s H vs Q E hr h=>?_)
 ·obtain⟨_,_,_,_,_,_,rfl,_⟩:=h
  rfl
 ·obtain⟨p,b,N,w,ms,pcs,rfl,hp,hN,hB,g,q⟩:=h
  refine⟨_,(jVB T CT CF hr).2.h,?_⟩
  obtain⟨qm,qp,ps,b1,b2,b3,b4⟩:=id hB.ex
  have pl:=b4.len
  have gpl:=g.pl
  have w1:=g.w1
  have np:∀ {c:Addr}{xs:List V},H c=some (.tup xs)->c≠p:=fun h=>ne_of h hp (by intro z; cases z)
  refine⟨by show (0:Nat)<=_; decide,fun l H1 d1 e1 n1=>?_⟩
  refine⟨by show (0:Nat)<=_; decide,fun l2 H2 d2 e2 n2=>?_⟩
  have E2:=e1.trans e2
  have ll:l≠l2:=fun z=>by rw[<- z,d1] at n2; cases n2
  have lp:l≠p:=fun z=>by rw[z,hp] at n1; cases n1
  have l2p:l2≠p:=fun z=>by rw[z] at n2; rw[e1 _ _ hp] at n2; cases n2
  have nl:∀ {c:Addr}{o:HO},H c=some o->c≠l:=fun h z=>by rw[z,n1] at h; cases h
  have nl2:∀ {c:Addr}{o:HO},H c=some o->c≠l2:=fun h z=>by rw[z] at h; rw[e1 _ _ h] at n2; cases n2
  refine⟨_,rfl,b,_,2,_,rfl,rfl,SqT.of (E2 _ _ b1),rfl,qp,_,rfl, .inr (SqT.of (E2 _ _ b3)),(ps.length:Int),rfl,by lia,by lia,jAF (n:=ps.length) (fun i σ H'=>(∃ v4,σ=[some (.ref p),some (.ref b),some (.ref l),some (.ref l2),v4])/\Keep H H' p/\(∃ N',H' p=some (.lst [.int N'])/\0<=N')/\∃ ks:List Int,H' l2=some (.lst (ks.map V.int))/\H' l=some (.lst ((ks.flatMap (j9 pcs)).map V.int))/\Ris i ks/\Taken w (ks.flatMap (j9 pcs))) ⟨⟨_,rfl⟩,fun c o h _=>E2 _ _ h,⟨N,E2 _ _ hp,hN⟩,[],d2,e2 _ _ d1,⟨.nil,fun z hz=>by cases hz⟩,⟨gE,fun t ht=>by cases ht⟩⟩ ?_ ?_⟩
  ·rintro i σ H' hi ⟨⟨v4,rfl⟩,kp,⟨N',hp',hN'⟩,ks,h2,h1,rk,tk⟩
   have e0:(0+(i:Int))=(i:Int):=by lia
   have hi':i<pcs.length:=by lia
   have tkl:=tk.len g.w0
   rw[e0]
   refine⟨_,rfl,p,N',3,rfl,hp',hN',by decide,by decide,fun N2 r a1 a2 a3=>?_⟩
   have kp2:Keep H (L2.upd H' p (.lst [.int N2])) p:=fun c o h n=>by rw[jD n]; exact kp c o h n
   have hp2:(L2.upd H' p (.lst [.int N2])) p=some (.lst [.int N2]):=j7
   have h2':(L2.upd H' p (.lst [.int N2])) l2=some (.lst (ks.map V.int)):=by rw[jD l2p]; exact h2
   have h1':(L2.upd H' p (.lst [.int N2])) l=some (.lst ((ks.flatMap (j9 pcs)).map V.int)):=by rw[jD lp]; exact h1
   generalize L2.upd H' p (.lst [.int N2])=H3 at kp2 hp2 h2' h1'
   have rk':Ris (i+1:Nat) ks:=⟨rk.ris,fun z hz=>by have:=rk.bnd z hz; lia⟩
   refine⟨rfl,_,rfl,ite2 (fun _=>?_) (fun _=>iteF ⟨⟨_,rfl⟩,kp2,⟨N2,hp2,a1⟩,ks,h2',h1',rk',tk⟩)⟩
   have TB:Tups H H3:=fun c xs h=>kp2 c _ h (np h)
   refine⟨_,rfl,_,rfl,_,rfl,b,l,w,ms,pcs,i,pcs.getD i ([],0),_,rfl,hB.mono TB,g,by simp [List.getD,hi'],h1',fun H4 e4=>⟨_,rfl,?_⟩⟩
   have kp4:Keep H H4 p:=fun c o h n=>e4 _ _ (kp2 c o h n)
   refine ite2 (fun hz=>?_) (fun _=>⟨⟨_,rfl⟩,kp4,⟨N2,e4 _ _ hp2,a1⟩,ks,e4 _ _ h2',e4 _ _ h1',rk',tk⟩)
   have gp:=g.at hi'
   obtain⟨pa,pq,g1,g2,g3⟩:=jA5 b4 (k:=i) (by lia) (by lia)
   have h24:=e4 _ _ h2'
   have h14:=e4 _ _ h1'
   have kl:ks.length<=32:=by
    have:=yM ks 0 i rk.ris rk.bnd
    lia
   refine⟨_,rfl, .inl ⟨rfl,_,SqL.of h24⟩,_,rfl,l2,_,_,rfl,rfl,h24,by rw[ac,ah]; lia,?_⟩
   have u1:(L2.upd H4 l2 (.lst (ks.map V.int++[.int (i:Int)]))) l=some (.lst ((ks.flatMap (j9 pcs)).map V.int)):=by rw[jD ll]; exact h14
   have u2:(L2.upd H4 l2 (.lst (ks.map V.int++[.int (i:Int)]))) l2=some (.lst ((ks++[(i:Int)]).map V.int)):=by rw[j7,au]; rfl
   have u3:(L2.upd H4 l2 (.lst (ks.map V.int++[.int (i:Int)]))) p=some (.lst [.int N2]):=by rw[jD l2p.symm]; exact e4 _ _ hp2
   have u4:Keep H (L2.upd H4 l2 (.lst (ks.map V.int++[.int (i:Int)]))) p:=fun c o h n=>by rw[jD (nl2 h)]; exact kp4 c o h n
   generalize L2.upd H4 l2 (.lst (ks.map V.int++[.int (i:Int)]))=H5 at u1 u2 u3 u4
   have TB5:Tups H H5:=fun c xs h=>u4 c _ h (np h)
   have lt:=jA2 g (k:=i) (by lia) (by lia)
   refine⟨_,rfl, .inl ⟨rfl,_,SqL.of u1⟩,_,rfl,b,_,2,_,rfl,rfl,SqT.of (TB5 _ _ b1),rfl,_,rfl,qp,_,_,_,rfl,rfl,SqT.of (TB5 _ _ b3),g1,pa,_,0,_,rfl,rfl,SqT.of (TB5 _ _ g2),rfl,l,pq,_,_,rfl,rfl,u1,TB5 _ _ g3,?_,⟨_,rfl⟩,fun c o h n=>?_,⟨N2,?_,a1⟩,ks++[(i:Int)],?_,?_,⟨?_,fun z hz=>?_⟩,?_⟩
   ·rw[ac,ac,ah]
    lia
   ·rw[jD (nl h)]
    exact u4 c o h n
   ·rw[jD lp.symm]
    exact u3
   ·rw[jD ll.symm]
    exact u2
   ·rw[j7,eg,au]
    simp
   ·refine dM.mpr ⟨rk.ris,dz _ _,fun x hx y hy=>?_⟩
    rw[aI.mp hy]
    exact(rk.bnd x hx).2
   ·rcases bv.mp hz with y | y
    ·have:=rk.bnd z y
     lia
    ·rw[aI.mp y]
     lia
   ·have:=tk.more gp hz
    rw[eg]
    have e2: [(i:Int)].flatMap (j9 pcs)=(pcs.getD i ([],0)).1:=by
     rw[dk,fJ,bf]
     unfold j9
     rw[bp]
    rw[e2]
    exact this
  ·rintro σ H3 ⟨⟨v4,rfl⟩,kp,⟨N',hp',hN'⟩,ks,h2,h1,rk,tk⟩
   refine⟨_,rfl,l2,_,rfl, .inl ⟨SqL.of h2,fun r hr=>?_⟩⟩
   refine q r ks N' _ j7 (by rw[pl] at rk; exact rk) tk.nd ?_ hN' fun c o h n=>?_
   ·rw[jD (jF hp' hr)]
    exact hp'
   ·rw[jD (jF (kp c o h n) hr)]
    exact kp c o h n
noncomputable abbrev nMask:List Str:=["lot"]
theorem scMask:FnScope nMask ["lot"] (jA sMask):= {}
def jJ3:Sp:=fun vs H Q _=>∃ (q:Addr) (ts:List Int),vs=[.ref q]/\H q=some (.tup (ts.map V.int))/\(∀ t∈ts,0<=t/\t<64)/\ts.length<=64/\∀ H',Ext H H'->Q (.int ((maskN ts:Nat):Int)) H'
def maskA (T:Txt mg): { t:TS // JSs (XOf nMask "mask_of" sMask P w K mg base f dl A outer s H0 E) (jN sMask) t} :=
 have nd:=scMask.nd
 ⟨_,(jH (kB (jK (jOE rfl) gD T.sum (by decide+kernel) (j4 (kN (m:=[none]) (Nc:=["thing"]) rfl (yP (jv 0 rfl vL)) rfl (by decide+kernel) (by decide+kernel) (jX (psc:=jA sMask)) (jM (N:=nMask) rfl rfl (by decide+kernel)) (fun cl C fp s H=>jQ (i:=0) (show (["thing"]:List Str).Nodup by decide+kernel) rfl yA) (fun cl C fp s H=>kZ) (fun cl C fp s H=>(yK jQZ (jC) (jv 0 rfl jS))) yD) j8 jR) jR)))⟩
theorem jKP (ts:List Int)(h:∀ t∈ts,0<=t):(ts.map fun t=>(1:Int)*2 ^ t.toNat).sum=((maskN ts:Nat):Int):=by
 induction ts with
 | nil=>rfl
 | cons t r ih=>
  have e:maskN (t::r)=2 ^ t.toNat+maskN r:=by simp [maskN]
  rw[bA,List.sum_cons,ih fun x hx=>h x (aA _ hx),e]
  push_cast
  lia
theorem jSQ {fd:FuncData}(F:Fun K "mask_of" "mask_of" sMask f fd)(T:Txt mg):FnOk P w K mg base CX0 1 f fd ["lot"] jJ3:=by
 refine F.ok scMask (fun vs H Q E h=>?_) (fun dl A outer s H vs Q E hr h=>?_)
 ·obtain⟨_,_,rfl,_⟩:=h
  rfl
 ·obtain⟨q,ts,rfl,hq,hb,hl,k⟩:=h
  refine⟨_,(maskA T).2.h,?_⟩
  refine⟨_,rfl,q,rfl,⟨_,SqT.of hq⟩,jAC (xs:=ts.map V.int) (by rw[ac,ah]; lia) (fun D i σ' H' zs=>(∃ v,σ'=[v])/\Ext H H'/\H' D=some (.lst zs)/\H D=none/\zs=((ts.take i).map fun t=>(1:Int)*2 ^ t.toNat).map V.int) ?_ ?_ ?_ ?_⟩
  ·intro D hD
   exact⟨⟨_,rfl⟩,(Ext.refl _).new hD _,j7,hD,rfl⟩
  ·rintro D i σ' H' zs hD ⟨_,e,h2,_,rfl⟩
   refine⟨e _ _ hq,h2,?_⟩
   rw[ac,ac,bg]
   lia
  ·rintro D i σ' H' zs x hD hx ⟨⟨v,rfl⟩,e,h2,hn,rfl⟩
   obtain⟨z,hz,rfl⟩:∃ z:Int,ts[i]?=some z/\V.int z=x:=by
    rw[ay] at hx
    cases hq:ts[i]? with
    | none=>rw[hq] at hx; cases hx
    | some z=>rw[hq] at hx; cases hx; exact⟨z,rfl,rfl⟩
   have hzb:=hb z (aB hz)
   dsimp only [kI,yG]
   rw[aD rfl]
   refine⟨_,rfl,_,_,rfl,rfl,⟨?_,?_,?_⟩,h2,⟨_,rfl⟩,e.updNew hn _,j7,hn,?_⟩
   ·first | lia | decide
   ·first | lia | decide
   ·first | lia | decide
   ·have:ts.take (i+1)=ts.take i++[z]:=by
     rw[aJ,hz]
     rfl
    rw[this,au,au]
    rfl
  ·rintro D σ' H' zs hD ⟨_,e,h2,hn,rfl⟩
   refine⟨D,_,rfl,SqL.of h2,?_⟩
   rw[ac,aO,jKP ts fun t ht=>(hb t ht).1]
   exact k H' e
def jCJ:Sp:=fun vs H Q _=>∃ (b qm:Addr) (x3:V) (w:Int) (mays:List Int),vs=[.ref b]/\H b=some (.tup [.int w, .ref qm,x3])/\H qm=some (.tup (mays.map V.int))/\0<=w/\w<=1000/\∀ l,H l=none->Q (.ref l) (upd H l (.lst ((mus mays w.toNat).map V.int)))
abbrev jMS:List Str:=["box","mays"]
theorem scMusts:FnScope jMS ["box"] (jA jD1):= {}
def jUM (T:Txt mg): { t:TS // JSs (XOf jMS "musts_of" jD1 P w K mg base f dl A outer s H0 E) (jN jD1) t} :=
 have nd:=scMusts.nd
 ⟨_,(jB (jT (i:=1) nd rfl yX (jJ jL (jv 0 rfl vL) (jC) jE) jDS)
   (jH (kB (kN (m:=[none,some 1]) (Nc:=["thing","mays"]) rfl (kX gD T.range (j4 (jJ jL (jv 0 rfl vL) (jC) jE) j8 jI) jI) rfl (by decide+kernel) (by decide+kernel) (jX (psc:=jA jD1)) (jM (N:=jMS) rfl rfl (by decide+kernel)) (fun cl C fp s H=>jQ (i:=0) (show (["thing","mays"]:List Str).Nodup by decide+kernel) rfl yA) (fun cl C fp s H=>yI (jY jBQ (jv 0 rfl jS) (jv 1 rfl jZ) yN)) (fun cl C fp s H=>(jv 0 rfl jS)) kQ))))⟩
theorem jPK {fd:FuncData}(F:Fun K "musts_of" "musts_of" jD1 f fd)(T:Txt mg):FnOk P w K mg base CX0 1 f fd ["box"] jCJ:=by
 refine F.ok scMusts (fun vs H Q E h=>?_) (fun dl A outer s H vs Q E hr h=>?_)
 ·obtain⟨_,_,_,_,_,rfl,_⟩:=h
  rfl
 ·obtain⟨b,qm,x3,w,mays,rfl,hb,hm,w0,w1,q⟩:=h
  refine⟨_,(jUM T).2.h,?_⟩
  refine⟨_,rfl,b,_,1,_,rfl,rfl,SqT.of hb,rfl,?_⟩
  refine⟨_,rfl,b,_,0,_,rfl,rfl,SqT.of hb,rfl,w,rfl,by lia,by lia,jAD (n:=w.toNat) (by rw[ah]; lia) (fun D i σ' H' ys=>(∃ v,σ'=[v,some (.ref qm)])/\ys=(mus mays i).map V.int/\H'=upd H D (.lst ys)) ?_ ?_ ?_ ?_⟩
  ·intro D hD
   exact⟨⟨_,rfl⟩,rfl,rfl⟩
  ·rintro D i σ' H' ys hD hi ⟨_,rfl,rfl⟩
   exact⟨j7,by rw[ac]; exact jMY _ _⟩
  ·rintro D i σ' H' ys hD hi ⟨⟨v,rfl⟩,rfl,rfl⟩
   have e0:(0+(i:Int))=(i:Int):=by lia
   refine⟨_,rfl,_,rfl,qm,_,rfl, .inr (SqT.of (by rw[jD (jF hm hD)]; exact hm)),rfl,kL mays,_,rfl,?_⟩
   rw[e0,kU]
   refine ite2 (fun hz=>?_) (fun hz=>?_)
   ·rw[aD rfl] at hz
    refine⟨_,rfl,j7,⟨_,rfl⟩,?_,jBB⟩
    rw[jJK,aD hz,au]
    rfl
   ·rw[aD rfl] at hz
    refine⟨⟨_,rfl⟩,?_,rfl⟩
    rw[jJK,aF hz,bf]
  ·rintro D σ' H' ys hD ⟨_,rfl,rfl⟩
   exact q D hD
def qR (pcs:List (List Int×Int))(ds:List Int)(t:Int):List Int:=(upto pcs.length).filter fun k=>decide (t∈j9 pcs k)&&fitS ds (pcs.getD k.toNat ([],0))
def cand (ms:List Int)(pcs:List (List Int×Int))(ds:List Int)(n:Nat):Bool:=!decide ((n:Int)∈ms)&&decide ((qR pcs ds n).length=1)
def nxt (wi:Nat)(ms:List Int)(pcs:List (List Int×Int))(ds:List Int):Option (Int×Int):=((List.range wi).find? (cand ms pcs ds)).map fun (n:Nat)=>((n:Int),(qR pcs ds (n:Int)).headD 0)
theorem jJF {wi:Nat}{ms:List Int}{pcs:List (List Int×Int)}{ds:List Int}(h:∀ n,n<wi->cand ms pcs ds n=false):nxt wi ms pcs ds=none:=by
 have:(List.range wi).find? (cand ms pcs ds)=none:=gI.mpr fun n hn=>by rw[h n (bc.mp hn)]; exact ar
 unfold nxt
 rw[this]
 rfl
theorem jJE {wi:Nat}{ms:List Int}{pcs:List (List Int×Int)}{ds:List Int}{n:Nat}{k:Int}(hn:n<wi)(hc:cand ms pcs ds n=true)(hk:qR pcs ds n=[k])(h:∀ j,j<n->cand ms pcs ds j=false):nxt wi ms pcs ds=some ((n:Int),k):=by
 have:(List.range wi).find? (cand ms pcs ds)=some n:=g5.mpr ⟨hc,bc.mpr hn,fun j hj=>by rw[h j hj]; rfl⟩
 unfold nxt
 rw[this]
 show some ((n:Int),(qR pcs ds n).headD 0)=_
 rw[hk]
 rfl
theorem mus_mem {ms:List Int}{n:Nat}{u:Int} :u∈mus ms n↔0<=u/\u<n/\¬ u∈ms:=by
 unfold mus
 rw[aV]
 constructor
 ·rintro ⟨k,hk,rfl⟩
  obtain⟨h1,h2⟩:=aW.mp hk
  have:=bc.mp h1
  rw[b8,cm] at h2
  exact⟨by lia,by lia,h2⟩
 ·rintro ⟨h0,h1,h2⟩
  refine⟨u.toNat,aW.mpr ⟨bc.mpr (by lia),?_⟩,by lia⟩
  rw[b8,cm,show ((u.toNat:Nat):Int)=u by lia]
  exact h2
theorem jSX (ms:List Int)(n:Nat):(mus ms n).Pairwise (· < ·):=by
 unfold mus
 rw[dj]
 exact(fg.filter _).imp fun {a b} h=>by lia
theorem jV7 {l:List Int}{i:Nat}{u v:Int}(hp:l.Pairwise (· < ·))(hu:l[i]?=some u)(hv:v∈l)(h:v<u):v∈l.take i:=by
 obtain⟨hi,e⟩:=av.mp hu
 have s:l=l.take i++(u::l.drop (i+1)):=by
  rw[<- e,ii,cW]
 rw[s] at hv hp
 rcases bv.mp hv with q | q
 ·exact q
 ·exfalso
  have p2:=(dM.mp hp).2.1
  rcases az.mp q with q | q
  ·lia
  ·have:=(cC.mp p2).1 v q
   lia
def outM (pcs:List (List Int×Int))(dn:Nat)(n:Nat):List Int:=((upto pcs.length).take n).filter fun k=>fitM dn (pcs.getD k.toNat ([],0))
theorem jJC (pcs:List (List Int×Int))(dn n:Nat):(outM pcs dn n).length<=n:=by
 unfold outM
 refine aQ (aY _ _) ?_
 rw[bg]
 lia
theorem jT9 {pcs:List (List Int×Int)}{i:Nat}{pc:List Int×Int}(h:pcs[i]?=some pc):pcs.getD i ([],0)=pc:=by
 rw[aC,h]
 rfl
theorem jGT {pcs:List (List Int×Int)}{dn j:Nat}{pc:List Int×Int}(h:pcs[j]?=some pc):outM pcs dn (j+1)=outM pcs dn j++(if fitM dn pc=true then [(j:Int)] else []):=by
 unfold outM
 rw[jDQ (av.mp h).1,bn]
 congr 1
 have e:((j:Nat):Int).toNat=j:=by lia
 rw[bW,e,jT9 h]
 split <;> rfl
theorem jM7 {pcs:List (List Int×Int)}{dn:Nat}{ds:List Int}{mt mp wi:Int}{ms:List Int}(hd:Done dn ds)(g:Good mt mp wi ms pcs)(t:Int):(outM pcs dn pcs.length).filter (fun k=>decide (t∈j9 pcs k))=qR pcs ds t:=by
 unfold outM qR
 have e:(upto pcs.length).take pcs.length=upto pcs.length:=by
  have:=aO (l:=upto pcs.length)
  rw[kJ] at this
  exact this
 rw[e,List.filter_filter]
 refine List.filter_congr fun k hk=>?_
 have hk:0<=k/\k<pcs.length:=by
  unfold upto at hk
  obtain⟨n,hn,rfl⟩:=aV.mp hk
  have:=bc.mp hn
  lia
 have hkn:k.toNat<pcs.length:=by lia
 rw[jQB hd (g.at hkn)]
theorem jPD {pcs:List (List Int×Int)}{dn n:Nat}{k:Int}(h:k∈outM pcs dn n):0<=k/\k<pcs.length:=by
 have h:=bS (aW.mp h).1
 unfold upto at h
 obtain⟨n,hn,rfl⟩:=aV.mp h
 have:=bc.mp hn
 lia
abbrev jGX:List Str:=["box","held","outside","must","holders"]
theorem scFNext:FnScope jGX ["box","held"] (jA jBV):= {}
def jJ2:Sp:=fun vs H Q _=>∃ (b:Addr) (wi:Int) (ms:List Int) (pcs:List (List Int×Int)) (dn:Nat) (ds:List Int),vs=[.ref b, .int (dn:Int)]/\BoxAt H b wi ms pcs/\Good 16 32 wi ms pcs/\Done dn ds/\
 (nxt wi.toNat ms pcs ds=none->∀ H',Ext H H'->Q .non H')/\∀ t k,nxt wi.toNat ms pcs ds=some (t,k)->∀ a H',H' a=some (.tup [.int t, .int k])->Ext H H'->Q (.ref a) H'
def nextA (T:Txt mg)(CM:Can P w K mg base "mask_of" 1 fM fdM ["lot"] jJ3)(CU:Can P w K mg base "musts_of" 1 fU fdU ["box"] jCJ)(hr:Room 1 (XOf jGX "forced_next" jBV P w K mg base f dl A outer s H0 E).A): { t:TS // JSs (XOf jGX "forced_next" jBV P w K mg base f dl A outer s H0 E) (jN jBV) t} :=
 have nd:=scFNext.nd
 ⟨_,(jB (jCR (i:=2) nd rfl lL ⟨by rfl⟩ (m:=[none,none,some 1]) (Nc:=["number","piece","held"]) rfl (jG2 gD T.enumerate (j4 (jJ jL (jv 0 rfl vC) (jC) jE) j8 jI) jI) rfl (by decide+kernel) (by decide+kernel) (jX (psc:=jA jBV)) (jM (N:=jGX) rfl rfl (by decide+kernel)) (fun cl C fp s H=>jBH (i:=0) (j:=1) rfl (show (["number","piece","held"]:List Str).Nodup by decide+kernel) rfl rfl (by decide+kernel) (by decide+kernel)) (fun cl C fp s H=>yI (jY qX (yK jR0 (CM.je hr gl_b (j4 (jJ kD (jv 1 rfl jS) (jC) jE) j8 jI) jI) (jv 2 rfl jZ)) (jC) (kT _))) (fun cl C fp s H=>(jv 0 rfl jS)) kQ)
   (jB (qS bB rfl (jB8 (CU.je hr gD (j4 (jv 0 rfl vC) j8 j6) j6)) (jQ (i:=3) nd rfl yX) (jB (jCR (i:=4) nd rfl lL ⟨by rfl⟩ (m:=[none,some 3,some 0]) (Nc:=["number","must","box"]) rfl (jB8 (jv 2 rfl vL)) rfl (by decide+kernel) (by decide+kernel) (jX (psc:=jA jBV)) (jM (N:=jGX) rfl rfl (by decide+kernel)) (fun cl C fp s H=>jQ (i:=0) (show (["number","must","box"]:List Str).Nodup by decide+kernel) rfl yA) (fun cl C fp s H=>yI (jY jAU (jv 1 rfl jZ) (jJ kD (jJ kD (jJ kD (jv 2 rfl jZ) (jC) jE) (jv 0 rfl jS) y9) (jC) jE) jE2)) (fun cl C fp s H=>(jv 0 rfl jS)) yD)
   (jH (yJ (jY qX (jK jV gD T.len (by decide+kernel) (j4 (jv 4 rfl vL) j8 j6) j6) (jC) (kT _)) (jH (kB (kR (j4 (jv 3 rfl vC) (j4 (jJ jB9 (jv 4 rfl vL) (jC) jE) j8 jI) j6)))) kP))) kQ)
   (jH (kB (jBW)))))⟩
theorem jSP {fd:FuncData}(F:Fun K "forced_next" "forced_next" jBV f fd)(T:Txt mg)(CM:Can P w K mg base "mask_of" 1 fM fdM ["lot"] jJ3)(CU:Can P w K mg base "musts_of" 1 fU fdU ["box"] jCJ):FnOk P w K mg base CX0 2 f fd ["box","held"] jJ2:=by
 refine F.ok scFNext (fun vs H Q E h=>?_) (fun dl A outer s H vs Q E hr h=>?_)
 ·obtain⟨_,_,_,_,_,_,rfl,_⟩:=h
  rfl
 ·obtain⟨b,wi,ms,pcs,dn,ds,rfl,hB,g,hd,k0,k1⟩:=h
  obtain⟨qm,qp,ps,b1,b2,b3,b4⟩:=hB.ex
  have pl:=b4.len
  have gl:=g.pl
  have w0:=g.w0
  have w1:=g.w1
  refine⟨_,(nextA T CM CU hr).2.h,?_⟩
  refine⟨_,rfl,b,_,2,_,rfl,rfl,SqT.of b1,rfl,true,qp,rfl,⟨_,SqT.of b3⟩,jCG (tp:=true) (xs:=ps) (by rw[ah]; lia) (fun D j σ' H' zs=>(∃ v1 v2,σ'=[v1,v2,some (.int (dn:Int))])/\zs=(outM pcs dn j).map V.int/\Ext H H'/\H' D=some (.lst zs)/\H D=none) ?_ ?_ ?_ ?_⟩
  ·intro D hD
   exact⟨⟨_,_,rfl⟩,rfl,(Ext.refl _).new hD _,j7,hD⟩
  ·rintro D j σ' H' zs hD ⟨_,rfl,e,h2,_⟩
   exact⟨SqT.of (e _ _ b3),h2,by rw[ac]; exact jJC _ _ _⟩
  ·rintro D j σ' H' zs x t hD hx ht ⟨⟨v1,v2,rfl⟩,rfl,e,h2,hn⟩
   obtain⟨pc,hpc,hPc⟩:=b4.at hx
   obtain⟨pa,pq,rfl,c1,c2⟩:=id hPc
   have gp:=g.pg pc (aB hpc)
   have lt:=yM _ 0 wi gp.lot.ris gp.lot.bnd
   have tD:D≠t:=jF h2 ht
   have e':=e.new ht (.tup [.int (j:Int), .ref pa])
   have h2':(upd H' t (.tup [.int (j:Int), .ref pa])) D=some (.lst ((outM pcs dn j).map V.int)):=by rw[jD tD]; exact h2
   refine⟨t,_,rfl,SqT.of j7,rfl,_,_,rfl,_,_,rfl,rfl,?_⟩
   generalize upd H' t (.tup [.int (j:Int), .ref pa])=H5 at e' h2' ⊢
   refine⟨_,rfl,pa,_,0,_,rfl,rfl,SqT.of (e' _ _ c1),rfl,pq,pc.1,rfl,e' _ _ c2,fun t ht=>?_,by lia,fun H3 e3=>?_⟩
   ·have:=gp.lot.bnd t ht
    lia
   refine⟨_,rfl,_,_,rfl,rfl,rfl,_,rfl,?_⟩
   have ez:decide (V.int (Builtin.bitAnd ((maskN pc.1:Nat):Int) (dn:Int))=V.int 0)=fitM dn pc:=by
    unfold fitM
    rw[jL9,bq,bo,bo]
    exact⟨fun h=>by have:=V.int.inj h; lia,fun h=>by rw[h]; rfl⟩
   show if decide (V.int (Builtin.bitAnd ((maskN pc.1:Nat):Int) (dn:Int))=V.int 0)=true then _ else _
   rw[ez]
   have h23:=e3 _ _ h2'
   refine ite2 (fun h1=>?_) (fun h1=>?_)
   ·refine⟨_,rfl,h23,⟨_,_,rfl⟩,?_,(e'.trans e3).updNew hn _,j7,hn⟩
    rw[jGT hpc,aD h1,au]
    rfl
   ·refine⟨⟨_,_,rfl⟩,?_,e'.trans e3,h23,hn⟩
    rw[jGT hpc,aF h1,bf]
  ·rintro D σ' H1 zs hD ⟨_,rfl,e1,h2,hn⟩
   rw[pl] at h2
   refine⟨_,rfl,b,qm,_,wi,ms,rfl,e1 _ _ b1,e1 _ _ b2,w0,by lia,fun l hl=>?_⟩
   have e2:=e1.new hl (.lst ((mus ms wi.toNat).map V.int))
   have hD2:(upd H1 l (.lst ((mus ms wi.toNat).map V.int))) D=some (.lst ((outM pcs dn pcs.length).map V.int)):=by rw[jD (jF h2 hl)]; exact h2
   have hl2:(upd H1 l (.lst ((mus ms wi.toNat).map V.int))) l=some (.lst ((mus ms wi.toNat).map V.int)):=j7
   generalize upd H1 l (.lst ((mus ms wi.toNat).map V.int))=H2 at e2 hD2 hl2 ⊢
   refine⟨l,rfl,⟨_,SqL.of hl2⟩,jG6 (xs:=(mus ms wi.toNat).map V.int) (fun i σ H'=>(∃ v3 v4,σ=[some (.ref b),some (.int (dn:Int)),some (.ref D),v3,v4])/\Ext H2 H'/\∀ n:Nat,(n:Int)∈(mus ms wi.toNat).take i->cand ms pcs ds n=false) ⟨⟨_,_,rfl⟩,Ext.refl _,fun n hn=>by cases hn⟩ (fun i σ H' _ ⟨_,e,_⟩=>SqL.of (e _ _ hl2)) ?_ ?_⟩
   ·rintro i x σ H' hx ⟨⟨v3,v4,rfl⟩,e,hnc⟩
    obtain⟨u,hu,rfl⟩:∃ z:Int,(mus ms wi.toNat)[i]?=some z/\V.int z=x:=by
     rw[ay] at hx
     cases hq:(mus ms wi.toNat)[i]? with
     | none=>rw[hq] at hx; cases hx
     | some z=>rw[hq] at hx; cases hx; exact⟨z,rfl,rfl⟩
    have hum:=mus_mem.mp (aB hu)
    have E2:=e2.trans e
    refine⟨_,rfl,D,rfl,⟨_,SqL.of (e _ _ hD2)⟩,jQH (xs:=(outM pcs dn pcs.length).map V.int) (by rw[ac,ah]; have:=jJC pcs dn pcs.length; lia) (fun D2 j σ' H'' zs=>(∃ v,σ'=[v,some (.int u),some (.ref b)])/\zs=(((outM pcs dn pcs.length).take j).filter fun k=>decide (u∈j9 pcs k)).map V.int/\Ext H' H''/\H'' D2=some (.lst zs)/\H' D2=none) ?_ ?_ ?_ ?_⟩
    ·intro D2 hD2
     exact⟨⟨_,rfl⟩,rfl,(Ext.refl _).new hD2 _,j7,hD2⟩
    ·rintro D2 j σ' H'' zs _ ⟨_,rfl,e3,h3,_⟩
     refine⟨e3 _ _ (e _ _ hD2),h3,?_⟩
     rw[ac]
     refine aQ (aY _ _) ?_
     rw[bg]
     lia
    ·rintro D2 j σ' H'' zs x _ hx ⟨⟨v,rfl⟩,rfl,e3,h3,hn3⟩
     obtain⟨z,hz,rfl⟩:∃ z:Int,(outM pcs dn pcs.length)[j]?=some z/\V.int z=x:=by
      rw[ay] at hx
      cases hq:(outM pcs dn pcs.length)[j]? with
      | none=>rw[hq] at hx; cases hx
      | some z=>rw[hq] at hx; cases hx; exact⟨z,rfl,rfl⟩
     obtain⟨z0,z1⟩:=jPD (aB hz)
     obtain⟨pa,pq,wt,at1,c1,c2⟩:=jP6 b4 z0 z1
     have E3:=E2.trans e3
     have tk:(outM pcs dn pcs.length).take (j+1)=(outM pcs dn pcs.length).take j++[z]:=by
      rw[aJ,hz]
      rfl
     refine⟨_,rfl,_,rfl,b,_,2,_,rfl,rfl,SqT.of (E3 _ _ b1),rfl,_,rfl,qp,_,_,_,rfl,rfl,SqT.of (E3 _ _ b3),at1,pa,_,0,_,rfl,rfl,SqT.of (E3 _ _ c1),rfl,pq,_,rfl, .inr (SqT.of (E3 _ _ c2)),rfl,kL _,_,rfl,?_⟩
     have ein:inV (.int u) ((j9 pcs z).map V.int)=decide (u∈j9 pcs z):=kU _ _
     show if inV (.int u) ((j9 pcs z).map V.int)=true then _ else _
     rw[ein]
     refine ite2 (fun hy=>?_) (fun hy=>?_)
     ·refine⟨_,rfl,h3,⟨_,rfl⟩,?_,e3.updNew hn3 _,j7,hn3⟩
      rw[tk,bn,List.filter_cons_of_pos (p:=fun k=>decide (u∈j9 pcs k)) (a:=z) hy,au]
      rfl
     ·refine⟨⟨_,rfl⟩,?_,e3,h3,hn3⟩
      rw[tk,bn,List.filter_cons_of_neg (p:=fun k=>decide (u∈j9 pcs k)) (a:=z) hy,List.filter_nil,bf]
    ·rintro D2 σ' H3 zs _ ⟨_,rfl,e3,h3,hn3⟩
     rw[ac,aO,jM7 hd g] at h3
     have hle:(qR pcs ds u).length<=pcs.length:=by
      unfold qR
      refine aQ (aY _ _) ?_
      rw[kJ]
      exact ai _
     have eu:((u.toNat:Nat):Int)=u:=by lia
     refine⟨_,rfl,D2,_,rfl, .inl (SqL.of h3),rfl,_,rfl,ite2 (fun h1=>?_) (fun h1=>?_)⟩
     ·have h1:(qR pcs ds u).length=1:=by
       have:=V.int.inj (aq h1)
       rw[ac] at this
       lia
      obtain⟨kk,hk⟩:=fj.mp h1
      rw[hk] at h3
      refine⟨_,rfl,_,rfl,D2,_,0,_,rfl,rfl,SqL.of h3,rfl,(by show 2<=sizeLine; decide),fun a H4 y4 x4=>?_⟩
      refine k1 u kk ?_ a H4 y4 ((E2.trans e3).trans x4)
      have:=jJE (wi:=wi.toNat) (ms:=ms) (pcs:=pcs) (ds:=ds) (n:=u.toNat) (k:=kk) (by lia) (by
       unfold cand
       rw[eu,ao h1,aN hum.2.2]
       rfl) (by rw[eu]; exact hk) fun j hj=>?_
      ·rw[eu] at this
       exact this
      ·by_cases hm:(j:Int)∈ms
       ·unfold cand
        rw[ao hm]
        rfl
       ·exact hnc j (jV7 (jSX _ _) hu (mus_mem.mpr ⟨by lia,by lia,hm⟩) (by lia))
     ·refine⟨⟨_,_,rfl⟩,e.trans e3,fun n hn=>?_⟩
      have tk:(mus ms wi.toNat).take (i+1)=(mus ms wi.toNat).take i++[u]:=by
       rw[aJ,hu]
       rfl
      rw[tk] at hn
      rcases bv.mp hn with q | q
      ·exact hnc n q
      ·have q:(n:Int)=u:=aI.mp q
       unfold cand
       rw[q]
       have:¬ (qR pcs ds u).length=1:=fun z=>h1 (ao (by rw[ac,z]; rfl))
       rw[aN this,bP]
   ·rintro σ H' ⟨⟨v3,v4,rfl⟩,e,hnc⟩
    refine k0 (jJF fun n hn=>?_) H' (e2.trans e)
    by_cases hm:(n:Int)∈ms
    ·unfold cand
     rw[ao hm]
     rfl
    ·refine hnc n ?_
     rw[ac,aO]
     exact mus_mem.mpr ⟨by lia,by lia,hm⟩
theorem jOV {n:Nat}{t:Int}(h0:0<=t)(h1:t<n):(((upto n).idxOf t:Nat):Int)=t:=by
 have e:t=(upto n)[t.toNat]'(by rw[kJ]; lia):=by
  have:=yC (n:=n) (i:=t.toNat) (by lia)
  rw[aK (by rw[kJ]; lia)] at this
  rw[be this]
  lia
 have:=(jBK n).idxOf_getElem t.toNat (by rw[kJ]; lia)
 rw[<- e] at this
 lia
theorem jJH {n:Nat}{lot:List Int}(r:lot.Pairwise (· < ·))(hb:∀ t∈lot,0<=t/\t<n):nmd (upto n) lot=lot:=by
 rw[jE1 (yS n).ris r,jJ9 fun t ht=>mem_upto.mpr (hb t ht)]
 refine(bZ fun t ht=>jOV (hb t ht).1 (hb t ht).2).trans ?_
 exact gf _
def LotAt (H:Hp)(v:V)(ts:List Int):Prop:=∃ q,v= .ref q/\H q=some (.tup (ts.map V.int))
def LotsAt (H:Hp):List V->List (List Int)->Prop
 | [],[]=>True
 | v::vs,p::ps=>LotAt H v p/\LotsAt H vs ps
 | _,_=>False
theorem LotAt.mono {H H':Hp}{v:V}{p:List Int}(h:LotAt H v p)(t:TupsK H H'):LotAt H' v p:=let ⟨a,e,q⟩:=h; ⟨a,e,t _ _ q⟩
theorem LotsAt.mono {H H':Hp}(t:TupsK H H'):∀ {vs:List V}{ps:List (List Int)},LotsAt H vs ps->LotsAt H' vs ps
 | [],[],_=>trivial
 | _::_,_::_,h=>⟨h.1.mono t,LotsAt.mono t h.2⟩
 | [],_::_,h=>h.elim
 | _::_,[],h=>h.elim
theorem LotsAt.len {H:Hp} :∀ {vs:List V}{ps:List (List Int)},LotsAt H vs ps->vs.length=ps.length
 | [],[],_=>rfl
 | _::_,_::_,h=>cg (· +1) (LotsAt.len h.2)
 | [],_::_,h=>h.elim
 | _::_,[],h=>h.elim
theorem LotsAt.at {H:Hp} :∀ {vs:List V}{ps:List (List Int)},LotsAt H vs ps->∀ {i:Nat}{v:V},vs[i]?=some v->∃ p,ps[i]?=some p/\LotAt H v p
 | v::vs,p::ps,h,0,_,e=>by cases e; exact⟨p,rfl,h.1⟩
 | v::vs,p::ps,h,i+1,_,e=>LotsAt.at h.2 (i:=i) e
 | [],[],_,_,_,e=>by cases e
 | [],_::_,h,_,_,_=>h.elim
 | _::_,[],h,_,_,_=>h.elim
theorem LotsAt.snoc {H:Hp}{v:V}{p:List Int}(hv:LotAt H v p):∀ {vs:List V}{ps:List (List Int)},LotsAt H vs ps->LotsAt H (vs++[v]) (ps++[p])
 | [],[],_=>⟨hv,trivial⟩
 | _::_,_::_,h=>⟨h.1,LotsAt.snoc hv h.2⟩
 | [],_::_,h=>h.elim
 | _::_,[],h=>h.elim
def qP (pcs:List (List Int×Int))(t:Int):List (List Int):=(pcs.filter fun p=>decide (t∈p.1)).map (·.1)
def holdZ (pcs:List (List Int×Int))(t:Int):Hp->List V->Nat->Prop:=fun H zs j=>LotsAt H zs (qP (pcs.take j) t)
theorem holdZ.ok (pcs:List (List Int×Int))(t:Int):ZOk (holdZ pcs t):=⟨fun _=>trivial,fun _ _ _ _ k h=>LotsAt.mono k h,fun _ zs j h=>by
 rw[LotsAt.len h]
 unfold qP
 rw[ac]
 exact aQ (aY _ _) (aX _ _)⟩
theorem jHD (pcs:List (List Int×Int))(t:Int):(qP pcs t).length<=pcs.length:=by
 unfold qP
 rw[ac]
 exact aY _ _
theorem jHC {pcs:List (List Int×Int)}{t:Int}{j:Nat}{p:List Int×Int}(h:pcs[j]?=some p)(hp:t∈p.1):qP (pcs.take (j+1)) t=qP (pcs.take j) t++[p.1]:=by
 unfold qP
 rw[aJ,h,bn,au]
 simp [hp]
theorem jJY {pcs:List (List Int×Int)}{t:Int}{j:Nat}{p:List Int×Int}(h:pcs[j]?=some p)(hp:¬ t∈p.1):qP (pcs.take (j+1)) t=qP (pcs.take j) t:=by
 unfold qP
 rw[aJ,h,bn,au]
 simp [hp]
def jCA (pcs:List (List Int×Int))(lot:List Int)(m:Int):Bool:=lot.any fun x=>(qP pcs m).all fun h=>decide (x∈h)
def xB (w:Int)(ms:List Int)(pcs:List (List Int×Int))(lot:List Int):Bool:=((mus ms w.toNat).filter fun m=>!decide (m∈lot)).any fun m=>jCA pcs lot m
theorem jNP {m:List (Option Nat)}{σ:St}{H:Hp}{Q:VK}{qp:Addr}{ps:List V}{pcs:List (List Int×Int)}{t:Int}(h3:H qp=some (.tup ps))(h4:PcsAt H ps pcs)(hl:pcs.length<=32)(h0:blkσ m σ=[none,some (.int t)])
  (q:∀ D H' zs,H' D=some (.lst zs)->LotsAt H' zs (qP pcs t)->Ext H H'->H D=none->Q (.ref D) H'):qE m (kI 0) (tTest (tOp (rIn K false) (tVar 1) (tOp (rIxT K) (tVar 0) (tC (V.int 0))))) (tOp (rIxT K) (tVar 0) (tC (V.int 0))) σ Q (Itt K qp) H:=by
 refine jAP (xs:=ps) (fun σ'=>∃ v,σ'=[v,some (.int t)]) (holdZ pcs t) (holdZ.ok _ _) h3 (by rw[h4.len,ah]; lia) ⟨_,h0⟩ ?_ fun D H' zs hD e hn hz=>q D H' zs hD (by rw[h4.len] at hz; unfold holdZ at hz; rw[aO] at hz; exact hz) e hn
 rintro j x σ' H' zs hx ⟨v,rfl⟩ e hz R S hR hS
 obtain⟨pc,hpc,pa,pq,rfl,c1,c2⟩:=h4.at hx
 dsimp only [kI]
 refine⟨_,rfl,_,rfl,pa,_,0,_,rfl,rfl,SqT.of (e _ _ c1),rfl,pq,_,rfl, .inr (SqT.of (e _ _ c2)),rfl,kL _,_,rfl,?_⟩
 rw[kU]
 refine ite2 (fun hz2=>?_) (fun hz2=>?_)
 ·have ht:t∈pc.1:=aq hz2
  refine⟨_,rfl,pa,_,0,_,rfl,rfl,SqT.of (e _ _ c1),rfl,hR _ _ _ ⟨_,rfl⟩ (Ext.refl _) ?_⟩
  unfold holdZ
  rw[jHC hpc ht]
  exact LotsAt.snoc ⟨pq,rfl,e _ _ c2⟩ hz
 ·have ht:¬ t∈pc.1:=fun y=>hz2 (ao y)
  refine hS _ _ ⟨_,rfl⟩ (Ext.refl _) ?_
  unfold holdZ
  rw[jJY hpc ht]
  exact hz
theorem jKY {m:List (Option Nat)}{σ:St}{H:Hp}{Q:VK}{l:Addr}{zs:List V}{ls:List (List Int)}{x:Int}(hl:H l=some (.lst zs))(hz:LotsAt H zs ls)(hn:ls.length<=100)(h0:blkσ m σ=[none,some (.int x)])
  (q:∀ D H',H' D=some (.lst ((ls.map fun h=>decide (x∈h)).map V.bl))->Ext H H'->H D=none->Q (.ref D) H'):qE m (kI 0) yG (tOp (rIn K false) (tVar 1) (tVar 0)) σ Q (Itl K l) H:=by
 refine jCF (xs:=zs) (fun σ'=>∃ v,σ'=[v,some (.int x)]) (mapZ (ls.map fun h=>decide (x∈h)) V.bl) (mapZ.ok _ _) hl (by rw[hz.len,ah]; lia) ⟨_,h0⟩ ?_ fun D H' ys hD e hn2 hy=>q D H' (by rw[hD,hy.all (by rw[ac,hz.len]; exact ai _)]) e hn2
 rintro j v σ' H' ys hx ⟨v',rfl⟩ e hy R S hR hS
 obtain⟨p,hp,qa,rfl,c⟩:=hz.at hx
 dsimp only [kI,yG]
 rw[aD rfl]
 refine⟨_,rfl,_,rfl,qa,_,rfl, .inr (SqT.of (e _ _ c)),rfl,kL _,hR _ _ _ ⟨_,rfl⟩ (Ext.refl _) ?_⟩
 rw[kU]
 exact hy.yes (by rw[ay,hp]; rfl)
noncomputable abbrev nIdle:List Str:=["box","number","held","must","holders"]
theorem scIdle:FnScope nIdle ["box","number"] (jA xH):= {}
def jCZ:Sp:=fun vs H Q _=>∃ (b:Addr) (k w:Int) (ms:List Int) (pcs:List (List Int×Int)),vs=[.ref b, .int k]/\BoxAt H b w ms pcs/\Good 16 32 w ms pcs/\0<=k/\k<pcs.length/\∀ H',Ext H H'->Q (.bl (xB w ms pcs (j9 pcs k))) H'
def idleA (T:Txt mg)(CU:Can P w K mg base "musts_of" 1 fU fdU ["box"] jCJ)(hr:Room 1 (XOf nIdle "is_idle" xH P w K mg base f dl A outer s H0 E).A): { t:TS // JSs (XOf nIdle "is_idle" xH P w K mg base f dl A outer s H0 E) (jN xH) t} :=
 have nd:=scIdle.nd
 ⟨_,(jB (jT (i:=2) nd rfl yX (jJ jL (jJ jL (jJ jL (jv 0 rfl vL) (jC) jE) (jv 1 rfl vL) y9) (jC) jE) jDS)
   (jB (qS bB rfl (jB8 (kN (m:=[none,some 2]) (Nc:=["thing","held"]) rfl (jB8 (CU.je hr gD (j4 (jv 0 rfl vL) j8 j6) j6)) rfl (by decide+kernel) (by decide+kernel) (jX (psc:=jA xH)) (jM (N:=nIdle) rfl rfl (by decide+kernel)) (fun cl C fp s H=>jQ (i:=0) (show (["thing","held"]:List Str).Nodup by decide+kernel) rfl yA) (fun cl C fp s H=>yI (jY jBQ (jv 0 rfl jS) (jv 1 rfl jZ) yN)) (fun cl C fp s H=>(jv 0 rfl jS)) kQ)) (jQ (i:=3) nd rfl yX) (jB (jNC (i:=4) nd rfl yX (kN (m:=[none,some 3]) (Nc:=["piece","must"]) rfl (yP (jJ jL (jv 0 rfl vL) (jC) jE)) rfl (by decide+kernel) (by decide+kernel) (jX (psc:=jA xH)) (jM (N:=nIdle) rfl rfl (by decide+kernel)) (fun cl C fp s H=>jQ (i:=0) (show (["piece","must"]:List Str).Nodup by decide+kernel) rfl yA) (fun cl C fp s H=>yI (jY jAU (jv 1 rfl jZ) (jJ kD (jv 0 rfl jS) (jC) jE) jE2)) (fun cl C fp s H=>(jJ kD (jv 0 rfl jS) (jC) jE)) jF5) (by rfl))
   (jH (yJ (qG (jK (jBI rfl) gD T.any (by decide+kernel) (j4 (jJW (m:=[none,some 4]) (Nc:=["thing","holders"]) rfl (yP (jv 2 rfl vC)) rfl (by decide+kernel) (by decide+kernel) (jX (psc:=jA xH)) (jM (N:=nIdle) rfl rfl (by decide+kernel)) (fun cl C fp s H=>jQ (i:=0) (show (["thing","holders"]:List Str).Nodup by decide+kernel) rfl (jN4 (by decide+kernel))) (fun cl C fp s H=>kZ) (fun cl C fp s H=>(jK (jHO rfl) (gl_bC (by decide+kernel)) T.all (by decide+kernel) (j4 (kN (m:=[none,some 0]) (Nc:=["holder","thing"]) rfl (jF1 (jv 1 rfl (jLF (by decide+kernel)))) rfl (by decide+kernel) (by decide+kernel) (jK0 (by decide+kernel)) (jM (N:=["thing","holders"]) rfl rfl (by decide+kernel)) (fun cl C fp s H=>jQ (i:=0) (show (["holder","thing"]:List Str).Nodup by decide+kernel) rfl yA) (fun cl C fp s H=>kZ) (fun cl C fp s H=>(q0 jPE (jv 1 rfl jZ) (jv 0 rfl jS) yN)) yD) j8 jR) jR)) yD) j8 jR) jR) yY) (jH (kB (xD))) kP))) jTB)
   (jH (kB (xD)))))⟩
theorem jSR {fd:FuncData}(F:Fun K "is_idle" "is_idle" xH f fd)(T:Txt mg)(CU:Can P w K mg base "musts_of" 1 fU fdU ["box"] jCJ):FnOk P w K mg base CX0 2 f fd ["box","number"] jCZ:=by
 refine F.ok scIdle (fun vs H Q E h=>?_) (fun dl A outer s H vs Q E hr h=>?_)
 ·obtain⟨_,_,_,_,_,rfl,_⟩:=h
  rfl
 ·obtain⟨b,k,w,ms,pcs,rfl,hB,g,k0,k1,q⟩:=h
  refine⟨_,(idleA T CU hr).2.h,?_⟩
  obtain⟨qm,qp,ps,b1,b2,b3,b4⟩:=id hB.ex
  have pl:=b4.len
  have w0:=g.w0
  have w1:=g.w1
  have gpl:=g.pl
  obtain⟨pa,pq,g1,g2,g3⟩:=jA5 b4 k0 k1
  have l16:=jA2 g k0 k1
  refine⟨_,rfl,b,_,2,_,rfl,rfl,SqT.of b1,rfl,_,rfl,qp,_,k,_,rfl,rfl,SqT.of b3,g1,pa,_,0,_,rfl,rfl,SqT.of g2,rfl,?_⟩
  have w0':(w.toNat:Int)=w:=by lia
  refine⟨_,rfl,b,qm,_,w,ms,rfl,b1,b2,w0,by lia,fun l0 hl0=>?_⟩
  have e1:Ext H (L2.upd H l0 (.lst ((mus ms w.toNat).map V.int))):=(Ext.refl _).new hl0 _
  have d1:(L2.upd H l0 (.lst ((mus ms w.toNat).map V.int))) l0=some (.lst ((mus ms w.toNat).map V.int)):=j7
  generalize L2.upd H l0 (.lst ((mus ms w.toNat).map V.int))=H1 at e1 d1
  have ml:=jMY ms w.toNat
  generalize hlot:j9 pcs k=lot at g3 l16 q
  refine⟨l0,rfl,⟨_,SqL.of d1⟩,jCF (xs:=(mus ms w.toNat).map V.int) (fun σ'=>∃ v,σ'=[v,some (.ref pq)]) (outZ (mus ms w.toNat) (fun m=>!decide (m∈lot)) V.int) (outZ.ok _ _ _) d1 (by rw[ac,ah]; lia) ⟨_,rfl⟩ ?_ ?_⟩
  ·rintro j x σ' H' zs hx ⟨v,rfl⟩ e hz R S hR hS
   obtain⟨z,hz1,rfl⟩:=int_at hx
   dsimp only [kI]
   refine⟨_,rfl,_,rfl,pq,_,rfl, .inr (SqT.of (e _ _ (e1 _ _ g3))),rfl,kL _,_,rfl,?_⟩
   rw[kU]
   refine ite2 (fun h=>⟨_,rfl,hR _ _ _ ⟨_,rfl⟩ (Ext.refl _) (hz.yes hz1 h)⟩) (fun h=>hS _ _ ⟨_,rfl⟩ (Ext.refl _) (hz.no hz1 (by simpa using h)))
  ·rintro D H2 zs hD e2 nD hz
   obtain rfl:=hz.all (by rw[ac]; exact ai _)
   have E2:=e1.trans e2
   generalize hL:(mus ms w.toNat).filter (fun m=>!decide (m∈lot))=L at hD
   refine⟨D,rfl,⟨_,SqL.of hD⟩,jG6 (xs:=L.map V.int) (fun i σ H'=>(∃ v3 v4,σ=[some (.ref b),some (.int k),some (.ref pq),v3,v4])/\Ext H2 H'/\∀ m∈L.take i,jCA pcs lot m=false) ⟨⟨_,_,rfl⟩,Ext.refl _,fun m hm=>by rw[List.take_zero] at hm; cases hm⟩ (fun i σ H' _ ⟨_,e,_⟩=>SqL.of (e _ _ hD)) ?_ ?_⟩
   ·rintro i x σ H' hx ⟨⟨v3,v4,rfl⟩,e,hno⟩
    obtain⟨m,hm,rfl⟩:=int_at hx
    have E3:=E2.trans e
    refine⟨_,rfl,b,_,2,_,rfl,rfl,SqT.of (E3 _ _ b1),rfl,qp,rfl,⟨_,SqT.of (E3 _ _ b3)⟩,jNP (t:=m) (E3 _ _ b3) (b4.mono E3.tups) (by lia) rfl fun D2 H4 zs h4 z4 e4 n4=>?_⟩
    have E4:=E3.trans e4
    have hl4:=jHD pcs m
    refine⟨_,rfl,pq,rfl,⟨_,SqT.of (E4 _ _ g3)⟩,jAP (xs:=lot.map V.int) (fun σ'=>∃ v,σ'=[v,some (.ref D2)]) (mapZ (lot.map fun x=>(qP pcs m).all fun h=>decide (x∈h)) V.bl) (mapZ.ok _ _) (E4 _ _ g3) (by rw[ac,ah]; lia) ⟨_,rfl⟩ ?_ ?_⟩
    ·rintro j x σ' H' ys hx ⟨v,rfl⟩ e5 hy R S hR hS
     obtain⟨z,hz,rfl⟩:=int_at hx
     dsimp only [kI,yG]
     rw[aD rfl]
     refine⟨_,rfl,D2,rfl,⟨_,SqL.of (e5 _ _ h4)⟩,jKY (e5 _ _ h4) (z4.mono e5.tups) (by lia) rfl fun D3 H6 h6 e6 n6=>⟨D3,_,rfl,SqL.of h6,hR _ _ _ ⟨_,rfl⟩ e6 ?_⟩⟩
     rw[gq]
     exact hy.yes (by rw[ay,hz]; rfl)
    ·rintro D3 H6 ys h6 e6 n6 hy
     obtain rfl:=hy.all (by rw[ac,ac]; exact ai _)
     refine⟨D3,_,rfl,SqL.of h6,_,rfl,?_⟩
     have ea:(lot.map fun x=>(qP pcs m).all fun h=>decide (x∈h)).any id=jCA pcs lot m:=by
      rw[gu]
      rfl
     rw[ea]
     have e26:=(e.trans e4).trans e6
     refine ite2 (fun hz=>?_) (fun hz=>?_)
     ·have:=q H6 (E2.trans e26)
      have ei:xB w ms pcs lot=true:=by
       unfold xB
       rw[hL,cf]
       exact⟨m,aB hm,hz⟩
      rw[ei] at this
      exact this
     ·refine⟨⟨_,_,rfl⟩,e26,fun m' hm'=>?_⟩
      rw[aJ,hm] at hm'
      rcases bv.mp hm' with y | y
      ·exact hno m' y
      ·have:m'=m:=by simpa using y
       rw[this]
       simpa using hz
   ·rintro σ H3 ⟨⟨v3,v4,rfl⟩,e3,hno⟩
    rw[ac,aO] at hno
    have:=q H3 (E2.trans e3)
    have ei:xB w ms pcs lot=false:=by
     unfold xB
     rw[hL,cw]
     exact fun m hm=>by rw[hno m hm]; exact ar
    rw[ei] at this
    exact this
abbrev Bx:Type:=Int×List Int×List (List Int×Int)
abbrev GB (b:Bx):Prop:=Good 16 32 b.1 b.2.1 b.2.2
abbrev BxAt (H:Hp)(a:Addr)(b:Bx):Prop:=BoxAt H a b.1 b.2.1 b.2.2
def cut (b:Bx)(ts aps:List Int):Bx:=(ts.length,nmd ts b.2.1,pick ts b.2.2 aps)
theorem jMP {ts lot:List Int} :∀ z∈nmd ts lot,0<=z/\z<(ts.length:Int):=fun z hz=>by
 have:=(jAL (plcs ts lot)).mem_iff.mp hz
 unfold plcs at this
 obtain⟨t,ht,rfl⟩:=aV.mp this
 have:=cH.mpr (aq (aW.mp ht).2)
 lia
theorem jQE {b:Bx}{ts aps:List Int}(g:GB b)(ht:Ris b.1 ts)(ha:Ris b.2.2.length aps)(hn:∀ k∈aps,∃ t∈j9 b.2.2 k,t∈ts):GB (cut b ts aps):=by
 have l1:=jBF ht.ris ht.bnd g.w1
 have l2:=yM aps 0 b.2.2.length ha.ris ha.bnd
 have gp:=g.pl
 refine⟨by show (0:Int)<=ts.length; lia,by show (ts.length:Int)<=16; lia,⟨?_,jMP⟩,?_,fun p hp=>?_⟩
 ·show (nmd ts b.2.1).Pairwise (· < ·)
  rw[jE1 ht.ris g.mr.ris]
  exact jFP ht.ris g.mr.ris
 ·show ((pick ts b.2.2 aps).length:Int)<=32
  unfold pick
  rw[ac]
  lia
 ·obtain⟨k,hk,rfl⟩:=aV.mp (show p∈pick ts b.2.2 aps from hp)
  have kb:=ha.bnd k hk
  have gk:=g.at (k:=k.toNat) (by lia)
  have gr:(j9 b.2.2 k).Pairwise (· < ·):=gk.lot.ris
  refine⟨⟨?_,jMP,?_⟩,gk.lo,gk.hi⟩
  ·show (nmd ts (j9 b.2.2 k)).Pairwise (· < ·)
   rw[jE1 ht.ris gr]
   exact jFP ht.ris gr
  ·obtain⟨t,h1,h2⟩:=hn k hk
   intro z
   have hm:((ts.idxOf t:Nat):Int)∈nmd ts (j9 b.2.2 k):=by
    unfold nmd
    refine(jAL _).mem_iff.mpr ?_
    unfold plcs
    exact aV.mpr ⟨t,aW.mpr ⟨h1,ao h2⟩,rfl⟩
   have z':nmd ts (j9 b.2.2 k)=[]:=z
   rw[z'] at hm
   cases hm
def qQ (b:Bx):Option Nat:=(List.range b.2.2.length).find? fun k=>xB b.1 b.2.1 b.2.2 (j9 b.2.2 k)
def butN (n:Nat)(k:Int):List Int:=(upto n).filter fun x=>!decide (x=k)
abbrev St3:Type:=List Int×List Int×List Int
def lone (b:Bx)(k:Int):St3:=(lftT b.1 (j9 b.2.2 k),lftP b.2.2 (lftT b.1 (j9 b.2.2 k)),[k])
def stp (b:Bx):Option St3:=match qQ b with
 | some k=>some (upto b.1.toNat,butN b.2.2.length k,[])
 | none=>match nxt b.1.toNat b.2.1 b.2.2 [] with
  | some p=>some (lone b p.2)
  | none=>none
theorem jMN {wi:Nat}{ms:List Int}{pcs:List (List Int×Int)}{ds:List Int}{t k:Int}(h:nxt wi ms pcs ds=some (t,k)):0<=t/\t<wi/\0<=k/\k<pcs.length/\t∈j9 pcs k:=by
 unfold nxt at h
 obtain⟨n,hn,e⟩:=ff.mp h
 have hc:=List.find?_some hn
 have hm:=bc.mp (gK hn)
 unfold cand at hc
 rw[bd,bo] at hc
 obtain⟨k',hk'⟩:=fj.mp hc.2
 rw[hk'] at e
 have e:((n:Int),k')=(t,k):=e
 cases e
 have:k∈qR pcs ds n:=by rw[hk']; exact aI.mpr rfl
 unfold qR at this
 obtain⟨q1,q2⟩:=aW.mp this
 rw[bd,bo] at q2
 have:=mem_upto.mp q1
 exact⟨by lia,by lia,by lia,by lia,q2.1⟩
theorem jDN (n:Nat)(k:Int):Ris n (butN n k):=⟨(yS n).ris.sublist cR,fun z hz=>(yS n).bnd z (aW.mp hz).1⟩
theorem jNW {α:Type}{p:α->Bool}{l:List α}{x:α}(hx:x∈l)(hp:p x=false):(l.filter p).length<l.length:=by
 induction l with
 | nil=>cases hx
 | cons a r ih=>
  rw[bW]
  rcases az.mp hx with rfl | h
  ·rw[hp,aF ar,aZ]
   exact Nat.lt_succ_of_le (aY _ _)
  ·have:=ih h
   split
   ·rw[aZ,aZ]
    lia
   ·rw[aZ]
    lia
theorem jG1 {b:Bx}{k:Nat}(h:qQ b=some k):k<b.2.2.length:=bc.mp (gK h)
structure StOk (b:Bx)(x:St3):Prop where
 t:Ris b.1 x.1
 a:Ris b.2.2.length x.2.1
 n:∀ k∈x.2.1,∃ t∈j9 b.2.2 k,t∈x.1
 l:x.2.1.length<b.2.2.length
 k:x.2.2.length<=1
 kb:∀ k∈x.2.2,0<=k/\k<b.2.2.length
theorem jGJ {b:Bx}(g:GB b){k:Int}(h0:0<=k)(h1:k<b.2.2.length):∃ t∈j9 b.2.2 k,0<=t/\t<b.1:=by
 have gk:=g.at (k:=k.toNat) (by lia)
 have ne:j9 b.2.2 k≠ []:=gk.lot.ne
 obtain⟨t,ht⟩:=List.exists_mem_of_ne_nil _ ne
 exact⟨t,ht,gk.lot.bnd t ht⟩
theorem jLH {w:Int}(w0:0<=w):Ris w (upto w.toNat):=by
 have:=yS w.toNat
 rw[show ((w.toNat:Nat):Int)=w by lia] at this
 exact this
theorem jJ0 {b:Bx}(g:GB b){x:St3}(h:stp b=some x):StOk b x:=by
 have w0:=g.w0
 unfold stp at h
 cases hi:qQ b with
 | some k=>
  rw[hi] at h
  cases h
  have hk:=jG1 hi
  refine⟨jLH w0,jDN _ _,fun j hj=>?_,?_,bh _,fun j hj=>by cases hj⟩
  ·have hb:=(jDN _ _).bnd j hj
   obtain⟨t,h1,h2⟩:=jGJ g hb.1 hb.2
   exact⟨t,h1,mem_upto.mpr (by lia)⟩
  ·show (butN b.2.2.length k).length<_
   have:=jNW (p:=fun x:Int=>!decide (x=(k:Int))) (l:=upto b.2.2.length) (x:=(k:Int)) (mem_upto.mpr (by lia)) (by simp)
   rw[kJ] at this
   exact this
 | none=>
  rw[hi] at h
  dsimp only at h
  cases hx:nxt b.1.toNat b.2.1 b.2.2 [] with
  | none=>rw[hx] at h; cases h
  | some p=>
   rw[hx] at h
   cases h
   obtain⟨h1,h2,h3,h4,h5⟩:=jMN (t:=p.1) (k:=p.2) hx
   have tr:Ris b.1 (lftT b.1 (j9 b.2.2 p.2)):=⟨jJQ _ _,fun z hz=>((jFX w0).mp hz).1⟩
   refine⟨tr,⟨jPW _ _,jDJ⟩,fun j hj=>?_,?_,ai _,fun j hj=>by rw[aI.mp hj]; exact⟨h3,h4⟩⟩
   ·have hb:=jDJ j hj
    obtain⟨t,q1,q2⟩:=jGJ g hb.1 hb.2
    have:=aS.mp (aW.mp hj).2 t q1
    exact⟨t,q1,aq this⟩
   ·show (lftP b.2.2 _).length<_
    have:=jNW (p:=fun k=>(j9 b.2.2 k).all fun t=>decide (t∈lftT b.1 (j9 b.2.2 p.2))) (l:=upto b.2.2.length) (x:=p.2) (mem_upto.mpr ⟨h3,h4⟩) (by
     rw[List.all_eq_false]
     refine⟨p.1,h5,fun z=>?_⟩
     exact((jFX w0).mp (aq z)).2 h5)
    rw[kJ] at this
    exact this
abbrev S4:Type:=Bx×List Int×List Int×List Int
def at_ (l:List Int)(k:Int):Int:=l.getD k.toNat 0
def adv (S:S4)(x:St3):S4:=(cut S.1 x.1 x.2.1,x.1.map (at_ S.2.1),x.2.1.map (at_ S.2.2.1),srt (S.2.2.2++x.2.2.map (at_ S.2.2.1)))
def runS:Nat->S4->S4
 | 0,S=>S
 | n+1,S=>match stp S.1 with
  | none=>S
  | some x=>runS n (adv S x)
structure SOk (S:S4):Prop where
 g:GB S.1
 t:(S.2.1.length:Int)=S.1.1
 p:S.2.2.1.length=S.1.2.2.length
 k:S.2.2.2.length+S.1.2.2.length<=32
theorem jI0 {S:S4}(h:SOk S){x:St3}(hx:stp S.1=some x):SOk (adv S x):=by
 have o:=jJ0 h.g hx
 refine⟨jQE h.g o.t o.a o.n,?_,?_,?_⟩
 ·show ((x.1.map (at_ S.2.1)).length:Int)=x.1.length
  rw[ac]
 ·show (x.2.1.map (at_ S.2.2.1)).length=(pick x.1 S.1.2.2 x.2.1).length
  unfold pick
  rw[ac,ac]
 ·show (srt (S.2.2.2++x.2.2.map (at_ S.2.2.1))).length+(pick x.1 S.1.2.2 x.2.1).length<=32
  unfold pick
  rw[jLR,aE,ac,ac]
  have:=o.l
  have:=o.k
  have:=h.k
  lia
theorem jK8 {S:S4}(h:SOk S){x:St3}(hx:stp S.1=some x):(adv S x).1.2.2.length<S.1.2.2.length:=by
 have o:=jJ0 h.g hx
 show (pick x.1 S.1.2.2 x.2.1).length<_
 unfold pick
 rw[ac]
 exact o.l
theorem jLY:∀ (n:Nat) {S:S4},SOk S->SOk (runS n S)
 | 0,_,h=>h
 | n+1,S,h=>by
  unfold runS
  cases hx:stp S.1 with
  | none=>exact h
  | some x=>exact jLY n (jI0 h hx)
def begS (b:Bx):S4:=(b,upto b.1.toNat,upto b.2.2.length,[])
theorem jGE {b:Bx}(g:GB b):SOk (begS b):=by
 have w0:=g.w0
 have pl:=g.pl
 refine⟨g,?_,kJ _,?_⟩
 ·show ((upto b.1.toNat).length:Int)=b.1
  rw[kJ]
  lia
 ·show 0+b.2.2.length<=32
  lia
def endS (b:Bx):S4:=runS (b.2.2.length+1) (begS b)
theorem jG8 {b:Bx}(g:GB b):SOk (endS b):=jLY _ (jGE g)
theorem jTF {l:List Int}{n:Nat}(h:l.length=n):(upto n).map (at_ l)=l:=by
 refine dW (by rw[ac,kJ,h]) fun i h1 h2=>?_
 unfold upto at_
 simp [List.getD,h2]
theorem jF6 {α:Type}{l:List α}{n k:Nat}{d:α}(h:l.length=n)(hk:k<n):(butN n k).map (fun x=>l.getD x.toNat d)=l.eraseIdx k:=by
 have e:butN n (k:Int)=(upto n).eraseIdx k:=by
  unfold butN
  have s:upto n=(upto n).take k++(k:Int)::(upto n).drop (k+1):=by
   have:=ii (as:=upto n) (i:=k) (h:=by rw[kJ]; exact hk)
   have g:=yC hk
   rw[aK (by rw[kJ]; exact hk)] at g
   rw[be g] at this
   rw[this,cW]
  have nd:=jBK n
  rw[bM]
  rw[s] at nd
  conv=>lhs; rw[s]
  rw[bn,bW]
  simp only [decide_true,gX,Bool.false_eq_true,iW]
  obtain⟨n1,n2,n3⟩:=fe.mp nd
  obtain⟨n4,n5⟩:=b9.mp n2
  rw[gn.mpr fun x hx=>?_,gn.mpr fun x hx=>?_]
  ·rw[b8,cm]
   exact fun z=>n4 (z ▸ hx)
  ·rw[b8,cm]
   exact fun z=>n3 x hx _ aw z
 rw[e,bM,bM,au]
 have m:(upto n).map (fun x=>l.getD x.toNat d)=l:=by
  refine dW (by rw[ac,kJ,h]) fun i h1 h2=>?_
  unfold upto
  simp [List.getD,h2]
 rw[fY,iI,m]
theorem jQD {b:Bx}(g:GB b){k:Nat}(hk:k<b.2.2.length):cut b (upto b.1.toNat) (butN b.2.2.length k)=(b.1,b.2.1,b.2.2.eraseIdx k):=by
 have w0:=g.w0
 unfold cut
 refine Prod.ext ?_ (Prod.ext ?_ ?_)
 ·show ((upto b.1.toNat).length:Int)=b.1
  rw[kJ]
  lia
 ·exact jJH g.mr.ris fun t ht=>by have:=g.mr.bnd t ht; lia
 ·show pick (upto b.1.toNat) b.2.2 (butN b.2.2.length k)=b.2.2.eraseIdx k
  rw[<- jF6 (l:=b.2.2) (d:=([],0)) rfl hk]
  unfold pick
  refine bZ fun x hx=>?_
  have hb:=(jDN _ _).bnd x hx
  have gp:=g.at (k:=x.toNat) (by lia)
  unfold j9
  rw[jJH gp.lot.ris fun t ht=>by have:=gp.lot.bnd t ht; lia]
theorem jAI (n:Int):jEE 0 (n - 0).toNat=upto n.toNat:=by
 unfold jEE upto
 rw[Int.sub_zero]
 exact bZ fun i _=>by lia
section
variable {fN:Addr}{fdN:FuncData}
abbrev jMT:List Str:=["box","number"]
theorem scLIdle:FnScope jMT ["box"] (jA jD2):= {}
def optI:Option Nat->V
 | none=> .non
 | some k=> .int (k:Int)
def jFE:Sp:=fun vs H Q _=>∃ (a:Addr) (b:Bx),vs=[.ref a]/\BxAt H a b/\GB b/\∀ H',Ext H H'->Q (optI (qQ b)) H'
def jUP (T:Txt mg)(CI:Can P w K mg base "is_idle" 2 fI fdI ["box","number"] jCZ)(hr:Room 2 (XOf jMT "least_idle" jD2 P w K mg base f dl A outer s H0 E).A): { t:TS // JSs (XOf jMT "least_idle" jD2 P w K mg base f dl A outer s H0 E) (jN jD2) t} :=
 have nd:=scLIdle.nd
 ⟨_,(jB (qS bB rfl (kX gD T.range (j4 (jK jV gD T.len (by decide+kernel) (j4 (jJ jL (jv 0 rfl vL) (jC) jE) j8 jI) jI) j8 jG) jG) (jQ (i:=1) nd rfl lL) (jH (yJ (qG (CI.je hr gD (j4 (jv 0 rfl vL) (j4 (jv 1 rfl vL) j8 j6) j6) j6) yY) (jH (kB (jv 1 rfl vL))) kP)) kQ)
   (jH (kB (jBW))))⟩
theorem jPL {fd:FuncData}(F:Fun K "least_idle" "least_idle" jD2 f fd)(T:Txt mg)(CI:Can P w K mg base "is_idle" 2 fI fdI ["box","number"] jCZ):FnOk P w K mg base CX0 3 f fd ["box"] jFE:=by
 refine F.ok scLIdle (fun vs H Q E h=>?_) (fun dl A outer s H vs Q E hr h=>?_)
 ·obtain⟨_,_,rfl,_⟩:=h
  rfl
 ·obtain⟨a,b,rfl,hB,g,q⟩:=h
  refine⟨_,(jUP T CI hr).2.h,?_⟩
  obtain⟨qm,qp,ps,b1,b2,b3,b4⟩:=id hB.ex
  have pl:=b4.len
  have gpl:=g.pl
  refine⟨_,rfl,a,_,2,_,rfl,rfl,SqT.of b1,rfl,qp,_,rfl, .inr (SqT.of b3),(ps.length:Int),rfl,by lia,by lia,jAF (n:=ps.length) (fun i σ H'=>(∃ v,σ=[some (.ref a),v])/\Ext H H'/\∀ j,j<i->xB b.1 b.2.1 b.2.2 (j9 b.2.2 (j:Nat))=false) ⟨⟨_,rfl⟩,Ext.refl _,fun j hj=>absurd hj (cN _)⟩ ?_ ?_⟩
  ·rintro i σ H' hi ⟨⟨v,rfl⟩,e,hno⟩
   have e0:(0+(i:Int))=(i:Int):=by lia
   rw[e0]
   refine⟨_,rfl,_,rfl,a,i,b.1,b.2.1,b.2.2,rfl,hB.mono e.tups,g,by lia,by lia,fun H2 e2=>⟨_,rfl,ite2 (fun hz=>?_) (fun hz=>?_)⟩⟩
   ·have hf:qQ b=some i:=by
     unfold qQ
     refine g5.mpr ⟨hz,bc.mpr (by lia),fun j hj=>by rw[hno j hj]; rfl⟩
    have:=q H2 (e.trans e2)
    rw[hf] at this
    exact⟨_,rfl,this⟩
   ·refine⟨⟨_,rfl⟩,e.trans e2,fun j hj=>?_⟩
    by_cases hji:j=i
    ·rw[hji]
     simpa using hz
    ·exact hno j (by lia)
  ·rintro σ H' ⟨⟨v,rfl⟩,e,hno⟩
   have hf:qQ b=none:=by
    unfold qQ
    refine gI.mpr fun j hj=>?_
    have:=bc.mp hj
    rw[hno j (by lia)]
    exact ar
   have:=q H' e
   rw[hf] at this
   exact this
abbrev jIE:List Str:=["places","numbers"]
theorem scTraced:FnScope jIE ["places","numbers"] (jA jBC):= {}
def jAM:Sp:=fun vs H Q _=>∃ (a b:Addr) (ps ns:List Int),vs=[.ref a, .ref b]/\H a=some (.tup (ps.map V.int))/\H b=some (.tup (ns.map V.int))/\(∀ p∈ps,0<=p/\p<ns.length)/\ps.length<=1000/\∀ r H',H' r=some (.tup ((ps.map (at_ ns)).map V.int))->Ext H H'->Q (.ref r) H'
def jRL (T:Txt mg): { t:TS // JSs (XOf jIE "traced" jBC P w K mg base f dl A outer s H0 E) (jN jBC) t} :=
 have nd:=scTraced.nd
 ⟨_,(jH (kB (jP jO gD T.tuple (by decide+kernel) (j4 (kN (m:=[none,some 1]) (Nc:=["place","numbers"]) rfl (yP (jv 0 rfl vL)) rfl (by decide+kernel) (by decide+kernel) (jX (psc:=jA jBC)) (jM (N:=jIE) rfl rfl (by decide+kernel)) (fun cl C fp s H=>jQ (i:=0) (show (["place","numbers"]:List Str).Nodup by decide+kernel) rfl yA) (fun cl C fp s H=>kZ) (fun cl C fp s H=>(jJ kD (jv 1 rfl jZ) (jv 0 rfl jS) y9)) yD) j8 jR) jR)))⟩
theorem jME {fd:FuncData}(F:Fun K "traced" "traced" jBC f fd)(T:Txt mg):FnOk P w K mg base CX0 1 f fd ["places","numbers"] jAM:=by
 refine F.ok scTraced (fun vs H Q E h=>?_) (fun dl A outer s H vs Q E hr h=>?_)
 ·obtain⟨_,_,_,_,rfl,_⟩:=h
  rfl
 ·obtain⟨a,b,ps,ns,rfl,ha,hb,hp,hl,q⟩:=h
  refine⟨_,(jRL T).2.h,?_⟩
  refine⟨_,rfl,a,rfl,⟨_,SqT.of ha⟩,jAP (xs:=ps.map V.int) (fun σ'=>∃ v,σ'=[v,some (.ref b)]) (mapZ (ps.map (at_ ns)) V.int) (mapZ.ok _ _) ha (by rw[ac,ah]; lia) ⟨_,rfl⟩ ?_ ?_⟩
  ·rintro j x σ' H' ys hx ⟨v,rfl⟩ e hy R S hR hS
   obtain⟨z,hz,rfl⟩:=int_at hx
   have hzb:=hp z (aB hz)
   dsimp only [kI,yG]
   rw[aD rfl]
   refine⟨_,rfl,_,rfl,b,_,z, .int (at_ ns z),rfl,rfl,SqT.of (e _ _ hb),?_,hR _ _ _ ⟨_,rfl⟩ (Ext.refl _) (hy.yes (by rw[ay,hz]; rfl))⟩
   have e2:((z.toNat:Nat):Int)=z:=by lia
   have:=yR (xs:=ns.map V.int) (j:=z.toNat) (v:=V.int (at_ ns z)) (by
    have hz':z.toNat<ns.length:=by lia
    unfold at_
    simp [List.getD,hz'])
   rw[e2] at this
   exact this
  ·rintro D H' ys hD e nD hy
   obtain rfl:=hy.all (by rw[ac,ac]; exact ai _)
   exact⟨D,_,rfl, .inl ⟨SqL.of hD,fun l hl=>q l _ j7 (e.new hl _)⟩⟩
abbrev jFU:List Str:=["box","idle","things","rest","lone"]
theorem scStepOf:FnScope jFU ["box"] (jA jB0):= {}
structure StAt (H:Hp)(r:Addr)(b:Bx)(x:St3):Prop where
 ex:∃ rb rt rp rk,H r=some (.tup [.ref rb, .ref rt, .ref rp, .ref rk])/\BxAt H rb (cut b x.1 x.2.1)/\H rt=some (.tup (x.1.map V.int))/\H rp=some (.tup (x.2.1.map V.int))/\H rk=some (.tup (x.2.2.map V.int))
def jBM (tb:Addr):Sp:=fun vs H Q _=>∃ (a:Addr) (b:Bx),vs=[.ref a]/\BxAt H a b/\GB b/\TabP H tb/\(stp b=none->∀ H',Ext H H'->Q .non H')/\∀ x,stp b=some x->∀ r H',StAt H' r b x->ExtT tb H H'->TabP H' tb->Q (.ref r) H'
def jRQ (T:Txt mg)(CI:Can P w K mg base "least_idle" 3 fI fdI ["box"] jFE)(CK:Can P w K mg base "picked" 2 fK fdK ["box","things","pieces"] (jBN tb))(CN:Can P w K mg base "forced_next" 2 fN fdN ["box","held"] jJ2)(CB:Can P w K mg base "behind" 4 fB fdB ["box","some"] (jDG tb))(hr:Room 4 (XOf jFU "step_of" jB0 P w K mg base f dl A outer s H0 E).A): { t:TS // JSs (XOf jFU "step_of" jB0 P w K mg base f dl A outer s H0 E) (jN jB0) t} :=
 have nd:=scStepOf.nd
 ⟨_,(jB (jT (i:=1) nd rfl yX (CI.je (hr.mono (by decide)) gD (j4 (jv 0 rfl vL) j8 j6) j6) jW)
   (jB (yJ (jY jFT (jv 1 rfl vC) (jBW) (kT _)) (jB (jT (i:=2) nd rfl lL (jP (jAJ rfl) gD T.tuple (by decide+kernel) (j4 (jP jAA gD T.range (by decide+kernel) (j4 (jJ jL (jv 0 rfl vL) (jC) jE) j8 jI) jI) j8 jG) jG) jW)
   (jB (jT (i:=3) nd rfl lL (jP jO gD T.tuple (by decide+kernel) (j4 (kN (m:=[none,some 1]) (Nc:=["number","idle"]) rfl (kX gD T.range (j4 (jK jV gD T.len (by decide+kernel) (j4 (jJ jL (jv 0 rfl vL) (jC) jE) j8 jI) jI) j8 jG) jG) rfl (by decide+kernel) (by decide+kernel) (jX (psc:=jA jB0)) (jM (N:=jFU) rfl rfl (by decide+kernel)) (fun cl C fp s H=>jQ (i:=0) (show (["number","idle"]:List Str).Nodup by decide+kernel) rfl yA) (fun cl C fp s H=>yI (jY op_ne (jv 0 rfl jS) (jv 1 rfl jZ) (kT _))) (fun cl C fp s H=>(jv 0 rfl jS)) kQ) j8 jR) jR) jW)
   (jH (kB (kR (j4 (CK.je (hr.mono (by decide)) gD (j4 (jv 0 rfl vL) (j4 (jv 2 rfl vL) (j4 (jv 3 rfl vL) j8 j6) j6) j6) j6) (j4 (jv 2 rfl vL) (j4 (jv 3 rfl vL) (j4 (kR j8) j8 jBT) j6) j6) jG)))))) kP)
   (jB (jT (i:=4) nd rfl lL (CN.je (hr.mono (by decide)) gD (j4 (jv 0 rfl vL) (j4 (jC) j8 jU) j6) j6) jW)
   (jB (yJ (jY jFT (jv 4 rfl vL) (jBW) (kT _)) (jH (kB (yK jB4 (CB.je hr gD (j4 (jv 0 rfl vL) (j4 (kR (j4 (jJ jL (jv 4 rfl vL) (jC) jE) j8 jI)) j8 jBT) j6) j6) (kR (j4 (kR (j4 (jJ jL (jv 4 rfl vL) (jC) jE) j8 jI)) j8 jBT))))) kP)
   (jH (kB (jBW)))))))⟩
theorem jMF {fd:FuncData}(F:Fun K "step_of" "step_of" jB0 f fd)(T:Txt mg)(CI:Can P w K mg base "least_idle" 3 fI fdI ["box"] jFE)(CK:Can P w K mg base "picked" 2 fK fdK ["box","things","pieces"] (jBN tb))(CN:Can P w K mg base "forced_next" 2 fN fdN ["box","held"] jJ2)(CB:Can P w K mg base "behind" 4 fB fdB ["box","some"] (jDG tb)):FnOk P w K mg base CX0 5 f fd ["box"] (jBM tb):=by
 refine F.ok scStepOf (fun vs H Q E h=>?_) (fun dl A outer s H vs Q E hr h=>?_)
 ·obtain⟨_,_,rfl,_⟩:=h
  rfl
 ·obtain⟨a,b,rfl,hB,g,tab,qn,qs⟩:=h
  refine⟨_,(jRQ T CI CK CN CB hr).2.h,?_⟩
  obtain⟨qm,qp,ps,b1,b2,b3,b4⟩:=id hB.ex
  have pl:=b4.len
  have gpl:=g.pl
  have w0:=g.w0
  have w1:=g.w1
  refine⟨_,rfl,a,b,rfl,hB,g,fun H1 e1=>?_⟩
  refine⟨_,rfl,rfl,_,rfl,?_⟩
  cases hi:qQ b with
  | some k=>
   have hk:=jG1 hi
   have hs:stp b=some (upto b.1.toNat,butN b.2.2.length k,[]):=by unfold stp; rw[hi]
   refine iteT ?_
   refine⟨_,rfl,a,_,0,_,rfl,rfl,SqT.of (e1 _ _ b1),rfl,b.1,rfl,fun x hx=>⟨x,0,b.1,rfl,j7,by decide,w0,by lia,fun t ht=>?_⟩⟩
   rw[jAI]
   have e2:Ext H1 (L2.upd (L2.upd H1 x (.rng 0 b.1)) t (.tup ((upto b.1.toNat).map V.int))):=((Ext.refl _).new hx _).new ht _
   have d2:(L2.upd (L2.upd H1 x (.rng 0 b.1)) t (.tup ((upto b.1.toNat).map V.int))) t=some (.tup ((upto b.1.toNat).map V.int)):=j7
   generalize L2.upd (L2.upd H1 x (.rng 0 b.1)) t (.tup ((upto b.1.toNat).map V.int))=H2 at e2 d2
   have E2:=e1.trans e2
   refine⟨_,rfl,a,_,2,_,rfl,rfl,SqT.of (E2 _ _ b1),rfl,qp,_,rfl, .inr (SqT.of (E2 _ _ b3)),(ps.length:Int),rfl,by lia,by lia,jCE (n:=ps.length) (fun σ'=>∃ v,σ'=[v,some (.int (k:Int))]) (outZ (upto b.2.2.length) (fun x=>!decide (x=(k:Int))) V.int) (outZ.ok _ _ _) (by rw[ah]; lia) ⟨_,rfl⟩ ?_ ?_⟩
   ·rintro j σ' H' zs hj ⟨v,rfl⟩ e hz R S hR hS
    have e0:(0+(j:Int))=(j:Int):=by lia
    rw[e0]
    dsimp only [kI]
    refine⟨_,rfl,_,rfl,rfl,_,rfl,?_⟩
    have ed:(!decide (V.int (j:Int)=V.int (k:Int)))=!decide ((j:Int)=(k:Int)):=by
     congr 1
     exact hW.mpr ⟨fun h=>V.int.inj h,fun h=>by rw[h]⟩
    rw[ed]
    refine ite2 (fun h=>⟨_,rfl,hR _ _ _ ⟨_,rfl⟩ (Ext.refl _) (hz.yes (yC (by lia)) h)⟩) (fun h=>hS _ _ ⟨_,rfl⟩ (Ext.refl _) (hz.no (yC (by lia)) (by simpa using h)))
   ·rintro D H3 zs hD e3 nD hz
    have hz:=hz.all (by rw[kJ]; lia)
    subst hz
    refine⟨D,_,rfl, .inl ⟨SqL.of hD,fun p hp=>?_⟩⟩
    have e4:Ext H3 (L2.upd H3 p (.tup ((butN b.2.2.length k).map V.int))):=(Ext.refl _).new hp _
    have d4:(L2.upd H3 p (.tup ((butN b.2.2.length k).map V.int))) p=some (.tup ((butN b.2.2.length k).map V.int)):=j7
    show kI 3 (.ref p) _ (L2.upd H3 p (.tup ((butN b.2.2.length k).map V.int))) _
    generalize L2.upd H3 p (.tup ((butN b.2.2.length k).map V.int))=H4 at e4 d4
    have E4:=(E2.trans e3).trans e4
    have tab4:=tab.ext E4
    have t4:=e4 _ _ (e3 _ _ d2)
    have bl:=(jDN b.2.2.length k)
    have bln:=yM _ 0 b.2.2.length bl.ris bl.bnd
    refine⟨_,rfl,_,rfl,_,rfl,a,t,p,true,true,b.1,b.2.1,b.2.2,upto b.1.toNat,butN b.2.2.length k,rfl,hB.mono E4.tups,t4,d4,jBK _,by rw[kJ]; lia,?_,pc_lt g,bl.bnd,by lia,tab4,fun r1 H5 B5 e5 t5=>?_⟩
    ·have:=jBF g.mr.ris g.mr.bnd w1
     lia
    refine⟨_,rfl,_,rfl,by show (0:Nat)<=_; decide,fun r2 H6 d6 e6=>?_⟩
    refine⟨by show (4:Nat)<=_; decide,fun r3 H7 d7 e7=>?_⟩
    have e67:=e6.trans e7
    exact qs _ hs r3 H7 ⟨r1,t,p,r2,d7,B5.mono e67.tups,e67 _ _ (e5.at tab4 t4),e67 _ _ (e5.at tab4 d4),e7 _ _ d6⟩ (((ExtT.of E4).trans e5).trans (ExtT.of e67)) (t5.ext e67)
  | none=>
   refine iteF ?_
   have dn0:Done 0 []:=⟨fun n=>by rw[bX]; rfl,fun t ht=>by cases ht⟩
   refine⟨_,rfl,a,b.1,b.2.1,b.2.2,0,[],rfl,hB.mono e1.tups,g,dn0,fun hn H2 e2=>?_,fun t k hk r H2 d2 e2=>?_⟩
   ·refine⟨_,rfl,rfl,_,rfl,iteF ?_⟩
    exact qn (by unfold stp; rw[hi]; show (match nxt b.1.toNat b.2.1 b.2.2 [] with | some p=>some (lone b p.2) | none=>none)=none; rw[hn]) H2 (e1.trans e2)
   ·have hs:stp b=some (lone b k):=by unfold stp; rw[hi]; show (match nxt b.1.toNat b.2.1 b.2.2 [] with | some p=>some (lone b p.2) | none=>none)=_; rw[hk]
    obtain⟨h1,h2,h3,h4,h5⟩:=jMN hk
    have E2:=e1.trans e2
    have gk:=g.at (k:=k.toNat) (by lia)
    refine⟨_,rfl,rfl,_,rfl,iteT ?_⟩
    refine⟨_,rfl,_,rfl,r,_,1,_,rfl,rfl,SqT.of d2,rfl,by show (1:Nat)<=_; decide,fun r2 H3 d3 e3=>?_⟩
    have E3:=E2.trans e3
    have tab3:=tab.ext E3
    have fm: [k].flatMap (j9 b.2.2)=j9 b.2.2 k:=by rw[dk,fJ,bf]
    refine⟨a,r2,b.1,b.2.1,b.2.2,[k],rfl,hB.mono E3.tups,g,d3,⟨dz _ _,fun z hz=>by rw[aI.mp hz]; exact⟨h3,h4⟩⟩,?_,tab3,fun r3 H4 R4 e4 t4=>?_⟩
    ·rw[fm]
     exact gk.lot.ris.imp fun h=>by lia
    rw[fm] at R4
    obtain⟨rb,rt,rp,c1,c2,c3,c4⟩:=R4.ex
    refine⟨_,rfl,r,_,1,_,rfl,rfl,SqT.of (e4.at tab3 (e3 _ _ d2)),rfl,by show (1:Nat)<=_; decide,fun r4 H5 d5 e5=>?_⟩
    refine⟨by show (1:Nat)<=_; decide,fun r5 H6 d6 e6=>?_⟩
    have e56:=e5.trans e6
    refine⟨r3,r5,_,_,rfl,rfl,e56 _ _ c1,d6,by show (4:Nat)<=_; decide,fun r6 H7 d7 e7=>?_⟩
    have e57:=e56.trans e7
    exact qs _ hs r6 H7 ⟨rb,rt,rp,r4,d7,c2.mono e57.tups,e57 _ _ c3,e57 _ _ c4,(e6.trans e7) _ _ d5⟩ (((ExtT.of E3).trans e4).trans (ExtT.of e57)) (t4.ext e57)
end
theorem Tups.ofT {tb:Addr}{H H':Hp}(e:ExtT tb H H')(t:TabP H tb):Tups H H':=fun b xs h=>e.at t h
structure S4At (H:Hp)(r:Addr)(S:S4):Prop where
 ex:∃ rb rt rp rk,H r=some (.tup [.ref rb, .ref rt, .ref rp, .ref rk])/\BxAt H rb S.1/\H rt=some (.tup (S.2.1.map V.int))/\H rp=some (.tup (S.2.2.1.map V.int))/\H rk=some (.tup (S.2.2.2.map V.int))
theorem S4At.mono {H H':Hp}{r:Addr}{S:S4}(h:S4At H r S)(t:Tups H H'):S4At H' r S:=by
 obtain⟨rb,rt,rp,rk,h1,h2,h3,h4,h5⟩:=h.ex
 exact⟨rb,rt,rp,rk,t _ _ h1,h2.mono t,t _ _ h3,t _ _ h4,t _ _ h5⟩
def OSt (H:Hp)(v:V)(b:Bx):Prop:=match stp b with
 | none=>v= .non
 | some x=>∃ r,v= .ref r/\StAt H r b x
abbrev jCM:List Str:=["box","told","step","taken"]
theorem scTurned:FnScope jCM ["box"] (jA qI):= {}
def jBL (tb:Addr):Sp:=fun vs H Q _=>∃ (a:Addr) (b:Bx),vs=[.ref a]/\BxAt H a b/\GB b/\TabP H tb/\∀ r H',S4At H' r (endS b)->ExtT tb H H'->TabP H' tb->Q (.ref r) H'
def jLJ (T:Txt mg)(CS:Can P w K mg base "step_of" 5 fS fdS ["box"] (jBM tb))(CT:Can P w K mg base "traced" 1 fT fdT ["places","numbers"] jAM)(hr:Room 5 (XOf jCM "turned_smaller" qI P w K mg base f dl A outer s H0 E).A): { t:TS // JSs (XOf jCM "turned_smaller" qI P w K mg base f dl A outer s H0 E) ((jN qI).drop 2) t} :=
 have nd:=scTurned.nd
 ⟨_,(jB (jJS bB (jY jFT (jv 2 rfl vL) (jBW) (kT _)) (jB (jT (i:=3) nd rfl lL (jP jO gD T.tuple (by decide+kernel) (j4 (jK jAQ gD T.sorted (by decide+kernel) (j4 (yK jB4 (jJ jL (jv 1 rfl vL) (jC) jE) (CT.je (hr.mono (by decide)) gD (j4 (jJ jL (jv 2 rfl vL) (jC) jE) (j4 (jJ jL (jv 1 rfl vL) (jC) jE) j8 jI) jI) jI)) j8 yU) yU) j8 jG) jG) jW)
   (jB (jT (i:=1) nd rfl lL (kR (j4 (jJ jL (jv 2 rfl vL) (jC) jE) (j4 (CT.je (hr.mono (by decide)) gD (j4 (jJ jL (jv 2 rfl vL) (jC) jE) (j4 (jJ jL (jv 1 rfl vL) (jC) jE) j8 jI) jI) jI) (j4 (CT.je (hr.mono (by decide)) gD (j4 (jJ jL (jv 2 rfl vL) (jC) jE) (j4 (jJ jL (jv 1 rfl vL) (jC) jE) j8 jI) jI) jI) (j4 (jv 3 rfl vL) j8 j6) jG) jG) jI)) jGL)
   (jH (jT (i:=2) nd rfl lL (CS.je hr gD (j4 (jJ jL (jv 1 rfl vL) (jC) jE) j8 jI) jI) jW)))))
   (jH (kB (jv 1 rfl vL))))⟩
def jRK (T:Txt mg)(CS:Can P w K mg base "step_of" 5 fS fdS ["box"] (jBM tb))(CT:Can P w K mg base "traced" 1 fT fdT ["places","numbers"] jAM)(hr:Room 5 (XOf jCM "turned_smaller" qI P w K mg base f dl A outer s H0 E).A): { t:TS // JSs (XOf jCM "turned_smaller" qI P w K mg base f dl A outer s H0 E) (jN qI) t} :=
 have nd:=scTurned.nd
 ⟨_,(jB (jT (i:=1) nd rfl lL (kR (j4 (jv 0 rfl vL) (j4 (jP (jAJ rfl) gD T.tuple (by decide+kernel) (j4 (jP jAA gD T.range (by decide+kernel) (j4 (jJ jL (jv 0 rfl vL) (jC) jE) j8 jI) jI) j8 jG) jG) (j4 (jP (jAJ rfl) gD T.tuple (by decide+kernel) (j4 (jP jAA gD T.range (by decide+kernel) (j4 (jK jV gD T.len (by decide+kernel) (j4 (jJ jL (jv 0 rfl vL) (jC) jE) j8 jI) jI) j8 jG) jG) j8 jG) jG) (j4 (kR j8) j8 jBT) jG) jG) j6)) jGL) (jB (jT (i:=2) nd rfl lL (CS.je hr gD (j4 (jv 0 rfl vL) j8 j6) j6) jW) (jLJ T CS CT hr).2))⟩
theorem jCY (T:Txt mg)(CS:Can P w K mg base "step_of" 5 fS fdS ["box"] (jBM tb))(CT:Can P w K mg base "traced" 1 fT fdT ["places","numbers"] jAM)(hr:Room 5 (XOf jCM "turned_smaller" qI P w K mg base f dl A outer s H0 E).A)
  {D:Ends}{H:Hp}{a r:Addr}{b:Bx}{v:V}{v3:Option V}(g:GB b) (h:S4At H r (begS b)) (hv:OSt H v b) (tab:TabP H tb)
  (k:∀ r H',S4At H' r (endS b)->ExtT tb H H'->TabP H' tb->D.rt (.ref r) H'):
  (jLJ T CS CT hr).1 D [some (.ref a),some (.ref r),some v,v3] H:=by
 refine⟨fun m σ H'=>∃ (r:Addr) (S:S4) (v:V) (v3:Option V),σ=[some (.ref a),some (.ref r),some v,v3]/\S4At H' r S/\SOk S/\OSt H' v S.1/\runS m S=endS b/\S.1.2.2.length<m/\ExtT tb H H'/\TabP H' tb,⟨b.2.2.length+1,r,begS b,v,v3,rfl,h,jGE g,hv,rfl,ce _,ExtT.refl _,tab⟩,?_⟩
 rintro m σ H1 ⟨r,S,v,v3,rfl,h1,so,hv,hrun,hm,e1,t1⟩
 obtain⟨m',rfl⟩:∃ m',m=m'+1:=⟨m - 1,by lia⟩
 refine⟨_,rfl,rfl,_,rfl,?_⟩
 unfold OSt at hv
 cases hx:stp S.1 with
 | none=>
  rw[hx] at hv
  subst hv
  refine iteF ⟨_,rfl,k r H1 ?_ e1 t1⟩
  rw[<- hrun]
  unfold runS
  rw[hx]
  exact h1
 | some x=>
  rw[hx] at hv
  obtain⟨r2,rfl,hs⟩:=hv
  have o:=jJ0 so.g hx
  have gpl:=so.g.pl
  have w1:=so.g.w1
  have so2:=jI0 so hx
  obtain⟨sb,st,sp,sk,c1,c2,c3,c4,c5⟩:=hs.ex
  obtain⟨rb,rt,rp,rk,d1,d2,d3,d4,d5⟩:=h1.ex
  refine iteT ⟨fun σ' H'=>∃ (r:Addr) (S:S4) (v:V) (v3:Option V),σ'=[some (.ref a),some (.ref r),some v,v3]/\S4At H' r S/\SOk S/\OSt H' v S.1/\runS m' S=endS b/\S.1.2.2.length<m'/\ExtT tb H H'/\TabP H' tb,fun σ' H' q=>⟨m',ce _,q⟩,?_⟩
  have tl:=jBF o.t.ris o.t.bnd w1
  have al:=yM _ 0 _ o.a.ris o.a.bnd
  have kl:=so.k
  have ok1:=o.k
  refine⟨_,rfl,r,_,3,_,rfl,rfl,SqT.of d1,rfl,_,rfl,r2,_,3,_,rfl,rfl,SqT.of c1,rfl,_,rfl,r,_,2,_,rfl,rfl,SqT.of d1,rfl,sk,rp,x.2.2,S.2.2.1,rfl,c5,d4,fun p hp=>by rw[so.p]; exact o.kb p hp,by lia,fun q1 H2 f2 e2=>?_⟩
  refine⟨rk,q1,_,_,rfl,rfl,e2 _ _ d5,f2,by rw[ac,ac,ac,ah]; lia,fun q2 H3 f3 e3=>?_⟩
  rw[<- au] at f3
  refine⟨q2,S.2.2.2++x.2.2.map (at_ S.2.2.1),rfl,f3,by rw[aE,ac]; lia,fun l ns hl hs1 hp1=>?_⟩
  refine⟨l,_,rfl, .inl ⟨SqL.of j7,fun q3 hq3=>?_⟩⟩
  rw[jBS hs1 hp1]
  have e4:Ext H3 (L2.upd (L2.upd H3 l (.lst ((srt (S.2.2.2++x.2.2.map (at_ S.2.2.1))).map V.int))) q3 (.tup ((srt (S.2.2.2++x.2.2.map (at_ S.2.2.1))).map V.int))):=by
   rw[jBS hs1 hp1] at hq3
   exact((Ext.refl _).new hl _).new hq3 _
  have f4:(L2.upd (L2.upd H3 l (.lst ((srt (S.2.2.2++x.2.2.map (at_ S.2.2.1))).map V.int))) q3 (.tup ((srt (S.2.2.2++x.2.2.map (at_ S.2.2.1))).map V.int))) q3=some (.tup ((srt (S.2.2.2++x.2.2.map (at_ S.2.2.1))).map V.int)):=j7
  generalize L2.upd (L2.upd H3 l (.lst ((srt (S.2.2.2++x.2.2.map (at_ S.2.2.1))).map V.int))) q3 (.tup ((srt (S.2.2.2++x.2.2.map (at_ S.2.2.1))).map V.int))=H4 at e4 f4
  have E4:=(e2.trans e3).trans e4
  have tS:∀ p∈x.1,0<=p/\p<(S.2.1.length:Int):=fun p hp=>by
   have:=o.t.bnd p hp
   have:=so.t
   lia
  refine⟨_,rfl,r2,_,0,_,rfl,rfl,SqT.of (E4 _ _ c1),rfl,_,rfl,r2,_,1,_,rfl,rfl,SqT.of (E4 _ _ c1),rfl,_,rfl,r,_,1,_,rfl,rfl,SqT.of (E4 _ _ d1),rfl,st,rt,x.1,S.2.1,rfl,E4 _ _ c3,E4 _ _ d3,tS,by lia,fun q4 H5 f5 e5=>?_⟩
  have E5:=E4.trans e5
  refine⟨_,rfl,r2,_,2,_,rfl,rfl,SqT.of (E5 _ _ c1),rfl,_,rfl,r,_,2,_,rfl,rfl,SqT.of (E5 _ _ d1),rfl,sp,rp,x.2.1,S.2.2.1,rfl,E5 _ _ c4,E5 _ _ d4,fun p hp=>by rw[so.p]; exact o.a.bnd p hp,by lia,fun q5 H6 f6 e6=>?_⟩
  refine⟨_,rfl,by show (4:Nat)<=_; decide,fun r3 H7 f7 e7=>?_⟩
  have e57:=e6.trans e7
  have e47:=e5.trans e57
  have E7:=E4.trans e47
  have A7:S4At H7 r3 (adv S x):=⟨sb,q4,q5,q3,f7,c2.mono E7.tups,e57 _ _ f5,e7 _ _ f6,e47 _ _ f4⟩
  have t7:=t1.ext E7
  have B7:BxAt H7 sb (adv S x).1:=c2.mono E7.tups
  have lt:=jK8 so hx
  have hrun':runS m' (adv S x)=endS b:=by
   rw[<- hrun]
   conv=>rhs; unfold runS
   rw[hx]
  have X7:ExtT tb H H7:=e1.trans (ExtT.of E7)
  refine⟨_,rfl,r3,_,0,_,rfl,rfl,SqT.of f7,rfl,sb,(adv S x).1,rfl,B7,so2.g,t7,fun hn H8 e8=>?_,fun y hy r4 H8 R8 e8 t8=>?_⟩
  ·exact⟨r3,adv S x, .non,_,rfl,A7.mono e8.tups,so2,by unfold OSt; rw[hn],hrun',by lia,X7.trans (ExtT.of e8),t7.ext e8⟩
  ·exact⟨r3,adv S x, .ref r4,_,rfl,A7.mono (Tups.ofT e8 t7),so2,by unfold OSt; rw[hy]; exact⟨r4,rfl,R8⟩,hrun',by lia,X7.trans e8,t8⟩
theorem jMD {fd:FuncData}(F:Fun K "turned_smaller" "turned_smaller" qI f fd)(T:Txt mg)(CS:Can P w K mg base "step_of" 5 fS fdS ["box"] (jBM tb))(CT:Can P w K mg base "traced" 1 fT fdT ["places","numbers"] jAM):FnOk P w K mg base CX0 6 f fd ["box"] (jBL tb):=by
 refine F.ok scTurned (fun vs H Q E h=>?_) (fun dl A outer s H vs Q E hr h=>?_)
 ·obtain⟨_,_,rfl,_⟩:=h
  rfl
 ·obtain⟨a,b,rfl,hB,g,tab,q⟩:=h
  refine⟨_,(jRK T CS CT hr).2.h,?_⟩
  obtain⟨qm,qp,ps,b1,b2,b3,b4⟩:=id hB.ex
  have pl:=b4.len
  have gpl:=g.pl
  have w0:=g.w0
  have w1:=g.w1
  refine⟨_,rfl,_,rfl,a,_,0,_,rfl,rfl,SqT.of b1,rfl,b.1,rfl,fun x hx=>⟨x,0,b.1,rfl,j7,by decide,w0,by lia,fun t ht=>?_⟩⟩
  rw[jAI]
  have e2:Ext H (L2.upd (L2.upd H x (.rng 0 b.1)) t (.tup ((upto b.1.toNat).map V.int))):=((Ext.refl _).new hx _).new ht _
  have d2:(L2.upd (L2.upd H x (.rng 0 b.1)) t (.tup ((upto b.1.toNat).map V.int))) t=some (.tup ((upto b.1.toNat).map V.int)):=j7
  generalize L2.upd (L2.upd H x (.rng 0 b.1)) t (.tup ((upto b.1.toNat).map V.int))=H2 at e2 d2
  refine⟨_,rfl,a,_,2,_,rfl,rfl,SqT.of (e2 _ _ b1),rfl,qp,_,rfl, .inr (SqT.of (e2 _ _ b3)),(ps.length:Int),rfl,fun x hx=>⟨x,0,(ps.length:Int),rfl,j7,by decide,by lia,by lia,fun p hp=>?_⟩⟩
  rw[jAI,bp,pl]
  have e3:Ext H2 (L2.upd (L2.upd H2 x (.rng 0 (b.2.2.length:Int))) p (.tup ((upto b.2.2.length).map V.int))):=by
   rw[pl] at hp
   exact((Ext.refl _).new hx _).new hp _
  have d3:(L2.upd (L2.upd H2 x (.rng 0 (b.2.2.length:Int))) p (.tup ((upto b.2.2.length).map V.int))) p=some (.tup ((upto b.2.2.length).map V.int)):=j7
  generalize L2.upd (L2.upd H2 x (.rng 0 (b.2.2.length:Int))) p (.tup ((upto b.2.2.length).map V.int))=H3 at e3 d3
  refine⟨by show (0:Nat)<=_; decide,fun k H4 d4 e4=>?_⟩
  refine⟨by show (4:Nat)<=_; decide,fun r H5 d5 e5=>?_⟩
  have e35:=e4.trans e5
  have E5:Ext H H5:=(e2.trans e3).trans e35
  have A5:S4At H5 r (begS b):=⟨a,t,p,k,d5,hB.mono E5.tups,e35 _ _ (e3 _ _ d2),e35 _ _ d3,e5 _ _ d4⟩
  have t5:=tab.ext E5
  refine⟨_,rfl,a,b,rfl,hB.mono E5.tups,g,t5,fun hn H6 e6=>?_,fun y hy r4 H6 R6 e6 t6=>?_⟩
  ·exact jCY T CS CT hr g (A5.mono e6.tups) (by unfold OSt; rw[hn]) (t5.ext e6) fun r7 H7 a7 e7 t7=>q r7 H7 a7 ((ExtT.of (E5.trans e6)).trans e7) t7
  ·exact jCY T CS CT hr g (A5.mono (Tups.ofT e6 t5)) (by unfold OSt; rw[hy]; exact⟨r4,rfl,R6⟩) t6 fun r7 H7 a7 e7 t7=>q r7 H7 a7 (((ExtT.of E5).trans e6).trans e7) t7
theorem jQ7 {w:Int}{ms:List Int}{pcs:List (List Int×Int)}{lot:List Int}(h:∀ j:Nat,j<w.toNat->¬ (j:Int)∈ms->¬ (j:Int)∈lot->jCA pcs lot j=false):xB w ms pcs lot=false:=by
 unfold xB
 rw[cw]
 intro m hm
 obtain⟨h1,h2⟩:=aW.mp hm
 obtain⟨a,b,c⟩:=mus_mem.mp h1
 have h2:¬ m∈lot:=by simpa using h2
 have:=h m.toNat (by lia)
 rw[show ((m.toNat:Nat):Int)=m by lia] at this
 rw[this c h2]
 exact ar
theorem jNO {w:Int}{ms:List Int}{pcs:List (List Int×Int)}{lot:List Int}{j:Nat}(hj:j<w.toNat)(h1:¬ (j:Int)∈ms)(h2:¬ (j:Int)∈lot)(h:jCA pcs lot j=true):xB w ms pcs lot=true:=by
 unfold xB
 rw[cf]
 exact⟨j,aW.mpr ⟨mus_mem.mpr ⟨by lia,by lia,h1⟩,by simpa using h2⟩,h⟩
theorem jL0 {m:List (Option Nat)}{σ:St}{H:Hp}{Q:VK}{qp:Addr}{ps:List V}{pcs:List (List Int×Int)}{t:Int}(h3:H qp=some (.tup ps))(h4:PcsAt H ps pcs)(hl:pcs.length<=32)(h0:blkσ m σ=[none,none,some (.int t)])
  (q:∀ D H' zs,H' D=some (.lst zs)->LotsAt H' zs (qP pcs t)->Ext H H'->H D=none->Q (.ref D) H'):qE m (gTup K 2 (gCons (kI 0) (gCons (kI 1) gNil))) (tTest (tOp (rIn K false) (tVar 2) (tVar 0))) (tVar 0) σ Q (Itt K qp) H:=by
 refine jAP (xs:=ps) (fun σ'=>∃ v v',σ'=[v,v',some (.int t)]) (holdZ pcs t) (holdZ.ok _ _) h3 (by rw[h4.len,ah]; lia) ⟨_,_,h0⟩ ?_ fun D H' zs hD e hn hz=>q D H' zs hD (by rw[h4.len] at hz; unfold holdZ at hz; rw[aO] at hz; exact hz) e hn
 rintro j x σ' H' zs hx ⟨v,v',rfl⟩ e hz R S hR hS
 obtain⟨pc,hpc,pa,pq,rfl,c1,c2⟩:=h4.at hx
 refine⟨pa,_,rfl,SqT.of (e _ _ c1),rfl,_,_,rfl,_,_,rfl,rfl,?_⟩
 dsimp only [kI]
 refine⟨_,rfl,_,rfl,pq,_,rfl, .inr (SqT.of (e _ _ c2)),rfl,kL _,_,rfl,?_⟩
 rw[kU]
 refine ite2 (fun hz2=>?_) (fun hz2=>?_)
 ·have ht:t∈pc.1:=aq hz2
  refine⟨_,rfl,hR _ _ _ ⟨_,_,rfl⟩ (Ext.refl _) ?_⟩
  unfold holdZ
  rw[jHC hpc ht]
  exact LotsAt.snoc ⟨pq,rfl,e _ _ c2⟩ hz
 ·have ht:¬ t∈pc.1:=fun y=>hz2 (ao y)
  refine hS _ _ ⟨_,_,rfl⟩ (Ext.refl _) ?_
  unfold holdZ
  rw[jJY hpc ht]
  exact hz
theorem jIB {m:List (Option Nat)}{σ:St}{H:Hp}{Q:VK}{l:Addr}{zs:List V}{ls:List (List Int)}{x:Int}(hl:H l=some (.lst zs))(hz:LotsAt H zs ls)(hn:ls.length<=100)(h0:blkσ m σ=[none,some (.int x)])
  (q:∀ D H',H' D=some (.lst ((ls.map fun h=>!decide (x∈h)).map V.bl))->Ext H H'->H D=none->Q (.ref D) H'):qE m (kI 0) yG (tOp (rIn K true) (tVar 1) (tVar 0)) σ Q (Itl K l) H:=by
 refine jCF (xs:=zs) (fun σ'=>∃ v,σ'=[v,some (.int x)]) (mapZ (ls.map fun h=>!decide (x∈h)) V.bl) (mapZ.ok _ _) hl (by rw[hz.len,ah]; lia) ⟨_,h0⟩ ?_ fun D H' ys hD e hn2 hy=>q D H' (by rw[hD,hy.all (by rw[ac,hz.len]; exact ai _)]) e hn2
 rintro j v σ' H' ys hx ⟨v',rfl⟩ e hy R S hR hS
 obtain⟨p,hp,qa,rfl,c⟩:=hz.at hx
 dsimp only [kI,yG]
 rw[aD rfl]
 refine⟨_,rfl,_,rfl,qa,_,rfl, .inr (SqT.of (e _ _ c)),rfl,kL _,hR _ _ _ ⟨_,rfl⟩ (Ext.refl _) ?_⟩
 rw[kU]
 exact hy.yes (by rw[ay,hp]; rfl)
abbrev jJI:List Str:=["box","k","own","must","holders"]
theorem scWIdle:FnScope jJI ["box","k"] (jA jC6):= {}
def jTJ (T:Txt mg): { t:TS // JSs (XOf jJI "_law_idle" jC6 P w K mg base f dl A outer s H0 E) (jN jC6) t} :=
 have nd:=scWIdle.nd
 ⟨_,(jB (jT (i:=2) nd rfl lL (jJ jL (jJ jL (jJ jL (jv 0 rfl vL) (jC) jE) (jv 1 rfl vL) y9) (jC) jE) jDS)
   (jB (qS bB rfl (kX gD T.range (j4 (jJ jL (jv 0 rfl vL) (jC) jE) j8 jI) jI) (jQ (i:=3) nd rfl yX) (jH (yJ (jt_w (jF0 (jY jAE (jv 3 rfl vC) (jJ jL (jv 0 rfl vL) (jC) jE) jE2) (jCQ (jY jAE (jv 3 rfl vC) (jv 2 rfl vL) yN)))) (jB (jNC (i:=4) nd rfl yX (kN (m:=[none,none,some 3]) (Nc:=["things","weight","must"]) rfl (yP (jJ jL (jv 0 rfl vL) (jC) jE)) rfl (by decide+kernel) (by decide+kernel) (jX (psc:=jA jC6)) (jM (N:=jJI) rfl rfl (by decide+kernel)) (fun cl C fp s H=>jBH (i:=0) (j:=1) rfl (show (["things","weight","must"]:List Str).Nodup by decide+kernel) rfl rfl (by decide+kernel) (by decide+kernel)) (fun cl C fp s H=>yI (jY jAU (jv 2 rfl jZ) (jv 0 rfl jS) yN)) (fun cl C fp s H=>(jv 0 rfl jS)) jF5) (by rfl))
   (jH (yJ (qG (jK (jBI rfl) gD T.any (by decide+kernel) (j4 (jJW (m:=[none,some 4]) (Nc:=["t","holders"]) rfl (yP (jv 2 rfl vL)) rfl (by decide+kernel) (by decide+kernel) (jX (psc:=jA jC6)) (jM (N:=jJI) rfl rfl (by decide+kernel)) (fun cl C fp s H=>jQ (i:=0) (show (["t","holders"]:List Str).Nodup by decide+kernel) rfl (jN4 (by decide+kernel))) (fun cl C fp s H=>kZ) (fun cl C fp s H=>(jH8 (jK (jHN rfl) (gl_bC (by decide+kernel)) T.any (by decide+kernel) (j4 (kN (m:=[none,some 0]) (Nc:=["things","t"]) rfl (jF1 (jv 1 rfl (jLF (by decide+kernel)))) rfl (by decide+kernel) (by decide+kernel) (jK0 (by decide+kernel)) (jM (N:=["t","holders"]) rfl rfl (by decide+kernel)) (fun cl C fp s H=>jQ (i:=0) (show (["things","t"]:List Str).Nodup by decide+kernel) rfl yA) (fun cl C fp s H=>kZ) (fun cl C fp s H=>(q0 jIC (jv 1 rfl jZ) (jv 0 rfl jS) yN)) yD) j8 jR) jR))) yD) j8 jR) jR) yY) (jH (kB (xD))) kP))) kP)) kQ)
   (jH (kB (xD)))))⟩
theorem jPH {fd:FuncData}(F:Fun K "_law_idle" "_law_idle" jC6 f fd)(T:Txt mg):FnOk P w K mg base CX0 1 f fd ["box","k"] jCZ:=by
 refine F.ok scWIdle (fun vs H Q E h=>?_) (fun dl A outer s H vs Q E hr h=>?_)
 ·obtain⟨_,_,_,_,_,rfl,_⟩:=h
  rfl
 ·obtain⟨b,k,w,ms,pcs,rfl,hB,g,k0,k1,q⟩:=h
  refine⟨_,(jTJ T).2.h,?_⟩
  obtain⟨qm,qp,ps,b1,b2,b3,b4⟩:=id hB.ex
  have pl:=b4.len
  have w0:=g.w0
  have w1:=g.w1
  have gpl:=g.pl
  obtain⟨pa,pq,g1,g2,g3⟩:=jA5 b4 k0 k1
  have l16:=jA2 g k0 k1
  generalize hlot:j9 pcs k=lot at g3 l16 q
  refine⟨_,rfl,b,_,2,_,rfl,rfl,SqT.of b1,rfl,_,rfl,qp,_,k,_,rfl,rfl,SqT.of b3,g1,pa,_,0,_,rfl,rfl,SqT.of g2,rfl,?_⟩
  refine⟨_,rfl,b,_,0,_,rfl,rfl,SqT.of b1,rfl,w,rfl,by lia,by lia,jAF (n:=w.toNat) (fun i σ H'=>(∃ v3 v4,σ=[some (.ref b),some (.int k),some (.ref pq),v3,v4])/\Ext H H'/\∀ j:Nat,j<i->¬ (j:Int)∈ms->¬ (j:Int)∈lot->jCA pcs lot j=false) ⟨⟨_,_,rfl⟩,Ext.refl _,fun j hj=>absurd hj (cN _)⟩ ?_ ?_⟩
  ·rintro i σ H' hi ⟨⟨v3,v4,rfl⟩,e,hno⟩
   have e0:(0+(i:Int))=(i:Int):=by lia
   rw[e0]
   have more:((¬ (i:Int)∈ms->¬ (i:Int)∈lot->jCA pcs lot i=false))->∀ j:Nat,j<i+1->¬ (j:Int)∈ms->¬ (j:Int)∈lot->jCA pcs lot j=false:=fun hx j hj=>by
    by_cases hji:j=i
    ·rw[hji]; exact hx
    ·exact hno j (by lia)
   refine⟨_,rfl,_,rfl,b,_,1,_,rfl,rfl,SqT.of (e _ _ b1),rfl,qm,_,rfl, .inr (SqT.of (e _ _ b2)),rfl,kL _,_,rfl,?_⟩
   rw[kU]
   refine ite2 (fun hz=>?_) (fun hz=>iteF ⟨⟨_,_,rfl⟩,e,more fun h1=>absurd (by simpa using h1) hz⟩)
   have hm:¬ (i:Int)∈ms:=by
    have hz:(!decide ((i:Int)∈ms))=true:=hz
    simpa using hz
   refine⟨_,rfl,_,rfl,pq,_,rfl, .inr (SqT.of (e _ _ g3)),rfl,kL _,_,rfl,?_⟩
   rw[kU]
   refine ite2 (fun hz=>?_) (fun hz=>⟨⟨_,_,rfl⟩,e,more fun h1 h2=>absurd (by simpa using h2) hz⟩)
   have hl:¬ (i:Int)∈lot:=by
    have hz:(!decide ((i:Int)∈lot))=true:=hz
    simpa using hz
   refine⟨_,rfl,b,_,2,_,rfl,rfl,SqT.of (e _ _ b1),rfl,qp,rfl,⟨_,SqT.of (e _ _ b3)⟩,jL0 (t:=i) (e _ _ b3) (b4.mono e.tups) (by lia) rfl fun D2 H4 zs h4 z4 e4 n4=>?_⟩
   have E4:=e.trans e4
   have hl4:=jHD pcs i
   refine⟨_,rfl,pq,rfl,⟨_,SqT.of (E4 _ _ g3)⟩,jAP (xs:=lot.map V.int) (fun σ'=>∃ v,σ'=[v,some (.ref D2)]) (mapZ (lot.map fun x=>(qP pcs i).all fun h=>decide (x∈h)) V.bl) (mapZ.ok _ _) (E4 _ _ g3) (by rw[ac,ah]; lia) ⟨_,rfl⟩ ?_ ?_⟩
   ·rintro j x σ' H' ys hx ⟨v,rfl⟩ e5 hy R S hR hS
    obtain⟨z,hz,rfl⟩:=int_at hx
    dsimp only [kI,yG]
    rw[aD rfl]
    refine⟨_,rfl,D2,rfl,⟨_,SqL.of (e5 _ _ h4)⟩,jIB (e5 _ _ h4) (z4.mono e5.tups) (by lia) rfl fun D3 H6 h6 e6 n6=>⟨D3,_,rfl,SqL.of h6,_,rfl,hR _ _ _ ⟨_,rfl⟩ e6 ?_⟩⟩
    have eb:(!((qP pcs i).map fun h=>!decide (z∈h)).any id)=(qP pcs i).all fun h=>decide (z∈h):=by
     rw[gu,List.not_any_eq_all_not]
     congr 1
     funext h
     simp
    rw[eb]
    exact hy.yes (by rw[ay,hz]; rfl)
   ·rintro D3 H6 ys h6 e6 n6 hy
    obtain rfl:=hy.all (by rw[ac,ac]; exact ai _)
    refine⟨D3,_,rfl,SqL.of h6,_,rfl,?_⟩
    have ea:(lot.map fun x=>(qP pcs i).all fun h=>decide (x∈h)).any id=jCA pcs lot i:=by
     rw[gu]
     rfl
    rw[ea]
    refine ite2 (fun hz=>?_) (fun hz=>⟨⟨_,_,rfl⟩,E4.trans e6,more fun _ _=>by simpa using hz⟩)
    have:=q H6 (E4.trans e6)
    rw[jNO hi hm hl hz] at this
    exact this
  ·rintro σ H3 ⟨⟨v3,v4,rfl⟩,e3,hno⟩
   have:=q H3 e3
   rw[jQ7 hno] at this
   exact this
abbrev jGW:List Str:=["box","idle","must","holders"]
theorem scWStep:FnScope jGW ["box"] (jA jBU):= {}
def WStAt (H:Hp)(v:V)(b:Bx):Prop:=match qQ b with
 | some k=>∃ r,v= .ref r/\H r=some (.tup [.str "idle", .int (k:Int)])
 | none=>match nxt b.1.toNat b.2.1 b.2.2 [] with
  | some p=>∃ r,v= .ref r/\H r=some (.tup [.str "lone", .int p.2])
  | none=>v= .non
def jCI:Sp:=fun vs H Q _=>∃ (a:Addr) (b:Bx),vs=[.ref a]/\BxAt H a b/\GB b/\∀ v H',WStAt H' v b->Ext H H'->Q v H'
def jTI (T:Txt mg)(CI:Can P w K mg base "_law_idle" 1 fI fdI ["box","k"] jCZ)(hr:Room 1 (XOf jGW "_law_step" jBU P w K mg base f dl A outer s H0 E).A): { t:TS // JSs (XOf jGW "_law_step" jBU P w K mg base f dl A outer s H0 E) (jN jBU) t} :=
 have nd:=scWStep.nd
 ⟨_,(jB (jCR (i:=1) nd rfl lL ⟨by rfl⟩ (m:=[none,some 0]) (Nc:=["k","box"]) rfl (kX gD T.range (j4 (jK jV gD T.len (by decide+kernel) (j4 (jJ jL (jv 0 rfl vC) (jC) jE) j8 jI) jI) j8 jG) jG) rfl (by decide+kernel) (by decide+kernel) (jX (psc:=jA jBU)) (jM (N:=jGW) rfl rfl (by decide+kernel)) (fun cl C fp s H=>jQ (i:=0) (show (["k","box"]:List Str).Nodup by decide+kernel) rfl yA) (fun cl C fp s H=>yI (qG (CI.je hr gl_b (j4 (jv 1 rfl jZ) (j4 (jv 0 rfl jS) j8 j6) j6) j6) yY)) (fun cl C fp s H=>(jv 0 rfl jS)) kQ)
   (jB (yJ (jY (jSJ hr.units0) (jv 1 rfl vL) (yF j8) (kT _)) (jH (kB (kR (j4 (jF2) (j4 (jJ jB9 (jv 1 rfl vL) (jC) jE) j8 jI) jU)))) kP)
   (jB (qS bB rfl (kX gD T.range (j4 (jJ jL (jv 0 rfl vC) (jC) jE) j8 jI) jI) (jQ (i:=2) nd rfl yX) (jB (jCR (i:=3) nd rfl lL ⟨by rfl⟩ (m:=[none,some 2,some 0]) (Nc:=["k","must","box"]) rfl (kX gD T.range (j4 (jK jV gD T.len (by decide+kernel) (j4 (jJ jL (jv 0 rfl vC) (jC) jE) j8 jI) jI) j8 jG) jG) rfl (by decide+kernel) (by decide+kernel) (jX (psc:=jA jBU)) (jM (N:=jGW) rfl rfl (by decide+kernel)) (fun cl C fp s H=>jQ (i:=0) (show (["k","must","box"]:List Str).Nodup by decide+kernel) rfl yA) (fun cl C fp s H=>yI (jY jAU (jv 1 rfl jZ) (jJ kD (jJ kD (jJ kD (jv 2 rfl jZ) (jC) jE) (jv 0 rfl jS) y9) (jC) jE) jE2)) (fun cl C fp s H=>(jv 0 rfl jS)) kQ)
   (jH (yJ (jt_w (jF0 (jY jAE (jv 2 rfl vC) (jJ jL (jv 0 rfl vC) (jC) jE) jE2) (jCQ (jY qX (jK jV gD T.len (by decide+kernel) (j4 (jv 3 rfl vL) j8 j6) j6) (jC) (kT _))))) (jH (kB (kR (j4 (jF2) (j4 (jJ jB9 (jv 3 rfl vL) (jC) jE) j8 jI) jU)))) kP))) kQ)
   (jH (kB (jBW))))))⟩
theorem jNQ (pcs:List (List Int×Int))(t:Int):qR pcs [] t=(upto pcs.length).filter fun k=>decide (t∈j9 pcs k):=by
 unfold qR
 refine List.filter_congr fun k _=>?_
 have:fitS [] (pcs.getD k.toNat ([],0))=true:=by
  unfold fitS
  rw[b8,cw]
  intro x _
  simp
 rw[this,gY]
theorem jHE {p:Int->Bool} :∀ (l:List Int),(l.filter p).head?=l.find? p
 | []=>rfl
 | a::r=>by
  rw[bW,cP]
  cases h:p a with
  | true=>rw[aD rfl]; rfl
  | false=>rw[aF ar]; exact jHE r
theorem jKV (b:Bx):(qQ b).map (fun (k:Nat)=>(k:Int))=((upto b.2.2.length).filter fun k=>xB b.1 b.2.1 b.2.2 (j9 b.2.2 k)).head?:=by
 rw[jHE]
 unfold qQ upto
 rw[List.find?_map]
 rfl
theorem jPG {fd:FuncData}(F:Fun K "_law_step" "_law_step" jBU f fd)(T:Txt mg)(CI:Can P w K mg base "_law_idle" 1 fI fdI ["box","k"] jCZ):FnOk P w K mg base CX0 2 f fd ["box"] jCI:=by
 refine F.ok scWStep (fun vs H Q E h=>?_) (fun dl A outer s H vs Q E hr h=>?_)
 ·obtain⟨_,_,rfl,_⟩:=h
  rfl
 ·obtain⟨a,b,rfl,hB,g,q⟩:=h
  refine⟨_,(jTI T CI hr).2.h,?_⟩
  obtain⟨qm,qp,ps,b1,b2,b3,b4⟩:=id hB.ex
  have pl:=b4.len
  have gpl:=g.pl
  have w0:=g.w0
  have w1:=g.w1
  refine⟨_,rfl,a,_,2,_,rfl,rfl,SqT.of b1,rfl,qp,_,rfl, .inr (SqT.of b3),(ps.length:Int),rfl,by lia,by lia,jCE (n:=ps.length) (fun σ'=>∃ v,σ'=[v,some (.ref a)]) (outZ (upto b.2.2.length) (fun k=>xB b.1 b.2.1 b.2.2 (j9 b.2.2 k)) V.int) (outZ.ok _ _ _) (by rw[ah]; lia) ⟨_,rfl⟩ ?_ ?_⟩
  ·rintro j σ' H' zs hj ⟨v,rfl⟩ e hz R S hR hS
   have e0:(0+(j:Int))=(j:Int):=by lia
   rw[e0]
   dsimp only [kI]
   refine⟨_,rfl,_,rfl,a,j,b.1,b.2.1,b.2.2,rfl,hB.mono e.tups,g,by lia,by lia,fun H2 e2=>⟨_,rfl,?_⟩⟩
   refine ite2 (fun h=>⟨_,rfl,hR _ _ _ ⟨_,rfl⟩ e2 (hz.yes (yC (by lia)) h)⟩) (fun h=>hS _ _ ⟨_,rfl⟩ e2 (hz.no (yC (by lia)) (by simpa using h)))
  ·rintro D H1 zs hD e1 nD hz
   have hz:=hz.all (by rw[kJ]; lia)
   subst hz
   have hli:=jKV b
   generalize (upto b.2.2.length).filter (fun k=>xB b.1 b.2.1 b.2.2 (j9 b.2.2 k))=L at hD hli
   refine⟨_,rfl,by show (0:Nat)<=_; decide,fun l2 H2 d2 e2 n2=>?_⟩
   have hD2:=e2 _ _ hD
   have E2:=e1.trans e2
   refine⟨D,l2,_,rfl,rfl,hD2,d2,_,rfl,?_⟩
   cases L with
   | cons k0 rest=>
    refine iteT ?_
    obtain⟨k,hk,rfl⟩:∃ k:Nat,qQ b=some k/\(k:Int)=k0:=by
     have hli:(qQ b).map (fun (k:Nat)=>(k:Int))=some k0:=hli
     exact ff.mp hli
    refine⟨_,rfl,D,_,0, .int (k:Int),rfl,rfl,SqL.of hD2,yR (j:=0) rfl,by show (2:Nat)<=_; decide,fun r H3 d3 e3=>q _ H3 ?_ (E2.trans e3)⟩
    unfold WStAt
    rw[hk]
    exact⟨r,rfl,d3⟩
   | nil=>
    have hk:qQ b=none:=by
     have hli:(qQ b).map (fun (k:Nat)=>(k:Int))=none:=hli
     exact Option.map_eq_none_iff.mp hli
    refine iteF ?_
    refine⟨_,rfl,a,_,0,_,rfl,rfl,SqT.of (E2 _ _ b1),rfl,b.1,rfl,by lia,by lia,jAF (n:=b.1.toNat) (fun i σ H'=>(∃ v2 v3,σ=[some (.ref a),some (.ref D),v2,v3])/\Ext H H'/\∀ j:Nat,j<i->cand b.2.1 b.2.2 [] j=false) ⟨⟨_,_,rfl⟩,E2,fun j hj=>absurd hj (cN _)⟩ ?_ ?_⟩
    ·rintro i σ H' hi ⟨⟨v2,v3,rfl⟩,e,hno⟩
     have e0:(0+(i:Int))=(i:Int):=by lia
     rw[e0]
     have more:cand b.2.1 b.2.2 [] i=false->∀ j:Nat,j<i+1->cand b.2.1 b.2.2 [] j=false:=fun hx j hj=>by
      by_cases hji:j=i
      ·rw[hji]; exact hx
      ·exact hno j (by lia)
     refine⟨_,rfl,a,_,2,_,rfl,rfl,SqT.of (e _ _ b1),rfl,qp,_,rfl, .inr (SqT.of (e _ _ b3)),(ps.length:Int),rfl,by lia,by lia,jCE (n:=ps.length) (fun σ'=>∃ v,σ'=[v,some (.int (i:Int)),some (.ref a)]) (outZ (upto b.2.2.length) (fun k=>decide ((i:Int)∈j9 b.2.2 k)) V.int) (outZ.ok _ _ _) (by rw[ah]; lia) ⟨_,rfl⟩ ?_ ?_⟩
     ·rintro j σ' H' zs hj ⟨v,rfl⟩ e5 hz R S hR hS
      have e0:(0+(j:Int))=(j:Int):=by lia
      have E5:=e.trans e5
      obtain⟨pa,pq,g1,g2,g3⟩:=jA5 b4 (k:=j) (by lia) (by lia)
      rw[e0]
      dsimp only [kI]
      refine⟨_,rfl,_,rfl,a,_,2,_,rfl,rfl,SqT.of (E5 _ _ b1),rfl,_,rfl,qp,_,_,_,rfl,rfl,SqT.of (E5 _ _ b3),g1,pa,_,0,_,rfl,rfl,SqT.of (E5 _ _ g2),rfl,pq,_,rfl, .inr (SqT.of (E5 _ _ g3)),rfl,kL _,_,rfl,?_⟩
      rw[kU]
      refine ite2 (fun h=>⟨_,rfl,hR _ _ _ ⟨_,rfl⟩ (Ext.refl _) (hz.yes (yC (by lia)) h)⟩) (fun h=>hS _ _ ⟨_,rfl⟩ (Ext.refl _) (hz.no (yC (by lia)) (by
       have h:¬ decide ((i:Int)∈j9 b.2.2 (j:Int))=true:=h
       simpa using h)))
     ·rintro D3 H3 zs h3 e3 n3 hz
      have hz:=hz.all (by rw[kJ]; lia)
      rw[<- jNQ] at hz
      subst hz
      have E3:=e.trans e3
      refine⟨_,rfl,_,rfl,a,_,1,_,rfl,rfl,SqT.of (E3 _ _ b1),rfl,qm,_,rfl, .inr (SqT.of (E3 _ _ b2)),rfl,kL _,_,rfl,?_⟩
      rw[kU]
      have ec:cand b.2.1 b.2.2 [] i=(!decide ((i:Int)∈b.2.1)&&decide ((qR b.2.2 [] i).length=1)):=rfl
      refine ite2 (fun hz=>?_) (fun hz=>iteF ⟨⟨_,_,rfl⟩,E3,more (by
       have hz:¬ (!decide ((i:Int)∈b.2.1))=true:=hz
       rw[ec,bJ.mpr hz,dy])⟩)
      have hz:(!decide ((i:Int)∈b.2.1))=true:=hz
      refine⟨_,rfl,D3,_,rfl, .inl (SqL.of h3),rfl,_,rfl,?_⟩
      have ed:decide (V.int (((qR b.2.2 [] i).map V.int).length:Int)=V.int 1)=decide ((qR b.2.2 [] i).length=1):=by
       rw[ac]
       exact hW.mpr ⟨fun h=>by have:=V.int.inj h; lia,fun h=>by rw[h]; rfl⟩
      show if decide (V.int (((qR b.2.2 [] i).map V.int).length:Int)=V.int 1)=true then _ else _
      rw[ed]
      refine ite2 (fun h1=>?_) (fun h1=>⟨⟨_,_,rfl⟩,E3,more (by rw[ec,bJ.mpr h1,bP])⟩)
      have hc:cand b.2.1 b.2.2 [] i=true:=by rw[ec,hz,h1]; rfl
      obtain⟨k,hk1⟩:=fj.mp (aq h1)
      have hx:=jJE hi hc hk1 hno
      rw[hk1] at h3
      refine⟨_,rfl,D3,_,0,_,rfl,rfl,SqL.of h3,rfl,by show (2:Nat)<=_; decide,fun r H4 d4 e4=>q _ H4 ?_ (E3.trans e4)⟩
      unfold WStAt
      rw[hk,hx]
      exact⟨r,rfl,d4⟩
    ·rintro σ H3 ⟨⟨v2,v3,rfl⟩,e3,hno⟩
     refine q _ H3 ?_ e3
     unfold WStAt
     rw[hk,jJF hno]
theorem jRR (a b:List Int):srt (srt a++b)=srt (a++b):=jBS (jJ1 _) ((jAL _).trans ((jAL a).append_right b))
theorem jK4 {xs:List V}{k:Nat}(h:k<=xs.length):cutV xs none (some (k:Int))=xs.take k:=by
 unfold cutV
 rw[HT.sIx_none,HT.sIx_nat,List.drop_zero,Nat.sub_zero,Nat.min_eq_left h]
theorem jK5 {xs:List V}{k:Nat}(h:k<=xs.length):cutV xs (some (k:Int)) none=xs.drop k:=by
 unfold cutV
 rw[HT.sIx_none,HT.sIx_nat,Nat.min_eq_left h]
 exact bH (by rw[cU]; exact ai _)
theorem PcsAt.take {H:Hp} :∀ (k:Nat) {vs:List V}{ps:List (List Int×Int)},PcsAt H vs ps->PcsAt H (vs.take k) (ps.take k)
 | 0,_,_,_=>trivial
 | k+1,[],[],_=>trivial
 | k+1,_::_,_::_,h=>⟨h.1,PcsAt.take k h.2⟩
 | k+1,[],_::_,h=>h.elim
 | k+1,_::_,[],h=>h.elim
theorem PcsAt.drop {H:Hp} :∀ (k:Nat) {vs:List V}{ps:List (List Int×Int)},PcsAt H vs ps->PcsAt H (vs.drop k) (ps.drop k)
 | 0,_,_,h=>h
 | k+1,[],[],_=>trivial
 | k+1,_::_,_::_,h=>PcsAt.drop k h.2
 | k+1,[],_::_,h=>h.elim
 | k+1,_::_,[],h=>h.elim
theorem PcsAt.app {H:Hp} :∀ {vs:List V}{ps:List (List Int×Int)}{us:List V}{qs:List (List Int×Int)},PcsAt H vs ps->PcsAt H us qs->PcsAt H (vs++us) (ps++qs)
 | [],[],_,_,_,h=>h
 | _::_,_::_,_,_,h,r=>⟨h.1,h.2.app r⟩
 | [],_::_,_,_,h,_=>h.elim
 | _::_,[],_,_,h,_=>h.elim
theorem jQM {S:S4}(so:SOk S){k:Nat}(hk:k<S.1.2.2.length)(ht:srt S.2.2.2=S.2.2.2):adv S (upto S.1.1.toNat,butN S.1.2.2.length k,[])=((S.1.1,S.1.2.1,S.1.2.2.eraseIdx k),S.2.1,S.2.2.1.eraseIdx k,S.2.2.2):=by
 unfold adv
 have h1:=jQD so.g hk
 have h2:(upto S.1.1.toNat).map (at_ S.2.1)=S.2.1:=jTF (by have:=so.t; lia)
 have h3:(butN S.1.2.2.length k).map (at_ S.2.2.1)=S.2.2.1.eraseIdx k:=jF6 (l:=S.2.2.1) (d:=0) so.p hk
 dsimp only
 rw[h1,h2,h3,eX,bf,ht]
theorem jEQ {m:List (Option Nat)}{σ:St}{H:Hp}{Q:VK}{a b:Addr}{ps ns:List Int}(ha:H a=some (.tup (ps.map V.int)))(hb:H b=some (.tup (ns.map V.int)))(hp:∀ p∈ps,0<=p/\p<(ns.length:Int))(hl:ps.length<=1000)(h0:blkσ m σ=[none,some (.ref b)])
  (q:∀ D H',H' D=some (.lst ((ps.map (at_ ns)).map V.int))->Ext H H'->H D=none->Q (.ref D) H'):qE m (kI 0) yG (tOp (rIxT K) (tVar 1) (tVar 0)) σ Q (Itt K a) H:=by
 refine jAP (xs:=ps.map V.int) (fun σ'=>∃ v,σ'=[v,some (.ref b)]) (mapZ (ps.map (at_ ns)) V.int) (mapZ.ok _ _) ha (by rw[ac,ah]; lia) ⟨_,h0⟩ ?_ fun D H' ys hD e nD hy=>q D H' (by rw[hD,hy.all (by rw[ac,ac]; exact ai _)]) e nD
 rintro j x σ' H' ys hx ⟨v,rfl⟩ e hy R S hR hS
 obtain⟨z,hz,rfl⟩:=int_at hx
 have hzb:=hp z (aB hz)
 dsimp only [kI,yG]
 rw[aD rfl]
 refine⟨_,rfl,_,rfl,b,_,z, .int (at_ ns z),rfl,rfl,SqT.of (e _ _ hb),?_,hR _ _ _ ⟨_,rfl⟩ (Ext.refl _) (hy.yes (by rw[ay,hz]; rfl))⟩
 have e2:((z.toNat:Nat):Int)=z:=by lia
 have:=yR (xs:=ns.map V.int) (j:=z.toNat) (v:=V.int (at_ ns z)) (by
  have hz':z.toNat<ns.length:=by lia
  unfold at_
  simp [List.getD,hz'])
 rw[e2] at this
 exact this
abbrev jBE:List Str:=["box","things","pieces","taken","step","k","own","some"]
theorem scWSmall:FnScope jBE ["box"] (jA qC):= {}
def jFD:Sp:=fun vs H Q _=>∃ (a:Addr) (b:Bx),vs=[.ref a]/\BxAt H a b/\GB b/\∀ r H',S4At H' r (endS b)->Ext H H'->Q (.ref r) H'
def jLB (T:Txt mg)(CS:Can P w K mg base "_law_step" 2 fS fdS ["box"] jCI)(CB:Can P w K mg base "_law_behind" 2 fB fdB ["box","some"] jAW)(hr:Room 2 (XOf jBE "_law_smaller" qC P w K mg base f dl A outer s H0 E).A): { t:TS // JSs (XOf jBE "_law_smaller" qC P w K mg base f dl A outer s H0 E) ((jN qC).drop 4) t} :=
 have nd:=scWSmall.nd
 ⟨_,(jB (jJS bB (jY jFT (jv 4 rfl vL) (jBW) (kT _)) (jB (jT (i:=5) nd rfl lL (jJ jL (jv 4 rfl vL) (jC) jE) jDS)
   (jB (yJ (jY qX (jJ jL (jv 4 rfl vL) (jC) jE) (jF2) (kT _)) (jB (jT (i:=0) nd rfl lL (kR (j4 (jJ jL (jv 0 rfl vL) (jC) jE) (j4 (jJ jL (jv 0 rfl vL) (jC) jE) (j4 (yK jB4 (jAN jFI (jJ jL (jv 0 rfl vL) (jC) jE) jBG (jB7 (jv 5 rfl vL))) (jAN jFI (jJ jL (jv 0 rfl vL) (jC) jE) (jB7 (yK yV (jv 5 rfl vL) (jC))) jBG)) j8 yU) jI) jI)) jGL)
   (jH (jT (i:=2) nd rfl yX (yK jB4 (jAN jFI (jv 2 rfl vC) jBG (jB7 (jv 5 rfl vL))) (jAN jFI (jv 2 rfl vC) (jB7 (yK yV (jv 5 rfl vL) (jC))) jBG)) jER))) (jB (qO (xG bb bK bL yW (jv 3 rfl vL) (j4 (jJ jL (jv 2 rfl vC) (jv 5 rfl vL) y9) j8 jI) jI) jW)
   (jB (jJT (CB.je (hr.mono (by decide)) gD (j4 (jv 0 rfl vL) (j4 (kR (j4 (jv 5 rfl vL) j8 j6)) j8 jBT) j6) j6) (jQ1 (i:=0) (j:=6) (l:=7) nd rfl rfl rfl (by decide+kernel) (by decide+kernel) (by decide+kernel)))
   (jB (jT (i:=1) nd rfl yX (jP jO gD T.tuple (by decide+kernel) (j4 (kN (m:=[none,some 1]) (Nc:=["t","things"]) rfl (yP (jv 6 rfl vL)) rfl (by decide+kernel) (by decide+kernel) (jX (psc:=jA qC)) (jM (N:=jBE) rfl rfl (by decide+kernel)) (fun cl C fp s H=>jQ (i:=0) (show (["t","things"]:List Str).Nodup by decide+kernel) rfl yA) (fun cl C fp s H=>kZ) (fun cl C fp s H=>(jJ kD (jv 1 rfl jZ) (jv 0 rfl jS) y9)) yD) j8 jR) jR) jW)
   (jH (jT (i:=2) nd rfl yX (jP jO gD T.tuple (by decide+kernel) (j4 (kN (m:=[none,some 2]) (Nc:=["one","pieces"]) rfl (yP (jv 7 rfl vL)) rfl (by decide+kernel) (by decide+kernel) (jX (psc:=jA qC)) (jM (N:=jBE) rfl rfl (by decide+kernel)) (fun cl C fp s H=>jQ (i:=0) (show (["one","pieces"]:List Str).Nodup by decide+kernel) rfl yA) (fun cl C fp s H=>kZ) (fun cl C fp s H=>(jJ kD (jv 1 rfl jZ) (jv 0 rfl jS) y9)) yD) j8 jR) jR) jW))))))
   (jH (jT (i:=4) nd rfl lL (CS.je hr gD (j4 (jv 0 rfl vL) j8 j6) j6) jW)))))
   (jH (kB (kR (j4 (jv 0 rfl vL) (j4 (jv 1 rfl vC) (j4 (jv 2 rfl vC) (j4 (jP jO gD T.tuple (by decide+kernel) (j4 (jK jDB gD T.sorted (by decide+kernel) (j4 (jv 3 rfl vL) j8 j6) j6) j8 jG) jG) j8 jG) j6) j6) j6)))))⟩
def jRG (T:Txt mg)(CS:Can P w K mg base "_law_step" 2 fS fdS ["box"] jCI)(CB:Can P w K mg base "_law_behind" 2 fB fdB ["box","some"] jAW)(hr:Room 2 (XOf jBE "_law_smaller" qC P w K mg base f dl A outer s H0 E).A): { t:TS // JSs (XOf jBE "_law_smaller" qC P w K mg base f dl A outer s H0 E) (jN qC) t} :=
 have nd:=scWSmall.nd
 ⟨_,(jB (jT (i:=1) nd rfl yX (jP (jAJ rfl) gD T.tuple (by decide+kernel) (j4 (jP jAA gD T.range (by decide+kernel) (j4 (jJ jL (jv 0 rfl vL) (jC) jE) j8 jI) jI) j8 jG) jG) jW) (jB (jT (i:=2) nd rfl yX (jP (jAJ rfl) gD T.tuple (by decide+kernel) (j4 (jP jAA gD T.range (by decide+kernel) (j4 (jK jV gD T.len (by decide+kernel) (j4 (jJ jL (jv 0 rfl vL) (jC) jE) j8 jI) jI) j8 jG) jG) j8 jG) jG) jW) (jB (jT (i:=3) nd rfl lL (yF j8) qU) (jB (jT (i:=4) nd rfl lL (CS.je hr gD (j4 (jv 0 rfl vL) j8 j6) j6) jW) (jLB T CS CB hr).2))))⟩
structure WS (H H':Hp)(a t p l:Addr)(S:S4)(tk:List Int):Prop where
 b:BxAt H' a S.1
 t:H' t=some (.tup (S.2.1.map V.int))
 p:H' p=some (.tup (S.2.2.1.map V.int))
 l:H' l=some (.lst (tk.map V.int))
 s:srt tk=S.2.2.2
 e:Ext H H'
theorem WS.mono {H H1 H2:Hp}{a t p l:Addr}{S:S4}{tk:List Int}(h:WS H H1 a t p l S tk)(e:Ext H1 H2):WS H H2 a t p l S tk:=⟨h.b.mono e.tups,e _ _ h.t,e _ _ h.p,e _ _ h.l,h.s,h.e.trans e⟩
theorem jGG (T:Txt mg)(CS:Can P w K mg base "_law_step" 2 fS fdS ["box"] jCI)(CB:Can P w K mg base "_law_behind" 2 fB fdB ["box","some"] jAW)(hr:Room 2 (XOf jBE "_law_smaller" qC P w K mg base f dl A outer s H0 E).A)
  {D:Ends}{H H1:Hp}{a t p l:Addr}{b:Bx}{v:V}{v5 v6 v7:Option V}(g:GB b) (hn:H l=none) (h:WS H H1 a t p l (begS b) []) (hv:WStAt H1 v b)
  (k:∀ r H',S4At H' r (endS b)->Ext H H'->D.rt (.ref r) H'):
  (jLB T CS CB hr).1 D [some (.ref a),some (.ref t),some (.ref p),some (.ref l),some v,v5,v6,v7] H1:=by
 refine⟨fun m σ H'=>∃ (a t p:Addr) (S:S4) (tk:List Int) (v:V) (v5 v6 v7:Option V),σ=[some (.ref a),some (.ref t),some (.ref p),some (.ref l),some v,v5,v6,v7]/\WS H H' a t p l S tk/\SOk S/\WStAt H' v S.1/\runS m S=endS b/\S.1.2.2.length<m,⟨b.2.2.length+1,a,t,p,begS b,[],v,v5,v6,v7,rfl,h,jGE g,hv,rfl,ce _⟩,?_⟩
 rintro m σ H2 ⟨a,t,p,S,tk,v,v5,v6,v7,rfl,h2,so,hv,hrun,hm⟩
 obtain⟨m',rfl⟩:∃ m',m=m'+1:=⟨m - 1,by lia⟩
 refine⟨_,rfl,rfl,_,rfl,?_⟩
 have gpl:=so.g.pl
 have w1:=so.g.w1
 have kl:=so.k
 have tkl:tk.length=S.2.2.2.length:=by rw[<- h2.s,jLR]
 obtain⟨qm,qp,ps,b1,b2,b3,b4⟩:=id h2.b.ex
 have pl:=b4.len
 have stpU:stp S.1=(match qQ S.1 with
  | some k=>some (upto S.1.1.toNat,butN S.1.2.2.length k,[])
  | none=>match nxt S.1.1.toNat S.1.2.1 S.1.2.2 [] with
   | some p=>some (lone S.1 p.2)
   | none=>none):=rfl
 unfold WStAt at hv
 cases hi:qQ S.1 with
 | some j=>
  rw[hi] at hv stpU
  obtain⟨r,rfl,hr1⟩:=hv
  have hx:stp S.1=some (upto S.1.1.toNat,butN S.1.2.2.length j,[]):=stpU
  have hj:=jG1 hi
  refine iteT ⟨fun σ' H'=>∃ (a t p:Addr) (S:S4) (tk:List Int) (v:V) (v5 v6 v7:Option V),σ'=[some (.ref a),some (.ref t),some (.ref p),some (.ref l),some v,v5,v6,v7]/\WS H H' a t p l S tk/\SOk S/\WStAt H' v S.1/\runS m' S=endS b/\S.1.2.2.length<m',fun σ' H' q=>⟨m',ce _,q⟩,?_⟩
  refine⟨_,rfl,r,_,1,_,rfl,rfl,SqT.of hr1,rfl,?_⟩
  refine⟨_,rfl,r,_,0,_,rfl,rfl,SqT.of hr1,rfl,rfl,_,rfl,iteT ?_⟩
  have lp:S.2.2.1.length=S.1.2.2.length:=so.p
  refine⟨_,rfl,a,_,0,_,rfl,rfl,SqT.of b1,rfl,_,rfl,a,_,1,_,rfl,rfl,SqT.of b1,rfl,_,rfl,a,_,2,_,rfl,rfl,SqT.of b1,rfl,⟨_,rfl,⟨_,rfl,qp,_,rfl,b3,fun x1 H3 d3 e3=>?_⟩⟩⟩
  rw[jK4 (by lia)] at d3
  refine⟨_,rfl,a,_,2,_,rfl,rfl,SqT.of (e3 _ _ b1),rfl,⟨_,rfl,_,_,rfl,rfl,⟨_,rfl,qp,_,rfl,e3 _ _ b3,fun x2 H4 d4 e4=>?_⟩⟩⟩
  rw[show ((j:Int)+1)=((j+1:Nat):Int) by lia,jK5 (by lia)] at d4
  refine⟨x1,x2,_,_,rfl,rfl,e4 _ _ d3,d4,by rw[bg,cU,ah]; lia,fun x3 H5 d5 e5=>?_⟩
  refine⟨by show (3:Nat)<=_; decide,fun a' H6 d6 e6=>?_⟩
  have E6:=((e3.trans e4).trans e5).trans e6
  have B6:BxAt H6 a' (S.1.1,S.1.2.1,S.1.2.2.eraseIdx j):=by
   refine⟨qm,x3,_,d6,E6 _ _ b2,e6 _ _ d5,?_⟩
   rw[bM]
   exact((b4.take j).app (b4.drop (j+1))).mono E6.tups
  refine⟨_,rfl,⟨_,rfl,⟨_,rfl,p,_,rfl,E6 _ _ h2.p,fun x4 H7 d7 e7=>?_⟩⟩⟩
  rw[jK4 (by rw[ac]; lia)] at d7
  refine⟨_,rfl,⟨_,rfl,_,_,rfl,rfl,⟨_,rfl,p,_,rfl,e7 _ _ (E6 _ _ h2.p),fun x5 H8 d8 e8=>?_⟩⟩⟩
  rw[show ((j:Int)+1)=((j+1:Nat):Int) by lia,jK5 (by rw[ac]; lia)] at d8
  refine⟨x4,x5,_,_,rfl,rfl,e8 _ _ d7,d8,by rw[bg,cU,ac,ah]; lia,fun p' H9 d9 e9=>?_⟩
  have e69:=(e7.trans e8).trans e9
  have E9:=E6.trans e69
  have d9':H9 p'=some (.tup ((S.2.2.1.eraseIdx j).map V.int)):=by
   rw[d9,bM,au,fY,iI]
  have ha:=jQM so hj (by rw[<- h2.s]; exact jLS (jJ1 _))
  have so2:=jI0 so hx
  have lt:=jK8 so hx
  have hrun':runS m' (adv S (upto S.1.1.toNat,butN S.1.2.2.length j,[]))=endS b:=by
   rw[<- hrun]
   conv=>rhs; unfold runS
   rw[hx]
  rw[ha] at so2 lt hrun'
  have W9:WS H H9 a' t p' l ((S.1.1,S.1.2.1,S.1.2.2.eraseIdx j),S.2.1,S.2.2.1.eraseIdx j,S.2.2.2) tk:=⟨B6.mono e69.tups,E9 _ _ h2.t,d9',E9 _ _ h2.l,h2.s,h2.e.trans E9⟩
  refine⟨_,rfl,a',(S.1.1,S.1.2.1,S.1.2.2.eraseIdx j),rfl,W9.b,so2.g,fun v HA hA eA=>?_⟩
  exact⟨a',t,p',_,tk,v,_,_,_,rfl,W9.mono eA,so2,hA,hrun',by lia⟩
 | none=>
  rw[hi] at hv stpU
  dsimp only at hv stpU
  cases hy:nxt S.1.1.toNat S.1.2.1 S.1.2.2 [] with
  | none=>
   rw[hy] at hv stpU
   subst hv
   have hx:stp S.1=none:=stpU
   refine iteF ?_
   refine⟨_,rfl,_,rfl,_,rfl,_,rfl,l,tk,rfl,SqL.of h2.l,by lia,fun l3 ns hl3 hs3 hp3=>?_⟩
   refine⟨l3,_,rfl, .inl ⟨SqL.of j7,fun q3 hq3=>?_⟩⟩
   have ens:=jBS hs3 hp3
   rw[h2.s] at ens
   subst ens
   have e4:Ext H2 (L2.upd (L2.upd H2 l3 (.lst (S.2.2.2.map V.int))) q3 (.tup (S.2.2.2.map V.int))):=((Ext.refl _).new hl3 _).new hq3 _
   have f4:(L2.upd (L2.upd H2 l3 (.lst (S.2.2.2.map V.int))) q3 (.tup (S.2.2.2.map V.int))) q3=some (.tup (S.2.2.2.map V.int)):=j7
   generalize L2.upd (L2.upd H2 l3 (.lst (S.2.2.2.map V.int))) q3 (.tup (S.2.2.2.map V.int))=H4 at e4 f4
   refine⟨by show (4:Nat)<=_; decide,fun r H5 d5 e5=>k r H5 ?_ ((h2.e.trans e4).trans e5)⟩
   have:endS b=S:=by
    rw[<- hrun]
    unfold runS
    rw[hx]
   rw[this]
   have E5:=e4.trans e5
   exact⟨a,t,p,q3,d5,h2.b.mono E5.tups,E5 _ _ h2.t,E5 _ _ h2.p,e5 _ _ f4⟩
  | some pr=>
   rw[hy] at hv stpU
   obtain⟨r,rfl,hr1⟩:=hv
   obtain⟨tt,j⟩:=pr
   have hx:stp S.1=some (lone S.1 j):=stpU
   obtain⟨n1,n2,n3,n4,n5⟩:=jMN hy
   have so2:=jI0 so hx
   have lt:=jK8 so hx
   have o:=jJ0 so.g hx
   have hrun':runS m' (adv S (lone S.1 j))=endS b:=by
    rw[<- hrun]
    conv=>rhs; unfold runS
    rw[hx]
   refine iteT ⟨fun σ' H'=>∃ (a t p:Addr) (S:S4) (tk:List Int) (v:V) (v5 v6 v7:Option V),σ'=[some (.ref a),some (.ref t),some (.ref p),some (.ref l),some v,v5,v6,v7]/\WS H H' a t p l S tk/\SOk S/\WStAt H' v S.1/\runS m' S=endS b/\S.1.2.2.length<m',fun σ' H' q=>⟨m',ce _,q⟩,?_⟩
   refine⟨_,rfl,r,_,1,_,rfl,rfl,SqT.of hr1,rfl,?_⟩
   refine⟨_,rfl,r,_,0,_,rfl,rfl,SqT.of hr1,rfl,rfl,_,rfl,iteN (by decide+kernel) ?_⟩
   have hjl:j.toNat<S.2.2.1.length:=by have:=so.p; lia
   have hat:atI (S.2.2.1.map V.int) j=some (V.int (at_ S.2.2.1 j)):=by
    have e2:((j.toNat:Nat):Int)=j:=by lia
    have:=yR (xs:=S.2.2.1.map V.int) (j:=j.toNat) (v:=V.int (at_ S.2.2.1 j)) (by
     unfold at_
     simp [List.getD,hjl])
    rw[e2] at this
    exact this
   refine⟨_,rfl, .inl ⟨rfl,_,SqL.of h2.l⟩,_,rfl,_,rfl,p,_,j,_,rfl,rfl,SqT.of h2.p,hat,l,_,_,rfl,rfl,h2.l,by rw[ac,ah]; lia,?_⟩
   have tw:Tups H2 (L2.upd H2 l (.lst (tk.map V.int++[.int (at_ S.2.2.1 j)]))):=Tups.upd h2.l _
   have ex3:Ext H (L2.upd H2 l (.lst (tk.map V.int++[.int (at_ S.2.2.1 j)]))):=h2.e.updNew hn _
   have l3:(L2.upd H2 l (.lst (tk.map V.int++[.int (at_ S.2.2.1 j)]))) l=some (.lst ((tk++[at_ S.2.2.1 j]).map V.int)):=by rw[j7,au]; rfl
   generalize L2.upd H2 l (.lst (tk.map V.int++[.int (at_ S.2.2.1 j)]))=H3 at tw ex3 l3
   refine⟨_,rfl,_,rfl,by show (1:Nat)<=_; decide,fun x1 H4 d4 e4=>?_⟩
   have fm: [j].flatMap (j9 S.1.2.2)=j9 S.1.2.2 j:=by rw[dk,fJ,bf]
   refine⟨a,x1,S.1.1,S.1.2.1,S.1.2.2,[j],rfl,(h2.b.mono tw).mono e4.tups,so.g,d4,⟨dz _ _,fun z hz=>by rw[aI.mp hz]; exact⟨n3,n4⟩⟩,fun x2 H5 R5 e5=>?_⟩
   rw[fm] at R5
   obtain⟨rb,rt,rp,c1,c2,c3,c4⟩:=R5.ex
   have E5:=e4.trans e5
   refine⟨x2,_,rfl,SqT.of c1,rfl,_,_,rfl,_,_,rfl,_,_,rfl,rfl,?_⟩
   have tS:∀ z∈(lone S.1 j).1,0<=z/\z<(S.2.1.length:Int):=fun z hz=>by
    have:=o.t.bnd z hz
    have:=so.t
    lia
   have tl:=jBF o.t.ris o.t.bnd w1
   have al:=yM _ 0 _ o.a.ris o.a.bnd
   refine⟨_,rfl,rt,rfl,⟨_,SqT.of c3⟩,jEQ (ns:=S.2.1) c3 (E5 _ _ (tw _ _ h2.t)) tS (by show ((lone S.1 j).1).length<=1000; lia) rfl fun D1 H6 d6 e6 n6=>?_⟩
   refine⟨D1,_,rfl, .inl ⟨SqL.of d6,fun t' ht'=>?_⟩⟩
   have e7:Ext H6 (L2.upd H6 t' (.tup (((lone S.1 j).1.map (at_ S.2.1)).map V.int))):=(Ext.refl _).new ht' _
   have d7:(L2.upd H6 t' (.tup (((lone S.1 j).1.map (at_ S.2.1)).map V.int))) t'=some (.tup (((lone S.1 j).1.map (at_ S.2.1)).map V.int)):=j7
   show kI 1 (.ref t') _ (L2.upd H6 t' (.tup (((lone S.1 j).1.map (at_ S.2.1)).map V.int))) _
   generalize L2.upd H6 t' (.tup (((lone S.1 j).1.map (at_ S.2.1)).map V.int))=H7 at e7 d7
   have e57:=e6.trans e7
   refine⟨_,rfl,rp,rfl,⟨_,SqT.of (e57 _ _ c4)⟩,jEQ (ns:=S.2.2.1) (e57 _ _ c4) (e57 _ _ (E5 _ _ (tw _ _ h2.p))) (fun z hz=>by rw[so.p]; exact o.a.bnd z hz) (by show ((lone S.1 j).2.1).length<=1000; lia) rfl fun D2 H8 d8 e8 n8=>?_⟩
   refine⟨D2,_,rfl, .inl ⟨SqL.of d8,fun p' hp'=>?_⟩⟩
   have e9:Ext H8 (L2.upd H8 p' (.tup (((lone S.1 j).2.1.map (at_ S.2.2.1)).map V.int))):=(Ext.refl _).new hp' _
   have d9:(L2.upd H8 p' (.tup (((lone S.1 j).2.1.map (at_ S.2.2.1)).map V.int))) p'=some (.tup (((lone S.1 j).2.1.map (at_ S.2.2.1)).map V.int)):=j7
   show kI 2 (.ref p') _ (L2.upd H8 p' (.tup (((lone S.1 j).2.1.map (at_ S.2.2.1)).map V.int))) _
   generalize L2.upd H8 p' (.tup (((lone S.1 j).2.1.map (at_ S.2.2.1)).map V.int))=H9 at e9 d9
   have e59:=(e57.trans e8).trans e9
   have W9:WS H H9 rb t' p' l (adv S (lone S.1 j)) (tk++[at_ S.2.2.1 j]):=⟨c2.mono e59.tups,(e8.trans e9) _ _ d7,d9,e59 _ _ (E5 _ _ l3),by
    show srt (tk++[at_ S.2.2.1 j])=srt (S.2.2.2++[j].map (at_ S.2.2.1))
    rw[<- h2.s,jRR]
    rfl,(ex3.trans E5).trans e59⟩
   refine⟨_,rfl,rb,(adv S (lone S.1 j)).1,rfl,W9.b,so2.g,fun v HA hA eA=>?_⟩
   exact⟨rb,t',p',_,_,v,_,_,_,rfl,W9.mono eA,so2,hA,hrun',by lia⟩
theorem jMB {fd:FuncData}(F:Fun K "_law_smaller" "_law_smaller" qC f fd)(T:Txt mg)(CS:Can P w K mg base "_law_step" 2 fS fdS ["box"] jCI)(CB:Can P w K mg base "_law_behind" 2 fB fdB ["box","some"] jAW):FnOk P w K mg base CX0 3 f fd ["box"] jFD:=by
 refine F.ok scWSmall (fun vs H Q E h=>?_) (fun dl A outer s H vs Q E hr h=>?_)
 ·obtain⟨_,_,rfl,_⟩:=h
  rfl
 ·obtain⟨a,b,rfl,hB,g,q⟩:=h
  refine⟨_,(jRG T CS CB hr).2.h,?_⟩
  obtain⟨qm,qp,ps,b1,b2,b3,b4⟩:=id hB.ex
  have pl:=b4.len
  have gpl:=g.pl
  have w0:=g.w0
  have w1:=g.w1
  refine⟨_,rfl,a,_,0,_,rfl,rfl,SqT.of b1,rfl,b.1,rfl,fun x hx=>⟨x,0,b.1,rfl,j7,by decide,w0,by lia,fun t ht=>?_⟩⟩
  rw[jAI]
  have e2:Ext H (L2.upd (L2.upd H x (.rng 0 b.1)) t (.tup ((upto b.1.toNat).map V.int))):=((Ext.refl _).new hx _).new ht _
  have d2:(L2.upd (L2.upd H x (.rng 0 b.1)) t (.tup ((upto b.1.toNat).map V.int))) t=some (.tup ((upto b.1.toNat).map V.int)):=j7
  generalize L2.upd (L2.upd H x (.rng 0 b.1)) t (.tup ((upto b.1.toNat).map V.int))=H2 at e2 d2
  refine⟨_,rfl,a,_,2,_,rfl,rfl,SqT.of (e2 _ _ b1),rfl,qp,_,rfl, .inr (SqT.of (e2 _ _ b3)),(ps.length:Int),rfl,fun x hx=>⟨x,0,(ps.length:Int),rfl,j7,by decide,by lia,by lia,fun p hp=>?_⟩⟩
  rw[jAI,bp,pl]
  have e3:Ext H2 (L2.upd (L2.upd H2 x (.rng 0 (b.2.2.length:Int))) p (.tup ((upto b.2.2.length).map V.int))):=by
   rw[pl] at hp
   exact((Ext.refl _).new hx _).new hp _
  have d3:(L2.upd (L2.upd H2 x (.rng 0 (b.2.2.length:Int))) p (.tup ((upto b.2.2.length).map V.int))) p=some (.tup ((upto b.2.2.length).map V.int)):=j7
  generalize L2.upd (L2.upd H2 x (.rng 0 (b.2.2.length:Int))) p (.tup ((upto b.2.2.length).map V.int))=H3 at e3 d3
  refine⟨by show (0:Nat)<=_; decide,fun l H4 d4 e4 n4=>?_⟩
  have E4:=(e2.trans e3).trans e4
  have hn:H l=none:=by
   cases hq:H l with
   | none=>rfl
   | some o=>
    have:=e3 _ _ (e2 _ _ hq)
    rw[n4] at this
    cases this
  have W4:WS H H4 a t p l (begS b) []:=⟨hB.mono E4.tups,e4 _ _ (e3 _ _ d2),e4 _ _ d3,d4,jLS .nil,E4⟩
  refine⟨_,rfl,a,b,rfl,W4.b,g,fun v H5 hv e5=>?_⟩
  exact jGG T CS CB hr g hn (W4.mono e5) hv q
def qY (ms:List Int)(pcs:List (List Int×Int))(n t:Nat):List (Int×Nat):=
 (if (t:Int)∈ms then [(-1,2 ^ t)] else [])++(((upto pcs.length).take n).filter fun k=>decide ((j9 pcs k).headD 0=(t:Int))).map fun k=>(k,maskN (j9 pcs k))
def chsN (w:Nat)(ms:List Int)(pcs:List (List Int×Int))(n:Nat):Ch:=(List.range w).map (qY ms pcs n)
def chs (w:Nat)(ms:List Int)(pcs:List (List Int×Int)):Ch:=chsN w ms pcs pcs.length
theorem qH (w:Nat)(ms:List Int)(pcs:List (List Int×Int))(n:Nat):(chsN w ms pcs n).length=w:=by
 unfold chsN
 rw[ac,b7]
theorem jCH {w:Nat}{ms:List Int}{pcs:List (List Int×Int)}{n t:Nat}(h:t<w):(chsN w ms pcs n)[t]?=some (qY ms pcs n t):=by
 unfold chsN
 rw[ay,dw h]
 rfl
theorem jH0 {ts:List Int}{t:Nat}(hp:ts.Pairwise (· < ·))(h0:∀ x∈ts,0<=x)(h:(t:Int)∈ts):(maskN ts).testBit t=true:=by
 rw[jA6 ts t hp h0,ao h]
theorem jE6 {ts:List Int}{w:Nat}(hp:ts.Pairwise (· < ·))(h0:∀ x∈ts,0<=x/\x<(w:Int)):maskN ts<2 ^ w:=by
 refine Nat.lt_pow_two_of_testBit _ fun i hi=>?_
 rw[jA6 ts i hp fun x hx=>(h0 x hx).1,aN]
 intro z
 have:=(h0 _ z).2
 lia
theorem jG3 {l:List Int}(h:l≠ []):l.headD 0∈l:=by
 cases l with
 | nil=>exact absurd rfl h
 | cons a r=>exact aw ..
theorem jF8 {w:Int}{ms:List Int}{pcs:List (List Int×Int)}{n:Nat}(g:Good 16 32 w ms pcs):ChOk (chsN w.toNat ms pcs n):=by
 have w0:=g.w0
 have w1:=g.w1
 have gpl:=g.pl
 refine⟨by rw[qH]; lia,fun t cs h=>?_,fun t cs h c hc=>?_⟩
 ·have ht:t<w.toNat:=by
   have:=(av.mp h).1
   rwa [qH] at this
  rw[jCH ht] at h
  cases h
  unfold qY
  rw[aE,ac]
  have:=aY (fun k=>decide ((j9 pcs k).headD 0=(t:Int))) ((upto pcs.length).take n)
  have:=aX n (upto pcs.length)
  have:=kJ pcs.length
  have:((upto pcs.length).take n).length<=(upto pcs.length).length:=by rw[bg]; lia
  split <;> simp only [aZ,eH] <;> lia
 ·have ht:t<w.toNat:=by
   have:=(av.mp h).1
   rwa [qH] at this
  rw[jCH ht] at h
  cases h
  unfold qY at hc
  rw[qH]
  rcases bv.mp hc with hc | hc
  ·split at hc
   ·rw[aI] at hc
    subst hc
    exact⟨by simp [cj],gd (by decide) ht,by show (-1:Int)<= -1; decide,by show (-1:Int)<32; decide⟩
   ·cases hc
  ·obtain⟨k,hk,rfl⟩:=aV.mp hc
   obtain⟨hk1,hk2⟩:=aW.mp hk
   have kb:=(yS pcs.length).bnd k (bS hk1)
   have gp:=g.at (k:=k.toNat) (by lia)
   have hk2:=aq hk2
   have hne:j9 pcs k≠ []:=gp.lot.ne
   have hm:(t:Int)∈j9 pcs k:=by
    rw[<- hk2]
    exact jG3 hne
   exact⟨jH0 gp.lot.ris (fun x hx=>(gp.lot.bnd x hx).1) hm,jE6 gp.lot.ris fun x hx=>⟨(gp.lot.bnd x hx).1,by have:=(gp.lot.bnd x hx).2; lia⟩,by lia,by lia⟩
theorem jL3 (ms:List Int)(pcs:List (List Int×Int))(t:Nat):qY ms pcs 0 t=if (t:Int)∈ms then [(-1,2 ^ t)] else []:=by
 unfold qY
 rw[List.take_zero]
 simp
theorem jR1 {H H1:Hp}{l:Addr}(e:Ext H H1)(n:H1 l=none):H l=none:=by
 cases z:H l with
 | none=>rfl
 | some o=>rw[e _ _ z] at n; cases n
def qK (pc:List Int×Int):Int:=pc.1.getD 0 0
def cntF (pcs:List (List Int×Int))(t:Int):Nat:=pcs.countP fun pc=>decide (t<=qK pc)
def lead (pcs:List (List Int×Int))(t:Int)(i:Nat):Nat:=(pcs.take i).countP fun pc=>decide (qK pc=t)
theorem jHK (t:Int):∀ pcs:List (List Int×Int),cntF pcs t=cntF pcs (t+1)+pcs.countP fun pc=>decide (qK pc=t)
 | []=>rfl
 | p::r=>by
  have ih:=jHK t r
  unfold cntF at ih ⊢
  rw[cD,cD,cD,ih]
  by_cases h1:qK p=t
  ·have h2:t<=qK p:=by lia
   have h3:¬ t+1<=qK p:=by lia
   have h4:¬ t+1<=t:=by lia
   simp [h1,h4]
   try lia
  ·by_cases h2:t<=qK p
   ·have h3:t+1<=qK p:=by lia
    simp [h1,h2,h3]
    lia
   ·have h3:¬ t+1<=qK p:=by lia
    simp [h1,h2,h3]
theorem jV6 (pcs:List (List Int×Int))(t:Int):cntF pcs t<=pcs.length:=List.countP_le_length
theorem jPY (pcs:List (List Int×Int))(t:Int):2 ^ cntF pcs (t+1)*(1+lead pcs t pcs.length)<=2 ^ cntF pcs t:=by
 unfold lead
 rw[aO,jHK t pcs,Nat.pow_add]
 refine iG _ ?_
 have:=Nat.lt_two_pow_self (n:=pcs.countP fun pc=>decide (qK pc=t))
 lia
theorem jN6 {pcs:List (List Int×Int)}{t:Int}{i:Nat}{pc:List Int×Int}(h:pcs[i]?=some pc):lead pcs t (i+1)=lead pcs t i+if qK pc=t then 1 else 0:=by
 unfold lead
 rw[aJ,h]
 show ((pcs.take i)++[pc]).countP _=_
 rw[List.countP_append,cD,List.countP_nil]
 simp
theorem jI8 {pcs:List (List Int×Int)}{t:Int}(h:pcs.length<=16):2 ^ cntF pcs t<=65536:=by
 have:=jV6 pcs t
 exact aQ (dQ (by decide) (aQ this h)) (by decide)
def wJ (l:List (Int×List (List Int))):List (List Int):=l.flatMap fun p=>p.2.map fun x=>if p.1<0 then x else p.1::x
def wk (ch:Ch)(m:Nat):List (List Int):=gv ch [[]] wJ m
theorem jLE (a b:List (Int×List (List Int))):wJ (a++b)=wJ a++wJ b:=eg
theorem jDP (ch:Ch):wk ch (yB ch)=[[]]:=jT6
theorem jDO {ch:Ch}{m:Nat}(o:ChOk ch)(h:m<2 ^ ch.length)(hn:m≠yB ch):wk ch m=wJ ((chAt ch m).map fun c=>(c.1,wk ch (m|||c.2))):=jT5 o h hn
theorem jJN (w:Nat):lowN (2 ^ w - 1)=w:=by
 refine jR5 ?_ fun j hj=>?_
 ·rw[cr,aN (by lia)]
 ·rw[cr,ao hj]
theorem jR4 {m c:Nat}(h:c.testBit (lowN m)=true):lowN m<lowN (m|||c):=by
 refine cZ fun z=>?_
 have n1:=jE7 (m|||c)
 rw[bI] at n1
 rcases fh (lowN (m|||c)) (lowN m) with y | y
 ·rw[jFZ m _ y] at n1
  cases n1
 ·rw[show lowN (m|||c)=lowN m by lia,h,di] at n1
  cases n1
theorem jDF {ch:Ch}(o:ChOk ch){P:Nat->Prop}(h0:P (yB ch))(hs:∀ m,m<2 ^ ch.length->m≠yB ch->(∀ c∈chAt ch m,P (m|||c.2))->P m):∀ m,m<2 ^ ch.length->P m:=by
 intro m hm
 generalize hk:yB ch - m=k
 induction k using strongRecOn generalizing m with
 | _ k ih=>
  by_cases hf:m=yB ch
  ·rw[hf]
   exact h0
  ·have hlt:m<yB ch:=by
    unfold yB at hf ⊢
    lia
   refine hs m hm hf fun c hc=>?_
   obtain⟨u1,u2⟩:=o.up hm hf hc
   exact ih (yB ch - (m|||c.2)) (by lia) _ u2 rfl
theorem mem_wJ {l:List (Int×List (List Int))}{x:List Int} :x∈wJ l↔∃ p∈l,∃ y∈p.2,x=if p.1<0 then y else p.1::y:=by
 unfold wJ
 rw[List.mem_flatMap]
 refine exists_congr fun p=>iq fun _=>?_
 rw[aV]
 exact exists_congr fun y=>iq fun _=>eq_comm
theorem jQO {ch:Ch}(o:ChOk ch):∀ m,m<2 ^ ch.length->∀ x∈wk ch m,(∀ k∈x,0<=k/\k<32)/\x.length+lowN m<=ch.length:=by
 refine jDF o ?_ ?_
 ·intro x hx
  rw[jDP,aI] at hx
  subst hx
  refine⟨fun k hk=>(by cases hk),?_⟩
  unfold yB
  rw[jJN]
  simp
 ·intro m hm hf ih x hx
  rw[jDO o hm hf] at hx
  obtain⟨p,hp,y,hy,rfl⟩:=mem_wJ.mp hx
  obtain⟨c,hc,rfl⟩:=aV.mp hp
  obtain⟨i1,i2⟩:=ih c hc y hy
  obtain⟨m1,m2,m3,m4,m5⟩:=o.mem hm hf hc
  have lo:=jR4 m1
  dsimp only
  split
  ·exact⟨i1,by lia⟩
  ·refine⟨fun k hk=>?_,by rw[aZ]; lia⟩
   rcases az.mp hk with z | z
   ·subst z
    lia
   ·exact i1 k z
theorem jL1 (l:List Int):l.getD 0 0=l.headD 0:=by cases l <;> rfl
theorem jKS (pcs:List (List Int×Int))(t:Nat)(i:Nat)(hi:i<=pcs.length):(((upto pcs.length).take i).filter fun k=>decide ((j9 pcs k).headD 0=(t:Int))).length=lead pcs t i:=by
 induction i with
 | zero=>rfl
 | succ i ih=>
  have hil:i<pcs.length:=by lia
  rw[jDQ hil,bn,aE,ih (by lia),jN6 (aK hil)]
  congr 1
  rw[bW,List.filter_nil]
  have e:j9 pcs (i:Int)=pcs[i].1:=by
   unfold j9
   rw[bp,aC,aK hil]
   rfl
  unfold qK
  rw[e,jL1]
  by_cases h:pcs[i].1.headD 0=(t:Int)
  ·rw[aD (ao h),aD h]
   rfl
  ·rw[aF (fun z=>h (aq z)),aF h]
   rfl
theorem jQJ (pcs:List (List Int×Int)){s t:Int}(h:s<=t):cntF pcs t<=cntF pcs s:=by
 unfold cntF
 refine List.countP_mono_left fun x _ hx=>?_
 have:=aq hx
 exact ao (by lia)
theorem jHG {α β:Type}(f:α->List β)(B:Nat):∀ (l:List α),(∀ a∈l,(f a).length<=B)->(l.flatMap f).length<=l.length*B
 | [],_=>by simp
 | a::l,h=>by
  rw[dk,aE,aZ,Nat.succ_mul]
  have h1:=h a (aw ..)
  have h2:=jHG f B l fun x hx=>h x (aA _ hx)
  lia
theorem jLC {w:Int}{ms:List Int}{pcs:List (List Int×Int)}(g:Good 16 32 w ms pcs):∀ m,m<2 ^ (chs w.toNat ms pcs).length->(wk (chs w.toNat ms pcs) m).length<=2 ^ cntF pcs (lowN m:Nat):=by
 have o:ChOk (chs w.toNat ms pcs):=jF8 g
 refine jDF o ?_ ?_
 ·rw[jDP]
  exact Nat.one_le_two_pow
 ·intro m hm hf ih
  have hl:lowN m<w.toNat:=by
   have:=jJM hm hf
   unfold chs at this
   rwa [qH] at this
  rw[jDO o hm hf]
  unfold wJ
  refine aQ (jHG _ (2 ^ cntF pcs ((lowN m:Nat)+1:Int)) _ fun p hp=>?_) ?_
  ·obtain⟨c,hc,rfl⟩:=aV.mp hp
   rw[ac]
   have lo:=jR4 (o.mem hm hf hc).1
   exact aQ (ih c hc) (dQ (by decide) (jQJ pcs (by lia)))
  ·rw[ac,Nat.mul_comm]
   refine aQ (iG _ ?_) (jPY pcs (lowN m:Nat))
   unfold chAt
   refine aQ (aY _ _) ?_
   unfold chs
   rw[aC,jCH hl]
   show (qY ms pcs pcs.length (lowN m)).length<=_
   unfold qY
   rw[aE,ac,jKS pcs _ _ (ai _)]
   split <;> simp only [aZ,eH] <;> lia
theorem jEJ (a b:Int):decide (V.int a=V.int b)=decide (a=b):=by
 rw[bq,bo,bo]
 exact⟨fun h=>V.int.inj h,fun h=>by rw[h]⟩
def LsAt (H:Hp)(us:List V)(ws:List (List Int)):Prop:=All2 (fun v x=>∃ a,v=V.ref a/\H a=some (.tup (x.map V.int))) us ws
theorem LsAt.mono {H H':Hp}{us:List V}{ws:List (List Int)}(t:Tups H H')(h:LsAt H us ws):LsAt H' us ws:=All2.imp (fun v x ⟨a,e,q⟩=>⟨a,e,t _ _ q⟩) h
def cvs (w:Int)(ms:List Int)(pcs:List (List Int×Int)):List (List Int):=(wk (chs w.toNat ms pcs) 0).map srt
structure MkOk (w:Nat)(t:Nat)(hs:List Int)(m:Nat):Prop where
 lt:m<2 ^ w
 lo:∀ j,j<t->m.testBit j=true
 hi:∀ j,t<=j->j<w->(m.testBit j=true↔(j:Int)∈hs)
theorem MkOk.full {w:Nat}{hs:List Int}{m:Nat}(h:MkOk w w hs m):m=2 ^ w - 1:=jNS h.lt h.lo
theorem MkOk.held {w t:Nat}{hs:List Int}{m:Nat}(h:MkOk w t hs m)(ht:t<w)(hm:(t:Int)∈hs):MkOk w (t+1) hs m:=by
 refine⟨h.lt,fun j hj=>?_,fun j h1 h2=>h.hi j (by lia) h2⟩
 rcases fh j t with y | y
 ·exact h.lo j y
 ·rw[show j=t by lia]
  exact(h.hi t (ai _) ht).mpr hm
theorem MkOk.low {w t:Nat}{hs:List Int}{m:Nat}(h:MkOk w t hs m)(ht:t<w)(hm:¬ (t:Int)∈hs):lowN m=t:=
 jR5 (bJ.mpr fun z=>hm ((h.hi t (ai _) ht).mp z)) h.lo
theorem MkOk.ne {w t:Nat}{hs:List Int}{m:Nat}(h:MkOk w t hs m)(ht:t<w)(hm:¬ (t:Int)∈hs):m≠2 ^ w - 1:=fun z=>by
 have:=h.low ht hm
 rw[z,jJN] at this
 lia
theorem MkOk.may {w t:Nat}{hs:List Int}{m:Nat}(h:MkOk w t hs m)(ht:t<w):MkOk w (t+1) hs (m|||2 ^ t):=by
 refine⟨gP h.lt (gd (by decide) ht),fun j hj=>?_,fun j h1 h2=>?_⟩
 ·rw[bI,cj]
  rcases fh j t with y | y
  ·rw[h.lo j y]
   rfl
  ·rw[show j=t by lia,ao rfl,di]
 ·rw[bI,cj,aN (by lia),Bool.or_false]
  exact h.hi j (by lia) h2
theorem MkOk.piece {w t:Nat}{hs:List Int}{m:Nat}{own:List Int}(h:MkOk w t hs m)(ht:t<w)(l:Lot (w:Int) own)(hd:(t:Int)∈own):MkOk w (t+1) (hs++own) (m|||maskN own):=by
 have b0:∀ x∈own,0<=x:=fun x hx=>(l.bnd x hx).1
 refine⟨gP h.lt (jE6 l.ris l.bnd),fun j hj=>?_,fun j h1 h2=>?_⟩
 ·rw[bI,jA6 own j l.ris b0]
  rcases fh j t with y | y
  ·rw[h.lo j y]
   rfl
  ·rw[show j=t by lia,ao hd,di]
 ·rw[bI,jA6 own j l.ris b0,ip,bo,bv]
  exact or_congr (h.hi j (by lia) h2) Iff.rfl
theorem MkOk.fits {w t:Nat}{hs:List Int}{m:Nat}{own:List Int}(h:MkOk w t hs m)(l:Lot (w:Int) own)(hd:own.headD 0=(t:Int)):(maskN own&&&m==0)=!(own.any fun x=>decide (x∈hs)):=by
 have b0:∀ x∈own,0<=x:=fun x hx=>(l.bnd x hx).1
 have ge:∀ x∈own,(t:Int)<=x:=fun x hx=>by
  cases ho:own with
  | nil=>rw[ho] at hx; cases hx
  | cons a r=>
   rw[ho] at hd hx
   have hd:a=t:=hd
   have lr:=l.ris
   rw[ho] at lr
   rcases az.mp hx with z | z
   ·lia
   ·have:=(cC.mp lr).1 x z
    lia
 rw[bq,iO,b8,cw]
 constructor
 ·intro z x hx hh
  have hh:=aq hh
  have bx:=l.bnd x hx
  have t1:=(h.hi x.toNat (by have:=ge x hx; lia) (by lia)).mpr (by rw[show ((x.toNat:Nat):Int)=x by lia]; exact hh)
  have t2:(maskN own).testBit x.toNat=true:=by
   rw[jA6 own _ l.ris b0,bo,show ((x.toNat:Nat):Int)=x by lia]
   exact hx
  have t3:=cg (fun y=>y.testBit x.toNat) z
  simp only [cQ,t1,t2,bX] at t3
  cases t3
 ·intro z
  apply cK
  intro i
  rw[cQ,bX,jA6 own i l.ris b0]
  by_cases hi:(i:Int)∈own
  ·have bx:=l.bnd _ hi
   have gi:=ge _ hi
   rw[ao hi,eG]
   refine bJ.mpr fun y=>?_
   exact z _ hi (ao ((h.hi i (by lia) (by lia)).mp y))
  ·rw[aN hi]
   rfl
def wkI (ch:Ch)(ms:List Int)(pcs:List (List Int×Int))(m t i:Nat):List (List Int):=wJ (((qY ms pcs i t).filter fun c=>c.2&&&m==0).map fun c=>(c.1,wk ch (m|||c.2)))
theorem jL4 {n:Nat}{ms:List Int}{pcs:List (List Int×Int)}(hn:n<pcs.length)(u:Nat):qY ms pcs (n+1) u=qY ms pcs n u++if (j9 pcs (n:Int)).headD 0=(u:Int) then [((n:Int),maskN (j9 pcs n))] else []:=by
 unfold qY
 rw[jDQ hn,bn,au,List.append_assoc]
 congr 2
 rw[bW]
 by_cases hu:(j9 pcs (n:Int)).headD 0=(u:Int)
 ·rw[aD (ao hu),aD hu]
  rfl
 ·rw[aF (fun z=>hu (aq z)),aF hu]
  rfl
theorem jOS {ch:Ch}{ms:List Int}{pcs:List (List Int×Int)}{m t:Nat}(hb:m.testBit t=false):wkI ch ms pcs m t 0=if (t:Int)∈ms then wk ch (m|||2 ^ t) else []:=by
 unfold wkI
 rw[jL3]
 by_cases h:(t:Int)∈ms
 ·have e:(2 ^ t&&&m==0)=true:=by
   rw[iO]
   apply cK
   intro i
   rw[cQ,bX,cj]
   by_cases hi:t=i
   ·subst hi
    rw[hb,bP]
   ·rw[aN hi]
    rfl
  rw[aD h,aD h,bW,aD e]
  show wJ [(-1,wk ch (m|||2 ^ t))]=_
  unfold wJ
  rw[ij]
  exact(bZ fun x _=>aD (show (-1:Int)<0 by decide)).trans (gf _)
 ·rw[aF h,aF h]
  rfl
theorem jIX {ch:Ch}{ms:List Int}{pcs:List (List Int×Int)}{m t i:Nat}(hi:i<pcs.length):wkI ch ms pcs m t (i+1)=wkI ch ms pcs m t i++if (j9 pcs (i:Int)).headD 0=(t:Int)/\(maskN (j9 pcs (i:Int))&&&m==0)=true then (wk ch (m|||maskN (j9 pcs (i:Int)))).map ((i:Int):: ·) else []:=by
 unfold wkI
 rw[jL4 hi,bn,au,jLE]
 congr 1
 by_cases h1:(j9 pcs (i:Int)).headD 0=(t:Int)
 ·rw[aD h1,bW]
  by_cases h2:(maskN (j9 pcs (i:Int))&&&m==0)=true
  ·rw[aD h2,aD ⟨h1,h2⟩]
   show wJ [((i:Int),wk ch (m|||maskN (j9 pcs (i:Int))))]=_
   unfold wJ
   rw[ij]
   exact bZ fun x _=>aF (by lia)
  ·rw[aF h2,aF (fun z=>h2 z.2)]
   rfl
 ·rw[aF h1,aF (fun z=>h1 z.1)]
  rfl
theorem jRH {w:Int}{ms:List Int}{pcs:List (List Int×Int)}{m t:Nat}(g:Good 16 32 w ms pcs)(hm:m<2 ^ w.toNat)(hf:m≠2 ^ w.toNat - 1)(hl:lowN m=t)(ht:t<w.toNat):wkI (chs w.toNat ms pcs) ms pcs m t pcs.length=wk (chs w.toNat ms pcs) m:=by
 have o:ChOk (chs w.toNat ms pcs):=jF8 g
 have el:(chs w.toNat ms pcs).length=w.toNat:=qH _ _ _ _
 rw[jDO o (by rw[el]; exact hm) (by unfold yB; rw[el]; exact hf)]
 unfold wkI chAt
 have:(chs w.toNat ms pcs).getD (lowN m) []=qY ms pcs pcs.length t:=by
  rw[hl,aC]
  unfold chs
  rw[jCH ht]
  rfl
 rw[this]
theorem jOT {ch:Ch}{ms:List Int}{pcs:List (List Int×Int)}{m t i:Nat}(hi:i<=pcs.length):(wkI ch ms pcs m t i).length<=(wkI ch ms pcs m t pcs.length).length:=by
 have key:∀ d i,i+d=pcs.length->(wkI ch ms pcs m t i).length<=(wkI ch ms pcs m t pcs.length).length:=by
  intro d
  induction d with
  | zero=>intro i h; rw[show i=pcs.length by lia]; exact ai _
  | succ d ih=>
   intro i h
   refine aQ ?_ (ih (i+1) (by lia))
   rw[jIX (by lia),aE]
   lia
 exact key (pcs.length - i) i (by lia)
def jES (d:Nat):Sp:=fun vs H Q _=>∃ (b h:Addr) (w:Int) (t:Nat) (ms:List Int) (pcs:List (List Int×Int)) (hs:List Int) (m:Nat),vs=[.ref b, .int (t:Int), .ref h]/\BoxAt H b w ms pcs/\Good 16 16 w ms pcs/\(t:Int)<=w/\w - t<=d/\H h=some (.tup (hs.map V.int))/\hs.length<=16*t/\MkOk w.toNat t hs m/\
 ∀ l us H',H' l=some (.lst us)->LsAt H' us (wk (chs w.toNat ms pcs) m)->Ext H H'->Q (.ref l) H'
def spNo:Sp:=fun _ _ _ _=>False
def jFG:Nat->Sp
 | 0=>spNo
 | d+1=>jES d
theorem ok_no {k:Nat}{f:Addr}{fd:FuncData}{ps:List Str} :FnOk P w K mg base CX0 k f fd ps spNo:=⟨fun _ _ _ _ h=>h.elim,fun _ _ _ _ _ _ _ _ _ _ _ _ _ h=>h.elim⟩
noncomputable abbrev nFrom:List Str:=["box","thing","held","found","k","own"]
theorem scFrom:FnScope nFrom ["box","thing","held"] (jA xF):= {}
abbrev XFrom (P:Program)(w:World)(K:W.Frag)(mg:Str->Option Value)(base:Heap)(f:Addr)(dl:Value)(A:Around)(outer:List Env)(s:Shared)(H:Hp)(E:XK):Cx:=XOf nFrom "_law_from" xF P w K mg base f dl A outer s H E
def fromL {d:Nat}{sp:Sp}(T:Txt mg)(CF:Can P w K mg base "_law_from" (d+1) fF fdF ["box","thing","held"] sp)(hr:Room (d+1) (XFrom P w K mg base f dl A outer s H0 E).A): { t:TS // JSs (XFrom P w K mg base f dl A outer s H0 E) (jH2 ((jN xF).getD 4 (.Pass ⟨0,0,0,0⟩))) t} :=
 have nd:=scFrom.nd
 ⟨_,(jB (jT (i:=5) nd rfl lL (jJ jL (jJ jL (jJ jL (jv 0 rfl vL) (jC) jE) (jv 4 rfl vC) y9) (jC) jE) jDS)
   (jH (yJ (jt_w (jF0 (jY qX (jJ jL (jv 5 rfl vL) (jC) jE) (jv 1 rfl vL) (kT _)) (jCQ (jDA (qG (jK (jBI rfl) gD T.any (by decide+kernel) (j4 (kN (m:=[none,some 2]) (Nc:=["t","held"]) rfl (yP (jv 5 rfl vL)) rfl (by decide+kernel) (by decide+kernel) (jX (psc:=jA xF)) (jM (N:=nFrom) rfl rfl (by decide+kernel)) (fun cl C fp s H=>jQ (i:=0) (show (["t","held"]:List Str).Nodup by decide+kernel) rfl yA) (fun cl C fp s H=>kZ) (fun cl C fp s H=>(q0 jAU (jv 0 rfl jS) (jv 1 rfl jZ) yN)) yD) j8 jR) jR) yY))))) (jH (jT (i:=3) nd rfl lL (yK jDI (jv 3 rfl vL) (kN (m:=[none,some 4]) (Nc:=["rest","k"]) rfl (jB8 (CF.je hr gD (j4 (jv 0 rfl vL) (j4 (yK yV (jv 1 rfl vL) (jC)) (j4 (yK jB4 (jv 2 rfl vC) (jv 5 rfl vL)) j8 yU) yU) j6) j6)) rfl (by decide+kernel) (by decide+kernel) (jX (psc:=jA xF)) (jM (N:=nFrom) rfl rfl (by decide+kernel)) (fun cl C fp s H=>jQ (i:=0) (show (["rest","k"]:List Str).Nodup by decide+kernel) rfl yA) (fun cl C fp s H=>kZ) (fun cl C fp s H=>(yK jB4 (kR (j4 (jv 1 rfl jZ) j8 j6)) (jv 0 rfl jS))) kQ)) jER)) kP)))⟩
def fromB {d:Nat}{sp:Sp}(T:Txt mg)(CF:Can P w K mg base "_law_from" (d+1) fF fdF ["box","thing","held"] sp)(hr:Room (d+1) (XFrom P w K mg base f dl A outer s H0 E).A): { t:TS // JSs (XFrom P w K mg base f dl A outer s H0 E) ((jN xF).drop 4) t} :=
 have nd:=scFrom.nd
 ⟨_,(jB (qS bB rfl (kX gD T.range (j4 (jK jV gD T.len (by decide+kernel) (j4 (jJ jL (jv 0 rfl vL) (jC) jE) j8 jI) jI) j8 jG) jG) (jQ (i:=4) nd rfl yX) (fromL T CF hr).2 kQ) (jH (kB (jv 3 rfl vL))))⟩
def fromA {d:Nat}{sp:Sp}(T:Txt mg)(CF:Can P w K mg base "_law_from" (d+1) fF fdF ["box","thing","held"] sp)(hr:Room (d+1) (XFrom P w K mg base f dl A outer s H0 E).A): { t:TS // JSs (XFrom P w K mg base f dl A outer s H0 E) (jN xF) t} :=
 have nd:=scFrom.nd
 ⟨_,(jB (yJ (jY qX (jv 1 rfl vL) (jJ jL (jv 0 rfl vL) (jC) jE) (kT _)) (jH (kB (yF (j4 (kR j8) j8 jBT)))) kP) (jB (yJ (jY jBD (jv 1 rfl vL) (jv 2 rfl vC) yN) (jH (kB (CF.je hr gD (j4 (jv 0 rfl vL) (j4 (yK yV (jv 1 rfl vL) (jC)) (j4 (jv 2 rfl vC) j8 j6) yU) j6) j6))) kP) (jB (jT (i:=3) nd rfl lL (yF j8) qU) (jB (yJ (jY jBD (jv 1 rfl vL) (jJ jL (jv 0 rfl vL) (jC) jE) jE2) (jH (jT (i:=3) nd rfl lL (CF.je hr gD (j4 (jv 0 rfl vL) (j4 (yK yV (jv 1 rfl vL) (jC)) (j4 (jv 2 rfl vC) j8 j6) yU) j6) j6) jW)) kP) (fromB T CF hr).2))))⟩
theorem jF4 {d:Nat}(T:Txt mg)(CF:Can P w K mg base "_law_from" (d+1) fF fdF ["box","thing","held"] (jFG d))(hr:Room (d+1) (XFrom P w K mg base f dl A outer s H0 E).A)
  {H H1:Hp}{b h l:Addr}{wi:Int}{t m:Nat}{ms:List Int}{pcs:List (List Int×Int)}{hs:List Int}{us:List V}{v4 v5:Option V}{D:Ends}(hB:BoxAt H b wi ms pcs) (g:Good 16 16 wi ms pcs) (t1:(t:Int)<wi) (hd:wi - t<=d) (hh:H h=some (.tup (hs.map V.int))) (hl:hs.length<=16*t) (mk:MkOk wi.toNat t hs m) (hnt:¬ (t:Int)∈hs)
  (e1:Ext H H1) (hf:H1 l=some (.lst us)) (fc:LsAt H1 us (wkI (chs wi.toNat ms pcs) ms pcs m t 0))
  (q:∀ l us H',H' l=some (.lst us)->LsAt H' us (wk (chs wi.toNat ms pcs) m)->Ext H H'->D.rt (.ref l) H'):
  (fromB T CF hr).1 D [some (.ref b),some (.int (t:Int)),some (.ref h),some (.ref l),v4,v5] H1:=by
 obtain⟨qm,qp,ps,b1,b2,b3,b4⟩:=hB.ex
 have pl:=b4.len
 have gl:=g.pl
 have w0:=g.w0
 have w1:=g.w1
 have g32:Good 16 32 wi ms pcs:=g.wide (by lia) (by lia)
 have tw:t<wi.toNat:=by lia
 have o:ChOk (chs wi.toNat ms pcs):=jF8 g32
 have el:(chs wi.toNat ms pcs).length=wi.toNat:=qH _ _ _ _
 have all:=jRH (pcs:=pcs) (ms:=ms) g32 mk.lt (mk.ne tw hnt) (mk.low tw hnt) tw
 have wlen:(wk (chs wi.toNat ms pcs) m).length<=65536:=aQ (jLC g32 m (by rw[el]; exact mk.lt)) (jI8 (by lia))
 refine⟨_,rfl,b,_,2,_,rfl,rfl,SqT.of (e1 _ _ b1),rfl,qp,_,rfl, .inr (SqT.of (e1 _ _ b3)),_,rfl,by lia,by lia,jAF (fun i σ H'=>(∃ l us v4 v5,σ=[some (.ref b),some (.int (t:Int)),some (.ref h),some (.ref l),v4,v5]/\H' l=some (.lst us)/\LsAt H' us (wkI (chs wi.toNat ms pcs) ms pcs m t i))/\Ext H H') ⟨⟨_,_,_,_,rfl,hf,fc⟩,e1⟩ ?_ ?_⟩
 ·rintro i σ H2 hi ⟨⟨l2,us2,v4,v5,rfl,g1,g3⟩,e2⟩
  have hil:i<ps.length:=by lia
  have hip:i<pcs.length:=by lia
  have hy1:ps[i]?=some ps[i]:=aK hil
  obtain⟨pc,hpc,pa,pq,hpe,c1,c2⟩:=b4.at hy1
  have hlot:=(g.pg pc (aB hpc)).lot
  have et:j9 pcs (i:Int)=pc.1:=by
   unfold j9
   rw[bp,aC,hpc]
   rfl
  have lt2:pc.1.length<=16:=by
   have:=yM _ 0 wi hlot.ris hlot.bnd
   lia
  have lt0:atI (pc.1.map V.int) 0=some (.int (pc.1.headD 0)):=by
   cases z:pc.1 with
   | nil=>exact absurd z hlot.ne
   | cons a r=>exact yR (j:=0) rfl
  have at1:atI ps (0+(i:Int))=some (.ref pa):=by rw[gt]; exact yR (by rw[hy1,hpe])
  have hsu:=jIX (ch:=chs wi.toNat ms pcs) (ms:=ms) (m:=m) (t:=t) hip
  rw[et] at hsu
  have ul:us2.length<=65536:=by
   rw[g3.len]
   exact aQ (jOT (by lia)) (by rw[all]; exact wlen)
  have keep:∀ (v4 v5:Option V) (H3:Hp),Ext H2 H3->wkI (chs wi.toNat ms pcs) ms pcs m t (i+1)=wkI (chs wi.toNat ms pcs) ms pcs m t i->(∃ l us v4' v5',([some (.ref b),some (.int (t:Int)),some (.ref h),some (.ref l2),v4,v5]:St)=[some (.ref b),some (.int (t:Int)),some (.ref h),some (.ref l),v4',v5']/\H3 l=some (.lst us)/\LsAt H3 us (wkI (chs wi.toNat ms pcs) ms pcs m t (i+1)))/\Ext H H3:=fun v4 v5 H3 e3 ez=>⟨⟨l2,us2,v4,v5,rfl,e3 _ _ g1,by rw[ez]; exact g3.mono e3.tups⟩,e2.trans e3⟩
  refine⟨_,rfl,b,_,2,_,rfl,rfl,SqT.of (e2 _ _ b1),rfl,_,rfl,qp,_,_,_,rfl,rfl,SqT.of (e2 _ _ b3),at1,pa,_,0,_,rfl,rfl,SqT.of (e2 _ _ c1),rfl,?_⟩
  refine⟨_,rfl,pq,_,0,_,rfl,rfl,SqT.of (e2 _ _ c2),lt0,_,rfl,rfl,_,rfl,?_⟩
  rw[jEJ]
  refine ite2 (fun h1=>?_) (fun h1=>?_)
  ·have h1:pc.1.headD 0=(t:Int):=aq h1
   have fi:=mk.fits (own:=pc.1) (by rw[show ((wi.toNat:Nat):Int)=wi by lia]; exact hlot) h1
   refine⟨_,rfl,pq,rfl,⟨_,SqT.of (e2 _ _ c2)⟩,jAP (xs:=pc.1.map V.int) (fun σ=>∃ v,σ=[v,some (.ref h)]) (mapZ pc.1 fun x=>V.bl (decide (x∈hs))) (mapZ.ok _ _) (e2 _ _ c2) (by rw[ac,ah]; lia) ⟨_,rfl⟩ ?_ ?_⟩
   ·rintro j x σ' H' zs hx ⟨v,rfl⟩ e hz S1 S2 yes no
    obtain⟨z,hz',rfl⟩:=int_at hx
    dsimp only [kI,yG]
    rw[aD rfl]
    refine⟨_,rfl,_,rfl,h,_,rfl, .inr (SqT.of (e _ _ (e2 _ _ hh))),rfl,kL _,?_⟩
    rw[kU]
    exact yes _ _ _ ⟨_,rfl⟩ (Ext.refl _) (hz.yes hz')
   ·rintro D' H3 zs h2 e3 hn hz
    have hz:=hz.all (by rw[ac]; exact ai _)
    have hz2:zs=(pc.1.map fun x=>decide (x∈hs)).map V.bl:=by rw[hz,cG]; rfl
    rw[hz2] at h2
    refine⟨D',_,rfl,SqL.of h2,_,rfl,?_⟩
    have ea:((pc.1.map fun x=>decide (x∈hs)).any id)=pc.1.any fun x=>decide (x∈hs):=by rw[gu]; rfl
    rw[ea]
    have E3:=e2.trans e3
    refine ite2 (fun h3=>?_) (fun h3=>keep _ _ H3 e3 ?_)
    ·have h3:(maskN pc.1&&&m==0)=true:=by rw[fi]; exact h3
     rw[aD ⟨h1,h3⟩] at hsu
     cases d with
     | zero=>lia
     | succ d=>
     have htm:(t:Int)∈pc.1:=by rw[<- h1]; exact jG3 hlot.ne
     refine⟨_,rfl,_,rfl,_,rfl,_,_,rfl,rfl,_,rfl,_,rfl,h,pq,_,_,rfl,rfl,E3 _ _ hh,E3 _ _ c2,by rw[ac,ac,ah]; lia,fun r H4 hr4 e4=>?_⟩
     have E4:=E3.trans e4
     refine⟨b,r,wi,t+1,ms,pcs,hs++pc.1,m|||maskN pc.1,rfl,hB.mono E4.tups,g,by lia,by lia,by rw[au]; exact hr4,by rw[aE]; lia,mk.piece tw (by rw[show ((wi.toNat:Nat):Int)=wi by lia]; exact hlot) htm,fun l5 us5 H5 hl5 hc5 e5=>?_⟩
     have E5:=E4.trans e5
     have mlt:m|||maskN pc.1<2 ^ (chs wi.toNat ms pcs).length:=by
      rw[el]
      exact(mk.piece tw (by rw[show ((wi.toNat:Nat):Int)=wi by lia]; exact hlot) htm).lt
     have u5:us5.length<=65536:=by
      rw[hc5.len]
      exact aQ (jLC g32 _ mlt) (jI8 (by lia))
     refine⟨l5,rfl,⟨_,SqL.of hl5⟩,jCF (xs:=us5) (fun σ=>∃ v,σ=[v,some (.int (0+(i:Int)))]) (fun H' zs j=>LsAt H' zs (((wk (chs wi.toNat ms pcs) (m|||maskN pc.1)).take j).map ((i:Int):: ·))) ⟨fun H=>trivial,fun H H' zs j tt h=>h.mono tt,fun H zs j h=>?_⟩ hl5 (by rw[ah]; lia) ⟨_,rfl⟩ ?_ ?_⟩
     ·rw[h.len,ac]
      exact aX _ _
     ·rintro j x σ' H' zs hx ⟨v,rfl⟩ e hz S1 S2 yes no
      obtain⟨ks,hks,a,rfl,ha⟩:=hc5.get' hx
      have kl:=(jQO o _ mlt ks (aB hks)).2
      dsimp only [kI,yG]
      rw[aD rfl]
      refine⟨_,rfl,by rw[ah]; show 1<=_; lia,fun r6 H6 hr6 e6=>⟨_,rfl,r6,a,_,_,rfl,rfl,hr6,e6 _ _ (e _ _ ha),by rw[ac,ah]; show 1+_<=_; lia,fun r7 H7 hr7 e7=>?_⟩⟩
      have e67:=e6.trans e7
      refine yes _ _ _ ⟨_,rfl⟩ e67 ?_
      show LsAt H7 _ (((wk (chs wi.toNat ms pcs) (m|||maskN pc.1)).take (j+1)).map ((i:Int):: ·))
      rw[aJ,hks,au]
      refine All2.snoc (LsAt.mono e67.tups hz) ⟨r7,rfl,?_⟩
      rw[hr7,gt]
      rfl
     ·rintro D6 H6 zs h26 e6 hn6 hz6
      rw[hc5.len,aO] at hz6
      have zl:zs.length<=65536:=by
       rw[hz6.len,ac,<- hc5.len]
       exact u5
      refine⟨l2,D6,_,_,rfl,rfl,e6 _ _ (e5 _ _ (e4 _ _ (e3 _ _ g1))),h26,by rw[ah]; lia,fun r7 H7 hr7 e7 hn7=>?_⟩
      have E37:=((e3.trans e4).trans e5).trans (e6.trans e7)
      refine⟨⟨r7,_,_,_,rfl,hr7,?_⟩,e2.trans E37⟩
      rw[hsu]
      exact All2.append (LsAt.mono E37.tups g3) (LsAt.mono e7.tups hz6)
    ·rw[hsu,aF,bf]
     rintro ⟨_,z⟩
     rw[fi] at z
     exact h3 z
  ·refine iteF (keep _ _ H2 (Ext.refl _) ?_)
   rw[hsu,aF,bf]
   rintro ⟨z,_⟩
   exact h1 (ao z)
 ·rintro σ H2 ⟨⟨l2,us2,v4,v5,rfl,g1,g3⟩,e2⟩
  have em:((ps.length:Int)).toNat=pcs.length:=by lia
  rw[em,all] at g3
  exact⟨_,rfl,q l2 us2 H2 g1 g3 e2⟩
theorem jHF {fd:FuncData}(d:Nat)(F:Fun K "_law_from" "_law_from" xF f fd)(T:Txt mg)(CF:Can P w K mg base "_law_from" (d+1) f fd ["box","thing","held"] (jFG d)):
  FnOk P w K mg base CX0 (d+2) f fd ["box","thing","held"] (jES d):=by
 refine F.ok scFrom (fun vs H Q E h=>?_) (fun dl A outer s H vs Q E hr h=>?_)
 ·obtain⟨_,_,_,_,_,_,_,_,rfl,_⟩:=h
  rfl
 ·obtain⟨b,h,wi,t,ms,pcs,hs,m,rfl,hB,g,t1,hd,hh,hl,mk,q⟩:=h
  obtain⟨qm,qp,ps,b1,b2,b3,b4⟩:=hB.ex
  have gl:=g.pl
  have w0:=g.w0
  have w1:=g.w1
  have el:(chs wi.toNat ms pcs).length=wi.toNat:=qH _ _ _ _
  refine⟨_,(fromA T CF hr).2.h,?_⟩
  refine⟨_,rfl,_,rfl,b,_,0,_,rfl,rfl,SqT.of b1,rfl,rfl,_,rfl,?_⟩
  rw[jEJ]
  refine ite2 (fun h1=>?_) (fun h1=>?_)
  ·have h1:(t:Int)=wi:=aq h1
   have tw:t=wi.toNat:=by lia
   subst tw
   have mf:m=yB (chs wi.toNat ms pcs):=by
    unfold yB
    rw[el]
    exact mk.full
   rw[mf,jDP] at q
   refine⟨by rw[ah]; show 0<=_; lia,fun r1 H1 hr1 e1=>⟨by rw[ah]; show 1<=_; lia,fun r2 H2 hr2 e2 _=>?_⟩⟩
   exact q r2 _ H2 hr2 ⟨⟨r1,rfl,e2 _ _ hr1⟩,trivial⟩ (e1.trans e2)
  ·have h1:¬ (t:Int)=wi:=fun h=>h1 (ao h)
   have tw:t<wi.toNat:=by lia
   refine⟨_,rfl,_,rfl,h,_,rfl, .inr (SqT.of hh),rfl,kL _,_,rfl,?_⟩
   have hd1:∃ d',d=d'+1:=⟨d - 1,by lia⟩
   obtain⟨d',rfl⟩:=hd1
   have call:∀ (m':Nat) (H1:Hp) (Q':VK),MkOk wi.toNat (t+1) hs m'->Ext H H1->(∀ l us H',H' l=some (.lst us)->LsAt H' us (wk (chs wi.toNat ms pcs) m')->Ext H H'->Q' (.ref l) H')->jFG (d'+1) [.ref b, .int ((t:Int)+1), .ref h] H1 Q' E0:=fun m' H1 Q' mk' e1 k=>by
    exact⟨b,h,wi,t+1,ms,pcs,hs,m',rfl,hB.mono e1.tups,g,by lia,by lia,e1 _ _ hh,by lia,mk',fun l us H' a1 a2 a3=>k l us H' a1 a2 (e1.trans a3)⟩
   rw[kU]
   refine ite2 (fun h2=>?_) (fun h2=>?_)
   ·have h2:(t:Int)∈hs:=aq h2
    refine⟨_,rfl,_,rfl,_,_,rfl,rfl,_,rfl,call m H _ (mk.held tw h2) (Ext.refl _) fun l us H' a1 a2 a3=>?_⟩
    exact q l us H' a1 a2 a3
   ·have h2:¬ (t:Int)∈hs:=fun z=>h2 (ao z)
    have hb:m.testBit t=false:=bJ.mpr fun z=>h2 ((mk.hi t (ai _) tw).mp z)
    refine⟨by rw[ah]; show 0<=_; lia,fun l1 H1 hl1 e1 _=>?_⟩
    refine⟨_,rfl,_,rfl,b,_,1,_,rfl,rfl,SqT.of (e1 _ _ b1),rfl,qm,_,rfl, .inr (SqT.of (e1 _ _ b2)),rfl,kL _,_,rfl,?_⟩
    rw[kU]
    have hz:=jOS (ch:=chs wi.toNat ms pcs) (ms:=ms) (pcs:=pcs) hb
    refine ite2 (fun h3=>?_) (fun h3=>?_)
    ·rw[aD (aq h3)] at hz
     refine⟨_,rfl,_,rfl,_,_,rfl,rfl,_,rfl,(show jFG (d'+1) [.ref b, .int ((t:Int)+1), .ref h] H1 (fun x H2=>(fromB T CF hr).1 { nx:=fun x H'=>Q V.non H',rt:=Q} [some (.ref b),some (.int (t:Int)),some (.ref h),some x,none,none] H2) E0 from call (m|||2 ^ t) H1 _ (mk.may tw) e1 fun l us H' a1 a2 a3=>?_)⟩
     exact jF4 T CF hr hB g (by lia) hd hh hl mk h2 a3 a1 (by rw[hz]; exact a2) q
    ·rw[aF (fun z=>h3 (ao z))] at hz
     exact jF4 T CF hr hB g (by lia) hd hh hl mk h2 e1 hl1 (by rw[hz]; trivial) q
theorem jMK {fd:FuncData}(F:Fun K "_law_from" "_law_from" xF f fd)(T:Txt mg)(hm:mg "_law_from" =some (.ref f))(kp:keepIn K (.ref f)=true)(hb:Binds K fd ["box","thing","held"] []):
  ∀ d:Nat,FnOk P w K mg base CX0 (d+2) f fd ["box","thing","held"] (jES d)
 | 0=>jHF 0 F T ⟨ok_no,hm,kp,hb⟩
 | d+1=>jHF (d+1) F T ⟨jMK F T hm kp hb d,hm,kp,hb⟩
def jLV:Sp:=fun vs H Q _=>∃ (b:Addr) (w:Int) (ms:List Int) (pcs:List (List Int×Int)),vs=[.ref b]/\BoxAt H b w ms pcs/\Good 16 16 w ms pcs/\
 ∀ l us H',H' l=some (.lst us)->LsAt H' us (cvs w ms pcs)->us.length<=65536->Ext H H'->Q (.ref l) H'
noncomputable abbrev nCovs:List Str:=["box"]
theorem scCovs:FnScope nCovs ["box"] (jA sCovs):= {}
def covsA (T:Txt mg)(CF:Can P w K mg base "_law_from" 18 fF fdF ["box","thing","held"] (jES 16))(hr:Room 18 (XOf nCovs "_law_coverings" sCovs P w K mg base f dl A outer s H0 E).A): { t:TS // JSs (XOf nCovs "_law_coverings" sCovs P w K mg base f dl A outer s H0 E) (jN sCovs) t} :=
 have nd:=scCovs.nd
 ⟨_,(jH (kB (kN (m:=[none]) (Nc:=["some"]) rfl (jB8 (CF.je hr gD (j4 (jv 0 rfl vL) (j4 (jC) (j4 (kR j8) j8 jBT) jU) j6) j6)) rfl (by decide+kernel) (by decide+kernel) (jX (psc:=jA sCovs)) (jM (N:=nCovs) rfl rfl (by decide+kernel)) (fun cl C fp s H=>jQ (i:=0) (show (["some"]:List Str).Nodup by decide+kernel) rfl yA) (fun cl C fp s H=>kZ) (fun cl C fp s H=>(jP jEL gl_b T.tuple (by decide+kernel) (j4 (jK jAQ gl_b T.sorted (by decide+kernel) (j4 (jv 0 rfl jS) j8 j6) j6) j8 jG) jG)) kQ)))⟩
theorem jSY (w:Nat):MkOk w 0 [] 0:=⟨ir _,fun j hj=>by lia,fun j _ _=>by simp⟩
theorem jST {fd:FuncData}(F:Fun K "_law_coverings" "_law_coverings" sCovs f fd)(T:Txt mg)(CF:Can P w K mg base "_law_from" 18 fF fdF ["box","thing","held"] (jES 16)):FnOk P w K mg base CX0 19 f fd ["box"] jLV:=by
 refine F.ok scCovs (fun vs H Q E h=>?_) (fun dl A outer s H vs Q E hr h=>?_)
 ·obtain⟨_,_,_,_,rfl,_⟩:=h
  rfl
 ·obtain⟨b,wi,ms,pcs,rfl,hB,g,q⟩:=h
  have gl:=g.pl
  have w0:=g.w0
  have w1:=g.w1
  have g32:Good 16 32 wi ms pcs:=g.wide (by lia) (by lia)
  have o:ChOk (chs wi.toNat ms pcs):=jF8 g32
  have el:(chs wi.toNat ms pcs).length=wi.toNat:=qH _ _ _ _
  have z0:0<2 ^ (chs wi.toNat ms pcs).length:=ir _
  refine⟨_,(covsA T CF hr).2.h,?_⟩
  refine⟨_,rfl,by rw[ah]; show 0<=_; lia,fun r1 H1 hr1 e1=>⟨b,r1,wi,0,ms,pcs,[],0,rfl,hB.mono e1.tups,g,by lia,by lia,hr1,by show 0<=_; lia,jSY _,fun l us H2 a1 a3 a4=>?_⟩⟩
  have ul:us.length<=65536:=by
   rw[a3.len]
   exact aQ (jLC g32 _ z0) (jI8 (by lia))
  refine⟨l,rfl,⟨_,SqL.of a1⟩,jCF (xs:=us) (fun σ=>∃ v,σ=[v]) (fun H' zs j=>LsAt H' zs (((wk (chs wi.toNat ms pcs) 0).take j).map srt)) ⟨fun H=>trivial,fun H H' zs j tt h=>h.mono tt,fun H zs j h=>?_⟩ a1 (by rw[ah]; lia) ⟨_,rfl⟩ ?_ ?_⟩
  ·rw[h.len,ac]
   exact aX _ _
  ·rintro j x σ' H' zs hx ⟨v,rfl⟩ e hz S1 S2 yes no
   obtain⟨ks,hks,a,rfl,ha⟩:=a3.get' hx
   have kl:=(jQO o _ z0 ks (aB hks)).2
   dsimp only [kI,yG]
   rw[aD rfl]
   refine⟨_,rfl,a,ks,rfl,e _ _ ha,by lia,fun l6 ns hl6 sr pm=>⟨l6,_,rfl, .inl ⟨SqL.of j7,fun l7 hl7=>?_⟩⟩⟩
   have e6:Ext H' (L2.upd H' l6 (.lst (ns.map V.int))):=(Ext.refl _).new hl6 _
   have e7:Ext H' (L2.upd (L2.upd H' l6 (.lst (ns.map V.int))) l7 (.tup (ns.map V.int))):=e6.new hl7 _
   refine yes _ _ _ ⟨_,rfl⟩ e7 ?_
   show LsAt _ _ (((wk (chs wi.toNat ms pcs) 0).take (j+1)).map srt)
   rw[aJ,hks,au]
   refine All2.snoc (LsAt.mono e7.tups hz) ⟨l7,rfl,?_⟩
   rw[j7,jBS sr pm]
  ·rintro D6 H6 zs h26 e6 hn6 hz6
   rw[a3.len,aO] at hz6
   exact q D6 zs H6 h26 hz6 (by rw[hz6.len,ac,<- a3.len]; exact ul) ((e1.trans a4).trans e6)
theorem jFY {w:Int}{ms:List Int}{pcs:List (List Int×Int)}{m:Nat}{c:Int×Nat}(hl:lowN m<w.toNat):c∈chAt (chs w.toNat ms pcs) m↔c.2&&&m=0/\((c=(-1,2 ^ lowN m)/\(lowN m:Int)∈ms)\/∃ k:Int,c=(k,maskN (j9 pcs k))/\0<=k/\k<pcs.length/\(j9 pcs k).headD 0=(lowN m:Int)):=by
 unfold chAt
 rw[aW,iO,and_comm]
 refine iq fun _=>?_
 unfold chs
 rw[aC,jCH hl]
 show c∈qY ms pcs pcs.length (lowN m)↔_
 unfold qY
 rw[bv]
 refine or_congr ?_ ?_
 ·by_cases h:(lowN m:Int)∈ms
  ·rw[aD h,aI]
   exact⟨fun z=>⟨z,h⟩,fun z=>z.1⟩
  ·rw[aF h]
   exact⟨fun z=>(by cases z),fun z=>absurd z.2 h⟩
 ·rw[bH (by rw[kJ]; exact ai _),aV]
  constructor
  ·rintro ⟨k,hk,rfl⟩
   obtain⟨h1,h2⟩:=aW.mp hk
   have b:=(yS pcs.length).bnd k h1
   exact⟨k,rfl,b.1,b.2,aq h2⟩
  ·rintro ⟨k,rfl,h1,h2,h3⟩
   refine⟨k,aW.mpr ⟨?_,ao h3⟩,rfl⟩
   unfold upto
   exact aV.mpr ⟨k.toNat,bc.mpr (by lia),by lia⟩
structure CovM (w:Int)(ms:List Int)(pcs:List (List Int×Int))(m:Nat)(x:List Int):Prop where
 nd:x.Nodup
 bnd:∀ k∈x,0<=k/\k<pcs.length
 off:∀ k∈x,∀ t∈j9 pcs k,m.testBit t.toNat=false
 dis:∀ k∈x,∀ k'∈x,k≠k'->∀ t∈j9 pcs k,t∉j9 pcs k'
 cov:∀ t:Nat,t<w.toNat->m.testBit t=false->(t:Int)∉ms->∃ k∈x,(t:Int)∈j9 pcs k
section
variable {w:Int}(g:Good 16 32 w ms pcs)
include g
theorem qN {k:Int}(h0:0<=k)(h1:k<pcs.length):Lot w (j9 pcs k):=(g.at (k:=k.toNat) (by lia)).lot
theorem jEW {k:Int}(h0:0<=k)(h1:k<pcs.length)(t:Nat):(maskN (j9 pcs k)).testBit t=decide ((t:Int)∈j9 pcs k):=jA6 _ t (qN g h0 h1).ris fun x hx=>((qN g h0 h1).bnd x hx).1
theorem jQY {k:Int}(h0:0<=k)(h1:k<pcs.length){m:Nat} :maskN (j9 pcs k)&&&m=0↔∀ t∈j9 pcs k,m.testBit t.toNat=false:=by
 have l:=qN g h0 h1
 constructor
 ·intro h t ht
  have bt:=l.bnd t ht
  have q:=cg (fun z=>z.testBit t.toNat) h
  simp only [cQ,bX,jEW g h0 h1] at q
  rw[show ((t.toNat:Nat):Int)=t by lia,ao ht,eG] at q
  exact q
 ·intro h
  apply cK
  intro i
  rw[cQ,bX,jEW g h0 h1]
  by_cases hi:(i:Int)∈j9 pcs k
  ·have:=h _ hi
   rw[bp] at this
   rw[this,bP]
  ·rw[aN hi]
   rfl
theorem jCS {k:Int}(h0:0<=k)(h1:k<pcs.length):(j9 pcs k).headD 0∈j9 pcs k/\∀ t∈j9 pcs k,(j9 pcs k).headD 0<=t:=by
 have l:=qN g h0 h1
 refine⟨jG3 l.ne,fun t ht=>?_⟩
 have r:=l.ris
 cases z:j9 pcs k with
 | nil=>rw[z] at ht; cases ht
 | cons a q=>
  rw[z] at ht r
  show a<=t
  rcases az.mp ht with y | y
  ·lia
  ·have:=(cC.mp r).1 t y
   lia
theorem jIW:∀ m,m<2 ^ (chs w.toNat ms pcs).length->∀ x∈wk (chs w.toNat ms pcs) m,CovM w ms pcs m x:=by
 have o:ChOk (chs w.toNat ms pcs):=jF8 g
 have el:(chs w.toNat ms pcs).length=w.toNat:=qH _ _ _ _
 refine jDF o ?_ ?_
 ·intro x hx
  rw[jDP,aI] at hx
  subst hx
  refine⟨gE,fun k hk=>(by cases hk),fun k hk=>(by cases hk),fun k hk=>(by cases hk),fun t ht hb _=>?_⟩
  unfold yB at hb
  rw[el,cr,ao ht] at hb
  cases hb
 ·intro m hm hf ih x hx
  have hl:lowN m<w.toNat:=by have:=jJM hm hf; rwa [el] at this
  rw[jDO o hm hf] at hx
  obtain⟨p,hp,y,hy,rfl⟩:=mem_wJ.mp hx
  obtain⟨c,hc,rfl⟩:=aV.mp hp
  have I:=ih c hc y hy
  have offm:∀ k∈y,∀ t∈j9 pcs k,m.testBit t.toNat=false:=fun k hk t ht=>by
   have:=I.off k hk t ht
   rw[bI,gg] at this
   exact this.1
  obtain⟨hz,hcase⟩:=(jFY hl).mp hc
  rcases hcase with ⟨rfl,hms⟩ | ⟨k,rfl,k0,k1,hd⟩
  ·dsimp only
   rw[aD (show (-1:Int)<0 by decide)]
   refine⟨I.nd,I.bnd,offm,I.dis,fun t ht hb hn=>?_⟩
   refine I.cov t ht ?_ hn
   rw[bI,hb,iJ,cj,aN]
   intro z
   subst z
   exact hn hms
  ·dsimp only at I hz ⊢
   rw[aF (by lia)]
   have ky:∀ t∈j9 pcs k,∀ k'∈y,t∉j9 pcs k':=fun t ht k' hk' ht'=>by
    have:=I.off k' hk' t ht'
    have bt:=(qN g k0 k1).bnd t ht
    rw[bI,jEW g k0 k1,show ((t.toNat:Nat):Int)=t by lia,ao ht,di] at this
    cases this
   have hhd:=(jCS g k0 k1).1
   refine⟨b9.mpr ⟨fun z=>ky _ hhd k z hhd,I.nd⟩,fun k' hk'=>?_,fun k' hk' t ht=>?_,fun k1' h1' k2' h2' ne t ht=>?_,fun t ht hb hn=>?_⟩
   ·rcases az.mp hk' with z | z
    ·rw[z]; exact⟨k0,k1⟩
    ·exact I.bnd k' z
   ·rcases az.mp hk' with z | z
    ·rw[z] at ht
     exact(jQY g k0 k1).mp hz t ht
    ·exact offm k' z t ht
   ·rcases az.mp h1' with z | z <;> rcases az.mp h2' with u | u
    ·exact absurd (z.trans u.symm) ne
    ·rw[z] at ht
     exact ky t ht _ u
    ·rw[u]
     intro q
     exact ky t q _ z ht
    ·exact I.dis _ z _ u ne t ht
   ·by_cases hk:(t:Int)∈j9 pcs k
    ·exact⟨k,aw .., hk⟩
    ·obtain⟨k',h1,h2⟩:=I.cov t ht (by rw[bI,hb,jEW g k0 k1,aN hk]; rfl) hn
     exact⟨k',aA _ h1,h2⟩
theorem jI1:∀ m,m<2 ^ (chs w.toNat ms pcs).length->∀ x,CovM w ms pcs m x->∃ y∈wk (chs w.toNat ms pcs) m,∀ k,k∈y↔k∈x:=by
 have o:ChOk (chs w.toNat ms pcs):=jF8 g
 have el:(chs w.toNat ms pcs).length=w.toNat:=qH _ _ _ _
 have w0:=g.w0
 refine jDF o ?_ ?_
 ·intro x C
  refine⟨[],by rw[jDP]; exact aI.mpr rfl,fun k=>⟨fun z=>(by cases z),fun hk=>?_⟩⟩
  exfalso
  have b:=C.bnd k hk
  have hh:=(jCS g b.1 b.2).1
  have hb:=(qN g b.1 b.2).bnd _ hh
  have:=C.off k hk _ hh
  unfold yB at this
  rw[el,cr,ao (by lia)] at this
  cases this
 ·intro m hm hf ih x C
  have hl:lowN m<w.toNat:=by have:=jJM hm hf; rwa [el] at this
  have hstep:=jDO o hm hf
  by_cases hx:∃ k∈x,(lowN m:Int)∈j9 pcs k
  ·obtain⟨k,hk,ht⟩:=hx
   have b:=C.bnd k hk
   have hd:(j9 pcs k).headD 0=(lowN m:Int):=by
    obtain⟨h1,h2⟩:=jCS g b.1 b.2
    have h3:=h2 _ ht
    have hb:=(qN g b.1 b.2).bnd _ h1
    have h4:=C.off k hk _ h1
    rcases Int.lt_or_eq_of_le h3 with z | z
    ·have:=jFZ m ((j9 pcs k).headD 0).toNat (by lia)
     rw[this] at h4
     cases h4
    ·exact z
   have fit:maskN (j9 pcs k)&&&m=0:=(jQY g b.1 b.2).mpr (C.off k hk)
   have hc:((k,maskN (j9 pcs k)):Int×Nat)∈chAt (chs w.toNat ms pcs) m:=(jFY hl).mpr ⟨fit, .inr ⟨k,rfl,b.1,b.2,hd⟩⟩
   have memE:∀ j,j∈x.erase k↔j≠k/\j∈x:=fun j=>C.nd.mem_erase_iff
   obtain⟨y,hy,hye⟩:=ih _ hc (x.erase k) ⟨C.nd.erase k,fun j hj=>C.bnd j ((memE j).mp hj).2,fun j hj t ht'=>by
     obtain⟨n1,n2⟩:=(memE j).mp hj
     have bj:=C.bnd j n2
     have bt:=(qN g bj.1 bj.2).bnd t ht'
     have:=C.dis j n2 k hk n1 t ht'
     rw[bI,C.off j n2 t ht',jEW g b.1 b.2,show ((t.toNat:Nat):Int)=t by lia,aN this]
     rfl,fun j1 h1 j2 h2=>C.dis j1 ((memE j1).mp h1).2 j2 ((memE j2).mp h2).2,fun t ht' hb hn=>by
     rw[bI,gg,jEW g b.1 b.2,cm] at hb
     obtain⟨j,hj,hjt⟩:=C.cov t ht' hb.1 hn
     exact⟨j,(memE j).mpr ⟨fun z=>hb.2 (z ▸ hjt),hj⟩,hjt⟩⟩
   refine⟨k::y,?_,fun j=>?_⟩
   ·rw[hstep,mem_wJ]
    exact⟨_,iH hc,y,hy,by dsimp only; rw[aF (by lia)]⟩
   ·rw[az,hye,memE]
    constructor
    ·rintro (z | z)
     ·rw[z]; exact hk
     ·exact z.2
    ·intro z
     by_cases hj:j=k
     ·exact .inl hj
     ·exact .inr ⟨hj,z⟩
  ·have hms:(lowN m:Int)∈ms:=cZ fun z=>hx (C.cov (lowN m) hl (jE7 m) z)
   have fit:2 ^ lowN m&&&m=0:=by
    apply cK
    intro i
    rw[cQ,bX,cj]
    by_cases hi:lowN m=i
    ·rw[<- hi,jE7,bP]
    ·rw[aN hi]
     rfl
   have hc:((-1,2 ^ lowN m):Int×Nat)∈chAt (chs w.toNat ms pcs) m:=(jFY hl).mpr ⟨fit, .inl ⟨rfl,hms⟩⟩
   obtain⟨y,hy,hye⟩:=ih _ hc x ⟨C.nd,C.bnd,fun j hj t ht'=>by
     have bj:=C.bnd j hj
     have bt:=(qN g bj.1 bj.2).bnd t ht'
     rw[bI,C.off j hj t ht',iJ,cj,aN]
     intro z
     refine hx ⟨j,hj,?_⟩
     rw[z,show ((t.toNat:Nat):Int)=t by lia]
     exact ht',C.dis,fun t ht' hb hn=>by
     rw[bI,gg] at hb
     exact C.cov t ht' hb.1 hn⟩
   refine⟨y,?_,hye⟩
   rw[hstep,mem_wJ]
   exact⟨_,iH hc,y,hy,by dsimp only; rw[aD (by decide)]⟩
end
structure IsCov (w:Int)(ms:List Int)(pcs:List (List Int×Int))(c:List Int):Prop where
 ris:Ris pcs.length c
 dis:∀ k∈c,∀ k'∈c,k≠k'->∀ t∈j9 pcs k,t∉j9 pcs k'
 cov:∀ t:Int,0<=t->t<w->t∉ms->∃ k∈c,t∈j9 pcs k
section
variable {w:Int}(g:Good 16 32 w ms pcs)
include g
theorem jIH {c:List Int} :c∈cvs w ms pcs↔IsCov w ms pcs c:=by
 have z0:0<2 ^ (chs w.toNat ms pcs).length:=ir _
 have w0:=g.w0
 unfold cvs
 rw[aV]
 constructor
 ·rintro ⟨x,hx,rfl⟩
  have C:=jIW g 0 z0 x hx
  have me:∀ k,k∈srt x↔k∈x:=fun k=>(jAL x).mem_iff
  refine⟨⟨?_,fun k hk=>C.bnd k ((me k).mp hk)⟩,fun k hk k' hk'=>C.dis k ((me k).mp hk) k' ((me k').mp hk'),fun t t0 t1 hn=>?_⟩
  ·exact(List.Pairwise.and (jJ1 x) ((jAL x).nodup_iff.mpr C.nd)).imp fun {a b} h=>by lia
  ·obtain⟨k,hk,hkt⟩:=C.cov t.toNat (by lia) (bX _) (by rw[show ((t.toNat:Nat):Int)=t by lia]; exact hn)
   exact⟨k,(me k).mpr hk,by rwa [show ((t.toNat:Nat):Int)=t by lia] at hkt⟩
 ·intro C
  obtain⟨y,hy,hye⟩:=jI1 g 0 z0 c ⟨C.ris.ris.imp fun {a b} h=>by lia,C.ris.bnd,fun k hk t ht=>bX _,C.dis,fun t ht _ hn=>C.cov t (by lia) (by lia) hn⟩
  refine⟨y,hy,?_⟩
  have ny:=(jIW g 0 z0 y hy).nd
  have nc:c.Nodup:=C.ris.ris.imp fun {a b} h=>by lia
  have pm:c.Perm y:=(List.perm_ext_iff_of_nodup nc ny).mpr fun k=>(hye k).symm
  exact(jBS (C.ris.ris.imp fun {a b} h=>by lia) pm).symm
end
def yQ (pcs:List (List Int×Int))(ks:List Int)(t:Int):Nat:=ks.countP fun k=>decide (t∈j9 pcs k)
def okT (ms:List Int)(n:Nat)(t:Int):Bool:=decide (n<=1)&&(decide (n=1) || decide (t∈ms))
def covI (w:Int)(ms:List Int)(pcs:List (List Int×Int))(ks:List Int):Bool:=(upto w.toNat).all fun t=>okT ms (yQ pcs ks t) t
theorem jRJ {l:List Int}{a b:Int}(ha:a∈l)(hb:b∈l)(ne:a≠b):2<=l.length:=by
 match l,ha,hb with
 | [x],ha,hb=>exact absurd ((aI.mp ha).trans (aI.mp hb).symm) ne
 | x::y::r,_,_=>rw[aZ,aZ]; lia
theorem jSM {l:List Int}(nd:l.Nodup)(h:∀ a∈l,∀ b∈l,a=b):l.length<=1:=by
 match l,nd,h with
 | [],_,_=>exact bh _
 | [x],_,_=>exact ai _
 | x::y::r,nd,h=>
  have:=h x (aw ..) y (aA _ (aw ..))
  subst this
  exact absurd (aw ..) (b9.mp nd).1
theorem jGA {w:Int}{ms:List Int}{pcs:List (List Int×Int)}(g:Good 16 32 w ms pcs){c:List Int}(r:Ris pcs.length c):covI w ms pcs c=true↔IsCov w ms pcs c:=by
 have cn:c.Nodup:=r.ris.imp fun {a b} h=>by lia
 have hl:∀ t,yQ pcs c t=(c.filter fun k=>decide (t∈j9 pcs k)).length:=fun t=>by
  unfold yQ
  rw[List.countP_eq_length_filter]
 have mem:∀ t k,k∈(c.filter fun k=>decide (t∈j9 pcs k))↔k∈c/\t∈j9 pcs k:=fun t k=>by rw[aW,bo]
 have w0:=g.w0
 unfold covI
 rw[aS]
 constructor
 ·intro h
  have h':∀ t:Int,0<=t->t<w->yQ pcs c t<=1/\(yQ pcs c t=1\/t∈ms):=fun t t0 t1=>by
   have:=h t (aB (by have:=yC (n:=w.toNat) (i:=t.toNat) (by lia); rwa [show ((t.toNat:Nat):Int)=t by lia] at this))
   unfold okT at this
   simpa using this
  refine⟨r,fun k hk k' hk' ne t ht ht'=>?_,fun t t0 t1 hm=>?_⟩
  ·have kb:=(qN g (r.bnd k hk).1 (r.bnd k hk).2).bnd t ht
   have:=(h' t kb.1 kb.2).1
   rw[hl] at this
   have:=jRJ ((mem t k).mpr ⟨hk,ht⟩) ((mem t k').mpr ⟨hk',ht'⟩) ne
   lia
  ·have:=(h' t t0 t1).2.resolve_right hm
   rw[hl] at this
   obtain⟨k,hk⟩:=List.exists_mem_of_length_pos (l:=c.filter fun k=>decide (t∈j9 pcs k)) (by lia)
   exact⟨k,(mem t k).mp hk⟩
 ·intro C t ht
  have tb:=(yS w.toNat).bnd t ht
  have l1:yQ pcs c t<=1:=by
   rw[hl]
   refine jSM (cn.sublist cR) fun a ha b hb=>cZ fun ne=>?_
   have ha:=(mem t a).mp ha
   have hb:=(mem t b).mp hb
   exact C.dis a ha.1 b hb.1 ne t ha.2 hb.2
  unfold okT
  rw[ao l1,eG]
  by_cases hm:t∈ms
  ·rw[ao hm,di]
  ·obtain⟨k,hk,hkt⟩:=C.cov t tb.1 (by lia) hm
   have:=List.length_pos_of_mem ((mem t k).mpr ⟨hk,hkt⟩)
   rw[<- hl] at this
   rw[ao (show yQ pcs c t=1 by lia),Bool.true_or]
def covB (w:Int)(ms:List Int)(pcs:List (List Int×Int)):Ob->Bool
 | .tup os=>lotB pcs.length (.tup os)&&covI w ms pcs (os.map val)
 | _=>false
theorem jO5 {w:Int}{ms:List Int}{pcs:List (List Int×Int)}{o:Ob}(h:lotB pcs.length o=false):covB w ms pcs o=false:=by
 cases o with
 | int i=>rfl
 | oth=>rfl
 | tup os=>
  show (lotB _ _&&_)=false
  rw[h]
  rfl
theorem jO3 {w:Int}{ms:List Int}{pcs:List (List Int×Int)}{os:List Ob}(h:lotB pcs.length (.tup os)=true):covB w ms pcs (.tup os)=covI w ms pcs (os.map val):=by
 show (lotB _ _&&_)=_
 rw[h,eG]
theorem jQA {t:Int} :∀ {l:List Int},l.Pairwise (· < ·)->l.count t=if t∈l then 1 else 0:=fun h=>(show (_:List Int).Nodup from h.imp fun {a b} h=>by lia).count
theorem jF3 {pcs:List (List Int×Int)}{t:Int} :∀ (ks:List Int),(∀ k∈ks,(j9 pcs k).Pairwise (· < ·))->(ks.flatMap (j9 pcs)).count t=yQ pcs ks t
 | [],_=>rfl
 | k::r,h=>by
  have ih:=jF3 (t:=t) r fun x hx=>h x (aA _ hx)
  have h1:=jQA (t:=t) (h k aw)
  rw[dk,List.count_append,ih,h1]
  unfold yQ
  rw[cD]
  by_cases e:t∈j9 pcs k
  ·simp [e]
   lia
  ·simp [e]
noncomputable abbrev nCov:List Str:=["box","thing","held","number"]
theorem scCov:FnScope nCov ["box","thing"] (jA sCov):= {}
def spCov:Sp:=fun vs H Q _=>∃ (b:Addr) (v:V) (o:Ob) (w:Int) (ms:List Int) (pcs:List (List Int×Int)),vs=[.ref b,v]/\BoxAt H b w ms pcs/\Good 16 32 w ms pcs/\At H o v/\∀ H',Ext H H'->Q (.bl (covB w ms pcs o)) H'
def covA (T:Txt mg)(CL:Can P w K mg base "is_lot" 3 fL fdL ["thing","many"] (spB2 lotB))(hr:Room 3 (XOf nCov "is_covering" sCov P w K mg base f dl A outer s H0 E).A): { t:TS // JSs (XOf nCov "is_covering" sCov P w K mg base f dl A outer s H0 E) (jN sCov) t} :=
 have nd:=scCov.nd
 ⟨_,(jB (yJ (jDA (qG (CL.je hr gD (j4 (jv 1 rfl vL) (j4 (jK jV gD T.len (by decide+kernel) (j4 (jJ jL (jv 0 rfl vC) (jC) jE) j8 jI) jI) j8 jG) j6) j6) yY)) (jH (kB (xD))) kP)
   (jB (jT (i:=2) nd rfl yX (yF j8) qU)
   (jB (qS bB rfl (yP (jv 1 rfl vL)) (jQ (i:=3) nd rfl lL) (jH (qO (xG bb dr dv jBR (jv 2 rfl vC) (j4 (jJ jL (jJ jL (jJ jL (jv 0 rfl vC) (jC) jE) (jv 3 rfl vL) y9) (jC) jE) j8 jI) jI) jW)) yD)
   (jH (kB (jK (jAX rfl) gD T.all (by decide+kernel) (j4 (kN (m:=[none,some 2,some 0]) (Nc:=["one","held","box"]) rfl (kX gD T.range (j4 (jJ jL (jv 0 rfl vC) (jC) jE) j8 jI) jI) rfl (by decide+kernel) (by decide+kernel) (jX (psc:=jA sCov)) (jM (N:=nCov) rfl rfl (by decide+kernel)) (fun cl C fp s H=>jQ (i:=0) (show (["one","held","box"]:List Str).Nodup by decide+kernel) rfl yA) (fun cl C fp s H=>kZ) (fun cl C fp s H=>((jH9 (q0 op_le (jNG bb hZ ic jGZ (jv 1 rfl jZ) (j4 (jv 0 rfl jS) j8 j6) j6) (jC) (kT _)) (jEB ((je_or (q0 qX (jNG bb hZ ic jGZ (jv 1 rfl jZ) (j4 (jv 0 rfl jS) j8 j6) j6) (jC) (kT _)) (jEB (q0 jAU (jv 0 rfl jS) (jJ kD (jv 2 rfl jZ) (jC) jE) jE2)))))))) kQ) j8 jR) jR))))))⟩
theorem jUI {fd:FuncData}(F:Fun K "is_covering" "is_covering" sCov f fd)(T:Txt mg)(CL:Can P w K mg base "is_lot" 3 fL fdL ["thing","many"] (spB2 lotB)):FnOk P w K mg base CX0 4 f fd ["box","thing"] spCov:=by
 refine F.ok scCov (fun vs H Q E h=>?_) (fun dl A outer s H vs Q E hr h=>?_)
 ·obtain⟨_,_,_,_,_,_,rfl,_⟩:=h
  rfl
 ·obtain⟨b,v,o,w,ms,pcs,rfl,hB,g,hA,q⟩:=h
  obtain⟨qm,qp,ps,b1,b2,b3,b4⟩:=id hB.ex
  have pl:=b4.len
  have gl:=g.pl
  have w0:=g.w0
  have w1:=g.w1
  refine⟨_,(covA T CL hr).2.h,?_⟩
  refine⟨_,rfl,_,rfl,b,_,2,_,rfl,rfl,SqT.of b1,rfl,qp,_,rfl, .inr (SqT.of b3),v,o,_,rfl,hA,fun H1 e1=>⟨_,rfl,?_⟩⟩
  rw[pl]
  cases hL:lotB pcs.length o with
  | false=>exact iteT (qb (q H1 e1) (jO5 hL))
  | true=>
   refine iteF ?_
   have ht:isTup o=true:=by cases o <;> first | rfl | cases hL
   obtain⟨os,a,vs,rfl,rfl,ha,h100,hx⟩:=hA.tupOf ht
   obtain⟨hv,hris,hbnd⟩:=jG0 hL hx
   rw[jO3 hL] at q
   generalize os.map val=c at hv hris hbnd q
   subst hv
   have cl:=yM c 0 _ hris hbnd
   have c32:c.length<=32:=by lia
   refine⟨by show (0:Nat)<=_; decide,fun l H2 d2 e2 n2=>?_⟩
   have E2:=e1.trans e2
   have n16:∀ k∈c,(j9 pcs k).length<=16:=fun k hk=>jA2 g (hbnd k hk).1 (hbnd k hk).2
   refine⟨_,rfl,a,rfl,⟨_,SqT.of (E2 _ _ ha)⟩,jIM (xs:=c.map V.int) (fun i σ H'=>(∃ v3,σ=[some (.ref b),some (.ref a),some (.ref l),v3])/\Ext H1 H'/\H' l=some (.lst (((c.take i).flatMap (j9 pcs)).map V.int))) ⟨⟨_,rfl⟩,e2,d2⟩ (fun i σ H' _ ⟨_,e,_⟩=>SqT.of (e _ _ (e1 _ _ ha))) ?_ ?_⟩
   ·rintro i v σ H3 hv ⟨⟨v3,rfl⟩,e3,hl3⟩
    obtain⟨k,hk,rfl⟩:=int_at hv
    have km:=aB hk
    have kb:=hbnd k km
    have E3:=e1.trans e3
    obtain⟨pa,pq,g1,g2,g3⟩:=jA5 b4 kb.1 kb.2
    have hn:=jDL (f:=j9 pcs) (ks:=c.take i) (fun k hk=>n16 k (bS hk)) 32 (by rw[bg]; lia)
    have hn2:=n16 k km
    refine⟨_,rfl, .inl ⟨rfl,_,SqL.of hl3⟩,_,rfl,b,_,2,_,rfl,rfl,SqT.of (E3 _ _ b1),rfl,_,rfl,qp,_,k,_,rfl,rfl,SqT.of (E3 _ _ b3),g1,pa,_,0,_,rfl,rfl,SqT.of (E3 _ _ g2),rfl,l,pq,_,_,rfl,rfl,hl3,E3 _ _ g3,?_,⟨_,rfl⟩,e3.updNew n2 _,?_⟩
    ·rw[ac,ac,ah]
     lia
    ·rw[j7]
     have:c.take (i+1)=c.take i++[k]:=by rw[aJ,hk]; rfl
     rw[this,eg,au]
     simp
   ·rintro σ H3 ⟨⟨v3,rfl⟩,e3,hl3⟩
    rw[ac,aO] at hl3
    have E3:=e1.trans e3
    have cnt:∀ t:Int,((c.flatMap (j9 pcs)).map V.int).countP (fun z=>eqV z (.int t))=yQ pcs c t:=fun t=>by
     rw[jO6]
     exact jF3 c fun k hk=>(qN g (hbnd k hk).1 (hbnd k hk).2).ris
    refine⟨_,rfl,b,_,0,_,rfl,rfl,SqT.of (E3 _ _ b1),rfl,w,rfl,by lia,by lia,jCE (n:=w.toNat) (fun σ=>∃ v,σ=[v,some (.ref l),some (.ref b)]) (mapZ (upto w.toNat) fun t=>V.bl (okT ms (yQ pcs c t) t)) (mapZ.ok _ _) (by rw[ah]; lia) ⟨_,rfl⟩ ?_ ?_⟩
    ·rintro j σ' H4 zs hj ⟨v,rfl⟩ e hz S1 S2 yes no
     have e0:(0+(j:Int))=(j:Int):=by lia
     dsimp only [kI,yG]
     rw[aD rfl]
     have hl4:=e _ _ hl3
     have E4:=E3.trans e
     have fin:∀ {x:Bool},x=okT ms (yQ pcs c (j:Int)) (j:Int)->mapZ (upto w.toNat) (fun t=>V.bl (okT ms (yQ pcs c t) t)) H4 (zs++[V.bl x]) (j+1):=fun {x} ex=>by
      rw[ex]
      exact hz.yes (yC hj)
     refine⟨_,rfl, .inl ⟨rfl,_,SqL.of hl4⟩,_,rfl,l,_,_,rfl,rfl,hl4,rfl,kL _,_,_,rfl,rfl,_,rfl,?_⟩
     rw[e0,cnt]
     refine ite2 (fun h1=>?_) (fun h1=>?_)
     ·have h1:((yQ pcs c (j:Int):Nat):Int)<=1:=aq h1
      refine⟨_,rfl, .inl ⟨rfl,_,SqL.of hl4⟩,_,rfl,l,_,_,rfl,rfl,hl4,rfl,kL _,rfl,_,rfl,?_⟩
      rw[cnt]
      refine ite2 (fun h2=>?_) (fun h2=>?_)
      ·have h2:=V.int.inj (aq h2)
       refine yes _ _ _ ⟨_,rfl⟩ (Ext.refl _) (fin ?_)
       unfold okT
       rw[ao (show yQ pcs c (j:Int)<=1 by lia),ao (show yQ pcs c (j:Int)=1 by lia)]
       rfl
      ·have h2:¬ yQ pcs c (j:Int)=1:=fun h=>h2 (ao (by rw[h]; rfl))
       refine⟨_,rfl,_,rfl,b,_,1,_,rfl,rfl,SqT.of (E4 _ _ b1),rfl,qm,_,rfl, .inr (SqT.of (E4 _ _ b2)),rfl,kL _,yes _ _ _ ⟨_,rfl⟩ (Ext.refl _) (fin ?_)⟩
       show inV (.int (j:Int)) (ms.map V.int)=_
       rw[kU]
       unfold okT
       rw[ao (show yQ pcs c (j:Int)<=1 by lia),aN h2]
       simp
     ·have h1:¬ ((yQ pcs c (j:Int):Nat):Int)<=1:=fun h=>h1 (ao h)
      refine yes _ _ _ ⟨_,rfl⟩ (Ext.refl _) (fin ?_)
      unfold okT
      rw[aN (show ¬ yQ pcs c (j:Int)<=1 by lia)]
      rfl
    ·rintro D H4 zs h4 e4 n4 hz
     have hz:=hz.all (by rw[kJ]; exact ai _)
     have hz2:zs=((upto w.toNat).map fun t=>okT ms (yQ pcs c t) t).map V.bl:=by rw[hz,cG]; rfl
     rw[hz2] at h4
     refine⟨D,_,rfl,SqL.of h4,?_⟩
     rw[gq]
     exact q H4 (E3.trans e4)
abbrev jFV:List Str:=["e","own","kinds"]
theorem scOthers:FnScope jFV ["e","own"] (jA jB1):= {}
abbrev jDH:List Str:=["Held","NoCovering","NoDeed","NoOrder","NoPiece","NoRow","NoText","NoThing","NoWeight","TooMany"]
structure Kinds (K:W.Frag)(mg:Str->Option Value)(C:Addr)(cl:Nat->Addr)(ks:Nat->Bool):Prop where
 ei:ExcIs K C
 ml:∀ i x,jDH[i]?=some x->mg x=some (.ref (cl i))
 is_:∀ i,i<10->kitOne K (.ref C) (.ref (cl i))=some (ks i)
 ve:kitOne K (.ref C) (.type "ValueError")=some true
def oneOf (own:Int)(n:Nat):List Tr:=(List.range n).map fun (i:Nat)=>Tr.bl (decide ((i:Int)=own))
def jBO (C:Addr)(ks:Nat->Bool):Addr->Sp:=fun x vs H Q _=>∃ own:Int,vs=[.ref x, .int own]/\H x=some (.ext (excP x C))/\∀ H',Ext H H'->Q (.bl (eqTs [.bl (ks 0), .bl (ks 1), .bl (ks 2), .bl (ks 3), .bl (ks 4), .bl (ks 5), .bl (ks 6), .bl (ks 7), .bl (ks 8), .bl (ks 9), .bl false] (oneOf own 11))) H'
def jSH {C x:Addr}{cl:Nat->Addr}(T:Txt mg)(EI:ExcIs K C)(ML:∀ i x,jDH[i]?=some x->mg x=some (.ref (cl i)))(hr:RoomS 0 (cxS P w K mg base jFV "_law_others" (jA jB1) f dl A outer s H0 E).A x): { t:TS // JSs (cxS P w K mg base jFV "_law_others" (jA jB1) f dl A outer s H0 E) (jN jB1) t} :=
 have nd:=scOthers.nd
 ⟨_,(jB (jT (i:=2) nd rfl loc_s (yF (j4 (jK (y8 EI) gl_s T.isinstance (by decide+kernel) (j4 (jv 0 rfl qZ) (j4 (jAV (v:= .ref (cl 0)) gl_s (ML 0 _ rfl) rfl) j8 j6) j6) j6) (j4 (jK (y8 EI) gl_s T.isinstance (by decide+kernel) (j4 (jv 0 rfl qZ) (j4 (jAV (v:= .ref (cl 1)) gl_s (ML 1 _ rfl) rfl) j8 j6) j6) j6) (j4 (jK (y8 EI) gl_s T.isinstance (by decide+kernel) (j4 (jv 0 rfl qZ) (j4 (jAV (v:= .ref (cl 2)) gl_s (ML 2 _ rfl) rfl) j8 j6) j6) j6) (j4 (jK (y8 EI) gl_s T.isinstance (by decide+kernel) (j4 (jv 0 rfl qZ) (j4 (jAV (v:= .ref (cl 3)) gl_s (ML 3 _ rfl) rfl) j8 j6) j6) j6) j8 jG) jG) jG) jG)) qU)
   (jB (jT (i:=2) nd rfl loc_s (yK jDI (jv 2 rfl qZ) (yF (j4 (jK (y8 EI) gl_s T.isinstance (by decide+kernel) (j4 (jv 0 rfl qZ) (j4 (jAV (v:= .ref (cl 4)) gl_s (ML 4 _ rfl) rfl) j8 j6) j6) j6) (j4 (jK (y8 EI) gl_s T.isinstance (by decide+kernel) (j4 (jv 0 rfl qZ) (j4 (jAV (v:= .ref (cl 5)) gl_s (ML 5 _ rfl) rfl) j8 j6) j6) j6) (j4 (jK (y8 EI) gl_s T.isinstance (by decide+kernel) (j4 (jv 0 rfl qZ) (j4 (jAV (v:= .ref (cl 6)) gl_s (ML 6 _ rfl) rfl) j8 j6) j6) j6) (j4 (jK (y8 EI) gl_s T.isinstance (by decide+kernel) (j4 (jv 0 rfl qZ) (j4 (jAV (v:= .ref (cl 7)) gl_s (ML 7 _ rfl) rfl) j8 j6) j6) j6) j8 jG) jG) jG) jG))) jER)
   (jB (jT (i:=2) nd rfl loc_s (yK jDI (jv 2 rfl qZ) (yF (j4 (jK (y8 EI) gl_s T.isinstance (by decide+kernel) (j4 (jv 0 rfl qZ) (j4 (jAV (v:= .ref (cl 8)) gl_s (ML 8 _ rfl) rfl) j8 j6) j6) j6) (j4 (jK (y8 EI) gl_s T.isinstance (by decide+kernel) (j4 (jv 0 rfl qZ) (j4 (jAV (v:= .ref (cl 9)) gl_s (ML 9 _ rfl) rfl) j8 j6) j6) j6) (j4 (jH8 (jK (y8 EI) gl_s T.isinstance (by decide+kernel) (j4 (jv 0 rfl qZ) (j4 (jC1 (v:= .ty "ValueError") gl_s T.ValueError (by decide+kernel) rfl) j8 j6) j6) j6)) j8 se_un) jG) jG))) jER)
   (jH (kB (q0 (jSK hr.units101) (jv 2 rfl qZ) (jQ4 (m:=[none,some 1]) (Nc:=["place","own"]) hr.hd (jND gl_s T.range (j4 (jC) j8 jU) jU) rfl (by decide+kernel) (by decide+kernel) (jX (psc:=jA jB1)) (jM (N:=jFV) rfl rfl (by decide+kernel)) (fun cl C fp s H=>jQ (i:=0) (show (["place","own"]:List Str).Nodup by decide+kernel) rfl yA) (fun cl C fp s H=>kZ) (fun cl C fp s H=>(q0 qX (jv 0 rfl jS) (jv 1 rfl jZ) (kT _))) kQ) (kT _)))))))⟩
theorem jOL {H:Hp} :∀ bs:List Bool,TsAt H (bs.map Tr.bl) (bs.map V.bl)
 | []=>by rw[eX,eX,TsAt]
 | b::r=>by
  rw[bA,bA,TsAt]
  exact⟨_,_,rfl,by rw[TAt],jOL r⟩
theorem jK7:∀ bs:List Bool,deps (bs.map Tr.bl)=0
 | []=>by rw[eX,deps]
 | b::r=>by
  rw[bA,deps,jK7 r,dep]
  ·rfl
  ·intro _ z; cases z
  ·intro _ z; cases z
section
variable {C:Addr}{cl:Nat->Addr}
theorem jMI {fd:FuncData}(F:Fun K "_law_others" "_law_others" jB1 f fd)(T:Txt mg)(k:Kinds K mg C cl ks):FnS P w K mg base 1 f fd ["e","own"] (jBO C ks):=by
 refine jV2 F scOthers (fun x vs H Q E h=>?_) (fun dl A outer s H vs Q E x hr h=>?_)
 ·obtain⟨_,rfl,_⟩:=h
  rfl
 ·obtain⟨own,rfl,hx,q⟩:=h
  refine⟨_,(jSH T k.ei k.ml hr).2.h,?_⟩
  have ki:=k.is_
  have rr:∀ {a:Addr}(v:Value),RelV (.ref a) v->v= .ref a:=fun v h=>h
  refine⟨_,rfl,x,_,_,_,rfl,hx,rr,ki 0 (by decide),_,rfl,x,_,_,_,rfl,hx,rr,ki 1 (by decide),_,rfl,x,_,_,_,rfl,hx,rr,ki 2 (by decide),_,rfl,x,_,_,_,rfl,hx,rr,ki 3 (by decide),by show (4:Nat)<=_; decide,fun l1 H1 d1 e1 _=>?_⟩
  have hx:=e1 _ _ hx
  refine⟨_,rfl,_,rfl,x,_,_,_,rfl,hx,rr,ki 4 (by decide),_,rfl,x,_,_,_,rfl,hx,rr,ki 5 (by decide),_,rfl,x,_,_,_,rfl,hx,rr,ki 6 (by decide),_,rfl,x,_,_,_,rfl,hx,rr,ki 7 (by decide),by show (4:Nat)<=_; decide,fun l2 H2 d2 e2 _=>?_⟩
  refine⟨l1,l2,_,_,rfl,rfl,e2 _ _ d1,d2,by show (8:Nat)<=_; decide,fun l3 H3 d3 e3 _=>?_⟩
  have hx:=e3 _ _ (e2 _ _ hx)
  refine⟨_,rfl,_,rfl,x,_,_,_,rfl,hx,rr,ki 8 (by decide),_,rfl,x,_,_,_,rfl,hx,rr,ki 9 (by decide),_,rfl,x,_,_,_,rfl,hx,(fun _ h=>h),k.ve,_,rfl,by show (3:Nat)<=_; decide,fun l4 H4 d4 e4 _=>?_⟩
  refine⟨l3,l4,_,_,rfl,rfl,e4 _ _ d3,d4,by show (11:Nat)<=_; decide,fun l5 H5 d5 e5 _=>?_⟩
  have hx:=e5 _ _ (e4 _ _ hx)
  have e05:Ext H H5:=(((e1.trans e2).trans e3).trans e4).trans e5
  refine⟨_,rfl,11,rfl,by decide,by decide,jO7 (n:=11) (by decide) (fun D j σ' H' zs=>(∃ v,σ'=[v,some (.int own)])/\Ext H5 H'/\H' D=some (.lst zs)/\H5 D=none/\zs=((List.range j).map fun (i:Nat)=>decide ((i:Int)=own)).map V.bl) ?_ ?_ ?_ ?_⟩
  ·intro D hD
   exact⟨⟨_,rfl⟩,(Ext.refl _).new hD _,j7,hD,rfl⟩
  ·rintro D j σ' H' zs hD hj ⟨_,e,h2,_,rfl⟩
   refine⟨⟨C,e _ _ hx⟩,h2,?_⟩
   rw[ac,ac,b7]
   exact ai _
  ·rintro D j σ' H' zs hD hj ⟨⟨v,rfl⟩,e,h2,hn,rfl⟩
   dsimp only [kI,yG]
   rw[aD rfl]
   refine⟨_,rfl,_,rfl,rfl,h2,⟨_,rfl⟩,e.updNew hn _,j7,hn,?_⟩
   have ed:decide (V.int (0+(j:Int))=V.int own)=decide ((j:Int)=own):=by
    rw[gt]
    exact hW.mpr ⟨fun z=>V.int.inj z,fun z=>by rw[z]⟩
   rw[ed,gh,au,au]
   rfl
  ·rintro D σ' H' zs hD ⟨_,e,h2,hn,rfl⟩
   refine⟨_,oneOf own 11,⟨l5,_,rfl,e _ _ d5,jOL [ks 0,ks 1,ks 2,ks 3,ks 4,ks 5,ks 6,ks 7,ks 8,ks 9,false]⟩,⟨D,_,rfl,h2,?_⟩,?_,q H' (e05.trans e)⟩
   ·have:=jOL (H:=H') ((List.range 11).map fun (i:Nat)=>decide ((i:Int)=own))
    rw[cG] at this
    exact this
   ·rw[jK7]
    exact bh _
end
abbrev IC (b:Bx)(c:List Int):Prop:=IsCov b.1 b.2.1 b.2.2 c
def qT (ks tk c:List Int):List Int:=srt (tk++c.map (at_ ks))
def jC3 (ks c:List Int):List Int:=(upto ks.length).filter fun j=>decide (ks.getD j.toNat 0∈c)
abbrev cvO (b:Bx)(o:Ob):Bool:=covB b.1 b.2.1 b.2.2 o
abbrev eK (b:Bx):List Int:=(endS b).2.2.1
abbrev eT (b:Bx):List Int:=(endS b).2.2.2
theorem At.ofT {tb:Addr}{H H':Hp}{o:Ob}{v:V}(h:At H o v)(e:ExtT tb H H')(t:TabP H tb):At H' o v:=At.mono ⟨fun b xs h=>e.at t h,fun b xs h=>⟨xs,e.at t h⟩,fun b xs h=>⟨xs,e.at t h⟩⟩ o v h
def obsO:Ob->List Int
 | .tup os=>os.map val
 | _=> []
theorem jO4 {H:Hp}{b:Bx}{o:Ob}{v:V}(g:GB b)(h:At H o v)(y:cvO b o=true):∃ a,v= .ref a/\H a=some (.tup ((obsO o).map V.int))/\IC b (obsO o):=by
 have ht:isTup o=true:=by cases o <;> first | rfl | cases y
 obtain⟨os,a,vs,rfl,rfl,ha,h100,hx⟩:=h.tupOf ht
 have hL:lotB b.2.2.length (.tup os)=true:=by
  cases hL:lotB b.2.2.length (.tup os) with
  | true=>rfl
  | false=>
   have:=jO5 (w:=b.1) (ms:=b.2.1) (pcs:=b.2.2) hL
   rw[show cvO b (.tup os)=covB b.1 b.2.1 b.2.2 (.tup os) from rfl,this] at y
   cases y
 obtain⟨hv,hris,hbnd⟩:=jG0 hL hx
 have y:covB b.1 b.2.1 b.2.2 (.tup os)=true:=y
 rw[jO3 hL] at y
 exact⟨a,rfl,by rw[ha,hv]; rfl,(jGA g ⟨hris,hbnd⟩).mp y⟩
abbrev XOfX (C:Addr)(N:List Str)(q:Str)(st:Stmt)(P:Program)(w:World)(K:W.Frag)(mg:Str->Option Value)(base:Heap)(f:Addr)(dl:Value)(A:Around)(outer:List Env)(s:Shared)(H:Hp)(E:XK):Cx:=cxOf (CXX P w C) P w K mg base N q (jA st) f dl A outer s H E
abbrev jMU:List Str:=["box","covering","told"]
theorem scLBack:FnScope jMU ["box","covering"] (jA jD3):= {}
def jFF (tb:Addr):Sp:=fun vs H Q E=>∃ (a:Addr) (v:V) (o:Ob) (b:Bx),vs=[.ref a,v]/\BxAt H a b/\GB b/\At H o v/\TabP H tb/\
 (cvO (endS b).1 o=true->∀ r H',H' r=some (.tup ((qT (eK b) (eT b) (obsO o)).map V.int))->ExtT tb H H'->TabP H' tb->Q (.ref r) H')/\(cvO (endS b).1 o=false->∀ x H',ExtT tb H H'->TabP H' tb->E (.ref x) (some x) H')
def jUQ (T:Txt mg)(CU:Can P w K mg base "turned_smaller" 6 fU fdU ["box"] (jBL tb))(CC:Can P w K mg base "is_covering" 4 fC fdC ["box","thing"] spCov)(CT:Can P w K mg base "traced" 1 fT fdT ["places","numbers"] jAM)(EK:ExcK K cE)(MX:mg "NoCovering" =some (.ref cE))(hr:Room 6 (XOfX cE jMU "led_back" jD3 P w K mg base f dl A outer s H0 E).nox.A): { t:TS // JSs (XOfX cE jMU "led_back" jD3 P w K mg base f dl A outer s H0 E) (jN jD3) t} :=
 have nd:=scLBack.nd
 ⟨_,(jB (JS.nox (jT (i:=2) nd rfl (loc_x (by decide+kernel)) (CU.je hr gl_x (j4 (jv 0 rfl vis_x) j8 j6) j6) jW)) (jB (yJ (JT.nox (jDA (qG (CC.je (hr.mono (by decide)) gl_x (j4 (jJ jL (jv 2 rfl vis_x) (jC) jE) (j4 (jv 1 rfl vis_x) j8 j6) jI) jI) yY))) (jH (jH6 rfl EK gl_x MX (j4 jF2 j8 jU))) kP) (JSs.nox (jH (kB (jP jO gl_x T.tuple (by decide+kernel) (j4 (jK jAQ gl_x T.sorted (by decide+kernel) (j4 (yK jB4 (jJ jL (jv 2 rfl vis_x) (jC) jE) (CT.je (hr.mono (by decide)) gl_x (j4 (jv 1 rfl vis_x) (j4 (jJ jL (jv 2 rfl vis_x) (jC) jE) j8 jI) j6) j6)) j8 yU) yU) j8 jG) jG))))))⟩
theorem jPM {fd:FuncData}(F:Fun K "led_back" "led_back" jD3 f fd)(T:Txt mg)(CU:Can P w K mg base "turned_smaller" 6 fU fdU ["box"] (jBL tb))(CC:Can P w K mg base "is_covering" 4 fC fdC ["box","thing"] spCov)(CT:Can P w K mg base "traced" 1 fT fdT ["places","numbers"] jAM)(EK:ExcK K cE)(MX:mg "NoCovering" =some (.ref cE)):FnOk P w K mg base (CXX P w cE) 7 f fd ["box","covering"] (jFF tb):=by
 refine F.okX scLBack (fun vs H Q E h=>?_) (fun dl A outer s H vs Q E hr h=>?_)
 ·obtain⟨_,_,_,_,rfl,_⟩:=h
  rfl
 ·obtain⟨a,v,o,b,rfl,hB,g,hA,tab,qy,qn⟩:=h
  refine⟨_,(jUQ T CU CC CT EK MX hr).2.h,?_⟩
  have ok:=jG8 g
  have pl:=ok.g.pl
  have kk:=ok.k
  have op:=ok.p
  refine⟨_,rfl,a,b,rfl,hB,g,tab,fun r1 H1 S1 e1 t1=>?_⟩
  have T1:=Tups.ofT e1 tab
  obtain⟨x0,x1,x2,x3,s0,s1,s2,s3,s4⟩:=S1.ex
  refine⟨_,rfl,r1,_,0,_,rfl,rfl,SqT.of s0,rfl,_,rfl,x0,v,o,_,_,_,rfl,s1,ok.g,hA.ofT e1 tab,fun H2 e2=>⟨_,rfl,?_⟩⟩
  cases hc:covB (endS b).1.1 (endS b).1.2.1 (endS b).1.2.2 o with
  | false=>exact iteT ⟨by show (1:Nat)<=_; decide,fun x=>qn hc x H2 (e1.trans (ExtT.of e2)) (t1.ext e2)⟩
  | true=>
   obtain⟨ca,rfl,hc1,C⟩:=jO4 ok.g hA hc
   have q:=qy hc
   generalize obsO o=c at hc1 C q
   have cl:=yM c 0 _ C.ris.ris C.ris.bnd
   have hc1:=T1 _ _ hc1
   refine iteF ?_
   refine⟨_,rfl,r1,_,3,_,rfl,rfl,SqT.of (e2 _ _ s0),rfl,_,rfl,_,rfl,r1,_,2,_,rfl,rfl,SqT.of (e2 _ _ s0),rfl,ca,x2,c,eK b,rfl,e2 _ _ hc1,e2 _ _ s3,fun p hp=>?_,by lia,fun r3 H3 d3 e3=>?_⟩
   ·have:=C.ris.bnd p hp
    rw[op]
    exact this
   refine⟨x3,r3,_,_,rfl,rfl,e3 _ _ (e2 _ _ s4),d3,by rw[ac,ac,ac,ah]; lia,fun r4 H4 d4 e4=>?_⟩
   rw[<- au] at d4
   refine⟨r4,_,rfl,d4,by rw[aE,ac]; lia,fun l ns hl ple pm=>?_⟩
   have en:ns=qT (eK b) (eT b) c:=jBS ple pm
   subst en
   have e5:Ext H4 (L2.upd H4 l (.lst ((qT (eK b) (eT b) c).map V.int))):=(Ext.refl _).new hl _
   have d5:(L2.upd H4 l (.lst ((qT (eK b) (eT b) c).map V.int))) l=some (.lst ((qT (eK b) (eT b) c).map V.int)):=j7
   generalize L2.upd H4 l (.lst ((qT (eK b) (eT b) c).map V.int))=H5 at e5 d5
   refine⟨l,_,rfl, .inl ⟨SqL.of d5,fun r6 hr6=>?_⟩⟩
   have e6:Ext H5 (L2.upd H5 r6 (.tup ((qT (eK b) (eT b) c).map V.int))):=(Ext.refl _).new hr6 _
   have E6:=(((e2.trans e3).trans e4).trans e5).trans e6
   exact q r6 _ j7 (e1.trans (ExtT.of E6)) (t1.ext E6)
abbrev jFW:List Str:=["box","covering"]
theorem scLThere:FnScope jFW ["box","covering"] (jA jB2):= {}
def jBP (tb:Addr):Sp:=fun vs H Q E=>∃ (a:Addr) (v:V) (o:Ob) (b:Bx),vs=[.ref a,v]/\BxAt H a b/\GB b/\At H o v/\TabP H tb/\
 (cvO b o=true->∀ r H',H' r=some (.tup ((jC3 (eK b) (obsO o)).map V.int))->ExtT tb H H'->TabP H' tb->Q (.ref r) H')/\(cvO b o=false->∀ x H',ExtT tb H H'->TabP H' tb->E (.ref x) (some x) H')
def jT0 (T:Txt mg)(CU:Can P w K mg base "turned_smaller" 6 fU fdU ["box"] (jBL tb))(CC:Can P w K mg base "is_covering" 4 fC fdC ["box","thing"] spCov)(EK:ExcK K cE)(MX:mg "NoCovering" =some (.ref cE))(hr:Room 6 (XOfX cE jFW "led_there" jB2 P w K mg base f dl A outer s H0 E).nox.A): { t:TS // JSs (XOfX cE jFW "led_there" jB2 P w K mg base f dl A outer s H0 E) (jN jB2) t} :=
 have nd:=scLThere.nd
 ⟨_,(jB (yJ (JT.nox (jDA (qG (CC.je (hr.mono (by decide)) gl_x (j4 (jv 0 rfl vis_x) (j4 (jv 1 rfl (jTL (by decide+kernel))) j8 j6) j6) j6) yY))) (jH (jH6 rfl EK gl_x MX (j4 jF2 j8 jU))) kP) (JSs.nox (jH (kB (jP jO gl_x T.tuple (by decide+kernel) (j4 (kN (m:=[none,none,some 1]) (Nc:=["place","number","covering"]) rfl (jG2 gl_x T.enumerate (j4 (jJ jL (CU.je hr gl_x (j4 (jv 0 rfl vis_x) j8 j6) j6) (jC) jE) j8 jI) jI) rfl (by decide+kernel) (by decide+kernel) (jX (psc:=jA jB2)) (jM (N:=jFW) rfl rfl (by decide+kernel)) (fun cl C fp s H=>jBH (i:=0) (j:=1) rfl (show (["place","number","covering"]:List Str).Nodup by decide+kernel) rfl rfl (by decide+kernel) (by decide+kernel)) (fun cl C fp s H=>yI (jY jAU (jv 1 rfl jS) (jv 2 rfl jZ) yN)) (fun cl C fp s H=>(jv 0 rfl jS)) kQ) j8 jR) jR)))))⟩
theorem jMJ {fd:FuncData}(F:Fun K "led_there" "led_there" jB2 f fd)(T:Txt mg)(CU:Can P w K mg base "turned_smaller" 6 fU fdU ["box"] (jBL tb))(CC:Can P w K mg base "is_covering" 4 fC fdC ["box","thing"] spCov)(EK:ExcK K cE)(MX:mg "NoCovering" =some (.ref cE)):FnOk P w K mg base (CXX P w cE) 7 f fd ["box","covering"] (jBP tb):=by
 refine F.okX scLThere (fun vs H Q E h=>?_) (fun dl A outer s H vs Q E hr h=>?_)
 ·obtain⟨_,_,_,_,rfl,_⟩:=h
  rfl
 ·obtain⟨a,v,o,b,rfl,hB,g,hA,tab,qy,qn⟩:=h
  refine⟨_,(jT0 T CU CC EK MX hr).2.h,?_⟩
  have ok:=jG8 g
  have pl:=ok.g.pl
  have op:=ok.p
  refine⟨_,rfl,_,rfl,a,v,o,_,_,_,rfl,hB,g,hA,fun H1 e1=>⟨_,rfl,?_⟩⟩
  cases hc:covB b.1 b.2.1 b.2.2 o with
  | false=>exact iteT ⟨by show (1:Nat)<=_; decide,fun x=>qn hc x H1 (ExtT.of e1) (tab.ext e1)⟩
  | true=>
   obtain⟨ca,rfl,hc1,C⟩:=jO4 g hA hc
   have q:=qy hc
   generalize obsO o=c at hc1 C q
   refine iteF ?_
   refine⟨_,rfl,a,b,rfl,hB.mono e1.tups,g,tab.ext e1,fun r1 H2 S1 e2 t2=>?_⟩
   have T2:=Tups.ofT e2 (tab.ext e1)
   obtain⟨x0,x1,x2,x3,s0,s1,s2,s3,s4⟩:=S1.ex
   have hc2:=T2 _ _ (e1 _ _ hc1)
   have l32:(eK b).length<=32:=by rw[op]; lia
   refine⟨r1,_,2,_,rfl,rfl,SqT.of s0,rfl,true,x2,rfl,⟨_,SqT.of s3⟩,jQI (tp:=true) (xs:=(eK b).map V.int) (fun σ=>∃ v v',σ=[v,v',some (.ref ca)]) (outZ (upto (eK b).length) (fun j=>decide ((eK b).getD j.toNat 0∈c)) V.int) (outZ.ok _ _ _) s3 (by rw[ac,ah]; lia) ⟨_,_,rfl⟩ ?_ ?_⟩
   ·rintro j x Tp σ' H' zs hx ⟨v,v',rfl⟩ e hT hz S3 S4 yes no
    obtain⟨z,hz',rfl⟩:=int_at hx
    have hj:j<(eK b).length:=(av.mp hz').1
    have ez:(eK b).getD ((j:Nat):Int).toNat 0=z:=by rw[bp,aC,hz']; rfl
    refine⟨Tp,_,rfl,SqT.of hT,rfl,_,_,rfl,_,_,rfl,rfl,?_⟩
    refine⟨_,rfl,_,rfl,ca,_,rfl, .inr (SqT.of (e _ _ hc2)),rfl,kL _,_,rfl,?_⟩
    rw[kU]
    refine ite2 (fun h=>?_) (fun h=>?_)
    ·exact⟨_,rfl,yes _ _ _ ⟨_,_,rfl⟩ (Ext.refl _) (hz.yes (yC hj) (by rw[ez]; exact h))⟩
    ·exact no _ _ ⟨_,_,rfl⟩ (Ext.refl _) (hz.no (yC hj) (by rw[ez]; exact bJ.mpr h))
   ·rintro D H3 zs h3 e3 n3 hz
    have hz:=hz.all (by rw[kJ,ac]; exact ai _)
    have hz:zs=(jC3 (eK b) c).map V.int:=hz
    rw[hz] at h3
    refine⟨D,_,rfl, .inl ⟨SqL.of h3,fun r4 hr4=>?_⟩⟩
    have e4:Ext H3 (L2.upd H3 r4 (.tup ((jC3 (eK b) c).map V.int))):=(Ext.refl _).new hr4 _
    have E4:=e3.trans e4
    exact q r4 _ j7 (((ExtT.of e1).trans e2).trans (ExtT.of E4)) (t2.ext E4)
def bkT (b:Bx)(o:Ob):Tr:=if cvO (endS b).1 o=true then .tup ((qT (eK b) (eT b) (obsO o)).map Tr.int) else .lst [.bl true]
def thT (b:Bx)(o:Ob):Tr:=if cvO b o=true then .tup ((jC3 (eK b) (obsO o)).map Tr.int) else .lst [.bl true]
theorem tup_T {H:Hp}{a:Addr}{l:List Int}(h:H a=some (.tup (l.map V.int))):TAt H (.tup (l.map Tr.int)) (.ref a):=⟨a,_,rfl,h,jNM _⟩
theorem one_T {H:Hp}{a:Addr}(h:H a=some (.lst [.bl true])):TAt H (.lst [.bl true]) (.ref a):=⟨a,_,rfl,h, .bl true,[],rfl,rfl,rfl⟩
def ToldV (H:Hp)(t:Tr)(x:V):Prop:=∃ a,x= .ref a/\((∃ l:List Int,t= .tup (l.map Tr.int)/\H a=some (.tup (l.map V.int)))\/(t= .lst [.bl true]/\H a=some (.lst [.bl true])))
theorem ToldV.T {H:Hp}{t:Tr}{x:V}(h:ToldV H t x):TAt H t x:=by
 obtain⟨a,rfl,⟨l,rfl,h⟩ | ⟨rfl,h⟩⟩:=h
 ·exact tup_T h
 ·exact one_T h
theorem ToldV.ofT {tb:Addr}{H H':Hp}{t:Tr}{x:V}(h:ToldV H t x)(e:ExtT tb H H')(tab:TabP H tb):ToldV H' t x:=by
 obtain⟨a,rfl,⟨l,rfl,h⟩ | ⟨rfl,h⟩⟩:=h
 ·exact⟨a,rfl, .inl ⟨l,rfl,e.at tab h⟩⟩
 ·exact⟨a,rfl, .inr ⟨rfl,e.at tab h⟩⟩
section
variable {fO cO:Addr}{fdO:FuncData}
noncomputable abbrev nTold:List Str:=["box","some","rows","e"]
theorem scTold:FnScope nTold ["box","some"] (jA xA):= {}
def jLT (tb:Addr):Sp:=fun vs H Q _=>∃ (a:Addr) (v:V) (o:Ob) (b:Bx),vs=[.ref a,v]/\BxAt H a b/\GB b/\At H o v/\TabP H tb/\∀ r x y H',H' r=some (.lst [x,y])->TAt H' (bkT b o) x->TAt H' (thT b o) y->ExtT tb H H'->TabP H' tb->Q (.ref r) H'
def jLN (T:Txt mg)(FM:CanX cE P w K mg base "led_there" 7 fM fdM ["box","covering"] (jBP tb))(CO:CanS P w K mg base "_law_others" 1 fO fdO ["e","own"] (jBO cE ks))(MO:mg "OnceError" =some (.ref cO))(hr:Room 7 (XOf nTold "_law_told" xA P w K mg base f dl A outer s H0 E).A): { t:TS // JSs (XOf nTold "_law_told" xA P w K mg base f dl A outer s H0 E) ((jN xA).drop 2) t} :=
 have nd:=scTold.nd
 ⟨_,(jB (jR6 (j:=3) nd rfl (show (jA xA).names.lookup (("e" :String):Str)=some NameKind.local by decide+kernel) (jNH (jx_bm bb bK bL yW (jv 2 rfl vL) (jNB FM.G (hr.mono (by decide)) gD FM.m FM.kp FM.b (j4 (jv 0 rfl vL) (j4 (jv 1 rfl vL) j8 j6) j6) rfl j6) jG) jW) gD MO rfl rfl (fun x=>(jH (qO (xG bb bK bL yW (jv 2 rfl (vis_u vL)) (j4 (yF (j4 (jJX CO.G (Room.suite (hr.mono (by decide)) x) (gl_u gD) CO.m CO.kp CO.b (j4 (jv 3 rfl (vis_u vL)) (j4 jC j8 jU) j6) j6) j8 jG)) j8 jEU) jEU) jW)))) (jH (kB (jv 2 rfl vL))))⟩
def toldA (T:Txt mg)(FB:CanX cE P w K mg base "led_back" 7 fB fdB ["box","covering"] (jFF tb))(FM:CanX cE P w K mg base "led_there" 7 fM fdM ["box","covering"] (jBP tb))(CO:CanS P w K mg base "_law_others" 1 fO fdO ["e","own"] (jBO cE ks))(MO:mg "OnceError" =some (.ref cO))(hr:Room 7 (XOf nTold "_law_told" xA P w K mg base f dl A outer s H0 E).A): { t:TS // JSs (XOf nTold "_law_told" xA P w K mg base f dl A outer s H0 E) (jN xA) t} :=
 have nd:=scTold.nd
 ⟨_,(jB (jT (i:=2) nd rfl lL (yF j8) qU) (jB (jR6 (j:=3) nd rfl (show (jA xA).names.lookup (("e" :String):Str)=some NameKind.local by decide+kernel) (jNH (jx_bm bb bK bL yW (jv 2 rfl vL) (jNB FB.G (hr.mono (by decide)) gD FB.m FB.kp FB.b (j4 (jv 0 rfl vL) (j4 (jv 1 rfl vL) j8 j6) j6) rfl j6) jG) jW) gD MO rfl rfl (fun x=>(jH (qO (xG bb bK bL yW (jv 2 rfl (vis_u vL)) (j4 (yF (j4 (jJX CO.G (Room.suite (hr.mono (by decide)) x) (gl_u gD) CO.m CO.kp CO.b (j4 (jv 3 rfl (vis_u vL)) (j4 jC j8 jU) j6) j6) j8 jG)) j8 jEU) jEU) jW)))) (jLN T FM CO MO hr).2))⟩
theorem ek1:eqTs [.bl (decide (0=1)), .bl (decide (1=1)), .bl (decide (2=1)), .bl (decide (3=1)), .bl (decide (4=1)), .bl (decide (5=1)), .bl (decide (6=1)), .bl (decide (7=1)), .bl (decide (8=1)), .bl (decide (9=1)), .bl false] (oneOf 1 11)=true:=by decide+kernel
theorem s63 (n:Nat)(h:n<5):n<PySem.sizeLine:=by rw[ah]; lia
theorem ToldV.upd {H:Hp}{t:Tr}{x:V}{l:Addr}{o':HO}(h:ToldV H t x)(n:∀ a,x= .ref a->a≠l):ToldV (L2.upd H l o') t x:=by
 obtain⟨a,rfl,h⟩:=h
 have ne:=n a rfl
 exact⟨a,rfl,h.imp (fun ⟨l',e,h⟩=>⟨l',e,by rw[jD ne]; exact h⟩) fun ⟨e,h⟩=>⟨e,by rw[jD ne]; exact h⟩⟩
theorem jFC {H:Hp}{l:Addr}{xs:List V}{o':HO}(t:TabP H tb)(h:H l=some (.lst xs)):TabP (L2.upd H l o') tb:=by
 rcases t with z | ⟨c,z,y⟩
 ·exact .inl (by rw[jD (fun e=>by rw[e,h] at z; cases z)]; exact z)
 ·exact .inr ⟨c,by rw[jD (fun e=>by rw[e,h] at z; cases z)]; exact z,by rw[jD (fun e=>by rw[e,h] at y; cases y)]; exact y⟩
theorem jKF (T:Txt mg)(FM:CanX cE P w K mg base "led_there" 7 fM fdM ["box","covering"] (jBP tb))(CO:CanS P w K mg base "_law_others" 1 fO fdO ["e","own"] (jBO cE fun i=>decide (i=1)))(MO:mg "OnceError" =some (.ref cO))(AB:Above K cE cO)(hr:Room 7 (XOf nTold "_law_told" xA P w K mg base f dl A outer s H0 E).A)
  {D:Ends}{H:Hp}{a l:Addr}{v x:V}{o:Ob}{b:Bx}{v3:Option V}(hB:BxAt H a b) (g:GB b) (hA:At H o v) (tab:TabP H tb) (hl:H l=some (.lst [x])) (hx:ToldV H (bkT b o) x) (nx:∀ a,x= .ref a->a≠l)
  (q:∀ y H',H' l=some (.lst [x,y])->TAt H' (bkT b o) x->TAt H' (thT b o) y->(∀ c o,H c=some o->c≠tb->c≠l->H' c=some o)->TabP H' tb->D.rt (.ref l) H'):
  (jLN T FM CO MO hr).1 D [some (.ref a),some v,some (.ref l),v3] H:=by
 have fin:∀ (y:V) (H':Hp),H' l=some (.lst [x])->(∀ c o,H c=some o->c≠tb->H' c=some o)->TabP H' tb->ToldV H' (bkT b o) x->ToldV H' (thT b o) y->(∀ a,y= .ref a->a≠l)->D.rt (.ref l) (L2.upd H' l (.lst ([x]++[y]))):=fun y H' hl' k t' hx' hy ny=>by
  refine q y _ j7 (ToldV.upd hx' nx).T (ToldV.upd hy ny).T (fun c o h n1 n2=>?_) (jFC t' hl')
  rw[jD n2]
  exact k c o h n1
 refine⟨_,rfl, .inl ⟨rfl,_,SqL.of hl⟩,_,rfl,_,rfl,a,v,o,b,rfl,hB,g,hA,tab,fun hy r H1 d1 e1 t1=>?_,fun hn xx H1 e1 t1=>?_⟩
 ·have hl1:=e1.at tab hl
  refine⟨l,_,_,rfl,rfl,hl1,s63 _ (by show (1:Nat)<5; decide),?_⟩
  refine⟨_,rfl,fin (.ref r) H1 hl1 (fun c o h n=>e1 c o h n) t1 (hx.ofT e1 tab) ⟨r,rfl, .inl ⟨_,?_,d1⟩⟩ fun a e z=>?_⟩
  ·unfold thT
   rw[aD hy]
  ·cases e
   rw[z,hl1] at d1
   cases d1
 ·rintro x1 hx1 hx2 hx3
  refine⟨AB,?_⟩
  have e3:Ext H1 (L2.upd H1 x1 (.ext (excP x1 cE))):=(Ext.refl _).new hx3 _
  have d3:(L2.upd H1 x1 (.ext (excP x1 cE))) x1=some (.ext (excP x1 cE)):=j7
  generalize L2.upd H1 x1 (.ext (excP x1 cE))=H3 at e3 d3
  have hl3:H3 l=some (.lst [x]):=e3 _ _ (e1.at tab hl)
  refine⟨_,rfl, .inl ⟨rfl,_,SqL.of hl3⟩,_,rfl,1,rfl,d3,fun H4 e4=>?_⟩
  rw[ek1]
  refine⟨by show (1:Nat)<=_; decide,fun m H5 d5 e5 n5=>?_⟩
  have E5:=(e3.trans e4).trans e5
  have hl5:=E5 _ _ (e1.at tab hl)
  have X5:ExtT tb H H5:=e1.trans (ExtT.of E5)
  refine⟨l,_,_,rfl,rfl,hl5,s63 _ (by show (1:Nat)<5; decide),?_⟩
  refine⟨_,rfl,fin (.ref m) H5 hl5 (fun c o h n=>X5 c o h n) (t1.ext E5) (hx.ofT X5 tab) ⟨m,rfl, .inr ⟨?_,d5⟩⟩ fun a e z=>?_⟩
  ·unfold thT
   rw[aF (by rw[show cvO b o=false from hn]; exact ar)]
  ·cases e
   rw[z,e4 _ _ hl3] at n5
   cases n5
theorem jSN {fd:FuncData}(F:Fun K "_law_told" "_law_told" xA f fd)(T:Txt mg)(FB:CanX cE P w K mg base "led_back" 7 fB fdB ["box","covering"] (jFF tb))(FM:CanX cE P w K mg base "led_there" 7 fM fdM ["box","covering"] (jBP tb))(CO:CanS P w K mg base "_law_others" 1 fO fdO ["e","own"] (jBO cE fun i=>decide (i=1)))(MO:mg "OnceError" =some (.ref cO))(AB:Above K cE cO):FnOk P w K mg base CX0 8 f fd ["box","some"] (jLT tb):=by
 refine F.ok scTold (fun vs H Q E h=>?_) (fun dl A outer s H vs Q E hr h=>?_)
 ·obtain⟨_,_,_,_,rfl,_⟩:=h
  rfl
 ·obtain⟨a,v,o,b,rfl,hB,g,hA,tab,q⟩:=h
  refine⟨_,(toldA T FB FM CO MO hr).2.h,?_⟩
  refine⟨by show (0:Nat)<=_; decide,fun l H1 d1 e1 n1=>?_⟩
  have tab1:=tab.ext e1
  have lne:∀ {c:Addr}{o:HO},H c=some o->c≠l:=fun h z=>by rw[z,n1] at h; cases h
  have go:∀ (x:V) (H2:Hp) (v3:Option V),H2 l=some (.lst [])->ExtT tb H1 H2->TabP H2 tb->ToldV H2 (bkT b o) x->(∀ a,x= .ref a->a≠l)->(jLN (outer:=outer) (H0:=H) (E:=E) T FM CO MO hr).1 { nx:=fun _ H'=>Q .non H',rt:=Q} [some (.ref a),some v,some (.ref l),v3] (L2.upd H2 l (.lst ([]++[x]))):=fun x H2 v3 hl2 x2 t2 hx nx=>by
   have tu:Tups H2 (L2.upd H2 l (.lst ([]++[x]))):=Tups.upd hl2 _
   have X2:ExtT tb H H2:=(ExtT.of e1).trans x2
   have kl:∀ c o,H2 c=some o->c≠l->(L2.upd H2 l (.lst ([]++[x]))) c=some o:=fun c o h n=>by rw[jD n]; exact h
   refine jKF T FM CO MO AB hr ((hB.mono (Tups.ofT X2 tab)).mono tu) g (At.mono ⟨tu,fun b xs h=>?_,fun b xs h=>⟨xs,kl _ _ h fun z=>by rw[z,hl2] at h; cases h⟩⟩ o v (hA.ofT X2 tab)) (jFC t2 hl2) j7 (ToldV.upd hx nx) nx fun y H' hl' hx' hy' k' t'=>?_
   ·by_cases hb:b=l
    ·rw[hb]
     exact⟨_,j7⟩
    ·exact⟨xs,kl _ _ h hb⟩
   ·exact q l x y H' hl' hx' hy' (fun c o h n=>k' _ _ (kl _ _ (X2 _ _ h n) (lne h)) n (lne h)) t'
  refine⟨_,rfl, .inl ⟨rfl,_,SqL.of d1⟩,_,rfl,_,rfl,a,v,o,b,rfl,hB.mono e1.tups,g,hA.ext e1,tab1,fun hy r H2 d2 e2 t2=>?_,fun hn xx H2 e2 t2=>?_⟩
  ·have hl2:=e2.at tab1 d1
   refine⟨l,_,_,rfl,rfl,hl2,s63 _ (by decide),?_⟩
   refine go (.ref r) H2 _ hl2 e2 t2 ⟨r,rfl, .inl ⟨_,?_,d2⟩⟩ fun a e z=>?_
   ·unfold bkT
    rw[aD hy]
   ·cases e
    rw[z,hl2] at d2
    cases d2
  ·rintro x1 hx1 hx2 hx3
   refine⟨AB,?_⟩
   have e3:Ext H2 (L2.upd H2 x1 (.ext (excP x1 cE))):=(Ext.refl _).new hx3 _
   have d3:(L2.upd H2 x1 (.ext (excP x1 cE))) x1=some (.ext (excP x1 cE)):=j7
   generalize L2.upd H2 x1 (.ext (excP x1 cE))=H3 at e3 d3
   have hl3:H3 l=some (.lst []):=e3 _ _ (e2.at tab1 d1)
   refine⟨_,rfl, .inl ⟨rfl,_,SqL.of hl3⟩,_,rfl,1,rfl,d3,fun H4 e4=>?_⟩
   rw[ek1]
   refine⟨by show (1:Nat)<=_; decide,fun m H5 d5 e5 n5=>?_⟩
   have E5:=(e3.trans e4).trans e5
   have hl5:=E5 _ _ (e2.at tab1 d1)
   refine⟨l,_,_,rfl,rfl,hl5,s63 _ (by decide),?_⟩
   refine go (.ref m) H5 _ hl5 (e2.trans (ExtT.of E5)) (t2.ext E5) ⟨m,rfl, .inr ⟨?_,d5⟩⟩ fun a e z=>?_
   ·unfold bkT
    rw[aF (by rw[show cvO (endS b).1 o=false from hn]; exact ar)]
   ·cases e
    rw[z,e4 _ _ hl3] at n5
    cases n5
end
theorem jII {H:Hp} :∀ {us:List V}{ws:List (List Int)},LsAt H us ws->TsAt H (ws.map fun x=>Tr.tup (x.map Tr.int)) us
 | [],[],_=>rfl
 | v::us,x::ws,⟨⟨a,e,h⟩,r⟩=>⟨v,us,rfl,⟨a,_,e,h,jNM x⟩,jII r⟩
theorem jIJ:∀ (ws:List (List Int)),deps (ws.map fun x=>Tr.tup (x.map Tr.int))<=100
 | []=>by show (0:Nat)<=100; decide
 | x::ws=>by
  refine Nat.max_le.mpr ⟨?_,jIJ ws⟩
  show deps (x.map Tr.int)+1<=100
  rw[jEI]
  decide
theorem jHH:∀ l m:List Int,eqTs (l.map Tr.int) (m.map Tr.int)=decide (l=m)
 | [],[]=>rfl
 | [],_::_=>rfl
 | _::_,[]=>rfl
 | a::l,b::m=>by
  show (eqT (.int a) (.int b)&&eqTs (l.map Tr.int) (m.map Tr.int))=_
  rw[jHH l m,show eqT (.int a) (.int b)=decide (a=b) from rfl,bq]
  simp
theorem jOO (ws:List (List Int))(c:List Int):(ws.map fun x=>Tr.tup (x.map Tr.int)).any (fun t=>eqT t (.tup (c.map Tr.int)))=decide (c∈ws):=by
 rw[bq,cf,bo]
 constructor
 ·rintro ⟨t,ht,h⟩
  obtain⟨x,hx,rfl⟩:=aV.mp ht
  have h:eqTs (x.map Tr.int) (c.map Tr.int)=true:=h
  rw[jHH] at h
  rw[<- aq h]
  exact hx
 ·intro h
  exact⟨_,aV.mpr ⟨c,h,rfl⟩,jDM _⟩
def allI:Ob->Bool
 | .tup os=>os.all isInt
 | _=>false
theorem jLX:∀ (m:Nat) {S:S4},SOk S->(runS m S).1.2.2.length<=S.1.2.2.length
 | 0,_,_=>ai _
 | m+1,S,so=>by
  unfold runS
  cases hx:stp S.1 with
  | none=>exact ai _
  | some x=>exact aQ (jLX m (jI0 so hx)) (cF (jK8 so hx))
theorem jTD {b:Bx}(g:GB b):(endS b).1.2.2.length<=b.2.2.length:=jLX _ (jGE g)
theorem jRD {b:Bx}{o:Ob}(h:allI o=false):cvO b o=false:=by
 cases o with
 | int i=>rfl
 | oth=>rfl
 | tup os=>
  refine jO5 ?_
  show (os.all _&&_)=false
  have:os.all (upB 0 ((b.2.2.length:Int) - 1))=false:=by
   refine bJ.mpr fun z=>?_
   have h:os.all isInt=false:=h
   refine bJ.mp h ?_
   rw[aS] at z ⊢
   intro x hx
   have:=z x hx
   cases x with
   | int i=>rfl
   | oth=>cases this
   | tup r=>cases this
  rw[this]
  rfl
theorem jK3 {b:Bx}(g:GB b)(c:List Int):cvO b (.tup (c.map Ob.int))=decide (c∈cvs b.1 b.2.1 b.2.2):=by
 have hv:(c.map Ob.int).map val=c:=by rw[cG]; exact gf _
 rw[bq,bo,jIH g]
 constructor
 ·intro y
  have y:(lotB b.2.2.length (.tup (c.map Ob.int))&&covI b.1 b.2.1 b.2.2 ((c.map Ob.int).map val))=true:=y
  rw[bd,hv] at y
  obtain⟨y1,y2⟩:=y
  obtain⟨_,r1,r2⟩:=jG0 y1 (Ats.ints (H:=fun _=>none) c)
  rw[hv] at r1 r2
  exact(jGA g ⟨r1,r2⟩).mp y2
 ·intro C
  show (lotB b.2.2.length (.tup (c.map Ob.int))&&covI b.1 b.2.1 b.2.2 ((c.map Ob.int).map val))=true
  rw[hv,jE8 C.ris.ris C.ris.bnd,(jGA g C.ris).mpr C]
  rfl
section
variable {fD fV fA:Addr}{fdD fdV fdA:FuncData}
noncomputable abbrev nLaw:List Str:=["script","box","small","things","pieces","taken","every","inner","rows","k","pot","some","due","right"]
theorem scLaw:FnScope nLaw ["script"] (jA sLaw):= {}
abbrev XLaw (P:Program)(w:World)(K:W.Frag)(mg:Str->Option Value)(base:Heap)(f:Addr)(dl:Value)(A:Around)(outer:List Env)(s:Shared)(H:Hp)(E:XK):Cx:=XOf nLaw "law" sLaw P w K mg base f dl A outer s H E
structure LW (P:Program)(w:World)(K:W.Frag)(mg:Str->Option Value)(base:Heap)(fC fP fT fD fM fV fA fW fL tb:Addr)(fdC fdP fdT fdD fdM fdV fdA fdW fdL:FuncData):Prop where
 T:Txt mg
 CC:Can P w K mg base "_law_cell_at" 1 fC fdC ["script","k"] (jGN K)
 CP:Can P w K mg base "_law_pot" 1 fP fdP ["cell"] spPot
 CT:Can P w K mg base "_law_take" 1 fT fdT ["pot","wide"] yZ
 CD:Can P w K mg base "_law_drawn" 4 fD fdD ["script","k","things","pieces"] (jI3 K)
 CM:Can P w K mg base "_law_smaller" 3 fM fdM ["box"] jFD
 CV:Can P w K mg base "_law_coverings" 19 fV fdV ["box"] jLV
 CA:Can P w K mg base "_law_apart" 2 fA fdA ["pot","box"] jI4
 CW:Can P w K mg base "_law_whole" 1 fW fdW ["found"] spWh
 CL:Can P w K mg base "_law_told" 8 fL fdL ["box","some"] (jLT tb)
abbrev lawL1:List Stmt:=jH2 ((jN sLaw).getD 5 (.Pass ⟨0,0,0,0⟩))
abbrev lawL2:List Stmt:=jH2 ((jN sLaw).getD 6 (.Pass ⟨0,0,0,0⟩))
section
variable (G:LW P w K mg base fC fP fT fD fM fV fA fW fL tb fdC fdP fdT fdD fdM fdV fdA fdW fdL)(hr:Room 19 (XLaw P w K mg base f dl A outer s H0 E).A)
def t1A: { t:TS // JSs (XLaw P w K mg base f dl A outer s H0 E) lawL1 t} :=
 have nd:=scLaw.nd
 ⟨_,(jB (jT (i:=10) nd rfl yX (G.CP.je (hr.mono (by decide)) gD (j4 (G.CC.je (hr.mono (by decide)) gD (j4 (jv 0 rfl vL) (j4 (jv 9 rfl vL) j8 j6) j6) j6) j8 jG) jG) jW) (jB (jT (i:=11) nd rfl yX (jP jO gD G.T.tuple (by decide+kernel) (j4 (kN (m:=[none,some 10,some 1]) (Nc:=["turn","pot","box"]) rfl (kX gD G.T.range (j4 (G.CT.je (hr.mono (by decide)) gD (j4 (jv 10 rfl vC) (j4 (jC) j8 jU) j6) j6) j8 jG) jG) rfl (by decide+kernel) (by decide+kernel) (jX (psc:=jA sLaw)) (jM (N:=nLaw) rfl rfl (by decide+kernel)) (fun cl C fp s H=>jQ (i:=0) (show (["turn","pot","box"]:List Str).Nodup by decide+kernel) rfl yA) (fun cl C fp s H=>kZ) (fun cl C fp s H=>(yK jEZ (G.CT.je (hr.mono (by decide)) gl_b (j4 (jv 1 rfl jZ) (j4 (yK yV (jK jL6 gl_b G.T.len (by decide+kernel) (j4 (jJ kD (jv 2 rfl jZ) (jC) jE) j8 jI) jI) (jC)) j8 yU) j6) j6) (jC))) kQ) j8 jR) jR) jW) (jB (qO (xG bb bK bL yW (jv 8 rfl vL) (j4 (jJ jB9 (yF (j4 (jv 11 rfl vC) (j4 (jBW) (j4 (jP jL5 gD G.T.list (by decide+kernel) (j4 (jv 11 rfl vC) j8 j6) j6) (j4 (kR (j4 (xD) j8 jU)) (j4 (jF2) (j4 (yK jB4 (jUX (jv 11 rfl vC) (jB7 (je_un jQQ (jC)))) (kR (j4 (jC) (j4 (jC) j8 jU) jU))) (j4 (jQ3) (j4 (kR (j4 (jBW) j8 jU)) j8 jBT) jRT) yU) jU) jBT) jG) jU) j6)) (G.CT.je (hr.mono (by decide)) gD (j4 (jv 10 rfl vC) (j4 (jC) j8 jU) j6) j6) jM0) j8 jI) jI) jW) (jH (qO (xG bb bK bL yW (jv 8 rfl vL) (j4 (G.CA.je (hr.mono (by decide)) gD (j4 (jv 10 rfl vC) (j4 (jv 1 rfl vC) j8 j6) j6) j6) j8 jG) jG) jW)))))⟩
def t2cA: { t:TS // JSs (XLaw P w K mg base f dl A outer s H0 E) (lawL2.drop 4) t} :=
 have nd:=scLaw.nd
 ⟨_,(jH (yJ (jY (jSI hr.units101) (G.CL.je (hr.mono (by decide)) gD (j4 (jv 1 rfl vC) (j4 (jv 11 rfl vC) j8 j6) j6) j6) (jv 12 rfl vL) (kT _)) (jH (kB (xD))) kP))⟩
def t2b2A: { t:TS // JSs (XLaw P w K mg base f dl A outer s H0 E) (lawL2.drop 3) t} :=
 have nd:=scLaw.nd
 ⟨_,(jB (yJ (jt_w (jF0 (qG (jv 13 rfl vL) jLI) (jCQ (jY (jM9 hr.units101) (jv 11 rfl vC) (jv 6 rfl vL) yN)))) (jH (jJT (jP jO gD G.T.tuple (by decide+kernel) (j4 (kN (m:=[none,some 4,some 11]) (Nc:=["k","pieces","some"]) rfl (kX gD G.T.range (j4 (jK jV gD G.T.len (by decide+kernel) (j4 (jv 4 rfl vC) j8 j6) j6) j8 jG) jG) rfl (by decide+kernel) (by decide+kernel) (jX (psc:=jA sLaw)) (jM (N:=nLaw) rfl rfl (by decide+kernel)) (fun cl C fp s H=>jQ (i:=0) (show (["k","pieces","some"]:List Str).Nodup by decide+kernel) rfl yA) (fun cl C fp s H=>yI (jY jAU (jJ kD (jv 1 rfl jZ) (jv 0 rfl jS) y9) (jv 2 rfl jZ) yN)) (fun cl C fp s H=>(jv 0 rfl jS)) kQ) j8 jR) jR) (jR8 (jv 12 rfl vL) (jC) jFK))) kP) (t2cA G hr).2)⟩
def t2bA: { t:TS // JSs (XLaw P w K mg base f dl A outer s H0 E) (lawL2.drop 2) t} :=
 have nd:=scLaw.nd
 ⟨_,(jB (yJ (jt_w (jF0 (qG (jv 13 rfl vL) jLI) (jCQ (jY (jM9 hr.units101) (jv 11 rfl vC) (jv 7 rfl vL) yN)))) (jH (jJT (jP jO gD G.T.tuple (by decide+kernel) (j4 (jK jAQ gD G.T.sorted (by decide+kernel) (j4 (yK jB4 (jv 5 rfl vL) (jP jO gD G.T.tuple (by decide+kernel) (j4 (kN (m:=[none,some 4]) (Nc:=["k","pieces"]) rfl (yP (jv 11 rfl vC)) rfl (by decide+kernel) (by decide+kernel) (jX (psc:=jA sLaw)) (jM (N:=nLaw) rfl rfl (by decide+kernel)) (fun cl C fp s H=>jQ (i:=0) (show (["k","pieces"]:List Str).Nodup by decide+kernel) rfl yA) (fun cl C fp s H=>kZ) (fun cl C fp s H=>(jJ kD (jv 1 rfl jZ) (jv 0 rfl jS) y9)) yD) j8 jR) jR)) j8 yU) yU) j8 jG) jG) (jR8 (jv 12 rfl vL) (jC) jFK))) kP) (t2b2A G hr).2)⟩
def t2A: { t:TS // JSs (XLaw P w K mg base f dl A outer s H0 E) lawL2 t} :=
 have nd:=scLaw.nd
 ⟨_,(jB (jT (i:=12) nd rfl lL (yF (j4 (yF (j4 (xD) j8 jU)) (j4 (yF (j4 (xD) j8 jU)) j8 jEU) jEU)) qU) (jB (jT (i:=13) nd rfl lL ((jH9 (jK jAB gD G.T.isinstance (by decide+kernel) (j4 (jv 11 rfl vC) (j4 (jC1 (v:= .ty "tuple") gD G.T.tuple (by decide+kernel) rfl) j8 j6) j6) j6) (jEB (jK (jAX rfl) gD G.T.all (by decide+kernel) (j4 (kN (m:=[none]) (Nc:=["one"]) rfl (yP (jv 11 rfl vC)) rfl (by decide+kernel) (by decide+kernel) (jX (psc:=jA sLaw)) (jM (N:=nLaw) rfl rfl (by decide+kernel)) (fun cl C fp s H=>jQ (i:=0) (show (["one"]:List Str).Nodup by decide+kernel) rfl yA) (fun cl C fp s H=>kZ) (fun cl C fp s H=>(G.CW.je (hr.mono (by decide)) gl_b (j4 (jv 0 rfl jS) j8 j6) j6)) yD) j8 jR) jR)))) jRO) (t2bA G hr).2))⟩
def lawA: { t:TS // JSs (XLaw P w K mg base f dl A outer s H0 E) (jN sLaw) t} :=
 have nd:=scLaw.nd
 ⟨_,(jB (jT (i:=1) nd rfl yX (G.CD.je (hr.mono (by decide)) gD (j4 (jv 0 rfl vL) (j4 (jC) (j4 (jC) (j4 (jC) j8 jU) jU) jU) j6) j6) jW) (jB (jJT (G.CM.je (hr.mono (by decide)) gD (j4 (jv 1 rfl vC) j8 j6) j6) (jNE rfl (jAG (jQ (i:=2) nd rfl lL) (jAG (jQ (i:=3) nd rfl lL) (jAG (jQ (i:=4) nd rfl yX) (jAG (jQ (i:=5) nd rfl lL) jIK jBA) jBA) jBA) jBA))) (jB (jT (i:=6) nd rfl lL (G.CV.je hr gD (j4 (jv 1 rfl vC) j8 j6) j6) jW) (jB (jT (i:=7) nd rfl lL (G.CV.je hr gD (j4 (jv 2 rfl vL) j8 j6) j6) jW) (jB (jT (i:=8) nd rfl lL (yK jDI (jAN jFJ (jv 6 rfl vL) jBG (jB7 (jC))) (jAN jFJ (jv 7 rfl vL) jBG (jB7 (jC)))) jER) (jB (qS bB rfl (jH7 gD G.T.range (j4 (jC) (j4 (jC) j8 jU) jU) jU jU) (jQ (i:=9) nd rfl lL) (t1A G hr).2 kQ) (jB (qS bB rfl (jB8 (jv 8 rfl vL)) (jQ (i:=11) nd rfl yX) (t2A G hr).2 yD) (jH (kB (xD))))))))))⟩
structure Fx (H:Hp)(a xp xk lE lI:Addr)(b:Bx)(uE uI:List V):Prop where
 hB:BxAt H a b
 g:GB b
 p:H xp=some (.tup ((eK b).map V.int))
 k:H xk=some (.tup ((eT b).map V.int))
 e:H lE=some (.lst uE)
 ue:LsAt H uE (cvs b.1 b.2.1 b.2.2)
 i:H lI=some (.lst uI)
 ui:LsAt H uI (cvs (endS b).1.1 (endS b).1.2.1 (endS b).1.2.2)
theorem Fx.ofT {H H':Hp}{a xp xk lE lI:Addr}{b:Bx}{uE uI:List V}(F:Fx H a xp xk lE lI b uE uI)(e:ExtT tb H H')(t:TabP H tb):Fx H' a xp xk lE lI b uE uI:=have u:=Tups.ofT e t; ⟨F.hB.mono u,F.g,u _ _ F.p,u _ _ F.k,e.at t F.e,F.ue.mono u,e.at t F.i,F.ui.mono u⟩
theorem Fx.ext {H H':Hp}{a xp xk lE lI:Addr}{b:Bx}{uE uI:List V}(F:Fx H a xp xk lE lI b uE uI)(e:Ext H H'):Fx H' a xp xk lE lI b uE uI:=have u:=e.tups; ⟨F.hB.mono u,F.g,u _ _ F.p,u _ _ F.k,e _ _ F.e,F.ue.mono u,e _ _ F.i,F.ui.mono u⟩
theorem Fx.upd {H:Hp}{a xp xk lE lI D:Addr}{b:Bx}{uE uI xs:List V}{o':HO}(F:Fx H a xp xk lE lI b uE uI)(h:H D=some (.lst xs))(n1:lE≠D)(n2:lI≠D):Fx (L2.upd H D o') a xp xk lE lI b uE uI:=have u:=Tups.upd h o'; ⟨F.hB.mono u,F.g,u _ _ F.p,u _ _ F.k,by rw[jD n1]; exact F.e,F.ue.mono u,by rw[jD n2]; exact F.i,F.ui.mono u⟩
structure DueAt (H:Hp)(D:Addr)(t1 t2:Tr):Prop where
 ex:∃ x y,H D=some (.lst [x,y])/\ToldV H t1 x/\ToldV H t2 y/\(∀ a,x= .ref a->a≠D)/\∀ a,y= .ref a->a≠D
theorem jOX {b:Bx}{o:Ob} :deps [bkT b o,thT b o]<=100:=by
 unfold bkT thT
 split <;> split <;> simp [deps,dep,jEI]
theorem jIZ {D:Ends}{H:Hp}{a xp xk lE lI D0:Addr}{b:Bx}{uE uI:List V}{v:V}{o:Ob}{v0 v2 v3 v8 v9 v10 v13:Option V}(F:Fx H a xp xk lE lI b uE uI)(hA:At H o v)(tab:TabP H tb)(hd:DueAt H D0 (bkT b o) (thT b o))
  (nx:∀ H' v12 v13,ExtT tb H H'->TabP H' tb->D.nx [v0,some (.ref a),v2,v3,some (.ref xp),some (.ref xk),some (.ref lE),some (.ref lI),v8,v9,v10,some v,v12,v13] H'):
  (t2cA G hr).1 D [v0,some (.ref a),v2,v3,some (.ref xp),some (.ref xk),some (.ref lE),some (.ref lI),v8,v9,v10,some v,some (.ref D0),v13] H:=by
 obtain⟨x,y,h1,h2,h3,h4,h5⟩:=hd.ex
 refine⟨_,rfl,_,rfl,a,v,o,b,rfl,F.hB,F.g,hA,tab,fun r x' y' H1 d1 tx ty e1 t1=>?_⟩
 have L1:TAt H1 (.lst [bkT b o,thT b o]) (.ref r):=⟨r,_,rfl,d1,x',_,rfl,tx,y',[],rfl,ty,rfl⟩
 have L2:TAt H1 (.lst [bkT b o,thT b o]) (.ref D0):=⟨D0,_,rfl,e1.at tab h1,x,_,rfl,(h2.ofT e1 tab).T,y,[],rfl,(h3.ofT e1 tab).T,rfl⟩
 exact⟨_,rfl,_,_,L1,L2,jOX,_,rfl,iteN (by rw[jCC]; rfl) (nx H1 _ _ e1 t1)⟩
theorem jGK {D:Ends}{H:Hp}{a xp xk lE lI D0:Addr}{b:Bx}{uE uI:List V}{v:V}{o:Ob}{v0 v2 v3 v8 v9 v10:Option V}(F:Fx H a xp xk lE lI b uE uI)(hA:At H o v)(tab:TabP H tb)(hd:DueAt H D0 (bkT b o) (.lst [.bl true]))(nE:lE≠D0)(nI:lI≠D0)(l16:(eK b).length<=32)
  (nx:∀ H' v12 v13,(∀ c o,H c=some o->c≠tb->c≠D0->H' c=some o)->TabP H' tb->D.nx [v0,some (.ref a),v2,v3,some (.ref xp),some (.ref xk),some (.ref lE),some (.ref lI),v8,v9,v10,some v,v12,v13] H'):
  (t2b2A G hr).1 D [v0,some (.ref a),v2,v3,some (.ref xp),some (.ref xk),some (.ref lE),some (.ref lI),v8,v9,v10,some v,some (.ref D0),some (.bl (allI o))] H:=by
 have skip:cvO b o=false->∀ H1,Ext H H1->(t2cA G hr).1 D [v0,some (.ref a),v2,v3,some (.ref xp),some (.ref xk),some (.ref lE),some (.ref lI),v8,v9,v10,some v,some (.ref D0),some (.bl (allI o))] H1:=fun hc H1 e1=>by
  refine jIZ G hr (F.ext e1) (hA.ext e1) (tab.ext e1) ?_ fun H' v12 v13 e' t'=>nx H' v12 v13 (fun c o h n _=>e' _ _ (e1 _ _ h) n) t'
  obtain⟨x,y,h1,h2,h3,h4,h5⟩:=hd.ex
  refine⟨x,y,e1 _ _ h1,h2.ofT (ExtT.of e1) tab,?_,h4,h5⟩
  unfold thT
  rw[aF (by rw[hc]; exact ar)]
  exact h3.ofT (ExtT.of e1) tab
 refine⟨_,rfl,_,rfl,?_⟩
 cases hi:allI o with
 | false=>
  rw[hi] at skip
  exact iteF (iteF (skip (jRD hi) H (Ext.refl _)))
 | true=>
  rw[hi] at skip
  have ht:isTup o=true:=by cases o <;> first | rfl | cases hi
  obtain⟨os,ca,vs,rfl,rfl,ha,h100,hx⟩:=hA.tupOf ht
  have hv:=hx.allInt hi
  have hl:=hx.len
  have eo:os=(os.map val).map Ob.int:=by
   rw[cG]
   conv=>lhs; rw[<- gf os]
   refine bZ fun z hz=>?_
   have:=aS.mp hi z hz
   cases z with
   | int i=>rfl
   | oth=>cases this
   | tup r=>cases this
  have ec:cvO b (.tup os)=decide (os.map val∈cvs b.1 b.2.1 b.2.2):=by
   conv=>lhs; rw[eo]
   exact jK3 F.g _
  have cl:(os.map val).length<=100:=by rw[ac,<- hl]; exact h100
  have eob:obsO (.tup os)=os.map val:=rfl
  refine iteT ⟨_,rfl,_,rfl, .tup ((os.map val).map Tr.int),_,tup_T (by rw[ha,hv]),⟨lE,uE,rfl,F.e,jII F.ue⟩,jIJ _,_,rfl,?_⟩
  rw[jOO]
  refine ite2 (fun hm=>?_) (fun hm=>?_)
  ·have hc:cvO b (.tup os)=true:=by rw[ec]; exact hm
   refine⟨_,rfl,xp,_,rfl, .inr (SqT.of F.p),?_⟩
   rw[ac]
   refine⟨((eK b).length:Int),rfl,by lia,by lia,jCE (n:=(eK b).length) (fun σ=>∃ v,σ=[v,some (.ref xp),some (.ref ca)]) (outZ (upto (eK b).length) (fun j=>decide ((eK b).getD j.toNat 0∈os.map val)) V.int) (outZ.ok _ _ _) (by rw[ah]; lia) ⟨_,rfl⟩ ?_ ?_⟩
   ·rintro j σ' H1 zs hj ⟨v,rfl⟩ e1 hz S1 S2 yes no
    have e0:(0+(j:Int))=(j:Int):=by lia
    have hat:atI ((eK b).map V.int) (j:Int)=some (.int ((eK b).getD ((j:Nat):Int).toNat 0)):=yR (by rw[ay,bp,aC,aK hj]; rfl)
    dsimp only [kI]
    rw[e0]
    refine⟨_,rfl,_,rfl,xp,_,_,_,rfl,rfl,SqT.of (e1 _ _ F.p),hat,_,rfl,ca,_,rfl, .inr (SqT.of (e1 _ _ ha)),rfl,by rw[hv]; exact kL _,_,rfl,?_⟩
    rw[hv,kU]
    refine ite2 (fun h=>?_) (fun h=>?_)
    ·exact⟨_,rfl,yes _ _ _ ⟨_,rfl⟩ (Ext.refl _) (hz.yes (yC hj) h)⟩
    ·exact no _ _ ⟨_,rfl⟩ (Ext.refl _) (hz.no (yC hj) (bJ.mpr h))
   ·rintro D1 H1 zs h1 e1 n1 hz
    have hz:=hz.all (by rw[kJ]; exact ai _)
    have hz:zs=(jC3 (eK b) (os.map val)).map V.int:=hz
    rw[hz] at h1
    refine⟨D1,_,rfl, .inl ⟨SqL.of h1,fun r hr'=>?_⟩⟩
    have e2:Ext H1 (L2.upd H1 r (.tup ((jC3 (eK b) (os.map val)).map V.int))):=(Ext.refl _).new hr' _
    have d2:(L2.upd H1 r (.tup ((jC3 (eK b) (os.map val)).map V.int))) r=some (.tup ((jC3 (eK b) (os.map val)).map V.int)):=j7
    generalize L2.upd H1 r (.tup ((jC3 (eK b) (os.map val)).map V.int))=H2 at e2 d2
    have E2:=e1.trans e2
    obtain⟨x,y,k1,k2,k3,k4,k5⟩:=hd.ex
    have hD2:=E2 _ _ k1
    refine⟨_,rfl,D0,_,1,1,rfl,rfl,hD2,rfl,?_⟩
    have kl:∀ c o,H2 c=some o->c≠D0->(L2.upd H2 D0 (.lst ([x,y].set 1 (.ref r)))) c=some o:=fun c o h n=>by rw[jD n]; exact h
    have tu:=Tups.upd hD2 (.lst ([x,y].set 1 (.ref r)))
    have rD:r≠D0:=fun z=>by rw[z,hD2] at d2; cases d2
    refine jIZ G hr ((F.ext E2).upd hD2 nE nI) (At.mono ⟨tu,fun b xs h=>?_,fun b xs h=>⟨xs,kl _ _ h fun z=>by rw[z,hD2] at h; cases h⟩⟩ _ _ (hA.ext E2)) (jFC (tab.ext E2) hD2) ⟨x, .ref r,j7,ToldV.upd (k2.ofT (ExtT.of E2) tab) k4,⟨r,rfl, .inl ⟨_,?_,kl _ _ d2 rD⟩⟩,k4,fun a e=>by cases e; exact rD⟩ fun H' v12 v13 e' t'=>nx H' v12 v13 (fun c o h n1 n2=>e' _ _ (kl _ _ (E2 _ _ h) n2) n1) t'
    ·by_cases hb:b=D0
     ·rw[hb]
      exact⟨_,j7⟩
     ·exact⟨xs,kl _ _ h hb⟩
    ·unfold thT
     rw[aD hc]
     rfl
  ·refine skip ?_ H (Ext.refl _)
   rw[ec]
   exact bJ.mpr hm
theorem jOY {D:Ends}{H:Hp}{a xp xk lE lI D0:Addr}{b:Bx}{uE uI:List V}{v:V}{o:Ob}{v0 v2 v3 v8 v9 v10:Option V}(F:Fx H a xp xk lE lI b uE uI)(hA:At H o v)(tab:TabP H tb)(hd:DueAt H D0 (.lst [.bl true]) (.lst [.bl true]))(nE:lE≠D0)(nI:lI≠D0)(l16:(eK b).length<=32)
  (nx:∀ H' v12 v13,(∀ c o,H c=some o->c≠tb->c≠D0->H' c=some o)->TabP H' tb->D.nx [v0,some (.ref a),v2,v3,some (.ref xp),some (.ref xk),some (.ref lE),some (.ref lI),v8,v9,v10,some v,v12,v13] H'):
  (t2bA G hr).1 D [v0,some (.ref a),v2,v3,some (.ref xp),some (.ref xk),some (.ref lE),some (.ref lI),v8,v9,v10,some v,some (.ref D0),some (.bl (allI o))] H:=by
 have so:=jG8 F.g
 have skip:cvO (endS b).1 o=false->∀ H1,Ext H H1->(t2b2A G hr).1 D [v0,some (.ref a),v2,v3,some (.ref xp),some (.ref xk),some (.ref lE),some (.ref lI),v8,v9,v10,some v,some (.ref D0),some (.bl (allI o))] H1:=fun hc H1 e1=>by
  refine jGK G hr (F.ext e1) (hA.ext e1) (tab.ext e1) ?_ nE nI l16 fun H' v12 v13 e' t'=>nx H' v12 v13 (fun c o h n1 n2=>e' _ _ (e1 _ _ h) n1 n2) t'
  obtain⟨x,y,h1,h2,h3,h4,h5⟩:=hd.ex
  refine⟨x,y,e1 _ _ h1,?_,h3.ofT (ExtT.of e1) tab,h4,h5⟩
  unfold bkT
  rw[aF (by rw[hc]; exact ar)]
  exact h2.ofT (ExtT.of e1) tab
 refine⟨_,rfl,_,rfl,?_⟩
 cases hi:allI o with
 | false=>
  rw[hi] at skip
  exact iteF (iteF (skip (jRD hi) H (Ext.refl _)))
 | true=>
  rw[hi] at skip
  have ht:isTup o=true:=by cases o <;> first | rfl | cases hi
  obtain⟨os,ca,vs,rfl,rfl,ha,h100,hx⟩:=hA.tupOf ht
  have hv:=hx.allInt hi
  have hl:=hx.len
  have eo:os=(os.map val).map Ob.int:=by
   rw[cG]
   conv=>lhs; rw[<- gf os]
   refine bZ fun z hz=>?_
   have:=aS.mp hi z hz
   cases z with
   | int i=>rfl
   | oth=>cases this
   | tup r=>cases this
  have ec:cvO (endS b).1 (.tup os)=decide (os.map val∈cvs (endS b).1.1 (endS b).1.2.1 (endS b).1.2.2):=by
   conv=>lhs; rw[eo]
   exact jK3 so.g _
  refine iteT ⟨_,rfl,_,rfl, .tup ((os.map val).map Tr.int),_,tup_T (by rw[ha,hv]),⟨lI,uI,rfl,F.i,jII F.ui⟩,jIJ _,_,rfl,?_⟩
  rw[jOO]
  refine ite2 (fun hm=>?_) (fun hm=>?_)
  ·have hc:cvO (endS b).1 (.tup os)=true:=by rw[ec]; exact hm
   have C:IC (endS b).1 (os.map val):=(jIH so.g).mp (aq hm)
   have cl:=yM _ 0 _ C.ris.ris C.ris.bnd
   have op:(eK b).length=(endS b).1.2.2.length:=so.p
   have kk:=so.k
   have kk':(eT b).length=(endS b).2.2.2.length:=rfl
   have pl:=so.g.pl
   have cl':os.length<=32:=by rw[ac] at cl; lia
   refine⟨_,rfl,_,rfl,ca,rfl,⟨_,SqT.of ha⟩,jAP (xs:=vs) (fun σ=>∃ v,σ=[v,some (.ref xp)]) (mapZ (os.map val) fun j=>V.int (at_ (eK b) j)) (mapZ.ok _ _) ha (by rw[ah]; lia) ⟨_,rfl⟩ ?_ ?_⟩
   ·rintro j x σ' H1 zs hx' ⟨v,rfl⟩ e1 hz S1 S2 yes no
    rw[hv] at hx'
    obtain⟨z,hz',rfl⟩:=int_at hx'
    have zb:=C.ris.bnd z (aB hz')
    have hat:atI ((eK b).map V.int) z=some (V.int (at_ (eK b) z)):=by
     have:=yR (xs:=(eK b).map V.int) (j:=z.toNat) (v:=V.int (at_ (eK b) z)) (by
      unfold at_
      have:z.toNat<(eK b).length:=by lia
      simp [List.getD,this])
     rw[show ((z.toNat:Nat):Int)=z by lia] at this
     exact this
    dsimp only [kI,yG]
    rw[aD rfl]
    exact⟨_,rfl,_,rfl,xp,_,_,_,rfl,rfl,SqT.of (e1 _ _ F.p),hat,yes _ _ _ ⟨_,rfl⟩ (Ext.refl _) (hz.yes hz')⟩
   ·rintro D1 H1 zs h1 e1 n1 hz
    have hz:=hz.all (by rw[hv]; simp)
    have hz2:zs=((os.map val).map (at_ (eK b))).map V.int:=by
     rw[hz]
     conv=>rhs; rw[cG]
     rfl
    rw[hz2] at h1
    refine⟨D1,_,rfl, .inl ⟨SqL.of h1,fun r1 hr1=>?_⟩⟩
    have e2:Ext H1 (L2.upd H1 r1 (.tup (((os.map val).map (at_ (eK b))).map V.int))):=(Ext.refl _).new hr1 _
    have d2:(L2.upd H1 r1 (.tup (((os.map val).map (at_ (eK b))).map V.int))) r1=some (.tup (((os.map val).map (at_ (eK b))).map V.int)):=j7
    generalize L2.upd H1 r1 (.tup (((os.map val).map (at_ (eK b))).map V.int))=H2 at e2 d2
    have E2:=e1.trans e2
    refine⟨xk,r1,_,_,rfl,rfl,E2 _ _ F.k,d2,by rw[ac,ac,ac,ah]; lia,fun r4 H4 d4 e4=>?_⟩
    rw[<- au] at d4
    refine⟨r4,_,rfl,d4,by rw[aE,ac]; lia,fun l ns hl' ple pm=>?_⟩
    have en:ns=qT (eK b) (eT b) (os.map val):=jBS ple pm
    subst en
    have e5:Ext H4 (L2.upd H4 l (.lst ((qT (eK b) (eT b) (os.map val)).map V.int))):=(Ext.refl _).new hl' _
    have d5:(L2.upd H4 l (.lst ((qT (eK b) (eT b) (os.map val)).map V.int))) l=some (.lst ((qT (eK b) (eT b) (os.map val)).map V.int)):=j7
    generalize L2.upd H4 l (.lst ((qT (eK b) (eT b) (os.map val)).map V.int))=H5 at e5 d5
    refine⟨l,_,rfl, .inl ⟨SqL.of d5,fun r6 hr6=>?_⟩⟩
    have e6:Ext H5 (L2.upd H5 r6 (.tup ((qT (eK b) (eT b) (os.map val)).map V.int))):=(Ext.refl _).new hr6 _
    have d6:(L2.upd H5 r6 (.tup ((qT (eK b) (eT b) (os.map val)).map V.int))) r6=some (.tup ((qT (eK b) (eT b) (os.map val)).map V.int)):=j7
    generalize L2.upd H5 r6 (.tup ((qT (eK b) (eT b) (os.map val)).map V.int))=H6 at e6 d6
    have E6:=((E2.trans e4).trans e5).trans e6
    obtain⟨x,y,k1,k2,k3,k4,k5⟩:=hd.ex
    have hD6:=E6 _ _ k1
    refine⟨_,rfl,D0,_,0,0,rfl,rfl,hD6,rfl,?_⟩
    have kl:∀ c o,H6 c=some o->c≠D0->(L2.upd H6 D0 (.lst ([x,y].set 0 (.ref r6)))) c=some o:=fun c o h n=>by rw[jD n]; exact h
    have tu:=Tups.upd hD6 (.lst ([x,y].set 0 (.ref r6)))
    have rD:r6≠D0:=fun z=>by rw[z,hD6] at d6; cases d6
    suffices z:(t2b2A G hr).1 D [v0,some (.ref a),v2,v3,some (.ref xp),some (.ref xk),some (.ref lE),some (.ref lI),v8,v9,v10,some (.ref ca),some (.ref D0),some (.bl (allI (.tup os)))] (L2.upd H6 D0 (.lst ([x,y].set 0 (.ref r6)))) by rw[hi] at z; exact z
    refine jGK G hr (o:= .tup os) ((F.ext E6).upd hD6 nE nI) (At.mono ⟨tu,fun b xs h=>?_,fun b xs h=>⟨xs,kl _ _ h fun z=>by rw[z,hD6] at h; cases h⟩⟩ _ _ (hA.ext E6)) (jFC (tab.ext E6) hD6) ⟨.ref r6,y,j7,⟨r6,rfl, .inl ⟨_,?_,kl _ _ d6 rD⟩⟩,ToldV.upd (k3.ofT (ExtT.of E6) tab) k5,fun a e=>by cases e; exact rD,k5⟩ nE nI l16 fun H' v12 v13 e' t'=>nx H' v12 v13 (fun c o h n1 n2=>e' _ _ (kl _ _ (E6 _ _ h) n2) n1 n2) t'
    ·by_cases hb:b=D0
     ·rw[hb]
      exact⟨_,j7⟩
     ·exact⟨xs,kl _ _ h hb⟩
    ·unfold bkT
     rw[aD hc]
     rfl
  ·refine skip ?_ H (Ext.refl _)
   rw[ec]
   exact bJ.mpr hm
theorem jRM {D:Ends}{H:Hp}{a xp xk lE lI:Addr}{b:Bx}{uE uI:List V}{v:V}{o:Ob}{v0 v2 v3 v8 v9 v10 v12 v13:Option V}(F:Fx H a xp xk lE lI b uE uI)(hA:At H o v)(tab:TabP H tb)(l16:(eK b).length<=32)
  (nx:∀ H' v12 v13,ExtT tb H H'->TabP H' tb->D.nx [v0,some (.ref a),v2,v3,some (.ref xp),some (.ref xk),some (.ref lE),some (.ref lI),v8,v9,v10,some v,v12,v13] H'):
  (t2A G hr).1 D [v0,some (.ref a),v2,v3,some (.ref xp),some (.ref xk),some (.ref lE),some (.ref lI),v8,v9,v10,some v,v12,v13] H:=by
 refine⟨by show (1:Nat)<=_; decide,fun l1 H1 d1 e1 n1=>?_⟩
 refine⟨by show (1:Nat)<=_; decide,fun l2 H2 d2 e2 n2=>?_⟩
 refine⟨by show (2:Nat)<=_; decide,fun D0 H3 d3 e3 n3=>?_⟩
 have E3:=(e1.trans e2).trans e3
 have nD:H D0=none:=jR1 (e1.trans e2) n3
 have nE:lE≠D0:=fun z=>by have:=F.e; rw[z,nD] at this; cases this
 have nI:lI≠D0:=fun z=>by have:=F.i; rw[z,nD] at this; cases this
 have hd:∀ H',Ext H3 H'->DueAt H' D0 (.lst [.bl true]) (.lst [.bl true]):=fun H' e'=>⟨.ref l1, .ref l2,e' _ _ d3,⟨l1,rfl, .inr ⟨rfl,e' _ _ (e3 _ _ (e2 _ _ d1))⟩⟩,⟨l2,rfl, .inr ⟨rfl,e' _ _ (e3 _ _ d2)⟩⟩,fun a e z=>(by cases e; rw[<- z,e2 _ _ d1] at n3; cases n3),fun a e z=>(by cases e; rw[<- z,d2] at n3; cases n3)⟩
 have go:∀ H',Ext H3 H'->(t2bA G hr).1 D [v0,some (.ref a),v2,v3,some (.ref xp),some (.ref xk),some (.ref lE),some (.ref lI),v8,v9,v10,some v,some (.ref D0),some (.bl (allI o))] H':=fun H' e'=>by
  have E':=E3.trans e'
  exact jOY G hr (F.ext E') (hA.ext E') (tab.ext E') (hd H' e') nE nI l16 fun H'' v12 v13 k t=>nx H'' v12 v13 (fun c o h n=>k _ _ (E' _ _ h) n fun z=>by rw[z,nD] at h; cases h) t
 have hA3:=hA.ext E3
 obtain⟨t,ty,kt,_⟩:=hA3.ty K
 refine⟨_,rfl,_,_,_,_,rfl,ty,kt,_,rfl,?_⟩
 cases ht:isTup o with
 | false=>
  have hn:allI o=false:=by cases o <;> first | rfl | cases ht
  rw[hn] at go
  exact iteF (go H3 (Ext.refl _))
 | true=>
  obtain⟨os,ca,vs,rfl,rfl,ha,h100,hx⟩:=hA3.tupOf ht
  refine iteT ?_
  refine⟨_,rfl,ca,rfl,⟨_,SqT.of ha⟩,jHI (F:=isInt) ha hx (by rw[ah]; lia) (fun σ'=>∃ v,σ'=[v]) ⟨_,rfl⟩ ?_ ?_⟩
  ·rintro σ' H' v o R S ⟨u,rfl⟩ e hA' k
   dsimp only [kI,yG]
   rw[aD rfl]
   exact⟨_,rfl,v,o,rfl,hA',k _ H' ⟨_,rfl⟩ (Ext.refl _)⟩
  ·intro D1 H4 e4 hD4
   refine⟨D1,_,rfl,SqL.of hD4,?_⟩
   rw[jRF]
   exact go H4 e4
def AnyV (H:Hp)(v:V):Prop:=∃ o,At H o v
theorem AnyV.mono {H H':Hp}{v:V}(k:Kp H H')(h:AnyV H v):AnyV H' v:=let ⟨o,a⟩:=h; ⟨o,At.mono k o v a⟩
theorem AnyV.ext {H H':Hp}{v:V}(e:Ext H H')(h:AnyV H v):AnyV H' v:=let ⟨o,a⟩:=h; ⟨o,a.ext e⟩
theorem Kp.lst {H H':Hp}{p:Addr}{xs ys:List V}(hp:H p=some (.lst xs))(hp':H' p=some (.lst ys))(k:∀ c o,H c=some o->c≠p->H' c=some o):Kp H H':=by
 refine⟨fun b zs h=>?_,fun b zs h=>?_,fun b zs h=>⟨zs,?_⟩⟩
 ·exact k _ _ h fun z=>by rw[z,hp] at h; cases h
 ·by_cases hb:b=p
  ·rw[hb]
   exact⟨_,hp'⟩
  ·exact⟨zs,k _ _ h hb⟩
 ·exact k _ _ h fun z=>by rw[z,hp] at h; cases h
theorem jDK {H:Hp}{a:Addr}{c:List Int}(h:H a=some (.tup (c.map V.int)))(l:c.length<=100):AnyV H (.ref a):=⟨.tup (c.map Ob.int),jOM h (by rw[ac]; exact l) (Ats.ints c)⟩
theorem jMA {H:Hp}{r:Addr}{v:V}{o:Ob}(h:H r=some (.tup [v]))(ho:At H o v):AnyV H (.ref r):=⟨.tup [o],jOM h (by show (1:Nat)<=100; decide) (ats1 ho (ats0 _))⟩
theorem jRN {D:Ends}{H:Hp}{a b l:Addr}{ns:List Int}{k:Int}{wi:Int}{ms:List Int}{pcs:List (List Int×Int)}{us:List V}{v2 v3 v4 v5 v6 v7 v10 v11 v12 v13:Option V}(hS:SqL K H a (ns.map V.int))(k0:0<=k)(hB:BoxAt H b wi ms pcs)(g:Good 16 32 wi ms pcs)(hl:H l=some (.lst us))(ul:us.length<=1000)(hu:∀ v∈us,AnyV H v)
  (nx:∀ H' us' v10 v11,(∀ c o,H c=some o->c≠l->H' c=some o)->H' l=some (.lst us')->us'.length<=us.length+2->(∀ v∈us',AnyV H' v)->D.nx [some (.ref a),some (.ref b),v2,v3,v4,v5,v6,v7,some (.ref l),some (.int k),v10,v11,v12,v13] H'):
  (t1A G hr).1 D [some (.ref a),some (.ref b),v2,v3,v4,v5,v6,v7,some (.ref l),some (.int k),v10,v11,v12,v13] H:=by
 have gpl:=g.pl
 refine⟨_,rfl,_,rfl,a,ns,k,rfl,hS,k0,fun c=>⟨c,rfl,fun p N hp hN=>?_⟩⟩
 have e1:Ext H (L2.upd H p (.lst [.int N])):=(Ext.refl _).new hp _
 have d1:(L2.upd H p (.lst [.int N])) p=some (.lst [.int N]):=j7
 have lp:l≠p:=fun z=>by rw[z,hp] at hl; cases hl
 generalize L2.upd H p (.lst [.int N])=H1 at e1 d1
 refine⟨_,rfl,p,N,4,rfl,d1,hN,by decide,by decide,fun N4 n a1 a2 a3=>?_⟩
 have hp4:(L2.upd H1 p (.lst [.int N4])) p=some (.lst [.int N4]):=j7
 have e4:Ext H (L2.upd H1 p (.lst [.int N4])):=e1.updNew hp _
 generalize L2.upd H1 p (.lst [.int N4])=H4 at hp4 e4
 have B4:=hB.mono e4.tups
 obtain⟨qm,qp,ps,b1,b2,b3,b4⟩:=id B4.ex
 have pl:=b4.len
 refine⟨n,rfl,by lia,by lia,jAD (n:=n.toNat) (by rw[ah]; lia) (fun D2 i2 σ2 H5 ys=>(∃ v,σ2=[v,some (.ref p),some (.ref b)])/\Keep H4 H5 p/\H5 D2=some (.lst ys)/\H4 D2=none/\(∃ N',H5 p=some (.lst [.int N'])/\0<=N')/\∃ is:List Int,ys=is.map V.int/\is.length<=i2) ?_ ?_ ?_ ?_⟩
 ·intro D2 hD2
  exact⟨⟨_,rfl⟩,fun c o h _=>by rw[jD (jF h hD2)]; exact h,j7,hD2,⟨N4,by rw[jD (jF hp4 hD2)]; exact hp4,a1⟩,[],rfl,ai _⟩
 ·rintro D2 i2 σ2 H5 ys hD2 hi2 ⟨_,_,h5,_,_,is,rfl,hil⟩
  exact⟨h5,by rw[ac]; exact hil⟩
 ·rintro D2 i2 σ2 H5 ys hD2 hi2 ⟨⟨v,rfl⟩,kp5,h5,n5,⟨N5,hp5,hN5⟩,is,rfl,hil⟩
  have D2p:D2≠p:=fun z=>by rw[z,hp4] at n5; cases n5
  have npt:∀ {c:Addr}{xs:List V},H4 c=some (.tup xs)->c≠p:=fun h z=>by rw[z,hp4] at h; cases h
  dsimp only [kI,yG]
  rw[aD rfl]
  refine⟨_,rfl,_,rfl,b,_,2,_,rfl,rfl,SqT.of (kp5 _ _ b1 (npt b1)),rfl,qp,_,rfl, .inr (SqT.of (kp5 _ _ b3 (npt b3))),_,_,rfl,rfl,p,N5,(ps.length:Int)+2,rfl,hp5,hN5,by lia,by lia,fun N6 x c1 c2 c3=>⟨_,_,rfl,rfl,?_⟩⟩
  refine⟨by rw[jD D2p]; exact h5,⟨_,rfl⟩,fun c o h n=>?_,j7,n5,⟨N6,by rw[jD D2p.symm,j7],c1⟩,is++[x - 1],by rw[au]; rfl,by rw[aE]; show _+1<=_; lia⟩
  rw[jD (jF h n5),jD n]
  exact kp5 c o h n
 rintro D2 σ2 H5 ys hD2 ⟨_,kp5,h5,n5,⟨N5,hp5,hN5⟩,is,rfl,hil⟩
 refine⟨D2,_,rfl, .inl ⟨SqL.of h5,fun q hq=>?_⟩⟩
 have e6:Ext H5 (L2.upd H5 q (.tup (is.map V.int))):=(Ext.refl _).new hq _
 have d6:(L2.upd H5 q (.tup (is.map V.int))) q=some (.tup (is.map V.int)):=j7
 generalize L2.upd H5 q (.tup (is.map V.int))=H6 at e6 d6
 have kH6:Ext H H6:=fun c o h=>e6 _ _ (kp5 _ _ (e4 _ _ h) fun z=>by rw[z,hp] at h; cases h)
 have hp6:=e6 _ _ hp5
 have il:is.length<=3:=by lia
 refine⟨_,rfl, .inl ⟨rfl,_,SqL.of (kH6 _ _ hl)⟩,_,rfl,_,rfl,q,_,rfl,d6,fun l1 A1 f1 x1 _=>?_⟩
 refine⟨by show (1:Nat)<=_; decide,fun q2 A2 f2 x2=>?_⟩
 have X2:=x1.trans x2
 refine⟨_,rfl,_,rfl,_,rfl,rfl,q,_,rfl,X2 _ _ d6,fun q3 A3 f3 x3=>?_⟩
 refine⟨by show (2:Nat)<=_; decide,fun q4 A4 f4 x4=>?_⟩
 refine⟨q3,q4,_,_,rfl,rfl,x4 _ _ f3,f4,by rw[d0,ac,ah]; show _+2<=_; lia,fun q5 A5 f5 x5=>?_⟩
 refine fun q6 A6 f6 x6=>?_
 refine⟨by show (1:Nat)<=_; decide,fun q7 A7 f7 x7=>?_⟩
 refine⟨by show (8:Nat)<=_; decide,fun lo A8 f8 x8 n8=>?_⟩
 have y7:=x8
 have y6:=x7.trans y7
 have y5:=x6.trans y6
 have y4:=x5.trans y5
 have y3:=x4.trans y4
 have y2:=x3.trans y3
 have y1:=x2.trans y2
 have y0:=x1.trans y1
 have bad:∀ v∈[V.ref q,V.non,V.ref l1,V.ref q2,V.str "0",V.ref q5,V.ref q6,V.ref q7],AnyV A8 v:=fun v hv=>by
  simp only [az,bz,dh] at hv
  rcases hv with rfl | rfl | rfl | rfl | rfl | rfl | rfl | rfl
  ·exact jDK (y0 _ _ d6) (by lia)
  ·exact⟨_,jRE _⟩
  ·exact⟨_,jV9 (y1 _ _ f1)⟩
  ·exact jMA (y2 _ _ f2) (at_bl _ _)
  ·exact⟨_,jV8 _ _⟩
  ·refine jDK (c:=is.reverse++[0,0]) ?_ (by rw[aE,d0]; show _+2<=_; lia)
   rw[y5 _ _ f5,au,List.map_reverse]
   rfl
  ·exact⟨_,jVA (y6 _ _ f6)⟩
  ·exact jMA (y7 _ _ f7) (jRE _)
 generalize hL: [V.ref q,V.non,V.ref l1,V.ref q2,V.str "0",V.ref q5,V.ref q6,V.ref q7]=L at f8 bad
 have hLl:L.length=8:=by rw[<- hL]; rfl
 have hp8:=y0 _ _ hp6
 have lop:lo≠p:=fun z=>by
  have:A7 p=some (.lst [.int N5]):=(((((x1.trans x2).trans x3).trans x4).trans x5).trans (x6.trans x7)) _ _ hp6
  rw[<- z,n8] at this
  cases this
 refine⟨_,rfl,p,N5,8,rfl,hp8,hN5,by decide,by decide,fun N9 r c1 c2 c3=>?_⟩
 have k9:∀ c o,A8 c=some o->c≠p->(L2.upd A8 p (.lst [.int N9])) c=some o:=fun c o h n=>by rw[jD n]; exact h
 have hp9:(L2.upd A8 p (.lst [.int N9])) p=some (.lst [.int N9]):=j7
 generalize L2.upd A8 p (.lst [.int N9])=H9 at k9 hp9
 have kp9:Kp A8 H9:=Kp.lst hp8 hp9 k9
 obtain⟨v,hv1,hv2⟩:∃ v,atI L r=some v/\v∈L:=by
  have hr':r.toNat<L.length:=by lia
  refine⟨L[r.toNat],?_,cV hr'⟩
  have:=yR (xs:=L) (j:=r.toNat) (v:=L[r.toNat]) (by simp [hr'])
  rw[show ((r.toNat:Nat):Int)=r by lia] at this
  exact this
 have X9:∀ c o,H c=some o->H9 c=some o:=fun c o h=>k9 _ _ (y0 _ _ (kH6 _ _ h)) fun z=>by rw[z,hp] at h; cases h
 have hl9:=X9 _ _ hl
 refine⟨lo,_,r,v,rfl,rfl,SqL.of (k9 _ _ f8 lop),hv1,l,us,_,rfl,rfl,hl9,by rw[ah]; lia,?_⟩
 have kA:∀ c o,H9 c=some o->c≠l->(L2.upd H9 l (.lst (us++[v]))) c=some o:=fun c o h n=>by rw[jD n]; exact h
 have hlA:(L2.upd H9 l (.lst (us++[v]))) l=some (.lst (us++[v])):=j7
 generalize L2.upd H9 l (.lst (us++[v]))=HA at kA hlA
 have kpA:Kp H9 HA:=Kp.lst hl9 hlA kA
 have B9:BoxAt H9 b wi ms pcs:=hB.mono fun c xs h=>X9 _ _ h
 have hpA:HA p=some (.lst [.int N9]):=kA _ _ hp9 lp.symm
 refine⟨_,rfl, .inl ⟨rfl,_,SqL.of hlA⟩,_,rfl,_,rfl,p,b,N9,wi,ms,pcs,rfl,hpA,c1,B9.mono kpA.t,g,fun rr ks N2 HB rB rk hnd pB hN2 kpB=>?_⟩
 have lk:ks.length<=32:=by
  have:=yM ks 0 pcs.length rk.ris rk.bnd
  lia
 have kpB':Kp HA HB:=Kp.lst hpA pB kpB
 have hlB:=kpB _ _ hlA lp
 refine⟨l,_,_,rfl,rfl,hlB,by rw[aE,ah]; show _+1<_; lia,?_⟩
 have kC:∀ c o,HB c=some o->c≠l->(L2.upd HB l (.lst ((us++[v])++[.ref rr]))) c=some o:=fun c o h n=>by rw[jD n]; exact h
 have hlC:(L2.upd HB l (.lst ((us++[v])++[.ref rr]))) l=some (.lst ((us++[v])++[.ref rr])):=j7
 generalize L2.upd HB l (.lst ((us++[v])++[.ref rr]))=HC at kC hlC
 have kpC:Kp HB HC:=Kp.lst hlB hlC kC
 refine nx HC _ _ _ (fun c o h n=>kC _ _ (kpB _ _ (kA _ _ (X9 _ _ h) n) fun z=>by rw[z,hp] at h; cases h) n) hlC (by rw[aE,aE]; show _+1+1<=_; lia) fun u hu'=>?_
 have up:∀ u,AnyV H9 u->AnyV HC u:=fun u h=>((h.mono kpA).mono kpB').mono kpC
 rcases bv.mp hu' with z | z
 ·rcases bv.mp z with z | z
  ·exact up u ((hu u z).ext fun c o h=>X9 c o h)
  ·rw[aI.mp z]
   exact up v ((bad v hv2).mono kp9)
 ·rw[aI.mp z]
  exact(jDK rB (by lia)).mono kpC
end
def spLaw (K:W.Frag)(tb:Addr):Sp:=fun vs H Q _=>∃ (a:Addr) (ns:List Int),vs=[.ref a]/\SqL K H a (ns.map V.int)/\ns.length<=63/\TabP H tb/\∀ H',Q (.bl true) H'
theorem jR3 {H:Hp}{us:List V}{w:Int}{ms:List Int}{pcs:List (List Int×Int)}(g:Good 16 32 w ms pcs)(h:LsAt H us (cvs w ms pcs)):∀ v∈us,AnyV H v:=fun v hv=>by
 obtain⟨i,hi⟩:=iC hv
 obtain⟨c,hc,a,rfl,ha⟩:=All2.get' h hi
 have C:=(jIH g).mp (aB hc)
 have cl:=yM c 0 _ C.ris.ris C.ris.bnd
 have gl:=g.pl
 exact jDK ha (by lia)
theorem cut5 (us:List V):cutV us none (some 5)=us.take 5:=by
 unfold cutV
 rw[HT.sIx_none,show HT.sIx us.length us.length (some 5)=min 5 us.length from HT.sIx_nat _ _ 5]
 rw[List.drop_zero,Nat.sub_zero,List.take_eq_take_iff]
 lia
theorem jUH {fd:FuncData}(F:Fun K "law" "law" sLaw f fd)(G:LW P w K mg base fC fP fT fD fM fV fA fW fL tb fdC fdP fdT fdD fdM fdV fdA fdW fdL):FnOk P w K mg base CX0 20 f fd ["script"] (spLaw K tb):=by
 refine F.ok scLaw (fun vs H Q E h=>?_) (fun dl A outer s H vs Q E hr h=>?_)
 ·obtain⟨_,_,rfl,_⟩:=h
  rfl
 ·obtain⟨a,ns,rfl,hS,hn,tab,q⟩:=h
  refine⟨_,(lawA G hr).2.h,?_⟩
  refine⟨_,rfl,a,ns,0,6,10,rfl,hS,by decide,by decide,by decide,by decide,by decide,fun b wi ms pcs H1 hB g16 e1=>?_⟩
  have g:GB (wi,ms,pcs):=g16.wide (by decide) (by decide)
  have so:=jG8 g
  have el:=jTD g
  have gpl:=g16.pl
  refine⟨_,rfl,b,(wi,ms,pcs),rfl,hB,g,fun r2 H2 S2 e2=>?_⟩
  obtain⟨x0,xt,xp,xk,s0,s1,s2,s3,s4⟩:=S2.ex
  refine⟨r2,_,rfl,SqT.of s0,rfl,_,_,rfl,_,_,rfl,_,_,rfl,_,_,rfl,rfl,?_⟩
  refine⟨_,rfl,b,wi,ms,pcs,rfl,hB.mono e2.tups,g16,fun lE uE H3 h3 u3 n3 e3=>?_⟩
  have gs:Good 16 16 (endS (wi,ms,pcs)).1.1 (endS (wi,ms,pcs)).1.2.1 (endS (wi,ms,pcs)).1.2.2:=⟨so.g.w0,so.g.w1,so.g.mr,by
   have h4:((wi,ms,pcs):Bx).2.2.length=pcs.length:=rfl
   lia,so.g.pg⟩
  refine⟨_,rfl,x0,_,_,_,rfl,s1.mono e3.tups,gs,fun lI uI H4 h4 u4 n4 e4=>?_⟩
  have E4:=e3.trans e4
  have F4:Fx H4 b xp xk lE lI (wi,ms,pcs) uE uI:=⟨(hB.mono e2.tups).mono E4.tups,g,E4 _ _ s3,E4 _ _ s4,e4 _ _ h3,u3.mono e4.tups,h4,u4⟩
  refine⟨_,rfl,⟨_,rfl,lE,uE,rfl,SqL.of F4.e,fun q1 hq1=>?_⟩⟩
  rw[cut5]
  have e5:Ext H4 (L2.upd H4 q1 (.lst (uE.take 5))):=(Ext.refl _).new hq1 _
  have d5:(L2.upd H4 q1 (.lst (uE.take 5))) q1=some (.lst (uE.take 5)):=j7
  generalize L2.upd H4 q1 (.lst (uE.take 5))=H5 at e5 d5
  refine⟨_,rfl,⟨_,rfl,lI,uI,rfl,SqL.of (e5 _ _ F4.i),fun q2 hq2=>?_⟩⟩
  rw[cut5]
  have e6:Ext H5 (L2.upd H5 q2 (.lst (uI.take 5))):=(Ext.refl _).new hq2 _
  have d6:(L2.upd H5 q2 (.lst (uI.take 5))) q2=some (.lst (uI.take 5)):=j7
  generalize L2.upd H5 q2 (.lst (uI.take 5))=H6 at e6 d6
  refine⟨q1,q2,_,_,rfl,rfl,e6 _ _ d5,d6,by rw[bg,bg,ah]; lia,fun l H7 d7 e7 n7=>?_⟩
  have E7:=(e5.trans e6).trans e7
  have F7:=F4.ext E7
  have EH7:Ext H H7:=((e1.trans e2).trans E4).trans E7
  have nl:H l=none:=jR1 (((e1.trans e2).trans E4).trans (e5.trans e6)) n7
  have nlE:lE≠l:=fun z=>by have:=(e5.trans e6) _ _ F4.e; rw[z,n7] at this; cases this
  have nlI:lI≠l:=fun z=>by have:=(e5.trans e6) _ _ F4.i; rw[z,n7] at this; cases this
  have u7:∀ v∈uE.take 5++uI.take 5,AnyV H7 v:=fun v hv=>by
   rcases bv.mp hv with z | z
   ·exact jR3 g F7.ue v (bS z)
   ·exact jR3 so.g F7.ui v (bS z)
  have aL:∀ {H':Hp},(∀ c o,H7 c=some o->c≠l->H' c=some o)->SqL K H' a (ns.map V.int):=fun {H'} k'=>by
   rcases hS with (h | ⟨o,h⟩) | h
   ·exact .inl (.inl (k' _ _ (EH7 _ _ h) fun z=>by rw[z,nl] at h; cases h))
   ·exact .inl (.inr ⟨o,k' _ _ (EH7 _ _ h) fun z=>by rw[z,nl] at h; cases h⟩)
   ·exact .inr h
  have tab7:=tab.ext EH7
  refine⟨1,5,rfl,by decide,jAF (n:=4) (fun i σ H'=>(∃ v9 v10 v11 v12 v13,σ=[some (.ref a),some (.ref b),some (.ref x0),some (.ref xt),some (.ref xp),some (.ref xk),some (.ref lE),some (.ref lI),some (.ref l),v9,v10,v11,v12,v13])/\(∀ c o,H7 c=some o->c≠l->H' c=some o)/\∃ us,H' l=some (.lst us)/\us.length<=10+2*i/\∀ v∈us,AnyV H' v) ⟨⟨_,_,_,_,_,rfl⟩,fun _ _ h _=>h,_,d7,by rw[aE,bg,bg]; lia,u7⟩ ?_ ?_⟩
  ·rintro i σ H8 hi ⟨⟨v9,v10,v11,v12,v13,rfl⟩,k8,us,hl8,ul8,hu8⟩
   have T8:Tups H7 H8:=fun c xs h=>k8 _ _ h fun z=>by rw[z,d7] at h; cases h
   exact jRN G hr (aL k8) (by lia) (F7.hB.mono T8) g hl8 (by lia) hu8 fun H9 us' v10 v11 k9 hl9 ul9 hu9=>⟨⟨_,_,_,_,_,rfl⟩,fun c o h n=>k9 _ _ (k8 _ _ h n) n,us',hl9,by lia,hu9⟩
  ·rintro σ H8 ⟨⟨v9,v10,v11,v12,v13,rfl⟩,k8,us,hl8,ul8,hu8⟩
   have T8:Tups H7 H8:=fun c xs h=>k8 _ _ h fun z=>by rw[z,d7] at h; cases h
   have F8:Fx H8 b xp xk lE lI (wi,ms,pcs) uE uI:=⟨F7.hB.mono T8,g,T8 _ _ F7.p,T8 _ _ F7.k,k8 _ _ F7.e nlE,F7.ue.mono T8,k8 _ _ F7.i nlI,F7.ui.mono T8⟩
   have tab8:TabP H8 tb:=by
    rcases tab7 with h | ⟨c,h,h2⟩
    ·exact .inl (k8 _ _ h fun z=>by rw[z,d7] at h; cases h)
    ·exact .inr ⟨c,k8 _ _ h fun z=>(by rw[z,d7] at h; cases h),k8 _ _ h2 fun z=>(by rw[z,d7] at h2; cases h2)⟩
   have l16:(eK (wi,ms,pcs)).length<=32:=by
    have:=so.p
    have:=so.g.pl
    show (endS (wi,ms,pcs)).2.2.1.length<=32
    lia
   refine⟨_,rfl,l,rfl,⟨_,SqL.of hl8⟩,jG6 (xs:=us) (fun i σ H'=>(∃ v11 v12 v13,σ=[some (.ref a),some (.ref b),some (.ref x0),some (.ref xt),some (.ref xp),some (.ref xk),some (.ref lE),some (.ref lI),some (.ref l),v9,v10,v11,v12,v13])/\ExtT tb H8 H'/\TabP H' tb) ⟨⟨_,_,_,rfl⟩,ExtT.refl _,tab8⟩ (fun i σ H' _ ⟨_,e,_⟩=>SqL.of (e.at tab8 hl8)) ?_ ?_⟩
   ·rintro i x σ H9 hx ⟨⟨v11,v12,v13,rfl⟩,e9,t9⟩
    obtain⟨o,ho⟩:=hu8 x (aB hx)
    exact jRM G hr (F8.ofT e9 tab8) (ho.ofT e9 tab8) t9 l16 fun HA v12 v13 eA tA=>⟨⟨_,_,_,rfl⟩,e9.trans eA,tA⟩
   ·rintro σ H9 ⟨⟨v11,v12,v13,rfl⟩,e9,t9⟩
    exact q H9
end
theorem lenU1 {P:List Value->Prop} :∀ {us:List Value},us.length=1->(∀ a,P [a])->P us
 | [a],_,h=>h a
theorem lenU2 {P:List Value->Prop} :∀ {us:List Value},us.length=2->(∀ a b,P [a,b])->P us
 | [a,b],_,h=>h a b
theorem lenU3 {P:List Value->Prop} :∀ {us:List Value},us.length=3->(∀ a b c,P [a,b,c])->P us
 | [a,b,c],_,h=>h a b c
theorem lenU4 {P:List Value->Prop} :∀ {us:List Value},us.length=4->(∀ a b c d,P [a,b,c,d])->P us
 | [a,b,c,d],_,h=>h a b c d
abbrev zN (K:W.Frag)(x:Str):=PySem.W.nsIn K mainGlobals x
abbrev zr (f:Addr):Option (Option Value):=some (some (.ref f))
abbrev zl (x:Str)(st:Stmt)(oc:Value)(od:Option Addr)(kV dc pm:Value)(an:Option Addr)(cd ct:Value)(sl:Array (Option Value)):Option Obj:=some ⟨oc,od, .func (PySem.W.fnOf x x (qD st) (jN st) (jA st) .none kV dc pm an cd ct),sl⟩
abbrev zc:=PySem.W.codeIn
abbrev zk (K:W.Frag)(f:Addr):=keepIn K (.ref f)
theorem zb1 {K:W.Frag}{x q p1:Str}{st:Stmt}{f:Addr}{fd:FuncData}(F:Fun K x q st f fd)(h:∀ (kV doc pm:Value) (an:Option Addr) (dl ct u1:Value),bindArgs (PySem.W.fnOf x q (qD st) (jN st) (jA st) .none kV doc pm an dl ct) ⟨[u1],[]⟩=pure [(p1,u1)]:=by intros; rfl):Binds K fd [p1] []:=F.binds fun kV doc pm an dl ct us hl=>lenU1 (P:=fun us=>bindArgs _ ⟨us,[]⟩=pure (List.zip _ us)) hl fun u1=>h kV doc pm an dl ct u1
theorem zb2 {K:W.Frag}{x q p1 p2:Str}{st:Stmt}{f:Addr}{fd:FuncData}(F:Fun K x q st f fd)(h:∀ (kV doc pm:Value) (an:Option Addr) (dl ct u1 u2:Value),bindArgs (PySem.W.fnOf x q (qD st) (jN st) (jA st) .none kV doc pm an dl ct) ⟨[u1,u2],[]⟩=pure [(p1,u1),(p2,u2)]:=by intros; rfl):Binds K fd [p1,p2] []:=F.binds fun kV doc pm an dl ct us hl=>lenU2 (P:=fun us=>bindArgs _ ⟨us,[]⟩=pure (List.zip _ us)) hl fun u1 u2=>h kV doc pm an dl ct u1 u2
theorem zb3 {K:W.Frag}{x q p1 p2 p3:Str}{st:Stmt}{f:Addr}{fd:FuncData}(F:Fun K x q st f fd)(h:∀ (kV doc pm:Value) (an:Option Addr) (dl ct u1 u2 u3:Value),bindArgs (PySem.W.fnOf x q (qD st) (jN st) (jA st) .none kV doc pm an dl ct) ⟨[u1,u2,u3],[]⟩=pure [(p1,u1),(p2,u2),(p3,u3)]:=by intros; rfl):Binds K fd [p1,p2,p3] []:=F.binds fun kV doc pm an dl ct us hl=>lenU3 (P:=fun us=>bindArgs _ ⟨us,[]⟩=pure (List.zip _ us)) hl fun u1 u2 u3=>h kV doc pm an dl ct u1 u2 u3
theorem zb4 {K:W.Frag}{x q p1 p2 p3 p4:Str}{st:Stmt}{f:Addr}{fd:FuncData}(F:Fun K x q st f fd)(h:∀ (kV doc pm:Value) (an:Option Addr) (dl ct u1 u2 u3 u4:Value),bindArgs (PySem.W.fnOf x q (qD st) (jN st) (jA st) .none kV doc pm an dl ct) ⟨[u1,u2,u3,u4],[]⟩=pure [(p1,u1),(p2,u2),(p3,u3),(p4,u4)]:=by intros; rfl):Binds K fd [p1,p2,p3,p4] []:=F.binds fun kV doc pm an dl ct us hl=>lenU4 (P:=fun us=>bindArgs _ ⟨us,[]⟩=pure (List.zip _ us)) hl fun u1 u2 u3 u4=>h kV doc pm an dl ct u1 u2 u3 u4
set_option autoImplicit true
set_option relaxedAutoImplicit true
set_option maxHeartbeats 8000000 in
theorem all_mk {l:PySem.W.OpenLaw}{w:World}{K:W.Frag}{h:Heap}{mg:Str->Option Value}{fa f1 f2 f3 f4 f5 f6 f7 f8 f9 f10 f11 f12 f13 f14 f15 f16 f17 f18 f19 f20 f21 f22 f23 f24 f25 f26 f27 f28 f29 f30 f31 f32 f33 f34:Addr}(X:K.In h)(G:h.Ns mainGlobals mg)(hfa:mg "law" =some (.ref fa))
  (a1:zN K "is_whole" =zr f1) (l1:K.lookup f1=zl "is_whole" jBZ oc1 od1 kV1 dc1 pm1 an1 cd1 ct1 sl1) (c1:zc K cd1 "is_whole" =true) (k1:zk K f1=true)
  (a2:zN K "is_rising" =zr f2) (l2:K.lookup f2=zl "is_rising" jAR oc2 od2 kV2 dc2 pm2 an2 cd2 ct2 sl2) (c2:zc K cd2 "is_rising" =true) (k2:zk K f2=true)
  (a3:zN K "is_lot" =zr f3) (l3:K.lookup f3=zl "is_lot" jD4 oc3 od3 kV3 dc3 pm3 an3 cd3 ct3 sl3) (c3:zc K cd3 "is_lot" =true) (k3:zk K f3=true)
  (a4:zN K "mask_of" =zr f4) (l4:K.lookup f4=zl "mask_of" sMask oc4 od4 kV4 dc4 pm4 an4 cd4 ct4 sl4) (c4:zc K cd4 "mask_of" =true) (k4:zk K f4=true)
  (a5:zN K "musts_of" =zr f5) (l5:K.lookup f5=zl "musts_of" jD1 oc5 od5 kV5 dc5 pm5 an5 cd5 ct5 sl5) (c5:zc K cd5 "musts_of" =true) (k5:zk K f5=true)
  (a6:zN K "picked" =zr f6) (l6:K.lookup f6=zl "picked" yL oc6 od6 kV6 dc6 pm6 an6 cd6 ct6 sl6) (c6:zc K cd6 "picked" =true) (k6:zk K f6=true)
  (a7:zN K "is_covering" =zr f7) (l7:K.lookup f7=zl "is_covering" sCov oc7 od7 kV7 dc7 pm7 an7 cd7 ct7 sl7) (c7:zc K cd7 "is_covering" =true) (k7:zk K f7=true)
  (a8:zN K "forced_next" =zr f8) (l8:K.lookup f8=zl "forced_next" jBV oc8 od8 kV8 dc8 pm8 an8 cd8 ct8 sl8) (c8:zc K cd8 "forced_next" =true) (k8:zk K f8=true)
  (a9:zN K "behind" =zr f9) (l9:K.lookup f9=zl "behind" jAS oc9 od9 kV9 dc9 pm9 an9 cd9 ct9 sl9) (c9:zc K cd9 "behind" =true) (k9:zk K f9=true)
  (a10:zN K "is_idle" =zr f10) (l10:K.lookup f10=zl "is_idle" xH oc10 od10 kV10 dc10 pm10 an10 cd10 ct10 sl10) (c10:zc K cd10 "is_idle" =true) (k10:zk K f10=true)
  (a11:zN K "least_idle" =zr f11) (l11:K.lookup f11=zl "least_idle" jD2 oc11 od11 kV11 dc11 pm11 an11 cd11 ct11 sl11) (c11:zc K cd11 "least_idle" =true) (k11:zk K f11=true)
  (a12:zN K "step_of" =zr f12) (l12:K.lookup f12=zl "step_of" jB0 oc12 od12 kV12 dc12 pm12 an12 cd12 ct12 sl12) (c12:zc K cd12 "step_of" =true) (k12:zk K f12=true)
  (a13:zN K "traced" =zr f13) (l13:K.lookup f13=zl "traced" jBC oc13 od13 kV13 dc13 pm13 an13 cd13 ct13 sl13) (c13:zc K cd13 "traced" =true) (k13:zk K f13=true)
  (a14:zN K "turned_smaller" =zr f14) (l14:K.lookup f14=zl "turned_smaller" qI oc14 od14 kV14 dc14 pm14 an14 cd14 ct14 sl14) (c14:zc K cd14 "turned_smaller" =true) (k14:zk K f14=true)
  (a15:zN K "led_back" =zr f15) (l15:K.lookup f15=zl "led_back" jD3 oc15 od15 kV15 dc15 pm15 an15 cd15 ct15 sl15) (c15:zc K cd15 "led_back" =true) (k15:zk K f15=true)
  (a16:zN K "led_there" =zr f16) (l16:K.lookup f16=zl "led_there" jB2 oc16 od16 kV16 dc16 pm16 an16 cd16 ct16 sl16) (c16:zc K cd16 "led_there" =true) (k16:zk K f16=true)
  (a17:zN K "_law_cell_at" =zr f17) (l17:K.lookup f17=zl "_law_cell_at" sCell oc17 od17 kV17 dc17 pm17 an17 cd17 ct17 sl17) (c17:zc K cd17 "_law_cell_at" =true) (k17:zk K f17=true)
  (a18:zN K "_law_pot" =zr f18) (l18:K.lookup f18=zl "_law_pot" sPot oc18 od18 kV18 dc18 pm18 an18 cd18 ct18 sl18) (c18:zc K cd18 "_law_pot" =true) (k18:zk K f18=true)
  (a19:zN K "_law_take" =zr f19) (l19:K.lookup f19=zl "_law_take" sTake oc19 od19 kV19 dc19 pm19 an19 cd19 ct19 sl19) (c19:zc K cd19 "_law_take" =true) (k19:zk K f19=true)
  (a20:zN K "_law_lot" =zr f20) (l20:K.lookup f20=zl "_law_lot" sLot oc20 od20 kV20 dc20 pm20 an20 cd20 ct20 sl20) (c20:zc K cd20 "_law_lot" =true) (k20:zk K f20=true)
  (a21:zN K "_law_box" =zr f21) (l21:K.lookup f21=zl "_law_box" sBox oc21 od21 kV21 dc21 pm21 an21 cd21 ct21 sl21) (c21:zc K cd21 "_law_box" =true) (k21:zk K f21=true)
  (a22:zN K "_law_whole" =zr f22) (l22:K.lookup f22=zl "_law_whole" jDU oc22 od22 kV22 dc22 pm22 an22 cd22 ct22 sl22) (c22:zc K cd22 "_law_whole" =true) (k22:zk K f22=true)
  (a23:zN K "_law_from" =zr f23) (l23:K.lookup f23=zl "_law_from" xF oc23 od23 kV23 dc23 pm23 an23 cd23 ct23 sl23) (c23:zc K cd23 "_law_from" =true) (k23:zk K f23=true)
  (a24:zN K "_law_coverings" =zr f24) (l24:K.lookup f24=zl "_law_coverings" sCovs oc24 od24 kV24 dc24 pm24 an24 cd24 ct24 sl24) (c24:zc K cd24 "_law_coverings" =true) (k24:zk K f24=true)
  (a25:zN K "_law_drawn" =zr f25) (l25:K.lookup f25=zl "_law_drawn" jD5 oc25 od25 kV25 dc25 pm25 an25 cd25 ct25 sl25) (c25:zc K cd25 "_law_drawn" =true) (k25:zk K f25=true)
  (a26:zN K "_law_fits" =zr f26) (l26:K.lookup f26=zl "_law_fits" sFits oc26 od26 kV26 dc26 pm26 an26 cd26 ct26 sl26) (c26:zc K cd26 "_law_fits" =true) (k26:zk K f26=true)
  (a27:zN K "_law_behind" =zr f27) (l27:K.lookup f27=zl "_law_behind" qB oc27 od27 kV27 dc27 pm27 an27 cd27 ct27 sl27) (c27:zc K cd27 "_law_behind" =true) (k27:zk K f27=true)
  (a28:zN K "_law_apart" =zr f28) (l28:K.lookup f28=zl "_law_apart" jD6 oc28 od28 kV28 dc28 pm28 an28 cd28 ct28 sl28) (c28:zc K cd28 "_law_apart" =true) (k28:zk K f28=true)
  (a29:zN K "_law_idle" =zr f29) (l29:K.lookup f29=zl "_law_idle" jC6 oc29 od29 kV29 dc29 pm29 an29 cd29 ct29 sl29) (c29:zc K cd29 "_law_idle" =true) (k29:zk K f29=true)
  (a30:zN K "_law_step" =zr f30) (l30:K.lookup f30=zl "_law_step" jBU oc30 od30 kV30 dc30 pm30 an30 cd30 ct30 sl30) (c30:zc K cd30 "_law_step" =true) (k30:zk K f30=true)
  (a31:zN K "_law_smaller" =zr f31) (l31:K.lookup f31=zl "_law_smaller" qC oc31 od31 kV31 dc31 pm31 an31 cd31 ct31 sl31) (c31:zc K cd31 "_law_smaller" =true) (k31:zk K f31=true)
  (a32:zN K "_law_others" =zr f32) (l32:K.lookup f32=zl "_law_others" jB1 oc32 od32 kV32 dc32 pm32 an32 cd32 ct32 sl32) (c32:zc K cd32 "_law_others" =true) (k32:zk K f32=true)
  (a33:zN K "_law_told" =zr f33) (l33:K.lookup f33=zl "_law_told" xA oc33 od33 kV33 dc33 pm33 an33 cd33 ct33 sl33) (c33:zc K cd33 "_law_told" =true) (k33:zk K f33=true)
  (a34:zN K "law" =zr f34) (l34:K.lookup f34=zl "law" sLaw oc34 od34 kV34 dc34 pm34 an34 cd34 ct34 sl34) (c34:zc K cd34 "law" =true) (k34:zk K f34=true)
   (z1:zN K "len" =some none) (z2:zN K "range" =some none) (z3:zN K "tuple" =some none) (z4:zN K "sorted" =some none) (z5:zN K "set" =some none) (z6:zN K "list" =some none) (z7:zN K "int" =some none) (z8:zN K "isinstance" =some none) (z9:zN K "bool" =some none) (z10:zN K "str" =some none) (z11:zN K "all" =some none) (z12:zN K "zip" =some none) (z13:zN K "max" =some none) (z14:zN K "min" =some none) (z15:zN K "any" =some none) (z16:zN K "abs" =some none) (z17:zN K "sum" =some none) (z18:zN K "enumerate" =some none) (z19:zN K "dict" =some none) (z20:zN K "ValueError" =some none)
  {cT cO:Addr}{cl:Nat->Addr}(x0:zN K "OnceError" =some (some (.ref cO))) (x1:zN K "NoCovering" =some (some (.ref cT))) (x2:ExcK K cT) (x3:Above K cT cO) (x4:ExcIs K cT) (x5:∀ i x,jDH[i]?=some x->PySem.W.nsIn K mainGlobals x=some (some (.ref (cl i)))) (x6:∀ i,i<10->kitOne K (.ref cT) (.ref (cl i))=some (decide (i=1))) (x7:kitOne K (.ref cT) (.type "ValueError")=some true) {tb1 cc1:Addr}(cde1:cd6= .ref cc1) (hcd1:codeHdIn K cc1 tb1=true) {bmA:Addr}(xb1:zN K "__builtins__" =zr bmA) (xb2:K.lookup bmA=some ⟨.type "module",some builtinsNs, .plain,#[]⟩) (xb3:bmA≠builtinsNs) (xb4:bmA≠mainGlobals):
  ∃ fd:FuncData,(∀ (s:Shared) (v:Value),BindsTo s fd ⟨[v],[]⟩ [("script",v)])/\∀ base:Heap,K.In base->base.Ns mainGlobals mg->FnOk l.prog w K mg base CX0 20 fa fd ["script"] (spLaw K tb1):=by
 have e:=hfa.symm.trans (fX X G a34)
 cases e
 have T:Txt mg:=⟨ba X G z1,ba X G z2,ba X G z3,ba X G z4,ba X G z5,ba X G z6,ba X G z7,ba X G z8,ba X G z9,ba X G z10,ba X G z11,ba X G z12,ba X G z13,ba X G z14,ba X G z15,ba X G z16,ba X G z17,ba X G z18,ba X G z19,ba X G z20⟩
 have F1:=kS (st:=jBZ) l1 c1 k1
 have F2:=kS (st:=jAR) l2 c2 k2
 have F3:=kS (st:=jD4) l3 c3 k3
 have F4:=kS (st:=sMask) l4 c4 k4
 have F5:=kS (st:=jD1) l5 c5 k5
 have F6:=kS (st:=yL) l6 c6 k6
 have b6:Binds K _ ["box","things","pieces"] []:=zb3 F6
 have F7:=kS (st:=sCov) l7 c7 k7
 have F8:=kS (st:=jBV) l8 c8 k8
 have F9:=kS (st:=jAS) l9 c9 k9
 have F10:=kS (st:=xH) l10 c10 k10
 have F11:=kS (st:=jD2) l11 c11 k11
 have F12:=kS (st:=jB0) l12 c12 k12
 have F13:=kS (st:=jBC) l13 c13 k13
 have F14:=kS (st:=qI) l14 c14 k14
 have F15:=kS (st:=jD3) l15 c15 k15
 have F16:=kS (st:=jB2) l16 c16 k16
 have F17:=kS (st:=sCell) l17 c17 k17
 have F18:=kS (st:=sPot) l18 c18 k18
 have F19:=kS (st:=sTake) l19 c19 k19
 have F20:=kS (st:=sLot) l20 c20 k20
 have F21:=kS (st:=sBox) l21 c21 k21
 have F22:=kS (st:=jDU) l22 c22 k22
 have F23:=kS (st:=xF) l23 c23 k23
 have F24:=kS (st:=sCovs) l24 c24 k24
 have F25:=kS (st:=jD5) l25 c25 k25
 have F26:=kS (st:=sFits) l26 c26 k26
 have F27:=kS (st:=qB) l27 c27 k27
 have F28:=kS (st:=jD6) l28 c28 k28
 have F29:=kS (st:=jC6) l29 c29 k29
 have F30:=kS (st:=jBU) l30 c30 k30
 have F31:=kS (st:=qC) l31 c31 k31
 have F32:=kS (st:=jB1) l32 c32 k32
 have F33:=kS (st:=xA) l33 c33 k33
 have F34:=kS (st:=sLaw) l34 c34 k34
 refine⟨PySem.W.fnOf "law" "law" (qD sLaw) (jN sLaw) (jA sLaw) .none kV34 dc34 pm34 an34 cd34 ct34,fun s v=> .of_eq rfl,fun base KB _=>?_⟩
 have M:=fun {x:Str}{f:Addr}(a:PySem.W.nsIn K mainGlobals x=some (some (.ref f)))=>fX X G a
 have M':=fun {x:Str}{v:Value}(a:PySem.W.nsIn K mainGlobals x=some (some v))=>fX X G a
 have CD1:PySem.W.CodeHd base cc1 tb1:=iF KB hcd1
 have FC1:FunC K "picked" "picked" yL f6 _ cc1:=⟨_,_,_,_,_,_,_,_,rfl,cde1 ▸ l6,cde1 ▸ c6⟩
 have BM:BltAt base mg:=⟨bmA,_,fX X G xb1,xb3,xb4,KB _ _ xb2,rfl,rfl,rfl⟩
 have KD:Kinds K mg cT cl (fun i=>decide (i=1)):=⟨x4,fun i x h=>M (x5 i x h),x6,x7⟩
 have C1:Can l.prog w K mg base "is_whole" 1 f1 _ ["thing"] spWh:=⟨jMC F1 T,M a1,k1,(zb1 F1)⟩
 have C2:Can l.prog w K mg base "is_rising" 2 f2 _ ["thing"] (spB risB):=⟨jMG F2 T C1,M a2,k2,(zb1 F2)⟩
 have C3:Can l.prog w K mg base "is_lot" 3 f3 _ ["thing","many"] (spB2 lotB):=⟨jPN F3 T C2,M a3,k3,(zb2 F3)⟩
 have C4:Can l.prog w K mg base "mask_of" 1 f4 _ ["lot"] jJ3:=⟨jSQ F4 T,M a4,k4,(zb1 F4)⟩
 have C5:Can l.prog w K mg base "musts_of" 1 f5 _ ["box"] jCJ:=⟨jPK F5 T,M a5,k5,(zb1 F5)⟩
 have C6:Can l.prog w K mg base "picked" 2 f6 _ ["box","things","pieces"] (jBN tb1):=⟨jMH FC1 T CD1 BM,M a6,k6,b6⟩
 have C7:Can l.prog w K mg base "is_covering" 4 f7 _ ["box","thing"] spCov:=⟨jUI F7 T C3,M a7,k7,(zb2 F7)⟩
 have C8:Can l.prog w K mg base "forced_next" 2 f8 _ ["box","held"] jJ2:=⟨jSP F8 T C4 C5,M a8,k8,(zb2 F8)⟩
 have C9:Can l.prog w K mg base "behind" 4 f9 _ ["box","some"] (jDG tb1):=⟨jML F9 T C3 C6,M a9,k9,(zb2 F9)⟩
 have C10:Can l.prog w K mg base "is_idle" 2 f10 _ ["box","number"] jCZ:=⟨jSR F10 T C5,M a10,k10,(zb2 F10)⟩
 have C11:Can l.prog w K mg base "least_idle" 3 f11 _ ["box"] jFE:=⟨jPL F11 T C10,M a11,k11,(zb1 F11)⟩
 have C12:Can l.prog w K mg base "step_of" 5 f12 _ ["box"] (jBM tb1):=⟨jMF F12 T C11 C6 C8 C9,M a12,k12,(zb1 F12)⟩
 have C13:Can l.prog w K mg base "traced" 1 f13 _ ["places","numbers"] jAM:=⟨jME F13 T,M a13,k13,(zb2 F13)⟩
 have C14:Can l.prog w K mg base "turned_smaller" 6 f14 _ ["box"] (jBL tb1):=⟨jMD F14 T C12 C13,M a14,k14,(zb1 F14)⟩
 have C15:CanX cT l.prog w K mg base "led_back" 7 f15 _ ["box","covering"] (jFF tb1):=⟨jPM F15 T C14 C7 C13 x2 (M x1),M a15,k15,(zb2 F15)⟩
 have C16:CanX cT l.prog w K mg base "led_there" 7 f16 _ ["box","covering"] (jBP tb1):=⟨jMJ F16 T C14 C7 x2 (M x1),M a16,k16,(zb2 F16)⟩
 have C17:Can l.prog w K mg base "_law_cell_at" 1 f17 _ ["script","k"] (jGN K):=⟨jSU F17 T,M a17,k17,(zb2 F17)⟩
 have C18:Can l.prog w K mg base "_law_pot" 1 f18 _ ["cell"] spPot:=⟨jUF F18 T,M a18,k18,(zb1 F18)⟩
 have C19:Can l.prog w K mg base "_law_take" 1 f19 _ ["pot","wide"] yZ:=⟨jSO F19,M a19,k19,(zb2 F19)⟩
 have C20:Can l.prog w K mg base "_law_lot" 2 f20 _ ["pot","wide"] xC:=⟨jUG F20 T C19,M a20,k20,(zb2 F20)⟩
 have C21:Can l.prog w K mg base "_law_box" 3 f21 _ ["pot","most_things","most_pieces"] spBox:=⟨jUJ F21 T C19 C20,M a21,k21,(zb3 F21)⟩
 have C22:Can l.prog w K mg base "_law_whole" 1 f22 _ ["found"] spWh:=⟨jPI F22 T,M a22,k22,(zb1 F22)⟩
 have C23:Can l.prog w K mg base "_law_from" 18 f23 _ ["box","thing","held"] (jES 16):=⟨jMK F23 T (M a23) k23 (zb3 F23) 16,M a23,k23,(zb3 F23)⟩
 have C24:Can l.prog w K mg base "_law_coverings" 19 f24 _ ["box"] jLV:=⟨jST F24 T C23,M a24,k24,(zb1 F24)⟩
 have C25:Can l.prog w K mg base "_law_drawn" 4 f25 _ ["script","k","things","pieces"] (jI3 K):=⟨jPO F25 T C17 C18 C19 C21,M a25,k25,(zb4 F25)⟩
 have C26:Can l.prog w K mg base "_law_fits" 1 f26 _ ["box","k","done"] jET:=⟨jSS F26 T,M a26,k26,(zb3 F26)⟩
 have C27:Can l.prog w K mg base "_law_behind" 2 f27 _ ["box","some"] jAW:=⟨jKO F27 T C26,M a27,k27,(zb2 F27)⟩
 have C28:Can l.prog w K mg base "_law_apart" 2 f28 _ ["pot","box"] jI4:=⟨jPP F28 T C19 C26,M a28,k28,(zb2 F28)⟩
 have C29:Can l.prog w K mg base "_law_idle" 1 f29 _ ["box","k"] jCZ:=⟨jPH F29 T,M a29,k29,(zb2 F29)⟩
 have C30:Can l.prog w K mg base "_law_step" 2 f30 _ ["box"] jCI:=⟨jPG F30 T C29,M a30,k30,(zb1 F30)⟩
 have C31:Can l.prog w K mg base "_law_smaller" 3 f31 _ ["box"] jFD:=⟨jMB F31 T C30 C27,M a31,k31,(zb1 F31)⟩
 have C32:CanS l.prog w K mg base "_law_others" 1 f32 _ ["e","own"] (jBO cT fun i=>decide (i=1)):=⟨jMI F32 T KD,M a32,k32,(zb2 F32)⟩
 have C33:Can l.prog w K mg base "_law_told" 8 f33 _ ["box","some"] (jLT tb1):=⟨jSN F33 T C15 C16 C32 (M x0) x3,M a33,k33,(zb2 F33)⟩
 exact jUH F34 ⟨T,C17,C18,C19,C25,C31,C24,C28,C22,C33⟩
def kcl (i:Nat):Addr:=[162,90,174,150,126,186,78,114,138,102].getD i 0
theorem kcC (P:Params){h:Heap}(X:(kK P).In h):h.get? 90=some (excClassObj "NoCovering" "NoCovering" 90 89 [.ref 58] [.ref 58, .type "ValueError", .type "Exception", .type "BaseException", .type "object"] true [] [] false none none (some (.ref 81)) (none) (some (.str "NoCovering" 275)) (some (.str "NoCovering" 283)) (some (.bool true)) "ValueError.__new__"):=X 90 _ (by kernel_rfl)
def kesC (P:Params):Array DictEntry:=#[kE P "__module__" 282 (.str "eachonce.errors" 230),kE P "__firstlineno__" 286 (.int 34 285),kE P "__static_attributes__" 287 (.ref 88),kE P "__doc__" 288 (.none)]
theorem kNC (P:Params){h:Heap}(X:(kK P).In h):h.Ns 89 (nsFind (kesC P)):=⟨⟨.type "dict",none, .dict (kesC P) 2,#[]⟩,_,_,X 89 _ (by kernel_rfl),rfl,fun e he=>by
  unfold kesC at he
  simp only [List.mem_toArray,az,bz,dh] at he
  rcases he with rfl | rfl | rfl | rfl <;> exact⟨_,_,rfl⟩,fun _=>rfl⟩
theorem kcB (P:Params){h:Heap}(X:(kK P).In h):h.get? 58=some (excClassObj "OnceError" "OnceError" 58 57 [.type "ValueError"] [.type "ValueError", .type "Exception", .type "BaseException", .type "object"] true [] [.ref 78, .ref 90, .ref 102, .ref 114, .ref 126, .ref 138, .ref 150, .ref 162, .ref 174, .ref 186] false none none (some (.ref 49)) (none) (some (.str "OnceError" 232)) (some (.str "OnceError" 240)) (some (.bool true)) "ValueError.__new__"):=X 58 _ (by kernel_rfl)
def kesB (P:Params):Array DictEntry:=#[kE P "__module__" 239 (.str "eachonce.errors" 230),kE P "__firstlineno__" 243 (.int 27 242),kE P "__static_attributes__" 244 (.ref 56),kE P "__weakref__" 246 (.ref 59),kE P "__doc__" 247 (.none)]
theorem kNB (P:Params){h:Heap}(X:(kK P).In h):h.Ns 57 (nsFind (kesB P)):=⟨⟨.type "dict",none, .dict (kesB P) 3,#[]⟩,_,_,X 57 _ (by kernel_rfl),rfl,fun e he=>by
  unfold kesB at he
  simp only [List.mem_toArray,az,bz,dh] at he
  rcases he with rfl | rfl | rfl | rfl | rfl <;> exact⟨_,_,rfl⟩,fun _=>rfl⟩
theorem kx2 (P:Params):ExcK (kK P) 90:=⟨"NoCovering","NoCovering",89,[.ref 58],[.ref 58, .type "ValueError", .type "Exception", .type "BaseException", .type "object"],true,[],[],false,none,none,some (.ref 81),none,some (.str "NoCovering" 275),some (.str "NoCovering" 283),some (.bool true),nsFind (kesC P),by kernel_rfl,by kernel_rfl,fun h X=>⟨kcC P X,kNC P X, .own (kcB P X) (kNB P X) (by kernel_rfl) .base⟩⟩
theorem kx3 (P:Params):Above (kK P) 90 58:=⟨"NoCovering","NoCovering","OnceError","OnceError",89,57,[.ref 58],[.ref 58, .type "ValueError", .type "Exception", .type "BaseException", .type "object"],[.type "ValueError"],[.type "ValueError", .type "Exception", .type "BaseException", .type "object"],true,true,[],[],[],[.ref 78, .ref 90, .ref 102, .ref 114, .ref 126, .ref 138, .ref 150, .ref 162, .ref 174, .ref 186],false,false,none,none,none,none,some (.ref 81),none,some (.str "NoCovering" 275),some (.str "NoCovering" 283),some (.bool true),some (.ref 49),none,some (.str "OnceError" 232),some (.str "OnceError" 240),some (.bool true),"ValueError.__new__","ValueError.__new__",by kernel_rfl,by kernel_rfl,fun h X=>⟨kcC P X,kcB P X⟩⟩
theorem kx4 (P:Params):ExcIs (kK P) 90:=⟨by kernel_rfl,by kernel_rfl,by kernel_rfl,by kernel_rfl,by kernel_rfl,by kernel_rfl,by kernel_rfl,by kernel_rfl⟩
theorem kx5 (P:Params):∀ i x,jDH[i]?=some x->PySem.W.nsIn (kK P) mainGlobals x=some (some (.ref (kcl i)))
 | 0,_,rfl | 1,_,rfl | 2,_,rfl | 3,_,rfl | 4,_,rfl | 5,_,rfl | 6,_,rfl | 7,_,rfl | 8,_,rfl | 9,_,rfl=>by kernel_rfl
 | _+10,_,h=>by cases h
theorem kx6 (P:Params):∀ i,i<10->kitOne (kK P) (.ref 90) (.ref (kcl i))=some (decide (i=1))
 | 0,_ | 1,_ | 2,_ | 3,_ | 4,_ | 5,_ | 6,_ | 7,_ | 8,_ | 9,_=>by kernel_rfl
 | _+10,h=>by lia
theorem kx7 (P:Params):kitOne (kK P) (.ref 90) (.type "ValueError")=some true:=by kernel_rfl
theorem walk {l:PySem.W.OpenLaw}{q:Program}{loose:List Str}{XP:(Str->Option Value)->Heap->Prop}{YP:World->Heap->Prop}{d:DefRec}{K:Params->W.Frag}(hn:l.most=some 63)(hdf:d.params.defaults=[]){tb1:Addr}{cc1:Addr}
  (hY:∀ (w:World) (h:Heap),YP w h->(K w.params).In h/\∀ T∈[tb1],h.get? T=some (tabObj #[])) (hcd:∀ w:World,codeHdIn (K w.params) cc1 tb1=true) (hKT:∀ w:World,∀ T∈[tb1],(K w.params).lookup T=none) (hnd:([tb1]:List Addr).Nodup)
  (F:∀ (w:World) (mg:Str->Option Value) (fa:Addr) (h:Heap),(K w.params).In h->h.Ns mainGlobals mg->mg d.name=some (.ref fa)->
   ∃ fd:FuncData,(∀ (s:Shared) (u:Value),BindsTo s fd ⟨[u],[]⟩ [("script",u)])/\∀ base:Heap,(K w.params).In base->base.Ns mainGlobals mg->FnOk l.prog w (K w.params) mg base CX0 20 fa fd ["script"] (spLaw (K w.params) tb1)):
  PySem.W.WalkO q loose XP YP l.row.toRowW d [] (fun f vs=>PySem.call f vs):=
 L2.walk_ofTs (cts:=[(cc1,tb1)]) (n:=63) (k:=20) (x:= "script") (CX:=fun _=>CX0) (sp:=fun w=>spLaw (K w.params) tb1) hn (by decide) hdf ⟨rfl,by decide,by decide⟩ hY (fun w p hp=>by
  obtain _h0:=hcd w
  simp only [az,bz,dh] at hp
  rcases hp with rfl <;> assumption) hKT F (fun _ H a ns hl hT hS=>⟨a,ns,rfl,hS,hl, .inl (hT _ aw),fun _=>rfl⟩) fun _ _ _ _ _ z=>z
end Eo
open PySem PySem.W PyProof.Rows
set_option maxRecDepth 100000 in
set_option maxHeartbeats 0 in
theorem PySem.Challenge.cw_eachonce_k87_coverings_led_holds : PySem.Challenge.rw_eachonce_k87_coverings_led.Holds := by
 w_on
 refine holds_law (by decide+kernel) fun said=>?_
 refine holds_open (q:=Eo.vw) (loose:=[]) (Xt:=fun s=>xlAt Eo.vw [] s&&recOk (RowW.records (OpenRow.toRowW PySem.Challenge.rw_eachonce_k87_coverings_led.row)) s) (XP:=XL Eo.vw []) (Yf:=Hook.obs Eo.kH) (Ya:=Hook.val Eo.kH) (YP:=Hook.says Eo.kH) (N:=7300) Eo.left (Hook.of Eo.kH) (Hook.keeps Eo.kH) (fun s e=>xl_of s (iD.mp e).1) XL.keeps (by rfl) (by rfl) (by rfl) (fun s e=>recFacts_of (iD.mp e).2) rfl said (by decide+kernel) ⟨rfl,rfl,rfl,rfl,rfl,by decide+kernel⟩ ?hw ?hc
 case hw=>w_witness2
 refine Eo.walk (l:=PySem.Challenge.rw_eachonce_k87_coverings_led) (K:=Eo.kK) rfl rfl (tb1:=45) (cc1:=47) (fun w h Y=>⟨PySem.W.km_in_of Y,PySem.W.km_tabs_of Y⟩) (fun w=>by kernel_rfl) (fun w T hm=>by
   simp only [az,bz,dh] at hm
   rcases hm with rfl <;> kernel_rfl) (by decide) ?F
 case F=>
  intro w mg fa h KX G hmg
  k_fill
  refine' Eo.all_mk KX G hmg _ _ _ _ _ _ _ _ _ _ _ _ _ _ _ _ _ _ _ _ _ _ _ _ _ _ _ _ _ _ _ _ _ _ _ _ _ _ _ _ _ _ _ _ _ _ _ _ _ _ _ _ _ _ _ _ _ _ _ _ _ _ _ _ _ _ _ _ _ _ _ _ _ _ _ _ _ _ _ _ _ _ _ _ _ _ _ _ _ _ _ _ _ _ _ _ _ _ _ _ _ _ _ _ _ _ _ _ _ _ _ _ _ _ _ _ _ _ _ _ _ _ _ _ _ _ _ _ _ _ _ _ _ _ _ _ _ _ _ _ _ _ _ _ _ _ _ _ _ _ _ _ _ _ _ _ _ _ (Eo.kx2 _) (Eo.kx3 _) (Eo.kx4 _) (Eo.kx5 _) (Eo.kx6 _) (Eo.kx7 _) (tb1:=45) rfl (by kernel_rfl) (bmA:=4) (by kernel_rfl) (by kernel_rfl) (by decide) (by decide)
  all_goals ((try delta Eo.zN); (try delta Eo.zr); (try delta Eo.zl); (try delta Eo.zc); (try delta Eo.zk); try k_is)
end
