import PyProof.Rows.All
import KE.KDictOf
import KE.KFromBytes
import KE.KIsAll
import KE.KItemsList
import KE.KLam
import KE.KNestM
import KE.KSortTup
import PySem.Challenge.RW_eachonce_k22_more_than_a_thousand
noncomputable section
set_option Elab.async false
set_option linter.all false
set_option maxRecDepth 100000
def aa:=@PySem.wpAny_bind
def ae:=@PySem.Heap.get?_push_of_some
def ag:=@PySem.wpAny_pure
def ah:=@List.length_map
def ai:=@List.mem_cons_of_mem
def aj:=@if_neg
def ak:=@List.mem_cons_self
def ao:=@Bool.false_ne_true
def aq:=@if_pos
def ar:=@List.getElem?_eq_some_iff
def ay:=@PySem.Heap.lt_size
def az:=@List.mem_cons
def aA:=@PySem.Heap.get?_push_size
def aB:=@List.getElem?_eq_getElem
def aC:=@List.mem_singleton
def aE:=@Nat.le_refl
def aF:=@List.getD_eq_getElem?_getD
def aG:=@List.length_cons
def aI:=@List.size_toArray
def aJ:=@PyProof.Rows.wpS_bind
def aK:=@List.length_append
def aL:=@Array.length_toList
def aM:=@PyProof.Rows.wpS_pure
def aN:=@List.mem_of_getElem?
def aO:=@decide_eq_true
def aP:=@List.getElem?_map
def aQ:=@List.mem_append_right
def aR:=@decide_eq_false
def aU:=@List.mem_append
def aV:=@Nat.ne_of_lt
def aW:=@List.not_mem_nil
def aX:=@List.append_assoc
def aY:=@PySem.sizeLine_eq
def aZ:=@Int.toNat_natCast
def ba:=@List.map_cons
def bb:=@List.getElem?_append_right
def be:=@List.mem_append_left
def bf:=@List.take_append_drop
def bg:=@PySem.W.mg_none_of
def bh:=@List.map_append
def bi:=@Nat.lt_of_lt_of_le
def bj:=@of_decide_eq_true
def bo:=@List.append_nil
def bq:=@List.mem_map
def br:=@Option.some.inj
def bu:=@PySem.Heap.get?_update_other
def bv:=@Array.toList_append
def bw:=@List.getElem?_eq_none
def bx:=@List.map_congr_left
def bz:=@List.lookup_cons
def bA:=@Nat.le_trans
def bB:=@Classical.byContradiction
def bC:=@PySem.Heap.get?_update_self
def bE:=@PySem.wpAny_setField_rec
def bF:=@List.map_map
def bG:=@Nat.zero_le
def bH:=@List.getElem?_of_mem
def bI:=@PySem.wpAny_holding
def bJ:=@Array.getElem?_toList
def bK:=@List.nodup_cons
def bL:=@PySem.wpAny_field
def bM:=@List.take_add_one
def bN:=@PySem.wpAny_mono
def bO:=@List.getElem?_append_left
def bP:=@List.length_take
def bQ:=@PySem.wpAny_call_entry
def bR:=@congrArg
def bS:=@PySem.Heap.size_push
def bU:=@Nat.lt_succ_of_lt
def bV:=@PySem.Around.under_plainId
def bW:=@PyProof.Rows.wpS_forRange
def bX:=@List.length_range
def bY:=@PySem.wpAny_callSpecial?_slot
def bZ:=@List.take_length
def b0:=@decide_eq_true_iff
def cb:=@PySem.W.kia_one
def cc:=@List.getElem?_take_of_lt
def ce:=@List.length_filter_le
def cf:=@PySem.wpAny_newObj_type
def cg:=@Nat.testBit_two_pow_sub_one
def cj:=@List.pairwise_map
def ck:=@PySem.wpAny_rule
def cn:=@List.mem_of_mem_take
def cq:=@PySem.wpAny_loadPart'
def cr:=@PySem.codeAny_builtin
def cw:=@PySem.PassesOwn.never
def cx:=@List.take_of_length_le
def cy:=@Int.le_of_lt
def cz:=@or_false
def cA:=@PySem.mem_of_lookup
def cB:=@List.replicate_succ
def cC:=@PySem.Heap.SameBut.update
def cD:=@List.mem_map_of_mem
def cF:=@Ne.symm
def cG:=@Nat.lt_irrefl
def cH:=@List.mem_range
def cI:=@PySem.wpAny_seqItems
def cJ:=@List.pairwise_cons
def cK:=@List.pairwise_append
def cL:=@Nat.add_sub_cancel_left
def cM:=@Nat.le_of_lt
def cN:=@Nat.ne_of_gt
def cP:=@Array.perm_iff_toList_perm
def cQ:=@Nat.mod_two_eq_zero_or_one
def cR:=@beq_eq_false_iff_ne
def cS:=@List.filterMap_cons
def cU:=@List.mem_filter
def cV:=@List.length_nil
def cX:=@List.sum_append
def cY:=@List.pairwise_iff_getElem
def cZ:=@List.Perm.append_left
def da:=@PySem.wpAny_Call_Name_kw
def db:=@List.getElem_mem
def de:=@beq_iff_eq
def df:=@PySem.wpAny_attempt
def dh:=@Nat.add_zero
def di:=@PyProof.Rows.wpS_mono
def dj:=@Array.toList_reverse
def dk:=@PySem.wpAny_truthy_bool
def dn:=@PySem.wpAny_setState_of
def dq:=@Bool.eq_iff_iff
def dr:=@PyProof.Rows.callWith_type1
def dv:=@PySem.codeAny_mono
def dw:=@PySem.Calls.callWith_builtin
def dy:=@Nat.zero_add
def dz:=@PySem.plainId_quiet
def dC:=@List.all_eq_true
def dD:=@List.countP_cons
def dE:=@List.filter_append
def dF:=@List.length_replicate
def dG:=@List.perm_append_comm
def dH:=@List.extract_eq_take_drop
def dI:=@PySem.wpAny_passesOwn
def dJ:=@List.of_mem_zip
def dL:=@PySem.wpAny_pyIter_list
def dM:=@List.flatten_cons
def dN:=@List.mem_of_mem_drop
def dO:=@Array.toList_push
def dP:=@Int.le_refl
def dQ:=@Int.le_trans
def dR:=@Bool.and_eq_true_iff
def dS:=@Nat.pow_le_pow_right
def dU:=@PySem.wpAny_storeSet_of
def dW:=@Option.isSome_iff_exists
def dX:=@List.length_take_le
def dY:=@List.getElem?_range
def dZ:=@Nat.le_add_right
def ed:=@Bool.and_false
def eg:=@PySem.F.plain_list_iadd
def eh:=@PySem.F.slot_dict_items
def eC:=@PySem.F.plainAttrs_list
def eD:=@List.filter_cons_of_pos
def eE:=@List.filter_cons_of_neg
def eF:=@List.zip_cons_cons
def eG:=@List.drop_eq_nil_of_le
def eJ:=@of_decide_eq_false
def eL:=@PyProof.Rows.wpS_modify
def eM:=@PySem.wpAny_execs_nil
def eN:=@Nat.not_lt_zero
def eQ:=@List.find?_cons
def eR:=@List.range_succ
def eS:=@PySem.wpAny_standAt
def eU:=@List.sum_cons
def eV:=@List.take_sublist
def eW:=@PySem.Calls.evalArgs_plain
def eX:=@Array.toList_extract
def eY:=@Array.getElem?_eq_some_iff
def eZ:=@PySem.wpAny_setField
def fb:=@PySem.wpAny_letGo
def fc:=@Array.toList_setIfInBounds
def fe:=@List.exists_cons_of_ne_nil
def ff:=@Bool.and_eq_true
def fg:=@PySem.wpAny_askSetting
def fh:=@PySem.Around.in1_units
def fi:=@Nat.testBit_zero
def fj:=@List.drop_eq_getElem_cons
def fk:=@List.getElem_of_mem
def fm:=@Nat.testBit_two_pow
def fo:=@List.reverse_append
def fq:=@List.all_cons
def fw:=@List.Perm.of_eq
def fz:=@PySem.wpAny_updateSeq
def fE:=@PySem.wpAny_call
def fH:=@PySem.tupleKind_room_in1
def fK:=@Sum.inl.inj
def fN:=@PySem.sizeLine_eq
def fO:=@PySem.wpAny_Call_method0_late
def fQ:=@PySem.F.plainAttrs_dict
def fU:=@decide_eq_false_iff_not
def fV:=@List.map_id
def fX:=@List.getElem?_set_self
def fY:=@Bool.false_and
def gb:=@PySem.W.cellsFrom_some
def gc:=@Nat.lt_trans
def gd:=@Option.some.injEq
def ge:=@List.range_succ_eq_map
def gf:=@Nat.testBit_or
def gh:=@List.getElem?_inj
def gj:=@Bool.not_eq_true'
def gk:=@List.Perm.append_right
def gl:=@PySem.wpAny_tryCatch
def gm:=@List.nodup_nil
def gn:=@List.countP_congr
def gq:=@Array.getElem?_setIfInBounds_ne
def gt:=@PySem.F.slot_tuple_lt
def gu:=@PySem.builtinLookup_eq_fast
def gw:=@PySem.F.slot_dict_get
def gx:=@List.filterMap_append
def gy:=@PySem.wpAny_isInstance
def gz:=@List.filter_cons
def gA:=@List.any_cons
def gB:=@PySem.W.mg_of
def gC:=@PyProof.Rows.wpS_get
def gE:=@List.getElem?_set_ne
def gF:=@PySem.wpAny_updateSeq_pair
def gG:=@Nat.pow_lt_pow_right
def gH:=@PySem.codeAny_call_builtin
def gI:=@List.eq_nil_of_length_eq_zero
def gJ:=@Array.toArray_toList
def gK:=@Nat.eq_of_testBit_eq
def gL:=@List.length_set
def gM:=@Nat.two_pow_pos
def gN:=@PySem.evalArgs_none
def gO:=@PySem.W.codeHd_of_K
def gP:=@List.countP_eq_zero
def gQ:=@List.map_nil
def gR:=@PySem.F.plain_proto_collect
def gS:=@Nat.sub_self
def gU:=@PySem.Calls.Name_function_global
def gW:=@PySem.wpAny_load
def gX:=@PySem.Calls.spliced_cons
def gY:=@PySem.W.callWith_K
def gZ:=@PySem.wpAny_newFunctionEnv_cells
def g0:=@PySem.SeqAt.EqAt.int_int
def g5:=@PySem.call_meets
def g6:=@PySem.F.excBase_ValueError
def g7:=@Nat.not_lt
def g8:=@List.drop_drop
def g9:=@List.getElem?_drop
def hG:=@PyProof.Rows.wpS_lift
def hV:=@List.drop_zero
def h8:=@List.countP_append
def ic:=@Nat.mul_le_mul
def ie:=@PySem.F.args_dict_items_1
def ig:=@PySem.Calls.call_function_entry
def ik:=@Nat.lt_trichotomy
def im:=@PySem.wpAny_of_eq
def io:=@PySem.wpAny_pyIter_slot
def iq:=@if_true
def ir:=@Bool.eq_false_iff
def iu:=@List.nodup_append
def iw:=@List.ext_getElem?
def ix:=@List.getElem?_set
def iy:=@List.flatMap_cons
def iA:=@PySem.Paired.length
def iB:=@PySem.wpAny_onRaise
def iC:=@PySem.wpAny_newList
def iE:=@PySem.F.entry_dict_items
def iF:=@Bool.eq_false_or_eq_true
def iG:=@PySem.F.slot_list_append
def iH:=@PySem.F.type_list_append
def iI:=@PySem.wpAny_execs_cons
def iJ:=@List.getElem?_replicate
def iK:=@PySem.F.args_tuple_lt_2
def iL:=@List.perm_middle
def iM:=@List.length_eq_zero_iff
def iN:=@List.zipIdx_cons
def iO:=@Nat.lt_succ_self
def iP:=@PySem.Heap.size_update
def iQ:=@PySem.F.attr_ValueError
def iR:=@PySem.F.args_dict_get_3
def iS:=@PySem.F.type_dict_items
def iT:=@List.pairwise_singleton
def iU:=@PySem.putSet_of
def iV:=@PySem.F.entry_tuple_lt
def iW:=@Nat.add_comm
def iX:=@Nat.mul_comm
def iY:=@Bool.or_true
def iZ:=@PySem.call_meetsIn
def i4:=@PySem.F.entry_dict_get
def i5:=@List.foldl_cons
def i6:=@List.nil_append
def i7:=@List.forIn_cons
def i8:=@PySem.typeLookup_type
def i9:=@List.countP_map
def ja:=@Int.natCast_add
def jc:=@List.length_singleton
def jd:=@List.set_append_right
def jf:=@PySem.F.slot_set_iter
def jg:=@PySem.isSubtype_type
def jh:=@PySem.entryFor_alias
def ji:=@PySem.wpAny_newTuple
def jk:=@PySem.isSubtype_stop
def jl:=@PySem.W.looks_findIn
def jm:=@PySem.wpAny_runValue
def jn:=@List.reverse_reverse
def jo:=@List.take_zero
def jp:=@Nat.le_succ
def jq:=@Array.getElem_toList
def jr:=@Bool.not_true
def jt:=@Array.append_assoc
def ju:=@List.mem_filterMap
def jw:=@PySem.W.codeRec_of
def jx:=@Nat.lt_of_le_of_lt
def jy:=@Nat.mod_lt
def jz:=@PySem.Walks.list
def ka:=@Int.natCast_nonneg
def ke:=@List.contains_cons
def kf:=@Array.empty_append
def kg:=@Bool.false_eq_true
def kh:=@Int.emod_lt_of_pos
def ki:=@List.filterMap_nil
def kj:=@Nat.succ_mul
def km:=@getElem?_pos
def kn:=@Nat.pow_succ
def ko:=@not_or
open PySem.W (clsIn codeHdIn envX findIn findObj fnMade instObj keepIn kitAny kitOne kitx_dict kitx_list kla_obj lookIn methodObj mg_of mroIn plainGet specialIn tabObj takesIn)
open List (all_map)
open Nat (strongRecOn)
open Array (size_map)
open Option (bind_some isSome_map)
section
namespace L2
open PySem PySem.Spec PyProof.Rows
def jI (s:Stmt):Arguments:=match s with
 | .FunctionDef _ a _ _ _ _ _ _ _ _=>a
 | _=> { posonlyargs:=[],args:=[],vararg:=none,kwonlyargs:=[],kw_defaults:=[],kwarg:=none,defaults:=[]}
def jB (s:Stmt):List Stmt:=match s with
 | .FunctionDef _ _ b _ _ _ _ _ _ _=>b
 | _=> []
def j7 (s:Stmt):Scope:=match s with
 | .FunctionDef _ _ _ _ _ _ sc _ _ _=>sc
 | _=> { kind:= .function,names:=[],isGenerator:=false,isCoroutine:=false}
end L2
end
section
namespace Eo
open PySem L2
noncomputable def top (i:Nat):Stmt:=PySem.Challenge.pw_eachonce_k22_more_than_a_thousand.main.body.getD i (.Pass ⟨0,0,0,0⟩)
abbrev sMask:Stmt:=top 13
abbrev jV:Stmt:=top 15
abbrev sFull:Stmt:=top 16
abbrev sAt:Stmt:=top 17
abbrev sMet:Stmt:=top 18
abbrev yD:Stmt:=top 19
abbrev y8:Stmt:=top 20
abbrev sMany:Stmt:=top 21
abbrev sSzT:Stmt:=top 24
abbrev jB5:Stmt:=top 25
abbrev sWts:Stmt:=top 26
abbrev sCell:Stmt:=top 28
abbrev sPot:Stmt:=top 29
abbrev sTake:Stmt:=top 30
abbrev jBH:Stmt:=top 31
abbrev yJ:Stmt:=top 32
abbrev yL:Stmt:=top 33
abbrev sLaw:Stmt:=top 34
noncomputable def kC (x:Str)(t:Nat)(l n:Int)(a:Nat)(X Y:Value)(z:Nat)(u:Int)(v:Nat):Obj:=⟨.type "code",none, .fields #[.str x t, .str x (t+1), .str "/claim/cut.py" (t+2), .int l 0, .int n 0, .int 0 0, .int 0 0, .int 3 0, .ref a, .bool true, .int 181 0, .ref (a+1), .none,X,Y, .ref z, .int u 0, .int l 0, .str "/claim/cut.py" v],#[]⟩
noncomputable def kF (x:Str)(s:Stmt)(m:Str)(t c:Nat):Obj:=⟨.type "function",none, .func (PySem.W.fnOf x x (jI s) (jB s) (j7 s) .none .none .none (.str m t) none (.ref c) .none),#[]⟩
noncomputable def kE (P:Params)(x:Str)(t:Nat)(v:Value):DictEntry:=⟨PyData.keyHash P x, .str x t,v⟩
noncomputable def kM (P:Params):Obj:=
 let e (x:Str) (t:Nat) (v:Value):DictEntry:=⟨PyData.keyHash P x, .str x t,v⟩
 ⟨.type "dict",none, .dict #[e "__name__" 165 (.str "law_eachonce_k22_more_than_a_thousand" 464),e "__doc__" 166 (.none),e "__package__" 167 (.none),e "__loader__" 168 (.builtin "__main__.__loader__#opaque"),e "__spec__" 169 (.none),e "__annotations__" 170 (.ref 6),e "__builtins__" 171 (.ref 4),e "__file__" 173 (.str "/claim/cut.py" 172),e "__cached__" 174 (.none),e "OnceError" 206 (.ref 24),e "NoText" 231 (.ref 44),e "NoCovering" 247 (.ref 56),e "TooMany" 263 (.ref 68),e "NoThing" 279 (.ref 80),e "NoPiece" 295 (.ref 92),e "NoWeight" 311 (.ref 104),e "NoOrder" 327 (.ref 116),e "Held" 343 (.ref 128),e "NoDeed" 359 (.ref 140),e "NoRow" 375 (.ref 152),e "mask_of" 383 (.ref 159),e "choices_of" 391 (.ref 164),e "full_mask" 398 (.ref 171),e "choices_at" 404 (.ref 176),e "masks_met" 417 (.ref 183),e "gathered" 423 (.ref 188),e "ways_of" 430 (.ref 195),e "many" 437 (.ref 202),e "MOST_WEIGHED" 441 (.int 1000 440),e "sizes_together" 447 (.ref 207),e "sizes" 454 (.ref 214),e "weights" 463 (.ref 221),e "_law_cell_at" 473 (.ref 228),e "_law_pot" 483 (.ref 235),e "_law_take" 492 (.ref 242),e "_law_whole" 499 (.ref 249),e "_law_same" 505 (.ref 254),e "_law_told" 515 (.ref 261),e "law" 521 (.ref 266)] 39,#[]⟩
noncomputable def kK (P:Params):W.Frag:=(nat_lit 3,kM P)::(nat_lit 4,⟨.type "module",some 0, .plain,#[]⟩)::(nat_lit 23,⟨.type "dict",none, .dict #[kE P "__module__" 196 (.str "eachonce.errors" 187),kE P "__firstlineno__" 200 (.int 2 199),kE P "__static_attributes__" 201 (.ref 22),kE P "__weakref__" 203 (.ref 25),kE P "__doc__" 204 (.none)] 3,#[]⟩)::(nat_lit 24,⟨.type "type",none, .cls { name:= "OnceError",bases:=[.type "ValueError"],mro:=[.ref 24, .type "ValueError", .type "Exception", .type "BaseException", .type "object"],ns:=23,qualname:= "OnceError",subclasses:=[.ref 44, .ref 56, .ref 68, .ref 80, .ref 92, .ref 104, .ref 116, .ref 128, .ref 140, .ref 152]},#[some (.ref 15),none,some (.str "OnceError" 189),some (.str "OnceError" 197),some (.builtin "ValueError.__new__"),some (.bool true)]⟩)::(nat_lit 44,⟨.type "type",none, .cls { name:= "NoText",bases:=[.ref 24],mro:=[.ref 44, .ref 24, .type "ValueError", .type "Exception", .type "BaseException", .type "object"],ns:=43,qualname:= "NoText",subclasses:=[]},#[some (.ref 28),none,some (.str "NoText" 207),some (.str "NoText" 215),some (.builtin "ValueError.__new__"),some (.bool true)]⟩)::(nat_lit 56,⟨.type "type",none, .cls { name:= "NoCovering",bases:=[.ref 24],mro:=[.ref 56, .ref 24, .type "ValueError", .type "Exception", .type "BaseException", .type "object"],ns:=55,qualname:= "NoCovering",subclasses:=[]},#[some (.ref 47),none,some (.str "NoCovering" 232),some (.str "NoCovering" 240),some (.builtin "ValueError.__new__"),some (.bool true)]⟩)::(nat_lit 67,⟨.type "dict",none, .dict #[kE P "__module__" 255 (.str "eachonce.errors" 187),kE P "__firstlineno__" 259 (.int 11 258),kE P "__static_attributes__" 260 (.ref 66),kE P "__doc__" 261 (.none)] 2,#[]⟩)::(nat_lit 68,⟨.type "type",none, .cls { name:= "TooMany",bases:=[.ref 24],mro:=[.ref 68, .ref 24, .type "ValueError", .type "Exception", .type "BaseException", .type "object"],ns:=67,qualname:= "TooMany",subclasses:=[]},#[some (.ref 59),none,some (.str "TooMany" 248),some (.str "TooMany" 256),some (.builtin "ValueError.__new__"),some (.bool true)]⟩)::(nat_lit 80,⟨.type "type",none, .cls { name:= "NoThing",bases:=[.ref 24],mro:=[.ref 80, .ref 24, .type "ValueError", .type "Exception", .type "BaseException", .type "object"],ns:=79,qualname:= "NoThing",subclasses:=[]},#[some (.ref 71),none,some (.str "NoThing" 264),some (.str "NoThing" 272),some (.builtin "ValueError.__new__"),some (.bool true)]⟩)::(nat_lit 92,⟨.type "type",none, .cls { name:= "NoPiece",bases:=[.ref 24],mro:=[.ref 92, .ref 24, .type "ValueError", .type "Exception", .type "BaseException", .type "object"],ns:=91,qualname:= "NoPiece",subclasses:=[]},#[some (.ref 83),none,some (.str "NoPiece" 280),some (.str "NoPiece" 288),some (.builtin "ValueError.__new__"),some (.bool true)]⟩)::(nat_lit 104,⟨.type "type",none, .cls { name:= "NoWeight",bases:=[.ref 24],mro:=[.ref 104, .ref 24, .type "ValueError", .type "Exception", .type "BaseException", .type "object"],ns:=103,qualname:= "NoWeight",subclasses:=[]},#[some (.ref 95),none,some (.str "NoWeight" 296),some (.str "NoWeight" 304),some (.builtin "ValueError.__new__"),some (.bool true)]⟩)::(nat_lit 116,⟨.type "type",none, .cls { name:= "NoOrder",bases:=[.ref 24],mro:=[.ref 116, .ref 24, .type "ValueError", .type "Exception", .type "BaseException", .type "object"],ns:=115,qualname:= "NoOrder",subclasses:=[]},#[some (.ref 107),none,some (.str "NoOrder" 312),some (.str "NoOrder" 320),some (.builtin "ValueError.__new__"),some (.bool true)]⟩)::(nat_lit 128,⟨.type "type",none, .cls { name:= "Held",bases:=[.ref 24],mro:=[.ref 128, .ref 24, .type "ValueError", .type "Exception", .type "BaseException", .type "object"],ns:=127,qualname:= "Held",subclasses:=[]},#[some (.ref 119),none,some (.str "Held" 328),some (.str "Held" 336),some (.builtin "ValueError.__new__"),some (.bool true)]⟩)::(nat_lit 140,⟨.type "type",none, .cls { name:= "NoDeed",bases:=[.ref 24],mro:=[.ref 140, .ref 24, .type "ValueError", .type "Exception", .type "BaseException", .type "object"],ns:=139,qualname:= "NoDeed",subclasses:=[]},#[some (.ref 131),none,some (.str "NoDeed" 344),some (.str "NoDeed" 352),some (.builtin "ValueError.__new__"),some (.bool true)]⟩)::(nat_lit 152,⟨.type "type",none, .cls { name:= "NoRow",bases:=[.ref 24],mro:=[.ref 152, .ref 24, .type "ValueError", .type "Exception", .type "BaseException", .type "object"],ns:=151,qualname:= "NoRow",subclasses:=[]},#[some (.ref 143),none,some (.str "NoRow" 360),some (.str "NoRow" 368),some (.builtin "ValueError.__new__"),some (.bool true)]⟩)::(nat_lit 158,kC "mask_of" 378 28 1 155 (.none) (.none) 157 381 382)::(nat_lit 159,kF "mask_of" sMask "eachonce.kinds" 376 158)::(nat_lit 163,kC "choices_of" 386 31 1 160 (.none) (.none) 162 389 390)::(nat_lit 164,kF "choices_of" jV "eachonce.coverings" 384 163)::(nat_lit 170,kC "full_mask" 392 36 1 165 (.ref 167) (.ref 168) 169 396 397)::(nat_lit 171,kF "full_mask" sFull "eachonce.coverings" 384 170)::(nat_lit 175,kC "choices_at" 399 38 2 172 (.none) (.none) 174 402 403)::(nat_lit 176,kF "choices_at" sAt "eachonce.coverings" 384 175)::(nat_lit 182,kC "masks_met" 405 41 1 177 (.ref 179) (.ref 180) 181 415 416)::(nat_lit 183,kF "masks_met" sMet "eachonce.coverings" 384 182)::(nat_lit 187,kC "gathered" 418 53 3 184 (.none) (.none) 186 421 422)::(nat_lit 188,kF "gathered" yD "eachonce.coverings" 384 187)::(nat_lit 194,kC "ways_of" 424 62 1 189 (.ref 191) (.ref 192) 193 428 429)::(nat_lit 195,kF "ways_of" y8 "eachonce.coverings" 384 194)::(nat_lit 201,kC "many" 431 64 1 196 (.ref 198) (.ref 199) 200 435 436)::(nat_lit 202,kF "many" sMany "eachonce.coverings" 384 201)::(nat_lit 206,kC "sizes_together" 442 68 1 203 (.none) (.none) 205 445 446)::(nat_lit 207,kF "sizes_together" sSzT "eachonce.counts" 438 206)::(nat_lit 213,kC "sizes" 448 75 1 208 (.ref 210) (.ref 211) 212 452 453)::(nat_lit 214,kF "sizes" jB5 "eachonce.counts" 438 213)::(nat_lit 220,kC "weights" 455 77 1 215 (.ref 217) (.ref 218) 219 461 462)::(nat_lit 221,kF "weights" sWts "eachonce.counts" 438 220)::(nat_lit 227,kC "_law_cell_at" 466 90 2 222 (.ref 224) (.ref 225) 226 471 472)::(nat_lit 228,kF "_law_cell_at" sCell "law_eachonce_k22_more_than_a_thousand" 464 227)::(nat_lit 234,kC "_law_pot" 474 94 1 229 (.ref 231) (.ref 232) 233 481 482)::(nat_lit 235,kF "_law_pot" sPot "law_eachonce_k22_more_than_a_thousand" 464 234)::(nat_lit 241,kC "_law_take" 484 103 2 236 (.ref 238) (.ref 239) 240 490 491)::(nat_lit 242,kF "_law_take" sTake "law_eachonce_k22_more_than_a_thousand" 464 241)::(nat_lit 248,kC "_law_whole" 493 107 1 243 (.ref 245) (.ref 246) 247 497 498)::(nat_lit 249,kF "_law_whole" jBH "law_eachonce_k22_more_than_a_thousand" 464 248)::(nat_lit 253,kC "_law_same" 500 109 2 250 (.none) (.none) 252 503 504)::(nat_lit 254,kF "_law_same" yJ "law_eachonce_k22_more_than_a_thousand" 464 253)::(nat_lit 260,kC "_law_told" 506 121 1 255 (.ref 257) (.ref 258) 259 513 514)::(nat_lit 261,kF "_law_told" yL "law_eachonce_k22_more_than_a_thousand" 464 260)::(nat_lit 265,kC "law" 516 130 1 262 (.none) (.none) 264 519 520)::(nat_lit 266,kF "law" sLaw "law_eachonce_k22_more_than_a_thousand" 464 265)::[]
noncomputable def kA:List Addr:=[3,4,23,24,44,56,67,68,80,92,104,116,128,140,152,158,159,163,164,170,171,175,176,182,183,187,188,194,195,201,202,206,207,213,214,220,221,227,228,234,235,241,242,248,249,253,254,260,261,265,266]
noncomputable def vw:Program:= { PySem.Challenge.pw_eachonce_k22_more_than_a_thousand with main:= { PySem.Challenge.pw_eachonce_k22_more_than_a_thousand.main with body:=[top 1,top 2,top 3,top 4,top 5,top 6,top 7,top 8,top 9,top 10,top 11,top 13,top 15,top 16,top 17,top 18,top 19,top 20,top 21,top 23,top 24,top 25,top 26,top 28,top 29,top 30,top 31,top 32,top 33,top 34]}}
theorem kA_eq:∀ P,kA=(kK P).map (·.1):=fun _=>by kernel_rfl
noncomputable abbrev kH:PySem.W.Hook:=PySem.W.kmHook kK kA kA_eq [190,216]
set_option maxHeartbeats 0 in
theorem left:PySem.W.LeftO PySem.Challenge.rw_eachonce_k22_more_than_a_thousand.prog vw [] (fun s=>PySem.W.xlAt vw [] s&&PySem.W.recOk (PySem.W.RowW.records (PySem.W.OpenRow.toRowW PySem.Challenge.rw_eachonce_k22_more_than_a_thousand.row)) s) (PySem.W.Hook.obs kH) (PySem.W.Hook.val kH) 7100:=fun w=>by kernel_rfl
end Eo
end
section
namespace L2
open PySem PySem.Spec PyProof.Rows
abbrev Key:=Sum Int Str
def keyIs:Key->Value->Bool
 | .inl k,v=>Value.isInt k v
 | .inr x,v=>Value.isStrOf x v
def keyH (w:World):Key->Int
 | .inl k=>hashInt k
 | .inr x=>hashStr w x
theorem jM:∀ {k:Key}{v:Value},keyIs k v=true->(∃ i t,k=Sum.inl i/\v=Value.int i t)\/(∃ x t,k=Sum.inr x/\v=Value.str x t)
 | .inl i,v,h=>by
  obtain⟨t,e⟩:=Value.isInt_shape (k:=i) (v:=v) h
  exact .inl ⟨i,t,rfl,e⟩
 | .inr x,v,h=>by
  obtain⟨t,e⟩:=Value.isStrOf_shape (x:=x) (v:=v) h
  exact .inr ⟨x,t,rfl,e⟩
theorem jKW (i:Int)(t:Tok):keyIs (.inl i) (.int i t)=true:=by simp [keyIs,Value.isInt]
theorem jKV (x:Str)(t:Tok):keyIs (.inr x) (.str x t)=true:=by simp [keyIs,Value.isStrOf]
theorem jSS (a b:Int):decide ((Sum.inl a:Key)=Sum.inl b)=(a==b):=by
 by_cases e:a=b
 ·subst e; simp
 ·have h:¬ (Sum.inl a:Key)=Sum.inl b:=fun q=>e (fK q)
  rw[aR h]
  exact(cR.mpr e).symm
theorem jSP (a b:Str):decide ((Sum.inr a:Key)=Sum.inr b)=decide (a=b):=by
 by_cases e:a=b
 ·subst e; simp
 ·have h:¬ (Sum.inr a:Key)=Sum.inr b:=fun q=>e (Sum.inr.inj q)
  rw[aR h,aR e]
theorem jSR (a:Int)(b:Str):decide ((Sum.inl a:Key)=Sum.inr b)=false:=aR (fun q=>nomatch q)
theorem jSQ (a:Str)(b:Int):decide ((Sum.inr a:Key)=Sum.inl b)=false:=aR (fun q=>nomatch q)
def jK (prog:Program)(w:World):PySem.KeyKind prog w Key where
 is:=keyIs
 hash:=keyH w
 inj:=fun v a b ha hb=>by
  rcases jM ha with ⟨i,t,rfl,rfl⟩ | ⟨x,t,rfl,rfl⟩
  ·rcases jM hb with ⟨j,u,rfl,e⟩ | ⟨y,u,rfl,e⟩
   ·injection e with e1 _; rw[e1]
   ·exact nomatch e
  ·rcases jM hb with ⟨j,u,rfl,e⟩ | ⟨y,u,rfl,e⟩
   ·exact nomatch e
   ·injection e with e1 _; rw[e1]
 byValue:=fun k v h=>by
  rcases jM h with ⟨i,t,rfl,rfl⟩ | ⟨x,t,rfl,rfl⟩ <;> rfl
 pyHash:=fun hv h=>by
  rcases jM hv with ⟨i,t,rfl,rfl⟩ | ⟨x,t,rfl,rfl⟩
  ·exact wpAny_pyHash_int h
  ·exact wpAny_pyHash_str h
 eqBool:=fun hu hv h=>by
  rcases jM hu with ⟨i,t,rfl,rfl⟩ | ⟨x,t,rfl,rfl⟩
  ·rcases jM hv with ⟨j,u,rfl,rfl⟩ | ⟨y,u,rfl,rfl⟩
   ·rw[jSS] at h; exact wpAny_eqBool_int h
   ·rw[jSR] at h; exact SeqAt.EqAt.int_str i t y u _ _ _ _ h
  ·rcases jM hv with ⟨j,u,rfl,rfl⟩ | ⟨y,u,rfl,rfl⟩
   ·rw[jSQ] at h; exact SeqAt.EqAt.str_int x t j u _ _ _ _ h
   ·rw[jSP] at h; exact wpAny_eqBool_str h
 «strs»:=fun k x t v h=>by
  rcases jM h with ⟨i,u,rfl,e⟩ | ⟨y,u,rfl,e⟩
  ·exact nomatch e
  ·injection e with e1 _
   subst e1
   cases v <;> rfl
theorem jGL (prog:Program)(w:World)(i:Int)(t:Tok):(jK prog w).is (.inl i) (.int i t)=true:=jKW i t
theorem jGK (prog:Program)(w:World)(x:Str)(t:Tok):(jK prog w).is (.inr x) (.str x t)=true:=jKV x t
end L2
namespace L2
open PySem PySem.Spec PyProof.Rows
inductive V where
 | non | bl (b:Bool) | int (i:Int) | str (x:Str) | byt (b:Array UInt8) | flt (b:UInt64) | ref (a:Addr) | ty (n:String)
 deriving DecidableEq
def RelV:V->Value->Prop
 | .non,u=>u=Value.none
 | .bl b,u=>u=Value.bool b
 | .int i,u=>∃ t,u=Value.int i t
 | .str x,u=>∃ t,u=Value.str x t
 | .byt b,u=>∃ t,u=Value.bytes b t
 | .flt b,u=>∃ t,u=Value.float b t
 | .ref a,u=>u=Value.ref a
 | .ty n,u=>u=Value.type n
abbrev Vals:List V->List Value->Prop:=Paired RelV
theorem Vals.length {xs:List V}{us:List Value}(r:Vals xs us):xs.length=us.length:=iA r
theorem Vals.get:∀ {xs:List V}{us:List Value}{i:Nat}{x:V},Vals xs us->xs[i]?=some x->∃ u,us[i]?=some u/\RelV x u
 | _,_,_,_, .nil,e=>by simp at e
 | _,_,0,_, .cons r _,e=>by simp at e; subst e; exact⟨_,rfl,r⟩
 | _,_,i+1,x, .cons _ t,e=>by
  obtain⟨u,h1,h2⟩:=Vals.get (i:=i) (x:=x) t (by simpa using e)
  exact⟨u,by simpa using h1,h2⟩
theorem Vals.set {x:V}{u:Value}(r:RelV x u):∀ {xs:List V}{us:List Value}(i:Nat),Vals xs us->Vals (xs.set i x) (us.set i u)
 | _,_,_, .nil=> .nil
 | _,_,0, .cons _ t=> .cons r t
 | _,_,i+1, .cons q t=> .cons q (Vals.set r i t)
theorem Vals.append:∀ {xs ys:List V}{us ws:List Value},Vals xs us->Vals ys ws->Vals (xs++ys) (us++ws)
 | _,_,_,_, .nil,s=>s
 | _,_,_,_, .cons r t,s=> .cons r (Vals.append t s)
theorem Vals.take:∀ {xs:List V}{us:List Value}(n:Nat),Vals xs us->Vals (xs.take n) (us.take n)
 | _,_,0,_=> .nil
 | _,_,_+1, .nil=> .nil
 | _,_,n+1, .cons r t=> .cons r (Vals.take n t)
theorem Vals.drop:∀ {xs:List V}{us:List Value}(n:Nat),Vals xs us->Vals (xs.drop n) (us.drop n)
 | _,_,0,r=>r
 | _,_,_+1, .nil=> .nil
 | _,_,n+1, .cons _ t=>Vals.drop n t
def RelO:Option V->Option Value->Prop
 | some v,some u=>RelV v u
 | none,none=>True
 | _,_=>False
def KV {κ:Type} :List (κ×V)->List (κ×Value)->Prop:=Paired fun (p:κ×V) (q:κ×Value)=>p.1=q.1/\RelV p.2 q.2
noncomputable def kV:Key->V
 | .inl i=> .int i
 | .inr x=> .str x
def TupO (h:Heap)(a:Addr)(items:Array Value):Prop:=∃ n,h.get? a=some { cls:= .type "tuple",data:= .seq items n}
theorem TupO.isTup {h:Heap}{a:Addr}{items:Array Value}(x:TupO h a items):IsTup h a items:=let ⟨n,e⟩:=x; ⟨_,e,rfl,n,rfl⟩
theorem TupO.new (h:Heap)(items:Array Value):TupO (h.push { cls:= .type "tuple",data:= .seq items}) h.objs.size items:=⟨0,aA _ rfl⟩
inductive HO where
  | lst (xs:List V)
  | tup (xs:List V)
  | dK (kvs:List (Key×V)) | dT (kvs:List (List Key×V))
  | set (S:Int->Bool) (n:Nat)
  | ins (C dx:Addr) (fs:List (Str×V))
  | own (x:Addr)
  | xd (fs:List (Str×V))
  | met (f x:Addr)
  | rng (lo hi:Int)
  | frz (o:Obj) (u:HO)
  | tbl (ps:Array Value)
  | ext (φ:Heap->Prop)
abbrev Hp:=Addr->Option HO
def upd (H:Hp)(a:Addr)(o:HO):Hp:=fun b=>if b=a then some o else H b
theorem j9 {H:Hp}{a:Addr}{o:HO} :upd H a o a=some o:=by unfold upd; rw[aq rfl]
theorem j8 {H:Hp}{a b:Addr}{o:HO}(h:b≠a):upd H a o b=H b:=by unfold upd; rw[aj h]
theorem ne_of {H:Hp}{a b:Addr}{o u:HO}(h:H a=some o)(h':H b=some u)(d:o≠u):a≠b:=by
 intro e; subst e; rw[h] at h'; exact d (br h')
theorem jC {H:Hp}{a b:Addr}{o:HO}(h:H a=some o)(h':H b=none):a≠b:=by
 intro e; subst e; rw[h] at h'; cases h'
section
variable (P:Program)(w:World)
def ObjOk (H:Hp)(h:Heap)(a:Addr):HO->Prop
 | .lst xs=>xs.length<=sizeLine/\∃ (its:List Value) (n:Nat),Vals xs its/\h.get? a=some { cls:= .type "list",data:= .seq its.toArray n}
 | .tup xs=>xs.length<=sizeLine/\∃ its:List Value,Vals xs its/\TupO h a its.toArray
 | .dK kvs=>kvs.length<=sizeLine/\(a==sysModules)=false/\∃ vs,KV kvs vs/\h.DictOf (jK P w) a vs
 | .dT kvs=>kvs.length<=sizeLine/\(a==sysModules)=false/\∃ xs:List (List Key×Addr×Value),
   Paired (fun (p:List Key×V) (q:List Key×Addr×Value)=>p.1=q.1/\H q.2.1=some (.tup (p.1.map kV))/\RelV p.2 q.2.2) kvs xs/\
   ∃ o es ep,h.get? a=some o/\o.ExactDict/\o.data= .dict es ep/\es.toList=xs.map (entryOfKey (tupleKind (jK P w)))/\(xs.map (·.1)).Nodup
 | .set S n=>h.SetOf (intKind P w) a S n
 | .ins C dx fs=>H dx=some (.own a)/\fs.length<=1000/\dx≠a/\h.get? a=some (instObj C dx)/\
   ∃ mA,h.Ns1 dx mA/\(∀ f,RelO (fs.lookup f) (mA f))/\PySem.Within mA (fs.map (·.1))
 | .own _=>∃ o,h.get? a=some o
 | .xd fs=>∃ mA,h.Ns1 a mA/\∀ f,RelO (fs.lookup f) (mA f)
 | .rng lo hi=>∃ t u v,h.get? a=some { cls:= .type "range",data:= .fields #[.int lo t, .int hi u, .int 1 v]}
 | .frz o u=>h.get? a=some o/\ObjOk H h a u
 | .tbl ps=>h.get? a=some { cls:= .none,data:= .fields ps}
 | .met f x=>h.get? a=some (methodObj (.ref f) (.ref x))
 | .ext φ=>φ h/\(∃ o,h.get? a=some o)/\∀ h1 h2:Heap,φ h1->(∀ o,h1.get? a=some o->h2.get? a=some o)->φ h2
def HOk (H:Hp)(h:Heap):Prop:=∀ a o,H a=some o->ObjOk P w H h a o
end
section
variable {P:Program}{w:World}{H H':Hp}{h h':Heap}{a:Addr}{o:HO}
theorem ObjOk.lt (x:ObjOk P w H h a o):a<h.objs.size:=by
 cases o with
 | lst xs=>obtain⟨_,_,_,_,e⟩:=x; exact ay e
 | tup xs=>obtain⟨_,_,_,_,e⟩:=x; exact ay e
 | dK kvs=>obtain⟨_,_,_,_,o,_,_,e,_⟩:=x; exact ay e
 | dT kvs=>obtain⟨_,_,_,_,o,_,_,e,_⟩:=x; exact ay e
 | set S n=>obtain⟨o,_,_,_,e,_⟩:=x; exact ay e
 | ins C dx fs=>obtain⟨_,_,_,e,_⟩:=x; exact ay e
 | own y=>obtain⟨_,e⟩:=x; exact ay e
 | xd fs=>obtain⟨_,⟨_,_,_,e,_⟩,_⟩:=x; exact ay e
 | rng lo hi=>obtain⟨_,_,_,e⟩:=x; exact ay e
 | frz ob u=>obtain⟨e,_⟩:=x; exact ay e
 | tbl ps=>exact ay (show h.get? a=some _ from x)
 | met f y=>exact ay (show h.get? a=some _ from x)
 | ext φ=>obtain⟨_,⟨_,e⟩,_⟩:=x; exact ay e
theorem Paired.mapP {α β:Type}{F G:α->β->Prop} :∀ {l₁:List α}{l₂:List β},Paired F l₁ l₂->(∀ a b,F a b->G a b)->Paired G l₁ l₂
 | _,_, .nil,_=> .nil
 | _,_, .cons r t,f=> .cons (f _ _ r) (Paired.mapP t f)
theorem ObjOk.stay (x:ObjOk P w H h a o)(k:∀ b u,(b=a\/H b=some (.own a))->h.get? b=some u->h'.get? b=some u)
  (ho:∀ b,H b=some (.own a)->H' b=some (.own a)) (ht:∀ b xs,H b=some (.tup xs)->H' b=some (.tup xs)):ObjOk P w H' h' a o:=by
 induction o with
 | lst xs=>obtain⟨z,its,n,r,e⟩:=x; exact⟨z,its,n,r,k _ _ (.inl rfl) e⟩
 | tup xs=>obtain⟨z,its,r,n,e⟩:=x; exact⟨z,its,r,n,k _ _ (.inl rfl) e⟩
 | dK kvs=>obtain⟨z,y,vs,r,ob,es,ep,e,c⟩:=x; exact⟨z,y,vs,r,ob,es,ep,k _ _ (.inl rfl) e,c⟩
 | dT kvs=>
  obtain⟨z,y,xs,r,ob,es,ep,e,c⟩:=x
  exact⟨z,y,xs,Paired.mapP r fun p q z=>⟨z.1,ht _ _ z.2.1,z.2.2⟩,ob,es,ep,k _ _ (.inl rfl) e,c⟩
 | set S n=>obtain⟨ob,es,ep,t,e,c⟩:=x; exact⟨ob,es,ep,t,k _ _ (.inl rfl) e,c⟩
 | ins C dx fs=>
  obtain⟨d,z,ne,e,mA,⟨od,es,ep,e2,c⟩,r⟩:=x
  exact⟨ho _ d,z,ne,k _ _ (.inl rfl) e,mA,⟨od,es,ep,k _ _ (.inr d) e2,c⟩,r⟩
 | own y=>obtain⟨ob,e⟩:=x; exact⟨ob,k _ _ (.inl rfl) e⟩
 | xd fs=>obtain⟨mA,⟨od,es,ep,e,c⟩,r⟩:=x; exact⟨mA,⟨od,es,ep,k _ _ (.inl rfl) e,c⟩,r⟩
 | rng lo hi=>obtain⟨t,u,v,e⟩:=x; exact⟨t,u,v,k _ _ (.inl rfl) e⟩
 | frz ob u ih=>obtain⟨e,q⟩:=x; exact⟨k _ _ (.inl rfl) e,ih q⟩
 | tbl ps=>
  have e:h.get? a=some { cls:= .none,data:= .fields ps} :=x
  show h'.get? a=some { cls:= .none,data:= .fields ps}
  exact k a _ (.inl rfl) e
 | met f y=>
  have e:h.get? a=some (methodObj (.ref f) (.ref y)):=x
  show h'.get? a=some (methodObj (.ref f) (.ref y))
  exact k a _ (.inl rfl) e
 | ext φ=>obtain⟨p,⟨o,e⟩,st⟩:=x; exact⟨st _ _ p fun o q=>k _ _ (.inl rfl) q,⟨o,k _ _ (.inl rfl) e⟩,st⟩
theorem HOk.lt (x:HOk P w H h)(e:H a=some o):a<h.objs.size:=(x a o e).lt
theorem HOk.fresh (x:HOk P w H h)(e:h.objs.size<=a):H a=none:=by
 cases q:H a with
 | none=>rfl
 | some u=>exact absurd (bi (x.lt q) e) (cG _)
theorem HOk.kept (x:HOk P w H h)(k:∀ b u,h.get? b=some u->h'.get? b=some u):HOk P w H h':=fun a o e=>
 (x a o e).stay (fun b u _ q=>k b u q) (fun _ q=>q) fun _ _ q=>q
theorem HOk.laid (x:HOk P w H h)(k:∀ b u,h.get? b=some u->h'.get? b=some u)(hp:h.objs.size<=a)(new:ObjOk P w (upd H a o) h' a o):HOk P w (upd H a o) h':=fun b u e=>by
 have hn:=x.fresh hp
 by_cases hb:b=a
 ·subst hb; rw[j9] at e; cases e; exact new
 ·rw[j8 hb] at e
  exact(x b u e).stay (fun c v _ q=>k c v q) (fun c q=>by rw[j8 (jC q hn)]; exact q) fun c xs q=>by rw[j8 (jC q hn)]; exact q
end
def Rd (H:Hp)(a:Addr)(u:HO):Prop:=H a=some u\/∃ o,H a=some (.frz o u)
theorem Rd.ok {P:Program}{w:World}{H:Hp}{h:Heap}{a:Addr}{u:HO}(r:Rd H a u)(x:HOk P w H h):ObjOk P w H h a u:=by
 rcases r with r | ⟨o,r⟩
 ·exact x a u r
 ·obtain⟨_,q⟩:=x a _ r
  exact q
def Mut:Option HO->Prop
 | some (.lst _)=>True
 | some (.dK _)=>True
 | some (.dT _)=>True
 | some (.set _ _)=>True
 | some (.ins _ _ _)=>True
 | some (.ext _)=>True
 | _=>False
section
variable {P:Program}{w:World}{H:Hp}{h h':Heap}{x e:Addr}{o':HO}
theorem HOk.write (ok:HOk P w H h)(mu:Mut (H x))(he:e=x\/H e=some (.own x))(k:∀ b u,b≠e->h.get? b=some u->h'.get? b=some u)(heo:∃ u,h'.get? e=some u)
  (new:ObjOk P w (upd H x o') h' x o'):HOk P w (upd H x o') h':=fun b u q=>by
 have nown:∀ c y,H c=some (.own y)->c≠x:=fun c y r z=>by subst z; rw[r] at mu; exact mu
 have ntup:∀ c xs,H c=some (.tup xs)->c≠x:=fun c xs r z=>by subst z; rw[r] at mu; exact mu
 by_cases hb:b=x
 ·subst hb; rw[j9] at q; cases q; exact new
 ·rw[j8 hb] at q
  by_cases hbe:b=e
  ·have q':H b=some (.own x):=by
    rcases he with z | z
    ·exact absurd (hbe.trans z) hb
    ·rw[hbe]; exact z
   rw[q] at q'; cases q'
   obtain⟨v,hv⟩:=heo
   exact⟨v,by rw[hbe]; exact hv⟩
  ·refine(ok b u q).stay (fun c v hc r=>k c v ?_ r) (fun c r=>by rw[j8 (nown c b r)]; exact r) fun c xs r=>by rw[j8 (ntup c xs r)]; exact r
   rcases hc with rfl | hc
   ·exact hbe
   ·rintro rfl
    rcases he with z | z
    ·exact nown c b hc z
    ·rw[hc] at z; cases z; exact hb rfl
end
structure Un (fs ex:List Addr)(H H':Hp)(h h':Heap):Prop where
 keep:∀ b o,h.get? b=some o->H b=none->b∉fs->b∉ex->h'.get? b=some o
 slot:∀ b o,h.get? b=some o->H b=none->b∈fs->b∉ex->∃ sl,h'.get? b=some { o with slots:=sl}
 free:∀ b o,h.get? b=some o->H b=none->b∉ex->H' b=none
 there:∀ b o,h.get? b=some o->b∉ex->∃ o',h'.get? b=some o'
 tups:∀ b xs,H b=some (.tup xs)->H' b=some (.tup xs)
 frzs:∀ b o u,H b=some (.frz o u)->H' b=some (.frz o u)
 tbls:∀ b ps,H b=some (.tbl ps)->∃ more,H' b=some (.tbl (ps++more))
section
variable {fs fs' ex ex':List Addr}{H H1 H2:Hp}{h h1 h2 h':Heap}{a x e:Addr}{o:HO}
theorem Un.any (u:Un fs ex H H1 h h1){b:Addr}{ob:Obj}(q:h.get? b=some ob)(n:H b=none)(hx:b∉ex):∃ sl,h1.get? b=some { ob with slots:=sl} :=by
 by_cases hb:b∈fs
 ·exact u.slot b ob q n hb hx
 ·exact⟨ob.slots,u.keep b ob q n hb hx⟩
theorem Un.kept (k:∀ b u,h.get? b=some u->h'.get? b=some u):Un fs ex H H h h':=
 ⟨fun b ob q _ _ _=>k b ob q,fun b ob q _ _ _=>⟨ob.slots,k b ob q⟩,fun _ _ _ n _=>n,fun b ob q _=>⟨ob,k b ob q⟩,fun _ _ q=>q,fun _ _ _ q=>q,fun _ ps q=>⟨#[],by rw[q]; simp⟩⟩
theorem Un.refl:Un fs ex H H h h:=Un.kept fun _ _ q=>q
theorem Un.laid (k:∀ b u,h.get? b=some u->h'.get? b=some u)(hp:h.objs.size<=a)(hn:H a=none):Un fs ex H (upd H a o) h h' where
 keep:=fun b u q _ _ _=>k b u q
 slot:=fun b u q _ _ _=>⟨u.slots,k b u q⟩
 free:=fun b u q n _=>by rw[j8 (aV (bi (ay q) hp))]; exact n
 there:=fun b u q _=>⟨u,k b u q⟩
 tups:=fun b xs q=>by rw[j8 (jC q hn)]; exact q
 frzs:=fun b u xs q=>by rw[j8 (jC q hn)]; exact q
 tbls:=fun b ps q=>⟨#[],by rw[j8 (jC q hn),q]; simp⟩
theorem Un.write (mu:Mut (H x))(he:e=x\/H e=some (.own x))(k:∀ b u,b≠e->h.get? b=some u->h'.get? b=some u)(heo:∃ u,h'.get? e=some u):Un fs ex H (upd H x o) h h':=by
 have hx:∀ b,H b=none->b≠x:=fun b n z=>by subst z; rw[n] at mu; exact mu
 have hb:∀ b,H b=none->b≠e:=fun b n z=>by
  subst z
  rcases he with r | r
  ·exact hx b n r
  ·rw[n] at r; cases r
 have hm:∀ b u,H b=some u->¬ Mut (some u)->b≠x:=fun b u q nm z=>by subst z; rw[q] at mu; exact nm mu
 refine⟨fun b u q n _ _=>k b u (hb b n) q,fun b u q n _ _=>⟨u.slots,k b u (hb b n) q⟩,fun b u q n _=>by rw[j8 (hx b n)]; exact n,fun b u q _=>?_,
  fun b xs q=>by rw[j8 (hm b _ q fun z=>z)]; exact q,fun b u xs q=>by rw[j8 (hm b _ q fun z=>z)]; exact q,fun b ps q=>⟨#[],by rw[j8 (hm b _ q fun z=>z),q]; simp⟩⟩
 by_cases hbe:b=e
 ·subst hbe; exact heo
 ·exact⟨u,k b u hbe q⟩
end
def trk (h:Heap)(H:Hp):List Addr:=(List.range h.objs.size).filter fun a=>(H a).isSome
def hidT (h:Heap)(H:Hp):Heap:=PySem.W.hideAll h (trk h H)
theorem jLE (h:Heap)(H:Hp):(hidT h H).objs.size=h.objs.size:=PySem.W.hideAll_size _ _
theorem jNG {h:Heap}{H:Hp}{b:Addr}{o:Obj}(e:h.get? b=some o)(n:H b=none):(hidT h H).get? b=some o:=
 PySem.W.hideAll_get _ e fun hm=>by
  have q:(H b).isSome=true:=(cU.mp hm).2
  rw[n] at q; simp at q
theorem jQ7 {h:Heap}{H:Hp}{b:Addr}{o:Obj}(e:(hidT h H).get? b=some o):h.get? b=some o/\H b=none:=by
 have e':h.get? b=some o:=PySem.W.of_hideAll (trk h H) e
 refine⟨e',?_⟩
 cases q:H b with
 | none=>rfl
 | some x=>
  have hm:b∈trk h H:=cU.mpr ⟨cH.mpr (ay e'),by simp [q]⟩
  have z:(hidT h H).get? b=none:=PySem.W.hideAll_none (trk h H) hm
  rw[z] at e; cases e
end L2
namespace L2
open PySem PySem.Spec PyProof.Rows
structure Mod (K:W.Frag)(mg:Str->Option Value)(base:Heap):Prop where
 kin:K.In base
 glob:base.Ns mainGlobals mg
 blt:∃ mb,base.Ns builtinsNs mb/\∀ x:Str,x≠ "__name__" ->mb x=bootBuiltins x
 nolimit:base.NoLimit
structure Cx where
 prog:Program
 w:World
 K:W.Frag
 mg:Str->Option Value
 base:Heap
 A:Around
 N:List Str
 s₀:Shared
 H₀:Hp
 env:Env
 outer:List Env
 stack:List Env
 ex:List Addr
 fn:Str->Bool
 calm:Bool
 pn:List (Addr×Obj)
 xe:Value->Shared->Prop
def frs (l:List Env):List Addr:=l.filterMap (·.frame)
abbrev Cx.fs (X:Cx):List Addr:=frs X.outer
def Vis (sc:Scope)(x:Str):Prop:=sc.names.lookup x=some .local\/sc.names.lookup x=some .cell\/sc.names.lookup x=some .free
def Loc (sc:Scope)(x:Str):Prop:=sc.names.lookup x=some .local\/sc.names.lookup x=some .cell
def Look (env:Env)(h:Heap)(m:Str->Option Value)(x:Str)(u:Value):Prop:=
 (env.kindOf x=some .local/\m x=some u)\/((env.kindOf x=some .cell\/env.kindOf x=some .free)/\∃ c,env.cells.lookup x=some c/\h.IsCell c (some u))
structure Cx.Ok (X:Cx):Prop where
 mod:Mod X.K X.mg X.base
 kind:X.env.scope.kind= .function
 glob:X.env.globals=mainGlobals
 blt:X.env.builtins=builtinsNs
 above:X.s₀.heap.objs.size<=X.env.locals
 inj:∀ x y c,X.env.cells.lookup x=some c->X.env.cells.lookup y=some c->x=y
 has:∀ x,(X.env.kindOf x=some .cell\/X.env.kindOf x=some .free)->∃ c,X.env.cells.lookup x=some c
 cab:∀ x c,X.fn x=true->X.env.cells.lookup x=some c->X.s₀.heap.objs.size<=c
 hd:X.calm=true->X.A.handled=none
 frames:X.A.frames=some X.stack
 stk:X.stack=X.outer\/(X.stack=X.env::X.outer/\X.env.frame=some X.env.locals)
 exf:∀ b∈X.ex,b≠X.env.locals/\∀ x c,X.env.cells.lookup x=some c->c≠b
 bs:∀ b o,X.base.get? b=some o->X.s₀.heap.get? b=some o/\X.H₀ b=none
 bsz:X.base.objs.size<=X.s₀.heap.objs.size
 noex:∀ b o,X.base.get? b=some o->b∉X.ex
 exfs:∀ b∈X.ex,b∉X.fs
 funs:X.s₀.heap.FunFrames X.base X.outer
 frf:∀ b∈X.fs,X.H₀ b=none
structure Inv (X:Cx)(pins:List (Addr×Obj))(σ:List (Option V))(H:Hp)(s:Shared):Prop where
 ok:X.Ok
 os:s.os=X.s₀.os
 bare:AllBare s.gens
 base:Un X.fs X.ex X.H₀ H X.s₀.heap s.heap
 loc:∃ m,s.heap.Ns X.env.locals m/\∀ (i:Nat) (x:Str) (v:V),X.N[i]?=some x->σ[i]?=some (some v)->Vis X.env.scope x->∃ u,RelV v u/\Look X.env s.heap m x u
 cell:∀ x c,X.env.cells.lookup x=some c->∃ v,s.heap.IsCell c v
 free:H X.env.locals=none
 freeC:∀ x c,X.env.cells.lookup x=some c->H c=none
 pin:∀ p∈X.pn++pins,s.heap.get? p.1=some p.2/\H p.1=none/\p.1≠X.env.locals/\p.1∉X.fs/\∀ v,p.2.data≠ .cell v
 hok:HOk X.prog X.w H s.heap
 len:σ.length=X.N.length
section
variable {X:Cx}{pins:List (Addr×Obj)}{σ:List (Option V)}{H H':Hp}{s:Shared}{h':Heap}
theorem Cx.Ok.nofr (ok:X.Ok){b:Addr}{o:Obj}(e:X.base.get? b=some o):b∉X.fs:=fun hb=>by
 have:=(ok.funs.mem hb).1
 rw[e] at this; cases this
theorem Inv.bs (I:Inv X pins σ H s):∀ b o,X.base.get? b=some o->s.heap.get? b=some o/\H b=none:=fun b o e=>
 ⟨I.base.keep b o (I.ok.bs b o e).1 (I.ok.bs b o e).2 (I.ok.nofr e) (I.ok.noex b o e),I.base.free b o (I.ok.bs b o e).1 (I.ok.bs b o e).2 (I.ok.noex b o e)⟩
theorem Inv.bk (I:Inv X pins σ H s):∀ b o,X.base.get? b=some o->s.heap.get? b=some o:=fun b o e=>(I.bs b o e).1
theorem Inv.mod (I:Inv X pins σ H s):Mod X.K X.mg X.base:=I.ok.mod
theorem Inv.kIn (I:Inv X pins σ H s):X.K.In s.heap:=I.ok.mod.kin.keeps I.bk
theorem Inv.lt (I:Inv X pins σ H s):X.env.locals<s.heap.objs.size:=let ⟨_,hn,_⟩:=I.loc; hn.lt
theorem Inv.sz (I:Inv X pins σ H s):X.s₀.heap.objs.size<=s.heap.objs.size:=bA I.ok.above (cM I.lt)
theorem Inv.nofs (I:Inv X pins σ H s){a:Addr}(h:s.heap.objs.size<=a):a∉X.fs:=fun hb=>by
 obtain⟨_,o,ho,_⟩:=I.ok.funs.mem hb
 exact absurd (bi (ay ho) (bA I.sz h)) (cG _)
theorem Inv.cne (I:Inv X pins σ H s):∀ x c,X.env.cells.lookup x=some c->c≠X.env.locals:=fun x c e z=>by
 obtain⟨v,o,ho,hd⟩:=I.cell x c e
 obtain⟨m,⟨o',es,ep,ho',hd',_⟩,_⟩:=I.loc
 rw[z,ho'] at ho; cases ho; rw[hd'] at hd; cases hd
theorem Inv.funs (I:Inv X pins σ H s):s.heap.FunFrames X.base X.outer:=by
 have all:∀ (l:List Env),(∀ b∈frs l,b∈X.fs)->X.s₀.heap.FunFrames X.base l->s.heap.FunFrames X.base l:=by
  intro l
  induction l with
  | nil=>intro _ _; trivial
  | cons env r ih=>
   intro hs hl
   obtain⟨hk,⟨L,o,hf,hn,ho,hd⟩,hr⟩:=hl
   have hL:L∈X.fs:=hs L (by unfold frs; rw[cS,hf]; exact ak)
   obtain⟨sl,e⟩:=I.base.slot L o ho (I.ok.frf L hL) hL fun z=>I.ok.exfs L z hL
   exact⟨hk,⟨L,_,hf,hn,e,hd⟩,ih (fun b hb=>hs b (by unfold frs; rw[cS,hf]; exact ai _ hb)) hr⟩
 exact all X.outer (fun _ hb=>hb) I.ok.funs
theorem Inv.stack (I:Inv X pins σ H s):s.heap.FunFrames X.base X.stack:=by
 rcases I.ok.stk with e | ⟨e,hf⟩
 ·rw[e]; exact I.funs
 ·rw[e]
  obtain⟨m,hn,_⟩:=I.loc
  refine .cons (by rw[I.ok.kind]; decide) hf hn ?_ I.funs
  exact Heap.get?_none_of_le (bA I.ok.bsz I.ok.above)
theorem Inv.stkSub (I:Inv X pins σ H s):∀ b∈frs X.stack,b∈X.env.locals::X.fs:=fun b hb=>by
 rcases I.ok.stk with e | ⟨e,hf⟩
 ·rw[e] at hb; exact ai _ hb
 ·rw[e] at hb
  unfold frs at hb
  rw[cS,hf] at hb
  exact hb
theorem Inv.stkFree (I:Inv X pins σ H s):∀ b∈frs X.stack,H b=none:=fun b hb=>by
 rcases az.mp (I.stkSub b hb) with e | hb
 ·rw[e]; exact I.free
 ·obtain⟨_,o,ho,_⟩:=I.ok.funs.mem hb
  exact I.base.free b o ho (I.ok.frf b hb) fun z=>I.ok.exfs b z hb
theorem Inv.step {g':Array GenState}{t':Nat}{d':Drawn}{ch:List Addr}(I:Inv X pins σ H s)
  (hch:∀ b∈ch,(b∈X.ex\/X.s₀.heap.objs.size<=b)/\b≠X.env.locals/\(∀ x c,X.env.cells.lookup x=some c->c≠b)/\∀ p∈X.pn++pins,p.1≠b)
  (keep:∀ b o,b≠X.env.locals->b∉X.fs->b∉ch->s.heap.get? b=some o->H b=none->h'.get? b=some o)
  (slot:∀ b o,b≠X.env.locals->b∈X.fs->b∉ch->s.heap.get? b=some o->H b=none->∃ sl,h'.get? b=some { o with slots:=sl}) (free:∀ b o,b∉ch->s.heap.get? b=some o->H b=none->H' b=none)
  (there:∀ b o,b∉ch->s.heap.get? b=some o->∃ o',h'.get? b=some o')
  (tups:∀ b xs,H b=some (.tup xs)->H' b=some (.tup xs)) (frzs:∀ b o u,H b=some (.frz o u)->H' b=some (.frz o u)) (tbls:∀ b ps,H b=some (.tbl ps)->∃ more,H' b=some (.tbl (ps++more)))
  (ns:∀ m,s.heap.Ns X.env.locals m->h'.Ns X.env.locals m) (hok:HOk X.prog X.w H' h') (hg:AllBare g'):
  Inv X pins σ H' { s with heap:=h',gens:=g',drawn:=d',toks:=t'} :=by
 have neL:∀ b o,X.s₀.heap.get? b=some o->b≠X.env.locals:=fun b o e=>aV (bi (ay e) I.ok.above)
 have neC:∀ b o,X.s₀.heap.get? b=some o->b∉X.ex->b∉ch:=fun b o e hx hb=>by
  rcases (hch b hb).1 with z | z
  ·exact hx z
  ·exact absurd (bi (ay e) z) (cG _)
 have cellK:∀ x c,X.env.cells.lookup x=some c->∀ v,s.heap.IsCell c v->h'.IsCell c v:=fun x c e v ⟨o,ho,hd⟩=>by
  have nch:c∉ch:=fun z=>(hch c z).2.2.1 x c e rfl
  by_cases hc:c∈X.fs
  ·obtain⟨sl,q⟩:=slot c o (I.cne x c e) hc nch ho (I.freeC x c e)
   exact⟨_,q,hd⟩
  ·exact⟨o,keep c o (I.cne x c e) hc nch ho (I.freeC x c e),hd⟩
 refine⟨I.ok,I.os,hg,⟨fun b o e n hb hx=>?_,fun b o e n hb hx=>?_,fun b o e n hx=>?_,fun b o e hx=>?_,fun b xs e=>tups b xs (I.base.tups b xs e),fun b o xs e=>frzs b o xs (I.base.frzs b o xs e),fun b ps e=>?_⟩,?_,fun x c e=>?_,?_,fun x c e=>?_,fun p hp=>?_,hok,I.len⟩
 ·exact keep b o (neL b o e) hb (neC b o e hx) (I.base.keep b o e n hb hx) (I.base.free b o e n hx)
 ·obtain⟨sl,e1⟩:=I.base.slot b o e n hb hx
  obtain⟨sl',e2⟩:=slot b _ (neL b o e) hb (neC b o e hx) e1 (I.base.free b o e n hx)
  exact⟨sl',e2⟩
 ·obtain⟨o',e1⟩:=I.base.there b o e hx
  exact free b o' (neC b o e hx) e1 (I.base.free b o e n hx)
 ·obtain⟨o',e1⟩:=I.base.there b o e hx
  exact there b o' (neC b o e hx) e1
 ·obtain⟨m1,e1⟩:=I.base.tbls b ps e
  obtain⟨m2,e2⟩:=tbls b _ e1
  exact⟨m1++m2,by rw[e2,jt]⟩
 ·obtain⟨m,hn,hl⟩:=I.loc
  refine⟨m,ns m hn,fun i x v e1 e2 e3=>?_⟩
  obtain⟨u,r,l⟩:=hl i x v e1 e2 e3
  refine⟨u,r,?_⟩
  rcases l with l | ⟨k,c,e,z⟩
  ·exact .inl l
  ·exact .inr ⟨k,c,e,cellK x c e _ z⟩
 ·obtain⟨v,z⟩:=I.cell x c e
  exact⟨v,cellK x c e v z⟩
 ·obtain⟨m,⟨o,_,_,ho,_⟩,_⟩:=I.loc
  exact free _ o (fun z=>(hch _ z).2.1 rfl) ho I.free
 ·obtain⟨v,o,ho,hd⟩:=I.cell x c e
  exact free c o (fun z=>(hch c z).2.2.1 x c e rfl) ho (I.freeC x c e)
 ·obtain⟨e,n,ne,nf,d⟩:=I.pin p hp
  have nch:p.1∉ch:=fun z=>(hch p.1 z).2.2.2 p hp rfl
  exact⟨keep p.1 p.2 ne nf nch e n,free p.1 p.2 nch e n,ne,nf,d⟩
theorem Inv.un {t':Nat}(I:Inv X pins σ H s)(u:Un X.fs [] H H' s.heap h')(hok:HOk X.prog X.w H' h'):Inv X pins σ H' { s with heap:=h',toks:=t'} :=by
 obtain⟨m,⟨o,es,ep,ho,r⟩,_⟩:=id I.loc
 obtain⟨sl,hL⟩:=u.any ho I.free (by simp)
 exact I.step (g':=s.gens) (d':=s.drawn) (ch:=[]) (fun _ z=>nomatch z) (fun b o _ hb _ e n=>u.keep b o e n hb (by simp)) (fun b o _ hb _ e n=>u.slot b o e n hb (by simp)) (fun b o _ e n=>u.free b o e n (by simp)) (fun b o _ e=>u.there b o e (by simp)) u.tups u.frzs u.tbls (fun m' hm=>by
  obtain⟨o',es',ep',ho',r'⟩:=hm
  rw[ho] at ho'; cases ho'
  exact⟨_,es',ep',hL,r'⟩) hok I.bare
theorem Inv.call {g':Array GenState}{t':Nat}{d':Drawn}{ch:List Addr}(I:Inv X pins σ H s)(u:Un (frs X.stack) ch H H' s.heap h')(hok:HOk X.prog X.w H' h')(hg:AllBare g')
  (hch:∀ b∈ch,(b∈X.ex\/X.s₀.heap.objs.size<=b)/\b≠X.env.locals/\(∀ x c,X.env.cells.lookup x=some c->c≠b)/\∀ p∈X.pn++pins,p.1≠b):
  Inv X pins σ H' { s with heap:=h',gens:=g',drawn:=d',toks:=t'} :=by
 obtain⟨m,⟨o,es,ep,ho,r⟩,_⟩:=id I.loc
 obtain⟨sl,hL⟩:=u.any ho I.free fun z=>(hch _ z).2.1 rfl
 exact I.step (ch:=ch) hch (fun b o hL hb hc e n=>u.keep b o e n (fun z=>(az.mp (I.stkSub b z)).elim hL hb) hc) (fun b o _ _ hc e n=>u.any e n hc) (fun b o hc e n=>u.free b o e n hc) (fun b o hc e=>u.there b o e hc) u.tups u.frzs u.tbls (fun m' hm=>by
  obtain⟨o',es',ep',ho',r'⟩:=hm
  rw[ho] at ho'; cases ho'
  exact⟨_,es',ep',hL,r'⟩) hok hg
theorem Inv.turned {t':Nat}{it:Addr}(I:Inv X pins σ H s)(k:∀ b o,b≠it->s.heap.get? b=some o->h'.get? b=some o)(hn:H it=none)(hL:it≠X.env.locals)
  (h1:it∈X.ex\/X.s₀.heap.objs.size<=it) (h2:∀ x c,X.env.cells.lookup x=some c->c≠it) (h3:∀ p∈X.pn++pins,p.1≠it):Inv X pins σ H { s with heap:=h',toks:=t'} :=by
 have nit:∀ b u,H b=some u->b≠it:=fun b u e z=>by rw[z,hn] at e; cases e
 refine I.step (g':=s.gens) (d':=s.drawn) (ch:=[it]) (fun b hb=>?_) (fun b o _ _ hc e _=>k b o (fun z=>hc (by simp [z])) e) (fun b o _ _ hc e _=>⟨o.slots,k b o (fun z=>hc (by simp [z])) e⟩) (fun _ _ _ _ n=>n)
  (fun b o hc e=>⟨o,k b o (fun z=>hc (by simp [z])) e⟩) (fun _ _ e=>e) (fun _ _ _ e=>e) (fun b ps e=>⟨#[],by rw[e]; simp⟩) (fun m hm=>?_) (fun b u e=>?_) I.bare
 ·have e:b=it:=by simpa using hb
  subst e
  exact⟨h1,hL,h2,h3⟩
 ·obtain⟨o,es,ep,ho,r⟩:=hm
  exact⟨o,es,ep,k _ o (cF hL) ho,r⟩
 ·refine(I.hok b u e).stay (fun c v hc q=>k c v ?_ q) (fun _ q=>q) fun _ _ q=>q
  rcases hc with z | z
  ·rw[z]; exact nit b u e
  ·exact nit c _ z
theorem Inv.tok (I:Inv X pins σ H s)(t:Nat):Inv X pins σ H { s with toks:=t} :=I.un (h':=s.heap) (t':=t) Un.refl I.hok
theorem Inv.kept {t':Nat}(I:Inv X pins σ H s)(k:∀ b u,s.heap.get? b=some u->h'.get? b=some u):Inv X pins σ H { s with heap:=h',toks:=t'} :=I.un (Un.kept k) (I.hok.kept k)
theorem Inv.laid {a:Addr}{o:HO}{t':Nat}(I:Inv X pins σ H s)(k:∀ b u,s.heap.get? b=some u->h'.get? b=some u)(hp:s.heap.objs.size<=a)(new:ObjOk X.prog X.w (upd H a o) h' a o):
  Inv X pins σ (upd H a o) { s with heap:=h',toks:=t'} :=I.un (Un.laid k hp (I.hok.fresh hp)) (I.hok.laid k hp new)
theorem Inv.write {x e:Addr}{o:HO}{t':Nat}(I:Inv X pins σ H s)(mu:Mut (H x))(he:e=x\/H e=some (.own x))(k:∀ b u,b≠e->s.heap.get? b=some u->h'.get? b=some u)(heo:∃ u,h'.get? e=some u)
  (new:ObjOk X.prog X.w (upd H x o) h' x o):Inv X pins σ (upd H x o) { s with heap:=h',toks:=t'} :=I.un (Un.write mu he k heo) (I.hok.write mu he k heo new)
theorem Inv.pins_of {pins':List (Addr×Obj)}(I:Inv X pins σ H s)(h:∀ p∈pins',s.heap.get? p.1=some p.2/\H p.1=none/\p.1≠X.env.locals/\p.1∉X.fs/\∀ v,p.2.data≠ .cell v):Inv X pins' σ H s:=
 ⟨I.ok,I.os,I.bare,I.base,I.loc,I.cell,I.free,I.freeC,fun p hp=>(aU.mp hp).elim (fun z=>I.pin p (be _ z)) (h p),I.hok,I.len⟩
theorem jHM {N:List Str}(hN:N.Nodup){i j:Nat}{x:Str}(a:N[i]?=some x)(b:N[j]?=some x):i=j:=by
 obtain⟨h1,e1⟩:=ar.mp a
 obtain⟨h2,e2⟩:=ar.mp b
 exact(List.getElem_inj hN).mp (e1.trans e2.symm)
theorem jF2 {M:Model}{A:Around}{E:Value->Shared->Prop}{i:Nat}{x:Str}{v:V}{u:Value}{Q:Unit->Shared->Prop}(I:Inv X pins σ H s)(hN:X.N.Nodup)(hi:X.N[i]?=some x)(hx:Loc X.env.scope x)(r:RelV v u)
  (h:∀ s',Inv X pins (σ.set i (some v)) H s'->(∃ a,Heap.SameBut a s.heap s'.heap/\(a=X.env.locals\/X.env.cells.lookup x=some a))->Q () s') (hf:X.fn x=true\/X.env.scope.names.lookup x=some .local:=by first | exact .inl rfl | exact .inr rfl | assumption):wpAny M A (storeName X.env x u) Q E s:=by
 obtain⟨m,hn,hl⟩:=id I.loc
 have hcls:(X.env.scope.kind== .class || (X.env.scope.kind== .module&&X.env.locals != X.env.globals))=false:=by rw[I.ok.kind]; rfl
 have hiσ:i<σ.length:=by rw[I.len]; exact(ar.mp hi).1
 have cne:=I.cne
 have tracked:∀ {a:Addr}{h':Heap},(∃ o,s.heap.get? a=some o/\H a=none)->Heap.SameBut a s.heap h'->HOk X.prog X.w H h':=fun {a h'} ha hs b ob e=>by
  obtain⟨_,_,hfree⟩:=ha
  refine(I.hok b ob e).stay (fun c w' hc q=>(hs.2 c ?_).trans q) (fun _ q=>q) fun _ _ q=>q
  rintro rfl
  rcases hc with rfl | hc
  ·rw[hfree] at e; cases e
  ·rw[hfree] at hc; cases hc
 rcases hx with hk | hk
 ·refine wpAny_storeName_local hk hn (fun h' hn' hs=>?_) hcls
  obtain⟨oL,_,_,hoL,_⟩:=id hn
  refine h _ ⟨I.ok,I.os,I.bare,⟨fun b o e n hb hx=>?_,fun b o e n hb hx=>?_,I.base.free,fun b o e hx=>?_,I.base.tups,I.base.frzs,I.base.tbls⟩,⟨_,hn',fun j y v' e1 e2 e3=>?_⟩,fun y c e=>?_,I.free,I.freeC,fun p hp=>?_,tracked ⟨oL,hoL,I.free⟩ hs,by simpa using I.len⟩ ⟨_,hs, .inl rfl⟩
  ·exact(hs.2 b (aV (bi (ay e) I.ok.above))).trans (I.base.keep b o e n hb hx)
  ·obtain⟨sl,e1⟩:=I.base.slot b o e n hb hx
   exact⟨sl,(hs.2 b (aV (bi (ay e) I.ok.above))).trans e1⟩
  ·obtain⟨o',e1⟩:=I.base.there b o e hx
   exact⟨o',(hs.2 b (aV (bi (ay e) I.ok.above))).trans e1⟩
  ·by_cases hj:j=i
   ·subst hj
    rw[hi] at e1; cases e1
    rw[fX hiσ] at e2
    cases e2
    exact⟨u,r, .inl ⟨hk,by simp⟩⟩
   ·rw[gE (cF hj)] at e2
    obtain⟨u',r',q⟩:=hl j y v' e1 e2 e3
    refine⟨u',r',?_⟩
    rcases q with ⟨k,e⟩ | ⟨k,c,e,z⟩
    ·refine .inl ⟨k,?_⟩
     have:y≠x:=fun e=>hj (jHM hN e1 (e ▸ hi))
     simp [this,e]
    ·exact .inr ⟨k,c,e,z.sameBut hs (cne y c e)⟩
  ·obtain⟨w',z⟩:=I.cell y c e
   exact⟨w',z.sameBut hs (cne y c e)⟩
  ·obtain⟨e,n,ne,nf,d⟩:=I.pin p hp
   exact⟨(hs.2 p.1 ne).trans e,n,ne,nf,d⟩
 ·have hfn:X.fn x=true:=by
   rcases hf with z | z
   ·exact z
   ·rw[z] at hk; cases hk
  obtain⟨c,hc⟩:=I.ok.has x (.inl hk)
  obtain⟨w',z⟩:=I.cell x c hc
  refine wpAny_storeName_cell I.ok.kind hk hc z (fun h' hc' hs=>?_)
  obtain⟨oc,hoc,hocd⟩:=id z
  refine h { s with heap:=h'} ⟨I.ok,I.os,I.bare,⟨fun b o e n hb hx=>?_,fun b o e n hb hx=>?_,I.base.free,fun b o e hx=>?_,I.base.tups,I.base.frzs,I.base.tbls⟩,⟨m,hn.sameBut hs (cF (cne x c hc)),fun j y v' e1 e2 e3=>?_⟩,fun y c' e=>?_,I.free,I.freeC,fun p hp=>?_,tracked ⟨oc,hoc,I.freeC x c hc⟩ hs,by simpa using I.len⟩ ⟨c,hs, .inr hc⟩
  ·exact(hs.2 b (aV (bi (ay e) (I.ok.cab x c hfn hc)))).trans (I.base.keep b o e n hb hx)
  ·obtain⟨sl,e1⟩:=I.base.slot b o e n hb hx
   exact⟨sl,(hs.2 b (aV (bi (ay e) (I.ok.cab x c hfn hc)))).trans e1⟩
  ·obtain⟨o',e1⟩:=I.base.there b o e hx
   exact⟨o',(hs.2 b (aV (bi (ay e) (I.ok.cab x c hfn hc)))).trans e1⟩
  ·by_cases hj:j=i
   ·subst hj
    rw[hi] at e1; cases e1
    rw[fX hiσ] at e2
    cases e2
    exact⟨u,r, .inr ⟨.inl hk,c,hc,hc'⟩⟩
   ·rw[gE (cF hj)] at e2
    obtain⟨u',r',q⟩:=hl j y v' e1 e2 e3
    refine⟨u',r',?_⟩
    rcases q with q | ⟨k,c',e,z'⟩
    ·exact .inl q
    ·refine .inr ⟨k,c',e,z'.sameBut hs ?_⟩
     rintro rfl
     exact hj (jHM hN e1 (I.ok.inj _ _ _ e hc ▸ hi))
  ·by_cases hcc:c'=c
   ·subst hcc; exact⟨_,hc'⟩
   ·obtain⟨w2,z2⟩:=I.cell y c' e
    exact⟨w2,z2.sameBut hs hcc⟩
  ·obtain⟨e,n,ne,nf,d⟩:=I.pin p hp
   refine⟨(hs.2 p.1 ?_).trans e,n,ne,nf,d⟩
   intro q
   rw[q,hoc] at e
   have q':oc=p.2:=br e
   exact d w' (by rw[<- q']; exact hocd)
theorem jAX {M:Model}{A:Around}{E:Value->Shared->Prop}{i:Nat}{x:Str}{v:V}{u:Value}{Q:Unit->Shared->Prop}(I:Inv X pins σ H s)(hN:X.N.Nodup)(hi:X.N[i]?=some x)(hx:Loc X.env.scope x)(r:RelV v u)
  (h:∀ s',Inv X pins (σ.set i (some v)) H s'->Q () s') (hf:X.fn x=true\/X.env.scope.names.lookup x=some .local:=by first | exact .inl rfl | exact .inr rfl | assumption):wpAny M A (storeName X.env x u) Q E s:=
 jF2 I hN hi hx r (fun s' I' _=>h s' I') hf
theorem Inv.call' {s':Shared}{ch:List Addr}(I:Inv X pins σ H s)(ho:s'.os=s.os)(u:Un (frs X.stack) ch H H' s.heap s'.heap)(hok:HOk X.prog X.w H' s'.heap)(hg:AllBare s'.gens)
  (hch:∀ b∈ch,(b∈X.ex\/X.s₀.heap.objs.size<=b)/\b≠X.env.locals/\(∀ x c,X.env.cells.lookup x=some c->c≠b)/\∀ p∈X.pn++pins,p.1≠b):Inv X pins σ H' s':=by
 obtain⟨h',g',d',t',o'⟩:=s'
 have e:o'=s.os:=ho
 subst e
 exact I.call (g':=g') (t':=t') (d':=d') u hok hg hch
end
abbrev XK:=Value->Option Addr->Hp->Prop
abbrev St:=List (Option V)
abbrev VK:=V->Hp->Prop
abbrev TE:=St->Hp->VK->Prop
abbrev TT:=St->Hp->(Bool->Hp->Prop)->Prop
abbrev TA:=St->Hp->(List V->Hp->Prop)->Prop
structure Ends where
 nx:St->Hp->Prop
 rt:VK
 bk:St->Hp->Prop:=fun _ _=>False
 ct:St->Hp->Prop:=fun _ _=>False
abbrev TS:=Ends->St->Hp->Prop
def EP (X:Cx)(pins:List (Addr×Obj))(σ:St)(Q:VK)(u:Value)(s':Shared):Prop:=∃ v H',Inv X pins σ H' s'/\RelV v u/\Q v H'
def TP (X:Cx)(pins:List (Addr×Obj))(σ:St)(Q:Bool->Hp->Prop)(b:Bool)(s':Shared):Prop:=∃ H',Inv X pins σ H' s'/\Q b H'
def AP (X:Cx)(pins:List (Addr×Obj))(σ:St)(Q:List V->Hp->Prop)(us:List Value)(s':Shared):Prop:=∃ vs H',Inv X pins σ H' s'/\Vals vs us/\Q vs H'
def SP (X:Cx)(pins:List (Addr×Obj))(D:Ends)(f:Flow)(s':Shared):Prop:=
 match f with
 | .next=>∃ σ' H',Inv X pins σ' H' s'/\D.nx σ' H'
 | .brk=>∃ σ' H',Inv X pins σ' H' s'/\D.bk σ' H'
 | .cont=>∃ σ' H',Inv X pins σ' H' s'/\D.ct σ' H'
 | .ret u=>∃ v σ' H',Inv X pins σ' H' s'/\RelV v u/\D.rt v H'
def PE (X:Cx)(e:Expr)(t:TE):Prop:=
 ∀ (pins:List (Addr×Obj)) (s:Shared) (σ:St) (H:Hp) (Q:VK),Inv X pins σ H s->t σ H Q->wpAny (model X.prog X.w) X.A (eval e X.env) (EP X pins σ Q) X.xe s
def PT (X:Cx)(e:Expr)(t:TT):Prop:=
 ∀ (pins:List (Addr×Obj)) (s:Shared) (σ:St) (H:Hp) (Q:Bool->Hp->Prop),Inv X pins σ H s->t σ H Q->wpAny (model X.prog X.w) X.A (isTrue e X.env (eval e X.env)) (TP X pins σ Q) X.xe s
def PW (X:Cx)(e:Expr)(t:TT):Prop:=
 ∀ (whole:Sem Value) (pins:List (Addr×Obj)) (s:Shared) (σ:St) (H:Hp) (Q:Bool->Hp->Prop),Inv X pins σ H s->t σ H Q->wpAny (model X.prog X.w) X.A (isTrue e X.env whole) (TP X pins σ Q) X.xe s
theorem PW.pt {X:Cx}{e:Expr}{t:TT}(h:PW X e t):PT X e t:=h _
def PA (X:Cx)(es:List Expr)(t:TA):Prop:=
 ∀ (pos:Pos) (pins:List (Addr×Obj)) (s:Shared) (σ:St) (H:Hp) (Q:List V->Hp->Prop),Inv X pins σ H s->t σ H Q->wpAny (model X.prog X.w) X.A (spliced (backTo pos (starEach es X.env))) (AP X pins σ Q) X.xe s
def PS (X:Cx)(st:Stmt)(t:TS):Prop:=
 ∀ (pins:List (Addr×Obj)) (s:Shared) (σ:St) (H:Hp) (D:Ends),Inv X pins σ H s->t D σ H->wpAny (model X.prog X.w) X.A (exec st X.env) (SP X pins D) X.xe s
def PSs (X:Cx)(st:List Stmt)(t:TS):Prop:=
 ∀ (pins:List (Addr×Obj)) (s:Shared) (σ:St) (H:Hp) (D:Ends),Inv X pins σ H s->t D σ H->wpAny (model X.prog X.w) X.A (execs st X.env) (SP X pins D) X.xe s
theorem thn {α:Type}{t:Sem α}{Q Q':α->Shared->Prop}{M:Model}{A:Around}{E:Value->Shared->Prop}{s:Shared}(h:wpAny M A t Q E s)(hQ:∀ a s,Q a s->Q' a s):wpAny M A t Q' E s:=bN h hQ fun _ _ x=>x
end L2
namespace L2
open PySem PySem.Spec PyProof.Rows
section
variable {X:Cx}
def tVar (i:Nat):TE:=fun σ H Q=>∃ v,σ[i]?=some (some v)/\Q v H
def tC (v:V):TE:=fun _ H Q=>Q v H
theorem jK0 {i:Nat}{x:Str}{pos:Pos}(hN:X.N[i]?=some x)(hv:Vis X.env.scope x)(hd:(x==("__debug__" :Str))=false:=by decide)(hcd:(x==("__classdict__" :Str))=false:=by decide):PE X (.Name x pos) (tVar i):=by
 intro pins s σ H Q I h
 obtain⟨v,e,h⟩:=h
 obtain⟨m,hn,hl⟩:=I.loc
 obtain⟨u,r,l⟩:=hl i x v hN e hv
 have fin:EP X pins σ Q u s:=⟨v,H,I,r,h⟩
 rcases l with ⟨hk,hm⟩ | ⟨hk,c,hc,hcell⟩
 ·exact wpAny_Name (wpAny_loadName_local I.ok.kind hk hn hm fin) hd
 ·rcases hk with hk | hk
  ·exact wpAny_Name (wpAny_loadName_cell I.ok.kind hk hc hcell fin) hd
  ·exact wpAny_Name (wpAny_loadName_free I.ok.kind hk hc hcell fin hcd) hd
theorem jW {i j pos} :PE X (.Constant (.int i) j pos) (tC (.int i)):=fun _ _ _ H _ I h=>wpAny_Constant_int ⟨.int i,H,I.tok _,⟨_,rfl⟩,h⟩
theorem pe_bl {b j pos} :PE X (.Constant (.bool b) j pos) (tC (.bl b)):=fun _ _ _ H _ I h=>Constant_bool ⟨.bl b,H,I,rfl,h⟩
theorem jS7 {j pos} :PE X (.Constant .none j pos) (tC .non):=fun _ _ _ H _ I h=>Constant_none ⟨.non,H,I,rfl,h⟩
theorem jS4 {x j pos} :PE X (.Constant (.str x) j pos) (tC (.str x)):=fun _ _ _ H _ I h=>Calls.Constant_str ⟨.str x,H,I.tok _,⟨_,rfl⟩,h⟩
def Gl (X:Cx)(x:Str):Prop:=X.env.kindOf x=some .globalImplicit
theorem jBZ {E:Value->Shared->Prop}{pins:List (Addr×Obj)}{s:Shared}{σ:St}{H:Hp}{x:Str}{u:Value}{pos:Pos}{Q:Value->Shared->Prop}(I:Inv X pins σ H s)(hg:Gl X x)(hm:X.mg x=some u)(h:Q u s)
  (hd:(x==("__debug__" :Str))=false:=by decide):wpAny (model X.prog X.w) X.A (eval (.Name x pos) X.env) Q E s:=
 gU I.ok.kind hg (Calls.loadGlobal_global (by rw[I.ok.glob]; exact I.mod.glob.keeps I.bk) hm h) hd
theorem jD4 {E:Value->Shared->Prop}{pins:List (Addr×Obj)}{s:Shared}{σ:St}{H:Hp}{x:Str}{u:Value}{pos:Pos}{Q:Value->Shared->Prop}(I:Inv X pins σ H s)(hg:Gl X x)(hm:X.mg x=none)(hv:bootBuiltins x=some u)(h:Q u s)
  (hn:x≠ "__name__" :=by decide) (hd:(x==("__debug__" :Str))=false:=by decide):wpAny (model X.prog X.w) X.A (eval (.Name x pos) X.env) Q E s:=by
 obtain⟨mb,h1,h2⟩:=I.mod.blt
 exact gU I.ok.kind hg (Calls.loadGlobal_builtin (by rw[I.ok.glob]; exact I.mod.glob.keeps I.bk) hm (by rw[I.ok.blt]; exact h1.keeps I.bk) ((h2 x hn).trans hv) h) hd
theorem jPQ {x:Str}{v:V}{u:Value}{pos:Pos}(hg:Gl X x)(hm:X.mg x=some u)(r:RelV v u)(hd:(x==("__debug__" :Str))=false:=by decide):PE X (.Name x pos) (tC v):=
 fun _ _ _ H _ I h=>jBZ I hg hm ⟨v,H,I,r,h⟩ hd
theorem jPV {x:Str}{v:V}{u:Value}{pos:Pos}(hg:Gl X x)(hm:X.mg x=none)(hv:bootBuiltins x=some u)(r:RelV v u)(hn:x≠ "__name__" :=by decide)(hd:(x==("__debug__" :Str))=false:=by decide):PE X (.Name x pos) (tC v):=
 fun _ _ _ H _ I h=>jD4 I hg hm hv ⟨v,H,I,r,h⟩ hn hd
variable {a b:Expr}{ta tb:TE}{pos:Pos}
def PC (X:Cx)(op:CmpOp)(a b:Expr)(t:TE):Prop:=
 ∀ (pins:List (Addr×Obj)) (s:Shared) (σ:St) (H:Hp) (Q:VK),Inv X pins σ H s->t σ H Q->
  wpAny (model X.prog X.w) X.A (eval a X.env) (fun v s₁=>wpAny (model X.prog X.w) X.A (eval b X.env) (fun u s₂=>wpAny (model X.prog X.w) X.A (compareOp op v u) (EP X pins σ Q) X.xe s₂) X.xe s₁) X.xe s
def tB (t:TE):TT:=fun σ H Q=>t σ H fun x H1=>∃ c,x= .bl c/\Q c H1
theorem jRW {op:CmpOp}{t:TE}(h:PC X op a b t)(h1:behindInMarks op b=false:=by first | exact nobehind _ (by decide) (by decide) | rfl):PT X (.Compare a [op] [b] pos) (tB t):=by
 intro pins s σ H Q I hw
 refine wpAny_isTrue_Compare1 (thn (h pins s σ H _ I hw) fun v s1 h1=>thn h1 fun u s2 h2=>thn h2 fun c s3 ⟨x,H1,I1,r1,q1⟩=>?_) h1
 obtain⟨d,rfl,q⟩:=q1
 cases r1
 exact dk ⟨H1,I1,q⟩
theorem jRU {e:Expr}{t:TE}(h:PE X e t)(he:∀ whole,isTrue e X.env whole=(do let v <- whole; standAt e.pos; holding [v] (truthy v)):=by intro _; rfl):PT X e (tB t):=by
 intro pins s σ H Q I hw
 refine isTrue_plain (thn (h pins s σ H _ I hw) fun v s1 ⟨x,H1,I1,r1,q1⟩=>?_) (he _)
 obtain⟨d,rfl,q⟩:=q1
 cases r1
 exact dk ⟨H1,I1,q⟩
variable {tA tB':TT}{rest:List Expr}
def tAnd (t u:TT):TT:=fun σ H Q=>t σ H fun c H1=>if c=true then u σ H1 Q else Q false H1
def tOr (t u:TT):TT:=fun σ H Q=>t σ H fun c H1=>if c=true then Q true H1 else u σ H1 Q
def tNot (t:TT):TT:=fun σ H Q=>t σ H fun c H1=>Q (!c) H1
theorem jPB (ha:PT X a tA):PW X (.BoolOp .And [a] pos) tA:=by
 intro wh pins s σ H Q I h
 refine isTrue_and (thn (ha pins s σ H Q I h) fun c s1 e=>?_)
 cases c with
 | true=>exact isTrue_and_nil e
 | false=>exact e
theorem jRS (ha:PT X a tA):PW X (.BoolOp .Or [a] pos) tA:=by
 intro wh pins s σ H Q I h
 refine isTrue_or (thn (ha pins s σ H Q I h) fun c s1 e=>?_)
 cases c with
 | false=>exact isTrue_or_nil e
 | true=>exact e
theorem jRT (ha:PT X a tA)(hb:PW X (.BoolOp .And (b::rest) pos) tB'):PW X (.BoolOp .And (a::b::rest) pos) (tAnd tA tB'):=by
 intro wh pins s σ H Q I h
 refine isTrue_and (thn (ha pins s σ H _ I h) fun c s1 ⟨H1,I1,q1⟩=>?_)
 cases c with
 | true=>exact hb wh pins s1 σ H1 Q I1 q1
 | false=>exact⟨H1,I1,q1⟩
theorem pw_or (ha:PT X a tA)(hb:PW X (.BoolOp .Or (b::rest) pos) tB'):PW X (.BoolOp .Or (a::b::rest) pos) (tOr tA tB'):=by
 intro wh pins s σ H Q I h
 refine isTrue_or (thn (ha pins s σ H _ I h) fun c s1 ⟨H1,I1,q1⟩=>?_)
 cases c with
 | true=>exact⟨H1,I1,q1⟩
 | false=>exact hb wh pins s1 σ H1 Q I1 q1
theorem jRV (ha:PT X a tA):PT X (.UnaryOp .Not a pos) (tNot tA):=by
 intro pins s σ H Q I h
 exact isTrue_not (ha pins s σ H (fun c H1=>Q (!c) H1) I h)
def tAndV (ta tb:TE):TE:=fun σ H Q=>ta σ H fun x H1=>∃ c,x= .bl c/\if c=true then tb σ H1 Q else Q (.bl false) H1
def tNotV (ta:TE):TE:=fun σ H Q=>ta σ H fun x H1=>∃ c,x= .bl c/\Q (.bl (!c)) H1
theorem jS5 {op}{t:TE}(h:PE X a t):PE X (.BoolOp op [a] pos) t:=fun pins s σ H Q I hw=>BoolOp_one (h pins s σ H Q I hw)
theorem jS9 (ha:PE X a ta)(hb:PE X (.BoolOp .And (b::rest) pos) tb):PE X (.BoolOp .And (a::b::rest) pos) (tAndV ta tb):=by
 intro pins s σ H Q I h
 refine BoolOp_and (thn (ha pins s σ H _ I h) fun v s1 ⟨x,H1,I1,r1,q1⟩=>?_)
 obtain⟨c,rfl,q1⟩:=q1
 cases r1
 refine dk ?_
 cases c with
 | true=>exact hb pins s1 σ H1 Q I1 q1
 | false=>exact⟨.bl false,H1,I1,rfl,q1⟩
theorem jS6 (ha:PE X a ta):PE X (.UnaryOp .Not a pos) (tNotV ta):=by
 intro pins s σ H Q I h
 refine UnaryOp_ (thn (ha pins s σ H _ I h) fun v s1 ⟨x,H1,I1,r1,q1⟩=>?_)
 obtain⟨c,rfl,q1⟩:=q1
 cases r1
 exact not_of (dk ⟨.bl (!c),H1,I1,rfl,q1⟩)
def tIf (t:TT)(ta tb:TE):TE:=fun σ H Q=>t σ H fun c H1=>if c=true then ta σ H1 Q else tb σ H1 Q
theorem jMQ {c:Expr}(hc:PT X c tA)(ha:PE X a ta)(hb:PE X b tb):PE X (.IfExp c a b pos) (tIf tA ta tb):=by
 intro pins s σ H Q I h
 refine wpAny_IfExp (thn (hc pins s σ H _ I h) fun d s1 ⟨H1,I1,q1⟩=>?_)
 cases d with
 | true=>exact ha pins s1 σ H1 Q I1 q1
 | false=>exact hb pins s1 σ H1 Q I1 q1
end
end L2
namespace L2
open PySem PySem.Spec PyProof.Rows
def SqL (K:W.Frag)(H:Hp)(a:Addr)(xs:List V):Prop:=
 Rd H a (.lst xs)\/
  ∃ (o:Obj) (its:Array Value) (n:Nat),K.lookup a=some o/\o.cls= .type "list" /\o.dict=none/\o.data= .seq its n/\its.size<=sizeLine/\Vals xs its.toList
def SqT (K:W.Frag)(H:Hp)(a:Addr)(xs:List V):Prop:=
 Rd H a (.tup xs)\/
  ∃ (o:Obj) (its:Array Value) (n:Nat),K.lookup a=some o/\o.cls= .type "tuple" /\o.data= .seq its n/\its.size<=sizeLine/\Vals xs its.toList
noncomputable def absV:Value->Option V
 | .none=>some .non
 | .bool b=>some (.bl b)
 | .int i _=>some (.int i)
 | .str x _=>some (.str x)
 | .bytes b _=>some (.byt b)
 | .float b _=>some (.flt b)
 | .ref a=>some (.ref a)
 | .type n=>some (.ty n)
 | _=>none
theorem RelV.abs {x:V}{u:Value}(r:RelV x u):absV u=some x:=by
 cases x with
 | non=>cases r; rfl
 | bl _=>cases r; rfl
 | int _=>obtain⟨t,rfl⟩:=r; rfl
 | str _=>obtain⟨t,rfl⟩:=r; rfl
 | byt _=>obtain⟨t,rfl⟩:=r; rfl
 | flt _=>obtain⟨t,rfl⟩:=r; rfl
 | ref _=>cases r; rfl
 | ty _=>cases r; rfl
theorem RelV.inj {x y:V}{u:Value}(r:RelV x u)(q:RelV y u):x=y:=br (r.abs.symm.trans q.abs)
theorem Vals.inj:∀ {xs ys:List V}{us:List Value},Vals xs us->Vals ys us->xs=ys
 | _,_,_, .nil, .nil=>rfl
 | _,_,_, .cons r t, .cons r' t'=>by rw[r.inj r',Vals.inj t t']
section
variable {X:Cx}{pins:List (Addr×Obj)}{σ:St}{H:Hp}{s:Shared}{a:Addr}{xs ys:List V}
theorem SqL.of {K:W.Frag}(h:H a=some (.lst xs)):SqL K H a xs:= .inl (.inl h)
theorem SqT.of {K:W.Frag}(h:H a=some (.tup xs)):SqT K H a xs:= .inl (.inl h)
theorem Inv.list (I:Inv X pins σ H s)(h:SqL X.K H a xs):∃ its:List Value,Vals xs its/\PlainL s.heap a its.toArray/\xs.length<=sizeLine:=by
 rcases h with h | ⟨o,its,n,hk,hc,hd,hs,hz,r⟩
 ·obtain⟨z,its,n,r,e⟩:=h.ok I.hok
  exact⟨its,r,⟨_,n,e,rfl,rfl,rfl⟩,z⟩
 ·refine⟨its.toList,r,⟨o,n,I.kIn a o hk,hc,hd,by simpa using hs⟩,?_⟩
  have e:=r.length
  simp only [aL] at e
  omega
theorem Inv.tuple (I:Inv X pins σ H s)(h:SqT X.K H a xs):∃ its:List Value,Vals xs its/\IsTup s.heap a its.toArray/\xs.length<=sizeLine:=by
 rcases h with h | ⟨o,its,n,hk,hc,hs,hz,r⟩
 ·obtain⟨z,its,r,p⟩:=h.ok I.hok
  exact⟨its,r,p.isTup,z⟩
 ·refine⟨its.toList,r,⟨o,I.kIn a o hk,hc,n,by simpa using hs⟩,?_⟩
  have e:=r.length
  simp only [aL] at e
  omega
theorem Inv.list_inj (I:Inv X pins σ H s)(h:SqL X.K H a xs)(h':SqL X.K H a ys):xs=ys:=by
 obtain⟨its,r,⟨o,n,e,_,_,d⟩,_⟩:=I.list h
 obtain⟨its',r',⟨o',n',e',_,_,d'⟩,_⟩:=I.list h'
 rw[e] at e'; cases e'
 rw[d] at d'
 injection d' with d1 _
 have:its=its':=by simpa using bR Array.toList d1
 subst this
 exact r.inj r'
theorem Inv.tuple_inj (I:Inv X pins σ H s)(h:SqT X.K H a xs)(h':SqT X.K H a ys):xs=ys:=by
 obtain⟨its,r,⟨o,e,_,n,d⟩,_⟩:=I.tuple h
 obtain⟨its',r',⟨o',e',_,n',d'⟩,_⟩:=I.tuple h'
 rw[e] at e'; cases e'
 rw[d] at d'
 injection d' with d1 _
 have:its=its':=by simpa using bR Array.toList d1
 subst this
 exact r.inj r'
end
abbrev Cx.wish (X:Cx)(E:Value->Shared->Prop):Cx:= { X with xe:=E}
abbrev Cx.nox (X:Cx):Cx:=X.wish fun _ _=>False
theorem Cx.Ok.wish {X:Cx}(ok:X.Ok)(E:Value->Shared->Prop):(X.wish E).Ok:=
 ⟨ok.mod,ok.kind,ok.glob,ok.blt,ok.above,ok.inj,ok.has,ok.cab,ok.hd,ok.frames,ok.stk,ok.exf,ok.bs,ok.bsz,ok.noex,ok.exfs,ok.funs,ok.frf⟩
theorem Cx.Ok.unwish {X:Cx}{E:Value->Shared->Prop}(ok:(X.wish E).Ok):X.Ok:=
 ⟨ok.mod,ok.kind,ok.glob,ok.blt,ok.above,ok.inj,ok.has,ok.cab,ok.hd,ok.frames,ok.stk,ok.exf,ok.bs,ok.bsz,ok.noex,ok.exfs,ok.funs,ok.frf⟩
section
variable {X:Cx}{pins:List (Addr×Obj)}{σ:St}{H:Hp}{s:Shared}{E:Value->Shared->Prop}
theorem Inv.wish (I:Inv X pins σ H s)(E:Value->Shared->Prop):Inv (X.wish E) pins σ H s:=⟨I.ok.wish E,I.os,I.bare,I.base,I.loc,I.cell,I.free,I.freeC,I.pin,I.hok,I.len⟩
theorem Inv.unwish (I:Inv (X.wish E) pins σ H s):Inv X pins σ H s:=⟨I.ok.unwish,I.os,I.bare,I.base,I.loc,I.cell,I.free,I.freeC,I.pin,I.hok,I.len⟩
theorem SP.unwish {D:Ends}{f:Flow}{s':Shared}(h:SP (X.wish E) pins D f s'):SP X pins D f s':=by
 cases f with
 | next=>obtain⟨σ',H',I,q⟩:=h; exact⟨σ',H',I.unwish,q⟩
 | brk=>obtain⟨σ',H',I,q⟩:=h; exact⟨σ',H',I.unwish,q⟩
 | cont=>obtain⟨σ',H',I,q⟩:=h; exact⟨σ',H',I.unwish,q⟩
 | ret u=>obtain⟨v,σ',H',I,r,q⟩:=h; exact⟨v,σ',H',I.unwish,r,q⟩
theorem PT.nox {e:Expr}{t:TT}(h:PT X.nox e t):PT X e t:=fun pins s σ H Q I hw=>
 bN (h pins s σ H Q (I.wish _) hw) (fun _ _ ⟨H',I',q⟩=>⟨H',I'.unwish,q⟩) fun _ _ z=>False.elim z
theorem PSs.nox {st:List Stmt}{t:TS}(h:PSs X.nox st t):PSs X st t:=fun pins s σ H D I hw=>
 bN (h pins s σ H D (I.wish _) hw) (fun _ _ q=>q.unwish) fun _ _ z=>False.elim z
end
section
variable {X:Cx}{st:Stmt}{rest:List Stmt}{t u:TS}{e:Expr}{te:TE}{pos:Pos}
def tNext:TS:=fun D σ H=>D.nx σ H
def tSeq (t u:TS):TS:=fun D σ H=>t { D with nx:=u D} σ H
theorem jGH:PSs X [] tNext:=fun _ _ σ H _ I h=>eM ⟨σ,H,I,h⟩
theorem jA8 (h1:PS X st t)(h2:PSs X rest u):PSs X (st::rest) (tSeq t u):=by
 intro pins s σ H D I h
 refine iI (thn (h1 pins s σ H { D with nx:=u D} I h) fun f s1 q=>?_)
 cases f with
 | next=>
  obtain⟨σ',H',I',q⟩:=q
  exact h2 pins s1 σ' H' D I' q
 | ret v=>exact q
 | brk=>exact q
 | cont=>exact q
theorem jB9 (h1:PS X st t):PSs X [st] t:=by
 intro pins s σ H D I h
 refine iI (thn (h1 pins s σ H D I h) fun f s1 q=>?_)
 cases f with
 | next=>exact eM q
 | ret v=>exact q
 | brk=>exact q
 | cont=>exact q
theorem Inv.quiet {pins:List (Addr×Obj)}{σ:St}{H:Hp}{s:Shared}(I:Inv X pins σ H s):interactive X.env=false:=by simp [interactive,I.ok.kind]
def tDrop (te:TE):TS:=fun D σ H=>te σ H fun _ H1=>D.nx σ H1
theorem jPG (he:PE X e te)(hs:swapsWith e none pos.line X.env=pure false:=by rfl):PS X (.Expr e pos) (tDrop te):=by
 intro pins s σ H D I h
 exact wpAny_Expr_any (thn (he pins s σ H _ I h) fun v s1 ⟨x,H1,I1,r1,q1⟩=>⟨σ,H1,I1,q1⟩) I.quiet hs
def tRet (te:TE):TS:=fun D σ H=>te σ H D.rt
theorem jDL (he:PE X e te):PS X (.Return (some e) pos) (tRet te):=by
 intro pins s σ H D I h
 exact wpAny_Return_some (thn (he pins s σ H _ I h) fun v s1 ⟨x,H1,I1,r1,q1⟩=>⟨x,σ,H1,I1,r1,q1⟩)
def tIfS (c:TT)(t u:TS):TS:=fun D σ H=>c σ H fun b H1=>if b=true then t D σ H1 else u D σ H1
theorem ps_if {c:Expr}{a b:List Stmt}{tc:TT}(hc:PT X c tc)(ha:PSs X a t)(hb:PSs X b u):PS X (.If c a b pos) (tIfS tc t u):=by
 intro pins s σ H D I h
 refine wpAny_If (thn (hc pins s σ H _ I h) fun d s1 ⟨H1,I1,q1⟩=>?_)
 cases d with
 | true=>exact ha pins s1 σ H1 D I1 q1
 | false=>exact hb pins s1 σ H1 D I1 q1
end
abbrev TG:=V->St->Hp->(St->Hp->Prop)->Prop
abbrev TGs:=List V->St->Hp->(St->Hp->Prop)->Prop
def PG (X:Cx)(target:Expr)(t:TG):Prop:=
 ∀ (pins:List (Addr×Obj)) (s:Shared) (σ:St) (H:Hp) (v:V) (u:Value) (Q:St->Hp->Prop),Inv X pins σ H s->RelV v u->t v σ H Q->
  wpAny (model X.prog X.w) X.A (assign target X.env u) (fun _ s'=>∃ σ' H',Inv X pins σ' H' s'/\Q σ' H') X.xe s
def PGs (X:Cx)(ts:List Expr)(t:TGs):Prop:=
 ∀ (pins:List (Addr×Obj)) (s:Shared) (σ:St) (H:Hp) (vs:List V) (us:List Value) (Q:St->Hp->Prop),Inv X pins σ H s->Vals vs us->t vs σ H Q->
  wpAny (model X.prog X.w) X.A (assignInOrder ((assignEach ts X.env).map (·.2)) us) (fun _ s'=>∃ σ' H',Inv X pins σ' H' s'/\Q σ' H') X.xe s
abbrev TSet:=V->V->V->Hp->(Hp->Prop)->Prop
def PSet (X:Cx)(t:TSet):Prop:=
 ∀ (pins:List (Addr×Obj)) (s:Shared) (σ:St) (H:Hp) (o i v:V) (ov iv u:Value) (Q:Hp->Prop),Inv X pins σ H s->RelV o ov->RelV i iv->RelV v u->t o i v H Q->
  wpAny (model X.prog X.w) X.A (setItem ov iv u) (fun _ s'=>∃ H',Inv X pins σ H' s'/\Q H') X.xe s
abbrev TIp:=V->V->Hp->VK->Prop
def PIp (X:Cx)(op:Operator)(t:TIp):Prop:=
 ∀ (pins:List (Addr×Obj)) (s:Shared) (σ:St) (H:Hp) (x y:V) (v u:Value) (Q:VK),Inv X pins σ H s->RelV x v->RelV y u->t x y H Q->
  wpAny (model X.prog X.w) X.A (inplaceOp op v u) (EP X pins σ Q) X.xe s
section
variable {X:Cx}{pos:Pos}
def kL (i:Nat):TG:=fun v σ H Q=>Q (σ.set i (some v)) H
theorem jJZ {i:Nat}{x:Str}(hN:X.N.Nodup)(hi:X.N[i]?=some x)(hx:Loc X.env.scope x)(hf:X.fn x=true\/X.env.scope.names.lookup x=some .local:=by first | exact .inl rfl | exact .inr rfl | assumption):PG X (.Name x pos) (kL i):=by
 intro pins s σ H v u Q I r h
 exact wpAny_assign_Name (jAX I hN hi hx r (fun s' I'=>⟨_,H,I',h⟩) hf)
def gNil:TGs:=fun vs σ H Q=>vs=[]/\Q σ H
def yF (t:TG)(u:TGs):TGs:=fun vs σ H Q=>∃ v r,vs=v::r/\t v σ H fun σ' H'=>u r σ' H' Q
theorem jPP:PGs X [] gNil:=by
 intro pins s σ H vs us Q I r h
 obtain⟨e,h⟩:=h
 subst e
 cases r
 exact assignInOrder_nil ⟨σ,H,I,h⟩
theorem jMP {e:Expr}{es:List Expr}{t:TG}{u:TGs}(h1:PG X e t)(h2:PGs X es u)
  (hs:(assignEach (e::es) X.env).map (·.2)=assign e X.env::(assignEach es X.env).map (·.2):=by rfl):PGs X (e::es) (yF t u):=by
 intro pins s σ H vs us Q I r h
 obtain⟨v,vr,e1,h⟩:=h
 subst e1
 cases r with
 | cons r rr=>
  rw[hs]
  refine assignInOrder_cons (thn (h1 pins s σ H _ _ _ I r h) fun _ s1 ⟨σ1,H1,I1,q1⟩=>?_)
  exact h2 pins s1 σ1 H1 _ _ Q I1 rr q1
def gTup (K:W.Frag)(n:Nat)(t:TGs):TG:=fun v σ H Q=>∃ a xs,v= .ref a/\SqT K H a xs/\xs.length=n/\t xs σ H Q
theorem jS2 {es:List Expr}{k:Nat}{t:TGs}{n:Nat}(hc:X.calm=true)(h:PGs X es t)
  (hn:(assignEach es X.env).length=n:=by rfl) (hst:(assignEach es X.env).findIdx? (·.1)=none:=by rfl):PG X (.Tuple es k pos) (gTup X.K n t):=by
 intro pins s σ H v u Q I r hw
 obtain⟨a,xs,e1,hq,hl,hw⟩:=hw
 subst e1
 cases r
 obtain⟨its,rv,ht,hz⟩:=I.tuple hq
 refine assign_Tuple_tuple (I.ok.hd hc) ht (by simp [hn,<- hl,rv.length]) hst fun h' hx=>?_
 have I1:Inv X pins σ H { s with heap:=h'} :=I.kept (t':=s.toks) fun b o e=>hx b o (aV (ay e)) e
 exact h pins _ σ H xs _ Q I1 (by simpa using rv) hw
def gSub (to ti:TE)(t:TSet):TG:=fun v σ H Q=>to σ H fun o H1=>ti σ H1 fun i H2=>t o i v H2 fun H3=>Q σ H3
theorem jS3 {o i:Expr}{to ti:TE}{t:TSet}(ho:PE X o to)(hi:PE X i ti)(hs:PSet X t)
  (ha:∀ v,assign (.Subscript o i pos) X.env v=(do
   let ov <- holding [v] (eval o X.env)
   let iv <- holding [v,ov] (eval i X.env)
   standAt pos
   holding [v,ov,iv] (setItem ov iv v)
   release [v,ov,iv] []):=by intro _; rfl):PG X (.Subscript o i pos) (gSub to ti t):=by
 intro pins s σ H v u Q I r h
 rw[ha]
 refine aa (bI (thn (ho pins s σ H _ I h) fun ov s1 ⟨x,H1,I1,r1,q1⟩=>?_))
 refine aa (bI (thn (hi pins s1 σ H1 _ I1 q1) fun iv s2 ⟨y,H2,I2,r2,q2⟩=>?_))
 refine aa (eS (aa (bI (thn (hs pins s2 σ H2 x y v ov iv u _ I2 r1 r2 r q2) fun _ s3 ⟨H3,I3,q3⟩=>?_))))
 exact wpAny_release ⟨σ,H3,I3,q3⟩
def tAsg (te:TE)(g:TG):TS:=fun D σ H=>te σ H fun x H1=>g x σ H1 D.nx
theorem jRY {tg e:Expr}{te:TE}{g:TG}(he:PE X e te)(hg:PG X tg g)(hs:swapsWithSole [tg] e pos.line X.env=pure false:=by rfl)(hw:swappedStores [tg] e X.env=pure none:=by rfl)
  (h1:(assignEach [tg] X.env).map (·.2)=[assign tg X.env]:=by rfl):PS X (.Assign [tg] e pos) (tAsg te g):=by
 intro pins s σ H D I h
 refine wpAny_Assign_stores (thn (he pins s σ H _ I h) fun v s1 ⟨x,H1,I1,r1,q1⟩=>?_) hs hw
 rw[h1]
 exact thn (hg pins s1 σ H1 x v _ I1 r1 q1) fun _ s2 q=>q
theorem jDK {i:Nat}{x:Str}{e:Expr}{te:TE}{pos':Pos}(hN:X.N.Nodup)(hi:X.N[i]?=some x)(hx:Loc X.env.scope x)(he:PE X e te)(hs:swapsWith e (some (.Name x pos')) pos.line X.env=pure false:=by rfl)(hf:X.fn x=true\/X.env.scope.names.lookup x=some .local:=by first | exact .inl rfl | exact .inr rfl | assumption):
  PS X (.Assign [.Name x pos'] e pos) (tAsg te (kL i)):=by
 intro pins s σ H D I h
 refine wpAny_Assign_Name (thn (he pins s σ H _ I h) fun v s1 ⟨y,H1,I1,r1,q1⟩=>?_) hs
 exact jAX I1 hN hi hx r1 (fun s2 I2=>⟨_,H1,I2,q1⟩) hf
def tAugS (to ti te:TE)(tget:V->V->Hp->VK->Prop)(tip:TIp)(tset:TSet):TS:=fun D σ H=>to σ H fun o H1=>ti σ H1 fun i H2=>tget o i H2 fun x H3=>te σ H3 fun y H4=>tip x y H4 fun z H5=>tset o i z H5 fun H6=>D.nx σ H6
def PGet (X:Cx)(t:V->V->Hp->VK->Prop):Prop:=
 ∀ (pins:List (Addr×Obj)) (s:Shared) (σ:St) (H:Hp) (o i:V) (ov iv:Value) (Q:VK),Inv X pins σ H s->RelV o ov->RelV i iv->t o i H Q->
  wpAny (model X.prog X.w) X.A (getItem ov iv) (EP X pins σ Q) X.xe s
theorem jPI {o i e:Expr}{to ti te:TE}{tget:V->V->Hp->VK->Prop}{tip:TIp}{tset:TSet}{op:Operator}{tpos:Pos}(ho:PE X o to)(hi:PE X i ti)(hg:PGet X tget)(he:PE X e te)(hp:PIp X op tip)(hs:PSet X tset)
  (ha:∀ ov iv new,augStore i ov iv new=(do holding [new,ov,iv] (setItem ov iv new); release [new,ov,iv] []; pure .next):=by intros; rfl):PS X (.AugAssign (.Subscript o i tpos) op e pos) (tAugS to ti te tget tip tset):=by
 intro pins s σ H D I h
 refine wpAny_AugAssign_SubscriptAny (thn (ho pins s σ H _ I h) fun ov s1 ⟨x1,H1,I1,r1,q1⟩=>?_) ha
 refine thn (hi pins s1 σ H1 _ I1 q1) fun iv s2 ⟨x2,H2,I2,r2,q2⟩=>?_
 refine thn (hg pins s2 σ H2 x1 x2 ov iv _ I2 r1 r2 q2) fun old s3 ⟨x3,H3,I3,r3,q3⟩=>?_
 refine thn (he pins s3 σ H3 _ I3 q3) fun v s4 ⟨x4,H4,I4,r4,q4⟩=>?_
 refine thn (hp pins s4 σ H4 x3 x4 old v _ I4 r3 r4 q4) fun new s5 ⟨x5,H5,I5,r5,q5⟩=>?_
 exact thn (hs pins s5 σ H5 x1 x2 x5 ov iv new _ I5 r1 r2 r5 q5) fun _ s6 ⟨H6,I6,q6⟩=>⟨σ,H6,I6,q6⟩
def ipI (f:Int->Int->Int):TIp:=fun x y H Q=>∃ i j,x= .int i/\y= .int j/\Q (.int (f i j)) H
theorem jT0:PIp X .Add (ipI fun i j=>i+j):=by
 intro pins s σ H x y v u Q I r1 r2 h
 obtain⟨i,j,e1,e2,q⟩:=h
 subst e1; subst e2
 obtain⟨t,rfl⟩:=r1
 obtain⟨t',rfl⟩:=r2
 exact iadd_int ⟨.int _,H,I.tok _,⟨_,rfl⟩,q⟩
end
section
variable {X:Cx}{pos:Pos}
def jNZ (c:TT)(tb:TS):TS:=fun D σ H=>∃ W:Nat->St->Hp->Prop,(∃ m,W m σ H)/\∀ m σ H,W m σ H->
 c σ H fun b H1=>if b=true then ∃ N:St->Hp->Prop,(∀ σ' H',N σ' H'->∃ m',m'<m/\W m' σ' H')/\tb { D with nx:=N,ct:=N,bk:=D.nx} σ H1 else D.nx σ H1
theorem jMM {c:Expr}{body:List Stmt}{tc:TT}{tb:TS}(hp:PassesOwn (model X.prog X.w) X.A X.env X.xe)(hc:PT X c tc)(hb:PSs X body tb):PS X (.While c body [] pos) (jNZ tc tb):=by
 intro pins s σ H D I h
 obtain⟨W,⟨m0,w0⟩,turn⟩:=h
 refine wpAny_While (codeAny_whileLoop (fun n s'=>∃ σ' H',Inv X pins σ' H' s'/\W n σ' H') ?_ m0 ⟨σ,H,I,w0⟩)
 rintro n s1 ⟨σ1,H1,I1,w1⟩
 refine dI hp (thn (hc pins s1 σ1 H1 _ I1 (turn n σ1 H1 w1)) fun b s2 ⟨H2,I2,q2⟩=>?_)
 cases b with
 | true=>
  obtain⟨N,hN,q2⟩:=q2
  rw[aq rfl]
  refine dI hp (thn (hb pins s2 σ1 H2 _ I2 q2) fun f s3 q3=>?_)
  cases f with
  | next=>
   obtain⟨σ3,H3,I3,n3⟩:=q3
   obtain⟨m',hm,w3⟩:=hN σ3 H3 n3
   exact⟨m',hm,σ3,H3,I3,w3⟩
  | cont=>
   obtain⟨σ3,H3,I3,n3⟩:=q3
   obtain⟨m',hm,w3⟩:=hN σ3 H3 n3
   exact⟨m',hm,σ3,H3,I3,w3⟩
  | brk=>exact q3
  | ret v=>exact q3
 | false=>
  rw[aj ao]
  exact eM ⟨σ1,H2,I2,q2⟩
end
structure It where
 go:Nat->Hp->Prop
 yld:Nat->Hp->V->Hp->Prop
 stop:Nat->Hp->Prop
def FpOk (X:Cx)(pins:List (Addr×Obj))(H:Hp)(b:Addr):Prop:=
 H b=none/\b≠X.env.locals/\b∉X.fs/\(b∈X.ex\/X.s₀.heap.objs.size<=b)/\(∀ x c,X.env.cells.lookup x=some c->c≠b)/\∀ p∈X.pn++pins,p.1≠b
theorem Inv.fpOk {X:Cx}{pins:List (Addr×Obj)}{σ:St}{H H':Hp}{s:Shared}{b:Addr}(I:Inv X pins σ H s)(hb:s.heap.objs.size<=b)(hn:H' b=none):FpOk X pins H' b:=by
 refine⟨hn,cN (bi I.lt hb),I.nofs hb, .inr (bA I.sz hb),fun x c e z=>?_,fun p hp z=>?_⟩
 ·obtain⟨v,q⟩:=I.cell x c e
  exact absurd (bi q.lt (by rw[z]; exact hb)) (cG _)
 ·exact absurd (bi (ay (I.pin p hp).1) (by rw[z]; exact hb)) (cG _)
structure Turn (P:Program)(w:World)(K:W.Frag)(tg:Expr)(J:It)(fp:List Addr)(it:Addr)(tn:Nat->Heap->Prop):Prop where
 mem:it∈fp
 obj:∀ i h,tn i h->∀ b∈fp,∃ o,h.get? b=some o/\∀ v,o.data≠ .cell v
 keep:∀ i h h',tn i h->(∀ b∈fp,∀ o,h.get? b=some o->h'.get? b=some o)->tn i h'
 item:∀ (X:Cx),X.prog=P->X.w=w->X.K=K->X.calm=true->∀ (i:Nat) (pins:List (Addr×Obj)) (s:Shared) (σ:St) (H:Hp) (E:Value->Shared->Prop),Inv X pins σ H s->(∀ b∈fp,FpOk X pins H b)->tn i s.heap->J.go i H->
  wpAny (model P w) X.A (pyNext (.ref it)) (fun r s1=>∃ u,r=some u/\
   wpAny (model P w) X.A (letOwnedTupleGo tg (.ref it) u) (fun _ s2=>∃ x H',Inv X pins σ H' s2/\RelV x u/\J.yld i H x H'/\tn (i+1) s2.heap/\∀ b∈fp,H' b=none) E s1) E s
 done:∀ (X:Cx),X.prog=P->X.w=w->X.K=K->X.calm=true->∀ (i:Nat) (pins:List (Addr×Obj)) (s:Shared) (σ:St) (H:Hp) (E:Value->Shared->Prop),Inv X pins σ H s->(∀ b∈fp,FpOk X pins H b)->tn i s.heap->J.stop i H->
  wpAny (model P w) X.A (pyNext (.ref it)) (fun r s1=>r=none/\Inv X pins σ H s1) E s
 self:∀ (A:Around) (i:Nat) (s:Shared) (Q:Value->Shared->Prop) (E:Value->Shared->Prop),tn i s.heap->Q (.ref it) s->wpAny (model P w) A (pyIter (.ref it)) Q E s
abbrev TI:=St->Hp->(It->Hp->Prop)->Prop
def PIE (X:Cx)(pins:List (Addr×Obj))(σ:St)(tg:Expr)(R:It->Hp->Prop)(itv:Value)(s2:Shared):Prop:=
 ∃ (it:Addr) (fp:List Addr) (tn:Nat->Heap->Prop) (J:It) (H':Hp),itv= .ref it/\Inv X pins σ H' s2/\Turn X.prog X.w X.K tg J fp it tn/\tn 0 s2.heap/\(∀ b∈fp,FpOk X pins H' b)/\R J H'
def PI (X:Cx)(tg iter:Expr)(wi:TI):Prop:=
 ∀ (pins:List (Addr×Obj)) (s:Shared) (σ:St) (H:Hp) (R:It->Hp->Prop),Inv X pins σ H s->wi σ H R->
  wpAny (model X.prog X.w) X.A (eval iter X.env) (fun v s1=>wpAny (model X.prog X.w) X.A (pyIter v) (PIE X pins σ tg R) X.xe s1) X.xe s
theorem go_of {M:Model}{A:Around}{E:Value->Shared->Prop}{s:Shared}{tg:Expr}{it:Addr}{u:Value}{o:Obj}{n:String}{vs:Array Value}{Q:Unit->Shared->Prop}(ho:s.heap.get? it=some o)(hc:o.cls= .type n)(hd:o.data= .fields vs)
  (hn: ["enumerate","zip","dict_itemiterator","dict_reverseitemiterator","odict_iterator","itertools.zip_longest","itertools.pairwise"].contains n=false) (hQ:Q () s):wpAny M A (letOwnedTupleGo tg (.ref it) u) Q E s:=by
 unfold letOwnedTupleGo
 cases tg <;> first
  | exact ag hQ
  | (cases u <;> first
    | exact ag hQ
    | (refine aa (gW ho ?_)
       rw [hc, hd]
       show wpAny M A (if (["enumerate", "zip", "dict_itemiterator", "dict_reverseitemiterator", "odict_iterator", "itertools.zip_longest", "itertools.pairwise"].contains n && vs[0]? == some (rawInt _)) = true then _ else _) Q E s
       rw [aj (by intro h; rw [hn, fY] at h; cases h)]
       exact ag hQ))
def Itl (K:W.Frag)(a:Addr):It:=
 ⟨fun i H=>∃ xs x,SqL K H a xs/\xs[i]?=some x,fun i H x H'=>H'=H/\∀ xs,SqL K H a xs->xs[i]?=some x,fun i H=>∃ xs,SqL K H a xs/\xs.length<=i⟩
def Itt (K:W.Frag)(a:Addr):It:=
 ⟨fun i H=>∃ xs x,SqT K H a xs/\xs[i]?=some x,fun i H x H'=>H'=H/\∀ xs,SqT K H a xs->xs[i]?=some x,fun i H=>∃ xs,SqT K H a xs/\xs.length<=i⟩
def Itr (lo:Int)(n:Nat):It:=⟨fun i _=>i<n,fun i H x H'=>H'=H/\x= .int (lo+i),fun i _=>n<=i⟩
theorem jJ5 {P:Program}{w:World}{K:W.Frag}{tg:Expr}(a it:Addr):Turn P w K tg (Itl K a) [it] it (fun i h=>h.IsListIter it a i) where
 mem:=by simp
 obj:=fun i h st b hb=>by
  have e:b=it:=by simpa using hb
  subst e
  obtain⟨o,e,c,d⟩:=st
  exact⟨o,e,fun v z=>by rw[d] at z; cases z⟩
 keep:=fun i h h' st k=>st.at fun o e=>k it (by simp) o e
 item:=by
  intro X hP hw hK hc i pins s σ H E I hf st hg
  subst hP hw hK
  obtain⟨xs,x,hq,hx⟩:=hg
  obtain⟨its,rv,p,hz⟩:=I.list hq
  obtain⟨u,hu,ru⟩:=rv.get hx
  obtain⟨f0,f1,f2,f3,f4,f5⟩:=hf it (by simp)
  refine wpAny_pyNext_list_item st p.isList (x:=u) (by simpa using hu) fun h' st' sb=>?_
  have I1:Inv X pins σ H { s with heap:=h'} :=I.turned (t':=s.toks) (fun b o hb e=>(sb.2 b hb).trans e) f0 f1 f3 f4 f5
  obtain⟨o,e,c,d⟩:=id st'
  exact⟨u,rfl,go_of (s:= { s with heap:=h'}) e c d (by decide) ⟨x,H,I1,ru,⟨rfl,fun ys hy=>by rw[I.list_inj hy hq]; exact hx⟩,st',fun b hb=>(hf b hb).1⟩⟩
 done:=by
  intro X hP hw hK hc i pins s σ H E I hf st hg
  subst hP hw hK
  obtain⟨xs,hq,hx⟩:=hg
  obtain⟨its,rv,p,hz⟩:=I.list hq
  obtain⟨f0,f1,f2,f3,f4,f5⟩:=hf it (by simp)
  have hl:=rv.length
  exact wpAny_pyNext_list_end (I.ok.hd hc) st p.isList (by simp; omega) fun h' eb=>⟨rfl,I.turned (t':=s.toks) (fun b o hb e=>eb b o hb e) f0 f1 f3 f4 f5⟩
 self:=fun _ _ _ _ _ st h=>wpAny_pyIter_listiter st h
theorem jIA {P:Program}{w:World}{K:W.Frag}{tg:Expr}(a it:Addr):Turn P w K tg (Itt K a) [it] it (fun i h=>h.IsTupleIter it a i) where
 mem:=by simp
 obj:=fun i h st b hb=>by
  have e:b=it:=by simpa using hb
  subst e
  obtain⟨o,e,c,d⟩:=st
  exact⟨o,e,fun v z=>by rw[d] at z; cases z⟩
 keep:=fun i h h' st k=>st.at fun o e=>k it (by simp) o e
 item:=by
  intro X hP hw hK hc i pins s σ H E I hf st hg
  subst hP hw hK
  obtain⟨xs,x,hq,hx⟩:=hg
  obtain⟨its,rv,p,hz⟩:=I.tuple hq
  obtain⟨u,hu,ru⟩:=rv.get hx
  obtain⟨f0,f1,f2,f3,f4,f5⟩:=hf it (by simp)
  refine wpAny_pyNext_tuple_item st (show s.heap.IsTuple a its.toArray from p) (x:=u) (by simpa using hu) fun h' st' sb=>?_
  have I1:Inv X pins σ H { s with heap:=h'} :=I.turned (t':=s.toks) (fun b o hb e=>(sb.2 b hb).trans e) f0 f1 f3 f4 f5
  obtain⟨o,e,c,d⟩:=id st'
  exact⟨u,rfl,go_of (s:= { s with heap:=h'}) e c d (by decide) ⟨x,H,I1,ru,⟨rfl,fun ys hy=>by rw[I.tuple_inj hy hq]; exact hx⟩,st',fun b hb=>(hf b hb).1⟩⟩
 done:=by
  intro X hP hw hK hc i pins s σ H E I hf st hg
  subst hP hw hK
  obtain⟨xs,hq,hx⟩:=hg
  obtain⟨its,rv,p,hz⟩:=I.tuple hq
  obtain⟨f0,f1,f2,f3,f4,f5⟩:=hf it (by simp)
  have hl:=rv.length
  exact wpAny_pyNext_tuple_end (I.ok.hd hc) st (show s.heap.IsTuple a its.toArray from p) (by simp; omega) fun h' eb=>⟨rfl,I.turned (t':=s.toks) (fun b o hb e=>eb b o hb e) f0 f1 f3 f4 f5⟩
 self:=fun _ _ _ _ _ st h=>wpAny_pyIter_tupleiter st h
theorem jIB {P:Program}{w:World}{K:W.Frag}{tg:Expr}(it:Addr)(lo:Int)(n:Nat):Turn P w K tg (Itr lo n) [it] it (fun i h=>IsRangeIter h it (lo+(i:Nat)*1) ((n:Int) - (i:Nat)) 1) where
 mem:=by simp
 obj:=fun i h st b hb=>by
  have e:b=it:=by simpa using hb
  subst e
  exact⟨_,st,fun v z=>by
   have z':Data.fields _=Data.cell v:=z
   cases z'⟩
 keep:=fun i h h' st k=>k it (by simp) _ st
 item:=by
  intro X hP hw hK hc i pins s σ H E I hf st hg
  subst hP hw hK
  obtain⟨f0,f1,f2,f3,f4,f5⟩:=hf it (by simp)
  have W:=Walks.range (prog:=X.prog) (w:=X.w) (I.ok.hd hc) it lo 1 n
  refine W.item i s _ _ hg st fun v h' tk hv st' kk=>?_
  obtain⟨t,rfl⟩:=hv
  have I1:Inv X pins σ H { s with heap:=h',toks:=tk} :=I.turned (fun b o hb e=>kk b o (by simpa using hb) e) f0 f1 f3 f4 f5
  refine⟨_,rfl,go_of (s:= { s with heap:=h',toks:=tk}) (n:= "range_iterator") st' rfl rfl (by decide) ⟨.int (lo+i),H,I1,⟨t,?_⟩,⟨rfl,rfl⟩,st',fun b hb=>(hf b hb).1⟩⟩
  rw[Int.mul_one]
 done:=by
  intro X hP hw hK hc i pins s σ H E I hf st hg
  subst hP hw hK
  obtain⟨f0,f1,f2,f3,f4,f5⟩:=hf it (by simp)
  exact wpAny_pyNext_range_end (I.ok.hd hc) st (by have:n<=i:=hg; omega) fun h' eb=>⟨rfl,I.turned (t':=s.toks) (fun b o hb e=>eb b o hb e) f0 f1 f3 f4 f5⟩
 self:=fun _ _ _ _ _ st h=>wpAny_pyIter_rangeiter st h
end L2
namespace L2
open PySem PySem.Spec PyProof.Rows
section
variable {X:Cx}{tg:Expr}
def iList (K:W.Frag)(tl:TE):TI:=fun σ H R=>tl σ H fun x H1=>∃ a,x= .ref a/\(∃ xs,SqL K H1 a xs)/\R (Itl K a) H1
def iTup (K:W.Frag)(tl:TE):TI:=fun σ H R=>tl σ H fun x H1=>∃ a,x= .ref a/\(∃ xs,SqT K H1 a xs)/\R (Itt K a) H1
theorem jPN {l:Expr}{tl:TE}(hl:PE X l tl):PI X tg l (iList X.K tl):=by
 intro pins s σ H R I h
 refine thn (hl pins s σ H _ I h) fun v s1 ⟨x,H1,I1,r1,q1⟩=>?_
 obtain⟨a,e,⟨xs,hq⟩,q⟩:=q1
 subst e
 cases r1
 obtain⟨its,rv,p,hz⟩:=I1.list hq
 refine dL p.isList ?_
 refine⟨s1.heap.objs.size,[s1.heap.objs.size],_,_,H1,rfl,I1.kept (t':=s1.toks) fun b o e=>ae _ e,jJ5 a _,⟨_,aA _ rfl,rfl,rfl⟩,fun b hb=>?_,q⟩
 have e:b=s1.heap.objs.size:=by simpa using hb
 subst e
 exact I1.fpOk (aE _) (I1.hok.fresh (aE _))
theorem jS1 {l:Expr}{tl:TE}(hl:PE X l tl):PI X tg l (iTup X.K tl):=by
 intro pins s σ H R I h
 refine thn (hl pins s σ H _ I h) fun v s1 ⟨x,H1,I1,r1,q1⟩=>?_
 obtain⟨a,e,⟨xs,hq⟩,q⟩:=q1
 subst e
 cases r1
 obtain⟨its,rv,p,hz⟩:=I1.tuple hq
 refine wpAny_pyIter_tuple (show s1.heap.IsTuple a its.toArray from p) ?_
 refine⟨s1.heap.objs.size,[s1.heap.objs.size],_,_,H1,rfl,I1.kept (t':=s1.toks) fun b o e=>ae _ e,jIA a _,⟨_,aA _ rfl,rfl,rfl⟩,fun b hb=>?_,q⟩
 have e:b=s1.heap.objs.size:=by simpa using hb
 subst e
 exact I1.fpOk (aE _) (I1.hok.fresh (aE _))
theorem jML {pins:List (Addr×Obj)}{σ:St}{H:Hp}{s:Shared}{R:It->Hp->Prop}{E:Value->Shared->Prop}{lo hi:Int}{t u v:Tok}{tk:Nat}(I:Inv X pins σ H s)(h1: -(2 ^ 62)<=lo)(h2:lo<2 ^ 62)(h3: -(2 ^ 62)<=hi)(h4:hi<2 ^ 62)
  (q:R (Itr lo (hi - lo).toNat) H):wpAny (model X.prog X.w) X.A (pyIter (.ref s.heap.objs.size)) (PIE X pins σ tg R) E { s with heap:=s.heap.push { cls:= .type "range",data:= .fields #[.int lo t, .int hi u, .int 1 v]},toks:=tk} :=by
 refine wpAny_pyIter_range (IsRange.new ..) (small_one h1 h2 h3 h4) ?_
 have I1:Inv X pins σ H { s with heap:=s.heap.push { cls:= .type "range",data:= .fields #[.int lo t, .int hi u, .int 1 v]},toks:=tk} :=I.kept fun b o e=>ae _ e
 refine⟨(s.heap.push { cls:= .type "range",data:= .fields #[.int lo t, .int hi u, .int 1 v]}).objs.size,[(s.heap.push { cls:= .type "range",data:= .fields #[.int lo t, .int hi u, .int 1 v]}).objs.size],_,_,H,rfl,
  I1.kept (t':=tk) fun b o e=>ae _ e,jIB _ lo (hi - lo).toNat,?_,fun b hb=>?_,q⟩
 ·have e1:lo+((0:Nat):Int)*1=lo:=by simp
  have e2:(((hi - lo).toNat:Nat):Int) - ((0:Nat):Int)=Builtin.Range.rangeSize lo hi 1:=by rw[rangeSize_one]; split <;> omega
  show IsRangeIter _ _ (lo+((0:Nat):Int)*1) ((((hi - lo).toNat:Nat):Int) - ((0:Nat):Int)) 1
  rw[e1,e2]
  exact aA _ rfl
 ·have e:b=(s.heap.push { cls:= .type "range",data:= .fields #[.int lo t, .int hi u, .int 1 v]}).objs.size:=by simpa using hb
  subst e
  exact I1.fpOk (aE _) (I1.hok.fresh (aE _))
def iRng1 (ta:TA):TI:=fun σ H R=>ta σ H fun vs H1=>∃ j:Int,vs=[.int j]/\ -(2 ^ 62)<=j/\j<2 ^ 62/\R (Itr 0 j.toNat) H1
theorem jFE {a:Expr}{ta:TA}{p pos:Pos}(hg:Gl X "range")(hm:X.mg "range" =none)(ha:PA X [a] ta)(hs:starEach [a] X.env=[(false,eval a X.env)]:=by rfl):PI X tg (.Call (.Name "range" p) [a] [] pos) (iRng1 ta):=by
 intro pins s σ H R I h
 refine Call_ (jD4 I hg hm boot_range (dr (thn (ha pos pins s σ H _ I h) fun us s1 ⟨vs,H1,I1,r1,q1⟩=>?_) hs rfl))
 obtain⟨j,e,q1,q2,q⟩:=q1
 subst e
 cases r1 with
 | cons r rr=>
  cases rr
  obtain⟨t,rfl⟩:=r
  exact call_range_1 (jML I1 (by omega) (by omega) q1 q2 (by simpa using q))
def tFor (wi:TI)(g:TG)(tb:TS):TS:=fun D σ H=>wi σ H fun J H1=>∃ W:Nat->Nat->St->Hp->Prop,(∃ m,W 0 m σ H1)/\∀ i m σ H,W i m σ H->
 (J.stop i H/\D.nx σ H)\/(J.go i H/\∃ N:St->Hp->Prop,(∀ σ' H',N σ' H'->∃ m',m'<m/\W (i+1) m' σ' H')/\∀ x H',J.yld i H x H'->g x σ H' fun σ2 H2=>tb { D with nx:=N,ct:=N,bk:=D.nx} σ2 H2)
def jFD (fp:List Addr)(h:Heap):List (Addr×Obj):=fp.filterMap fun b=>(h.get? b).map fun o=>(b,o)
theorem jAZ {fp:List Addr}{h:Heap}{b:Addr}{o:Obj}(hb:b∈fp)(e:h.get? b=some o):(b,o)∈jFD fp h:=ju.mpr ⟨b,hb,by rw[e]; rfl⟩
theorem jK8 {fp:List Addr}{h:Heap}{p:Addr×Obj}(hp:p∈jFD fp h):p.1∈fp/\h.get? p.1=some p.2:=by
 obtain⟨b,hb,e⟩:=ju.mp hp
 cases q:h.get? b with
 | none=>rw[q] at e; cases e
 | some o=>
  rw[q] at e
  have e':(b,o)=p:=br e
  subst e'
  exact⟨hb,q⟩
theorem Inv.pinned {pins:List (Addr×Obj)}{σ:St}{H:Hp}{s:Shared}{fp:List Addr}(I:Inv X pins σ H s)(hf:∀ b∈fp,FpOk X pins H b)(ho:∀ b∈fp,∃ o,s.heap.get? b=some o/\∀ v,o.data≠ .cell v):Inv X (pins++jFD fp s.heap) σ H s:=
 I.pins_of fun p hp=>(aU.mp hp).elim (fun z=>I.pin p (aQ _ z)) fun z=>by
  obtain⟨hb,e⟩:=jK8 z
  obtain⟨f0,f1,f2,_⟩:=hf p.1 hb
  obtain⟨o,e',d⟩:=ho p.1 hb
  rw[e] at e'; cases e'
  exact⟨e,f0,f1,f2,d⟩
theorem Inv.unpinned {pins pl:List (Addr×Obj)}{σ:St}{H:Hp}{s:Shared}(I:Inv X (pins++pl) σ H s):Inv X pins σ H s:=I.pins_of fun p hp=>I.pin p (aQ _ (be _ hp))
theorem jO5 {iter:Expr}{body:List Stmt}{wi:TI}{g:TG}{tb:TS}{pos:Pos}(hp:PassesOwn (model X.prog X.w) X.A X.env X.xe)(hc:X.calm=true)(hi:PI X tg iter wi)(hg:PG X tg g)(hb:PSs X body tb)
  (hs:∀ x,foldedSetIterable iter X.env x=pure x:=by intro _; rfl):PS X (.For tg iter body [] pos) (tFor wi g tb):=by
 intro pins s σ H D I h
 refine wpAny_For (thn (hi pins s σ H _ I h) fun v s1 h1=>thn h1 fun itv s2 h2=>?_) hs
 obtain⟨it,fp,tn,J,H2,e,I2,T,st2,f2,W,⟨m0,w0⟩,turn⟩:=h2
 subst e
 have stat:∀ {H':Hp},(∀ b∈fp,H' b=none)->∀ b∈fp,FpOk X pins H' b:=fun hn b hb=>⟨hn b hb,(f2 b hb).2⟩
 refine codeAny_forLoop_any (fun n s'=>∃ i σ' H',Inv X pins σ' H' s'/\tn i s'.heap/\(∀ b∈fp,H' b=none)/\W i n σ' H') ?_ m0 ⟨0,σ,H2,I2,st2,fun b hb=>(f2 b hb).1,w0⟩
 rintro n s3 ⟨i,σ3,H3,I3,st3,fr3,w3⟩
 rcases turn i n σ3 H3 w3 with ⟨stop,qn⟩ | ⟨go,N,hN,step⟩
 ·refine dI hp (thn (T.done X rfl rfl rfl hc i pins s3 σ3 H3 X.xe I3 (stat fr3) st3 stop) fun r s4 ⟨hr,I4⟩=>?_)
  subst hr
  exact eM ⟨σ3,H3,I4,qn⟩
 ·refine dI hp (thn (T.item X rfl rfl rfl hc i pins s3 σ3 H3 X.xe I3 (stat fr3) st3 go) fun r s4 ⟨u,hr,h4⟩=>?_)
  subst hr
  refine dI hp (thn h4 fun _ s5 ⟨x,H5,I5,r5,y5,st5,fr5⟩=>?_)
  have I5':=I5.pinned (stat fr5) (T.obj _ _ st5)
  refine dI hp (thn (hg _ s5 σ3 H5 x u _ I5' r5 (step x H5 y5)) fun _ s6 ⟨σ6,H6,I6,q6⟩=>?_)
  refine dI hp (thn (hb _ s6 σ6 H6 _ I6 q6) fun f s7 q7=>?_)
  have again:∀ {σ7:St}{H7:Hp},Inv X (pins++jFD fp s5.heap) σ7 H7 s7->N σ7 H7->∃ m,m<n/\∃ i σ' H',Inv X pins σ' H' s7/\tn i s7.heap/\(∀ b∈fp,H' b=none)/\W i m σ' H':=fun {σ7 H7} I7 n7=>by
   obtain⟨m',hm,w7⟩:=hN σ7 H7 n7
   refine⟨m',hm,i+1,σ7,H7,I7.unpinned,T.keep _ _ _ st5 fun b hb o e=>(I7.pin (b,o) (aQ _ (aQ _ (jAZ hb e)))).1,fun b hb=>?_,w7⟩
   obtain⟨o,e,d⟩:=T.obj _ _ st5 b hb
   exact(I7.pin (b,o) (aQ _ (aQ _ (jAZ hb e)))).2.1
  cases f with
  | next=>obtain⟨σ7,H7,I7,n7⟩:=q7; exact again I7 n7
  | cont=>obtain⟨σ7,H7,I7,n7⟩:=q7; exact again I7 n7
  | brk=>obtain⟨σ7,H7,I7,q7⟩:=q7; exact⟨σ7,H7,I7.unpinned,q7⟩
  | ret v=>obtain⟨x7,σ7,H7,I7,r7,q7⟩:=q7; exact⟨x7,σ7,H7,I7.unpinned,r7,q7⟩
end
theorem jCN {K:W.Frag}{a:Addr}{xs:List V}{g:TG}{tb:TS}{D:Ends}{σ:St}{H:Hp}(Pv:Nat->St->Hp->Prop)(h0:Pv 0 σ H)(hl:∀ i σ H,i<=xs.length->Pv i σ H->SqL K H a xs)
  (hs:∀ i x σ H,xs[i]?=some x->Pv i σ H->g x σ H fun σ2 H2=>tb { D with nx:=Pv (i+1),ct:=Pv (i+1),bk:=D.nx} σ2 H2) (hd:∀ σ H,Pv xs.length σ H->D.nx σ H):
  ∃ W:Nat->Nat->St->Hp->Prop,(∃ m,W 0 m σ H)/\∀ i m σ H,W i m σ H->
   ((Itl K a).stop i H/\D.nx σ H)\/((Itl K a).go i H/\∃ N:St->Hp->Prop,(∀ σ' H',N σ' H'->∃ m',m'<m/\W (i+1) m' σ' H')/\∀ x H',(Itl K a).yld i H x H'->g x σ H' fun σ2 H2=>tb { D with nx:=N,ct:=N,bk:=D.nx} σ2 H2):=by
 refine⟨fun i m σ H=>m=xs.length - i/\i<=xs.length/\Pv i σ H,⟨xs.length,by simp,bG _,h0⟩,?_⟩
 rintro i m σ H ⟨rfl,hi,p⟩
 have q:=hl i σ H hi p
 by_cases hlt:i<xs.length
 ·refine .inr ⟨⟨xs,xs[i],q,by simp [hlt]⟩,Pv (i+1),fun σ' H' p'=>⟨xs.length - (i+1),by omega,rfl,hlt,p'⟩,fun x H' y=>?_⟩
  obtain⟨e,y⟩:=y
  subst e
  exact hs i x σ _ (y xs q) p
 ·have e:i=xs.length:=by omega
  subst e
  exact .inl ⟨⟨xs,q,aE _⟩,hd σ H p⟩
theorem jFS {lo:Int}{n:Nat}{g:TG}{tb:TS}{D:Ends}{σ:St}{H:Hp}(Pv:Nat->St->Hp->Prop)(h0:Pv 0 σ H)
  (hs:∀ i σ H,i<n->Pv i σ H->g (.int (lo+i)) σ H fun σ2 H2=>tb { D with nx:=Pv (i+1),ct:=Pv (i+1),bk:=D.nx} σ2 H2) (hd:∀ σ H,Pv n σ H->D.nx σ H):
  ∃ W:Nat->Nat->St->Hp->Prop,(∃ m,W 0 m σ H)/\∀ i m σ H,W i m σ H->
   ((Itr lo n).stop i H/\D.nx σ H)\/((Itr lo n).go i H/\∃ N:St->Hp->Prop,(∀ σ' H',N σ' H'->∃ m',m'<m/\W (i+1) m' σ' H')/\∀ x H',(Itr lo n).yld i H x H'->g x σ H' fun σ2 H2=>tb { D with nx:=N,ct:=N,bk:=D.nx} σ2 H2):=by
 refine⟨fun i m σ H=>m=n - i/\i<=n/\Pv i σ H,⟨n,by simp,bG _,h0⟩,?_⟩
 rintro i m σ H ⟨rfl,hi,p⟩
 by_cases hlt:i<n
 ·refine .inr ⟨hlt,Pv (i+1),fun σ' H' p'=>⟨n - (i+1),by omega,rfl,hlt,p'⟩,fun x H' y=>?_⟩
  obtain⟨e,y⟩:=y
  subst e y
  exact hs i σ _ hlt p
 ·have e:i=n:=by omega
  subst e
  exact .inl ⟨aE _,hd σ H p⟩
end L2
namespace L2
open PySem PySem.Spec PyProof.Rows
abbrev R2:=V->V->Hp->VK->Prop
def OpR (X:Cx)(f:Value->Value->Sem Value)(r:R2):Prop:=
 ∀ (pins:List (Addr×Obj)) (s:Shared) (σ:St) (H:Hp) (x y:V) (v u:Value) (Q:VK),Inv X pins σ H s->RelV x v->RelV y u->r x y H Q->
  wpAny (model X.prog X.w) X.A (f v u) (EP X pins σ Q) X.xe s
def UnR (X:Cx)(f:Value->Sem Value)(r:V->Hp->VK->Prop):Prop:=
 ∀ (pins:List (Addr×Obj)) (s:Shared) (σ:St) (H:Hp) (x:V) (v:Value) (Q:VK),Inv X pins σ H s->RelV x v->r x H Q->
  wpAny (model X.prog X.w) X.A (f v) (EP X pins σ Q) X.xe s
def yC (X:Cx)(f:Value)(r:List V->Hp->VK->Prop):Prop:=
 ∀ (pins:List (Addr×Obj)) (s:Shared) (σ:St) (H:Hp) (xs:List V) (us:List Value) (Q:VK),Inv X pins σ H s->Vals xs us->r xs H Q->
  wpAny (model X.prog X.w) X.A (call f us) (EP X pins σ Q) X.xe s
def tOp (r:R2)(ta tb:TE):TE:=fun σ H Q=>ta σ H fun x H1=>tb σ H1 fun y H2=>r x y H2 Q
def tUn (r:V->Hp->VK->Prop)(ta:TE):TE:=fun σ H Q=>ta σ H fun x H1=>r x H1 Q
def rI (C:Int->Int->Prop)(g:Int->Int->V):R2:=fun x y H Q=>∃ i j,x= .int i/\y= .int j/\C i j/\Q (g i j) H
def rI0 (g:Int->Int->V):R2:=fun x y H Q=>∃ i j,x= .int i/\y= .int j/\Q (g i j) H
def rU (g:Int->V):V->Hp->VK->Prop:=fun x H Q=>∃ i,x= .int i/\Q (g i) H
section
variable {X:Cx}{a b c:Expr}{ta tb tc:TE}{pos:Pos}
theorem binT (ha:PE X a ta)(hb:PE X b tb){pins:List (Addr×Obj)}{s:Shared}{σ:St}{H:Hp}{R:V->V->Hp->Prop}(I:Inv X pins σ H s)
  (h:ta σ H fun x H1=>tb σ H1 fun y H2=>R x y H2) {Q:Value->Shared->Prop}{f:Value->Value->Sem Value}
  (hf:∀ v u s2 x y H2,Inv X pins σ H2 s2->RelV x v->RelV y u->R x y H2->wpAny (model X.prog X.w) X.A (f v u) Q X.xe s2):
  wpAny (model X.prog X.w) X.A (eval a X.env) (fun v s₁=>wpAny (model X.prog X.w) X.A (eval b X.env) (fun u s₂=>wpAny (model X.prog X.w) X.A (f v u) Q X.xe s₂) X.xe s₁) X.xe s:=by
 refine thn (ha pins s σ H _ I h) fun v s1 ⟨x,H1,I1,r1,q1⟩=>?_
 refine thn (hb pins s1 σ H1 _ I1 q1) fun u s2 ⟨y,H2,I2,r2,q2⟩=>?_
 exact hf v u s2 x y H2 I2 r1 r2 q2
theorem kY {op:Operator}{r:R2}(ho:OpR X (binaryOp op) r)(ha:PE X a ta)(hb:PE X b tb):PE X (.BinOp a op b pos) (tOp r ta tb):=by
 intro pins s σ H Q I h
 exact wpAny_BinOp (binT ha hb I h fun v u s2 x y H2 I2 rx ry q=>ho pins s2 σ H2 x y v u Q I2 rx ry q)
theorem pe_un {op:UnaryOp}{r:V->Hp->VK->Prop}(ho:UnR X (unaryOp op) r)(ha:PE X a ta):PE X (.UnaryOp op a pos) (tUn r ta):=by
 intro pins s σ H Q I h
 exact UnaryOp_ (thn (ha pins s σ H _ I h) fun v s1 ⟨x,H1,I1,r1,q1⟩=>ho pins s1 σ H1 x v Q I1 r1 q1)
theorem opI {f:Value->Value->Sem Value}{C:Int->Int->Prop}{g:Int->Int->Int}
  (rule:∀ (i j:Int) (t u:Tok) (s:Shared) (Q:Value->Shared->Prop) (E:Value->Shared->Prop),C i j->Q (.int (g i j) s.toks) { s with toks:=s.toks+1} ->wpAny (model X.prog X.w) X.A (f (.int i t) (.int j u)) Q E s):
  OpR X f (rI C fun i j=> .int (g i j)):=by
 intro pins s σ H x y v u Q I rx ry h
 obtain⟨i,j,rfl,rfl,hc,q⟩:=h
 obtain⟨t,rfl⟩:=rx
 obtain⟨t',rfl⟩:=ry
 exact rule i j t t' s _ _ hc ⟨.int (g i j),H,I.tok _,⟨_,rfl⟩,q⟩
theorem opI0 {f:Value->Value->Sem Value}{g:Int->Int->Int}
  (rule:∀ (i j:Int) (t u:Tok) (s:Shared) (Q:Value->Shared->Prop) (E:Value->Shared->Prop),Q (.int (g i j) s.toks) { s with toks:=s.toks+1} ->wpAny (model X.prog X.w) X.A (f (.int i t) (.int j u)) Q E s):
  OpR X f (rI0 fun i j=> .int (g i j)):=by
 intro pins s σ H x y v u Q I rx ry h
 obtain⟨i,j,rfl,rfl,q⟩:=h
 obtain⟨t,rfl⟩:=rx
 obtain⟨t',rfl⟩:=ry
 exact rule i j t t' s _ _ ⟨.int (g i j),H,I.tok _,⟨_,rfl⟩,q⟩
theorem opB0 {f:Value->Value->Sem Value}{g:Int->Int->Bool}
  (rule:∀ (i j:Int) (t u:Tok) (s:Shared) (Q:Value->Shared->Prop) (E:Value->Shared->Prop),Q (.bool (g i j)) s->wpAny (model X.prog X.w) X.A (f (.int i t) (.int j u)) Q E s):
  OpR X f (rI0 fun i j=> .bl (g i j)):=by
 intro pins s σ H x y v u Q I rx ry h
 obtain⟨i,j,rfl,rfl,q⟩:=h
 obtain⟨t,rfl⟩:=rx
 obtain⟨t',rfl⟩:=ry
 exact rule i j t t' s _ _ ⟨.bl (g i j),H,I,rfl,q⟩
def CPow (i j:Int):Prop:=0<=j/\j<=1000000/\i.natAbs<2 ^ 64
def CMul (i j:Int):Prop:=(-(2 ^ 64)<i/\i<2 ^ 64)\/(-(2 ^ 64)<j/\j<2 ^ 64)
theorem CMul.ok {i j:Int}(h:CMul i j):IntMulOk i j:=by
 rcases h with ⟨h1,h2⟩ | ⟨h1,h2⟩
 ·exact .of_left (intBits_le_64 h1 h2)
 ·exact .of_right (intBits_le_64 h1 h2)
theorem y9:OpR X (binaryOp .Add) (rI0 fun i j=> .int (i+j)):=opI0 fun _ _ _ _ _ _ _ q=>add_int q
theorem jHH:OpR X (binaryOp .Sub) (rI0 fun i j=> .int (i - j)):=opI0 fun _ _ _ _ _ _ _ q=>sub_int q
theorem jDM:OpR X (binaryOp .Mult) (rI CMul fun i j=> .int (i*j)):=opI fun _ _ _ _ _ _ _ hc q=>mul_int q hc.ok
theorem jHJ:OpR X (binaryOp .Mod) (rI (fun _ j=>0<j) fun i j=> .int (i % j)):=opI fun i j _ _ _ _ _ hc q=>by
 have h1:(0:Int)<j:=hc
 exact mod_int' (by omega) (by rw[Int.fmod_eq_emod_of_nonneg i (by omega)]; exact q)
theorem jO7:OpR X (binaryOp .Pow) (rI CPow fun i j=> .int (i ^ j.toNat)):=opI fun _ _ _ _ _ _ _ hc q=>pow_int_small hc.1 hc.2.1 hc.2.2 q
theorem jK6:OpR X (binaryOp .LShift) (rI CPow fun i j=> .int (i*2 ^ j.toNat)):=opI fun _ _ _ _ _ _ _ hc q=>lshift_int_small hc.1 hc.2.1 hc.2.2 q
theorem jO9:OpR X (binaryOp .BitAnd) (rI0 fun i j=> .int (Builtin.bitAnd i j)):=opI0 fun _ _ _ _ _ _ _ q=>and_int q
theorem op_or:OpR X (binaryOp .BitOr) (rI0 fun i j=> .int (Builtin.bitOr i j)):=opI0 fun _ _ _ _ _ _ _ q=>or_int q
theorem unI {f:Value->Sem Value}{g:Int->Int}
  (rule:∀ (i:Int) (t:Tok) (s:Shared) (Q:Value->Shared->Prop) (E:Value->Shared->Prop),Q (.int (g i) s.toks) { s with toks:=s.toks+1} ->wpAny (model X.prog X.w) X.A (f (.int i t)) Q E s):
  UnR X f (rU fun i=> .int (g i)):=by
 intro pins s σ H x v Q I rx h
 obtain⟨i,rfl,q⟩:=h
 obtain⟨t,rfl⟩:=rx
 exact rule i t s _ _ ⟨.int (g i),H,I.tok _,⟨_,rfl⟩,q⟩
theorem jR8:UnR X (unaryOp .USub) (rU fun i=> .int (-i)):=unI fun _ _ _ _ _ q=>neg_int q
theorem jR9:UnR X (unaryOp .Invert) (rU fun i=> .int (Builtin.bitNot i)):=unI fun _ _ _ _ _ q=>invert_int q
end
noncomputable def scal:V->V->Bool
 | .non, .non=>true | .non, .int _=>true | .int _, .non=>true | .non, .bl _=>true | .bl _, .non=>true | .non, .str _=>true | .str _, .non=>true
 | .int _, .int _=>true | .bl _, .bl _=>true | .str _, .str _=>true | .byt _, .byt _=>true
 | .int _, .str _=>true | .str _, .int _=>true | .bl _, .str _=>true | .str _, .bl _=>true
 | _,_=>false
def rEq:R2:=fun x y H Q=>scal x y=true/\Q (.bl (decide (x=y))) H
def rNe:R2:=fun x y H Q=>scal x y=true/\Q (.bl (!decide (x=y))) H
theorem jLS {i j:Int} :decide (V.int i=V.int j)=(i==j):=by
 rw[dq]
 simp
theorem jOT {i j:Bool} :decide (V.bl i=V.bl j)=(i==j):=by
 rw[dq]
 simp
theorem jLR {i j:Str} :decide (V.str i=V.str j)=(i==j):=by
 rw[dq]
 simp
theorem jLT {i j:Array UInt8} :decide (V.byt i=V.byt j)=(i.toList==j.toList):=by
 rw[dq]
 cases i
 cases j
 simp
section
variable {X:Cx}{a b c:Expr}{ta tb tc:TE}{pos:Pos}
theorem jL {pins:List (Addr×Obj)}{σ:St}{H:Hp}{s:Shared}{Q:VK}{k k':Bool}(I:Inv X pins σ H s)(q:Q (.bl k) H)(e:k=k'):EP X pins σ Q (.bool k') s:=by
 subst e
 exact⟨.bl k,H,I,rfl,q⟩
theorem op_eq:OpR X (compareOp .Eq) rEq:=by
 intro pins s σ H x y v u Q I rx ry h
 obtain⟨hs,q⟩:=h
 cases x with
 | non=>
  cases rx
  cases y with
  | non=>cases ry; exact PySem.EqNone.eq_none_none (jL I q (by simp))
  | bl j=>cases ry; exact PySem.EqNone.eq_none_bool (jL I q (by simp))
  | int j=>obtain⟨t',rfl⟩:=ry; exact PySem.EqNone.eq_none_int (jL I q (by simp))
  | str j=>obtain⟨t',rfl⟩:=ry; exact PySem.EqNone.eq_none_str (jL I q (by simp))
  | _=>exact absurd (show false=true from hs) ao
 | bl i=>
  cases rx
  cases y with
  | non=>cases ry; exact PySem.EqNone.eq_bool_none (jL I q (by simp))
  | bl j=>cases ry; exact eq_bool (jL I q jOT)
  | str j=>obtain⟨t',rfl⟩:=ry; exact PySem.EqMixed.eq_bool_str (jL I q (by simp))
  | _=>exact absurd (show false=true from hs) ao
 | int i=>
  obtain⟨t,rfl⟩:=rx
  cases y with
  | non=>cases ry; exact PySem.EqNone.eq_int_none (jL I q (by simp))
  | int j=>obtain⟨t',rfl⟩:=ry; exact eq_int (jL I q jLS)
  | str j=>obtain⟨t',rfl⟩:=ry; exact PySem.EqMixed.eq_int_str (jL I q (by simp))
  | _=>exact absurd (show false=true from hs) ao
 | str i=>
  obtain⟨t,rfl⟩:=rx
  cases y with
  | non=>cases ry; exact PySem.EqNone.eq_str_none (jL I q (by simp))
  | bl j=>cases ry; exact PySem.EqMixed.eq_str_bool (jL I q (by simp))
  | int j=>obtain⟨t',rfl⟩:=ry; exact PySem.EqMixed.eq_str_int (jL I q (by simp))
  | str j=>obtain⟨t',rfl⟩:=ry; exact eq_str (jL I q jLR)
  | _=>exact absurd (show false=true from hs) ao
 | byt i=>
  obtain⟨t,rfl⟩:=rx
  cases y with
  | byt j=>obtain⟨t',rfl⟩:=ry; exact PySem.W.eq_bytes (jL I q jLT)
  | _=>exact absurd (show false=true from hs) ao
 | _=>cases y <;> exact absurd (show false=true from hs) ao
theorem op_ne:OpR X (compareOp .NotEq) rNe:=by
 intro pins s σ H x y v u Q I rx ry h
 obtain⟨hs,q⟩:=h
 cases x with
 | non=>
  cases rx
  cases y with
  | non=>cases ry; exact PySem.EqNone.ne_none_none (jL I q (by simp))
  | bl j=>cases ry; exact PySem.EqNone.ne_none_bool (jL I q (by simp))
  | int j=>obtain⟨t',rfl⟩:=ry; exact PySem.EqNone.ne_none_int (jL I q (by simp))
  | str j=>obtain⟨t',rfl⟩:=ry; exact PySem.EqNone.ne_none_str (jL I q (by simp))
  | _=>exact absurd (show false=true from hs) ao
 | bl i=>
  cases rx
  cases y with
  | non=>cases ry; exact PySem.EqNone.ne_bool_none (jL I q (by simp))
  | bl j=>cases ry; exact ne_bool (jL I q (bR not jOT))
  | str j=>obtain⟨t',rfl⟩:=ry; exact PySem.EqMixed.ne_bool_str (jL I q (by simp))
  | _=>exact absurd (show false=true from hs) ao
 | int i=>
  obtain⟨t,rfl⟩:=rx
  cases y with
  | non=>cases ry; exact PySem.EqNone.ne_int_none (jL I q (by simp))
  | int j=>obtain⟨t',rfl⟩:=ry; exact ne_int (jL I q (bR not jLS))
  | str j=>obtain⟨t',rfl⟩:=ry; exact PySem.EqMixed.ne_int_str (jL I q (by simp))
  | _=>exact absurd (show false=true from hs) ao
 | str i=>
  obtain⟨t,rfl⟩:=rx
  cases y with
  | non=>cases ry; exact PySem.EqNone.ne_str_none (jL I q (by simp))
  | bl j=>cases ry; exact PySem.EqMixed.ne_str_bool (jL I q (by simp))
  | int j=>obtain⟨t',rfl⟩:=ry; exact PySem.EqMixed.ne_str_int (jL I q (by simp))
  | str j=>obtain⟨t',rfl⟩:=ry; exact ne_str (jL I q (bR not jLR))
  | _=>exact absurd (show false=true from hs) ao
 | byt i=>
  obtain⟨t,rfl⟩:=rx
  cases y with
  | byt j=>obtain⟨t',rfl⟩:=ry; exact PySem.W.ne_bytes (jL I q (bR not jLT))
  | _=>exact absurd (show false=true from hs) ao
 | _=>cases y <;> exact absurd (show false=true from hs) ao
theorem op_lt:OpR X (compareOp .Lt) (rI0 fun i j=> .bl (decide (i<j))):=opB0 fun _ _ _ _ _ _ _ q=>lt_int q
theorem op_gt:OpR X (compareOp .Gt) (rI0 fun i j=> .bl (decide (j<i))):=opB0 fun _ _ _ _ _ _ _ q=>gt_int q
theorem op_ge:OpR X (compareOp .GtE) (rI0 fun i j=> .bl (decide (j<=i))):=opB0 fun _ _ _ _ _ _ _ q=>ge_int q
theorem jO8:OpR X (compareOp .Is) (fun x y H Q=>y= .non/\Q (.bl (decide (x= .non))) H):=by
 intro pins s σ H x y v u Q I rx ry h
 obtain⟨rfl,q⟩:=h
 cases ry
 refine is_none_gen (jL I q ?_)
 cases x <;> first
  | (cases rx; rfl)
  | (obtain⟨t,rfl⟩:=rx; rfl)
theorem jS (b:Expr){op:CmpOp}(h:op≠ .In:=by decide)(h2:op≠ .NotIn:=by decide):behindInMarks op b=false:=by
 have e1:(op==CmpOp.In)=false:=by cases op <;> first | rfl | exact absurd rfl h
 have e2:(op==CmpOp.NotIn)=false:=by cases op <;> first | rfl | exact absurd rfl h2
 cases b <;> simp [behindInMarks,e1,e2]
theorem jPT {op:CmpOp}{r:R2}(ho:OpR X (compareOp op) r)(ha:PE X a ta)(hb:PE X b tb)(hm:behindInMarks op b=false):PE X (.Compare a [op] [b] pos) (tOp r ta tb):=by
 intro pins s σ H Q I h
 exact wpAny_Compare1 (binT ha hb I h fun v u s2 x y H2 I2 rx ry q=>ho pins s2 σ H2 x y v u Q I2 rx ry q) hm
def tTest (t:TE):TT:=fun σ H Q=>t σ H fun x H'=>∃ k,x= .bl k/\Q k H'
theorem jGG {op:CmpOp}{r:R2}(ho:OpR X (compareOp op) r)(ha:PE X a ta)(hb:PE X b tb)(hm:behindInMarks op b=false):PT X (.Compare a [op] [b] pos) (tTest (tOp r ta tb)):=by
 intro pins s σ H Q I h
 refine wpAny_isTrue_Compare1 (thn (ha pins s σ H _ I h) fun v s1 ⟨x,H1,I1,r1,q1⟩=>thn (hb pins s1 σ H1 _ I1 q1) fun u s2 ⟨y,H2,I2,r2,q2⟩=>
  thn (ho pins s2 σ H2 x y v u _ I2 r1 r2 q2) fun c s3 ⟨z,H3,I3,r3,k,e,q3⟩=>?_) hm
 subst e
 cases r3
 exact dk ⟨H3,I3,q3⟩
theorem jDO:(sizeLine:Nat)<2 ^ 63:=by rw[fN]; decide
theorem vals1 {x:V}{us:List Value}(r:Vals [x] us):∃ u,us=[u]/\RelV x u:=by
 cases r with
 | cons r1 r2=>cases r2; exact⟨_,rfl,r1⟩
end
end L2
namespace L2
open PySem PySem.Spec PyProof.Rows
structure ObjM (h:Heap)(x dx C:Addr)(mA:Str->Option Value):Prop where
 obj:h.get? x=some (instObj C dx)
 ns:h.Ns1 dx mA
 ne:dx≠x
theorem jKM {h:Heap}{dx:Addr}{mA:Str->Option Value}(n:h.Ns1 dx mA):∃ od,h.get? dx=some od/\∀ name,lookIn name od=some (mA name):=by
 obtain⟨o,es,ep,ho,hd,hk,_,hm⟩:=n
 refine⟨o,ho,fun name=>?_⟩
 have e:=hm name
 unfold nsFind findBy at e
 rw[<- Array.find?_toList] at e
 unfold lookIn
 rw[hd]
 dsimp only
 split
 ·rename_i y q
  rw[q] at e
  exact bR some e
 ·rename_i q
  rw[q] at e
  have a:es.toList.any (·.refKey)=false:=by
   rw[List.any_eq_false]
   intro y hy
   obtain⟨z,t,hkey⟩:=hk y (Array.mem_toList_iff.mp hy)
   simp [DictEntry.refKey,hkey]
  have a':¬ es.toList.any (·.refKey)=true:=by rw[a]; exact ao
  rw[aj a']
  exact bR some e
theorem ObjM.look {h:Heap}{x dx C:Addr}{mA:Str->Option Value}(I:ObjM h x dx C mA):∃ od,PySem.W.InstAt h x (instObj C dx) C (some od)/\∀ name,lookIn name od=some (mA name):=
 let ⟨od,ho,hl⟩:=jKM I.ns
 ⟨od,⟨I.obj,rfl,rfl,ho⟩,hl⟩
section
variable {prog:Program}{w:World}{A:Around}{E:Value->Shared->Prop}{s:Shared}{K:W.Frag}{x dx C f:Addr}{mA:Str->Option Value}{name:Str}{v:Value}
end
theorem RelO.some_of {v:V}{o:Option Value}(r:RelO (some v) o):∃ u,o=some u/\RelV v u:=by
 cases o with
 | none=>exact(show False from r).elim
 | some u=>exact⟨u,rfl,r⟩
section
variable {P:Program}{w:World}{H H':Hp}{h h':Heap}{a C dx:Addr}{fs fs':List (Str×V)}
theorem jQJ (hok:HOk P w H h)(e:H a=some (.ins C dx fs)):∃ mA,ObjM h a dx C mA/\(∀ f,RelO (fs.lookup f) (mA f))/\PySem.Within mA (fs.map (·.1))/\fs.length<=1000/\H dx=some (.own a):=by
 obtain⟨d,z,ne,ob,mA,n,r,q⟩:=(show ObjOk P w H h a (.ins C dx fs) from hok a _ e)
 exact⟨mA,⟨ob,n,ne⟩,r,q,z,d⟩
end
structure Cls (K:W.Frag)(C:Addr):Prop where
 pg:plainGet K C Str.empty=true
 hd:PySem.W.hasDictIn K C=true
 po:PySem.W.plainOver K C=true
 sa:findIn K (.ref C) "__setattr__" =some (some (.builtin "object.__setattr__"))
theorem Cls.get {K:W.Frag}{C:Addr}(c:Cls K C)(f:Str):plainGet K C f=true:=c.pg
section
variable {X:Cx}{pins:List (Addr×Obj)}{σ:St}{H:Hp}{s:Shared}{a C dx:Addr}{fs:List (Str×V)}{f:Str}{v:V}{A:Around}{E:Value->Shared->Prop}
end
section
variable {X:Cx}{o e value:Expr}{f:Str}{pos pos' tpos:Pos}{ta tv:TE}
end
section
variable {X:Cx}{pins:List (Addr×Obj)}{σ:St}{H:Hp}{s:Shared}{A:Around}{E:Value->Shared->Prop}{Q:Value->Shared->Prop}{c:Value}{b:Bool}
inductive TyOf (K:W.Frag) (H:Hp):V->Value->Prop where
 | non:TyOf K H .non (.type "NoneType")
 | bl (x:Bool):TyOf K H (.bl x) (.type "bool")
 | int (i:Int):TyOf K H (.int i) (.type "int")
 | str (x:Str):TyOf K H (.str x) (.type "str")
 | flt (x:UInt64):TyOf K H (.flt x) (.type "float")
 | lst {a:Addr}{xs:List V}(e:H a=some (.lst xs)):TyOf K H (.ref a) (.type "list")
 | frz {a:Addr}{o:Obj}{xs:List V}(e:H a=some (.frz o (.lst xs))):TyOf K H (.ref a) (.type "list")
 | tup {a:Addr}{xs:List V}(e:H a=some (.tup xs)):TyOf K H (.ref a) (.type "tuple")
 | dK {a:Addr}{kvs:List (Key×V)}(e:H a=some (.dK kvs)):TyOf K H (.ref a) (.type "dict")
 | dT {a:Addr}{kvs:List (List Key×V)}(e:H a=some (.dT kvs)):TyOf K H (.ref a) (.type "dict")
 | ins {a C dx:Addr}{fs:List (Str×V)}(e:H a=some (.ins C dx fs)) (cl:Cls K C) (ha:findIn K (.ref C) "__class__" =some (some (.builtin "object.__class__")))
   (hn:specialIn K (.builtin "object.__class__") "__get__" =some (some (.builtin "getset_descriptor.__get__"))) (htk:takesIn K (.builtin "object.__class__")=some true)
   (hm:mroIn K C (.type "object")=some true):TyOf K H (.ref a) (.ref C)
theorem jLB {x:V}{u t:Value}(I:Inv X pins σ H s)(rx:RelV x u)(ty:TyOf X.K H x t)(e:kitOne X.K t c=some b)(h:∀ tk,Q (.bool b) { s with toks:=tk}):
  wpAny (model X.prog X.w) A (call (.builtin "isinstance") [u,c]) Q E s:=by
 cases ty with
 | non=>cases (show u=Value.none from rx); exact cb PySem.W.kitx_none I.kIn True.intro e (fun z=>nomatch z) h
 | bl y=>cases (show u=Value.bool y from rx); exact cb PySem.W.kitx_bool I.kIn True.intro e (fun z=>nomatch z) h
 | int i=>obtain⟨t,q⟩:=(show ∃ t,u=Value.int i t from rx); cases q; exact cb PySem.W.kitx_int I.kIn True.intro e (fun z=>nomatch z) h
 | str y=>obtain⟨t,q⟩:=(show ∃ t,u=Value.str y t from rx); cases q; exact cb PySem.W.kitx_str I.kIn True.intro e (fun z=>nomatch z) h
 | flt y=>obtain⟨t,q⟩:=(show ∃ t,u=Value.float y t from rx); cases q; exact cb PySem.W.kitx_float I.kIn True.intro e (fun z=>nomatch z) h
 | @lst a xs ea=>
  cases (show u=Value.ref a from rx)
  obtain⟨_,_,n,_,h1⟩:=(show ObjOk X.prog X.w H s.heap a (.lst xs) from I.hok a _ ea)
  exact cb kitx_list I.kIn ⟨_,h1,rfl⟩ e (fun z=>nomatch z) h
 | @frz a ob xs ea=>
  cases (show u=Value.ref a from rx)
  obtain⟨_,_,_,n,_,h1⟩:=(show ObjOk X.prog X.w H s.heap a (.frz ob (.lst xs)) from I.hok a _ ea)
  exact cb kitx_list I.kIn ⟨_,h1,rfl⟩ e (fun z=>nomatch z) h
 | @tup a xs ea=>
  cases (show u=Value.ref a from rx)
  obtain⟨_,_,_,p⟩:=(show ObjOk X.prog X.w H s.heap a (.tup xs) from I.hok a _ ea)
  obtain⟨o,h1,h2,_⟩:=p.isTup
  exact cb PySem.W.kitx_tuple I.kIn ⟨o,h1,h2⟩ e (fun z=>nomatch z) h
 | @dK a kvs ea=>
  cases (show u=Value.ref a from rx)
  obtain⟨_,_,vs,_,p⟩:=(show ObjOk X.prog X.w H s.heap a (.dK kvs) from I.hok a _ ea)
  obtain⟨o,es,ep,h1,h2,_⟩:=p
  exact cb kitx_dict I.kIn ⟨o,h1,h2.1⟩ e (fun z=>nomatch z) h
 | @dT a kvs ea=>
  cases (show u=Value.ref a from rx)
  obtain⟨_,_,xs,_,o,es,ep,h1,h2,_⟩:=(show ObjOk X.prog X.w H s.heap a (.dT kvs) from I.hok a _ ea)
  exact cb kitx_dict I.kIn ⟨o,h1,h2.1⟩ e (fun z=>nomatch z) h
 | @ins a C dx fs ea cl ha hn htk hm=>
  cases (show u=Value.ref a from rx)
  obtain⟨mA,O,_⟩:=jQJ I.hok ea
  obtain⟨od,J,_⟩:=O.look
  exact cb (PySem.W.kitx_own (cl.get _) cl.hd ha hn htk hm) I.kIn J e (fun z=>nomatch z) h
end
end L2
namespace L2
open PySem PySem.Spec PyProof.Rows
structure Room (k:Nat)(A:Around):Prop where
 hd:A.handled=none
 dp:A.depth+3*k+5<recursionLimit
 un:A.units+16*k+200<cLine
theorem Room.mono {j k:Nat}{A:Around}(r:Room k A)(h:j<=k):Room j A:=⟨r.hd,by have:=r.dp; omega,by have:=r.un; omega⟩
theorem Room.deeper {k:Nat}{A:Around}(r:Room (k+1) A)(env:Env):Room k (A.deeper env):=
 ⟨r.hd,by have:=r.dp; show A.depth+1+3*k+5<_; omega,by have:=r.un; show A.units+3+16*k+200<_; omega⟩
theorem Room.depth {k:Nat}{A:Around}(r:Room k A):A.depth<recursionLimit:=by have:=r.dp; omega
theorem Room.units {k:Nat}{A:Around}(r:Room k A):A.units+64<cLine:=by have:=r.un; omega
def tNil:TA:=fun _ H Q=>Q [] H
def tCons (ta:TE)(tr:TA):TA:=fun σ H Q=>ta σ H fun x H1=>tr σ H1 fun xs H2=>Q (x::xs) H2
section
variable {X:Cx}{e:Expr}{es:List Expr}{te:TE}{t:TA}{pos:Pos}
theorem jFF:PA X [] tNil:=fun _ _ _ _ H Q I h=>Calls.spliced_nil ⟨[],H,I, .nil,h⟩
theorem jCZ (ha:PE X e te)(hr:PA X es t)(hs:starEach (e::es) X.env=(false,eval e X.env)::starEach es X.env:=by rfl):PA X (e::es) (tCons te t):=by
 intro pos pins s σ H Q I h
 rw[hs]
 show wpAny _ _ (spliced ((false,eval e X.env)::backTo pos (starEach es X.env))) _ _ s
 refine gX (thn (ha pins s σ H _ I h) fun u s1 ⟨x,H1,I1,r1,q1⟩=>?_)
 exact thn (hr pos pins s1 σ H1 _ I1 q1) fun us s2 ⟨xs,H2,I2,r2,q2⟩=>⟨x::xs,H2,I2, .cons r1 r2,q2⟩
def tLst (t:TA):TE:=fun σ H Q=>t σ H fun xs H1=>xs.length<=sizeLine/\∀ p,H1 p=none->Q (.ref p) (upd H1 p (.lst xs))
theorem jO6 (h:PA X es t):PE X (.List es pos) (tLst t):=by
 intro pins s σ H Q I hq
 refine wpAny_List_spliced (thn (h pos pins s σ H _ I hq) fun us s1 ⟨xs,H1,I1,r,z,q⟩=>⟨by rw[<- r.length]; exact z,?_⟩)
 have hf:H1 s1.heap.objs.size=none:=I1.hok.fresh (aE _)
 refine⟨.ref s1.heap.objs.size,upd H1 s1.heap.objs.size (.lst xs),I1.laid (t':=s1.toks) (fun b u e=>ae _ e) (aE _) ?_,rfl,q _ hf⟩
 exact⟨z,us,0,r,aA _ rfl⟩
end
abbrev Sp:=List V->Hp->VK->XK->Prop
abbrev CXT:=List Env->Hp->Shared->XK->Value->Shared->Prop
structure Env0 (P:Program)(w:World)(K:W.Frag)(mg:Str->Option Value)(base:Heap)(A:Around)(outer:List Env)(s:Shared)(H:Hp):Prop where
 frames:A.frames=some outer
 mod:Mod K mg base
 bs:∀ b o,base.get? b=some o->s.heap.get? b=some o/\H b=none
 bsz:base.objs.size<=s.heap.objs.size
 funs:s.heap.FunFrames base outer
 frf:∀ b∈frs outer,H b=none
 hok:HOk P w H s.heap
 bare:AllBare s.gens
def CE (outer:List Env)(P:Program)(w:World)(H:Hp)(s:Shared)(Q:VK)(u:Value)(s':Shared):Prop:=
 ∃ v H',s'.os=s.os/\AllBare s'.gens/\Un (frs outer) [] H H' s.heap s'.heap/\HOk P w H' s'.heap/\RelV v u/\Q v H'
def CR (CX:CXT)(outer:List Env)(P:Program)(w:World)(H:Hp)(s:Shared)(Q:VK)(E:XK)(r:Result)(s':Shared):Prop:=
 match r with
 | .ok (.ret u)=>CE outer P w H s Q u s'
 | .ok _=>False
 | .error e=>CX outer H s E e s'
structure FnOk (P:Program)(w:World)(K:W.Frag)(mg:Str->Option Value)(base:Heap)(CX:CXT)(k:Nat)(f:Addr)(fd:FuncData)(ps:List Str)(sp:Sp):Prop where
 len:∀ vs H Q E,sp vs H Q E->vs.length=ps.length
 run:∀ (A:Around) (outer:List Env) (s:Shared) (H:Hp) (args:Args) (us:List Value) (vs:List V) (Q:VK) (E:XK),Room k A->Env0 P w K mg base A outer s H->BindsTo s fd args (ps.zip us)->Vals vs us->sp vs H Q E->
  codeAny (model P w) A (.call (.ref f) args) (CR CX outer P w H s Q E) s
section
variable {X:Cx}{pins:List (Addr×Obj)}{σ:St}{H:Hp}{s s':Shared}
theorem Inv.env0 (I:Inv X pins σ H s):Env0 X.prog X.w X.K X.mg X.base X.A X.stack s H:=
 ⟨I.ok.frames,I.ok.mod,I.bs,bA I.ok.bsz I.sz,I.stack,I.stkFree,I.hok,I.bare⟩
theorem Inv.after {Q:VK}{u:Value}(I:Inv X pins σ H s)(h:CE X.stack X.prog X.w H s Q u s'):EP X pins σ Q u s':=by
 obtain⟨v,H',os,bare,un,hok,r,q⟩:=h
 obtain⟨hh,g,d,t,os'⟩:=s'
 obtain rfl:os'=s.os:=os
 exact⟨v,H',I.call (h':=hh) (g':=g) (d':=d) (t':=t) (ch:=[]) un hok bare (fun b z=>absurd z (by simp)),r,q⟩
end
def tCall (sp:Sp)(dvs:List V)(E:XK)(t:TA):TE:=fun σ H Q=>t σ H fun vs H1=>sp (vs++dvs) H1 Q E
def Binds (K:W.Frag)(fd:FuncData)(ps:List Str)(ds:List Value):Prop:=
 ∀ (s:Shared) (us:List Value),K.In s.heap->(us++ds).length=ps.length->BindsTo s fd ⟨us,[]⟩ (ps.zip (us++ds))
theorem Binds.all {K:W.Frag}{fd:FuncData}{ps:List Str}(h:∀ us:List Value,us.length=ps.length->bindArgs fd ⟨us,[]⟩=pure (ps.zip us)):Binds K fd ps []:=fun s us _ hl=>by
 rw[bo] at hl ⊢
 exact .of_eq (h us hl)
def jM8 (CX:CXT)(X:Cx)(E:XK):Prop:=∀ (pins:List (Addr×Obj)) (σ:St) (H:Hp) (s:Shared) (e:Value) (s':Shared),Inv X pins σ H s->CX X.stack H s E e s'->X.xe e s'
section
variable {X:Cx}{CX:CXT}{k:Nat}{f C:Addr}{fd:FuncData}{ps:List Str}{sp:Sp}{dvs:List V}{ds:List Value}{E:XK}{x m:Str}{p pos apos:Pos}{e o:Expr}{es:List Expr}{ta:TE}{t:TA}
theorem jRP {pins:List (Addr×Obj)}{σ:St}{H:Hp}{s:Shared}{Q:VK}{us:List Value}{vs:List V}(F:FnOk X.prog X.w X.K X.mg X.base CX k f fd ps sp)(hr:Room k X.A)(hb:Binds X.K fd ps ds)(hd:Vals dvs ds)(hx:jM8 CX X E)
  (I:Inv X pins σ H s) (r:Vals vs us) (h:sp (vs++dvs) H Q E):wpAny (model X.prog X.w) X.A (call (.ref f) us) (EP X pins σ Q) X.xe s:=by
 have r2:Vals (vs++dvs) (us++ds):=r.append hd
 have hl:(us++ds).length=ps.length:=by rw[<- r2.length]; exact F.len _ _ _ _ h
 refine fE (dv (F.run X.A X.stack s H ⟨us,[]⟩ (us++ds) (vs++dvs) Q E hr I.env0 (hb s us I.kIn hl) r2 h) fun r s' hq=>?_)
 cases r with
 | error e=>exact hx pins σ H s e s' I hq
 | ok fl=>
  cases fl with
  | ret u=>exact I.after hq
  | next=>exact False.elim hq
  | brk=>exact False.elim hq
  | cont=>exact False.elim hq
theorem jPU (F:FnOk X.prog X.w X.K X.mg X.base CX k f fd ps sp)(hr:Room k X.A)(hg:Gl X x)(hm:X.mg x=some (.ref f))(hk:keepIn X.K (.ref f)=true)(hb:Binds X.K fd ps ds)(hd:Vals dvs ds)(hx:jM8 CX X E)
  (ha:PA X (e::es) t) (hdb:(x==("__debug__" :Str))=false:=by decide) (he:starEach (e::es) X.env=(false,eval e X.env)::starEach es X.env:=by rfl) (hpl:(backTo pos (starEach es X.env)).any (·.1)=false:=by rfl):
  PE X (.Call (.Name x p) (e::es) [] pos) (tCall sp dvs E t):=by
 intro pins s σ H Q I h
 refine da (jBZ I hg hm ?_ hdb)
 refine gY (h₀:=X.base) I.ok.mod.kin hk (thn (ha pos pins s σ H _ I h) fun us s1 ⟨vs,H1,I1,r,q⟩=>⟨I1.kIn,?_⟩) he hpl
 exact jRP F hr hb hd hx I1 r q
end
def PK (X:Cx)(kws:List Keyword)(t:TA):Prop:=
 ∀ (pos:Pos) (pins:List (Addr×Obj)) (s:Shared) (σ:St) (H:Hp) (Q:List V->Hp->Prop),Inv X pins σ H s->t σ H Q->wpAny (model X.prog X.w) X.A (evalAll ((backToKw pos (keywordEach kws X.env)).map (·.2))) (AP X pins σ Q) X.xe s
section
variable {X:Cx}{CX:CXT}{k:Nat}{f C:Addr}{fd:FuncData}{ps ks:List Str}{sp:Sp}{E:XK}{x m:Str}{p pos apos kpos:Pos}{e o:Expr}{es:List Expr}{kws:List Keyword}{te ta:TE}{t tk:TA}{nm:Option Str}
theorem jRZ:PK X [] tNil:=fun _ _ _ _ H Q I h=>wpAny_evalAll_nil ⟨[],H,I, .nil,h⟩
theorem jPL (ha:PE X e te)(hr:PK X kws t):PK X (⟨nm,e,kpos⟩::kws) (tCons te t):=by
 intro pos pins s σ H Q I h
 show wpAny _ _ (evalAll ((do let v <- eval e X.env; standAt pos; pure v)::(backToKw pos (keywordEach kws X.env)).map (·.2))) _ _ s
 refine wpAny_evalAll_cons (aa (thn (ha pins s σ H _ I h) fun u s1 ⟨x,H1,I1,r1,q1⟩=>aa (eS (ag ?_))))
 exact thn (hr pos pins s1 σ H1 _ I1 q1) fun us s2 ⟨xs,H2,I2,r2,q2⟩=>⟨x::xs,H2,I2, .cons r1 r2,q2⟩
variable {g:List Value->List Value->List Value}{gV:List V->List V->List V}
end
structure FnScope (N P:List Str)(sc:Scope):Prop where
 kind:sc.kind= .function
 co:sc.isCoroutine=false
 gen:sc.isGenerator=false
 nd:N.Nodup
 pre:N.take P.length=P
 par:∀ x∈P,sc.names.lookup x=some .local\/sc.names.lookup x=some .cell
 nofree:∀ y∈sc.names,y.2≠ .free
theorem jG0 {kindOf:Str->Option NameKind}{x:Str} :∀ {binds:List (Str×Value)}{m:Str->Option Value},(∀ v,(x,v)∉binds)->bindL kindOf binds m x=m x
 | [],_,_=>rfl
 | (n,v)::r,m,h=>by
  unfold bindL
  rw[jG0 fun w hw=>h w (ai _ hw)]
  split
  ·have:x≠n:=by rintro rfl; exact h v ak
   simp [this]
  ·rfl
theorem jG2 {kindOf:Str->Option NameKind}{x:Str} :∀ {binds:List (Str×Value)}{m:Str->Option Value},(∀ v,(x,v)∉binds)->bindC kindOf binds m x=m x
 | [],_,_=>rfl
 | (n,v)::r,m,h=>by
  unfold bindC
  rw[jG2 fun w hw=>h w (ai _ hw)]
  split
  ·rfl
  ·have:x≠n:=by rintro rfl; exact h v ak
   simp [this]
theorem jG1 {kindOf:Str->Option NameKind}{x:Str}{v:Value} :∀ {P:List Str}{vs:List Value}{i:Nat}{m:Str->Option Value},P.Nodup->P[i]?=some x->vs[i]?=some v->kindOf x=some .local->
  bindL kindOf (P.zip vs) m x=some v
 | [],_,_,_,_,h,_,_=>by simp at h
 | _::_,[],_,_,_,_,h,_=>by simp at h
 | p::P,w::vs,0,m,nd,h1,h2,hk=>by
  simp at h1 h2; subst h1; subst h2
  show bindL kindOf ((p,w)::P.zip vs) m p=_
  unfold bindL
  rw[jG0 fun v hv=>(bK.mp nd).1 (dJ hv).1,aq hk]
  simp
 | p::P,w::vs,i+1,m,nd,h1,h2,hk=>by
  show bindL kindOf ((p,w)::P.zip vs) m x=_
  unfold bindL
  exact jG1 (i:=i) (bK.mp nd).2 (by simpa using h1) (by simpa using h2) hk
theorem jG3 {kindOf:Str->Option NameKind}{x:Str}{v:Value} :∀ {P:List Str}{vs:List Value}{i:Nat}{m:Str->Option Value},P.Nodup->P[i]?=some x->vs[i]?=some v->kindOf x≠some .local->
  bindC kindOf (P.zip vs) m x=some v
 | [],_,_,_,_,h,_,_=>by simp at h
 | _::_,[],_,_,_,_,h,_=>by simp at h
 | p::P,w::vs,0,m,nd,h1,h2,hk=>by
  simp at h1 h2; subst h1; subst h2
  show bindC kindOf ((p,w)::P.zip vs) m p=_
  unfold bindC
  rw[jG2 fun v hv=>(bK.mp nd).1 (dJ hv).1,aj hk]
  simp
 | p::P,w::vs,i+1,m,nd,h1,h2,hk=>by
  show bindC kindOf ((p,w)::P.zip vs) m x=_
  unfold bindC
  exact jG3 (i:=i) (bK.mp nd).2 (by simpa using h1) (by simpa using h2) hk
def y0 (N:List Str)(vs:List V):St:=vs.map some++List.replicate (N.length - vs.length) none
def cxOf (CX:CXT)(P:Program)(w:World)(K:W.Frag)(mg:Str->Option Value)(base:Heap)(N:List Str)(qual:Str)(scope:Scope)(f:Addr)(cd:Value)(A:Around)(outer:List Env)(s:Shared)(H:Hp)(E:XK):Cx where
 prog:=P
 w:=w
 K:=K
 mg:=mg
 base:=base
 A:=A.deeper (envOfC qual scope s.heap.objs.size f cd)
 N:=N
 s₀:=s
 H₀:=H
 env:=envOfC qual scope s.heap.objs.size f cd
 outer:=outer
 stack:=envOfC qual scope s.heap.objs.size f cd::outer
 ex:=[]
 calm:=true
 fn:=fun _=>true
 pn:=[]
 xe:=fun e s'=>wpAny (model P w) (A.deeper (envOfC qual scope s.heap.objs.size f cd)) (leaving (envOfC qual scope s.heap.objs.size f cd) e) (fun _ s''=>CX outer H s E e s'') (fun e' s''=>CX outer H s E e' s'') s'
theorem jI9 {sc:Scope}{n:Nat}{x:Str}(h:sc.names.lookup x=some .cell):∃ c,(cellsFrom n sc.names []).lookup x=some c:=by
 have q:=gb sc.names n [] (.inl h)
 exact dW.mp q
theorem jFQ {CX:CXT}{P:Program}{w:World}{K:W.Frag}{mg:Str->Option Value}{base:Heap}{N ps:List Str}{qual:Str}{scope:Scope}{f:Addr}{cd:Value}{A:Around}{outer:List Env}{s s1:Shared}{H:Hp}{E:XK}{us:List Value}{vs:List V}
  (S:FnScope N ps scope) (hd:A.handled=none) (e0:Env0 P w K mg base A outer s H) (hl:vs.length=ps.length) (r:Vals vs us)
  (x:InCallC s s.heap.objs.size (bindL (envOfC qual scope s.heap.objs.size f cd).kindOf (ps.zip us) fun _=>none) (cellsFrom (s.heap.objs.size+1) scope.names []) (bindC (envOfC qual scope s.heap.objs.size f cd).kindOf (ps.zip us) fun _=>none) s1):
  Inv (cxOf CX P w K mg base N qual scope f cd A outer s H E) [] (y0 N vs) H s1:=by
 have hpl:ps.length<=N.length:=by have:=bR List.length S.pre; rw[bP] at this; omega
 obtain⟨h1,tk,rfl,hk⟩:=x.done
 have noA:∀ b:Addr,b∉(cxOf CX P w K mg base N qual scope f cd A outer s H E).ex:=fun b z=>absurd (show b∈([]:List Addr) from z) (by simp)
 refine⟨⟨e0.mod,S.kind,rfl,rfl,aE _,fun y z c h1 h2=>?_,fun y hy=>?_,fun y c _ h=>?_,fun _=>hd,Around.frames_deeper e0.frames, .inr ⟨rfl,rfl⟩,fun b z=>absurd z (noA b),e0.bs,e0.bsz,fun b _ _=>noA b,fun b z=>absurd z (noA b),e0.funs,e0.frf⟩,
  rfl,e0.bare,Un.kept hk,⟨_,x.toInCall.ns,fun i y v h1 h2 h3=>?_⟩,fun y c h=>⟨_,x.cell y c h⟩,e0.hok.fresh (aE _),fun y c h=>?_,fun p hp=>absurd (show p∈([]:List (Addr×Obj)) from hp) (by simp),e0.hok.kept hk,?_⟩
 ·exact name_of_addr x.apart (cA h1) (cA h2)
 ·have hy:scope.names.lookup y=some .cell\/scope.names.lookup y=some .free:=hy
  rcases hy with hy | hy
  ·exact jI9 hy
  ·exact absurd rfl (S.nofree _ (cA hy))
 ·exact cM (x.above y c (cA h))
 ·have hi:i<vs.length:=by
   unfold y0 at h2
   by_cases hi:i<vs.length
   ·exact hi
   ·rw[bb (by simpa using hi)] at h2
    rw[iJ] at h2
    split at h2 <;> cases h2
  have ha:vs[i]?=some v:=by
   unfold y0 at h2
   rw[bO (by simpa using hi),aP] at h2
   cases e:vs[i]? with
   | none=>rw[e] at h2; cases h2
   | some a=>rw[e] at h2; cases h2; rfl
  obtain⟨u,hu,rv⟩:=r.get ha
  have hp:ps[i]?=some y:=by
   rw[<- S.pre,cc (by omega)]; exact h1
  have ndP:ps.Nodup:=by rw[<- S.pre]; exact S.nd.sublist (eV _ _)
  refine⟨u,rv,?_⟩
  rcases S.par y (aN hp) with k | k
  ·exact .inl ⟨k,jG1 ndP hp hu k⟩
  ·obtain⟨c,e⟩:=jI9 (n:=s.heap.objs.size+1) k
   refine .inr ⟨.inl k,c,e,?_⟩
   have q:=x.cell y c e
   rw[jG3 ndP hp hu (by show scope.names.lookup y≠_; rw[k]; decide)] at q
   exact q
 ·exact e0.hok.fresh (cM (x.above y c (cA h)))
 ·unfold y0
  show _=N.length
  rw[aK,ah,dF]
  omega
theorem fn_of {CX:CXT}{P:Program}{w:World}{K:W.Frag}{mg:Str->Option Value}{base:Heap}{k:Nat}{f:Addr}{name qual:Str}{params:Arguments}{body:List Stmt}{scope:Scope}{dV kV doc pm cdv ct oc:Value}{an od:Option Addr}
  {osl:Array (Option Value)}{N ps:List Str}{sp:Sp}(lk:K.lookup f=some ⟨oc,od, .func (PySem.W.fnOf name qual params body scope dV kV doc pm an cdv ct),osl⟩) (hcd:PySem.W.codeIn K cdv qual=true) (S:FnScope N ps scope)
  (len:∀ vs H Q E,sp vs H Q E->vs.length=ps.length)
  (hbody:∀ (A:Around) (outer:List Env) (s:Shared) (H:Hp) (vs:List V) (Q:VK) (E:XK),Room k (A.deeper (envOfC qual scope s.heap.objs.size f cdv))->sp vs H Q E->
   ∃ t,PSs (cxOf CX P w K mg base N qual scope f cdv A outer s H E) body t/\t { nx:=fun _ H'=>Q .non H',rt:=Q} (y0 N vs) H):
  FnOk P w K mg base CX (k+1) f (PySem.W.fnOf name qual params body scope dV kV doc pm an cdv ct) ps sp:=by
 refine⟨len,fun A outer s H args us vs Q E hr e0 hb r hsp=>?_⟩
 have hl:=len _ _ _ _ hsp
 have KX:K.In s.heap:=e0.mod.kin.keeps fun b o e=>(e0.bs b o e).1
 have lim:s.heap.NoLimit:=e0.mod.nolimit.keeps fun b o e=>(e0.bs b o e).1
 have hkind:∀ y∈ps.zip us,scope.names.lookup y.1=some .local\/(scope.names.lookup y.1=some .cell/\((cellsFrom (s.heap.objs.size+1) scope.names []).lookup y.1).isSome=true):=fun ⟨n,v⟩ hy=>by
  rcases S.par n (dJ hy).1 with q | q
  ·exact .inl q
  ·exact .inr ⟨q,gb _ _ _ (.inl q)⟩
 refine codeAny_call_function hr.depth (KX _ _ lk) rfl S.co S.gen rfl (jw KX hcd) (hb _ _ _ _ ?_)
 refine gZ S.kind hkind fun env he s1 x=>?_
 subst he
 refine⟨lim.keeps x.toInCall.keep,codeAny_func ?_⟩
 obtain⟨t,ht,hq⟩:=hbody A outer s H vs Q E (hr.deeper _) hsp
 have I:Inv (cxOf CX P w K mg base N qual scope f cdv A outer s H E) [] (y0 N vs) H s1:=jFQ S hr.hd e0 hl r x
 refine bN (ht [] s1 (y0 N vs) H _ I hq) (fun fl s' hs=>?_) fun e s' hs=>hs
 have fin:∀ {σ':St}{H':Hp}{v:V}{u:Value},Inv (cxOf CX P w K mg base N qual scope f cdv A outer s H E) [] σ' H' s'->RelV v u->Q v H'->CE outer P w H s Q u s':=
  fun {σ' H' v u} J rv q=>⟨v,H',J.os,J.bare,J.base,J.hok,rv,q⟩
 cases fl with
 | ret u=>
  obtain⟨v,σ',H',J,rv,q⟩:=hs
  exact fin J rv q
 | next=>
  obtain⟨σ',H',J,q⟩:=hs
  exact fin (v:=V.non) (u:=Value.none) J rfl q
 | brk=>
  obtain⟨_,_,_,q⟩:=hs
  exact False.elim q
 | cont=>
  obtain⟨_,_,_,q⟩:=hs
  exact False.elim q
end L2
namespace L2
open PySem PySem.Spec PyProof.Rows
section
variable {X:Cx}{x:Str}{p pos:Pos}{e:Expr}{es:List Expr}{t:TA}{id T:String}{r:List V->Hp->VK->Prop}
def tCB (r:List V->Hp->VK->Prop)(t:TA):TE:=fun σ H Q=>t σ H fun vs H1=>r vs H1 Q
theorem jHG (hc:yC X (.builtin id) r)(hg:Gl X x)(hm:X.mg x=none)(hv:bootBuiltins x=some (.builtin id))(ha:PA X (e::es) t)(hn:x≠ "__name__" :=by decide)(hdb:(x==("__debug__" :Str))=false:=by decide)
  (he:starEach (e::es) X.env=(false,eval e X.env)::starEach es X.env:=by rfl) (hpl:(backTo pos (starEach es X.env)).any (·.1)=false:=by rfl):PE X (.Call (.Name x p) (e::es) [] pos) (tCB r t):=by
 intro pins s σ H Q I h
 refine da (jD4 I hg hm hv ?_ hn hdb)
 exact PyProof.Rows.callWith_builtin1 (thn (ha pos pins s σ H _ I h) fun us s1 ⟨vs,H1,I1,r1,q1⟩=>hc pins s1 σ H1 vs us Q I1 r1 q1) he hpl
theorem jK2 (hc:yC X (.type T) r)(hg:Gl X x)(hm:X.mg x=none)(hv:bootBuiltins x=some (.type T))(ha:PA X (e::es) t)(hn:x≠ "__name__" :=by decide)(hdb:(x==("__debug__" :Str))=false:=by decide)
  (he:starEach (e::es) X.env=(false,eval e X.env)::starEach es X.env:=by rfl) (hpl:(backTo pos (starEach es X.env)).any (·.1)=false:=by rfl):PE X (.Call (.Name x p) (e::es) [] pos) (tCB r t):=by
 intro pins s σ H Q I h
 refine da (jD4 I hg hm hv ?_ hn hdb)
 exact dr (thn (ha pos pins s σ H _ I h) fun us s1 ⟨vs,H1,I1,r1,q1⟩=>hc pins s1 σ H1 vs us Q I1 r1 q1) he hpl
end
end L2
namespace HT
open PySem PyProof.Rows
noncomputable def lexLt:List Int->List Int->Bool
 | [],[]=>false
 | [],_::_=>true
 | _::_,[]=>false
 | x::xs,y::ys=>if x=y then lexLt xs ys else decide (x<y)
theorem lexLt_cons (x y:Int)(xs ys:List Int):lexLt (x::xs) (y::ys)=if x=y then lexLt xs ys else decide (x<y):=rfl
theorem jEA:lexLt [] []=false:=rfl
theorem jDD (y:Int)(ys:List Int):lexLt [] (y::ys)=true:=rfl
theorem jDE (x:Int)(xs:List Int):lexLt (x::xs) []=false:=rfl
theorem jNL (A:Around)(s:Shared)(a:Int)(t:Tok)(c:Int)(u:Tok):∃ e,SeqAt.EqAt A s (.int a t) (.int c u) e/\(e=true↔a=c):=
 ⟨(a==c),g0 a t c u,by simp⟩
theorem rcLt_int (A:Around)(s:Shared)(a:Int)(t:Tok)(c:Int)(u:Tok)(prog:Program)(w:World)(E:Value->Shared->Prop)(Q:Value->Shared->Prop)(h:Q (.bool (decide (a<c))) s):
  wpAny (model prog w) A (richCompare .Lt (.int a t) (.int c u)) Q E s:=
 (PyProof.Rows.lt_int h:wpAny (model prog w) A (compareOp .Lt (.int a t) (.int c u)) Q E s)
section
open PySem.SeqAt
open PySem.AutoSeq1 (wpAny_loadPart')
open PySem.MeetsSeq PySem.MeetsSeq2 PySem.MeetsSeq3
theorem tuple_lt_ints (l b:Addr)(items items2:Array Value)(n n2:Nat)(dd dd2:Option Addr)(sl sl2:Array (Option Value))(ns ms:List Int)(hi:IntsAre items.toList ns)(hj:IntsAre items2.toList ms):
  Meets (Builtin.«tuple.__lt__» ⟨[.ref l, .ref b],[]⟩)
   (fun _ R s=>s.heap.get? l=some { cls:= .type "tuple",dict:=dd,data:= .seq items n,slots:=sl} /\s.heap.get? b=some { cls:= .type "tuple",dict:=dd2,data:= .seq items2 n2,slots:=sl2} /\
    R (.ok (.ret (.bool (lexLt ns ms)))) s):=
 .of_wp fun prog w A R s h=>by
  obtain⟨hp,g,d,tk,os⟩:=s; obtain⟨hl,hb,h⟩:=h
  have f2:=AutoSeq1.sub_tuple_tuple
  have z1:items.size=ns.length:=by rw[<- hi.length]; simp
  have z2:items2.size=ms.length:=by rw[<- hj.length]; simp
  wp_walk using cq hl,cq hb,wpAny_forIn_list _ (fun rest b s'=>b.1=none/\s'=⟨hp,g,d,tk,os⟩/\∃ (vs ws:List Value) (ns' ms':List Int),rest=vs.zip ws/\
   IntsAre vs ns'/\IntsAre ws ms'/\ns'.length+items2.size=ms'.length+items.size/\R (.ok (.ret (.bool (lexLt ns' ms')))) ⟨hp,g,d,tk,os⟩) _
  case turn=>
   rintro ⟨y,x⟩ rest b s' ⟨hb',rfl,vs,ws,ns',ms',hz,hvi,hwi,hlen,hR⟩
   cases hvi with
   | nil=>rw[List.zip_nil_left] at hz; cases hz
   | cons a t hvi'=>
    cases hwi with
    | nil=>rw[List.zip_nil_right] at hz; cases hz
    | cons c u hwi'=>
     rw[eF] at hz
     injection hz with hyx hrest
     injection hyx with hy hx
     subst hy hx
     rw[lexLt_cons] at hR
     simp only [aG] at hlen
     obtain⟨e,he,hiff⟩:=jNL A.in1 ⟨hp,g,d,tk,os⟩ a t c u
     refine aa (he prog w _ _ ?_)
     cases e with
     | true=>
      rw[aq (hiff.mp rfl)] at hR
      wp_walk
      exact⟨rfl,rfl,_,_,_,_,hrest,hvi',hwi',by omega,hR⟩
     | false=>
      rw[aj (fun q=>absurd (hiff.mpr q) ao)] at hR
      have hri:=rcLt_int A.in1 ⟨hp,g,d,tk,os⟩ a t c u prog w
      wp_walk using hri
      exact⟨_,rfl,by simpa using hR⟩
  case fin=>
   rintro ⟨b1,b2⟩ s' ⟨hb',rfl,vs,ws,ns',ms',hz,hvi,hwi,hlen,hR⟩
   simp only at hb'
   subst hb'
   have hv:lexLt ns' ms'=decide (items.size<items2.size):=by
    cases hvi with
    | nil=>
     cases hwi with
     | nil=>
      simp only [cV] at hlen
      rw[jEA]
      exact(aR (by omega)).symm
     | cons c u hw=>
      simp only [cV,aG] at hlen
      rw[jDD]
      exact(aO (by omega)).symm
    | cons a t hv=>
     cases hwi with
     | nil=>
      simp only [cV,aG] at hlen
      rw[jDE]
      exact(aR (by omega)).symm
     | cons c u hw=>
      rw[eF] at hz
      cases hz
   rw[hv] at hR
   wp_walk
   exact⟨_,rfl,by simpa [Builtin.Tuple.tupleCompareSizes] using hR⟩
  case h=>
   exact⟨rfl,rfl,items.toList,items2.toList,ns,ms,rfl,hi,hj,by omega,h⟩
end
section
variable {prog:Program}{w:World}{A:Around}{E:Value->Shared->Prop}{s:Shared}
theorem lt_tupInts {l b:Addr}{items items2:Array Value}{ns ms:List Int}{Q:Value->Shared->Prop}(hl:IsTup s.heap l items)(hb:IsTup s.heap b items2)(hi:IntsAre items.toList ns)(hj:IntsAre items2.toList ms)
  (hu:A.units<cLine) (h:Q (.bool (lexLt ns ms)) s):wpAny (model prog w) A (compareOp .Lt (.ref l) (.ref b)) Q E s:=by
 obtain⟨⟨cls,dd,data,sl⟩,ho,hc,n,hd⟩:=id hl
 obtain⟨⟨cls2,dd2,data2,sl2⟩,ho2,hc2,n2,hd2⟩:=id hb
 simp only at hc hd hc2 hd2
 subst hc hd hc2 hd2
 exact richCompare_meets_room (op:= .Lt) ⟨_,ho,rfl⟩ ⟨_,ho2,rfl⟩ gt iV (iK _ _) (tuple_lt_ints l b items items2 n n2 dd dd2 sl sl2 ns ms hi hj)
  ⟨ho,ho2,show Value.bool (lexLt ns ms)≠Value.notImplemented/\Q (.bool (lexLt ns ms)) s from ⟨(fun x=>nomatch x),h⟩⟩ hu
end
end HT
namespace L2
open PySem PySem.Spec PyProof.Rows
theorem jIS {ns:List Int} :∀ {us:List Value},Vals (ns.map V.int) us->IntsAre us ns:=by
 induction ns with
 | nil=>intro us r; rw[gQ] at r; cases r; exact .nil
 | cons n ns ih=>
  intro us r
  rw[ba] at r
  cases r with
  | cons r1 r2=>
   obtain⟨t,e⟩:=r1
   subst e
   exact .cons n t (ih r2)
section
variable {X:Cx}{e:Expr}{te:TE}{lo hi:Option Expr}{tl th:TO}{pos p2:Pos}
end
end L2
namespace L2
open PySem PySem.Spec PyProof.Rows
noncomputable def ixN (n:Nat)(i:Int):Option Nat:=if 0<=i then (if i<n then some i.toNat else none) else if -(n:Int)<=i then some (i+n).toNat else none
def atI {α:Type}(xs:List α)(i:Int):Option α:=(ixN xs.length i).bind fun j=>xs[j]?
theorem jL9 {n:Nat}{i:Int}{j:Nat}(h:ixN n i=some j):seqIndex? i n=some j/\j<n/\ -(n:Int)<=i/\i<n:=by
 unfold ixN at h
 by_cases h0:0<=i
 ·rw[aq h0] at h
  by_cases h1:i<n
  ·rw[aq h1] at h
   have e:i.toNat=j:=br h
   exact⟨by rw[seqIndex_of h0 h1,e],by omega,by omega,h1⟩
  ·rw[aj h1] at h; cases h
 ·rw[aj h0] at h
  by_cases h1: -(n:Int)<=i
  ·rw[aq h1] at h
   have e:(i+n).toNat=j:=br h
   exact⟨by rw[seqIndex_neg (by omega) h1,e],by omega,h1,by omega⟩
  ·rw[aj h1] at h; cases h
theorem jM6 {α:Type}{xs:List α}{i:Int}{v:α}(h:atI xs i=some v):∃ j,seqIndex? i xs.length=some j/\xs[j]?=some v/\j<xs.length/\ -(xs.length:Int)<=i/\i<xs.length:=by
 unfold atI at h
 cases e:ixN xs.length i with
 | none=>rw[e] at h; cases h
 | some j=>
  rw[e] at h
  obtain⟨h1,h2,h3,h4⟩:=jL9 e
  exact⟨j,h1,h,h2,h3,h4⟩
theorem jC6 {α:Type}{xs:List α}{j:Nat}{v:α}(h:xs[j]?=some v):atI xs (j:Int)=some v:=by
 have hj:j<xs.length:=(ar.mp h).1
 have e:ixN xs.length (j:Int)=some j:=by
  unfold ixN
  rw[aq (by omega),aq (by omega)]; simp
 unfold atI; rw[e]; exact h
def jAU (b:Expr):Prop:=∀ o i,subscripted b false o i=operate [o,i] (getItem o i)
def IxR (X:Cx)(r:R2):Prop:=
 ∀ (value slice:Expr) (pins:List (Addr×Obj)) (s:Shared) (σ:St) (H:Hp) (x y:V) (v u:Value) (Q:VK),Inv X pins σ H s->RelV x v->RelV y u->r x y H Q->
  subscripted slice false v u=operate [v,u] (getItem v u)->wpAny (model X.prog X.w) X.A (subscriptTail value slice v u) (EP X pins σ Q) X.xe s
def MtR (X:Cx)(id:String)(r:V->List V->Hp->VK->Prop):Prop:=
 ∀ (pins:List (Addr×Obj)) (s:Shared) (σ:St) (H:Hp) (x:V) (xs:List V) (v:Value) (us:List Value) (Q:VK),Inv X pins σ H s->RelV x v->Vals xs us->r x xs H Q->
  wpAny (model X.prog X.w) X.A (call (.builtin id) (v::us)) (EP X pins σ Q) X.xe s
section
variable {X:Cx}{a b:Expr}{ta tb:TE}{pos:Pos}
theorem pe_ix {r:R2}(hr:IxR X r)(ha:PE X a ta)(hb:PE X b tb)(hs:jAU b):PE X (.Subscript a b pos) (tOp r ta tb):=by
 intro pins s σ H Q I h
 exact Subscript_ (binT ha hb I h fun v u s2 x y H2 I2 rx ry q=>hr a b pins s2 σ H2 x y v u Q I2 rx ry q (hs _ _))
def rIxL (K:W.Frag):R2:=fun x y H Q=>∃ p xs i v,x= .ref p/\y= .int i/\SqL K H p xs/\atI xs i=some v/\Q v H
def rIxT (K:W.Frag):R2:=fun x y H Q=>∃ p xs i v,x= .ref p/\y= .int i/\SqT K H p xs/\atI xs i=some v/\Q v H
theorem jC0:IxR X (rIxL X.K):=by
 intro value slice pins s σ H x y v u Q I rx ry h hs
 obtain⟨p,xs,i,z,rfl,rfl,hq,he,q⟩:=h
 cases rx
 obtain⟨t,rfl⟩:=ry
 obtain⟨its,r,pl,hz⟩:=I.list hq
 obtain⟨j,h1,h2,h3,h4,h5⟩:=jM6 he
 obtain⟨w,ew,rw'⟩:=r.get h2
 have hl:=r.length
 have hn:=jDO
 have fin:EP X pins σ Q w s:=⟨z,H,I,rw',q⟩
 by_cases h0:0<=i
 ·have hj:i.toNat=j:=by
   rw[seqIndex_of h0 h5] at h1
   exact br h1
  exact item_listR pl.isList h0 (by omega) (by rw[hj]; simpa using ew) fin hs
 ·have hj:(i+(its.toArray.size:Int)).toNat=j:=by
   rw[seqIndex_neg (by omega) h4] at h1
   rw[aI,<- hl]
   exact br h1
  exact subscriptTail_builtinR (x:=w) pl.isList.typeIs slot_list_getitem.lookup
   (wpAny_getItem_list_neg (Q:=fun r s'=>r=w/\EP X pins σ Q r s') pl.isList (by omega) (by rw[aI] <;> omega) (by omega) (by rw[hj]; simpa using ew) ⟨rfl,fin⟩) hs
theorem jBL:IxR X (rIxT X.K):=by
 intro value slice pins s σ H x y v u Q I rx ry h hs
 obtain⟨p,xs,i,z,rfl,rfl,hq,he,q⟩:=h
 cases rx
 obtain⟨t,rfl⟩:=ry
 obtain⟨its,r,pl,hz⟩:=I.tuple hq
 obtain⟨j,h1,h2,h3,h4,h5⟩:=jM6 he
 obtain⟨w,ew,rw'⟩:=r.get h2
 have hl:=r.length
 have hn:=jDO
 have fin:EP X pins σ Q w s:=⟨z,H,I,rw',q⟩
 exact subscriptTail_builtinR (x:=w) pl.typeIs slot_tuple_getitem.lookup
  (getItem_tuple (j:=j) (Q:=fun r s'=>r=w/\EP X pins σ Q r s') pl (by omega) (by omega) (by rw[aI,<- hl]; exact h1) (by simpa using ew) ⟨rfl,fin⟩) hs
theorem jIN (its:List Value)(n j:Nat)(u:Value):Obj.mapSeq (·.setIfInBounds j u) { cls:= .type "list",data:= .seq its.toArray n} = { cls:= .type "list",data:= .seq (its.set j u).toArray n} :=by
 simp [Obj.mapSeq]
theorem Inv.lst {pins:List (Addr×Obj)}{σ:St}{H:Hp}{s:Shared}{p:Addr}{xs:List V}(I:Inv X pins σ H s)(h:H p=some (.lst xs)):
  ∃ (its:List Value) (n:Nat),Vals xs its/\s.heap.get? p=some { cls:= .type "list",data:= .seq its.toArray n} /\xs.length<=sizeLine:=by
 obtain⟨z,its,n,r,e⟩:=I.hok p _ h
 exact⟨its,n,r,e,z⟩
theorem Inv.lstUpd {pins:List (Addr×Obj)}{σ:St}{H:Hp}{s:Shared}{p:Addr}{xs ys:List V}{its its':List Value}{n n':Nat}{f:Obj->Obj}(I:Inv X pins σ H s)(h:H p=some (.lst xs))
  (ho:s.heap.get? p=some { cls:= .type "list",data:= .seq its.toArray n}) (hf:f { cls:= .type "list",data:= .seq its.toArray n} = { cls:= .type "list",data:= .seq its'.toArray n'}) (r:Vals ys its') (hz:ys.length<=sizeLine) (t:Nat):
  Inv X pins σ (upd H p (.lst ys)) { s with heap:=s.heap.update p f,toks:=t} :=by
 have e:(s.heap.update p f).get? p=some { cls:= .type "list",data:= .seq its'.toArray n'} :=by
  rw[bC f ho (by rw[hf] <;> rfl),hf]
 refine I.write (x:=p) (e:=p) (by rw[h]; trivial) (.inl rfl) (fun b u hb q=>(bu _ _ (cF hb)).trans q) ⟨_,e⟩ ?_
 exact⟨hz,its',n',r,e⟩
def rSetL:V->V->V->Hp->(Hp->Prop)->Prop:=fun o i v H Q=>∃ p xs k j,o= .ref p/\i= .int k/\H p=some (.lst xs)/\ixN xs.length k=some j/\Q (upd H p (.lst (xs.set j v)))
theorem jHB:PSet X rSetL:=by
 intro pins s σ H o i v ov iv u Q I ro ri rv h
 obtain⟨p,xs,k,j,rfl,rfl,hp,hj,q⟩:=h
 cases ro
 obtain⟨t,rfl⟩:=ri
 obtain⟨its,n,r,ho,hz⟩:=I.lst hp
 obtain⟨h1,h2,h3,h4⟩:=jL9 hj
 have hl:=r.length
 have hn:=jDO
 have I':Inv X pins σ (upd H p (.lst (xs.set j v))) { s with heap:=s.heap.update p (Obj.mapSeq (·.setIfInBounds j u))} :=
  I.lstUpd hp ho (jIN its n j u) (r.set rv j) (by rw[gL]; exact hz) s.toks
 by_cases h0:0<=k
 ·have hk:k.toNat=j:=by
   rw[seqIndex_of h0 h4] at h1
   exact br h1
  exact PySem.W.ki_setAt ho h0 (by omega) (by rw[aI,<- hl]; exact h4) (by rw[hk]; exact⟨_,I',q⟩)
 ·have hk:(k+(its.toArray.size:Int)).toNat=j:=by
   rw[seqIndex_neg (by omega) h3] at h1
   rw[aI,<- hl]
   exact br h1
  exact PySem.W.ki_setBack ho (by omega) (by rw[aI,<- hl]; exact h3) (by omega) (by rw[hk]; exact⟨_,I',q⟩)
def flatV:V->Bool
 | .non=>true
 | .bl _=>true
 | .int _=>true
 | .str _=>true
 | _=>false
noncomputable def eqV:V->V->Bool
 | .non, .non=>true
 | .bl a, .bl b=>a==b
 | .bl a, .int b=>(if a then 1 else 0)==b
 | .int a, .bl b=>a==(if b then 1 else 0)
 | .int a, .int b=>a==b
 | .str a, .str b=>a==b
 | _,_=>false
theorem jOR {A:Around}{s:Shared}{y x:V}{u v:Value}(ry:RelV y u)(rx:RelV x v)(fy:flatV y=true)(fx:flatV x=true):SeqAt.EqAt A s u v (eqV y x):=by
 cases y with
 | non=>
  cases ry
  cases x with
  | non=>cases rx; exact SeqAt.EqAt.same _
  | bl b=>cases rx; exact SeqAt.EqAt.none_bool b
  | int b=>obtain⟨t,rfl⟩:=rx; exact SeqAt.EqAt.none_int b t
  | str b=>obtain⟨t,rfl⟩:=rx; exact SeqAt.EqAt.none_str b t
  | _=>exact absurd (show false=true from fx) ao
 | bl a=>
  cases ry
  cases x with
  | non=>cases rx; exact SeqAt.EqAt.bool_none a
  | bl b=>cases rx; exact SeqAt.EqAt.bool_bool a b
  | int b=>obtain⟨t,rfl⟩:=rx; exact SeqAt.EqAt.bool_int a b t
  | str b=>obtain⟨t,rfl⟩:=rx; exact SeqAt.EqAt.bool_str a b t
  | _=>exact absurd (show false=true from fx) ao
 | int a=>
  obtain⟨t',rfl⟩:=ry
  cases x with
  | non=>cases rx; exact SeqAt.EqAt.int_none a t'
  | bl b=>cases rx; exact SeqAt.EqAt.int_bool a t' b
  | int b=>obtain⟨t,rfl⟩:=rx; exact g0 a t' b t
  | str b=>obtain⟨t,rfl⟩:=rx; exact SeqAt.EqAt.int_str a t' b t
  | _=>exact absurd (show false=true from fx) ao
 | str a=>
  obtain⟨t',rfl⟩:=ry
  cases x with
  | non=>cases rx; exact SeqAt.EqAt.str_none a t'
  | bl b=>cases rx; exact SeqAt.EqAt.str_bool a t' b
  | int b=>obtain⟨t,rfl⟩:=rx; exact SeqAt.EqAt.str_int a t' b t
  | str b=>obtain⟨t,rfl⟩:=rx; exact SeqAt.EqAt.str_str a t' b t
  | _=>exact absurd (show false=true from fx) ao
 | _=>exact absurd (show false=true from fy) ao
noncomputable def eqU (x:V)(u:Value):Bool:=match u with
 | .none=>eqV .non x
 | .bool b=>eqV (.bl b) x
 | .int i _=>eqV (.int i) x
 | .str z _=>eqV (.str z) x
 | _=>false
theorem jOQ {x y:V}{u:Value}(r:RelV y u)(f:flatV y=true):eqU x u=eqV y x:=by
 cases y with
 | non=>cases r; rfl
 | bl b=>cases r; rfl
 | int i=>obtain⟨t,rfl⟩:=r; rfl
 | str z=>obtain⟨t,rfl⟩:=r; rfl
 | _=>exact absurd (show false=true from f) ao
theorem jGY {x:V} :∀ {xs:List V}{us:List Value},Vals xs us->xs.all flatV=true->us.any (eqU x)=xs.any fun y=>eqV y x
 | _,_, .nil,_=>rfl
 | y::xs,u::us, .cons r t,f=>by
  rw[fq,ff] at f
  rw[gA,gA,jOQ r f.1,jGY t f.2]
theorem jE6 {A:Around}{s:Shared}{x:V}{v:Value}(rx:RelV x v)(fx:flatV x=true):∀ {xs:List V}{us:List Value},Vals xs us->xs.all flatV=true->∀ u∈us,SeqAt.EqAt A s u v (eqU x u)
 | _,_, .nil,_=>fun u hu=>by cases hu
 | y::xs,u::us, .cons r t,f=>fun u' hu=>by
  rw[fq,ff] at f
  rcases az.mp hu with rfl | hu
  ·rw[jOQ r f.1]; exact jOR r rx f.1 fx
  ·exact jE6 rx fx t f.2 u' hu
def inV (x:V)(xs:List V):Bool:=xs.any fun y=>eqV y x
def rIn (K:W.Frag)(neg:Bool):R2:=fun x y H Q=>∃ p xs,y= .ref p/\(SqL K H p xs\/SqT K H p xs)/\flatV x=true/\xs.all flatV=true/\Q (.bl (if neg then !inV x xs else inV x xs)) H
theorem jK7:OpR X (compareOp .In) (rIn X.K false):=by
 intro pins s σ H x y v u Q I rx ry h
 obtain⟨p,xs,rfl,hq,fx,fs,q⟩:=h
 cases ry
 rcases hq with hq | hq
 ·obtain⟨its,r,pl,hz⟩:=I.list hq
  refine SeqAt.in_listAt (eqU x) pl.isList (fun w hw=>jE6 rx fx r fs w (by simpa using hw)) ⟨.bl _,H,I,rfl,?_⟩
  rw[show its.toArray.any (eqU x)=its.any (eqU x) by simp,jGY r fs]
  exact q
 ·obtain⟨its,r,pl,hz⟩:=I.tuple hq
  refine SeqAt.in_tupleAt (eqU x) pl (fun w hw=>jE6 rx fx r fs w (by simpa using hw)) ⟨.bl _,H,I,rfl,?_⟩
  rw[show its.toArray.any (eqU x)=its.any (eqU x) by simp,jGY r fs]
  exact q
theorem jA0:yC X (.builtin "len") (fun xs H Q=>∃ p ys,xs=[.ref p]/\(SqL X.K H p ys\/SqT X.K H p ys)/\Q (.int ys.length) H):=by
 intro pins s σ H xs us Q I r h
 obtain⟨p,ys,rfl,hq,q⟩:=h
 obtain⟨u,rfl,rx⟩:=vals1 r
 cases rx
 have hn:=jDO
 rcases hq with hq | hq
 ·obtain⟨its,r',pl,hz⟩:=I.list hq
  have hlen:=r'.length
  exact Calls.call_len_list pl.isList (by simp only [aI] <;> omega) ⟨.int ys.length,H,I.tok _,⟨s.toks+1,by rw[aI,hlen]⟩,q⟩
 ·obtain⟨its,r',pl,hz⟩:=I.tuple hq
  have hlen:=r'.length
  exact len_tuple pl (by simp only [aI] <;> omega) ⟨.int ys.length,H,I.tok _,⟨s.toks+1,by rw[aI,hlen]⟩,q⟩
theorem jEN:yC X (.type "tuple") (fun xs H Q=>∃ p ys,xs=[.ref p]/\((SqL X.K H p ys/\∀ l,H l=none->Q (.ref l) (upd H l (.tup ys)))\/(SqT X.K H p ys/\Q (.ref p) H))):=by
 intro pins s σ H xs us Q I r h
 obtain⟨p,ys,rfl,h⟩:=h
 obtain⟨u,rfl,rx⟩:=vals1 r
 cases rx
 rcases h with ⟨hq,q⟩ | ⟨hq,q⟩
 ·obtain⟨its,r',pl,hz⟩:=I.list hq
  have hlen:=r'.length
  refine call_tuple_list pl.isList (fun h' kp=>?_) (by simp only [aI] <;> omega)
  have I1:Inv X pins σ H { s with heap:=h'} :=I.kept (t':=s.toks) kp
  have I2:Inv X pins σ (upd H h'.objs.size (.tup ys)) { s with heap:=h'.push { cls:= .type "tuple",data:= .seq its.toArray}} :=
   I1.laid (t':=s.toks) (fun b o e=>ae _ e) (aE _) (show ObjOk X.prog X.w _ _ _ (.tup ys) from ⟨hz,its,r',TupO.new _ _⟩)
  exact⟨.ref h'.objs.size,_,I2,rfl,q _ (I1.hok.fresh (aE _))⟩
 ·obtain⟨its,r',pl,hz⟩:=I.tuple hq
  exact call_tuple_same pl ⟨.ref p,H,I,rfl,q⟩
def tyV (K:W.Frag)(T:String)(x:V)(H:Hp):Prop:=match x with
 | .str _=>T= "str"
 | .int _=>T= "int"
 | .ref p=>(T= "list" /\∃ xs,SqL K H p xs)\/(T= "tuple" /\∃ o,K.lookup p=some o/\o.cls= .type "tuple" /\o.dict=none)\/
   (T= "dict" /\((∃ kvs,H p=some (.dK kvs))\/∃ kvs,H p=some (.dT kvs)))\/(T= "set" /\∃ S n,H p=some (.set S n))
 | _=>False
theorem jNV {pins:List (Addr×Obj)}{σ:St}{H:Hp}{s:Shared}{T:String}{x:V}{v:Value}(I:Inv X pins σ H s)(r:RelV x v)(ty:tyV X.K T x H):
  s.TypeIs v T/\∀ a,v= .ref a->∃ ob,s.heap.get? a=some ob/\ob.dict=none:=by
 cases x with
 | str z=>
  obtain⟨t,rfl⟩:=r
  cases (show T= "str" from ty)
  exact⟨typeIs_str s z t,fun _ e=>nomatch e⟩
 | int i=>
  obtain⟨t,rfl⟩:=r
  cases (show T= "int" from ty)
  exact⟨typeIs_int s i t,fun _ e=>nomatch e⟩
 | ref p=>
  cases r
  rcases ty with ⟨rfl,xs,hq⟩ | ⟨rfl,o,hk,hc,hd⟩ | ⟨rfl,hk⟩ | ⟨rfl,S,n,hk⟩
  ·obtain⟨its,_,pl,_⟩:=I.list hq
   refine⟨pl.isList.typeIs,fun a e=>?_⟩
   cases e
   obtain⟨o,n,e,c,hd,_⟩:=pl
   exact⟨o,e,hd⟩
  ·refine⟨⟨o,I.kIn p o hk,hc⟩,fun a e=>?_⟩
   cases e
   exact⟨o,I.kIn _ o hk,hd⟩
  ·have z:∃ o,s.heap.get? p=some o/\o.ExactDict:=by
    rcases hk with ⟨kvs,hk⟩ | ⟨kvs,hk⟩
    ·obtain⟨_,_,_,_,o,_,_,e,ex,_⟩:=I.hok p _ hk
     exact⟨o,e,ex⟩
    ·obtain⟨_,_,_,_,o,_,_,e,ex,_⟩:=I.hok p _ hk
     exact⟨o,e,ex⟩
   obtain⟨o,e,ex⟩:=z
   refine⟨⟨o,e,ex.1⟩,fun a e2=>?_⟩
   cases e2
   exact⟨o,e,ex.2.1⟩
  ·obtain⟨o,_,_,_,e,ex,_⟩:=I.hok p _ hk
   refine⟨⟨o,e,ex.1⟩,fun a e2=>?_⟩
   cases e2
   exact⟨o,e,ex.2.1⟩
 | _=>exact False.elim ty
def tBM0 (K:W.Frag)(T:String)(r:V->List V->Hp->VK->Prop)(to:TE):TE:=fun σ H Q=>to σ H fun x H1=>tyV K T x H1/\r x [] H1 Q
def tBM (K:W.Frag)(T:String)(r:V->List V->Hp->VK->Prop)(to:TE)(t:TA):TE:=fun σ H Q=>to σ H fun x H1=>tyV K T x H1/\t σ H1 fun xs H2=>r x xs H2 Q
variable {o e:Expr}{es:List Expr}{to:TE}{t:TA}{name:Str}{apos cpos:Pos}{T id:String}{r:V->List V->Hp->VK->Prop}
theorem jS8 (pa:PlainAttrs T)(slot:Slot T name id)(hty:typeOf (.builtin id)=pure (.type "method_descriptor"))(hm:MtR X id r)(ho:PE X o to)
  (hbase:attributeBase o name X.env (eval o X.env)=eval o X.env:=by rfl) (hline:(apos.endLine==cpos.line)=true:=by rfl):PE X (.Call (.Attribute o name apos) [] [] cpos) (tBM0 X.K T r to):=by
 intro pins s σ H Q I h
 refine fO hbase hline (thn (ho pins s σ H _ I h) fun v s1 ⟨x,H1,I1,r1,ty,q1⟩=>?_)
 obtain⟨h1,h2⟩:=jNV I1 r1 ty
 exact⟨T,id,pa,slot,hty,h1,h2,dw rfl (gN (hm pins s1 σ H1 x [] v [] Q I1 r1 .nil q1))⟩
theorem pe_bm (pa:PlainAttrs T)(slot:Slot T name id)(hty:typeOf (.builtin id)=pure (.type "method_descriptor"))(hm:MtR X id r)(ho:PE X o to)(ha:PA X (e::es) t)
  (hbase:attributeBase o name X.env (eval o X.env)=eval o X.env:=by rfl)
  (hfew:((backTo cpos (starEach (e::es) X.env)).all (fun x=>!x.1)&&(backToKw cpos (keywordEach [] X.env)).all (fun x=>x.1.isSome)
   &&decide ((e::es).length+([]:List Keyword).length+(if ([]:List Keyword).isEmpty then 0 else 1)<30))=true:=by rfl)
  (hline:(apos.endLine==cpos.line)=true:=by rfl) (hs:starEach (e::es) X.env=(false,eval e X.env)::starEach es X.env:=by rfl) (hplain:(backTo cpos (starEach es X.env)).any (·.1)=false:=by rfl):
  PE X (.Call (.Attribute o name apos) (e::es) [] cpos) (tBM X.K T r to t):=by
 intro pins s σ H Q I h
 refine wpAny_Call_method_late hbase hfew hline rfl (thn (ho pins s σ H _ I h) fun v s1 ⟨x,H1,I1,r1,ty,q1⟩=>?_)
 obtain⟨h1,h2⟩:=jNV I1 r1 ty
 refine⟨T,id,pa,slot,hty,h1,h2,?_⟩
 have hA:=ha cpos pins s1 σ H1 _ I1 q1
 rw[hs] at hA ⊢
 refine dw (by show (false || (backTo cpos (starEach es X.env)).any (·.1))=false; rw[hplain] <;> rfl) (eW ?_)
 exact thn hA fun us s2 ⟨vs,H2,I2,r2,q2⟩=>hm pins s2 σ H2 x vs v us Q I2 r1 r2 q2
/- xs.append(e),list.index on a module's tuple .. are MtR facts of 06m -/
end
end L2
namespace L2
open PySem PySem.Spec PyProof.Rows
def MtM (X:Cx)(id:String)(r:V->List V->Hp->VK->Prop):Prop:=
 ∀ (pins:List (Addr×Obj)) (s:Shared) (σ:St) (H:Hp) (x:V) (xs:List V) (v:Value) (us:List Value) (Q:VK),Inv X pins σ H s->RelV x v->Vals xs us->r x xs H Q->
  wpAny (model X.prog X.w) X.A (call (.builtin id) (v::us)) (EP X pins σ Q) X.xe s
theorem Vals.one:∀ {x:V}{us:List Value},Vals [x] us->∃ u,us=[u]/\RelV x u
 | _,_, .cons r .nil=>⟨_,rfl,r⟩
theorem Vals.two:∀ {x y:V}{us:List Value},Vals [x,y] us->∃ u v,us=[u,v]/\RelV x u/\RelV y v
 | _,_,_, .cons r (.cons q .nil)=>⟨_,_,rfl,r,q⟩
theorem Vals.zero:∀ {us:List Value},Vals [] us->us=[]
 | _, .nil=>rfl
theorem Vals.dropLast {xs:List V}{us:List Value}(h:Vals xs us):Vals xs.dropLast us.dropLast:=by
 induction h with
 | nil=>exact .nil
 | cons r t ih=>
  cases t with
  | nil=>exact .nil
  | cons q t'=>exact .cons r ih
theorem Vals.rep {xs:List V}{us:List Value}(h:Vals xs us):∀ k:Nat,Vals (List.replicate k xs).flatten (List.replicate k us).flatten
 | 0=> .nil
 | k+1=>by
  rw[cB,cB,dM,dM]
  exact Vals.append h (Vals.rep h k)
theorem jIW {α:Type}(l:List α):l.eraseIdx (l.length - 1)=l.dropLast:=by
 induction l with
 | nil=>rfl
 | cons a r ih=>
  cases r with
  | nil=>rfl
  | cons b r=>
   have e:(a::b::r).length - 1=((b::r).length - 1)+1:=by
    have h1:(a::b::r).length=r.length+2:=rfl
    have h2:(b::r).length=r.length+1:=rfl
    omega
   rw[e,List.eraseIdx_cons_succ,ih]
   all_goals rfl
theorem jFT (its:List Value):∀ (k:Nat) (acc:List Value),
  List.foldl (fun x1 x2=>x1++x2) acc.toArray (List.replicate k its.toArray)=(acc++(List.replicate k its).flatten).toArray
 | 0,acc=>by simp
 | k+1,acc=>by
  have e:acc.toArray++its.toArray=(acc++its).toArray:=by simp
  have e2:(acc++its)++(List.replicate k its).flatten=acc++(List.replicate (k+1) its).flatten:=by
   rw[cB,dM,aX]
  rw[<- e2,<- jFT its k (acc++its),<- e,cB,i5]
section
variable {X:Cx}{pins:List (Addr×Obj)}{σ:St}{H:Hp}{s:Shared}{l b:Addr}{xs ys zs:List V}
theorem Inv.lset {its its':List Value}{n:Nat}{f:Array Value->Array Value}{t':Nat}(I:Inv X pins σ H s)(hH:H l=some (.lst xs))
  (e:s.heap.get? l=some { cls:= .type "list",data:= .seq its.toArray n}) (hf:f its.toArray=its'.toArray) (hv:Vals ys its') (hz:ys.length<=sizeLine):
  Inv X pins σ (upd H l (.lst ys)) { s with heap:=s.heap.update l (Obj.mapSeq f),toks:=t'} :=by
 have q:=PySem.IsL.update e f
 rw[hf] at q
 refine I.write (x:=l) (e:=l) (by rw[hH]; exact trivial) (.inl rfl) (fun b' u hb hu=>(bu s.heap (Obj.mapSeq f) (cF hb)).trans hu) ⟨_,q⟩ ?_
 exact⟨hz,its',_,hv,q⟩
theorem Inv.lnew {its:List Value}{t':Nat}(I:Inv X pins σ H s)(hv:Vals ys its)(hz:ys.length<=sizeLine):
  Inv X pins σ (upd H s.heap.objs.size (.lst ys)) { s with heap:=s.heap.push { cls:= .type "list",data:= .seq its.toArray},toks:=t'} :=
 I.laid (fun _ _ q=>ae _ q) (aE _) ⟨hz,its,0,hv,aA _ rfl⟩
theorem Inv.fresh (I:Inv X pins σ H s):H s.heap.objs.size=none:=I.hok.fresh (aE _)
theorem Inv.lstM (I:Inv X pins σ H s)(hH:H l=some (.lst xs)):xs.length<=sizeLine/\∃ (its:List Value) (n:Nat),Vals xs its/\xs.length=its.length/\s.heap.get? l=some { cls:= .type "list",data:= .seq its.toArray n} :=by
 obtain⟨z,its,n,r,e⟩:=I.hok l _ hH
 exact⟨z,its,n,r,r.length,e⟩
theorem jMW {n:Nat}(h:n<=sizeLine):Builtin.List.listTooLong n=false:=by
 unfold Builtin.List.listTooLong
 exact aR (by omega)
end
section
variable {X:Cx}
def jP9:V->List V->Hp->VK->Prop:=fun x vs H Q=>∃ l xs y,x= .ref l/\vs=[y]/\H l=some (.lst xs)/\xs.length<sizeLine/\Q .non (upd H l (.lst (xs++[y])))
theorem jD1:MtM X "list.append" jP9:=by
 intro pins s σ H x vs v us Q I rx rv h
 obtain⟨l,xs,y,rfl,rfl,hH,hz,q⟩:=h
 cases rx
 obtain⟨u,rfl,ru⟩:=rv.one
 obtain⟨z,its,n,r,hl,e⟩:=I.lstM hH
 refine g5 F.slot_list_append ⟨_,e,rfl⟩ F.entry_list_append (F.args_list_append_2 _ _) (PySem.list_append l its.toArray n u (by rw[aI]; omega)) ⟨e,?_⟩
 refine⟨.non,_,I.lset (its':=its++[u]) hH e (by simp) (r.append (.cons ru .nil)) ?_,rfl,q⟩
 rw[aK,jc]
 omega
def rPop:V->List V->Hp->VK->Prop:=fun x vs H Q=>∃ l xs y,x= .ref l/\vs=[]/\H l=some (.lst xs)/\xs[xs.length - 1]?=some y/\Q y (upd H l (.lst xs.dropLast))
theorem jSL:MtM X "list.pop" rPop:=by
 intro pins s σ H x vs v us Q I rx rv h
 obtain⟨l,xs,y,rfl,rfl,hH,hy,q⟩:=h
 cases rx
 have hus:=rv.zero
 subst hus
 obtain⟨z,its,n,r,hl,e⟩:=I.lstM hH
 obtain⟨u,hu,ru⟩:=r.get hy
 have hy':its.toArray[its.toArray.size - 1]?=some u:=by
  show its.toArray[its.length - 1]?=some u
  rw[<- bJ,<- hl]
  exact hu
 refine g5 F.slot_list_pop ⟨_,e,rfl⟩ F.entry_list_pop (F.args_list_pop_1 _) (MeetsSeq.list_pop_last l its.toArray n u hy' (by rw[aI]; omega)) ⟨e,?_⟩
 refine⟨y,_,I.lset (its':=its.dropLast) hH e ?_ r.dropLast ?_,ru,q⟩
 ·show its.toArray.eraseIdxIfInBounds (its.toArray.size - 1)=its.dropLast.toArray
  rw[aI,List.eraseIdxIfInBounds_toArray,jIW]
 ·rw[List.length_dropLast]
  omega
def rCat:R2:=fun x y H Q=>∃ l b xs zs,x= .ref l/\y= .ref b/\H l=some (.lst xs)/\H b=some (.lst zs)/\xs.length+zs.length<=sizeLine/\∀ p,H p=none->Q (.ref p) (upd H p (.lst (xs++zs)))
theorem jSA:OpR X (binaryOp .Add) rCat:=by
 intro pins s σ H x y v u Q I rx ry h
 obtain⟨l,b,xs,zs,rfl,rfl,hH,hB,hz,q⟩:=h
 cases rx
 cases ry
 obtain⟨z,its,n,r,hl,e⟩:=I.lstM hH
 obtain⟨z2,its2,n2,r2,hl2,e2⟩:=I.lstM hB
 refine PySem.P.add_list e e2 ?_ (by rw[aI,aI]; omega)
 have ea:its.toArray++its2.toArray=(its++its2).toArray:=by simp
 rw[ea]
 exact⟨.ref _,_,I.lnew (t':=s.toks) (r.append r2) (by rw[aK]; omega),rfl,q _ I.fresh⟩
def rRep:R2:=fun x y H Q=>∃ l k xs,x= .ref l/\y= .int k/\H l=some (.lst xs)/\ -(2 ^ 63)<=k/\k<2 ^ 63/\xs.length*k.toNat<=sizeLine/\
 ∀ p,H p=none->Q (.ref p) (upd H p (.lst (List.replicate k.toNat xs).flatten))
theorem jQC {α:Type}(xs:List α)(k:Nat):(List.replicate k xs).flatten.length=k*xs.length:=by
 induction k with
 | zero=>simp
 | succ k ih=>rw[cB,dM,aK,ih,kj,iW]
theorem jHI:OpR X (binaryOp .Mult) rRep:=by
 intro pins s σ H x y v u Q I rx ry h
 obtain⟨l,k,xs,rfl,rfl,hH,h1,h2,hz,q⟩:=h
 cases rx
 obtain⟨t,rfl⟩:=ry
 obtain⟨z,its,n,r,hl,e⟩:=I.lstM hH
 have hlen:its.toArray.size*k.toNat<=sizeLine:=by rw[aI,<- hl]; exact hz
 have hcap:¬ its.toArray.size*k.toNat>(2 ^ 63 - 1) / 8:=by
  have:(sizeLine:Nat)<=(2 ^ 63 - 1) / 8:=by decide
  omega
 have hfit:¬ (!Builtin.List.listFitsIndex k)=true:=by
  rw[fitsIndex_both h1 h2]
  exact ao
 have hlong:¬ Builtin.List.listTooLong (its.toArray.size*k.toNat)=true:=by
  rw[jMW hlen]
  exact ao
 have hnew:List.foldl (fun x1 x2=>x1++x2) #[] (List.replicate (if its.toArray.isEmpty=true then 0 else k.toNat) its.toArray)=(List.replicate k.toNat its).flatten.toArray:=by
  have f0:∀ m:Nat,List.foldl (fun x1 x2=>x1++x2) #[] (List.replicate m its.toArray)=(List.replicate m its).flatten.toArray:=fun m=>by
   have:=jFT its m []
   rw[i6] at this
   exact this
  rw[f0]
  cases its with
  | nil=>simp
  | cons a r'=>rw[aj (by simp)]
 refine wpAny_binaryOp_repeat_ref (T:= "list") (U:= "int") (by decide) ⟨_,e,rfl⟩ (fun s'=>typeIs_int s' k t) noFill_list_mul F.fills_int_mul F.slot_int_rmul repeat_list F.slot_int_index.lookup
  (g5 F.slot_int_rmul (typeIs_int s k t) F.entry_int_rmul (F.args_int_rmul_2 _ _) (int___rmul___int_list k t l its.toArray n)
   ⟨e,rfl,⟨_,e,rfl⟩,g5 F.slot_list_mul ⟨_,e,rfl⟩ F.entry_list_mul (F.args_list_mul_2 _ _) (AutoListH.list___mul___list_int_3 l its.toArray n k t hfit hcap hlong) ⟨e,?_⟩⟩)
 rw[hnew]
 exact⟨.ref _,_,I.lnew (t':=s.toks) (r.rep k.toNat) (by rw[jQC,iX]; exact hz),rfl,q _ I.fresh⟩
end
section
variable {prog:Program}{w:World}{A:Around}{E:Value->Shared->Prop}{s:Shared}
set_option maxRecDepth 100000 in
end
section
variable {X:Cx}
end
end L2
namespace Att
open PySem PySem.W PySem.Calls PyProof.Rows
theorem jD6 {P:Params}{h:Heap} :∀ (ns:List Int) (vs:List Value),WellAll P h vs (ns.map WData.int)->IntsAre vs ns:=by
 intro ns
 induction ns with
 | nil=>
  intro vs w
  rw[gQ] at w
  cases w
  exact .nil
 | cons n ns ih=>
  intro vs w
  rw[ba] at w
  cases w with
  | cons a b=>
   cases a
   exact .cons _ _ (ih _ b)
theorem jJQ {l:OpenLaw}{n:Nat}(hn:l.most=some n){P:Params}{h:Heap}{args:List WData}{vals:List Value}
  (hpre:l.row.toRowW.claim.pre args=true) (hwl:WellAll P h vals args):
  ∃ a vs ns,vals=[Value.ref a]/\args=[WData.list (ns.map WData.int)]/\h.get? a=some { cls:= .type "list",data:= .seq vs.toArray} /\IntsAre vs ns/\ns.length<=n:=by
 have hsh:WShape.hasAll [] args [.list .int]=true:=(pre_splitW hpre).1
 have hc:l.pre.holds [] { args:=args} =true:=(pre_splitW hpre).2
 obtain⟨d,r,rfl,h1,h2⟩:=hasAllW_cons hsh
 obtain rfl:=hasAllW_nil h2
 obtain⟨xs,rfl,h3⟩:=hasW_list h1
 obtain⟨ns,rfl⟩:=items_int h3
 have hlen:ns.length<=n:=by
  unfold OpenLaw.pre at hc
  have h4:(WTm.not (.lt (.lit (.int (n:Int))) (.len (.arg 0)))).holds [] { args:=[.list (ns.map .int)]} =true:=by
   have h4:=(holds_andW hc).1
   rw[hn] at h4
   exact h4
  have h5:=condW_of h4 (w_not (w_lt w_lit (w_len_list (w_arg rfl))))
  rw[ah] at h5
  refine Nat.le_of_not_lt fun q=>?_
  have q':(n:Int)<((ns.length:Nat):Int):=by omega
  first
   | (rw[aO q'] at h5; exact absurd h5 (by decide))
   | (simp at h5; omega)
 cases hwl with
 | cons w1 w2=>
  cases w2
  cases w1 with
  | list ho hall=>exact⟨_,_,ns,rfl,rfl,ho,jD6 ns _ hall,hlen⟩
theorem jJY (l:OpenLaw)(args:List WData):l.row.toRowW.claim.post args (.bool true) args=true:=
 postW_of (r:=l.row.toRowW) (X:=(true==true))
  (show WShape.has [] (.bool true) .bool=true by first | rfl | decide | simp [WShape.has,WShape.arms,WShape.armsAll])
  (show (WTm.eq .res (.lit (.bool true))).value [] { args:=args,res:=some (.bool true),after:=args} =some (.bool (true==true)) from w_eq_bool (w_res rfl) w_lit) rfl
theorem attach_call {l:OpenLaw}{n:Nat}{q:Program}{loose:List Str}{XP:(Str->Option Value)->Heap->Prop}{YP:World->Heap->Prop}{d:DefRec}
  (hn:l.most=some n) (hdf:d.params.defaults=[])
  (call:∀ (w:World) (s₀ s₁:Shared) (mg mb:Str->Option Value) (fa:Addr) (o:Obj) (pm cd doc:Value) (a:Addr) (vs:List Value) (ns:List Int),
   Ground q loose [] XP w s₀ mg mb s₁.heap->YP w s₁.heap->
   s₁.heap.get? fa=some o->o.data= .func (docDef d.name d.params d.body d.scope pm cd doc)->s₁.heap.CodeRec cd d.name->mg d.name=some (.ref fa)->
   s₁.heap.get? a=some { cls:= .type "list",data:= .seq vs.toArray} ->IntsAre vs ns->ns.length<=n->s₁.gens=#[]->
   codeAny (model l.prog w) callerA (.call (.ref fa) ⟨[.ref a],[]⟩) (fun r s'=>r= .ok (.ret (.bool true))/\OldK s₁.heap s'.heap/\s'.os=s₁.os/\AllBare s'.gens) s₁):
  WalkO q loose XP YP l.row.toRowW d [] (fun f vs=>PySem.call f vs):=by
 intro w s₀ s₁ mg mb G Y fa o pm cd doc dV kV ho hd hcd hD hmg hg args vals as hpre hlay hrd hwl hlo
 obtain rfl:dV= .none:=Dflts.none hD hdf
 obtain rfl:kV= .none:=Dflts.noKw hD
 obtain⟨a,vs,ns,rfl,rfl,hobj,hints,hlen⟩:=jJQ hn hpre hwl
 refine enter_call (dv (call w s₀ s₁ mg mb fa o pm cd doc a vs ns G Y ho (fd_plain hd) hcd hmg hobj hints hlen hg) fun r s' hq=>?_)
 obtain⟨rfl,h2,h3,h4⟩:=hq
 exact⟨.inl ⟨.bool true, .bool true,[],rfl,fun _=>rfl, .bool true,jJY l _,fun _=>⟨List.Pairwise.nil,fun _ hm=>(nomatch hm)⟩⟩,h2,h3,h4⟩
section
variable {prog:Program}{w:World}{A:Around}{E:Value->Shared->Prop}{s:Shared}{K:Frag}
end
end Att
namespace L2
open PySem PySem.Spec PyProof.Rows
theorem jEY:∀ {vs:List Value}{ns:List Int},IntsAre vs ns->Vals (ns.map V.int) vs
 | _,_, .nil=> .nil
 | _,_, .cons n t h=> .cons ⟨t,rfl⟩ (jEY h)
end L2
namespace L2
open PySem PySem.Spec PyProof.Rows
end L2
/- THE LAST THEOREM (shape; LID,My.* are yours):
  My.Adr:a structure of the addresses that your layer names (classes,functions); My.Txt K t:a structure (Prop) of the equations over K;
  My.txt_mk: {K} {implicit addresses ..} (e1:nsIn K mainGlobals "law" =some (some (.ref f))) (e2:K.lookup f=some ⟨oc,od, .func (fnOf "law" "law" params body scope dV kV doc pm an cdv ct),sl⟩) (e3:codeIn K cdv "law" =true) .. :∃ t,My.Txt K t
set_option maxRecDepth 100000 in
set_option maxHeartbeats 0 in
theorem PySem.Challenge.cw_LID_holds : PySem.Challenge.rw_LID.Holds := by
 w_on; o_law; k_head; (case hw=>w_witness2)
 k_fill
 refine L2.walk_of (l:=PySem.Challenge.rw_LID) (n:=63) (k:=40) (x:= "script") (CX:=fun w=> ..) (sp:=fun _=>My.sp_law) rfl (by decide) rfl ⟨rfl,by decide,by decide⟩ (fun w h Y=>PySem.W.kIn_of Y) ?F ?S ?C
 case F=>
  intro w mg fa h KX G hmg
  have T:∃ t,My.Txt (L2.KOf KX) t:=by
   dsimp only [L2.KOf] -- K must stand as «<heap const>w.params» for k_is
   refine' My.txt_mk ?e1 ?e2 ?e3 ..
   (case e1=>PySem.W.k_is) -- in the order:a name->its address->its object->its parts
   (case e2=>PySem.W.k_is)
   ..
  obtain⟨t,T⟩:=T
  have e0:=hmg.symm.trans (gB KX G T.law)
  cases e0 -- fa is the law's own address
  exact⟨_,fun s u=> .of_eq rfl,fun base kb nb=>My.law_fn T kb nb⟩ -- if «.of_eq rfl» comes too early:refine' ⟨_,?b,fun base kb nb=>My.law_fn T kb nb⟩; exact fun s u=> .of_eq rfl
 case S=>exact fun w H a ns hl hO hS=> ..
 case C=>exact ..
(the tactic k_is has no namespace:write k_is) -/
namespace L2
open PySem PySem.Spec PyProof.Rows
abbrev CX0:CXT:=fun _ _ _ _ _ _=>False
abbrev E0:XK:=fun _ _ _=>False
theorem pass0 {X:Cx} :jM8 CX0 X E0:=fun _ _ _ _ _ _ _ h=>h.elim
structure Fun (K:W.Frag)(x qual:Str)(st:Stmt)(f:Addr)(fd:FuncData):Prop where
 ex:∃ (oc:Value) (od:Option Addr) (kV doc pm:Value) (an:Option Addr) (cdv ct:Value) (osl:Array (Option Value)),
  fd=PySem.W.fnOf x qual (jI st) (jB st) (j7 st) .none kV doc pm an cdv ct/\K.lookup f=some ⟨oc,od, .func fd,osl⟩/\PySem.W.codeIn K cdv qual=true
 kp:keepIn K (.ref f)=true
section
variable {P:Program}{w:World}{K:W.Frag}{mg:Str->Option Value}{base:Heap}
theorem Fun.ok {x qual:Str}{st:Stmt}{f:Addr}{fd:FuncData}{N ps:List Str}{k:Nat}{sp:Sp}(F:Fun K x qual st f fd)(S:FnScope N ps (j7 st))(len:∀ vs H Q E,sp vs H Q E->vs.length=ps.length)
  (hbody:∀ (cdv:Value) (A:Around) (outer:List Env) (s:Shared) (H:Hp) (vs:List V) (Q:VK) (E:XK),Room k (A.deeper (envOfC qual (j7 st) s.heap.objs.size f cdv))->sp vs H Q E->
   ∃ t,PSs (cxOf CX0 P w K mg base N qual (j7 st) f cdv A outer s H E).nox (jB st) t/\t { nx:=fun _ H'=>Q .non H',rt:=Q} (y0 N vs) H):FnOk P w K mg base CX0 (k+1) f fd ps sp:=by
 obtain⟨oc,od,kV,doc,pm,an,cdv,ct,osl,rfl,lk,hcd⟩:=F.ex
 refine fn_of lk hcd S len fun A outer s H vs Q E hr hsp=>?_
 obtain⟨t,h,q⟩:=hbody cdv A outer s H vs Q E hr hsp
 exact⟨t,h.nox,q⟩
theorem Fun.binds {x qual:Str}{st:Stmt}{f:Addr}{fd:FuncData}{ps:List Str}(F:Fun K x qual st f fd)
  (h:∀ (kV doc pm:Value) (an:Option Addr) (cdv ct:Value) (us:List Value),us.length=ps.length->bindArgs (PySem.W.fnOf x qual (jI st) (jB st) (j7 st) .none kV doc pm an cdv ct) ⟨us,[]⟩=pure (ps.zip us)):Binds K fd ps []:=by
 obtain⟨oc,od,kV,doc,pm,an,cdv,ct,osl,rfl,lk,hcd⟩:=F.ex
 exact .all (h kV doc pm an cdv ct)
theorem kI {x qual:Str}{st:Stmt}{f:Addr}{oc:Value}{od an:Option Addr}{osl:Array (Option Value)}{kV doc pm cdv ct:Value}(l:K.lookup f=some ⟨oc,od, .func (PySem.W.fnOf x qual (jI st) (jB st) (j7 st) .none kV doc pm an cdv ct),osl⟩)
  (c:PySem.W.codeIn K cdv qual=true) (k:keepIn K (.ref f)=true):Fun K x qual st f (PySem.W.fnOf x qual (jI st) (jB st) (j7 st) .none kV doc pm an cdv ct):=⟨⟨oc,od,kV,doc,pm,an,cdv,ct,osl,rfl,l,c⟩,k⟩
end
theorem hu_of {A:Around}{k:Nat}(hr:Room k A):A.units+1<cLine:=jx (Nat.add_le_add_left (by decide:1<=64) _) hr.units
section
variable {X:Cx}
theorem pv (i:Nat){x:Str}{pos:Pos}(hN:X.N[i]?=some x:=by rfl)(hv:Vis X.env.scope x:=by first | exact Or.inl rfl | exact Or.inr (Or.inl rfl) | exact Or.inr (Or.inr rfl))(hd:(x==("__debug__" :Str))=false:=by decide)
  (hcd:(x==("__classdict__" :Str))=false:=by decide):PE X (.Name x pos) (tVar i):=jK0 hN hv hd hcd
end
theorem iteF {A B:Prop}(h:B):if false=true then A else B:=by
 rw[aj ao]
 exact h
theorem iteT {A B:Prop}(h:A):if true=true then A else B:=by
 rw[aq rfl]
 exact h
theorem ite2 {c A B:Prop} [Decidable c](h1:c->A)(h2:¬ c->B):if c then A else B:=by
 by_cases h:c
 ·rw[aq h]
  exact h1 h
 ·rw[aj h]
  exact h2 h
def jH (cells:List (Str×Addr)):List (Str×NameKind)->List (Str×Addr)->List (Str×Addr)
 | [],acc=>acc
 | (n,k)::r,acc=>if k= .free then jH cells r ((n,(cells.lookup n).getD 0)::acc) else jH cells r acc
theorem jC5 {env:Env} :∀ (l:List (Str×NameKind)) (acc:List (Str×Addr)),(∀ y∈l,y.2= .free->∃ c,env.cells.lookup y.1=some c)->
  (forIn l acc fun (x:Str×NameKind) (cs:List (Str×Addr))=>(if (x.2==NameKind.free)=true then (do let a <- cellOf env x.1; pure (ForInStep.yield ((x.1,a)::cs))) else pure (ForInStep.yield cs):Sem (ForInStep (List (Str×Addr)))))=pure (jH env.cells l acc)
 | [],acc,_=>rfl
 | (n,k)::r,acc,h=>by
  have hr:∀ y∈r,y.2= .free->∃ c,env.cells.lookup y.1=some c:=fun y hy=>h y (ai _ hy)
  rw[i7]
  by_cases hk:k= .free
  ·subst hk
   obtain⟨c,hc⟩:=h (n, .free) ak rfl
   have e:cellOf env n=pure c:=by unfold cellOf; rw[hc]
   have e2:jH env.cells ((n,NameKind.free)::r) acc=jH env.cells r ((n,c)::acc):=by
    show (if NameKind.free=NameKind.free then jH env.cells r ((n,(env.cells.lookup n).getD 0)::acc) else _)=_
    rw[aq rfl,hc]; rfl
   rw[e2,<- jC5 r ((n,c)::acc) hr]
   show ((do let a <- cellOf env n; pure (ForInStep.yield ((n,a)::acc))) >>= _)=_
   rw[e]; rfl
  ·have hb:(k==NameKind.free)=false:=by cases k <;> first | rfl | exact absurd rfl hk
   have e2:jH env.cells ((n,k)::r) acc=jH env.cells r acc:=by
    show (if k=NameKind.free then _ else jH env.cells r acc)=_
    rw[aj hk]
   rw[e2,<- jC5 r acc hr]
   show ((if (k==NameKind.free)=true then _ else pure (ForInStep.yield acc)) >>= _)=_
   rw[hb]; rfl
theorem jGW {env:Env}{sc:Scope}(h:∀ y∈sc.names,y.2= .free->∃ c,env.cells.lookup y.1=some c):closureFor sc env=pure (jH env.cells sc.names []):=by
 unfold closureFor
 show (forIn sc.names [] _ >>= fun cs=>pure cs)=_
 rw[show (forIn sc.names ([]:List (Str×Addr)) _:Sem _)=_ from jC5 sc.names [] h]
 rfl
theorem jAI {cells:List (Str×Addr)} :∀ (l:List (Str×NameKind)) (acc:List (Str×Addr)),(∀ y∈l,y.2= .free->∃ c,cells.lookup y.1=some c)->
  (∀ x c,acc.lookup x=some c->cells.lookup x=some c)->∀ x c,(jH cells l acc).lookup x=some c->cells.lookup x=some c
 | [],acc,_,ha=>ha
 | (n,k)::r,acc,h,ha=>by
  have hr:∀ y∈r,y.2= .free->∃ c,cells.lookup y.1=some c:=fun y hy=>h y (ai _ hy)
  unfold jH
  by_cases hk:k= .free
  ·rw[aq hk]
   obtain⟨c0,hc⟩:=h (n,k) ak hk
   refine jAI r _ hr fun x c e=>?_
   rw[bz] at e
   cases hx:x==n with
   | true=>
    rw[hx] at e
    have exn:x=n:=eq_of_beq hx
    subst exn
    have hc':cells.lookup x=some c0:=hc
    rw[hc'] at e ⊢
    exact e
   | false=>rw[hx] at e; exact ha x c e
  ·rw[aj hk]; exact jAI r acc hr ha
theorem jAJ {cells:List (Str×Addr)}{x:Str} :∀ (l:List (Str×NameKind)) (acc:List (Str×Addr)),((x,NameKind.free)∈l\/∃ c,acc.lookup x=some c)->∃ c,(jH cells l acc).lookup x=some c
 | [],acc,h=>by
  rcases h with h | h
  ·cases h
  ·exact h
 | (n,k)::r,acc,h=>by
  unfold jH
  by_cases hk:k= .free
  ·rw[aq hk]
   refine jAJ r _ ?_
   by_cases e:x=n
   ·subst e
    exact .inr ⟨_,by rw[bz,beq_self_eq_true]⟩
   ·rcases h with h | ⟨c,h⟩
    ·rcases az.mp h with q | q
     ·cases q; exact absurd rfl e
     ·exact .inl q
    ·refine .inr ⟨c,?_⟩
     rw[bz,cR.mpr e]
     exact h
  ·rw[aj hk]
   refine jAJ r _ ?_
   rcases h with h | h
   ·rcases az.mp h with q | q
    ·cases q; exact absurd rfl hk
    ·exact .inl q
   ·exact .inr h
theorem jAG {x:Str}{k:NameKind} :∀ {l:List (Str×NameKind)},l.lookup x=some k->(x,k)∈l
 | [],h=>by cases h
 | (n,k')::r,h=>by
  rw[bz] at h
  cases hx:x==n with
  | true=>rw[hx] at h; cases h; rw[eq_of_beq hx]; exact ak
  | false=>rw[hx] at h; exact ai _ (jAG h)
theorem jBV {env:Env}{x:Str}{k:NameKind}(hk:k= .cell\/k= .free):∀ {l:List (Str×NameKind)},(∀ y∈l,y.2≠ .cell)->
  (l.map fun (n,k)=>if (k==NameKind.free&&env.scope.kind== .function&&env.kindOf n==some .cell) then (n,NameKind.cell) else (n,k)).lookup x=some k->l.lookup x=some .free
 | [],_,h=>by simp at h
 | (n,k')::r,hc,h=>by
  have ih:= @jBV env x k hk r (fun y hy=>hc y (ai _ hy))
  have hc0:k'≠ .cell:=hc (n,k') ak
  rw[bz]
  rw[ba] at h
  dsimp only at h
  by_cases hb:(k'==NameKind.free&&env.scope.kind== .function&&env.kindOf n==some .cell)=true
  ·rw[aq hb,bz] at h
   cases hx:x==n with
   | true=>
    have:k'= .free:=by
     simp only [ff] at hb
     exact eq_of_beq hb.1.1
    rw[this]
   | false=>rw[hx] at h; exact ih h
  ·rw[aj hb,bz] at h
   cases hx:x==n with
   | true=>
    rw[hx] at h
    have e:k'=k:=br h
    rcases hk with q | q
    ·exact absurd (e.trans q) hc0
    ·rw[e,q]
   | false=>rw[hx] at h; exact ih h
theorem jC2 {env:Env}{x:Str} :∀ {l:List (Str×NameKind)},l.lookup x=some .free->
  (l.map fun (n,k)=>if (k==NameKind.free&&env.scope.kind== .function&&env.kindOf n==some .cell) then (n,NameKind.cell) else (n,k)).lookup x=some .cell\/
  (l.map fun (n,k)=>if (k==NameKind.free&&env.scope.kind== .function&&env.kindOf n==some .cell) then (n,NameKind.cell) else (n,k)).lookup x=some .free
 | [],h=>by cases h
 | (n,k')::r,h=>by
  have ih:= @jC2 env x r
  rw[bz] at h
  rw[ba]
  dsimp only
  by_cases hb:(k'==NameKind.free&&env.scope.kind== .function&&env.kindOf n==some .cell)=true
  ·rw[aq hb,bz]
   cases hx:x==n with
   | true=>exact .inl rfl
   | false=>rw[hx] at h; exact ih h
  ·rw[aj hb,bz]
   cases hx:x==n with
   | true=>rw[hx] at h; exact .inr h
   | false=>rw[hx] at h; exact ih h
section
variable {prog:Program}{w:World}{A:Around}{R:Result->Shared->Prop}{s:Shared}
abbrev jJ9 (ifs:List Expr)(env:Env):Sem Bool:=forIn ifs true fun c r=>if r=true then do let ok <- isTrue c env (eval c env); pure (ForInStep.yield ok) else pure (ForInStep.yield r)
theorem jIX {elt tg iter:Expr}{ifs:List Expr}{sc:Scope}{pos:Pos}{it acc:Value}{env:Env}(J:Nat->Shared->Prop)
  (turn:∀ n z,J n z->wpAny (model prog w) A (pyNext it) (fun r z1=>match r with
   | none=>R (.ok .next) z1
   | some v=>wpAny (model prog w) A (letOwnedTupleGo tg it v) (fun _ z2=>wpAny (model prog w) A (assign tg env v) (fun _ z3=>wpAny (model prog w) A (jJ9 ifs env) (fun ok z4=>
     if ok=true then wpAny (model prog w) A (eval elt env) (fun x z5=>wpAny (model prog w) A (call (.builtin "list.append") [acc,x]) (fun _ z6=>∃ k,k<n/\J k z6) (fun _ _=>False) z5) (fun _ _=>False) z4
     else ∃ k,k<n/\J k z4) (fun _ _=>False) z3) (fun _ _=>False) z2) (fun _ _=>False) z1) (fun _ _=>False) z)
  (n:Nat) (h:J n s):codeAny (model prog w) A (.compLoop (.ListComp elt [⟨tg,iter,ifs,0⟩] sc pos) 0 it acc env) R s:=by
 refine codeAny_loop rfl J (fun k z hJ=>?_) n h
 have noE:∀ {α:Type}{t:Sem α}{Q:α->Shared->Prop}{E:Value->Shared->Prop}{z:Shared},wpAny (model prog w) A t Q (fun _ _=>False) z->wpAny (model prog w) A t Q E z:=
  fun q=>bN q (fun _ _ a=>a) fun _ _ f=>f.elim
 show wpAny _ A ((compTurn (.ListComp elt [⟨tg,iter,ifs,0⟩] sc pos) 0 it acc env).onRaise (fun x=>do noteFrame x env; theTreesLotGoes x)) _ _ z
 refine wpAny_noted ?_
 rw[compTurn_list]
 refine aa (eS (aa (bN (turn k z hJ) (fun r z1 q1=>?_) fun _ _ f=>f.elim)))
 cases r with
 | none=>exact ag q1
 | some v=>
  refine aa (bN q1 (fun _ z2 q2=>?_) fun _ _ f=>f.elim)
  refine aa (bN q2 (fun _ z3 q3=>?_) fun _ _ f=>f.elim)
  refine aa (bN q3 (fun ok z4 q4=>?_) fun _ _ f=>f.elim)
  cases ok with
  | false=>exact ag ⟨rfl,q4⟩
  | true=>
   refine aa (aa (bN q4 (fun x z5 q5=>?_) fun _ _ f=>f.elim))
   exact aa (bN q5 (fun _ z6 q6=>ag (ag ⟨rfl,q6⟩)) fun _ _ f=>f.elim)
end
noncomputable def blk (X:Cx)(sc:Scope)(cl:List (Str×Addr))(C:Addr)(Nc:List Str)(fp:List Addr)(s:Shared)(H:Hp):Cx where
 prog:=X.prog
 w:=X.w
 K:=X.K
 mg:=X.mg
 base:=X.base
 A:=X.A
 N:=Nc
 s₀:=s
 H₀:=H
 env:=compEnvC sc cl C X.env
 outer:=X.stack
 stack:=X.stack
 ex:=fp
 fn:=fun _=>false
 calm:=X.calm
 pn:=[]
 xe:=fun _ _=>False
def blkσ (m:List (Option Nat))(σ:St):St:=m.map fun o=>match o with
 | none=>none
 | some i=>(σ[i]?).getD none
def PTs (X:Cx)(ifs:List Expr)(t:TT):Prop:=
 ∀ (pins:List (Addr×Obj)) (s:Shared) (σ:St) (H:Hp) (Q:Bool->Hp->Prop),Inv X pins σ H s->t σ H Q->wpAny (model X.prog X.w) X.A (jJ9 ifs X.env) (TP X pins σ Q) X.xe s
def yH:TT:=fun _ H Q=>Q true H
theorem jPE {X:Cx} :PTs X [] yH:=fun _ _ _ H _ I h=>wpAny_tests_nil ⟨H,I,h⟩
theorem jPD {X:Cx}{c:Expr}{t:TT}(h:PT X c t):PTs X [c] t:=fun pins s σ H Q I q=>wpAny_tests_one (h pins s σ H Q I q)
def CompW (m:List (Option Nat))(g:TG)(tt:TT)(te:TE)(σ:St)(Q:VK)(J:It)(H1:Hp):Prop:=∀ D,H1 D=none->∃ W:Nat->Nat->St->Hp->List V->Prop,
  (∃ n,W 0 n (blkσ m σ) (upd H1 D (.lst [])) [])/\∀ i n σ' H' ys,W i n σ' H' ys->H' D=some (.lst ys)/\ys.length<sizeLine/\
   ((J.stop i H'/\Q (.ref D) H')\/(J.go i H'/\∃ N:St->Hp->List V->Prop,(∀ σ2 H2 zs,N σ2 H2 zs->∃ n',n'<n/\W (i+1) n' σ2 H2 zs)/\∀ x H'',J.yld i H' x H''->g x σ' H'' fun σ2 H2=>tt σ2 H2 fun b H3=>
    if b=true then te σ2 H3 fun v H4=>H4 D=some (.lst ys)/\N σ2 (upd H4 D (.lst (ys++[v]))) (ys++[v])
    else N σ2 H3 ys))
def tComp (m:List (Option Nat))(wi:TI)(g:TG)(tt:TT)(te:TE):TE:=fun σ H Q=>wi σ H (CompW m g tt te σ Q)
theorem Un.sameBut {fs ex:List Addr}{H H':Hp}{h h1 h2:Heap}{C:Addr}(u:Un fs ex H H' h h1)(sb:Heap.SameBut C h1 h2)(hC:h.objs.size<=C):Un fs ex H H' h h2:=by
 have ne:∀ {b:Addr}{o:Obj},h.get? b=some o->b≠C:=fun e=>aV (bi (ay e) hC)
 refine⟨fun b o e n hf hx=>(sb.2 b (ne e)).trans (u.keep b o e n hf hx),fun b o e n hf hx=>?_,u.free,fun b o e hx=>?_,u.tups,u.frzs,u.tbls⟩
 ·obtain⟨sl,q⟩:=u.slot b o e n hf hx
  exact⟨sl,(sb.2 b (ne e)).trans q⟩
 ·obtain⟨o',q⟩:=u.there b o e hx
  exact⟨o',(sb.2 b (ne e)).trans q⟩
theorem HOk.sameBut {P:Program}{w:World}{H:Hp}{h1 h2:Heap}{C:Addr}(x:HOk P w H h1)(sb:Heap.SameBut C h1 h2)(hC:H C=none):HOk P w H h2:=fun a o e=>
 (x a o e).stay (fun b u hb q=>(sb.2 b (by
  rintro rfl
  rcases hb with rfl | hb
  ·rw[hC] at e; cases e
  ·rw[hC] at hb; cases hb)).trans q) (fun _ q=>q) fun _ _ q=>q
section
variable {X:Cx}{tg iter elt:Expr}{ifs:List Expr}{sc:Scope}{pos:Pos}{wi:TI}{g:TG}{tt:TT}{te:TE}{m:List (Option Nat)}{Nc:List Str}
def jCE (X:Cx)(sc:Scope)(Nc:List Str)(m:List (Option Nat)):Prop:=
 m.length=Nc.length/\∀ (k i:Nat),m[k]?=some (some i)->∃ x,Nc[k]?=some x/\X.N[i]?=some x/\sc.names.lookup x=some .free
theorem jM4 {pins:List (Addr×Obj)}{s:Shared}{σ:St}{H:Hp}{fp:List Addr}(I:Inv X pins σ H s)(hkind:sc.kind= .function)(hcell:∀ y∈sc.names,y.2≠ .cell)
  (hfree:∀ y∈sc.names,y.2= .free->X.env.scope.names.lookup y.1=some .cell\/X.env.scope.names.lookup y.1=some .free) (hm:jCE X sc Nc m) (hfp:∀ b∈fp,FpOk X pins H b) (hlt:∀ b∈fp,b<s.heap.objs.size)
  {h1:Heap}{tk:Nat}{md:Str->Option Value}(hns:h1.Ns s.heap.objs.size md) (old:∀ b o,s.heap.get? b=some o->h1.get? b=some o):
  Inv (blk X sc (jH X.env.cells sc.names []) s.heap.objs.size Nc fp s H) [] (blkσ m σ) H { s with heap:=h1,toks:=tk} :=by
 have hcl:∀ y∈sc.names,y.2= .free->∃ c,X.env.cells.lookup y.1=some c:=fun y hy hf=>I.ok.has y.1 (hfree y hy hf)
 have sub:∀ x c,(jH X.env.cells sc.names []).lookup x=some c->X.env.cells.lookup x=some c:=jAI sc.names [] hcl (fun x c e=>by cases e)
 have isfree:∀ x,(compEnvC sc (jH X.env.cells sc.names []) s.heap.objs.size X.env).kindOf x=some .cell\/(compEnvC sc (jH X.env.cells sc.names []) s.heap.objs.size X.env).kindOf x=some .free->sc.names.lookup x=some .free:=fun x h=>by
  rcases h with h | h
  ·exact jBV (.inl rfl) hcell h
  ·exact jBV (.inr rfl) hcell h
 refine⟨⟨I.ok.mod,hkind,I.ok.glob,I.ok.blt,aE _,fun x y c h1 h2=>I.ok.inj x y c (sub x c h1) (sub y c h2),fun x hx=>?_,fun x c hf _=>?_,I.ok.hd,I.ok.frames, .inl rfl,fun b hb=>?_,I.bs,bA I.ok.bsz I.sz,fun b o e hb=>?_,fun b hb hz=>?_,I.stack,I.stkFree⟩,
  rfl,I.bare,Un.kept old,⟨md,hns,fun k x v e1 e2 e3=>?_⟩,fun x c e=>?_,I.hok.fresh (aE _),fun x c e=>I.freeC x c (sub x c e),fun p hp=>absurd (show p∈([]:List (Addr×Obj)) from hp) (by simp),I.hok.kept old,?_⟩
 ·exact jAJ sc.names [] (.inl (jAG (isfree x hx)))
 ·exact absurd (show false=true from hf) ao
 ·obtain⟨f0,f1,f2,f3,f4,f5⟩:=hfp b hb
  exact⟨aV (hlt b hb),fun x c e=>f4 x c (sub x c e)⟩
 ·obtain⟨f0,f1,f2,f3,f4,f5⟩:=hfp b hb
  rcases f3 with q | q
  ·exact I.ok.noex b o e q
  ·exact absurd (bi (ay (I.ok.bs b o e).1) q) (cG _)
 ·obtain⟨f0,f1,f2,f3,f4,f5⟩:=hfp b hb
  rcases az.mp (I.stkSub b hz) with q | q
  ·exact f1 q
  ·exact f2 q
 ·have e2':∃ i,m[k]?=some (some i)/\σ[i]?=some (some v):=by
   unfold blkσ at e2
   rw[aP] at e2
   cases q:m[k]? with
   | none=>rw[q] at e2; cases e2
   | some o=>
    rw[q] at e2
    cases o with
    | none=>cases e2
    | some i=>
     refine⟨i,rfl,?_⟩
     have e2:(σ[i]?).getD none=some v:=br e2
     cases r:σ[i]? with
     | none=>rw[r] at e2; cases e2
     | some z=>rw[r] at e2; exact bR some e2
  obtain⟨i,q1,q2⟩:=e2'
  obtain⟨x',a1,a2,a3⟩:=hm.2 k i q1
  have e1':Nc[k]?=some x:=e1
  rw[e1'] at a1
  cases a1
  have vis:=hfree (x, .free) (jAG a3) rfl
  obtain⟨m0,hn0,hl0⟩:=I.loc
  obtain⟨u,r,l⟩:=hl0 i x v a2 q2 (.inr vis)
  refine⟨u,r, .inr ⟨jC2 a3,?_⟩⟩
  obtain⟨c,hc⟩:=jAJ (cells:=X.env.cells) (x:=x) sc.names [] (.inl (jAG a3))
  rcases l with ⟨lk,_⟩ | ⟨_,c',hc',o,ho,hd⟩
  ·have lk':X.env.scope.names.lookup x=some .local:=lk
   rcases vis with z | z
   ·rw[lk'] at z; cases z
   ·rw[lk'] at z; cases z
  ·have:=sub x c hc
   rw[hc'] at this
   cases this
   exact⟨c,hc,o,old _ _ ho,hd⟩
 ·obtain⟨v,o,ho,hd⟩:=I.cell x c (sub x c e)
  exact⟨v,o,old _ _ ho,hd⟩
 ·show (blkσ m σ).length=Nc.length
  unfold blkσ
  rw[ah]
  exact hm.1
theorem jI7 {tf:St->TE}(hc:X.calm=true)(hi:PI X tg iter wi)(hkind:sc.kind= .function)(hcell:∀ y∈sc.names,y.2≠ .cell)(hnames:∀ y∈sc.names,y.2= .local->sc.names.lookup y.1=some .local)
  (hfree:∀ y∈sc.names,y.2= .free->X.env.scope.names.lookup y.1=some .cell\/X.env.scope.names.lookup y.1=some .free) (hm:jCE X sc Nc m)
  (hg:∀ cl C fp s H,PG (blk X sc cl C Nc fp s H) tg g) (ht:∀ cl C fp s H,PTs (blk X sc cl C Nc fp s H) ifs tt) (he:∀ cl C fp s H pins σ,Inv X pins σ H s->(∀ b∈fp,FpOk X pins H b)->PE (blk X sc cl C Nc fp s H) elt (tf σ))
  (hs:∀ x,foldedSetIterable iter X.env x=pure x) {fpos:Pos}{use:Option (Value->Sem Unit)}{R:Value->Shared->Prop}{pins:List (Addr×Obj)}{s:Shared}{σ:St}{H:Hp}{Q:VK}(I:Inv X pins σ H s) (h:tComp m wi g tt (tf σ) σ H Q)
  (fin:∀ (D C:Addr) (H5:Hp) (z1:Shared) (r:Flow),(∃ mm,z1.heap.Ns C mm)->FpOk X pins H5 C->(∀ h',Heap.SameBut C z1.heap h'->Inv X pins σ H5 { z1 with heap:=h'})->Q (.ref D) H5->compPost (model X.prog X.w) X.A X.xe use R (.ref D) C (.ok r) z1):
  wpAny (model X.prog X.w) X.A (comprehension (.ListComp elt [⟨tg,iter,ifs,0⟩] sc pos) sc X.env fpos (newList []) false (eval iter X.env) use) R X.xe s:=by
 have hcl:∀ y∈sc.names,y.2= .free->∃ c,X.env.cells.lookup y.1=some c:=fun y hy hf=>I.ok.has y.1 (hfree y hy hf)
 refine wpAny_comprehension_free (use:=use) rfl hs (jGW hcl) hkind hnames (thn (hi pins s σ H _ I h) fun v s1 h1=>thn h1 fun itv s2 h2=>?_)
 obtain⟨it,fp,tn,J,H2,e,I2,T,st2,f2,hQ⟩:=h2
 subst e
 have hlt:∀ b∈fp,b<s2.heap.objs.size:=fun b hb=>by
  obtain⟨o,e,_⟩:=T.obj 0 _ st2 b hb
  exact ay e
 refine cf (wpAny_newFunctionEnv hcell (by intro y hy; simp at hy) (fun h₁ hns₁ hsb₁=>?_) hkind)
 have I3:Inv X pins σ (upd H2 s2.heap.objs.size (.lst [])) { s2 with heap:=s2.heap.push { cls:= .type "list",data:= .seq ([]:List Value).toArray}} :=I2.lnew (t':=s2.toks) .nil (bG _)
 obtain⟨W,⟨n0,w0⟩,turn⟩:=hQ s2.heap.objs.size I2.fresh
 have hD3:∀ b∈fp,b≠s2.heap.objs.size:=fun b hb=>aV (hlt b hb)
 have f3:∀ b∈fp,FpOk X pins (upd H2 s2.heap.objs.size (.lst [])) b:=fun b hb=>by
  obtain⟨a0,a1⟩:=f2 b hb
  exact⟨by rw[j8 (hD3 b hb)]; exact a0,a1⟩
 generalize hE:({ s2 with heap:=s2.heap.push { cls:= .type "list",data:= .seq ([]:List Value).toArray}} :Shared)=s3 at I3 hns₁ hsb₁ ⊢
 generalize hH3:upd H2 s2.heap.objs.size (.lst [])=H3 at I3 f3 w0
 have hsz3:s3.heap.objs.size=s2.heap.objs.size+1:=by rw[<- hE]; exact bS _ _
 have old:∀ b o,s3.heap.get? b=some o->h₁.get? b=some o:=fun b o e=>hsb₁.extBut b o (aV (ay e)) (ae _ e)
 have old2:∀ b o,s2.heap.get? b=some o->h₁.get? b=some o:=fun b o e=>old b o (by rw[<- hE]; exact ae _ e)
 have I4:=jM4 (fp:=fp) (tk:=s3.toks+([]:List (Str×Value)).length) I3 hkind hcell hfree hm f3 (fun b hb=>show b<s3.heap.objs.size by rw[hsz3]; exact bU (hlt b hb)) hns₁ old
 have st4:tn 0 h₁:=T.keep _ _ _ st2 fun b hb o e=>old2 b o e
 have loop:codeAny (model X.prog X.w) X.A (.compLoop (.ListComp elt [⟨tg,iter,ifs,0⟩] sc pos) 0 (.ref it) (.ref s2.heap.objs.size) (compEnvC sc (jH X.env.cells sc.names []) s3.heap.objs.size X.env))
   (compPost (model X.prog X.w) X.A X.xe use R (.ref s2.heap.objs.size) s3.heap.objs.size) { s3 with heap:=h₁,toks:=s3.toks+([]:List (Str×Value)).length} :=by
  generalize hX:blk X sc (jH X.env.cells sc.names []) s3.heap.objs.size Nc fp s3 H3=Xb at I4
  have eP:Xb.prog=X.prog:=by rw[<- hX]; rfl
  have ew:Xb.w=X.w:=by rw[<- hX]; rfl
  have eK:Xb.K=X.K:=by rw[<- hX]; rfl
  have eA:Xb.A=X.A:=by rw[<- hX]; rfl
  have ec:Xb.calm=true:=by rw[<- hX]; exact hc
  have ee:Xb.env=compEnvC sc (jH X.env.cells sc.names []) s3.heap.objs.size X.env:=by rw[<- hX]; rfl
  have ex:Xb.xe=fun _ _=>False:=by rw[<- hX]; rfl
  have hgb:PG Xb tg g:=by rw[<- hX]; exact hg _ _ _ _ _
  have htb:PTs Xb ifs tt:=by rw[<- hX]; exact ht _ _ _ _ _
  have heb:PE Xb elt (tf σ):=by rw[<- hX]; exact he _ _ _ _ _ _ _ I3 f3
  have stat:∀ {H':Hp},(∀ b∈fp,H' b=none)->∀ b∈fp,FpOk Xb [] H' b:=fun {H'} hn b hb=>by
   obtain⟨o,eo,_⟩:=T.obj _ _ st4 b hb
   have q:=I4.ok.exf b (by rw[<- hX]; exact hb)
   exact⟨hn b hb,q.1,I4.ok.exfs b (by rw[<- hX]; exact hb), .inl (by rw[<- hX]; exact hb),q.2,fun p hp=>absurd hp (by rw[<- hX]; simp [blk])⟩
  have fr4:∀ b∈fp,H3 b=none:=fun b hb=>(f3 b hb).1
  unfold PG at hgb
  unfold PTs at htb
  unfold PE at heb
  rw[eP,ew,eA,ee,ex] at hgb htb heb
  refine jIX (fun n z=>∃ i σ' H' ys,Inv Xb [] σ' H' z/\tn i z.heap/\(∀ b∈fp,H' b=none)/\W i n σ' H' ys) ?_ n0 ⟨0,_,H3,[],I4,st4,fr4,w0⟩
  rintro n z ⟨i,σ5,H5,ys,I5,st5,fr5,w5⟩
  obtain⟨hD,hlen,way⟩:=turn i n σ5 H5 ys w5
  rcases way with ⟨stop,q⟩ | ⟨go,N,hN,step⟩
  ·have RR:=T.done Xb eP ew eK ec i [] z σ5 H5 (fun _ _=>False) I5 (stat fr5) st5 stop
   rw[eA] at RR
   refine thn RR fun r z1 ⟨hr,I6⟩=>?_
   subst hr
   obtain⟨mm,hn6,_⟩:=I6.loc
   rw[ee] at hn6
   have u6:Un (frs X.stack) fp H3 H5 s3.heap z1.heap:=by
    have:=I6.base
    rw[<- hX] at this
    exact this
   have fC:H5 s3.heap.objs.size=none:=by
    have:=I6.free
    rw[ee] at this
    exact this
   have hok6:HOk X.prog X.w H5 z1.heap:=by
    have:=I6.hok
    rw[eP,ew] at this
    exact this
   have os6:z1.os=s3.os:=by
    have:=I6.os
    rw[<- hX] at this
    exact this
   refine fin s2.heap.objs.size s3.heap.objs.size H5 z1 .next ⟨mm,hn6⟩ (I3.fpOk (aE _) fC) (fun h' sb=>?_) q
   refine I3.call' (s':= { z1 with heap:=h'}) (ch:=fp) os6 (u6.sameBut sb (aE _)) (hok6.sameBut sb fC) I6.bare (fun b hb=>?_)
   obtain⟨a0,a1,a2,a3,a4,a5⟩:=f3 b hb
   exact⟨a3,a1,a4,a5⟩
  ·have RR:=T.item Xb eP ew eK ec i [] z σ5 H5 (fun _ _=>False) I5 (stat fr5) st5 go
   rw[eA] at RR
   refine thn RR fun r z1 ⟨u,hr,h6⟩=>?_
   subst hr
   refine thn h6 fun _ z2 ⟨x,H7,I7,r7,y7,st7,fr7⟩=>?_
   have I7':=I7.pinned (stat fr7) (T.obj _ _ st7)
   refine thn (hgb _ z2 σ5 H7 x u _ I7' r7 (step x H7 y7)) fun _ z3 ⟨σ8,H8,I8,q8⟩=>?_
   refine thn (htb _ z3 σ8 H8 _ I8 q8) fun ok z4 ⟨H9,I9,q9⟩=>?_
   have again:∀ {σ7:St}{Hz:Hp}{zz:Shared}{yy:List V}{n':Nat},Inv Xb ([]++jFD fp z2.heap) σ7 Hz zz->n'<n->W (i+1) n' σ7 Hz yy->∃ k,k<n/\∃ i σ' H' ys,Inv Xb [] σ' H' zz/\tn i zz.heap/\(∀ b∈fp,H' b=none)/\W i k σ' H' ys:=fun {σ7 Hz zz yy n'} Iz hn wz=>by
    refine⟨n',hn,i+1,σ7,Hz,yy,Iz.unpinned,T.keep _ _ _ st7 fun b hb o e=>(Iz.pin (b,o) (aQ _ (aQ _ (jAZ hb e)))).1,fun b hb=>?_,wz⟩
    obtain⟨o,e,d⟩:=T.obj _ _ st7 b hb
    exact(Iz.pin (b,o) (aQ _ (aQ _ (jAZ hb e)))).2.1
   cases ok with
   | false=>
    obtain⟨n',hn,w9⟩:=hN _ _ _ (show N σ8 H9 ys from q9)
    exact again I9 hn w9
   | true=>
    refine thn (heb _ z4 σ8 H9 _ I9 q9) fun xv z5 ⟨vv,H10,I10,r10,hD10,n10⟩=>?_
    obtain⟨n',hn,w10⟩:=hN _ _ _ n10
    have RR:=jD1 (X:=Xb) _ z5 σ8 H10 (.ref s2.heap.objs.size) [vv] (.ref s2.heap.objs.size) [xv] (fun _ H'=>H'=upd H10 s2.heap.objs.size (.lst (ys++[vv]))) I10 rfl (.cons r10 .nil) ⟨_,ys,vv,rfl,rfl,hD10,hlen,rfl⟩
    rw[eP,ew,eA,ex] at RR
    refine thn RR fun _ z6 ⟨_,H11,I11,_,e11⟩=>?_
    subst e11
    exact again I11 hn w10
 exact codeAny_compStart_list loop (T.self _ 0 _ _ _ st4 loop)
theorem jPS (hc:X.calm=true)(hi:PI X tg iter wi)(hkind:sc.kind= .function)(hcell:∀ y∈sc.names,y.2≠ .cell)(hnames:∀ y∈sc.names,y.2= .local->sc.names.lookup y.1=some .local)
  (hfree:∀ y∈sc.names,y.2= .free->X.env.scope.names.lookup y.1=some .cell\/X.env.scope.names.lookup y.1=some .free) (hm:jCE X sc Nc m)
  (hg:∀ cl C fp s H,PG (blk X sc cl C Nc fp s H) tg g) (ht:∀ cl C fp s H,PTs (blk X sc cl C Nc fp s H) ifs tt) (he:∀ cl C fp s H,PE (blk X sc cl C Nc fp s H) elt te)
  (hs:∀ x,foldedSetIterable iter X.env x=pure x:=by intro _; rfl):PE X (.ListComp elt [⟨tg,iter,ifs,0⟩] sc pos) (tComp m wi g tt te):=by
 intro pins s σ H Q I h
 rw[eval_ListComp]
 exact jI7 (tf:=fun _=>te) (use:=none) hc hi hkind hcell hnames hfree hm hg ht (fun cl C fp s H _ _ _ _=>he cl C fp s H) hs I h (fun D C H5 z1 r ⟨mm,hn⟩ fC sb q=>⟨mm,hn,fun h' s2=>⟨.ref D,H5,sb h' s2,rfl,q⟩⟩)
end
theorem kN {X:Cx}{sc psc:Scope}(h:(sc.names.all fun y=>decide (y.2= .free->psc.names.lookup y.1=some .cell\/psc.names.lookup y.1=some .free))=true)(e:X.env.scope=psc:=by rfl):
  ∀ y∈sc.names,y.2= .free->X.env.scope.names.lookup y.1=some .cell\/X.env.scope.names.lookup y.1=some .free:=by
 rw[e]
 intro y hy
 exact bj (dC.mp h y hy)
def jLL (sc:Scope)(N Nc:List Str)(m:List (Option Nat))(k:Nat):Bool:=match m[k]? with
 | some (some i)=>match Nc[k]? with
  | some x=>decide (N[i]?=some x)&&decide (sc.names.lookup x=some .free)
  | none=>false
 | _=>true
theorem jU {X:Cx}{sc:Scope}{N Nc:List Str}{m:List (Option Nat)}(e:X.N=N)(hl:m.length=Nc.length)(h:((List.range m.length).all (jLL sc N Nc m))=true):jCE X sc Nc m:=by
 refine⟨hl,fun k i hk=>?_⟩
 have hlt:k<m.length:=(ar.mp hk).1
 have q:=dC.mp h k (cH.mpr hlt)
 unfold jLL at q
 rw[hk] at q
 cases e2:Nc[k]? with
 | none=>rw[e2] at q; cases q
 | some x=>
  rw[e2] at q
  have q:(decide (N[i]?=some x)&&decide (sc.names.lookup x=some .free))=true:=q
  rw[ff] at q
  exact⟨x,rfl,by rw[e]; exact bj q.1,bj q.2⟩
section
variable {m:List (Option Nat)}{g:TG}{tt:TT}{te:TE}{σ:St}{H1:Hp}{Q:VK}
theorem jI6 {lo:Int}{n:Nat}(hn:n<sizeLine)(Pv:Addr->Nat->St->Hp->List V->Prop)(h0:∀ D,H1 D=none->Pv D 0 (blkσ m σ) (upd H1 D (.lst [])) [])
  (hD:∀ D i σ' H' ys,H1 D=none->i<=n->Pv D i σ' H' ys->H' D=some (.lst ys)/\ys.length<=i)
  (hs:∀ D i σ' H' ys,H1 D=none->i<n->Pv D i σ' H' ys->g (.int (lo+i)) σ' H' fun σ2 H2=>tt σ2 H2 fun b H3=>if b=true then te σ2 H3 fun v H4=>H4 D=some (.lst ys)/\Pv D (i+1) σ2 (upd H4 D (.lst (ys++[v]))) (ys++[v]) else Pv D (i+1) σ2 H3 ys)
  (hd:∀ D σ' H' ys,H1 D=none->Pv D n σ' H' ys->Q (.ref D) H'):CompW m g tt te σ Q (Itr lo n) H1:=by
 intro D hDn
 refine⟨fun i k σ' H' ys=>k=n - i/\i<=n/\Pv D i σ' H' ys,⟨n,rfl,bG _,h0 D hDn⟩,?_⟩
 rintro i k σ' H' ys ⟨rfl,hi,p⟩
 obtain⟨q1,q2⟩:=hD D i σ' H' ys hDn hi p
 refine⟨q1,by omega,?_⟩
 by_cases hlt:i<n
 ·refine .inr ⟨hlt,Pv D (i+1),fun σ2 H2 zs z=>⟨n - (i+1),by omega,rfl,hlt,z⟩,fun x H'' y=>?_⟩
  obtain⟨e1,e2⟩:=y
  subst e1 e2
  exact hs D i σ' _ ys hDn hlt p
 ·have e:i=n:=by omega
  subst e
  exact .inl ⟨aE _,hd D σ' H' ys hDn p⟩
end
end L2
end
section
namespace SS
open PySem PySem.SetTable
abbrev Ris (xs:Array Nat):Prop:=xs.toList.Pairwise (· < ·)
theorem jBU {xs:Array Nat}(h:Ris xs){a b:Nat}(hab:a<b)(hb:b<xs.size):xs.getD a 0<xs.getD b 0:=by
 have h1:a<xs.size:=gc hab hb
 have:=cY.mp h a b (by simpa using h1) (by simpa using hb) hab
 simpa [Array.getD,h1,hb] using this
theorem jQN {xs:Array Nat}{j:Nat}(hr:Ris xs):∀ (fuel lo hi:Nat),hi - lo<=fuel->lo<=hi->hi<=xs.size->(∀ a,a<lo->xs.getD a 0<j)->(∀ a,hi<=a->a<xs.size->j<=xs.getD a 0)->
  (below.go xs j fuel lo hi<=xs.size/\(∀ a,a<below.go xs j fuel lo hi->xs.getD a 0<j)/\(∀ a,below.go xs j fuel lo hi<=a->a<xs.size->j<=xs.getD a 0)):=by
 intro fuel
 induction fuel with
 | zero=>
  intro lo hi h1 h2 h3 h4 h5
  have e:lo=hi:=by omega
  subst e
  exact⟨h3,h4,h5⟩
 | succ fuel ih=>
  intro lo hi h1 h2 h3 h4 h5
  unfold below.go
  by_cases hlt:lo<hi
  ·rw[aq hlt]
   have hm:(lo+hi) / 2<xs.size:=by omega
   have e:xs.getD ((lo+hi) / 2) j=xs.getD ((lo+hi) / 2) 0:=by simp [Array.getD,hm]
   dsimp only
   rw[e]
   by_cases hc:xs.getD ((lo+hi) / 2) 0<j
   ·rw[aq hc]
    refine ih _ _ (by omega) (by omega) h3 (fun a ha=>?_) h5
    by_cases e2:a=(lo+hi) / 2
    ·rw[e2]; exact hc
    ·exact gc (jBU hr (by omega) hm) hc
   ·rw[aj hc]
    refine ih _ _ (by omega) (by omega) (by omega) h4 (fun a ha hs=>?_)
    by_cases e2:a=(lo+hi) / 2
    ·rw[e2]; omega
    ·have:=jBU hr (show (lo+hi) / 2<a by omega) hs
     omega
  ·rw[aj hlt]
   have e:lo=hi:=by omega
   subst e
   exact⟨h3,h4,h5⟩
theorem jDW {xs:Array Nat}(hr:Ris xs)(j:Nat):below xs j<=xs.size/\(∀ a,a<below xs j->xs.getD a 0<j)/\(∀ a,below xs j<=a->a<xs.size->j<=xs.getD a 0):=
 jQN hr xs.size 0 xs.size (by omega) (bG _) (aE _) (fun a h=>absurd h (eN _)) (fun a h1 h2=>absurd h2 (by omega))
theorem jES {xs:Array Nat}(hr:Ris xs){j i:Nat}(hi:i<=xs.size)(h1:∀ a,a<i->xs.getD a 0<j)(h2:∀ a,i<=a->a<xs.size->j<=xs.getD a 0):below xs j=i:=by
 obtain⟨b1,b2,b3⟩:=jDW hr j
 rcases ik (below xs j) i with h | h | h
 ·have q1:=h1 _ h
  have q2:=b3 _ (aE _) (by omega)
  omega
 ·exact h
 ·have q1:=b2 _ h
  have q2:=h2 _ (aE _) (by omega)
  omega
theorem toList_insertAt {α:Type}(xs:Array α)(p:Nat)(x:α):(insertAt xs p x).toList=xs.toList.take p++x::xs.toList.drop p:=by
 unfold insertAt
 simp [eX,List.extract]
 rw[cx (by simp)]
theorem jBE {α:Type}(xs:Array α)(p:Nat)(x:α):(insertAt xs p x).size=xs.size+1:=by
 rw[<- aL,toList_insertAt]
 simp
 omega
theorem jIG {xs:Array Nat}{j:Nat}(hr:Ris xs)(hj:j∉xs.toList):Ris (insertAt xs (below xs j) j):=by
 obtain⟨b1,b2,b3⟩:=jDW hr j
 show (insertAt xs (below xs j) j).toList.Pairwise (· < ·)
 rw[toList_insertAt,cK,cJ]
 have hl:∀ a∈xs.toList.take (below xs j),a<j:=by
  intro a ha
  obtain⟨i,hi,e⟩:=List.mem_take_iff_getElem.mp ha
  have:=b2 i (by omega)
  have hs:i<xs.size:=by simp at hi; omega
  simp [Array.getD,hs] at this
  simp at e
  omega
 have hg:∀ a∈xs.toList.drop (below xs j),j<a:=by
  intro a ha
  obtain⟨i,hi,e⟩:=List.mem_drop_iff_getElem.mp ha
  have hs:i+below xs j<xs.size:=by simpa [iW] using hi
  have:=b3 (i+below xs j) (by omega) hs
  simp [Array.getD,hs] at this
  have e':xs[i+below xs j]=a:=by simpa [iW] using e
  have hne:a≠j:=by
   intro z
   apply hj
   rw[<- z]
   exact dN ha
  omega
 refine⟨hr.sublist (eV _ _),⟨hg,hr.sublist (List.drop_sublist _ _)⟩,?_⟩
 intro a ha b hb
 rcases az.mp hb with rfl | hb
 ·exact hl a ha
 ·exact gc (hl a ha) (hg b hb)
theorem jD0 {t:SetTable}{j:Nat}(hr:Ris t.place)(h:t.slot j= .empty):j∉t.place.toList:=by
 intro hm
 obtain⟨i,hi,e⟩:=fk hm
 have hs:i<t.place.size:=by simpa using hi
 have e0:t.place[i]=j:=by simpa using e
 have eb:below t.place j=i:=by
  refine jES hr (cM hs) (fun a ha=>?_) (fun a h1 h2=>?_)
  ·have:=jBU hr ha hs
   simp only [Array.getD,hs] at this ⊢
   simp [e0] at this ⊢
   exact this
  ·by_cases e2:a=i
   ·subst e2
    simp [Array.getD,hs,e0]
   ·have:=jBU hr (show i<a by omega) h2
    simp only [Array.getD,hs] at this
    simp [e0] at this
    simp [Array.getD]
    omega
 unfold SetTable.slot at h
 dsimp only at h
 rw[eb] at h
 rw[aq (by simp [hs,e0])] at h
 cases h
theorem jGQ (j:Nat):has #[] j=false:=by
 unfold has
 simp
theorem jHE {t:SetTable}(hd:t.dummies=#[]){f:Nat->Int}{h:Int} :∀ (fuel:Nat) (p:Probe) (m:Met),p.dummy=none->probe.go t f h fuel p=some m->
  (∃ j,m= .empty j none/\t.slot j= .empty)\/(∃ j i n,m= .candidate j i n):=by
 intro fuel
 induction fuel with
 | zero=>intro p m _ e; simp [probe.go] at e
 | succ fuel ih=>
  intro p m hp e
  unfold probe.go at e
  cases hs:t.slot p.j with
  | empty=>
   rw[hs] at e
   simp only [gd] at e
   subst e
   exact .inl ⟨p.j,by rw[hp],hs⟩
  | dummy=>
   unfold SetTable.slot at hs
   dsimp only at hs
   rw[hd,jGQ] at hs
   split at hs
   ·cases hs
   ·simp at hs
  | live i=>
   rw[hs] at e
   dsimp only at e
   split at e
   ·simp only [gd] at e
    subst e
    exact .inr ⟨_,_,_,rfl⟩
   ·refine ih _ _ ?_ e
    unfold advance
    split
    ·exact hp
    ·exact hp
theorem jEH {t:SetTable}(hr:Ris t.place)(hd:t.dummies=#[]){h:Int}{slot:Nat}{d:Bool}(e:t.freeSlot h=some (slot,d)):slot∉t.place.toList:=by
 unfold SetTable.freeSlot at e
 split at e
 ·rename_i j dummy hp
  simp only [gd,Prod.mk.injEq] at e
  have hp':probe.go t (fun _=>h+1) h (10*turns t.mask) (t.probeStart h)=some (.empty j dummy):=hp
  rcases jHE hd _ _ _ (by unfold probeStart; rfl) hp' with ⟨j',em,hs⟩ | ⟨_,_,_,em⟩
  ·cases em
   have:slot=j:=by rw[<- e.1]; rfl
   rw[this]
   exact jD0 hr hs
  ·cases em
 ·cases e
theorem jDI {t:SetTable}{j:Nat}(hd:t.dummies=#[])(h:t.slot j≠ .empty):(∃ i,t.slot j= .live i)/\j∈t.place.toList:=by
 unfold SetTable.slot at h ⊢
 dsimp only at h ⊢
 by_cases q:(t.place[below t.place j]?==some j)=true
 ·rw[aq q]
  refine⟨⟨_,rfl⟩,?_⟩
  have e:t.place[below t.place j]?=some j:=eq_of_beq q
  obtain⟨hi,e⟩:=eY.mp e
  rw[<- e]
  exact Array.getElem_mem_toList hi
 ·rw[aj q,hd,jGQ] at h
  exact absurd rfl h
def slotAt (xs:Array Nat):Nat->Nat
 | 0=>0
 | i+1=>xs.getD i 0+1
theorem jCC {xs:Array Nat}(hr:Ris xs){i:Nat}(hi:i<=xs.size):below xs (slotAt xs i)=i:=by
 cases i with
 | zero=>exact jES hr (bG _) (fun a h=>absurd h (eN _)) (fun a _ _=>bG _)
 | succ i=>
  refine jES hr hi (fun a ha=>?_) (fun a h1 h2=>?_)
  ·show _<xs.getD i 0+1
   by_cases e:a=i
   ·rw[e]; omega
   ·have:=jBU hr (show a<i by omega) (show i<xs.size by omega)
    omega
  ·show xs.getD i 0+1<=_
   exact jBU hr (show i<a by omega) h2
theorem jIV {α:Type}{l:List α}{i:Nat}(h:i<l.length):(l[i]::l.eraseIdx i).Perm l:=by
 rw[List.eraseIdx_eq_take_drop_succ]
 have e:l=l.take i++l[i]::l.drop (i+1):=by rw[<- fj h,bf]
 conv=>rhs; rw[e]
 exact iL.symm
theorem jPM {α:Type}(next:Nat->Nat):∀ (fuel k:Nat) (left:List α) (out:Array α),fuel=left.length->(pickOrder.go next fuel k left out).toList.Perm (out.toList++left):=by
 intro fuel
 induction fuel with
 | zero=>
  intro k left out h
  have:left=[]:=iM.mp h.symm
  subst this
  simp [pickOrder.go]
 | succ f ih=>
  intro k left out h
  have hl:next k % left.length<left.length:=jy _ (by omega)
  unfold pickOrder.go
  rw[aB hl]
  dsimp only
  refine(ih _ _ _ (by rw[List.length_eraseIdx_of_lt hl]; omega)).trans ?_
  rw[dO,aX]
  exact cZ _ (jIV hl)
theorem jCY {α:Type}(next:Nat->Nat)(xs:Array α):(pickOrder next xs).toList.Perm xs.toList:=by
 unfold pickOrder
 have:=jPM next xs.size 0 xs.toList #[] (by simp)
 simpa using this
end SS
end
section
namespace SS
open PySem
abbrev ledW (w:World):Bool:=!(w.params.followText "set-order")
def El (e:Int×Value)(k:Int):Prop:=e.1=hashInt k/\∃ t,e.2= .int k t
theorem jAL {α β:Type}{F:α->β->Prop} :∀ {l:List α}{r:List β},Paired F l r->∀ a∈l,∃ b∈r,F a b
 | _,_, .nil=>fun a h=>by cases h
 | _,_, .cons f t=>fun a h=>by
  rcases az.mp h with rfl | h
  ·exact⟨_,ak,f⟩
  ·obtain⟨b,hb,q⟩:=jAL t a h
   exact⟨b,ai _ hb,q⟩
theorem jAQ {α β:Type}{F:α->β->Prop} :∀ {l:List α}{r:List β},Paired F l r->∀ b∈r,∃ a∈l,F a b
 | _,_, .nil=>fun a h=>by cases h
 | _,_, .cons f t=>fun b h=>by
  rcases az.mp h with rfl | h
  ·exact⟨_,ak,f⟩
  ·obtain⟨a,ha,q⟩:=jAQ t b h
   exact⟨a,ai _ ha,q⟩
theorem jBX {α β:Type}{F:α->β->Prop}{a:α}{b:β}(f:F a b):∀ {l:List α}{r:List β}(p:Nat),Paired F l r->Paired F (l.take p++a::l.drop p) (r.take p++b::r.drop p)
 | _,_,0,q=>by simpa using Paired.cons f q
 | _,_,p+1, .nil=>by simpa using Paired.cons f .nil
 | _,_,p+1, .cons g t=>by
  simp only [List.take_succ_cons,List.drop_succ_cons,List.cons_append]
  exact .cons g (jBX f p t)
theorem jCW {α:Type}(l:List α)(p:Nat)(x z:α):z∈l.take p++x::l.drop p↔z=x\/z∈l:=by
 conv=>rhs; rw[<- bf p l]
 simp only [aU,az]
 constructor
 ·rintro (h | h | h)
  ·exact .inr (.inl h)
  ·exact .inl h
  ·exact .inr (.inr h)
 ·rintro (h | h | h)
  ·exact .inr (.inl h)
  ·exact .inl h
  ·exact .inr (.inr h)
theorem jCJ {α:Type}(l:List α)(p:Nat)(x:α):(l.take p++x::l.drop p).Perm (x::l):=by
 have h:(l.take p++x::l.drop p).Perm (x::(l.take p++l.drop p)):=iL
 rw[bf] at h
 exact h
section
variable {prog:Program}{w:World}{A:Around}{E:Value->Shared->Prop}{s:Shared}{a:Addr}{ks:List Int}{k:Int}{tk:Tok}
theorem elems {es:List (Int×Value)}(h:Paired El es ks):ElemsOf (intKind prog w) es:=fun e he=>by
 obtain⟨k,_,h1,t,h2⟩:=jAL h e he
 rw[h2]
 exact⟨⟨k,by show Value.isInt k (.int k t)=true; simp [Value.isInt],h1⟩,rfl⟩
end
theorem jAF:entryFor table "set.update.loop" =some Builtin.«set.update.loop»:=entryFor_of_fast (by kernel_rfl)
theorem jA5:plainId "set.update.loop" =true:=by decide+kernel
section
variable {prog:Program}{w:World}{A:Around}{R:Result->Shared->Prop}{I:Addr}{fp wr:List Addr}{n:Nat}{P:Nat->Value->Prop}{St:Nat->Shared->Prop}
end
section
variable {prog:Program}{w:World}{A:Around}{E:Value->Shared->Prop}{s:Shared}
theorem jKC (a:Value){Q:Value->Shared->Prop}
  (h:Q (.ref s.heap.objs.size) { s with heap:=s.heap.push { cls:= .type "set",dict:=none,data:= .set #[] 0 (.fresh 0 0 (ledW w))}}):
  codeAny (model prog w) A (.call (.builtin "set.__new__") ⟨[.type "set",a],[]⟩) (wants Q E) s:=by
 refine codeAny_of_tree (show wpAny _ A.in1 (do checkBuiltinCall "set.__new__" ⟨[.type "set",a],[]⟩; again (.builtin "set.__new__" ⟨[.type "set",a],[]⟩)) _ _ s from ?_)
 refine aa (im (F.newCall_set_1 a) (ag ⟨dz F.plain_set_new _,cr F.entry_set_new ?_⟩))
 rw[bV F.plain_set_new _]
 unfold Builtin.«set.__new__» Builtin.Frozenset.newClass
 have q:=sub_set_self
 obtain⟨hp,g,d,tk,os⟩:=s
 dsimp only
 wp_walk
 refine fg (ag ?_)
 dsimp only
 simp only [newObj]
 exact aa (wpAny_alloc (ag (ag h)))
set_option maxHeartbeats 3200000 in
end
theorem slot_si_next:Slot "set_iterator" "__next__" "set_iterator.__next__" :=
 .of (owner:= "set_iterator") (n:= "__next__") (by
   rw[i8,gu]
   kernel_rfl) (by decide+kernel) (by decide+kernel)
  (by decide+kernel)
  (by first
   | exact .inl (by decide+kernel)
   | exact .inr (by decide+kernel))
  (by
   rw[jg]
   kernel_rfl)
theorem jAP:Slot "set_iterator" "__iter__" "set_iterator.__iter__" :=
 .of (owner:= "set_iterator") (n:= "__iter__") (by
   rw[i8,gu]
   kernel_rfl) (by decide+kernel) (by decide+kernel)
  (by decide+kernel)
  (by first
   | exact .inl (by decide+kernel)
   | exact .inr (by decide+kernel))
  (by
   rw[jg]
   kernel_rfl)
theorem jAO:entryFor table "set_iterator.__next__" =some Builtin.«set_iterator.__next__»:=entryFor_of_tree (by kernel_rfl)
theorem jB6:entryFor table "set.__iter__" =some Builtin.«frozenset.__iter__»:=
 jh (id':= "frozenset.__iter__") (by kernel_rfl) rfl (by decide+kernel) (by kernel_rfl)
theorem jBN:entryFor table "set_iterator.__iter__" =some Builtin.«dict_keyiterator.__iter__»:=
 jh (id':= "dict_keyiterator.__iter__") (by kernel_rfl) (by first | rfl | decide+kernel | (unfold String.splitOn; simp+decide [String.splitOnAux])) (by decide+kernel)
  (by kernel_rfl)
theorem jAT (a:Value):argsOk "set_iterator.__next__" ⟨[a],[]⟩:=by unfold argsOk; kernel_rfl
theorem jCD (a:Value):argsOk "set_iterator.__iter__" ⟨[a],[]⟩:=by unfold argsOk; kernel_rfl
theorem jBP (a:Value):argsOk "set.__iter__" ⟨[a],[]⟩:=by unfold argsOk; kernel_rfl
abbrev byTxt (w:World):Bool:=w.params.followText "set-order"
abbrev IsSI (h:Heap)(I:Addr)(slot i:Nat)(a:Addr)(n ep:Nat):Prop:=
 h.get? I=some { cls:= .type "set_iterator",dict:=none,data:= .fields #[rawInt slot,rawInt i, .ref a,rawInt n,rawInt ep],slots:=#[]}
def y6 (w:World)(t:SetTable)(i:Nat):Nat:=if byTxt w=true then 0 else slotAt t.place i
noncomputable def told (w:World)(a:Addr)(ep:Nat)(es:Array (Int×Value)):List Value:=(if byTxt w=true then (pickOrder (w.params.setOrder a ep) es).toList else es.toList).map (·.2)
theorem told_len (w:World)(a:Addr)(ep:Nat)(es:Array (Int×Value)):(told w a ep es).length=es.size:=by
 unfold told
 rw[ah]
 split
 ·rw[(jCY _ es).length_eq]; simp
 ·simp
theorem told_perm (w:World)(a:Addr)(ep:Nat)(es:Array (Int×Value)):(told w a ep es).Perm (es.toList.map (·.2)):=by
 unfold told
 split
 ·exact(jCY _ es).map _
 ·exact .refl _
section
variable {prog:Program}{w:World}{A:Around}{E:Value->Shared->Prop}{s:Shared}{a I:Addr}{o:Obj}{es:Array (Int×Value)}{ep:Nat}{t:SetTable}
theorem jJN {i:Nat}{slot n:Nat}{Q:Value->Shared->Prop}(hit:IsSI s.heap I slot i a n ep)(h:Q (.ref I) s):wpAny (model prog w) A (pyIter (.ref I)) Q E s:=by
 have hT:s.TypeIs (.ref I) "set_iterator" :=⟨_,hit,rfl⟩
 refine io hT jAP (bQ jAP hT jBN ?_ (jCD _))
 show wpAny _ _ (ret (.ref I)) _ _ s
 exact ag ⟨_,rfl,"set_iterator",_,hT,slot_si_next.lookup,h⟩
end
theorem jF6:typeLookup (.type "set") "__len__" =pure (some (.builtin "set.__len__")):=by rw[i8,gu]; kernel_rfl
section
variable {prog:Program}{w:World}{A:Around}{E:Value->Shared->Prop}{s:Shared}{a:Addr}{o:Obj}{es:Array (Int×Value)}{ep:Nat}{t:SetTable}
theorem jHY {Q:Bool->Shared->Prop}(hT:s.TypeIs (.ref a) "set")(h:Q false s):wpAny (model prog w) A (Builtin.List.listLengthHint (.ref a)) Q E s:=by
 unfold Builtin.List.listLengthHint
 refine aa (wpAny_specialOf hT jF6 ?_)
 generalize hid:("set.__len__" :String)=id0
 wp_delta
 rw[show splitId id0=some ("set","__len__") from by subst hid; decide+kernel]
 subst hid
 refine aa (gy (b:=true) hT (by rw[jg]; kernel_rfl) ?_)
 refine wpAny_ite_split (fun q=>absurd q (by decide)) (fun _=>?_)
 refine wpAny_ite_split (fun _=>?_) (fun q=>absurd (by decide+kernel) q)
 exact aa (wpAny_typeOf hT (ag h))
end
end SS
end
section
namespace SS
open PySem PyProof.Rows
section
variable {prog:Program}{w:World}{A:Around}{E:Value->Shared->Prop}{s:Shared}{a:Addr}{ks:List Int}
theorem ints_of:∀ {vs:List Value}{ks:List Int},Paired (fun v k=>∃ t,v=Value.int k t) vs ks->IntsAre vs ks
 | _,_, .nil=> .nil
 | _,_, .cons ⟨t,e⟩ r=>by subst e; exact .cons _ t (ints_of r)
theorem paired_map {es:List (Int×Value)} :∀ {ks:List Int},Paired El es ks->Paired (fun v k=>∃ t,v=Value.int k t) (es.map (·.2)) ks
 | _, .nil=> .nil
 | _, .cons ⟨_,q⟩ r=> .cons q (paired_map r)
theorem paired_perm {α β:Type}{F:α->β->Prop}{l l':List α}(p:l'.Perm l):∀ {r:List β},Paired F l r->∃ r',Paired F l' r'/\r'.Perm r:=by
 induction p with
 | nil=>intro r h; cases h; exact⟨[], .nil, .nil⟩
 | cons x _ ih=>
  intro r h
  cases h with
  | cons f t=>
   obtain⟨r',h1,h2⟩:=ih t
   exact⟨_::r', .cons f h1,h2.cons _⟩
 | swap x y l=>
  intro r h
  cases h with
  | cons f t=>
   cases t with
   | cons g t=>exact⟨_, .cons g (.cons f t), .swap _ _ _⟩
 | trans _ _ ih1 ih2=>
  intro r h
  obtain⟨r1,h1,h2⟩:=ih2 h
  obtain⟨r2,h3,h4⟩:=ih1 h1
  exact⟨r2,h3,h4.trans h2⟩
end
end SS
end
section
namespace L2
open PySem PySem.Spec PyProof.Rows
section
variable {es:List Expr}{env:Env}{a b:Expr}{pos:Pos}{xs ys:List Expr}
theorem jBG {op:Operator} :starEach (.BinOp a op b pos::es) env=(false,eval (.BinOp a op b pos) env)::starEach es env:=rfl
theorem se_un {op:UnaryOp} :starEach (.UnaryOp op a pos::es) env=(false,eval (.UnaryOp op a pos) env)::starEach es env:=rfl
theorem jO {kw:List Keyword} :starEach (.Call a xs kw pos::es) env=(false,eval (.Call a xs kw pos) env)::starEach es env:=rfl
theorem jCV:starEach (.Subscript a b pos::es) env=(false,eval (.Subscript a b pos) env)::starEach es env:=rfl
theorem jY {gs sc} :starEach (.ListComp a gs sc pos::es) env=(false,eval (.ListComp a gs sc pos) env)::starEach es env:=rfl
theorem jCU {x1} :starEach (.Tuple xs x1 pos::es) env=(false,eval (.Tuple xs x1 pos) env)::starEach es env:=rfl
theorem jC8:starEach (.List xs pos::es) env=(false,eval (.List xs pos) env)::starEach es env:=rfl
theorem jE {c k} :starEach (.Constant c k pos::es) env=(false,eval (.Constant c k pos) env)::starEach es env:=rfl
theorem j6 {x:Str} :starEach (.Name x pos::es) env=(false,eval (.Name x pos) env)::starEach es env:=rfl
end
section
variable {X:Cx}
def CDivL (i j:Int):Prop:=0<j/\j<2 ^ 64
theorem jMS:OpR X (binaryOp .FloorDiv) (rI CDivL fun i j=> .int (i / j)):=opI fun i j _ _ _ _ _ hc q=>by
 have h1:(0:Int)<j:=hc.1
 have h2:j<2 ^ 64:=hc.2
 refine floordiv_int (by omega) (by rw[Int.fdiv_eq_ediv_of_nonneg i (by omega)]; exact q) (.inl (PyProof.noPylong_of_log2 ?_))
 have h3:j.natAbs<2 ^ 64:=by omega
 have h4:j.natAbs≠0:=by omega
 have:=(Nat.log2_lt h4).mpr h3
 omega
theorem jN:yC X (.builtin "isinstance") (fun xs H Q=>∃ x T t b,xs=[x, .ty T]/\TyOf X.K H x t/\kitOne X.K t (.type T)=some b/\Q (.bl b) H):=by
 intro pins s σ H xs us Q I r h
 obtain⟨x,T,t,b,rfl,ty,e,q⟩:=h
 obtain⟨u,v,rfl,ru,rv⟩:=r.two
 cases rv
 exact jLB I ru ty e fun tk=>⟨.bl b,H,I.tok tk,rfl,q⟩
def jP8:V->List V->Hp->VK->Prop:=fun x vs H Q=>∃ l xs i y,x= .ref l/\vs=[.int i,y]/\H l=some (.lst xs)/\0<=i/\i<=xs.length/\xs.length<sizeLine/\Q .non (upd H l (.lst (xs.take i.toNat++y::xs.drop i.toNat)))
theorem Vals.put {y:V}{v:Value}(r:RelV y v){xs:List V}{us:List Value}(h:Vals xs us)(k:Nat):Vals (xs.take k++y::xs.drop k) (us.take k++v::us.drop k):=(h.take k).append (.cons r (h.drop k))
theorem jKF:MtM X "list.insert" jP8:=by
 intro pins s σ H x vs v us Q I rx rv h
 obtain⟨l,xs,i,y,rfl,rfl,hH,h0,h1,hz,q⟩:=h
 cases rx
 obtain⟨a,b,rfl,ra,rb⟩:=rv.two
 obtain⟨t,rfl⟩:=ra
 obtain⟨z,its,n,r,hl,e⟩:=I.lstM hH
 have line:=jDO
 have hf:Builtin.List.listFitsIndex i=true:=fitsIndex_both (by omega) (by omega)
 refine g5 F.slot_list_insert ⟨_,e,rfl⟩ F.entry_list_insert (F.args_list_insert_3 _ _ _) (AutoSeq1.list_insert_list_int_val_1 l its.toArray n i t b (by simp [hf]) (by rw[aI]; omega)) ⟨e,?_⟩
 refine⟨.non,_,I.lset (its':=its.take i.toNat++b::its.drop i.toNat) hH e ?_ (Vals.put rb r i.toNat) ?_,rfl,q⟩
 ·have hk:(if i<0 then (i+(its.toArray.size:Int)).toNat else min i.toNat its.toArray.size)=i.toNat:=by
   rw[aj (by omega),aI]
   omega
  show (its.toArray.extract 0 (if i<0 then (i+(its.toArray.size:Int)).toNat else min i.toNat its.toArray.size)).push b++its.toArray.extract (if i<0 then (i+(its.toArray.size:Int)).toNat else min i.toNat its.toArray.size)=_
  rw[hk]
  apply Array.ext'
  simp [dH,cx]
 ·rw[aK,aG,bP,List.length_drop]
  omega
theorem jM2 (hc:X.calm=true):yC X (.builtin "all") (fun xs H Q=>∃ (p:Addr) (bs:List Bool),xs=[.ref p]/\SqL X.K H p (bs.map V.bl)/\Q (.bl (bs.all id)) H):=by
 intro pins s σ H xs us Q I r h
 obtain⟨p,bs,rfl,hq,q⟩:=h
 obtain⟨u,rfl,rx⟩:=r.one
 cases rx
 obtain⟨its,r',pl,hz⟩:=I.list hq
 have hlen:=r'.length
 rw[ah] at hlen
 refine call_all_walk (dL pl.isList ?_)
 have hne:p≠s.heap.objs.size:=by
  obtain⟨o,ho,_⟩:=pl.isList
  exact aV (ay ho)
 refine⟨s.heap.objs.size,_,_,_,_,_,fun i=>bs.getD i true,rfl,jz (by simpa using I.ok.hd hc) _ p hne its.toArray,⟨⟨_,aA _ rfl,rfl,rfl⟩,pl.isList.push _⟩,fun i v z Q' E' hP hQ'=>?_,fun h' tk hk=>?_⟩
 ·have hi:its[i]?=some v:=by simpa using hP
  have hb:i<bs.length:=by
   rw[hlen]
   exact(ar.mp hi).1
  obtain⟨u,hu,ru⟩:=r'.get (i:=i) (x:= .bl (bs[i])) (by simp [hb])
  rw[hi] at hu
  cases hu
  cases ru
  have e:bs.getD i true=bs[i]:=by simp [List.getD,hb]
  have hQ2:Q' (bs.getD i true) z:=hQ'
  rw[e] at hQ2
  exact ag hQ2
 ·have e:(List.range its.toArray.size).all (fun i=>bs.getD i true)=bs.all id:=by
   rw[aI,<- hlen]
   rw[dq,dC,dC]
   constructor
   ·intro a b hb
    obtain⟨i,hi,rfl⟩:=fk hb
    have:=a i (cH.mpr hi)
    simpa [List.getD,hi] using this
   ·intro a i hi
    have hi:=cH.mp hi
    have:=a bs[i] (db hi)
    simpa [List.getD,hi] using this
  rw[e]
  exact⟨.bl _,H,I.kept (t':=tk) fun b o e=>hk b o (by
   intro z
   have z:b=s.heap.objs.size:=by simpa using z
   exact absurd (ay e) (by rw[z]; exact cG _)) (ae _ e),rfl,q⟩
theorem jEX {ns:List Int} :∀ {us:List Value},Vals (ns.map V.int) us->IntsAre us ns:=by
 induction ns with
 | nil=>intro us h; cases h; exact .nil
 | cons n ns ih=>
  intro us h
  cases h with
  | cons r t=>
   obtain⟨k,rfl⟩:=r
   exact .cons n k (ih t)
theorem jAS:∀ {us:List Value}{ns:List Int},IntsAre us ns->Vals (ns.map V.int) us
 | _,_, .nil=> .nil
 | _,_, .cons n t r=> .cons ⟨t,rfl⟩ (jAS r)
end
section
variable {X:Cx}{p1 p2 p3 p4 p5 p6 p7:Pos}{k1 k2 k3 k4:Nat}
end
def ItAt (tp:Bool)(h:Heap)(it a:Addr)(i:Nat):Prop:=match tp with
 | false=>h.IsListIter it a i
 | true=>h.IsTupleIter it a i
def ObAt (tp:Bool)(h:Heap)(a:Addr)(xs:Array Value):Prop:=match tp with
 | false=>h.IsList a xs
 | true=>h.IsTuple a xs
theorem ItAt.but {tp:Bool}{h h':Heap}{it a b:Addr}{i:Nat}(x:ItAt tp h it a i)(e:Heap.ExtBut b h h')(n:it≠b):ItAt tp h' it a i:=by
 cases tp with
 | false=>exact Heap.IsListIter.extBut x e n
 | true=>exact Heap.IsTupleIter.extBut x e n
theorem ObAt.but {tp:Bool}{h h':Heap}{a b:Addr}{xs:Array Value}(x:ObAt tp h a xs)(e:Heap.ExtBut b h h')(n:a≠b):ObAt tp h' a xs:=by
 cases tp with
 | false=>exact Heap.IsList.extBut x e n
 | true=>exact Heap.IsTuple.extBut x e n
theorem ItAt.at {tp:Bool}{h h':Heap}{it a:Addr}{i:Nat}(x:ItAt tp h it a i)(e:∀ o,h.get? it=some o->h'.get? it=some o):ItAt tp h' it a i:=by
 cases tp with
 | false=>exact Heap.IsListIter.at x e
 | true=>exact Heap.IsTupleIter.at x e
theorem ItAt.obj {tp:Bool}{h:Heap}{it a:Addr}{i:Nat}(x:ItAt tp h it a i):∃ o,h.get? it=some o/\∀ v,o.data≠ .cell v:=by
 cases tp with
 | false=>obtain⟨o,e,_,d⟩:=x; exact⟨o,e,fun v q=>by rw[d] at q; cases q⟩
 | true=>obtain⟨o,e,_,d⟩:=x; exact⟨o,e,fun v q=>by rw[d] at q; cases q⟩
theorem ObAt.lt {tp:Bool}{h:Heap}{a:Addr}{xs:Array Value}(x:ObAt tp h a xs):a<h.objs.size:=by
 cases tp with
 | false=>obtain⟨o,e,_⟩:=x; exact ay e
 | true=>obtain⟨o,e,_⟩:=x; exact ay e
section
variable {prog:Program}{w:World}{A:Around}{E:Value->Shared->Prop}{s:Shared}
theorem next1 {tp:Bool}{it a:Addr}{i:Nat}{xs:Array Value}{x:Value}{Q:Value->Shared->Prop}(hi:ItAt tp s.heap it a i)(ha:ObAt tp s.heap a xs)(hx:xs[i]?=some x)
  (k:∀ h',ItAt tp h' it a (i+1)->Heap.SameBut it s.heap h'->Q x { s with heap:=h'}):wpAny (model prog w) A (Builtin.SmallTypes.nextOf (.ref it)) Q E s:=by
 cases tp with
 | false=>exact wpAny_nextOf_list_item hi ha hx k
 | true=>
  obtain⟨o,e,c,d⟩:=id (show s.heap.IsTupleIter it a i from hi)
  obtain⟨u,eu,_,n,du⟩:=(show s.heap.IsTuple a xs from ha)
  have ty:=Heap.IsTupleIter.typeIs (show s.heap.IsTupleIter it a i from hi)
  unfold Builtin.SmallTypes.nextOf
  refine aa (bY (name:=Str.ofString "__next__") ty F.slot_tuple_iterator_next (bQ F.slot_tuple_iterator_next ty F.entry_tuple_iterator_next (?_:wpAny (model prog w) _ (field (.ref it) 0 >>= _) _ _ s) (F.args_tuple_iterator_next_1 _)))
  refine aa (bL e d (x:= .ref a) rfl (?_:wpAny (model prog w) _ (if (Value.ref a==Value.none)=true then _ else _) _ _ s))
  rw[aj (by exact ao)]
  show wpAny (model prog w) _ (field (.ref it) 1 >>= _) _ _ s
  refine aa (bL e d (x:= .int i 0) rfl ?_)
  show wpAny (model prog w) _ (seqItems? (.ref a) >>= _) _ _ s
  refine aa (cI eu du ?_)
  simp only [aZ,hx]
  refine aa (eZ e d (by simp) (ag ⟨x,rfl,ag (k _ ⟨_,bC _ e (Obj.isFreed_of_fields (Obj.data_mapFields d _)),(Obj.cls_mapFields ..).trans c,?_⟩ (cC ..))⟩))
  rw[Obj.data_mapFields d]
  simp [rawInt]
theorem next0 {tp:Bool}{it a:Addr}{i:Nat}{xs:Array Value}{Q:Value->Shared->Prop}(hh:A.handled=none)(hi:ItAt tp s.heap it a i)(ha:ObAt tp s.heap a xs)(hx:xs[i]?=none)
  (k:∀ h' e,Heap.ExtBut it s.heap h'->(∃ o,h'.get? e=some o/\o.cls= .type "StopIteration")->E (.ref e) { s with heap:=h'}):wpAny (model prog w) A (Builtin.SmallTypes.nextOf (.ref it)) Q E s:=by
 cases tp with
 | false=>exact wpAny_nextOf_list_end hh hi ha hx k
 | true=>
  obtain⟨o,e,c,d⟩:=id (show s.heap.IsTupleIter it a i from hi)
  obtain⟨u,eu,_,n,du⟩:=(show s.heap.IsTuple a xs from ha)
  have ty:=Heap.IsTupleIter.typeIs (show s.heap.IsTupleIter it a i from hi)
  unfold Builtin.SmallTypes.nextOf
  refine aa (bY (name:=Str.ofString "__next__") ty F.slot_tuple_iterator_next (bQ F.slot_tuple_iterator_next ty F.entry_tuple_iterator_next (?_:wpAny (model prog w) _ (field (.ref it) 0 >>= _) _ _ s) (F.args_tuple_iterator_next_1 _)))
  refine aa (bL e d (x:= .ref a) rfl (?_:wpAny (model prog w) _ (if (Value.ref a==Value.none)=true then _ else _) _ _ s))
  rw[aj (by exact ao)]
  show wpAny (model prog w) _ (field (.ref it) 1 >>= _) _ _ s
  refine aa (bL e d (x:= .int i 0) rfl ?_)
  show wpAny (model prog w) _ (seqItems? (.ref a) >>= _) _ _ s
  refine aa (cI eu du ?_)
  simp only [aZ,hx]
  refine aa (ck (aa (eZ e d (by simp) (?_:wpAny (model prog w) _ (newExc (.type "StopIteration") [] >>= _) _ _ _))))
  refine aa (by
   simp only [newExc,newTuple]
   refine aa (cf (aa (m:=firstArgMember _ _) (im (a:=Value.none) (by first | rfl | (simp only [firstArgMember]; rfl)) (cf ?_ (by size_fits)))) (by size_fits))
   simp only [raiseNew]
   refine aa (wpAny_handled ?_)
   first | rw[show A.in1.handled=none from hh] | rw[hh]
   exact aa (ag (wpAny_throw (k _ _ (((cC ..).extBut.push _).push _) ⟨_,aA _ rfl,rfl⟩))))
theorem jJ0 {t1 t2:Bool}{z TI TO i1 i2 l1 l2:Addr}{k1 k2:Nat}{xs ys:Array Value}{x y a b:Value}{Q:Value->Shared->Prop}(D:ZipApart z TI TO i1 i2 l1 l2)
  (ez:IsZip s.heap z TI TO .none) (eI:IsPair s.heap TI (.ref i1) (.ref i2)) (eO:IsPair s.heap TO a b) (g1:ItAt t1 s.heap i1 l1 k1) (g2:ItAt t2 s.heap i2 l2 k2) (o1:ObAt t1 s.heap l1 xs) (o2:ObAt t2 s.heap l2 ys) (hx:xs[k1]?=some x) (hy:ys[k2]?=some y)
  (k:∀ h',IsZip h' z TI TO (rawInt s.heap.objs.size)->IsPair h' TO x y->ItAt t1 h' i1 l1 (k1+1)->ItAt t2 h' i2 l2 (k2+1)->IsPair h' s.heap.objs.size x y->h'.objs.size=s.heap.objs.size+1->
   (∀ c o,c≠z->c≠TO->c≠i1->c≠i2->s.heap.get? c=some o->h'.get? c=some o)->Q (.ref s.heap.objs.size) { s with heap:=h'}):
  wpAny (model prog w) A (Builtin.«zip.__next__» ⟨[.ref z],[]⟩) (fun fin s'=>∃ v,fin= .done (.ret v)/\Q v s') E s:=by
 show wpAny (model prog w) A (field (.ref z) 2 >>= _) _ _ _
 refine aa (bL ez rfl (x:= .bool false) rfl (?_:wpAny (model prog w) A (field (.ref z) 3 >>= _) _ _ _))
 refine aa (bL ez rfl (x:= .ref TI) rfl (aa (cI eI rfl (?_:wpAny (model prog w) A (Builtin.SmallTypes.ownedTupleIsFree (.ref z) >>= _) _ _ _))))
 refine aa (by
  unfold Builtin.SmallTypes.ownedTupleIsFree
  refine aa (bL ez rfl (x:= .none) rfl (ag ?_))
  simp only [iq]
  refine aa (ck (aa (bL ez rfl (x:= .ref TO) rfl (aa (bE ez (by simp) fun p1 f1 q1=>?_)))))
  have f1:IsZip p1 z TI TO .ellipsis:=f1
  refine aa (by
   simp only [iN,List.zipIdx_nil,i7,List.forIn_nil]
   refine aa (aa (iB (?_:wpAny (model prog w) A (Builtin.SmallTypes.nextOf (.ref i1) >>= _) _ _ _)))
   refine aa (next1 (g1.but q1.extBut D.i1z) (o1.but q1.extBut D.l1z) hx fun p2 r2 q2=>ag ?_)
   have eO2:IsPair p2 TO a b:=q2.extBut _ _ D.TOi1 (q1.extBut _ _ D.TOz eO)
   refine aa (cI eO2 rfl (aa (gF eO2 fun p3 eO3 q3=>aa (fb (ag ?_)))))
   have eO3:IsPair p3 TO x b:=eO3
   refine aa (aa (iB (?_:wpAny (model prog w) A (Builtin.SmallTypes.nextOf (.ref i2) >>= _) _ _ _)))
   refine aa (next1 (((g2.but q1.extBut D.i2z).but q2.extBut D.i12.symm).but q3.extBut D.TOi2.symm) (((o2.but q1.extBut D.l2z).but q2.extBut D.l2i1).but q3.extBut D.l2TO) hy fun p4 r4 q4=>ag ?_)
   have eO4:IsPair p4 TO x b:=q4.extBut _ _ D.TOi2 eO3
   refine aa (cI eO4 rfl (aa (gF eO4 fun p5 eO5 q5=>aa (fb (ag (ag ?_))))))
   have eO5:IsPair p5 TO x y:=eO5
   refine aa (cI eO5 rfl (aa (ji ?_)))
   have sz:p5.objs.size=s.heap.objs.size:=by rw[q5.1,q4.1,q3.1,q2.1,q1.1]
   have ez5:IsZip p5 z TI TO .ellipsis:=q5.extBut _ _ D.TOz.symm (q4.extBut _ _ D.i2z.symm (q3.extBut _ _ D.TOz.symm (q2.extBut _ _ D.i1z.symm f1)))
   have kp5:∀ c o,c≠z->c≠TO->c≠i1->c≠i2->s.heap.get? c=some o->p5.get? c=some o:=fun c o n1 n2 n3 n4 e=>q5.extBut _ _ n2 (q4.extBut _ _ n4 (q3.extBut _ _ n2 (q2.extBut _ _ n3 (q1.extBut _ _ n1 e))))
   have r15:ItAt t1 p5 i1 l1 (k1+1):=((r2.but q3.extBut D.TOi1.symm).but q4.extBut D.i12).but q5.extBut D.TOi1.symm
   have r25:ItAt t2 p5 i2 l2 (k2+1):=r4.but q5.extBut D.TOi2.symm
   have zlt:z<p5.objs.size:=ay ez5
   show wpAny (model prog w) A (Builtin.SmallTypes.ownedTupleHandOut (.ref z) (.ref p5.objs.size) >>= _) _ _ _
   refine aa ?_
   unfold Builtin.SmallTypes.ownedTupleHandOut
   have f6:IsZip (p5.push { cls:= .type "tuple",data:= .seq #[x,y]}) z TI TO .ellipsis:=ae _ ez5
   refine aa (bE f6 (by simp) fun p7 f7 q7=>?_)
   have f7:IsZip p7 z TI TO (rawInt p5.objs.size):=f7
   refine bE f7 (by simp) fun p8 f8 q8=>?_
   have f8:IsZip p8 z TI TO (rawInt p5.objs.size):=f8
   have up:∀ c o,c≠z->p5.get? c=some o->p8.get? c=some o:=fun c o n1 e=>q8.extBut _ _ n1 (q7.extBut _ _ n1 (ae _ e))
   have eT:IsPair p8 p5.objs.size x y:=q8.extBut _ _ (cN zlt) (q7.extBut _ _ (cN zlt) (aA _ rfl))
   have sz8:p8.objs.size=p5.objs.size+1:=by rw[q8.1,q7.1,bS]
   rw[sz] at f8 eT sz8
   refine ag ⟨_,rfl,(?_:Q (.ref p5.objs.size) _)⟩
   rw[sz]
   exact k p8 f8 (up _ _ D.TOz eO5) (r15.at fun o e=>up _ o D.i1z e) (r25.at fun o e=>up _ o D.i2z e) eT sz8 fun c o n1 n2 n3 n4 e=>up c o n1 (kp5 c o n1 n2 n3 n4 e)))
theorem jMB {t1 t2:Bool}{z TI TO i1 i2 l1 l2:Addr}{k1 k2:Nat}{xs ys:Array Value}{a b:Value}{Q:Fin->Shared->Prop}(hh:A.handled=none)(D:ZipApart z TI TO i1 i2 l1 l2)
  (ez:IsZip s.heap z TI TO .none) (eI:IsPair s.heap TI (.ref i1) (.ref i2)) (eO:IsPair s.heap TO a b) (g1:ItAt t1 s.heap i1 l1 k1) (g2:ItAt t2 s.heap i2 l2 k2) (o1:ObAt t1 s.heap l1 xs) (o2:ObAt t2 s.heap l2 ys) (hend:xs[k1]?=none\/ys[k2]?=none)
  (k:∀ h' e,(∀ c o,c≠z->c≠TO->c≠i1->c≠i2->s.heap.get? c=some o->h'.get? c=some o)->(∃ o,h'.get? e=some o/\o.cls= .type "StopIteration")->E (.ref e) { s with heap:=h'}):
  wpAny (model prog w) A (Builtin.«zip.__next__» ⟨[.ref z],[]⟩) Q E s:=by
 show wpAny (model prog w) A (field (.ref z) 2 >>= _) _ _ _
 refine aa (bL ez rfl (x:= .bool false) rfl (?_:wpAny (model prog w) A (field (.ref z) 3 >>= _) _ _ _))
 refine aa (bL ez rfl (x:= .ref TI) rfl (aa (cI eI rfl (?_:wpAny (model prog w) A (Builtin.SmallTypes.ownedTupleIsFree (.ref z) >>= _) _ _ _))))
 refine aa (by
  unfold Builtin.SmallTypes.ownedTupleIsFree
  refine aa (bL ez rfl (x:= .none) rfl (ag ?_))
  simp only [iq]
  refine aa (ck (aa (bL ez rfl (x:= .ref TO) rfl (aa (bE ez (by simp) fun p1 f1 q1=>?_)))))
  have f1:IsZip p1 z TI TO .ellipsis:=f1
  refine aa (by
   simp only [iN,List.zipIdx_nil,i7,List.forIn_nil]
   refine aa (aa (iB (?_:wpAny (model prog w) A (Builtin.SmallTypes.nextOf (.ref i1) >>= _) _ _ _)))
   cases hx:xs[k1]? with
   | none=>
    refine aa (next0 hh (g1.but q1.extBut D.i1z) (o1.but q1.extBut D.l1z) hx fun p2 e q2 ⟨u,eu,cu⟩=>?_)
    have f2:IsZip p2 z TI TO .ellipsis:=q2 _ _ D.i1z.symm f1
    have nz:e≠z:=fun v=>by subst v; rw[f2] at eu; cases eu; simp at cu
    exact bE f2 (by simp) fun p3 _ q3=>k p3 e (fun c o n1 _ n3 _ v=>q3.extBut _ _ n1 (q2 _ _ n3 (q1.extBut _ _ n1 v))) ⟨u,q3.extBut _ _ nz eu,cu⟩
   | some x=>
    have hy:ys[k2]?=none:=by
     rcases hend with v | v
     ·rw[hx] at v; cases v
     ·exact v
    refine aa (next1 (g1.but q1.extBut D.i1z) (o1.but q1.extBut D.l1z) hx fun p2 r2 q2=>ag ?_)
    have eO2:IsPair p2 TO a b:=q2.extBut _ _ D.TOi1 (q1.extBut _ _ D.TOz eO)
    refine aa (cI eO2 rfl (aa (gF eO2 fun p3 eO3 q3=>aa (fb (ag ?_)))))
    refine aa (aa (iB (?_:wpAny (model prog w) A (Builtin.SmallTypes.nextOf (.ref i2) >>= _) _ _ _)))
    refine aa (next0 hh (((g2.but q1.extBut D.i2z).but q2.extBut D.i12.symm).but q3.extBut D.TOi2.symm) (((o2.but q1.extBut D.l2z).but q2.extBut D.l2i1).but q3.extBut D.l2TO) hy fun p4 e q4 ⟨u,eu,cu⟩=>?_)
    have f4:IsZip p4 z TI TO .ellipsis:=q4 _ _ D.i2z.symm (q3.extBut _ _ D.TOz.symm (q2.extBut _ _ D.i1z.symm f1))
    have nz:e≠z:=fun v=>by subst v; rw[f4] at eu; cases eu; simp at cu
    exact bE f4 (by simp) fun p5 _ q5=>k p5 e (fun c o n1 n2 n3 n4 v=>q5.extBut _ _ n1 (q4 _ _ n4 (q3.extBut _ _ n2 (q2.extBut _ _ n3 (q1.extBut _ _ n1 v))))) ⟨u,q5.extBut _ _ nz eu,cu⟩))
theorem jGE {t1 t2:Bool}{z TI TO i1 i2 l1 l2:Addr}{k1 k2:Nat}{xs ys:Array Value}{x y a b:Value}{Q:Option Value->Shared->Prop}(D:ZipApart z TI TO i1 i2 l1 l2)
  (ez:IsZip s.heap z TI TO .none) (eI:IsPair s.heap TI (.ref i1) (.ref i2)) (eO:IsPair s.heap TO a b) (g1:ItAt t1 s.heap i1 l1 k1) (g2:ItAt t2 s.heap i2 l2 k2) (o1:ObAt t1 s.heap l1 xs) (o2:ObAt t2 s.heap l2 ys) (hx:xs[k1]?=some x) (hy:ys[k2]?=some y)
  (k:∀ h',IsZip h' z TI TO (rawInt s.heap.objs.size)->IsPair h' TO x y->ItAt t1 h' i1 l1 (k1+1)->ItAt t2 h' i2 l2 (k2+1)->IsPair h' s.heap.objs.size x y->h'.objs.size=s.heap.objs.size+1->
   (∀ c o,c≠z->c≠TO->c≠i1->c≠i2->s.heap.get? c=some o->h'.get? c=some o)->Q (some (.ref s.heap.objs.size)) { s with heap:=h'}):
  wpAny (model prog w) A (pyNext (.ref z)) Q E s:=by
 have ty:s.TypeIs (.ref z) "zip" :=⟨_,ez,rfl⟩
 unfold pyNext
 exact aa (df (bY (name:=Str.ofString "__next__") ty F.slot_zip_next (bQ F.slot_zip_next ty F.entry_zip_next (jJ0 D ez eI eO g1 g2 o1 o2 hx hy fun h' b1 b2 b3 b4 b5 b6 b7=>ag (k h' b1 b2 b3 b4 b5 b6 b7)) (F.args_zip_next_1 _))))
theorem jGF {t1 t2:Bool}{z TI TO i1 i2 l1 l2:Addr}{k1 k2:Nat}{xs ys:Array Value}{a b:Value}{Q:Option Value->Shared->Prop}(hh:A.handled=none)(D:ZipApart z TI TO i1 i2 l1 l2)
  (ez:IsZip s.heap z TI TO .none) (eI:IsPair s.heap TI (.ref i1) (.ref i2)) (eO:IsPair s.heap TO a b) (g1:ItAt t1 s.heap i1 l1 k1) (g2:ItAt t2 s.heap i2 l2 k2) (o1:ObAt t1 s.heap l1 xs) (o2:ObAt t2 s.heap l2 ys) (hend:xs[k1]?=none\/ys[k2]?=none)
  (k:∀ h',(∀ c o,c≠z->c≠TO->c≠i1->c≠i2->s.heap.get? c=some o->h'.get? c=some o)->Q none { s with heap:=h'}):wpAny (model prog w) A (pyNext (.ref z)) Q E s:=by
 have ty:s.TypeIs (.ref z) "zip" :=⟨_,ez,rfl⟩
 unfold pyNext
 refine aa (df (bY (name:=Str.ofString "__next__") ty F.slot_zip_next (bQ F.slot_zip_next ty F.entry_zip_next (jMB hh D ez eI eO g1 g2 o1 o2 hend fun h' e kp ⟨u,eu,cu⟩=>?_) (F.args_zip_next_1 _))))
 exact aa (gy (T:= "StopIteration") (b:=true) ⟨u,eu,cu⟩ jk (ag (k _ kp)))
end
def yA (tp:Bool)(a:Addr):Obj:=match tp with
 | false=> { cls:= .type "list_iterator",data:= .fields #[.ref a, .int 0 0]}
 | true=> { cls:= .type "tuple_iterator",data:= .fields #[.ref a, .int 0 0]}
theorem jC1 (tp:Bool)(a:Addr):(yA tp a).isFreed=false:=by cases tp <;> rfl
theorem ObAt.push {tp:Bool}{h:Heap}{a:Addr}{xs:Array Value}(x:ObAt tp h a xs)(o:Obj):ObAt tp (h.push o) a xs:=by
 cases tp with
 | false=>exact Heap.IsList.push x o
 | true=>exact Heap.IsTuple.push x o
theorem jBW {prog:Program}{w:World}{A:Around}{E:Value->Shared->Prop}{s:Shared}{tp:Bool}{a:Addr}{xs:Array Value}{Q:Value->Shared->Prop}(h:ObAt tp s.heap a xs)(q:Q (.ref s.heap.objs.size) { s with heap:=s.heap.push (yA tp a)}):
  wpAny (model prog w) A (pyIter (.ref a)) Q E s:=by
 cases tp with
 | false=>exact dL h q
 | true=>exact wpAny_pyIter_tuple h q
def zp1 (t1:Bool)(h:Heap)(l1:Addr):Heap:=h.push (yA t1 l1)
def zp2 (t1 t2:Bool)(h:Heap)(l1 l2:Addr):Heap:=(zp1 t1 h l1).push (yA t2 l2)
def zp3 (t1 t2:Bool)(h:Heap)(l1 l2:Addr):Heap:=(zp2 t1 t2 h l1 l2).push { cls:= .type "tuple",data:= .seq #[.ref h.objs.size, .ref (zp1 t1 h l1).objs.size]}
def zp4 (t1 t2:Bool)(h:Heap)(l1 l2:Addr):Heap:=(zp3 t1 t2 h l1 l2).push { cls:= .type "tuple",data:= .seq #[.none, .none]}
def zp5 (t1 t2:Bool)(h:Heap)(l1 l2:Addr):Heap:=(zp4 t1 t2 h l1 l2).push { cls:= .type "zip",data:= .fields #[.none, .bool false, .bool false, .ref (zp2 t1 t2 h l1 l2).objs.size, .ref (zp3 t1 t2 h l1 l2).objs.size]}
theorem jIL (t1 t2:Bool)(l1 l2:Addr)(xs ys:Array Value):
  Meets (Builtin.«zip.__new__» ⟨[.type "zip", .ref l1, .ref l2],[]⟩) (fun _ R s=>ObAt t1 s.heap l1 xs/\ObAt t2 s.heap l2 ys/\R (.ok (.ret (.ref (zp4 t1 t2 s.heap l1 l2).objs.size))) { s with heap:=zp5 t1 t2 s.heap l1 l2}):=
 .of_wp fun prog w A R s h=>by
  obtain⟨hp,g,d,tk,os⟩:=s
  obtain⟨a1,a2,q⟩:=h
  have sub:=sub_zip
  have e1:ObAt t1 (Shared.heap ⟨hp,g,d,tk,os⟩) l1 xs:=a1
  have e2:ObAt t2 (Shared.heap ⟨hp.push (yA t1 l1),g,d,tk,os⟩) l2 ys:=ObAt.push a2 _
  wp_walk using jBW e1,jBW e2
  exact⟨_,rfl,q⟩
theorem ItAt.new (tp:Bool){h:Heap}{it a:Addr}(e:h.get? it=some (yA tp a)):ItAt tp h it a 0:=by
 cases tp with
 | false=>exact⟨_,e,rfl,rfl⟩
 | true=>exact⟨_,e,rfl,rfl⟩
theorem jLZ {prog:Program}{w:World}{A:Around}{E:Value->Shared->Prop}{s:Shared}{t1 t2:Bool}{l1 l2:Addr}{xs ys:Array Value}{Q:Value->Shared->Prop}(a1:ObAt t1 s.heap l1 xs)(a2:ObAt t2 s.heap l2 ys)
  (k:∀ h',IsZip h' (s.heap.objs.size+4) (s.heap.objs.size+2) (s.heap.objs.size+3) .none->IsPair h' (s.heap.objs.size+2) (.ref s.heap.objs.size) (.ref (s.heap.objs.size+1))->
   IsPair h' (s.heap.objs.size+3) .none .none->ItAt t1 h' s.heap.objs.size l1 0->ItAt t2 h' (s.heap.objs.size+1) l2 0->(∀ c o,s.heap.get? c=some o->h'.get? c=some o)->Q (.ref (s.heap.objs.size+4)) { s with heap:=h'}):
  wpAny (model prog w) A (call (.type "zip") [.ref l1, .ref l2]) Q E s:=by
 refine callType_new F.called_zip (by decide) (F.typeCall_zip_2 _ _) (F.newCall_zip_2 _ _) (fun obj=>F.args_object_init_3 obj _ _) F.entry_zip_new (jIL t1 t2 l1 l2 xs ys) ⟨a1,a2,?_⟩
 have z1:(zp1 t1 s.heap l1).objs.size=s.heap.objs.size+1:=bS ..
 have z2:(zp2 t1 t2 s.heap l1 l2).objs.size=s.heap.objs.size+2:=(bS ..).trans (bR (· +1) z1)
 have z3:(zp3 t1 t2 s.heap l1 l2).objs.size=s.heap.objs.size+3:=(bS ..).trans (bR (· +1) z2)
 have z4:(zp4 t1 t2 s.heap l1 l2).objs.size=s.heap.objs.size+4:=(bS ..).trans (bR (· +1) z3)
 have y5:(zp5 t1 t2 s.heap l1 l2).get? (zp4 t1 t2 s.heap l1 l2).objs.size=some { cls:= .type "zip",data:= .fields #[.none, .bool false, .bool false, .ref (zp2 t1 t2 s.heap l1 l2).objs.size, .ref (zp3 t1 t2 s.heap l1 l2).objs.size]} :=aA _ rfl
 have y4:(zp5 t1 t2 s.heap l1 l2).get? (zp3 t1 t2 s.heap l1 l2).objs.size=some { cls:= .type "tuple",data:= .seq #[.none, .none]} :=ae _ (aA _ rfl)
 have y3:(zp5 t1 t2 s.heap l1 l2).get? (zp2 t1 t2 s.heap l1 l2).objs.size=some { cls:= .type "tuple",data:= .seq #[.ref s.heap.objs.size, .ref (zp1 t1 s.heap l1).objs.size]} :=ae _ (ae _ (aA _ rfl))
 have y2:(zp5 t1 t2 s.heap l1 l2).get? (zp1 t1 s.heap l1).objs.size=some (yA t2 l2):=ae _ (ae _ (ae _ (aA _ (jC1 _ _))))
 have y1:(zp5 t1 t2 s.heap l1 l2).get? s.heap.objs.size=some (yA t1 l1):=ae _ (ae _ (ae _ (ae _ (aA _ (jC1 _ _)))))
 have up:∀ c o,s.heap.get? c=some o->(zp5 t1 t2 s.heap l1 l2).get? c=some o:=fun c o e=>ae _ (ae _ (ae _ (ae _ (ae _ e))))
 rw[z2,z3,z4] at y5
 rw[z1,z2] at y3
 rw[z3] at y4
 rw[z1] at y2
 show _/\_
 rw[z4]
 exact⟨⟨_,y5,rfl⟩,k _ y5 y3 y4 (.new t1 y1) (.new t2 y2) up⟩
section
variable {X:Cx}
def Sq (tp:Bool)(K:W.Frag)(H:Hp)(a:Addr)(xs:List V):Prop:=match tp with
 | false=>SqL K H a xs
 | true=>SqT K H a xs
theorem Inv.sq {X:Cx}{pins:List (Addr×Obj)}{σ:St}{H:Hp}{s:Shared}{tp:Bool}{a:Addr}{xs:List V}(I:Inv X pins σ H s)(h:Sq tp X.K H a xs):∃ its:List Value,Vals xs its/\ObAt tp s.heap a its.toArray/\xs.length<=sizeLine:=by
 cases tp with
 | false=>
  obtain⟨its,r,p,z⟩:=I.list h
  exact⟨its,r,p.isList,z⟩
 | true=>exact I.tuple h
theorem Inv.sq_inj {X:Cx}{pins:List (Addr×Obj)}{σ:St}{H:Hp}{s:Shared}{tp:Bool}{a:Addr}{xs ys:List V}(I:Inv X pins σ H s)(h:Sq tp X.K H a xs)(h':Sq tp X.K H a ys):xs=ys:=by
 cases tp with
 | false=>exact I.list_inj h h'
 | true=>exact I.tuple_inj h h'
def Itz (t1 t2:Bool)(K:W.Frag)(l1 l2:Addr):It:=
 ⟨fun i H=>∃ xs ys x y,Sq t1 K H l1 xs/\Sq t2 K H l2 ys/\xs[i]?=some x/\ys[i]?=some y,
  fun i H v H'=>∃ T x y,H T=none/\v= .ref T/\H'=upd H T (.tup [x,y])/\∀ xs ys,Sq t1 K H l1 xs->Sq t2 K H l2 ys->xs[i]?=some x/\ys[i]?=some y,
  fun i H=>∃ xs ys,Sq t1 K H l1 xs/\Sq t2 K H l2 ys/\(xs.length<=i\/ys.length<=i)⟩
theorem jMF {P:Program}{w:World}{K:W.Frag}{elts:List Expr}{x1:Nat}{tp:Pos}(t1 t2:Bool)(l1 l2 z TI TO i1 i2:Addr)(D:ZipApart z TI TO i1 i2 l1 l2):
  Turn P w K (.Tuple elts x1 tp) (Itz t1 t2 K l1 l2) [z,TO,i1,i2,TI] z (fun i h=>IsZip h z TI TO .none/\IsPair h TI (.ref i1) (.ref i2)/\(∃ a b,IsPair h TO a b)/\ItAt t1 h i1 l1 i/\ItAt t2 h i2 l2 i) where
 mem:=by simp
 obj:=fun i h st b hb=>by
  obtain⟨hz,hTI,⟨a,c,hTO⟩,y1,y2⟩:=st
  simp only [az,aW,cz] at hb
  rcases hb with rfl | rfl | rfl | rfl | rfl
  ·exact⟨_,hz,fun v q=>by cases q⟩
  ·exact⟨_,hTO,fun v q=>by cases q⟩
  ·exact y1.obj
  ·exact y2.obj
  ·exact⟨_,hTI,fun v q=>by cases q⟩
 keep:=fun i h h' st k=>by
  obtain⟨hz,hTI,⟨a,c,hTO⟩,h1,h2⟩:=st
  exact⟨k z (by simp) _ hz,k TI (by simp) _ hTI,⟨a,c,k TO (by simp) _ hTO⟩,h1.at fun o e=>k i1 (by simp) o e,h2.at fun o e=>k i2 (by simp) o e⟩
 item:=by
  intro X hP hw hK hc i pins s σ H E I hf st hg
  subst hP hw hK
  obtain⟨xs,ys,x,y,hq1,hq2,hx,hy⟩:=hg
  obtain⟨hz,hTI,⟨a,c,hTO⟩,h1,h2⟩:=st
  obtain⟨its1,r1,p1,_⟩:=I.sq hq1
  obtain⟨its2,r2,p2,_⟩:=I.sq hq2
  obtain⟨u,hu,ru⟩:=r1.get hx
  obtain⟨v,hv,rv⟩:=r2.get hy
  refine jGE D hz hTI hTO h1 h2 p1 p2 (x:=u) (y:=v) (by simpa using hu) (by simpa using hv) fun h' a1 a2 a3 a4 a5 a6 a7=>?_
  refine⟨_,rfl,wpAny_letOwnedTupleGo_zip (s:= { s with heap:=h'}) a1 fun h'' b1 sb=>?_⟩
  have fresh:H s.heap.objs.size=none:=I.fresh
  have nch:∀ b∈([z,TO,i1,i2]:List Addr),FpOk X pins H b:=fun b hb=>hf b (by
   simp only [az,aW,cz] at hb ⊢
   rcases hb with q | q | q | q
   ·exact .inl q
   ·exact .inr (.inl q)
   ·exact .inr (.inr (.inl q))
   ·exact .inr (.inr (.inr (.inl q))))
  have ntr:∀ b o,H b=some o->b∉([z,TO,i1,i2]:List Addr):=fun b o e hb=>by
   have:=(nch b hb).1
   rw[e] at this; cases this
  have kp:∀ b o,b∉([z,TO,i1,i2]:List Addr)->s.heap.get? b=some o->h''.get? b=some o:=fun b o hb e=>by
   simp only [az,aW,cz,ko] at hb
   exact(sb.2 b hb.1).trans (a7 b o hb.1 hb.2.1 hb.2.2.1 hb.2.2.2 e)
  have nz:s.heap.objs.size≠z:=cN (ay hz)
  have hT2:h''.get? s.heap.objs.size=some { cls:= .type "tuple",data:= .seq #[u,v]} :=(sb.2 _ nz).trans a5
  have I2:Inv X pins σ (upd H s.heap.objs.size (.tup [x,y])) { s with heap:=h''} :=by
   refine I.step (g':=s.gens) (d':=s.drawn) (t':=s.toks) (ch:=[z,TO,i1,i2]) (fun b hb=>?_) (fun b o _ _ hb e _=>kp b o hb e) (fun b o _ _ hb e _=>⟨o.slots,kp b o hb e⟩)
    (fun b o _ e n=>by rw[j8 (aV (ay e))]; exact n) (fun b o hb e=>⟨o,kp b o hb e⟩) (fun b ws e=>by rw[j8 (jC e fresh)]; exact e) (fun b o ws e=>by rw[j8 (jC e fresh)]; exact e)
    (fun b ps e=>⟨#[],by rw[j8 (jC e fresh),e]; simp⟩) (fun m hm=>?_) (fun b o e=>?_) I.bare
   ·obtain⟨f0,f1,f2,f3,f4,f5⟩:=nch b hb
    exact⟨f3,f1,f4,f5⟩
   ·obtain⟨o,es,ep,ho,r⟩:=hm
    exact⟨o,es,ep,kp _ o (fun hb=>(nch _ hb).2.1 rfl) ho,r⟩
   ·by_cases hb:b=s.heap.objs.size
    ·subst hb
     rw[j9] at e
     cases e
     exact⟨by rw[fN]; show 2<=_; decide,[u,v], .cons ru (.cons rv .nil),0,hT2⟩
    ·rw[j8 hb] at e
     refine(I.hok b o e).stay (fun c w hc q=>kp c w ?_ q) (fun c q=>by rw[j8 (jC q fresh)]; exact q) (fun c ws q=>by rw[j8 (jC q fresh)]; exact q)
     rcases hc with rfl | hc
     ·exact ntr _ _ e
     ·exact ntr _ _ hc
  refine⟨.ref s.heap.objs.size,_,I2,rfl,⟨_,x,y,fresh,rfl,rfl,fun xs' ys' q1 q2=>⟨by rw[I.sq_inj q1 hq1]; exact hx,by rw[I.sq_inj q2 hq2]; exact hy⟩⟩,⟨b1,?_,⟨u,v,?_⟩,?_,?_⟩,fun b hb=>?_⟩
  ·exact kp TI _ (by simp [D.TIz,D.TITO,D.TIi1,D.TIi2]) hTI
  ·exact(sb.2 TO D.TOz).trans a2
  ·exact a3.at fun o e=>(sb.2 i1 D.i1z).trans e
  ·exact a4.at fun o e=>(sb.2 i2 D.i2z).trans e
  ·rw[j8 (fun q=>by
    obtain⟨o,eo⟩:∃ o,s.heap.get? b=some o:=by
     simp only [az,aW,cz] at hb
     rcases hb with rfl | rfl | rfl | rfl | rfl
     ·exact⟨_,hz⟩
     ·exact⟨_,hTO⟩
     ·obtain⟨o,e,_⟩:=h1.obj; exact⟨o,e⟩
     ·obtain⟨o,e,_⟩:=h2.obj; exact⟨o,e⟩
     ·exact⟨_,hTI⟩
    exact absurd (ay eo) (by rw[q]; exact cG _))]
   exact(hf b hb).1
 done:=by
  intro X hP hw hK hc i pins s σ H E I hf st hg
  subst hP hw hK
  obtain⟨xs,ys,hq1,hq2,hend⟩:=hg
  obtain⟨hz,hTI,⟨a,c,hTO⟩,h1,h2⟩:=st
  obtain⟨its1,r1,p1,_⟩:=I.sq hq1
  obtain⟨its2,r2,p2,_⟩:=I.sq hq2
  have e1:=r1.length
  have e2:=r2.length
  refine jGF (I.ok.hd hc) D hz hTI hTO h1 h2 p1 p2 (by
   rcases hend with q | q
   ·exact .inl (by simp; omega)
   ·exact .inr (by simp; omega)) fun h' kp=>⟨rfl,?_⟩
  have nch:∀ b∈([z,TO,i1,i2]:List Addr),FpOk X pins H b:=fun b hb=>hf b (by
   simp only [az,aW,cz] at hb ⊢
   rcases hb with q | q | q | q
   ·exact .inl q
   ·exact .inr (.inl q)
   ·exact .inr (.inr (.inl q))
   ·exact .inr (.inr (.inr (.inl q))))
  have kp2:∀ b o,b∉([z,TO,i1,i2]:List Addr)->s.heap.get? b=some o->h'.get? b=some o:=fun b o hb e=>by
   simp only [az,aW,cz,ko] at hb
   exact kp b o hb.1 hb.2.1 hb.2.2.1 hb.2.2.2 e
  have ntr:∀ b o,H b=some o->b∉([z,TO,i1,i2]:List Addr):=fun b o e hb=>by
   have:=(nch b hb).1
   rw[e] at this; cases this
  refine I.step (g':=s.gens) (d':=s.drawn) (t':=s.toks) (ch:=[z,TO,i1,i2]) (fun b hb=>?_) (fun b o _ _ hb e _=>kp2 b o hb e) (fun b o _ _ hb e _=>⟨o.slots,kp2 b o hb e⟩)
   (fun b o _ e n=>n) (fun b o hb e=>⟨o,kp2 b o hb e⟩) (fun b ws e=>e) (fun b o ws e=>e) (fun b ps e=>⟨#[],by rw[e]; simp⟩) (fun m hm=>?_) (fun b o e=>?_) I.bare
  ·obtain⟨f0,f1,f2,f3,f4,f5⟩:=nch b hb
   exact⟨f3,f1,f4,f5⟩
  ·obtain⟨o,es,ep,ho,r⟩:=hm
   exact⟨o,es,ep,kp2 _ o (fun hb=>(nch _ hb).2.1 rfl) ho,r⟩
  ·refine(I.hok b o e).stay (fun c w hc q=>kp2 c w ?_ q) (fun _ q=>q) fun _ _ q=>q
   rcases hc with rfl | hc
   ·exact ntr _ _ e
   ·exact ntr _ _ hc
 self:=fun _ _ _ _ _ st h=>wpAny_pyIter_zip st.1 h
def iZip (K:W.Frag)(ta:TA):TI:=fun σ H R=>ta σ H fun vs H1=>∃ t1 t2 l1 l2,vs=[.ref l1, .ref l2]/\(∃ xs,Sq t1 K H1 l1 xs)/\(∃ ys,Sq t2 K H1 l2 ys)/\R (Itz t1 t2 K l1 l2) H1
theorem jS0 {a b:Expr}{ta:TA}{p pos:Pos}{elts:List Expr}{x1:Nat}{tp:Pos}(hg:Gl X "zip")(hm:X.mg "zip" =none)(ha:PA X [a,b] ta)(hv:bootBuiltins "zip" =some (.type "zip"):=by decide+kernel)
  (he:starEach [a,b] X.env=(false,eval a X.env)::starEach [b] X.env:=by rfl) (hpl:(backTo pos (starEach [b] X.env)).any (·.1)=false:=by rfl):
  PI X (.Tuple elts x1 tp) (.Call (.Name "zip" p) [a,b] [] pos) (iZip X.K ta):=by
 intro pins s σ H R I h
 refine Call_ (jD4 I hg hm hv (dr (thn (ha pos pins s σ H _ I h) fun us s1 ⟨vs,H1,I1,r1,q1⟩=>?_) he hpl))
 obtain⟨t1,t2,l1,l2,rfl,⟨xs,hq1⟩,⟨ys,hq2⟩,q⟩:=q1
 obtain⟨u,v,rfl,ru,rv⟩:=r1.two
 cases ru
 cases rv
 obtain⟨its1,_,p1,_⟩:=I1.sq hq1
 obtain⟨its2,_,p2,_⟩:=I1.sq hq2
 have lt1:l1<s1.heap.objs.size:=p1.lt
 have lt2:l2<s1.heap.objs.size:=p2.lt
 refine jLZ p1 p2 fun h' a1 a2 a3 a4 a5 kp=>?_
 have I2:Inv X pins σ H1 { s1 with heap:=h'} :=I1.kept (t':=s1.toks) kp
 have D:ZipApart (s1.heap.objs.size+4) (s1.heap.objs.size+2) (s1.heap.objs.size+3) s1.heap.objs.size (s1.heap.objs.size+1) l1 l2:=zipApart_new lt1 lt2
 refine wpAny_pyIter_zip a1 ⟨s1.heap.objs.size+4,[s1.heap.objs.size+4,s1.heap.objs.size+3,s1.heap.objs.size,s1.heap.objs.size+1,s1.heap.objs.size+2],_,Itz t1 t2 X.K l1 l2,H1,rfl,I2,jMF t1 t2 l1 l2 _ _ _ _ _ D,⟨a1,a2,⟨_,_,a3⟩,a4,a5⟩,fun b hb=>?_,q⟩
 have hge:s1.heap.objs.size<=b:=by
  simp only [az,aW,cz] at hb
  rcases hb with rfl | rfl | rfl | rfl | rfl
  ·exact dZ _ 4
  ·exact dZ _ 3
  ·exact aE _
  ·exact dZ _ 1
  ·exact dZ _ 2
 exact I1.fpOk hge (I1.hok.fresh hge)
end
structure JE (X:Cx)(e:Expr)(t:TE):Prop where
 h:PE X e t
structure JA (X:Cx)(es:List Expr)(t:TA):Prop where
 h:PA X es t
structure JT (X:Cx)(e:Expr)(t:TT):Prop where
 h:PT X e t
structure JTs (X:Cx)(e:List Expr)(t:TT):Prop where
 h:PTs X e t
structure JS (X:Cx)(e:Stmt)(t:TS):Prop where
 h:PS X e t
structure JSs (X:Cx)(e:List Stmt)(t:TS):Prop where
 h:PSs X e t
structure JG (X:Cx)(e:Expr)(t:TG):Prop where
 h:PG X e t
structure JGs (X:Cx)(e:List Expr)(t:TGs):Prop where
 h:PGs X e t
structure JI (X:Cx)(tg e:Expr)(t:TI):Prop where
 h:PI X tg e t
structure Loc1 (X:Cx)(x:Str):Prop where
 a:Loc X.env.scope x
 b:X.fn x=true\/X.env.scope.names.lookup x=some .local
structure Vis1 (X:Cx)(x:Str):Prop where
 a:Vis X.env.scope x
structure Gl1 (X:Cx)(x:Str):Prop where
 a:Gl X x
section
variable {a b:Expr}{pos:Pos}{xs:List Expr}{o:Option Expr}{l:Nat}{env:Env}
structure SwOk (e:Expr)(o:Option Expr):Prop where
 h:∀ l env,swapsWith e o l env=pure false
theorem jF1 {op:Operator} :SwOk (.BinOp a op b pos) o:=⟨fun _ _=>rfl⟩
theorem kU {kw:List Keyword} :SwOk (.Call a xs kw pos) o:=⟨fun _ _=>rfl⟩
theorem jRJ:SwOk (.Subscript a b pos) o:=⟨fun _ _=>rfl⟩
theorem jRI {x1} :SwOk (.Tuple xs x1 pos) o:=⟨fun _ _=>rfl⟩
theorem jJG:SwOk (.List xs pos) o:=⟨fun _ _=>rfl⟩
theorem jCG {c k} :SwOk (.Constant c k pos) o:=⟨fun _ _=>rfl⟩
theorem jRR {op:Operator} :jAU (.BinOp a op b pos):=fun _ _=>rfl
theorem jPA {kw:List Keyword} :jAU (.Call a xs kw pos):=fun _ _=>rfl
theorem kD {i:Int}{k} :jAU (.Constant (.int i) k pos):=fun _ _=>rfl
theorem jJS {x:Str} :jAU (.Name x pos):=fun _ _=>rfl
theorem jRQ:jAU (.Subscript a b pos):=fun _ _=>rfl
structure FoOk (iter:Expr):Prop where
 h:∀ env x,foldedSetIterable iter env x=pure x
theorem kZ {kw:List Keyword} :FoOk (.Call a xs kw pos):=⟨fun _ _=>rfl⟩
theorem jAN {x:Str} :FoOk (.Name x pos):=⟨fun _ _=>rfl⟩
theorem jT2:FoOk (.Subscript a b pos):=⟨fun _ _=>rfl⟩
structure TvOk (e:Expr):Prop where
 h:∀ env whole,isTrue e env whole=(do let v <- whole; standAt e.pos; holding [v] (truthy v))
theorem jB8 {kw:List Keyword} :TvOk (.Call a xs kw pos):=⟨fun _ _=>rfl⟩
theorem jOZ {x:Str} :TvOk (.Name x pos):=⟨fun _ _=>rfl⟩
end
section
variable {X:Cx}{a b e o:Expr}{ta tb te to:TE}{es:List Expr}{t:TA}{pos p p2 cpos apos:Pos}{x:Str}{T:String}{id:String}
theorem jv (i:Nat)(hN:X.N[i]?=some x)(hv:Vis1 X x)(hd:(x==("__debug__" :Str))=false:=by decide)(hcd:(x==("__classdict__" :Str))=false:=by decide):JE X (.Name x pos) (tVar i):=⟨jK0 hN hv.a hd hcd⟩
theorem je_int {i j} :JE X (.Constant (.int i) j pos) (tC (.int i)):=⟨jW⟩
theorem je_bl {i j} :JE X (.Constant (.bool i) j pos) (tC (.bl i)):=⟨pe_bl⟩
theorem jL5 {j} :JE X (.Constant .none j pos) (tC .non):=⟨jS7⟩
theorem jL4 {i j} :JE X (.Constant (.str i) j pos) (tC (.str i)):=⟨jS4⟩
theorem kS {v:V}{u:Value}(hg:Gl1 X x)(hm:X.mg x=none)(hv:bootBuiltins x=some u)(r:RelV v u)(hn:x≠ "__name__" :=by decide)(hd:(x==("__debug__" :Str))=false:=by decide):JE X (.Name x pos) (tC v):=⟨jPV hg.a hm hv r hn hd⟩
theorem jX {op:Operator}{r:R2}(ho:OpR X (binaryOp op) r)(ha:JE X a ta)(hb:JE X b tb):JE X (.BinOp a op b pos) (tOp r ta tb):=⟨kY ho ha.h hb.h⟩
theorem je_un {op:UnaryOp}{r:V->Hp->VK->Prop}(ho:UnR X (unaryOp op) r)(ha:JE X a ta):JE X (.UnaryOp op a pos) (tUn r ta):=⟨pe_un ho ha.h⟩
theorem jSX (ha:JE X a ta):JE X (.UnaryOp .Not a pos) (tNotV ta):=⟨jS6 ha.h⟩
theorem jBB {op:CmpOp}{r:R2}(ho:OpR X (compareOp op) r)(ha:JE X a ta)(hb:JE X b tb)(hm:behindInMarks op b=false):JE X (.Compare a [op] [b] pos) (tOp r ta tb):=⟨jPT ho ha.h hb.h hm⟩
theorem jFO {rest:List Expr}(ha:JE X a ta)(hb:JE X (.BoolOp .And (b::rest) pos) tb):JE X (.BoolOp .And (a::b::rest) pos) (tAndV ta tb):=⟨jS9 ha.h hb.h⟩
theorem jFL {op}(ha:JE X a ta):JE X (.BoolOp op [a] pos) ta:=⟨jS5 ha.h⟩
theorem yI {r:R2}(hr:IxR X r)(ha:JE X a ta)(hb:JE X b tb)(hs:jAU b):JE X (.Subscript a b pos) (tOp r ta tb):=⟨pe_ix hr ha.h hb.h hs⟩
theorem jFM {T}{r:List V->Hp->VK->Prop}(hc:yC X (.type T) r)(hg:Gl1 X x)(hm:X.mg x=none)(hv:bootBuiltins x=some (.type T))(ha:JA X (e::es) t)(he:starEach (e::es) X.env=(false,eval e X.env)::starEach es X.env)(hn:x≠ "__name__" :=by decide)(hdb:(x==("__debug__" :Str))=false:=by decide)
  (hpl:(backTo pos (starEach es X.env)).any (·.1)=false:=by rfl):JE X (.Call (.Name x p) (e::es) [] pos) (tCB r t):=⟨jK2 hc hg.a hm hv ha.h hn hdb he hpl⟩
theorem jG {id}{r:List V->Hp->VK->Prop}(hc:yC X (.builtin id) r)(hg:Gl1 X x)(hm:X.mg x=none)(hv:bootBuiltins x=some (.builtin id))(ha:JA X (e::es) t)(he:starEach (e::es) X.env=(false,eval e X.env)::starEach es X.env)(hn:x≠ "__name__" :=by decide)(hdb:(x==("__debug__" :Str))=false:=by decide)
  (hpl:(backTo pos (starEach es X.env)).any (·.1)=false:=by rfl):JE X (.Call (.Name x p) (e::es) [] pos) (tCB r t):=⟨jHG hc hg.a hm hv ha.h hn hdb he hpl⟩
theorem jA:JA X [] tNil:=⟨jFF⟩
theorem j4 (ha:JE X e te)(hr:JA X es t)(hs:starEach (e::es) X.env=(false,eval e X.env)::starEach es X.env):JA X (e::es) (tCons te t):=⟨jCZ ha.h hr.h hs⟩
theorem jZ {op:CmpOp}{r:R2}(ho:OpR X (compareOp op) r)(ha:JE X a ta)(hb:JE X b tb)(hm:behindInMarks op b=false):JT X (.Compare a [op] [b] pos) (tTest (tOp r ta tb)):=⟨jGG ho ha.h hb.h hm⟩
theorem jC9 (h:JE X e te)(he:TvOk e):JT X e (tB te):=⟨jRU h.h (he.h _)⟩
theorem jKY {tA:TT}(ha:JT X a tA):JT X (.UnaryOp .Not a pos) (tNot tA):=⟨jRV ha.h⟩
theorem jAC:JTs X [] yH:=⟨jPE⟩
theorem jKX {t:TT}(h:JT X e t):JTs X [e] t:=⟨jPD h.h⟩
theorem kJ {i:Nat}(hN:X.N.Nodup)(hi:X.N[i]?=some x)(hx:Loc1 X x):JG X (.Name x pos) (kL i):=⟨jJZ hN hi hx.a hx.b⟩
theorem jD5 {tg:Expr}(hg:Gl1 X "range")(hm:X.mg "range" =none)(ha:JA X [a] t)(hs:starEach [a] X.env=(false,eval a X.env)::starEach [] X.env):JI X tg (.Call (.Name "range" p) [a] [] pos) (iRng1 t):=⟨jFE hg.a hm ha.h hs⟩
theorem kW {tg:Expr}(hl:JE X a ta):JI X tg a (iList X.K ta):=⟨jPN hl.h⟩
theorem jSW {tg:Expr}(hl:JE X a ta):JI X tg a (iTup X.K ta):=⟨jS1 hl.h⟩
theorem jSV {elts:List Expr}{x1:Nat}{tp:Pos}(hg:Gl1 X "zip")(hm:X.mg "zip" =none)(ha:JA X [a,b] t)(he:starEach [a,b] X.env=(false,eval a X.env)::starEach [b] X.env)(hv:bootBuiltins "zip" =some (.type "zip"):=by decide+kernel)
  (hpl:(backTo pos (starEach [b] X.env)).any (·.1)=false:=by rfl):JI X (.Tuple elts x1 tp) (.Call (.Name "zip" p) [a,b] [] pos) (iZip X.K t):=⟨jS0 hg.a hm ha.h hv he hpl⟩
theorem jT {i:Nat}{pos':Pos}(hN:X.N.Nodup)(hi:X.N[i]?=some x)(hx:Loc1 X x)(he:JE X e te)(hs:SwOk e (some (.Name x pos'))):JS X (.Assign [.Name x pos'] e pos) (tAsg te (kL i)):=⟨jDK hN hi hx.a he.h (hs.h _ _) hx.b⟩
theorem jR (he:JE X e te):JS X (.Return (some e) pos) (tRet te):=⟨jDL he.h⟩
theorem jGN (he:JE X e te)(hs:SwOk e none):JS X (.Expr e pos) (tDrop te):=⟨jPG he.h (hs.h _ _)⟩
theorem kQ:JSs X [] tNext:=⟨jGH⟩
theorem jF {st:Stmt}{t:TS}(h1:JS X st t):JSs X [st] t:=⟨jB9 h1.h⟩
theorem jD {st:Stmt}{rest:List Stmt}{t u:TS}(h1:JS X st t)(h2:JSs X rest u):JSs X (st::rest) (tSeq t u):=⟨jA8 h1.h h2.h⟩
theorem yE {c:Expr}{a b:List Stmt}{tc:TT}{t u:TS}(hc:JT X c tc)(ha:JSs X a t)(hb:JSs X b u):JS X (.If c a b pos) (tIfS tc t u):=⟨ps_if hc.h ha.h hb.h⟩
theorem jBK {tg iter:Expr}{body:List Stmt}{wi:TI}{g:TG}{tb:TS}(hp:PassesOwn (model X.prog X.w) X.A X.env X.xe)(hc:X.calm=true)(hi:JI X tg iter wi)(hg:JG X tg g)(hb:JSs X body tb)(hs:FoOk iter):JS X (.For tg iter body [] pos) (tFor wi g tb):=⟨jO5 hp hc hi.h hg.h hb.h (hs.h _)⟩
theorem je_bm {T:String}{name:Str}{r}(pa:PlainAttrs T)(slot:Slot T name id)(hty:typeOf (.builtin id)=pure (.type "method_descriptor"))(hm:MtR X id r)(ho:JE X o to)(ha:JA X (e::es) t)
  (hs:starEach (e::es) X.env=(false,eval e X.env)::starEach es X.env)
  (hbase:attributeBase o name X.env (eval o X.env)=eval o X.env:=by rfl)
  (hfew:((backTo cpos (starEach (e::es) X.env)).all (fun x=>!x.1)&&(backToKw cpos (keywordEach [] X.env)).all (fun x=>x.1.isSome)
   &&decide ((e::es).length+([]:List Keyword).length+(if ([]:List Keyword).isEmpty then 0 else 1)<30))=true:=by rfl)
  (hline:(apos.endLine==cpos.line)=true:=by rfl) (hplain:(backTo cpos (starEach es X.env)).any (·.1)=false:=by rfl):
  JE X (.Call (.Attribute o name apos) (e::es) [] cpos) (tBM X.K T r to t):=⟨pe_bm pa slot hty hm ho.h ha.h hbase hfew hline hs hplain⟩
theorem jAD {tg iter elt:Expr}{ifs:List Expr}{sc:Scope}{wi:TI}{g:TG}{tt:TT}{m:List (Option Nat)}{Nc:List Str}(hc:X.calm=true)(hi:JI X tg iter wi)(hkind:sc.kind= .function)(hcell:∀ y∈sc.names,y.2≠ .cell)(hnames:∀ y∈sc.names,y.2= .local->sc.names.lookup y.1=some .local)
  (hfree:∀ y∈sc.names,y.2= .free->X.env.scope.names.lookup y.1=some .cell\/X.env.scope.names.lookup y.1=some .free) (hm:jCE X sc Nc m)
  (hg:∀ cl C fp s H,JG (blk X sc cl C Nc fp s H) tg g) (ht:∀ cl C fp s H,JTs (blk X sc cl C Nc fp s H) ifs tt) (he:∀ cl C fp s H,JE (blk X sc cl C Nc fp s H) elt te)
  (hs:FoOk iter):JE X (.ListComp elt [⟨tg,iter,ifs,0⟩] sc pos) (tComp m wi g tt te):=⟨jPS hc hi.h hkind hcell hnames hfree hm (fun cl C fp s H=>(hg cl C fp s H).h) (fun cl C fp s H=>(ht cl C fp s H).h) (fun cl C fp s H=>(he cl C fp s H).h) (hs.h _)⟩
end
section
variable {P:Program}{w:World}{K:W.Frag}{mg:Str->Option Value}{base:Heap}{N:List Str}{qual:Str}{sc:Scope}{f:Addr}{cdv:Value}{A:Around}{outer:List Env}{s:Shared}{H:Hp}{E:XK}{x:Str}
theorem gl_d (h:sc.names.lookup x=some .globalImplicit):Gl1 (cxOf CX0 P w K mg base N qual sc f cdv A outer s H E).nox x:=⟨h⟩
theorem gD (h:sc.names.lookup x=some .globalImplicit:=by decide+kernel):Gl1 (cxOf CX0 P w K mg base N qual sc f cdv A outer s H E).nox x:=gl_d h
theorem vis_l (h:sc.names.lookup x=some .local):Vis1 (cxOf CX0 P w K mg base N qual sc f cdv A outer s H E).nox x:=⟨.inl h⟩
theorem vL (h:sc.names.lookup x=some .local:=by decide+kernel):Vis1 (cxOf CX0 P w K mg base N qual sc f cdv A outer s H E).nox x:=vis_l h
theorem vis_c (h:sc.names.lookup x=some .cell):Vis1 (cxOf CX0 P w K mg base N qual sc f cdv A outer s H E).nox x:=⟨.inr (.inl h)⟩
theorem vC (h:sc.names.lookup x=some .cell:=by decide+kernel):Vis1 (cxOf CX0 P w K mg base N qual sc f cdv A outer s H E).nox x:=vis_c h
end
theorem jAH {env:Env}{x:Str}{k:NameKind}(hk:k≠ .free):∀ {l:List (Str×NameKind)},l.lookup x=some k->
  (l.map fun (n,k)=>if (k==NameKind.free&&env.scope.kind== .function&&env.kindOf n==some .cell) then (n,NameKind.cell) else (n,k)).lookup x=some k
 | [],h=>by cases h
 | (n,k')::r,h=>by
  have ih:= @jAH env x k hk r
  rw[bz] at h
  rw[ba]
  dsimp only
  by_cases hb:(k'==NameKind.free&&env.scope.kind== .function&&env.kindOf n==some .cell)=true
  ·rw[aq hb,bz]
   cases hx:x==n with
   | true=>
    rw[hx] at h
    have e:k'=k:=br h
    simp only [ff] at hb
    exact absurd (e.symm.trans (eq_of_beq hb.1.1)) hk
   | false=>rw[hx] at h; exact ih h
  ·rw[aj hb,bz]
   cases hx:x==n with
   | true=>rw[hx] at h; exact h
   | false=>rw[hx] at h; exact ih h
section
variable {X:Cx}{sc:Scope}{cl:List (Str×Addr)}{C:Addr}{Nc:List Str}{fp:List Addr}{s:Shared}{H:Hp}{x:Str}
theorem gl_b (h:sc.names.lookup x=some .globalImplicit):Gl1 (blk X sc cl C Nc fp s H) x:=⟨jAH (by decide) h⟩
theorem kG (h:sc.names.lookup x=some .local):Vis1 (blk X sc cl C Nc fp s H) x:=⟨.inl (jAH (by decide) h)⟩
theorem jEW (h:sc.names.lookup x=some .free):Vis1 (blk X sc cl C Nc fp s H) x:=⟨.inr (jC2 h)⟩
theorem loc_b (h:sc.names.lookup x=some .local):Loc1 (blk X sc cl C Nc fp s H) x:=⟨.inl (jAH (by decide) h), .inr (jAH (by decide) h)⟩
end
section
variable {P:Program}{w:World}{K:W.Frag}{mg:Str->Option Value}{base:Heap}{N:List Str}{qual:Str}{sc:Scope}{f:Addr}{cdv:Value}{A:Around}{outer:List Env}{s:Shared}{H:Hp}{E:XK}{x:Str}
theorem loc_l (h:sc.names.lookup x=some .local):Loc1 (cxOf CX0 P w K mg base N qual sc f cdv A outer s H E).nox x:=⟨.inl h, .inl rfl⟩
theorem lL (h:sc.names.lookup x=some .local:=by decide+kernel):Loc1 (cxOf CX0 P w K mg base N qual sc f cdv A outer s H E).nox x:=loc_l h
theorem loc_c (h:sc.names.lookup x=some .cell):Loc1 (cxOf CX0 P w K mg base N qual sc f cdv A outer s H E).nox x:=⟨.inr h, .inl rfl⟩
end
structure JW (X:Cx)(e:Expr)(t:TT):Prop where
 h:PW X e t
section
variable {X:Cx}{a b:Expr}{rest:List Expr}{pos:Pos}{tA tB':TT}
theorem jQG (ha:JT X a tA):JW X (.BoolOp .And [a] pos) tA:=⟨jPB ha.h⟩
theorem jOF (ha:JT X a tA):JW X (.BoolOp .Or [a] pos) tA:=⟨jRS ha.h⟩
theorem jOG (ha:JT X a tA)(hb:JW X (.BoolOp .And (b::rest) pos) tB'):JW X (.BoolOp .And (a::b::rest) pos) (tAnd tA tB'):=⟨jRT ha.h hb.h⟩
theorem jw_or (ha:JT X a tA)(hb:JW X (.BoolOp .Or (b::rest) pos) tB'):JW X (.BoolOp .Or (a::b::rest) pos) (tOr tA tB'):=⟨pw_or ha.h hb.h⟩
theorem jt_w (h:JW X a tA):JT X a tA:=⟨h.h.pt⟩
theorem jGP:JGs X [] gNil:=⟨jPP⟩
structure AsOk (e:Expr):Prop where
 h:∀ es env,assignEach (e::es) env=(false,assign e env)::assignEach es env
theorem jC7 {x:Str} :AsOk (.Name x pos):=⟨fun _ _=>rfl⟩
theorem jB0 {e:Expr}{es:List Expr}{t:TG}{u:TGs}(h1:JG X e t)(h2:JGs X es u)(hs:AsOk e):JGs X (e::es) (yF t u):=⟨jMP h1.h h2.h (by rw[hs.h]; rfl)⟩
theorem jL3 {es:List Expr}{k:Nat}{t:TGs}{n:Nat}(hc:X.calm=true)(h:JGs X es t)(hn:(assignEach es X.env).length=n:=by rfl)(hst:(assignEach es X.env).findIdx? (·.1)=none:=by rfl):JG X (.Tuple es k pos) (gTup X.K n t):=⟨jS2 hc h.h hn hst⟩
end
theorem jAA {X:Cx}{sc:Scope}{cl:List (Str×Addr)}{C:Addr}{Nc:List Str}{fp:List Addr}{s:Shared}{H:Hp}{x y:Str}{p1 p2 pos:Pos}{k:Nat}{i j:Nat}(hc:X.calm=true)(hN:Nc.Nodup)(hi:Nc[i]?=some x)(hj:Nc[j]?=some y)(hx:sc.names.lookup x=some .local)(hy:sc.names.lookup y=some .local):
  JG (blk X sc cl C Nc fp s H) (.Tuple [.Name x p1, .Name y p2] k pos) (gTup X.K 2 (yF (kL i) (yF (kL j) gNil))):=
 jL3 (X:=blk X sc cl C Nc fp s H) hc (jB0 (kJ hN hi (loc_b hx)) (jB0 (kJ hN hj (loc_b hy)) jGP jC7) jC7)
section
variable {K:W.Frag}{m:List (Option Nat)}{g:TG}{tt:TT}{te:TE}{σ:St}{H1:Hp}{Q:VK}
theorem jNO {t1 t2:Bool}{l1 l2:Addr}{xs ys:List V}(hn:xs.length<sizeLine)(Pv:Addr->Nat->St->Hp->List V->Prop)(h0:∀ D,H1 D=none->Pv D 0 (blkσ m σ) (upd H1 D (.lst [])) [])
  (hD:∀ D i σ' H' zs,H1 D=none->Pv D i σ' H' zs->Sq t1 K H' l1 xs/\Sq t2 K H' l2 ys/\H' D=some (.lst zs)/\zs.length<=i)
  (hs:∀ D i σ' H' zs x y T,H1 D=none->xs[i]?=some x->ys[i]?=some y->H' T=none->Pv D i σ' H' zs->g (.ref T) σ' (upd H' T (.tup [x,y])) fun σ2 H2=>tt σ2 H2 fun b H3=>if b=true then te σ2 H3 fun v H4=>H4 D=some (.lst zs)/\Pv D (i+1) σ2 (upd H4 D (.lst (zs++[v]))) (zs++[v]) else Pv D (i+1) σ2 H3 zs)
  (hd:∀ D σ' H' zs,H1 D=none->Pv D (min xs.length ys.length) σ' H' zs->Q (.ref D) H'):CompW m g tt te σ Q (Itz t1 t2 K l1 l2) H1:=by
 intro D hDn
 refine⟨fun i k σ' H' zs=>k=min xs.length ys.length - i/\i<=min xs.length ys.length/\Pv D i σ' H' zs,⟨_,rfl,bG _,h0 D hDn⟩,?_⟩
 rintro i k σ' H' zs ⟨rfl,hi,p⟩
 obtain⟨s1,s2,q1,q2⟩:=hD D i σ' H' zs hDn p
 refine⟨q1,by omega,?_⟩
 by_cases hlt:i<min xs.length ys.length
 ·have a1:i<xs.length:=by omega
  have a2:i<ys.length:=by omega
  refine .inr ⟨⟨xs,ys,xs[i],ys[i],s1,s2,by simp [a1],by simp [a2]⟩,Pv D (i+1),fun σ2 H2 zs z=>⟨min xs.length ys.length - (i+1),by omega,rfl,hlt,z⟩,fun v H'' y=>?_⟩
  obtain⟨T,x,y,e1,e2,e3,e4⟩:=y
  subst e2 e3
  obtain⟨z1,z2⟩:=e4 xs ys s1 s2
  exact hs D i σ' _ zs x y T hDn z1 z2 e1 p
 ·have e:i=min xs.length ys.length:=by omega
  subst e
  exact .inl ⟨⟨xs,ys,s1,s2,by omega⟩,hd D σ' H' zs hDn p⟩
end
section
variable {X:Cx}{sc:Scope}{cl:List (Str×Addr)}{C:Addr}{Nc:List Str}{fp:List Addr}{s:Shared}{H:Hp}
theorem jPW:OpR (blk X sc cl C Nc fp s H) (compareOp .In) (rIn X.K false):=jK7
theorem jHW:IxR (blk X sc cl C Nc fp s H) (rIxT X.K):=jBL
theorem jDV:yC (blk X sc cl C Nc fp s H) (.builtin "len") (fun xs H Q=>∃ p ys,xs=[.ref p]/\(SqL X.K H p ys\/SqT X.K H p ys)/\Q (.int ys.length) H):=jA0
end
def Ext (H H':Hp):Prop:=∀ b o,H b=some o->H' b=some o
theorem Ext.refl (H:Hp):Ext H H:=fun _ _ h=>h
theorem Ext.trans {H H1 H2:Hp}(a:Ext H H1)(b:Ext H1 H2):Ext H H2:=fun c o h=>b c o (a c o h)
theorem Ext.new {H H1:Hp}{l:Addr}(a:Ext H H1)(hl:H1 l=none)(o:HO):Ext H (upd H1 l o):=fun c u h=>by
 have:=a c u h
 rw[j8 (jC this hl)]
 exact this
theorem Ext.updNew {H H1:Hp}{l:Addr}(a:Ext H H1)(hl:H l=none)(o:HO):Ext H (upd H1 l o):=fun c u h=>by
 rw[j8 (jC h hl)]
 exact a c u h
def TupR (H:Hp)(xs:List V)(Q:VK):Prop:=∀ r H',H' r=some (.tup xs)->Ext H H'->Q (.ref r) H'
theorem TupR.new {H:Hp}{xs:List V}{Q:VK}(q:TupR H xs Q){p:Addr}(hp:H p=none):Q (.ref p) (upd H p (.tup xs)):=q p _ j9 ((Ext.refl H).new hp _)
section
variable {X:Cx}
section
variable (l:Addr)(items:Array Value)(n:Nat)(x:Int)(u:Tok)(h1:¬ (decide (x< -(2 ^ 63)) || decide (x ≥ 2 ^ 63))=true)
include h1
end
theorem Inv.big' {pins:List (Addr×Obj)}{σ:St}{H:Hp}{s:Shared}(I:Inv X pins σ H s):sysModules<s.heap.objs.size:=gc (by decide) (I.mod.glob.keeps I.bk).lt
def jRD:TE:=fun _ H Q=>∀ p,H p=none->Q (.ref p) (upd H p (.dK []))
theorem jHV {pos:Pos} :JE X (.Dict [] [] pos) jRD:=⟨fun pins s σ H Q I h=>
 wpAny_Dict_empty ⟨.ref s.heap.objs.size,_,I.laid (a:=s.heap.objs.size) (o:= .dK []) (t':=s.toks) (fun _ _ q=>ae _ q) (aE _)
  ⟨bG _,cR.mpr (cF (aV I.big')),[], .nil,Heap.DictOf.new s.heap⟩,rfl,h _ (I.hok.fresh (aE _))⟩⟩
theorem kR {x:Str}{v:V}{u:Value}{pos:Pos}(hg:Gl1 X x)(hm:X.mg x=some u)(r:RelV v u)(hd:(x==("__debug__" :Str))=false:=by decide):JE X (.Name x pos) (tC v):=⟨jPQ hg.a hm r hd⟩
end
section
variable {K:W.Frag}{m:List (Option Nat)}{g:TG}{tt:TT}{te:TE}{σ:St}{H1:Hp}{Q:VK}
theorem jI5 {a:Addr}{xs:List V}(hn:xs.length<sizeLine)(Pv:Addr->Nat->St->Hp->List V->Prop)(h0:∀ D,H1 D=none->Pv D 0 (blkσ m σ) (upd H1 D (.lst [])) [])
  (hD:∀ D i σ' H' zs,H1 D=none->Pv D i σ' H' zs->H' a=some (.tup xs)/\H' D=some (.lst zs)/\zs.length<=i)
  (hs:∀ D i σ' H' zs x,H1 D=none->xs[i]?=some x->Pv D i σ' H' zs->g x σ' H' fun σ2 H2=>tt σ2 H2 fun b H3=>if b=true then te σ2 H3 fun v H4=>H4 D=some (.lst zs)/\Pv D (i+1) σ2 (upd H4 D (.lst (zs++[v]))) (zs++[v]) else Pv D (i+1) σ2 H3 zs)
  (hd:∀ D σ' H' zs,H1 D=none->Pv D xs.length σ' H' zs->Q (.ref D) H'):CompW m g tt te σ Q (Itt K a) H1:=by
 intro D hDn
 refine⟨fun i k σ' H' zs=>k=xs.length - i/\i<=xs.length/\Pv D i σ' H' zs,⟨_,rfl,bG _,h0 D hDn⟩,?_⟩
 rintro i k σ' H' zs ⟨rfl,hi,p⟩
 obtain⟨s1,q1,q2⟩:=hD D i σ' H' zs hDn p
 refine⟨q1,by omega,?_⟩
 by_cases hlt:i<xs.length
 ·refine .inr ⟨⟨xs,xs[i],SqT.of s1,by simp [hlt]⟩,Pv D (i+1),fun σ2 H2 zs z=>⟨xs.length - (i+1),by omega,rfl,hlt,z⟩,fun v H'' y=>?_⟩
  obtain⟨e1,e2⟩:=y
  subst e1
  exact hs D i σ' _ zs v hDn (e2 xs (SqT.of s1)) p
 ·have e:i=xs.length:=by omega
  subst e
  exact .inl ⟨⟨xs,SqT.of s1,aE _⟩,hd D σ' H' zs hDn p⟩
end
inductive Tr where
 | non
 | bl (b:Bool)
 | int (i:Int)
 | str (x:Str)
 | lst (ts:List Tr)
 | tup (ts:List Tr)
mutual
def TAt (H:Hp):Tr->V->Prop
 | .non,v=>v= .non
 | .bl b,v=>v= .bl b
 | .int i,v=>v= .int i
 | .str x,v=>v= .str x
 | .lst ts,v=>∃ a vs,v= .ref a/\H a=some (.lst vs)/\TsAt H ts vs
 | .tup ts,v=>∃ a vs,v= .ref a/\H a=some (.tup vs)/\TsAt H ts vs
def TsAt (H:Hp):List Tr->List V->Prop
 | [],vs=>vs=[]
 | t::ts,vs=>∃ v r,vs=v::r/\TAt H t v/\TsAt H ts r
end
mutual
def dep:Tr->Nat
 | .lst ts=>deps ts+1
 | .tup ts=>deps ts+1
 | _=>0
def deps:List Tr->Nat
 | []=>0
 | t::ts=>max (dep t) (deps ts)
end
mutual
def eqT:Tr->Tr->Bool
 | .non, .non=>true
 | .bl a, .bl b=>a==b
 | .bl a, .int b=>(if a then 1 else 0)==b
 | .int a, .bl b=>a==(if b then 1 else 0)
 | .int a, .int b=>a==b
 | .str a, .str b=>a==b
 | .lst a, .lst b=>eqTs a b
 | .tup a, .tup b=>eqTs a b
 | _,_=>false
def eqTs:List Tr->List Tr->Bool
 | [],[]=>true
 | a::as,b::bs=>eqT a b&&eqTs as bs
 | _,_=>false
end
mutual
theorem jEK:∀ t:Tr,eqT t t=true
 | .non=>by simp [eqT]
 | .bl b=>by simp [eqT]
 | .int i=>by simp [eqT]
 | .str x=>by simp [eqT]
 | .lst ts=>by rw[eqT]; exact jBM ts
 | .tup ts=>by rw[eqT]; exact jBM ts
theorem jBM:∀ ts:List Tr,eqTs ts ts=true
 | []=>by simp [eqTs]
 | t::ts=>by rw[eqTs,jEK t,jBM ts]; rfl
end
mutual
theorem TAt.ext {H H':Hp}(e:Ext H H'):∀ {t:Tr}{v:V},TAt H t v->TAt H' t v
 | .non,_,h=>h
 | .bl _,_,h=>h
 | .int _,_,h=>h
 | .str _,_,h=>h
 | .lst ts,_,⟨a,vs,q,h,r⟩=>⟨a,vs,q,e _ _ h,TsAt.ext e r⟩
 | .tup ts,_,⟨a,vs,q,h,r⟩=>⟨a,vs,q,e _ _ h,TsAt.ext e r⟩
theorem TsAt.ext {H H':Hp}(e:Ext H H'):∀ {ts:List Tr}{vs:List V},TsAt H ts vs->TsAt H' ts vs
 | [],_,h=>h
 | t::ts,_,⟨v,r,q,h,s⟩=>⟨v,r,q,TAt.ext e h,TsAt.ext e s⟩
end
mutual
theorem TAt.inj {H:Hp} :∀ {t u:Tr}{v:V},TAt H t v->TAt H u v->t=u
 | .non,u,_,h,h'=>by
  cases (show _=V.non from h)
  cases u with
  | non=>rfl
  | bl b=>cases (show V.non=_ from h')
  | int b=>cases (show V.non=_ from h')
  | str b=>cases (show V.non=_ from h')
  | lst ts=>obtain⟨_,_,q,_⟩:=h'; cases q
  | tup ts=>obtain⟨_,_,q,_⟩:=h'; cases q
 | .bl b,u,_,h,h'=>by
  cases (show _=V.bl b from h)
  cases u with
  | non=>cases (show V.bl b=_ from h')
  | bl b=>cases (show V.bl _=V.bl b from h'); rfl
  | int i=>cases (show V.bl b=V.int i from h')
  | str i=>cases (show V.bl b=V.str i from h')
  | lst ts=>obtain⟨_,_,q,_⟩:=h'; cases q
  | tup ts=>obtain⟨_,_,q,_⟩:=h'; cases q
 | .int b,u,_,h,h'=>by
  cases (show _=V.int b from h)
  cases u with
  | non=>cases (show V.int b=_ from h')
  | bl i=>cases (show V.int b=V.bl i from h')
  | int b=>cases (show V.int _=V.int b from h'); rfl
  | str i=>cases (show V.int b=V.str i from h')
  | lst ts=>obtain⟨_,_,q,_⟩:=h'; cases q
  | tup ts=>obtain⟨_,_,q,_⟩:=h'; cases q
 | .str b,u,_,h,h'=>by
  cases (show _=V.str b from h)
  cases u with
  | non=>cases (show V.str b=_ from h')
  | bl i=>cases (show V.str b=V.bl i from h')
  | int i=>cases (show V.str b=V.int i from h')
  | str b=>cases (show V.str _=V.str b from h'); rfl
  | lst ts=>obtain⟨_,_,q,_⟩:=h'; cases q
  | tup ts=>obtain⟨_,_,q,_⟩:=h'; cases q
 | .lst ts,u,_,⟨a,vs,q,h,r⟩,h'=>by
  subst q
  cases u with
  | non=>cases (show V.ref a=_ from h')
  | bl i=>cases (show V.ref a=V.bl i from h')
  | int i=>cases (show V.ref a=V.int i from h')
  | str i=>cases (show V.ref a=V.str i from h')
  | lst us=>
   obtain⟨a',vs',q',h2,r'⟩:=h'
   cases q'
   rw[h] at h2
   cases h2
   rw[TsAt.inj r r']
  | tup us=>
   obtain⟨a',vs',q',h2,r'⟩:=h'
   cases q'
   rw[h] at h2
   cases h2
 | .tup ts,u,_,⟨a,vs,q,h,r⟩,h'=>by
  subst q
  cases u with
  | non=>cases (show V.ref a=_ from h')
  | bl i=>cases (show V.ref a=V.bl i from h')
  | int i=>cases (show V.ref a=V.int i from h')
  | str i=>cases (show V.ref a=V.str i from h')
  | lst us=>
   obtain⟨a',vs',q',h2,r'⟩:=h'
   cases q'
   rw[h] at h2
   cases h2
  | tup us=>
   obtain⟨a',vs',q',h2,r'⟩:=h'
   cases q'
   rw[h] at h2
   cases h2
   rw[TsAt.inj r r']
theorem TsAt.inj {H:Hp} :∀ {ts us:List Tr}{vs:List V},TsAt H ts vs->TsAt H us vs->ts=us
 | [],us,_,h,h'=>by
  cases (show _=[] from h)
  cases us with
  | nil=>rfl
  | cons u us=>obtain⟨_,_,q,_⟩:=h'; cases q
 | t::ts,us,_,⟨v,r,q,h,s⟩,h'=>by
  subst q
  cases us with
  | nil=>cases (show v::r=[] from h')
  | cons u us=>
   obtain⟨v',r',q,h2,s2⟩:=h'
   cases q
   rw[TAt.inj h h2,TsAt.inj s s2]
end
theorem TsAt.len {H:Hp} :∀ {ts:List Tr}{vs:List V},TsAt H ts vs->vs.length=ts.length
 | [],_,h=>by cases (show _=[] from h); rfl
 | t::ts,_,⟨v,r,q,_,s⟩=>by rw[q,aG,aG,TsAt.len s]
theorem TsAt.get {H:Hp} :∀ {ts:List Tr}{vs:List V},TsAt H ts vs->∀ {i:Nat}{v:V},vs[i]?=some v->∃ t,ts[i]?=some t/\TAt H t v
 | [],_,h,i,v,e=>by cases (show _=[] from h); cases e
 | t::ts,_,⟨v,r,q,h,s⟩,0,v',e=>by subst q; cases e; exact⟨t,rfl,h⟩
 | t::ts,_,⟨v,r,q,h,s⟩,i+1,v',e=>by subst q; exact TsAt.get s (i:=i) e
theorem jEJ:∀ ts us:List Tr,eqTs ts us=((List.range (min ts.length us.length)).all (fun j=>eqT (ts.getD j .non) (us.getD j .non))&&ts.length==us.length)
 | [],[]=>by simp [eqTs]
 | [],u::us=>by simp [eqTs]
 | t::ts,[]=>by simp [eqTs]
 | t::ts,u::us=>by
  rw[eqTs,jEJ ts us,aG,aG,show min (ts.length+1) (us.length+1)=min ts.length us.length+1 by omega,ge,fq,all_map]
  have e:(ts.length+1==us.length+1)=(ts.length==us.length):=by
   rw[dq]
   simp
  rw[e,Bool.and_assoc]
  rfl
theorem jEL {ts:List Tr}{t:Tr}(h:t∈ts):dep t<=deps ts:=by
 induction ts with
 | nil=>cases h
 | cons a r ih=>
  rw[deps]
  rcases az.mp h with q | q
  ·subst q; omega
  ·have:=ih q; omega
def flatT:Tr->Bool
 | .lst _=>false
 | .tup _=>false
 | _=>true
theorem jLO {H:Hp}{t:Tr}{x:V}(h:TAt H t x)(f:flatT t=true):flatV x=true:=by
 cases t with
 | non=>cases (show x=_ from h); rfl
 | bl b=>cases (show x=V.bl b from h); rfl
 | int b=>cases (show x=V.int b from h); rfl
 | str b=>cases (show x=V.str b from h); rfl
 | lst ts=>cases f
 | tup ts=>cases f
theorem jQS {H:Hp}{t u:Tr}{x y:V}(h:TAt H t x)(h':TAt H u y)(f:flatT t=true)(f':flatT u=true):eqV x y=eqT t u:=by
 cases t with
 | non=>
  cases (show x=_ from h)
  cases u with
  | non=>cases (show y=_ from h'); simp [eqV,eqT]
  | bl b=>cases (show y=V.bl b from h'); simp [eqV,eqT]
  | int b=>cases (show y=V.int b from h'); simp [eqV,eqT]
  | str b=>cases (show y=V.str b from h'); simp [eqV,eqT]
  | lst ts=>cases f'
  | tup ts=>cases f'
 | bl c=>
  cases (show x=V.bl c from h)
  cases u with
  | non=>cases (show y=_ from h'); simp [eqV,eqT]
  | bl b=>cases (show y=V.bl b from h'); simp [eqV,eqT]
  | int b=>cases (show y=V.int b from h'); simp [eqV,eqT]
  | str b=>cases (show y=V.str b from h'); simp [eqV,eqT]
  | lst ts=>cases f'
  | tup ts=>cases f'
 | int c=>
  cases (show x=V.int c from h)
  cases u with
  | non=>cases (show y=_ from h'); simp [eqV,eqT]
  | bl b=>cases (show y=V.bl b from h'); simp [eqV,eqT]
  | int b=>cases (show y=V.int b from h'); simp [eqV,eqT]
  | str b=>cases (show y=V.str b from h'); simp [eqV,eqT]
  | lst ts=>cases f'
  | tup ts=>cases f'
 | str c=>
  cases (show x=V.str c from h)
  cases u with
  | non=>cases (show y=_ from h'); simp [eqV,eqT]
  | bl b=>cases (show y=V.bl b from h'); simp [eqV,eqT]
  | int b=>cases (show y=V.int b from h'); simp [eqV,eqT]
  | str b=>cases (show y=V.str b from h'); simp [eqV,eqT]
  | lst ts=>cases f'
  | tup ts=>cases f'
 | lst ts=>cases f
 | tup ts=>cases f
section
variable {X:Cx}{pins:List (Addr×Obj)}{σ:St}{H:Hp}{s:Shared}
theorem TsAt.both {ts us:List Tr}{vs ws:List V}{its its2:List Value}(h1:TsAt H ts vs)(h2:TsAt H us ws)(r1:Vals vs its)(r2:Vals ws its2){j:Nat}(a1:j<its.toArray.size)(a2:j<its2.toArray.size):
  ∃ t u x y,ts.getD j .non=t/\us.getD j .non=u/\t∈ts/\TAt H t x/\TAt H u y/\RelV x its.toArray[j]/\RelV y its2.toArray[j]:=by
 have l1:=r1.length
 have l2:=r2.length
 rw[aI] at a1 a2
 obtain⟨x,hx⟩:∃ x,vs[j]?=some x:=⟨vs[j]'(by omega),by simp [show j<vs.length by omega]⟩
 obtain⟨y,hy⟩:∃ y,ws[j]?=some y:=⟨ws[j]'(by omega),by simp [show j<ws.length by omega]⟩
 obtain⟨t,ht,hxt⟩:=h1.get hx
 obtain⟨u,hu,hyu⟩:=h2.get hy
 obtain⟨v,hv,rv⟩:=r1.get hx
 obtain⟨w,hw,rw'⟩:=r2.get hy
 have e1:its.toArray[j]=v:=by
  have:its[j]?=some its[j]:=by simp [a1]
  rw[hv] at this
  simpa using (br this).symm
 have e2:its2.toArray[j]=w:=by
  have:its2[j]?=some its2[j]:=by simp [a2]
  rw[hw] at this
  simpa using (br this).symm
 refine⟨t,u,x,y,by rw[aF,ht]; rfl,by rw[aF,hu]; rfl,aN ht,hxt,hyu,by rw[e1]; exact rv,by rw[e2]; exact rw'⟩
theorem jT6 (I:Inv X pins σ H s):∀ (n:Nat) (t u:Tr) (x y:V) (vx vy:Value) (A:Around),dep t=n->TAt H t x->TAt H u y->RelV x vx->RelV y vy->A.units+n<cLine->SeqAt.EqAt A s vx vy (eqT t u):=by
 intro n
 induction n using strongRecOn with
 | ind n ih=>
  intro t u x y vx vy A hn ht hu rx ry hc
  have hcu:A.units<cLine:=by omega
  cases ft:flatT t with
  | true=>
   cases fu:flatT u with
   | true=>
    rw[<- jQS ht hu ft fu]
    exact jOR rx ry (jLO ht ft) (jLO hu fu)
   | false=>
    cases u with
    | lst us=>
     obtain⟨b,ws,rfl,hb,_⟩:=hu
     cases ry
     obtain⟨its,_,pl,_⟩:=I.list (SqL.of hb)
     cases t with
     | non=>cases (show x=_ from ht); cases rx; rw[show eqT .non (.lst us)=false by simp [eqT]]; exact .none_list pl.isList hcu
     | bl c=>cases (show x=V.bl c from ht); cases rx; rw[show eqT (.bl c) (.lst us)=false by simp [eqT]]; exact .bool_list c pl.isList hcu
     | int c=>cases (show x=V.int c from ht); obtain⟨k,rfl⟩:=rx; rw[show eqT (.int c) (.lst us)=false by simp [eqT]]; exact .int_list c k pl.isList hcu
     | str c=>cases (show x=V.str c from ht); obtain⟨k,rfl⟩:=rx; rw[show eqT (.str c) (.lst us)=false by simp [eqT]]; exact .str_list c k pl.isList hcu
     | lst ts=>cases ft
     | tup ts=>cases ft
    | tup us=>
     obtain⟨b,ws,rfl,hb,_⟩:=hu
     cases ry
     obtain⟨its,_,pl,_⟩:=I.tuple (SqT.of hb)
     cases t with
     | non=>cases (show x=_ from ht); cases rx; rw[show eqT .non (.tup us)=false by simp [eqT]]; exact .none_tuple pl hcu
     | bl c=>cases (show x=V.bl c from ht); cases rx; rw[show eqT (.bl c) (.tup us)=false by simp [eqT]]; exact .bool_tuple c pl hcu
     | int c=>cases (show x=V.int c from ht); obtain⟨k,rfl⟩:=rx; rw[show eqT (.int c) (.tup us)=false by simp [eqT]]; exact .int_tuple c k pl hcu
     | str c=>cases (show x=V.str c from ht); obtain⟨k,rfl⟩:=rx; rw[show eqT (.str c) (.tup us)=false by simp [eqT]]; exact .str_tuple c k pl hcu
     | lst ts=>cases ft
     | tup ts=>cases ft
    | non=>cases fu
    | bl c=>cases fu
    | int c=>cases fu
    | str c=>cases fu
  | false=>
   cases t with
   | non=>cases ft
   | bl c=>cases ft
   | int c=>cases ft
   | str c=>cases ft
   | lst ts=>
    have ht0:=ht
    obtain⟨a,vs,rfl,ha,hts⟩:=ht
    cases rx
    obtain⟨its,r1,pl,_⟩:=I.list (SqL.of ha)
    cases u with
    | non=>cases (show y=_ from hu); cases ry; rw[show eqT (.lst ts) .non=false by simp [eqT]]; exact .list_none pl.isList hcu
    | bl c=>cases (show y=V.bl c from hu); cases ry; rw[show eqT (.lst ts) (.bl c)=false by simp [eqT]]; exact .list_bool c pl.isList hcu
    | int c=>cases (show y=V.int c from hu); obtain⟨k,rfl⟩:=ry; rw[show eqT (.lst ts) (.int c)=false by simp [eqT]]; exact .list_int c k pl.isList hcu
    | str c=>cases (show y=V.str c from hu); obtain⟨k,rfl⟩:=ry; rw[show eqT (.lst ts) (.str c)=false by simp [eqT]]; exact .list_str c k pl.isList hcu
    | tup us=>
     obtain⟨b,ws,rfl,hb,_⟩:=hu
     cases ry
     obtain⟨its2,_,pl2,_⟩:=I.tuple (SqT.of hb)
     rw[show eqT (.lst ts) (.tup us)=false by simp [eqT]]
     exact .list_tuple pl.isList pl2 hcu
    | lst us=>
     have hu0:=hu
     obtain⟨b,ws,rfl,hb,hus⟩:=hu
     cases ry
     by_cases e:a=b
     ·subst e
      rw[<- TAt.inj ht0 hu0,jEK]
      exact .same _
     ·obtain⟨its2,r2,pl2,_⟩:=I.list (SqL.of hb)
      refine .of_refs e ?_
      have l1:=r1.length
      have l2:=r2.length
      have m1:=hts.len
      have m2:=hus.len
      rw[eqT,jEJ]
      by_cases hl:ts.length=us.length
      ·have key:=SeqAt.RcAt.lists (e:=fun j=>eqT (ts.getD j .non) (us.getD j .non)) pl.isList pl2.isList (by rw[aI,aI]; omega) hcu fun j a1 a2=>by
        obtain⟨t',u',x',y',e1,e2,hm,q1,q2,q3,q4⟩:=TsAt.both hts hus r1 r2 a1 a2
        rw[e1,e2]
        have hd:=jEL hm
        have hn':deps ts+1=n:=by rw[<- hn,dep]
        exact ih (dep t') (by omega) t' u' x' y' _ _ _ rfl q1 q2 q3 q4 (by rw[fh]; omega)
       have ez:its.toArray.size=min ts.length us.length:=by rw[aI]; omega
       rw[ez] at key
       rw[show (ts.length==us.length)=true by simp [hl],Bool.and_true]
       exact key
      ·rw[show (ts.length==us.length)=false by simp [hl],ed]
       refine SeqAt.RcAt.lists_lengths pl.isList pl2.isList ?_ hcu
       rw[aI,aI]
       simp
       omega
   | tup ts=>
    have ht0:=ht
    obtain⟨a,vs,rfl,ha,hts⟩:=ht
    cases rx
    obtain⟨its,r1,pl,_⟩:=I.tuple (SqT.of ha)
    cases u with
    | non=>cases (show y=_ from hu); cases ry; rw[show eqT (.tup ts) .non=false by simp [eqT]]; exact .tuple_none pl hcu
    | bl c=>cases (show y=V.bl c from hu); cases ry; rw[show eqT (.tup ts) (.bl c)=false by simp [eqT]]; exact .tuple_bool c pl hcu
    | int c=>cases (show y=V.int c from hu); obtain⟨k,rfl⟩:=ry; rw[show eqT (.tup ts) (.int c)=false by simp [eqT]]; exact .tuple_int c k pl hcu
    | str c=>cases (show y=V.str c from hu); obtain⟨k,rfl⟩:=ry; rw[show eqT (.tup ts) (.str c)=false by simp [eqT]]; exact .tuple_str c k pl hcu
    | lst us=>
     obtain⟨b,ws,rfl,hb,_⟩:=hu
     cases ry
     obtain⟨its2,_,pl2,_⟩:=I.list (SqL.of hb)
     rw[show eqT (.tup ts) (.lst us)=false by simp [eqT]]
     exact .tuple_list pl pl2.isList hcu
    | tup us=>
     have hu0:=hu
     obtain⟨b,ws,rfl,hb,hus⟩:=hu
     cases ry
     by_cases e:a=b
     ·subst e
      rw[<- TAt.inj ht0 hu0,jEK]
      exact .same _
     ·obtain⟨its2,r2,pl2,_⟩:=I.tuple (SqT.of hb)
      refine .of_refs e ?_
      have l1:=r1.length
      have l2:=r2.length
      have m1:=hts.len
      have m2:=hus.len
      rw[eqT,jEJ]
      have key:=SeqAt.RcAt.tuples (e:=fun j=>eqT (ts.getD j .non) (us.getD j .non)) pl pl2 hcu fun j a1 a2=>by
       obtain⟨t',u',x',y',e1,e2,hm,q1,q2,q3,q4⟩:=TsAt.both hts hus r1 r2 a1 a2
       rw[e1,e2]
       have hd:=jEL hm
       have hn':deps ts+1=n:=by rw[<- hn,dep]
       exact ih (dep t') (by omega) t' u' x' y' _ _ _ rfl q1 q2 q3 q4 (by rw[fh]; omega)
      have z1:its.toArray.size=ts.length:=by rw[aI]; omega
      have z2:its2.toArray.size=us.length:=by rw[aI]; omega
      rw[z1,z2] at key
      exact key
theorem jQI (I:Inv X pins σ H s){ts us:List Tr}{vs ws:List V}{its its2:List Value}(h1:TsAt H ts vs)(h2:TsAt H us ws)(r1:Vals vs its)(r2:Vals ws its2){A:Around}(hc:A.units+deps ts<cLine):
  ∀ j (a1:j<its.toArray.size) (a2:j<its2.toArray.size),SeqAt.EqAt A s its.toArray[j] its2.toArray[j] (eqT (ts.getD j .non) (us.getD j .non)):=fun j a1 a2=>by
 obtain⟨t',u',x',y',e1,e2,hm,q1,q2,q3,q4⟩:=TsAt.both h1 h2 r1 r2 a1 a2
 rw[e1,e2]
 have hd:=jEL hm
 exact jT6 I (dep t') t' u' x' y' _ _ _ rfl q1 q2 q3 q4 (by omega)
theorem jPX (hu:X.A.units+101<cLine):OpR X (compareOp .Eq) (fun x y H Q=>∃ ts us,TAt H (.lst ts) x/\TAt H (.lst us) y/\deps ts<=100/\Q (.bl (eqTs ts us)) H):=by
 intro pins s σ H x y v u Q I rx ry h
 obtain⟨ts,us,⟨a,vs,rfl,ha,hts⟩,⟨b,ws,rfl,hb,hus⟩,hd,q⟩:=h
 cases rx
 cases ry
 obtain⟨its,r1,p1,_⟩:=I.list (SqL.of ha)
 obtain⟨its2,r2,p2,_⟩:=I.list (SqL.of hb)
 have l1:=r1.length
 have l2:=r2.length
 have m1:=hts.len
 have m2:=hus.len
 rw[jEJ] at q
 by_cases hl:ts.length=us.length
 ·refine SeqAt.eq_listAt (e:=fun j=>eqT (ts.getD j .non) (us.getD j .non)) p1.isList p2.isList (by rw[aI,aI]; omega) (by omega) (jQI I hts hus r1 r2 (by rw[fh]; omega)) ⟨.bl _,H,I,rfl,?_⟩
  have ez:its.toArray.size=min ts.length us.length:=by rw[aI]; omega
  rw[ez]
  rw[show (ts.length==us.length)=true by simp [hl],Bool.and_true] at q
  exact q
 ·rw[show (ts.length==us.length)=false by simp [hl],ed] at q
  refine SeqAt.eq_list_lengthsAt p1.isList p2.isList ?_ (by omega) ⟨.bl _,H,I,rfl,q⟩
  rw[aI,aI]
  simp
  omega
theorem Room.units101 {k:Nat}{A:Around}(r:Room k A):A.units+101<cLine:=by have:=r.un; omega
end
section
variable {X:Cx}{tg iter elt:Expr}{ifs:List Expr}{sc:Scope}{pos:Pos}{wi:TI}{g:TG}{tt:TT}{te:TE}{m:List (Option Nat)}{Nc:List Str}
end
section
variable {X:Cx}{sc:Scope}{cl:List (Str×Addr)}{C:Addr}{Nc:List Str}{fp:List Addr}{s:Shared}{H:Hp}{x:Str}
variable {sc2:Scope}{cl2:List (Str×Addr)}{C2:Addr}{Nc2:List Str}{fp2:List Addr}{s2:Shared}{H2:Hp}
end
section
variable {X:Cx}
theorem jN6 {c:Expr}{body:List Stmt}{tc:TT}{tb:TS}{pos:Pos}(hp:PassesOwn (model X.prog X.w) X.A X.env X.xe)(hc:JT X c tc)(hb:JSs X body tb):JS X (.While c body [] pos) (jNZ tc tb):=⟨jMM hp hc.h hb.h⟩
theorem jSK {op:CmpOp}{a b:Expr}{pos:Pos} :behindInMarks op (.Subscript a b pos)=false:=by cases op <;> rfl
end
section
variable {X:Cx}{sc:Scope}{cl:List (Str×Addr)}{C:Addr}{Nc:List Str}{fp:List Addr}{s:Shared}{H:Hp}
end
end L2
end
section
namespace L2
open PySem
theorem jP7 {es:List Expr}{env:Env}{pos:Pos}{ks:List (Option Expr)}{vs:List Expr} :starEach (.Dict ks vs pos::es) env=(false,eval (.Dict ks vs pos) env)::starEach es env:=rfl
def LstR (H:Hp)(xs:List V)(Q:VK):Prop:=∀ r H',H' r=some (.lst xs)->Ext H H'->H r=none->Q (.ref r) H'
theorem LstR.new {H:Hp}{xs:List V}{Q:VK}(q:LstR H xs Q){p:Addr}(hp:H p=none):Q (.ref p) (upd H p (.lst xs)):=q p _ j9 ((Ext.refl H).new hp _) hp
def tTupU (t:TA):TE:=fun σ H Q=>t σ H fun xs H1=>xs.length<=sizeLine/\TupR H1 xs Q
def tLstU (t:TA):TE:=fun σ H Q=>t σ H fun xs H1=>xs.length<=sizeLine/\LstR H1 xs Q
section
variable {X:Cx}{es:List Expr}{t:TA}{pos:Pos}
theorem jAR {x1}(h:JA X es t):JE X (.Tuple es x1 pos) (tTupU t):=⟨fun pins s σ H Q I hq=>by
 refine wpAny_Tuple_spliced (thn (h.h pos pins s σ H _ I hq) fun us s1 ⟨xs,H1,I1,r,z,q⟩=>⟨by rw[<- r.length]; exact z,?_⟩)
 have hf:H1 s1.heap.objs.size=none:=I1.hok.fresh (aE _)
 exact⟨.ref s1.heap.objs.size,upd H1 s1.heap.objs.size (.tup xs),I1.laid (t':=s1.toks) (fun b u e=>ae _ e) (aE _) ⟨z,us,r,TupO.new _ _⟩,rfl,q.new hf⟩⟩
theorem jQ (h:JA X es t):JE X (.List es pos) (tLstU t):=⟨fun pins s σ H Q I hq=>by
 refine wpAny_List_spliced (thn (h.h pos pins s σ H _ I hq) fun us s1 ⟨xs,H1,I1,r,z,q⟩=>⟨by rw[<- r.length]; exact z,?_⟩)
 have hf:H1 s1.heap.objs.size=none:=I1.hok.fresh (aE _)
 exact⟨.ref s1.heap.objs.size,upd H1 s1.heap.objs.size (.lst xs),I1.laid (t':=s1.toks) (fun b u e=>ae _ e) (aE _) ⟨z,us,0,r,aA _ rfl⟩,rfl,q.new hf⟩⟩
theorem jE3:OpR X (binaryOp .Add) (fun x y H Q=>∃ l b xs zs,x= .ref l/\y= .ref b/\H l=some (.lst xs)/\H b=some (.lst zs)/\xs.length+zs.length<=sizeLine/\LstR H (xs++zs) Q):=by
 intro pins s σ H x y v u Q I rx ry h
 obtain⟨l,b,xs,zs,rfl,rfl,h1,h2,h3,q⟩:=h
 exact jSA pins s σ H _ _ v u Q I rx ry ⟨l,b,xs,zs,rfl,rfl,h1,h2,h3,fun p hp=>q.new hp⟩
end
end L2
end
section
namespace L2
open PySem PySem.Spec PyProof.Rows
section
variable {X:Cx}
end
theorem jCX (ns:List Int):∀ j,preSum (fun i=>ns.getD i 0) j=(ns.take j).sum
 | 0=>rfl
 | j+1=>by
  rw[preSum,jCX ns j,bM,cX]
  congr 1
  rw[aF]
  cases ns[j]? with
  | none=>rfl
  | some z=>simp
section
variable {X:Cx}
def rSum (K:W.Frag):List V->Hp->VK->Prop:=fun xs H Q=>∃ (p:Addr) (ns:List Int),xs=[.ref p]/\(SqL K H p (ns.map V.int))/\Q (.int ns.sum) H
theorem jDB (hc:X.calm=true):yC X (.builtin "sum") (rSum X.K):=by
 intro pins s σ H xs us Q I r h
 obtain⟨p,ns,rfl,hq,q⟩:=h
 obtain⟨u,rfl,rx⟩:=r.one
 cases rx
 obtain⟨its,r',pl,hz⟩:=I.list hq
 have hlen:=r'.length
 rw[ah] at hlen
 refine call_sum_walkG (dL pl.isList ?_)
 have hne:p≠s.heap.objs.size:=by
  obtain⟨o,ho,_⟩:=pl.isList
  exact aV (ay ho)
 refine⟨s.heap.objs.size,_,_,_,_,_,fun i=>ns.getD i 0,rfl,jz (by simpa using I.ok.hd hc) _ p hne its.toArray,⟨⟨_,aA _ rfl,rfl,rfl⟩,pl.isList.push _⟩,(fun b hb=>?_),(fun i v hP=>?_),fun h' tk t' hk=>?_⟩
 ·show b<(s.heap.push _).objs.size
  rw[bS]
  obtain⟨o,ho,_⟩:=pl.isList
  have:=ay ho
  rcases az.mp hb with rfl | hb
  ·exact iO _
  ·rcases az.mp hb with rfl | hb
   ·exact bU this
   ·cases hb
 ·have hi:its[i]?=some v:=by simpa using hP
  have hb:i<ns.length:=by
   rw[hlen]
   exact(ar.mp hi).1
  obtain⟨u,hu,ru⟩:=r'.get (i:=i) (x:= .int (ns[i])) (by simp [hb])
  rw[hi] at hu
  cases hu
  obtain⟨t,rfl⟩:=ru
  exact⟨t,by simp [List.getD,hb]⟩
 ·have e:preSum (fun i=>ns.getD i 0) its.toArray.size=ns.sum:=by
   rw[jCX,aI,<- hlen,bZ]
  rw[e]
  exact⟨.int _,H,I.kept (t':=tk) fun b o e=>hk b o (by
   intro z
   have z:b=s.heap.objs.size:=by simpa using z
   exact absurd (ay e) (by rw[z]; exact cG _)) (ae _ e),⟨_,rfl⟩,q⟩
variable {sc:Scope}{cl:List (Str×Addr)}{C:Addr}{Nc:List Str}{fp:List Addr}{s:Shared}{H:Hp}
end
theorem jIY (a b:Nat):Builtin.bitAnd (a:Int) (b:Int)=((a&&&b:Nat):Int):=by
 unfold Builtin.bitAnd
 rw[aO (ka a),aO (ka b)]
 rfl
theorem jBO (a b:Nat):Builtin.bitOr (a:Int) (b:Int)=((a|||b:Nat):Int):=by
 unfold Builtin.bitOr
 have ha:Builtin.bitNot (a:Int)= -(a:Int) - 1:=by unfold Builtin.bitNot; omega
 have hb:Builtin.bitNot (b:Int)= -(b:Int) - 1:=by unfold Builtin.bitNot; omega
 have na:¬ (0<=Builtin.bitNot (a:Int)):=by rw[ha]; omega
 have nb:¬ (0<=Builtin.bitNot (b:Int)):=by rw[hb]; omega
 unfold Builtin.bitAnd
 rw[aR na,aR nb]
 have ea:Builtin.bitNot (Builtin.bitNot (a:Int))=(a:Int):=by rw[ha]; unfold Builtin.bitNot; omega
 have eb:Builtin.bitNot (Builtin.bitNot (b:Int))=(b:Int):=by rw[hb]; unfold Builtin.bitNot; omega
 show Builtin.bitNot (Builtin.bitNot _)=_
 rw[ea,eb]
 unfold Builtin.bitNot
 simp
 omega
def maskN (ts:List Int):Nat:=(ts.map fun t=>2 ^ t.toNat).sum
theorem jHP:∀ (ts:List Int) (lo:Nat),ts.Pairwise (· < ·)->(∀ t∈ts,(lo:Int)<=t)->maskN ts % 2 ^ lo=0
 | [],_,_,_=>by simp [maskN]
 | t::r,lo,hp,hl=>by
  have ih:=jHP r lo (cJ.mp hp).2 fun x hx=>hl x (ai _ hx)
  have h0:=hl t (ak ..)
  have e:maskN (t::r)=2 ^ t.toNat+maskN r:=by simp [maskN]
  have d:2 ^ t.toNat % 2 ^ lo=0:=Nat.mod_eq_zero_of_dvd (Nat.pow_dvd_pow 2 (by omega))
  rw[e,Nat.add_mod,ih,d]
  simp
theorem jD2:∀ (ts:List Int) (n:Nat),ts.Pairwise (· < ·)->(∀ t∈ts,0<=t)->(maskN ts).testBit n=decide ((n:Int)∈ts)
 | [],n,_,_=>by simp [maskN]
 | t::r,n,hp,h0=>by
  obtain⟨h1,h2⟩:=cJ.mp hp
  have ih:=jD2 r n h2 fun x hx=>h0 x (ai _ hx)
  have ht:=h0 t (ak ..)
  obtain⟨k,rfl⟩:∃ k:Nat,t=(k:Int):=⟨t.toNat,by omega⟩
  have e:maskN ((k:Int)::r)=2 ^ k+maskN r:=by simp [maskN]
  have m0:maskN r % 2 ^ (k+1)=0:=jHP r (k+1) h2 fun x hx=>by have:=h1 x hx; omega
  obtain⟨c,hc⟩:∃ c,maskN r=2 ^ (k+1)*c:=(Nat.dvd_of_mod_eq_zero m0)
  have hor:2 ^ k+maskN r=maskN r|||2 ^ k:=by
   rw[hc,iX,<- Nat.shiftLeft_eq,Nat.shiftLeft_add_eq_or_of_lt (b:=2 ^ k) (i:=k+1) (gG (by decide) (by omega)) c |>.symm,iW]
  rw[e,hor,gf,ih,fm]
  by_cases hk:k=n
  ·subst hk
   simp
  ·have:¬ ((n:Int)=(k:Int)):=by omega
   simp [hk,this]
end L2
end
section
namespace L2
open PySem
section
variable {X:Cx}{tg iter elt:Expr}{ifs:List Expr}{sc:Scope}{pos:Pos}{wi:TI}{g:TG}{tt:TT}{te:TE}{m:List (Option Nat)}{Nc:List Str}
theorem jNP (hc:X.calm=true)(hi:PI X tg iter wi)(hkind:sc.kind= .function)(hcell:∀ y∈sc.names,y.2≠ .cell)(hnames:∀ y∈sc.names,y.2= .local->sc.names.lookup y.1=some .local)
  (hfree:∀ y∈sc.names,y.2= .free->X.env.scope.names.lookup y.1=some .cell\/X.env.scope.names.lookup y.1=some .free) (hm:jCE X sc Nc m)
  (hg:∀ cl C fp s H,PG (blk X sc cl C Nc fp s H) tg g) (ht:∀ cl C fp s H,PTs (blk X sc cl C Nc fp s H) ifs tt) (he:∀ cl C fp s H,PE (blk X sc cl C Nc fp s H) elt te)
  (hs:∀ x,foldedSetIterable iter X.env x=pure x) {fpos:Pos}{use:Option (Value->Sem Unit)}{R:Value->Shared->Prop}{pins:List (Addr×Obj)}{s:Shared}{σ:St}{H:Hp}{Q:VK}(I:Inv X pins σ H s) (h:tComp m wi g tt te σ H Q)
  (fin:∀ (D C:Addr) (H5:Hp) (z1:Shared) (r:Flow),(∃ mm,z1.heap.Ns C mm)->FpOk X pins H5 C->(∀ h',Heap.SameBut C z1.heap h'->Inv X pins σ H5 { z1 with heap:=h'})->Q (.ref D) H5->compPost (model X.prog X.w) X.A X.xe use R (.ref D) C (.ok r) z1):
  wpAny (model X.prog X.w) X.A (comprehension (.ListComp elt [⟨tg,iter,ifs,0⟩] sc pos) sc X.env fpos (newList []) false (eval iter X.env) use) R X.xe s:=
 jI7 (tf:=fun _=>te) hc hi hkind hcell hnames hfree hm hg ht (fun cl C fp s H _ _ _ _=>he cl C fp s H) hs I h fin
theorem jPF {i:Nat}{x:Str}{pos' spos:Pos}(hN:X.N.Nodup)(hi':X.N[i]?=some x)(hx:Loc X.env.scope x)(hf:X.fn x=true\/X.env.scope.names.lookup x=some .local)(hsw:swapsWith (.ListComp elt [⟨tg,iter,ifs,0⟩] sc pos) (some (.Name x pos')) spos.line X.env=pure true)
  (hc:X.calm=true) (hi:PI X tg iter wi) (hkind:sc.kind= .function) (hcell:∀ y∈sc.names,y.2≠ .cell) (hnames:∀ y∈sc.names,y.2= .local->sc.names.lookup y.1=some .local)
  (hfree:∀ y∈sc.names,y.2= .free->X.env.scope.names.lookup y.1=some .cell\/X.env.scope.names.lookup y.1=some .free) (hm:jCE X sc Nc m)
  (hg:∀ cl C fp s H,PG (blk X sc cl C Nc fp s H) tg g) (ht:∀ cl C fp s H,PTs (blk X sc cl C Nc fp s H) ifs tt) (he:∀ cl C fp s H,PE (blk X sc cl C Nc fp s H) elt te)
  (hs:∀ x,foldedSetIterable iter X.env x=pure x):PS X (.Assign [.Name x pos'] (.ListComp elt [⟨tg,iter,ifs,0⟩] sc pos) spos) (tAsg (tComp m wi g tt te) (kL i)):=by
 intro pins s σ H D I h
 rw[exec_Assign_Name_used _ _ _ _ hsw]
 refine aa (eS (aa ?_))
 show wpAny _ _ (do let _ <- comprehension (.ListComp elt [⟨tg,iter,ifs,0⟩] sc pos) sc X.env _ (newList []) false (eval iter X.env) (some (assign (.Name x pos') X.env))) _ _ _
 refine aa (bN (jNP (R:=fun _ s'=>SP X pins D .next s') hc hi hkind hcell hnames hfree hm hg ht he hs ⟨I.ok,I.os,I.bare,I.base,I.loc,I.cell,I.free,I.freeC,I.pin,I.hok,I.len⟩ h ?_) (fun _ s' hq=>ag (ag hq)) fun _ _ e=>e)
 intro D' C H5 z1 r ⟨mm,hn⟩ fC sb q
 have I1:=sb _ (Heap.SameBut.refl C z1.heap)
 refine wpAny_assign_Name (jF2 (v:= .ref D') I1 hN hi' hx rfl (fun s2 I2 ⟨a,sa,ha⟩=>?_) hf)
 obtain⟨f0,f1,f2,f3,f4,f5⟩:=fC
 have hCa:C≠a:=by
  rcases ha with rfl | ha
  ·exact f1
  ·exact(f4 _ _ ha).symm
 refine⟨mm,hn.sameBut sa hCa,fun h' sb2=>⟨_,H5,?_,q⟩⟩
 refine I2.call' (s':= { s2 with heap:=h'}) (ch:=[C]) rfl ?_ (I2.hok.sameBut sb2 f0) I2.bare (fun b hb=>?_)
 ·have ne:∀ {b:Addr},b∉ [C]->b≠C:=fun h e=>h (by rw[e]; exact aC.mpr rfl)
  refine⟨fun b o e n hf hx=>(sb2.2 b (ne hx)).trans e,fun b o e n hf hx=>⟨o.slots,(sb2.2 b (ne hx)).trans e⟩,fun b o e n hx=>n,fun b o e hx=>⟨o,(sb2.2 b (ne hx)).trans e⟩,fun b xs e=>e,fun b o u e=>e,fun b ps e=>⟨#[],by rw[Array.append_empty]; exact e⟩⟩
 ·cases aC.mp hb
  exact⟨f3,f1,f4,f5⟩
end
section
variable {X:Cx}
structure SwC (e:Expr)(x:Str)(pos' spos:Pos)(X:Cx):Prop where
 h:swapsWith e (some (.Name x pos')) spos.line X.env=pure true
theorem jKZ {i:Nat}{x:Str}{pos' spos pos:Pos}{tg iter elt:Expr}{ifs:List Expr}{sc:Scope}{wi:TI}{g:TG}{tt:TT}{te:TE}{m:List (Option Nat)}{Nc:List Str}(hN:X.N.Nodup)(hi':X.N[i]?=some x)(hx:Loc1 X x)(hsw:SwC (.ListComp elt [⟨tg,iter,ifs,0⟩] sc pos) x pos' spos X)
  (hc:X.calm=true) (hi:JI X tg iter wi) (hkind:sc.kind= .function) (hcell:∀ y∈sc.names,y.2≠ .cell) (hnames:∀ y∈sc.names,y.2= .local->sc.names.lookup y.1=some .local)
  (hfree:∀ y∈sc.names,y.2= .free->X.env.scope.names.lookup y.1=some .cell\/X.env.scope.names.lookup y.1=some .free) (hm:jCE X sc Nc m)
  (hg:∀ cl C fp s H,JG (blk X sc cl C Nc fp s H) tg g) (ht:∀ cl C fp s H,JTs (blk X sc cl C Nc fp s H) ifs tt) (he:∀ cl C fp s H,JE (blk X sc cl C Nc fp s H) elt te)
  (hs:FoOk iter):JS X (.Assign [.Name x pos'] (.ListComp elt [⟨tg,iter,ifs,0⟩] sc pos) spos) (tAsg (tComp m wi g tt te) (kL i)):=
 ⟨jPF hN hi' hx.a hx.b hsw.h hc hi.h hkind hcell hnames hfree hm (fun cl C fp s H=>(hg cl C fp s H).h) (fun cl C fp s H=>(ht cl C fp s H).h) (fun cl C fp s H=>(he cl C fp s H).h) (hs.h _)⟩
end
end L2
end
section
namespace L2
open PySem PySem.Spec PyProof.Rows
section
variable {prog:Program}{w:World}{A:Around}{E:Value->Shared->Prop}
end
section
variable {X:Cx}
end
section
variable {prog:Program}{w:World}{A:Around}{E:Value->Shared->Prop}{s:Shared}
structure NoteX (fs R:List Addr)(h h':Heap):Prop where
 keep:∀ b o,h.get? b=some o->b∉fs->b∉R->h'.get? b=some o
 slot:∀ b o,h.get? b=some o->b∉R->∃ sl,h'.get? b=some { o with slots:=sl}
 size:h.objs.size<=h'.objs.size
def ExcX (h:Heap)(x C T:Addr):Prop:=∃ vs oT ts,h.get? x=some { cls:= .ref C,data:= .fields vs} /\vs.size=6/\vs[1]?=some (.ref T)/\vs[2]?=some .none/\T≠x/\h.get? T=some oT/\oT.data= .fields ts/\ts[3]?=some .none
theorem jI3 {env:Env}{outer:List Env}{L x C:Addr}{base:Heap}{vs:Array Value}{head:Value}{had:Bool}{Q:Unit->Shared->Prop}(hfr:A.frames=some (env::outer))(hl:s.heap.FunFrames base (env::outer))(hf:env.frame=some L)
  (hx:s.heap.get? x=some { cls:= .ref C,data:= .fields vs}) (v6:vs.size=6) (v2:vs[2]?=some .none)
  (h:∀ h' T,NoteX (frs (env::outer)) [x] s.heap h'->ExcX h' x C T->s.heap.objs.size<=T->Q () { s with heap:=h'}):
  wpAny (model prog w) A (do let a <- frameOf env; let pl <- entryPlaceOf L had; let b <- EntryCells.newEntry head a .none (rawInt L) .none pl; setField (.ref x) 1 b) (fun _ s'=>wpAny (model prog w) A (setFlight (.ref x) none) Q E s') E s:=by
 have xf:x∉frs (env::outer):=fun hm=>by
  obtain⟨_,o,ho,hn⟩:=hl.mem hm
  rw[hx] at ho
  cases ho
  exact hn _ rfl
 refine aa (wpAny_frameOf_fun hfr hl hf fun h1 so=>aa (wpAny_entryPlaceOf fun pl hpl=>?_))
 have hx1:=(so.2.1 x xf).trans hx
 unfold EntryCells.newEntry newFields
 refine aa (cf ?_ (hpl.sizeOk5 _ _ _ _ _))
 generalize hts:([head, .ref L, .none,rawInt L, .none]++(if pl.isEmpty then List.replicate 6 Value.none else pl)).toArray=ts
 have ts3:3<ts.size:=by
  rw[<- hts]
  simp
 have h2x:=ae (h:=h1) { cls:= .type "traceback",data:= .fields ts} hx1
 have h2T:(h1.push { cls:= .type "traceback",data:= .fields ts}).get? h1.objs.size=some { cls:= .type "traceback",data:= .fields ts} :=aA h1 rfl
 have sz2:(h1.push { cls:= .type "traceback",data:= .fields ts}).objs.size=h1.objs.size+1:=bS ..
 have nTx:h1.objs.size≠x:=cN (ay hx1)
 have k2:∀ b o,h1.get? b=some o->(h1.push { cls:= .type "traceback",data:= .fields ts}).get? b=some o:=fun b o e=>ae _ e
 generalize h1.push { cls:= .type "traceback",data:= .fields ts} =h2 at h2x h2T sz2 k2 ⊢
 refine eZ h2x rfl (by omega) ?_
 have h3x:=bC (Obj.mapFields (·.setIfInBounds 1 (Value.ref h1.objs.size))) h2x rfl
 have h3o:∀ b,b≠x->(h2.update x (Obj.mapFields (·.setIfInBounds 1 (Value.ref h1.objs.size)))).get? b=h2.get? b:=fun b n=>bu _ _ (cF n)
 have h3T:=(h3o _ nTx).trans h2T
 have sz3:(h2.update x (Obj.mapFields (·.setIfInBounds 1 (Value.ref h1.objs.size)))).objs.size=h2.objs.size:=iP ..
 generalize h2.update x (Obj.mapFields (·.setIfInBounds 1 (Value.ref h1.objs.size)))=h3 at h3x h3o h3T sz3 ⊢
 have w1:(vs.setIfInBounds 1 (Value.ref h1.objs.size))[1]?=some (.ref h1.objs.size):=by simp [v6]
 have w2:(vs.setIfInBounds 1 (Value.ref h1.objs.size))[2]?=some .none:=by rw[gq (by decide)]; exact v2
 unfold setFlight
 refine aa (bL (x:= .ref h1.objs.size) h3x rfl w1 ?_)
 rw[aq (show (Value.ref h1.objs.size != Value.none)=true by rfl)]
 refine eZ h3T rfl ts3 ?_
 have h4T:=bC (Obj.mapFields (·.setIfInBounds 3 Value.none)) h3T rfl
 have h4o:∀ b,b≠h1.objs.size->(h3.update h1.objs.size (Obj.mapFields (·.setIfInBounds 3 Value.none))).get? b=h3.get? b:=fun b n=>bu _ _ (cF n)
 have sz4:(h3.update h1.objs.size (Obj.mapFields (·.setIfInBounds 3 Value.none))).objs.size=h3.objs.size:=iP ..
 have sz1:=so.1
 refine h (h3.update h1.objs.size (Obj.mapFields (·.setIfInBounds 3 Value.none))) h1.objs.size ⟨fun b o hb n1 n2=>?_,fun b o hb n2=>?_,by omega⟩ ⟨_,_,_,(h4o x (cF nTx)).trans h3x,by simp [v6],w1,w2,nTx,h4T,rfl,?_⟩ (by omega)
 ·have hb1:=(so.2.1 b n1).trans hb
  have nx:b≠x:=fun z=>n2 (by rw[z]; exact aC.mpr rfl)
  rw[h4o b (aV (ay hb1)),h3o b nx]
  exact k2 b o hb1
 ·obtain⟨sl,hb1⟩:=so.2.2 b o hb
  have nx:b≠x:=fun z=>n2 (by rw[z]; exact aC.mpr rfl)
  refine⟨sl,?_⟩
  rw[h4o b (aV (ay hb1)),h3o b nx]
  exact k2 b _ hb1
 ·simp [ts3]
theorem jKT {env:Env}{outer:List Env}{L x C t:Addr}{base:Heap}{Q:Unit->Shared->Prop}(hfr:A.frames=some (env::outer))(hl:s.heap.FunFrames base (env::outer))(hf:env.frame=some L)
  (hx:s.heap.get? x=some { cls:= .ref C,data:= .fields #[.ref t, .none, .none, .none, .bool false, .none]})
  (h:∀ h' T,NoteX (frs (env::outer)) [x] s.heap h'->ExcX h' x C T->s.heap.objs.size<=T->Q () { s with heap:=h'}):wpAny (model prog w) A (leaving env (.ref x)) Q E s:=by
 unfold leaving noteFrame
 simp only [hf]
 refine aa (aa (bL (x:=Value.none) hx rfl rfl ?_))
 rw[aj (by decide)]
 exact jI3 hfr hl hf hx rfl rfl h
theorem jMV {env:Env}{outer:List Env}{L x C T:Addr}{base:Heap}{Q:Unit->Shared->Prop}(hfr:A.frames=some (env::outer))(hl:s.heap.FunFrames base (env::outer))(hf:env.frame=some L)(hx:ExcX s.heap x C T)
  (h:∀ h' T',NoteX (frs (env::outer)) [x,T] s.heap h'->ExcX h' x C T'->s.heap.objs.size<=T'->Q () { s with heap:=h'}):
  wpAny (model prog w) A (noteFrame (.ref x) env) (fun _ s'=>wpAny (model prog w) A (setFlight (.ref x) none) Q E s') E s:=by
 obtain⟨vs,oT,ts,hx,v6,v1,v2,nTx,hT,hd,t3⟩:=hx
 have t3s:3<ts.size:=(eY.mp t3).1
 unfold noteFrame
 simp only [hf]
 refine aa (bL hx rfl v1 ?_)
 rw[aq (show (Value.ref T != Value.none)=true by rfl)]
 refine aa (bL hT hd t3 ?_)
 rw[aj (show ¬ ((Value.none==rawInt L)=true) by simp [rawInt])]
 refine aa (eZ hT hd t3s ?_)
 have uo:∀ b,b≠T->(s.heap.update T (Obj.mapFields (·.setIfInBounds 3 Value.none))).get? b=s.heap.get? b:=fun b n=>bu _ _ (cF n)
 have us:(s.heap.update T (Obj.mapFields (·.setIfInBounds 3 Value.none))).objs.size=s.heap.objs.size:=iP ..
 have nT:∀ b o,s.heap.get? b=some o->(∀ vs,o.data≠ .fields vs)->b≠T:=fun b o hb hn z=>by
  rw[z,hT] at hb
  cases hb
  exact hn _ hd
 generalize s.heap.update T (Obj.mapFields (·.setIfInBounds 3 Value.none))=h1 at uo us ⊢
 refine jI3 (s:= { s with heap:=h1}) (C:=C) hfr (hl.of_keeps fun b o hb hn=>⟨o,(uo b (nT b o hb hn)).trans hb,rfl⟩) hf ((uo x (cF nTx)).trans hx) v6 v2 fun h' T' n e z=>h h' T' ⟨fun b o hb m1 m2=>?_,fun b o hb m2=>?_,by have:=n.size; show s.heap.objs.size<=_; rw[<- us]; exact this⟩ e (by rw[<- us]; exact z)
 ·have b1:b≠T:=fun z=>m2 (by rw[z]; simp)
  have b2:b≠x:=fun z=>m2 (by rw[z]; simp)
  exact n.keep b o ((uo b b1).trans hb) m1 (by simpa using b2)
 ·have b1:b≠T:=fun z=>m2 (by rw[z]; simp)
  have b2:b≠x:=fun z=>m2 (by rw[z]; simp)
  exact n.slot b o ((uo b b1).trans hb) (by simpa using b2)
end
end L2
namespace L2
open PySem PySem.Spec PyProof.Rows
abbrev bmVE:List Value:=[.type "ValueError", .type "Exception", .type "BaseException", .type "object"]
def ExcK (K:W.Frag)(C:Addr):Prop:=∃ (nm q:Str) (N:Addr) (bs bm:List Value) (hdct:Bool) (sn:List Str) (sub:List Value) (ab:Bool) (col:Option Bool) (dd:Option Addr) (k0 k1 k2 k3 k5:Option Value) (mN:Str->Option Value),
 mN "__init__" =none/\bm.contains (.type "BaseException")=true/\∀ h:Heap,K.In h->h.get? C=some (excClassObj nm q C N bs bm hdct sn sub ab col dd k0 k1 k2 k3 k5 "ValueError.__new__")/\h.Ns N mN/\OwnTail h bmVE bm
section
variable {X:Cx}{x:Str}{C:Addr}{W:Hp->Prop}{e:Expr}{t:TA}{np cpos pos:Pos}
theorem jJT (hc:X.calm=true)(ek:ExcK X.K C)(hg:Gl X x)(hm:X.mg x=some (.ref C))(ha:PA X [e] t)
  (hx:∀ pins σ H s h' a us,Inv X pins σ H s->Heap.MadeExcOf s.heap h' a (.ref C) us->W H->X.xe (.ref a) { s with heap:=h'})
  (hd:(x==("__debug__" :Str))=false:=by decide) (he:starEach [e] X.env=(false,eval e X.env)::starEach [] X.env:=by rfl) (hpl:(backTo cpos (starEach [e] X.env)).any (·.1)=false:=by rfl):
  PS X (.Raise (some (.Call (.Name x np) [e] [] cpos)) none pos) (fun _ σ H=>t σ H fun vs H1=>vs.length<=sizeLine/\W H1):=by
 intro pins s σ H D I h
 obtain⟨nm,q,N,bs,bm,hdct,sn,sub,ab,col,dd,k0,k1,k2,k3,k5,mN,hni,hb,hK⟩:=ek
 refine wpAny_Raise_call_subU (C:=C) (N:=N) (bs:=bs) (bm:=bm) (hdct:=hdct) (sn:=sn) (sub:=sub) (ab:=ab) (col:=col) (dd:=dd) (k0:=k0) (k1:=k1) (k2:=k2) (k3:=k3) (k5:=k5) (nm:=nm) (q:=q) g6 (by decide) g6 hb (I.ok.hd hc) hpl hni (jBZ I hg hm ⟨rfl,?_⟩ hd)
 obtain⟨y,r,hy⟩:∃ y r,backTo cpos (starEach [e] X.env)=(false,y)::r:=by
  rw[he]
  exact⟨_,_,rfl⟩
 have h2:=ha cpos pins s σ H _ I h
 rw[hy] at h2 ⊢
 refine eW (thn h2 fun us s1 ⟨vs,H1,I1,r1,z,w1⟩=>?_)
 obtain⟨c1,c2,c3⟩:=hK s1.heap I1.kIn
 exact⟨rfl,by rw[<- r1.length]; exact z,c1,c2,c3,fun h' a m=>hx pins σ H1 s1 h' a us I1 m w1⟩
end
end L2
namespace L2
open PySem PySem.Spec PyProof.Rows
theorem HOk.note {P:Program}{w:World}{H:Hp}{h h':Heap}{fs R:List Addr}(x:HOk P w H h)(n:NoteX fs R h h')(hf:∀ b∈fs,H b=none)(hR:∀ b∈R,H b=none):HOk P w H h':=fun a o e=>
 (x a o e).stay (fun b u hb q=>n.keep b u q (fun z=>by
   have:=hf b z
   rcases hb with rfl | hb
   ·rw[e] at this; cases this
   ·rw[hb] at this; cases this) (fun z=>by
   have:=hR b z
   rcases hb with rfl | hb
   ·rw[e] at this; cases this
   ·rw[hb] at this; cases this)) (fun _ q=>q) fun _ _ q=>q
theorem ObjOk.is {P:Program}{w:World}{H:Hp}{h:Heap}{a:Addr}{o:HO}(x:ObjOk P w H h a o):∃ u,h.get? a=some u:=by
 cases o with
 | lst xs=>obtain⟨_,_,_,_,e⟩:=x; exact⟨_,e⟩
 | tup xs=>obtain⟨_,_,_,_,e⟩:=x; exact⟨_,e⟩
 | dK kvs=>obtain⟨_,_,_,_,o,_,_,e,_⟩:=x; exact⟨_,e⟩
 | dT kvs=>obtain⟨_,_,_,_,o,_,_,e,_⟩:=x; exact⟨_,e⟩
 | set S n=>obtain⟨o,_,_,_,e,_⟩:=x; exact⟨_,e⟩
 | ins C dx fs=>obtain⟨_,_,_,e,_⟩:=x; exact⟨_,e⟩
 | own y=>exact x
 | xd fs=>obtain⟨_,⟨_,_,_,e,_⟩,_⟩:=x; exact⟨_,e⟩
 | rng lo hi=>obtain⟨_,_,_,e⟩:=x; exact⟨_,e⟩
 | frz ob u=>obtain⟨e,_⟩:=x; exact⟨_,e⟩
 | tbl ps=>exact⟨_,x⟩
 | met f y=>exact⟨_,x⟩
 | ext φ=>obtain⟨_,q,_⟩:=x; exact q
def CXX (P:Program)(w:World)(C:Addr):CXT:=fun outer H s E e s'=>∃ x T H',e= .ref x/\s'.os=s.os/\AllBare s'.gens/\Un (frs outer) [] H H' s.heap s'.heap/\HOk P w H' s'.heap/\s.heap.get? x=none/\s.heap.objs.size<=T/\H' x=none/\H' T=none/\ExcX s'.heap x C T/\E e (some x) H'
theorem xe_cx {P:Program}{w:World}{K:W.Frag}{mg:Str->Option Value}{base:Heap}{N:List Str}{qual:Str}{sc:Scope}{f:Addr}{cdv:Value}{A:Around}{outer:List Env}{s:Shared}{H:Hp}{E:XK}{C:Addr}
  {pins:List (Addr×Obj)}{σ:St}{H1:Hp}{s1:Shared}{h':Heap}{a:Addr}{us:List Value}(I:Inv (cxOf (CXX P w C) P w K mg base N qual sc f cdv A outer s H E) pins σ H1 s1) (m:Heap.MadeExcOf s1.heap h' a (.ref C) us) (w1:∀ a,E (.ref a) (some a) H1):
  (cxOf (CXX P w C) P w K mg base N qual sc f cdv A outer s H E).xe (.ref a) { s1 with heap:=h'} :=by
 obtain⟨t,ha,ht,_⟩:=m.there
 have fr:=I.ok.frames
 have st:s1.heap.FunFrames base (PyProof.Rows.envOfC qual sc s.heap.objs.size f cdv::outer):=I.stack
 have an:=m.new
 have sz:s.heap.objs.size<=s1.heap.objs.size:=I.sz
 have aH:H1 a=none:=by
  cases q:H1 a with
  | none=>rfl
  | some o=>
   obtain⟨u,hu⟩:=(I.hok a o q).is
   rw[an] at hu
   cases hu
 have hs:s.heap.objs.size<h'.objs.size:=by
  obtain⟨mm,⟨o,es,ep,hL,_⟩,_⟩:=I.loc
  exact ay (m.keeps _ _ hL)
 refine jKT (s:= { s1 with heap:=h'}) (base:=base) fr (st.of_keeps fun b o hb _=>⟨o,m.keeps b o hb,rfl⟩) rfl ha fun h2 T n e z=>?_
 have z:h'.objs.size<=T:=z
 have un:Un (frs outer) [] H H1 s.heap s1.heap:=I.base
 have nl:∀ b o,s.heap.get? b=some o->b∉frs outer->b∉frs (PyProof.Rows.envOfC qual sc s.heap.objs.size f cdv::outer):=fun b o hb n1 hm=>by
  rcases az.mp (show b∈s.heap.objs.size::frs outer from hm) with q | q
  ·exact absurd (ay hb) (by rw[q]; exact cG _)
  ·exact n1 q
 have na:∀ b o,s.heap.get? b=some o->b∉ [a]:=fun b o hb hm=>by
  obtain⟨o',q⟩:=un.there b o hb (by simp)
  rw[aC.mp hm,an] at q
  cases q
 refine⟨a,T,H1,rfl,I.os,I.bare,⟨fun b o hb n1 n2 n3=>?_,fun b o hb n1 n2 n3=>?_,un.free,fun b o hb n3=>?_,un.tups,un.frzs,un.tbls⟩,?_,?_,by omega,aH,(I.hok.kept m.keeps).fresh z,e,w1 a⟩
 ·exact n.keep b o (m.keeps _ _ (un.keep b o hb n1 n2 n3)) (nl b o hb n2) (na b o hb)
 ·obtain⟨sl,q⟩:=un.slot b o hb n1 n2 n3
  obtain⟨sl2,q2⟩:=n.slot b _ (m.keeps _ _ q) (na b o hb)
  exact⟨sl2,q2⟩
 ·obtain⟨o',q⟩:=un.there b o hb n3
  obtain⟨sl2,q2⟩:=n.slot b _ (m.keeps _ _ q) (na b o hb)
  exact⟨_,q2⟩
 ·refine(I.hok.kept m.keeps).note n (fun b hb=>I.stkFree b hb) fun b hb=>?_
  rw[aC.mp hb]
  exact aH
 ·cases q:s.heap.get? a with
  | none=>rfl
  | some o=>exact absurd (aC.mpr rfl) (na a o q)
end L2
namespace L2
open PySem PySem.Spec PyProof.Rows
section
variable {M:Model}{A:Around}{E:Value->Shared->Prop}{h:Heap}{g:Array GenState}{d:Drawn}{tk:Nat}{os:OsState}
theorem jN2 {nm q nm' q':Str}{C N B N' x:Addr}{bs bm bs' bm':List Value}{hdct hdct':Bool}{sn sn':List Str}{sub sub':List Value}{ab ab':Bool}{col col':Option Bool}{dd dd':Option Addr}{k0 k1 k2 k3 k5 j0 j1 j2 j3 j5:Option Value}{ni ni':String}{ox:Obj}{Q:Bool->Shared->Prop}
  (hC:h.get? C=some (excClassObj nm q C N bs bm hdct sn sub ab col dd k0 k1 k2 k3 k5 ni)) (hB:h.get? B=some (excClassObj nm' q' B N' bs' bm' hdct' sn' sub' ab' col' dd' j0 j1 j2 j3 j5 ni')) (hx:h.get? x=some ox) (hc:ox.cls= .ref C)
  (hb:bm'.contains (.type "BaseException")=true) (hin:bm.contains (.ref B)=true) (z:Q true ⟨h,g,d,tk,os⟩):wpAny M A (excMatches (.ref x) (.ref B)) Q E ⟨h,g,d,tk,os⟩:=by
 have b1:(Value.ref B::bm').contains (.type "BaseException")=true:=by rw[ke,hb,iY]
 have b2:(Value.ref C::bm).contains (.ref B)=true:=by rw[ke,hin,iY]
 have f0:=tc_notTuple
 unfold excMatches
 repeat (first | (with_reducible refine wpAny_loadPart_at hx ?_; rw[hc]) | with_reducible refine wpAny_loadPart_at hB ?_ | (with_reducible refine wpAny_isSubtype_exc hB ?_; rw[b1]) | (with_reducible refine wpAny_isSubtype_exc hC ?_; rw[b2]) | wp_step)
 exact z
end
end L2
namespace L2
open PySem PySem.Spec PyProof.Rows
structure ExcIs (K:W.Frag)(C:Addr):Prop where
 ga:findIn K (.ref C) "__getattribute__" =some (some (.builtin "BaseException.__getattribute__"))
 gr:findIn K (.ref C) "__getattr__" =some none
 hc:(clsIn K C).isSome=true
 ha:findIn K (.ref C) "__class__" =some (some (.builtin "object.__class__"))
 hn:specialIn K (.builtin "object.__class__") "__get__" =some (some (.builtin "getset_descriptor.__get__"))
 tk:takesIn K (.builtin "object.__class__")=some true
 hm:mroIn K C (.type "object")=some true
 hb:mroIn K C (.type "BaseException")=some true
def excP (x C:Addr):Heap->Prop:=fun h=>∃ vs,h.get? x=some { cls:= .ref C,data:= .fields vs} /\vs[2]?=some .none
theorem excP.inst {x C:Addr}{h:Heap}(p:excP x C h):∃ ox,PySem.W.InstAt h x ox C none:=by
 obtain⟨vs,e,_⟩:=p
 exact⟨_,e,rfl,rfl,True.intro⟩
theorem jLQ {K:W.Frag}{x C:Addr}{ox:Obj}{prog:Program}{w:World}{A:Around}{E:Value->Shared->Prop}{Q:Option Value->Shared->Prop}{s:Shared}(c:ExcIs K C)(X:K.In s.heap)(I:PySem.W.InstAt s.heap x ox C none)(k:Q (some (.ref C)) { s with toks:=s.toks+1}):wpAny (model prog w) A (getAttr? (.ref x) "__class__") Q E s:=by
 have hf:findObj K C none "__class__" =some (.bind (.builtin "getset_descriptor.__get__") (.builtin "object.__class__")):=by
  obtain⟨cd,hcd⟩:=dW.mp c.hc
  unfold findObj
  rw[hcd,bind_some,c.ha,bind_some]
  simp [c.hn,c.tk]
 obtain⟨hh,g,d,t,os⟩:=s
 have L0:=I.type (M:=model prog w)
 have L1:=jl (M:=model prog w) X c.ga
 have L2:=jl (M:=model prog w) X c.gr
 have L3:=PySem.W.looks_find (M:=model prog w) X I hf
 have L4:PySem.W.Looks (model prog w) hh (isInstance (.ref x) (.type "BaseException")) true:=L0.andThen (PySem.W.looks_mroIn (M:=model prog w) X c.hb)
 have e1:(onTheHeap (.ref C)&&(Value.builtin "BaseException.__getattribute__" == .builtin "object.__getattribute__"))=false:=by
  have z:(Value.builtin "BaseException.__getattribute__" == .builtin "object.__getattribute__")=false:=by decide+kernel
  rw[z,ed]
 unfold getAttr? getAttrBy? getAttrBy
 refine aa (wpAny_mkText (aa (df (bI (aa (L0.at (aa (L1.at ?_))))))))
 dsimp only
 rw[e1,aj (by decide)]
 unfold getAttrByItsOwn hookBefore
 rw[aq (by rfl)]
 refine aa (L2.at (aa (df (bI ?_))))
 unfold callGetattribute boundAndCalled
 rw[aj (by decide),iQ.ga.bind]
 refine aa (ag (fE (gH iQ.ga.plain PySem.F.entry_bexc_ga ?_)))
 have hk:builtinKind "BaseException.__getattribute__" =some .slot/\splitId "BaseException.__getattribute__" =some ("BaseException","__getattribute__"):=by decide+kernel
 have ha:=PySem.F.args_bexc_ga (.ref x) (.str "__class__" t)
 simp only [checkBuiltinCall,hk.1,hk.2]
 refine aa (L4.at ?_)
 rw[aj (by decide)]
 refine im (a:=()) ha (aa (ag (aa (ag (aa (L0.at (aa (L3.at ?_))))))))
 refine(show wpAny _ _ (holding [.builtin "object.__class__"] (call (.builtin "getset_descriptor.__get__") [.builtin "object.__class__", .ref x, .ref C]) >>= ret) _ _ _ from aa (bI (fE ?_)))
 exact PySem.W.class_get (s:=⟨hh,g,d,t+1,os⟩) (ox:=ox) (od:=none) X I c.hm (ag (PySem.W.handed_on rfl (ag k)))
theorem jHS {K:W.Frag}{x C:Addr}(c:ExcIs K C):PySem.W.KitX K (.ref x) (.ref C) (excP x C) where
 ty:=fun _ _ _ p=>by
  obtain⟨ox,I⟩:=p.inst
  exact I.type
 it:=fun _ _ X _=>by
  obtain⟨cd,hcd⟩:=dW.mp c.hc
  unfold clsIn at hcd
  split at hcd
  ·rename_i c' d' cd' sl' ho
   intro A' Q' E' s' k q
   unfold isType loadHead
   exact aa (wpAny_loadPart (k _ _ (X _ _ ho)) (ag q))
  ·cases hcd
 ne:=fun h tp dd its n sl X htp=>by
  obtain⟨cd,hcd⟩:=dW.mp c.hc
  refine ir.mpr fun q=>?_
  have e:C=tp:=Value.ref.inj (de.mp q)
  subst e
  unfold clsIn at hcd
  split at hcd
  ·rename_i c' d' cd' sl' ho
   have z:=(X _ _ ho).symm.trans htp
   cases z
  ·cases hcd
 ca:=fun {prog w A E Q s} X p k=>by
  obtain⟨ox,I⟩:=p.inst
  exact jLQ c X I k
theorem jCB {X:Cx}{C:Addr}(ci:ExcIs X.K C):yC X (.builtin "isinstance") (fun xs H Q=>∃ x c u b,xs=[.ref x,c]/\H x=some (.ext (excP x C))/\(∀ v,RelV c v->v=u)/\kitOne X.K (.ref C) u=some b/\Q (.bl b) H):=by
 intro pins s σ H xs us Q I r h
 obtain⟨x,c,u,b,rfl,hx,hu,e,q⟩:=h
 obtain⟨v,y,rfl,rv,ry⟩:=r.two
 cases (show v=Value.ref x from rv)
 cases hu y ry
 obtain⟨p,_,_⟩:=(show ObjOk X.prog X.w H s.heap x (.ext (excP x C)) from I.hok x _ hx)
 exact cb (jHS ci) I.kIn p e (fun z=>nomatch z) fun tk=>⟨.bl b,H,I.tok tk,rfl,q⟩
end L2
namespace L2
open PySem PySem.Spec PyProof.Rows
section
variable {X:Cx}{pins:List (Addr×Obj)}{σ:List (Option V)}{H H':Hp}{s:Shared}{h':Heap}
theorem Inv.stepX {g':Array GenState}{t':Nat}{d':Drawn}{ch:List Addr}(I:Inv X pins σ H s)
  (hch:∀ b∈ch,X.s₀.heap.get? b=none/\b≠X.env.locals/\(∀ x c,X.env.cells.lookup x=some c->c≠b)/\∀ p∈X.pn++pins,p.1≠b)
  (keep:∀ b o,b≠X.env.locals->b∉X.fs->b∉ch->s.heap.get? b=some o->H b=none->h'.get? b=some o)
  (slot:∀ b o,b≠X.env.locals->b∈X.fs->b∉ch->s.heap.get? b=some o->H b=none->∃ sl,h'.get? b=some { o with slots:=sl}) (free:∀ b o,b∉ch->s.heap.get? b=some o->H b=none->H' b=none)
  (there:∀ b o,b∉ch->s.heap.get? b=some o->∃ o',h'.get? b=some o')
  (tups:∀ b xs,H b=some (.tup xs)->H' b=some (.tup xs)) (frzs:∀ b o u,H b=some (.frz o u)->H' b=some (.frz o u)) (tbls:∀ b ps,H b=some (.tbl ps)->∃ more,H' b=some (.tbl (ps++more)))
  (ns:∀ m,s.heap.Ns X.env.locals m->h'.Ns X.env.locals m) (hok:HOk X.prog X.w H' h') (hg:AllBare g'):
  Inv X pins σ H' { s with heap:=h',gens:=g',drawn:=d',toks:=t'} :=by
 have neL:∀ b o,X.s₀.heap.get? b=some o->b≠X.env.locals:=fun b o e=>aV (bi (ay e) I.ok.above)
 have neC:∀ b o,X.s₀.heap.get? b=some o->b∉X.ex->b∉ch:=fun b o e hx hb=>by
  have z:=(hch b hb).1
  rw[e] at z
  cases z
 have cellK:∀ x c,X.env.cells.lookup x=some c->∀ v,s.heap.IsCell c v->h'.IsCell c v:=fun x c e v ⟨o,ho,hd⟩=>by
  have nch:c∉ch:=fun z=>(hch c z).2.2.1 x c e rfl
  by_cases hc:c∈X.fs
  ·obtain⟨sl,q⟩:=slot c o (I.cne x c e) hc nch ho (I.freeC x c e)
   exact⟨_,q,hd⟩
  ·exact⟨o,keep c o (I.cne x c e) hc nch ho (I.freeC x c e),hd⟩
 refine⟨I.ok,I.os,hg,⟨fun b o e n hb hx=>?_,fun b o e n hb hx=>?_,fun b o e n hx=>?_,fun b o e hx=>?_,fun b xs e=>tups b xs (I.base.tups b xs e),fun b o xs e=>frzs b o xs (I.base.frzs b o xs e),fun b ps e=>?_⟩,?_,fun x c e=>?_,?_,fun x c e=>?_,fun p hp=>?_,hok,I.len⟩
 ·exact keep b o (neL b o e) hb (neC b o e hx) (I.base.keep b o e n hb hx) (I.base.free b o e n hx)
 ·obtain⟨sl,e1⟩:=I.base.slot b o e n hb hx
  obtain⟨sl',e2⟩:=slot b _ (neL b o e) hb (neC b o e hx) e1 (I.base.free b o e n hx)
  exact⟨sl',e2⟩
 ·obtain⟨o',e1⟩:=I.base.there b o e hx
  exact free b o' (neC b o e hx) e1 (I.base.free b o e n hx)
 ·obtain⟨o',e1⟩:=I.base.there b o e hx
  exact there b o' (neC b o e hx) e1
 ·obtain⟨m1,e1⟩:=I.base.tbls b ps e
  obtain⟨m2,e2⟩:=tbls b _ e1
  exact⟨m1++m2,by rw[e2,jt]⟩
 ·obtain⟨m,hn,hl⟩:=I.loc
  refine⟨m,ns m hn,fun i x v e1 e2 e3=>?_⟩
  obtain⟨u,r,l⟩:=hl i x v e1 e2 e3
  refine⟨u,r,?_⟩
  rcases l with l | ⟨k,c,e,z⟩
  ·exact .inl l
  ·exact .inr ⟨k,c,e,cellK x c e _ z⟩
 ·obtain⟨v,z⟩:=I.cell x c e
  exact⟨v,cellK x c e v z⟩
 ·obtain⟨m,⟨o,_,_,ho,_⟩,_⟩:=I.loc
  exact free _ o (fun z=>(hch _ z).2.1 rfl) ho I.free
 ·obtain⟨v,o,ho,hd⟩:=I.cell x c e
  exact free c o (fun z=>(hch c z).2.2.1 x c e rfl) ho (I.freeC x c e)
 ·obtain⟨e,n,ne,nf,d⟩:=I.pin p hp
  have nch:p.1∉ch:=fun z=>(hch p.1 z).2.2.2 p hp rfl
  exact⟨keep p.1 p.2 ne nf nch e n,free p.1 p.2 nch e n,ne,nf,d⟩
theorem Inv.callX {g':Array GenState}{t':Nat}{d':Drawn}{ch:List Addr}(I:Inv X pins σ H s)(u:Un (frs X.stack) ch H H' s.heap h')(hok:HOk X.prog X.w H' h')(hg:AllBare g')
  (hch:∀ b∈ch,X.s₀.heap.get? b=none/\b≠X.env.locals/\(∀ x c,X.env.cells.lookup x=some c->c≠b)/\∀ p∈X.pn++pins,p.1≠b):
  Inv X pins σ H' { s with heap:=h',gens:=g',drawn:=d',toks:=t'} :=by
 obtain⟨m,⟨o,es,ep,ho,r⟩,_⟩:=id I.loc
 obtain⟨sl,hL⟩:=u.any ho I.free fun z=>(hch _ z).2.1 rfl
 exact I.stepX (ch:=ch) hch (fun b o hL hb hc e n=>u.keep b o e n (fun z=>(az.mp (I.stkSub b z)).elim hL hb) hc) (fun b o _ _ hc e n=>u.any e n hc) (fun b o hc e n=>u.free b o e n hc) (fun b o hc e=>u.there b o e hc) u.tups u.frzs u.tbls (fun m' hm=>by
  obtain⟨o',es',ep',ho',r'⟩:=hm
  rw[ho] at ho'; cases ho'
  exact⟨_,es',ep',hL,r'⟩) hok hg
end
end L2
namespace L2
open PySem PySem.Spec PyProof.Rows
theorem excP.of {h:Heap}{x C T:Addr}(e:ExcX h x C T):excP x C h:=by
 obtain⟨vs,_,_,h1,_,_,h2,_⟩:=e
 exact⟨vs,h1,h2⟩
theorem excP.stay {x C:Addr}(h1 h2:Heap)(p:excP x C h1)(k:∀ o,h1.get? x=some o->h2.get? x=some o):excP x C h2:=by
 obtain⟨vs,e,c⟩:=p
 exact⟨vs,k _ e,c⟩
section
variable {X:Cx}{pins:List (Addr×Obj)}{σ:St}{H H':Hp}{s:Shared}{h2:Heap}{x C T T':Addr}
theorem Inv.apart (I:Inv X pins σ H s)(hex:X.ex=[]){b:Addr}(hb:s.heap.get? b=none):X.s₀.heap.get? b=none/\b≠X.env.locals/\(∀ y c,X.env.cells.lookup y=some c->c≠b)/\∀ p∈X.pn++pins,p.1≠b:=by
 refine⟨?_,fun z=>?_,fun y c e z=>?_,fun p hp z=>?_⟩
 ·cases q:X.s₀.heap.get? b with
  | none=>rfl
  | some o=>
   obtain⟨o',e⟩:=I.base.there b o q (by rw[hex]; simp)
   rw[hb] at e
   cases e
 ·obtain⟨m,⟨o,es,ep,hL,_⟩,_⟩:=I.loc
  rw[<- z,hb] at hL
  cases hL
 ·obtain⟨v,o,ho,_⟩:=I.cell y c e
  rw[z,hb] at ho
  cases ho
 ·have:=(I.pin p hp).1
  rw[z,hb] at this
  cases this
theorem Inv.held (I:Inv X pins σ H' s)(n:NoteX (frs X.stack) [x,T] s.heap h2)(e:ExcX h2 x C T')(hx:H' x=none)(hT:H' T=none)
  (ax:X.s₀.heap.get? x=none/\x≠X.env.locals/\(∀ y c,X.env.cells.lookup y=some c->c≠x)/\∀ p∈X.pn++pins,p.1≠x)
  (aT:X.s₀.heap.get? T=none/\T≠X.env.locals/\(∀ y c,X.env.cells.lookup y=some c->c≠T)/\∀ p∈X.pn++pins,p.1≠T):
  Inv X pins σ (upd H' x (.ext (excP x C))) { s with heap:=h2} :=by
 have nx:∀ {b:Addr}{o:HO},H' b=some o->b≠x:=fun {b o} q z=>by
  rw[z,hx] at q
  cases q
 refine I.callX (g':=s.gens) (d':=s.drawn) (t':=s.toks) (ch:=[x,T]) ⟨fun b o q z n1 n2=>n.keep b o q n1 n2,fun b o q z n1 n2=>n.slot b o q n2,fun b o q z n2=>?_,fun b o q n2=>?_,fun b xs q=>by rw[j8 (nx q)]; exact q,fun b o u q=>by rw[j8 (nx q)]; exact q,fun b ps q=>⟨#[],by rw[j8 (nx q),q]; simp⟩⟩ (fun a o q=>?_) I.bare (fun b hb=>?_)
 ·rw[j8 (fun z=>n2 (by rw[z]; simp))]
  exact z
 ·obtain⟨sl,w⟩:=n.slot b o q n2
  exact⟨_,w⟩
 ·by_cases ha:a=x
  ·subst ha
   rw[j9] at q
   cases q
   obtain⟨vs,_,_,w,_⟩:=id e
   exact⟨.of e,⟨_,w⟩,excP.stay⟩
  ·rw[j8 ha] at q
   have hk:=I.hok.note n I.stkFree fun b hb=>by
    rcases az.mp hb with z | z
    ·rw[z]; exact hx
    ·rw[aC.mp z]; exact hT
   exact(hk a o q).stay (fun _ _ _ w=>w) (fun b w=>by rw[j8 (nx w)]; exact w) fun b xs w=>by rw[j8 (nx w)]; exact w
 ·rcases az.mp hb with z | z
  ·rw[z]; exact ax
  ·rw[aC.mp z]; exact aT
end
def jAB (X:Cx)(x:Addr):Cx:= { X with A:=X.A.mark (some (.ref x)),calm:=false,xe:=fun _ _=>False}
section
variable {X:Cx}{pins:List (Addr×Obj)}{σ:St}{H:Hp}{s:Shared}{x:Addr}
theorem Cx.Ok.suite (ok:X.Ok)(x:Addr):(jAB X x).Ok:=
 ⟨ok.mod,ok.kind,ok.glob,ok.blt,ok.above,ok.inj,ok.has,ok.cab,fun z=>(nomatch z),ok.frames,ok.stk,ok.exf,ok.bs,ok.bsz,ok.noex,ok.exfs,ok.funs,ok.frf⟩
theorem Inv.suite (I:Inv X pins σ H s)(x:Addr):Inv (jAB X x) pins σ H s:=⟨I.ok.suite x,I.os,I.bare,I.base,I.loc,I.cell,I.free,I.freeC,I.pin,I.hok,I.len⟩
theorem Inv.unsuite (ok:X.Ok)(I:Inv (jAB X x) pins σ H s):Inv X pins σ H s:=⟨ok,I.os,I.bare,I.base,I.loc,I.cell,I.free,I.freeC,I.pin,I.hok,I.len⟩
end
section
variable {M:Model}{A:Around}{E:Value->Shared->Prop}{s:Shared}{x C T:Addr}{Q:Unit->Shared->Prop}
theorem jGT (e:ExcX s.heap x C T)(h:∀ h',(∀ b o,s.heap.get? b=some o->h'.get? b=some o)->Q () { s with heap:=h'}):wpAny M A (setFlight (.ref x) none) Q E s:=by
 obtain⟨vs,oT,ts,hx,v6,v1,v2,nTx,hT,hd,t3⟩:=e
 have t3s:3<ts.size:=(eY.mp t3).1
 unfold setFlight
 refine aa (bL (x:= .ref T) hx rfl v1 ?_)
 rw[aq (show (Value.ref T != Value.none)=true by rfl)]
 refine eZ hT hd t3s (h _ fun b o hb=>?_)
 by_cases hbT:b=T
 ·subst hbT
  rw[hT] at hb
  cases hb
  obtain⟨c,d,dt,sl⟩:=oT
  simp only at hd
  subst hd
  refine(bC (Obj.mapFields (·.setIfInBounds 3 Value.none)) hT rfl).trans ?_
  have e3:ts.setIfInBounds 3 Value.none=ts:=by
   apply Array.ext_getElem?
   intro i
   by_cases hi:i=3
   ·subst hi
    rw[t3]
    simp [t3s]
   ·rw[gq (cF hi)]
  show some ({ cls:=c,dict:=d,data:= .fields (ts.setIfInBounds 3 Value.none),slots:=sl} :Obj)=_
  rw[e3]
 ·exact(bu _ _ (cF hbT)).trans hb
end
def Above (K:W.Frag)(C B:Addr):Prop:=∃ (nm q nm' q':Str) (N N':Addr) (bs bm bs' bm':List Value) (hdct hdct':Bool) (sn sn':List Str) (sub sub':List Value) (ab ab':Bool) (col col':Option Bool) (dd dd':Option Addr) (k0 k1 k2 k3 k5 j0 j1 j2 j3 j5:Option Value) (ni ni':String),
 bm'.contains (.type "BaseException")=true/\bm.contains (.ref B)=true/\∀ h:Heap,K.In h->h.get? C=some (excClassObj nm q C N bs bm hdct sn sub ab col dd k0 k1 k2 k3 k5 ni)/\h.get? B=some (excClassObj nm' q' B N' bs' bm' hdct' sn' sub' ab' col' dd' j0 j1 j2 j3 j5 ni')
section
variable {X:Cx}{y n g c:Str}{i j k:Nat}{f B C:Addr}{fd:FuncData}{ps:List Str}{sp:Sp}{e r:Expr}{es:List Expr}{t:TA}{te:Addr->TE}{yp gp cp ap np rp hp tp:Pos}
end
section
variable {prog:Program}{w:World}{A:Around}{E:Value->Shared->Prop}{s:Shared}
end
section
variable {X:Cx}{tg:Expr}
end
section
variable {X:Cx}{tg iter elt:Expr}{ifs:List Expr}{sc:Scope}{pos:Pos}{wi:TI}{g:TG}{tt:TT}{te:TE}{m:List (Option Nat)}{Nc:List Str}
end
section
variable {X:Cx}{k:Nat}{f a:Addr}{fd:FuncData}{ps:List Str}{sp:Addr->Sp}{x:Str}{p pos:Pos}{e:Expr}{es:List Expr}{t:TA}
end
section
variable {CX:CXT}{P:Program}{w:World}{K:W.Frag}{mg:Str->Option Value}{base:Heap}{N:List Str}{qual:Str}{sc:Scope}{f:Addr}{cdv:Value}{A:Around}{outer:List Env}{s:Shared}{H:Hp}{E:XK}{x:Str}
theorem gl_x (h:sc.names.lookup x=some .globalImplicit):Gl1 (cxOf CX P w K mg base N qual sc f cdv A outer s H E).nox x:=⟨h⟩
theorem jR6 (h:sc.names.lookup x=some .cell):Vis1 (cxOf CX P w K mg base N qual sc f cdv A outer s H E).nox x:=⟨.inr (.inl h)⟩
theorem gl_u {X:Cx}{a:Addr}(h:Gl1 X x):Gl1 (jAB X a) x:=⟨h.a⟩
theorem vis_u {X:Cx}{a:Addr}(h:Vis1 X x):Vis1 (jAB X a) x:=⟨h.a⟩
end
section
variable {X:Cx}{e:Expr}{es:List Expr}{t:TA}{a:Addr}{p pos:Pos}
end
abbrev WX:=Addr->Addr->St->Hp->Prop
def RZ (X:Cx)(pins:List (Addr×Obj))(W:WX):Value->Shared->Prop:=fun ev s2=>∃ x T C σ2 H2,ev= .ref x/\Inv X pins σ2 H2 s2/\H2 x=none/\H2 T=none/\ExcX s2.heap x C T/\
 (X.s₀.heap.get? x=none/\x≠X.env.locals/\(∀ y c,X.env.cells.lookup y=some c->c≠x)/\∀ p∈X.pn++pins,p.1≠x)/\(X.s₀.heap.get? T=none/\T≠X.env.locals/\(∀ y c,X.env.cells.lookup y=some c->c≠T)/\∀ p∈X.pn++pins,p.1≠T)/\W x C σ2 H2
abbrev TEX:=St->Hp->VK->(Addr->Addr->Hp->Prop)->Prop
abbrev TBX:=Ends->WX->St->Hp->Prop
structure JX (X:Cx)(e:Expr)(t:TEX):Prop where
 h:∀ (pins:List (Addr×Obj)) (s:Shared) (σ:St) (H:Hp) (Q:VK) (W:Addr->Addr->Hp->Prop),Inv X pins σ H s->t σ H Q W->wpAny (model X.prog X.w) X.A (eval e X.env) (EP X pins σ Q) (RZ X pins fun x C σ2 H2=>σ2=σ/\W x C H2) s
structure JB (X:Cx)(body:List Stmt)(t:TBX):Prop where
 h:∀ (pins:List (Addr×Obj)) (s:Shared) (σ:St) (H:Hp) (D:Ends) (W:WX),Inv X pins σ H s->t D W σ H->wpAny (model X.prog X.w) X.A (execs body X.env) (SP X pins D) (RZ X pins W) s
def jRF (C:Addr)(t:TA)(sp:Sp):TEX:=fun σ H Q W=>t σ H fun vs H1=>sp vs H1 Q fun e ox H2=>∀ x,e= .ref x->ox=some x->H2 x=none->W x C H2
def bSet (i:Nat)(t:TEX):TBX:=fun D W σ H=>t σ H (fun v H1=>D.nx (σ.set i (some v)) H1) fun x C H2=>W x C σ H2
def Dh (D:Ends)(j:Nat):Ends:= { nx:=fun σ H=>D.nx (σ.set j none) H,rt:=D.rt,bk:=fun σ H=>D.bk (σ.set j none) H,ct:=fun σ H=>D.ct (σ.set j none) H}
def tTryB (K:W.Frag)(B:Addr)(j:Nat)(tb:TBX)(ts:Addr->TS):TS:=fun D σ H=>tb D (fun x C σ2 H2=>Above K C B/\ts x (Dh D j) (σ2.set j (some (.ref x))) (upd H2 x (.ext (excP x C)))) σ H
section
variable {X:Cx}{y n g c:Str}{i j k:Nat}{f B C:Addr}{fd:FuncData}{ps:List Str}{sp:Sp}{e:Expr}{es:List Expr}{t:TA}{te t1:TEX}{yp gp cp ap np rp hp tp pos:Pos}
theorem jSJ (h:X.xe=fun _ _=>False):X=X.nox:=by
 cases X
 cases h
 rfl
theorem jQF (F:FnOk X.prog X.w X.K X.mg X.base (CXX X.prog X.w C) k f fd ps sp)(hr:Room k X.A)(hg:Gl1 X g)(hm:X.mg g=some (.ref f))(hk:keepIn X.K (.ref f)=true)(hb:Binds X.K fd ps [])(ha0:JA X (e::es) t)(hex:X.ex=[])
  (he:starEach (e::es) X.env=(false,eval e X.env)::starEach es X.env) (hdb:(g==("__debug__" :Str))=false:=by decide) (hpl:(backTo cp (starEach es X.env)).any (·.1)=false:=by rfl) (hxe:X.xe=fun _ _=>False:=by rfl):
  JX X (.Call (.Name g gp) (e::es) [] cp) (jRF C t sp):=by
 have ha:JA X.nox (e::es) t:=jSJ hxe ▸ ha0
 refine⟨fun pins s σ H Q W I h=>da (jBZ I hg.a hm ?_ hdb)⟩
 refine gY (h₀:=X.base) I.ok.mod.kin hk (bN (ha.h cp pins s σ H _ (I.wish _) h) (fun us s1 ⟨vs,H1,I1,r1,q⟩=>⟨I1.unwish.kIn,?_⟩) fun _ _ z=>False.elim z) he hpl
 have I1:=I1.unwish
 have hl:us.length=ps.length:=by rw[<- r1.length]; exact F.len _ _ _ _ q
 have hbb:=hb s1 us I1.kIn (by rw[bo]; exact hl)
 rw[bo] at hbb
 refine fE (dv (F.run X.A X.stack s1 H1 ⟨us,[]⟩ us vs _ _ hr I1.env0 hbb r1 q) fun res s2 hq=>?_)
 cases res with
 | ok fl=>
  cases fl with
  | ret u=>exact I1.after hq
  | next=>exact False.elim hq
  | brk=>exact False.elim hq
  | cont=>exact False.elim hq
 | error ev=>
  obtain⟨x,T,H2,rfl,os2,bare2,un2,hok2,fx,fT,hx,hT,ex2,q2⟩:=hq
  have I2:Inv X pins σ H2 s2:=I1.call' os2 un2 hok2 bare2 fun b z=>absurd z (by simp)
  have hT1:s1.heap.get? T=none:=by
   cases z:s1.heap.get? T with
   | none=>rfl
   | some o=>exact absurd (ay z) (g7.mpr fT)
  exact⟨x,T,C,σ,H2,rfl,I2,hx,hT,ex2,I1.apart hex fx,I1.apart hex hT1,rfl,q2 x rfl rfl hx⟩
theorem RZ.out {pins:List (Addr×Obj)}{σ:St}{W':Addr->Addr->Hp->Prop}{W:WX}{ev:Value}{s:Shared}(h:RZ X pins (fun x C σ2 H2=>σ2=σ/\W' x C H2) ev s)(k:∀ x C H2,W' x C H2->W x C σ H2):RZ X pins W ev s:=by
 obtain⟨x,T,C,σ2,H2,e1,I2,a1,a2,a3,a4,a5,rfl,a6⟩:=h
 exact⟨x,T,C,_,H2,e1,I2,a1,a2,a3,a4,a5,k _ _ _ a6⟩
theorem jSZ (hN:X.N.Nodup)(hi:X.N[i]?=some y)(ly:Loc1 X y)(h:JX X e te)(hs:SwOk e (some (.Name y yp))):JB X [.Assign [.Name y yp] e ap] (bSet i te):=by
 refine⟨fun pins s σ H D W I hq=>iI (wpAny_Assign_Name (bN (h.h pins s σ H _ _ I hq) (fun u s1 ⟨x,H1,I1,r1,q1⟩=>?_) fun ev s1 z=>z.out fun _ _ _ q=>q) (hs.h _ _))⟩
 exact jAX I1 hN hi ly.a r1 (fun s3 I3=>eM ⟨_,H1,I3,q1⟩) ly.b
theorem Inv.lost {pins:List (Addr×Obj)}{σ:St}{H:Hp}{s:Shared}{h':Heap}{t':Nat}{v:Option Value}{m:Str->Option Value}(I:Inv X pins σ H s)(hN:X.N.Nodup)(hj:X.N[j]?=some n)(ln:X.env.scope.names.lookup n=some .local)(hm:s.heap.Ns X.env.locals m)(hl:∀ (i:Nat) (y:Str) (v:V),X.N[i]?=some y->σ[i]?=some (some v)->Vis X.env.scope y->∃ u,RelV v u/\Look X.env s.heap m y u)
  (hn:h'.Ns X.env.locals (fun x=>if x=n then v else m x)) (sb:Heap.SameBut X.env.locals s.heap h'):Inv X pins (σ.set j none) H { s with heap:=h',toks:=t'} :=by
 refine⟨I.ok,I.os,I.bare,I.base.sameBut sb I.ok.above,⟨_,hn,fun i y v e1 e2 e3=>?_⟩,fun y c e=>?_,I.free,I.freeC,fun p hp=>?_,I.hok.sameBut sb I.free,by rw[gL]; exact I.len⟩
 ·have nij:i≠j:=fun z=>by
   subst z
   by_cases hlt:i<σ.length
   ·rw[fX hlt] at e2
    cases e2
   ·rw[bw (by rw[gL]; omega)] at e2
    cases e2
  rw[gE (cF nij)] at e2
  have yn:y≠n:=fun z=>by
   subst z
   exact nij ((gh (ar.mp e1).1 hN).mp (e1.trans hj.symm))
  obtain⟨u,r,l⟩:=hl i y v e1 e2 e3
  refine⟨u,r,?_⟩
  rcases l with ⟨lk,l⟩ | ⟨lk,c,hc,o,ho,hd⟩
  ·exact .inl ⟨lk,(aj yn).trans l⟩
  ·exact .inr ⟨lk,c,hc,o,(sb.2 c (I.cne y c hc)).trans ho,hd⟩
 ·obtain⟨v,o,ho,hd⟩:=I.cell y c e
  exact⟨v,o,(sb.2 c (I.cne y c e)).trans ho,hd⟩
 ·obtain⟨e,n,ne,nf,d⟩:=I.pin p hp
  exact⟨(sb.2 _ ne).trans e,n,ne,nf,d⟩
theorem jST {body:List Stmt}{s0:Stmt}{suite:List Stmt}{tb:TBX}{ts:Addr->TS}(hN:X.N.Nodup)(hn:X.N[j]?=some n)(ln:X.env.scope.names.lookup n=some .local)(hb:JB X body tb)
  (hc:Gl1 X c) (hmc:X.mg c=some (.ref B)) (hst:X.stack=X.env::X.outer) (hfr:X.env.frame=some X.env.locals) (hs:∀ x,JSs (jAB X x) (s0::suite) (ts x)) (hdc:(c==("__debug__" :Str))=false:=by decide):
  JS X (.Try body [.ExceptHandler (some (.Name c np)) (some n) (s0::suite) hp] [] [] tp) (tTryB X.K B j tb ts):=by
 refine⟨fun pins s σ H D I h=>wpAny_Try_except (bN (hb.h pins s σ H D _ I h) (fun fl s1 q=>?_) fun ev s2 hz=>?_)⟩
 ·cases fl with
  | next=>exact eM q
  | brk=>exact q
  | cont=>exact q
  | ret u=>exact q
 ·obtain⟨x,T,C,σ2,H2,rfl,I2,hx,hT,ex2,ax,aT,ab,q3⟩:=hz
  have fr:=I.ok.frames
  have st2:=I2.stack
  rw[hst] at fr st2
  refine jMV (base:=X.base) fr st2 hfr ex2 fun h3 T3 n3 e3 z3=>?_
  have I3:Inv X pins σ2 (upd H2 x (.ext (excP x C))) { s2 with heap:=h3} :=I2.held (by rw[hst]; exact n3) e3 hx hT ax aT
  refine wpAny_handleBy_cons (codeAny_handlers_test (jBZ (X:=jAB X x) (I3.suite x) hc.a hmc ?_ hdc)) (by intro q; cases q)
  obtain⟨nm,q,nm',q',N,N',bs,bm,bs',bm',hdct,hdct',sn,sn',sub,sub',ab,ab',col,col',dd,dd',k0,k1,k2,k3,k5,j0,j1,j2,j3,j5,ni,ni',b1,b2,hK⟩:=ab
  obtain⟨c1,c2⟩:=hK h3 I3.kIn
  obtain⟨vs3,_,_,hx3,_⟩:=id e3
  refine jN2 c1 c2 hx3 rfl b1 b2 ?_
  refine codeAny_handlers_suite_as (jGT (s:= { s2 with heap:=h3}) e3 fun h4 k4=>?_)
  have I4:Inv X pins σ2 (upd H2 x (.ext (excP x C))) { s2 with heap:=h4} :=I3.kept (h':=h4) (t':=s2.toks) k4
  refine jAX (X:=jAB X x) (v:= .ref x) (I4.suite x) hN hn (.inl ln) rfl (fun s5 I5=>?_) (.inr ln)
  refine bN ((hs x).h pins s5 _ _ (Dh D j) I5 q3) (fun fl s6 q6=>?_) fun _ _ z=>False.elim z
  have go:∀ {σ6:St}{H6:Hp}{Q:Shared->Prop},Inv (jAB X x) pins σ6 H6 s6->(∀ s7,Inv X pins (σ6.set j none) H6 s7->Q s7)->wpAny (model X.prog X.w) X.A (do bindName X.env n .none; unbindBehindTheSuite X.env n hp) (fun _ s7=>Q s7) X.xe s6:=fun {σ6 H6 Q} I6 k=>by
   have I6:=I6.unsuite I.ok
   obtain⟨m6,hn6,hl6⟩:=id I6.loc
   exact wpAny_nameGoes_keeps ln hn6 (by rw[I.ok.kind]; rfl) fun h7 v hn7 sb7=>k _ (I6.lost hN hn ln hn6 hl6 hn7 sb7)
  cases fl with
  | next=>
   obtain⟨σ6,H6,I6,d6⟩:=q6
   exact go I6 fun s7 I7=>⟨_,H6,I7,d6⟩
  | brk=>
   obtain⟨σ6,H6,I6,d6⟩:=q6
   exact go I6 fun s7 I7=>⟨_,H6,I7,d6⟩
  | cont=>
   obtain⟨σ6,H6,I6,d6⟩:=q6
   exact go I6 fun s7 I7=>⟨_,H6,I7,d6⟩
  | ret u=>
   obtain⟨v,σ6,H6,I6,r6,d6⟩:=q6
   exact go I6 fun s7 I7=>⟨v,_,H6,I7,r6,d6⟩
end
def nfP (x q:Str)(args:Arguments)(body:List Stmt)(scope:Scope)(cl:List (Str×Addr))(a c:Addr):Heap->Prop:=fun h=>∃ doc pm ctv,h.get? a=some (fnMade x q args body scope cl doc pm c ctv)
def ncP (q:Str)(c:Addr):Heap->Prop:=fun h=>h.CodeRec (.ref c) q
noncomputable abbrev onePs (pos:Pos)(c:Addr):Array Value:=#[rawInt pos.line,rawInt pos.col, .ref c]
def TabOk (H:Hp)(T:Addr)(pos:Pos)(q:Str):Prop:=H T=some (.tbl #[])\/∃ c,H T=some (.tbl (onePs pos c))/\H c=some (.ext (ncP q c))
def ExtT (T:Addr)(H H':Hp):Prop:=∀ b o,H b=some o->b≠T->H' b=some o
def BltAt (base:Heap)(mg:Str->Option Value):Prop:=∃ bm o,mg "__builtins__" =some (.ref bm)/\bm≠builtinsNs/\bm≠mainGlobals/\base.get? bm=some o/\o.cls= .type "module" /\o.dict=some builtinsNs/\o.data= .plain
theorem nfP.stay {x q:Str}{args:Arguments}{body:List Stmt}{scope:Scope}{cl:List (Str×Addr)}{a c:Addr}(h1 h2:Heap)(p:nfP x q args body scope cl a c h1)(k:∀ o,h1.get? a=some o->h2.get? a=some o):nfP x q args body scope cl a c h2:=by
 obtain⟨d,m,t,e⟩:=p
 exact⟨d,m,t,k _ e⟩
theorem ncP.stay {q:Str}{c:Addr}(h1 h2:Heap)(p:ncP q c h1)(k:∀ o,h1.get? c=some o->h2.get? c=some o):ncP q c h2:=by
 obtain⟨c',o,vs,t,e,g,r⟩:=p
 cases e
 exact⟨c,o,vs,t,rfl,k _ g,r⟩
theorem ncP.is {q:Str}{c:Addr}{h:Heap}(p:ncP q c h):∃ o,h.get? c=some o:=by
 obtain⟨c',o,vs,t,e,g,r⟩:=p
 cases e
 exact⟨o,g⟩
def tDef (x q:Str)(args:Arguments)(body:List Stmt)(scope:Scope)(cl:List (Str×Addr))(T:Addr)(pos:Pos)(j:Nat):TS:=fun D σ H=>TabOk H T pos q/\∀ a c H',H' a=some (.ext (nfP x q args body scope cl a c))->H' c=some (.ext (ncP q c))->H' T=some (.tbl (onePs pos c))->ExtT T H H'->H a=none->D.nx (σ.set j (some (.ref a))) H'
section
variable {X:Cx}{pins:List (Addr×Obj)}{σ:St}{H:Hp}{s:Shared}
theorem Inv.laidX {h':Heap}{t':Nat}{φ:Heap->Prop}{a:Addr}(I:Inv X pins σ H s)(k:∀ b u,s.heap.get? b=some u->h'.get? b=some u)(hp:s.heap.objs.size<=a)(p:φ h')(ho:∃ o,h'.get? a=some o)(st:∀ h1 h2:Heap,φ h1->(∀ o,h1.get? a=some o->h2.get? a=some o)->φ h2):Inv X pins σ (upd H a (.ext φ)) { s with heap:=h',toks:=t'} :=
 I.laid k hp ⟨p,ho,st⟩
theorem Inv.grown {h':Heap}{t':Nat}{T c:Addr}{ps more:Array Value}{φ:Heap->Prop}(I:Inv X pins σ H s)(hT:H T=some (.tbl ps))(k:Heap.ExtBut T s.heap h')(e:h'.get? T=some { cls:= .none,data:= .fields (ps++more)})
  (hc:s.heap.objs.size<=c) (p:φ h') (ho:∃ o,h'.get? c=some o) (st:∀ h1 h2:Heap,φ h1->(∀ o,h1.get? c=some o->h2.get? c=some o)->φ h2):Inv X pins σ (upd (upd H T (.tbl (ps++more))) c (.ext φ)) { s with heap:=h',toks:=t'} :=by
 have hcn:H c=none:=I.hok.fresh hc
 have nT:∀ {b:Addr},H b=none->b≠T:=fun n z=>by rw[z,hT] at n; cases n
 have cT:T≠c:=fun z=>by rw[z,hcn] at hT; cases hT
 have nc:∀ {b:Addr}{o:Obj},s.heap.get? b=some o->b≠c:=fun q z=>absurd (ay q) (by rw[z]; exact g7.mpr hc)
 have mc:∀ {b:Addr}{o:HO},H b=some o->b≠c:=fun q=>jC q hcn
 refine I.un ⟨fun b o q n _ _=>k b o (nT n) q,fun b o q n _ _=>⟨o.slots,k b o (nT n) q⟩,fun b o q n _=>by rw[j8 (nc q),j8 (nT n)]; exact n,fun b o q _=>?_,fun b xs q=>?_,fun b o u q=>?_,fun b qs q=>?_⟩ fun b o q=>?_
 ·by_cases hb:b=T
  ·rw[hb]; exact⟨_,e⟩
  ·exact⟨o,k b o hb q⟩
 ·rw[j8 (mc q),j8 (fun z=>by rw[z,hT] at q; cases q)]; exact q
 ·rw[j8 (mc q),j8 (fun z=>by rw[z,hT] at q; cases q)]; exact q
 ·by_cases hb:b=T
  ·subst hb
   rw[hT] at q
   cases q
   exact⟨more,by rw[j8 cT,j9]⟩
  ·exact⟨#[],by rw[j8 (mc q),j8 hb,q]; simp⟩
 ·by_cases hb1:b=c
  ·subst hb1
   rw[j9] at q
   cases q
   exact⟨p,ho,st⟩
  rw[j8 hb1] at q
  by_cases hb:b=T
  ·subst hb
   rw[j9] at q
   cases q
   exact e
  ·rw[j8 hb] at q
   refine(I.hok b o q).stay (fun d u hd z=>k d u ?_ z) (fun d z=>?_) fun d xs z=>?_
   ·rcases hd with rfl | hd
    ·exact hb
    ·exact fun y=>by rw[y,hT] at hd; cases hd
   ·rw[j8 (mc z),j8 (fun y=>by rw[y,hT] at z; cases z)]; exact z
   ·rw[j8 (mc z),j8 (fun y=>by rw[y,hT] at z; cases z)]; exact z
theorem jRX {x:Str}{args:Arguments}{body:List Stmt}{scope:Scope}{pos:Pos}{c0 T:Addr}{j:Nat}(hN:X.N.Nodup)(hj:X.N[j]?=some x)(lx:Loc X.env.scope x)(hcode:X.env.code= .ref c0)(CH:PySem.W.CodeHd X.base c0 T)(hbm:BltAt X.base X.mg)
  (hfree:∀ y∈scope.names,y.2= .free->X.env.scope.names.lookup y.1=some .cell\/X.env.scope.names.lookup y.1=some .free) (hdf:defaultsOf args X.env=([],[])) (han:annTrees args none X.env=[])
  (hf:X.fn x=true\/X.env.scope.names.lookup x=some .local:=by first | exact .inl rfl | exact .inr rfl | assumption):
  PS X (.FunctionDef x args body [] none [] scope none x pos) (tDef x (qualnameIn X.env x x) args body scope (jH X.env.cells scope.names []) T pos j):=by
 intro pins s σ H D I h
 obtain⟨tab,h⟩:=h
 rw[exec_def,hdf,han]
 refine aa (eS (aa (bI ?_)))
 refine aa (ag (aa (bI (ag (bI (aa (ag ?_)))))))
 have hcl:closureFor scope X.env=pure (jH X.env.cells scope.names []):=jGW fun y hy hz=>I.ok.has y.1 (hfree y hy hz)
 have hg:s.heap.Ns mainGlobals X.mg:=I.mod.glob.keeps I.bk
 have C:=CH.keeps I.bk
 have gT:∀ {ps:Array Value},H T=some (.tbl ps)->mainGlobals≠T:=fun hT z=>by
  obtain⟨o,es,ep,e,_⟩:=I.mod.glob
  have:=(I.bs _ _ e).2
  rw[z,hT] at this
  cases this
 have bT:∀ {ps:Array Value},H T=some (.tbl ps)->s.heap.BuiltinsAt X.mg T:=fun hT=>by
  obtain⟨bm,o,h1,h2,h3,h4,h5,h6,h7⟩:=hbm
  refine⟨bm,o,h1,h2,h3,fun z=>?_,(I.bs _ _ h4).1,h5,h6,h7⟩
  have:=(I.bs _ _ h4).2
  rw[z,hT] at this
  cases this
 rcases tab with hT | ⟨c,hT,hc⟩
 ·refine PySem.W.makeFunction_K hcl I.ok.glob hg hcode C (I.hok T _ hT) trivial rfl (gT hT) (bT hT) fun c ctv doc h' tk k1 k2 k3 k4 k5=>?_
  obtain⟨oc,hoc⟩:=ncP.is (q:=qualnameIn X.env x x) k4
  have I1:Inv X pins σ (upd (upd H T (.tbl (#[]++onePs pos c))) c (.ext (ncP (qualnameIn X.env x x) c))) { s with heap:=h',toks:=tk} :=I.grown hT k1 k5 k2 k4 ⟨oc,hoc⟩ ncP.stay
  have I2:=I1.laidX (t':=tk) (a:=h'.objs.size) (φ:=nfP x (qualnameIn X.env x x) args body scope (jH X.env.cells scope.names []) h'.objs.size c) (h':=h'.push (fnMade x (qualnameIn X.env x x) args body scope (jH X.env.cells scope.names []) doc ((X.mg "__name__").getD .none) c ctv)) (fun b u q=>ae _ q) (aE _) ⟨doc,_,ctv,aA _ rfl⟩ ⟨_,aA _ rfl⟩ nfP.stay
  have hcn:H c=none:=I.hok.fresh k2
  have han:H h'.objs.size=none:=I.hok.fresh (bA k2 (cM k3))
  have ca:c≠h'.objs.size:=aV k3
  have Tc:T≠c:=fun z=>by rw[z,hcn] at hT; cases hT
  have Ta:T≠h'.objs.size:=fun z=>by rw[z,han] at hT; cases hT
  refine aa (eS (aa (wpAny_bindName (jAX (v:= .ref h'.objs.size) I2 hN hj lx rfl (fun s' I'=>ag ⟨_,_,I',?_⟩) hf))))
  refine h _ c _ j9 (by rw[j8 ca,j9]) (by rw[j8 Ta,j8 Tc,j9,kf]) (fun b o e n=>?_) han
  rw[j8 (jC e han),j8 (jC e hcn),j8 n]
  exact e
 ·refine PySem.W.makeFunction_hit (cv:= .ref c) hcl I.ok.glob hg hcode C (I.hok T _ hT) (by exact trivial) (by simp [codeAmong,rawInt]) (bT hT) fun ctv doc h' tk k1 k2=>?_
  have I2:=I.laidX (t':=tk) (a:=h'.objs.size) (φ:=nfP x (qualnameIn X.env x x) args body scope (jH X.env.cells scope.names []) h'.objs.size c) (h':=h'.push (fnMade x (qualnameIn X.env x x) args body scope (jH X.env.cells scope.names []) doc ((X.mg "__name__").getD .none) c ctv)) (fun b u q=>ae _ (k1 b u q)) k2 ⟨doc,_,ctv,aA _ rfl⟩ ⟨_,aA _ rfl⟩ nfP.stay
  have han:H h'.objs.size=none:=I.hok.fresh k2
  refine aa (eS (aa (wpAny_bindName (jAX (v:= .ref h'.objs.size) I2 hN hj lx rfl (fun s' I'=>ag ⟨_,_,I',?_⟩) hf))))
  refine h _ c _ j9 (by rw[j8 (jC hc han)]; exact hc) (by rw[j8 (jC hT han)]; exact hT) (fun b o e n=>?_) han
  rw[j8 (jC e han)]
  exact e
end
theorem jFI {β:Type}{x:Str} :∀ {l:List (Str×β)},(∀ v,(x,v)∉l)->l.lookup x=none
 | [],_=>rfl
 | (y,v)::r,h=>by
  rw[bz,cR.mpr (fun e=>h v (by rw[e]; exact ak))]
  exact jFI fun w hw=>h w (ai _ hw)
theorem jBY {β:Type}{x:Str} :∀ {l m:List (Str×β)},(l++m).lookup x=(l.lookup x).or (m.lookup x)
 | [],_=>rfl
 | (y,v)::r,m=>by
  rw[List.cons_append,bz,bz,jBY]
  cases x==y <;> rfl
theorem jDJ:∀ {ps:List Str}{us:List Value}{i:Nat}{x:Str}{u:Value},ps.Nodup->ps[i]?=some x->us[i]?=some u->(ps.zip us).reverse.lookup x=some u
 | [],_,_,_,_,_,h,_=>by simp at h
 | _::_,[],_,_,_,_,_,h=>by simp at h
 | p::ps,w::us,0,x,u,nd,h1,h2=>by
  simp at h1 h2
  subst h1 h2
  rw[eF,List.reverse_cons,jBY,jFI fun v hv=>(bK.mp nd).1 (dJ (List.mem_reverse.mp hv)).1,bz,beq_self_eq_true]
  rfl
 | p::ps,w::us,i+1,x,u,nd,h1,h2=>by
  rw[eF,List.reverse_cons,jBY,jDJ (i:=i) (bK.mp nd).2 (by simpa using h1) (by simpa using h2)]
  rfl
noncomputable def cxN (P:Program)(w:World)(K:W.Frag)(mg:Str->Option Value)(base:Heap)(N:List Str)(qual:Str)(scope:Scope)(f:Addr)(cd:Value)(cl:List (Str×Addr))(A:Around)(outer:List Env)(s:Shared)(H:Hp):Cx where
 prog:=P
 w:=w
 K:=K
 mg:=mg
 base:=base
 A:=A.deeper (envX qual scope s.heap.objs.size f cd cl)
 N:=N
 s₀:=s
 H₀:=H
 env:=envX qual scope s.heap.objs.size f cd cl
 outer:=outer
 stack:=envX qual scope s.heap.objs.size f cd cl::outer
 ex:=[]
 calm:=true
 fn:=fun _=>false
 pn:=[]
 xe:=fun _ _=>False
structure ClOk (cl:List (Str×Addr))(s:Shared)(H:Hp):Prop where
 inj:∀ x y c,cl.lookup x=some c->cl.lookup y=some c->x=y
 cell:∀ x c,cl.lookup x=some c->(∃ v,s.heap.IsCell c v)/\H c=none
def FvOk (fs:List Str)(fv:List V)(cl:List (Str×Addr))(s:Shared):Prop:=fv.length=fs.length/\∀ (i:Nat) (x:Str) (v:V),fs[i]?=some x->fv[i]?=some v->∃ c u,cl.lookup x=some c/\RelV v u/\s.heap.IsCell c (some u)
structure NScope (N ps fs:List Str)(sc:Scope):Prop where
 kind:sc.kind= .function
 co:sc.isCoroutine=false
 gen:sc.isGenerator=false
 nd:N.Nodup
 pre:N.take (ps.length+fs.length)=ps++fs
 par:∀ x∈ps,sc.names.lookup x=some .local
 fre:∀ x∈fs,sc.names.lookup x=some .free
 all:∀ x,sc.names.lookup x=some .free->x∈fs
 nocell:∀ y∈sc.names,y.2≠ .cell
def jB4 (N:List Str)(vs fv:List V):St:=y0 N (vs++fv)
section
variable {P:Program}{w:World}{K:W.Frag}{mg:Str->Option Value}{base:Heap}{N ps fs:List Str}{qual:Str}{scope:Scope}{f:Addr}{cd:Value}{cl:List (Str×Addr)}{A:Around}{outer:List Env}{s:Shared}{H:Hp}{us:List Value}{vs fv:List V}
theorem jDQ {h1:Heap}{tk:Nat}(S:NScope N ps fs scope)(hd:A.handled=none)(e0:Env0 P w K mg base A outer s H)(hl:us.length=ps.length)(r:Vals vs us)(C:ClOk cl s H)(Fv:FvOk fs fv cl s)
  (ns:h1.Ns s.heap.objs.size fun x=>(ps.zip us).reverse.lookup x) (hk:∀ b o,s.heap.get? b=some o->h1.get? b=some o):
  Inv (cxN P w K mg base N qual scope f cd cl A outer s H) [] (jB4 N vs fv) H { s with heap:=h1,toks:=tk} :=by
 have hpl:ps.length+fs.length<=N.length:=by have:=bR List.length S.pre; rw[bP,aK] at this; omega
 have noA:∀ b:Addr,b∉(cxN P w K mg base N qual scope f cd cl A outer s H).ex:=fun b z=>absurd (show b∈([]:List Addr) from z) (by simp)
 have vl:vs.length=ps.length:=r.length.trans hl
 refine⟨⟨e0.mod,S.kind,rfl,rfl,aE _,C.inj,fun y hy=>?_,fun y c z=>(nomatch z),fun _=>hd,Around.frames_deeper e0.frames, .inr ⟨rfl,rfl⟩,fun b z=>absurd z (noA b),e0.bs,e0.bsz,fun b _ _=>noA b,fun b z=>absurd z (noA b),e0.funs,e0.frf⟩,
  rfl,e0.bare,Un.kept hk,⟨_,ns,fun i y v h1' h2 h3=>?_⟩,fun y c h=>?_,e0.hok.fresh (aE _),fun y c h=>(C.cell y c h).2,fun p hp=>absurd (show p∈([]:List (Addr×Obj)) from hp) (by simp),e0.hok.kept hk,?_⟩
 ·have hy:scope.names.lookup y=some .cell\/scope.names.lookup y=some .free:=hy
  rcases hy with hy | hy
  ·exact absurd rfl (S.nocell _ (cA hy))
  ·have m:=S.all y hy
   obtain⟨i,hi⟩:=bH m
   have hi2:i<fv.length:=by rw[Fv.1]; exact(ar.mp hi).1
   obtain⟨c,u,e,_⟩:=Fv.2 i y fv[i] hi (by simp [hi2])
   exact⟨c,e⟩
 ·have h1':N[i]?=some y:=h1'
  have hlen:(vs++fv).length=ps.length+fs.length:=by rw[aK,vl,Fv.1]
  have hi:i<(vs++fv).length:=by
   unfold jB4 y0 at h2
   by_cases hi:i<(vs++fv).length
   ·exact hi
   ·rw[bb (by simpa using hi)] at h2
    rw[iJ] at h2
    split at h2 <;> cases h2
  have hv:(vs++fv)[i]?=some v:=by
   unfold jB4 y0 at h2
   rw[bO (by simpa using hi),aP] at h2
   cases e:(vs++fv)[i]? with
   | none=>rw[e] at h2; cases h2
   | some a=>rw[e] at h2; cases h2; rfl
  have hy:(ps++fs)[i]?=some y:=by
   rw[<- S.pre,cc (by omega)]
   exact h1'
  by_cases hi1:i<ps.length
  ·rw[bO hi1] at hy
   rw[bO (by omega)] at hv
   obtain⟨u,hu,rv⟩:=r.get hv
   have ndP:ps.Nodup:=by
    have:(ps++fs).Nodup:=by rw[<- S.pre]; exact S.nd.sublist (eV _ _)
    exact(iu.mp this).1
   exact⟨u,rv, .inl ⟨S.par y (aN hy),jDJ ndP hy hu⟩⟩
  ·rw[bb (by omega)] at hy
   rw[bb (by omega),vl] at hv
   obtain⟨c,u,e,rv,o,ho,hd⟩:=Fv.2 _ y v hy hv
   exact⟨u,rv, .inr ⟨.inr (S.fre y (aN hy)),c,e,o,hk _ _ ho,hd⟩⟩
 ·obtain⟨⟨v,o,ho,hd⟩,_⟩:=C.cell y c h
  exact⟨v,o,hk _ _ ho,hd⟩
 ·unfold jB4 y0
  show _=N.length
  rw[aK,ah,dF,aK,vl,Fv.1]
  omega
end
structure FnN (P:Program)(w:World)(K:W.Frag)(mg:Str->Option Value)(base:Heap)(k:Nat)(x q:Str)(args:Arguments)(body:List Stmt)(scope:Scope)(ps fs:List Str)(sp:List V->Sp):Prop where
 len:∀ fv vs H Q E,sp fv vs H Q E->vs.length=ps.length
 run:∀ (A:Around) (outer:List Env) (s:Shared) (H:Hp) (a c:Addr) (cl:List (Str×Addr)) (us:List Value) (vs fv:List V) (Q:VK) (E:XK),Room k A->Env0 P w K mg base A outer s H->nfP x q args body scope cl a c s.heap->ncP q c s.heap->ClOk cl s H->FvOk fs fv cl s->Vals vs us->sp fv vs H Q E->
  codeAny (model P w) A (.call (.ref a) ⟨us,[]⟩) (CR CX0 outer P w H s Q E) s
theorem jT4 {P:Program}{w:World}{K:W.Frag}{mg:Str->Option Value}{base:Heap}{k:Nat}{x q:Str}{args:Arguments}{body:List Stmt}{scope:Scope}{N ps fs:List Str}{sp:List V->Sp}(S:NScope N ps fs scope)(len:∀ fv vs H Q E,sp fv vs H Q E->vs.length=ps.length)
  (hb:∀ cl doc pm c ctv (us:List Value),us.length=ps.length->bindArgs (PySem.W.fnX x q args body scope cl .none .none doc pm none (.ref c) ctv) ⟨us,[]⟩=pure (ps.zip us))
  (hbody:∀ (A:Around) (outer:List Env) (s:Shared) (H:Hp) (a c:Addr) (cl:List (Str×Addr)) (vs fv:List V) (Q:VK) (E:XK),Room k (A.deeper (envX q scope s.heap.objs.size a (.ref c) cl))->sp fv vs H Q E->
   ∃ t,PSs (cxN P w K mg base N q scope a (.ref c) cl A outer s H) body t/\t { nx:=fun _ H'=>Q .non H',rt:=Q} (jB4 N vs fv) H):
  FnN P w K mg base (k+1) x q args body scope ps fs sp:=by
 refine⟨len,fun A outer s H a c cl us vs fv Q E hr e0 hf hc C Fv r hsp=>?_⟩
 have hl:us.length=ps.length:=r.length.symm.trans (len _ _ _ _ _ hsp)
 obtain⟨doc,pm,ctv,ho⟩:=hf
 have lim:s.heap.NoLimit:=e0.mod.nolimit.keeps fun b o e=>(e0.bs b o e).1
 refine codeAny_call_def (body:=body) (binds:=ps.zip us) hr.depth ho rfl lim hc rfl (.of_eq (hb cl doc pm c ctv us hl)) S.nocell (fun y hy=>S.par y.1 (dJ hy).1) (fun h1 ns hk=>?_) S.co S.gen S.kind
 obtain⟨t,ht,hq⟩:=hbody A outer s H a c cl vs fv Q E (hr.deeper _) hsp
 have I:Inv (cxN P w K mg base N q scope a (.ref c) cl A outer s H) [] (jB4 N vs fv) H { s with heap:=h1,toks:=s.toks+(ps.zip us).length} :=jDQ S hr.hd e0 hl r C Fv ns hk
 refine bN (ht [] _ (jB4 N vs fv) H _ I hq) (fun fl s' hs=>?_) fun e s' hs=>False.elim hs
 have fin:∀ {σ':St}{H':Hp}{v:V}{u:Value},Inv (cxN P w K mg base N q scope a (.ref c) cl A outer s H) [] σ' H' s'->RelV v u->Q v H'->CE outer P w H s Q u s':=
  fun {σ' H' v u} J rv q=>⟨v,H',J.os,J.bare,J.base,J.hok,rv,q⟩
 cases fl with
 | ret u=>
  obtain⟨v,σ',H',J,rv,q⟩:=hs
  exact fin J rv q
 | next=>
  obtain⟨σ',H',J,q⟩:=hs
  exact fin (v:=V.non) (u:=Value.none) J rfl q
 | brk=>
  obtain⟨_,_,_,q⟩:=hs
  exact False.elim q
 | cont=>
  obtain⟨_,_,_,q⟩:=hs
  exact False.elim q
def jH9 (σ:St)(is:List Nat)(fv:List V):Prop:=is.map (fun i=>(σ[i]?).getD none)=fv.map some
section
variable {X:Cx}{pins:List (Addr×Obj)}{σ:St}{H:Hp}{s:Shared}{fs:List Str}{fv:List V}{is:List Nat}{scope:Scope}
def FsAt (X:Cx)(fs:List Str)(is:List Nat):Prop:=is.length=fs.length/\∀ (k:Nat) (x:Str),fs[k]?=some x->∃ i,is[k]?=some i/\X.N[i]?=some x/\(X.env.scope.names.lookup x=some .cell\/X.env.scope.names.lookup x=some .free)
theorem Inv.clOk (I:Inv X pins σ H s)(hfree:∀ y∈scope.names,y.2= .free->X.env.scope.names.lookup y.1=some .cell\/X.env.scope.names.lookup y.1=some .free):ClOk (jH X.env.cells scope.names []) s H:=by
 have sub:∀ x c,(jH X.env.cells scope.names []).lookup x=some c->X.env.cells.lookup x=some c:=jAI scope.names [] (fun y hy hf=>I.ok.has y.1 (hfree y hy hf)) (fun x c e=>by cases e)
 exact⟨fun x y c h1 h2=>I.ok.inj x y c (sub x c h1) (sub y c h2),fun x c h=>⟨I.cell x c (sub x c h),I.freeC x c (sub x c h)⟩⟩
theorem Inv.fvOk (I:Inv X pins σ H s)(hfree:∀ y∈scope.names,y.2= .free->X.env.scope.names.lookup y.1=some .cell\/X.env.scope.names.lookup y.1=some .free)(hfs:∀ x∈fs,scope.names.lookup x=some .free)(ha:FsAt X fs is)(hs:jH9 σ is fv):FvOk fs fv (jH X.env.cells scope.names []) s:=by
 have hl:fv.length=fs.length:=by
  have:=bR List.length hs
  rw[ah,ah] at this
  rw[<- this,ha.1]
 refine⟨hl,fun k x v h1 h2=>?_⟩
 obtain⟨i,hi,hN,hk⟩:=ha.2 k x h1
 have e:(σ[i]?).getD none=some v:=by
  have:=bR (fun l=>l[k]?) hs
  simp only [aP,hi,h2,Option.map_some] at this
  exact br this
 have e2:σ[i]?=some (some v):=by
  cases q:σ[i]? with
  | none=>rw[q] at e; cases e
  | some z=>rw[q] at e; exact bR some e
 obtain⟨m,hn,hl⟩:=I.loc
 obtain⟨u,r,l⟩:=hl i x v hN e2 (.inr hk)
 obtain⟨c,hc⟩:=jAJ (cells:=X.env.cells) (x:=x) scope.names [] (.inl (jAG (hfs x (aN h1))))
 have sub:=jAI (cells:=X.env.cells) scope.names [] (fun y hy hf=>I.ok.has y.1 (hfree y hy hf)) (fun x c e=>by cases e) x c hc
 rcases l with ⟨lk,_⟩ | ⟨_,c',hc',z⟩
 ·have lk':X.env.scope.names.lookup x=some .local:=lk
  rcases hk with z | z <;> rw[lk'] at z <;> cases z
 ·rw[sub] at hc'
  cases hc'
  exact⟨c,u,hc,r,z⟩
end
section
variable {X:Cx}{k:Nat}{x q:Str}{args:Arguments}{body:List Stmt}{scope:Scope}{ps fs:List Str}{is:List Nat}{sp:List V->Sp}{p pos:Pos}{e:Expr}{es:List Expr}{t:TA}{j:Nat}
end
section
variable {X:Cx}{tg iter elt:Expr}{ifs:List Expr}{sc:Scope}{pos:Pos}{wi:TI}{g:TG}{tt:TT}{te:St->TE}{m:List (Option Nat)}{Nc:List Str}
end
def jTC (Ts:List Addr)(H:Hp):Prop:=∀ b,H b=none\/(∃ o xs,H b=some (.frz o (.lst xs)))\/b∈Ts
theorem jIR {cts:List (Addr×Addr)}{P:Program}{w:World}{K:W.Frag}{mg mb:Str->Option Value}{CX:CXT}{k:Nat}{fa a:Addr}{fd:FuncData}{x:Str}{sp:Sp}{s₁:Shared}{vs:List Value}{ns:List Int}
  (KX:K.In s₁.heap) (hns:s₁.heap.Ns mainGlobals mg) (hb:s₁.heap.Ns builtinsNs mb) (hbb:∀ x:Str,x≠ "__name__" ->mb x=bootBuiltins x) (hlim:s₁.heap.NoLimit) (hg:s₁.gens=#[])
  (ha:s₁.heap.get? a=some { cls:= .type "list",data:= .seq vs.toArray}) (hi:IntsAre vs ns) (hl:ns.length<=sizeLine) (hr:Room k callerA) (hT:∀ T∈cts.map (·.2),s₁.heap.get? T=some (tabObj #[])) (CH:∀ p∈cts,PySem.W.CodeHd s₁.heap p.1 p.2) (hKT:∀ T∈cts.map (·.2),K.lookup T=none)
  (F:∀ base:Heap,K.In base->base.Ns mainGlobals mg->FnOk P w K mg base CX k fa fd [x] sp) (hbind:∀ (s:Shared) (u:Value),BindsTo s fd ⟨[u],[]⟩ [(x,u)])
  (hsp:∀ H:Hp,(∀ T∈cts.map (·.2),H T=some (.tbl #[]))->SqL K H a (ns.map V.int)->sp [.ref a] H (fun v _=>v= .bl true) fun _ _ _=>False)
  (hCX:∀ H e s',CX [] H s₁ (fun _ _ _=>False) e s'->False):
  codeAny (model P w) callerA (.call (.ref fa) ⟨[.ref a],[]⟩) (fun r s'=>r= .ok (.ret (.bool true))/\OldK s₁.heap s'.heap/\s'.os=s₁.os/\AllBare s'.gens) s₁:=by
 have rv:=jEY hi
 have lenV:=hi.length
 have core:∀ H:Hp,jTC (cts.map (·.2)) H->(∀ T∈cts.map (·.2),H T=some (.tbl #[]))->SqL K H a (ns.map V.int)->HOk P w H s₁.heap->(∀ b,H b≠none->b=a\/b∈cts.map (·.2))->(H a≠none->K.lookup a=none)->
   codeAny (model P w) callerA (.call (.ref fa) ⟨[.ref a],[]⟩) (fun r s'=>r= .ok (.ret (.bool true))/\OldK s₁.heap s'.heap/\s'.os=s₁.os/\AllBare s'.gens) s₁:=by
  intro H hO hHT hS hok hA hK
  have base_of:∀ {b:Addr}{o:Obj},s₁.heap.get? b=some o->H b=none->(hidT s₁.heap H).get? b=some o:=fun e n=>jNG e n
  have noA:∀ {b:Addr}{o:Obj}{es:Array DictEntry}{ep:Nat},s₁.heap.get? b=some o->o.data= .dict es ep->H b=none:=fun {b o es ep} e d=>by
   cases q:H b with
   | none=>rfl
   | some u=>
    rcases hA b (by rw[q]; simp) with e' | e'
    ·subst e'
     rw[ha] at e; cases e
     have d':Data.seq vs.toArray _=Data.dict es ep:=d
     cases d'
    ·rw[hT b e'] at e; cases e
     have d':Data.fields _=Data.dict es ep:=d
     cases d'
  have nsK:∀ {b:Addr}{m:Str->Option Value},s₁.heap.Ns b m->(hidT s₁.heap H).Ns b m:=fun {b m} ⟨o,es,ep,e,d,r⟩=>⟨o,es,ep,base_of e (noA e d),d,r⟩
  have hKb:K.In (hidT s₁.heap H):=fun b o e=>base_of (KX b o e) (by
   cases q:H b with
   | none=>rfl
   | some u=>
    rcases hA b (by rw[q]; simp) with e' | e'
    ·subst e'
     rw[hK (by rw[q]; simp)] at e; cases e
    ·rw[hKT b e'] at e; cases e)
  have hM:Mod K mg (hidT s₁.heap H):=⟨hKb,nsK hns,⟨mb,nsK hb,hbb⟩,let ⟨mc,h1,h2⟩:=hlim; ⟨mc,nsK h1,h2⟩⟩
  have e0:Env0 P w K mg (hidT s₁.heap H) callerA [] s₁ H:=⟨rfl,hM,fun b o e=>jQ7 e,Nat.le_of_eq (jLE _ _),trivial,fun b hb=>absurd (show b∈([]:List Addr) from hb) (by simp),hok, .of_eq hg⟩
  refine dv ((F _ hKb (nsK hns)).run callerA [] s₁ H ⟨[.ref a],[]⟩ [.ref a] [.ref a] _ _ hr e0 (hbind s₁ (.ref a)) (.cons rfl .nil) (hsp H hHT hS)) fun r s' h=>?_
  cases r with
  | error e=>exact(hCX H e s' h).elim
  | ok fl=>
   cases fl with
   | next=>exact False.elim h
   | brk=>exact False.elim h
   | cont=>exact False.elim h
   | ret u=>
    obtain⟨v,H',os,bare,un,hok',r',q⟩:=h
    have q':v= .bl true:=q
    subst q'
    obtain rfl:u=Value.bool true:=r'
    have gr:∀ T∈cts.map (·.2),∃ more,s'.heap.get? T=some (tabObj (#[]++more)):=fun T hTm=>by
     obtain⟨more,z⟩:=un.tbls T _ (hHT T hTm)
     exact⟨more,hok' T _ z⟩
    have kp:∀ b o,b∉cts.map (·.2)->s₁.heap.get? b=some o->s'.heap.get? b=some o:=fun b o hbT e=>?_
    ·refine⟨rfl,⟨fun b o e=>?_,fun b o e=>?_⟩,os,bare⟩
     ·by_cases hb:b∈cts.map (·.2)
      ·obtain⟨p,hp,rfl⟩:=bq.mp hb
       have q:=hT _ hb
       rw[q] at e
       cases e
       obtain⟨more,z⟩:=gr _ hb
       exact .inr (.inl ⟨((CH p hp).tab q).isCodeTable,rfl,#[],more,rfl,z⟩)
      ·exact .inl (kp b o hb e)
     ·by_cases hb:b∈cts.map (·.2)
      ·obtain⟨more,z⟩:=gr _ hb
       exact⟨_,z⟩
      ·exact⟨o,kp b o hb e⟩
    cases q:H b with
    | none=>exact un.keep b o e q (by intro z; exact absurd (show b∈([]:List Addr) from z) (by simp)) (by simp)
    | some u=>
     rcases hO b with z | ⟨ob,xs,z⟩ | z
     ·rw[q] at z; cases z
     ·have z2:=un.frzs b ob _ z
      obtain⟨e1,_⟩:=hok b _ z
      obtain⟨e2,_⟩:=hok' b _ z2
      rw[e] at e1; cases e1
      exact e2
     ·exact absurd z hbT
 have aT:a∉cts.map (·.2):=fun z=>by rw[hT a z] at ha; cases ha
 cases hk:K.lookup a with
 | some o=>
  have e:=KX a o hk
  rw[ha] at e
  cases e
  refine core (fun b=>if b∈cts.map (·.2) then some (.tbl #[]) else none) (fun b=>?_) (fun T hm=>aq hm) (.inr ⟨_,vs.toArray,_,hk,rfl,rfl,rfl,by rw[aI,lenV]; exact hl,by simpa using rv⟩) (fun b u z=>?_) (fun b z=>?_) fun z=>absurd (aj aT) z
  ·by_cases hb:b∈cts.map (·.2)
   ·exact .inr (.inr hb)
   ·exact .inl (aj hb)
  ·by_cases hb:b∈cts.map (·.2)
   ·have z':=(aq hb).symm.trans z
    cases z'
    exact hT b hb
   ·have z':=(aj hb).symm.trans z
    cases z'
  ·by_cases hb:b∈cts.map (·.2)
   ·exact .inr hb
   ·exact absurd (aj hb) z
 | none=>
  refine core (fun b=>if b∈cts.map (·.2) then some (.tbl #[]) else if b=a then some (.frz { cls:= .type "list",data:= .seq vs.toArray} (.lst (ns.map V.int))) else none) (fun b=>?_) (fun T hm=>aq hm) (.inl (.inr ⟨{ cls:= .type "list",data:= .seq vs.toArray},by dsimp only; rw[aj aT,aq rfl]⟩)) (fun b u z=>?_) (fun b z=>?_) fun _=>hk
  ·by_cases hT':b∈cts.map (·.2)
   ·exact .inr (.inr hT')
   ·by_cases hb:b=a
    ·exact .inr (.inl ⟨_,_,by dsimp only; rw[aj hT',aq hb]⟩)
    ·exact .inl (by dsimp only; rw[aj hT',aj hb])
  ·dsimp only at z
   by_cases hT':b∈cts.map (·.2)
   ·rw[aq hT'] at z
    cases z
    exact hT b hT'
   ·rw[aj hT'] at z
    by_cases hb:b=a
    ·rw[aq hb] at z
     cases z
     subst hb
     exact⟨ha,by rw[ah]; exact hl,vs,_,rv,ha⟩
    ·rw[aj hb] at z
     cases z
  ·replace z:(if b∈cts.map (·.2) then some (HO.tbl #[]) else if b=a then some (HO.frz { cls:= .type "list",data:= .seq vs.toArray} (.lst (ns.map V.int))) else none)≠none:=z
   by_cases hT':b∈cts.map (·.2)
   ·exact .inr hT'
   ·by_cases hb:b=a
    ·exact .inl hb
    ·rw[aj hT',aj hb] at z
     exact absurd rfl z
theorem walk_ofTs {cts:List (Addr×Addr)}{l:PySem.W.OpenLaw}{n k:Nat}{q:Program}{loose:List Str}{XP:(Str->Option Value)->Heap->Prop}{YP:World->Heap->Prop}{d:DefRec}{K:Params->W.Frag}{CX:World->CXT}{sp:World->Sp}{x:Str}
  (hn:l.most=some n) (hn2:n<=sizeLine) (hdf:d.params.defaults=[]) (hr:Room k callerA)
  (hY:∀ (w:World) (h:Heap),YP w h->(K w.params).In h/\∀ T∈cts.map (·.2),h.get? T=some (tabObj #[])) (hcd:∀ w:World,∀ p∈cts,codeHdIn (K w.params) p.1 p.2=true) (hKT:∀ w:World,∀ T∈cts.map (·.2),(K w.params).lookup T=none)
  (F:∀ (w:World) (mg:Str->Option Value) (fa:Addr) (h:Heap),(K w.params).In h->h.Ns mainGlobals mg->mg d.name=some (.ref fa)->
   ∃ fd:FuncData,(∀ (s:Shared) (u:Value),BindsTo s fd ⟨[u],[]⟩ [(x,u)])/\
    ∀ base:Heap,(K w.params).In base->base.Ns mainGlobals mg->FnOk l.prog w (K w.params) mg base (CX w) k fa fd [x] (sp w))
  (hsp:∀ (w:World) (H:Hp) (a:Addr) (ns:List Int),ns.length<=n->(∀ T∈cts.map (·.2),H T=some (.tbl #[]))->SqL (K w.params) H a (ns.map V.int)->sp w [.ref a] H (fun v _=>v= .bl true) fun _ _ _=>False)
  (hCX:∀ (w:World) (H:Hp) (s:Shared) (e:Value) (s':Shared),CX w [] H s (fun _ _ _=>False) e s'->False):
  PySem.W.WalkO q loose XP YP l.row.toRowW d [] (fun f vs=>PySem.call f vs):=by
 refine Att.attach_call hn hdf fun w s₀ s₁ mg mb fa o pm cd doc a vs ns G Y ho hd _ hmg hobj hints hlen hg=>?_
 obtain⟨KX,hT⟩:=hY w _ Y
 obtain⟨fd,hb,hF⟩:=F w mg fa _ KX G.T.g hmg
 exact jIR KX G.T.g G.T.b G.T.builtins G.T.nolimit hg hobj hints (bA hlen hn2) hr hT (fun p hp=>gO KX (hcd w p hp)) (hKT w) hF hb (fun H hO hS=>hsp w H a ns hlen hO hS) fun H e s'=>hCX w H s₁ e s'
open PySem.AutoSeq1 (wpAny_loadPart')
section
variable {prog:Program}{w:World}{A:Around}{E:Value->Shared->Prop}{s:Shared}
theorem jNM {tp:Bool}{e it l:Addr}{i:Nat}{xs:Array Value}{x old:Value}{Q:Value->Shared->Prop}(ee:IsEnum s.heap e it i old)(g1:ItAt tp s.heap it l i)(o1:ObAt tp s.heap l xs)(hx:xs[i]?=some x)(ne:e≠it)
  (k:∀ h',IsEnumOut h' e it ((i:Int)+1) x s.heap.objs.size->ItAt tp h' it l (i+1)->h'.get? s.heap.objs.size=some { cls:= .type "tuple",data:= .seq #[.int i s.toks,x]} ->h'.objs.size=s.heap.objs.size+1->
   (∀ c o,c≠e->c≠it->s.heap.get? c=some o->h'.get? c=some o)->Q (.ref s.heap.objs.size) { s with heap:=h',toks:=s.toks+1}):
  wpAny (model prog w) A (Builtin.«enumerate.__next__» ⟨[.ref e],[]⟩) (fun fin s'=>∃ v,fin= .done (.ret v)/\Q v s') E s:=by
 obtain⟨hp,g,d,tk,os⟩:=s
 show wpAny (model prog w) A (field (.ref e) 2 >>= _) _ _ _
 refine aa (bL ee rfl (x:= .ref it) rfl (aa (next1 g1 o1 hx fun p1 r1 q1=>?_)))
 have q1:Heap.SameBut it hp p1:=q1
 have e1:IsEnum p1 e it i old:=(q1.2 e ne).trans ee
 show wpAny (model prog w) A (field (.ref e) 3 >>= _) _ _ ⟨p1,g,d,tk,os⟩
 refine aa (bL e1 rfl (x:=rawInt i) rfl (?_:wpAny (model prog w) A (field (.ref e) 4 >>= _) _ _ ⟨p1,g,d,tk,os⟩))
 refine aa (bL e1 rfl (x:= .none) rfl (?_:wpAny (model prog w) A (mkInt i >>= _) _ _ ⟨p1,g,d,tk,os⟩))
 refine aa (wpAny_mkInt (?_:wpAny (model prog w) A (setField (.ref e) 3 (rawInt ((i:Int)+1)) >>= _) _ _ ⟨p1,g,d,tk+1,os⟩))
 refine aa (bE e1 (by simp) fun p2 e2 q2=>?_)
 have q2:Heap.SameBut e p1 p2:=q2
 have e2:IsEnum p2 e it ((i:Int)+1) old:=e2
 show wpAny (model prog w) A (setField (.ref e) 4 .none >>= _) _ _ ⟨p2,g,d,tk+1,os⟩
 refine aa (bE e2 (by simp) fun p3 e3 q3=>?_)
 have q3:Heap.SameBut e p2 p3:=q3
 have e3:IsEnum p3 e it ((i:Int)+1) old:=e3
 show wpAny (model prog w) A (newTuple [.int i tk,x] >>= _) _ _ ⟨p3,g,d,tk+1,os⟩
 refine aa (ji ?_)
 have e4:IsEnum (p3.push { cls:= .type "tuple",data:= .seq #[.int i tk,x]}) e it ((i:Int)+1) old:=ae _ e3
 have sz:p3.objs.size=hp.objs.size:=by rw[q3.1,q2.1,q1.1]
 have lt:e<hp.objs.size:=ay ee
 have t4:(p3.push { cls:= .type "tuple",data:= .seq #[.int i tk,x]}).get? hp.objs.size=some { cls:= .type "tuple",data:= .seq #[.int i tk,x]} :=by rw[<- sz]; exact aA _ rfl
 have z4:(p3.push { cls:= .type "tuple",data:= .seq #[.int i tk,x]}).objs.size=hp.objs.size+1:=by rw[bS,sz]
 have k4:∀ c o,c≠e->c≠it->hp.get? c=some o->(p3.push { cls:= .type "tuple",data:= .seq #[.int i tk,x]}).get? c=some o:=fun c o n1 n2 v=>ae _ (q3.extBut c o n1 (q2.extBut c o n1 (q1.extBut c o n2 v)))
 have r4:ItAt tp (p3.push { cls:= .type "tuple",data:= .seq #[.int i tk,x]}) it l (i+1):=((r1.but q2.extBut ne.symm).but q3.extBut ne.symm).at fun o v=>ae _ v
 generalize p3.push { cls:= .type "tuple",data:= .seq #[.int i tk,x]} =p4 at e4 t4 z4 k4 r4 ⊢
 show wpAny (model prog w) A (Builtin.SmallTypes.ownedTupleIsFree (.ref e) >>= _) _ _ ⟨p4,g,d,tk+1,os⟩
 rw[sz]
 refine aa (by
  unfold Builtin.SmallTypes.ownedTupleIsFree
  refine aa (bL e4 rfl (x:= .none) rfl (ag ?_))
  simp only [iq]
  refine aa (ck (aa (bL e4 rfl (x:=old) rfl (aa (bE e4 (by simp) fun p5 e5 q5=>?_)))))
  have q5:Heap.SameBut e p4 p5:=q5
  have e5:IsEnum p5 e it ((i:Int)+1) x:=e5
  refine aa (m:=Builtin.SmallTypes.ownedTupleHandOut (.ref e) (.ref hp.objs.size)) ?_
  unfold Builtin.SmallTypes.ownedTupleHandOut
  refine aa (bE e5 (by simp) fun p6 e6 q6=>?_)
  have q6:Heap.SameBut e p5 p6:=q6
  have e6:IsEnumOut p6 e it ((i:Int)+1) x hp.objs.size:=e6
  refine bE e6 (by simp) fun p7 e7 q7=>?_
  have q7:Heap.SameBut e p6 p7:=q7
  have e7:IsEnumOut p7 e it ((i:Int)+1) x hp.objs.size:=e7
  have up:∀ c o,c≠e->p4.get? c=some o->p7.get? c=some o:=fun c o n v=>q7.extBut _ _ n (q6.extBut _ _ n (q5.extBut _ _ n v))
  exact aa (fb (ag ⟨_,rfl,k p7 e7 (r4.at fun o v=>up _ o ne.symm v) (up _ _ (cN lt) t4) (by rw[q7.1,q6.1,q5.1,z4]) fun c o n1 n2 v=>up c o n1 (k4 c o n1 n2 v)⟩)))
theorem jIH {tp:Bool}{e it l:Addr}{i:Nat}{xs:Array Value}{x old:Value}{Q:Option Value->Shared->Prop}(ee:IsEnum s.heap e it i old)(g1:ItAt tp s.heap it l i)(o1:ObAt tp s.heap l xs)(hx:xs[i]?=some x)(ne:e≠it)
  (k:∀ h',IsEnumOut h' e it ((i:Int)+1) x s.heap.objs.size->ItAt tp h' it l (i+1)->h'.get? s.heap.objs.size=some { cls:= .type "tuple",data:= .seq #[.int i s.toks,x]} ->h'.objs.size=s.heap.objs.size+1->
   (∀ c o,c≠e->c≠it->s.heap.get? c=some o->h'.get? c=some o)->Q (some (.ref s.heap.objs.size)) { s with heap:=h',toks:=s.toks+1}):
  wpAny (model prog w) A (pyNext (.ref e)) Q E s:=by
 have ty:s.TypeIs (.ref e) "enumerate" :=⟨_,ee,rfl⟩
 unfold pyNext
 exact aa (df (bY (name:=Str.ofString "__next__") ty F.slot_enumerate_next (bQ F.slot_enumerate_next ty F.entry_enumerate_next (jNM ee g1 o1 hx ne fun h' b1 b2 b3 b4 b5=>ag (k h' b1 b2 b3 b4 b5)) (F.args_enumerate_next_1 _))))
theorem jII {tp:Bool}{e it l:Addr}{i:Nat}{xs:Array Value}{old:Value}{Q:Option Value->Shared->Prop}(hh:A.handled=none)(ee:IsEnum s.heap e it i old)(g1:ItAt tp s.heap it l i)(o1:ObAt tp s.heap l xs)(hx:xs[i]?=none)
  (k:∀ h',(∀ c o,c≠e->c≠it->s.heap.get? c=some o->h'.get? c=some o)->Q none { s with heap:=h'}):wpAny (model prog w) A (pyNext (.ref e)) Q E s:=by
 have ty:s.TypeIs (.ref e) "enumerate" :=⟨_,ee,rfl⟩
 unfold pyNext
 refine aa (df (bY (name:=Str.ofString "__next__") ty F.slot_enumerate_next (bQ F.slot_enumerate_next ty F.entry_enumerate_next (?_:wpAny (model prog w) _ (field (.ref e) 2 >>= _) _ _ _) (F.args_enumerate_next_1 _))))
 refine aa (bL ee rfl (x:= .ref it) rfl (aa (next0 hh g1 o1 hx fun h' x kp ⟨u,eu,cu⟩=>?_)))
 exact aa (gy (T:= "StopIteration") (b:=true) ⟨u,eu,cu⟩ jk (ag (k _ fun c o _ n v=>kp c o n v)))
end
set_option maxHeartbeats 2000000 in
theorem jKH (tp:Bool)(l:Addr)(xs:Array Value)(u:Obj):
  Meets (Builtin.«enumerate.__new__» ⟨[.type "enumerate", .ref l],[]⟩) (fun _ R s=>s.heap.get? l=some u/\ObAt tp s.heap l xs/\
   R (.ok (.ret (.ref (s.heap.push (yA tp l)).objs.size))) { s with heap:=(s.heap.push (yA tp l)).push { cls:= .type "enumerate",data:= .fields #[.none, .bool false, .ref s.heap.objs.size,rawInt 0, .none, .none]}}):=
 .of_wp fun prog w A R s h=>by
  obtain⟨hp,g,d,tk,os⟩:=s
  obtain⟨a0,a1,q⟩:=h
  have sub:=sub_enumerate
  have e1:ObAt tp (Shared.heap ⟨hp,g,d,tk,os⟩) l xs:=a1
  obtain⟨c,dct,dt,sl⟩:=u
  obtain⟨n,hc,hd⟩:∃ n,c=(if tp then .type "tuple" else .type "list")/\dt= .seq xs n:=by
   cases tp with
   | false=>obtain⟨o,e,hc,n,hd⟩:=a1; cases (a0.symm.trans e); exact⟨n,hc,hd⟩
   | true=>obtain⟨o,e,hc,n,hd⟩:=a1; cases (a0.symm.trans e); exact⟨n,hc,hd⟩
  subst hd
  cases tp with
  | false=>
   subst hc
   wp_walk using cq a0
   refine wpAny_stack_any fun _=>ag ?_
   split
   ·rename_i c _ _ _ _ _
    cases hcc:(c==Value.type "enumerate")
    all_goals (wp_walk using cq a0,jBW e1; exact⟨_,rfl,q⟩)
   ·wp_walk using cq a0,jBW e1
    exact⟨_,rfl,q⟩
  | true=>
   subst hc
   wp_walk using cq a0
   refine wpAny_stack_any fun _=>ag ?_
   split
   ·rename_i c _ _ _ _ _
    cases hcc:(c==Value.type "enumerate")
    all_goals (wp_walk using cq a0,jBW e1; exact⟨_,rfl,q⟩)
   ·wp_walk using cq a0,jBW e1
    exact⟨_,rfl,q⟩
theorem jNT {prog:Program}{w:World}{A:Around}{E:Value->Shared->Prop}{s:Shared}{tp:Bool}{l:Addr}{xs:Array Value}{Q:Value->Shared->Prop}(a1:ObAt tp s.heap l xs)
  (k:∀ h',IsEnum h' (s.heap.objs.size+1) s.heap.objs.size 0 .none->ItAt tp h' s.heap.objs.size l 0->(∀ c o,s.heap.get? c=some o->h'.get? c=some o)->Q (.ref (s.heap.objs.size+1)) { s with heap:=h'}):
  wpAny (model prog w) A (call (.type "enumerate") [.ref l]) Q E s:=by
 obtain⟨u,eu⟩:∃ u,s.heap.get? l=some u:=by
  cases tp with
  | false=>obtain⟨o,e,_⟩:=a1; exact⟨o,e⟩
  | true=>obtain⟨o,e,_⟩:=a1; exact⟨o,e⟩
 refine callType_new F.called_enumerate (by decide) (F.typeCall_enumerate_1 _) (F.newCall_enumerate_1 _) (fun obj=>F.args_object_init_2 obj _) F.entry_enumerate_new (jKH tp l xs u) ⟨eu,a1,?_⟩
 have z1:(s.heap.push (yA tp l)).objs.size=s.heap.objs.size+1:=bS ..
 have y2:IsEnum ((s.heap.push (yA tp l)).push { cls:= .type "enumerate",data:= .fields #[.none, .bool false, .ref s.heap.objs.size,rawInt 0, .none, .none]}) (s.heap.push (yA tp l)).objs.size s.heap.objs.size 0 .none:=aA _ rfl
 have y1:((s.heap.push (yA tp l)).push { cls:= .type "enumerate",data:= .fields #[.none, .bool false, .ref s.heap.objs.size,rawInt 0, .none, .none]}).get? s.heap.objs.size=some (yA tp l):=ae _ (aA _ (jC1 _ _))
 show _/\_
 rw[z1] at y2 ⊢
 exact⟨⟨_,y2,rfl⟩,k _ y2 (.new tp y1) fun c o e=>ae _ (ae _ e)⟩
section
variable {X:Cx}
def Ite (tp:Bool)(K:W.Frag)(l:Addr):It:=
 ⟨fun i H=>∃ xs x,Sq tp K H l xs/\xs[i]?=some x,
  fun i H v H'=>∃ T x,H T=none/\v= .ref T/\H'=upd H T (.tup [.int (i:Int),x])/\∀ xs,Sq tp K H l xs->xs[i]?=some x,
  fun i H=>∃ xs,Sq tp K H l xs/\xs.length<=i⟩
theorem jJ6 {P:Program}{w:World}{K:W.Frag}{elts:List Expr}{x1:Nat}{tps:Pos}(tp:Bool)(l e it:Addr)(ne:e≠it):
  Turn P w K (.Tuple elts x1 tps) (Ite tp K l) [e,it] e (fun i h=>(∃ old,IsEnum h e it ((i:Nat):Int) old)/\ItAt tp h it l i) where
 mem:=by simp
 obj:=fun i h st b hb=>by
  obtain⟨⟨old,he⟩,y1⟩:=st
  simp only [az,aW,cz] at hb
  rcases hb with rfl | rfl
  ·exact⟨_,he,fun v q=>by cases q⟩
  ·exact y1.obj
 keep:=fun i h h' st k=>by
  obtain⟨⟨old,he⟩,h1⟩:=st
  exact⟨⟨old,k e (by simp) _ he⟩,h1.at fun o z=>k it (by simp) o z⟩
 item:=by
  intro X hP hw hK hc i pins s σ H E I hf st hg
  subst hP hw hK
  obtain⟨xs,x,hq1,hx⟩:=hg
  obtain⟨⟨old,he⟩,h1⟩:=st
  obtain⟨its1,r1,p1,_⟩:=I.sq hq1
  obtain⟨u,hu,ru⟩:=r1.get hx
  refine jIH he h1 p1 (x:=u) (by simpa using hu) ne fun h' a1 a2 a3 a4 a5=>?_
  refine⟨_,rfl,wpAny_letOwnedTupleGo_enum (s:= { s with heap:=h',toks:=s.toks+1}) a1 fun h'' b1 sb=>?_⟩
  have fresh:H s.heap.objs.size=none:=I.fresh
  have ntr:∀ b o,H b=some o->b∉([e,it]:List Addr):=fun b o z hb=>by
   have:=(hf b hb).1
   rw[z] at this; cases this
  have kp:∀ b o,b∉([e,it]:List Addr)->s.heap.get? b=some o->h''.get? b=some o:=fun b o hb z=>by
   simp only [az,aW,cz,ko] at hb
   exact(sb.2 b hb.1).trans (a5 b o hb.1 hb.2 z)
  have nz:s.heap.objs.size≠e:=cN (ay he)
  have hT2:h''.get? s.heap.objs.size=some { cls:= .type "tuple",data:= .seq #[.int i s.toks,u]} :=(sb.2 _ nz).trans a3
  have I2:Inv X pins σ (upd H s.heap.objs.size (.tup [.int (i:Int),x])) { s with heap:=h'',toks:=s.toks+1} :=by
   refine I.step (g':=s.gens) (d':=s.drawn) (t':=s.toks+1) (ch:=[e,it]) (fun b hb=>?_) (fun b o _ _ hb z _=>kp b o hb z) (fun b o _ _ hb z _=>⟨o.slots,kp b o hb z⟩)
    (fun b o _ z n=>by rw[j8 (aV (ay z))]; exact n) (fun b o hb z=>⟨o,kp b o hb z⟩) (fun b ws z=>by rw[j8 (jC z fresh)]; exact z) (fun b o ws z=>by rw[j8 (jC z fresh)]; exact z)
    (fun b ps z=>⟨#[],by rw[j8 (jC z fresh),z]; simp⟩) (fun m hm=>?_) (fun b o z=>?_) I.bare
   ·obtain⟨f0,f1,f2,f3,f4,f5⟩:=hf b hb
    exact⟨f3,f1,f4,f5⟩
   ·obtain⟨o,es,ep,ho,r⟩:=hm
    exact⟨o,es,ep,kp _ o (fun hb=>(hf _ hb).2.1 rfl) ho,r⟩
   ·by_cases hb:b=s.heap.objs.size
    ·subst hb
     rw[j9] at z
     cases z
     exact⟨by rw[fN]; show 2<=_; decide,[.int i s.toks,u], .cons ⟨_,rfl⟩ (.cons ru .nil),0,hT2⟩
    ·rw[j8 hb] at z
     refine(I.hok b o z).stay (fun c w hc q=>kp c w ?_ q) (fun c q=>by rw[j8 (jC q fresh)]; exact q) (fun c ws q=>by rw[j8 (jC q fresh)]; exact q)
     rcases hc with rfl | hc
     ·exact ntr _ _ z
     ·exact ntr _ _ hc
  refine⟨.ref s.heap.objs.size,_,I2,rfl,⟨_,x,fresh,rfl,rfl,fun xs' q1=>by rw[I.sq_inj q1 hq1]; exact hx⟩,⟨⟨_,b1⟩,?_⟩,fun b hb=>?_⟩
  ·exact a2.at fun o z=>(sb.2 it ne.symm).trans z
  ·rw[j8 (fun q=>by
    obtain⟨o,eo⟩:∃ o,s.heap.get? b=some o:=by
     simp only [az,aW,cz] at hb
     rcases hb with rfl | rfl
     ·exact⟨_,he⟩
     ·obtain⟨o,z,_⟩:=h1.obj; exact⟨o,z⟩
    exact absurd (ay eo) (by rw[q]; exact cG _))]
   exact(hf b hb).1
 done:=by
  intro X hP hw hK hc i pins s σ H E I hf st hg
  subst hP hw hK
  obtain⟨xs,hq1,hend⟩:=hg
  obtain⟨⟨old,he⟩,h1⟩:=st
  obtain⟨its1,r1,p1,_⟩:=I.sq hq1
  have e1:=r1.length
  refine jII (I.ok.hd hc) he h1 p1 (by simp; omega) fun h' kp=>⟨rfl,?_⟩
  have kp2:∀ b o,b∉([e,it]:List Addr)->s.heap.get? b=some o->h'.get? b=some o:=fun b o hb z=>by
   simp only [az,aW,cz,ko] at hb
   exact kp b o hb.1 hb.2 z
  have ntr:∀ b o,H b=some o->b∉([e,it]:List Addr):=fun b o z hb=>by
   have:=(hf b hb).1
   rw[z] at this; cases this
  refine I.step (g':=s.gens) (d':=s.drawn) (t':=s.toks) (ch:=[e,it]) (fun b hb=>?_) (fun b o _ _ hb z _=>kp2 b o hb z) (fun b o _ _ hb z _=>⟨o.slots,kp2 b o hb z⟩)
   (fun b o _ z n=>n) (fun b o hb z=>⟨o,kp2 b o hb z⟩) (fun b ws z=>z) (fun b o ws z=>z) (fun b ps z=>⟨#[],by rw[z]; simp⟩) (fun m hm=>?_) (fun b o z=>?_) I.bare
  ·obtain⟨f0,f1,f2,f3,f4,f5⟩:=hf b hb
   exact⟨f3,f1,f4,f5⟩
  ·obtain⟨o,es,ep,ho,r⟩:=hm
   exact⟨o,es,ep,kp2 _ o (fun hb=>(hf _ hb).2.1 rfl) ho,r⟩
  ·refine(I.hok b o z).stay (fun c w hc q=>kp2 c w ?_ q) (fun _ q=>q) fun _ _ q=>q
   rcases hc with rfl | hc
   ·exact ntr _ _ z
   ·exact ntr _ _ hc
 self:=fun _ _ _ _ _ st h=>wpAny_pyIter_enum st.1.choose_spec h
def iEnum (K:W.Frag)(ta:TA):TI:=fun σ H R=>ta σ H fun vs H1=>∃ tp l,vs=[.ref l]/\(∃ xs,Sq tp K H1 l xs)/\R (Ite tp K l) H1
theorem jPO {a:Expr}{ta:TA}{p pos:Pos}{elts:List Expr}{x1:Nat}{tp:Pos}(hg:Gl X "enumerate")(hm:X.mg "enumerate" =none)(ha:PA X [a] ta)(hv:bootBuiltins "enumerate" =some (.type "enumerate"):=by decide+kernel)
  (he:starEach [a] X.env=(false,eval a X.env)::starEach [] X.env:=by rfl) (hpl:(backTo pos (starEach [] X.env)).any (·.1)=false:=by rfl):
  PI X (.Tuple elts x1 tp) (.Call (.Name "enumerate" p) [a] [] pos) (iEnum X.K ta):=by
 intro pins s σ H R I h
 refine Call_ (jD4 I hg hm hv (dr (thn (ha pos pins s σ H _ I h) fun us s1 ⟨vs,H1,I1,r1,q1⟩=>?_) he hpl))
 obtain⟨t1,l1,rfl,⟨xs,hq1⟩,q⟩:=q1
 obtain⟨u,rfl,ru⟩:=r1.one
 cases ru
 obtain⟨its1,_,p1,_⟩:=I1.sq hq1
 refine jNT p1 fun h' a1 a2 kp=>?_
 have I2:Inv X pins σ H1 { s1 with heap:=h'} :=I1.kept (t':=s1.toks) kp
 refine wpAny_pyIter_enum a1 ⟨s1.heap.objs.size+1,[s1.heap.objs.size+1,s1.heap.objs.size],_,Ite t1 X.K l1,H1,rfl,I2,jJ6 t1 l1 _ _ (Nat.succ_ne_self _),⟨⟨_,a1⟩,a2⟩,fun b hb=>?_,q⟩
 have hge:s1.heap.objs.size<=b:=by
  simp only [az,aW,cz] at hb
  rcases hb with rfl | rfl
  ·exact dZ _ 1
  ·exact aE _
 exact I1.fpOk hge (I1.hok.fresh hge)
theorem jGO {a:Expr}{t:TA}{p pos:Pos}{elts:List Expr}{x1:Nat}{tp:Pos}(hg:Gl1 X "enumerate")(hm:X.mg "enumerate" =none)(ha:JA X [a] t)(he:starEach [a] X.env=(false,eval a X.env)::starEach [] X.env)(hv:bootBuiltins "enumerate" =some (.type "enumerate"):=by decide+kernel)
  (hpl:(backTo pos (starEach [] X.env)).any (·.1)=false:=by rfl):JI X (.Tuple elts x1 tp) (.Call (.Name "enumerate" p) [a] [] pos) (iEnum X.K t):=⟨jPO hg.a hm ha.h hv he hpl⟩
end
section
variable {K:W.Frag}{m:List (Option Nat)}{g:TG}{tt:TT}{te:TE}{σ:St}{H1:Hp}{Q:VK}
end
section
variable {κ:Type} [DecidableEq κ]
def valV (kvs:List (κ×V))(k:κ):Option V:=(kvs.find? fun kv=>decide (kv.1=k)).map (·.2)
def putK (kvs:List (κ×V))(k:κ)(v:V):List (κ×V):=
 if (kvs.any fun kv=>decide (kv.1=k))=true then kvs.map (fun kv=>if kv.1=k then (kv.1,v) else kv) else kvs++[(k,v)]
theorem jAW {p:κ×V}{r:List (κ×V)}{k:κ}(e:p.1=k):valV (p::r) k=some p.2:=by simp [valV,eQ,e]
theorem jAK {p:κ×V}{r:List (κ×V)}{k:κ}(e:¬ p.1=k):valV (p::r) k=valV r k:=by simp [valV,eQ,e]
theorem jCF (k:κ):∀ kvs:List (κ×V),(kvs.any fun kv=>decide (kv.1=k))=(valV kvs k).isSome
 | []=>rfl
 | p::r=>by
  rw[gA]
  by_cases e:p.1=k
  ·simp only [jAW e,aO e,Bool.true_or,Option.isSome_some]
  ·rw[jAK e,aR e,Bool.false_or]; exact jCF k r
theorem jBA (kvs:List (κ×V))(k:κ)(v:V):(putK kvs k v).length<=kvs.length+1:=by
 unfold putK
 split
 ·rw[ah]; omega
 ·rw[aK,aG,cV]; omega
theorem jE2 {kvs:List (κ×V)}{k:κ}(v:V)(h:valV kvs k=none):putK kvs k v=kvs++[(k,v)]:=by
 unfold putK
 rw[jCF,h]
 exact aj (by decide)
theorem RelO.isSome_eq {o:Option V}{u:Option Value}(r:RelO o u):o.isSome=u.isSome:=by
 cases o with
 | none=>cases u with
  | none=>rfl
  | some _=>exact(show False from r).elim
 | some _=>cases u with
  | none=>exact(show False from r).elim
  | some _=>rfl
theorem RelO.getD {o:Option V}{u:Option Value}{d:V}{d':Value}(r:RelO o u)(rd:RelV d d'):RelV (o.getD d) (u.getD d'):=by
 cases o with
 | none=>cases u with
  | none=>exact rd
  | some _=>exact(show False from r).elim
 | some _=>cases u with
  | none=>exact(show False from r).elim
  | some _=>exact r
theorem KV.val {kvs:List (κ×V)}{vs:List (κ×Value)}(r:KV kvs vs)(k:κ):RelO (valV kvs k) (valueAt vs k):=by
 unfold KV at r
 induction r with
 | nil=>exact True.intro
 | @cons p q ps qs h t ih=>
  obtain⟨h1,h2⟩:=h
  by_cases e:p.1=k
  ·have e':q.1=k:=h1.symm.trans e
   have b:valueAt (q::qs) k=some q.2:=by simp [valueAt,eQ,e']
   rw[jAW e,b]; exact h2
  ·have e':¬ q.1=k:=fun z=>e (h1.trans z)
   have b:valueAt (q::qs) k=valueAt qs k:=by simp [valueAt,eQ,e']
   rw[jAK e,b]; exact ih
theorem KV.any {kvs:List (κ×V)}{vs:List (κ×Value)}(r:KV kvs vs)(k:κ):(kvs.any fun kv=>decide (kv.1=k))=vs.any fun kv=>decide (kv.1=k):=by
 unfold KV at r
 induction r with
 | nil=>rfl
 | cons h t ih=>rw[gA,gA,ih,h.1]
theorem KV.repl {kvs:List (κ×V)}{vs:List (κ×Value)}(r:KV kvs vs)(k:κ){y:V}{u:Value}(ry:RelV y u):
  KV (kvs.map fun kv=>if kv.1=k then (kv.1,y) else kv) (vs.map fun kv=>if kv.1=k then (kv.1,u) else kv):=by
 unfold KV at r ⊢
 induction r with
 | nil=>exact .nil
 | @cons p q ps qs h t ih=>
  rw[ba,ba]
  refine .cons ?_ ih
  obtain⟨h1,h2⟩:=h
  by_cases e:p.1=k
  ·rw[aq e,aq (h1.symm.trans e)]; exact⟨h1,ry⟩
  ·rw[aj e,aj (fun z=>e (h1.trans z))]; exact⟨h1,h2⟩
theorem KV.put {kvs:List (κ×V)}{vs:List (κ×Value)}(r:KV kvs vs)(k:κ){y:V}{u:Value}(ry:RelV y u):KV (putK kvs k y) (stored vs k u):=by
 unfold putK stored
 rw[r.any k]
 by_cases e:(vs.any fun kv=>decide (kv.1=k))=true
 ·rw[aq e,aq e]; exact r.repl k ry
 ·rw[aj e,aj e]; exact Paired.snoc r ⟨rfl,ry⟩
theorem KV.keys {kvs:List (κ×V)}{vs:List (κ×Value)}(r:KV kvs vs):kvs.map (·.1)=vs.map (·.1):=by
 unfold KV at r
 induction r with
 | nil=>rfl
 | cons h t ih=>rw[ba,ba,ih,h.1]
theorem KV.length {kvs:List (κ×V)}{vs:List (κ×Value)}(r:KV kvs vs):kvs.length=vs.length:=iA r
end
theorem kV_is {P:Program}{w:World}{k:Key}{u:Value}(r:RelV (kV k) u):(jK P w).is k u=true:=by
 cases k with
 | inl i=>obtain⟨t,e⟩:=(show ∃ t,u=Value.int i t from r); subst e; exact jGL P w i t
 | inr x=>obtain⟨t,e⟩:=(show ∃ t,u=Value.str x t from r); subst e; exact jGK P w x t
theorem jFP {P:Program}{w:World} :∀ {ks:List Key}{us:List Value},Vals (ks.map kV) us->ItemsAre (jK P w) ks us
 | [],_,r=>by rw[gQ] at r; cases r; exact .nil
 | k::ks,_,r=>by
  rw[ba] at r
  cases r with
  | cons h t=>exact .cons (kV_is h) (jFP t)
abbrev KT (H:Hp):List (List Key×V)->List (List Key×Addr×Value)->Prop:=Paired fun p q=>p.1=q.1/\H q.2.1=some (.tup (p.1.map kV))/\RelV p.2 q.2.2
theorem KT.val {H:Hp}{kvs:List (List Key×V)}{xs:List (List Key×Addr×Value)}(r:KT H kvs xs)(k:List Key):RelO (valV kvs k) ((atKey xs k).map (·.2)):=by
 induction r with
 | nil=>exact True.intro
 | @cons p q ps qs h t ih=>
  obtain⟨h1,_,h2⟩:=h
  by_cases e:p.1=k
  ·have e':q.1=k:=h1.symm.trans e
   have b:atKey (q::qs) k=some q.2:=by simp [atKey,eQ,e']
   rw[jAW e,b]; exact h2
  ·have e':¬ q.1=k:=fun z=>e (h1.trans z)
   have b:atKey (q::qs) k=atKey qs k:=by simp [atKey,eQ,e']
   rw[jAK e,b]; exact ih
theorem KT.repl {H:Hp}{kvs:List (List Key×V)}{xs:List (List Key×Addr×Value)}(r:KT H kvs xs)(k:List Key){y:V}{u:Value}(ry:RelV y u):
  KT H (kvs.map fun kv=>if kv.1=k then (kv.1,y) else kv) (xs.map (putAt k u)):=by
 induction r with
 | nil=>exact .nil
 | @cons p q ps qs h t ih=>
  rw[ba,ba]
  refine .cons ?_ ih
  obtain⟨h1,h2,h3⟩:=h
  unfold putAt
  by_cases e:p.1=k
  ·rw[aq e,aq (h1.symm.trans e)]; exact⟨h1,h2,ry⟩
  ·rw[aj e,aj (fun z=>e (h1.trans z))]; exact⟨h1,h2,h3⟩
theorem KT.put {H:Hp}{kvs:List (List Key×V)}{xs:List (List Key×Addr×Value)}(r:KT H kvs xs)(k:List Key){b:Addr}{y:V}{u:Value}(hb:H b=some (.tup (k.map kV)))(ry:RelV y u):
  KT H (putK kvs k y) (storedH xs k b u):=by
 have e:(kvs.any fun kv=>decide (kv.1=k))=(atKey xs k).isSome:=by
  rw[jCF,(r.val k).isSome_eq,isSome_map]
 unfold putK storedH
 rw[e]
 by_cases q:(atKey xs k).isSome=true
 ·rw[aq q,aq q]; exact r.repl k ry
 ·rw[aj q,aj q]; exact Paired.snoc r ⟨rfl,hb,ry⟩
theorem KT.keeps {H H':Hp}{kvs:List (List Key×V)}{xs:List (List Key×Addr×Value)}(r:KT H kvs xs)(ht:∀ b ys,H b=some (.tup ys)->H' b=some (.tup ys)):KT H' kvs xs:=
 Paired.mapP r fun _ _ z=>⟨z.1,ht _ _ z.2.1,z.2.2⟩
section
variable {P:Program}{w:World}{H:Hp}{h:Heap}{a:Addr}
theorem rd_of {u:HO}(ok:HOk P w H h)(e:Rd H a u):ObjOk P w H h a u:=e.ok ok
theorem dk_rd {kvs:List (Key×V)}(ok:HOk P w H h)(e:Rd H a (.dK kvs)):kvs.length<=sizeLine/\(a==sysModules)=false/\∃ vs,KV kvs vs/\h.DictOf (jK P w) a vs:=
 show ObjOk P w H h a (.dK kvs) from rd_of ok e
theorem dk_of {kvs:List (Key×V)}(ok:HOk P w H h)(e:H a=some (.dK kvs)):kvs.length<=sizeLine/\(a==sysModules)=false/\∃ vs,KV kvs vs/\h.DictOf (jK P w) a vs:=dk_rd ok (.inl e)
theorem jFK {ks:List Key}(ok:HOk P w H h)(e:H a=some (.tup (ks.map kV))):(tupleKind (jK P w)).is h ks a:=by
 obtain⟨_,its,r,p⟩:=(show ObjOk P w H h a (.tup (ks.map kV)) from ok a _ e)
 obtain⟨o,h1,h2,n,h3⟩:=p.isTup
 exact⟨o,its.toArray,n,h1,h2,h3,by simpa using jFP r⟩
theorem dt_rd {kvs:List (List Key×V)}(ok:HOk P w H h)(e:Rd H a (.dT kvs)):kvs.length<=sizeLine/\(a==sysModules)=false/\
  ∃ xs,KT H kvs xs/\h.DictOfH (tupleKind (jK P w)) a xs:=by
 obtain⟨z,y,xs,r,o,es,ep,h1,h2,h3,h4,h5⟩:=(show ObjOk P w H h a (.dT kvs) from rd_of ok e)
 refine⟨z,y,xs,r,o,es,ep,h1,h2,h3,h4,fun x hx=>?_,h5⟩
 have all:∀ {l:List (List Key×V)}{m:List (List Key×Addr×Value)},KT H l m->∀ x∈m,(tupleKind (jK P w)).is h x.1 x.2.1:=by
  intro l m q
  induction q with
  | nil=>intro x hx; exact nomatch hx
  | @cons p q ps qs hq t ih=>
   intro x hx
   rcases az.mp hx with e | hx
   ·subst e
    exact jFK ok (by rw[<- hq.1]; exact hq.2.1)
   ·exact ih x hx
 exact all r x hx
theorem dt_of {kvs:List (List Key×V)}(ok:HOk P w H h)(e:H a=some (.dT kvs)):kvs.length<=sizeLine/\(a==sysModules)=false/\
  ∃ xs,KT H kvs xs/\h.DictOfH (tupleKind (jK P w)) a xs:=dt_rd ok (.inl e)
end
def DGet (H:Hp)(a:Addr)(y:V)(r:Option V):Prop:=
 (∃ kvs k,Rd H a (.dK kvs)/\y=kV k/\r=valV kvs k)\/∃ kvs k b,Rd H a (.dT kvs)/\y= .ref b/\H b=some (.tup (k.map kV))/\r=valV kvs k
def DPut (H:Hp)(a:Addr)(y v:V)(H':Hp):Prop:=
 (∃ kvs k,H a=some (.dK kvs)/\y=kV k/\kvs.length<sizeLine/\H'=upd H a (.dK (putK kvs k v)))\/
 ∃ kvs k b,H a=some (.dT kvs)/\y= .ref b/\H b=some (.tup (k.map kV))/\kvs.length<sizeLine/\H'=upd H a (.dT (putK kvs k v))
theorem DGet.k {H:Hp}{a:Addr}{kvs:List (Key×V)}{k:Key}(e:H a=some (.dK kvs)):DGet H a (kV k) (valV kvs k):= .inl ⟨kvs,k, .inl e,rfl,rfl⟩
theorem DPut.k {H:Hp}{a:Addr}{kvs:List (Key×V)}{k:Key}{v:V}(e:H a=some (.dK kvs))(hl:kvs.length<sizeLine):DPut H a (kV k) v (upd H a (.dK (putK kvs k v))):= .inl ⟨kvs,k,e,rfl,hl,rfl⟩
section
variable {X:Cx}{pins:List (Addr×Obj)}{σ:St}{H:Hp}{s:Shared}{a:Addr}{y v:V}{u r:Value}{o:Option V}{A:Around}{E:Value->Shared->Prop}
theorem Inv.big (I:Inv X pins σ H s):sysModules<s.heap.objs.size:=by
 have h:mainGlobals<s.heap.objs.size:=(I.mod.glob.keeps I.bk).lt
 exact gc (by decide) h
theorem jLV {Q:Value->Shared->Prop}(hu:A.units+1<cLine)(I:Inv X pins σ H s)(g:DGet H a y (some v))(ry:RelV y u)(h:∀ w' s',Inv X pins σ H s'->RelV v w'->Q w' s'):
  wpAny (model X.prog X.w) A (getItem (.ref a) u) Q E s:=by
 rcases g with ⟨kvs,k,e,ey,l⟩ | ⟨kvs,k,b,e,ey,eb,l⟩
 ·subst ey
  obtain⟨z,hd,vs,rel,dd⟩:=dk_rd I.hok e
  obtain⟨w',hw,rw'⟩:=RelO.some_of (v:=v) (o:=valueAt vs k) (by rw[l]; exact rel.val k)
  exact wpAny_getItem_of (kV_is ry) dd.mapOf hw (h w' _ (I.tok _) rw')
 ·subst ey
  cases (show u=Value.ref b from ry)
  obtain⟨z,hd,xs,rel,dd⟩:=dt_rd I.hok e
  obtain⟨w',hw,rw'⟩:=RelO.some_of (v:=v) (o:=(atKey xs k).map (·.2)) (by rw[l]; exact rel.val k)
  obtain⟨p,hp,hp2⟩:=Option.map_eq_some_iff.mp hw
  refine wpAny_getItem_heap (fH hu) (jFK I.hok eb) dd hp ?_
  rw[hp2]
  exact h w' _ (I.tok _) rw'
theorem jQV {Q:Value->Shared->Prop}(hu:A.units+1<cLine)(I:Inv X pins σ H s)(g:DGet H a y o)(ry:RelV y u)(h:∀ s',Inv X pins σ H s'->Q (.bool (!o.isSome)) s'):
  wpAny (model X.prog X.w) A (compareOp .NotIn u (.ref a)) Q E s:=by
 rcases g with ⟨kvs,k,e,ey,l⟩ | ⟨kvs,k,b,e,ey,eb,l⟩
 ·subst ey
  obtain⟨z,hd,vs,rel,dd⟩:=dk_rd I.hok e
  refine wpAny_notIn_of (kV_is ry) hd dd.mapOf ?_
  rw[<- (rel.val k).isSome_eq,<- l]
  exact h _ (I.tok _)
 ·subst ey
  cases (show u=Value.ref b from ry)
  obtain⟨z,hd,xs,rel,dd⟩:=dt_rd I.hok e
  refine wpAny_notIn_heap (fH hu) (jFK I.hok eb) hd dd ?_
  have q:=(rel.val k).isSome_eq
  rw[isSome_map] at q
  rw[<- q,<- l]
  exact h _ (I.tok _)
theorem jDA {h':Heap}{t':Nat}{ob:HO}(I:Inv X pins σ H s)(mu:Mut (H a))(hs:Heap.SameBut a s.heap h')(he:∃ q,h'.get? a=some q)(new:ObjOk X.prog X.w (upd H a ob) h' a ob):
  Inv X pins σ (upd H a ob) { s with heap:=h',toks:=t'} :=
 I.write (x:=a) (e:=a) mu (.inl rfl) (fun b q hb z=>(hs.2 b hb).trans z) he new
theorem jOS {P:Program}{w:World}{H':Hp}{h':Heap}{kvs:List (Key×V)}{vs:List (Key×Value)}(z:kvs.length<=sizeLine)(hd:(a==sysModules)=false)(rel:KV kvs vs)(dd:h'.DictOf (jK P w) a vs):
  ObjOk P w H' h' a (.dK kvs):=⟨z,hd,vs,rel,dd⟩
theorem jLU {H':Hp}{Q:Unit->Shared->Prop}(hu:A.units+1<cLine)(I:Inv X pins σ H s)(g:DPut H a y v H')(ry:RelV y u)(rv:RelV v r)(h:∀ s',Inv X pins σ H' s'->Q () s'):
  wpAny (model X.prog X.w) A (setItem (.ref a) u r) Q E s:=by
 rcases g with ⟨kvs,k,e,ey,l,eH⟩ | ⟨kvs,k,b,e,ey,eb,l,eH⟩
 ·subst ey eH
  obtain⟨z,hd,vs,rel,dd⟩:=dk_of I.hok e
  have hz:vs.length<=sizeLine:=by rw[<- rel.length]; exact z
  have hl:(putK kvs k v).length<=sizeLine:=by have:=jBA kvs k v; omega
  refine wpAny_setItem_pairs (hsz:=hz) (kV_is ry) dd fun h' dd' hs=>h _ ?_
  have he:∃ q,h'.get? a=some q:=let ⟨q,_,_,hq,_⟩:=dd'; ⟨q,hq⟩
  exact jDA I (by rw[e]; exact True.intro) hs he (jOS hl hd (rel.put k rv) dd')
 ·subst ey eH
  cases (show u=Value.ref b from ry)
  obtain⟨z,hd,xs,rel,dd⟩:=dt_of I.hok e
  have hz:xs.length<=sizeLine:=by rw[<- iA rel]; exact z
  have hl:(putK kvs k v).length<=sizeLine:=by have:=jBA kvs k v; omega
  refine wpAny_setItem_heap (hsz:=hz) (fH hu) (jFK I.hok eb) dd fun h' dd' hs=>h _ ?_
  obtain⟨q,es,ep,hq,h2,h3,h4,_,h5⟩:=dd'
  refine jDA I (by rw[e]; exact True.intro) hs ⟨q,hq⟩ ⟨hl,hd,_,(rel.put k eb rv).keeps fun c ys ec=>?_,q,es,ep,hq,h2,h3,h4,h5⟩
  rw[j8 (ne_of ec e (fun z=>nomatch z))]
  exact ec
end
section
variable {X:Cx}{pins:List (Addr×Obj)}{σ:St}{H:Hp}{s:Shared}{a:Addr}{kvs:List (Key×V)}{k:Key}{u:Value}{A:Around}{E:Value->Shared->Prop}
end
def NoSl (i:Expr):Prop:=∀ ov iv,subscripted i false ov iv=operate [ov,iv] (getItem ov iv)
theorem jP4 {prog:Program}{w:World}{A:Around}{E:Value->Shared->Prop}{s:Shared}{env:Env}{value slice:Expr}{pos:Pos}{T id:String}{Q:Value->Shared->Prop}
  (hl:typeLookup (.type T) "__getitem__" =pure (some (.builtin id))) (hs:NoSl slice)
  (h:wpAny (model prog w) A (eval value env) (fun o s₁=>wpAny (model prog w) A (eval slice env) (fun i s₂=>s₂.TypeIs o T/\wpAny (model prog w) A (getItem o i) Q E s₂) E s₁) E s):
  wpAny (model prog w) A (eval (.Subscript value slice pos) env) Q E s:=by
 refine Subscript_ (bN h (fun o s₁ h₁=>bN h₁ (fun i s₂ h₂=>?_) fun _ _ x=>x) fun _ _ x=>x)
 obtain⟨hT,h₂⟩:=h₂
 unfold subscriptTail
 refine aa ?_
 rw[getitemInPython_of_ne hT.not_modules]
 refine aa (wpAny_specialOf hT hl ?_)
 have fin:wpAny (model prog w) A (subscripted slice false o i) (fun r s₃=>wpAny (model prog w) A (letTemporaryGo value o r >>= fun _=>pure r) Q E s₃) E s₂:=by
  rw[hs o i]
  exact wpAny_operating (bN h₂ (fun r s₃ h₃=>aa (wpAny_letTemporaryGo (ag h₃))) fun _ _ x=>x)
 first
  | exact ag (aa fin)
  | exact aa (ag (aa fin))
  | exact aa fin
theorem jGU {X:Cx}{pins:List (Addr×Obj)}{σ:St}{H:Hp}{s:Shared}{a:Addr}{y:V}{o:Option V}(I:Inv X pins σ H s)(g:DGet H a y o):s.TypeIs (.ref a) "dict" :=by
 rcases g with ⟨kvs,k,e,_,_⟩ | ⟨kvs,k,b,e,_,_,_⟩
 ·obtain⟨_,_,vs,_,dd⟩:=dk_rd I.hok e
  exact dd.typeIs
 ·obtain⟨_,_,xs,_,dd⟩:=dt_rd I.hok e
  exact dd.typeIs
def tDGet (td ty:TE):TE:=fun σ H Q=>td σ H fun x H1=>ty σ H1 fun y H2=>∃ a v,x= .ref a/\DGet H2 a y (some v)/\Q v H2
def jJC (ty td:TE):TE:=fun σ H Q=>ty σ H fun y H1=>td σ H1 fun x H2=>∃ a o,x= .ref a/\DGet H2 a y o/\Q (.bl (!o.isSome)) H2
def sDPut (td ty tv:TE):TS:=fun D σ H=>tv σ H fun v H1=>td σ H1 fun x H2=>ty σ H2 fun y H3=>∃ a H4,x= .ref a/\DPut H3 a y v H4/\D.nx σ H4
section
variable {X:Cx}{o i e value:Expr}{pos pos' tpos:Pos}{td ty tv:TE}
theorem jPR (hu:X.A.units+1<cLine)(ho:PE X o td)(hi:PE X i ty)(hs:NoSl i):PE X (.Subscript o i pos) (tDGet td ty):=by
 intro pins s σ H Q I h
 refine jP4 PySem.F.slot_dict_getitem.lookup hs (thn (ho pins s σ H _ I h) fun u s1 ⟨x,H1,I1,rx,q1⟩=>thn (hi pins s1 σ H1 _ I1 q1) fun iv s2 ⟨y,H2,I2,ry,a,v,ex,g,q2⟩=>?_)
 subst ex
 obtain rfl:u=Value.ref a:=rx
 exact⟨jGU I2 g,jLV hu I2 g ry fun w' s3 I3 rw'=>⟨v,H2,I3,rw',q2⟩⟩
theorem jK3 (hu:X.A.units+1<cLine)(hi:PE X i ty)(ho:PE X o td):PC X .NotIn i o (jJC ty td):=by
 intro pins s σ H Q I h
 refine thn (hi pins s σ H _ I h) fun iv s1 ⟨y,H1,I1,ry,q1⟩=>thn (ho pins s1 σ H1 _ I1 q1) fun u s2 ⟨x,H2,I2,rx,a,ov,ex,g,q2⟩=>?_
 subst ex
 obtain rfl:u=Value.ref a:=rx
 exact jQV hu I2 g ry fun s3 I3=>⟨.bl (!ov.isSome),H2,I3,rfl,q2⟩
theorem jPH (hu:X.A.units+1<cLine)(ho:PE X o td)(hi:PE X i ty)(hv:PE X value tv)(hs:swapsWith value (some (.Subscript o i pos')) pos.line X.env=pure false):
  PS X (.Assign [.Subscript o i pos'] value pos) (sDPut td ty tv):=by
 intro pins s σ H D I h
 refine wpAny_Assign_Subscript (thn (hv pins s σ H _ I h) fun r s1 ⟨v,H1,I1,rv,q1⟩=>thn (ho pins s1 σ H1 _ I1 q1) fun u s2 ⟨x,H2,I2,rx,q2⟩=>thn (hi pins s2 σ H2 _ I2 q2) fun iv s3 ⟨y,H3,I3,ry,a,H4,ex,g,q3⟩=>?_) hs
 subst ex
 obtain rfl:u=Value.ref a:=rx
 exact jLU hu I3 g ry rv fun s4 I4=>⟨σ,H4,I4,q3⟩
end
theorem jNN {P:Program}{w:World}{H:Hp}(h:Heap)(hb:sysModules<h.objs.size):ObjOk P w H (h.push { cls:= .type "dict",data:= .dict #[]}) h.objs.size (.dK []):=
 ⟨bG _,cR.mpr (cF (aV hb)),[], .nil,Heap.DictOf.new h⟩
section
variable {X:Cx}{pos:Pos}
end
def jJB:List (TE×TE)->St->Hp->(List (V×V)->Hp->Prop)->Prop
 | [],_,H,Q=>Q [] H
 | (tk,tv)::r,σ,H,Q=>tk σ H fun x H1=>tv σ H1 fun y H2=>jJB r σ H2 fun ps H3=>Q ((x,y)::ps) H3
abbrev VV:List (V×V)->List (Value×Value)->Prop:=Paired fun p q=>RelV p.1 q.1/\RelV p.2 q.2
def PPs (X:Cx)(pos:Pos)(keys:List (Option Expr))(values:List Expr)(trs:List (TE×TE)):Prop:=
 ∀ (pins:List (Addr×Obj)) (s:Shared) (σ:St) (H:Hp) (Q:List (V×V)->Hp->Prop),Inv X pins σ H s->jJB trs σ H Q->
  wpAny (model X.prog X.w) X.A (evalPairs (pairTrees keys values X.env pos)) (fun vs s'=>∃ ps H',Inv X pins σ H' s'/\VV ps vs/\Q ps H') X.xe s
theorem jJX {X:Cx}{pos:Pos} :PPs X pos [] [] []:=fun pins s σ H Q I h=>pairTrees_nil_walk ⟨[],H,I, .nil,h⟩
theorem jHF {X:Cx}{pos:Pos}{k v:Expr}{ks:List (Option Expr)}{vs:List Expr}{tk tv:TE}{trs:List (TE×TE)}(hk:PE X k tk)(hv:PE X v tv)(hr:PPs X pos ks vs trs):
  PPs X pos (some k::ks) (v::vs) ((tk,tv)::trs):=fun pins s σ H Q I h=>
 pairTrees_cons_walk (thn (hk pins s σ H _ I h) fun u s1 ⟨x,H1,I1,rx,q1⟩=>thn (hv pins s1 σ H1 _ I1 q1) fun w2 s2 ⟨y,H2,I2,ry,q2⟩=>
  thn (hr pins s2 σ H2 _ I2 q2) fun ws s3 ⟨ps,H3,I3,rel,q3⟩=>⟨(x,y)::ps,H3,I3, .cons ⟨rx,ry⟩ rel,q3⟩)
def jFG (kvs more:List (Key×V)):List (Key×V):=more.foldl (fun acc kv=>putK acc kv.1 kv.2) kvs
theorem KV.merge:∀ {more:List (Key×V)}{rs:List (Key×Value)}{kvs:List (Key×V)}{vs:List (Key×Value)},KV more rs->KV kvs vs->KV (jFG kvs more) (merged vs rs):=by
 intro more rs kvs vs r
 unfold KV at r
 induction r generalizing kvs vs with
 | nil=>intro q; exact q
 | @cons p q ps qs h t ih=>
  intro r0
  have e:KV (putK kvs p.1 p.2) (stored vs q.1 q.2):=by
   have:=r0.put p.1 h.2
   rw[<- h.1]; exact this
  exact ih e
theorem jBJ:∀ (more kvs:List (Key×V)),(jFG kvs more).length<=kvs.length+more.length
 | [],kvs=>by show kvs.length<=kvs.length+0; omega
 | p::r,kvs=>by
  have h1:=jBJ r (putK kvs p.1 p.2)
  have h2:=jBA kvs p.1 p.2
  show (jFG (putK kvs p.1 p.2) r).length<=_
  rw[aG]; omega
theorem jDU {P:Program}{w:World} :∀ {kvs:List (Key×V)}{ws:List (Value×Value)},VV (kvs.map fun kv=>(kV kv.1,kv.2)) ws->∃ rs,Carries (jK P w) ws rs/\KV kvs rs
 | [],_,r=>by rw[gQ] at r; cases r; exact⟨[],True.intro, .nil⟩
 | p::kvs,_,r=>by
  rw[ba] at r
  cases r with
  | @cons a b as bs h t=>
   obtain⟨rs,c,q⟩:=jDU (P:=P) (w:=w) t
   obtain⟨b1,b2⟩:=b
   exact⟨(p.1,b2)::rs,⟨kV_is h.1,rfl,c⟩, .cons ⟨rfl,h.2⟩ q⟩
def tDisp (trs:List (TE×TE)):TE:=fun σ H Q=>∀ p,H p=none->jJB trs σ (upd H p (.dK [])) fun ps H2=>H2 p=some (.dK [])/\∃ kvs:List (Key×V),ps=kvs.map (fun kv=>(kV kv.1,kv.2))/\kvs.length<=15/\Q (.ref p) (upd H2 p (.dK (jFG [] kvs)))
theorem jK1 {X:Cx}{pos:Pos}{keys:List (Option Expr)}{values:List Expr}{trs:List (TE×TE)}(h:PPs X pos keys values trs)(hall:keys.all (·.isSome)=true)(hl:keys.length=values.length)(h0:keys≠ [])
  (h15:keys.length<=15):PE X (.Dict keys values pos) (tDisp trs):=by
 intro pins s σ H Q I q
 have hn:=I.hok.fresh (aE s.heap.objs.size)
 have I1:=I.laid (a:=s.heap.objs.size) (o:= .dK []) (h':=s.heap.push { cls:= .type "dict",data:= .dict #[]}) (t':=s.toks) (fun _ _ q=>ae _ q) (aE _) (jNN s.heap I.big)
 refine wpAny_Dict_walk (knd:=jK X.prog X.w) hall hl h0 h15 (thn (h pins _ σ _ _ I1 (q _ hn)) fun ws s2 ⟨ps,H2,I2,rel,e,kvs,ep,lk,q2⟩=>?_)
 subst ep
 obtain⟨rs,c,rk⟩:=jDU (P:=X.prog) (w:=X.w) rel
 obtain⟨z,hd,vs0,r0,dd⟩:=dk_of I2.hok e
 cases r0
 refine⟨rs,c,dd,fun h' dd' hs=>⟨.ref s.heap.objs.size,_,?_,rfl,q2⟩⟩
 have hz:(jFG [] kvs).length<=sizeLine:=by
  have h1:=jBJ kvs []
  rw[cV] at h1
  rw[fN]; omega
 have he:∃ q,h'.get? s.heap.objs.size=some q:=let ⟨q,_,_,hq,_⟩:=dd'; ⟨q,hq⟩
 exact jDA I2 (by rw[e]; exact True.intro) hs he (jOS hz hd (rk.merge .nil) dd')
structure M2 (X:Cx)(o:Expr)(m:Str)(apos:Pos)(e f:Expr)(cpos:Pos):Prop where
 base:attributeBase o m X.env (eval o X.env)=eval o X.env
 few:((backTo cpos (starEach [e,f] X.env)).all (fun x=>!x.1)&&(backToKw cpos (keywordEach [] X.env)).all (fun x=>x.1.isSome)
  &&decide (([e,f]:List Expr).length+([]:List Keyword).length+(if ([]:List Keyword).isEmpty then 0 else 1)<30))=true
 line:(apos.endLine==cpos.line)=true
 trees:backTo cpos (starEach [e,f] X.env)=[(false,eval e X.env),(false,eval f X.env)]
def IsD (H:Hp)(a:Addr):Prop:=(∃ kvs,Rd H a (.dK kvs))\/∃ kvs,Rd H a (.dT kvs)
theorem jLC {X:Cx}{pins:List (Addr×Obj)}{σ:St}{H:Hp}{s:Shared}{a:Addr}(I:Inv X pins σ H s)(d:IsD H a):
  s.TypeIs (.ref a) "dict" /\(∀ b,Value.ref a= .ref b->∃ ob,s.heap.get? b=some ob/\ob.dict=none)/\(a==sysModules)=false:=by
 rcases d with ⟨kvs,e⟩ | ⟨kvs,e⟩
 ·obtain⟨_,hd,vs,_,dd⟩:=dk_rd I.hok e
  refine⟨dd.typeIs,fun b q=>?_,hd⟩
  cases q
  obtain⟨ob,_,_,h1,h2,_⟩:=dd
  exact⟨ob,h1,h2.2.1⟩
 ·obtain⟨_,hd,xs,_,dd⟩:=dt_rd I.hok e
  refine⟨dd.typeIs,fun b q=>?_,hd⟩
  cases q
  obtain⟨ob,_,_,h1,h2,_⟩:=dd
  exact⟨ob,h1,h2.2.1⟩
section
variable {X:Cx}{pins:List (Addr×Obj)}{σ:St}{H:Hp}{s:Shared}{a:Addr}{y d:V}{u r:Value}{o:Option V}{A:Around}{E:Value->Shared->Prop}
theorem jT7 {Q:Value->Shared->Prop}(hu:A.units+1<cLine)(I:Inv X pins σ H s)(g:DGet H a y o)(ry:RelV y u)(rd:RelV d r)(h:∀ w' s',Inv X pins σ H s'->RelV (o.getD d) w'->Q w' s'):
  wpAny (model X.prog X.w) A (call (.builtin "dict.get") [.ref a,u,r]) Q E s:=by
 rcases g with ⟨kvs,k,e,ey,l⟩ | ⟨kvs,k,b,e,ey,eb,l⟩
 ·subst ey
  obtain⟨z,hd,vs,rel,dd⟩:=dk_rd I.hok e
  refine iZ gw dd.typeIs i4 (iR _ _ _) (meets_dict_get_default (jK X.prog X.w) a (kV_is ry) hd r) ⟨_,dd.mapOf,h _ _ (I.tok _) ?_⟩
  rw[l]
  exact(rel.val k).getD rd
 ·subst ey
  cases (show u=Value.ref b from ry)
  obtain⟨z,hd,xs,rel,dd⟩:=dt_rd I.hok e
  refine iZ gw dd.typeIs i4 (iR _ _ _) (meetsH_dict_get_default (tupleKind (jK X.prog X.w)) a b hd r) ⟨fH hu,k,xs,jFK I.hok eb,dd,h _ _ (I.tok _) ?_⟩
  rw[l]
  exact(rel.val k).getD rd
end
def jO0 (td ty tx:TE):TE:=fun σ H Q=>td σ H fun x H1=>∃ a,x= .ref a/\IsD H1 a/\ty σ H1 fun y H2=>tx σ H2 fun z H3=>∃ o,DGet H3 a y o/\Q (o.getD z) H3
section
variable {X:Cx}{o e f:Expr}{apos cpos:Pos}{td ty tx:TE}
theorem jMR (hu:X.A.units+1<cLine)(ho:PE X o td)(he:PE X e ty)(hf:PE X f tx)(m:M2 X o "get" apos e f cpos):PE X (.Call (.Attribute o "get" apos) [e,f] [] cpos) (jO0 td ty tx):=by
 intro pins s σ H Q I h
 refine wpAny_Call_method m.base m.few m.line fQ gw PySem.F.type_dict_get (thn (ho pins s σ H _ I h) fun u s1 ⟨x,H1,I1,rx,a,ex,d,q1⟩=>?_)
 subst ex
 obtain rfl:u=Value.ref a:=rx
 obtain⟨t1,t2,_⟩:=jLC I1 d
 refine⟨t1,t2,?_⟩
 rw[m.trees]
 refine dw rfl (eW (gX (thn (he pins s1 σ H1 _ I1 q1) fun iv s2 ⟨y,H2,I2,ry,q2⟩=>
  gX (thn (hf pins s2 σ H2 _ I2 q2) fun fv s3 ⟨z,H3,I3,rz,ov,g,q3⟩=>Calls.spliced_nil ?_))))
 exact jT7 hu I3 g ry rz fun w' s4 I4 rw'=>⟨_,H3,I4,rw',q3⟩
end
section
variable {X:Cx}{pins:List (Addr×Obj)}{σ:St}{H:Hp}{s:Shared}{a:Addr}{kvs:List (Key×V)}{A:Around}{E:Value->Shared->Prop}
end
section
variable {X:Cx}{pins:List (Addr×Obj)}{σ:St}{H:Hp}{s:Shared}{a:Addr}{y:V}{u:Value}{A:Around}{E:Value->Shared->Prop}
end
section
variable {κ:Type} [DecidableEq κ]
theorem jKD:∀ {l:List κ}{k:κ},l.Nodup->¬ k∈l->(l++[k]).Nodup
 | [],k,_,_=>by simp
 | a::r,k,h,hk=>by
  obtain⟨h1,h2⟩:=bK.mp h
  show (a::(r++[k])).Nodup
  refine bK.mpr ⟨fun m=>?_,jKD h2 fun m=>hk (az.mpr (Or.inr m))⟩
  rcases aU.mp m with q | q
  ·exact h1 q
  ·exact hk (az.mpr (Or.inl (aC.mp q).symm))
end
section
variable {prog:Program}{w:World}{A:Around}{E:Value->Shared->Prop}{s:Shared}{d:Addr}{kvs:List (Key×Value)}
theorem jGV {T:String}{r d:Addr}{n:Nat}{P:Nat->Value->Prop}{OK:Heap->Prop}{R:List Value->Shared->Prop}(K:PySem.W.KdlSrc prog w T r d n P OK)(hh:A.handled=none)(hok:OK s.heap)(hn:n<=sizeLine)
  (h:∀ (h':Heap) (tk:Nat) (acc:Array Value),(∀ b o,s.heap.get? b=some o->h'.get? b=some o)->s.heap.objs.size<h'.objs.size->ItemsOf P acc n->R acc.toList { s with heap:=h',toks:=tk}):
  wpAny (model prog w) A (collect (.ref r)) R E s:=by
 have hlt:=K.there _ hok
 unfold collect
 refine aa (jm (cr entry_proto_collect' ?_))
 rw[bV gR _]
 show wpAny _ A.in1 (newList [] >>= fun l=>again (.builtin "list.__iadd__" ⟨[l, .ref r],[]⟩)) _ _ s
 refine aa (cf ?_)
 refine ag ⟨dz eg _,cr entry_list_iadd' ?_⟩
 rw[bV eg _]
 have hS:(s.heap.push { cls:= .type "list",data:= .seq ([]:List Value).toArray}).get? s.heap.objs.size=some { cls:= .type "list",data:= .seq #[]} :=aA _ rfl
 show wpAny _ A.in1 (Builtin.List.listExtendWith (.ref s.heap.objs.size) (.ref r) (.ref s.heap.objs.size)) _ _ _
 refine bN (PySem.W.kdl_extend (A:=A) (s:= { s with heap:=s.heap.push { cls:= .type "list",data:= .seq ([]:List Value).toArray}})
  (R:=fun (q:Result) (s':Shared)=>∃ (h':Heap) (tk:Nat) (acc:Array Value) (c:Nat),q= .ok (.ret (.ref s.heap.objs.size))/\s'= { s with heap:=h',toks:=tk} /\
   (∀ b o,s.heap.get? b=some o->h'.get? b=some o)/\h'.get? s.heap.objs.size=some { cls:= .type "list",dict:=none,data:= .seq acc c,slots:=#[]} /\ItemsOf P acc n)
  K hh (K.keep _ _ hok fun b _ o e=>ae _ e) s.heap.objs.size (cN hlt.1) (cN hlt.2) (.ref s.heap.objs.size) 0 hS
  (fun h' tk acc c hk hS' hacc=>⟨h',tk,acc,c,rfl,rfl,fun b o e=>hk b o (aV (ay e)) (ae _ e),hS',hacc⟩) hn) (fun fin s' x=>?_) fun e s' x=>?_
 ·cases fin with
  | done f=>
   obtain⟨h',tk,acc,c,e,rfl,hk,hS',hacc⟩:=x
   cases e
   show wpAny _ A (load s.heap.objs.size >>= _) _ _ _
   exact aa (gW hS' (ag (h h' tk acc hk (ay hS') hacc)))
  | again c1=>
   refine⟨x.1,dv x.2 fun q s2 y=>?_⟩
   obtain⟨h',tk,acc,c,rfl,rfl,hk,hS',hacc⟩:=y
   show wpAny _ A (load s.heap.objs.size >>= _) _ _ _
   exact aa (gW hS' (ag (h h' tk acc hk (ay hS') hacc)))
 ·obtain⟨_,_,_,_,e',_⟩:=x
  cases e'
end
section
variable {X:Cx}{o i e f value:Expr}{td ty tv tx:TE}{pos pos' apos cpos:Pos}
theorem jEE (hu:X.A.units+1<cLine)(ho:JE X o td)(hi:JE X i ty)(hs:jAU i):JE X (.Subscript o i pos) (tDGet td ty):=⟨jPR hu ho.h hi.h hs⟩
theorem jED (hu:X.A.units+1<cLine)(ho:JE X o td)(hi:JE X i ty)(hv:JE X value tv)(hs:SwOk value (some (.Subscript o i pos'))):JS X (.Assign [.Subscript o i pos'] value pos) (sDPut td ty tv):=⟨jPH hu ho.h hi.h hv.h (hs.h _ _)⟩
theorem jNA (hu:X.A.units+1<cLine)(ho:JE X o td)(he:JE X e ty)(hf:JE X f tx)(s1:starEach [e,f] X.env=(false,eval e X.env)::starEach [f] X.env)(s2:starEach [f] X.env=(false,eval f X.env)::starEach [] X.env)
  (base:attributeBase o "get" X.env (eval o X.env)=eval o X.env:=by rfl)
  (few:((backTo cpos (starEach [e,f] X.env)).all (fun x=>!x.1)&&(backToKw cpos (keywordEach [] X.env)).all (fun x=>x.1.isSome)
   &&decide (([e,f]:List Expr).length+([]:List Keyword).length+(if ([]:List Keyword).isEmpty then 0 else 1)<30))=true:=by rfl)
  (line:(apos.endLine==cpos.line)=true:=by rfl) (trees:backTo cpos (starEach [e,f] X.env)=[(false,eval e X.env),(false,eval f X.env)]:=by rfl):
  JE X (.Call (.Attribute o "get" apos) [e,f] [] cpos) (jO0 td ty tx):=⟨jMR hu ho.h he.h hf.h ⟨base,few,line,trees⟩⟩
end
section
variable {prog:Program}{w:World}{A:Around}{E:Value->Shared->Prop}{s:Shared}
end
section
variable {prog:Program}{w:World}{K:Type} [DecidableEq K]{knd:KeyKind prog w K}{A:Around}{R:Result->Shared->Prop}{I:Addr}{fp wr:List Addr}{n:Nat}{P:Nat->Value->Prop}{St:Nat->Shared->Prop}
end
section
variable {prog:Program}{w:World}{K:Type} [DecidableEq K]{knd:KeyKind prog w K}{A:Around}{E:Value->Shared->Prop}{s:Shared}
end
section
variable {X:Cx}
end
section
variable {X:Cx}
end
section
variable {P:Program}{w:World}{K:W.Frag}{mg:Str->Option Value}{base:Heap}{N:List Str}{qual:Str}{sc:Scope}{f:Addr}{cd:Value}{cl:List (Str×Addr)}{A:Around}{outer:List Env}{s:Shared}{H:Hp}{x:Str}
theorem gl_n (h:sc.names.lookup x=some .globalImplicit):Gl1 (cxN P w K mg base N qual sc f cd cl A outer s H) x:=⟨h⟩
theorem yG (h:sc.names.lookup x=some .local):Vis1 (cxN P w K mg base N qual sc f cd cl A outer s H) x:=⟨.inl h⟩
theorem jR7 (h:sc.names.lookup x=some .free):Vis1 (cxN P w K mg base N qual sc f cd cl A outer s H) x:=⟨.inr (.inr h)⟩
theorem loc_n (h:sc.names.lookup x=some .local):Loc1 (cxN P w K mg base N qual sc f cd cl A outer s H) x:=⟨.inl h, .inr h⟩
end
section
variable {X:Cx}
theorem jSU {x:Str}{args:Arguments}{body:List Stmt}{scope:Scope}{pos:Pos}{c0 T:Addr}{j:Nat}(hN:X.N.Nodup)(hj:X.N[j]?=some x)(lx:Loc1 X x)(hcode:X.env.code= .ref c0)(CH:PySem.W.CodeHd X.base c0 T)(hbm:BltAt X.base X.mg)
  (hfree:∀ y∈scope.names,y.2= .free->X.env.scope.names.lookup y.1=some .cell\/X.env.scope.names.lookup y.1=some .free) (hdf:defaultsOf args X.env=([],[])) (han:annTrees args none X.env=[]):
  JS X (.FunctionDef x args body [] none [] scope none x pos) (tDef x (qualnameIn X.env x x) args body scope (jH X.env.cells scope.names []) T pos j):=⟨jRX hN hj lx.a hcode CH hbm hfree hdf han lx.b⟩
def AtS (tp:Bool)(H:Hp)(a:Addr)(xs:List V):Prop:=match tp with
 | false=>H a=some (.lst xs)
 | true=>H a=some (.tup xs)
end
section
variable {K:W.Frag}{m:List (Option Nat)}{g:TG}{tt:TT}{te:TE}{σ:St}{H1:Hp}{Q:VK}
theorem jFW {a:Addr}{xs:List V}(hn:xs.length<sizeLine)(Pv:Addr->Nat->St->Hp->List V->Prop)(h0:∀ D,H1 D=none->Pv D 0 (blkσ m σ) (upd H1 D (.lst [])) [])
  (hD:∀ D i σ' H' zs,H1 D=none->Pv D i σ' H' zs->H' a=some (.lst xs)/\H' D=some (.lst zs)/\zs.length<=i)
  (hs:∀ D i σ' H' zs x,H1 D=none->xs[i]?=some x->Pv D i σ' H' zs->g x σ' H' fun σ2 H2=>tt σ2 H2 fun b H3=>if b=true then te σ2 H3 fun v H4=>H4 D=some (.lst zs)/\Pv D (i+1) σ2 (upd H4 D (.lst (zs++[v]))) (zs++[v]) else Pv D (i+1) σ2 H3 zs)
  (hd:∀ D σ' H' zs,H1 D=none->Pv D xs.length σ' H' zs->Q (.ref D) H'):CompW m g tt te σ Q (Itl K a) H1:=by
 intro D hDn
 refine⟨fun i k σ' H' zs=>k=xs.length - i/\i<=xs.length/\Pv D i σ' H' zs,⟨_,rfl,bG _,h0 D hDn⟩,?_⟩
 rintro i k σ' H' zs ⟨rfl,hi,p⟩
 obtain⟨s1,q1,q2⟩:=hD D i σ' H' zs hDn p
 refine⟨q1,by omega,?_⟩
 by_cases hlt:i<xs.length
 ·refine .inr ⟨⟨xs,xs[i],SqL.of s1,by simp [hlt]⟩,Pv D (i+1),fun σ2 H2 zs z=>⟨xs.length - (i+1),by omega,rfl,hlt,z⟩,fun v H'' y=>?_⟩
  obtain⟨e1,e2⟩:=y
  subst e1
  exact hs D i σ' _ zs v hDn (e2 xs (SqL.of s1)) p
 ·have e:i=xs.length:=by omega
  subst e
  exact .inl ⟨⟨xs,SqL.of s1,aE _⟩,hd D σ' H' zs hDn p⟩
end
theorem ExtT.of {T:Addr}{H H':Hp}(e:Ext H H'):ExtT T H H':=fun b o h _=>e b o h
theorem ExtT.trans {T:Addr}{H H' H'':Hp}(a:ExtT T H H')(b:ExtT T H' H''):ExtT T H H'':=fun c o h n=>b c o (a c o h n) n
theorem TabOk.is {H:Hp}{T:Addr}{pos:Pos}{q:Str}(t:TabOk H T pos q):∃ ps,H T=some (.tbl ps):=by
 rcases t with h | ⟨c,h,_⟩
 ·exact⟨_,h⟩
 ·exact⟨_,h⟩
theorem TabOk.ne {H:Hp}{T:Addr}{pos:Pos}{q:Str}(t:TabOk H T pos q){b:Addr}{o:HO}(h:H b=some o)(ho:∀ ps,o≠ .tbl ps):b≠T:=fun e=>by
 obtain⟨ps,z⟩:=t.is
 rw[e,z] at h
 cases h
 exact ho ps rfl
theorem TabOk.ext {H H':Hp}{T:Addr}{pos:Pos}{q:Str}(t:TabOk H T pos q)(e:Ext H H'):TabOk H' T pos q:=by
 rcases t with h | ⟨c,h,h2⟩
 ·exact .inl (e _ _ h)
 ·exact .inr ⟨c,e _ _ h,e _ _ h2⟩
theorem ExtT.at {T:Addr}{H H':Hp}(e:ExtT T H H'){pos:Pos}{q:Str}(t:TabOk H T pos q){b:Addr}{o:HO}(h:H b=some o)(ho:∀ ps,o≠ .tbl ps:=by intro _ z; cases z):H' b=some o:=e b o h (t.ne h ho)
structure FunC (K:W.Frag)(x qual:Str)(st:Stmt)(f:Addr)(fd:FuncData)(c0:Addr):Prop where
 ex:∃ (oc:Value) (od:Option Addr) (kV doc pm:Value) (an:Option Addr) (ct:Value) (osl:Array (Option Value)),fd=PySem.W.fnOf x qual (jI st) (jB st) (j7 st) .none kV doc pm an (.ref c0) ct/\K.lookup f=some ⟨oc,od, .func fd,osl⟩/\PySem.W.codeIn K (.ref c0) qual=true
theorem FunC.ok {P:Program}{w:World}{K:W.Frag}{mg:Str->Option Value}{base:Heap}{x qual:Str}{st:Stmt}{f c0:Addr}{fd:FuncData}{N ps:List Str}{k:Nat}{sp:Sp}(F:FunC K x qual st f fd c0)(S:FnScope N ps (j7 st))(len:∀ vs H Q E,sp vs H Q E->vs.length=ps.length)
  (hbody:∀ (A:Around) (outer:List Env) (s:Shared) (H:Hp) (vs:List V) (Q:VK) (E:XK),Room k (A.deeper (envOfC qual (j7 st) s.heap.objs.size f (.ref c0)))->sp vs H Q E->
   ∃ t,PSs (cxOf CX0 P w K mg base N qual (j7 st) f (.ref c0) A outer s H E).nox (jB st) t/\t { nx:=fun _ H'=>Q .non H',rt:=Q} (y0 N vs) H):FnOk P w K mg base CX0 (k+1) f fd ps sp:=by
 obtain⟨oc,od,kV,doc,pm,an,ct,osl,rfl,lk,hcd⟩:=F.ex
 refine fn_of lk hcd S len fun A outer s H vs Q E hr hsp=>?_
 obtain⟨t,ht,hq⟩:=hbody A outer s H vs Q E hr hsp
 exact⟨t,ht.nox,hq⟩
section
variable {X:Cx}{sc:Scope}{cl:List (Str×Addr)}{C:Addr}{Nc:List Str}{fp:List Addr}{s:Shared}{H:Hp}
variable {sc2:Scope}{cl2:List (Str×Addr)}{C2:Addr}{Nc2:List Str}{fp2:List Addr}{s2:Shared}{H2:Hp}
end
theorem jL1 {X:Cx}{st:Stmt} :JS X st (fun _ _ _=>False):=⟨fun _ _ _ _ _ _ h=>h.elim⟩
section
variable {K:W.Frag}{m:List (Option Nat)}{g:TG}{tt:TT}{te:TE}{σ:St}{H:Hp}{Q:VK}
abbrev TupsK (H H':Hp):Prop:=∀ b xs,H b=some (.tup xs)->H' b=some (.tup xs)
structure ZOk (Z:Hp->List V->Nat->Prop):Prop where
 z0:∀ H,Z H [] 0
 mono:∀ H H' zs j,TupsK H H'->Z H zs j->Z H' zs j
 len:∀ H zs j,Z H zs j->zs.length<=j
theorem jJ7 {H:Hp}{D:Addr}{zs:List V}(h:H D=some (.lst zs))(o:HO):TupsK H (upd H D o):=fun b xs hb=>by
 rw[j8 (fun e=>by rw[e,h] at hb; cases hb)]
 exact hb
def TurnZ (g:TG)(tt:TT)(te:TE)(σP:St->Prop)(Z:Hp->List V->Nat->Prop)(x:V)(j:Nat)(σ':St)(H':Hp)(zs:List V):Prop:=
 ∀ (R:St->V->Hp->Prop) (S:St->Hp->Prop),(∀ σ2 v H2,σP σ2->Ext H' H2->Z H2 (zs++[v]) (j+1)->R σ2 v H2)->(∀ σ2 H2,σP σ2->Ext H' H2->Z H2 zs (j+1)->S σ2 H2)->
  g x σ' H' fun σ2 H2=>tt σ2 H2 fun b H3=>if b=true then te σ2 H3 (R σ2) else S σ2 H3
theorem jQW {tp:Bool}{a:Addr}{xs:List V}(σP:St->Prop)(Z:Hp->List V->Nat->Prop)(zo:ZOk Z)(ha:AtS tp H a xs)(hn:xs.length<sizeLine)(h0:σP (blkσ m σ))
  (step:∀ j x σ' H' zs,xs[j]?=some x->σP σ'->Ext H H'->Z H' zs j->TurnZ g tt te σP Z x j σ' H' zs)
  (hd:∀ D H' zs,H' D=some (.lst zs)->Ext H H'->H D=none->Z H' zs xs.length->Q (.ref D) H'):CompW m g tt te σ Q (match tp with | false=>Itl K a | true=>Itt K a) H:=by
 have turn:∀ D j σ' H' zs x,H D=none->xs[j]?=some x->(σP σ'/\Ext H H'/\H' D=some (.lst zs)/\H D=none/\Z H' zs j)->g x σ' H' fun σ2 H2=>tt σ2 H2 fun b H3=>if b=true then te σ2 H3 fun v H4=>H4 D=some (.lst zs)/\(σP σ2/\Ext H (upd H4 D (.lst (zs++[v])))/\(upd H4 D (.lst (zs++[v]))) D=some (.lst (zs++[v]))/\H D=none/\Z (upd H4 D (.lst (zs++[v]))) (zs++[v]) (j+1)) else (σP σ2/\Ext H H3/\H3 D=some (.lst zs)/\H D=none/\Z H3 zs (j+1)):=by
  rintro D j σ' H' zs x hD hx ⟨p,e,h2,hn,hz⟩
  exact step j x σ' H' zs hx p e hz _ _ (fun σ2 v H2 p2 e2 z2=>⟨e2 _ _ h2,p2,(e.trans e2).updNew hn _,j9,hn,zo.mono _ _ _ _ (jJ7 (e2 _ _ h2) _) z2⟩) fun σ2 H2 p2 e2 z2=>⟨p2,e.trans e2,e2 _ _ h2,hn,z2⟩
 cases tp with
 | false=>exact jFW (xs:=xs) hn (fun D j σ' H' zs=>σP σ'/\Ext H H'/\H' D=some (.lst zs)/\H D=none/\Z H' zs j) (fun D hD=>⟨h0,(Ext.refl _).new hD _,j9,hD,zo.z0 _⟩) (fun D j σ' H' zs hD ⟨_,e,h2,_,hz⟩=>⟨e _ _ ha,h2,zo.len _ _ _ hz⟩) turn fun D σ' H' zs hD ⟨_,e,h2,hn,hz⟩=>hd D H' zs h2 e hn hz
 | true=>exact jI5 (xs:=xs) hn (fun D j σ' H' zs=>σP σ'/\Ext H H'/\H' D=some (.lst zs)/\H D=none/\Z H' zs j) (fun D hD=>⟨h0,(Ext.refl _).new hD _,j9,hD,zo.z0 _⟩) (fun D j σ' H' zs hD ⟨_,e,h2,_,hz⟩=>⟨e _ _ ha,h2,zo.len _ _ _ hz⟩) turn fun D σ' H' zs hD ⟨_,e,h2,hn,hz⟩=>hd D H' zs h2 e hn hz
theorem jB2 {a:Addr}{xs:List V}(σP:St->Prop)(Z:Hp->List V->Nat->Prop)(zo:ZOk Z)(ha:H a=some (.lst xs))(hn:xs.length<sizeLine)(h0:σP (blkσ m σ))
  (step:∀ j x σ' H' zs,xs[j]?=some x->σP σ'->Ext H H'->Z H' zs j->TurnZ g tt te σP Z x j σ' H' zs)
  (hd:∀ D H' zs,H' D=some (.lst zs)->Ext H H'->H D=none->Z H' zs xs.length->Q (.ref D) H'):CompW m g tt te σ Q (Itl K a) H:=jQW (tp:=false) σP Z zo ha hn h0 step hd
end
def mapZ {α:Type}(l:List α)(f:α->V):Hp->List V->Nat->Prop:=fun _ zs j=>zs=(l.take j).map f
theorem mapZ.ok {α:Type}(l:List α)(f:α->V):ZOk (mapZ l f):=⟨fun _=>rfl,fun _ _ _ _ _ h=>h,fun _ zs j h=>by
 rw[show zs=_ from h,ah]
 exact dX _ _⟩
theorem mapZ.yes {α:Type}{l:List α}{f:α->V}{H H':Hp}{zs:List V}{j:Nat}{x:α}(h:mapZ l f H zs j)(hx:l[j]?=some x):mapZ l f H' (zs++[f x]) (j+1):=by
 show _=_
 rw[bM,hx,bh,<- show zs=_ from h]
 rfl
theorem mapZ.all {α:Type}{l:List α}{f:α->V}{H:Hp}{zs:List V}{n:Nat}(h:mapZ l f H zs n)(hn:l.length<=n):zs=l.map f:=by
 rw[show zs=_ from h,cx hn]
section
variable {X:Cx}{sc:Scope}{cl:List (Str×Addr)}{C:Addr}{Nc:List Str}{fp:List Addr}{s:Shared}{H:Hp}
end
section
variable {X:Cx}{st:Stmt}{sts:List Stmt}{t:TS}{e:Expr}{tt:TT}
theorem JT.nox (h:JT X.nox e tt):JT X e tt:=⟨h.h.nox⟩
end
def jRA (E:XK)(t:TA):TS:=fun _ σ H=>t σ H fun vs H1=>vs.length<=sizeLine/\∀ a,E (.ref a) (some a) H1
theorem jL0 {P:Program}{w:World}{K:W.Frag}{mg:Str->Option Value}{base:Heap}{N:List Str}{qual:Str}{sc:Scope}{f:Addr}{cdv:Value}{A:Around}{outer:List Env}{s:Shared}{H:Hp}{E:XK}{x:Str}{C:Addr}{c:Const}{k:Nat}{t:TA}{np cpos pos p:Pos}
  (hc:(cxOf (CXX P w C) P w K mg base N qual sc f cdv A outer s H E).calm=true) (ek:ExcK K C) (hg:Gl1 (cxOf (CXX P w C) P w K mg base N qual sc f cdv A outer s H E).nox x) (hm:mg x=some (.ref C)) (ha:JA (cxOf (CXX P w C) P w K mg base N qual sc f cdv A outer s H E) [.Constant c k p] t) (hd:(x==("__debug__" :Str))=false:=by decide):
  JS (cxOf (CXX P w C) P w K mg base N qual sc f cdv A outer s H E) (.Raise (some (.Call (.Name x np) [.Constant c k p] [] cpos)) none pos) (jRA E t):=
 ⟨jJT hc ek hg.a hm ha.h (fun _ _ _ _ _ _ _ I m w1=>xe_cx I m w1) hd rfl rfl⟩
end L2
namespace L2
open PySem PySem.Spec PyProof.Rows
theorem Fun.okX {P:Program}{w:World}{K:W.Frag}{mg:Str->Option Value}{base:Heap}{C:Addr}{x qual:Str}{st:Stmt}{f:Addr}{fd:FuncData}{N ps:List Str}{k:Nat}{sp:Sp}(F:Fun K x qual st f fd)(S:FnScope N ps (j7 st))(len:∀ vs H Q E,sp vs H Q E->vs.length=ps.length)
  (hbody:∀ (cdv:Value) (A:Around) (outer:List Env) (s:Shared) (H:Hp) (vs:List V) (Q:VK) (E:XK),Room k (A.deeper (envOfC qual (j7 st) s.heap.objs.size f cdv))->sp vs H Q E->
   ∃ t,PSs (cxOf (CXX P w C) P w K mg base N qual (j7 st) f cdv A outer s H E) (jB st) t/\t { nx:=fun _ H'=>Q .non H',rt:=Q} (y0 N vs) H):FnOk P w K mg base (CXX P w C) (k+1) f fd ps sp:=by
 obtain⟨oc,od,kV,doc,pm,an,cdv,ct,osl,rfl,lk,hcd⟩:=F.ex
 exact fn_of lk hcd S len fun A outer s H vs Q E hr hsp=>hbody cdv A outer s H vs Q E hr hsp
end L2
namespace L2
open PySem
structure CanX (C:Addr)(P:Program)(w:World)(K:W.Frag)(mg:Str->Option Value)(base:Heap)(x:Str)(k:Nat)(f:Addr)(fd:FuncData)(ps:List Str)(sp:Sp):Prop where
 G:FnOk P w K mg base (CXX P w C) k f fd ps sp
 m:mg x=some (.ref f)
 kp:keepIn K (.ref f)=true
 b:Binds K fd ps []
end L2
namespace L2
open PySem PySem.Spec PyProof.Rows
section
variable {m:List (Option Nat)}{g:TG}{tt:TT}{te:TE}{σ:St}{H1:Hp}{Q:VK}
end
open PySem.AutoSeq1 (wpAny_loadPart')
section
variable {prog:Program}{w:World}{A:Around}{E:Value->Shared->Prop}{s:Shared}
end
section
variable {X:Cx}
variable {sc:Scope}{cl:List (Str×Addr)}{C:Addr}{Nc:List Str}{fp:List Addr}{s:Shared}{H:Hp}
end
structure FnZ (P:Program)(w:World)(K:W.Frag)(mg:Str->Option Value)(base:Heap)(CX:CXT)(Z:Shared->Hp->Prop)(k:Nat)(f:Addr)(fd:FuncData)(ps:List Str)(sp:Sp):Prop where
 len:∀ vs H Q E,sp vs H Q E->vs.length=ps.length
 run:∀ (A:Around) (outer:List Env) (s:Shared) (H:Hp) (args:Args) (us:List Value) (vs:List V) (Q:VK) (E:XK),Room k A->Env0 P w K mg base A outer s H->BindsTo s fd args (ps.zip us)->Vals vs us->Z s H->sp vs H Q E->
  codeAny (model P w) A (.call (.ref f) args) (CR CX outer P w H s Q E) s
theorem jT3 {Z:Shared->Hp->Prop}{CX:CXT}{P:Program}{w:World}{K:W.Frag}{mg:Str->Option Value}{base:Heap}{k:Nat}{f:Addr}{name qual:Str}{params:Arguments}{body:List Stmt}{scope:Scope}{dV kV doc pm cdv ct oc:Value}{an od:Option Addr}
  {osl:Array (Option Value)}{N ps:List Str}{sp:Sp}(lk:K.lookup f=some ⟨oc,od, .func (PySem.W.fnOf name qual params body scope dV kV doc pm an cdv ct),osl⟩) (hcd:PySem.W.codeIn K cdv qual=true) (S:FnScope N ps scope)
  (len:∀ vs H Q E,sp vs H Q E->vs.length=ps.length)
  (hbody:∀ (A:Around) (outer:List Env) (s:Shared) (H:Hp) (vs:List V) (Q:VK) (E:XK),Room k (A.deeper (envOfC qual scope s.heap.objs.size f cdv))->Z s H->sp vs H Q E->
   ∃ t,PSs (cxOf CX P w K mg base N qual scope f cdv A outer s H E) body t/\t { nx:=fun _ H'=>Q .non H',rt:=Q} (y0 N vs) H):
  FnZ P w K mg base CX Z (k+1) f (PySem.W.fnOf name qual params body scope dV kV doc pm an cdv ct) ps sp:=by
 refine⟨len,fun A outer s H args us vs Q E hr e0 hb r hz hsp=>?_⟩
 have hl:=len _ _ _ _ hsp
 have KX:K.In s.heap:=e0.mod.kin.keeps fun b o e=>(e0.bs b o e).1
 have lim:s.heap.NoLimit:=e0.mod.nolimit.keeps fun b o e=>(e0.bs b o e).1
 have hkind:∀ y∈ps.zip us,scope.names.lookup y.1=some .local\/(scope.names.lookup y.1=some .cell/\((cellsFrom (s.heap.objs.size+1) scope.names []).lookup y.1).isSome=true):=fun ⟨n,v⟩ hy=>by
  rcases S.par n (dJ hy).1 with q | q
  ·exact .inl q
  ·exact .inr ⟨q,gb _ _ _ (.inl q)⟩
 refine codeAny_call_function hr.depth (KX _ _ lk) rfl S.co S.gen rfl (jw KX hcd) (hb _ _ _ _ ?_)
 refine gZ S.kind hkind fun env he s1 x=>?_
 subst he
 refine⟨lim.keeps x.toInCall.keep,codeAny_func ?_⟩
 obtain⟨t,ht,hq⟩:=hbody A outer s H vs Q E (hr.deeper _) hz hsp
 have I:Inv (cxOf CX P w K mg base N qual scope f cdv A outer s H E) [] (y0 N vs) H s1:=jFQ S hr.hd e0 hl r x
 refine bN (ht [] s1 (y0 N vs) H _ I hq) (fun fl s' hs=>?_) fun e s' hs=>hs
 have fin:∀ {σ':St}{H':Hp}{v:V}{u:Value},Inv (cxOf CX P w K mg base N qual scope f cdv A outer s H E) [] σ' H' s'->RelV v u->Q v H'->CE outer P w H s Q u s':=
  fun {σ' H' v u} J rv q=>⟨v,H',J.os,J.bare,J.base,J.hok,rv,q⟩
 cases fl with
 | ret u=>
  obtain⟨v,σ',H',J,rv,q⟩:=hs
  exact fin J rv q
 | next=>
  obtain⟨σ',H',J,q⟩:=hs
  exact fin (v:=V.non) (u:=Value.none) J rfl q
 | brk=>
  obtain⟨_,_,_,q⟩:=hs
  exact False.elim q
 | cont=>
  obtain⟨_,_,_,q⟩:=hs
  exact False.elim q
def ZSt (Z:Shared->Hp->Prop):Prop:=∀ (fs:List Addr) (s s':Shared) (H H':Hp),Un fs [] H H' s.heap s'.heap->Z s H->Z s' H'
abbrev ZT:Shared->Hp->Prop:=fun _ _=>True
theorem ZT.st:ZSt ZT:=fun _ _ _ _ _ _ _=>trivial
theorem FnZ.ok {P:Program}{w:World}{K:W.Frag}{mg:Str->Option Value}{base:Heap}{CX:CXT}{k:Nat}{f:Addr}{fd:FuncData}{ps:List Str}{sp:Sp}(F:FnZ P w K mg base CX ZT k f fd ps sp):FnOk P w K mg base CX k f fd ps sp:=
 ⟨F.len,fun A outer s H args us vs Q E hr he hb hv hs=>F.run A outer s H args us vs Q E hr he hb hv trivial hs⟩
section
variable {P:Program}{w:World}{K:W.Frag}{mg:Str->Option Value}{base:Heap}
theorem Fun.okZ {Z:Shared->Hp->Prop}{x qual:Str}{st:Stmt}{f:Addr}{fd:FuncData}{N ps:List Str}{k:Nat}{sp:Sp}(F:Fun K x qual st f fd)(S:FnScope N ps (j7 st))(len:∀ vs H Q E,sp vs H Q E->vs.length=ps.length)
  (hbody:∀ (cdv:Value) (A:Around) (outer:List Env) (s:Shared) (H:Hp) (vs:List V) (Q:VK) (E:XK),Room k (A.deeper (envOfC qual (j7 st) s.heap.objs.size f cdv))->Z s H->sp vs H Q E->
   ∃ t,PSs (cxOf CX0 P w K mg base N qual (j7 st) f cdv A outer s H E).nox (jB st) t/\t { nx:=fun _ H'=>Q .non H',rt:=Q} (y0 N vs) H):FnZ P w K mg base CX0 Z (k+1) f fd ps sp:=by
 obtain⟨_,_,_,_,_,_,cdv,_,_,rfl,lk,hcd⟩:=F.ex
 refine jT3 lk hcd S len fun A outer s H vs Q E hr hz hsp=>?_
 obtain⟨t,h,q⟩:=hbody cdv A outer s H vs Q E hr hz hsp
 exact⟨t,h.nox,q⟩
end
structure Callee (P:Program)(w:World)(K:W.Frag)(mg:Str->Option Value)(base:Heap)(Z:Shared->Hp->Prop)(zh:Hp->Prop)(k:Nat)(a:Addr)(sp:Sp):Prop where
 fn:∀ (A:Around) (outer:List Env) (s:Shared) (H:Hp),Env0 P w K mg base A outer s H->zh H->PySem.W.FnAt a s.heap
 run:∀ (A:Around) (outer:List Env) (s:Shared) (H:Hp) (us:List Value) (vs:List V) (Q:VK) (E:XK),Room k A->Env0 P w K mg base A outer s H->Z s H->zh H->Vals vs us->sp vs H Q E->codeAny (model P w) A (.call (.ref a) ⟨us,[]⟩) (CR CX0 outer P w H s Q E) s
theorem Callee.of {P:Program}{w:World}{K:W.Frag}{mg:Str->Option Value}{base:Heap}{x q:Str}{st:Stmt}{k:Nat}{f:Addr}{fd:FuncData}{ps:List Str}{sp:Sp}(F:Fun K x q st f fd)(G:FnOk P w K mg base CX0 k f fd ps sp)(hb:Binds K fd ps []):Callee P w K mg base ZT (fun _=>True) k f sp:=by
 refine⟨fun A outer s H e _=>?_,fun A outer s H us vs Q E hr e _ _ r hs=>?_⟩
 ·obtain⟨oc,od,_,_,_,_,_,_,osl,_,lk,_⟩:=F.ex
  exact⟨_,_,_,_,(e.mod.kin.keeps fun b o z=>(e.bs b o z).1) _ _ lk⟩
 ·have hl:(us++[]).length=ps.length:=by rw[bo,<- r.length]; exact G.len _ _ _ _ hs
  have b:=hb s us (e.mod.kin.keeps fun b o z=>(e.bs b o z).1) hl
  rw[bo] at b
  exact G.run A outer s H ⟨us,[]⟩ us vs Q E hr e b r hs
def jRG (a:Addr)(zh:Hp->Prop)(sp:Sp)(j:Nat)(t:TA):TE:=fun σ H Q=>σ[j]?=some (some (.ref a))/\t σ H fun vs H1=>zh H1/\sp vs H1 Q E0
section
variable {X:Cx}{Z:Shared->Hp->Prop}{zh:Hp->Prop}{k:Nat}{a:Addr}{sp:Sp}{x:Str}{p pos:Pos}{e:Expr}{es:List Expr}{t:TA}{j:Nat}
theorem jNC (F:Callee X.prog X.w X.K X.mg X.base Z zh k a sp)(hr:Room k X.A)(st:ZSt Z)(hz:Z X.s₀ X.H₀)(hex:X.ex=[])(hN:X.N[j]?=some x)(hv:Vis1 X x)
  (ha:JA X (e::es) t) (he:starEach (e::es) X.env=(false,eval e X.env)::starEach es X.env) (hdb:(x==("__debug__" :Str))=false:=by decide) (hcd:(x==("__classdict__" :Str))=false:=by decide) (hpl:(backTo pos (starEach es X.env)).any (·.1)=false:=by rfl):
  JE X (.Call (.Name x p) (e::es) [] pos) (jRG a zh sp j t):=by
 refine⟨fun pins s σ H Q I h=>?_⟩
 obtain⟨hj,h⟩:=h
 refine da (thn (jK0 (pos:=p) hN hv.a hdb hcd pins s σ H (fun v H'=>v= .ref a/\H'=H) I ⟨_,hj,rfl,rfl⟩) fun v s1 ⟨v',H1,I1,r1,q1,q2⟩=>?_)
 subst q1 q2
 cases (show v=Value.ref a from r1)
 have hX:=thn (ha.h pos pins s1 σ H1 _ I1 h) fun us s2 (z:AP X pins σ _ us s2)=>show PySem.W.FnAt a s2.heap/\wpAny (model X.prog X.w) X.A (call (.ref a) ([]++us)) (EP X pins σ Q) X.xe s2 from by
  obtain⟨vs,H2,I2,r,h1,h2⟩:=z
  have un:=I2.base
  rw[hex] at un
  refine⟨F.fn _ _ _ _ I2.env0 h1,fE (dv (F.run X.A X.stack s2 H2 us vs Q E0 hr I2.env0 (st _ _ _ _ _ un hz) h1 r h2) fun r s' hq=>?_)⟩
  cases r with
  | error e=>exact hq.elim
  | ok fl=>
   cases fl with
   | ret u=>exact I2.after hq
   | next=>exact False.elim hq
   | brk=>exact False.elim hq
   | cont=>exact False.elim hq
 rw[he] at hX ⊢
 exact PySem.W.callWith_of (by show ((false || (backTo pos (starEach es X.env)).any (·.1)) || false)=false; rw[hpl]; rfl) PySem.W.keeps_F (eW hX)
end
def nlP (q:Str)(args:Arguments)(body:Expr)(scope:Scope)(cl:List (Str×Addr))(a c:Addr):Heap->Prop:=fun h=>∃ pm ctv,h.get? a=some (kla_obj "<lambda>" q args body scope cl pm c ctv)
theorem nlP.stay {q:Str}{args:Arguments}{body:Expr}{scope:Scope}{cl:List (Str×Addr)}{a c:Addr}(h1 h2:Heap)(p:nlP q args body scope cl a c h1)(k:∀ o,h1.get? a=some o->h2.get? a=some o):nlP q args body scope cl a c h2:=by
 obtain⟨m,t,e⟩:=p
 exact⟨m,t,k _ e⟩
def tLam (q:Str)(args:Arguments)(body:Expr)(scope:Scope)(cl:List (Str×Addr))(T:Addr)(pos:Pos):TE:=fun _ H Q=>TabOk H T pos q/\∀ a c H',H' a=some (.ext (nlP q args body scope cl a c))->H' c=some (.ext (ncP q c))->H' T=some (.tbl (onePs pos c))->ExtT T H H'->H a=none->Q (.ref a) H'
theorem jSY {X:Cx}{args:Arguments}{body:Expr}{scope:Scope}{pos:Pos}{c0 T:Addr}(hcode:X.env.code= .ref c0)(CH:PySem.W.CodeHd X.base c0 T)(hbm:BltAt X.base X.mg)
  (hfree:∀ y∈scope.names,y.2= .free->X.env.scope.names.lookup y.1=some .cell\/X.env.scope.names.lookup y.1=some .free) (hdf:defaultsOf args X.env=([],[])):
  JE X (.Lambda args body scope pos) (tLam (X.env.qual++ "<lambda>") args body scope (jH X.env.cells scope.names []) T pos):=by
 refine⟨fun pins s σ H Q I h=>?_⟩
 obtain⟨tab,h⟩:=h
 refine PySem.W.kla_eval hdf ?_
 have hcl:closureFor scope X.env=pure (jH X.env.cells scope.names []):=jGW fun y hy hz=>I.ok.has y.1 (hfree y hy hz)
 have hg:s.heap.Ns mainGlobals X.mg:=I.mod.glob.keeps I.bk
 have C:=CH.keeps I.bk
 have gT:∀ {ps:Array Value},H T=some (.tbl ps)->mainGlobals≠T:=fun hT z=>by
  obtain⟨o,es,ep,e,_⟩:=I.mod.glob
  have:=(I.bs _ _ e).2
  rw[z,hT] at this
  cases this
 have bT:∀ {ps:Array Value},H T=some (.tbl ps)->s.heap.BuiltinsAt X.mg T:=fun hT=>by
  obtain⟨bm,o,h1,h2,h3,h4,h5,h6,h7⟩:=hbm
  refine⟨bm,o,h1,h2,h3,fun z=>?_,(I.bs _ _ h4).1,h5,h6,h7⟩
  have:=(I.bs _ _ h4).2
  rw[z,hT] at this
  cases this
 rcases tab with hT | ⟨c,hT,hc⟩
 ·refine PySem.W.kla_makeFunction hcl I.ok.glob hg hcode C (I.hok T _ hT) trivial rfl (gT hT) (bT hT) fun c ctv h' tk k1 k2 k3 k4 k5=>?_
  obtain⟨oc,hoc⟩:=ncP.is (q:=X.env.qual++ "<lambda>") k4
  have I1:Inv X pins σ (upd (upd H T (.tbl (#[]++onePs pos c))) c (.ext (ncP (X.env.qual++ "<lambda>") c))) { s with heap:=h',toks:=tk} :=I.grown hT k1 k5 k2 k4 ⟨oc,hoc⟩ ncP.stay
  have I2:=I1.laidX (t':=tk) (a:=h'.objs.size) (φ:=nlP (X.env.qual++ "<lambda>") args body scope (jH X.env.cells scope.names []) h'.objs.size c) (h':=h'.push (kla_obj "<lambda>" (X.env.qual++ "<lambda>") args body scope (jH X.env.cells scope.names []) ((X.mg "__name__").getD .none) c ctv)) (fun b u q=>ae _ q) (aE _) ⟨_,ctv,aA _ rfl⟩ ⟨_,aA _ rfl⟩ nlP.stay
  have hcn:H c=none:=I.hok.fresh k2
  have han:H h'.objs.size=none:=I.hok.fresh (bA k2 (cM k3))
  have ca:c≠h'.objs.size:=aV k3
  have Tc:T≠c:=fun z=>by rw[z,hcn] at hT; cases hT
  have Ta:T≠h'.objs.size:=fun z=>by rw[z,han] at hT; cases hT
  refine⟨.ref _,_,I2,rfl,h _ c _ j9 (by rw[j8 ca,j9]) (by rw[j8 Ta,j8 Tc,j9,kf]) (fun b o e n=>?_) han⟩
  rw[j8 (jC e han),j8 (jC e hcn),j8 n]
  exact e
 ·refine PySem.W.kla_makeFunctionHit (cv:= .ref c) hcl I.ok.glob hg hcode C (I.hok T _ hT) (by exact trivial) (by simp [codeAmong,rawInt]) (bT hT) fun ctv h' tk k1 k2=>?_
  have I2:=I.laidX (t':=tk) (a:=h'.objs.size) (φ:=nlP (X.env.qual++ "<lambda>") args body scope (jH X.env.cells scope.names []) h'.objs.size c) (h':=h'.push (kla_obj "<lambda>" (X.env.qual++ "<lambda>") args body scope (jH X.env.cells scope.names []) ((X.mg "__name__").getD .none) c ctv)) (fun b u q=>ae _ (k1 b u q)) k2 ⟨_,ctv,aA _ rfl⟩ ⟨_,aA _ rfl⟩ nlP.stay
  have han:H h'.objs.size=none:=I.hok.fresh k2
  refine⟨.ref _,_,I2,rfl,h _ c _ j9 (by rw[j8 (jC hc han)]; exact hc) (by rw[j8 (jC hT han)]; exact hT) (fun b o e n=>?_) han⟩
  rw[j8 (jC e han)]
  exact e
theorem jT5 {P:Program}{w:World}{K:W.Frag}{mg:Str->Option Value}{base:Heap}{k:Nat}{q:Str}{args:Arguments}{body:Expr}{scope:Scope}{N ps fs:List Str}{sp:Sp}{cl:List (Str×Addr)}{fv:List V}{a c:Addr}(S:NScope N ps fs scope)(len:∀ vs H Q E,sp vs H Q E->vs.length=ps.length)
  (hb:∀ pm ctv (us:List Value),us.length=ps.length->bindArgs (PySem.W.kla_fn "<lambda>" q args body scope cl pm (.ref c) ctv) ⟨us,[]⟩=pure (ps.zip us))
  (hbody:∀ (A:Around) (outer:List Env) (s:Shared) (H:Hp) (vs:List V) (Q:VK) (E:XK),Room k (A.deeper (envX q scope s.heap.objs.size a (.ref c) cl))->sp vs H Q E->
   ∃ t,PE (cxN P w K mg base N q scope a (.ref c) cl A outer s H) body t/\t (jB4 N vs fv) H Q):
  Callee P w K mg base (fun s H=>ClOk cl s H/\FvOk fs fv cl s) (fun H=>H a=some (.ext (nlP q args body scope cl a c))/\H c=some (.ext (ncP q c))) (k+1) a sp:=by
 refine⟨fun A outer s H e z=>?_,fun A outer s H us vs Q E hr e0 hz zh r hsp=>?_⟩
 ·obtain⟨⟨m,t,g⟩,_,_⟩:=(show ObjOk P w H s.heap a (.ext _) from e.hok a _ z.1)
  exact⟨_,_,_,_,g⟩
 obtain⟨C,Fv⟩:=hz
 obtain⟨⟨pm,ctv,ho⟩,_,_⟩:=(show ObjOk P w H s.heap a (.ext _) from e0.hok a _ zh.1)
 obtain⟨hc,_,_⟩:=(show ObjOk P w H s.heap c (.ext _) from e0.hok c _ zh.2)
 have hl:us.length=ps.length:=r.length.symm.trans (len _ _ _ _ hsp)
 have lim:s.heap.NoLimit:=e0.mod.nolimit.keeps fun b o e=>(e0.bs b o e).1
 refine PySem.W.kla_callFunE hr.depth ho rfl S.co S.gen rfl hc ?_
 rw[hb pm ctv us hl]
 refine ag (wpAny_newFunctionEnv S.nocell (fun y hy=>S.par y.1 (dJ hy).1) (fun h₁ hns hsb=>⟨lim.fresh _ hsb,?_⟩) S.kind)
 show codeAny _ _ (.expr body (envX q scope s.heap.objs.size a (.ref c) cl)) _ _
 have hk:∀ b o,s.heap.get? b=some o->h₁.get? b=some o:=fun b o e=>hsb.extBut b o (aV (ay e)) (ae _ e)
 obtain⟨t,ht,hq⟩:=hbody A outer s H vs Q E (hr.deeper _) hsp
 have I:Inv (cxN P w K mg base N q scope a (.ref c) cl A outer s H) [] (jB4 N vs fv) H { s with heap:=h₁,toks:=s.toks+(ps.zip us).length} :=jDQ S hr.hd e0 hl r C Fv hns hk
 refine PySem.W.kla_codeExpr (bN (ht [] _ (jB4 N vs fv) H _ I hq) (fun u s' hs=>?_) fun e s' hs=>False.elim hs)
 obtain⟨v,H',J,rv,q⟩:=hs
 exact⟨v,H',J.os,J.bare,J.base,J.hok,rv,q⟩
end L2
end
section
namespace TM
open PySem PyProof.Rows
class Od where
 kd:SortKind
 ky:Keyed->Int
 is:Keyed->Prop
abbrev key [Od]:Keyed->Int:=Od.ky
abbrev IsI [Od]:Keyed->Prop:=Od.is
class LtOk (prog:Program) (w:World) (A:Around) (s:Shared) [Od]:Prop where
 lt:∀ {E:Value->Shared->Prop}{st:SortSt}{x y:Keyed}{Q:Option Bool->SortSt->Prop},kindOf st=Od.kd->IsI x->IsI y->Q (some (decide (key x<key y))) st->wpS (model prog w) A E s (lt' x y) Q st
variable [Od]
abbrev AllI (l:List Keyed):Prop:=∀ p∈l,IsI p
abbrev LE (x y:Keyed):Prop:=key x<=key y
def jBC:Bool->Keyed->Array Keyed->Nat->Nat->Nat->StateT SortSt Sem (Option Nat):=sortPriv% PySem.Builtin.gallop
def gallopB: { g:Bool->Keyed->Array Keyed->Nat->Nat->Nat->StateT SortSt Sem (Option Nat) // jBC=g} :=⟨fun _ _ _ _ _ _=>bind _ _,rfl⟩
theorem elP:(sortPriv% PySem.Builtin.elem)=elem':=rfl
theorem ltP:(sortPriv% PySem.Builtin.lt)=lt':=rfl
theorem ltAtP:(sortPriv% PySem.Builtin.ltAt)=ltAt':=rfl
theorem jGR:(sortPriv% PySem.Builtin.gallop)=jBC:=rfl
section
variable {prog:Program}{w:World}{A:Around}{E:Value->Shared->Prop}{s:Shared}
theorem jET [LtOk prog w A s]{st:SortSt}{x y:Keyed}{Q:Option Bool->SortSt->Prop}(hk:kindOf st=Od.kd)(hx:IsI x)(hy:IsI y)(h:Q (some (decide (key x<key y))) st):wpS (model prog w) A E s (lt' x y) Q st:=LtOk.lt hk hx hy h
theorem jJ {st:SortSt}{arr:Array Keyed}{i:Nat}{p:Keyed}{Q:Keyed->SortSt->Prop}(hi:arr[i]?=some p)(h:Q p st):wpS (model prog w) A E s (elem' arr i) Q st:=by
 rw[elem'_eq,hi]
 exact aM h
end
section
variable {prog:Program}{w:World}{A:Around}{E:Value->Shared->Prop}{s:Shared} [LtOk prog w A s]
theorem jAV {left:Bool}{ky:Keyed}{arr:Array Keyed}{base n hint:Nat}{st:SortSt}{Q:Option Nat->SortSt->Prop}(hk:kindOf st=Od.kd)(hky:IsI ky)(hI:∀ i,i<n->∃ p,arr[base+i]?=some p/\IsI p)(hh:hint<n)(B:Nat->Bool)
  (hB:∀ i p,i<n->arr[base+i]?=some p->B i=(if left=true then decide (key p<key ky) else !decide (key ky<key p))) (mono:∀ i j,i<=j->j<n->B j=true->B i=true)
  (h:∀ k,k<=n->(∀ i,i<k->B i=true)->(∀ i,k<=i->i<n->B i=false)->Q (some k) st):wpS (model prog w) A E s (jBC left ky arr base n hint) Q st:=by
 rw[gallopB.2]
 delta gallopB
 dsimp only
 simp only [elP,ltP]
 have bey:∀ i (R:Option Bool->SortSt->Prop),i<n->R (some (B i)) st->wpS (model prog w) A E s (do
   let x <- elem' arr (base+i)
   if left=true then lt' x ky else do
    let r <- lt' ky x
    pure (r.map (!·))) R st:=fun i R hi hR=>by
  obtain⟨p,hp,ip⟩:=hI i hi
  refine aJ (jJ hp ?_)
  have e:=hB i p hi hp
  cases left with
  | true=>
   rw[aq rfl] at e ⊢
   rw[e] at hR
   exact jET hk ip hky hR
  | false=>
   rw[aj ao] at e ⊢
   rw[e] at hR
   exact aJ (jET hk hky ip (aM hR))
 have down:∀ i j,i<=j->j<n->B i=false->B j=false:=fun i j hij hj hi=>by
  cases hb:B j with
  | false=>rfl
  | true=>rw[mono i j hij hj hb] at hi; cases hi
 refine aJ (bey hint _ hh ?_)
 dsimp only
 cases hb:B hint with
 | true=>
  rw[aq rfl]
  refine aJ (di (bW (I:=fun x c st'=>st'=st/\∃ l o,c=(none,l,o)/\l<o/\x+1<=o/\hint+l<n/\B (hint+l)=true)
   (Q:=fun c st'=>st'=st/\∃ l o,c=(none,l,o)/\l<o/\hint+l<n/\B (hint+l)=true/\(n - hint<=o\/(hint+o<n/\B (hint+o)=false))) ?step ?fin ⟨rfl,0,1,rfl,by omega,by omega,by omega,by rw[dh]; exact hb⟩) ?post)
  case post=>
   rintro c st' ⟨rfl,l,o,rfl,a1,a2,a3,a4⟩
   dsimp only
   have p3:∀ i,i<hint+l+1->B i=true:=fun i hi=>mono i (hint+l) (by omega) a2 a3
   have p4:∀ i,hint+min o (n - hint)<=i->i<n->B i=false:=fun i h1 h2=>by
    rcases a4 with a4 | ⟨a4,a5⟩
    ·omega
    ·exact down (hint+o) i (by omega) h2 a5
   refine aJ (di (bW (I:=fun x c st''=>st''=st'/\∃ lo hi,c=(none,lo,hi)/\lo<=hi/\hi<=n/\hi - lo<=n - x/\(∀ i,i<lo->B i=true)/\(∀ i,hi<=i->i<n->B i=false))
    (Q:=fun c st''=>st''=st'/\∃ k,c=(none,k,k)/\k<=n/\(∀ i,i<k->B i=true)/\(∀ i,k<=i->i<n->B i=false)) ?step2 ?fin2 ⟨rfl,hint+l+1,hint+min o (n - hint),rfl,by omega,by omega,by omega,p3,p4⟩) ?post2)
   case post2=>
    rintro c st'' ⟨rfl,k,rfl,k1,k2,k3⟩
    exact aM (h k k1 k2 k3)
   case fin2=>
    rintro c st'' ⟨rfl,lo,hi,rfl,a1,a2,a3,a4,a5⟩
    have:lo=hi:=by omega
    subst this
    exact⟨rfl,lo,rfl,a2,a4,a5⟩
   case step2=>
    rintro x c st'' _ hx ⟨rfl,lo,hi,rfl,a1,a2,a3,a4,a5⟩
    dsimp only
    by_cases hge:lo ≥ hi
    ·rw[aq hge]
     have:lo=hi:=by omega
     subst this
     exact aM ⟨rfl,lo,rfl,a2,a4,a5⟩
    ·rw[aj hge]
     refine aJ (bey _ _ (by omega) ?_)
     dsimp only
     cases hb:B (lo+(hi - lo) / 2) with
     | true=>
      rw[aq rfl]
      exact aM ⟨rfl,lo+(hi - lo) / 2+1,hi,rfl,by omega,a2,by omega,fun i hi'=>mono i _ (by omega) (by omega) hb,a5⟩
     | false=>
      rw[aj ao]
      exact aM ⟨rfl,lo,lo+(hi - lo) / 2,rfl,by omega,by omega,by omega,a4,fun i h1 h2=>down _ i h1 h2 hb⟩
  case fin=>
   rintro c st' ⟨rfl,l,o,rfl,a1,a2,a3,a4⟩
   exact⟨rfl,l,o,rfl,a1,a3,a4, .inl (by omega)⟩
  case step=>
   rintro x c st' _ hx ⟨rfl,l,o,rfl,a1,a2,a3,a4⟩
   dsimp only
   by_cases hge:o ≥ n - hint
   ·rw[aq hge]
    exact aM ⟨rfl,l,o,rfl,a1,a3,a4, .inl hge⟩
   ·rw[aj hge]
    refine aJ (bey _ _ (by omega) ?_)
    dsimp only
    cases hb2:B (hint+o) with
    | true=>
     rw[aj (by decide)]
     exact aM ⟨rfl,o,2*o+1,rfl,by omega,by omega,by omega,hb2⟩
    | false=>
     rw[aq (by decide)]
     exact aM ⟨rfl,l,o,rfl,a1,a3,a4, .inr ⟨by omega,hb2⟩⟩
 | false=>
  rw[aj ao]
  refine aJ (di (bW (I:=fun x c st'=>st'=st/\∃ l o,c=(none,l,o)/\l<o/\x+1<=o/\l<=hint/\B (hint - l)=false)
   (Q:=fun c st'=>st'=st/\∃ l o,c=(none,l,o)/\l<o/\l<=hint/\B (hint - l)=false/\(hint+1<=o\/(o<=hint/\B (hint - o)=true))) ?step ?fin ⟨rfl,0,1,rfl,by omega,by omega,by omega,by rw[Nat.sub_zero]; exact hb⟩) ?post)
  case post=>
   rintro c st' ⟨rfl,l,o,rfl,a1,a2,a3,a4⟩
   dsimp only
   have p3:∀ i,i<hint+1 - min o (hint+1)->B i=true:=fun i hi=>by
    rcases a4 with a4 | ⟨a4,a5⟩
    ·omega
    ·exact mono i (hint - o) (by omega) (by omega) a5
   have p4:∀ i,hint - l<=i->i<n->B i=false:=fun i h1 h2=>down (hint - l) i (by omega) h2 a3
   refine aJ (di (bW (I:=fun x c st''=>st''=st'/\∃ lo hi,c=(none,lo,hi)/\lo<=hi/\hi<=n/\hi - lo<=n - x/\(∀ i,i<lo->B i=true)/\(∀ i,hi<=i->i<n->B i=false))
    (Q:=fun c st''=>st''=st'/\∃ k,c=(none,k,k)/\k<=n/\(∀ i,i<k->B i=true)/\(∀ i,k<=i->i<n->B i=false)) ?step2 ?fin2 ⟨rfl,hint+1 - min o (hint+1),hint - l,rfl,by omega,by omega,by omega,p3,p4⟩) ?post2)
   case post2=>
    rintro c st'' ⟨rfl,k,rfl,k1,k2,k3⟩
    exact aM (h k k1 k2 k3)
   case fin2=>
    rintro c st'' ⟨rfl,lo,hi,rfl,a1,a2,a3,a4,a5⟩
    have:lo=hi:=by omega
    subst this
    exact⟨rfl,lo,rfl,a2,a4,a5⟩
   case step2=>
    rintro x c st'' _ hx ⟨rfl,lo,hi,rfl,a1,a2,a3,a4,a5⟩
    dsimp only
    by_cases hge:lo ≥ hi
    ·rw[aq hge]
     have:lo=hi:=by omega
     subst this
     exact aM ⟨rfl,lo,rfl,a2,a4,a5⟩
    ·rw[aj hge]
     refine aJ (bey _ _ (by omega) ?_)
     dsimp only
     cases hb:B (lo+(hi - lo) / 2) with
     | true=>
      rw[aq rfl]
      exact aM ⟨rfl,lo+(hi - lo) / 2+1,hi,rfl,by omega,a2,by omega,fun i hi'=>mono i _ (by omega) (by omega) hb,a5⟩
     | false=>
      rw[aj ao]
      exact aM ⟨rfl,lo,lo+(hi - lo) / 2,rfl,by omega,by omega,by omega,a4,fun i h1 h2=>down _ i h1 h2 hb⟩
  case fin=>
   rintro c st' ⟨rfl,l,o,rfl,a1,a2,a3,a4⟩
   exact⟨rfl,l,o,rfl,a1,a3,a4, .inl (by omega)⟩
  case step=>
   rintro x c st' _ hx ⟨rfl,l,o,rfl,a1,a2,a3,a4⟩
   dsimp only
   by_cases hge:o ≥ hint+1
   ·rw[aq hge]
    exact aM ⟨rfl,l,o,rfl,a1,a3,a4, .inl hge⟩
   ·rw[aj hge]
    refine aJ (bey _ _ (by omega) ?_)
    dsimp only
    cases hb2:B (hint - o) with
    | true=>
     rw[aq rfl]
     exact aM ⟨rfl,l,o,rfl,a1,a3,a4, .inr ⟨by omega,hb2⟩⟩
    | false=>
     rw[aj ao]
     exact aM ⟨rfl,o,2*o+1,rfl,by omega,by omega,by omega,hb2⟩
end
abbrev jF8 (st:SortSt)(g:Nat):SortSt:=SortSt.mk' (kindOf st) (arrOf st) (pendingOf st) g (failedOf st)
def jBF:Nat->StateT SortSt Sem Unit:=sortPriv% PySem.Builtin.setMinGallop
theorem jJP:(sortPriv% PySem.Builtin.setMinGallop)=jBF:=rfl
theorem jA2 (g:Nat):jBF g=modify fun s=>jF8 s g:=rfl
def jE4:Array Keyed->Array Keyed->StateT SortSt Sem (Array Keyed):=sortPriv% PySem.Builtin.mergeLo
def mergeLoB: { g:Array Keyed->Array Keyed->StateT SortSt Sem (Array Keyed) // jE4=g} :=⟨fun _ _=>bind _ _,rfl⟩
theorem jN0:(sortPriv% PySem.Builtin.mergeLo)=jE4:=rfl
def jE5:Array Keyed->Array Keyed->StateT SortSt Sem (Array Keyed):=sortPriv% PySem.Builtin.mergeHi
def mergeHiB: { g:Array Keyed->Array Keyed->StateT SortSt Sem (Array Keyed) // jE5=g} :=⟨fun _ _=>bind _ _,rfl⟩
theorem jN1:(sortPriv% PySem.Builtin.mergeHi)=jE5:=rfl
abbrev Srt (l:List Keyed):Prop:=l.Pairwise LE
structure ML (a b out:List Keyed)(ia ib:Nat):Prop where
 perm:(out++(a.drop ia++b.drop ib)).Perm (a++b)
 srt:Srt out
 le:∀ x∈out,∀ y∈a.drop ia++b.drop ib,LE x y
theorem Srt.drop {l:List Keyed}(h:Srt l)(i:Nat):Srt (l.drop i):=h.sublist (List.drop_sublist _ _)
theorem Srt.take {l:List Keyed}(h:Srt l)(i:Nat):Srt (l.take i):=h.sublist (eV _ _)
theorem kX {l m:List Keyed}(h1:Srt l)(h2:Srt m)(h:∀ x∈l,∀ y∈m,LE x y):Srt (l++m):=cK.mpr ⟨h1,h2,h⟩
theorem ML.takeA {a b out:List Keyed}{ia ib:Nat}(h:ML a b out ia ib)(sa:Srt a)(k:Nat)(hc:∀ x∈(a.drop ia).take k,∀ y∈b.drop ib,LE x y):ML a b (out++(a.drop ia).take k) (ia+k) ib:=by
 have e:a.drop (ia+k)=(a.drop ia).drop k:=by rw[g8]
 refine⟨?_,kX h.srt ((sa.drop ia).take k) fun x hx y hy=>h.le x hx y (be _ (cn hy)),fun x hx y hy=>?_⟩
 ·refine List.Perm.trans ?_ h.perm
  rw[e]
  refine fw ?_
  rw[aX,<- aX ((a.drop ia).take k),bf]
 ·rcases aU.mp hx with q | q
  ·refine h.le x q y ?_
   rcases aU.mp hy with z | z
   ·rw[e] at z
    exact be _ (dN z)
   ·exact aQ _ z
  ·rcases aU.mp hy with z | z
   ·rw[e] at z
    have s:=sa.drop ia
    rw[<- bf k (a.drop ia)] at s
    exact(cK.mp s).2.2 x q y z
   ·exact hc x q y z
theorem ML.takeB {a b out:List Keyed}{ia ib:Nat}(h:ML a b out ia ib)(sb:Srt b)(k:Nat)(hc:∀ x∈(b.drop ib).take k,∀ y∈a.drop ia,LE x y):ML a b (out++(b.drop ib).take k) ia (ib+k):=by
 have e:b.drop (ib+k)=(b.drop ib).drop k:=by rw[g8]
 refine⟨?_,kX h.srt ((sb.drop ib).take k) fun x hx y hy=>h.le x hx y (aQ _ (cn hy)),fun x hx y hy=>?_⟩
 ·refine List.Perm.trans ?_ h.perm
  rw[e,aX]
  refine cZ out ?_
  refine dG.trans ?_
  rw[aX]
  refine cZ _ ?_
  refine dG.trans ?_
  rw[bf]
 ·rcases aU.mp hx with q | q
  ·refine h.le x q y ?_
   rcases aU.mp hy with z | z
   ·exact be _ z
   ·rw[e] at z
    exact aQ _ (dN z)
  ·rcases aU.mp hy with z | z
   ·exact hc x q y z
   ·rw[e] at z
    have s:=sb.drop ib
    rw[<- bf k (b.drop ib)] at s
    exact(cK.mp s).2.2 x q y z
theorem ML.outA {a b out:List Keyed}{ia ib:Nat}(h:ML a b out ia ib)(sa:Srt a)(hb:b.length<=ib):(out++a.drop ia++b.drop ib).Perm (a++b)/\Srt (out++a.drop ia++b.drop ib):=by
 refine⟨by rw[aX]; exact h.perm,?_⟩
 rw[eG hb,bo]
 exact kX h.srt (sa.drop ia) fun x hx y hy=>h.le x hx y (be _ hy)
theorem ML.outB {a b out:List Keyed}{ia ib:Nat}(h:ML a b out ia ib)(sb:Srt b)(ha:a.length<=ia):(out++a.drop ia++b.drop ib).Perm (a++b)/\Srt (out++a.drop ia++b.drop ib):=by
 refine⟨by rw[aX]; exact h.perm,?_⟩
 rw[eG ha,bo]
 exact kX h.srt (sb.drop ib) fun x hx y hy=>h.le x hx y (aQ _ hy)
theorem ML.last {a b out:List Keyed}{ia ib:Nat}(h:ML a b out ia ib)(sa:Srt a)(sb:Srt b)(ha:∀ x∈b,∀ y∈a.drop ia,LE x y):(out++b.drop ib++a.drop ia).Perm (a++b)/\Srt (out++b.drop ib++a.drop ia):=by
 refine⟨?_,?_⟩
 ·rw[aX]
  exact(cZ out dG).trans h.perm
 ·refine kX (kX h.srt (sb.drop ib) fun x hx y hy=>h.le x hx y (aQ _ hy)) (sa.drop ia) fun x hx y hy=>?_
  rcases aU.mp hx with q | q
  ·exact h.le x q y (be _ hy)
  ·exact ha x (dN q) y hy
theorem jA9 {l:List Keyed}{i:Nat}{p:Keyed}(h:l[i]?=some p):(l.drop i).take 1=[p]:=by
 obtain⟨hi,e⟩:=ar.mp h
 rw[<- List.getElem_cons_drop (h:=hi),e]
 rfl
theorem jDF {l:List Keyed}(h:Srt l){i j:Nat}{x y:Keyed}(hx:l[i]?=some x)(hy:l[j]?=some y)(hij:i<=j):LE x y:=by
 obtain⟨h1,rfl⟩:=ar.mp hx
 obtain⟨h2,rfl⟩:=ar.mp hy
 by_cases e:i=j
 ·subst e; exact dP _
 ·exact cY.mp h i j h1 h2 (by omega)
theorem jCL {l:List Keyed}{i:Nat}{y:Keyed}(h:y∈l.drop i):∃ j,i<=j/\l[j]?=some y:=by
 obtain⟨k,hk⟩:=bH h
 rw[g9] at hk
 exact⟨i+k,by omega,hk⟩
theorem jA4 {l:List Keyed}{i k:Nat}{y:Keyed}(h:y∈(l.drop i).take k):∃ j,i<=j/\j<i+k/\l[j]?=some y:=by
 obtain⟨n,hn⟩:=bH h
 have hlt:n<k:=by
  have:=(ar.mp hn).1
  rw[bP] at this
  omega
 rw[cc hlt,g9] at hn
 exact⟨i+n,by omega,by omega,hn⟩
theorem jC4 {a:Array Keyed}{i:Nat} :(a.extract i a.size).toList=a.toList.drop i:=by
 rw[eX,dH]
 exact cx (by rw[List.length_drop,aL]; exact aE _)
theorem ext_k {a:Array Keyed}{i k:Nat} :(a.extract i (i+k)).toList=(a.toList.drop i).take k:=by
 rw[eX,dH,cL]
structure Two (a b:Array Keyed):Prop where
 ia:AllI a.toList
 ib:AllI b.toList
 sa:Srt a.toList
 sb:Srt b.toList
 na:0<a.size
 nb:0<b.size
 last:∀ x∈b.toList,∀ y,a.toList[a.size - 1]?=some y->key x<key y
 first:∀ y∈a.toList,∀ p,b.toList[0]?=some p->key p<key y
def kT (a b r:Array Keyed):Prop:=r.toList.Perm (a.toList++b.toList)/\Srt r.toList
structure SG (st st':SortSt):Prop where
 k:kindOf st'=kindOf st
 a:arrOf st'=arrOf st
 p:pendingOf st'=pendingOf st
 f:failedOf st'=failedOf st
theorem SG.refl (st:SortSt):SG st st:=⟨rfl,rfl,rfl,rfl⟩
theorem SG.gal {st st':SortSt}(h:SG st st')(g:Nat):SG st (jF8 st' g):=⟨h.k,h.a,h.p,h.f⟩
abbrev MA (a b out:Array Keyed)(ia ib:Nat):Prop:=ML a.toList b.toList out.toList ia ib
section
variable {a b out:Array Keyed}{i j k:Nat}
theorem at_list {p:Keyed} :a[i]?=some p↔a.toList[i]?=some p:=by rw[bJ]
theorem yB (h:i<a.size):∃ p,a[i]?=some p/\a.toList[i]?=some p:=⟨a[i],by simp [h],by simp [h]⟩
theorem MA.doneA (T:Two a b)(h:MA a b out i j)(hj:b.size<=j):kT a b (out++a.extract i a.size++b.extract j b.size):=by
 unfold kT
 rw[bv,bv,jC4,jC4]
 exact ML.outA h T.sa (by rw[aL]; exact hj)
theorem MA.doneB (T:Two a b)(h:MA a b out i j)(hi:a.size<=i):kT a b (out++a.extract i a.size++b.extract j b.size):=by
 unfold kT
 rw[bv,bv,jC4,jC4]
 exact ML.outB h T.sb (by rw[aL]; exact hi)
theorem MA.doneL (T:Two a b)(h:MA a b out i j)(hi:i+1=a.size):kT a b (out++b.extract j b.size++a.extract i a.size):=by
 unfold kT
 rw[bv,bv,jC4,jC4]
 refine ML.last h T.sa T.sb fun x hx y hy=>?_
 obtain⟨n,h1,h2⟩:=jCL hy
 have:n=a.size - 1:=by
  have:=(ar.mp h2).1
  rw[aL] at this
  omega
 subst this
 exact cy (T.last x hx y h2)
theorem MA.pushB (T:Two a b)(h:MA a b out i j){p q:Keyed}(hp:b[j]?=some p)(hc:∀ y∈a.toList.drop i,LE p y):MA a b (out.push p) i (j+1):=by
 have:=ML.takeB h T.sb 1 (by
  rw[jA9 (at_list.mp hp)]
  intro x hx
  rw[aC.mp hx]
  exact hc)
 rw[jA9 (at_list.mp hp)] at this
 unfold MA
 rw[dO]
 exact this
theorem MA.pushA (T:Two a b)(h:MA a b out i j){p q:Keyed}(hp:a[i]?=some p)(hc:∀ y∈b.toList.drop j,LE p y):MA a b (out.push p) (i+1) j:=by
 have:=ML.takeA h T.sa 1 (by
  rw[jA9 (at_list.mp hp)]
  intro x hx
  rw[aC.mp hx]
  exact hc)
 rw[jA9 (at_list.mp hp)] at this
 unfold MA
 rw[dO]
 exact this
theorem MA.appA (T:Two a b)(h:MA a b out i j)(k:Nat)(hc:∀ n x,i<=n->n<i+k->a.toList[n]?=some x->∀ y∈b.toList.drop j,LE x y):MA a b (out++a.extract i (i+k)) (i+k) j:=by
 unfold MA
 rw[bv,ext_k]
 exact ML.takeA h T.sa k fun x hx y hy=>by
  obtain⟨n,h1,h2,h3⟩:=jA4 hx
  exact hc n x h1 h2 h3 y hy
theorem MA.appB (T:Two a b)(h:MA a b out i j)(k:Nat)(hc:∀ n x,j<=n->n<j+k->b.toList[n]?=some x->∀ y∈a.toList.drop i,LE x y):MA a b (out++b.extract j (j+k)) i (j+k):=by
 unfold MA
 rw[bv,ext_k]
 exact ML.takeB h T.sb k fun x hx y hy=>by
  obtain⟨n,h1,h2,h3⟩:=jA4 hx
  exact hc n x h1 h2 h3 y hy
theorem Two.atA (T:Two a b)(h:i<a.size):∃ p,a[i]?=some p/\IsI p:=by
 obtain⟨p,h1,h2⟩:=yB h
 exact⟨p,h1,T.ia p (aN h2)⟩
theorem Two.atB (T:Two a b)(h:i<b.size):∃ p,b[i]?=some p/\IsI p:=by
 obtain⟨p,h1,h2⟩:=yB h
 exact⟨p,h1,T.ib p (aN h2)⟩
theorem jEB (s:Srt a.toList){p q:Keyed}(hp:a[i]?=some p)(h:LE q p):∀ y∈a.toList.drop i,LE q y:=fun y hy=>by
 obtain⟨n,h1,h2⟩:=jCL hy
 exact dQ h (jDF s (at_list.mp hp) h2 h1)
end
section
variable {prog:Program}{w:World}{A:Around}{E:Value->Shared->Prop}{s:Shared} [LtOk prog w A s]
theorem jQP {st:SortSt}{a:Array Keyed}{i:Nat}{p:Keyed}{Q:Option Nat->SortSt->Prop}(hk:kindOf st=Od.kd)(hp:IsI p)(ha:AllI a.toList)(sa:Srt a.toList)(hi:i<a.size)
  (h:∀ k,i+k<=a.size->(∀ n x,i<=n->n<i+k->a.toList[n]?=some x->LE x p)->(∀ n x,i+k<=n->a.toList[n]?=some x->key p<key x)->Q (some k) st):
  wpS (model prog w) A E s (jBC false p a i (a.size - i) 0) Q st:=by
 refine jAV hk hp (fun n hn=>?_) (by omega) (fun n=>match a[i+n]? with | some x=>!decide (key p<key x) | none=>false) (fun n x hn hx=>?_) (fun n m hnm hm hb=>?_) fun k hk1 hk2 hk3=>h k (by omega) (fun n x h1 h2 h3=>?_) fun n x h1 h2=>?_
 ·obtain⟨q,q1,q2⟩:=yB (a:=a) (i:=i+n) (by omega)
  exact⟨q,q1,ha q (aN q2)⟩
 ·rw[hx,aj ao]
 ·obtain⟨x,x1,x2⟩:=yB (a:=a) (i:=i+n) (by omega)
  obtain⟨y,y1,y2⟩:=yB (a:=a) (i:=i+m) (by omega)
  rw[y1] at hb
  rw[x1]
  have:=jDF sa x2 y2 (by omega)
  have hb:¬ key p<key y:=by simpa using hb
  show (!decide (key p<key x))=true
  rw[gj,fU]
  have:key x<=key y:=this
  omega
 ·have:=hk2 (n - i) (by omega)
  rw[show i+(n - i)=n by omega,at_list.mpr h3] at this
  have this:¬ key p<key x:=by simpa using this
  show key x<=key p
  omega
 ·have hn:=(ar.mp h2).1
  rw[aL] at hn
  have:=hk3 (n - i) (by omega) (by omega)
  rw[show i+(n - i)=n by omega,at_list.mpr h2] at this
  simpa using this
theorem jQQ {st:SortSt}{a:Array Keyed}{i:Nat}{p:Keyed}{Q:Option Nat->SortSt->Prop}(hk:kindOf st=Od.kd)(hp:IsI p)(ha:AllI a.toList)(sa:Srt a.toList)(hi:i<a.size)
  (h:∀ k,i+k<=a.size->(∀ n x,i<=n->n<i+k->a.toList[n]?=some x->key x<key p)->(∀ n x,i+k<=n->a.toList[n]?=some x->LE p x)->Q (some k) st):
  wpS (model prog w) A E s (jBC true p a i (a.size - i) 0) Q st:=by
 refine jAV hk hp (fun n hn=>?_) (by omega) (fun n=>match a[i+n]? with | some x=>decide (key x<key p) | none=>false) (fun n x hn hx=>?_) (fun n m hnm hm hb=>?_) fun k hk1 hk2 hk3=>h k (by omega) (fun n x h1 h2 h3=>?_) fun n x h1 h2=>?_
 ·obtain⟨q,q1,q2⟩:=yB (a:=a) (i:=i+n) (by omega)
  exact⟨q,q1,ha q (aN q2)⟩
 ·rw[hx,aq rfl]
 ·obtain⟨x,x1,x2⟩:=yB (a:=a) (i:=i+n) (by omega)
  obtain⟨y,y1,y2⟩:=yB (a:=a) (i:=i+m) (by omega)
  rw[y1] at hb
  rw[x1]
  have:=jDF sa x2 y2 (by omega)
  have hb:key y<key p:=bj hb
  show decide (key x<key p)=true
  rw[b0]
  have:key x<=key y:=this
  omega
 ·have:=hk2 (n - i) (by omega)
  rw[show i+(n - i)=n by omega,at_list.mpr h3] at this
  exact bj this
 ·have hn:=(ar.mp h2).1
  rw[aL] at hn
  have:=hk3 (n - i) (by omega) (by omega)
  rw[show i+(n - i)=n by omega,at_list.mpr h2] at this
  have this:¬ key x<key p:=eJ this
  show key p<=key x
  omega
end
section
variable {prog:Program}{w:World}{A:Around}{E:Value->Shared->Prop}{s:Shared} [LtOk prog w A s]
theorem bp {a b:Nat}(h:a=b):(a==b)=true:=de.mpr h
theorem bn {a b:Nat}(h:¬ a=b):¬ (a==b)=true:=fun z=>h (de.mp z)
structure LoI (a b:Array Keyed)(st:SortSt)(out:Array Keyed)(ia ib:Nat)(st':SortSt):Prop where
 m:MA a b out ia ib
 i:ia+1<a.size
 j:ib<b.size
 s:SG st st'
theorem jG4 {a b:Array Keyed}{st:SortSt}{Q:Array Keyed->SortSt->Prop}(hk:kindOf st=Od.kd)(T:Two a b)(h:∀ r st',kT a b r->SG st st'->Q r st'):wpS (model prog w) A E s (jE4 a b) Q st:=by
 rw[mergeLoB.2]
 delta mergeLoB
 dsimp only
 simp only [elP,ltP,jGR,jJP]
 have na:=T.na
 have nb:=T.nb
 refine aJ (hG (ck ⟨rfl,?_⟩))
 obtain⟨p0,hp0,ip0⟩:=T.atB nb
 refine aJ (jJ hp0 ?_)
 have M0:MA a b #[p0] 0 1:=by
  have z:MA a b #[] 0 0:=⟨by show (([]:List Keyed)++(a.toList.drop 0++b.toList.drop 0)).Perm _; rw[i6,hV,hV],List.Pairwise.nil,fun x hx=>by cases hx⟩
  have:=MA.pushB (q:=p0) T z hp0 fun y hy=>cy (T.first y (dN hy) p0 (at_list.mp hp0))
  exact this
 by_cases e1:1=b.size
 ·rw[aq (bp e1)]
  exact aM (h _ _ (MA.doneA T M0 (by omega)) (SG.refl _))
 rw[aj (bn e1)]
 by_cases e2:0+1=a.size
 ·rw[aq (bp e2)]
  exact aM (h _ _ (MA.doneL T M0 e2) (SG.refl _))
 rw[aj (bn e2)]
 refine aJ (gC ?_)
 refine aJ (di (bW (I:=fun x c st'=>∃ out ia ib mg,c=(none,out,ia,ib,mg)/\LoI a b st out ia ib st'/\x+1<=ia+ib)
  (Q:=fun c st'=>∃ r,c.1=some r/\kT a b r/\SG st st') ?step ?fin ⟨_,0,1,_,rfl,⟨M0,by omega,by omega,SG.refl _⟩,by omega⟩) ?post)
 case post=>
  rintro ⟨r0,c⟩ st' ⟨r,hr,d,g⟩
  have hr:r0=some r:=hr
  subst hr
  exact aM (h r st' d g)
 case fin=>
  rintro c st' ⟨out,ia,ib,mg,rfl,I0,hx⟩
  have:=I0.i
  have:=I0.j
  omega
 case step=>
  rintro x c st1 _ hx ⟨out,ia,ib,mg,rfl,I0,hxx⟩
  dsimp only
  refine aJ (di (bW (I:=fun y c st'=>∃ out' ia' ib' ac bc,c=(none,out',ia',ib',ac,bc)/\LoI a b st out' ia' ib' st'/\ia+ib<=ia'+ib'/\(y=0\/ia+ib<ia'+ib'))
   (Q:=fun c st'=>(∃ r,c.1=some r/\kT a b r/\SG st st')\/∃ out' ia' ib' ac bc,c=(none,out',ia',ib',ac,bc)/\LoI a b st out' ia' ib' st'/\ia+ib<ia'+ib') ?step1 ?fin1 ⟨_,_,_,_,_,rfl,I0,by omega, .inl rfl⟩) ?post1)
  case fin1=>
   rintro c st' ⟨out',ia',ib',ac,bc,rfl,I1,h1,h2⟩
   exact .inr ⟨_,_,_,_,_,rfl,I1,by omega⟩
  case step1=>
   rintro y c st2 _ hy ⟨out',ia',ib',ac,bc,rfl,I1,h1,h2⟩
   dsimp only
   obtain⟨pb,hpb,ipb⟩:=T.atB I1.j
   obtain⟨pa,hpa,ipa⟩:=T.atA (i:=ia') (by have:=I1.i; omega)
   have ii:=I1.i
   have jj:=I1.j
   refine aJ (jJ hpb (aJ (jJ hpa (aJ (jET (I1.s.k.trans hk) ipb ipa ?_)))))
   dsimp only
   by_cases hlt:key pb<key pa
   ·rw[aO hlt,aq rfl]
    refine aJ (jJ hpb ?_)
    have M2:=MA.pushB (q:=pb) T I1.m hpb (jEB T.sa hpa (cy hlt))
    by_cases f1:ib'+1=b.size
    ·rw[aq (bp f1)]
     exact aM (.inl ⟨_,rfl,MA.doneA T M2 (by omega),I1.s⟩)
    rw[aj (bn f1)]
    split
    ·exact aM (.inr ⟨_,_,_,_,_,rfl,⟨M2,ii,by omega,I1.s⟩,by omega⟩)
    ·exact aM ⟨_,_,_,_,_,rfl,⟨M2,ii,by omega,I1.s⟩,by omega, .inr (by omega)⟩
   ·rw[aR hlt,aj ao]
    refine aJ (jJ hpa ?_)
    have M2:=MA.pushA (q:=pa) T I1.m hpa (jEB T.sb hpb (by show key pa<=key pb; omega))
    by_cases f1:ia'+1+1=a.size
    ·rw[aq (bp f1)]
     exact aM (.inl ⟨_,rfl,MA.doneL T M2 f1,I1.s⟩)
    rw[aj (bn f1)]
    split
    ·exact aM (.inr ⟨_,_,_,_,_,rfl,⟨M2,by omega,jj,I1.s⟩,by omega⟩)
    ·exact aM ⟨_,_,_,_,_,rfl,⟨M2,by omega,jj,I1.s⟩,by omega, .inr (by omega)⟩
  case post1=>
   rintro c st2 (⟨r,hr,d,g⟩ | ⟨out1,ia1,ib1,ac,bc,rfl,I1,h1⟩)
   ·obtain⟨r0,c⟩:=c
    have hr:r0=some r:=hr
    subst hr
    exact aM ⟨r,rfl,d,g⟩
   dsimp only
   refine aJ (hG (ck ⟨rfl,?_⟩))
   refine aJ (di (bW (I:=fun y c st'=>∃ out' ia' ib' mg' ac bc,c=(none,out',ia',ib',mg',ac,bc)/\LoI a b st out' ia' ib' st'/\ia+ib<ia'+ib')
    (Q:=fun c st'=>(∃ r,c.1=some r/\kT a b r/\SG st st')\/∃ out' ia' ib' mg' ac bc,c=(none,out',ia',ib',mg',ac,bc)/\LoI a b st out' ia' ib' st'/\ia+ib<ia'+ib') ?step2 ?fin2 ⟨_,_,_,_,_,_,rfl,I1,h1⟩) ?post2)
   case fin2=>
    rintro c st' ⟨out',ia',ib',mg',ac,bc,rfl,I2,h2⟩
    exact .inr ⟨_,_,_,_,_,_,rfl,I2,h2⟩
   case post2=>
    rintro c st3 (⟨r,hr,d,g⟩ | ⟨out2,ia2,ib2,mg2,ac,bc,rfl,I2,h2⟩)
    ·obtain⟨r0,c⟩:=c
     have hr:r0=some r:=hr
     subst hr
     exact aM ⟨r,rfl,d,g⟩
    dsimp only
    rw[jA2]
    exact aJ (eL (aM ⟨_,_,_,_,rfl,⟨I2.m,I2.i,I2.j,I2.s.gal _⟩,by omega⟩))
   case step2=>
    clear I0 I1
    rintro y c st2 _ hy ⟨out,ia,ib,mg',ac,bc,rfl,I0,h2⟩
    dsimp only
    obtain⟨pb,hpb,ipb⟩:=T.atB I0.j
    by_cases hg:mg'>1
    case' pos=>
     rw[aq hg]
     generalize hgg:mg' - 1=gg
    case' neg=>
     rw[aj hg]
     generalize hgg:mg'=gg
    all_goals
     rw[jA2]
     refine aJ (eL ?_)
     have G1:=I0.s.gal gg
     refine aJ (jJ hpb ?_)
     refine aJ (jQP (G1.k.trans hk) ipb T.ia T.sa (by have:=I0.i; omega) fun k1 g1 g2 g3=>?_)
     dsimp only
     have M1:=MA.appA T I0.m k1 (fun n x h1 h2 h3=>jEB T.sb hpb (g2 n x h1 h2 h3))
     have hgt:∀ y∈a.toList.drop (ia+k1),LE pb y:=fun y hy=>by
      obtain⟨n,h1,h2⟩:=jCL hy
      exact cy (g3 n y h1 h2)
     have jb:=I0.j
     by_cases e0:k1>0
     case' pos=>
      rw[aq e0]
      by_cases f1:ia+k1+1=a.size
      ·rw[aq (bp f1)]
       exact aM (.inl ⟨_,rfl,MA.doneL T M1 f1,G1⟩)
      rw[aj (bn f1)]
      by_cases f2:ia+k1=a.size
      ·rw[aq (bp f2)]
       exact aM (.inl ⟨_,rfl,MA.doneB T M1 (by omega),G1⟩)
      rw[aj (bn f2)]
      obtain⟨pa,hpa,ipa⟩:=T.atA (i:=ia+k1) (by omega)
      have hz:ia+k1<a.size:=by omega
      generalize hiz:ia+k1=iz at*
     case' neg=>
      rw[aj e0]
      have e0':k1=0:=by omega
      subst e0'
      have M1:=I0.m
      obtain⟨pa,hpa,ipa⟩:=T.atA (i:=ia) (by have:=I0.i; omega)
      have hz:ia<a.size:=by have:=I0.i; omega
      rw[dh] at hgt
      have hia:=I0.i
      generalize hiz:ia=iz at*
     all_goals
      refine aJ (jJ hpb ?_)
      have M2:=MA.pushB (q:=pb) T M1 hpb hgt
      by_cases e1:ib+1=b.size
      ·rw[aq (bp e1)]
       exact aM (.inl ⟨_,rfl,MA.doneA T M2 (by omega),G1⟩)
      rw[aj (bn e1)]
      refine aJ (jJ hpa ?_)
      refine aJ (jQQ (G1.k.trans hk) ipa T.ib T.sb (by omega) fun k2 l1 l2 l3=>?_)
      dsimp only
      have M3:=MA.appB T M2 k2 (fun n x h1 h2 h3=>jEB T.sa hpa (cy (l2 n x h1 h2 h3)))
      have fin3:∀ y∈b.toList.drop (ib+1+k2),LE pa y:=fun y hy=>by
       obtain⟨n,h1,h2⟩:=jCL hy
       exact l3 n y h1 h2
      by_cases e2:k2>0
      ·rw[aq e2]
       by_cases e3:ib+1+k2=b.size
       ·rw[aq (bp e3)]
        exact aM (.inl ⟨_,rfl,MA.doneA T M3 (by omega),G1⟩)
       rw[aj (bn e3)]
       refine aJ (jJ hpa ?_)
       have M4:=MA.pushA (q:=pa) T M3 hpa fin3
       by_cases e4:iz+1+1=a.size
       ·rw[aq (bp e4)]
        exact aM (.inl ⟨_,rfl,MA.doneL T M4 e4,G1⟩)
       rw[aj (bn e4)]
       split
       ·exact aM (.inr ⟨_,_,_,_,_,_,rfl,⟨M4,by omega,by omega,G1⟩,by omega⟩)
       ·exact aM ⟨_,_,_,_,_,_,rfl,⟨M4,by omega,by omega,G1⟩,by omega⟩
      ·rw[aj e2]
       have e0:k2=0:=by omega
       subst e0
       refine aJ (jJ hpa ?_)
       have M4:=MA.pushA (q:=pa) T M2 hpa fin3
       by_cases e4:iz+1+1=a.size
       ·rw[aq (bp e4)]
        exact aM (.inl ⟨_,rfl,MA.doneL T M4 e4,G1⟩)
       rw[aj (bn e4)]
       split
       ·exact aM (.inr ⟨_,_,_,_,_,_,rfl,⟨M4,by omega,by omega,G1⟩,by omega⟩)
       ·exact aM ⟨_,_,_,_,_,_,rfl,⟨M4,by omega,by omega,G1⟩,by omega⟩
end
structure MHL (tot xa xb o:List Keyed):Prop where
 perm:(xa++xb++o).Perm tot
 srt:Srt o
 le:∀ x∈o,∀ y∈xa++xb,LE y x
theorem MHL.takeA {tot u v xb o:List Keyed}(h:MHL tot (u++v) xb o)(s:Srt (u++v))(hc:∀ x∈v,∀ y∈xb,LE y x):MHL tot u xb (v++o):=by
 have sp:=cK.mp s
 refine⟨?_,kX sp.2.1 h.srt fun x hx y hy=>h.le y hy x (be _ (aQ _ hx)),fun x hx y hy=>?_⟩
 ·refine List.Perm.trans ?_ h.perm
  rw[aX,aX,aX]
  refine cZ u ?_
  rw[<- aX,<- aX]
  exact gk o dG
 ·rcases aU.mp hx with q | q
  ·rcases aU.mp hy with z | z
   ·exact sp.2.2 y z x q
   ·exact hc x q y z
  ·refine h.le x q y ?_
   rcases aU.mp hy with z | z
   ·exact be _ (be _ z)
   ·exact aQ _ z
theorem MHL.takeB {tot u v xa o:List Keyed}(h:MHL tot xa (u++v) o)(s:Srt (u++v))(hc:∀ x∈v,∀ y∈xa,LE y x):MHL tot xa u (v++o):=by
 have sp:=cK.mp s
 refine⟨?_,kX sp.2.1 h.srt fun x hx y hy=>h.le y hy x (aQ _ (aQ _ hx)),fun x hx y hy=>?_⟩
 ·refine List.Perm.trans (fw ?_) h.perm
  simp only [aX]
 ·rcases aU.mp hx with q | q
  ·rcases aU.mp hy with z | z
   ·exact hc x q y z
   ·exact sp.2.2 y z x q
  ·refine h.le x q y ?_
   rcases aU.mp hy with z | z
   ·exact be _ z
   ·exact aQ _ (be _ z)
theorem MHL.out {tot xa xb o:List Keyed}(h:MHL tot xa xb o)(s:Srt (xa++xb)):(xa++xb++o).Perm tot/\Srt (xa++xb++o):=
 ⟨h.perm,kX s h.srt fun x hx y hy=>h.le y hy x hx⟩
theorem MHL.outF {tot xa xb o:List Keyed}(h:MHL tot xa xb o)(s:Srt (xb++xa)):(xb++xa++o).Perm tot/\Srt (xb++xa++o):=
 ⟨(gk o dG).trans h.perm,kX s h.srt fun x hx y hy=>h.le y hy x (by
  rcases aU.mp hx with z | z
  ·exact aQ _ z
  ·exact be _ z)⟩
theorem jH5 {l:List Keyed}{n:Nat}{p:Keyed}(hn:0<n)(h:l[n - 1]?=some p):l.take n=l.take (n - 1)++[p]:=by
 obtain⟨m,rfl⟩:∃ m,n=m+1:=⟨n - 1,by omega⟩
 rw[Nat.add_sub_cancel] at h ⊢
 rw[List.take_succ,h]
 rfl
theorem jH4 {l:List Keyed}{k n:Nat}(hk:k<=n):l.take n=l.take k++(l.drop k).take (n - k):=by
 obtain⟨m,rfl⟩:∃ m,n=k+m:=⟨n - k,by omega⟩
 rw[cL,List.take_add]
theorem jAE {a:Array Keyed}{k n:Nat} :(a.extract k n).toList=(a.toList.drop k).take (n - k):=by
 rw[eX,dH]
theorem jB1 {a:Array Keyed}{n:Nat} :(a.extract 0 n).toList=a.toList.take n:=by
 rw[jAE,hV,Nat.sub_zero]
abbrev MH (a b out:Array Keyed)(na nb:Nat):Prop:=MHL (a.toList++b.toList) (a.toList.take na) (b.toList.take nb) out.toList.reverse
theorem jCK {l:List Keyed}{n:Nat}{y:Keyed}(h:y∈l.take n):∃ j,j<n/\l[j]?=some y:=by
 obtain⟨k,hk⟩:=bH h
 have hlt:k<n:=by
  have:=(ar.mp hk).1
  rw[bP] at this
  omega
 rw[cc hlt] at hk
 exact⟨k,hlt,hk⟩
section
variable {a b out:Array Keyed}{i j k:Nat}
theorem jCH (s:Srt a.toList){p q:Keyed}(hp:a[i - 1]?=some p)(h:LE p q):∀ y∈a.toList.take i,LE y q:=fun y hy=>by
 obtain⟨n,h1,h2⟩:=jCK hy
 exact dQ (jDF s h2 (at_list.mp hp) (by omega)) h
theorem MH.pushA (T:Two a b)(h:MH a b out i j){p:Keyed}(hi:0<i)(hp:a[i - 1]?=some p)(hc:∀ y∈b.toList.take j,LE y p):MH a b (out.push p) (i - 1) j:=by
 have e:=jH5 hi (at_list.mp hp)
 have s:=T.sa.take i
 unfold MH at h ⊢
 rw[e] at h s
 rw[dO,fo]
 exact h.takeA s fun x hx=>by rw[aC.mp hx]; exact hc
theorem MH.pushB (T:Two a b)(h:MH a b out i j){p:Keyed}(hj:0<j)(hp:b[j - 1]?=some p)(hc:∀ y∈a.toList.take i,LE y p):MH a b (out.push p) i (j - 1):=by
 have e:=jH5 hj (at_list.mp hp)
 have s:=T.sb.take j
 unfold MH at h ⊢
 rw[e] at h s
 rw[dO,fo]
 exact h.takeB s fun x hx=>by rw[aC.mp hx]; exact hc
theorem MH.appA (T:Two a b)(h:MH a b out i j)(hk:k<=i)(hc:∀ n x,k<=n->n<i->a.toList[n]?=some x->∀ y∈b.toList.take j,LE y x):MH a b (out++(a.extract k i).reverse) k j:=by
 have e:=jH4 (l:=a.toList) hk
 have s:=T.sa.take i
 unfold MH at h ⊢
 rw[e] at h s
 rw[bv,dj,fo,jn,jAE]
 exact h.takeA s fun x hx y hy=>by
  obtain⟨n,h1,h2,h3⟩:=jA4 hx
  exact hc n x h1 (by omega) h3 y hy
theorem MH.appB (T:Two a b)(h:MH a b out i j)(hk:k<=j)(hc:∀ n x,k<=n->n<j->b.toList[n]?=some x->∀ y∈a.toList.take i,LE y x):MH a b (out++(b.extract k j).reverse) i k:=by
 have e:=jH4 (l:=b.toList) hk
 have s:=T.sb.take j
 unfold MH at h ⊢
 rw[e] at h s
 rw[bv,dj,fo,jn,jAE]
 exact h.takeB s fun x hx y hy=>by
  obtain⟨n,h1,h2,h3⟩:=jA4 hx
  exact hc n x h1 (by omega) h3 y hy
theorem MH.doneA (T:Two a b)(h:MH a b out 0 j):kT a b (a.extract 0 0++b.extract 0 j++out.reverse):=by
 unfold kT
 rw[bv,bv,jB1,jB1,dj]
 exact h.out (by rw[jo]; exact T.sb.take j)
theorem MH.doneB (T:Two a b)(h:MH a b out i 0):kT a b (a.extract 0 i++b.extract 0 0++out.reverse):=by
 unfold kT
 rw[bv,bv,jB1,jB1,dj]
 exact h.out (by rw[jo,bo]; exact T.sa.take i)
theorem MH.doneF (T:Two a b)(h:MH a b out i 1):kT a b (b.extract 0 1++a.extract 0 i++out.reverse):=by
 unfold kT
 rw[bv,bv,jB1,jB1,dj]
 refine h.outF (kX (T.sb.take 1) (T.sa.take i) fun x hx y hy=>?_)
 obtain⟨n,h1,h2⟩:=jCK hx
 have:n=0:=by omega
 subst this
 exact cy (T.first y (cn hy) x h2)
end
section
variable {prog:Program}{w:World}{A:Around}{E:Value->Shared->Prop}{s:Shared} [LtOk prog w A s]
theorem jHZ {st:SortSt}{a:Array Keyed}{i len hint:Nat}{p:Keyed}{Q:Option Nat->SortSt->Prop}(hk:kindOf st=Od.kd)(hp:IsI p)(ha:AllI a.toList)
  (sa:∀ n m x y,i<=n->n<=m->m<i+len->a[n]?=some x->a[m]?=some y->LE x y) (hh:hint<len) (hl:i+len<=a.size)
  (h:∀ k,k<=len->(∀ n x,i<=n->n<i+k->a[n]?=some x->LE x p)->(∀ n x,i+k<=n->n<i+len->a[n]?=some x->key p<key x)->Q (some k) st):
  wpS (model prog w) A E s (jBC false p a i len hint) Q st:=by
 refine jAV hk hp (fun n hn=>?_) hh (fun n=>match a[i+n]? with | some x=>!decide (key p<key x) | none=>false) (fun n x hn hx=>?_) (fun n m hnm hm hb=>?_) fun k hk1 hk2 hk3=>h k (by omega) (fun n x h1 h2 h3=>?_) fun n x h1 h2 h3=>?_
 ·obtain⟨q,q1,q2⟩:=yB (a:=a) (i:=i+n) (by omega)
  exact⟨q,q1,ha q (aN q2)⟩
 ·rw[hx,aj ao]
 ·obtain⟨x,x1,x2⟩:=yB (a:=a) (i:=i+n) (by omega)
  obtain⟨y,y1,y2⟩:=yB (a:=a) (i:=i+m) (by omega)
  rw[y1] at hb
  rw[x1]
  have:=sa (i+n) (i+m) x y (by omega) (by omega) (by omega) x1 y1
  have hb:¬ key p<key y:=by simpa using hb
  show (!decide (key p<key x))=true
  rw[gj,fU]
  have:key x<=key y:=this
  omega
 ·have:=hk2 (n - i) (by omega)
  rw[show i+(n - i)=n by omega,h3] at this
  have this:¬ key p<key x:=by simpa using this
  show key x<=key p
  omega
 ·have:=hk3 (n - i) (by omega) (by omega)
  rw[show i+(n - i)=n by omega,h3] at this
  simpa using this
theorem jI0 {st:SortSt}{a:Array Keyed}{i len hint:Nat}{p:Keyed}{Q:Option Nat->SortSt->Prop}(hk:kindOf st=Od.kd)(hp:IsI p)(ha:AllI a.toList)
  (sa:∀ n m x y,i<=n->n<=m->m<i+len->a[n]?=some x->a[m]?=some y->LE x y) (hh:hint<len) (hl:i+len<=a.size)
  (h:∀ k,k<=len->(∀ n x,i<=n->n<i+k->a[n]?=some x->key x<key p)->(∀ n x,i+k<=n->n<i+len->a[n]?=some x->LE p x)->Q (some k) st):
  wpS (model prog w) A E s (jBC true p a i len hint) Q st:=by
 refine jAV hk hp (fun n hn=>?_) hh (fun n=>match a[i+n]? with | some x=>decide (key x<key p) | none=>false) (fun n x hn hx=>?_) (fun n m hnm hm hb=>?_) fun k hk1 hk2 hk3=>h k (by omega) (fun n x h1 h2 h3=>?_) fun n x h1 h2 h3=>?_
 ·obtain⟨q,q1,q2⟩:=yB (a:=a) (i:=i+n) (by omega)
  exact⟨q,q1,ha q (aN q2)⟩
 ·rw[hx,aq rfl]
 ·obtain⟨x,x1,x2⟩:=yB (a:=a) (i:=i+n) (by omega)
  obtain⟨y,y1,y2⟩:=yB (a:=a) (i:=i+m) (by omega)
  rw[y1] at hb
  rw[x1]
  have:=sa (i+n) (i+m) x y (by omega) (by omega) (by omega) x1 y1
  have hb:key y<key p:=bj hb
  show decide (key x<key p)=true
  rw[b0]
  have:key x<=key y:=this
  omega
 ·have:=hk2 (n - i) (by omega)
  rw[show i+(n - i)=n by omega,h3] at this
  exact bj this
 ·have:=hk3 (n - i) (by omega) (by omega)
  rw[show i+(n - i)=n by omega,h3] at this
  have this:¬ key x<key p:=eJ this
  show key p<=key x
  omega
end
section
variable {prog:Program}{w:World}{A:Around}{E:Value->Shared->Prop}{s:Shared} [LtOk prog w A s]
structure HiI (a b:Array Keyed)(st:SortSt)(out:Array Keyed)(na nb:Nat)(st':SortSt):Prop where
 m:MH a b out na nb
 i:0<na
 ia:na<=a.size
 j:1<nb
 jb:nb<=b.size
 s:SG st st'
theorem whole {a:Array Keyed}(s:Srt a.toList){len:Nat} :∀ n m x y,0<=n->n<=m->m<0+len->a[n]?=some x->a[m]?=some y->LE x y:=fun n m x y _ h _ hx hy=>jDF s (at_list.mp hx) (at_list.mp hy) h
theorem jG5 {a b:Array Keyed}{st:SortSt}{Q:Array Keyed->SortSt->Prop}(hk:kindOf st=Od.kd)(T:Two a b)(h:∀ r st',kT a b r->SG st st'->Q r st'):wpS (model prog w) A E s (jE5 a b) Q st:=by
 rw[mergeHiB.2]
 delta mergeHiB
 dsimp only
 simp only [elP,ltP,jGR,jJP]
 have na:=T.na
 have nb:=T.nb
 refine aJ (hG (ck ⟨rfl,?_⟩))
 obtain⟨p0,hp0,ip0⟩:=T.atA (i:=a.size - 1) (by omega)
 refine aJ (jJ hp0 ?_)
 have M0:MH a b #[p0] (a.size - 1) b.size:=by
  have z:MH a b #[] a.size b.size:=⟨by
   rw[show a.toList.take a.size=a.toList from cx (by simp),show b.toList.take b.size=b.toList from cx (by simp)]
   show ((a.toList++b.toList)++([]:List Keyed)).Perm _
   rw[bo],List.Pairwise.nil,fun x hx=>by cases hx⟩
  have:=MH.pushA T z (by omega) hp0 fun y hy=>cy (T.last y (cn hy) p0 (at_list.mp hp0))
  exact this
 by_cases e1:a.size - 1=0
 ·rw[aq (bp e1)]
  rw[e1] at M0 ⊢
  exact aM (h _ _ (MH.doneA T M0) (SG.refl _))
 rw[aj (bn e1)]
 by_cases e2:b.size=1
 ·rw[aq (bp e2)]
  rw[e2] at M0 ⊢
  exact aM (h _ _ (MH.doneF T M0) (SG.refl _))
 rw[aj (bn e2)]
 refine aJ (gC ?_)
 refine aJ (di (bW (I:=fun x c st'=>∃ out na nb mg,c=(none,na,nb,out,mg)/\HiI a b st out na nb st'/\x+1<=a.size - na+(b.size - nb))
  (Q:=fun c st'=>∃ r,c.1=some r/\kT a b r/\SG st st') ?step ?fin ⟨_,_,_,_,rfl,⟨M0,by omega,by omega,by omega,by omega,SG.refl _⟩,by omega⟩) ?post)
 case post=>
  rintro ⟨r0,c⟩ st' ⟨r,hr,d,g⟩
  have hr:r0=some r:=hr
  subst hr
  exact aM (h r st' d g)
 case fin=>
  rintro c st' ⟨out,na,nb,mg,rfl,I0,hx⟩
  have:=I0.i
  have:=I0.j
  omega
 case step=>
  rintro x c st1 _ hx ⟨out,na,nb,mg,rfl,I0,hxx⟩
  dsimp only
  refine aJ (di (bW (I:=fun y c st'=>∃ out' na' nb' ac bc,c=(none,na',nb',out',ac,bc)/\HiI a b st out' na' nb' st'/\na'+nb'<=na+nb/\(y=0\/na'+nb'<na+nb))
   (Q:=fun c st'=>(∃ r,c.1=some r/\kT a b r/\SG st st')\/∃ out' na' nb' ac bc,c=(none,na',nb',out',ac,bc)/\HiI a b st out' na' nb' st'/\na'+nb'<na+nb) ?step1 ?fin1 ⟨_,_,_,_,_,rfl,I0,by omega, .inl rfl⟩) ?post1)
  case fin1=>
   rintro c st' ⟨out',na',nb',ac,bc,rfl,I1,h1,h2⟩
   exact .inr ⟨_,_,_,_,_,rfl,I1,by omega⟩
  case step1=>
   rintro y c st2 _ hy ⟨out',na',nb',ac,bc,rfl,I1,h1,h2⟩
   dsimp only
   have i0:=I1.i
   have i1:=I1.ia
   have j0:=I1.j
   have j1:=I1.jb
   obtain⟨pb,hpb,ipb⟩:=T.atB (i:=nb' - 1) (by omega)
   obtain⟨pa,hpa,ipa⟩:=T.atA (i:=na' - 1) (by omega)
   refine aJ (jJ hpb (aJ (jJ hpa (aJ (jET (I1.s.k.trans hk) ipb ipa ?_)))))
   dsimp only
   by_cases hlt:key pb<key pa
   ·rw[aO hlt,aq rfl]
    refine aJ (jJ hpa ?_)
    have M2:=MH.pushA T I1.m i0 hpa (jCH T.sb hpb (cy hlt))
    by_cases f1:na' - 1=0
    ·rw[aq (bp f1)]
     rw[f1] at M2 ⊢
     exact aM (.inl ⟨_,rfl,MH.doneA T M2,I1.s⟩)
    rw[aj (bn f1)]
    split
    ·exact aM (.inr ⟨_,_,_,_,_,rfl,⟨M2,by omega,by omega,j0,j1,I1.s⟩,by omega⟩)
    ·exact aM ⟨_,_,_,_,_,rfl,⟨M2,by omega,by omega,j0,j1,I1.s⟩,by omega, .inr (by omega)⟩
   ·rw[aR hlt,aj ao]
    refine aJ (jJ hpb ?_)
    have M2:=MH.pushB T I1.m (by omega) hpb (jCH T.sa hpa (by show key pa<=key pb; omega))
    by_cases f1:nb' - 1=1
    ·rw[aq (bp f1)]
     rw[f1] at M2 ⊢
     exact aM (.inl ⟨_,rfl,MH.doneF T M2,I1.s⟩)
    rw[aj (bn f1)]
    split
    ·exact aM (.inr ⟨_,_,_,_,_,rfl,⟨M2,i0,i1,by omega,by omega,I1.s⟩,by omega⟩)
    ·exact aM ⟨_,_,_,_,_,rfl,⟨M2,i0,i1,by omega,by omega,I1.s⟩,by omega, .inr (by omega)⟩
  case post1=>
   rintro c st2 (⟨r,hr,d,g⟩ | ⟨out1,na1,nb1,ac,bc,rfl,I1,h1⟩)
   ·obtain⟨r0,c⟩:=c
    have hr:r0=some r:=hr
    subst hr
    exact aM ⟨r,rfl,d,g⟩
   dsimp only
   refine aJ (hG (ck ⟨rfl,?_⟩))
   refine aJ (di (bW (I:=fun y c st'=>∃ out' na' nb' mg' ac bc,c=(none,na',nb',out',mg',ac,bc)/\HiI a b st out' na' nb' st'/\na'+nb'<na+nb)
    (Q:=fun c st'=>(∃ r,c.1=some r/\kT a b r/\SG st st')\/∃ out' na' nb' mg' ac bc,c=(none,na',nb',out',mg',ac,bc)/\HiI a b st out' na' nb' st'/\na'+nb'<na+nb) ?step2 ?fin2 ⟨_,_,_,_,_,_,rfl,I1,h1⟩) ?post2)
   case fin2=>
    rintro c st' ⟨out',na',nb',mg',ac,bc,rfl,I2,h2⟩
    exact .inr ⟨_,_,_,_,_,_,rfl,I2,h2⟩
   case post2=>
    have q1:=I0.ia
    have q2:=I0.jb
    rintro c st3 (⟨r,hr,d,g⟩ | ⟨out2,na2,nb2,mg2,ac,bc,rfl,I2,h2⟩)
    ·obtain⟨r0,c⟩:=c
     have hr:r0=some r:=hr
     subst hr
     exact aM ⟨r,rfl,d,g⟩
    dsimp only
    rw[jA2]
    have q3:=I2.ia
    have q4:=I2.jb
    exact aJ (eL (aM ⟨_,_,_,_,rfl,⟨I2.m,I2.i,I2.ia,I2.j,I2.jb,I2.s.gal _⟩,by omega⟩))
   case step2=>
    clear I0 I1
    rename_i na00 nb00
    generalize hbd:na+nb=bd
    clear hxx h1
    rintro y c st2 _ hy ⟨out,na,nb,mg',ac,bc,rfl,I0,h2⟩
    dsimp only
    obtain⟨pb,hpb,ipb⟩:=T.atB (i:=nb - 1) (by have:=I0.j; have:=I0.jb; omega)
    by_cases hg:mg'>1
    case' pos=>
     rw[aq hg]
     generalize hgg:mg' - 1=gg
    case' neg=>
     rw[aj hg]
     generalize hgg:mg'=gg
    all_goals
     rw[jA2]
     refine aJ (eL ?_)
     have G1:=I0.s.gal gg
     have na0:=I0.i
     have na1:=I0.ia
     have nb0:=I0.j
     have nb1:=I0.jb
     refine aJ (jJ hpb ?_)
     refine aJ (jHZ (G1.k.trans hk) ipb T.ia (whole T.sa) (by omega) (by omega) fun k1 g1 g2 g3=>?_)
     dsimp only
     have M1:=MH.appA T I0.m g1 (fun n x h1 h2 h3=>jCH T.sb hpb (cy (g3 n x (by omega) (by omega) (at_list.mpr h3))))
     have hle:∀ y∈a.toList.take k1,LE y pb:=fun y hy=>by
      obtain⟨n,h1,h2⟩:=jCK hy
      exact g2 n y (by omega) (by omega) (at_list.mpr h2)
     by_cases e0:na - k1>0
     case' pos=>
      rw[aq e0]
      by_cases f1:k1=0
      ·rw[aq (bp f1)]
       rw[f1] at M1 ⊢
       exact aM (.inl ⟨_,rfl,MH.doneA T M1,G1⟩)
      rw[aj (bn f1)]
      obtain⟨pa,hpa,ipa⟩:=T.atA (i:=k1 - 1) (by omega)
      have hz:0<k1:=by omega
      generalize hiz:k1=iz at*
     case' neg=>
      rw[aj e0]
      have e0':k1=na:=by omega
      subst e0'
      have M1:=I0.m
      obtain⟨pa,hpa,ipa⟩:=T.atA (i:=k1 - 1) (by omega)
      have hz:0<k1:=by omega
      generalize hiz:k1=iz at*
     all_goals
      refine aJ (jJ hpb ?_)
      have M2:=MH.pushB T M1 (by omega) hpb hle
      by_cases e1:nb - 1=1
      ·rw[aq (bp e1)]
       rw[e1] at M2 ⊢
       exact aM (.inl ⟨_,rfl,MH.doneF T M2,G1⟩)
      rw[aj (bn e1)]
      refine aJ (jJ hpa ?_)
      refine aJ (jI0 (G1.k.trans hk) ipa T.ib (whole T.sb) (by omega) (by omega) fun k2 l1 l2 l3=>?_)
      dsimp only
      have M3:=MH.appB T M2 l1 (fun n x h1 h2 h3=>jCH T.sa hpa (l3 n x (by omega) (by omega) (at_list.mpr h3)))
      have fin3:∀ y∈b.toList.take k2,LE y pa:=fun y hy=>by
       obtain⟨n,h1,h2⟩:=jCK hy
       exact cy (l2 n y (by omega) (by omega) (at_list.mpr h2))
      by_cases e2:nb - 1 - k2>0
      ·rw[aq e2]
       by_cases e3:k2=1
       ·rw[aq (bp e3)]
        rw[e3] at M3 ⊢
        exact aM (.inl ⟨_,rfl,MH.doneF T M3,G1⟩)
       rw[aj (bn e3)]
       by_cases e5:k2=0
       ·rw[aq (bp e5)]
        rw[e5] at M3 ⊢
        exact aM (.inl ⟨_,rfl,MH.doneB T M3,G1⟩)
       rw[aj (bn e5)]
       refine aJ (jJ hpa ?_)
       have M4:=MH.pushA T M3 hz hpa fin3
       by_cases e4:iz - 1=0
       ·rw[aq (bp e4)]
        rw[e4] at M4 ⊢
        exact aM (.inl ⟨_,rfl,MH.doneA T M4,G1⟩)
       rw[aj (bn e4)]
       split
       ·exact aM (.inr ⟨_,_,_,_,_,_,rfl,⟨M4,by omega,by omega,by omega,by omega,G1⟩,by omega⟩)
       ·exact aM ⟨_,_,_,_,_,_,rfl,⟨M4,by omega,by omega,by omega,by omega,G1⟩,by omega⟩
      ·rw[aj e2]
       have e0:k2=nb - 1:=by omega
       subst e0
       refine aJ (jJ hpa ?_)
       have M4:=MH.pushA T M2 hz hpa fin3
       by_cases e4:iz - 1=0
       ·rw[aq (bp e4)]
        rw[e4] at M4 ⊢
        exact aM (.inl ⟨_,rfl,MH.doneA T M4,G1⟩)
       rw[aj (bn e4)]
       split
       ·exact aM (.inr ⟨_,_,_,_,_,_,rfl,⟨M4,by omega,by omega,by omega,by omega,G1⟩,by omega⟩)
       ·exact aM ⟨_,_,_,_,_,_,rfl,⟨M4,by omega,by omega,by omega,by omega,G1⟩,by omega⟩
end
def KI (xs:Array Keyed)(i:Nat):Int:=match xs[i]? with
 | some p=>key p
 | none=>0
def STo (xs:Array Keyed)(k:Nat):Prop:=∀ i j,i<=j->j<k->KI xs i<=KI xs j
structure SB (a₀:Array Keyed)(st:SortSt):Prop where
 perm:(arrOf st).Perm a₀
 kind:kindOf st=Od.kd
 failed:failedOf st=none
 pend:pendingOf st=#[]
theorem SB.size {a₀:Array Keyed}{st:SortSt}(h:SB a₀ st):(arrOf st).size=a₀.size:=h.perm.size_eq
theorem jB3 {xs ys:Array Keyed}{i j:Nat}(h:xs[i]?=ys[j]?):KI xs i=KI ys j:=by unfold KI; rw[h]
theorem jM9 {xs:Array Keyed}{src d:Nat}(hs:src<xs.size)(hd:d<=src)(k:Nat):
  KI (bubble xs src d) k=if k=src - d then KI xs src else if src - d<k/\k<=src then KI xs (k - 1) else KI xs k:=by
 have e:=getElem?_bubble hs d hd k
 by_cases h1:k=src - d
 ·rw[aq h1] at e ⊢; exact jB3 e
 ·rw[aj h1] at e ⊢
  by_cases h2:src - d<k/\k<=src
  ·rw[aq h2] at e ⊢; exact jB3 e
  ·rw[aj h2] at e ⊢; exact jB3 e
theorem jBQ {xs:Array Keyed}{i j:Nat}(hj:j<=xs.size)(k:Nat):
  KI (mirror xs i j ((j - i) / 2)) k=if i<=k/\k<j then KI xs (i+j - 1 - k) else KI xs k:=by
 have e:=getElem?_mirror_all (i:=i) hj k
 by_cases h1:i<=k/\k<j
 ·rw[aq h1] at e
  rw[aq h1]
  exact jB3 e
 ·rw[aj h1] at e
  rw[aj h1]
  exact jB3 e
theorem jA1 {xs:Array Keyed}{i j:Nat}(hj:j<=xs.size)(heq:∀ k,i<=k->k<j->KI xs k=KI xs (j - 1))(k:Nat):
  KI (mirror xs i j ((j - i) / 2)) k=KI xs k:=by
 rw[jBQ hj]
 split
 ·rename_i h
  rw[heq _ (by omega) (by omega),heq k h.1 h.2]
 ·rfl
def Up (xs:Array Keyed)(lo n:Nat):Prop:=∀ i j,lo<=i->i<=j->j<lo+n->KI xs i<=KI xs j
def Dn (xs:Array Keyed)(lo n:Nat):Prop:=∀ i j,lo<=i->i<=j->j<lo+n->KI xs j<=KI xs i
structure BB (a₀:Array Keyed)(p:Array (Nat×Nat×Nat))(F:Nat->Int)(lo:Nat)(st:SortSt):Prop where
 perm:(arrOf st).Perm a₀
 kind:kindOf st=Od.kd
 failed:failedOf st=none
 pend:pendingOf st=p
 low:∀ k,k<lo->KI (arrOf st) k=F k
theorem jOD {a₀ xs:Array Keyed}(hp:xs.Perm a₀)(h0:AllI a₀.toList){i:Nat}(hi:i<a₀.size):∃ q,xs[i]?=some q/\IsI q/\key q=KI xs i:=by
 have hi':i<xs.size:=by rw[hp.size_eq]; exact hi
 have hm:xs[i]∈a₀.toList:=(cP.mp hp).mem_iff.mp (by simp)
 have e:xs[i]?=some xs[i]:=km _ i hi'
 exact⟨xs[i],e,h0 _ hm,by unfold KI; rw[e]⟩
section
variable {prog:Program}{w:World}{A:Around}{E:Value->Shared->Prop}{s:Shared} [LtOk prog w A s]{a₀:Array Keyed}{p:Array (Nat×Nat×Nat)}{F:Nat->Int}{lo:Nat}
theorem BB.sz {st:SortSt}(h:BB a₀ p F lo st):(arrOf st).size=a₀.size:=h.perm.size_eq
theorem BB.arr {st:SortSt}(h:BB a₀ p F lo st){xs:Array Keyed}(hp:xs.Perm (arrOf st))(hl:∀ k,k<lo->KI xs k=KI (arrOf st) k):BB a₀ p F lo (setArr st xs):=
 ⟨hp.trans h.perm,h.kind,h.failed,h.pend,fun k hk=>(hl k hk).trans (h.low k hk)⟩
theorem jBR {st:SortSt}{i j:Nat}{Q:Option Bool->SortSt->Prop}(hB:BB a₀ p F lo st)(h0:AllI a₀.toList)(hi:i<a₀.size)(hj:j<a₀.size)
  (h:Q (some (decide (KI (arrOf st) i<KI (arrOf st) j))) st):wpS (model prog w) A E s (ltAt' i j) Q st:=by
 obtain⟨x,e1,i1,k1⟩:=jOD hB.perm h0 hi
 obtain⟨y,e2,i2,k2⟩:=jOD hB.perm h0 hj
 rw[ltAt'_eq]
 refine aJ (gC ?_)
 show wpS _ _ _ _ (do let x <- elem' (arrOf st) i; let y <- elem' (arrOf st) j; lt' x y) Q st
 rw[elem'_eq,elem'_eq,e1,e2]
 refine aJ (aM (aJ (aM (jET hB.kind i1 i2 ?_))))
 rw[k1,k2]
 exact h
theorem Up.one {xs:Array Keyed} :Up xs lo 1:=fun i j h1 h2 h3=>by
 have:i=j:=by omega
 rw[this]
 exact dP _
theorem Dn.one {xs:Array Keyed} :Dn xs lo 1:=fun i j h1 h2 h3=>by
 have:i=j:=by omega
 rw[this]
 exact dP _
theorem Up.more {xs:Array Keyed}{n:Nat}(h:Up xs lo n)(hn:0<n)(hc:KI xs (lo+n - 1)<=KI xs (lo+n)):Up xs lo (n+1):=fun i j h1 h2 h3=>by
 by_cases e:j<lo+n
 ·exact h i j h1 h2 e
 ·have ej:j=lo+n:=by omega
  subst ej
  by_cases ei:i=lo+n
  ·rw[ei]
   exact dP _
  ·exact dQ (h i (lo+n - 1) h1 (by omega) (by omega)) hc
theorem Dn.more {xs:Array Keyed}{n:Nat}(h:Dn xs lo n)(hn:0<n)(hc:KI xs (lo+n)<=KI xs (lo+n - 1)):Dn xs lo (n+1):=fun i j h1 h2 h3=>by
 by_cases e:j<lo+n
 ·exact h i j h1 h2 e
 ·have ej:j=lo+n:=by omega
  subst ej
  by_cases ei:i=lo+n
  ·rw[ei]
   exact dP _
  ·exact dQ hc (h i (lo+n - 1) h1 (by omega) (by omega))
theorem Dn.congr {xs ys:Array Keyed}{n:Nat}(h:Dn xs lo n)(e:∀ k,KI ys k=KI xs k):Dn ys lo n:=fun i j h1 h2 h3=>by
 rw[e i,e j]
 exact h i j h1 h2 h3
theorem jDX {st:SortSt}{nrem:Nat}{Q:Option Nat->SortSt->Prop}(h0:AllI a₀.toList)(hn:lo+nrem<=a₀.size)(hn1:1<=nrem)(hB:BB a₀ p F lo st)
  (h:∀ m st',BB a₀ p F lo st'->1<=m->m<=nrem->Up (arrOf st') lo m->Q (some m) st'):wpS (model prog w) A E s (countRun' lo nrem) Q st:=by
 rw[countRun'_eq]
 dsimp only
 refine aJ (di (bW (I:=fun x c st'=>st'=st/\c=(none,x)/\Up (arrOf st) lo x)
  (Q:=fun c st'=>st'=st/\∃ n,c=(none,n)/\1<=n/\n<=nrem/\Up (arrOf st) lo n/\(n=nrem\/KI (arrOf st) (lo+n)<KI (arrOf st) (lo+n - 1))) ?step ?fin ⟨rfl,rfl,Up.one⟩) ?post)
 case fin=>
  rintro c st' ⟨rfl,rfl,hu⟩
  rw[show max 1 nrem=nrem by omega] at hu ⊢
  exact⟨rfl,nrem,rfl,hn1,aE _,hu, .inl rfl⟩
 case step=>
  rintro x c st' h1 h2 ⟨rfl,rfl,hu⟩
  dsimp only
  refine aJ (jBR hB h0 (by omega) (by omega) ?_)
  dsimp only
  by_cases hl:KI (arrOf st') (lo+x)<KI (arrOf st') (lo+x - 1)
  ·rw[aO hl,aq rfl]
   exact aM ⟨rfl,x,rfl,by omega,by omega,hu, .inr hl⟩
  ·rw[aR hl,aj ao]
   exact aM ⟨rfl,rfl,hu.more (by omega) (by omega)⟩
 case post=>
  rintro c st' ⟨rfl,n,rfl,n1,n2,hu,hor⟩
  dsimp only
  by_cases hnn:n=nrem
  ·rw[aq (bp hnn)]
   exact aM (h n st' hB n1 n2 hu)
  rw[aj (bn hnn)]
  have hlt:=hor.resolve_left hnn
  have hz:lo+n<=(arrOf st').size:=by rw[hB.sz]; omega
  by_cases hgt:n>1
  case' pos=>
   rw[aq hgt]
   refine aJ (jBR hB h0 (by omega) (by omega) ?_)
   dsimp only
   by_cases hr:KI (arrOf st') lo<KI (arrOf st') (lo+n - 1)
   ·rw[aO hr,aq rfl]
    exact aM (h n st' hB n1 n2 hu)
   rw[aR hr,aj ao]
   have hall:∀ k,lo<=k->k<lo+n->KI (arrOf st') k=KI (arrOf st') (lo+n - 1):=fun k h1 h2=>by
    have a1:=hu lo k (by omega) h1 h2
    have a2:=hu k (lo+n - 1) h1 (by omega) (by omega)
    omega
   refine aJ (wpS_reverse ?_)
   have hB1:=hB.arr (xs:=mirror (arrOf st') lo (lo+n) ((lo+n - lo) / 2)) (mirror_perm _ _ _ _) fun k _=>jA1 hz hall k
   have hs0:Dn (arrOf st') lo n:=fun i j h1 h2 h3=>by
    rw[hall i h1 (by omega),hall j (by omega) h3]
    exact dP _
   have hs1:Dn (arrOf (setArr st' (mirror (arrOf st') lo (lo+n) ((lo+n - lo) / 2)))) lo (n+1):=(hs0.more (by omega) (cy hlt)).congr (jA1 hz hall)
   generalize setArr st' (mirror (arrOf st') lo (lo+n) ((lo+n - lo) / 2))=st1 at*
  case' neg=>
   rw[aj hgt]
   have en:n=1:=by omega
   have hB1:=hB
   have hs1:Dn (arrOf st') lo (n+1):=by
    rw[en] at hlt ⊢
    exact Dn.one.more (by omega) (cy hlt)
  all_goals
   refine aJ (hG (ck ⟨rfl,?_⟩))
   refine aJ (di (bW (I:=fun x c st'=>∃ q,c=(none,x,q)/\BB a₀ p F lo st'/\Dn (arrOf st') lo x/\q+1<=x/\∀ i,lo+x - (q+1)<=i->i<lo+x->KI (arrOf st') i=KI (arrOf st') (lo+x - 1))
    (Q:=fun c st'=>∃ m q,c=(none,m,q)/\1<=m/\m<=nrem/\BB a₀ p F lo st'/\Dn (arrOf st') lo m/\q+1<=m/\∀ i,lo+m - (q+1)<=i->i<lo+m->KI (arrOf st') i=KI (arrOf st') (lo+m - 1)) ?dstep ?dfin ⟨0,rfl,hB1,hs1,by omega,fun i h1 h2=>by congr 1; omega⟩) ?dpost)
   case dfin=>
    rintro c st' ⟨q,rfl,hb,hd,hq,he⟩
    rw[show max (n+1) nrem=nrem by omega] at hd hq he ⊢
    exact⟨nrem,q,rfl,by omega,by omega,hb,hd,hq,he⟩
   case dstep=>
    rintro x c st' h1 h2 ⟨q,rfl,hb,hd,hq,he⟩
    dsimp only
    have hz:lo+x<=(arrOf st').size:=by rw[hb.sz]; omega
    refine aJ (jBR hb h0 (by omega) (by omega) ?_)
    dsimp only
    by_cases hl:KI (arrOf st') (lo+x)<KI (arrOf st') (lo+x - 1)
    ·rw[aO hl,aq rfl]
     have d1:=hd.more (by omega) (cy hl)
     by_cases hq0:q>0
     ·rw[aq hq0]
      refine aJ (wpS_reverse (aM ⟨0,rfl,hb.arr (mirror_perm _ _ _ _) fun k _=>jA1 hz he k,d1.congr (jA1 hz he),by omega,fun i h1 h2=>by congr 1; omega⟩))
     ·rw[aj hq0]
      exact aM ⟨0,rfl,hb,d1,by omega,fun i h1 h2=>by congr 1; omega⟩
    ·rw[aR hl,aj ao]
     refine aJ (jBR hb h0 (by omega) (by omega) ?_)
     dsimp only
     by_cases hg:KI (arrOf st') (lo+x - 1)<KI (arrOf st') (lo+x)
     ·rw[aO hg,aq rfl]
      exact aM ⟨x,q,rfl,by omega,by omega,hb,hd,hq,he⟩
     ·rw[aR hg,aj ao]
      have ex:KI (arrOf st') (lo+x)=KI (arrOf st') (lo+x - 1):=by omega
      refine aM ⟨q+1,rfl,hb,hd.more (by omega) (by omega),by omega,fun i h1 h2=>?_⟩
      rw[show lo+(x+1) - 1=lo+x by omega]
      by_cases hix:i=lo+x
      ·rw[hix]
      ·rw[ex]
       exact he i (by omega) (by omega)
   case dpost=>
    rintro c st2 ⟨m,q,rfl,m1,m2,hB2,hs2,hq,he⟩
    dsimp only
    have hz2:lo+m<=(arrOf st2).size:=by rw[hB2.sz]; omega
    by_cases hq0:q>0
    case' pos=>
     rw[aq hq0]
     refine aJ (wpS_reverse ?_)
     have hB3:=hB2.arr (xs:=mirror (arrOf st2) (lo+m - (q+1)) (lo+m) ((lo+m - (lo+m - (q+1))) / 2)) (mirror_perm _ _ _ _) fun k _=>jA1 hz2 he k
     have hs3:Dn (arrOf (setArr st2 (mirror (arrOf st2) (lo+m - (q+1)) (lo+m) ((lo+m - (lo+m - (q+1))) / 2)))) lo m:=hs2.congr (jA1 hz2 he)
     generalize setArr st2 (mirror (arrOf st2) (lo+m - (q+1)) (lo+m) ((lo+m - (lo+m - (q+1))) / 2))=st3 at*
    case' neg=>
     rw[aj hq0]
     have hB3:=hB2
     have hs3:=hs2
     generalize st2=st3 at*
    all_goals
     have hz3:lo+m<=(arrOf st3).size:=by rw[hB3.sz]; omega
     refine aJ (wpS_reverse ?_)
     have hB4:=hB3.arr (xs:=mirror (arrOf st3) lo (lo+m) ((lo+m - lo) / 2)) (mirror_perm _ _ _ _) fun k hk=>by
      rw[jBQ hz3,aj (by omega)]
     have hU:Up (mirror (arrOf st3) lo (lo+m) ((lo+m - lo) / 2)) lo m:=fun i j h1 h2 h3=>by
      rw[jBQ hz3,jBQ hz3,aq ⟨h1,by omega⟩,aq ⟨by omega,h3⟩]
      exact hs3 _ _ (by omega) (by omega) (by omega)
     generalize mirror (arrOf st3) lo (lo+m) ((lo+m - lo) / 2)=xs4 at*
     refine aJ (di (bW (I:=fun x c st'=>st'=setArr st3 xs4/\c=(none,x)/\Up xs4 lo x)
      (Q:=fun c st'=>st'=setArr st3 xs4/\∃ n,c=(none,n)/\1<=n/\n<=nrem/\Up xs4 lo n) ?tstep ?tfin ⟨rfl,rfl,hU⟩) ?tpost)
     case tfin=>
      rintro c st' ⟨rfl,rfl,hu⟩
      rw[show max m nrem=nrem by omega] at hu ⊢
      exact⟨rfl,nrem,rfl,by omega,by omega,hu⟩
     case tstep=>
      rintro x c st' h1 h2 ⟨rfl,rfl,hu⟩
      dsimp only
      refine aJ (jBR hB4 h0 (by omega) (by omega) ?_)
      dsimp only
      by_cases hl:KI xs4 (lo+x)<KI xs4 (lo+x - 1)
      ·rw[aO hl,aq rfl]
       exact aM ⟨rfl,x,rfl,by omega,by omega,hu⟩
      ·rw[aR hl,aj ao]
       exact aM ⟨rfl,rfl,hu.more (by omega) (by omega)⟩
     case tpost=>
      rintro c st' ⟨rfl,n,rfl,n1,n2,hu⟩
      exact aM (h n _ hB4 n1 n2 hu)
theorem jCQ {st:SortSt}{n ok:Nat}{Q:Bool->SortSt->Prop}(h0:AllI a₀.toList)(hn:lo+n<=a₀.size)(hok:ok<=n)(hB:BB a₀ p F lo st)(hs:Up (arrOf st) lo ok)
  (h:∀ st',BB a₀ p F lo st'->Up (arrOf st') lo n->Q true st'):wpS (model prog w) A E s (binarySort' lo n ok) Q st:=by
 rw[binarySort'_eq]
 dsimp only
 refine aJ (di (bW (I:=fun k c st'=>c=(none,())/\BB a₀ p F lo st'/\Up (arrOf st') lo (min k n))
  (Q:=fun c st'=>c=(none,())/\BB a₀ p F lo st'/\Up (arrOf st') lo n) ?step ?fin ⟨rfl,hB,?init⟩) ?post)
 case post=>
  rintro c st' ⟨rfl,hb,hu⟩
  exact aM (h st' hb hu)
 case init=>
  by_cases e:ok=0
  ·intro i j h1 h2 h3
   have:i=j:=by omega
   rw[this]
   exact dP _
  ·exact fun i j h1 h2 h3=>hs i j h1 h2 (by omega)
 case fin=>
  rintro c st' ⟨hc,hb,hu⟩
  rw[show min (max (max ok 1) n) n=n by omega] at hu
  exact⟨hc,hb,hu⟩
 case step=>
  rintro k c st1 hk1 hk2 ⟨rfl,hb,hu⟩
  rw[show min k n=k by omega] at hu
  refine aJ (di (bW (I:=fun x c st'=>st'=st1/\∃ l r,c=(none,l,r)/\l<=r/\r<=k/\r - l<=k - x/\
    (∀ i,i<l->KI (arrOf st1) (lo+i)<=KI (arrOf st1) (lo+k))/\∀ i,r<=i->i<k->KI (arrOf st1) (lo+k)<KI (arrOf st1) (lo+i))
   (Q:=fun c st'=>st'=st1/\∃ l r,c=(none,l,r)/\l<=k/\
    (∀ i,i<l->KI (arrOf st1) (lo+i)<=KI (arrOf st1) (lo+k))/\∀ i,l<=i->i<k->KI (arrOf st1) (lo+k)<KI (arrOf st1) (lo+i)) ?step1 ?fin1 ⟨rfl,0,k,rfl,by omega,by omega,by omega,fun i hi=>by omega,fun i h1 h2=>by omega⟩) ?post1)
  case fin1=>
   rintro c st' ⟨rfl,l,r,rfl,b1,b2,b3,b4,b5⟩
   have:l=r:=by omega
   subst this
   exact⟨rfl,l,l,rfl,b2,b4,b5⟩
  case step1=>
   rintro x c st' _ hx ⟨rfl,l,r,rfl,b1,b2,b3,b4,b5⟩
   dsimp only
   by_cases hge:l ≥ r
   ·rw[aq hge]
    have:l=r:=by omega
    subst this
    exact aM ⟨rfl,l,l,rfl,b2,b4,b5⟩
   rw[aj hge]
   refine aJ (jBR hb h0 (by omega) (by omega) ?_)
   dsimp only
   by_cases hl:KI (arrOf st') (lo+k)<KI (arrOf st') (lo+(l+r) / 2)
   ·rw[aO hl,aq rfl]
    exact aM ⟨rfl,l,(l+r) / 2,rfl,by omega,by omega,by omega,b4,fun i h1 h2=>Int.lt_of_lt_of_le hl (hu _ _ (by omega) (by omega) (by omega))⟩
   ·rw[aR hl,aj ao]
    exact aM ⟨rfl,(l+r) / 2+1,r,rfl,by omega,by omega,by omega,fun i h1=>dQ (hu (lo+i) (lo+(l+r) / 2) (by omega) (by omega) (by omega)) (Int.not_lt.mp hl),b5⟩
  case post1=>
   rintro c st' ⟨rfl,l,r,rfl,hlk,b4,b5⟩
   dsimp only
   rw[moveDown'_eq]
   have hks:lo+k<(arrOf st').size:=by rw[hb.sz]; omega
   have kb:∀ x,KI (bubble (arrOf st') (lo+k) (lo+k - (lo+l))) x=if x=lo+l then KI (arrOf st') (lo+k) else if lo+l<x/\x<=lo+k then KI (arrOf st') (x - 1) else KI (arrOf st') x:=fun x=>by
    have:=jM9 hks (d:=lo+k - (lo+l)) (by omega) x
    rw[show lo+k - (lo+k - (lo+l))=lo+l by omega] at this
    exact this
   refine aJ (eL (aM ⟨rfl,hb.arr (bubble_perm _ _ _) fun x hx=>?_,?_⟩))
   ·rw[kb,aj (by omega),aj (by omega)]
   rw[show min (k+1) n=k+1 by omega]
   intro i j h1 h2 h3
   show KI (bubble _ _ _) i<=KI (bubble _ _ _) j
   rw[kb,kb]
   have lo1:∀ i,lo<=i->i<lo+l->KI (arrOf st') i<=KI (arrOf st') (lo+k):=fun i h1 h2=>by
    have:=b4 (i - lo) (by omega)
    rw[show lo+(i - lo)=i by omega] at this
    exact this
   have hi1:∀ i,lo+l<=i->i<lo+k->KI (arrOf st') (lo+k)<=KI (arrOf st') i:=fun i h1 h2=>by
    have:=b5 (i - lo) (by omega) (by omega)
    rw[show lo+(i - lo)=i by omega] at this
    exact cy this
   repeat' split
   all_goals first
    | (exfalso; omega)
    | exact dP _
    | exact lo1 _ (by omega) (by omega)
    | exact hi1 _ (by omega) (by omega)
    | exact hu _ _ (by omega) (by omega) (by omega)
end
def mergeAtB: { g:Nat->StateT SortSt Sem Bool // mergeAt'=g} :=⟨fun _=>bind _ _,rfl⟩
theorem KI_key {xs:Array Keyed}{i:Nat}{p:Keyed}(h:xs[i]?=some p):KI xs i=key p:=by
 unfold KI
 rw[h]
theorem jHD (s1:Nat):∀ (l:List Keyed) (j0:Nat) (a:Array Keyed) (P M S:List Keyed),P.length=s1+j0->M.length=l.length->a.toList=P++(M++S)->
  ((l.zipIdx j0).foldl (fun (a:Array Keyed) (x:Keyed×Nat)=>a.setIfInBounds (s1+x.2) x.1) a).toList=P++(l++S)
 | [],j0,a,P,M,S,h1,h2,h3=>by
  rw[gI h2] at h3
  exact h3
 | q::l,j0,a,P,[],S,h1,h2,h3=>by cases h2
 | q::l,j0,a,P,m::M,S,h1,h2,h3=>by
  rw[iN,i5]
  have:=jHD s1 l (j0+1) (a.setIfInBounds (s1+j0) q) (P++[q]) M S (by rw[aK,h1]; rfl) (Nat.succ.inj h2) (by
   rw[fc,h3,<- h1,jd _ _ (aE _),gS,aX]
   rfl)
  rw[this,aX]
  rfl
theorem jQ9 {P m1 m2 S:List Keyed}(e:m1.length=m2.length){k:Nat}(h:k<P.length\/P.length+m1.length<=k):(P++(m1++S))[k]?=(P++(m2++S))[k]?:=by
 rcases h with h | h
 ·rw[bO h,bO h]
 ·rw[bb (by omega),bb (by omega),bb (by omega),bb (by omega),e]
theorem jSM {P m S:List Keyed}{k:Nat}(h1:P.length<=k)(h2:k<P.length+m.length):(P++(m++S))[k]?=m[k - P.length]?:=by
 rw[bb h1,bO (by omega)]
theorem jI2 {xs:Array Keyed}{i j t:Nat}(h:t<j - i):(xs.extract i j).toList[t]?=xs[i+t]?:=by
 rw[jAE,cc h,g9,bJ]
theorem jC3 {xs:Array Keyed}{i j:Nat}{p:Keyed}(h:p∈(xs.extract i j).toList):∃ t,i<=t/\t<j/\xs[t]?=some p:=by
 rw[jAE] at h
 obtain⟨t,h1,h2,h3⟩:=jA4 h
 exact⟨t,h1,by omega,at_list.mpr h3⟩
theorem jD8 {xs:Array Keyed}{i j:Nat}(h:j<=xs.size):(xs.extract i j).size=j - i:=by
 rw[Array.size_extract]
 omega
theorem jLP {xs:Array Keyed}{i j:Nat}(h:∀ n m x y,i<=n->n<=m->m<j->xs[n]?=some x->xs[m]?=some y->LE x y):Srt (xs.extract i j).toList:=by
 refine cY.mpr fun a b ha hb hab=>?_
 have hl:(xs.extract i j).toList.length<=j - i:=by rw[jAE,bP]; omega
 have e1:=jI2 (xs:=xs) (i:=i) (j:=j) (t:=a) (by omega)
 have e2:=jI2 (xs:=xs) (i:=i) (j:=j) (t:=b) (by omega)
 rw[aB ha] at e1
 rw[aB hb] at e2
 exact h (i+a) (i+b) _ _ (by omega) (by omega) (by omega) e1.symm e2.symm
theorem KI_at {xs ys:Array Keyed}{i j:Nat}(h:xs.toList[i]?=ys.toList[j]?):KI xs i=KI ys j:=jB3 (by rw[<- bJ,<- bJ]; exact h)
theorem jIK {xs r R:Array Keyed}{sa na sb nb k1 k2:Nat}(hsb:sb=sa+na)(hk1:k1<na)(hk2:0<k2)(hk2':k2<=nb)(hz:sb+nb<=xs.size)
  (u1:Up xs sa na) (u2:Up xs sb nb) (g2:∀ t,sa<=t->t<sa+k1->KI xs t<=KI xs sb) (l3:∀ t,sb+k2<=t->t<sb+nb->KI xs (sb - 1)<=KI xs t)
  (D:kT (xs.extract (sa+k1) sb) (xs.extract sb (sb+k2)) r)
  (hR:R.toList=xs.toList.take (sa+k1)++(r.toList++xs.toList.drop (sb+k2))):
  R.Perm xs/\(∀ k,k<sa\/sa+(na+nb)<=k->KI R k=KI xs k)/\Up R sa (na+nb):=by
 have lr:r.toList.length=sb+k2 - (sa+k1):=by
  rw[D.1.length_eq,aK,aL,aL,jD8 (by omega),jD8 (by omega)]
  omega
 have lP:(xs.toList.take (sa+k1)).length=sa+k1:=by rw[bP,aL]; omega
 have hX:xs.toList=xs.toList.take (sa+k1)++(((xs.extract (sa+k1) sb).toList++(xs.extract sb (sb+k2)).toList)++xs.toList.drop (sb+k2)):=by
  have a1:=bf (sa+k1) xs.toList
  have a2:=bf (sb - (sa+k1)) (xs.toList.drop (sa+k1))
  have a3:=bf k2 (xs.toList.drop sb)
  rw[g8] at a2 a3
  rw[show sa+k1+(sb - (sa+k1))=sb by omega] at a2
  rw[jAE,jAE,cL,aX,a3,a2,a1]
 have lm:((xs.extract (sa+k1) sb).toList++(xs.extract sb (sb+k2)).toList).length=r.toList.length:=D.1.length_eq.symm
 have out:∀ k,k<sa+k1\/sb+k2<=k->KI R k=KI xs k:=fun k hk=>KI_at (by
  have:=jQ9 (P:=xs.toList.take (sa+k1)) (S:=xs.toList.drop (sb+k2)) lm.symm (k:=k) (by rw[lP,lr]; omega)
  exact(bR (·[k]?) hR).trans (this.trans (bR (·[k]?) hX).symm))
 have inn:∀ k,sa+k1<=k->k<sb+k2->R.toList[k]?=r.toList[k - (sa+k1)]?:=fun k h1 h2=>by
  rw[hR,jSM (by rw[lP]; exact h1) (by rw[lP,lr]; omega),lP]
 have mem:∀ k,sa+k1<=k->k<sb+k2->∃ t,sa+k1<=t/\t<sb+k2/\KI R k=KI xs t:=fun k h1 h2=>by
  have hk:k - (sa+k1)<r.toList.length:=by omega
  have e:=inn k h1 h2
  rw[aB hk] at e
  have hm:=D.1.mem_iff.mp (db hk)
  rcases aU.mp hm with q | q
  ·obtain⟨t,t1,t2,t3⟩:=jC3 q
   exact⟨t,t1,by omega,(KI_key (at_list.mpr e)).trans (KI_key t3).symm⟩
  ·obtain⟨t,t1,t2,t3⟩:=jC3 q
   exact⟨t,by omega,t2,(KI_key (at_list.mpr e)).trans (KI_key t3).symm⟩
 have srt:∀ i j,sa+k1<=i->i<=j->j<sb+k2->KI R i<=KI R j:=fun i j h1 h2 h3=>by
  have hi:i - (sa+k1)<r.toList.length:=by omega
  have hj:j - (sa+k1)<r.toList.length:=by omega
  have e1:=inn i h1 (by omega)
  have e2:=inn j (by omega) h3
  rw[aB hi] at e1
  rw[aB hj] at e2
  rw[KI_key (at_list.mpr e1),KI_key (at_list.mpr e2)]
  exact jDF D.2 (aB hi) (aB hj) (by omega)
 have low:∀ t u,sa<=t->t<sa+k1->t<=u->u<sb+nb->KI xs t<=KI xs u:=fun t u h1 h2 h3 h4=>by
  by_cases e:u<sb
  ·exact u1 t u h1 h3 (by omega)
  ·exact dQ (g2 t h1 h2) (u2 sb u (aE _) (by omega) h4)
 have high:∀ t u,sa<=t->t<=u->sb+k2<=u->u<sb+nb->KI xs t<=KI xs u:=fun t u h1 h2 h3 h4=>by
  by_cases e:t<sb
  ·exact dQ (u1 t (sb - 1) h1 (by omega) (by omega)) (l3 u h3 h4)
  ·exact u2 t u (by omega) h2 h4
 refine⟨?_,fun k hk=>out k (by omega),fun i j h1 h2 h3=>?_⟩
 ·refine cP.mpr ?_
  rw[hR]
  refine List.Perm.trans ?_ (fw hX.symm)
  exact cZ _ (gk _ D.1)
 ·have h3:j<sb+nb:=by omega
  by_cases i1:i<sa+k1
  ·rw[out i (.inl i1)]
   by_cases j1:j<sa+k1
   ·rw[out j (.inl j1)]
    exact low i j h1 i1 h2 h3
   by_cases j2:j<sb+k2
   ·obtain⟨t,t1,t2,t3⟩:=mem j (by omega) j2
    rw[t3]
    exact low i t h1 i1 (by omega) (by omega)
   ·rw[out j (.inr (by omega))]
    exact low i j h1 i1 h2 h3
  by_cases i2:i<sb+k2
  ·by_cases j2:j<sb+k2
   ·exact srt i j (by omega) h2 j2
   ·obtain⟨t,t1,t2,t3⟩:=mem i (by omega) i2
    rw[t3,out j (.inr (by omega))]
    exact high t j (by omega) (by omega) (by omega) h3
  ·rw[out i (.inr (by omega)),out j (.inr (by omega))]
   exact high i j h1 h2 (by omega) h3
section
variable {prog:Program}{w:World}{A:Around}{E:Value->Shared->Prop}{s:Shared} [LtOk prog w A s]
theorem jOV {st st':SortSt}{Q:PUnit->SortSt->Prop}(h:Q ⟨⟩ st'):wpS (model prog w) A E s (set st':StateT SortSt Sem PUnit) Q st:=eL (f:=fun _=>st') h
theorem jJ2 {α:Type}{a b:α}{Q:α->SortSt->Prop}{st:SortSt}(e:a=b)(h:Q b st):wpS (model prog w) A E s (pure a:StateT SortSt Sem α) Q st:=aM (e ▸ h)
structure Merged (st st':SortSt)(i sa na sb nb pw:Nat):Prop where
 perm:(arrOf st').Perm (arrOf st)
 kind:kindOf st'=Od.kd
 failed:failedOf st'=none
 pend:pendingOf st'=((pendingOf st).setIfInBounds i (sa,na+nb,pw)).eraseIdxIfInBounds (i+1)
 out:∀ k,k<sa\/sa+(na+nb)<=k->KI (arrOf st') k=KI (arrOf st) k
 up:Up (arrOf st') sa (na+nb)
theorem jG6 {st:SortSt}{i sa na pw sb nb w2:Nat}{Q:Bool->SortSt->Prop}(hk:kindOf st=Od.kd)(hf:failedOf st=none)(hI:AllI (arrOf st).toList)
  (h1:(pendingOf st)[i]?=some (sa,na,pw)) (h2:(pendingOf st)[i+1]?=some (sb,nb,w2)) (hsb:sb=sa+na) (hna:0<na) (hnb:0<nb) (hz:sb+nb<=(arrOf st).size)
  (u1:Up (arrOf st) sa na) (u2:Up (arrOf st) sb nb) (h:∀ st',Merged st st' i sa na sb nb pw->Q true st'):wpS (model prog w) A E s (mergeAt' i) Q st:=by
 rw[mergeAtB.2]
 delta mergeAtB
 dsimp only
 simp only [elP,ltP,ltAtP,jGR,jN0,jN1]
 refine aJ (gC ?_)
 rw[h1,h2]
 dsimp only
 refine aJ (jOV ?_)
 generalize hpp:((pendingOf st).setIfInBounds i (sa,na+nb,pw)).eraseIdxIfInBounds (i+1)=pp
 show wpS _ _ _ _ _ _ (SortSt.mk' (kindOf st) (arrOf st) pp (gallopOf st) (failedOf st))
 generalize hst1:SortSt.mk' (kindOf st) (arrOf st) pp (gallopOf st) (failedOf st)=st1
 have G1:kindOf st1=kindOf st/\arrOf st1=arrOf st/\pendingOf st1=pp/\failedOf st1=failedOf st:=by rw[<- hst1]; exact⟨rfl,rfl,rfl,rfl⟩
 have at_:∀ t,t<(arrOf st).size->∃ q,(arrOf st)[t]?=some q/\IsI q:=fun t ht=>by
  obtain⟨q,q1,q2⟩:=yB ht
  exact⟨q,q1,hI q (aN q2)⟩
 have m1:∀ n m x y,sa<=n->n<=m->m<sa+na->(arrOf st)[n]?=some x->(arrOf st)[m]?=some y->LE x y:=fun n m x y a1 a2 a3 hx hy=>by
  have:=u1 n m a1 a2 a3
  rw[KI_key hx,KI_key hy] at this
  exact this
 have m2:∀ n m x y,sb<=n->n<=m->m<sb+nb->(arrOf st)[n]?=some x->(arrOf st)[m]?=some y->LE x y:=fun n m x y a1 a2 a3 hx hy=>by
  have:=u2 n m a1 a2 a3
  rw[KI_key hx,KI_key hy] at this
  exact this
 obtain⟨pb,hpb,ipb⟩:=at_ sb (by omega)
 refine aJ (jJ hpb ?_)
 refine aJ (jHZ (G1.1.trans hk) ipb hI m1 hna (show sa+na<=(arrOf st).size by omega) fun k1 g1 g2 g3=>?_)
 dsimp only
 have g2:∀ t,sa<=t->t<sa+k1->KI (arrOf st) t<=KI (arrOf st) sb:=fun t t1 t2=>by
  obtain⟨q,hq,_⟩:=at_ t (by omega)
  rw[KI_key hq,KI_key hpb]
  exact g2 t q t1 t2 hq
 by_cases e1:na - k1=0
 ·rw[aq (bp e1)]
  refine aM (h _ ⟨?_,G1.1.trans hk,G1.2.2.2.trans hf,G1.2.2.1.trans hpp.symm,fun k _=>?_,?_⟩)
  ·rw[G1.2.1]
  ·rw[G1.2.1]
  ·rw[G1.2.1]
   intro i j i1 i2 i3
   by_cases a:i<sb
   ·by_cases b:j<sb
    ·exact u1 i j i1 i2 (by omega)
    ·exact dQ (g2 i i1 (by omega)) (u2 sb j (aE _) (by omega) (by omega))
   ·exact u2 i j (by omega) i2 (by omega)
 rw[aj (bn e1)]
 obtain⟨pa,hpa,ipa⟩:=at_ (sa+k1+(na - k1) - 1) (by omega)
 refine aJ (jJ hpa ?_)
 refine aJ (jI0 (G1.1.trans hk) ipa hI m2 (by omega) (show sb+nb<=(arrOf st).size by omega) fun k2 l1 l2 l3=>?_)
 dsimp only
 have epa:sa+k1+(na - k1) - 1=sb - 1:=by omega
 rw[epa] at hpa
 have l3':∀ t,sb+k2<=t->t<sb+nb->KI (arrOf st) (sb - 1)<=KI (arrOf st) t:=fun t t1 t2=>by
  obtain⟨q,hq,_⟩:=at_ t (by omega)
  rw[KI_key hq,KI_key hpa]
  exact l3 t q t1 t2 hq
 by_cases e2:k2=0
 ·rw[aq (bp e2)]
  refine aM (h _ ⟨?_,G1.1.trans hk,G1.2.2.2.trans hf,G1.2.2.1.trans hpp.symm,fun k _=>?_,?_⟩)
  ·rw[G1.2.1]
  ·rw[G1.2.1]
  ·rw[G1.2.1]
   intro i j i1 i2 i3
   by_cases a:i<sb
   ·by_cases b:j<sb
    ·exact u1 i j i1 i2 (by omega)
    ·exact dQ (u1 i (sb - 1) i1 (by omega) (by omega)) (l3' j (by omega) (by omega))
   ·exact u2 i j (by omega) i2 (by omega)
 rw[aj (bn e2)]
 have T:Two ((arrOf st).extract (sa+k1) sb) ((arrOf st).extract sb (sb+k2)):=by
  refine⟨fun q hq=>?_,fun q hq=>?_,jLP fun n m x y a1 a2 a3=>m1 n m x y (by omega) a2 (by omega),jLP fun n m x y a1 a2 a3=>m2 n m x y (by omega) a2 (by omega),?_,?_,fun x hx y hy=>?_,fun y hy q hq=>?_⟩
  ·obtain⟨t,_,_,t3⟩:=jC3 hq
   exact hI q (aN (at_list.mp t3))
  ·obtain⟨t,_,_,t3⟩:=jC3 hq
   exact hI q (aN (at_list.mp t3))
  ·rw[jD8 (by omega)]; omega
  ·rw[jD8 (by omega)]; omega
  ·obtain⟨t,t1,t2,t3⟩:=jC3 hx
   rw[jD8 (by omega),jI2 (by omega),show sa+k1+(sb - (sa+k1) - 1)=sb - 1 by omega,hpa] at hy
   cases hy
   exact l2 t x t1 t2 t3
  ·obtain⟨t,t1,t2,t3⟩:=jC3 hy
   rw[jI2 (by omega),dh,hpb] at hq
   cases hq
   exact g3 t y t1 (by omega) t3
 by_cases e3:na - k1<=k2
 case' pos=>
  rw[aq e3]
  refine aJ (jG4 (G1.1.trans hk) T fun r st2 D G0=>?_)
  have G:SG (SortSt.mk' (kindOf st) (arrOf st) pp (gallopOf st) (failedOf st)) st2:=by rw[hst1]; exact G0
  subst hpp
 case' neg=>
  rw[aj e3]
  refine aJ (jG5 (G1.1.trans hk) T fun r st2 D G0=>?_)
  have G:SG (SortSt.mk' (kindOf st) (arrOf st) pp (gallopOf st) (failedOf st)) st2:=by rw[hst1]; exact G0
  subst hpp
 all_goals
  refine aJ (eL (aJ (gC ?_)))
  have ea:arrOf st2=arrOf st:=G.a
  have W:=jIK (R:=((r.toList.zipIdx 0).foldl (fun (a:Array Keyed) (x:Keyed×Nat)=>a.setIfInBounds (sa+k1+x.2) x.1) (arrOf st))) hsb (by omega) (by omega) l1 hz u1 u2 g2 l3' D (jHD (sa+k1) r.toList 0 (arrOf st) ((arrOf st).toList.take (sa+k1)) (((arrOf st).extract (sa+k1) sb).toList++((arrOf st).extract sb (sb+k2)).toList) ((arrOf st).toList.drop (sb+k2)) (by rw[bP,aL]; omega) D.1.length_eq.symm (by
   have a1:=bf (sa+k1) (arrOf st).toList
   have a2:=bf (sb - (sa+k1)) ((arrOf st).toList.drop (sa+k1))
   have a3:=bf k2 ((arrOf st).toList.drop sb)
   rw[g8] at a2 a3
   rw[show sa+k1+(sb - (sa+k1))=sb by omega] at a2
   rw[jAE,jAE,cL,aX,a3,a2,a1]))
  rw[<- ea] at W
  refine jJ2 (by show (failedOf st2).isNone=true; rw[G.f]; show (failedOf st).isNone=true; rw[hf]; rfl) (h _ ⟨?_,G.k.trans hk,G.f.trans hf,G.p,?_,?_⟩)
  ·rw[<- ea]
   exact W.1
  ·rw[<- ea]
   exact W.2.1
  ·exact W.2.2
end
def Runs (xs:Array Keyed):List (Nat×Nat×Nat)->Nat->Nat->Prop
 | [],a,b=>a=b
 | (s,n,_)::t,a,b=>s=a/\0<n/\Up xs s n/\Runs xs t (a+n) b
section
variable {xs ys:Array Keyed}
theorem Runs.le:∀ {l:List (Nat×Nat×Nat)}{a b:Nat},Runs xs l a b->a+l.length<=b
 | [],a,b,h=>by have:a=b:=h; rw[cV]; omega
 | (s,n,_)::t,a,b,⟨_,h2,_,h4⟩=>by
  have:=Runs.le h4
  rw[aG]
  omega
theorem Runs.app:∀ {l m:List (Nat×Nat×Nat)}{a b:Nat},Runs xs (l++m) a b->∃ c,Runs xs l a c/\Runs xs m c b
 | [],m,a,b,h=>⟨a,rfl,h⟩
 | (s,n,_)::t,m,a,b,⟨h1,h2,h3,h4⟩=>by
  obtain⟨c,c1,c2⟩:=Runs.app h4
  exact⟨c,⟨h1,h2,h3,c1⟩,c2⟩
theorem Runs.put:∀ {l m:List (Nat×Nat×Nat)}{a b c:Nat},Runs xs l a c->Runs xs m c b->Runs xs (l++m) a b
 | [],m,a,b,c,h,g=>by have:a=c:=h; subst this; exact g
 | (s,n,_)::t,m,a,b,c,⟨h1,h2,h3,h4⟩,g=>⟨h1,h2,h3,Runs.put h4 g⟩
theorem Up.same {lo n:Nat}(h:Up xs lo n)(e:∀ k,lo<=k->k<lo+n->KI ys k=KI xs k):Up ys lo n:=fun i j h1 h2 h3=>by
 rw[e i h1 (by omega),e j (by omega) h3]
 exact h i j h1 h2 h3
theorem Runs.same:∀ {l:List (Nat×Nat×Nat)}{a b:Nat},Runs xs l a b->(∀ k,a<=k->k<b->KI ys k=KI xs k)->Runs ys l a b
 | [],a,b,h,_=>h
 | (s,n,_)::t,a,b,⟨h1,h2,h3,h4⟩,e=>by
  have:=Runs.le h4
  exact⟨h1,h2,h3.same fun k k1 k2=>e k (by omega) (by omega),Runs.same h4 fun k k1 k2=>e k (by omega) k2⟩
theorem Runs.mod {f:Nat×Nat×Nat->Nat×Nat×Nat}(hf:∀ x,(f x).1=x.1/\(f x).2.1=x.2.1):∀ {l:List (Nat×Nat×Nat)}{i a b:Nat},Runs xs l a b->Runs xs (l.modify i f) a b
 | [],i,a,b,h=>by rw[List.modify_nil]; exact h
 | (s,n,w)::t,0,a,b,⟨h1,h2,h3,h4⟩=>by
  rw[List.modify_zero_cons]
  obtain⟨e1,e2⟩:=hf (s,n,w)
  generalize f (s,n,w)=v at e1 e2 ⊢
  obtain⟨s',n',w'⟩:=v
  have e1:s'=s:=e1
  have e2:n'=n:=e2
  subst e1 e2
  exact⟨h1,h2,h3,h4⟩
 | (s,n,w)::t,i+1,a,b,⟨h1,h2,h3,h4⟩=>by
  rw[List.modify_succ_cons]
  exact⟨h1,h2,h3,Runs.mod hf h4⟩
end
structure RI (a₀:Array Keyed)(lo:Nat)(st:SortSt):Prop where
 perm:(arrOf st).Perm a₀
 kind:kindOf st=Od.kd
 failed:failedOf st=none
 runs:Runs (arrOf st) (pendingOf st).toList 0 lo
theorem jF3:∀ (l:List (Nat×Nat×Nat)) (i:Nat),i+1<l.length->∃ u x y t,l=u++x::y::t/\u.length=i
 | [],i,h=>absurd h (eN _)
 | [x],i,h=>by rw[jc] at h; omega
 | x::y::t,0,h=>⟨[],x,y,t,rfl,rfl⟩
 | x::y::t,i+1,h=>by
  obtain⟨u,x',y',t',e,hu⟩:=jF3 (y::t) i (by rw[aG] at h; omega)
  exact⟨x::u,x',y',t',by rw[e]; rfl,by rw[aG,hu]⟩
theorem jQZ {a₀ xs:Array Keyed}(h0:AllI a₀.toList)(hp:xs.Perm a₀):AllI xs.toList:=fun p hp'=>h0 p ((cP.mp hp).mem_iff.mp hp')
section
variable {prog:Program}{w:World}{A:Around}{E:Value->Shared->Prop}{s:Shared} [LtOk prog w A s]{a₀:Array Keyed}
theorem jCP {st:SortSt}{i lo:Nat}{Q:Bool->SortSt->Prop}(h0:AllI a₀.toList)(R:RI a₀ lo st)(hlo:lo<=a₀.size)(hi:i+1<(pendingOf st).size)
  (h:∀ st',RI a₀ lo st'->(pendingOf st').size+1=(pendingOf st).size->(∀ k,lo<=k->KI (arrOf st') k=KI (arrOf st) k)->Q true st'):wpS (model prog w) A E s (mergeAt' i) Q st:=by
 obtain⟨u,⟨sa,na,pw⟩,⟨sb,nb,w2⟩,t,e,hu⟩:=jF3 (pendingOf st).toList i (by rw[aL]; exact hi)
 have rr:=R.runs
 rw[e] at rr
 obtain⟨c,r1,a1,a2,a3,a4,a5,a6,a7⟩:=Runs.app rr
 have r2:=Runs.le a7
 have r3:=Runs.le r1
 subst a1
 have e1:(pendingOf st)[i]?=some (sa,na,pw):=by
  rw[<- bJ,e,bb (by omega),hu,gS]
  rfl
 have e2:(pendingOf st)[i+1]?=some (sb,nb,w2):=by
  rw[<- bJ,e,bb (by omega),hu,cL]
  rfl
 have z:=R.perm.size_eq
 refine jG6 R.kind R.failed (jQZ h0 R.perm) e1 e2 a4 a2 a5 (by omega) a3 a6 fun st' M=>?_
 have ep:(pendingOf st').toList=u++(sa,na+nb,pw)::t:=by
  rw[M.pend,Array.toList_eraseIdxIfInBounds,fc,e,jd _ _ (by omega),hu,gS,List.set_cons_zero,List.eraseIdx_append_of_length_le (by omega),hu,cL]
  rfl
 refine h st' ⟨M.perm.trans R.perm,M.kind,M.failed,?_⟩ ?_ fun k hk=>M.out k (by omega)
 ·rw[ep]
  refine Runs.put (Runs.same r1 fun k k1 k2=>M.out k (by omega)) ⟨rfl,by omega,M.up,?_⟩
  have:=Runs.same (ys:=arrOf st') a7 fun k k1 k2=>M.out k (by omega)
  rw[Nat.add_assoc] at this
  exact this
 ·have q1:=bR List.length ep
  have q2:=bR List.length e
  rw[aL,aK,aG] at q1
  rw[aL,aK,aG,aG] at q2
  omega
theorem RI.of {st:SortSt}{F:Nat->Int}{lo:Nat}{p:Array (Nat×Nat×Nat)}{xs:Array Keyed}(h:BB a₀ p F lo st)(hr:Runs xs p.toList 0 lo)(hF:∀ k,F k=KI xs k):RI a₀ lo st:=
 ⟨h.perm,h.kind,h.failed,by rw[h.pend]; exact hr.same fun k _ hk=>(h.low k hk).trans (hF k)⟩
theorem jCO {st:SortSt}{Q:Unit->SortSt->Prop}(h0:AllI a₀.toList)(hB:SB a₀ st)(h1:1<=a₀.size)
  (h:∀ st',(arrOf st').Perm a₀->failedOf st'=none->STo (arrOf st') a₀.size->Q () st'):wpS (model prog w) A E s sortRuns' Q st:=by
 rw[sortRuns'_eq]
 refine aJ (gC ?_)
 try dsimp only
 have hz:=hB.size
 rw[hz]
 generalize minRun' a₀.size a₀.size 0=mr
 refine aJ (di (bW (I:=fun x c st'=>∃ lo,c=(none,lo)/\x<=lo/\lo<=a₀.size/\RI a₀ lo st')
  (Q:=fun c st'=>c=(none,a₀.size)/\RI a₀ a₀.size st') ?step ?fin ⟨0,rfl,aE _,bG _,hB.perm,hB.kind,hB.failed,by rw[hB.pend]; rfl⟩) ?post)
 case fin=>
  rintro c st' ⟨lo,rfl,l1,l2,R⟩
  have:lo=a₀.size:=by omega
  subst this
  exact⟨rfl,R⟩
 case step=>
  rintro x c st1 _ hx ⟨lo,rfl,l1,l2,R1⟩
  try dsimp only
  by_cases hl:lo ≥ a₀.size
  ·rw[aq hl]
   have:lo=a₀.size:=by omega
   subst this
   exact aM ⟨rfl,R1⟩
  rw[aj hl]
  refine aJ (jDX (F:=fun k=>KI (arrOf st1) k) (p:=pendingOf st1) h0 (by omega) (by omega) ⟨R1.perm,R1.kind,R1.failed,rfl,fun _ _=>rfl⟩ fun m st2 B2 m1 m2 U2=>?_)
  try dsimp only
  by_cases hm:m<mr
  case' pos=>
   rw[aq hm]
   refine aJ (hG (ck ⟨rfl,?_⟩))
   refine aJ (jCQ h0 (by omega) (by omega) B2 U2 fun st4 B4 U4=>?_)
   have R4:=RI.of B4 R1.runs fun _=>rfl
   have n0:0<min (a₀.size - lo) mr:=by omega
   have n9:min (a₀.size - lo) mr<=a₀.size - lo:=by omega
   generalize min (a₀.size - lo) mr=n at*
  case' neg=>
   rw[aj hm]
   have R4:=RI.of B2 R1.runs fun _=>rfl
   have U4:=U2
   generalize st2=st4 at*
   generalize m=n at*
  all_goals
   refine aJ (gC ?_)
   have last:∀ st5:SortSt,RI a₀ lo st5->Up (arrOf st5) lo n->∃ lo',(none,lo+n)=((none:Option PUnit),lo')/\x+1<=lo'/\lo'<=a₀.size/\RI a₀ lo' (setPending st5 ((pendingOf st5).push (lo,n,0))):=fun st5 R5 U5=>
    ⟨lo+n,rfl,by omega,by omega,R5.perm,R5.kind,R5.failed,by
     show Runs (arrOf st5) ((pendingOf st5).push (lo,n,0)).toList 0 (lo+n)
     rw[dO]
     exact R5.runs.put ⟨rfl,by omega,U5,rfl⟩⟩
   cases hb:(pendingOf st4).back? with
   | none=>
    try dsimp only
    exact aJ (eL (aM (last st4 R4 U4)))
   | some v=>
    obtain⟨s1,n1,w1⟩:=v
    try dsimp only
    refine aJ (di (bW (I:=fun _ c st'=>c=(none,())/\RI a₀ lo st'/\Up (arrOf st') lo n) (Q:=fun c st'=>c=(none,())/\RI a₀ lo st'/\Up (arrOf st') lo n) ?mstep (fun _ _ z=>z) ⟨rfl,R4,U4⟩) ?mpost)
    case mstep=>
     rintro y c st5 _ _ ⟨rfl,R5,U5⟩
     try dsimp only
     refine aJ (gC ?_)
     by_cases hs:(pendingOf st5).size>1
     ·rw[aq hs]
      obtain⟨v,hv⟩:∃ v,(pendingOf st5)[(pendingOf st5).size - 2]?=some v:=⟨_,Array.getElem?_eq_getElem (by omega)⟩
      rw[hv]
      obtain⟨v1,v2,older⟩:=v
      try dsimp only
      by_cases ho:older<=power' a₀.size (2*s1+n1) (2*s1+n1+n1+n) a₀.size
      ·rw[aq ho]
       exact aM ⟨rfl,R5,U5⟩
      rw[aj ho]
      refine aJ (jCP h0 R5 (by omega) (by omega) fun st6 R6 _ E6=>?_)
      exact aM ⟨rfl,R6,U5.same fun k k1 _=>E6 k k1⟩
     ·rw[aj hs]
      exact aM ⟨rfl,R5,U5⟩
    case mpost=>
     rintro c st5 ⟨rfl,R5,U5⟩
     try dsimp only
     refine aJ (eL (aJ (eL (aM (last (setPending st5 ((pendingOf st5).modify ((pendingOf st5).size - 1) fun x=>(x.1,x.2.1,power' a₀.size (2*s1+n1) (2*s1+n1+n1+n) a₀.size))) ⟨R5.perm,R5.kind,R5.failed,?_⟩ U5)))))
     show Runs (arrOf st5) (Array.modify _ _ _).toList 0 lo
     rw[Array.toList_modify]
     exact Runs.mod (f:=fun x=>(x.1,x.2.1,power' a₀.size (2*s1+n1) (2*s1+n1+n1+n) a₀.size)) (fun _=>⟨rfl,rfl⟩) R5.runs
 case post=>
  rintro c st1 ⟨rfl,R1⟩
  try dsimp only
  refine aJ (di (bW (I:=fun x c st'=>c=(none,())/\RI a₀ a₀.size st'/\1<=(pendingOf st').size/\(pendingOf st').size+x<=a₀.size)
   (Q:=fun c st'=>c=(none,())/\RI a₀ a₀.size st'/\(pendingOf st').size=1) ?step2 ?fin2 ⟨rfl,R1,?a1,?a2⟩) ?post2)
  case a1=>
   have:=R1.runs
   cases hp:(pendingOf st1).toList with
   | nil=>
    rw[hp] at this
    have:0=a₀.size:=this
    omega
   | cons v t=>
    have:=bR List.length hp
    rw[aL,aG] at this
    omega
  case a2=>
   have:=R1.runs.le
   rw[aL] at this
   omega
  case fin2=>
   rintro c st2 ⟨_,_,h2,h3⟩
   omega
  case post2=>
   rintro c st2 ⟨rfl,R2,h2⟩
   try dsimp only
   refine aM (h st2 R2.perm R2.failed ?_)
   have rr:=R2.runs
   cases hp:(pendingOf st2).toList with
   | nil=>
    rw[<- aL,hp] at h2
    cases h2
   | cons v t=>
    have:=bR List.length hp
    rw[aL,h2,aG] at this
    have:t=[]:=gI (by omega)
    subst this
    rw[hp] at rr
    obtain⟨v1,v2,v3⟩:=v
    obtain⟨q1,q2,q3,q4⟩:=rr
    have q4:0+v2=a₀.size:=q4
    subst q1
    exact fun i j hij hj=>q3 i j (bG _) hij (by omega)
  case step2=>
   rintro x c st2 _ hx ⟨rfl,R2,h2,h3⟩
   try dsimp only
   refine aJ (gC ?_)
   by_cases hs:(pendingOf st2).size<=1
   ·rw[aq hs]
    exact aM ⟨rfl,R2,by omega⟩
   rw[aj hs]
   refine aJ (jCP h0 R2 (aE _) ?_ fun st3 R3 e3 _=>?_)
   ·have ite_le:∀ (c:Prop) [Decidable c] (a b:Nat),(if c then a else b)<=max a b:=fun c _ a b=>by
     by_cases z:c
     ·rw[aq z]; omega
     ·rw[aj z]; omega
    refine jx (Nat.add_le_add_right (ite_le _ _ _) 1) ?_
    omega
   ·exact aM ⟨rfl,R3,by omega,by omega⟩
end
end TM
end
section
namespace TM
open PySem PySem.Spec PyProof.Rows
section
variable {prog:Program}{w:World}{A:Around}{E:Value->Shared->Prop}{s:Shared}
abbrev turned (b:Bool)(xs:Array Value):Array Value:=if b then xs.reverse else xs
theorem jG8 {b:Bool}{xs:Array Value} :(turned b xs).size=xs.size:=by
 cases b
 ·rfl
 ·exact Array.size_reverse
theorem jBT (b:Bool)(vs:List Value):(if b=true then (vs.toArray.zip vs.toArray).reverse else vs.toArray.zip vs.toArray).Perm (pairsOf vs):=by
 cases b with
 | false=>exact Array.Perm.refl _
 | true=>exact cP.mpr (by show ((vs.toArray.zip vs.toArray).reverse).toList.Perm _; rw[dj]; exact List.reverse_perm _)
def AskOk [Od](prog:Program)(w:World)(A:Around)(s:Shared)(a:Addr)(vs:List Value):Prop:=
 ∀ h6:Heap,(∀ c o,s.heap.get? c=some o->c≠a->h6.get? c=some o)->
  (∀ (Q:SortKind->Shared->Prop) (E:Value->Shared->Prop),Q Od.kd { s with heap:=h6} ->wpAny (model prog w) A (keyKind' vs.toArray) Q E { s with heap:=h6})/\LtOk prog w A { s with heap:=h6}
theorem jH8 [Od]{a:Addr}{vs:List Value}{n:Nat}{b:Bool}{P:Fin->Shared->Prop}(ho:s.heap.get? a=some (seqObj "list" vs.toArray n))(hz:vs.length<=sizeLine)(hI:AllI (pairsOf vs).toList)(hk:2<=vs.length->AskOk prog w A s a vs)
  (h:∀ xs:Array Keyed,xs.Perm (pairsOf vs)->STo xs (pairsOf vs).size->P (.done (.ret .none)) { s with heap:=sortedHeap s.heap a vs (turned b (xs.map (·.2)))}):
  wpAny (model prog w) A (Builtin.«list.sort» ⟨[.ref a],[(Str.ofString "reverse", .bool b)]⟩) P E s:=by
 rw[list_sort_rev]
 have ha:=ay ho
 have hz':vs.toArray.size<=sizeLine:=by rw[aI]; exact hz
 refine aa (listItems_at ho rfl (aa (listUpdate_at ho rfl ?_ hz' (bG _))))
 obtain⟨e1,ho1⟩:∃ e1,(s.heap.update a (Obj.mapSeq fun _=>#[])).get? a=some (seqObj "list" #[] e1):=⟨_,get?_update_seq ho _⟩
 refine aa (seqEpoch_at ho1 rfl (aa (ji ?_ hz)))
 refine aa (iC (bI ?_))
 generalize hh6:((s.heap.update a (Obj.mapSeq fun _=>#[])).push (seqObj "tuple" vs.toArray 0)).push (seqObj "list" #[] 0)=h6
 have ho6:h6.get? a=some (seqObj "list" #[] e1):=by
  rw[<- hh6]
  exact ae _ (ae _ ho1)
 have k6:∀ c o,s.heap.get? c=some o->c≠a->h6.get? c=some o:=fun c o q ne=>by
  rw[<- hh6]
  exact ae _ (ae _ ((bu _ _ (cF ne)).trans q))
 have sh:∀ out,sortedHeap s.heap a vs out=h6.update a (Obj.mapSeq fun _=>out):=fun out=>by rw[<- hh6]; rfl
 have go:∀ X:Sem Fin,wpAny (model prog w) A X P E { s with heap:=h6} ->wpAny (model prog w) A (if b=true then (do let _ <- rule "list.sort.reverse"; X) else X) P E { s with heap:=h6} :=fun X hX=>by
  cases b with
  | false=>exact hX
  | true=>exact aa (ck hX)
 have hend:∀ st':SortSt,(arrOf st').Perm (pairsOf vs)->STo (arrOf st') (pairsOf vs).size->P (.done (.ret .none)) { s with heap:=h6.update a (Obj.mapSeq fun _=>turned b ((arrOf st').map (·.2)))} :=fun st' p1 p2=>by
  rw[<- sh]
  exact h _ p1 p2
 have hfit:∀ st':SortSt,(arrOf st').Perm (pairsOf vs)->(turned b ((arrOf st').map (·.2))).size<=sizeLine+1:=fun st' p1=>by
  rw[jG8,size_map,p1.size_eq,pairsOf_size]
  omega
 dsimp only
 refine go _ ?_
 by_cases few:vs.toArray.size<2
 ·rw[aq few,aq few]
  refine aa (ag ?_)
  rw[StateT.run_pure]
  refine aa (ag ?_)
  dsimp only
  refine aa (seqEpoch_at ho6 rfl (aa (listUpdate_at ho6 rfl ?_ (bG _) (hfit (SortSt.mk' general' _ #[] 7 none) (jBT b vs)))))
  rw[bne_self_eq_false,aj ao]
  refine ag (hend (SortSt.mk' general' _ #[] 7 none) (jBT b vs) fun i j hij hj=>?_)
  have:i=j:=by
   rw[pairsOf_size] at hj
   rw[aI] at few
   omega
  rw[this]
  exact dP _
 ·rw[aj few,aj few]
  rw[aI] at few
  obtain⟨kk,ll⟩:=hk (by omega) h6 k6
  refine aa (kk _ _ (aa (bN (jCO (a₀:=pairsOf vs) (st:=SortSt.mk' Od.kd _ #[] 7 none)
   (Q:=fun _ st'=>(arrOf st').Perm (pairsOf vs)/\failedOf st'=none/\STo (arrOf st') (pairsOf vs).size)
   hI ⟨jBT b _,rfl,rfl,rfl⟩ (by rw[pairsOf_size]; omega) fun st' a1 a2 a3=>⟨a1,a2,a3⟩) ?_ fun _ _ e=>e)))
  rintro ⟨⟨⟩,st'⟩ s' ⟨rfl,p1,p2,p3⟩
  dsimp only
  refine aa (seqEpoch_at ho6 rfl (aa (listUpdate_at ho6 rfl ?_ (bG _) (hfit st' p1))))
  rw[p2]
  dsimp only
  rw[bne_self_eq_false,aj ao]
  exact ag (hend st' p1 p3)
theorem plain_rev (a:Addr):Builtin.«list.sort» ⟨[.ref a],[]⟩=Builtin.«list.sort» ⟨[.ref a],[(Str.ofString "reverse", .bool false)]⟩:=by
 rw[list_sort_plain,list_sort_rev]
 rfl
abbrev odI:Od:=⟨oneType',fun p=>numOf p.1,fun p=>∃ n t,p.1=Value.int n t⟩
theorem ltI: @LtOk prog w A s odI:= @LtOk.mk prog w A s odI fun {E st x y Q} hk hx hy h=>by
 obtain⟨a,t,ha⟩:=hx
 obtain⟨b,u,hb⟩:=hy
 have e1: @key odI x=a:=by show numOf x.1=a; rw[ha]; rfl
 have e2: @key odI y=b:=by show numOf y.1=b; rw[hb]; rfl
 rw[e1,e2] at h
 rw[lt'_eq]
 refine aJ (gC ?_)
 rw[show kindOf st=oneType' from hk,keyLt'_oneType,ha,hb]
 exact aJ (hG (df (oneLt_int ⟨rfl,aM h⟩)))
theorem stoI {xs:Array Keyed}{k:Nat}(h: @STo odI xs k):SortedTo xs k:=h
theorem askI {a:Addr}{vs:List Value}{ns:List Int}(hI:IntsAre vs ns)(h2:2<=vs.length): @AskOk odI prog w A s a vs:=fun h6 _=>⟨fun Q E h=>by
 obtain⟨u,v,r,rfl⟩:∃ u v r,vs=u::v::r:=by
  match vs,h2 with
  | [_],few=>exact absurd few (show ¬ 2<=1 by decide)
  | u::v::r,_=>exact⟨u,v,r,rfl⟩
 rw[keyKind_ints hI]
 exact ag h,ltI⟩
theorem sort_rev_any {a:Addr}{vs:List Value}{ns:List Int}{n:Nat}{b:Bool}{P:Fin->Shared->Prop}(ho:s.heap.get? a=some (seqObj "list" vs.toArray n))(hI:IntsAre vs ns)(hz:vs.length<=sizeLine)
  (h:∀ (out:Array Value) (ns':List Int),IntsAre out.toList ns'->ns'.Perm ns->Ordered b ns'->P (.done (.ret .none)) { s with heap:=sortedHeap s.heap a vs out}):
  wpAny (model prog w) A (Builtin.«list.sort» ⟨[.ref a],[(Str.ofString "reverse", .bool b)]⟩) P E s:=
 @jH8 prog w A E s odI a vs n b P ho hz hI.intKeys (fun h2=>askI hI h2) fun xs p1 p2=>by
  obtain⟨ns',q1,q2,q3⟩:=sorted_out_rev hI p1 (stoI p2) b
  exact h _ ns' q1 q2 q3
end
end TM
end
section
namespace L2
open PySem PySem.Spec PyProof.Rows
section
variable {prog:Program}{w:World}{A:Around}{E:Value->Shared->Prop}{s:Shared}{d:Addr}{kvs:List (Key×Value)}
theorem jDR:∀ {vs:List Value}{ks:List Int},vs.length=ks.length->(∀ (j:Nat) (v:Value),vs[j]?=some v->∃ i t,ks[j]?=some i/\v=Value.int i t)->IntsAre vs ks
 | [],[],_,_=> .nil
 | [],_::_,h,_=>by cases h
 | _::_,[],h,_=>by cases h
 | v::vs,a::r,h,hat=>by
  obtain⟨i,t,e1,rfl⟩:=hat 0 v rfl
  cases e1
  exact .cons _ t (jDR (Nat.succ.inj h) fun j v e=>hat (j+1) v e)
theorem jF5 {Q:Value->Shared->Prop}{ks:List Int}{b:Bool}(hh:A.handled=none)(lo:(d==sysModules)=false)(D:s.heap.DictOf (jK prog w) d kvs)(hk:kvs.map (·.1)=ks.map Sum.inl)(hz:ks.length<=sizeLine)
  (h:∀ (hf:Heap) (tk:Nat) (l:Addr) (vs:List Value) (ns:List Int) (e:Nat),s.heap.objs.size<=l->(∀ b u,s.heap.get? b=some u->hf.get? b=some u)->
   hf.get? l=some { cls:= .type "list",data:= .seq vs.toArray e} ->IntsAre vs ns->ns.Perm ks->Ordered b ns->Q (.ref l) { s with heap:=hf,toks:=tk}):
  wpAny (model prog w) A (call (.builtin "sorted") [.ref d] [(Str.ofString "reverse", .bool b)]) Q E s:=by
 obtain⟨ep,hat⟩:=D.dictAt
 have hlen:kvs.length=ks.length:=by
  have:=bR List.length hk
  rwa [ah,ah] at this
 refine call_function_entry_kw kind_sorted plain_sorted entry_sorted (args_sorted_rev _ _) ?_
 unfold Builtin.«sorted»
 refine aa (m:=checkCount "sorted" 1 1 _) (ag ?_)
 refine aa (jGV (A:=A.in1) (PySem.W.kdl_dict (knd:=jK prog w) (kvs:=kvs) (ep:=ep) lo) hh hat (by omega) fun h1 tk acc hk1 hlt1 hacc=>?_)
 have hal:acc.toList.length=ks.length:=by rw[aL,hacc.1,hlen]
 have hI:IntsAre acc.toList ks:=jDR hal fun j v e=>by
  obtain⟨k,x,hx,hv⟩:=hacc.2 j v (by rw[<- bJ]; exact e)
  have e2:(kvs.map (·.1))[j]?=some k:=by rw[aP,hx]; rfl
  rw[hk,aP] at e2
  cases hq:ks[j]? with
  | none=>rw[hq] at e2; cases e2
  | some i=>
   rw[hq] at e2
   cases e2
   rcases jM (show keyIs (Sum.inl i) v=true from hv) with ⟨i',t,q1,q2⟩ | ⟨x,t,q1,q2⟩
   ·cases q1
    exact⟨i,t,rfl,q2⟩
   ·cases q1
 refine aa (iC ?_ (by omega))
 have hL:(h1.push (seqObj "list" acc.toList.toArray 0)).get? h1.objs.size=some (seqObj "list" acc.toList.toArray 0):=aA _ rfl
 show wpAny _ _ _ _ _ { s with heap:=h1.push (seqObj "list" acc.toList.toArray 0),toks:=tk}
 refine aa (bI (wpAny_call_entry_kw slot_list_sort ⟨_,hL,rfl⟩ entry_list_sort (TM.sort_rev_any hL hI (by omega) fun out ns' a1 a2 a3=>⟨_,rfl,?_⟩) (args_list_sort_rev _ _)))
 obtain⟨e,he⟩:=sortedHeap_at (out:=out) hL
 have kept:∀ b u,s.heap.get? b=some u->(sortedHeap (h1.push (seqObj "list" acc.toList.toArray 0)) h1.objs.size acc.toList out).get? b=some u:=fun b u q=>by
  have q1:=hk1 b u q
  have hb:b<h1.objs.size:=ay q1
  rw[sortedHeap_old (aV hb) (by rw[size_push']; exact bU hb)]
  exact ae _ q1
 generalize sortedHeap (h1.push (seqObj "list" acc.toList.toArray 0)) h1.objs.size acc.toList out=hf at he kept ⊢
 exact ag ⟨_,rfl,h hf tk h1.objs.size out.toList ns' e (cM hlt1) kept (by rw[gJ]; exact he) a1 a2 a3⟩
end
def jMA (X:Cx)(f:Value)(ks:List Str)(r:List V->List V->Hp->VK->Prop):Prop:=
 ∀ (pins:List (Addr×Obj)) (s:Shared) (σ:St) (H:Hp) (xs zs:List V) (us ws:List Value) (Q:VK),Inv X pins σ H s->Vals xs us->Vals zs ws->r xs zs H Q->
  wpAny (model X.prog X.w) X.A (call f us (ks.zip ws)) (EP X pins σ Q) X.xe s
def tCBK (r:List V->List V->Hp->VK->Prop)(t tk:TA):TE:=fun σ H Q=>t σ H fun vs H1=>tk σ H1 fun zs H2=>r vs zs H2 Q
structure JK (X:Cx)(kws:List Keyword)(t:TA):Prop where
 h:PK X kws t
section
variable {X:Cx}{x:Str}{p pos kpos:Pos}{e:Expr}{es:List Expr}{kws:List Keyword}{t tk:TA}{te:TE}{nm:Option Str}{ks:List Str}{id:String}{r:List V->List V->Hp->VK->Prop}
theorem jOH:JK X [] tNil:=⟨jRZ⟩
theorem jL2 (ha:JE X e te)(hr:JK X kws t):JK X (⟨nm,e,kpos⟩::kws) (tCons te t):=⟨jPL ha.h hr.h⟩
theorem jFN (hc:jMA X (.builtin id) ks r)(hg:Gl1 X x)(hm:X.mg x=none)(hv:bootBuiltins x=some (.builtin id))(ha:JA X (e::es) t)(hkw:JK X kws tk)(he:starEach (e::es) X.env=(false,eval e X.env)::starEach es X.env)
  (hn:x≠ "__name__" :=by decide) (hdb:(x==("__debug__" :Str))=false:=by decide) (hall:(backToKw pos (keywordEach kws X.env)).all (·.1.isSome)=true:=by rfl) (hks:(backToKw pos (keywordEach kws X.env)).filterMap (·.1)=ks:=by rfl)
  (hpl:(backTo pos (starEach es X.env)).any (·.1)=false:=by rfl) (hkn:(backToKw pos (keywordEach kws X.env)).any (·.1.isNone)=false:=by rfl):JE X (.Call (.Name x p) (e::es) kws pos) (tCBK r t tk):=by
 refine⟨fun pins s σ H Q I h=>?_⟩
 refine da (jD4 I hg.a hm hv ?_ hn hdb)
 refine callWith_kw (thn (ha.h pos pins s σ H _ I h) fun us s1 ⟨vs,H1,I1,r1,q1⟩=>thn (hkw.h pos pins s1 σ H1 _ I1 q1) fun ws s2 ⟨zs,H2,I2,rz,q2⟩=>?_) (by rw[he]; rfl) (by rw[he]; exact hpl) hall hkn
 rw[hks]
 exact hc pins s2 σ H2 vs zs us ws Q I2 r1 rz q2
theorem jEO (hc:X.calm=true):jMA X (.builtin "sorted") [Str.ofString "reverse"] (fun xs zs H Q=>∃ (p:Addr) (kvs:List (Key×V)) (ks:List Int) (b:Bool),xs=[.ref p]/\zs=[.bl b]/\H p=some (.dK kvs)/\kvs.map (·.1)=ks.map Sum.inl/\ks.length<=sizeLine/\
  ∀ (l:Addr) (ns:List Int),H l=none->Ordered b ns->ns.Perm ks->Q (.ref l) (upd H l (.lst (ns.map V.int)))):=by
 intro pins s σ H xs zs us ws Q I r rz h
 obtain⟨p,kvs,ks,b,rfl,rfl,hp,hk,hn,q⟩:=h
 obtain⟨u,rfl,rx⟩:=r.one
 obtain⟨v,rfl,ry⟩:=rz.one
 cases rx
 cases ry
 obtain⟨z,lo,vs,rel,dd⟩:=dk_of I.hok hp
 refine jF5 (I.ok.hd hc) lo dd (by rw[<- rel.keys]; exact hk) hn fun hf tk l vs ns e hl kp he hi pm srt=>?_
 have hz:(ns.map V.int).length<=sizeLine:=by rw[ah,pm.length_eq]; exact hn
 have I2:Inv X pins σ (upd H l (.lst (ns.map V.int))) { s with heap:=hf,toks:=tk} :=I.laid (t':=tk) kp hl ⟨hz,vs,e,jAS hi,he⟩
 exact⟨.ref l,_,I2,rfl,q l ns (I.hok.fresh hl) srt pm⟩
end
section
variable {X:Cx}
theorem jOJ {o:Expr}{to:TE}{name:Str}{apos cpos:Pos}{T id:String}{r:V->List V->Hp->VK->Prop}(pa:PlainAttrs T)(slot:Slot T name id)(hty:typeOf (.builtin id)=pure (.type "method_descriptor"))(hm:MtR X id r)(ho:JE X o to)
  (hbase:attributeBase o name X.env (eval o X.env)=eval o X.env:=by rfl) (hline:(apos.endLine==cpos.line)=true:=by rfl):JE X (.Call (.Attribute o name apos) [] [] cpos) (tBM0 X.K T r to):=⟨jS8 pa slot hty hm ho.h hbase hline⟩
def rBits:V->List V->Hp->VK->Prop:=fun x vs H Q=>∃ i,x= .int i/\vs=[]/\Q (.int (Builtin.Int.intBits i)) H
theorem jQ8:MtR X "int.bit_length" rBits:=by
 intro pins s σ H x vs v us Q I rx rv h
 obtain⟨i,rfl,rfl,q⟩:=h
 obtain⟨t,rfl⟩:=rx
 have hus:=rv.zero
 subst hus
 exact call_int_bit_length ⟨.int _,H,I.tok _,⟨_,rfl⟩,q⟩
theorem jL8 {i o:Expr}{ty td:TE}{pos:Pos}(hu:X.A.units+1<cLine)(hi:JE X i ty)(ho:JE X o td)(h1:behindInMarks .NotIn o=false):JT X (.Compare i [.NotIn] [o] pos) (tB (jJC ty td)):=⟨jRW (jK3 hu hi.h ho.h) h1⟩
def jRC (i:Int)(b:Bool):TE:=fun _ H Q=>∀ p H',H' p=some (.dK [(.inl i, .bl b)])->Ext H H'->H p=none->Q (.ref p) H'
theorem jN9 {i:Int}{b:Bool}{k1 k2:Nat}{p1 p2 pos:Pos} :JE X (.Dict [some (.Constant (.int i) k1 p1)] [.Constant (.bool b) k2 p2] pos) (jRC i b):=
 ⟨fun pins s σ H Q I h=>jK1 (jHF je_int.h je_bl.h jJX) rfl rfl (by intro z; cases z) (by show 1<=15; decide) pins s σ H Q I fun p hp=>⟨j9,[(.inl i, .bl b)],rfl,by show 1<=15; decide,h p _ j9 (((Ext.refl H).new hp _).updNew hp _) hp⟩⟩
theorem jEI {K:W.Frag}{tp:Bool}{l:Addr}{xs:List V}{g:TG}{tb:TS}{D:Ends}{σ:St}{H:Hp}(Pv:Nat->St->Hp->Prop)(h0:Pv 0 σ H)(hl:∀ i σ H,Pv i σ H->Sq tp K H l xs)
  (hs:∀ i x T σ H,xs[i]?=some x->H T=none->Pv i σ H->g (.ref T) σ (upd H T (.tup [.int (i:Int),x])) fun σ2 H2=>tb { D with nx:=Pv (i+1),ct:=Pv (i+1),bk:=D.nx} σ2 H2) (hd:∀ σ H,Pv xs.length σ H->D.nx σ H):
  ∃ W:Nat->Nat->St->Hp->Prop,(∃ m,W 0 m σ H)/\∀ i m σ H,W i m σ H->
   ((Ite tp K l).stop i H/\D.nx σ H)\/((Ite tp K l).go i H/\∃ N:St->Hp->Prop,(∀ σ' H',N σ' H'->∃ m',m'<m/\W (i+1) m' σ' H')/\∀ x H',(Ite tp K l).yld i H x H'->g x σ H' fun σ2 H2=>tb { D with nx:=N,ct:=N,bk:=D.nx} σ2 H2):=by
 refine⟨fun i m σ H=>m=xs.length - i/\i<=xs.length/\Pv i σ H,⟨_,rfl,bG _,h0⟩,?_⟩
 rintro i m σ H ⟨rfl,hi,p⟩
 have s1:=hl i σ H p
 by_cases hlt:i<xs.length
 ·refine .inr ⟨⟨xs,xs[i],s1,by simp [hlt]⟩,Pv (i+1),fun σ' H' p'=>⟨xs.length - (i+1),by omega,rfl,hlt,p'⟩,fun v H'' y=>?_⟩
  obtain⟨T,x,e1,e2,e3,e4⟩:=y
  subst e2 e3
  exact hs i x T σ _ (e4 xs s1) e1 p
 ·have e:i=xs.length:=by omega
  subst e
  exact .inl ⟨⟨xs,s1,aE _⟩,hd σ H p⟩
end
def All2 {α β:Type}(R:α->β->Prop):List α->List β->Prop
 | [],[]=>True
 | a::as,b::bs=>R a b/\All2 R as bs
 | _,_=>False
section
variable {α β:Type}{R S:α->β->Prop}
theorem All2.len:∀ {as:List α}{bs:List β},All2 R as bs->as.length=bs.length
 | [],[],_=>rfl
 | _::_,_::_,h=>bR (· +1) (All2.len h.2)
theorem All2.imp (f:∀ a b,R a b->S a b):∀ {as:List α}{bs:List β},All2 R as bs->All2 S as bs
 | [],[],_=>trivial
 | _::_,_::_,h=>⟨f _ _ h.1,All2.imp f h.2⟩
theorem All2.snoc {a:α}{b:β} :∀ {as:List α}{bs:List β},All2 R as bs->R a b->All2 R (as++[a]) (bs++[b])
 | [],[],_,h=>⟨h,trivial⟩
 | _::_,_::_,h,k=>⟨h.1,All2.snoc h.2 k⟩
theorem All2.get:∀ {as:List α}{bs:List β}{i:Nat}{b:β},All2 R as bs->bs[i]?=some b->∃ a,as[i]?=some a/\R a b
 | [],[],i,b,_,h=>by simp at h
 | a::_,_::_,0,b,h,e=>by
  simp at e
  subst e
  exact⟨a,rfl,h.1⟩
 | _::_,_::_,i+1,b,h,e=>by
  obtain⟨a,h1,h2⟩:=All2.get h.2 (i:=i) (b:=b) (by simpa using e)
  exact⟨a,by simpa using h1,h2⟩
theorem All2.get':∀ {as:List α}{bs:List β}{i:Nat}{a:α},All2 R as bs->as[i]?=some a->∃ b,bs[i]?=some b/\R a b
 | [],[],i,b,_,h=>by simp at h
 | a::_,b::_,0,x,h,e=>by
  simp at e
  subst e
  exact⟨b,rfl,h.1⟩
 | _::_,_::_,i+1,x,h,e=>by
  obtain⟨b,h1,h2⟩:=All2.get' h.2 (i:=i) (a:=x) (by simpa using e)
  exact⟨b,by simpa using h1,h2⟩
theorem All2.of_get {as:List α}{bs:List β}(hl:as.length=bs.length)(h:∀ (i:Nat) a b,as[i]?=some a->bs[i]?=some b->R a b):All2 R as bs:=by
 induction as generalizing bs with
 | nil=>cases bs with
  | nil=>trivial
  | cons b bs=>cases hl
 | cons a as ih=>cases bs with
  | nil=>cases hl
  | cons b bs=>exact⟨h 0 a b rfl rfl,ih (by simpa using hl) fun i a b h1 h2=>h (i+1) a b (by simpa using h1) (by simpa using h2)⟩
end
def lowN (m:Nat):Nat:=if m % 2=1 then lowN (m / 2)+1 else 0
theorem jD3 {m:Nat}(h:m % 2=0):lowN m=0:=by
 unfold lowN
 rw[aj (by omega)]
theorem jE9 {m:Nat}(h:m % 2=1):lowN m=lowN (m / 2)+1:=by
 rw[lowN,aq h]
theorem jQY (a b:Nat):a&&&b=2*((a / 2)&&&(b / 2))+(a % 2)*(b % 2):=by
 have h1:(a&&&b) / 2=(a / 2)&&&(b / 2):=Nat.and_div_two
 have h2:(a&&&b) % 2=(a % 2)*(b % 2):=by
  have t:=Nat.testBit_and a b 0
  rw[fi,fi,fi] at t
  have t':((a&&&b) % 2=1)↔(a % 2=1/\b % 2=1):=by
   rw[<- dR.trans (and_congr b0 b0),<- t,b0]
  rcases cQ a with ha | ha <;> rcases cQ b with hb | hb <;> rw[ha,hb] at t' ⊢ <;> omega
 omega
theorem jQA (m:Nat):(m+1) - ((m+1)&&&m)=2 ^ lowN m:=by
 induction m using strongRecOn with
 | _ m ih=>
  rw[jQY]
  rcases cQ m with h | h
  ·rw[jD3 h,show (m+1) / 2=m / 2 by omega,Nat.and_self,h]
   omega
  ·have:=ih (m / 2) (by omega)
   rw[jE9 h,kn,show (m+1) / 2=m / 2+1 by omega,show (m+1) % 2=0 by omega]
   omega
theorem jN3 (m:Nat):Builtin.Int.intBits (Builtin.bitAnd (Builtin.bitNot (m:Int)) ((m:Int)+1))=lowN m+1:=by
 have e:Builtin.bitAnd (Builtin.bitNot (m:Int)) ((m:Int)+1)=((2 ^ lowN m:Nat):Int):=by
  unfold Builtin.bitAnd
  have h1:¬ (0<=Builtin.bitNot (m:Int)):=by unfold Builtin.bitNot; omega
  have h2:(0:Int)<=(m:Int)+1:=by omega
  have h3:(Builtin.bitNot (Builtin.bitNot (m:Int))).toNat=m:=by unfold Builtin.bitNot; omega
  rw[aR h1,aO h2]
  show ((m:Int)+1) - ((((m:Int)+1).toNat&&&(Builtin.bitNot (Builtin.bitNot (m:Int))).toNat:Nat):Int)=_
  rw[h3,show ((m:Int)+1).toNat=m+1 by omega,<- jQA m]
  have:(m+1)&&&m<=m+1:=Nat.and_le_left
  omega
 rw[e]
 unfold Builtin.Int.intBits
 have hp:0<2 ^ lowN m:=gM _
 have h0:((((2 ^ lowN m:Nat):Int))==0)=false:=by
  rw[cR]
  omega
 rw[h0]
 simp [Nat.log2_two_pow]
theorem jE7 (m:Nat):m.testBit (lowN m)=false:=by
 induction m using strongRecOn with
 | _ m ih=>
  rcases cQ m with h | h
  ·rw[jD3 h,fi,h]
   rfl
  ·rw[jE9 h,Nat.testBit_succ]
   exact ih _ (by omega)
theorem jE8 (m:Nat):∀ j,j<lowN m->m.testBit j=true:=by
 induction m using strongRecOn with
 | _ m ih=>
  intro j hj
  rcases cQ m with h | h
  ·rw[jD3 h] at hj
   omega
  ·rw[jE9 h] at hj
   cases j with
   | zero=>rw[fi,h]; rfl
   | succ j=>
    rw[Nat.testBit_succ]
    exact ih _ (by omega) j (by omega)
theorem jSO {m t:Nat}(h1:m.testBit t=false)(h2:∀ j,j<t->m.testBit j=true):lowN m=t:=by
 rcases ik (lowN m) t with h | h | h
 ·have:=h2 _ h
  rw[jE7] at this
  cases this
 ·exact h
 ·have:=jE8 m t h
  rw[h1] at this
  cases this
theorem jQR {m w:Nat}(h:m<2 ^ w)(a:∀ j,j<w->m.testBit j=true):m=2 ^ w - 1:=by
 apply gK
 intro i
 rw[cg]
 by_cases hi:i<w
 ·rw[a i hi,aO hi]
 ·rw[aR hi]
  exact Nat.testBit_lt_two_pow (bi h (dS (by decide) (by omega)))
theorem jDN {m w:Nat}(h:m<2 ^ w)(hn:m≠2 ^ w - 1):lowN m<w:=by
 refine bB fun z=>hn (jQR h fun j hj=>jE8 m j (by omega))
abbrev Ch:=List (List (Int×Nat))
def fullN (ch:Ch):Nat:=2 ^ ch.length - 1
def chAt (ch:Ch)(m:Nat):List (Int×Nat):=(ch.getD (lowN m) []).filter fun c=>c.2&&&m==0
structure ChOk (ch:Ch):Prop where
 w:ch.length<=16
 len:∀ (t:Nat) (cs:List (Int×Nat)),ch[t]?=some cs->cs.length<=33
 it:∀ (t:Nat) (cs:List (Int×Nat)),ch[t]?=some cs->∀ c∈cs,c.2.testBit t=true/\c.2<2 ^ ch.length/\ -1<=c.1/\c.1<32
theorem ChOk.mem {ch:Ch}{m:Nat}{c:Int×Nat}(o:ChOk ch)(h:m<2 ^ ch.length)(hn:m≠fullN ch)(hc:c∈chAt ch m):c.2.testBit (lowN m)=true/\c.2<2 ^ ch.length/\c.2&&&m=0/\ -1<=c.1/\c.1<32:=by
 obtain⟨h1,h2⟩:=cU.mp hc
 have hl:=jDN h hn
 rw[aF,aB hl] at h1
 obtain⟨a,b,c1,c2⟩:=o.it _ _ (aB hl) c h1
 exact⟨a,b,by simpa using h2,c1,c2⟩
theorem ChOk.up {ch:Ch}{m:Nat}{c:Int×Nat}(o:ChOk ch)(h:m<2 ^ ch.length)(hn:m≠fullN ch)(hc:c∈chAt ch m):m<m|||c.2/\m|||c.2<2 ^ ch.length:=by
 obtain⟨a,b,z,_⟩:=o.mem h hn hc
 refine⟨?_,Nat.or_lt_two_pow h b⟩
 refine Nat.lt_of_le_of_ne Nat.left_le_or fun e=>?_
 have t:m.testBit (lowN m)=(m|||c.2).testBit (lowN m):=bR (fun z=>z.testBit (lowN m)) e
 rw[gf,a,iY,jE7] at t
 cases t
def gvN {α:Type}(ch:Ch)(e:α)(J:List (Int×α)->α):Nat->Nat->α
 | 0,_=>e
 | n+1,m=>if m=fullN ch then e else J ((chAt ch m).map fun c=>(c.1,gvN ch e J n (m|||c.2)))
def gv {α:Type}(ch:Ch)(e:α)(J:List (Int×α)->α)(m:Nat):α:=gvN ch e J (fullN ch - m) m
theorem jQM {α:Type}{ch:Ch}{e:α}{J:List (Int×α)->α}(o:ChOk ch):∀ (k n m:Nat),fullN ch - m<=k->fullN ch - m<=n->m<2 ^ ch.length->gvN ch e J n m=gvN ch e J k m:=by
 intro k
 induction k with
 | zero=>
  intro n m h1 h2 h3
  have:m=fullN ch:=by
   unfold fullN at h1 ⊢
   omega
  subst this
  cases n with
  | zero=>rfl
  | succ n=>show gvN ch e J (n+1) (fullN ch)=e; rw[gvN,aq rfl]
 | succ k ih=>
  intro n m h1 h2 h3
  by_cases hm:m=fullN ch
  ·subst hm
   cases n with
   | zero=>show e=gvN ch e J (k+1) (fullN ch); rw[gvN,aq rfl]
   | succ n=>
    have q:∀ i,gvN ch e J (i+1) (fullN ch)=e:=fun i=>by rw[gvN,aq rfl]
    rw[q,q]
  ·have hlt:m<fullN ch:=by
    unfold fullN at hm ⊢
    omega
   cases n with
   | zero=>omega
   | succ n=>
    rw[gvN,aj hm,gvN,aj hm]
    congr 1
    refine bx fun c hc=>?_
    obtain⟨u1,u2⟩:=o.up h3 hm hc
    rw[ih n (m|||c.2) (by omega) (by omega) u2]
theorem jQL {α:Type}{ch:Ch}{e:α}{J:List (Int×α)->α} :gv ch e J (fullN ch)=e:=by
 unfold gv
 rw[gS,gvN]
theorem jQK {α:Type}{ch:Ch}{e:α}{J:List (Int×α)->α}{m:Nat}(o:ChOk ch)(h:m<2 ^ ch.length)(hn:m≠fullN ch):gv ch e J m=J ((chAt ch m).map fun c=>(c.1,gv ch e J (m|||c.2))):=by
 have hlt:m<fullN ch:=by
  unfold fullN at hn ⊢
  omega
 have:gv ch e J m=gvN ch e J ((fullN ch - m - 1)+1) m:=by
  unfold gv
  rw[show fullN ch - m - 1+1=fullN ch - m by omega]
 rw[this,gvN,aj hn]
 congr 1
 refine bx fun c hc=>?_
 obtain⟨u1,u2⟩:=o.up h hn hc
 unfold gv
 rw[jQM o (fullN ch - (m|||c.2)) _ _ (aE _) (by omega) u2]
end L2
end
section
namespace L2
open PySem
section
variable {X:Cx}{tg iter elt:Expr}{ifs:List Expr}{sc:Scope}{pos:Pos}{wi:TI}{g:TG}{tt:TT}{te:TE}{m:List (Option Nat)}{Nc:List Str}
end
section
variable {X:Cx}
end
end L2
end
section
namespace L2
open PySem PySem.Spec PyProof.Rows
def ZC (cl:List (Str×Addr))(fs:List Str)(fv:List V):Shared->Hp->Prop:=fun s H=>ClOk cl s H/\FvOk fs fv cl s
theorem ZC.st (cl:List (Str×Addr))(fs:List Str)(fv:List V):ZSt (ZC cl fs fv):=by
 rintro fr s s' H H' u ⟨C,F1,F2⟩
 have kc:∀ {x c v},cl.lookup x=some c->s.heap.IsCell c v->s'.heap.IsCell c v:=fun {x c v} hc ⟨o,ho,hd⟩=>by
  obtain⟨sl,e⟩:=u.any ho (C.cell x c hc).2 (by simp)
  exact⟨_,e,hd⟩
 refine⟨⟨C.inj,fun x c hc=>?_⟩,F1,fun i x v h1 h2=>?_⟩
 ·obtain⟨⟨v,o,ho,hd⟩,n⟩:=C.cell x c hc
  exact⟨⟨v,kc hc ⟨o,ho,hd⟩⟩,u.free c o ho n (by simp)⟩
 ·obtain⟨c,w,a1,a2,a3⟩:=F2 i x v h1 h2
  exact⟨c,w,a1,a2,kc a1 a3⟩
theorem Callee.ofN {P:Program}{w:World}{K:W.Frag}{mg:Str->Option Value}{base:Heap}{k:Nat}{x q:Str}{args:Arguments}{body:List Stmt}{scope:Scope}{ps fs:List Str}{sp:List V->Sp}{cl:List (Str×Addr)}{fv:List V}{a c:Addr}(F:FnN P w K mg base k x q args body scope ps fs sp):
  Callee P w K mg base (ZC cl fs fv) (fun H=>H a=some (.ext (nfP x q args body scope cl a c))/\H c=some (.ext (ncP q c))) k a (sp fv):=by
 refine⟨fun A outer s H e z=>?_,fun A outer s H us vs Q E hr e0 hz zh r hsp=>?_⟩
 ·obtain⟨⟨d,m,t,g⟩,_,_⟩:=(show ObjOk P w H s.heap a (.ext _) from e.hok a _ z.1)
  exact⟨_,_,_,_,g⟩
 ·obtain⟨p1,_,_⟩:=(show ObjOk P w H s.heap a (.ext _) from e0.hok a _ zh.1)
  obtain⟨p2,_,_⟩:=(show ObjOk P w H s.heap c (.ext _) from e0.hok c _ zh.2)
  exact F.run A outer s H a c cl us vs fv Q E hr e0 p1 p2 hz.1 hz.2 r hsp
def jRE {ι:Type}(G:ι->St->Prop)(sp:ι->Sp)(t:TA):TE:=fun σ H Q=>t σ H fun vs H1=>∃ i,G i σ/\sp i vs H1 Q E0
theorem jNB {ι:Type}{X:Cx}{Z:ι->Shared->Hp->Prop}{G:ι->St->Prop}{k:Nat}{f:Addr}{fd:FuncData}{ps:List Str}{sp:ι->Sp}{x:Str}{p pos:Pos}{e:Expr}{es:List Expr}{t:TA}(F:∀ i,FnZ X.prog X.w X.K X.mg X.base CX0 (Z i) k f fd ps (sp i))(hr:Room k X.A)(hg:Gl1 X x)(hm:X.mg x=some (.ref f))(hk:keepIn X.K (.ref f)=true)(hb:Binds X.K fd ps [])
  (hZ:∀ i pins s σ H,Inv X pins σ H s->G i σ->Z i s H) (ha:JA X (e::es) t) (he:starEach (e::es) X.env=(false,eval e X.env)::starEach es X.env) (hdb:(x==("__debug__" :Str))=false:=by decide) (hpl:(backTo pos (starEach es X.env)).any (·.1)=false:=by rfl):
  JE X (.Call (.Name x p) (e::es) [] pos) (jRE G sp t):=by
 refine⟨fun pins s σ H Q I h=>?_⟩
 refine da (jBZ I hg.a hm ?_ hdb)
 refine gY (h₀:=X.base) I.ok.mod.kin hk (thn (ha.h pos pins s σ H _ I h) fun us s1 ⟨vs,H1,I1,r,i,gi,q⟩=>⟨I1.kIn,?_⟩) he hpl
 have hl:(us++[]).length=ps.length:=by rw[bo,<- r.length]; exact(F i).len _ _ _ _ q
 have b:=hb s1 us I1.kIn hl
 rw[bo] at b
 refine fE (dv ((F i).run X.A X.stack s1 H1 ⟨us,[]⟩ us vs Q E0 hr I1.env0 b r (hZ i _ _ _ _ I1 gi) q) fun r s' hq=>?_)
 cases r with
 | error e=>exact hq.elim
 | ok fl=>
  cases fl with
  | ret u=>exact I1.after hq
  | next=>exact False.elim hq
  | brk=>exact False.elim hq
  | cont=>exact False.elim hq
theorem jHU {P:Program}{w:World}{K:W.Frag}{mg:Str->Option Value}{base:Heap}{N:List Str}{qual:Str}{sc:Scope}{f:Addr}{cd:Value}{cl:List (Str×Addr)}{A:Around}{outer:List Env}{s:Shared}{H:Hp}{x y:Str}{p1 p2 pos:Pos}{k i j:Nat}(hN:N.Nodup)(hi:N[i]?=some x)(hj:N[j]?=some y)(hx:sc.names.lookup x=some .local)(hy:sc.names.lookup y=some .local):
  JG (cxN P w K mg base N qual sc f cd cl A outer s H) (.Tuple [.Name x p1, .Name y p2] k pos) (gTup K 2 (yF (kL i) (yF (kL j) gNil))):=
 jL3 (X:=cxN P w K mg base N qual sc f cd cl A outer s H) rfl (jB0 (kJ hN hi (loc_n hx)) (jB0 (kJ hN hj (loc_n hy)) jGP jC7) jC7)
theorem jLA:entryFor table "dict_itemiterator.__iter__" =some Builtin.«dict_keyiterator.__iter__»:=jh (id':= "dict_keyiterator.__iter__") (by kernel_rfl) rfl (by decide+kernel) (by kernel_rfl)
section
variable {X:Cx}
def Iti (a:Addr)(o:Obj)(kvs:List (Key×V)):It:=
 ⟨fun i H=>H a=some (.frz o (.dK kvs))/\i<kvs.length,
  fun i H v H'=>∃ T k y,H T=none/\v= .ref T/\H'=upd H T (.tup [kV k,y])/\kvs[i]?=some (k,y),
  fun i H=>H a=some (.frz o (.dK kvs))/\kvs.length<=i⟩
theorem KV.at {kvs:List (Key×V)}{vs:List (Key×Value)}(r:KV kvs vs){i:Nat}{k:Key}{y:V}(h:kvs[i]?=some (k,y)):∃ u,vs[i]?=some (k,u)/\RelV y u:=by
 induction r generalizing i with
 | nil=>cases h
 | @cons p q ps qs hp _ ih=>
  cases i with
  | zero=>
   have:p=(k,y):=by simpa using h
   subst this
   obtain⟨q1,q2⟩:=q
   obtain⟨e1,e2⟩:=hp
   have e1:k=q1:=e1
   subst e1
   exact⟨q2,rfl,e2⟩
  | succ i=>exact ih (by simpa using h)
theorem jIC {P:Program}{w:World}{K:W.Frag}{elts:List Expr}{x1:Nat}{tps:Pos}(a it:Addr)(o:Obj)(kvs:List (Key×V))(ep:Nat)(hep:∀ h:Heap,h.get? a=some o->∀ vs,h.DictOf (jK P w) a vs->h.DictAt (jK P w) a vs ep):
  Turn P w K (.Tuple elts x1 tps) (Iti a o kvs) [it] it (fun i h=>∃ ok ov,IsItemIter h it a i kvs.length ep ok ov) where
 mem:=by simp
 obj:=fun i h st b hb=>by
  obtain⟨ok,ov,he⟩:=st
  rw[aC] at hb
  subst hb
  exact⟨_,he,fun v q=>by cases q⟩
 keep:=fun i h h' st k=>by
  obtain⟨ok,ov,he⟩:=st
  exact⟨ok,ov,k it (by simp) _ he⟩
 item:=by
  intro X hP hw hK hc i pins s σ H E I hf st hg
  subst hP hw hK
  obtain⟨ha,hi⟩:=hg
  obtain⟨ok,ov,he⟩:=st
  obtain⟨ho,z,hd,vs,rel,dd⟩:ObjOk X.prog X.w H s.heap a (.frz o (.dK kvs)):=I.hok a _ ha
  have hm:=hep _ ho vs dd
  have hl:=KV.length rel
  have hx:kvs[i]?=some kvs[i]:=aB hi
  generalize kvs[i]=p at hx
  obtain⟨k,y⟩:=p
  obtain⟨u,hu,ru⟩:=KV.at rel hx
  rw[hl] at he
  refine wpAny_pyNext_items_item he hm hu fun key h' hk a1 a3 a4 a5=>?_
  refine⟨_,rfl,wpAny_letOwnedTupleGo_items (s:= { s with heap:=h'}) a1 fun h'' b1 sb=>?_⟩
  have fresh:H s.heap.objs.size=none:=I.fresh
  have ntr:∀ b o,H b=some o->b∉([it]:List Addr):=fun b o z hb=>by
   have:=(hf b hb).1
   rw[z] at this; cases this
  have kp:∀ b o,b∉([it]:List Addr)->s.heap.get? b=some o->h''.get? b=some o:=fun b o hb z=>by
   rw[aC] at hb
   exact(sb.2 b hb).trans (a5 b o hb z)
  have nz:s.heap.objs.size≠it:=cN (ay he)
  have hT2:h''.get? s.heap.objs.size=some { cls:= .type "tuple",data:= .seq #[key,u]} :=(sb.2 _ nz).trans a3
  have rk:RelV (kV k) key:=by
   rcases jM (show keyIs k key=true from hk) with ⟨i',t,q1,q2⟩ | ⟨x,t,q1,q2⟩
   ·rw[q1,q2]; exact⟨t,rfl⟩
   ·rw[q1,q2]; exact⟨t,rfl⟩
  have I2:Inv X pins σ (upd H s.heap.objs.size (.tup [kV k,y])) { s with heap:=h''} :=by
   refine I.step (g':=s.gens) (d':=s.drawn) (t':=s.toks) (ch:=[it]) (fun b hb=>?_) (fun b o _ _ hb z _=>kp b o hb z) (fun b o _ _ hb z _=>⟨o.slots,kp b o hb z⟩)
    (fun b o _ z n=>by rw[j8 (aV (ay z))]; exact n) (fun b o hb z=>⟨o,kp b o hb z⟩) (fun b ws z=>by rw[j8 (jC z fresh)]; exact z) (fun b o ws z=>by rw[j8 (jC z fresh)]; exact z)
    (fun b ps z=>⟨#[],by rw[j8 (jC z fresh),z]; simp⟩) (fun m hm=>?_) (fun b o z=>?_) I.bare
   ·obtain⟨f0,f1,f2,f3,f4,f5⟩:=hf b hb
    exact⟨f3,f1,f4,f5⟩
   ·obtain⟨o,es,ep,ho,r⟩:=hm
    exact⟨o,es,ep,kp _ o (fun hb=>(hf _ hb).2.1 rfl) ho,r⟩
   ·by_cases hb:b=s.heap.objs.size
    ·subst hb
     rw[j9] at z
     cases z
     exact⟨by rw[fN]; show 2<=_; decide,[key,u], .cons rk (.cons ru .nil),0,hT2⟩
    ·rw[j8 hb] at z
     refine(I.hok b o z).stay (fun c w hc q=>kp c w ?_ q) (fun c q=>by rw[j8 (jC q fresh)]; exact q) (fun c ws q=>by rw[j8 (jC q fresh)]; exact q)
     rcases hc with rfl | hc
     ·exact ntr _ _ z
     ·exact ntr _ _ hc
  refine⟨.ref s.heap.objs.size,_,I2,rfl,⟨_,k,y,fresh,rfl,rfl,hx⟩,⟨_,_,by rw[hl]; exact b1⟩,fun b hb=>?_⟩
  rw[j8 (fun q=>by
   rw[aC] at hb
   exact nz (q.symm.trans hb))]
  exact(hf b hb).1
 done:=by
  intro X hP hw hK hc i pins s σ H E I hf st hg
  subst hP hw hK
  obtain⟨ha,hend⟩:=hg
  obtain⟨ok,ov,he⟩:=st
  obtain⟨ho,z,hd,vs,rel,dd⟩:ObjOk X.prog X.w H s.heap a (.frz o (.dK kvs)):=I.hok a _ ha
  have hm:=hep _ ho vs dd
  have hl:=KV.length rel
  rw[hl] at he
  refine wpAny_pyNext_items_end (I.ok.hd hc) he hm (bw (by omega)) fun h' kp=>⟨rfl,?_⟩
  have kp2:∀ b o,b∉([it]:List Addr)->s.heap.get? b=some o->h'.get? b=some o:=fun b o hb z=>by
   rw[aC] at hb
   exact kp b o hb z
  have ntr:∀ b o,H b=some o->b∉([it]:List Addr):=fun b o z hb=>by
   have:=(hf b hb).1
   rw[z] at this; cases this
  refine I.step (g':=s.gens) (d':=s.drawn) (t':=s.toks) (ch:=[it]) (fun b hb=>?_) (fun b o _ _ hb z _=>kp2 b o hb z) (fun b o _ _ hb z _=>⟨o.slots,kp2 b o hb z⟩)
   (fun b o _ z n=>n) (fun b o hb z=>⟨o,kp2 b o hb z⟩) (fun b ws z=>z) (fun b o ws z=>z) (fun b ps z=>⟨#[],by rw[z]; simp⟩) (fun m hm=>?_) (fun b o z=>?_) I.bare
  ·obtain⟨f0,f1,f2,f3,f4,f5⟩:=hf b hb
   exact⟨f3,f1,f4,f5⟩
  ·obtain⟨o,es,ep,ho,r⟩:=hm
   exact⟨o,es,ep,kp2 _ o (fun hb=>(hf _ hb).2.1 rfl) ho,r⟩
  ·refine(I.hok b o z).stay (fun c w hc q=>kp2 c w ?_ q) (fun _ q=>q) fun _ _ q=>q
   rcases hc with rfl | hc
   ·exact ntr _ _ z
   ·exact ntr _ _ hc
 self:=fun A i s Q E st h=>by
  obtain⟨ok,ov,he⟩:=st
  have hT:s.TypeIs (.ref it) "dict_itemiterator" :=⟨_,he,rfl⟩
  refine io hT F.slot_dict_itemiterator_iter (bQ F.slot_dict_itemiterator_iter hT jLA ?_ (F.args_dict_itemiterator_iter_1 _))
  show wpAny _ _ (ret (.ref it)) _ _ s
  exact ag ⟨_,rfl,"dict_itemiterator",_,hT,F.slot_dict_itemiterator_next.lookup,h⟩
def jLD (td:TE):TI:=fun σ H R=>td σ H fun x H1=>∃ (a:Addr) (kvs:List (Key×V)),x= .ref a/\Rd H1 a (.dK kvs)/\∀ o:Obj,(∀ o',H1 a=some (.frz o' (.dK kvs))->o'=o)->R (Iti a o kvs) (upd H1 a (.frz o (.dK kvs)))
theorem jMO {e:Expr}{td:TE}{apos cpos:Pos}{elts:List Expr}{x1:Nat}{tp:Pos}(ho:PE X e td)(base:attributeBase e "items" X.env (eval e X.env)=eval e X.env:=by rfl)(line:(apos.endLine==cpos.line)=true:=by rfl):
  PI X (.Tuple elts x1 tp) (.Call (.Attribute e "items" apos) [] [] cpos) (jLD td):=by
 intro pins s σ H R I h
 refine fO base line (thn (ho pins s σ H _ I h) fun u s1 ⟨x,H1,I1,rx,a,kvs,ex,d,q1⟩=>?_)
 subst ex
 obtain rfl:u=Value.ref a:=rx
 obtain⟨t1,t2,sm⟩:=jLC I1 (.inl ⟨kvs,d⟩)
 obtain⟨z,hd,vs,rel,dd⟩:=dk_rd I1.hok d
 refine⟨_,_,fQ,eh,iS,t1,t2,dw rfl (gN ?_)⟩
 refine iZ eh dd.typeIs iE (ie _) (meets_dict_items (jK X.prog X.w) a hd) ⟨⟨_,dd⟩,?_⟩
 obtain⟨o,es,ep,ho,hr⟩:=id dd
 have hm:s1.heap.DictAt (jK X.prog X.w) a vs ep:=⟨o,es,ho,hr⟩
 have g:(s1.heap.push { cls:= .type "dict_items",data:= .fields #[.ref a]}).get? s1.heap.objs.size=some { cls:= .type "dict_items",data:= .fields #[.ref a]} :=aA _ rfl
 have k1:∀ b u,s1.heap.get? b=some u->(s1.heap.push { cls:= .type "dict_items",data:= .fields #[.ref a]}).get? b=some u:=fun b u q=>ae _ q
 refine wpAny_pyIter_items (knd:=jK X.prog X.w) (kvs:=vs) (ep:=ep) ⟨_,g,rfl,rfl⟩ ⟨o,es,k1 _ _ ho,hr⟩ ?_
 have I2:Inv X pins σ (upd H1 a (.frz o (.dK kvs))) s1:=by
  rcases d with d | ⟨o',d⟩
  ·exact jDA (t':=s1.toks) I1 (by rw[d]; trivial) ⟨rfl,fun _ _=>rfl⟩ ⟨_,ho⟩ ⟨ho,z,hd,vs,rel,dd⟩
  ·have e1:s1.heap.get? a=some o':=(I1.hok a _ d).1
   rw[ho] at e1
   cases e1
   have e2:upd H1 a (.frz o (.dK kvs))=H1:=by
    funext b
    by_cases hb:b=a
    ·rw[hb,j9,d]
    ·rw[j8 hb]
   rw[e2]
   exact I1
 have hl:=KV.length rel
 have nw:∀ h:Heap,((h.push { cls:= .type "dict_items",data:= .fields #[.ref a]}).push { cls:= .type "dict_itemiterator",data:= .fields #[.none, .bool false, .ref a, .int 0 0, .int vs.length 0, .int ep 0, .none, .none]}).get? (h.push { cls:= .type "dict_items",data:= .fields #[.ref a]}).objs.size=some { cls:= .type "dict_itemiterator",data:= .fields #[.none, .bool false, .ref a, .int 0 0, .int vs.length 0, .int ep 0, .none, .none]} :=fun h=>aA _ rfl
 refine⟨_,[_],_,Iti a o kvs,_,rfl,I2.kept (t':=s1.toks) fun b u q=>ae _ (ae _ q),jIC a _ o kvs ep fun h hh vs' ⟨o',es',ep',ho',r1,r2,r3⟩=>?_,⟨_,_,by rw[hl]; exact nw _⟩,fun b hb=>?_,q1 o fun o' z=>?_⟩
 ·rw[hh] at ho'
  cases ho'
  have:=hr.2.1
  rw[r2] at this
  cases this
  exact⟨o,es,hh,r1,r2,r3⟩
 ·rw[aC] at hb
  have hge:s1.heap.objs.size<=b:=by
   rw[hb,bS]
   exact jp _
  exact I2.fpOk hge (I2.hok.fresh hge)
 ·have e1:s1.heap.get? a=some o':=(I1.hok a _ z).1
  rw[ho] at e1
  cases e1
  rfl
def tFrz (t:TE):TE:=fun σ H Q=>t σ H fun x H1=>∃ (a:Addr) (kvs:List (Key×V)),x= .ref a/\H1 a=some (.dK kvs)/\∀ o:Obj,Q x (upd H1 a (.frz o (.dK kvs)))
theorem jOI {e:Expr}{t:TE}(h:JE X e t):JE X e (tFrz t):=⟨fun pins s σ H Q I hw=>thn (h.h pins s σ H _ I hw) fun u s1 ⟨x,H1,I1,rx,a,kvs,ex,d,q⟩=>by
 subst ex
 obtain⟨z,hd,vs,rel,dd⟩:=dk_of I1.hok d
 obtain⟨o,es,ep,ho,hr⟩:=id dd
 exact⟨_,_,jDA (t':=s1.toks) (ob:= .frz o (.dK kvs)) I1 (by rw[d]; trivial) ⟨rfl,fun _ _=>rfl⟩ ⟨_,ho⟩ ⟨ho,z,hd,vs,rel,dd⟩,rx,q o⟩⟩
theorem jN7 {e:Expr}{td:TE}{apos cpos:Pos}{elts:List Expr}{x1:Nat}{tp:Pos}(ho:JE X e td)(base:attributeBase e "items" X.env (eval e X.env)=eval e X.env:=by rfl)(line:(apos.endLine==cpos.line)=true:=by rfl):
  JI X (.Tuple elts x1 tp) (.Call (.Attribute e "items" apos) [] [] cpos) (jLD td):=⟨jMO ho.h base line⟩
end
section
variable {m:List (Option Nat)}{g:TG}{tt:TT}{te:TE}{σ:St}{H1:Hp}{Q:VK}
end
section
theorem jLM {a:Addr}{o:Obj}{kvs:List (Key×V)}{g:TG}{tb:TS}{D:Ends}{σ:St}{H:Hp}(Pv:Nat->St->Hp->Prop)(h0:Pv 0 σ H)(hl:∀ i σ H,Pv i σ H->H a=some (.frz o (.dK kvs)))
  (hs:∀ i k y T σ H,kvs[i]?=some (k,y)->H T=none->Pv i σ H->g (.ref T) σ (upd H T (.tup [kV k,y])) fun σ2 H2=>tb { D with nx:=Pv (i+1),ct:=Pv (i+1),bk:=D.nx} σ2 H2) (hd:∀ σ H,Pv kvs.length σ H->D.nx σ H):
  ∃ W:Nat->Nat->St->Hp->Prop,(∃ m,W 0 m σ H)/\∀ i m σ H,W i m σ H->
   ((Iti a o kvs).stop i H/\D.nx σ H)\/((Iti a o kvs).go i H/\∃ N:St->Hp->Prop,(∀ σ' H',N σ' H'->∃ m',m'<m/\W (i+1) m' σ' H')/\∀ x H',(Iti a o kvs).yld i H x H'->g x σ H' fun σ2 H2=>tb { D with nx:=N,ct:=N,bk:=D.nx} σ2 H2):=by
 refine⟨fun i m σ H=>m=kvs.length - i/\i<=kvs.length/\Pv i σ H,⟨_,rfl,bG _,h0⟩,?_⟩
 rintro i m σ H ⟨rfl,hi,p⟩
 have s1:=hl i σ H p
 by_cases hlt:i<kvs.length
 ·refine .inr ⟨⟨s1,hlt⟩,Pv (i+1),fun σ' H' p'=>⟨kvs.length - (i+1),by omega,rfl,hlt,p'⟩,fun v H'' y=>?_⟩
  obtain⟨T,k,x,e1,e2,e3,e4⟩:=y
  subst e2 e3
  exact hs i k x T σ _ e4 e1 p
 ·have e:i=kvs.length:=by omega
  subst e
  exact .inl ⟨⟨s1,aE _⟩,hd σ H p⟩
end
end L2
end
section
namespace TM
open PySem PySem.Spec PyProof.Rows PySem.W
open HT (lexLt lexLt_cons)
open L2 (All2)
theorem jKR:∀ x:List Int,lexLt x x=false
 | []=>rfl
 | a::x=>by rw[lexLt_cons,aq rfl]; exact jKR x
theorem jKP:∀ {x y z:List Int},lexLt x y=true->lexLt y z=true->lexLt x z=true
 | [],[],_,h,_=>by cases h
 | [],_::_,[],_,h=>by cases h
 | [],_::_,_::_,_,_=>rfl
 | _::_,[],_,h,_=>by cases h
 | _::_,_::_,[],_,h=>by cases h
 | a::x,b::y,c::z,h,k=>by
  rw[lexLt_cons] at h k ⊢
  by_cases e1:a=b
  ·rw[aq e1] at h
   by_cases e2:b=c
   ·rw[aq e2] at k
    rw[aq (e1.trans e2)]
    exact jKP h k
   ·rw[aj e2] at k
    rw[aj (e1 ▸ e2),e1]
    exact k
  ·rw[aj e1] at h
   have h:=bj h
   by_cases e2:b=c
   ·rw[aj (e2 ▸ e1),<- e2]
    exact aO h
   ·rw[aj e2] at k
    have k:=bj k
    rw[aj (by omega)]
    exact aO (by omega)
theorem jKQ:∀ {x y:List Int},lexLt x y=false->lexLt y x=false->x=y
 | [],[],_,_=>rfl
 | [],_::_,h,_=>by cases h
 | _::_,[],_,h=>by cases h
 | a::x,b::y,h,k=>by
  rw[lexLt_cons] at h k
  by_cases e:a=b
  ·rw[aq e] at h
   rw[aq e.symm] at k
   rw[e,jKQ h k]
  ·rw[aj e] at h
   rw[aj (fun z=>e z.symm)] at k
   have:=eJ h
   have:=eJ k
   omega
def rk (ws:List (List Int))(x:List Int):Int:=((ws.countP fun z=>lexLt z x:Nat):Int)
theorem jEM {p q:List Int->Bool}(h:∀ z,p z=true->q z=true):∀ ws:List (List Int),ws.countP p<=ws.countP q
 | []=>aE _
 | a::ws=>by
  have:=jEM h ws
  rw[dD,dD]
  have:=h a
  cases hp:p a <;> cases hq:q a <;> simp_all <;> omega
theorem jI4 {p q:List Int->Bool}(h:∀ z,p z=true->q z=true){x:List Int}(hp:p x=false)(hq:q x=true):∀ {ws:List (List Int)},x∈ws->ws.countP p<ws.countP q
 | a::ws,hx=>by
  rw[dD,dD]
  rcases az.mp hx with e | hx
  ·have:=jEM h ws
   rw[<- e,hp,hq]
   simp
   omega
  ·have:=jI4 h hp hq hx
   have:=h a
   cases hpa:p a <;> cases hqa:q a <;> simp_all <;> omega
theorem rk_lt {ws:List (List Int)}{x y:List Int}(hx:x∈ws):decide (rk ws x<rk ws y)=lexLt x y:=by
 unfold rk
 cases h:lexLt x y with
 | true=>
  have:=jI4 (p:=fun z=>lexLt z x) (q:=fun z=>lexLt z y) (fun z hz=>jKP hz h) (jKR x) h hx
  exact aO (by omega)
 | false=>
  refine aR ?_
  by_cases k:lexLt y x=true
  ·have:=jEM (p:=fun z=>lexLt z y) (q:=fun z=>lexLt z x) (fun z hz=>jKP hz k) ws
   omega
  ·have:=jKQ h (ir.mpr k)
   rw[this]
   omega
section
variable {prog:Program}{w:World}{A:Around}{E:Value->Shared->Prop}{s:Shared}{kd:SortKind}{f:Value->List Int}
theorem pairs_mem {vs:List Value}{p:Keyed}(h:p∈(pairsOf vs).toList):p.1=p.2/\p.1∈vs:=by
 rw[pairsOf_toList] at h
 exact mem_zip_self h
end
def TupI (h:Heap)(v:Value)(l:List Int):Prop:=∃ a n its,v= .ref a/\h.get? a=some { cls:= .type "tuple",data:= .seq its n} /\IntsAre its.toList l
noncomputable def decV (h:Heap):Value->List Int
 | .ref a=>match h.get? a with
  | some o=>match o.data with
   | .seq xs _=>xs.toList.map numOf
   | _=> []
  | none=> []
 | _=> []
theorem TupI.dec {h:Heap}{v:Value}{l:List Int}(t:TupI h v l):decV h v=l:=by
 obtain⟨a,n,its,rfl,ho,hi⟩:=t
 dsimp only [decV]
 rw[ho]
 exact hi.nums
section
variable {prog:Program}{w:World}{A:Around}{E:Value->Shared->Prop}{s:Shared}
theorem jPY {b:Bool}{x y:Int}{t u:Tok}{Q:Bool->Shared->Prop}(h:Q (decide (x<y)) s):wpAny (model prog w) A (oneLt' b (.int x t) (.int y u)) Q E s:=by
 cases b with
 | true=>exact oneLt_int h
 | false=>exact kat_one _ _ (HT.rcLt_int A s x t y u prog w E _ h)
theorem jOE {b fin:Bool}{Q:Bool->Shared->Prop} :∀ {us:List Value}{x:List Int}{vs:List Value}{y:List Int}(i:Nat),IntsAre us x->IntsAre vs y->fin=decide (us.length<vs.length)->Q (lexLt x y) s->KatLex prog w A b fin Q (us.zip vs) i s
 | _,_,_,_,i, .nil, .nil,hf,h=>by rw[hf]; exact h
 | _,_,_,_,i, .nil, .cons _ _ _,hf,h=>by rw[hf]; exact h
 | _,_,_,_,i, .cons _ _ _, .nil,hf,h=>by rw[hf]; exact h
 | _,_,_,_,i, .cons (ns:=ns) a t h1, .cons (ns:=ms) c u h2,hf,h=>by
  rw[eF]
  refine kat_cons (g0 a t c u prog w _ _ ?_)
  rw[lexLt_cons] at h
  by_cases e:a=c
  ·rw[aq e] at h
   rw[show (a==c)=true by simp [e]]
   refine kat_yes (jOE (i+1) h1 h2 ?_ h)
   rw[hf,aG,aG]
   exact decide_eq_decide.mpr (by omega)
  ·rw[aj e] at h
   rw[show (a==c)=false by simp [e]]
   exact kat_no (jPY h)
theorem jKI {b:Bool}{u v:Value}{x y:List Int}{Q:Bool->Shared->Prop}(hu:TupI s.heap u x)(hv:TupI s.heap v y)(h:Q (lexLt x y) s):wpAny (model prog w) A (keyLt' (tuples' b) u v) Q E s:=by
 obtain⟨a,n,its,rfl,ho,hi⟩:=hu
 obtain⟨a2,n2,its2,rfl,ho2,hi2⟩:=hv
 exact kat_lt ho rfl ho2 rfl (jOE 0 hi hi2 rfl h)
theorem jIU (x y:Value):keyLt' general' x y=oneLt' false x y:=rfl
theorem jIP {u v:Value}{x y:List Int}{Q:Bool->Shared->Prop}(hu:TupI s.heap u x)(hv:TupI s.heap v y)(room:A.units<cLine)(h:Q (lexLt x y) s):wpAny (model prog w) A (keyLt' general' u v) Q E s:=by
 obtain⟨a,n,its,rfl,ho,hi⟩:=hu
 obtain⟨a2,n2,its2,rfl,ho2,hi2⟩:=hv
 rw[jIU]
 exact kat_one _ _ (HT.lt_tupInts (items:=its) (items2:=its2) ⟨_,ho,rfl,n,rfl⟩ ⟨_,ho2,rfl,n2,rfl⟩ hi hi2 room h)
theorem jIO {u v:Value}{x y:List Int}{Q:Bool->Shared->Prop}(hu:TupI s.heap u x)(hv:TupI s.heap v y)(room:A.units<cLine)(h:Q (lexLt x y) s):wpAny (model prog w) A (keyLt' oneType' u v) Q E s:=by
 obtain⟨a,n,its,rfl,ho,hi⟩:=hu
 obtain⟨a2,n2,its2,rfl,ho2,hi2⟩:=hv
 rw[keyLt'_oneType,oneLt'_eq]
 simp only [iq]
 refine aa (wpAny_cRoomFor room ?_)
 have hT:s.TypeIs (.ref a) "tuple" :=⟨_,ho,rfl⟩
 refine aa (wpAny_callSpecialIfBound?_slot hT gt (g5 gt hT iV (iK _ _) (HT.tuple_lt_ints a a2 its its2 n n2 _ _ _ _ x y hi hi2) ⟨ho,ho2,?_⟩))
 exact dk h
def FsOf:List (Option Value)->List (List Int)->Prop:=All2 fun o l=>(o=none/\l=[])\/∃ n t r,o=some (Value.int n t)/\l=n::r
theorem jOP:∀ {vs:List Value}{ws:List (List Int)},All2 (TupI s.heap) vs ws->∃ fs,FsOf fs ws/\∀ (Q:List (Option Value)->Shared->Prop) (E:Value->Shared->Prop),Q fs s->wpAny (model prog w) A (vs.mapM firstOfTuple') Q E s
 | [],[],_=>⟨[],trivial,fun Q E h=>by rw[List.mapM_nil]; exact ag h⟩
 | v::vs,l::ws,⟨⟨a,n,its,e,ho,hi⟩,r⟩=>by
  obtain⟨fs,h1,h2⟩:=jOP r
  refine⟨its[0]?::fs,⟨?_,h1⟩,fun Q E h=>?_⟩
  ·obtain⟨li⟩:=its
   cases hi with
   | nil=>exact .inl ⟨rfl,rfl⟩
   | cons c t _=>exact .inr ⟨c,t,_,rfl,rfl⟩
  ·rw[List.mapM_cons,e]
   refine aa ?_
   rw[kas_first_eq]
   refine aa (Looks.here (show Looks (model prog w) s.heap (typeOf (.ref a)) (.type "tuple") from(Looks.ld ho).andThen .now) ?_)
   rw[aj (by first | decide | simp)]
   refine aa (listItems_at ho rfl (ag ?_))
   exact aa (h2 _ _ (ag h))
theorem jLK:∀ {fs:List (Option Value)}{ws:List (List Int)},FsOf fs ws->fs.all (·.isSome)=ws.all fun x=>!x.isEmpty
 | [],[],_=>rfl
 | o::fs,l::ws,⟨h,r⟩=>by
  rw[fq,fq,jLK r]
  rcases h with ⟨rfl,rfl⟩ | ⟨n,t,r,rfl,rfl⟩ <;> rfl
theorem jGS:∀ {fs:List (Option Value)}{ws:List (List Int)},FsOf fs ws->∀ v∈fs.filterMap id,∃ n t,v=Value.int n t
 | [],[],_,v,h=>by cases h
 | o::fs,l::ws,⟨h,r⟩,v,hv=>by
  rcases h with ⟨rfl,rfl⟩ | ⟨n,t,r',rfl,rfl⟩
  ·exact jGS r v (by simpa using hv)
  ·rw[cS] at hv
   rcases az.mp hv with e | hv
   ·exact⟨n,t,e⟩
   ·exact jGS r v hv
def kdOf (ws:List (List Int)):SortKind:=if (ws.all fun x=>!x.isEmpty)=true then tuples' true else if (ws.headD []).isEmpty=true then oneType' else general'
theorem jHK {T:Value}{vs:List Value}(ne:vs≠ [])(hT:∀ v∈vs,Looks (model prog w) s.heap (typeOf v) T)(hT2:(T==T)=true){Q:Option Value->Shared->Prop}(h:Q (some T) s):wpAny (model prog w) A (oneTypeOnly' vs.toArray) Q E s:=by
 obtain⟨v,r,rfl⟩:=fe ne
 rw[oneTypeOnly'_eq,List.mapM_toArray,map_eq_pure_bind]
 refine aa (aa (kas_mapM (r:=T) _ (fun v hv Q' hq=>(hT v hv).here hq) (ag ?_)))
 have hall2:((List.map (fun _=>T) (v::r)).toArray.all fun x=>x==T)=true:=by
  simp only [List.all_toArray,all_map,dC]
  intro _ _
  exact hT2
 have h0:(List.map (fun _=>T) (v::r)).toArray[0]?=some T:=by simp
 rw[h0]
 simp only [hall2,iq]
 exact ag h
theorem jMG {v:Value}{l:List Int}(h:TupI s.heap v l):Looks (model prog w) s.heap (typeOf v) (.type "tuple"):=by
 obtain⟨a,n,its,rfl,ho,_⟩:=h
 exact(Looks.ld ho).andThen .now
theorem kind_of {vs:List Value}{ws:List (List Int)}{Q:SortKind->Shared->Prop}(t:All2 (TupI s.heap) vs ws)(h2:vs≠ [])(h:Q (kdOf ws) s):wpAny (model prog w) A (keyKind' vs.toArray) Q E s:=by
 obtain⟨fs,f1,f2⟩:=jOP (prog:=prog) (w:=w) (A:=A) t
 rw[kat_kind_eq,List.mapM_toArray,map_eq_pure_bind]
 refine aa (aa (f2 _ _ (ag ?_)))
 have e:=jLK f1
 have ha:(fs.toArray.all fun x=>x.isSome)=fs.all (·.isSome):=by simp
 unfold kdOf at h
 rw[ha,e]
 cases hc:(ws.all fun x=>!x.isEmpty) with
 | true=>
  rw[hc,aq rfl] at h
  rw[aq rfl]
  refine aa (ck ?_)
  have hf:(fs.toArray.filterMap id)=(fs.filterMap id).toArray:=by simp
  rw[hf]
  have ne:fs.filterMap id≠ []:=by
   intro z
   obtain⟨v,vs',rfl⟩:=fe h2
   cases ws with
   | nil=>exact t.elim
   | cons l ws=>
    cases fs with
    | nil=>exact f1.elim
    | cons o fs=>
     rcases f1.1 with ⟨_,q⟩ | ⟨n,t',r,q,_⟩
     ·rw[q] at hc; simp at hc
     ·rw[q,cS] at z; cases z
  refine aa (jHK (T:= .type "int") ne (fun v hv=>?_) rfl (ag ?_))
  ·obtain⟨n,t',e⟩:=jGS f1 v hv
   rw[e]
   exact .now
  ·exact h
 | false=>
  rw[hc,aj ao] at h
  rw[aj ao]
  obtain⟨v,vs',rfl⟩:=fe h2
  cases ws with
  | nil=>exact t.elim
  | cons l ws=>
   cases fs with
   | nil=>exact f1.elim
   | cons o fs=>
    have h0:(o::fs).toArray[0]?=some o:=by simp
    rw[h0]
    rcases f1.1 with ⟨q,q2⟩ | ⟨n,t',r,q,q2⟩
    ·rw[q2] at h
     rw[q,aj (by simp)]
     refine aa (jHK (T:= .type "tuple") h2 (fun u hu=>?_) rfl (ag h))
     obtain⟨i,hi⟩:=bH hu
     obtain⟨l',_,hl⟩:=t.get' hi
     exact jMG hl
    ·rw[q2] at h
     rw[q,aq (by simp)]
     exact ag h
theorem lt_kd {ws:List (List Int)}{u v:Value}{x y:List Int}{Q:Bool->Shared->Prop}(hu:TupI s.heap u x)(hv:TupI s.heap v y)(room:A.units<cLine)(h:Q (lexLt x y) s):wpAny (model prog w) A (keyLt' (kdOf ws) u v) Q E s:=by
 unfold kdOf
 split
 ·exact jKI hu hv h
 ·split
  ·exact jIO hu hv room h
  ·exact jIP hu hv room h
end
end TM
namespace L2
open PySem PySem.Spec PyProof.Rows
section
variable {X:Cx}
noncomputable def refV:Value->V
 | .ref a=> .ref a
 | _=> .non
end
structure KeyS where
 TK:Heap->Value->List Int->Prop
 KR:Hp->V->List Int->Prop
 kd:List (List Int)->SortKind
 dc:Heap->Value->List Int
structure KeyOk (S:KeyS):Prop where
 of:∀ {P:Program}{w:World}{H:Hp}{h:Heap}{v:V}{u:Value}{l:List Int},HOk P w H h->RelV v u->S.KR H v l->S.TK h u l
 mono:∀ {H H':Hp}{v:V}{l:List Int},TupsK H H'->S.KR H v l->S.KR H' v l
 dec:∀ {h:Heap}{u:Value}{l:List Int},S.TK h u l->S.dc h u=l
 kind:∀ {prog:Program}{w:World}{A:Around}{E:Value->Shared->Prop}{s:Shared}{vs:List Value}{ws:List (List Int)}{Q:SortKind->Shared->Prop},All2 (S.TK s.heap) vs ws->vs≠ []->Q (S.kd ws) s->wpAny (model prog w) A (keyKind' vs.toArray) Q E s
 lt:∀ {prog:Program}{w:World}{A:Around}{E:Value->Shared->Prop}{s:Shared}{ws:List (List Int)}{u v:Value}{x y:List Int}{Q:Bool->Shared->Prop},S.TK s.heap u x->S.TK s.heap v y->A.units+2<cLine->Q (HT.lexLt x y) s->wpAny (model prog w) A (keyLt' (S.kd ws) u v) Q E s
section
variable {prog:Program}{w:World}{A:Around}{E:Value->Shared->Prop}{s:Shared}{S:KeyS}
noncomputable abbrev odK (S:KeyS)(ws:List (List Int))(h:Heap)(ks:List Value):TM.Od:=⟨S.kd ws,fun p=>TM.rk (ks.map (S.dc h)) (S.dc h p.1),fun p=>p.1∈ks⟩
end
section
variable {X:Cx}{S:KeyS}
theorem jFC:∀ {its:List Value},(∀ u∈its,∃ a,u=Value.ref a)->Vals (its.map refV) its
 | [],_=> .nil
 | u::its,h=>by
  obtain⟨a,e⟩:=h u (ak ..)
  subst e
  exact .cons rfl (jFC fun w hw=>h w (ai _ hw))
theorem jNW (ok:KeyOk S){h:Heap} :∀ {ks:List Value}{ws:List (List Int)},All2 (S.TK h) ks ws->ks.map (S.dc h)=ws
 | [],[],_=>rfl
 | _::_,_::_,⟨t,r⟩=>by rw[ba,ok.dec t,jNW ok r]
end
end L2
end
section
namespace TM
open PySem PySem.Spec PyProof.Rows PySem.W
open L2 (All2)
section
variable {prog:Program}{w:World}{A:Around}{E:Value->Shared->Prop}{s:Shared}
end
end TM
namespace L2
open PySem PySem.Spec PyProof.Rows
def keyT:KeyS:=⟨TM.TupI,fun H v l=>∃ a,v=V.ref a/\H a=some (.tup (l.map V.int)),TM.kdOf,TM.decV⟩
theorem jQE:KeyOk keyT where
 of:=fun {P w H h v u l} ok r k=>by
  obtain⟨a,rfl,ha⟩:=k
  cases r
  obtain⟨_,its,r2,m,ho⟩:=(show ObjOk P w H h a (.tup _) from ok a _ ha)
  exact⟨a,m,its.toArray,rfl,ho,jIS r2⟩
 mono:=fun t k=>let ⟨a,e,h⟩:=k; ⟨a,e,t _ _ h⟩
 dec:=TM.TupI.dec
 kind:=TM.kind_of
 lt:=fun h1 h2 room h=>TM.lt_kd h1 h2 (by omega) h
section
variable {X:Cx}{S:KeyS}
theorem s_tk (ok:KeyOk S){P:Program}{w:World}{H:Hp}{h:Heap}(hk:HOk P w H h):∀ {us:List V}{its:List Value}{ws:List (List Int)},Vals us its->All2 (S.KR H) us ws->All2 (S.TK h) its ws
 | [],_,[], .nil,_=>trivial
 | _::_,_,_::_, .cons r rs,⟨t,ts⟩=>⟨ok.of hk r t,s_tk ok hk rs ts⟩
theorem s_out {H:Hp}{h:Heap} :∀ {us:List V}{its:List Value}{ws:List (List Int)},Vals us its->All2 (S.KR H) us ws->All2 (S.TK h) its ws->(ok:KeyOk S)->(∀ v∈us,∃ a,v=V.ref a)->∀ u∈its,∃ a,u= .ref a/\S.KR H (.ref a) (S.dc h u)
 | [],_,[], .nil,_,_,_,_,u,hu=>by cases hu
 | v::us,_,w::ws, .cons r rs,⟨t,ts⟩,⟨d,ds⟩,ok,hr,u,hu=>by
  rcases az.mp hu with z | z
  ·obtain⟨a,rfl⟩:=hr v (ak ..)
   cases r
   rw[z,ok.dec d]
   exact⟨a,rfl,t⟩
  ·exact s_out rs ts ds ok (fun v hv=>hr v (ai _ hv)) u z
end
end L2
end
section
namespace TM
open PySem PySem.Spec PyProof.Rows
section
variable {prog:Program}{w:World}{A:Around}{E:Value->Shared->Prop}{s:Shared}
end
end TM
namespace L2
open PySem PySem.Spec PyProof.Rows
section
variable {X:Cx}{o:Expr}{td:TE}{apos cpos:Pos}{S:KeyS}
end
end L2
end
section
namespace TM
open PySem PySem.Spec PyProof.Rows
section
variable {prog:Program}{w:World}{A:Around}{E:Value->Shared->Prop}{s:Shared}
theorem sorted_items {K:Type} [DecidableEq K]{knd:KeyKind prog w K}{v d:Addr}{kvs:List (K×Value)}{Q:Value->Shared->Prop}(hh:A.handled=none)(hv:s.heap.IsItemsView v d)(D:s.heap.DictOf knd d kvs)(hz0:kvs.length<=sizeLine)
  (hyp:∀ (h1:Heap) (tk:Nat) (as:List Addr),(∀ b o,s.heap.get? b=some o->h1.get? b=some o)->as.length=kvs.length->PySem.W.KdxG knd kvs s.heap.objs.size h1 as->∃ od:Od,@AllI od (pairsOf (as.map Value.ref)).toList/\
   (2<=(as.map Value.ref).length->∀ (h5:Heap) (a:Addr),(∀ c o,h1.get? c=some o->h5.get? c=some o)->h1.objs.size<=a-> @AskOk od prog w A.in1.in1 { s with heap:=h5,toks:=tk} a (as.map Value.ref))/\
   ∀ (hf:Heap) (l:Addr) (xs:Array Keyed) (e:Nat),h1.objs.size<=l->(∀ b u,h1.get? b=some u->hf.get? b=some u)->hf.get? l=some { cls:= .type "list",data:= .seq (xs.map (·.2)) e} ->xs.Perm (pairsOf (as.map Value.ref))-> @STo od xs (pairsOf (as.map Value.ref)).size->Q (.ref l) { s with heap:=hf,toks:=tk}):
  wpAny (model prog w) A (call (.builtin "sorted") [.ref v]) Q E s:=by
 obtain⟨ep,hat⟩:=D.dictAt
 refine ig kind_sorted plain_sorted entry_sorted (args_sorted1 _) ?_
 unfold Builtin.«sorted»
 refine aa (m:=checkCount "sorted" 1 1 _) (ag ?_)
 refine aa (PySem.W.kdx_collect (A:=A.in1) (knd:=knd) (kvs:=kvs) (ep:=ep) hh hv hat hz0 fun h1 tk as hk1 hl1 G1=>?_)
 obtain⟨od,hI,hk,h⟩:=hyp h1 tk as hk1 hl1 G1
 have hz:(as.map Value.ref).length<=sizeLine:=by rw[ah,hl1]; exact hz0
 generalize as.map Value.ref=vs at hI hk h hz ⊢
 refine aa (iC ?_ hz)
 have hL:(h1.push (seqObj "list" vs.toArray 0)).get? h1.objs.size=some (seqObj "list" vs.toArray 0):=aA _ rfl
 show wpAny _ _ _ _ _ { s with heap:=h1.push (seqObj "list" vs.toArray 0),toks:=tk}
 refine aa (bI (bQ slot_list_sort ⟨_,hL,rfl⟩ entry_list_sort (by
  rw[plain_rev]
  exact jH8 (s:= { s with heap:=h1.push (seqObj "list" vs.toArray 0),toks:=tk}) hL hz hI (fun h2=>hk h2 _ _ (fun c o q=>ae _ q) (aE _)) fun xs p1 p2=>⟨_,rfl,ag ⟨_,rfl,by
   obtain⟨e,he⟩:=sortedHeap_at (out:=turned false (xs.map (·.2))) hL
   refine h _ h1.objs.size xs e (aE _) (fun b u q=>?_) he p1 p2
   have hb:b<h1.objs.size:=ay q
   show (sortedHeap (h1.push (seqObj "list" vs.toArray 0)) h1.objs.size vs _).get? b=_
   rw[sortedHeap_old (aV hb) (by rw[size_push']; exact bU hb)]
   exact ae _ q⟩⟩) (args_list_sort _)))
end
end TM
namespace L2
open PySem PySem.Spec PyProof.Rows
def ViewI (v d:Addr):HO:= .ext fun h=>h.IsItemsView v d
def jP1 (td:TE):TE:=fun σ H Q=>td σ H fun x H1=>∃ (a:Addr) (kvs:List (Key×V)),x= .ref a/\Rd H1 a (.dK kvs)/\∀ p,H1 p=none->Q (.ref p) (upd H1 p (ViewI p a))
section
variable {X:Cx}{o:Expr}{td:TE}{apos cpos:Pos}{S:KeyS}
theorem jL6 (ho:JE X o td)(base:attributeBase o "items" X.env (eval o X.env)=eval o X.env:=by rfl)
  (line:(apos.endLine==cpos.line)=true:=by rfl):JE X (.Call (.Attribute o "items" apos) [] [] cpos) (jP1 td):=⟨fun pins s σ H Q I h=>by
 refine fO base line (thn (ho.h pins s σ H _ I h) fun u s1 ⟨x,H1,I1,rx,a,kvs,ex,d,q1⟩=>?_)
 subst ex
 obtain rfl:u=Value.ref a:=rx
 obtain⟨t1,t2,sm⟩:=jLC I1 (.inl ⟨kvs,d⟩)
 obtain⟨z,hd,vs,rel,dd⟩:=dk_rd I1.hok d
 refine⟨_,_,fQ,eh,iS,t1,t2,dw rfl (gN ?_)⟩
 refine iZ eh dd.typeIs iE (ie _) (meets_dict_items (jK X.prog X.w) a hd) ⟨⟨_,dd⟩,?_⟩
 have g:(s1.heap.push { cls:= .type "dict_items",data:= .fields #[.ref a]}).get? s1.heap.objs.size=some { cls:= .type "dict_items",data:= .fields #[.ref a]} :=aA _ rfl
 exact⟨.ref s1.heap.objs.size,_,I1.laid (t':=s1.toks) (o:=ViewI s1.heap.objs.size a) (fun b ob q=>ae _ q) (aE _) ⟨⟨_,g,rfl,rfl⟩,⟨_,g⟩,fun h1 h2 ⟨o,ho,r⟩ k=>⟨o,k o ho,r⟩⟩,rfl,q1 _ I1.fresh⟩⟩
theorem jJM (ok:KeyOk S)(hc:X.calm=true)(hu:X.A.units+101<cLine){pins:List (Addr×Obj)}{s:Shared}{σ:St}{H:Hp}{Q:VK}{us:List V}{its:List Value}{ws:List (List Int)}(I:Inv X pins σ H s)(r':Vals us its)(ht:All2 (S.KR H) us ws)(hrf:∀ v∈us,∃ a,v=V.ref a)(hz:its.length<=sizeLine)
  (q:∀ (l:Addr) (us':List V) (ws':List (List Int)),H l=none->All2 (S.KR H) us' ws'->ws'.Perm ws->ws'.Pairwise (fun x y=>HT.lexLt y x=false)->Q (.ref l) (upd H l (.lst us'))):
  ∃ od:TM.Od,@TM.AllI od (pairsOf its).toList/\(2<=its.length->∀ (h5:Heap) (a:Addr),(∀ c o,s.heap.get? c=some o->h5.get? c=some o)->s.heap.objs.size<=a-> @TM.AskOk od X.prog X.w X.A.in1.in1 { s with heap:=h5} a its)/\
   ∀ (hf:Heap) (l:Addr) (out:Array Keyed) (e:Nat),s.heap.objs.size<=l->(∀ b u,s.heap.get? b=some u->hf.get? b=some u)->hf.get? l=some { cls:= .type "list",data:= .seq (out.map (·.2)) e} ->out.Perm (pairsOf its)-> @TM.STo od out (pairsOf its).size->EP X pins σ Q (.ref l) { s with heap:=hf} :=by
 have hlen:=r'.length
 have d:=s_tk ok I.hok r' ht
 have hat:=s_out r' ht d ok hrf
 have ddc:=jNW ok d
 refine⟨odK S ws s.heap its,(fun x hx=>(TM.pairs_mem hx).2),(fun h2 h5 a k5 ha=>fun h6 k6=>?_),fun hf l out e hl kp he p1 p2=>?_⟩
 ·have hok6:HOk X.prog X.w H h6:=I.hok.kept fun b o z=>k6 _ _ (k5 _ _ z) (aV (bi (ay z) ha))
  have d6:=s_tk ok hok6 r' ht
  have ne:its≠ []:=fun z=>by rw[z] at h2; exact absurd h2 (by decide)
  refine⟨fun Q' E' h=>ok.kind (s:= { s with heap:=h6}) d6 ne h,@TM.LtOk.mk _ _ _ _ (odK S ws s.heap its) fun {E st x y Q} hk hx hy h=>?_⟩
  have e:decide (@TM.key (odK S ws s.heap its) x< @TM.key (odK S ws s.heap its) y)=HT.lexLt (S.dc s.heap x.1) (S.dc s.heap y.1):=TM.rk_lt (cD hx)
  rw[e] at h
  rw[lt'_eq]
  refine aJ (gC ?_)
  rw[show kindOf st=S.kd ws from hk]
  obtain⟨i,hi⟩:=bH hx
  obtain⟨j,hj⟩:=bH hy
  obtain⟨l1,g1,t1⟩:=d.get' hi
  obtain⟨l2,g2,t2⟩:=d.get' hj
  obtain⟨m1,g3,t3⟩:=d6.get' hi
  obtain⟨m2,g4,t4⟩:=d6.get' hj
  rw[g1] at g3
  rw[g2] at g4
  cases g3
  cases g4
  rw[ok.dec t1,ok.dec t2] at h
  exact aJ (hG (df (ok.lt (s:= { s with heap:=h6}) t3 t4 (by rw[fh,fh]; omega) ⟨rfl,aM h⟩)))
 ·have pl:=cP.mp p1
  have o1:(out.map (·.2)).toList.Perm its:=by
   rw[Array.toList_map]
   have:=pl.map Prod.snd
   rw[pairsOf_toList,List.map_snd_zip (aE _)] at this
   exact this
  have o2:(out.map (·.2)).toList.Pairwise fun u v=>HT.lexLt (S.dc s.heap v) (S.dc s.heap u)=false:=by
   have me:∀ q∈out.toList,q.1=q.2/\q.1∈its:=fun q hq=>TM.pairs_mem (pl.mem_iff.mp hq)
   have sz:=p1.size_eq
   rw[Array.toList_map,cj,cY]
   intro i j hi hj hij
   rw[aL] at hi hj
   have k:=p2 i j (cM hij) (by omega)
   have ei:out[i]?=some out[i]:=km _ i hi
   have ej:out[j]?=some out[j]:=km _ j hj
   have m1:=me out[i] (by simp)
   have m2:=me out[j] (by simp)
   rw[@TM.KI_key (odK S ws s.heap its) _ _ _ ei,@TM.KI_key (odK S ws s.heap its) _ _ _ ej] at k
   have e:decide (@TM.key (odK S ws s.heap its) out[j]< @TM.key (odK S ws s.heap its) out[i])=HT.lexLt (S.dc s.heap out[j].1) (S.dc s.heap out[i].1):=TM.rk_lt (cD m2.2)
   rw[jq,jq,<- m1.1,<- m2.1,<- e]
   exact aR (by omega)
  have rf:∀ u∈(out.map (·.2)).toList,∃ a,u= .ref a/\S.KR H (.ref a) (S.dc s.heap u):=fun u hu=>hat u (o1.mem_iff.mp hu)
  have hz2:((out.map (·.2)).toList.map refV).length<=sizeLine:=by
   rw[ah,o1.length_eq]
   omega
  have v1:Vals ((out.map (·.2)).toList.map refV) (out.map (·.2)).toList:=jFC fun u hu=>let ⟨a,e,_⟩:=rf u hu; ⟨a,e⟩
  have I2:Inv X pins σ (upd H l (.lst ((out.map (·.2)).toList.map refV))) { s with heap:=hf} :=I.laid (t':=s.toks) kp hl ⟨hz2,(out.map (·.2)).toList,e,v1,by rw[gJ]; exact he⟩
  have v2:All2 (S.KR H) ((out.map (·.2)).toList.map refV) ((out.map (·.2)).toList.map (S.dc s.heap)):=by
   generalize (out.map (·.2)).toList=l at rf
   induction l with
   | nil=>trivial
   | cons u l ih=>
    obtain⟨a,e,k⟩:=rf u (ak ..)
    refine⟨?_,ih fun w hw=>rf w (ai _ hw)⟩
    rw[e] at k ⊢
    exact k
  refine⟨.ref _,_,I2,rfl,q _ _ ((out.map (·.2)).toList.map (S.dc s.heap)) (I.hok.fresh hl) v2 ?_ ?_⟩
  ·rw[<- ddc]
   exact o1.map _
  ·exact cj.mpr o2
end
section
variable {β:Type}
theorem jIZ:∀ {as:List Addr}{ws:List β}{b:Addr},b∉as->(as.zip ws).lookup b=none
 | [],_,_,_=>rfl
 | _::_,[],_,_=>rfl
 | a::as,w::ws,b,h=>by
  have n:(b==a)=false:=by simpa using fun z:b=a=>h (by rw[z]; exact ak ..)
  show (match b==a with | true=>some w | false=>(as.zip ws).lookup b)=none
  rw[n]
  exact jIZ fun z=>h (ai _ z)
theorem zl_at:∀ {as:List Addr}{ws:List β}{j:Nat}{b:Addr}{w:β},as.Nodup->as[j]?=some b->ws[j]?=some w->(as.zip ws).lookup b=some w
 | [],_,_,_,_,_,h,_=>by cases h
 | _::_,[],_,_,_,_,_,h=>by cases h
 | a::as,x::ws,0,b,w,_,h1,h2=>by
  have e1:a=b:=by simpa using h1
  have e2:x=w:=by simpa using h2
  show (match b==a with | true=>some x | false=>(as.zip ws).lookup b)=some w
  rw[e1,e2,show (b==b)=true by simp]
 | a::as,x::ws,j+1,b,w,nd,h1,h2=>by
  obtain⟨n1,n2⟩:=bK.mp nd
  have h1:as[j]?=some b:=by simpa using h1
  have n:(b==a)=false:=by simpa using fun z:b=a=>n1 (by rw[<- z]; exact aN h1)
  show (match b==a with | true=>some x | false=>(as.zip ws).lookup b)=some w
  rw[n]
  exact zl_at n2 h1 (by simpa using h2)
end
def withP (H:Hp)(as:List Addr)(ws:List (Int×Int)):Hp:=fun b=>match (as.zip ws).lookup b with | some w=>some (.tup [.int w.1, .int w.2]) | none=>H b
theorem jA3 {H:Hp}{as:List Addr}{ws:List (Int×Int)}{b:Addr}(h:b∉as):withP H as ws b=H b:=by
 unfold withP
 rw[jIZ h]
theorem jGZ {H:Hp}{as:List Addr}{ws:List (Int×Int)}{b:Addr}{w:Int×Int}{j:Nat}(nd:as.Nodup)(h1:as[j]?=some b)(h2:ws[j]?=some w):withP H as ws b=some (.tup [.int w.1, .int w.2]):=by
 unfold withP
 rw[zl_at nd h1 h2]
def prW (w:Int×Int):List Int:=[w.1,w.2]
theorem jOU {R:V->List Int->Prop}{S:V->Int×Int->Prop}(h:∀ u w,R u (prW w)->S u w):∀ {us:List V}{ws:List (Int×Int)},All2 R us (ws.map prW)->All2 S us ws
 | [],[],_=>trivial
 | _::_,_::_,k=>⟨h _ _ k.1,jOU h k.2⟩
 | [],_::_,k=>k.elim
 | _::_,[],k=>k.elim
section
variable {X:Cx}
theorem jFX (hc:X.calm=true)(hu:X.A.units+101<cLine):yC X (.builtin "sorted") (fun xs H Q=>∃ (p d:Addr) (kvs:List (Key×V)) (ws:List (Int×Int)),xs=[.ref p]/\H p=some (ViewI p d)/\Rd H d (.dK kvs)/\kvs=ws.map (fun w=>((Sum.inl w.1:Key),V.int w.2))/\
  ∀ (l:Addr) (us:List V) (ws':List (Int×Int)) (H':Hp),H' l=some (.lst us)->All2 (fun u w=>∃ a,u=V.ref a/\H' a=some (.tup [.int w.1, .int w.2])) us ws'->ws'.Perm ws->ws'.Pairwise (fun x y=>HT.lexLt (prW y) (prW x)=false)->Ext H H'->H l=none->Q (.ref l) H'):=by
 intro pins s σ H xs us Q I r h
 obtain⟨p,dx,kvs,ws,rfl,hp,hdx,hk,q⟩:=h
 obtain⟨u,rfl,rx⟩:=r.one
 cases rx
 obtain⟨hview,_,_⟩:=I.hok p _ hp
 obtain⟨z,lo,vs,rel,dd⟩:=dk_rd I.hok hdx
 have vl:=KV.length rel
 refine TM.sorted_items (I.ok.hd hc) hview dd (by omega) fun h1 tk as kp hl G=>?_
 have wl:ws.length=as.length:=by rw[hl,<- vl,hk,ah]
 have nd:as.Nodup:=G.rise.imp fun {a b} h=>aV h
 have old:∀ b o,s.heap.get? b=some o->b∉as:=fun b o e hb=>absurd (G.above b hb) (g7.mpr (cM (ay e)))
 have oldH:∀ b o,H b=some o->b∉as:=fun b o e hb=>absurd (G.above b hb) (g7.mpr (cM (I.hok b o e).lt))
 have prs:∀ (j:Nat) (a:Addr) (w:Int×Int),as[j]?=some a->ws[j]?=some w->∃ key x,h1.get? a=some { cls:= .type "tuple",data:= .seq #[key,x]} /\RelV (.int w.1) key/\RelV (.int w.2) x:=fun j a w ha hw=>by
  obtain⟨key,k,x,e1,e2,e3⟩:=G.pairs j a ha
  have hkj:kvs[j]?=some ((Sum.inl w.1:Key),V.int w.2):=by rw[hk,aP,hw]; rfl
  obtain⟨u,hu2,ru⟩:=KV.at rel hkj
  rw[hu2] at e1
  cases e1
  refine⟨key,x,e3,?_,ru⟩
  rcases jM (show keyIs (Sum.inl w.1) key=true from e2) with ⟨i',t,q1,q2⟩ | ⟨y,t,q1,q2⟩
  ·cases q1
   rw[q2]; exact⟨t,rfl⟩
  ·cases q1
 have un:Un X.fs [] H (withP H as ws) s.heap h1:=by
  refine⟨fun b o e _ _ _=>kp b o e,fun b o e _ _ _=>⟨o.slots,kp b o e⟩,fun b o e n _=>by rw[jA3 (old b o e)]; exact n,fun b o e _=>⟨o,kp b o e⟩,fun b xs e=>by rw[jA3 (oldH b _ e)]; exact e,fun b o u e=>by rw[jA3 (oldH b _ e)]; exact e,fun b ps e=>⟨#[],by rw[jA3 (oldH b _ e),e]; simp⟩⟩
 have hok:HOk X.prog X.w (withP H as ws) h1:=fun b o e=>by
  by_cases hb:b∈as
  ·obtain⟨j,hj,ej⟩:=List.mem_iff_getElem.mp hb
   have h1':as[j]?=some b:=by rw[aB hj,ej]
   have hw:ws[j]?=some ws[j]:=aB (by omega)
   rw[jGZ nd h1' hw] at e
   cases e
   obtain⟨key,x,g1,g2,g3⟩:=prs j b _ h1' hw
   exact⟨by rw[fN]; show 2<=_; decide,[key,x], .cons g2 (.cons g3 .nil),0,g1⟩
  ·rw[jA3 hb] at e
   refine(I.hok b o e).stay (fun c w _ q=>kp c w q) (fun c q=>by rw[jA3 (oldH c _ q)]; exact q) (fun c ws q=>by rw[jA3 (oldH c _ q)]; exact q)
 have I1:Inv X pins σ (withP H as ws) { s with heap:=h1,toks:=tk} :=I.un (t':=tk) un hok
 have v1:Vals (as.map V.ref) (as.map Value.ref):=by
  clear hl G wl nd old oldH prs un hok I1
  induction as with
  | nil=>exact .nil
  | cons a as ih=>exact .cons rfl ih
 have a2:All2 (keyT.KR (withP H as ws)) (as.map V.ref) (ws.map prW):=All2.of_get (by rw[ah,ah,wl]) fun j u l hu2 hl2=>by
  rw[aP] at hu2 hl2
  cases ha:as[j]? with
  | none=>rw[ha] at hu2; cases hu2
  | some a=>
   cases hw:ws[j]? with
   | none=>rw[hw] at hl2; cases hl2
   | some w=>
    rw[ha] at hu2
    rw[hw] at hl2
    cases hu2
    cases hl2
    exact⟨a,rfl,jGZ nd ha hw⟩
 refine jJM jQE hc hu I1 v1 a2 (fun v hv=>let ⟨a,_,e⟩:=bq.mp hv; ⟨a,e.symm⟩) (by rw[ah]; omega) fun l us' wsL hl0 al pm pw=>?_
 have f1:∀ x∈wsL,prW (x.getD 0 0,x.getD 1 0)=x:=fun x hx=>by
  obtain⟨w,_,rfl⟩:=bq.mp (pm.mem_iff.mp hx)
  rfl
 have e1:(wsL.map fun x=>(x.getD 0 0,x.getD 1 0)).map prW=wsL:=by
  rw[bF]
  exact(bx f1).trans (fV _)
 have p1:(wsL.map fun x=>(x.getD 0 0,x.getD 1 0)).Perm ws:=by
  have:=pm.map fun x:List Int=>(x.getD 0 0,x.getD 1 0)
  rw[bF] at this
  exact this.trans (fw ((bx fun w _=>rfl).trans (fV _)))
 have Hl:H l=none:=by
  cases e:H l with
  | none=>rfl
  | some o=>rw[jA3 (oldH l o e),e] at hl0; cases hl0
 rw[<- e1] at al pw
 refine q l us' _ _ j9 ?_ p1 (cj.mp pw) (fun b o e=>?_) Hl
 ·refine jOU (fun u w ⟨a,e,ha⟩=>⟨a,e,?_⟩) al
  rw[j8 (fun z=>by rw[z] at ha; rw[hl0] at ha; cases ha)]
  exact ha
 ·rw[j8 (fun z=>by rw[z,Hl] at e; cases e),jA3 (oldH b o e)]
  exact e
end
section
variable {X:Cx}
end
section
variable {prog:Program}{w:World}{A:Around}{E:Value->Shared->Prop}{s:Shared}
def Tells (Q E:Value->Shared->Prop):Result->Shared->Prop:=fun r s=>match r with | .ok (.ret v)=>Q v s | .ok _=>False | .error e=>E e s
theorem jNS {id:String}{b:Builtin}{args:List Value}{kw:List (Str×Value)}{Q:Value->Shared->Prop}(hk:builtinKind id=none)(hp:plainId id=true)(hb:entryFor table id=some b)(ha:argsOk id ⟨args,kw⟩)
  (hc:wpAny (model prog w) A.in1 (b ⟨args,kw⟩) (fun fin t=>match fin with | .done f=>Tells Q E (Except.ok f) t | .again c=>c.quiet=true/\codeAny (model prog w) A c (Tells Q E) t) E s):wpAny (model prog w) A (call (.builtin id) args kw) Q E s:=by
 refine fE (gH hp hb ?_)
 simp only [checkBuiltinCall,hk]
 cases z:Manifest.signature? id with
 | none=>exact ag hc
 | some g=>
  have y:Bind.checkArgs id g ⟨args,kw⟩=pure ():=by simpa only [argsOk,z] using ha
  simp only [y]
  exact ag hc
end
abbrev dKw (d:Value):List (Str×Value):=[(Str.ofString "default",d)]
abbrev mxB (I S:Addr)(d:Value):Code:= .builtin "max.loop" ⟨[.ref I, .none, .ref S],dKw d⟩
abbrev LstO (vs:Array Value)(c:Nat):Obj:= { cls:= .type "list",dict:=none,data:= .seq vs c,slots:=#[]}
section
variable {prog:Program}{w:World}{A:Around}{R:Result->Shared->Prop}{I:Addr}{fp wr:List Addr}{n:Nat}{P:Nat->Value->Prop}{St:Nat->Heap->Prop}
theorem jHN:(toString "max" ++toString ".loop" :String)= "max.loop" :=by decide
theorem mx_go (W:Walks prog w A.in1 I fp wr n P St)(bt:Nat->Nat->Bool)(cm:CmpOf prog w A.in1 .Gt P bt){S:Addr}{d:Value}(Sf:S∉fp):∀ (k j:Nat) (t:Shared) (b:Value) (c:Nat),n=j+1+k->St (j+1) t.heap->P (argBest bt j) b->t.heap.get? S=some (LstO #[b,b] c)->
  (∀ v h u,P (argBest bt (n - 1)) v->(∀ a o,a∉wr->a≠S->t.heap.get? a=some o->h.get? a=some o)->R (.ok (.ret v)) { t with heap:=h,toks:=u})->codeAny (model prog w) A (mxB I S d) R t
 | 0,j,t,b,c,hn,st,pb,hS,fin=>by
  have Sw:S∉wr:=fun z=>Sf (W.sub _ z)
  refine cr F.entry_max_loop ?_
  rw[bV F.plain_max_loop _]
  refine aa (m:=seqItems? (.ref S)) (cI hS rfl ?_)
  refine aa (gl (W.done t _ _ (by rw[hn]; exact st) fun h u kp=>?_))
  have S2:=kp S _ Sw hS
  refine aa (m:=updateSeq S fun _=>#[]) (fz S2 rfl (aa (fb (ag ?_))))
  exact fin b _ u (by rw[hn]; exact pb) fun a o aw aS e=>(bu _ _ (cF aS)).trans (kp a o aw e)
 | k+1,j,t,b,c,hn,st,pb,hS,fin=>by
  have Sw:S∉wr:=fun z=>Sf (W.sub _ z)
  refine cr F.entry_max_loop ?_
  rw[bV F.plain_max_loop _]
  refine aa (m:=seqItems? (.ref S)) (cI hS rfl ?_)
  refine aa (gl (W.item (j+1) t _ _ (by omega) st fun v h u pv st2 kp=>?_))
  have S2:=kp S _ Sw hS
  refine aa (ag ?_)
  refine aa (gl (bI (aa (cm (j+1) (argBest bt j) v b _ _ _ pv pb ?_))))
  refine aa (bI (dk (aa (fb (ag ?_)))))
  cases hb:bt (j+1) (argBest bt j) with
  | true=>
   simp only [iq]
   refine aa (fz S2 rfl (aa (fb ?_)))
   rw[jHN]
   refine ag ⟨dz F.plain_max_loop _,mx_go W bt cm Sf k (j+1) _ v _ (by omega) (W.frame _ _ _ st2 fun a af o e=>(bu _ _ (fun z:S=a=>Sf (by rw[z]; exact af))).trans e) (by simp only [argBest,hb,iq]; exact pv) (bC _ S2 rfl) fun v' h2 u2 pv2 kp2=>?_⟩
   exact fin v' h2 u2 pv2 fun a o aw aS e=>kp2 a o aw aS ((bu _ _ (cF aS)).trans (kp a o aw e))
  | false=>
   simp only [kg,if_false]
   refine aa (fb ?_)
   rw[jHN]
   refine ag ⟨dz F.plain_max_loop _,mx_go W bt cm Sf k (j+1) _ b c (by omega) st2 (by simp only [argBest,hb,kg,if_false]; exact pb) S2 fun v' h2 u2 pv2 kp2=>?_⟩
   exact fin v' h2 u2 pv2 fun a o aw aS e=>kp2 a o aw aS (kp a o aw e)
theorem jMX (W:Walks prog w A.in1 I fp wr n P St)(bt:Nat->Nat->Bool)(cm:CmpOf prog w A.in1 .Gt P bt){S:Addr}{d:Value}(Sf:S∉fp){t:Shared}{c:Nat}(st:St 0 t.heap)(hS:t.heap.get? S=some (LstO #[] c))
  (none_:n=0->∀ h u,(∀ a o,a∉wr->a≠S->t.heap.get? a=some o->h.get? a=some o)->R (.ok (.ret d)) { t with heap:=h,toks:=u})
  (fin:0<n->∀ v h u,P (argBest bt (n - 1)) v->(∀ a o,a∉wr->a≠S->t.heap.get? a=some o->h.get? a=some o)->R (.ok (.ret v)) { t with heap:=h,toks:=u}):codeAny (model prog w) A (mxB I S d) R t:=by
 have Sw:S∉wr:=fun z=>Sf (W.sub _ z)
 refine cr F.entry_max_loop ?_
 rw[bV F.plain_max_loop _]
 refine aa (m:=seqItems? (.ref S)) (cI hS rfl ?_)
 by_cases hn:n=0
 ·refine aa (gl (W.done t _ _ (by rw[hn]; exact st) fun h u kp=>?_))
  refine aa (ck (ag ?_))
  exact none_ hn h u fun a o aw _ e=>kp a o aw e
 ·refine aa (gl (W.item 0 t _ _ (by omega) st fun v h u pv st2 kp=>?_))
  have S2:=kp S _ Sw hS
  refine aa (ag ?_)
  refine aa (m:=updateSeq S fun _=>#[v,v]) (fz S2 rfl ?_)
  rw[jHN]
  refine ag ⟨dz F.plain_max_loop _,mx_go W bt cm Sf (n - 1) 0 _ v _ (by omega) (W.frame _ _ _ st2 fun a af o e=>(bu _ _ (fun z:S=a=>Sf (by rw[z]; exact af))).trans e) pv (bC _ S2 rfl) fun v' h2 u2 pv2 kp2=>?_⟩
  exact fin (by omega) v' h2 u2 pv2 fun a o aw aS e=>kp2 a o aw aS ((bu _ _ (cF aS)).trans (kp a o aw e))
end
section
variable {X:Cx}
theorem jM7 (a d:Value):argsOk "max" ⟨[a],dKw d⟩:=by unfold argsOk; kernel_rfl
theorem jM1 (hc:X.calm=true):jMA X (.builtin "max") [Str.ofString "default"] (fun xs zs H Q=>∃ (p:Addr) (ns:List Int) (d M:Int),xs=[.ref p]/\zs=[.int d]/\SqL X.K H p (ns.map V.int)/\(ns=[]->d=M)/\(∀ m,m∈ns->(∀ a∈ns,a<=m)->m=M)/\Q (.int M) H):=by
 intro pins s σ H xs zs us ws Q I r rz h
 obtain⟨p,ns,d,M,rfl,rfl,hq,h0,h1,qq⟩:=h
 have q0:ns=[]->Q (.int d) H:=fun e=>by rw[h0 e]; exact qq
 have q:∀ m,m∈ns->(∀ a∈ns,a<=m)->Q (.int m) H:=fun m a b=>by rw[h1 m a b]; exact qq
 obtain⟨u,rfl,rx⟩:=r.one
 obtain⟨v,rfl,ry⟩:=rz.one
 cases rx
 obtain⟨td,rfl⟩:=ry
 obtain⟨its,r',pl,hz⟩:=I.list hq
 have hlen:=r'.length
 rw[ah] at hlen
 have val:∀ (i:Nat) (v:Value),its[i]?=some v->∃ t,v=Value.int (ns.getD i 0) t:=fun i v hi=>by
  have hb:i<ns.length:=by
   rw[hlen]
   exact(ar.mp hi).1
  obtain⟨u,hu,ru⟩:=r'.get (i:=i) (x:= .int (ns[i])) (by simp [hb])
  rw[hi] at hu
  cases hu
  obtain⟨t,rfl⟩:=ru
  exact⟨t,by simp [List.getD,hb]⟩
 have hne:p≠s.heap.objs.size:=by
  obtain⟨o,ho,_⟩:=pl.isList
  exact aV (ay ho)
 refine jNS F.kind_max F.plain_max F.entry_max (jM7 _ _) ?_
 refine aa (m:=Builtin.Builtins.bindParams "max" ["key","default"] 0 ⟨[],dKw (.int d td)⟩) (im (show _=pure [none,some (.int d td)] from rfl) ?_)
 refine aa (ag (aa (dL pl.isList ?_)))
 refine aa (cf ?_)
 rw[jHN]
 have pz:p<s.heap.objs.size:=by obtain⟨o,ho,_⟩:=pl.isList; exact ay ho
 have z1:(s.heap.push { cls:= .type "list_iterator",data:= .fields #[.ref p, .int 0 0]}).objs.size=s.heap.objs.size+1:=bS ..
 have kp:∀ {h:Heap},(∀ a o,a∉ [s.heap.objs.size]->a≠(s.heap.push { cls:= .type "list_iterator",data:= .fields #[.ref p, .int 0 0]}).objs.size->((s.heap.push { cls:= .type "list_iterator",data:= .fields #[.ref p, .int 0 0]}).push { cls:= .type "list",data:= .seq #[]}).get? a=some o->h.get? a=some o)->∀ b u,s.heap.get? b=some u->h.get? b=some u:=fun k b u e=>by
  have:=ay e
  exact k b u (by rw[aC]; exact aV this) (by rw[z1]; exact aV (bU this)) (ae _ (ae _ e))
 refine ag ⟨dz F.plain_max_loop _,jMX (jz (by simpa using I.ok.hd hc) s.heap.objs.size p hne its.toArray) _ (CmpOf.ints_gt (fun i=>ns.getD i 0) (fun i v hP=>val i v (by simpa using hP))) (fun hb=>?_) ⟨⟨_,ae _ (aA _ rfl),rfl,rfl⟩,(pl.isList.push _).push _⟩ (aA _ rfl) (fun h0 h u k=>?_) fun h0 v h u hP k=>?_⟩
 ·rcases az.mp hb with e | hb
  ·exact absurd e (by show (s.heap.push _).objs.size≠_; rw[z1]; omega)
  ·have e:(s.heap.push { cls:= .type "list_iterator",data:= .fields #[.ref p, .int 0 0]}).objs.size=p:=by simpa using hb
   rw[z1] at e
   exact absurd pz (by rw[<- e]; exact g7.mpr (jp _))
 ·have e:ns=[]:=by
   rw[aI] at h0
   exact iM.mp (by omega)
  exact⟨.int d,H,I.kept (t':=u) (kp k),⟨_,rfl⟩,q0 e⟩
 ·obtain⟨h1,h2⟩:=argBest_gt (fun i=>ns.getD i 0) (its.toArray.size - 1)
  rw[aI] at h0 h1 h2 hP
  rw[List.getElem?_toArray] at hP
  obtain⟨t,rfl⟩:=val _ v hP
  refine⟨.int _,H,I.kept (t':=u) (kp k),⟨_,rfl⟩,q _ ?_ fun a ha=>?_⟩
  ·generalize argBest _ _=j at h1
   have hj:j<ns.length:=by omega
   rw[aF,aB hj]
   exact db hj
  ·obtain⟨j,hj⟩:=List.mem_iff_getElem?.mp ha
   have hjl:=(ar.mp hj).1
   have:=h2 j (by omega)
   have e:ns.getD j 0=a:=by rw[aF,hj]; rfl
   rw[e] at this
   exact this
end
section
variable {X:Cx}{o e:Expr}{to:TE}{t1:TEX}{T id:String}{name:Str}{r:V->List V->Hp->VK->Prop}{apos cpos:Pos}
end
theorem loc_u {X:Cx}{x:Str}{a:Addr}(h:Loc1 X x):Loc1 (jAB X a) x:=⟨h.a,h.b⟩
theorem jH1:∀ {cs:List Addr}{its:List Value},Vals (cs.map V.ref) its->its=cs.map Value.ref
 | [],_,h=>by cases h; rfl
 | c::cs,_,h=>by
  cases h with
  | cons h1 h2=>rw[ba,jH1 h2,show _=Value.ref c from h1]
theorem jEP {X:Cx}{C:Addr}(ci:ExcIs X.K C):yC X (.builtin "isinstance") (fun xs H Q=>∃ (x t:Addr) (cs:List Addr) (b:Bool),xs=[.ref x, .ref t]/\H x=some (.ext (excP x C))/\H t=some (.tup (cs.map V.ref))/\kitAny X.K (.ref C) (cs.map Value.ref)=some b/\Q (.bl b) H):=by
 intro pins s σ H xs us0 Q I r h
 obtain⟨x,t,cs,b,rfl,hx,ht,e,q⟩:=h
 obtain⟨v,y,rfl,rv,ry⟩:=r.two
 cases (show v=Value.ref x from rv)
 cases (show y=Value.ref t from ry)
 obtain⟨p,_,_⟩:=(show ObjOk X.prog X.w H s.heap x (.ext (excP x C)) from I.hok x _ hx)
 obtain⟨_,its,r',n,g⟩:=(show ObjOk X.prog X.w H s.heap t (.tup (cs.map V.ref)) from I.hok t _ ht)
 have ei:=jH1 r'
 subst ei
 exact PySem.W.kia_tup (jHS ci) I.kIn p g e (fun z=>nomatch z) fun tk=>⟨.bl b,H,I.tok tk,rfl,q⟩
theorem jHT {K:W.Frag}{t:Value} :∀ {cs:List Addr},(∀ a∈cs,kitOne K t (.ref a)=some false)->kitAny K t (cs.map Value.ref)=some false
 | [],_=>rfl
 | c::cs,h=>by
  rw[ba]
  unfold kitAny
  rw[h c (ak ..)]
  exact jHT fun a ha=>h a (ai _ ha)
end L2
end
section
namespace SB
open PySem PySem.SetTable SS
def stp (m i:Nat):Nat:=(i*5+1) % (m+1)
def rep (m:Nat):Nat->Nat->Nat
 | 0,i=>i
 | n+1,i=>rep m n (stp m i)
def orb (m:Nat):Nat->Nat->List Nat
 | 0,_=> []
 | n+1,i=>i::orb m n (stp m i)
theorem jK5 {m j:Nat} :∀ {n i:Nat},j∈orb m n i->∃ r,r<n/\rep m r i=j
 | 0,_,h=>by cases h
 | n+1,i,h=>by
  rcases az.mp h with e | h
  ·exact⟨0,by omega,e.symm⟩
  ·obtain⟨r,hr,e⟩:=jK5 h
   exact⟨r+1,by omega,e⟩
theorem jE1 (m:Nat):∀ (a b i:Nat),rep m (a+b) i=rep m b (rep m a i)
 | 0,b,i=>by rw[dy]; rfl
 | a+1,b,i=>by rw[show a+1+b=(a+b)+1 from by omega]; exact jE1 m a b (stp m i)
inductive Msk (m:Nat):Prop
 | mk:m=7\/m=31\/m=127\/m=511->Msk m
theorem chk7:((List.range 8).all fun j=>(orb 7 8 0).elem j)=true/\rep 7 8 0=0:=by decide+kernel
theorem chk31:((List.range 32).all fun j=>(orb 31 32 0).elem j)=true/\rep 31 32 0=0:=by decide+kernel
theorem jTA:((List.range 128).all fun j=>(orb 127 128 0).elem j)=true/\rep 127 128 0=0:=by decide+kernel
theorem jT9:((List.range 512).all fun j=>(orb 511 512 0).elem j)=true/\rep 511 512 0=0:=by decide+kernel
theorem Msk.chk {m:Nat}(h:Msk m):((List.range (m+1)).all fun j=>(orb m (m+1) 0).elem j)=true/\rep m (m+1) 0=0:=by
 obtain⟨rfl | rfl | rfl | rfl⟩:=h
 ·exact chk7
 ·exact chk31
 ·exact jTA
 ·exact jT9
theorem Msk.all {m:Nat}(h:Msk m){i j:Nat}(hi:i<=m)(hj:j<=m):∃ r,r<=m/\rep m r i=j:=by
 obtain⟨h1,h2⟩:=h.chk
 have f:∀ j,j<=m->∃ r,r<m+1/\rep m r 0=j:=fun j hj=>by
  have q:=dC.mp h1 j (cH.mpr (by omega))
  exact jK5 (List.elem_iff.mp q)
 obtain⟨a,ha,ea⟩:=f i hi
 obtain⟨b,hb,eb⟩:=f j hj
 by_cases c:a<=b
 ·refine⟨b - a,by omega,?_⟩
  rw[<- ea,<- jE1,show a+(b - a)=b from by omega,eb]
 ·refine⟨m+1 - a+b,by omega,?_⟩
  rw[<- ea,<- jE1,show a+(m+1 - a+b)=m+1+b from by omega,jE1,h2,eb]
def lps (m:Nat):Nat->Nat->Nat->Nat×Nat
 | 0,i,p=>(i,p)
 | n+1,i,p=>lps m n (leap m i p).1 (leap m i p).2
theorem jKL (m:Nat):∀ (a b i p:Nat),lps m (a+b) i p=lps m b (lps m a i p).1 (lps m a i p).2
 | 0,b,i,p=>by rw[dy]; rfl
 | a+1,b,i,p=>by rw[show a+1+b=(a+b)+1 from by omega]; exact jKL m a b _ _
theorem jHQ (m:Nat):∀ (n i:Nat),lps m n i 0=(rep m n i,0)
 | 0,i=>rfl
 | n+1,i=>by
  show lps m n ((i*5+1+0 / 32) % (m+1)) (0 / 32)=_
  rw[show 0 / 32=0 from rfl,dh]
  exact jHQ m n _
theorem jOC (m:Nat):∀ (n i p:Nat),i<=m->(lps m n i p).1<=m
 | 0,i,p,h=>h
 | n+1,i,p,h=>jOC m n _ _ (by show (i*5+1+p / 32) % (m+1)<=m; have:=jy (i*5+1+p / 32) (show 0<m+1 by omega); omega)
theorem jKJ (m:Nat):∀ (n i p:Nat),(lps m n i p).2=p / 32 ^ n
 | 0,i,p=>by show p=_; simp
 | n+1,i,p=>by
  show (lps m n (leap m i p).1 (p / 32)).2=_
  rw[jKJ m n,Nat.div_div_eq_div_mul,kn,iX]
theorem jKK {m:Nat}(h:Msk m){i p j:Nat}(hi:i<=m)(hp:p<2 ^ 64)(hj:j<=m):∃ k,k<=m+13/\(lps m k i p).1=j:=by
 have e:(lps m 13 i p).2=0:=by
  rw[jKJ]
  exact Nat.div_eq_of_lt (gc hp (by decide))
 obtain⟨r,hr,er⟩:=h.all (jOC m 13 i p hi) hj
 refine⟨13+r,by omega,?_⟩
 rw[jKL,e,jHQ]
 exact er
theorem jM5 (h:Int):bits h<2 ^ 64:=by
 unfold bits
 have h1:=Int.emod_nonneg h (b:=(2 ^ 64:Int)) (by decide)
 have h2:=kh h (b:=(2 ^ 64:Int)) (by decide)
 omega
theorem jFA (m i:Nat):i<=runEnd m i/\runEnd m i<=i+9:=by unfold runEnd; split <;> omega
abbrev emp (o:Array (Option Nat))(j:Nat):Bool:=(o.getD j (some 0)).isNone
theorem jDS {m:Nat}{o:Array (Option Nat)} :∀ {fuel i p j:Nat},layClean.free m o fuel i p=some j->emp o j=true
 | 0,_,_,_,h=>by simp [layClean.free] at h
 | fuel+1,i,p,j,h=>by
  unfold layClean.free at h
  split at h
  ·rename_i k hk
   have q:=List.find?_some hk
   injection h with h
   rw[<- h]
   exact q
  ·exact jDS h
theorem jFR {m:Nat}{o:Array (Option Nat)} :∀ {k fuel i p:Nat},k<fuel->emp o (lps m k i p).1=true->∃ j,layClean.free m o fuel i p=some j
 | k,0,_,_,h,_=>by omega
 | 0,fuel+1,i,p,h,e=>by
  unfold layClean.free
  split
  ·exact⟨_,rfl⟩
  ·rename_i hn
   exfalso
   have q:=List.find?_eq_none.mp hn 0 (cH.mpr (by have:=jFA m i; omega))
   exact q (by rw[dh]; exact e)
 | k+1,fuel+1,i,p,h,e=>by
  unfold layClean.free
  split
  ·exact⟨_,rfl⟩
  ·exact jFR (k:=k) (by omega) e
abbrev own (o:Array (Option Nat)):List Nat:=o.toList.filterMap id
theorem jOM:∀ {l:List (Option Nat)}{j k:Nat},l[j]?=some none->((l.set j (some k)).filterMap id).Perm (k::l.filterMap id)
 | [],_,_,h=>by simp at h
 | x::l,0,k,h=>by
  simp at h
  subst h
  exact .refl _
 | x::l,j+1,k,h=>by
  have ih:=jOM (l:=l) (j:=j) (k:=k) (by simpa using h)
  cases x with
  | none=>exact ih
  | some y=>
   show (y::(l.set j (some k)).filterMap id).Perm (k::y::l.filterMap id)
   exact(ih.cons y).trans (.swap _ _ _)
theorem jOO:∀ {l:List (Option Nat)},(∀ x∈l,x≠none)->(l.filterMap id).length=l.length
 | [],_=>rfl
 | none::l,h=>absurd rfl (h _ ak)
 | some y::l,h=>by
  show (y::l.filterMap id).length=_
  rw[aG,aG,jOO fun x hx=>h x (ai _ hx)]
structure Lay (m:Nat)(o:Array (Option Nat))(k:Nat):Prop where
 sz:o.size=m+1
 pm:(own o).Perm (List.range k)
theorem Lay.step {m:Nat}(hm:Msk m){o:Array (Option Nat)}{k:Nat}(L:Lay m o k)(hk:k<=m)(h:Int):
  ∃ j,layClean.free m o (turns m) (bits h % (m+1)) (bits h)=some j/\Lay m (o.setIfInBounds j (some k)) (k+1):=by
 have ex:∃ j0,j0<=m/\emp o j0=true:=by
  apply bB
  intro hn
  have q:=jOO (l:=o.toList) fun x hx e=>by
   obtain⟨j,hj,ej⟩:=fk hx
   have hj':j<o.size:=by simpa using hj
   refine hn ⟨j,by rw[L.sz] at hj'; omega,?_⟩
   have e1:o[j]=none:=by rw[<- e,<- ej]; simp
   show (o.getD j (some 0)).isNone=true
   simp [Array.getD,hj',e1]
  have:=L.pm.length_eq
  rw[q] at this
  simp [L.sz] at this
  omega
 obtain⟨j0,hj0,e0⟩:=ex
 obtain⟨r,hr,er⟩:=jKK hm (i:=bits h % (m+1)) (p:=bits h) (by have:=jy (bits h) (show 0<m+1 by omega); omega) (jM5 h) hj0
 obtain⟨j,ej⟩:=jFR (m:=m) (o:=o) (fuel:=turns m) (k:=r) (by show r<m+15; omega) (by rw[er]; exact e0)
 refine⟨j,ej,by rw[Array.size_setIfInBounds]; exact L.sz,?_⟩
 have em:=jDS ej
 have hj:j<o.size:=by
  apply bB
  intro hn
  have em':(o.getD j (some 0)).isNone=true:=em
  simp [Array.getD,hn] at em'
 have hj2:o.toList[j]?=some none:=by
  have em':(o.getD j (some 0)).isNone=true:=em
  simp [Array.getD,hj] at em'
  simp [hj,em']
 show ((o.setIfInBounds j (some k)).toList.filterMap id).Perm _
 rw[fc]
 refine(jOM hj2).trans ((L.pm.cons k).trans ?_)
 rw[eR]
 exact(List.perm_append_singleton k _).symm
theorem jI1 {m:Nat}(hm:Msk m):∀ (hs:List Int) (o:Array (Option Nat)) (k:Nat),Lay m o k->k+hs.length<=m+1->
  ∃ o',hs.foldl (fun acc h=>(do
   let (owner,k) <- acc
   let j <- layClean.free m owner (turns m) (bits h % (m+1)) (bits h)
   pure (owner.setIfInBounds j (some k),k+1):Option (Array (Option Nat)×Nat))) (some (o,k))=some (o',k+hs.length)/\Lay m o' (k+hs.length)
 | [],o,k,L,_=>⟨o,rfl,L⟩
 | h::hs,o,k,L,hl=>by
  rw[aG] at hl
  obtain⟨j,ej,L'⟩:=L.step hm (by omega) h
  obtain⟨o',e,L2⟩:=jI1 hm hs _ _ L' (by omega)
  refine⟨o',?_,by rw[aG,show k+(hs.length+1)=k+1+hs.length from by omega]; exact L2⟩
  rw[i5,aG,show k+(hs.length+1)=k+1+hs.length from by omega,<- e]
  congr 1
  show (layClean.free m o (turns m) (bits h % (m+1)) (bits h)).bind _=_
  rw[ej]
  rfl
theorem jK4:∀ n:Nat,(List.replicate n (none:Option Nat)).filterMap id=[]
 | 0=>rfl
 | n+1=>jK4 n
theorem jLX {m:Nat}(hm:Msk m)(hs:Array Int)(hl:hs.size<=m):∃ o,layClean m hs=some o/\Lay m o hs.size:=by
 obtain⟨o,e,L⟩:=jI1 hm hs.toList (Array.replicate (m+1) none) 0 ⟨by simp,by show ((Array.replicate (m+1) none).toList.filterMap id).Perm _; rw[Array.toList_replicate,jK4]; exact .refl _⟩ (by simp; omega)
 simp only [dy,aL] at e L
 refine⟨o,?_,L⟩
 unfold layClean
 rw[<- Array.foldl_toList]
 refine(bR (Option.map Prod.fst) e).trans rfl
theorem jEF {t:SetTable}{h:Int}{p:Probe}{fuel:Nat}(e:t.slot p.j= .empty):probe.go t (fun _=>h+1) h (fuel+1) p=some (.empty p.j p.dummy):=by
 unfold probe.go
 rw[e]
theorem jLI {t:SetTable}(hd:t.dummies=#[]){h:Int}{p:Probe}{fuel:Nat}(e:t.slot p.j≠ .empty):probe.go t (fun _=>h+1) h (fuel+1) p=probe.go t (fun _=>h+1) h fuel (t.advance p):=by
 obtain⟨⟨i,ei⟩,_⟩:=jDI hd e
 conv=>lhs; unfold probe.go
 rw[ei]
 dsimp only
 rw[aj (by simp; omega)]
abbrev Fnd (r:Option Met):Prop:=∃ j d,r=some (.empty j d)
theorem jOK {t:SetTable}(hd:t.dummies=#[]){h:Int}{X:Nat} :∀ (c fuel:Nat) (p:Probe),p.more=c->X+c+1<=fuel->
  (∀ fuel' p',X<=fuel'->p'.i=(leap t.mask p.i p.perturb).1->p'.perturb=(leap t.mask p.i p.perturb).2->p'.j=p'.i->p'.more=runEnd t.mask p'.i - p'.i->Fnd (probe.go t (fun _=>h+1) h fuel' p'))->
  Fnd (probe.go t (fun _=>h+1) h fuel p)
 | c,0,p,_,hf,_=>by omega
 | 0,fuel+1,p,hc,hf,K=>by
  by_cases e:t.slot p.j= .empty
  ·exact⟨_,_,jEF e⟩
  ·rw[jLI hd e]
   have ea:t.advance p= { p with j:=(leap t.mask p.i p.perturb).1,more:=runEnd t.mask (leap t.mask p.i p.perturb).1 - (leap t.mask p.i p.perturb).1,i:=(leap t.mask p.i p.perturb).1,perturb:=(leap t.mask p.i p.perturb).2} :=by
    unfold advance
    rw[aj (by omega)]
   rw[ea]
   exact K fuel _ (by omega) rfl rfl rfl rfl
 | c+1,fuel+1,p,hc,hf,K=>by
  by_cases e:t.slot p.j= .empty
  ·exact⟨_,_,jEF e⟩
  ·rw[jLI hd e]
   have ea:t.advance p= { p with j:=p.j+1,more:=p.more - 1} :=by
    unfold advance
    rw[aq (by omega)]
   rw[ea]
   exact jOK hd c fuel _ (by show p.more - 1=c; omega) (by omega) fun fuel' p' h1 h2 h3 h4 h5=>K fuel' p' h1 h2 h3 h4 h5
theorem jLH {t:SetTable}(hd:t.dummies=#[]){h:Int} :∀ (k fuel:Nat) (p:Probe),p.j=p.i->p.more=runEnd t.mask p.i - p.i->10*k+1<=fuel->t.slot (lps t.mask k p.i p.perturb).1= .empty->
  Fnd (probe.go t (fun _=>h+1) h fuel p)
 | 0,fuel,p,hj,hmo,hf,e=>by
  obtain⟨f,rfl⟩:∃ f,fuel=f+1:=⟨fuel - 1,by omega⟩
  exact⟨_,_,jEF (by rw[hj]; exact e)⟩
 | k+1,fuel,p,hj,hmo,hf,e=>by
  refine jOK hd (X:=10*k+1) p.more fuel p rfl (by have:=jFA t.mask p.i; omega) fun fuel' p' h1 h2 h3 h4 h5=>?_
  refine jLH hd k fuel' p' h4 h5 h1 ?_
  rw[h2,h3]
  exact e
theorem jIF {t:SetTable}{j:Nat}(hd:t.dummies=#[])(h:j∉t.place.toList):t.slot j= .empty:=by
 apply bB
 intro e
 exact h (jDI hd e).2
theorem jEG {t:SetTable}(hm:Msk t.mask)(hd:t.dummies=#[])(hz:t.place.size<=t.mask)(h:Int):∃ q,t.freeSlot h=some q:=by
 have ex:∃ j0,j0<=t.mask/\j0∉t.place.toList:=by
  apply bB
  intro hn
  have sub:List.range (t.mask+1) ⊆ t.place.toList:=fun j hj=>by
   apply bB
   intro hj2
   exact hn ⟨j,by have:=cH.mp hj; omega,hj2⟩
  have:=List.Nodup.length_le_of_subset List.nodup_range sub
  simp at this
  omega
 obtain⟨j0,hj0,e0⟩:=ex
 obtain⟨r,hr,er⟩:=jKK hm (i:=bits h % (t.mask+1)) (p:=bits h) (by have:=jy (bits h) (show 0<t.mask+1 by omega); omega) (jM5 h) hj0
 obtain⟨j,d,e⟩:=jLH hd (h:=h) r (10*turns t.mask) (t.probeStart h) rfl rfl (by show 10*r+1<=10*(t.mask+15); omega) (by show t.slot (lps t.mask r (bits h % (t.mask+1)) (bits h)).1=_; rw[er]; exact jIF hd e0)
 refine⟨(d.getD j,d.isSome),?_⟩
 unfold SetTable.freeSlot
 rw[show t.probe (fun _=>h+1) h (t.probeStart h)=some (.empty j d) from e]
structure Tab (t:SetTable)(n:Nat)(led:Bool):Prop where
 ris:Ris t.place
 sz:t.place.size=n
 dm:t.dummies=#[]
 msk:Msk t.mask
 room:n*5<t.mask*3
 pl:t.plain=true
 ld:t.led=led
theorem Tab.fits {t:SetTable}{n:Nat}{led:Bool}(T:Tab t n led):t.fits n=true:=by
 have:=T.room
 unfold SetTable.fits fill
 simp [T.sz,T.dm]
 omega
theorem jJA (led:Bool):Tab (fresh 0 0 led) 0 led:=⟨List.Pairwise.nil,rfl,rfl,⟨.inl rfl⟩,by show 0*5<7*3; decide,rfl,rfl⟩
structure TabF (t:SetTable)(n:Nat)(led:Bool):Prop where
 ris:Ris t.place
 sz:t.place.size=n
 dm:t.dummies=#[]
 msk:Msk t.mask
 room:n*5<t.mask*3+5
 pl:t.plain=true
 ld:t.led=led
theorem TabF.fits {t:SetTable}{n:Nat}{led:Bool}(T:TabF t n led):t.fits n=true:=by
 have:=T.room
 obtain⟨q⟩:=T.msk
 unfold SetTable.fits fill
 simp [T.sz,T.dm]
 omega
theorem jIQ {t:SetTable}{n:Nat}{led:Bool}(T:Tab t n led)(es:Array (Int×Value))(he:es.size=n)(h:Int)(x:Value):
  TabF (layNew t es h x).2.1 (n+1) led/\(∃ p,(layNew t es h x).1.toList=es.toList.take p++(h,x)::es.toList.drop p)/\(layNew t es h x).2.2.1=false:=by
 have hr:=T.room
 obtain⟨⟨slot,d⟩,hf⟩:=jEG T.msk T.dm (by rw[T.sz]; omega) h
 have hdf:d=false:=by
  unfold SetTable.freeSlot at hf
  split at hf
  ·rename_i j dummy hp
   simp only [gd,Prod.mk.injEq] at hf
   rcases jHE T.dm _ _ _ (by unfold probeStart; rfl) (show probe.go t (fun _=>h+1) h (10*turns t.mask) (t.probeStart h)=some (.empty j dummy) from hp) with ⟨j',em,hs⟩ | ⟨_,_,_,em⟩
   ·cases em
    exact hf.2.symm
   ·cases em
  ·cases hf
 unfold layNew
 rw[hf]
 dsimp only [SetTable.put]
 have hnm:=jEH T.ris T.dm hf
 have T2:TabF { t with place:=insertAt t.place (below t.place slot) slot,dummies:=if has t.dummies slot then eraseAt t.dummies (below t.dummies slot) else t.dummies} (n+1) led:=by
  refine⟨jIG T.ris hnm,by rw[jBE,T.sz],?_,T.msk,by show (n+1)*5<t.mask*3+5; omega,T.pl,T.ld⟩
  rw[T.dm,jGQ]
  rfl
 refine⟨?_,⟨_,SS.toList_insertAt _ _ _⟩,hdf⟩
 unfold SetTable.orStandIn
 rw[jBE,he,T2.fits]
 exact T2
theorem jOL (o:Array (Option Nat)):∀ n,n<=o.size->(((List.range n).filterMap fun j=>(o.getD j none).map (Prod.mk j)).map (·.2))=(o.toList.take n).filterMap id
 | 0,_=>rfl
 | n+1,h=>by
  rw[eR,gx,bh,jOL o n (by omega)]
  have hn:n<o.toList.length:=by rw[aL]; omega
  rw[List.take_succ_eq_append_getElem hn,gx]
  congr 1
  have hn':n<o.size:=by omega
  have e:o.getD n none=o[n]:=by simp [Array.getD,hn']
  have e2:o.toList[n]=o[n]:=by simp
  rw[e2]
  simp only [cS,ki,e,id]
  cases o[n] with
  | none=>rfl
  | some y=>rfl
theorem jON (o:Array (Option Nat)):∀ n,(((List.range n).filterMap fun j=>(o.getD j none).map (Prod.mk j)).map (·.1)).Pairwise (· < ·)/\∀ x∈((List.range n).filterMap fun j=>(o.getD j none).map (Prod.mk j)).map (·.1),x<n
 | 0=>⟨.nil,fun x h=>by cases h⟩
 | n+1=>by
  obtain⟨h1,h2⟩:=jON o n
  rw[eR,gx,bh]
  have e:(([n].filterMap fun j=>(o.getD j none).map (Prod.mk j)).map (·.1))=[]\/(([n].filterMap fun j=>(o.getD j none).map (Prod.mk j)).map (·.1))=[n]:=by
   simp only [cS,ki]
   cases o.getD n none with
   | none=>exact .inl rfl
   | some y=>exact .inr rfl
  rcases e with e | e
  ·rw[e,bo]
   exact⟨h1,fun x hx=>bU (h2 x hx)⟩
  ·rw[e]
   refine⟨cK.mpr ⟨h1,iT _ _,fun a ha b hb=>?_⟩,fun x hx=>?_⟩
   ·rw[aC.mp hb]; exact h2 a ha
   ·rcases aU.mp hx with hx | hx
    ·exact bU (h2 x hx)
    ·rw[aC.mp hx]; omega
theorem jFB {t:SetTable}{n:Nat}{led:Bool}(T:TabF t n led)(es:Array (Int×Value))(he:es.size=n){m:Nat}(hs:sizeAbove (grown n)=m+1)(hm:Msk m)(hn:n*5<m*3):
  Tab (relayAll t es (grown n)).2.1 n led/\(relayAll t es (grown n)).1.toList.Perm es.toList:=by
 refine⟨?_,PySem.relayAll_perm t es _⟩
 obtain⟨o,eo,L⟩:=jLX hm (es.map (·.1)) (by simp [he]; omega)
 rw[size_map,he] at L
 unfold relayAll relaid laid
 rw[hs,show m+1 - 1=m from rfl,eo]
 dsimp only [Option.bind_eq_bind,Option.bind,pure,bind]
 generalize hv:((List.range (m+1)).filterMap fun j=>(o.getD j none).map (Prod.mk j))=live
 have s2:live.map (·.2)=own o:=by
  rw[<- hv,jOL o (m+1) (by rw[L.sz]; exact aE _),cx (by simp [L.sz])]
 have f2:=jON o (m+1)
 rw[hv] at f2
 have ln:live.length=n:=by
  have:=bR List.length s2
  rw[ah,L.pm.length_eq,bX] at this
  exact this
 have cv:coversAll (live.map (·.2)).toArray es.size=true:=by
  unfold coversAll
  rw[he]
  refine List.isPerm_iff.mpr ?_
  show (live.map (·.2)).Perm _
  rw[s2]
  exact L.pm
 have pr:((live.map (·.2)).toArray.filterMap (fun k=>es[k]?)).toList.Perm es.toList:=by
  rw[Array.toList_filterMap]
  show ((live.map (·.2)).filterMap _).Perm _
  rw[s2]
  refine(L.pm.filterMap _).trans ?_
  rw[<- he,PySem.filterMap_getElem?_range]
 have z:((live.map (·.2)).toArray.filterMap (fun k=>es[k]?)).size=n:=by
  rw[<- aL,pr.length_eq,aL,he]
 have T':Tab { mask:=m,place:=(live.map (·.1)).toArray,dummies:=#[],finger:=t.finger,led:=t.led,moves:=t.movedTo m,plain:=t.plain} n led:=
  ⟨f2.1,by simp [ln],rfl,hm,hn,T.pl,T.ld⟩
 rw[cv,z,T'.fits]
 exact T'
theorem jLF {t:SetTable}{n:Nat}{led:Bool}(T:TabF t n led)(hn:n<=300)(hf:t.tooFull=true):∃ m,sizeAbove (grown n)=m+1/\Msk m/\n*5<m*3:=by
 have hr:=T.room
 have hf':n*5 ≥ t.mask*3:=by
  unfold tooFull fill at hf
  simp [T.sz,T.dm] at hf
  omega
 obtain⟨q⟩:=T.msk
 rcases q with q | q | q | q
 ·rw[q] at hr hf'
  obtain rfl:n=5:=by omega
  exact⟨31,by decide,⟨.inr (.inl rfl)⟩,by decide⟩
 ·rw[q] at hr hf'
  obtain rfl:n=19:=by omega
  exact⟨127,by decide,⟨.inr (.inr (.inl rfl))⟩,by decide⟩
 ·rw[q] at hr hf'
  obtain rfl:n=77:=by omega
  exact⟨511,by decide,⟨.inr (.inr (.inr rfl))⟩,by decide⟩
 ·rw[q] at hr hf'
  omega
theorem jLG {t:SetTable}{n:Nat}{led:Bool}(T:TabF t n led)(hf:t.tooFull=false):Tab t n led:=by
 refine⟨T.ris,T.sz,T.dm,T.msk,?_,T.pl,T.ld⟩
 unfold tooFull fill at hf
 simp [T.sz,T.dm] at hf
 omega
end SB
end
section
namespace SB
open PySem
open SS (El ledW jAL jAQ jBX jCW jCJ paired_perm elems)
structure SetG (w:World)(h:Heap)(a:Addr)(ks:List Int):Prop where
 ex:∃ o es ep t,h.get? a=some o/\o.ExactSet/\o.data= .set es ep t/\Paired El es.toList ks/\Tab t es.size (ledW w)
 nd:ks.Nodup
 len:ks.length<=300
section
variable {prog:Program}{w:World}{A:Around}{E:Value->Shared->Prop}{s:Shared}{a:Addr}{ks:List Int}{k:Int}{tk:Tok}
theorem SetG.at {h h':Heap}(S:SetG w h a ks)(e:∀ o,h.get? a=some o->h'.get? a=some o):SetG w h' a ks:=by
 obtain⟨⟨o,es,ep,t,ho,r⟩,nd,len⟩:=S
 exact⟨⟨o,es,ep,t,e _ ho,r⟩,nd,len⟩
theorem jTB {Q:Bool->Shared->Prop}(S:SetG w s.heap a ks)(hl:ks.length+1<=300)
  (h:∀ b h' ks',Heap.SameBut a s.heap h'->SetG w h' a ks'->(∀ z,z∈ks'↔z=k\/z∈ks)->ks'.length<=ks.length+1->Q b { s with heap:=h'}):
  wpAny (model prog w) A (setAddHashed a (.int k tk) (hashInt k)) Q E s:=by
 obtain⟨o,es,ep,t,ho,hex,hd,hp,T⟩:=id S.ex
 have hn:es.size=ks.length:=by rw[<- aL]; exact iA hp
 have hf:=T.fits
 have hel:ElemsOf (intKind prog w) es.toList:=elems hp
 have hb:es.size<scanBound:=by unfold scanBound; omega
 have hi:∀ (j:Int) (t:Tok),Value.isInt k (.int j t)=true->j=k:=fun j t e=>by simpa [Value.isInt] using e
 unfold setAddHashed setAddHashedIn
 refine bI (aa (dn ho hd hf ?_))
 dsimp only
 rw[byScan_of (knd:=intKind prog w) rfl hb hel,aq rfl]
 unfold setAddByScan
 refine aa (aa (ck (aa ?_)))
 refine wpAny_setScan_of (knd:=intKind prog w) (k:=k) (by show Value.isInt k (.int k tk)=true; simp [Value.isInt]) ho hd hf hel ?_
 have es0:s= { s with heap:=s.heap} :=by cases s; rfl
 cases hr:List.findIdx? (fun e=>(intKind prog w).is k e.2) es.toList with
 | some j=>
  obtain⟨hj,hpj,_⟩:=List.findIdx?_eq_some_iff_getElem.mp hr
  obtain⟨k',hk',_,t',e'⟩:=jAL hp _ (db hj)
  have hkk:k'=k:=hi k' t' (by rw[<- e']; exact hpj)
  subst hkk
  refine ag (ag ?_)
  rw[es0]
  exact h false s.heap ks (Heap.SameBut.refl a s.heap) S (fun z=>⟨.inr,fun q=>q.elim (fun e=>e ▸ hk') id⟩) (by omega)
 | none=>
  have hnk:k∉ks:=fun hm=>by
   obtain⟨e,he,_,t',e'⟩:=jAQ hp k hm
   have q:=List.findIdx?_eq_none_iff.mp hr e he
   rw[e'] at q
   have q':Value.isInt k (.int k t')=false:=q
   simp [Value.isInt] at q'
  obtain⟨T1,⟨p,hp1⟩,hwd⟩:=jIQ T es rfl (hashInt k) (.int k tk)
  dsimp only
  show wpAny _ A (match layNew t es (hashInt k) (Value.int k tk) with | (es,t,wasDummy,gave)=>_) _ E s
  generalize layNew t es (hashInt k) (Value.int k tk)=L at T1 hp1 hwd ⊢
  obtain⟨es1,t1,wd,gv⟩:=L
  dsimp only at T1 hp1 hwd ⊢
  have hp2:Paired El es1.toList (ks.take p++k::ks.drop p):=by
   rw[hp1]
   exact jBX ⟨rfl,tk,rfl⟩ p hp
  have hz1:es1.size=es.size+1:=by
   rw[<- aL,hp1,(jCJ es.toList p (hashInt k,Value.int k tk)).length_eq]
   simp
  have hlen:(ks.take p++k::ks.drop p).length=ks.length+1:=(jCJ ks p k).length_eq
  have T1':TabF t1 es1.size (ledW w):=by rw[hz1]; exact T1
  have hzl:es1.size<=sizeLine:=by rw[hz1,show sizeLine=2 ^ 24 from rfl]; omega
  have hnd:(ks.take p++k::ks.drop p).Nodup:=(jCJ ks p k).nodup_iff.mpr (bK.mpr ⟨hnk,S.nd⟩)
  have hg:(s.heap.update a (Obj.putSet es1 t1)).get? a=some { o with data:= .set es1 (ep+1) t1} :=by
   have q:=bC (Obj.putSet es1 t1) ho (by rw[iU es1 t1 hd]; rfl)
   rw[iU es1 t1 hd] at q
   exact q
  refine aa (show wpAny _ A (match gv with | true=>rule "set.scan.the-table-gave-way" | false=>pure ()) _ E s from ?_)
  cases gv with
  | true=>
   refine ck ?_
   split
   all_goals
    refine aa (show wpAny _ A (pure true:Sem Bool) _ E s from ag ?_)
    simp only [iq]
    refine aa (dU ho hd ?_ hzl)
    rcases iF t1.tooFull with hfull | hfull
    ·rw[hfull,hwd,show (!false&&true)=true from rfl,aq rfl]
     obtain⟨m,e1,e2,e3⟩:=jLF T1' (by omega) hfull
     obtain⟨T2,pm2⟩:=jFB T1' es1 rfl e1 e2 e3
     generalize relayAll t1 es1 (SetTable.grown es1.size)=L2 at T2 pm2 ⊢
     obtain⟨es2,t2,gv2⟩:=L2
     dsimp only at T2 pm2 ⊢
     have hz2:es2.size=es1.size:=by rw[<- aL,pm2.length_eq,aL]
     obtain⟨ks2,hp3,pm3⟩:=paired_perm pm2 hp2
     have hg2:((s.heap.update a (Obj.putSet es1 t1)).update a (Obj.putSet es2 t2)).get? a=some { o with data:= .set es2 (ep+1+1) t2} :=by
      have q:=bC (Obj.putSet es2 t2) hg (by rw[iU es2 t2 rfl]; rfl)
      rw[iU es2 t2 rfl] at q
      exact q
     have fin:Q true { s with heap:=(s.heap.update a (Obj.putSet es1 t1)).update a (Obj.putSet es2 t2)} :=
      h true _ ks2 ((cC ..).trans (cC ..)) ⟨⟨_,es2,_,t2,hg2,hex,rfl,hp3,by rw[hz2]; exact T2⟩,pm3.nodup_iff.mpr hnd,by rw[pm3.length_eq]; omega⟩ (fun z=>by rw[pm3.mem_iff]; exact jCW ks p k z) (by rw[pm3.length_eq]; omega)
     refine aa (show wpAny _ A (match gv2 with | true=>rule "set.scan.the-table-gave-way" | false=>pure ()) _ E _ from ?_)
     cases gv2 with
     | true=>exact ck (aa (dU hg rfl (ag (ag fin)) (by rw[hz2]; exact hzl)))
     | false=>exact ag (aa (dU hg rfl (ag (ag fin)) (by rw[hz2]; exact hzl)))
    ·rw[hfull,ed,aj ao]
     exact ag (ag (h true _ _ (cC ..) ⟨⟨_,es1,ep+1,t1,hg,hex,rfl,hp2,jLG T1' hfull⟩,hnd,by omega⟩ (fun z=>jCW ks p k z) (by omega)))
  | false=>
   refine ag ?_
   split
   all_goals
    refine aa (show wpAny _ A (pure true:Sem Bool) _ E s from ag ?_)
    simp only [iq]
    refine aa (dU ho hd ?_ hzl)
    rcases iF t1.tooFull with hfull | hfull
    ·rw[hfull,hwd,show (!false&&true)=true from rfl,aq rfl]
     obtain⟨m,e1,e2,e3⟩:=jLF T1' (by omega) hfull
     obtain⟨T2,pm2⟩:=jFB T1' es1 rfl e1 e2 e3
     generalize relayAll t1 es1 (SetTable.grown es1.size)=L2 at T2 pm2 ⊢
     obtain⟨es2,t2,gv2⟩:=L2
     dsimp only at T2 pm2 ⊢
     have hz2:es2.size=es1.size:=by rw[<- aL,pm2.length_eq,aL]
     obtain⟨ks2,hp3,pm3⟩:=paired_perm pm2 hp2
     have hg2:((s.heap.update a (Obj.putSet es1 t1)).update a (Obj.putSet es2 t2)).get? a=some { o with data:= .set es2 (ep+1+1) t2} :=by
      have q:=bC (Obj.putSet es2 t2) hg (by rw[iU es2 t2 rfl]; rfl)
      rw[iU es2 t2 rfl] at q
      exact q
     have fin:Q true { s with heap:=(s.heap.update a (Obj.putSet es1 t1)).update a (Obj.putSet es2 t2)} :=
      h true _ ks2 ((cC ..).trans (cC ..)) ⟨⟨_,es2,_,t2,hg2,hex,rfl,hp3,by rw[hz2]; exact T2⟩,pm3.nodup_iff.mpr hnd,by rw[pm3.length_eq]; omega⟩ (fun z=>by rw[pm3.mem_iff]; exact jCW ks p k z) (by rw[pm3.length_eq]; omega)
     refine aa (show wpAny _ A (match gv2 with | true=>rule "set.scan.the-table-gave-way" | false=>pure ()) _ E _ from ?_)
     cases gv2 with
     | true=>exact ck (aa (dU hg rfl (ag (ag fin)) (by rw[hz2]; exact hzl)))
     | false=>exact ag (aa (dU hg rfl (ag (ag fin)) (by rw[hz2]; exact hzl)))
    ·rw[hfull,ed,aj ao]
     exact ag (ag (h true _ _ (cC ..) ⟨⟨_,es1,ep+1,t1,hg,hex,rfl,hp2,jLG T1' hfull⟩,hnd,by omega⟩ (fun z=>jCW ks p k z) (by omega)))
end
open SS (El ledW jAF jA5)
section
variable {prog:Program}{w:World}{A:Around}{R:Result->Shared->Prop}{I:Addr}{fp wr:List Addr}{n:Nat}{P:Nat->Value->Prop}{St:Nat->Shared->Prop}
theorem jME (W:WalksS prog w A.in1 I fp wr (fun a b=>b=a) n P St)(S:Addr)(hSf:S∉fp)(val:Nat->Int)(hval:∀ i v,P i v->∃ t,v= .int (val i) t)(hn:n<=300):
  ∀ (k i:Nat) (s:Shared) (ks:List Int),n - i=k->i<=n->St i s->SetG w s.heap S ks->ks.length<=i->(∀ z,z∈ks↔∃ j,j<i/\val j=z)->
   (∀ s' ks',Moved (S::wr) (fun a b=>b=a) s s'->SetG w s'.heap S ks'->(∀ z,z∈ks'↔∃ j,j<n/\val j=z)->R (.ok (.ret .none)) s')->
   codeAny (model prog w) A (.builtin "set.update.loop" ⟨[.ref S, .ref I],[]⟩) R s:=by
 have hSw:S∉wr:=fun h=>hSf (W.sub _ h)
 have sub1:∀ b∈wr,b∈S::wr:=fun b hb=>ai _ hb
 intro k
 induction k with
 | zero=>
  intro i s ks hk hi hst hS hl hm hR
  obtain rfl:i=n:=by omega
  refine cr jAF ?_
  rw[bV jA5 _]
  show wpAny _ A.in1 (pyNext (.ref I) >>= _) _ _ s
  refine aa (W.done s _ _ hst fun s' mv=>?_)
  show wpAny _ A.in1 (ret Value.none) _ _ s'
  exact ag (hR s' ks (mv.mono sub1) (hS.at fun o e=>mv.heap S o hSw e) hm)
 | succ k ih=>
  intro i s ks hk hi hst hS hl hm hR
  have hlt:i<n:=by omega
  refine cr jAF ?_
  rw[bV jA5 _]
  show wpAny _ A.in1 (pyNext (.ref I) >>= _) _ _ s
  refine aa (W.item i s _ _ hlt hst fun v s' hP hst' mv=>?_)
  obtain⟨t,rfl⟩:=hval i v hP
  have hS':=hS.at (h':=s'.heap) fun o e=>mv.heap S o hSw e
  show wpAny _ A.in1 (holding [Value.int (val i) t] (setAdd S (.int (val i) t)) >>= _) _ _ s'
  refine aa (bI ?_)
  unfold setAdd
  refine bI (aa (wpAny_pyHash_int ?_))
  refine jTB (s:= { s' with toks:=s'.toks+1}) hS' (by omega) fun b h' ks' sb hS2 hm2 hl2=>?_
  refine ag ⟨dz jA5 _,ih (i+1) _ ks' (by omega) hlt (W.frame _ s' _ _ hst' (jp _) fun b hb o e=>?_) hS2 (by omega) (fun z=>?_) fun s'' ks'' mv2 hS3 hm3=>?_⟩
  ·rw[sb.2 b (fun h:b=S=>hSf (by rw[<- h]; exact hb))]
   exact e
  ·rw[hm2,hm]
   constructor
   ·rintro (h | ⟨j,hj,e⟩)
    ·exact⟨i,by omega,h.symm⟩
    ·exact⟨j,by omega,e⟩
   ·rintro ⟨j,hj,e⟩
    by_cases hji:j=i
    ·exact .inl (by rw[<- e,hji])
    ·exact .inr ⟨j,by omega,e⟩
  ·refine hR s'' ks'' (Moved.trans W.gtrans ((mv.mono sub1).then_heap (jp _) fun b o hb e=>?_) mv2) hS3 hm3
   rw[sb.2 b (fun h:b=S=>hb (by rw[h]; exact ak))]
   exact e
end
open SS (El ledW jKC)
section
variable {prog:Program}{w:World}{A:Around}{E:Value->Shared->Prop}{s:Shared}
set_option maxHeartbeats 3200000 in
theorem set_of_list {l:Addr}{items:Array Value}{ns:List Int}{Q:Value->Shared->Prop}(hh:A.handled=none)(hl:s.heap.IsList l items)(hi:PyProof.Rows.IntsAre items.toList ns)
  (hn:items.size<=300)
  (h:∀ (h':Heap) (tk:Nat) (ks:List Int),SetG w h' s.heap.objs.size ks->(∀ z,z∈ks↔z∈ns)->(∀ b o,s.heap.get? b=some o->h'.get? b=some o)->Q (.ref s.heap.objs.size) { s with heap:=h',toks:=tk}):
  wpAny (model prog w) A (call (.type "set") [.ref l]) Q E s:=by
 obtain⟨c,tl,hmro⟩:=F.called_set.mro
 have hmade:=F.called_set.made
 have hsub:=F.called_set.sub
 have g1:=F.called_set.notType
 have g2:=F.called_set.canCreate
 have g3:=F.typeCall_set_1 (.ref l)
 refine fE (codeAny_of_tree (show wpAny _ _ (callAny (.type "set") _) _ _ _ from ?_))
 refine ag ⟨Code.quiet_builtin _ (by decide+kernel),cr F.entry_type_call ?_⟩
 rw[Around.under_plain (weight_type_call_type "set" [.ref l] []) rfl]
 repeat (any_goals (first | assumption | wp_step))
 have hlen:items.size=ns.length:=by rw[<- aL]; exact hi.length
 refine dv (jKC (.ref l) (E:=E) (Q:=fun obj z=>obj= .ref s.heap.objs.size/\z= { s with heap:=s.heap.push { cls:= .type "set",dict:=none,data:= .set #[] 0 (.fresh 0 0 (ledW w))}}) ⟨rfl,rfl⟩) fun r z hr=>?_
 cases r with
 | error e=>exact hr
 | ok fl=>
  cases fl with
  | ret obj=>
   obtain⟨rfl,rfl⟩:=hr
   generalize hO:({ cls:= .type "set",dict:=none,data:= .set #[] 0 (.fresh 0 0 (ledW w))} :Obj)=oS
   have hS:(s.heap.push oS).get? s.heap.objs.size=some oS:=aA _ (by rw[<- hO]; rfl)
   have hT:Shared.TypeIs { s with heap:=s.heap.push oS} (.ref s.heap.objs.size) "set" :=⟨_,hS,by rw[<- hO]⟩
   have hli:=F.called_set.init.lookup
   have hbi:=F.called_set.init.bind (.ref s.heap.objs.size)
   repeat (any_goals (first | assumption | wp_step))
   refine dv (gH (R:=wants (fun r z2=>r= .none/\∃ h' tk ks,z2= { s with heap:=h',toks:=tk} /\SetG w h' s.heap.objs.size ks/\(∀ z,z∈ks↔z∈ns)/\(∀ b o,s.heap.get? b=some o->h'.get? b=some o)) E)
    F.called_set.init.plain F.entry_set_init (check_set_init_1 hT ?_)) fun r2 z2 hr2=>?_
   ·obtain⟨ol,hol,hcl,nl,hdl⟩:=hl
    obtain⟨ocls,odict,odata,oslots⟩:=ol
    simp only at hcl hdl
    subst hcl; subst hdl
    have hol':(s.heap.push oS).get? l=some { cls:= .type "list",dict:=odict,data:= .seq items nl,slots:=oslots} :=ae _ hol
    have y1:=F.sub_list_set
    have y2:=F.sub_list_frozenset
    have y3:(Value.type "list" ==Value.type "dict")=false:=by decide
    have hl1:(s.heap.push oS).IsList l items:=⟨_,hol',rfl,nl,rfl⟩
    subst hO
    unfold Builtin.«set.__init__» noKeywords Builtin.Frozenset.updateFrom
    generalize hPI:pyIter=PI
    wp_walk
    subst hPI
    refine dL hl1 (aa (jm ?_))
    have hlS:l<s.heap.objs.size:=ay hol
    have hz1:(s.heap.push { cls:= .type "set",dict:=none,data:= .set #[] 0 (.fresh 0 0 (ledW w))}).objs.size=s.heap.objs.size+1:=bS _ _
    have nI:l≠(s.heap.push { cls:= .type "set",dict:=none,data:= .set #[] 0 (.fresh 0 0 (ledW w))}).objs.size:=by
     rw[hz1]
     exact aV (bU hlS)
    have nS:s.heap.objs.size∉ [(s.heap.push { cls:= .type "set",dict:=none,data:= .set #[] 0 (.fresh 0 0 (ledW w))}).objs.size,l]:=by
     rw[hz1]
     simp only [az,aW,cz,ko]
     exact⟨aV (iO _),cN hlS⟩
    have hget:((s.heap.push { cls:= .type "set",dict:=none,data:= .set #[] 0 (.fresh 0 0 (ledW w))}).push { cls:= .type "list_iterator",data:= .fields #[.ref l, .int 0 0]}).get? s.heap.objs.size
      =some { cls:= .type "set",dict:=none,data:= .set #[] 0 (.fresh 0 0 (ledW w))} :=ae _ hS
    refine jME ((jz (by simp [hh]) _ l nI items).toS) s.heap.objs.size nS (fun i=>ns.getD i 0) (fun i v q=>PyProof.Rows.IntsAre.int_at hi i v (by rw[bJ]; exact q))
     hn (items.size - 0) 0 _ [] rfl (bG _) ⟨⟨_,aA _ rfl,rfl,rfl⟩,hl1.push _⟩ ⟨⟨_,#[],0,_,hget,⟨rfl,rfl,rfl⟩,rfl, .nil,jJA _⟩,gm,bG _⟩ (aE _) (fun z=>⟨fun q=>by(cases q),fun ⟨j,q,_⟩=>absurd q (eN _)⟩) ?_
    ·intro s' ks mv S' hm
     obtain⟨h',g',d',tk',os'⟩:=s'
     have e1:g'=s.gens:=mv.gens
     have e2:d'=s.drawn:=mv.drawn
     have e3:os'=s.os:=mv.os
     subst e1; subst e2; subst e3
     refine ag (ag ⟨rfl,h',tk',ks,rfl,S',fun z=>?_,fun b o e=>?_⟩)
     ·rw[hm]
      constructor
      ·rintro ⟨j,hj,e⟩
       have hj':j<ns.length:=by rw[<- hlen]; exact hj
       rw[<- e]
       simp [List.getD,hj']
      ·intro hz
       obtain⟨j,hj,e⟩:=fk hz
       exact⟨j,by rw[hlen]; exact hj,by simp [List.getD,hj,e]⟩
     ·have hb:=ay e
      refine mv.heap b o ?_ (ae _ (ae _ e))
      rw[hz1]
      simp only [az,aW,cz,ko]
      exact⟨aV hb,aV (bU hb)⟩
   ·cases r2 with
    | error e=>exact hr2
    | ok fl2=>
     cases fl2 with
     | ret r=>
      obtain⟨rfl,h',tk,ks,rfl,hS',hm,hk⟩:=hr2
      repeat (any_goals (first | assumption | wp_step))
      exact h _ _ _ hS' hm hk
     | _=>exact hr2.elim
  | _=>exact hr.elim
end
open SS (El ledW byTxt IsSI y6 told told_len told_perm jCC jJN slot_si_next jAP jAO jB6 jBN jAT jCD jBP jCY)
theorem Tab.line {t:SetTable}{n:Nat}{led:Bool}(T:Tab t n led):n<=306:=by
 have:=T.room
 obtain⟨q⟩:=T.msk
 omega
section
variable {prog:Program}{w:World}{A:Around}{E:Value->Shared->Prop}{s:Shared}{a I:Addr}{o:Obj}{es:Array (Int×Value)}{ep:Nat}{t:SetTable}
theorem jKA {i:Nat}{Q:Option (Value×Nat)->Shared->Prop}(ho:s.heap.get? a=some o)(hd:o.data= .set es ep t)(T:Tab t es.size (ledW w))(hi:i<=es.size)
  (h:Q ((told w a ep es)[i]?.map fun v=>(v,y6 w t (i+1))) s):wpAny (model prog w) A (setNext a (y6 w t i) i ep) Q E s:=by
 unfold setNext
 refine aa (dn ho hd T.fits ?_)
 dsimp only
 unfold setsByText
 refine aa (aa (fg (ag ?_)))
 show wpAny _ A (if byTxt w=true then _ else _) Q E s
 have hl:=told_len w a ep es
 by_cases hb:byTxt w=true
 ·rw[aq hb,aj (by simp)]
  unfold setWalk
  refine aa (aa (dn ho hd T.fits ?_))
  dsimp only
  unfold setsByText
  refine aa (aa (fg (ag ?_)))
  show wpAny _ A (if byTxt w=true then _ else _) _ E s
  rw[aq hb]
  refine aa (fg (ag (ag ?_)))
  have e:(told w a ep es)[i]?.map (fun v=>(v,y6 w t (i+1)))=(pickOrder (w.params.setOrder a ep) es)[i]?.map (fun e=>(e.snd,y6 w t i)):=by
   unfold told y6
   rw[aq hb,aq hb,aq hb,aP,bJ,Option.map_map]
   rfl
  rw[e] at h
  exact h
 ·rw[aj hb]
  have hb':byTxt w=false:=by simpa using hb
  have hld:t.led=true:=by rw[T.ld]; show (!byTxt w)=true; rw[hb']; rfl
  show wpAny _ A (if (!t.plain&&decide (es.size>1))=true then _ else _) Q E s
  rw[T.pl,jr,fY,aj ao]
  refine aa ?_
  show wpAny _ A (if (!t.led&&!es.isEmpty)=true then _ else pure ()) _ E s
  rw[hld,jr,fY,aj ao]
  refine ag (ag ?_)
  have eb:SetTable.below t.place (y6 w t i)=i:=by
   unfold y6
   rw[aj hb]
   exact jCC T.ris (by rw[T.sz]; exact hi)
  rw[eb]
  have et:(told w a ep es)[i]?=es[i]?.map (·.2):=by
   unfold told
   rw[aj hb,aP,bJ]
  rw[et] at h
  by_cases hlt:i<es.size
  ·have h1:es[i]?=some es[i]:=by simp [hlt]
   have hlt2:i<t.place.size:=by rw[T.sz]; exact hlt
   have h2:t.place[i]?=some t.place[i]:=by simp [hlt2]
   have h3:y6 w t (i+1)=t.place[i]+1:=by
    unfold y6 SS.slotAt
    rw[aj hb]
    simp [Array.getD,hlt2]
   rw[h1,h3] at h
   rw[h1,h2]
   exact h
  ·have h1:es[i]?=none:=by simp; omega
   rw[h1] at h
   rw[h1]
   exact h
theorem jF7 {i:Nat}{v:Value}{Q:Option Value->Shared->Prop}(ho:s.heap.get? a=some o)(hd:o.data= .set es ep t)(T:Tab t es.size (ledW w))
  (hit:IsSI s.heap I (y6 w t i) i a es.size ep) (hv:(told w a ep es)[i]?=some v)
  (hQ:∀ h',IsSI h' I (y6 w t (i+1)) (i+1) a es.size ep->Heap.SameBut I s.heap h'->Q (some v) { s with heap:=h'}):wpAny (model prog w) A (pyNext (.ref I)) Q E s:=by
 have hT:s.TypeIs (.ref I) "set_iterator" :=⟨_,hit,rfl⟩
 have hi:i<es.size:=by
  rw[<- told_len w a ep es]
  exact(ar.mp hv).1
 unfold pyNext
 refine aa (df (bY (name:=Str.ofString "__next__") hT slot_si_next (bQ slot_si_next hT jAO ?_ (jAT _))))
 unfold Builtin.«set_iterator.__next__»
 refine aa (m:=slotArgs "__next__" 0 _) (ag ?_)
 dsimp only
 unfold fieldsOf
 refine aa (aa (gW hit ?_))
 refine ag ?_
 dsimp only [rawInt]
 unfold setEntries
 refine aa (aa (dn ho hd T.fits (ag ?_)))
 rw[aj (by simp)]
 simp only [aZ]
 refine aa (jKA ho hd T (cM hi) ?_)
 rw[hv]
 dsimp only [Option.map]
 refine aa (bE hit (by simp) fun h1 hit1 sb1=>?_)
 refine aa (bE hit1 (by simp) fun h2 hit2 sb2=>?_)
 refine ag ⟨v,rfl,ag (hQ h2 ?_ (sb1.trans sb2))⟩
 show h2.get? I=_
 rw[hit2]
 simp [rawInt]
theorem jGD {Q:Option Value->Shared->Prop}(hh:A.handled=none)(ho:s.heap.get? a=some o)(hd:o.data= .set es ep t)(T:Tab t es.size (ledW w))
  (hit:IsSI s.heap I (y6 w t es.size) es.size a es.size ep)
  (hQ:∀ h',Heap.ExtBut I s.heap h'->Q none { s with heap:=h'}):wpAny (model prog w) A (pyNext (.ref I)) Q E s:=by
 have hT:s.TypeIs (.ref I) "set_iterator" :=⟨_,hit,rfl⟩
 unfold pyNext
 refine aa (df (bY (name:=Str.ofString "__next__") hT slot_si_next (bQ slot_si_next hT jAO ?_ (jAT _))))
 unfold Builtin.«set_iterator.__next__»
 refine aa (m:=slotArgs "__next__" 0 _) (ag ?_)
 dsimp only
 unfold fieldsOf
 refine aa (aa (gW hit ?_))
 refine ag ?_
 dsimp only [rawInt]
 unfold setEntries
 refine aa (aa (dn ho hd T.fits (ag ?_)))
 rw[aj (by simp)]
 simp only [aZ]
 refine aa (jKA ho hd T (aE _) ?_)
 rw[bw (by rw[told_len]; exact aE _)]
 dsimp only [Option.map]
 refine aa (bE hit (by simp) fun h1 hit1 sb1=>?_)
 refine aa ?_
 simp only [newExc,newTuple]
 refine aa (cf ?_ (by size_fits))
 refine aa (m:=firstArgMember _ _) (im (a:=Value.none) (by first | rfl | (simp only [firstArgMember]; rfl)) ?_)
 refine cf ?_ (by size_fits)
 simp only [raiseNew]
 refine aa (wpAny_handled ?_)
 rw[show A.in1.handled=none from hh]
 refine aa (ag (wpAny_throw ?_))
 refine aa (gy (T:= "StopIteration") (b:=true) ⟨_,aA _ rfl,rfl⟩ jk ?_)
 exact ag (hQ _ ((sb1.extBut.push _).push _))
theorem jMJ {Q:Value->Shared->Prop}(hx:o.ExactSet)(ho:s.heap.get? a=some o)(hd:o.data= .set es ep t)(T:Tab t es.size (ledW w))
  (hQ:∀ h',h'.get? s.heap.objs.size=some { cls:= .type "set_iterator",dict:=none,data:= .fields #[rawInt (y6 w t 0),rawInt 0, .ref a,rawInt es.size,rawInt ep],slots:=#[]} ->(∀ b u,s.heap.get? b=some u->h'.get? b=some u)->
   h'.objs.size=s.heap.objs.size+1->Q (.ref s.heap.objs.size) { s with heap:=h'}):wpAny (model prog w) A (pyIter (.ref a)) Q E s:=by
 have hT:s.TypeIs (.ref a) "set" :=⟨o,ho,hx.1⟩
 refine io hT jf (bQ jf hT jB6 ?_ (jBP _))
 unfold Builtin.«frozenset.__iter__»
 refine aa (show wpAny _ _ (pure a:Sem Addr) _ _ s from ag ?_)
 unfold Builtin.Frozenset.sizeOf setEntries
 refine aa (aa (aa (dn ho hd T.fits (ag (ag ?_)))))
 dsimp only
 unfold setDrawn
 refine aa (aa (dn ho hd T.fits ?_))
 dsimp only
 unfold setsByText
 refine aa (aa (fg (ag (ag ?_))))
 show wpAny _ _ (if (!byTxt w&&(!t.plain&&decide (es.size>1)))=true then _ else _) _ _ s
 rw[T.pl,jr,fY,ed,aj ao]
 refine aa (ag ?_)
 refine aa (wpAny_setEpoch_of ho hd T.fits ?_)
 refine aa (cf (ag ⟨_,rfl,"set_iterator",_,⟨_,aA _ rfl,rfl⟩,slot_si_next.lookup,hQ _ ?_ (fun b u e=>ae _ e) (bS _ _)⟩) (by size_fits))
 have e0:y6 w t 0=0:=by unfold y6 SS.slotAt; split <;> rfl
 rw[e0]
 exact aA _ rfl
theorem jJ4 (hh:A.handled=none)(hne:a≠I)(hd:o.data= .set es ep t)(T:Tab t es.size (ledW w)):
  Walks prog w A I [I,a] [I] es.size (fun i v=>(told w a ep es)[i]?=some v) (fun i h=>IsSI h I (y6 w t i) i a es.size ep/\h.get? a=some o) where
 sub:=fun b hb=>by simp at hb; simp [hb]
 frame:=fun _ _ _ st hk=>⟨hk I (by simp) _ st.1,hk a (by simp) _ st.2⟩
 item:=fun i s Q E hi st hQ=>by
  obtain⟨v,hv⟩:∃ v,(told w a ep es)[i]?=some v:=⟨_,aB (by rw[told_len]; exact hi)⟩
  exact jF7 st.2 hd T st.1 hv fun h' hit' sb=>hQ v h' s.toks hv ⟨hit',(sb.2 a hne).trans st.2⟩ fun b o hb e=>(sb.2 b (fun z=>hb (by simp [z]))).trans e
 done:=fun s Q E st hQ=>jGD hh st.2 hd T st.1 fun h' eb=>hQ h' s.toks fun b o hb e=>eb b o (fun z=>hb (by simp [z])) e
 self:=fun _ _ _ _ st hQ=>jJN st.1 hQ
end
open SS (El ledW told told_len told_perm jHY)
section
variable {prog:Program}{w:World}{A:Around}{E:Value->Shared->Prop}{s:Shared}{a:Addr}{o:Obj}{es:Array (Int×Value)}{ep:Nat}{t:SetTable}
theorem collect_set {Q:List Value->Shared->Prop}(hh:A.handled=none)(hx:o.ExactSet)(ho:s.heap.get? a=some o)(hd:o.data= .set es ep t)(T:Tab t es.size (ledW w))
  (hQ:∀ s',(∀ b u,s.heap.get? b=some u->s'.heap.get? b=some u)->s'.gens=s.gens->s'.drawn=s.drawn->s'.os=s.os->s.heap.objs.size<s'.heap.objs.size->Q (told w a ep es) s'):wpAny (model prog w) A (collect (.ref a)) Q E s:=by
 have ha:a<s.heap.objs.size:=ay ho
 have hSa:s.heap.objs.size≠a:=cN ha
 unfold collect
 refine aa (jm (cr PySem.F.entry_proto_collect ?_))
 rw[bV gR _]
 show wpAny _ A.in1 (newList [] >>= fun l=>again (.builtin "list.__iadd__" ⟨[l, .ref a],[]⟩)) _ _ s
 refine aa (cf (ag ⟨dz eg _,cr PySem.F.entry_list_iadd ?_⟩))
 rw[bV eg _]
 generalize hE:({ s with heap:=s.heap.push { cls:= .type "list",dict:=none,data:= .seq ([]:List Value).toArray}} :Shared)=s1
 have ho1:s1.heap.get? a=some o:=by rw[<- hE]; exact ae _ ho
 have hL1:s1.heap.get? s.heap.objs.size=some { cls:= .type "list",dict:=none,data:= .seq ([]:List Value).toArray} :=by rw[<- hE]; exact aA _ rfl
 have hz1:s1.heap.objs.size=s.heap.objs.size+1:=by rw[<- hE]; exact bS _ _
 have hT1:s1.TypeIs (.ref a) "set" :=⟨o,ho1,hx.1⟩
 show wpAny _ A.in1 (Builtin.List.listExtendWith (.ref s.heap.objs.size) (.ref a) (.ref s.heap.objs.size)) _ _ _
 unfold Builtin.List.listExtendWith
 refine aa (wpAny_typeOf hT1 ?_)
 have q1:Builtin.List.listSameRef (.ref s.heap.objs.size) (.ref a)=false:=by simp [Builtin.List.listSameRef,hSa]
 rw[aj (by rw[q1]; decide)]
 refine aa (jMJ hx ho1 hd T fun h2 hI2 k2 z2=>?_)
 refine aa (bI ?_)
 have ho2:h2.get? a=some o:=k2 _ _ ho1
 have hT2:Shared.TypeIs { s1 with heap:=h2} (.ref a) "set" :=⟨o,ho2,hx.1⟩
 have hL2:=k2 _ _ hL1
 refine jHY hT2 ?_
 rw[aq (by decide+kernel)]
 refine aa (ck ?_)
 have hne:s.heap.objs.size≠s1.heap.objs.size:=by omega
 refine aa ?_
 show wpAny _ A.in1 (updateSeq s.heap.objs.size (·.push .none) >>= fun _=>updateSeq s.heap.objs.size (·.pop)) _ _ _
 refine aa (fz hL2 rfl ?_)
 have hL3:=bC (Obj.mapSeq (·.push Value.none)) hL2 rfl
 refine fz hL3 rfl ?_
 have hL4:=bC (Obj.mapSeq (·.pop)) hL3 rfl
 have oth:∀ b u,b≠s.heap.objs.size->h2.get? b=some u->((h2.update s.heap.objs.size (Obj.mapSeq (·.push Value.none))).update s.heap.objs.size (Obj.mapSeq (·.pop))).get? b=some u:=
  fun b u hb e=>(bu _ _ (cF hb)).trans ((bu _ _ (cF hb)).trans e)
 have W:=(jJ4 (prog:=prog) (A:=A.in1) (a:=a) (I:=s1.heap.objs.size) hh (aV (show a<s1.heap.objs.size by rw[hz1]; exact bU ha)) hd T).toS
 have z24:es.size<=sizeLine:=by have:=T.line; rw[show sizeLine=2 ^ 24 from rfl]; omega
 refine ag ⟨dz PySem.F.plain_extend_loop _,codeAny_extend_loopS W z24 s.heap.objs.size (by simp [hne,hSa]) _ es.size 0 _ _ _ rfl (bG _) ⟨oth _ _ (cF hne) hI2,oth _ _ (cF hSa) ho2⟩ hL4 (ItemsOf.nil _) fun s' acc' c' hm hS' hacc=>?_⟩
 show wpAny _ A (load s.heap.objs.size >>= _) _ _ s'
 refine aa (gW hS' ?_)
 have eacc:acc'.toList=told w a ep es:=by
  apply iw
  intro i
  by_cases hi:i<es.size
  ·have hi':i<acc'.size:=by rw[hacc.1]; exact hi
   have:=hacc.2 i acc'[i] (by simp [hi'])
   rw[this]
   simp [hi']
  ·rw[bw (by rw[aL,hacc.1]; omega),bw (by rw[told_len]; omega)]
 refine ag ?_
 rw[eacc]
 refine hQ s' (fun b u e=>?_) ?_ ?_ ?_ (ay hS')
 ·have hb:b≠s.heap.objs.size:=aV (ay e)
  have hb1:b≠s1.heap.objs.size:=aV (show b<s1.heap.objs.size by rw[hz1]; exact bU (ay e))
  exact hm.heap b u (by simp [hb,hb1]) (oth b u hb (k2 b u (by rw[<- hE]; exact ae _ e)))
 ·have:=hm.gens; rw[<- hE] at this; exact this
 ·have:=hm.drawn; rw[<- hE] at this; exact this
 ·have:=hm.os; rw[<- hE] at this; exact this
end
end SB
end
section
namespace L2
open PySem PySem.Spec PyProof.Rows
section
variable {prog:Program}{w:World}{A:Around}{E:Value->Shared->Prop}{s:Shared}{d:Addr}{kvs:List (Key×Value)}
end
section
variable {X:Cx}
end
section
variable {prog:Program}{w:World}{A:Around}{E:Value->Shared->Prop}{s:Shared}{a:Addr}
theorem jGC {Q:Value->Shared->Prop}{ks:List Int}(hh:A.handled=none)(S:SB.SetG w s.heap a ks)
  (h:∀ (s':Shared) (l:Addr) (vs:List Value) (ns:List Int) (e:Nat),s.heap.objs.size<=l->(∀ b u,s.heap.get? b=some u->s'.heap.get? b=some u)->s'.gens=s.gens->s'.drawn=s.drawn->s'.os=s.os->
   s'.heap.get? l=some { cls:= .type "list",data:= .seq vs.toArray e} ->IntsAre vs ns->ns.Perm ks->ns.Pairwise (· <= ·)->Q (.ref l) s'):
  wpAny (model prog w) A (call (.builtin "sorted") [.ref a]) Q E s:=by
 obtain⟨o,es,ep,t,ho,hex,hd,hp,T⟩:=S.ex
 have hn:=T.line
 refine ig kind_sorted plain_sorted entry_sorted (args_sorted1 _) ?_
 unfold Builtin.«sorted»
 refine aa (m:=checkCount "sorted" 1 1 _) (ag ?_)
 refine aa (SB.collect_set (A:=A.in1) hh hex ho hd T fun s1 k1 g1 d1 o1 z1=>?_)
 have hl:(SS.told w a ep es).length<=sizeLine:=by rw[SS.told_len,show sizeLine=2 ^ 24 from rfl]; omega
 refine aa (iC ?_ hl)
 obtain⟨ks1,hp1,pm1⟩:=SS.paired_perm (SS.told_perm w a ep es) (SS.paired_map hp)
 have hI:=SS.ints_of hp1
 have hL:(s1.heap.push (seqObj "list" (SS.told w a ep es).toArray 0)).get? s1.heap.objs.size=some (seqObj "list" (SS.told w a ep es).toArray 0):=aA _ rfl
 show wpAny _ _ _ _ _ { s1 with heap:=s1.heap.push (seqObj "list" (SS.told w a ep es).toArray 0)}
 refine aa (bI (bQ slot_list_sort ⟨_,hL,rfl⟩ entry_list_sort (by
  rw[TM.plain_rev]
  exact TM.sort_rev_any (s:= { s1 with heap:=s1.heap.push (seqObj "list" (SS.told w a ep es).toArray 0)}) (b:=false) hL hI hl fun out ns' a1 a2 a3=>⟨_,rfl,ag ⟨_,rfl,by
   obtain⟨e,he⟩:=sortedHeap_at (out:=out) hL
   refine h { s1 with heap:=sortedHeap (s1.heap.push (seqObj "list" (SS.told w a ep es).toArray 0)) s1.heap.objs.size (SS.told w a ep es) out} s1.heap.objs.size out.toList ns' e (cM z1) (fun b u q=>?_) g1 d1 o1 (by rw[gJ]; exact he) a1 (a2.trans pm1) a3
   have q1:=k1 b u q
   have hb:b<s1.heap.objs.size:=ay q1
   show (sortedHeap (s1.heap.push (seqObj "list" (SS.told w a ep es).toArray 0)) s1.heap.objs.size (SS.told w a ep es) _).get? b=_
   rw[sortedHeap_old (aV hb) (by rw[size_push']; exact bU hb)]
   exact ae _ q1⟩⟩) (args_list_sort _)))
end
section
variable {X:Cx}
def SetB (w:World)(a:Addr)(ks:List Int):HO:= .ext fun h=>SB.SetG w h a ks
theorem jM0 (hc:X.calm=true):yC X (.type "set") (fun xs H Q=>∃ (p:Addr) (ns:List Int),xs=[.ref p]/\SqL X.K H p (ns.map V.int)/\ns.length<=300/\
  ∀ (l:Addr) (ks:List Int),H l=none->(∀ z,z∈ks↔z∈ns)->Q (.ref l) (upd H l (SetB X.w l ks))):=by
 intro pins s σ H xs us Q I r h
 obtain⟨p,ns,rfl,hq,hl,q⟩:=h
 obtain⟨u,rfl,rx⟩:=r.one
 cases rx
 obtain⟨its,r',pl,hz⟩:=I.list hq
 have hlen:=r'.length
 rw[ah] at hlen
 refine SB.set_of_list (I.ok.hd hc) pl.isList (jEX r') (by rw[aI]; omega) fun h' tk ks S hm kp=>?_
 have hg:∃ o,h'.get? s.heap.objs.size=some o:=let ⟨o,_,_,_,e,_⟩:=S.ex; ⟨o,e⟩
 exact⟨.ref s.heap.objs.size,_,I.laid (t':=tk) (o:=SetB X.w s.heap.objs.size ks) kp (aE _) ⟨S,hg,fun h1 h2 a b=>a.at b⟩,rfl,q _ ks I.fresh hm⟩
theorem jDC (hc:X.calm=true):yC X (.builtin "sorted") (fun xs H Q=>∃ (p:Addr) (ks:List Int),xs=[.ref p]/\H p=some (SetB X.w p ks)/\
  ∀ (l:Addr) (ns:List Int),H l=none->ns.Pairwise (· < ·)->(∀ z,z∈ns↔z∈ks)->Q (.ref l) (upd H l (.lst (ns.map V.int)))):=by
 intro pins s σ H xs us Q I r h
 obtain⟨p,ks,rfl,hp,q⟩:=h
 obtain⟨u,rfl,rx⟩:=r.one
 cases rx
 obtain⟨S,_,_⟩:=I.hok p _ hp
 refine jGC (I.ok.hd hc) S fun s' l vs ns e hl kp g d o he hi pm srt=>?_
 obtain⟨h',g',d',t',o'⟩:=s'
 have g:g'=s.gens:=g
 have o:o'=s.os:=o
 have d:d'=s.drawn:=d
 subst g; subst o; subst d
 have nd:ns.Nodup:=pm.nodup_iff.mpr S.nd
 have lt:ns.Pairwise (· < ·):=by
  have:=List.Pairwise.and srt nd
  exact this.imp fun {a b} ⟨x,y⟩=>by omega
 have hz:(ns.map V.int).length<=sizeLine:=by
  rw[ah,pm.length_eq,fN]
  have:=S.len
  omega
 have I2:Inv X pins σ (upd H l (.lst (ns.map V.int))) { s with heap:=h',toks:=t'} :=I.laid (t':=t') kp hl ⟨hz,vs,e,jAS hi,he⟩
 exact⟨.ref l,_,I2,rfl,q l ns (I.hok.fresh hl) lt fun z=>pm.mem_iff⟩
end
end L2
end
section
end
section
namespace Eo
open PySem L2
def Keep (H H':Hp)(p:Addr):Prop:=∀ b o,H b=some o->b≠p->H' b=some o
structure Txt (mg:Str->Option Value):Prop where
 len:mg "len" =none
 range:mg "range" =none
 tuple:mg "tuple" =none
 sorted:mg "sorted" =none
 set:mg "set" =none
 list:mg "list" =none
 int:mg "int" =none
 isinstance:mg "isinstance" =none
 bool:mg "bool" =none
 str:mg "str" =none
 all:mg "all" =none
 zip:mg "zip" =none
 max:mg "max" =none
 min:mg "min" =none
 any:mg "any" =none
 abs:mg "abs" =none
 sum:mg "sum" =none
 enumerate:mg "enumerate" =none
 dict:mg "dict" =none
 ValueError:mg "ValueError" =none
structure Can (P:Program)(w:World)(K:W.Frag)(mg:Str->Option Value)(base:Heap)(x:Str)(k:Nat)(f:Addr)(fd:FuncData)(ps:List Str)(sp:Sp):Prop where
 G:FnOk P w K mg base CX0 k f fd ps sp
 m:mg x=some (.ref f)
 kp:keepIn K (.ref f)=true
 b:Binds K fd ps []
theorem Can.pe {X:Cx}{x:Str}{k:Nat}{f:Addr}{fd:FuncData}{ps:List Str}{sp:Sp}{e:Expr}{es:List Expr}{t:TA}{p pos:Pos}(C:Can X.prog X.w X.K X.mg X.base x k f fd ps sp)(hr:Room k X.A)(hg:Gl X x)(ha:PA X (e::es) t)(hdb:(x==("__debug__" :Str))=false:=by decide)
  (he:starEach (e::es) X.env=(false,eval e X.env)::starEach es X.env:=by rfl) (hpl:(backTo pos (starEach es X.env)).any (·.1)=false:=by rfl):PE X (.Call (.Name x p) (e::es) [] pos) (tCall sp [] E0 t):=
 jPU C.G hr hg C.m C.kp C.b .nil pass0 ha hdb he hpl
theorem Can.je {X:Cx}{x:Str}{k:Nat}{f:Addr}{fd:FuncData}{ps:List Str}{sp:Sp}{e:Expr}{es:List Expr}{t:TA}{p pos:Pos}(C:Can X.prog X.w X.K X.mg X.base x k f fd ps sp)(hr:Room k X.A)(hg:Gl1 X x)(ha:JA X (e::es) t)(he:starEach (e::es) X.env=(false,eval e X.env)::starEach es X.env)
  (hdb:(x==("__debug__" :Str))=false:=by decide) (hpl:(backTo pos (starEach es X.env)).any (·.1)=false:=by rfl):JE X (.Call (.Name x p) (e::es) [] pos) (tCall sp [] E0 t):=
 ⟨C.pe hr hg.a ha.h hdb he hpl⟩
section
variable {P:Program}{w:World}{K:W.Frag}{mg:Str->Option Value}{base:Heap}
def jJL (K:W.Frag):Sp:=fun vs H Q _=>∃ (a:Addr) (ns:List Int) (k:Int),vs=[.ref a, .int k]/\SqL K H a (ns.map V.int)/\0<=k/\∀ c:Int,Q (.int c) H
theorem jRO:FnScope ["script","k"] ["script","k"] (j7 sCell):=⟨rfl,rfl,rfl,by decide+kernel,rfl,by decide+kernel,by decide+kernel⟩
theorem jQ6 {f:Addr}{fd:FuncData}(F:Fun K "_law_cell_at" "_law_cell_at" sCell f fd)(T:Txt mg):FnOk P w K mg base CX0 1 f fd ["script","k"] (jJL K):=by
 refine F.ok jRO (fun vs H Q E h=>?_) (fun cdv A outer s H vs Q E hr h=>?_)
 ·obtain⟨a,ns,k,rfl,_⟩:=h
  rfl
 ·obtain⟨a,ns,k,rfl,hS,h0,q⟩:=h
  refine⟨_,jA8 (ps_if (jGG op_lt (pv 1) (jHG jA0 (by rfl) T.len PySem.boot_len (jCZ (pv 0) jFF)) (jS _)) (jB9 (jDL (pe_ix jC0 (pv 0) (pv 1) (fun _ _=>rfl)))) jGH) (jB9 (jDL jW)),?_⟩
  refine⟨_,rfl,_,rfl,a,_,rfl, .inl hS,_,_,rfl,rfl,_,rfl,?_⟩
  refine ite2 (fun hlt=>?_) (fun _=>?_)
  ·have hlt:k<((ns.map V.int).length:Int):=bj hlt
   have hk:k.toNat<ns.length:=by rw[ah] at hlt; omega
   refine⟨_,rfl,_,rfl,a,_,k, .int (ns[k.toNat]),rfl,rfl,hS,?_,q _⟩
   have e:(k.toNat:Int)=k:=by omega
   have q2:=jC6 (xs:=ns.map V.int) (j:=k.toNat) (v:=V.int ns[k.toNat]) (by simp [hk])
   rw[e] at q2
   exact q2
  ·exact q 0
def jJI:Sp:=fun vs H Q _=>∃ (p:Addr) (N w:Int),vs=[.ref p, .int w]/\H p=some (.lst [.int N])/\0<=N/\0<w/\w<2 ^ 64/\∀ N' r:Int,0<=N'->0<=r->r<w->Q (.int r) (upd H p (.lst [.int N']))
theorem scTake:FnScope ["pot","wide","found"] ["pot","wide"] (j7 sTake):=⟨rfl,rfl,rfl,by decide+kernel,rfl,by decide+kernel,by decide+kernel⟩
theorem jQ2 {f:Addr}{fd:FuncData}(F:Fun K "_law_take" "_law_take" sTake f fd):FnOk P w K mg base CX0 1 f fd ["pot","wide"] jJI:=by
 refine F.ok scTake (fun vs H Q E h=>?_) (fun cdv A outer s H vs Q E hr h=>?_)
 ·obtain⟨a,ns,k,rfl,_⟩:=h
  rfl
 ·obtain⟨p,N,w,rfl,hp,h0,h1,h2,q⟩:=h
  refine⟨_,jA8 (jDK (i:=2) scTake.nd rfl (Or.inl rfl) (kY jHJ (pe_ix jC0 (pv 0) jW (fun _ _=>rfl)) (pv 1)))
   (jA8 (jRY (kY jMS (pe_ix jC0 (pv 0) jW (fun _ _=>rfl)) (pv 1)) (jS3 (pv 0) jW jHB))
   (jB9 (jDL (pv 2)))),?_⟩
  refine⟨_,rfl,p,_,0, .int N,rfl,rfl,SqL.of hp,rfl,_,rfl,_,_,rfl,rfl,h1,?_⟩
  refine⟨_,rfl,p,_,0, .int N,rfl,rfl,SqL.of hp,rfl,_,rfl,_,_,rfl,rfl,⟨h1,h2⟩,?_⟩
  refine⟨_,rfl,p,_,0,0,rfl,rfl,hp,rfl,_,rfl,?_⟩
  exact q _ _ (Int.ediv_nonneg h0 (by omega)) (Int.emod_nonneg _ (by omega)) (kh _ h1)
def spPot:Sp:=fun vs H Q _=>∃ c:Int,vs=[.int c]/\∀ (p:Addr) (N:Int),H p=none->0<=N->Q (.ref p) (upd H p (.lst [.int N]))
theorem scPot:FnScope ["cell","number","j","more"] ["cell"] (j7 sPot):=⟨rfl,rfl,rfl,by decide+kernel,rfl,by decide+kernel,by decide+kernel⟩
theorem jSE {f:Addr}{fd:FuncData}(F:Fun K "_law_pot" "_law_pot" sPot f fd)(T:Txt mg):FnOk P w K mg base CX0 1 f fd ["cell"] spPot:=by
 refine F.ok scPot (fun vs H Q E h=>?_) (fun cdv A outer s H vs Q E hr h=>?_)
 ·obtain⟨c,rfl,_⟩:=h
  rfl
 ·obtain⟨c,rfl,q⟩:=h
  have one: [V.int 0].length<=sizeLine:=by show 1<=sizeLine; decide
  refine⟨_,jA8 (ps_if (jGG op_ge (pv 0) (kY jO7 jW jW) (jS _)) (jB9 (jDL (jO6 (jCZ (kY jHH (pv 0) (kY jO7 jW jW)) jFF)))) jGH)
   (jA8 (jDK (i:=1) scPot.nd rfl (Or.inl rfl) jW)
   (jA8 (jO5 cw rfl (jFE rfl T.range (jCZ jW jFF)) (jJZ (i:=2) scPot.nd rfl (Or.inl rfl))
    (jA8 (jDK (i:=3) scPot.nd rfl (Or.inl rfl) (kY jHJ (kY jDM (kY y9 (kY y9 (kY jHJ (pv 0) jW) (kY jDM jW (pv 2))) jW) jW) jW))
    (jA8 (jDK (i:=3) scPot.nd rfl (Or.inl rfl) (kY jHJ (kY y9 (kY y9 (kY jDM (pv 3) (pv 3)) (kY jDM jW (pv 2))) jW) jW))
    (jB9 (jDK (i:=1) scPot.nd rfl (Or.inl rfl) (kY y9 (kY jDM (pv 1) jW) (pv 3)))))))
   (jB9 (jDL (jO6 (jCZ (pv 1) jFF)))))),?_⟩
  refine⟨_,rfl,_,_,rfl,rfl,⟨by decide,by decide,by decide⟩,_,_,rfl,rfl,_,rfl,?_⟩
  refine ite2 (fun hge=>?_) (fun _=>?_)
  ·refine⟨_,rfl,_,_,rfl,rfl,⟨by decide,by decide,by decide⟩,_,_,rfl,rfl,one,fun p hp=>q p _ hp ?_⟩
   exact Int.sub_nonneg_of_le (bj hge)
  ·refine⟨64,rfl,by decide,by decide,jFS (n:=64) (fun i σ H2=>∃ (num:Int) (v1 v2:Option V),σ=[some (.int c),some (.int num),v1,v2]/\0<=num/\H2=H) ⟨0,none,none,rfl,dP _,rfl⟩ ?_ ?_⟩
   ·rintro i σ H2 hi ⟨num,v1,v2,rfl,hn,rfl⟩
    refine⟨_,rfl,_,_,rfl,rfl,(by show (0:Int)<2147483629; decide),_,rfl,_,_,rfl,rfl, .inl ⟨by decide,by decide⟩,_,_,rfl,rfl,_,_,rfl,rfl,_,_,rfl,rfl, .inr ⟨by decide,by decide⟩,_,_,rfl,rfl,(by show (0:Int)<2147483647; decide),?_⟩
    refine⟨_,rfl,_,rfl,_,_,rfl,rfl, .inl ⟨?_,?_⟩,_,rfl,_,_,rfl,rfl, .inl ⟨by decide,by decide⟩,_,_,rfl,rfl,_,_,rfl,rfl,_,_,rfl,rfl,(by show (0:Int)<2147483587; decide),?_⟩
    ·omega
    ·omega
    ·refine⟨_,rfl,_,_,rfl,rfl, .inr ⟨by decide,by decide⟩,_,rfl,_,_,rfl,rfl,?_⟩
     refine⟨_,_,_,rfl,?_,rfl⟩
     omega
   ·rintro σ H2 ⟨num,v1,v2,rfl,hn,rfl⟩
    exact⟨_,rfl,one,fun p hp=>q p num hp hn⟩
end
structure Lot (w:Int)(ts:List Int):Prop where
 ris:ts.Pairwise (· < ·)
 bnd:∀ z∈ts,0<=z/\z<w
 ne:ts≠ []
structure Ris (w:Int)(ts:List Int):Prop where
 ris:ts.Pairwise (· < ·)
 bnd:∀ z∈ts,0<=z/\z<w
theorem Ris.nil (w:Int):Ris w []:=⟨.nil,fun z hz=>by cases hz⟩
def upto (n:Nat):List Int:=(List.range n).map fun (i:Nat)=>(i:Int)
theorem jH2 (n:Nat):Ris n (upto n):=by
 refine⟨?_,fun z hz=>?_⟩
 ·unfold upto
  rw[cj]
  exact List.pairwise_lt_range.imp fun h=>by omega
 ·unfold upto at hz
  obtain⟨t,ht,rfl⟩:=bq.mp hz
  have:=cH.mp ht
  omega
def Tups (H H':Hp):Prop:=∀ b xs,H b=some (.tup xs)->H' b=some (.tup xs)
theorem Tups.trans {H H1 H2:Hp}(a:Tups H H1)(b:Tups H1 H2):Tups H H2:=fun c o h=>b c o (a c o h)
theorem Tups.upd {H:Hp}{p:Addr}{xs:List V}(hp:H p=some (.lst xs))(o:HO):Tups H (upd H p o):=fun b ys hb=>by
 rw[j8 (fun e=>by subst e; rw[hb] at hp; cases hp)]
 exact hb
def PcAt (H:Hp)(v:V)(pc:List Int×Int):Prop:=∃ a q,v= .ref a/\H a=some (.tup [.ref q, .int pc.2])/\H q=some (.tup (pc.1.map V.int))
def PcsAt (H:Hp):List V->List (List Int×Int)->Prop
 | [],[]=>True
 | v::vs,p::ps=>PcAt H v p/\PcsAt H vs ps
 | _,_=>False
theorem PcAt.mono {H H':Hp}{v:V}{pc:List Int×Int}(h:PcAt H v pc)(t:Tups H H'):PcAt H' v pc:=by
 obtain⟨a,q,rfl,h1,h2⟩:=h
 exact⟨a,q,rfl,t _ _ h1,t _ _ h2⟩
theorem PcsAt.mono {H H':Hp}(t:Tups H H'):∀ {vs:List V}{ps:List (List Int×Int)},PcsAt H vs ps->PcsAt H' vs ps
 | [],[],_=>trivial
 | _::_,_::_,h=>⟨h.1.mono t,PcsAt.mono t h.2⟩
 | [],_::_,h=>h.elim
 | _::_,[],h=>h.elim
theorem PcsAt.len {H:Hp} :∀ {vs:List V}{ps:List (List Int×Int)},PcsAt H vs ps->vs.length=ps.length
 | [],[],_=>rfl
 | _::_,_::_,h=>bR (· +1) (PcsAt.len h.2)
 | [],_::_,h=>h.elim
 | _::_,[],h=>h.elim
theorem PcsAt.put {H:Hp}{v:V}{p:List Int×Int}(hv:PcAt H v p):∀ (k:Nat) {vs:List V}{ps:List (List Int×Int)},PcsAt H vs ps->PcsAt H (vs.take k++v::vs.drop k) (ps.take k++p::ps.drop k)
 | 0,_,_,h=>⟨hv,h⟩
 | _+1,[],[],_=>⟨hv,trivial⟩
 | k+1,_::_,_::_,h=>⟨h.1,PcsAt.put hv k h.2⟩
 | _+1,[],_::_,h=>h.elim
 | _+1,_::_,[],h=>h.elim
structure GoodPc (w:Int)(pc:List Int×Int):Prop where
 lot:Lot w pc.1
 lo: -1000000000000<=pc.2
 hi:pc.2<=1000000000000
structure BoxAt (H:Hp)(b:Addr)(w:Int)(mays:List Int)(pcs:List (List Int×Int)):Prop where
 ex:∃ qm qp vs,H b=some (.tup [.int w, .ref qm, .ref qp])/\H qm=some (.tup (mays.map V.int))/\H qp=some (.tup vs)/\PcsAt H vs pcs
theorem BoxAt.mono {H H':Hp}{b:Addr}{w:Int}{mays:List Int}{pcs:List (List Int×Int)}(h:BoxAt H b w mays pcs)(t:Tups H H'):BoxAt H' b w mays pcs:=by
 obtain⟨qm,qp,vs,h1,h2,h3,h4⟩:=h.ex
 exact⟨qm,qp,vs,t _ _ h1,t _ _ h2,t _ _ h3,h4.mono t⟩
structure Good (mt mp:Int)(w:Int)(mays:List Int)(pcs:List (List Int×Int)):Prop where
 w0:0<=w
 w1:w<=mt
 mr:Ris w mays
 pl:(pcs.length:Int)<=mp
 pg:∀ pc∈pcs,GoodPc w pc
def jBI:Stmt->List Stmt
 | .For _ _ b _ _=>b
 | _=> []
inductive Ob where
 | int (i:Int)
 | oth
 | tup (os:List Ob)
def OthAt (H:Hp)(v:V):Prop:=v= .non\/(∃ b,v= .bl b)\/(∃ x,v= .str x)\/∃ a,v= .ref a/\((∃ xs,H a=some (.lst xs))\/∃ kvs,H a=some (.dK kvs))
mutual
def At (H:Hp):Ob->V->Prop
 | .int i,v=>v= .int i
 | .oth,v=>OthAt H v
 | .tup os,v=>∃ a vs,v= .ref a/\H a=some (.tup vs)/\vs.length<=100/\Ats H os vs
def Ats (H:Hp):List Ob->List V->Prop
 | [],vs=>vs=[]
 | o::os,vs=>∃ v r,vs=v::r/\At H o v/\Ats H os r
end
structure Kp (H H':Hp):Prop where
 t:Tups H H'
 l:∀ a xs,H a=some (.lst xs)->∃ ys,H' a=some (.lst ys)
 d:∀ a xs,H a=some (.dK xs)->∃ ys,H' a=some (.dK ys)
theorem OthAt.mono {H H':Hp}(k:Kp H H'){v:V}(h:OthAt H v):OthAt H' v:=by
 rcases h with h | h | h | ⟨a,rfl,⟨xs,h⟩ | ⟨xs,h⟩⟩
 ·exact .inl h
 ·exact .inr (.inl h)
 ·exact .inr (.inr (.inl h))
 ·exact .inr (.inr (.inr ⟨a,rfl, .inl (k.l _ _ h)⟩))
 ·exact .inr (.inr (.inr ⟨a,rfl, .inr (k.d _ _ h)⟩))
mutual
theorem At.mono {H H':Hp}(k:Kp H H'):∀ (o:Ob) (v:V),At H o v->At H' o v
 | .int _,_,h=>h
 | .oth,_,h=>OthAt.mono k h
 | .tup os,_,⟨a,vs,e,h,n,r⟩=>⟨a,vs,e,k.t _ _ h,n,Ats.mono k os vs r⟩
theorem Ats.mono {H H':Hp}(k:Kp H H'):∀ (os:List Ob) (vs:List V),Ats H os vs->Ats H' os vs
 | [],_,h=>h
 | o::os,_,⟨v,r,e,h,t⟩=>⟨v,r,e,At.mono k o v h,Ats.mono k os r t⟩
end
section
variable {P:Program}{w:World}{K:W.Frag}{mg:Str->Option Value}{base:Heap}
noncomputable abbrev XOf (N:List Str)(q:Str)(st:Stmt)(P:Program)(w:World)(K:W.Frag)(mg:Str->Option Value)(base:Heap)(f:Addr)(cdv:Value)(A:Around)(outer:List Env)(s:Shared)(H:Hp)(E:XK):Cx:=(cxOf CX0 P w K mg base N q (j7 st) f cdv A outer s H E).nox
variable {f fW fR:Addr}{fdW fdR:FuncData}{cdv:Value}{A:Around}{outer:List Env}{s:Shared}{H0:Hp}{E:XK}
end
end Eo
end
section
namespace L2
open PySem
end L2
namespace Eo
open PySem L2
section
variable {P:Program}{w:World}{K:W.Frag}{mg:Str->Option Value}{base:Heap}
variable {f fW fR fL fG fI fPs:Addr}{fdW fdR fdL fdG fdI fdPs:FuncData}{cdv:Value}{A:Around}{outer:List Env}{s:Shared}{H0:Hp}{E:XK}
end
end Eo
end
section
namespace L2
open PySem
section
variable {P:Program}{w:World}{K:W.Frag}{mg:Str->Option Value}{base:Heap}{N:List Str}{qual:Str}{sc:Scope}{f:Addr}{cdv:Value}{A:Around}{outer:List Env}{s:Shared}{H:Hp}{E:XK}{x y z:Str}{p1 p2 p3 pos:Pos}{k i j l:Nat}
theorem jCM (hN:N.Nodup)(hi:N[i]?=some x)(hj:N[j]?=some y)(hx:sc.names.lookup x=some .local)(hy:sc.names.lookup y=some .local):
  JG (cxOf CX0 P w K mg base N qual sc f cdv A outer s H E).nox (.Tuple [.Name x p1, .Name y p2] k pos) (gTup K 2 (yF (kL i) (yF (kL j) gNil))):=
 jL3 (X:=(cxOf CX0 P w K mg base N qual sc f cdv A outer s H E).nox) rfl (jB0 (kJ hN hi (loc_l hx)) (jB0 (kJ hN hj (loc_l hy)) jGP jC7) jC7)
end
end L2
namespace L2
open PySem
section
variable {K:W.Frag}{m:List (Option Nat)}{g:TG}{tt:TT}{te:TE}{σ:St}{H1:Hp}{Q:VK}
end
end L2
namespace Eo
open PySem L2
theorem jLN (l:List Int):(l.map V.int).all flatV=true:=by
 rw[dC]
 intro x hx
 obtain⟨i,_,rfl⟩:=bq.mp hx
 rfl
theorem jNF (i:Int)(l:List Int):inV (.int i) (l.map V.int)=decide (i∈l):=by
 unfold inV
 rw[dq,List.any_eq_true,b0]
 constructor
 ·rintro ⟨x,hx,e⟩
  obtain⟨j,hj,rfl⟩:=bq.mp hx
  have:j=i:=eq_of_beq e
  rw[<- this]
  exact hj
 ·intro h
  exact⟨.int i,bq.mpr ⟨i,h,rfl⟩,by simp [eqV]⟩
theorem jJR:∀ (ts:List Int) (lo w:Int),ts.Pairwise (· < ·)->(∀ z∈ts,lo<=z/\z<w)->(ts.length:Int)<=max (w - lo) 0
 | [],lo,w,_,_=>by show (0:Int)<=_; omega
 | a::r,lo,w,hp,hb=>by
  have h1:=hb a ak
  have hp':=cJ.mp hp
  have:=jJR r (a+1) w hp'.2 fun z hz=>⟨by have:=hp'.1 z hz; omega,(hb z (ai _ hz)).2⟩
  rw[aG]
  omega
def jP (pcs:List (List Int×Int))(k:Int):List Int:=(pcs.getD k.toNat ([],0)).1
theorem PcsAt.get {H:Hp} :∀ {vs:List V}{ps:List (List Int×Int)},PcsAt H vs ps->∀ {k:Nat},k<ps.length->∃ v,vs[k]?=some v/\PcAt H v (ps.getD k ([],0))
 | v::vs,p::ps,h,0,_=>⟨v,rfl,h.1⟩
 | v::vs,p::ps,h,k+1,hk=>PcsAt.get h.2 (k:=k) (by simpa using hk)
 | [],[],_,k,hk=>absurd hk (eN _)
 | [],_::_,h,_,_=>h.elim
 | _::_,[],h,_,_=>h.elim
theorem Good.at {mt mp w:Int}{ms:List Int}{pcs:List (List Int×Int)}(g:Good mt mp w ms pcs){k:Nat}(hk:k<pcs.length):GoodPc w (pcs.getD k ([],0)):=by
 have e:pcs.getD k ([],0)=pcs[k]:=by simp [List.getD,hk]
 rw[e]
 exact g.pg _ (db hk)
theorem jEZ {n i:Nat}(h:i<n):(upto n).take (i+1)=(upto n).take i++[(i:Int)]:=by
 unfold upto
 rw[<- List.map_take,<- List.map_take,List.take_range,List.take_range,show min (i+1) n=i+1 by omega,show min i n=i by omega,eR,bh]
 rfl
theorem jMD (n:Nat):(upto n).length=n:=by
 unfold upto
 rw[ah,bX]
theorem _root_.L2.Ext.tups {H H':Hp}(e:Ext H H'):Tups H H':=fun b xs h=>e b _ h
theorem PcsAt.at {H:Hp} :∀ {vs:List V}{ps:List (List Int×Int)},PcsAt H vs ps->∀ {i:Nat}{v:V},vs[i]?=some v->∃ pc,ps[i]?=some pc/\PcAt H v pc
 | [],[],_,i,v,e=>by cases e
 | x::vs,p::ps,h,0,v,e=>by cases e; exact⟨p,rfl,h.1⟩
 | x::vs,p::ps,h,i+1,v,e=>PcsAt.at h.2 (i:=i) e
 | [],_::_,h,_,_,_=>h.elim
 | _::_,[],h,_,_,_=>h.elim
theorem jK9 (n:Nat):∀ (ds:List Int),ds.Nodup->(∀ t∈ds,0<=t/\t<(n:Int))->ds.length<=n:=by
 intro ds h1 h2
 have h3:(ds.map Int.toNat).Nodup:=by
  rw[List.Nodup,cj]
  refine List.Pairwise.imp_of_mem (R:=(· ≠ ·)) (fun {a b} ha hb hne e=>hne ?_) h1
  have:=h2 a ha
  have:=h2 b hb
  omega
 have h4:(ds.map Int.toNat).length<=(List.range n).length:=h3.length_le_of_subset fun x hx=>by
  obtain⟨t,ht,rfl⟩:=bq.mp hx
  have:=h2 t ht
  exact cH.mpr (by omega)
 rw[ah,bX] at h4
 exact h4
theorem jHX {H:Hp} :∀ l:List Int,TsAt H (l.map Tr.int) (l.map V.int)
 | []=>rfl
 | i::r=>⟨.int i,_,rfl,rfl,jHX r⟩
theorem jD9:∀ l:List Int,deps (l.map Tr.int)=0
 | []=>by simp [deps]
 | i::r=>by simp [deps,dep,jD9 r]
theorem iteN {A B:Prop}{c:Bool}(hc:c=false)(h:B):if c=true then A else B:=by
 rw[hc]
 exact iteF h
section
variable {P:Program}{w:World}{K:W.Frag}{mg:Str->Option Value}{base:Heap}
variable {f fM:Addr}{fdM:FuncData}{cdv:Value}{A:Around}{outer:List Env}{s:Shared}{H0:Hp}{E:XK}
noncomputable abbrev nMask:List Str:=["lot"]
theorem scMask:FnScope nMask ["lot"] (j7 sMask):=⟨rfl,rfl,rfl,by decide+kernel,rfl,by decide+kernel,by decide+kernel⟩
def jF4:Sp:=fun vs H Q _=>∃ (q:Addr) (ts:List Int),vs=[.ref q]/\H q=some (.tup (ts.map V.int))/\(∀ t∈ts,0<=t/\t<64)/\ts.length<=64/\∀ H',Ext H H'->Q (.int ((maskN ts:Nat):Int)) H'
def maskA (T:Txt mg): { t:TS // JSs (XOf nMask "mask_of" sMask P w K mg base f cdv A outer s H0 E) (jB sMask) t} :=
 have nd:=scMask.nd
 ⟨_,(jF (jR (jG (jDB rfl) gD T.sum (by decide+kernel) (j4 (jAD (m:=[none]) (Nc:=["thing"]) rfl (jSW (jv 0 rfl vL)) rfl (by decide+kernel) (by decide+kernel) (kN (psc:=j7 sMask) (by decide+kernel)) (jU (N:=nMask) rfl rfl (by decide+kernel)) (fun cl C fp s H=>kJ (i:=0) (show (["thing"]:List Str).Nodup by decide+kernel) rfl (loc_b (by decide+kernel))) (fun cl C fp s H=>jAC) (fun cl C fp s H=>(jX jK6 (je_int) (jv 0 rfl (kG (by decide+kernel))))) jAN) jA jY) jY)))⟩
theorem jIM (ts:List Int)(h:∀ t∈ts,0<=t):(ts.map fun t=>(1:Int)*2 ^ t.toNat).sum=((maskN ts:Nat):Int):=by
 induction ts with
 | nil=>rfl
 | cons t r ih=>
  have e:maskN (t::r)=2 ^ t.toNat+maskN r:=by simp [maskN]
  rw[ba,eU,ih fun x hx=>h x (ai _ hx),e]
  push_cast
  omega
theorem jQ3 {fd:FuncData}(F:Fun K "mask_of" "mask_of" sMask f fd)(T:Txt mg):FnOk P w K mg base CX0 1 f fd ["lot"] jF4:=by
 refine F.ok scMask (fun vs H Q E h=>?_) (fun cdv A outer s H vs Q E hr h=>?_)
 ·obtain⟨_,_,rfl,_⟩:=h
  rfl
 ·obtain⟨q,ts,rfl,hq,hb,hl,k⟩:=h
  refine⟨_,(maskA T).2.h,?_⟩
  refine⟨_,rfl,q,rfl,⟨_,SqT.of hq⟩,jI5 (xs:=ts.map V.int) (by rw[ah,aY]; omega) (fun D i σ' H' zs=>(∃ v,σ'=[v])/\Ext H H'/\H' D=some (.lst zs)/\H D=none/\zs=((ts.take i).map fun t=>(1:Int)*2 ^ t.toNat).map V.int) ?_ ?_ ?_ ?_⟩
  ·intro D hD
   exact⟨⟨_,rfl⟩,(Ext.refl _).new hD _,j9,hD,rfl⟩
  ·rintro D i σ' H' zs hD ⟨_,e,h2,_,rfl⟩
   refine⟨e _ _ hq,h2,?_⟩
   rw[ah,ah,bP]
   omega
  ·rintro D i σ' H' zs x hD hx ⟨⟨v,rfl⟩,e,h2,hn,rfl⟩
   obtain⟨z,hz,rfl⟩:∃ z:Int,ts[i]?=some z/\V.int z=x:=by
    rw[aP] at hx
    cases hq:ts[i]? with
    | none=>rw[hq] at hx; cases hx
    | some z=>rw[hq] at hx; cases hx; exact⟨z,rfl,rfl⟩
   have hzb:=hb z (aN hz)
   dsimp only [kL,yH]
   rw[aq rfl]
   refine⟨_,rfl,_,_,rfl,rfl,⟨?_,?_,?_⟩,h2,⟨_,rfl⟩,e.updNew hn _,j9,hn,?_⟩
   ·first | omega | decide
   ·first | omega | decide
   ·first | omega | decide
   ·have:ts.take (i+1)=ts.take i++[z]:=by
     rw[bM,hz]
     rfl
    rw[this,bh,bh]
    rfl
  ·rintro D σ' H' zs hD ⟨_,e,h2,hn,rfl⟩
   refine⟨D,_,rfl,SqL.of h2,?_⟩
   rw[ah,bZ,jIM ts fun t ht=>(hb t ht).1]
   exact k H' e
end
end Eo
end
section
namespace L2
open PySem
theorem jL7 {X:Cx}{a b c:Expr}{pos:Pos}{ta tb:TE}{tc:TT}(hc:JT X c tc)(ha:JE X a ta)(hb:JE X b tb):JE X (.IfExp c a b pos) (tIf tc ta tb):=⟨jMQ hc.h ha.h hb.h⟩
theorem jRK {a b c:Expr}{pos:Pos}{o:Option Expr} :SwOk (.IfExp c a b pos) o:=⟨fun _ _=>rfl⟩
end L2
namespace Eo
open PySem L2
def PrAt (H:Hp)(v:V)(c:Int×Nat):Prop:=∃ q,v= .ref q/\H q=some (.tup [.int c.1, .int ((c.2:Nat):Int)])
theorem PrAt.mono {H H':Hp}(t:Tups H H'){v:V}{c:Int×Nat}(h:PrAt H v c):PrAt H' v c:=let ⟨q,e,z⟩:=h; ⟨q,e,t _ _ z⟩
def RowAt (H:Hp)(l:Addr)(cs:List (Int×Nat)):Prop:=∃ vs,H l=some (.lst vs)/\All2 (PrAt H) vs cs
structure ChAt (H:Hp)(L:Addr)(ch:Ch):Prop where
 ex:∃ ls:List Addr,H L=some (.lst (ls.map V.ref))/\ls.Nodup/\All2 (RowAt H) ls ch
theorem RowAt.keep {H H':Hp}{l:Addr}{cs:List (Int×Nat)}(h:RowAt H l cs)(k:∀ xs,H l=some (.lst xs)->H' l=some (.lst xs))(t:Tups H H'):RowAt H' l cs:=let ⟨vs,a,b⟩:=h; ⟨vs,k _ a,b.imp fun _ _=>PrAt.mono t⟩
theorem ChAt.keep {H H':Hp}{L:Addr}{ch:Ch}(h:ChAt H L ch)(k:∀ b xs,H b=some (.lst xs)->H' b=some (.lst xs))(t:Tups H H'):ChAt H' L ch:=by
 obtain⟨ls,a,b,c⟩:=h.ex
 exact⟨ls,k _ _ a,b,c.imp fun l cs r=>r.keep (k l) t⟩
theorem ChAt.ext {H H':Hp}{L:Addr}{ch:Ch}(h:ChAt H L ch)(e:Ext H H'):ChAt H' L ch:=h.keep (fun b xs z=>e _ _ z) e.tups
theorem ChAt.len {H:Hp}{L:Addr}{ch:Ch}(h:ChAt H L ch):∃ ls:List Addr,H L=some (.lst (ls.map V.ref))/\ls.length=ch.length:=by
 obtain⟨ls,a,b,c⟩:=h.ex
 exact⟨ls,a,c.len⟩
def kP (ms:List Int)(pcs:List (List Int×Int))(n t:Nat):List (Int×Nat):=
 (if (t:Int)∈ms then [(-1,2 ^ t)] else [])++(((upto pcs.length).take n).filter fun k=>decide ((jP pcs k).headD 0=(t:Int))).map fun k=>(k,maskN (jP pcs k))
def chsN (w:Nat)(ms:List Int)(pcs:List (List Int×Int))(n:Nat):Ch:=(List.range w).map (kP ms pcs n)
def chs (w:Nat)(ms:List Int)(pcs:List (List Int×Int)):Ch:=chsN w ms pcs pcs.length
theorem kO (w:Nat)(ms:List Int)(pcs:List (List Int×Int))(n:Nat):(chsN w ms pcs n).length=w:=by
 unfold chsN
 rw[ah,bX]
theorem jA6 {w:Nat}{ms:List Int}{pcs:List (List Int×Int)}{n t:Nat}(h:t<w):(chsN w ms pcs n)[t]?=some (kP ms pcs n t):=by
 unfold chsN
 rw[aP,dY h]
 rfl
theorem jFH {ts:List Int}{t:Nat}(hp:ts.Pairwise (· < ·))(h0:∀ x∈ts,0<=x)(h:(t:Int)∈ts):(maskN ts).testBit t=true:=by
 rw[jD2 ts t hp h0,aO h]
theorem jGM {ts:List Int}{w:Nat}(hp:ts.Pairwise (· < ·))(h0:∀ x∈ts,0<=x/\x<(w:Int)):maskN ts<2 ^ w:=by
 refine Nat.lt_pow_two_of_testBit _ fun i hi=>?_
 rw[jD2 ts i hp fun x hx=>(h0 x hx).1,aR]
 intro z
 have:=(h0 _ z).2
 omega
theorem jNH {l:List Int}(h:l≠ []):l.headD 0∈l:=by
 cases l with
 | nil=>exact absurd rfl h
 | cons a r=>exact ak ..
theorem jCA {w:Int}{ms:List Int}{pcs:List (List Int×Int)}{n:Nat}(g:Good 16 32 w ms pcs):ChOk (chsN w.toNat ms pcs n):=by
 have w0:=g.w0
 have w1:=g.w1
 have gpl:=g.pl
 refine⟨by rw[kO]; omega,fun t cs h=>?_,fun t cs h c hc=>?_⟩
 ·have ht:t<w.toNat:=by
   have:=(ar.mp h).1
   rwa [kO] at this
  rw[jA6 ht] at h
  cases h
  unfold kP
  rw[aK,ah]
  have:=ce (fun k=>decide ((jP pcs k).headD 0=(t:Int))) ((upto pcs.length).take n)
  have:=dX n (upto pcs.length)
  have:=jMD pcs.length
  have:((upto pcs.length).take n).length<=(upto pcs.length).length:=by rw[bP]; omega
  split <;> simp only [aG,cV] <;> omega
 ·have ht:t<w.toNat:=by
   have:=(ar.mp h).1
   rwa [kO] at this
  rw[jA6 ht] at h
  cases h
  unfold kP at hc
  rw[kO]
  rcases aU.mp hc with hc | hc
  ·split at hc
   ·rw[aC] at hc
    subst hc
    exact⟨by simp [fm],gG (by decide) ht,by show (-1:Int)<= -1; decide,by show (-1:Int)<32; decide⟩
   ·cases hc
  ·obtain⟨k,hk,rfl⟩:=bq.mp hc
   obtain⟨hk1,hk2⟩:=cU.mp hk
   have kb:=(jH2 pcs.length).bnd k (cn hk1)
   have gp:=g.at (k:=k.toNat) (by omega)
   have hk2:=bj hk2
   have hne:jP pcs k≠ []:=gp.lot.ne
   have hm:(t:Int)∈jP pcs k:=by
    rw[<- hk2]
    exact jNH hne
   exact⟨jFH gp.lot.ris (fun x hx=>(gp.lot.bnd x hx).1) hm,jGM gp.lot.ris fun x hx=>⟨(gp.lot.bnd x hx).1,by have:=(gp.lot.bnd x hx).2; omega⟩,by omega,by omega⟩
section
variable {P:Program}{w:World}{K:W.Frag}{mg:Str->Option Value}{base:Heap}
variable {f fM:Addr}{fdM:FuncData}{cdv:Value}{A:Around}{outer:List Env}{s:Shared}{H0:Hp}{E:XK}
abbrev jAY:List Str:=["box","choices","number","piece"]
theorem scChoices:FnScope jAY ["box"] (j7 jV):=⟨rfl,rfl,rfl,by decide+kernel,rfl,by decide+kernel,by decide+kernel⟩
def jA7:Sp:=fun vs H Q _=>∃ (b:Addr) (w:Int) (ms:List Int) (pcs:List (List Int×Int)),vs=[.ref b]/\BoxAt H b w ms pcs/\Good 16 32 w ms pcs/\∀ r H',ChAt H' r (chs w.toNat ms pcs)->Ext H H'->Q (.ref r) H'
def jQX (T:Txt mg)(CM:Can P w K mg base "mask_of" 1 fM fdM ["lot"] jF4)(hr:Room 1 (XOf jAY "choices_of" jV P w K mg base f cdv A outer s H0 E).A): { t:TS // JSs (XOf jAY "choices_of" jV P w K mg base f cdv A outer s H0 E) (jBI ((jB jV).getD 1 (.Pass ⟨0,0,0,0⟩))) t} :=
 have nd:=scChoices.nd
 ⟨_,(jF (jGN (je_bm eC iG iH jD1 (yI jC0 (jv 1 rfl vL) (yI jBL (yI jBL (jv 3 rfl vL) (je_int) kD) (je_int) kD) jRQ) (j4 (jAR (j4 (jv 2 rfl vL) (j4 (CM.je hr gD (j4 (yI jBL (jv 3 rfl vL) (je_int) kD) jA jCV) jCV) jA jO) j6)) jA jCU) jCU) kU))⟩
def jNR (T:Txt mg)(CM:Can P w K mg base "mask_of" 1 fM fdM ["lot"] jF4)(hr:Room 1 (XOf jAY "choices_of" jV P w K mg base f cdv A outer s H0 E).A): { t:TS // JSs (XOf jAY "choices_of" jV P w K mg base f cdv A outer s H0 E) (jB jV) t} :=
 have nd:=scChoices.nd
 ⟨_,(jD (jKZ (i:=1) nd rfl lL ⟨by rfl⟩ (m:=[none,some 0]) (Nc:=["thing","box"]) rfl (jD5 gD T.range (j4 (yI jBL (jv 0 rfl vC) (je_int) kD) jA jCV) jCV) rfl (by decide+kernel) (by decide+kernel) (kN (psc:=j7 jV) (by decide+kernel)) (jU (N:=jAY) rfl rfl (by decide+kernel)) (fun cl C fp s H=>kJ (i:=0) (show (["thing","box"]:List Str).Nodup by decide+kernel) rfl (loc_b (by decide+kernel))) (fun cl C fp s H=>jAC) (fun cl C fp s H=>(jL7 (jZ jPW (jv 0 rfl (kG (by decide+kernel))) (yI jHW (jv 1 rfl (jEW (by decide+kernel))) (je_int) kD) jSK) (jQ (j4 (jAR (j4 (je_un jR8 (je_int)) (j4 (jX jK6 (je_int) (jv 0 rfl (kG (by decide+kernel)))) jA jBG) se_un)) jA jCU)) (jQ jA))) kZ) (jD (jBK cw rfl (jGO gD T.enumerate (j4 (yI jBL (jv 0 rfl vC) (je_int) kD) jA jCV) jCV) (jCM (i:=2) (j:=3) nd rfl rfl (by decide+kernel) (by decide+kernel)) (jQX T CM hr).2 kZ) (jF (jR (jv 1 rfl vL)))))⟩
noncomputable abbrev nFull:List Str:=["choices"]
theorem scFull:FnScope nFull ["choices"] (j7 sFull):=⟨rfl,rfl,rfl,by decide+kernel,rfl,by decide+kernel,by decide+kernel⟩
def jDH:Sp:=fun vs H Q _=>∃ (L:Addr) (ch:Ch),vs=[.ref L]/\ChAt H L ch/\ch.length<=16/\Q (.int ((fullN ch:Nat):Int)) H
def fullA (T:Txt mg): { t:TS // JSs (XOf nFull "full_mask" sFull P w K mg base f cdv A outer s H0 E) (jB sFull) t} :=
 have nd:=scFull.nd
 ⟨_,(jF (jR (jX jHH (jX jK6 (je_int) (jG jA0 gD T.len (by decide+kernel) (j4 (jv 0 rfl vL) jA j6) j6)) (je_int))))⟩
noncomputable abbrev nAt:List Str:=["choices","mask","least_lacked"]
theorem scAt:FnScope nAt ["choices","mask"] (j7 sAt):=⟨rfl,rfl,rfl,by decide+kernel,rfl,by decide+kernel,by decide+kernel⟩
def spAt:Sp:=fun vs H Q _=>∃ (L:Addr) (ch:Ch) (m:Nat),vs=[.ref L, .int (m:Int)]/\ChAt H L ch/\ChOk ch/\m<2 ^ ch.length/\m≠fullN ch/\∀ r H',RowAt H' r (chAt ch m)->Ext H H'->H r=none->Q (.ref r) H'
def atA (T:Txt mg): { t:TS // JSs (XOf nAt "choices_at" sAt P w K mg base f cdv A outer s H0 E) (jB sAt) t} :=
 have nd:=scAt.nd
 ⟨_,(jD (jT (i:=2) nd rfl lL (jX jHH (jOJ PySem.F.plainAttrs_int PySem.F.slot_int_bit_length PySem.F.type_int_bit_length jQ8 (jX jO9 (je_un jR9 (jv 1 rfl vC)) (jX y9 (jv 1 rfl vC) (je_int)))) (je_int)) jF1)
   (jF (jR (jAD (m:=[none,some 1]) (Nc:=["choice","mask"]) rfl (kW (yI jC0 (jv 0 rfl vL) (jv 2 rfl vL) jJS)) rfl (by decide+kernel) (by decide+kernel) (kN (psc:=j7 sAt) (by decide+kernel)) (jU (N:=nAt) rfl rfl (by decide+kernel)) (fun cl C fp s H=>kJ (i:=0) (show (["choice","mask"]:List Str).Nodup by decide+kernel) rfl (loc_b (by decide+kernel))) (fun cl C fp s H=>jKX (jZ op_eq (jX jO9 (yI jHW (jv 0 rfl (kG (by decide+kernel))) (je_int) kD) (jv 1 rfl (jEW (by decide+kernel)))) (je_int) (jS _))) (fun cl C fp s H=>(jv 0 rfl (kG (by decide+kernel)))) jT2))))⟩
theorem jDT (ms:List Int)(pcs:List (List Int×Int))(t:Nat):kP ms pcs 0 t=if (t:Int)∈ms then [(-1,2 ^ t)] else []:=by
 unfold kP
 rw[jo]
 simp
theorem jLY {w n:Nat}{ms:List Int}{pcs:List (List Int×Int)}(hn:n<pcs.length)(t:Nat)(ht:(jP pcs (n:Int)).headD 0=(t:Int)):chsN w ms pcs (n+1)=(chsN w ms pcs n).set t (kP ms pcs n t++[((n:Int),maskN (jP pcs n))]):=by
 have key:∀ u,kP ms pcs (n+1) u=kP ms pcs n u++if u=t then [((n:Int),maskN (jP pcs n))] else []:=fun u=>by
  unfold kP
  rw[jEZ hn,dE,bh,aX]
  congr 2
  rw[gz,ht]
  by_cases hu:u=t
  ·subst hu
   rw[aq (aO rfl),aq rfl]
   rfl
  ·rw[aj (by rw[b0]; omega),aj hu]
   rfl
 refine iw fun i=>?_
 rw[ix,kO]
 by_cases hi:i<w
 ·rw[jA6 hi,jA6 hi,key]
  by_cases h:t=i
  ·subst h
   rw[aq rfl,aq rfl,aq hi]
  ·rw[aj h,aj (fun z=>h z.symm),bo]
 ·rw[bw (by rw[kO]; omega),bw (by rw[kO]; omega)]
  split
  ·rw[aj (by omega)]
  ·rfl
theorem ChAt.app {H:Hp}{L:Addr}{ch:Ch}{t:Nat}{l:Addr}{ls:List Addr}{vs:List V}{cs:List (Int×Nat)}{v:V}{c:Int×Nat}(hL:H L=some (.lst (ls.map V.ref)))(nd:ls.Nodup)(al:All2 (RowAt H) ls ch)(hl:ls[t]?=some l)(hc:ch[t]?=some cs)(hv:H l=some (.lst vs))(av:All2 (PrAt H) vs cs)(pv:PrAt H v c)(ne:l≠L):
  (L2.upd H l (.lst (vs++[v]))) L=some (.lst (ls.map V.ref))/\All2 (RowAt (L2.upd H l (.lst (vs++[v])))) ls (ch.set t (cs++[c])):=by
 have tu:Tups H (L2.upd H l (.lst (vs++[v]))):=Tups.upd hv _
 refine⟨by rw[j8 ne.symm]; exact hL,?_⟩
 refine All2.of_get (by rw[gL]; exact al.len) fun i a b h1 h2=>?_
 rw[ix] at h2
 by_cases hi:t=i
 ·subst hi
  rw[aq rfl,aq (ar.mp hc).1] at h2
  cases h2
  rw[hl] at h1
  cases h1
  exact⟨_,j9,(av.imp fun _ _=>PrAt.mono tu).snoc (pv.mono tu)⟩
 ·rw[aj hi] at h2
  obtain⟨b',hb',r⟩:=al.get' h1
  rw[h2] at hb'
  cases hb'
  refine r.keep (fun xs hx=>?_) tu
  rw[j8 fun z=>hi ?_]
  ·exact hx
  ·exact(gh (ar.mp hl).1 nd).mp (by rw[hl,h1,z])
theorem jIJ {fd:FuncData}(F:Fun K "choices_of" "choices_of" jV f fd)(T:Txt mg)(CM:Can P w K mg base "mask_of" 1 fM fdM ["lot"] jF4):FnOk P w K mg base CX0 2 f fd ["box"] jA7:=by
 refine F.ok scChoices (fun vs H Q E h=>?_) (fun cdv A outer s H vs Q E hr h=>?_)
 ·obtain⟨_,_,_,_,rfl,_⟩:=h
  rfl
 ·obtain⟨b,w,ms,pcs,rfl,hB,g,q⟩:=h
  refine⟨_,(jNR T CM hr).2.h,?_⟩
  obtain⟨qm,qp,ps,b1,b2,b3,b4⟩:=id hB.ex
  have pl:=b4.len
  have w0:=g.w0
  have w1:=g.w1
  have gpl:=g.pl
  refine⟨_,rfl,b,_,0,_,rfl,rfl,SqT.of b1,rfl,w,rfl,by omega,by omega,jI6 (n:=w.toNat) (by rw[aY]; omega) (fun D i σ' H' zs=>(∃ v,σ'=[v,some (.ref b)])/\Ext H H'/\H' D=some (.lst zs)/\H D=none/\∃ ls:List Addr,zs=ls.map V.ref/\ls.Nodup/\D∉ls/\(∀ a∈ls,H a=none)/\All2 (RowAt H') ls ((List.range i).map (kP ms pcs 0))) ?_ ?_ ?_ ?_⟩
  ·intro D hD
   exact⟨⟨_,rfl⟩,(Ext.refl _).new hD _,j9,hD,[],rfl,gm,by simp,by simp,trivial⟩
  ·rintro D i σ' H' zs hD hi ⟨_,e,h2,_,ls,rfl,_,_,_,al⟩
   refine⟨h2,?_⟩
   rw[ah,al.len,ah,bX]
   omega
  ·rintro D i σ' H' zs hD hi ⟨⟨v,rfl⟩,e,h2,hn,ls,rfl,nd,hDl,nol,al⟩
   dsimp only [kL,yH]
   rw[aq rfl]
   have e0:(0+(i:Int))=(i:Int):=by omega
   have key:∀ (l:Addr) (H2:Hp),Ext H' H2->H' l=none->RowAt H2 l (kP ms pcs 0 i)->H2 D=some (.lst (ls.map V.ref))/\((∃ v,[some (V.int (i:Int)),some (.ref b)]=[v,some (.ref b)])/\Ext H (L2.upd H2 D (.lst (ls.map V.ref++[.ref l])))/\(L2.upd H2 D (.lst (ls.map V.ref++[.ref l]))) D=some (.lst (ls.map V.ref++[.ref l]))/\H D=none/\∃ ls':List Addr,ls.map V.ref++[.ref l]=ls'.map V.ref/\ls'.Nodup/\D∉ls'/\(∀ a∈ls',H a=none)/\All2 (RowAt (L2.upd H2 D (.lst (ls.map V.ref++[.ref l])))) ls' ((List.range (i+1)).map (kP ms pcs 0))):=fun l H2 e2 nl rl=>by
    have hD2:=e2 _ _ h2
    have lD:l≠D:=fun z=>by rw[z,h2] at nl; cases nl
    have tu:Tups H2 (L2.upd H2 D (.lst (ls.map V.ref++[.ref l]))):=Tups.upd hD2 _
    have kp:∀ a xs,a≠D->H2 a=some (.lst xs)->(L2.upd H2 D (.lst (ls.map V.ref++[.ref l]))) a=some (.lst xs):=fun a xs ha h=>by rw[j8 ha]; exact h
    refine⟨hD2,⟨_,rfl⟩,(e.trans e2).updNew hn _,j9,hn,ls++[l],by rw[bh]; rfl,?_,?_,?_,?_⟩
    ·rw[iu]
     refine⟨nd,by simp,fun a ha b hb z=>?_⟩
     rw[aC] at hb
     subst hb z
     obtain⟨j,hj⟩:=bH ha
     obtain⟨cs,_,vs,r,_⟩:=al.get' hj
     rw[nl] at r
     cases r
    ·rw[aU,aC]
     rintro (z | z)
     ·exact hDl z
     ·exact lD z.symm
    ·intro a ha
     rcases aU.mp ha with z | z
     ·exact nol a z
     ·rw[aC] at z
      subst z
      cases y:H a with
      | none=>rfl
      | some o=>rw[e _ _ y] at nl; cases nl
    ·rw[eR,bh]
     refine(All2.of_get al.len fun j a c h1 h2'=>?_).snoc (rl.keep (fun xs=>kp l xs lD) tu)
     obtain⟨c',hc',r⟩:=al.get' h1
     rw[h2'] at hc'
     cases hc'
     have aD:a≠D:=fun z=>hDl (z ▸ aN h1)
     exact r.keep (fun xs hx=>kp a xs aD (e2 _ _ hx)) (e2.tups.trans tu)
   refine⟨_,rfl,_,rfl,b,_,1,_,rfl,rfl,SqT.of (e _ _ b1),rfl,qm,_,rfl, .inr (SqT.of (e _ _ b2)),rfl,jLN ms,_,rfl,?_⟩
   rw[e0,jNF]
   refine ite2 (fun hz=>?_) (fun hz=>?_)
   ·have hz:=bj hz
    refine⟨_,rfl,_,rfl,_,_,rfl,rfl,⟨by omega,by omega,by decide⟩,by show (2:Nat)<=_; decide,fun r H2 d2 e2=>⟨by show (1:Nat)<=_; decide,fun l H3 d3 e3 n3=>?_⟩⟩
    have nl:H' l=none:=by
     cases z:H' l with
     | none=>rfl
     | some o=>rw[e2 _ _ z] at n3; cases n3
    refine key l H3 (e2.trans e3) nl ⟨_,d3,?_⟩
    rw[jDT,aq hz]
    refine⟨⟨r,rfl,?_⟩,trivial⟩
    have:(1:Int)*2 ^ (i:Int).toNat=((2 ^ i:Nat):Int):=by
     rw[aZ]
     push_cast
     omega
    rw[e3 _ _ d2]
    show some (HO.tup [V.int (-1),V.int ((1:Int)*2 ^ (i:Int).toNat)])=_
    rw[this]
   ·refine⟨by show (0:Nat)<=_; decide,fun l H3 d3 e3 n3=>?_⟩
    refine key l H3 e3 n3 ⟨_,d3,?_⟩
    rw[jDT,aj (fun z=>hz (aO z))]
    trivial
  ·rintro D σ' H1 zs hD ⟨_,e1,h2,hn,ls,rfl,nd,hDl,nol,al⟩
   refine⟨_,rfl,b,_,2,_,rfl,rfl,SqT.of (e1 _ _ b1),rfl,true,qp,rfl,⟨_,SqT.of (e1 _ _ b3)⟩,jEI (tp:=true) (xs:=ps) (fun i σ H'=>(∃ v2 v3,σ=[some (.ref b),some (.ref D),v2,v3])/\Ext H H'/\H' D=some (.lst (ls.map V.ref))/\All2 (RowAt H') ls (chsN w.toNat ms pcs i)) ⟨⟨_,_,rfl⟩,e1,h2,al⟩ (fun i σ H' ⟨_,e,_⟩=>SqT.of (e _ _ b3)) ?_ ?_⟩
   ·rintro i x t σ H' hx ht ⟨⟨v2,v3,rfl⟩,e,h3,al3⟩
    obtain⟨pc,hpc,hPc⟩:=b4.at hx
    obtain⟨pa,pq,rfl,c1,c2⟩:=id hPc
    have hi:i<pcs.length:=(ar.mp hpc).1
    have gp:=g.pg pc (aN hpc)
    have et:jP pcs (i:Int)=pc.1:=by
     unfold jP
     rw[aZ,aF,hpc]
     rfl
    have lt:=jJR _ 0 w gp.lot.ris gp.lot.bnd
    have e':=e.new ht (.tup [.int (i:Int), .ref pa])
    have k':Ext H' (L2.upd H' t (.tup [.int (i:Int), .ref pa])):=(Ext.refl _).new ht _
    refine⟨t,_,rfl,SqT.of j9,rfl,_,_,rfl,_,_,rfl,rfl,?_⟩
    have h5:=k' _ _ h3
    have al5:=al3.imp fun l cs r=>r.keep (fun xs z=>k' _ _ z) k'.tups
    generalize L2.upd H' t (.tup [.int (i:Int), .ref pa])=H5 at e' h5 al5 ⊢
    obtain⟨hd,tl,hp1⟩:∃ hd tl,pc.1=hd::tl:=by
     cases z:pc.1 with
     | nil=>exact absurd z gp.lot.ne
     | cons a r=>exact⟨a,r,rfl⟩
    have hb:=gp.lot.bnd hd (by rw[hp1]; exact ak ..)
    have hdl:(jP pcs (i:Int)).headD 0=((hd.toNat:Nat):Int):=by
     rw[et,hp1]
     show hd=_
     omega
    have hw:hd.toNat<w.toNat:=by omega
    obtain⟨l,hl,vs,hv,av⟩:=al5.get (jA6 hw)
    have lne:l≠D:=fun z=>hDl (z ▸ aN hl)
    have iD:atI (ls.map V.ref) hd=some (.ref l):=by
     have:=jC6 (xs:=ls.map V.ref) (j:=hd.toNat) (v:= .ref l) (by rw[aP,hl]; rfl)
     rwa [show ((hd.toNat:Nat):Int)=hd by omega] at this
    have c2':H5 pq=some (.tup (pc.1.map V.int)):=e' _ _ c2
    refine⟨_,rfl,_,rfl,pa,_,0,_,rfl,rfl,SqT.of (e' _ _ c1),rfl,pq,_,0, .int hd,rfl,rfl,SqT.of c2',by rw[hp1]; exact jC6 (j:=0) rfl,D,_,_,_,rfl,rfl,SqL.of h5,iD, .inl ⟨rfl,_,SqL.of hv⟩,_,rfl,_,rfl,pa,_,0,_,rfl,rfl,SqT.of (e' _ _ c1),rfl,pq,pc.1,rfl,c2',fun x hx=>?_,by omega,fun H6 e6=>?_⟩
    ·have:=gp.lot.bnd x hx
     omega
    refine⟨by show (2:Nat)<=_; decide,fun r H7 d7 e7=>?_⟩
    have E7:=e6.trans e7
    have hv7:=E7 _ _ hv
    have vl:vs.length<=33:=by
     rw[av.len]
     exact(jCA g).len _ _ (jA6 hw)
    have ap:=ChAt.app (v:= .ref r) (c:=((i:Int),maskN (jP pcs (i:Int)))) (E7 _ _ h5) nd (al5.imp fun l cs r=>r.keep (fun xs z=>E7 _ _ z) E7.tups) hl (jA6 hw) hv7 (av.imp fun _ _=>PrAt.mono E7.tups) ⟨r,rfl,by rw[et]; exact d7⟩ lne
    have nH:H l=none:=by
     cases z:H l with
     | none=>rfl
     | some o=>
      exfalso
      rw[nol l (aN hl)] at z
      cases z
    refine⟨l,_,_,rfl,rfl,hv7,by rw[aY]; omega,⟨_,_,rfl⟩,?_,ap.1,?_⟩
    ·exact(e'.trans E7).updNew nH _
    ·rw[jLY hi hd.toNat hdl]
     exact ap.2
   ·rintro σ H' ⟨⟨v2,v3,rfl⟩,e,h3,al3⟩
    refine⟨_,rfl,q D H' ⟨ls,h3,nd,?_⟩ e⟩
    rw[pl] at al3
    exact al3
theorem jQ5 {fd:FuncData}(F:Fun K "full_mask" "full_mask" sFull f fd)(T:Txt mg):FnOk P w K mg base CX0 1 f fd ["choices"] jDH:=by
 refine F.ok scFull (fun vs H Q E h=>?_) (fun cdv A outer s H vs Q E hr h=>?_)
 ·obtain⟨_,_,rfl,_⟩:=h
  rfl
 ·obtain⟨L,ch,rfl,hL,hw,q⟩:=h
  refine⟨_,(fullA T).2.h,?_⟩
  obtain⟨ls,h1,h2⟩:=hL.len
  refine⟨_,rfl,L,_,rfl, .inl (SqL.of h1),_,_,rfl,rfl,⟨?_,?_,?_⟩,_,_,rfl,rfl,?_⟩
  ·first | omega | decide
  ·rw[ah]; omega
  ·first | omega | decide
  ·have e:(1:Int)*2 ^ (((ls.map V.ref).length:Nat):Int).toNat - 1=((fullN ch:Nat):Int):=by
    rw[ah,h2,aZ]
    unfold fullN
    have:=gM ch.length
    have e2:((2 ^ ch.length:Nat):Int)=(2:Int) ^ ch.length:=by push_cast; rfl
    omega
   show Q (V.int ((1:Int)*2 ^ (((ls.map V.ref).length:Nat):Int).toNat - 1)) H
   rw[e]
   exact q
theorem ok_at {fd:FuncData}(F:Fun K "choices_at" "choices_at" sAt f fd)(T:Txt mg):FnOk P w K mg base CX0 1 f fd ["choices","mask"] spAt:=by
 refine F.ok scAt (fun vs H Q E h=>?_) (fun cdv A outer s H vs Q E hr h=>?_)
 ·obtain⟨_,_,_,rfl,_⟩:=h
  rfl
 ·obtain⟨L,ch,m,rfl,hL,ok,hm,hf,q⟩:=h
  refine⟨_,(atA T).2.h,?_⟩
  obtain⟨ls,h1,nd,al⟩:=hL.ex
  have hlow:=jDN hm hf
  have w16:=ok.w
  refine⟨_,rfl,_,rfl,_,rfl,_,_,rfl,rfl,_,_,rfl,rfl,rfl,_,rfl,rfl,_,_,rfl,rfl,?_⟩
  have el:(Builtin.Int.intBits (Builtin.bitAnd (Builtin.bitNot (m:Int)) ((m:Int)+1)):Int) - 1=((lowN m:Nat):Int):=by
   rw[jN3]
   omega
  show kL 2 (V.int ((Builtin.Int.intBits (Builtin.bitAnd (Builtin.bitNot (m:Int)) ((m:Int)+1)):Int) - 1)) _ _ _
  rw[el]
  obtain⟨l,hl,vs,hv,av⟩:=al.get (aB hlow)
  have vl:vs.length<=33:=by
   rw[av.len]
   exact ok.len _ _ (aB hlow)
  have er:ch.getD (lowN m) []=ch[lowN m]:=by
   rw[aF,aB hlow]
   rfl
  refine⟨_,rfl,_,rfl,L,_,_,_,rfl,rfl,SqL.of h1,jC6 (by rw[aP,hl]; rfl),l,rfl,⟨_,SqL.of hv⟩,jB2 (xs:=vs) (fun σ=>∃ v,σ=[v,some (.int (m:Int))]) (fun H' zs j=>All2 (PrAt H') zs (((ch[lowN m]).take j).filter fun c=>c.2&&&m==0)) ⟨fun H=>trivial,fun H H' zs j t h=>h.imp fun _ _=>PrAt.mono t,fun H zs j h=>?_⟩ hv (by rw[aY]; omega) ⟨_,rfl⟩ ?_ ?_⟩
  ·rw[h.len]
   exact bA (ce _ _) (dX _ _)
  ·rintro j x σ' H' zs hx ⟨v,rfl⟩ e hz R S yes no
   obtain⟨c,hc,qa,rfl,hq⟩:=av.get' hx
   have hq':=e _ _ hq
   have et:(ch[lowN m]).take (j+1)=(ch[lowN m]).take j++[c]:=by
    rw[bM,hc]
    rfl
   refine⟨_,rfl,qa,_,1,_,rfl,rfl,SqT.of hq',rfl,_,rfl,_,_,rfl,rfl,rfl,_,rfl,?_⟩
   have ez:decide (V.int (Builtin.bitAnd ((c.2:Nat):Int) (m:Int))=V.int 0)=(c.2&&&m==0):=by
    rw[jIY,dq,b0,de]
    exact⟨fun h=>by have:=V.int.inj h; omega,fun h=>by rw[h]; rfl⟩
   show if decide (V.int (Builtin.bitAnd ((c.2:Nat):Int) (m:Int))=V.int 0)=true then _ else _
   rw[ez]
   refine ite2 (fun h=>?_) (fun h=>?_)
   ·refine⟨_,rfl,yes _ _ _ ⟨_,rfl⟩ (Ext.refl _) ?_⟩
    show All2 _ _ (((ch[lowN m]).take (j+1)).filter _)
    rw[et,dE,gz,aq h]
    exact hz.snoc ⟨qa,rfl,hq'⟩
   ·refine no _ _ ⟨_,rfl⟩ (Ext.refl _) ?_
    show All2 _ _ (((ch[lowN m]).take (j+1)).filter _)
    rw[et,dE,gz,aj h,List.filter_nil,bo]
    exact hz
  ·rintro D H' zs hD e hn hz
   rw[av.len,bZ] at hz
   refine q D H' ⟨zs,hD,?_⟩ e hn
   unfold chAt
   rw[er]
   exact hz
end
end Eo
end
section
namespace L2
open PySem
theorem jG9 {ks:List (Option Expr)}{vs:List Expr}{pos:Pos}{o:Option Expr} :SwOk (.Dict ks vs pos) o:=⟨fun _ _=>rfl⟩
end L2
namespace Eo
open PySem L2
abbrev natV (n:Nat):V:= .int (n:Int)
structure MetOk (ch:Ch)(ns:List Nat):Prop where
 zero:0∈ns
 bnd:∀ m∈ns,m<2 ^ ch.length
 up:∀ m∈ns,m≠fullN ch->∀ c∈chAt ch m,(m|||c.2)∈ns
def trK (ks:List Nat):List (Key×V):=ks.map fun (k:Nat)=>(Sum.inl (k:Int),V.bl true)
def jOX:Stmt->List Stmt
 | .While _ b _ _=>b
 | _=> []
theorem jG7 (n:Nat):∀ ks:List Nat,valV (trK ks) (.inl (n:Int))=if n∈ks then some (.bl true) else none
 | []=>rfl
 | k::ks=>by
  show valV ((Sum.inl (k:Int),V.bl true)::trK ks) _=_
  by_cases h:k=n
  ·subst h
   rw[jAW rfl,aq (ak ..)]
  ·rw[jAK (by intro z; have:=fK z; omega),jG7 n ks]
   by_cases h2:n∈ks
   ·rw[aq h2,aq (ai _ h2)]
   ·rw[aj h2,aj]
    intro z
    rcases az.mp z with z | z
    ·exact h z.symm
    ·exact h2 z
theorem jQU {H:Hp}{M:Addr}{ks:List Nat}{m c:Nat}(h:H M=some (.dK (trK ks))):DGet H M (.int (Builtin.bitOr (m:Int) (c:Int))) (if (m|||c)∈ks then some (.bl true) else none):=by
 rw[jBO,<- jG7]
 exact DGet.k (k:=Sum.inl (((m|||c:Nat):Nat):Int)) h
theorem jQT {H:Hp}{M:Addr}{ks:List Nat}{m c:Nat}(h:H M=some (.dK (trK ks)))(hn:¬ (m|||c)∈ks)(hl:(trK ks).length<sizeLine):DPut H M (.int (Builtin.bitOr (m:Int) (c:Int))) (.bl true) (L2.upd H M (.dK (trK (ks++[m|||c])))):=by
 rw[jBO]
 have:=DPut.k (k:=Sum.inl (((m|||c:Nat):Nat):Int)) (v:= .bl true) h hl
 rw[jE2 _ (by rw[jG7,aj hn])] at this
 unfold trK
 rw[bh]
 exact this
theorem jAM {n:Nat}{ks:List Nat}(nd:ks.Nodup)(hb:∀ k∈ks,k<n):ks.length<=n:=by
 have:(ks.map fun k:Nat=>(k:Int)).length<=n:=jK9 n _ (cj.mpr (nd.imp fun h=>by omega)) fun t ht=>by
  obtain⟨k,hk,rfl⟩:=bq.mp ht
  have:=hb k hk
  omega
 rwa [ah] at this
section
variable {P:Program}{w:World}{K:W.Frag}{mg:Str->Option Value}{base:Heap}
variable {f fF fA:Addr}{fdF fdA:FuncData}{cdv:Value}{A:Around}{outer:List Env}{s:Shared}{H0:Hp}{E:XK}
noncomputable abbrev nMet:List Str:=["choices","full","met","waiting","mask","number","more"]
theorem scMet:FnScope nMet ["choices"] (j7 sMet):=⟨rfl,rfl,rfl,by decide+kernel,rfl,by decide+kernel,by decide+kernel⟩
def spMet:Sp:=fun vs H Q _=>∃ (L:Addr) (ch:Ch),vs=[.ref L]/\ChAt H L ch/\ChOk ch/\∀ (r:Addr) (ns:List Nat) (H':Hp),H' r=some (.lst (ns.map natV))->ns.Pairwise (· > ·)->MetOk ch ns->Ext H H'->H r=none->Q (.ref r) H'
def jHO (T:Txt mg)(CA:Can P w K mg base "choices_at" 1 fA fdA ["choices","mask"] spAt)(hr:Room 1 (XOf nMet "masks_met" sMet P w K mg base f cdv A outer s H0 E).A): { t:TS // JSs (XOf nMet "masks_met" sMet P w K mg base f cdv A outer s H0 E) (jOX ((jB sMet).getD 3 (.Pass ⟨0,0,0,0⟩))) t} :=
 have nd:=scMet.nd
 ⟨_,(jD (jT (i:=4) nd rfl lL (jOJ eC PySem.F.slot_list_pop PySem.F.type_list_pop jSL (jv 3 rfl vL)) kU)
   (jF (yE (jZ op_ne (jv 4 rfl vL) (jv 1 rfl vL) (jS _)) (jF (jBK cw rfl (kW (CA.je hr gD (j4 (jv 0 rfl vL) (j4 (jv 4 rfl vL) jA j6) j6) j6)) (jCM (i:=5) (j:=6) nd rfl rfl (by decide+kernel) (by decide+kernel)) (jF (yE (jL8 (hu_of hr) (jX op_or (jv 4 rfl vL) (jv 6 rfl vL)) (jv 2 rfl vL) rfl) (jD (jED (hu_of hr) (jv 2 rfl vL) (jX op_or (jv 4 rfl vL) (jv 6 rfl vL)) (je_bl) jCG)
   (jF (jGN (je_bm eC iG iH jD1 (jv 3 rfl vL) (j4 (jX op_or (jv 4 rfl vL) (jv 6 rfl vL)) jA jBG) jBG) kU))) kQ)) kZ)) kQ)))⟩
def metA (T:Txt mg)(CF:Can P w K mg base "full_mask" 1 fF fdF ["choices"] jDH)(CA:Can P w K mg base "choices_at" 1 fA fdA ["choices","mask"] spAt)(hr:Room 1 (XOf nMet "masks_met" sMet P w K mg base f cdv A outer s H0 E).A): { t:TS // JSs (XOf nMet "masks_met" sMet P w K mg base f cdv A outer s H0 E) (jB sMet) t} :=
 have nd:=scMet.nd
 ⟨_,(jD (jT (i:=1) nd rfl lL (CF.je (hr.mono (by decide)) gD (j4 (jv 0 rfl vL) jA j6) j6) kU) (jD (jT (i:=2) nd rfl lL (jN9) jG9) (jD (jT (i:=3) nd rfl lL (jQ (j4 (je_int) jA jE)) jJG) (jD (jN6 cw (jZ op_gt (jG jA0 gD T.len (by decide+kernel) (j4 (jv 3 rfl vL) jA j6) j6) (je_int) (jS _)) (jHO T CA hr).2) (jF (jR (jFN (jEO rfl) gD T.sorted (by decide+kernel) (j4 (jv 2 rfl vL) jA j6) (jL2 je_bl jOH) j6)))))))⟩
theorem jMZ (T:Txt mg)(CA:Can P w K mg base "choices_at" 1 fA fdA ["choices","mask"] spAt)(hr:Room 1 (XOf nMet "masks_met" sMet P w K mg base f cdv A outer s H0 E).A)
  {D:Ends}{H:Hp}{L M W:Addr}{ch:Ch}{ks ws:List Nat}{m:Nat}{v4 v5 v6:Option V}(hL:ChAt H L ch) (ok:ChOk ch) (hM:H M=some (.dK (trK ks))) (hW:H W=some (.lst ((ws++[m]).map natV))) (nd:ks.Nodup) (hb:∀ k∈ks,k<2 ^ ch.length) (hm:m∈ks) (wln:ws.length<=ks.length)
  (nx:∀ (H':Hp) (new:List Nat) (v4 v5 v6:Option V),(∀ b o,H b=some o->b≠M->b≠W->H' b=some o)->H' M=some (.dK (trK (ks++new)))->H' W=some (.lst ((ws++new).map natV))->(ks++new).Nodup->(∀ k∈ks++new,k<2 ^ ch.length)->(m≠fullN ch->∀ c∈chAt ch m,(m|||c.2)∈ks++new)->D.nx [some (.ref L),some (natV (fullN ch)),some (.ref M),some (.ref W),v4,v5,v6] H'):
  (jHO T CA hr).1 D [some (.ref L),some (natV (fullN ch)),some (.ref M),some (.ref W),v4,v5,v6] H:=by
 have MW:M≠W:=fun z=>by rw[z,hW] at hM; cases hM
 have LW:∀ ls:List Addr,H L=some (.lst (ls.map V.ref))->L≠W:=fun ls h z=>by
  rw[z,hW] at h
  have h:=HO.lst.inj (br h)
  have h2:natV m∈ls.map V.ref:=by rw[<- h]; simp
  obtain⟨a,_,ha⟩:=bq.mp h2
  cases ha
 have rw':∀ l cs,RowAt H l cs->l≠W:=fun l cs ⟨vs,h1,h2⟩ z=>by
  rw[z,hW] at h1
  have h1:=HO.lst.inj (br h1)
  have h3:vs[ws.length]?=some (natV m):=by rw[<- h1]; simp
  obtain⟨_,_,q,e,_⟩:=h2.get' h3
  cases e
 have w16:=ok.w
 have hm2:=hb m hm
 have wl:((ws++[m]).map natV)[((ws++[m]).map natV).length - 1]?=some (natV m):=by
  rw[ah,aK,aP,bb (by simp)]
  simp
 have dl:((ws++[m]).map natV).dropLast=ws.map natV:=by
  rw[bh]
  simp
 refine⟨_,rfl, .inl ⟨rfl,_,SqL.of hW⟩,W,_,_,rfl,rfl,hW,wl,?_⟩
 rw[dl]
 have hM1:(L2.upd H W (.lst (ws.map natV))) M=some (.dK (trK ks)):=by rw[j8 MW]; exact hM
 have hW1:(L2.upd H W (.lst (ws.map natV))) W=some (.lst (ws.map natV)):=j9
 have k1:∀ b o,H b=some o->b≠W->(L2.upd H W (.lst (ws.map natV))) b=some o:=fun b o h n=>by rw[j8 n]; exact h
 have hL1:ChAt (L2.upd H W (.lst (ws.map natV))) L ch:=by
  obtain⟨ls,a1,a2,a3⟩:=hL.ex
  exact⟨ls,k1 _ _ a1 (LW _ a1),a2,a3.imp fun l cs r=>r.keep (fun xs z=>k1 _ _ z (rw' _ _ r)) (Tups.upd hW _)⟩
 generalize L2.upd H W (.lst (ws.map natV))=H1 at hM1 hW1 k1 hL1
 refine⟨_,rfl,_,rfl,rfl,_,rfl,?_⟩
 have nf:(!decide (natV m=natV (fullN ch)))=true↔m≠fullN ch:=by
  rw[gj,fU]
  refine not_congr ⟨fun h=>?_,fun h=>by rw[h]⟩
  have:=V.int.inj h
  omega
 refine ite2 (fun h=>?_) (fun h=>?_)
 ·have h:=nf.mp h
  refine⟨_,rfl,_,rfl,L,ch,m,rfl,hL1,ok,hm2,h,fun r H2 ⟨vs,hr2,av⟩ e2 nr=>?_⟩
  have hM2:=e2 _ _ hM1
  have hW2:=e2 _ _ hW1
  have rW:r≠W:=fun z=>by rw[z,hW1] at nr; cases nr
  have rM:r≠M:=fun z=>by rw[z,hM1] at nr; cases nr
  refine⟨r,rfl,⟨_,SqL.of hr2⟩,jCN (xs:=vs) (fun i σ H'=>(∃ v5 v6,σ=[some (.ref L),some (natV (fullN ch)),some (.ref M),some (.ref W),some (natV m),v5,v6])/\(∀ b o,H2 b=some o->b≠M->b≠W->H' b=some o)/\∃ new:List Nat,H' M=some (.dK (trK (ks++new)))/\H' W=some (.lst ((ws++new).map natV))/\(ks++new).Nodup/\(∀ k∈ks++new,k<2 ^ ch.length)/\∀ c∈(chAt ch m).take i,(m|||c.2)∈ks++new) ⟨⟨_,_,rfl⟩,fun b o h _ _=>h,[],by rw[bo]; exact hM2,by rw[bo]; exact hW2,by rw[bo]; exact nd,by rw[bo]; exact hb,fun c hc=>by cases hc⟩ (fun i σ H' _ ⟨_,k,_⟩=>SqL.of (k _ _ hr2 rM rW)) ?_ ?_⟩
  ·rintro i x σ H' hx ⟨⟨v5,v6,rfl⟩,k,new,hM',hW',nd',hb',cl⟩
   obtain⟨c,hc,q,rfl,hq⟩:=av.get' hx
   have qM:q≠M:=fun z=>by rw[z,hM2] at hq; cases hq
   have qW:q≠W:=fun z=>by rw[z,hW2] at hq; cases hq
   have hcm:=aN hc
   obtain⟨u1,u2⟩:=ok.up hm2 h hcm
   have tk:(chAt ch m).take (i+1)=(chAt ch m).take i++[c]:=by rw[bM,hc]; rfl
   refine⟨q,_,rfl,SqT.of (k _ _ hq qM qW),rfl,_,_,rfl,_,_,rfl,rfl,?_⟩
   refine⟨_,rfl,_,rfl,_,_,rfl,rfl,_,rfl,M,_,rfl,jQU hM',_,rfl,?_⟩
   by_cases hin:(m|||c.2)∈ks++new
   ·rw[aq hin]
    refine iteF ⟨⟨_,_,rfl⟩,k,new,hM',hW',nd',hb',fun c' hc'=>?_⟩
    rw[tk] at hc'
    rcases aU.mp hc' with z | z
    ·exact cl c' z
    ·rw[aC] at z
     rw[z]
     exact hin
   ·rw[aj hin]
    have ndn:(ks++(new++[m|||c.2])).Nodup:=by
     rw[<- aX,iu]
     refine⟨nd',by simp,fun a ha b hb z=>?_⟩
     rw[aC] at hb
     exact hin (hb ▸ z ▸ ha)
    have bdn:∀ k∈ks++(new++[m|||c.2]),k<2 ^ ch.length:=fun k hk=>by
     rw[<- aX] at hk
     rcases aU.mp hk with z | z
     ·exact hb' k z
     ·rw[aC] at z
      rw[z]
      exact u2
    have sz:(ks++(new++[m|||c.2])).length<=2 ^ 16:=bA (jAM ndn bdn) (dS (by decide) w16)
    rw[aK,aK] at sz
    have kl:(trK (ks++new)).length<sizeLine:=by
     unfold trK
     rw[ah,aK,aY]
     simp at sz
     omega
    refine iteT ⟨_,rfl,_,rfl,_,rfl,_,_,rfl,rfl,M,_,rfl,jQT hM' hin kl,?_⟩
    have hW3:(L2.upd H' M (.dK (trK (ks++new++[m|||c.2])))) W=some (.lst ((ws++new).map natV)):=by rw[j8 MW.symm]; exact hW'
    have hM3:(L2.upd H' M (.dK (trK (ks++new++[m|||c.2])))) M=some (.dK (trK (ks++(new++[m|||c.2])))):=by rw[j9,aX]
    have k3:∀ b o,H2 b=some o->b≠M->b≠W->(L2.upd H' M (.dK (trK (ks++new++[m|||c.2])))) b=some o:=fun b o hbo n1 n2=>by rw[j8 n1]; exact k b o hbo n1 n2
    generalize L2.upd H' M (.dK (trK (ks++new++[m|||c.2])))=H3 at hW3 hM3 k3
    refine⟨_,rfl, .inl ⟨rfl,_,SqL.of hW3⟩,_,rfl,_,rfl,_,_,rfl,rfl,W,_,_,rfl,rfl,hW3,?_,⟨_,_,rfl⟩,fun b o hbo n1 n2=>by rw[j8 n2]; exact k3 b o hbo n1 n2,new++[m|||c.2],by rw[j8 MW]; exact hM3,?_,ndn,bdn,fun c' hc'=>?_⟩
    ·skip
     rw[ah,aK,aY]
     simp at sz
     omega
    ·rw[j9]
     show some (HO.lst ((ws++new).map natV++[V.int (Builtin.bitOr (m:Int) (c.2:Int))]))=_
     rw[jBO,<- aX]
     exact bR (fun z=>some (HO.lst z)) (bh (f:=natV) (l₁:=ws++new) (l₂:=[m|||c.2])).symm
    ·rw[<- aX,aU]
     rw[tk] at hc'
     rcases aU.mp hc' with z | z
     ·exact .inl (cl c' z)
     ·rw[aC] at z
      rw[z]
      exact .inr (aC.mpr rfl)
  ·rintro σ H' ⟨⟨v5,v6,rfl⟩,k,new,hM',hW',nd',hb',cl⟩
   have:(chAt ch m).take vs.length=chAt ch m:=by rw[av.len,bZ]
   rw[this] at cl
   exact nx H' new _ _ _ (fun b o hbo n1 n2=>k _ _ (e2 _ _ (k1 _ _ hbo n2)) n1 n2) hM' hW' nd' hb' fun _=>cl
 ·have h:m=fullN ch:=bB fun z=>h (nf.mpr z)
  exact nx H1 [] _ _ _ (fun b o hbo n1 n2=>k1 _ _ hbo n2) (by rw[bo]; exact hM1) (by rw[bo]; exact hW1) (by rw[bo]; exact nd) (by rw[bo]; exact hb) fun z=>absurd h z
theorem jSF {fd:FuncData}(F:Fun K "masks_met" "masks_met" sMet f fd)(T:Txt mg)(CF:Can P w K mg base "full_mask" 1 fF fdF ["choices"] jDH)(CA:Can P w K mg base "choices_at" 1 fA fdA ["choices","mask"] spAt):FnOk P w K mg base CX0 2 f fd ["choices"] spMet:=by
 refine F.ok scMet (fun vs H Q E h=>?_) (fun cdv A outer s H vs Q E hr h=>?_)
 ·obtain⟨_,_,rfl,_⟩:=h
  rfl
 ·obtain⟨L,ch,rfl,hL,ok,q⟩:=h
  refine⟨_,(metA T CF CA hr).2.h,?_⟩
  have w16:=ok.w
  refine⟨_,rfl,L,ch,rfl,hL,w16,?_⟩
  refine fun M H1 hM1 e1 nM=>?_
  refine⟨by show (1:Nat)<=_; decide,fun W H2 hW2 e2 nW=>?_⟩
  have hM2:=e2 _ _ hM1
  have nW0:H W=none:=by
   cases z:H W with
   | none=>rfl
   | some o=>rw[e1 _ _ z] at nW; cases nW
  have E2:=e1.trans e2
  have pz:(0:Nat)<2 ^ ch.length:=gM _
  refine⟨fun n σ H'=>(∃ v4 v5 v6,σ=[some (.ref L),some (natV (fullN ch)),some (.ref M),some (.ref W),v4,v5,v6])/\Ext H H'/\∃ ks ws:List Nat,n=2*(2 ^ ch.length - ks.length)+ws.length/\H' M=some (.dK (trK ks))/\H' W=some (.lst (ws.map natV))/\ks.Nodup/\(∀ k∈ks,k<2 ^ ch.length)/\(∀ k∈ws,k∈ks)/\ws.length<=ks.length/\0∈ks/\∀ k∈ks,k∉ws->k≠fullN ch->∀ c∈chAt ch k,(k|||c.2)∈ks,⟨_,⟨_,_,_,rfl⟩,E2,[0],[0],rfl,hM2,hW2,by simp,fun k hk=>by rw[aC] at hk; omega,fun k hk=>hk,aE _,by simp,fun k h1 h2=>absurd h1 h2⟩,?_⟩
  rintro n σ H' ⟨⟨v4,v5,v6,rfl⟩,e,ks,ws,rfl,hM',hW',nd,hb,sub,wl,z0,cl⟩
  refine⟨_,rfl,W,_,rfl, .inl (SqL.of hW'),_,_,rfl,rfl,_,rfl,?_⟩
  rcases List.eq_nil_or_concat ws with hws | ⟨ws',m,hws⟩
  ·subst hws
   refine iteF ?_
   have ksl:=jAM nd hb
   have p16:2 ^ ch.length<=2 ^ 16:=dS (by decide) w16
   refine⟨_,rfl,M,trK ks,ks.map fun k:Nat=>(k:Int),true,rfl,rfl,hM',by unfold trK; rw[bF,bF]; rfl,by rw[ah,aY]; omega,fun l ns hl ord pm=>?_⟩
   obtain⟨js,rfl⟩:∃ js:List Nat,ns=js.map fun k:Nat=>(k:Int):=by
    refine⟨ns.map Int.toNat,?_⟩
    rw[bF]
    refine(fV ns).symm.trans (bx fun x hx=>?_)
    obtain⟨k,_,rfl⟩:=bq.mp (pm.mem_iff.mp hx)
    show ((k:Nat):Int)=(((k:Nat):Int).toNat:Int)
    omega
   have pm':js.Perm ks:=by
    have:=pm.map Int.toNat
    rw[bF,bF] at this
    have e:∀ l:List Nat,l.map (Int.toNat ∘ fun k:Nat=>(k:Int))=l:=fun l=>(bx fun x _=>by show ((x:Nat):Int).toNat=x; omega).trans (fV l)
    rwa [e,e] at this
   refine q l js _ ?_ ?_ ⟨pm'.mem_iff.mpr z0,fun m hm=>hb m (pm'.mem_iff.mp hm),fun m hm hf c hc=>pm'.mem_iff.mpr (cl m (pm'.mem_iff.mp hm) (by simp) hf c hc)⟩ ((Ext.refl _).trans (e.new hl _)) ?_
   ·rw[j9,bF]
    rfl
   ·have nj:js.Nodup:=pm'.nodup_iff.mpr nd
    have:js.Pairwise (fun (a b:Nat)=>(b:Int)<=(a:Int)):=cj.mp ord
    exact(this.and nj).imp fun {a b} h=>by omega
   ·cases z:H l with
    | none=>rfl
    | some o=>rw[e _ _ z] at hl; cases hl
  ·have hws:ws=ws'++[m]:=by rw[hws,List.concat_eq_append]
   subst hws
   have lp:decide ((0:Int)<(((ws'++[m]).map natV).length:Int))=true:=by
    rw[b0,ah,aK]
    show (0:Int)<((ws'.length+1:Nat):Int)
    omega
   show if decide ((0:Int)<(((ws'++[m]).map natV).length:Int))=true then _ else _
   rw[aq lp]
   rw[aK] at wl
   refine⟨fun σ' H''=>(∃ v4 v5 v6,σ'=[some (.ref L),some (natV (fullN ch)),some (.ref M),some (.ref W),v4,v5,v6])/\Ext H H''/\∃ new:List Nat,H'' M=some (.dK (trK (ks++new)))/\H'' W=some (.lst ((ws'++new).map natV))/\(ks++new).Nodup/\(∀ k∈ks++new,k<2 ^ ch.length)/\(m≠fullN ch->∀ c∈chAt ch m,(m|||c.2)∈ks++new),?_,jMZ T CA hr (ks:=ks) (ws:=ws') (m:=m) (hL.ext e) ok hM' hW' nd hb (sub m (by simp)) (by omega) ?_⟩
   ·rintro σ' H'' ⟨hσ,e',new,a1,a2,a3,a4,a5⟩
    have sl:=jAM a3 a4
    rw[aK] at sl
    refine⟨_,?_,hσ,e',ks++new,ws'++new,rfl,a1,a2,a3,a4,fun k hk=>?_,?_,be _ z0,fun k hk hkw hf c hc=>?_⟩
    ·rw[aK,aK,aK]
     simp only [aG,cV]
     omega
    ·rcases aU.mp hk with z | z
     ·exact be _ (sub k (be _ z))
     ·exact aQ _ z
    ·rw[aK,aK]
     omega
    ·by_cases hkm:k=m
     ·subst hkm
      exact a5 hf c hc
     ·rcases aU.mp hk with z | z
      ·refine be _ (cl k z (fun y=>?_) hf c hc)
       rcases aU.mp y with y | y
       ·exact hkw (be _ y)
       ·exact hkm (aC.mp y)
      ·exact absurd (aQ _ z) hkw
   ·intro H'' new v4 v5 v6 kp a1 a2 a3 a4 a5
    refine⟨⟨_,_,_,rfl⟩,fun b o hbo=>?_,new,a1,a2,a3,a4,a5⟩
    refine kp b o (e b o hbo) (fun z=>?_) fun z=>?_
    ·rw[z,nM] at hbo; cases hbo
    ·rw[z,nW0] at hbo; cases hbo
end
end Eo
end
section
namespace L2
open PySem
theorem jP3 {x:Str}{pos:Pos}{o:Option Expr} :SwOk (.Name x pos) o:=⟨fun _ _=>rfl⟩
end L2
namespace Eo
open PySem L2
structure HpOk (φ:Hp->Prop):Prop where
 keep:∀ (H H':Hp) (D:Addr) (kvs:List (Key×V)),H D=some (.dK kvs)->(∃ kvs',H' D=some (.dK kvs'))->(∀ b o,H b=some o->b≠D->H' b=some o)->φ H->φ H'
 ext:∀ H H',Ext H H'->φ H->φ H'
abbrev RepT:=Nat->Hp->V->Prop
def RepOk (R:RepT):Prop:=∀ m v,HpOk fun H=>R m H v
def ItAt (R:RepT)(m:Nat)(H:Hp)(v:V)(c:Int×Nat):Prop:=∃ q u,v= .ref q/\H q=some (.tup [.int c.1,u])/\R (m|||c.2) H u
def jCT (ch:Ch)(R:RepT):Sp:=fun vs H Q _=>∃ (l:Addr) (us:List V) (m:Nat),vs=[.ref l]/\H l=some (.lst us)/\m<2 ^ ch.length/\m≠fullN ch/\All2 (ItAt R m H) us (chAt ch m)/\∀ r H',R m H' r->Ext H H'->Q r H'
def gvs (ns:List Nat)(us:List V):List (Key×V):=(ns.zip us).map fun p:Nat×V=>(Sum.inl (p.1:Int),p.2)
structure GotAt (H:Hp)(r:Addr)(ch:Ch)(R:RepT)(ns:List Nat):Prop where
 ex:∃ us,H r=some (.dK (gvs ns us))/\All2 (fun n u=>R n H u) ns us
theorem jDZ {R:Nat->V->Prop} :∀ {ns:List Nat}{us:List V}{n:Nat},All2 R ns us->ns.Nodup->n∈ns->∃ u,valV (gvs ns us) (.inl (n:Int))=some u/\R n u
 | [],_,_,_,_,h=>by cases h
 | k::ns,[],_,h,_,_=>h.elim
 | k::ns,u::us,n,h,nd,hm=>by
  show ∃ x,valV ((Sum.inl (k:Int),u)::gvs ns us) _=_/\_
  by_cases hk:k=n
  ·subst hk
   exact⟨u,jAW rfl,h.1⟩
  ·rw[jAK (by intro z; have:=fK z; omega)]
   rcases az.mp hm with z | z
   ·exact absurd z.symm hk
   ·exact jDZ h.2 (bK.mp nd).2 z
theorem jBD:∀ {ns:List Nat}{us:List V}{n:Nat},n∉ns->valV (gvs ns us) (.inl (n:Int))=none
 | [],_,_,_=>by
  unfold gvs
  rw[List.zip_nil_left]
  rfl
 | k::ns,[],_,_=>rfl
 | k::ns,u::us,n,h=>by
  show valV ((Sum.inl (k:Int),u)::gvs ns us) _=_
  rw[jAK (by intro z; have:=fK z; exact h (by rw[show n=k by omega]; exact ak ..))]
  exact jBD fun z=>h (ai _ z)
theorem jNI {ns:List Nat}{us:List V}{n:Nat}{u:V}(h:ns.length=us.length):gvs (ns++[n]) (us++[u])=gvs ns us++[(Sum.inl (n:Int),u)]:=by
 unfold gvs
 rw[List.zip_append h,bh]
 rfl
section
variable {P:Program}{w:World}{K:W.Frag}{mg:Str->Option Value}{base:Heap}
variable {f fF fA fM j:Addr}{fdF fdA fdM:FuncData}{cdv:Value}{A:Around}{outer:List Env}{s:Shared}{H0:Hp}{E:XK}{Z:Shared->Hp->Prop}{zh:Hp->Prop}{ch:Ch}{R:RepT}
noncomputable abbrev nGath:List Str:=["choices","at_end","join","full","values","mask"]
theorem scGath:FnScope nGath ["choices","at_end","join"] (j7 yD):=⟨rfl,rfl,rfl,by decide+kernel,rfl,by decide+kernel,by decide+kernel⟩
def jH7 (j:Addr)(zh:Hp->Prop)(ch:Ch)(R:RepT):Sp:=fun vs H Q _=>∃ (L:Addr) (ve:V),vs=[.ref L,ve, .ref j]/\ChAt H L ch/\R (fullN ch) H ve/\zh H/\∀ (r:Addr) (ns:List Nat) (H':Hp),GotAt H' r ch R ns->ns.Pairwise (· > ·)->MetOk ch ns->Ext H H'->H r=none->Q (.ref r) H'
def jLJ (T:Txt mg)(CA:Can P w K mg base "choices_at" 1 fA fdA ["choices","mask"] spAt)(CJ:Callee P w K mg base Z zh 3 j (jCT ch R))(zs:ZSt Z)(hz:Z s H0)(hr:Room 3 (XOf nGath "gathered" yD P w K mg base f cdv A outer s H0 E).A): { t:TS // JSs (XOf nGath "gathered" yD P w K mg base f cdv A outer s H0 E) (jBI ((jB yD).getD 2 (.Pass ⟨0,0,0,0⟩))) t} :=
 have nd:=scGath.nd
 ⟨_,(jF (yE (jZ op_eq (jv 5 rfl vC) (jv 3 rfl vL) (jS _)) (jF (jED (hu_of hr) (jv 4 rfl vC) (jv 5 rfl vC) (jv 1 rfl vL) jP3)) (jF (jED (hu_of hr) (jv 4 rfl vC) (jv 5 rfl vC) (jNC (j:=2) CJ (hr.mono (by decide)) zs hz rfl rfl vL (j4 (jAD (m:=[none,none,some 4,some 5]) (Nc:=["number","more","values","mask"]) rfl (kW (CA.je (hr.mono (by decide)) gD (j4 (jv 0 rfl vL) (j4 (jv 5 rfl vC) jA j6) j6) j6)) rfl (by decide+kernel) (by decide+kernel) (kN (psc:=j7 yD) (by decide+kernel)) (jU (N:=nGath) rfl rfl (by decide+kernel)) (fun cl C fp s H=>jAA (i:=0) (j:=1) rfl (show (["number","more","values","mask"]:List Str).Nodup by decide+kernel) rfl rfl (by decide+kernel) (by decide+kernel)) (fun cl C fp s H=>jAC) (fun cl C fp s H=>(jAR (j4 (jv 0 rfl (kG (by decide+kernel))) (j4 (jEE (hu_of hr) (jv 2 rfl (jEW (by decide+kernel))) (jX op_or (jv 3 rfl (jEW (by decide+kernel))) (jv 1 rfl (kG (by decide+kernel)))) jRR) jA jCV) j6))) kZ) jA jY) jY) kU))))⟩
def gathA (T:Txt mg)(CF:Can P w K mg base "full_mask" 1 fF fdF ["choices"] jDH)(CM:Can P w K mg base "masks_met" 2 fM fdM ["choices"] spMet)(CA:Can P w K mg base "choices_at" 1 fA fdA ["choices","mask"] spAt)(CJ:Callee P w K mg base Z zh 3 j (jCT ch R))(zs:ZSt Z)(hz:Z s H0)(hr:Room 3 (XOf nGath "gathered" yD P w K mg base f cdv A outer s H0 E).A): { t:TS // JSs (XOf nGath "gathered" yD P w K mg base f cdv A outer s H0 E) (jB yD) t} :=
 have nd:=scGath.nd
 ⟨_,(jD (jT (i:=3) nd rfl lL (CF.je (hr.mono (by decide)) gD (j4 (jv 0 rfl vL) jA j6) j6) kU) (jD (jT (i:=4) nd rfl (loc_c (by decide+kernel)) (jHV) jG9) (jD (jBK cw rfl (kW (CM.je (hr.mono (by decide)) gD (j4 (jv 0 rfl vL) jA j6) j6)) (kJ (i:=5) nd rfl (loc_c (by decide+kernel))) (jLJ T CA CJ zs hz hr).2 kZ) (jF (jR (jv 4 rfl vC))))))⟩
theorem jGJ {fd:FuncData}(F:Fun K "gathered" "gathered" yD f fd)(T:Txt mg)(CF:Can P w K mg base "full_mask" 1 fF fdF ["choices"] jDH)(CM:Can P w K mg base "masks_met" 2 fM fdM ["choices"] spMet)(CA:Can P w K mg base "choices_at" 1 fA fdA ["choices","mask"] spAt)(CJ:Callee P w K mg base Z zh 3 j (jCT ch R))(zs:ZSt Z)(zo:HpOk zh)(ro:RepOk R)(ok:ChOk ch):FnZ P w K mg base CX0 Z 4 f fd ["choices","at_end","join"] (jH7 j zh ch R):=by
 refine F.okZ scGath (fun vs H Q E h=>?_) (fun cdv A outer s H vs Q E hr hz h=>?_)
 ·obtain⟨_,_,rfl,_⟩:=h
  rfl
 ·obtain⟨L,ve,rfl,hL,he,hzh,q⟩:=h
  refine⟨_,(gathA T CF CM CA CJ zs hz hr).2.h,?_⟩
  have w16:=ok.w
  have p16:2 ^ ch.length<=2 ^ 16:=dS (by decide) w16
  refine⟨_,rfl,L,ch,rfl,hL,w16,?_⟩
  refine fun D nD=>?_
  have e1:Ext H (L2.upd H D (.dK [])):=(Ext.refl _).new nD _
  have hD1:(L2.upd H D (.dK [])) D=some (.dK []):=j9
  generalize L2.upd H D (.dK [])=H1 at e1 hD1
  refine⟨_,rfl,L,ch,rfl,hL.ext e1,ok,fun r ns H2 hr2 srt mt e2 nr=>?_⟩
  have hD2:=e2 _ _ hD1
  have rD:r≠D:=fun z=>by rw[z,hD1] at nr; cases nr
  have E2:=e1.trans e2
  have nsn:ns.Nodup:=srt.imp fun {a b} h=>by omega
  have nsl:=jAM nsn mt.bnd
  refine⟨r,rfl,⟨_,SqL.of hr2⟩,jCN (xs:=ns.map natV) (fun i σ H'=>(∃ v5,σ=[some (.ref L),some ve,some (.ref j),some (natV (fullN ch)),some (.ref D),v5])/\(∀ b o,H2 b=some o->b≠D->H' b=some o)/\GotAt H' D ch R (ns.take i)) ⟨⟨_,rfl⟩,fun b o h _=>h,[],hD2,trivial⟩ (fun i σ H' _ ⟨_,k,_⟩=>SqL.of (k _ _ hr2 rD)) ?_ ?_⟩
  ·rintro i x σ H' hx ⟨⟨v5,rfl⟩,k,us,hD',au⟩
   obtain⟨m,hm,rfl⟩:∃ m,ns[i]?=some m/\natV m=x:=by
    rw[aP] at hx
    cases hq:ns[i]? with
    | none=>rw[hq] at hx; cases hx
    | some z=>rw[hq] at hx; cases hx; exact⟨z,rfl,rfl⟩
   have hmn:=aN hm
   have hm2:=mt.bnd m hmn
   have il:i<ns.length:=(ar.mp hm).1
   have tk:ns.take (i+1)=ns.take i++[m]:=by rw[bM,hm]; rfl
   have kl:(gvs (ns.take i) us).length<sizeLine:=by
    unfold gvs
    rw[ah,List.length_zip,bP,aY]
    omega
   have kH:∀ b o,H b=some o->H' b=some o:=fun b o h=>k _ _ (E2 _ _ h) fun z=>by rw[z,nD] at h; cases h
   have mi:m∉ns.take i:=fun z=>by
    obtain⟨a,ha⟩:=bH z
    have al:a<i:=by have:=(ar.mp ha).1; rw[bP] at this; omega
    rw[cc al] at ha
    have:=(gh (by omega) nsn).mp (ha.trans hm.symm)
    omega
   have fin:∀ (u:V) (H3:Hp),(∀ b o,H' b=some o->H3 b=some o)->R m H3 u->DPut H3 D (natV m) u (L2.upd H3 D (.dK (gvs (ns.take (i+1)) (us++[u]))))/\((∃ v5,[some (V.ref L),some ve,some (.ref j),some (natV (fullN ch)),some (.ref D),some (natV m)]=[some (V.ref L),some ve,some (.ref j),some (natV (fullN ch)),some (.ref D),v5])/\(∀ b o,H2 b=some o->b≠D->(L2.upd H3 D (.dK (gvs (ns.take (i+1)) (us++[u])))) b=some o)/\GotAt (L2.upd H3 D (.dK (gvs (ns.take (i+1)) (us++[u])))) D ch R (ns.take (i+1))):=fun u H3 e3 ru=>by
    have hD3:=e3 _ _ hD'
    have up:∀ b o,H3 b=some o->b≠D->(L2.upd H3 D (.dK (gvs (ns.take (i+1)) (us++[u])))) b=some o:=fun b o h n=>by rw[j8 n]; exact h
    refine⟨?_,⟨_,rfl⟩,fun b o h n=>up b o (e3 _ _ (k b o h n)) n,us++[u],j9,?_⟩
    ·have:=DPut.k (k:=Sum.inl ((m:Nat):Int)) (v:=u) hD3 kl
     rw[jE2 _ (jBD mi),<- jNI au.len,<- tk] at this
     exact this
    ·rw[tk]
     refine All2.snoc ?_ ((ro m u).keep _ _ D _ hD3 ⟨_,j9⟩ (by rw[<- tk]; exact up) ru)
     rw[<- tk]
     exact au.imp fun n u h=>(ro n u).keep _ _ D _ hD3 ⟨_,j9⟩ up ((ro n u).ext _ _ e3 h)
   refine⟨_,rfl,_,rfl,rfl,_,rfl,?_⟩
   have ef:decide (natV m=natV (fullN ch))=true↔m=fullN ch:=by
    rw[b0]
    exact⟨fun h=>by have:=V.int.inj h; omega,fun h=>by rw[h]⟩
   refine ite2 (fun h=>?_) (fun h=>?_)
   ·have h:=ef.mp h
    obtain⟨f1,f2⟩:=fin ve H' (fun b o h=>h) (by rw[h]; exact(ro _ _).ext _ _ kH he)
    exact⟨_,rfl,_,rfl,_,rfl,D,_,rfl,f1,f2⟩
   ·have h:m≠fullN ch:=fun z=>h (ef.mpr z)
    refine⟨rfl,_,rfl,_,rfl,L,ch,m,rfl,hL.ext kH,ok,hm2,h,fun r4 H4 ⟨vs4,hr4,av4⟩ e4 n4=>?_⟩
    have hD4:=e4 _ _ hD'
    have vl4:vs4.length<=33:=by
     rw[av4.len]
     have hlow:=jDN hm2 h
     refine bA (ce _ _) ?_
     rw[aF,aB hlow]
     exact ok.len _ _ (aB hlow)
    refine⟨r4,rfl,⟨_,SqL.of hr4⟩,jB2 (xs:=vs4) (fun σ=>∃ v1 v2,σ=[v1,v2,some (.ref D),some (natV m)]) (fun H' zs t=>All2 (fun v c=>∃ q u,v= .ref q/\H' q=some (.tup [.int c.1,u])/\R (m|||c.2) H4 u) zs ((chAt ch m).take t)) ⟨fun H=>trivial,fun H H' zs t tu hz=>hz.imp fun v c ⟨q,u,a1,a2,a3⟩=>⟨q,u,a1,tu _ _ a2,a3⟩,fun H zs t hz=>?_⟩ hr4 (by rw[aY]; omega) ⟨_,_,rfl⟩ ?_ ?_⟩
    ·rw[hz.len]
     exact dX _ _
    ·rintro t x σ' H5 zs hx ⟨v1,v2,rfl⟩ e5 hz5 S1 S2 yes no
     obtain⟨c,hc,qa,rfl,hq⟩:=av4.get' hx
     have hcm:=aN hc
     obtain⟨u1,u2⟩:=ok.up hm2 h hcm
     have ut:=mt.up m hmn h c hcm
     have up:(m|||c.2)∈ns.take i:=by
      obtain⟨a,ha⟩:=bH ut
      have al:a<i:=by
       refine bB fun z=>?_
       have a1:=(ar.mp ha)
       have m1:=(ar.mp hm)
       rcases Nat.lt_or_ge i a with y | y
       ·have:=cY.mp srt i a il a1.1 y
        rw[a1.2,m1.2] at this
        omega
       ·have:a=i:=by omega
        subst this
        rw[hm] at ha
        have:=br ha
        omega
      exact aN (i:=a) (by rw[cc al]; exact ha)
     obtain⟨u,hu,ru⟩:=jDZ au (nsn.sublist (eV _ _)) up
     have et:(chAt ch m).take (t+1)=(chAt ch m).take t++[c]:=by rw[bM,hc]; rfl
     have dg:DGet H5 D (.int (Builtin.bitOr (m:Int) (c.2:Int))) (some u):=by
      rw[jBO,<- hu]
      exact DGet.k (k:=Sum.inl (((m|||c.2:Nat):Nat):Int)) (e5 _ _ hD4)
     refine⟨qa,_,rfl,SqT.of (e5 _ _ hq),rfl,_,_,rfl,_,_,rfl,rfl,?_⟩
     dsimp only [yH]
     rw[aq rfl]
     refine⟨_,rfl,_,rfl,_,rfl,_,rfl,_,_,rfl,rfl,D,u,rfl,dg,by show (2:Nat)<=_; decide,fun r6 H6 d6 e6=>yes _ _ _ ⟨_,_,rfl⟩ e6 ?_⟩
     show All2 _ _ ((chAt ch m).take (t+1))
     rw[et]
     exact(hz5.imp fun v c ⟨q,u,a1,a2,a3⟩=>⟨q,u,a1,e6 _ _ a2,a3⟩).snoc ⟨r6,u,rfl,d6,(ro _ _).ext _ _ e4 ru⟩
    ·rintro D7 H7 zs hD7 e7 n7 hz7
     rw[av4.len,bZ] at hz7
     refine⟨zo.ext _ _ (fun b o h=>e7 _ _ (e4 _ _ (kH b o h))) hzh,D7,zs,m,rfl,hD7,hm2,h,hz7.imp fun v c ⟨q,u,a1,a2,a3⟩=>⟨q,u,a1,a2,(ro _ _).ext _ _ e7 a3⟩,fun rr H8 r8 e8=>?_⟩
     obtain⟨f1,f2⟩:=fin rr H8 (fun b o h=>e8 _ _ (e7 _ _ (e4 _ _ h))) r8
     exact⟨_,rfl,_,rfl,D,_,rfl,f1,f2⟩
  ·rintro σ H' ⟨⟨v5,rfl⟩,k,got⟩
   rw[ah,bZ] at got
   exact⟨_,rfl,q D ns H' got srt mt (fun b o h=>k _ _ (E2 _ _ h) fun z=>by rw[z,nD] at h; cases h) nD⟩
end
end Eo
end
section
namespace L2
open PySem
def spEx {α:Type}(p:α->Prop)(sp:α->Sp):Sp:=fun vs H Q E=>∃ a,p a/\sp a vs H Q E
theorem FnOk.ex {α:Type}{p:α->Prop}{sp:α->Sp}{P:Program}{w:World}{K:W.Frag}{mg:Str->Option Value}{base:Heap}{CX:CXT}{k:Nat}{f:Addr}{fd:FuncData}{ps:List Str}(h:∀ a,p a->FnOk P w K mg base CX k f fd ps (sp a)):FnOk P w K mg base CX k f fd ps (spEx p sp):=
 ⟨fun vs H Q E ⟨a,pa,q⟩=>(h a pa).len vs H Q E q,fun A outer s H args us vs Q E hr he hb hv ⟨a,pa,q⟩=>(h a pa).run A outer s H args us vs Q E hr he hb hv q⟩
theorem Callee.mono {P:Program}{w:World}{K:W.Frag}{mg:Str->Option Value}{base:Heap}{Z:Shared->Hp->Prop}{zh:Hp->Prop}{i k:Nat}{a:Addr}{sp:Sp}(C:Callee P w K mg base Z zh i a sp)(h:i<=k):Callee P w K mg base Z zh k a sp:=
 ⟨C.fn,fun A outer s H us vs Q E hr=>C.run A outer s H us vs Q E (hr.mono h)⟩
theorem Callee.imp {P:Program}{w:World}{K:W.Frag}{mg:Str->Option Value}{base:Heap}{Z Z':Shared->Hp->Prop}{zh:Hp->Prop}{k:Nat}{a:Addr}{sp:Sp}(C:Callee P w K mg base Z zh k a sp)(h:∀ s H,Z' s H->Z s H):Callee P w K mg base Z' zh k a sp:=
 ⟨C.fn,fun A outer s H us vs Q E hr he hz=>C.run A outer s H us vs Q E hr he (h _ _ hz)⟩
theorem FnOk.never {P:Program}{w:World}{K:W.Frag}{mg:Str->Option Value}{base:Heap}{CX:CXT}{k:Nat}{f:Addr}{fd:FuncData}{ps:List Str} :FnOk P w K mg base CX k f fd ps (fun _ _ _ _=>False):=
 ⟨fun _ _ _ _ h=>h.elim,fun _ _ _ _ _ _ _ _ _ _ _ _ _ h=>h.elim⟩
theorem jRN {a:Arguments}{b:Expr}{sc:Scope}{pos:Pos}{es:List Expr}{env:Env} :starEach (.Lambda a b sc pos::es) env=(false,eval (.Lambda a b sc pos) env)::starEach es env:=rfl
end L2
namespace Eo
open PySem L2
theorem got0 {H:Hp}{r:Addr}{ch:Ch}{R:RepT}{ns:List Nat}(g:GotAt H r ch R ns)(nd:ns.Pairwise (· > ·))(m:MetOk ch ns):∃ u,DGet H r (.int 0) (some u)/\R 0 H u:=by
 obtain⟨us,h1,h2⟩:=g.ex
 obtain⟨u,hu,ru⟩:=jDZ h2 (nd.imp fun {a b} h=>by omega) m.zero
 refine⟨u,?_,ru⟩
 have:=DGet.k (k:=Sum.inl (0:Int)) h1
 rw[show valV (gvs ns us) (Sum.inl (0:Int))=some u from hu] at this
 exact this
theorem jKB {H H1:Hp}{l:Addr}(e:Ext H H1)(n:H1 l=none):H l=none:=by
 cases z:H l with
 | none=>rfl
 | some o=>rw[e _ _ z] at n; cases n
end Eo
end
section
namespace L2
open PySem PySem.Spec PyProof.Rows
end L2
end
section
namespace Eo
open PySem L2
def jEC (pc:List Int×Int):Int:=pc.1.getD 0 0
def lead (pcs:List (List Int×Int))(t:Int)(i:Nat):Nat:=(pcs.take i).countP fun pc=>decide (jEC pc=t)
theorem jKU {pcs:List (List Int×Int)}{t:Int}{i:Nat}{pc:List Int×Int}(h:pcs[i]?=some pc):lead pcs t (i+1)=lead pcs t i+if jEC pc=t then 1 else 0:=by
 unfold lead
 rw[bM,h]
 show ((pcs.take i)++[pc]).countP _=_
 rw[h8,dD,List.countP_nil]
 simp
def wJ (l:List (Int×List (List Int))):List (List Int):=l.flatMap fun p=>p.2.map fun x=>if p.1<0 then x else p.1::x
def wk (ch:Ch)(m:Nat):List (List Int):=gv ch [[]] wJ m
theorem jEV (a b:List (Int×List (List Int))):wJ (a++b)=wJ a++wJ b:=List.flatMap_append
theorem jBS (ch:Ch):wk ch (fullN ch)=[[]]:=jQL
theorem jB7 {ch:Ch}{m:Nat}(o:ChOk ch)(h:m<2 ^ ch.length)(hn:m≠fullN ch):wk ch m=wJ ((chAt ch m).map fun c=>(c.1,wk ch (m|||c.2))):=jQK o h hn
theorem jHR (w:Nat):lowN (2 ^ w - 1)=w:=by
 refine jSO ?_ fun j hj=>?_
 ·rw[cg,aR (by omega)]
 ·rw[cg,aO hj]
theorem jSN {m c:Nat}(h:c.testBit (lowN m)=true):lowN m<lowN (m|||c):=by
 refine bB fun z=>?_
 have n1:=jE7 (m|||c)
 rw[gf] at n1
 rcases Nat.lt_or_ge (lowN (m|||c)) (lowN m) with y | y
 ·rw[jE8 m _ y] at n1
  cases n1
 ·rw[show lowN (m|||c)=lowN m by omega,h,iY] at n1
  cases n1
theorem jH0 {ch:Ch}(o:ChOk ch){P:Nat->Prop}(h0:P (fullN ch))(hs:∀ m,m<2 ^ ch.length->m≠fullN ch->(∀ c∈chAt ch m,P (m|||c.2))->P m):∀ m,m<2 ^ ch.length->P m:=by
 intro m hm
 generalize hk:fullN ch - m=k
 induction k using strongRecOn generalizing m with
 | _ k ih=>
  by_cases hf:m=fullN ch
  ·rw[hf]
   exact h0
  ·have hlt:m<fullN ch:=by
    unfold fullN at hf ⊢
    omega
   refine hs m hm hf fun c hc=>?_
   obtain⟨u1,u2⟩:=o.up hm hf hc
   exact ih (fullN ch - (m|||c.2)) (by omega) _ u2 rfl
theorem jIT (l:List Int):l.getD 0 0=l.headD 0:=by cases l <;> rfl
theorem jDP (pcs:List (List Int×Int))(t:Nat)(i:Nat)(hi:i<=pcs.length):(((upto pcs.length).take i).filter fun k=>decide ((jP pcs k).headD 0=(t:Int))).length=lead pcs t i:=by
 induction i with
 | zero=>rfl
 | succ i ih=>
  have hil:i<pcs.length:=by omega
  rw[jEZ hil,dE,aK,ih (by omega),jKU (aB hil)]
  congr 1
  rw[gz,List.filter_nil]
  have e:jP pcs (i:Int)=pcs[i].1:=by
   unfold jP
   rw[aZ,aF,aB hil]
   rfl
  unfold jEC
  rw[e,jIT]
  by_cases h:pcs[i].1.headD 0=(t:Int)
  ·rw[aq (aO h),aq h]
   rfl
  ·rw[aj (fun z=>h (bj z)),aj h]
   rfl
theorem jFV {α β:Type}(f:α->List β)(B:Nat):∀ (l:List α),(∀ a∈l,(f a).length<=B)->(l.flatMap f).length<=l.length*B
 | [],_=>by simp
 | a::l,h=>by
  rw[iy,aK,aG,kj]
  have h1:=h a (ak ..)
  have h2:=jFV f B l fun x hx=>h x (ai _ hx)
  omega
section
variable {w:Int}{ms:List Int}{pcs:List (List Int×Int)}(g:Good 16 32 w ms pcs)
include g
end
section
variable {w:Int}{ms:List Int}{pcs:List (List Int×Int)}(g:Good 16 32 w ms pcs)
include g
end
noncomputable def lamOf (s:Stmt):Arguments×Expr×Scope×Pos:=match jB s with
 | [.Return (some (.Call _ [_,_, .Lambda a b sc p] _ _)) _]=>(a,b,sc,p)
 | _=>(jI s, .Constant .none 0 ⟨0,0,0,0⟩,j7 s,⟨0,0,0,0⟩)
abbrev lamA:Arguments:=(lamOf y8).1
abbrev lamB:Expr:=(lamOf y8).2.1
abbrev lamS:Scope:=(lamOf y8).2.2.1
abbrev lamP:Pos:=(lamOf y8).2.2.2
noncomputable abbrev nLam:List Str:=["behind"]
theorem scLam:NScope nLam ["behind"] [] lamS:=⟨rfl,rfl,rfl,by decide+kernel,rfl,by decide+kernel,by decide+kernel,fun x h=>by
  have hl:∀ y∈lamS.names,y.2≠ .free:=by decide+kernel
  exact absurd rfl (hl _ (cA h)),by decide+kernel⟩
def RWay (ch:Ch):RepT:=fun m _ v=>v=natV (wk ch m).length
theorem RWay.ok (ch:Ch):RepOk (RWay ch):=fun _ _=>⟨fun _ _ _ _ _ _ _ h=>h,fun _ _ _ h=>h⟩
theorem jR5 (l:List (Int×List (List Int))):(wJ l).length=(l.map fun p=>p.2.length).sum:=by
 unfold wJ
 rw[List.length_flatMap]
 congr 1
 refine bx fun p _=>?_
 rw[ah]
section
variable {P:Program}{w:World}{K:W.Frag}{mg:Str->Option Value}{base:Heap}
variable {f fG fW fC a c c0 tb:Addr}{fdG fdW fdC:FuncData}{cdv:Value}{cl:List (Str×Addr)}{A:Around}{outer:List Env}{s:Shared}{H0:Hp}{E:XK}
abbrev qLam:Str:= "ways_of.<locals>.<lambda>"
def jN5 (T:Txt mg): { t:TE // JE (cxN P w K mg base nLam qLam lamS a (.ref c) cl A outer s H0) lamB t} :=⟨_,(jG (jDB rfl) (gl_n (by decide+kernel)) T.sum (by decide+kernel) (j4 (jAD (m:=[none,none]) (Nc:=["number","ways"]) rfl (kW (jv 0 rfl (yG (by decide+kernel)))) rfl (by decide+kernel) (by decide+kernel) (fun y hy hf=>absurd hf (by revert y; decide+kernel)) (jU (N:=nLam) rfl rfl (by decide+kernel)) (fun cl C fp s H=>jAA (i:=0) (j:=1) rfl (show (["number","ways"]:List Str).Nodup by decide+kernel) rfl rfl (by decide+kernel) (by decide+kernel)) (fun cl C fp s H=>jAC) (fun cl C fp s H=>(jv 1 rfl (kG (by decide+kernel)))) jAN) jA jY) jY)⟩
def zhW (a c:Addr):Hp->Prop:=fun H=>H a=some (.ext (nlP qLam lamA lamB lamS [] a c))/\H c=some (.ext (ncP qLam c))
theorem zhW.ok (a c:Addr):HpOk (zhW a c):=⟨fun H H' D kvs hD _ k h=>⟨k _ _ h.1 fun z=>(by rw[<- z,h.1] at hD; cases hD),k _ _ h.2 fun z=>(by rw[<- z,h.2] at hD; cases hD)⟩,fun H H' e h=>⟨e _ _ h.1,e _ _ h.2⟩⟩
theorem jSH {ch:Ch}(o:ChOk ch)(T:Txt mg):Callee P w K mg base ZT (zhW a c) 1 a (jCT ch (RWay ch)):=by
 refine Callee.imp (jT5 (fv:=[]) scLam (fun vs H Q E h=>?_) (fun pm ctv us hl=>?_) fun A outer s H vs Q E hr h=>?_) fun s H _=>⟨⟨fun x y c h=>(by cases h),fun x c h=>(by cases h)⟩,rfl,fun i x v h=>(by cases h)⟩
 ·obtain⟨_,_,_,rfl,_⟩:=h
  rfl
 ·match us,hl with
  | [_],_=>rfl
 ·obtain⟨l,us,m,rfl,hl,hm,hf,av,q⟩:=h
  refine⟨_,(jN5 T).2.h,?_⟩
  have vl:us.length<=33:=by
   rw[av.len]
   have hlow:=jDN hm hf
   refine bA (ce _ _) ?_
   rw[aF,aB hlow]
   exact o.len _ _ (aB hlow)
  refine⟨_,rfl,l,rfl,⟨_,SqL.of hl⟩,jB2 (xs:=us) (fun σ=>∃ v1 v2,σ=[v1,v2]) (mapZ (chAt ch m) fun c=>natV (wk ch (m|||c.2)).length) (mapZ.ok _ _) hl (by rw[aY]; omega) ⟨_,_,rfl⟩ ?_ ?_⟩
  ·rintro j x σ' H' zs hx ⟨v1,v2,rfl⟩ e hz S1 S2 yes no
   obtain⟨c,hc,p,u,rfl,hp,hR⟩:=av.get' hx
   have hR:u=natV (wk ch (m|||c.2)).length:=hR
   subst hR
   refine⟨p,_,rfl,SqT.of (e _ _ hp),rfl,_,_,rfl,_,_,rfl,rfl,?_⟩
   dsimp only [yH]
   rw[aq rfl]
   exact⟨_,rfl,yes _ _ _ ⟨_,_,rfl⟩ (Ext.refl _) (hz.yes hc)⟩
  ·rintro D H' zs hD e nD hz
   have hz:=hz.all (by rw[av.len]; exact aE _)
   have hz2:zs=((chAt ch m).map fun c=>((wk ch (m|||c.2)).length:Int)).map V.int:=by rw[hz,bF]; rfl
   rw[hz2] at hD
   refine⟨D,_,rfl,SqL.of hD,q _ _ ?_ e⟩
   show V.int _=natV _
   rw[jB7 o hm hf,jR5,bF]
   congr 1
   generalize chAt ch m=cs
   induction cs with
   | nil=>rfl
   | cons a r ih=>
    rw[ba,eU,ba,eU,ih]
    push_cast
    rfl
noncomputable abbrev nWays:List Str:=["choices"]
theorem scWays:FnScope nWays ["choices"] (j7 y8):=⟨rfl,rfl,rfl,by decide+kernel,rfl,by decide+kernel,by decide+kernel⟩
abbrev TabW (H:Hp)(tb:Addr):Prop:=TabOk H tb lamP qLam
def jGB:Sp:=spEx (fun x:Addr×Addr×Ch=>ChOk x.2.2) fun x=>jH7 x.1 (zhW x.1 x.2.1) x.2.2 (RWay x.2.2)
def jH6 (tb:Addr):Sp:=fun vs H Q _=>∃ (L:Addr) (ch:Ch),vs=[.ref L]/\ChAt H L ch/\ChOk ch/\TabW H tb/\∀ (r:Addr) (ns:List Nat) (H':Hp),GotAt H' r ch (RWay ch) ns->ns.Pairwise (· > ·)->MetOk ch ns->ExtT tb H H'->TabW H' tb->H r=none->Q (.ref r) H'
def waysA (T:Txt mg)(CH:PySem.W.CodeHd base c0 tb)(BM:BltAt base mg)(CG:Can P w K mg base "gathered" 4 fG fdG ["choices","at_end","join"] jGB)(hr:Room 4 (XOf nWays "ways_of" y8 P w K mg base f (.ref c0) A outer s H0 E).A): { t:TS // JSs (XOf nWays "ways_of" y8 P w K mg base f (.ref c0) A outer s H0 E) (jB y8) t} :=
 have nd:=scWays.nd
 ⟨_,(jF (jR (CG.je hr gD (j4 (jv 0 rfl vL) (j4 je_int (j4 (jSY rfl CH BM (fun y hy hf=>absurd hf (by revert y; decide+kernel)) rfl) jA jRN) jE) j6) j6)))⟩
theorem jQ0 {fd:FuncData}(F:FunC K "ways_of" "ways_of" y8 f fd c0)(T:Txt mg)(CH:PySem.W.CodeHd base c0 tb)(BM:BltAt base mg)(CG:Can P w K mg base "gathered" 4 fG fdG ["choices","at_end","join"] jGB):FnOk P w K mg base CX0 5 f fd ["choices"] (jH6 tb):=by
 refine F.ok scWays (fun vs H Q E h=>?_) (fun A outer s H vs Q E hr h=>?_)
 ·obtain⟨_,_,rfl,_⟩:=h
  rfl
 ·obtain⟨L,ch,rfl,hL,o,tab,q⟩:=h
  refine⟨_,(waysA T CH BM CG hr).2.h,?_⟩
  refine⟨_,rfl,tab,fun a c H1 k1 k2 k3 e1 na=>?_⟩
  have hL1:ChAt H1 L ch:=hL.keep (fun b xs h=>e1.at tab h) fun b xs h=>e1.at tab h
  refine⟨(a,c,ch),o,L,_,rfl,hL1,?_,⟨k1,k2⟩,fun r ns H2 got srt mt e2 n2=>?_⟩
  ·show V.int 1=natV _
   rw[jBS]
   rfl
  ·refine q r ns H2 got srt mt (fun b o hb hn=>e2 _ _ (e1 b o hb hn)) (.inr ⟨c,e2 _ _ k3,e2 _ _ k2⟩) ?_
   cases z:H r with
   | none=>rfl
   | some o=>
    by_cases hr:r=tb
    ·rw[hr,k3] at n2
     cases n2
    ·rw[e1 _ _ z hr] at n2
     cases n2
noncomputable abbrev nMany:List Str:=["box"]
theorem scMany:FnScope nMany ["box"] (j7 sMany):=⟨rfl,rfl,rfl,by decide+kernel,rfl,by decide+kernel,by decide+kernel⟩
def jDG (tb:Addr):Sp:=fun vs H Q _=>∃ (b:Addr) (w:Int) (ms:List Int) (pcs:List (List Int×Int)),vs=[.ref b]/\BoxAt H b w ms pcs/\Good 16 32 w ms pcs/\TabW H tb/\∀ H',ExtT tb H H'->TabW H' tb->Q (natV (wk (chs w.toNat ms pcs) 0).length) H'
def manyA (T:Txt mg)(CC:Can P w K mg base "choices_of" 2 fC fdC ["box"] jA7)(CW:Can P w K mg base "ways_of" 5 fW fdW ["choices"] (jH6 tb))(hr:Room 5 (XOf nMany "many" sMany P w K mg base f cdv A outer s H0 E).A): { t:TS // JSs (XOf nMany "many" sMany P w K mg base f cdv A outer s H0 E) (jB sMany) t} :=
 have nd:=scMany.nd
 ⟨_,(jF (jR (jEE (hu_of hr) (CW.je hr gD (j4 (CC.je (hr.mono (by decide)) gD (j4 (jv 0 rfl vL) jA j6) j6) jA jO) jO) je_int kD)))⟩
theorem jQ4 {fd:FuncData}(F:Fun K "many" "many" sMany f fd)(T:Txt mg)(CC:Can P w K mg base "choices_of" 2 fC fdC ["box"] jA7)(CW:Can P w K mg base "ways_of" 5 fW fdW ["choices"] (jH6 tb)):FnOk P w K mg base CX0 6 f fd ["box"] (jDG tb):=by
 refine F.ok scMany (fun vs H Q E h=>?_) (fun cdv A outer s H vs Q E hr h=>?_)
 ·obtain⟨_,_,_,_,rfl,_⟩:=h
  rfl
 ·obtain⟨b,wi,ms,pcs,rfl,hB,g,tab,q⟩:=h
  refine⟨_,(manyA T CC CW hr).2.h,?_⟩
  refine⟨_,rfl,b,wi,ms,pcs,rfl,hB,g,fun L H1 hL1 e1=>?_⟩
  refine⟨L,_,rfl,hL1,jCA g,tab.ext e1,fun r ns H2 got srt mt e2 t2 n2=>?_⟩
  obtain⟨u,dg,ru⟩:=got0 got srt mt
  have ru:u=natV _:=ru
  subst ru
  exact⟨r,_,rfl,dg,q H2 ((ExtT.of e1).trans e2) t2⟩
end
end Eo
end
section
namespace L2
mutual
def wid:Tr->Nat
 | .lst ts=>max ts.length (wids ts)
 | .tup ts=>max ts.length (wids ts)
 | _=>0
def wids:List Tr->Nat
 | []=>0
 | t::ts=>max (wid t) (wids ts)
end
theorem jOW {ts:List Tr}{t:Tr}(h:t∈ts):wid t<=wids ts:=by
 induction ts with
 | nil=>cases h
 | cons a r ih=>
  rw[wids]
  rcases az.mp h with q | q
  ·subst q; omega
  ·have:=ih q; omega
end L2
namespace Eo
open PySem L2
abbrev jOB:List Str:=["found"]
noncomputable abbrev nSame:List Str:=["found","due"]
theorem scWhole:FnScope jOB ["found"] (j7 jBH):=⟨rfl,rfl,rfl,by decide+kernel,rfl,by decide+kernel,by decide+kernel⟩
theorem scSame:FnScope nSame ["found","due"] (j7 yJ):=⟨rfl,rfl,rfl,by decide+kernel,rfl,by decide+kernel,by decide+kernel⟩
section
variable {P:Program}{w:World}{K:W.Frag}{mg:Str->Option Value}{base:Heap}
def jCR:Sp:=fun vs H Q _=>∃ i:Int,vs=[.int i]/\Q (.bl true) H
def jR2 {f:Addr}{cdv:Value}{A:Around}{outer:List Env}{s:Shared}{H:Hp}{E:XK}(T:Txt mg): { t:TS // JSs (XOf jOB "_law_whole" jBH P w K mg base f cdv A outer s H E) (jB jBH) t} :=
 have nd:=scWhole.nd
 ⟨_,(jF (jR ((jFO (jG jN gD T.isinstance (by decide+kernel) (j4 (jv 0 rfl vL) (j4 (kS (v:= .ty "int") gD T.int (by decide+kernel) rfl) jA j6) j6) j6) (jFL (jSX (jG jN gD T.isinstance (by decide+kernel) (j4 (jv 0 rfl vL) (j4 (kS (v:= .ty "bool") gD T.bool (by decide+kernel) rfl) jA j6) j6) j6)))))))⟩
theorem jMT {f:Addr}{fd:FuncData}(F:Fun K "_law_whole" "_law_whole" jBH f fd)(T:Txt mg):FnOk P w K mg base CX0 1 f fd ["found"] jCR:=by
 refine F.ok scWhole (fun vs H Q E h=>?_) (fun cdv A outer s H vs Q E hr h=>?_)
 ·obtain⟨_,rfl,_⟩:=h
  rfl
 ·obtain⟨i,rfl,q⟩:=h
  refine⟨_,(jR2 T).2.h,?_⟩
  refine⟨_,rfl,_,_,_,true,rfl, .int i,rfl,true,rfl,?_⟩
  rw[aq rfl]
  exact⟨_,rfl,_,_,_,false,rfl, .int i,rfl,false,rfl,q⟩
def sameA {k:Nat}{spS:Sp}{f fW fS:Addr}{fdW fdS:FuncData}{cdv:Value}{A:Around}{outer:List Env}{s:Shared}{H:Hp}{E:XK}(T:Txt mg)(CW:Can P w K mg base "_law_whole" 1 fW fdW ["found"] jCR)(CS:Can P w K mg base "_law_same" (k+1) fS fdS ["found","due"] spS)
  (hr:Room (k+1) (XOf nSame "_law_same" yJ P w K mg base f cdv A outer s H E).A): { t:TS // JSs (XOf nSame "_law_same" yJ P w K mg base f cdv A outer s H E) (jB yJ) t} :=
 have nd:=scSame.nd
 ⟨_,(jD (yE (jZ jO8 (jv 1 rfl vL) (jL5) (jS _)) (jF (jR (jBB jO8 (jv 0 rfl vL) (jL5) (jS _)))) kQ)
   (jD (yE (jC9 (jG jN gD T.isinstance (by decide+kernel) (j4 (jv 1 rfl vL) (j4 (kS (v:= .ty "bool") gD T.bool (by decide+kernel) rfl) jA j6) j6) j6) jB8) (jF (jR ((jFO (jG jN gD T.isinstance (by decide+kernel) (j4 (jv 0 rfl vL) (j4 (kS (v:= .ty "bool") gD T.bool (by decide+kernel) rfl) jA j6) j6) j6) (jFL (jBB op_eq (jv 0 rfl vL) (jv 1 rfl vL) (jS _))))))) kQ)
   (jD (yE (jC9 (jG jN gD T.isinstance (by decide+kernel) (j4 (jv 1 rfl vL) (j4 (kS (v:= .ty "int") gD T.int (by decide+kernel) rfl) jA j6) j6) j6) jB8) (jF (jR ((jFO (CW.je (hr.mono (by omega)) gD (j4 (jv 0 rfl vL) jA j6) j6) (jFL (jBB op_eq (jv 0 rfl vL) (jv 1 rfl vL) (jS _))))))) kQ)
   (jD (yE (jC9 (jG jN gD T.isinstance (by decide+kernel) (j4 (jv 1 rfl vL) (j4 (kS (v:= .ty "str") gD T.str (by decide+kernel) rfl) jA j6) j6) j6) jB8) (jF (jR ((jFO (jG jN gD T.isinstance (by decide+kernel) (j4 (jv 0 rfl vL) (j4 (kS (v:= .ty "str") gD T.str (by decide+kernel) rfl) jA j6) j6) j6) (jFL (jBB op_eq (jv 0 rfl vL) (jv 1 rfl vL) (jS _))))))) kQ)
   (jD (yE (jt_w (jw_or (jZ op_ne (jG jN gD T.isinstance (by decide+kernel) (j4 (jv 1 rfl vL) (j4 (kS (v:= .ty "tuple") gD T.tuple (by decide+kernel) rfl) jA j6) j6) j6) (jG jN gD T.isinstance (by decide+kernel) (j4 (jv 0 rfl vL) (j4 (kS (v:= .ty "tuple") gD T.tuple (by decide+kernel) rfl) jA j6) j6) j6) (jS _)) (jOF (jZ op_ne (jG jN gD T.isinstance (by decide+kernel) (j4 (jv 1 rfl vL) (j4 (kS (v:= .ty "list") gD T.list (by decide+kernel) rfl) jA j6) j6) j6) (jG jN gD T.isinstance (by decide+kernel) (j4 (jv 0 rfl vL) (j4 (kS (v:= .ty "list") gD T.list (by decide+kernel) rfl) jA j6) j6) j6) (jS _))))) (jF (jR (je_bl))) kQ)
   (jF (jR ((jFO (jBB op_eq (jG jA0 gD T.len (by decide+kernel) (j4 (jv 0 rfl vL) jA j6) j6) (jG jA0 gD T.len (by decide+kernel) (j4 (jv 1 rfl vL) jA j6) j6) (jS _)) (jFL (jG (jM2 rfl) gD T.all (by decide+kernel) (j4 (jAD (m:=[none,none]) (Nc:=["one","other"]) rfl (jSV gD T.zip (j4 (jv 0 rfl vL) (j4 (jv 1 rfl vL) jA j6) j6) j6) rfl (by decide+kernel) (by decide+kernel) (kN (psc:=j7 yJ) (by decide+kernel)) (jU (N:=nSame) rfl rfl (by decide+kernel)) (fun cl C fp s H=>jAA (i:=0) (j:=1) rfl (show (["one","other"]:List Str).Nodup by decide+kernel) rfl rfl (by decide+kernel) (by decide+kernel)) (fun cl C fp s H=>jAC) (fun cl C fp s H=>(CS.je hr (gl_b (by decide+kernel)) (j4 (jv 0 rfl (kG (by decide+kernel))) (j4 (jv 1 rfl (kG (by decide+kernel))) jA j6) j6) j6)) kZ) jA jY) jY)))))))))))⟩
def spNo:Sp:=fun _ _ _ _=>False
theorem ok_no {k:Nat}{f:Addr}{fd:FuncData}{ps:List Str} :FnOk P w K mg base CX0 k f fd ps spNo:=⟨fun _ _ _ _ h=>h.elim,fun _ _ _ _ _ _ _ _ _ _ _ _ _ h=>h.elim⟩
def jCS (d:Nat):Sp:=fun vs H Q _=>∃ (x y:V) (t:Tr),vs=[x,y]/\TAt H t x/\TAt H t y/\dep t<=d/\wid t<=1000000/\∀ H',Ext H H'->Q (.bl true) H'
def jO3:Nat->Sp
 | 0=>spNo
 | d+1=>jCS d
theorem jNU (n:Nat):(List.replicate n true).all id=true:=by
 induction n with
 | zero=>rfl
 | succ n ih=>rw[cB,fq,ih]; rfl
theorem jHC (d:Nat)(tp:Bool){H:Hp}{p q:Addr}{ts:List Tr}{vs ws:List V}{Q:VK}
  (hp:Sq tp K H p vs) (hq:Sq tp K H q ws) (ex:∀ H',Ext H H'->Sq tp K H' p vs/\Sq tp K H' q ws) (h1:TsAt H ts vs) (h2:TsAt H ts ws) (hd:deps ts<d) (hw:ts.length<=1000000) (hws:wids ts<=1000000) (k:∀ H',Ext H H'->Q (.bl true) H') {m:List (Option Nat)}{σ:St}
  (hm:m=[none,none]):
  CompW m (gTup K 2 (yF (kL 0) (yF (kL 1) gNil))) yH (tCall (jO3 d) [] E0 (tCons (tVar 0) (tCons (tVar 1) tNil))) σ (fun x H1=>∃ (p:Addr) (bs:List Bool),[x]=[.ref p]/\SqL K H1 p (bs.map V.bl)/\Q (.bl (bs.all id)) H1) (Itz tp tp K p q) H:=by
 subst hm
 have l1:=h1.len
 have l2:=h2.len
 refine jNO (xs:=vs) (ys:=ws) (by rw[aY]; omega) (fun D i σ' H' zs=>(∃ v1 v2,σ'=[v1,v2])/\zs=(List.replicate i true).map V.bl/\Ext H H'/\H' D=some (.lst zs)/\H D=none) ?_ ?_ ?_ ?_
 ·intro D hD
  exact⟨⟨_,_,rfl⟩,rfl,(Ext.refl H).new hD _,j9,hD⟩
 ·rintro D i σ' H' zs hD ⟨_,rfl,e,e2,_⟩
  obtain⟨q1,q2⟩:=ex H' e
  refine⟨q1,q2,e2,?_⟩
  rw[ah,dF]
  exact aE _
 ·rintro D i σ' H' zs x y t hD hx hy ht ⟨⟨v1,v2,rfl⟩,rfl,e,e2,hn⟩
  obtain⟨u,hu,hxu⟩:=h1.get hx
  obtain⟨u',hu',hyu⟩:=h2.get hy
  rw[hu] at hu'
  cases hu'
  have tD:D≠t:=jC e2 ht
  have hmem:=aN hu
  have e3:Ext H (upd H' t (.tup [x,y])):=e.new ht _
  refine⟨t,_,rfl,SqT.of j9,rfl,_,_,rfl,_,_,rfl,rfl,?_⟩
  dsimp only [kL,yH]
  rw[aq rfl]
  cases d with
  | zero=>omega
  | succ d=>
   refine⟨_,rfl,_,rfl,x,y,u,rfl,hxu.ext e3,hyu.ext e3,by have:=jEL hmem; omega,by have:=jOW hmem; omega,fun H4 e4=>⟨e4 _ _ (by rw[j8 tD]; exact e2),⟨_,_,rfl⟩,?_,(e3.trans e4).updNew hn _,j9,hn⟩⟩
   rw[List.replicate_succ',bh]
   rfl
 ·rintro D σ' H' zs hD ⟨_,rfl,e,e2,hn⟩
  refine⟨D,_,rfl,SqL.of e2,?_⟩
  rw[jNU]
  exact k H' e
theorem jF9 {f fW:Addr}{fd fdW:FuncData}(d:Nat)(F:Fun K "_law_same" "_law_same" yJ f fd)(T:Txt mg)(CW:Can P w K mg base "_law_whole" 1 fW fdW ["found"] jCR)(CS:Can P w K mg base "_law_same" (d+1) f fd ["found","due"] (jO3 d)):
  FnOk P w K mg base CX0 (d+2) f fd ["found","due"] (jCS d):=by
 refine F.ok scSame (fun vs H Q E h=>?_) (fun cdv A outer s H vs Q E hr h=>?_)
 ·obtain⟨_,_,_,rfl,_⟩:=h
  rfl
 ·obtain⟨x,y,t,rfl,hx,hy,hd,hw,k⟩:=h
  refine⟨_,(sameA T CW CS hr).2.h,?_⟩
  have k0:=k H (Ext.refl H)
  cases t with
  | non=>
   cases (show x= .non from hx)
   cases (show y= .non from hy)
   exact⟨_,rfl,rfl,_,rfl,iteT ⟨_,rfl,rfl,k0⟩⟩
  | bl b=>
   cases (show x= .bl b from hx)
   cases (show y= .bl b from hy)
   refine⟨_,rfl,rfl,_,rfl,iteF ?_⟩
   refine⟨_,rfl,_,_,_,true,rfl, .bl b,rfl,true,rfl,iteT ?_⟩
   refine⟨_,rfl,_,_,_,true,rfl, .bl b,rfl,true,rfl,iteT ⟨_,rfl,_,rfl,rfl,?_⟩⟩
   show Q (.bl (decide (V.bl b=V.bl b))) H
   rw[aO rfl]
   exact k0
  | int i=>
   cases (show x= .int i from hx)
   cases (show y= .int i from hy)
   refine⟨_,rfl,rfl,_,rfl,iteF ?_⟩
   refine⟨_,rfl,_,_,_,false,rfl, .int i,rfl,false,rfl,iteF ?_⟩
   refine⟨_,rfl,_,_,_,true,rfl, .int i,rfl,true,rfl,iteT ?_⟩
   refine⟨_,rfl,_,rfl,true,rfl,iteT ⟨_,rfl,_,rfl,rfl,?_⟩⟩
   show Q (.bl (decide (V.int i=V.int i))) H
   rw[aO rfl]
   exact k0
  | str z=>
   cases (show x= .str z from hx)
   cases (show y= .str z from hy)
   refine⟨_,rfl,rfl,_,rfl,iteF ?_⟩
   refine⟨_,rfl,_,_,_,false,rfl, .str z,rfl,false,rfl,iteF ?_⟩
   refine⟨_,rfl,_,_,_,false,rfl, .str z,rfl,false,rfl,iteF ?_⟩
   refine⟨_,rfl,_,_,_,true,rfl, .str z,rfl,true,rfl,iteT ?_⟩
   refine⟨_,rfl,_,_,_,true,rfl, .str z,rfl,true,rfl,iteT ⟨_,rfl,_,rfl,rfl,?_⟩⟩
   show Q (.bl (decide (V.str z=V.str z))) H
   rw[aO rfl]
   exact k0
  | lst ts=>
   obtain⟨p,vs,rfl,hp,h1⟩:=hx
   obtain⟨q,ws,rfl,hq,h2⟩:=hy
   rw[dep] at hd
   rw[wid] at hw
   refine⟨_,rfl,rfl,_,rfl,iteF ?_⟩
   refine⟨_,rfl,_,_,_,false,rfl, .lst hq,rfl,false,rfl,iteF ?_⟩
   refine⟨_,rfl,_,_,_,false,rfl, .lst hq,rfl,false,rfl,iteF ?_⟩
   refine⟨_,rfl,_,_,_,false,rfl, .lst hq,rfl,false,rfl,iteF ?_⟩
   refine⟨_,rfl,_,_,_,false,rfl, .lst hq,rfl,_,rfl,_,_,_,false,rfl, .lst hp,rfl,rfl,_,rfl,iteF ?_⟩
   refine⟨_,rfl,_,_,_,true,rfl, .lst hq,rfl,_,rfl,_,_,_,true,rfl, .lst hp,rfl,rfl,_,rfl,iteF ?_⟩
   refine⟨_,rfl,p,_,rfl, .inl (SqL.of hp),_,rfl,q,_,rfl, .inl (SqL.of hq),rfl,_,rfl,?_⟩
   rw[show (vs.length:Int)=(ws.length:Int) by rw[h1.len,h2.len],aO rfl]
   refine iteT ⟨_,rfl,_,rfl,false,false,p,q,rfl,⟨_,SqL.of hp⟩,⟨_,SqL.of hq⟩,?_⟩
   exact jHC d false (SqL.of hp) (SqL.of hq) (fun H' e=>⟨SqL.of (e _ _ hp),SqL.of (e _ _ hq)⟩) h1 h2 (by omega) (by omega) (by omega) k rfl
  | tup ts=>
   obtain⟨p,vs,rfl,hp,h1⟩:=hx
   obtain⟨q,ws,rfl,hq,h2⟩:=hy
   rw[dep] at hd
   rw[wid] at hw
   refine⟨_,rfl,rfl,_,rfl,iteF ?_⟩
   refine⟨_,rfl,_,_,_,false,rfl, .tup hq,rfl,false,rfl,iteF ?_⟩
   refine⟨_,rfl,_,_,_,false,rfl, .tup hq,rfl,false,rfl,iteF ?_⟩
   refine⟨_,rfl,_,_,_,false,rfl, .tup hq,rfl,false,rfl,iteF ?_⟩
   refine⟨_,rfl,_,_,_,true,rfl, .tup hq,rfl,_,rfl,_,_,_,true,rfl, .tup hp,rfl,rfl,_,rfl,iteF ?_⟩
   refine⟨_,rfl,_,_,_,false,rfl, .tup hq,rfl,_,rfl,_,_,_,false,rfl, .tup hp,rfl,rfl,_,rfl,iteF ?_⟩
   refine⟨_,rfl,p,_,rfl, .inr (SqT.of hp),_,rfl,q,_,rfl, .inr (SqT.of hq),rfl,_,rfl,?_⟩
   rw[show (vs.length:Int)=(ws.length:Int) by rw[h1.len,h2.len],aO rfl]
   refine iteT ⟨_,rfl,_,rfl,true,true,p,q,rfl,⟨_,SqT.of hp⟩,⟨_,SqT.of hq⟩,?_⟩
   exact jHC d true (SqT.of hp) (SqT.of hq) (fun H' e=>⟨SqT.of (e _ _ hp),SqT.of (e _ _ hq)⟩) h1 h2 (by omega) (by omega) (by omega) k rfl
theorem jHL {f fW:Addr}{fd fdW:FuncData}(F:Fun K "_law_same" "_law_same" yJ f fd)(T:Txt mg)(CW:Can P w K mg base "_law_whole" 1 fW fdW ["found"] jCR)(hm:mg "_law_same" =some (.ref f))(kp:keepIn K (.ref f)=true)(hb:Binds K fd ["found","due"] []):
  ∀ d:Nat,FnOk P w K mg base CX0 (d+2) f fd ["found","due"] (jCS d)
 | 0=>jF9 0 F T CW ⟨ok_no,hm,kp,hb⟩
 | d+1=>jF9 (d+1) F T CW ⟨jHL F T CW hm kp hb d,hm,kp,hb⟩
end
theorem jT8 {w:Int}{ms:List Int}{pcs:List (List Int×Int)}{m:Nat}{c:Int×Nat}(hm:m<2 ^ (chs w.toNat ms pcs).length)(hf:m≠fullN (chs w.toNat ms pcs))(hc:c∈chAt (chs w.toNat ms pcs) m):c.1<pcs.length:=by
 have hl:lowN m<w.toNat:=by
  have:=jDN hm hf
  unfold chs at this
  rwa [kO] at this
 obtain⟨h1,_⟩:=cU.mp hc
 unfold chs at h1
 rw[aF,jA6 hl] at h1
 have h1:c∈kP ms pcs pcs.length (lowN m):=h1
 unfold kP at h1
 rcases aU.mp h1 with z | z
 ·split at z
  ·rw[aC] at z
   rw[z]
   show (-1:Int)<_
   omega
  ·cases z
 ·obtain⟨k,hk,rfl⟩:=bq.mp z
  exact((jH2 pcs.length).bnd k (cn (cU.mp hk).1)).2
abbrev wfS (c:Int)(x:List Int):List Int:=if c<0 then x else c::x
def szN:List (List Int)->Nat
 | []=>0
 | x::r=>max (x.length+1) (szN r)
def cntS (ws:List (List Int))(s:Nat):Nat:=ws.countP fun x=>x.length==s
def szL (ws:List (List Int)):List Nat:=(List.range (szN ws)).map (cntS ws)
theorem jJE:∀ a b:List (List Int),szN (a++b)=max (szN a) (szN b)
 | [],b=>by show szN b=max 0 (szN b); omega
 | x::r,b=>by show max _ (szN (r++b))=max (max _ (szN r)) _; rw[jJE r b]; omega
theorem jNQ (a b:List (List Int))(s:Nat):cntS (a++b) s=cntS a s+cntS b s:=h8 ..
theorem jI8:∀ {ws:List (List Int)}{s:Nat},szN ws<=s->cntS ws s=0
 | [],_,_=>rfl
 | x::r,s,h=>by
  have h:max (x.length+1) (szN r)<=s:=h
  unfold cntS
  rw[List.countP_cons_of_neg (by simp; omega)]
  exact jI8 (by omega)
theorem jE0 (ws:List (List Int)):(szL ws).length=szN ws:=by
 unfold szL
 rw[ah,bX]
theorem jP2 (ws:List (List Int))(s:Nat):(szL ws).getD s 0=cntS ws s:=by
 unfold szL
 rw[aF,aP]
 by_cases h:s<szN ws
 ·rw[dY h]; rfl
 ·rw[bw (by rw[bX]; omega),jI8 (by omega)]; rfl
theorem szN_zero {ws:List (List Int)} :szN ws=0↔ws=[]:=by
 cases ws with
 | nil=>exact⟨fun _=>rfl,fun _=>rfl⟩
 | cons x r=>exact⟨fun h=>by have h:max (x.length+1) (szN r)=0:=h; omega,fun h=>(by cases h)⟩
theorem jO1 {c:Int}(hc:¬ c<0):∀ {W:List (List Int)},W≠ []->szN (W.map (wfS c))=szN W+1
 | [],h=>absurd rfl h
 | [x],_=>by
  show max ((if c<0 then x else c::x).length+1) 0=max (x.length+1) 0+1
  rw[aj hc,aG]
  omega
 | x::y::r,_=>by
  have ih:=jO1 hc (W:=y::r) (by simp)
  show max ((if c<0 then x else c::x).length+1) (szN ((y::r).map (wfS c)))=max (x.length+1) (szN (y::r))+1
  rw[ih,aj hc,aG]
  omega
theorem jLW {c:Int}(hc:¬ c<0)(W:List (List Int))(s:Nat):cntS (W.map (wfS c)) (s+1)=cntS W s/\cntS (W.map (wfS c)) 0=0:=by
 unfold cntS
 rw[i9,i9]
 constructor
 ·refine gn fun x _=>?_
  show (((if c<0 then x else c::x).length==s+1)=true)↔_
  rw[aj hc,aG]
  simp
 ·refine gP.mpr fun x _=>?_
  show ¬ (((if c<0 then x else c::x).length==0)=true)
  rw[aj hc,aG]
  simp
theorem jRH {c:Int}{W:List (List Int)}(ne:W≠ []):szL (W.map (wfS c))=if c<0 then szL W else 0::szL W:=by
 by_cases hc:c<0
 ·rw[aq hc]
  have e:W.map (wfS c)=W:=(bx fun x _=>aq hc).trans (fV _)
  rw[e]
 ·rw[aj hc]
  unfold szL
  rw[jO1 hc ne,ge,ba,bF,(jLW hc W 0).2]
  congr 1
  exact bx fun s _=>(jLW hc W s).1
def sumG (Ls:List (List Nat))(s:Nat):Nat:=(Ls.map fun l=>l.getD s 0).sum
def lenG:List (List Nat)->Nat
 | []=>0
 | l::r=>max l.length (lenG r)
theorem jR4 (cs:List (Int×List (List Int))):szL (wJ cs)=(List.range (lenG ((cs.filter fun p=>decide (0<(szL p.2).length)).map fun p=>szL (p.2.map (wfS p.1))))).map (sumG ((cs.filter fun p=>decide (0<(szL p.2).length)).map fun p=>szL (p.2.map (wfS p.1)))):=by
 have key:∀ cs:List (Int×List (List Int)),szN (wJ cs)=lenG ((cs.filter fun p=>decide (0<(szL p.2).length)).map fun p=>szL (p.2.map (wfS p.1)))/\∀ s,cntS (wJ cs) s=sumG ((cs.filter fun p=>decide (0<(szL p.2).length)).map fun p=>szL (p.2.map (wfS p.1))) s:=fun cs=>by
  induction cs with
  | nil=>exact⟨rfl,fun _=>rfl⟩
  | cons p cs ih=>
   have e:wJ (p::cs)=p.2.map (wfS p.1)++wJ cs:=iy
   rw[e]
   by_cases h:0<(szL p.2).length
   ·rw[eD (by exact aO h),ba]
    refine⟨?_,fun s=>?_⟩
    ·rw[jJE,ih.1]
     show _=max (szL (p.2.map (wfS p.1))).length _
     rw[jE0]
    ·rw[jNQ,ih.2 s]
     show _=(szL (p.2.map (wfS p.1))).getD s 0+_
     rw[jP2]
     rfl
   ·have e0:p.2=[]:=szN_zero.mp (by rw[<- jE0]; omega)
    rw[eE (by simpa using h),e0]
    exact ih
 obtain⟨k1,k2⟩:=key cs
 conv=>lhs; unfold szL
 rw[k1]
 exact bx fun s _=>k2 s
theorem jJD {B:Nat} :∀ {ws:List (List Int)},(∀ x∈ws,x.length+1<=B)->szN ws<=B
 | [],_=>bG _
 | x::r,h=>by
  show max _ (szN r)<=B
  have:=h x (ak ..)
  have:=jJD fun y hy=>h y (ai x hy)
  omega
theorem jMC {ch:Ch}(o:ChOk ch):∀ m,m<2 ^ ch.length->∀ x∈wk ch m,x.length+lowN m<=ch.length:=by
 refine jH0 o ?_ ?_
 ·intro x hx
  rw[jBS,aC] at hx
  rw[hx]
  show 0+lowN (2 ^ ch.length - 1)<=_
  rw[jHR]
  omega
 ·intro m hm hn ih x hx
  rw[jB7 o hm hn] at hx
  obtain⟨p,hp,hx2⟩:=List.mem_flatMap.mp hx
  obtain⟨c,hc,rfl⟩:=bq.mp hp
  obtain⟨y,hy,rfl⟩:=bq.mp hx2
  have h1:=ih c hc y hy
  have hl:lowN m<lowN (m|||c.2):=by
   have hc2:=hc
   unfold chAt at hc2
   obtain⟨g1,_⟩:=cU.mp hc2
   rw[aF] at g1
   cases hg:ch[lowN m]? with
   | none=>rw[hg] at g1; cases g1
   | some cs=>
    rw[hg] at g1
    have b1:=(o.it _ _ hg c g1).1
    refine bB fun z=>?_
    have n:=jE7 (m|||c.2)
    rw[gf,Bool.or_eq_false_iff] at n
    rcases Nat.lt_or_eq_of_le (g7.mp z) with y | y
    ·rw[jE8 m _ y] at n
     cases n.1
    ·rw[y,b1] at n
     cases n.2
  split
  ·omega
  ·rw[aG]; omega
theorem jF0 {ch:Ch}(o:ChOk ch){m:Nat}(hm:m<2 ^ ch.length):(szL (wk ch m)).length<=17:=by
 rw[jE0]
 refine jJD fun x hx=>?_
 have:=jMC o m hm x hx
 have:=o.w
 omega
end Eo
end
section
namespace L2
open PySem
open PySem PySem.Spec PyProof.Rows
def rIxL0 (K:W.Frag):V->V->Hp->VK->Prop:=fun x y H Q=>∃ (p:Addr) (xs:List V) (j:Nat) (z:V),x= .ref p/\y= .int (j:Int)/\SqL K H p xs/\xs[j]?=some z/\Q z H
theorem jNJ {X:Cx} :PGet X (rIxL0 X.K):=by
 intro pins s σ H x y v u Q I rx ry h
 obtain⟨p,xs,j,z,rfl,rfl,hq,he,q⟩:=h
 cases rx
 obtain⟨t,rfl⟩:=ry
 obtain⟨its,r,pl,hz⟩:=I.list hq
 obtain⟨w,ew,rw'⟩:=r.get he
 have hl:=r.length
 have hn:=jDO
 have hj:=(ar.mp he).1
 exact wpAny_getItem_list pl.isList (by omega) (by omega) (by rw[aZ]; simpa using ew) ⟨z,H,I,rw',q⟩
theorem jQH {X:Cx}{o i e:Expr}{to ti te:TE}{tip:TIp}{op:Operator}{tpos pos:Pos}(ho:JE X o to)(hi:JE X i ti)(he:JE X e te)(hp:PIp X op tip)
  (ha:∀ ov iv new,augStore i ov iv new=(do holding [new,ov,iv] (setItem ov iv new); release [new,ov,iv] []; pure .next):=by intros; rfl):JS X (.AugAssign (.Subscript o i tpos) op e pos) (tAugS to ti te (rIxL0 X.K) tip rSetL):=⟨jPI ho.h hi.h jNJ he.h hp jHB ha⟩
end L2
namespace Eo
open PySem L2
theorem jKS {Ls:List (List Nat)}{l:List Nat}(h:l∈Ls):l.length<=lenG Ls:=by
 induction Ls with
 | nil=>cases h
 | cons a r ih=>
  show _<=max a.length (lenG r)
  rcases az.mp h with z | z
  ·rw[z]; omega
  ·have:=ih z; omega
theorem jN4 {Ls:List (List Nat)}{M:Int}(h:M∈Ls.map fun l=>((l.length:Nat):Int))(hm:∀ a∈Ls.map fun l=>((l.length:Nat):Int),a<=M):M=(lenG Ls:Int):=by
 induction Ls generalizing M with
 | nil=>cases h
 | cons a r ih=>
  show M=((max a.length (lenG r):Nat):Int)
  have ha:((a.length:Nat):Int)<=M:=hm _ (ak ..)
  have hr:∀ x∈r,((x.length:Nat):Int)<=M:=fun x hx=>hm _ (ai _ (cD (f:=fun l:List Nat=>((l.length:Nat):Int)) hx))
  have rl:(lenG r:Int)<=M:=by
   clear ih h
   induction r with
   | nil=>show ((0:Nat):Int)<=M; omega
   | cons b r ih2=>
    show ((max b.length (lenG r):Nat):Int)<=M
    have:=hr b (ak ..)
    have:=ih2 (fun x hx=>hm x (by
     rcases az.mp hx with z | z
     ·exact az.mpr (.inl z)
     ·exact ai _ (ai _ z))) fun x hx=>hr x (ai _ hx)
    omega
  rcases az.mp h with z | z
  ·have z:M=((a.length:Nat):Int):=z
   omega
  ·obtain⟨x,hx,e⟩:=bq.mp z
   have e:((x.length:Nat):Int)=M:=e
   have:=jKS hx
   omega
def LsC (D:Addr)(H:Hp)(us:List V)(Ls:List (List Nat)):Prop:=All2 (fun u L=>∃ a,u=V.ref a/\a≠D/\H a=some (.lst (L.map natV))) us Ls
theorem LsC.mono {D:Addr}{H H':Hp}{us:List V}{Ls:List (List Nat)}(h:LsC D H us Ls)(k:∀ a xs,H a=some (.lst xs)->a≠D->H' a=some (.lst xs)):LsC D H' us Ls:=All2.imp (fun _ _ ⟨a,e,n,q⟩=>⟨a,e,n,k _ _ q n⟩) h
def FrH (H00:Hp):Hp->Prop:=fun H=>∀ b,H b=none->H00 b=none
theorem FrH.ok (H00:Hp):HpOk (FrH H00):=⟨fun H H' D kvs hD hD' k h b hb=>h b (by
 cases z:H b with
 | none=>rfl
 | some o=>
  by_cases e:b=D
  ·obtain⟨kvs',y⟩:=hD'
   rw[e,y] at hb
   cases hb
  ·rw[k b o z e] at hb
   cases hb),fun H H' x h b hb=>h b (by
 cases z:H b with
 | none=>rfl
 | some o=>rw[x b o z] at hb; cases hb)⟩
def RSz (H00:Hp)(ch:Ch):RepT:=fun m H v=>∃ a,v= .ref a/\H00 a=none/\H a=some (.lst ((szL (wk ch m)).map natV))
theorem RSz.ok (H00:Hp)(ch:Ch):RepOk (RSz H00 ch):=fun m v=>⟨fun H H' D kvs hD _ k ⟨a,e,n,h⟩=>⟨a,e,n,k _ _ h fun z=>by rw[z,hD] at h; cases h⟩,fun H H' x ⟨a,e,n,h⟩=>⟨a,e,n,x _ _ h⟩⟩
theorem jND {n j:Nat}(h:j<n):ixN n (j:Int)=some j:=by
 unfold ixN
 simp
 omega
section
variable {P:Program}{w:World}{K:W.Frag}{mg:Str->Option Value}{base:Heap}
variable {f fC fG fJ:Addr}{fdC fdG fdJ:FuncData}{cdv:Value}{A:Around}{outer:List Env}{s:Shared}{H0:Hp}{E:XK}
noncomputable abbrev nSzT:List Str:=["behind","lists","together","counts","size","count"]
theorem scSzT:FnScope nSzT ["behind"] (j7 sSzT):=⟨rfl,rfl,rfl,by decide+kernel,rfl,by decide+kernel,by decide+kernel⟩
def szInA (T:Txt mg): { t:TS // JSs (XOf nSzT "sizes_together" sSzT P w K mg base f cdv A outer s H0 E) (jBI ((jB sSzT).getD 2 (.Pass ⟨0,0,0,0⟩))) t} :=
 have nd:=scSzT.nd
 ⟨_,(jF (jBK cw rfl (jGO gD T.enumerate (j4 (jv 3 rfl vL) jA j6) j6) (jCM (i:=4) (j:=5) nd rfl rfl (by decide+kernel) (by decide+kernel)) (jF (jQH (jv 2 rfl vL) (jv 4 rfl vL) (jv 5 rfl vL) jT0)) kZ))⟩
def szTA (T:Txt mg): { t:TS // JSs (XOf nSzT "sizes_together" sSzT P w K mg base f cdv A outer s H0 E) (jB sSzT) t} :=
 have nd:=scSzT.nd
 ⟨_,(jD (jKZ (i:=1) nd rfl lL ⟨by rfl⟩ (m:=[none,none]) (Nc:=["number","counts"]) rfl (kW (jv 0 rfl vL)) rfl (by decide+kernel) (by decide+kernel) (kN (psc:=j7 sSzT) (by decide+kernel)) (jU (N:=nSzT) rfl rfl (by decide+kernel)) (fun cl C fp s H=>jAA (i:=0) (j:=1) rfl (show (["number","counts"]:List Str).Nodup by decide+kernel) rfl rfl (by decide+kernel) (by decide+kernel)) (fun cl C fp s H=>jKX (jZ op_gt (jG jDV (gl_b (by decide+kernel)) T.len (by decide+kernel) (j4 (jv 1 rfl (kG (by decide+kernel))) jA j6) j6) (je_int) (jS _))) (fun cl C fp s H=>(jL7 (jZ op_ge (jv 0 rfl (kG (by decide+kernel))) (je_int) (jS _)) (jX jE3 (jQ (j4 (je_int) jA jE)) (jv 1 rfl (kG (by decide+kernel)))) (jv 1 rfl (kG (by decide+kernel))))) jAN) (jD (jT (i:=2) nd rfl lL (jX jHI (jQ (j4 (je_int) jA jE)) (jFN (jM1 rfl) gD T.max (by decide+kernel) (j4 (jAD (m:=[none]) (Nc:=["counts"]) rfl (kW (jv 1 rfl vL)) rfl (by decide+kernel) (by decide+kernel) (kN (psc:=j7 sSzT) (by decide+kernel)) (jU (N:=nSzT) rfl rfl (by decide+kernel)) (fun cl C fp s H=>kJ (i:=0) (show (["counts"]:List Str).Nodup by decide+kernel) rfl (loc_b (by decide+kernel))) (fun cl C fp s H=>jAC) (fun cl C fp s H=>(jG jDV (gl_b (by decide+kernel)) T.len (by decide+kernel) (j4 (jv 0 rfl (kG (by decide+kernel))) jA j6) j6)) jAN) jA jY) (jL2 je_int jOH) jY)) jF1) (jD (jBK cw rfl (kW (jv 1 rfl vL)) (kJ (i:=3) nd rfl lL) (szInA T).2 jAN) (jF (jR (jv 2 rfl vL))))))⟩
theorem jJF (T:Txt mg){D:Ends}{H:Hp}{t a:Addr}{M:Nat}{L:List Nat}{f0:Nat->Nat}{v0 v1 v4 v5:Option V}(ht:H t=some (.lst (((List.range M).map f0).map natV)))(ha:H a=some (.lst (L.map natV)))(at':a≠t)(lM:L.length<=M)
  (nx:∀ H' v4 v5,H' t=some (.lst (((List.range M).map fun s=>f0 s+L.getD s 0).map natV))->(∀ c o,H c=some o->c≠t->H' c=some o)->D.nx [v0,v1,some (.ref t),some (.ref a),v4,v5] H'):
  (szInA (f:=f) (cdv:=cdv) (A:=A) (outer:=outer) (s:=s) (H0:=H0) (E:=E) (P:=P) (w:=w) (K:=K) (base:=base) T).1 D [v0,v1,some (.ref t),some (.ref a),v4,v5] H:=by
 refine⟨_,rfl,false,a,rfl,⟨_,SqL.of ha⟩,jEI (tp:=false) (xs:=L.map natV) (fun i σ H'=>(∃ v4 v5,σ=[v0,v1,some (.ref t),some (.ref a),v4,v5])/\(∀ c o,H c=some o->c≠t->H' c=some o)/\H' t=some (.lst (((List.range M).map fun s=>f0 s+if s<i then L.getD s 0 else 0).map natV))) ⟨⟨_,_,rfl⟩,fun _ _ h _=>h,?_⟩ (fun i σ H' ⟨_,k,_⟩=>SqL.of (k _ _ ha at')) ?_ ?_⟩
 ·rw[ht]
  have e:((List.range M).map f0)=(List.range M).map fun s=>f0 s+if s<0 then L.getD s 0 else 0:=bx fun s _=>by rw[aj (eN _),dh]
  rw[e]
 ·rintro i x Tp σ H1 hx hT ⟨⟨v4,v5,rfl⟩,k1,t1⟩
  have il:i<L.length:=by have:=(ar.mp hx).1; rwa [ah] at this
  have ex:x=natV (L.getD i 0):=by
   rw[aP,aB il] at hx
   rw[aF,aB il]
   exact(br hx).symm
  subst ex
  have tT:t≠Tp:=fun z=>by rw[z,hT] at t1; cases t1
  have k2:∀ c o,H1 c=some o->(L2.upd H1 Tp (.tup [.int (i:Int),natV (L.getD i 0)])) c=some o:=fun c o h=>by rw[j8 (fun z=>by rw[z,hT] at h; cases h)]; exact h
  have gi:((((List.range M).map fun s=>f0 s+if s<i then L.getD s 0 else 0).map natV))[i]?=some (natV (f0 i)):=by
   rw[aP,aP,dY (by omega)]
   show some (natV (f0 i+if i<i then L.getD i 0 else 0))=_
   rw[aj (cG _),dh]
  refine⟨Tp,_,rfl,SqT.of j9,rfl,_,_,rfl,_,_,rfl,rfl,?_⟩
  refine⟨_,rfl,_,rfl,t,_,i,_,rfl,rfl,SqL.of (k2 _ _ t1),gi,_,rfl,_,_,rfl,rfl,t,_,_,i,rfl,rfl,k2 _ _ t1,?_,⟨_,_,rfl⟩,fun c o h n=>by rw[j8 n]; exact k2 _ _ (k1 _ _ h n),?_⟩
  ·have:=jND (n:=((((List.range M).map fun s=>f0 s+if s<i then L.getD s 0 else 0).map natV)).length) (j:=i) (by rw[ah,ah,bX]; omega)
   exact this
  ·rw[j9]
   congr 2
   refine iw fun j=>?_
   rw[ix,ah,ah,bX]
   by_cases hj:i=j
   ·subst hj
    rw[aq rfl,aq (by omega),aP,aP,dY (by omega)]
    show some (V.int (((f0 i:Nat):Int)+((L.getD i 0:Nat):Int)))=some (natV (f0 i+if i<i+1 then L.getD i 0 else 0))
    rw[aq (iO _)]
    unfold natV
    rw[ja]
   ·rw[aj hj,aP,aP,aP,aP]
    by_cases hM:j<M
    ·rw[dY hM]
     show some (natV (f0 j+if j<i then _ else _))=some (natV (f0 j+if j<i+1 then _ else _))
     by_cases h:j<i
     ·rw[aq h,aq (by omega)]
     ·rw[aj h,aj (by omega)]
    ·rw[bw (by rw[bX]; omega)]
     rfl
 ·rintro σ H1 ⟨⟨v4,v5,rfl⟩,k1,t1⟩
  rw[ah] at t1
  refine nx H1 _ _ ?_ k1
  rw[t1]
  congr 3
  refine bx fun s _=>?_
  by_cases h:s<L.length
  ·rw[aq h]
  ·rw[aj h,aF,bw (by omega)]
   rfl
theorem jSD {fd:FuncData}{ch:Ch}{H00:Hp}(o:ChOk ch)(F:Fun K "sizes_together" "sizes_together" sSzT f fd)(T:Txt mg):FnOk P w K mg base CX0 1 f fd ["behind"] (fun vs H Q E=>FrH H00 H/\jCT ch (RSz H00 ch) vs H Q E):=by
 refine F.ok scSzT (fun vs H Q E h=>?_) (fun cdv A outer s H vs Q E hr h=>?_)
 ·obtain⟨_,_,_,_,rfl,_⟩:=h
  rfl
 ·obtain⟨fr,l,us,m,rfl,hl,hm,hn,al,q⟩:=h
  refine⟨_,(szTA T).2.h,?_⟩
  have ul:=All2.len al
  have c33:(chAt ch m).length<=33:=by
   unfold chAt
   refine bA (ce _ _) ?_
   rw[aF]
   cases hg:ch[lowN m]? with
   | none=>exact bG _
   | some cs=>exact o.len _ _ hg
  have mb:∀ c∈chAt ch m,m|||c.2<2 ^ ch.length:=fun c hc=>by
   unfold chAt at hc
   obtain⟨g1,_⟩:=cU.mp hc
   rw[aF] at g1
   cases hg:ch[lowN m]? with
   | none=>rw[hg] at g1; cases g1
   | some cs=>
    rw[hg] at g1
    exact Nat.or_lt_two_pow hm (o.it _ _ hg c g1).2.1
  let cs:=(chAt ch m).map fun c=>(c.1,wk ch (m|||c.2))
  let pk:Int×List (List Int)->Bool:=fun p=>decide (0<(szL p.2).length)
  let fl:Int×List (List Int)->List Nat:=fun p=>szL (p.2.map (wfS p.1))
  have csl:cs.length=us.length:=by rw[ul]; exact ah ..
  refine⟨_,rfl,l,rfl,⟨_,SqL.of hl⟩,jFW (by rw[aY]; omega) (fun D i σ' H' zs=>(∃ v v',σ'=[v,v'])/\Ext H H'/\H' D=some (.lst zs)/\H D=none/\LsC D H' zs (((cs.take i).filter pk).map fl)) (fun D hD=>⟨⟨_,_,rfl⟩,(Ext.refl _).new hD _,j9,hD,trivial⟩) (fun D i σ' H' zs hD ⟨_,e,d,_,a⟩=>⟨e _ _ hl,d,by
   rw[All2.len a,ah]
   exact bA (ce _ _) (dX _ _)⟩) ?_ ?_⟩
  ·rintro D i σ' H1 zs x hD hx ⟨⟨v,v',rfl⟩,e1,d1,n1,a1⟩
   obtain⟨c,hc,pq,u,rfl,hq,a,rfl,na,ha⟩:=All2.get' al hx
   have hci:cs[i]?=some (c.1,wk ch (m|||c.2)):=by
    show ((chAt ch m).map _)[i]?=_
    rw[aP,hc]
    rfl
   have tk:cs.take (i+1)=cs.take i++[(c.1,wk ch (m|||c.2))]:=by rw[bM,hci]; rfl
   have aD:a≠D:=fun z=>by rw[z,hD] at ha; cases ha
   refine⟨pq,_,rfl,SqT.of (e1 _ _ hq),rfl,_,_,rfl,_,_,rfl,rfl,?_⟩
   have a1':=e1 _ _ ha
   have sl:=jF0 o (mb c (aN hc))
   refine⟨_,rfl,a,_,rfl, .inl (SqL.of a1'),_,_,rfl,rfl,_,rfl,ite2 (fun h=>?_) (fun h=>?_)⟩
   ·have h:(0:Int)<((((szL (wk ch (m|||c.2))).map natV).length:Nat):Int):=bj h
    rw[ah] at h
    have pkc:pk (c.1,wk ch (m|||c.2))=true:=aO (by show 0<(szL (wk ch (m|||c.2))).length; omega)
    have ne:wk ch (m|||c.2)≠ []:=fun z=>by
     rw[jE0,szN_zero.mpr z] at h
     omega
    have ft:((cs.take (i+1)).filter pk).map fl=((cs.take i).filter pk).map fl++[szL ((wk ch (m|||c.2)).map (wfS c.1))]:=by
     rw[tk,dE,bh,eD pkc]
     rfl
    rw[ft,jRH ne]
    have fin:∀ (H2:Hp) (b:Addr) (L:List Nat),Ext H1 H2->b≠D->H2 b=some (.lst (L.map natV))->H2 D=some (.lst zs)/\(∃ v0 v1,[some (V.int c.1),some (V.ref a)]=[v0,v1])/\Ext H (L2.upd H2 D (.lst (zs++[V.ref b])))/\(L2.upd H2 D (.lst (zs++[V.ref b]))) D=some (.lst (zs++[V.ref b]))/\H D=none/\LsC D (L2.upd H2 D (.lst (zs++[V.ref b]))) (zs++[V.ref b]) (((cs.take i).filter pk).map fl++[L]):=fun H2 b L e2 bD hb=>by
     refine⟨e2 _ _ d1,⟨_,_,rfl⟩,(e1.trans e2).updNew hD _,j9,hD,All2.snoc (LsC.mono a1 fun x xs hx nx=>by rw[j8 nx]; exact e2 _ _ hx) ⟨b,rfl,bD,by rw[j8 bD]; exact hb⟩⟩
    refine⟨_,rfl,_,_,rfl,rfl,_,rfl,ite2 (fun h2=>?_) (fun h2=>?_)⟩
    ·have h2:(0:Int)<=c.1:=bj h2
     rw[aj (by omega)]
     refine⟨by show (1:Nat)<=_; decide,fun l2 H2 d2 e2 n2=>⟨_,rfl,l2,a,_,_,rfl,rfl,d2,e2 _ _ a1',by rw[aY,ah]; show 1+_<=_; omega,fun b3 H3 d3 e3 n3=>?_⟩⟩
     exact fin H3 b3 _ (e2.trans e3) (fun z=>by rw[z,e2 _ _ d1] at n3; cases n3) d3
    ·have h2:¬ (0:Int)<=c.1:=fun z=>h2 (aO z)
     rw[aq (by omega)]
     exact⟨_,rfl,fin H1 a _ (Ext.refl _) aD a1'⟩
   ·have h:¬ 0<(szL (wk ch (m|||c.2))).length:=fun z=>h (aO (by show (0:Int)<((((szL (wk ch (m|||c.2))).map natV).length:Nat):Int); rw[ah]; omega))
    have pkc:¬ pk (c.1,wk ch (m|||c.2))=true:=fun z=>h (bj z)
    refine⟨⟨_,_,rfl⟩,e1,d1,n1,?_⟩
    rw[tk,dE,eE pkc]
    show LsC D H1 zs (((cs.take i).filter pk++[]).map fl)
    rw[bo]
    exact a1
  ·rintro D σ' H1 zs hD ⟨_,e1,d1,n1,a1⟩
   have tcs:cs.take us.length=cs:=by rw[<- csl,bZ]
   rw[tcs] at a1
   have res:szL (wk ch m)=(List.range (lenG ((cs.filter pk).map fl))).map (sumG ((cs.filter pk).map fl)):=by
    rw[jB7 o hm hn]
    exact jR4 cs
   have zl:=All2.len a1
   have z33:zs.length<=33:=by
    rw[zl,ah]
    refine bA (ce _ _) ?_
    rw[csl,ul]
    exact c33
   have M17:lenG ((cs.filter pk).map fl)<=17:=by
    have h:=jF0 o hm
    rw[res,ah,bX] at h
    exact h
   generalize hLs:(cs.filter pk).map fl=Ls at a1 res zl M17
   refine⟨by show (1:Nat)<=_; decide,fun l2 H2 d2 e2 n2=>?_⟩
   have d12:=e2 _ _ d1
   refine⟨_,rfl,D,rfl,⟨_,SqL.of d12⟩,jB2 (fun σ=>∃ v,σ=[v]) (mapZ Ls fun L=>natV L.length) (mapZ.ok _ _) d12 (by rw[aY]; omega) ⟨_,rfl⟩ ?_ ?_⟩
   ·rintro j x σ2 H3 zs3 hx ⟨v,rfl⟩ e3 hz S1 S2 yes no
    obtain⟨L,hL,a,rfl,aD,ha⟩:=All2.get' a1 hx
    dsimp only [kL,yH]
    rw[aq rfl]
    refine⟨_,rfl,a,_,rfl, .inl (SqL.of (e3 _ _ (e2 _ _ ha))),?_⟩
    rw[ah]
    exact yes _ _ _ ⟨_,rfl⟩ (Ext.refl _) (mapZ.yes hz hL)
   ·intro Mx H3 zs3 d3 e3 n3 hz
    have hz:=hz.all (by rw[zl]; exact aE _)
    have hz2:zs3=(Ls.map fun L=>((L.length:Nat):Int)).map V.int:=by rw[hz,bF]; rfl
    rw[hz2] at d3
    refine⟨Mx,Ls.map fun L=>((L.length:Nat):Int),0,(lenG Ls:Int),rfl,rfl,SqL.of d3,fun e=>?_,fun m' a b=>jN4 a b,?_⟩
    ·rw[List.map_eq_nil_iff.mp e]
     rfl
    ·have E3:=(e1.trans e2).trans e3
     refine⟨l2,_,_,rfl,rfl,e3 _ _ d2,by omega,by omega,by show 1*_<=_; rw[aY,aZ]; omega,fun t4 h4=>?_⟩
     have rp:(List.replicate ((lenG Ls:Nat):Int).toNat [V.int 0]).flatten=((List.range (lenG Ls)).map fun _=>0).map natV:=by
      rw[aZ]
      clear res M17
      generalize lenG Ls=M
      induction M with
      | zero=>rfl
      | succ M ih=>
       rw[cB,dM,ih,ge,ba,ba]
       show natV 0::_=natV 0::_
       rw[bF,bF,bF]
       rfl
     rw[rp]
     have e4:Ext H3 (L2.upd H3 t4 (.lst (((List.range (lenG Ls)).map fun _=>0).map natV))):=(Ext.refl _).new h4 _
     have d4:(L2.upd H3 t4 (.lst (((List.range (lenG Ls)).map fun _=>0).map natV))) t4=some (.lst (((List.range (lenG Ls)).map fun _=>0).map natV)):=j9
     generalize L2.upd H3 t4 (.lst (((List.range (lenG Ls)).map fun _=>0).map natV))=H4 at e4 d4
     have N4:H t4=none:=jKB E3 h4
     have D4:=e4 _ _ (e3 _ _ d12)
     have tD:D≠t4:=fun z=>by rw[<- z,e3 _ _ d12] at h4; cases h4
     have a4:All2 (fun u L=>∃ a,u=V.ref a/\a≠t4/\H4 a=some (.lst (L.map natV))) zs Ls:=All2.imp (fun u L ⟨a,e,_,ha⟩=>⟨a,e,(fun z=>by rw[<- z,e3 _ _ (e2 _ _ ha)] at h4; cases h4),e4 _ _ (e3 _ _ (e2 _ _ ha))⟩) a1
     refine⟨_,rfl,D,rfl,⟨_,SqL.of D4⟩,jCN (xs:=zs) (fun i σ H'=>(∃ v3 v4 v5,σ=[some (.ref l),some (.ref D),some (.ref t4),v3,v4,v5])/\(∀ c o,H4 c=some o->c≠t4->H' c=some o)/\H' t4=some (.lst (((List.range (lenG Ls)).map (sumG (Ls.take i))).map natV))) ⟨⟨_,_,_,rfl⟩,fun _ _ h _=>h,d4⟩ (fun i σ H' _ ⟨_,k,_⟩=>SqL.of (k _ _ D4 tD)) ?_ ?_⟩
     ·rintro i x σ H5 hx ⟨⟨v3,v4,v5,rfl⟩,k5,t5⟩
      obtain⟨L,hL,a,rfl,at4,ha⟩:=All2.get' a4 hx
      refine jJF T t5 (k5 _ _ ha at4) at4 (jKS (aN hL)) fun H6 v4 v5 t6 k6=>⟨⟨_,_,_,rfl⟩,fun c o h n=>k6 _ _ (k5 _ _ h n) n,?_⟩
      rw[t6]
      have e:((List.range (lenG Ls)).map fun s=>sumG (Ls.take i) s+L.getD s 0)=(List.range (lenG Ls)).map (sumG (Ls.take (i+1))):=bx fun s _=>by
       unfold sumG
       rw[bM,hL,bh,cX]
       show _=_+(L.getD s 0+0)
       rw[dh]
      rw[e]
     ·rintro σ H5 ⟨⟨v3,v4,v5,rfl⟩,k5,t5⟩
      rw[zl,bZ,<- res] at t5
      exact⟨_,rfl,q _ H5 ⟨t4,rfl,fr t4 N4,t5⟩ fun c o h=>k5 _ _ (e4 _ _ (E3 _ _ h)) fun z=>by rw[z,N4] at h; cases h⟩
abbrev jKE:List Str:=["box"]
theorem scSizes:FnScope jKE ["box"] (j7 jB5):=⟨rfl,rfl,rfl,by decide+kernel,rfl,by decide+kernel,by decide+kernel⟩
def jJK (fJ:Addr):Sp:=spEx (fun x:Hp×Ch=>ChOk x.2) fun x=>jH7 fJ (FrH x.1) x.2 (RSz x.1 x.2)
def jGA:Sp:=fun vs H Q _=>∃ (b:Addr) (w:Int) (ms:List Int) (pcs:List (List Int×Int)),vs=[.ref b]/\BoxAt H b w ms pcs/\Good 16 32 w ms pcs/\∀ l H',H' l=some (.lst ((szL (wk (chs w.toNat ms pcs) 0)).map natV))->Ext H H'->H l=none->Q (.ref l) H'
def jRL (T:Txt mg)(CC:Can P w K mg base "choices_of" 2 fC fdC ["box"] jA7)(CG:Can P w K mg base "gathered" 4 fG fdG ["choices","at_end","join"] (jJK fJ))(MJ:mg "sizes_together" =some (.ref fJ))(hr:Room 4 (XOf jKE "sizes" jB5 P w K mg base f cdv A outer s H0 E).A): { t:TS // JSs (XOf jKE "sizes" jB5 P w K mg base f cdv A outer s H0 E) (jB jB5) t} :=
 have nd:=scSizes.nd
 have _h:=T
 ⟨_,(jF (jR (jEE (hu_of hr) (CG.je hr gD (j4 (CC.je (hr.mono (by decide)) gD (j4 (jv 0 rfl vL) jA j6) j6) (j4 (jQ (j4 je_int jA jE)) (j4 (kR (v:= .ref fJ) gD MJ rfl) jA j6) jC8) jO) jO) je_int kD)))⟩
theorem jMU {fd:FuncData}(F:Fun K "sizes" "sizes" jB5 f fd)(T:Txt mg)(CC:Can P w K mg base "choices_of" 2 fC fdC ["box"] jA7)(CG:Can P w K mg base "gathered" 4 fG fdG ["choices","at_end","join"] (jJK fJ))(MJ:mg "sizes_together" =some (.ref fJ)):FnOk P w K mg base CX0 5 f fd ["box"] jGA:=by
 refine F.ok scSizes (fun vs H Q E h=>?_) (fun cdv A outer s H vs Q E hr h=>?_)
 ·obtain⟨_,_,_,_,rfl,_⟩:=h
  rfl
 ·obtain⟨b,wi,ms,pcs,rfl,hB,g,q⟩:=h
  refine⟨_,(jRL T CC CG MJ hr).2.h,?_⟩
  have o:ChOk (chs wi.toNat ms pcs):=jCA g
  refine⟨_,rfl,b,wi,ms,pcs,rfl,hB,g,fun L H1 hL1 e1=>⟨by show (1:Nat)<=_; decide,fun t H2 d2 e2 n2=>?_⟩⟩
  have E2:=e1.trans e2
  have ef:szL (wk (chs wi.toNat ms pcs) (fullN (chs wi.toNat ms pcs)))=[1]:=by rw[jBS]; rfl
  refine⟨(H,chs wi.toNat ms pcs),o,L, .ref t,rfl,hL1.ext e2,⟨t,rfl,jKB e1 n2,by rw[ef]; exact d2⟩,fun c hc=>jKB E2 hc,fun r ns H3 got srt mt e3 n3=>?_⟩
  obtain⟨u,dg,a,rfl,na,ha⟩:=got0 got srt mt
  exact⟨r,_,rfl,dg,q a H3 ha (E2.trans e3) na⟩
end
def lk:List (Int×Nat)->Int->Nat
 | [],_=>0
 | w::r,v=>(if w.1=v then w.2 else 0)+lk r v
def tot (l:List (Int×Nat)):Nat:=(l.map (·.2)).sum
def bump:List (Int×Nat)->Int->Nat->List (Int×Nat)
 | [],v,k=> [(v,k)]
 | w::r,v,k=>if w.1=v then (w.1,w.2+k)::r else w::bump r v k
def kvI (l:List (Int×Nat)):List (Key×V):=l.map fun w=>((Sum.inl w.1:Key),natV w.2)
structure WOk (l:List (Int×Nat)):Prop where
 nd:(l.map (·.1)).Nodup
 pos:∀ w∈l,0<w.2
theorem jKO:∀ (l:List (Int×Nat)) (v:Int) (k:Nat) (u:Int),lk (bump l v k) u=lk l u+if v=u then k else 0
 | [],v,k,u=>by show (if v=u then k else 0)+0=0+_; omega
 | w::r,v,k,u=>by
  unfold bump
  by_cases h:w.1=v
  ·rw[aq h]
   show (if w.1=u then w.2+k else 0)+lk r u=(if w.1=u then w.2 else 0)+lk r u+_
   by_cases h2:w.1=u
   ·rw[aq h2,aq h2,aq (by omega)]; omega
   ·rw[aj h2,aj h2,aj (by omega)]; omega
  ·rw[aj h]
   show _+lk (bump r v k) u=_
   rw[jKO r v k u]
   show _=(if w.1=u then w.2 else 0)+lk r u+_
   omega
theorem jH3:∀ (l:List (Int×Nat)) (v:Int) (k:Nat),tot (bump l v k)=tot l+k
 | [],v,k=>by show k+0=0+k; omega
 | w::r,v,k=>by
  unfold bump
  by_cases h:w.1=v
  ·rw[aq h]
   show w.2+k+tot r=w.2+tot r+k
   omega
  ·rw[aj h]
   show w.2+tot (bump r v k)=w.2+tot r+k
   rw[jH3 r v k]; omega
theorem jFJ:∀ {l:List (Int×Nat)}{v:Int},v∉l.map (·.1)->lk l v=0
 | [],_,_=>rfl
 | w::r,v,h=>by
  show (if w.1=v then w.2 else 0)+lk r v=0
  rw[aj fun z=>h (by rw[<- z]; exact ak ..),jFJ fun z=>h (ai _ z)]
theorem jEQ:∀ {l:List (Int×Nat)}{v:Int}{k:Nat},v∉l.map (·.1)->bump l v k=l++[(v,k)]
 | [],_,_,_=>rfl
 | w::r,v,k,h=>by
  unfold bump
  rw[aj fun z=>h (by rw[<- z]; exact ak ..),jEQ fun z=>h (ai _ z)]
  rfl
theorem jFY:∀ {l:List (Int×Nat)}{v:Int}{k:Nat},v∈l.map (·.1)->(bump l v k).map (·.1)=l.map (·.1)
 | [],_,_,h=>by cases h
 | w::r,v,k,h=>by
  unfold bump
  by_cases z:w.1=v
  ·rw[aq z]; rfl
  ·rw[aj z,ba,ba,jFY]
   rcases az.mp h with y | y
   ·exact absurd y.symm z
   ·exact y
theorem WOk.bump {l:List (Int×Nat)}{v:Int}{k:Nat}(o:WOk l)(hk:0<k):WOk (bump l v k):=by
 constructor
 ·by_cases h:v∈l.map (·.1)
  ·rw[jFY h]; exact o.nd
  ·rw[jEQ h,bh]
   exact jKD o.nd h
 ·intro w hw
  have key:∀ {l:List (Int×Nat)},(∀ w∈l,0<w.2)->∀ w∈Eo.bump l v k,0<w.2:=fun {l} =>by
   induction l with
   | nil=>
    intro _ w hw
    rw[aC.mp hw]
    exact hk
   | cons x r ih=>
    intro hp w hw
    unfold Eo.bump at hw
    split at hw
    ·rcases az.mp hw with y | y
     ·rw[y]; show 0<x.2+k; omega
     ·exact hp w (ai _ y)
    ·rcases az.mp hw with y | y
     ·rw[y]; exact hp x (ak ..)
     ·exact ih (fun z hz=>hp z (ai _ hz)) w y
  exact key o.pos w hw
theorem WOk.len {l:List (Int×Nat)}(o:WOk l):l.length<=tot l:=by
 have key:∀ {l:List (Int×Nat)},(∀ w∈l,0<w.2)->l.length<=tot l:=fun {l} =>by
  induction l with
  | nil=>exact fun _=>aE _
  | cons w r ih=>
   intro h
   have:=h w (ak ..)
   have:=ih fun x hx=>h x (ai _ hx)
   show r.length+1<=w.2+tot r
   omega
 exact key o.pos
theorem jDY {v:Int} :∀ {l:List (Int×Nat)},(l.map (·.1)).Nodup->valV (kvI l) (.inl v)=if v∈l.map (·.1) then some (natV (lk l v)) else none
 | [],_=>rfl
 | w::r,nd=>by
  obtain⟨n1,n2⟩:=bK.mp nd
  show valV (((Sum.inl w.1:Key),natV w.2)::kvI r) _=_
  rw[ba]
  by_cases h:w.1=v
  ·subst h
   rw[jAW rfl,aq (ak ..)]
   show _=some (natV ((if w.1=w.1 then w.2 else 0)+lk r w.1))
   rw[aq rfl,jFJ n1,dh]
  ·rw[jAK (fun z=>h (fK z)),jDY n2]
   have e:lk (w::r) v=lk r v:=by
    show (if w.1=v then w.2 else 0)+lk r v=_
    rw[aj h,dy]
   by_cases h2:v∈r.map (·.1)
   ·rw[aq h2,aq (ai _ h2),e]
   ·rw[aj h2,aj fun z=>(az.mp z).elim (fun z=>h z.symm) h2]
theorem jQO {l:List (Int×Nat)}{v:Int}(nd:(l.map (·.1)).Nodup):(valV (kvI l) (.inl v)).getD (.int 0)=natV (lk l v):=by
 rw[jDY nd]
 by_cases h:v∈l.map (·.1)
 ·rw[aq h]; rfl
 ·rw[aj h,jFJ h]; rfl
theorem jPC {l:List (Int×Nat)}{v:Int}{k:Nat}(nd:(l.map (·.1)).Nodup):putK (kvI l) (.inl v) (natV (lk l v+k))=kvI (bump l v k):=by
 by_cases h:v∈l.map (·.1)
 ·have hany:((kvI l).any fun kv=>decide (kv.1=(Sum.inl v:Key)))=true:=by
   rw[jCF,jDY nd,aq h]
   rfl
  unfold putK
  rw[aq hany]
  clear hany
  induction l with
  | nil=>cases h
  | cons w r ih=>
   obtain⟨n1,n2⟩:=bK.mp nd
   show (if (Sum.inl w.1:Key)=Sum.inl v then ((Sum.inl w.1:Key),natV (lk (w::r) v+k)) else (Sum.inl w.1,natV w.2))::(kvI r).map (fun kv=>if kv.1=Sum.inl v then (kv.1,natV (lk (w::r) v+k)) else kv)=kvI (bump (w::r) v k)
   unfold bump
   by_cases z:w.1=v
   ·rw[aq (by rw[z]),aq z]
    have e:lk (w::r) v=w.2:=by
     show (if w.1=v then w.2 else 0)+lk r v=_
     rw[aq z,jFJ (by rw[<- z]; exact n1),dh]
    rw[e]
    show _::_=((Sum.inl w.1:Key),natV (w.2+k))::kvI r
    congr 1
    refine(bx fun kv hkv=>?_).trans (fV _)
    obtain⟨x,hx,rfl⟩:=bq.mp hkv
    show (if (Sum.inl x.1:Key)=Sum.inl v then _ else _)=_
    rw[aj fun y=>n1 (by show w.1∈_; rw[z,<- fK y]; exact cD hx)]
    rfl
   ·rw[aj fun y=>z (fK y),aj z]
    have e:lk (w::r) v=lk r v:=by
     show (if w.1=v then w.2 else 0)+lk r v=_
     rw[aj z,dy]
    rw[e]
    show _::_=((Sum.inl w.1:Key),natV w.2)::kvI (bump r v k)
    congr 1
    refine ih n2 ?_
    rcases az.mp h with y | y
    ·exact absurd y.symm z
    ·exact y
 ·rw[jE2 _ (by rw[jDY nd,aj h]),jEQ h,jFJ h,dy]
  unfold kvI
  rw[bh]
  rfl
end Eo
end
section
namespace L2
open PySem PySem.Spec PyProof.Rows
theorem Callee.imp2 {P:Program}{w:World}{K:W.Frag}{mg:Str->Option Value}{base:Heap}{Z:Shared->Hp->Prop}{zh zh':Hp->Prop}{k:Nat}{a:Addr}{sp sp':Sp}(C:Callee P w K mg base Z zh k a sp)(h1:∀ H,zh' H->zh H)(h2:∀ vs H Q E,zh' H->sp' vs H Q E->sp vs H Q E):Callee P w K mg base Z zh' k a sp':=
 ⟨fun A outer s H e z=>C.fn A outer s H e (h1 H z),fun A outer s H us vs Q E hr he hz zh r q=>C.run A outer s H us vs Q E hr he hz (h1 H zh) r (h2 _ _ _ _ zh q)⟩
section
variable {X:Cx}
def jRB (i j:Int):TE:=fun _ H Q=>∀ p H',H' p=some (.dK [(Sum.inl i, .int j)])->Ext H H'->H p=none->Q (.ref p) H'
theorem jN8 {i j:Int}{k1 k2:Nat}{p1 p2 pos:Pos} :JE X (.Dict [some (.Constant (.int i) k1 p1)] [.Constant (.int j) k2 p2] pos) (jRB i j):=
 ⟨fun pins s σ H Q I h=>jK1 (jHF je_int.h je_int.h jJX) rfl rfl (by intro z; cases z) (by show 1<=15; decide) pins s σ H Q I fun p hp=>⟨j9,[(.inl i, .int j)],rfl,by show 1<=15; decide,h p _ j9 (((Ext.refl H).new hp _).updNew hp _) hp⟩⟩
end
end L2
namespace Eo
open PySem L2
def wgt (pcs:List (List Int×Int))(k:Int):Int:=(pcs.getD k.toNat ([],0)).2
def wt (pcs:List (List Int×Int))(x:List Int):Int:=(x.map (wgt pcs)).sum
theorem jJ1 (pcs:List (List Int×Int))(c:Int)(x:List Int):wt pcs (c::x)=wgt pcs c+wt pcs x:=by
 unfold wt
 rw[ba,eU]
def cW (pcs:List (List Int×Int))(ws:List (List Int))(v:Int):Nat:=ws.countP fun x=>wt pcs x==v
def chW (pcs:List (List Int×Int))(c:Int):Int:=if c<0 then 0 else wgt pcs c
theorem cW_wf (pcs:List (List Int×Int))(c:Int)(W:List (List Int))(v:Int):cW pcs (W.map (wfS c)) v=cW pcs W (v - chW pcs c):=by
 unfold cW
 rw[i9]
 refine gn fun x _=>?_
 show ((wt pcs (if c<0 then x else c::x)==v)=true)↔((wt pcs x==v - chW pcs c)=true)
 unfold chW
 rw[de,de]
 by_cases h:c<0
 ·rw[aq h,aq h]; omega
 ·rw[aj h,aj h,jJ1]; omega
def bmps:List (Int×Nat)->List (Int×Nat)->Int->List (Int×Nat)
 | l,[],_=>l
 | l,w::r,d=>bmps (bump l (w.1+d) w.2) r d
theorem jFZ (d:Int):∀ (r l:List (Int×Nat)) (w:Int×Nat),bmps l (r++[w]) d=bump (bmps l r d) (w.1+d) w.2
 | [],_,_=>rfl
 | x::r,l,w=>jFZ d r _ w
theorem jGX {d:Int} :∀ {r l:List (Int×Nat)},WOk l->(∀ w∈r,0<w.2)->WOk (bmps l r d)
 | [],_,o,_=>o
 | w::r,l,o,h=>by
  show WOk (bmps (bump l (w.1+d) w.2) r d)
  exact jGX (o.bump (h w (ak ..))) fun x hx=>h x (ai _ hx)
theorem jER (d:Int):∀ (r l:List (Int×Nat)),tot (bmps l r d)=tot l+tot r
 | [],l=>rfl
 | w::r,l=>by
  show tot (bmps (bump l (w.1+d) w.2) r d)=tot l+(w.2+tot r)
  rw[jER d r,jH3]; omega
theorem jM3 (d:Int):∀ (r l:List (Int×Nat)) (v:Int),lk (bmps l r d) v=lk l v+lk r (v - d)
 | [],l,v=>rfl
 | w::r,l,v=>by
  show lk (bmps (bump l (w.1+d) w.2) r d) v=lk l v+((if w.1=v - d then w.2 else 0)+lk r (v - d))
  rw[jM3 d r,jKO]
  by_cases h:w.1=v - d
  ·rw[aq h,aq (by omega)]; omega
  ·rw[aj h,aj (by omega)]; omega
structure WtD (pcs:List (List Int×Int))(ws:List (List Int))(l:List (Int×Nat)):Prop where
 ok:WOk l
 tt:tot l=ws.length
 lk:∀ v,lk l v=cW pcs ws v
theorem WtD.step {pcs:List (List Int×Int)}{ws W:List (List Int)}{l r:List (Int×Nat)}{c:Int}(a:WtD pcs ws l)(b:WtD pcs W r):WtD pcs (ws++W.map (wfS c)) (bmps l r (chW pcs c)):=
 ⟨jGX a.ok b.ok.pos,by rw[jER,a.tt,b.tt,aK,ah],fun v=>by
  rw[jM3,a.lk,b.lk,<- cW_wf]
  exact(h8 ..).symm⟩
def RWt (pcs:List (List Int×Int))(ch:Ch):RepT:=fun m H v=>∃ a ob l,v= .ref a/\H a=some (.frz ob (.dK (kvI l)))/\WtD pcs (wk ch m) l
theorem RWt.ok (pcs:List (List Int×Int))(ch:Ch):RepOk (RWt pcs ch):=fun m v=>⟨fun H H' D kvs hD _ k ⟨a,ob,l,e,h,d⟩=>⟨a,ob,l,e,k _ _ h (fun z=>by rw[z,hD] at h; cases h),d⟩,fun H H' x ⟨a,ob,l,e,h,d⟩=>⟨a,ob,l,e,x _ _ h,d⟩⟩
structure WI where
 a:Addr
 c:Addr
 b:Addr
 w:Int
 ms:List Int
 pcs:List (List Int×Int)
 g:Good 16 32 w ms pcs
 bd:∀ m,m<2 ^ (chs w.toNat ms pcs).length->(wk (chs w.toNat ms pcs) m).length<=1000000
abbrev WI.ch (i:WI):Ch:=chs i.w.toNat i.ms i.pcs
abbrev sWB:Stmt:=(jB sWts).getD 1 (.Pass ⟨0,0,0,0⟩)
abbrev pWB:Pos:=match sWB with
 | .FunctionDef _ _ _ _ _ _ _ _ _ p=>p
 | _=>⟨0,0,0,0⟩
abbrev qWB:Str:= "weights.<locals>.weights_together"
noncomputable abbrev nWB:List Str:=["behind","box","together","number","counts","more","weight","count"]
theorem scWB:NScope nWB ["behind"] ["box"] (j7 sWB):=⟨rfl,rfl,rfl,by decide+kernel,rfl,by decide+kernel,by decide+kernel,fun x h=>by
  have hl:∀ y∈(j7 sWB).names,y.2= .free->y.1= "box" :=by decide+kernel
  rw[aC]
  exact hl _ (cA h) rfl,by decide+kernel⟩
def spWB:List V->Sp:=fun fv vs H Q E=>∃ i:WI,fv=[.ref i.b]/\BoxAt H i.b i.w i.ms i.pcs/\jCT i.ch (RWt i.pcs i.ch) vs H Q E
section
variable {P:Program}{w:World}{K:W.Frag}{mg:Str->Option Value}{base:Heap}
variable {f fG fC a c c0 tb:Addr}{fdG fdC:FuncData}{cd:Value}{cl:List (Str×Addr)}{A:Around}{outer:List Env}{s:Shared}{H0:Hp}{E:XK}
def wbInA (T:Txt mg)(hr:Room 0 (cxN P w K mg base nWB qWB (j7 sWB) f cd cl A outer s H0).A): { t:TS // JSs (cxN P w K mg base nWB qWB (j7 sWB) f cd cl A outer s H0) (jBI ((jBI ((jB sWB).getD 1 (.Pass ⟨0,0,0,0⟩))).getD 1 (.Pass ⟨0,0,0,0⟩))) t} :=
 have nd:=scWB.nd
 have _h:=T
 ⟨_,(jF (jED (hu_of hr) (jv 2 rfl (yG (by decide+kernel))) (jX y9 (jv 6 rfl (yG (by decide+kernel))) (jv 5 rfl (yG (by decide+kernel)))) (jX y9 (jNA (hu_of hr) (jv 2 rfl (yG (by decide+kernel))) (jX y9 (jv 6 rfl (yG (by decide+kernel))) (jv 5 rfl (yG (by decide+kernel)))) je_int jBG jE) (jv 7 rfl (yG (by decide+kernel)))) jF1))⟩
def jJ3 (T:Txt mg)(hr:Room 0 (cxN P w K mg base nWB qWB (j7 sWB) f cd cl A outer s H0).A): { t:TS // JSs (cxN P w K mg base nWB qWB (j7 sWB) f cd cl A outer s H0) (jBI ((jB sWB).getD 1 (.Pass ⟨0,0,0,0⟩))) t} :=
 have nd:=scWB.nd
 ⟨_,(jD (jT (i:=5) nd rfl (loc_n (by decide+kernel)) (jL7 (jZ op_ge (jv 3 rfl (yG (by decide+kernel))) (je_int) (jS _)) (yI jBL (yI jBL (yI jBL (jv 1 rfl (jR7 (by decide+kernel))) (je_int) kD) (jv 3 rfl (yG (by decide+kernel))) jJS) (je_int) kD) (je_int)) jRK) (jF (jBK cw rfl (jN7 (jv 4 rfl (yG (by decide+kernel)))) (jHU (i:=6) (j:=7) nd rfl rfl (by decide+kernel) (by decide+kernel)) (wbInA T hr).2 kZ)))⟩
def wbehA (T:Txt mg)(hr:Room 0 (cxN P w K mg base nWB qWB (j7 sWB) f cd cl A outer s H0).A): { t:TS // JSs (cxN P w K mg base nWB qWB (j7 sWB) f cd cl A outer s H0) (jB sWB) t} :=
 have nd:=scWB.nd
 ⟨_,(jD (jT (i:=2) nd rfl (loc_n (by decide+kernel)) (jHV) jG9) (jD (jBK cw rfl (kW (jv 0 rfl (yG (by decide+kernel)))) (jHU (i:=3) (j:=4) nd rfl rfl (by decide+kernel) (by decide+kernel)) (jJ3 T hr).2 jAN) (jF (jR (jOI (jv 2 rfl (yG (by decide+kernel))))))))⟩
theorem wb_in (T:Txt mg)(hr:Room 0 (cxN P w K mg base nWB qWB (j7 sWB) f cd cl A outer s H0).A){D:Ends}{H:Hp}{t:Addr}{l:List (Int×Nat)}{u d:Int}{k:Nat}{v0 v1 v3 v4:Option V}(ht:H t=some (.dK (kvI l)))(o:WOk l)(ll:l.length<=2000000)
  (nx:D.nx [v0,v1,some (.ref t),v3,v4,some (.int d),some (.int u),some (natV k)] (L2.upd H t (.dK (kvI (bump l (u+d) k))))):
  (wbInA T hr).1 D [v0,v1,some (.ref t),v3,v4,some (.int d),some (.int u),some (natV k)] H:=by
 have kl:(kvI l).length<=2000000:=by unfold kvI; rw[ah]; exact ll
 refine⟨_,rfl,t,rfl, .inl ⟨_, .inl ht⟩,_,rfl,_,rfl,_,_,rfl,rfl,_,DGet.k (k:=Sum.inl (u+d)) ht,?_⟩
 rw[jQO o.nd]
 refine⟨_,rfl,_,_,rfl,rfl,?_⟩
 refine⟨_,rfl,_,rfl,_,rfl,_,_,rfl,rfl,t,_,rfl,DPut.k (k:=Sum.inl (u+d)) ht (by rw[aY]; omega),?_⟩
 have e:putK (kvI l) (Sum.inl (u+d)) (.int (((lk l (u+d):Nat):Int)+((k:Nat):Int)))=kvI (bump l (u+d) k):=by
  rw[<- jPC o.nd]
  unfold natV
  rw[ja]
 rw[e]
 exact nx
theorem jQD {l:List (Int×Nat)}{i:Nat}{k:Key}{y:V}(h:(kvI l)[i]?=some (k,y)):∃ w,l[i]?=some w/\k=Sum.inl w.1/\y=natV w.2:=by
 unfold kvI at h
 rw[aP] at h
 cases hw:l[i]? with
 | none=>rw[hw] at h; cases h
 | some w=>
  rw[hw] at h
  cases h
  exact⟨w,rfl,rfl,rfl⟩
theorem jOY (T:Txt mg)(hr:Room 0 (cxN P w K mg base nWB qWB (j7 sWB) f cd cl A outer s H0).A){D:Ends}{H:Hp}{b t a:Addr}{ob:Obj}{l r:List (Int×Nat)}{c:Int}{wi:Int}{ms:List Int}{pcs:List (List Int×Int)}{v0 v5 v6 v7:Option V}(hB:BoxAt H b wi ms pcs)(ht:H t=some (.dK (kvI l)))(ha:H a=some (.frz ob (.dK (kvI r))))(o:WOk l)(or:WOk r)(ll:tot l+tot r<=2000000)(c0: -1<=c)(c1:c<pcs.length)
  (nx:∀ H' v5 v6 v7,H' t=some (.dK (kvI (bmps l r (chW pcs c))))->(∀ x u,H x=some u->x≠t->H' x=some u)->D.nx [v0,some (.ref b),some (.ref t),some (.int c),some (.ref a),v5,v6,v7] H'):
  (jJ3 T hr).1 D [v0,some (.ref b),some (.ref t),some (.int c),some (.ref a),v5,v6,v7] H:=by
 obtain⟨qm,qp,ps,b1,b2,b3,b4⟩:=id hB.ex
 have at':a≠t:=fun z=>by rw[z,ht] at ha; cases ha
 have rl:=or.len
 have main:∀ (d:Int),d=chW pcs c->tFor (jLD (tVar 4)) (gTup K 2 (yF (kL 6) (yF (kL 7) gNil))) (wbInA T hr).1 D [v0,some (.ref b),some (.ref t),some (.int c),some (.ref a),some (.int d),v6,v7] H:=fun d hd=>by
  refine⟨_,rfl,a,kvI r,rfl, .inr ⟨ob,ha⟩,fun ob' hob=>?_⟩
  have e:ob=ob':=hob ob ha
  subst e
  have eH:L2.upd H a (.frz ob (.dK (kvI r)))=H:=by
   funext x
   by_cases z:x=a
   ·rw[z,j9,ha]
   ·rw[j8 z]
  rw[eH]
  refine jLM (fun i σ H'=>(∃ v6 v7,σ=[v0,some (.ref b),some (.ref t),some (.int c),some (.ref a),some (.int d),v6,v7])/\(∀ x u,H x=some u->x≠t->H' x=some u)/\H' t=some (.dK (kvI (bmps l (r.take i) d)))) ⟨⟨_,_,rfl⟩,fun _ _ h _=>h,ht⟩ (fun i σ H' ⟨_,k,_⟩=>k _ _ ha at') ?_ ?_
  ·rintro i k y Tp σ H1 hk hT ⟨⟨v6,v7,rfl⟩,k1,t1⟩
   obtain⟨w,hw,rfl,rfl⟩:=jQD hk
   have e5:∀ x u,H1 x=some u->(L2.upd H1 Tp (.tup [kV (Sum.inl w.1),natV w.2])) x=some u:=fun x u h=>by rw[j8 (fun z=>by rw[z,hT] at h; cases h)]; exact h
   refine⟨Tp,_,rfl,SqT.of j9,rfl,_,_,rfl,_,_,rfl,rfl,?_⟩
   have okk:=jGX (d:=d) (r:=r.take i) o fun x hx=>or.pos x (cn hx)
   have bl:=okk.len
   rw[jER] at bl
   have tl:tot (r.take i)<=tot r:=by
    have:tot r=tot (r.take i)+tot (r.drop i):=by
     unfold tot
     rw[<- cX,<- bh,bf]
    omega
   refine wb_in T hr (e5 _ _ t1) okk (by omega) ⟨⟨_,_,rfl⟩,fun x u h n=>by rw[j8 n]; exact e5 _ _ (k1 _ _ h n),?_⟩
   rw[j9,bM,hw]
   show some (HO.dK (kvI (bump (bmps l (r.take i) d) (w.1+d) w.2)))=some (HO.dK (kvI (bmps l (r.take i++[w]) d)))
   rw[jFZ]
  ·rintro σ H1 ⟨⟨v6,v7,rfl⟩,k1,t1⟩
   have el:(kvI r).length=r.length:=ah ..
   rw[el,bZ] at t1
   exact nx H1 _ _ _ (by rw[<- hd]; exact t1) k1
 refine⟨_,rfl,_,_,rfl,rfl,_,rfl,ite2 (fun h=>?_) (fun h=>?_)⟩
 ·have h:(0:Int)<=c:=bj h
  obtain⟨pv,hpv,pa,pw,rfl,ha1,ha2⟩:=b4.get (k:=c.toNat) (by omega)
  have at1:atI ps c=some (.ref pa):=by
   have:=jC6 hpv
   rwa [show ((c.toNat:Nat):Int)=c by omega] at this
  refine⟨_,rfl,b,_,2,_,rfl,rfl,SqT.of b1,rfl,_,rfl,qp,_,c,_,rfl,rfl,SqT.of b3,at1,pa,_,1,_,rfl,rfl,SqT.of ha1,rfl,?_⟩
  exact main _ (by unfold chW; rw[aj (by omega)]; rfl)
 ·have h:¬ (0:Int)<=c:=fun z=>h (aO z)
  exact main 0 (by unfold chW; rw[aq (by omega)])
def preT (ch:Ch)(m i:Nat):List (List Int):=wJ (((chAt ch m).take i).map fun c=>(c.1,wk ch (m|||c.2)))
theorem jJU {ch:Ch}{m i:Nat}{c:Int×Nat}(h:(chAt ch m)[i]?=some c):preT ch m (i+1)=preT ch m i++(wk ch (m|||c.2)).map (wfS c.1):=by
 unfold preT
 rw[bM,h,bh,jEV]
 congr 1
 unfold wJ
 exact List.flatMap_singleton _ _
theorem jMN {ch:Ch}{m:Nat}(o:ChOk ch)(h:m<2 ^ ch.length)(hn:m≠fullN ch):preT ch m (chAt ch m).length=wk ch m:=by
 unfold preT
 rw[bZ,jB7 o h hn]
theorem jPJ {ch:Ch}{m i:Nat}(o:ChOk ch)(h:m<2 ^ ch.length)(hn:m≠fullN ch):(preT ch m i).length<=(wk ch m).length:=by
 rw[jB7 o h hn]
 have e:(chAt ch m).map (fun c=>(c.1,wk ch (m|||c.2)))=((chAt ch m).take i).map (fun c=>(c.1,wk ch (m|||c.2)))++((chAt ch m).drop i).map (fun c=>(c.1,wk ch (m|||c.2))):=by
  rw[<- bh,bf]
 rw[e,jEV,aK]
 exact dZ _ _
theorem jPZ (T:Txt mg):FnN P w K mg base 1 "weights_together" qWB (jI sWB) (jB sWB) (j7 sWB) ["behind"] ["box"] spWB:=by
 refine jT4 scWB (fun fv vs H Q E h=>?_) (fun cl doc pm c ctv us hl=>?_) fun A outer s H a c cl vs fv Q E hr h=>?_
 ·obtain⟨i,rfl,_,_,_,_,rfl,_⟩:=h
  rfl
 ·match us,hl with
  | [_],_=>rfl
 ·obtain⟨⟨_,_,b,w,ms,pcs,g,bd⟩,rfl,hB,l,us,m,rfl,hl,hm,hf,av,q⟩:=h
  refine⟨_,(wbehA T hr).2.h,?_⟩
  have o:ChOk (chs w.toNat ms pcs):=jCA g
  have ul:=All2.len av
  intro t ht
  have e1:Ext H (L2.upd H t (.dK [])):=(Ext.refl _).new ht _
  have d1:(L2.upd H t (.dK [])) t=some (.dK []):=j9
  generalize L2.upd H t (.dK [])=H1 at e1 d1
  refine⟨_,rfl,l,rfl,⟨_,SqL.of (e1 _ _ hl)⟩,jCN (xs:=us) (fun i σ H'=>Ext H H'/\(∃ v3 v4 v5 v6 v7,σ=[some (.ref l),some (.ref b),some (.ref t),v3,v4,v5,v6,v7])/\∃ ll,H' t=some (.dK (kvI ll))/\WtD pcs (preT (chs w.toNat ms pcs) m i) ll) ⟨e1,⟨_,_,_,_,_,rfl⟩,[],d1,⟨⟨gm,fun _ h=>by cases h⟩,rfl,fun _=>rfl⟩⟩ (fun i σ H' _ ⟨e,_⟩=>SqL.of (e _ _ hl)) ?_ ?_⟩
  ·rintro i x σ H' hx ⟨e,⟨v3,v4,v5,v6,v7,rfl⟩,ll,ht',wd⟩
   obtain⟨c,hc,p,u,rfl,hp,a,ob,r,rfl,ha,wr⟩:=All2.get' av hx
   have cm:=aN hc
   obtain⟨m1,m2,m3,m4,m5⟩:=o.mem hm hf cm
   have mup:=(o.up hm hf cm).2
   have hlt:=jT8 hm hf cm
   have b1:=bd m hm
   have b2:=bd _ mup
   have b3:=jPJ (i:=i) o hm hf
   have wr:WtD pcs (wk (chs w.toNat ms pcs) (m|||c.2)) r:=wr
   have hlt:c.1<pcs.length:=hlt
   refine⟨p,_,rfl,SqT.of (e _ _ hp),rfl,_,_,rfl,_,_,rfl,rfl,?_⟩
   refine jOY T hr (hB.mono e.tups) ht' (e _ _ ha) wd.ok wr.ok (by rw[wd.tt,wr.tt]; omega) (by omega) (by omega) fun H2 v5 v6 v7 t2 k2=>⟨(fun x u h=>k2 _ _ (e _ _ h) fun z=>by rw[z,ht] at h; cases h),⟨_,_,_,_,_,rfl⟩,_,t2,?_⟩
   rw[jJU hc]
   exact wd.step wr
  ·rintro σ H' ⟨e,⟨v3,v4,v5,v6,v7,rfl⟩,ll,ht',wd⟩
   rw[ul,jMN o hm hf] at wd
   refine⟨_,rfl,t,_,rfl,ht',fun ob=>q _ _ ⟨t,ob,ll,rfl,j9,wd⟩ (e.updNew ht _)⟩
def zhWt (cl:List (Str×Addr))(i:WI):Hp->Prop:=fun H=>(H i.a=some (.ext (nfP "weights_together" qWB (jI sWB) (jB sWB) (j7 sWB) cl i.a i.c))/\H i.c=some (.ext (ncP qWB i.c)))/\BoxAt H i.b i.w i.ms i.pcs
theorem zhWt.ok (cl:List (Str×Addr))(i:WI):HpOk (zhWt cl i):=⟨fun H H' D kvs hD _ k h=>⟨⟨k _ _ h.1.1 fun z=>(by rw[<- z,h.1.1] at hD; cases hD),k _ _ h.1.2 fun z=>(by rw[<- z,h.1.2] at hD; cases hD)⟩,h.2.mono fun b xs hb=>k _ _ hb fun z=>(by rw[z,hD] at hb; cases hb)⟩,fun H H' e h=>⟨⟨e _ _ h.1.1,e _ _ h.1.2⟩,h.2.mono e.tups⟩⟩
theorem jGI (T:Txt mg)(cl:List (Str×Addr))(i:WI):Callee P w K mg base (ZC cl ["box"] [.ref i.b]) (zhWt cl i) 1 i.a (jCT i.ch (RWt i.pcs i.ch)):=
 Callee.imp2 (Callee.ofN (jPZ T)) (fun H h=>h.1) fun vs H Q E zh q=>⟨i,rfl,zh.2,q⟩
end
structure TT where
 a:Addr
 p:Pos
 q:Str
def ads (L:List TT):List Addr:=L.map TT.a
structure TbS (L:List TT)(H:Hp):Prop where
 nd:(ads L).Nodup
 ok:∀ t∈L,TabOk H t.a t.p t.q
def ExS (S:List Addr)(H H':Hp):Prop:=∀ b o,H b=some o->b∉S->H' b=some o
section
variable {S S':List Addr}{L:List TT}{H H' H'':Hp}
theorem ExS.of (e:Ext H H'):ExS S H H':=fun b o h _=>e b o h
theorem ExS.trans (a:ExS S H H')(b:ExS S H' H''):ExS S H H'':=fun c o h n=>b c o (a c o h n) n
theorem ExS.ofT {T:Addr}(e:ExtT T H H')(h:T∈S):ExS S H H':=fun b o z n=>e b o z fun y=>n (y ▸ h)
theorem TbS.ext (t:TbS L H)(e:Ext H H'):TbS L H':=⟨t.nd,fun x hx=>(t.ok x hx).ext e⟩
theorem TbS.off (t:TbS L H){b:Addr}{o:HO}(h:H b=some o)(ho:∀ ps,o≠ .tbl ps:=by intro _ z; cases z):b∉ads L:=fun z=>by
 obtain⟨x,hx,e⟩:=bq.mp z
 exact(t.ok x hx).ne h ho e.symm
theorem TbS.at (t:TbS L H)(e:ExS (ads L) H H'){b:Addr}{o:HO}(h:H b=some o)(ho:∀ ps,o≠ .tbl ps:=by intro _ z; cases z):H' b=some o:=e b o h (t.off h ho)
theorem TbS.tups (t:TbS L H)(e:ExS (ads L) H H'):Tups H H':=fun b xs h=>t.at e h
theorem TbS.set (t:TbS L H)(hs:∀ s∈S,s∈ads L)(e:ExS S H H')(k:∀ x∈L,x.a∈S->TabOk H' x.a x.p x.q):TbS L H':=⟨t.nd,fun x hx=>by
 by_cases z:x.a∈S
 ·exact k x hx z
 ·rcases t.ok x hx with h | ⟨c,h,h2⟩
  ·exact .inl (e _ _ h z)
  ·exact .inr ⟨c,e _ _ h z,e _ _ h2 fun y=>t.off h2 (by intro _ z; cases z) (hs c y)⟩⟩
theorem TbS.setT (t:TbS L H){x:TT}(hx:x∈L)(e:ExtT x.a H H')(k:TabOk H' x.a x.p x.q):TbS L H':=t.set (S:=[x.a]) (fun s hs=>by rw[aC.mp hs]; exact cD hx) (ExS.ofT e (aC.mpr rfl)) fun y hy hm=>by
 have e1:=aC.mp hm
 have:y=x:=by
  have nd:=t.nd
  obtain⟨i,hi⟩:=bH hy
  obtain⟨j,hj⟩:=bH hx
  have hi':(ads L)[i]?=some x.a:=by unfold ads; rw[aP,hi,<- e1]; rfl
  have hj':(ads L)[j]?=some x.a:=by unfold ads; rw[aP,hj]; rfl
  have li:i<(ads L).length:=(ar.mp hi').1
  have ij:=(gh li nd).mp (hi'.trans hj'.symm)
  rw[ij,hj] at hi
  exact(br hi).symm
 rw[this]
 exact k
theorem TbS.lst (t:TbS L H){p:Addr}{xs:List V}{o:HO}(hp:H p=some (.lst xs)):TbS L (L2.upd H p o):=by
 have ne:∀ c o,H c=some o->(∀ xs,o≠ .lst xs)->c≠p:=fun c o h n z=>by
  rw[z,hp] at h
  cases h
  exact n _ rfl
 refine⟨t.nd,fun x hx=>?_⟩
 rcases t.ok x hx with h | ⟨c,h,h2⟩
 ·exact .inl (by rw[j8 (ne _ _ h (by intro _ z; cases z))]; exact h)
 ·exact .inr ⟨c,by rw[j8 (ne _ _ h (by intro _ z; cases z))]; exact h,by rw[j8 (ne _ _ h2 (by intro _ z; cases z))]; exact h2⟩
end
def tWt (tb:Addr):TT:=⟨tb,lamP,qLam⟩
def tWB (tb:Addr):TT:=⟨tb,pWB,qWB⟩
theorem jQB {l k:List (Int×Nat)}(h:l.Perm k)(v:Int):lk l v=lk k v:=by
 induction h with
 | nil=>rfl
 | cons x _ ih=>show _+_=_+_; rw[ih]
 | swap x y r=>
  show (if y.1=v then y.2 else 0)+((if x.1=v then x.2 else 0)+lk r v)=(if x.1=v then x.2 else 0)+((if y.1=v then y.2 else 0)+lk r v)
  omega
 | trans _ _ h1 h2=>exact h1.trans h2
structure WTold (pcs:List (List Int×Int))(ws:List (List Int))(l:List (Int×Nat)):Prop where
 ris:l.Pairwise fun x y=>x.1<y.1
 pos:∀ w∈l,0<w.2
 lk:∀ v,lk l v=cW pcs ws v
def PrsA (H:Hp)(us:List V)(l:List (Int×Nat)):Prop:=All2 (fun u w=>∃ a,u=V.ref a/\H a=some (.tup [.int w.1,natV w.2])) us l
theorem jP0 {pcs:List (List Int×Int)}{ws:List (List Int)}{l:List (Int×Nat)}{zs:List (Int×Int)}(d:WtD pcs ws l)(pm:zs.Perm (l.map fun w=>(w.1,((w.2:Nat):Int))))(pw:zs.Pairwise fun x y=>HT.lexLt (prW y) (prW x)=false):WTold pcs ws (zs.map fun w=>(w.1,w.2.toNat))/\(zs.map fun w=>(w.1,w.2.toNat)).Perm l/\∀ z∈zs,((z.2.toNat:Nat):Int)=z.2:=by
 have p1:(zs.map fun w=>(w.1,w.2.toNat)).Perm l:=by
  have:=pm.map fun w:Int×Int=>(w.1,w.2.toNat)
  rw[bF] at this
  exact this.trans (fw ((bx fun w _=>by show (w.1,((w.2:Nat):Int).toNat)=w; rw[aZ]).trans (fV _)))
 refine⟨⟨?_,fun w hw=>d.ok.pos w (p1.mem_iff.mp hw),fun v=>(jQB p1 v).trans (d.lk v)⟩,p1,fun z hz=>?_⟩
 ·rw[cj]
  have nd:(zs.map (·.1)).Nodup:=by
   have:=pm.map (·.1)
   rw[bF] at this
   exact this.nodup_iff.mpr d.ok.nd
  refine(List.Pairwise.and pw (cj.mp nd)).imp fun {x y} ⟨u,v⟩=>?_
  show x.1<y.1
  unfold prW at u
  rw[HT.lexLt_cons] at u
  split at u
  ·rename_i h; exact absurd h.symm v
  ·have:=eJ u
   omega
 ·obtain⟨w,_,rfl⟩:=bq.mp (pm.mem_iff.mp hz)
  show ((((w.2:Nat):Int).toNat:Nat):Int)=_
  rw[aZ]
section
variable {P:Program}{w:World}{K:W.Frag}{mg:Str->Option Value}{base:Heap}
variable {f fG fC fM c0 tb1 tb2:Addr}{fdG fdC fdM:FuncData}{A:Around}{outer:List Env}{s:Shared}{H0:Hp}{E:XK}{u1:Tok}
noncomputable abbrev nWts:List Str:=["box","weights_together"]
theorem scWts:FnScope nWts ["box"] (j7 sWts):=⟨rfl,rfl,rfl,by decide+kernel,rfl,by decide+kernel,by decide+kernel⟩
def jJJ (cl:List (Str×Addr))(i:WI):Sp:=jH7 i.a (zhWt cl i) i.ch (RWt i.pcs i.ch)
theorem fsWB:∀ x∈(["box"]:List Str),(j7 sWB).names.lookup x=some .free:=by decide+kernel
theorem jT1:FsAt (XOf nWts "weights" sWts P w K mg base f (.ref c0) A outer s H0 E) ["box"] [0]:=⟨rfl,fun k x h=>by
 match k,h with
 | 0,h=>
  cases h
  exact⟨0,rfl,rfl, .inl (show (j7 sWts).names.lookup (("box" :String):Str)=some .cell by decide+kernel)⟩
 | k+1,h=>cases h⟩
def spWts (L:List TT)(tb1 tb2:Addr):Sp:=fun vs H Q _=>∃ (b:Addr) (w:Int) (ms:List Int) (pcs:List (List Int×Int)),vs=[.ref b]/\BoxAt H b w ms pcs/\Good 16 32 w ms pcs/\(∀ m,m<2 ^ (chs w.toNat ms pcs).length->(wk (chs w.toNat ms pcs) m).length<=1000000)/\(wk (chs w.toNat ms pcs) 0).length<=1000/\TbS L H/\tWt tb1∈L/\tWB tb2∈L/\
 ∀ r us l H',H' r=some (.lst us)->PrsA H' us l->WTold pcs (wk (chs w.toNat ms pcs) 0) l->l.length<=1000->ExS (ads L) H H'->TbS L H'->H r=none->Q (.ref r) H'
def wtsA (T:Txt mg)(CH:PySem.W.CodeHd base c0 tb2)(BM:BltAt base mg)(M1:mg "MOST_WEIGHED" =some (.int 1000 u1))(CC:Can P w K mg base "choices_of" 2 fC fdC ["box"] jA7)(CM:Can P w K mg base "many" 6 fM fdM ["box"] (jDG tb1))(FG:∀ cl i,FnZ P w K mg base CX0 (ZC cl ["box"] [.ref i.b]) 4 fG fdG ["choices","at_end","join"] (jJJ cl i))(MG:mg "gathered" =some (.ref fG))(KG:keepIn K (.ref fG)=true)(BG:Binds K fdG ["choices","at_end","join"] [])(hr:Room 6 (XOf nWts "weights" sWts P w K mg base f (.ref c0) A outer s H0 E).A): { t:TS // JSs (XOf nWts "weights" sWts P w K mg base f (.ref c0) A outer s H0 E) (jB sWts) t} :=
 have nd:=scWts.nd
 ⟨_,(jD (yE (jZ op_gt (CM.je hr gD (j4 (jv 0 rfl vC) jA j6) j6) (kR (v:= .int 1000) gD M1 ⟨_,rfl⟩) (jS _)) (jF (jL1)) kQ) (jD (jSU (j:=1) nd rfl lL rfl CH BM (kN (psc:=j7 sWts) (by decide+kernel)) rfl rfl) (jF (jR (jG (jFX rfl hr.units101) gD T.sorted (by decide+kernel) (j4 (jL6 (jEE (hu_of hr) (jNB (G:=fun (i:WI) σ=>jH9 σ [0] [.ref i.b]) (FG _) (hr.mono (by decide)) gD MG KG BG (fun i pins s σ H I q=>⟨I.clOk (kN (psc:=j7 sWts) (by decide+kernel)),I.fvOk (kN (psc:=j7 sWts) (by decide+kernel)) fsWB jT1 q⟩) (j4 (CC.je (hr.mono (by decide)) gD (j4 (jv 0 rfl vC) jA j6) j6) (j4 (jOI jN8) (j4 (jv 1 rfl vL) jA j6) jP7) jO) jO) je_int kD)) jA jO) jO)))))⟩
set_option maxHeartbeats 4000000 in
theorem jSC {fd:FuncData}{LT:List TT}(F:FunC K "weights" "weights" sWts f fd c0)(T:Txt mg)(CH:PySem.W.CodeHd base c0 tb2)(BM:BltAt base mg)(M1:mg "MOST_WEIGHED" =some (.int 1000 u1))(CC:Can P w K mg base "choices_of" 2 fC fdC ["box"] jA7)(CM:Can P w K mg base "many" 6 fM fdM ["box"] (jDG tb1))(FG:∀ cl i,FnZ P w K mg base CX0 (ZC cl ["box"] [.ref i.b]) 4 fG fdG ["choices","at_end","join"] (jJJ cl i))(MG:mg "gathered" =some (.ref fG))(KG:keepIn K (.ref fG)=true)(BG:Binds K fdG ["choices","at_end","join"] []):FnOk P w K mg base CX0 7 f fd ["box"] (spWts LT tb1 tb2):=by
 refine F.ok scWts (fun vs H Q E h=>?_) (fun A outer s H vs Q E hr h=>?_)
 ·obtain⟨_,_,_,_,rfl,_⟩:=h
  rfl
 ·obtain⟨b,wi,ms,pcs,rfl,hB,g,bd,l1000,tab,i1,i2,q⟩:=h
  refine⟨_,(wtsA T CH BM M1 CC CM FG MG KG BG hr).2.h,?_⟩
  refine⟨_,rfl,b,wi,ms,pcs,rfl,hB,g,tab.ok _ i1,fun H1 e1 t1=>?_⟩
  have T1:=tab.setT i1 e1 t1
  have X1:ExS (ads LT) H H1:=ExS.ofT e1 (cD i1)
  have hB1:=hB.mono (tab.tups X1)
  refine⟨_,_,rfl,rfl,_,rfl,iteN (by show decide ((1000:Int)<((wk (chs wi.toNat ms pcs) 0).length:Int))=false; exact aR (by omega)) ?_⟩
  refine⟨T1.ok _ i2,fun a c H2 k1 k2 k3 e2 na=>?_⟩
  have T2:TbS LT H2:=T1.setT i2 e2 (.inr ⟨c,k3,k2⟩)
  have X2:ExS (ads LT) H1 H2:=ExS.ofT e2 (cD i2)
  have hB2:=hB1.mono (T1.tups X2)
  refine⟨_,rfl,b,wi,ms,pcs,rfl,hB2,g,fun L H3 hL3 e3=>?_⟩
  intro d0 H4 d4 e4 n4
  refine⟨d0,_,rfl,d4,fun ob=>?_⟩
  have o:ChOk (chs wi.toNat ms pcs):=jCA g
  have e5:Ext H3 (L2.upd H4 d0 (.frz ob (.dK [(Sum.inl 0, .int 1)]))):=e4.updNew n4 _
  have d5:(L2.upd H4 d0 (.frz ob (.dK [(Sum.inl 0, .int 1)]))) d0=some (.frz ob (.dK [(Sum.inl 0, .int 1)])):=j9
  generalize L2.upd H4 d0 (.frz ob (.dK [(Sum.inl 0, .int 1)]))=H5 at e5 d5
  have E25:=e3.trans e5
  refine⟨_,rfl,⟨a,c,b,wi,ms,pcs,g,bd⟩,rfl,L, .ref d0,rfl,hL3.ext e5,?_,⟨⟨E25 _ _ k1,E25 _ _ k2⟩,hB2.mono E25.tups⟩,fun r ns H6 got srt' mt e6 n6=>?_⟩
  ·show RWt pcs (chs wi.toNat ms pcs) (fullN (chs wi.toNat ms pcs)) H5 (.ref d0)
   refine⟨d0,ob,[(0,1)],rfl,d5,?_⟩
   rw[jBS]
   refine⟨⟨bK.mpr ⟨aW,gm⟩,fun w hw=>by rw[aC.mp hw]; decide⟩,rfl,fun v=>?_⟩
   show (if (0:Int)=v then 1 else 0)+0=List.countP (fun x=>wt pcs x==v) [[]]
   rw[List.countP_singleton]
   show _=if ((0:Int)==v)=true then 1 else 0
   by_cases h:(0:Int)=v
   ·rw[aq h,aq (de.mpr h)]
   ·rw[aj h,aj fun z=>h (de.mp z)]
  obtain⟨u,dg,a',ob',l,rfl,ha',wd⟩:=got0 got srt' mt
  have wd:WtD pcs (wk (chs wi.toNat ms pcs) 0) l:=wd
  refine⟨r,_,rfl,dg,?_⟩
  refine⟨a',kvI l,rfl, .inr ⟨ob',ha'⟩,fun vp hvp=>?_⟩
  have e7:Ext H6 (L2.upd H6 vp (ViewI vp a')):=(Ext.refl _).new hvp _
  have d7:(L2.upd H6 vp (ViewI vp a')) vp=some (ViewI vp a'):=j9
  generalize L2.upd H6 vp (ViewI vp a')=H7 at e7 d7
  refine⟨vp,a',kvI l,l.map fun w=>(w.1,((w.2:Nat):Int)),rfl,d7, .inr ⟨ob',e7 _ _ ha'⟩,by rw[bF]; rfl,fun r8 us zs H8 d8 al pm pw e8 n8=>?_⟩
  obtain⟨told,p1,zz⟩:=jP0 wd pm pw
  have E28:=((E25.trans e6).trans e7).trans e8
  have T8:=T2.ext E28
  have X8:=(X1.trans X2).trans (ExS.of E28)
  refine q r8 us _ H8 d8 ?_ told ?_ X8 T8 ?_
  ·unfold PrsA
   clear d8 pm pw p1 told
   induction us generalizing zs with
   | nil=>cases zs with
    | nil=>trivial
    | cons _ _=>exact al.elim
   | cons v us ih=>cases zs with
    | nil=>exact al.elim
    | cons z zs=>
     obtain⟨⟨a9,e9,h9⟩,al2⟩:=al
     refine⟨⟨a9,e9,?_⟩,ih zs al2 fun x hx=>zz x (ai _ hx)⟩
     show H8 a9=some (.tup [.int z.1, .int ((z.2.toNat:Nat):Int)])
     rw[zz z (ak ..)]
     exact h9
  ·rw[p1.length_eq]
   have:=wd.ok.len
   rw[wd.tt] at this
   omega
  ·cases z:H r8 with
   | none=>rfl
   | some ob9=>
    by_cases zt:r8∈ads LT
    ·obtain⟨x,hx,ex⟩:=bq.mp zt
     rcases T2.ok x hx with h | ⟨c9,h,_⟩
     ·rw[ex] at h
      rw[((E25.trans e6).trans e7) _ _ h] at n8
      cases n8
     ·rw[ex] at h
      rw[((E25.trans e6).trans e7) _ _ h] at n8
      cases n8
    ·rw[((E25.trans e6).trans e7) _ _ ((X1.trans X2) _ _ z zt)] at n8
     cases n8
end
def pB (c:Nat->Nat):Nat->Nat->Nat
 | _,0=>1
 | t,k+1=>(1+c t)*pB c (t+1) k
theorem pB_up (c:Nat->Nat):∀ (j t k:Nat),pB c (t+j) k<=pB c t (k+j)
 | 0,_,_=>aE _
 | j+1,t,k=>by
  have h:=pB_up c j (t+1) k
  rw[show t+1+j=t+(j+1) by omega] at h
  show _<=(1+c t)*pB c (t+1) (k+j)
  exact bA h (Nat.le_mul_of_pos_left _ (by omega))
theorem wk_pB {w:Int}{ms:List Int}{pcs:List (List Int×Int)}(g:Good 16 32 w ms pcs):∀ m,m<2 ^ (chs w.toNat ms pcs).length->(wk (chs w.toNat ms pcs) m).length<=pB (fun j=>lead pcs (j:Int) pcs.length) (lowN m) (w.toNat - lowN m):=by
 have o:ChOk (chs w.toNat ms pcs):=jCA g
 have one:∀ (c:Nat->Nat) (k t:Nat),1<=pB c t k:=fun c k=>by
  induction k with
  | zero=>intro t; exact aE _
  | succ k ih=>intro t; exact ic (show 1<=1+c t by omega) (ih (t+1))
 have clen:(chs w.toNat ms pcs).length=w.toNat:=by unfold chs; rw[kO]
 refine jH0 o ?_ ?_
 ·rw[jBS]
  exact one _ _ _
 ·intro m hm hf ih
  have hl:lowN m<w.toNat:=by
   have:=jDN hm hf
   rwa [clen] at this
  rw[jB7 o hm hf]
  unfold wJ
  have ek:w.toNat - lowN m=(w.toNat - (lowN m+1))+1:=by omega
  rw[ek]
  refine bA (jFV _ (pB (fun j=>lead pcs (j:Int) pcs.length) (lowN m+1) (w.toNat - (lowN m+1))) _ fun p hp=>?_) ?_
  ·obtain⟨c,hc,rfl⟩:=bq.mp hp
   rw[ah]
   have lo:=jSN (o.mem hm hf hc).1
   refine bA (ih c hc) ?_
   by_cases hw:lowN (m|||c.2)<=w.toNat
   ·have:=pB_up (fun j=>lead pcs (j:Int) pcs.length) (lowN (m|||c.2) - (lowN m+1)) (lowN m+1) (w.toNat - lowN (m|||c.2))
    rw[show lowN m+1+(lowN (m|||c.2) - (lowN m+1))=lowN (m|||c.2) by omega,show w.toNat - lowN (m|||c.2)+(lowN (m|||c.2) - (lowN m+1))=w.toNat - (lowN m+1) by omega] at this
    exact this
   ·rw[show w.toNat - lowN (m|||c.2)=0 by omega]
    exact one _ _ _
  ·rw[ah]
   show _<=(1+lead pcs (lowN m:Int) pcs.length)*_
   refine Nat.mul_le_mul_right _ ?_
   unfold chAt
   refine bA (ce _ _) ?_
   unfold chs
   rw[aF,jA6 hl]
   show (kP ms pcs pcs.length (lowN m)).length<=_
   unfold kP
   rw[aK,ah,jDP pcs _ _ (aE _)]
   split <;> simp only [aG,cV] <;> omega
theorem jO2:∀ {ws:List (List Int)}{x:List Int},x∈ws->x.length+1<=szN ws
 | y::ws,x,h=>by
  show _<=max (y.length+1) (szN ws)
  rcases az.mp h with z | z
  ·rw[z]; omega
  ·have:=jO2 z
   omega
theorem jOA:∀ l:List Nat,(l.map fun n:Nat=>(n:Int)).sum=((l.sum:Nat):Int)
 | []=>rfl
 | a::l=>by rw[ba,eU,jOA l,eU,ja]
theorem jKN:∀ {l:List (Int×Nat)}{v:Int},(∀ w∈l,v<w.1)->lk l v=0
 | [],_,_=>rfl
 | w::l,v,h=>by
  show (if w.1=v then w.2 else 0)+lk l v=0
  have:=h w (ak ..)
  rw[aj (by omega),jKN fun x hx=>h x (ai _ hx)]
theorem jJ8 (pcs:List (List Int×Int)):∀ (l:List (Int×Nat)) (ws:List (List Int)),(l.Pairwise fun x y=>x.1<y.1)->(∀ v,lk l v=cW pcs ws v)->tot l=ws.length
 | [],ws,_,h=>by
  cases ws with
  | nil=>rfl
  | cons x ws=>
   have:=h (wt pcs x)
   unfold cW at this
   rw[dD,aq (de.mpr rfl)] at this
   have z:lk [] (wt pcs x)=0:=rfl
   omega
 | a::r,ws,up,h=>by
  obtain⟨a1,up2⟩:=cJ.mp up
  have ea:∀ v,lk (a::r) v=(if a.1=v then a.2 else 0)+lk r v:=fun _=>rfl
  have ih:=jJ8 pcs r (ws.filter fun x=>!(wt pcs x==a.1)) up2 fun v=>by
   have hv:=h v
   rw[ea] at hv
   unfold cW at hv ⊢
   rw[List.countP_filter]
   by_cases z:a.1=v
   ·subst z
    rw[jKN a1]
    symm
    refine gP.mpr fun x _ q=>?_
    obtain⟨q1,q2⟩:=dR.mp q
    rw[q1] at q2
    cases q2
   ·rw[aj z,dy] at hv
    rw[hv]
    refine gn fun x _=>?_
    constructor
    ·intro q
     have e:=de.mp q
     rw[q,Bool.true_and,gj,cR]
     exact fun y=>z (y.symm.trans e)
    ·intro q
     exact(dR.mp q).1
  have h1:=h a.1
  rw[ea,aq rfl,jKN a1,dh] at h1
  show a.2+tot r=ws.length
  rw[ih,h1]
  unfold cW
  rw[List.countP_eq_length_filter]
  clear ih h h1
  induction ws with
  | nil=>rfl
  | cons x ws ih=>
   by_cases z:(wt pcs x==a.1)=true
   ·rw[eD (p:=fun x=>wt pcs x==a.1) z,eE (p:=fun x=>!(wt pcs x==a.1)) (by rw[z]; decide),aG,aG]; omega
   ·rw[eE (p:=fun x=>wt pcs x==a.1) z,eD (p:=fun x=>!(wt pcs x==a.1)) (by rw[ir.mpr z]; rfl),aG,aG]; omega
def cnt1 (t:Nat)(pcs:List (List Int×Int)):Nat:=pcs.countP fun pc=>decide (pc.1=[(t:Int)])
structure Sg (sz:List Nat)(pcs:List (List Int×Int)):Prop where
 one:∀ pc∈pcs,(∃ t:Nat,t<sz.length/\pc.1=[(t:Int)])/\ -9<=pc.2/\pc.2<=9
 cnt:∀ t,cnt1 t pcs=sz.getD t 0
 len:pcs.length=sz.sum
theorem Sg.nil:Sg [] []:=⟨fun _ h=>(by cases h),fun t=>(by cases t <;> rfl),rfl⟩
theorem jD7 (s:List Nat)(r t:Nat):(s++[r]).getD t 0=if t=s.length then r else s.getD t 0:=by
 rw[aF,aF]
 rcases ik t s.length with h | h | h
 ·rw[bO h,aj (by omega)]
 ·rw[h,bb (aE _),gS,aq rfl]; rfl
 ·rw[bb (by omega),aj (by omega),bw (by simp; omega),bw (by omega)]
theorem Sg.next {s:List Nat}{pcs:List (List Int×Int)}(h:Sg s pcs):Sg (s++[0]) pcs:=⟨fun pc hp=>by
 obtain⟨⟨t,a,b⟩,c⟩:=h.one pc hp
 exact⟨⟨t,by rw[aK]; omega,b⟩,c⟩,fun t=>by
 rw[h.cnt,jD7]
 split
 ·rename_i e
  rw[e,aF,bw (aE _)]; rfl
 ·rfl,by rw[h.len,cX]; rfl⟩
theorem Sg.put {s:List Nat}{r i:Nat}{pcs:List (List Int×Int)}{x:Int}(h:Sg (s++[r]) pcs)(h1: -9<=x)(h2:x<=9):Sg (s++[r+1]) (pcs.take i++([(s.length:Int)],x)::pcs.drop i):=by
 have pm:(pcs.take i++([(s.length:Int)],x)::pcs.drop i).Perm (([(s.length:Int)],x)::pcs):=by
  refine iL.trans ?_
  rw[bf]
 refine⟨fun pc hp=>?_,fun t=>?_,?_⟩
 ·rcases az.mp (pm.mem_iff.mp hp) with z | z
  ·rw[z]
   exact⟨⟨s.length,by simp,rfl⟩,h1,h2⟩
  ·obtain⟨⟨t,a,b⟩,c⟩:=h.one pc z
   exact⟨⟨t,by rw[aK] at a ⊢; exact a,b⟩,c⟩
 ·unfold cnt1
  rw[pm.countP_eq,dD]
  have:=h.cnt t
  unfold cnt1 at this
  rw[this,jD7,jD7]
  by_cases e:t=s.length
  ·rw[aq e,aq e,aq (by rw[e]; exact aO rfl)]
  ·rw[aj e,aj e,aj (fun z=>by
    have:=bj z
    have q:(s.length:Int)=(t:Int):=(List.cons.inj this).1
    omega)]
   rfl
 ·rw[pm.length_eq,aG,h.len,cX,cX]
  simp
  omega
def pr:List Nat->Nat
 | []=>1
 | a::l=>a*pr l
theorem jJV:∀ (s:List Nat) (a:Nat),pr (s++[a])=pr s*a
 | [],a=>by show a*1=1*a; omega
 | b::s,a=>by show b*pr (s++[a])=b*pr s*a; rw[jJV s a,Nat.mul_assoc]
theorem jJW:∀ {s:List Nat},(∀ a∈s,1<=a)->1<=pr s
 | [],_=>aE _
 | a::s,h=>ic (h a (ak ..)) (jJW fun b hb=>h b (ai _ hb))
theorem pr_le {k:Nat} :∀ {s:List Nat},(∀ a∈s,a<=k)->pr s<=k ^ s.length
 | [],_=>aE _
 | a::s,h=>by
  show a*pr s<=k ^ (s.length+1)
  rw[kn,iX]
  exact ic (pr_le fun b hb=>h b (ai _ hb)) (h a (ak ..))
theorem jFU {α β:Type}(f:α->List β)(B:Nat):∀ (l:List α),(∀ a∈l,(f a).length=B)->(l.flatMap f).length=l.length*B
 | [],_=>by simp
 | a::l,h=>by
  rw[iy,aK,h a (ak ..),jFU f B l fun b hb=>h b (ai _ hb),aG,kj]
  omega
theorem jKG {n:Nat}{t:Int}(h:t∈upto n):0<=t/\t<n:=by
 unfold upto at h
 obtain⟨i,hi,rfl⟩:=bq.mp h
 have:=cH.mp hi
 omega
section
variable {sz:List Nat}{pcs:List (List Int×Int)}(g:Good 16 32 (sz.length:Int) [] pcs)(S:Sg sz pcs)
include S
theorem jJO (t:Nat):lead pcs (t:Int) pcs.length=sz.getD t 0:=by
 rw[<- S.cnt t]
 unfold lead cnt1
 rw[bZ]
 refine gn fun pc hp=>?_
 obtain⟨⟨t',_,e⟩,_⟩:=S.one pc hp
 unfold jEC
 rw[e]
 simp
theorem sg_at {t:Nat} :(kP [] pcs pcs.length t).length=sz.getD t 0/\∀ c∈kP [] pcs pcs.length t,c.2=2 ^ t/\0<=c.1:=by
 unfold kP
 rw[aj aW,i6]
 constructor
 ·rw[ah,jDP pcs _ _ (aE _),jJO S]
 ·intro c hc
  obtain⟨k,hk,rfl⟩:=bq.mp hc
  obtain⟨hk,he⟩:=cU.mp hk
  have hk:=jKG (cn hk)
  have he:=bj he
  refine⟨?_,hk.1⟩
  have hm:pcs.getD k.toNat ([],0)∈pcs:=by
   rw[aF,aB (show k.toNat<pcs.length by omega)]
   exact db _
  obtain⟨⟨t',_,e⟩,_⟩:=S.one _ hm
  have e:jP pcs k=[(t':Int)]:=e
  rw[e] at he
  have he:(t':Int)=(t:Int):=he
  show maskN (jP pcs k)=2 ^ t
  rw[e,he]
  unfold maskN
  simp
theorem jRM (t:Nat):(2 ^ t - 1)|||2 ^ t=2 ^ (t+1) - 1:=by
 refine gK fun j=>?_
 rw[gf,cg,cg,fm]
 by_cases h:j<t
 ·rw[aO h,aO (show j<t+1 by omega)]; rfl
 ·by_cases e:t=j
  ·rw[aR h,aO e,aO (show j<t+1 by omega)]; rfl
  ·rw[aR h,aR e,aR (show ¬ j<t+1 by omega)]; rfl
include g
theorem jP6 {t:Nat}(ht:t<sz.length):chAt (chs sz.length [] pcs) (2 ^ t - 1)=kP [] pcs pcs.length t:=by
 unfold chAt chs
 rw[jHR,aF,jA6 ht]
 show (kP [] pcs pcs.length t).filter _=_
 refine List.filter_eq_self.mpr fun c hc=>?_
 rw[((sg_at S).2 c hc).1,de]
 refine gK fun j=>?_
 rw[Nat.testBit_and,fm,cg,Nat.zero_testBit]
 by_cases e:t=j
 ·rw[aR (show ¬ j<t by omega),ed]
 ·rw[aR e,fY]
theorem sg_wk:∀ (k t:Nat),t+k=sz.length->(wk (chs sz.length [] pcs) (2 ^ t - 1)).length=pr (sz.drop t)/\∀ x∈wk (chs sz.length [] pcs) (2 ^ t - 1),x.length=k
 | 0,t,h=>by
  have o:(chs sz.length [] pcs).length=sz.length:=by unfold chs; rw[kO]
  have e:wk (chs sz.length [] pcs) (2 ^ t - 1)=[[]]:=by
   have:=jBS (chs sz.length [] pcs)
   unfold fullN at this
   rw[o] at this
   rw[show t=sz.length by omega]
   exact this
  rw[e,eG (by omega)]
  exact⟨rfl,fun x hx=>by rw[aC.mp hx]; rfl⟩
 | k+1,t,h=>by
  have ih:=sg_wk k (t+1) (by omega)
  have ol:(chs sz.length [] pcs).length=sz.length:=by unfold chs; rw[kO]
  have o:ChOk (chs sz.length [] pcs):=by
   have:=jCA (n:=pcs.length) g
   rwa [aZ] at this
  have p1:=gM t
  have p2:2 ^ t<2 ^ sz.length:=gG (by decide) (by omega)
  have hs:=jB7 (m:=2 ^ t - 1) o (by rw[ol]; omega) (by unfold fullN; rw[ol]; omega)
  rw[jP6 g S (by omega)] at hs
  rw[hs]
  unfold wJ
  have each:∀ c∈kP [] pcs pcs.length t,wk (chs sz.length [] pcs) ((2 ^ t - 1)|||c.2)=wk (chs sz.length [] pcs) (2 ^ (t+1) - 1):=fun c hc=>by
   rw[((sg_at S).2 c hc).1,jRM S]
  constructor
  ·rw[jFU _ (pr (sz.drop (t+1))) _ fun p hp=>?_,ah,(sg_at S).1,fj (show t<sz.length by omega)]
   ·show _=sz[t]*pr (sz.drop (t+1))
    rw[aF,aB (show t<sz.length by omega)]
    rfl
   ·obtain⟨c,hc,rfl⟩:=bq.mp hp
    rw[ah]
    show (wk _ ((2 ^ t - 1)|||c.2)).length=_
    rw[each c hc]
    exact ih.1
  ·intro x hx
   obtain⟨p,hp,hx⟩:=List.mem_flatMap.mp hx
   obtain⟨c,hc,rfl⟩:=bq.mp hp
   obtain⟨y,hy,rfl⟩:=bq.mp hx
   have hy:y∈wk (chs sz.length [] pcs) ((2 ^ t - 1)|||c.2):=hy
   rw[each c hc] at hy
   have c0:=((sg_at S).2 c hc).2
   show (if c.1<0 then y else c.1::y).length=k+1
   rw[aj (by omega),aG,ih.2 y hy]
theorem jHA:(wk (chs sz.length [] pcs) 0).length=pr sz/\∀ x∈wk (chs sz.length [] pcs) 0,x.length=sz.length:=sg_wk g S sz.length 0 (dy _)
theorem sg_sz (h1:∀ a∈sz,1<=a):szL (wk (chs sz.length [] pcs) 0)=List.replicate sz.length 0++[pr sz]:=by
 obtain⟨hl,hx⟩:=jHA g S
 have hp:=jJW h1
 rw[<- hl]
 rw[<- hl] at hp
 generalize wk (chs sz.length [] pcs) 0=ws at hx hp
 have hn:szN ws=sz.length+1:=by
  have u:=jJD (B:=sz.length+1) (ws:=ws) fun x h=>by rw[hx x h]; exact aE _
  cases ws with
  | nil=>exact absurd hp (by simp)
  | cons x r=>
   have:=jO2 (ws:=x::r) (x:=x) (ak ..)
   rw[hx x (ak ..)] at this
   omega
 unfold szL
 rw[hn,eR,bh]
 congr 1
 ·refine List.eq_replicate_iff.mpr ⟨by rw[ah,bX],fun b hb=>?_⟩
  obtain⟨s,hs,rfl⟩:=bq.mp hb
  have hs:=cH.mp hs
  unfold cntS
  refine gP.mpr fun x h z=>?_
  have:=de.mp z
  rw[hx x h] at this
  omega
 ·show [cntS ws sz.length]=_
  congr 1
  unfold cntS
  exact List.countP_eq_length.mpr fun x h=>de.mpr (hx x h)
theorem sg_pB:∀ (k t:Nat),t+k=sz.length->pB (fun j=>lead pcs (j:Int) pcs.length) t k=pr ((sz.drop t).map (1+ ·))
 | 0,t,h=>by rw[eG (by omega)]; rfl
 | k+1,t,h=>by
  rw[fj (show t<sz.length by omega),ba]
  show (1+lead pcs (t:Int) pcs.length)*pB _ (t+1) k=(1+sz[t])*pr _
  rw[sg_pB k (t+1) (by omega),jJO S,aF,aB (show t<sz.length by omega)]
  rfl
theorem jP5 (hb:pr (sz.map (1+ ·))<=1000000):∀ m,m<2 ^ (chs sz.length [] pcs).length->(wk (chs sz.length [] pcs) m).length<=1000000:=fun m hm=>by
 have h:=wk_pB g m (by rw[aZ]; exact hm)
 rw[aZ] at h
 have e:=sg_pB g S sz.length 0 (dy _)
 rw[hV] at e
 by_cases hl:lowN m<=sz.length
 ·have u:=pB_up (fun j=>lead pcs (j:Int) pcs.length) (lowN m) 0 (sz.length - lowN m)
  rw[dy,show sz.length - lowN m+lowN m=sz.length by omega,e] at u
  exact bA h (bA u hb)
 ·rw[show sz.length - lowN m=0 by omega] at h
  exact bA h (show (1:Nat)<=1000000 by decide)
omit g in
theorem jR3 (k:Int): -9<=wgt pcs k/\wgt pcs k<=9:=by
 unfold wgt
 rw[aF]
 by_cases h:k.toNat<pcs.length
 ·rw[aB h]
  exact(S.one _ (db h)).2
 ·rw[bw (by omega)]
  exact⟨by decide,by decide⟩
omit g in
theorem wt_bd:∀ x:List Int, -9*(x.length:Int)<=wt pcs x/\wt pcs x<=9*(x.length:Int)
 | []=>⟨by show (-9*(0:Int))<=0; decide,by show (0:Int)<=9*0; decide⟩
 | c::x=>by
  rw[jJ1,aG]
  have:=wt_bd x
  have:=jR3 S c
  omega
theorem jMH {l:List (Int×Nat)}(h10:sz.length<=10)(told:WTold pcs (wk (chs sz.length [] pcs) 0) l):l.length<=181:=by
 have b:∀ w∈l, -90<=w.1/\w.1<=90:=fun w hw=>by
  have p:=told.pos w hw
  have q:0<lk l w.1:=by
   clear told
   induction l with
   | nil=>cases hw
   | cons a l ih=>
    show 0<(if a.1=w.1 then a.2 else 0)+lk l w.1
    rcases az.mp hw with z | z
    ·subst z; rw[aq rfl]; omega
    ·have:=ih z; omega
  rw[told.lk] at q
  obtain⟨x,hx,e⟩:=List.countP_pos_iff.mp q
  have e:=de.mp e
  have:=wt_bd S x
  rw[(jHA g S).2 x hx,e] at this
  omega
 have r:=told.ris
 clear told
 have key:∀ (l:List (Int×Nat)) (lo:Int),(l.Pairwise fun x y=>x.1<y.1)->(∀ w∈l,lo<=w.1/\w.1<=90)->(l.length:Int)<=if lo<=90 then 91 - lo else 0:=by
  intro l
  induction l with
  | nil=>intro lo _ _; split <;> simp; omega
  | cons a l ih=>
   intro lo hp hb
   obtain⟨h1,h2⟩:=cJ.mp hp
   have ha:=hb a (ak ..)
   have:=ih (a.1+1) h2 fun w hw=>⟨by have:=h1 w hw; omega,(hb w (ai _ hw)).2⟩
   rw[aG,aq (by omega)]
   split at this <;> omega
 have:=key l (-90) r b
 rw[aq (by decide)] at this
 omega
end
theorem jMK {a b:List Int}(ha:a.Pairwise (· < ·))(hb:b.Pairwise (· < ·))(h:∀ z,z∈a↔z∈b):a=b:=by
 induction a generalizing b with
 | nil=>
  cases b with
  | nil=>rfl
  | cons y b=>exact absurd ((h y).mpr (ak ..)) aW
 | cons x a ih=>
  cases b with
  | nil=>exact absurd ((h x).mp (ak ..)) aW
  | cons y b=>
   obtain⟨a1,a2⟩:=cJ.mp ha
   obtain⟨b1,b2⟩:=cJ.mp hb
   have e:x=y:=by
    rcases az.mp ((h x).mp (ak ..)) with z | z
    ·exact z
    ·rcases az.mp ((h y).mpr (ak ..)) with q | q
     ·exact q.symm
     ·have:=b1 x z
      have:=a1 y q
      omega
   subst e
   congr 1
   refine ih a2 b2 fun z=>⟨fun q=>?_,fun q=>?_⟩
   ·rcases az.mp ((h z).mp (ai _ q)) with y | y
    ·have:=a1 z q; omega
    ·exact y
   ·rcases az.mp ((h z).mpr (ai _ q)) with y | y
    ·have:=b1 z q; omega
    ·exact y
end Eo
end
section
namespace L2
open PySem
open PySem.Spec PyProof.Rows
theorem FnOk.toX {P:Program}{w:World}{K:W.Frag}{mg:Str->Option Value}{base:Heap}{C:Addr}{k:Nat}{f:Addr}{fd:FuncData}{ps:List Str}{sp:Sp}(F:FnOk P w K mg base CX0 k f fd ps sp):FnOk P w K mg base (CXX P w C) k f fd ps sp:=by
 refine⟨fun vs H Q E h=>F.len _ _ _ _ h,fun A outer s H args us vs Q E hr e0 hb r hsp=>dv (F.run A outer s H args us vs Q _ hr e0 hb r hsp) fun res s' hq=>?_⟩
 cases res with
 | ok fl=>cases fl <;> exact hq
 | error ev=>exact hq.elim
theorem FnOk.or {P:Program}{w:World}{K:W.Frag}{mg:Str->Option Value}{base:Heap}{CX:CXT}{k:Nat}{f:Addr}{fd:FuncData}{ps:List Str}{sp sp':Sp}(F:FnOk P w K mg base CX k f fd ps sp)(G:FnOk P w K mg base CX k f fd ps sp'):FnOk P w K mg base CX k f fd ps (fun vs H Q E=>sp vs H Q E\/sp' vs H Q E):=by
 refine⟨fun vs H Q E h=>h.elim (fun h=>F.len _ _ _ _ h) fun h=>G.len _ _ _ _ h,fun A outer s H args us vs Q E hr e0 hb r hsp=>?_⟩
 rcases hsp with h | h
 ·exact F.run A outer s H args us vs Q E hr e0 hb r h
 ·exact G.run A outer s H args us vs Q E hr e0 hb r h
end L2
namespace Eo
open PySem L2
abbrev XOfX (C:Addr)(N:List Str)(q:Str)(st:Stmt)(P:Program)(w:World)(K:W.Frag)(mg:Str->Option Value)(base:Heap)(f:Addr)(cdv:Value)(A:Around)(outer:List Env)(s:Shared)(H:Hp)(E:XK):Cx:=cxOf (CXX P w C) P w K mg base N q (j7 st) f cdv A outer s H E
abbrev jCI:List Str:=["Held","NoCovering","NoDeed","NoOrder","NoPiece","NoRow","NoText","NoThing","NoWeight","TooMany"]
structure Kinds (K:W.Frag)(mg:Str->Option Value)(C:Addr)(cl:Nat->Addr)(ks:Nat->Bool):Prop where
 ei:ExcIs K C
 ml:∀ i x,jCI[i]?=some x->mg x=some (.ref (cl i))
 is_:∀ i,i<10->kitOne K (.ref C) (.ref (cl i))=some (ks i)
 ve:kitOne K (.ref C) (.type "ValueError")=some true
section
variable {P:Program}{w:World}{K:W.Frag}{mg:Str->Option Value}{base:Heap}
variable {f fM cE tb1:Addr}{fdM:FuncData}{cdv:Value}{A:Around}{outer:List Env}{s:Shared}{H0:Hp}{E:XK}{u1:Tok}
def jO4 (tb1:Addr):Sp:=fun vs H _ E=>∃ (b:Addr) (w:Int) (ms:List Int) (pcs:List (List Int×Int)),vs=[.ref b]/\BoxAt H b w ms pcs/\Good 16 32 w ms pcs/\TabW H tb1/\1000<(wk (chs w.toNat ms pcs) 0).length/\∀ a H',ExtT tb1 H H'->TabW H' tb1->E (.ref a) (some a) H'
def wtxA (T:Txt mg)(M1:mg "MOST_WEIGHED" =some (.int 1000 u1))(EK:ExcK K cE)(MX:mg "TooMany" =some (.ref cE))(CM:Can P w K mg base "many" 6 fM fdM ["box"] (jDG tb1))(hr:Room 6 (XOfX cE nWts "weights" sWts P w K mg base f cdv A outer s H0 E).nox.A): { t:TS // JSs (XOfX cE nWts "weights" sWts P w K mg base f cdv A outer s H0 E) (jB sWts) t} :=
 have nd:=scWts.nd
 ⟨_,(jD (yE (JT.nox (jZ op_gt (CM.je hr (gl_x (by decide+kernel)) (j4 (jv 0 rfl (jR6 (by decide+kernel))) jA j6) j6) (kR (v:= .int 1000) (gl_x (by decide+kernel)) M1 ⟨_,rfl⟩) (jS _))) (jF (jL0 rfl EK (gl_x (by decide+kernel)) MX (j4 jL4 jA jE))) kQ) (jD jL1 (jF jL1)))⟩
theorem jSB {fd:FuncData}(F:Fun K "weights" "weights" sWts f fd)(T:Txt mg)(M1:mg "MOST_WEIGHED" =some (.int 1000 u1))(EK:ExcK K cE)(MX:mg "TooMany" =some (.ref cE))(CM:Can P w K mg base "many" 6 fM fdM ["box"] (jDG tb1)):FnOk P w K mg base (CXX P w cE) 7 f fd ["box"] (jO4 tb1):=by
 refine F.okX scWts (fun vs H Q E h=>?_) (fun cdv A outer s H vs Q E hr h=>?_)
 ·obtain⟨_,_,_,_,rfl,_⟩:=h
  rfl
 ·obtain⟨b,w,ms,pcs,rfl,hB,g,tab,h9,qE⟩:=h
  refine⟨_,(wtxA T M1 EK MX CM hr).2.h,?_⟩
  refine⟨_,rfl,b,w,ms,pcs,rfl,hB,g,tab,fun H1 e1 t1=>?_⟩
  refine⟨_,_,rfl,rfl,_,rfl,?_⟩
  rw[aO (show (1000:Int)<((wk (chs w.toNat ms pcs) 0).length:Int) by omega)]
  exact iteT ⟨by show (1:Nat)<=_; decide,fun a=>qE a H1 e1 t1⟩
end
section
variable {P:Program}{w:World}{K:W.Frag}{mg:Str->Option Value}{base:Heap}
variable {f fB cE cO tb1 tb2:Addr}{L:List TT}{fdB:FuncData}{cdv:Value}{A:Around}{outer:List Env}{s:Shared}{H0:Hp}{E:XK}{cl:Nat->Addr}
abbrev spWX (L:List TT)(tb1 tb2:Addr):Sp:=fun vs H Q E=>spWts L tb1 tb2 vs H Q E\/jO4 tb1 vs H Q E
noncomputable abbrev nTold:List Str:=["box","found","e","others"]
theorem scTold:FnScope nTold ["box"] (j7 yL):=⟨rfl,rfl,rfl,by decide+kernel,rfl,by decide+kernel,by decide+kernel⟩
def jJH (L:List TT)(tb1 tb2:Addr):Sp:=fun vs H Q _=>∃ (b:Addr) (w:Int) (ms:List Int) (pcs:List (List Int×Int)),vs=[.ref b]/\BoxAt H b w ms pcs/\Good 16 32 w ms pcs/\(∀ m,m<2 ^ (chs w.toNat ms pcs).length->(wk (chs w.toNat ms pcs) m).length<=1000000)/\TbS L H/\tWt tb1∈L/\tWB tb2∈L/\((wk (chs w.toNat ms pcs) 0).length<=1000->∀ r us l H',H' r=some (.lst us)->PrsA H' us l->WTold pcs (wk (chs w.toNat ms pcs) 0) l->l.length<=1000->ExS (ads L) H H'->TbS L H'->H r=none->Q (.ref r) H')/\(1000<(wk (chs w.toNat ms pcs) 0).length->∀ H',ExS (ads L) H H'->TbS L H'->Q (.str "many") H')
def toldA (T:Txt mg)(FB:CanX cE P w K mg base "weights" 7 fB fdB ["box"] (spWX L tb1 tb2))(EI:ExcIs K cE)(ML:∀ i x,jCI[i]?=some x->mg x=some (.ref (cl i)))(MO:mg "OnceError" =some (.ref cO))(hr:Room 7 (XOf nTold "_law_told" yL P w K mg base f cdv A outer s H0 E).A): { t:TS // JSs (XOf nTold "_law_told" yL P w K mg base f cdv A outer s H0 E) (jB yL) t} :=
 have nd:=scTold.nd
 ⟨_,(jD (jT (i:=1) nd rfl lL (jL5) jCG) (jD (jST (j:=2) nd rfl (show (j7 yL).names.lookup (("e" :String):Str)=some NameKind.local by decide+kernel) (jSZ (i:=1) nd rfl lL (jQF FB.G (hr.mono (by decide)) gD FB.m FB.kp FB.b (j4 (jv 0 rfl vL) jA j6) rfl j6) kU) gD MO rfl rfl (fun x=>(jD (jT (i:=3) nd rfl (loc_u lL) (jG (jEP EI) (gl_u gD) T.isinstance (by decide+kernel) (j4 (jv 2 rfl (vis_u vL)) (j4 (jAR (j4 (kR (v:= .ref (cl 0)) (gl_u gD) (ML 0 _ rfl) rfl) (j4 (kR (v:= .ref (cl 1)) (gl_u gD) (ML 1 _ rfl) rfl) (j4 (kR (v:= .ref (cl 2)) (gl_u gD) (ML 2 _ rfl) rfl) (j4 (kR (v:= .ref (cl 3)) (gl_u gD) (ML 3 _ rfl) rfl) (j4 (kR (v:= .ref (cl 4)) (gl_u gD) (ML 4 _ rfl) rfl) (j4 (kR (v:= .ref (cl 5)) (gl_u gD) (ML 5 _ rfl) rfl) (j4 (kR (v:= .ref (cl 6)) (gl_u gD) (ML 6 _ rfl) rfl) (j4 (kR (v:= .ref (cl 7)) (gl_u gD) (ML 7 _ rfl) rfl) (j4 (kR (v:= .ref (cl 8)) (gl_u gD) (ML 8 _ rfl) rfl) jA j6) j6) j6) j6) j6) j6) j6) j6) j6)) jA jCU) j6) j6) kU)
   (jF (yE (jt_w (jOG (jC9 (jG (jCB EI) (gl_u gD) T.isinstance (by decide+kernel) (j4 (jv 2 rfl (vis_u vL)) (j4 (kR (v:= .ref (cl 9)) (gl_u gD) (ML 9 _ rfl) rfl) jA j6) j6) j6) jB8) (jOG (jC9 (jG (jCB EI) (gl_u gD) T.isinstance (by decide+kernel) (j4 (jv 2 rfl (vis_u vL)) (j4 (kS (v:= .ty "ValueError") (gl_u gD) T.ValueError (by decide+kernel) rfl) jA j6) j6) j6) jB8) (jQG (jKY (jC9 (jv 3 rfl (vis_u vL)) jOZ)))))) (jF (jT (i:=1) nd rfl (loc_u lL) (jL4) jCG)) kQ))))) (jF (jR (jv 1 rfl vL)))))⟩
theorem jQ1 {fd:FuncData}(F:Fun K "_law_told" "_law_told" yL f fd)(T:Txt mg)(FB:CanX cE P w K mg base "weights" 7 fB fdB ["box"] (spWX L tb1 tb2))(kd:Kinds K mg cE cl fun i=>decide (i=9))(MO:mg "OnceError" =some (.ref cO))(AB:Above K cE cO):FnOk P w K mg base CX0 8 f fd ["box"] (jJH L tb1 tb2):=by
 refine F.ok scTold (fun vs H Q E h=>?_) (fun cdv A outer s H vs Q E hr h=>?_)
 ·obtain⟨_,_,_,_,rfl,_⟩:=h
  rfl
 ·obtain⟨b,w,ms,pcs,rfl,hB,g,bd,tab,i1,i2,qy,qn⟩:=h
  refine⟨_,(toldA T FB kd.ei kd.ml MO hr).2.h,?_⟩
  by_cases h10:(wk (chs w.toNat ms pcs) 0).length<=1000
  ·refine⟨_,rfl, .inl ⟨b,w,ms,pcs,rfl,hB,g,bd,h10,tab,i1,i2,fun r us l H1 d1 p1 t1 l1 x1 T1 n1=>?_⟩⟩
   exact⟨_,rfl,qy h10 r us l H1 d1 p1 t1 l1 x1 T1 n1⟩
  ·have h10:1000<(wk (chs w.toNat ms pcs) 0).length:=by omega
   refine⟨_,rfl, .inr ⟨b,w,ms,pcs,rfl,hB,g,tab.ok _ i1,h10,fun a H2 e2 t2=>?_⟩⟩
   have T2:=tab.setT i1 e2 t2
   have X2:ExS (ads L) H H2:=ExS.ofT e2 (cD i1)
   rintro x hx1 hx2 hx
   refine⟨AB,?_⟩
   have e3:Ext H2 (L2.upd H2 x (.ext (excP x cE))):=(Ext.refl _).new hx _
   have d3:(L2.upd H2 x (.ext (excP x cE))) x=some (.ext (excP x cE)):=j9
   generalize L2.upd H2 x (.ext (excP x cE))=H3 at e3 d3
   have rr:∀ {a:Addr}(v:Value),RelV (.ref a) v->v= .ref a:=fun v h=>h
   refine⟨_,rfl,by show (9:Nat)<=_; decide,fun t H4 d4 e4=>?_⟩
   refine⟨x,t,[cl 0,cl 1,cl 2,cl 3,cl 4,cl 5,cl 6,cl 7,cl 8],false,rfl,e4 _ _ d3,d4,jHT fun a ha=>?_,?_⟩
   ·simp only [az,aW,cz] at ha
    rcases ha with rfl | rfl | rfl | rfl | rfl | rfl | rfl | rfl | rfl
    ·exact kd.is_ 0 (by decide)
    ·exact kd.is_ 1 (by decide)
    ·exact kd.is_ 2 (by decide)
    ·exact kd.is_ 3 (by decide)
    ·exact kd.is_ 4 (by decide)
    ·exact kd.is_ 5 (by decide)
    ·exact kd.is_ 6 (by decide)
    ·exact kd.is_ 7 (by decide)
    ·exact kd.is_ 8 (by decide)
   ·have d4x:=e4 _ _ d3
    refine⟨_,rfl,x,_,_,_,rfl,d4x,rr,kd.is_ 9 (by decide),_,rfl,iteT ?_⟩
    refine⟨_,rfl,x,_,_,_,rfl,d4x,(fun _ h=>h),kd.ve,_,rfl,iteT ?_⟩
    refine⟨_,rfl,_,rfl,iteT ?_⟩
    exact⟨_,rfl,qn h10 H4 (X2.trans (ExS.of (e3.trans e4))) (T2.ext (e3.trans e4))⟩
end
abbrev zT (L:List Nat):Tr:= .lst ((L.map fun n:Nat=>(n:Int)).map Tr.int)
theorem jEU:∀ l:List Int,wids (l.map Tr.int)=0
 | []=>rfl
 | a::l=>by rw[ba,wids,jEU l]; rfl
theorem zT_at {H:Hp}{z:Addr}{L:List Nat}(h:H z=some (.lst (L.map natV))):TAt H (zT L) (.ref z):=⟨z,_,rfl,h,by
 have e:L.map natV=(L.map fun n:Nat=>(n:Int)).map V.int:=by rw[bF]; rfl
 rw[e]
 exact jHX _⟩
theorem jR1 (L:List Nat):dep (zT L)<=4:=by
 rw[dep,jD9]
 decide
theorem jR0 {L:List Nat}(h:L.length<=1000000):wid (zT L)<=1000000:=by
 rw[wid,ah,ah,jEU]
 omega
theorem TbS.keepL {L:List TT}{H H':Hp}(t:TbS L H)(k:∀ c o,H c=some o->(∀ xs,o≠ .lst xs)->H' c=some o):TbS L H':=⟨t.nd,fun x hx=>by
 rcases t.ok x hx with h | ⟨c,h,h2⟩
 ·exact .inl (k _ _ h (by intro _ z; cases z))
 ·exact .inr ⟨c,k _ _ h (by intro _ z; cases z),k _ _ h2 (by intro _ z; cases z)⟩⟩
abbrev LL (tb1 tb2:Addr):List TT:=[tWt tb1,tWB tb2]
structure OkSz (sz:List Nat):Prop where
 len:sz.length<=10
 sum:sz.sum<=32
 each:∀ a∈sz,1<=a/\a<=20
 mill:pr (sz.map (1+ ·))<=1000000
def SzG (H:Hp)(p:Addr)(v:V):Prop:=∃ (a:Addr) (sz:List Nat),v= .ref a/\H a=some (.lst (sz.map natV))/\OkSz sz/\a≠p
theorem SzG.keep {H H':Hp}{p:Addr}{v:V}(h:SzG H p v)(k:∀ c o,H c=some o->c≠p->H' c=some o):SzG H' p v:=let ⟨a,sz,e,d,o,n⟩:=h; ⟨a,sz,e,k _ _ d n,o,n⟩
theorem jSI {sz:List Nat}(h:sz.length<=8)(h4:∀ a∈sz,1<=a/\a<=4):OkSz sz:=by
 refine⟨by omega,?_,fun a ha=>⟨(h4 a ha).1,by have:=(h4 a ha).2; omega⟩,?_⟩
 ·have key:∀ l:List Nat,(∀ a∈l,1<=a/\a<=4)->l.sum<=4*l.length:=by
   intro l
   induction l with
   | nil=>intro _; decide
   | cons a l ih=>
    intro h
    have:=ih fun b hb=>h b (ai _ hb)
    have:=(h a (ak ..)).2
    rw[eU,aG]
    omega
  have:=key sz h4
  omega
 ·have q:=pr_le (k:=5) (s:=sz.map (1+ ·)) fun a ha=>by
   obtain⟨b,hb,rfl⟩:=bq.mp ha
   have:=(h4 b hb).2
   show 1+b<=5
   omega
  rw[ah] at q
  have:5 ^ sz.length<=5 ^ 8:=dS (by decide) h
  have e:5 ^ 8<=1000000:=by decide
  omega
theorem jPK {sz:List Nat}(h:∀ a∈sz,1<=a):∀ i,pr (sz.take i)<=pr (sz.map (1+ ·)):=by
 induction sz with
 | nil=>intro i; rw[List.take_nil]; exact aE _
 | cons a l ih=>
  intro i
  cases i with
  | zero=>exact jJW (s:=(a::l).map (1+ ·)) fun b hb=>by obtain⟨c,_,rfl⟩:=bq.mp hb; show 1<=1+c; omega
  | succ i=>
   show a*pr (l.take i)<=(1+a)*pr (l.map (1+ ·))
   exact ic (by omega) (ih (fun b hb=>h b (ai _ hb)) i)
theorem jNK (n:Nat)(v:V):(List.replicate n [v]).flatten=List.replicate n v:=by
 induction n with
 | zero=>rfl
 | succ n ih=>rw[cB,dM,ih]; rfl
section
variable {P:Program}{w:World}{K:W.Frag}{mg:Str->Option Value}{base:Heap}
variable {f fC fP fT fZ fS fD tb1 tb2:Addr}{fdC fdP fdT fdZ fdS fdD:FuncData}{cdv:Value}{A:Around}{outer:List Env}{s:Shared}{H0:Hp}{E:XK}
noncomputable abbrev nLaw:List Str:=["script","pot","some","sizes_here","amount","pieces","thing","size","turn","box","found","rising"]
theorem scLaw:FnScope nLaw ["script"] (j7 sLaw):=⟨rfl,rfl,rfl,by decide+kernel,rfl,by decide+kernel,by decide+kernel⟩
abbrev XLaw (P:Program)(w:World)(K:W.Frag)(mg:Str->Option Value)(base:Heap)(f:Addr)(cdv:Value)(A:Around)(outer:List Env)(s:Shared)(H:Hp)(E:XK):Cx:=XOf nLaw "law" sLaw P w K mg base f cdv A outer s H E
structure LW (P:Program)(w:World)(K:W.Frag)(mg:Str->Option Value)(base:Heap)(fC fP fT fZ fS fD tb1 tb2:Addr)(fdC fdP fdT fdZ fdS fdD:FuncData):Prop where
 T:Txt mg
 CC:Can P w K mg base "_law_cell_at" 1 fC fdC ["script","k"] (jJL K)
 CP:Can P w K mg base "_law_pot" 1 fP fdP ["cell"] spPot
 CT:Can P w K mg base "_law_take" 1 fT fdT ["pot","wide"] jJI
 CZ:Can P w K mg base "sizes" 5 fZ fdZ ["box"] jGA
 CS:Can P w K mg base "_law_same" 6 fS fdS ["found","due"] (jCS 4)
 CD:Can P w K mg base "_law_told" 8 fD fdD ["box"] (jJH (LL tb1 tb2) tb1 tb2)
theorem LL.i1:tWt tb1∈LL tb1 tb2:=ak ..
theorem LL.i2:tWB tb2∈LL tb1 tb2:=ai _ (ak ..)
section
variable (G:LW P w K mg base fC fP fT fZ fS fD tb1 tb2 fdC fdP fdT fdZ fdS fdD)(hr:Room 8 (XLaw P w K mg base f cdv A outer s H0 E).A)
def insA: { t:TS // JSs (XLaw P w K mg base f cdv A outer s H0 E) (jBI ((jBI ((jB sLaw).getD 6 (.Pass ⟨0,0,0,0⟩))).getD 1 (.Pass ⟨0,0,0,0⟩))) t} :=
 have nd:=scLaw.nd
 ⟨_,(jF (jGN (je_bm eC PySem.F.slot_list_insert PySem.F.type_list_insert jKF (jv 5 rfl vL) (j4 (G.CT.je (hr.mono (by decide)) gD (j4 (jv 1 rfl vC) (j4 (jX y9 (jG jA0 gD G.T.len (by decide+kernel) (j4 (jv 5 rfl vL) jA j6) j6) (je_int)) jA jBG) j6) j6) (j4 (jAR (j4 (jAR (j4 (jv 6 rfl vL) jA j6)) (j4 (jX jHH (G.CT.je (hr.mono (by decide)) gD (j4 (jv 1 rfl vC) (j4 (je_int) jA jE) j6) j6) (je_int)) jA jBG) jCU)) jA jCU) jO) jO) kU))⟩
def thgA: { t:TS // JSs (XLaw P w K mg base f cdv A outer s H0 E) (jBI ((jB sLaw).getD 6 (.Pass ⟨0,0,0,0⟩))) t} :=
 have nd:=scLaw.nd
 ⟨_,(jD (jT (i:=4) nd rfl lL (jX jDM (jv 4 rfl vL) (jv 7 rfl vL)) jF1) (jF (jBK cw rfl (jD5 gD G.T.range (j4 (jv 7 rfl vL) jA j6) j6) (kJ (i:=8) nd rfl lL) (insA G hr).2 kZ)))⟩
def jNX: { t:TS // JSs (XLaw P w K mg base f cdv A outer s H0 E) ((jB sLaw).drop 10) t} :=
 have nd:=scLaw.nd
 ⟨_,(jD (yE (jZ op_gt (jv 4 rfl vL) (je_int) (jS _)) (jF (jR (jBB op_eq (jv 10 rfl vL) (jL4) (jS _)))) kQ)
   (jD (yE (jt_w (jw_or (jKY (jC9 (jG jN gD G.T.isinstance (by decide+kernel) (j4 (jv 10 rfl vL) (j4 (kS (v:= .ty "list") gD G.T.list (by decide+kernel) rfl) jA j6) j6) j6) jB8)) (jOF (jZ op_ne (jG (jDB rfl) gD G.T.sum (by decide+kernel) (j4 (jAD (m:=[none,none]) (Nc:=["weight","number"]) rfl (kW (jv 10 rfl vL)) rfl (by decide+kernel) (by decide+kernel) (kN (psc:=j7 sLaw) (by decide+kernel)) (jU (N:=nLaw) rfl rfl (by decide+kernel)) (fun cl C fp s H=>jAA (i:=0) (j:=1) rfl (show (["weight","number"]:List Str).Nodup by decide+kernel) rfl rfl (by decide+kernel) (by decide+kernel)) (fun cl C fp s H=>jAC) (fun cl C fp s H=>(jv 1 rfl (kG (by decide+kernel)))) jAN) jA jY) jY) (jv 4 rfl vL) (jS _))))) (jF (jR (je_bl))) kQ)
   (jD (jT (i:=11) nd rfl lL (jG (jDC rfl) gD G.T.sorted (by decide+kernel) (j4 (jFM (jM0 rfl) gD G.T.set (by decide+kernel) (j4 (jAD (m:=[none,none]) (Nc:=["weight","number"]) rfl (kW (jv 10 rfl vL)) rfl (by decide+kernel) (by decide+kernel) (kN (psc:=j7 sLaw) (by decide+kernel)) (jU (N:=nLaw) rfl rfl (by decide+kernel)) (fun cl C fp s H=>jAA (i:=0) (j:=1) rfl (show (["weight","number"]:List Str).Nodup by decide+kernel) rfl rfl (by decide+kernel) (by decide+kernel)) (fun cl C fp s H=>jAC) (fun cl C fp s H=>(jv 0 rfl (kG (by decide+kernel)))) jAN) jA jY) jY) jA jO) jO) kU)
   (jF (jR (jBB (jPX hr.units101) (jAD (m:=[none,none]) (Nc:=["weight","number"]) rfl (kW (jv 10 rfl vL)) rfl (by decide+kernel) (by decide+kernel) (kN (psc:=j7 sLaw) (by decide+kernel)) (jU (N:=nLaw) rfl rfl (by decide+kernel)) (fun cl C fp s H=>jAA (i:=0) (j:=1) rfl (show (["weight","number"]:List Str).Nodup by decide+kernel) rfl rfl (by decide+kernel) (by decide+kernel)) (fun cl C fp s H=>jAC) (fun cl C fp s H=>(jv 0 rfl (kG (by decide+kernel)))) jAN) (jv 11 rfl vL) (jS _)))))))⟩
def jNY: { t:TS // JSs (XLaw P w K mg base f cdv A outer s H0 E) ((jB sLaw).drop 7) t} :=
 have nd:=scLaw.nd
 ⟨_,(jD (jT (i:=9) nd rfl lL (jAR (j4 (jG jA0 gD G.T.len (by decide+kernel) (j4 (jv 3 rfl vL) jA j6) j6) (j4 (jAR jA) (j4 (jFM jEN gD G.T.tuple (by decide+kernel) (j4 (jv 5 rfl vL) jA j6) j6) jA jO) jCU) jO)) jRI) (jD (yE (jKY (jC9 (G.CS.je (hr.mono (by decide)) gD (j4 (G.CZ.je (hr.mono (by decide)) gD (j4 (jv 9 rfl vL) jA j6) j6) (j4 (jX jE3 (jX jHI (jQ (j4 (je_int) jA jE)) (jG jA0 gD G.T.len (by decide+kernel) (j4 (jv 3 rfl vL) jA j6) j6)) (jQ (j4 (jv 4 rfl vL) jA j6))) jA jBG) jO) jO) jB8)) (jF (jR (je_bl))) kQ) (jD (jT (i:=10) nd rfl lL (G.CD.je hr gD (j4 (jv 9 rfl vL) jA j6) j6) kU) (jNX G hr).2)))⟩
def midA: { t:TS // JSs (XLaw P w K mg base f cdv A outer s H0 E) ((jB sLaw).drop 4) t} :=
 have nd:=scLaw.nd
 ⟨_,(jD (jT (i:=4) nd rfl lL (je_int) jCG) (jD (jT (i:=5) nd rfl lL (jQ jA) jJG) (jD (jBK cw rfl (jGO gD G.T.enumerate (j4 (jv 3 rfl vL) jA j6) j6) (jCM (i:=6) (j:=7) nd rfl rfl (by decide+kernel) (by decide+kernel)) (thgA G hr).2 kZ) (jNY G hr).2)))⟩
def lawA: { t:TS // JSs (XLaw P w K mg base f cdv A outer s H0 E) (jB sLaw) t} :=
 have nd:=scLaw.nd
 ⟨_,(jD (jT (i:=1) nd rfl (loc_c (by decide+kernel)) (G.CP.je (hr.mono (by decide)) gD (j4 (G.CC.je (hr.mono (by decide)) gD (j4 (jv 0 rfl vL) (j4 (je_int) jA jE) j6) j6) jA jO) jO) kU) (jD (jT (i:=2) nd rfl lL (jQ (j4 (jQ (j4 (je_int) (j4 (je_int) (j4 (je_int) jA jE) jE) jE)) (j4 (jQ (j4 (je_int) (j4 (je_int) (j4 (je_int) (j4 (je_int) jA jE) jE) jE) jE)) (j4 (jQ (j4 (je_int) (j4 (je_int) (j4 (je_int) (j4 (je_int) (j4 (je_int) jA jE) jE) jE) jE) jE)) (j4 (jQ (j4 (je_int) (j4 (je_int) (j4 (je_int) (j4 (je_int) (j4 (je_int) (j4 (je_int) jA jE) jE) jE) jE) jE) jE)) (j4 (jQ (j4 (je_int) (j4 (je_int) (j4 (je_int) jA jE) jE) jE)) (j4 (jQ (j4 (je_int) (j4 (je_int) (j4 (je_int) jA jE) jE) jE)) (j4 (jQ (j4 (je_int) (j4 (je_int) (j4 (je_int) jA jE) jE) jE)) jA jC8) jC8) jC8) jC8) jC8) jC8) jC8)) jJG) (jD (jT (i:=2) nd rfl lL (jX jE3 (jv 2 rfl vL) (jQ (j4 (jX jHI (jQ (j4 (je_int) jA jE)) (je_int)) (j4 (jX jHI (jQ (j4 (je_int) jA jE)) (je_int)) (j4 (jAD (m:=[none,some 1]) (Nc:=["k","pot"]) rfl (jD5 gD G.T.range (j4 (G.CT.je (hr.mono (by decide)) gD (j4 (jv 1 rfl vC) (j4 (je_int) jA jE) j6) j6) jA jO) jO) rfl (by decide+kernel) (by decide+kernel) (kN (psc:=j7 sLaw) (by decide+kernel)) (jU (N:=nLaw) rfl rfl (by decide+kernel)) (fun cl C fp s H=>kJ (i:=0) (show (["k","pot"]:List Str).Nodup by decide+kernel) rfl (loc_b (by decide+kernel))) (fun cl C fp s H=>jAC) (fun cl C fp s H=>(jX y9 (je_int) (G.CT.je (hr.mono (by decide)) (gl_b (by decide+kernel)) (j4 (jv 1 rfl (jEW (by decide+kernel))) (j4 (je_int) jA jE) j6) j6))) kZ) jA jY) jBG) jBG))) jF1) (jD (jT (i:=3) nd rfl lL (yI jC0 (jv 2 rfl vL) (G.CT.je (hr.mono (by decide)) gD (j4 (jv 1 rfl vC) (j4 (je_int) jA jE) j6) j6) jPA) jRJ) (midA G hr).2))))⟩
theorem jNE {D:Ends}{H:Hp}{p L:Addr}{N:Int}{t:Nat}{vs:List V}{pcs:List (List Int×Int)}{v0 v2 v3 v4 v7 v8 v9 vA vB:Option V}(hp:H p=some (.lst [.int N]))(hN:0<=N)(hL:H L=some (.lst vs))(hv:PcsAt H vs pcs)(vl:vs.length<=100)(Lp:L≠p)
  (nx:∀ (H':Hp) (N':Int) (vs':List V) (i:Nat) (x:Int),(∀ c o,H c=some o->c≠p->c≠L->H' c=some o)->H' p=some (.lst [.int N'])->0<=N'->H' L=some (.lst vs')-> -9<=x->x<=9->PcsAt H' vs' (pcs.take i++([(t:Int)],x)::pcs.drop i)->D.nx [v0,some (.ref p),v2,v3,v4,some (.ref L),some (natV t),v7,v8,v9,vA,vB] H'):
  (insA G hr).1 D [v0,some (.ref p),v2,v3,v4,some (.ref L),some (natV t),v7,v8,v9,vA,vB] H:=by
 refine⟨_,rfl, .inl ⟨rfl,_,SqL.of hL⟩,_,rfl,_,rfl,L,_,rfl, .inl (SqL.of hL),_,_,rfl,rfl,p,N,_,rfl,hp,hN,by show (0:Int)<(vs.length:Int)+1; omega,by show (vs.length:Int)+1<(2 ^ 64:Int); omega,fun N1 r a1 a2 a3=>?_⟩
 have a3:r<(vs.length:Int)+1:=a3
 have k1:∀ c o,H c=some o->c≠p->(L2.upd H p (.lst [.int N1])) c=some o:=fun c o h n=>by rw[j8 n]; exact h
 have d1:(L2.upd H p (.lst [.int N1])) p=some (.lst [.int N1]):=j9
 generalize L2.upd H p (.lst [.int N1])=H1 at k1 d1
 refine⟨_,rfl,by show (1:Nat)<=_; decide,fun q1 H2 d2 e2=>?_⟩
 refine⟨_,rfl,p,N1,19,rfl,e2 _ _ d1,a1,by decide,by decide,fun N3 r3 b1 b2 b3=>⟨_,_,rfl,rfl,?_⟩⟩
 have q1p:q1≠p:=fun z=>by rw[z,e2 _ _ d1] at d2; cases d2
 have k3:∀ c o,H2 c=some o->c≠p->(L2.upd H2 p (.lst [.int N3])) c=some o:=fun c o h n=>by rw[j8 n]; exact h
 have d3:(L2.upd H2 p (.lst [.int N3])) p=some (.lst [.int N3]):=j9
 generalize L2.upd H2 p (.lst [.int N3])=H3 at k3 d3
 refine⟨by show (2:Nat)<=_; decide,fun q2 H4 d4 e4=>?_⟩
 have K4:∀ c o,H c=some o->c≠p->H4 c=some o:=fun c o h n=>e4 _ _ (k3 _ _ (e2 _ _ (k1 _ _ h n)) n)
 have L4:=K4 _ _ hL Lp
 refine⟨L,vs,r, .ref q2,rfl,rfl,L4,a2,by omega,by rw[aY]; omega,?_⟩
 have tu:Tups H4 (L2.upd H4 L (.lst (vs.take r.toNat++V.ref q2::vs.drop r.toNat))):=Tups.upd L4 _
 have t4:Tups H H4:=fun c xs h=>K4 _ _ h fun z=>by rw[z,hp] at h; cases h
 refine nx _ N3 _ r.toNat (r3 - 9) (fun c o h n1 n2=>by rw[j8 n2]; exact K4 _ _ h n1) (by rw[j8 Lp.symm]; exact e4 _ _ d3) b1 j9 (by omega) (by omega) ?_
 exact PcsAt.put (p:=([(t:Int)],r3 - 9)) ⟨q2,q1,rfl,tu _ _ d4,tu _ _ (e4 _ _ (k3 _ _ d2 q1p))⟩ _ ((hv.mono t4).mono tu)
theorem jMI {D:Ends}{H:Hp}{p L:Addr}{N:Int}{sz:List Nat}{t sl:Nat}{vs:List V}{pcs:List (List Int×Int)}{v0 v2 v3 v8 v9 vA vB:Option V}(hp:H p=some (.lst [.int N]))(hN:0<=N)(hL:H L=some (.lst vs))(hv:PcsAt H vs pcs)(Lp:L≠p)(S:Sg sz pcs)(s32:sz.sum+sl<=32)(tl:sz.length=t)(s1:sl<=20)(am:pr sz<=1000000)
  (nx:∀ (H':Hp) (N':Int) (vs':List V) (pcs':List (List Int×Int)) v8,(∀ c o,H c=some o->c≠p->c≠L->H' c=some o)->H' p=some (.lst [.int N'])->0<=N'->H' L=some (.lst vs')->PcsAt H' vs' pcs'->Sg (sz++[sl]) pcs'->D.nx [v0,some (.ref p),v2,v3,some (natV (pr (sz++[sl]))),some (.ref L),some (natV t),some (natV sl),v8,v9,vA,vB] H'):
  (thgA G hr).1 D [v0,some (.ref p),v2,v3,some (natV (pr sz)),some (.ref L),some (natV t),some (natV sl),v8,v9,vA,vB] H:=by
 have ea:V.int (((pr sz:Nat):Int)*((sl:Nat):Int))=natV (pr (sz++[sl])):=by
  rw[jJV]
  show _=V.int ((pr sz*sl:Nat):Int)
  rw[Int.natCast_mul]
 refine⟨_,rfl,_,rfl,_,_,rfl,rfl, .inl ⟨by show -(2 ^ 64:Int)<_; omega,by show _<(2 ^ 64:Int); omega⟩,?_⟩
 dsimp only
 rw[ea]
 refine⟨_,rfl,(sl:Int),rfl,by omega,by omega,jFS (lo:=0) (n:=(sl:Int).toNat) (fun i σ H'=>(∃ v8,σ=[v0,some (.ref p),v2,v3,some (natV (pr (sz++[sl]))),some (.ref L),some (natV t),some (natV sl),v8,v9,vA,vB])/\(∀ c o,H c=some o->c≠p->c≠L->H' c=some o)/\(∃ N',H' p=some (.lst [.int N'])/\0<=N')/\∃ vs pcs,H' L=some (.lst vs)/\PcsAt H' vs pcs/\Sg (sz++[i]) pcs) ⟨⟨_,rfl⟩,fun _ _ h _ _=>h,⟨N,hp,hN⟩,vs,pcs,hL,hv,S.next⟩ ?_ ?_⟩
 ·rintro i σ H1 hi ⟨⟨v8,rfl⟩,k1,⟨N1,p1,n1⟩,vs1,pcs1,L1,hv1,S1⟩
  have vl:=hv1.len
  rw[S1.len,cX] at vl
  have vl:vs1.length=sz.sum+(i+0):=vl
  refine jNE G hr p1 n1 L1 hv1 (by omega) Lp fun H2 N2 vs2 j x k2 p2 n2 L2' x1 x2 hv2=>⟨⟨_,rfl⟩,fun c o h m1 m2=>k2 _ _ (k1 _ _ h m1 m2) m1 m2,⟨N2,p2,n2⟩,vs2,_,L2',hv2,?_⟩
  rw[<- tl]
  exact S1.put x1 x2
 ·rintro σ H1 ⟨⟨v8,rfl⟩,k1,⟨N1,p1,n1⟩,vs1,pcs1,L1,hv1,S1⟩
  rw[aZ] at S1
  exact nx H1 N1 vs1 pcs1 v8 k1 p1 n1 L1 hv1 S1
theorem jID {D:Ends}{H:Hp}{y:Addr}{us:List V}{l:List (Int×Nat)}{sz:List Nat}{pcs:List (List Int×Int)}{v0 v1 v2 v3 v5 v6 v7 v8 v9 vB:Option V}(g:Good 16 32 (sz.length:Int) [] pcs)(S:Sg sz pcs)(o:OkSz sz)(a1000:pr sz<=1000)(hy:H y=some (.lst us))(pu:PrsA H us l)(told:WTold pcs (wk (chs sz.length [] pcs) 0) l)(q:∀ H',D.rt (.bl true) H'):
  (jNX G hr).1 D [v0,v1,v2,v3,some (natV (pr sz)),v5,v6,v7,v8,v9,some (.ref y),vB] H:=by
 have lf:=jMH g S o.len told
 have ul:=All2.len pu
 have hl:=(jHA g S).1
 refine⟨_,rfl,_,_,rfl,rfl,_,rfl,iteN (by show decide ((1000:Int)<((pr sz:Nat):Int))=false; exact aR (by omega)) ?_⟩
 refine⟨_,rfl,_,_,_,true,rfl, .lst hy,rfl,true,rfl,?_⟩
 refine iteN rfl ?_
 have wk1:∀ {H':Hp},H' y=some (.lst us)->PrsA H' us l->∀ {σ:St}{Q:VK},(∀ (D2:Addr) (HB:Hp),HB D2=some (.lst ((l.map (·.1)).map V.int))->Ext H' HB->Q (.ref D2) HB)->CompW [none,none] (gTup K 2 (yF (kL 0) (yF (kL 1) gNil))) yH (tVar 0) σ Q (Itl K y) H':=fun {H'} hy pu {σ Q} q=>by
  refine jB2 (xs:=us) (fun σ=>∃ v1 v2,σ=[v1,v2]) (mapZ l fun c=>V.int c.1) (mapZ.ok _ _) hy (by rw[aY]; omega) ⟨_,_,rfl⟩ ?_ ?_
  ·rintro j x σ' H' zs hx ⟨v1,v2,rfl⟩ e hz S1 S2 yes no
   obtain⟨c,hc,p,rfl,hp⟩:=All2.get' pu hx
   refine⟨p,_,rfl,SqT.of (e _ _ hp),rfl,_,_,rfl,_,_,rfl,rfl,?_⟩
   dsimp only [yH]
   rw[aq rfl]
   exact⟨_,rfl,yes _ _ _ ⟨_,_,rfl⟩ (Ext.refl _) (hz.yes hc)⟩
  ·rintro D2 HB zs hD eB nD hz
   have hz:=hz.all (by rw[ul]; exact aE _)
   refine q D2 HB ?_ eB
   rw[hD,hz,bF]
   rfl
 refine⟨_,rfl,y,rfl,⟨_,SqL.of hy⟩,jB2 (xs:=us) (fun σ=>∃ v1 v2,σ=[v1,v2]) (mapZ l fun c=>natV c.2) (mapZ.ok _ _) hy (by rw[aY]; omega) ⟨_,_,rfl⟩ ?_ ?_⟩
 ·rintro j x σ' H' zs hx ⟨v1,v2,rfl⟩ e hz S1 S2 yes no
  obtain⟨c,hc,p,rfl,hp⟩:=All2.get' pu hx
  refine⟨p,_,rfl,SqT.of (e _ _ hp),rfl,_,_,rfl,_,_,rfl,rfl,?_⟩
  dsimp only [yH]
  rw[aq rfl]
  exact⟨_,rfl,yes _ _ _ ⟨_,_,rfl⟩ (Ext.refl _) (hz.yes hc)⟩
 rintro D2 HB zs hD eB nD hz
 have hz:=hz.all (by rw[ul]; exact aE _)
 have hz2:zs=((l.map (·.2)).map fun n:Nat=>(n:Int)).map V.int:=by rw[hz,bF,bF]; rfl
 rw[hz2] at hD
 refine⟨D2,_,rfl,SqL.of hD,?_⟩
 have tt:(l.map (·.2)).sum=pr sz:=(jJ8 pcs l _ told.ris told.lk).trans hl
 rw[jOA,tt]
 refine⟨_,rfl,rfl,_,rfl,iteN (by show (!decide (V.int _=V.int _))=false; rw[aO rfl]; rfl) ?_⟩
 have y1:=eB _ _ hy
 have pu1:PrsA HB us l:=All2.imp (fun _ _ ⟨a,e,q⟩=>⟨a,e,eB _ _ q⟩) pu
 refine⟨_,rfl,y,rfl,⟨_,SqL.of y1⟩,wk1 y1 pu1 fun D3 H3 d3 e3=>?_⟩
 refine⟨D3,_,rfl,SqL.of d3,by rw[ah]; omega,fun l4 ks n4 m4=>?_⟩
 have e4:Ext H3 (L2.upd H3 l4 (SetB (XLaw P w K mg base f cdv A outer s H0 E).w l4 ks)):=(Ext.refl _).new n4 _
 have d4:(L2.upd H3 l4 (SetB (XLaw P w K mg base f cdv A outer s H0 E).w l4 ks)) l4=some (SetB (XLaw P w K mg base f cdv A outer s H0 E).w l4 ks):=j9
 refine⟨l4,ks,rfl,d4,fun l5 ns n5 r5 m5=>?_⟩
 have en:ns=l.map (·.1):=jMK r5 (cj.mpr told.ris) fun z=>(m5 z).trans (m4 z)
 subst en
 have e5:=e4.new n5 (.lst ((l.map (·.1)).map V.int))
 have d5:(L2.upd (L2.upd H3 l4 (SetB (XLaw P w K mg base f cdv A outer s H0 E).w l4 ks)) l5 (.lst ((l.map (·.1)).map V.int))) l5=some (.lst ((l.map (·.1)).map V.int)):=j9
 generalize L2.upd (L2.upd H3 l4 (SetB (XLaw P w K mg base f cdv A outer s H0 E).w l4 ks)) l5 (.lst ((l.map (·.1)).map V.int))=H5 at e5 d5
 have E5:=e3.trans e5
 have y5:=E5 _ _ y1
 have pu5:PrsA H5 us l:=All2.imp (fun _ _ ⟨a,e,q⟩=>⟨a,e,E5 _ _ q⟩) pu1
 refine⟨_,rfl,y,rfl,⟨_,SqL.of y5⟩,wk1 y5 pu5 fun D6 H6 d6 e6=>?_⟩
 refine⟨_,rfl,(l.map (·.1)).map Tr.int,(l.map (·.1)).map Tr.int,⟨D6,_,rfl,d6,jHX _⟩,⟨l5,_,rfl,e6 _ _ d5,jHX _⟩,by rw[jD9]; decide,?_⟩
 rw[jBM]
 exact q H6
theorem jIE {D:Ends}{H:Hp}{S0 L:Addr}{sz:List Nat}{vs:List V}{pcs:List (List Int×Int)}{v0 v1 v2 v6 v7 v8 v9 vA vB:Option V}(o:OkSz sz)(hS:H S0=some (.lst (sz.map natV)))(hL:H L=some (.lst vs))(hv:PcsAt H vs pcs)(S:Sg sz pcs)(tab:TbS (LL tb1 tb2) H)(q:∀ H',D.rt (.bl true) H'):
  (jNY G hr).1 D [v0,v1,v2,some (.ref S0),some (natV (pr sz)),some (.ref L),v6,v7,v8,v9,vA,vB] H:=by
 have g:Good 16 32 (sz.length:Int) [] pcs:=⟨by omega,by have:=o.len; omega,Ris.nil _,by have:=o.sum; have:=S.len; omega,fun pc hp=>by
  obtain⟨⟨t,ht,e⟩,h1,h2⟩:=S.one pc hp
  refine⟨⟨by rw[e]; exact iT _ _,fun z hz=>?_,by rw[e]; simp⟩,by omega,by omega⟩
  rw[e] at hz
  rw[aC.mp hz]
  omega⟩
 have ol:=o.len
 obtain⟨al,ax⟩:=jHA g S
 have asz:=sg_sz g S fun a ha=>(o.each a ha).1
 refine⟨_,rfl,S0,_,rfl, .inl (SqL.of hS),?_⟩
 refine⟨by show (0:Nat)<=_; decide,fun qm H1 d1 e1=>?_⟩
 refine⟨_,rfl,L,_,rfl, .inl ⟨SqL.of (e1 _ _ hL),fun r hr'=>?_⟩⟩
 have e2:Ext H1 (L2.upd H1 r (.tup vs)):=(Ext.refl _).new hr' _
 have d2:(L2.upd H1 r (.tup vs)) r=some (.tup vs):=j9
 generalize L2.upd H1 r (.tup vs)=H2 at e2 d2
 rw[ah]
 refine⟨by show (3:Nat)<=_; decide,fun b H3 d3 e3=>?_⟩
 have E3:=(e1.trans e2).trans e3
 have hB:BoxAt H3 b (sz.length:Int) [] pcs:=⟨qm,r,vs,d3,e3 _ _ (e2 _ _ d1),e3 _ _ d2,hv.mono E3.tups⟩
 have T3:=tab.ext E3
 refine⟨_,rfl,b,_,_,pcs,rfl,hB,g,fun z H4 d4 e4 n4=>?_⟩
 rw[aZ,asz] at d4
 have T4:=T3.ext e4
 have E4:=E3.trans e4
 refine⟨by show (1:Nat)<=_; decide,fun q0 H5 d5 e5 n5=>?_⟩
 refine⟨_,rfl,S0,_,rfl, .inl (SqL.of (e5 _ _ (E4 _ _ hS))),?_⟩
 rw[ah]
 refine⟨q0,(sz.length:Int),_,rfl,rfl,d5,by omega,by omega,by rw[aY,aZ]; show 1*_<=_; omega,fun q1 n1=>?_⟩
 rw[aZ,jNK]
 have e6:Ext H5 (L2.upd H5 q1 (.lst (List.replicate sz.length (V.int 0)))):=(Ext.refl _).new n1 _
 have d6:(L2.upd H5 q1 (.lst (List.replicate sz.length (V.int 0)))) q1=some (.lst (List.replicate sz.length (V.int 0))):=j9
 generalize L2.upd H5 q1 (.lst (List.replicate sz.length (V.int 0)))=H6 at e6 d6
 refine⟨_,rfl,by show (1:Nat)<=_; decide,fun q2 H7 d7 e7 n7=>?_⟩
 refine⟨q1,q2,_,_,rfl,rfl,e7 _ _ d6,d7,by rw[dF,aY]; show _+1<=_; omega,fun q3 H8 d8 e8 n8=>?_⟩
 have d8':H8 q3=some (.lst ((List.replicate sz.length 0++[pr sz]).map natV)):=by
  rw[d8,bh,List.map_replicate]
  rfl
 have E8:=((e5.trans e6).trans e7).trans e8
 refine⟨_,_,zT _,rfl,zT_at (E8 _ _ d4),zT_at d8',jR1 _,jR0 (by rw[aK,dF]; show _+1<=_; omega),fun H9 e9=>⟨_,rfl,iteF ?_⟩⟩
 have E9:=(e4.trans E8).trans e9
 have T9:=T3.ext E9
 have hB9:=hB.mono E9.tups
 refine⟨_,rfl,b,_,_,pcs,rfl,hB9,g,by rw[aZ]; exact jP5 g S o.mill,T9,LL.i1,LL.i2,fun h y us l HA dA pA told ll XA TA nA=>?_,fun h HA XA TA=>?_⟩
 ·rw[aZ] at told h
  exact jID G hr g S o (by omega) dA pA told q
 ·rw[aZ] at h
  refine⟨_,rfl,_,_,rfl,rfl,_,rfl,?_⟩
  rw[aO (show ((pr sz:Nat):Int)>1000 by omega)]
  refine iteT ⟨_,rfl,rfl,?_⟩
  rw[aO rfl]
  exact q HA
theorem jMY {D:Ends}{H:Hp}{p S0:Addr}{N:Int}{sz:List Nat}{v0 v2 v4 v5 v6 v7 v8 v9 vA vB:Option V}(hp:H p=some (.lst [.int N]))(hN:0<=N)(o:OkSz sz)(hS:H S0=some (.lst (sz.map natV)))(sp:S0≠p)(tab:TbS (LL tb1 tb2) H)(q:∀ H',D.rt (.bl true) H'):
  (midA G hr).1 D [v0,some (.ref p),v2,some (.ref S0),v4,v5,v6,v7,v8,v9,vA,vB] H:=by
 have ol:=o.len
 have os:=o.sum
 have pt:=jPK (sz:=sz) fun a ha=>(o.each a ha).1
 have om:=o.mill
 refine⟨by show (0:Nat)<=_; decide,fun L H1 d1 e1 n1=>?_⟩
 have Lp:L≠p:=fun z=>by rw[z,hp] at n1; cases n1
 have LS:L≠S0:=fun z=>by rw[z,hS] at n1; cases n1
 have T1:=tab.ext e1
 refine⟨_,rfl,false,S0,rfl,⟨_,SqL.of (e1 _ _ hS)⟩,jEI (tp:=false) (xs:=sz.map natV) (fun i σ H'=>(∃ v6 v7 v8,σ=[v0,some (.ref p),v2,some (.ref S0),some (natV (pr (sz.take i))),some (.ref L),v6,v7,v8,v9,vA,vB])/\(∀ c o,H1 c=some o->c≠p->c≠L->H' c=some o)/\(∃ N',H' p=some (.lst [.int N'])/\0<=N')/\∃ vs pcs,H' L=some (.lst vs)/\PcsAt H' vs pcs/\Sg (sz.take i) pcs) ⟨⟨_,_,_,rfl⟩,fun _ _ h _ _=>h,⟨N,e1 _ _ hp,hN⟩,[],[],d1,trivial,Sg.nil⟩ (fun i σ H' ⟨_,k,_⟩=>SqL.of (k _ _ (e1 _ _ hS) sp (cF LS))) ?_ ?_⟩
 ·rintro i x Tp σ H2 hx hT ⟨⟨v6,v7,v8,rfl⟩,k2,⟨N2,p2,n2⟩,vs,pcs,L2',hv,S2⟩
  have il:i<sz.length:=by have:=(ar.mp hx).1; rwa [ah] at this
  have ex:x=natV sz[i]:=by
   rw[aP,aB il] at hx
   exact(br hx).symm
  subst ex
  have e3:Ext H2 (L2.upd H2 Tp (.tup [.int (i:Int),natV sz[i]])):=(Ext.refl _).new hT _
  have d3:(L2.upd H2 Tp (.tup [.int (i:Int),natV sz[i]])) Tp=some (.tup [.int (i:Int),natV sz[i]]):=j9
  generalize L2.upd H2 Tp (.tup [.int (i:Int),natV sz[i]])=H3 at e3 d3
  refine⟨Tp,_,rfl,SqT.of d3,rfl,_,_,rfl,_,_,rfl,rfl,?_⟩
  have tk:sz.take (i+1)=sz.take i++[sz[i]]:=by rw[bM,aB il]; rfl
  have sm:(sz.take i).sum+sz[i]<=32:=by
   have:(sz.take (i+1)).sum+(sz.drop (i+1)).sum=sz.sum:=by rw[<- cX,bf]
   rw[tk,cX] at this
   have e:([sz[i]]:List Nat).sum=sz[i]:=by simp
   omega
  refine jMI G hr (e3 _ _ p2) n2 (e3 _ _ L2') (hv.mono e3.tups) Lp S2 sm (by rw[bP]; omega) (o.each _ (db il)).2 (by have:=pt i; omega) fun H4 N4 vs4 pcs4 v8 k4 p4 n4 L4 hv4 S4=>?_
  rw[<- tk] at S4 ⊢
  exact⟨⟨_,_,_,rfl⟩,fun c o h m1 m2=>k4 _ _ (e3 _ _ (k2 _ _ h m1 m2)) m1 m2,⟨N4,p4,n4⟩,vs4,pcs4,L4,hv4,S4⟩
 ·rintro σ H2 ⟨⟨v6,v7,v8,rfl⟩,k2,⟨N2,p2,n2⟩,vs,pcs,L2',hv,S2⟩
  rw[ah,bZ] at S2 ⊢
  have tab2:TbS (LL tb1 tb2) H2:=TbS.keepL T1 fun c o h n=>k2 _ _ h (fun z=>by rw[z,e1 _ _ hp] at h; cases h; exact n _ rfl) fun z=>by rw[z,d1] at h; cases h; exact n _ rfl
  exact jIE G hr o (k2 _ _ (e1 _ _ hS) sp (cF LS)) L2' hv S2 tab2 q
end
def spLaw (K:W.Frag)(tb1 tb2:Addr):Sp:=fun vs H Q _=>∃ (a:Addr) (ns:List Int),vs=[.ref a]/\SqL K H a (ns.map V.int)/\ns.length<=63/\TabW H tb1/\TabOk H tb2 pWB qWB/\tb1≠tb2/\∀ H',Q (.bl true) H'
theorem jSG {fd:FuncData}(F:Fun K "law" "law" sLaw f fd)(G:LW P w K mg base fC fP fT fZ fS fD tb1 tb2 fdC fdP fdT fdZ fdS fdD):FnOk P w K mg base CX0 9 f fd ["script"] (spLaw K tb1 tb2):=by
 refine F.ok scLaw (fun vs H Q E h=>?_) (fun cdv A outer s H vs Q E hr h=>?_)
 ·obtain⟨_,_,rfl,_⟩:=h
  rfl
 ·obtain⟨a,ns,rfl,hS,hlen,tw,tq,n12,q⟩:=h
  have tab:TbS (LL tb1 tb2) H:=⟨by
   unfold ads LL
   simp only [ba,gQ,bK,az,aW,cz]
   exact⟨n12,fun h=>h,gm⟩,fun t ht=>by
   simp only [az,aW,cz] at ht
   rcases ht with rfl | rfl
   ·exact tw
   ·exact tq⟩
  refine⟨_,(lawA G hr).2.h,?_⟩
  refine⟨_,rfl,a,ns,0,rfl,hS,by decide,fun c=>⟨c,rfl,fun p N hp hN=>?_⟩⟩
  have e0:Ext H (L2.upd H p (.lst [.int N])):=(Ext.refl _).new hp _
  have p0:(L2.upd H p (.lst [.int N])) p=some (.lst [.int N]):=j9
  generalize L2.upd H p (.lst [.int N])=H0 at e0 p0
  have T0:=tab.ext e0
  refine⟨by show (3:Nat)<=_; decide,fun l1 H1 d1 e1 n1=>?_⟩
  refine⟨by show (4:Nat)<=_; decide,fun l2 H2 d2 e2 n2=>?_⟩
  refine⟨by show (5:Nat)<=_; decide,fun l3 H3 d3 e3 n3=>?_⟩
  refine⟨by show (6:Nat)<=_; decide,fun l4 H4 d4 e4 n4=>?_⟩
  refine⟨by show (3:Nat)<=_; decide,fun l5 H5 d5 e5 n5=>?_⟩
  refine⟨by show (3:Nat)<=_; decide,fun l6 H6 d6 e6 n6=>?_⟩
  refine⟨by show (3:Nat)<=_; decide,fun l7 H7 d7 e7 n7=>?_⟩
  refine⟨by show (7:Nat)<=_; decide,fun l8 H8 d8 e8 n8=>?_⟩
  have f7:=e8
  have f6:=e7.trans f7
  have f5:=e6.trans f6
  have f4:=e5.trans f5
  have f3:=e4.trans f4
  have f2:=e3.trans f3
  have f1:=e2.trans f2
  have F8:=e1.trans f1
  have p8:=F8 _ _ p0
  have np:∀ {H':Hp}{l:Addr},Ext H0 H'->H' l=none->l≠p:=fun e n z=>by rw[z,e _ _ p0] at n; cases n
  have g1:∀ v∈[V.ref l1, .ref l2, .ref l3, .ref l4, .ref l5, .ref l6, .ref l7],SzG H8 p v:=fun v hv=>by
   simp only [az,aW,cz] at hv
   rcases hv with rfl | rfl | rfl | rfl | rfl | rfl | rfl
   ·exact⟨l1,[10,10,10],rfl,f1 _ _ d1,⟨by decide,by decide,by decide,by decide⟩,np (Ext.refl _) n1⟩
   ·exact⟨l2,[5,5,5,8],rfl,f2 _ _ d2,⟨by decide,by decide,by decide,by decide⟩,np e1 n2⟩
   ·exact⟨l3,[2,4,5,5,5],rfl,f3 _ _ d3,⟨by decide,by decide,by decide,by decide⟩,np (e1.trans e2) n3⟩
   ·exact⟨l4,[2,2,2,5,5,5],rfl,f4 _ _ d4,⟨by decide,by decide,by decide,by decide⟩,np ((e1.trans e2).trans e3) n4⟩
   ·exact⟨l5,[9,10,11],rfl,f5 _ _ d5,⟨by decide,by decide,by decide,by decide⟩,np (((e1.trans e2).trans e3).trans e4) n5⟩
   ·exact⟨l6,[7,11,13],rfl,f6 _ _ d6,⟨by decide,by decide,by decide,by decide⟩,np ((((e1.trans e2).trans e3).trans e4).trans e5) n6⟩
   ·exact⟨l7,[7,12,12],rfl,f7 _ _ d7,⟨by decide,by decide,by decide,by decide⟩,np (((((e1.trans e2).trans e3).trans e4).trans e5).trans e6) n7⟩
  have s8p:l8≠p:=np ((((((e1.trans e2).trans e3).trans e4).trans e5).trans e6).trans e7) n8
  have T8:=T0.ext F8
  clear e1 e2 e3 e4 e5 e6 e7 d1 d2 d3 d4 d5 d6 d7 n1 n2 n3 n4 n5 n6 n7 f1 f2 f3 f4 f5 f6 f7
  refine⟨_,rfl,by show (1:Nat)<=_; decide,fun m1 G1 c1 x1 y1=>?_⟩
  refine⟨m1,10,_,rfl,rfl,c1,by decide,by decide,by rw[aY]; decide,fun m2 y2=>?_⟩
  have x2:Ext G1 (L2.upd G1 m2 (.lst (List.replicate (Int.toNat 10) [V.int 2]).flatten)):=(Ext.refl _).new y2 _
  have c2:(L2.upd G1 m2 (.lst (List.replicate (Int.toNat 10) [V.int 2]).flatten)) m2=some (.lst (([2,2,2,2,2,2,2,2,2,2]:List Nat).map natV)):=j9
  generalize L2.upd G1 m2 (.lst (List.replicate (Int.toNat 10) [V.int 2]).flatten)=G2 at x2 c2
  refine⟨by show (1:Nat)<=_; decide,fun m3 G3 c3 x3 y3=>?_⟩
  refine⟨m3,5,_,rfl,rfl,c3,by decide,by decide,by rw[aY]; decide,fun m4 y4=>?_⟩
  have x4:Ext G3 (L2.upd G3 m4 (.lst (List.replicate (Int.toNat 5) [V.int 4]).flatten)):=(Ext.refl _).new y4 _
  have c4:(L2.upd G3 m4 (.lst (List.replicate (Int.toNat 5) [V.int 4]).flatten)) m4=some (.lst (([4,4,4,4,4]:List Nat).map natV)):=j9
  generalize L2.upd G3 m4 (.lst (List.replicate (Int.toNat 5) [V.int 4]).flatten)=G4 at x4 c4
  have X4:=((x1.trans x2).trans x3).trans x4
  have q4:=X4 _ _ p8
  have m2p:m2≠p:=fun z=>by rw[z,x1 _ _ p8] at y2; cases y2
  have m4p:m4≠p:=fun z=>by rw[z,((x1.trans x2).trans x3) _ _ p8] at y4; cases y4
  have b2:G4 m2=some (.lst (([2,2,2,2,2,2,2,2,2,2]:List Nat).map natV)):=(x3.trans x4) _ _ c2
  have d8:=X4 _ _ d8
  have g1:=fun v hv=>(g1 v hv).keep fun c o h _=>X4 c o h
  have T4:=T8.ext X4
  clear X4 x1 x2 x3 x4 c1 c2 c3 y1 y2 y3 y4
  refine⟨_,rfl,p,N,9,rfl,q4,hN,by decide,by decide,fun N5 r5 a1 a2 a3=>?_⟩
  have k5:∀ c o,G4 c=some o->c≠p->(L2.upd G4 p (.lst [.int N5])) c=some o:=fun c o h n=>by rw[j8 n]; exact h
  have q5:(L2.upd G4 p (.lst [.int N5])) p=some (.lst [.int N5]):=j9
  have T5:TbS (LL tb1 tb2) (L2.upd G4 p (.lst [.int N5])):=T4.lst q4
  generalize L2.upd G4 p (.lst [.int N5])=G5 at k5 q5 T5
  obtain⟨m,hm,m8⟩:∃ m:Nat,r5=(m:Int)/\m<=8:=⟨r5.toNat,by omega,by omega⟩
  subst hm
  refine⟨(m:Int),rfl,by omega,by omega,jI6 (n:=m) (by rw[aY]; omega) (fun D j σ' H' zs=>(∃ v,σ'=[v,some (.ref p)])/\Keep G5 H' p/\(∃ N',H' p=some (.lst [.int N'])/\0<=N')/\H' D=some (.lst zs)/\∃ sw:List Nat,zs=sw.map natV/\sw.length=j/\∀ x∈sw,1<=x/\x<=4) (fun D hD=>⟨⟨_,rfl⟩,fun c o h n=>by rw[j8 (fun z=>by rw[z,hD] at h; cases h)]; exact h,⟨N5,by rw[j8 (fun z=>by rw[<- z,q5] at hD; cases hD)]; exact q5,a1⟩,j9,[],rfl,rfl,fun _ h=>by cases h⟩) (fun D j σ' H' zs hD hj ⟨_,_,_,h,sw,hs,hl,_⟩=>⟨h,by rw[hs,ah,hl]; exact aE _⟩) ?_ ?_⟩
  ·rintro D5 j σ' H2 zs hD hj ⟨⟨v,rfl⟩,k2,⟨N2,p2,n2⟩,d2,sw,rfl,sl,sb⟩
   have Dp:D5≠p:=fun z=>by rw[z,q5] at hD; cases hD
   dsimp only [kL,yH]
   rw[aq rfl]
   refine⟨_,rfl,p,N2,4,rfl,p2,n2,by decide,by decide,fun N3 r3 b1 b2 b3=>⟨_,_,rfl,rfl,?_⟩⟩
   obtain⟨z3,hz3,z4⟩:∃ z:Nat,(1:Int)+r3=(z:Int)/\1<=z/\z<=4:=⟨(1+r3).toNat,by omega,by omega,by omega⟩
   refine⟨by rw[j8 Dp]; exact d2,⟨_,rfl⟩,fun c o h n=>?_,⟨N3,by rw[j8 (cF Dp)]; exact j9,b1⟩,j9,sw++[z3],?_,by rw[aK,sl]; rfl,fun x hx=>?_⟩
   ·rw[j8 (fun z=>by rw[z,hD] at h; cases h),j8 n]
    exact k2 _ _ h n
   ·rw[bh]
    show _++[V.int (1+r3)]=_
    rw[hz3]
    rfl
   ·rcases aU.mp hx with z | z
    ·exact sb x z
    ·rw[aC.mp z]
     exact z4
  ·rintro D5 σ' H2 zs hD ⟨_,k2,⟨N2,p2,n2⟩,d2,sw,rfl,sl,sb⟩
   have K2:Keep G4 H2 p:=fun c o h n=>k2 _ _ (k5 _ _ h n) n
   have Dp:D5≠p:=fun z=>by rw[z,q5] at hD; cases hD
   have T2:TbS (LL tb1 tb2) H2:=TbS.keepL T5 fun c o h n=>k2 _ _ h fun z=>by rw[z,q5] at h; cases h; exact n _ rfl
   have okw:=jSI (sz:=sw) (by omega) sb
   refine⟨by show (3:Nat)<=_; decide,fun l9 H9 d9 e9 n9=>?_⟩
   have g2:∀ v∈[V.ref l1, .ref l2, .ref l3, .ref l4, .ref l5, .ref l6, .ref l7]++[V.ref m2, .ref m4, .ref D5],SzG H9 p v:=fun v hv=>by
    rcases aU.mp hv with h | h
    ·exact(g1 v h).keep fun c o h n=>e9 _ _ (K2 c o h n)
    ·simp only [az,aW,cz] at h
     rcases h with rfl | rfl | rfl
     ·exact⟨m2,_,rfl,e9 _ _ (K2 _ _ b2 m2p),⟨by decide,by decide,by decide,by decide⟩,m2p⟩
     ·exact⟨m4,_,rfl,e9 _ _ (K2 _ _ c4 m4p),⟨by decide,by decide,by decide,by decide⟩,m4p⟩
     ·exact⟨D5,sw,rfl,e9 _ _ d2,okw,Dp⟩
   refine⟨l8,l9,_,_,rfl,rfl,e9 _ _ (K2 _ _ d8 s8p),d9,by rw[aY]; show 7+3<=16777216; decide,fun lA HA dA eA nA=>?_⟩
   have pA:=(e9.trans eA) _ _ p2
   have lp:lA≠p:=fun z=>by rw[z,e9 _ _ p2] at nA; cases nA
   refine⟨_,rfl,_,rfl,p,N2,10,rfl,pA,n2,by decide,by decide,fun NB rB h1 h2 h3=>?_⟩
   have kB:∀ c o,HA c=some o->c≠p->(L2.upd HA p (.lst [.int NB])) c=some o:=fun c o h n=>by rw[j8 n]; exact h
   have dB:(L2.upd HA p (.lst [.int NB])) p=some (.lst [.int NB]):=j9
   have TB:TbS (LL tb1 tb2) (L2.upd HA p (.lst [.int NB])):=((T2.ext e9).ext eA).lst pA
   generalize L2.upd HA p (.lst [.int NB])=HB at kB dB TB
   obtain⟨j,rfl⟩:∃ j:Nat,rB=(j:Int):=⟨rB.toNat,by omega⟩
   obtain⟨v,hv⟩:∃ v,([V.ref l1, .ref l2, .ref l3, .ref l4, .ref l5, .ref l6, .ref l7]++[V.ref m2, .ref m4, .ref D5])[j]?=some v:=⟨_,aB (show j<10 by omega)⟩
   obtain⟨S0,sz,rfl,hS0,osz,sp⟩:=(g2 v (aN hv)).keep (H':=HB) fun c o h n=>kB _ _ (eA _ _ h) n
   refine⟨lA,_,(j:Int),_,rfl,rfl,SqL.of (kB _ _ dA lp),jC6 hv,?_⟩
   exact jMY G hr dB h1 osz hS0 sp TB q
end
theorem yK {P:List Value->Prop} :∀ {us:List Value},us.length=1->(∀ a,P [a])->P us
 | [a],_,h=>h a
theorem lenU2 {P:List Value->Prop} :∀ {us:List Value},us.length=2->(∀ a b,P [a,b])->P us
 | [a,b],_,h=>h a b
theorem lenU3 {P:List Value->Prop} :∀ {us:List Value},us.length=3->(∀ a b c,P [a,b,c])->P us
 | [a,b,c],_,h=>h a b c
set_option maxHeartbeats 8000000 in
theorem all_mk {l:PySem.W.OpenLaw}{w:World}{K:W.Frag}{h:Heap}{mg:Str->Option Value}{fa f1 f2 f3 f4 f5 f6 f7 f8 f9 f10 f11 f12 f13 f14 f15 f16 f17 f18:Addr}(X:K.In h)(G:h.Ns mainGlobals mg)(hfa:mg "law" =some (.ref fa))
  {od1 an1 od2 an2 od3 an3 od4 an4 od5 an5 od6 an6 od7 an7 od8 an8 od9 an9 od10 an10 od11 an11 od12 an12 od13 an13 od14 an14 od15 an15 od16 an16 od17 an17 od18 an18:Option Addr}{sl1 sl2 sl3 sl4 sl5 sl6 sl7 sl8 sl9 sl10 sl11 sl12 sl13 sl14 sl15 sl16 sl17 sl18:Array (Option Value)}{oc1 kV1 dc1 pm1 cd1 ct1 oc2 kV2 dc2 pm2 cd2 ct2 oc3 kV3 dc3 pm3 cd3 ct3 oc4 kV4 dc4 pm4 cd4 ct4 oc5 kV5 dc5 pm5 cd5 ct5 oc6 kV6 dc6 pm6 cd6 ct6 oc7 kV7 dc7 pm7 cd7 ct7 oc8 kV8 dc8 pm8 cd8 ct8 oc9 kV9 dc9 pm9 cd9 ct9 oc10 kV10 dc10 pm10 cd10 ct10 oc11 kV11 dc11 pm11 cd11 ct11 oc12 kV12 dc12 pm12 cd12 ct12 oc13 kV13 dc13 pm13 cd13 ct13 oc14 kV14 dc14 pm14 cd14 ct14 oc15 kV15 dc15 pm15 cd15 ct15 oc16 kV16 dc16 pm16 cd16 ct16 oc17 kV17 dc17 pm17 cd17 ct17 oc18 kV18 dc18 pm18 cd18 ct18:Value}{u1:Tok}
  (a1:PySem.W.nsIn K mainGlobals "mask_of" =some (some (.ref f1))) (l1:K.lookup f1=some ⟨oc1,od1, .func (PySem.W.fnOf "mask_of" "mask_of" (jI sMask) (jB sMask) (j7 sMask) .none kV1 dc1 pm1 an1 cd1 ct1),sl1⟩) (c1:PySem.W.codeIn K cd1 "mask_of" =true) (k1:keepIn K (.ref f1)=true)
  (a2:PySem.W.nsIn K mainGlobals "choices_of" =some (some (.ref f2))) (l2:K.lookup f2=some ⟨oc2,od2, .func (PySem.W.fnOf "choices_of" "choices_of" (jI jV) (jB jV) (j7 jV) .none kV2 dc2 pm2 an2 cd2 ct2),sl2⟩) (c2:PySem.W.codeIn K cd2 "choices_of" =true) (k2:keepIn K (.ref f2)=true)
  (a3:PySem.W.nsIn K mainGlobals "full_mask" =some (some (.ref f3))) (l3:K.lookup f3=some ⟨oc3,od3, .func (PySem.W.fnOf "full_mask" "full_mask" (jI sFull) (jB sFull) (j7 sFull) .none kV3 dc3 pm3 an3 cd3 ct3),sl3⟩) (c3:PySem.W.codeIn K cd3 "full_mask" =true) (k3:keepIn K (.ref f3)=true)
  (a4:PySem.W.nsIn K mainGlobals "choices_at" =some (some (.ref f4))) (l4:K.lookup f4=some ⟨oc4,od4, .func (PySem.W.fnOf "choices_at" "choices_at" (jI sAt) (jB sAt) (j7 sAt) .none kV4 dc4 pm4 an4 cd4 ct4),sl4⟩) (c4:PySem.W.codeIn K cd4 "choices_at" =true) (k4:keepIn K (.ref f4)=true)
  (a5:PySem.W.nsIn K mainGlobals "masks_met" =some (some (.ref f5))) (l5:K.lookup f5=some ⟨oc5,od5, .func (PySem.W.fnOf "masks_met" "masks_met" (jI sMet) (jB sMet) (j7 sMet) .none kV5 dc5 pm5 an5 cd5 ct5),sl5⟩) (c5:PySem.W.codeIn K cd5 "masks_met" =true) (k5:keepIn K (.ref f5)=true)
  (a6:PySem.W.nsIn K mainGlobals "gathered" =some (some (.ref f6))) (l6:K.lookup f6=some ⟨oc6,od6, .func (PySem.W.fnOf "gathered" "gathered" (jI yD) (jB yD) (j7 yD) .none kV6 dc6 pm6 an6 cd6 ct6),sl6⟩) (c6:PySem.W.codeIn K cd6 "gathered" =true) (k6:keepIn K (.ref f6)=true)
  (a7:PySem.W.nsIn K mainGlobals "ways_of" =some (some (.ref f7))) (l7:K.lookup f7=some ⟨oc7,od7, .func (PySem.W.fnOf "ways_of" "ways_of" (jI y8) (jB y8) (j7 y8) .none kV7 dc7 pm7 an7 cd7 ct7),sl7⟩) (c7:PySem.W.codeIn K cd7 "ways_of" =true) (k7:keepIn K (.ref f7)=true)
  (a8:PySem.W.nsIn K mainGlobals "many" =some (some (.ref f8))) (l8:K.lookup f8=some ⟨oc8,od8, .func (PySem.W.fnOf "many" "many" (jI sMany) (jB sMany) (j7 sMany) .none kV8 dc8 pm8 an8 cd8 ct8),sl8⟩) (c8:PySem.W.codeIn K cd8 "many" =true) (k8:keepIn K (.ref f8)=true)
  (a9:PySem.W.nsIn K mainGlobals "sizes_together" =some (some (.ref f9))) (l9:K.lookup f9=some ⟨oc9,od9, .func (PySem.W.fnOf "sizes_together" "sizes_together" (jI sSzT) (jB sSzT) (j7 sSzT) .none kV9 dc9 pm9 an9 cd9 ct9),sl9⟩) (c9:PySem.W.codeIn K cd9 "sizes_together" =true) (k9:keepIn K (.ref f9)=true)
  (a10:PySem.W.nsIn K mainGlobals "sizes" =some (some (.ref f10))) (l10:K.lookup f10=some ⟨oc10,od10, .func (PySem.W.fnOf "sizes" "sizes" (jI jB5) (jB jB5) (j7 jB5) .none kV10 dc10 pm10 an10 cd10 ct10),sl10⟩) (c10:PySem.W.codeIn K cd10 "sizes" =true) (k10:keepIn K (.ref f10)=true)
  (a11:PySem.W.nsIn K mainGlobals "weights" =some (some (.ref f11))) (l11:K.lookup f11=some ⟨oc11,od11, .func (PySem.W.fnOf "weights" "weights" (jI sWts) (jB sWts) (j7 sWts) .none kV11 dc11 pm11 an11 cd11 ct11),sl11⟩) (c11:PySem.W.codeIn K cd11 "weights" =true) (k11:keepIn K (.ref f11)=true)
  (a12:PySem.W.nsIn K mainGlobals "_law_cell_at" =some (some (.ref f12))) (l12:K.lookup f12=some ⟨oc12,od12, .func (PySem.W.fnOf "_law_cell_at" "_law_cell_at" (jI sCell) (jB sCell) (j7 sCell) .none kV12 dc12 pm12 an12 cd12 ct12),sl12⟩) (c12:PySem.W.codeIn K cd12 "_law_cell_at" =true) (k12:keepIn K (.ref f12)=true)
  (a13:PySem.W.nsIn K mainGlobals "_law_pot" =some (some (.ref f13))) (l13:K.lookup f13=some ⟨oc13,od13, .func (PySem.W.fnOf "_law_pot" "_law_pot" (jI sPot) (jB sPot) (j7 sPot) .none kV13 dc13 pm13 an13 cd13 ct13),sl13⟩) (c13:PySem.W.codeIn K cd13 "_law_pot" =true) (k13:keepIn K (.ref f13)=true)
  (a14:PySem.W.nsIn K mainGlobals "_law_take" =some (some (.ref f14))) (l14:K.lookup f14=some ⟨oc14,od14, .func (PySem.W.fnOf "_law_take" "_law_take" (jI sTake) (jB sTake) (j7 sTake) .none kV14 dc14 pm14 an14 cd14 ct14),sl14⟩) (c14:PySem.W.codeIn K cd14 "_law_take" =true) (k14:keepIn K (.ref f14)=true)
  (a15:PySem.W.nsIn K mainGlobals "_law_whole" =some (some (.ref f15))) (l15:K.lookup f15=some ⟨oc15,od15, .func (PySem.W.fnOf "_law_whole" "_law_whole" (jI jBH) (jB jBH) (j7 jBH) .none kV15 dc15 pm15 an15 cd15 ct15),sl15⟩) (c15:PySem.W.codeIn K cd15 "_law_whole" =true) (k15:keepIn K (.ref f15)=true)
  (a16:PySem.W.nsIn K mainGlobals "_law_same" =some (some (.ref f16))) (l16:K.lookup f16=some ⟨oc16,od16, .func (PySem.W.fnOf "_law_same" "_law_same" (jI yJ) (jB yJ) (j7 yJ) .none kV16 dc16 pm16 an16 cd16 ct16),sl16⟩) (c16:PySem.W.codeIn K cd16 "_law_same" =true) (k16:keepIn K (.ref f16)=true)
  (a17:PySem.W.nsIn K mainGlobals "_law_told" =some (some (.ref f17))) (l17:K.lookup f17=some ⟨oc17,od17, .func (PySem.W.fnOf "_law_told" "_law_told" (jI yL) (jB yL) (j7 yL) .none kV17 dc17 pm17 an17 cd17 ct17),sl17⟩) (c17:PySem.W.codeIn K cd17 "_law_told" =true) (k17:keepIn K (.ref f17)=true)
  (a18:PySem.W.nsIn K mainGlobals "law" =some (some (.ref f18))) (l18:K.lookup f18=some ⟨oc18,od18, .func (PySem.W.fnOf "law" "law" (jI sLaw) (jB sLaw) (j7 sLaw) .none kV18 dc18 pm18 an18 cd18 ct18),sl18⟩) (c18:PySem.W.codeIn K cd18 "law" =true) (k18:keepIn K (.ref f18)=true)
  (g1:PySem.W.nsIn K mainGlobals "MOST_WEIGHED" =some (some (.int 1000 u1))) (z1:PySem.W.nsIn K mainGlobals "len" =some none) (z2:PySem.W.nsIn K mainGlobals "range" =some none) (z3:PySem.W.nsIn K mainGlobals "tuple" =some none) (z4:PySem.W.nsIn K mainGlobals "sorted" =some none) (z5:PySem.W.nsIn K mainGlobals "set" =some none) (z6:PySem.W.nsIn K mainGlobals "list" =some none) (z7:PySem.W.nsIn K mainGlobals "int" =some none) (z8:PySem.W.nsIn K mainGlobals "isinstance" =some none) (z9:PySem.W.nsIn K mainGlobals "bool" =some none) (z10:PySem.W.nsIn K mainGlobals "str" =some none) (z11:PySem.W.nsIn K mainGlobals "all" =some none) (z12:PySem.W.nsIn K mainGlobals "zip" =some none) (z13:PySem.W.nsIn K mainGlobals "max" =some none) (z14:PySem.W.nsIn K mainGlobals "min" =some none) (z15:PySem.W.nsIn K mainGlobals "any" =some none) (z16:PySem.W.nsIn K mainGlobals "abs" =some none) (z17:PySem.W.nsIn K mainGlobals "sum" =some none) (z18:PySem.W.nsIn K mainGlobals "enumerate" =some none) (z19:PySem.W.nsIn K mainGlobals "dict" =some none) (z20:PySem.W.nsIn K mainGlobals "ValueError" =some none)
  {cT cO:Addr}{cl:Nat->Addr}(x0:PySem.W.nsIn K mainGlobals "OnceError" =some (some (.ref cO))) (x1:PySem.W.nsIn K mainGlobals "TooMany" =some (some (.ref cT))) (x2:ExcK K cT) (x3:Above K cT cO) (x4:ExcIs K cT) (x5:∀ i x,jCI[i]?=some x->PySem.W.nsIn K mainGlobals x=some (some (.ref (cl i)))) (x6:∀ i,i<10->kitOne K (.ref cT) (.ref (cl i))=some (decide (i=9))) (x7:kitOne K (.ref cT) (.type "ValueError")=some true) {tb1 cc1:Addr}(cde1:cd7= .ref cc1) (hcd1:codeHdIn K cc1 tb1=true) {tb2 cc2:Addr}(cde2:cd11= .ref cc2) (hcd2:codeHdIn K cc2 tb2=true) {bmA:Addr}(xb1:PySem.W.nsIn K mainGlobals "__builtins__" =some (some (.ref bmA))) (xb2:K.lookup bmA=some ⟨.type "module",some builtinsNs, .plain,#[]⟩) (xb3:bmA≠builtinsNs) (xb4:bmA≠mainGlobals):
  ∃ fd:FuncData,(∀ (s:Shared) (v:Value),BindsTo s fd ⟨[v],[]⟩ [("script",v)])/\∀ base:Heap,K.In base->base.Ns mainGlobals mg->FnOk l.prog w K mg base CX0 9 fa fd ["script"] (spLaw K tb1 tb2):=by
 have e:=hfa.symm.trans (gB X G a18)
 cases e
 have T:Txt mg:=⟨bg X G z1,bg X G z2,bg X G z3,bg X G z4,bg X G z5,bg X G z6,bg X G z7,bg X G z8,bg X G z9,bg X G z10,bg X G z11,bg X G z12,bg X G z13,bg X G z14,bg X G z15,bg X G z16,bg X G z17,bg X G z18,bg X G z19,bg X G z20⟩
 have F1:=kI (st:=sMask) l1 c1 k1
 have b1:=F1.binds (ps:=["lot"]) fun _ _ _ _ _ _ us hl=>yK (P:=fun us=>bindArgs _ ⟨us,[]⟩=pure (List.zip _ us)) hl fun _=>rfl
 have F2:=kI (st:=jV) l2 c2 k2
 have b2:=F2.binds (ps:=["box"]) fun _ _ _ _ _ _ us hl=>yK (P:=fun us=>bindArgs _ ⟨us,[]⟩=pure (List.zip _ us)) hl fun _=>rfl
 have F3:=kI (st:=sFull) l3 c3 k3
 have b3:=F3.binds (ps:=["choices"]) fun _ _ _ _ _ _ us hl=>yK (P:=fun us=>bindArgs _ ⟨us,[]⟩=pure (List.zip _ us)) hl fun _=>rfl
 have F4:=kI (st:=sAt) l4 c4 k4
 have b4:=F4.binds (ps:=["choices","mask"]) fun _ _ _ _ _ _ us hl=>lenU2 (P:=fun us=>bindArgs _ ⟨us,[]⟩=pure (List.zip _ us)) hl fun _ _=>rfl
 have F5:=kI (st:=sMet) l5 c5 k5
 have b5:=F5.binds (ps:=["choices"]) fun _ _ _ _ _ _ us hl=>yK (P:=fun us=>bindArgs _ ⟨us,[]⟩=pure (List.zip _ us)) hl fun _=>rfl
 have F6:=kI (st:=yD) l6 c6 k6
 have b6:=F6.binds (ps:=["choices","at_end","join"]) fun _ _ _ _ _ _ us hl=>lenU3 (P:=fun us=>bindArgs _ ⟨us,[]⟩=pure (List.zip _ us)) hl fun _ _ _=>rfl
 have F7:=kI (st:=y8) l7 c7 k7
 have b7:=F7.binds (ps:=["choices"]) fun _ _ _ _ _ _ us hl=>yK (P:=fun us=>bindArgs _ ⟨us,[]⟩=pure (List.zip _ us)) hl fun _=>rfl
 have F8:=kI (st:=sMany) l8 c8 k8
 have b8:=F8.binds (ps:=["box"]) fun _ _ _ _ _ _ us hl=>yK (P:=fun us=>bindArgs _ ⟨us,[]⟩=pure (List.zip _ us)) hl fun _=>rfl
 have F9:=kI (st:=sSzT) l9 c9 k9
 have b9:=F9.binds (ps:=["behind"]) fun _ _ _ _ _ _ us hl=>yK (P:=fun us=>bindArgs _ ⟨us,[]⟩=pure (List.zip _ us)) hl fun _=>rfl
 have F10:=kI (st:=jB5) l10 c10 k10
 have b10:=F10.binds (ps:=["box"]) fun _ _ _ _ _ _ us hl=>yK (P:=fun us=>bindArgs _ ⟨us,[]⟩=pure (List.zip _ us)) hl fun _=>rfl
 have F11:=kI (st:=sWts) l11 c11 k11
 have b11:=F11.binds (ps:=["box"]) fun _ _ _ _ _ _ us hl=>yK (P:=fun us=>bindArgs _ ⟨us,[]⟩=pure (List.zip _ us)) hl fun _=>rfl
 have F12:=kI (st:=sCell) l12 c12 k12
 have b12:=F12.binds (ps:=["script","k"]) fun _ _ _ _ _ _ us hl=>lenU2 (P:=fun us=>bindArgs _ ⟨us,[]⟩=pure (List.zip _ us)) hl fun _ _=>rfl
 have F13:=kI (st:=sPot) l13 c13 k13
 have b13:=F13.binds (ps:=["cell"]) fun _ _ _ _ _ _ us hl=>yK (P:=fun us=>bindArgs _ ⟨us,[]⟩=pure (List.zip _ us)) hl fun _=>rfl
 have F14:=kI (st:=sTake) l14 c14 k14
 have b14:=F14.binds (ps:=["pot","wide"]) fun _ _ _ _ _ _ us hl=>lenU2 (P:=fun us=>bindArgs _ ⟨us,[]⟩=pure (List.zip _ us)) hl fun _ _=>rfl
 have F15:=kI (st:=jBH) l15 c15 k15
 have b15:=F15.binds (ps:=["found"]) fun _ _ _ _ _ _ us hl=>yK (P:=fun us=>bindArgs _ ⟨us,[]⟩=pure (List.zip _ us)) hl fun _=>rfl
 have F16:=kI (st:=yJ) l16 c16 k16
 have b16:=F16.binds (ps:=["found","due"]) fun _ _ _ _ _ _ us hl=>lenU2 (P:=fun us=>bindArgs _ ⟨us,[]⟩=pure (List.zip _ us)) hl fun _ _=>rfl
 have F17:=kI (st:=yL) l17 c17 k17
 have b17:=F17.binds (ps:=["box"]) fun _ _ _ _ _ _ us hl=>yK (P:=fun us=>bindArgs _ ⟨us,[]⟩=pure (List.zip _ us)) hl fun _=>rfl
 have F18:=kI (st:=sLaw) l18 c18 k18
 refine⟨PySem.W.fnOf "law" "law" (jI sLaw) (jB sLaw) (j7 sLaw) .none kV18 dc18 pm18 an18 cd18 ct18,fun s v=> .of_eq rfl,fun base KB _=>?_⟩
 have M:=fun {x:Str}{f:Addr}(a:PySem.W.nsIn K mainGlobals x=some (some (.ref f)))=>gB X G a
 have M':=fun {x:Str}{v:Value}(a:PySem.W.nsIn K mainGlobals x=some (some v))=>gB X G a
 have CD1:PySem.W.CodeHd base cc1 tb1:=gO KB hcd1
 have FC1:FunC K "ways_of" "ways_of" y8 f7 _ cc1:=⟨_,_,_,_,_,_,_,_,rfl,cde1 ▸ l7,cde1 ▸ c7⟩
 have CD2:PySem.W.CodeHd base cc2 tb2:=gO KB hcd2
 have FC2:FunC K "weights" "weights" sWts f11 _ cc2:=⟨_,_,_,_,_,_,_,_,rfl,cde2 ▸ l11,cde2 ▸ c11⟩
 have BM:BltAt base mg:=⟨bmA,_,gB X G xb1,xb3,xb4,KB _ _ xb2,rfl,rfl,rfl⟩
 have KD:Kinds K mg cT cl (fun i=>decide (i=9)):=⟨x4,fun i x h=>M (x5 i x h),x6,x7⟩
 have C1:Can l.prog w K mg base "mask_of" 1 f1 _ ["lot"] jF4:=⟨jQ3 F1 T,M a1,k1,b1⟩
 have C2:Can l.prog w K mg base "choices_of" 2 f2 _ ["box"] jA7:=⟨jIJ F2 T C1,M a2,k2,b2⟩
 have C3:Can l.prog w K mg base "full_mask" 1 f3 _ ["choices"] jDH:=⟨jQ5 F3 T,M a3,k3,b3⟩
 have C4:Can l.prog w K mg base "choices_at" 1 f4 _ ["choices","mask"] spAt:=⟨ok_at F4 T,M a4,k4,b4⟩
 have C5:Can l.prog w K mg base "masks_met" 2 f5 _ ["choices"] spMet:=⟨jSF F5 T C3 C4,M a5,k5,b5⟩
 have C6:Can l.prog w K mg base "gathered" 4 f6 _ ["choices","at_end","join"] jGB:=⟨FnOk.ex fun x o=>(jGJ F6 T C3 C5 C4 ((jSH o T).mono (by decide)) ZT.st (zhW.ok _ _) (RWay.ok _) o).ok,M a6,k6,b6⟩
 have C7:Can l.prog w K mg base "ways_of" 5 f7 _ ["choices"] (jH6 tb1):=⟨jQ0 FC1 T CD1 BM C6,M a7,k7,b7⟩
 have C8:Can l.prog w K mg base "many" 6 f8 _ ["box"] (jDG tb1):=⟨jQ4 F8 T C2 C7,M a8,k8,b8⟩
 have C9:Can l.prog w K mg base "sizes_together" 4 f9 _ ["behind"] (fun _ _ _ _=>False):=⟨FnOk.never,M a9,k9,b9⟩
 have C10:Can l.prog w K mg base "sizes" 5 f10 _ ["box"] jGA:=⟨jMU F10 T C2 ⟨FnOk.ex fun x o=>(jGJ F6 T C3 C5 C4 ((Callee.imp2 (Callee.of F9 (jSD (H00:=x.1) o F9 T) b9) (fun _ _=>trivial) (fun _ _ _ _ z q=>⟨z,q⟩)).mono (by decide)) ZT.st (FrH.ok _) (RSz.ok _ _) o).ok,M a6,k6,b6⟩ (M a9),M a10,k10,b10⟩
 have C11:CanX cT l.prog w K mg base "weights" 7 f11 _ ["box"] (spWX (LL tb1 tb2) tb1 tb2):=⟨FnOk.or (jSC FC2 T CD2 BM (M' g1) C2 C8 (fun cl i=>jGJ F6 T C3 C5 C4 ((jGI T cl i).mono (by decide)) (ZC.st _ _ _) (zhWt.ok cl i) (RWt.ok _ _) (jCA i.g)) (M a6) k6 b6).toX (jSB (cde2 ▸ F11) T (M' g1) x2 (M x1) C8),M a11,k11,b11⟩
 have C12:Can l.prog w K mg base "_law_cell_at" 1 f12 _ ["script","k"] (jJL K):=⟨jQ6 F12 T,M a12,k12,b12⟩
 have C13:Can l.prog w K mg base "_law_pot" 1 f13 _ ["cell"] spPot:=⟨jSE F13 T,M a13,k13,b13⟩
 have C14:Can l.prog w K mg base "_law_take" 1 f14 _ ["pot","wide"] jJI:=⟨jQ2 F14,M a14,k14,b14⟩
 have C15:Can l.prog w K mg base "_law_whole" 1 f15 _ ["found"] jCR:=⟨jMT F15 T,M a15,k15,b15⟩
 have C16:Can l.prog w K mg base "_law_same" 6 f16 _ ["found","due"] (jCS 4):=⟨jHL F16 T C15 (M a16) k16 b16 4,M a16,k16,b16⟩
 have C17:Can l.prog w K mg base "_law_told" 8 f17 _ ["box"] (jJH (LL tb1 tb2) tb1 tb2):=⟨jQ1 F17 T C11 KD (M x0) x3,M a17,k17,b17⟩
 exact jSG F18 ⟨T,C12,C13,C14,C10,C16,C17⟩
def kcl (i:Nat):Addr:=[128,56,140,116,92,152,44,80,104,68].getD i 0
theorem kcC (P:Params){h:Heap}(X:(kK P).In h):h.get? 68=some (excClassObj "TooMany" "TooMany" 68 67 [.ref 24] [.ref 24, .type "ValueError", .type "Exception", .type "BaseException", .type "object"] true [] [] false none none (some (.ref 59)) (none) (some (.str "TooMany" 248)) (some (.str "TooMany" 256)) (some (.bool true)) "ValueError.__new__"):=X 68 _ (by kernel_rfl)
def kesC (P:Params):Array DictEntry:=#[kE P "__module__" 255 (.str "eachonce.errors" 187),kE P "__firstlineno__" 259 (.int 11 258),kE P "__static_attributes__" 260 (.ref 66),kE P "__doc__" 261 (.none)]
theorem kNC (P:Params){h:Heap}(X:(kK P).In h):h.Ns 67 (nsFind (kesC P)):=⟨⟨.type "dict",none, .dict (kesC P) 2,#[]⟩,_,_,X 67 _ (by kernel_rfl),rfl,fun e he=>by
  unfold kesC at he
  simp only [List.mem_toArray,az,aW,cz] at he
  rcases he with rfl | rfl | rfl | rfl <;> exact⟨_,_,rfl⟩,fun _=>rfl⟩
theorem kcB (P:Params){h:Heap}(X:(kK P).In h):h.get? 24=some (excClassObj "OnceError" "OnceError" 24 23 [.type "ValueError"] [.type "ValueError", .type "Exception", .type "BaseException", .type "object"] true [] [.ref 44, .ref 56, .ref 68, .ref 80, .ref 92, .ref 104, .ref 116, .ref 128, .ref 140, .ref 152] false none none (some (.ref 15)) (none) (some (.str "OnceError" 189)) (some (.str "OnceError" 197)) (some (.bool true)) "ValueError.__new__"):=X 24 _ (by kernel_rfl)
def kesB (P:Params):Array DictEntry:=#[kE P "__module__" 196 (.str "eachonce.errors" 187),kE P "__firstlineno__" 200 (.int 2 199),kE P "__static_attributes__" 201 (.ref 22),kE P "__weakref__" 203 (.ref 25),kE P "__doc__" 204 (.none)]
theorem kNB (P:Params){h:Heap}(X:(kK P).In h):h.Ns 23 (nsFind (kesB P)):=⟨⟨.type "dict",none, .dict (kesB P) 3,#[]⟩,_,_,X 23 _ (by kernel_rfl),rfl,fun e he=>by
  unfold kesB at he
  simp only [List.mem_toArray,az,aW,cz] at he
  rcases he with rfl | rfl | rfl | rfl | rfl <;> exact⟨_,_,rfl⟩,fun _=>rfl⟩
theorem kx2 (P:Params):ExcK (kK P) 68:=⟨"TooMany","TooMany",67,[.ref 24],[.ref 24, .type "ValueError", .type "Exception", .type "BaseException", .type "object"],true,[],[],false,none,none,some (.ref 59),none,some (.str "TooMany" 248),some (.str "TooMany" 256),some (.bool true),nsFind (kesC P),by kernel_rfl,by kernel_rfl,fun h X=>⟨kcC P X,kNC P X, .own (kcB P X) (kNB P X) (by kernel_rfl) .base⟩⟩
theorem kx3 (P:Params):Above (kK P) 68 24:=⟨"TooMany","TooMany","OnceError","OnceError",67,23,[.ref 24],[.ref 24, .type "ValueError", .type "Exception", .type "BaseException", .type "object"],[.type "ValueError"],[.type "ValueError", .type "Exception", .type "BaseException", .type "object"],true,true,[],[],[],[.ref 44, .ref 56, .ref 68, .ref 80, .ref 92, .ref 104, .ref 116, .ref 128, .ref 140, .ref 152],false,false,none,none,none,none,some (.ref 59),none,some (.str "TooMany" 248),some (.str "TooMany" 256),some (.bool true),some (.ref 15),none,some (.str "OnceError" 189),some (.str "OnceError" 197),some (.bool true),"ValueError.__new__","ValueError.__new__",by kernel_rfl,by kernel_rfl,fun h X=>⟨kcC P X,kcB P X⟩⟩
theorem kx4 (P:Params):ExcIs (kK P) 68:=⟨by kernel_rfl,by kernel_rfl,by kernel_rfl,by kernel_rfl,by kernel_rfl,by kernel_rfl,by kernel_rfl,by kernel_rfl⟩
theorem kx5 (P:Params):∀ i x,jCI[i]?=some x->PySem.W.nsIn (kK P) mainGlobals x=some (some (.ref (kcl i)))
 | 0,_,rfl | 1,_,rfl | 2,_,rfl | 3,_,rfl | 4,_,rfl | 5,_,rfl | 6,_,rfl | 7,_,rfl | 8,_,rfl | 9,_,rfl=>by kernel_rfl
 | _+10,_,h=>by cases h
theorem kx6 (P:Params):∀ i,i<10->kitOne (kK P) (.ref 68) (.ref (kcl i))=some (decide (i=9))
 | 0,_ | 1,_ | 2,_ | 3,_ | 4,_ | 5,_ | 6,_ | 7,_ | 8,_ | 9,_=>by kernel_rfl
 | _+10,h=>by omega
theorem kx7 (P:Params):kitOne (kK P) (.ref 68) (.type "ValueError")=some true:=by kernel_rfl
theorem walk {l:PySem.W.OpenLaw}{q:Program}{loose:List Str}{XP:(Str->Option Value)->Heap->Prop}{YP:World->Heap->Prop}{d:DefRec}{K:Params->W.Frag}(hn:l.most=some 63)(hdf:d.params.defaults=[]){tb1 tb2:Addr}{cc1 cc2:Addr}
  (hY:∀ (w:World) (h:Heap),YP w h->(K w.params).In h/\∀ T∈[tb1,tb2],h.get? T=some (tabObj #[])) (hcd:∀ w:World,codeHdIn (K w.params) cc1 tb1=true/\codeHdIn (K w.params) cc2 tb2=true) (hKT:∀ w:World,∀ T∈[tb1,tb2],(K w.params).lookup T=none) (hnd:([tb1,tb2]:List Addr).Nodup)
  (F:∀ (w:World) (mg:Str->Option Value) (fa:Addr) (h:Heap),(K w.params).In h->h.Ns mainGlobals mg->mg d.name=some (.ref fa)->
   ∃ fd:FuncData,(∀ (s:Shared) (u:Value),BindsTo s fd ⟨[u],[]⟩ [("script",u)])/\∀ base:Heap,(K w.params).In base->base.Ns mainGlobals mg->FnOk l.prog w (K w.params) mg base CX0 9 fa fd ["script"] (spLaw (K w.params) tb1 tb2)):
  PySem.W.WalkO q loose XP YP l.row.toRowW d [] (fun f vs=>PySem.call f vs):=
 L2.walk_ofTs (cts:=[(cc1,tb1),(cc2,tb2)]) (n:=63) (k:=9) (x:= "script") (CX:=fun _=>CX0) (sp:=fun w=>spLaw (K w.params) tb1 tb2) hn (by decide) hdf ⟨rfl,by decide,by decide⟩ hY (fun w p hp=>by
  obtain⟨_h0,_h1⟩:=hcd w
  simp only [az,aW,cz] at hp
  rcases hp with rfl | rfl <;> assumption) hKT F (fun _ H a ns hl hT hS=>⟨a,ns,rfl,hS,hl, .inl (hT _ ak), .inl (hT _ (ai _ ak)),(fun z=>(bK.mp hnd).1 (by rw[z]; exact ak ..)),fun _=>rfl⟩) fun _ _ _ _ _ z=>z
end Eo
open PySem PySem.W PyProof.Rows
set_option maxRecDepth 100000 in
set_option maxHeartbeats 0 in
theorem PySem.Challenge.cw_eachonce_k22_more_than_a_thousand_holds : PySem.Challenge.rw_eachonce_k22_more_than_a_thousand.Holds := by
 w_on
 refine holds_law (by decide+kernel) fun said=>?_
 refine holds_open (q:=Eo.vw) (loose:=[]) (Xt:=fun s=>xlAt Eo.vw [] s&&recOk (RowW.records (OpenRow.toRowW PySem.Challenge.rw_eachonce_k22_more_than_a_thousand.row)) s) (XP:=XL Eo.vw []) (Yf:=Hook.obs Eo.kH) (Ya:=Hook.val Eo.kH) (YP:=Hook.says Eo.kH) (N:=7100) Eo.left (Hook.of Eo.kH) (Hook.keeps Eo.kH) (fun s e=>xl_of s (dR.mp e).1) XL.keeps (by rfl) (by rfl) (by rfl) (fun s e=>recFacts_of (dR.mp e).2) rfl said (by decide+kernel) ⟨rfl,rfl,rfl,rfl,rfl,by decide+kernel⟩ ?hw ?hc
 case hw=>w_witness2
 refine Eo.walk (l:=PySem.Challenge.rw_eachonce_k22_more_than_a_thousand) (K:=Eo.kK) rfl rfl (tb1:=190) (cc1:=194) (tb2:=216) (cc2:=220) (fun w h Y=>⟨PySem.W.km_in_of Y,PySem.W.km_tabs_of Y⟩) (fun w=>⟨by kernel_rfl,by kernel_rfl⟩) (fun w T hm=>by
   simp only [az,aW,cz] at hm
   rcases hm with rfl | rfl <;> kernel_rfl) (by decide) ?F
 case F=>
  intro w mg fa h KX G hmg
  k_fill
  refine' Eo.all_mk KX G hmg _ _ _ _ _ _ _ _ _ _ _ _ _ _ _ _ _ _ _ _ _ _ _ _ _ _ _ _ _ _ _ _ _ _ _ _ _ _ _ _ _ _ _ _ _ _ _ _ _ _ _ _ _ _ _ _ _ _ _ _ _ _ _ _ _ _ _ _ _ _ _ _ _ _ _ _ _ _ _ _ _ _ _ _ _ _ _ _ _ _ _ _ _ _ _ (Eo.kx2 _) (Eo.kx3 _) (Eo.kx4 _) (Eo.kx5 _) (Eo.kx6 _) (Eo.kx7 _) (tb1:=190) rfl (by kernel_rfl) (tb2:=216) rfl (by kernel_rfl) (bmA:=4) (by kernel_rfl) (by kernel_rfl) (by decide) (by decide)
  all_goals try k_is
end
