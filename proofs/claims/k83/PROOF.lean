import PyProof.Rows.All
import Wide.All
import OpenK.AllK
import Wide.FinOn
import PyProof.EqAt
import PyProof.EqKinds
import PyProof.TupleCall
import Lean
import PySem.SetOps
import PyProof.SetKind
import PyProof.DictKinds
import PyProof.CompMap
import PyProof.WalksS
import PyProof.Walks
import PyProof.CollectWalk
import PyProof.FactsAll.set_1
import PyProof.SetNew
import PyProof.Rows.SetFrom
import PyProof.ZipIter
import PyProof.Rows.SortShell
import PyProof.Rows.SortWalk
import PyProof.NeKinds
import PyProof.SumWalkG
import PyProof.RangeIter
import PyProof.StationsW
import PyProof.ExcClass3
import PyProof.ExcBaseAll.ValueError
import PyProof.ExcAttrAll.ValueError
import PyProof.Rows.CatchOwn
import KE.KIsAll
import PyProof.NsDelKeeps
import KE.KNestM
import PyProof.EnumMake
import KE.KDictOf
import PyProof.AttrMiss
import PyProof.IsiH_list
import PyProof.FactsAll.tuple_3
import PyProof.TupleOfStr
import PyProof.ListRange
import PyProof.StrLoop
import PyProof.StrWalks
import PyProof.StrCalls2
import PyProof.MeetsStr
import PyProof.Rows.StrSplitCount
import KE.KIntText
import PySem.Challenge.RW_eachonce_k83_boxes_named_anew
set_option Elab.async false
set_option linter.all false
set_option maxRecDepth 100000
def ac:=@PySem.wpAny_bind
def ae:=@List.length_map
def af:=@PySem.Heap.get?_push_of_some
def ag:=@PySem.wpAny_pure
def ah:=@List.size_toArray
def ai:=@Nat.le_refl
def aj:=@PySem.Heap.get?_push_size
def ak:=@PySem.Heap.lt_size
def al:=@List.length_append
def am:=@Bool.false_ne_true
def ao:=@Nat.ne_of_lt
def aq:=@List.mem_cons
def ar:=@List.getElem?_eq_some_iff
def au:=@List.map_append
def av:=@Nat.lt_of_lt_of_le
def aw:=@PySem.W.mg_none_of
def ay:=@PySem.wpAny_newObj_type
def az:=@if_neg
def aA:=@if_pos
def aB:=@List.mem_cons_self
def aC:=@List.mem_cons_of_mem
def aD:=@PySem.sizeLine_eq
def aE:=@List.mem_append_right
def aF:=@PyProof.Rows.slot_tuple_getitem
def aG:=@List.getElem?_map
def aI:=@List.lookup_cons
def aJ:=@List.not_mem_nil
def aK:=@Option.some.inj
def aL:=@PySem.wpAny_holding
def aM:=@Nat.zero_le
def aN:=@PySem.wpAny_field
def aO:=@of_decide_eq_true
def aP:=@List.length_take
def aQ:=@PySem.wpAny_callSpecial?_slot
def aR:=@PySem.wpAny_call_entry
def aS:=@Bool.and_eq_true
def aU:=@Array.length_toList
def aV:=@List.map_cons
def aW:=@List.mem_of_getElem?
def aX:=@PySem.Heap.get?_update_other
def aY:=@decide_eq_true
def aZ:=@PySem.Heap.get?_update_self
def ba:=@decide_eq_false
def bb:=@PySem.wpAny_loadPart'
def bc:=@PySem.codeAny_builtin
def bd:=@List.length_cons
def be:=@PySem.Around.under_plainId
def bf:=@PySem.wpAny_mono
def bg:=@PySem.W.kia_one
def bh:=@List.getElem?_eq_getElem
def bi:=@PySem.AutoSeq1.wpAny_loadPart'
def bj:=@Int.toNat_natCast
def bn:=@List.append_nil
def bo:=@PySem.wpAny_setField_rec
def bp:=@PySem.F.plainAttrs_list
def bq:=@PyProof.Rows.callWith_type1
def br:=@List.mem_range
def bt:=@Nat.le_trans
def bu:=@List.getElem?_append_right
def bv:=@PySem.Heap.size_push
def bw:=@List.getD_eq_getElem?_getD
def bx:=@PySem.mem_of_lookup
def bz:=@List.length_take_le
def bA:=@List.getElem?_append_left
def bB:=@PySem.wpAny_Call_Name_kw
def bC:=@List.all_eq_true
def bD:=@List.mem_singleton
def bE:=@List.mem_map
def bF:=@congrArg
def bG:=@Array.toArray_toList
def bH:=@Nat.lt_succ_of_lt
def bI:=@PySem.wpAny_setState_of
def bJ:=@List.nodup_cons
def bK:=@beq_eq_false_iff_ne
def bL:=@or_false
def bM:=@Nat.le_of_lt
def bN:=@Ne.symm
def bO:=@Nat.lt_irrefl
def bP:=@List.length_drop
def bQ:=@Bool.and_false
def bR:=@List.getElem?_eq_none
def bS:=@List.mem_append
def bU:=@Bool.eq_iff_iff
def bV:=@List.find?_cons
def bW:=@PySem.sizeLine_eq
def bX:=@PySem.codeAny_mono
def bY:=@PySem.wpAny_typeOf
def bZ:=@PySem.Calls.evalArgs_plain
def b0:=@List.length_range
def cb:=@List.take_add_one
def ce:=@List.map_map
def cf:=@Option.isSome_iff_exists
def cg:=@PySem.call_meets
def cj:=@PySem.F.slot_list_append
def ck:=@PySem.F.type_list_append
def cm:=@List.replicate_succ
def cn:=@List.getElem_mem
def cq:=@List.take_length
def cr:=@Nat.le_succ
def cw:=@Nat.ne_of_gt
def cx:=@Nat.lt_trans
def cy:=@List.of_mem_zip
def cz:=@PySem.PassesOwn.never
def cA:=@PySem.plainId_quiet
def cB:=@PySem.wpAny_attempt
def cC:=@List.length_replicate
def cD:=@Array.getElem?_toList
def cF:=@PySem.wpAny_truthy_bool
def cG:=@PySem.wpAny_pyIter_list
def cH:=@Array.getElem?_eq_some_iff
def cI:=@PySem.wpAny_rule
def cJ:=@PySem.wpAny_setField
def cK:=@PySem.wpAny_askSetting
def cL:=@PySem.wpAny_isInstance
def cM:=@List.filterMap_cons
def cN:=@PySem.F.args_tuple_add_2
def cP:=@PySem.wpAny_execs_nil
def cQ:=@PySem.wpAny_passesOwn
def cR:=@Nat.not_lt_zero
def cS:=@Bool.or_eq_true
def cU:=@PySem.F.entry_tuple_add
def cV:=@List.length_eq_zero_iff
def cW:=@List.getElem?_set_self
def cX:=@PySem.W.cellsFrom_some
def cY:=@List.take_sublist
def cZ:=@PySem.F.slot_tuple_add
def da:=@List.reverse_cons
def db:=@List.flatten_cons
def dc:=@List.take_of_length_le
def de:=@Option.some.injEq
def df:=@PySem.wpAny_runValue
def dg:=@List.map_dropLast
def dh:=@Array.getElem?_setIfInBounds_ne
def di:=@List.take_append_drop
def dj:=@PySem.builtinLookup_eq_fast
def dk:=@PySem.wpAny_load
def dn:=@PySem.wpAny_call
def dq:=@PySem.Around.in1_units
def dr:=@PySem.Heap.size_update
def dv:=@PySem.wpAny_standAt
def dw:=@PySem.W.mg_of
def dy:=@List.getElem?_set_ne
def dz:=@PySem.Around.frames_deeper
def dG:=@List.mem_of_mem_drop
def dP:=@List.mem_filter
def dQ:=@PySem.wpAny_ite_false
def dR:=@PyProof.Rows.entry_tuple_getitem
def dS:=@List.getElem_of_mem
def dU:=@PySem.Heap.SameBut.update
def dW:=@List.map_nil
def dX:=@Int.zero_add
def dY:=@PySem.Calls.Name_function_global
def dZ:=@Bool.false_and
def d0:=@Int.fdiv_eq_ediv_of_nonneg
def ef:=@PySem.W.callWith_K
def eg:=@PySem.wpAny_newFunctionEnv_cells
def eh:=@PyProof.Rows.slicePart_none
def ej:=@PyProof.Rows.args_tuple_getitem
def el:=@List.length_eraseIdx_of_lt
def eO:=@PySem.F.excBase_ValueError
def eQ:=@PySem.F.slot_tuple_ne_refl
def eR:=@decide_eq_true_iff
def eS:=@PySem.Calls.call_function_entry
def eT:=@PySem.wpAny_sequenceKey
def eU:=@List.append_assoc
def eV:=@PySem.wpAny_of_eq
def eW:=@decide_eq_true_eq
def eX:=@Bool.eq_false_iff
def eY:=@List.pairwise_map
def eZ:=@PySem.Paired.length
def fb:=@PySem.rangeSize_one
def fe:=@List.getElem?_take_of_lt
def ff:=@PySem.wpAny_comprehension_free
def fg:=@List.map_take
def fh:=@List.idxOf_lt_length_iff
def fi:=@PySem.F.slot_tuple_index
def fj:=@PySem.F.type_tuple_index
def fk:=@PySem.wpAny_execs_cons
def fm:=@List.getElem?_replicate
def fo:=@PySem.noFill_tuple_add
def fq:=@List.cons_append
def fw:=@PySem.entryFor_of_fast
def fz:=@Nat.lt_succ_self
def fA:=@PySem.F.plain_list_iadd
def fE:=@List.range'_succ
def fF:=@PySem.F.slot_tuple_rmul
def fH:=@PySem.AutoSeq1.idx_int
def fJ:=@PySem.F.attr_ValueError
def fM:=@if_true
def fQ:=@PySem.F.slot_tuple_mul
def fV:=@PySem.F.sub_tuple_dict
def fX:=@List.pairwise_lt_range
def fY:=@List.length_set
def fZ:=@PySem.typeLookup_type
def gb:=@List.length_nil
def gc:=@List.Perm.append_left
def gd:=@PySem.F.slot_set_iter
def ge:=@List.length_filter_le
def gf:=@List.mem_append_left
def gg:=@List.pairwise_append
def gh:=@PySem.isSubtype_type
def gi:=@PySem.isSubtype_stop
def gj:=@List.range_eq_range'
def gk:=@PySem.W.looks_findIn
def gl:=@PySem.F.slot_dict_ne
def gm:=@List.mem_of_mem_take
def gn:=@List.replicate_succ'
def gq:=@Bool.and_eq_true_iff
def gt:=@List.length_reverse
def gu:=@PySem.W.callWith_of
def gw:=@PySem.W.codeHd_of_K
def gx:=@List.getElem?_range
def gy:=@Int.toNat_of_nonneg
def gz:=@List.map_congr_left
def gA:=@List.all_cons
def gB:=@Bool.not_true
def gC:=@Array.append_assoc
def gE:=@List.mem_filterMap
def gF:=@Int.natCast_nonneg
def gG:=@PySem.W.codeRec_of
def gH:=@List.pairwise_cons
def gI:=@List.contains_cons
def gJ:=@List.zip_cons_cons
def gK:=@Int.emod_lt_of_pos
def gL:=@List.filter_append
def gM:=@List.mem_replicate
def gN:=@List.getElem_idxOf
def gO:=@Nat.add_comm
def gP:=@Bool.or_true
def gQ:=@Int.le_trans
def gR:=@not_or
def gS:=@Sum.inl.inj
def gU:=@Int.mul_one
open PySem.W (clsIn codeHdIn envX findIn findObj fnMade instObj keepIn keeps_F kitOne kitx_dict kitx_list lookIn methodObj mg_of mroIn plainGet specialIn tabObj takesIn)
open List (all_map map_id range' replicate)
open Option (bind_some getD_none map_some)
section
namespace L2
open PySem PySem.Spec PyProof.Rows
def jN (s:Stmt):Arguments:=match s with
 | .FunctionDef _ a _ _ _ _ _ _ _ _=>a
 | _=> { posonlyargs:=[],args:=[],vararg:=none,kwonlyargs:=[],kw_defaults:=[],kwarg:=none,defaults:=[]}
def jD (s:Stmt):List Stmt:=match s with
 | .FunctionDef _ _ b _ _ _ _ _ _ _=>b
 | _=> []
def j9 (s:Stmt):Scope:=match s with
 | .FunctionDef _ _ _ _ _ _ sc _ _ _=>sc
 | _=> { kind:= .function,names:=[],isGenerator:=false,isCoroutine:=false}
end L2
end
section
namespace Eo
open PySem L2
def top (i:Nat):Stmt:=PySem.Challenge.pw_eachonce_k83_boxes_named_anew.main.body.getD i (.Pass ⟨0,0,0,0⟩)
abbrev jAL:Stmt:=top 1
abbrev kI:Stmt:=top 3
abbrev yB:Stmt:=top 17
abbrev sAnew:Stmt:=top 18
abbrev sCell:Stmt:=top 20
abbrev sPot:Stmt:=top 21
abbrev sTake:Stmt:=top 22
abbrev sLot:Stmt:=top 23
abbrev sBox:Stmt:=top 24
abbrev jBC:Stmt:=top 25
abbrev yK:Stmt:=top 26
abbrev jAY:Stmt:=top 27
abbrev jA9:Stmt:=top 28
abbrev yL:Stmt:=top 29
abbrev yM:Stmt:=top 30
abbrev yU:Stmt:=top 31
abbrev sOdd:Stmt:=top 32
abbrev yA:Stmt:=top 33
abbrev sLaw:Stmt:=top 34
def kC (x:Str)(t:Nat)(l n:Int)(a:Nat)(X Y:Value)(z:Nat)(u:Int)(v:Nat):Obj:=⟨.type "code",none, .fields #[.str x t, .str x (t+1), .str "/claim/cut.py" (t+2), .int l 0, .int n 0, .int 0 0, .int 0 0, .int 3 0, .ref a, .bool true, .int 181 0, .ref (a+1), .none,X,Y, .ref z, .int u 0, .int l 0, .str "/claim/cut.py" v],#[]⟩
def kF (x:Str)(s:Stmt)(m:Str)(t c:Nat):Obj:=⟨.type "function",none, .func (PySem.W.fnOf x x (jN s) (jD s) (j9 s) .none .none .none (.str m t) none (.ref c) .none),#[]⟩
def kE (P:Params)(x:Str)(t:Nat)(v:Value):DictEntry:=⟨PyData.keyHash P x, .str x t,v⟩
def kM (P:Params):Obj:=
 let e (x:Str) (t:Nat) (v:Value):DictEntry:=⟨PyData.keyHash P x, .str x t,v⟩
 ⟨.type "dict",none, .dict #[e "__name__" 165 (.str "law_eachonce_k83_boxes_named_anew" 410),e "__doc__" 166 (.none),e "__package__" 167 (.none),e "__loader__" 168 (.builtin "__main__.__loader__#opaque"),e "__spec__" 169 (.none),e "__annotations__" 170 (.ref 6),e "__builtins__" 171 (.ref 4),e "__file__" 173 (.str "/claim/cut.py" 172),e "__cached__" 174 (.none),e "is_whole" 195 (.ref 21),e "picked" 203 (.ref 26),e "OnceError" 223 (.ref 36),e "NoText" 248 (.ref 56),e "NoCovering" 264 (.ref 68),e "TooMany" 280 (.ref 80),e "NoThing" 296 (.ref 92),e "NoPiece" 312 (.ref 104),e "NoWeight" 328 (.ref 116),e "NoOrder" 344 (.ref 128),e "Held" 360 (.ref 140),e "NoDeed" 376 (.ref 152),e "NoRow" 392 (.ref 164),e "is_order" 400 (.ref 171),e "named_anew" 409 (.ref 178),e "_law_cell_at" 419 (.ref 185),e "_law_pot" 429 (.ref 192),e "_law_take" 438 (.ref 199),e "_law_lot" 444 (.ref 204),e "_law_box" 450 (.ref 209),e "_law_whole" 457 (.ref 216),e "_law_wholes" 463 (.ref 221),e "_law_drawn" 474 (.ref 228),e "_law_order" 485 (.ref 235),e "_law_named" 491 (.ref 240),e "_law_others" 497 (.ref 245),e "_law_is_box" 503 (.ref 250),e "_law_odd" 509 (.ref 255),e "_law_refused" 519 (.ref 262),e "law" 536 (.ref 269)] 39,#[]⟩
def kK (P:Params):W.Frag:=(nat_lit 3,kM P)::(nat_lit 4,⟨.type "module",some 0, .plain,#[]⟩)::(nat_lit 20,kC "is_whole" 189 2 1 15 (.ref 17) (.ref 18) 19 193 194)::(nat_lit 21,kF "is_whole" jAL "eachonce.kinds" 187 20)::(nat_lit 25,kC "picked" 198 5 3 22 (.none) (.none) 24 201 202)::(nat_lit 26,kF "picked" kI "eachonce.boxes" 196 25)::(nat_lit 35,⟨.type "dict",none, .dict #[kE P "__module__" 213 (.str "eachonce.errors" 204),kE P "__firstlineno__" 217 (.int 12 216),kE P "__static_attributes__" 218 (.ref 34),kE P "__weakref__" 220 (.ref 37),kE P "__doc__" 221 (.none)] 3,#[]⟩)::(nat_lit 36,⟨.type "type",none, .cls { name:= "OnceError",bases:=[.type "ValueError"],mro:=[.ref 36, .type "ValueError", .type "Exception", .type "BaseException", .type "object"],ns:=35,qualname:= "OnceError",subclasses:=[.ref 56, .ref 68, .ref 80, .ref 92, .ref 104, .ref 116, .ref 128, .ref 140, .ref 152, .ref 164]},#[some (.ref 27),none,some (.str "OnceError" 206),some (.str "OnceError" 214),some (.builtin "ValueError.__new__"),some (.bool true)]⟩)::(nat_lit 56,⟨.type "type",none, .cls { name:= "NoText",bases:=[.ref 36],mro:=[.ref 56, .ref 36, .type "ValueError", .type "Exception", .type "BaseException", .type "object"],ns:=55,qualname:= "NoText",subclasses:=[]},#[some (.ref 40),none,some (.str "NoText" 224),some (.str "NoText" 232),some (.builtin "ValueError.__new__"),some (.bool true)]⟩)::(nat_lit 68,⟨.type "type",none, .cls { name:= "NoCovering",bases:=[.ref 36],mro:=[.ref 68, .ref 36, .type "ValueError", .type "Exception", .type "BaseException", .type "object"],ns:=67,qualname:= "NoCovering",subclasses:=[]},#[some (.ref 59),none,some (.str "NoCovering" 249),some (.str "NoCovering" 257),some (.builtin "ValueError.__new__"),some (.bool true)]⟩)::(nat_lit 80,⟨.type "type",none, .cls { name:= "TooMany",bases:=[.ref 36],mro:=[.ref 80, .ref 36, .type "ValueError", .type "Exception", .type "BaseException", .type "object"],ns:=79,qualname:= "TooMany",subclasses:=[]},#[some (.ref 71),none,some (.str "TooMany" 265),some (.str "TooMany" 273),some (.builtin "ValueError.__new__"),some (.bool true)]⟩)::(nat_lit 92,⟨.type "type",none, .cls { name:= "NoThing",bases:=[.ref 36],mro:=[.ref 92, .ref 36, .type "ValueError", .type "Exception", .type "BaseException", .type "object"],ns:=91,qualname:= "NoThing",subclasses:=[]},#[some (.ref 83),none,some (.str "NoThing" 281),some (.str "NoThing" 289),some (.builtin "ValueError.__new__"),some (.bool true)]⟩)::(nat_lit 104,⟨.type "type",none, .cls { name:= "NoPiece",bases:=[.ref 36],mro:=[.ref 104, .ref 36, .type "ValueError", .type "Exception", .type "BaseException", .type "object"],ns:=103,qualname:= "NoPiece",subclasses:=[]},#[some (.ref 95),none,some (.str "NoPiece" 297),some (.str "NoPiece" 305),some (.builtin "ValueError.__new__"),some (.bool true)]⟩)::(nat_lit 116,⟨.type "type",none, .cls { name:= "NoWeight",bases:=[.ref 36],mro:=[.ref 116, .ref 36, .type "ValueError", .type "Exception", .type "BaseException", .type "object"],ns:=115,qualname:= "NoWeight",subclasses:=[]},#[some (.ref 107),none,some (.str "NoWeight" 313),some (.str "NoWeight" 321),some (.builtin "ValueError.__new__"),some (.bool true)]⟩)::(nat_lit 127,⟨.type "dict",none, .dict #[kE P "__module__" 336 (.str "eachonce.errors" 204),kE P "__firstlineno__" 340 (.int 29 339),kE P "__static_attributes__" 341 (.ref 126),kE P "__doc__" 342 (.none)] 2,#[]⟩)::(nat_lit 128,⟨.type "type",none, .cls { name:= "NoOrder",bases:=[.ref 36],mro:=[.ref 128, .ref 36, .type "ValueError", .type "Exception", .type "BaseException", .type "object"],ns:=127,qualname:= "NoOrder",subclasses:=[]},#[some (.ref 119),none,some (.str "NoOrder" 329),some (.str "NoOrder" 337),some (.builtin "ValueError.__new__"),some (.bool true)]⟩)::(nat_lit 140,⟨.type "type",none, .cls { name:= "Held",bases:=[.ref 36],mro:=[.ref 140, .ref 36, .type "ValueError", .type "Exception", .type "BaseException", .type "object"],ns:=139,qualname:= "Held",subclasses:=[]},#[some (.ref 131),none,some (.str "Held" 345),some (.str "Held" 353),some (.builtin "ValueError.__new__"),some (.bool true)]⟩)::(nat_lit 152,⟨.type "type",none, .cls { name:= "NoDeed",bases:=[.ref 36],mro:=[.ref 152, .ref 36, .type "ValueError", .type "Exception", .type "BaseException", .type "object"],ns:=151,qualname:= "NoDeed",subclasses:=[]},#[some (.ref 143),none,some (.str "NoDeed" 361),some (.str "NoDeed" 369),some (.builtin "ValueError.__new__"),some (.bool true)]⟩)::(nat_lit 164,⟨.type "type",none, .cls { name:= "NoRow",bases:=[.ref 36],mro:=[.ref 164, .ref 36, .type "ValueError", .type "Exception", .type "BaseException", .type "object"],ns:=163,qualname:= "NoRow",subclasses:=[]},#[some (.ref 155),none,some (.str "NoRow" 377),some (.str "NoRow" 385),some (.builtin "ValueError.__new__"),some (.bool true)]⟩)::(nat_lit 170,kC "is_order" 395 38 2 167 (.none) (.none) 169 398 399)::(nat_lit 171,kF "is_order" yB "eachonce.changes" 393 170)::(nat_lit 177,kC "named_anew" 401 42 3 172 (.ref 174) (.ref 175) 176 407 408)::(nat_lit 178,kF "named_anew" sAnew "eachonce.changes" 393 177)::(nat_lit 184,kC "_law_cell_at" 412 49 2 179 (.ref 181) (.ref 182) 183 417 418)::(nat_lit 185,kF "_law_cell_at" sCell "law_eachonce_k83_boxes_named_anew" 410 184)::(nat_lit 191,kC "_law_pot" 420 53 1 186 (.ref 188) (.ref 189) 190 427 428)::(nat_lit 192,kF "_law_pot" sPot "law_eachonce_k83_boxes_named_anew" 410 191)::(nat_lit 198,kC "_law_take" 430 62 2 193 (.ref 195) (.ref 196) 197 436 437)::(nat_lit 199,kF "_law_take" sTake "law_eachonce_k83_boxes_named_anew" 410 198)::(nat_lit 203,kC "_law_lot" 439 66 2 200 (.none) (.none) 202 442 443)::(nat_lit 204,kF "_law_lot" sLot "law_eachonce_k83_boxes_named_anew" 410 203)::(nat_lit 208,kC "_law_box" 445 75 3 205 (.none) (.none) 207 448 449)::(nat_lit 209,kF "_law_box" sBox "law_eachonce_k83_boxes_named_anew" 410 208)::(nat_lit 215,kC "_law_whole" 451 93 1 210 (.ref 212) (.ref 213) 214 455 456)::(nat_lit 216,kF "_law_whole" jBC "law_eachonce_k83_boxes_named_anew" 410 215)::(nat_lit 220,kC "_law_wholes" 458 95 1 217 (.none) (.none) 219 461 462)::(nat_lit 221,kF "_law_wholes" yK "law_eachonce_k83_boxes_named_anew" 410 220)::(nat_lit 227,kC "_law_drawn" 464 97 4 222 (.ref 224) (.ref 225) 226 472 473)::(nat_lit 228,kF "_law_drawn" jAY "law_eachonce_k83_boxes_named_anew" 410 227)::(nat_lit 234,kC "_law_order" 475 102 2 229 (.ref 231) (.ref 232) 233 483 484)::(nat_lit 235,kF "_law_order" jA9 "law_eachonce_k83_boxes_named_anew" 410 234)::(nat_lit 239,kC "_law_named" 486 108 3 236 (.none) (.none) 238 489 490)::(nat_lit 240,kF "_law_named" yL "law_eachonce_k83_boxes_named_anew" 410 239)::(nat_lit 244,kC "_law_others" 492 113 2 241 (.none) (.none) 243 495 496)::(nat_lit 245,kF "_law_others" yM "law_eachonce_k83_boxes_named_anew" 410 244)::(nat_lit 249,kC "_law_is_box" 498 118 2 246 (.none) (.none) 248 501 502)::(nat_lit 250,kF "_law_is_box" yU "law_eachonce_k83_boxes_named_anew" 410 249)::(nat_lit 254,kC "_law_odd" 504 122 2 251 (.none) (.none) 253 507 508)::(nat_lit 255,kF "_law_odd" sOdd "law_eachonce_k83_boxes_named_anew" 410 254)::(nat_lit 261,kC "_law_refused" 510 130 3 256 (.ref 258) (.ref 259) 260 517 518)::(nat_lit 262,kF "_law_refused" yA "law_eachonce_k83_boxes_named_anew" 410 261)::(nat_lit 268,kC "law" 520 136 1 263 (.ref 265) (.ref 266) 267 534 535)::(nat_lit 269,kF "law" sLaw "law_eachonce_k83_boxes_named_anew" 410 268)::[]
def kA:List Addr:=[3,4,20,21,25,26,35,36,56,68,80,92,104,116,127,128,140,152,164,170,171,177,178,184,185,191,192,198,199,203,204,208,209,215,216,220,221,227,228,234,235,239,240,244,245,249,250,254,255,261,262,268,269]
def vw:Program:= { PySem.Challenge.pw_eachonce_k83_boxes_named_anew with main:= { PySem.Challenge.pw_eachonce_k83_boxes_named_anew.main with body:=[top 1,top 3,top 5,top 6,top 7,top 8,top 9,top 10,top 11,top 12,top 13,top 14,top 15,top 17,top 18,top 20,top 21,top 22,top 23,top 24,top 25,top 26,top 27,top 28,top 29,top 30,top 31,top 32,top 33,top 34]}}
theorem kA_eq:∀ P,kA=(kK P).map (·.1):=fun _=>by kernel_rfl
abbrev kH:PySem.W.Hook:=PySem.W.kmHook kK kA kA_eq [23]
set_option maxHeartbeats 0 in
theorem left:PySem.W.LeftO PySem.Challenge.rw_eachonce_k83_boxes_named_anew.prog vw [] (fun s=>PySem.W.xlAt vw [] s&&PySem.W.recOk (PySem.W.RowW.records (PySem.W.OpenRow.toRowW PySem.Challenge.rw_eachonce_k83_boxes_named_anew.row)) s) (PySem.W.Hook.obs kH) (PySem.W.Hook.val kH) 7100:=fun w=>by kernel_rfl
end Eo
end
section
namespace L2
open PySem PySem.Spec PyProof.Rows
abbrev Key:=Sum Int Str
def keyIs:Key->Value->Bool
 | .inl k,v=>Value.isInt k v
 | .inr x,v=>Value.isStrOf x v
def keyH (w:World):Key->Int
 | .inl k=>hashInt k
 | .inr x=>hashStr w x
theorem jA0:∀ {k:Key}{v:Value},keyIs k v=true->(∃ i t,k=Sum.inl i/\v=Value.int i t)\/(∃ x t,k=Sum.inr x/\v=Value.str x t)
 | .inl i,v,h=>by
  obtain⟨t,e⟩:=Value.isInt_shape (k:=i) (v:=v) h
  exact .inl ⟨i,t,rfl,e⟩
 | .inr x,v,h=>by
  obtain⟨t,e⟩:=Value.isStrOf_shape (x:=x) (v:=v) h
  exact .inr ⟨x,t,rfl,e⟩
theorem jIY (i:Int)(t:Tok):keyIs (.inl i) (.int i t)=true:=by simp [keyIs,Value.isInt]
theorem jIX (x:Str)(t:Tok):keyIs (.inr x) (.str x t)=true:=by simp [keyIs,Value.isStrOf]
theorem jOA (a b:Int):decide ((Sum.inl a:Key)=Sum.inl b)=(a==b):=by
 by_cases e:a=b
 ·subst e; simp
 ·have h:¬ (Sum.inl a:Key)=Sum.inl b:=fun q=>e (gS q)
  rw[ba h]
  exact(bK.mpr e).symm
theorem jO7 (a b:Str):decide ((Sum.inr a:Key)=Sum.inr b)=decide (a=b):=by
 by_cases e:a=b
 ·subst e; simp
 ·have h:¬ (Sum.inr a:Key)=Sum.inr b:=fun q=>e (Sum.inr.inj q)
  rw[ba h,ba e]
theorem jO9 (a:Int)(b:Str):decide ((Sum.inl a:Key)=Sum.inr b)=false:=ba (fun q=>nomatch q)
theorem jO8 (a:Str)(b:Int):decide ((Sum.inr a:Key)=Sum.inl b)=false:=ba (fun q=>nomatch q)
def yG (prog:Program)(w:World):PySem.KeyKind prog w Key where
 is:=keyIs
 hash:=keyH w
 inj:=fun v a b ha hb=>by
  rcases jA0 ha with ⟨i,t,rfl,rfl⟩ | ⟨x,t,rfl,rfl⟩
  ·rcases jA0 hb with ⟨j,u,rfl,e⟩ | ⟨y,u,rfl,e⟩
   ·injection e with e1 _; rw[e1]
   ·exact nomatch e
  ·rcases jA0 hb with ⟨j,u,rfl,e⟩ | ⟨y,u,rfl,e⟩
   ·exact nomatch e
   ·injection e with e1 _; rw[e1]
 byValue:=fun k v h=>by
  rcases jA0 h with ⟨i,t,rfl,rfl⟩ | ⟨x,t,rfl,rfl⟩ <;> rfl
 pyHash:=fun hv h=>by
  rcases jA0 hv with ⟨i,t,rfl,rfl⟩ | ⟨x,t,rfl,rfl⟩
  ·exact wpAny_pyHash_int h
  ·exact wpAny_pyHash_str h
 eqBool:=fun hu hv h=>by
  rcases jA0 hu with ⟨i,t,rfl,rfl⟩ | ⟨x,t,rfl,rfl⟩
  ·rcases jA0 hv with ⟨j,u,rfl,rfl⟩ | ⟨y,u,rfl,rfl⟩
   ·rw[jOA] at h; exact wpAny_eqBool_int h
   ·rw[jO9] at h; exact SeqAt.EqAt.int_str i t y u _ _ _ _ h
  ·rcases jA0 hv with ⟨j,u,rfl,rfl⟩ | ⟨y,u,rfl,rfl⟩
   ·rw[jO8] at h; exact SeqAt.EqAt.str_int x t j u _ _ _ _ h
   ·rw[jO7] at h; exact wpAny_eqBool_str h
 «strs»:=fun k x t v h=>by
  rcases jA0 h with ⟨i,u,rfl,e⟩ | ⟨y,u,rfl,e⟩
  ·exact nomatch e
  ·injection e with e1 _
   subst e1
   cases v <;> rfl
theorem jFJ (prog:Program)(w:World)(i:Int)(t:Tok):(yG prog w).is (.inl i) (.int i t)=true:=jIY i t
theorem jFI (prog:Program)(w:World)(x:Str)(t:Tok):(yG prog w).is (.inr x) (.str x t)=true:=jIX x t
end L2
namespace L2
open PySem PySem.Spec PyProof.Rows
inductive V where
 | non | bl (b:Bool) | int (i:Int) | str (x:Str) | byt (b:Array UInt8) | flt (b:UInt64) | ref (a:Addr) | ty (n:String)
 deriving DecidableEq
def RelV:V->Value->Prop
 | .non,u=>u=Value.none
 | .bl b,u=>u=Value.bool b
 | .int i,u=>∃ t,u=Value.int i t
 | .str x,u=>∃ t,u=Value.str x t
 | .byt b,u=>∃ t,u=Value.bytes b t
 | .flt b,u=>∃ t,u=Value.float b t
 | .ref a,u=>u=Value.ref a
 | .ty n,u=>u=Value.type n
abbrev Vals:List V->List Value->Prop:=Paired RelV
theorem Vals.length {xs:List V}{us:List Value}(r:Vals xs us):xs.length=us.length:=eZ r
theorem Vals.get:∀ {xs:List V}{us:List Value}{i:Nat}{x:V},Vals xs us->xs[i]?=some x->∃ u,us[i]?=some u/\RelV x u
 | _,_,_,_, .nil,e=>by simp at e
 | _,_,0,_, .cons r _,e=>by simp at e; subst e; exact⟨_,rfl,r⟩
 | _,_,i+1,x, .cons _ t,e=>by
  obtain⟨u,h1,h2⟩:=Vals.get (i:=i) (x:=x) t (by simpa using e)
  exact⟨u,by simpa using h1,h2⟩
theorem Vals.set {x:V}{u:Value}(r:RelV x u):∀ {xs:List V}{us:List Value}(i:Nat),Vals xs us->Vals (xs.set i x) (us.set i u)
 | _,_,_, .nil=> .nil
 | _,_,0, .cons _ t=> .cons r t
 | _,_,i+1, .cons q t=> .cons q (Vals.set r i t)
theorem Vals.append:∀ {xs ys:List V}{us ws:List Value},Vals xs us->Vals ys ws->Vals (xs++ys) (us++ws)
 | _,_,_,_, .nil,s=>s
 | _,_,_,_, .cons r t,s=> .cons r (Vals.append t s)
theorem Vals.take:∀ {xs:List V}{us:List Value}(n:Nat),Vals xs us->Vals (xs.take n) (us.take n)
 | _,_,0,_=> .nil
 | _,_,_+1, .nil=> .nil
 | _,_,n+1, .cons r t=> .cons r (Vals.take n t)
theorem Vals.drop:∀ {xs:List V}{us:List Value}(n:Nat),Vals xs us->Vals (xs.drop n) (us.drop n)
 | _,_,0,r=>r
 | _,_,_+1, .nil=> .nil
 | _,_,n+1, .cons _ t=>Vals.drop n t
def RelO:Option V->Option Value->Prop
 | some v,some u=>RelV v u
 | none,none=>True
 | _,_=>False
def KV {κ:Type} :List (κ×V)->List (κ×Value)->Prop:=Paired fun (p:κ×V) (q:κ×Value)=>p.1=q.1/\RelV p.2 q.2
def kV:Key->V
 | .inl i=> .int i
 | .inr x=> .str x
def TupO (h:Heap)(a:Addr)(items:Array Value):Prop:=∃ n,h.get? a=some { cls:= .type "tuple",data:= .seq items n}
theorem TupO.isTup {h:Heap}{a:Addr}{items:Array Value}(x:TupO h a items):IsTup h a items:=let ⟨n,e⟩:=x; ⟨_,e,rfl,n,rfl⟩
theorem TupO.new (h:Heap)(items:Array Value):TupO (h.push { cls:= .type "tuple",data:= .seq items}) h.objs.size items:=⟨0,aj _ rfl⟩
inductive HO where
  | lst (xs:List V)
  | tup (xs:List V)
  | dK (kvs:List (Key×V)) | dT (kvs:List (List Key×V))
  | set (S:Int->Bool) (n:Nat)
  | ins (C dx:Addr) (fs:List (Str×V))
  | own (x:Addr)
  | xd (fs:List (Str×V))
  | met (f x:Addr)
  | rng (lo hi:Int)
  | frz (o:Obj) (u:HO)
  | tbl (ps:Array Value)
  | ext (φ:Heap->Prop)
abbrev Hp:=Addr->Option HO
def upd (H:Hp)(a:Addr)(o:HO):Hp:=fun b=>if b=a then some o else H b
theorem j7 {H:Hp}{a:Addr}{o:HO} :upd H a o a=some o:=by unfold upd; rw[aA rfl]
theorem jA {H:Hp}{a b:Addr}{o:HO}(h:b≠a):upd H a o b=H b:=by unfold upd; rw[az h]
theorem ne_of {H:Hp}{a b:Addr}{o u:HO}(h:H a=some o)(h':H b=some u)(d:o≠u):a≠b:=by
 intro e; subst e; rw[h] at h'; exact d (aK h')
theorem jB {H:Hp}{a b:Addr}{o:HO}(h:H a=some o)(h':H b=none):a≠b:=by
 intro e; subst e; rw[h] at h'; cases h'
section
variable (P:Program)(w:World)
def ObjOk (H:Hp)(h:Heap)(a:Addr):HO->Prop
 | .lst xs=>xs.length<=sizeLine/\∃ (its:List Value) (n:Nat),Vals xs its/\h.get? a=some { cls:= .type "list",data:= .seq its.toArray n}
 | .tup xs=>xs.length<=sizeLine/\∃ its:List Value,Vals xs its/\TupO h a its.toArray
 | .dK kvs=>kvs.length<=sizeLine/\(a==sysModules)=false/\∃ vs,KV kvs vs/\h.DictOf (yG P w) a vs
 | .dT kvs=>kvs.length<=sizeLine/\(a==sysModules)=false/\∃ xs:List (List Key×Addr×Value),
   Paired (fun (p:List Key×V) (q:List Key×Addr×Value)=>p.1=q.1/\H q.2.1=some (.tup (p.1.map kV))/\RelV p.2 q.2.2) kvs xs/\
   ∃ o es ep,h.get? a=some o/\o.ExactDict/\o.data= .dict es ep/\es.toList=xs.map (entryOfKey (tupleKind (yG P w)))/\(xs.map (·.1)).Nodup
 | .set S n=>h.SetOf (intKind P w) a S n
 | .ins C dx fs=>H dx=some (.own a)/\fs.length<=1000/\dx≠a/\h.get? a=some (instObj C dx)/\
   ∃ mA,h.Ns1 dx mA/\(∀ f,RelO (fs.lookup f) (mA f))/\PySem.Within mA (fs.map (·.1))
 | .own _=>∃ o,h.get? a=some o
 | .xd fs=>∃ mA,h.Ns1 a mA/\∀ f,RelO (fs.lookup f) (mA f)
 | .rng lo hi=>∃ t u v,h.get? a=some { cls:= .type "range",data:= .fields #[.int lo t, .int hi u, .int 1 v]}
 | .frz o u=>h.get? a=some o/\ObjOk H h a u
 | .tbl ps=>h.get? a=some { cls:= .none,data:= .fields ps}
 | .met f x=>h.get? a=some (methodObj (.ref f) (.ref x))
 | .ext φ=>φ h/\(∃ o,h.get? a=some o)/\∀ h1 h2:Heap,φ h1->(∀ o,h1.get? a=some o->h2.get? a=some o)->φ h2
def HOk (H:Hp)(h:Heap):Prop:=∀ a o,H a=some o->ObjOk P w H h a o
end
section
variable {P:Program}{w:World}{H H':Hp}{h h':Heap}{a:Addr}{o:HO}
theorem ObjOk.lt (x:ObjOk P w H h a o):a<h.objs.size:=by
 cases o with
 | lst xs=>obtain⟨_,_,_,_,e⟩:=x; exact ak e
 | tup xs=>obtain⟨_,_,_,_,e⟩:=x; exact ak e
 | dK kvs=>obtain⟨_,_,_,_,o,_,_,e,_⟩:=x; exact ak e
 | dT kvs=>obtain⟨_,_,_,_,o,_,_,e,_⟩:=x; exact ak e
 | set S n=>obtain⟨o,_,_,_,e,_⟩:=x; exact ak e
 | ins C dx fs=>obtain⟨_,_,_,e,_⟩:=x; exact ak e
 | own y=>obtain⟨_,e⟩:=x; exact ak e
 | xd fs=>obtain⟨_,⟨_,_,_,e,_⟩,_⟩:=x; exact ak e
 | rng lo hi=>obtain⟨_,_,_,e⟩:=x; exact ak e
 | frz ob u=>obtain⟨e,_⟩:=x; exact ak e
 | tbl ps=>exact ak (show h.get? a=some _ from x)
 | met f y=>exact ak (show h.get? a=some _ from x)
 | ext φ=>obtain⟨_,⟨_,e⟩,_⟩:=x; exact ak e
theorem Paired.mapP {α β:Type}{F G:α->β->Prop} :∀ {l₁:List α}{l₂:List β},Paired F l₁ l₂->(∀ a b,F a b->G a b)->Paired G l₁ l₂
 | _,_, .nil,_=> .nil
 | _,_, .cons r t,f=> .cons (f _ _ r) (Paired.mapP t f)
theorem ObjOk.stay (x:ObjOk P w H h a o)(k:∀ b u,(b=a\/H b=some (.own a))->h.get? b=some u->h'.get? b=some u)
  (ho:∀ b,H b=some (.own a)->H' b=some (.own a)) (ht:∀ b xs,H b=some (.tup xs)->H' b=some (.tup xs)):ObjOk P w H' h' a o:=by
 induction o with
 | lst xs=>obtain⟨z,its,n,r,e⟩:=x; exact⟨z,its,n,r,k _ _ (.inl rfl) e⟩
 | tup xs=>obtain⟨z,its,r,n,e⟩:=x; exact⟨z,its,r,n,k _ _ (.inl rfl) e⟩
 | dK kvs=>obtain⟨z,y,vs,r,ob,es,ep,e,c⟩:=x; exact⟨z,y,vs,r,ob,es,ep,k _ _ (.inl rfl) e,c⟩
 | dT kvs=>
  obtain⟨z,y,xs,r,ob,es,ep,e,c⟩:=x
  exact⟨z,y,xs,Paired.mapP r fun p q z=>⟨z.1,ht _ _ z.2.1,z.2.2⟩,ob,es,ep,k _ _ (.inl rfl) e,c⟩
 | set S n=>obtain⟨ob,es,ep,t,e,c⟩:=x; exact⟨ob,es,ep,t,k _ _ (.inl rfl) e,c⟩
 | ins C dx fs=>
  obtain⟨d,z,ne,e,mA,⟨od,es,ep,e2,c⟩,r⟩:=x
  exact⟨ho _ d,z,ne,k _ _ (.inl rfl) e,mA,⟨od,es,ep,k _ _ (.inr d) e2,c⟩,r⟩
 | own y=>obtain⟨ob,e⟩:=x; exact⟨ob,k _ _ (.inl rfl) e⟩
 | xd fs=>obtain⟨mA,⟨od,es,ep,e,c⟩,r⟩:=x; exact⟨mA,⟨od,es,ep,k _ _ (.inl rfl) e,c⟩,r⟩
 | rng lo hi=>obtain⟨t,u,v,e⟩:=x; exact⟨t,u,v,k _ _ (.inl rfl) e⟩
 | frz ob u ih=>obtain⟨e,q⟩:=x; exact⟨k _ _ (.inl rfl) e,ih q⟩
 | tbl ps=>
  have e:h.get? a=some { cls:= .none,data:= .fields ps} :=x
  show h'.get? a=some { cls:= .none,data:= .fields ps}
  exact k a _ (.inl rfl) e
 | met f y=>
  have e:h.get? a=some (methodObj (.ref f) (.ref y)):=x
  show h'.get? a=some (methodObj (.ref f) (.ref y))
  exact k a _ (.inl rfl) e
 | ext φ=>obtain⟨p,⟨o,e⟩,st⟩:=x; exact⟨st _ _ p fun o q=>k _ _ (.inl rfl) q,⟨o,k _ _ (.inl rfl) e⟩,st⟩
theorem HOk.lt (x:HOk P w H h)(e:H a=some o):a<h.objs.size:=(x a o e).lt
theorem HOk.fresh (x:HOk P w H h)(e:h.objs.size<=a):H a=none:=by
 cases q:H a with
 | none=>rfl
 | some u=>exact absurd (av (x.lt q) e) (bO _)
theorem HOk.kept (x:HOk P w H h)(k:∀ b u,h.get? b=some u->h'.get? b=some u):HOk P w H h':=fun a o e=>
 (x a o e).stay (fun b u _ q=>k b u q) (fun _ q=>q) fun _ _ q=>q
theorem HOk.laid (x:HOk P w H h)(k:∀ b u,h.get? b=some u->h'.get? b=some u)(hp:h.objs.size<=a)(new:ObjOk P w (upd H a o) h' a o):HOk P w (upd H a o) h':=fun b u e=>by
 have hn:=x.fresh hp
 by_cases hb:b=a
 ·subst hb; rw[j7] at e; cases e; exact new
 ·rw[jA hb] at e
  exact(x b u e).stay (fun c v _ q=>k c v q) (fun c q=>by rw[jA (jB q hn)]; exact q) fun c xs q=>by rw[jA (jB q hn)]; exact q
end
def Rd (H:Hp)(a:Addr)(u:HO):Prop:=H a=some u\/∃ o,H a=some (.frz o u)
theorem Rd.ok {P:Program}{w:World}{H:Hp}{h:Heap}{a:Addr}{u:HO}(r:Rd H a u)(x:HOk P w H h):ObjOk P w H h a u:=by
 rcases r with r | ⟨o,r⟩
 ·exact x a u r
 ·obtain⟨_,q⟩:=x a _ r
  exact q
def Mut:Option HO->Prop
 | some (.lst _)=>True
 | some (.dK _)=>True
 | some (.dT _)=>True
 | some (.set _ _)=>True
 | some (.ins _ _ _)=>True
 | some (.ext _)=>True
 | _=>False
section
variable {P:Program}{w:World}{H:Hp}{h h':Heap}{x e:Addr}{o':HO}
theorem HOk.write (ok:HOk P w H h)(mu:Mut (H x))(he:e=x\/H e=some (.own x))(k:∀ b u,b≠e->h.get? b=some u->h'.get? b=some u)(heo:∃ u,h'.get? e=some u)
  (new:ObjOk P w (upd H x o') h' x o'):HOk P w (upd H x o') h':=fun b u q=>by
 have nown:∀ c y,H c=some (.own y)->c≠x:=fun c y r z=>by subst z; rw[r] at mu; exact mu
 have ntup:∀ c xs,H c=some (.tup xs)->c≠x:=fun c xs r z=>by subst z; rw[r] at mu; exact mu
 by_cases hb:b=x
 ·subst hb; rw[j7] at q; cases q; exact new
 ·rw[jA hb] at q
  by_cases hbe:b=e
  ·have q':H b=some (.own x):=by
    rcases he with z | z
    ·exact absurd (hbe.trans z) hb
    ·rw[hbe]; exact z
   rw[q] at q'; cases q'
   obtain⟨v,hv⟩:=heo
   exact⟨v,by rw[hbe]; exact hv⟩
  ·refine(ok b u q).stay (fun c v hc r=>k c v ?_ r) (fun c r=>by rw[jA (nown c b r)]; exact r) fun c xs r=>by rw[jA (ntup c xs r)]; exact r
   rcases hc with rfl | hc
   ·exact hbe
   ·rintro rfl
    rcases he with z | z
    ·exact nown c b hc z
    ·rw[hc] at z; cases z; exact hb rfl
end
structure Un (fs ex:List Addr)(H H':Hp)(h h':Heap):Prop where
 keep:∀ b o,h.get? b=some o->H b=none->b∉fs->b∉ex->h'.get? b=some o
 slot:∀ b o,h.get? b=some o->H b=none->b∈fs->b∉ex->∃ sl,h'.get? b=some { o with slots:=sl}
 free:∀ b o,h.get? b=some o->H b=none->b∉ex->H' b=none
 there:∀ b o,h.get? b=some o->b∉ex->∃ o',h'.get? b=some o'
 tups:∀ b xs,H b=some (.tup xs)->H' b=some (.tup xs)
 frzs:∀ b o u,H b=some (.frz o u)->H' b=some (.frz o u)
 tbls:∀ b ps,H b=some (.tbl ps)->∃ more,H' b=some (.tbl (ps++more))
section
variable {fs fs' ex ex':List Addr}{H H1 H2:Hp}{h h1 h2 h':Heap}{a x e:Addr}{o:HO}
theorem Un.any (u:Un fs ex H H1 h h1){b:Addr}{ob:Obj}(q:h.get? b=some ob)(n:H b=none)(hx:b∉ex):∃ sl,h1.get? b=some { ob with slots:=sl} :=by
 by_cases hb:b∈fs
 ·exact u.slot b ob q n hb hx
 ·exact⟨ob.slots,u.keep b ob q n hb hx⟩
theorem Un.kept (k:∀ b u,h.get? b=some u->h'.get? b=some u):Un fs ex H H h h':=
 ⟨fun b ob q _ _ _=>k b ob q,fun b ob q _ _ _=>⟨ob.slots,k b ob q⟩,fun _ _ _ n _=>n,fun b ob q _=>⟨ob,k b ob q⟩,fun _ _ q=>q,fun _ _ _ q=>q,fun _ ps q=>⟨#[],by rw[q]; simp⟩⟩
theorem Un.refl:Un fs ex H H h h:=Un.kept fun _ _ q=>q
theorem Un.laid (k:∀ b u,h.get? b=some u->h'.get? b=some u)(hp:h.objs.size<=a)(hn:H a=none):Un fs ex H (upd H a o) h h' where
 keep:=fun b u q _ _ _=>k b u q
 slot:=fun b u q _ _ _=>⟨u.slots,k b u q⟩
 free:=fun b u q n _=>by rw[jA (ao (av (ak q) hp))]; exact n
 there:=fun b u q _=>⟨u,k b u q⟩
 tups:=fun b xs q=>by rw[jA (jB q hn)]; exact q
 frzs:=fun b u xs q=>by rw[jA (jB q hn)]; exact q
 tbls:=fun b ps q=>⟨#[],by rw[jA (jB q hn),q]; simp⟩
theorem Un.write (mu:Mut (H x))(he:e=x\/H e=some (.own x))(k:∀ b u,b≠e->h.get? b=some u->h'.get? b=some u)(heo:∃ u,h'.get? e=some u):Un fs ex H (upd H x o) h h':=by
 have hx:∀ b,H b=none->b≠x:=fun b n z=>by subst z; rw[n] at mu; exact mu
 have hb:∀ b,H b=none->b≠e:=fun b n z=>by
  subst z
  rcases he with r | r
  ·exact hx b n r
  ·rw[n] at r; cases r
 have hm:∀ b u,H b=some u->¬ Mut (some u)->b≠x:=fun b u q nm z=>by subst z; rw[q] at mu; exact nm mu
 refine⟨fun b u q n _ _=>k b u (hb b n) q,fun b u q n _ _=>⟨u.slots,k b u (hb b n) q⟩,fun b u q n _=>by rw[jA (hx b n)]; exact n,fun b u q _=>?_,
  fun b xs q=>by rw[jA (hm b _ q fun z=>z)]; exact q,fun b u xs q=>by rw[jA (hm b _ q fun z=>z)]; exact q,fun b ps q=>⟨#[],by rw[jA (hm b _ q fun z=>z),q]; simp⟩⟩
 by_cases hbe:b=e
 ·subst hbe; exact heo
 ·exact⟨u,k b u hbe q⟩
end
def trk (h:Heap)(H:Hp):List Addr:=(List.range h.objs.size).filter fun a=>(H a).isSome
def hidT (h:Heap)(H:Hp):Heap:=PySem.W.hideAll h (trk h H)
theorem jJE (h:Heap)(H:Hp):(hidT h H).objs.size=h.objs.size:=PySem.W.hideAll_size _ _
theorem jKZ {h:Heap}{H:Hp}{b:Addr}{o:Obj}(e:h.get? b=some o)(n:H b=none):(hidT h H).get? b=some o:=
 PySem.W.hideAll_get _ e fun hm=>by
  have q:(H b).isSome=true:=(dP.mp hm).2
  rw[n] at q; simp at q
theorem jMJ {h:Heap}{H:Hp}{b:Addr}{o:Obj}(e:(hidT h H).get? b=some o):h.get? b=some o/\H b=none:=by
 have e':h.get? b=some o:=PySem.W.of_hideAll (trk h H) e
 refine⟨e',?_⟩
 cases q:H b with
 | none=>rfl
 | some x=>
  have hm:b∈trk h H:=dP.mpr ⟨br.mpr (ak e'),by simp [q]⟩
  have z:(hidT h H).get? b=none:=PySem.W.hideAll_none (trk h H) hm
  rw[z] at e; cases e
end L2
namespace L2
open PySem PySem.Spec PyProof.Rows
structure Mod (K:W.Frag)(mg:Str->Option Value)(base:Heap):Prop where
 kin:K.In base
 glob:base.Ns mainGlobals mg
 blt:∃ mb,base.Ns builtinsNs mb/\∀ x:Str,x≠ "__name__" ->mb x=bootBuiltins x
 nolimit:base.NoLimit
structure Cx where
 prog:Program
 w:World
 K:W.Frag
 mg:Str->Option Value
 base:Heap
 A:Around
 N:List Str
 s₀:Shared
 H₀:Hp
 env:Env
 outer:List Env
 stack:List Env
 ex:List Addr
 fn:Str->Bool
 calm:Bool
 pn:List (Addr×Obj)
 xe:Value->Shared->Prop
def frs (l:List Env):List Addr:=l.filterMap (·.frame)
abbrev Cx.fs (X:Cx):List Addr:=frs X.outer
def Vis (sc:Scope)(x:Str):Prop:=sc.names.lookup x=some .local\/sc.names.lookup x=some .cell\/sc.names.lookup x=some .free
def Loc (sc:Scope)(x:Str):Prop:=sc.names.lookup x=some .local\/sc.names.lookup x=some .cell
def Look (env:Env)(h:Heap)(m:Str->Option Value)(x:Str)(u:Value):Prop:=
 (env.kindOf x=some .local/\m x=some u)\/((env.kindOf x=some .cell\/env.kindOf x=some .free)/\∃ c,env.cells.lookup x=some c/\h.IsCell c (some u))
structure Cx.Ok (X:Cx):Prop where
 mod:Mod X.K X.mg X.base
 kind:X.env.scope.kind= .function
 glob:X.env.globals=mainGlobals
 blt:X.env.builtins=builtinsNs
 above:X.s₀.heap.objs.size<=X.env.locals
 inj:∀ x y c,X.env.cells.lookup x=some c->X.env.cells.lookup y=some c->x=y
 has:∀ x,(X.env.kindOf x=some .cell\/X.env.kindOf x=some .free)->∃ c,X.env.cells.lookup x=some c
 cab:∀ x c,X.fn x=true->X.env.cells.lookup x=some c->X.s₀.heap.objs.size<=c
 hd:X.calm=true->X.A.handled=none
 frames:X.A.frames=some X.stack
 stk:X.stack=X.outer\/(X.stack=X.env::X.outer/\X.env.frame=some X.env.locals)
 exf:∀ b∈X.ex,b≠X.env.locals/\∀ x c,X.env.cells.lookup x=some c->c≠b
 bs:∀ b o,X.base.get? b=some o->X.s₀.heap.get? b=some o/\X.H₀ b=none
 bsz:X.base.objs.size<=X.s₀.heap.objs.size
 noex:∀ b o,X.base.get? b=some o->b∉X.ex
 exfs:∀ b∈X.ex,b∉X.fs
 funs:X.s₀.heap.FunFrames X.base X.outer
 frf:∀ b∈X.fs,X.H₀ b=none
structure Inv (X:Cx)(pins:List (Addr×Obj))(σ:List (Option V))(H:Hp)(s:Shared):Prop where
 ok:X.Ok
 os:s.os=X.s₀.os
 bare:AllBare s.gens
 base:Un X.fs X.ex X.H₀ H X.s₀.heap s.heap
 loc:∃ m,s.heap.Ns X.env.locals m/\∀ (i:Nat) (x:Str) (v:V),X.N[i]?=some x->σ[i]?=some (some v)->Vis X.env.scope x->∃ u,RelV v u/\Look X.env s.heap m x u
 cell:∀ x c,X.env.cells.lookup x=some c->∃ v,s.heap.IsCell c v
 free:H X.env.locals=none
 freeC:∀ x c,X.env.cells.lookup x=some c->H c=none
 pin:∀ p∈X.pn++pins,s.heap.get? p.1=some p.2/\H p.1=none/\p.1≠X.env.locals/\p.1∉X.fs/\∀ v,p.2.data≠ .cell v
 hok:HOk X.prog X.w H s.heap
 len:σ.length=X.N.length
section
variable {X:Cx}{pins:List (Addr×Obj)}{σ:List (Option V)}{H H':Hp}{s:Shared}{h':Heap}
theorem Cx.Ok.nofr (ok:X.Ok){b:Addr}{o:Obj}(e:X.base.get? b=some o):b∉X.fs:=fun hb=>by
 have:=(ok.funs.mem hb).1
 rw[e] at this; cases this
theorem Inv.bs (I:Inv X pins σ H s):∀ b o,X.base.get? b=some o->s.heap.get? b=some o/\H b=none:=fun b o e=>
 ⟨I.base.keep b o (I.ok.bs b o e).1 (I.ok.bs b o e).2 (I.ok.nofr e) (I.ok.noex b o e),I.base.free b o (I.ok.bs b o e).1 (I.ok.bs b o e).2 (I.ok.noex b o e)⟩
theorem Inv.bk (I:Inv X pins σ H s):∀ b o,X.base.get? b=some o->s.heap.get? b=some o:=fun b o e=>(I.bs b o e).1
theorem Inv.mod (I:Inv X pins σ H s):Mod X.K X.mg X.base:=I.ok.mod
theorem Inv.kIn (I:Inv X pins σ H s):X.K.In s.heap:=I.ok.mod.kin.keeps I.bk
theorem Inv.lt (I:Inv X pins σ H s):X.env.locals<s.heap.objs.size:=let ⟨_,hn,_⟩:=I.loc; hn.lt
theorem Inv.sz (I:Inv X pins σ H s):X.s₀.heap.objs.size<=s.heap.objs.size:=bt I.ok.above (bM I.lt)
theorem Inv.nofs (I:Inv X pins σ H s){a:Addr}(h:s.heap.objs.size<=a):a∉X.fs:=fun hb=>by
 obtain⟨_,o,ho,_⟩:=I.ok.funs.mem hb
 exact absurd (av (ak ho) (bt I.sz h)) (bO _)
theorem Inv.cne (I:Inv X pins σ H s):∀ x c,X.env.cells.lookup x=some c->c≠X.env.locals:=fun x c e z=>by
 obtain⟨v,o,ho,hd⟩:=I.cell x c e
 obtain⟨m,⟨o',es,ep,ho',hd',_⟩,_⟩:=I.loc
 rw[z,ho'] at ho; cases ho; rw[hd'] at hd; cases hd
theorem Inv.funs (I:Inv X pins σ H s):s.heap.FunFrames X.base X.outer:=by
 have all:∀ (l:List Env),(∀ b∈frs l,b∈X.fs)->X.s₀.heap.FunFrames X.base l->s.heap.FunFrames X.base l:=by
  intro l
  induction l with
  | nil=>intro _ _; trivial
  | cons env r ih=>
   intro hs hl
   obtain⟨hk,⟨L,o,hf,hn,ho,hd⟩,hr⟩:=hl
   have hL:L∈X.fs:=hs L (by unfold frs; rw[cM,hf]; exact aB)
   obtain⟨sl,e⟩:=I.base.slot L o ho (I.ok.frf L hL) hL fun z=>I.ok.exfs L z hL
   exact⟨hk,⟨L,_,hf,hn,e,hd⟩,ih (fun b hb=>hs b (by unfold frs; rw[cM,hf]; exact aC _ hb)) hr⟩
 exact all X.outer (fun _ hb=>hb) I.ok.funs
theorem Inv.stack (I:Inv X pins σ H s):s.heap.FunFrames X.base X.stack:=by
 rcases I.ok.stk with e | ⟨e,hf⟩
 ·rw[e]; exact I.funs
 ·rw[e]
  obtain⟨m,hn,_⟩:=I.loc
  refine .cons (by rw[I.ok.kind]; decide) hf hn ?_ I.funs
  exact Heap.get?_none_of_le (bt I.ok.bsz I.ok.above)
theorem Inv.stkSub (I:Inv X pins σ H s):∀ b∈frs X.stack,b∈X.env.locals::X.fs:=fun b hb=>by
 rcases I.ok.stk with e | ⟨e,hf⟩
 ·rw[e] at hb; exact aC _ hb
 ·rw[e] at hb
  unfold frs at hb
  rw[cM,hf] at hb
  exact hb
theorem Inv.stkFree (I:Inv X pins σ H s):∀ b∈frs X.stack,H b=none:=fun b hb=>by
 rcases aq.mp (I.stkSub b hb) with e | hb
 ·rw[e]; exact I.free
 ·obtain⟨_,o,ho,_⟩:=I.ok.funs.mem hb
  exact I.base.free b o ho (I.ok.frf b hb) fun z=>I.ok.exfs b z hb
theorem Inv.step {g':Array GenState}{t':Nat}{d':Drawn}{ch:List Addr}(I:Inv X pins σ H s)
  (hch:∀ b∈ch,(b∈X.ex\/X.s₀.heap.objs.size<=b)/\b≠X.env.locals/\(∀ x c,X.env.cells.lookup x=some c->c≠b)/\∀ p∈X.pn++pins,p.1≠b)
  (keep:∀ b o,b≠X.env.locals->b∉X.fs->b∉ch->s.heap.get? b=some o->H b=none->h'.get? b=some o)
  (slot:∀ b o,b≠X.env.locals->b∈X.fs->b∉ch->s.heap.get? b=some o->H b=none->∃ sl,h'.get? b=some { o with slots:=sl}) (free:∀ b o,b∉ch->s.heap.get? b=some o->H b=none->H' b=none)
  (there:∀ b o,b∉ch->s.heap.get? b=some o->∃ o',h'.get? b=some o')
  (tups:∀ b xs,H b=some (.tup xs)->H' b=some (.tup xs)) (frzs:∀ b o u,H b=some (.frz o u)->H' b=some (.frz o u)) (tbls:∀ b ps,H b=some (.tbl ps)->∃ more,H' b=some (.tbl (ps++more)))
  (ns:∀ m,s.heap.Ns X.env.locals m->h'.Ns X.env.locals m) (hok:HOk X.prog X.w H' h') (hg:AllBare g'):
  Inv X pins σ H' { s with heap:=h',gens:=g',drawn:=d',toks:=t'} :=by
 have neL:∀ b o,X.s₀.heap.get? b=some o->b≠X.env.locals:=fun b o e=>ao (av (ak e) I.ok.above)
 have neC:∀ b o,X.s₀.heap.get? b=some o->b∉X.ex->b∉ch:=fun b o e hx hb=>by
  rcases (hch b hb).1 with z | z
  ·exact hx z
  ·exact absurd (av (ak e) z) (bO _)
 have cellK:∀ x c,X.env.cells.lookup x=some c->∀ v,s.heap.IsCell c v->h'.IsCell c v:=fun x c e v ⟨o,ho,hd⟩=>by
  have nch:c∉ch:=fun z=>(hch c z).2.2.1 x c e rfl
  by_cases hc:c∈X.fs
  ·obtain⟨sl,q⟩:=slot c o (I.cne x c e) hc nch ho (I.freeC x c e)
   exact⟨_,q,hd⟩
  ·exact⟨o,keep c o (I.cne x c e) hc nch ho (I.freeC x c e),hd⟩
 refine⟨I.ok,I.os,hg,⟨fun b o e n hb hx=>?_,fun b o e n hb hx=>?_,fun b o e n hx=>?_,fun b o e hx=>?_,fun b xs e=>tups b xs (I.base.tups b xs e),fun b o xs e=>frzs b o xs (I.base.frzs b o xs e),fun b ps e=>?_⟩,?_,fun x c e=>?_,?_,fun x c e=>?_,fun p hp=>?_,hok,I.len⟩
 ·exact keep b o (neL b o e) hb (neC b o e hx) (I.base.keep b o e n hb hx) (I.base.free b o e n hx)
 ·obtain⟨sl,e1⟩:=I.base.slot b o e n hb hx
  obtain⟨sl',e2⟩:=slot b _ (neL b o e) hb (neC b o e hx) e1 (I.base.free b o e n hx)
  exact⟨sl',e2⟩
 ·obtain⟨o',e1⟩:=I.base.there b o e hx
  exact free b o' (neC b o e hx) e1 (I.base.free b o e n hx)
 ·obtain⟨o',e1⟩:=I.base.there b o e hx
  exact there b o' (neC b o e hx) e1
 ·obtain⟨m1,e1⟩:=I.base.tbls b ps e
  obtain⟨m2,e2⟩:=tbls b _ e1
  exact⟨m1++m2,by rw[e2,gC]⟩
 ·obtain⟨m,hn,hl⟩:=I.loc
  refine⟨m,ns m hn,fun i x v e1 e2 e3=>?_⟩
  obtain⟨u,r,l⟩:=hl i x v e1 e2 e3
  refine⟨u,r,?_⟩
  rcases l with l | ⟨k,c,e,z⟩
  ·exact .inl l
  ·exact .inr ⟨k,c,e,cellK x c e _ z⟩
 ·obtain⟨v,z⟩:=I.cell x c e
  exact⟨v,cellK x c e v z⟩
 ·obtain⟨m,⟨o,_,_,ho,_⟩,_⟩:=I.loc
  exact free _ o (fun z=>(hch _ z).2.1 rfl) ho I.free
 ·obtain⟨v,o,ho,hd⟩:=I.cell x c e
  exact free c o (fun z=>(hch c z).2.2.1 x c e rfl) ho (I.freeC x c e)
 ·obtain⟨e,n,ne,nf,d⟩:=I.pin p hp
  have nch:p.1∉ch:=fun z=>(hch p.1 z).2.2.2 p hp rfl
  exact⟨keep p.1 p.2 ne nf nch e n,free p.1 p.2 nch e n,ne,nf,d⟩
theorem Inv.un {t':Nat}(I:Inv X pins σ H s)(u:Un X.fs [] H H' s.heap h')(hok:HOk X.prog X.w H' h'):Inv X pins σ H' { s with heap:=h',toks:=t'} :=by
 obtain⟨m,⟨o,es,ep,ho,r⟩,_⟩:=id I.loc
 obtain⟨sl,hL⟩:=u.any ho I.free (by simp)
 exact I.step (g':=s.gens) (d':=s.drawn) (ch:=[]) (fun _ z=>nomatch z) (fun b o _ hb _ e n=>u.keep b o e n hb (by simp)) (fun b o _ hb _ e n=>u.slot b o e n hb (by simp)) (fun b o _ e n=>u.free b o e n (by simp)) (fun b o _ e=>u.there b o e (by simp)) u.tups u.frzs u.tbls (fun m' hm=>by
  obtain⟨o',es',ep',ho',r'⟩:=hm
  rw[ho] at ho'; cases ho'
  exact⟨_,es',ep',hL,r'⟩) hok I.bare
theorem Inv.call {g':Array GenState}{t':Nat}{d':Drawn}{ch:List Addr}(I:Inv X pins σ H s)(u:Un (frs X.stack) ch H H' s.heap h')(hok:HOk X.prog X.w H' h')(hg:AllBare g')
  (hch:∀ b∈ch,(b∈X.ex\/X.s₀.heap.objs.size<=b)/\b≠X.env.locals/\(∀ x c,X.env.cells.lookup x=some c->c≠b)/\∀ p∈X.pn++pins,p.1≠b):
  Inv X pins σ H' { s with heap:=h',gens:=g',drawn:=d',toks:=t'} :=by
 obtain⟨m,⟨o,es,ep,ho,r⟩,_⟩:=id I.loc
 obtain⟨sl,hL⟩:=u.any ho I.free fun z=>(hch _ z).2.1 rfl
 exact I.step (ch:=ch) hch (fun b o hL hb hc e n=>u.keep b o e n (fun z=>(aq.mp (I.stkSub b z)).elim hL hb) hc) (fun b o _ _ hc e n=>u.any e n hc) (fun b o hc e n=>u.free b o e n hc) (fun b o hc e=>u.there b o e hc) u.tups u.frzs u.tbls (fun m' hm=>by
  obtain⟨o',es',ep',ho',r'⟩:=hm
  rw[ho] at ho'; cases ho'
  exact⟨_,es',ep',hL,r'⟩) hok hg
theorem Inv.turned {t':Nat}{it:Addr}(I:Inv X pins σ H s)(k:∀ b o,b≠it->s.heap.get? b=some o->h'.get? b=some o)(hn:H it=none)(hL:it≠X.env.locals)
  (h1:it∈X.ex\/X.s₀.heap.objs.size<=it) (h2:∀ x c,X.env.cells.lookup x=some c->c≠it) (h3:∀ p∈X.pn++pins,p.1≠it):Inv X pins σ H { s with heap:=h',toks:=t'} :=by
 have nit:∀ b u,H b=some u->b≠it:=fun b u e z=>by rw[z,hn] at e; cases e
 refine I.step (g':=s.gens) (d':=s.drawn) (ch:=[it]) (fun b hb=>?_) (fun b o _ _ hc e _=>k b o (fun z=>hc (by simp [z])) e) (fun b o _ _ hc e _=>⟨o.slots,k b o (fun z=>hc (by simp [z])) e⟩) (fun _ _ _ _ n=>n)
  (fun b o hc e=>⟨o,k b o (fun z=>hc (by simp [z])) e⟩) (fun _ _ e=>e) (fun _ _ _ e=>e) (fun b ps e=>⟨#[],by rw[e]; simp⟩) (fun m hm=>?_) (fun b u e=>?_) I.bare
 ·have e:b=it:=by simpa using hb
  subst e
  exact⟨h1,hL,h2,h3⟩
 ·obtain⟨o,es,ep,ho,r⟩:=hm
  exact⟨o,es,ep,k _ o (bN hL) ho,r⟩
 ·refine(I.hok b u e).stay (fun c v hc q=>k c v ?_ q) (fun _ q=>q) fun _ _ q=>q
  rcases hc with z | z
  ·rw[z]; exact nit b u e
  ·exact nit c _ z
theorem Inv.tok (I:Inv X pins σ H s)(t:Nat):Inv X pins σ H { s with toks:=t} :=I.un (h':=s.heap) (t':=t) Un.refl I.hok
theorem Inv.kept {t':Nat}(I:Inv X pins σ H s)(k:∀ b u,s.heap.get? b=some u->h'.get? b=some u):Inv X pins σ H { s with heap:=h',toks:=t'} :=I.un (Un.kept k) (I.hok.kept k)
theorem Inv.laid {a:Addr}{o:HO}{t':Nat}(I:Inv X pins σ H s)(k:∀ b u,s.heap.get? b=some u->h'.get? b=some u)(hp:s.heap.objs.size<=a)(new:ObjOk X.prog X.w (upd H a o) h' a o):
  Inv X pins σ (upd H a o) { s with heap:=h',toks:=t'} :=I.un (Un.laid k hp (I.hok.fresh hp)) (I.hok.laid k hp new)
theorem Inv.write {x e:Addr}{o:HO}{t':Nat}(I:Inv X pins σ H s)(mu:Mut (H x))(he:e=x\/H e=some (.own x))(k:∀ b u,b≠e->s.heap.get? b=some u->h'.get? b=some u)(heo:∃ u,h'.get? e=some u)
  (new:ObjOk X.prog X.w (upd H x o) h' x o):Inv X pins σ (upd H x o) { s with heap:=h',toks:=t'} :=I.un (Un.write mu he k heo) (I.hok.write mu he k heo new)
theorem Inv.pins_of {pins':List (Addr×Obj)}(I:Inv X pins σ H s)(h:∀ p∈pins',s.heap.get? p.1=some p.2/\H p.1=none/\p.1≠X.env.locals/\p.1∉X.fs/\∀ v,p.2.data≠ .cell v):Inv X pins' σ H s:=
 ⟨I.ok,I.os,I.bare,I.base,I.loc,I.cell,I.free,I.freeC,fun p hp=>(bS.mp hp).elim (fun z=>I.pin p (gf _ z)) (h p),I.hok,I.len⟩
theorem jG8 {N:List Str}(hN:N.Nodup){i j:Nat}{x:Str}(a:N[i]?=some x)(b:N[j]?=some x):i=j:=by
 obtain⟨h1,e1⟩:=ar.mp a
 obtain⟨h2,e2⟩:=ar.mp b
 exact(List.getElem_inj hN).mp (e1.trans e2.symm)
theorem jHS {M:Model}{A:Around}{E:Value->Shared->Prop}{i:Nat}{x:Str}{v:V}{u:Value}{Q:Unit->Shared->Prop}(I:Inv X pins σ H s)(hN:X.N.Nodup)(hi:X.N[i]?=some x)(hx:Loc X.env.scope x)(r:RelV v u)
  (h:∀ s',Inv X pins (σ.set i (some v)) H s'->(∃ a,Heap.SameBut a s.heap s'.heap/\(a=X.env.locals\/X.env.cells.lookup x=some a))->Q () s') (hf:X.fn x=true\/X.env.scope.names.lookup x=some .local:=by first | exact .inl rfl | exact .inr rfl | assumption):wpAny M A (storeName X.env x u) Q E s:=by
 obtain⟨m,hn,hl⟩:=id I.loc
 have hcls:(X.env.scope.kind== .class || (X.env.scope.kind== .module&&X.env.locals != X.env.globals))=false:=by rw[I.ok.kind]; rfl
 have hiσ:i<σ.length:=by rw[I.len]; exact(ar.mp hi).1
 have cne:=I.cne
 have tracked:∀ {a:Addr}{h':Heap},(∃ o,s.heap.get? a=some o/\H a=none)->Heap.SameBut a s.heap h'->HOk X.prog X.w H h':=fun {a h'} ha hs b ob e=>by
  obtain⟨_,_,hfree⟩:=ha
  refine(I.hok b ob e).stay (fun c w' hc q=>(hs.2 c ?_).trans q) (fun _ q=>q) fun _ _ q=>q
  rintro rfl
  rcases hc with rfl | hc
  ·rw[hfree] at e; cases e
  ·rw[hfree] at hc; cases hc
 rcases hx with hk | hk
 ·refine wpAny_storeName_local hk hn (fun h' hn' hs=>?_) hcls
  obtain⟨oL,_,_,hoL,_⟩:=id hn
  refine h _ ⟨I.ok,I.os,I.bare,⟨fun b o e n hb hx=>?_,fun b o e n hb hx=>?_,I.base.free,fun b o e hx=>?_,I.base.tups,I.base.frzs,I.base.tbls⟩,⟨_,hn',fun j y v' e1 e2 e3=>?_⟩,fun y c e=>?_,I.free,I.freeC,fun p hp=>?_,tracked ⟨oL,hoL,I.free⟩ hs,by simpa using I.len⟩ ⟨_,hs, .inl rfl⟩
  ·exact(hs.2 b (ao (av (ak e) I.ok.above))).trans (I.base.keep b o e n hb hx)
  ·obtain⟨sl,e1⟩:=I.base.slot b o e n hb hx
   exact⟨sl,(hs.2 b (ao (av (ak e) I.ok.above))).trans e1⟩
  ·obtain⟨o',e1⟩:=I.base.there b o e hx
   exact⟨o',(hs.2 b (ao (av (ak e) I.ok.above))).trans e1⟩
  ·by_cases hj:j=i
   ·subst hj
    rw[hi] at e1; cases e1
    rw[cW hiσ] at e2
    cases e2
    exact⟨u,r, .inl ⟨hk,by simp⟩⟩
   ·rw[dy (bN hj)] at e2
    obtain⟨u',r',q⟩:=hl j y v' e1 e2 e3
    refine⟨u',r',?_⟩
    rcases q with ⟨k,e⟩ | ⟨k,c,e,z⟩
    ·refine .inl ⟨k,?_⟩
     have:y≠x:=fun e=>hj (jG8 hN e1 (e ▸ hi))
     simp [this,e]
    ·exact .inr ⟨k,c,e,z.sameBut hs (cne y c e)⟩
  ·obtain⟨w',z⟩:=I.cell y c e
   exact⟨w',z.sameBut hs (cne y c e)⟩
  ·obtain⟨e,n,ne,nf,d⟩:=I.pin p hp
   exact⟨(hs.2 p.1 ne).trans e,n,ne,nf,d⟩
 ·have hfn:X.fn x=true:=by
   rcases hf with z | z
   ·exact z
   ·rw[z] at hk; cases hk
  obtain⟨c,hc⟩:=I.ok.has x (.inl hk)
  obtain⟨w',z⟩:=I.cell x c hc
  refine wpAny_storeName_cell I.ok.kind hk hc z (fun h' hc' hs=>?_)
  obtain⟨oc,hoc,hocd⟩:=id z
  refine h { s with heap:=h'} ⟨I.ok,I.os,I.bare,⟨fun b o e n hb hx=>?_,fun b o e n hb hx=>?_,I.base.free,fun b o e hx=>?_,I.base.tups,I.base.frzs,I.base.tbls⟩,⟨m,hn.sameBut hs (bN (cne x c hc)),fun j y v' e1 e2 e3=>?_⟩,fun y c' e=>?_,I.free,I.freeC,fun p hp=>?_,tracked ⟨oc,hoc,I.freeC x c hc⟩ hs,by simpa using I.len⟩ ⟨c,hs, .inr hc⟩
  ·exact(hs.2 b (ao (av (ak e) (I.ok.cab x c hfn hc)))).trans (I.base.keep b o e n hb hx)
  ·obtain⟨sl,e1⟩:=I.base.slot b o e n hb hx
   exact⟨sl,(hs.2 b (ao (av (ak e) (I.ok.cab x c hfn hc)))).trans e1⟩
  ·obtain⟨o',e1⟩:=I.base.there b o e hx
   exact⟨o',(hs.2 b (ao (av (ak e) (I.ok.cab x c hfn hc)))).trans e1⟩
  ·by_cases hj:j=i
   ·subst hj
    rw[hi] at e1; cases e1
    rw[cW hiσ] at e2
    cases e2
    exact⟨u,r, .inr ⟨.inl hk,c,hc,hc'⟩⟩
   ·rw[dy (bN hj)] at e2
    obtain⟨u',r',q⟩:=hl j y v' e1 e2 e3
    refine⟨u',r',?_⟩
    rcases q with q | ⟨k,c',e,z'⟩
    ·exact .inl q
    ·refine .inr ⟨k,c',e,z'.sameBut hs ?_⟩
     rintro rfl
     exact hj (jG8 hN e1 (I.ok.inj _ _ _ e hc ▸ hi))
  ·by_cases hcc:c'=c
   ·subst hcc; exact⟨_,hc'⟩
   ·obtain⟨w2,z2⟩:=I.cell y c' e
    exact⟨w2,z2.sameBut hs hcc⟩
  ·obtain⟨e,n,ne,nf,d⟩:=I.pin p hp
   refine⟨(hs.2 p.1 ?_).trans e,n,ne,nf,d⟩
   intro q
   rw[q,hoc] at e
   have q':oc=p.2:=aK e
   exact d w' (by rw[<- q']; exact hocd)
theorem jB9 {M:Model}{A:Around}{E:Value->Shared->Prop}{i:Nat}{x:Str}{v:V}{u:Value}{Q:Unit->Shared->Prop}(I:Inv X pins σ H s)(hN:X.N.Nodup)(hi:X.N[i]?=some x)(hx:Loc X.env.scope x)(r:RelV v u)
  (h:∀ s',Inv X pins (σ.set i (some v)) H s'->Q () s') (hf:X.fn x=true\/X.env.scope.names.lookup x=some .local:=by first | exact .inl rfl | exact .inr rfl | assumption):wpAny M A (storeName X.env x u) Q E s:=
 jHS I hN hi hx r (fun s' I' _=>h s' I') hf
theorem Inv.call' {s':Shared}{ch:List Addr}(I:Inv X pins σ H s)(ho:s'.os=s.os)(u:Un (frs X.stack) ch H H' s.heap s'.heap)(hok:HOk X.prog X.w H' s'.heap)(hg:AllBare s'.gens)
  (hch:∀ b∈ch,(b∈X.ex\/X.s₀.heap.objs.size<=b)/\b≠X.env.locals/\(∀ x c,X.env.cells.lookup x=some c->c≠b)/\∀ p∈X.pn++pins,p.1≠b):Inv X pins σ H' s':=by
 obtain⟨h',g',d',t',o'⟩:=s'
 have e:o'=s.os:=ho
 subst e
 exact I.call (g':=g') (t':=t') (d':=d') u hok hg hch
end
abbrev XK:=Value->Option Addr->Hp->Prop
abbrev St:=List (Option V)
abbrev VK:=V->Hp->Prop
abbrev TE:=St->Hp->VK->Prop
abbrev TT:=St->Hp->(Bool->Hp->Prop)->Prop
abbrev TA:=St->Hp->(List V->Hp->Prop)->Prop
structure Ends where
 nx:St->Hp->Prop
 rt:VK
 bk:St->Hp->Prop:=fun _ _=>False
 ct:St->Hp->Prop:=fun _ _=>False
abbrev TS:=Ends->St->Hp->Prop
def EP (X:Cx)(pins:List (Addr×Obj))(σ:St)(Q:VK)(u:Value)(s':Shared):Prop:=∃ v H',Inv X pins σ H' s'/\RelV v u/\Q v H'
def TP (X:Cx)(pins:List (Addr×Obj))(σ:St)(Q:Bool->Hp->Prop)(b:Bool)(s':Shared):Prop:=∃ H',Inv X pins σ H' s'/\Q b H'
def AP (X:Cx)(pins:List (Addr×Obj))(σ:St)(Q:List V->Hp->Prop)(us:List Value)(s':Shared):Prop:=∃ vs H',Inv X pins σ H' s'/\Vals vs us/\Q vs H'
def SP (X:Cx)(pins:List (Addr×Obj))(D:Ends)(f:Flow)(s':Shared):Prop:=
 match f with
 | .next=>∃ σ' H',Inv X pins σ' H' s'/\D.nx σ' H'
 | .brk=>∃ σ' H',Inv X pins σ' H' s'/\D.bk σ' H'
 | .cont=>∃ σ' H',Inv X pins σ' H' s'/\D.ct σ' H'
 | .ret u=>∃ v σ' H',Inv X pins σ' H' s'/\RelV v u/\D.rt v H'
def PE (X:Cx)(e:Expr)(t:TE):Prop:=
 ∀ (pins:List (Addr×Obj)) (s:Shared) (σ:St) (H:Hp) (Q:VK),Inv X pins σ H s->t σ H Q->wpAny (model X.prog X.w) X.A (eval e X.env) (EP X pins σ Q) X.xe s
def PT (X:Cx)(e:Expr)(t:TT):Prop:=
 ∀ (pins:List (Addr×Obj)) (s:Shared) (σ:St) (H:Hp) (Q:Bool->Hp->Prop),Inv X pins σ H s->t σ H Q->wpAny (model X.prog X.w) X.A (isTrue e X.env (eval e X.env)) (TP X pins σ Q) X.xe s
def PW (X:Cx)(e:Expr)(t:TT):Prop:=
 ∀ (whole:Sem Value) (pins:List (Addr×Obj)) (s:Shared) (σ:St) (H:Hp) (Q:Bool->Hp->Prop),Inv X pins σ H s->t σ H Q->wpAny (model X.prog X.w) X.A (isTrue e X.env whole) (TP X pins σ Q) X.xe s
theorem PW.pt {X:Cx}{e:Expr}{t:TT}(h:PW X e t):PT X e t:=h _
def PA (X:Cx)(es:List Expr)(t:TA):Prop:=
 ∀ (pos:Pos) (pins:List (Addr×Obj)) (s:Shared) (σ:St) (H:Hp) (Q:List V->Hp->Prop),Inv X pins σ H s->t σ H Q->wpAny (model X.prog X.w) X.A (spliced (backTo pos (starEach es X.env))) (AP X pins σ Q) X.xe s
def PS (X:Cx)(st:Stmt)(t:TS):Prop:=
 ∀ (pins:List (Addr×Obj)) (s:Shared) (σ:St) (H:Hp) (D:Ends),Inv X pins σ H s->t D σ H->wpAny (model X.prog X.w) X.A (exec st X.env) (SP X pins D) X.xe s
def PSs (X:Cx)(st:List Stmt)(t:TS):Prop:=
 ∀ (pins:List (Addr×Obj)) (s:Shared) (σ:St) (H:Hp) (D:Ends),Inv X pins σ H s->t D σ H->wpAny (model X.prog X.w) X.A (execs st X.env) (SP X pins D) X.xe s
theorem thn {α:Type}{t:Sem α}{Q Q':α->Shared->Prop}{M:Model}{A:Around}{E:Value->Shared->Prop}{s:Shared}(h:wpAny M A t Q E s)(hQ:∀ a s,Q a s->Q' a s):wpAny M A t Q' E s:=bf h hQ fun _ _ x=>x
end L2
namespace L2
open PySem PySem.Spec PyProof.Rows
section
variable {X:Cx}
def tVar (i:Nat):TE:=fun σ H Q=>∃ v,σ[i]?=some (some v)/\Q v H
def tC (v:V):TE:=fun _ H Q=>Q v H
theorem jG4 {i:Nat}{x:Str}{pos:Pos}(hN:X.N[i]?=some x)(hv:Vis X.env.scope x)(hd:(x==("__debug__" :Str))=false:=by decide)(hcd:(x==("__classdict__" :Str))=false:=by decide):PE X (.Name x pos) (tVar i):=by
 intro pins s σ H Q I h
 obtain⟨v,e,h⟩:=h
 obtain⟨m,hn,hl⟩:=I.loc
 obtain⟨u,r,l⟩:=hl i x v hN e hv
 have fin:EP X pins σ Q u s:=⟨v,H,I,r,h⟩
 rcases l with ⟨hk,hm⟩ | ⟨hk,c,hc,hcell⟩
 ·exact wpAny_Name (wpAny_loadName_local I.ok.kind hk hn hm fin) hd
 ·rcases hk with hk | hk
  ·exact wpAny_Name (wpAny_loadName_cell I.ok.kind hk hc hcell fin) hd
  ·exact wpAny_Name (wpAny_loadName_free I.ok.kind hk hc hcell fin hcd) hd
theorem jK {i j pos} :PE X (.Constant (.int i) j pos) (tC (.int i)):=fun _ _ _ H _ I h=>wpAny_Constant_int ⟨.int i,H,I.tok _,⟨_,rfl⟩,h⟩
theorem pe_bl {b j pos} :PE X (.Constant (.bool b) j pos) (tC (.bl b)):=fun _ _ _ H _ I h=>Constant_bool ⟨.bl b,H,I,rfl,h⟩
theorem jNO {j pos} :PE X (.Constant .none j pos) (tC .non):=fun _ _ _ H _ I h=>Constant_none ⟨.non,H,I,rfl,h⟩
theorem jNL {x j pos} :PE X (.Constant (.str x) j pos) (tC (.str x)):=fun _ _ _ H _ I h=>Calls.Constant_str ⟨.str x,H,I.tok _,⟨_,rfl⟩,h⟩
def Gl (X:Cx)(x:Str):Prop:=X.env.kindOf x=some .globalImplicit
theorem jBS {E:Value->Shared->Prop}{pins:List (Addr×Obj)}{s:Shared}{σ:St}{H:Hp}{x:Str}{u:Value}{pos:Pos}{Q:Value->Shared->Prop}(I:Inv X pins σ H s)(hg:Gl X x)(hm:X.mg x=some u)(h:Q u s)
  (hd:(x==("__debug__" :Str))=false:=by decide):wpAny (model X.prog X.w) X.A (eval (.Name x pos) X.env) Q E s:=
 dY I.ok.kind hg (Calls.loadGlobal_global (by rw[I.ok.glob]; exact I.mod.glob.keeps I.bk) hm h) hd
theorem jCR {E:Value->Shared->Prop}{pins:List (Addr×Obj)}{s:Shared}{σ:St}{H:Hp}{x:Str}{u:Value}{pos:Pos}{Q:Value->Shared->Prop}(I:Inv X pins σ H s)(hg:Gl X x)(hm:X.mg x=none)(hv:bootBuiltins x=some u)(h:Q u s)
  (hn:x≠ "__name__" :=by decide) (hd:(x==("__debug__" :Str))=false:=by decide):wpAny (model X.prog X.w) X.A (eval (.Name x pos) X.env) Q E s:=by
 obtain⟨mb,h1,h2⟩:=I.mod.blt
 exact dY I.ok.kind hg (Calls.loadGlobal_builtin (by rw[I.ok.glob]; exact I.mod.glob.keeps I.bk) hm (by rw[I.ok.blt]; exact h1.keeps I.bk) ((h2 x hn).trans hv) h) hd
theorem jM6 {x:Str}{v:V}{u:Value}{pos:Pos}(hg:Gl X x)(hm:X.mg x=some u)(r:RelV v u)(hd:(x==("__debug__" :Str))=false:=by decide):PE X (.Name x pos) (tC v):=
 fun _ _ _ H _ I h=>jBS I hg hm ⟨v,H,I,r,h⟩ hd
theorem jMD {x:Str}{v:V}{u:Value}{pos:Pos}(hg:Gl X x)(hm:X.mg x=none)(hv:bootBuiltins x=some u)(r:RelV v u)(hn:x≠ "__name__" :=by decide)(hd:(x==("__debug__" :Str))=false:=by decide):PE X (.Name x pos) (tC v):=
 fun _ _ _ H _ I h=>jCR I hg hm hv ⟨v,H,I,r,h⟩ hn hd
variable {a b:Expr}{ta tb:TE}{pos:Pos}
def PC (X:Cx)(op:CmpOp)(a b:Expr)(t:TE):Prop:=
 ∀ (pins:List (Addr×Obj)) (s:Shared) (σ:St) (H:Hp) (Q:VK),Inv X pins σ H s->t σ H Q->
  wpAny (model X.prog X.w) X.A (eval a X.env) (fun v s₁=>wpAny (model X.prog X.w) X.A (eval b X.env) (fun u s₂=>wpAny (model X.prog X.w) X.A (compareOp op v u) (EP X pins σ Q) X.xe s₂) X.xe s₁) X.xe s
def tB (t:TE):TT:=fun σ H Q=>t σ H fun x H1=>∃ c,x= .bl c/\Q c H1
theorem jNE {op:CmpOp}{t:TE}(h:PC X op a b t)(h1:behindInMarks op b=false:=by first | exact nobehind _ (by decide) (by decide) | rfl):PT X (.Compare a [op] [b] pos) (tB t):=by
 intro pins s σ H Q I hw
 refine wpAny_isTrue_Compare1 (thn (h pins s σ H _ I hw) fun v s1 h1=>thn h1 fun u s2 h2=>thn h2 fun c s3 ⟨x,H1,I1,r1,q1⟩=>?_) h1
 obtain⟨d,rfl,q⟩:=q1
 cases r1
 exact cF ⟨H1,I1,q⟩
theorem jNC {e:Expr}{t:TE}(h:PE X e t)(he:∀ whole,isTrue e X.env whole=(do let v <- whole; standAt e.pos; holding [v] (truthy v)):=by intro _; rfl):PT X e (tB t):=by
 intro pins s σ H Q I hw
 refine isTrue_plain (thn (h pins s σ H _ I hw) fun v s1 ⟨x,H1,I1,r1,q1⟩=>?_) (he _)
 obtain⟨d,rfl,q⟩:=q1
 cases r1
 exact cF ⟨H1,I1,q⟩
variable {tA tB':TT}{rest:List Expr}
def tAnd (t u:TT):TT:=fun σ H Q=>t σ H fun c H1=>if c=true then u σ H1 Q else Q false H1
def tOr (t u:TT):TT:=fun σ H Q=>t σ H fun c H1=>if c=true then Q true H1 else u σ H1 Q
def tNot (t:TT):TT:=fun σ H Q=>t σ H fun c H1=>Q (!c) H1
theorem jLW (ha:PT X a tA):PW X (.BoolOp .And [a] pos) tA:=by
 intro wh pins s σ H Q I h
 refine isTrue_and (thn (ha pins s σ H Q I h) fun c s1 e=>?_)
 cases c with
 | true=>exact isTrue_and_nil e
 | false=>exact e
theorem jNA (ha:PT X a tA):PW X (.BoolOp .Or [a] pos) tA:=by
 intro wh pins s σ H Q I h
 refine isTrue_or (thn (ha pins s σ H Q I h) fun c s1 e=>?_)
 cases c with
 | false=>exact isTrue_or_nil e
 | true=>exact e
theorem jNB (ha:PT X a tA)(hb:PW X (.BoolOp .And (b::rest) pos) tB'):PW X (.BoolOp .And (a::b::rest) pos) (tAnd tA tB'):=by
 intro wh pins s σ H Q I h
 refine isTrue_and (thn (ha pins s σ H _ I h) fun c s1 ⟨H1,I1,q1⟩=>?_)
 cases c with
 | true=>exact hb wh pins s1 σ H1 Q I1 q1
 | false=>exact⟨H1,I1,q1⟩
theorem pw_or (ha:PT X a tA)(hb:PW X (.BoolOp .Or (b::rest) pos) tB'):PW X (.BoolOp .Or (a::b::rest) pos) (tOr tA tB'):=by
 intro wh pins s σ H Q I h
 refine isTrue_or (thn (ha pins s σ H _ I h) fun c s1 ⟨H1,I1,q1⟩=>?_)
 cases c with
 | true=>exact⟨H1,I1,q1⟩
 | false=>exact hb wh pins s1 σ H1 Q I1 q1
theorem jND (ha:PT X a tA):PT X (.UnaryOp .Not a pos) (tNot tA):=by
 intro pins s σ H Q I h
 exact isTrue_not (ha pins s σ H (fun c H1=>Q (!c) H1) I h)
def tAndV (ta tb:TE):TE:=fun σ H Q=>ta σ H fun x H1=>∃ c,x= .bl c/\if c=true then tb σ H1 Q else Q (.bl false) H1
def tNotV (ta:TE):TE:=fun σ H Q=>ta σ H fun x H1=>∃ c,x= .bl c/\Q (.bl (!c)) H1
theorem jNM {op}{t:TE}(h:PE X a t):PE X (.BoolOp op [a] pos) t:=fun pins s σ H Q I hw=>BoolOp_one (h pins s σ H Q I hw)
theorem jNR (ha:PE X a ta)(hb:PE X (.BoolOp .And (b::rest) pos) tb):PE X (.BoolOp .And (a::b::rest) pos) (tAndV ta tb):=by
 intro pins s σ H Q I h
 refine BoolOp_and (thn (ha pins s σ H _ I h) fun v s1 ⟨x,H1,I1,r1,q1⟩=>?_)
 obtain⟨c,rfl,q1⟩:=q1
 cases r1
 refine cF ?_
 cases c with
 | true=>exact hb pins s1 σ H1 Q I1 q1
 | false=>exact⟨.bl false,H1,I1,rfl,q1⟩
theorem jNN (ha:PE X a ta):PE X (.UnaryOp .Not a pos) (tNotV ta):=by
 intro pins s σ H Q I h
 refine UnaryOp_ (thn (ha pins s σ H _ I h) fun v s1 ⟨x,H1,I1,r1,q1⟩=>?_)
 obtain⟨c,rfl,q1⟩:=q1
 cases r1
 exact not_of (cF ⟨.bl (!c),H1,I1,rfl,q1⟩)
def tIf (t:TT)(ta tb:TE):TE:=fun σ H Q=>t σ H fun c H1=>if c=true then ta σ H1 Q else tb σ H1 Q
theorem jKE {c:Expr}(hc:PT X c tA)(ha:PE X a ta)(hb:PE X b tb):PE X (.IfExp c a b pos) (tIf tA ta tb):=by
 intro pins s σ H Q I h
 refine wpAny_IfExp (thn (hc pins s σ H _ I h) fun d s1 ⟨H1,I1,q1⟩=>?_)
 cases d with
 | true=>exact ha pins s1 σ H1 Q I1 q1
 | false=>exact hb pins s1 σ H1 Q I1 q1
end
end L2
namespace L2
open PySem PySem.Spec PyProof.Rows
def SqL (K:W.Frag)(H:Hp)(a:Addr)(xs:List V):Prop:=
 Rd H a (.lst xs)\/
  ∃ (o:Obj) (its:Array Value) (n:Nat),K.lookup a=some o/\o.cls= .type "list" /\o.dict=none/\o.data= .seq its n/\its.size<=sizeLine/\Vals xs its.toList
def SqT (K:W.Frag)(H:Hp)(a:Addr)(xs:List V):Prop:=
 Rd H a (.tup xs)\/
  ∃ (o:Obj) (its:Array Value) (n:Nat),K.lookup a=some o/\o.cls= .type "tuple" /\o.data= .seq its n/\its.size<=sizeLine/\Vals xs its.toList
def absV:Value->Option V
 | .none=>some .non
 | .bool b=>some (.bl b)
 | .int i _=>some (.int i)
 | .str x _=>some (.str x)
 | .bytes b _=>some (.byt b)
 | .float b _=>some (.flt b)
 | .ref a=>some (.ref a)
 | .type n=>some (.ty n)
 | _=>none
theorem RelV.abs {x:V}{u:Value}(r:RelV x u):absV u=some x:=by
 cases x with
 | non=>cases r; rfl
 | bl _=>cases r; rfl
 | int _=>obtain⟨t,rfl⟩:=r; rfl
 | str _=>obtain⟨t,rfl⟩:=r; rfl
 | byt _=>obtain⟨t,rfl⟩:=r; rfl
 | flt _=>obtain⟨t,rfl⟩:=r; rfl
 | ref _=>cases r; rfl
 | ty _=>cases r; rfl
theorem RelV.inj {x y:V}{u:Value}(r:RelV x u)(q:RelV y u):x=y:=aK (r.abs.symm.trans q.abs)
theorem Vals.inj:∀ {xs ys:List V}{us:List Value},Vals xs us->Vals ys us->xs=ys
 | _,_,_, .nil, .nil=>rfl
 | _,_,_, .cons r t, .cons r' t'=>by rw[r.inj r',Vals.inj t t']
section
variable {X:Cx}{pins:List (Addr×Obj)}{σ:St}{H:Hp}{s:Shared}{a:Addr}{xs ys:List V}
theorem SqL.of {K:W.Frag}(h:H a=some (.lst xs)):SqL K H a xs:= .inl (.inl h)
theorem SqT.of {K:W.Frag}(h:H a=some (.tup xs)):SqT K H a xs:= .inl (.inl h)
theorem Inv.list (I:Inv X pins σ H s)(h:SqL X.K H a xs):∃ its:List Value,Vals xs its/\PlainL s.heap a its.toArray/\xs.length<=sizeLine:=by
 rcases h with h | ⟨o,its,n,hk,hc,hd,hs,hz,r⟩
 ·obtain⟨z,its,n,r,e⟩:=h.ok I.hok
  exact⟨its,r,⟨_,n,e,rfl,rfl,rfl⟩,z⟩
 ·refine⟨its.toList,r,⟨o,n,I.kIn a o hk,hc,hd,by simpa using hs⟩,?_⟩
  have e:=r.length
  simp only [aU] at e
  omega
theorem Inv.tuple (I:Inv X pins σ H s)(h:SqT X.K H a xs):∃ its:List Value,Vals xs its/\IsTup s.heap a its.toArray/\xs.length<=sizeLine:=by
 rcases h with h | ⟨o,its,n,hk,hc,hs,hz,r⟩
 ·obtain⟨z,its,r,p⟩:=h.ok I.hok
  exact⟨its,r,p.isTup,z⟩
 ·refine⟨its.toList,r,⟨o,I.kIn a o hk,hc,n,by simpa using hs⟩,?_⟩
  have e:=r.length
  simp only [aU] at e
  omega
theorem Inv.list_inj (I:Inv X pins σ H s)(h:SqL X.K H a xs)(h':SqL X.K H a ys):xs=ys:=by
 obtain⟨its,r,⟨o,n,e,_,_,d⟩,_⟩:=I.list h
 obtain⟨its',r',⟨o',n',e',_,_,d'⟩,_⟩:=I.list h'
 rw[e] at e'; cases e'
 rw[d] at d'
 injection d' with d1 _
 have:its=its':=by simpa using bF Array.toList d1
 subst this
 exact r.inj r'
theorem Inv.tuple_inj (I:Inv X pins σ H s)(h:SqT X.K H a xs)(h':SqT X.K H a ys):xs=ys:=by
 obtain⟨its,r,⟨o,e,_,n,d⟩,_⟩:=I.tuple h
 obtain⟨its',r',⟨o',e',_,n',d'⟩,_⟩:=I.tuple h'
 rw[e] at e'; cases e'
 rw[d] at d'
 injection d' with d1 _
 have:its=its':=by simpa using bF Array.toList d1
 subst this
 exact r.inj r'
end
abbrev Cx.wish (X:Cx)(E:Value->Shared->Prop):Cx:= { X with xe:=E}
abbrev Cx.nox (X:Cx):Cx:=X.wish fun _ _=>False
theorem Cx.Ok.wish {X:Cx}(ok:X.Ok)(E:Value->Shared->Prop):(X.wish E).Ok:=
 ⟨ok.mod,ok.kind,ok.glob,ok.blt,ok.above,ok.inj,ok.has,ok.cab,ok.hd,ok.frames,ok.stk,ok.exf,ok.bs,ok.bsz,ok.noex,ok.exfs,ok.funs,ok.frf⟩
theorem Cx.Ok.unwish {X:Cx}{E:Value->Shared->Prop}(ok:(X.wish E).Ok):X.Ok:=
 ⟨ok.mod,ok.kind,ok.glob,ok.blt,ok.above,ok.inj,ok.has,ok.cab,ok.hd,ok.frames,ok.stk,ok.exf,ok.bs,ok.bsz,ok.noex,ok.exfs,ok.funs,ok.frf⟩
section
variable {X:Cx}{pins:List (Addr×Obj)}{σ:St}{H:Hp}{s:Shared}{E:Value->Shared->Prop}
theorem Inv.wish (I:Inv X pins σ H s)(E:Value->Shared->Prop):Inv (X.wish E) pins σ H s:=⟨I.ok.wish E,I.os,I.bare,I.base,I.loc,I.cell,I.free,I.freeC,I.pin,I.hok,I.len⟩
theorem Inv.unwish (I:Inv (X.wish E) pins σ H s):Inv X pins σ H s:=⟨I.ok.unwish,I.os,I.bare,I.base,I.loc,I.cell,I.free,I.freeC,I.pin,I.hok,I.len⟩
theorem SP.unwish {D:Ends}{f:Flow}{s':Shared}(h:SP (X.wish E) pins D f s'):SP X pins D f s':=by
 cases f with
 | next=>obtain⟨σ',H',I,q⟩:=h; exact⟨σ',H',I.unwish,q⟩
 | brk=>obtain⟨σ',H',I,q⟩:=h; exact⟨σ',H',I.unwish,q⟩
 | cont=>obtain⟨σ',H',I,q⟩:=h; exact⟨σ',H',I.unwish,q⟩
 | ret u=>obtain⟨v,σ',H',I,r,q⟩:=h; exact⟨v,σ',H',I.unwish,r,q⟩
theorem PT.nox {e:Expr}{t:TT}(h:PT X.nox e t):PT X e t:=fun pins s σ H Q I hw=>
 bf (h pins s σ H Q (I.wish _) hw) (fun _ _ ⟨H',I',q⟩=>⟨H',I'.unwish,q⟩) fun _ _ z=>False.elim z
theorem PSs.nox {st:List Stmt}{t:TS}(h:PSs X.nox st t):PSs X st t:=fun pins s σ H D I hw=>
 bf (h pins s σ H D (I.wish _) hw) (fun _ _ q=>q.unwish) fun _ _ z=>False.elim z
end
section
variable {X:Cx}{st:Stmt}{rest:List Stmt}{t u:TS}{e:Expr}{te:TE}{pos:Pos}
def tNext:TS:=fun D σ H=>D.nx σ H
def tSeq (t u:TS):TS:=fun D σ H=>t { D with nx:=u D} σ H
theorem jDI:PSs X [] tNext:=fun _ _ σ H _ I h=>cP ⟨σ,H,I,h⟩
theorem kJ (h1:PS X st t)(h2:PSs X rest u):PSs X (st::rest) (tSeq t u):=by
 intro pins s σ H D I h
 refine fk (thn (h1 pins s σ H { D with nx:=u D} I h) fun f s1 q=>?_)
 cases f with
 | next=>
  obtain⟨σ',H',I',q⟩:=q
  exact h2 pins s1 σ' H' D I' q
 | ret v=>exact q
 | brk=>exact q
 | cont=>exact q
theorem jAM (h1:PS X st t):PSs X [st] t:=by
 intro pins s σ H D I h
 refine fk (thn (h1 pins s σ H D I h) fun f s1 q=>?_)
 cases f with
 | next=>exact cP q
 | ret v=>exact q
 | brk=>exact q
 | cont=>exact q
theorem Inv.quiet {pins:List (Addr×Obj)}{σ:St}{H:Hp}{s:Shared}(I:Inv X pins σ H s):interactive X.env=false:=by simp [interactive,I.ok.kind]
def tDrop (te:TE):TS:=fun D σ H=>te σ H fun _ H1=>D.nx σ H1
theorem jLY (he:PE X e te)(hs:swapsWith e none pos.line X.env=pure false:=by rfl):PS X (.Expr e pos) (tDrop te):=by
 intro pins s σ H D I h
 exact wpAny_Expr_any (thn (he pins s σ H _ I h) fun v s1 ⟨x,H1,I1,r1,q1⟩=>⟨σ,H1,I1,q1⟩) I.quiet hs
def tRet (te:TE):TS:=fun D σ H=>te σ H D.rt
theorem jC1 (he:PE X e te):PS X (.Return (some e) pos) (tRet te):=by
 intro pins s σ H D I h
 exact wpAny_Return_some (thn (he pins s σ H _ I h) fun v s1 ⟨x,H1,I1,r1,q1⟩=>⟨x,σ,H1,I1,r1,q1⟩)
def tIfS (c:TT)(t u:TS):TS:=fun D σ H=>c σ H fun b H1=>if b=true then t D σ H1 else u D σ H1
theorem ps_if {c:Expr}{a b:List Stmt}{tc:TT}(hc:PT X c tc)(ha:PSs X a t)(hb:PSs X b u):PS X (.If c a b pos) (tIfS tc t u):=by
 intro pins s σ H D I h
 refine wpAny_If (thn (hc pins s σ H _ I h) fun d s1 ⟨H1,I1,q1⟩=>?_)
 cases d with
 | true=>exact ha pins s1 σ H1 D I1 q1
 | false=>exact hb pins s1 σ H1 D I1 q1
end
abbrev TG:=V->St->Hp->(St->Hp->Prop)->Prop
abbrev TGs:=List V->St->Hp->(St->Hp->Prop)->Prop
def PG (X:Cx)(target:Expr)(t:TG):Prop:=
 ∀ (pins:List (Addr×Obj)) (s:Shared) (σ:St) (H:Hp) (v:V) (u:Value) (Q:St->Hp->Prop),Inv X pins σ H s->RelV v u->t v σ H Q->
  wpAny (model X.prog X.w) X.A (assign target X.env u) (fun _ s'=>∃ σ' H',Inv X pins σ' H' s'/\Q σ' H') X.xe s
def PGs (X:Cx)(ts:List Expr)(t:TGs):Prop:=
 ∀ (pins:List (Addr×Obj)) (s:Shared) (σ:St) (H:Hp) (vs:List V) (us:List Value) (Q:St->Hp->Prop),Inv X pins σ H s->Vals vs us->t vs σ H Q->
  wpAny (model X.prog X.w) X.A (assignInOrder ((assignEach ts X.env).map (·.2)) us) (fun _ s'=>∃ σ' H',Inv X pins σ' H' s'/\Q σ' H') X.xe s
abbrev TSet:=V->V->V->Hp->(Hp->Prop)->Prop
def PSet (X:Cx)(t:TSet):Prop:=
 ∀ (pins:List (Addr×Obj)) (s:Shared) (σ:St) (H:Hp) (o i v:V) (ov iv u:Value) (Q:Hp->Prop),Inv X pins σ H s->RelV o ov->RelV i iv->RelV v u->t o i v H Q->
  wpAny (model X.prog X.w) X.A (setItem ov iv u) (fun _ s'=>∃ H',Inv X pins σ H' s'/\Q H') X.xe s
section
variable {X:Cx}{pos:Pos}
def yS (i:Nat):TG:=fun v σ H Q=>Q (σ.set i (some v)) H
theorem jDK {i:Nat}{x:Str}(hN:X.N.Nodup)(hi:X.N[i]?=some x)(hx:Loc X.env.scope x)(hf:X.fn x=true\/X.env.scope.names.lookup x=some .local:=by first | exact .inl rfl | exact .inr rfl | assumption):PG X (.Name x pos) (yS i):=by
 intro pins s σ H v u Q I r h
 exact wpAny_assign_Name (jB9 I hN hi hx r (fun s' I'=>⟨_,H,I',h⟩) hf)
def gNil:TGs:=fun vs σ H Q=>vs=[]/\Q σ H
def gCons (t:TG)(u:TGs):TGs:=fun vs σ H Q=>∃ v r,vs=v::r/\t v σ H fun σ' H'=>u r σ' H' Q
theorem jM5:PGs X [] gNil:=by
 intro pins s σ H vs us Q I r h
 obtain⟨e,h⟩:=h
 subst e
 cases r
 exact assignInOrder_nil ⟨σ,H,I,h⟩
theorem jKC {e:Expr}{es:List Expr}{t:TG}{u:TGs}(h1:PG X e t)(h2:PGs X es u)
  (hs:(assignEach (e::es) X.env).map (·.2)=assign e X.env::(assignEach es X.env).map (·.2):=by rfl):PGs X (e::es) (gCons t u):=by
 intro pins s σ H vs us Q I r h
 obtain⟨v,vr,e1,h⟩:=h
 subst e1
 cases r with
 | cons r rr=>
  rw[hs]
  refine assignInOrder_cons (thn (h1 pins s σ H _ _ _ I r h) fun _ s1 ⟨σ1,H1,I1,q1⟩=>?_)
  exact h2 pins s1 σ1 H1 _ _ Q I1 rr q1
def gTup (K:W.Frag)(n:Nat)(t:TGs):TG:=fun v σ H Q=>∃ a xs,v= .ref a/\SqT K H a xs/\xs.length=n/\t xs σ H Q
theorem jNI {es:List Expr}{k:Nat}{t:TGs}{n:Nat}(hc:X.calm=true)(h:PGs X es t)
  (hn:(assignEach es X.env).length=n:=by rfl) (hst:(assignEach es X.env).findIdx? (·.1)=none:=by rfl):PG X (.Tuple es k pos) (gTup X.K n t):=by
 intro pins s σ H v u Q I r hw
 obtain⟨a,xs,e1,hq,hl,hw⟩:=hw
 subst e1
 cases r
 obtain⟨its,rv,ht,hz⟩:=I.tuple hq
 refine assign_Tuple_tuple (I.ok.hd hc) ht (by simp [hn,<- hl,rv.length]) hst fun h' hx=>?_
 have I1:Inv X pins σ H { s with heap:=h'} :=I.kept (t':=s.toks) fun b o e=>hx b o (ao (ak e)) e
 exact h pins _ σ H xs _ Q I1 (by simpa using rv) hw
def gSub (to ti:TE)(t:TSet):TG:=fun v σ H Q=>to σ H fun o H1=>ti σ H1 fun i H2=>t o i v H2 fun H3=>Q σ H3
theorem jNJ {o i:Expr}{to ti:TE}{t:TSet}(ho:PE X o to)(hi:PE X i ti)(hs:PSet X t)
  (ha:∀ v,assign (.Subscript o i pos) X.env v=(do
   let ov <- holding [v] (eval o X.env)
   let iv <- holding [v,ov] (eval i X.env)
   standAt pos
   holding [v,ov,iv] (setItem ov iv v)
   release [v,ov,iv] []):=by intro _; rfl):PG X (.Subscript o i pos) (gSub to ti t):=by
 intro pins s σ H v u Q I r h
 rw[ha]
 refine ac (aL (thn (ho pins s σ H _ I h) fun ov s1 ⟨x,H1,I1,r1,q1⟩=>?_))
 refine ac (aL (thn (hi pins s1 σ H1 _ I1 q1) fun iv s2 ⟨y,H2,I2,r2,q2⟩=>?_))
 refine ac (dv (ac (aL (thn (hs pins s2 σ H2 x y v ov iv u _ I2 r1 r2 r q2) fun _ s3 ⟨H3,I3,q3⟩=>?_))))
 exact wpAny_release ⟨σ,H3,I3,q3⟩
def tAsg (te:TE)(g:TG):TS:=fun D σ H=>te σ H fun x H1=>g x σ H1 D.nx
theorem jNG {tg e:Expr}{te:TE}{g:TG}(he:PE X e te)(hg:PG X tg g)(hs:swapsWithSole [tg] e pos.line X.env=pure false:=by rfl)(hw:swappedStores [tg] e X.env=pure none:=by rfl)
  (h1:(assignEach [tg] X.env).map (·.2)=[assign tg X.env]:=by rfl):PS X (.Assign [tg] e pos) (tAsg te g):=by
 intro pins s σ H D I h
 refine wpAny_Assign_stores (thn (he pins s σ H _ I h) fun v s1 ⟨x,H1,I1,r1,q1⟩=>?_) hs hw
 rw[h1]
 exact thn (hg pins s1 σ H1 x v _ I1 r1 q1) fun _ s2 q=>q
theorem yV {i:Nat}{x:Str}{e:Expr}{te:TE}{pos':Pos}(hN:X.N.Nodup)(hi:X.N[i]?=some x)(hx:Loc X.env.scope x)(he:PE X e te)(hs:swapsWith e (some (.Name x pos')) pos.line X.env=pure false:=by rfl)(hf:X.fn x=true\/X.env.scope.names.lookup x=some .local:=by first | exact .inl rfl | exact .inr rfl | assumption):
  PS X (.Assign [.Name x pos'] e pos) (tAsg te (yS i)):=by
 intro pins s σ H D I h
 refine wpAny_Assign_Name (thn (he pins s σ H _ I h) fun v s1 ⟨y,H1,I1,r1,q1⟩=>?_) hs
 exact jB9 I1 hN hi hx r1 (fun s2 I2=>⟨_,H1,I2,q1⟩) hf
end
section
variable {X:Cx}{pos:Pos}
end
structure It where
 go:Nat->Hp->Prop
 yld:Nat->Hp->V->Hp->Prop
 stop:Nat->Hp->Prop
def FpOk (X:Cx)(pins:List (Addr×Obj))(H:Hp)(b:Addr):Prop:=
 H b=none/\b≠X.env.locals/\b∉X.fs/\(b∈X.ex\/X.s₀.heap.objs.size<=b)/\(∀ x c,X.env.cells.lookup x=some c->c≠b)/\∀ p∈X.pn++pins,p.1≠b
theorem Inv.fpOk {X:Cx}{pins:List (Addr×Obj)}{σ:St}{H H':Hp}{s:Shared}{b:Addr}(I:Inv X pins σ H s)(hb:s.heap.objs.size<=b)(hn:H' b=none):FpOk X pins H' b:=by
 refine⟨hn,cw (av I.lt hb),I.nofs hb, .inr (bt I.sz hb),fun x c e z=>?_,fun p hp z=>?_⟩
 ·obtain⟨v,q⟩:=I.cell x c e
  exact absurd (av q.lt (by rw[z]; exact hb)) (bO _)
 ·exact absurd (av (ak (I.pin p hp).1) (by rw[z]; exact hb)) (bO _)
structure Turn (P:Program)(w:World)(K:W.Frag)(tg:Expr)(J:It)(fp:List Addr)(it:Addr)(tn:Nat->Heap->Prop):Prop where
 mem:it∈fp
 obj:∀ i h,tn i h->∀ b∈fp,∃ o,h.get? b=some o/\∀ v,o.data≠ .cell v
 keep:∀ i h h',tn i h->(∀ b∈fp,∀ o,h.get? b=some o->h'.get? b=some o)->tn i h'
 item:∀ (X:Cx),X.prog=P->X.w=w->X.K=K->X.calm=true->∀ (i:Nat) (pins:List (Addr×Obj)) (s:Shared) (σ:St) (H:Hp) (E:Value->Shared->Prop),Inv X pins σ H s->(∀ b∈fp,FpOk X pins H b)->tn i s.heap->J.go i H->
  wpAny (model P w) X.A (pyNext (.ref it)) (fun r s1=>∃ u,r=some u/\
   wpAny (model P w) X.A (letOwnedTupleGo tg (.ref it) u) (fun _ s2=>∃ x H',Inv X pins σ H' s2/\RelV x u/\J.yld i H x H'/\tn (i+1) s2.heap/\∀ b∈fp,H' b=none) E s1) E s
 done:∀ (X:Cx),X.prog=P->X.w=w->X.K=K->X.calm=true->∀ (i:Nat) (pins:List (Addr×Obj)) (s:Shared) (σ:St) (H:Hp) (E:Value->Shared->Prop),Inv X pins σ H s->(∀ b∈fp,FpOk X pins H b)->tn i s.heap->J.stop i H->
  wpAny (model P w) X.A (pyNext (.ref it)) (fun r s1=>r=none/\Inv X pins σ H s1) E s
 self:∀ (A:Around) (i:Nat) (s:Shared) (Q:Value->Shared->Prop) (E:Value->Shared->Prop),tn i s.heap->Q (.ref it) s->wpAny (model P w) A (pyIter (.ref it)) Q E s
abbrev TI:=St->Hp->(It->Hp->Prop)->Prop
def PIE (X:Cx)(pins:List (Addr×Obj))(σ:St)(tg:Expr)(R:It->Hp->Prop)(itv:Value)(s2:Shared):Prop:=
 ∃ (it:Addr) (fp:List Addr) (tn:Nat->Heap->Prop) (J:It) (H':Hp),itv= .ref it/\Inv X pins σ H' s2/\Turn X.prog X.w X.K tg J fp it tn/\tn 0 s2.heap/\(∀ b∈fp,FpOk X pins H' b)/\R J H'
def PI (X:Cx)(tg iter:Expr)(wi:TI):Prop:=
 ∀ (pins:List (Addr×Obj)) (s:Shared) (σ:St) (H:Hp) (R:It->Hp->Prop),Inv X pins σ H s->wi σ H R->
  wpAny (model X.prog X.w) X.A (eval iter X.env) (fun v s1=>wpAny (model X.prog X.w) X.A (pyIter v) (PIE X pins σ tg R) X.xe s1) X.xe s
theorem go_of {M:Model}{A:Around}{E:Value->Shared->Prop}{s:Shared}{tg:Expr}{it:Addr}{u:Value}{o:Obj}{n:String}{vs:Array Value}{Q:Unit->Shared->Prop}(ho:s.heap.get? it=some o)(hc:o.cls= .type n)(hd:o.data= .fields vs)
  (hn: ["enumerate","zip","dict_itemiterator","dict_reverseitemiterator","odict_iterator","itertools.zip_longest","itertools.pairwise"].contains n=false) (hQ:Q () s):wpAny M A (letOwnedTupleGo tg (.ref it) u) Q E s:=by
 unfold letOwnedTupleGo
 cases tg <;> first
  | exact ag hQ
  | (cases u <;> first
    | exact ag hQ
    | (refine ac (dk ho ?_)
       rw [hc, hd]
       show wpAny M A (if (["enumerate", "zip", "dict_itemiterator", "dict_reverseitemiterator", "odict_iterator", "itertools.zip_longest", "itertools.pairwise"].contains n && vs[0]? == some (rawInt _)) = true then _ else _) Q E s
       rw [az (by intro h; rw [hn, dZ] at h; cases h)]
       exact ag hQ))
def Itl (K:W.Frag)(a:Addr):It:=
 ⟨fun i H=>∃ xs x,SqL K H a xs/\xs[i]?=some x,fun i H x H'=>H'=H/\∀ xs,SqL K H a xs->xs[i]?=some x,fun i H=>∃ xs,SqL K H a xs/\xs.length<=i⟩
def Itt (K:W.Frag)(a:Addr):It:=
 ⟨fun i H=>∃ xs x,SqT K H a xs/\xs[i]?=some x,fun i H x H'=>H'=H/\∀ xs,SqT K H a xs->xs[i]?=some x,fun i H=>∃ xs,SqT K H a xs/\xs.length<=i⟩
def Itr (lo:Int)(n:Nat):It:=⟨fun i _=>i<n,fun i H x H'=>H'=H/\x= .int (lo+i),fun i _=>n<=i⟩
theorem jHK {P:Program}{w:World}{K:W.Frag}{tg:Expr}(a it:Addr):Turn P w K tg (Itl K a) [it] it (fun i h=>h.IsListIter it a i) where
 mem:=by simp
 obj:=fun i h st b hb=>by
  have e:b=it:=by simpa using hb
  subst e
  obtain⟨o,e,c,d⟩:=st
  exact⟨o,e,fun v z=>by rw[d] at z; cases z⟩
 keep:=fun i h h' st k=>st.at fun o e=>k it (by simp) o e
 item:=by
  intro X hP hw hK hc i pins s σ H E I hf st hg
  subst hP hw hK
  obtain⟨xs,x,hq,hx⟩:=hg
  obtain⟨its,rv,p,hz⟩:=I.list hq
  obtain⟨u,hu,ru⟩:=rv.get hx
  obtain⟨f0,f1,f2,f3,f4,f5⟩:=hf it (by simp)
  refine wpAny_pyNext_list_item st p.isList (x:=u) (by simpa using hu) fun h' st' sb=>?_
  have I1:Inv X pins σ H { s with heap:=h'} :=I.turned (t':=s.toks) (fun b o hb e=>(sb.2 b hb).trans e) f0 f1 f3 f4 f5
  obtain⟨o,e,c,d⟩:=id st'
  exact⟨u,rfl,go_of (s:= { s with heap:=h'}) e c d (by decide) ⟨x,H,I1,ru,⟨rfl,fun ys hy=>by rw[I.list_inj hy hq]; exact hx⟩,st',fun b hb=>(hf b hb).1⟩⟩
 done:=by
  intro X hP hw hK hc i pins s σ H E I hf st hg
  subst hP hw hK
  obtain⟨xs,hq,hx⟩:=hg
  obtain⟨its,rv,p,hz⟩:=I.list hq
  obtain⟨f0,f1,f2,f3,f4,f5⟩:=hf it (by simp)
  have hl:=rv.length
  exact wpAny_pyNext_list_end (I.ok.hd hc) st p.isList (by simp; omega) fun h' eb=>⟨rfl,I.turned (t':=s.toks) (fun b o hb e=>eb b o hb e) f0 f1 f3 f4 f5⟩
 self:=fun _ _ _ _ _ st h=>wpAny_pyIter_listiter st h
theorem jGR {P:Program}{w:World}{K:W.Frag}{tg:Expr}(a it:Addr):Turn P w K tg (Itt K a) [it] it (fun i h=>h.IsTupleIter it a i) where
 mem:=by simp
 obj:=fun i h st b hb=>by
  have e:b=it:=by simpa using hb
  subst e
  obtain⟨o,e,c,d⟩:=st
  exact⟨o,e,fun v z=>by rw[d] at z; cases z⟩
 keep:=fun i h h' st k=>st.at fun o e=>k it (by simp) o e
 item:=by
  intro X hP hw hK hc i pins s σ H E I hf st hg
  subst hP hw hK
  obtain⟨xs,x,hq,hx⟩:=hg
  obtain⟨its,rv,p,hz⟩:=I.tuple hq
  obtain⟨u,hu,ru⟩:=rv.get hx
  obtain⟨f0,f1,f2,f3,f4,f5⟩:=hf it (by simp)
  refine wpAny_pyNext_tuple_item st (show s.heap.IsTuple a its.toArray from p) (x:=u) (by simpa using hu) fun h' st' sb=>?_
  have I1:Inv X pins σ H { s with heap:=h'} :=I.turned (t':=s.toks) (fun b o hb e=>(sb.2 b hb).trans e) f0 f1 f3 f4 f5
  obtain⟨o,e,c,d⟩:=id st'
  exact⟨u,rfl,go_of (s:= { s with heap:=h'}) e c d (by decide) ⟨x,H,I1,ru,⟨rfl,fun ys hy=>by rw[I.tuple_inj hy hq]; exact hx⟩,st',fun b hb=>(hf b hb).1⟩⟩
 done:=by
  intro X hP hw hK hc i pins s σ H E I hf st hg
  subst hP hw hK
  obtain⟨xs,hq,hx⟩:=hg
  obtain⟨its,rv,p,hz⟩:=I.tuple hq
  obtain⟨f0,f1,f2,f3,f4,f5⟩:=hf it (by simp)
  have hl:=rv.length
  exact wpAny_pyNext_tuple_end (I.ok.hd hc) st (show s.heap.IsTuple a its.toArray from p) (by simp; omega) fun h' eb=>⟨rfl,I.turned (t':=s.toks) (fun b o hb e=>eb b o hb e) f0 f1 f3 f4 f5⟩
 self:=fun _ _ _ _ _ st h=>wpAny_pyIter_tupleiter st h
theorem jGS {P:Program}{w:World}{K:W.Frag}{tg:Expr}(it:Addr)(lo:Int)(n:Nat):Turn P w K tg (Itr lo n) [it] it (fun i h=>IsRangeIter h it (lo+(i:Nat)*1) ((n:Int) - (i:Nat)) 1) where
 mem:=by simp
 obj:=fun i h st b hb=>by
  have e:b=it:=by simpa using hb
  subst e
  exact⟨_,st,fun v z=>by
   have z':Data.fields _=Data.cell v:=z
   cases z'⟩
 keep:=fun i h h' st k=>k it (by simp) _ st
 item:=by
  intro X hP hw hK hc i pins s σ H E I hf st hg
  subst hP hw hK
  obtain⟨f0,f1,f2,f3,f4,f5⟩:=hf it (by simp)
  have W:=Walks.range (prog:=X.prog) (w:=X.w) (I.ok.hd hc) it lo 1 n
  refine W.item i s _ _ hg st fun v h' tk hv st' kk=>?_
  obtain⟨t,rfl⟩:=hv
  have I1:Inv X pins σ H { s with heap:=h',toks:=tk} :=I.turned (fun b o hb e=>kk b o (by simpa using hb) e) f0 f1 f3 f4 f5
  refine⟨_,rfl,go_of (s:= { s with heap:=h',toks:=tk}) (n:= "range_iterator") st' rfl rfl (by decide) ⟨.int (lo+i),H,I1,⟨t,?_⟩,⟨rfl,rfl⟩,st',fun b hb=>(hf b hb).1⟩⟩
  rw[gU]
 done:=by
  intro X hP hw hK hc i pins s σ H E I hf st hg
  subst hP hw hK
  obtain⟨f0,f1,f2,f3,f4,f5⟩:=hf it (by simp)
  exact wpAny_pyNext_range_end (I.ok.hd hc) st (by have:n<=i:=hg; omega) fun h' eb=>⟨rfl,I.turned (t':=s.toks) (fun b o hb e=>eb b o hb e) f0 f1 f3 f4 f5⟩
 self:=fun _ _ _ _ _ st h=>wpAny_pyIter_rangeiter st h
end L2
namespace L2
open PySem PySem.Spec PyProof.Rows
section
variable {X:Cx}{tg:Expr}
def iList (K:W.Frag)(tl:TE):TI:=fun σ H R=>tl σ H fun x H1=>∃ a,x= .ref a/\(∃ xs,SqL K H1 a xs)/\R (Itl K a) H1
def iTup (K:W.Frag)(tl:TE):TI:=fun σ H R=>tl σ H fun x H1=>∃ a,x= .ref a/\(∃ xs,SqT K H1 a xs)/\R (Itt K a) H1
theorem jM3 {l:Expr}{tl:TE}(hl:PE X l tl):PI X tg l (iList X.K tl):=by
 intro pins s σ H R I h
 refine thn (hl pins s σ H _ I h) fun v s1 ⟨x,H1,I1,r1,q1⟩=>?_
 obtain⟨a,e,⟨xs,hq⟩,q⟩:=q1
 subst e
 cases r1
 obtain⟨its,rv,p,hz⟩:=I1.list hq
 refine cG p.isList ?_
 refine⟨s1.heap.objs.size,[s1.heap.objs.size],_,_,H1,rfl,I1.kept (t':=s1.toks) fun b o e=>af _ e,jHK a _,⟨_,aj _ rfl,rfl,rfl⟩,fun b hb=>?_,q⟩
 have e:b=s1.heap.objs.size:=by simpa using hb
 subst e
 exact I1.fpOk (ai _) (I1.hok.fresh (ai _))
theorem jNH {l:Expr}{tl:TE}(hl:PE X l tl):PI X tg l (iTup X.K tl):=by
 intro pins s σ H R I h
 refine thn (hl pins s σ H _ I h) fun v s1 ⟨x,H1,I1,r1,q1⟩=>?_
 obtain⟨a,e,⟨xs,hq⟩,q⟩:=q1
 subst e
 cases r1
 obtain⟨its,rv,p,hz⟩:=I1.tuple hq
 refine wpAny_pyIter_tuple (show s1.heap.IsTuple a its.toArray from p) ?_
 refine⟨s1.heap.objs.size,[s1.heap.objs.size],_,_,H1,rfl,I1.kept (t':=s1.toks) fun b o e=>af _ e,jGR a _,⟨_,aj _ rfl,rfl,rfl⟩,fun b hb=>?_,q⟩
 have e:b=s1.heap.objs.size:=by simpa using hb
 subst e
 exact I1.fpOk (ai _) (I1.hok.fresh (ai _))
theorem jG1 {pins:List (Addr×Obj)}{σ:St}{H:Hp}{s:Shared}{R:It->Hp->Prop}{E:Value->Shared->Prop}{lo hi:Int}{t u v:Tok}{tk:Nat}(I:Inv X pins σ H s)(h1: -(2 ^ 62)<=lo)(h2:lo<2 ^ 62)(h3: -(2 ^ 62)<=hi)(h4:hi<2 ^ 62)
  (q:R (Itr lo (hi - lo).toNat) H):wpAny (model X.prog X.w) X.A (pyIter (.ref s.heap.objs.size)) (PIE X pins σ tg R) E { s with heap:=s.heap.push { cls:= .type "range",data:= .fields #[.int lo t, .int hi u, .int 1 v]},toks:=tk} :=by
 refine wpAny_pyIter_range (IsRange.new ..) (small_one h1 h2 h3 h4) ?_
 have I1:Inv X pins σ H { s with heap:=s.heap.push { cls:= .type "range",data:= .fields #[.int lo t, .int hi u, .int 1 v]},toks:=tk} :=I.kept fun b o e=>af _ e
 refine⟨(s.heap.push { cls:= .type "range",data:= .fields #[.int lo t, .int hi u, .int 1 v]}).objs.size,[(s.heap.push { cls:= .type "range",data:= .fields #[.int lo t, .int hi u, .int 1 v]}).objs.size],_,_,H,rfl,
  I1.kept (t':=tk) fun b o e=>af _ e,jGS _ lo (hi - lo).toNat,?_,fun b hb=>?_,q⟩
 ·have e1:lo+((0:Nat):Int)*1=lo:=by simp
  have e2:(((hi - lo).toNat:Nat):Int) - ((0:Nat):Int)=Builtin.Range.rangeSize lo hi 1:=by rw[fb]; split <;> omega
  show IsRangeIter _ _ (lo+((0:Nat):Int)*1) ((((hi - lo).toNat:Nat):Int) - ((0:Nat):Int)) 1
  rw[e1,e2]
  exact aj _ rfl
 ·have e:b=(s.heap.push { cls:= .type "range",data:= .fields #[.int lo t, .int hi u, .int 1 v]}).objs.size:=by simpa using hb
  subst e
  exact I1.fpOk (ai _) (I1.hok.fresh (ai _))
def iRng1 (ta:TA):TI:=fun σ H R=>ta σ H fun vs H1=>∃ j:Int,vs=[.int j]/\ -(2 ^ 62)<=j/\j<2 ^ 62/\R (Itr 0 j.toNat) H1
def iRng2 (ta:TA):TI:=fun σ H R=>ta σ H fun vs H1=>∃ i j:Int,vs=[.int i, .int j]/\(-(2 ^ 62)<=i/\i<2 ^ 62/\ -(2 ^ 62)<=j/\j<2 ^ 62)/\R (Itr i (j - i).toNat) H1
theorem jBD {a:Expr}{ta:TA}{p pos:Pos}(hg:Gl X "range")(hm:X.mg "range" =none)(ha:PA X [a] ta)(hs:starEach [a] X.env=[(false,eval a X.env)]:=by rfl):PI X tg (.Call (.Name "range" p) [a] [] pos) (iRng1 ta):=by
 intro pins s σ H R I h
 refine Call_ (jCR I hg hm boot_range (bq (thn (ha pos pins s σ H _ I h) fun us s1 ⟨vs,H1,I1,r1,q1⟩=>?_) hs rfl))
 obtain⟨j,e,q1,q2,q⟩:=q1
 subst e
 cases r1 with
 | cons r rr=>
  cases rr
  obtain⟨t,rfl⟩:=r
  exact call_range_1 (jG1 I1 (by omega) (by omega) q1 q2 (by simpa using q))
theorem jI6 {a b:Expr}{ta:TA}{p pos:Pos}(hg:Gl X "range")(hm:X.mg "range" =none)(ha:PA X [a,b] ta)(hs:starEach [a,b] X.env=[(false,eval a X.env),(false,eval b X.env)]:=by rfl)(hs2:starEach [b] X.env=[(false,eval b X.env)]:=by rfl):
  PI X tg (.Call (.Name "range" p) [a,b] [] pos) (iRng2 ta):=by
 intro pins s σ H R I h
 refine Call_ (jCR I hg hm boot_range (bq (thn (ha pos pins s σ H _ I h) fun us s1 ⟨vs,H1,I1,r1,q1⟩=>?_) (by rw[hs,hs2]) (by rw[hs2]; rfl)))
 obtain⟨i,j,e,⟨q1,q2,q3,q4⟩,q⟩:=q1
 subst e
 cases r1 with
 | cons r rr=>
  cases rr with
  | cons r' rr=>
   cases rr
   obtain⟨t,rfl⟩:=r
   obtain⟨t',rfl⟩:=r'
   exact call_range_2 (jG1 I1 q1 q2 q3 q4 q)
def tFor (wi:TI)(g:TG)(tb:TS):TS:=fun D σ H=>wi σ H fun J H1=>∃ W:Nat->Nat->St->Hp->Prop,(∃ m,W 0 m σ H1)/\∀ i m σ H,W i m σ H->
 (J.stop i H/\D.nx σ H)\/(J.go i H/\∃ N:St->Hp->Prop,(∀ σ' H',N σ' H'->∃ m',m'<m/\W (i+1) m' σ' H')/\∀ x H',J.yld i H x H'->g x σ H' fun σ2 H2=>tb { D with nx:=N,ct:=N,bk:=D.nx} σ2 H2)
def jD7 (fp:List Addr)(h:Heap):List (Addr×Obj):=fp.filterMap fun b=>(h.get? b).map fun o=>(b,o)
theorem jA3 {fp:List Addr}{h:Heap}{b:Addr}{o:Obj}(hb:b∈fp)(e:h.get? b=some o):(b,o)∈jD7 fp h:=gE.mpr ⟨b,hb,by rw[e]; rfl⟩
theorem jII {fp:List Addr}{h:Heap}{p:Addr×Obj}(hp:p∈jD7 fp h):p.1∈fp/\h.get? p.1=some p.2:=by
 obtain⟨b,hb,e⟩:=gE.mp hp
 cases q:h.get? b with
 | none=>rw[q] at e; cases e
 | some o=>
  rw[q] at e
  have e':(b,o)=p:=aK e
  subst e'
  exact⟨hb,q⟩
theorem Inv.pinned {pins:List (Addr×Obj)}{σ:St}{H:Hp}{s:Shared}{fp:List Addr}(I:Inv X pins σ H s)(hf:∀ b∈fp,FpOk X pins H b)(ho:∀ b∈fp,∃ o,s.heap.get? b=some o/\∀ v,o.data≠ .cell v):Inv X (pins++jD7 fp s.heap) σ H s:=
 I.pins_of fun p hp=>(bS.mp hp).elim (fun z=>I.pin p (aE _ z)) fun z=>by
  obtain⟨hb,e⟩:=jII z
  obtain⟨f0,f1,f2,_⟩:=hf p.1 hb
  obtain⟨o,e',d⟩:=ho p.1 hb
  rw[e] at e'; cases e'
  exact⟨e,f0,f1,f2,d⟩
theorem Inv.unpinned {pins pl:List (Addr×Obj)}{σ:St}{H:Hp}{s:Shared}(I:Inv X (pins++pl) σ H s):Inv X pins σ H s:=I.pins_of fun p hp=>I.pin p (aE _ (gf _ hp))
theorem jLD {iter:Expr}{body:List Stmt}{wi:TI}{g:TG}{tb:TS}{pos:Pos}(hp:PassesOwn (model X.prog X.w) X.A X.env X.xe)(hc:X.calm=true)(hi:PI X tg iter wi)(hg:PG X tg g)(hb:PSs X body tb)
  (hs:∀ x,foldedSetIterable iter X.env x=pure x:=by intro _; rfl):PS X (.For tg iter body [] pos) (tFor wi g tb):=by
 intro pins s σ H D I h
 refine wpAny_For (thn (hi pins s σ H _ I h) fun v s1 h1=>thn h1 fun itv s2 h2=>?_) hs
 obtain⟨it,fp,tn,J,H2,e,I2,T,st2,f2,W,⟨m0,w0⟩,turn⟩:=h2
 subst e
 have stat:∀ {H':Hp},(∀ b∈fp,H' b=none)->∀ b∈fp,FpOk X pins H' b:=fun hn b hb=>⟨hn b hb,(f2 b hb).2⟩
 refine codeAny_forLoop_any (fun n s'=>∃ i σ' H',Inv X pins σ' H' s'/\tn i s'.heap/\(∀ b∈fp,H' b=none)/\W i n σ' H') ?_ m0 ⟨0,σ,H2,I2,st2,fun b hb=>(f2 b hb).1,w0⟩
 rintro n s3 ⟨i,σ3,H3,I3,st3,fr3,w3⟩
 rcases turn i n σ3 H3 w3 with ⟨stop,qn⟩ | ⟨go,N,hN,step⟩
 ·refine cQ hp (thn (T.done X rfl rfl rfl hc i pins s3 σ3 H3 X.xe I3 (stat fr3) st3 stop) fun r s4 ⟨hr,I4⟩=>?_)
  subst hr
  exact cP ⟨σ3,H3,I4,qn⟩
 ·refine cQ hp (thn (T.item X rfl rfl rfl hc i pins s3 σ3 H3 X.xe I3 (stat fr3) st3 go) fun r s4 ⟨u,hr,h4⟩=>?_)
  subst hr
  refine cQ hp (thn h4 fun _ s5 ⟨x,H5,I5,r5,y5,st5,fr5⟩=>?_)
  have I5':=I5.pinned (stat fr5) (T.obj _ _ st5)
  refine cQ hp (thn (hg _ s5 σ3 H5 x u _ I5' r5 (step x H5 y5)) fun _ s6 ⟨σ6,H6,I6,q6⟩=>?_)
  refine cQ hp (thn (hb _ s6 σ6 H6 _ I6 q6) fun f s7 q7=>?_)
  have again:∀ {σ7:St}{H7:Hp},Inv X (pins++jD7 fp s5.heap) σ7 H7 s7->N σ7 H7->∃ m,m<n/\∃ i σ' H',Inv X pins σ' H' s7/\tn i s7.heap/\(∀ b∈fp,H' b=none)/\W i m σ' H':=fun {σ7 H7} I7 n7=>by
   obtain⟨m',hm,w7⟩:=hN σ7 H7 n7
   refine⟨m',hm,i+1,σ7,H7,I7.unpinned,T.keep _ _ _ st5 fun b hb o e=>(I7.pin (b,o) (aE _ (aE _ (jA3 hb e)))).1,fun b hb=>?_,w7⟩
   obtain⟨o,e,d⟩:=T.obj _ _ st5 b hb
   exact(I7.pin (b,o) (aE _ (aE _ (jA3 hb e)))).2.1
  cases f with
  | next=>obtain⟨σ7,H7,I7,n7⟩:=q7; exact again I7 n7
  | cont=>obtain⟨σ7,H7,I7,n7⟩:=q7; exact again I7 n7
  | brk=>obtain⟨σ7,H7,I7,q7⟩:=q7; exact⟨σ7,H7,I7.unpinned,q7⟩
  | ret v=>obtain⟨x7,σ7,H7,I7,r7,q7⟩:=q7; exact⟨x7,σ7,H7,I7.unpinned,r7,q7⟩
end
theorem jL0 {K:W.Frag}{a:Addr}{xs:List V}{g:TG}{tb:TS}{D:Ends}{σ:St}{H:Hp}(Pv:Nat->St->Hp->Prop)(h0:Pv 0 σ H)(hl:∀ i σ H,i<=xs.length->Pv i σ H->SqL K H a xs)
  (hs:∀ i x σ H,xs[i]?=some x->Pv i σ H->g x σ H fun σ2 H2=>tb { D with nx:=Pv (i+1),ct:=Pv (i+1),bk:=D.nx} σ2 H2) (hd:∀ σ H,Pv xs.length σ H->D.nx σ H):
  ∃ W:Nat->Nat->St->Hp->Prop,(∃ m,W 0 m σ H)/\∀ i m σ H,W i m σ H->
   ((Itl K a).stop i H/\D.nx σ H)\/((Itl K a).go i H/\∃ N:St->Hp->Prop,(∀ σ' H',N σ' H'->∃ m',m'<m/\W (i+1) m' σ' H')/\∀ x H',(Itl K a).yld i H x H'->g x σ H' fun σ2 H2=>tb { D with nx:=N,ct:=N,bk:=D.nx} σ2 H2):=by
 refine⟨fun i m σ H=>m=xs.length - i/\i<=xs.length/\Pv i σ H,⟨xs.length,by simp,aM _,h0⟩,?_⟩
 rintro i m σ H ⟨rfl,hi,p⟩
 have q:=hl i σ H hi p
 by_cases hlt:i<xs.length
 ·refine .inr ⟨⟨xs,xs[i],q,by simp [hlt]⟩,Pv (i+1),fun σ' H' p'=>⟨xs.length - (i+1),by omega,rfl,hlt,p'⟩,fun x H' y=>?_⟩
  obtain⟨e,y⟩:=y
  subst e
  exact hs i x σ _ (y xs q) p
 ·have e:i=xs.length:=by omega
  subst e
  exact .inl ⟨⟨xs,q,ai _⟩,hd σ H p⟩
theorem jMT {K:W.Frag}{a:Addr}{xs:List V}{g:TG}{tb:TS}{D:Ends}{σ:St}{H:Hp}(Pv:Nat->St->Hp->Prop)(h0:Pv 0 σ H)(hl:∀ i σ H,i<=xs.length->Pv i σ H->SqT K H a xs)
  (hs:∀ i x σ H,xs[i]?=some x->Pv i σ H->g x σ H fun σ2 H2=>tb { D with nx:=Pv (i+1),ct:=Pv (i+1),bk:=D.nx} σ2 H2) (hd:∀ σ H,Pv xs.length σ H->D.nx σ H):
  ∃ W:Nat->Nat->St->Hp->Prop,(∃ m,W 0 m σ H)/\∀ i m σ H,W i m σ H->
   ((Itt K a).stop i H/\D.nx σ H)\/((Itt K a).go i H/\∃ N:St->Hp->Prop,(∀ σ' H',N σ' H'->∃ m',m'<m/\W (i+1) m' σ' H')/\∀ x H',(Itt K a).yld i H x H'->g x σ H' fun σ2 H2=>tb { D with nx:=N,ct:=N,bk:=D.nx} σ2 H2):=by
 refine⟨fun i m σ H=>m=xs.length - i/\i<=xs.length/\Pv i σ H,⟨xs.length,by simp,aM _,h0⟩,?_⟩
 rintro i m σ H ⟨rfl,hi,p⟩
 have q:=hl i σ H hi p
 by_cases hlt:i<xs.length
 ·refine .inr ⟨⟨xs,xs[i],q,by simp [hlt]⟩,Pv (i+1),fun σ' H' p'=>⟨xs.length - (i+1),by omega,rfl,hlt,p'⟩,fun x H' y=>?_⟩
  obtain⟨e,y⟩:=y
  subst e
  exact hs i x σ _ (y xs q) p
 ·have e:i=xs.length:=by omega
  subst e
  exact .inl ⟨⟨xs,q,ai _⟩,hd σ H p⟩
theorem jBG {lo:Int}{n:Nat}{g:TG}{tb:TS}{D:Ends}{σ:St}{H:Hp}(Pv:Nat->St->Hp->Prop)(h0:Pv 0 σ H)
  (hs:∀ i σ H,i<n->Pv i σ H->g (.int (lo+i)) σ H fun σ2 H2=>tb { D with nx:=Pv (i+1),ct:=Pv (i+1),bk:=D.nx} σ2 H2) (hd:∀ σ H,Pv n σ H->D.nx σ H):
  ∃ W:Nat->Nat->St->Hp->Prop,(∃ m,W 0 m σ H)/\∀ i m σ H,W i m σ H->
   ((Itr lo n).stop i H/\D.nx σ H)\/((Itr lo n).go i H/\∃ N:St->Hp->Prop,(∀ σ' H',N σ' H'->∃ m',m'<m/\W (i+1) m' σ' H')/\∀ x H',(Itr lo n).yld i H x H'->g x σ H' fun σ2 H2=>tb { D with nx:=N,ct:=N,bk:=D.nx} σ2 H2):=by
 refine⟨fun i m σ H=>m=n - i/\i<=n/\Pv i σ H,⟨n,by simp,aM _,h0⟩,?_⟩
 rintro i m σ H ⟨rfl,hi,p⟩
 by_cases hlt:i<n
 ·refine .inr ⟨hlt,Pv (i+1),fun σ' H' p'=>⟨n - (i+1),by omega,rfl,hlt,p'⟩,fun x H' y=>?_⟩
  obtain⟨e,y⟩:=y
  subst e y
  exact hs i σ _ hlt p
 ·have e:i=n:=by omega
  subst e
  exact .inl ⟨ai _,hd σ H p⟩
end L2
namespace L2
open PySem PySem.Spec PyProof.Rows
abbrev R2:=V->V->Hp->VK->Prop
def OpR (X:Cx)(f:Value->Value->Sem Value)(r:R2):Prop:=
 ∀ (pins:List (Addr×Obj)) (s:Shared) (σ:St) (H:Hp) (x y:V) (v u:Value) (Q:VK),Inv X pins σ H s->RelV x v->RelV y u->r x y H Q->
  wpAny (model X.prog X.w) X.A (f v u) (EP X pins σ Q) X.xe s
def UnR (X:Cx)(f:Value->Sem Value)(r:V->Hp->VK->Prop):Prop:=
 ∀ (pins:List (Addr×Obj)) (s:Shared) (σ:St) (H:Hp) (x:V) (v:Value) (Q:VK),Inv X pins σ H s->RelV x v->r x H Q->
  wpAny (model X.prog X.w) X.A (f v) (EP X pins σ Q) X.xe s
def yD (X:Cx)(f:Value)(r:List V->Hp->VK->Prop):Prop:=
 ∀ (pins:List (Addr×Obj)) (s:Shared) (σ:St) (H:Hp) (xs:List V) (us:List Value) (Q:VK),Inv X pins σ H s->Vals xs us->r xs H Q->
  wpAny (model X.prog X.w) X.A (call f us) (EP X pins σ Q) X.xe s
def tOp (r:R2)(ta tb:TE):TE:=fun σ H Q=>ta σ H fun x H1=>tb σ H1 fun y H2=>r x y H2 Q
def tUn (r:V->Hp->VK->Prop)(ta:TE):TE:=fun σ H Q=>ta σ H fun x H1=>r x H1 Q
def rI (C:Int->Int->Prop)(g:Int->Int->V):R2:=fun x y H Q=>∃ i j,x= .int i/\y= .int j/\C i j/\Q (g i j) H
def rI0 (g:Int->Int->V):R2:=fun x y H Q=>∃ i j,x= .int i/\y= .int j/\Q (g i j) H
def rU (g:Int->V):V->Hp->VK->Prop:=fun x H Q=>∃ i,x= .int i/\Q (g i) H
section
variable {X:Cx}{a b c:Expr}{ta tb tc:TE}{pos:Pos}
theorem binT (ha:PE X a ta)(hb:PE X b tb){pins:List (Addr×Obj)}{s:Shared}{σ:St}{H:Hp}{R:V->V->Hp->Prop}(I:Inv X pins σ H s)
  (h:ta σ H fun x H1=>tb σ H1 fun y H2=>R x y H2) {Q:Value->Shared->Prop}{f:Value->Value->Sem Value}
  (hf:∀ v u s2 x y H2,Inv X pins σ H2 s2->RelV x v->RelV y u->R x y H2->wpAny (model X.prog X.w) X.A (f v u) Q X.xe s2):
  wpAny (model X.prog X.w) X.A (eval a X.env) (fun v s₁=>wpAny (model X.prog X.w) X.A (eval b X.env) (fun u s₂=>wpAny (model X.prog X.w) X.A (f v u) Q X.xe s₂) X.xe s₁) X.xe s:=by
 refine thn (ha pins s σ H _ I h) fun v s1 ⟨x,H1,I1,r1,q1⟩=>?_
 refine thn (hb pins s1 σ H1 _ I1 q1) fun u s2 ⟨y,H2,I2,r2,q2⟩=>?_
 exact hf v u s2 x y H2 I2 r1 r2 q2
theorem kD {op:Operator}{r:R2}(ho:OpR X (binaryOp op) r)(ha:PE X a ta)(hb:PE X b tb):PE X (.BinOp a op b pos) (tOp r ta tb):=by
 intro pins s σ H Q I h
 exact wpAny_BinOp (binT ha hb I h fun v u s2 x y H2 I2 rx ry q=>ho pins s2 σ H2 x y v u Q I2 rx ry q)
theorem pe_un {op:UnaryOp}{r:V->Hp->VK->Prop}(ho:UnR X (unaryOp op) r)(ha:PE X a ta):PE X (.UnaryOp op a pos) (tUn r ta):=by
 intro pins s σ H Q I h
 exact UnaryOp_ (thn (ha pins s σ H _ I h) fun v s1 ⟨x,H1,I1,r1,q1⟩=>ho pins s1 σ H1 x v Q I1 r1 q1)
theorem opI {f:Value->Value->Sem Value}{C:Int->Int->Prop}{g:Int->Int->Int}
  (rule:∀ (i j:Int) (t u:Tok) (s:Shared) (Q:Value->Shared->Prop) (E:Value->Shared->Prop),C i j->Q (.int (g i j) s.toks) { s with toks:=s.toks+1} ->wpAny (model X.prog X.w) X.A (f (.int i t) (.int j u)) Q E s):
  OpR X f (rI C fun i j=> .int (g i j)):=by
 intro pins s σ H x y v u Q I rx ry h
 obtain⟨i,j,rfl,rfl,hc,q⟩:=h
 obtain⟨t,rfl⟩:=rx
 obtain⟨t',rfl⟩:=ry
 exact rule i j t t' s _ _ hc ⟨.int (g i j),H,I.tok _,⟨_,rfl⟩,q⟩
theorem opI0 {f:Value->Value->Sem Value}{g:Int->Int->Int}
  (rule:∀ (i j:Int) (t u:Tok) (s:Shared) (Q:Value->Shared->Prop) (E:Value->Shared->Prop),Q (.int (g i j) s.toks) { s with toks:=s.toks+1} ->wpAny (model X.prog X.w) X.A (f (.int i t) (.int j u)) Q E s):
  OpR X f (rI0 fun i j=> .int (g i j)):=by
 intro pins s σ H x y v u Q I rx ry h
 obtain⟨i,j,rfl,rfl,q⟩:=h
 obtain⟨t,rfl⟩:=rx
 obtain⟨t',rfl⟩:=ry
 exact rule i j t t' s _ _ ⟨.int (g i j),H,I.tok _,⟨_,rfl⟩,q⟩
theorem opB0 {f:Value->Value->Sem Value}{g:Int->Int->Bool}
  (rule:∀ (i j:Int) (t u:Tok) (s:Shared) (Q:Value->Shared->Prop) (E:Value->Shared->Prop),Q (.bool (g i j)) s->wpAny (model X.prog X.w) X.A (f (.int i t) (.int j u)) Q E s):
  OpR X f (rI0 fun i j=> .bl (g i j)):=by
 intro pins s σ H x y v u Q I rx ry h
 obtain⟨i,j,rfl,rfl,q⟩:=h
 obtain⟨t,rfl⟩:=rx
 obtain⟨t',rfl⟩:=ry
 exact rule i j t t' s _ _ ⟨.bl (g i j),H,I,rfl,q⟩
def CPow (i j:Int):Prop:=0<=j/\j<=1000000/\i.natAbs<2 ^ 64
def CMul (i j:Int):Prop:=(-(2 ^ 64)<i/\i<2 ^ 64)\/(-(2 ^ 64)<j/\j<2 ^ 64)
theorem CMul.ok {i j:Int}(h:CMul i j):IntMulOk i j:=by
 rcases h with ⟨h1,h2⟩ | ⟨h1,h2⟩
 ·exact .of_left (intBits_le_64 h1 h2)
 ·exact .of_right (intBits_le_64 h1 h2)
theorem jGQ (k:Nat):(0:Int)<=2 ^ k:=by
 rw[two_pow_cast]
 exact gF _
theorem yH:OpR X (binaryOp .Add) (rI0 fun i j=> .int (i+j)):=opI0 fun _ _ _ _ _ _ _ q=>add_int q
theorem jCL:OpR X (binaryOp .Sub) (rI0 fun i j=> .int (i - j)):=opI0 fun _ _ _ _ _ _ _ q=>sub_int q
theorem jC3:OpR X (binaryOp .Mult) (rI CMul fun i j=> .int (i*j)):=opI fun _ _ _ _ _ _ _ hc q=>mul_int q hc.ok
theorem jEE:OpR X (binaryOp .Mod) (rI (fun _ j=>0<j) fun i j=> .int (i % j)):=opI fun i j _ _ _ _ _ hc q=>by
 have h1:(0:Int)<j:=hc
 exact mod_int' (by omega) (by rw[Int.fmod_eq_emod_of_nonneg i (by omega)]; exact q)
theorem jIA:OpR X (binaryOp .Pow) (rI CPow fun i j=> .int (i ^ j.toNat)):=opI fun _ _ _ _ _ _ _ hc q=>pow_int_small hc.1 hc.2.1 hc.2.2 q
theorem jNV:OpR X (binaryOp .LShift) (rI CPow fun i j=> .int (i*2 ^ j.toNat)):=opI fun _ _ _ _ _ _ _ hc q=>lshift_int_small hc.1 hc.2.1 hc.2.2 q
theorem jNU:OpR X (binaryOp .RShift) (rI (fun _ j=>0<=j) fun i j=> .int (i / 2 ^ j.toNat)):=opI fun i j _ _ _ _ _ hc q=>
 rshift_int hc (by rw[d0 i (jGQ _)]; exact q)
theorem jNY:OpR X (binaryOp .BitAnd) (rI0 fun i j=> .int (Builtin.bitAnd i j)):=opI0 fun _ _ _ _ _ _ _ q=>and_int q
theorem unI {f:Value->Sem Value}{g:Int->Int}
  (rule:∀ (i:Int) (t:Tok) (s:Shared) (Q:Value->Shared->Prop) (E:Value->Shared->Prop),Q (.int (g i) s.toks) { s with toks:=s.toks+1} ->wpAny (model X.prog X.w) X.A (f (.int i t)) Q E s):
  UnR X f (rU fun i=> .int (g i)):=by
 intro pins s σ H x v Q I rx h
 obtain⟨i,rfl,q⟩:=h
 obtain⟨t,rfl⟩:=rx
 exact rule i t s _ _ ⟨.int (g i),H,I.tok _,⟨_,rfl⟩,q⟩
theorem jE4:UnR X (unaryOp .USub) (rU fun i=> .int (-i)):=unI fun _ _ _ _ _ q=>neg_int q
end
def scal:V->V->Bool
 | .non, .non=>true | .non, .int _=>true | .int _, .non=>true | .non, .bl _=>true | .bl _, .non=>true | .non, .str _=>true | .str _, .non=>true
 | .int _, .int _=>true | .bl _, .bl _=>true | .str _, .str _=>true | .byt _, .byt _=>true
 | .int _, .str _=>true | .str _, .int _=>true | .bl _, .str _=>true | .str _, .bl _=>true
 | _,_=>false
def rEq:R2:=fun x y H Q=>scal x y=true/\Q (.bl (decide (x=y))) H
def rNe:R2:=fun x y H Q=>scal x y=true/\Q (.bl (!decide (x=y))) H
theorem jJL {i j:Int} :decide (V.int i=V.int j)=(i==j):=by
 rw[bU]
 simp
theorem jLK {i j:Bool} :decide (V.bl i=V.bl j)=(i==j):=by
 rw[bU]
 simp
theorem jJK {i j:Str} :decide (V.str i=V.str j)=(i==j):=by
 rw[bU]
 simp
theorem jJM {i j:Array UInt8} :decide (V.byt i=V.byt j)=(i.toList==j.toList):=by
 rw[bU]
 cases i
 cases j
 simp
section
variable {X:Cx}{a b c:Expr}{ta tb tc:TE}{pos:Pos}
theorem jS {pins:List (Addr×Obj)}{σ:St}{H:Hp}{s:Shared}{Q:VK}{k k':Bool}(I:Inv X pins σ H s)(q:Q (.bl k) H)(e:k=k'):EP X pins σ Q (.bool k') s:=by
 subst e
 exact⟨.bl k,H,I,rfl,q⟩
theorem op_eq:OpR X (compareOp .Eq) rEq:=by
 intro pins s σ H x y v u Q I rx ry h
 obtain⟨hs,q⟩:=h
 cases x with
 | non=>
  cases rx
  cases y with
  | non=>cases ry; exact PySem.EqNone.eq_none_none (jS I q (by simp))
  | bl j=>cases ry; exact PySem.EqNone.eq_none_bool (jS I q (by simp))
  | int j=>obtain⟨t',rfl⟩:=ry; exact PySem.EqNone.eq_none_int (jS I q (by simp))
  | str j=>obtain⟨t',rfl⟩:=ry; exact PySem.EqNone.eq_none_str (jS I q (by simp))
  | _=>exact absurd (show false=true from hs) am
 | bl i=>
  cases rx
  cases y with
  | non=>cases ry; exact PySem.EqNone.eq_bool_none (jS I q (by simp))
  | bl j=>cases ry; exact eq_bool (jS I q jLK)
  | str j=>obtain⟨t',rfl⟩:=ry; exact PySem.EqMixed.eq_bool_str (jS I q (by simp))
  | _=>exact absurd (show false=true from hs) am
 | int i=>
  obtain⟨t,rfl⟩:=rx
  cases y with
  | non=>cases ry; exact PySem.EqNone.eq_int_none (jS I q (by simp))
  | int j=>obtain⟨t',rfl⟩:=ry; exact eq_int (jS I q jJL)
  | str j=>obtain⟨t',rfl⟩:=ry; exact PySem.EqMixed.eq_int_str (jS I q (by simp))
  | _=>exact absurd (show false=true from hs) am
 | str i=>
  obtain⟨t,rfl⟩:=rx
  cases y with
  | non=>cases ry; exact PySem.EqNone.eq_str_none (jS I q (by simp))
  | bl j=>cases ry; exact PySem.EqMixed.eq_str_bool (jS I q (by simp))
  | int j=>obtain⟨t',rfl⟩:=ry; exact PySem.EqMixed.eq_str_int (jS I q (by simp))
  | str j=>obtain⟨t',rfl⟩:=ry; exact eq_str (jS I q jJK)
  | _=>exact absurd (show false=true from hs) am
 | byt i=>
  obtain⟨t,rfl⟩:=rx
  cases y with
  | byt j=>obtain⟨t',rfl⟩:=ry; exact PySem.W.eq_bytes (jS I q jJM)
  | _=>exact absurd (show false=true from hs) am
 | _=>cases y <;> exact absurd (show false=true from hs) am
theorem op_ne:OpR X (compareOp .NotEq) rNe:=by
 intro pins s σ H x y v u Q I rx ry h
 obtain⟨hs,q⟩:=h
 cases x with
 | non=>
  cases rx
  cases y with
  | non=>cases ry; exact PySem.EqNone.ne_none_none (jS I q (by simp))
  | bl j=>cases ry; exact PySem.EqNone.ne_none_bool (jS I q (by simp))
  | int j=>obtain⟨t',rfl⟩:=ry; exact PySem.EqNone.ne_none_int (jS I q (by simp))
  | str j=>obtain⟨t',rfl⟩:=ry; exact PySem.EqNone.ne_none_str (jS I q (by simp))
  | _=>exact absurd (show false=true from hs) am
 | bl i=>
  cases rx
  cases y with
  | non=>cases ry; exact PySem.EqNone.ne_bool_none (jS I q (by simp))
  | bl j=>cases ry; exact ne_bool (jS I q (bF not jLK))
  | str j=>obtain⟨t',rfl⟩:=ry; exact PySem.EqMixed.ne_bool_str (jS I q (by simp))
  | _=>exact absurd (show false=true from hs) am
 | int i=>
  obtain⟨t,rfl⟩:=rx
  cases y with
  | non=>cases ry; exact PySem.EqNone.ne_int_none (jS I q (by simp))
  | int j=>obtain⟨t',rfl⟩:=ry; exact ne_int (jS I q (bF not jJL))
  | str j=>obtain⟨t',rfl⟩:=ry; exact PySem.EqMixed.ne_int_str (jS I q (by simp))
  | _=>exact absurd (show false=true from hs) am
 | str i=>
  obtain⟨t,rfl⟩:=rx
  cases y with
  | non=>cases ry; exact PySem.EqNone.ne_str_none (jS I q (by simp))
  | bl j=>cases ry; exact PySem.EqMixed.ne_str_bool (jS I q (by simp))
  | int j=>obtain⟨t',rfl⟩:=ry; exact PySem.EqMixed.ne_str_int (jS I q (by simp))
  | str j=>obtain⟨t',rfl⟩:=ry; exact ne_str (jS I q (bF not jJK))
  | _=>exact absurd (show false=true from hs) am
 | byt i=>
  obtain⟨t,rfl⟩:=rx
  cases y with
  | byt j=>obtain⟨t',rfl⟩:=ry; exact PySem.W.ne_bytes (jS I q (bF not jJM))
  | _=>exact absurd (show false=true from hs) am
 | _=>cases y <;> exact absurd (show false=true from hs) am
theorem op_lt:OpR X (compareOp .Lt) (rI0 fun i j=> .bl (decide (i<j))):=opB0 fun _ _ _ _ _ _ _ q=>lt_int q
theorem op_gt:OpR X (compareOp .Gt) (rI0 fun i j=> .bl (decide (j<i))):=opB0 fun _ _ _ _ _ _ _ q=>gt_int q
theorem op_ge:OpR X (compareOp .GtE) (rI0 fun i j=> .bl (decide (j<=i))):=opB0 fun _ _ _ _ _ _ _ q=>ge_int q
theorem kU (b:Expr){op:CmpOp}(h:op≠ .In:=by decide)(h2:op≠ .NotIn:=by decide):behindInMarks op b=false:=by
 have e1:(op==CmpOp.In)=false:=by cases op <;> first | rfl | exact absurd rfl h
 have e2:(op==CmpOp.NotIn)=false:=by cases op <;> first | rfl | exact absurd rfl h2
 cases b <;> simp [behindInMarks,e1,e2]
theorem jMA {op:CmpOp}{r:R2}(ho:OpR X (compareOp op) r)(ha:PE X a ta)(hb:PE X b tb)(hm:behindInMarks op b=false):PE X (.Compare a [op] [b] pos) (tOp r ta tb):=by
 intro pins s σ H Q I h
 exact wpAny_Compare1 (binT ha hb I h fun v u s2 x y H2 I2 rx ry q=>ho pins s2 σ H2 x y v u Q I2 rx ry q) hm
def tTest (t:TE):TT:=fun σ H Q=>t σ H fun x H'=>∃ k,x= .bl k/\Q k H'
theorem jCJ {op:CmpOp}{r:R2}(ho:OpR X (compareOp op) r)(ha:PE X a ta)(hb:PE X b tb)(hm:behindInMarks op b=false):PT X (.Compare a [op] [b] pos) (tTest (tOp r ta tb)):=by
 intro pins s σ H Q I h
 refine wpAny_isTrue_Compare1 (thn (ha pins s σ H _ I h) fun v s1 ⟨x,H1,I1,r1,q1⟩=>thn (hb pins s1 σ H1 _ I1 q1) fun u s2 ⟨y,H2,I2,r2,q2⟩=>
  thn (ho pins s2 σ H2 x y v u _ I2 r1 r2 q2) fun c s3 ⟨z,H3,I3,r3,k,e,q3⟩=>?_) hm
 subst e
 cases r3
 exact cF ⟨H3,I3,q3⟩
theorem jEK:(sizeLine:Nat)<2 ^ 63:=by rw[bW]; decide
theorem vals1 {x:V}{us:List Value}(r:Vals [x] us):∃ u,us=[u]/\RelV x u:=by
 cases r with
 | cons r1 r2=>cases r2; exact⟨_,rfl,r1⟩
theorem jJV:yD X (.type "int") (fun xs H Q=>(∃ i,xs=[.int i]/\Q (.int i) H)\/∃ k,xs=[.bl k]/\Q (.int (if k then 1 else 0)) H):=by
 intro pins s σ H xs us Q I r h
 rcases h with ⟨i,rfl,q⟩ | ⟨k,rfl,q⟩
 ·obtain⟨u,rfl,t,rfl⟩:=vals1 r
  exact call_int_int ⟨.int i,H,I,⟨_,rfl⟩,q⟩
 ·obtain⟨u,rfl,r1⟩:=vals1 r
  cases r1
  exact call_int_bool ⟨.int (if k then 1 else 0),H,I.tok _,⟨_,rfl⟩,q⟩
theorem jHG:yD X (.type "bool") (fun xs H Q=>(∃ i,xs=[.int i]/\Q (.bl (i != 0)) H)\/∃ k,xs=[.bl k]/\Q (.bl k) H):=by
 intro pins s σ H xs us Q I r h
 rcases h with ⟨i,rfl,q⟩ | ⟨k,rfl,q⟩
 ·obtain⟨u,rfl,t,rfl⟩:=vals1 r
  exact call_bool_int ⟨.bl (i != 0),H,I,rfl,q⟩
 ·obtain⟨u,rfl,r1⟩:=vals1 r
  cases r1
  exact call_bool_bool ⟨.bl k,H,I,rfl,q⟩
end
end L2
namespace L2
open PySem PySem.Spec PyProof.Rows
structure ObjM (h:Heap)(x dx C:Addr)(mA:Str->Option Value):Prop where
 obj:h.get? x=some (instObj C dx)
 ns:h.Ns1 dx mA
 ne:dx≠x
theorem jIS {h:Heap}{dx:Addr}{mA:Str->Option Value}(n:h.Ns1 dx mA):∃ od,h.get? dx=some od/\∀ name,lookIn name od=some (mA name):=by
 obtain⟨o,es,ep,ho,hd,hk,_,hm⟩:=n
 refine⟨o,ho,fun name=>?_⟩
 have e:=hm name
 unfold nsFind findBy at e
 rw[<- Array.find?_toList] at e
 unfold lookIn
 rw[hd]
 dsimp only
 split
 ·rename_i y q
  rw[q] at e
  exact bF some e
 ·rename_i q
  rw[q] at e
  have a:es.toList.any (·.refKey)=false:=by
   rw[List.any_eq_false]
   intro y hy
   obtain⟨z,t,hkey⟩:=hk y (Array.mem_toList_iff.mp hy)
   simp [DictEntry.refKey,hkey]
  have a':¬ es.toList.any (·.refKey)=true:=by rw[a]; exact am
  rw[az a']
  exact bF some e
theorem ObjM.look {h:Heap}{x dx C:Addr}{mA:Str->Option Value}(I:ObjM h x dx C mA):∃ od,PySem.W.InstAt h x (instObj C dx) C (some od)/\∀ name,lookIn name od=some (mA name):=
 let ⟨od,ho,hl⟩:=jIS I.ns
 ⟨od,⟨I.obj,rfl,rfl,ho⟩,hl⟩
section
variable {prog:Program}{w:World}{A:Around}{E:Value->Shared->Prop}{s:Shared}{K:W.Frag}{x dx C f:Addr}{mA:Str->Option Value}{name:Str}{v:Value}
end
theorem RelO.some_of {v:V}{o:Option Value}(r:RelO (some v) o):∃ u,o=some u/\RelV v u:=by
 cases o with
 | none=>exact(show False from r).elim
 | some u=>exact⟨u,rfl,r⟩
section
variable {P:Program}{w:World}{H H':Hp}{h h':Heap}{a C dx:Addr}{fs fs':List (Str×V)}
theorem jMQ (hok:HOk P w H h)(e:H a=some (.ins C dx fs)):∃ mA,ObjM h a dx C mA/\(∀ f,RelO (fs.lookup f) (mA f))/\PySem.Within mA (fs.map (·.1))/\fs.length<=1000/\H dx=some (.own a):=by
 obtain⟨d,z,ne,ob,mA,n,r,q⟩:=(show ObjOk P w H h a (.ins C dx fs) from hok a _ e)
 exact⟨mA,⟨ob,n,ne⟩,r,q,z,d⟩
end
structure Cls (K:W.Frag)(C:Addr):Prop where
 pg:plainGet K C Str.empty=true
 hd:PySem.W.hasDictIn K C=true
 po:PySem.W.plainOver K C=true
 sa:findIn K (.ref C) "__setattr__" =some (some (.builtin "object.__setattr__"))
theorem Cls.get {K:W.Frag}{C:Addr}(c:Cls K C)(f:Str):plainGet K C f=true:=c.pg
section
variable {X:Cx}{pins:List (Addr×Obj)}{σ:St}{H:Hp}{s:Shared}{a C dx:Addr}{fs:List (Str×V)}{f:Str}{v:V}{A:Around}{E:Value->Shared->Prop}
end
section
variable {X:Cx}{o e value:Expr}{f:Str}{pos pos' tpos:Pos}{ta tv:TE}
end
section
variable {X:Cx}{pins:List (Addr×Obj)}{σ:St}{H:Hp}{s:Shared}{A:Around}{E:Value->Shared->Prop}{Q:Value->Shared->Prop}{c:Value}{b:Bool}
inductive TyOf (K:W.Frag) (H:Hp):V->Value->Prop where
 | non:TyOf K H .non (.type "NoneType")
 | bl (x:Bool):TyOf K H (.bl x) (.type "bool")
 | int (i:Int):TyOf K H (.int i) (.type "int")
 | str (x:Str):TyOf K H (.str x) (.type "str")
 | flt (x:UInt64):TyOf K H (.flt x) (.type "float")
 | lst {a:Addr}{xs:List V}(e:H a=some (.lst xs)):TyOf K H (.ref a) (.type "list")
 | frz {a:Addr}{o:Obj}{xs:List V}(e:H a=some (.frz o (.lst xs))):TyOf K H (.ref a) (.type "list")
 | tup {a:Addr}{xs:List V}(e:H a=some (.tup xs)):TyOf K H (.ref a) (.type "tuple")
 | dK {a:Addr}{kvs:List (Key×V)}(e:H a=some (.dK kvs)):TyOf K H (.ref a) (.type "dict")
 | dT {a:Addr}{kvs:List (List Key×V)}(e:H a=some (.dT kvs)):TyOf K H (.ref a) (.type "dict")
 | ins {a C dx:Addr}{fs:List (Str×V)}(e:H a=some (.ins C dx fs)) (cl:Cls K C) (ha:findIn K (.ref C) "__class__" =some (some (.builtin "object.__class__")))
   (hn:specialIn K (.builtin "object.__class__") "__get__" =some (some (.builtin "getset_descriptor.__get__"))) (htk:takesIn K (.builtin "object.__class__")=some true)
   (hm:mroIn K C (.type "object")=some true):TyOf K H (.ref a) (.ref C)
theorem jJB {x:V}{u t:Value}(I:Inv X pins σ H s)(rx:RelV x u)(ty:TyOf X.K H x t)(e:kitOne X.K t c=some b)(h:∀ tk,Q (.bool b) { s with toks:=tk}):
  wpAny (model X.prog X.w) A (call (.builtin "isinstance") [u,c]) Q E s:=by
 cases ty with
 | non=>cases (show u=Value.none from rx); exact bg PySem.W.kitx_none I.kIn True.intro e (fun z=>nomatch z) h
 | bl y=>cases (show u=Value.bool y from rx); exact bg PySem.W.kitx_bool I.kIn True.intro e (fun z=>nomatch z) h
 | int i=>obtain⟨t,q⟩:=(show ∃ t,u=Value.int i t from rx); cases q; exact bg PySem.W.kitx_int I.kIn True.intro e (fun z=>nomatch z) h
 | str y=>obtain⟨t,q⟩:=(show ∃ t,u=Value.str y t from rx); cases q; exact bg PySem.W.kitx_str I.kIn True.intro e (fun z=>nomatch z) h
 | flt y=>obtain⟨t,q⟩:=(show ∃ t,u=Value.float y t from rx); cases q; exact bg PySem.W.kitx_float I.kIn True.intro e (fun z=>nomatch z) h
 | @lst a xs ea=>
  cases (show u=Value.ref a from rx)
  obtain⟨_,_,n,_,h1⟩:=(show ObjOk X.prog X.w H s.heap a (.lst xs) from I.hok a _ ea)
  exact bg kitx_list I.kIn ⟨_,h1,rfl⟩ e (fun z=>nomatch z) h
 | @frz a ob xs ea=>
  cases (show u=Value.ref a from rx)
  obtain⟨_,_,_,n,_,h1⟩:=(show ObjOk X.prog X.w H s.heap a (.frz ob (.lst xs)) from I.hok a _ ea)
  exact bg kitx_list I.kIn ⟨_,h1,rfl⟩ e (fun z=>nomatch z) h
 | @tup a xs ea=>
  cases (show u=Value.ref a from rx)
  obtain⟨_,_,_,p⟩:=(show ObjOk X.prog X.w H s.heap a (.tup xs) from I.hok a _ ea)
  obtain⟨o,h1,h2,_⟩:=p.isTup
  exact bg PySem.W.kitx_tuple I.kIn ⟨o,h1,h2⟩ e (fun z=>nomatch z) h
 | @dK a kvs ea=>
  cases (show u=Value.ref a from rx)
  obtain⟨_,_,vs,_,p⟩:=(show ObjOk X.prog X.w H s.heap a (.dK kvs) from I.hok a _ ea)
  obtain⟨o,es,ep,h1,h2,_⟩:=p
  exact bg kitx_dict I.kIn ⟨o,h1,h2.1⟩ e (fun z=>nomatch z) h
 | @dT a kvs ea=>
  cases (show u=Value.ref a from rx)
  obtain⟨_,_,xs,_,o,es,ep,h1,h2,_⟩:=(show ObjOk X.prog X.w H s.heap a (.dT kvs) from I.hok a _ ea)
  exact bg kitx_dict I.kIn ⟨o,h1,h2.1⟩ e (fun z=>nomatch z) h
 | @ins a C dx fs ea cl ha hn htk hm=>
  cases (show u=Value.ref a from rx)
  obtain⟨mA,O,_⟩:=jMQ I.hok ea
  obtain⟨od,J,_⟩:=O.look
  exact bg (PySem.W.kitx_own (cl.get _) cl.hd ha hn htk hm) I.kIn J e (fun z=>nomatch z) h
end
end L2
namespace L2
open PySem PySem.Spec PyProof.Rows
structure Room (k:Nat)(A:Around):Prop where
 hd:A.handled=none
 dp:A.depth+3*k+5<recursionLimit
 un:A.units+16*k+200<cLine
theorem Room.mono {j k:Nat}{A:Around}(r:Room k A)(h:j<=k):Room j A:=⟨r.hd,by have:=r.dp; omega,by have:=r.un; omega⟩
theorem Room.deeper {k:Nat}{A:Around}(r:Room (k+1) A)(env:Env):Room k (A.deeper env):=
 ⟨r.hd,by have:=r.dp; show A.depth+1+3*k+5<_; omega,by have:=r.un; show A.units+3+16*k+200<_; omega⟩
theorem Room.depth {k:Nat}{A:Around}(r:Room k A):A.depth<recursionLimit:=by have:=r.dp; omega
theorem Room.units {k:Nat}{A:Around}(r:Room k A):A.units+64<cLine:=by have:=r.un; omega
theorem Room.units0 {k:Nat}{A:Around}(r:Room k A):A.units<cLine:=by have:=r.un; omega
def tNil:TA:=fun _ H Q=>Q [] H
def tCons (ta:TE)(tr:TA):TA:=fun σ H Q=>ta σ H fun x H1=>tr σ H1 fun xs H2=>Q (x::xs) H2
section
variable {X:Cx}{e:Expr}{es:List Expr}{te:TE}{t:TA}{pos:Pos}
theorem yC:PA X [] tNil:=fun _ _ _ _ H Q I h=>Calls.spliced_nil ⟨[],H,I, .nil,h⟩
theorem jR (ha:PE X e te)(hr:PA X es t)(hs:starEach (e::es) X.env=(false,eval e X.env)::starEach es X.env:=by rfl):PA X (e::es) (tCons te t):=by
 intro pos pins s σ H Q I h
 rw[hs]
 show wpAny _ _ (spliced ((false,eval e X.env)::backTo pos (starEach es X.env))) _ _ s
 refine Calls.spliced_cons (thn (ha pins s σ H _ I h) fun u s1 ⟨x,H1,I1,r1,q1⟩=>?_)
 exact thn (hr pos pins s1 σ H1 _ I1 q1) fun us s2 ⟨xs,H2,I2,r2,q2⟩=>⟨x::xs,H2,I2, .cons r1 r2,q2⟩
def tTup (t:TA):TE:=fun σ H Q=>t σ H fun xs H1=>xs.length<=sizeLine/\∀ p,H1 p=none->Q (.ref p) (upd H1 p (.tup xs))
def tLst (t:TA):TE:=fun σ H Q=>t σ H fun xs H1=>xs.length<=sizeLine/\∀ p,H1 p=none->Q (.ref p) (upd H1 p (.lst xs))
theorem jNK {x1}(h:PA X es t):PE X (.Tuple es x1 pos) (tTup t):=by
 intro pins s σ H Q I hq
 refine wpAny_Tuple_spliced (thn (h pos pins s σ H _ I hq) fun us s1 ⟨xs,H1,I1,r,z,q⟩=>⟨by rw[<- r.length]; exact z,?_⟩)
 have hf:H1 s1.heap.objs.size=none:=I1.hok.fresh (ai _)
 refine⟨.ref s1.heap.objs.size,upd H1 s1.heap.objs.size (.tup xs),I1.laid (t':=s1.toks) (fun b u e=>af _ e) (ai _) ?_,rfl,q _ hf⟩
 exact⟨z,us,r,TupO.new _ _⟩
theorem jG5 (h:PA X es t):PE X (.List es pos) (tLst t):=by
 intro pins s σ H Q I hq
 refine wpAny_List_spliced (thn (h pos pins s σ H _ I hq) fun us s1 ⟨xs,H1,I1,r,z,q⟩=>⟨by rw[<- r.length]; exact z,?_⟩)
 have hf:H1 s1.heap.objs.size=none:=I1.hok.fresh (ai _)
 refine⟨.ref s1.heap.objs.size,upd H1 s1.heap.objs.size (.lst xs),I1.laid (t':=s1.toks) (fun b u e=>af _ e) (ai _) ?_,rfl,q _ hf⟩
 exact⟨z,us,0,r,aj _ rfl⟩
end
abbrev Sp:=List V->Hp->VK->XK->Prop
abbrev CXT:=List Env->Hp->Shared->XK->Value->Shared->Prop
structure Env0 (P:Program)(w:World)(K:W.Frag)(mg:Str->Option Value)(base:Heap)(A:Around)(outer:List Env)(s:Shared)(H:Hp):Prop where
 frames:A.frames=some outer
 mod:Mod K mg base
 bs:∀ b o,base.get? b=some o->s.heap.get? b=some o/\H b=none
 bsz:base.objs.size<=s.heap.objs.size
 funs:s.heap.FunFrames base outer
 frf:∀ b∈frs outer,H b=none
 hok:HOk P w H s.heap
 bare:AllBare s.gens
def CE (outer:List Env)(P:Program)(w:World)(H:Hp)(s:Shared)(Q:VK)(u:Value)(s':Shared):Prop:=
 ∃ v H',s'.os=s.os/\AllBare s'.gens/\Un (frs outer) [] H H' s.heap s'.heap/\HOk P w H' s'.heap/\RelV v u/\Q v H'
def CR (CX:CXT)(outer:List Env)(P:Program)(w:World)(H:Hp)(s:Shared)(Q:VK)(E:XK)(r:Result)(s':Shared):Prop:=
 match r with
 | .ok (.ret u)=>CE outer P w H s Q u s'
 | .ok _=>False
 | .error e=>CX outer H s E e s'
structure FnOk (P:Program)(w:World)(K:W.Frag)(mg:Str->Option Value)(base:Heap)(CX:CXT)(k:Nat)(f:Addr)(fd:FuncData)(ps:List Str)(sp:Sp):Prop where
 len:∀ vs H Q E,sp vs H Q E->vs.length=ps.length
 run:∀ (A:Around) (outer:List Env) (s:Shared) (H:Hp) (args:Args) (us:List Value) (vs:List V) (Q:VK) (E:XK),Room k A->Env0 P w K mg base A outer s H->BindsTo s fd args (ps.zip us)->Vals vs us->sp vs H Q E->
  codeAny (model P w) A (.call (.ref f) args) (CR CX outer P w H s Q E) s
section
variable {X:Cx}{pins:List (Addr×Obj)}{σ:St}{H:Hp}{s s':Shared}
theorem Inv.env0 (I:Inv X pins σ H s):Env0 X.prog X.w X.K X.mg X.base X.A X.stack s H:=
 ⟨I.ok.frames,I.ok.mod,I.bs,bt I.ok.bsz I.sz,I.stack,I.stkFree,I.hok,I.bare⟩
theorem Inv.after {Q:VK}{u:Value}(I:Inv X pins σ H s)(h:CE X.stack X.prog X.w H s Q u s'):EP X pins σ Q u s':=by
 obtain⟨v,H',os,bare,un,hok,r,q⟩:=h
 obtain⟨hh,g,d,t,os'⟩:=s'
 obtain rfl:os'=s.os:=os
 exact⟨v,H',I.call (h':=hh) (g':=g) (d':=d) (t':=t) (ch:=[]) un hok bare (fun b z=>absurd z (by simp)),r,q⟩
end
def tCall (sp:Sp)(dvs:List V)(E:XK)(t:TA):TE:=fun σ H Q=>t σ H fun vs H1=>sp (vs++dvs) H1 Q E
def Binds (K:W.Frag)(fd:FuncData)(ps:List Str)(ds:List Value):Prop:=
 ∀ (s:Shared) (us:List Value),K.In s.heap->(us++ds).length=ps.length->BindsTo s fd ⟨us,[]⟩ (ps.zip (us++ds))
theorem Binds.all {K:W.Frag}{fd:FuncData}{ps:List Str}(h:∀ us:List Value,us.length=ps.length->bindArgs fd ⟨us,[]⟩=pure (ps.zip us)):Binds K fd ps []:=fun s us _ hl=>by
 rw[bn] at hl ⊢
 exact .of_eq (h us hl)
def jK1 (CX:CXT)(X:Cx)(E:XK):Prop:=∀ (pins:List (Addr×Obj)) (σ:St) (H:Hp) (s:Shared) (e:Value) (s':Shared),Inv X pins σ H s->CX X.stack H s E e s'->X.xe e s'
section
variable {X:Cx}{CX:CXT}{k:Nat}{f C:Addr}{fd:FuncData}{ps:List Str}{sp:Sp}{dvs:List V}{ds:List Value}{E:XK}{x m:Str}{p pos apos:Pos}{e o:Expr}{es:List Expr}{ta:TE}{t:TA}
theorem jN8 {pins:List (Addr×Obj)}{σ:St}{H:Hp}{s:Shared}{Q:VK}{us:List Value}{vs:List V}(F:FnOk X.prog X.w X.K X.mg X.base CX k f fd ps sp)(hr:Room k X.A)(hb:Binds X.K fd ps ds)(hd:Vals dvs ds)(hx:jK1 CX X E)
  (I:Inv X pins σ H s) (r:Vals vs us) (h:sp (vs++dvs) H Q E):wpAny (model X.prog X.w) X.A (call (.ref f) us) (EP X pins σ Q) X.xe s:=by
 have r2:Vals (vs++dvs) (us++ds):=r.append hd
 have hl:(us++ds).length=ps.length:=by rw[<- r2.length]; exact F.len _ _ _ _ h
 refine dn (bX (F.run X.A X.stack s H ⟨us,[]⟩ (us++ds) (vs++dvs) Q E hr I.env0 (hb s us I.kIn hl) r2 h) fun r s' hq=>?_)
 cases r with
 | error e=>exact hx pins σ H s e s' I hq
 | ok fl=>
  cases fl with
  | ret u=>exact I.after hq
  | next=>exact False.elim hq
  | brk=>exact False.elim hq
  | cont=>exact False.elim hq
theorem jMB (F:FnOk X.prog X.w X.K X.mg X.base CX k f fd ps sp)(hr:Room k X.A)(hg:Gl X x)(hm:X.mg x=some (.ref f))(hk:keepIn X.K (.ref f)=true)(hb:Binds X.K fd ps ds)(hd:Vals dvs ds)(hx:jK1 CX X E)
  (ha:PA X (e::es) t) (hdb:(x==("__debug__" :Str))=false:=by decide) (he:starEach (e::es) X.env=(false,eval e X.env)::starEach es X.env:=by rfl) (hpl:(backTo pos (starEach es X.env)).any (·.1)=false:=by rfl):
  PE X (.Call (.Name x p) (e::es) [] pos) (tCall sp dvs E t):=by
 intro pins s σ H Q I h
 refine bB (jBS I hg hm ?_ hdb)
 refine ef (h₀:=X.base) I.ok.mod.kin hk (thn (ha pos pins s σ H _ I h) fun us s1 ⟨vs,H1,I1,r,q⟩=>⟨I1.kIn,?_⟩) he hpl
 exact jN8 F hr hb hd hx I1 r q
end
section
variable {X:Cx}{CX:CXT}{k:Nat}{f C:Addr}{fd:FuncData}{ps ks:List Str}{sp:Sp}{E:XK}{x m:Str}{p pos apos kpos:Pos}{e o:Expr}{es:List Expr}{kws:List Keyword}{te ta:TE}{t tk:TA}{nm:Option Str}
variable {g:List Value->List Value->List Value}{gV:List V->List V->List V}
end
structure FnScope (N P:List Str)(sc:Scope):Prop where
 kind:sc.kind= .function
 co:sc.isCoroutine=false
 gen:sc.isGenerator=false
 nd:N.Nodup
 pre:N.take P.length=P
 par:∀ x∈P,sc.names.lookup x=some .local\/sc.names.lookup x=some .cell
 nofree:∀ y∈sc.names,y.2≠ .free
theorem jF4 {kindOf:Str->Option NameKind}{x:Str} :∀ {binds:List (Str×Value)}{m:Str->Option Value},(∀ v,(x,v)∉binds)->bindL kindOf binds m x=m x
 | [],_,_=>rfl
 | (n,v)::r,m,h=>by
  unfold bindL
  rw[jF4 fun w hw=>h w (aC _ hw)]
  split
  ·have:x≠n:=by rintro rfl; exact h v aB
   simp [this]
  ·rfl
theorem jF6 {kindOf:Str->Option NameKind}{x:Str} :∀ {binds:List (Str×Value)}{m:Str->Option Value},(∀ v,(x,v)∉binds)->bindC kindOf binds m x=m x
 | [],_,_=>rfl
 | (n,v)::r,m,h=>by
  unfold bindC
  rw[jF6 fun w hw=>h w (aC _ hw)]
  split
  ·rfl
  ·have:x≠n:=by rintro rfl; exact h v aB
   simp [this]
theorem jF5 {kindOf:Str->Option NameKind}{x:Str}{v:Value} :∀ {P:List Str}{vs:List Value}{i:Nat}{m:Str->Option Value},P.Nodup->P[i]?=some x->vs[i]?=some v->kindOf x=some .local->
  bindL kindOf (P.zip vs) m x=some v
 | [],_,_,_,_,h,_,_=>by simp at h
 | _::_,[],_,_,_,_,h,_=>by simp at h
 | p::P,w::vs,0,m,nd,h1,h2,hk=>by
  simp at h1 h2; subst h1; subst h2
  show bindL kindOf ((p,w)::P.zip vs) m p=_
  unfold bindL
  rw[jF4 fun v hv=>(bJ.mp nd).1 (cy hv).1,aA hk]
  simp
 | p::P,w::vs,i+1,m,nd,h1,h2,hk=>by
  show bindL kindOf ((p,w)::P.zip vs) m x=_
  unfold bindL
  exact jF5 (i:=i) (bJ.mp nd).2 (by simpa using h1) (by simpa using h2) hk
theorem jF7 {kindOf:Str->Option NameKind}{x:Str}{v:Value} :∀ {P:List Str}{vs:List Value}{i:Nat}{m:Str->Option Value},P.Nodup->P[i]?=some x->vs[i]?=some v->kindOf x≠some .local->
  bindC kindOf (P.zip vs) m x=some v
 | [],_,_,_,_,h,_,_=>by simp at h
 | _::_,[],_,_,_,_,h,_=>by simp at h
 | p::P,w::vs,0,m,nd,h1,h2,hk=>by
  simp at h1 h2; subst h1; subst h2
  show bindC kindOf ((p,w)::P.zip vs) m p=_
  unfold bindC
  rw[jF6 fun v hv=>(bJ.mp nd).1 (cy hv).1,az hk]
  simp
 | p::P,w::vs,i+1,m,nd,h1,h2,hk=>by
  show bindC kindOf ((p,w)::P.zip vs) m x=_
  unfold bindC
  exact jF7 (i:=i) (bJ.mp nd).2 (by simpa using h1) (by simpa using h2) hk
def kT (N:List Str)(vs:List V):St:=vs.map some++replicate (N.length - vs.length) none
def cxOf (CX:CXT)(P:Program)(w:World)(K:W.Frag)(mg:Str->Option Value)(base:Heap)(N:List Str)(qual:Str)(scope:Scope)(f:Addr)(cd:Value)(A:Around)(outer:List Env)(s:Shared)(H:Hp)(E:XK):Cx where
 prog:=P
 w:=w
 K:=K
 mg:=mg
 base:=base
 A:=A.deeper (envOfC qual scope s.heap.objs.size f cd)
 N:=N
 s₀:=s
 H₀:=H
 env:=envOfC qual scope s.heap.objs.size f cd
 outer:=outer
 stack:=envOfC qual scope s.heap.objs.size f cd::outer
 ex:=[]
 calm:=true
 fn:=fun _=>true
 pn:=[]
 xe:=fun e s'=>wpAny (model P w) (A.deeper (envOfC qual scope s.heap.objs.size f cd)) (leaving (envOfC qual scope s.heap.objs.size f cd) e) (fun _ s''=>CX outer H s E e s'') (fun e' s''=>CX outer H s E e' s'') s'
theorem jGM {sc:Scope}{n:Nat}{x:Str}(h:sc.names.lookup x=some .cell):∃ c,(cellsFrom n sc.names []).lookup x=some c:=by
 have q:=cX sc.names n [] (.inl h)
 exact cf.mp q
theorem jEQ {CX:CXT}{P:Program}{w:World}{K:W.Frag}{mg:Str->Option Value}{base:Heap}{N ps:List Str}{qual:Str}{scope:Scope}{f:Addr}{cd:Value}{A:Around}{outer:List Env}{s s1:Shared}{H:Hp}{E:XK}{us:List Value}{vs:List V}
  (S:FnScope N ps scope) (hd:A.handled=none) (e0:Env0 P w K mg base A outer s H) (hl:vs.length=ps.length) (r:Vals vs us)
  (x:InCallC s s.heap.objs.size (bindL (envOfC qual scope s.heap.objs.size f cd).kindOf (ps.zip us) fun _=>none) (cellsFrom (s.heap.objs.size+1) scope.names []) (bindC (envOfC qual scope s.heap.objs.size f cd).kindOf (ps.zip us) fun _=>none) s1):
  Inv (cxOf CX P w K mg base N qual scope f cd A outer s H E) [] (kT N vs) H s1:=by
 have hpl:ps.length<=N.length:=by have:=bF List.length S.pre; rw[aP] at this; omega
 obtain⟨h1,tk,rfl,hk⟩:=x.done
 have noA:∀ b:Addr,b∉(cxOf CX P w K mg base N qual scope f cd A outer s H E).ex:=fun b z=>absurd (show b∈([]:List Addr) from z) (by simp)
 refine⟨⟨e0.mod,S.kind,rfl,rfl,ai _,fun y z c h1 h2=>?_,fun y hy=>?_,fun y c _ h=>?_,fun _=>hd,dz e0.frames, .inr ⟨rfl,rfl⟩,fun b z=>absurd z (noA b),e0.bs,e0.bsz,fun b _ _=>noA b,fun b z=>absurd z (noA b),e0.funs,e0.frf⟩,
  rfl,e0.bare,Un.kept hk,⟨_,x.toInCall.ns,fun i y v h1 h2 h3=>?_⟩,fun y c h=>⟨_,x.cell y c h⟩,e0.hok.fresh (ai _),fun y c h=>?_,fun p hp=>absurd (show p∈([]:List (Addr×Obj)) from hp) (by simp),e0.hok.kept hk,?_⟩
 ·exact name_of_addr x.apart (bx h1) (bx h2)
 ·have hy:scope.names.lookup y=some .cell\/scope.names.lookup y=some .free:=hy
  rcases hy with hy | hy
  ·exact jGM hy
  ·exact absurd rfl (S.nofree _ (bx hy))
 ·exact bM (x.above y c (bx h))
 ·have hi:i<vs.length:=by
   unfold kT at h2
   by_cases hi:i<vs.length
   ·exact hi
   ·rw[bu (by simpa using hi)] at h2
    rw[fm] at h2
    split at h2 <;> cases h2
  have ha:vs[i]?=some v:=by
   unfold kT at h2
   rw[bA (by simpa using hi),aG] at h2
   cases e:vs[i]? with
   | none=>rw[e] at h2; cases h2
   | some a=>rw[e] at h2; cases h2; rfl
  obtain⟨u,hu,rv⟩:=r.get ha
  have hp:ps[i]?=some y:=by
   rw[<- S.pre,fe (by omega)]; exact h1
  have ndP:ps.Nodup:=by rw[<- S.pre]; exact S.nd.sublist (cY _ _)
  refine⟨u,rv,?_⟩
  rcases S.par y (aW hp) with k | k
  ·exact .inl ⟨k,jF5 ndP hp hu k⟩
  ·obtain⟨c,e⟩:=jGM (n:=s.heap.objs.size+1) k
   refine .inr ⟨.inl k,c,e,?_⟩
   have q:=x.cell y c e
   rw[jF7 ndP hp hu (by show scope.names.lookup y≠_; rw[k]; decide)] at q
   exact q
 ·exact e0.hok.fresh (bM (x.above y c (bx h)))
 ·unfold kT
  show _=N.length
  rw[al,ae,cC]
  omega
theorem fn_of {CX:CXT}{P:Program}{w:World}{K:W.Frag}{mg:Str->Option Value}{base:Heap}{k:Nat}{f:Addr}{name qual:Str}{params:Arguments}{body:List Stmt}{scope:Scope}{dV kV doc pm cdv ct oc:Value}{an od:Option Addr}
  {osl:Array (Option Value)}{N ps:List Str}{sp:Sp}(lk:K.lookup f=some ⟨oc,od, .func (PySem.W.fnOf name qual params body scope dV kV doc pm an cdv ct),osl⟩) (hcd:PySem.W.codeIn K cdv qual=true) (S:FnScope N ps scope)
  (len:∀ vs H Q E,sp vs H Q E->vs.length=ps.length)
  (hbody:∀ (A:Around) (outer:List Env) (s:Shared) (H:Hp) (vs:List V) (Q:VK) (E:XK),Room k (A.deeper (envOfC qual scope s.heap.objs.size f cdv))->sp vs H Q E->
   ∃ t,PSs (cxOf CX P w K mg base N qual scope f cdv A outer s H E) body t/\t { nx:=fun _ H'=>Q .non H',rt:=Q} (kT N vs) H):
  FnOk P w K mg base CX (k+1) f (PySem.W.fnOf name qual params body scope dV kV doc pm an cdv ct) ps sp:=by
 refine⟨len,fun A outer s H args us vs Q E hr e0 hb r hsp=>?_⟩
 have hl:=len _ _ _ _ hsp
 have KX:K.In s.heap:=e0.mod.kin.keeps fun b o e=>(e0.bs b o e).1
 have lim:s.heap.NoLimit:=e0.mod.nolimit.keeps fun b o e=>(e0.bs b o e).1
 have hkind:∀ y∈ps.zip us,scope.names.lookup y.1=some .local\/(scope.names.lookup y.1=some .cell/\((cellsFrom (s.heap.objs.size+1) scope.names []).lookup y.1).isSome=true):=fun ⟨n,v⟩ hy=>by
  rcases S.par n (cy hy).1 with q | q
  ·exact .inl q
  ·exact .inr ⟨q,cX _ _ _ (.inl q)⟩
 refine codeAny_call_function hr.depth (KX _ _ lk) rfl S.co S.gen rfl (gG KX hcd) (hb _ _ _ _ ?_)
 refine eg S.kind hkind fun env he s1 x=>?_
 subst he
 refine⟨lim.keeps x.toInCall.keep,codeAny_func ?_⟩
 obtain⟨t,ht,hq⟩:=hbody A outer s H vs Q E (hr.deeper _) hsp
 have I:Inv (cxOf CX P w K mg base N qual scope f cdv A outer s H E) [] (kT N vs) H s1:=jEQ S hr.hd e0 hl r x
 refine bf (ht [] s1 (kT N vs) H _ I hq) (fun fl s' hs=>?_) fun e s' hs=>hs
 have fin:∀ {σ':St}{H':Hp}{v:V}{u:Value},Inv (cxOf CX P w K mg base N qual scope f cdv A outer s H E) [] σ' H' s'->RelV v u->Q v H'->CE outer P w H s Q u s':=
  fun {σ' H' v u} J rv q=>⟨v,H',J.os,J.bare,J.base,J.hok,rv,q⟩
 cases fl with
 | ret u=>
  obtain⟨v,σ',H',J,rv,q⟩:=hs
  exact fin J rv q
 | next=>
  obtain⟨σ',H',J,q⟩:=hs
  exact fin (v:=V.non) (u:=Value.none) J rfl q
 | brk=>
  obtain⟨_,_,_,q⟩:=hs
  exact False.elim q
 | cont=>
  obtain⟨_,_,_,q⟩:=hs
  exact False.elim q
end L2
namespace L2
open PySem PySem.Spec PyProof.Rows
section
variable {X:Cx}{x:Str}{p pos:Pos}{e:Expr}{es:List Expr}{t:TA}{id T:String}{r:List V->Hp->VK->Prop}
def tCB (r:List V->Hp->VK->Prop)(t:TA):TE:=fun σ H Q=>t σ H fun vs H1=>r vs H1 Q
theorem jDM (hc:yD X (.builtin id) r)(hg:Gl X x)(hm:X.mg x=none)(hv:bootBuiltins x=some (.builtin id))(ha:PA X (e::es) t)(hn:x≠ "__name__" :=by decide)(hdb:(x==("__debug__" :Str))=false:=by decide)
  (he:starEach (e::es) X.env=(false,eval e X.env)::starEach es X.env:=by rfl) (hpl:(backTo pos (starEach es X.env)).any (·.1)=false:=by rfl):PE X (.Call (.Name x p) (e::es) [] pos) (tCB r t):=by
 intro pins s σ H Q I h
 refine bB (jCR I hg hm hv ?_ hn hdb)
 exact PyProof.Rows.callWith_builtin1 (thn (ha pos pins s σ H _ I h) fun us s1 ⟨vs,H1,I1,r1,q1⟩=>hc pins s1 σ H1 vs us Q I1 r1 q1) he hpl
theorem jBE (hc:yD X (.type T) r)(hg:Gl X x)(hm:X.mg x=none)(hv:bootBuiltins x=some (.type T))(ha:PA X (e::es) t)(hn:x≠ "__name__" :=by decide)(hdb:(x==("__debug__" :Str))=false:=by decide)
  (he:starEach (e::es) X.env=(false,eval e X.env)::starEach es X.env:=by rfl) (hpl:(backTo pos (starEach es X.env)).any (·.1)=false:=by rfl):PE X (.Call (.Name x p) (e::es) [] pos) (tCB r t):=by
 intro pins s σ H Q I h
 refine bB (jCR I hg hm hv ?_ hn hdb)
 exact bq (thn (ha pos pins s σ H _ I h) fun us s1 ⟨vs,H1,I1,r1,q1⟩=>hc pins s1 σ H1 vs us Q I1 r1 q1) he hpl
end
end L2
namespace HT
open PySem PyProof.Rows
section
open PySem.SeqAt
open PySem.AutoSeq1 (wpAny_loadPart')
open PySem.MeetsSeq PySem.MeetsSeq2 PySem.MeetsSeq3
end
section
variable {prog:Program}{w:World}{A:Around}{E:Value->Shared->Prop}{s:Shared}
theorem cat_tup {t b:Addr}{vs ws:List Value}{Q:Value->Shared->Prop}(ht:IsTup s.heap t vs.toArray)(hb:IsTup s.heap b ws.toArray)(hv:vs≠ [])
  (h1:ws=[]->Q (.ref t) s) (h2:ws≠ []->Q (.ref s.heap.objs.size) { s with heap:=s.heap.push { cls:= .type "tuple",data:= .seq (vs++ws).toArray}})
  (hsz:vs.length+ws.length<=sizeLine):wpAny (model prog w) A (binaryOp .Add (.ref t) (.ref b)) Q E s:=by
 obtain⟨⟨cls,dd,data,sl⟩,ho,hc,n,hd⟩:=id ht
 obtain⟨⟨cls2,dd2,data2,sl2⟩,ho2,hc2,n2,hd2⟩:=id hb
 simp only at hc hd hc2 hd2
 subst hc hd hc2 hd2
 have e:vs.toArray++ws.toArray=(vs++ws).toArray:=by simp
 by_cases hw:ws=[]
 ·exact concat_meets ⟨_,ho,rfl⟩ ⟨_,ho2,rfl⟩ fo seq_tuple_add cZ cU (cN _ _)
   (tuple_addW1 t b vs.toArray ws.toArray n n2 dd dd2 sl sl2 (by simpa using hv) (by simp [hw])) ⟨ho,ho2,h1 hw⟩
 ·refine concat_meets ⟨_,ho,rfl⟩ ⟨_,ho2,rfl⟩ fo seq_tuple_add cZ cU (cN _ _)
   (tuple_addW2 t b vs.toArray ws.toArray n n2 dd dd2 sl sl2 (by simpa using hv) (by simpa using hw) (by rw[ah,ah]; exact hsz)) ⟨ho,ho2,?_⟩
  rw[e]
  exact h2 hw
def sIx (n d:Nat):Option Int->Nat
 | none=>d
 | some v=>if v<0 then (v+(n:Int)).toNat else min v.toNat n
theorem sIx_none (n d:Nat):sIx n d none=d:=rfl
theorem sIx_nat (n d k:Nat):sIx n d (some (k:Int))=min k n:=by
 show (if (k:Int)<0 then ((k:Int)+(n:Int)).toNat else min (k:Int).toNat n)=min k n
 rw[az (by omega),bj]
theorem jN7 (n d:Nat)(hd:d<=n)(o:Option Int):sIx n d o<=n:=by
 cases o with
 | none=>exact hd
 | some v=>
  show (if v<0 then (v+(n:Int)).toNat else min v.toNat n)<=n
  by_cases hv:v<0
  ·rw[aA hv]; omega
  ·rw[az hv]; exact Nat.min_le_right _ _
theorem jJT (v:Int)(n d:Nat):(if v<0 then max (v+(n:Int)) 0 else min v (n:Int))=((sIx n d (some v):Nat):Int):=by
 show (if v<0 then max (v+(n:Int)) 0 else min v (n:Int))=(((if v<0 then (v+(n:Int)).toNat else min v.toNat n):Nat):Int)
 by_cases hv:v<0
 ·simp only [aA hv]; omega
 ·simp only [az hv]; omega
theorem jHH (lo hi:Option Int)(n:Nat):Builtin.Slice.sliceAdjust lo hi 1 (n:Int)=(((sIx n 0 lo:Nat):Int),((sIx n n hi:Nat):Int)):=by
 have h1:¬ ((1:Int)<0):=by omega
 unfold Builtin.Slice.sliceAdjust
 simp only [h1,if_false]
 refine Prod.ext ?_ ?_
 ·cases lo with
  | none=>rfl
  | some v=>exact jJT v n 0
 ·cases hi with
  | none=>rfl
  | some v=>exact jJT v n n
theorem jH1 (i j:Nat):Builtin.Slice.slicePlaces (i:Int) (j:Int) 1=j - i:=by
 unfold Builtin.Slice.slicePlaces
 have h1:(1:Int)>0:=by omega
 simp only [h1,fM,Int.ediv_one]
 split <;> omega
theorem slicePart_ {v:Value}{o:Option Int}{Q:Option Int->Shared->Prop}(p:IsPart v o)(h:Q o s):wpAny (model prog w) A (Builtin.Slice.slicePartIndex v) Q E s:=by
 cases p with
 | none=>exact eh h
 | int i t=>exact slicePart_int h
theorem sliceApplied_gen {sl:Addr}{vl vu:Value}{lo hi:Option Int}{n:Nat}{Q:Int×Int×Nat->Shared->Prop}(hs:s.heap.IsSliceOf sl vl vu .none)(pl:IsPart vl lo)(pu:IsPart vu hi)
  (h:Q (((sIx n 0 lo:Nat):Int),1,sIx n n hi - sIx n 0 lo) s):wpAny (model prog w) A (Builtin.Slice.sliceApplied (.ref sl) (pure (n:Int))) Q E s:=by
 obtain⟨os,hos,hcs,hds⟩:=id hs
 unfold Builtin.Slice.sliceApplied Builtin.Slice.sliceFields
 refine ac (ac (aN hos hds (x:=vl) rfl (ac (aN hos hds (x:=vu) rfl (ac (aN hos hds (x:= .none) rfl (ag ?_)))))))
 refine ac (eh ?_)
 show wpAny _ _ (if ((1:Int)==0)=true then _ else _) _ _ s
 rw[az (by decide)]
 refine ac (slicePart_ pl (ac (slicePart_ pu (ac (ag ?_)))))
 show wpAny _ _ (match Builtin.Slice.sliceAdjust lo hi 1 (n:Int) with | (lo,hi)=>pure (lo,(1:Int),Builtin.Slice.slicePlaces lo hi 1)) _ _ s
 rw[jHH lo hi n]
 show wpAny _ _ (pure (((sIx n 0 lo:Nat):Int),(1:Int),Builtin.Slice.slicePlaces ((sIx n 0 lo:Nat):Int) ((sIx n n hi:Nat):Int) 1)) _ _ s
 rw[jH1]
 exact ag h
theorem jKB (xs:Array Value)(i k:Nat):((List.range k).filterMap fun (m:Nat)=>xs[((i:Int)+(m:Int)*1).toNat]?).toArray=((xs.toList.drop i).take k).toArray:=by
 have e:(fun (m:Nat)=>xs[((i:Int)+(m:Int)*1).toNat]?)=fun m=>xs[i+m]?:=by
  funext m
  have:((i:Int)+(m:Int)*1).toNat=i+m:=by omega
  rw[this]
 rw[e]
 have:=pick_run xs i k
 rw[List.filterMap_map] at this
 have e2:((fun x=>xs[x]?) ∘ fun x=>i+x)=fun m=>xs[i+m]?:=rfl
 rw[e2] at this
 rw[this]
theorem getItem_tuple_cut {t sl:Addr}{items:Array Value}{vl vu:Value}{lo hi:Option Int}{Q:Value->Shared->Prop}(ht:IsTup s.heap t items)(hs:s.heap.IsSliceOf sl vl vu .none)(pl:IsPart vl lo)(pu:IsPart vu hi)
  (hw:¬ (sIx items.size 0 lo=0/\sIx items.size items.size hi=items.size))
  (h:Q (.ref s.heap.objs.size) { s with heap:=s.heap.push { cls:= .type "tuple",data:= .seq ((items.toList.drop (sIx items.size 0 lo)).take (sIx items.size items.size hi - sIx items.size 0 lo)).toArray}})
  (hsz:items.size<=sizeLine):wpAny (model prog w) A (getItem (.ref t) (.ref sl)) Q E s:=by
 have htake:sizeOk (.seq ((items.toList.drop (sIx items.size 0 lo)).take (sIx items.size items.size hi - sIx items.size 0 lo)).toArray):=by
  show ((items.toList.drop (sIx items.size 0 lo)).take (sIx items.size items.size hi - sIx items.size 0 lo)).toArray.size<=sizeLine
  rw[ah,aP,bP,aU]
  omega
 have hj:sIx items.size items.size hi<=items.size:=jN7 _ _ (ai _) hi
 obtain⟨os,hos,hcs,hds⟩:=id hs
 have hTs:s.TypeIs (.ref sl) "slice" :=⟨os,hos,hcs⟩
 unfold getItem
 try with_reducible refine aL ?_
 first | refine ac (ag ?_) | skip
 refine ac (eT ht.typeIs (by decide) ?_)
 refine ac (aQ (name:=Str.ofString "__getitem__") ht.typeIs aF
  (aR aF ht.typeIs dR ?_ (ej _ _)))
 show wpAny _ _ (Builtin.Tuple.tupleItemsOf (.ref t) >>= _) _ _ s
 refine ac (tupleItemsOf_ ht ?_)
 refine ac (bY hTs ?_)
 rw[aA (by decide)]
 refine ac (sliceApplied_gen hs pl pu ?_)
 have hno:¬ ((((sIx items.size 0 lo:Nat):Int)==0&&(1:Int)==1&&(sIx items.size items.size hi - sIx items.size 0 lo)==items.size)=true):=by
  intro q
  rw[aS,aS] at q
  have q1:((sIx items.size 0 lo:Nat):Int)=0:=eq_of_beq q.1.1
  have q2:sIx items.size items.size hi - sIx items.size 0 lo=items.size:=eq_of_beq q.2
  exact hw ⟨by omega,by omega⟩
 show wpAny _ _ (if (((sIx items.size 0 lo:Nat):Int)==0&&(1:Int)==1&&(sIx items.size items.size hi - sIx items.size 0 lo)==items.size)=true then _ else _) _ _ s
 rw[az hno,jKB]
 first
  | exact ac (m:=Builtin.Tuple.tupleExact _) (ay (ag ⟨_,rfl,ag h⟩) htake)
  | exact ac (m:=Builtin.Tuple.tupleExact _) (ay (ac (ag (ag ⟨_,rfl,ag h⟩))) htake)
  | exact ac (ac (m:=Builtin.Tuple.tupleExact _) (ay (ag (ag ⟨_,rfl,ag h⟩)) htake))
  | exact ac (ac (m:=Builtin.Tuple.tupleExact _) (ay (ag ⟨_,rfl,ag h⟩) htake))
end
end HT
namespace L2
open PySem PySem.Spec PyProof.Rows
abbrev TO:=St->Hp->(Option Int->Hp->Prop)->Prop
def PO (X:Cx)(e:Option Expr)(t:TO):Prop:=
 ∀ (pins:List (Addr×Obj)) (s:Shared) (σ:St) (H:Hp) (Q:Option Int->Hp->Prop),Inv X pins σ H s->t σ H Q->
  wpAny (model X.prog X.w) X.A (evalPart e X.env) (fun u s'=>∃ o H',Inv X pins σ H' s'/\IsPart u o/\Q o H') X.xe s
def jHR:TO:=fun _ H Q=>Q none H
def tPart (t:TE):TO:=fun σ H Q=>t σ H fun x H1=>∃ i,x= .int i/\Q (some i) H1
section
variable {X:Cx}{e:Expr}{te:TE}{lo hi:Option Expr}{tl th:TO}{pos p2:Pos}
theorem jM0:PO X none jHR:=by
 intro pins s σ H Q I h
 rw[evalPart_none]
 exact ag ⟨none,H,I, .none,h⟩
theorem jLZ (h:PE X e te):PO X (some e) (tPart te):=by
 intro pins s σ H Q I hw
 rw[evalPart_some]
 refine thn (h pins s σ H _ I hw) fun u s1 ⟨x,H1,I1,r1,q1⟩=>?_
 obtain⟨i,rfl,q⟩:=q1
 obtain⟨t,rfl⟩:=r1
 exact⟨some i,H1,I1, .int i t,q⟩
def SlR (X:Cx)(r:V->Option Int->Option Int->Hp->VK->Prop):Prop:=
 ∀ (pins:List (Addr×Obj)) (s:Shared) (σ:St) (H:Hp) (x:V) (v vl vu:Value) (lo hi:Option Int) (sl:Addr) (Q:VK),Inv X pins σ H s->RelV x v->s.heap.IsSliceOf sl vl vu .none->IsPart vl lo->IsPart vu hi->r x lo hi H Q->
  ∃ T id,typeLookup (.type T) "__getitem__" =pure (some (.builtin id))/\s.TypeIs v T/\wpAny (model X.prog X.w) X.A (getItem v (.ref sl)) (EP X pins σ Q) X.xe s
def tSl (r:V->Option Int->Option Int->Hp->VK->Prop)(te:TE)(tl th:TO):TE:=fun σ H Q=>te σ H fun x H1=>tl σ H1 fun l H2=>th σ H2 fun u H3=>r x l u H3 Q
theorem jKD {r:V->Option Int->Option Int->Hp->VK->Prop}(hr:SlR X r)(he:PE X e te)(hl:PO X lo tl)(hu:PO X hi th):PE X (.Subscript e (.Slice lo hi none p2) pos) (tSl r te tl th):=by
 intro pins s σ H Q I h
 refine Subscript_ (thn (he pins s σ H _ I h) fun v s1 ⟨x,H1,I1,r1,q1⟩=>?_)
 refine wpAny_Slice (thn (hl pins s1 σ H1 _ I1 q1) fun vl s2 ⟨l,H2,I2,pl,q2⟩=>thn (hu pins s2 σ H2 _ I2 q2) fun vu s3 ⟨u,H3,I3,pu,q3⟩=>?_)
 rw[evalPart_none]
 refine ag ?_
 have I4:Inv X pins σ H3 { s3 with heap:=s3.heap.push { cls:= .type "slice",data:= .fields #[vl,vu, .none]}} :=I3.kept (t':=s3.toks) fun b ob q=>af _ q
 obtain⟨T,id,hT,ht,hg⟩:=hr pins { s3 with heap:=s3.heap.push { cls:= .type "slice",data:= .fields #[vl,vu, .none]}} σ H3 x v vl vu l u s3.heap.objs.size Q I4 r1 (Heap.IsSliceOf.new ..) pl pu q3
 show wpAny (model X.prog X.w) X.A (subscriptTail e (.Slice lo hi none p2) v (.ref s3.heap.objs.size)) (EP X pins σ Q) X.xe { s3 with heap:=s3.heap.push { cls:= .type "slice",data:= .fields #[vl,vu, .none]}}
 exact tail_any (ops:=[.ref s3.heap.objs.size,v]) ht hT hg (by with_unfolding_all rfl)
def cutV (xs:List V)(lo hi:Option Int):List V:=(xs.drop (HT.sIx xs.length 0 lo)).take (HT.sIx xs.length xs.length hi - HT.sIx xs.length 0 lo)
theorem jCY (xs:List V)(lo hi:Option Int):(cutV xs lo hi).length<=xs.length:=by
 unfold cutV
 rw[aP,bP]
 omega
def rSlT (K:W.Frag):V->Option Int->Option Int->Hp->VK->Prop:=fun x lo hi H Q=>∃ a xs,x= .ref a/\SqT K H a xs/\
 ¬ (HT.sIx xs.length 0 lo=0/\HT.sIx xs.length xs.length hi=xs.length)/\∀ p,H p=none->Q (.ref p) (upd H p (.tup (cutV xs lo hi)))
theorem jN5:SlR X (rSlT X.K):=by
 intro pins s σ H x v vl vu lo hi sl Q I rx hs pl pu h
 obtain⟨a,xs,rfl,hx,hw,q⟩:=h
 cases rx
 obtain⟨its,r,ht,hz⟩:=I.tuple hx
 have hlen:its.toArray.size=xs.length:=by rw[ah]; exact r.length.symm
 refine⟨"tuple",_,aF.lookup,ht.typeIs,?_⟩
 refine HT.getItem_tuple_cut ht hs pl pu (by rw[hlen]; exact hw) ?_ (by rw[hlen]; exact hz)
 rw[hlen]
 refine⟨.ref s.heap.objs.size,_,I.laid (t':=s.toks) (o:= .tup (cutV xs lo hi)) (fun b ob q=>af _ q) (ai _) ?_,rfl,q _ (I.hok.fresh (ai _))⟩
 exact⟨bt (jCY xs lo hi) hz,_,(r.drop (HT.sIx xs.length 0 lo)).take (HT.sIx xs.length xs.length hi - HT.sIx xs.length 0 lo),TupO.new _ _⟩
def rCatT (K:W.Frag):R2:=fun x y H Q=>∃ a b xs ys,x= .ref a/\y= .ref b/\SqT K H a xs/\SqT K H b ys/\xs≠ []/\xs.length+ys.length<=sizeLine/\
 (ys=[]->Q (.ref a) H)/\(ys≠ []->∀ p,H p=none->Q (.ref p) (upd H p (.tup (xs++ys))))
theorem Vals.nil_iff {xs:List V}{us:List Value}(r:Vals xs us):us=[]↔xs=[]:=by
 cases r with
 | nil=>simp
 | cons _ _=>simp
theorem jMG:OpR X (binaryOp .Add) (rCatT X.K):=by
 intro pins s σ H x y v u Q I rx ry h
 obtain⟨a,b,xs,ys,rfl,rfl,ha,hb,hx,hz,q1,q2⟩:=h
 cases rx
 cases ry
 obtain⟨its,r1,p1,_⟩:=I.tuple ha
 obtain⟨its2,r2,p2,_⟩:=I.tuple hb
 refine HT.cat_tup p1 p2 (fun z=>hx (r1.nil_iff.mp z)) (fun z=>⟨.ref a,H,I,rfl,q1 (r2.nil_iff.mp z)⟩) (fun z=>?_) (by rw[<- r1.length,<- r2.length]; exact hz)
 refine⟨.ref s.heap.objs.size,_,I.laid (t':=s.toks) (o:= .tup (xs++ys)) (fun b ob q=>af _ q) (ai _) ?_,rfl,q2 (fun w=>z (r2.nil_iff.mpr w)) _ (I.hok.fresh (ai _))⟩
 exact⟨by rw[al]; exact hz,_,r1.append r2,TupO.new _ _⟩
end
end L2
namespace L2
open PySem PySem.Spec PyProof.Rows
def ixN (n:Nat)(i:Int):Option Nat:=if 0<=i then (if i<n then some i.toNat else none) else if -(n:Int)<=i then some (i+n).toNat else none
def atI {α:Type}(xs:List α)(i:Int):Option α:=(ixN xs.length i).bind fun j=>xs[j]?
theorem jJ9 {n:Nat}{i:Int}{j:Nat}(h:ixN n i=some j):seqIndex? i n=some j/\j<n/\ -(n:Int)<=i/\i<n:=by
 unfold ixN at h
 by_cases h0:0<=i
 ·rw[aA h0] at h
  by_cases h1:i<n
  ·rw[aA h1] at h
   have e:i.toNat=j:=aK h
   exact⟨by rw[seqIndex_of h0 h1,e],by omega,by omega,h1⟩
  ·rw[az h1] at h; cases h
 ·rw[az h0] at h
  by_cases h1: -(n:Int)<=i
  ·rw[aA h1] at h
   have e:(i+n).toNat=j:=aK h
   exact⟨by rw[seqIndex_neg (by omega) h1,e],by omega,h1,by omega⟩
  ·rw[az h1] at h; cases h
theorem jJZ {α:Type}{xs:List α}{i:Int}{v:α}(h:atI xs i=some v):∃ j,seqIndex? i xs.length=some j/\xs[j]?=some v/\j<xs.length/\ -(xs.length:Int)<=i/\i<xs.length:=by
 unfold atI at h
 cases e:ixN xs.length i with
 | none=>rw[e] at h; cases h
 | some j=>
  rw[e] at h
  obtain⟨h1,h2,h3,h4⟩:=jJ9 e
  exact⟨j,h1,h,h2,h3,h4⟩
theorem jFV {α:Type}{xs:List α}{j:Nat}{v:α}(h:xs[j]?=some v):atI xs (j:Int)=some v:=by
 have hj:j<xs.length:=(ar.mp h).1
 have e:ixN xs.length (j:Int)=some j:=by
  unfold ixN
  rw[aA (by omega),aA (by omega)]; simp
 unfold atI; rw[e]; exact h
def jBZ (b:Expr):Prop:=∀ o i,subscripted b false o i=operate [o,i] (getItem o i)
def IxR (X:Cx)(r:R2):Prop:=
 ∀ (value slice:Expr) (pins:List (Addr×Obj)) (s:Shared) (σ:St) (H:Hp) (x y:V) (v u:Value) (Q:VK),Inv X pins σ H s->RelV x v->RelV y u->r x y H Q->
  subscripted slice false v u=operate [v,u] (getItem v u)->wpAny (model X.prog X.w) X.A (subscriptTail value slice v u) (EP X pins σ Q) X.xe s
def MtR (X:Cx)(id:String)(r:V->List V->Hp->VK->Prop):Prop:=
 ∀ (pins:List (Addr×Obj)) (s:Shared) (σ:St) (H:Hp) (x:V) (xs:List V) (v:Value) (us:List Value) (Q:VK),Inv X pins σ H s->RelV x v->Vals xs us->r x xs H Q->
  wpAny (model X.prog X.w) X.A (call (.builtin id) (v::us)) (EP X pins σ Q) X.xe s
section
variable {X:Cx}{a b:Expr}{ta tb:TE}{pos:Pos}
theorem pe_ix {r:R2}(hr:IxR X r)(ha:PE X a ta)(hb:PE X b tb)(hs:jBZ b):PE X (.Subscript a b pos) (tOp r ta tb):=by
 intro pins s σ H Q I h
 exact Subscript_ (binT ha hb I h fun v u s2 x y H2 I2 rx ry q=>hr a b pins s2 σ H2 x y v u Q I2 rx ry q (hs _ _))
def rIxL (K:W.Frag):R2:=fun x y H Q=>∃ p xs i v,x= .ref p/\y= .int i/\SqL K H p xs/\atI xs i=some v/\Q v H
def rIxT (K:W.Frag):R2:=fun x y H Q=>∃ p xs i v,x= .ref p/\y= .int i/\SqT K H p xs/\atI xs i=some v/\Q v H
theorem jBT:IxR X (rIxL X.K):=by
 intro value slice pins s σ H x y v u Q I rx ry h hs
 obtain⟨p,xs,i,z,rfl,rfl,hq,he,q⟩:=h
 cases rx
 obtain⟨t,rfl⟩:=ry
 obtain⟨its,r,pl,hz⟩:=I.list hq
 obtain⟨j,h1,h2,h3,h4,h5⟩:=jJZ he
 obtain⟨w,ew,rw'⟩:=r.get h2
 have hl:=r.length
 have hn:=jEK
 have fin:EP X pins σ Q w s:=⟨z,H,I,rw',q⟩
 by_cases h0:0<=i
 ·have hj:i.toNat=j:=by
   rw[seqIndex_of h0 h5] at h1
   exact aK h1
  exact item_listR pl.isList h0 (by omega) (by rw[hj]; simpa using ew) fin hs
 ·have hj:(i+(its.toArray.size:Int)).toNat=j:=by
   rw[seqIndex_neg (by omega) h4] at h1
   rw[ah,<- hl]
   exact aK h1
  exact subscriptTail_builtinR (x:=w) pl.isList.typeIs slot_list_getitem.lookup
   (wpAny_getItem_list_neg (Q:=fun r s'=>r=w/\EP X pins σ Q r s') pl.isList (by omega) (by rw[ah] <;> omega) (by omega) (by rw[hj]; simpa using ew) ⟨rfl,fin⟩) hs
theorem kR:IxR X (rIxT X.K):=by
 intro value slice pins s σ H x y v u Q I rx ry h hs
 obtain⟨p,xs,i,z,rfl,rfl,hq,he,q⟩:=h
 cases rx
 obtain⟨t,rfl⟩:=ry
 obtain⟨its,r,pl,hz⟩:=I.tuple hq
 obtain⟨j,h1,h2,h3,h4,h5⟩:=jJZ he
 obtain⟨w,ew,rw'⟩:=r.get h2
 have hl:=r.length
 have hn:=jEK
 have fin:EP X pins σ Q w s:=⟨z,H,I,rw',q⟩
 exact subscriptTail_builtinR (x:=w) pl.typeIs slot_tuple_getitem.lookup
  (getItem_tuple (j:=j) (Q:=fun r s'=>r=w/\EP X pins σ Q r s') pl (by omega) (by omega) (by rw[ah,<- hl]; exact h1) (by simpa using ew) ⟨rfl,fin⟩) hs
theorem jH9 (its:List Value)(n j:Nat)(u:Value):Obj.mapSeq (·.setIfInBounds j u) { cls:= .type "list",data:= .seq its.toArray n} = { cls:= .type "list",data:= .seq (its.set j u).toArray n} :=by
 simp [Obj.mapSeq]
theorem Inv.lst {pins:List (Addr×Obj)}{σ:St}{H:Hp}{s:Shared}{p:Addr}{xs:List V}(I:Inv X pins σ H s)(h:H p=some (.lst xs)):
  ∃ (its:List Value) (n:Nat),Vals xs its/\s.heap.get? p=some { cls:= .type "list",data:= .seq its.toArray n} /\xs.length<=sizeLine:=by
 obtain⟨z,its,n,r,e⟩:=I.hok p _ h
 exact⟨its,n,r,e,z⟩
theorem Inv.lstUpd {pins:List (Addr×Obj)}{σ:St}{H:Hp}{s:Shared}{p:Addr}{xs ys:List V}{its its':List Value}{n n':Nat}{f:Obj->Obj}(I:Inv X pins σ H s)(h:H p=some (.lst xs))
  (ho:s.heap.get? p=some { cls:= .type "list",data:= .seq its.toArray n}) (hf:f { cls:= .type "list",data:= .seq its.toArray n} = { cls:= .type "list",data:= .seq its'.toArray n'}) (r:Vals ys its') (hz:ys.length<=sizeLine) (t:Nat):
  Inv X pins σ (upd H p (.lst ys)) { s with heap:=s.heap.update p f,toks:=t} :=by
 have e:(s.heap.update p f).get? p=some { cls:= .type "list",data:= .seq its'.toArray n'} :=by
  rw[aZ f ho (by rw[hf] <;> rfl),hf]
 refine I.write (x:=p) (e:=p) (by rw[h]; trivial) (.inl rfl) (fun b u hb q=>(aX _ _ (bN hb)).trans q) ⟨_,e⟩ ?_
 exact⟨hz,its',n',r,e⟩
def rSetL:V->V->V->Hp->(Hp->Prop)->Prop:=fun o i v H Q=>∃ p xs k j,o= .ref p/\i= .int k/\H p=some (.lst xs)/\ixN xs.length k=some j/\Q (upd H p (.lst (xs.set j v)))
theorem jK4:PSet X rSetL:=by
 intro pins s σ H o i v ov iv u Q I ro ri rv h
 obtain⟨p,xs,k,j,rfl,rfl,hp,hj,q⟩:=h
 cases ro
 obtain⟨t,rfl⟩:=ri
 obtain⟨its,n,r,ho,hz⟩:=I.lst hp
 obtain⟨h1,h2,h3,h4⟩:=jJ9 hj
 have hl:=r.length
 have hn:=jEK
 have I':Inv X pins σ (upd H p (.lst (xs.set j v))) { s with heap:=s.heap.update p (Obj.mapSeq (·.setIfInBounds j u))} :=
  I.lstUpd hp ho (jH9 its n j u) (r.set rv j) (by rw[fY]; exact hz) s.toks
 by_cases h0:0<=k
 ·have hk:k.toNat=j:=by
   rw[seqIndex_of h0 h4] at h1
   exact aK h1
  exact PySem.W.ki_setAt ho h0 (by omega) (by rw[ah,<- hl]; exact h4) (by rw[hk]; exact⟨_,I',q⟩)
 ·have hk:(k+(its.toArray.size:Int)).toNat=j:=by
   rw[seqIndex_neg (by omega) h3] at h1
   rw[ah,<- hl]
   exact aK h1
  exact PySem.W.ki_setBack ho (by omega) (by rw[ah,<- hl]; exact h3) (by omega) (by rw[hk]; exact⟨_,I',q⟩)
theorem jE8 (lo hi:Option Int)(n:Nat):(sliceBounds lo hi none n).1=((HT.sIx n 0 lo:Nat):Int)/\(sliceBounds lo hi none n).2.1=((HT.sIx n n hi:Nat):Int)/\(sliceBounds lo hi none n).2.2=1:=by
 refine⟨?_,?_,rfl⟩
 ·cases lo with
  | none=>simp [sliceBounds,HT.sIx]
  | some i=>
   simp only [sliceBounds,HT.sIx,getD_none,show (1:Int)>0 by decide,fM]
   by_cases h:i<0
   ·simp only [h,fM] <;> omega
   ·simp only [h,if_false] <;> omega
 ·cases hi with
  | none=>simp [sliceBounds,HT.sIx]
  | some i=>
   simp only [sliceBounds,HT.sIx,getD_none,show (1:Int)>0 by decide,fM]
   by_cases h:i<0
   ·simp only [h,fM] <;> omega
   ·simp only [h,if_false] <;> omega
theorem jDF (its:List Value)(lo hi:Option Int):slicePick its.toArray lo hi none=((its.drop (HT.sIx its.length 0 lo)).take (HT.sIx its.length its.length hi - HT.sIx its.length 0 lo)).toArray:=by
 obtain⟨h1,h2,h3⟩:=jE8 lo hi its.toArray.size
 unfold slicePick
 rw[h1,h2,h3]
 simp only [sliceRange_one,pick_run,ah] <;> rfl
def rSlL (K:W.Frag):V->Option Int->Option Int->Hp->VK->Prop:=fun x lo hi H Q=>∃ a xs,x= .ref a/\SqL K H a xs/\∀ p,H p=none->Q (.ref p) (upd H p (.lst (cutV xs lo hi)))
theorem jHU:SlR X (rSlL X.K):=by
 intro pins s σ H x v vl vu lo hi sl Q I rx hs pl pu h
 obtain⟨a,xs,rfl,hx,q⟩:=h
 cases rx
 obtain⟨its,r,ht,hz⟩:=I.list hx
 have hlen:=r.length
 refine⟨"list",_,slot_list_getitem.lookup,ht.isList.typeIs,?_⟩
 refine wpAny_getItem_list_slice ht.isList hs pl pu .none (by simp) ?_ (by rw[ah] <;> omega)
 rw[jDF,<- hlen]
 refine⟨.ref s.heap.objs.size,_,I.laid (t':=s.toks) (o:= .lst (cutV xs lo hi)) (fun b ob q=>af _ q) (ai _) ?_,rfl,q _ (I.hok.fresh (ai _))⟩
 exact⟨bt (jCY xs lo hi) hz,_,0,(r.drop (HT.sIx xs.length 0 lo)).take (HT.sIx xs.length xs.length hi - HT.sIx xs.length 0 lo),aj _ rfl⟩
def flatV:V->Bool
 | .non=>true
 | .bl _=>true
 | .int _=>true
 | .str _=>true
 | _=>false
def eqV:V->V->Bool
 | .non, .non=>true
 | .bl a, .bl b=>a==b
 | .bl a, .int b=>(if a then 1 else 0)==b
 | .int a, .bl b=>a==(if b then 1 else 0)
 | .int a, .int b=>a==b
 | .str a, .str b=>a==b
 | _,_=>false
theorem jLJ {A:Around}{s:Shared}{y x:V}{u v:Value}(ry:RelV y u)(rx:RelV x v)(fy:flatV y=true)(fx:flatV x=true):SeqAt.EqAt A s u v (eqV y x):=by
 cases y with
 | non=>
  cases ry
  cases x with
  | non=>cases rx; exact SeqAt.EqAt.same _
  | bl b=>cases rx; exact SeqAt.EqAt.none_bool b
  | int b=>obtain⟨t,rfl⟩:=rx; exact SeqAt.EqAt.none_int b t
  | str b=>obtain⟨t,rfl⟩:=rx; exact SeqAt.EqAt.none_str b t
  | _=>exact absurd (show false=true from fx) am
 | bl a=>
  cases ry
  cases x with
  | non=>cases rx; exact SeqAt.EqAt.bool_none a
  | bl b=>cases rx; exact SeqAt.EqAt.bool_bool a b
  | int b=>obtain⟨t,rfl⟩:=rx; exact SeqAt.EqAt.bool_int a b t
  | str b=>obtain⟨t,rfl⟩:=rx; exact SeqAt.EqAt.bool_str a b t
  | _=>exact absurd (show false=true from fx) am
 | int a=>
  obtain⟨t',rfl⟩:=ry
  cases x with
  | non=>cases rx; exact SeqAt.EqAt.int_none a t'
  | bl b=>cases rx; exact SeqAt.EqAt.int_bool a t' b
  | int b=>obtain⟨t,rfl⟩:=rx; exact SeqAt.EqAt.int_int a t' b t
  | str b=>obtain⟨t,rfl⟩:=rx; exact SeqAt.EqAt.int_str a t' b t
  | _=>exact absurd (show false=true from fx) am
 | str a=>
  obtain⟨t',rfl⟩:=ry
  cases x with
  | non=>cases rx; exact SeqAt.EqAt.str_none a t'
  | bl b=>cases rx; exact SeqAt.EqAt.str_bool a t' b
  | int b=>obtain⟨t,rfl⟩:=rx; exact SeqAt.EqAt.str_int a t' b t
  | str b=>obtain⟨t,rfl⟩:=rx; exact SeqAt.EqAt.str_str a t' b t
  | _=>exact absurd (show false=true from fx) am
 | _=>exact absurd (show false=true from fy) am
def eqU (x:V)(u:Value):Bool:=match u with
 | .none=>eqV .non x
 | .bool b=>eqV (.bl b) x
 | .int i _=>eqV (.int i) x
 | .str z _=>eqV (.str z) x
 | _=>false
theorem jOM {x y:V}{u:Value}(r:RelV y u)(f:flatV y=true):eqU x u=eqV y x:=by
 cases y with
 | non=>cases r; rfl
 | bl b=>cases r; rfl
 | int i=>obtain⟨t,rfl⟩:=r; rfl
 | str z=>obtain⟨t,rfl⟩:=r; rfl
 | _=>exact absurd (show false=true from f) am
theorem jGB {A:Around}{s:Shared}{x:V}{v:Value}(rx:RelV x v)(fx:flatV x=true):∀ {xs:List V}{us:List Value},Vals xs us->xs.all flatV=true->∀ u∈us,SeqAt.EqAt A s u v (eqU x u)
 | _,_, .nil,_=>fun u hu=>by cases hu
 | y::xs,u::us, .cons r t,f=>fun u' hu=>by
  rw[gA,aS] at f
  rcases aq.mp hu with rfl | hu
  ·rw[jOM r f.1]; exact jLJ r rx f.1 fx
  ·exact jGB rx fx t f.2 u' hu
theorem jP:yD X (.builtin "len") (fun xs H Q=>∃ p ys,xs=[.ref p]/\(SqL X.K H p ys\/SqT X.K H p ys)/\Q (.int ys.length) H):=by
 intro pins s σ H xs us Q I r h
 obtain⟨p,ys,rfl,hq,q⟩:=h
 obtain⟨u,rfl,rx⟩:=vals1 r
 cases rx
 have hn:=jEK
 rcases hq with hq | hq
 ·obtain⟨its,r',pl,hz⟩:=I.list hq
  have hlen:=r'.length
  exact Calls.call_len_list pl.isList (by simp only [ah] <;> omega) ⟨.int ys.length,H,I.tok _,⟨s.toks+1,by rw[ah,hlen]⟩,q⟩
 ·obtain⟨its,r',pl,hz⟩:=I.tuple hq
  have hlen:=r'.length
  exact len_tuple pl (by simp only [ah] <;> omega) ⟨.int ys.length,H,I.tok _,⟨s.toks+1,by rw[ah,hlen]⟩,q⟩
theorem jEY:yD X (.type "list") (fun xs H Q=>∃ p ys,xs=[.ref p]/\(SqL X.K H p ys\/SqT X.K H p ys)/\∀ l,H l=none->Q (.ref l) (upd H l (.lst ys))):=by
 intro pins s σ H xs us Q I r h
 obtain⟨p,ys,rfl,hq,q⟩:=h
 obtain⟨u,rfl,rx⟩:=vals1 r
 cases rx
 have fin:∀ (its:List Value),Vals ys its->ys.length<=sizeLine->∀ (h':Heap) (c':Nat),(∀ b o',s.heap.get? b=some o'->h'.get? b=some o')->
   h'.get? s.heap.objs.size=some { cls:= .type "list",dict:=none,data:= .seq its.toArray c',slots:=#[]} ->EP X pins σ Q (.ref s.heap.objs.size) { s with heap:=h'} :=fun its r' hz h' c' kp e=>
  ⟨.ref s.heap.objs.size,_,I.laid (t':=s.toks) kp (ai _) (show ObjOk X.prog X.w _ h' _ (.lst ys) from ⟨hz,its,c',r',e⟩),rfl,q _ (I.hok.fresh (ai _))⟩
 rcases hq with hq | hq
 ·obtain⟨its,r',pl,hz⟩:=I.list hq
  have hlen:=r'.length
  obtain⟨o,ho,hc,n,hd⟩:=pl.isList
  exact call_list_seq p (.inl rfl) ho hc hd (fun h' c' kp e=>fin its r' hz h' c' kp e) (by simp only [ah] <;> omega)
 ·obtain⟨its,r',pl,hz⟩:=I.tuple hq
  have hlen:=r'.length
  obtain⟨o,ho,hc,n,hd⟩:=pl
  exact call_list_seq p (.inr rfl) ho hc hd (fun h' c' kp e=>fin its r' hz h' c' kp e) (by simp only [ah] <;> omega)
theorem jL:yD X (.type "tuple") (fun xs H Q=>∃ p ys,xs=[.ref p]/\((SqL X.K H p ys/\∀ l,H l=none->Q (.ref l) (upd H l (.tup ys)))\/(SqT X.K H p ys/\Q (.ref p) H))):=by
 intro pins s σ H xs us Q I r h
 obtain⟨p,ys,rfl,h⟩:=h
 obtain⟨u,rfl,rx⟩:=vals1 r
 cases rx
 rcases h with ⟨hq,q⟩ | ⟨hq,q⟩
 ·obtain⟨its,r',pl,hz⟩:=I.list hq
  have hlen:=r'.length
  refine call_tuple_list pl.isList (fun h' kp=>?_) (by simp only [ah] <;> omega)
  have I1:Inv X pins σ H { s with heap:=h'} :=I.kept (t':=s.toks) kp
  have I2:Inv X pins σ (upd H h'.objs.size (.tup ys)) { s with heap:=h'.push { cls:= .type "tuple",data:= .seq its.toArray}} :=
   I1.laid (t':=s.toks) (fun b o e=>af _ e) (ai _) (show ObjOk X.prog X.w _ _ _ (.tup ys) from ⟨hz,its,r',TupO.new _ _⟩)
  exact⟨.ref h'.objs.size,_,I2,rfl,q _ (I1.hok.fresh (ai _))⟩
 ·obtain⟨its,r',pl,hz⟩:=I.tuple hq
  exact call_tuple_same pl ⟨.ref p,H,I,rfl,q⟩
def tyV (K:W.Frag)(T:String)(x:V)(H:Hp):Prop:=match x with
 | .str _=>T= "str"
 | .int _=>T= "int"
 | .ref p=>(T= "list" /\∃ xs,SqL K H p xs)\/(T= "tuple" /\∃ o,K.lookup p=some o/\o.cls= .type "tuple" /\o.dict=none)\/
   (T= "dict" /\((∃ kvs,H p=some (.dK kvs))\/∃ kvs,H p=some (.dT kvs)))\/(T= "set" /\∃ S n,H p=some (.set S n))
 | _=>False
theorem jMY {pins:List (Addr×Obj)}{σ:St}{H:Hp}{s:Shared}{T:String}{x:V}{v:Value}(I:Inv X pins σ H s)(r:RelV x v)(ty:tyV X.K T x H):
  s.TypeIs v T/\∀ a,v= .ref a->∃ ob,s.heap.get? a=some ob/\ob.dict=none:=by
 cases x with
 | str z=>
  obtain⟨t,rfl⟩:=r
  cases (show T= "str" from ty)
  exact⟨typeIs_str s z t,fun _ e=>nomatch e⟩
 | int i=>
  obtain⟨t,rfl⟩:=r
  cases (show T= "int" from ty)
  exact⟨typeIs_int s i t,fun _ e=>nomatch e⟩
 | ref p=>
  cases r
  rcases ty with ⟨rfl,xs,hq⟩ | ⟨rfl,o,hk,hc,hd⟩ | ⟨rfl,hk⟩ | ⟨rfl,S,n,hk⟩
  ·obtain⟨its,_,pl,_⟩:=I.list hq
   refine⟨pl.isList.typeIs,fun a e=>?_⟩
   cases e
   obtain⟨o,n,e,c,hd,_⟩:=pl
   exact⟨o,e,hd⟩
  ·refine⟨⟨o,I.kIn p o hk,hc⟩,fun a e=>?_⟩
   cases e
   exact⟨o,I.kIn _ o hk,hd⟩
  ·have z:∃ o,s.heap.get? p=some o/\o.ExactDict:=by
    rcases hk with ⟨kvs,hk⟩ | ⟨kvs,hk⟩
    ·obtain⟨_,_,_,_,o,_,_,e,ex,_⟩:=I.hok p _ hk
     exact⟨o,e,ex⟩
    ·obtain⟨_,_,_,_,o,_,_,e,ex,_⟩:=I.hok p _ hk
     exact⟨o,e,ex⟩
   obtain⟨o,e,ex⟩:=z
   refine⟨⟨o,e,ex.1⟩,fun a e2=>?_⟩
   cases e2
   exact⟨o,e,ex.2.1⟩
  ·obtain⟨o,_,_,_,e,ex,_⟩:=I.hok p _ hk
   refine⟨⟨o,e,ex.1⟩,fun a e2=>?_⟩
   cases e2
   exact⟨o,e,ex.2.1⟩
 | _=>exact False.elim ty
def tBM (K:W.Frag)(T:String)(r:V->List V->Hp->VK->Prop)(to:TE)(t:TA):TE:=fun σ H Q=>to σ H fun x H1=>tyV K T x H1/\t σ H1 fun xs H2=>r x xs H2 Q
variable {o e:Expr}{es:List Expr}{to:TE}{t:TA}{name:Str}{apos cpos:Pos}{T id:String}{r:V->List V->Hp->VK->Prop}
theorem pe_bm (pa:PlainAttrs T)(slot:Slot T name id)(hty:typeOf (.builtin id)=pure (.type "method_descriptor"))(hm:MtR X id r)(ho:PE X o to)(ha:PA X (e::es) t)
  (hbase:attributeBase o name X.env (eval o X.env)=eval o X.env:=by rfl)
  (hfew:((backTo cpos (starEach (e::es) X.env)).all (fun x=>!x.1)&&(backToKw cpos (keywordEach [] X.env)).all (fun x=>x.1.isSome)
   &&decide ((e::es).length+([]:List Keyword).length+(if ([]:List Keyword).isEmpty then 0 else 1)<30))=true:=by rfl)
  (hline:(apos.endLine==cpos.line)=true:=by rfl) (hs:starEach (e::es) X.env=(false,eval e X.env)::starEach es X.env:=by rfl) (hplain:(backTo cpos (starEach es X.env)).any (·.1)=false:=by rfl):
  PE X (.Call (.Attribute o name apos) (e::es) [] cpos) (tBM X.K T r to t):=by
 intro pins s σ H Q I h
 refine wpAny_Call_method_late hbase hfew hline rfl (thn (ho pins s σ H _ I h) fun v s1 ⟨x,H1,I1,r1,ty,q1⟩=>?_)
 obtain⟨h1,h2⟩:=jMY I1 r1 ty
 refine⟨T,id,pa,slot,hty,h1,h2,?_⟩
 have hA:=ha cpos pins s1 σ H1 _ I1 q1
 rw[hs] at hA ⊢
 refine Calls.callWith_builtin (by show (false || (backTo cpos (starEach es X.env)).any (·.1))=false; rw[hplain] <;> rfl) (bZ ?_)
 exact thn hA fun us s2 ⟨vs,H2,I2,r2,q2⟩=>hm pins s2 σ H2 x vs v us Q I2 r1 r2 q2
/- xs.append(e),list.index on a module's tuple .. are MtR facts of 06m -/
end
end L2
namespace L2
open PySem PySem.Spec PyProof.Rows
def MtM (X:Cx)(id:String)(r:V->List V->Hp->VK->Prop):Prop:=
 ∀ (pins:List (Addr×Obj)) (s:Shared) (σ:St) (H:Hp) (x:V) (xs:List V) (v:Value) (us:List Value) (Q:VK),Inv X pins σ H s->RelV x v->Vals xs us->r x xs H Q->
  wpAny (model X.prog X.w) X.A (call (.builtin id) (v::us)) (EP X pins σ Q) X.xe s
theorem Vals.one:∀ {x:V}{us:List Value},Vals [x] us->∃ u,us=[u]/\RelV x u
 | _,_, .cons r .nil=>⟨_,rfl,r⟩
theorem Vals.two:∀ {x y:V}{us:List Value},Vals [x,y] us->∃ u v,us=[u,v]/\RelV x u/\RelV y v
 | _,_,_, .cons r (.cons q .nil)=>⟨_,_,rfl,r,q⟩
theorem Vals.zero:∀ {us:List Value},Vals [] us->us=[]
 | _, .nil=>rfl
theorem Vals.eraseIdx:∀ {xs:List V}{us:List Value}(i:Nat),Vals xs us->Vals (xs.eraseIdx i) (us.eraseIdx i)
 | _,_,_, .nil=> .nil
 | _,_,0, .cons _ t=>t
 | _,_,i+1, .cons r t=> .cons r (Vals.eraseIdx i t)
theorem Vals.reverse {xs:List V}{us:List Value}(h:Vals xs us):Vals xs.reverse us.reverse:=by
 induction h with
 | nil=>exact .nil
 | cons r t ih=>rw[da,da]; exact Vals.append ih (.cons r .nil)
theorem Vals.rep {xs:List V}{us:List Value}(h:Vals xs us):∀ k:Nat,Vals (replicate k xs).flatten (replicate k us).flatten
 | 0=> .nil
 | k+1=>by
  rw[cm,cm,db,db]
  exact Vals.append h (Vals.rep h k)
theorem jEL {α:Type} :∀ (l:List α) (i:Nat),(l.eraseIdx i).length<=l.length
 | [],_=>ai _
 | _::_,0=>cr _
 | _::r,i+1=>Nat.succ_le_succ (jEL r i)
theorem jET (its:List Value):∀ (k:Nat) (acc:List Value),
  List.foldl (fun x1 x2=>x1++x2) acc.toArray (replicate k its.toArray)=(acc++(replicate k its).flatten).toArray
 | 0,acc=>by simp
 | k+1,acc=>by
  have e:acc.toArray++its.toArray=(acc++its).toArray:=by simp
  have e2:(acc++its)++(replicate k its).flatten=acc++(replicate (k+1) its).flatten:=by
   rw[cm,db,eU]
  rw[<- e2,<- jET its k (acc++its),<- e,cm,List.foldl_cons]
section
variable {X:Cx}{pins:List (Addr×Obj)}{σ:St}{H:Hp}{s:Shared}{l b:Addr}{xs ys zs:List V}
theorem Inv.lset {its its':List Value}{n:Nat}{f:Array Value->Array Value}{t':Nat}(I:Inv X pins σ H s)(hH:H l=some (.lst xs))
  (e:s.heap.get? l=some { cls:= .type "list",data:= .seq its.toArray n}) (hf:f its.toArray=its'.toArray) (hv:Vals ys its') (hz:ys.length<=sizeLine):
  Inv X pins σ (upd H l (.lst ys)) { s with heap:=s.heap.update l (Obj.mapSeq f),toks:=t'} :=by
 have q:=PySem.IsL.update e f
 rw[hf] at q
 refine I.write (x:=l) (e:=l) (by rw[hH]; exact trivial) (.inl rfl) (fun b' u hb hu=>(aX s.heap (Obj.mapSeq f) (bN hb)).trans hu) ⟨_,q⟩ ?_
 exact⟨hz,its',_,hv,q⟩
theorem Inv.lnew {its:List Value}{t':Nat}(I:Inv X pins σ H s)(hv:Vals ys its)(hz:ys.length<=sizeLine):
  Inv X pins σ (upd H s.heap.objs.size (.lst ys)) { s with heap:=s.heap.push { cls:= .type "list",data:= .seq its.toArray},toks:=t'} :=
 I.laid (fun _ _ q=>af _ q) (ai _) ⟨hz,its,0,hv,aj _ rfl⟩
theorem Inv.fresh (I:Inv X pins σ H s):H s.heap.objs.size=none:=I.hok.fresh (ai _)
theorem Inv.lstM (I:Inv X pins σ H s)(hH:H l=some (.lst xs)):xs.length<=sizeLine/\∃ (its:List Value) (n:Nat),Vals xs its/\xs.length=its.length/\s.heap.get? l=some { cls:= .type "list",data:= .seq its.toArray n} :=by
 obtain⟨z,its,n,r,e⟩:=I.hok l _ hH
 exact⟨z,its,n,r,r.length,e⟩
end
section
variable {X:Cx}
def jLV:V->List V->Hp->VK->Prop:=fun x vs H Q=>∃ l xs y,x= .ref l/\vs=[y]/\H l=some (.lst xs)/\xs.length<sizeLine/\Q .non (upd H l (.lst (xs++[y])))
theorem jAF:MtM X "list.append" jLV:=by
 intro pins s σ H x vs v us Q I rx rv h
 obtain⟨l,xs,y,rfl,rfl,hH,hz,q⟩:=h
 cases rx
 obtain⟨u,rfl,ru⟩:=rv.one
 obtain⟨z,its,n,r,hl,e⟩:=I.lstM hH
 refine cg F.slot_list_append ⟨_,e,rfl⟩ F.entry_list_append (F.args_list_append_2 _ _) (PySem.list_append l its.toArray n u (by rw[ah]; omega)) ⟨e,?_⟩
 refine⟨.non,_,I.lset (its':=its++[u]) hH e (by simp) (r.append (.cons ru .nil)) ?_,rfl,q⟩
 rw[al,List.length_singleton]
 omega
def jN9:V->List V->Hp->VK->Prop:=fun x vs H Q=>∃ l xs i k y,x= .ref l/\vs=[.int i]/\H l=some (.lst xs)/\ -(2 ^ 63)<=i/\i<2 ^ 63/\seqIndex? i xs.length=some k/\xs[k]?=some y/\Q y (upd H l (.lst (xs.eraseIdx k)))
theorem jKN:MtM X "list.pop" jN9:=by
 intro pins s σ H x vs v us Q I rx rv h
 obtain⟨l,xs,i,k,y,rfl,rfl,hH,h1,h2,hk,hy,q⟩:=h
 cases rx
 obtain⟨u,rfl,ru⟩:=rv.one
 obtain⟨t,rfl⟩:=ru
 obtain⟨z,its,n,r,hl,e⟩:=I.lstM hH
 obtain⟨w,hw,rw'⟩:=r.get hy
 refine cg F.slot_list_pop ⟨_,e,rfl⟩ F.entry_list_pop (F.args_list_pop_2 _ _)
  (MeetsSeq.list_pop_at l its.toArray n i t k w (fitsIndex_both h1 h2) (by rw[ah,<- hl]; exact hk) (by rw[<- cD]; exact hw) (by rw[ah]; omega)) ⟨e,?_⟩
 refine⟨y,_,I.lset (its':=its.eraseIdx k) hH e ?_ (r.eraseIdx k) ?_,rw',q⟩
 ·show its.toArray.eraseIdxIfInBounds k=(its.eraseIdx k).toArray
  rw[List.eraseIdxIfInBounds_toArray]
 ·have:=jEL xs k
  omega
def rCat:R2:=fun x y H Q=>∃ l b xs zs,x= .ref l/\y= .ref b/\H l=some (.lst xs)/\H b=some (.lst zs)/\xs.length+zs.length<=sizeLine/\∀ p,H p=none->Q (.ref p) (upd H p (.lst (xs++zs)))
theorem jNX:OpR X (binaryOp .Add) rCat:=by
 intro pins s σ H x y v u Q I rx ry h
 obtain⟨l,b,xs,zs,rfl,rfl,hH,hB,hz,q⟩:=h
 cases rx
 cases ry
 obtain⟨z,its,n,r,hl,e⟩:=I.lstM hH
 obtain⟨z2,its2,n2,r2,hl2,e2⟩:=I.lstM hB
 refine PySem.P.add_list e e2 ?_ (by rw[ah,ah]; omega)
 have ea:its.toArray++its2.toArray=(its++its2).toArray:=by simp
 rw[ea]
 exact⟨.ref _,_,I.lnew (t':=s.toks) (r.append r2) (by rw[al]; omega),rfl,q _ I.fresh⟩
theorem jIT {α:Type}(xs:List α)(k:Nat):(replicate k xs).flatten.length=k*xs.length:=by
 induction k with
 | zero=>simp
 | succ k ih=>rw[cm,db,al,ih,Nat.succ_mul,gO]
end
section
variable {prog:Program}{w:World}{A:Around}{E:Value->Shared->Prop}{s:Shared}
set_option maxRecDepth 100000 in
end
section
variable {X:Cx}
end
end L2
namespace Att
open PySem PySem.W PySem.Calls PyProof.Rows
theorem jCU {P:Params}{h:Heap} :∀ (ns:List Int) (vs:List Value),WellAll P h vs (ns.map WData.int)->IntsAre vs ns:=by
 intro ns
 induction ns with
 | nil=>
  intro vs w
  rw[dW] at w
  cases w
  exact .nil
 | cons n ns ih=>
  intro vs w
  rw[aV] at w
  cases w with
  | cons a b=>
   cases a
   exact .cons _ _ (ih _ b)
theorem jHW {l:OpenLaw}{n:Nat}(hn:l.most=some n){P:Params}{h:Heap}{args:List WData}{vals:List Value}
  (hpre:l.row.toRowW.claim.pre args=true) (hwl:WellAll P h vals args):
  ∃ a vs ns,vals=[Value.ref a]/\args=[WData.list (ns.map WData.int)]/\h.get? a=some { cls:= .type "list",data:= .seq vs.toArray} /\IntsAre vs ns/\ns.length<=n:=by
 have hsh:WShape.hasAll [] args [.list .int]=true:=(pre_splitW hpre).1
 have hc:l.pre.holds [] { args:=args} =true:=(pre_splitW hpre).2
 obtain⟨d,r,rfl,h1,h2⟩:=hasAllW_cons hsh
 obtain rfl:=hasAllW_nil h2
 obtain⟨xs,rfl,h3⟩:=hasW_list h1
 obtain⟨ns,rfl⟩:=items_int h3
 have hlen:ns.length<=n:=by
  unfold OpenLaw.pre at hc
  have h4:(WTm.not (.lt (.lit (.int (n:Int))) (.len (.arg 0)))).holds [] { args:=[.list (ns.map .int)]} =true:=by
   have h4:=(holds_andW hc).1
   rw[hn] at h4
   exact h4
  have h5:=condW_of h4 (w_not (w_lt w_lit (w_len_list (w_arg rfl))))
  rw[ae] at h5
  refine Nat.le_of_not_lt fun q=>?_
  have q':(n:Int)<((ns.length:Nat):Int):=by omega
  first
   | (rw[aY q'] at h5; exact absurd h5 (by decide))
   | (simp at h5; omega)
 cases hwl with
 | cons w1 w2=>
  cases w2
  cases w1 with
  | list ho hall=>exact⟨_,_,ns,rfl,rfl,ho,jCU ns _ hall,hlen⟩
theorem jI5 (l:OpenLaw)(args:List WData):l.row.toRowW.claim.post args (.bool true) args=true:=
 postW_of (r:=l.row.toRowW) (X:=(true==true))
  (show WShape.has [] (.bool true) .bool=true by first | rfl | decide | simp [WShape.has,WShape.arms,WShape.armsAll])
  (show (WTm.eq .res (.lit (.bool true))).value [] { args:=args,res:=some (.bool true),after:=args} =some (.bool (true==true)) from w_eq_bool (w_res rfl) w_lit) rfl
theorem attach_call {l:OpenLaw}{n:Nat}{q:Program}{loose:List Str}{XP:(Str->Option Value)->Heap->Prop}{YP:World->Heap->Prop}{d:DefRec}
  (hn:l.most=some n) (hdf:d.params.defaults=[])
  (call:∀ (w:World) (s₀ s₁:Shared) (mg mb:Str->Option Value) (fa:Addr) (o:Obj) (pm cd doc:Value) (a:Addr) (vs:List Value) (ns:List Int),
   Ground q loose [] XP w s₀ mg mb s₁.heap->YP w s₁.heap->
   s₁.heap.get? fa=some o->o.data= .func (docDef d.name d.params d.body d.scope pm cd doc)->s₁.heap.CodeRec cd d.name->mg d.name=some (.ref fa)->
   s₁.heap.get? a=some { cls:= .type "list",data:= .seq vs.toArray} ->IntsAre vs ns->ns.length<=n->s₁.gens=#[]->
   codeAny (model l.prog w) callerA (.call (.ref fa) ⟨[.ref a],[]⟩) (fun r s'=>r= .ok (.ret (.bool true))/\OldK s₁.heap s'.heap/\s'.os=s₁.os/\AllBare s'.gens) s₁):
  WalkO q loose XP YP l.row.toRowW d [] (fun f vs=>PySem.call f vs):=by
 intro w s₀ s₁ mg mb G Y fa o pm cd doc dV kV ho hd hcd hD hmg hg args vals as hpre hlay hrd hwl hlo
 obtain rfl:dV= .none:=Dflts.none hD hdf
 obtain rfl:kV= .none:=Dflts.noKw hD
 obtain⟨a,vs,ns,rfl,rfl,hobj,hints,hlen⟩:=jHW hn hpre hwl
 refine enter_call (bX (call w s₀ s₁ mg mb fa o pm cd doc a vs ns G Y ho (fd_plain hd) hcd hmg hobj hints hlen hg) fun r s' hq=>?_)
 obtain⟨rfl,h2,h3,h4⟩:=hq
 exact⟨.inl ⟨.bool true, .bool true,[],rfl,fun _=>rfl, .bool true,jI5 l _,fun _=>⟨List.Pairwise.nil,fun _ hm=>(nomatch hm)⟩⟩,h2,h3,h4⟩
section
variable {prog:Program}{w:World}{A:Around}{E:Value->Shared->Prop}{s:Shared}{K:Frag}
end
end Att
namespace L2
open PySem PySem.Spec PyProof.Rows
theorem jE2:∀ {vs:List Value}{ns:List Int},IntsAre vs ns->Vals (ns.map V.int) vs
 | _,_, .nil=> .nil
 | _,_, .cons n t h=> .cons ⟨t,rfl⟩ (jE2 h)
end L2
namespace L2
open PySem PySem.Spec PyProof.Rows
end L2
/- THE LAST THEOREM (shape; LID,My.* are yours):
  My.Adr:a structure of the addresses that your layer names (classes,functions); My.Txt K t:a structure (Prop) of the equations over K;
  My.txt_mk: {K} {implicit addresses ..} (e1:nsIn K mainGlobals "law" =some (some (.ref f))) (e2:K.lookup f=some ⟨oc,od, .func (fnOf "law" "law" params body scope dV kV doc pm an cdv ct),sl⟩) (e3:codeIn K cdv "law" =true) .. :∃ t,My.Txt K t
set_option maxRecDepth 100000 in
set_option maxHeartbeats 0 in
theorem PySem.Challenge.cw_LID_holds : PySem.Challenge.rw_LID.Holds := by
 w_on; o_law; k_head; (case hw=>w_witness2)
 k_fill
 refine L2.walk_of (l:=PySem.Challenge.rw_LID) (n:=63) (k:=40) (x:= "script") (CX:=fun w=> ..) (sp:=fun _=>My.sp_law) rfl (by decide) rfl ⟨rfl,by decide,by decide⟩ (fun w h Y=>PySem.W.kIn_of Y) ?F ?S ?C
 case F=>
  intro w mg fa h KX G hmg
  have T:∃ t,My.Txt (L2.KOf KX) t:=by
   dsimp only [L2.KOf] -- K must stand as «<heap const>w.params» for k_is
   refine' My.txt_mk ?e1 ?e2 ?e3 ..
   (case e1=>PySem.W.k_is) -- in the order:a name->its address->its object->its parts
   (case e2=>PySem.W.k_is)
   ..
  obtain⟨t,T⟩:=T
  have e0:=hmg.symm.trans (dw KX G T.law)
  cases e0 -- fa is the law's own address
  exact⟨_,fun s u=> .of_eq rfl,fun base kb nb=>My.law_fn T kb nb⟩ -- if «.of_eq rfl» comes too early:refine' ⟨_,?b,fun base kb nb=>My.law_fn T kb nb⟩; exact fun s u=> .of_eq rfl
 case S=>exact fun w H a ns hl hO hS=> ..
 case C=>exact ..
(the tactic k_is has no namespace:write k_is) -/
namespace L2
open PySem PySem.Spec PyProof.Rows
abbrev CX0:CXT:=fun _ _ _ _ _ _=>False
abbrev E0:XK:=fun _ _ _=>False
theorem pass0 {X:Cx} :jK1 CX0 X E0:=fun _ _ _ _ _ _ _ h=>h.elim
structure Fun (K:W.Frag)(x qual:Str)(st:Stmt)(f:Addr)(fd:FuncData):Prop where
 ex:∃ (oc:Value) (od:Option Addr) (kV doc pm:Value) (an:Option Addr) (cdv ct:Value) (osl:Array (Option Value)),
  fd=PySem.W.fnOf x qual (jN st) (jD st) (j9 st) .none kV doc pm an cdv ct/\K.lookup f=some ⟨oc,od, .func fd,osl⟩/\PySem.W.codeIn K cdv qual=true
 kp:keepIn K (.ref f)=true
section
variable {P:Program}{w:World}{K:W.Frag}{mg:Str->Option Value}{base:Heap}
theorem Fun.ok {x qual:Str}{st:Stmt}{f:Addr}{fd:FuncData}{N ps:List Str}{k:Nat}{sp:Sp}(F:Fun K x qual st f fd)(S:FnScope N ps (j9 st))(len:∀ vs H Q E,sp vs H Q E->vs.length=ps.length)
  (hbody:∀ (cdv:Value) (A:Around) (outer:List Env) (s:Shared) (H:Hp) (vs:List V) (Q:VK) (E:XK),Room k (A.deeper (envOfC qual (j9 st) s.heap.objs.size f cdv))->sp vs H Q E->
   ∃ t,PSs (cxOf CX0 P w K mg base N qual (j9 st) f cdv A outer s H E).nox (jD st) t/\t { nx:=fun _ H'=>Q .non H',rt:=Q} (kT N vs) H):FnOk P w K mg base CX0 (k+1) f fd ps sp:=by
 obtain⟨oc,od,kV,doc,pm,an,cdv,ct,osl,rfl,lk,hcd⟩:=F.ex
 refine fn_of lk hcd S len fun A outer s H vs Q E hr hsp=>?_
 obtain⟨t,h,q⟩:=hbody cdv A outer s H vs Q E hr hsp
 exact⟨t,h.nox,q⟩
theorem Fun.binds {x qual:Str}{st:Stmt}{f:Addr}{fd:FuncData}{ps:List Str}(F:Fun K x qual st f fd)
  (h:∀ (kV doc pm:Value) (an:Option Addr) (cdv ct:Value) (us:List Value),us.length=ps.length->bindArgs (PySem.W.fnOf x qual (jN st) (jD st) (j9 st) .none kV doc pm an cdv ct) ⟨us,[]⟩=pure (ps.zip us)):Binds K fd ps []:=by
 obtain⟨oc,od,kV,doc,pm,an,cdv,ct,osl,rfl,lk,hcd⟩:=F.ex
 exact .all (h kV doc pm an cdv ct)
theorem kW {x qual:Str}{st:Stmt}{f:Addr}{oc:Value}{od an:Option Addr}{osl:Array (Option Value)}{kV doc pm cdv ct:Value}(l:K.lookup f=some ⟨oc,od, .func (PySem.W.fnOf x qual (jN st) (jD st) (j9 st) .none kV doc pm an cdv ct),osl⟩)
  (c:PySem.W.codeIn K cdv qual=true) (k:keepIn K (.ref f)=true):Fun K x qual st f (PySem.W.fnOf x qual (jN st) (jD st) (j9 st) .none kV doc pm an cdv ct):=⟨⟨oc,od,kV,doc,pm,an,cdv,ct,osl,rfl,l,c⟩,k⟩
end
theorem hu_of {A:Around}{k:Nat}(hr:Room k A):A.units+1<cLine:=Nat.lt_of_le_of_lt (Nat.add_le_add_left (by decide:1<=64) _) hr.units
section
variable {X:Cx}
theorem pv (i:Nat){x:Str}{pos:Pos}(hN:X.N[i]?=some x:=by rfl)(hv:Vis X.env.scope x:=by first | exact Or.inl rfl | exact Or.inr (Or.inl rfl) | exact Or.inr (Or.inr rfl))(hd:(x==("__debug__" :Str))=false:=by decide)
  (hcd:(x==("__classdict__" :Str))=false:=by decide):PE X (.Name x pos) (tVar i):=jG4 hN hv hd hcd
end
theorem iteF {A B:Prop}(h:B):if false=true then A else B:=by
 rw[az am]
 exact h
theorem iteT {A B:Prop}(h:A):if true=true then A else B:=by
 rw[aA rfl]
 exact h
theorem ite2 {c A B:Prop} [Decidable c](h1:c->A)(h2:¬ c->B):if c then A else B:=by
 by_cases h:c
 ·rw[aA h]
  exact h1 h
 ·rw[az h]
  exact h2 h
def jM (cells:List (Str×Addr)):List (Str×NameKind)->List (Str×Addr)->List (Str×Addr)
 | [],acc=>acc
 | (n,k)::r,acc=>if k= .free then jM cells r ((n,(cells.lookup n).getD 0)::acc) else jM cells r acc
theorem jBY {env:Env} :∀ (l:List (Str×NameKind)) (acc:List (Str×Addr)),(∀ y∈l,y.2= .free->∃ c,env.cells.lookup y.1=some c)->
  (forIn l acc fun (x:Str×NameKind) (cs:List (Str×Addr))=>(if (x.2==NameKind.free)=true then (do let a <- cellOf env x.1; pure (ForInStep.yield ((x.1,a)::cs))) else pure (ForInStep.yield cs):Sem (ForInStep (List (Str×Addr)))))=pure (jM env.cells l acc)
 | [],acc,_=>rfl
 | (n,k)::r,acc,h=>by
  have hr:∀ y∈r,y.2= .free->∃ c,env.cells.lookup y.1=some c:=fun y hy=>h y (aC _ hy)
  rw[List.forIn_cons]
  by_cases hk:k= .free
  ·subst hk
   obtain⟨c,hc⟩:=h (n, .free) aB rfl
   have e:cellOf env n=pure c:=by unfold cellOf; rw[hc]
   have e2:jM env.cells ((n,NameKind.free)::r) acc=jM env.cells r ((n,c)::acc):=by
    show (if NameKind.free=NameKind.free then jM env.cells r ((n,(env.cells.lookup n).getD 0)::acc) else _)=_
    rw[aA rfl,hc]; rfl
   rw[e2,<- jBY r ((n,c)::acc) hr]
   show ((do let a <- cellOf env n; pure (ForInStep.yield ((n,a)::acc))) >>= _)=_
   rw[e]; rfl
  ·have hb:(k==NameKind.free)=false:=by cases k <;> first | rfl | exact absurd rfl hk
   have e2:jM env.cells ((n,k)::r) acc=jM env.cells r acc:=by
    show (if k=NameKind.free then _ else jM env.cells r acc)=_
    rw[az hk]
   rw[e2,<- jBY r acc hr]
   show ((if (k==NameKind.free)=true then _ else pure (ForInStep.yield acc)) >>= _)=_
   rw[hb]; rfl
theorem jFT {env:Env}{sc:Scope}(h:∀ y∈sc.names,y.2= .free->∃ c,env.cells.lookup y.1=some c):closureFor sc env=pure (jM env.cells sc.names []):=by
 unfold closureFor
 show (forIn sc.names [] _ >>= fun cs=>pure cs)=_
 rw[show (forIn sc.names ([]:List (Str×Addr)) _:Sem _)=_ from jBY sc.names [] h]
 rfl
theorem jA4 {cells:List (Str×Addr)} :∀ (l:List (Str×NameKind)) (acc:List (Str×Addr)),(∀ y∈l,y.2= .free->∃ c,cells.lookup y.1=some c)->
  (∀ x c,acc.lookup x=some c->cells.lookup x=some c)->∀ x c,(jM cells l acc).lookup x=some c->cells.lookup x=some c
 | [],acc,_,ha=>ha
 | (n,k)::r,acc,h,ha=>by
  have hr:∀ y∈r,y.2= .free->∃ c,cells.lookup y.1=some c:=fun y hy=>h y (aC _ hy)
  unfold jM
  by_cases hk:k= .free
  ·rw[aA hk]
   obtain⟨c0,hc⟩:=h (n,k) aB hk
   refine jA4 r _ hr fun x c e=>?_
   rw[aI] at e
   cases hx:x==n with
   | true=>
    rw[hx] at e
    have exn:x=n:=eq_of_beq hx
    subst exn
    have hc':cells.lookup x=some c0:=hc
    rw[hc'] at e ⊢
    exact e
   | false=>rw[hx] at e; exact ha x c e
  ·rw[az hk]; exact jA4 r acc hr ha
theorem jAI {cells:List (Str×Addr)}{x:Str} :∀ (l:List (Str×NameKind)) (acc:List (Str×Addr)),((x,NameKind.free)∈l\/∃ c,acc.lookup x=some c)->∃ c,(jM cells l acc).lookup x=some c
 | [],acc,h=>by
  rcases h with h | h
  ·cases h
  ·exact h
 | (n,k)::r,acc,h=>by
  unfold jM
  by_cases hk:k= .free
  ·rw[aA hk]
   refine jAI r _ ?_
   by_cases e:x=n
   ·subst e
    exact .inr ⟨_,by rw[aI,beq_self_eq_true]⟩
   ·rcases h with h | ⟨c,h⟩
    ·rcases aq.mp h with q | q
     ·cases q; exact absurd rfl e
     ·exact .inl q
    ·refine .inr ⟨c,?_⟩
     rw[aI,bK.mpr e]
     exact h
  ·rw[az hk]
   refine jAI r _ ?_
   rcases h with h | h
   ·rcases aq.mp h with q | q
    ·cases q; exact absurd rfl hk
    ·exact .inl q
   ·exact .inr h
theorem jAG {x:Str}{k:NameKind} :∀ {l:List (Str×NameKind)},l.lookup x=some k->(x,k)∈l
 | [],h=>by cases h
 | (n,k')::r,h=>by
  rw[aI] at h
  cases hx:x==n with
  | true=>rw[hx] at h; cases h; rw[eq_of_beq hx]; exact aB
  | false=>rw[hx] at h; exact aC _ (jAG h)
theorem jBP {env:Env}{x:Str}{k:NameKind}(hk:k= .cell\/k= .free):∀ {l:List (Str×NameKind)},(∀ y∈l,y.2≠ .cell)->
  (l.map fun (n,k)=>if (k==NameKind.free&&env.scope.kind== .function&&env.kindOf n==some .cell) then (n,NameKind.cell) else (n,k)).lookup x=some k->l.lookup x=some .free
 | [],_,h=>by simp at h
 | (n,k')::r,hc,h=>by
  have ih:= @jBP env x k hk r (fun y hy=>hc y (aC _ hy))
  have hc0:k'≠ .cell:=hc (n,k') aB
  rw[aI]
  rw[aV] at h
  dsimp only at h
  by_cases hb:(k'==NameKind.free&&env.scope.kind== .function&&env.kindOf n==some .cell)=true
  ·rw[aA hb,aI] at h
   cases hx:x==n with
   | true=>
    have:k'= .free:=by
     simp only [aS] at hb
     exact eq_of_beq hb.1.1
    rw[this]
   | false=>rw[hx] at h; exact ih h
  ·rw[az hb,aI] at h
   cases hx:x==n with
   | true=>
    rw[hx] at h
    have e:k'=k:=aK h
    rcases hk with q | q
    ·exact absurd (e.trans q) hc0
    ·rw[e,q]
   | false=>rw[hx] at h; exact ih h
theorem jBW {env:Env}{x:Str} :∀ {l:List (Str×NameKind)},l.lookup x=some .free->
  (l.map fun (n,k)=>if (k==NameKind.free&&env.scope.kind== .function&&env.kindOf n==some .cell) then (n,NameKind.cell) else (n,k)).lookup x=some .cell\/
  (l.map fun (n,k)=>if (k==NameKind.free&&env.scope.kind== .function&&env.kindOf n==some .cell) then (n,NameKind.cell) else (n,k)).lookup x=some .free
 | [],h=>by cases h
 | (n,k')::r,h=>by
  have ih:= @jBW env x r
  rw[aI] at h
  rw[aV]
  dsimp only
  by_cases hb:(k'==NameKind.free&&env.scope.kind== .function&&env.kindOf n==some .cell)=true
  ·rw[aA hb,aI]
   cases hx:x==n with
   | true=>exact .inl rfl
   | false=>rw[hx] at h; exact ih h
  ·rw[az hb,aI]
   cases hx:x==n with
   | true=>rw[hx] at h; exact .inr h
   | false=>rw[hx] at h; exact ih h
section
variable {prog:Program}{w:World}{A:Around}{R:Result->Shared->Prop}{s:Shared}
abbrev jHO (ifs:List Expr)(env:Env):Sem Bool:=forIn ifs true fun c r=>if r=true then do let ok <- isTrue c env (eval c env); pure (ForInStep.yield ok) else pure (ForInStep.yield r)
theorem jDA {elt tg iter:Expr}{ifs:List Expr}{sc:Scope}{pos:Pos}{it acc:Value}{env:Env}(J:Nat->Shared->Prop)
  (turn:∀ n z,J n z->wpAny (model prog w) A (pyNext it) (fun r z1=>match r with
   | none=>R (.ok .next) z1
   | some v=>wpAny (model prog w) A (letOwnedTupleGo tg it v) (fun _ z2=>wpAny (model prog w) A (assign tg env v) (fun _ z3=>wpAny (model prog w) A (jHO ifs env) (fun ok z4=>
     if ok=true then wpAny (model prog w) A (eval elt env) (fun x z5=>wpAny (model prog w) A (call (.builtin "list.append") [acc,x]) (fun _ z6=>∃ k,k<n/\J k z6) (fun _ _=>False) z5) (fun _ _=>False) z4
     else ∃ k,k<n/\J k z4) (fun _ _=>False) z3) (fun _ _=>False) z2) (fun _ _=>False) z1) (fun _ _=>False) z)
  (n:Nat) (h:J n s):codeAny (model prog w) A (.compLoop (.ListComp elt [⟨tg,iter,ifs,0⟩] sc pos) 0 it acc env) R s:=by
 refine codeAny_loop rfl J (fun k z hJ=>?_) n h
 have noE:∀ {α:Type}{t:Sem α}{Q:α->Shared->Prop}{E:Value->Shared->Prop}{z:Shared},wpAny (model prog w) A t Q (fun _ _=>False) z->wpAny (model prog w) A t Q E z:=
  fun q=>bf q (fun _ _ a=>a) fun _ _ f=>f.elim
 show wpAny _ A ((compTurn (.ListComp elt [⟨tg,iter,ifs,0⟩] sc pos) 0 it acc env).onRaise (fun x=>do noteFrame x env; theTreesLotGoes x)) _ _ z
 refine wpAny_noted ?_
 rw[compTurn_list]
 refine ac (dv (ac (bf (turn k z hJ) (fun r z1 q1=>?_) fun _ _ f=>f.elim)))
 cases r with
 | none=>exact ag q1
 | some v=>
  refine ac (bf q1 (fun _ z2 q2=>?_) fun _ _ f=>f.elim)
  refine ac (bf q2 (fun _ z3 q3=>?_) fun _ _ f=>f.elim)
  refine ac (bf q3 (fun ok z4 q4=>?_) fun _ _ f=>f.elim)
  cases ok with
  | false=>exact ag ⟨rfl,q4⟩
  | true=>
   refine ac (ac (bf q4 (fun x z5 q5=>?_) fun _ _ f=>f.elim))
   exact ac (bf q5 (fun _ z6 q6=>ag (ag ⟨rfl,q6⟩)) fun _ _ f=>f.elim)
end
def blk (X:Cx)(sc:Scope)(cl:List (Str×Addr))(C:Addr)(Nc:List Str)(fp:List Addr)(s:Shared)(H:Hp):Cx where
 prog:=X.prog
 w:=X.w
 K:=X.K
 mg:=X.mg
 base:=X.base
 A:=X.A
 N:=Nc
 s₀:=s
 H₀:=H
 env:=compEnvC sc cl C X.env
 outer:=X.stack
 stack:=X.stack
 ex:=fp
 fn:=fun _=>false
 calm:=X.calm
 pn:=[]
 xe:=fun _ _=>False
def blkσ (m:List (Option Nat))(σ:St):St:=m.map fun o=>match o with
 | none=>none
 | some i=>(σ[i]?).getD none
def PTs (X:Cx)(ifs:List Expr)(t:TT):Prop:=
 ∀ (pins:List (Addr×Obj)) (s:Shared) (σ:St) (H:Hp) (Q:Bool->Hp->Prop),Inv X pins σ H s->t σ H Q->wpAny (model X.prog X.w) X.A (jHO ifs X.env) (TP X pins σ Q) X.xe s
def yY:TT:=fun _ H Q=>Q true H
theorem jI2 {X:Cx} :PTs X [] yY:=fun _ _ _ H _ I h=>wpAny_tests_nil ⟨H,I,h⟩
theorem jI1 {X:Cx}{c:Expr}{t:TT}(h:PT X c t):PTs X [c] t:=fun pins s σ H Q I q=>wpAny_tests_one (h pins s σ H Q I q)
def qC (m:List (Option Nat))(g:TG)(tt:TT)(te:TE)(σ:St)(Q:VK)(J:It)(H1:Hp):Prop:=∀ D,H1 D=none->∃ W:Nat->Nat->St->Hp->List V->Prop,
  (∃ n,W 0 n (blkσ m σ) (upd H1 D (.lst [])) [])/\∀ i n σ' H' ys,W i n σ' H' ys->H' D=some (.lst ys)/\ys.length<sizeLine/\
   ((J.stop i H'/\Q (.ref D) H')\/(J.go i H'/\∃ N:St->Hp->List V->Prop,(∀ σ2 H2 zs,N σ2 H2 zs->∃ n',n'<n/\W (i+1) n' σ2 H2 zs)/\∀ x H'',J.yld i H' x H''->g x σ' H'' fun σ2 H2=>tt σ2 H2 fun b H3=>
    if b=true then te σ2 H3 fun v H4=>H4 D=some (.lst ys)/\N σ2 (upd H4 D (.lst (ys++[v]))) (ys++[v])
    else N σ2 H3 ys))
def tComp (m:List (Option Nat))(wi:TI)(g:TG)(tt:TT)(te:TE):TE:=fun σ H Q=>wi σ H (qC m g tt te σ Q)
theorem Un.sameBut {fs ex:List Addr}{H H':Hp}{h h1 h2:Heap}{C:Addr}(u:Un fs ex H H' h h1)(sb:Heap.SameBut C h1 h2)(hC:h.objs.size<=C):Un fs ex H H' h h2:=by
 have ne:∀ {b:Addr}{o:Obj},h.get? b=some o->b≠C:=fun e=>ao (av (ak e) hC)
 refine⟨fun b o e n hf hx=>(sb.2 b (ne e)).trans (u.keep b o e n hf hx),fun b o e n hf hx=>?_,u.free,fun b o e hx=>?_,u.tups,u.frzs,u.tbls⟩
 ·obtain⟨sl,q⟩:=u.slot b o e n hf hx
  exact⟨sl,(sb.2 b (ne e)).trans q⟩
 ·obtain⟨o',q⟩:=u.there b o e hx
  exact⟨o',(sb.2 b (ne e)).trans q⟩
theorem HOk.sameBut {P:Program}{w:World}{H:Hp}{h1 h2:Heap}{C:Addr}(x:HOk P w H h1)(sb:Heap.SameBut C h1 h2)(hC:H C=none):HOk P w H h2:=fun a o e=>
 (x a o e).stay (fun b u hb q=>(sb.2 b (by
  rintro rfl
  rcases hb with rfl | hb
  ·rw[hC] at e; cases e
  ·rw[hC] at hb; cases hb)).trans q) (fun _ q=>q) fun _ _ q=>q
section
variable {X:Cx}{tg iter elt:Expr}{ifs:List Expr}{sc:Scope}{pos:Pos}{wi:TI}{g:TG}{tt:TT}{te:TE}{m:List (Option Nat)}{Nc:List Str}
def jBL (X:Cx)(sc:Scope)(Nc:List Str)(m:List (Option Nat)):Prop:=
 m.length=Nc.length/\∀ (k i:Nat),m[k]?=some (some i)->∃ x,Nc[k]?=some x/\X.N[i]?=some x/\sc.names.lookup x=some .free
theorem jF2 {pins:List (Addr×Obj)}{s:Shared}{σ:St}{H:Hp}{fp:List Addr}(I:Inv X pins σ H s)(hkind:sc.kind= .function)(hcell:∀ y∈sc.names,y.2≠ .cell)
  (hfree:∀ y∈sc.names,y.2= .free->X.env.scope.names.lookup y.1=some .cell\/X.env.scope.names.lookup y.1=some .free) (hm:jBL X sc Nc m) (hfp:∀ b∈fp,FpOk X pins H b) (hlt:∀ b∈fp,b<s.heap.objs.size)
  {h1:Heap}{tk:Nat}{md:Str->Option Value}(hns:h1.Ns s.heap.objs.size md) (old:∀ b o,s.heap.get? b=some o->h1.get? b=some o):
  Inv (blk X sc (jM X.env.cells sc.names []) s.heap.objs.size Nc fp s H) [] (blkσ m σ) H { s with heap:=h1,toks:=tk} :=by
 have hcl:∀ y∈sc.names,y.2= .free->∃ c,X.env.cells.lookup y.1=some c:=fun y hy hf=>I.ok.has y.1 (hfree y hy hf)
 have sub:∀ x c,(jM X.env.cells sc.names []).lookup x=some c->X.env.cells.lookup x=some c:=jA4 sc.names [] hcl (fun x c e=>by cases e)
 have isfree:∀ x,(compEnvC sc (jM X.env.cells sc.names []) s.heap.objs.size X.env).kindOf x=some .cell\/(compEnvC sc (jM X.env.cells sc.names []) s.heap.objs.size X.env).kindOf x=some .free->sc.names.lookup x=some .free:=fun x h=>by
  rcases h with h | h
  ·exact jBP (.inl rfl) hcell h
  ·exact jBP (.inr rfl) hcell h
 refine⟨⟨I.ok.mod,hkind,I.ok.glob,I.ok.blt,ai _,fun x y c h1 h2=>I.ok.inj x y c (sub x c h1) (sub y c h2),fun x hx=>?_,fun x c hf _=>?_,I.ok.hd,I.ok.frames, .inl rfl,fun b hb=>?_,I.bs,bt I.ok.bsz I.sz,fun b o e hb=>?_,fun b hb hz=>?_,I.stack,I.stkFree⟩,
  rfl,I.bare,Un.kept old,⟨md,hns,fun k x v e1 e2 e3=>?_⟩,fun x c e=>?_,I.hok.fresh (ai _),fun x c e=>I.freeC x c (sub x c e),fun p hp=>absurd (show p∈([]:List (Addr×Obj)) from hp) (by simp),I.hok.kept old,?_⟩
 ·exact jAI sc.names [] (.inl (jAG (isfree x hx)))
 ·exact absurd (show false=true from hf) am
 ·obtain⟨f0,f1,f2,f3,f4,f5⟩:=hfp b hb
  exact⟨ao (hlt b hb),fun x c e=>f4 x c (sub x c e)⟩
 ·obtain⟨f0,f1,f2,f3,f4,f5⟩:=hfp b hb
  rcases f3 with q | q
  ·exact I.ok.noex b o e q
  ·exact absurd (av (ak (I.ok.bs b o e).1) q) (bO _)
 ·obtain⟨f0,f1,f2,f3,f4,f5⟩:=hfp b hb
  rcases aq.mp (I.stkSub b hz) with q | q
  ·exact f1 q
  ·exact f2 q
 ·have e2':∃ i,m[k]?=some (some i)/\σ[i]?=some (some v):=by
   unfold blkσ at e2
   rw[aG] at e2
   cases q:m[k]? with
   | none=>rw[q] at e2; cases e2
   | some o=>
    rw[q] at e2
    cases o with
    | none=>cases e2
    | some i=>
     refine⟨i,rfl,?_⟩
     have e2:(σ[i]?).getD none=some v:=aK e2
     cases r:σ[i]? with
     | none=>rw[r] at e2; cases e2
     | some z=>rw[r] at e2; exact bF some e2
  obtain⟨i,q1,q2⟩:=e2'
  obtain⟨x',a1,a2,a3⟩:=hm.2 k i q1
  have e1':Nc[k]?=some x:=e1
  rw[e1'] at a1
  cases a1
  have vis:=hfree (x, .free) (jAG a3) rfl
  obtain⟨m0,hn0,hl0⟩:=I.loc
  obtain⟨u,r,l⟩:=hl0 i x v a2 q2 (.inr vis)
  refine⟨u,r, .inr ⟨jBW a3,?_⟩⟩
  obtain⟨c,hc⟩:=jAI (cells:=X.env.cells) (x:=x) sc.names [] (.inl (jAG a3))
  rcases l with ⟨lk,_⟩ | ⟨_,c',hc',o,ho,hd⟩
  ·have lk':X.env.scope.names.lookup x=some .local:=lk
   rcases vis with z | z
   ·rw[lk'] at z; cases z
   ·rw[lk'] at z; cases z
  ·have:=sub x c hc
   rw[hc'] at this
   cases this
   exact⟨c,hc,o,old _ _ ho,hd⟩
 ·obtain⟨v,o,ho,hd⟩:=I.cell x c (sub x c e)
  exact⟨v,o,old _ _ ho,hd⟩
 ·show (blkσ m σ).length=Nc.length
  unfold blkσ
  rw[ae]
  exact hm.1
theorem jGL {tf:St->TE}(hc:X.calm=true)(hi:PI X tg iter wi)(hkind:sc.kind= .function)(hcell:∀ y∈sc.names,y.2≠ .cell)(hnames:∀ y∈sc.names,y.2= .local->sc.names.lookup y.1=some .local)
  (hfree:∀ y∈sc.names,y.2= .free->X.env.scope.names.lookup y.1=some .cell\/X.env.scope.names.lookup y.1=some .free) (hm:jBL X sc Nc m)
  (hg:∀ cl C fp s H,PG (blk X sc cl C Nc fp s H) tg g) (ht:∀ cl C fp s H,PTs (blk X sc cl C Nc fp s H) ifs tt) (he:∀ cl C fp s H pins σ,Inv X pins σ H s->(∀ b∈fp,FpOk X pins H b)->PE (blk X sc cl C Nc fp s H) elt (tf σ))
  (hs:∀ x,foldedSetIterable iter X.env x=pure x) {fpos:Pos}{use:Option (Value->Sem Unit)}{R:Value->Shared->Prop}{pins:List (Addr×Obj)}{s:Shared}{σ:St}{H:Hp}{Q:VK}(I:Inv X pins σ H s) (h:tComp m wi g tt (tf σ) σ H Q)
  (fin:∀ (D C:Addr) (H5:Hp) (z1:Shared) (r:Flow),(∃ mm,z1.heap.Ns C mm)->FpOk X pins H5 C->(∀ h',Heap.SameBut C z1.heap h'->Inv X pins σ H5 { z1 with heap:=h'})->Q (.ref D) H5->compPost (model X.prog X.w) X.A X.xe use R (.ref D) C (.ok r) z1):
  wpAny (model X.prog X.w) X.A (comprehension (.ListComp elt [⟨tg,iter,ifs,0⟩] sc pos) sc X.env fpos (newList []) false (eval iter X.env) use) R X.xe s:=by
 have hcl:∀ y∈sc.names,y.2= .free->∃ c,X.env.cells.lookup y.1=some c:=fun y hy hf=>I.ok.has y.1 (hfree y hy hf)
 refine ff (use:=use) rfl hs (jFT hcl) hkind hnames (thn (hi pins s σ H _ I h) fun v s1 h1=>thn h1 fun itv s2 h2=>?_)
 obtain⟨it,fp,tn,J,H2,e,I2,T,st2,f2,hQ⟩:=h2
 subst e
 have hlt:∀ b∈fp,b<s2.heap.objs.size:=fun b hb=>by
  obtain⟨o,e,_⟩:=T.obj 0 _ st2 b hb
  exact ak e
 refine ay (wpAny_newFunctionEnv hcell (by intro y hy; simp at hy) (fun h₁ hns₁ hsb₁=>?_) hkind)
 have I3:Inv X pins σ (upd H2 s2.heap.objs.size (.lst [])) { s2 with heap:=s2.heap.push { cls:= .type "list",data:= .seq ([]:List Value).toArray}} :=I2.lnew (t':=s2.toks) .nil (aM _)
 obtain⟨W,⟨n0,w0⟩,turn⟩:=hQ s2.heap.objs.size I2.fresh
 have hD3:∀ b∈fp,b≠s2.heap.objs.size:=fun b hb=>ao (hlt b hb)
 have f3:∀ b∈fp,FpOk X pins (upd H2 s2.heap.objs.size (.lst [])) b:=fun b hb=>by
  obtain⟨a0,a1⟩:=f2 b hb
  exact⟨by rw[jA (hD3 b hb)]; exact a0,a1⟩
 generalize hE:({ s2 with heap:=s2.heap.push { cls:= .type "list",data:= .seq ([]:List Value).toArray}} :Shared)=s3 at I3 hns₁ hsb₁ ⊢
 generalize hH3:upd H2 s2.heap.objs.size (.lst [])=H3 at I3 f3 w0
 have hsz3:s3.heap.objs.size=s2.heap.objs.size+1:=by rw[<- hE]; exact bv _ _
 have old:∀ b o,s3.heap.get? b=some o->h₁.get? b=some o:=fun b o e=>hsb₁.extBut b o (ao (ak e)) (af _ e)
 have old2:∀ b o,s2.heap.get? b=some o->h₁.get? b=some o:=fun b o e=>old b o (by rw[<- hE]; exact af _ e)
 have I4:=jF2 (fp:=fp) (tk:=s3.toks+([]:List (Str×Value)).length) I3 hkind hcell hfree hm f3 (fun b hb=>show b<s3.heap.objs.size by rw[hsz3]; exact bH (hlt b hb)) hns₁ old
 have st4:tn 0 h₁:=T.keep _ _ _ st2 fun b hb o e=>old2 b o e
 have loop:codeAny (model X.prog X.w) X.A (.compLoop (.ListComp elt [⟨tg,iter,ifs,0⟩] sc pos) 0 (.ref it) (.ref s2.heap.objs.size) (compEnvC sc (jM X.env.cells sc.names []) s3.heap.objs.size X.env))
   (compPost (model X.prog X.w) X.A X.xe use R (.ref s2.heap.objs.size) s3.heap.objs.size) { s3 with heap:=h₁,toks:=s3.toks+([]:List (Str×Value)).length} :=by
  generalize hX:blk X sc (jM X.env.cells sc.names []) s3.heap.objs.size Nc fp s3 H3=Xb at I4
  have eP:Xb.prog=X.prog:=by rw[<- hX]; rfl
  have ew:Xb.w=X.w:=by rw[<- hX]; rfl
  have eK:Xb.K=X.K:=by rw[<- hX]; rfl
  have eA:Xb.A=X.A:=by rw[<- hX]; rfl
  have ec:Xb.calm=true:=by rw[<- hX]; exact hc
  have ee:Xb.env=compEnvC sc (jM X.env.cells sc.names []) s3.heap.objs.size X.env:=by rw[<- hX]; rfl
  have ex:Xb.xe=fun _ _=>False:=by rw[<- hX]; rfl
  have hgb:PG Xb tg g:=by rw[<- hX]; exact hg _ _ _ _ _
  have htb:PTs Xb ifs tt:=by rw[<- hX]; exact ht _ _ _ _ _
  have heb:PE Xb elt (tf σ):=by rw[<- hX]; exact he _ _ _ _ _ _ _ I3 f3
  have stat:∀ {H':Hp},(∀ b∈fp,H' b=none)->∀ b∈fp,FpOk Xb [] H' b:=fun {H'} hn b hb=>by
   obtain⟨o,eo,_⟩:=T.obj _ _ st4 b hb
   have q:=I4.ok.exf b (by rw[<- hX]; exact hb)
   exact⟨hn b hb,q.1,I4.ok.exfs b (by rw[<- hX]; exact hb), .inl (by rw[<- hX]; exact hb),q.2,fun p hp=>absurd hp (by rw[<- hX]; simp [blk])⟩
  have fr4:∀ b∈fp,H3 b=none:=fun b hb=>(f3 b hb).1
  unfold PG at hgb
  unfold PTs at htb
  unfold PE at heb
  rw[eP,ew,eA,ee,ex] at hgb htb heb
  refine jDA (fun n z=>∃ i σ' H' ys,Inv Xb [] σ' H' z/\tn i z.heap/\(∀ b∈fp,H' b=none)/\W i n σ' H' ys) ?_ n0 ⟨0,_,H3,[],I4,st4,fr4,w0⟩
  rintro n z ⟨i,σ5,H5,ys,I5,st5,fr5,w5⟩
  obtain⟨hD,hlen,way⟩:=turn i n σ5 H5 ys w5
  rcases way with ⟨stop,q⟩ | ⟨go,N,hN,step⟩
  ·have RR:=T.done Xb eP ew eK ec i [] z σ5 H5 (fun _ _=>False) I5 (stat fr5) st5 stop
   rw[eA] at RR
   refine thn RR fun r z1 ⟨hr,I6⟩=>?_
   subst hr
   obtain⟨mm,hn6,_⟩:=I6.loc
   rw[ee] at hn6
   have u6:Un (frs X.stack) fp H3 H5 s3.heap z1.heap:=by
    have:=I6.base
    rw[<- hX] at this
    exact this
   have fC:H5 s3.heap.objs.size=none:=by
    have:=I6.free
    rw[ee] at this
    exact this
   have hok6:HOk X.prog X.w H5 z1.heap:=by
    have:=I6.hok
    rw[eP,ew] at this
    exact this
   have os6:z1.os=s3.os:=by
    have:=I6.os
    rw[<- hX] at this
    exact this
   refine fin s2.heap.objs.size s3.heap.objs.size H5 z1 .next ⟨mm,hn6⟩ (I3.fpOk (ai _) fC) (fun h' sb=>?_) q
   refine I3.call' (s':= { z1 with heap:=h'}) (ch:=fp) os6 (u6.sameBut sb (ai _)) (hok6.sameBut sb fC) I6.bare (fun b hb=>?_)
   obtain⟨a0,a1,a2,a3,a4,a5⟩:=f3 b hb
   exact⟨a3,a1,a4,a5⟩
  ·have RR:=T.item Xb eP ew eK ec i [] z σ5 H5 (fun _ _=>False) I5 (stat fr5) st5 go
   rw[eA] at RR
   refine thn RR fun r z1 ⟨u,hr,h6⟩=>?_
   subst hr
   refine thn h6 fun _ z2 ⟨x,H7,I7,r7,y7,st7,fr7⟩=>?_
   have I7':=I7.pinned (stat fr7) (T.obj _ _ st7)
   refine thn (hgb _ z2 σ5 H7 x u _ I7' r7 (step x H7 y7)) fun _ z3 ⟨σ8,H8,I8,q8⟩=>?_
   refine thn (htb _ z3 σ8 H8 _ I8 q8) fun ok z4 ⟨H9,I9,q9⟩=>?_
   have again:∀ {σ7:St}{Hz:Hp}{zz:Shared}{yy:List V}{n':Nat},Inv Xb ([]++jD7 fp z2.heap) σ7 Hz zz->n'<n->W (i+1) n' σ7 Hz yy->∃ k,k<n/\∃ i σ' H' ys,Inv Xb [] σ' H' zz/\tn i zz.heap/\(∀ b∈fp,H' b=none)/\W i k σ' H' ys:=fun {σ7 Hz zz yy n'} Iz hn wz=>by
    refine⟨n',hn,i+1,σ7,Hz,yy,Iz.unpinned,T.keep _ _ _ st7 fun b hb o e=>(Iz.pin (b,o) (aE _ (aE _ (jA3 hb e)))).1,fun b hb=>?_,wz⟩
    obtain⟨o,e,d⟩:=T.obj _ _ st7 b hb
    exact(Iz.pin (b,o) (aE _ (aE _ (jA3 hb e)))).2.1
   cases ok with
   | false=>
    obtain⟨n',hn,w9⟩:=hN _ _ _ (show N σ8 H9 ys from q9)
    exact again I9 hn w9
   | true=>
    refine thn (heb _ z4 σ8 H9 _ I9 q9) fun xv z5 ⟨vv,H10,I10,r10,hD10,n10⟩=>?_
    obtain⟨n',hn,w10⟩:=hN _ _ _ n10
    have RR:=jAF (X:=Xb) _ z5 σ8 H10 (.ref s2.heap.objs.size) [vv] (.ref s2.heap.objs.size) [xv] (fun _ H'=>H'=upd H10 s2.heap.objs.size (.lst (ys++[vv]))) I10 rfl (.cons r10 .nil) ⟨_,ys,vv,rfl,rfl,hD10,hlen,rfl⟩
    rw[eP,ew,eA,ex] at RR
    refine thn RR fun _ z6 ⟨_,H11,I11,_,e11⟩=>?_
    subst e11
    exact again I11 hn w10
 exact codeAny_compStart_list loop (T.self _ 0 _ _ _ st4 loop)
theorem jFE (hc:X.calm=true)(hi:PI X tg iter wi)(hkind:sc.kind= .function)(hcell:∀ y∈sc.names,y.2≠ .cell)(hnames:∀ y∈sc.names,y.2= .local->sc.names.lookup y.1=some .local)
  (hfree:∀ y∈sc.names,y.2= .free->X.env.scope.names.lookup y.1=some .cell\/X.env.scope.names.lookup y.1=some .free) (hm:jBL X sc Nc m)
  (hg:∀ cl C fp s H,PG (blk X sc cl C Nc fp s H) tg g) (ht:∀ cl C fp s H,PTs (blk X sc cl C Nc fp s H) ifs tt) (he:∀ cl C fp s H,PE (blk X sc cl C Nc fp s H) elt te)
  (hs:∀ x,foldedSetIterable iter X.env x=pure x:=by intro _; rfl):PE X (.ListComp elt [⟨tg,iter,ifs,0⟩] sc pos) (tComp m wi g tt te):=by
 intro pins s σ H Q I h
 rw[eval_ListComp]
 exact jGL (tf:=fun _=>te) (use:=none) hc hi hkind hcell hnames hfree hm hg ht (fun cl C fp s H _ _ _ _=>he cl C fp s H) hs I h (fun D C H5 z1 r ⟨mm,hn⟩ fC sb q=>⟨mm,hn,fun h' s2=>⟨.ref D,H5,sb h' s2,rfl,q⟩⟩)
end
theorem kQ {X:Cx}{sc psc:Scope}(h:(sc.names.all fun y=>decide (y.2= .free->psc.names.lookup y.1=some .cell\/psc.names.lookup y.1=some .free))=true)(e:X.env.scope=psc:=by rfl):
  ∀ y∈sc.names,y.2= .free->X.env.scope.names.lookup y.1=some .cell\/X.env.scope.names.lookup y.1=some .free:=by
 rw[e]
 intro y hy
 exact aO (bC.mp h y hy)
def jJF (sc:Scope)(N Nc:List Str)(m:List (Option Nat))(k:Nat):Bool:=match m[k]? with
 | some (some i)=>match Nc[k]? with
  | some x=>decide (N[i]?=some x)&&decide (sc.names.lookup x=some .free)
  | none=>false
 | _=>true
theorem jZ {X:Cx}{sc:Scope}{N Nc:List Str}{m:List (Option Nat)}(e:X.N=N)(hl:m.length=Nc.length)(h:((List.range m.length).all (jJF sc N Nc m))=true):jBL X sc Nc m:=by
 refine⟨hl,fun k i hk=>?_⟩
 have hlt:k<m.length:=(ar.mp hk).1
 have q:=bC.mp h k (br.mpr hlt)
 unfold jJF at q
 rw[hk] at q
 cases e2:Nc[k]? with
 | none=>rw[e2] at q; cases q
 | some x=>
  rw[e2] at q
  have q:(decide (N[i]?=some x)&&decide (sc.names.lookup x=some .free))=true:=q
  rw[aS] at q
  exact⟨x,rfl,by rw[e]; exact aO q.1,aO q.2⟩
section
variable {m:List (Option Nat)}{g:TG}{tt:TT}{te:TE}{σ:St}{H1:Hp}{Q:VK}
theorem jCG {lo:Int}{n:Nat}(hn:n<sizeLine)(Pv:Addr->Nat->St->Hp->List V->Prop)(h0:∀ D,H1 D=none->Pv D 0 (blkσ m σ) (upd H1 D (.lst [])) [])
  (hD:∀ D i σ' H' ys,H1 D=none->i<=n->Pv D i σ' H' ys->H' D=some (.lst ys)/\ys.length<=i)
  (hs:∀ D i σ' H' ys,H1 D=none->i<n->Pv D i σ' H' ys->g (.int (lo+i)) σ' H' fun σ2 H2=>tt σ2 H2 fun b H3=>if b=true then te σ2 H3 fun v H4=>H4 D=some (.lst ys)/\Pv D (i+1) σ2 (upd H4 D (.lst (ys++[v]))) (ys++[v]) else Pv D (i+1) σ2 H3 ys)
  (hd:∀ D σ' H' ys,H1 D=none->Pv D n σ' H' ys->Q (.ref D) H'):qC m g tt te σ Q (Itr lo n) H1:=by
 intro D hDn
 refine⟨fun i k σ' H' ys=>k=n - i/\i<=n/\Pv D i σ' H' ys,⟨n,rfl,aM _,h0 D hDn⟩,?_⟩
 rintro i k σ' H' ys ⟨rfl,hi,p⟩
 obtain⟨q1,q2⟩:=hD D i σ' H' ys hDn hi p
 refine⟨q1,by omega,?_⟩
 by_cases hlt:i<n
 ·refine .inr ⟨hlt,Pv D (i+1),fun σ2 H2 zs z=>⟨n - (i+1),by omega,rfl,hlt,z⟩,fun x H'' y=>?_⟩
  obtain⟨e1,e2⟩:=y
  subst e1 e2
  exact hs D i σ' _ ys hDn hlt p
 ·have e:i=n:=by omega
  subst e
  exact .inl ⟨ai _,hd D σ' H' ys hDn p⟩
end
end L2
end
section
namespace SS
open PySem PySem.SetTable
abbrev Ris (xs:Array Nat):Prop:=xs.toList.Pairwise (· < ·)
theorem jBO {xs:Array Nat}(h:Ris xs){a b:Nat}(hab:a<b)(hb:b<xs.size):xs.getD a 0<xs.getD b 0:=by
 have h1:a<xs.size:=cx hab hb
 have:=List.pairwise_iff_getElem.mp h a b (by simpa using h1) (by simpa using hb) hab
 simpa [Array.getD,h1,hb] using this
theorem jMR {xs:Array Nat}{j:Nat}(hr:Ris xs):∀ (fuel lo hi:Nat),hi - lo<=fuel->lo<=hi->hi<=xs.size->(∀ a,a<lo->xs.getD a 0<j)->(∀ a,hi<=a->a<xs.size->j<=xs.getD a 0)->
  (below.go xs j fuel lo hi<=xs.size/\(∀ a,a<below.go xs j fuel lo hi->xs.getD a 0<j)/\(∀ a,below.go xs j fuel lo hi<=a->a<xs.size->j<=xs.getD a 0)):=by
 intro fuel
 induction fuel with
 | zero=>
  intro lo hi h1 h2 h3 h4 h5
  have e:lo=hi:=by omega
  subst e
  exact⟨h3,h4,h5⟩
 | succ fuel ih=>
  intro lo hi h1 h2 h3 h4 h5
  unfold below.go
  by_cases hlt:lo<hi
  ·rw[aA hlt]
   have hm:(lo+hi) / 2<xs.size:=by omega
   have e:xs.getD ((lo+hi) / 2) j=xs.getD ((lo+hi) / 2) 0:=by simp [Array.getD,hm]
   dsimp only
   rw[e]
   by_cases hc:xs.getD ((lo+hi) / 2) 0<j
   ·rw[aA hc]
    refine ih _ _ (by omega) (by omega) h3 (fun a ha=>?_) h5
    by_cases e2:a=(lo+hi) / 2
    ·rw[e2]; exact hc
    ·exact cx (jBO hr (by omega) hm) hc
   ·rw[az hc]
    refine ih _ _ (by omega) (by omega) (by omega) h4 (fun a ha hs=>?_)
    by_cases e2:a=(lo+hi) / 2
    ·rw[e2]; omega
    ·have:=jBO hr (show (lo+hi) / 2<a by omega) hs
     omega
  ·rw[az hlt]
   have e:lo=hi:=by omega
   subst e
   exact⟨h3,h4,h5⟩
theorem jDB {xs:Array Nat}(hr:Ris xs)(j:Nat):below xs j<=xs.size/\(∀ a,a<below xs j->xs.getD a 0<j)/\(∀ a,below xs j<=a->a<xs.size->j<=xs.getD a 0):=
 jMR hr xs.size 0 xs.size (by omega) (aM _) (ai _) (fun a h=>absurd h (cR _)) (fun a h1 h2=>absurd h2 (by omega))
theorem jDZ {xs:Array Nat}(hr:Ris xs){j i:Nat}(hi:i<=xs.size)(h1:∀ a,a<i->xs.getD a 0<j)(h2:∀ a,i<=a->a<xs.size->j<=xs.getD a 0):below xs j=i:=by
 obtain⟨b1,b2,b3⟩:=jDB hr j
 rcases Nat.lt_trichotomy (below xs j) i with h | h | h
 ·have q1:=h1 _ h
  have q2:=b3 _ (ai _) (by omega)
  omega
 ·exact h
 ·have q1:=b2 _ h
  have q2:=h2 _ (ai _) (by omega)
  omega
theorem jA5 {α:Type}(xs:Array α)(p:Nat)(x:α):(insertAt xs p x).toList=xs.toList.take p++x::xs.toList.drop p:=by
 unfold insertAt
 simp [Array.toList_extract,List.extract]
 rw[dc (by simp)]
theorem jBA {α:Type}(xs:Array α)(p:Nat)(x:α):(insertAt xs p x).size=xs.size+1:=by
 rw[<- aU,jA5]
 simp
 omega
theorem jGY {xs:Array Nat}{j:Nat}(hr:Ris xs)(hj:j∉xs.toList):Ris (insertAt xs (below xs j) j):=by
 obtain⟨b1,b2,b3⟩:=jDB hr j
 show (insertAt xs (below xs j) j).toList.Pairwise (· < ·)
 rw[jA5,gg,gH]
 have hl:∀ a∈xs.toList.take (below xs j),a<j:=by
  intro a ha
  obtain⟨i,hi,e⟩:=List.mem_take_iff_getElem.mp ha
  have:=b2 i (by omega)
  have hs:i<xs.size:=by simp at hi; omega
  simp [Array.getD,hs] at this
  simp at e
  omega
 have hg:∀ a∈xs.toList.drop (below xs j),j<a:=by
  intro a ha
  obtain⟨i,hi,e⟩:=List.mem_drop_iff_getElem.mp ha
  have hs:i+below xs j<xs.size:=by simpa [gO] using hi
  have:=b3 (i+below xs j) (by omega) hs
  simp [Array.getD,hs] at this
  have e':xs[i+below xs j]=a:=by simpa [gO] using e
  have hne:a≠j:=by
   intro z
   apply hj
   rw[<- z]
   exact dG ha
  omega
 refine⟨hr.sublist (cY _ _),⟨hg,hr.sublist (List.drop_sublist _ _)⟩,?_⟩
 intro a ha b hb
 rcases aq.mp hb with rfl | hb
 ·exact hl a ha
 ·exact cx (hl a ha) (hg b hb)
theorem jCM {t:SetTable}{j:Nat}(hr:Ris t.place)(h:t.slot j= .empty):j∉t.place.toList:=by
 intro hm
 obtain⟨i,hi,e⟩:=dS hm
 have hs:i<t.place.size:=by simpa using hi
 have e0:t.place[i]=j:=by simpa using e
 have eb:below t.place j=i:=by
  refine jDZ hr (bM hs) (fun a ha=>?_) (fun a h1 h2=>?_)
  ·have:=jBO hr ha hs
   simp only [Array.getD,hs] at this ⊢
   simp [e0] at this ⊢
   exact this
  ·by_cases e2:a=i
   ·subst e2
    simp [Array.getD,hs,e0]
   ·have:=jBO hr (show i<a by omega) h2
    simp only [Array.getD,hs] at this
    simp [e0] at this
    simp [Array.getD]
    omega
 unfold SetTable.slot at h
 dsimp only at h
 rw[eb] at h
 rw[aA (by simp [hs,e0])] at h
 cases h
theorem jFL (j:Nat):has #[] j=false:=by
 unfold has
 simp
theorem jG2 {t:SetTable}(hd:t.dummies=#[]){f:Nat->Int}{h:Int} :∀ (fuel:Nat) (p:Probe) (m:Met),p.dummy=none->probe.go t f h fuel p=some m->
  (∃ j,m= .empty j none/\t.slot j= .empty)\/(∃ j i n,m= .candidate j i n):=by
 intro fuel
 induction fuel with
 | zero=>intro p m _ e; simp [probe.go] at e
 | succ fuel ih=>
  intro p m hp e
  unfold probe.go at e
  cases hs:t.slot p.j with
  | empty=>
   rw[hs] at e
   simp only [de] at e
   subst e
   exact .inl ⟨p.j,by rw[hp],hs⟩
  | dummy=>
   unfold SetTable.slot at hs
   dsimp only at hs
   rw[hd,jFL] at hs
   split at hs
   ·cases hs
   ·simp at hs
  | live i=>
   rw[hs] at e
   dsimp only at e
   split at e
   ·simp only [de] at e
    subst e
    exact .inr ⟨_,_,_,rfl⟩
   ·refine ih _ _ ?_ e
    unfold advance
    split
    ·exact hp
    ·exact hp
theorem jDW {t:SetTable}(hr:Ris t.place)(hd:t.dummies=#[]){h:Int}{slot:Nat}{d:Bool}(e:t.freeSlot h=some (slot,d)):slot∉t.place.toList:=by
 unfold SetTable.freeSlot at e
 split at e
 ·rename_i j dummy hp
  simp only [de,Prod.mk.injEq] at e
  have hp':probe.go t (fun _=>h+1) h (10*turns t.mask) (t.probeStart h)=some (.empty j dummy):=hp
  rcases jG2 hd _ _ _ (by unfold probeStart; rfl) hp' with ⟨j',em,hs⟩ | ⟨_,_,_,em⟩
  ·cases em
   have:slot=j:=by rw[<- e.1]; rfl
   rw[this]
   exact jCM hr hs
  ·cases em
 ·cases e
theorem jGW {t:SetTable}{j:Nat}(hd:t.dummies=#[])(h:t.slot j≠ .empty):(∃ i,t.slot j= .live i)/\j∈t.place.toList:=by
 unfold SetTable.slot at h ⊢
 dsimp only at h ⊢
 by_cases q:(t.place[below t.place j]?==some j)=true
 ·rw[aA q]
  refine⟨⟨_,rfl⟩,?_⟩
  have e:t.place[below t.place j]?=some j:=eq_of_beq q
  obtain⟨hi,e⟩:=cH.mp e
  rw[<- e]
  exact Array.getElem_mem_toList hi
 ·rw[az q,hd,jFL] at h
  exact absurd rfl h
theorem run7 (i:Nat):runEnd 7 i=i:=by unfold runEnd; rw[az (by omega)]
theorem jI4 {t:SetTable}(hm:t.mask=7)(hd:t.dummies=#[]){h:Int} :∀ (k fuel:Nat) (p:Probe),p.j=p.i->p.more=0->p.i<8->p.perturb<32->k<=fuel->
  probe.go t (fun _=>h+1) h fuel p=none->∀ r,r<k->Nat.repeat (fun i=>(i*5+1) % 8) r p.i∈t.place.toList:=by
 intro k
 induction k with
 | zero=>intro fuel p _ _ _ _ _ _ r hr; omega
 | succ k ih=>
  intro fuel p h1 h2 h3 h4 h5 h6 r hr
  obtain⟨f,rfl⟩:∃ f,fuel=f+1:=⟨fuel - 1,by omega⟩
  unfold probe.go at h6
  by_cases he:t.slot p.j= .empty
  ·rw[he] at h6; cases h6
  ·obtain⟨⟨i,hl⟩,hmem⟩:=jGW hd he
   rw[hl] at h6
   dsimp only at h6
   rw[az (by simp; omega)] at h6
   have hz:p.perturb / 32=0:=by omega
   have ea:t.advance p= { p with j:=(p.i*5+1) % 8,more:=0,i:=(p.i*5+1) % 8,perturb:=0} :=by
    unfold advance leap
    rw[az (by omega),hm,hz]
    simp [run7]
   rw[ea] at h6
   cases r with
   | zero=>show p.i∈_; rw[<- h1]; exact hmem
   | succ r=>
    have q:=ih f _ (by rfl) (by rfl) (by show (p.i*5+1) % 8<8; omega) (by show 0<32; omega) (by omega) h6 r (by omega)
    have e:∀ (r i:Nat),Nat.repeat (fun i=>(i*5+1) % 8) (r+1) i=Nat.repeat (fun i=>(i*5+1) % 8) r ((i*5+1) % 8):=by
     intro r
     induction r with
     | zero=>intro i; rfl
     | succ r ihr=>
      intro i
      show ((Nat.repeat _ (r+1) i)*5+1) % 8=((Nat.repeat _ r ((i*5+1) % 8))*5+1) % 8
      rw[ihr]
    rw[e]
    exact q
theorem jK0:∀ i,i<8->∀ j,j<8->∃ r,r<8/\Nat.repeat (fun i=>(i*5+1) % 8) r i=j:=by decide+kernel
theorem jDV {t:SetTable}(hm:t.mask=7)(hd:t.dummies=#[])(hz:t.place.size<8){h:Int}(h0:0<=h)(h1:h<32):∃ q,t.freeSlot h=some q:=by
 unfold SetTable.freeSlot
 have hb:bits h<32:=by unfold bits; omega
 have hps:t.probeStart h= { j:=bits h % 8,more:=0,i:=bits h % 8,perturb:=bits h,dummy:=none} :=by
  unfold probeStart
  rw[hm]
  simp [run7]
 cases e:t.probe (fun _=>h+1) h (t.probeStart h) with
 | none=>
  exfalso
  have e':probe.go t (fun _=>h+1) h (10*turns t.mask) (t.probeStart h)=none:=e
  rw[hps] at e'
  have q:=jI4 hm hd 8 _ _ (by rfl) (by rfl) (by show bits h % 8<8; omega) (by exact hb) (by rw[hm]; decide) e'
  have sub:List.range 8 ⊆ t.place.toList:=by
   intro j hj
   obtain⟨r,hr,er⟩:=jK0 (bits h % 8) (by omega) j (br.mp hj)
   rw[<- er]
   exact q r hr
  have:=List.Nodup.length_le_of_subset (List.nodup_range (n:=8)) sub
  simp at this
  omega
 | some m=>
  rcases jG2 hd _ _ _ (by rw[hps]) (show probe.go t (fun _=>h+1) h (10*turns t.mask) (t.probeStart h)=some m from e) with ⟨j,rfl,_⟩ | ⟨j,i,n,rfl⟩
  ·exact⟨_,rfl⟩
  ·exfalso
   have nc:∀ (fuel:Nat) (p:Probe) (j i:Nat) (n:Probe),probe.go t (fun _=>h+1) h fuel p≠some (.candidate j i n):=by
    intro fuel
    induction fuel with
    | zero=>intro p j i n; simp [probe.go]
    | succ f ih=>
     intro p j i n
     unfold probe.go
     cases t.slot p.j with
     | empty=>simp
     | dummy=>exact ih _ _ _ _
     | live i'=>
      dsimp only
      rw[az (by simp; omega)]
      exact ih _ _ _ _
   exact nc _ _ _ _ _ e
structure Tab (t:SetTable)(n:Nat)(led:Bool):Prop where
 ris:Ris t.place
 sz:t.place.size=n
 dm:t.dummies=#[]
 msk:t.mask=7
 pl:t.plain=true
 ld:t.led=led
theorem Tab.fits {t:SetTable}{n:Nat}{led:Bool}(T:Tab t n led)(hn:n<=4):t.fits n=true:=by
 unfold SetTable.fits fill
 simp [T.sz,T.dm,T.msk]
 omega
theorem Tab.full {t:SetTable}{n:Nat}{led:Bool}(T:Tab t n led)(hn:n<=4):t.tooFull=false:=by
 unfold tooFull fill
 simp [T.sz,T.dm,T.msk]
 omega
theorem jHQ (led:Bool):Tab (fresh 0 0 led) 0 led:=⟨List.Pairwise.nil,rfl,rfl,rfl,rfl,rfl⟩
theorem jHA {t:SetTable}{n:Nat}{led:Bool}(T:Tab t n led)(hn:n+1<=4)(es:Array (Int×Value))(he:es.size=n){h:Int}(h0:0<=h)(h1:h<32)(x:Value):
  Tab (layNew t es h x).2.1 (n+1) led/\∃ p,(layNew t es h x).1.toList=es.toList.take p++(h,x)::es.toList.drop p:=by
 obtain⟨⟨slot,d⟩,hf⟩:=jDV T.msk T.dm (by rw[T.sz]; omega) h0 h1
 unfold layNew
 rw[hf]
 dsimp only [SetTable.put]
 have hnm:=jDW T.ris T.dm hf
 have T2:Tab { t with place:=insertAt t.place (below t.place slot) slot,dummies:=if has t.dummies slot then eraseAt t.dummies (below t.dummies slot) else t.dummies} (n+1) led:=by
  refine⟨jGY T.ris hnm,by rw[jBA,T.sz],?_,T.msk,T.pl,T.ld⟩
  rw[T.dm,jFL]
  rfl
 refine⟨?_,_,jA5 _ _ _⟩
 unfold SetTable.orStandIn
 rw[jBA,he,T2.fits hn]
 exact T2
def jFZ (xs:Array Nat):Nat->Nat
 | 0=>0
 | i+1=>xs.getD i 0+1
theorem jF8 {xs:Array Nat}(hr:Ris xs){i:Nat}(hi:i<=xs.size):below xs (jFZ xs i)=i:=by
 cases i with
 | zero=>exact jDZ hr (aM _) (fun a h=>absurd h (cR _)) (fun a _ _=>aM _)
 | succ i=>
  refine jDZ hr hi (fun a ha=>?_) (fun a h1 h2=>?_)
  ·show _<xs.getD i 0+1
   by_cases e:a=i
   ·rw[e]; omega
   ·have:=jBO hr (show a<i by omega) (show i<xs.size by omega)
    omega
  ·show xs.getD i 0+1<=_
   exact jBO hr (show i<a by omega) h2
theorem jAX {α:Type}{l:List α}{i:Nat}(h:i<l.length):(l[i]::l.eraseIdx i).Perm l:=by
 rw[List.eraseIdx_eq_take_drop_succ]
 have e:l=l.take i++l[i]::l.drop (i+1):=by rw[<- List.drop_eq_getElem_cons h,di]
 conv=>rhs; rw[e]
 exact List.perm_middle.symm
theorem jM2 {α:Type}(next:Nat->Nat):∀ (fuel k:Nat) (left:List α) (out:Array α),fuel=left.length->(pickOrder.go next fuel k left out).toList.Perm (out.toList++left):=by
 intro fuel
 induction fuel with
 | zero=>
  intro k left out h
  have:left=[]:=cV.mp h.symm
  subst this
  simp [pickOrder.go]
 | succ f ih=>
  intro k left out h
  have hl:next k % left.length<left.length:=Nat.mod_lt _ (by omega)
  unfold pickOrder.go
  rw[bh hl]
  dsimp only
  refine(ih _ _ _ (by rw[el hl]; omega)).trans ?_
  rw[Array.toList_push,eU]
  exact gc _ (jAX hl)
theorem jED {α:Type}(next:Nat->Nat)(xs:Array α):(pickOrder next xs).toList.Perm xs.toList:=by
 unfold pickOrder
 have:=jM2 next xs.size 0 xs.toList #[] (by simp)
 simpa using this
end SS
end
section
namespace SS
open PySem
abbrev ledW (w:World):Bool:=!(w.params.followText "set-order")
def El (e:Int×Value)(k:Int):Prop:=e.1=hashInt k/\∃ t,e.2= .int k t
theorem jB4 {α β:Type}{F:α->β->Prop} :∀ {l:List α}{r:List β},Paired F l r->∀ a∈l,∃ b∈r,F a b
 | _,_, .nil=>fun a h=>by cases h
 | _,_, .cons f t=>fun a h=>by
  rcases aq.mp h with rfl | h
  ·exact⟨_,aB,f⟩
  ·obtain⟨b,hb,q⟩:=jB4 t a h
   exact⟨b,aC _ hb,q⟩
theorem jC2 {α β:Type}{F:α->β->Prop} :∀ {l:List α}{r:List β},Paired F l r->∀ b∈r,∃ a∈l,F a b
 | _,_, .nil=>fun a h=>by cases h
 | _,_, .cons f t=>fun b h=>by
  rcases aq.mp h with rfl | h
  ·exact⟨_,aB,f⟩
  ·obtain⟨a,ha,q⟩:=jC2 t b h
   exact⟨a,aC _ ha,q⟩
theorem jD8 {α β:Type}{F:α->β->Prop}{a:α}{b:β}(f:F a b):∀ {l:List α}{r:List β}(p:Nat),Paired F l r->Paired F (l.take p++a::l.drop p) (r.take p++b::r.drop p)
 | _,_,0,q=>by simpa using Paired.cons f q
 | _,_,p+1, .nil=>by simpa using Paired.cons f .nil
 | _,_,p+1, .cons g t=>by
  simp only [List.take_succ_cons,List.drop_succ_cons,fq]
  exact .cons g (jD8 f p t)
theorem jLX {α:Type}(l:List α)(p:Nat)(x z:α):z∈l.take p++x::l.drop p↔z=x\/z∈l:=by
 conv=>rhs; rw[<- di p l]
 simp only [bS,aq]
 constructor
 ·rintro (h | h | h)
  ·exact .inr (.inl h)
  ·exact .inl h
  ·exact .inr (.inr h)
 ·rintro (h | h | h)
  ·exact .inr (.inl h)
  ·exact .inl h
  ·exact .inr (.inr h)
theorem jDH {α:Type}(l:List α)(p:Nat)(x:α):(l.take p++x::l.drop p).Perm (x::l):=by
 have h:(l.take p++x::l.drop p).Perm (x::(l.take p++l.drop p)):=List.perm_middle
 rw[di] at h
 exact h
structure SetG (w:World)(h:Heap)(a:Addr)(ks:List Int):Prop where
 ex:∃ o es ep t,h.get? a=some o/\o.ExactSet/\o.data= .set es ep t/\Paired El es.toList ks/\Tab t es.size (ledW w)
 nd:ks.Nodup
 len:ks.length<=4
section
variable {prog:Program}{w:World}{A:Around}{E:Value->Shared->Prop}{s:Shared}{a:Addr}{ks:List Int}{k:Int}{tk:Tok}
theorem elems {es:List (Int×Value)}(h:Paired El es ks):ElemsOf (intKind prog w) es:=fun e he=>by
 obtain⟨k,_,h1,t,h2⟩:=jB4 h e he
 rw[h2]
 exact⟨⟨k,by show Value.isInt k (.int k t)=true; simp [Value.isInt],h1⟩,rfl⟩
theorem SetG.at {h h':Heap}(S:SetG w h a ks)(e:∀ o,h.get? a=some o->h'.get? a=some o):SetG w h' a ks:=by
 obtain⟨⟨o,es,ep,t,ho,r⟩,nd,len⟩:=S
 exact⟨⟨o,es,ep,t,e _ ho,r⟩,nd,len⟩
theorem jBF (k0:0<=k)(k1:k<32):hashInt k=k:=by
 obtain⟨n,rfl⟩:=Int.eq_ofNat_of_zero_le k0
 have e:∀ n:Nat,n<32->hashInt (n:Int)=(n:Int):=by decide+kernel
 exact e n (by omega)
theorem jOU {Q:Bool->Shared->Prop}(S:SetG w s.heap a ks)(hl:ks.length+1<=4)(k0:0<=k)(k1:k<32)
  (h:∀ b h' ks',Heap.SameBut a s.heap h'->SetG w h' a ks'->(∀ z,z∈ks'↔z=k\/z∈ks)->ks'.length<=ks.length+1->Q b { s with heap:=h'}):
  wpAny (model prog w) A (setAddHashed a (.int k tk) (hashInt k)) Q E s:=by
 obtain⟨o,es,ep,t,ho,hex,hd,hp,T⟩:=id S.ex
 have hn:es.size=ks.length:=by rw[<- aU]; exact eZ hp
 have hf:=T.fits (by omega)
 have hel:ElemsOf (intKind prog w) es.toList:=elems hp
 have hb:es.size<scanBound:=by unfold scanBound; omega
 have hi:∀ (j:Int) (t:Tok),Value.isInt k (.int j t)=true->j=k:=fun j t e=>by simpa [Value.isInt] using e
 unfold setAddHashed setAddHashedIn
 refine aL (ac (bI ho hd hf ?_))
 dsimp only
 rw[byScan_of (knd:=intKind prog w) rfl hb hel,aA rfl]
 unfold setAddByScan
 refine ac (ac (cI (ac ?_)))
 refine wpAny_setScan_of (knd:=intKind prog w) (k:=k) (by show Value.isInt k (.int k tk)=true; simp [Value.isInt]) ho hd hf hel ?_
 have es0:s= { s with heap:=s.heap} :=by cases s; rfl
 cases hr:List.findIdx? (fun e=>(intKind prog w).is k e.2) es.toList with
 | some j=>
  obtain⟨hj,hpj,_⟩:=List.findIdx?_eq_some_iff_getElem.mp hr
  obtain⟨k',hk',_,t',e'⟩:=jB4 hp _ (cn hj)
  have hkk:k'=k:=hi k' t' (by rw[<- e']; exact hpj)
  subst hkk
  refine ag (ag ?_)
  rw[es0]
  exact h false s.heap ks (Heap.SameBut.refl a s.heap) S (fun z=>⟨.inr,fun q=>q.elim (fun e=>e ▸ hk') id⟩) (by omega)
 | none=>
  have hnk:k∉ks:=fun hm=>by
   obtain⟨e,he,_,t',e'⟩:=jC2 hp k hm
   have q:=List.findIdx?_eq_none_iff.mp hr e he
   rw[e'] at q
   have q':Value.isInt k (.int k t')=false:=q
   simp [Value.isInt] at q'
  obtain⟨T1,p,hp1⟩:=jHA T (by omega) es rfl (h:=hashInt k) (by rw[jBF k0 k1]; exact k0) (by rw[jBF k0 k1]; exact k1) (.int k tk)
  dsimp only
  show wpAny _ A (match layNew t es (hashInt k) (Value.int k tk) with | (es,t,wasDummy,gave)=>_) _ E s
  generalize layNew t es (hashInt k) (Value.int k tk)=L at T1 hp1 ⊢
  obtain⟨es1,t1,wd,gv⟩:=L
  dsimp only at T1 hp1 ⊢
  have hp2:Paired El es1.toList (ks.take p++k::ks.drop p):=by
   rw[hp1]
   exact jD8 ⟨rfl,tk,rfl⟩ p hp
  have hz1:es1.size=es.size+1:=by
   rw[<- aU,hp1,(jDH es.toList p (hashInt k,Value.int k tk)).length_eq]
   simp
  have hlen:(ks.take p++k::ks.drop p).length=ks.length+1:=(jDH ks p k).length_eq
  have T1':Tab t1 es1.size (ledW w):=by rw[hz1]; exact T1
  have hg:(s.heap.update a (Obj.putSet es1 t1)).get? a=some { o with data:= .set es1 (ep+1) t1} :=by
   have q:=aZ (Obj.putSet es1 t1) ho (by rw[putSet_of es1 t1 hd]; rfl)
   rw[putSet_of es1 t1 hd] at q
   exact q
  have fin:Q true { s with heap:=s.heap.update a (Obj.putSet es1 t1)} :=
   h true _ _ (dU ..) ⟨⟨_,es1,ep+1,t1,hg,hex,rfl,hp2,T1'⟩,(jDH ks p k).nodup_iff.mpr (bJ.mpr ⟨hnk,S.nd⟩),by omega⟩ (fun z=>jLX ks p k z) (by omega)
  have hfull:t1.tooFull=false:=T1'.full (by omega)
  refine ac (show wpAny _ A (match gv with | true=>rule "set.scan.the-table-gave-way" | false=>pure ()) _ E s from ?_)
  have hzl:es1.size<=sizeLine:=by rw[hz1,show sizeLine=2 ^ 24 from rfl]; omega
  cases gv with
  | true=>
   refine cI ?_
   split
   all_goals
    refine ac (show wpAny _ A (pure true:Sem Bool) _ E s from ag ?_)
    simp only [fM]
    refine ac (wpAny_storeSet_of ho hd ?_ hzl)
    rw[hfull,bQ,az am]
    exact ag (ag fin)
  | false=>
   refine ag ?_
   split
   all_goals
    refine ac (show wpAny _ A (pure true:Sem Bool) _ E s from ag ?_)
    simp only [fM]
    refine ac (wpAny_storeSet_of ho hd ?_ hzl)
    rw[hfull,bQ,az am]
    exact ag (ag fin)
end
theorem jB3:entryFor table "set.update.loop" =some Builtin.«set.update.loop»:=fw (by kernel_rfl)
theorem jAA:plainId "set.update.loop" =true:=by decide+kernel
section
variable {prog:Program}{w:World}{A:Around}{R:Result->Shared->Prop}{I:Addr}{fp wr:List Addr}{n:Nat}{P:Nat->Value->Prop}{St:Nat->Shared->Prop}
theorem jK3 (W:WalksS prog w A.in1 I fp wr (fun a b=>b=a) n P St)(S:Addr)(hSf:S∉fp)(val:Nat->Int)(hval:∀ i v,P i v->∃ t,v= .int (val i) t)(hv:∀ i,i<n->0<=val i/\val i<32)(hn:n<=4):
  ∀ (k i:Nat) (s:Shared) (ks:List Int),n - i=k->i<=n->St i s->SetG w s.heap S ks->ks.length<=i->(∀ z,z∈ks↔∃ j,j<i/\val j=z)->
   (∀ s' ks',Moved (S::wr) (fun a b=>b=a) s s'->SetG w s'.heap S ks'->(∀ z,z∈ks'↔∃ j,j<n/\val j=z)->R (.ok (.ret .none)) s')->
   codeAny (model prog w) A (.builtin "set.update.loop" ⟨[.ref S, .ref I],[]⟩) R s:=by
 have hSw:S∉wr:=fun h=>hSf (W.sub _ h)
 have sub1:∀ b∈wr,b∈S::wr:=fun b hb=>aC _ hb
 intro k
 induction k with
 | zero=>
  intro i s ks hk hi hst hS hl hm hR
  obtain rfl:i=n:=by omega
  refine bc jB3 ?_
  rw[be jAA _]
  show wpAny _ A.in1 (pyNext (.ref I) >>= _) _ _ s
  refine ac (W.done s _ _ hst fun s' mv=>?_)
  show wpAny _ A.in1 (ret Value.none) _ _ s'
  exact ag (hR s' ks (mv.mono sub1) (hS.at fun o e=>mv.heap S o hSw e) hm)
 | succ k ih=>
  intro i s ks hk hi hst hS hl hm hR
  have hlt:i<n:=by omega
  refine bc jB3 ?_
  rw[be jAA _]
  show wpAny _ A.in1 (pyNext (.ref I) >>= _) _ _ s
  refine ac (W.item i s _ _ hlt hst fun v s' hP hst' mv=>?_)
  obtain⟨t,rfl⟩:=hval i v hP
  have hS':=hS.at (h':=s'.heap) fun o e=>mv.heap S o hSw e
  show wpAny _ A.in1 (holding [Value.int (val i) t] (setAdd S (.int (val i) t)) >>= _) _ _ s'
  refine ac (aL ?_)
  unfold setAdd
  refine aL (ac (wpAny_pyHash_int ?_))
  refine jOU (s:= { s' with toks:=s'.toks+1}) hS' (by omega) (hv i hlt).1 (hv i hlt).2 fun b h' ks' sb hS2 hm2 hl2=>?_
  refine ag ⟨cA jAA _,ih (i+1) _ ks' (by omega) hlt (W.frame _ s' _ _ hst' (cr _) fun b hb o e=>?_) hS2 (by omega) (fun z=>?_) fun s'' ks'' mv2 hS3 hm3=>?_⟩
  ·rw[sb.2 b (fun h:b=S=>hSf (by rw[<- h]; exact hb))]
   exact e
  ·rw[hm2,hm]
   constructor
   ·rintro (h | ⟨j,hj,e⟩)
    ·exact⟨i,by omega,h.symm⟩
    ·exact⟨j,by omega,e⟩
   ·rintro ⟨j,hj,e⟩
    by_cases hji:j=i
    ·exact .inl (by rw[<- e,hji])
    ·exact .inr ⟨j,by omega,e⟩
  ·refine hR s'' ks'' (Moved.trans W.gtrans ((mv.mono sub1).then_heap (cr _) fun b o hb e=>?_) mv2) hS3 hm3
   rw[sb.2 b (fun h:b=S=>hb (by rw[h]; exact aB))]
   exact e
end
section
variable {prog:Program}{w:World}{A:Around}{E:Value->Shared->Prop}{s:Shared}
theorem jMK (a:Value){Q:Value->Shared->Prop}
  (h:Q (.ref s.heap.objs.size) { s with heap:=s.heap.push { cls:= .type "set",dict:=none,data:= .set #[] 0 (.fresh 0 0 (ledW w))}}):
  codeAny (model prog w) A (.call (.builtin "set.__new__") ⟨[.type "set",a],[]⟩) (wants Q E) s:=by
 refine codeAny_of_tree (show wpAny _ A.in1 (do checkBuiltinCall "set.__new__" ⟨[.type "set",a],[]⟩; again (.builtin "set.__new__" ⟨[.type "set",a],[]⟩)) _ _ s from ?_)
 refine ac (eV (F.newCall_set_1 a) (ag ⟨cA F.plain_set_new _,bc F.entry_set_new ?_⟩))
 rw[be F.plain_set_new _]
 unfold Builtin.«set.__new__» Builtin.Frozenset.newClass
 have q:=sub_set_self
 obtain⟨hp,g,d,tk,os⟩:=s
 dsimp only
 wp_walk
 refine cK (ag ?_)
 dsimp only
 simp only [newObj]
 exact ac (wpAny_alloc (ag (ag h)))
set_option maxHeartbeats 3200000 in
theorem set_of_list {l:Addr}{items:Array Value}{ns:List Int}{Q:Value->Shared->Prop}(hh:A.handled=none)(hl:s.heap.IsList l items)(hi:PyProof.Rows.IntsAre items.toList ns)
  (hn:items.size<=4) (hv:∀ z∈ns,0<=z/\z<32)
  (h:∀ (h':Heap) (tk:Nat) (ks:List Int),SetG w h' s.heap.objs.size ks->(∀ z,z∈ks↔z∈ns)->(∀ b o,s.heap.get? b=some o->h'.get? b=some o)->Q (.ref s.heap.objs.size) { s with heap:=h',toks:=tk}):
  wpAny (model prog w) A (call (.type "set") [.ref l]) Q E s:=by
 obtain⟨c,tl,hmro⟩:=F.called_set.mro
 have hmade:=F.called_set.made
 have hsub:=F.called_set.sub
 have g1:=F.called_set.notType
 have g2:=F.called_set.canCreate
 have g3:=F.typeCall_set_1 (.ref l)
 refine dn (codeAny_of_tree (show wpAny _ _ (callAny (.type "set") _) _ _ _ from ?_))
 refine ag ⟨Code.quiet_builtin _ (by decide+kernel),bc F.entry_type_call ?_⟩
 rw[Around.under_plain (weight_type_call_type "set" [.ref l] []) rfl]
 repeat (any_goals (first | assumption | wp_step))
 have hlen:items.size=ns.length:=by rw[<- aU]; exact hi.length
 refine bX (jMK (.ref l) (E:=E) (Q:=fun obj z=>obj= .ref s.heap.objs.size/\z= { s with heap:=s.heap.push { cls:= .type "set",dict:=none,data:= .set #[] 0 (.fresh 0 0 (ledW w))}}) ⟨rfl,rfl⟩) fun r z hr=>?_
 cases r with
 | error e=>exact hr
 | ok fl=>
  cases fl with
  | ret obj=>
   obtain⟨rfl,rfl⟩:=hr
   generalize hO:({ cls:= .type "set",dict:=none,data:= .set #[] 0 (.fresh 0 0 (ledW w))} :Obj)=oS
   have hS:(s.heap.push oS).get? s.heap.objs.size=some oS:=aj _ (by rw[<- hO]; rfl)
   have hT:Shared.TypeIs { s with heap:=s.heap.push oS} (.ref s.heap.objs.size) "set" :=⟨_,hS,by rw[<- hO]⟩
   have hli:=F.called_set.init.lookup
   have hbi:=F.called_set.init.bind (.ref s.heap.objs.size)
   repeat (any_goals (first | assumption | wp_step))
   refine bX (codeAny_call_builtin (R:=wants (fun r z2=>r= .none/\∃ h' tk ks,z2= { s with heap:=h',toks:=tk} /\SetG w h' s.heap.objs.size ks/\(∀ z,z∈ks↔z∈ns)/\(∀ b o,s.heap.get? b=some o->h'.get? b=some o)) E)
    F.called_set.init.plain F.entry_set_init (check_set_init_1 hT ?_)) fun r2 z2 hr2=>?_
   ·obtain⟨ol,hol,hcl,nl,hdl⟩:=hl
    obtain⟨ocls,odict,odata,oslots⟩:=ol
    simp only at hcl hdl
    subst hcl; subst hdl
    have hol':(s.heap.push oS).get? l=some { cls:= .type "list",dict:=odict,data:= .seq items nl,slots:=oslots} :=af _ hol
    have y1:=F.sub_list_set
    have y2:=F.sub_list_frozenset
    have y3:(Value.type "list" ==Value.type "dict")=false:=by decide
    have hl1:(s.heap.push oS).IsList l items:=⟨_,hol',rfl,nl,rfl⟩
    subst hO
    unfold Builtin.«set.__init__» noKeywords Builtin.Frozenset.updateFrom
    generalize hPI:pyIter=PI
    wp_walk
    subst hPI
    refine cG hl1 (ac (df ?_))
    have hlS:l<s.heap.objs.size:=ak hol
    have hz1:(s.heap.push { cls:= .type "set",dict:=none,data:= .set #[] 0 (.fresh 0 0 (ledW w))}).objs.size=s.heap.objs.size+1:=bv _ _
    have nI:l≠(s.heap.push { cls:= .type "set",dict:=none,data:= .set #[] 0 (.fresh 0 0 (ledW w))}).objs.size:=by
     rw[hz1]
     exact ao (bH hlS)
    have nS:s.heap.objs.size∉ [(s.heap.push { cls:= .type "set",dict:=none,data:= .set #[] 0 (.fresh 0 0 (ledW w))}).objs.size,l]:=by
     rw[hz1]
     simp only [aq,aJ,bL,gR]
     exact⟨ao (fz _),cw hlS⟩
    have hget:((s.heap.push { cls:= .type "set",dict:=none,data:= .set #[] 0 (.fresh 0 0 (ledW w))}).push { cls:= .type "list_iterator",data:= .fields #[.ref l, .int 0 0]}).get? s.heap.objs.size
      =some { cls:= .type "set",dict:=none,data:= .set #[] 0 (.fresh 0 0 (ledW w))} :=af _ hS
    refine jK3 ((Walks.list (by simp [hh]) _ l nI items).toS) s.heap.objs.size nS (fun i=>ns.getD i 0) (fun i v q=>PyProof.Rows.IntsAre.int_at hi i v (by rw[cD]; exact q))
     (fun i q=>hv _ ?_) hn (items.size - 0) 0 _ [] rfl (aM _) ⟨⟨_,aj _ rfl,rfl,rfl⟩,hl1.push _⟩ ⟨⟨_,#[],0,_,hget,⟨rfl,rfl,rfl⟩,rfl, .nil,jHQ _⟩,List.nodup_nil,aM _⟩ (ai _) (fun z=>⟨fun q=>by(cases q),fun ⟨j,q,_⟩=>absurd q (cR _)⟩) ?_
    ·have q':i<ns.length:=by rw[<- hlen]; exact q
     simp [List.getD,q']
    ·intro s' ks mv S' hm
     obtain⟨h',g',d',tk',os'⟩:=s'
     have e1:g'=s.gens:=mv.gens
     have e2:d'=s.drawn:=mv.drawn
     have e3:os'=s.os:=mv.os
     subst e1; subst e2; subst e3
     refine ag (ag ⟨rfl,h',tk',ks,rfl,S',fun z=>?_,fun b o e=>?_⟩)
     ·rw[hm]
      constructor
      ·rintro ⟨j,hj,e⟩
       have hj':j<ns.length:=by rw[<- hlen]; exact hj
       rw[<- e]
       simp [List.getD,hj']
      ·intro hz
       obtain⟨j,hj,e⟩:=dS hz
       exact⟨j,by rw[hlen]; exact hj,by simp [List.getD,hj,e]⟩
     ·have hb:=ak e
      refine mv.heap b o ?_ (af _ (af _ e))
      rw[hz1]
      simp only [aq,aJ,bL,gR]
      exact⟨ao hb,ao (bH hb)⟩
   ·cases r2 with
    | error e=>exact hr2
    | ok fl2=>
     cases fl2 with
     | ret r=>
      obtain⟨rfl,h',tk,ks,rfl,hS',hm,hk⟩:=hr2
      repeat (any_goals (first | assumption | wp_step))
      exact h _ _ _ hS' hm hk
     | _=>exact hr2.elim
  | _=>exact hr.elim
end
theorem slot_si_next:Slot "set_iterator" "__next__" "set_iterator.__next__" :=
 .of (owner:= "set_iterator") (n:= "__next__") (by
   rw[fZ,dj]
   kernel_rfl) (by decide+kernel) (by decide+kernel)
  (by decide+kernel)
  (by first
   | exact .inl (by decide+kernel)
   | exact .inr (by decide+kernel))
  (by
   rw[gh]
   kernel_rfl)
theorem jC0:Slot "set_iterator" "__iter__" "set_iterator.__iter__" :=
 .of (owner:= "set_iterator") (n:= "__iter__") (by
   rw[fZ,dj]
   kernel_rfl) (by decide+kernel) (by decide+kernel)
  (by decide+kernel)
  (by first
   | exact .inl (by decide+kernel)
   | exact .inr (by decide+kernel))
  (by
   rw[gh]
   kernel_rfl)
theorem jBI:entryFor table "set_iterator.__next__" =some Builtin.«set_iterator.__next__»:=entryFor_of_tree (by kernel_rfl)
theorem jD1:entryFor table "set.__iter__" =some Builtin.«frozenset.__iter__»:=
 entryFor_alias (id':= "frozenset.__iter__") (by kernel_rfl) rfl (by decide+kernel) (by kernel_rfl)
theorem jDY:entryFor table "set_iterator.__iter__" =some Builtin.«dict_keyiterator.__iter__»:=
 entryFor_alias (id':= "dict_keyiterator.__iter__") (by kernel_rfl) (by first | rfl | decide+kernel | (unfold String.splitOn; simp+decide [String.splitOnAux])) (by decide+kernel)
  (by kernel_rfl)
theorem jC4 (a:Value):argsOk "set_iterator.__next__" ⟨[a],[]⟩:=by unfold argsOk; kernel_rfl
theorem jFA (a:Value):argsOk "set_iterator.__iter__" ⟨[a],[]⟩:=by unfold argsOk; kernel_rfl
theorem jE1 (a:Value):argsOk "set.__iter__" ⟨[a],[]⟩:=by unfold argsOk; kernel_rfl
abbrev byTxt (w:World):Bool:=w.params.followText "set-order"
abbrev IsSI (h:Heap)(I:Addr)(slot i:Nat)(a:Addr)(n ep:Nat):Prop:=
 h.get? I=some { cls:= .type "set_iterator",dict:=none,data:= .fields #[rawInt slot,rawInt i, .ref a,rawInt n,rawInt ep],slots:=#[]}
def yT (w:World)(t:SetTable)(i:Nat):Nat:=if byTxt w=true then 0 else jFZ t.place i
def told (w:World)(a:Addr)(ep:Nat)(es:Array (Int×Value)):List Value:=(if byTxt w=true then (pickOrder (w.params.setOrder a ep) es).toList else es.toList).map (·.2)
theorem jAJ (w:World)(a:Addr)(ep:Nat)(es:Array (Int×Value)):(told w a ep es).length=es.size:=by
 unfold told
 rw[ae]
 split
 ·rw[(jED _ es).length_eq]; simp
 ·simp
theorem jHN (w:World)(a:Addr)(ep:Nat)(es:Array (Int×Value)):(told w a ep es).Perm (es.toList.map (·.2)):=by
 unfold told
 split
 ·exact(jED _ es).map _
 ·exact .refl _
section
variable {prog:Program}{w:World}{A:Around}{E:Value->Shared->Prop}{s:Shared}{a I:Addr}{o:Obj}{es:Array (Int×Value)}{ep:Nat}{t:SetTable}
theorem jIL {i:Nat}{Q:Option (Value×Nat)->Shared->Prop}(ho:s.heap.get? a=some o)(hd:o.data= .set es ep t)(T:Tab t es.size (ledW w))(hn:es.size<=4)(hi:i<=es.size)
  (h:Q ((told w a ep es)[i]?.map fun v=>(v,yT w t (i+1))) s):wpAny (model prog w) A (setNext a (yT w t i) i ep) Q E s:=by
 unfold setNext
 refine ac (bI ho hd (T.fits hn) ?_)
 dsimp only
 unfold setsByText
 refine ac (ac (cK (ag ?_)))
 show wpAny _ A (if byTxt w=true then _ else _) Q E s
 have hl:=jAJ w a ep es
 by_cases hb:byTxt w=true
 ·rw[aA hb,az (by simp)]
  unfold setWalk
  refine ac (ac (bI ho hd (T.fits hn) ?_))
  dsimp only
  unfold setsByText
  refine ac (ac (cK (ag ?_)))
  show wpAny _ A (if byTxt w=true then _ else _) _ E s
  rw[aA hb]
  refine ac (cK (ag (ag ?_)))
  have e:(told w a ep es)[i]?.map (fun v=>(v,yT w t (i+1)))=(pickOrder (w.params.setOrder a ep) es)[i]?.map (fun e=>(e.snd,yT w t i)):=by
   unfold told yT
   rw[aA hb,aA hb,aA hb,aG,cD,Option.map_map]
   rfl
  rw[e] at h
  exact h
 ·rw[az hb]
  have hb':byTxt w=false:=by simpa using hb
  have hld:t.led=true:=by rw[T.ld]; show (!byTxt w)=true; rw[hb']; rfl
  show wpAny _ A (if (!t.plain&&decide (es.size>1))=true then _ else _) Q E s
  rw[T.pl,gB,dZ,az am]
  refine ac ?_
  show wpAny _ A (if (!t.led&&!es.isEmpty)=true then _ else pure ()) _ E s
  rw[hld,gB,dZ,az am]
  refine ag (ag ?_)
  have eb:SetTable.below t.place (yT w t i)=i:=by
   unfold yT
   rw[az hb]
   exact jF8 T.ris (by rw[T.sz]; exact hi)
  rw[eb]
  have et:(told w a ep es)[i]?=es[i]?.map (·.2):=by
   unfold told
   rw[az hb,aG,cD]
  rw[et] at h
  by_cases hlt:i<es.size
  ·have h1:es[i]?=some es[i]:=by simp [hlt]
   have hlt2:i<t.place.size:=by rw[T.sz]; exact hlt
   have h2:t.place[i]?=some t.place[i]:=by simp [hlt2]
   have h3:yT w t (i+1)=t.place[i]+1:=by
    unfold yT jFZ
    rw[az hb]
    simp [Array.getD,hlt2]
   rw[h1,h3] at h
   rw[h1,h2]
   exact h
  ·have h1:es[i]?=none:=by simp; omega
   rw[h1] at h
   rw[h1]
   exact h
theorem jE9 {i:Nat}{v:Value}{Q:Option Value->Shared->Prop}(ho:s.heap.get? a=some o)(hd:o.data= .set es ep t)(T:Tab t es.size (ledW w))(hn:es.size<=4)
  (hit:IsSI s.heap I (yT w t i) i a es.size ep) (hv:(told w a ep es)[i]?=some v)
  (hQ:∀ h',IsSI h' I (yT w t (i+1)) (i+1) a es.size ep->Heap.SameBut I s.heap h'->Q (some v) { s with heap:=h'}):wpAny (model prog w) A (pyNext (.ref I)) Q E s:=by
 have hT:s.TypeIs (.ref I) "set_iterator" :=⟨_,hit,rfl⟩
 have hi:i<es.size:=by
  rw[<- jAJ w a ep es]
  exact(ar.mp hv).1
 unfold pyNext
 refine ac (cB (aQ (name:=Str.ofString "__next__") hT slot_si_next (aR slot_si_next hT jBI ?_ (jC4 _))))
 unfold Builtin.«set_iterator.__next__»
 refine ac (m:=slotArgs "__next__" 0 _) (ag ?_)
 dsimp only
 unfold fieldsOf
 refine ac (ac (dk hit ?_))
 refine ag ?_
 dsimp only [rawInt]
 unfold setEntries
 refine ac (ac (bI ho hd (T.fits hn) (ag ?_)))
 rw[az (by simp)]
 simp only [bj]
 refine ac (jIL ho hd T hn (bM hi) ?_)
 rw[hv]
 dsimp only [Option.map]
 refine ac (bo hit (by simp) fun h1 hit1 sb1=>?_)
 refine ac (bo hit1 (by simp) fun h2 hit2 sb2=>?_)
 refine ag ⟨v,rfl,ag (hQ h2 ?_ (sb1.trans sb2))⟩
 show h2.get? I=_
 rw[hit2]
 simp [rawInt]
theorem jFC {Q:Option Value->Shared->Prop}(hh:A.handled=none)(ho:s.heap.get? a=some o)(hd:o.data= .set es ep t)(T:Tab t es.size (ledW w))(hn:es.size<=4)
  (hit:IsSI s.heap I (yT w t es.size) es.size a es.size ep)
  (hQ:∀ h',Heap.ExtBut I s.heap h'->Q none { s with heap:=h'}):wpAny (model prog w) A (pyNext (.ref I)) Q E s:=by
 have hT:s.TypeIs (.ref I) "set_iterator" :=⟨_,hit,rfl⟩
 unfold pyNext
 refine ac (cB (aQ (name:=Str.ofString "__next__") hT slot_si_next (aR slot_si_next hT jBI ?_ (jC4 _))))
 unfold Builtin.«set_iterator.__next__»
 refine ac (m:=slotArgs "__next__" 0 _) (ag ?_)
 dsimp only
 unfold fieldsOf
 refine ac (ac (dk hit ?_))
 refine ag ?_
 dsimp only [rawInt]
 unfold setEntries
 refine ac (ac (bI ho hd (T.fits hn) (ag ?_)))
 rw[az (by simp)]
 simp only [bj]
 refine ac (jIL ho hd T hn (ai _) ?_)
 rw[bR (by rw[jAJ]; exact ai _)]
 dsimp only [Option.map]
 refine ac (bo hit (by simp) fun h1 hit1 sb1=>?_)
 refine ac ?_
 simp only [newExc,newTuple]
 refine ac (ay ?_ (by size_fits))
 refine ac (m:=firstArgMember _ _) (eV (a:=Value.none) (by first | rfl | (simp only [firstArgMember]; rfl)) ?_)
 refine ay ?_ (by size_fits)
 simp only [raiseNew]
 refine ac (wpAny_handled ?_)
 rw[show A.in1.handled=none from hh]
 refine ac (ag (wpAny_throw ?_))
 refine ac (cL (T:= "StopIteration") (b:=true) ⟨_,aj _ rfl,rfl⟩ gi ?_)
 exact ag (hQ _ ((sb1.extBut.push _).push _))
theorem jLS {i:Nat}{slot n:Nat}{Q:Value->Shared->Prop}(hit:IsSI s.heap I slot i a n ep)(h:Q (.ref I) s):wpAny (model prog w) A (pyIter (.ref I)) Q E s:=by
 have hT:s.TypeIs (.ref I) "set_iterator" :=⟨_,hit,rfl⟩
 refine wpAny_pyIter_slot hT jC0 (aR jC0 hT jDY ?_ (jFA _))
 show wpAny _ _ (ret (.ref I)) _ _ s
 exact ag ⟨_,rfl,"set_iterator",_,hT,slot_si_next.lookup,h⟩
theorem jK5 {Q:Value->Shared->Prop}(hx:o.ExactSet)(ho:s.heap.get? a=some o)(hd:o.data= .set es ep t)(T:Tab t es.size (ledW w))(hn:es.size<=4)
  (hQ:∀ h',h'.get? s.heap.objs.size=some { cls:= .type "set_iterator",dict:=none,data:= .fields #[rawInt (yT w t 0),rawInt 0, .ref a,rawInt es.size,rawInt ep],slots:=#[]} ->(∀ b u,s.heap.get? b=some u->h'.get? b=some u)->
   h'.objs.size=s.heap.objs.size+1->Q (.ref s.heap.objs.size) { s with heap:=h'}):wpAny (model prog w) A (pyIter (.ref a)) Q E s:=by
 have hT:s.TypeIs (.ref a) "set" :=⟨o,ho,hx.1⟩
 refine wpAny_pyIter_slot hT gd (aR gd hT jD1 ?_ (jE1 _))
 unfold Builtin.«frozenset.__iter__»
 refine ac (show wpAny _ _ (pure a:Sem Addr) _ _ s from ag ?_)
 unfold Builtin.Frozenset.sizeOf setEntries
 refine ac (ac (ac (bI ho hd (T.fits hn) (ag (ag ?_)))))
 dsimp only
 unfold setDrawn
 refine ac (ac (bI ho hd (T.fits hn) ?_))
 dsimp only
 unfold setsByText
 refine ac (ac (cK (ag (ag ?_))))
 show wpAny _ _ (if (!byTxt w&&(!t.plain&&decide (es.size>1)))=true then _ else _) _ _ s
 rw[T.pl,gB,dZ,bQ,az am]
 refine ac (ag ?_)
 refine ac (wpAny_setEpoch_of ho hd (T.fits hn) ?_)
 refine ac (ay (ag ⟨_,rfl,"set_iterator",_,⟨_,aj _ rfl,rfl⟩,slot_si_next.lookup,hQ _ ?_ (fun b u e=>af _ e) (bv _ _)⟩) (by size_fits))
 have e0:yT w t 0=0:=by unfold yT jFZ; split <;> rfl
 rw[e0]
 exact aj _ rfl
theorem jHI (hh:A.handled=none)(hne:a≠I)(hd:o.data= .set es ep t)(T:Tab t es.size (ledW w))(hn:es.size<=4):
  Walks prog w A I [I,a] [I] es.size (fun i v=>(told w a ep es)[i]?=some v) (fun i h=>IsSI h I (yT w t i) i a es.size ep/\h.get? a=some o) where
 sub:=fun b hb=>by simp at hb; simp [hb]
 frame:=fun _ _ _ st hk=>⟨hk I (by simp) _ st.1,hk a (by simp) _ st.2⟩
 item:=fun i s Q E hi st hQ=>by
  obtain⟨v,hv⟩:∃ v,(told w a ep es)[i]?=some v:=⟨_,bh (by rw[jAJ]; exact hi)⟩
  exact jE9 st.2 hd T hn st.1 hv fun h' hit' sb=>hQ v h' s.toks hv ⟨hit',(sb.2 a hne).trans st.2⟩ fun b o hb e=>(sb.2 b (fun z=>hb (by simp [z]))).trans e
 done:=fun s Q E st hQ=>jFC hh st.2 hd T hn st.1 fun h' eb=>hQ h' s.toks fun b o hb e=>eb b o (fun z=>hb (by simp [z])) e
 self:=fun _ _ _ _ st hQ=>jLS st.1 hQ
end
theorem jE7:typeLookup (.type "set") "__len__" =pure (some (.builtin "set.__len__")):=by rw[fZ,dj]; kernel_rfl
section
variable {prog:Program}{w:World}{A:Around}{E:Value->Shared->Prop}{s:Shared}{a:Addr}{o:Obj}{es:Array (Int×Value)}{ep:Nat}{t:SetTable}
theorem jKY {Q:Bool->Shared->Prop}(hT:s.TypeIs (.ref a) "set")(h:Q false s):wpAny (model prog w) A (Builtin.List.listLengthHint (.ref a)) Q E s:=by
 unfold Builtin.List.listLengthHint
 refine ac (wpAny_specialOf hT jE7 ?_)
 generalize hid:("set.__len__" :String)=id0
 wp_delta
 rw[show splitId id0=some ("set","__len__") from by subst hid; decide+kernel]
 subst hid
 refine ac (cL (b:=true) hT (by rw[gh]; kernel_rfl) ?_)
 refine wpAny_ite_split (fun q=>absurd q (by decide)) (fun _=>?_)
 refine wpAny_ite_split (fun _=>?_) (fun q=>absurd (by decide+kernel) q)
 exact ac (bY hT (ag h))
theorem jFR {Q:List Value->Shared->Prop}(hh:A.handled=none)(hx:o.ExactSet)(ho:s.heap.get? a=some o)(hd:o.data= .set es ep t)(T:Tab t es.size (ledW w))(hn:es.size<=4)
  (hQ:∀ s',(∀ b u,s.heap.get? b=some u->s'.heap.get? b=some u)->s'.gens=s.gens->s'.drawn=s.drawn->s'.os=s.os->s.heap.objs.size<s'.heap.objs.size->Q (told w a ep es) s'):wpAny (model prog w) A (collect (.ref a)) Q E s:=by
 have ha:a<s.heap.objs.size:=ak ho
 have hSa:s.heap.objs.size≠a:=cw ha
 unfold collect
 refine ac (df (bc PySem.F.entry_proto_collect ?_))
 rw[be PySem.F.plain_proto_collect _]
 show wpAny _ A.in1 (newList [] >>= fun l=>again (.builtin "list.__iadd__" ⟨[l, .ref a],[]⟩)) _ _ s
 refine ac (ay (ag ⟨cA fA _,bc PySem.F.entry_list_iadd ?_⟩))
 rw[be fA _]
 generalize hE:({ s with heap:=s.heap.push { cls:= .type "list",dict:=none,data:= .seq ([]:List Value).toArray}} :Shared)=s1
 have ho1:s1.heap.get? a=some o:=by rw[<- hE]; exact af _ ho
 have hL1:s1.heap.get? s.heap.objs.size=some { cls:= .type "list",dict:=none,data:= .seq ([]:List Value).toArray} :=by rw[<- hE]; exact aj _ rfl
 have hz1:s1.heap.objs.size=s.heap.objs.size+1:=by rw[<- hE]; exact bv _ _
 have hT1:s1.TypeIs (.ref a) "set" :=⟨o,ho1,hx.1⟩
 show wpAny _ A.in1 (Builtin.List.listExtendWith (.ref s.heap.objs.size) (.ref a) (.ref s.heap.objs.size)) _ _ _
 unfold Builtin.List.listExtendWith
 refine ac (bY hT1 ?_)
 have q1:Builtin.List.listSameRef (.ref s.heap.objs.size) (.ref a)=false:=by simp [Builtin.List.listSameRef,hSa]
 rw[az (by rw[q1]; decide)]
 refine ac (jK5 hx ho1 hd T hn fun h2 hI2 k2 z2=>?_)
 refine ac (aL ?_)
 have ho2:h2.get? a=some o:=k2 _ _ ho1
 have hT2:Shared.TypeIs { s1 with heap:=h2} (.ref a) "set" :=⟨o,ho2,hx.1⟩
 have hL2:=k2 _ _ hL1
 refine jKY hT2 ?_
 rw[aA (by decide+kernel)]
 refine ac (cI ?_)
 have hne:s.heap.objs.size≠s1.heap.objs.size:=by omega
 refine ac ?_
 show wpAny _ A.in1 (updateSeq s.heap.objs.size (·.push .none) >>= fun _=>updateSeq s.heap.objs.size (·.pop)) _ _ _
 refine ac (wpAny_updateSeq hL2 rfl ?_)
 have hL3:=aZ (Obj.mapSeq (·.push Value.none)) hL2 rfl
 refine wpAny_updateSeq hL3 rfl ?_
 have hL4:=aZ (Obj.mapSeq (·.pop)) hL3 rfl
 have oth:∀ b u,b≠s.heap.objs.size->h2.get? b=some u->((h2.update s.heap.objs.size (Obj.mapSeq (·.push Value.none))).update s.heap.objs.size (Obj.mapSeq (·.pop))).get? b=some u:=
  fun b u hb e=>(aX _ _ (bN hb)).trans ((aX _ _ (bN hb)).trans e)
 have W:=(jHI (prog:=prog) (A:=A.in1) (a:=a) (I:=s1.heap.objs.size) hh (ao (show a<s1.heap.objs.size by rw[hz1]; exact bH ha)) hd T hn).toS
 have z24:es.size<=sizeLine:=by rw[show sizeLine=2 ^ 24 from rfl]; omega
 refine ag ⟨cA PySem.F.plain_extend_loop _,codeAny_extend_loopS W z24 s.heap.objs.size (by simp [hne,hSa]) _ es.size 0 _ _ _ rfl (aM _) ⟨oth _ _ (bN hne) hI2,oth _ _ (bN hSa) ho2⟩ hL4 (ItemsOf.nil _) fun s' acc' c' hm hS' hacc=>?_⟩
 show wpAny _ A (load s.heap.objs.size >>= _) _ _ s'
 refine ac (dk hS' ?_)
 have eacc:acc'.toList=told w a ep es:=by
  apply List.ext_getElem?
  intro i
  by_cases hi:i<es.size
  ·have hi':i<acc'.size:=by rw[hacc.1]; exact hi
   have:=hacc.2 i acc'[i] (by simp [hi'])
   rw[this]
   simp [hi']
  ·rw[bR (by rw[aU,hacc.1]; omega),bR (by rw[jAJ]; omega)]
 refine ag ?_
 rw[eacc]
 refine hQ s' (fun b u e=>?_) ?_ ?_ ?_ (ak hS')
 ·have hb:b≠s.heap.objs.size:=ao (ak e)
  have hb1:b≠s1.heap.objs.size:=ao (show b<s1.heap.objs.size by rw[hz1]; exact bH (ak e))
  exact hm.heap b u (by simp [hb,hb1]) (oth b u hb (k2 b u (by rw[<- hE]; exact af _ e)))
 ·have:=hm.gens; rw[<- hE] at this; exact this
 ·have:=hm.drawn; rw[<- hE] at this; exact this
 ·have:=hm.os; rw[<- hE] at this; exact this
end
end SS
end
section
namespace SS
open PySem PyProof.Rows
section
variable {prog:Program}{w:World}{A:Around}{E:Value->Shared->Prop}{s:Shared}{a:Addr}{ks:List Int}
theorem jJC:∀ {vs:List Value}{ks:List Int},Paired (fun v k=>∃ t,v=Value.int k t) vs ks->IntsAre vs ks
 | _,_, .nil=> .nil
 | _,_, .cons ⟨t,e⟩ r=>by subst e; exact .cons _ t (jJC r)
theorem jD9 {es:List (Int×Value)} :∀ {ks:List Int},Paired El es ks->Paired (fun v k=>∃ t,v=Value.int k t) (es.map (·.2)) ks
 | _, .nil=> .nil
 | _, .cons ⟨_,q⟩ r=> .cons q (jD9 r)
theorem jFF {α β:Type}{F:α->β->Prop}{l l':List α}(p:l'.Perm l):∀ {r:List β},Paired F l r->∃ r',Paired F l' r'/\r'.Perm r:=by
 induction p with
 | nil=>intro r h; cases h; exact⟨[], .nil, .nil⟩
 | cons x _ ih=>
  intro r h
  cases h with
  | cons f t=>
   obtain⟨r',h1,h2⟩:=ih t
   exact⟨_::r', .cons f h1,h2.cons _⟩
 | swap x y l=>
  intro r h
  cases h with
  | cons f t=>
   cases t with
   | cons g t=>exact⟨_, .cons g (.cons f t), .swap _ _ _⟩
 | trans _ _ ih1 ih2=>
  intro r h
  obtain⟨r1,h1,h2⟩:=ih2 h
  obtain⟨r2,h3,h4⟩:=ih1 h1
  exact⟨r2,h3,h4.trans h2⟩
theorem sorted_set {Q:Value->Shared->Prop}(hh:A.handled=none)(S:SetG w s.heap a ks)
  (h:∀ (s':Shared) (l:Addr) (vs:List Value) (ns:List Int) (e:Nat),s.heap.objs.size<=l->(∀ b u,s.heap.get? b=some u->s'.heap.get? b=some u)->s'.gens=s.gens->s'.drawn=s.drawn->s'.os=s.os->
   s'.heap.get? l=some { cls:= .type "list",data:= .seq vs.toArray e} ->IntsAre vs ns->ns.Perm ks->ns.Pairwise (· <= ·)->Q (.ref l) s'):
  wpAny (model prog w) A (call (.builtin "sorted") [.ref a]) Q E s:=by
 obtain⟨o,es,ep,t,ho,hex,hd,hp,T⟩:=S.ex
 have hn:es.size<=4:=by
  have:=eZ hp
  rw[aU] at this
  have:=S.len
  omega
 refine eS kind_sorted plain_sorted entry_sorted (args_sorted1 _) ?_
 unfold Builtin.«sorted»
 refine ac (m:=checkCount "sorted" 1 1 _) (ag ?_)
 refine ac (jFR (A:=A.in1) hh hex ho hd T hn fun s1 k1 g1 d1 o1 z1=>?_)
 refine ac (wpAny_newList ?_ (by rw[jAJ,show sizeLine=2 ^ 24 from rfl]; omega))
 obtain⟨ks1,hp1,pm1⟩:=jFF (jHN w a ep es) (jD9 hp)
 have hI:=jJC hp1
 have hl:(told w a ep es).length<64:=by rw[jAJ]; omega
 have hL:(s1.heap.push (seqObj "list" (told w a ep es).toArray 0)).get? s1.heap.objs.size=some (seqObj "list" (told w a ep es).toArray 0):=aj _ rfl
 show wpAny _ _ _ _ _ { s1 with heap:=s1.heap.push (seqObj "list" (told w a ep es).toArray 0)}
 refine ac (aL (aR slot_list_sort ⟨_,hL,rfl⟩ entry_list_sort (list_sort_tree hL hI hl fun out ns' a1 a2 a3=>⟨_,rfl,?_⟩) (args_list_sort _)))
 obtain⟨e,he⟩:=sortedHeap_at (out:=out) hL
 have kept:∀ b u,s.heap.get? b=some u->(sortedHeap (s1.heap.push (seqObj "list" (told w a ep es).toArray 0)) s1.heap.objs.size (told w a ep es) out).get? b=some u:=fun b u q=>by
  have q1:=k1 b u q
  have hb:b<s1.heap.objs.size:=ak q1
  rw[sortedHeap_old (ao hb) (by rw[size_push']; exact bH hb)]
  exact af _ q1
 generalize sortedHeap (s1.heap.push (seqObj "list" (told w a ep es).toArray 0)) s1.heap.objs.size (told w a ep es) out=hf at he kept ⊢
 exact ag ⟨_,rfl,h { s1 with heap:=hf} s1.heap.objs.size out.toList ns' e (bM z1) kept g1 d1 o1 (by rw[bG]; exact he) a1 (a2.trans pm1) a3⟩
end
end SS
end
section
namespace L2
open PySem PySem.Spec PyProof.Rows
section
variable {es:List Expr}{env:Env}{a b:Expr}{pos:Pos}{xs ys:List Expr}
theorem y8 {op:Operator} :starEach (.BinOp a op b pos::es) env=(false,eval (.BinOp a op b pos) env)::starEach es env:=rfl
theorem se_un {op:UnaryOp} :starEach (.UnaryOp op a pos::es) env=(false,eval (.UnaryOp op a pos) env)::starEach es env:=rfl
theorem jLB {ops:List CmpOp} :starEach (.Compare a ops xs pos::es) env=(false,eval (.Compare a ops xs pos) env)::starEach es env:=rfl
theorem jC {kw:List Keyword} :starEach (.Call a xs kw pos::es) env=(false,eval (.Call a xs kw pos) env)::starEach es env:=rfl
theorem jW:starEach (.Subscript a b pos::es) env=(false,eval (.Subscript a b pos) env)::starEach es env:=rfl
theorem jV {gs sc} :starEach (.ListComp a gs sc pos::es) env=(false,eval (.ListComp a gs sc pos) env)::starEach es env:=rfl
theorem jBB {x1} :starEach (.Tuple xs x1 pos::es) env=(false,eval (.Tuple xs x1 pos) env)::starEach es env:=rfl
theorem jH {c k} :starEach (.Constant c k pos::es) env=(false,eval (.Constant c k pos) env)::starEach es env:=rfl
theorem j6 {x:Str} :starEach (.Name x pos::es) env=(false,eval (.Name x pos) env)::starEach es env:=rfl
end
section
variable {X:Cx}
def CDivL (i j:Int):Prop:=0<j/\j<2 ^ 64
theorem jG7:OpR X (binaryOp .FloorDiv) (rI CDivL fun i j=> .int (i / j)):=opI fun i j _ _ _ _ _ hc q=>by
 have h1:(0:Int)<j:=hc.1
 have h2:j<2 ^ 64:=hc.2
 refine floordiv_int (by omega) (by rw[d0 i (by omega)]; exact q) (.inl (PyProof.noPylong_of_log2 ?_))
 have h3:j.natAbs<2 ^ 64:=by omega
 have h4:j.natAbs≠0:=by omega
 have:=(Nat.log2_lt h4).mpr h3
 omega
theorem jA1:yD X (.builtin "isinstance") (fun xs H Q=>∃ x T t b,xs=[x, .ty T]/\TyOf X.K H x t/\kitOne X.K t (.type T)=some b/\Q (.bl b) H):=by
 intro pins s σ H xs us Q I r h
 obtain⟨x,T,t,b,rfl,ty,e,q⟩:=h
 obtain⟨u,v,rfl,ru,rv⟩:=r.two
 cases rv
 exact jJB I ru ty e fun tk=>⟨.bl b,H,I.tok tk,rfl,q⟩
def jLU:V->List V->Hp->VK->Prop:=fun x vs H Q=>∃ l xs i y,x= .ref l/\vs=[.int i,y]/\H l=some (.lst xs)/\0<=i/\i<=xs.length/\xs.length<sizeLine/\Q .non (upd H l (.lst (xs.take i.toNat++y::xs.drop i.toNat)))
theorem Vals.put {y:V}{v:Value}(r:RelV y v){xs:List V}{us:List Value}(h:Vals xs us)(k:Nat):Vals (xs.take k++y::xs.drop k) (us.take k++v::us.drop k):=(h.take k).append (.cons r (h.drop k))
theorem jIO:MtM X "list.insert" jLU:=by
 intro pins s σ H x vs v us Q I rx rv h
 obtain⟨l,xs,i,y,rfl,rfl,hH,h0,h1,hz,q⟩:=h
 cases rx
 obtain⟨a,b,rfl,ra,rb⟩:=rv.two
 obtain⟨t,rfl⟩:=ra
 obtain⟨z,its,n,r,hl,e⟩:=I.lstM hH
 have line:=jEK
 have hf:Builtin.List.listFitsIndex i=true:=fitsIndex_both (by omega) (by omega)
 refine cg F.slot_list_insert ⟨_,e,rfl⟩ F.entry_list_insert (F.args_list_insert_3 _ _ _) (AutoSeq1.list_insert_list_int_val_1 l its.toArray n i t b (by simp [hf]) (by rw[ah]; omega)) ⟨e,?_⟩
 refine⟨.non,_,I.lset (its':=its.take i.toNat++b::its.drop i.toNat) hH e ?_ (Vals.put rb r i.toNat) ?_,rfl,q⟩
 ·have hk:(if i<0 then (i+(its.toArray.size:Int)).toNat else min i.toNat its.toArray.size)=i.toNat:=by
   rw[az (by omega),ah]
   omega
  show (its.toArray.extract 0 (if i<0 then (i+(its.toArray.size:Int)).toNat else min i.toNat its.toArray.size)).push b++its.toArray.extract (if i<0 then (i+(its.toArray.size:Int)).toNat else min i.toNat its.toArray.size)=_
  rw[hk]
  apply Array.ext'
  simp [List.extract_eq_take_drop,dc]
 ·rw[al,bd,aP,bP]
  omega
def tBMT (r:V->List V->Hp->VK->Prop)(to:TE)(t:TA):TE:=fun σ H Q=>to σ H fun x H1=>(∃ p xs,x= .ref p/\H1 p=some (.tup xs))/\t σ H1 fun xs H2=>r x xs H2 Q
theorem jNP {o e:Expr}{es:List Expr}{to:TE}{t:TA}{name:Str}{apos cpos:Pos}{id:String}{r:V->List V->Hp->VK->Prop}(slot:Slot "tuple" name id)(hty:typeOf (.builtin id)=pure (.type "method_descriptor"))(hm:MtM X id r)(ho:PE X o to)(ha:PA X (e::es) t)
  (hbase:attributeBase o name X.env (eval o X.env)=eval o X.env:=by rfl)
  (hfew:((backTo cpos (starEach (e::es) X.env)).all (fun x=>!x.1)&&(backToKw cpos (keywordEach [] X.env)).all (fun x=>x.1.isSome)
   &&decide ((e::es).length+([]:List Keyword).length+(if ([]:List Keyword).isEmpty then 0 else 1)<30))=true:=by rfl)
  (hline:(apos.endLine==cpos.line)=true:=by rfl) (hs:starEach (e::es) X.env=(false,eval e X.env)::starEach es X.env:=by rfl) (hplain:(backTo cpos (starEach es X.env)).any (·.1)=false:=by rfl):
  PE X (.Call (.Attribute o name apos) (e::es) [] cpos) (tBMT r to t):=by
 intro pins s σ H Q I h
 refine wpAny_Call_method_late hbase hfew hline rfl (thn (ho pins s σ H _ I h) fun v s1 ⟨x,H1,I1,r1,⟨p,xs,ex,hp⟩,q1⟩=>?_)
 subst ex
 cases r1
 obtain⟨_,its,_,n,e0⟩:=I1.hok p _ hp
 refine⟨"tuple",id,PySem.F.plainAttrs_tuple,slot,hty,⟨_,e0,rfl⟩,fun a ea=>?_,?_⟩
 ·cases ea
  exact⟨_,e0,rfl⟩
 have hA:=ha cpos pins s1 σ H1 _ I1 q1
 rw[hs] at hA ⊢
 refine Calls.callWith_builtin (by show (false || (backTo cpos (starEach es X.env)).any (·.1))=false; rw[hplain] <;> rfl) (bZ ?_)
 exact thn hA fun us s2 ⟨vs,H2,I2,r2,q2⟩=>hm pins s2 σ H2 (.ref p) vs (.ref p) us Q I2 rfl r2 q2
def rEqE (K:W.Frag):R2:=fun x y H Q=>∃ p q xs,x= .ref p/\y= .ref q/\SqT K H p xs/\SqT K H q []/\Q (.bl (decide (xs=[]))) H
theorem jNW (hu:X.A.units<cLine):OpR X (compareOp .Eq) (rEqE X.K):=by
 intro pins s σ H x y v u Q I rx ry h
 obtain⟨p,q,xs,rfl,rfl,hp,hq,k⟩:=h
 cases rx
 cases ry
 obtain⟨its,r,t1,_⟩:=I.tuple hp
 obtain⟨its2,r2,t2,_⟩:=I.tuple hq
 have e2:its2=[]:=r2.zero
 subst e2
 refine SeqAt.eq_tupleAt (e:=fun _=>true) (show s.heap.IsTuple p its.toArray from t1) (show s.heap.IsTuple q ([]:List Value).toArray from t2) hu (fun j h1 h2=>absurd h2 (by simp)) ⟨.bl _,H,I,rfl,?_⟩
 have hl:=r.length
 have e:((List.range (min its.toArray.size ([]:List Value).toArray.size)).all (fun _=>true)&&its.toArray.size==([]:List Value).toArray.size)=decide (xs=[]):=by
  cases xs with
  | nil=>
   have:its=[]:=by simpa using hl.symm
   subst this
   rfl
  | cons a b=>
   have:its.length≠0:=by rw[<- hl]; simp
   simp [this]
 rw[e]
 exact k
theorem jD0 (hc:X.calm=true):yD X (.builtin "all") (fun xs H Q=>∃ (p:Addr) (bs:List Bool),xs=[.ref p]/\SqL X.K H p (bs.map V.bl)/\Q (.bl (bs.all id)) H):=by
 intro pins s σ H xs us Q I r h
 obtain⟨p,bs,rfl,hq,q⟩:=h
 obtain⟨u,rfl,rx⟩:=r.one
 cases rx
 obtain⟨its,r',pl,hz⟩:=I.list hq
 have hlen:=r'.length
 rw[ae] at hlen
 refine call_all_walk (cG pl.isList ?_)
 have hne:p≠s.heap.objs.size:=by
  obtain⟨o,ho,_⟩:=pl.isList
  exact ao (ak ho)
 refine⟨s.heap.objs.size,_,_,_,_,_,fun i=>bs.getD i true,rfl,Walks.list (by simpa using I.ok.hd hc) _ p hne its.toArray,⟨⟨_,aj _ rfl,rfl,rfl⟩,pl.isList.push _⟩,fun i v z Q' E' hP hQ'=>?_,fun h' tk hk=>?_⟩
 ·have hi:its[i]?=some v:=by simpa using hP
  have hb:i<bs.length:=by
   rw[hlen]
   exact(ar.mp hi).1
  obtain⟨u,hu,ru⟩:=r'.get (i:=i) (x:= .bl (bs[i])) (by simp [hb])
  rw[hi] at hu
  cases hu
  cases ru
  have e:bs.getD i true=bs[i]:=by simp [List.getD,hb]
  have hQ2:Q' (bs.getD i true) z:=hQ'
  rw[e] at hQ2
  exact ag hQ2
 ·have e:(List.range its.toArray.size).all (fun i=>bs.getD i true)=bs.all id:=by
   rw[ah,<- hlen]
   rw[bU,bC,bC]
   constructor
   ·intro a b hb
    obtain⟨i,hi,rfl⟩:=dS hb
    have:=a i (br.mpr hi)
    simpa [List.getD,hi] using this
   ·intro a i hi
    have hi:=br.mp hi
    have:=a bs[i] (cn hi)
    simpa [List.getD,hi] using this
  rw[e]
  exact⟨.bl _,H,I.kept (t':=tk) fun b o e=>hk b o (by
   intro z
   have z:b=s.heap.objs.size:=by simpa using z
   exact absurd (ak e) (by rw[z]; exact bO _)) (af _ e),rfl,q⟩
def yI (n:Nat):List V:=(List.range n).map fun (i:Nat)=>V.int (i:Int)
theorem jGP {n:Nat}{acc:Array Value}(h:ItemsOf (fun i v=>∃ t,v=Value.int (0+(i:Int)*1) t) acc n):Vals (yI n) acc.toList:=by
 have key:∀ (l:List Value) (k:Nat),(∀ j v,l[j]?=some v->∃ t,v=Value.int ((k+j:Nat):Int) t)->Vals ((range' k l.length).map fun (i:Nat)=>V.int (i:Int)) l:=by
  intro l
  induction l with
  | nil=>intro k _; exact .nil
  | cons v l ih=>
   intro k hk
   rw[bd,fE,aV]
   refine .cons ?_ (ih (k+1) fun j u hj=>?_)
   ·obtain⟨t,e⟩:=hk 0 v rfl
    exact⟨t,by simpa using e⟩
   ·obtain⟨t,e⟩:=hk (j+1) u (by simpa using hj)
    exact⟨t,by rw[e]; congr 1; omega⟩
 have:=key acc.toList 0 fun j v hj=>by
  obtain⟨t,e⟩:=h.2 j v (by simpa using hj)
  exact⟨t,by rw[e]; congr 1; omega⟩
 rw[aU,h.1] at this
 unfold yI
 rw[gj]
 exact this
theorem jA6:yD X (.type "range") (fun xs H Q=>∃ j:Int,xs=[.int j]/\∀ p,H p=none->Q (.ref p) (upd H p (.rng 0 j))):=by
 intro pins s σ H xs us Q I r h
 obtain⟨j,rfl,q⟩:=h
 obtain⟨u,rfl,t,rfl⟩:=r.one
 refine call_range_1 ⟨.ref s.heap.objs.size,_,I.laid (o:= .rng 0 j) (fun b o e=>af _ e) (ai _) ?_,rfl,q _ I.fresh⟩
 exact⟨_,_,_,aj _ rfl⟩
theorem jAU (hc:X.calm=true):yD X (.type "list") (fun xs H Q=>∃ p j,xs=[.ref p]/\H p=some (.rng 0 j)/\0<=j/\j<=1000/\∀ l,H l=none->Q (.ref l) (upd H l (.lst (yI j.toNat)))):=by
 intro pins s σ H xs us Q I r h
 obtain⟨p,j,rfl,hp,h0,h1,q⟩:=h
 obtain⟨u,rfl,rx⟩:=r.one
 cases rx
 obtain⟨t,u,v,e⟩:=I.hok p _ hp
 have en:Builtin.Range.rangeSize 0 j 1=(j.toNat:Int):=by
  rw[fb]
  split <;> omega
 refine call_list_range (I.ok.hd hc) (show IsRange s.heap p 0 j 1 t u v from e) (small_one (by omega) (by omega) (by omega) (by omega)) en (by omega) fun h' tk acc' c' kp hS hacc=>?_
 refine⟨.ref s.heap.objs.size,_,I.laid (t':=tk) (o:= .lst (yI j.toNat)) kp (ai _) ?_,rfl,q _ I.fresh⟩
 refine⟨?_,acc'.toList,c',jGP hacc,by rw[bG]; exact hS⟩
 unfold yI
 rw[ae,b0,bW]
 omega
def SetO (w:World)(a:Addr)(ks:List Int):HO:= .ext fun h=>SS.SetG w h a ks
theorem jAP {ns:List Int} :∀ {us:List Value},Vals (ns.map V.int) us->IntsAre us ns:=by
 induction ns with
 | nil=>intro us h; cases h; exact .nil
 | cons n ns ih=>
  intro us h
  cases h with
  | cons r t=>
   obtain⟨k,rfl⟩:=r
   exact .cons n k (ih t)
theorem jA7:∀ {us:List Value}{ns:List Int},IntsAre us ns->Vals (ns.map V.int) us
 | _,_, .nil=> .nil
 | _,_, .cons n t r=> .cons ⟨t,rfl⟩ (jA7 r)
theorem jJU (hc:X.calm=true):yD X (.type "set") (fun xs H Q=>∃ (p:Addr) (ns:List Int),xs=[.ref p]/\SqL X.K H p (ns.map V.int)/\ns.length<=4/\(∀ z∈ns,0<=z/\z<32)/\
  ∀ (l:Addr) (ks:List Int),H l=none->(∀ z,z∈ks↔z∈ns)->Q (.ref l) (upd H l (SetO X.w l ks))):=by
 intro pins s σ H xs us Q I r h
 obtain⟨p,ns,rfl,hq,hl,hv,q⟩:=h
 obtain⟨u,rfl,rx⟩:=r.one
 cases rx
 obtain⟨its,r',pl,hz⟩:=I.list hq
 have hlen:=r'.length
 rw[ae] at hlen
 refine SS.set_of_list (I.ok.hd hc) pl.isList (jAP r') (by rw[ah]; omega) hv fun h' tk ks S hm kp=>?_
 have hg:∃ o,h'.get? s.heap.objs.size=some o:=let ⟨o,_,_,_,e,_⟩:=S.ex; ⟨o,e⟩
 exact⟨.ref s.heap.objs.size,_,I.laid (t':=tk) (o:=SetO X.w s.heap.objs.size ks) kp (ai _) ⟨S,hg,fun h1 h2 a b=>a.at b⟩,rfl,q _ ks I.fresh hm⟩
theorem jD2 (hc:X.calm=true):yD X (.builtin "sorted") (fun xs H Q=>∃ (p:Addr) (ks:List Int),xs=[.ref p]/\H p=some (SetO X.w p ks)/\
  ∀ (l:Addr) (ns:List Int),H l=none->ns.Pairwise (· < ·)->(∀ z,z∈ns↔z∈ks)->Q (.ref l) (upd H l (.lst (ns.map V.int)))):=by
 intro pins s σ H xs us Q I r h
 obtain⟨p,ks,rfl,hp,q⟩:=h
 obtain⟨u,rfl,rx⟩:=r.one
 cases rx
 obtain⟨S,_,_⟩:=I.hok p _ hp
 refine SS.sorted_set (I.ok.hd hc) S fun s' l vs ns e hl kp g d o he hi pm srt=>?_
 obtain⟨h',g',d',t',o'⟩:=s'
 have g:g'=s.gens:=g
 have o:o'=s.os:=o
 have d:d'=s.drawn:=d
 subst g; subst o; subst d
 have nd:ns.Nodup:=pm.nodup_iff.mpr S.nd
 have lt:ns.Pairwise (· < ·):=by
  have:=List.Pairwise.and srt nd
  exact this.imp fun {a b} ⟨x,y⟩=>by omega
 have hz:(ns.map V.int).length<=sizeLine:=by
  rw[ae,pm.length_eq,bW]
  have:=S.len
  omega
 have I2:Inv X pins σ (upd H l (.lst (ns.map V.int))) { s with heap:=h',toks:=t'} :=I.laid (t':=t') kp hl ⟨hz,vs,e,jA7 hi,he⟩
 exact⟨.ref l,_,I2,rfl,q l ns (I.hok.fresh hl) lt fun z=>pm.mem_iff⟩
end
section
variable {X:Cx}{p1 p2 p3 p4 p5 p6 p7:Pos}{k1 k2 k3 k4:Nat}
theorem jM8 {i j r:Int}(hj:0<=j)(hj2:j<=1000000)(hi:i.natAbs<2 ^ 64)(e:i ^ j.toNat=r):PE X (.BinOp (.Constant (.int i) k2 p2) .Pow (.Constant (.int j) k3 p3) p4) (tC (.int r)):=fun pins s σ H Q I h=>
 (kD (X:=X) jIA jK jK) pins s σ H Q I ⟨_,_,rfl,rfl,⟨hj,hj2,hi⟩,by subst e; exact h⟩
theorem jM9 {a b:Expr}{i j r:Int}(ha:PE X a (tC (.int i)))(hb:PE X b (tC (.int j)))(hc:CMul i j)(e:i*j=r):PE X (.BinOp a .Mult b p1) (tC (.int r)):=fun pins s σ H Q I h=>
 (kD (X:=X) jC3 ha hb) pins s σ H Q I ⟨_,_,rfl,rfl,hc,by subst e; exact h⟩
theorem jMC {a b:Expr}{i j r:Int}(ha:PE X a (tC (.int i)))(hb:PE X b (tC (.int j)))(e:i+j=r):PE X (.BinOp a .Add b p1) (tC (.int r)):=fun pins s σ H Q I h=>
 (kD (X:=X) yH ha hb) pins s σ H Q I ⟨_,_,rfl,rfl,by subst e; exact h⟩
theorem jNQ:PE X (.BinOp (.BinOp (.Constant (.int 2) k1 p1) .Mult (.BinOp (.Constant (.int 10) k2 p2) .Pow (.Constant (.int 12) k3 p3) p4) p5) .Add (.Constant (.int 1) k4 p6) p7) (tC (.int 2000000000001)):=
 jMC (i:=2000000000000) (jM9 (j:=1000000000000) jK (jM8 (by decide) (by decide) (by decide) (by decide)) (.inl ⟨by decide,by decide⟩) (by decide)) jK (by decide)
end
def ItAt (tp:Bool)(h:Heap)(it a:Addr)(i:Nat):Prop:=match tp with
 | false=>h.IsListIter it a i
 | true=>h.IsTupleIter it a i
def ObAt (tp:Bool)(h:Heap)(a:Addr)(xs:Array Value):Prop:=match tp with
 | false=>h.IsList a xs
 | true=>h.IsTuple a xs
theorem ItAt.but {tp:Bool}{h h':Heap}{it a b:Addr}{i:Nat}(x:ItAt tp h it a i)(e:Heap.ExtBut b h h')(n:it≠b):ItAt tp h' it a i:=by
 cases tp with
 | false=>exact Heap.IsListIter.extBut x e n
 | true=>exact Heap.IsTupleIter.extBut x e n
theorem ItAt.at {tp:Bool}{h h':Heap}{it a:Addr}{i:Nat}(x:ItAt tp h it a i)(e:∀ o,h.get? it=some o->h'.get? it=some o):ItAt tp h' it a i:=by
 cases tp with
 | false=>exact Heap.IsListIter.at x e
 | true=>exact Heap.IsTupleIter.at x e
theorem ItAt.obj {tp:Bool}{h:Heap}{it a:Addr}{i:Nat}(x:ItAt tp h it a i):∃ o,h.get? it=some o/\∀ v,o.data≠ .cell v:=by
 cases tp with
 | false=>obtain⟨o,e,_,d⟩:=x; exact⟨o,e,fun v q=>by rw[d] at q; cases q⟩
 | true=>obtain⟨o,e,_,d⟩:=x; exact⟨o,e,fun v q=>by rw[d] at q; cases q⟩
section
variable {prog:Program}{w:World}{A:Around}{E:Value->Shared->Prop}{s:Shared}
theorem next1 {tp:Bool}{it a:Addr}{i:Nat}{xs:Array Value}{x:Value}{Q:Value->Shared->Prop}(hi:ItAt tp s.heap it a i)(ha:ObAt tp s.heap a xs)(hx:xs[i]?=some x)
  (k:∀ h',ItAt tp h' it a (i+1)->Heap.SameBut it s.heap h'->Q x { s with heap:=h'}):wpAny (model prog w) A (Builtin.SmallTypes.nextOf (.ref it)) Q E s:=by
 cases tp with
 | false=>exact wpAny_nextOf_list_item hi ha hx k
 | true=>
  obtain⟨o,e,c,d⟩:=id (show s.heap.IsTupleIter it a i from hi)
  obtain⟨u,eu,_,n,du⟩:=(show s.heap.IsTuple a xs from ha)
  have ty:=Heap.IsTupleIter.typeIs (show s.heap.IsTupleIter it a i from hi)
  unfold Builtin.SmallTypes.nextOf
  refine ac (aQ (name:=Str.ofString "__next__") ty F.slot_tuple_iterator_next (aR F.slot_tuple_iterator_next ty F.entry_tuple_iterator_next (?_:wpAny (model prog w) _ (field (.ref it) 0 >>= _) _ _ s) (F.args_tuple_iterator_next_1 _)))
  refine ac (aN e d (x:= .ref a) rfl (?_:wpAny (model prog w) _ (if (Value.ref a==Value.none)=true then _ else _) _ _ s))
  rw[az (by exact am)]
  show wpAny (model prog w) _ (field (.ref it) 1 >>= _) _ _ s
  refine ac (aN e d (x:= .int i 0) rfl ?_)
  show wpAny (model prog w) _ (seqItems? (.ref a) >>= _) _ _ s
  refine ac (wpAny_seqItems eu du ?_)
  simp only [bj,hx]
  refine ac (cJ e d (by simp) (ag ⟨x,rfl,ag (k _ ⟨_,aZ _ e (Obj.isFreed_of_fields (Obj.data_mapFields d _)),(Obj.cls_mapFields ..).trans c,?_⟩ (dU ..))⟩))
  rw[Obj.data_mapFields d]
  simp [rawInt]
theorem next0 {tp:Bool}{it a:Addr}{i:Nat}{xs:Array Value}{Q:Value->Shared->Prop}(hh:A.handled=none)(hi:ItAt tp s.heap it a i)(ha:ObAt tp s.heap a xs)(hx:xs[i]?=none)
  (k:∀ h' e,Heap.ExtBut it s.heap h'->(∃ o,h'.get? e=some o/\o.cls= .type "StopIteration")->E (.ref e) { s with heap:=h'}):wpAny (model prog w) A (Builtin.SmallTypes.nextOf (.ref it)) Q E s:=by
 cases tp with
 | false=>exact wpAny_nextOf_list_end hh hi ha hx k
 | true=>
  obtain⟨o,e,c,d⟩:=id (show s.heap.IsTupleIter it a i from hi)
  obtain⟨u,eu,_,n,du⟩:=(show s.heap.IsTuple a xs from ha)
  have ty:=Heap.IsTupleIter.typeIs (show s.heap.IsTupleIter it a i from hi)
  unfold Builtin.SmallTypes.nextOf
  refine ac (aQ (name:=Str.ofString "__next__") ty F.slot_tuple_iterator_next (aR F.slot_tuple_iterator_next ty F.entry_tuple_iterator_next (?_:wpAny (model prog w) _ (field (.ref it) 0 >>= _) _ _ s) (F.args_tuple_iterator_next_1 _)))
  refine ac (aN e d (x:= .ref a) rfl (?_:wpAny (model prog w) _ (if (Value.ref a==Value.none)=true then _ else _) _ _ s))
  rw[az (by exact am)]
  show wpAny (model prog w) _ (field (.ref it) 1 >>= _) _ _ s
  refine ac (aN e d (x:= .int i 0) rfl ?_)
  show wpAny (model prog w) _ (seqItems? (.ref a) >>= _) _ _ s
  refine ac (wpAny_seqItems eu du ?_)
  simp only [bj,hx]
  refine ac (cI (ac (cJ e d (by simp) (?_:wpAny (model prog w) _ (newExc (.type "StopIteration") [] >>= _) _ _ _))))
  refine ac (by
   simp only [newExc,newTuple]
   refine ac (ay (ac (m:=firstArgMember _ _) (eV (a:=Value.none) (by first | rfl | (simp only [firstArgMember]; rfl)) (ay ?_ (by size_fits)))) (by size_fits))
   simp only [raiseNew]
   refine ac (wpAny_handled ?_)
   first | rw[show A.in1.handled=none from hh] | rw[hh]
   exact ac (ag (wpAny_throw (k _ _ (((dU ..).extBut.push _).push _) ⟨_,aj _ rfl,rfl⟩))))
end
def iterO (tp:Bool)(a:Addr):Obj:=match tp with
 | false=> { cls:= .type "list_iterator",data:= .fields #[.ref a, .int 0 0]}
 | true=> { cls:= .type "tuple_iterator",data:= .fields #[.ref a, .int 0 0]}
theorem jHC (tp:Bool)(a:Addr):(iterO tp a).isFreed=false:=by cases tp <;> rfl
theorem jDG {prog:Program}{w:World}{A:Around}{E:Value->Shared->Prop}{s:Shared}{tp:Bool}{a:Addr}{xs:Array Value}{Q:Value->Shared->Prop}(h:ObAt tp s.heap a xs)(q:Q (.ref s.heap.objs.size) { s with heap:=s.heap.push (iterO tp a)}):
  wpAny (model prog w) A (pyIter (.ref a)) Q E s:=by
 cases tp with
 | false=>exact cG h q
 | true=>exact wpAny_pyIter_tuple h q
theorem ItAt.new (tp:Bool){h:Heap}{it a:Addr}(e:h.get? it=some (iterO tp a)):ItAt tp h it a 0:=by
 cases tp with
 | false=>exact⟨_,e,rfl,rfl⟩
 | true=>exact⟨_,e,rfl,rfl⟩
section
variable {X:Cx}
def Sq (tp:Bool)(K:W.Frag)(H:Hp)(a:Addr)(xs:List V):Prop:=match tp with
 | false=>SqL K H a xs
 | true=>SqT K H a xs
theorem Inv.sq {X:Cx}{pins:List (Addr×Obj)}{σ:St}{H:Hp}{s:Shared}{tp:Bool}{a:Addr}{xs:List V}(I:Inv X pins σ H s)(h:Sq tp X.K H a xs):∃ its:List Value,Vals xs its/\ObAt tp s.heap a its.toArray/\xs.length<=sizeLine:=by
 cases tp with
 | false=>
  obtain⟨its,r,p,z⟩:=I.list h
  exact⟨its,r,p.isList,z⟩
 | true=>exact I.tuple h
theorem Inv.sq_inj {X:Cx}{pins:List (Addr×Obj)}{σ:St}{H:Hp}{s:Shared}{tp:Bool}{a:Addr}{xs ys:List V}(I:Inv X pins σ H s)(h:Sq tp X.K H a xs)(h':Sq tp X.K H a ys):xs=ys:=by
 cases tp with
 | false=>exact I.list_inj h h'
 | true=>exact I.tuple_inj h h'
end
structure JE (X:Cx)(e:Expr)(t:TE):Prop where
 h:PE X e t
structure JA (X:Cx)(es:List Expr)(t:TA):Prop where
 h:PA X es t
structure JT (X:Cx)(e:Expr)(t:TT):Prop where
 h:PT X e t
structure JTs (X:Cx)(e:List Expr)(t:TT):Prop where
 h:PTs X e t
structure JS (X:Cx)(e:Stmt)(t:TS):Prop where
 h:PS X e t
structure JSs (X:Cx)(e:List Stmt)(t:TS):Prop where
 h:PSs X e t
structure JG (X:Cx)(e:Expr)(t:TG):Prop where
 h:PG X e t
structure JGs (X:Cx)(e:List Expr)(t:TGs):Prop where
 h:PGs X e t
structure JI (X:Cx)(tg e:Expr)(t:TI):Prop where
 h:PI X tg e t
structure JO (X:Cx)(e:Option Expr)(t:TO):Prop where
 h:PO X e t
structure Loc1 (X:Cx)(x:Str):Prop where
 a:Loc X.env.scope x
 b:X.fn x=true\/X.env.scope.names.lookup x=some .local
structure Vis1 (X:Cx)(x:Str):Prop where
 a:Vis X.env.scope x
structure Gl1 (X:Cx)(x:Str):Prop where
 a:Gl X x
section
variable {a b:Expr}{pos:Pos}{xs:List Expr}{o:Option Expr}{l:Nat}{env:Env}
structure SwOk (e:Expr)(o:Option Expr):Prop where
 h:∀ l env,swapsWith e o l env=pure false
theorem jE5 {op:Operator} :SwOk (.BinOp a op b pos) o:=⟨fun _ _=>rfl⟩
theorem jX {kw:List Keyword} :SwOk (.Call a xs kw pos) o:=⟨fun _ _=>rfl⟩
theorem jLA:SwOk (.Subscript a b pos) o:=⟨fun _ _=>rfl⟩
theorem jL9 {x1} :SwOk (.Tuple xs x1 pos) o:=⟨fun _ _=>rfl⟩
theorem jD5:SwOk (.List xs pos) o:=⟨fun _ _=>rfl⟩
theorem jI0 {kw:List Keyword} :jBZ (.Call a xs kw pos):=fun _ _=>rfl
theorem jQ {i:Int}{k} :jBZ (.Constant (.int i) k pos):=fun _ _=>rfl
theorem jCI {x:Str} :jBZ (.Name x pos):=fun _ _=>rfl
structure FoOk (iter:Expr):Prop where
 h:∀ env x,foldedSetIterable iter env x=pure x
theorem jBX {kw:List Keyword} :FoOk (.Call a xs kw pos):=⟨fun _ _=>rfl⟩
theorem jB6 {x:Str} :FoOk (.Name x pos):=⟨fun _ _=>rfl⟩
theorem jJG:FoOk (.Subscript a b pos):=⟨fun _ _=>rfl⟩
structure TvOk (e:Expr):Prop where
 h:∀ env whole,isTrue e env whole=(do let v <- whole; standAt e.pos; holding [v] (truthy v))
theorem jA8 {kw:List Keyword} :TvOk (.Call a xs kw pos):=⟨fun _ _=>rfl⟩
end
section
variable {X:Cx}{a b e o:Expr}{ta tb te to:TE}{es:List Expr}{t:TA}{pos p p2 cpos apos:Pos}{x:Str}{T:String}{id:String}
theorem jv (i:Nat)(hN:X.N[i]?=some x)(hv:Vis1 X x)(hd:(x==("__debug__" :Str))=false:=by decide)(hcd:(x==("__classdict__" :Str))=false:=by decide):JE X (.Name x pos) (tVar i):=⟨jG4 hN hv.a hd hcd⟩
theorem jE {i j} :JE X (.Constant (.int i) j pos) (tC (.int i)):=⟨jK⟩
theorem je_bl {i j} :JE X (.Constant (.bool i) j pos) (tC (.bl i)):=⟨pe_bl⟩
theorem jLH {j} :JE X (.Constant .none j pos) (tC .non):=⟨jNO⟩
theorem jJ6 {i j} :JE X (.Constant (.str i) j pos) (tC (.str i)):=⟨jNL⟩
theorem jAS {v:V}{u:Value}(hg:Gl1 X x)(hm:X.mg x=none)(hv:bootBuiltins x=some u)(r:RelV v u)(hn:x≠ "__name__" :=by decide)(hd:(x==("__debug__" :Str))=false:=by decide):JE X (.Name x pos) (tC v):=⟨jMD hg.a hm hv r hn hd⟩
theorem y4 {op:Operator}{r:R2}(ho:OpR X (binaryOp op) r)(ha:JE X a ta)(hb:JE X b tb):JE X (.BinOp a op b pos) (tOp r ta tb):=⟨kD ho ha.h hb.h⟩
theorem je_un {op:UnaryOp}{r:V->Hp->VK->Prop}(ho:UnR X (unaryOp op) r)(ha:JE X a ta):JE X (.UnaryOp op a pos) (tUn r ta):=⟨pe_un ho ha.h⟩
theorem jJ7 (ha:JE X a ta):JE X (.UnaryOp .Not a pos) (tNotV ta):=⟨jNN ha.h⟩
theorem jDT {op:CmpOp}{r:R2}(ho:OpR X (compareOp op) r)(ha:JE X a ta)(hb:JE X b tb)(hm:behindInMarks op b=false):JE X (.Compare a [op] [b] pos) (tOp r ta tb):=⟨jMA ho ha.h hb.h hm⟩
theorem jGF {rest:List Expr}(ha:JE X a ta)(hb:JE X (.BoolOp .And (b::rest) pos) tb):JE X (.BoolOp .And (a::b::rest) pos) (tAndV ta tb):=⟨jNR ha.h hb.h⟩
theorem jGE {op}(ha:JE X a ta):JE X (.BoolOp op [a] pos) ta:=⟨jNM ha.h⟩
theorem jJ8 (h:JA X es t):JE X (.List es pos) (tLst t):=⟨jG5 h.h⟩
theorem jGD {x1}(h:JA X es t):JE X (.Tuple es x1 pos) (tTup t):=⟨jNK h.h⟩
theorem jA2 {lo hi:Option Expr}{tl th:TO}{r:V->Option Int->Option Int->Hp->VK->Prop}(hr:SlR X r)(he:JE X e te)(hl:JO X lo tl)(hu:JO X hi th):JE X (.Subscript e (.Slice lo hi none p2) pos) (tSl r te tl th):=⟨jKD hr he.h hl.h hu.h⟩
theorem kS {r:R2}(hr:IxR X r)(ha:JE X a ta)(hb:JE X b tb)(hs:jBZ b):JE X (.Subscript a b pos) (tOp r ta tb):=⟨pe_ix hr ha.h hb.h hs⟩
theorem jI {T}{r:List V->Hp->VK->Prop}(hc:yD X (.type T) r)(hg:Gl1 X x)(hm:X.mg x=none)(hv:bootBuiltins x=some (.type T))(ha:JA X (e::es) t)(he:starEach (e::es) X.env=(false,eval e X.env)::starEach es X.env)(hn:x≠ "__name__" :=by decide)(hdb:(x==("__debug__" :Str))=false:=by decide)
  (hpl:(backTo pos (starEach es X.env)).any (·.1)=false:=by rfl):JE X (.Call (.Name x p) (e::es) [] pos) (tCB r t):=⟨jBE hc hg.a hm hv ha.h hn hdb he hpl⟩
theorem jG {id}{r:List V->Hp->VK->Prop}(hc:yD X (.builtin id) r)(hg:Gl1 X x)(hm:X.mg x=none)(hv:bootBuiltins x=some (.builtin id))(ha:JA X (e::es) t)(he:starEach (e::es) X.env=(false,eval e X.env)::starEach es X.env)(hn:x≠ "__name__" :=by decide)(hdb:(x==("__debug__" :Str))=false:=by decide)
  (hpl:(backTo pos (starEach es X.env)).any (·.1)=false:=by rfl):JE X (.Call (.Name x p) (e::es) [] pos) (tCB r t):=⟨jDM hc hg.a hm hv ha.h hn hdb he hpl⟩
theorem j8:JA X [] tNil:=⟨yC⟩
theorem j4 (ha:JE X e te)(hr:JA X es t)(hs:starEach (e::es) X.env=(false,eval e X.env)::starEach es X.env):JA X (e::es) (tCons te t):=⟨jR ha.h hr.h hs⟩
theorem yO {op:CmpOp}{r:R2}(ho:OpR X (compareOp op) r)(ha:JE X a ta)(hb:JE X b tb)(hm:behindInMarks op b=false):JT X (.Compare a [op] [b] pos) (tTest (tOp r ta tb)):=⟨jCJ ho ha.h hb.h hm⟩
theorem jAZ (h:JE X e te)(he:TvOk e):JT X e (tB te):=⟨jNC h.h (he.h _)⟩
theorem jB0 {tA:TT}(ha:JT X a tA):JT X (.UnaryOp .Not a pos) (tNot tA):=⟨jND ha.h⟩
theorem jAB:JTs X [] yY:=⟨jI2⟩
theorem jJ1 {t:TT}(h:JT X e t):JTs X [e] t:=⟨jI1 h.h⟩
theorem kL {i:Nat}(hN:X.N.Nodup)(hi:X.N[i]?=some x)(hx:Loc1 X x):JG X (.Name x pos) (yS i):=⟨jDK hN hi hx.a hx.b⟩
theorem jCT {tg:Expr}(hg:Gl1 X "range")(hm:X.mg "range" =none)(ha:JA X [a] t)(hs:starEach [a] X.env=(false,eval a X.env)::starEach [] X.env):JI X tg (.Call (.Name "range" p) [a] [] pos) (iRng1 t):=⟨jBD hg.a hm ha.h hs⟩
theorem jJ4 {tg:Expr}(hl:JE X a ta):JI X tg a (iList X.K ta):=⟨jM3 hl.h⟩
theorem jB1 {tg:Expr}(hl:JE X a ta):JI X tg a (iTup X.K ta):=⟨jNH hl.h⟩
theorem jAC:JO X none jHR:=⟨jM0⟩
theorem yQ (h:JE X e te):JO X (some e) (tPart te):=⟨jLZ h.h⟩
theorem jT {i:Nat}{pos':Pos}(hN:X.N.Nodup)(hi:X.N[i]?=some x)(hx:Loc1 X x)(he:JE X e te)(hs:SwOk e (some (.Name x pos'))):JS X (.Assign [.Name x pos'] e pos) (tAsg te (yS i)):=⟨yV hN hi hx.a he.h (hs.h _ _) hx.b⟩
theorem kN (he:JE X e te):JS X (.Return (some e) pos) (tRet te):=⟨jC1 he.h⟩
theorem jCS (he:JE X e te)(hs:SwOk e none):JS X (.Expr e pos) (tDrop te):=⟨jLY he.h (hs.h _ _)⟩
theorem yP:JSs X [] tNext:=⟨jDI⟩
theorem jJ {st:Stmt}{t:TS}(h1:JS X st t):JSs X [st] t:=⟨jAM h1.h⟩
theorem jF {st:Stmt}{rest:List Stmt}{t u:TS}(h1:JS X st t)(h2:JSs X rest u):JSs X (st::rest) (tSeq t u):=⟨kJ h1.h h2.h⟩
theorem qD {c:Expr}{a b:List Stmt}{tc:TT}{t u:TS}(hc:JT X c tc)(ha:JSs X a t)(hb:JSs X b u):JS X (.If c a b pos) (tIfS tc t u):=⟨ps_if hc.h ha.h hb.h⟩
theorem jEN {tg iter:Expr}{body:List Stmt}{wi:TI}{g:TG}{tb:TS}(hp:PassesOwn (model X.prog X.w) X.A X.env X.xe)(hc:X.calm=true)(hi:JI X tg iter wi)(hg:JG X tg g)(hb:JSs X body tb)(hs:FoOk iter):JS X (.For tg iter body [] pos) (tFor wi g tb):=⟨jLD hp hc hi.h hg.h hb.h (hs.h _)⟩
theorem je_bm {T:String}{name:Str}{r}(pa:PlainAttrs T)(slot:Slot T name id)(hty:typeOf (.builtin id)=pure (.type "method_descriptor"))(hm:MtR X id r)(ho:JE X o to)(ha:JA X (e::es) t)
  (hs:starEach (e::es) X.env=(false,eval e X.env)::starEach es X.env)
  (hbase:attributeBase o name X.env (eval o X.env)=eval o X.env:=by rfl)
  (hfew:((backTo cpos (starEach (e::es) X.env)).all (fun x=>!x.1)&&(backToKw cpos (keywordEach [] X.env)).all (fun x=>x.1.isSome)
   &&decide ((e::es).length+([]:List Keyword).length+(if ([]:List Keyword).isEmpty then 0 else 1)<30))=true:=by rfl)
  (hline:(apos.endLine==cpos.line)=true:=by rfl) (hplain:(backTo cpos (starEach es X.env)).any (·.1)=false:=by rfl):
  JE X (.Call (.Attribute o name apos) (e::es) [] cpos) (tBM X.K T r to t):=⟨pe_bm pa slot hty hm ho.h ha.h hbase hfew hline hs hplain⟩
theorem jLI {name:Str}{r}(slot:Slot "tuple" name id)(hty:typeOf (.builtin id)=pure (.type "method_descriptor"))(hm:MtM X id r)(ho:JE X o to)(ha:JA X (e::es) t)
  (hs:starEach (e::es) X.env=(false,eval e X.env)::starEach es X.env)
  (hbase:attributeBase o name X.env (eval o X.env)=eval o X.env:=by rfl)
  (hfew:((backTo cpos (starEach (e::es) X.env)).all (fun x=>!x.1)&&(backToKw cpos (keywordEach [] X.env)).all (fun x=>x.1.isSome)
   &&decide ((e::es).length+([]:List Keyword).length+(if ([]:List Keyword).isEmpty then 0 else 1)<30))=true:=by rfl)
  (hline:(apos.endLine==cpos.line)=true:=by rfl) (hplain:(backTo cpos (starEach es X.env)).any (·.1)=false:=by rfl):
  JE X (.Call (.Attribute o name apos) (e::es) [] cpos) (tBMT r to t):=⟨jNP slot hty hm ho.h ha.h hbase hfew hline hs hplain⟩
theorem jAE {tg iter elt:Expr}{ifs:List Expr}{sc:Scope}{wi:TI}{g:TG}{tt:TT}{m:List (Option Nat)}{Nc:List Str}(hc:X.calm=true)(hi:JI X tg iter wi)(hkind:sc.kind= .function)(hcell:∀ y∈sc.names,y.2≠ .cell)(hnames:∀ y∈sc.names,y.2= .local->sc.names.lookup y.1=some .local)
  (hfree:∀ y∈sc.names,y.2= .free->X.env.scope.names.lookup y.1=some .cell\/X.env.scope.names.lookup y.1=some .free) (hm:jBL X sc Nc m)
  (hg:∀ cl C fp s H,JG (blk X sc cl C Nc fp s H) tg g) (ht:∀ cl C fp s H,JTs (blk X sc cl C Nc fp s H) ifs tt) (he:∀ cl C fp s H,JE (blk X sc cl C Nc fp s H) elt te)
  (hs:FoOk iter):JE X (.ListComp elt [⟨tg,iter,ifs,0⟩] sc pos) (tComp m wi g tt te):=⟨jFE hc hi.h hkind hcell hnames hfree hm (fun cl C fp s H=>(hg cl C fp s H).h) (fun cl C fp s H=>(ht cl C fp s H).h) (fun cl C fp s H=>(he cl C fp s H).h) (hs.h _)⟩
theorem jOH {p1 p2 p3 p4 p5 p6 p7:Pos}{k1 k2 k3 k4:Nat} :JE X (.BinOp (.BinOp (.Constant (.int 2) k1 p1) .Mult (.BinOp (.Constant (.int 10) k2 p2) .Pow (.Constant (.int 12) k3 p3) p4) p5) .Add (.Constant (.int 1) k4 p6) p7) (tC (.int 2000000000001)):=⟨jNQ⟩
end
section
variable {P:Program}{w:World}{K:W.Frag}{mg:Str->Option Value}{base:Heap}{N:List Str}{qual:Str}{sc:Scope}{f:Addr}{cdv:Value}{A:Around}{outer:List Env}{s:Shared}{H:Hp}{E:XK}{x:Str}
theorem gl_d (h:sc.names.lookup x=some .globalImplicit):Gl1 (cxOf CX0 P w K mg base N qual sc f cdv A outer s H E).nox x:=⟨h⟩
theorem gD (h:sc.names.lookup x=some .globalImplicit:=by decide+kernel):Gl1 (cxOf CX0 P w K mg base N qual sc f cdv A outer s H E).nox x:=gl_d h
theorem vis_l (h:sc.names.lookup x=some .local):Vis1 (cxOf CX0 P w K mg base N qual sc f cdv A outer s H E).nox x:=⟨.inl h⟩
theorem vL (h:sc.names.lookup x=some .local:=by decide+kernel):Vis1 (cxOf CX0 P w K mg base N qual sc f cdv A outer s H E).nox x:=vis_l h
theorem vis_c (h:sc.names.lookup x=some .cell):Vis1 (cxOf CX0 P w K mg base N qual sc f cdv A outer s H E).nox x:=⟨.inr (.inl h)⟩
theorem vC (h:sc.names.lookup x=some .cell:=by decide+kernel):Vis1 (cxOf CX0 P w K mg base N qual sc f cdv A outer s H E).nox x:=vis_c h
end
theorem jAH {env:Env}{x:Str}{k:NameKind}(hk:k≠ .free):∀ {l:List (Str×NameKind)},l.lookup x=some k->
  (l.map fun (n,k)=>if (k==NameKind.free&&env.scope.kind== .function&&env.kindOf n==some .cell) then (n,NameKind.cell) else (n,k)).lookup x=some k
 | [],h=>by cases h
 | (n,k')::r,h=>by
  have ih:= @jAH env x k hk r
  rw[aI] at h
  rw[aV]
  dsimp only
  by_cases hb:(k'==NameKind.free&&env.scope.kind== .function&&env.kindOf n==some .cell)=true
  ·rw[aA hb,aI]
   cases hx:x==n with
   | true=>
    rw[hx] at h
    have e:k'=k:=aK h
    simp only [aS] at hb
    exact absurd (e.symm.trans (eq_of_beq hb.1.1)) hk
   | false=>rw[hx] at h; exact ih h
  ·rw[az hb,aI]
   cases hx:x==n with
   | true=>rw[hx] at h; exact h
   | false=>rw[hx] at h; exact ih h
section
variable {X:Cx}{sc:Scope}{cl:List (Str×Addr)}{C:Addr}{Nc:List Str}{fp:List Addr}{s:Shared}{H:Hp}{x:Str}
theorem gl_b (h:sc.names.lookup x=some .globalImplicit):Gl1 (blk X sc cl C Nc fp s H) x:=⟨jAH (by decide) h⟩
theorem y6 (h:sc.names.lookup x=some .local):Vis1 (blk X sc cl C Nc fp s H) x:=⟨.inl (jAH (by decide) h)⟩
theorem jB7 (h:sc.names.lookup x=some .free):Vis1 (blk X sc cl C Nc fp s H) x:=⟨.inr (jBW h)⟩
theorem qB (h:sc.names.lookup x=some .local):Loc1 (blk X sc cl C Nc fp s H) x:=⟨.inl (jAH (by decide) h), .inr (jAH (by decide) h)⟩
end
section
variable {P:Program}{w:World}{K:W.Frag}{mg:Str->Option Value}{base:Heap}{N:List Str}{qual:Str}{sc:Scope}{f:Addr}{cdv:Value}{A:Around}{outer:List Env}{s:Shared}{H:Hp}{E:XK}{x:Str}
theorem loc_l (h:sc.names.lookup x=some .local):Loc1 (cxOf CX0 P w K mg base N qual sc f cdv A outer s H E).nox x:=⟨.inl h, .inl rfl⟩
theorem lL (h:sc.names.lookup x=some .local:=by decide+kernel):Loc1 (cxOf CX0 P w K mg base N qual sc f cdv A outer s H E).nox x:=loc_l h
theorem loc_c (h:sc.names.lookup x=some .cell):Loc1 (cxOf CX0 P w K mg base N qual sc f cdv A outer s H E).nox x:=⟨.inr h, .inl rfl⟩
end
structure JW (X:Cx)(e:Expr)(t:TT):Prop where
 h:PW X e t
section
variable {X:Cx}{a b:Expr}{rest:List Expr}{pos:Pos}{tA tB':TT}
theorem jJ0 (ha:JT X a tA):JW X (.BoolOp .And [a] pos) tA:=⟨jLW ha.h⟩
theorem jIZ (ha:JT X a tA):JW X (.BoolOp .Or [a] pos) tA:=⟨jNA ha.h⟩
theorem jLF (ha:JT X a tA)(hb:JW X (.BoolOp .And (b::rest) pos) tB'):JW X (.BoolOp .And (a::b::rest) pos) (tAnd tA tB'):=⟨jNB ha.h hb.h⟩
theorem jw_or (ha:JT X a tA)(hb:JW X (.BoolOp .Or (b::rest) pos) tB'):JW X (.BoolOp .Or (a::b::rest) pos) (tOr tA tB'):=⟨pw_or ha.h hb.h⟩
theorem jt_w (h:JW X a tA):JT X a tA:=⟨h.h.pt⟩
theorem jJ5:JGs X [] gNil:=⟨jM5⟩
structure AsOk (e:Expr):Prop where
 h:∀ es env,assignEach (e::es) env=(false,assign e env)::assignEach es env
theorem jE0 {x:Str} :AsOk (.Name x pos):=⟨fun _ _=>rfl⟩
theorem jCE {e:Expr}{es:List Expr}{t:TG}{u:TGs}(h1:JG X e t)(h2:JGs X es u)(hs:AsOk e):JGs X (e::es) (gCons t u):=⟨jKC h1.h h2.h (by rw[hs.h]; rfl)⟩
theorem jLG {es:List Expr}{k:Nat}{t:TGs}{n:Nat}(hc:X.calm=true)(h:JGs X es t)(hn:(assignEach es X.env).length=n:=by rfl)(hst:(assignEach es X.env).findIdx? (·.1)=none:=by rfl):JG X (.Tuple es k pos) (gTup X.K n t):=⟨jNI hc h.h hn hst⟩
end
theorem jEO {X:Cx}{sc:Scope}{cl:List (Str×Addr)}{C:Addr}{Nc:List Str}{fp:List Addr}{s:Shared}{H:Hp}{x y:Str}{p1 p2 pos:Pos}{k:Nat}{i j:Nat}(hc:X.calm=true)(hN:Nc.Nodup)(hi:Nc[i]?=some x)(hj:Nc[j]?=some y)(hx:sc.names.lookup x=some .local)(hy:sc.names.lookup y=some .local):
  JG (blk X sc cl C Nc fp s H) (.Tuple [.Name x p1, .Name y p2] k pos) (gTup X.K 2 (gCons (yS i) (gCons (yS j) gNil))):=
 jLG (X:=blk X sc cl C Nc fp s H) hc (jCE (kL hN hi (qB hx)) (jCE (kL hN hj (qB hy)) jJ5 jE0) jE0)
section
variable {K:W.Frag}{m:List (Option Nat)}{g:TG}{tt:TT}{te:TE}{σ:St}{H1:Hp}{Q:VK}
end
section
variable {X:Cx}{sc:Scope}{cl:List (Str×Addr)}{C:Addr}{Nc:List Str}{fp:List Addr}{s:Shared}{H:Hp}
theorem jAW:IxR (blk X sc cl C Nc fp s H) (rIxT X.K):=kR
end
def Ext (H H':Hp):Prop:=∀ b o,H b=some o->H' b=some o
theorem Ext.refl (H:Hp):Ext H H:=fun _ _ h=>h
theorem Ext.trans {H H1 H2:Hp}(a:Ext H H1)(b:Ext H1 H2):Ext H H2:=fun c o h=>b c o (a c o h)
theorem Ext.new {H H1:Hp}{l:Addr}(a:Ext H H1)(hl:H1 l=none)(o:HO):Ext H (upd H1 l o):=fun c u h=>by
 have:=a c u h
 rw[jA (jB this hl)]
 exact this
theorem Ext.updNew {H H1:Hp}{l:Addr}(a:Ext H H1)(hl:H l=none)(o:HO):Ext H (upd H1 l o):=fun c u h=>by
 rw[jA (jB h hl)]
 exact a c u h
def TupR (H:Hp)(xs:List V)(Q:VK):Prop:=∀ r H',H' r=some (.tup xs)->Ext H H'->Q (.ref r) H'
theorem TupR.new {H:Hp}{xs:List V}{Q:VK}(q:TupR H xs Q){p:Addr}(hp:H p=none):Q (.ref p) (upd H p (.tup xs)):=q p _ j7 ((Ext.refl H).new hp _)
theorem TupR.old {H:Hp}{xs:List V}{Q:VK}(q:TupR H xs Q){p:Addr}(hp:H p=some (.tup xs)):Q (.ref p) H:=q p H hp (Ext.refl H)
section
variable {X:Cx}
def rCatU:R2:=fun x y H Q=>∃ a b xs ys,x= .ref a/\y= .ref b/\H a=some (.tup xs)/\H b=some (.tup ys)/\xs.length+ys.length<=sizeLine/\TupR H (xs++ys) Q
theorem jAR:OpR X (binaryOp .Add) rCatU:=by
 intro pins s σ H x y v u Q I rx ry h
 obtain⟨a,b,xs,ys,rfl,rfl,ha,hb,hz,q⟩:=h
 by_cases hx:xs=[]
 ·subst hx
  cases rx
  cases ry
  obtain⟨_,its,r1,n1,e1⟩:=I.hok a _ ha
  obtain⟨_,its2,r2,n2,e2⟩:=I.hok b _ hb
  cases r1
  exact concat_meets ⟨_,e1,rfl⟩ ⟨_,e2,rfl⟩ fo seq_tuple_add cZ cU (cN _ _) (AutoSeq1.tuple___add___tuple_tuple_0 a _ n1 b its2.toArray n2 (by simp)) ⟨e1,e2, .ref b,H,I,rfl,q.old hb⟩
 ·refine jMG pins s σ H _ _ v u Q I rx ry ⟨a,b,xs,ys,rfl,rfl,SqT.of ha,SqT.of hb,hx,hz,fun e=>?_,fun _ p hp=>q.new hp⟩
  subst e
  rw[bn] at q
  exact q.old ha
theorem jC6:fillsNumberSlot (.type "tuple") "mul" =pure false:=
 PySem.fillsNumberSlot_seq (id:= "tuple.__mul__") (r:=some (.builtin "tuple.__rmul__")) fQ.lookup (by decide+kernel) fF.lookup (by decide+kernel)
theorem jEA:seqRepeat? (.type "tuple")=pure (some (.builtin "tuple.__mul__")):=by
 unfold seqRepeat?
 rw[PySem.seqSlot_of (T:= "tuple") (name:= "__mul__") (id:= "tuple.__mul__") fQ.lookup (by decide+kernel),PySem.seqSlot_of (T:= "tuple") (name:= "__rmul__") (id:= "tuple.__rmul__") fF.lookup (by decide+kernel)]
 rfl
theorem jGX (a:Int)(t:Tok)(l:Addr)(items:Array Value)(n:Nat):
  Meets (Builtin.«int.__rmul__» ⟨[.int a t, .ref l],[]⟩) (fun _ R s=>s.heap.get? l=some { cls:= .type "tuple",dict:=none,data:= .seq items n,slots:=#[]} /\R (.ok (.ret Value.notImplemented)) s):=
 .of_wp fun prog w A R s h=>by
  obtain⟨hp,g,d,tk,os⟩:=s
  obtain⟨hl,h⟩:=h
  wp_walk
  exact⟨_,rfl,h⟩
section
variable (l:Addr)(items:Array Value)(n:Nat)(x:Int)(u:Tok)(h1:¬ (decide (x< -(2 ^ 63)) || decide (x ≥ 2 ^ 63))=true)
include h1
theorem jH8 (h2:(items.isEmpty || x==1)=true):
  Meets (Builtin.«tuple.__mul__» ⟨[.ref l, .int x u],[]⟩) (fun _ R s=>s.heap.get? l=some { cls:= .type "tuple",dict:=none,data:= .seq items n,slots:=#[]} /\R (.ok (.ret (.ref l))) s):=
 .of_wp fun prog w A R s h=>by
  obtain⟨hp,g,d,tk,os⟩:=s
  obtain⟨hl,h⟩:=h
  have f1:=fH
  wp_walk using bi hl
  refine dQ (ba h1) ?_
  wp_walk using bi hl
  exact⟨_,rfl,h⟩
theorem jH7 (h2:¬ (items.isEmpty || x==1)=true)(h3:(decide (x<=0) || items.isEmpty)=true):
  Meets (Builtin.«tuple.__mul__» ⟨[.ref l, .int x u],[]⟩) (fun _ R s=>s.heap.get? l=some { cls:= .type "tuple",dict:=none,data:= .seq items n,slots:=#[]} /\R (.ok (.ret (.ref s.heap.objs.size))) { s with heap:=s.heap.push { cls:= .type "tuple",data:= .seq #[]}}):=
 .of_wp fun prog w A R s h=>by
  obtain⟨hp,g,d,tk,os⟩:=s
  obtain⟨hl,h⟩:=h
  have f1:=fH
  wp_walk using bi hl
  refine dQ (ba h1) ?_
  wp_walk using bi hl
  exact⟨_,rfl,h⟩
theorem jH6 (h2:¬ (items.isEmpty || x==1)=true)(h3:¬ (decide (x<=0) || items.isEmpty)=true)(h4:¬ (items.size:Int)*x>(2 ^ 63 - 1) / 8)(h5:¬ Builtin.Tuple.tupleTooMany ((items.size:Int)*x)=true)(h6:(List.foldl (fun x1 x2=>x1++x2) #[] (replicate x.toNat items)).size<=sizeLine):
  Meets (Builtin.«tuple.__mul__» ⟨[.ref l, .int x u],[]⟩) (fun _ R s=>s.heap.get? l=some { cls:= .type "tuple",dict:=none,data:= .seq items n,slots:=#[]} /\R (.ok (.ret (.ref s.heap.objs.size))) { s with heap:=s.heap.push { cls:= .type "tuple",data:= .seq (List.foldl (fun x1 x2=>x1++x2) #[] (replicate x.toNat items))}}):=
 .of_wp fun prog w A R s h=>by
  obtain⟨hp,g,d,tk,os⟩:=s
  obtain⟨hl,h⟩:=h
  have f1:=fH
  wp_walk using bi hl
  refine dQ (ba h1) ?_
  wp_walk using bi hl
  refine dQ (ba h4) ?_
  wp_walk using bi hl
  exact⟨_,rfl,h⟩
end
def rRepT:R2:=fun x y H Q=>∃ a k xs,x= .ref a/\y= .int k/\H a=some (.tup xs)/\ -(2 ^ 63)<=k/\k<2 ^ 63/\xs.length*k.toNat<=sizeLine/\TupR H (replicate k.toNat xs).flatten Q
theorem jI9:OpR X (binaryOp .Mult) rRepT:=by
 intro pins s σ H x y v u Q I rx ry h
 obtain⟨a,k,xs,rfl,rfl,ha,h1,h2,hz,q⟩:=h
 cases rx
 obtain⟨t,rfl⟩:=ry
 obtain⟨_,its,r,n,e⟩:=I.hok a _ ha
 have hl:=r.length
 have fit:¬ (decide (k< -(2 ^ 63)) || decide (k ≥ 2 ^ 63))=true:=by
  simp only [cS,eW]
  omega
 refine wpAny_binaryOp_repeat_ref (T:= "tuple") (U:= "int") (by decide) ⟨_,e,rfl⟩ (fun s'=>typeIs_int s' k t) jC6 F.fills_int_mul F.slot_int_rmul jEA F.slot_int_index.lookup
  (cg F.slot_int_rmul (typeIs_int s k t) F.entry_int_rmul (F.args_int_rmul_2 _ _) (jGX k t a its.toArray n) ⟨e,rfl,⟨_,e,rfl⟩,?_⟩)
 have hsl:(sizeLine:Nat)<=(2 ^ 63 - 1) / 8:=by decide
 by_cases c1:(its.toArray.isEmpty || k==1)=true
 ·refine cg F.slot_tuple_mul ⟨_,e,rfl⟩ F.entry_tuple_mul (F.args_tuple_mul_2 _ _) (jH8 a its.toArray n k t fit c1) ⟨e, .ref a,H,I,rfl,q.old ?_⟩
  rw[ha]
  congr 2
  rw[cS] at c1
  rcases c1 with c | c
  ·have:its=[]:=by simpa using c
   subst this
   have:xs=[]:=by simpa using hl
   subst this
   simp
  ·have:k=1:=eq_of_beq c
   subst this
   show xs=(replicate 1 xs).flatten
   simp
 ·by_cases c2:(decide (k<=0) || its.toArray.isEmpty)=true
  ·refine cg F.slot_tuple_mul ⟨_,e,rfl⟩ F.entry_tuple_mul (F.args_tuple_mul_2 _ _) (jH7 a its.toArray n k t fit c1 c2) ⟨e,?_⟩
   refine⟨.ref s.heap.objs.size,_,I.laid (t':=s.toks) (o:= .tup []) (fun b ob q=>af _ q) (ai _) ⟨aM _,[], .nil,TupO.new _ _⟩,rfl,?_⟩
   have k0:k.toNat=0:=by
    rw[cS] at c2
    rcases c2 with c | c
    ·have:=aO c
     omega
    ·exact absurd (by rw[c]; rfl) c1
   have e0:(replicate k.toNat xs).flatten=[]:=by rw[k0]; rfl
   rw[e0] at q
   exact q.new (I.hok.fresh (ai _))
  ·have f0:List.foldl (fun x1 x2=>x1++x2) #[] (replicate k.toNat its.toArray)=(replicate k.toNat its).flatten.toArray:=by
    have:=jET its k.toNat []
    rw[List.nil_append] at this
    exact this
   have kp:0<k:=by
    simp only [cS,eW,gR] at c2
    omega
   have ek:((its.toArray.size:Nat):Int)*k=((xs.length*k.toNat:Nat):Int):=by
    rw[ah,<- hl,Int.natCast_mul]
    congr 1
    omega
   refine cg F.slot_tuple_mul ⟨_,e,rfl⟩ F.entry_tuple_mul (F.args_tuple_mul_2 _ _) (jH6 a its.toArray n k t fit c1 c2 (by rw[ek]; omega) ?_ ?_) ⟨e,?_⟩
   ·rw[ek]
    unfold Builtin.Tuple.tupleTooMany
    simp only [eW]
    omega
   ·rw[f0,ah,jIT,<- hl,Nat.mul_comm]
    exact hz
   ·rw[f0]
    exact⟨.ref s.heap.objs.size,_,I.laid (t':=s.toks) (o:= .tup (replicate k.toNat xs).flatten) (fun b ob q=>af _ q) (ai _) ⟨by rw[jIT,Nat.mul_comm]; exact hz,_,r.rep k.toNat,TupO.new _ _⟩,rfl,q.new (I.hok.fresh (ai _))⟩
theorem jBV {prog:Program}{w:World}{A:Around}{E:Value->Shared->Prop}{s:Shared}{t sl:Addr}{items:Array Value}{n:Nat}{vl vu:Value}{lo hi:Option Int}{Q:Value->Shared->Prop}
  (e0:s.heap.get? t=some { cls:= .type "tuple",data:= .seq items n}) (hs:s.heap.IsSliceOf sl vl vu .none) (pl:IsPart vl lo) (pu:IsPart vu hi)
  (hw:HT.sIx items.size 0 lo=0/\HT.sIx items.size items.size hi=items.size) (h:Q (.ref t) s):wpAny (model prog w) A (getItem (.ref t) (.ref sl)) Q E s:=by
 have ht:IsTup s.heap t items:=⟨_,e0,rfl,n,rfl⟩
 obtain⟨os,hos,hcs,hds⟩:=id hs
 have hTs:s.TypeIs (.ref sl) "slice" :=⟨os,hos,hcs⟩
 unfold getItem
 try with_reducible refine aL ?_
 first | refine ac (ag ?_) | skip
 refine ac (eT ht.typeIs (by decide) (ac (aQ (name:=Str.ofString "__getitem__") ht.typeIs aF
  (aR aF ht.typeIs dR (?_:wpAny (model prog w) _ (Builtin.Tuple.tupleItemsOf (.ref t) >>= _) _ _ s) (ej _ _)))))
 refine ac (tupleItemsOf_ ht (ac (bY hTs ?_)))
 rw[aA (by decide)]
 refine ac (HT.sliceApplied_gen hs pl pu ?_)
 have yes:(((HT.sIx items.size 0 lo:Nat):Int)==0&&(1:Int)==1&&(HT.sIx items.size items.size hi - HT.sIx items.size 0 lo)==items.size)=true:=by
  rw[hw.1,hw.2]
  simp
 show wpAny (model prog w) _ (if (((HT.sIx items.size 0 lo:Nat):Int)==0&&(1:Int)==1&&(HT.sIx items.size items.size hi - HT.sIx items.size 0 lo)==items.size)=true then _ else _) _ _ s
 rw[aA yes]
 have ex:∀ {A:Around}{Q:Bool->Shared->Prop},Q true s->wpAny (model prog w) A (Builtin.Tuple.tupleIsExact (.ref t)) Q E s:=fun q=>by
  unfold Builtin.Tuple.tupleIsExact
  exact ac (bY ⟨_,e0,rfl⟩ (ag q))
 refine ac (ex ?_)
 rw[aA rfl]
 exact ac (cI (ag ⟨_,rfl,ag h⟩))
def rSlU:V->Option Int->Option Int->Hp->VK->Prop:=fun x lo hi H Q=>∃ a xs,x= .ref a/\H a=some (.tup xs)/\TupR H (cutV xs lo hi) Q
theorem jAQ:SlR X rSlU:=by
 intro pins s σ H x v vl vu lo hi sl Q I rx hs pl pu h
 obtain⟨a,xs,rfl,hx,q⟩:=h
 by_cases hw:HT.sIx xs.length 0 lo=0/\HT.sIx xs.length xs.length hi=xs.length
 ·cases rx
  obtain⟨_,its,r,n,e⟩:=I.hok a _ hx
  have hlen:its.toArray.size=xs.length:=by rw[ah]; exact r.length.symm
  refine⟨"tuple",_,aF.lookup,⟨_,e,rfl⟩,jBV e hs pl pu (by rw[hlen]; exact hw) ⟨.ref a,H,I,rfl,q.old ?_⟩⟩
  rw[hx]
  congr 2
  unfold cutV
  rw[hw.1,hw.2]
  simp
 ·exact jN5 pins s σ H _ v vl vu lo hi sl Q I rx hs pl pu ⟨a,xs,rfl,SqT.of hx,hw,fun p hp=>q.new hp⟩
theorem Inv.big' {pins:List (Addr×Obj)}{σ:St}{H:Hp}{s:Shared}(I:Inv X pins σ H s):sysModules<s.heap.objs.size:=cx (by decide) (I.mod.glob.keeps I.bk).lt
def jN2:TE:=fun _ H Q=>∀ p,H p=none->Q (.ref p) (upd H p (.dK []))
theorem je_dict0 {pos:Pos} :JE X (.Dict [] [] pos) jN2:=⟨fun pins s σ H Q I h=>
 wpAny_Dict_empty ⟨.ref s.heap.objs.size,_,I.laid (a:=s.heap.objs.size) (o:= .dK []) (t':=s.toks) (fun _ _ q=>af _ q) (ai _)
  ⟨aM _,bK.mpr (bN (ao I.big')),[], .nil,Heap.DictOf.new s.heap⟩,rfl,h _ (I.hok.fresh (ai _))⟩⟩
theorem jAD {x:Str}{v:V}{u:Value}{pos:Pos}(hg:Gl1 X x)(hm:X.mg x=some u)(r:RelV v u)(hd:(x==("__debug__" :Str))=false:=by decide):JE X (.Name x pos) (tC v):=⟨jM6 hg.a hm r hd⟩
theorem jJ3 {tg a b:Expr}{t:TA}{p pos:Pos}(hg:Gl1 X "range")(hm:X.mg "range" =none)(ha:JA X [a,b] t)(hs:starEach [a,b] X.env=(false,eval a X.env)::starEach [b] X.env)(hs2:starEach [b] X.env=(false,eval b X.env)::starEach [] X.env):
  JI X tg (.Call (.Name "range" p) [a,b] [] pos) (iRng2 t):=⟨jI6 hg.a hm ha.h (by rw[hs,hs2]; rfl) hs2⟩
end
section
variable {K:W.Frag}{m:List (Option Nat)}{g:TG}{tt:TT}{te:TE}{σ:St}{H1:Hp}{Q:VK}
theorem jAO {a:Addr}{xs:List V}(hn:xs.length<sizeLine)(Pv:Addr->Nat->St->Hp->List V->Prop)(h0:∀ D,H1 D=none->Pv D 0 (blkσ m σ) (upd H1 D (.lst [])) [])
  (hD:∀ D i σ' H' zs,H1 D=none->Pv D i σ' H' zs->H' a=some (.tup xs)/\H' D=some (.lst zs)/\zs.length<=i)
  (hs:∀ D i σ' H' zs x,H1 D=none->xs[i]?=some x->Pv D i σ' H' zs->g x σ' H' fun σ2 H2=>tt σ2 H2 fun b H3=>if b=true then te σ2 H3 fun v H4=>H4 D=some (.lst zs)/\Pv D (i+1) σ2 (upd H4 D (.lst (zs++[v]))) (zs++[v]) else Pv D (i+1) σ2 H3 zs)
  (hd:∀ D σ' H' zs,H1 D=none->Pv D xs.length σ' H' zs->Q (.ref D) H'):qC m g tt te σ Q (Itt K a) H1:=by
 intro D hDn
 refine⟨fun i k σ' H' zs=>k=xs.length - i/\i<=xs.length/\Pv D i σ' H' zs,⟨_,rfl,aM _,h0 D hDn⟩,?_⟩
 rintro i k σ' H' zs ⟨rfl,hi,p⟩
 obtain⟨s1,q1,q2⟩:=hD D i σ' H' zs hDn p
 refine⟨q1,by omega,?_⟩
 by_cases hlt:i<xs.length
 ·refine .inr ⟨⟨xs,xs[i],SqT.of s1,by simp [hlt]⟩,Pv D (i+1),fun σ2 H2 zs z=>⟨xs.length - (i+1),by omega,rfl,hlt,z⟩,fun v H'' y=>?_⟩
  obtain⟨e1,e2⟩:=y
  subst e1
  exact hs D i σ' _ zs v hDn (e2 xs (SqT.of s1)) p
 ·have e:i=xs.length:=by omega
  subst e
  exact .inl ⟨⟨xs,SqT.of s1,ai _⟩,hd D σ' H' zs hDn p⟩
end
inductive Tr where
 | non
 | bl (b:Bool)
 | int (i:Int)
 | str (x:Str)
 | lst (ts:List Tr)
 | tup (ts:List Tr)
mutual
def TAt (H:Hp):Tr->V->Prop
 | .non,v=>v= .non
 | .bl b,v=>v= .bl b
 | .int i,v=>v= .int i
 | .str x,v=>v= .str x
 | .lst ts,v=>∃ a vs,v= .ref a/\H a=some (.lst vs)/\TsAt H ts vs
 | .tup ts,v=>∃ a vs,v= .ref a/\H a=some (.tup vs)/\TsAt H ts vs
def TsAt (H:Hp):List Tr->List V->Prop
 | [],vs=>vs=[]
 | t::ts,vs=>∃ v r,vs=v::r/\TAt H t v/\TsAt H ts r
end
mutual
def dep:Tr->Nat
 | .lst ts=>deps ts+1
 | .tup ts=>deps ts+1
 | _=>0
def deps:List Tr->Nat
 | []=>0
 | t::ts=>max (dep t) (deps ts)
end
mutual
def eqT:Tr->Tr->Bool
 | .non, .non=>true
 | .bl a, .bl b=>a==b
 | .bl a, .int b=>(if a then 1 else 0)==b
 | .int a, .bl b=>a==(if b then 1 else 0)
 | .int a, .int b=>a==b
 | .str a, .str b=>a==b
 | .lst a, .lst b=>eqTs a b
 | .tup a, .tup b=>eqTs a b
 | _,_=>false
def eqTs:List Tr->List Tr->Bool
 | [],[]=>true
 | a::as,b::bs=>eqT a b&&eqTs as bs
 | _,_=>false
end
mutual
theorem jDX:∀ t:Tr,eqT t t=true
 | .non=>by simp [eqT]
 | .bl b=>by simp [eqT]
 | .int i=>by simp [eqT]
 | .str x=>by simp [eqT]
 | .lst ts=>by rw[eqT]; exact jBH ts
 | .tup ts=>by rw[eqT]; exact jBH ts
theorem jBH:∀ ts:List Tr,eqTs ts ts=true
 | []=>by simp [eqTs]
 | t::ts=>by rw[eqTs,jDX t,jBH ts]; rfl
end
mutual
theorem TAt.ext {H H':Hp}(e:Ext H H'):∀ {t:Tr}{v:V},TAt H t v->TAt H' t v
 | .non,_,h=>h
 | .bl _,_,h=>h
 | .int _,_,h=>h
 | .str _,_,h=>h
 | .lst ts,_,⟨a,vs,q,h,r⟩=>⟨a,vs,q,e _ _ h,TsAt.ext e r⟩
 | .tup ts,_,⟨a,vs,q,h,r⟩=>⟨a,vs,q,e _ _ h,TsAt.ext e r⟩
theorem TsAt.ext {H H':Hp}(e:Ext H H'):∀ {ts:List Tr}{vs:List V},TsAt H ts vs->TsAt H' ts vs
 | [],_,h=>h
 | t::ts,_,⟨v,r,q,h,s⟩=>⟨v,r,q,TAt.ext e h,TsAt.ext e s⟩
end
mutual
theorem TAt.inj {H:Hp} :∀ {t u:Tr}{v:V},TAt H t v->TAt H u v->t=u
 | .non,u,_,h,h'=>by
  cases (show _=V.non from h)
  cases u with
  | non=>rfl
  | bl b=>cases (show V.non=_ from h')
  | int b=>cases (show V.non=_ from h')
  | str b=>cases (show V.non=_ from h')
  | lst ts=>obtain⟨_,_,q,_⟩:=h'; cases q
  | tup ts=>obtain⟨_,_,q,_⟩:=h'; cases q
 | .bl b,u,_,h,h'=>by
  cases (show _=V.bl b from h)
  cases u with
  | non=>cases (show V.bl b=_ from h')
  | bl b=>cases (show V.bl _=V.bl b from h'); rfl
  | int i=>cases (show V.bl b=V.int i from h')
  | str i=>cases (show V.bl b=V.str i from h')
  | lst ts=>obtain⟨_,_,q,_⟩:=h'; cases q
  | tup ts=>obtain⟨_,_,q,_⟩:=h'; cases q
 | .int b,u,_,h,h'=>by
  cases (show _=V.int b from h)
  cases u with
  | non=>cases (show V.int b=_ from h')
  | bl i=>cases (show V.int b=V.bl i from h')
  | int b=>cases (show V.int _=V.int b from h'); rfl
  | str i=>cases (show V.int b=V.str i from h')
  | lst ts=>obtain⟨_,_,q,_⟩:=h'; cases q
  | tup ts=>obtain⟨_,_,q,_⟩:=h'; cases q
 | .str b,u,_,h,h'=>by
  cases (show _=V.str b from h)
  cases u with
  | non=>cases (show V.str b=_ from h')
  | bl i=>cases (show V.str b=V.bl i from h')
  | int i=>cases (show V.str b=V.int i from h')
  | str b=>cases (show V.str _=V.str b from h'); rfl
  | lst ts=>obtain⟨_,_,q,_⟩:=h'; cases q
  | tup ts=>obtain⟨_,_,q,_⟩:=h'; cases q
 | .lst ts,u,_,⟨a,vs,q,h,r⟩,h'=>by
  subst q
  cases u with
  | non=>cases (show V.ref a=_ from h')
  | bl i=>cases (show V.ref a=V.bl i from h')
  | int i=>cases (show V.ref a=V.int i from h')
  | str i=>cases (show V.ref a=V.str i from h')
  | lst us=>
   obtain⟨a',vs',q',h2,r'⟩:=h'
   cases q'
   rw[h] at h2
   cases h2
   rw[TsAt.inj r r']
  | tup us=>
   obtain⟨a',vs',q',h2,r'⟩:=h'
   cases q'
   rw[h] at h2
   cases h2
 | .tup ts,u,_,⟨a,vs,q,h,r⟩,h'=>by
  subst q
  cases u with
  | non=>cases (show V.ref a=_ from h')
  | bl i=>cases (show V.ref a=V.bl i from h')
  | int i=>cases (show V.ref a=V.int i from h')
  | str i=>cases (show V.ref a=V.str i from h')
  | lst us=>
   obtain⟨a',vs',q',h2,r'⟩:=h'
   cases q'
   rw[h] at h2
   cases h2
  | tup us=>
   obtain⟨a',vs',q',h2,r'⟩:=h'
   cases q'
   rw[h] at h2
   cases h2
   rw[TsAt.inj r r']
theorem TsAt.inj {H:Hp} :∀ {ts us:List Tr}{vs:List V},TsAt H ts vs->TsAt H us vs->ts=us
 | [],us,_,h,h'=>by
  cases (show _=[] from h)
  cases us with
  | nil=>rfl
  | cons u us=>obtain⟨_,_,q,_⟩:=h'; cases q
 | t::ts,us,_,⟨v,r,q,h,s⟩,h'=>by
  subst q
  cases us with
  | nil=>cases (show v::r=[] from h')
  | cons u us=>
   obtain⟨v',r',q,h2,s2⟩:=h'
   cases q
   rw[TAt.inj h h2,TsAt.inj s s2]
end
theorem TsAt.len {H:Hp} :∀ {ts:List Tr}{vs:List V},TsAt H ts vs->vs.length=ts.length
 | [],_,h=>by cases (show _=[] from h); rfl
 | t::ts,_,⟨v,r,q,_,s⟩=>by rw[q,bd,bd,TsAt.len s]
theorem TsAt.get {H:Hp} :∀ {ts:List Tr}{vs:List V},TsAt H ts vs->∀ {i:Nat}{v:V},vs[i]?=some v->∃ t,ts[i]?=some t/\TAt H t v
 | [],_,h,i,v,e=>by cases (show _=[] from h); cases e
 | t::ts,_,⟨v,r,q,h,s⟩,0,v',e=>by subst q; cases e; exact⟨t,rfl,h⟩
 | t::ts,_,⟨v,r,q,h,s⟩,i+1,v',e=>by subst q; exact TsAt.get s (i:=i) e
theorem jCW:∀ ts us:List Tr,eqTs ts us=((List.range (min ts.length us.length)).all (fun j=>eqT (ts.getD j .non) (us.getD j .non))&&ts.length==us.length)
 | [],[]=>by simp [eqTs]
 | [],u::us=>by simp [eqTs]
 | t::ts,[]=>by simp [eqTs]
 | t::ts,u::us=>by
  rw[eqTs,jCW ts us,bd,bd,show min (ts.length+1) (us.length+1)=min ts.length us.length+1 by omega,List.range_succ_eq_map,gA,all_map]
  have e:(ts.length+1==us.length+1)=(ts.length==us.length):=by
   rw[bU]
   simp
  rw[e,Bool.and_assoc]
  rfl
theorem jFP {ts:List Tr}{t:Tr}(h:t∈ts):dep t<=deps ts:=by
 induction ts with
 | nil=>cases h
 | cons a r ih=>
  rw[deps]
  rcases aq.mp h with q | q
  ·subst q; omega
  ·have:=ih q; omega
def flatT:Tr->Bool
 | .lst _=>false
 | .tup _=>false
 | _=>true
theorem jJI {H:Hp}{t:Tr}{x:V}(h:TAt H t x)(f:flatT t=true):flatV x=true:=by
 cases t with
 | non=>cases (show x=_ from h); rfl
 | bl b=>cases (show x=V.bl b from h); rfl
 | int b=>cases (show x=V.int b from h); rfl
 | str b=>cases (show x=V.str b from h); rfl
 | lst ts=>cases f
 | tup ts=>cases f
theorem jMU {H:Hp}{t u:Tr}{x y:V}(h:TAt H t x)(h':TAt H u y)(f:flatT t=true)(f':flatT u=true):eqV x y=eqT t u:=by
 cases t with
 | non=>
  cases (show x=_ from h)
  cases u with
  | non=>cases (show y=_ from h'); simp [eqV,eqT]
  | bl b=>cases (show y=V.bl b from h'); simp [eqV,eqT]
  | int b=>cases (show y=V.int b from h'); simp [eqV,eqT]
  | str b=>cases (show y=V.str b from h'); simp [eqV,eqT]
  | lst ts=>cases f'
  | tup ts=>cases f'
 | bl c=>
  cases (show x=V.bl c from h)
  cases u with
  | non=>cases (show y=_ from h'); simp [eqV,eqT]
  | bl b=>cases (show y=V.bl b from h'); simp [eqV,eqT]
  | int b=>cases (show y=V.int b from h'); simp [eqV,eqT]
  | str b=>cases (show y=V.str b from h'); simp [eqV,eqT]
  | lst ts=>cases f'
  | tup ts=>cases f'
 | int c=>
  cases (show x=V.int c from h)
  cases u with
  | non=>cases (show y=_ from h'); simp [eqV,eqT]
  | bl b=>cases (show y=V.bl b from h'); simp [eqV,eqT]
  | int b=>cases (show y=V.int b from h'); simp [eqV,eqT]
  | str b=>cases (show y=V.str b from h'); simp [eqV,eqT]
  | lst ts=>cases f'
  | tup ts=>cases f'
 | str c=>
  cases (show x=V.str c from h)
  cases u with
  | non=>cases (show y=_ from h'); simp [eqV,eqT]
  | bl b=>cases (show y=V.bl b from h'); simp [eqV,eqT]
  | int b=>cases (show y=V.int b from h'); simp [eqV,eqT]
  | str b=>cases (show y=V.str b from h'); simp [eqV,eqT]
  | lst ts=>cases f'
  | tup ts=>cases f'
 | lst ts=>cases f
 | tup ts=>cases f
section
variable {X:Cx}{pins:List (Addr×Obj)}{σ:St}{H:Hp}{s:Shared}
theorem TsAt.both {ts us:List Tr}{vs ws:List V}{its its2:List Value}(h1:TsAt H ts vs)(h2:TsAt H us ws)(r1:Vals vs its)(r2:Vals ws its2){j:Nat}(a1:j<its.toArray.size)(a2:j<its2.toArray.size):
  ∃ t u x y,ts.getD j .non=t/\us.getD j .non=u/\t∈ts/\TAt H t x/\TAt H u y/\RelV x its.toArray[j]/\RelV y its2.toArray[j]:=by
 have l1:=r1.length
 have l2:=r2.length
 rw[ah] at a1 a2
 obtain⟨x,hx⟩:∃ x,vs[j]?=some x:=⟨vs[j]'(by omega),by simp [show j<vs.length by omega]⟩
 obtain⟨y,hy⟩:∃ y,ws[j]?=some y:=⟨ws[j]'(by omega),by simp [show j<ws.length by omega]⟩
 obtain⟨t,ht,hxt⟩:=h1.get hx
 obtain⟨u,hu,hyu⟩:=h2.get hy
 obtain⟨v,hv,rv⟩:=r1.get hx
 obtain⟨w,hw,rw'⟩:=r2.get hy
 have e1:its.toArray[j]=v:=by
  have:its[j]?=some its[j]:=by simp [a1]
  rw[hv] at this
  simpa using (aK this).symm
 have e2:its2.toArray[j]=w:=by
  have:its2[j]?=some its2[j]:=by simp [a2]
  rw[hw] at this
  simpa using (aK this).symm
 refine⟨t,u,x,y,by rw[bw,ht]; rfl,by rw[bw,hu]; rfl,aW ht,hxt,hyu,by rw[e1]; exact rv,by rw[e2]; exact rw'⟩
theorem jON (I:Inv X pins σ H s):∀ (n:Nat) (t u:Tr) (x y:V) (vx vy:Value) (A:Around),dep t=n->TAt H t x->TAt H u y->RelV x vx->RelV y vy->A.units+n<cLine->SeqAt.EqAt A s vx vy (eqT t u):=by
 intro n
 induction n using Nat.strongRecOn with
 | ind n ih=>
  intro t u x y vx vy A hn ht hu rx ry hc
  have hcu:A.units<cLine:=by omega
  cases ft:flatT t with
  | true=>
   cases fu:flatT u with
   | true=>
    rw[<- jMU ht hu ft fu]
    exact jLJ rx ry (jJI ht ft) (jJI hu fu)
   | false=>
    cases u with
    | lst us=>
     obtain⟨b,ws,rfl,hb,_⟩:=hu
     cases ry
     obtain⟨its,_,pl,_⟩:=I.list (SqL.of hb)
     cases t with
     | non=>cases (show x=_ from ht); cases rx; rw[show eqT .non (.lst us)=false by simp [eqT]]; exact .none_list pl.isList hcu
     | bl c=>cases (show x=V.bl c from ht); cases rx; rw[show eqT (.bl c) (.lst us)=false by simp [eqT]]; exact .bool_list c pl.isList hcu
     | int c=>cases (show x=V.int c from ht); obtain⟨k,rfl⟩:=rx; rw[show eqT (.int c) (.lst us)=false by simp [eqT]]; exact .int_list c k pl.isList hcu
     | str c=>cases (show x=V.str c from ht); obtain⟨k,rfl⟩:=rx; rw[show eqT (.str c) (.lst us)=false by simp [eqT]]; exact .str_list c k pl.isList hcu
     | lst ts=>cases ft
     | tup ts=>cases ft
    | tup us=>
     obtain⟨b,ws,rfl,hb,_⟩:=hu
     cases ry
     obtain⟨its,_,pl,_⟩:=I.tuple (SqT.of hb)
     cases t with
     | non=>cases (show x=_ from ht); cases rx; rw[show eqT .non (.tup us)=false by simp [eqT]]; exact .none_tuple pl hcu
     | bl c=>cases (show x=V.bl c from ht); cases rx; rw[show eqT (.bl c) (.tup us)=false by simp [eqT]]; exact .bool_tuple c pl hcu
     | int c=>cases (show x=V.int c from ht); obtain⟨k,rfl⟩:=rx; rw[show eqT (.int c) (.tup us)=false by simp [eqT]]; exact .int_tuple c k pl hcu
     | str c=>cases (show x=V.str c from ht); obtain⟨k,rfl⟩:=rx; rw[show eqT (.str c) (.tup us)=false by simp [eqT]]; exact .str_tuple c k pl hcu
     | lst ts=>cases ft
     | tup ts=>cases ft
    | non=>cases fu
    | bl c=>cases fu
    | int c=>cases fu
    | str c=>cases fu
  | false=>
   cases t with
   | non=>cases ft
   | bl c=>cases ft
   | int c=>cases ft
   | str c=>cases ft
   | lst ts=>
    have ht0:=ht
    obtain⟨a,vs,rfl,ha,hts⟩:=ht
    cases rx
    obtain⟨its,r1,pl,_⟩:=I.list (SqL.of ha)
    cases u with
    | non=>cases (show y=_ from hu); cases ry; rw[show eqT (.lst ts) .non=false by simp [eqT]]; exact .list_none pl.isList hcu
    | bl c=>cases (show y=V.bl c from hu); cases ry; rw[show eqT (.lst ts) (.bl c)=false by simp [eqT]]; exact .list_bool c pl.isList hcu
    | int c=>cases (show y=V.int c from hu); obtain⟨k,rfl⟩:=ry; rw[show eqT (.lst ts) (.int c)=false by simp [eqT]]; exact .list_int c k pl.isList hcu
    | str c=>cases (show y=V.str c from hu); obtain⟨k,rfl⟩:=ry; rw[show eqT (.lst ts) (.str c)=false by simp [eqT]]; exact .list_str c k pl.isList hcu
    | tup us=>
     obtain⟨b,ws,rfl,hb,_⟩:=hu
     cases ry
     obtain⟨its2,_,pl2,_⟩:=I.tuple (SqT.of hb)
     rw[show eqT (.lst ts) (.tup us)=false by simp [eqT]]
     exact .list_tuple pl.isList pl2 hcu
    | lst us=>
     have hu0:=hu
     obtain⟨b,ws,rfl,hb,hus⟩:=hu
     cases ry
     by_cases e:a=b
     ·subst e
      rw[<- TAt.inj ht0 hu0,jDX]
      exact .same _
     ·obtain⟨its2,r2,pl2,_⟩:=I.list (SqL.of hb)
      refine .of_refs e ?_
      have l1:=r1.length
      have l2:=r2.length
      have m1:=hts.len
      have m2:=hus.len
      rw[eqT,jCW]
      by_cases hl:ts.length=us.length
      ·have key:=SeqAt.RcAt.lists (e:=fun j=>eqT (ts.getD j .non) (us.getD j .non)) pl.isList pl2.isList (by rw[ah,ah]; omega) hcu fun j a1 a2=>by
        obtain⟨t',u',x',y',e1,e2,hm,q1,q2,q3,q4⟩:=TsAt.both hts hus r1 r2 a1 a2
        rw[e1,e2]
        have hd:=jFP hm
        have hn':deps ts+1=n:=by rw[<- hn,dep]
        exact ih (dep t') (by omega) t' u' x' y' _ _ _ rfl q1 q2 q3 q4 (by rw[dq]; omega)
       have ez:its.toArray.size=min ts.length us.length:=by rw[ah]; omega
       rw[ez] at key
       rw[show (ts.length==us.length)=true by simp [hl],Bool.and_true]
       exact key
      ·rw[show (ts.length==us.length)=false by simp [hl],bQ]
       refine SeqAt.RcAt.lists_lengths pl.isList pl2.isList ?_ hcu
       rw[ah,ah]
       simp
       omega
   | tup ts=>
    have ht0:=ht
    obtain⟨a,vs,rfl,ha,hts⟩:=ht
    cases rx
    obtain⟨its,r1,pl,_⟩:=I.tuple (SqT.of ha)
    cases u with
    | non=>cases (show y=_ from hu); cases ry; rw[show eqT (.tup ts) .non=false by simp [eqT]]; exact .tuple_none pl hcu
    | bl c=>cases (show y=V.bl c from hu); cases ry; rw[show eqT (.tup ts) (.bl c)=false by simp [eqT]]; exact .tuple_bool c pl hcu
    | int c=>cases (show y=V.int c from hu); obtain⟨k,rfl⟩:=ry; rw[show eqT (.tup ts) (.int c)=false by simp [eqT]]; exact .tuple_int c k pl hcu
    | str c=>cases (show y=V.str c from hu); obtain⟨k,rfl⟩:=ry; rw[show eqT (.tup ts) (.str c)=false by simp [eqT]]; exact .tuple_str c k pl hcu
    | lst us=>
     obtain⟨b,ws,rfl,hb,_⟩:=hu
     cases ry
     obtain⟨its2,_,pl2,_⟩:=I.list (SqL.of hb)
     rw[show eqT (.tup ts) (.lst us)=false by simp [eqT]]
     exact .tuple_list pl pl2.isList hcu
    | tup us=>
     have hu0:=hu
     obtain⟨b,ws,rfl,hb,hus⟩:=hu
     cases ry
     by_cases e:a=b
     ·subst e
      rw[<- TAt.inj ht0 hu0,jDX]
      exact .same _
     ·obtain⟨its2,r2,pl2,_⟩:=I.tuple (SqT.of hb)
      refine .of_refs e ?_
      have l1:=r1.length
      have l2:=r2.length
      have m1:=hts.len
      have m2:=hus.len
      rw[eqT,jCW]
      have key:=SeqAt.RcAt.tuples (e:=fun j=>eqT (ts.getD j .non) (us.getD j .non)) pl pl2 hcu fun j a1 a2=>by
       obtain⟨t',u',x',y',e1,e2,hm,q1,q2,q3,q4⟩:=TsAt.both hts hus r1 r2 a1 a2
       rw[e1,e2]
       have hd:=jFP hm
       have hn':deps ts+1=n:=by rw[<- hn,dep]
       exact ih (dep t') (by omega) t' u' x' y' _ _ _ rfl q1 q2 q3 q4 (by rw[dq]; omega)
      have z1:its.toArray.size=ts.length:=by rw[ah]; omega
      have z2:its2.toArray.size=us.length:=by rw[ah]; omega
      rw[z1,z2] at key
      exact key
theorem jJA (I:Inv X pins σ H s){ts us:List Tr}{vs ws:List V}{its its2:List Value}(h1:TsAt H ts vs)(h2:TsAt H us ws)(r1:Vals vs its)(r2:Vals ws its2){A:Around}(hc:A.units+deps ts<cLine):
  ∀ j (a1:j<its.toArray.size) (a2:j<its2.toArray.size),SeqAt.EqAt A s its.toArray[j] its2.toArray[j] (eqT (ts.getD j .non) (us.getD j .non)):=fun j a1 a2=>by
 obtain⟨t',u',x',y',e1,e2,hm,q1,q2,q3,q4⟩:=TsAt.both h1 h2 r1 r2 a1 a2
 rw[e1,e2]
 have hd:=jFP hm
 exact jON I (dep t') t' u' x' y' _ _ _ rfl q1 q2 q3 q4 (by omega)
theorem jMF (hu:X.A.units+101<cLine):OpR X (compareOp .NotEq) (fun x y H Q=>∃ ts us,TAt H (.tup ts) x/\TAt H (.tup us) y/\deps ts<=100/\Q (.bl (!eqTs ts us)) H):=by
 intro pins s σ H x y v u Q I rx ry h
 obtain⟨ts,us,⟨a,vs,rfl,ha,hts⟩,⟨b,ws,rfl,hb,hus⟩,hd,q⟩:=h
 cases rx
 cases ry
 obtain⟨its,r1,p1,_⟩:=I.tuple (SqT.of ha)
 obtain⟨its2,r2,p2,_⟩:=I.tuple (SqT.of hb)
 have l1:=r1.length
 have l2:=r2.length
 have m1:=hts.len
 have m2:=hus.len
 refine SeqAt.RcNeAt.tuples (e:=fun j=>eqT (ts.getD j .non) (us.getD j .non)) p1 p2 (by omega) (jJA I hts hus r1 r2 (by rw[dq]; omega)) _ _ _ _ ⟨.bl _,H,I,rfl,?_⟩
 have z1:its.toArray.size=ts.length:=by rw[ah]; omega
 have z2:its2.toArray.size=us.length:=by rw[ah]; omega
 rw[z1,z2,<- jCW]
 exact q
theorem jIB (hu:X.A.units+101<cLine):OpR X (compareOp .Eq) (fun x y H Q=>∃ ts us,TAt H (.lst ts) x/\TAt H (.lst us) y/\deps ts<=100/\Q (.bl (eqTs ts us)) H):=by
 intro pins s σ H x y v u Q I rx ry h
 obtain⟨ts,us,⟨a,vs,rfl,ha,hts⟩,⟨b,ws,rfl,hb,hus⟩,hd,q⟩:=h
 cases rx
 cases ry
 obtain⟨its,r1,p1,_⟩:=I.list (SqL.of ha)
 obtain⟨its2,r2,p2,_⟩:=I.list (SqL.of hb)
 have l1:=r1.length
 have l2:=r2.length
 have m1:=hts.len
 have m2:=hus.len
 rw[jCW] at q
 by_cases hl:ts.length=us.length
 ·refine SeqAt.eq_listAt (e:=fun j=>eqT (ts.getD j .non) (us.getD j .non)) p1.isList p2.isList (by rw[ah,ah]; omega) (by omega) (jJA I hts hus r1 r2 (by rw[dq]; omega)) ⟨.bl _,H,I,rfl,?_⟩
  have ez:its.toArray.size=min ts.length us.length:=by rw[ah]; omega
  rw[ez]
  rw[show (ts.length==us.length)=true by simp [hl],Bool.and_true] at q
  exact q
 ·rw[show (ts.length==us.length)=false by simp [hl],bQ] at q
  refine SeqAt.eq_list_lengthsAt p1.isList p2.isList ?_ (by omega) ⟨.bl _,H,I,rfl,q⟩
  rw[ah,ah]
  simp
  omega
theorem Room.units101 {k:Nat}{A:Around}(r:Room k A):A.units+101<cLine:=by have:=r.un; omega
end
section
variable {X:Cx}{tg iter elt:Expr}{ifs:List Expr}{sc:Scope}{pos:Pos}{wi:TI}{g:TG}{tt:TT}{te:TE}{m:List (Option Nat)}{Nc:List Str}
end
section
variable {X:Cx}{sc:Scope}{cl:List (Str×Addr)}{C:Addr}{Nc:List Str}{fp:List Addr}{s:Shared}{H:Hp}{x:Str}
variable {sc2:Scope}{cl2:List (Str×Addr)}{C2:Addr}{Nc2:List Str}{fp2:List Addr}{s2:Shared}{H2:Hp}
end
section
variable {X:Cx}
theorem jAT:yD X (.builtin "sorted") (fun xs H Q=>∃ (p:Addr) (ks:List Int),xs=[.ref p]/\SqL X.K H p (ks.map V.int)/\ks.length<64/\
  ∀ (l:Addr) (ns:List Int),H l=none->ns.Pairwise (· <= ·)->ns.Perm ks->Q (.ref l) (upd H l (.lst (ns.map V.int)))):=by
 intro pins s σ H xs us Q I r h
 obtain⟨p,ks,rfl,hp,hn,q⟩:=h
 obtain⟨u,rfl,rx⟩:=r.one
 cases rx
 obtain⟨its,r',pl,hz⟩:=I.list hp
 have hlen:=r'.length
 rw[ae] at hlen
 refine sorted_ints pl.isList (jAP r') (by omega) fun out ns' a1 a2 a3=>?_
 obtain⟨e,he⟩:=sortedAll_at s.heap its out
 have hz:(ns'.map V.int).length<=sizeLine:=by
  rw[ae,a2.length_eq,bW]
  omega
 have I2:Inv X pins σ (upd H (s.heap.objs.size+1) (.lst (ns'.map V.int))) { s with heap:=sortedAll s.heap its out} :=I.laid (t':=s.toks) (fun b o e=>sortedAll_old e) (cr _) ⟨hz,out.toList,e,jA7 a1,by rw[bG]; exact he⟩
 exact⟨.ref _,_,I2,rfl,q _ ns' (I.hok.fresh (cr _)) a3 a2⟩
theorem jC5 {prog:Program}{w:World}{A:Around}{E:Value->Shared->Prop}{s:Shared}{sl:Addr}{vs:Value}{n:Nat}{Q:Int×Int×Nat->Shared->Prop}(hs:s.heap.IsSliceOf sl .none .none vs)(ps:IsPart vs (some (-1)))
  (h:Q (((n:Int) - 1), -1,n) s):wpAny (model prog w) A (Builtin.Slice.sliceApplied (.ref sl) (pure (n:Int))) Q E s:=by
 obtain⟨os,hos,hcs,hds⟩:=id hs
 unfold Builtin.Slice.sliceApplied Builtin.Slice.sliceFields
 refine ac (ac (aN hos hds (x:= .none) rfl (ac (aN hos hds (x:= .none) rfl (ac (aN hos hds (x:=vs) rfl (ag ?_)))))))
 refine ac (HT.slicePart_ ps ?_)
 show wpAny _ _ (if ((-1:Int)==0)=true then _ else _) _ _ s
 rw[az (by decide)]
 refine ac (eh (ac (eh (ac (ag ?_)))))
 show wpAny _ _ (pure (((n:Int) - 1),(-1:Int),Builtin.Slice.slicePlaces ((n:Int) - 1) (-1) (-1))) _ _ s
 have e:Builtin.Slice.slicePlaces ((n:Int) - 1) (-1) (-1)=n:=by
  unfold Builtin.Slice.slicePlaces
  rw[az (by decide)]
  have:(-(-1:Int))=1:=rfl
  rw[this]
  split <;> omega
 rw[e]
 exact ag h
theorem jB2 {α β:Type}{f:α->Option β}{g:α->β} :∀ {l:List α},(∀ k∈l,f k=some (g k))->l.filterMap f=l.map g
 | [],_=>rfl
 | a::r,h=>by
  rw[cM,h a aB,aV,jB2 fun k hk=>h k (aC _ hk)]
theorem jK6 (xs:List Value):((List.range xs.length).filterMap fun (k:Nat)=>xs.toArray[(((xs.length:Int) - 1)+(k:Int)*(-1)).toNat]?)=xs.reverse:=by
 rw[jB2 (g:=fun k=>xs.reverse.getD k .none) fun k hk=>?_]
 ·apply List.ext_getElem
  ·simp
  ·intro i h1 h2
   have h3:i<xs.length:=by simpa using h2
   simp [List.getD,h3]
 ·have hk:=br.mp hk
  have e1:(((xs.length:Int) - 1)+(k:Int)*(-1)).toNat=xs.length - 1 - k:=by omega
  rw[e1]
  have h1:xs.length - 1 - k<xs.length:=by omega
  simp [List.getD,hk,h1]
theorem jBU {prog:Program}{w:World}{A:Around}{E:Value->Shared->Prop}{s:Shared}{t sl:Addr}{its:List Value}{n:Nat}{vs:Value}{Q:Value->Shared->Prop}
  (e0:s.heap.get? t=some { cls:= .type "tuple",data:= .seq its.toArray n}) (hs:s.heap.IsSliceOf sl .none .none vs) (ps:IsPart vs (some (-1))) (hz:its.length<=sizeLine)
  (h:Q (.ref s.heap.objs.size) { s with heap:=s.heap.push { cls:= .type "tuple",data:= .seq its.reverse.toArray}}):wpAny (model prog w) A (getItem (.ref t) (.ref sl)) Q E s:=by
 have ht:IsTup s.heap t its.toArray:=⟨_,e0,rfl,n,rfl⟩
 obtain⟨os,hos,hcs,hds⟩:=id hs
 have hTs:s.TypeIs (.ref sl) "slice" :=⟨os,hos,hcs⟩
 have htake:sizeOk (.seq its.reverse.toArray):=by
  show its.reverse.toArray.size<=sizeLine
  rw[ah,gt]
  exact hz
 unfold getItem
 try with_reducible refine aL ?_
 first | refine ac (ag ?_) | skip
 refine ac (eT ht.typeIs (by decide) (ac (aQ (name:=Str.ofString "__getitem__") ht.typeIs aF
  (aR aF ht.typeIs dR (?_:wpAny (model prog w) _ (Builtin.Tuple.tupleItemsOf (.ref t) >>= _) _ _ s) (ej _ _)))))
 refine ac (tupleItemsOf_ ht (ac (bY hTs ?_)))
 rw[aA (by decide)]
 refine ac (jC5 (n:=its.toArray.size) hs ps ?_)
 have hno:¬ ((((its.toArray.size:Int) - 1)==0&&(-1:Int)==1&&its.toArray.size==its.toArray.size)=true):=by
  intro q
  rw[aS,aS] at q
  exact absurd q.1.2 (by decide)
 show wpAny _ _ (if (((its.toArray.size:Int) - 1)==0&&(-1:Int)==1&&its.toArray.size==its.toArray.size)=true then _ else _) _ _ s
 rw[az hno,ah,jK6]
 first
  | exact ac (m:=Builtin.Tuple.tupleExact _) (ay (ag ⟨_,rfl,ag h⟩) htake)
  | exact ac (m:=Builtin.Tuple.tupleExact _) (ay (ac (ag (ag ⟨_,rfl,ag h⟩))) htake)
  | exact ac (ac (m:=Builtin.Tuple.tupleExact _) (ay (ag (ag ⟨_,rfl,ag h⟩)) htake))
  | exact ac (ac (m:=Builtin.Tuple.tupleExact _) (ay (ag ⟨_,rfl,ag h⟩) htake))
def tRev (te:TE)(ts:TO):TE:=fun σ H Q=>te σ H fun x H1=>ts σ H1 fun o H2=>o=some (-1)/\∃ a xs,x= .ref a/\H2 a=some (.tup xs)/\TupR H2 xs.reverse Q
theorem jOE {e st:Expr}{te:TE}{ts:TO}{p2 pos:Pos}(he:JE X e te)(hst:JO X (some st) ts):JE X (.Subscript e (.Slice none none (some st) p2) pos) (tRev te ts):=⟨by
 intro pins s σ H Q I h
 refine Subscript_ (thn (he.h pins s σ H _ I h) fun v s1 ⟨x,H1,I1,r1,q1⟩=>?_)
 refine wpAny_Slice ?_
 rw[evalPart_none]
 refine ag (ag (thn (hst.h pins s1 σ H1 _ I1 q1) fun vst s2 ⟨o,H2,I2,ps,eo,a,xs,ex,hx,q⟩=>?_))
 subst eo
 subst ex
 cases r1
 have I4:Inv X pins σ H2 { s2 with heap:=s2.heap.push { cls:= .type "slice",data:= .fields #[.none, .none,vst]}} :=I2.kept (t':=s2.toks) fun b ob q=>af _ q
 obtain⟨hz,its,r,n,e0⟩:=I4.hok a _ hx
 have hlen:=r.length
 show wpAny (model X.prog X.w) X.A (subscriptTail e (.Slice none none (some st) p2) (.ref a) (.ref s2.heap.objs.size)) (EP X pins σ Q) X.xe { s2 with heap:=s2.heap.push { cls:= .type "slice",data:= .fields #[.none, .none,vst]}}
 refine tail_any (ops:=[.ref a, .ref s2.heap.objs.size]) ⟨_,e0,rfl⟩ aF.lookup ?_ (by with_unfolding_all rfl)
 refine jBU e0 (Heap.IsSliceOf.new ..) ps (by omega) ?_
 refine⟨.ref _,_,I4.laid (t':=s2.toks) (o:= .tup xs.reverse) (fun b ob q=>af _ q) (ai _) ⟨by rw[gt]; exact hz,its.reverse,r.reverse,TupO.new _ _⟩,rfl,q.new (I4.hok.fresh (ai _))⟩⟩
theorem jOJ {xs:List Expr}{pos:Pos} :FoOk (.List xs pos):=⟨fun _ _=>rfl⟩
end
section
variable {X:Cx}{sc:Scope}{cl:List (Str×Addr)}{C:Addr}{Nc:List Str}{fp:List Addr}{s:Shared}{H:Hp}
end
end L2
end
section
namespace L2
open PySem
theorem jLT {es:List Expr}{env:Env}{pos:Pos}{ks:List (Option Expr)}{vs:List Expr} :starEach (.Dict ks vs pos::es) env=(false,eval (.Dict ks vs pos) env)::starEach es env:=rfl
def LstR (H:Hp)(xs:List V)(Q:VK):Prop:=∀ r H',H' r=some (.lst xs)->Ext H H'->H r=none->Q (.ref r) H'
theorem LstR.new {H:Hp}{xs:List V}{Q:VK}(q:LstR H xs Q){p:Addr}(hp:H p=none):Q (.ref p) (upd H p (.lst xs)):=q p _ j7 ((Ext.refl H).new hp _) hp
def tTupU (t:TA):TE:=fun σ H Q=>t σ H fun xs H1=>xs.length<=sizeLine/\TupR H1 xs Q
def tLstU (t:TA):TE:=fun σ H Q=>t σ H fun xs H1=>xs.length<=sizeLine/\LstR H1 xs Q
def jN1:TE:=fun _ H Q=>∀ r H',H' r=some (.dK [])->Ext H H'->Q (.ref r) H'
section
variable {X:Cx}{es:List Expr}{t:TA}{pos:Pos}
theorem jY {x1}(h:JA X es t):JE X (.Tuple es x1 pos) (tTupU t):=⟨fun pins s σ H Q I hq=>by
 refine wpAny_Tuple_spliced (thn (h.h pos pins s σ H _ I hq) fun us s1 ⟨xs,H1,I1,r,z,q⟩=>⟨by rw[<- r.length]; exact z,?_⟩)
 have hf:H1 s1.heap.objs.size=none:=I1.hok.fresh (ai _)
 exact⟨.ref s1.heap.objs.size,upd H1 s1.heap.objs.size (.tup xs),I1.laid (t':=s1.toks) (fun b u e=>af _ e) (ai _) ⟨z,us,r,TupO.new _ _⟩,rfl,q.new hf⟩⟩
theorem jAN (h:JA X es t):JE X (.List es pos) (tLstU t):=⟨fun pins s σ H Q I hq=>by
 refine wpAny_List_spliced (thn (h.h pos pins s σ H _ I hq) fun us s1 ⟨xs,H1,I1,r,z,q⟩=>⟨by rw[<- r.length]; exact z,?_⟩)
 have hf:H1 s1.heap.objs.size=none:=I1.hok.fresh (ai _)
 exact⟨.ref s1.heap.objs.size,upd H1 s1.heap.objs.size (.lst xs),I1.laid (t':=s1.toks) (fun b u e=>af _ e) (ai _) ⟨z,us,0,r,aj _ rfl⟩,rfl,q.new hf⟩⟩
theorem jKT:JE X (.Dict [] [] pos) jN1:=⟨fun pins s σ H Q I h=>je_dict0.h pins s σ H Q I fun p hp=>h p _ j7 ((Ext.refl H).new hp _)⟩
theorem jHE:yD X (.type "list") (fun xs H Q=>∃ p ys,xs=[.ref p]/\H p=some (.tup ys)/\LstR H ys Q):=by
 intro pins s σ H xs us Q I r h
 obtain⟨p,ys,rfl,hp,q⟩:=h
 exact jEY pins s σ H _ us Q I r ⟨p,ys,rfl, .inr (SqT.of hp),fun l hl=>q.new hl⟩
theorem jCC:OpR X (binaryOp .Add) (fun x y H Q=>∃ l b xs zs,x= .ref l/\y= .ref b/\H l=some (.lst xs)/\H b=some (.lst zs)/\xs.length+zs.length<=sizeLine/\LstR H (xs++zs) Q):=by
 intro pins s σ H x y v u Q I rx ry h
 obtain⟨l,b,xs,zs,rfl,rfl,h1,h2,h3,q⟩:=h
 exact jNX pins s σ H _ _ v u Q I rx ry ⟨l,b,xs,zs,rfl,rfl,h1,h2,h3,fun p hp=>q.new hp⟩
end
end L2
end
section
namespace L2
open PySem PySem.Spec PyProof.Rows
section
variable {X:Cx}
theorem jFQ {prog:Program}{w:World}{A:Around}{E:Value->Shared->Prop}{s:Shared}{l:Addr}{vs:List Value}{n:Nat}{Q:List Value->Shared->Prop}(ho:s.heap.get? l=some { cls:= .type "tuple",data:= .seq vs.toArray n})
  (h:Q vs { s with heap:=(s.heap.push (seqObj "list" #[] 0)).update s.heap.objs.size (Obj.mapSeq (· ++vs.toArray))}) (hsz:vs.length<=sizeLine):
  wpAny (model prog w) A (collect (.ref l)) Q E s:=by
 unfold collect
 refine ac (df (bc entry_proto_collect' ?_))
 show wpAny _ _ (do again (.builtin "list.__iadd__" ⟨[<- newList [], .ref l],[]⟩)) _ _ s
 refine ac (wpAny_newList (ag ⟨Code.quiet_builtin _ (by decide+kernel),bc entry_list_iadd' ?_⟩))
 show wpAny _ _ (Builtin.List.listExtendWith (.ref s.heap.objs.size) (.ref l) (.ref s.heap.objs.size)) _ _ { s with heap:=s.heap.push (seqObj "list" #[] 0)}
 unfold Builtin.List.listExtendWith
 have ho':(s.heap.push (seqObj "list" #[] 0)).get? l=some { cls:= .type "tuple",data:= .seq vs.toArray n} :=af _ ho
 refine ac (bY (T:= "tuple") ⟨_,ho',rfl⟩ ?_)
 have ht:(Value.type "tuple" ==Value.type "tuple")=true:=by rfl
 rw[aA (by rw[ht,gP])]
 refine ac (listItems_at ho' rfl ?_)
 refine ac (listItems_at (xs:=#[]) (n:=0) (aj _ rfl) rfl ?_)
 rw[az (by simp)]
 refine ac (listUpdate_at (xs:=#[]) (n:=0) (aj _ rfl) rfl ?_ (aM _) (by show (#[]++vs.toArray).size<=sizeLine+1; simp only [Array.size_append,ah,gb]; omega))
 refine ag ?_
 show wpAny (model prog w) A (do
   let o <- load s.heap.objs.size
   match o.data with
   | .seq xs _=>pure xs.toList
   | _=>unsupported "internal:collect") Q E { s with heap:=(s.heap.push (seqObj "list" #[] 0)).update s.heap.objs.size (Obj.mapSeq (· ++vs.toArray))}
 refine ac (dk (get?_update_seq (aj _ rfl) _) ?_)
 show wpAny _ _ (pure ((#[]:Array Value)++vs.toArray).toList) Q E _
 rw[show ((#[]:Array Value)++vs.toArray).toList=vs by simp]
 exact ag h
theorem jGV {prog:Program}{w:World}{A:Around}{E:Value->Shared->Prop}{s:Shared}{l:Addr}{vs:List Value}{ns:List Int}{n:Nat}{Q:Value->Shared->Prop}(ho:s.heap.get? l=some { cls:= .type "tuple",data:= .seq vs.toArray n})(hI:IntsAre vs ns)(h64:vs.length<64)
  (h:∀ (out:Array Value) (ns':List Int),IntsAre out.toList ns'->ns'.Perm ns->ns'.Pairwise (· <= ·)->Q (.ref (s.heap.objs.size+1)) { s with heap:=sortedAll s.heap vs out}):
  wpAny (model prog w) A (call (.builtin "sorted") [.ref l]) Q E s:=by
 refine eS kind_sorted plain_sorted entry_sorted (args_sorted1 _) ?_
 unfold Builtin.«sorted»
 refine ac (m:=checkCount "sorted" 1 1 _) (ag ?_)
 refine ac (jFQ ho ?_ (by rw[bW]; omega))
 refine ac (wpAny_newList ?_ (by rw[bW]; omega))
 have hsz:((s.heap.push (seqObj "list" #[] 0)).update s.heap.objs.size (Obj.mapSeq (· ++vs.toArray))).objs.size=s.heap.objs.size+1:=by
  rw[dr,size_push']
 have hoL:(((s.heap.push (seqObj "list" #[] 0)).update s.heap.objs.size (Obj.mapSeq (· ++vs.toArray))).push (seqObj "list" vs.toArray 0)).get? (s.heap.objs.size+1)=some (seqObj "list" vs.toArray 0):=by
  rw[<- hsz]; exact aj _ rfl
 show wpAny _ _ _ _ _ { s with heap:=((s.heap.push (seqObj "list" #[] 0)).update s.heap.objs.size (Obj.mapSeq (· ++vs.toArray))).push (seqObj "list" vs.toArray 0)}
 rw[hsz]
 refine ac (aL (aR slot_list_sort ⟨_,hoL,rfl⟩ entry_list_sort (list_sort_tree hoL hI h64 fun out ns' a1 a2 a3=>⟨_,rfl,?_⟩) (args_list_sort _)))
 exact ag ⟨_,rfl,h out ns' a1 a2 a3⟩
theorem jEX:yD X (.builtin "sorted") (fun xs H Q=>∃ (p:Addr) (ks:List Int),xs=[.ref p]/\H p=some (.tup (ks.map V.int))/\ks.length<64/\
  ∀ (l:Addr) (ns:List Int),H l=none->ns.Pairwise (· <= ·)->ns.Perm ks->Q (.ref l) (upd H l (.lst (ns.map V.int)))):=by
 intro pins s σ H xs us Q I r h
 obtain⟨p,ks,rfl,hp,hn,q⟩:=h
 obtain⟨u,rfl,rx⟩:=r.one
 cases rx
 obtain⟨_,its,r',n,e0⟩:=I.hok p _ hp
 have hlen:=r'.length
 rw[ae] at hlen
 refine jGV e0 (jAP r') (by omega) fun out ns' a1 a2 a3=>?_
 obtain⟨e,he⟩:=sortedAll_at s.heap its out
 have hz:(ns'.map V.int).length<=sizeLine:=by
  rw[ae,a2.length_eq,bW]
  omega
 have I2:Inv X pins σ (upd H (s.heap.objs.size+1) (.lst (ns'.map V.int))) { s with heap:=sortedAll s.heap its out} :=I.laid (t':=s.toks) (fun b o e=>sortedAll_old e) (cr _) ⟨hz,out.toList,e,jA7 a1,by rw[bG]; exact he⟩
 exact⟨.ref _,_,I2,rfl,q _ ns' (I.hok.fresh (cr _)) a3 a2⟩
end
section
variable {X:Cx}
variable {sc:Scope}{cl:List (Str×Addr)}{C:Addr}{Nc:List Str}{fp:List Addr}{s:Shared}{H:Hp}
end
end L2
end
section
namespace L2
open PySem
section
variable {X:Cx}{tg iter elt:Expr}{ifs:List Expr}{sc:Scope}{pos:Pos}{wi:TI}{g:TG}{tt:TT}{te:TE}{m:List (Option Nat)}{Nc:List Str}
end
section
variable {X:Cx}
end
end L2
end
section
namespace L2
open PySem PySem.Spec PyProof.Rows
section
variable {prog:Program}{w:World}{A:Around}{E:Value->Shared->Prop}
end
section
variable {X:Cx}
end
theorem jFN:entryFor table "proto.unchain" =some Builtin.«proto.unchain»:=fw (by kernel_rfl)
def Hnd (h:Heap)(x:Addr):Prop:=∃ o vs,h.get? x=some o/\o.data= .fields vs/\vs[2]?=some .none
section
variable {prog:Program}{w:World}{A:Around}{E:Value->Shared->Prop}{s:Shared}
theorem jFD {α:Type}{e x:Addr}{oe:Obj}{es:Array Value}{Q:α->Shared->Prop}(hh:A.handled=some (.ref x))(ne:x≠e)(hx:Hnd s.heap x)(he:s.heap.get? e=some oe)(hd:oe.data= .fields es)(hz:2<es.size)
  (h:E (.ref e) { s with heap:=s.heap.update e (Obj.mapFields (·.setIfInBounds 2 (.ref x)))}):wpAny (model prog w) A (raiseNew (.ref e):Sem α) Q E s:=by
 obtain⟨ox,vs,hox,hdx,h2⟩:=hx
 unfold raiseNew
 refine ac (wpAny_handled ?_)
 rw[hh]
 have hne:(Value.ref x != Value.ref e)=true:=by simp [ne]
 dsimp only
 rw[aA hne]
 refine ac (aL (df (bc jFN ?_)))
 show wpAny _ _ (bind (field (.ref x) 2) _) _ _ _
 refine ac (aN hox hdx h2 ?_)
 rw[aA (by rfl)]
 refine ag ?_
 obtain⟨c,d,dt,sl⟩:=oe
 simp only at hd
 subst hd
 simp only [updateField]
 refine ac (ac (dk he ?_))
 dsimp only
 rw[aA hz]
 exact wpAny_update he (wpAny_throw h)
structure NoteX (fs R:List Addr)(h h':Heap):Prop where
 keep:∀ b o,h.get? b=some o->b∉fs->b∉R->h'.get? b=some o
 slot:∀ b o,h.get? b=some o->b∉R->∃ sl,h'.get? b=some { o with slots:=sl}
 size:h.objs.size<=h'.objs.size
def ExcX (h:Heap)(x C T:Addr):Prop:=∃ vs oT ts,h.get? x=some { cls:= .ref C,data:= .fields vs} /\vs.size=6/\vs[1]?=some (.ref T)/\vs[2]?=some .none/\T≠x/\h.get? T=some oT/\oT.data= .fields ts/\ts[3]?=some .none
theorem jGI {env:Env}{outer:List Env}{L x C:Addr}{base:Heap}{vs:Array Value}{head:Value}{had:Bool}{Q:Unit->Shared->Prop}(hfr:A.frames=some (env::outer))(hl:s.heap.FunFrames base (env::outer))(hf:env.frame=some L)
  (hx:s.heap.get? x=some { cls:= .ref C,data:= .fields vs}) (v6:vs.size=6) (v2:vs[2]?=some .none)
  (h:∀ h' T,NoteX (frs (env::outer)) [x] s.heap h'->ExcX h' x C T->s.heap.objs.size<=T->Q () { s with heap:=h'}):
  wpAny (model prog w) A (do let a <- frameOf env; let pl <- entryPlaceOf L had; let b <- EntryCells.newEntry head a .none (rawInt L) .none pl; setField (.ref x) 1 b) (fun _ s'=>wpAny (model prog w) A (setFlight (.ref x) none) Q E s') E s:=by
 have xf:x∉frs (env::outer):=fun hm=>by
  obtain⟨_,o,ho,hn⟩:=hl.mem hm
  rw[hx] at ho
  cases ho
  exact hn _ rfl
 refine ac (wpAny_frameOf_fun hfr hl hf fun h1 so=>ac (wpAny_entryPlaceOf fun pl hpl=>?_))
 have hx1:=(so.2.1 x xf).trans hx
 unfold EntryCells.newEntry newFields
 refine ac (ay ?_ (hpl.sizeOk5 _ _ _ _ _))
 generalize hts:([head, .ref L, .none,rawInt L, .none]++(if pl.isEmpty then replicate 6 Value.none else pl)).toArray=ts
 have ts3:3<ts.size:=by
  rw[<- hts]
  simp
 have h2x:=af (h:=h1) { cls:= .type "traceback",data:= .fields ts} hx1
 have h2T:(h1.push { cls:= .type "traceback",data:= .fields ts}).get? h1.objs.size=some { cls:= .type "traceback",data:= .fields ts} :=aj h1 rfl
 have sz2:(h1.push { cls:= .type "traceback",data:= .fields ts}).objs.size=h1.objs.size+1:=bv ..
 have nTx:h1.objs.size≠x:=cw (ak hx1)
 have k2:∀ b o,h1.get? b=some o->(h1.push { cls:= .type "traceback",data:= .fields ts}).get? b=some o:=fun b o e=>af _ e
 generalize h1.push { cls:= .type "traceback",data:= .fields ts} =h2 at h2x h2T sz2 k2 ⊢
 refine cJ h2x rfl (by omega) ?_
 have h3x:=aZ (Obj.mapFields (·.setIfInBounds 1 (Value.ref h1.objs.size))) h2x rfl
 have h3o:∀ b,b≠x->(h2.update x (Obj.mapFields (·.setIfInBounds 1 (Value.ref h1.objs.size)))).get? b=h2.get? b:=fun b n=>aX _ _ (bN n)
 have h3T:=(h3o _ nTx).trans h2T
 have sz3:(h2.update x (Obj.mapFields (·.setIfInBounds 1 (Value.ref h1.objs.size)))).objs.size=h2.objs.size:=dr ..
 generalize h2.update x (Obj.mapFields (·.setIfInBounds 1 (Value.ref h1.objs.size)))=h3 at h3x h3o h3T sz3 ⊢
 have w1:(vs.setIfInBounds 1 (Value.ref h1.objs.size))[1]?=some (.ref h1.objs.size):=by simp [v6]
 have w2:(vs.setIfInBounds 1 (Value.ref h1.objs.size))[2]?=some .none:=by rw[dh (by decide)]; exact v2
 unfold setFlight
 refine ac (aN (x:= .ref h1.objs.size) h3x rfl w1 ?_)
 rw[aA (show (Value.ref h1.objs.size != Value.none)=true by rfl)]
 refine cJ h3T rfl ts3 ?_
 have h4T:=aZ (Obj.mapFields (·.setIfInBounds 3 Value.none)) h3T rfl
 have h4o:∀ b,b≠h1.objs.size->(h3.update h1.objs.size (Obj.mapFields (·.setIfInBounds 3 Value.none))).get? b=h3.get? b:=fun b n=>aX _ _ (bN n)
 have sz4:(h3.update h1.objs.size (Obj.mapFields (·.setIfInBounds 3 Value.none))).objs.size=h3.objs.size:=dr ..
 have sz1:=so.1
 refine h (h3.update h1.objs.size (Obj.mapFields (·.setIfInBounds 3 Value.none))) h1.objs.size ⟨fun b o hb n1 n2=>?_,fun b o hb n2=>?_,by omega⟩ ⟨_,_,_,(h4o x (bN nTx)).trans h3x,by simp [v6],w1,w2,nTx,h4T,rfl,?_⟩ (by omega)
 ·have hb1:=(so.2.1 b n1).trans hb
  have nx:b≠x:=fun z=>n2 (by rw[z]; exact bD.mpr rfl)
  rw[h4o b (ao (ak hb1)),h3o b nx]
  exact k2 b o hb1
 ·obtain⟨sl,hb1⟩:=so.2.2 b o hb
  have nx:b≠x:=fun z=>n2 (by rw[z]; exact bD.mpr rfl)
  refine⟨sl,?_⟩
  rw[h4o b (ao (ak hb1)),h3o b nx]
  exact k2 b _ hb1
 ·simp [ts3]
theorem jIU {env:Env}{outer:List Env}{L x C t:Addr}{base:Heap}{Q:Unit->Shared->Prop}(hfr:A.frames=some (env::outer))(hl:s.heap.FunFrames base (env::outer))(hf:env.frame=some L)
  (hx:s.heap.get? x=some { cls:= .ref C,data:= .fields #[.ref t, .none, .none, .none, .bool false, .none]})
  (h:∀ h' T,NoteX (frs (env::outer)) [x] s.heap h'->ExcX h' x C T->s.heap.objs.size<=T->Q () { s with heap:=h'}):wpAny (model prog w) A (leaving env (.ref x)) Q E s:=by
 unfold leaving noteFrame
 simp only [hf]
 refine ac (ac (aN (x:=Value.none) hx rfl rfl ?_))
 rw[az (by decide)]
 exact jGI hfr hl hf hx rfl rfl h
theorem jKM {env:Env}{outer:List Env}{L x C T:Addr}{base:Heap}{Q:Unit->Shared->Prop}(hfr:A.frames=some (env::outer))(hl:s.heap.FunFrames base (env::outer))(hf:env.frame=some L)(hx:ExcX s.heap x C T)
  (h:∀ h' T',NoteX (frs (env::outer)) [x,T] s.heap h'->ExcX h' x C T'->s.heap.objs.size<=T'->Q () { s with heap:=h'}):
  wpAny (model prog w) A (noteFrame (.ref x) env) (fun _ s'=>wpAny (model prog w) A (setFlight (.ref x) none) Q E s') E s:=by
 obtain⟨vs,oT,ts,hx,v6,v1,v2,nTx,hT,hd,t3⟩:=hx
 have t3s:3<ts.size:=(cH.mp t3).1
 unfold noteFrame
 simp only [hf]
 refine ac (aN hx rfl v1 ?_)
 rw[aA (show (Value.ref T != Value.none)=true by rfl)]
 refine ac (aN hT hd t3 ?_)
 rw[az (show ¬ ((Value.none==rawInt L)=true) by simp [rawInt])]
 refine ac (cJ hT hd t3s ?_)
 have uo:∀ b,b≠T->(s.heap.update T (Obj.mapFields (·.setIfInBounds 3 Value.none))).get? b=s.heap.get? b:=fun b n=>aX _ _ (bN n)
 have us:(s.heap.update T (Obj.mapFields (·.setIfInBounds 3 Value.none))).objs.size=s.heap.objs.size:=dr ..
 have nT:∀ b o,s.heap.get? b=some o->(∀ vs,o.data≠ .fields vs)->b≠T:=fun b o hb hn z=>by
  rw[z,hT] at hb
  cases hb
  exact hn _ hd
 generalize s.heap.update T (Obj.mapFields (·.setIfInBounds 3 Value.none))=h1 at uo us ⊢
 refine jGI (s:= { s with heap:=h1}) (C:=C) hfr (hl.of_keeps fun b o hb hn=>⟨o,(uo b (nT b o hb hn)).trans hb,rfl⟩) hf ((uo x (bN nTx)).trans hx) v6 v2 fun h' T' n e z=>h h' T' ⟨fun b o hb m1 m2=>?_,fun b o hb m2=>?_,by have:=n.size; show s.heap.objs.size<=_; rw[<- us]; exact this⟩ e (by rw[<- us]; exact z)
 ·have b1:b≠T:=fun z=>m2 (by rw[z]; simp)
  have b2:b≠x:=fun z=>m2 (by rw[z]; simp)
  exact n.keep b o ((uo b b1).trans hb) m1 (by simpa using b2)
 ·have b1:b≠T:=fun z=>m2 (by rw[z]; simp)
  have b2:b≠x:=fun z=>m2 (by rw[z]; simp)
  exact n.slot b o ((uo b b1).trans hb) (by simpa using b2)
end
end L2
namespace L2
open PySem PySem.Spec PyProof.Rows
abbrev bmVE:List Value:=[.type "ValueError", .type "Exception", .type "BaseException", .type "object"]
def ExcK (K:W.Frag)(C:Addr):Prop:=∃ (nm q:Str) (N:Addr) (bs bm:List Value) (hdct:Bool) (sn:List Str) (sub:List Value) (ab:Bool) (col:Option Bool) (dd:Option Addr) (k0 k1 k2 k3 k5:Option Value) (mN:Str->Option Value),
 mN "__init__" =none/\bm.contains (.type "BaseException")=true/\∀ h:Heap,K.In h->h.get? C=some (excClassObj nm q C N bs bm hdct sn sub ab col dd k0 k1 k2 k3 k5 "ValueError.__new__")/\h.Ns N mN/\OwnTail h bmVE bm
section
variable {X:Cx}{x:Str}{C:Addr}{W:Hp->Prop}{e:Expr}{t:TA}{np cpos pos:Pos}
theorem jI3 (hc:X.calm=true)(ek:ExcK X.K C)(hg:Gl X x)(hm:X.mg x=some (.ref C))(ha:PA X [e] t)
  (hx:∀ pins σ H s h' a us,Inv X pins σ H s->Heap.MadeExcOf s.heap h' a (.ref C) us->W H->X.xe (.ref a) { s with heap:=h'})
  (hd:(x==("__debug__" :Str))=false:=by decide) (he:starEach [e] X.env=(false,eval e X.env)::starEach [] X.env:=by rfl) (hpl:(backTo cpos (starEach [e] X.env)).any (·.1)=false:=by rfl):
  PS X (.Raise (some (.Call (.Name x np) [e] [] cpos)) none pos) (fun _ σ H=>t σ H fun vs H1=>vs.length<=sizeLine/\W H1):=by
 intro pins s σ H D I h
 obtain⟨nm,q,N,bs,bm,hdct,sn,sub,ab,col,dd,k0,k1,k2,k3,k5,mN,hni,hb,hK⟩:=ek
 refine wpAny_Raise_call_subU (C:=C) (N:=N) (bs:=bs) (bm:=bm) (hdct:=hdct) (sn:=sn) (sub:=sub) (ab:=ab) (col:=col) (dd:=dd) (k0:=k0) (k1:=k1) (k2:=k2) (k3:=k3) (k5:=k5) (nm:=nm) (q:=q) eO (by decide) eO hb (I.ok.hd hc) hpl hni (jBS I hg hm ⟨rfl,?_⟩ hd)
 obtain⟨y,r,hy⟩:∃ y r,backTo cpos (starEach [e] X.env)=(false,y)::r:=by
  rw[he]
  exact⟨_,_,rfl⟩
 have h2:=ha cpos pins s σ H _ I h
 rw[hy] at h2 ⊢
 refine bZ (thn h2 fun us s1 ⟨vs,H1,I1,r1,z,w1⟩=>?_)
 obtain⟨c1,c2,c3⟩:=hK s1.heap I1.kIn
 exact⟨rfl,by rw[<- r1.length]; exact z,c1,c2,c3,fun h' a m=>hx pins σ H1 s1 h' a us I1 m w1⟩
end
end L2
namespace L2
open PySem PySem.Spec PyProof.Rows
theorem HOk.note {P:Program}{w:World}{H:Hp}{h h':Heap}{fs R:List Addr}(x:HOk P w H h)(n:NoteX fs R h h')(hf:∀ b∈fs,H b=none)(hR:∀ b∈R,H b=none):HOk P w H h':=fun a o e=>
 (x a o e).stay (fun b u hb q=>n.keep b u q (fun z=>by
   have:=hf b z
   rcases hb with rfl | hb
   ·rw[e] at this; cases this
   ·rw[hb] at this; cases this) (fun z=>by
   have:=hR b z
   rcases hb with rfl | hb
   ·rw[e] at this; cases this
   ·rw[hb] at this; cases this)) (fun _ q=>q) fun _ _ q=>q
theorem ObjOk.is {P:Program}{w:World}{H:Hp}{h:Heap}{a:Addr}{o:HO}(x:ObjOk P w H h a o):∃ u,h.get? a=some u:=by
 cases o with
 | lst xs=>obtain⟨_,_,_,_,e⟩:=x; exact⟨_,e⟩
 | tup xs=>obtain⟨_,_,_,_,e⟩:=x; exact⟨_,e⟩
 | dK kvs=>obtain⟨_,_,_,_,o,_,_,e,_⟩:=x; exact⟨_,e⟩
 | dT kvs=>obtain⟨_,_,_,_,o,_,_,e,_⟩:=x; exact⟨_,e⟩
 | set S n=>obtain⟨o,_,_,_,e,_⟩:=x; exact⟨_,e⟩
 | ins C dx fs=>obtain⟨_,_,_,e,_⟩:=x; exact⟨_,e⟩
 | own y=>exact x
 | xd fs=>obtain⟨_,⟨_,_,_,e,_⟩,_⟩:=x; exact⟨_,e⟩
 | rng lo hi=>obtain⟨_,_,_,e⟩:=x; exact⟨_,e⟩
 | frz ob u=>obtain⟨e,_⟩:=x; exact⟨_,e⟩
 | tbl ps=>exact⟨_,x⟩
 | met f y=>exact⟨_,x⟩
 | ext φ=>obtain⟨_,q,_⟩:=x; exact q
def CXX (P:Program)(w:World)(C:Addr):CXT:=fun outer H s E e s'=>∃ x T H',e= .ref x/\s'.os=s.os/\AllBare s'.gens/\Un (frs outer) [] H H' s.heap s'.heap/\HOk P w H' s'.heap/\s.heap.get? x=none/\s.heap.objs.size<=T/\H' x=none/\H' T=none/\ExcX s'.heap x C T/\E e (some x) H'
theorem xe_cx {P:Program}{w:World}{K:W.Frag}{mg:Str->Option Value}{base:Heap}{N:List Str}{qual:Str}{sc:Scope}{f:Addr}{cdv:Value}{A:Around}{outer:List Env}{s:Shared}{H:Hp}{E:XK}{C:Addr}
  {pins:List (Addr×Obj)}{σ:St}{H1:Hp}{s1:Shared}{h':Heap}{a:Addr}{us:List Value}(I:Inv (cxOf (CXX P w C) P w K mg base N qual sc f cdv A outer s H E) pins σ H1 s1) (m:Heap.MadeExcOf s1.heap h' a (.ref C) us) (w1:∀ a,E (.ref a) (some a) H1):
  (cxOf (CXX P w C) P w K mg base N qual sc f cdv A outer s H E).xe (.ref a) { s1 with heap:=h'} :=by
 obtain⟨t,ha,ht,_⟩:=m.there
 have fr:=I.ok.frames
 have st:s1.heap.FunFrames base (PyProof.Rows.envOfC qual sc s.heap.objs.size f cdv::outer):=I.stack
 have an:=m.new
 have sz:s.heap.objs.size<=s1.heap.objs.size:=I.sz
 have aH:H1 a=none:=by
  cases q:H1 a with
  | none=>rfl
  | some o=>
   obtain⟨u,hu⟩:=(I.hok a o q).is
   rw[an] at hu
   cases hu
 have hs:s.heap.objs.size<h'.objs.size:=by
  obtain⟨mm,⟨o,es,ep,hL,_⟩,_⟩:=I.loc
  exact ak (m.keeps _ _ hL)
 refine jIU (s:= { s1 with heap:=h'}) (base:=base) fr (st.of_keeps fun b o hb _=>⟨o,m.keeps b o hb,rfl⟩) rfl ha fun h2 T n e z=>?_
 have z:h'.objs.size<=T:=z
 have un:Un (frs outer) [] H H1 s.heap s1.heap:=I.base
 have nl:∀ b o,s.heap.get? b=some o->b∉frs outer->b∉frs (PyProof.Rows.envOfC qual sc s.heap.objs.size f cdv::outer):=fun b o hb n1 hm=>by
  rcases aq.mp (show b∈s.heap.objs.size::frs outer from hm) with q | q
  ·exact absurd (ak hb) (by rw[q]; exact bO _)
  ·exact n1 q
 have na:∀ b o,s.heap.get? b=some o->b∉ [a]:=fun b o hb hm=>by
  obtain⟨o',q⟩:=un.there b o hb (by simp)
  rw[bD.mp hm,an] at q
  cases q
 refine⟨a,T,H1,rfl,I.os,I.bare,⟨fun b o hb n1 n2 n3=>?_,fun b o hb n1 n2 n3=>?_,un.free,fun b o hb n3=>?_,un.tups,un.frzs,un.tbls⟩,?_,?_,by omega,aH,(I.hok.kept m.keeps).fresh z,e,w1 a⟩
 ·exact n.keep b o (m.keeps _ _ (un.keep b o hb n1 n2 n3)) (nl b o hb n2) (na b o hb)
 ·obtain⟨sl,q⟩:=un.slot b o hb n1 n2 n3
  obtain⟨sl2,q2⟩:=n.slot b _ (m.keeps _ _ q) (na b o hb)
  exact⟨sl2,q2⟩
 ·obtain⟨o',q⟩:=un.there b o hb n3
  obtain⟨sl2,q2⟩:=n.slot b _ (m.keeps _ _ q) (na b o hb)
  exact⟨_,q2⟩
 ·refine(I.hok.kept m.keeps).note n (fun b hb=>I.stkFree b hb) fun b hb=>?_
  rw[bD.mp hb]
  exact aH
 ·cases q:s.heap.get? a with
  | none=>rfl
  | some o=>exact absurd (bD.mpr rfl) (na a o q)
end L2
namespace L2
open PySem PySem.Spec PyProof.Rows
section
variable {M:Model}{A:Around}{E:Value->Shared->Prop}{h:Heap}{g:Array GenState}{d:Drawn}{tk:Nat}{os:OsState}
theorem jKP {nm q nm' q':Str}{C N B N' x:Addr}{bs bm bs' bm':List Value}{hdct hdct':Bool}{sn sn':List Str}{sub sub':List Value}{ab ab':Bool}{col col':Option Bool}{dd dd':Option Addr}{k0 k1 k2 k3 k5 j0 j1 j2 j3 j5:Option Value}{ni ni':String}{ox:Obj}{Q:Bool->Shared->Prop}
  (hC:h.get? C=some (excClassObj nm q C N bs bm hdct sn sub ab col dd k0 k1 k2 k3 k5 ni)) (hB:h.get? B=some (excClassObj nm' q' B N' bs' bm' hdct' sn' sub' ab' col' dd' j0 j1 j2 j3 j5 ni')) (hx:h.get? x=some ox) (hc:ox.cls= .ref C)
  (hb:bm'.contains (.type "BaseException")=true) (hin:bm.contains (.ref B)=true) (z:Q true ⟨h,g,d,tk,os⟩):wpAny M A (excMatches (.ref x) (.ref B)) Q E ⟨h,g,d,tk,os⟩:=by
 have b1:(Value.ref B::bm').contains (.type "BaseException")=true:=by rw[gI,hb,gP]
 have b2:(Value.ref C::bm).contains (.ref B)=true:=by rw[gI,hin,gP]
 have f0:=tc_notTuple
 unfold excMatches
 repeat (first | (with_reducible refine wpAny_loadPart_at hx ?_; rw[hc]) | with_reducible refine wpAny_loadPart_at hB ?_ | (with_reducible refine wpAny_isSubtype_exc hB ?_; rw[b1]) | (with_reducible refine wpAny_isSubtype_exc hC ?_; rw[b2]) | wp_step)
 exact z
end
end L2
namespace L2
open PySem PySem.Spec PyProof.Rows
structure ExcIs (K:W.Frag)(C:Addr):Prop where
 ga:findIn K (.ref C) "__getattribute__" =some (some (.builtin "BaseException.__getattribute__"))
 gr:findIn K (.ref C) "__getattr__" =some none
 hc:(clsIn K C).isSome=true
 ha:findIn K (.ref C) "__class__" =some (some (.builtin "object.__class__"))
 hn:specialIn K (.builtin "object.__class__") "__get__" =some (some (.builtin "getset_descriptor.__get__"))
 tk:takesIn K (.builtin "object.__class__")=some true
 hm:mroIn K C (.type "object")=some true
 hb:mroIn K C (.type "BaseException")=some true
def excP (x C:Addr):Heap->Prop:=fun h=>∃ vs,h.get? x=some { cls:= .ref C,data:= .fields vs} /\vs[2]?=some .none
theorem excP.inst {x C:Addr}{h:Heap}(p:excP x C h):∃ ox,PySem.W.InstAt h x ox C none:=by
 obtain⟨vs,e,_⟩:=p
 exact⟨_,e,rfl,rfl,True.intro⟩
theorem jJJ {K:W.Frag}{x C:Addr}{ox:Obj}{prog:Program}{w:World}{A:Around}{E:Value->Shared->Prop}{Q:Option Value->Shared->Prop}{s:Shared}(c:ExcIs K C)(X:K.In s.heap)(I:PySem.W.InstAt s.heap x ox C none)(k:Q (some (.ref C)) { s with toks:=s.toks+1}):wpAny (model prog w) A (getAttr? (.ref x) "__class__") Q E s:=by
 have hf:findObj K C none "__class__" =some (.bind (.builtin "getset_descriptor.__get__") (.builtin "object.__class__")):=by
  obtain⟨cd,hcd⟩:=cf.mp c.hc
  unfold findObj
  rw[hcd,bind_some,c.ha,bind_some]
  simp [c.hn,c.tk]
 obtain⟨hh,g,d,t,os⟩:=s
 have L0:=I.type (M:=model prog w)
 have L1:=gk (M:=model prog w) X c.ga
 have L2:=gk (M:=model prog w) X c.gr
 have L3:=PySem.W.looks_find (M:=model prog w) X I hf
 have L4:PySem.W.Looks (model prog w) hh (isInstance (.ref x) (.type "BaseException")) true:=L0.andThen (PySem.W.looks_mroIn (M:=model prog w) X c.hb)
 have e1:(onTheHeap (.ref C)&&(Value.builtin "BaseException.__getattribute__" == .builtin "object.__getattribute__"))=false:=by
  have z:(Value.builtin "BaseException.__getattribute__" == .builtin "object.__getattribute__")=false:=by decide+kernel
  rw[z,bQ]
 unfold getAttr? getAttrBy? getAttrBy
 refine ac (wpAny_mkText (ac (cB (aL (ac (L0.at (ac (L1.at ?_))))))))
 dsimp only
 rw[e1,az (by decide)]
 unfold getAttrByItsOwn hookBefore
 rw[aA (by rfl)]
 refine ac (L2.at (ac (cB (aL ?_))))
 unfold callGetattribute boundAndCalled
 rw[az (by decide),fJ.ga.bind]
 refine ac (ag (dn (codeAny_call_builtin fJ.ga.plain PySem.F.entry_bexc_ga ?_)))
 have hk:builtinKind "BaseException.__getattribute__" =some .slot/\splitId "BaseException.__getattribute__" =some ("BaseException","__getattribute__"):=by decide+kernel
 have ha:=PySem.F.args_bexc_ga (.ref x) (.str "__class__" t)
 simp only [checkBuiltinCall,hk.1,hk.2]
 refine ac (L4.at ?_)
 rw[az (by decide)]
 refine eV (a:=()) ha (ac (ag (ac (ag (ac (L0.at (ac (L3.at ?_))))))))
 refine(show wpAny _ _ (holding [.builtin "object.__class__"] (call (.builtin "getset_descriptor.__get__") [.builtin "object.__class__", .ref x, .ref C]) >>= ret) _ _ _ from ac (aL (dn ?_)))
 exact PySem.W.class_get (s:=⟨hh,g,d,t+1,os⟩) (ox:=ox) (od:=none) X I c.hm (ag (PySem.W.handed_on rfl (ag k)))
theorem jKQ {K:W.Frag}{x C:Addr}(c:ExcIs K C):PySem.W.KitX K (.ref x) (.ref C) (excP x C) where
 ty:=fun _ _ _ p=>by
  obtain⟨ox,I⟩:=p.inst
  exact I.type
 it:=fun _ _ X _=>by
  obtain⟨cd,hcd⟩:=cf.mp c.hc
  unfold clsIn at hcd
  split at hcd
  ·rename_i c' d' cd' sl' ho
   intro A' Q' E' s' k q
   unfold isType loadHead
   exact ac (wpAny_loadPart (k _ _ (X _ _ ho)) (ag q))
  ·cases hcd
 ne:=fun h tp dd its n sl X htp=>by
  obtain⟨cd,hcd⟩:=cf.mp c.hc
  refine eX.mpr fun q=>?_
  have e:C=tp:=Value.ref.inj (beq_iff_eq.mp q)
  subst e
  unfold clsIn at hcd
  split at hcd
  ·rename_i c' d' cd' sl' ho
   have z:=(X _ _ ho).symm.trans htp
   cases z
  ·cases hcd
 ca:=fun {prog w A E Q s} X p k=>by
  obtain⟨ox,I⟩:=p.inst
  exact jJJ c X I k
theorem jU {X:Cx}{C:Addr}(ci:ExcIs X.K C):yD X (.builtin "isinstance") (fun xs H Q=>∃ x c u b,xs=[.ref x,c]/\H x=some (.ext (excP x C))/\(∀ v,RelV c v->v=u)/\kitOne X.K (.ref C) u=some b/\Q (.bl b) H):=by
 intro pins s σ H xs us Q I r h
 obtain⟨x,c,u,b,rfl,hx,hu,e,q⟩:=h
 obtain⟨v,y,rfl,rv,ry⟩:=r.two
 cases (show v=Value.ref x from rv)
 cases hu y ry
 obtain⟨p,_,_⟩:=(show ObjOk X.prog X.w H s.heap x (.ext (excP x C)) from I.hok x _ hx)
 exact bg (jKQ ci) I.kIn p e (fun z=>nomatch z) fun tk=>⟨.bl b,H,I.tok tk,rfl,q⟩
end L2
namespace L2
open PySem PySem.Spec PyProof.Rows
section
variable {X:Cx}{pins:List (Addr×Obj)}{σ:List (Option V)}{H H':Hp}{s:Shared}{h':Heap}
theorem Inv.stepX {g':Array GenState}{t':Nat}{d':Drawn}{ch:List Addr}(I:Inv X pins σ H s)
  (hch:∀ b∈ch,X.s₀.heap.get? b=none/\b≠X.env.locals/\(∀ x c,X.env.cells.lookup x=some c->c≠b)/\∀ p∈X.pn++pins,p.1≠b)
  (keep:∀ b o,b≠X.env.locals->b∉X.fs->b∉ch->s.heap.get? b=some o->H b=none->h'.get? b=some o)
  (slot:∀ b o,b≠X.env.locals->b∈X.fs->b∉ch->s.heap.get? b=some o->H b=none->∃ sl,h'.get? b=some { o with slots:=sl}) (free:∀ b o,b∉ch->s.heap.get? b=some o->H b=none->H' b=none)
  (there:∀ b o,b∉ch->s.heap.get? b=some o->∃ o',h'.get? b=some o')
  (tups:∀ b xs,H b=some (.tup xs)->H' b=some (.tup xs)) (frzs:∀ b o u,H b=some (.frz o u)->H' b=some (.frz o u)) (tbls:∀ b ps,H b=some (.tbl ps)->∃ more,H' b=some (.tbl (ps++more)))
  (ns:∀ m,s.heap.Ns X.env.locals m->h'.Ns X.env.locals m) (hok:HOk X.prog X.w H' h') (hg:AllBare g'):
  Inv X pins σ H' { s with heap:=h',gens:=g',drawn:=d',toks:=t'} :=by
 have neL:∀ b o,X.s₀.heap.get? b=some o->b≠X.env.locals:=fun b o e=>ao (av (ak e) I.ok.above)
 have neC:∀ b o,X.s₀.heap.get? b=some o->b∉X.ex->b∉ch:=fun b o e hx hb=>by
  have z:=(hch b hb).1
  rw[e] at z
  cases z
 have cellK:∀ x c,X.env.cells.lookup x=some c->∀ v,s.heap.IsCell c v->h'.IsCell c v:=fun x c e v ⟨o,ho,hd⟩=>by
  have nch:c∉ch:=fun z=>(hch c z).2.2.1 x c e rfl
  by_cases hc:c∈X.fs
  ·obtain⟨sl,q⟩:=slot c o (I.cne x c e) hc nch ho (I.freeC x c e)
   exact⟨_,q,hd⟩
  ·exact⟨o,keep c o (I.cne x c e) hc nch ho (I.freeC x c e),hd⟩
 refine⟨I.ok,I.os,hg,⟨fun b o e n hb hx=>?_,fun b o e n hb hx=>?_,fun b o e n hx=>?_,fun b o e hx=>?_,fun b xs e=>tups b xs (I.base.tups b xs e),fun b o xs e=>frzs b o xs (I.base.frzs b o xs e),fun b ps e=>?_⟩,?_,fun x c e=>?_,?_,fun x c e=>?_,fun p hp=>?_,hok,I.len⟩
 ·exact keep b o (neL b o e) hb (neC b o e hx) (I.base.keep b o e n hb hx) (I.base.free b o e n hx)
 ·obtain⟨sl,e1⟩:=I.base.slot b o e n hb hx
  obtain⟨sl',e2⟩:=slot b _ (neL b o e) hb (neC b o e hx) e1 (I.base.free b o e n hx)
  exact⟨sl',e2⟩
 ·obtain⟨o',e1⟩:=I.base.there b o e hx
  exact free b o' (neC b o e hx) e1 (I.base.free b o e n hx)
 ·obtain⟨o',e1⟩:=I.base.there b o e hx
  exact there b o' (neC b o e hx) e1
 ·obtain⟨m1,e1⟩:=I.base.tbls b ps e
  obtain⟨m2,e2⟩:=tbls b _ e1
  exact⟨m1++m2,by rw[e2,gC]⟩
 ·obtain⟨m,hn,hl⟩:=I.loc
  refine⟨m,ns m hn,fun i x v e1 e2 e3=>?_⟩
  obtain⟨u,r,l⟩:=hl i x v e1 e2 e3
  refine⟨u,r,?_⟩
  rcases l with l | ⟨k,c,e,z⟩
  ·exact .inl l
  ·exact .inr ⟨k,c,e,cellK x c e _ z⟩
 ·obtain⟨v,z⟩:=I.cell x c e
  exact⟨v,cellK x c e v z⟩
 ·obtain⟨m,⟨o,_,_,ho,_⟩,_⟩:=I.loc
  exact free _ o (fun z=>(hch _ z).2.1 rfl) ho I.free
 ·obtain⟨v,o,ho,hd⟩:=I.cell x c e
  exact free c o (fun z=>(hch c z).2.2.1 x c e rfl) ho (I.freeC x c e)
 ·obtain⟨e,n,ne,nf,d⟩:=I.pin p hp
  have nch:p.1∉ch:=fun z=>(hch p.1 z).2.2.2 p hp rfl
  exact⟨keep p.1 p.2 ne nf nch e n,free p.1 p.2 nch e n,ne,nf,d⟩
theorem Inv.callX {g':Array GenState}{t':Nat}{d':Drawn}{ch:List Addr}(I:Inv X pins σ H s)(u:Un (frs X.stack) ch H H' s.heap h')(hok:HOk X.prog X.w H' h')(hg:AllBare g')
  (hch:∀ b∈ch,X.s₀.heap.get? b=none/\b≠X.env.locals/\(∀ x c,X.env.cells.lookup x=some c->c≠b)/\∀ p∈X.pn++pins,p.1≠b):
  Inv X pins σ H' { s with heap:=h',gens:=g',drawn:=d',toks:=t'} :=by
 obtain⟨m,⟨o,es,ep,ho,r⟩,_⟩:=id I.loc
 obtain⟨sl,hL⟩:=u.any ho I.free fun z=>(hch _ z).2.1 rfl
 exact I.stepX (ch:=ch) hch (fun b o hL hb hc e n=>u.keep b o e n (fun z=>(aq.mp (I.stkSub b z)).elim hL hb) hc) (fun b o _ _ hc e n=>u.any e n hc) (fun b o hc e n=>u.free b o e n hc) (fun b o hc e=>u.there b o e hc) u.tups u.frzs u.tbls (fun m' hm=>by
  obtain⟨o',es',ep',ho',r'⟩:=hm
  rw[ho] at ho'; cases ho'
  exact⟨_,es',ep',hL,r'⟩) hok hg
end
end L2
namespace L2
open PySem PySem.Spec PyProof.Rows
theorem excP.of {h:Heap}{x C T:Addr}(e:ExcX h x C T):excP x C h:=by
 obtain⟨vs,_,_,h1,_,_,h2,_⟩:=e
 exact⟨vs,h1,h2⟩
theorem excP.stay {x C:Addr}(h1 h2:Heap)(p:excP x C h1)(k:∀ o,h1.get? x=some o->h2.get? x=some o):excP x C h2:=by
 obtain⟨vs,e,c⟩:=p
 exact⟨vs,k _ e,c⟩
section
variable {X:Cx}{pins:List (Addr×Obj)}{σ:St}{H H':Hp}{s:Shared}{h2:Heap}{x C T T':Addr}
theorem Inv.apart (I:Inv X pins σ H s)(hex:X.ex=[]){b:Addr}(hb:s.heap.get? b=none):X.s₀.heap.get? b=none/\b≠X.env.locals/\(∀ y c,X.env.cells.lookup y=some c->c≠b)/\∀ p∈X.pn++pins,p.1≠b:=by
 refine⟨?_,fun z=>?_,fun y c e z=>?_,fun p hp z=>?_⟩
 ·cases q:X.s₀.heap.get? b with
  | none=>rfl
  | some o=>
   obtain⟨o',e⟩:=I.base.there b o q (by rw[hex]; simp)
   rw[hb] at e
   cases e
 ·obtain⟨m,⟨o,es,ep,hL,_⟩,_⟩:=I.loc
  rw[<- z,hb] at hL
  cases hL
 ·obtain⟨v,o,ho,_⟩:=I.cell y c e
  rw[z,hb] at ho
  cases ho
 ·have:=(I.pin p hp).1
  rw[z,hb] at this
  cases this
theorem Inv.held (I:Inv X pins σ H' s)(n:NoteX (frs X.stack) [x,T] s.heap h2)(e:ExcX h2 x C T')(hx:H' x=none)(hT:H' T=none)
  (ax:X.s₀.heap.get? x=none/\x≠X.env.locals/\(∀ y c,X.env.cells.lookup y=some c->c≠x)/\∀ p∈X.pn++pins,p.1≠x)
  (aT:X.s₀.heap.get? T=none/\T≠X.env.locals/\(∀ y c,X.env.cells.lookup y=some c->c≠T)/\∀ p∈X.pn++pins,p.1≠T):
  Inv X pins σ (upd H' x (.ext (excP x C))) { s with heap:=h2} :=by
 have nx:∀ {b:Addr}{o:HO},H' b=some o->b≠x:=fun {b o} q z=>by
  rw[z,hx] at q
  cases q
 refine I.callX (g':=s.gens) (d':=s.drawn) (t':=s.toks) (ch:=[x,T]) ⟨fun b o q z n1 n2=>n.keep b o q n1 n2,fun b o q z n1 n2=>n.slot b o q n2,fun b o q z n2=>?_,fun b o q n2=>?_,fun b xs q=>by rw[jA (nx q)]; exact q,fun b o u q=>by rw[jA (nx q)]; exact q,fun b ps q=>⟨#[],by rw[jA (nx q),q]; simp⟩⟩ (fun a o q=>?_) I.bare (fun b hb=>?_)
 ·rw[jA (fun z=>n2 (by rw[z]; simp))]
  exact z
 ·obtain⟨sl,w⟩:=n.slot b o q n2
  exact⟨_,w⟩
 ·by_cases ha:a=x
  ·subst ha
   rw[j7] at q
   cases q
   obtain⟨vs,_,_,w,_⟩:=id e
   exact⟨.of e,⟨_,w⟩,excP.stay⟩
  ·rw[jA ha] at q
   have hk:=I.hok.note n I.stkFree fun b hb=>by
    rcases aq.mp hb with z | z
    ·rw[z]; exact hx
    ·rw[bD.mp z]; exact hT
   exact(hk a o q).stay (fun _ _ _ w=>w) (fun b w=>by rw[jA (nx w)]; exact w) fun b xs w=>by rw[jA (nx w)]; exact w
 ·rcases aq.mp hb with z | z
  ·rw[z]; exact ax
  ·rw[bD.mp z]; exact aT
end
def jAK (X:Cx)(x:Addr):Cx:= { X with A:=X.A.mark (some (.ref x)),calm:=false,xe:=fun _ _=>False}
section
variable {X:Cx}{pins:List (Addr×Obj)}{σ:St}{H:Hp}{s:Shared}{x:Addr}
theorem Cx.Ok.suite (ok:X.Ok)(x:Addr):(jAK X x).Ok:=
 ⟨ok.mod,ok.kind,ok.glob,ok.blt,ok.above,ok.inj,ok.has,ok.cab,fun z=>(nomatch z),ok.frames,ok.stk,ok.exf,ok.bs,ok.bsz,ok.noex,ok.exfs,ok.funs,ok.frf⟩
theorem Inv.suite (I:Inv X pins σ H s)(x:Addr):Inv (jAK X x) pins σ H s:=⟨I.ok.suite x,I.os,I.bare,I.base,I.loc,I.cell,I.free,I.freeC,I.pin,I.hok,I.len⟩
theorem Inv.unsuite (ok:X.Ok)(I:Inv (jAK X x) pins σ H s):Inv X pins σ H s:=⟨ok,I.os,I.bare,I.base,I.loc,I.cell,I.free,I.freeC,I.pin,I.hok,I.len⟩
end
section
variable {M:Model}{A:Around}{E:Value->Shared->Prop}{s:Shared}{x C T:Addr}{Q:Unit->Shared->Prop}
theorem jFM (e:ExcX s.heap x C T)(h:∀ h',(∀ b o,s.heap.get? b=some o->h'.get? b=some o)->Q () { s with heap:=h'}):wpAny M A (setFlight (.ref x) none) Q E s:=by
 obtain⟨vs,oT,ts,hx,v6,v1,v2,nTx,hT,hd,t3⟩:=e
 have t3s:3<ts.size:=(cH.mp t3).1
 unfold setFlight
 refine ac (aN (x:= .ref T) hx rfl v1 ?_)
 rw[aA (show (Value.ref T != Value.none)=true by rfl)]
 refine cJ hT hd t3s (h _ fun b o hb=>?_)
 by_cases hbT:b=T
 ·subst hbT
  rw[hT] at hb
  cases hb
  obtain⟨c,d,dt,sl⟩:=oT
  simp only at hd
  subst hd
  refine(aZ (Obj.mapFields (·.setIfInBounds 3 Value.none)) hT rfl).trans ?_
  have e3:ts.setIfInBounds 3 Value.none=ts:=by
   apply Array.ext_getElem?
   intro i
   by_cases hi:i=3
   ·subst hi
    rw[t3]
    simp [t3s]
   ·rw[dh (bN hi)]
  show some ({ cls:=c,dict:=d,data:= .fields (ts.setIfInBounds 3 Value.none),slots:=sl} :Obj)=_
  rw[e3]
 ·exact(aX _ _ (bN hbT)).trans hb
end
def Above (K:W.Frag)(C B:Addr):Prop:=∃ (nm q nm' q':Str) (N N':Addr) (bs bm bs' bm':List Value) (hdct hdct':Bool) (sn sn':List Str) (sub sub':List Value) (ab ab':Bool) (col col':Option Bool) (dd dd':Option Addr) (k0 k1 k2 k3 k5 j0 j1 j2 j3 j5:Option Value) (ni ni':String),
 bm'.contains (.type "BaseException")=true/\bm.contains (.ref B)=true/\∀ h:Heap,K.In h->h.get? C=some (excClassObj nm q C N bs bm hdct sn sub ab col dd k0 k1 k2 k3 k5 ni)/\h.get? B=some (excClassObj nm' q' B N' bs' bm' hdct' sn' sub' ab' col' dd' j0 j1 j2 j3 j5 ni')
section
variable {X:Cx}{y n g c:Str}{i j k:Nat}{f B C:Addr}{fd:FuncData}{ps:List Str}{sp:Sp}{e r:Expr}{es:List Expr}{t:TA}{te:Addr->TE}{yp gp cp ap np rp hp tp:Pos}
end
theorem Hnd.kept {h h':Heap}{x:Addr}(n:Hnd h x)(k:∀ b o,h.get? b=some o->h'.get? b=some o):Hnd h' x:=by
 obtain⟨o,vs,e,d,z⟩:=n
 exact⟨o,vs,k _ _ e,d,z⟩
theorem excP.hnd {h:Heap}{x C:Addr}(p:excP x C h):Hnd h x:=by
 obtain⟨vs,e,z⟩:=p
 exact⟨_,vs,e,rfl,z⟩
section
variable {prog:Program}{w:World}{A:Around}{E:Value->Shared->Prop}{s:Shared}
theorem jEB {it x:Addr}{lo left step:Int}{Q:Option Value->Shared->Prop}(hh:A.handled=some (.ref x))(hx:Hnd s.heap x)(hit:IsRangeIter s.heap it lo left step)(hl:left<=0)
  (hQ:∀ h',(∀ b o,s.heap.get? b=some o->h'.get? b=some o)->Q none { s with heap:=h'}):wpAny (model prog w) A (pyNext (.ref it)) Q E s:=by
 have ty:s.TypeIs (.ref it) "range_iterator" :=⟨_,hit,rfl⟩
 unfold pyNext
 refine ac (cB (aQ (name:=Str.ofString "__next__") ty F.slot_range_iterator_next (aR F.slot_range_iterator_next ty F.entry_range_iterator_next ?_ (F.args_range_iterator_next_1 _))))
 refine(show wpAny _ _ (field (.ref it) 0 >>= _) _ _ s from ac (aN hit rfl (x:=rawInt lo) rfl ?_))
 refine(show wpAny _ _ (field (.ref it) 1 >>= _) _ _ s from ac (aN hit rfl (x:=rawInt left) rfl ?_))
 refine(show wpAny _ _ (field (.ref it) 2 >>= _) _ _ s from ac (aN hit rfl (x:=rawInt step) rfl ?_))
 refine(show wpAny _ _ (if left<=0 then _ else _) _ _ s from ?_)
 rw[aA hl]
 refine ac (cI (ac ?_))
 refine(show wpAny _ _ (newExc (.type "StopIteration") [] >>= _) _ _ _ from ac ?_)
 simp only [newExc,newTuple]
 refine ac (ay (ac (m:=firstArgMember _ _) (eV (a:=Value.none) (by first | rfl | (simp only [firstArgMember]; rfl)) (ay ?_ (by size_fits)))) (by size_fits))
 have xl:x<s.heap.objs.size:=by
  obtain⟨o,_,e,_⟩:=hx
  exact ak e
 refine jFD hh (ao (av xl ?_)) (hx.kept fun b o e=>af _ (af _ e)) (aj _ rfl) rfl (by simp only [Array.size_append,ah,bd,gb]; omega) ?_
 ·exact bM (by rw[bv]; exact fz _)
 ·refine ac (cL (T:= "StopIteration") (b:=true) ⟨_,aZ _ (aj _ rfl) rfl,rfl⟩ gi (ag (hQ _ fun b o e=>?_)))
  rw[aX _ _ (bN (ao (av (ak e) (bM (by rw[bv]; exact fz _)))))]
  exact af _ (af _ e)
end
def ItrS (x:Addr)(lo:Int)(n:Nat):It:=⟨fun i _=>i<n,fun i H y H'=>H'=H/\y= .int (lo+i),fun i H=>n<=i/\∃ C,H x=some (.ext (excP x C))⟩
def iRngS (x:Addr)(ta:TA):TI:=fun σ H R=>ta σ H fun vs H1=>∃ j:Int,vs=[.int j]/\ -(2 ^ 62)<=j/\j<2 ^ 62/\R (ItrS x 0 j.toNat) H1
structure TurnS (x:Addr)(P:Program)(w:World)(K:W.Frag)(tg:Expr)(J:It)(fp:List Addr)(it:Addr)(tn:Nat->Heap->Prop):Prop where
 mem:it∈fp
 obj:∀ i h,tn i h->∀ b∈fp,∃ o,h.get? b=some o/\∀ v,o.data≠ .cell v
 keep:∀ i h h',tn i h->(∀ b∈fp,∀ o,h.get? b=some o->h'.get? b=some o)->tn i h'
 item:∀ (X:Cx),X.prog=P->X.w=w->X.K=K->X.A.handled=some (.ref x)->∀ (i:Nat) (pins:List (Addr×Obj)) (s:Shared) (σ:St) (H:Hp) (E:Value->Shared->Prop),Inv X pins σ H s->(∀ b∈fp,FpOk X pins H b)->tn i s.heap->J.go i H->
  wpAny (model P w) X.A (pyNext (.ref it)) (fun r s1=>∃ u,r=some u/\
   wpAny (model P w) X.A (letOwnedTupleGo tg (.ref it) u) (fun _ s2=>∃ x H',Inv X pins σ H' s2/\RelV x u/\J.yld i H x H'/\tn (i+1) s2.heap/\∀ b∈fp,H' b=none) E s1) E s
 done:∀ (X:Cx),X.prog=P->X.w=w->X.K=K->X.A.handled=some (.ref x)->∀ (i:Nat) (pins:List (Addr×Obj)) (s:Shared) (σ:St) (H:Hp) (E:Value->Shared->Prop),Inv X pins σ H s->(∀ b∈fp,FpOk X pins H b)->tn i s.heap->J.stop i H->
  wpAny (model P w) X.A (pyNext (.ref it)) (fun r s1=>r=none/\Inv X pins σ H s1) E s
 self:∀ (A:Around) (i:Nat) (s:Shared) (Q:Value->Shared->Prop) (E:Value->Shared->Prop),tn i s.heap->Q (.ref it) s->wpAny (model P w) A (pyIter (.ref it)) Q E s
def PISE (x:Addr)(X:Cx)(pins:List (Addr×Obj))(σ:St)(tg:Expr)(R:It->Hp->Prop)(itv:Value)(s2:Shared):Prop:=
 ∃ (it:Addr) (fp:List Addr) (tn:Nat->Heap->Prop) (J:It) (H':Hp),itv= .ref it/\Inv X pins σ H' s2/\TurnS x X.prog X.w X.K tg J fp it tn/\tn 0 s2.heap/\(∀ b∈fp,FpOk X pins H' b)/\R J H'
def PIS (x:Addr)(X:Cx)(tg iter:Expr)(wi:TI):Prop:=
 ∀ (pins:List (Addr×Obj)) (s:Shared) (σ:St) (H:Hp) (R:It->Hp->Prop),Inv X pins σ H s->wi σ H R->
  wpAny (model X.prog X.w) X.A (eval iter X.env) (fun v s1=>wpAny (model X.prog X.w) X.A (pyIter v) (PISE x X pins σ tg R) X.xe s1) X.xe s
theorem jFB {x:Addr}{P:Program}{w:World}{K:W.Frag}{tg:Expr}(it:Addr)(lo:Int)(n:Nat):TurnS x P w K tg (ItrS x lo n) [it] it (fun i h=>IsRangeIter h it (lo+(i:Nat)*1) ((n:Int) - (i:Nat)) 1) where
 mem:=by simp
 obj:=fun i h st b hb=>by
  have e:b=it:=by simpa using hb
  subst e
  exact⟨_,st,fun v z=>by
   have z':Data.fields _=Data.cell v:=z
   cases z'⟩
 keep:=fun i h h' st k=>k it (by simp) _ st
 item:=by
  intro X hP hw hK hc i pins s σ H E I hf st hg
  subst hP hw hK
  obtain⟨f0,f1,f2,f3,f4,f5⟩:=hf it (by simp)
  refine wpAny_pyNext_range_item st (by have:i<n:=hg; omega) fun h' st' sb=>?_
  replace st':IsRangeIter h' it (lo+((i+1:Nat):Int)*1) ((n:Int) - ((i+1:Nat):Int)) 1:=by
   have e1:lo+((i+1:Nat):Int)*1=lo+(i:Int)*1+1:=by omega
   have e2:(n:Int) - ((i+1:Nat):Int)=(n:Int) - (i:Int) - 1:=by omega
   rw[e1,e2]
   exact st'
  have kk:∀ b o,b≠it->s.heap.get? b=some o->h'.get? b=some o:=fun b o hb e=>sb.extBut b o hb e
  have I1:Inv X pins σ H { s with heap:=h',toks:=s.toks+1} :=I.turned kk f0 f1 f3 f4 f5
  refine⟨_,rfl,go_of (s:= { s with heap:=h',toks:=s.toks+1}) (n:= "range_iterator") st' rfl rfl (by decide) ⟨.int (lo+i),H,I1,⟨s.toks,?_⟩,⟨rfl,rfl⟩,st',fun b hb=>(hf b hb).1⟩⟩
  rw[gU]
 done:=by
  intro X hP hw hK hc i pins s σ H E I hf st hg
  subst hP hw hK
  obtain⟨f0,f1,f2,f3,f4,f5⟩:=hf it (by simp)
  obtain⟨hg,C,hC⟩:=hg
  obtain⟨p,_,_⟩:=(show ObjOk X.prog X.w H s.heap x (.ext (excP x C)) from I.hok x _ hC)
  exact jEB hc p.hnd st (by omega) fun h' eb=>⟨rfl,I.kept (t':=s.toks) eb⟩
 self:=fun _ _ _ _ _ st h=>wpAny_pyIter_rangeiter st h
section
variable {X:Cx}{tg:Expr}
theorem jHY {x:Addr}{pins:List (Addr×Obj)}{σ:St}{H:Hp}{s:Shared}{R:It->Hp->Prop}{E:Value->Shared->Prop}{lo hi:Int}{t u v:Tok}{tk:Nat}(I:Inv X pins σ H s)(h1: -(2 ^ 62)<=lo)(h2:lo<2 ^ 62)(h3: -(2 ^ 62)<=hi)(h4:hi<2 ^ 62)
  (q:R (ItrS x lo (hi - lo).toNat) H):wpAny (model X.prog X.w) X.A (pyIter (.ref s.heap.objs.size)) (PISE x X pins σ tg R) E { s with heap:=s.heap.push { cls:= .type "range",data:= .fields #[.int lo t, .int hi u, .int 1 v]},toks:=tk} :=by
 refine wpAny_pyIter_range (IsRange.new ..) (small_one h1 h2 h3 h4) ?_
 have I1:Inv X pins σ H { s with heap:=s.heap.push { cls:= .type "range",data:= .fields #[.int lo t, .int hi u, .int 1 v]},toks:=tk} :=I.kept fun b o e=>af _ e
 refine⟨(s.heap.push { cls:= .type "range",data:= .fields #[.int lo t, .int hi u, .int 1 v]}).objs.size,[(s.heap.push { cls:= .type "range",data:= .fields #[.int lo t, .int hi u, .int 1 v]}).objs.size],_,_,H,rfl,
  I1.kept (t':=tk) fun b o e=>af _ e,jFB _ lo (hi - lo).toNat,?_,fun b hb=>?_,q⟩
 ·have e1:lo+((0:Nat):Int)*1=lo:=by simp
  have e2:(((hi - lo).toNat:Nat):Int) - ((0:Nat):Int)=Builtin.Range.rangeSize lo hi 1:=by rw[fb]; split <;> omega
  show IsRangeIter _ _ (lo+((0:Nat):Int)*1) ((((hi - lo).toNat:Nat):Int) - ((0:Nat):Int)) 1
  rw[e1,e2]
  exact aj _ rfl
 ·have e:b=(s.heap.push { cls:= .type "range",data:= .fields #[.int lo t, .int hi u, .int 1 v]}).objs.size:=by simpa using hb
  subst e
  exact I1.fpOk (ai _) (I1.hok.fresh (ai _))
theorem jH2 {x:Addr}{a:Expr}{ta:TA}{p pos:Pos}(hg:Gl X "range")(hm:X.mg "range" =none)(ha:PA X [a] ta)(hs:starEach [a] X.env=[(false,eval a X.env)]:=by rfl):PIS x X tg (.Call (.Name "range" p) [a] [] pos) (iRngS x ta):=by
 intro pins s σ H R I h
 refine Call_ (jCR I hg hm boot_range (bq (thn (ha pos pins s σ H _ I h) fun us s1 ⟨vs,H1,I1,r1,q1⟩=>?_) hs rfl))
 obtain⟨j,e,q1,q2,q⟩:=q1
 subst e
 cases r1 with
 | cons r rr=>
  cases rr
  obtain⟨t,rfl⟩:=r
  exact call_range_1 (jHY I1 (by omega) (by omega) q1 q2 (by simpa using q))
end
section
variable {X:Cx}{tg iter elt:Expr}{ifs:List Expr}{sc:Scope}{pos:Pos}{wi:TI}{g:TG}{tt:TT}{te:TE}{m:List (Option Nat)}{Nc:List Str}
theorem jKF {x:Addr}(hc:X.A.handled=some (.ref x))(hi:PIS x X tg iter wi)(hkind:sc.kind= .function)(hcell:∀ y∈sc.names,y.2≠ .cell)(hnames:∀ y∈sc.names,y.2= .local->sc.names.lookup y.1=some .local)
  (hfree:∀ y∈sc.names,y.2= .free->X.env.scope.names.lookup y.1=some .cell\/X.env.scope.names.lookup y.1=some .free) (hm:jBL X sc Nc m)
  (hg:∀ cl C fp s H,PG (blk X sc cl C Nc fp s H) tg g) (ht:∀ cl C fp s H,PTs (blk X sc cl C Nc fp s H) ifs tt) (he:∀ cl C fp s H,PE (blk X sc cl C Nc fp s H) elt te)
  (hs:∀ x,foldedSetIterable iter X.env x=pure x:=by intro _; rfl):PE X (.ListComp elt [⟨tg,iter,ifs,0⟩] sc pos) (tComp m wi g tt te):=by
 intro pins s σ H Q I h
 rw[eval_ListComp]
 have hcl:∀ y∈sc.names,y.2= .free->∃ c,X.env.cells.lookup y.1=some c:=fun y hy hf=>I.ok.has y.1 (hfree y hy hf)
 refine ff (use:=none) rfl hs (jFT hcl) hkind hnames (thn (hi pins s σ H _ I h) fun v s1 h1=>thn h1 fun itv s2 h2=>?_)
 obtain⟨it,fp,tn,J,H2,e,I2,T,st2,f2,hQ⟩:=h2
 subst e
 have hlt:∀ b∈fp,b<s2.heap.objs.size:=fun b hb=>by
  obtain⟨o,e,_⟩:=T.obj 0 _ st2 b hb
  exact ak e
 refine ay (wpAny_newFunctionEnv hcell (by intro y hy; simp at hy) (fun h₁ hns₁ hsb₁=>?_) hkind)
 have I3:Inv X pins σ (upd H2 s2.heap.objs.size (.lst [])) { s2 with heap:=s2.heap.push { cls:= .type "list",data:= .seq ([]:List Value).toArray}} :=I2.lnew (t':=s2.toks) .nil (aM _)
 obtain⟨W,⟨n0,w0⟩,turn⟩:=hQ s2.heap.objs.size I2.fresh
 have hD3:∀ b∈fp,b≠s2.heap.objs.size:=fun b hb=>ao (hlt b hb)
 have f3:∀ b∈fp,FpOk X pins (upd H2 s2.heap.objs.size (.lst [])) b:=fun b hb=>by
  obtain⟨a0,a1⟩:=f2 b hb
  exact⟨by rw[jA (hD3 b hb)]; exact a0,a1⟩
 generalize hE:({ s2 with heap:=s2.heap.push { cls:= .type "list",data:= .seq ([]:List Value).toArray}} :Shared)=s3 at I3 hns₁ hsb₁ ⊢
 generalize hH3:upd H2 s2.heap.objs.size (.lst [])=H3 at I3 f3 w0
 have hsz3:s3.heap.objs.size=s2.heap.objs.size+1:=by rw[<- hE]; exact bv _ _
 have old:∀ b o,s3.heap.get? b=some o->h₁.get? b=some o:=fun b o e=>hsb₁.extBut b o (ao (ak e)) (af _ e)
 have old2:∀ b o,s2.heap.get? b=some o->h₁.get? b=some o:=fun b o e=>old b o (by rw[<- hE]; exact af _ e)
 have I4:=jF2 (fp:=fp) (tk:=s3.toks+([]:List (Str×Value)).length) I3 hkind hcell hfree hm f3 (fun b hb=>show b<s3.heap.objs.size by rw[hsz3]; exact bH (hlt b hb)) hns₁ old
 have st4:tn 0 h₁:=T.keep _ _ _ st2 fun b hb o e=>old2 b o e
 have loop:codeAny (model X.prog X.w) X.A (.compLoop (.ListComp elt [⟨tg,iter,ifs,0⟩] sc pos) 0 (.ref it) (.ref s2.heap.objs.size) (compEnvC sc (jM X.env.cells sc.names []) s3.heap.objs.size X.env))
   (compPost (model X.prog X.w) X.A X.xe none (EP X pins σ Q) (.ref s2.heap.objs.size) s3.heap.objs.size) { s3 with heap:=h₁,toks:=s3.toks+([]:List (Str×Value)).length} :=by
  generalize hX:blk X sc (jM X.env.cells sc.names []) s3.heap.objs.size Nc fp s3 H3=Xb at I4
  have eP:Xb.prog=X.prog:=by rw[<- hX]; rfl
  have ew:Xb.w=X.w:=by rw[<- hX]; rfl
  have eK:Xb.K=X.K:=by rw[<- hX]; rfl
  have eA:Xb.A=X.A:=by rw[<- hX]; rfl
  have ec:Xb.A.handled=some (.ref x):=by rw[<- hX]; exact hc
  have ee:Xb.env=compEnvC sc (jM X.env.cells sc.names []) s3.heap.objs.size X.env:=by rw[<- hX]; rfl
  have ex:Xb.xe=fun _ _=>False:=by rw[<- hX]; rfl
  have hgb:PG Xb tg g:=by rw[<- hX]; exact hg _ _ _ _ _
  have htb:PTs Xb ifs tt:=by rw[<- hX]; exact ht _ _ _ _ _
  have heb:PE Xb elt te:=by rw[<- hX]; exact he _ _ _ _ _
  have stat:∀ {H':Hp},(∀ b∈fp,H' b=none)->∀ b∈fp,FpOk Xb [] H' b:=fun {H'} hn b hb=>by
   obtain⟨o,eo,_⟩:=T.obj _ _ st4 b hb
   have q:=I4.ok.exf b (by rw[<- hX]; exact hb)
   exact⟨hn b hb,q.1,I4.ok.exfs b (by rw[<- hX]; exact hb), .inl (by rw[<- hX]; exact hb),q.2,fun p hp=>absurd hp (by rw[<- hX]; simp [blk])⟩
  have fr4:∀ b∈fp,H3 b=none:=fun b hb=>(f3 b hb).1
  unfold PG at hgb
  unfold PTs at htb
  unfold PE at heb
  rw[eP,ew,eA,ee,ex] at hgb htb heb
  refine jDA (fun n z=>∃ i σ' H' ys,Inv Xb [] σ' H' z/\tn i z.heap/\(∀ b∈fp,H' b=none)/\W i n σ' H' ys) ?_ n0 ⟨0,_,H3,[],I4,st4,fr4,w0⟩
  rintro n z ⟨i,σ5,H5,ys,I5,st5,fr5,w5⟩
  obtain⟨hD,hlen,way⟩:=turn i n σ5 H5 ys w5
  rcases way with ⟨stop,q⟩ | ⟨go,N,hN,step⟩
  ·have R:=T.done Xb eP ew eK ec i [] z σ5 H5 (fun _ _=>False) I5 (stat fr5) st5 stop
   rw[eA] at R
   refine thn R fun r z1 ⟨hr,I6⟩=>?_
   subst hr
   obtain⟨mm,hn6,_⟩:=I6.loc
   rw[ee] at hn6
   refine⟨mm,hn6,fun h' sb=>?_⟩
   have u6:Un (frs X.stack) fp H3 H5 s3.heap z1.heap:=by
    have:=I6.base
    rw[<- hX] at this
    exact this
   have fC:H5 s3.heap.objs.size=none:=by
    have:=I6.free
    rw[ee] at this
    exact this
   have hok6:HOk X.prog X.w H5 z1.heap:=by
    have:=I6.hok
    rw[eP,ew] at this
    exact this
   have os6:z1.os=s3.os:=by
    have:=I6.os
    rw[<- hX] at this
    exact this
   refine⟨.ref s2.heap.objs.size,H5,I3.call' (s':= { z1 with heap:=h'}) (ch:=fp) os6 (u6.sameBut sb (ai _)) (hok6.sameBut sb fC) I6.bare (fun b hb=>?_),rfl,q⟩
   obtain⟨a0,a1,a2,a3,a4,a5⟩:=f3 b hb
   exact⟨a3,a1,a4,a5⟩
  ·have R:=T.item Xb eP ew eK ec i [] z σ5 H5 (fun _ _=>False) I5 (stat fr5) st5 go
   rw[eA] at R
   refine thn R fun r z1 ⟨u,hr,h6⟩=>?_
   subst hr
   refine thn h6 fun _ z2 ⟨y,H7,I7,r7,y7,st7,fr7⟩=>?_
   have I7':=I7.pinned (stat fr7) (T.obj _ _ st7)
   refine thn (hgb _ z2 σ5 H7 y u _ I7' r7 (step y H7 y7)) fun _ z3 ⟨σ8,H8,I8,q8⟩=>?_
   refine thn (htb _ z3 σ8 H8 _ I8 q8) fun ok z4 ⟨H9,I9,q9⟩=>?_
   have again:∀ {σ7:St}{Hz:Hp}{zz:Shared}{yy:List V}{n':Nat},Inv Xb ([]++jD7 fp z2.heap) σ7 Hz zz->n'<n->W (i+1) n' σ7 Hz yy->∃ k,k<n/\∃ i σ' H' ys,Inv Xb [] σ' H' zz/\tn i zz.heap/\(∀ b∈fp,H' b=none)/\W i k σ' H' ys:=fun {σ7 Hz zz yy n'} Iz hn wz=>by
    refine⟨n',hn,i+1,σ7,Hz,yy,Iz.unpinned,T.keep _ _ _ st7 fun b hb o e=>(Iz.pin (b,o) (aE _ (aE _ (jA3 hb e)))).1,fun b hb=>?_,wz⟩
    obtain⟨o,e,d⟩:=T.obj _ _ st7 b hb
    exact(Iz.pin (b,o) (aE _ (aE _ (jA3 hb e)))).2.1
   cases ok with
   | false=>
    obtain⟨n',hn,w9⟩:=hN _ _ _ (show N σ8 H9 ys from q9)
    exact again I9 hn w9
   | true=>
    refine thn (heb _ z4 σ8 H9 _ I9 q9) fun xv z5 ⟨vv,H10,I10,r10,hD10,n10⟩=>?_
    obtain⟨n',hn,w10⟩:=hN _ _ _ n10
    have R:=jAF (X:=Xb) _ z5 σ8 H10 (.ref s2.heap.objs.size) [vv] (.ref s2.heap.objs.size) [xv] (fun _ H'=>H'=upd H10 s2.heap.objs.size (.lst (ys++[vv]))) I10 rfl (.cons r10 .nil) ⟨_,ys,vv,rfl,rfl,hD10,hlen,rfl⟩
    rw[eP,ew,eA,ex] at R
    refine thn R fun _ z6 ⟨_,H11,I11,_,e11⟩=>?_
    subst e11
    exact again I11 hn w10
 exact codeAny_compStart_list loop (T.self _ 0 _ _ _ st4 loop)
end
structure RoomS (k:Nat)(A:Around)(x:Addr):Prop where
 hd:A.handled=some (.ref x)
 dp:A.depth+3*k+5<recursionLimit
 un:A.units+16*k+200<cLine
theorem Room.suite {k:Nat}{A:Around}(r:Room k A)(x:Addr):RoomS k (A.mark (some (.ref x))) x:=⟨rfl,r.dp,r.un⟩
theorem RoomS.deeper {k:Nat}{A:Around}{x:Addr}(r:RoomS (k+1) A x)(env:Env):RoomS k (A.deeper env) x:=
 ⟨r.hd,by have:=r.dp; show A.depth+1+3*k+5<_; omega,by have:=r.un; show A.units+3+16*k+200<_; omega⟩
structure FnS (P:Program)(w:World)(K:W.Frag)(mg:Str->Option Value)(base:Heap)(k:Nat)(f:Addr)(fd:FuncData)(ps:List Str)(sp:Addr->Sp):Prop where
 len:∀ x vs H Q E,sp x vs H Q E->vs.length=ps.length
 run:∀ (A:Around) (outer:List Env) (s:Shared) (H:Hp) (args:Args) (us:List Value) (vs:List V) (Q:VK) (E:XK) (x:Addr),RoomS k A x->Env0 P w K mg base A outer s H->BindsTo s fd args (ps.zip us)->Vals vs us->sp x vs H Q E->
  codeAny (model P w) A (.call (.ref f) args) (CR CX0 outer P w H s Q E) s
def cxS (P:Program)(w:World)(K:W.Frag)(mg:Str->Option Value)(base:Heap)(N:List Str)(qual:Str)(scope:Scope)(f:Addr)(cd:Value)(A:Around)(outer:List Env)(s:Shared)(H:Hp)(E:XK):Cx:= { (cxOf CX0 P w K mg base N qual scope f cd A outer s H E).nox with calm:=false}
theorem jOK {P:Program}{w:World}{K:W.Frag}{mg:Str->Option Value}{base:Heap}{k:Nat}{x qual:Str}{st:Stmt}{f:Addr}{fd:FuncData}{N ps:List Str}{sp:Addr->Sp}(F:Fun K x qual st f fd)(S:FnScope N ps (j9 st))(len:∀ x vs H Q E,sp x vs H Q E->vs.length=ps.length)
  (hbody:∀ (cdv:Value) (A:Around) (outer:List Env) (s:Shared) (H:Hp) (vs:List V) (Q:VK) (E:XK) (x:Addr),RoomS k (A.deeper (envOfC qual (j9 st) s.heap.objs.size f cdv)) x->sp x vs H Q E->
   ∃ t,PSs (cxS P w K mg base N qual (j9 st) f cdv A outer s H E) (jD st) t/\t { nx:=fun _ H'=>Q .non H',rt:=Q} (kT N vs) H):
  FnS P w K mg base (k+1) f fd ps sp:=by
 obtain⟨oc,od,kV,doc,pm,an,cdv,ct,osl,rfl,lk,hcd⟩:=F.ex
 refine⟨len,fun A outer s H args us vs Q E x hr e0 hb r hsp=>?_⟩
 have hl:=len _ _ _ _ _ hsp
 have KX:K.In s.heap:=e0.mod.kin.keeps fun b o e=>(e0.bs b o e).1
 have lim:s.heap.NoLimit:=e0.mod.nolimit.keeps fun b o e=>(e0.bs b o e).1
 have hkind:∀ y∈ps.zip us,(j9 st).names.lookup y.1=some .local\/((j9 st).names.lookup y.1=some .cell/\((cellsFrom (s.heap.objs.size+1) (j9 st).names []).lookup y.1).isSome=true):=fun ⟨n,v⟩ hy=>by
  rcases S.par n (cy hy).1 with q | q
  ·exact .inl q
  ·exact .inr ⟨q,cX _ _ _ (.inl q)⟩
 refine codeAny_call_function (by have:=hr.dp; omega) (KX _ _ lk) rfl S.co S.gen rfl (gG KX hcd) (hb _ _ _ _ ?_)
 refine eg S.kind hkind fun env he s1 z=>?_
 subst he
 refine⟨lim.keeps z.toInCall.keep,codeAny_func ?_⟩
 obtain⟨t,ht,hq⟩:=hbody cdv A outer s H vs Q E x (hr.deeper _) hsp
 have J:Inv (cxOf CX0 P w K mg base N qual (j9 st) f cdv { A with handled:=none} outer s H E) [] (kT N vs) H s1:=jEQ S rfl ⟨e0.frames,e0.mod,e0.bs,e0.bsz,e0.funs,e0.frf,e0.hok,e0.bare⟩ hl r z
 have ok:=J.ok
 have I:Inv (cxS P w K mg base N qual (j9 st) f cdv A outer s H E) [] (kT N vs) H s1:=
  ⟨⟨ok.mod,ok.kind,ok.glob,ok.blt,ok.above,ok.inj,ok.has,ok.cab,fun z=>(nomatch z),dz e0.frames,ok.stk,ok.exf,ok.bs,ok.bsz,ok.noex,ok.exfs,ok.funs,ok.frf⟩,J.os,J.bare,J.base,J.loc,J.cell,J.free,J.freeC,J.pin,J.hok,J.len⟩
 refine bf (ht [] s1 (kT N vs) H _ I hq) (fun fl s' hs=>?_) fun e s' hs=>False.elim hs
 have fin:∀ {σ':St}{H':Hp}{v:V}{u:Value},Inv (cxS P w K mg base N qual (j9 st) f cdv A outer s H E) [] σ' H' s'->RelV v u->Q v H'->CE outer P w H s Q u s':=
  fun {σ' H' v u} J rv q=>⟨v,H',J.os,J.bare,J.base,J.hok,rv,q⟩
 cases fl with
 | ret u=>
  obtain⟨v,σ',H',J,rv,q⟩:=hs
  exact fin J rv q
 | next=>
  obtain⟨σ',H',J,q⟩:=hs
  exact fin (v:=V.non) (u:=Value.none) J rfl q
 | brk=>
  obtain⟨_,_,_,q⟩:=hs
  exact False.elim q
 | cont=>
  obtain⟨_,_,_,q⟩:=hs
  exact False.elim q
section
variable {X:Cx}{k:Nat}{f a:Addr}{fd:FuncData}{ps:List Str}{sp:Addr->Sp}{x:Str}{p pos:Pos}{e:Expr}{es:List Expr}{t:TA}
theorem jKW (F:FnS X.prog X.w X.K X.mg X.base k f fd ps sp)(hr:RoomS k X.A a)(hg:Gl1 X x)(hm:X.mg x=some (.ref f))(hk:keepIn X.K (.ref f)=true)(hb:Binds X.K fd ps [])
  (ha:JA X (e::es) t) (he:starEach (e::es) X.env=(false,eval e X.env)::starEach es X.env) (hdb:(x==("__debug__" :Str))=false:=by decide) (hpl:(backTo pos (starEach es X.env)).any (·.1)=false:=by rfl):
  JE X (.Call (.Name x p) (e::es) [] pos) (tCall (sp a) [] E0 t):=by
 refine⟨fun pins s σ H Q I h=>?_⟩
 refine bB (jBS I hg.a hm ?_ hdb)
 refine ef (h₀:=X.base) I.ok.mod.kin hk (thn (ha.h pos pins s σ H _ I h) fun us s1 ⟨vs,H1,I1,r,q⟩=>⟨I1.kIn,?_⟩) he hpl
 replace q:sp a (vs++[]) H1 Q E0:=q
 rw[bn] at q
 have hl:us.length=ps.length:=by rw[<- r.length]; exact F.len _ _ _ _ _ q
 have hbb:=hb s1 us I1.kIn (by rw[bn]; exact hl)
 rw[bn] at hbb
 refine dn (bX (F.run X.A X.stack s1 H1 ⟨us,[]⟩ us vs Q E0 a hr I1.env0 hbb r q) fun r s' hq=>?_)
 cases r with
 | error e=>exact hq.elim
 | ok fl=>
  cases fl with
  | ret u=>exact I1.after hq
  | next=>exact False.elim hq
  | brk=>exact False.elim hq
  | cont=>exact False.elim hq
end
section
variable {CX:CXT}{P:Program}{w:World}{K:W.Frag}{mg:Str->Option Value}{base:Heap}{N:List Str}{qual:Str}{sc:Scope}{f:Addr}{cdv:Value}{A:Around}{outer:List Env}{s:Shared}{H:Hp}{E:XK}{x:Str}
theorem gl_x (h:sc.names.lookup x=some .globalImplicit):Gl1 (cxOf CX P w K mg base N qual sc f cdv A outer s H E).nox x:=⟨h⟩
theorem vis_x (h:sc.names.lookup x=some .local):Vis1 (cxOf CX P w K mg base N qual sc f cdv A outer s H E).nox x:=⟨.inl h⟩
theorem gl_s (h:sc.names.lookup x=some .globalImplicit):Gl1 (cxS P w K mg base N qual sc f cdv A outer s H E) x:=⟨h⟩
theorem yW (h:sc.names.lookup x=some .local):Vis1 (cxS P w K mg base N qual sc f cdv A outer s H E) x:=⟨.inl h⟩
theorem loc_s (h:sc.names.lookup x=some .local):Loc1 (cxS P w K mg base N qual sc f cdv A outer s H E) x:=⟨.inl h, .inl rfl⟩
theorem gl_u {X:Cx}{a:Addr}(h:Gl1 X x):Gl1 (jAK X a) x:=⟨h.a⟩
theorem vis_u {X:Cx}{a:Addr}(h:Vis1 X x):Vis1 (jAK X a) x:=⟨h.a⟩
end
section
variable {X:Cx}{e:Expr}{es:List Expr}{t:TA}{a:Addr}{p pos:Pos}
structure JIS (x:Addr)(X:Cx)(tg e:Expr)(t:TI):Prop where
 h:PIS x X tg e t
theorem jJ2 {tg:Expr}(hg:Gl1 X "range")(hm:X.mg "range" =none)(ha:JA X [e] t)(hs:starEach [e] X.env=[(false,eval e X.env)]):JIS a X tg (.Call (.Name "range" p) [e] [] pos) (iRngS a t):=⟨jH2 hg.a hm ha.h hs⟩
theorem jKU {tg iter elt:Expr}{ifs:List Expr}{sc:Scope}{wi:TI}{g:TG}{tt:TT}{te:TE}{m:List (Option Nat)}{Nc:List Str}(hc:X.A.handled=some (.ref a))(hi:JIS a X tg iter wi)(hkind:sc.kind= .function)(hcell:∀ y∈sc.names,y.2≠ .cell)(hnames:∀ y∈sc.names,y.2= .local->sc.names.lookup y.1=some .local)
  (hfree:∀ y∈sc.names,y.2= .free->X.env.scope.names.lookup y.1=some .cell\/X.env.scope.names.lookup y.1=some .free) (hm:jBL X sc Nc m)
  (hg:∀ cl C fp s H,JG (blk X sc cl C Nc fp s H) tg g) (ht:∀ cl C fp s H,JTs (blk X sc cl C Nc fp s H) ifs tt) (he:∀ cl C fp s H,JE (blk X sc cl C Nc fp s H) elt te)
  (hs:FoOk iter):JE X (.ListComp elt [⟨tg,iter,ifs,0⟩] sc pos) (tComp m wi g tt te):=⟨jKF hc hi.h hkind hcell hnames hfree hm (fun cl C fp s H=>(hg cl C fp s H).h) (fun cl C fp s H=>(ht cl C fp s H).h) (fun cl C fp s H=>(he cl C fp s H).h) (hs.h _)⟩
end
abbrev WX:=Addr->Addr->St->Hp->Prop
def RZ (X:Cx)(pins:List (Addr×Obj))(W:WX):Value->Shared->Prop:=fun ev s2=>∃ x T C σ2 H2,ev= .ref x/\Inv X pins σ2 H2 s2/\H2 x=none/\H2 T=none/\ExcX s2.heap x C T/\
 (X.s₀.heap.get? x=none/\x≠X.env.locals/\(∀ y c,X.env.cells.lookup y=some c->c≠x)/\∀ p∈X.pn++pins,p.1≠x)/\(X.s₀.heap.get? T=none/\T≠X.env.locals/\(∀ y c,X.env.cells.lookup y=some c->c≠T)/\∀ p∈X.pn++pins,p.1≠T)/\W x C σ2 H2
abbrev TEX:=St->Hp->VK->(Addr->Addr->Hp->Prop)->Prop
abbrev TBX:=Ends->WX->St->Hp->Prop
structure JX (X:Cx)(e:Expr)(t:TEX):Prop where
 h:∀ (pins:List (Addr×Obj)) (s:Shared) (σ:St) (H:Hp) (Q:VK) (W:Addr->Addr->Hp->Prop),Inv X pins σ H s->t σ H Q W->wpAny (model X.prog X.w) X.A (eval e X.env) (EP X pins σ Q) (RZ X pins fun x C σ2 H2=>σ2=σ/\W x C H2) s
structure JB (X:Cx)(body:List Stmt)(t:TBX):Prop where
 h:∀ (pins:List (Addr×Obj)) (s:Shared) (σ:St) (H:Hp) (D:Ends) (W:WX),Inv X pins σ H s->t D W σ H->wpAny (model X.prog X.w) X.A (execs body X.env) (SP X pins D) (RZ X pins W) s
def jN3 (C:Addr)(t:TA)(sp:Sp):TEX:=fun σ H Q W=>t σ H fun vs H1=>sp vs H1 Q fun e ox H2=>∀ x,e= .ref x->ox=some x->H2 x=none->W x C H2
def bExpr (t:TEX):TBX:=fun D W σ H=>t σ H (fun _ H1=>D.nx σ H1) fun x C H2=>W x C σ H2
def Dh (D:Ends)(j:Nat):Ends:= { nx:=fun σ H=>D.nx (σ.set j none) H,rt:=D.rt,bk:=fun σ H=>D.bk (σ.set j none) H,ct:=fun σ H=>D.ct (σ.set j none) H}
def tTryB (K:W.Frag)(B:Addr)(j:Nat)(tb:TBX)(ts:Addr->TS):TS:=fun D σ H=>tb D (fun x C σ2 H2=>Above K C B/\ts x (Dh D j) (σ2.set j (some (.ref x))) (upd H2 x (.ext (excP x C)))) σ H
section
variable {X:Cx}{y n g c:Str}{i j k:Nat}{f B C:Addr}{fd:FuncData}{ps:List Str}{sp:Sp}{e:Expr}{es:List Expr}{t:TA}{te t1:TEX}{yp gp cp ap np rp hp tp pos:Pos}
theorem jO4 (h:X.xe=fun _ _=>False):X=X.nox:=by
 cases X
 cases h
 rfl
theorem jML (F:FnOk X.prog X.w X.K X.mg X.base (CXX X.prog X.w C) k f fd ps sp)(hr:Room k X.A)(hg:Gl1 X g)(hm:X.mg g=some (.ref f))(hk:keepIn X.K (.ref f)=true)(hb:Binds X.K fd ps [])(ha0:JA X (e::es) t)(hex:X.ex=[])
  (he:starEach (e::es) X.env=(false,eval e X.env)::starEach es X.env) (hdb:(g==("__debug__" :Str))=false:=by decide) (hpl:(backTo cp (starEach es X.env)).any (·.1)=false:=by rfl) (hxe:X.xe=fun _ _=>False:=by rfl):
  JX X (.Call (.Name g gp) (e::es) [] cp) (jN3 C t sp):=by
 have ha:JA X.nox (e::es) t:=jO4 hxe ▸ ha0
 refine⟨fun pins s σ H Q W I h=>bB (jBS I hg.a hm ?_ hdb)⟩
 refine ef (h₀:=X.base) I.ok.mod.kin hk (bf (ha.h cp pins s σ H _ (I.wish _) h) (fun us s1 ⟨vs,H1,I1,r1,q⟩=>⟨I1.unwish.kIn,?_⟩) fun _ _ z=>False.elim z) he hpl
 have I1:=I1.unwish
 have hl:us.length=ps.length:=by rw[<- r1.length]; exact F.len _ _ _ _ q
 have hbb:=hb s1 us I1.kIn (by rw[bn]; exact hl)
 rw[bn] at hbb
 refine dn (bX (F.run X.A X.stack s1 H1 ⟨us,[]⟩ us vs _ _ hr I1.env0 hbb r1 q) fun res s2 hq=>?_)
 cases res with
 | ok fl=>
  cases fl with
  | ret u=>exact I1.after hq
  | next=>exact False.elim hq
  | brk=>exact False.elim hq
  | cont=>exact False.elim hq
 | error ev=>
  obtain⟨x,T,H2,rfl,os2,bare2,un2,hok2,fx,fT,hx,hT,ex2,q2⟩:=hq
  have I2:Inv X pins σ H2 s2:=I1.call' os2 un2 hok2 bare2 fun b z=>absurd z (by simp)
  have hT1:s1.heap.get? T=none:=by
   cases z:s1.heap.get? T with
   | none=>rfl
   | some o=>exact absurd (ak z) (Nat.not_lt.mpr fT)
  exact⟨x,T,C,σ,H2,rfl,I2,hx,hT,ex2,I1.apart hex fx,I1.apart hex hT1,rfl,q2 x rfl rfl hx⟩
theorem RZ.out {pins:List (Addr×Obj)}{σ:St}{W':Addr->Addr->Hp->Prop}{W:WX}{ev:Value}{s:Shared}(h:RZ X pins (fun x C σ2 H2=>σ2=σ/\W' x C H2) ev s)(k:∀ x C H2,W' x C H2->W x C σ H2):RZ X pins W ev s:=by
 obtain⟨x,T,C,σ2,H2,e1,I2,a1,a2,a3,a4,a5,rfl,a6⟩:=h
 exact⟨x,T,C,_,H2,e1,I2,a1,a2,a3,a4,a5,k _ _ _ a6⟩
theorem jMP (h:JX X e te)(hs:SwOk e none):JB X [.Expr e rp] (bExpr te):=by
 refine⟨fun pins s σ H D W I hq=>fk (wpAny_Expr_any (bf (h.h pins s σ H _ _ I hq) (fun u s1 ⟨x,H1,I1,r1,q1⟩=>?_) fun ev s1 z=>z.out fun _ _ _ q=>q) I.quiet (hs.h _ _))⟩
 exact cP ⟨σ,H1,I1,q1⟩
theorem Inv.lost {pins:List (Addr×Obj)}{σ:St}{H:Hp}{s:Shared}{h':Heap}{t':Nat}{v:Option Value}{m:Str->Option Value}(I:Inv X pins σ H s)(hN:X.N.Nodup)(hj:X.N[j]?=some n)(ln:X.env.scope.names.lookup n=some .local)(hm:s.heap.Ns X.env.locals m)(hl:∀ (i:Nat) (y:Str) (v:V),X.N[i]?=some y->σ[i]?=some (some v)->Vis X.env.scope y->∃ u,RelV v u/\Look X.env s.heap m y u)
  (hn:h'.Ns X.env.locals (fun x=>if x=n then v else m x)) (sb:Heap.SameBut X.env.locals s.heap h'):Inv X pins (σ.set j none) H { s with heap:=h',toks:=t'} :=by
 refine⟨I.ok,I.os,I.bare,I.base.sameBut sb I.ok.above,⟨_,hn,fun i y v e1 e2 e3=>?_⟩,fun y c e=>?_,I.free,I.freeC,fun p hp=>?_,I.hok.sameBut sb I.free,by rw[fY]; exact I.len⟩
 ·have nij:i≠j:=fun z=>by
   subst z
   by_cases hlt:i<σ.length
   ·rw[cW hlt] at e2
    cases e2
   ·rw[bR (by rw[fY]; omega)] at e2
    cases e2
  rw[dy (bN nij)] at e2
  have yn:y≠n:=fun z=>by
   subst z
   exact nij ((List.getElem?_inj (ar.mp e1).1 hN).mp (e1.trans hj.symm))
  obtain⟨u,r,l⟩:=hl i y v e1 e2 e3
  refine⟨u,r,?_⟩
  rcases l with ⟨lk,l⟩ | ⟨lk,c,hc,o,ho,hd⟩
  ·exact .inl ⟨lk,(az yn).trans l⟩
  ·exact .inr ⟨lk,c,hc,o,(sb.2 c (I.cne y c hc)).trans ho,hd⟩
 ·obtain⟨v,o,ho,hd⟩:=I.cell y c e
  exact⟨v,o,(sb.2 c (I.cne y c e)).trans ho,hd⟩
 ·obtain⟨e,n,ne,nf,d⟩:=I.pin p hp
  exact⟨(sb.2 _ ne).trans e,n,ne,nf,d⟩
theorem jOB {body:List Stmt}{s0:Stmt}{suite:List Stmt}{tb:TBX}{ts:Addr->TS}(hN:X.N.Nodup)(hn:X.N[j]?=some n)(ln:X.env.scope.names.lookup n=some .local)(hb:JB X body tb)
  (hc:Gl1 X c) (hmc:X.mg c=some (.ref B)) (hst:X.stack=X.env::X.outer) (hfr:X.env.frame=some X.env.locals) (hs:∀ x,JSs (jAK X x) (s0::suite) (ts x)) (hdc:(c==("__debug__" :Str))=false:=by decide):
  JS X (.Try body [.ExceptHandler (some (.Name c np)) (some n) (s0::suite) hp] [] [] tp) (tTryB X.K B j tb ts):=by
 refine⟨fun pins s σ H D I h=>wpAny_Try_except (bf (hb.h pins s σ H D _ I h) (fun fl s1 q=>?_) fun ev s2 hz=>?_)⟩
 ·cases fl with
  | next=>exact cP q
  | brk=>exact q
  | cont=>exact q
  | ret u=>exact q
 ·obtain⟨x,T,C,σ2,H2,rfl,I2,hx,hT,ex2,ax,aT,ab,q3⟩:=hz
  have fr:=I.ok.frames
  have st2:=I2.stack
  rw[hst] at fr st2
  refine jKM (base:=X.base) fr st2 hfr ex2 fun h3 T3 n3 e3 z3=>?_
  have I3:Inv X pins σ2 (upd H2 x (.ext (excP x C))) { s2 with heap:=h3} :=I2.held (by rw[hst]; exact n3) e3 hx hT ax aT
  refine wpAny_handleBy_cons (codeAny_handlers_test (jBS (X:=jAK X x) (I3.suite x) hc.a hmc ?_ hdc)) (by intro q; cases q)
  obtain⟨nm,q,nm',q',N,N',bs,bm,bs',bm',hdct,hdct',sn,sn',sub,sub',ab,ab',col,col',dd,dd',k0,k1,k2,k3,k5,j0,j1,j2,j3,j5,ni,ni',b1,b2,hK⟩:=ab
  obtain⟨c1,c2⟩:=hK h3 I3.kIn
  obtain⟨vs3,_,_,hx3,_⟩:=id e3
  refine jKP c1 c2 hx3 rfl b1 b2 ?_
  refine codeAny_handlers_suite_as (jFM (s:= { s2 with heap:=h3}) e3 fun h4 k4=>?_)
  have I4:Inv X pins σ2 (upd H2 x (.ext (excP x C))) { s2 with heap:=h4} :=I3.kept (h':=h4) (t':=s2.toks) k4
  refine jB9 (X:=jAK X x) (v:= .ref x) (I4.suite x) hN hn (.inl ln) rfl (fun s5 I5=>?_) (.inr ln)
  refine bf ((hs x).h pins s5 _ _ (Dh D j) I5 q3) (fun fl s6 q6=>?_) fun _ _ z=>False.elim z
  have go:∀ {σ6:St}{H6:Hp}{Q:Shared->Prop},Inv (jAK X x) pins σ6 H6 s6->(∀ s7,Inv X pins (σ6.set j none) H6 s7->Q s7)->wpAny (model X.prog X.w) X.A (do bindName X.env n .none; unbindBehindTheSuite X.env n hp) (fun _ s7=>Q s7) X.xe s6:=fun {σ6 H6 Q} I6 k=>by
   have I6:=I6.unsuite I.ok
   obtain⟨m6,hn6,hl6⟩:=id I6.loc
   exact wpAny_nameGoes_keeps ln hn6 (by rw[I.ok.kind]; rfl) fun h7 v hn7 sb7=>k _ (I6.lost hN hn ln hn6 hl6 hn7 sb7)
  cases fl with
  | next=>
   obtain⟨σ6,H6,I6,d6⟩:=q6
   exact go I6 fun s7 I7=>⟨_,H6,I7,d6⟩
  | brk=>
   obtain⟨σ6,H6,I6,d6⟩:=q6
   exact go I6 fun s7 I7=>⟨_,H6,I7,d6⟩
  | cont=>
   obtain⟨σ6,H6,I6,d6⟩:=q6
   exact go I6 fun s7 I7=>⟨_,H6,I7,d6⟩
  | ret u=>
   obtain⟨v,σ6,H6,I6,r6,d6⟩:=q6
   exact go I6 fun s7 I7=>⟨v,_,H6,I7,r6,d6⟩
end
def nfP (x q:Str)(args:Arguments)(body:List Stmt)(scope:Scope)(cl:List (Str×Addr))(a c:Addr):Heap->Prop:=fun h=>∃ doc pm ctv,h.get? a=some (fnMade x q args body scope cl doc pm c ctv)
def ncP (q:Str)(c:Addr):Heap->Prop:=fun h=>h.CodeRec (.ref c) q
abbrev onePs (pos:Pos)(c:Addr):Array Value:=#[rawInt pos.line,rawInt pos.col, .ref c]
def TabOk (H:Hp)(T:Addr)(pos:Pos)(q:Str):Prop:=H T=some (.tbl #[])\/∃ c,H T=some (.tbl (onePs pos c))/\H c=some (.ext (ncP q c))
def ExtT (T:Addr)(H H':Hp):Prop:=∀ b o,H b=some o->b≠T->H' b=some o
def BltAt (base:Heap)(mg:Str->Option Value):Prop:=∃ bm o,mg "__builtins__" =some (.ref bm)/\bm≠builtinsNs/\bm≠mainGlobals/\base.get? bm=some o/\o.cls= .type "module" /\o.dict=some builtinsNs/\o.data= .plain
theorem nfP.stay {x q:Str}{args:Arguments}{body:List Stmt}{scope:Scope}{cl:List (Str×Addr)}{a c:Addr}(h1 h2:Heap)(p:nfP x q args body scope cl a c h1)(k:∀ o,h1.get? a=some o->h2.get? a=some o):nfP x q args body scope cl a c h2:=by
 obtain⟨d,m,t,e⟩:=p
 exact⟨d,m,t,k _ e⟩
theorem ncP.stay {q:Str}{c:Addr}(h1 h2:Heap)(p:ncP q c h1)(k:∀ o,h1.get? c=some o->h2.get? c=some o):ncP q c h2:=by
 obtain⟨c',o,vs,t,e,g,r⟩:=p
 cases e
 exact⟨c,o,vs,t,rfl,k _ g,r⟩
theorem ncP.is {q:Str}{c:Addr}{h:Heap}(p:ncP q c h):∃ o,h.get? c=some o:=by
 obtain⟨c',o,vs,t,e,g,r⟩:=p
 cases e
 exact⟨o,g⟩
def tDef (x q:Str)(args:Arguments)(body:List Stmt)(scope:Scope)(cl:List (Str×Addr))(T:Addr)(pos:Pos)(j:Nat):TS:=fun D σ H=>TabOk H T pos q/\∀ a c H',H' a=some (.ext (nfP x q args body scope cl a c))->H' c=some (.ext (ncP q c))->H' T=some (.tbl (onePs pos c))->ExtT T H H'->H a=none->D.nx (σ.set j (some (.ref a))) H'
section
variable {X:Cx}{pins:List (Addr×Obj)}{σ:St}{H:Hp}{s:Shared}
theorem Inv.laidX {h':Heap}{t':Nat}{φ:Heap->Prop}{a:Addr}(I:Inv X pins σ H s)(k:∀ b u,s.heap.get? b=some u->h'.get? b=some u)(hp:s.heap.objs.size<=a)(p:φ h')(ho:∃ o,h'.get? a=some o)(st:∀ h1 h2:Heap,φ h1->(∀ o,h1.get? a=some o->h2.get? a=some o)->φ h2):Inv X pins σ (upd H a (.ext φ)) { s with heap:=h',toks:=t'} :=
 I.laid k hp ⟨p,ho,st⟩
theorem Inv.grown {h':Heap}{t':Nat}{T c:Addr}{ps more:Array Value}{φ:Heap->Prop}(I:Inv X pins σ H s)(hT:H T=some (.tbl ps))(k:Heap.ExtBut T s.heap h')(e:h'.get? T=some { cls:= .none,data:= .fields (ps++more)})
  (hc:s.heap.objs.size<=c) (p:φ h') (ho:∃ o,h'.get? c=some o) (st:∀ h1 h2:Heap,φ h1->(∀ o,h1.get? c=some o->h2.get? c=some o)->φ h2):Inv X pins σ (upd (upd H T (.tbl (ps++more))) c (.ext φ)) { s with heap:=h',toks:=t'} :=by
 have hcn:H c=none:=I.hok.fresh hc
 have nT:∀ {b:Addr},H b=none->b≠T:=fun n z=>by rw[z,hT] at n; cases n
 have cT:T≠c:=fun z=>by rw[z,hcn] at hT; cases hT
 have nc:∀ {b:Addr}{o:Obj},s.heap.get? b=some o->b≠c:=fun q z=>absurd (ak q) (by rw[z]; exact Nat.not_lt.mpr hc)
 have mc:∀ {b:Addr}{o:HO},H b=some o->b≠c:=fun q=>jB q hcn
 refine I.un ⟨fun b o q n _ _=>k b o (nT n) q,fun b o q n _ _=>⟨o.slots,k b o (nT n) q⟩,fun b o q n _=>by rw[jA (nc q),jA (nT n)]; exact n,fun b o q _=>?_,fun b xs q=>?_,fun b o u q=>?_,fun b qs q=>?_⟩ fun b o q=>?_
 ·by_cases hb:b=T
  ·rw[hb]; exact⟨_,e⟩
  ·exact⟨o,k b o hb q⟩
 ·rw[jA (mc q),jA (fun z=>by rw[z,hT] at q; cases q)]; exact q
 ·rw[jA (mc q),jA (fun z=>by rw[z,hT] at q; cases q)]; exact q
 ·by_cases hb:b=T
  ·subst hb
   rw[hT] at q
   cases q
   exact⟨more,by rw[jA cT,j7]⟩
  ·exact⟨#[],by rw[jA (mc q),jA hb,q]; simp⟩
 ·by_cases hb1:b=c
  ·subst hb1
   rw[j7] at q
   cases q
   exact⟨p,ho,st⟩
  rw[jA hb1] at q
  by_cases hb:b=T
  ·subst hb
   rw[j7] at q
   cases q
   exact e
  ·rw[jA hb] at q
   refine(I.hok b o q).stay (fun d u hd z=>k d u ?_ z) (fun d z=>?_) fun d xs z=>?_
   ·rcases hd with rfl | hd
    ·exact hb
    ·exact fun y=>by rw[y,hT] at hd; cases hd
   ·rw[jA (mc z),jA (fun y=>by rw[y,hT] at z; cases z)]; exact z
   ·rw[jA (mc z),jA (fun y=>by rw[y,hT] at z; cases z)]; exact z
theorem jNF {x:Str}{args:Arguments}{body:List Stmt}{scope:Scope}{pos:Pos}{c0 T:Addr}{j:Nat}(hN:X.N.Nodup)(hj:X.N[j]?=some x)(lx:Loc X.env.scope x)(hcode:X.env.code= .ref c0)(CH:PySem.W.CodeHd X.base c0 T)(hbm:BltAt X.base X.mg)
  (hfree:∀ y∈scope.names,y.2= .free->X.env.scope.names.lookup y.1=some .cell\/X.env.scope.names.lookup y.1=some .free) (hdf:defaultsOf args X.env=([],[])) (han:annTrees args none X.env=[])
  (hf:X.fn x=true\/X.env.scope.names.lookup x=some .local:=by first | exact .inl rfl | exact .inr rfl | assumption):
  PS X (.FunctionDef x args body [] none [] scope none x pos) (tDef x (qualnameIn X.env x x) args body scope (jM X.env.cells scope.names []) T pos j):=by
 intro pins s σ H D I h
 obtain⟨tab,h⟩:=h
 rw[exec_def,hdf,han]
 refine ac (dv (ac (aL ?_)))
 refine ac (ag (ac (aL (ag (aL (ac (ag ?_)))))))
 have hcl:closureFor scope X.env=pure (jM X.env.cells scope.names []):=jFT fun y hy hz=>I.ok.has y.1 (hfree y hy hz)
 have hg:s.heap.Ns mainGlobals X.mg:=I.mod.glob.keeps I.bk
 have C:=CH.keeps I.bk
 have gT:∀ {ps:Array Value},H T=some (.tbl ps)->mainGlobals≠T:=fun hT z=>by
  obtain⟨o,es,ep,e,_⟩:=I.mod.glob
  have:=(I.bs _ _ e).2
  rw[z,hT] at this
  cases this
 have bT:∀ {ps:Array Value},H T=some (.tbl ps)->s.heap.BuiltinsAt X.mg T:=fun hT=>by
  obtain⟨bm,o,h1,h2,h3,h4,h5,h6,h7⟩:=hbm
  refine⟨bm,o,h1,h2,h3,fun z=>?_,(I.bs _ _ h4).1,h5,h6,h7⟩
  have:=(I.bs _ _ h4).2
  rw[z,hT] at this
  cases this
 rcases tab with hT | ⟨c,hT,hc⟩
 ·refine PySem.W.makeFunction_K hcl I.ok.glob hg hcode C (I.hok T _ hT) trivial rfl (gT hT) (bT hT) fun c ctv doc h' tk k1 k2 k3 k4 k5=>?_
  obtain⟨oc,hoc⟩:=ncP.is (q:=qualnameIn X.env x x) k4
  have I1:Inv X pins σ (upd (upd H T (.tbl (#[]++onePs pos c))) c (.ext (ncP (qualnameIn X.env x x) c))) { s with heap:=h',toks:=tk} :=I.grown hT k1 k5 k2 k4 ⟨oc,hoc⟩ ncP.stay
  have I2:=I1.laidX (t':=tk) (a:=h'.objs.size) (φ:=nfP x (qualnameIn X.env x x) args body scope (jM X.env.cells scope.names []) h'.objs.size c) (h':=h'.push (fnMade x (qualnameIn X.env x x) args body scope (jM X.env.cells scope.names []) doc ((X.mg "__name__").getD .none) c ctv)) (fun b u q=>af _ q) (ai _) ⟨doc,_,ctv,aj _ rfl⟩ ⟨_,aj _ rfl⟩ nfP.stay
  have hcn:H c=none:=I.hok.fresh k2
  have han:H h'.objs.size=none:=I.hok.fresh (bt k2 (bM k3))
  have ca:c≠h'.objs.size:=ao k3
  have Tc:T≠c:=fun z=>by rw[z,hcn] at hT; cases hT
  have Ta:T≠h'.objs.size:=fun z=>by rw[z,han] at hT; cases hT
  refine ac (dv (ac (wpAny_bindName (jB9 (v:= .ref h'.objs.size) I2 hN hj lx rfl (fun s' I'=>ag ⟨_,_,I',?_⟩) hf))))
  refine h _ c _ j7 (by rw[jA ca,j7]) (by rw[jA Ta,jA Tc,j7,Array.empty_append]) (fun b o e n=>?_) han
  rw[jA (jB e han),jA (jB e hcn),jA n]
  exact e
 ·refine PySem.W.makeFunction_hit (cv:= .ref c) hcl I.ok.glob hg hcode C (I.hok T _ hT) (by exact trivial) (by simp [codeAmong,rawInt]) (bT hT) fun ctv doc h' tk k1 k2=>?_
  have I2:=I.laidX (t':=tk) (a:=h'.objs.size) (φ:=nfP x (qualnameIn X.env x x) args body scope (jM X.env.cells scope.names []) h'.objs.size c) (h':=h'.push (fnMade x (qualnameIn X.env x x) args body scope (jM X.env.cells scope.names []) doc ((X.mg "__name__").getD .none) c ctv)) (fun b u q=>af _ (k1 b u q)) k2 ⟨doc,_,ctv,aj _ rfl⟩ ⟨_,aj _ rfl⟩ nfP.stay
  have han:H h'.objs.size=none:=I.hok.fresh k2
  refine ac (dv (ac (wpAny_bindName (jB9 (v:= .ref h'.objs.size) I2 hN hj lx rfl (fun s' I'=>ag ⟨_,_,I',?_⟩) hf))))
  refine h _ c _ j7 (by rw[jA (jB hc han)]; exact hc) (by rw[jA (jB hT han)]; exact hT) (fun b o e n=>?_) han
  rw[jA (jB e han)]
  exact e
end
theorem jEI {β:Type}{x:Str} :∀ {l:List (Str×β)},(∀ v,(x,v)∉l)->l.lookup x=none
 | [],_=>rfl
 | (y,v)::r,h=>by
  rw[aI,bK.mpr (fun e=>h v (by rw[e]; exact aB))]
  exact jEI fun w hw=>h w (aC _ hw)
theorem jBR {β:Type}{x:Str} :∀ {l m:List (Str×β)},(l++m).lookup x=(l.lookup x).or (m.lookup x)
 | [],_=>rfl
 | (y,v)::r,m=>by
  rw[fq,aI,aI,jBR]
  cases x==y <;> rfl
theorem jD6:∀ {ps:List Str}{us:List Value}{i:Nat}{x:Str}{u:Value},ps.Nodup->ps[i]?=some x->us[i]?=some u->(ps.zip us).reverse.lookup x=some u
 | [],_,_,_,_,_,h,_=>by simp at h
 | _::_,[],_,_,_,_,_,h=>by simp at h
 | p::ps,w::us,0,x,u,nd,h1,h2=>by
  simp at h1 h2
  subst h1 h2
  rw[gJ,da,jBR,jEI fun v hv=>(bJ.mp nd).1 (cy (List.mem_reverse.mp hv)).1,aI,beq_self_eq_true]
  rfl
 | p::ps,w::us,i+1,x,u,nd,h1,h2=>by
  rw[gJ,da,jBR,jD6 (i:=i) (bJ.mp nd).2 (by simpa using h1) (by simpa using h2)]
  rfl
def cxN (P:Program)(w:World)(K:W.Frag)(mg:Str->Option Value)(base:Heap)(N:List Str)(qual:Str)(scope:Scope)(f:Addr)(cd:Value)(cl:List (Str×Addr))(A:Around)(outer:List Env)(s:Shared)(H:Hp):Cx where
 prog:=P
 w:=w
 K:=K
 mg:=mg
 base:=base
 A:=A.deeper (envX qual scope s.heap.objs.size f cd cl)
 N:=N
 s₀:=s
 H₀:=H
 env:=envX qual scope s.heap.objs.size f cd cl
 outer:=outer
 stack:=envX qual scope s.heap.objs.size f cd cl::outer
 ex:=[]
 calm:=true
 fn:=fun _=>false
 pn:=[]
 xe:=fun _ _=>False
structure ClOk (cl:List (Str×Addr))(s:Shared)(H:Hp):Prop where
 inj:∀ x y c,cl.lookup x=some c->cl.lookup y=some c->x=y
 cell:∀ x c,cl.lookup x=some c->(∃ v,s.heap.IsCell c v)/\H c=none
def FvOk (fs:List Str)(fv:List V)(cl:List (Str×Addr))(s:Shared):Prop:=fv.length=fs.length/\∀ (i:Nat) (x:Str) (v:V),fs[i]?=some x->fv[i]?=some v->∃ c u,cl.lookup x=some c/\RelV v u/\s.heap.IsCell c (some u)
structure NScope (N ps fs:List Str)(sc:Scope):Prop where
 kind:sc.kind= .function
 co:sc.isCoroutine=false
 gen:sc.isGenerator=false
 nd:N.Nodup
 pre:N.take (ps.length+fs.length)=ps++fs
 par:∀ x∈ps,sc.names.lookup x=some .local
 fre:∀ x∈fs,sc.names.lookup x=some .free
 all:∀ x,sc.names.lookup x=some .free->x∈fs
 nocell:∀ y∈sc.names,y.2≠ .cell
def jCH (N:List Str)(vs fv:List V):St:=kT N (vs++fv)
section
variable {P:Program}{w:World}{K:W.Frag}{mg:Str->Option Value}{base:Heap}{N ps fs:List Str}{qual:Str}{scope:Scope}{f:Addr}{cd:Value}{cl:List (Str×Addr)}{A:Around}{outer:List Env}{s:Shared}{H:Hp}{us:List Value}{vs fv:List V}
theorem jHD {h1:Heap}{tk:Nat}(S:NScope N ps fs scope)(hd:A.handled=none)(e0:Env0 P w K mg base A outer s H)(hl:us.length=ps.length)(r:Vals vs us)(C:ClOk cl s H)(Fv:FvOk fs fv cl s)
  (ns:h1.Ns s.heap.objs.size fun x=>(ps.zip us).reverse.lookup x) (hk:∀ b o,s.heap.get? b=some o->h1.get? b=some o):
  Inv (cxN P w K mg base N qual scope f cd cl A outer s H) [] (jCH N vs fv) H { s with heap:=h1,toks:=tk} :=by
 have hpl:ps.length+fs.length<=N.length:=by have:=bF List.length S.pre; rw[aP,al] at this; omega
 have noA:∀ b:Addr,b∉(cxN P w K mg base N qual scope f cd cl A outer s H).ex:=fun b z=>absurd (show b∈([]:List Addr) from z) (by simp)
 have vl:vs.length=ps.length:=r.length.trans hl
 refine⟨⟨e0.mod,S.kind,rfl,rfl,ai _,C.inj,fun y hy=>?_,fun y c z=>(nomatch z),fun _=>hd,dz e0.frames, .inr ⟨rfl,rfl⟩,fun b z=>absurd z (noA b),e0.bs,e0.bsz,fun b _ _=>noA b,fun b z=>absurd z (noA b),e0.funs,e0.frf⟩,
  rfl,e0.bare,Un.kept hk,⟨_,ns,fun i y v h1' h2 h3=>?_⟩,fun y c h=>?_,e0.hok.fresh (ai _),fun y c h=>(C.cell y c h).2,fun p hp=>absurd (show p∈([]:List (Addr×Obj)) from hp) (by simp),e0.hok.kept hk,?_⟩
 ·have hy:scope.names.lookup y=some .cell\/scope.names.lookup y=some .free:=hy
  rcases hy with hy | hy
  ·exact absurd rfl (S.nocell _ (bx hy))
  ·have m:=S.all y hy
   obtain⟨i,hi⟩:=List.getElem?_of_mem m
   have hi2:i<fv.length:=by rw[Fv.1]; exact(ar.mp hi).1
   obtain⟨c,u,e,_⟩:=Fv.2 i y fv[i] hi (by simp [hi2])
   exact⟨c,e⟩
 ·have h1':N[i]?=some y:=h1'
  have hlen:(vs++fv).length=ps.length+fs.length:=by rw[al,vl,Fv.1]
  have hi:i<(vs++fv).length:=by
   unfold jCH kT at h2
   by_cases hi:i<(vs++fv).length
   ·exact hi
   ·rw[bu (by simpa using hi)] at h2
    rw[fm] at h2
    split at h2 <;> cases h2
  have hv:(vs++fv)[i]?=some v:=by
   unfold jCH kT at h2
   rw[bA (by simpa using hi),aG] at h2
   cases e:(vs++fv)[i]? with
   | none=>rw[e] at h2; cases h2
   | some a=>rw[e] at h2; cases h2; rfl
  have hy:(ps++fs)[i]?=some y:=by
   rw[<- S.pre,fe (by omega)]
   exact h1'
  by_cases hi1:i<ps.length
  ·rw[bA hi1] at hy
   rw[bA (by omega)] at hv
   obtain⟨u,hu,rv⟩:=r.get hv
   have ndP:ps.Nodup:=by
    have:(ps++fs).Nodup:=by rw[<- S.pre]; exact S.nd.sublist (cY _ _)
    exact(List.nodup_append.mp this).1
   exact⟨u,rv, .inl ⟨S.par y (aW hy),jD6 ndP hy hu⟩⟩
  ·rw[bu (by omega)] at hy
   rw[bu (by omega),vl] at hv
   obtain⟨c,u,e,rv,o,ho,hd⟩:=Fv.2 _ y v hy hv
   exact⟨u,rv, .inr ⟨.inr (S.fre y (aW hy)),c,e,o,hk _ _ ho,hd⟩⟩
 ·obtain⟨⟨v,o,ho,hd⟩,_⟩:=C.cell y c h
  exact⟨v,o,hk _ _ ho,hd⟩
 ·unfold jCH kT
  show _=N.length
  rw[al,ae,cC,al,vl,Fv.1]
  omega
end
structure FnN (P:Program)(w:World)(K:W.Frag)(mg:Str->Option Value)(base:Heap)(k:Nat)(x q:Str)(args:Arguments)(body:List Stmt)(scope:Scope)(ps fs:List Str)(sp:List V->Sp):Prop where
 len:∀ fv vs H Q E,sp fv vs H Q E->vs.length=ps.length
 run:∀ (A:Around) (outer:List Env) (s:Shared) (H:Hp) (a c:Addr) (cl:List (Str×Addr)) (us:List Value) (vs fv:List V) (Q:VK) (E:XK),Room k A->Env0 P w K mg base A outer s H->nfP x q args body scope cl a c s.heap->ncP q c s.heap->ClOk cl s H->FvOk fs fv cl s->Vals vs us->sp fv vs H Q E->
  codeAny (model P w) A (.call (.ref a) ⟨us,[]⟩) (CR CX0 outer P w H s Q E) s
theorem jOL {P:Program}{w:World}{K:W.Frag}{mg:Str->Option Value}{base:Heap}{k:Nat}{x q:Str}{args:Arguments}{body:List Stmt}{scope:Scope}{N ps fs:List Str}{sp:List V->Sp}(S:NScope N ps fs scope)(len:∀ fv vs H Q E,sp fv vs H Q E->vs.length=ps.length)
  (hb:∀ cl doc pm c ctv (us:List Value),us.length=ps.length->bindArgs (PySem.W.fnX x q args body scope cl .none .none doc pm none (.ref c) ctv) ⟨us,[]⟩=pure (ps.zip us))
  (hbody:∀ (A:Around) (outer:List Env) (s:Shared) (H:Hp) (a c:Addr) (cl:List (Str×Addr)) (vs fv:List V) (Q:VK) (E:XK),Room k (A.deeper (envX q scope s.heap.objs.size a (.ref c) cl))->sp fv vs H Q E->
   ∃ t,PSs (cxN P w K mg base N q scope a (.ref c) cl A outer s H) body t/\t { nx:=fun _ H'=>Q .non H',rt:=Q} (jCH N vs fv) H):
  FnN P w K mg base (k+1) x q args body scope ps fs sp:=by
 refine⟨len,fun A outer s H a c cl us vs fv Q E hr e0 hf hc C Fv r hsp=>?_⟩
 have hl:us.length=ps.length:=r.length.symm.trans (len _ _ _ _ _ hsp)
 obtain⟨doc,pm,ctv,ho⟩:=hf
 have lim:s.heap.NoLimit:=e0.mod.nolimit.keeps fun b o e=>(e0.bs b o e).1
 refine codeAny_call_def (body:=body) (binds:=ps.zip us) hr.depth ho rfl lim hc rfl (.of_eq (hb cl doc pm c ctv us hl)) S.nocell (fun y hy=>S.par y.1 (cy hy).1) (fun h1 ns hk=>?_) S.co S.gen S.kind
 obtain⟨t,ht,hq⟩:=hbody A outer s H a c cl vs fv Q E (hr.deeper _) hsp
 have I:Inv (cxN P w K mg base N q scope a (.ref c) cl A outer s H) [] (jCH N vs fv) H { s with heap:=h1,toks:=s.toks+(ps.zip us).length} :=jHD S hr.hd e0 hl r C Fv ns hk
 refine bf (ht [] _ (jCH N vs fv) H _ I hq) (fun fl s' hs=>?_) fun e s' hs=>False.elim hs
 have fin:∀ {σ':St}{H':Hp}{v:V}{u:Value},Inv (cxN P w K mg base N q scope a (.ref c) cl A outer s H) [] σ' H' s'->RelV v u->Q v H'->CE outer P w H s Q u s':=
  fun {σ' H' v u} J rv q=>⟨v,H',J.os,J.bare,J.base,J.hok,rv,q⟩
 cases fl with
 | ret u=>
  obtain⟨v,σ',H',J,rv,q⟩:=hs
  exact fin J rv q
 | next=>
  obtain⟨σ',H',J,q⟩:=hs
  exact fin (v:=V.non) (u:=Value.none) J rfl q
 | brk=>
  obtain⟨_,_,_,q⟩:=hs
  exact False.elim q
 | cont=>
  obtain⟨_,_,_,q⟩:=hs
  exact False.elim q
def jFY (σ:St)(is:List Nat)(fv:List V):Prop:=is.map (fun i=>(σ[i]?).getD none)=fv.map some
def tNest (σ0:Option St)(j:Nat)(is:List Nat)(x q:Str)(args:Arguments)(body:List Stmt)(scope:Scope)(cl:List (Str×Addr))(sp:List V->Sp)(t:TA):TE:=fun σ H Q=>∃ a,σ[j]?=some (some (.ref a))/\t σ H fun vs H1=>∃ c fv,H1 a=some (.ext (nfP x q args body scope cl a c))/\H1 c=some (.ext (ncP q c))/\jFY (σ0.getD σ) is fv/\sp fv vs H1 Q E0
section
variable {X:Cx}{pins:List (Addr×Obj)}{σ:St}{H:Hp}{s:Shared}{fs:List Str}{fv:List V}{is:List Nat}{scope:Scope}
def FsAt (X:Cx)(fs:List Str)(is:List Nat):Prop:=is.length=fs.length/\∀ (k:Nat) (x:Str),fs[k]?=some x->∃ i,is[k]?=some i/\X.N[i]?=some x/\(X.env.scope.names.lookup x=some .cell\/X.env.scope.names.lookup x=some .free)
theorem Inv.clOk (I:Inv X pins σ H s)(hfree:∀ y∈scope.names,y.2= .free->X.env.scope.names.lookup y.1=some .cell\/X.env.scope.names.lookup y.1=some .free):ClOk (jM X.env.cells scope.names []) s H:=by
 have sub:∀ x c,(jM X.env.cells scope.names []).lookup x=some c->X.env.cells.lookup x=some c:=jA4 scope.names [] (fun y hy hf=>I.ok.has y.1 (hfree y hy hf)) (fun x c e=>by cases e)
 exact⟨fun x y c h1 h2=>I.ok.inj x y c (sub x c h1) (sub y c h2),fun x c h=>⟨I.cell x c (sub x c h),I.freeC x c (sub x c h)⟩⟩
theorem Inv.fvOk (I:Inv X pins σ H s)(hfree:∀ y∈scope.names,y.2= .free->X.env.scope.names.lookup y.1=some .cell\/X.env.scope.names.lookup y.1=some .free)(hfs:∀ x∈fs,scope.names.lookup x=some .free)(ha:FsAt X fs is)(hs:jFY σ is fv):FvOk fs fv (jM X.env.cells scope.names []) s:=by
 have hl:fv.length=fs.length:=by
  have:=bF List.length hs
  rw[ae,ae] at this
  rw[<- this,ha.1]
 refine⟨hl,fun k x v h1 h2=>?_⟩
 obtain⟨i,hi,hN,hk⟩:=ha.2 k x h1
 have e:(σ[i]?).getD none=some v:=by
  have:=bF (fun l=>l[k]?) hs
  simp only [aG,hi,h2,map_some] at this
  exact aK this
 have e2:σ[i]?=some (some v):=by
  cases q:σ[i]? with
  | none=>rw[q] at e; cases e
  | some z=>rw[q] at e; exact bF some e
 obtain⟨m,hn,hl⟩:=I.loc
 obtain⟨u,r,l⟩:=hl i x v hN e2 (.inr hk)
 obtain⟨c,hc⟩:=jAI (cells:=X.env.cells) (x:=x) scope.names [] (.inl (jAG (hfs x (aW h1))))
 have sub:=jA4 (cells:=X.env.cells) scope.names [] (fun y hy hf=>I.ok.has y.1 (hfree y hy hf)) (fun x c e=>by cases e) x c hc
 rcases l with ⟨lk,_⟩ | ⟨_,c',hc',z⟩
 ·have lk':X.env.scope.names.lookup x=some .local:=lk
  rcases hk with z | z <;> rw[lk'] at z <;> cases z
 ·rw[sub] at hc'
  cases hc'
  exact⟨c,u,hc,r,z⟩
end
section
variable {X:Cx}{k:Nat}{x q:Str}{args:Arguments}{body:List Stmt}{scope:Scope}{ps fs:List Str}{is:List Nat}{sp:List V->Sp}{p pos:Pos}{e:Expr}{es:List Expr}{t:TA}{j:Nat}
theorem jG0 {Y:Cx}{pins:List (Addr×Obj)}{σ:St}{H:Hp}{s:Shared}{Q:VK}{cl:List (Str×Addr)}{a c:Addr}{us:List Value}{vs fv:List V}(F:FnN Y.prog Y.w Y.K Y.mg Y.base k x q args body scope ps fs sp)(hr:Room k Y.A)(I:Inv Y pins σ H s)(h1:H a=some (.ext (nfP x q args body scope cl a c)))(h2:H c=some (.ext (ncP q c)))(C:ClOk cl s H)(Fv:FvOk fs fv cl s)(r:Vals vs us)(hs:sp fv vs H Q E0):
  wpAny (model Y.prog Y.w) Y.A (call (.ref a) us) (EP Y pins σ Q) Y.xe s:=by
 obtain⟨p1,_,_⟩:=(show ObjOk Y.prog Y.w H s.heap a (.ext _) from I.hok a _ h1)
 obtain⟨p2,_,_⟩:=(show ObjOk Y.prog Y.w H s.heap c (.ext _) from I.hok c _ h2)
 refine dn (bX (F.run Y.A Y.stack s H a c cl us vs fv Q E0 hr I.env0 p1 p2 C Fv r hs) fun r s' hq=>?_)
 cases r with
 | error e=>exact hq.elim
 | ok fl=>
  cases fl with
  | ret u=>exact I.after hq
  | next=>exact False.elim hq
  | brk=>exact False.elim hq
  | cont=>exact False.elim hq
theorem jJH {Y:Cx}{pins:List (Addr×Obj)}{σ:St}{H:Hp}{s:Shared}{cl:List (Str×Addr)}{a c:Addr}(I:Inv Y pins σ H s)(h1:H a=some (.ext (nfP x q args body scope cl a c))):PySem.W.FnAt a s.heap:=by
 obtain⟨⟨d,m,t,e⟩,_,_⟩:=(show ObjOk Y.prog Y.w H s.heap a (.ext _) from I.hok a _ h1)
 exact⟨_,_,_,_,e⟩
theorem jMN (F:FnN X.prog X.w X.K X.mg X.base k x q args body scope ps fs sp)(hr:Room k X.A)(hN:X.N[j]?=some x)(hv:Vis1 X x)(hfree:∀ y∈scope.names,y.2= .free->X.env.scope.names.lookup y.1=some .cell\/X.env.scope.names.lookup y.1=some .free)(hfs:∀ x∈fs,scope.names.lookup x=some .free)(hat:FsAt X fs is)
  (ha:JA X (e::es) t) (he:starEach (e::es) X.env=(false,eval e X.env)::starEach es X.env) (hdb:(x==("__debug__" :Str))=false:=by decide) (hcd:(x==("__classdict__" :Str))=false:=by decide) (hpl:(backTo pos (starEach es X.env)).any (·.1)=false:=by rfl):
  JE X (.Call (.Name x p) (e::es) [] pos) (tNest none j is x q args body scope (jM X.env.cells scope.names []) sp t):=by
 refine⟨fun pins s σ H Q I h=>?_⟩
 obtain⟨a,hj,h⟩:=h
 refine bB (thn (jG4 (pos:=p) hN hv.a hdb hcd pins s σ H (fun v H'=>v= .ref a/\H'=H) I ⟨_,hj,rfl,rfl⟩) fun v s1 ⟨v',H1,I1,r1,q1,q2⟩=>?_)
 subst q1 q2
 cases (show v=Value.ref a from r1)
 have hX:=thn (ha.h pos pins s1 σ H1 _ I1 h) fun us s2 (z:AP X pins σ _ us s2)=>show PySem.W.FnAt a s2.heap/\wpAny (model X.prog X.w) X.A (call (.ref a) ([]++us)) (EP X pins σ Q) X.xe s2 from by
  obtain⟨vs,H2,I2,r,c,fv,h1,h2,h3,h4⟩:=z
  exact⟨jJH I2 h1,jG0 F hr I2 h1 h2 (I2.clOk hfree) (I2.fvOk hfree hfs hat h3) r h4⟩
 rw[he] at hX ⊢
 exact gu (by show ((false || (backTo pos (starEach es X.env)).any (·.1)) || false)=false; rw[hpl]; rfl) keeps_F (bZ hX)
theorem jKS {sc:Scope}{cl:List (Str×Addr)}{C:Addr}{Nc:List Str}{fp:List Addr}{s0:Shared}{H0:Hp}{pins0:List (Addr×Obj)}{σ0:St}(I0:Inv X pins0 σ0 H0 s0)(hfp:∀ b∈fp,FpOk X pins0 H0 b)
  (F:FnN X.prog X.w X.K X.mg X.base k x q args body scope ps fs sp) (hr:Room k X.A) (hN:Nc[j]?=some x) (hv:Vis1 (blk X sc cl C Nc fp s0 H0) x) (hfree:∀ y∈scope.names,y.2= .free->X.env.scope.names.lookup y.1=some .cell\/X.env.scope.names.lookup y.1=some .free) (hfs:∀ x∈fs,scope.names.lookup x=some .free) (hat:FsAt X fs is)
  (ha:JA (blk X sc cl C Nc fp s0 H0) (e::es) t) (he:starEach (e::es) (blk X sc cl C Nc fp s0 H0).env=(false,eval e (blk X sc cl C Nc fp s0 H0).env)::starEach es (blk X sc cl C Nc fp s0 H0).env) (hdb:(x==("__debug__" :Str))=false:=by decide) (hcd:(x==("__classdict__" :Str))=false:=by decide) (hpl:(backTo pos (starEach es (blk X sc cl C Nc fp s0 H0).env)).any (·.1)=false:=by rfl):
  JE (blk X sc cl C Nc fp s0 H0) (.Call (.Name x p) (e::es) [] pos) (tNest (some σ0) j is x q args body scope (jM X.env.cells scope.names []) sp t):=by
 have sub:∀ x c,(jM X.env.cells scope.names []).lookup x=some c->X.env.cells.lookup x=some c:=jA4 scope.names [] (fun y hy hf=>I0.ok.has y.1 (hfree y hy hf)) (fun x c e=>by cases e)
 have nfp:∀ {x c},X.env.cells.lookup x=some c->c∉fp:=fun {x c} h z=>(hfp c z).2.2.2.2.1 x c h rfl
 refine⟨fun pins s σ H Q I h=>?_⟩
 obtain⟨a,hj,h⟩:=h
 refine bB (thn (jG4 (pos:=p) (show (blk X sc cl C Nc fp s0 H0).N[j]?=some x from hN) hv.a hdb hcd pins s σ H (fun v H'=>v= .ref a/\H'=H) I ⟨_,hj,rfl,rfl⟩) fun v s1 ⟨v',H1,I1,r1,q1,q2⟩=>?_)
 subst q1 q2
 cases (show v=Value.ref a from r1)
 have hX:=thn (ha.h pos pins s1 σ H1 _ I1 h) fun us s2 (z:AP (blk X sc cl C Nc fp s0 H0) pins σ _ us s2)=>show PySem.W.FnAt a s2.heap/\wpAny (model X.prog X.w) X.A (call (.ref a) ([]++us)) (EP (blk X sc cl C Nc fp s0 H0) pins σ Q) (blk X sc cl C Nc fp s0 H0).xe s2 from by
  obtain⟨vs,H2,I2,r,c,fv,h1,h2,h3,h4⟩:=z
  have un:Un (frs X.stack) fp H0 H2 s0.heap s2.heap:=I2.base
  have cellK:∀ {y d v},X.env.cells.lookup y=some d->s0.heap.IsCell d v->s2.heap.IsCell d v:=fun {y d v} hd ⟨o,ho,hq⟩=>by
   obtain⟨sl,e⟩:=un.any ho (I0.freeC y d hd) (nfp hd)
   exact⟨_,e,hq⟩
  have C0:=I0.clOk hfree
  obtain⟨f1,f2⟩:=I0.fvOk hfree hfs hat h3
  refine⟨jJH I2 h1,jG0 (Y:=blk X sc cl C Nc fp s0 H0) F hr I2 h1 h2 ⟨C0.inj,fun y d hd=>?_⟩ ⟨f1,fun i y v e1 e2=>?_⟩ r h4⟩
  ·obtain⟨⟨v,z⟩,n⟩:=C0.cell y d hd
   obtain⟨o,ho,hq⟩:=id z
   exact⟨⟨v,cellK (sub y d hd) z⟩,un.free d o ho n (nfp (sub y d hd))⟩
  ·obtain⟨d,u,g1,g2,g3⟩:=f2 i y v e1 e2
   exact⟨d,u,g1,g2,cellK (sub y d g1) g3⟩
 rw[he] at hX ⊢
 exact gu (by show ((false || (backTo pos (starEach es (blk X sc cl C Nc fp s0 H0).env)).any (·.1)) || false)=false; rw[hpl]; rfl) keeps_F (bZ hX)
end
def jL8 (m:List (Option Nat))(wi:TI)(g:TG)(tt:TT)(te:St->TE):TE:=fun σ H Q=>wi σ H (qC m g tt (te σ) σ Q)
section
variable {X:Cx}{tg iter elt:Expr}{ifs:List Expr}{sc:Scope}{pos:Pos}{wi:TI}{g:TG}{tt:TT}{te:St->TE}{m:List (Option Nat)}{Nc:List Str}
theorem jKG (hc:X.calm=true)(hi:PI X tg iter wi)(hkind:sc.kind= .function)(hcell:∀ y∈sc.names,y.2≠ .cell)(hnames:∀ y∈sc.names,y.2= .local->sc.names.lookup y.1=some .local)
  (hfree:∀ y∈sc.names,y.2= .free->X.env.scope.names.lookup y.1=some .cell\/X.env.scope.names.lookup y.1=some .free) (hm:jBL X sc Nc m)
  (hg:∀ cl C fp s H,PG (blk X sc cl C Nc fp s H) tg g) (ht:∀ cl C fp s H,PTs (blk X sc cl C Nc fp s H) ifs tt) (he:∀ cl C fp s H pins σ,Inv X pins σ H s->(∀ b∈fp,FpOk X pins H b)->PE (blk X sc cl C Nc fp s H) elt (te σ))
  (hs:∀ x,foldedSetIterable iter X.env x=pure x:=by intro _; rfl):PE X (.ListComp elt [⟨tg,iter,ifs,0⟩] sc pos) (jL8 m wi g tt te):=by
 intro pins s σ H Q I h
 rw[eval_ListComp]
 exact jGL (tf:=te) (use:=none) hc hi hkind hcell hnames hfree hm hg ht he hs I h (fun D C H5 z1 r ⟨mm,hn⟩ fC sb q=>⟨mm,hn,fun h' s2=>⟨.ref D,H5,sb h' s2,rfl,q⟩⟩)
theorem jKV (hc:X.calm=true)(hi:JI X tg iter wi)(hkind:sc.kind= .function)(hcell:∀ y∈sc.names,y.2≠ .cell)(hnames:∀ y∈sc.names,y.2= .local->sc.names.lookup y.1=some .local)
  (hfree:∀ y∈sc.names,y.2= .free->X.env.scope.names.lookup y.1=some .cell\/X.env.scope.names.lookup y.1=some .free) (hm:jBL X sc Nc m)
  (hg:∀ cl C fp s H,JG (blk X sc cl C Nc fp s H) tg g) (ht:∀ cl C fp s H,JTs (blk X sc cl C Nc fp s H) ifs tt) (he:∀ cl C fp s H pins σ,Inv X pins σ H s->(∀ b∈fp,FpOk X pins H b)->JE (blk X sc cl C Nc fp s H) elt (te σ))
  (hs:FoOk iter):JE X (.ListComp elt [⟨tg,iter,ifs,0⟩] sc pos) (jL8 m wi g tt te):=⟨jKG hc hi.h hkind hcell hnames hfree hm (fun cl C fp s H=>(hg cl C fp s H).h) (fun cl C fp s H=>(ht cl C fp s H).h) (fun cl C fp s H pins σ I f=>(he cl C fp s H pins σ I f).h) (hs.h _)⟩
end
def jOV (Ts:List Addr)(H:Hp):Prop:=∀ b,H b=none\/(∃ o xs,H b=some (.frz o (.lst xs)))\/b∈Ts
theorem jHB {cts:List (Addr×Addr)}{P:Program}{w:World}{K:W.Frag}{mg mb:Str->Option Value}{CX:CXT}{k:Nat}{fa a:Addr}{fd:FuncData}{x:Str}{sp:Sp}{s₁:Shared}{vs:List Value}{ns:List Int}
  (KX:K.In s₁.heap) (hns:s₁.heap.Ns mainGlobals mg) (hb:s₁.heap.Ns builtinsNs mb) (hbb:∀ x:Str,x≠ "__name__" ->mb x=bootBuiltins x) (hlim:s₁.heap.NoLimit) (hg:s₁.gens=#[])
  (ha:s₁.heap.get? a=some { cls:= .type "list",data:= .seq vs.toArray}) (hi:IntsAre vs ns) (hl:ns.length<=sizeLine) (hr:Room k callerA) (hT:∀ T∈cts.map (·.2),s₁.heap.get? T=some (tabObj #[])) (CH:∀ p∈cts,PySem.W.CodeHd s₁.heap p.1 p.2) (hKT:∀ T∈cts.map (·.2),K.lookup T=none)
  (F:∀ base:Heap,K.In base->base.Ns mainGlobals mg->FnOk P w K mg base CX k fa fd [x] sp) (hbind:∀ (s:Shared) (u:Value),BindsTo s fd ⟨[u],[]⟩ [(x,u)])
  (hsp:∀ H:Hp,(∀ T∈cts.map (·.2),H T=some (.tbl #[]))->SqL K H a (ns.map V.int)->sp [.ref a] H (fun v _=>v= .bl true) fun _ _ _=>False)
  (hCX:∀ H e s',CX [] H s₁ (fun _ _ _=>False) e s'->False):
  codeAny (model P w) callerA (.call (.ref fa) ⟨[.ref a],[]⟩) (fun r s'=>r= .ok (.ret (.bool true))/\OldK s₁.heap s'.heap/\s'.os=s₁.os/\AllBare s'.gens) s₁:=by
 have rv:=jE2 hi
 have lenV:=hi.length
 have core:∀ H:Hp,jOV (cts.map (·.2)) H->(∀ T∈cts.map (·.2),H T=some (.tbl #[]))->SqL K H a (ns.map V.int)->HOk P w H s₁.heap->(∀ b,H b≠none->b=a\/b∈cts.map (·.2))->(H a≠none->K.lookup a=none)->
   codeAny (model P w) callerA (.call (.ref fa) ⟨[.ref a],[]⟩) (fun r s'=>r= .ok (.ret (.bool true))/\OldK s₁.heap s'.heap/\s'.os=s₁.os/\AllBare s'.gens) s₁:=by
  intro H hO hHT hS hok hA hK
  have base_of:∀ {b:Addr}{o:Obj},s₁.heap.get? b=some o->H b=none->(hidT s₁.heap H).get? b=some o:=fun e n=>jKZ e n
  have noA:∀ {b:Addr}{o:Obj}{es:Array DictEntry}{ep:Nat},s₁.heap.get? b=some o->o.data= .dict es ep->H b=none:=fun {b o es ep} e d=>by
   cases q:H b with
   | none=>rfl
   | some u=>
    rcases hA b (by rw[q]; simp) with e' | e'
    ·subst e'
     rw[ha] at e; cases e
     have d':Data.seq vs.toArray _=Data.dict es ep:=d
     cases d'
    ·rw[hT b e'] at e; cases e
     have d':Data.fields _=Data.dict es ep:=d
     cases d'
  have nsK:∀ {b:Addr}{m:Str->Option Value},s₁.heap.Ns b m->(hidT s₁.heap H).Ns b m:=fun {b m} ⟨o,es,ep,e,d,r⟩=>⟨o,es,ep,base_of e (noA e d),d,r⟩
  have hKb:K.In (hidT s₁.heap H):=fun b o e=>base_of (KX b o e) (by
   cases q:H b with
   | none=>rfl
   | some u=>
    rcases hA b (by rw[q]; simp) with e' | e'
    ·subst e'
     rw[hK (by rw[q]; simp)] at e; cases e
    ·rw[hKT b e'] at e; cases e)
  have hM:Mod K mg (hidT s₁.heap H):=⟨hKb,nsK hns,⟨mb,nsK hb,hbb⟩,let ⟨mc,h1,h2⟩:=hlim; ⟨mc,nsK h1,h2⟩⟩
  have e0:Env0 P w K mg (hidT s₁.heap H) callerA [] s₁ H:=⟨rfl,hM,fun b o e=>jMJ e,Nat.le_of_eq (jJE _ _),trivial,fun b hb=>absurd (show b∈([]:List Addr) from hb) (by simp),hok, .of_eq hg⟩
  refine bX ((F _ hKb (nsK hns)).run callerA [] s₁ H ⟨[.ref a],[]⟩ [.ref a] [.ref a] _ _ hr e0 (hbind s₁ (.ref a)) (.cons rfl .nil) (hsp H hHT hS)) fun r s' h=>?_
  cases r with
  | error e=>exact(hCX H e s' h).elim
  | ok fl=>
   cases fl with
   | next=>exact False.elim h
   | brk=>exact False.elim h
   | cont=>exact False.elim h
   | ret u=>
    obtain⟨v,H',os,bare,un,hok',r',q⟩:=h
    have q':v= .bl true:=q
    subst q'
    obtain rfl:u=Value.bool true:=r'
    have gr:∀ T∈cts.map (·.2),∃ more,s'.heap.get? T=some (tabObj (#[]++more)):=fun T hTm=>by
     obtain⟨more,z⟩:=un.tbls T _ (hHT T hTm)
     exact⟨more,hok' T _ z⟩
    have kp:∀ b o,b∉cts.map (·.2)->s₁.heap.get? b=some o->s'.heap.get? b=some o:=fun b o hbT e=>?_
    ·refine⟨rfl,⟨fun b o e=>?_,fun b o e=>?_⟩,os,bare⟩
     ·by_cases hb:b∈cts.map (·.2)
      ·obtain⟨p,hp,rfl⟩:=bE.mp hb
       have q:=hT _ hb
       rw[q] at e
       cases e
       obtain⟨more,z⟩:=gr _ hb
       exact .inr (.inl ⟨((CH p hp).tab q).isCodeTable,rfl,#[],more,rfl,z⟩)
      ·exact .inl (kp b o hb e)
     ·by_cases hb:b∈cts.map (·.2)
      ·obtain⟨more,z⟩:=gr _ hb
       exact⟨_,z⟩
      ·exact⟨o,kp b o hb e⟩
    cases q:H b with
    | none=>exact un.keep b o e q (by intro z; exact absurd (show b∈([]:List Addr) from z) (by simp)) (by simp)
    | some u=>
     rcases hO b with z | ⟨ob,xs,z⟩ | z
     ·rw[q] at z; cases z
     ·have z2:=un.frzs b ob _ z
      obtain⟨e1,_⟩:=hok b _ z
      obtain⟨e2,_⟩:=hok' b _ z2
      rw[e] at e1; cases e1
      exact e2
     ·exact absurd z hbT
 have aT:a∉cts.map (·.2):=fun z=>by rw[hT a z] at ha; cases ha
 cases hk:K.lookup a with
 | some o=>
  have e:=KX a o hk
  rw[ha] at e
  cases e
  refine core (fun b=>if b∈cts.map (·.2) then some (.tbl #[]) else none) (fun b=>?_) (fun T hm=>aA hm) (.inr ⟨_,vs.toArray,_,hk,rfl,rfl,rfl,by rw[ah,lenV]; exact hl,by simpa using rv⟩) (fun b u z=>?_) (fun b z=>?_) fun z=>absurd (az aT) z
  ·by_cases hb:b∈cts.map (·.2)
   ·exact .inr (.inr hb)
   ·exact .inl (az hb)
  ·by_cases hb:b∈cts.map (·.2)
   ·have z':=(aA hb).symm.trans z
    cases z'
    exact hT b hb
   ·have z':=(az hb).symm.trans z
    cases z'
  ·by_cases hb:b∈cts.map (·.2)
   ·exact .inr hb
   ·exact absurd (az hb) z
 | none=>
  refine core (fun b=>if b∈cts.map (·.2) then some (.tbl #[]) else if b=a then some (.frz { cls:= .type "list",data:= .seq vs.toArray} (.lst (ns.map V.int))) else none) (fun b=>?_) (fun T hm=>aA hm) (.inl (.inr ⟨{ cls:= .type "list",data:= .seq vs.toArray},by dsimp only; rw[az aT,aA rfl]⟩)) (fun b u z=>?_) (fun b z=>?_) fun _=>hk
  ·by_cases hT':b∈cts.map (·.2)
   ·exact .inr (.inr hT')
   ·by_cases hb:b=a
    ·exact .inr (.inl ⟨_,_,by dsimp only; rw[az hT',aA hb]⟩)
    ·exact .inl (by dsimp only; rw[az hT',az hb])
  ·dsimp only at z
   by_cases hT':b∈cts.map (·.2)
   ·rw[aA hT'] at z
    cases z
    exact hT b hT'
   ·rw[az hT'] at z
    by_cases hb:b=a
    ·rw[aA hb] at z
     cases z
     subst hb
     exact⟨ha,by rw[ae]; exact hl,vs,_,rv,ha⟩
    ·rw[az hb] at z
     cases z
  ·replace z:(if b∈cts.map (·.2) then some (HO.tbl #[]) else if b=a then some (HO.frz { cls:= .type "list",data:= .seq vs.toArray} (.lst (ns.map V.int))) else none)≠none:=z
   by_cases hT':b∈cts.map (·.2)
   ·exact .inr hT'
   ·by_cases hb:b=a
    ·exact .inl hb
    ·rw[az hT',az hb] at z
     exact absurd rfl z
theorem walk_ofTs {cts:List (Addr×Addr)}{l:PySem.W.OpenLaw}{n k:Nat}{q:Program}{loose:List Str}{XP:(Str->Option Value)->Heap->Prop}{YP:World->Heap->Prop}{d:DefRec}{K:Params->W.Frag}{CX:World->CXT}{sp:World->Sp}{x:Str}
  (hn:l.most=some n) (hn2:n<=sizeLine) (hdf:d.params.defaults=[]) (hr:Room k callerA)
  (hY:∀ (w:World) (h:Heap),YP w h->(K w.params).In h/\∀ T∈cts.map (·.2),h.get? T=some (tabObj #[])) (hcd:∀ w:World,∀ p∈cts,codeHdIn (K w.params) p.1 p.2=true) (hKT:∀ w:World,∀ T∈cts.map (·.2),(K w.params).lookup T=none)
  (F:∀ (w:World) (mg:Str->Option Value) (fa:Addr) (h:Heap),(K w.params).In h->h.Ns mainGlobals mg->mg d.name=some (.ref fa)->
   ∃ fd:FuncData,(∀ (s:Shared) (u:Value),BindsTo s fd ⟨[u],[]⟩ [(x,u)])/\
    ∀ base:Heap,(K w.params).In base->base.Ns mainGlobals mg->FnOk l.prog w (K w.params) mg base (CX w) k fa fd [x] (sp w))
  (hsp:∀ (w:World) (H:Hp) (a:Addr) (ns:List Int),ns.length<=n->(∀ T∈cts.map (·.2),H T=some (.tbl #[]))->SqL (K w.params) H a (ns.map V.int)->sp w [.ref a] H (fun v _=>v= .bl true) fun _ _ _=>False)
  (hCX:∀ (w:World) (H:Hp) (s:Shared) (e:Value) (s':Shared),CX w [] H s (fun _ _ _=>False) e s'->False):
  PySem.W.WalkO q loose XP YP l.row.toRowW d [] (fun f vs=>PySem.call f vs):=by
 refine Att.attach_call hn hdf fun w s₀ s₁ mg mb fa o pm cd doc a vs ns G Y ho hd _ hmg hobj hints hlen hg=>?_
 obtain⟨KX,hT⟩:=hY w _ Y
 obtain⟨fd,hb,hF⟩:=F w mg fa _ KX G.T.g hmg
 exact jHB KX G.T.g G.T.b G.T.builtins G.T.nolimit hg hobj hints (bt hlen hn2) hr hT (fun p hp=>gw KX (hcd w p hp)) (hKT w) hF hb (fun H hO hS=>hsp w H a ns hlen hO hS) fun H e s'=>hCX w H s₁ e s'
open PySem.AutoSeq1 (wpAny_loadPart')
section
variable {prog:Program}{w:World}{A:Around}{E:Value->Shared->Prop}{s:Shared}
theorem jL1 {tp:Bool}{e it l:Addr}{i:Nat}{xs:Array Value}{x old:Value}{Q:Value->Shared->Prop}(ee:IsEnum s.heap e it i old)(g1:ItAt tp s.heap it l i)(o1:ObAt tp s.heap l xs)(hx:xs[i]?=some x)(ne:e≠it)
  (k:∀ h',IsEnumOut h' e it ((i:Int)+1) x s.heap.objs.size->ItAt tp h' it l (i+1)->h'.get? s.heap.objs.size=some { cls:= .type "tuple",data:= .seq #[.int i s.toks,x]} ->h'.objs.size=s.heap.objs.size+1->
   (∀ c o,c≠e->c≠it->s.heap.get? c=some o->h'.get? c=some o)->Q (.ref s.heap.objs.size) { s with heap:=h',toks:=s.toks+1}):
  wpAny (model prog w) A (Builtin.«enumerate.__next__» ⟨[.ref e],[]⟩) (fun fin s'=>∃ v,fin= .done (.ret v)/\Q v s') E s:=by
 obtain⟨hp,g,d,tk,os⟩:=s
 show wpAny (model prog w) A (field (.ref e) 2 >>= _) _ _ _
 refine ac (aN ee rfl (x:= .ref it) rfl (ac (next1 g1 o1 hx fun p1 r1 q1=>?_)))
 have q1:Heap.SameBut it hp p1:=q1
 have e1:IsEnum p1 e it i old:=(q1.2 e ne).trans ee
 show wpAny (model prog w) A (field (.ref e) 3 >>= _) _ _ ⟨p1,g,d,tk,os⟩
 refine ac (aN e1 rfl (x:=rawInt i) rfl (?_:wpAny (model prog w) A (field (.ref e) 4 >>= _) _ _ ⟨p1,g,d,tk,os⟩))
 refine ac (aN e1 rfl (x:= .none) rfl (?_:wpAny (model prog w) A (mkInt i >>= _) _ _ ⟨p1,g,d,tk,os⟩))
 refine ac (wpAny_mkInt (?_:wpAny (model prog w) A (setField (.ref e) 3 (rawInt ((i:Int)+1)) >>= _) _ _ ⟨p1,g,d,tk+1,os⟩))
 refine ac (bo e1 (by simp) fun p2 e2 q2=>?_)
 have q2:Heap.SameBut e p1 p2:=q2
 have e2:IsEnum p2 e it ((i:Int)+1) old:=e2
 show wpAny (model prog w) A (setField (.ref e) 4 .none >>= _) _ _ ⟨p2,g,d,tk+1,os⟩
 refine ac (bo e2 (by simp) fun p3 e3 q3=>?_)
 have q3:Heap.SameBut e p2 p3:=q3
 have e3:IsEnum p3 e it ((i:Int)+1) old:=e3
 show wpAny (model prog w) A (newTuple [.int i tk,x] >>= _) _ _ ⟨p3,g,d,tk+1,os⟩
 refine ac (wpAny_newTuple ?_)
 have e4:IsEnum (p3.push { cls:= .type "tuple",data:= .seq #[.int i tk,x]}) e it ((i:Int)+1) old:=af _ e3
 have sz:p3.objs.size=hp.objs.size:=by rw[q3.1,q2.1,q1.1]
 have lt:e<hp.objs.size:=ak ee
 have t4:(p3.push { cls:= .type "tuple",data:= .seq #[.int i tk,x]}).get? hp.objs.size=some { cls:= .type "tuple",data:= .seq #[.int i tk,x]} :=by rw[<- sz]; exact aj _ rfl
 have z4:(p3.push { cls:= .type "tuple",data:= .seq #[.int i tk,x]}).objs.size=hp.objs.size+1:=by rw[bv,sz]
 have k4:∀ c o,c≠e->c≠it->hp.get? c=some o->(p3.push { cls:= .type "tuple",data:= .seq #[.int i tk,x]}).get? c=some o:=fun c o n1 n2 v=>af _ (q3.extBut c o n1 (q2.extBut c o n1 (q1.extBut c o n2 v)))
 have r4:ItAt tp (p3.push { cls:= .type "tuple",data:= .seq #[.int i tk,x]}) it l (i+1):=((r1.but q2.extBut ne.symm).but q3.extBut ne.symm).at fun o v=>af _ v
 generalize p3.push { cls:= .type "tuple",data:= .seq #[.int i tk,x]} =p4 at e4 t4 z4 k4 r4 ⊢
 show wpAny (model prog w) A (Builtin.SmallTypes.ownedTupleIsFree (.ref e) >>= _) _ _ ⟨p4,g,d,tk+1,os⟩
 rw[sz]
 refine ac (by
  unfold Builtin.SmallTypes.ownedTupleIsFree
  refine ac (aN e4 rfl (x:= .none) rfl (ag ?_))
  simp only [fM]
  refine ac (cI (ac (aN e4 rfl (x:=old) rfl (ac (bo e4 (by simp) fun p5 e5 q5=>?_)))))
  have q5:Heap.SameBut e p4 p5:=q5
  have e5:IsEnum p5 e it ((i:Int)+1) x:=e5
  refine ac (m:=Builtin.SmallTypes.ownedTupleHandOut (.ref e) (.ref hp.objs.size)) ?_
  unfold Builtin.SmallTypes.ownedTupleHandOut
  refine ac (bo e5 (by simp) fun p6 e6 q6=>?_)
  have q6:Heap.SameBut e p5 p6:=q6
  have e6:IsEnumOut p6 e it ((i:Int)+1) x hp.objs.size:=e6
  refine bo e6 (by simp) fun p7 e7 q7=>?_
  have q7:Heap.SameBut e p6 p7:=q7
  have e7:IsEnumOut p7 e it ((i:Int)+1) x hp.objs.size:=e7
  have up:∀ c o,c≠e->p4.get? c=some o->p7.get? c=some o:=fun c o n v=>q7.extBut _ _ n (q6.extBut _ _ n (q5.extBut _ _ n v))
  exact ac (wpAny_letGo (ag ⟨_,rfl,k p7 e7 (r4.at fun o v=>up _ o ne.symm v) (up _ _ (cw lt) t4) (by rw[q7.1,q6.1,q5.1,z4]) fun c o n1 n2 v=>up c o n1 (k4 c o n1 n2 v)⟩)))
theorem jGZ {tp:Bool}{e it l:Addr}{i:Nat}{xs:Array Value}{x old:Value}{Q:Option Value->Shared->Prop}(ee:IsEnum s.heap e it i old)(g1:ItAt tp s.heap it l i)(o1:ObAt tp s.heap l xs)(hx:xs[i]?=some x)(ne:e≠it)
  (k:∀ h',IsEnumOut h' e it ((i:Int)+1) x s.heap.objs.size->ItAt tp h' it l (i+1)->h'.get? s.heap.objs.size=some { cls:= .type "tuple",data:= .seq #[.int i s.toks,x]} ->h'.objs.size=s.heap.objs.size+1->
   (∀ c o,c≠e->c≠it->s.heap.get? c=some o->h'.get? c=some o)->Q (some (.ref s.heap.objs.size)) { s with heap:=h',toks:=s.toks+1}):
  wpAny (model prog w) A (pyNext (.ref e)) Q E s:=by
 have ty:s.TypeIs (.ref e) "enumerate" :=⟨_,ee,rfl⟩
 unfold pyNext
 exact ac (cB (aQ (name:=Str.ofString "__next__") ty F.slot_enumerate_next (aR F.slot_enumerate_next ty F.entry_enumerate_next (jL1 ee g1 o1 hx ne fun h' b1 b2 b3 b4 b5=>ag (k h' b1 b2 b3 b4 b5)) (F.args_enumerate_next_1 _))))
theorem jH0 {tp:Bool}{e it l:Addr}{i:Nat}{xs:Array Value}{old:Value}{Q:Option Value->Shared->Prop}(hh:A.handled=none)(ee:IsEnum s.heap e it i old)(g1:ItAt tp s.heap it l i)(o1:ObAt tp s.heap l xs)(hx:xs[i]?=none)
  (k:∀ h',(∀ c o,c≠e->c≠it->s.heap.get? c=some o->h'.get? c=some o)->Q none { s with heap:=h'}):wpAny (model prog w) A (pyNext (.ref e)) Q E s:=by
 have ty:s.TypeIs (.ref e) "enumerate" :=⟨_,ee,rfl⟩
 unfold pyNext
 refine ac (cB (aQ (name:=Str.ofString "__next__") ty F.slot_enumerate_next (aR F.slot_enumerate_next ty F.entry_enumerate_next (?_:wpAny (model prog w) _ (field (.ref e) 2 >>= _) _ _ _) (F.args_enumerate_next_1 _))))
 refine ac (aN ee rfl (x:= .ref it) rfl (ac (next0 hh g1 o1 hx fun h' x kp ⟨u,eu,cu⟩=>?_)))
 exact ac (cL (T:= "StopIteration") (b:=true) ⟨u,eu,cu⟩ gi (ag (k _ fun c o _ n v=>kp c o n v)))
end
set_option maxHeartbeats 2000000 in
theorem jIR (tp:Bool)(l:Addr)(xs:Array Value)(u:Obj):
  Meets (Builtin.«enumerate.__new__» ⟨[.type "enumerate", .ref l],[]⟩) (fun _ R s=>s.heap.get? l=some u/\ObAt tp s.heap l xs/\
   R (.ok (.ret (.ref (s.heap.push (iterO tp l)).objs.size))) { s with heap:=(s.heap.push (iterO tp l)).push { cls:= .type "enumerate",data:= .fields #[.none, .bool false, .ref s.heap.objs.size,rawInt 0, .none, .none]}}):=
 .of_wp fun prog w A R s h=>by
  obtain⟨hp,g,d,tk,os⟩:=s
  obtain⟨a0,a1,q⟩:=h
  have sub:=sub_enumerate
  have e1:ObAt tp (Shared.heap ⟨hp,g,d,tk,os⟩) l xs:=a1
  obtain⟨c,dct,dt,sl⟩:=u
  obtain⟨n,hc,hd⟩:∃ n,c=(if tp then .type "tuple" else .type "list")/\dt= .seq xs n:=by
   cases tp with
   | false=>obtain⟨o,e,hc,n,hd⟩:=a1; cases (a0.symm.trans e); exact⟨n,hc,hd⟩
   | true=>obtain⟨o,e,hc,n,hd⟩:=a1; cases (a0.symm.trans e); exact⟨n,hc,hd⟩
  subst hd
  cases tp with
  | false=>
   subst hc
   wp_walk using bb a0
   refine wpAny_stack_any fun _=>ag ?_
   split
   ·rename_i c _ _ _ _ _
    cases hcc:(c==Value.type "enumerate")
    all_goals (wp_walk using bb a0,jDG e1; exact⟨_,rfl,q⟩)
   ·wp_walk using bb a0,jDG e1
    exact⟨_,rfl,q⟩
  | true=>
   subst hc
   wp_walk using bb a0
   refine wpAny_stack_any fun _=>ag ?_
   split
   ·rename_i c _ _ _ _ _
    cases hcc:(c==Value.type "enumerate")
    all_goals (wp_walk using bb a0,jDG e1; exact⟨_,rfl,q⟩)
   ·wp_walk using bb a0,jDG e1
    exact⟨_,rfl,q⟩
theorem jL3 {prog:Program}{w:World}{A:Around}{E:Value->Shared->Prop}{s:Shared}{tp:Bool}{l:Addr}{xs:Array Value}{Q:Value->Shared->Prop}(a1:ObAt tp s.heap l xs)
  (k:∀ h',IsEnum h' (s.heap.objs.size+1) s.heap.objs.size 0 .none->ItAt tp h' s.heap.objs.size l 0->(∀ c o,s.heap.get? c=some o->h'.get? c=some o)->Q (.ref (s.heap.objs.size+1)) { s with heap:=h'}):
  wpAny (model prog w) A (call (.type "enumerate") [.ref l]) Q E s:=by
 obtain⟨u,eu⟩:∃ u,s.heap.get? l=some u:=by
  cases tp with
  | false=>obtain⟨o,e,_⟩:=a1; exact⟨o,e⟩
  | true=>obtain⟨o,e,_⟩:=a1; exact⟨o,e⟩
 refine callType_new F.called_enumerate (by decide) (F.typeCall_enumerate_1 _) (F.newCall_enumerate_1 _) (fun obj=>F.args_object_init_2 obj _) F.entry_enumerate_new (jIR tp l xs u) ⟨eu,a1,?_⟩
 have z1:(s.heap.push (iterO tp l)).objs.size=s.heap.objs.size+1:=bv ..
 have y2:IsEnum ((s.heap.push (iterO tp l)).push { cls:= .type "enumerate",data:= .fields #[.none, .bool false, .ref s.heap.objs.size,rawInt 0, .none, .none]}) (s.heap.push (iterO tp l)).objs.size s.heap.objs.size 0 .none:=aj _ rfl
 have y1:((s.heap.push (iterO tp l)).push { cls:= .type "enumerate",data:= .fields #[.none, .bool false, .ref s.heap.objs.size,rawInt 0, .none, .none]}).get? s.heap.objs.size=some (iterO tp l):=af _ (aj _ (jHC _ _))
 show _/\_
 rw[z1] at y2 ⊢
 exact⟨⟨_,y2,rfl⟩,k _ y2 (.new tp y1) fun c o e=>af _ (af _ e)⟩
section
variable {X:Cx}
def Ite (tp:Bool)(K:W.Frag)(l:Addr):It:=
 ⟨fun i H=>∃ xs x,Sq tp K H l xs/\xs[i]?=some x,
  fun i H v H'=>∃ T x,H T=none/\v= .ref T/\H'=upd H T (.tup [.int (i:Int),x])/\∀ xs,Sq tp K H l xs->xs[i]?=some x,
  fun i H=>∃ xs,Sq tp K H l xs/\xs.length<=i⟩
theorem jHL {P:Program}{w:World}{K:W.Frag}{elts:List Expr}{x1:Nat}{tps:Pos}(tp:Bool)(l e it:Addr)(ne:e≠it):
  Turn P w K (.Tuple elts x1 tps) (Ite tp K l) [e,it] e (fun i h=>(∃ old,IsEnum h e it ((i:Nat):Int) old)/\ItAt tp h it l i) where
 mem:=by simp
 obj:=fun i h st b hb=>by
  obtain⟨⟨old,he⟩,y1⟩:=st
  simp only [aq,aJ,bL] at hb
  rcases hb with rfl | rfl
  ·exact⟨_,he,fun v q=>by cases q⟩
  ·exact y1.obj
 keep:=fun i h h' st k=>by
  obtain⟨⟨old,he⟩,h1⟩:=st
  exact⟨⟨old,k e (by simp) _ he⟩,h1.at fun o z=>k it (by simp) o z⟩
 item:=by
  intro X hP hw hK hc i pins s σ H E I hf st hg
  subst hP hw hK
  obtain⟨xs,x,hq1,hx⟩:=hg
  obtain⟨⟨old,he⟩,h1⟩:=st
  obtain⟨its1,r1,p1,_⟩:=I.sq hq1
  obtain⟨u,hu,ru⟩:=r1.get hx
  refine jGZ he h1 p1 (x:=u) (by simpa using hu) ne fun h' a1 a2 a3 a4 a5=>?_
  refine⟨_,rfl,wpAny_letOwnedTupleGo_enum (s:= { s with heap:=h',toks:=s.toks+1}) a1 fun h'' b1 sb=>?_⟩
  have fresh:H s.heap.objs.size=none:=I.fresh
  have ntr:∀ b o,H b=some o->b∉([e,it]:List Addr):=fun b o z hb=>by
   have:=(hf b hb).1
   rw[z] at this; cases this
  have kp:∀ b o,b∉([e,it]:List Addr)->s.heap.get? b=some o->h''.get? b=some o:=fun b o hb z=>by
   simp only [aq,aJ,bL,gR] at hb
   exact(sb.2 b hb.1).trans (a5 b o hb.1 hb.2 z)
  have nz:s.heap.objs.size≠e:=cw (ak he)
  have hT2:h''.get? s.heap.objs.size=some { cls:= .type "tuple",data:= .seq #[.int i s.toks,u]} :=(sb.2 _ nz).trans a3
  have I2:Inv X pins σ (upd H s.heap.objs.size (.tup [.int (i:Int),x])) { s with heap:=h'',toks:=s.toks+1} :=by
   refine I.step (g':=s.gens) (d':=s.drawn) (t':=s.toks+1) (ch:=[e,it]) (fun b hb=>?_) (fun b o _ _ hb z _=>kp b o hb z) (fun b o _ _ hb z _=>⟨o.slots,kp b o hb z⟩)
    (fun b o _ z n=>by rw[jA (ao (ak z))]; exact n) (fun b o hb z=>⟨o,kp b o hb z⟩) (fun b ws z=>by rw[jA (jB z fresh)]; exact z) (fun b o ws z=>by rw[jA (jB z fresh)]; exact z)
    (fun b ps z=>⟨#[],by rw[jA (jB z fresh),z]; simp⟩) (fun m hm=>?_) (fun b o z=>?_) I.bare
   ·obtain⟨f0,f1,f2,f3,f4,f5⟩:=hf b hb
    exact⟨f3,f1,f4,f5⟩
   ·obtain⟨o,es,ep,ho,r⟩:=hm
    exact⟨o,es,ep,kp _ o (fun hb=>(hf _ hb).2.1 rfl) ho,r⟩
   ·by_cases hb:b=s.heap.objs.size
    ·subst hb
     rw[j7] at z
     cases z
     exact⟨by rw[bW]; show 2<=_; decide,[.int i s.toks,u], .cons ⟨_,rfl⟩ (.cons ru .nil),0,hT2⟩
    ·rw[jA hb] at z
     refine(I.hok b o z).stay (fun c w hc q=>kp c w ?_ q) (fun c q=>by rw[jA (jB q fresh)]; exact q) (fun c ws q=>by rw[jA (jB q fresh)]; exact q)
     rcases hc with rfl | hc
     ·exact ntr _ _ z
     ·exact ntr _ _ hc
  refine⟨.ref s.heap.objs.size,_,I2,rfl,⟨_,x,fresh,rfl,rfl,fun xs' q1=>by rw[I.sq_inj q1 hq1]; exact hx⟩,⟨⟨_,b1⟩,?_⟩,fun b hb=>?_⟩
  ·exact a2.at fun o z=>(sb.2 it ne.symm).trans z
  ·rw[jA (fun q=>by
    obtain⟨o,eo⟩:∃ o,s.heap.get? b=some o:=by
     simp only [aq,aJ,bL] at hb
     rcases hb with rfl | rfl
     ·exact⟨_,he⟩
     ·obtain⟨o,z,_⟩:=h1.obj; exact⟨o,z⟩
    exact absurd (ak eo) (by rw[q]; exact bO _))]
   exact(hf b hb).1
 done:=by
  intro X hP hw hK hc i pins s σ H E I hf st hg
  subst hP hw hK
  obtain⟨xs,hq1,hend⟩:=hg
  obtain⟨⟨old,he⟩,h1⟩:=st
  obtain⟨its1,r1,p1,_⟩:=I.sq hq1
  have e1:=r1.length
  refine jH0 (I.ok.hd hc) he h1 p1 (by simp; omega) fun h' kp=>⟨rfl,?_⟩
  have kp2:∀ b o,b∉([e,it]:List Addr)->s.heap.get? b=some o->h'.get? b=some o:=fun b o hb z=>by
   simp only [aq,aJ,bL,gR] at hb
   exact kp b o hb.1 hb.2 z
  have ntr:∀ b o,H b=some o->b∉([e,it]:List Addr):=fun b o z hb=>by
   have:=(hf b hb).1
   rw[z] at this; cases this
  refine I.step (g':=s.gens) (d':=s.drawn) (t':=s.toks) (ch:=[e,it]) (fun b hb=>?_) (fun b o _ _ hb z _=>kp2 b o hb z) (fun b o _ _ hb z _=>⟨o.slots,kp2 b o hb z⟩)
   (fun b o _ z n=>n) (fun b o hb z=>⟨o,kp2 b o hb z⟩) (fun b ws z=>z) (fun b o ws z=>z) (fun b ps z=>⟨#[],by rw[z]; simp⟩) (fun m hm=>?_) (fun b o z=>?_) I.bare
  ·obtain⟨f0,f1,f2,f3,f4,f5⟩:=hf b hb
   exact⟨f3,f1,f4,f5⟩
  ·obtain⟨o,es,ep,ho,r⟩:=hm
   exact⟨o,es,ep,kp2 _ o (fun hb=>(hf _ hb).2.1 rfl) ho,r⟩
  ·refine(I.hok b o z).stay (fun c w hc q=>kp2 c w ?_ q) (fun _ q=>q) fun _ _ q=>q
   rcases hc with rfl | hc
   ·exact ntr _ _ z
   ·exact ntr _ _ hc
 self:=fun _ _ _ _ _ st h=>wpAny_pyIter_enum st.1.choose_spec h
def iEnum (K:W.Frag)(ta:TA):TI:=fun σ H R=>ta σ H fun vs H1=>∃ tp l,vs=[.ref l]/\(∃ xs,Sq tp K H1 l xs)/\R (Ite tp K l) H1
theorem jM4 {a:Expr}{ta:TA}{p pos:Pos}{elts:List Expr}{x1:Nat}{tp:Pos}(hg:Gl X "enumerate")(hm:X.mg "enumerate" =none)(ha:PA X [a] ta)(hv:bootBuiltins "enumerate" =some (.type "enumerate"):=by decide+kernel)
  (he:starEach [a] X.env=(false,eval a X.env)::starEach [] X.env:=by rfl) (hpl:(backTo pos (starEach [] X.env)).any (·.1)=false:=by rfl):
  PI X (.Tuple elts x1 tp) (.Call (.Name "enumerate" p) [a] [] pos) (iEnum X.K ta):=by
 intro pins s σ H R I h
 refine Call_ (jCR I hg hm hv (bq (thn (ha pos pins s σ H _ I h) fun us s1 ⟨vs,H1,I1,r1,q1⟩=>?_) he hpl))
 obtain⟨t1,l1,rfl,⟨xs,hq1⟩,q⟩:=q1
 obtain⟨u,rfl,ru⟩:=r1.one
 cases ru
 obtain⟨its1,_,p1,_⟩:=I1.sq hq1
 refine jL3 p1 fun h' a1 a2 kp=>?_
 have I2:Inv X pins σ H1 { s1 with heap:=h'} :=I1.kept (t':=s1.toks) kp
 refine wpAny_pyIter_enum a1 ⟨s1.heap.objs.size+1,[s1.heap.objs.size+1,s1.heap.objs.size],_,Ite t1 X.K l1,H1,rfl,I2,jHL t1 l1 _ _ (Nat.succ_ne_self _),⟨⟨_,a1⟩,a2⟩,fun b hb=>?_,q⟩
 have hge:s1.heap.objs.size<=b:=by
  simp only [aq,aJ,bL] at hb
  rcases hb with rfl | rfl
  ·exact Nat.le_add_right _ 1
  ·exact ai _
 exact I1.fpOk hge (I1.hok.fresh hge)
theorem jMM {a:Expr}{t:TA}{p pos:Pos}{elts:List Expr}{x1:Nat}{tp:Pos}(hg:Gl1 X "enumerate")(hm:X.mg "enumerate" =none)(ha:JA X [a] t)(he:starEach [a] X.env=(false,eval a X.env)::starEach [] X.env)(hv:bootBuiltins "enumerate" =some (.type "enumerate"):=by decide+kernel)
  (hpl:(backTo pos (starEach [] X.env)).any (·.1)=false:=by rfl):JI X (.Tuple elts x1 tp) (.Call (.Name "enumerate" p) [a] [] pos) (iEnum X.K t):=⟨jM4 hg.a hm ha.h hv he hpl⟩
end
section
variable {K:W.Frag}{m:List (Option Nat)}{g:TG}{tt:TT}{te:TE}{σ:St}{H1:Hp}{Q:VK}
theorem jJS {tp:Bool}{l:Addr}{xs:List V}(hn:xs.length<sizeLine)(Pv:Addr->Nat->St->Hp->List V->Prop)(h0:∀ D,H1 D=none->Pv D 0 (blkσ m σ) (upd H1 D (.lst [])) [])
  (hD:∀ D i σ' H' zs,H1 D=none->Pv D i σ' H' zs->Sq tp K H' l xs/\H' D=some (.lst zs)/\zs.length<=i)
  (hs:∀ D i σ' H' zs x T,H1 D=none->xs[i]?=some x->H' T=none->Pv D i σ' H' zs->g (.ref T) σ' (upd H' T (.tup [.int (i:Int),x])) fun σ2 H2=>tt σ2 H2 fun b H3=>if b=true then te σ2 H3 fun v H4=>H4 D=some (.lst zs)/\Pv D (i+1) σ2 (upd H4 D (.lst (zs++[v]))) (zs++[v]) else Pv D (i+1) σ2 H3 zs)
  (hd:∀ D σ' H' zs,H1 D=none->Pv D xs.length σ' H' zs->Q (.ref D) H'):qC m g tt te σ Q (Ite tp K l) H1:=by
 intro D hDn
 refine⟨fun i k σ' H' zs=>k=xs.length - i/\i<=xs.length/\Pv D i σ' H' zs,⟨_,rfl,aM _,h0 D hDn⟩,?_⟩
 rintro i k σ' H' zs ⟨rfl,hi,p⟩
 obtain⟨s1,q1,q2⟩:=hD D i σ' H' zs hDn p
 refine⟨q1,by omega,?_⟩
 by_cases hlt:i<xs.length
 ·refine .inr ⟨⟨xs,xs[i],s1,by simp [hlt]⟩,Pv D (i+1),fun σ2 H2 zs z=>⟨xs.length - (i+1),by omega,rfl,hlt,z⟩,fun v H'' y=>?_⟩
  obtain⟨T,x,e1,e2,e3,e4⟩:=y
  subst e2 e3
  exact hs D i σ' _ zs x T hDn (e4 xs s1) e1 p
 ·have e:i=xs.length:=by omega
  subst e
  exact .inl ⟨⟨xs,s1,ai _⟩,hd D σ' H' zs hDn p⟩
end
section
variable {κ:Type} [DecidableEq κ]
def valV (kvs:List (κ×V))(k:κ):Option V:=(kvs.find? fun kv=>decide (kv.1=k)).map (·.2)
theorem jDC {p:κ×V}{r:List (κ×V)}{k:κ}(e:p.1=k):valV (p::r) k=some p.2:=by simp [valV,bV,e]
theorem jFW {p:κ×V}{r:List (κ×V)}{k:κ}(e:¬ p.1=k):valV (p::r) k=valV r k:=by simp [valV,bV,e]
theorem RelO.isSome_eq {o:Option V}{u:Option Value}(r:RelO o u):o.isSome=u.isSome:=by
 cases o with
 | none=>cases u with
  | none=>rfl
  | some _=>exact(show False from r).elim
 | some _=>cases u with
  | none=>exact(show False from r).elim
  | some _=>rfl
theorem KV.val {kvs:List (κ×V)}{vs:List (κ×Value)}(r:KV kvs vs)(k:κ):RelO (valV kvs k) (valueAt vs k):=by
 unfold KV at r
 induction r with
 | nil=>exact True.intro
 | @cons p q ps qs h t ih=>
  obtain⟨h1,h2⟩:=h
  by_cases e:p.1=k
  ·have e':q.1=k:=h1.symm.trans e
   have b:valueAt (q::qs) k=some q.2:=by simp [valueAt,bV,e']
   rw[jDC e,b]; exact h2
  ·have e':¬ q.1=k:=fun z=>e (h1.trans z)
   have b:valueAt (q::qs) k=valueAt qs k:=by simp [valueAt,bV,e']
   rw[jFW e,b]; exact ih
theorem KV.keys {kvs:List (κ×V)}{vs:List (κ×Value)}(r:KV kvs vs):kvs.map (·.1)=vs.map (·.1):=by
 unfold KV at r
 induction r with
 | nil=>rfl
 | cons h t ih=>rw[aV,aV,ih,h.1]
end
theorem kV_is {P:Program}{w:World}{k:Key}{u:Value}(r:RelV (kV k) u):(yG P w).is k u=true:=by
 cases k with
 | inl i=>obtain⟨t,e⟩:=(show ∃ t,u=Value.int i t from r); subst e; exact jFJ P w i t
 | inr x=>obtain⟨t,e⟩:=(show ∃ t,u=Value.str x t from r); subst e; exact jFI P w x t
theorem jEP {P:Program}{w:World} :∀ {ks:List Key}{us:List Value},Vals (ks.map kV) us->ItemsAre (yG P w) ks us
 | [],_,r=>by rw[dW] at r; cases r; exact .nil
 | k::ks,_,r=>by
  rw[aV] at r
  cases r with
  | cons h t=>exact .cons (kV_is h) (jEP t)
abbrev KT (H:Hp):List (List Key×V)->List (List Key×Addr×Value)->Prop:=Paired fun p q=>p.1=q.1/\H q.2.1=some (.tup (p.1.map kV))/\RelV p.2 q.2.2
theorem KT.val {H:Hp}{kvs:List (List Key×V)}{xs:List (List Key×Addr×Value)}(r:KT H kvs xs)(k:List Key):RelO (valV kvs k) ((atKey xs k).map (·.2)):=by
 induction r with
 | nil=>exact True.intro
 | @cons p q ps qs h t ih=>
  obtain⟨h1,_,h2⟩:=h
  by_cases e:p.1=k
  ·have e':q.1=k:=h1.symm.trans e
   have b:atKey (q::qs) k=some q.2:=by simp [atKey,bV,e']
   rw[jDC e,b]; exact h2
  ·have e':¬ q.1=k:=fun z=>e (h1.trans z)
   have b:atKey (q::qs) k=atKey qs k:=by simp [atKey,bV,e']
   rw[jFW e,b]; exact ih
section
variable {P:Program}{w:World}{H:Hp}{h:Heap}{a:Addr}
theorem rd_of {u:HO}(ok:HOk P w H h)(e:Rd H a u):ObjOk P w H h a u:=e.ok ok
theorem dk_rd {kvs:List (Key×V)}(ok:HOk P w H h)(e:Rd H a (.dK kvs)):kvs.length<=sizeLine/\(a==sysModules)=false/\∃ vs,KV kvs vs/\h.DictOf (yG P w) a vs:=
 show ObjOk P w H h a (.dK kvs) from rd_of ok e
theorem jIW {ks:List Key}(ok:HOk P w H h)(e:H a=some (.tup (ks.map kV))):(tupleKind (yG P w)).is h ks a:=by
 obtain⟨_,its,r,p⟩:=(show ObjOk P w H h a (.tup (ks.map kV)) from ok a _ e)
 obtain⟨o,h1,h2,n,h3⟩:=p.isTup
 exact⟨o,its.toArray,n,h1,h2,h3,by simpa using jEP r⟩
theorem dt_rd {kvs:List (List Key×V)}(ok:HOk P w H h)(e:Rd H a (.dT kvs)):kvs.length<=sizeLine/\(a==sysModules)=false/\
  ∃ xs,KT H kvs xs/\h.DictOfH (tupleKind (yG P w)) a xs:=by
 obtain⟨z,y,xs,r,o,es,ep,h1,h2,h3,h4,h5⟩:=(show ObjOk P w H h a (.dT kvs) from rd_of ok e)
 refine⟨z,y,xs,r,o,es,ep,h1,h2,h3,h4,fun x hx=>?_,h5⟩
 have all:∀ {l:List (List Key×V)}{m:List (List Key×Addr×Value)},KT H l m->∀ x∈m,(tupleKind (yG P w)).is h x.1 x.2.1:=by
  intro l m q
  induction q with
  | nil=>intro x hx; exact nomatch hx
  | @cons p q ps qs hq t ih=>
   intro x hx
   rcases aq.mp hx with e | hx
   ·subst e
    exact jIW ok (by rw[<- hq.1]; exact hq.2.1)
   ·exact ih x hx
 exact all r x hx
end
def DGet (H:Hp)(a:Addr)(y:V)(r:Option V):Prop:=
 (∃ kvs k,Rd H a (.dK kvs)/\y=kV k/\r=valV kvs k)\/∃ kvs k b,Rd H a (.dT kvs)/\y= .ref b/\H b=some (.tup (k.map kV))/\r=valV kvs k
theorem DGet.k {H:Hp}{a:Addr}{kvs:List (Key×V)}{k:Key}(e:H a=some (.dK kvs)):DGet H a (kV k) (valV kvs k):= .inl ⟨kvs,k, .inl e,rfl,rfl⟩
section
variable {X:Cx}{pins:List (Addr×Obj)}{σ:St}{H:Hp}{s:Shared}{a:Addr}{y v:V}{u r:Value}{o:Option V}{A:Around}{E:Value->Shared->Prop}
theorem Inv.big (I:Inv X pins σ H s):sysModules<s.heap.objs.size:=by
 have h:mainGlobals<s.heap.objs.size:=(I.mod.glob.keeps I.bk).lt
 exact cx (by decide) h
theorem jJN {Q:Value->Shared->Prop}(hu:A.units+1<cLine)(I:Inv X pins σ H s)(g:DGet H a y (some v))(ry:RelV y u)(h:∀ w' s',Inv X pins σ H s'->RelV v w'->Q w' s'):
  wpAny (model X.prog X.w) A (getItem (.ref a) u) Q E s:=by
 rcases g with ⟨kvs,k,e,ey,l⟩ | ⟨kvs,k,b,e,ey,eb,l⟩
 ·subst ey
  obtain⟨z,hd,vs,rel,dd⟩:=dk_rd I.hok e
  obtain⟨w',hw,rw'⟩:=RelO.some_of (v:=v) (o:=valueAt vs k) (by rw[l]; exact rel.val k)
  exact wpAny_getItem_of (kV_is ry) dd.mapOf hw (h w' _ (I.tok _) rw')
 ·subst ey
  cases (show u=Value.ref b from ry)
  obtain⟨z,hd,xs,rel,dd⟩:=dt_rd I.hok e
  obtain⟨w',hw,rw'⟩:=RelO.some_of (v:=v) (o:=(atKey xs k).map (·.2)) (by rw[l]; exact rel.val k)
  obtain⟨p,hp,hp2⟩:=Option.map_eq_some_iff.mp hw
  refine wpAny_getItem_heap (tupleKind_room_in1 hu) (jIW I.hok eb) dd hp ?_
  rw[hp2]
  exact h w' _ (I.tok _) rw'
theorem d_in {Q:Value->Shared->Prop}(hu:A.units+1<cLine)(I:Inv X pins σ H s)(g:DGet H a y o)(ry:RelV y u)(h:∀ s',Inv X pins σ H s'->Q (.bool o.isSome) s'):
  wpAny (model X.prog X.w) A (compareOp .In u (.ref a)) Q E s:=by
 rcases g with ⟨kvs,k,e,ey,l⟩ | ⟨kvs,k,b,e,ey,eb,l⟩
 ·subst ey
  obtain⟨z,hd,vs,rel,dd⟩:=dk_rd I.hok e
  refine wpAny_in_of (kV_is ry) hd dd.mapOf ?_
  rw[<- (rel.val k).isSome_eq,<- l]
  exact h _ (I.tok _)
 ·subst ey
  cases (show u=Value.ref b from ry)
  obtain⟨z,hd,xs,rel,dd⟩:=dt_rd I.hok e
  refine wpAny_in_heap (tupleKind_room_in1 hu) (jIW I.hok eb) hd dd ?_
  have q:=(rel.val k).isSome_eq
  rw[Option.isSome_map] at q
  rw[<- q,<- l]
  exact h _ (I.tok _)
end
section
variable {X:Cx}{pins:List (Addr×Obj)}{σ:St}{H:Hp}{s:Shared}{a:Addr}{kvs:List (Key×V)}{k:Key}{u:Value}{A:Around}{E:Value->Shared->Prop}
end
def NoSl (i:Expr):Prop:=∀ ov iv,subscripted i false ov iv=operate [ov,iv] (getItem ov iv)
theorem jLQ {prog:Program}{w:World}{A:Around}{E:Value->Shared->Prop}{s:Shared}{env:Env}{value slice:Expr}{pos:Pos}{T id:String}{Q:Value->Shared->Prop}
  (hl:typeLookup (.type T) "__getitem__" =pure (some (.builtin id))) (hs:NoSl slice)
  (h:wpAny (model prog w) A (eval value env) (fun o s₁=>wpAny (model prog w) A (eval slice env) (fun i s₂=>s₂.TypeIs o T/\wpAny (model prog w) A (getItem o i) Q E s₂) E s₁) E s):
  wpAny (model prog w) A (eval (.Subscript value slice pos) env) Q E s:=by
 refine Subscript_ (bf h (fun o s₁ h₁=>bf h₁ (fun i s₂ h₂=>?_) fun _ _ x=>x) fun _ _ x=>x)
 obtain⟨hT,h₂⟩:=h₂
 unfold subscriptTail
 refine ac ?_
 rw[getitemInPython_of_ne hT.not_modules]
 refine ac (wpAny_specialOf hT hl ?_)
 have fin:wpAny (model prog w) A (subscripted slice false o i) (fun r s₃=>wpAny (model prog w) A (letTemporaryGo value o r >>= fun _=>pure r) Q E s₃) E s₂:=by
  rw[hs o i]
  exact wpAny_operating (bf h₂ (fun r s₃ h₃=>ac (wpAny_letTemporaryGo (ag h₃))) fun _ _ x=>x)
 first
  | exact ag (ac fin)
  | exact ac (ag (ac fin))
  | exact ac fin
theorem jFO {X:Cx}{pins:List (Addr×Obj)}{σ:St}{H:Hp}{s:Shared}{a:Addr}{y:V}{o:Option V}(I:Inv X pins σ H s)(g:DGet H a y o):s.TypeIs (.ref a) "dict" :=by
 rcases g with ⟨kvs,k,e,_,_⟩ | ⟨kvs,k,b,e,_,_,_⟩
 ·obtain⟨_,_,vs,_,dd⟩:=dk_rd I.hok e
  exact dd.typeIs
 ·obtain⟨_,_,xs,_,dd⟩:=dt_rd I.hok e
  exact dd.typeIs
def tDGet (td ty:TE):TE:=fun σ H Q=>td σ H fun x H1=>ty σ H1 fun y H2=>∃ a v,x= .ref a/\DGet H2 a y (some v)/\Q v H2
def tDIn (ty td:TE):TE:=fun σ H Q=>ty σ H fun y H1=>td σ H1 fun x H2=>∃ a o,x= .ref a/\DGet H2 a y o/\Q (.bl o.isSome) H2
section
variable {X:Cx}{o i e value:Expr}{pos pos' tpos:Pos}{td ty tv:TE}
theorem jM7 (hu:X.A.units+1<cLine)(ho:PE X o td)(hi:PE X i ty)(hs:NoSl i):PE X (.Subscript o i pos) (tDGet td ty):=by
 intro pins s σ H Q I h
 refine jLQ PySem.F.slot_dict_getitem.lookup hs (thn (ho pins s σ H _ I h) fun u s1 ⟨x,H1,I1,rx,q1⟩=>thn (hi pins s1 σ H1 _ I1 q1) fun iv s2 ⟨y,H2,I2,ry,a,v,ex,g,q2⟩=>?_)
 subst ex
 obtain rfl:u=Value.ref a:=rx
 exact⟨jFO I2 g,jJN hu I2 g ry fun w' s3 I3 rw'=>⟨v,H2,I3,rw',q2⟩⟩
theorem jNS (hu:X.A.units+1<cLine)(hi:PE X i ty)(ho:PE X o td):PC X .In i o (tDIn ty td):=by
 intro pins s σ H Q I h
 refine thn (hi pins s σ H _ I h) fun iv s1 ⟨y,H1,I1,ry,q1⟩=>thn (ho pins s1 σ H1 _ I1 q1) fun u s2 ⟨x,H2,I2,rx,a,ov,ex,g,q2⟩=>?_
 subst ex
 obtain rfl:u=Value.ref a:=rx
 exact d_in hu I2 g ry fun s3 I3=>⟨.bl ov.isSome,H2,I3,rfl,q2⟩
end
section
variable {X:Cx}{pos:Pos}
end
section
variable {X:Cx}{pins:List (Addr×Obj)}{σ:St}{H:Hp}{s:Shared}{a:Addr}{y d:V}{u r:Value}{o:Option V}{A:Around}{E:Value->Shared->Prop}
end
section
variable {X:Cx}{o e f:Expr}{apos cpos:Pos}{td ty tx:TE}
end
section
variable {X:Cx}{pins:List (Addr×Obj)}{σ:St}{H:Hp}{s:Shared}{a:Addr}{kvs:List (Key×V)}{A:Around}{E:Value->Shared->Prop}
end
section
variable {X:Cx}{pins:List (Addr×Obj)}{σ:St}{H:Hp}{s:Shared}{a:Addr}{y:V}{u:Value}{A:Around}{E:Value->Shared->Prop}
end
section
variable {κ:Type} [DecidableEq κ]
end
section
variable {prog:Program}{w:World}{A:Around}{E:Value->Shared->Prop}{s:Shared}{d:Addr}{kvs:List (Key×Value)}
end
section
variable {X:Cx}{o i e f value:Expr}{td ty tv tx:TE}{pos pos' apos cpos:Pos}
theorem jMO (hu:X.A.units+1<cLine)(ho:JE X o td)(hi:JE X i ty)(hs:jBZ i):JE X (.Subscript o i pos) (tDGet td ty):=⟨jM7 hu ho.h hi.h hs⟩
end
theorem jE3:entryFor table "dict.update.loop" =some Builtin.«dict.update.loop»:=fw (by kernel_rfl)
theorem jB8:plainId "dict.update.loop" =true:=by decide+kernel
theorem jEJ:typeLookup (.type "list") "keys" =pure none:=am_miss_of_fast (by kernel_rfl)
theorem jCQ:typeLookup (.type "list") "__getattr__" =pure none:=am_miss_of_fast (by kernel_rfl)
section
variable {prog:Program}{w:World}{A:Around}{E:Value->Shared->Prop}{s:Shared}
theorem jIQ (a:Addr)(name:Str)(u:Tok)(hmiss:typeLookup (.type "list") name=pure none)(hsz:name.length+100<=sizeLine)(hgd: [Str.ofString "__module__",Str.ofString "__name__",Str.ofString "__qualname__",Str.ofString "__doc__",Str.ofString "__annotations__"].contains name=false):Meets (Builtin.«object.__getattribute__» ⟨[.ref a, .str name u],[]⟩) (fun A R s=>(∃ its n,s.heap.get? a=some { cls:= .type "list",data:= .seq its n})/\raisesAttr (.ref a) name A R s):=
 Meets.of_wp fun prog w A R s hs=>by
  obtain⟨⟨its,n,ho⟩,hs⟩:=hs
  obtain⟨hp,g,d,tk,os⟩:=s
  have hT:(⟨hp,g,d,tk,os⟩:Shared).TypeIs (.ref a) "list" :=⟨_,ho,rfl⟩
  unfold Builtin.«object.__getattribute__»
  repeat (any_goals (first | assumption | wp_step))
  rw[hgd,az am]
  repeat (any_goals (first | assumption | wp_step))
  exact wpAny_raiseAttrError hs.1 hs.2 (attrMsg_fits (by decide+kernel) hsz)
theorem jIV {a:Addr}{name:Str}(hmiss:typeLookup (.type "list") name=pure none)(hsz:name.length+100<=sizeLine)(hgd: [Str.ofString "__module__",Str.ofString "__name__",Str.ofString "__qualname__",Str.ofString "__doc__",Str.ofString "__annotations__"].contains name=false){its:Array Value}{n:Nat}{Q:Option Value->Shared->Prop}(hA:A.handled=none)(ho:s.heap.get? a=some { cls:= .type "list",data:= .seq its n})
  (h:∀ h' tk,(∀ b u,s.heap.get? b=some u->h'.get? b=some u)->Q none { s with heap:=h',toks:=tk}):wpAny (model prog w) A (getAttr? (.ref a) name) Q E s:=by
 obtain⟨hp,g,d,tk,os⟩:=s
 have hT:∀ tk',(⟨hp,g,d,tk',os⟩:Shared).TypeIs (.ref a) "list" :=fun _=>⟨_,ho,rfl⟩
 have f1:=sub_AttributeError
 have f3:=F.slot_list_getattribute.lookup
 have f4:=F.slot_list_getattribute.bind (.ref a)
 have f5:=jCQ
 unfold getAttr? getAttrBy? getAttrBy
 repeat (any_goals (first | assumption | ((with_reducible show wpAny _ _ (call (Value.builtin "list.__getattribute__") _ _) _ _ _); refine cg F.slot_list_getattribute (hT _) F.entry_list_ga (F.args_list_getattribute_2 _ _) (jIQ a name _ hmiss hsz hgd) ⟨⟨its,n,ho⟩,hA,fun h' tk' e hx=>?_⟩) | wp_step))
 obtain⟨t',u',he⟩:=hx.there
 show wpAny _ _ (getattributeRaised _ _ _ _ _ _ _) _ _ _
 unfold getattributeRaised
 repeat (any_goals (first | assumption | wp_step))
 exact h _ _ fun b u q=>hx.keeps b u q
theorem jH3 {a:Addr}{k v:Value}{m:Nat}{Q:List Value->Shared->Prop}(ho:s.heap.get? a=some { cls:= .type "tuple",data:= .seq #[k,v] m})(h:Q [k,v] s):wpAny (model prog w) A (Builtin.Dict.pairItems (.ref a)) Q E s:=by
 obtain⟨hp,g,d,tk,os⟩:=s
 have hT:(⟨hp,g,d,tk,os⟩:Shared).TypeIs (.ref a) "tuple" :=⟨_,ho,rfl⟩
 unfold Builtin.Dict.pairItems
 repeat (any_goals (first | assumption | wp_step))
end
section
variable {prog:Program}{w:World}{K:Type} [DecidableEq K]{knd:KeyKind prog w K}{A:Around}{R:Result->Shared->Prop}{I:Addr}{fp wr:List Addr}{n:Nat}{P:Nat->Value->Prop}{St:Nat->Shared->Prop}
def jGO (knd:KeyKind prog w K)(h:Heap)(a:Addr)(p:K×Value):Prop:=∃ key m,h.get? a=some { cls:= .type "tuple",data:= .seq #[key,p.2] m} /\knd.is p.1 key=true
theorem upl (W:WalksS prog w A.in1 I fp wr (fun a b=>b=a) n P St)(d:Addr)(hd:d∉fp)(more:List (K×Value))(hmn:more.length=n)(pa:Nat->Addr)(hpd:∀ i,i<n->pa i≠d/\pa i∉wr)(hP:∀ i v,P i v->v= .ref (pa i))(hn:n<=sizeLine):
  ∀ (k i:Nat) (z:Int) (s:Shared),n - i=k->i<=n->St i s->s.heap.DictOf knd d (merged [] (more.take i))->(∀ j p,more[j]?=some p->jGO knd s.heap (pa j) p)->
   (∀ s',Moved (d::wr) (fun a b=>b=a) s s'->s'.heap.DictOf knd d (merged [] more)->R (.ok (.ret .none)) s')->
   codeAny (model prog w) A (.builtin "dict.update.loop" ⟨[.ref d, .ref I,rawInt z, .none],[]⟩) R s:=by
 have hdw:d∉wr:=fun h=>hd (W.sub _ h)
 have sub1:∀ b∈wr,b∈d::wr:=fun b hb=>aC _ hb
 intro k
 induction k with
 | zero=>
  intro i z s hk hi hst hS hp hR
  obtain rfl:i=n:=by omega
  refine bc jE3 ?_
  rw[be jB8 _]
  show wpAny _ A.in1 (pyNext (.ref I) >>= _) _ _ s
  refine ac (W.done s _ _ hst fun s' mv=>?_)
  show wpAny _ A.in1 (Builtin.Dict.addKeywords d [] >>= fun _=>ret Value.none) _ _ s'
  refine ac (ag (ag (hR s' (mv.mono sub1) ?_)))
  obtain⟨o,es,ep,ho,r⟩:=hS
  rw[<- hmn,cq] at r
  exact⟨o,es,ep,mv.heap d o hdw ho,r⟩
 | succ k ih=>
  intro i z s hk hi hst hS hp hR
  have hlt:i<n:=by omega
  refine bc jE3 ?_
  rw[be jB8 _]
  show wpAny _ A.in1 (pyNext (.ref I) >>= _) _ _ s
  refine ac (W.item i s _ _ hlt hst fun v s' hPv hst' mv=>?_)
  obtain rfl:=hP i v hPv
  have hS':s'.heap.DictOf knd d (merged [] (more.take i)):=by
   obtain⟨o,es,ep,ho,r⟩:=hS
   exact⟨o,es,ep,mv.heap d o hdw ho,r⟩
  have hp':∀ j p,more[j]?=some p->jGO knd s'.heap (pa j) p:=fun j p hj=>by
   obtain⟨key,m,e,q⟩:=hp j p hj
   have hjn:j<n:=by rw[<- hmn]; exact(ar.mp hj).1
   exact⟨key,m,mv.heap _ _ (hpd j hjn).2 e,q⟩
  obtain⟨p,hpi⟩:∃ p,more[i]?=some p:=⟨more[i],by simp [hmn,hlt]⟩
  obtain⟨key,m,e1,hk1⟩:=hp' i p hpi
  show wpAny _ A.in1 (holding [Value.ref (pa i)] _ >>= _) _ _ s'
  refine ac (aL (ac ?_))
  refine wpAny_tryCatch (jH3 e1 ?_)
  refine aL (wpAny_dictSet_pairs hk1 hS' (fun h' hd' sb=>?_) (by
   have:=merged_length_le (K:=K) [] (more.take i)
   have h2:=bz i more
   have:(merged [] (more.take i)).length<=i:=by
    refine bt (merged_length_le (K:=K) [] (more.take i)) ?_
    simp only [gb,Nat.zero_add]
    exact bz _ _
   omega))
  refine ag ⟨cA jB8 _,ih (i+1) (z+1) _ (by omega) hlt (W.frame _ s' _ _ hst' (cr _) fun b hb o e=>?_) ?_ (fun j p hj=>?_) fun s'' mv2 hS3=>?_⟩
  ·rw[sb.2 b (fun h:b=d=>hd (by rw[<- h]; exact hb))]
   exact e
  ·rw[merged_take_succ _ _ _ _ hpi]
   exact hd'
  ·obtain⟨key,m,e,q⟩:=hp' j p hj
   have hjn:j<n:=by rw[<- hmn]; exact(ar.mp hj).1
   exact⟨key,m,by show h'.get? _=_; rw[sb.2 _ (hpd j hjn).1]; exact e,q⟩
  ·refine hR s'' (Moved.trans W.gtrans ((mv.mono sub1).then_heap (cr _) fun b o hb e=>?_) mv2) hS3
   rw[sb.2 b (fun h:b=d=>hb (by rw[h]; exact aB))]
   exact e
end
section
variable {prog:Program}{w:World}{K:Type} [DecidableEq K]{knd:KeyKind prog w K}{A:Around}{E:Value->Shared->Prop}{s:Shared}
theorem jD3 {l:Addr}{its:List Value}{nl:Nat}{more:List (K×Value)}{Q:Value->Shared->Prop}(hA:A.handled=none)(hl:s.heap.get? l=some { cls:= .type "list",data:= .seq its.toArray nl})(hsz:its.length<=sizeLine)
  (pa:Nat->Addr) (hit:∀ i v,its[i]?=some v->v=Value.ref (pa i)) (hlen:more.length=its.length) (hp:∀ j p,more[j]?=some p->jGO knd s.heap (pa j) p)
  (h:∀ h' tk,h'.DictOf knd s.heap.objs.size (merged [] more)->(∀ b u,s.heap.get? b=some u->h'.get? b=some u)->Q (.ref s.heap.objs.size) { s with heap:=h',toks:=tk}):
  wpAny (model prog w) A (call (.type "dict") [.ref l]) Q E s:=by
 refine callType_codes (Q₁:=fun obj s₁=>obj= .ref s.heap.objs.size/\s₁= { s with heap:=s.heap.push { cls:= .type "dict",data:= .dict #[]}}) F.kt_called_dict (F.kt_typeCall_dict_1 _) F.entry_dict_init (kt_code_dict_new _ ⟨rfl,rfl⟩) ?_
 rintro obj s₁ ⟨rfl,rfl⟩
 have hnew:(s.heap.push { cls:= .type "dict",data:= .dict #[]}).DictOf knd s.heap.objs.size []:=Heap.DictOf.new s.heap
 have hl1:(s.heap.push { cls:= .type "dict",data:= .dict #[]}).get? l=some { cls:= .type "list",data:= .seq its.toArray nl} :=af _ hl
 have hls:l<s.heap.objs.size:=ak hl
 have hT:Shared.TypeIs { s with heap:=s.heap.push { cls:= .type "dict",data:= .dict #[]}} (.ref l) "list" :=⟨_,hl1,rfl⟩
 refine⟨hnew.typeIs,F.args_dict_init_2 _ _,?_⟩
 unfold Builtin.«dict.__init__»
 refine ac ?_
 unfold Builtin.Dict.selfAndRest
 refine ac (wpAny_notOrdered_dict hnew.typeIs ?_)
 show wpAny _ _ (pure (s.heap.objs.size,[Value.ref l])) _ _ _
 refine ag ?_
 show wpAny _ _ (Builtin.Dict.updateFrom "dict.__init__" s.heap.objs.size (.ref l) [] .none) _ _ _
 unfold Builtin.Dict.updateFrom
 refine ac (bY hT ?_)
 rw[aA (by decide)]
 refine ac (jIV jEJ (by decide+kernel) (by decide+kernel) (by simpa using hA) hl1 fun h2 tk2 k2=>?_)
 rw[aA (by rfl)]
 refine ac (cI (ac ?_))
 have hl2:h2.IsList l its.toArray:=⟨_,k2 _ _ hl1,rfl,nl,rfl⟩
 refine cG hl2 ?_
 have z2:s.heap.objs.size<h2.objs.size:=by
  have:=ak (k2 _ _ (aj s.heap (o:= { cls:= .type "dict",data:= .dict #[]}) rfl))
  exact this
 have hlI:l≠h2.objs.size:=ao (cx hls z2)
 have hdI:s.heap.objs.size≠h2.objs.size:=ao z2
 have hdl:s.heap.objs.size≠l:=cw hls
 have hplt:∀ i,i<its.length->pa i<s.heap.objs.size:=fun i hi=>by
  obtain⟨key,m,e,_⟩:=hp i more[i] (by simp [hlen,hi])
  exact ak e
 have keep:∀ b u,s.heap.get? b=some u->(h2.push { cls:= .type "list_iterator",data:= .fields #[.ref l, .int 0 0]}).get? b=some u:=fun b u e=>af _ (k2 _ _ (af _ e))
 refine ag ⟨cA jB8 _,upl (knd:=knd) ((Walks.list (by simp [hA]) _ l hlI its.toArray).toS) s.heap.objs.size ?_ more (by simp [hlen]) pa (fun i hi=>?_) (fun i v q=>hit i v (by simpa using q)) (by simpa using hsz) (its.toArray.size - 0) 0 0 _ rfl (aM _) ⟨⟨_,aj _ rfl,rfl,rfl⟩,hl2.push _⟩ ?_ (fun j p hj=>?_) fun s' mv hD=>?_⟩
 ·simp only [aq,aJ,bL,gR]
  exact⟨hdI,hdl⟩
 ·have:=hplt i (by simpa using hi)
  refine⟨ao this,?_⟩
  simp only [aq,aJ,bL]
  exact ao (cx this z2)
 ·obtain⟨o,es,ep,ho,r⟩:=hnew
  exact⟨o,es,ep,af _ (k2 _ _ ho),r⟩
 ·obtain⟨key,m,e,q⟩:=hp j p hj
  exact⟨key,m,keep _ _ e,q⟩
 ·obtain⟨h',g',d',tk',os'⟩:=s'
  have e1:g'=s.gens:=mv.gens
  have e2:d'=s.drawn:=mv.drawn
  have e3:os'=s.os:=mv.os
  subst e1; subst e2; subst e3
  refine⟨rfl,h h' tk' hD fun b u e=>mv.heap b u ?_ (keep b u e)⟩
  have hb:=ak e
  simp only [aq,aJ,bL,gR]
  exact⟨ao hb,ao (cx hb z2)⟩
end
section
variable {X:Cx}
theorem jIP {P:Program}{w:World}{h:Heap} :∀ (kvs:List (Key×V)) (pa:Nat->Addr),(∀ i k v,kvs[i]?=some (k,v)->∃ key u m,h.get? (pa i)=some { cls:= .type "tuple",data:= .seq #[key,u] m} /\RelV (kV k) key/\RelV v u)->
  ∃ more:List (Key×Value),KV kvs more/\∀ j p,more[j]?=some p->jGO (yG P w) h (pa j) p
 | [],_,_=>⟨[], .nil,fun j p e=>by simp at e⟩
 | (k,v)::r,pa,hk=>by
  obtain⟨more,k1,k2⟩:=jIP (P:=P) (w:=w) r (fun i=>pa (i+1)) fun i k v e=>hk (i+1) k v (by simpa using e)
  obtain⟨key,u,m,e,r1,r2⟩:=hk 0 k v rfl
  refine⟨(k,u)::more, .cons ⟨rfl,r2⟩ k1,fun j p hj=>?_⟩
  cases j with
  | zero=>
   simp at hj
   subst hj
   exact⟨key,m,e,kV_is r1⟩
  | succ j=>exact k2 j p (by simpa using hj)
theorem jHF (hc:X.calm=true):yD X (.type "dict") (fun xs H Q=>∃ (p:Addr) (vs:List V) (kvs:List (Key×V)),xs=[.ref p]/\H p=some (.lst vs)/\vs.length=kvs.length/\(∀ (i:Nat) (k:Key) (v:V),kvs[i]?=some (k,v)->∃ a:Addr,vs[i]?=some (V.ref a)/\H a=some (.tup [kV k,v]))/\(kvs.map (·.1)).Nodup/\∀ l:Addr,H l=none->Q (.ref l) (upd H l (.dK kvs))):=by
 intro pins s σ H xs us Q I r h
 obtain⟨p,vs,kvs,rfl,hq,hl,hkv,hnd,q⟩:=h
 obtain⟨u,rfl,rx⟩:=r.one
 cases rx
 obtain⟨hz,its,nl,r',e0⟩:=I.hok p _ hq
 have hli:=r'.length
 obtain⟨more,k1,k2⟩:=jIP (P:=X.prog) (w:=X.w) (h:=s.heap) kvs (fun i=>match vs[i]? with | some (.ref a)=>a | _=>0) fun i k v e=>by
  obtain⟨a,e1,e2⟩:=hkv i k v e
  obtain⟨_,it2,r2,m,e3⟩:=I.hok a _ e2
  have l2:=r2.length
  obtain⟨k',rest,rfl⟩:∃ k' rest,it2=k'::rest:=by
   cases it2 with
   | nil=>simp at l2
   | cons a b=>exact⟨a,b,rfl⟩
  obtain⟨u',rest',rfl⟩:∃ u' rest',rest=u'::rest':=by
   cases rest with
   | nil=>simp at l2
   | cons a b=>exact⟨a,b,rfl⟩
  obtain rfl:rest'=[]:=by
   cases rest' with
   | nil=>rfl
   | cons a b=>simp at l2
  rw[e1]
  cases r2 with
  | cons a1 a2=>
   cases a2 with
   | cons b1 b2=>exact⟨k',u',m,e3,a1,b1⟩
 have lm:more.length=kvs.length:=(eZ k1).symm
 refine jD3 (knd:=yG X.prog X.w) (I.ok.hd hc) e0 (by omega) (fun i=>match vs[i]? with | some (.ref a)=>a | _=>0) (fun i v hv=>?_) (by omega) k2 fun h' tk hD kp=>?_
 ·have hi:i<its.length:=(ar.mp hv).1
  have hik:i<kvs.length:=by omega
  obtain⟨a,e1,e2⟩:=hkv i kvs[i].1 kvs[i].2 (by simp [hik])
  obtain⟨u,e3,e4⟩:=r'.get e1
  rw[hv] at e3
  cases e3
  simp only [e1]
  exact e4
 ·rw[merged_nil_of_nodup _ (by rw[<- KV.keys k1]; exact hnd)] at hD
  have hsz:(s.heap.objs.size==sysModules)=false:=by
   have:=I.big
   exact bK.mpr (cw this)
  exact⟨.ref s.heap.objs.size,_,I.laid (t':=tk) (o:= .dK kvs) kp (ai _) ⟨by omega,hsz,more,k1,hD⟩,rfl,q _ I.fresh⟩
end
theorem jDD (l:Addr)(items:Array Value)(n:Nat)(dd:Option Addr)(sl:Array (Option Value))(x:Value)(e:Value->Bool)(j:Nat)(hj:j<items.size)(hit:e items[j]=true)(hno:∀ m (hm:m<items.size),m<j->e items[m]=false):
  Meets (Builtin.«tuple.index» ⟨[.ref l,x],[]⟩)
   (fun A R s=>s.heap.get? l=some { cls:= .type "tuple",dict:=dd,data:= .seq items n,slots:=sl} /\(∀ y,y∈items->SeqAt.EqAt A.in1 s y x (e y))/\R (.ok (.ret (.int j s.toks))) { s with toks:=s.toks+1}):=
 .of_wp fun prog w A R s h=>by
  obtain⟨hp,g,d,tk,os⟩:=s; obtain⟨hl,he,h⟩:=h
  unfold Builtin.«tuple.index»
  simp only [Std.Legacy.Range.forIn_eq_forIn_range']
  wp_walk using bb hl,wpAny_forIn_list _ (fun rest b s'=>b.1=none/\s'=⟨hp,g,d,tk,os⟩/\∃ i,i<=j/\rest=range' i (items.size - i)) _
  case turn=>
   rintro y rest b s' ⟨hb,rfl,i,hij,hr⟩
   have hi:i<items.size:=by omega
   rw[show items.size - i=(items.size - (i+1))+1 by omega,fE] at hr
   obtain⟨rfl,rfl⟩:=List.cons.inj hr
   rw[show items[y]?=some items[y] by simp [hi]]
   refine ac (he _ (Array.getElem_mem hi) prog w _ _ ?_)
   by_cases hyj:y=j
   ·subst hyj
    rw[hit]
    wp_walk
    exact⟨_,rfl,h⟩
   ·rw[hno y hi (by omega)]
    wp_walk
    exact⟨rfl,rfl,y+1,by omega,rfl⟩
  case fin=>
   rintro b s' ⟨hb,rfl,i,hij,hr⟩
   have:=bF List.length hr
   rw[List.length_range'] at this
   have:(0:Nat)=items.size - i:=this
   omega
  case h=>
   exact⟨rfl,rfl,0,aM _,by simp [Std.Legacy.Range.size]⟩
section
variable {X:Cx}
def jHZ:V->List V->Hp->VK->Prop:=fun x vs H Q=>∃ (p:Addr) (ns:List Int) (i:Int) (k:Nat),x= .ref p/\vs=[.int i]/\H p=some (.tup (ns.map V.int))/\ns[k]?=some i/\(∀ m,m<k->ns[m]?≠some i)/\Q (.int (k:Int)) H
theorem jEH:MtM X "tuple.index" jHZ:=by
 intro pins s σ H x vs v us Q I rx rv h
 obtain⟨p,ns,i,k,rfl,rfl,hp,hk,hno,q⟩:=h
 cases rx
 obtain⟨u,rfl,ru⟩:=rv.one
 obtain⟨_,its,r,n,e0⟩:=I.hok p _ hp
 have hl:=r.length
 rw[ae] at hl
 have hkl:k<its.length:=by rw[<- hl]; exact(ar.mp hk).1
 have at_:∀ m (hm:m<its.length),∃ (z:Int) (t:Tok),ns[m]?=some z/\its[m]= .int z t:=fun m hm=>by
  have hz:(ns.map V.int)[m]?=some (.int ns[m]):=by simp [show m<ns.length by omega]
  obtain⟨w,hw,t,rw'⟩:=r.get hz
  refine⟨ns[m],t,by simp [show m<ns.length by omega],?_⟩
  rw[bh hm] at hw
  rw[aK hw]
  exact rw'
 refine cg F.slot_tuple_index ⟨_,e0,rfl⟩ F.entry_tuple_index (F.args_tuple_index_2 _ _) (jDD p its.toArray n none #[] u (eqU (.int i)) k (by simpa using hkl) ?_ fun m hm hmk=>?_) ⟨e0,fun w hw=>jGB ru rfl r ?_ w (by simpa using hw),?_⟩
 ·obtain⟨z,t,h1,h2⟩:=at_ k hkl
  rw[hk] at h1
  cases h1
  show eqU (.int i) its[k]=true
  rw[h2]
  show (i==i)=true
  simp
 ·have hm':m<its.length:=by simpa using hm
  obtain⟨z,t,h1,h2⟩:=at_ m hm'
  show eqU (.int i) its[m]=false
  rw[h2]
  show (z==i)=false
  rw[bK]
  exact fun e=>hno m hmk (by rw[h1,e])
 ·rw[bC]
  intro x hx
  obtain⟨z,_,rfl⟩:=bE.mp hx
  rfl
 ·exact⟨.int _,H,I.tok _,⟨s.toks,rfl⟩,q⟩
end
section
variable {P:Program}{w:World}{K:W.Frag}{mg:Str->Option Value}{base:Heap}{N:List Str}{qual:Str}{sc:Scope}{f:Addr}{cd:Value}{cl:List (Str×Addr)}{A:Around}{outer:List Env}{s:Shared}{H:Hp}{x:Str}
theorem gl_n (h:sc.names.lookup x=some .globalImplicit):Gl1 (cxN P w K mg base N qual sc f cd cl A outer s H) x:=⟨h⟩
theorem vis_n (h:sc.names.lookup x=some .local):Vis1 (cxN P w K mg base N qual sc f cd cl A outer s H) x:=⟨.inl h⟩
end
section
variable {X:Cx}
theorem jOC {x:Str}{args:Arguments}{body:List Stmt}{scope:Scope}{pos:Pos}{c0 T:Addr}{j:Nat}(hN:X.N.Nodup)(hj:X.N[j]?=some x)(lx:Loc1 X x)(hcode:X.env.code= .ref c0)(CH:PySem.W.CodeHd X.base c0 T)(hbm:BltAt X.base X.mg)
  (hfree:∀ y∈scope.names,y.2= .free->X.env.scope.names.lookup y.1=some .cell\/X.env.scope.names.lookup y.1=some .free) (hdf:defaultsOf args X.env=([],[])) (han:annTrees args none X.env=[]):
  JS X (.FunctionDef x args body [] none [] scope none x pos) (tDef x (qualnameIn X.env x x) args body scope (jM X.env.cells scope.names []) T pos j):=⟨jNF hN hj lx.a hcode CH hbm hfree hdf han lx.b⟩
def iSeq (K:W.Frag)(te:TE):TI:=fun σ H R=>iList K te σ H R\/iTup K te σ H R
theorem jOD {tg a:Expr}{ta:TE}(hl:JE X a ta):JI X tg a (iSeq X.K ta):=⟨fun pins s σ H R I h=>by
 rcases h with h | h
 ·exact(jJ4 hl).h pins s σ H R I h
 ·exact(jB1 hl).h pins s σ H R I h⟩
def AtS (tp:Bool)(H:Hp)(a:Addr)(xs:List V):Prop:=match tp with
 | false=>H a=some (.lst xs)
 | true=>H a=some (.tup xs)
theorem AtS.sq {tp:Bool}{K:W.Frag}{H:Hp}{a:Addr}{xs:List V}(h:AtS tp H a xs):Sq tp K H a xs:=by
 cases tp with
 | false=>exact SqL.of h
 | true=>exact SqT.of h
theorem AtS.or {tp:Bool}{K:W.Frag}{H:Hp}{a:Addr}{xs:List V}(h:AtS tp H a xs):SqL K H a xs\/SqT K H a xs:=by
 cases tp with
 | false=>exact .inl (SqL.of h)
 | true=>exact .inr (SqT.of h)
def AtS.ob (tp:Bool)(xs:List V):HO:=match tp with
 | false=> .lst xs
 | true=> .tup xs
theorem AtS.is {tp:Bool}{H:Hp}{a:Addr}{xs:List V} :AtS tp H a xs↔H a=some (AtS.ob tp xs):=by cases tp <;> exact Iff.rfl
theorem AtS.ext {tp:Bool}{H H':Hp}{a:Addr}{xs:List V}(h:AtS tp H a xs)(e:Ext H H'):AtS tp H' a xs:=AtS.is.mpr (e _ _ (AtS.is.mp h))
theorem jOG {i o:Expr}{ty td:TE}{pos:Pos}(hu:X.A.units+1<cLine)(hi:JE X i ty)(ho:JE X o td)(h1:behindInMarks .In o=false):JT X (.Compare i [.In] [o] pos) (tB (tDIn ty td)):=⟨jNE (jNS hu hi.h ho.h) h1⟩
end
section
variable {K:W.Frag}{m:List (Option Nat)}{g:TG}{tt:TT}{te:TE}{σ:St}{H1:Hp}{Q:VK}
theorem jEW {a:Addr}{xs:List V}(hn:xs.length<sizeLine)(Pv:Addr->Nat->St->Hp->List V->Prop)(h0:∀ D,H1 D=none->Pv D 0 (blkσ m σ) (upd H1 D (.lst [])) [])
  (hD:∀ D i σ' H' zs,H1 D=none->Pv D i σ' H' zs->H' a=some (.lst xs)/\H' D=some (.lst zs)/\zs.length<=i)
  (hs:∀ D i σ' H' zs x,H1 D=none->xs[i]?=some x->Pv D i σ' H' zs->g x σ' H' fun σ2 H2=>tt σ2 H2 fun b H3=>if b=true then te σ2 H3 fun v H4=>H4 D=some (.lst zs)/\Pv D (i+1) σ2 (upd H4 D (.lst (zs++[v]))) (zs++[v]) else Pv D (i+1) σ2 H3 zs)
  (hd:∀ D σ' H' zs,H1 D=none->Pv D xs.length σ' H' zs->Q (.ref D) H'):qC m g tt te σ Q (Itl K a) H1:=by
 intro D hDn
 refine⟨fun i k σ' H' zs=>k=xs.length - i/\i<=xs.length/\Pv D i σ' H' zs,⟨_,rfl,aM _,h0 D hDn⟩,?_⟩
 rintro i k σ' H' zs ⟨rfl,hi,p⟩
 obtain⟨s1,q1,q2⟩:=hD D i σ' H' zs hDn p
 refine⟨q1,by omega,?_⟩
 by_cases hlt:i<xs.length
 ·refine .inr ⟨⟨xs,xs[i],SqL.of s1,by simp [hlt]⟩,Pv D (i+1),fun σ2 H2 zs z=>⟨xs.length - (i+1),by omega,rfl,hlt,z⟩,fun v H'' y=>?_⟩
  obtain⟨e1,e2⟩:=y
  subst e1
  exact hs D i σ' _ zs v hDn (e2 xs (SqL.of s1)) p
 ·have e:i=xs.length:=by omega
  subst e
  exact .inl ⟨⟨xs,SqL.of s1,ai _⟩,hd D σ' H' zs hDn p⟩
theorem jL2 {tp:Bool}{ta:TE}{a:Addr}{xs:List V}(ha:AtS tp H1 a xs)(hta:∀ Q:VK,Q (.ref a) H1->ta σ H1 Q)(hn:xs.length<sizeLine)(Pv:Addr->Nat->St->Hp->List V->Prop)(h0:∀ D,H1 D=none->Pv D 0 (blkσ m σ) (upd H1 D (.lst [])) [])
  (hD:∀ D i σ' H' zs,H1 D=none->Pv D i σ' H' zs->AtS tp H' a xs/\H' D=some (.lst zs)/\zs.length<=i)
  (hs:∀ D i σ' H' zs x,H1 D=none->xs[i]?=some x->Pv D i σ' H' zs->g x σ' H' fun σ2 H2=>tt σ2 H2 fun b H3=>if b=true then te σ2 H3 fun v H4=>H4 D=some (.lst zs)/\Pv D (i+1) σ2 (upd H4 D (.lst (zs++[v]))) (zs++[v]) else Pv D (i+1) σ2 H3 zs)
  (hd:∀ D σ' H' zs,H1 D=none->Pv D xs.length σ' H' zs->Q (.ref D) H'):iSeq K ta σ H1 (qC m g tt te σ Q):=by
 cases tp with
 | false=>exact .inl (hta _ ⟨a,rfl,⟨xs,SqL.of ha⟩,jEW hn Pv h0 hD hs hd⟩)
 | true=>exact .inr (hta _ ⟨a,rfl,⟨xs,SqT.of ha⟩,jAO hn Pv h0 hD hs hd⟩)
end
theorem ExtT.of {T:Addr}{H H':Hp}(e:Ext H H'):ExtT T H H':=fun b o h _=>e b o h
theorem ExtT.refl {T:Addr}(H:Hp):ExtT T H H:=fun b o h _=>h
theorem ExtT.trans {T:Addr}{H H' H'':Hp}(a:ExtT T H H')(b:ExtT T H' H''):ExtT T H H'':=fun c o h n=>b c o (a c o h n) n
theorem TabOk.is {H:Hp}{T:Addr}{pos:Pos}{q:Str}(t:TabOk H T pos q):∃ ps,H T=some (.tbl ps):=by
 rcases t with h | ⟨c,h,_⟩
 ·exact⟨_,h⟩
 ·exact⟨_,h⟩
theorem TabOk.ne {H:Hp}{T:Addr}{pos:Pos}{q:Str}(t:TabOk H T pos q){b:Addr}{o:HO}(h:H b=some o)(ho:∀ ps,o≠ .tbl ps):b≠T:=fun e=>by
 obtain⟨ps,z⟩:=t.is
 rw[e,z] at h
 cases h
 exact ho ps rfl
theorem TabOk.ext {H H':Hp}{T:Addr}{pos:Pos}{q:Str}(t:TabOk H T pos q)(e:Ext H H'):TabOk H' T pos q:=by
 rcases t with h | ⟨c,h,h2⟩
 ·exact .inl (e _ _ h)
 ·exact .inr ⟨c,e _ _ h,e _ _ h2⟩
theorem ExtT.at {T:Addr}{H H':Hp}(e:ExtT T H H'){pos:Pos}{q:Str}(t:TabOk H T pos q){b:Addr}{o:HO}(h:H b=some o)(ho:∀ ps,o≠ .tbl ps:=by intro _ z; cases z):H' b=some o:=e b o h (t.ne h ho)
theorem ExtT.seq {T:Addr}{H H':Hp}(e:ExtT T H H'){pos:Pos}{q:Str}(t:TabOk H T pos q){tp:Bool}{b:Addr}{xs:List V}(h:AtS tp H b xs):AtS tp H' b xs:=by
 cases tp with
 | false=>exact e.at t (show H b=some (.lst xs) from h)
 | true=>exact e.at t (show H b=some (.tup xs) from h)
structure FunC (K:W.Frag)(x qual:Str)(st:Stmt)(f:Addr)(fd:FuncData)(c0:Addr):Prop where
 ex:∃ (oc:Value) (od:Option Addr) (kV doc pm:Value) (an:Option Addr) (ct:Value) (osl:Array (Option Value)),fd=PySem.W.fnOf x qual (jN st) (jD st) (j9 st) .none kV doc pm an (.ref c0) ct/\K.lookup f=some ⟨oc,od, .func fd,osl⟩/\PySem.W.codeIn K (.ref c0) qual=true
theorem FunC.ok {P:Program}{w:World}{K:W.Frag}{mg:Str->Option Value}{base:Heap}{x qual:Str}{st:Stmt}{f c0:Addr}{fd:FuncData}{N ps:List Str}{k:Nat}{sp:Sp}(F:FunC K x qual st f fd c0)(S:FnScope N ps (j9 st))(len:∀ vs H Q E,sp vs H Q E->vs.length=ps.length)
  (hbody:∀ (A:Around) (outer:List Env) (s:Shared) (H:Hp) (vs:List V) (Q:VK) (E:XK),Room k (A.deeper (envOfC qual (j9 st) s.heap.objs.size f (.ref c0)))->sp vs H Q E->
   ∃ t,PSs (cxOf CX0 P w K mg base N qual (j9 st) f (.ref c0) A outer s H E).nox (jD st) t/\t { nx:=fun _ H'=>Q .non H',rt:=Q} (kT N vs) H):FnOk P w K mg base CX0 (k+1) f fd ps sp:=by
 obtain⟨oc,od,kV,doc,pm,an,ct,osl,rfl,lk,hcd⟩:=F.ex
 refine fn_of lk hcd S len fun A outer s H vs Q E hr hsp=>?_
 obtain⟨t,ht,hq⟩:=hbody A outer s H vs Q E hr hsp
 exact⟨t,ht.nox,hq⟩
section
variable {X:Cx}{sc:Scope}{cl:List (Str×Addr)}{C:Addr}{Nc:List Str}{fp:List Addr}{s:Shared}{H:Hp}
variable {sc2:Scope}{cl2:List (Str×Addr)}{C2:Addr}{Nc2:List Str}{fp2:List Addr}{s2:Shared}{H2:Hp}
end
section
variable {K:W.Frag}{m:List (Option Nat)}{g:TG}{tt:TT}{te:TE}{σ:St}{H:Hp}{Q:VK}
abbrev TupsK (H H':Hp):Prop:=∀ b xs,H b=some (.tup xs)->H' b=some (.tup xs)
structure ZOk (Z:Hp->List V->Nat->Prop):Prop where
 z0:∀ H,Z H [] 0
 mono:∀ H H' zs j,TupsK H H'->Z H zs j->Z H' zs j
 len:∀ H zs j,Z H zs j->zs.length<=j
theorem jHM {H:Hp}{D:Addr}{zs:List V}(h:H D=some (.lst zs))(o:HO):TupsK H (upd H D o):=fun b xs hb=>by
 rw[jA (fun e=>by rw[e,h] at hb; cases hb)]
 exact hb
def TurnZ (g:TG)(tt:TT)(te:TE)(σP:St->Prop)(Z:Hp->List V->Nat->Prop)(x:V)(j:Nat)(σ':St)(H':Hp)(zs:List V):Prop:=
 ∀ (R:St->V->Hp->Prop) (S:St->Hp->Prop),(∀ σ2 v H2,σP σ2->Ext H' H2->Z H2 (zs++[v]) (j+1)->R σ2 v H2)->(∀ σ2 H2,σP σ2->Ext H' H2->Z H2 zs (j+1)->S σ2 H2)->
  g x σ' H' fun σ2 H2=>tt σ2 H2 fun b H3=>if b=true then te σ2 H3 (R σ2) else S σ2 H3
theorem jMV {tp:Bool}{a:Addr}{xs:List V}(σP:St->Prop)(Z:Hp->List V->Nat->Prop)(zo:ZOk Z)(ha:AtS tp H a xs)(hn:xs.length<sizeLine)(h0:σP (blkσ m σ))
  (step:∀ j x σ' H' zs,xs[j]?=some x->σP σ'->Ext H H'->Z H' zs j->TurnZ g tt te σP Z x j σ' H' zs)
  (hd:∀ D H' zs,H' D=some (.lst zs)->Ext H H'->H D=none->Z H' zs xs.length->Q (.ref D) H'):qC m g tt te σ Q (match tp with | false=>Itl K a | true=>Itt K a) H:=by
 have turn:∀ D j σ' H' zs x,H D=none->xs[j]?=some x->(σP σ'/\Ext H H'/\H' D=some (.lst zs)/\H D=none/\Z H' zs j)->g x σ' H' fun σ2 H2=>tt σ2 H2 fun b H3=>if b=true then te σ2 H3 fun v H4=>H4 D=some (.lst zs)/\(σP σ2/\Ext H (upd H4 D (.lst (zs++[v])))/\(upd H4 D (.lst (zs++[v]))) D=some (.lst (zs++[v]))/\H D=none/\Z (upd H4 D (.lst (zs++[v]))) (zs++[v]) (j+1)) else (σP σ2/\Ext H H3/\H3 D=some (.lst zs)/\H D=none/\Z H3 zs (j+1)):=by
  rintro D j σ' H' zs x hD hx ⟨p,e,h2,hn,hz⟩
  exact step j x σ' H' zs hx p e hz _ _ (fun σ2 v H2 p2 e2 z2=>⟨e2 _ _ h2,p2,(e.trans e2).updNew hn _,j7,hn,zo.mono _ _ _ _ (jHM (e2 _ _ h2) _) z2⟩) fun σ2 H2 p2 e2 z2=>⟨p2,e.trans e2,e2 _ _ h2,hn,z2⟩
 cases tp with
 | false=>exact jEW (xs:=xs) hn (fun D j σ' H' zs=>σP σ'/\Ext H H'/\H' D=some (.lst zs)/\H D=none/\Z H' zs j) (fun D hD=>⟨h0,(Ext.refl _).new hD _,j7,hD,zo.z0 _⟩) (fun D j σ' H' zs hD ⟨_,e,h2,_,hz⟩=>⟨e _ _ ha,h2,zo.len _ _ _ hz⟩) turn fun D σ' H' zs hD ⟨_,e,h2,hn,hz⟩=>hd D H' zs h2 e hn hz
 | true=>exact jAO (xs:=xs) hn (fun D j σ' H' zs=>σP σ'/\Ext H H'/\H' D=some (.lst zs)/\H D=none/\Z H' zs j) (fun D hD=>⟨h0,(Ext.refl _).new hD _,j7,hD,zo.z0 _⟩) (fun D j σ' H' zs hD ⟨_,e,h2,_,hz⟩=>⟨e _ _ ha,h2,zo.len _ _ _ hz⟩) turn fun D σ' H' zs hD ⟨_,e,h2,hn,hz⟩=>hd D H' zs h2 e hn hz
theorem jGK {a:Addr}{xs:List V}(σP:St->Prop)(Z:Hp->List V->Nat->Prop)(zo:ZOk Z)(ha:H a=some (.tup xs))(hn:xs.length<sizeLine)(h0:σP (blkσ m σ))
  (step:∀ j x σ' H' zs,xs[j]?=some x->σP σ'->Ext H H'->Z H' zs j->TurnZ g tt te σP Z x j σ' H' zs)
  (hd:∀ D H' zs,H' D=some (.lst zs)->Ext H H'->H D=none->Z H' zs xs.length->Q (.ref D) H'):qC m g tt te σ Q (Itt K a) H:=jMV (tp:=true) σP Z zo ha hn h0 step hd
end
def mapZ {α:Type}(l:List α)(f:α->V):Hp->List V->Nat->Prop:=fun _ zs j=>zs=(l.take j).map f
theorem mapZ.ok {α:Type}(l:List α)(f:α->V):ZOk (mapZ l f):=⟨fun _=>rfl,fun _ _ _ _ _ h=>h,fun _ zs j h=>by
 rw[show zs=_ from h,ae]
 exact bz _ _⟩
theorem mapZ.yes {α:Type}{l:List α}{f:α->V}{H H':Hp}{zs:List V}{j:Nat}{x:α}(h:mapZ l f H zs j)(hx:l[j]?=some x):mapZ l f H' (zs++[f x]) (j+1):=by
 show _=_
 rw[cb,hx,au,<- show zs=_ from h]
 rfl
theorem mapZ.all {α:Type}{l:List α}{f:α->V}{H:Hp}{zs:List V}{n:Nat}(h:mapZ l f H zs n)(hn:l.length<=n):zs=l.map f:=by
 rw[show zs=_ from h,dc hn]
theorem int_at {l:List Int}{j:Nat}{x:V}(h:(l.map V.int)[j]?=some x):∃ z:Int,l[j]?=some z/\x=V.int z:=by
 rw[aG] at h
 cases hq:l[j]? with
 | none=>rw[hq] at h; cases h
 | some z=>rw[hq] at h; cases h; exact⟨z,rfl,rfl⟩
section
variable {X:Cx}{sc:Scope}{cl:List (Str×Addr)}{C:Addr}{Nc:List Str}{fp:List Addr}{s:Shared}{H:Hp}
end
section
variable {X:Cx}{st:Stmt}{sts:List Stmt}{t:TS}{e:Expr}{tt:TT}
theorem JT.nox (h:JT X.nox e tt):JT X e tt:=⟨h.h.nox⟩
theorem JSs.nox (h:JSs X.nox sts t):JSs X sts t:=⟨h.h.nox⟩
end
def jN0 (E:XK)(t:TA):TS:=fun _ σ H=>t σ H fun vs H1=>vs.length<=sizeLine/\∀ a,E (.ref a) (some a) H1
theorem jEM {P:Program}{w:World}{K:W.Frag}{mg:Str->Option Value}{base:Heap}{N:List Str}{qual:Str}{sc:Scope}{f:Addr}{cdv:Value}{A:Around}{outer:List Env}{s:Shared}{H:Hp}{E:XK}{x:Str}{C:Addr}{c:Const}{k:Nat}{t:TA}{np cpos pos p:Pos}
  (hc:(cxOf (CXX P w C) P w K mg base N qual sc f cdv A outer s H E).calm=true) (ek:ExcK K C) (hg:Gl1 (cxOf (CXX P w C) P w K mg base N qual sc f cdv A outer s H E).nox x) (hm:mg x=some (.ref C)) (ha:JA (cxOf (CXX P w C) P w K mg base N qual sc f cdv A outer s H E) [.Constant c k p] t) (hd:(x==("__debug__" :Str))=false:=by decide):
  JS (cxOf (CXX P w C) P w K mg base N qual sc f cdv A outer s H E) (.Raise (some (.Call (.Name x np) [.Constant c k p] [] cpos)) none pos) (jN0 E t):=
 ⟨jI3 hc ek hg.a hm ha.h (fun _ _ _ _ _ _ _ I m w1=>xe_cx I m w1) hd rfl rfl⟩
end L2
namespace L2
open PySem PySem.Spec PyProof.Rows
theorem Fun.okX {P:Program}{w:World}{K:W.Frag}{mg:Str->Option Value}{base:Heap}{C:Addr}{x qual:Str}{st:Stmt}{f:Addr}{fd:FuncData}{N ps:List Str}{k:Nat}{sp:Sp}(F:Fun K x qual st f fd)(S:FnScope N ps (j9 st))(len:∀ vs H Q E,sp vs H Q E->vs.length=ps.length)
  (hbody:∀ (cdv:Value) (A:Around) (outer:List Env) (s:Shared) (H:Hp) (vs:List V) (Q:VK) (E:XK),Room k (A.deeper (envOfC qual (j9 st) s.heap.objs.size f cdv))->sp vs H Q E->
   ∃ t,PSs (cxOf (CXX P w C) P w K mg base N qual (j9 st) f cdv A outer s H E) (jD st) t/\t { nx:=fun _ H'=>Q .non H',rt:=Q} (kT N vs) H):FnOk P w K mg base (CXX P w C) (k+1) f fd ps sp:=by
 obtain⟨oc,od,kV,doc,pm,an,cdv,ct,osl,rfl,lk,hcd⟩:=F.ex
 exact fn_of lk hcd S len fun A outer s H vs Q E hr hsp=>hbody cdv A outer s H vs Q E hr hsp
end L2
namespace L2
open PySem
structure CanS (P:Program)(w:World)(K:W.Frag)(mg:Str->Option Value)(base:Heap)(x:Str)(k:Nat)(f:Addr)(fd:FuncData)(ps:List Str)(sp:Addr->Sp):Prop where
 G:FnS P w K mg base k f fd ps sp
 m:mg x=some (.ref f)
 kp:keepIn K (.ref f)=true
 b:Binds K fd ps []
structure CanX (C:Addr)(P:Program)(w:World)(K:W.Frag)(mg:Str->Option Value)(base:Heap)(x:Str)(k:Nat)(f:Addr)(fd:FuncData)(ps:List Str)(sp:Sp):Prop where
 G:FnOk P w K mg base (CXX P w C) k f fd ps sp
 m:mg x=some (.ref f)
 kp:keepIn K (.ref f)=true
 b:Binds K fd ps []
end L2
namespace L2
open PySem PySem.Spec PyProof.Rows
theorem RoomS.units101 {k:Nat}{A:Around}{x:Addr}(r:RoomS k A x):A.units+101<cLine:=by have:=r.un; omega
section
variable {m:List (Option Nat)}{g:TG}{tt:TT}{te:TE}{σ:St}{H1:Hp}{Q:VK}
theorem jJR {x:Addr}{n:Nat}(hn:n<sizeLine)(Pv:Addr->Nat->St->Hp->List V->Prop)(h0:∀ D,H1 D=none->Pv D 0 (blkσ m σ) (upd H1 D (.lst [])) [])
  (hD:∀ D i σ' H' ys,H1 D=none->i<=n->Pv D i σ' H' ys->(∃ C,H' x=some (.ext (excP x C)))/\H' D=some (.lst ys)/\ys.length<=i)
  (hs:∀ D i σ' H' ys,H1 D=none->i<n->Pv D i σ' H' ys->g (.int (0+i)) σ' H' fun σ2 H2=>tt σ2 H2 fun b H3=>if b=true then te σ2 H3 fun v H4=>H4 D=some (.lst ys)/\Pv D (i+1) σ2 (upd H4 D (.lst (ys++[v]))) (ys++[v]) else Pv D (i+1) σ2 H3 ys)
  (hd:∀ D σ' H' ys,H1 D=none->Pv D n σ' H' ys->Q (.ref D) H'):qC m g tt te σ Q (ItrS x 0 n) H1:=by
 intro D hDn
 obtain⟨W,w0,k⟩:=jCG (lo:=0) (m:=m) (g:=g) (tt:=tt) (te:=te) (σ:=σ) (Q:=fun v H'=>(∃ C,H' x=some (.ext (excP x C)))/\Q v H') hn Pv h0 (fun D i σ' H' ys a b c=>(hD D i σ' H' ys a b c).2) hs (fun D σ' H' ys a c=>⟨(hD D n σ' H' ys a (ai _) c).1,hd D σ' H' ys a c⟩) D hDn
 refine⟨W,w0,fun i n σ' H' ys w=>?_⟩
 obtain⟨a,b,c⟩:=k i n σ' H' ys w
 refine⟨a,b,?_⟩
 rcases c with ⟨c1,c2,c3⟩ | c
 ·exact .inl ⟨⟨c1,c2⟩,c3⟩
 ·exact .inr c
end
open PySem.AutoSeq1 (wpAny_loadPart')
section
variable {prog:Program}{w:World}{A:Around}{E:Value->Shared->Prop}{s:Shared}
theorem jC7 {R:Result->Shared->Prop}(hh:A.handled=none){r:Addr}{a b c:Int}{t u v:Tok}{n:Nat}(hr:IsRange s.heap r a b c t u v)(hsm:Builtin.Range.small a b c=true)(hn:Builtin.Range.rangeSize a b c=n)(hlen:n<=2 ^ 24)
  (k:∀ (h':Heap) (tk:Nat) (acc:Array Value) (c':Nat),(∀ b o,s.heap.get? b=some o->h'.get? b=some o)->h'.get? s.heap.objs.size=some { cls:= .type "list",dict:=none,data:= .seq acc c',slots:=#[]} ->ItemsOf (fun i v=>∃ t,v= .int (a+i*c) t) acc n->R (.ok (.ret (.ref s.heap.objs.size))) { s with heap:=h',toks:=tk}):
  codeAny (model prog w) A (.builtin "proto.collect" ⟨[.ref r],[]⟩) R s:=by
 refine bc F.entry_proto_collect ?_
 rw[be F.plain_proto_collect _]
 refine(?_:wpAny _ A.in1 (newList [] >>= fun l=>again (.builtin "list.__iadd__" ⟨[l, .ref r],[]⟩)) _ _ s)
 refine ac (ay (ag ⟨cA F.plain_list_iadd _,bc F.entry_list_iadd ?_⟩))
 rw[be F.plain_list_iadd _]
 refine(?_:wpAny _ A.in1 (Builtin.List.listExtendWith (.ref s.heap.objs.size) (.ref r) (.ref s.heap.objs.size)) _ _ _)
 have hr1:IsRange (s.heap.push { cls:= .type "list",data:= .seq ([]:List Value).toArray}) r a b c t u v:=af _ hr
 have hS1:(s.heap.push { cls:= .type "list",data:= .seq ([]:List Value).toArray}).get? s.heap.objs.size=some { cls:= .type "list",data:= .seq #[]} :=aj _ rfl
 exact wpAny_extend_range (R:=R) (s:= { s with heap:=s.heap.push { cls:= .type "list",data:= .seq ([]:List Value).toArray}}) hh hr1 hsm hn hlen s.heap.objs.size _ 0 hS1 fun h' tk acc' c' kp hS' hacc=>k h' tk acc' c' (fun b o e=>kp b o (ao (ak e)) (af _ e)) hS' hacc
theorem jFS {Q:List Value->Shared->Prop}(hh:A.handled=none){r:Addr}{a b c:Int}{t u v:Tok}{n:Nat}(hr:IsRange s.heap r a b c t u v)(hsm:Builtin.Range.small a b c=true)(hn:Builtin.Range.rangeSize a b c=n)(hlen:n<=2 ^ 24)
  (k:∀ (h':Heap) (tk:Nat) (acc:Array Value),(∀ b o,s.heap.get? b=some o->h'.get? b=some o)->s.heap.objs.size<=h'.objs.size->ItemsOf (fun i v=>∃ t,v= .int (a+i*c) t) acc n->Q acc.toList { s with heap:=h',toks:=tk}):
  wpAny (model prog w) A (collect (.ref r)) Q E s:=by
 unfold collect
 refine ac (df (jC7 hh hr hsm hn hlen fun h' tk acc c' kp hS' hacc=>?_))
 refine(?_:wpAny _ A (load s.heap.objs.size >>= _) _ _ _)
 exact ac (dk hS' (ag (k h' tk acc kp (bM (ak hS')) hacc)))
end
theorem jCO (r:Addr)(a b c:Int)(t u v:Tok)(n:Nat)(hsm:Builtin.Range.small a b c=true)(hn:Builtin.Range.rangeSize a b c=n)(hlen:n<=2 ^ 24):
  Meets (Builtin.«tuple.__new__» ⟨[.type "tuple", .ref r],[]⟩) (fun A R s=>A.handled=none/\IsRange s.heap r a b c t u v/\∀ (h':Heap) (tk:Nat) (acc:Array Value),(∀ b o,s.heap.get? b=some o->h'.get? b=some o)->s.heap.objs.size<=h'.objs.size->ItemsOf (fun i v=>∃ t,v= .int (a+i*c) t) acc n->
   R (.ok (.ret (.ref h'.objs.size))) { s with heap:=h'.push { cls:= .type "tuple",data:= .seq acc},toks:=tk}):=
 .of_wp fun prog w A R s h=>by
  obtain⟨hh,hr,k⟩:=h
  have sub:=sub_tuple_self
  have ini:=init_tuple_lookup
  have mh:=madeHere_tuple
  have ty:s.TypeIs (.ref r) "range" :=⟨_,hr,rfl⟩
  have hh1:A.in1.handled=none:=hh
  have nt:(Value.type "range" ==Value.type "tuple")=false:=by decide
  wp_walk using bY ty,jFS hh1 hr hsm hn hlen
  intro h' tk acc kp hsz hacc
  refine(?_:wpAny _ _ (Builtin.Tuple.tupleExact acc.toList.toArray >>= fun v=>ret v) _ _ _)
  unfold Builtin.Tuple.tupleExact
  refine ac (ay (ag ⟨_,rfl,?_⟩) (show acc.toList.toArray.size<=sizeLine by rw[bG,hacc.1,bW]; omega))
  rw[bG]
  exact k h' tk acc kp hsz hacc
def yR (a:Int)(n:Nat):List Int:=(List.range n).map fun (i:Nat)=>a+(i:Int)
theorem jHJ {a:Int}{n:Nat}{acc:Array Value}(h:ItemsOf (fun i v=>∃ t,v=Value.int (a+(i:Int)*1) t) acc n):Vals ((yR a n).map V.int) acc.toList:=by
 have key:∀ (l:List Value) (k:Nat),(∀ j v,l[j]?=some v->∃ t,v=Value.int (a+((k+j:Nat):Int)) t)->Vals ((range' k l.length).map fun (i:Nat)=>V.int (a+(i:Int))) l:=by
  intro l
  induction l with
  | nil=>intro k _; exact .nil
  | cons v l ih=>
   intro k hk
   rw[bd,fE,aV]
   refine .cons ?_ (ih (k+1) fun j u hj=>?_)
   ·obtain⟨t,e⟩:=hk 0 v rfl
    exact⟨t,by simpa using e⟩
   ·obtain⟨t,e⟩:=hk (j+1) u (by simpa using hj)
    exact⟨t,by rw[e]; congr 2; omega⟩
 have:=key acc.toList 0 fun j v hj=>by
  obtain⟨t,e⟩:=h.2 j v (by simpa using hj)
  exact⟨t,by rw[e,gU,Nat.zero_add]⟩
 rw[aU,h.1,<- gj] at this
 unfold yR
 rw[ce]
 exact this
section
variable {X:Cx}
theorem jCZ (hc:X.calm=true):yD X (.type "tuple") (fun xs H Q=>∃ p i j,xs=[.ref p]/\H p=some (.rng i j)/\0<=i/\i<=j/\j<=1000/\∀ l,H l=none->Q (.ref l) (upd H l (.tup ((yR i (j - i).toNat).map V.int)))):=by
 intro pins s σ H xs us Q I r h
 obtain⟨p,i,j,rfl,hp,h0,h1,h2,q⟩:=h
 obtain⟨u,rfl,rx⟩:=r.one
 cases rx
 obtain⟨t,u,v,e⟩:=I.hok p _ hp
 have en:Builtin.Range.rangeSize i j 1=((j - i).toNat:Int):=by
  rw[fb]
  split <;> omega
 refine callType_new F.called_tuple (by decide) (F.typeCall_tuple_1 _) (F.newCall_tuple_1 _) (fun obj=>F.args_object_init_2 obj _) F.entry_tuple_new
  (jCO p i j 1 t u v (j - i).toNat (small_one (by omega) (by omega) (by omega) (by omega)) en (by omega)) ⟨I.ok.hd hc,e,fun h' tk acc kp hsz hacc=>⟨⟨_,aj _ rfl,rfl⟩,?_⟩⟩
 have hv:=jHJ hacc
 refine⟨.ref h'.objs.size,_,I.laid (a:=h'.objs.size) (t':=tk) (o:= .tup ((yR i (j - i).toNat).map V.int)) (fun b o e=>af _ (kp b o e)) hsz ?_,rfl,q _ (I.hok.fresh hsz)⟩
 refine⟨?_,acc.toList,hv,0,?_⟩
 ·unfold yR
  rw[ae,ae,b0,bW]
  omega
 ·have:acc.toList.toArray=acc:=by simp
  rw[this]
  exact aj _ rfl
variable {sc:Scope}{cl:List (Str×Addr)}{C:Addr}{Nc:List Str}{fp:List Addr}{s:Shared}{H:Hp}
end
end L2
end
section
namespace L2
open PySem PySem.Spec PyProof.Rows Builtin Builtin.Str
section
variable {X:Cx}{tg:Expr}
end
section
variable {K:W.Frag}{m:List (Option Nat)}{g:TG}{tt:TT}{te:TE}{σ:St}{H1:Hp}{Q:VK}
end
section
variable {X:Cx}
section
variable {a b e:Expr}{ta tb te:TE}{pos:Pos}
theorem jOF {c:Expr}{tc:TT}(hc:JT X c tc)(ha:JE X a ta)(hb:JE X b tb):JE X (.IfExp c a b pos) (tIf tc ta tb):=⟨jKE hc.h ha.h hb.h⟩
end
end
section
variable {X:Cx}{sc:Scope}{cl:List (PySem.Str×Addr)}{C:Addr}{Nc:List PySem.Str}{fp:List Addr}{s:Shared}{H:Hp}
end
end L2
end
section
namespace L2
open PySem PySem.Spec PyProof.Rows
open AutoSeq1 (wpAny_loadPart')
abbrev tupOb (its:Array Value)(n:Nat)(dd:Option Addr)(sl:Array (Option Value)):Obj:= { cls:= .type "tuple",dict:=dd,data:= .seq its n,slots:=sl}
theorem jOP (l b:Addr)(its:Array Value)(n:Nat)(dd:Option Addr)(sl:Array (Option Value)):
  Meets (Builtin.«dict.__ne__» ⟨[.ref l, .ref b],[]⟩) (fun _ R s=>s.TypeIs (.ref l) "dict" /\s.heap.get? b=some (tupOb its n dd sl)/\R (.ok (.ret .notImplemented)) s):= .of_wp fun prog w A R s ⟨ht,hb,h⟩=>by
 show wpAny _ _ (Builtin.Dict.dictSlotArgs "__ne__" ⟨[.ref l, .ref b],[]⟩ >>= _) _ _ s
 refine ac ?_
 unfold Builtin.Dict.dictSlotArgs
 refine ac (wpAny_notOrdered_dict ht ?_)
 show wpAny _ _ (pure (Value.ref l,Value.ref b)) _ _ s
 refine ag ?_
 refine ac (cL (v:= .ref b) (T:= "tuple") ⟨_,hb,rfl⟩ fV ?_)
 exact ac (cI (ag ⟨_,rfl,h⟩))
theorem jMZ (b l:Addr)(its:Array Value)(n:Nat)(dd:Option Addr)(sl:Array (Option Value)):
  Meets (Builtin.«tuple.__ne__» ⟨[.ref b, .ref l],[]⟩) (fun _ R s=>s.TypeIs (.ref l) "dict" /\s.heap.get? b=some (tupOb its n dd sl)/\R (.ok (.ret .notImplemented)) s):= .of_wp fun prog w A R s ⟨ht,hb,h⟩=>by
 obtain⟨hp,g,d,tk,os⟩:=s
 obtain⟨o,ho,hc⟩:=ht
 have f1:=PySem.F.sub_dict_tuple
 have tl:=hc
 obtain⟨cl,d1,d2,d3⟩:=o
 subst hc
 wp_walk using bb hb,bb ho
 exact⟨_,rfl,h⟩
theorem jO5 {A:Around}{s:Shared}{l b:Addr}{o:Obj}{its:Array Value}(hl:s.heap.get? l=some o)(hc:o.cls= .type "dict")(hb:s.heap.IsTuple b its)(hu:A.units<cLine):SeqAt.RcNeAt A s (.ref l) (.ref b) true:=fun prog w E Q h=>by
 obtain⟨⟨cls2,dd2,data2,sl2⟩,ho2,hc2,n2,hd2⟩:=id hb
 simp only at hc2 hd2
 subst hc2 hd2
 have hne:l≠b:=fun z=>by
  rw[z,ho2] at hl
  cases hl
  simp at hc
 have tl:s.TypeIs (.ref l) "dict" :=⟨_,hl,hc⟩
 exact SeqAt.rc_ne_decline_or (k:=false) tl ⟨_,ho2,rfl⟩ (by decide) fV gl eQ
  (fun _ hq=>cg gl tl PySem.F.entry_dict_ne (PySem.F.args_dict_ne_2 _ _) (jOP l b its n2 dd2 sl2) ⟨tl,ho2,hq⟩)
  (fun _ hq=>cg eQ ⟨_,ho2,rfl⟩ PySem.F.entry_tuple_ne (PySem.F.args_tuple_ne_2 _ _) (jMZ b l its n2 dd2 sl2) ⟨tl,ho2,hq⟩)
  (fun _ hq=>wpAny_isSame_ref_other hne hl ho2 (by rw[hc]; simp) hq) (.inr hu) h
section
variable {X:Cx}
def jLC:R2:=fun x y H Q=>∃ q,y= .ref q/\H q=some (.tup [])/\((x= .non\/(∃ i,x= .int i)\/(∃ c,x= .bl c)\/(∃ c,x= .str c)\/(∃ p xs,x= .ref p/\H p=some (.lst xs))\/(∃ p kvs,x= .ref p/\H p=some (.dK kvs)))/\Q (.bl true) H\/∃ p xs,x= .ref p/\H p=some (.tup xs)/\Q (.bl (!decide (xs=[]))) H)
theorem jG6 (hu:X.A.units<cLine):OpR X (compareOp .NotEq) jLC:=by
 intro pins s σ H x y v u Q I rx ry h
 obtain⟨q,rfl,hq,h⟩:=h
 cases ry
 obtain⟨its2,r2,p2,_⟩:=I.tuple (SqT.of hq)
 have e2:its2=[]:=r2.zero
 subst e2
 rcases h with ⟨rfl | ⟨i,rfl⟩ | ⟨c,rfl⟩ | ⟨c,rfl⟩ | ⟨p,xs,rfl,hp⟩ | ⟨p,kvs,rfl,hp⟩,k⟩ | ⟨p,xs,rfl,hp,k⟩
 ·cases rx
  exact SeqAt.RcNeAt.none_tuple p2 hu _ _ _ _ ⟨.bl _,H,I,rfl,k⟩
 ·obtain⟨t,rfl⟩:=rx
  exact SeqAt.RcNeAt.int_tuple i t p2 hu _ _ _ _ ⟨.bl _,H,I,rfl,k⟩
 ·cases rx
  exact SeqAt.RcNeAt.bool_tuple c p2 hu _ _ _ _ ⟨.bl _,H,I,rfl,k⟩
 ·obtain⟨t,rfl⟩:=rx
  exact SeqAt.RcNeAt.str_tuple c t p2 hu _ _ _ _ ⟨.bl _,H,I,rfl,k⟩
 ·cases rx
  obtain⟨its,r1,p1,_⟩:=I.list (SqL.of hp)
  exact SeqAt.RcNeAt.list_tuple p1.isList p2 hu _ _ _ _ ⟨.bl _,H,I,rfl,k⟩
 ·cases rx
  obtain⟨_,_,vs,_,o,es,ep,e,c,_⟩:=(show ObjOk X.prog X.w H s.heap p (.dK kvs) from I.hok p _ hp)
  exact jO5 e c.1 p2 hu _ _ _ _ ⟨.bl _,H,I,rfl,k⟩
 ·cases rx
  obtain⟨its,r1,p1,_⟩:=I.tuple (SqT.of hp)
  have l1:=r1.length
  refine SeqAt.RcNeAt.tuples (e:=fun _=>true) p1 p2 hu (fun j a1 a2=>absurd a2 (by simp)) _ _ _ _ ⟨.bl _,H,I,rfl,?_⟩
  have e:(!((List.range (min its.toArray.size ([]:List Value).toArray.size)).all (fun _=>true)&&its.toArray.size==([]:List Value).toArray.size))=!decide (xs=[]):=by
   cases xs with
   | nil=>
    have:its=[]:=by simpa using l1.symm
    subst this
    rfl
   | cons a b=>
    have:its.length≠0:=by rw[<- l1]; simp
    simp [this]
  rw[e]
  exact k
end
end L2
end
section
end
section
namespace Eo
open PySem L2
def Keep (H H':Hp)(p:Addr):Prop:=∀ b o,H b=some o->b≠p->H' b=some o
structure Txt (mg:Str->Option Value):Prop where
 len:mg "len" =none
 range:mg "range" =none
 tuple:mg "tuple" =none
 sorted:mg "sorted" =none
 set:mg "set" =none
 list:mg "list" =none
 int:mg "int" =none
 isinstance:mg "isinstance" =none
 bool:mg "bool" =none
 str:mg "str" =none
 all:mg "all" =none
 zip:mg "zip" =none
 max:mg "max" =none
 min:mg "min" =none
 any:mg "any" =none
 abs:mg "abs" =none
 sum:mg "sum" =none
 enumerate:mg "enumerate" =none
 dict:mg "dict" =none
 ValueError:mg "ValueError" =none
structure Can (P:Program)(w:World)(K:W.Frag)(mg:Str->Option Value)(base:Heap)(x:Str)(k:Nat)(f:Addr)(fd:FuncData)(ps:List Str)(sp:Sp):Prop where
 G:FnOk P w K mg base CX0 k f fd ps sp
 m:mg x=some (.ref f)
 kp:keepIn K (.ref f)=true
 b:Binds K fd ps []
theorem Can.pe {X:Cx}{x:Str}{k:Nat}{f:Addr}{fd:FuncData}{ps:List Str}{sp:Sp}{e:Expr}{es:List Expr}{t:TA}{p pos:Pos}(C:Can X.prog X.w X.K X.mg X.base x k f fd ps sp)(hr:Room k X.A)(hg:Gl X x)(ha:PA X (e::es) t)(hdb:(x==("__debug__" :Str))=false:=by decide)
  (he:starEach (e::es) X.env=(false,eval e X.env)::starEach es X.env:=by rfl) (hpl:(backTo pos (starEach es X.env)).any (·.1)=false:=by rfl):PE X (.Call (.Name x p) (e::es) [] pos) (tCall sp [] E0 t):=
 jMB C.G hr hg C.m C.kp C.b .nil pass0 ha hdb he hpl
theorem Can.je {X:Cx}{x:Str}{k:Nat}{f:Addr}{fd:FuncData}{ps:List Str}{sp:Sp}{e:Expr}{es:List Expr}{t:TA}{p pos:Pos}(C:Can X.prog X.w X.K X.mg X.base x k f fd ps sp)(hr:Room k X.A)(hg:Gl1 X x)(ha:JA X (e::es) t)(he:starEach (e::es) X.env=(false,eval e X.env)::starEach es X.env)
  (hdb:(x==("__debug__" :Str))=false:=by decide) (hpl:(backTo pos (starEach es X.env)).any (·.1)=false:=by rfl):JE X (.Call (.Name x p) (e::es) [] pos) (tCall sp [] E0 t):=
 ⟨C.pe hr hg.a ha.h hdb he hpl⟩
section
variable {P:Program}{w:World}{K:W.Frag}{mg:Str->Option Value}{base:Heap}
def yJ (K:W.Frag):Sp:=fun vs H Q _=>∃ (a:Addr) (ns:List Int) (k:Int),vs=[.ref a, .int k]/\SqL K H a (ns.map V.int)/\0<=k/\∀ c:Int,Q (.int c) H
theorem jN6:FnScope ["script","k"] ["script","k"] (j9 sCell):=⟨rfl,rfl,rfl,by decide+kernel,rfl,by decide+kernel,by decide+kernel⟩
theorem jMI {f:Addr}{fd:FuncData}(F:Fun K "_law_cell_at" "_law_cell_at" sCell f fd)(T:Txt mg):FnOk P w K mg base CX0 1 f fd ["script","k"] (yJ K):=by
 refine F.ok jN6 (fun vs H Q E h=>?_) (fun cdv A outer s H vs Q E hr h=>?_)
 ·obtain⟨a,ns,k,rfl,_⟩:=h
  rfl
 ·obtain⟨a,ns,k,rfl,hS,h0,q⟩:=h
  refine⟨_,kJ (ps_if (jCJ op_lt (pv 1) (jDM jP (by rfl) T.len PySem.boot_len (jR (pv 0) yC)) (kU _)) (jAM (jC1 (pe_ix jBT (pv 0) (pv 1) (fun _ _=>rfl)))) jDI) (jAM (jC1 jK)),?_⟩
  refine⟨_,rfl,_,rfl,a,_,rfl, .inl hS,_,_,rfl,rfl,_,rfl,?_⟩
  refine ite2 (fun hlt=>?_) (fun _=>?_)
  ·have hlt:k<((ns.map V.int).length:Int):=aO hlt
   have hk:k.toNat<ns.length:=by rw[ae] at hlt; omega
   refine⟨_,rfl,_,rfl,a,_,k, .int (ns[k.toNat]),rfl,rfl,hS,?_,q _⟩
   have e:(k.toNat:Int)=k:=by omega
   have q2:=jFV (xs:=ns.map V.int) (j:=k.toNat) (v:=V.int ns[k.toNat]) (by simp [hk])
   rw[e] at q2
   exact q2
  ·exact q 0
def kG:Sp:=fun vs H Q _=>∃ (p:Addr) (N w:Int),vs=[.ref p, .int w]/\H p=some (.lst [.int N])/\0<=N/\0<w/\w<2 ^ 64/\∀ N' r:Int,0<=N'->0<=r->r<w->Q (.int r) (upd H p (.lst [.int N']))
theorem scTake:FnScope ["pot","wide","found"] ["pot","wide"] (j9 sTake):=⟨rfl,rfl,rfl,by decide+kernel,rfl,by decide+kernel,by decide+kernel⟩
theorem jMH {f:Addr}{fd:FuncData}(F:Fun K "_law_take" "_law_take" sTake f fd):FnOk P w K mg base CX0 1 f fd ["pot","wide"] kG:=by
 refine F.ok scTake (fun vs H Q E h=>?_) (fun cdv A outer s H vs Q E hr h=>?_)
 ·obtain⟨a,ns,k,rfl,_⟩:=h
  rfl
 ·obtain⟨p,N,w,rfl,hp,h0,h1,h2,q⟩:=h
  refine⟨_,kJ (yV (i:=2) scTake.nd rfl (Or.inl rfl) (kD jEE (pe_ix jBT (pv 0) jK (fun _ _=>rfl)) (pv 1)))
   (kJ (jNG (kD jG7 (pe_ix jBT (pv 0) jK (fun _ _=>rfl)) (pv 1)) (jNJ (pv 0) jK jK4))
   (jAM (jC1 (pv 2)))),?_⟩
  refine⟨_,rfl,p,_,0, .int N,rfl,rfl,SqL.of hp,rfl,_,rfl,_,_,rfl,rfl,h1,?_⟩
  refine⟨_,rfl,p,_,0, .int N,rfl,rfl,SqL.of hp,rfl,_,rfl,_,_,rfl,rfl,⟨h1,h2⟩,?_⟩
  refine⟨_,rfl,p,_,0,0,rfl,rfl,hp,rfl,_,rfl,?_⟩
  exact q _ _ (Int.ediv_nonneg h0 (by omega)) (Int.emod_nonneg _ (by omega)) (gK _ h1)
def yX:Sp:=fun vs H Q _=>∃ c:Int,vs=[.int c]/\∀ (p:Addr) (N:Int),H p=none->0<=N->Q (.ref p) (upd H p (.lst [.int N]))
theorem scPot:FnScope ["cell","number","j","more"] ["cell"] (j9 sPot):=⟨rfl,rfl,rfl,by decide+kernel,rfl,by decide+kernel,by decide+kernel⟩
theorem jNZ {f:Addr}{fd:FuncData}(F:Fun K "_law_pot" "_law_pot" sPot f fd)(T:Txt mg):FnOk P w K mg base CX0 1 f fd ["cell"] yX:=by
 refine F.ok scPot (fun vs H Q E h=>?_) (fun cdv A outer s H vs Q E hr h=>?_)
 ·obtain⟨c,rfl,_⟩:=h
  rfl
 ·obtain⟨c,rfl,q⟩:=h
  have one: [V.int 0].length<=sizeLine:=by show 1<=sizeLine; decide
  refine⟨_,kJ (ps_if (jCJ op_ge (pv 0) (kD jIA jK jK) (kU _)) (jAM (jC1 (jG5 (jR (kD jCL (pv 0) (kD jIA jK jK)) yC)))) jDI)
   (kJ (yV (i:=1) scPot.nd rfl (Or.inl rfl) jK)
   (kJ (jLD cz rfl (jBD rfl T.range (jR jK yC)) (jDK (i:=2) scPot.nd rfl (Or.inl rfl))
    (kJ (yV (i:=3) scPot.nd rfl (Or.inl rfl) (kD jEE (kD jC3 (kD yH (kD yH (kD jEE (pv 0) jK) (kD jC3 jK (pv 2))) jK) jK) jK))
    (kJ (yV (i:=3) scPot.nd rfl (Or.inl rfl) (kD jEE (kD yH (kD yH (kD jC3 (pv 3) (pv 3)) (kD jC3 jK (pv 2))) jK) jK))
    (jAM (yV (i:=1) scPot.nd rfl (Or.inl rfl) (kD yH (kD jC3 (pv 1) jK) (pv 3)))))))
   (jAM (jC1 (jG5 (jR (pv 1) yC)))))),?_⟩
  refine⟨_,rfl,_,_,rfl,rfl,⟨by decide,by decide,by decide⟩,_,_,rfl,rfl,_,rfl,?_⟩
  refine ite2 (fun hge=>?_) (fun _=>?_)
  ·refine⟨_,rfl,_,_,rfl,rfl,⟨by decide,by decide,by decide⟩,_,_,rfl,rfl,one,fun p hp=>q p _ hp ?_⟩
   exact Int.sub_nonneg_of_le (aO hge)
  ·refine⟨64,rfl,by decide,by decide,jBG (n:=64) (fun i σ H2=>∃ (num:Int) (v1 v2:Option V),σ=[some (.int c),some (.int num),v1,v2]/\0<=num/\H2=H) ⟨0,none,none,rfl,Int.le_refl _,rfl⟩ ?_ ?_⟩
   ·rintro i σ H2 hi ⟨num,v1,v2,rfl,hn,rfl⟩
    refine⟨_,rfl,_,_,rfl,rfl,(by show (0:Int)<2147483629; decide),_,rfl,_,_,rfl,rfl, .inl ⟨by decide,by decide⟩,_,_,rfl,rfl,_,_,rfl,rfl,_,_,rfl,rfl, .inr ⟨by decide,by decide⟩,_,_,rfl,rfl,(by show (0:Int)<2147483647; decide),?_⟩
    refine⟨_,rfl,_,rfl,_,_,rfl,rfl, .inl ⟨?_,?_⟩,_,rfl,_,_,rfl,rfl, .inl ⟨by decide,by decide⟩,_,_,rfl,rfl,_,_,rfl,rfl,_,_,rfl,rfl,(by show (0:Int)<2147483587; decide),?_⟩
    ·omega
    ·omega
    ·refine⟨_,rfl,_,_,rfl,rfl, .inr ⟨by decide,by decide⟩,_,rfl,_,_,rfl,rfl,?_⟩
     refine⟨_,_,_,rfl,?_,rfl⟩
     omega
   ·rintro σ H2 ⟨num,v1,v2,rfl,hn,rfl⟩
    exact⟨_,rfl,one,fun p hp=>q p num hp hn⟩
end
theorem jBN {H:Hp}{a:Addr}{o o':HO} :upd (upd H a o) a o'=upd H a o':=by
 funext b
 unfold upd
 by_cases h:b=a
 ·rw[aA h,aA h]
 ·rw[az h,az h,az h]
theorem kY {H:Hp}{a b:Addr}{o:HO}(h:upd H a o b=none):b≠a/\H b=none:=by
 have h1:b≠a:=fun e=>by rw[e,j7] at h; cases h
 exact⟨h1,by rw[jA h1] at h; exact h⟩
theorem Keep.refl (H:Hp)(p:Addr):Keep H H p:=fun _ _ h _=>h
theorem Keep.trans {H H1 H2:Hp}{p:Addr}(a:Keep H H1 p)(b:Keep H1 H2 p):Keep H H2 p:=fun c o h n=>b c o (a c o h n) n
theorem Keep.upd {H H1:Hp}{p:Addr}(a:Keep H H1 p)(o:HO):Keep H (upd H1 p o) p:=fun c u h n=>by rw[jA n]; exact a c u h n
theorem Keep.new {H H1:Hp}{p l:Addr}(a:Keep H H1 p)(hl:H1 l=none)(o:HO):Keep H (L2.upd H1 l o) p:=fun c u h n=>by
 have:=a c u h n
 rw[jA (jB this hl)]
 exact this
theorem pw {w:Int}(h1:1<=w)(h2:w<=16):(2:Int)<=2 ^ w.toNat/\(2:Int) ^ w.toNat<=65536:=by
 have e:∀ n:Nat,n<17->1<=n->(2:Int)<=2 ^ n/\(2:Int) ^ n<=65536:=by decide+kernel
 exact e w.toNat (by omega) (by omega)
structure Lot (w:Int)(ts:List Int):Prop where
 ris:ts.Pairwise (· < ·)
 bnd:∀ z∈ts,0<=z/\z<w
 ne:ts≠ []
def bits (n:Int)(k:Nat):List Int:=((List.range k).filter fun t=>decide (Builtin.bitAnd (n / 2 ^ t) 1=1)).map fun (t:Nat)=>(t:Int)
theorem jF3 (n:Int)(k:Nat):bits n (k+1)=bits n k++(if decide (Builtin.bitAnd (n / 2 ^ k) 1=1)=true then [(k:Int)] else []):=by
 unfold bits
 rw[List.range_succ,gL,au]
 congr 1
 rw[List.filter_cons]
 split <;> rfl
theorem jL4 {n w:Int}(h1:1<=n)(hw:0<=w)(h2:n<2 ^ w.toNat):Lot w (bits n w.toNat):=by
 refine⟨?_,fun z hz=>?_,?_⟩
 ·unfold bits
  rw[eY]
  have:=(fX (n:=w.toNat)).filter (fun t=>decide (Builtin.bitAnd (n / 2 ^ t) 1=1))
  exact this.imp fun h=>by omega
 ·unfold bits at hz
  obtain⟨t,ht,rfl⟩:=bE.mp hz
  have:=br.mp (dP.mp ht).1
  omega
 ·obtain⟨m,rfl⟩:∃ m:Nat,n=(m:Int):=⟨n.toNat,by omega⟩
  have hm:m≠0:=by omega
  have hlt:m<2 ^ w.toNat:=by
   have:((m:Nat):Int)<((2 ^ w.toNat:Nat):Int):=by rw[Int.natCast_pow]; exact h2
   omega
  obtain⟨i,hi⟩:=Nat.exists_testBit_of_ne_zero hm
  have hiw:i<w.toNat:=by
   rcases Nat.lt_or_ge i w.toNat with h | h
   ·exact h
   ·rw[Nat.testBit_lt_two_pow (av hlt (Nat.pow_le_pow_right (by omega) h))] at hi
    cases hi
  have hb:Builtin.bitAnd ((m:Int) / 2 ^ i) 1=1:=by
   have e:((m:Int) / 2 ^ i)=((m / 2 ^ i:Nat):Int):=by rw[Int.natCast_ediv,Int.natCast_pow]; rfl
   rw[e,PyProof.Rows.bitAnd_pp (gF _) (by decide)]
   have e2:(((m / 2 ^ i:Nat):Int).toNat&&&(1:Int).toNat)=1:=by
    rw[bj]
    show (m / 2 ^ i)&&&1=1
    rw[Nat.and_one_is_mod]
    have:=hi
    rw[Nat.testBit_eq_decide_div_mod_eq] at this
    exact aO this
   rw[e2]
   rfl
  intro z
  have hmem:(i:Int)∈bits (m:Int) w.toNat:=by
   unfold bits
   exact bE.mpr ⟨i,dP.mpr ⟨br.mpr hiw,aY hb⟩,rfl⟩
  rw[z] at hmem
  cases hmem
section
variable {P:Program}{w:World}{K:W.Frag}{mg:Str->Option Value}{base:Heap}
def yZ:Sp:=fun vs H Q _=>∃ (p:Addr) (N w:Int),vs=[.ref p, .int w]/\H p=some (.lst [.int N])/\0<=N/\1<=w/\w<=16/\
 ∀ (q:Addr) (N':Int) (ts:List Int) (H':Hp),0<=N'->Lot w ts->H' q=some (.tup (ts.map V.int))->H' p=some (.lst [.int N'])->Keep H H' p->Q (.ref q) H'
theorem scLot:FnScope ["pot","wide","way","number","start","step","size"] ["pot","wide"] (j9 sLot):=⟨rfl,rfl,rfl,by decide+kernel,rfl,by decide+kernel,by decide+kernel⟩
theorem jO1 {f fT:Addr}{fd fdT:FuncData}(F:Fun K "_law_lot" "_law_lot" sLot f fd)(T:Txt mg)(CT:Can P w K mg base "_law_take" 1 fT fdT ["pot","wide"] kG):FnOk P w K mg base CX0 2 f fd ["pot","wide"] yZ:=by
 refine F.ok scLot (fun vs H Q E h=>?_) (fun cdv A outer s H vs Q E hr h=>?_)
 ·obtain⟨a,ns,k,rfl,_⟩:=h
  rfl
 ·obtain⟨p,N,w,rfl,hp,hN,h1,h2,q⟩:=h
  have hpw:=pw h1 h2
  have nd:=scLot.nd
  refine⟨_,kJ (yV (i:=2) nd rfl (Or.inl rfl) (CT.pe hr rfl (jR (pv 0) (jR jK yC))))
   (kJ (ps_if (jCJ op_eq (pv 2) jK (kU _))
    (kJ (yV (i:=3) nd rfl (Or.inr rfl) (kD yH jK (CT.pe hr rfl (jR (pv 0) (jR (kD jCL (kD jNV jK (pv 1)) jK) yC)))))
    (jAM (jC1 (jBE jL rfl T.tuple (by decide+kernel) (jR
     (jFE (m:=[none,some 3]) (Nc:=["t","number"]) rfl (jBD rfl T.range (jR (pv 1) yC)) rfl (by decide+kernel) (by decide+kernel) (kQ (psc:=j9 sLot) (by decide+kernel))
      (jZ (N:=["pot","wide","way","number","start","step","size"]) rfl rfl (by decide+kernel))
      (fun cl C fp s H=>jDK (i:=0) (show (["t","number"]:List Str).Nodup by decide+kernel) rfl (Or.inl rfl))
      (fun cl C fp s H=>jI1 (jCJ op_eq (kD jNY (kD jNU (pv 1) (pv 0)) jK) jK (kU _)))
      (fun cl C fp s H=>pv 0)) yC)))))
    jDI)
   (kJ (yV (i:=4) nd rfl (Or.inr rfl) (CT.pe hr rfl (jR (pv 0) (jR (pv 1) yC))))
   (kJ (yV (i:=5) nd rfl (Or.inr rfl) (kD yH jK (CT.pe hr rfl (jR (pv 0) (jR jK yC)))))
   (kJ (yV (i:=6) nd rfl (Or.inl rfl) (kD yH jK (CT.pe hr rfl (jR (pv 0) (jR (pe_ix jBT (jG5 (jR jK (jR jK (jR jK yC)))) (kD jCL (pv 2) jK) (fun _ _=>rfl)) yC)))))
   (jAM (jC1 (jBE jL rfl T.tuple (by decide+kernel) (jR (jDM (jD2 rfl) rfl T.sorted (by decide+kernel) (jR (jBE (jJU rfl) rfl T.set (by decide+kernel) (jR
     (jFE (m:=[none,some 4,some 5,some 1]) (Nc:=["j","start","step","wide"]) rfl (jBD rfl T.range (jR (pv 6) yC)) rfl (by decide+kernel) (by decide+kernel) (kQ (psc:=j9 sLot) (by decide+kernel))
      (jZ (N:=["pot","wide","way","number","start","step","size"]) rfl rfl (by decide+kernel))
      (fun cl C fp s H=>jDK (i:=0) (show (["j","start","step","wide"]:List Str).Nodup by decide+kernel) rfl (Or.inl rfl))
      (fun cl C fp s H=>jI2)
      (fun cl C fp s H=>kD jEE (kD yH (pv 1) (kD jC3 (pv 2) (pv 0))) (pv 3))) yC)) yC)) yC)))))))),?_⟩
  refine⟨_,rfl,p,N,4,rfl,hp,hN,by decide,by decide,fun N1 way b1 b2 b3=>?_⟩
  have hp1:∀ M,(upd H p (.lst [.int M])) p=some (.lst [.int M]):=fun _=>j7
  refine⟨_,rfl,rfl,_,rfl,?_⟩
  refine ite2 (fun _=>?_) (fun hw0=>?_)
  ·refine⟨_,rfl,_,rfl,_,_,rfl,rfl,⟨by omega,by omega,by decide⟩,_,_,rfl,rfl,p,N1,_,rfl,hp1 _,b1,by omega,by omega,fun N2 r2 c1 c2 c3=>⟨_,_,rfl,rfl,?_⟩⟩
   have hnum:1+r2<2 ^ w.toNat:=by omega
   refine⟨_,rfl,w,rfl,by omega,by omega,jCG (n:=w.toNat) (by rw[aD]; omega) (fun D i σ' H' ys=>(∃ v,σ'=[v,some (.int (1+r2))])/\ys=(bits (1+r2) i).map V.int/\H'=upd (upd (upd H p (.lst [.int N1])) p (.lst [.int N2])) D (.lst ys)) ?_ ?_ ?_ ?_⟩
   ·intro D hD
    exact⟨⟨_,rfl⟩,rfl,rfl⟩
   ·rintro D i σ' H' ys hD hi ⟨_,e1,e2⟩
    refine⟨by rw[e2]; exact j7,?_⟩
    rw[e1,ae]
    unfold bits
    rw[ae]
    exact bt (ge _ _) (by rw[b0]; exact ai _)
   ·rintro D i σ' H' ys hD hi ⟨⟨v,rfl⟩,rfl,rfl⟩
    refine⟨_,rfl,_,rfl,_,_,rfl,rfl,(by show (0:Int)<=0+(i:Int); omega),_,_,rfl,rfl,rfl,_,rfl,?_⟩
    have ei:(0+(i:Int)).toNat=i:=by omega
    refine ite2 (fun hb=>?_) (fun hb=>?_)
    ·have hb:Builtin.bitAnd ((1+r2) / 2 ^ i) 1=1:=by
      have:=aO hb
      rw[ei] at this
      exact V.int.inj this
     refine⟨_,rfl,j7,⟨_,rfl⟩,?_,jBN⟩
     rw[jF3,aA (aY hb),au]
     congr 1
     show [V.int (0+(i:Int))]=[V.int (i:Int)]
     rw[dX]
    ·have hb:¬ Builtin.bitAnd ((1+r2) / 2 ^ i) 1=1:=fun e=>hb (aY (by rw[ei]; exact bF V.int e))
     refine⟨⟨_,rfl⟩,?_,rfl⟩
     rw[jF3,az (by simpa using hb),bn]
   ·rintro D σ' H' ys hD ⟨_,rfl,rfl⟩
    refine⟨D,_,rfl, .inl ⟨SqL.of j7,fun qq hqq=>?_⟩⟩
    obtain⟨n1,n2⟩:=kY hqq
    have pD:p≠D:=jB j7 hD
    have pq:p≠qq:=jB j7 n2
    exact q qq N2 (bits (1+r2) w.toNat) _ c1 (jL4 (by omega) (by omega) hnum) j7 (by rw[jA pq,jA pD,j7]) (((((Keep.refl H p).upd _).upd _).new hD _).new hqq _)
  ·have hway:1<=way:=by
    have:¬ way=0:=fun e=>hw0 (aY (by rw[e]))
    omega
   refine⟨_,rfl,_,rfl,p,N1,w,rfl,hp1 _,b1,by omega,by omega,fun N2 kT c1 c2 c3=>?_⟩
   rw[jBN]
   refine⟨_,rfl,p,N2,3,rfl,hp1 _,c1,by decide,by decide,fun N3 st d1 d2 d3=>⟨_,_,rfl,rfl,?_⟩⟩
   rw[jBN]
   refine⟨_,rfl,(by show 3<=sizeLine; decide),fun l hl=>?_⟩
   have pl:p≠l:=jB (hp1 _) hl
   obtain⟨wd,hwd,e1,e2⟩:∃ wd:Int,atI [V.int 1,V.int 2,V.int 4] (way - 1)=some (.int wd)/\1<=wd/\wd<=4:=by
    rcases (show way=1\/way=2\/way=3 by omega) with e | e | e
    ·subst e; exact⟨1,rfl,by decide,by decide⟩
    ·subst e; exact⟨2,rfl,by decide,by decide⟩
    ·subst e; exact⟨4,rfl,by decide,by decide⟩
   refine⟨_,rfl,_,_,rfl,rfl,l,_,_,_,rfl,rfl,SqL.of j7,hwd,p,N3,wd,rfl,by rw[jA pl]; exact hp1 _,d1,by omega,by omega,fun N4 r4 g1 g2 g3=>⟨_,_,rfl,rfl,?_⟩⟩
   have kp:Keep H (upd (upd (upd H p (.lst [.int N3])) l (.lst [V.int 1,V.int 2,V.int 4])) p (.lst [.int N4])) p:=(((Keep.refl H p).upd _).new hl _).upd _
   have hp4:(upd (upd (upd H p (.lst [.int N3])) l (.lst [V.int 1,V.int 2,V.int 4])) p (.lst [.int N4])) p=some (.lst [.int N4]):=j7
   generalize (upd (upd (upd H p (.lst [.int N3])) l (.lst [V.int 1,V.int 2,V.int 4])) p (.lst [.int N4]))=H4 at kp hp4 ⊢
   refine⟨_,rfl,1+r4,rfl,by omega,by omega,jCG (n:=(1+r4).toNat) (by rw[aD]; omega) (fun D i σ' H' ys=>(∃ v,σ'=[v,some (.int kT),some (.int (1+st)),some (.int w)])/\(∃ ns:List Int,ys=ns.map V.int/\ns.length=i/\∀ z∈ns,0<=z/\z<w)/\H'=upd H4 D (.lst ys)) ?_ ?_ ?_ ?_⟩
   ·intro D hD
    exact⟨⟨_,rfl⟩,⟨[],rfl,rfl,fun z hz=>by cases hz⟩,rfl⟩
   ·rintro D i σ' H' ys hD hi ⟨_,⟨ns,rfl,e,_⟩,rfl⟩
    exact⟨j7,by rw[ae,e]; exact ai _⟩
   ·rintro D i σ' H' ys hD hi ⟨⟨v,rfl⟩,⟨ns,rfl,e,hb⟩,rfl⟩
    dsimp only [yS,yY]
    rw[aA rfl]
    refine⟨_,rfl,_,rfl,_,rfl,_,_,rfl,rfl, .inl ⟨by omega,by omega⟩,_,_,rfl,rfl,_,rfl,_,_,rfl,rfl,(by show 0<w; omega),j7,⟨_,rfl⟩,⟨ns++[(kT+(1+st)*(0+(i:Int))) % w],by simp,by simp [e],fun z hz=>?_⟩,jBN⟩
    rcases bS.mp hz with hz | hz
    ·exact hb z hz
    ·have:z=(kT+(1+st)*(0+(i:Int))) % w:=by simpa using hz
     rw[this]
     exact⟨Int.emod_nonneg _ (by omega),gK _ (by omega)⟩
   ·rintro D σ' H' ys hD ⟨_,⟨ns,rfl,e,hb⟩,rfl⟩
    refine⟨D,ns,rfl,SqL.of j7,by omega,fun z hz=>⟨(hb z hz).1,by have:=(hb z hz).2; omega⟩,fun l1 ks h11 hm1=>?_⟩
    refine⟨l1,ks,rfl,j7,fun l2 ms h12 srt hm2=>?_⟩
    refine⟨l2,_,rfl, .inl ⟨SqL.of j7,fun qq hqq=>?_⟩⟩
    have pD:p≠D:=jB hp4 hD
    have p1:p≠l1:=jB hp4 (kY h11).2
    have p2:p≠l2:=jB hp4 (kY (kY h12).2).2
    have pq:p≠qq:=jB hp4 (kY (kY (kY hqq).2).2).2
    refine q qq N4 ms _ g1 ⟨srt,fun z hz=>hb z ((hm1 z).mp ((hm2 z).mp hz)),fun z=>?_⟩ j7 (by rw[jA pq,jA p2,jA p1,jA pD]; exact hp4) ((((kp.new hD _).new h11 _).new h12 _).new hqq _)
    subst z
    cases ns with
    | nil=>simp at e; omega
    | cons x r=>
     have:=(hm2 x).mpr ((hm1 x).mpr aB)
     cases this
end
structure Ris (w:Int)(ts:List Int):Prop where
 ris:ts.Pairwise (· < ·)
 bnd:∀ z∈ts,0<=z/\z<w
theorem Ris.nil (w:Int):Ris w []:=⟨.nil,fun z hz=>by cases hz⟩
theorem Ris.take {w:Int}{ts:List Int}(h:Ris w ts)(k:Nat):Ris w (ts.take k):=⟨h.ris.sublist (cY _ _),fun z hz=>h.bnd z (gm hz)⟩
theorem Ris.drop {w:Int}{ts:List Int}(h:Ris w ts)(k:Nat):Ris w (ts.drop k):=⟨h.ris.sublist (List.drop_sublist _ _),fun z hz=>h.bnd z (dG hz)⟩
theorem Ris.snoc {i:Nat}{ts:List Int}(h:Ris i ts):Ris (i+1:Nat) (ts++[(i:Int)]):=by
 refine⟨gg.mpr ⟨h.ris,List.pairwise_singleton _ _,fun a ha b hb=>?_⟩,fun z hz=>?_⟩
 ·have:=(h.bnd a ha).2
  have e:b=i:=by simpa using hb
  omega
 ·rcases bS.mp hz with q | q
  ·have:=h.bnd z q
   omega
  ·have e:z=i:=by simpa using q
   omega
theorem Ris.step {i:Nat}{ts:List Int}(h:Ris i ts):Ris (i+1:Nat) ts:=⟨h.ris,fun z hz=>by have:=h.bnd z hz; omega⟩
def upto (n:Nat):List Int:=(List.range n).map fun (i:Nat)=>(i:Int)
theorem jJD (n:Nat):yI n=(upto n).map V.int:=by
 unfold yI upto
 rw[ce]
 rfl
theorem jAV (n:Nat):Ris n (upto n):=by
 refine⟨?_,fun z hz=>?_⟩
 ·unfold upto
  rw[eY]
  exact fX.imp fun h=>by omega
 ·unfold upto at hz
  obtain⟨t,ht,rfl⟩:=bE.mp hz
  have:=br.mp ht
  omega
def Tups (H H':Hp):Prop:=∀ b xs,H b=some (.tup xs)->H' b=some (.tup xs)
theorem Tups.trans {H H1 H2:Hp}(a:Tups H H1)(b:Tups H1 H2):Tups H H2:=fun c o h=>b c o (a c o h)
theorem Keep.tups {H H':Hp}{p:Addr}{xs:List V}(k:Keep H H' p)(hp:H p=some (.lst xs)):Tups H H':=fun b ys hb=>k b _ hb fun e=>by
 subst e
 rw[hb] at hp
 cases hp
theorem Tups.upd {H:Hp}{p:Addr}{xs:List V}(hp:H p=some (.lst xs))(o:HO):Tups H (upd H p o):=fun b ys hb=>by
 rw[jA (fun e=>by subst e; rw[hb] at hp; cases hp)]
 exact hb
theorem Tups.new {H:Hp}{p:Addr}(hp:H p=none)(o:HO):Tups H (L2.upd H p o):=fun b ys hb=>by
 rw[jA (jB hb hp)]
 exact hb
def PcAt (H:Hp)(v:V)(pc:List Int×Int):Prop:=∃ a q,v= .ref a/\H a=some (.tup [.ref q, .int pc.2])/\H q=some (.tup (pc.1.map V.int))
def PcsAt (H:Hp):List V->List (List Int×Int)->Prop
 | [],[]=>True
 | v::vs,p::ps=>PcAt H v p/\PcsAt H vs ps
 | _,_=>False
theorem PcAt.mono {H H':Hp}{v:V}{pc:List Int×Int}(h:PcAt H v pc)(t:Tups H H'):PcAt H' v pc:=by
 obtain⟨a,q,rfl,h1,h2⟩:=h
 exact⟨a,q,rfl,t _ _ h1,t _ _ h2⟩
theorem PcsAt.mono {H H':Hp}(t:Tups H H'):∀ {vs:List V}{ps:List (List Int×Int)},PcsAt H vs ps->PcsAt H' vs ps
 | [],[],_=>trivial
 | _::_,_::_,h=>⟨h.1.mono t,PcsAt.mono t h.2⟩
 | [],_::_,h=>h.elim
 | _::_,[],h=>h.elim
theorem PcsAt.len {H:Hp} :∀ {vs:List V}{ps:List (List Int×Int)},PcsAt H vs ps->vs.length=ps.length
 | [],[],_=>rfl
 | _::_,_::_,h=>bF (· +1) (PcsAt.len h.2)
 | [],_::_,h=>h.elim
 | _::_,[],h=>h.elim
theorem PcsAt.put {H:Hp}{v:V}{p:List Int×Int}(hv:PcAt H v p):∀ (k:Nat) {vs:List V}{ps:List (List Int×Int)},PcsAt H vs ps->PcsAt H (vs.take k++v::vs.drop k) (ps.take k++p::ps.drop k)
 | 0,_,_,h=>⟨hv,h⟩
 | _+1,[],[],_=>⟨hv,trivial⟩
 | k+1,_::_,_::_,h=>⟨h.1,PcsAt.put hv k h.2⟩
 | _+1,[],_::_,h=>h.elim
 | _+1,_::_,[],h=>h.elim
structure GoodPc (w:Int)(pc:List Int×Int):Prop where
 lot:Lot w pc.1
 lo: -1000000000000<=pc.2
 hi:pc.2<=1000000000000
structure BoxAt (H:Hp)(b:Addr)(w:Int)(mays:List Int)(pcs:List (List Int×Int)):Prop where
 ex:∃ qm qp vs,H b=some (.tup [.int w, .ref qm, .ref qp])/\H qm=some (.tup (mays.map V.int))/\H qp=some (.tup vs)/\PcsAt H vs pcs
theorem BoxAt.mono {H H':Hp}{b:Addr}{w:Int}{mays:List Int}{pcs:List (List Int×Int)}(h:BoxAt H b w mays pcs)(t:Tups H H'):BoxAt H' b w mays pcs:=by
 obtain⟨qm,qp,vs,h1,h2,h3,h4⟩:=h.ex
 exact⟨qm,qp,vs,t _ _ h1,t _ _ h2,t _ _ h3,h4.mono t⟩
structure Good (mt mp:Int)(w:Int)(mays:List Int)(pcs:List (List Int×Int)):Prop where
 w0:0<=w
 w1:w<=mt
 mr:Ris w mays
 pl:(pcs.length:Int)<=mp
 pg:∀ pc∈pcs,GoodPc w pc
theorem Keep.updNew {H H1:Hp}{p l:Addr}(a:Keep H H1 p)(hl:H l=none)(o:HO):Keep H (L2.upd H1 l o) p:=fun c u h n=>by
 rw[jA (jB h hl)]
 exact a c u h n
section
variable {P:Program}{w:World}{K:W.Frag}{mg:Str->Option Value}{base:Heap}
def spBox:Sp:=fun vs H Q _=>∃ (p:Addr) (N mt mp:Int),vs=[.ref p, .int mt, .int mp]/\H p=some (.lst [.int N])/\0<=N/\0<=mt/\mt<=16/\0<=mp/\mp<=32/\
 ∀ (b:Addr) (N' w:Int) (mays:List Int) (pcs:List (List Int×Int)) (H':Hp),0<=N'->H' p=some (.lst [.int N'])->BoxAt H' b w mays pcs->Good mt mp w mays pcs->Keep H H' p->Q (.ref b) H'
abbrev nBox:List Str:=["pot","most_things","most_pieces","wide","mays","left","far","pieces","k","size","things"]
theorem scBox:FnScope nBox ["pot","most_things","most_pieces"] (j9 sBox):=⟨rfl,rfl,rfl,by decide+kernel,rfl,by decide+kernel,by decide+kernel⟩
end
section
variable {P:Program}{w:World}{K:W.Frag}{mg:Str->Option Value}{base:Heap}
abbrev XBox (P:Program)(w:World)(K:W.Frag)(mg:Str->Option Value)(base:Heap)(f:Addr)(cdv:Value)(A:Around)(outer:List Env)(s:Shared)(H:Hp)(E:XK):Cx:=(cxOf CX0 P w K mg base nBox "_law_box" (j9 sBox) f cdv A outer s H E).nox
def jGC:Stmt->List Stmt
 | .For _ _ b _ _=>b
 | _=> []
def boxI {f fT fL:Addr}{fdT fdL:FuncData}{cdv:Value}{A:Around}{outer:List Env}{s:Shared}{H:Hp}{E:XK}(T:Txt mg)(CT:Can P w K mg base "_law_take" 1 fT fdT ["pot","wide"] kG)(CL:Can P w K mg base "_law_lot" 2 fL fdL ["pot","wide"] yZ)(hr:Room 2 (XBox P w K mg base f cdv A outer s H E).A): { t:TS // JSs (XBox P w K mg base f cdv A outer s H E) ((jGC ((jD sBox).getD 7 (.Pass ⟨0,0,0,0⟩))).drop 4) t} :=
 have nd:=scBox.nd
 ⟨_,(jJ (jCS (je_bm bp PySem.F.slot_list_insert PySem.F.type_list_insert jIO (jv 7 rfl vL) (j4 (CT.je (hr.mono (by decide)) gD (j4 (jv 0 rfl vC) (j4 (y4 yH (jG jP gD T.len (by decide+kernel) (j4 (jv 7 rfl vL) j8 j6) j6) (jE)) j8 y8) j6) j6) (j4 (jGD (j4 (jv 10 rfl vL) (j4 (y4 jCL (CT.je (hr.mono (by decide)) gD (j4 (jv 0 rfl vC) (j4 (jv 6 rfl vL) j8 j6) j6) j6) (y4 jG7 (jv 6 rfl vL) (jE))) j8 y8) j6)) j8 jBB) jC) jC) jX))⟩
def boxL {f fT fL:Addr}{fdT fdL:FuncData}{cdv:Value}{A:Around}{outer:List Env}{s:Shared}{H:Hp}{E:XK}(T:Txt mg)(CT:Can P w K mg base "_law_take" 1 fT fdT ["pot","wide"] kG)(CL:Can P w K mg base "_law_lot" 2 fL fdL ["pot","wide"] yZ)(hr:Room 2 (XBox P w K mg base f cdv A outer s H E).A): { t:TS // JSs (XBox P w K mg base f cdv A outer s H E) (jGC ((jD sBox).getD 7 (.Pass ⟨0,0,0,0⟩))) t} :=
 have nd:=scBox.nd
 ⟨_,(jF (jT (i:=9) nd rfl lL (y4 yH (jE) (CT.je (hr.mono (by decide)) gD (j4 (jv 0 rfl vC) (j4 (jE) j8 jH) j6) j6)) jE5)
   (jF (jT (i:=10) nd rfl lL (jI jL gD T.tuple (by decide+kernel) (j4 (jA2 jHU (jv 5 rfl vL) jAC (yQ (jv 9 rfl vL))) j8 jW) jW) jX)
   (jF (jT (i:=5) nd rfl lL (jA2 jHU (jv 5 rfl vL) (yQ (jv 9 rfl vL)) jAC) jLA)
   (jF (qD (yO (jNW hr.units0) (jv 10 rfl vL) (jGD j8) (kU _)) (jJ (jT (i:=10) nd rfl lL (CL.je hr gD (j4 (jv 0 rfl vC) (j4 (jv 3 rfl vL) j8 j6) j6) j6) jX)) yP)
   (boxI T CT CL hr).2))))⟩
def boxC {f fT fL:Addr}{fdT fdL:FuncData}{cdv:Value}{A:Around}{outer:List Env}{s:Shared}{H:Hp}{E:XK}(T:Txt mg)(CT:Can P w K mg base "_law_take" 1 fT fdT ["pot","wide"] kG)(CL:Can P w K mg base "_law_lot" 2 fL fdL ["pot","wide"] yZ)(hr:Room 2 (XBox P w K mg base f cdv A outer s H E).A): { t:TS // JSs (XBox P w K mg base f cdv A outer s H E) ((jD sBox).drop 5) t} :=
 have nd:=scBox.nd
 ⟨_,(jF (jT (i:=6) nd rfl lL (kS jBT (jJ8 (j4 (jE) (j4 (jE) (j4 (jOH) j8 y8) jH) jH)) (CT.je (hr.mono (by decide)) gD (j4 (jv 0 rfl vC) (j4 (jE) j8 jH) j6) j6) jI0) jLA)
   (jF (jT (i:=7) nd rfl lL (jJ8 j8) jD5)
   (jF (jEN cz rfl (jCT gD T.range (j4 (y4 jC3 (CT.je (hr.mono (by decide)) gD (j4 (jv 0 rfl vC) (j4 (y4 yH (jv 2 rfl vL) (jE)) j8 y8) j6) j6) (jI jJV gD T.int (by decide+kernel) (j4 (jDT op_gt (jv 3 rfl vL) (jE) (kU _)) j8 jLB) jLB)) j8 y8) y8) (kL (i:=8) nd rfl lL) (boxL T CT CL hr).2 jBX)
   (jJ (kN (jGD (j4 (jv 3 rfl vL) (j4 (jv 4 rfl vL) (j4 (jI jL gD T.tuple (by decide+kernel) (j4 (jv 7 rfl vL) j8 j6) j6) j8 jC) j6) j6)))))))⟩
def boxB {f fT fL:Addr}{fdT fdL:FuncData}{cdv:Value}{A:Around}{outer:List Env}{s:Shared}{H:Hp}{E:XK}(T:Txt mg)(CT:Can P w K mg base "_law_take" 1 fT fdT ["pot","wide"] kG)(CL:Can P w K mg base "_law_lot" 2 fL fdL ["pot","wide"] yZ)(hr:Room 2 (XBox P w K mg base f cdv A outer s H E).A): { t:TS // JSs (XBox P w K mg base f cdv A outer s H E) ((jD sBox).drop 3) t} :=
 have nd:=scBox.nd
 ⟨_,(jF (jT (i:=5) nd rfl lL (jI (jAU rfl) gD T.list (by decide+kernel) (j4 (jI jA6 gD T.range (by decide+kernel) (j4 (jv 3 rfl vL) j8 j6) j6) j8 jC) jC) jX)
   (jF (qD (yO op_eq (CT.je (hr.mono (by decide)) gD (j4 (jv 0 rfl vC) (j4 (jE) j8 jH) j6) j6) (jE) (kU _)) (jJ (jT (i:=5) nd rfl lL (jJ8 j8) jD5)) yP)
   (boxC T CT CL hr).2))⟩
def boxA {f fT fL:Addr}{fdT fdL:FuncData}{cdv:Value}{A:Around}{outer:List Env}{s:Shared}{H:Hp}{E:XK}(T:Txt mg)(CT:Can P w K mg base "_law_take" 1 fT fdT ["pot","wide"] kG)(CL:Can P w K mg base "_law_lot" 2 fL fdL ["pot","wide"] yZ)(hr:Room 2 (XBox P w K mg base f cdv A outer s H E).A): { t:TS // JSs (XBox P w K mg base f cdv A outer s H E) (jD sBox) t} :=
 have nd:=scBox.nd
 ⟨_,(jF (jT (i:=3) nd rfl lL (CT.je (hr.mono (by decide)) gD (j4 (jv 0 rfl vC) (j4 (y4 yH (jv 1 rfl vL) (jE)) j8 y8) j6) j6) jX)
   (jF (jT (i:=4) nd rfl lL (jGD j8) jL9)
   (jF (qD (yO op_eq (CT.je (hr.mono (by decide)) gD (j4 (jv 0 rfl vC) (j4 (jE) j8 jH) j6) j6) (jE) (kU _)) (jJ (jT (i:=4) nd rfl lL (jI jL gD T.tuple (by decide+kernel) (j4 (jAE (m:=[none,some 0]) (Nc:=["t","pot"]) rfl (jCT gD T.range (j4 (jv 3 rfl vL) j8 j6) j6) rfl (by decide+kernel) (by decide+kernel) (kQ (psc:=j9 sBox) (by decide+kernel)) (jZ (N:=nBox) rfl rfl (by decide+kernel)) (fun cl C fp s H=>kL (i:=0) (show (["t","pot"]:List Str).Nodup by decide+kernel) rfl (qB (by decide+kernel))) (fun cl C fp s H=>jJ1 (yO op_eq (CT.je (hr.mono (by decide)) (gl_b (by decide+kernel)) (j4 (jv 1 rfl (jB7 (by decide+kernel))) (j4 (jE) j8 jH) j6) j6) (jE) (kU _))) (fun cl C fp s H=>(jv 0 rfl (y6 (by decide+kernel)))) jBX) j8 jV) jV) jX)) yP)
   (boxB T CT CL hr).2)))⟩
end
structure St0 (H H2:Hp)(p:Addr)(w:Int)(qm ql:Addr)(mays lf:List Int)(N:Int):Prop where
 hp:H2 p=some (.lst [.int N])
 hN:0<=N
 hm:H2 qm=some (.tup (mays.map V.int))
 rm:Ris w mays
 hl:H2 ql=some (.lst (lf.map V.int))
 rl:Ris w lf
 ne:ql≠p
 kp:Keep H H2 p
theorem St0.step {H H2 H3:Hp}{p:Addr}{w:Int}{qm ql:Addr}{mays lf:List Int}{N N':Int}(S:St0 H H2 p w qm ql mays lf N)(k:Keep H2 H3 p)(hp:H3 p=some (.lst [.int N']))(hN:0<=N'):St0 H H3 p w qm ql mays lf N':=
 ⟨hp,hN,k qm _ S.hm (ne_of S.hm S.hp (by intro z; cases z)),S.rm,k ql _ S.hl S.ne,S.rl,S.ne,S.kp.trans k⟩
theorem jJO {w:Int}{lf:List Int}(h:Ris w lf)(lo hi:Option Int):∃ l',cutV (lf.map V.int) lo hi=l'.map V.int/\Ris w l':=by
 refine⟨(lf.drop (HT.sIx lf.length 0 lo)).take (HT.sIx lf.length lf.length hi - HT.sIx lf.length 0 lo),?_,(h.drop _).take _⟩
 unfold cutV
 rw[ae,fg,List.map_drop]
section
variable {P:Program}{w:World}{K:W.Frag}{mg:Str->Option Value}{base:Heap}
variable {f fT fL:Addr}{fdT fdL:FuncData}{cdv:Value}{A:Around}{outer:List Env}{s:Shared}{H0:Hp}{E:XK}
theorem jEZ (T:Txt mg)(CT:Can P w K mg base "_law_take" 1 fT fdT ["pot","wide"] kG)(CL:Can P w K mg base "_law_lot" 2 fL fdL ["pot","wide"] yZ)(hr:Room 2 (XBox P w K mg base f cdv A outer s H0 E).A)
  {D:Ends}{H H5:Hp}{p qm ql qp qt:Addr}{mt mp w N far:Int}{mays lf ts:List Int}{vs:List V}{pcs:List (List Int×Int)}{v8 v9:Option V}
  (S:St0 H H5 p w qm ql mays lf N) (hqp:H5 qp=some (.lst vs)) (hv:PcsAt H5 vs pcs) (hg:∀ pc∈pcs,GoodPc w pc) (hqt:H5 qt=some (.tup (ts.map V.int))) (lt:Lot w ts) (hf:far=1\/far=10\/far=2000000000001) (hn:pcs.length<=100) (hH:H qp=none) (hne:ql≠qp) (hpp:p≠qp)
  (nx:∀ H6 N' vs' pcs',St0 H H6 p w qm ql mays lf N'->H6 qp=some (.lst vs')->PcsAt H6 vs' pcs'->(∀ pc∈pcs',GoodPc w pc)->pcs'.length=pcs.length+1->D.nx [some (.ref p),some (.int mt),some (.int mp),some (.int w),some (.ref qm),some (.ref ql),some (.int far),some (.ref qp),v8,v9,some (.ref qt)] H6):
  (boxI T CT CL hr).1 D [some (.ref p),some (.int mt),some (.int mp),some (.int w),some (.ref qm),some (.ref ql),some (.int far),some (.ref qp),v8,v9,some (.ref qt)] H5:=by
 have hlen:=hv.len
 have h64:(0:Int)<far/\far<2 ^ 64:=by rcases hf with e | e | e <;> subst e <;> decide
 refine⟨_,rfl, .inl ⟨rfl,_,SqL.of hqp⟩,_,rfl,_,rfl,qp,vs,rfl, .inl (SqL.of hqp),_,_,rfl,rfl,p,N,_,rfl,S.hp,S.hN,by omega,by omega,fun N1 i a1 a2 a3=>?_⟩
 refine⟨_,rfl,_,rfl,_,rfl,p,N1,far,rfl,j7,a1,h64.1,h64.2,fun N2 r b1 b2 b3=>?_⟩
 rw[jBN]
 refine⟨_,rfl,_,_,rfl,rfl,⟨by decide,by decide⟩,_,_,rfl,rfl,(by show 2<=sizeLine; decide),fun tq htq=>?_⟩
 obtain⟨t1,t2⟩:=kY htq
 have ht:tq≠qp:=fun e=>by subst e; rw[hqp] at t2; cases t2
 refine⟨qp,vs,i,_,rfl,rfl,by rw[jA ht.symm,jA hpp.symm]; exact hqp,a2,by omega,by rw[aD]; omega,?_⟩
 have T1:Tups H5 (upd (upd H5 p (.lst [.int N2])) tq (.tup [.ref qt, .int (r - far / 2)])):=(Tups.upd S.hp _).trans (Tups.new htq _)
 have k1:Keep H5 (upd (upd H5 p (.lst [.int N2])) tq (.tup [.ref qt, .int (r - far / 2)])) p:=((Keep.refl _ _).upd _).new htq _
 have S1:=S.step k1 (by rw[jA t1.symm]; exact j7) b1
 have hq1:(upd (upd H5 p (.lst [.int N2])) tq (.tup [.ref qt, .int (r - far / 2)])) qp=some (.lst vs):=by rw[jA ht.symm,jA hpp.symm]; exact hqp
 have T2:=T1.trans (Tups.upd hq1 (.lst (vs.take i.toNat++V.ref tq::vs.drop i.toNat)))
 have pc:PcAt (upd (upd H5 p (.lst [.int N2])) tq (.tup [.ref qt, .int (r - far / 2)])) (.ref tq) (ts,r - far / 2):=⟨tq,qt,rfl,j7,T1 _ _ hqt⟩
 refine nx _ N2 _ (pcs.take i.toNat++(ts,r - far / 2)::pcs.drop i.toNat) ⟨?_,b1,?_,S.rm,?_,S.rl,S.ne,S1.kp.updNew hH _⟩ j7 ?_ ?_ ?_
 ·rw[jA hpp]; exact S1.hp
 ·exact(Tups.upd hq1 _) _ _ S1.hm
 ·rw[jA hne]; exact S1.hl
 ·exact PcsAt.put (pc.mono (Tups.upd hq1 _)) _ (hv.mono T2)
 ·intro c hc
  rcases bS.mp hc with h | h
  ·exact hg c (gm h)
  ·rcases aq.mp h with h | h
   ·subst h
    refine⟨lt,?_,?_⟩
    ·show -1000000000000<=r - far / 2
     rcases hf with e | e | e <;> subst e <;> omega
    ·show r - far / 2<=1000000000000
     rcases hf with e | e | e <;> subst e <;> omega
   ·exact hg c (dG h)
 ·rw[al,bd,aP,bP]
  omega
end
section
variable {P:Program}{w:World}{K:W.Frag}{mg:Str->Option Value}{base:Heap}
variable {f fT fL:Addr}{fdT fdL:FuncData}{cdv:Value}{A:Around}{outer:List Env}{s:Shared}{H0:Hp}{E:XK}
theorem jJW (T:Txt mg)(CT:Can P w K mg base "_law_take" 1 fT fdT ["pot","wide"] kG)(CL:Can P w K mg base "_law_lot" 2 fL fdL ["pot","wide"] yZ)(hr:Room 2 (XBox P w K mg base f cdv A outer s H0 E).A)
  {D:Ends}{H H5:Hp}{p qm ql qp:Addr}{mt mp w N far:Int}{mays lf:List Int}{vs:List V}{pcs:List (List Int×Int)}{v8 v9 v10:Option V}
  (S:St0 H H5 p w qm ql mays lf N) (hqp:H5 qp=some (.lst vs)) (hv:PcsAt H5 vs pcs) (hg:∀ pc∈pcs,GoodPc w pc) (hf:far=1\/far=10\/far=2000000000001) (hn:pcs.length<=100) (hH:H qp=none) (hpp:p≠qp) (w1:1<=w) (w2:w<=16)
  (nx:∀ H6 N' vs' pcs' ql' lf' v9' v10',St0 H H6 p w qm ql' mays lf' N'->ql'≠qp->H6 qp=some (.lst vs')->PcsAt H6 vs' pcs'->(∀ pc∈pcs',GoodPc w pc)->pcs'.length=pcs.length+1->D.nx [some (.ref p),some (.int mt),some (.int mp),some (.int w),some (.ref qm),some (.ref ql'),some (.int far),some (.ref qp),v8,v9',v10'] H6):
  (boxL T CT CL hr).1 D [some (.ref p),some (.int mt),some (.int mp),some (.int w),some (.ref qm),some (.ref ql),some (.int far),some (.ref qp),v8,v9,v10] H5:=by
 refine⟨_,rfl,p,N,3,rfl,S.hp,S.hN,by decide,by decide,fun N1 r1 a1 a2 a3=>⟨_,_,rfl,rfl,?_⟩⟩
 have S1:=S.step ((Keep.refl _ _).upd (.lst [.int N1])) j7 a1
 have hq1:(upd H5 p (.lst [.int N1])) qp=some (.lst vs):=by rw[jA hpp.symm]; exact hqp
 have hv1:=hv.mono (Tups.upd S.hp (.lst [.int N1]))
 generalize upd H5 p (.lst [.int N1])=H6 at S1 hq1 hv1 ⊢
 clear S hqp hv
 obtain⟨l1,e1,g1⟩:=jJO S1.rl none (some (1+r1))
 obtain⟨l2,e2,g2⟩:=jJO S1.rl (some (1+r1)) none
 refine⟨_,rfl,_,rfl,1+r1,rfl,ql,_,rfl,SqL.of S1.hl,fun x hx=>⟨x,_,rfl, .inl ⟨SqL.of j7,fun qt hqt=>?_⟩⟩⟩
 rw[e1] at hqt ⊢
 have k1:Keep H6 (upd (upd H6 x (.lst (l1.map V.int))) qt (.tup (l1.map V.int))) p:=((Keep.refl _ _).new hx _).new hqt _
 obtain⟨t1,t2⟩:=kY hqt
 have px:p≠x:=jB S1.hp hx
 have pt:p≠qt:=jB S1.hp t2
 have qx:qp≠x:=jB hq1 hx
 have qq:qp≠qt:=jB hq1 t2
 have S2:=S1.step k1 (by rw[jA pt,jA px]; exact S1.hp) S1.hN
 have hq2:(upd (upd H6 x (.lst (l1.map V.int))) qt (.tup (l1.map V.int))) qp=some (.lst vs):=by rw[jA qq,jA qx]; exact hq1
 have hv2:=hv1.mono (k1.tups S1.hp)
 have ht2:(upd (upd H6 x (.lst (l1.map V.int))) qt (.tup (l1.map V.int))) qt=some (.tup (l1.map V.int)):=j7
 generalize upd (upd H6 x (.lst (l1.map V.int))) qt (.tup (l1.map V.int))=H7 at S2 hq2 hv2 ht2 ⊢
 clear k1 hqt t2 hx S1 hq1 hv1
 refine⟨_,rfl,_,rfl,1+r1,rfl,ql,_,rfl,SqL.of S2.hl,fun ql' hql=>?_⟩
 rw[e2]
 have pl:p≠ql':=jB S2.hp hql
 have k2:Keep H7 (upd H7 ql' (.lst (l2.map V.int))) p:=(Keep.refl _ _).new hql _
 have S3':=S2.step k2 (by rw[jA pl]; exact S2.hp) S2.hN
 have S3:St0 H (upd H7 ql' (.lst (l2.map V.int))) p w qm ql' mays l2 N1:=⟨S3'.hp,S3'.hN,S3'.hm,S3'.rm,j7,g2,pl.symm,S3'.kp⟩
 have hne:qp≠ql':=jB hq2 hql
 have hq3:(upd H7 ql' (.lst (l2.map V.int))) qp=some (.lst vs):=by rw[jA hne]; exact hq2
 have hv3:=hv2.mono (k2.tups S2.hp)
 have ht3:=k2.tups S2.hp _ _ ht2
 generalize upd H7 ql' (.lst (l2.map V.int))=H8 at S3 hq3 hv3 ht3 ⊢
 clear k2 S3' S2 hq2 hv2 ht2 hql
 refine⟨_,rfl,(by show 0<=sizeLine; exact aM _),fun z hz=>⟨qt,z,l1.map V.int,rfl,rfl,SqT.of ?_,SqT.of j7,_,rfl,?_⟩⟩
 ·rw[jA (jB ht3 hz)]; exact ht3
 have pz:p≠z:=jB S3.hp hz
 have qz:qp≠z:=jB hq3 hz
 have k3:Keep H8 (upd H8 z (.tup [])) p:=(Keep.refl _ _).new hz _
 have S4:=S3.step k3 (by rw[jA pz]; exact S3.hp) S3.hN
 have hq4:(upd H8 z (.tup [])) qp=some (.lst vs):=by rw[jA qz]; exact hq3
 have hv4:=hv3.mono (k3.tups S3.hp)
 have ht4:=k3.tups S3.hp _ _ ht3
 generalize upd H8 z (.tup [])=H9 at S4 hq4 hv4 ht4 ⊢
 clear k3 S3 hq3 hv3 ht3 hz pz qz
 refine ite2 (fun hy=>?_) (fun hy=>?_)
 ·refine⟨_,rfl,_,rfl,p,N1,w,rfl,S4.hp,S4.hN,w1,w2,fun q N2 ts H' b1 lt b2 b3 b4=>?_⟩
  exact jEZ T CT CL hr (S4.step b4 b3 b1) (b4 _ _ hq4 hpp.symm) (hv4.mono (b4.tups S4.hp)) hg b2 lt hf hn hH hne.symm hpp fun H6 N' vs' pcs' z1 z2 z3 z4 z5=>nx H6 N' vs' pcs' ql' l2 _ _ z1 hne.symm z2 z3 z4 z5
 ·have nl:l1≠ []:=fun e=>hy (aY (by rw[e]; rfl))
  exact jEZ T CT CL hr S4 hq4 hv4 hg ht4 ⟨g1.ris,g1.bnd,nl⟩ hf hn hH hne.symm hpp fun H6 N' vs' pcs' z1 z2 z3 z4 z5=>nx H6 N' vs' pcs' ql' l2 _ _ z1 hne.symm z2 z3 z4 z5
end
section
variable {P:Program}{w:World}{K:W.Frag}{mg:Str->Option Value}{base:Heap}
variable {f fT fL:Addr}{fdT fdL:FuncData}{cdv:Value}{A:Around}{outer:List Env}{s:Shared}{H0:Hp}{E:XK}
def Told (H:Hp)(p:Addr)(mt mp:Int)(R:VK):Prop:=∀ (b:Addr) (N' w:Int) (mays:List Int) (pcs:List (List Int×Int)) (H':Hp),0<=N'->H' p=some (.lst [.int N'])->BoxAt H' b w mays pcs->Good mt mp w mays pcs->Keep H H' p->R (.ref b) H'
theorem jF0 (T:Txt mg)(CT:Can P w K mg base "_law_take" 1 fT fdT ["pot","wide"] kG)(CL:Can P w K mg base "_law_lot" 2 fL fdL ["pot","wide"] yZ)(hr:Room 2 (XBox P w K mg base f cdv A outer s H0 E).A)
  {D:Ends}{H H5:Hp}{p qm ql:Addr}{mt mp w N:Int}{mays lf:List Int}{v6 v7 v8 v9 v10:Option V}
  (S:St0 H H5 p w qm ql mays lf N) (hpH:∃ o,H p=some o) (w0:0<=w) (w1:w<=mt) (w2:mt<=16) (n0:0<=mp) (n1:mp<=32) (q:Told H p mt mp D.rt):
  (boxC T CT CL hr).1 D [some (.ref p),some (.int mt),some (.int mp),some (.int w),some (.ref qm),some (.ref ql),v6,v7,v8,v9,v10] H5:=by
 refine⟨(by show 3<=sizeLine; decide),fun l hl=>?_⟩
 have pl:p≠l:=jB S.hp hl
 refine⟨_,rfl,p,N,3,rfl,by rw[jA pl]; exact S.hp,S.hN,by decide,by decide,fun N1 r a1 a2 a3=>?_⟩
 obtain⟨far,hfar,hf⟩:∃ far:Int,atI [V.int 1,V.int 10,V.int 2000000000001] r=some (.int far)/\(far=1\/far=10\/far=2000000000001):=by
  rcases (show r=0\/r=1\/r=2 by omega) with e | e | e
  ·subst e; exact⟨_,rfl, .inl rfl⟩
  ·subst e; exact⟨_,rfl, .inr (.inl rfl)⟩
  ·subst e; exact⟨_,rfl, .inr (.inr rfl)⟩
 refine⟨l,_,r,_,rfl,rfl,SqL.of (by rw[jA pl.symm]; exact j7),hfar,?_⟩
 have S1:=S.step ((((Keep.refl _ _).new hl (.lst [V.int 1,V.int 10,V.int 2000000000001])).upd (.lst [.int N1]))) j7 a1
 generalize upd (upd H5 l (.lst [V.int 1,V.int 10,V.int 2000000000001])) p (.lst [.int N1])=H6 at S1 ⊢
 clear hl S
 refine⟨(by show 0<=sizeLine; exact aM _),fun qp hqp=>?_⟩
 have pq:p≠qp:=jB S1.hp hqp
 have hHq:H qp=none:=by
  cases e:H qp with
  | none=>rfl
  | some o=>
   have:=S1.kp _ _ e pq.symm
   rw[hqp] at this
   cases this
 have lq:ql≠qp:=jB S1.hl hqp
 have S2:=S1.step ((Keep.refl _ _).new hqp (.lst [])) (by rw[jA pq]; exact S1.hp) S1.hN
 have hq2:(upd H6 qp (.lst [])) qp=some (.lst []):=j7
 generalize upd H6 qp (.lst [])=H7 at S2 hq2 ⊢
 clear hqp S1
 refine⟨_,rfl,_,rfl,_,_,rfl,rfl,p,N1,_,rfl,S2.hp,S2.hN,by omega,by omega,fun N2 n b1 b2 b3=>?_⟩
 refine⟨_,rfl,_,_,rfl,rfl, .inr ⟨_,rfl,_,_,rfl,rfl, .inl ⟨by omega,by omega⟩,_,rfl,?_⟩⟩
 have S3:=S2.step ((Keep.refl _ _).upd (.lst [.int N2])) j7 b1
 have hq3:(upd H7 p (.lst [.int N2])) qp=some (.lst []):=by rw[jA pq.symm]; exact hq2
 generalize upd H7 p (.lst [.int N2])=H8 at S3 hq3 ⊢
 clear S2 hq2
 obtain⟨m,em,hm,hw⟩:∃ m:Int,n*(if decide (0<w)=true then 1 else 0)=m/\(0<=m/\m<=mp)/\(0<m->1<=w):=by
  by_cases h:0<w
  ·exact⟨n,by simp [h],⟨b2,by omega⟩,fun _=>h⟩
  ·exact⟨0,by simp [h],⟨by omega,n0⟩,fun z=>by omega⟩
 show _/\_/\_
 rw[show (n*(if decide (0<w)=true then 1 else 0))=m from em]
 refine⟨by omega,by omega,jBG (n:=m.toNat) (fun i σ H5=>∃ ql' lf' N' vs pcs v8 v9 v10,σ=[some (.ref p),some (.int mt),some (.int mp),some (.int w),some (.ref qm),some (.ref ql'),some (.int far),some (.ref qp),v8,v9,v10]/\St0 H H5 p w qm ql' mays lf' N'/\ql'≠qp/\H5 qp=some (.lst vs)/\PcsAt H5 vs pcs/\(∀ pc∈pcs,GoodPc w pc)/\pcs.length=i) ?_ ?_ ?_⟩
 ·exact⟨ql,lf,N2,[],[],_,_,_,rfl,S3,lq,hq3,trivial,(fun _ h=>by cases h),rfl⟩
 ·rintro i σ H9 hi ⟨ql',lf',N',vs,pcs,x8,x9,x10,rfl,S4,l4,hq4,hv4,hg4,e4⟩
  exact jJW T CT CL hr S4 hq4 hv4 hg4 hf (by omega) hHq pq (hw (by omega)) (by omega) fun H6 N' vs' pcs' ql' lf' v9' v10' z1 z2 z3 z4 z5 z6=>⟨ql',lf',N',vs',pcs',_,_,_,rfl,z1,z2,z3,z4,z5,by omega⟩
 ·rintro σ H9 ⟨ql',lf',N',vs,pcs,x8,x9,x10,rfl,S4,l4,hq4,hv4,hg4,e4⟩
  refine⟨_,rfl,_,rfl,_,rfl,qp,vs,rfl, .inl ⟨SqL.of hq4,fun tq htq=>⟨(by show 3<=sizeLine; decide),fun b hb=>?_⟩⟩⟩
  have k1:Keep H9 (upd H9 tq (.tup vs)) p:=(Keep.refl _ _).new htq _
  have k2:Keep H9 (upd (upd H9 tq (.tup vs)) b (.tup [.int w, .ref qm, .ref tq])) p:=k1.new hb _
  have tb:=jB j7 hb
  have S5:=S4.step k2 (by rw[jA (kY hb |>.2 |> fun h=>jB S4.hp h),jA (jB S4.hp htq)]; exact S4.hp) S4.hN
  exact q b N' w mays pcs _ S4.hN S5.hp ⟨qm,tq,vs,j7,S5.hm,by rw[jA tb]; exact j7,hv4.mono (k2.tups S4.hp)⟩ ⟨w0,w1,S4.rm,by omega,hg4⟩ S5.kp
end
section
variable {P:Program}{w:World}{K:W.Frag}{mg:Str->Option Value}{base:Heap}
section
variable {f fT fL:Addr}{fdT fdL:FuncData}{cdv:Value}{A:Around}{outer:List Env}{s:Shared}{H0:Hp}{E:XK}
theorem jF1 (T:Txt mg)(CT:Can P w K mg base "_law_take" 1 fT fdT ["pot","wide"] kG)(CL:Can P w K mg base "_law_lot" 2 fL fdL ["pot","wide"] yZ)(hr:Room 2 (XBox P w K mg base f cdv A outer s H0 E).A)
  {D:Ends}{H H5:Hp}{p qm:Addr}{mt mp w N:Int}{mays:List Int}{v5 v6 v7 v8 v9 v10:Option V}
  (hp:H5 p=some (.lst [.int N])) (hN:0<=N) (hm:H5 qm=some (.tup (mays.map V.int))) (rm:Ris w mays) (kp:Keep H H5 p) (hpH:∃ o,H p=some o) (w0:0<=w) (w1:w<=mt) (w2:mt<=16) (n0:0<=mp) (n1:mp<=32) (q:Told H p mt mp D.rt):
  (boxB T CT CL hr).1 D [some (.ref p),some (.int mt),some (.int mp),some (.int w),some (.ref qm),v5,v6,v7,v8,v9,v10] H5:=by
 refine⟨_,rfl,w,rfl,fun x hx=>⟨x,w,rfl,j7,w0,by omega,fun ql hql=>?_⟩⟩
 rw[jJD]
 have px:p≠x:=jB hp hx
 have pl:p≠ql:=jB hp (kY hql).2
 have k1:Keep H5 (upd (upd H5 x (.rng 0 w)) ql (.lst ((upto w.toNat).map V.int))) p:=((Keep.refl _ _).new hx _).new hql _
 have e:((w.toNat:Nat):Int)=w:=by omega
 have rl:Ris w (upto w.toNat):=by
  have:=jAV w.toNat
  rw[e] at this
  exact this
 have S:St0 H (upd (upd H5 x (.rng 0 w)) ql (.lst ((upto w.toNat).map V.int))) p w qm ql mays (upto w.toNat) N:=
  ⟨by rw[jA pl,jA px]; exact hp,hN,k1 qm _ hm (ne_of hm hp (by intro z; cases z)),rm,j7,rl,pl.symm,kp.trans k1⟩
 generalize upd (upd H5 x (.rng 0 w)) ql (.lst ((upto w.toNat).map V.int))=H6 at S ⊢
 clear k1 hql hx hp hm kp
 refine⟨_,rfl,p,N,3,rfl,S.hp,S.hN,by decide,by decide,fun N1 r a1 a2 a3=>⟨rfl,_,rfl,?_⟩⟩
 have S1:=S.step ((Keep.refl _ _).upd (.lst [.int N1])) j7 a1
 generalize upd H6 p (.lst [.int N1])=H7 at S1 ⊢
 clear S
 refine ite2 (fun hy=>?_) (fun hy=>?_)
 ·refine⟨(by show 0<=sizeLine; exact aM _),fun l hl=>?_⟩
  have pl2:p≠l:=jB S1.hp hl
  have S2:=S1.step ((Keep.refl _ _).new hl (.lst [])) (by rw[jA pl2]; exact S1.hp) S1.hN
  have S3:St0 H (upd H7 l (.lst [])) p w qm l mays [] N1:=⟨S2.hp,S2.hN,S2.hm,S2.rm,j7,Ris.nil w,pl2.symm,S2.kp⟩
  exact jF0 T CT CL hr S3 hpH w0 w1 w2 n0 n1 q
 ·exact jF0 T CT CL hr S1 hpH w0 w1 w2 n0 n1 q
theorem jJX (T:Txt mg)(CT:Can P w K mg base "_law_take" 1 fT fdT ["pot","wide"] kG)(CL:Can P w K mg base "_law_lot" 2 fL fdL ["pot","wide"] yZ)(hr:Room 2 (XBox P w K mg base f cdv A outer s H0 E).A)
  {D:Ends}{H:Hp}{p:Addr}{mt mp N:Int}
  (hp:H p=some (.lst [.int N])) (hN:0<=N) (w0:0<=mt) (w2:mt<=16) (n0:0<=mp) (n1:mp<=32) (q:Told H p mt mp D.rt):
  (boxA T CT CL hr).1 D [some (.ref p),some (.int mt),some (.int mp),none,none,none,none,none,none,none,none] H:=by
 refine⟨_,rfl,_,rfl,_,_,rfl,rfl,p,N,_,rfl,hp,hN,by omega,by omega,fun N1 w a1 a2 a3=>?_⟩
 refine⟨(by show 0<=sizeLine; exact aM _),fun t ht=>?_⟩
 have pt:p≠t:=(kY ht).1.symm
 refine⟨_,rfl,p,N1,3,rfl,by rw[jA pt]; exact j7,a1,by decide,by decide,fun N2 r b1 b2 b3=>⟨rfl,_,rfl,?_⟩⟩
 have k1:Keep H (upd (upd (upd H p (.lst [.int N1])) t (.tup [])) p (.lst [.int N2])) p:=(((Keep.refl _ _).upd _).new ht _).upd _
 have hp1:(upd (upd (upd H p (.lst [.int N1])) t (.tup [])) p (.lst [.int N2])) p=some (.lst [.int N2]):=j7
 have ht1:(upd (upd (upd H p (.lst [.int N1])) t (.tup [])) p (.lst [.int N2])) t=some (.tup []):=by rw[jA pt.symm]; exact j7
 generalize upd (upd (upd H p (.lst [.int N1])) t (.tup [])) p (.lst [.int N2])=H1 at k1 hp1 ht1 ⊢
 clear ht
 refine ite2 (fun hy=>?_) (fun hy=>?_)
 ·refine⟨_,rfl,w,rfl,by omega,by omega,jCG (n:=w.toNat) (by rw[aD]; omega) (fun D i σ' H' ys=>(∃ v,σ'=[v,some (.ref p)])/\(∃ (ms:List Int) (N':Int),ys=ms.map V.int/\ms.length<=i/\Ris i ms/\0<=N'/\H' p=some (.lst [.int N']))/\Keep H1 H' p/\H' D=some (.lst ys)/\D≠p/\H1 D=none) ?_ ?_ ?_ ?_⟩
  ·intro D hD
   have:p≠D:=jB hp1 hD
   exact⟨⟨_,rfl⟩,⟨[],N2,rfl,ai _,Ris.nil _,b1,by rw[jA this]; exact hp1⟩,(Keep.refl _ _).new hD _,j7,this.symm,hD⟩
  ·rintro D i σ' H' ys hD hi ⟨_,⟨ms,N',rfl,e,_⟩,_,e2,_⟩
   exact⟨e2,by rw[ae]; exact e⟩
  ·rintro D i σ' H' ys hD hi ⟨⟨v,rfl⟩,⟨ms,N',rfl,e,rs,n',hp'⟩,kk,e2,dp,hn⟩
   refine⟨_,rfl,p,N',3,rfl,hp',n',by decide,by decide,fun N3 r3 c1 c2 c3=>⟨rfl,_,rfl,?_⟩⟩
   have k2:Keep H1 (upd H' p (.lst [.int N3])) p:=kk.upd _
   have e3:(upd H' p (.lst [.int N3])) D=some (.lst (ms.map V.int)):=by rw[jA dp]; exact e2
   have hp3:(upd H' p (.lst [.int N3])) p=some (.lst [.int N3]):=j7
   generalize upd H' p (.lst [.int N3])=H'' at k2 e3 hp3 ⊢
   refine ite2 (fun hz=>?_) (fun hz=>?_)
   ·refine⟨_,rfl,e3,⟨_,rfl⟩,⟨ms++[(i:Int)],N3,?_,?_,rs.snoc,c1,by rw[jA dp.symm]; exact hp3⟩,k2.updNew hn _,j7,dp,hn⟩
    ·rw[au]
     show _++[V.int (0+(i:Int))]=_++[V.int (i:Int)]
     rw[dX]
    ·rw[al]
     show ms.length+1<=i+1
     omega
   ·exact⟨⟨_,rfl⟩,⟨ms,N3,rfl,by omega,rs.step,c1,hp3⟩,k2,e3,dp,hn⟩
  ·rintro D σ' H' ys hD ⟨_,⟨ms,N',rfl,e,rs,n',hp'⟩,kk,e2,dp,hn⟩
   refine⟨D,_,rfl, .inl ⟨SqL.of e2,fun qm hqm=>?_⟩⟩
   have pm:p≠qm:=jB hp' hqm
   have e':((w.toNat:Nat):Int)=w:=by omega
   rw[e'] at rs
   exact jF1 T CT CL hr (by rw[jA pm]; exact hp') n' j7 rs ((k1.trans kk).new hqm _) ⟨_,hp⟩ a2 (by omega) w2 n0 n1 q
 ·exact jF1 T CT CL hr hp1 b1 (mays:=[]) ht1 (Ris.nil w) k1 ⟨_,hp⟩ a2 (by omega) w2 n0 n1 q
end
theorem jO3 {f fT fL:Addr}{fd fdT fdL:FuncData}(F:Fun K "_law_box" "_law_box" sBox f fd)(T:Txt mg)(CT:Can P w K mg base "_law_take" 1 fT fdT ["pot","wide"] kG)(CL:Can P w K mg base "_law_lot" 2 fL fdL ["pot","wide"] yZ):
  FnOk P w K mg base CX0 3 f fd ["pot","most_things","most_pieces"] spBox:=by
 refine F.ok scBox (fun vs H Q E h=>?_) (fun cdv A outer s H vs Q E hr h=>?_)
 ·obtain⟨_,_,_,_,rfl,_⟩:=h
  rfl
 ·obtain⟨p,N,mt,mp,rfl,hp,hN,m0,m1,n0,n1,q⟩:=h
  exact⟨_,(boxA T CT CL hr).2.h,jJX T CT CL hr hp hN m0 m1 n0 n1 q⟩
end
inductive Ob where
 | int (i:Int)
 | oth
 | tup (os:List Ob)
def OthAt (H:Hp)(v:V):Prop:=v= .non\/(∃ b,v= .bl b)\/(∃ x,v= .str x)\/∃ a,v= .ref a/\((∃ xs,H a=some (.lst xs))\/∃ kvs,H a=some (.dK kvs))
mutual
def At (H:Hp):Ob->V->Prop
 | .int i,v=>v= .int i
 | .oth,v=>OthAt H v
 | .tup os,v=>∃ a vs,v= .ref a/\H a=some (.tup vs)/\vs.length<=100/\Ats H os vs
def Ats (H:Hp):List Ob->List V->Prop
 | [],vs=>vs=[]
 | o::os,vs=>∃ v r,vs=v::r/\At H o v/\Ats H os r
end
structure Kp (H H':Hp):Prop where
 t:Tups H H'
 l:∀ a xs,H a=some (.lst xs)->∃ ys,H' a=some (.lst ys)
 d:∀ a xs,H a=some (.dK xs)->∃ ys,H' a=some (.dK ys)
theorem Kp.of {H H':Hp}(e:Ext H H'):Kp H H':=⟨fun b xs h=>e b _ h,fun a xs h=>⟨xs,e a _ h⟩,fun a xs h=>⟨xs,e a _ h⟩⟩
theorem Kp.trans {H H1 H2:Hp}(a:Kp H H1)(b:Kp H1 H2):Kp H H2:=⟨a.t.trans b.t,fun x xs h=>let ⟨_,q⟩:=a.l x xs h; b.l x _ q,fun x xs h=>let ⟨_,q⟩:=a.d x xs h; b.d x _ q⟩
theorem Kp.keep {H H':Hp}{p:Addr}{xs ys:List V}(k:Keep H H' p)(hp:H p=some (.lst xs))(hp':H' p=some (.lst ys)):Kp H H':=by
 refine⟨k.tups hp,fun a zs h=>?_,fun a zs h=>⟨zs,k a _ h (ne_of h hp (by intro z; cases z))⟩⟩
 by_cases e:a=p
 ·subst e
  exact⟨ys,hp'⟩
 ·exact⟨zs,k a _ h e⟩
theorem OthAt.mono {H H':Hp}(k:Kp H H'){v:V}(h:OthAt H v):OthAt H' v:=by
 rcases h with h | h | h | ⟨a,rfl,⟨xs,h⟩ | ⟨xs,h⟩⟩
 ·exact .inl h
 ·exact .inr (.inl h)
 ·exact .inr (.inr (.inl h))
 ·exact .inr (.inr (.inr ⟨a,rfl, .inl (k.l _ _ h)⟩))
 ·exact .inr (.inr (.inr ⟨a,rfl, .inr (k.d _ _ h)⟩))
mutual
theorem At.mono {H H':Hp}(k:Kp H H'):∀ (o:Ob) (v:V),At H o v->At H' o v
 | .int _,_,h=>h
 | .oth,_,h=>OthAt.mono k h
 | .tup os,_,⟨a,vs,e,h,n,r⟩=>⟨a,vs,e,k.t _ _ h,n,Ats.mono k os vs r⟩
theorem Ats.mono {H H':Hp}(k:Kp H H'):∀ (os:List Ob) (vs:List V),Ats H os vs->Ats H' os vs
 | [],_,h=>h
 | o::os,_,⟨v,r,e,h,t⟩=>⟨v,r,e,At.mono k o v h,Ats.mono k os r t⟩
end
theorem At.ext {H H':Hp}(e:Ext H H'){o:Ob}{v:V}(h:At H o v):At H' o v:=At.mono (.of e) o v h
theorem Ats.len {H:Hp} :∀ {os:List Ob}{vs:List V},Ats H os vs->vs.length=os.length
 | [],_,h=>by cases (show _=[] from h); rfl
 | o::os,_,⟨v,r,e,h,t⟩=>by rw[e,bd,bd,Ats.len t]
theorem Ats.get {H:Hp} :∀ {os:List Ob}{vs:List V},Ats H os vs->∀ {i:Nat}{v:V},vs[i]?=some v->∃ o,os[i]?=some o/\At H o v
 | [],_,h,i,v,e=>by cases (show _=[] from h); cases e
 | o::os,_,⟨v,r,e,h,t⟩,0,v',e'=>by subst e; cases e'; exact⟨o,rfl,h⟩
 | o::os,_,⟨v,r,e,h,t⟩,i+1,v',e'=>by subst e; exact Ats.get t (i:=i) e'
theorem Ats.ints {H:Hp} :∀ (l:List Int),Ats H (l.map Ob.int) (l.map V.int)
 | []=>rfl
 | i::r=>⟨.int i,_,rfl,rfl,Ats.ints r⟩
def isInt:Ob->Bool
 | .int _=>true
 | _=>false
def isTup:Ob->Bool
 | .tup _=>true
 | _=>false
def val:Ob->Int
 | .int i=>i
 | _=>0
theorem Ats.allInt {H:Hp} :∀ {os:List Ob}{vs:List V},Ats H os vs->os.all isInt=true->vs=(os.map val).map V.int
 | [],_,h,_=>by cases (show _=[] from h); rfl
 | o::os,_,⟨v,r,e,h,t⟩,ha=>by
  rw[gA,aS] at ha
  subst e
  rw[aV,aV,<- Ats.allInt t ha.2]
  cases o with
  | int i=>cases (show v= .int i from h); rfl
  | oth=>cases ha.1
  | tup _=>cases ha.1
theorem jOT (l:List Ob)(F:Ob->Bool):(l.map F).all id=l.all F:=by
 rw[all_map]
 rfl
theorem At.ty (K:W.Frag){H:Hp}{o:Ob}{v:V}(h:At H o v):∃ t,TyOf K H v t/\kitOne K t (.type "tuple")=some (isTup o)/\∃ b1 b2,kitOne K t (.type "int")=some b1/\kitOne K t (.type "bool")=some b2/\(b1&&!b2)=isInt o:=by
 cases o with
 | int i=>
  cases (show v= .int i from h)
  exact⟨_, .int i,rfl,true,false,rfl,rfl,rfl⟩
 | oth=>
  rcases (show OthAt H v from h) with rfl | ⟨b,rfl⟩ | ⟨x,rfl⟩ | ⟨a,rfl,⟨xs,e⟩ | ⟨xs,e⟩⟩
  ·exact⟨_, .non,rfl,false,false,rfl,rfl,rfl⟩
  ·exact⟨_, .bl b,rfl,true,true,rfl,rfl,rfl⟩
  ·exact⟨_, .str x,rfl,false,false,rfl,rfl,rfl⟩
  ·exact⟨_, .lst e,rfl,false,false,rfl,rfl,rfl⟩
  ·exact⟨_, .dK e,rfl,false,false,rfl,rfl,rfl⟩
 | tup os=>
  obtain⟨a,vs,rfl,e,_⟩:=h
  exact⟨_, .tup e,rfl,false,false,rfl,rfl,rfl⟩
theorem At.tupOf {H:Hp}{o:Ob}{v:V}(h:At H o v)(t:isTup o=true):∃ os a vs,o= .tup os/\v= .ref a/\H a=some (.tup vs)/\vs.length<=100/\Ats H os vs:=by
 cases o with
 | int i=>cases t
 | oth=>cases t
 | tup os=>
  obtain⟨a,vs,e1,e2,e4,e3⟩:=h
  exact⟨os,a,vs,rfl,e1,e2,e4,e3⟩
theorem jJQ {K:W.Frag}{m:List (Option Nat)}{g:TG}{tt:TT}{te:TE}{σ:St}{H1:Hp}{Q:VK}{a:Addr}{xs:List V}{os:List Ob}{F:Ob->Bool}(ha:H1 a=some (.tup xs))(hx:Ats H1 os xs)(hn:xs.length<sizeLine)(σP:St->Prop)(h0:σP (blkσ m σ))
  (step:∀ (σ':St) (H':Hp) (v:V) (o:Ob) (R:St->V->Hp->Prop) (S:St->Hp->Prop),σP σ'->Ext H1 H'->At H' o v->(∀ σ2 H'',σP σ2->Ext H' H''->R σ2 (.bl (F o)) H'')->g v σ' H' fun σ2 H2=>tt σ2 H2 fun b H3=>if b=true then te σ2 H3 (R σ2) else S σ2 H3)
  (hd:∀ D H',Ext H1 H'->H' D=some (.lst ((os.map F).map V.bl))->Q (.ref D) H'):qC m g tt te σ Q (Itt K a) H1:=by
 have hl:=hx.len
 refine jAO (xs:=xs) hn (fun D i σ' H' zs=>σP σ'/\Ext H1 H'/\H' D=some (.lst zs)/\H1 D=none/\zs=((os.take i).map F).map V.bl) ?_ ?_ ?_ ?_
 ·intro D hD
  exact⟨h0,(Ext.refl _).new hD _,j7,hD,rfl⟩
 ·rintro D i σ' H' zs hD ⟨_,e,h2,_,rfl⟩
  refine⟨e _ _ ha,h2,?_⟩
  rw[ae,ae,aP]
  omega
 ·rintro D i σ' H' zs x hD hi ⟨p,e,h2,hn,rfl⟩
  obtain⟨o,ho,hAt⟩:=hx.get hi
  refine step σ' H' x o _ _ p e (hAt.ext e) fun σ2 H'' p2 e2=>⟨e2 _ _ h2,p2,(e.trans e2).updNew hn _,j7,hn,?_⟩
  have:os.take (i+1)=os.take i++[o]:=by
   rw[cb,ho]
   rfl
  rw[this,au,au]
  rfl
 ·rintro D σ' H' zs hD ⟨_,e,h2,_,rfl⟩
  rw[hl,cq] at h2
  exact hd D H' e h2
section
variable {P:Program}{w:World}{K:W.Frag}{mg:Str->Option Value}{base:Heap}
abbrev XOf (N:List Str)(q:Str)(st:Stmt)(P:Program)(w:World)(K:W.Frag)(mg:Str->Option Value)(base:Heap)(f:Addr)(cdv:Value)(A:Around)(outer:List Env)(s:Shared)(H:Hp)(E:XK):Cx:=(cxOf CX0 P w K mg base N q (j9 st) f cdv A outer s H E).nox
variable {f fW fR:Addr}{fdW fdR:FuncData}{cdv:Value}{A:Around}{outer:List Env}{s:Shared}{H0:Hp}{E:XK}
abbrev jIM:List Str:=["thing"]
theorem scWhole0:FnScope jIM ["thing"] (j9 jAL):=⟨rfl,rfl,rfl,by decide+kernel,rfl,by decide+kernel,by decide+kernel⟩
def spWh:Sp:=fun vs H Q _=>∃ v o,vs=[v]/\At H o v/\Q (.bl (isInt o)) H
def jLP (T:Txt mg): { t:TS // JSs (XOf jIM "is_whole" jAL P w K mg base f cdv A outer s H0 E) (jD jAL) t} :=
 have nd:=scWhole0.nd
 ⟨_,(jJ (kN ((jGF (jG jA1 gD T.isinstance (by decide+kernel) (j4 (jv 0 rfl vL) (j4 (jAS (v:= .ty "int") gD T.int (by decide+kernel) rfl) j8 j6) j6) j6) (jGE (jJ7 (jG jA1 gD T.isinstance (by decide+kernel) (j4 (jv 0 rfl vL) (j4 (jAS (v:= .ty "bool") gD T.bool (by decide+kernel) rfl) j8 j6) j6) j6)))))))⟩
theorem jIF {fd:FuncData}(F:Fun K "is_whole" "is_whole" jAL f fd)(T:Txt mg):FnOk P w K mg base CX0 1 f fd ["thing"] spWh:=by
 refine F.ok scWhole0 (fun vs H Q E h=>?_) (fun cdv A outer s H vs Q E hr h=>?_)
 ·obtain⟨_,_,rfl,_⟩:=h
  rfl
 ·obtain⟨v,o,rfl,hA,q⟩:=h
  obtain⟨t,ty,_,b1,b2,k1,k2,e⟩:=hA.ty K
  refine⟨_,(jLP T).2.h,?_⟩
  refine⟨_,rfl,_,_,_,b1,rfl,ty,k1,b1,rfl,?_⟩
  rw[<- e] at q
  cases b1 with
  | true=>exact iteT ⟨_,rfl,_,_,_,b2,rfl,ty,k2,b2,rfl,q⟩
  | false=>exact iteF q
end
end Eo
end
section
namespace L2
open PySem
theorem qb {Q:VK}{H:Hp}{a b:Bool}(q:Q (.bl a) H)(e:a=b):Q (.bl b) H:=e ▸ q
end L2
namespace Eo
open PySem L2
section
variable {P:Program}{w:World}{K:W.Frag}{mg:Str->Option Value}{base:Heap}
variable {f fW fR fL fG fI fPs:Addr}{fdW fdR fdL fdG fdI fdPs:FuncData}{cdv:Value}{A:Around}{outer:List Env}{s:Shared}{H0:Hp}{E:XK}
end
end Eo
end
section
namespace L2
open PySem
section
variable {P:Program}{w:World}{K:W.Frag}{mg:Str->Option Value}{base:Heap}{N:List Str}{qual:Str}{sc:Scope}{f:Addr}{cdv:Value}{A:Around}{outer:List Env}{s:Shared}{H:Hp}{E:XK}{x y z:Str}{p1 p2 p3 pos:Pos}{k i j l:Nat}
theorem jKR (hN:N.Nodup)(hi:N[i]?=some x)(hj:N[j]?=some y)(hx:sc.names.lookup x=some .local)(hy:sc.names.lookup y=some .local):
  JG (cxOf CX0 P w K mg base N qual sc f cdv A outer s H E).nox (.Tuple [.Name x p1, .Name y p2] k pos) (gTup K 2 (gCons (yS i) (gCons (yS j) gNil))):=
 jLG (X:=(cxOf CX0 P w K mg base N qual sc f cdv A outer s H E).nox) rfl (jCE (kL hN hi (loc_l hx)) (jCE (kL hN hj (loc_l hy)) jJ5 jE0) jE0)
end
end L2
namespace L2
open PySem
section
variable {K:W.Frag}{m:List (Option Nat)}{g:TG}{tt:TT}{te:TE}{σ:St}{H1:Hp}{Q:VK}
end
end L2
namespace Eo
open PySem L2
theorem jMS {α:Type}{l:List α}{i:Nat}{d:α}(h:i<l.length):l.getD i d=l[i]:=by
 rw[bw,bh h]
 rfl
theorem jHX:∀ (ts:List Int) (lo w:Int),ts.Pairwise (· < ·)->(∀ z∈ts,lo<=z/\z<w)->(ts.length:Int)<=max (w - lo) 0
 | [],lo,w,_,_=>by show (0:Int)<=_; omega
 | a::r,lo,w,hp,hb=>by
  have h1:=hb a aB
  have hp':=gH.mp hp
  have:=jHX r (a+1) w hp'.2 fun z hz=>⟨by have:=hp'.1 z hz; omega,(hb z (aC _ hz)).2⟩
  rw[bd]
  omega
def jO (pcs:List (List Int×Int))(k:Int):List Int:=(pcs.getD k.toNat ([],0)).1
theorem PcsAt.get {H:Hp} :∀ {vs:List V}{ps:List (List Int×Int)},PcsAt H vs ps->∀ {k:Nat},k<ps.length->∃ v,vs[k]?=some v/\PcAt H v (ps.getD k ([],0))
 | v::vs,p::ps,h,0,_=>⟨v,rfl,h.1⟩
 | v::vs,p::ps,h,k+1,hk=>PcsAt.get h.2 (k:=k) (by simpa using hk)
 | [],[],_,k,hk=>absurd hk (cR _)
 | [],_::_,h,_,_=>h.elim
 | _::_,[],h,_,_=>h.elim
theorem Good.at {mt mp w:Int}{ms:List Int}{pcs:List (List Int×Int)}(g:Good mt mp w ms pcs){k:Nat}(hk:k<pcs.length):GoodPc w (pcs.getD k ([],0)):=by
 have e:pcs.getD k ([],0)=pcs[k]:=by simp [List.getD,hk]
 rw[e]
 exact g.pg _ (cn hk)
theorem kX (n:Nat):(upto n).length=n:=by
 unfold upto
 rw[ae,b0]
theorem jLL (H:Hp):At H .oth .non:= .inl rfl
theorem at_bl (H:Hp)(b:Bool):At H .oth (.bl b):= .inr (.inl ⟨b,rfl⟩)
theorem jOQ (H:Hp)(x:Str):At H .oth (.str x):= .inr (.inr (.inl ⟨x,rfl⟩))
theorem jF9 (H:Hp)(i:Int):At H (.int i) (.int i):=rfl
theorem jOR {H:Hp}{a:Addr}{xs:List V}(h:H a=some (.lst xs)):At H .oth (.ref a):= .inr (.inr (.inr ⟨a,rfl, .inl ⟨xs,h⟩⟩))
theorem jOS {H:Hp}{a:Addr}{xs:List (Key×V)}(h:H a=some (.dK xs)):At H .oth (.ref a):= .inr (.inr (.inr ⟨a,rfl, .inr ⟨xs,h⟩⟩))
theorem jBK {H:Hp}{a:Addr}{vs:List V}{os:List Ob}(h:H a=some (.tup vs))(n:vs.length<=100)(r:Ats H os vs):At H (.tup os) (.ref a):=⟨a,vs,rfl,h,n,r⟩
theorem ats0 (H:Hp):Ats H [] []:=rfl
theorem ats1 {H:Hp}{o:Ob}{v:V}{os:List Ob}{vs:List V}(h:At H o v)(r:Ats H os vs):Ats H (o::os) (v::vs):=⟨v,vs,rfl,h,r⟩
section
variable {P:Program}{w:World}{K:W.Frag}{mg:Str->Option Value}{base:Heap}
variable {f fW fR fU:Addr}{fdW fdR fdU:FuncData}{cdv:Value}{A:Around}{outer:List Env}{s:Shared}{H0:Hp}{E:XK}
abbrev jLE:List Str:=["found"]
theorem scWhole:FnScope jLE ["found"] (j9 jBC):=⟨rfl,rfl,rfl,by decide+kernel,rfl,by decide+kernel,by decide+kernel⟩
def jMX (T:Txt mg): { t:TS // JSs (XOf jLE "_law_whole" jBC P w K mg base f cdv A outer s H0 E) (jD jBC) t} :=
 have nd:=scWhole.nd
 ⟨_,(jJ (kN ((jGF (jG jA1 gD T.isinstance (by decide+kernel) (j4 (jv 0 rfl vL) (j4 (jAS (v:= .ty "int") gD T.int (by decide+kernel) rfl) j8 j6) j6) j6) (jGE (jJ7 (jG jA1 gD T.isinstance (by decide+kernel) (j4 (jv 0 rfl vL) (j4 (jAS (v:= .ty "bool") gD T.bool (by decide+kernel) rfl) j8 j6) j6) j6)))))))⟩
theorem jKH {fd:FuncData}(F:Fun K "_law_whole" "_law_whole" jBC f fd)(T:Txt mg):FnOk P w K mg base CX0 1 f fd ["found"] spWh:=by
 refine F.ok scWhole (fun vs H Q E h=>?_) (fun cdv A outer s H vs Q E hr h=>?_)
 ·obtain⟨_,_,rfl,_⟩:=h
  rfl
 ·obtain⟨v,o,rfl,hA,q⟩:=h
  obtain⟨t,ty,_,b1,b2,k1,k2,e⟩:=hA.ty K
  refine⟨_,(jMX T).2.h,?_⟩
  refine⟨_,rfl,_,_,_,b1,rfl,ty,k1,b1,rfl,?_⟩
  rw[<- e] at q
  cases b1 with
  | true=>exact iteT ⟨_,rfl,_,_,_,b2,rfl,ty,k2,b2,rfl,q⟩
  | false=>exact iteF q
end
theorem _root_.L2.Ext.tups {H H':Hp}(e:Ext H H'):Tups H H':=fun b xs h=>e b _ h
theorem PcsAt.snoc {H:Hp}{v:V}{p:List Int×Int}(hv:PcAt H v p):∀ {vs:List V}{ps:List (List Int×Int)},PcsAt H vs ps->PcsAt H (vs++[v]) (ps++[p])
 | [],[],_=>⟨hv,trivial⟩
 | x::vs,q::ps,h=>⟨h.1,PcsAt.snoc hv h.2⟩
 | [],_::_,h=>h.elim
 | _::_,[],h=>h.elim
theorem Keep.ext {H H':Hp}{p:Addr}{o:HO}(k:Keep (L2.upd H p o) H' p)(hp:H p=none):Ext H H':=fun b u hb=>by
 have n:b≠p:=jB hb hp
 exact k b u (by rw[jA n]; exact hb) n
theorem Good.wide {mt mp w mt' mp':Int}{ms:List Int}{pcs:List (List Int×Int)}(g:Good mt mp w ms pcs)(h1:mt<=mt')(h2:mp<=mp'):Good mt' mp' w ms pcs:=⟨g.w0,gQ g.w1 h1,g.mr,gQ g.pl h2,g.pg⟩
section
variable {P:Program}{w:World}{K:W.Frag}{mg:Str->Option Value}{base:Heap}
variable {f fC fP fT fB fW:Addr}{fdC fdP fdT fdB fdW:FuncData}{cdv:Value}{A:Around}{outer:List Env}{s:Shared}{H0:Hp}{E:XK}
def yF (K:W.Frag):Sp:=fun vs H Q _=>∃ (sc:Addr) (ns:List Int) (k mt mp:Int),vs=[.ref sc, .int k, .int mt, .int mp]/\SqL K H sc (ns.map V.int)/\0<=k/\0<=mt/\mt<=16/\0<=mp/\mp<=16/\
 ∀ b w ms pcs H',BoxAt H' b w ms pcs->Good 16 16 w ms pcs->Ext H H'->Q (.ref b) H'
abbrev jIN:List Str:=["script","k","things","pieces","pot"]
theorem scDrawn:FnScope jIN ["script","k","things","pieces"] (j9 jAY):=⟨rfl,rfl,rfl,by decide+kernel,rfl,by decide+kernel,by decide+kernel⟩
def jOO (T:Txt mg)(CC:Can P w K mg base "_law_cell_at" 1 fC fdC ["script","k"] (yJ K))(CP:Can P w K mg base "_law_pot" 1 fP fdP ["cell"] yX)(CT:Can P w K mg base "_law_take" 1 fT fdT ["pot","wide"] kG)(CB:Can P w K mg base "_law_box" 3 fB fdB ["pot","most_things","most_pieces"] spBox)(hr:Room 3 (XOf jIN "_law_drawn" jAY P w K mg base f cdv A outer s H0 E).A): { t:TS // JSs (XOf jIN "_law_drawn" jAY P w K mg base f cdv A outer s H0 E) (jD jAY) t} :=
 have nd:=scDrawn.nd
 ⟨_,(jF (jT (i:=4) nd rfl lL (CP.je (hr.mono (by decide)) gD (j4 (CC.je (hr.mono (by decide)) gD (j4 (jv 0 rfl vL) (j4 (jv 1 rfl vL) j8 j6) j6) j6) j8 jC) jC) jX)
   (jF (qD (yO op_eq (CT.je (hr.mono (by decide)) gD (j4 (jv 4 rfl vL) (j4 (jE) j8 jH) j6) j6) (jE) (kU _)) (jJ (kN (CB.je hr gD (j4 (jv 4 rfl vL) (j4 (jE) (j4 (jE) j8 jH) jH) j6) j6))) yP)
   (jJ (kN (CB.je hr gD (j4 (jv 4 rfl vL) (j4 (jv 2 rfl vL) (j4 (jv 3 rfl vL) j8 j6) j6) j6) j6)))))⟩
theorem jKK {fd:FuncData}(F:Fun K "_law_drawn" "_law_drawn" jAY f fd)(T:Txt mg)(CC:Can P w K mg base "_law_cell_at" 1 fC fdC ["script","k"] (yJ K))(CP:Can P w K mg base "_law_pot" 1 fP fdP ["cell"] yX)(CT:Can P w K mg base "_law_take" 1 fT fdT ["pot","wide"] kG)(CB:Can P w K mg base "_law_box" 3 fB fdB ["pot","most_things","most_pieces"] spBox):FnOk P w K mg base CX0 4 f fd ["script","k","things","pieces"] (yF K):=by
 refine F.ok scDrawn (fun vs H Q E h=>?_) (fun cdv A outer s H vs Q E hr h=>?_)
 ·obtain⟨_,_,_,_,_,rfl,_⟩:=h
  rfl
 ·obtain⟨a,ns,k,mt,mp,rfl,hS,k0,m0,m1,p0,p1,q⟩:=h
  refine⟨_,(jOO T CC CP CT CB hr).2.h,?_⟩
  refine⟨_,rfl,_,rfl,a,ns,k,rfl,hS,k0,fun c=>?_⟩
  refine⟨c,rfl,fun p N hp hN=>?_⟩
  refine⟨_,rfl,p,N,8,rfl,j7,hN,by decide,by decide,fun N1 r a1 a2 a3=>?_⟩
  rw[jBN]
  refine⟨rfl,_,rfl,ite2 (fun _=>?_) (fun _=>?_)⟩
  ·refine⟨_,rfl,p,N1,16,7,rfl,j7,a1,by decide,by decide,by decide,by decide,fun b N' w ms pcs H1 c1 c2 c3 c4 c5=>?_⟩
   exact q b w ms pcs H1 c3 (c4.wide (by decide) (by decide)) (c5.ext hp)
  ·refine⟨_,rfl,_,rfl,_,rfl,p,N1,mt,mp,rfl,j7,a1,m0,m1,p0,by omega,fun b N' w ms pcs H1 c1 c2 c3 c4 c5=>?_⟩
   exact q b w ms pcs H1 c3 (c4.wide m1 p1) (c5.ext hp)
end
section
variable {P:Program}{w:World}{K:W.Frag}{mg:Str->Option Value}{base:Heap}
variable {f fC fP fT fB fW:Addr}{fdC fdP fdT fdB fdW:FuncData}{cdv:Value}{A:Around}{outer:List Env}{s:Shared}{H0:Hp}{E:XK}
abbrev jDP:List Str:=["found"]
theorem scWholes:FnScope jDP ["found"] (j9 yK):=⟨rfl,rfl,rfl,by decide+kernel,rfl,by decide+kernel,by decide+kernel⟩
def jC8:Sp:=fun vs H Q _=>∃ (a:Addr) (ks:List Int),vs=[.ref a]/\H a=some (.tup (ks.map V.int))/\ks.length<=100/\∀ H',Ext H H'->Q (.bl true) H'
def jLO (T:Txt mg)(CW:Can P w K mg base "_law_whole" 1 fW fdW ["found"] spWh)(hr:Room 1 (XOf jDP "_law_wholes" yK P w K mg base f cdv A outer s H0 E).A): { t:TS // JSs (XOf jDP "_law_wholes" yK P w K mg base f cdv A outer s H0 E) (jD yK) t} :=
 have nd:=scWholes.nd
 ⟨_,(jJ (kN ((jGF (jG jA1 gD T.isinstance (by decide+kernel) (j4 (jv 0 rfl vL) (j4 (jAS (v:= .ty "tuple") gD T.tuple (by decide+kernel) rfl) j8 j6) j6) j6) (jGE (jG (jD0 rfl) gD T.all (by decide+kernel) (j4 (jAE (m:=[none]) (Nc:=["one"]) rfl (jB1 (jv 0 rfl vL)) rfl (by decide+kernel) (by decide+kernel) (kQ (psc:=j9 yK) (by decide+kernel)) (jZ (N:=jDP) rfl rfl (by decide+kernel)) (fun cl C fp s H=>kL (i:=0) (show (["one"]:List Str).Nodup by decide+kernel) rfl (qB (by decide+kernel))) (fun cl C fp s H=>jAB) (fun cl C fp s H=>(CW.je hr (gl_b (by decide+kernel)) (j4 (jv 0 rfl (y6 (by decide+kernel))) j8 j6) j6)) jB6) j8 jV) jV))))))⟩
theorem jIE {fd:FuncData}(F:Fun K "_law_wholes" "_law_wholes" yK f fd)(T:Txt mg)(CW:Can P w K mg base "_law_whole" 1 fW fdW ["found"] spWh):FnOk P w K mg base CX0 2 f fd ["found"] jC8:=by
 refine F.ok scWholes (fun vs H Q E h=>?_) (fun cdv A outer s H vs Q E hr h=>?_)
 ·obtain⟨_,_,rfl,_⟩:=h
  rfl
 ·obtain⟨a,ks,rfl,ha,hl,k⟩:=h
  refine⟨_,(jLO T CW hr).2.h,?_⟩
  refine⟨_,rfl,_,_,_,true,rfl, .tup ha,rfl,_,rfl,iteT ?_⟩
  refine⟨_,rfl,a,rfl,⟨_,SqT.of ha⟩,jAO (xs:=ks.map V.int) (by rw[ae,aD]; omega) (fun D j σ' H' zs=>(∃ v,σ'=[v])/\Ext H H'/\H' D=some (.lst zs)/\H D=none/\zs=(replicate j true).map V.bl) ?_ ?_ ?_ ?_⟩
  ·intro D hD
   exact⟨⟨_,rfl⟩,(Ext.refl _).new hD _,j7,hD,rfl⟩
  ·rintro D j σ' H' zs hD ⟨_,e,h2,_,rfl⟩
   refine⟨e _ _ ha,h2,?_⟩
   rw[ae,cC]
   exact ai _
  ·rintro D j σ' H' zs x hD hx ⟨⟨v,rfl⟩,e,h2,hn,rfl⟩
   obtain⟨z,hz,rfl⟩:∃ z:Int,ks[j]?=some z/\V.int z=x:=by
    rw[aG] at hx
    cases hq:ks[j]? with
    | none=>rw[hq] at hx; cases hx
    | some z=>rw[hq] at hx; cases hx; exact⟨z,rfl,rfl⟩
   dsimp only [yS,yY]
   rw[aA rfl]
   refine⟨_,rfl,_, .int z,rfl,jF9 _ _,h2,⟨_,rfl⟩,e.updNew hn _,j7,hn,?_⟩
   rw[gn,au]
   rfl
  ·rintro D σ' H' zs hD ⟨_,e,h2,hn,rfl⟩
   refine⟨D,_,rfl,SqL.of h2,?_⟩
   have:(replicate (ks.map V.int).length true).all id=true:=by rw[bC]; intro x hx; exact(gM.mp hx).2
   rw[this]
   exact k H' e
end
def pcT (pc:List Int×Int):Tr:= .tup [.tup (pc.1.map Tr.int), .int pc.2]
def boxT (w:Int)(ms:List Int)(pcs:List (List Int×Int)):Tr:= .tup [.int w, .tup (ms.map Tr.int), .tup (pcs.map pcT)]
theorem jER {H:Hp} :∀ l:List Int,TsAt H (l.map Tr.int) (l.map V.int)
 | []=>rfl
 | i::r=>⟨.int i,_,rfl,rfl,jER r⟩
theorem pcs_T {H:Hp} :∀ {vs:List V}{pcs:List (List Int×Int)},PcsAt H vs pcs->TsAt H (pcs.map pcT) vs
 | [],[],_=>rfl
 | v::vs,p::ps,h=>by
  obtain⟨a,q,e,h1,h2⟩:=h.1
  exact⟨v,vs,rfl,⟨a,_,e,h1, .ref q,_,rfl,⟨q,_,rfl,h2,jER _⟩, .int p.2,[],rfl,rfl,rfl⟩,pcs_T h.2⟩
 | [],_::_,h=>h.elim
 | _::_,[],h=>h.elim
theorem box_T {H:Hp}{b:Addr}{w:Int}{ms:List Int}{pcs:List (List Int×Int)}(h:BoxAt H b w ms pcs):TAt H (boxT w ms pcs) (.ref b):=by
 obtain⟨qm,qp,ps,b1,b2,b3,b4⟩:=h.ex
 exact⟨b,_,rfl,b1, .int w,_,rfl,rfl, .ref qm,_,rfl,⟨qm,_,rfl,b2,jER _⟩, .ref qp,[],rfl,⟨qp,_,rfl,b3,pcs_T b4⟩,rfl⟩
theorem jBJ:∀ l:List Int,deps (l.map Tr.int)=0
 | []=>by simp [deps]
 | i::r=>by simp [deps,dep,jBJ r]
theorem jGJ:∀ l:List (List Int×Int),deps (l.map pcT)<=2
 | []=>by simp [deps]
 | p::r=>by
  have:=jGJ r
  simp only [aV,deps,pcT,dep,jBJ]
  omega
theorem jMW (w:Int)(ms:List Int)(pcs:List (List Int×Int)):dep (boxT w ms pcs)<=4:=by
 have:=jGJ pcs
 simp only [boxT,dep,deps,jBJ]
 omega
theorem iteN {A B:Prop}{c:Bool}(hc:c=false)(h:B):if c=true then A else B:=by
 rw[hc]
 exact iteF h
section
variable {P:Program}{w:World}{K:W.Frag}{mg:Str->Option Value}{base:Heap}
variable {f fW fS:Addr}{fdW fdS:FuncData}{cdv:Value}{A:Around}{outer:List Env}{s:Shared}{H0:Hp}{E:XK}
abbrev jGA:List Str:=["found","due"]
theorem scIsBox:FnScope jGA ["found","due"] (j9 yU):=⟨rfl,rfl,rfl,by decide+kernel,rfl,by decide+kernel,by decide+kernel⟩
def yE:Sp:=fun vs H Q _=>∃ (a b:Addr) (w:Int) (ms:List Int) (pcs:List (List Int×Int)),vs=[.ref a, .ref b]/\BoxAt H a w ms pcs/\BoxAt H b w ms pcs/\ms.length<=100/\pcs.length<=100/\(∀ p∈pcs,p.1.length<=100)/\∀ H',Ext H H'->Q (.bl true) H'
def jOI (T:Txt mg)(CW:Can P w K mg base "_law_whole" 1 fW fdW ["found"] spWh)(CWs:Can P w K mg base "_law_wholes" 2 fS fdS ["found"] jC8)(hr:Room 2 (XOf jGA "_law_is_box" yU P w K mg base f cdv A outer s H0 E).A): { t:TS // JSs (XOf jGA "_law_is_box" yU P w K mg base f cdv A outer s H0 E) (jD yU) t} :=
 have nd:=scIsBox.nd
 ⟨_,(jF (qD (jt_w (jw_or (jB0 (jAZ (jG jA1 gD T.isinstance (by decide+kernel) (j4 (jv 0 rfl vL) (j4 (jAS (v:= .ty "tuple") gD T.tuple (by decide+kernel) rfl) j8 j6) j6) j6) jA8)) (jw_or (yO (jMF hr.units101) (jv 0 rfl vL) (jv 1 rfl vL) (kU _)) (jw_or (jB0 (jAZ (CW.je (hr.mono (by decide)) gD (j4 (kS kR (jv 0 rfl vL) (jE) jQ) j8 jW) jW) jA8)) (jIZ (jB0 (jAZ (CWs.je hr gD (j4 (kS kR (jv 0 rfl vL) (jE) jQ) j8 jW) jW) jA8))))))) (jJ (kN (je_bl))) yP)
   (jJ (kN (jG (jD0 rfl) gD T.all (by decide+kernel) (j4 (jAE (m:=[none,none]) (Nc:=["things","weight"]) rfl (jB1 (kS kR (jv 0 rfl vL) (jE) jQ)) rfl (by decide+kernel) (by decide+kernel) (kQ (psc:=j9 yU) (by decide+kernel)) (jZ (N:=jGA) rfl rfl (by decide+kernel)) (fun cl C fp s H=>jEO (i:=0) (j:=1) rfl (show (["things","weight"]:List Str).Nodup by decide+kernel) rfl rfl (by decide+kernel) (by decide+kernel)) (fun cl C fp s H=>jAB) (fun cl C fp s H=>((jGF (CWs.je hr (gl_b (by decide+kernel)) (j4 (jv 0 rfl (y6 (by decide+kernel))) j8 j6) j6) (jGE (CW.je (hr.mono (by decide)) (gl_b (by decide+kernel)) (j4 (jv 1 rfl (y6 (by decide+kernel))) j8 j6) j6))))) jJG) j8 jV) jV))))⟩
theorem jKJ {fd:FuncData}(F:Fun K "_law_is_box" "_law_is_box" yU f fd)(T:Txt mg)(CW:Can P w K mg base "_law_whole" 1 fW fdW ["found"] spWh)(CWs:Can P w K mg base "_law_wholes" 2 fS fdS ["found"] jC8):FnOk P w K mg base CX0 3 f fd ["found","due"] yE:=by
 refine F.ok scIsBox (fun vs H Q E h=>?_) (fun cdv A outer s H vs Q E hr h=>?_)
 ·obtain⟨_,_,_,_,_,rfl,_⟩:=h
  rfl
 ·obtain⟨a,b,w,ms,pcs,rfl,B1,B2,lm,lp,lt,q⟩:=h
  refine⟨_,(jOI T CW CWs hr).2.h,?_⟩
  obtain⟨qm,qp,vs,a1,a2,a3,a4⟩:=id B1.ex
  refine⟨_,rfl,_,_,_,true,rfl, .tup a1,rfl,_,rfl,iteF ?_⟩
  have T1:=box_T B1
  have T2:=box_T B2
  refine⟨_,rfl,_,rfl,_,_,T1,T2,?_,_,rfl,iteN (by rw[jBH]; rfl) ?_⟩
  ·have h:=jMW w ms pcs
   unfold boxT at h
   rw[dep] at h
   omega
  refine⟨_,rfl,_,_,0,_,rfl,rfl,SqT.of a1,rfl,_, .int w,rfl,jF9 _ _,_,rfl,iteF ?_⟩
  refine⟨_,rfl,_,_,1,_,rfl,rfl,SqT.of a1,rfl,qm,ms,rfl,a2,lm,fun H1 e1=>⟨_,rfl,iteF ?_⟩⟩
  refine⟨_,rfl,_,_,2,_,rfl,rfl,SqT.of (e1 _ _ a1),rfl,qp,rfl,⟨_,SqT.of (e1 _ _ a3)⟩,jAO (xs:=vs) (by rw[a4.len,aD]; omega) (fun D j σ' H' zs=>(∃ v v',σ'=[v,v'])/\Ext H1 H'/\H' D=some (.lst zs)/\H1 D=none/\zs=(replicate j true).map V.bl) ?_ ?_ ?_ ?_⟩
  ·intro D hD
   exact⟨⟨_,_,rfl⟩,(Ext.refl _).new hD _,j7,hD,rfl⟩
  ·rintro D j σ' H' zs hD ⟨_,e,h2,_,rfl⟩
   refine⟨e _ _ (e1 _ _ a3),h2,?_⟩
   rw[ae,cC]
   exact ai _
  ·rintro D j σ' H' zs x hD hx ⟨⟨v,v',rfl⟩,e,h2,hn,rfl⟩
   have hj:j<pcs.length:=by
    rw[<- a4.len]
    exact(ar.mp hx).1
   obtain⟨x',hx',ax,qx,rfl,c1,c2⟩:=a4.get hj
   rw[hx] at hx'
   cases hx'
   have lj:(pcs.getD j ([],0)).1.length<=100:=by
    have ee:pcs.getD j ([],0)=pcs[j]:=by simp [List.getD,hj]
    rw[ee]
    exact lt _ (cn hj)
   generalize pcs.getD j ([],0)=pc at c1 c2 lj
   refine⟨ax,_,rfl,SqT.of (e _ _ (e1 _ _ c1)),rfl,_,_,rfl,_,_,rfl,rfl,?_⟩
   dsimp only [yS,yY]
   rw[aA rfl]
   refine⟨_,rfl,qx,pc.1,rfl,e _ _ (e1 _ _ c2),lj,fun H2 e2=>⟨_,rfl,iteT ?_⟩⟩
   refine⟨_,rfl,_, .int pc.2,rfl,jF9 _ _,e2 _ _ h2,⟨_,_,rfl⟩,(e.trans e2).updNew hn _,j7,hn,?_⟩
   rw[gn,au]
   rfl
  ·rintro D σ' H' zs hD ⟨_,e,h2,hn,rfl⟩
   refine⟨D,_,rfl,SqL.of h2,?_⟩
   have:(replicate vs.length true).all id=true:=by rw[bC]; intro x hx; exact(gM.mp hx).2
   rw[this]
   exact q H' (e1.trans e)
end
abbrev leI:Int->Int->Bool:=fun a b=>decide (a<=b)
def srt (l:List Int):List Int:=l.mergeSort leI
theorem jDE (l:List Int):(srt l).Perm l:=List.mergeSort_perm _ _
theorem jN4 (l:List Int):(srt l).Pairwise (· <= ·):=by
 have:=List.pairwise_mergeSort (le:=leI) (fun a b c h1 h2=>aY (gQ (aO h1) (aO h2))) (fun a b=>by
  rw[cS]
  rcases Int.le_total a b with h | h
  ·exact .inl (aY h)
  ·exact .inr (aY h)) l
 exact this.imp fun h=>aO h
theorem jE6 {l m:List Int}(h1:m.Pairwise (· <= ·))(h2:m.Perm l):m=srt l:=
 List.Perm.eq_of_pairwise (fun a b _ _ h1 h2=>Int.le_antisymm h1 h2) h1 (jN4 l) (h2.trans (jDE l).symm)
theorem jLR (l:List Int):(srt l).length=l.length:=(jDE l).length_eq
def plcs (ts lot:List Int):List Int:=(lot.filter fun t=>decide (t∈ts)).map fun t=>((ts.idxOf t:Nat):Int)
def nmd (ts lot:List Int):List Int:=srt (plcs ts lot)
theorem jDJ (ts lot:List Int):(plcs ts lot).length<=lot.length:=by
 unfold plcs
 rw[ae]
 exact ge _ _
theorem jIK (ts lot:List Int):(nmd ts lot).length<=lot.length:=by
 unfold nmd
 rw[jLR]
 exact jDJ _ _
def pick (ts:List Int)(pcs:List (List Int×Int))(ks:List Int):List (List Int×Int):=ks.map fun k=>(nmd ts (jO pcs k),(pcs.getD k.toNat ([],0)).2)
def plKv (ts:List Int):List (Key×V):=(List.range ts.length).map fun i=>(Sum.inl (ts.getD i 0),V.int (i:Int))
theorem jK9 (ts:List Int):(plKv ts).length=ts.length:=by
 unfold plKv
 rw[ae,b0]
theorem jCK (ts:List Int):(plKv ts).map (·.1)=ts.map Sum.inl:=by
 unfold plKv
 rw[ce]
 refine List.ext_getElem (by simp) fun i h1 h2=>?_
 have:i<ts.length:=by simpa using h1
 simp [List.getD,this]
theorem jKA {ts:List Int}{i:Nat}{k:Key}{v:V}(h:(plKv ts)[i]?=some (k,v)):∃ t,ts[i]?=some t/\k=Sum.inl t/\v=V.int (i:Int):=by
 unfold plKv at h
 rw[aG] at h
 by_cases hi:i<ts.length
 ·rw[gx hi] at h
  simp only [map_some,de,Prod.mk.injEq] at h
  refine⟨ts[i],by simp [hi],?_,h.2.symm⟩
  rw[<- h.1]
  simp [List.getD,hi]
 ·rw[bR (by simp; omega)] at h
  cases h
theorem jK2 {κ:Type} [DecidableEq κ]{kvs:List (κ×V)}{k:κ}(h:k∉kvs.map (·.1)):valV kvs k=none:=by
 unfold valV
 rw[List.find?_eq_none.mpr fun x hx=>?_]
 ·rfl
 ·intro e
  exact h (bE.mpr ⟨x,hx,aO e⟩)
theorem jL5 {κ:Type} [DecidableEq κ]:∀ {kvs:List (κ×V)}{i:Nat}{k:κ}{v:V},(kvs.map (·.1)).Nodup->kvs[i]?=some (k,v)->valV kvs k=some v
 | [],_,_,_,_,h=>by simp at h
 | p::r,0,k,v,_,h=>by
  simp at h
  subst h
  exact jDC rfl
 | p::r,i+1,k,v,nd,h=>by
  rw[aV,bJ] at nd
  have h:r[i]?=some (k,v):=by simpa using h
  have hm:k∈r.map (·.1):=bE.mpr ⟨_,aW h,rfl⟩
  have ne:¬ p.1=k:=fun e=>nd.1 (by rw[e]; exact hm)
  have:=jL5 (i:=i) nd.2 h
  unfold valV at this ⊢
  rw[bV,ba ne]
  exact this
theorem jEG {ts:List Int}(h:ts.Nodup):(ts.map (Sum.inl:Int->Key)).Nodup:=by
 rw[List.Nodup,eY]
 exact h.imp fun hne e=>hne (gS e)
theorem jK8 {ts:List Int}(nd:ts.Nodup)(t:Int):valV (plKv ts) (Sum.inl t)=if t∈ts then some (.int ((ts.idxOf t:Nat):Int)) else none:=by
 by_cases h:t∈ts
 ·rw[aA h]
  have hi:=fh.mpr h
  refine jL5 (i:=ts.idxOf t) (by rw[jCK]; exact jEG nd) ?_
  unfold plKv
  rw[aG,gx hi]
  show some (Sum.inl (ts.getD (ts.idxOf t) 0),_)=_
  rw[show ts.getD (ts.idxOf t) 0=t by simp [List.getD,hi,gN]]
 ·rw[az h]
  refine jK2 ?_
  rw[jCK]
  intro z
  obtain⟨x,hx,e⟩:=bE.mp z
  exact h (gS e ▸ hx)
section
variable {P:Program}{w:World}{K:W.Frag}{mg:Str->Option Value}{base:Heap}
variable {f:Addr}{cd:Value}{cl:List (Str×Addr)}{A:Around}{outer:List Env}{s:Shared}{H0:Hp}
abbrev yN:Stmt:=(jD kI).getD 1 (.Pass ⟨0,0,0,0⟩)
abbrev jG9:List Str:=["lot","places"]
theorem scNamed:NScope jG9 ["lot"] ["places"] (j9 yN):=⟨rfl,rfl,rfl,by decide+kernel,rfl,by decide+kernel,by decide+kernel,fun x h=>by
 have:=bx h
 revert this
 have hl:∀ y∈(j9 yN).names,y.2= .free->y.1= "places" :=by decide+kernel
 intro m
 have:=hl _ m rfl
 exact this ▸ aB,by decide+kernel⟩
def jHT:List V->Sp:=fun fv vs H Q _=>∃ (d a:Addr) (ts lot:List Int),fv=[.ref d]/\vs=[.ref a]/\ts.Nodup/\H d=some (.dK (plKv ts))/\H a=some (.tup (lot.map V.int))/\lot.length<64/\∀ r H',H' r=some (.tup ((nmd ts lot).map V.int))->Ext H H'->Q (.ref r) H'
def jO6 (T:Txt mg)(hr:Room 0 (cxN P w K mg base jG9 "picked.<locals>.named" (j9 yN) f cd cl A outer s H0).A): { t:TS // JSs (cxN P w K mg base jG9 "picked.<locals>.named" (j9 yN) f cd cl A outer s H0) (jD yN) t} :=
 have nd:=scNamed.nd
 ⟨_,(jJ (kN (jI jL (gl_n (by decide+kernel)) T.tuple (by decide+kernel) (j4 (jG jAT (gl_n (by decide+kernel)) T.sorted (by decide+kernel) (j4 (jAE (m:=[none,some 1]) (Nc:=["thing","places"]) rfl (jB1 (jv 0 rfl (vis_n (by decide+kernel)))) rfl (by decide+kernel) (by decide+kernel) (kQ (psc:=j9 yN) (by decide+kernel)) (jZ (N:=jG9) rfl rfl (by decide+kernel)) (fun cl C fp s H=>kL (i:=0) (show (["thing","places"]:List Str).Nodup by decide+kernel) rfl (qB (by decide+kernel))) (fun cl C fp s H=>jJ1 (jOG (hu_of hr) (jv 0 rfl (y6 (by decide+kernel))) (jv 1 rfl (jB7 (by decide+kernel))) rfl)) (fun cl C fp s H=>(jMO (hu_of hr) (jv 1 rfl (jB7 (by decide+kernel))) (jv 0 rfl (y6 (by decide+kernel))) jCI)) jB6) j8 jV) jV) j8 jC) jC)))⟩
theorem jKI (T:Txt mg):FnN P w K mg base 1 "named" "picked.<locals>.named" (jN yN) (jD yN) (j9 yN) ["lot"] ["places"] jHT:=by
 refine jOL scNamed (fun fv vs H Q E h=>?_) (fun cl doc pm c ctv us hl=>?_) (fun A outer s H a c cl vs fv Q E hr h=>?_)
 ·obtain⟨_,_,_,_,_,rfl,_⟩:=h
  rfl
 ·match us,hl with
  | [u],_=>rfl
 ·obtain⟨d,a,ts,lot,rfl,rfl,nd,hd,ha,hl,q⟩:=h
  refine⟨_,(jO6 T hr).2.h,?_⟩
  refine⟨_,rfl,a,rfl,⟨_,SqT.of ha⟩,jAO (xs:=lot.map V.int) (by rw[ae,aD]; omega) (fun D j σ' H' zs=>(∃ v,σ'=[v,some (.ref d)])/\Ext H H'/\H' D=some (.lst zs)/\H D=none/\zs=(plcs ts (lot.take j)).map V.int) ?_ ?_ ?_ ?_⟩
  ·intro D hD
   exact⟨⟨_,rfl⟩,(Ext.refl _).new hD _,j7,hD,rfl⟩
  ·rintro D j σ' H' zs hD ⟨_,e,h2,_,rfl⟩
   refine⟨e _ _ ha,h2,?_⟩
   rw[ae]
   have:=jDJ ts (lot.take j)
   have:=bz j lot
   omega
  ·rintro D j σ' H' zs x hD hx ⟨⟨v,rfl⟩,e,h2,hn,rfl⟩
   obtain⟨z,hz,rfl⟩:∃ z:Int,lot[j]?=some z/\V.int z=x:=by
    rw[aG] at hx
    cases hq:lot[j]? with
    | none=>rw[hq] at hx; cases hx
    | some z=>rw[hq] at hx; cases hx; exact⟨z,rfl,rfl⟩
   have ht:plcs ts (lot.take (j+1))=plcs ts (lot.take j)++(if z∈ts then [((ts.idxOf z:Nat):Int)] else []):=by
    unfold plcs
    rw[cb,hz,gL,au]
    congr 1
    by_cases hzz:z∈ts <;> simp [hzz]
   have hD':H' d=some (.dK (plKv ts)):=e _ _ hd
   have gv:=jK8 nd z
   refine⟨_,rfl,_,rfl,d,_,rfl,DGet.k (k:=Sum.inl z) hD',_,rfl,?_⟩
   rw[gv]
   by_cases hzz:z∈ts
   ·rw[aA hzz] at gv ht ⊢
    refine⟨_,rfl,_,rfl,d,_,rfl,by rw[<- gv]; exact DGet.k (k:=Sum.inl z) hD',h2,⟨_,rfl⟩,e.updNew hn _,j7,hn,?_⟩
    rw[ht,au]
    rfl
   ·rw[az hzz] at gv ht ⊢
    refine⟨⟨_,rfl⟩,e,h2,hn,?_⟩
    rw[ht,bn]
  ·rintro D σ' H' zs hD ⟨_,e,h2,hn,rfl⟩
   rw[ae,cq] at h2
   refine⟨D,_,rfl,SqL.of h2,?_,fun l ns hl hs hp=>?_⟩
   ·have:=jDJ ts lot
    omega
   refine⟨l,_,rfl, .inl ⟨SqL.of j7,fun r hr=>?_⟩⟩
   refine q r _ ?_ ((e.new hl _).new hr _)
   rw[j7,jE6 hs hp]
   rfl
end
theorem jEC {H:Hp}{vs:List V}{pcs:List (List Int×Int)}(h:PcsAt H vs pcs){k:Int}(h0:0<=k)(h1:k<pcs.length):∃ a q,atI vs k=some (.ref a)/\H a=some (.tup [.ref q, .int (pcs.getD k.toNat ([],0)).2])/\H q=some (.tup ((jO pcs k).map V.int)):=by
 obtain⟨v,hv,a,q,rfl,b1,b2⟩:=h.get (k:=k.toNat) (by omega)
 refine⟨a,q,?_,b1,b2⟩
 have e:((k.toNat:Nat):Int)=k:=by omega
 have:=jFV hv
 rw[e] at this
 exact this
section
variable {P:Program}{w:World}{K:W.Frag}{mg:Str->Option Value}{base:Heap}
variable {f c0 tb:Addr}{A:Around}{outer:List Env}{s:Shared}{H0:Hp}{E:XK}
abbrev jBQ:List Str:=["box","things","pieces","places","named"]
theorem scPicked:FnScope jBQ ["box","things","pieces"] (j9 kI):=⟨rfl,rfl,rfl,by decide+kernel,rfl,by decide+kernel,by decide+kernel⟩
abbrev jNT:Pos:=match yN with
 | .FunctionDef _ _ _ _ _ _ _ _ _ p=>p
 | _=>⟨0,0,0,0⟩
abbrev TabP (H:Hp)(tb:Addr):Prop:=TabOk H tb jNT "picked.<locals>.named"
theorem jGH:∀ x∈(["places"]:List Str),(j9 yN).names.lookup x=some .free:=by decide+kernel
theorem jCV:FsAt (XOf jBQ "picked" kI P w K mg base f (.ref c0) A outer s H0 E) ["places"] [3]:=⟨rfl,fun k x h=>by
 cases k with
 | zero=>cases h; exact⟨3,rfl,rfl, .inl (show (j9 kI).names.lookup ("places" :Str)=some NameKind.cell by decide+kernel)⟩
 | succ k=>cases h⟩
def jC9 (tb:Addr):Sp:=fun vs H Q _=>∃ (b a c:Addr) (tp tq:Bool) (w:Int) (ms:List Int) (pcs:List (List Int×Int)) (ts ks:List Int),vs=[.ref b, .ref a, .ref c]/\BoxAt H b w ms pcs/\AtS tp H a (ts.map V.int)/\AtS tq H c (ks.map V.int)/\ts.Nodup/\ts.length<=100/\ms.length<64/\(∀ p∈pcs,p.1.length<64)/\(∀ k∈ks,0<=k/\k<pcs.length)/\ks.length<=1000/\TabP H tb/\
 ∀ r H',BoxAt H' r ts.length (nmd ts ms) (pick ts pcs ks)->ExtT tb H H'->TabP H' tb->Q (.ref r) H'
def jM1 (T:Txt mg)(CH:PySem.W.CodeHd base c0 tb)(BM:BltAt base mg)(FN:FnN P w K mg base 1 "named" "picked.<locals>.named" (jN yN) (jD yN) (j9 yN) ["lot"] ["places"] jHT)(hr:Room 1 (XOf jBQ "picked" kI P w K mg base f (.ref c0) A outer s H0 E).A): { t:TS // JSs (XOf jBQ "picked" kI P w K mg base f (.ref c0) A outer s H0 E) (jD kI) t} :=
 have nd:=scPicked.nd
 ⟨_,(jF (jT (i:=3) nd rfl (loc_c (by decide+kernel)) (jI (jHF rfl) gD T.dict (by decide+kernel) (j4 (jAE (m:=[none,none]) (Nc:=["place","thing"]) rfl (jMM gD T.enumerate (j4 (jv 1 rfl vL) j8 j6) j6) rfl (by decide+kernel) (by decide+kernel) (kQ (psc:=j9 kI) (by decide+kernel)) (jZ (N:=jBQ) rfl rfl (by decide+kernel)) (fun cl C fp s H=>jEO (i:=0) (j:=1) rfl (show (["place","thing"]:List Str).Nodup by decide+kernel) rfl rfl (by decide+kernel) (by decide+kernel)) (fun cl C fp s H=>jAB) (fun cl C fp s H=>(jY (j4 (jv 1 rfl (y6 (by decide+kernel))) (j4 (jv 0 rfl (y6 (by decide+kernel))) j8 j6) j6))) jBX) j8 jV) jV) jX)
   (jF (jOC (j:=4) nd rfl (loc_c (by decide+kernel)) rfl CH BM (kQ (psc:=j9 kI) (by decide+kernel)) rfl rfl)
   (jJ (kN (jY (j4 (jG jP gD T.len (by decide+kernel) (j4 (jv 1 rfl vL) j8 j6) j6) (j4 (jMN (j:=4) FN hr rfl vC (kQ (psc:=j9 kI) (by decide+kernel)) jGH jCV (j4 (kS kR (jv 0 rfl vC) (jE) jQ) j8 jW) jW) (j4 (jI jL gD T.tuple (by decide+kernel) (j4 (jKV (m:=[none,some 4,some 0]) (Nc:=["piece","named","box"]) rfl (jOD (jv 2 rfl vL)) rfl (by decide+kernel) (by decide+kernel) (kQ (psc:=j9 kI) (by decide+kernel)) (jZ (N:=jBQ) rfl rfl (by decide+kernel)) (fun cl C fp s H=>kL (i:=0) (show (["piece","named","box"]:List Str).Nodup by decide+kernel) rfl (qB (by decide+kernel))) (fun cl C fp s H=>jAB) (fun cl C fp s H pins σ I0 hfp=>(jY (j4 (jKS (j:=1) I0 hfp FN hr rfl (jB7 (by decide+kernel)) (kQ (psc:=j9 kI) (by decide+kernel)) jGH jCV (j4 (kS jAW (kS jAW (kS jAW (jv 2 rfl (jB7 (by decide+kernel))) (jE) jQ) (jv 0 rfl (y6 (by decide+kernel))) jCI) (jE) jQ) j8 jW) jW) (j4 (kS jAW (kS jAW (kS jAW (jv 2 rfl (jB7 (by decide+kernel))) (jE) jQ) (jv 0 rfl (y6 (by decide+kernel))) jCI) (jE) jQ) j8 jW) jC))) jB6) j8 jV) jV) j8 jC) jC) jC))))))⟩
theorem jIG {fd:FuncData}(F:FunC K "picked" "picked" kI f fd c0)(T:Txt mg)(CH:PySem.W.CodeHd base c0 tb)(BM:BltAt base mg):FnOk P w K mg base CX0 2 f fd ["box","things","pieces"] (jC9 tb):=by
 refine F.ok scPicked (fun vs H Q E h=>?_) (fun A outer s H vs Q E hr h=>?_)
 ·obtain⟨_,_,_,_,_,_,_,_,_,_,rfl,_⟩:=h
  rfl
 ·obtain⟨b,a,c,tp,tq,w,ms,pcs,ts,ks,rfl,hB,ha,hc,nd,lts,lms,lpc,hks,lks,tab,q⟩:=h
  refine⟨_,(jM1 T CH BM (jKI T) hr).2.h,?_⟩
  obtain⟨qm,qp,ps,b1,b2,b3,b4⟩:=id hB.ex
  have pl:=b4.len
  refine⟨_,rfl,tp,a,rfl,⟨_,ha.sq⟩,jJS (xs:=ts.map V.int) (by rw[ae,aD]; omega) (fun D j σ' H' zs=>(∃ v v',σ'=[v,v'])/\Ext H H'/\H' D=some (.lst zs)/\H D=none/\zs.length=j/\∀ i,i<j->∃ r:Addr,zs[i]?=some (V.ref r)/\H' r=some (.tup [.int (ts.getD i 0), .int (i:Int)])) ?_ ?_ ?_ ?_⟩
  ·intro D hD
   exact⟨⟨_,_,rfl⟩,(Ext.refl _).new hD _,j7,hD,rfl,fun i hi=>absurd hi (cR _)⟩
  ·rintro D j σ' H' zs hD ⟨_,e,h2,_,hl,_⟩
   exact⟨(ha.ext e).sq,h2,by omega⟩
  ·rintro D j σ' H' zs x X hD hx hX ⟨⟨v,v',rfl⟩,e,h2,hn,hl,hz⟩
   obtain⟨z,hz1,rfl⟩:∃ z:Int,ts[j]?=some z/\V.int z=x:=by
    rw[aG] at hx
    cases hq:ts[j]? with
    | none=>rw[hq] at hx; cases hx
    | some z=>rw[hq] at hx; cases hx; exact⟨z,rfl,rfl⟩
   have hgd:ts.getD j 0=z:=by rw[bw,hz1]; rfl
   refine⟨X,_,rfl,SqT.of j7,rfl,_,_,rfl,_,_,rfl,rfl,?_⟩
   dsimp only [yS,yY]
   rw[aA rfl]
   refine⟨_,rfl,_,rfl,by show (2:Nat)<=_; decide,fun r H2 d2 e2=>?_⟩
   have e1:Ext H' (L2.upd H' X (.tup [.int (j:Int), .int z])):=(Ext.refl _).new hX _
   have hD2:H2 D=some (.lst zs):=e2 _ _ (e1 _ _ h2)
   have rD:r≠D:=fun z=>by rw[z,hD2] at d2; cases d2
   refine⟨hD2,⟨_,_,rfl⟩,((e.trans e1).trans e2).updNew hn _,j7,hn,by rw[al,hl]; rfl,fun i hi=>?_⟩
   by_cases hij:i=j
   ·subst hij
    refine⟨r,?_,?_⟩
    ·rw[bu (by omega),hl,Nat.sub_self]
     rfl
    ·rw[jA rD,d2,hgd]
   ·obtain⟨r',z1,z2⟩:=hz i (by omega)
    have z3:=e2 _ _ (e1 _ _ z2)
    refine⟨r',?_,?_⟩
    ·rw[bA (by omega)]
     exact z1
    ·rw[jA (fun y=>by rw[y,hD2] at z3; cases z3)]
     exact z3
  ·rintro D σ' H1 zs hD ⟨_,e1,h2,hn,hl,hz⟩
   rw[ae] at hl hz
   refine⟨D,zs,plKv ts,rfl,h2,by rw[jK9]; exact hl,fun i k v hk=>?_,by rw[jCK]; exact jEG nd,fun d hd=>?_⟩
   ·obtain⟨t,z1,rfl,rfl⟩:=jKA hk
    obtain⟨r,z2,z3⟩:=hz i (ar.mp z1).1
    refine⟨r,z2,?_⟩
    rw[z3]
    show _=some (HO.tup [V.int t,V.int (i:Int)])
    rw[bw,z1]
    rfl
   have e2:Ext H (L2.upd H1 d (.dK (plKv ts))):=e1.new hd _
   have d2:(L2.upd H1 d (.dK (plKv ts))) d=some (.dK (plKv ts)):=j7
   generalize L2.upd H1 d (.dK (plKv ts))=H2 at e2 d2
   refine⟨tab.ext e2,fun fa fc H3 k1 k2 k3 k4 k5=>?_⟩
   have tab3:TabP H3 tb:= .inr ⟨fc,k3,k2⟩
   have E3:ExtT tb H H3:=(ExtT.of e2).trans k4
   have B1:=E3.at tab b1
   have B2:=E3.at tab b2
   have B3:=E3.at tab b3
   have dd:=k4.at (tab.ext e2) d2
   have aa:=E3.seq tab ha
   have cc:=E3.seq tab hc
   refine⟨_,rfl,a,_,rfl,aa.or,?_⟩
   refine⟨fa,rfl,_,rfl,b,_,1,_,rfl,rfl,SqT.of B1,rfl,fc,[.ref d],k1,k2,rfl,d,qm,ts,ms,rfl,rfl,nd,dd,B2,lms,fun r1 H4 d4 e4=>?_⟩
   refine jL2 (tp:=tq) (xs:=ks.map V.int) (cc.ext e4) (fun Q h=>⟨_,rfl,h⟩) (by rw[ae,aD]; omega) (fun D j σ' H' zs=>(∃ v,σ'=[v,some (.ref fa),some (.ref b)])/\Ext H4 H'/\H' D=some (.lst zs)/\H4 D=none/\PcsAt H' zs (pick ts pcs (ks.take j))) ?_ ?_ ?_ ?_
   ·intro D hD
    exact⟨⟨_,rfl⟩,(Ext.refl _).new hD _,j7,hD,trivial⟩
   ·rintro D j σ' H' zs hD ⟨_,e,h2,_,pz⟩
    refine⟨cc.ext (e4.trans e),h2,?_⟩
    rw[pz.len]
    unfold pick
    rw[ae]
    exact bz _ _
   ·rintro D j σ' H' zs x hD hx ⟨⟨v,rfl⟩,e,h2,hn,pz⟩
    obtain⟨k,hk,rfl⟩:∃ z:Int,ks[j]?=some z/\V.int z=x:=by
     rw[aG] at hx
     cases hq:ks[j]? with
     | none=>rw[hq] at hx; cases hx
     | some z=>rw[hq] at hx; cases hx; exact⟨z,rfl,rfl⟩
    have hkb:=hks k (aW hk)
    have e34:=e4.trans e
    obtain⟨pa,pq,g1,g2,g3⟩:=jEC b4 hkb.1 hkb.2
    have g2':=e34 _ _ (E3.at tab g2)
    have g3':=e34 _ _ (E3.at tab g3)
    have hlen:(jO pcs k).length<64:=by
     unfold jO
     rw[jMS (by omega)]
     exact lpc _ (cn _)
    dsimp only [yS,yY]
    rw[aA rfl]
    refine⟨fa,rfl,_,rfl,b,_,2,_,rfl,rfl,SqT.of (e34 _ _ B1),rfl,_,rfl,qp,_,k,_,rfl,rfl,SqT.of (e34 _ _ B3),g1,pa,_,0,_,rfl,rfl,SqT.of g2',rfl,fc,[.ref d],e34 _ _ k1,e34 _ _ k2,rfl,d,pq,ts,jO pcs k,rfl,rfl,nd,e34 _ _ dd,g3',hlen,fun r2 H5 d5 e5=>?_⟩
    have e35:=e34.trans e5
    refine⟨_,rfl,b,_,2,_,rfl,rfl,SqT.of (e35 _ _ B1),rfl,_,rfl,qp,_,k,_,rfl,rfl,SqT.of (e35 _ _ B3),g1,pa,_,1,_,rfl,rfl,SqT.of (e5 _ _ g2'),rfl,by show (2:Nat)<=_; decide,fun r3 H6 d6 e6=>?_⟩
    have hD6:H6 D=some (.lst zs):=e6 _ _ (e5 _ _ h2)
    refine⟨hD6,⟨_,rfl⟩,((e.trans e5).trans e6).updNew hn _,j7,hn,?_⟩
    have ez:pick ts pcs (ks.take (j+1))=pick ts pcs (ks.take j)++[(nmd ts (jO pcs k),(pcs.getD k.toNat ([],0)).2)]:=by
     unfold pick
     rw[cb,hk,au]
     rfl
    rw[ez]
    exact PcsAt.mono (Tups.upd hD6 _) (PcsAt.snoc (p:=(nmd ts (jO pcs k),(pcs.getD k.toNat ([],0)).2)) ⟨r3,r2,rfl,d6,e6 _ _ d5⟩ (pz.mono (e5.trans e6).tups))
   ·rintro D σ' H5 zs hD ⟨_,e5,h5,hn5,pz⟩
    rw[ae,cq] at pz
    refine⟨D,_,rfl, .inl ⟨SqL.of h5,fun l hl=>?_⟩⟩
    have e6:Ext H5 (L2.upd H5 l (.tup zs)):=(Ext.refl _).new hl _
    have d6:(L2.upd H5 l (.tup zs)) l=some (.tup zs):=j7
    generalize L2.upd H5 l (.tup zs)=H6 at e6 d6
    refine⟨by show (3:Nat)<=_; decide,fun r H7 d7 e7=>?_⟩
    have e47:=(e5.trans e6).trans e7
    refine q r H7 ⟨r1,l,zs,?_,e47 _ _ d4,e7 _ _ d6,pz.mono (e6.trans e7).tups⟩ (E3.trans (ExtT.of (e4.trans e47))) (tab3.ext (e4.trans e47))
    rw[d7,ae]
end
theorem jBM (n:Nat):(upto n).Nodup:=(jAV n).ris.imp fun h=>by omega
theorem jCP {w:Int}{ts:List Int}(h:ts.Pairwise (· < ·))(b:∀ z∈ts,0<=z/\z<w)(hw:w<=16):ts.length<=16:=by
 have:=jHX ts 0 w h b
 omega
theorem jD4 {w:Int}{ms:List Int}{pcs:List (List Int×Int)}(g:Good 16 32 w ms pcs){k:Int}(h0:0<=k)(h1:k<pcs.length):(jO pcs k).length<=16:=by
 have:=g.at (k:=k.toNat) (by omega)
 exact jCP this.lot.ris this.lot.bnd g.w1
theorem pc_lt {w:Int}{ms:List Int}{pcs:List (List Int×Int)}(g:Good 16 32 w ms pcs):∀ p∈pcs,p.1.length<64:=fun p hp=>by
 have:=g.pg p hp
 have:=jCP this.lot.ris this.lot.bnd g.w1
 omega
theorem jG3 {ts lot:List Int}(h:∀ t∈lot,t∈ts):plcs ts lot=lot.map fun t=>((ts.idxOf t:Nat):Int):=by
 unfold plcs
 rw[List.filter_eq_self.mpr fun t ht=>aY (h t ht)]
theorem mem_upto {n:Nat}{t:Int} :t∈upto n↔0<=t/\t<n:=by
 constructor
 ·exact fun h=>(jAV n).bnd t h
 ·intro h
  unfold upto
  exact bE.mpr ⟨t.toNat,br.mpr (by omega),by omega⟩
theorem jES {ts:List Int}{t:Int}(h:t∈ts):ts[ts.idxOf t]?=some t/\∀ m,m<ts.idxOf t->ts[m]?≠some t:=by
 have hi:=fh.mpr h
 refine⟨by rw[bh hi,gN],fun m hm e=>?_⟩
 have hm':m<ts.length:=by omega
 rw[bh hm'] at e
 have:=List.not_of_lt_findIdx (p:=(· ==t)) (xs:=ts) (i:=m) (by unfold List.idxOf at hm; exact hm)
 rw[aK e] at this
 simp at this
theorem jGG {K:W.Frag}{m:List (Option Nat)}{σ:St}{H:Hp}{Q:VK}{q t:Addr}{lot ts:List Int}(hq:H q=some (.tup (lot.map V.int)))(ht:H t=some (.tup (ts.map V.int)))(hl:lot.length<=1000)(hs:∀ x∈lot,x∈ts)(h0:blkσ m σ=[none,some (.ref t)])
  (k:∀ D H',H' D=some (.lst ((lot.map fun t=>((ts.idxOf t:Nat):Int)).map V.int))->Ext H H'->H D=none->Q (.ref D) H'):qC m (yS 0) yY (tBMT jHZ (tVar 1) (tCons (tVar 0) tNil)) σ Q (Itt K q) H:=by
 refine jAO (xs:=lot.map V.int) (by rw[ae,aD]; omega) (fun D j σ' H' zs=>(∃ v,σ'=[v,some (.ref t)])/\Ext H H'/\H' D=some (.lst zs)/\H D=none/\zs=((lot.take j).map fun t=>((ts.idxOf t:Nat):Int)).map V.int) ?_ ?_ ?_ ?_
 ·intro D hD
  exact⟨⟨_,h0⟩,(Ext.refl _).new hD _,j7,hD,rfl⟩
 ·rintro D j σ' H' zs hD ⟨_,e,h2,_,rfl⟩
  refine⟨e _ _ hq,h2,?_⟩
  rw[ae,ae]
  exact bz _ _
 ·rintro D j σ' H' zs x hD hx ⟨⟨v,rfl⟩,e,h2,hn,rfl⟩
  obtain⟨z,hz,rfl⟩:∃ z:Int,lot[j]?=some z/\V.int z=x:=by
   rw[aG] at hx
   cases hq:lot[j]? with
   | none=>rw[hq] at hx; cases hx
   | some z=>rw[hq] at hx; cases hx; exact⟨z,rfl,rfl⟩
  have hzt:=hs z (aW hz)
  dsimp only [yS,yY]
  rw[aA rfl]
  refine⟨_,rfl,⟨t,_,rfl,e _ _ ht⟩,_,rfl,t,ts,z,ts.idxOf z,rfl,rfl,e _ _ ht,(jES hzt).1,(jES hzt).2,h2,⟨_,rfl⟩,e.updNew hn _,j7,hn,?_⟩
  have:lot.take (j+1)=lot.take j++[z]:=by
   rw[cb,hz]
   rfl
  rw[this,au,au]
  rfl
 ·rintro D σ' H' zs hD ⟨_,e,h2,hn,rfl⟩
  rw[ae,cq] at h2
  exact k D H' h2 e hn
section
variable {P:Program}{w:World}{K:W.Frag}{mg:Str->Option Value}{base:Heap}
variable {f fW:Addr}{fdW:FuncData}{cdv:Value}{A:Around}{outer:List Env}{s:Shared}{H0:Hp}{E:XK}
abbrev jDS:List Str:=["e","own","kinds"]
theorem scOthers:FnScope jDS ["e","own"] (j9 yM):=⟨rfl,rfl,rfl,by decide+kernel,rfl,by decide+kernel,by decide+kernel⟩
abbrev jCB:List Str:=["Held","NoCovering","NoDeed","NoOrder","NoPiece","NoRow","NoText","NoThing","NoWeight","TooMany"]
structure Kinds (K:W.Frag)(mg:Str->Option Value)(C:Addr)(cl:Nat->Addr)(ks:Nat->Bool):Prop where
 ei:ExcIs K C
 ml:∀ i x,jCB[i]?=some x->mg x=some (.ref (cl i))
 is_:∀ i,i<10->kitOne K (.ref C) (.ref (cl i))=some (ks i)
 ve:kitOne K (.ref C) (.type "ValueError")=some true
def oneOf (own:Int)(n:Nat):List Tr:=(List.range n).map fun (i:Nat)=>Tr.bl (decide ((i:Int)=own))
def jCA (C:Addr)(ks:Nat->Bool):Addr->Sp:=fun x vs H Q _=>∃ own:Int,vs=[.ref x, .int own]/\H x=some (.ext (excP x C))/\∀ H',Ext H H'->Q (.bl (eqTs [.bl (ks 0), .bl (ks 1), .bl (ks 2), .bl (ks 3), .bl (ks 4), .bl (ks 5), .bl (ks 6), .bl (ks 7), .bl (ks 8), .bl (ks 9), .bl false] (oneOf own 11))) H'
def jME {C x:Addr}{cl:Nat->Addr}(T:Txt mg)(EI:ExcIs K C)(ML:∀ i x,jCB[i]?=some x->mg x=some (.ref (cl i)))(hr:RoomS 0 (cxS P w K mg base jDS "_law_others" (j9 yM) f cdv A outer s H0 E).A x): { t:TS // JSs (cxS P w K mg base jDS "_law_others" (j9 yM) f cdv A outer s H0 E) (jD yM) t} :=
 have nd:=scOthers.nd
 ⟨_,(jF (jT (i:=2) nd rfl (loc_s (by decide+kernel)) (jAN (j4 (jG (jU EI) (gl_s (by decide+kernel)) T.isinstance (by decide+kernel) (j4 (jv 0 rfl (yW (by decide+kernel))) (j4 (jAD (v:= .ref (cl 0)) (gl_s (by decide+kernel)) (ML 0 _ rfl) rfl) j8 j6) j6) j6) (j4 (jG (jU EI) (gl_s (by decide+kernel)) T.isinstance (by decide+kernel) (j4 (jv 0 rfl (yW (by decide+kernel))) (j4 (jAD (v:= .ref (cl 1)) (gl_s (by decide+kernel)) (ML 1 _ rfl) rfl) j8 j6) j6) j6) (j4 (jG (jU EI) (gl_s (by decide+kernel)) T.isinstance (by decide+kernel) (j4 (jv 0 rfl (yW (by decide+kernel))) (j4 (jAD (v:= .ref (cl 2)) (gl_s (by decide+kernel)) (ML 2 _ rfl) rfl) j8 j6) j6) j6) (j4 (jG (jU EI) (gl_s (by decide+kernel)) T.isinstance (by decide+kernel) (j4 (jv 0 rfl (yW (by decide+kernel))) (j4 (jAD (v:= .ref (cl 3)) (gl_s (by decide+kernel)) (ML 3 _ rfl) rfl) j8 j6) j6) j6) j8 jC) jC) jC) jC)) jD5)
   (jF (jT (i:=2) nd rfl (loc_s (by decide+kernel)) (y4 jCC (jv 2 rfl (yW (by decide+kernel))) (jAN (j4 (jG (jU EI) (gl_s (by decide+kernel)) T.isinstance (by decide+kernel) (j4 (jv 0 rfl (yW (by decide+kernel))) (j4 (jAD (v:= .ref (cl 4)) (gl_s (by decide+kernel)) (ML 4 _ rfl) rfl) j8 j6) j6) j6) (j4 (jG (jU EI) (gl_s (by decide+kernel)) T.isinstance (by decide+kernel) (j4 (jv 0 rfl (yW (by decide+kernel))) (j4 (jAD (v:= .ref (cl 5)) (gl_s (by decide+kernel)) (ML 5 _ rfl) rfl) j8 j6) j6) j6) (j4 (jG (jU EI) (gl_s (by decide+kernel)) T.isinstance (by decide+kernel) (j4 (jv 0 rfl (yW (by decide+kernel))) (j4 (jAD (v:= .ref (cl 6)) (gl_s (by decide+kernel)) (ML 6 _ rfl) rfl) j8 j6) j6) j6) (j4 (jG (jU EI) (gl_s (by decide+kernel)) T.isinstance (by decide+kernel) (j4 (jv 0 rfl (yW (by decide+kernel))) (j4 (jAD (v:= .ref (cl 7)) (gl_s (by decide+kernel)) (ML 7 _ rfl) rfl) j8 j6) j6) j6) j8 jC) jC) jC) jC))) jE5)
   (jF (jT (i:=2) nd rfl (loc_s (by decide+kernel)) (y4 jCC (jv 2 rfl (yW (by decide+kernel))) (jAN (j4 (jG (jU EI) (gl_s (by decide+kernel)) T.isinstance (by decide+kernel) (j4 (jv 0 rfl (yW (by decide+kernel))) (j4 (jAD (v:= .ref (cl 8)) (gl_s (by decide+kernel)) (ML 8 _ rfl) rfl) j8 j6) j6) j6) (j4 (jG (jU EI) (gl_s (by decide+kernel)) T.isinstance (by decide+kernel) (j4 (jv 0 rfl (yW (by decide+kernel))) (j4 (jAD (v:= .ref (cl 9)) (gl_s (by decide+kernel)) (ML 9 _ rfl) rfl) j8 j6) j6) j6) (j4 (jJ7 (jG (jU EI) (gl_s (by decide+kernel)) T.isinstance (by decide+kernel) (j4 (jv 0 rfl (yW (by decide+kernel))) (j4 (jAS (v:= .ty "ValueError") (gl_s (by decide+kernel)) T.ValueError (by decide+kernel) rfl) j8 j6) j6) j6)) j8 se_un) jC) jC))) jE5)
   (jJ (kN (jDT (jIB hr.units101) (jv 2 rfl (yW (by decide+kernel))) (jKU (m:=[none,some 1]) (Nc:=["place","own"]) hr.hd (jJ2 (gl_s (by decide+kernel)) T.range (j4 (jE) j8 jH) jH) rfl (by decide+kernel) (by decide+kernel) (kQ (psc:=j9 yM) (by decide+kernel)) (jZ (N:=jDS) rfl rfl (by decide+kernel)) (fun cl C fp s H=>kL (i:=0) (show (["place","own"]:List Str).Nodup by decide+kernel) rfl (qB (by decide+kernel))) (fun cl C fp s H=>jAB) (fun cl C fp s H=>(jDT op_eq (jv 0 rfl (y6 (by decide+kernel))) (jv 1 rfl (jB7 (by decide+kernel))) (kU _))) jBX) (kU _)))))))⟩
end
end Eo
namespace Eo
open PySem L2
theorem jJY {H:Hp} :∀ bs:List Bool,TsAt H (bs.map Tr.bl) (bs.map V.bl)
 | []=>by rw[dW,dW,TsAt]
 | b::r=>by
  rw[aV,aV,TsAt]
  exact⟨_,_,rfl,by rw[TAt],jJY r⟩
theorem jGN:∀ bs:List Bool,deps (bs.map Tr.bl)=0
 | []=>by rw[dW,deps]
 | b::r=>by
  rw[aV,deps,jGN r,dep]
  ·rfl
  ·intro _ z; cases z
  ·intro _ z; cases z
section
variable {P:Program}{w:World}{K:W.Frag}{mg:Str->Option Value}{base:Heap}
variable {f C:Addr}{cl:Nat->Addr}{ks:Nat->Bool}
theorem jIH {fd:FuncData}(F:Fun K "_law_others" "_law_others" yM f fd)(T:Txt mg)(k:Kinds K mg C cl ks):FnS P w K mg base 1 f fd ["e","own"] (jCA C ks):=by
 refine jOK F scOthers (fun x vs H Q E h=>?_) (fun cdv A outer s H vs Q E x hr h=>?_)
 ·obtain⟨_,rfl,_⟩:=h
  rfl
 ·obtain⟨own,rfl,hx,q⟩:=h
  refine⟨_,(jME T k.ei k.ml hr).2.h,?_⟩
  have ki:=k.is_
  have rr:∀ {a:Addr}(v:Value),RelV (.ref a) v->v= .ref a:=fun v h=>h
  refine⟨_,rfl,x,_,_,_,rfl,hx,rr,ki 0 (by decide),_,rfl,x,_,_,_,rfl,hx,rr,ki 1 (by decide),_,rfl,x,_,_,_,rfl,hx,rr,ki 2 (by decide),_,rfl,x,_,_,_,rfl,hx,rr,ki 3 (by decide),by show (4:Nat)<=_; decide,fun l1 H1 d1 e1 _=>?_⟩
  have hx:=e1 _ _ hx
  refine⟨_,rfl,_,rfl,x,_,_,_,rfl,hx,rr,ki 4 (by decide),_,rfl,x,_,_,_,rfl,hx,rr,ki 5 (by decide),_,rfl,x,_,_,_,rfl,hx,rr,ki 6 (by decide),_,rfl,x,_,_,_,rfl,hx,rr,ki 7 (by decide),by show (4:Nat)<=_; decide,fun l2 H2 d2 e2 _=>?_⟩
  refine⟨l1,l2,_,_,rfl,rfl,e2 _ _ d1,d2,by show (8:Nat)<=_; decide,fun l3 H3 d3 e3 _=>?_⟩
  have hx:=e3 _ _ (e2 _ _ hx)
  refine⟨_,rfl,_,rfl,x,_,_,_,rfl,hx,rr,ki 8 (by decide),_,rfl,x,_,_,_,rfl,hx,rr,ki 9 (by decide),_,rfl,x,_,_,_,rfl,hx,(fun _ h=>h),k.ve,_,rfl,by show (3:Nat)<=_; decide,fun l4 H4 d4 e4 _=>?_⟩
  refine⟨l3,l4,_,_,rfl,rfl,e4 _ _ d3,d4,by show (11:Nat)<=_; decide,fun l5 H5 d5 e5 _=>?_⟩
  have hx:=e5 _ _ (e4 _ _ hx)
  have e05:Ext H H5:=(((e1.trans e2).trans e3).trans e4).trans e5
  refine⟨_,rfl,11,rfl,by decide,by decide,jJR (n:=11) (by decide) (fun D j σ' H' zs=>(∃ v,σ'=[v,some (.int own)])/\Ext H5 H'/\H' D=some (.lst zs)/\H5 D=none/\zs=((List.range j).map fun (i:Nat)=>decide ((i:Int)=own)).map V.bl) ?_ ?_ ?_ ?_⟩
  ·intro D hD
   exact⟨⟨_,rfl⟩,(Ext.refl _).new hD _,j7,hD,rfl⟩
  ·rintro D j σ' H' zs hD hj ⟨_,e,h2,_,rfl⟩
   refine⟨⟨C,e _ _ hx⟩,h2,?_⟩
   rw[ae,ae,b0]
   exact ai _
  ·rintro D j σ' H' zs hD hj ⟨⟨v,rfl⟩,e,h2,hn,rfl⟩
   dsimp only [yS,yY]
   rw[aA rfl]
   refine⟨_,rfl,_,rfl,rfl,h2,⟨_,rfl⟩,e.updNew hn _,j7,hn,?_⟩
   have ed:decide (V.int (0+(j:Int))=V.int own)=decide ((j:Int)=own):=by
    rw[dX]
    exact decide_eq_decide.mpr ⟨fun z=>V.int.inj z,fun z=>by rw[z]⟩
   rw[ed,List.range_succ,au,au]
   rfl
  ·rintro D σ' H' zs hD ⟨_,e,h2,hn,rfl⟩
   refine⟨_,oneOf own 11,⟨l5,_,rfl,e _ _ d5,jJY [ks 0,ks 1,ks 2,ks 3,ks 4,ks 5,ks 6,ks 7,ks 8,ks 9,false]⟩,⟨D,_,rfl,h2,?_⟩,?_,q H' (e05.trans e)⟩
   ·have:=jJY (H:=H') ((List.range 11).map fun (i:Nat)=>decide ((i:Int)=own))
    rw[ce] at this
    exact this
   ·rw[jGN]
    exact aM _
end
section
variable {P:Program}{w:World}{K:W.Frag}{mg:Str->Option Value}{base:Heap}
variable {f fW fO fK tb cE:Addr}{fdW fdO fdK:FuncData}{cdv:Value}{A:Around}{outer:List Env}{s:Shared}{H0:Hp}{E:XK}
abbrev jCD:List Str:=["thing","many"]
theorem scIsOrder:FnScope jCD ["thing","many"] (j9 yB):=⟨rfl,rfl,rfl,by decide+kernel,rfl,by decide+kernel,by decide+kernel⟩
def ordB (n:Int)(o:Ob):Bool:=match o with
 | .tup os=>decide ((os.length:Int)=n)&&os.all isInt&&decide (srt (os.map val)=upto n.toNat)
 | _=>false
def jKX (T:Txt mg)(CW:Can P w K mg base "is_whole" 1 fW fdW ["thing"] spWh)(hr:Room 1 (XOf jCD "is_order" yB P w K mg base f cdv A outer s H0 E).A): { t:TS // JSs (XOf jCD "is_order" yB P w K mg base f cdv A outer s H0 E) (jD yB) t} :=
 have nd:=scIsOrder.nd
 ⟨_,(jF (qD (jt_w (jw_or (jB0 (jAZ (jG jA1 gD T.isinstance (by decide+kernel) (j4 (jv 0 rfl vL) (j4 (jAS (v:= .ty "tuple") gD T.tuple (by decide+kernel) rfl) j8 j6) j6) j6) jA8)) (jw_or (yO op_ne (jG jP gD T.len (by decide+kernel) (j4 (jv 0 rfl vL) j8 j6) j6) (jv 1 rfl vL) (kU _)) (jIZ (jB0 (jAZ (jG (jD0 rfl) gD T.all (by decide+kernel) (j4 (jAE (m:=[none]) (Nc:=["number"]) rfl (jB1 (jv 0 rfl vL)) rfl (by decide+kernel) (by decide+kernel) (kQ (psc:=j9 yB) (by decide+kernel)) (jZ (N:=jCD) rfl rfl (by decide+kernel)) (fun cl C fp s H=>kL (i:=0) (show (["number"]:List Str).Nodup by decide+kernel) rfl (qB (by decide+kernel))) (fun cl C fp s H=>jAB) (fun cl C fp s H=>(CW.je hr (gl_b (by decide+kernel)) (j4 (jv 0 rfl (y6 (by decide+kernel))) j8 j6) j6)) jB6) j8 jV) jV) jA8)))))) (jJ (kN (je_bl))) yP)
   (jJ (kN (jDT (jIB hr.units101) (jG jEX gD T.sorted (by decide+kernel) (j4 (jv 0 rfl vL) j8 j6) j6) (jI (jAU rfl) gD T.list (by decide+kernel) (j4 (jI jA6 gD T.range (by decide+kernel) (j4 (jv 1 rfl vL) j8 j6) j6) j8 jC) jC) (kU _)))))⟩
def spOrd:Sp:=fun vs H Q _=>∃ v o w,vs=[v, .int w]/\At H o v/\0<=w/\w<=32/\∀ H',Ext H H'->Q (.bl (ordB w o)) H'
theorem jEV:∀ l m:List Int,eqTs (l.map Tr.int) (m.map Tr.int)=decide (l=m)
 | [],[]=>rfl
 | [],_::_=>rfl
 | _::_,[]=>rfl
 | a::l,b::m=>by
  have e:eqTs ((a::l).map Tr.int) ((b::m).map Tr.int)=(eqT (.int a) (.int b)&&eqTs (l.map Tr.int) (m.map Tr.int)):=rfl
  rw[e,jEV l m]
  have e2:eqT (.int a) (.int b)=decide (a=b):=rfl
  rw[e2,bU,aS,eR,eR,eR,List.cons.injEq]
theorem jH5 {fd:FuncData}(F:Fun K "is_order" "is_order" yB f fd)(T:Txt mg)(CW:Can P w K mg base "is_whole" 1 fW fdW ["thing"] spWh):FnOk P w K mg base CX0 2 f fd ["thing","many"] spOrd:=by
 refine F.ok scIsOrder (fun vs H Q E h=>?_) (fun cdv A outer s H vs Q E hr h=>?_)
 ·obtain⟨_,_,_,rfl,_⟩:=h
  rfl
 ·obtain⟨v,o,w,rfl,hA,w0,w1,q⟩:=h
  obtain⟨t,ty,kt,_⟩:=hA.ty K
  refine⟨_,(jKX T CW hr).2.h,?_⟩
  refine⟨_,rfl,_,_,_,_,rfl,ty,kt,_,rfl,?_⟩
  cases ht:isTup o with
  | false=>
   have:ordB w o=false:=by cases o <;> first | rfl | cases ht
   exact iteT (iteT (qb (q H (Ext.refl H)) this))
  | true=>
   refine iteF ?_
   obtain⟨os,a,vs,rfl,rfl,ha,h100,hx⟩:=hA.tupOf ht
   have hl:=hx.len
   have hn:vs.length<sizeLine:=by rw[aD]; omega
   refine⟨_,rfl,a,_,rfl, .inr (SqT.of ha),_,rfl,rfl,_,rfl,ite2 (fun hy=>?_) (fun hy=>?_)⟩
   ·have hy:¬ (vs.length:Int)=w:=fun z=>by
     rw[z] at hy
     simp at hy
    refine iteT (qb (q H (Ext.refl H)) ?_)
    show (decide ((os.length:Int)=w)&&_&&_)=false
    rw[ba (by omega)]
    rfl
   have hy:(vs.length:Int)=w:=Classical.byContradiction fun z=>hy (by simp [z])
   refine⟨_,rfl,a,rfl,⟨_,SqT.of ha⟩,jJQ (F:=isInt) ha hx hn (fun σ'=>∃ v,σ'=[v]) ⟨_,rfl⟩ ?_ ?_⟩
   ·rintro σ' H' v o R S ⟨u,rfl⟩ e hA k
    dsimp only [yS,yY]
    rw[aA rfl]
    exact⟨_,rfl,v,o,rfl,hA,k _ H' ⟨_,rfl⟩ (Ext.refl _)⟩
   ·intro D H1 e1 hD
    refine⟨D,_,rfl,SqL.of hD,_,rfl,?_⟩
    rw[jOT]
    cases hi:os.all isInt with
    | false=>
     refine iteT (qb (q H1 e1) ?_)
     show (_&&os.all isInt&&_)=false
     rw[hi,bQ]
     rfl
    | true=>
     refine iteF ?_
     have hv:=hx.allInt hi
     have ha1:=e1 _ _ ha
     rw[hv] at ha1
     refine⟨_,rfl,a,os.map val,rfl,ha1,by rw[ae]; omega,fun l ns hl2 ple pm=>?_⟩
     have ens:=jE6 ple pm
     have e2:Ext H1 (L2.upd H1 l (.lst (ns.map V.int))):=(Ext.refl _).new hl2 _
     have d2:(L2.upd H1 l (.lst (ns.map V.int))) l=some (.lst (ns.map V.int)):=j7
     generalize L2.upd H1 l (.lst (ns.map V.int))=H2 at e2 d2
     refine⟨_,rfl,w,rfl,fun rg hrg=>?_⟩
     have e3:Ext H2 (L2.upd H2 rg (.rng 0 w)):=(Ext.refl _).new hrg _
     have d3:(L2.upd H2 rg (.rng 0 w)) rg=some (.rng 0 w):=j7
     generalize L2.upd H2 rg (.rng 0 w)=H3 at e3 d3
     refine⟨rg,w,rfl,d3,w0,by omega,fun m hm=>?_⟩
     have e4:Ext H3 (L2.upd H3 m (.lst (yI w.toNat))):=(Ext.refl _).new hm _
     have d4:(L2.upd H3 m (.lst (yI w.toNat))) m=some (.lst (yI w.toNat)):=j7
     show ∃ ts us,_
     generalize L2.upd H3 m (.lst (yI w.toNat))=H4 at e4 d4
     have eu:yI w.toNat=(upto w.toNat).map V.int:=by
      unfold yI upto
      rw[ce]
      rfl
     rw[eu] at d4
     refine⟨ns.map Tr.int,(upto w.toNat).map Tr.int,⟨l,_,rfl,e4 _ _ (e3 _ _ d2),jER _⟩,⟨m,_,rfl,d4,jER _⟩,by rw[jBJ]; decide,?_⟩
     rw[jEV,ens]
     refine qb (q H4 (((e1.trans e2).trans e3).trans e4)) ?_
     show (decide ((os.length:Int)=w)&&os.all isInt&&decide (srt (os.map val)=upto w.toNat))=_
     rw[hi,aY (show (os.length:Int)=w by omega),Bool.true_and,Bool.true_and]
def obs (o:Ob):List Int:=match o with
 | .tup os=>os.map val
 | _=> []
theorem jDN {n:Int}{o:Ob}(h:ordB n o=true):(obs o).Perm (upto n.toNat):=by
 cases o with
 | tup os=>
  have h:(decide ((os.length:Int)=n)&&os.all isInt&&decide (srt (os.map val)=upto n.toNat))=true:=h
  rw[aS,aS] at h
  have:=aO h.2
  show (os.map val).Perm _
  rw[<- this]
  exact(jDE _).symm
 | int i=>cases h
 | oth=>cases h
theorem jI8 {H:Hp}{n:Int}{o:Ob}{v:V}(h:ordB n o=true)(hA:At H o v):∃ a,v= .ref a/\H a=some (.tup ((obs o).map V.int)):=by
 obtain⟨os,a,vs,rfl,rfl,ha,h100,hx⟩:=hA.tupOf (by cases o with | tup os=>rfl | int i=>cases h | oth=>cases h)
 have h:(decide ((os.length:Int)=n)&&os.all isInt&&decide (srt (os.map val)=upto n.toNat))=true:=h
 rw[aS,aS] at h
 refine⟨a,rfl,?_⟩
 rw[ha,hx.allInt h.1.2]
 rfl
abbrev nAnew:List Str:=["box","things","pieces"]
theorem scAnew:FnScope nAnew ["box","things","pieces"] (j9 sAnew):=⟨rfl,rfl,rfl,by decide+kernel,rfl,by decide+kernel,by decide+kernel⟩
def y9 (tb:Addr):Sp:=fun vs H Q E=>∃ (b:Addr) (v1 v2:V) (o1 o2:Ob) (w:Int) (ms:List Int) (pcs:List (List Int×Int)),vs=[.ref b,v1,v2]/\BoxAt H b w ms pcs/\Good 16 32 w ms pcs/\At H o1 v1/\At H o2 v2/\TabP H tb/\
 (ordB w o1=true->ordB pcs.length o2=true->∀ r H',BoxAt H' r (obs o1).length (nmd (obs o1) ms) (pick (obs o1) pcs (obs o2))->ExtT tb H H'->TabP H' tb->Q (.ref r) H')/\(ordB w o1=false\/ordB pcs.length o2=false->∀ a H',Ext H H'->E (.ref a) (some a) H')
abbrev XOfX (C:Addr)(N:List Str)(q:Str)(st:Stmt)(P:Program)(w:World)(K:W.Frag)(mg:Str->Option Value)(base:Heap)(f:Addr)(cdv:Value)(A:Around)(outer:List Env)(s:Shared)(H:Hp)(E:XK):Cx:=cxOf (CXX P w C) P w K mg base N q (j9 st) f cdv A outer s H E
def anewA (T:Txt mg)(CO:Can P w K mg base "is_order" 2 fO fdO ["thing","many"] spOrd)(CK:Can P w K mg base "picked" 2 fK fdK ["box","things","pieces"] (jC9 tb))(EK:ExcK K cE)(MX:mg "NoOrder" =some (.ref cE))(hr:Room 2 (XOfX cE nAnew "named_anew" sAnew P w K mg base f cdv A outer s H0 E).nox.A): { t:TS // JSs (XOfX cE nAnew "named_anew" sAnew P w K mg base f cdv A outer s H0 E) (jD sAnew) t} :=
 have nd:=scAnew.nd
 ⟨_,(jF (qD (JT.nox (jB0 (jAZ (CO.je (hr.mono (by decide)) (gl_x (by decide+kernel)) (j4 (jv 1 rfl (vis_x (by decide+kernel))) (j4 (kS kR (jv 0 rfl (vis_x (by decide+kernel))) (jE) jQ) j8 jW) j6) j6) jA8))) (jJ (jEM rfl EK (gl_x (by decide+kernel)) MX (j4 jJ6 j8 jH))) yP) (jF (qD (JT.nox (jB0 (jAZ (CO.je (hr.mono (by decide)) (gl_x (by decide+kernel)) (j4 (jv 2 rfl (vis_x (by decide+kernel))) (j4 (jG jP (gl_x (by decide+kernel)) T.len (by decide+kernel) (j4 (kS kR (jv 0 rfl (vis_x (by decide+kernel))) (jE) jQ) j8 jW) jW) j8 jC) j6) j6) jA8))) (jJ (jEM rfl EK (gl_x (by decide+kernel)) MX (j4 jJ6 j8 jH))) yP) (JSs.nox (jJ (kN (CK.je (hr.mono (by decide)) (gl_x (by decide+kernel)) (j4 (jv 0 rfl (vis_x (by decide+kernel))) (j4 (jv 1 rfl (vis_x (by decide+kernel))) (j4 (jv 2 rfl (vis_x (by decide+kernel))) j8 j6) j6) j6) j6))))))⟩
theorem jKL {fd:FuncData}(F:Fun K "named_anew" "named_anew" sAnew f fd)(T:Txt mg)(CO:Can P w K mg base "is_order" 2 fO fdO ["thing","many"] spOrd)(CK:Can P w K mg base "picked" 2 fK fdK ["box","things","pieces"] (jC9 tb))(EK:ExcK K cE)(MX:mg "NoOrder" =some (.ref cE)):FnOk P w K mg base (CXX P w cE) 3 f fd ["box","things","pieces"] (y9 tb):=by
 refine F.okX scAnew (fun vs H Q E h=>?_) (fun cdv A outer s H vs Q E hr h=>?_)
 ·obtain⟨_,_,_,_,_,_,_,_,rfl,_⟩:=h
  rfl
 ·obtain⟨b,v1,v2,o1,o2,w,ms,pcs,rfl,hB,g,hA1,hA2,tab,q,qE⟩:=h
  refine⟨_,(anewA T CO CK EK MX hr).2.h,?_⟩
  obtain⟨qm,qp,ps,b1,b2,b3,b4⟩:=id hB.ex
  have pl:=b4.len
  have w0:=g.w0
  have w1:=g.w1
  have gpl:=g.pl
  refine⟨_,rfl,_,rfl,b,_,0,_,rfl,rfl,SqT.of b1,rfl,v1,o1,_,rfl,hA1,w0,by omega,fun H1 e1=>⟨_,rfl,?_⟩⟩
  cases h1:ordB w o1 with
  | false=>exact iteT ⟨by show (1:Nat)<=_; decide,fun a=>qE (.inl h1) a H1 e1⟩
  | true=>
  refine iteF ?_
  refine⟨_,rfl,_,rfl,b,_,2,_,rfl,rfl,SqT.of (e1 _ _ b1),rfl,qp,_,rfl, .inr (SqT.of (e1 _ _ b3)),v2,o2,_,rfl,hA2.ext e1,by omega,by omega,fun H2 e2=>⟨_,rfl,?_⟩⟩
  rw[pl]
  have E2:=e1.trans e2
  cases h2:ordB pcs.length o2 with
  | false=>exact iteT ⟨by show (1:Nat)<=_; decide,fun a=>qE (.inr h2) a H2 E2⟩
  | true=>
  refine iteF ?_
  have q:=q h1 h2
  obtain⟨a1,rfl,ha1⟩:=jI8 h1 hA1
  obtain⟨a2,rfl,ha2⟩:=jI8 h2 hA2
  have p1:=jDN h1
  have p2:=jDN h2
  have l1:=p1.length_eq
  have l2:=p2.length_eq
  rw[kX] at l1 l2
  refine⟨_,rfl,_,rfl,_,rfl,b,a1,a2,true,true,w,ms,pcs,obs o1,obs o2,rfl,hB.mono E2.tups,E2 _ _ ha1,E2 _ _ ha2,p1.nodup_iff.mpr (jBM _),by omega,?_,pc_lt g,fun k hk=>?_,by omega,tab.ext E2,fun r1 H8 B8 e8 t8=>?_⟩
  ·have:=jCP g.mr.ris g.mr.bnd w1
   omega
  ·have:=(jAV _).bnd k (p2.mem_iff.mp hk)
   omega
  exact q r1 H8 B8 ((ExtT.of E2).trans e8) t8
end
theorem jFK (n:Nat):yI n=(upto n).map V.int:=by
 unfold yI upto
 rw[ce]
 rfl
theorem jEU:∀ (l:List Int) (j:Nat),(l.map V.int).eraseIdx j=(l.eraseIdx j).map V.int
 | [],_=>rfl
 | _::_,0=>rfl
 | a::l,j+1=>bF (V.int a:: ·) (jEU l j)
theorem jAX:∀ (l:List Int) (j:Nat) (h:j<l.length),(l[j]::l.eraseIdx j).Perm l
 | a::l,0,_=>List.Perm.refl _
 | a::l,j+1,h=>(List.Perm.swap a _ _).trans ((jAX l j (Nat.lt_of_succ_lt_succ h)).cons a)
theorem jHV {j n:Nat}(h:j<n):seqIndex? (j:Int) n=some j:=by
 unfold seqIndex?
 dsimp only
 rw[show (if (j:Int)<0 then (j:Int)+(n:Int) else (j:Int))=(j:Int) from az (by omega)]
 have:(decide (0<=(j:Int))&&decide ((j:Int)<n))=true:=by
  rw[aY (by omega),aY (by omega)]
  rfl
 rw[aA this,bj]
section
variable {P:Program}{w:World}{K:W.Frag}{mg:Str->Option Value}{base:Heap}
variable {f fT:Addr}{fdT:FuncData}{cdv:Value}{A:Around}{outer:List Env}{s:Shared}{H0:Hp}{E:XK}
abbrev jFH:List Str:=["pot","wide","left","found","k"]
theorem scWOrder:FnScope jFH ["pot","wide"] (j9 jA9):=⟨rfl,rfl,rfl,by decide+kernel,rfl,by decide+kernel,by decide+kernel⟩
def kZ:Sp:=fun vs H Q _=>∃ (p:Addr) (N n:Int),vs=[.ref p, .int n]/\H p=some (.lst [.int N])/\0<=N/\0<=n/\n<=32/\
 ∀ (r:Addr) (ks:List Int) (N':Int) (H':Hp),H' r=some (.tup (ks.map V.int))->ks.Perm (upto n.toNat)->H' p=some (.lst [.int N'])->0<=N'->Keep H H' p->Q (.ref r) H'
def jLM (T:Txt mg)(CT:Can P w K mg base "_law_take" 1 fT fdT ["pot","wide"] kG)(hr:Room 1 (XOf jFH "_law_order" jA9 P w K mg base f cdv A outer s H0 E).A): { t:TS // JSs (XOf jFH "_law_order" jA9 P w K mg base f cdv A outer s H0 E) (jD jA9) t} :=
 have nd:=scWOrder.nd
 ⟨_,(jF (jT (i:=2) nd rfl lL (jI (jAU rfl) gD T.list (by decide+kernel) (j4 (jI jA6 gD T.range (by decide+kernel) (j4 (jv 1 rfl vL) j8 j6) j6) j8 jC) jC) jX)
   (jF (jT (i:=3) nd rfl lL (jAN j8) jD5)
   (jF (jEN cz rfl (jCT gD T.range (j4 (jv 1 rfl vL) j8 j6) j6) (kL (i:=4) nd rfl lL) (jJ (jCS (je_bm bp cj ck jAF (jv 3 rfl vL) (j4 (je_bm bp PySem.F.slot_list_pop PySem.F.type_list_pop jKN (jv 2 rfl vL) (j4 (CT.je hr gD (j4 (jv 0 rfl vL) (j4 (jG jP gD T.len (by decide+kernel) (j4 (jv 2 rfl vL) j8 j6) j6) j8 jC) j6) j6) j8 jC) jC) j8 jC) jC) jX)) jBX)
   (jJ (kN (jI jL gD T.tuple (by decide+kernel) (j4 (jv 3 rfl vL) j8 j6) j6))))))⟩
theorem jIC {fd:FuncData}(F:Fun K "_law_order" "_law_order" jA9 f fd)(T:Txt mg)(CT:Can P w K mg base "_law_take" 1 fT fdT ["pot","wide"] kG):FnOk P w K mg base CX0 2 f fd ["pot","wide"] kZ:=by
 refine F.ok scWOrder (fun vs H Q E h=>?_) (fun cdv A outer s H vs Q E hr h=>?_)
 ·obtain⟨_,_,_,rfl,_⟩:=h
  rfl
 ·obtain⟨p,N,n,rfl,hp,hN,n0,n1,q⟩:=h
  refine⟨_,(jLM T CT hr).2.h,?_⟩
  refine⟨_,rfl,n,rfl,fun rg hrg=>?_⟩
  have e1:Ext H (L2.upd H rg (.rng 0 n)):=(Ext.refl _).new hrg _
  have d1:(L2.upd H rg (.rng 0 n)) rg=some (.rng 0 n):=j7
  generalize L2.upd H rg (.rng 0 n)=H1 at e1 d1
  refine⟨rg,n,rfl,d1,n0,by omega,fun l hl=>?_⟩
  rw[jFK]
  have e2:Ext H1 (L2.upd H1 l (.lst ((upto n.toNat).map V.int))):=(Ext.refl _).new hl _
  have d2:(L2.upd H1 l (.lst ((upto n.toNat).map V.int))) l=some (.lst ((upto n.toNat).map V.int)):=j7
  have nl:H l=none:=by
   cases z:H l with
   | none=>rfl
   | some o=>rw[e1 _ _ z] at hl; cases hl
  generalize L2.upd H1 l (.lst ((upto n.toNat).map V.int))=H2 at e2 d2
  have E2:=e1.trans e2
  refine⟨by show (0:Nat)<=_; decide,fun m H3 d3 e3 n3=>?_⟩
  have E3:=E2.trans e3
  have nm:H m=none:=by
   cases z:H m with
   | none=>rfl
   | some o=>rw[E2 _ _ z] at n3; cases n3
  have lm:l≠m:=fun z=>by rw[<- z,d2] at n3; cases n3
  have lp:l≠p:=fun z=>by rw[z,hp] at nl; cases nl
  have mp:m≠p:=fun z=>by rw[z,hp] at nm; cases nm
  refine⟨_,rfl,n,rfl,by omega,by omega,jBG (n:=n.toNat) (fun i σ H'=>(∃ v4,σ=[some (.ref p),some (.int n),some (.ref l),some (.ref m),v4])/\Keep H H' p/\(∃ N',H' p=some (.lst [.int N'])/\0<=N')/\∃ ls fs:List Int,H' l=some (.lst (ls.map V.int))/\H' m=some (.lst (fs.map V.int))/\ls.length+i=n.toNat/\(fs++ls).Perm (upto n.toNat)) ⟨⟨_,rfl⟩,fun c o h _=>E3 _ _ h,⟨N,E3 _ _ hp,hN⟩,_,[],e3 _ _ d2,d3,by rw[kX]; rfl,List.Perm.refl _⟩ ?_ ?_⟩
  ·rintro i σ H' hi ⟨⟨v4,rfl⟩,kp,⟨N',hp',hN'⟩,ls,fs,hl',hm',len,pm⟩
   have lpos:0<ls.length:=by omega
   have flen:fs.length+ls.length=n.toNat:=by
    have:=pm.length_eq
    rw[al,kX] at this
    exact this
   refine⟨_,rfl, .inl ⟨rfl,_,SqL.of hm'⟩,_,rfl, .inl ⟨rfl,_,SqL.of hl'⟩,_,rfl,_,rfl,l,_,rfl, .inl (SqL.of hl'),p,N',_,rfl,hp',hN',by rw[ae]; omega,by rw[ae]; omega,fun N2 r a1 a2 a3=>?_⟩
   rw[ae] at a3
   obtain⟨j,rfl⟩:∃ j:Nat,r=(j:Int):=⟨r.toNat,by omega⟩
   have hj:j<ls.length:=by omega
   have hl2:(L2.upd H' p (.lst [.int N2])) l=some (.lst (ls.map V.int)):=by rw[jA lp]; exact hl'
   have hm2:(L2.upd H' p (.lst [.int N2])) m=some (.lst (fs.map V.int)):=by rw[jA mp]; exact hm'
   have hp2:(L2.upd H' p (.lst [.int N2])) p=some (.lst [.int N2]):=j7
   have kp2:Keep H (L2.upd H' p (.lst [.int N2])) p:=kp.upd _
   generalize L2.upd H' p (.lst [.int N2])=H4 at hl2 hm2 hp2 kp2
   refine⟨l,_,_,j, .int ls[j],rfl,rfl,hl2,by omega,by omega,?_,?_,?_⟩
   ·rw[ae]
    exact jHV hj
   ·rw[aG,bh hj]
    rfl
   have hl5:(L2.upd H4 l (.lst ((ls.map V.int).eraseIdx j))) l=some (.lst ((ls.eraseIdx j).map V.int)):=by rw[j7,jEU]
   have hm5:(L2.upd H4 l (.lst ((ls.map V.int).eraseIdx j))) m=some (.lst (fs.map V.int)):=by rw[jA lm.symm]; exact hm2
   have hp5:(L2.upd H4 l (.lst ((ls.map V.int).eraseIdx j))) p=some (.lst [.int N2]):=by rw[jA lp.symm]; exact hp2
   have kp5:Keep H (L2.upd H4 l (.lst ((ls.map V.int).eraseIdx j))) p:=kp2.updNew nl _
   generalize L2.upd H4 l (.lst ((ls.map V.int).eraseIdx j))=H5 at hl5 hm5 hp5 kp5
   refine⟨m,_,_,rfl,rfl,hm5,by rw[ae,aD]; omega,⟨_,rfl⟩,kp5.updNew nm _,⟨N2,by rw[jA mp.symm]; exact hp5,a1⟩,ls.eraseIdx j,fs++[ls[j]],by rw[jA lm]; exact hl5,by rw[j7,au]; rfl,by rw[el hj]; omega,?_⟩
   refine List.Perm.trans ?_ pm
   rw[eU]
   exact gc fs (jAX ls j hj)
  ·rintro σ H' ⟨⟨v4,rfl⟩,kp,⟨N',hp',hN'⟩,ls,fs,hl',hm',len,pm⟩
   have:ls=[]:=List.eq_nil_of_length_eq_zero (by omega)
   subst this
   rw[bn] at pm
   refine⟨_,rfl,m,_,rfl, .inl ⟨SqL.of hm',fun r hr'=>?_⟩⟩
   have rp:r≠p:=fun z=>by rw[z,hp'] at hr'; cases hr'
   exact q r fs N' _ j7 pm (by rw[jA rp.symm]; exact hp') hN' (kp.new hr' _)
end
section
variable {P:Program}{w:World}{K:W.Frag}{mg:Str->Option Value}{base:Heap}
variable {f:Addr}{cdv:Value}{A:Around}{outer:List Env}{s:Shared}{H0:Hp}{E:XK}
abbrev jDQ:List Str:=["box","things","pieces","told","k"]
theorem scWNamed:FnScope jDQ ["box","things","pieces"] (j9 yL):=⟨rfl,rfl,rfl,by decide+kernel,rfl,by decide+kernel,by decide+kernel⟩
def y0:Sp:=fun vs H Q _=>∃ (b a1 a2:Addr) (w:Int) (ms:List Int) (pcs:List (List Int×Int)) (ts ks:List Int),vs=[.ref b, .ref a1, .ref a2]/\BoxAt H b w ms pcs/\Good 16 32 w ms pcs/\H a1=some (.tup (ts.map V.int))/\H a2=some (.tup (ks.map V.int))/\ts.Perm (upto w.toNat)/\ks.Perm (upto pcs.length)/\
 ∀ r H',BoxAt H' r ts.length (nmd ts ms) (pick ts pcs ks)->Ext H H'->Q (.ref r) H'
def jLN (T:Txt mg): { t:TS // JSs (XOf jDQ "_law_named" yL P w K mg base f cdv A outer s H0 E) (jD yL) t} :=
 have nd:=scWNamed.nd
 ⟨_,(jF (jT (i:=3) nd rfl lL (jAN j8) jD5)
   (jF (jEN cz rfl (jB1 (jv 2 rfl vL)) (kL (i:=4) nd rfl lL) (jJ (jCS (je_bm bp cj ck jAF (jv 3 rfl vL) (j4 (jY (j4 (jI jL gD T.tuple (by decide+kernel) (j4 (jG jAT gD T.sorted (by decide+kernel) (j4 (jAE (m:=[none,some 1]) (Nc:=["t","things"]) rfl (jB1 (kS kR (kS kR (kS kR (jv 0 rfl vL) (jE) jQ) (jv 4 rfl vL) jCI) (jE) jQ)) rfl (by decide+kernel) (by decide+kernel) (kQ (psc:=j9 yL) (by decide+kernel)) (jZ (N:=jDQ) rfl rfl (by decide+kernel)) (fun cl C fp s H=>kL (i:=0) (show (["t","things"]:List Str).Nodup by decide+kernel) rfl (qB (by decide+kernel))) (fun cl C fp s H=>jAB) (fun cl C fp s H=>(jLI fi fj jEH (jv 1 rfl (jB7 (by decide+kernel))) (j4 (jv 0 rfl (y6 (by decide+kernel))) j8 j6) j6)) jJG) j8 jV) jV) j8 jC) jC) (j4 (kS kR (kS kR (kS kR (jv 0 rfl vL) (jE) jQ) (jv 4 rfl vL) jCI) (jE) jQ) j8 jW) jC)) j8 jBB) jBB) jX)) jB6)
   (jJ (kN (jY (j4 (kS kR (jv 0 rfl vL) (jE) jQ) (j4 (jI jL gD T.tuple (by decide+kernel) (j4 (jG jAT gD T.sorted (by decide+kernel) (j4 (jAE (m:=[none,some 1]) (Nc:=["t","things"]) rfl (jB1 (kS kR (jv 0 rfl vL) (jE) jQ)) rfl (by decide+kernel) (by decide+kernel) (kQ (psc:=j9 yL) (by decide+kernel)) (jZ (N:=jDQ) rfl rfl (by decide+kernel)) (fun cl C fp s H=>kL (i:=0) (show (["t","things"]:List Str).Nodup by decide+kernel) rfl (qB (by decide+kernel))) (fun cl C fp s H=>jAB) (fun cl C fp s H=>(jLI fi fj jEH (jv 1 rfl (jB7 (by decide+kernel))) (j4 (jv 0 rfl (y6 (by decide+kernel))) j8 j6) j6)) jJG) j8 jV) jV) j8 jC) jC) (j4 (jI jL gD T.tuple (by decide+kernel) (j4 (jv 3 rfl vL) j8 j6) j6) j8 jC) jC) jW))))))⟩
theorem jID {fd:FuncData}(F:Fun K "_law_named" "_law_named" yL f fd)(T:Txt mg):FnOk P w K mg base CX0 1 f fd ["box","things","pieces"] y0:=by
 refine F.ok scWNamed (fun vs H Q E h=>?_) (fun cdv A outer s H vs Q E hr h=>?_)
 ·obtain⟨_,_,_,_,_,_,_,_,rfl,_⟩:=h
  rfl
 ·obtain⟨b,a1,a2,w,ms,pcs,ts,ks,rfl,hB,g,h1,h2,p1,p2,q⟩:=h
  refine⟨_,(jLN T).2.h,?_⟩
  obtain⟨qm,qp,ps,b1,b2,b3,b4⟩:=id hB.ex
  have pl:=b4.len
  have w0:=g.w0
  have w1:=g.w1
  have gpl:=g.pl
  have l1:=p1.length_eq
  have l2:=p2.length_eq
  rw[kX] at l1 l2
  have inT:∀ x:Int,0<=x->x<w->x∈ts:=fun x h0 h1=>p1.mem_iff.mpr (mem_upto.mpr ⟨h0,by omega⟩)
  refine⟨by show (0:Nat)<=_; decide,fun m H2 d2 e2 n2=>?_⟩
  refine⟨_,rfl,a2,rfl,⟨_,SqT.of (e2 _ _ h2)⟩,jMT (xs:=ks.map V.int) (fun i σ H'=>(∃ v4,σ=[some (.ref b),some (.ref a1),some (.ref a2),some (.ref m),v4])/\Ext H H'/\∃ zs,H' m=some (.lst zs)/\PcsAt H' zs (pick ts pcs (ks.take i))) ⟨⟨_,rfl⟩,e2,[],d2,trivial⟩ (fun i σ H' _ ⟨_,e,_⟩=>SqT.of (e _ _ h2)) ?_ ?_⟩
  ·rintro i x σ H' hx ⟨⟨v4,rfl⟩,e,zs,h3,pz⟩
   obtain⟨k,hk,rfl⟩:∃ z:Int,ks[i]?=some z/\V.int z=x:=by
    rw[aG] at hx
    cases hq:ks[i]? with
    | none=>rw[hq] at hx; cases hx
    | some z=>rw[hq] at hx; cases hx; exact⟨z,rfl,rfl⟩
   have kb:=(jAV pcs.length).bnd k (p2.mem_iff.mp (aW hk))
   obtain⟨pa,pq,g1,g2,g3⟩:=jEC b4 kb.1 kb.2
   have gp:=g.at (k:=k.toNat) (by omega)
   have l16:=jD4 g kb.1 kb.2
   have hs:∀ x∈jO pcs k,x∈ts:=fun x hx=>inT x (gp.lot.bnd x hx).1 (gp.lot.bnd x hx).2
   refine⟨_,rfl, .inl ⟨rfl,_,SqL.of h3⟩,_,rfl,b,_,2,_,rfl,rfl,SqT.of (e _ _ b1),rfl,_,rfl,qp,_,k,_,rfl,rfl,SqT.of (e _ _ b3),g1,pa,_,0,_,rfl,rfl,SqT.of (e _ _ g2),rfl,pq,rfl,⟨_,SqT.of (e _ _ g3)⟩,jGG (e _ _ g3) (e _ _ h1) (by omega) hs rfl fun D2 HA kA eA nA=>?_⟩
   refine⟨D2,_,rfl,SqL.of kA,by rw[ae]; omega,fun l ns hl ple pm=>?_⟩
   have en:ns=nmd ts (jO pcs k):=by
    unfold nmd
    rw[jG3 hs]
    exact jE6 ple pm
   subst en
   have eB:Ext HA (L2.upd HA l (.lst ((nmd ts (jO pcs k)).map V.int))):=(Ext.refl _).new hl _
   have dB:(L2.upd HA l (.lst ((nmd ts (jO pcs k)).map V.int))) l=some (.lst ((nmd ts (jO pcs k)).map V.int)):=j7
   generalize L2.upd HA l (.lst ((nmd ts (jO pcs k)).map V.int))=HB at eB dB
   refine⟨l,_,rfl, .inl ⟨SqL.of dB,fun r hr'=>?_⟩⟩
   have eC:Ext HB (L2.upd HB r (.tup ((nmd ts (jO pcs k)).map V.int))):=(Ext.refl _).new hr' _
   have dC:(L2.upd HB r (.tup ((nmd ts (jO pcs k)).map V.int))) r=some (.tup ((nmd ts (jO pcs k)).map V.int)):=j7
   show tCons _ _ _ (L2.upd HB r (.tup ((nmd ts (jO pcs k)).map V.int))) _
   generalize L2.upd HB r (.tup ((nmd ts (jO pcs k)).map V.int))=HC at eC dC
   have eAC:=(eA.trans eB).trans eC
   have E3:=e.trans eAC
   refine⟨_,rfl,b,_,2,_,rfl,rfl,SqT.of (E3 _ _ b1),rfl,_,rfl,qp,_,k,_,rfl,rfl,SqT.of (E3 _ _ b3),g1,pa,_,1,_,rfl,rfl,SqT.of (E3 _ _ g2),rfl,by show (2:Nat)<=_; decide,fun r3 HD dD eD=>?_⟩
   have hDD:=eD _ _ (eAC _ _ h3)
   refine⟨m,_,_,rfl,rfl,hDD,?_,⟨_,rfl⟩,(E3.trans eD).updNew n2 _,_,j7,?_⟩
   ·rw[pz.len]
    unfold pick
    rw[ae]
    have:=bz i ks
    have:=aP (i:=i) (l:=ks)
    rw[aD]
    omega
   have ez:pick ts pcs (ks.take (i+1))=pick ts pcs (ks.take i)++[(nmd ts (jO pcs k),(pcs.getD k.toNat ([],0)).2)]:=by
    unfold pick
    rw[cb,hk,au]
    rfl
   rw[ez]
   exact PcsAt.mono (Tups.upd hDD _) (PcsAt.snoc (p:=(nmd ts (jO pcs k),(pcs.getD k.toNat ([],0)).2)) ⟨r3,r,rfl,dD,eD _ _ dC⟩ (pz.mono (eAC.trans eD).tups))
  ·rintro σ H3 ⟨⟨v4,rfl⟩,e3,zs,h3,pz⟩
   rw[ae,cq] at pz
   have lm:=jCP g.mr.ris g.mr.bnd w1
   have hs:∀ x∈ms,x∈ts:=fun x hx=>inT x (g.mr.bnd x hx).1 (g.mr.bnd x hx).2
   refine⟨_,rfl,b,_,0,_,rfl,rfl,SqT.of (e3 _ _ b1),rfl,_,rfl,b,_,1,_,rfl,rfl,SqT.of (e3 _ _ b1),rfl,qm,rfl,⟨_,SqT.of (e3 _ _ b2)⟩,jGG (e3 _ _ b2) (e3 _ _ h1) (by omega) hs rfl fun D2 HA kA eA nA=>?_⟩
   refine⟨D2,_,rfl,SqL.of kA,by rw[ae]; omega,fun l ns hl ple pm=>?_⟩
   have en:ns=nmd ts ms:=by
    unfold nmd
    rw[jG3 hs]
    exact jE6 ple pm
   subst en
   have eB:Ext HA (L2.upd HA l (.lst ((nmd ts ms).map V.int))):=(Ext.refl _).new hl _
   have dB:(L2.upd HA l (.lst ((nmd ts ms).map V.int))) l=some (.lst ((nmd ts ms).map V.int)):=j7
   generalize L2.upd HA l (.lst ((nmd ts ms).map V.int))=HB at eB dB
   refine⟨l,_,rfl, .inl ⟨SqL.of dB,fun r hr'=>?_⟩⟩
   have eC:Ext HB (L2.upd HB r (.tup ((nmd ts ms).map V.int))):=(Ext.refl _).new hr' _
   have dC:(L2.upd HB r (.tup ((nmd ts ms).map V.int))) r=some (.tup ((nmd ts ms).map V.int)):=j7
   show tCons _ _ _ (L2.upd HB r (.tup ((nmd ts ms).map V.int))) _
   generalize L2.upd HB r (.tup ((nmd ts ms).map V.int))=HC at eC dC
   have eAC:=(eA.trans eB).trans eC
   have hC3:=eAC _ _ h3
   refine⟨_,rfl,m,_,rfl, .inl ⟨SqL.of hC3,fun r4 hr4=>?_⟩⟩
   have eD:Ext HC (L2.upd HC r4 (.tup zs)):=(Ext.refl _).new hr4 _
   have dD:(L2.upd HC r4 (.tup zs)) r4=some (.tup zs):=j7
   generalize L2.upd HC r4 (.tup zs)=HD at eD dD
   refine⟨by show (3:Nat)<=_; decide,fun r5 HE dE eE=>?_⟩
   have eAE:=(eAC.trans eD).trans eE
   have ew:(ts.length:Int)=w:=by omega
   rw[ew] at q
   exact q r5 HE ⟨r,r4,zs,dE,eE _ _ (eD _ _ dC),eE _ _ dD,pz.mono eAE.tups⟩ (e3.trans eAE)
end
def OddV (H:Hp)(n:Nat)(v:V):Prop:=∃ o,At H o v/\(ordB n o=false\/∃ p,v= .ref p/\H p=some (.tup []))
theorem OddV.mono {H H':Hp}(k:Kp H H'){n:Nat}{v:V}(h:OddV H n v):OddV H' n v:=by
 obtain⟨o,h1,h2⟩:=h
 refine⟨o,At.mono k o v h1,h2.imp id fun ⟨p,e,h⟩=>⟨p,e,k.t _ _ h⟩⟩
theorem jB5 {H:Hp}{n:Nat}{a:Addr}{vs:List V}{os:List Ob}(h:H a=some (.tup vs))(l:vs.length<=100)(r:Ats H os vs)(ne:vs.length≠n):OddV H n (.ref a):=⟨.tup os,jBK h l r, .inl (by
 have:=r.len
 show (decide ((os.length:Int)=n)&&_&&_)=false
 rw[ba (by omega)]
 rfl)⟩
theorem jDO {H:Hp}{n:Nat}{a:Addr}{ks:List Int}(h:H a=some (.tup (ks.map V.int)))(l:ks.length<=100)(ne:¬ ks.Perm (upto n)):OddV H n (.ref a):=⟨.tup (ks.map Ob.int),jBK h (by rw[ae]; exact l) (Ats.ints ks), .inl (by
 refine eX.mpr fun z=>ne ?_
 have:=jDN z
 rw[bj] at this
 have e:Eo.obs (.tup (ks.map Ob.int))=ks:=by
  show (ks.map Ob.int).map val=ks
  rw[ce]
  exact map_id _
 rw[e] at this
 exact this)⟩
theorem jFG {H:Hp}{n:Nat}{a:Addr}{vs:List V}{os:List Ob}(h:H a=some (.tup vs))(l:vs.length<=100)(r:Ats H os vs)(ne:os.all isInt=false):OddV H n (.ref a):=⟨.tup os,jBK h l r, .inl (by
 show (_&&os.all isInt&&_)=false
 rw[ne,bQ]
 rfl)⟩
theorem jFU {H:Hp}{α:Type}(f:α->Ob)(v:α->V)(h:∀ x,At H (f x) (v x)):∀ l:List α,Ats H (l.map f) (l.map v)
 | []=>ats0 _
 | x::l=>ats1 (h x) (jFU f v h l)
section
variable {P:Program}{w:World}{K:W.Frag}{mg:Str->Option Value}{base:Heap}
variable {f fT:Addr}{fdT:FuncData}{cdv:Value}{A:Around}{outer:List Env}{s:Shared}{H0:Hp}{E:XK}
abbrev nOdd:List Str:=["pot","order","some"]
theorem scOdd:FnScope nOdd ["pot","order"] (j9 sOdd):=⟨rfl,rfl,rfl,by decide+kernel,rfl,by decide+kernel,by decide+kernel⟩
def qA:Sp:=fun vs H Q _=>∃ (p a:Addr) (N:Int) (n:Nat) (ks:List Int),vs=[.ref p, .ref a]/\H p=some (.lst [.int N])/\0<=N/\H a=some (.tup (ks.map V.int))/\ks.Perm (upto n)/\n<=32/\
 ∀ (v:V) (N':Int) (H':Hp),OddV H' n v->H' p=some (.lst [.int N'])->0<=N'->Keep H H' p->Q v H'
def oddTA (T:Txt mg)(CT:Can P w K mg base "_law_take" 1 fT fdT ["pot","wide"] kG)(hr:Room 1 (XOf nOdd "_law_odd" sOdd P w K mg base f cdv A outer s H0 E).A): { t:TS // JSs (XOf nOdd "_law_odd" sOdd P w K mg base f cdv A outer s H0 E) ((jD sOdd).drop 4) t} :=
 have nd:=scOdd.nd
 ⟨_,(jJ (kN (kS jBT (jv 2 rfl vL) (CT.je hr gD (j4 (jv 0 rfl vL) (j4 (jG jP gD T.len (by decide+kernel) (j4 (jv 2 rfl vL) j8 j6) j6) j8 jC) j6) j6) jI0)))⟩
def oddIA (T:Txt mg)(CT:Can P w K mg base "_law_take" 1 fT fdT ["pot","wide"] kG)(hr:Room 1 (XOf nOdd "_law_odd" sOdd P w K mg base f cdv A outer s H0 E).A): { t:TS // JSs (XOf nOdd "_law_odd" sOdd P w K mg base f cdv A outer s H0 E) ((jD sOdd).drop 3) t} :=
 have nd:=scOdd.nd
 ⟨_,(jF (qD (yO op_gt (jG jP gD T.len (by decide+kernel) (j4 (jv 1 rfl vL) j8 j6) j6) (jE) (kU _)) (jF (jT (i:=2) nd rfl lL (y4 jCC (jv 2 rfl vL) (jAN (j4 (y4 jAR (jA2 jAQ (jv 1 rfl vL) jAC (yQ (je_un jE4 (jE)))) (jA2 jAQ (jv 1 rfl vL) jAC (yQ (jE)))) (j4 (jA2 jAQ (jv 1 rfl vL) jAC (yQ (je_un jE4 (jE)))) (j4 (y4 jAR (jA2 jAQ (jv 1 rfl vL) jAC (yQ (je_un jE4 (jE)))) (jY (j4 (jG jP gD T.len (by decide+kernel) (j4 (jv 1 rfl vL) j8 j6) j6) j8 jC))) (j4 (y4 jAR (jA2 jAQ (jv 1 rfl vL) jAC (yQ (je_un jE4 (jE)))) (jY (j4 (y4 jCL (jE) (jE)) j8 y8))) j8 y8) y8) jW) y8))) jE5)
   (jJ (jCS (je_bm bp cj ck jAF (jv 2 rfl vL) (j4 (jI jL gD T.tuple (by decide+kernel) (j4 (jAE (m:=[none]) (Nc:=["k"]) rfl (jB1 (jv 1 rfl vL)) rfl (by decide+kernel) (by decide+kernel) (kQ (psc:=j9 sOdd) (by decide+kernel)) (jZ (N:=nOdd) rfl rfl (by decide+kernel)) (fun cl C fp s H=>kL (i:=0) (show (["k"]:List Str).Nodup by decide+kernel) rfl (qB (by decide+kernel))) (fun cl C fp s H=>jAB) (fun cl C fp s H=>(jOF (yO op_lt (jv 0 rfl (y6 (by decide+kernel))) (jE) (kU _)) (jI jHG (gl_b (by decide+kernel)) T.bool (by decide+kernel) (j4 (jv 0 rfl (y6 (by decide+kernel))) j8 j6) j6) (jv 0 rfl (y6 (by decide+kernel))))) jB6) j8 jV) jV) j8 jC) jC) jX))) yP) (oddTA T CT hr).2)⟩
def oddA (T:Txt mg)(CT:Can P w K mg base "_law_take" 1 fT fdT ["pot","wide"] kG)(hr:Room 1 (XOf nOdd "_law_odd" sOdd P w K mg base f cdv A outer s H0 E).A): { t:TS // JSs (XOf nOdd "_law_odd" sOdd P w K mg base f cdv A outer s H0 E) (jD sOdd) t} :=
 have nd:=scOdd.nd
 ⟨_,(jF (jT (i:=2) nd rfl lL (jAN (j4 (jLH) (j4 (jI jHE gD T.list (by decide+kernel) (j4 (jv 1 rfl vL) j8 j6) j6) (j4 (y4 jAR (jv 1 rfl vL) (jY (j4 (jG jP gD T.len (by decide+kernel) (j4 (jv 1 rfl vL) j8 j6) j6) j8 jC))) (j4 (y4 jAR (jA2 jAQ (jv 1 rfl vL) (yQ (jE)) jAC) (y4 jI9 (jA2 jAQ (jv 1 rfl vL) jAC (yQ (jE))) (jE))) (j4 (jY (j4 (je_bl) j8 jH)) (j4 (jY (j4 (je_bl) j8 jH)) (j4 (jJ6) (j4 (jE) (j4 (jKT) j8 jLT) jH) jH) jBB) jBB) y8) y8) jC) jH)) jD5) (jF (jT (i:=2) nd rfl lL (y4 jCC (jv 2 rfl vL) (jAN (j4 (y4 jAR (jv 1 rfl vL) (jY (j4 (jE) j8 jH))) (j4 (y4 jI9 (jY (j4 (jLH) j8 jH)) (y4 yH (jG jP gD T.len (by decide+kernel) (j4 (jv 1 rfl vL) j8 j6) j6) (jE))) (j4 (y4 jAR (jI jL gD T.tuple (by decide+kernel) (j4 (jAE (m:=[none]) (Nc:=["k"]) rfl (jB1 (jv 1 rfl vL)) rfl (by decide+kernel) (by decide+kernel) (kQ (psc:=j9 sOdd) (by decide+kernel)) (jZ (N:=nOdd) rfl rfl (by decide+kernel)) (fun cl C fp s H=>kL (i:=0) (show (["k"]:List Str).Nodup by decide+kernel) rfl (qB (by decide+kernel))) (fun cl C fp s H=>jAB) (fun cl C fp s H=>(y4 jCL (y4 jCL (jE) (jE)) (jv 0 rfl (y6 (by decide+kernel))))) jB6) j8 jV) jV) (jY (j4 (jE) j8 jH))) j8 y8) y8) y8))) jE5) (jF (jCS (je_bm bp cj ck jAF (jv 2 rfl vL) (j4 (y4 jAR (jv 1 rfl vL) (jA2 jAQ (jv 1 rfl vL) jAC (yQ (jE)))) j8 y8) y8) jX) (oddIA T CT hr).2)))⟩
theorem jJP (l:List V):cutV l (some 1) none=l.drop 1:=by
 unfold cutV
 rw[show HT.sIx l.length 0 (some 1)=min 1 l.length from HT.sIx_nat _ _ 1,HT.sIx_none]
 cases l <;> simp
theorem jCX (l:List V):cutV l none (some 1)=l.take 1:=by
 unfold cutV
 rw[show HT.sIx l.length l.length (some 1)=min 1 l.length from HT.sIx_nat _ _ 1,HT.sIx_none]
 cases l <;> simp
theorem jCF (l:List V):cutV l none (some (-1))=l.dropLast:=by
 unfold cutV
 rw[HT.sIx_none]
 have:HT.sIx l.length l.length (some (-1))=l.length - 1:=by
  unfold HT.sIx
  simp
  omega
 rw[this,List.dropLast_eq_take]
 simp
theorem jEF (T:Txt mg)(CT:Can P w K mg base "_law_take" 1 fT fdT ["pot","wide"] kG)(hr:Room 1 (XOf nOdd "_law_odd" sOdd P w K mg base f cdv A outer s H0 E).A)
  {D:Ends}{H:Hp}{p l:Addr}{N:Int}{n:Nat}{L:List V}{v1:Option V}(hp:H p=some (.lst [.int N])) (hN:0<=N) (hl:H l=some (.lst L)) (lp:l≠p) (L0:0<L.length) (L1:L.length<=40) (bad:∀ v∈L,OddV H n v)
  (q:∀ (v:V) (N':Int) (H':Hp),OddV H' n v->H' p=some (.lst [.int N'])->0<=N'->Keep H H' p->D.rt v H'):
  (oddTA T CT hr).1 D [some (.ref p),v1,some (.ref l)] H:=by
 refine⟨_,rfl,_,rfl,_,rfl,l,_,rfl, .inl (SqL.of hl),p,N,_,rfl,hp,hN,by omega,by omega,fun N1 r a1 a2 a3=>?_⟩
 have kB:Keep H (L2.upd H p (.lst [.int N1])) p:=fun c o h n=>by rw[jA n]; exact h
 have pB:(L2.upd H p (.lst [.int N1])) p=some (.lst [.int N1]):=j7
 generalize L2.upd H p (.lst [.int N1])=HB at kB pB
 have lB:=kB _ _ hl lp
 obtain⟨v,hv1,hv2⟩:∃ v,atI L r=some v/\v∈L:=by
  have hr':r.toNat<L.length:=by omega
  refine⟨L[r.toNat],?_,cn hr'⟩
  have:=jFV (xs:=L) (j:=r.toNat) (v:=L[r.toNat]) (by simp [hr'])
  rw[show ((r.toNat:Nat):Int)=r by omega] at this
  exact this
 refine⟨l,_,r,v,rfl,rfl,SqL.of lB,hv1,?_⟩
 exact q v N1 HB ((bad v hv2).mono (Kp.keep kB hp pB)) pB a1 kB
theorem jDL {n:Nat}{ks:List Int}(pm:ks.Perm (upto n)){t:Int}(h:t∈ks):0<=t/\t<n:=mem_upto.mp (pm.mem_iff.mp h)
theorem jIJ (T:Txt mg)(CT:Can P w K mg base "_law_take" 1 fT fdT ["pot","wide"] kG)(hr:Room 1 (XOf nOdd "_law_odd" sOdd P w K mg base f cdv A outer s H0 E).A)
  {D:Ends}{H:Hp}{p a l:Addr}{N:Int}{n:Nat}{L:List V}{ks:List Int}(hp:H p=some (.lst [.int N])) (hN:0<=N) (ha:H a=some (.tup (ks.map V.int))) (pm:ks.Perm (upto n)) (n32:n<=32) (hl:H l=some (.lst L)) (lp:l≠p) (L0:0<L.length) (L1:L.length<=20) (bad:∀ v∈L,OddV H n v)
  (q:∀ (v:V) (N':Int) (H':Hp),OddV H' n v->H' p=some (.lst [.int N'])->0<=N'->Keep H H' p->D.rt v H'):
  (oddIA T CT hr).1 D [some (.ref p),some (.ref a),some (.ref l)] H:=by
 have kl:ks.length=n:=by rw[pm.length_eq,kX]
 have sz:∀ n:Nat,n<=64->n<=PySem.sizeLine:=fun n h=>by rw[aD]; omega
 refine⟨_,rfl,a,_,rfl, .inr (SqT.of ha),_,_,rfl,rfl,_,rfl,?_⟩
 refine ite2 (fun h1=>?_) (fun h1=>?_)
 ·have n2:1<n:=by
   have h1:=aO h1
   rw[ae] at h1
   omega
  refine⟨_,rfl,_,rfl,_,rfl,_,rfl,a,_,rfl,ha,fun q1 H1 d1 e1=>?_⟩
  rw[jCF,<- dg] at d1
  have dl:=List.length_dropLast (xs:=ks)
  refine⟨_,rfl,_,rfl,a,_,rfl,e1 _ _ ha,fun q2 H2 d2 e2=>?_⟩
  rw[jCX,<- fg] at d2
  have tl:(ks.take 1).length=1:=by rw[aP]; omega
  have e02:=e1.trans e2
  refine⟨q1,q2,_,_,rfl,rfl,e2 _ _ d1,d2,by rw[ae,ae]; exact sz _ (by omega),fun q3 H3 d3 e3=>?_⟩
  rw[<- au] at d3
  have e03:=e02.trans e3
  refine⟨_,rfl,_,rfl,_,rfl,a,_,rfl,e03 _ _ ha,fun q4 H4 d4 e4=>?_⟩
  rw[jCF,<- dg] at d4
  have e04:=e03.trans e4
  refine⟨_,rfl,_,rfl,_,rfl,a,_,rfl,e04 _ _ ha,fun q5 H5 d5 e5=>?_⟩
  rw[jCF,<- dg] at d5
  have e05:=e04.trans e5
  refine⟨_,rfl,a,_,rfl, .inr (SqT.of (e05 _ _ ha)),by show (1:Nat)<=_; decide,fun q6 H6 d6 e6=>?_⟩
  have e06:=e05.trans e6
  refine⟨q5,q6,_,_,rfl,rfl,e6 _ _ d5,d6,by rw[ae]; exact sz _ (by show _+1<=64; omega),fun q7 H7 d7 e7=>?_⟩
  have e07:=e06.trans e7
  refine⟨_,rfl,_,rfl,_,rfl,a,_,rfl,e07 _ _ ha,fun q8 H8 d8 e8=>?_⟩
  rw[jCF,<- dg] at d8
  have e08:=e07.trans e8
  refine⟨_,_,rfl,rfl,by show (1:Nat)<=_; decide,fun q9 H9 d9 e9=>?_⟩
  have e09:=e08.trans e9
  refine⟨q8,q9,_,_,rfl,rfl,e9 _ _ d8,d9,by rw[ae]; exact sz _ (by show _+1<=64; omega),fun qa HA dA eA=>?_⟩
  have e0A:=e09.trans eA
  refine⟨by show (4:Nat)<=_; decide,fun l2 HB dB eB nB=>?_⟩
  have e0B:=e0A.trans eB
  refine⟨l,l2,_,_,rfl,rfl,e0B _ _ hl,dB,sz _ (by show _+4<=64; omega),fun l3 HC dC eC nC=>?_⟩
  have e0C:=e0B.trans eC
  refine⟨_,rfl, .inl ⟨rfl,_,SqL.of dC⟩,_,rfl,a,rfl,⟨_,SqT.of (e0C _ _ ha)⟩,jGK (xs:=ks.map V.int) (fun σ=>∃ v,σ=[v]) (mapZ ks fun k=>if k<2 then V.bl (k != 0) else V.int k) (mapZ.ok _ _) (e0C _ _ ha) (by rw[ae,aD]; omega) ⟨_,rfl⟩ ?_ ?_⟩
  ·rintro j x σ' H' zs hx ⟨v,rfl⟩ e hz S1 S2 yes no
   obtain⟨z,hz',rfl⟩:=int_at hx
   dsimp only [yS,yY]
   rw[aA rfl]
   refine⟨_,rfl,_,_,rfl,rfl,_,rfl,?_⟩
   have hy:=hz.yes (H':=H') hz'
   refine ite2 (fun h=>?_) (fun h=>?_)
   ·have h:=aO h
    rw[aA h] at hy
    exact⟨_,rfl, .inl ⟨_,rfl,yes _ _ _ ⟨_,rfl⟩ (Ext.refl _) hy⟩⟩
   ·have h:¬ z<2:=fun q=>h (aY q)
    rw[az h] at hy
    exact⟨_,rfl,yes _ _ _ ⟨_,rfl⟩ (Ext.refl _) hy⟩
  ·rintro D2 HD zs hD eD nD hz
   have hz:=hz.all (by rw[ae]; exact ai _)
   rw[hz] at hD
   refine⟨D2,_,rfl, .inl ⟨SqL.of hD,fun r hr'=>?_⟩⟩
   have eE:Ext HD (L2.upd HD r (.tup (ks.map fun k=>if k<2 then V.bl (k != 0) else V.int k))):=(Ext.refl _).new hr' _
   have dE:(L2.upd HD r (.tup (ks.map fun k=>if k<2 then V.bl (k != 0) else V.int k))) r=some (.tup (ks.map fun k=>if k<2 then V.bl (k != 0) else V.int k)):=j7
   generalize L2.upd HD r (.tup (ks.map fun k=>if k<2 then V.bl (k != 0) else V.int k))=HE at eE dE
   have eCE:=eD.trans eE
   have e0E:=e0C.trans eCE
   have lE:=eCE _ _ dC
   have ml:(L++[V.ref q3,V.ref q4,V.ref q7,V.ref qa]).length=L.length+4:=by rw[al]; rfl
   refine⟨l3,_,_,rfl,rfl,lE,by rw[aD]; omega,?_⟩
   have eBE:=eC.trans eCE
   have eAE:=eB.trans eBE
   have e9E:=eA.trans eAE
   have e7E:=(e8.trans e9).trans e9E
   have e4E:=((e5.trans e6).trans e7).trans e7E
   have e3E:=e4.trans e4E
   have nodup:=pm.nodup_iff.mpr (jBM n)
   have badE:∀ v∈(L++[V.ref q3,V.ref q4,V.ref q7,V.ref qa])++[V.ref r],OddV HE n v:=fun v hv=>by
    simp only [bS,aq,aJ,bL] at hv
    rcases hv with (hv | rfl | rfl | rfl | rfl) | rfl
    ·exact(bad v hv).mono (Kp.of e0E)
    ·refine jDO (e3E _ _ d3) (by rw[al]; omega) fun z=>?_
     have nd:=z.nodup_iff.mpr (jBM n)
     match ks,n2,kl with
     | x::y::ks,_,_=>
      rw[List.nodup_append] at nd
      exact nd.2.2 x (by simp) x (by simp) rfl
     | [x],h,e=>exact absurd (e ▸ h) (by show ¬ 1<1; decide)
     | [],h,e=>exact absurd (e ▸ h) (by show ¬ 1<0; decide)
    ·refine jB5 (os:=ks.dropLast.map Ob.int) (e4E _ _ d4) (by rw[ae]; omega) (Ats.ints _) (by rw[ae]; omega)
    ·refine jDO (ks:=ks.dropLast++[((ks.map V.int).length:Int)]) (by rw[e7E _ _ d7,au]; rfl) (by rw[al]; show _+1<=100; omega) fun z=>?_
     have:=jDL z (t:=((ks.map V.int).length:Int)) (by simp)
     rw[ae] at this
     omega
    ·refine jDO (ks:=ks.dropLast++[0 - 1]) (by rw[eAE _ _ dA,au]; rfl) (by rw[al]; show _+1<=100; omega) fun z=>?_
     have:=jDL z (t:=0 - 1) (by simp)
     omega
    ·refine jFG (os:=ks.map fun k=>if k<2 then Ob.oth else Ob.int k) dE (by rw[ae]; omega) (jFU _ _ (fun k=>?_) ks) ?_
     ·by_cases h:k<2
      ·rw[aA h,aA h]
       exact at_bl _ _
      ·rw[az h,az h]
       exact jF9 _ _
     ·refine eX.mpr fun z=>?_
      have h0:(0:Int)∈ks:=pm.mem_iff.mpr (mem_upto.mpr (by omega))
      have:=bC.mp z _ (bE.mpr ⟨0,h0,rfl⟩)
      cases this
   have kF:Keep HE (L2.upd HE l3 (.lst ((L++[V.ref q3,V.ref q4,V.ref q7,V.ref qa])++[V.ref r]))) l3:=fun c o h n=>by rw[jA n]; exact h
   have dF:(L2.upd HE l3 (.lst ((L++[V.ref q3,V.ref q4,V.ref q7,V.ref qa])++[V.ref r]))) l3=some (.lst ((L++[V.ref q3,V.ref q4,V.ref q7,V.ref qa])++[V.ref r])):=j7
   generalize L2.upd HE l3 (.lst ((L++[V.ref q3,V.ref q4,V.ref q7,V.ref qa])++[V.ref r]))=HF at kF dF
   have off:∀ c o,H c=some o->c≠l3:=fun c o h z=>by
    rw[z] at h
    rw[e0B _ _ h] at nC
    cases nC
   have kHF:Ext H HF:=fun c o h=>kF _ _ (e0E _ _ h) (off _ _ h)
   exact jEF T CT hr (kHF _ _ hp) hN dF (fun z=>off _ _ hp z.symm) (by rw[al]; show 0<_+1; omega) (by rw[al,ml]; show _+1<=40; omega) (fun v hv=>(badE v hv).mono (Kp.keep kF lE dF)) fun v N' H' o1 o2 o3 o4=>q v N' H' o1 o2 o3 fun c o h ne=>o4 _ _ (kHF _ _ h) ne
 ·exact jEF T CT hr hp hN hl lp L0 (by omega) bad q
theorem jO0 {fd:FuncData}(F:Fun K "_law_odd" "_law_odd" sOdd f fd)(T:Txt mg)(CT:Can P w K mg base "_law_take" 1 fT fdT ["pot","wide"] kG):FnOk P w K mg base CX0 2 f fd ["pot","order"] qA:=by
 refine F.ok scOdd (fun vs H Q E h=>?_) (fun cdv A outer s H vs Q E hr h=>?_)
 ·obtain⟨_,_,_,_,_,rfl,_⟩:=h
  rfl
 ·obtain⟨p,a,N,n,ks,rfl,hp,hN,ha,pm,n32,q⟩:=h
  refine⟨_,(oddA T CT hr).2.h,?_⟩
  have kl:ks.length=n:=by rw[pm.length_eq,kX]
  have sz:∀ n:Nat,n<=100->n<=PySem.sizeLine:=fun n h=>by rw[aD]; omega
  refine⟨_,rfl,a,_,rfl,ha,fun l1 H1 d1 e1 _=>?_⟩
  refine⟨_,rfl,_,rfl,a,_,rfl, .inr (SqT.of (e1 _ _ ha)),by show (1:Nat)<=_; decide,fun q2 H2 d2 e2=>?_⟩
  have e02:=e1.trans e2
  refine⟨a,q2,_,_,rfl,rfl,e02 _ _ ha,d2,by rw[ae]; exact sz _ (by show _+1<=100; omega),fun q3 H3 d3 e3=>?_⟩
  have e03:=e02.trans e3
  refine⟨_,rfl,_,rfl,a,_,rfl,e03 _ _ ha,fun q4 H4 d4 e4=>?_⟩
  rw[jJP,<- List.map_drop] at d4
  have e04:=e03.trans e4
  refine⟨_,rfl,_,rfl,a,_,rfl,e04 _ _ ha,fun q5 H5 d5 e5=>?_⟩
  rw[jCX,<- fg] at d5
  have e05:=e04.trans e5
  refine⟨q5,2,_,rfl,rfl,d5,by decide,by decide,by rw[ae]; exact sz _ (by rw[aP]; show min 1 _*2<=100; omega),fun q6 H6 d6 e6=>?_⟩
  have e06:=e05.trans e6
  have d6:H6 q6=some (.tup ((ks.take 1++ks.take 1).map V.int)):=by rw[d6,au]; simp
  refine⟨q4,q6,_,_,rfl,rfl,(e5.trans e6) _ _ d4,d6,by rw[ae,ae]; exact sz _ (by rw[al,aP,bP]; omega),fun q7 H7 d7 e7=>?_⟩
  rw[<- au] at d7
  have e07:=e06.trans e7
  refine⟨by show (1:Nat)<=_; decide,fun q8 H8 d8 e8=>?_⟩
  have e08:=e07.trans e8
  refine⟨by show (1:Nat)<=_; decide,fun q9 H9 d9 e9=>?_⟩
  have e09:=e08.trans e9
  refine fun qa HA dA eA=>?_
  have e0A:=e09.trans eA
  refine⟨by show (9:Nat)<=_; decide,fun l2 HB dB eB nB=>?_⟩
  have e0B:=e0A.trans eB
  refine⟨_,rfl,_,rfl,by show (1:Nat)<=_; decide,fun qc HC dC eC=>?_⟩
  have e0C:=e0B.trans eC
  refine⟨a,qc,_,_,rfl,rfl,e0C _ _ ha,dC,by rw[ae]; exact sz _ (by show _+1<=100; omega),fun qd HD dD eD=>?_⟩
  have e0D:=e0C.trans eD
  refine⟨by show (1:Nat)<=_; decide,fun qe HE dE eE=>?_⟩
  have e0E:=e0D.trans eE
  refine⟨_,rfl,a,_,rfl, .inr (SqT.of (e0E _ _ ha)),_,_,rfl,rfl,qe,_,_,rfl,rfl,dE,by omega,by rw[ae]; omega,by rw[ae]; exact sz _ (by show 1*_<=100; omega),fun qf HF dF eF=>?_⟩
  have e0F:=e0E.trans eF
  refine⟨_,rfl,a,rfl,⟨_,SqT.of (e0F _ _ ha)⟩,jGK (xs:=ks.map V.int) (fun σ=>∃ v,σ=[v]) (mapZ ks fun k=>V.int (0 - 1 - k)) (mapZ.ok _ _) (e0F _ _ ha) (by rw[ae,aD]; omega) ⟨_,rfl⟩ ?_ ?_⟩
  ·rintro j x σ' H' zs hx ⟨v,rfl⟩ e hz S1 S2 yes no
   obtain⟨z,hz',rfl⟩:=int_at hx
   dsimp only [yS,yY]
   rw[aA rfl]
   exact⟨_,_,rfl,rfl,_,rfl,_,_,rfl,rfl,yes _ _ _ ⟨_,rfl⟩ (Ext.refl _) (hz.yes hz')⟩
  ·rintro D2 HG zs hG eG nG hz
   have hz:=hz.all (by rw[ae]; exact ai _)
   have hz:zs=(ks.map fun k=>0 - 1 - k).map V.int:=by rw[hz,ce]; rfl
   rw[hz] at hG
   refine⟨D2,_,rfl, .inl ⟨SqL.of hG,fun qg hqg=>?_⟩⟩
   have eH:Ext HG (L2.upd HG qg (.tup ((ks.map fun k=>0 - 1 - k).map V.int))):=(Ext.refl _).new hqg _
   have dH:(L2.upd HG qg (.tup ((ks.map fun k=>0 - 1 - k).map V.int))) qg=some (.tup ((ks.map fun k=>0 - 1 - k).map V.int)):=j7
   generalize L2.upd HG qg (.tup ((ks.map fun k=>0 - 1 - k).map V.int))=HH at eH dH
   have e0H:=(e0F.trans eG).trans eH
   refine⟨by show (1:Nat)<=_; decide,fun qi HI dI eI=>?_⟩
   have e0I:=e0H.trans eI
   refine⟨qg,qi,_,_,rfl,rfl,eI _ _ dH,dI,by rw[ae,ae]; exact sz _ (by show _+1<=100; omega),fun qj HJ dJ eJ=>?_⟩
   have e0J:=e0I.trans eJ
   refine⟨by show (3:Nat)<=_; decide,fun l3 HK dK eK nK=>?_⟩
   have e0K:=e0J.trans eK
   have eFK:=(((eG.trans eH).trans eI).trans eJ).trans eK
   have eDK:=(eE.trans eF).trans eFK
   have eBK:=(eC.trans eD).trans eDK
   refine⟨l2,l3,_,_,rfl,rfl,eBK _ _ dB,dK,by show (12:Nat)<=_; decide,fun l4 HL dL eL nL=>?_⟩
   have e0L:=e0K.trans eL
   refine⟨_,rfl, .inl ⟨rfl,_,SqL.of dL⟩,_,rfl,_,rfl,_,rfl,a,_,rfl,e0L _ _ ha,fun qm HM dM eM=>?_⟩
   rw[jCX,<- fg] at dM
   have e0M:=e0L.trans eM
   refine⟨a,qm,_,_,rfl,rfl,e0M _ _ ha,dM,by rw[ae,ae]; exact sz _ (by rw[aP]; omega),fun qn HN dN eN=>?_⟩
   rw[<- au] at dN
   have e0N:=e0M.trans eN
   have lN:=(eM.trans eN) _ _ dL
   refine⟨l4,_,_,rfl,rfl,lN,by show (12:Nat)<_; decide,?_⟩
   have eKN:=(eL.trans eM).trans eN
   have eFN:=eFK.trans eKN
   have eDN:=eDK.trans eKN
   have eBN:=eBK.trans eKN
   have eAN:=eB.trans eBN
   have e9N:=eA.trans eAN
   have e8N:=e9.trans e9N
   have e7N:=e8.trans e8N
   have e3N:=(((e4.trans e5).trans e6).trans e7).trans e7N
   have e1N:=(e2.trans e3).trans e3N
   have eJN:=eK.trans eKN
   have lenEq:∀ {m:Nat},m=n+1->m≠n:=fun h=>by omega
   have badN:∀ v∈([V.non,V.ref l1,V.ref q3,V.ref q7,V.ref q8,V.ref q9,V.str "",V.int 0,V.ref qa]++[V.ref qd,V.ref qf,V.ref qj])++[V.ref qn],OddV HN n v:=fun v hv=>by
    simp only [fq,List.nil_append,aq,aJ,bL] at hv
    rcases hv with rfl | rfl | rfl | rfl | rfl | rfl | rfl | rfl | rfl | rfl | rfl | rfl | rfl
    ·exact⟨.oth,jLL _, .inl rfl⟩
    ·exact⟨.oth,jOR (e1N _ _ d1), .inl rfl⟩
    ·exact jB5 (os:=(ks++[((ks.map V.int).length:Int)]).map Ob.int) (e3N _ _ d3) (by rw[al,ae]; show _+1<=100; omega) (by rw[show ks.map V.int++[V.int ((ks.map V.int).length:Int)]=(ks++[((ks.map V.int).length:Int)]).map V.int by rw[au]; rfl]; exact Ats.ints _) (by rw[al,ae]; show _+1≠_; omega)
    ·by_cases n0:n=0
     ·have k0:ks=[]:=cV.mp (by omega)
      have:=e7N _ _ d7
      rw[k0] at this
      exact⟨.tup [],jBK this (by decide) (ats0 _), .inr ⟨_,rfl,this⟩⟩
     ·exact jB5 (os:=(ks.drop 1++(ks.take 1++ks.take 1)).map Ob.int) (e7N _ _ d7) (by rw[ae,al,al,aP,bP]; omega) (Ats.ints _) (by rw[ae,al,al,aP,bP]; omega)
    ·exact jFG (e8N _ _ d8) (by decide) (ats1 (at_bl _ _) (ats0 _)) rfl
    ·exact jFG (e9N _ _ d9) (by decide) (ats1 (at_bl _ _) (ats0 _)) rfl
    ·exact⟨.oth,jOQ _ _, .inl rfl⟩
    ·exact⟨.int 0,jF9 _ _, .inl rfl⟩
    ·exact⟨.oth,jOS (eAN _ _ dA), .inl rfl⟩
    ·exact jB5 (os:=(ks++[0]).map Ob.int) (eDN _ _ dD) (by rw[al,ae]; show _+1<=100; omega) (by rw[show ks.map V.int++[V.int 0]=(ks++[0]).map V.int by rw[au]; rfl]; exact Ats.ints _) (by rw[al,ae]; show _+1≠_; omega)
    ·have dF':=eFN _ _ dF
     rw[ae,show (((ks.length:Nat):Int)+1).toNat=ks.length+1 by omega,List.flatten_replicate_singleton] at dF'
     refine jB5 (os:=(replicate (ks.length+1) ()).map fun _=>Ob.oth) (vs:=(replicate (ks.length+1) ()).map fun _=>V.non) (by rw[dF']; simp) (by simp; omega) (jFU _ _ (fun _=>jLL _) _) (by simp; omega)
    ·exact jB5 (os:=((ks.map fun k=>0 - 1 - k)++[0]).map Ob.int) (eJN _ _ dJ) (by rw[al,ae,ae]; show _+1<=100; omega) (by rw[show (ks.map fun k=>0 - 1 - k).map V.int++[V.int 0]=((ks.map fun k=>0 - 1 - k)++[0]).map V.int by rw[au]; rfl]; exact Ats.ints _) (by rw[al,ae,ae]; show _+1≠_; omega)
    ·by_cases n0:n=0
     ·have k0:ks=[]:=cV.mp (by omega)
      have:=dN
      rw[k0] at this
      exact⟨.tup [],jBK this (by decide) (ats0 _), .inr ⟨_,rfl,this⟩⟩
     ·exact jB5 (os:=(ks++ks.take 1).map Ob.int) dN (by rw[ae,al,aP]; omega) (Ats.ints _) (by rw[ae,al,aP]; omega)
   generalize hL:([V.non,V.ref l1,V.ref q3,V.ref q7,V.ref q8,V.ref q9,V.str "",V.int 0,V.ref qa]++[V.ref qd,V.ref qf,V.ref qj])++[V.ref qn]=L at badN
   have hLl:L.length=13:=by rw[<- hL]; rfl
   have kO:Keep HN (L2.upd HN l4 (.lst L)) l4:=fun c o h n=>by rw[jA n]; exact h
   have dO:(L2.upd HN l4 (.lst L)) l4=some (.lst L):=j7
   generalize L2.upd HN l4 (.lst L)=HO at kO dO
   have off:∀ c o,H c=some o->c≠l4:=fun c o h z=>by
    rw[z] at h
    rw[e0K _ _ h] at nL
    cases nL
   have kHO:Ext H HO:=fun c o h=>kO _ _ (e0N _ _ h) (off _ _ h)
   exact jIJ T CT hr (kHO _ _ hp) hN (kHO _ _ ha) pm n32 dO (fun z=>off _ _ hp z.symm) (by omega) (by omega) (fun v hv=>(badN v hv).mono (Kp.keep kO lN dO)) fun v N' H' o1 o2 o3 o4=>q v N' H' o1 o2 o3 fun c o h ne=>o4 _ _ (kHO _ _ h) ne
end
section
variable {P:Program}{w:World}{K:W.Frag}{mg:Str->Option Value}{base:Heap}
variable {f fN fO cE cO tb:Addr}{fdN fdO:FuncData}{cdv:Value}{A:Around}{outer:List Env}{s:Shared}{H0:Hp}{E:XK}{ks:Nat->Bool}
abbrev jDR:List Str:=["box","things","pieces","e"]
theorem scRefused:FnScope jDR ["box","things","pieces"] (j9 yA):=⟨rfl,rfl,rfl,by decide+kernel,rfl,by decide+kernel,by decide+kernel⟩
def kP (tb:Addr):Sp:=fun vs H Q _=>∃ (b:Addr) (v1 v2:V) (o1 o2:Ob) (w:Int) (ms:List Int) (pcs:List (List Int×Int)),vs=[.ref b,v1,v2]/\BoxAt H b w ms pcs/\Good 16 32 w ms pcs/\At H o1 v1/\At H o2 v2/\TabP H tb/\(ordB w o1=false\/ordB pcs.length o2=false)/\∀ H',Ext H H'->Q (.bl true) H'
def jK7 (T:Txt mg)(CN:CanX cE P w K mg base "named_anew" 3 fN fdN ["box","things","pieces"] (y9 tb))(CO:CanS P w K mg base "_law_others" 1 fO fdO ["e","own"] (jCA cE ks))(MO:mg "OnceError" =some (.ref cO))(hr:Room 3 (XOf jDR "_law_refused" yA P w K mg base f cdv A outer s H0 E).A): { t:TS // JSs (XOf jDR "_law_refused" yA P w K mg base f cdv A outer s H0 E) (jD yA) t} :=
 have nd:=scRefused.nd
 ⟨_,(jF (jOB (j:=3) nd rfl (show (j9 yA).names.lookup (("e" :String):Str)=some NameKind.local by decide+kernel) (jMP (jML CN.G (hr.mono (by decide)) gD CN.m CN.kp CN.b (j4 (jv 0 rfl vL) (j4 (jv 1 rfl vL) (j4 (jv 2 rfl vL) j8 j6) j6) j6) rfl j6) jX) gD MO rfl rfl (fun x=>(jJ (kN (jKW CO.G (Room.suite (hr.mono (by decide)) x) (gl_u gD) CO.m CO.kp CO.b (j4 (jv 3 rfl (vis_u vL)) (j4 jE j8 jH) j6) j6))))) (jJ (kN (je_bl))))⟩
theorem jH4 {fd:FuncData}(F:Fun K "_law_refused" "_law_refused" yA f fd)(T:Txt mg)(CN:CanX cE P w K mg base "named_anew" 3 fN fdN ["box","things","pieces"] (y9 tb))(CO:CanS P w K mg base "_law_others" 1 fO fdO ["e","own"] (jCA cE fun i=>decide (i=3)))(MO:mg "OnceError" =some (.ref cO))(AB:Above K cE cO):FnOk P w K mg base CX0 4 f fd ["box","things","pieces"] (kP tb):=by
 refine F.ok scRefused (fun vs H Q E h=>?_) (fun cdv A outer s H vs Q E hr h=>?_)
 ·obtain⟨_,_,_,_,_,_,_,_,rfl,_⟩:=h
  rfl
 ·obtain⟨b,v1,v2,o1,o2,w,ms,pcs,rfl,hB,g,hA1,hA2,tab,hn,q⟩:=h
  refine⟨_,(jK7 T CN CO MO hr).2.h,?_⟩
  have ek:eqTs [.bl (decide (0=3)), .bl (decide (1=3)), .bl (decide (2=3)), .bl (decide (3=3)), .bl (decide (4=3)), .bl (decide (5=3)), .bl (decide (6=3)), .bl (decide (7=3)), .bl (decide (8=3)), .bl (decide (9=3)), .bl false] (oneOf 3 11)=true:=by decide+kernel
  refine⟨_,rfl,_,rfl,_,rfl,b,v1,v2,o1,o2,w,ms,pcs,rfl,hB,g,hA1,hA2,tab,fun z1 z2=>?_,fun _ a H2 e2=>?_⟩
  ·exfalso
   rcases hn with h | h
   ·rw[h] at z1; cases z1
   ·rw[h] at z2; cases z2
  rintro x hx1 hx2 hx
  refine⟨AB,?_⟩
  have e3:Ext H2 (L2.upd H2 x (.ext (excP x cE))):=(Ext.refl _).new hx _
  have d3:(L2.upd H2 x (.ext (excP x cE))) x=some (.ext (excP x cE)):=j7
  generalize L2.upd H2 x (.ext (excP x cE))=H3 at e3 d3
  refine⟨_,rfl,3,rfl,d3,fun H4 e4=>?_⟩
  rw[ek]
  exact q H4 ((e2.trans e3).trans e4)
end
end Eo
end
section
namespace L2
open PySem
open PySem.Spec PyProof.Rows in
theorem FnOk.noX {P:Program}{w:World}{K:W.Frag}{mg:Str->Option Value}{base:Heap}{C:Addr}{k:Nat}{f:Addr}{fd:FuncData}{ps:List Str}{sp:Sp}(F:FnOk P w K mg base (CXX P w C) k f fd ps sp):FnOk P w K mg base CX0 k f fd ps (fun vs H Q _=>sp vs H Q fun _ _ _=>False):=by
 refine⟨fun vs H Q E h=>F.len _ _ _ _ h,fun A outer s H args us vs Q E hr e0 hb r hsp=>bX (F.run A outer s H args us vs Q _ hr e0 hb r hsp) fun res s' hq=>?_⟩
 cases res with
 | ok fl=>cases fl <;> exact hq
 | error ev=>
  obtain⟨x,T,H2,rfl,os2,bare2,un2,hok2,fx,fT,hx,hT,ex2,q2⟩:=hq
  exact q2.elim
end L2
namespace Eo
open PySem L2
theorem CanX.noX {C:Addr}{P:Program}{w:World}{K:W.Frag}{mg:Str->Option Value}{base:Heap}{x:Str}{k:Nat}{f:Addr}{fd:FuncData}{ps:List Str}{sp:Sp}(c:CanX C P w K mg base x k f fd ps sp):Can P w K mg base x k f fd ps (fun vs H Q _=>sp vs H Q fun _ _ _=>False):=⟨c.G.noX,c.m,c.kp,c.b⟩
theorem _root_.L2.SqL.extT {K:W.Frag}{tb:Addr}{H H':Hp}{a:Addr}{xs:List V}(h:SqL K H a xs)(e:ExtT tb H H')(t:TabP H tb):SqL K H' a xs:=by
 rcases h with (h | ⟨o,h⟩) | h
 ·exact .inl (.inl (e.at t h))
 ·exact .inl (.inr ⟨o,e.at t h⟩)
 ·exact .inr h
theorem Tups.ofT {tb:Addr}{H H':Hp}(e:ExtT tb H H')(t:TabP H tb):Tups H H':=fun b xs h=>e.at t h
theorem jDU (ks:List Int):obs (.tup (ks.map Ob.int))=ks:=by
 show (ks.map Ob.int).map val=ks
 rw[ce]
 exact map_id _
def OrdT (H:Hp)(n:Nat)(v:V):Prop:=∃ (a:Addr) (ks:List Int),v= .ref a/\H a=some (.tup (ks.map V.int))/\ks.Perm (upto n)
theorem OrdT.mono {H H':Hp}(t:Tups H H'){n:Nat}{v:V}(h:OrdT H n v):OrdT H' n v:=by
 obtain⟨a,ks,e,h1,h2⟩:=h
 exact⟨a,ks,e,t _ _ h1,h2⟩
theorem jI7 {n:Nat}{ks:List Int}(pm:ks.Perm (upto n)):ordB n (.tup (ks.map Ob.int))=true:=by
 have kl:ks.length=n:=by rw[pm.length_eq,kX]
 have es:upto n=srt ((ks.map Ob.int).map val):=by
  have e:(ks.map Ob.int).map val=ks:=jDU ks
  rw[e]
  exact jE6 ((jAV n).ris.imp fun {a b} h=>Int.le_of_lt h) pm.symm
 show (decide (((ks.map Ob.int).length:Int)=n)&&(ks.map Ob.int).all isInt&&decide (srt ((ks.map Ob.int).map val)=upto (n:Int).toNat))=true
 rw[bj,<- es,ae,kl]
 simp [isInt]
def PairT (H:Hp)(n m:Nat)(v:V):Prop:=∃ t v1 v2,v= .ref t/\H t=some (.tup [v1,v2])/\OrdT H n v1/\OrdT H m v2
theorem PairT.mono {H H':Hp}(t:Tups H H'){n m:Nat}{v:V}(h:PairT H n m v):PairT H' n m v:=by
 obtain⟨a,v1,v2,e,h1,h2,h3⟩:=h
 exact⟨a,v1,v2,e,t _ _ h1,h2.mono t,h3.mono t⟩
theorem jCN {H:Hp}{n:Nat}{v:V}{q:Addr}{Q:VK}(h:OddV H n v)(hq:H q=some (.tup []))(yes:∀ o,At H o v->ordB n o=false->Q (.bl true) H)(no:Q (.bl false) H):jLC v (.ref q) H Q:=by
 obtain⟨o,h1,h2⟩:=h
 refine⟨q,rfl,hq,?_⟩
 cases o with
 | int i=>
  cases (show v= .int i from h1)
  exact .inl ⟨.inr (.inl ⟨i,rfl⟩),yes (.int i) rfl rfl⟩
 | oth=>
  have y:=yes .oth h1 rfl
  rcases (show OthAt H v from h1) with rfl | ⟨c,rfl⟩ | ⟨c,rfl⟩ | ⟨a,rfl,⟨xs,hx⟩ | ⟨xs,hx⟩⟩
  ·exact .inl ⟨.inl rfl,y⟩
  ·exact .inl ⟨.inr (.inr (.inl ⟨c,rfl⟩)),y⟩
  ·exact .inl ⟨.inr (.inr (.inr (.inl ⟨c,rfl⟩))),y⟩
  ·exact .inl ⟨.inr (.inr (.inr (.inr (.inl ⟨a,xs,rfl,hx⟩)))),y⟩
  ·exact .inl ⟨.inr (.inr (.inr (.inr (.inr ⟨a,xs,rfl,hx⟩)))),y⟩
 | tup os=>
  obtain⟨a,vs,rfl,ha,hl,hx⟩:=id h1
  refine .inr ⟨a,vs,rfl,ha,?_⟩
  by_cases e:vs=[]
  ·rw[aY e]
   exact no
  ·rw[ba e]
   refine yes _ h1 (h2.elim id fun ⟨p,e1,e2⟩=>?_)
   cases e1
   rw[ha] at e2
   cases e2
   exact absurd rfl e
structure KeepP (tb p:Addr)(H H':Hp):Prop where
 k:∀ c o,H c=some o->c≠tb->c≠p->H' c=some o
 p0:∃ N:Int,H p=some (.lst [.int N])
 p1:∃ N:Int,H' p=some (.lst [.int N])/\0<=N
theorem KeepP.kp {tb p:Addr}{H H':Hp}(h:KeepP tb p H H')(t:TabP H tb):Kp H H':=by
 have nt:∀ {c:Addr}{o:HO},H c=some o->(∀ ps,o≠ .tbl ps)->c≠tb:=fun hc n z=>by
  subst z
  rcases t with t | ⟨d,t,_⟩
  ·rw[t] at hc; cases hc; exact n _ rfl
  ·rw[t] at hc; cases hc; exact n _ rfl
 obtain⟨N,q⟩:=h.p0
 obtain⟨N',q',_⟩:=h.p1
 refine⟨fun b xs hb=>h.k _ _ hb (nt hb (by intro _ z; cases z)) fun z=>?_,fun b xs hb=>?_,fun b xs hb=>⟨xs,h.k _ _ hb (nt hb (by intro _ z; cases z)) fun z=>?_⟩⟩
 ·rw[z,q] at hb
  cases hb
 ·by_cases z:b=p
  ·rw[z]
   exact⟨_,q'⟩
  ·exact⟨xs,h.k _ _ hb (nt hb (by intro _ z; cases z)) z⟩
 ·rw[z,q] at hb
  cases hb
theorem KeepP.trans {tb p:Addr}{H H1 H2:Hp}(h:KeepP tb p H H1)(h':KeepP tb p H1 H2):KeepP tb p H H2:=⟨fun c o q n1 n2=>h'.k _ _ (h.k _ _ q n1 n2) n1 n2,h.p0,h'.p1⟩
theorem jFX {tb p:Addr}{H H':Hp}{N:Int}(t:TabP H tb)(hp:H p=some (.lst [.int N]))(k:Keep H H' p):TabP H' tb:=by
 rcases t with h | ⟨c,h,h2⟩
 ·exact .inl (k _ _ h fun z=>by rw[z,hp] at h; cases h)
 ·exact .inr ⟨c,k _ _ h fun z=>(by rw[z,hp] at h; cases h),k _ _ h2 fun z=>(by rw[z,hp] at h2; cases h2)⟩
abbrev nLaw:List Str:=["script","box","same","k","pot","things","pieces","own","some","odd","other"]
theorem scLaw:FnScope nLaw ["script"] (j9 sLaw):=⟨rfl,rfl,rfl,by decide+kernel,rfl,by decide+kernel,by decide+kernel⟩
section
variable {P:Program}{w:World}{K:W.Frag}{mg:Str->Option Value}{base:Heap}
variable {f fC fP fD fI fN fW fO fB fR tb:Addr}{fdC fdP fdD fdI fdN fdW fdO fdB fdR:FuncData}{cdv:Value}{A:Around}{outer:List Env}{s:Shared}{H0:Hp}{E:XK}
abbrev XLaw (P:Program)(w:World)(K:W.Frag)(mg:Str->Option Value)(base:Heap)(f:Addr)(cdv:Value)(A:Around)(outer:List Env)(s:Shared)(H:Hp)(E:XK):Cx:=XOf nLaw "law" sLaw P w K mg base f cdv A outer s H E
abbrev lawL:List Stmt:=jGC ((jD sLaw).getD 2 (.Pass ⟨0,0,0,0⟩))
def jL6 (T:Txt mg)(CC:Can P w K mg base "_law_cell_at" 1 fC fdC ["script","k"] (yJ K))(CP:Can P w K mg base "_law_pot" 1 fP fdP ["cell"] yX)(CD:Can P w K mg base "_law_drawn" 4 fD fdD ["script","k","things","pieces"] (yF K))(CI:Can P w K mg base "_law_is_box" 3 fI fdI ["found","due"] yE)(CN:Can P w K mg base "named_anew" 3 fN fdN ["box","things","pieces"] (fun vs H Q _=>y9 tb vs H Q fun _ _ _=>False))(CW:Can P w K mg base "_law_named" 1 fW fdW ["box","things","pieces"] y0)(CO:Can P w K mg base "_law_order" 2 fO fdO ["pot","wide"] kZ)(CB:Can P w K mg base "_law_odd" 2 fB fdB ["pot","order"] qA)(CR:Can P w K mg base "_law_refused" 4 fR fdR ["box","things","pieces"] (kP tb))(hr:Room 4 (XLaw P w K mg base f cdv A outer s H0 E).A): { t:TS // JSs (XLaw P w K mg base f cdv A outer s H0 E) (jGC (lawL.getD 3 (.Pass ⟨0,0,0,0⟩))) t} :=
 have nd:=scLaw.nd
 ⟨_,(jJ (qD (jB0 (jAZ (CI.je (hr.mono (by decide)) gD (j4 (CN.je (hr.mono (by decide)) gD (j4 (jv 1 rfl vL) (j4 (jv 7 rfl vL) (j4 (jv 8 rfl vL) j8 j6) j6) j6) j6) (j4 (CW.je (hr.mono (by decide)) gD (j4 (jv 1 rfl vL) (j4 (jv 7 rfl vL) (j4 (jv 8 rfl vL) j8 j6) j6) j6) j6) j8 jC) jC) jC) jA8)) (jJ (kN (je_bl))) yP))⟩
def tailA (T:Txt mg)(CC:Can P w K mg base "_law_cell_at" 1 fC fdC ["script","k"] (yJ K))(CP:Can P w K mg base "_law_pot" 1 fP fdP ["cell"] yX)(CD:Can P w K mg base "_law_drawn" 4 fD fdD ["script","k","things","pieces"] (yF K))(CI:Can P w K mg base "_law_is_box" 3 fI fdI ["found","due"] yE)(CN:Can P w K mg base "named_anew" 3 fN fdN ["box","things","pieces"] (fun vs H Q _=>y9 tb vs H Q fun _ _ _=>False))(CW:Can P w K mg base "_law_named" 1 fW fdW ["box","things","pieces"] y0)(CO:Can P w K mg base "_law_order" 2 fO fdO ["pot","wide"] kZ)(CB:Can P w K mg base "_law_odd" 2 fB fdB ["pot","order"] qA)(CR:Can P w K mg base "_law_refused" 4 fR fdR ["box","things","pieces"] (kP tb))(hr:Room 4 (XLaw P w K mg base f cdv A outer s H0 E).A): { t:TS // JSs (XLaw P w K mg base f cdv A outer s H0 E) (lawL.drop 4) t} :=
 have nd:=scLaw.nd
 ⟨_,(jF (jT (i:=9) nd rfl lL (CB.je (hr.mono (by decide)) gD (j4 (jv 4 rfl vL) (j4 (jv 5 rfl vL) j8 j6) j6) j6) jX)
   (jF (jT (i:=10) nd rfl lL (CB.je (hr.mono (by decide)) gD (j4 (jv 4 rfl vL) (j4 (jv 6 rfl vL) j8 j6) j6) j6) jX)
   (jJ (qD (jt_w (jw_or (jt_w (jLF (yO (jG6 (Nat.lt_of_succ_lt (hu_of hr))) (jv 9 rfl vL) (jY j8) (kU _)) (jJ0 (jB0 (jAZ (CR.je hr gD (j4 (jv 1 rfl vL) (j4 (jv 9 rfl vL) (j4 (jv 6 rfl vL) j8 j6) j6) j6) j6) jA8))))) (jIZ (jt_w (jLF (yO (jG6 (Nat.lt_of_succ_lt (hu_of hr))) (jv 10 rfl vL) (jY j8) (kU _)) (jJ0 (jB0 (jAZ (CR.je hr gD (j4 (jv 1 rfl vL) (j4 (jv 5 rfl vL) (j4 (jv 10 rfl vL) j8 j6) j6) j6) j6) jA8)))))))) (jJ (kN (je_bl))) yP))))⟩
def midA (T:Txt mg)(CC:Can P w K mg base "_law_cell_at" 1 fC fdC ["script","k"] (yJ K))(CP:Can P w K mg base "_law_pot" 1 fP fdP ["cell"] yX)(CD:Can P w K mg base "_law_drawn" 4 fD fdD ["script","k","things","pieces"] (yF K))(CI:Can P w K mg base "_law_is_box" 3 fI fdI ["found","due"] yE)(CN:Can P w K mg base "named_anew" 3 fN fdN ["box","things","pieces"] (fun vs H Q _=>y9 tb vs H Q fun _ _ _=>False))(CW:Can P w K mg base "_law_named" 1 fW fdW ["box","things","pieces"] y0)(CO:Can P w K mg base "_law_order" 2 fO fdO ["pot","wide"] kZ)(CB:Can P w K mg base "_law_odd" 2 fB fdB ["pot","order"] qA)(CR:Can P w K mg base "_law_refused" 4 fR fdR ["box","things","pieces"] (kP tb))(hr:Room 4 (XLaw P w K mg base f cdv A outer s H0 E).A): { t:TS // JSs (XLaw P w K mg base f cdv A outer s H0 E) (lawL.drop 3) t} :=
 have nd:=scLaw.nd
 ⟨_,(jF (jEN cz rfl (jJ4 (jAN (j4 (jY (j4 (jv 5 rfl vL) (j4 (jv 6 rfl vL) j8 j6) j6)) (j4 (jv 2 rfl vL) (j4 (jY (j4 (kS kR (jv 2 rfl vL) (jE) jQ) (j4 (jv 6 rfl vL) j8 j6) jW)) (j4 (jY (j4 (jOE (jv 5 rfl vL) (yQ (je_un jE4 (jE)))) (j4 (kS kR (jv 2 rfl vL) (jE) jQ) j8 jW) jW)) (j4 (jY (j4 (jv 5 rfl vL) (j4 (jv 6 rfl vL) j8 j6) j6)) j8 jBB) jBB) jBB) j6) jBB))) (jKR (i:=7) (j:=8) nd rfl rfl (by decide+kernel) (by decide+kernel)) (jL6 T CC CP CD CI CN CW CO CB CR hr).2 jOJ) (tailA T CC CP CD CI CN CW CO CB CR hr).2)⟩
def jL7 (T:Txt mg)(CC:Can P w K mg base "_law_cell_at" 1 fC fdC ["script","k"] (yJ K))(CP:Can P w K mg base "_law_pot" 1 fP fdP ["cell"] yX)(CD:Can P w K mg base "_law_drawn" 4 fD fdD ["script","k","things","pieces"] (yF K))(CI:Can P w K mg base "_law_is_box" 3 fI fdI ["found","due"] yE)(CN:Can P w K mg base "named_anew" 3 fN fdN ["box","things","pieces"] (fun vs H Q _=>y9 tb vs H Q fun _ _ _=>False))(CW:Can P w K mg base "_law_named" 1 fW fdW ["box","things","pieces"] y0)(CO:Can P w K mg base "_law_order" 2 fO fdO ["pot","wide"] kZ)(CB:Can P w K mg base "_law_odd" 2 fB fdB ["pot","order"] qA)(CR:Can P w K mg base "_law_refused" 4 fR fdR ["box","things","pieces"] (kP tb))(hr:Room 4 (XLaw P w K mg base f cdv A outer s H0 E).A): { t:TS // JSs (XLaw P w K mg base f cdv A outer s H0 E) lawL t} :=
 have nd:=scLaw.nd
 ⟨_,(jF (jT (i:=4) nd rfl lL (CP.je (hr.mono (by decide)) gD (j4 (CC.je (hr.mono (by decide)) gD (j4 (jv 0 rfl vL) (j4 (jv 3 rfl vL) j8 j6) j6) j6) j8 jC) jC) jX) (jF (jT (i:=5) nd rfl lL (CO.je (hr.mono (by decide)) gD (j4 (jv 4 rfl vL) (j4 (kS kR (jv 1 rfl vL) (jE) jQ) j8 jW) j6) j6) jX) (jF (jT (i:=6) nd rfl lL (CO.je (hr.mono (by decide)) gD (j4 (jv 4 rfl vL) (j4 (jG jP gD T.len (by decide+kernel) (j4 (kS kR (jv 1 rfl vL) (jE) jQ) j8 jW) jW) j8 jC) j6) j6) jX) (midA T CC CP CD CI CN CW CO CB CR hr).2)))⟩
def lawA (T:Txt mg)(CC:Can P w K mg base "_law_cell_at" 1 fC fdC ["script","k"] (yJ K))(CP:Can P w K mg base "_law_pot" 1 fP fdP ["cell"] yX)(CD:Can P w K mg base "_law_drawn" 4 fD fdD ["script","k","things","pieces"] (yF K))(CI:Can P w K mg base "_law_is_box" 3 fI fdI ["found","due"] yE)(CN:Can P w K mg base "named_anew" 3 fN fdN ["box","things","pieces"] (fun vs H Q _=>y9 tb vs H Q fun _ _ _=>False))(CW:Can P w K mg base "_law_named" 1 fW fdW ["box","things","pieces"] y0)(CO:Can P w K mg base "_law_order" 2 fO fdO ["pot","wide"] kZ)(CB:Can P w K mg base "_law_odd" 2 fB fdB ["pot","order"] qA)(CR:Can P w K mg base "_law_refused" 4 fR fdR ["box","things","pieces"] (kP tb))(hr:Room 4 (XLaw P w K mg base f cdv A outer s H0 E).A): { t:TS // JSs (XLaw P w K mg base f cdv A outer s H0 E) (jD sLaw) t} :=
 have nd:=scLaw.nd
 ⟨_,(jF (jT (i:=1) nd rfl lL (CD.je hr gD (j4 (jv 0 rfl vL) (j4 (jE) (j4 (jE) (j4 (jE) j8 jH) jH) jH) j6) j6) jX) (jF (jT (i:=2) nd rfl lL (jY (j4 (jI (jCZ rfl) gD T.tuple (by decide+kernel) (j4 (jI jA6 gD T.range (by decide+kernel) (j4 (kS kR (jv 1 rfl vL) (jE) jQ) j8 jW) jW) j8 jC) jC) (j4 (jI (jCZ rfl) gD T.tuple (by decide+kernel) (j4 (jI jA6 gD T.range (by decide+kernel) (j4 (jG jP gD T.len (by decide+kernel) (j4 (kS kR (jv 1 rfl vL) (jE) jQ) j8 jW) jW) j8 jC) jC) j8 jC) jC) j8 jC) jC)) jL9) (jF (jEN cz rfl (jJ3 gD T.range (j4 (jE) (j4 (jE) j8 jH) jH) jH jH) (kL (i:=3) nd rfl lL) (jL7 T CC CP CD CI CN CW CO CB CR hr).2 jBX) (jJ (kN (je_bl))))))⟩
theorem jGT (T:Txt mg)(CC:Can P w K mg base "_law_cell_at" 1 fC fdC ["script","k"] (yJ K))(CP:Can P w K mg base "_law_pot" 1 fP fdP ["cell"] yX)(CD:Can P w K mg base "_law_drawn" 4 fD fdD ["script","k","things","pieces"] (yF K))(CI:Can P w K mg base "_law_is_box" 3 fI fdI ["found","due"] yE)(CN:Can P w K mg base "named_anew" 3 fN fdN ["box","things","pieces"] (fun vs H Q _=>y9 tb vs H Q fun _ _ _=>False))(CW:Can P w K mg base "_law_named" 1 fW fdW ["box","things","pieces"] y0)(CO:Can P w K mg base "_law_order" 2 fO fdO ["pot","wide"] kZ)(CB:Can P w K mg base "_law_odd" 2 fB fdB ["pot","order"] qA)(CR:Can P w K mg base "_law_refused" 4 fR fdR ["box","things","pieces"] (kP tb))(hr:Room 4 (XLaw P w K mg base f cdv A outer s H0 E).A)
  {D:Ends}{H:Hp}{b:Addr}{wi:Int}{ms:List Int}{pcs:List (List Int×Int)}{v0 v2 v3 v4 v5 v6 v9 v10:Option V}{x1 x2:V}(hB:BoxAt H b wi ms pcs) (g:Good 16 32 wi ms pcs) (o1:OrdT H wi.toNat x1) (o2:OrdT H pcs.length x2) (tab:TabP H tb)
  (nx:∀ H',ExtT tb H H'->TabP H' tb->D.nx [v0,some (.ref b),v2,v3,v4,v5,v6,some x1,some x2,v9,v10] H'):
  (jL6 T CC CP CD CI CN CW CO CB CR hr).1 D [v0,some (.ref b),v2,v3,v4,v5,v6,some x1,some x2,v9,v10] H:=by
 obtain⟨a1,ts,rfl,h1,p1⟩:=o1
 obtain⟨a2,ks,rfl,h2,p2⟩:=o2
 have w0:=g.w0
 have w1:=g.w1
 have gpl:=g.pl
 have l1:ts.length=wi.toNat:=by rw[p1.length_eq,kX]
 have l2:ks.length=pcs.length:=by rw[p2.length_eq,kX]
 have A1:At H (.tup (ts.map Ob.int)) (.ref a1):=jBK h1 (by rw[ae]; omega) (Ats.ints ts)
 have A2:At H (.tup (ks.map Ob.int)) (.ref a2):=jBK h2 (by rw[ae]; omega) (Ats.ints ks)
 have y1:ordB wi (.tup (ts.map Ob.int))=true:=by
  have:=jI7 p1
  rw[gy w0] at this
  exact this
 have y2:ordB pcs.length (.tup (ks.map Ob.int))=true:=jI7 p2
 refine⟨_,rfl,_,rfl,_,rfl,b, .ref a1, .ref a2,_,_,wi,ms,pcs,rfl,hB,g,A1,A2,tab,fun _ _ r1 H1 B1 e1 t1=>?_,fun z=>?_⟩
 ·rw[jDU,jDU] at B1
  have T1:=Tups.ofT e1 tab
  refine⟨_,rfl,_,rfl,_,rfl,b,a1,a2,wi,ms,pcs,ts,ks,rfl,hB.mono T1,g,T1 _ _ h1,T1 _ _ h2,p1,p2,fun r2 H2 B2 e2=>?_⟩
  refine⟨r1,r2,_,_,_,rfl,B1.mono e2.tups,B2,?_,?_,fun pc hpc=>?_,fun H3 e3=>⟨_,rfl,iteF (nx H3 ((e1.trans (ExtT.of e2)).trans (ExtT.of e3)) ((t1.ext e2).ext e3))⟩⟩
  ·have:=jIK ts ms
   have:=jCP g.mr.ris g.mr.bnd w1
   omega
  ·unfold pick
   rw[ae]
   omega
  ·unfold pick at hpc
   obtain⟨k,hk,rfl⟩:=bE.mp hpc
   have kb:=jDL p2 hk
   have:=jIK ts (jO pcs k)
   have:=jD4 g kb.1 kb.2
   show (nmd ts (jO pcs k)).length<=100
   omega
 ·rw[y1,y2] at z
  rcases z with z | z <;> cases z
theorem jHP (T:Txt mg)(CC:Can P w K mg base "_law_cell_at" 1 fC fdC ["script","k"] (yJ K))(CP:Can P w K mg base "_law_pot" 1 fP fdP ["cell"] yX)(CD:Can P w K mg base "_law_drawn" 4 fD fdD ["script","k","things","pieces"] (yF K))(CI:Can P w K mg base "_law_is_box" 3 fI fdI ["found","due"] yE)(CN:Can P w K mg base "named_anew" 3 fN fdN ["box","things","pieces"] (fun vs H Q _=>y9 tb vs H Q fun _ _ _=>False))(CW:Can P w K mg base "_law_named" 1 fW fdW ["box","things","pieces"] y0)(CO:Can P w K mg base "_law_order" 2 fO fdO ["pot","wide"] kZ)(CB:Can P w K mg base "_law_odd" 2 fB fdB ["pot","order"] qA)(CR:Can P w K mg base "_law_refused" 4 fR fdR ["box","things","pieces"] (kP tb))(hr:Room 4 (XLaw P w K mg base f cdv A outer s H0 E).A)
  {D:Ends}{H:Hp}{p b:Addr}{N:Int}{wi:Int}{ms:List Int}{pcs:List (List Int×Int)}{v0 v2 v3 v7 v8 v9 v10:Option V}{x1 x2:V}(hp:H p=some (.lst [.int N])) (hN:0<=N) (hB:BoxAt H b wi ms pcs) (g:Good 16 32 wi ms pcs) (o1:OrdT H wi.toNat x1) (o2:OrdT H pcs.length x2) (tab:TabP H tb)
  (nx:∀ H' v9 v10,KeepP tb p H H'->TabP H' tb->D.nx [v0,some (.ref b),v2,v3,some (.ref p),some x1,some x2,v7,v8,v9,v10] H'):
  (tailA T CC CP CD CI CN CW CO CB CR hr).1 D [v0,some (.ref b),v2,v3,some (.ref p),some x1,some x2,v7,v8,v9,v10] H:=by
 obtain⟨a1,ts,rfl,h1,p1⟩:=o1
 obtain⟨a2,ks,rfl,h2,p2⟩:=o2
 have w0:=g.w0
 have w1:=g.w1
 have gpl:=g.pl
 have l1:ts.length=wi.toNat:=by rw[p1.length_eq,kX]
 have l2:ks.length=pcs.length:=by rw[p2.length_eq,kX]
 refine⟨_,rfl,_,rfl,p,a1,N,wi.toNat,ts,rfl,hp,hN,h1,p1,by omega,fun v N1 H1 od1 q1 hN1 k1=>?_⟩
 have K1:KeepP tb p H H1:=⟨fun c o h _ n=>k1 _ _ h n,⟨N,hp⟩,N1,q1,hN1⟩
 have t1:=jFX tab hp k1
 have kp1:=K1.kp tab
 refine⟨_,rfl,_,rfl,p,a2,N1,pcs.length,ks,rfl,q1,hN1,kp1.t _ _ h2,p2,by omega,fun v' N2 H2 od2 q2 hN2 k2=>?_⟩
 have K2:KeepP tb p H1 H2:=⟨fun c o h _ n=>k2 _ _ h n,⟨N1,q1⟩,N2,q2,hN2⟩
 have t2:=jFX t1 q1 k2
 have kp2:=K2.kp t1
 have od1:=od1.mono kp2
 have K02:=K1.trans K2
 have kp02:=kp1.trans kp2
 have B2:=hB.mono kp02.t
 have h12:=kp02.t _ _ h1
 have h22:=kp02.t _ _ h2
 have A1:At H2 (.tup (ts.map Ob.int)) (.ref a1):=jBK h12 (by rw[ae]; omega) (Ats.ints ts)
 have A2:At H2 (.tup (ks.map Ob.int)) (.ref a2):=jBK h22 (by rw[ae]; omega) (Ats.ints ks)
 have fin:∀ H',Ext H2 H'->D.nx [v0,some (.ref b),v2,v3,some (.ref p),some (.ref a1),some (.ref a2),v7,v8,some v,some v'] H':=fun H' e=>nx H' _ _ ⟨fun c o h n1 n2=>e _ _ (K02.k _ _ h n1 n2),⟨N,hp⟩,N2,e _ _ q2,hN2⟩ (t2.ext e)
 refine⟨_,rfl,by show (0:Nat)<=_; decide,fun q0 H3 d3 e3=>jCN (od1.mono (Kp.of e3)) d3 (fun o ho hb=>?_) ?_⟩
 ·rw[gy w0] at hb
  refine⟨_,rfl,iteT ⟨_,rfl,_,rfl,_,rfl,b,v, .ref a2,o,_,wi,ms,pcs,rfl,B2.mono e3.tups,g,ho,A2.ext e3,t2.ext e3, .inl hb,fun H4 e4=>⟨_,rfl,iteF ?_⟩⟩⟩
  have E4:=e3.trans e4
  refine⟨_,rfl,by show (0:Nat)<=_; decide,fun q5 H5 d5 e5=>jCN (od2.mono (Kp.of (E4.trans e5))) d5 (fun o ho hb=>?_) ?_⟩
  ·have E5:=E4.trans e5
   refine⟨_,rfl,iteT ⟨_,rfl,_,rfl,_,rfl,b, .ref a1,v',_,o,wi,ms,pcs,rfl,B2.mono E5.tups,g,A1.ext E5,ho,t2.ext E5, .inr hb,fun H6 e6=>⟨_,rfl,iteF (fin H6 (E5.trans e6))⟩⟩⟩
  ·exact⟨_,rfl,iteF (iteF (fin H5 (E4.trans e5)))⟩
 ·refine⟨_,rfl,iteF (iteF ?_)⟩
  refine⟨_,rfl,by show (0:Nat)<=_; decide,fun q5 H5 d5 e5=>jCN (od2.mono (Kp.of (e3.trans e5))) d5 (fun o ho hb=>?_) ?_⟩
  ·have E5:=e3.trans e5
   refine⟨_,rfl,iteT ⟨_,rfl,_,rfl,_,rfl,b, .ref a1,v',_,o,wi,ms,pcs,rfl,B2.mono E5.tups,g,A1.ext E5,ho,t2.ext E5, .inr hb,fun H6 e6=>⟨_,rfl,iteF (fin H6 (E5.trans e6))⟩⟩⟩
  ·exact⟨_,rfl,iteF (iteF (fin H5 (e3.trans e5)))⟩
def spLaw (K:W.Frag)(tb:Addr):Sp:=fun vs H Q _=>∃ (a:Addr) (ns:List Int),vs=[.ref a]/\SqL K H a (ns.map V.int)/\ns.length<=63/\TabP H tb/\∀ H',Q (.bl true) H'
theorem jKO (T:Txt mg)(CC:Can P w K mg base "_law_cell_at" 1 fC fdC ["script","k"] (yJ K))(CP:Can P w K mg base "_law_pot" 1 fP fdP ["cell"] yX)(CD:Can P w K mg base "_law_drawn" 4 fD fdD ["script","k","things","pieces"] (yF K))(CI:Can P w K mg base "_law_is_box" 3 fI fdI ["found","due"] yE)(CN:Can P w K mg base "named_anew" 3 fN fdN ["box","things","pieces"] (fun vs H Q _=>y9 tb vs H Q fun _ _ _=>False))(CW:Can P w K mg base "_law_named" 1 fW fdW ["box","things","pieces"] y0)(CO:Can P w K mg base "_law_order" 2 fO fdO ["pot","wide"] kZ)(CB:Can P w K mg base "_law_odd" 2 fB fdB ["pot","order"] qA)(CR:Can P w K mg base "_law_refused" 4 fR fdR ["box","things","pieces"] (kP tb))(hr:Room 4 (XLaw P w K mg base f cdv A outer s H0 E).A)
  {D:Ends}{H:Hp}{p b sm:Addr}{N:Int}{wi:Int}{ms:List Int}{pcs:List (List Int×Int)}{v0 v3 v7 v8 v9 v10:Option V}{x1 x2 s1 s2:V}(hp:H p=some (.lst [.int N])) (hN:0<=N) (hB:BoxAt H b wi ms pcs) (g:Good 16 32 wi ms pcs) (o1:OrdT H wi.toNat x1) (o2:OrdT H pcs.length x2) (hs:H sm=some (.tup [s1,s2])) (u1:OrdT H wi.toNat s1) (u2:OrdT H pcs.length s2) (tab:TabP H tb)
  (nx:∀ H' v7 v8 v9 v10,KeepP tb p H H'->TabP H' tb->D.nx [v0,some (.ref b),some (.ref sm),v3,some (.ref p),some x1,some x2,v7,v8,v9,v10] H'):
  (midA T CC CP CD CI CN CW CO CB CR hr).1 D [v0,some (.ref b),some (.ref sm),v3,some (.ref p),some x1,some x2,v7,v8,v9,v10] H:=by
 obtain⟨a1,ts,rfl,h1,p1⟩:=id o1
 have l1:ts.length=wi.toNat:=by rw[p1.length_eq,kX]
 have w1:=g.w1
 refine⟨_,rfl,_,rfl,by show (2:Nat)<=_; decide,fun q1 H1 d1 e1=>?_⟩
 refine⟨_,rfl,_,rfl,sm,_,0,_,rfl,rfl,SqT.of (e1 _ _ hs),rfl,_,rfl,by show (2:Nat)<=_; decide,fun q2 H2 d2 e2=>?_⟩
 have e02:=e1.trans e2
 refine⟨_,rfl,_,rfl,_,rfl,rfl,a1,_,rfl,e02 _ _ h1,fun q3 H3 d3 e3=>?_⟩
 have e03:=e02.trans e3
 refine⟨_,rfl,sm,_,1,_,rfl,rfl,SqT.of (e03 _ _ hs),rfl,by show (2:Nat)<=_; decide,fun q4 H4 d4 e4=>?_⟩
 have e04:=e03.trans e4
 refine⟨_,rfl,_,rfl,by show (2:Nat)<=_; decide,fun q5 H5 d5 e5=>?_⟩
 have e05:=e04.trans e5
 refine⟨by show (5:Nat)<=_; decide,fun l H6 d6 e6 n6=>?_⟩
 have e06:=e05.trans e6
 have e56:=e5.trans e6
 have e46:=e4.trans e56
 have e36:=e3.trans e46
 have e26:=e2.trans e36
 have r3:OrdT H6 wi.toNat (.ref q3):=⟨q3,ts.reverse,rfl,by rw[List.map_reverse]; exact e46 _ _ d3,(List.reverse_perm ts).trans p1⟩
 have O1:=o1.mono e06.tups
 have O2:=o2.mono e06.tups
 have U1:=u1.mono e06.tups
 have U2:=u2.mono e06.tups
 have prs:∀ v∈[V.ref q1,V.ref sm,V.ref q2,V.ref q4,V.ref q5],PairT H6 wi.toNat pcs.length v:=fun v hv=>by
  simp only [aq,aJ,bL] at hv
  rcases hv with rfl | rfl | rfl | rfl | rfl
  ·exact⟨_,_,_,rfl,e26 _ _ d1,O1,O2⟩
  ·exact⟨_,_,_,rfl,e06 _ _ hs,U1,U2⟩
  ·exact⟨_,_,_,rfl,e36 _ _ d2,U1,O2⟩
  ·exact⟨_,_,_,rfl,e56 _ _ d4,r3,U2⟩
  ·exact⟨_,_,_,rfl,e6 _ _ d5,O1,O2⟩
 have t6:=tab.ext e06
 have B6:=hB.mono e06.tups
 refine⟨l,rfl,⟨_,SqL.of d6⟩,jL0 (xs:=[V.ref q1,V.ref sm,V.ref q2,V.ref q4,V.ref q5]) (fun i σ H'=>(∃ v7 v8,σ=[v0,some (.ref b),some (.ref sm),v3,some (.ref p),some (.ref a1),some x2,v7,v8,v9,v10])/\ExtT tb H6 H'/\TabP H' tb) ⟨⟨_,_,rfl⟩,ExtT.refl _,t6⟩ (fun i σ H' _ ⟨_,e,_⟩=>SqL.of (e.at t6 d6)) ?_ ?_⟩
 ·rintro i v σ H' hv ⟨⟨v7,v8,rfl⟩,e,t'⟩
  have TU:=Tups.ofT e t6
  obtain⟨t,y1,y2,rfl,c1,c2,c3⟩:=(prs v (aW hv)).mono TU
  refine⟨t,_,rfl,SqT.of c1,rfl,_,_,rfl,_,_,rfl,rfl,?_⟩
  exact jGT T CC CP CD CI CN CW CO CB CR hr (B6.mono TU) g c2 c3 t' fun H8 e8 t8=>⟨⟨_,_,rfl⟩,e.trans e8,t8⟩
 ·rintro σ H7 ⟨⟨v7,v8,rfl⟩,e7,t7⟩
  have TU:=Tups.ofT e7 t6
  have p7:=e7.at t6 (e06 _ _ hp)
  refine jHP T CC CP CD CI CN CW CO CB CR hr p7 hN (B6.mono TU) g (O1.mono TU) (O2.mono TU) t7 fun H8 v9 v10 k8 t8=>nx H8 _ _ _ _ ⟨fun c o h n1 n2=>k8.k _ _ (e7 _ _ (e06 _ _ h) n1) n1 n2,⟨N,hp⟩,k8.p1⟩ t8
theorem jGU (T:Txt mg)(CC:Can P w K mg base "_law_cell_at" 1 fC fdC ["script","k"] (yJ K))(CP:Can P w K mg base "_law_pot" 1 fP fdP ["cell"] yX)(CD:Can P w K mg base "_law_drawn" 4 fD fdD ["script","k","things","pieces"] (yF K))(CI:Can P w K mg base "_law_is_box" 3 fI fdI ["found","due"] yE)(CN:Can P w K mg base "named_anew" 3 fN fdN ["box","things","pieces"] (fun vs H Q _=>y9 tb vs H Q fun _ _ _=>False))(CW:Can P w K mg base "_law_named" 1 fW fdW ["box","things","pieces"] y0)(CO:Can P w K mg base "_law_order" 2 fO fdO ["pot","wide"] kZ)(CB:Can P w K mg base "_law_odd" 2 fB fdB ["pot","order"] qA)(CR:Can P w K mg base "_law_refused" 4 fR fdR ["box","things","pieces"] (kP tb))(hr:Room 4 (XLaw P w K mg base f cdv A outer s H0 E).A)
  {D:Ends}{H:Hp}{a b sm:Addr}{ns:List Int}{k:Int}{wi:Int}{ms:List Int}{pcs:List (List Int×Int)}{v4 v5 v6 v7 v8 v9 v10:Option V}{s1 s2:V}(hS:SqL K H a (ns.map V.int)) (k0:0<=k) (hB:BoxAt H b wi ms pcs) (g:Good 16 32 wi ms pcs) (hs:H sm=some (.tup [s1,s2])) (u1:OrdT H wi.toNat s1) (u2:OrdT H pcs.length s2) (tab:TabP H tb)
  (nx:∀ H' v4 v5 v6 v7 v8 v9 v10,ExtT tb H H'->TabP H' tb->D.nx [some (.ref a),some (.ref b),some (.ref sm),some (.int k),v4,v5,v6,v7,v8,v9,v10] H'):
  (jL7 T CC CP CD CI CN CW CO CB CR hr).1 D [some (.ref a),some (.ref b),some (.ref sm),some (.int k),v4,v5,v6,v7,v8,v9,v10] H:=by
 have w0:=g.w0
 have w1:=g.w1
 have gpl:=g.pl
 obtain⟨qm,qp,ps,b1,b2,b3,b4⟩:=id hB.ex
 have pl:=b4.len
 refine⟨_,rfl,_,rfl,a,ns,k,rfl,hS,k0,fun c=>⟨c,rfl,fun p N hp hN=>?_⟩⟩
 have e1:Ext H (L2.upd H p (.lst [.int N])):=(Ext.refl _).new hp _
 have d1:(L2.upd H p (.lst [.int N])) p=some (.lst [.int N]):=j7
 generalize L2.upd H p (.lst [.int N])=H1 at e1 d1
 refine⟨_,rfl,_,rfl,b,_,0,_,rfl,rfl,SqT.of (e1 _ _ b1),rfl,p,N,wi,rfl,d1,hN,w0,by omega,fun r1 ts N2 H2 h2 p2 q2 hN2 k2=>?_⟩
 have K2:Tups H1 H2:=k2.tups d1
 refine⟨_,rfl,_,rfl,b,_,2,_,rfl,rfl,SqT.of (K2 _ _ (e1 _ _ b1)),rfl,qp,_,rfl, .inr (SqT.of (K2 _ _ (e1 _ _ b3))),p,N2,_,rfl,q2,hN2,by omega,by omega,fun r2 ks N3 H3 h3 p3 q3 hN3 k3=>?_⟩
 have K3:Tups H2 H3:=k3.tups q2
 have E3:Ext H H3:=fun c o h=>k3 _ _ (k2 _ _ (e1 _ _ h) (jB h hp)) (jB h hp)
 rw[show (ps.length:Int).toNat=pcs.length by omega] at p3
 refine jKO T CC CP CD CI CN CW CO CB CR hr q3 hN3 (hB.mono E3.tups) g ⟨r1,ts,rfl,K3 _ _ h2,p2⟩ ⟨r2,ks,rfl,h3,p3⟩ (E3 _ _ hs) (u1.mono E3.tups) (u2.mono E3.tups) (tab.ext E3) fun H4 v7 v8 v9 v10 k4 t4=>nx H4 _ _ _ _ _ _ _ (fun c o h n=>k4.k _ _ (E3 _ _ h) n (jB h hp)) t4
theorem jO2 {fd:FuncData}(F:Fun K "law" "law" sLaw f fd)(T:Txt mg)(CC:Can P w K mg base "_law_cell_at" 1 fC fdC ["script","k"] (yJ K))(CP:Can P w K mg base "_law_pot" 1 fP fdP ["cell"] yX)(CD:Can P w K mg base "_law_drawn" 4 fD fdD ["script","k","things","pieces"] (yF K))(CI:Can P w K mg base "_law_is_box" 3 fI fdI ["found","due"] yE)(CN:Can P w K mg base "named_anew" 3 fN fdN ["box","things","pieces"] (fun vs H Q _=>y9 tb vs H Q fun _ _ _=>False))(CW:Can P w K mg base "_law_named" 1 fW fdW ["box","things","pieces"] y0)(CO:Can P w K mg base "_law_order" 2 fO fdO ["pot","wide"] kZ)(CB:Can P w K mg base "_law_odd" 2 fB fdB ["pot","order"] qA)(CR:Can P w K mg base "_law_refused" 4 fR fdR ["box","things","pieces"] (kP tb)):FnOk P w K mg base CX0 5 f fd ["script"] (spLaw K tb):=by
 refine F.ok scLaw (fun vs H Q E h=>?_) (fun cdv A outer s H vs Q E hr h=>?_)
 ·obtain⟨_,_,rfl,_⟩:=h
  rfl
 ·obtain⟨a,ns,rfl,hS,hn,tab,q⟩:=h
  refine⟨_,(lawA T CC CP CD CI CN CW CO CB CR hr).2.h,?_⟩
  refine⟨_,rfl,a,ns,0,8,12,rfl,hS,by decide,by decide,by decide,by decide,by decide,fun b wi ms pcs H1 B1 g0 e1=>?_⟩
  have g:Good 16 32 wi ms pcs:=g0.wide (by decide) (by decide)
  have w0:=g.w0
  have w1:=g.w1
  have gpl:=g.pl
  have tab1:=tab.ext e1
  have S1:=hS.extT (ExtT.of e1) tab
  obtain⟨qm,qp,ps,b1,b2,b3,b4⟩:=id B1.ex
  have pl:=b4.len
  refine⟨_,rfl,b,_,0,_,rfl,rfl,SqT.of b1,rfl,_,rfl,fun rg hrg=>?_⟩
  have e2:Ext H1 (L2.upd H1 rg (.rng 0 wi)):=(Ext.refl _).new hrg _
  have d2:(L2.upd H1 rg (.rng 0 wi)) rg=some (.rng 0 wi):=j7
  generalize L2.upd H1 rg (.rng 0 wi)=H2 at e2 d2
  refine⟨rg,0,wi,rfl,d2,by omega,by omega,by omega,fun t1 ht1=>?_⟩
  have e3:Ext H2 (L2.upd H2 t1 (.tup ((yR 0 (wi - 0).toNat).map V.int))):=(Ext.refl _).new ht1 _
  have d3:(L2.upd H2 t1 (.tup ((yR 0 (wi - 0).toNat).map V.int))) t1=some (.tup ((upto wi.toNat).map V.int)):=by
   rw[j7]
   unfold yR
   rw[Int.sub_zero]
   congr 3
   exact gz fun t _=>dX _
  show tCons _ _ _ (L2.upd H2 t1 (.tup ((yR 0 (wi - 0).toNat).map V.int))) _
  generalize L2.upd H2 t1 (.tup ((yR 0 (wi - 0).toNat).map V.int))=H3 at e3 d3
  have e13:=e2.trans e3
  refine⟨_,rfl,b,_,2,_,rfl,rfl,SqT.of (e13 _ _ b1),rfl,qp,_,rfl, .inr (SqT.of (e13 _ _ b3)),_,rfl,fun rg2 hrg2=>?_⟩
  have e4:Ext H3 (L2.upd H3 rg2 (.rng 0 (ps.length:Int))):=(Ext.refl _).new hrg2 _
  have d4:(L2.upd H3 rg2 (.rng 0 (ps.length:Int))) rg2=some (.rng 0 (ps.length:Int)):=j7
  generalize L2.upd H3 rg2 (.rng 0 (ps.length:Int))=H4 at e4 d4
  refine⟨rg2,0,(ps.length:Int),rfl,d4,by omega,by omega,by omega,fun t2 ht2=>?_⟩
  have e5:Ext H4 (L2.upd H4 t2 (.tup ((yR 0 ((ps.length:Int) - 0).toNat).map V.int))):=(Ext.refl _).new ht2 _
  have d5:(L2.upd H4 t2 (.tup ((yR 0 ((ps.length:Int) - 0).toNat).map V.int))) t2=some (.tup ((upto pcs.length).map V.int)):=by
   rw[j7]
   unfold yR
   rw[Int.sub_zero,bj,pl]
   congr 3
   exact gz fun t _=>dX _
  generalize L2.upd H4 t2 (.tup ((yR 0 ((ps.length:Int) - 0).toNat).map V.int))=H5 at e5 d5
  refine⟨by show (2:Nat)<=_; decide,fun sm H6 d6 e6=>?_⟩
  have e36:=(e4.trans e5).trans e6
  have e16:=e13.trans e36
  have t6:=tab1.ext e16
  have S6:=S1.extT (ExtT.of e16) tab1
  have B6:=B1.mono e16.tups
  have u1:OrdT H6 wi.toNat (.ref t1):=⟨t1,_,rfl,e36 _ _ d3, .refl _⟩
  have u2:OrdT H6 pcs.length (.ref t2):=⟨t2,_,rfl,e6 _ _ d5, .refl _⟩
  refine⟨1,6,rfl,by decide,jBG (n:=5) (fun i σ H'=>(∃ v3 v4 v5 v6 v7 v8 v9 v10,σ=[some (.ref a),some (.ref b),some (.ref sm),v3,v4,v5,v6,v7,v8,v9,v10])/\ExtT tb H6 H'/\TabP H' tb) ⟨⟨_,_,_,_,_,_,_,_,rfl⟩,ExtT.refl _,t6⟩ ?_ ?_⟩
  ·rintro i σ H' hi ⟨⟨v3,v4,v5,v6,v7,v8,v9,v10,rfl⟩,e,t'⟩
   have TU:=Tups.ofT e t6
   exact jGU T CC CP CD CI CN CW CO CB CR hr (S6.extT e t6) (by omega) (B6.mono TU) g (TU _ _ d6) (u1.mono TU) (u2.mono TU) t' fun H2 v4 v5 v6 v7 v8 v9 v10 e2 t2=>⟨⟨_,_,_,_,_,_,_,_,rfl⟩,e.trans e2,t2⟩
  ·rintro σ H2 ⟨⟨v3,v4,v5,v6,v7,v8,v9,v10,rfl⟩,e2,t2⟩
   exact q H2
end
theorem lenU1 {P:List Value->Prop} :∀ {us:List Value},us.length=1->(∀ a,P [a])->P us
 | [a],_,h=>h a
theorem lenU2 {P:List Value->Prop} :∀ {us:List Value},us.length=2->(∀ a b,P [a,b])->P us
 | [a,b],_,h=>h a b
theorem lenU3 {P:List Value->Prop} :∀ {us:List Value},us.length=3->(∀ a b c,P [a,b,c])->P us
 | [a,b,c],_,h=>h a b c
theorem lenU4 {P:List Value->Prop} :∀ {us:List Value},us.length=4->(∀ a b c d,P [a,b,c,d])->P us
 | [a,b,c,d],_,h=>h a b c d
set_option maxHeartbeats 8000000 in
theorem all_mk {l:PySem.W.OpenLaw}{w:World}{K:W.Frag}{h:Heap}{mg:Str->Option Value}{fa f1 f2 f3 f4 f5 f6 f7 f8 f9 f10 f11 f12 f13 f14 f15 f16 f17 f18 f19:Addr}(X:K.In h)(G:h.Ns mainGlobals mg)(hfa:mg "law" =some (.ref fa))
  {od1 an1 od2 an2 od3 an3 od4 an4 od5 an5 od6 an6 od7 an7 od8 an8 od9 an9 od10 an10 od11 an11 od12 an12 od13 an13 od14 an14 od15 an15 od16 an16 od17 an17 od18 an18 od19 an19:Option Addr}{sl1 sl2 sl3 sl4 sl5 sl6 sl7 sl8 sl9 sl10 sl11 sl12 sl13 sl14 sl15 sl16 sl17 sl18 sl19:Array (Option Value)}{oc1 kV1 dc1 pm1 cd1 ct1 oc2 kV2 dc2 pm2 cd2 ct2 oc3 kV3 dc3 pm3 cd3 ct3 oc4 kV4 dc4 pm4 cd4 ct4 oc5 kV5 dc5 pm5 cd5 ct5 oc6 kV6 dc6 pm6 cd6 ct6 oc7 kV7 dc7 pm7 cd7 ct7 oc8 kV8 dc8 pm8 cd8 ct8 oc9 kV9 dc9 pm9 cd9 ct9 oc10 kV10 dc10 pm10 cd10 ct10 oc11 kV11 dc11 pm11 cd11 ct11 oc12 kV12 dc12 pm12 cd12 ct12 oc13 kV13 dc13 pm13 cd13 ct13 oc14 kV14 dc14 pm14 cd14 ct14 oc15 kV15 dc15 pm15 cd15 ct15 oc16 kV16 dc16 pm16 cd16 ct16 oc17 kV17 dc17 pm17 cd17 ct17 oc18 kV18 dc18 pm18 cd18 ct18 oc19 kV19 dc19 pm19 cd19 ct19:Value}
  (a1:PySem.W.nsIn K mainGlobals "is_whole" =some (some (.ref f1))) (l1:K.lookup f1=some ⟨oc1,od1, .func (PySem.W.fnOf "is_whole" "is_whole" (jN jAL) (jD jAL) (j9 jAL) .none kV1 dc1 pm1 an1 cd1 ct1),sl1⟩) (c1:PySem.W.codeIn K cd1 "is_whole" =true) (k1:keepIn K (.ref f1)=true)
  (a2:PySem.W.nsIn K mainGlobals "picked" =some (some (.ref f2))) (l2:K.lookup f2=some ⟨oc2,od2, .func (PySem.W.fnOf "picked" "picked" (jN kI) (jD kI) (j9 kI) .none kV2 dc2 pm2 an2 cd2 ct2),sl2⟩) (c2:PySem.W.codeIn K cd2 "picked" =true) (k2:keepIn K (.ref f2)=true)
  (a3:PySem.W.nsIn K mainGlobals "is_order" =some (some (.ref f3))) (l3:K.lookup f3=some ⟨oc3,od3, .func (PySem.W.fnOf "is_order" "is_order" (jN yB) (jD yB) (j9 yB) .none kV3 dc3 pm3 an3 cd3 ct3),sl3⟩) (c3:PySem.W.codeIn K cd3 "is_order" =true) (k3:keepIn K (.ref f3)=true)
  (a4:PySem.W.nsIn K mainGlobals "named_anew" =some (some (.ref f4))) (l4:K.lookup f4=some ⟨oc4,od4, .func (PySem.W.fnOf "named_anew" "named_anew" (jN sAnew) (jD sAnew) (j9 sAnew) .none kV4 dc4 pm4 an4 cd4 ct4),sl4⟩) (c4:PySem.W.codeIn K cd4 "named_anew" =true) (k4:keepIn K (.ref f4)=true)
  (a5:PySem.W.nsIn K mainGlobals "_law_cell_at" =some (some (.ref f5))) (l5:K.lookup f5=some ⟨oc5,od5, .func (PySem.W.fnOf "_law_cell_at" "_law_cell_at" (jN sCell) (jD sCell) (j9 sCell) .none kV5 dc5 pm5 an5 cd5 ct5),sl5⟩) (c5:PySem.W.codeIn K cd5 "_law_cell_at" =true) (k5:keepIn K (.ref f5)=true)
  (a6:PySem.W.nsIn K mainGlobals "_law_pot" =some (some (.ref f6))) (l6:K.lookup f6=some ⟨oc6,od6, .func (PySem.W.fnOf "_law_pot" "_law_pot" (jN sPot) (jD sPot) (j9 sPot) .none kV6 dc6 pm6 an6 cd6 ct6),sl6⟩) (c6:PySem.W.codeIn K cd6 "_law_pot" =true) (k6:keepIn K (.ref f6)=true)
  (a7:PySem.W.nsIn K mainGlobals "_law_take" =some (some (.ref f7))) (l7:K.lookup f7=some ⟨oc7,od7, .func (PySem.W.fnOf "_law_take" "_law_take" (jN sTake) (jD sTake) (j9 sTake) .none kV7 dc7 pm7 an7 cd7 ct7),sl7⟩) (c7:PySem.W.codeIn K cd7 "_law_take" =true) (k7:keepIn K (.ref f7)=true)
  (a8:PySem.W.nsIn K mainGlobals "_law_lot" =some (some (.ref f8))) (l8:K.lookup f8=some ⟨oc8,od8, .func (PySem.W.fnOf "_law_lot" "_law_lot" (jN sLot) (jD sLot) (j9 sLot) .none kV8 dc8 pm8 an8 cd8 ct8),sl8⟩) (c8:PySem.W.codeIn K cd8 "_law_lot" =true) (k8:keepIn K (.ref f8)=true)
  (a9:PySem.W.nsIn K mainGlobals "_law_box" =some (some (.ref f9))) (l9:K.lookup f9=some ⟨oc9,od9, .func (PySem.W.fnOf "_law_box" "_law_box" (jN sBox) (jD sBox) (j9 sBox) .none kV9 dc9 pm9 an9 cd9 ct9),sl9⟩) (c9:PySem.W.codeIn K cd9 "_law_box" =true) (k9:keepIn K (.ref f9)=true)
  (a10:PySem.W.nsIn K mainGlobals "_law_whole" =some (some (.ref f10))) (l10:K.lookup f10=some ⟨oc10,od10, .func (PySem.W.fnOf "_law_whole" "_law_whole" (jN jBC) (jD jBC) (j9 jBC) .none kV10 dc10 pm10 an10 cd10 ct10),sl10⟩) (c10:PySem.W.codeIn K cd10 "_law_whole" =true) (k10:keepIn K (.ref f10)=true)
  (a11:PySem.W.nsIn K mainGlobals "_law_wholes" =some (some (.ref f11))) (l11:K.lookup f11=some ⟨oc11,od11, .func (PySem.W.fnOf "_law_wholes" "_law_wholes" (jN yK) (jD yK) (j9 yK) .none kV11 dc11 pm11 an11 cd11 ct11),sl11⟩) (c11:PySem.W.codeIn K cd11 "_law_wholes" =true) (k11:keepIn K (.ref f11)=true)
  (a12:PySem.W.nsIn K mainGlobals "_law_drawn" =some (some (.ref f12))) (l12:K.lookup f12=some ⟨oc12,od12, .func (PySem.W.fnOf "_law_drawn" "_law_drawn" (jN jAY) (jD jAY) (j9 jAY) .none kV12 dc12 pm12 an12 cd12 ct12),sl12⟩) (c12:PySem.W.codeIn K cd12 "_law_drawn" =true) (k12:keepIn K (.ref f12)=true)
  (a13:PySem.W.nsIn K mainGlobals "_law_order" =some (some (.ref f13))) (l13:K.lookup f13=some ⟨oc13,od13, .func (PySem.W.fnOf "_law_order" "_law_order" (jN jA9) (jD jA9) (j9 jA9) .none kV13 dc13 pm13 an13 cd13 ct13),sl13⟩) (c13:PySem.W.codeIn K cd13 "_law_order" =true) (k13:keepIn K (.ref f13)=true)
  (a14:PySem.W.nsIn K mainGlobals "_law_named" =some (some (.ref f14))) (l14:K.lookup f14=some ⟨oc14,od14, .func (PySem.W.fnOf "_law_named" "_law_named" (jN yL) (jD yL) (j9 yL) .none kV14 dc14 pm14 an14 cd14 ct14),sl14⟩) (c14:PySem.W.codeIn K cd14 "_law_named" =true) (k14:keepIn K (.ref f14)=true)
  (a15:PySem.W.nsIn K mainGlobals "_law_others" =some (some (.ref f15))) (l15:K.lookup f15=some ⟨oc15,od15, .func (PySem.W.fnOf "_law_others" "_law_others" (jN yM) (jD yM) (j9 yM) .none kV15 dc15 pm15 an15 cd15 ct15),sl15⟩) (c15:PySem.W.codeIn K cd15 "_law_others" =true) (k15:keepIn K (.ref f15)=true)
  (a16:PySem.W.nsIn K mainGlobals "_law_is_box" =some (some (.ref f16))) (l16:K.lookup f16=some ⟨oc16,od16, .func (PySem.W.fnOf "_law_is_box" "_law_is_box" (jN yU) (jD yU) (j9 yU) .none kV16 dc16 pm16 an16 cd16 ct16),sl16⟩) (c16:PySem.W.codeIn K cd16 "_law_is_box" =true) (k16:keepIn K (.ref f16)=true)
  (a17:PySem.W.nsIn K mainGlobals "_law_odd" =some (some (.ref f17))) (l17:K.lookup f17=some ⟨oc17,od17, .func (PySem.W.fnOf "_law_odd" "_law_odd" (jN sOdd) (jD sOdd) (j9 sOdd) .none kV17 dc17 pm17 an17 cd17 ct17),sl17⟩) (c17:PySem.W.codeIn K cd17 "_law_odd" =true) (k17:keepIn K (.ref f17)=true)
  (a18:PySem.W.nsIn K mainGlobals "_law_refused" =some (some (.ref f18))) (l18:K.lookup f18=some ⟨oc18,od18, .func (PySem.W.fnOf "_law_refused" "_law_refused" (jN yA) (jD yA) (j9 yA) .none kV18 dc18 pm18 an18 cd18 ct18),sl18⟩) (c18:PySem.W.codeIn K cd18 "_law_refused" =true) (k18:keepIn K (.ref f18)=true)
  (a19:PySem.W.nsIn K mainGlobals "law" =some (some (.ref f19))) (l19:K.lookup f19=some ⟨oc19,od19, .func (PySem.W.fnOf "law" "law" (jN sLaw) (jD sLaw) (j9 sLaw) .none kV19 dc19 pm19 an19 cd19 ct19),sl19⟩) (c19:PySem.W.codeIn K cd19 "law" =true) (k19:keepIn K (.ref f19)=true)
   (z1:PySem.W.nsIn K mainGlobals "len" =some none) (z2:PySem.W.nsIn K mainGlobals "range" =some none) (z3:PySem.W.nsIn K mainGlobals "tuple" =some none) (z4:PySem.W.nsIn K mainGlobals "sorted" =some none) (z5:PySem.W.nsIn K mainGlobals "set" =some none) (z6:PySem.W.nsIn K mainGlobals "list" =some none) (z7:PySem.W.nsIn K mainGlobals "int" =some none) (z8:PySem.W.nsIn K mainGlobals "isinstance" =some none) (z9:PySem.W.nsIn K mainGlobals "bool" =some none) (z10:PySem.W.nsIn K mainGlobals "str" =some none) (z11:PySem.W.nsIn K mainGlobals "all" =some none) (z12:PySem.W.nsIn K mainGlobals "zip" =some none) (z13:PySem.W.nsIn K mainGlobals "max" =some none) (z14:PySem.W.nsIn K mainGlobals "min" =some none) (z15:PySem.W.nsIn K mainGlobals "any" =some none) (z16:PySem.W.nsIn K mainGlobals "abs" =some none) (z17:PySem.W.nsIn K mainGlobals "sum" =some none) (z18:PySem.W.nsIn K mainGlobals "enumerate" =some none) (z19:PySem.W.nsIn K mainGlobals "dict" =some none) (z20:PySem.W.nsIn K mainGlobals "ValueError" =some none)
  {cT cO:Addr}{cl:Nat->Addr}(x0:PySem.W.nsIn K mainGlobals "OnceError" =some (some (.ref cO))) (x1:PySem.W.nsIn K mainGlobals "NoOrder" =some (some (.ref cT))) (x2:ExcK K cT) (x3:Above K cT cO) (x4:ExcIs K cT) (x5:∀ i x,jCB[i]?=some x->PySem.W.nsIn K mainGlobals x=some (some (.ref (cl i)))) (x6:∀ i,i<10->kitOne K (.ref cT) (.ref (cl i))=some (decide (i=3))) (x7:kitOne K (.ref cT) (.type "ValueError")=some true) {tb1 cc1:Addr}(cde1:cd2= .ref cc1) (hcd1:codeHdIn K cc1 tb1=true) {bmA:Addr}(xb1:PySem.W.nsIn K mainGlobals "__builtins__" =some (some (.ref bmA))) (xb2:K.lookup bmA=some ⟨.type "module",some builtinsNs, .plain,#[]⟩) (xb3:bmA≠builtinsNs) (xb4:bmA≠mainGlobals):
  ∃ fd:FuncData,(∀ (s:Shared) (v:Value),BindsTo s fd ⟨[v],[]⟩ [("script",v)])/\∀ base:Heap,K.In base->base.Ns mainGlobals mg->FnOk l.prog w K mg base CX0 5 fa fd ["script"] (spLaw K tb1):=by
 have e:=hfa.symm.trans (dw X G a19)
 cases e
 have T:Txt mg:=⟨aw X G z1,aw X G z2,aw X G z3,aw X G z4,aw X G z5,aw X G z6,aw X G z7,aw X G z8,aw X G z9,aw X G z10,aw X G z11,aw X G z12,aw X G z13,aw X G z14,aw X G z15,aw X G z16,aw X G z17,aw X G z18,aw X G z19,aw X G z20⟩
 have F1:=kW (st:=jAL) l1 c1 k1
 have b1:=F1.binds (ps:=["thing"]) fun _ _ _ _ _ _ us hl=>lenU1 (P:=fun us=>bindArgs _ ⟨us,[]⟩=pure (List.zip _ us)) hl fun _=>rfl
 have F2:=kW (st:=kI) l2 c2 k2
 have b2:=F2.binds (ps:=["box","things","pieces"]) fun _ _ _ _ _ _ us hl=>lenU3 (P:=fun us=>bindArgs _ ⟨us,[]⟩=pure (List.zip _ us)) hl fun _ _ _=>rfl
 have F3:=kW (st:=yB) l3 c3 k3
 have b3:=F3.binds (ps:=["thing","many"]) fun _ _ _ _ _ _ us hl=>lenU2 (P:=fun us=>bindArgs _ ⟨us,[]⟩=pure (List.zip _ us)) hl fun _ _=>rfl
 have F4:=kW (st:=sAnew) l4 c4 k4
 have b4:=F4.binds (ps:=["box","things","pieces"]) fun _ _ _ _ _ _ us hl=>lenU3 (P:=fun us=>bindArgs _ ⟨us,[]⟩=pure (List.zip _ us)) hl fun _ _ _=>rfl
 have F5:=kW (st:=sCell) l5 c5 k5
 have b5:=F5.binds (ps:=["script","k"]) fun _ _ _ _ _ _ us hl=>lenU2 (P:=fun us=>bindArgs _ ⟨us,[]⟩=pure (List.zip _ us)) hl fun _ _=>rfl
 have F6:=kW (st:=sPot) l6 c6 k6
 have b6:=F6.binds (ps:=["cell"]) fun _ _ _ _ _ _ us hl=>lenU1 (P:=fun us=>bindArgs _ ⟨us,[]⟩=pure (List.zip _ us)) hl fun _=>rfl
 have F7:=kW (st:=sTake) l7 c7 k7
 have b7:=F7.binds (ps:=["pot","wide"]) fun _ _ _ _ _ _ us hl=>lenU2 (P:=fun us=>bindArgs _ ⟨us,[]⟩=pure (List.zip _ us)) hl fun _ _=>rfl
 have F8:=kW (st:=sLot) l8 c8 k8
 have b8:=F8.binds (ps:=["pot","wide"]) fun _ _ _ _ _ _ us hl=>lenU2 (P:=fun us=>bindArgs _ ⟨us,[]⟩=pure (List.zip _ us)) hl fun _ _=>rfl
 have F9:=kW (st:=sBox) l9 c9 k9
 have b9:=F9.binds (ps:=["pot","most_things","most_pieces"]) fun _ _ _ _ _ _ us hl=>lenU3 (P:=fun us=>bindArgs _ ⟨us,[]⟩=pure (List.zip _ us)) hl fun _ _ _=>rfl
 have F10:=kW (st:=jBC) l10 c10 k10
 have b10:=F10.binds (ps:=["found"]) fun _ _ _ _ _ _ us hl=>lenU1 (P:=fun us=>bindArgs _ ⟨us,[]⟩=pure (List.zip _ us)) hl fun _=>rfl
 have F11:=kW (st:=yK) l11 c11 k11
 have b11:=F11.binds (ps:=["found"]) fun _ _ _ _ _ _ us hl=>lenU1 (P:=fun us=>bindArgs _ ⟨us,[]⟩=pure (List.zip _ us)) hl fun _=>rfl
 have F12:=kW (st:=jAY) l12 c12 k12
 have b12:=F12.binds (ps:=["script","k","things","pieces"]) fun _ _ _ _ _ _ us hl=>lenU4 (P:=fun us=>bindArgs _ ⟨us,[]⟩=pure (List.zip _ us)) hl fun _ _ _ _=>rfl
 have F13:=kW (st:=jA9) l13 c13 k13
 have b13:=F13.binds (ps:=["pot","wide"]) fun _ _ _ _ _ _ us hl=>lenU2 (P:=fun us=>bindArgs _ ⟨us,[]⟩=pure (List.zip _ us)) hl fun _ _=>rfl
 have F14:=kW (st:=yL) l14 c14 k14
 have b14:=F14.binds (ps:=["box","things","pieces"]) fun _ _ _ _ _ _ us hl=>lenU3 (P:=fun us=>bindArgs _ ⟨us,[]⟩=pure (List.zip _ us)) hl fun _ _ _=>rfl
 have F15:=kW (st:=yM) l15 c15 k15
 have b15:=F15.binds (ps:=["e","own"]) fun _ _ _ _ _ _ us hl=>lenU2 (P:=fun us=>bindArgs _ ⟨us,[]⟩=pure (List.zip _ us)) hl fun _ _=>rfl
 have F16:=kW (st:=yU) l16 c16 k16
 have b16:=F16.binds (ps:=["found","due"]) fun _ _ _ _ _ _ us hl=>lenU2 (P:=fun us=>bindArgs _ ⟨us,[]⟩=pure (List.zip _ us)) hl fun _ _=>rfl
 have F17:=kW (st:=sOdd) l17 c17 k17
 have b17:=F17.binds (ps:=["pot","order"]) fun _ _ _ _ _ _ us hl=>lenU2 (P:=fun us=>bindArgs _ ⟨us,[]⟩=pure (List.zip _ us)) hl fun _ _=>rfl
 have F18:=kW (st:=yA) l18 c18 k18
 have b18:=F18.binds (ps:=["box","things","pieces"]) fun _ _ _ _ _ _ us hl=>lenU3 (P:=fun us=>bindArgs _ ⟨us,[]⟩=pure (List.zip _ us)) hl fun _ _ _=>rfl
 have F19:=kW (st:=sLaw) l19 c19 k19
 refine⟨PySem.W.fnOf "law" "law" (jN sLaw) (jD sLaw) (j9 sLaw) .none kV19 dc19 pm19 an19 cd19 ct19,fun s v=> .of_eq rfl,fun base KB _=>?_⟩
 have M:=fun {x:Str}{f:Addr}(a:PySem.W.nsIn K mainGlobals x=some (some (.ref f)))=>dw X G a
 have M':=fun {x:Str}{v:Value}(a:PySem.W.nsIn K mainGlobals x=some (some v))=>dw X G a
 have CD1:PySem.W.CodeHd base cc1 tb1:=gw KB hcd1
 have FC1:FunC K "picked" "picked" kI f2 _ cc1:=⟨_,_,_,_,_,_,_,_,rfl,cde1 ▸ l2,cde1 ▸ c2⟩
 have BM:BltAt base mg:=⟨bmA,_,dw X G xb1,xb3,xb4,KB _ _ xb2,rfl,rfl,rfl⟩
 have KD:Kinds K mg cT cl (fun i=>decide (i=3)):=⟨x4,fun i x h=>M (x5 i x h),x6,x7⟩
 have C1:Can l.prog w K mg base "is_whole" 1 f1 _ ["thing"] spWh:=⟨jIF F1 T,M a1,k1,b1⟩
 have C2:Can l.prog w K mg base "picked" 2 f2 _ ["box","things","pieces"] (jC9 tb1):=⟨jIG FC1 T CD1 BM,M a2,k2,b2⟩
 have C3:Can l.prog w K mg base "is_order" 2 f3 _ ["thing","many"] spOrd:=⟨jH5 F3 T C1,M a3,k3,b3⟩
 have C4:CanX cT l.prog w K mg base "named_anew" 3 f4 _ ["box","things","pieces"] (y9 tb1):=⟨jKL F4 T C3 C2 x2 (M x1),M a4,k4,b4⟩
 have C5:Can l.prog w K mg base "_law_cell_at" 1 f5 _ ["script","k"] (yJ K):=⟨jMI F5 T,M a5,k5,b5⟩
 have C6:Can l.prog w K mg base "_law_pot" 1 f6 _ ["cell"] yX:=⟨jNZ F6 T,M a6,k6,b6⟩
 have C7:Can l.prog w K mg base "_law_take" 1 f7 _ ["pot","wide"] kG:=⟨jMH F7,M a7,k7,b7⟩
 have C8:Can l.prog w K mg base "_law_lot" 2 f8 _ ["pot","wide"] yZ:=⟨jO1 F8 T C7,M a8,k8,b8⟩
 have C9:Can l.prog w K mg base "_law_box" 3 f9 _ ["pot","most_things","most_pieces"] spBox:=⟨jO3 F9 T C7 C8,M a9,k9,b9⟩
 have C10:Can l.prog w K mg base "_law_whole" 1 f10 _ ["found"] spWh:=⟨jKH F10 T,M a10,k10,b10⟩
 have C11:Can l.prog w K mg base "_law_wholes" 2 f11 _ ["found"] jC8:=⟨jIE F11 T C10,M a11,k11,b11⟩
 have C12:Can l.prog w K mg base "_law_drawn" 4 f12 _ ["script","k","things","pieces"] (yF K):=⟨jKK F12 T C5 C6 C7 C9,M a12,k12,b12⟩
 have C13:Can l.prog w K mg base "_law_order" 2 f13 _ ["pot","wide"] kZ:=⟨jIC F13 T C7,M a13,k13,b13⟩
 have C14:Can l.prog w K mg base "_law_named" 1 f14 _ ["box","things","pieces"] y0:=⟨jID F14 T,M a14,k14,b14⟩
 have C15:CanS l.prog w K mg base "_law_others" 1 f15 _ ["e","own"] (jCA cT fun i=>decide (i=3)):=⟨jIH F15 T KD,M a15,k15,b15⟩
 have C16:Can l.prog w K mg base "_law_is_box" 3 f16 _ ["found","due"] yE:=⟨jKJ F16 T C10 C11,M a16,k16,b16⟩
 have C17:Can l.prog w K mg base "_law_odd" 2 f17 _ ["pot","order"] qA:=⟨jO0 F17 T C7,M a17,k17,b17⟩
 have C18:Can l.prog w K mg base "_law_refused" 4 f18 _ ["box","things","pieces"] (kP tb1):=⟨jH4 F18 T C4 C15 (M x0) x3,M a18,k18,b18⟩
 exact jO2 F19 T C5 C6 C12 C16 (CanX.noX C4) C14 C13 C17 C18
def kcl (i:Nat):Addr:=[140,68,152,128,104,164,56,92,116,80].getD i 0
theorem kcC (P:Params){h:Heap}(X:(kK P).In h):h.get? 128=some (excClassObj "NoOrder" "NoOrder" 128 127 [.ref 36] [.ref 36, .type "ValueError", .type "Exception", .type "BaseException", .type "object"] true [] [] false none none (some (.ref 119)) (none) (some (.str "NoOrder" 329)) (some (.str "NoOrder" 337)) (some (.bool true)) "ValueError.__new__"):=X 128 _ (by kernel_rfl)
def kesC (P:Params):Array DictEntry:=#[kE P "__module__" 336 (.str "eachonce.errors" 204),kE P "__firstlineno__" 340 (.int 29 339),kE P "__static_attributes__" 341 (.ref 126),kE P "__doc__" 342 (.none)]
theorem kNC (P:Params){h:Heap}(X:(kK P).In h):h.Ns 127 (nsFind (kesC P)):=⟨⟨.type "dict",none, .dict (kesC P) 2,#[]⟩,_,_,X 127 _ (by kernel_rfl),rfl,fun e he=>by
  unfold kesC at he
  simp only [List.mem_toArray,aq,aJ,bL] at he
  rcases he with rfl | rfl | rfl | rfl <;> exact⟨_,_,rfl⟩,fun _=>rfl⟩
theorem kcB (P:Params){h:Heap}(X:(kK P).In h):h.get? 36=some (excClassObj "OnceError" "OnceError" 36 35 [.type "ValueError"] [.type "ValueError", .type "Exception", .type "BaseException", .type "object"] true [] [.ref 56, .ref 68, .ref 80, .ref 92, .ref 104, .ref 116, .ref 128, .ref 140, .ref 152, .ref 164] false none none (some (.ref 27)) (none) (some (.str "OnceError" 206)) (some (.str "OnceError" 214)) (some (.bool true)) "ValueError.__new__"):=X 36 _ (by kernel_rfl)
def kesB (P:Params):Array DictEntry:=#[kE P "__module__" 213 (.str "eachonce.errors" 204),kE P "__firstlineno__" 217 (.int 12 216),kE P "__static_attributes__" 218 (.ref 34),kE P "__weakref__" 220 (.ref 37),kE P "__doc__" 221 (.none)]
theorem kNB (P:Params){h:Heap}(X:(kK P).In h):h.Ns 35 (nsFind (kesB P)):=⟨⟨.type "dict",none, .dict (kesB P) 3,#[]⟩,_,_,X 35 _ (by kernel_rfl),rfl,fun e he=>by
  unfold kesB at he
  simp only [List.mem_toArray,aq,aJ,bL] at he
  rcases he with rfl | rfl | rfl | rfl | rfl <;> exact⟨_,_,rfl⟩,fun _=>rfl⟩
theorem kx2 (P:Params):ExcK (kK P) 128:=⟨"NoOrder","NoOrder",127,[.ref 36],[.ref 36, .type "ValueError", .type "Exception", .type "BaseException", .type "object"],true,[],[],false,none,none,some (.ref 119),none,some (.str "NoOrder" 329),some (.str "NoOrder" 337),some (.bool true),nsFind (kesC P),by kernel_rfl,by kernel_rfl,fun h X=>⟨kcC P X,kNC P X, .own (kcB P X) (kNB P X) (by kernel_rfl) .base⟩⟩
theorem kx3 (P:Params):Above (kK P) 128 36:=⟨"NoOrder","NoOrder","OnceError","OnceError",127,35,[.ref 36],[.ref 36, .type "ValueError", .type "Exception", .type "BaseException", .type "object"],[.type "ValueError"],[.type "ValueError", .type "Exception", .type "BaseException", .type "object"],true,true,[],[],[],[.ref 56, .ref 68, .ref 80, .ref 92, .ref 104, .ref 116, .ref 128, .ref 140, .ref 152, .ref 164],false,false,none,none,none,none,some (.ref 119),none,some (.str "NoOrder" 329),some (.str "NoOrder" 337),some (.bool true),some (.ref 27),none,some (.str "OnceError" 206),some (.str "OnceError" 214),some (.bool true),"ValueError.__new__","ValueError.__new__",by kernel_rfl,by kernel_rfl,fun h X=>⟨kcC P X,kcB P X⟩⟩
theorem kx4 (P:Params):ExcIs (kK P) 128:=⟨by kernel_rfl,by kernel_rfl,by kernel_rfl,by kernel_rfl,by kernel_rfl,by kernel_rfl,by kernel_rfl,by kernel_rfl⟩
theorem kx5 (P:Params):∀ i x,jCB[i]?=some x->PySem.W.nsIn (kK P) mainGlobals x=some (some (.ref (kcl i)))
 | 0,_,rfl | 1,_,rfl | 2,_,rfl | 3,_,rfl | 4,_,rfl | 5,_,rfl | 6,_,rfl | 7,_,rfl | 8,_,rfl | 9,_,rfl=>by kernel_rfl
 | _+10,_,h=>by cases h
theorem kx6 (P:Params):∀ i,i<10->kitOne (kK P) (.ref 128) (.ref (kcl i))=some (decide (i=3))
 | 0,_ | 1,_ | 2,_ | 3,_ | 4,_ | 5,_ | 6,_ | 7,_ | 8,_ | 9,_=>by kernel_rfl
 | _+10,h=>by omega
theorem kx7 (P:Params):kitOne (kK P) (.ref 128) (.type "ValueError")=some true:=by kernel_rfl
theorem walk {l:PySem.W.OpenLaw}{q:Program}{loose:List Str}{XP:(Str->Option Value)->Heap->Prop}{YP:World->Heap->Prop}{d:DefRec}{K:Params->W.Frag}(hn:l.most=some 63)(hdf:d.params.defaults=[]){tb1:Addr}{cc1:Addr}
  (hY:∀ (w:World) (h:Heap),YP w h->(K w.params).In h/\∀ T∈[tb1],h.get? T=some (tabObj #[])) (hcd:∀ w:World,codeHdIn (K w.params) cc1 tb1=true) (hKT:∀ w:World,∀ T∈[tb1],(K w.params).lookup T=none) (hnd:([tb1]:List Addr).Nodup)
  (F:∀ (w:World) (mg:Str->Option Value) (fa:Addr) (h:Heap),(K w.params).In h->h.Ns mainGlobals mg->mg d.name=some (.ref fa)->
   ∃ fd:FuncData,(∀ (s:Shared) (u:Value),BindsTo s fd ⟨[u],[]⟩ [("script",u)])/\∀ base:Heap,(K w.params).In base->base.Ns mainGlobals mg->FnOk l.prog w (K w.params) mg base CX0 5 fa fd ["script"] (spLaw (K w.params) tb1)):
  PySem.W.WalkO q loose XP YP l.row.toRowW d [] (fun f vs=>PySem.call f vs):=
 L2.walk_ofTs (cts:=[(cc1,tb1)]) (n:=63) (k:=5) (x:= "script") (CX:=fun _=>CX0) (sp:=fun w=>spLaw (K w.params) tb1) hn (by decide) hdf ⟨rfl,by decide,by decide⟩ hY (fun w p hp=>by
  obtain _h0:=hcd w
  simp only [aq,aJ,bL] at hp
  rcases hp with rfl <;> assumption) hKT F (fun _ H a ns hl hT hS=>⟨a,ns,rfl,hS,hl, .inl (hT _ aB),fun _=>rfl⟩) fun _ _ _ _ _ z=>z
end Eo
open PySem PySem.W PyProof.Rows
set_option maxRecDepth 100000 in
set_option maxHeartbeats 0 in
theorem PySem.Challenge.cw_eachonce_k83_boxes_named_anew_holds : PySem.Challenge.rw_eachonce_k83_boxes_named_anew.Holds := by
 w_on
 refine holds_law (by decide+kernel) fun said=>?_
 refine holds_open (q:=Eo.vw) (loose:=[]) (Xt:=fun s=>xlAt Eo.vw [] s&&recOk (RowW.records (OpenRow.toRowW PySem.Challenge.rw_eachonce_k83_boxes_named_anew.row)) s) (XP:=XL Eo.vw []) (Yf:=Hook.obs Eo.kH) (Ya:=Hook.val Eo.kH) (YP:=Hook.says Eo.kH) (N:=7100) Eo.left (Hook.of Eo.kH) (Hook.keeps Eo.kH) (fun s e=>xl_of s (gq.mp e).1) XL.keeps (by rfl) (by rfl) (by rfl) (fun s e=>recFacts_of (gq.mp e).2) rfl said (by decide+kernel) ⟨rfl,rfl,rfl,rfl,rfl,by decide+kernel⟩ ?hw ?hc
 case hw=>w_witness2
 refine Eo.walk (l:=PySem.Challenge.rw_eachonce_k83_boxes_named_anew) (K:=Eo.kK) rfl rfl (tb1:=23) (cc1:=25) (fun w h Y=>⟨PySem.W.km_in_of Y,PySem.W.km_tabs_of Y⟩) (fun w=>by kernel_rfl) (fun w T hm=>by
   simp only [aq,aJ,bL] at hm
   rcases hm with rfl <;> kernel_rfl) (by decide) ?F
 case F=>
  intro w mg fa h KX G hmg
  k_fill
  refine' Eo.all_mk KX G hmg _ _ _ _ _ _ _ _ _ _ _ _ _ _ _ _ _ _ _ _ _ _ _ _ _ _ _ _ _ _ _ _ _ _ _ _ _ _ _ _ _ _ _ _ _ _ _ _ _ _ _ _ _ _ _ _ _ _ _ _ _ _ _ _ _ _ _ _ _ _ _ _ _ _ _ _ _ _ _ _ _ _ _ _ _ _ _ _ _ _ _ _ _ _ _ _ _ _ (Eo.kx2 _) (Eo.kx3 _) (Eo.kx4 _) (Eo.kx5 _) (Eo.kx6 _) (Eo.kx7 _) (tb1:=23) rfl (by kernel_rfl) (bmA:=4) (by kernel_rfl) (by kernel_rfl) (by decide) (by decide)
  all_goals try k_is
end
