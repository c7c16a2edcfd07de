import PyProof.Rows.All
import KE.KDictList
import KE.KDictOf
import KE.KFromBytes
import KE.KIntText
import KE.KIsAll
import KE.KLam
import KE.KNestM
import KE.KRevIter
import KE.KSortTup
import PySem.Challenge.RW_eachonce_k55_whole_kinds_of_wholes_stay
noncomputable section
set_option Elab.async false
set_option linter.all false
set_option maxRecDepth 100000
def aa:=@List.length_map
def ab:=@PySem.wpAny_bind
def ae:=@PySem.Heap.get?_push_of_some
def af:=@List.getD_eq_getElem?_getD
def ag:=@List.getElem?_eq_getElem
def ah:=@PySem.wpAny_pure
def ai:=@if_pos
def aj:=@if_neg
def ak:=@Nat.le_refl
def am:=@List.mem_append_right
def ao:=@List.size_toArray
def aq:=@Bool.false_ne_true
def ar:=@PySem.sizeLine_eq
def au:=@List.mem_cons_self
def av:=@List.mem_cons_of_mem
def aw:=@PySem.Heap.lt_size
def ax:=@decide_eq_true
def ay:=@List.mem_cons
def az:=@List.mem_append
def aC:=@List.map_append
def aD:=@PySem.Heap.get?_push_size
def aE:=@List.mem_append_left
def aF:=@List.getElem?_eq_some_iff
def aG:=@of_decide_eq_true
def aH:=@List.mem_of_getElem?
def aJ:=@PyProof.Rows.wpS_bind
def aK:=@List.length_append
def aL:=@PyProof.Rows.wpS_pure
def aM:=@Array.length_toList
def aN:=@decide_eq_false
def aO:=@List.getElem?_map
def aP:=@List.map_cons
def aQ:=@List.mem_map
def aR:=@Nat.lt_of_lt_of_le
def aS:=@Nat.ne_of_lt
def aU:=@List.lookup_cons
def aV:=@List.length_cons
def aW:=@List.mem_singleton
def aX:=@List.take_add_one
def aY:=@Nat.le_trans
def aZ:=@List.length_take
def ba:=@Bool.and_eq_true
def bb:=@Nat.zero_le
def be:=@List.append_assoc
def bf:=@List.take_of_length_le
def bg:=@List.take_append_drop
def bi:=@PySem.W.mg_none_of
def bj:=@Option.some.inj
def bo:=@List.mem_filter
def bq:=@List.mem_range
def br:=@PySem.PassesOwn.never
def bu:=@Array.toList_append
def bv:=@List.mem_map_of_mem
def bw:=@Nat.lt_succ_of_lt
def bA:=@List.getElem?_append_right
def bB:=@congrArg
def bC:=@List.getElem_mem
def bD:=@PySem.F.plainAttrs_list
def bE:=@PySem.Heap.get?_update_other
def bF:=@List.all_eq_true
def bG:=@List.not_mem_nil
def bH:=@List.take_length
def bI:=@List.length_range
def bJ:=@PySem.wpAny_setField_rec
def bK:=@PySem.wpAny_callSpecial?_slot
def bL:=@List.filter_cons
def bM:=@PySem.Heap.size_push
def bN:=@Nat.mul_le_mul_left
def bO:=@Ne.symm
def bP:=@List.pairwise_append
def bQ:=@PySem.wpAny_call_entry
def bS:=@List.append_nil
def bU:=@PySem.wpAny_newObj_type
def bV:=@Array.getElem?_toList
def bW:=@List.length_filter_le
def bX:=@PySem.wpAny_field
def bY:=@Int.toNat_natCast
def bZ:=@PyProof.Rows.wpS_forRange
def b8:=@List.map_map
def b9:=@PyProof.Rows.slot_tuple_getitem
def ce:=@Bool.false_and
def cf:=@Nat.lt_irrefl
def cg:=@List.getElem?_of_mem
def ci:=@List.getElem?_append_left
def cj:=@Nat.mul_le_mul
def ck:=@List.replicate_succ
def cm:=@List.getElem_of_mem
def cn:=@PySem.wpAny_mono
def cq:=@List.getElem?_eq_none
def cr:=@Nat.add_sub_cancel_left
def cw:=@List.mem_of_mem_drop
def cx:=@PySem.wpAny_holding
def cy:=@PySem.W.kia_one
def cz:=@Nat.ne_of_gt
def cB:=@List.length_drop
def cC:=@Int.le_of_lt
def cD:=@beq_eq_false_iff_ne
def cE:=@Bool.true_and
def cG:=@List.nodup_cons
def cH:=@List.filter_append
def cI:=@PySem.Around.under_plainId
def cJ:=@Nat.lt_succ_self
def cK:=@PyProof.Rows.callWith_type1
def cL:=@PySem.wpAny_rule
def cM:=@Array.perm_iff_toList_perm
def cO:=@List.pairwise_map
def cP:=@PySem.mem_of_lookup
def cQ:=@Bool.eq_iff_iff
def cR:=@List.of_mem_zip
def cS:=@PySem.wpAny_loadPart'
def cU:=@List.length_zip
def cV:=@List.pairwise_iff_getElem
def cW:=@List.length_replicate
def cX:=@List.Perm.append_left
def cY:=@List.getElem?_take_of_lt
def cZ:=@PySem.F.slot_list_append
def da:=@PySem.F.type_list_append
def db:=@PyProof.Rows.wpS_mono
def de:=@List.mem_of_mem_take
def df:=@Int.natAbs_mul
def dg:=@PySem.wpAny_setState_of
def dh:=@PySem.codeAny_builtin
def di:=@or_false
def dj:=@Nat.le_of_lt
def dq:=@Int.le_trans
def dv:=@Int.zero_add
def dw:=@List.all_cons
def dy:=@Nat.le_add_right
def dB:=@PySem.wpAny_seqItems
def dE:=@List.zip_cons_cons
def dF:=@PySem.Heap.get?_update_self
def dG:=@List.perm_append_comm
def dH:=@List.extract_eq_take_drop
def dI:=@PySem.wpAny_passesOwn
def dJ:=@PySem.wpAny_pyIter_list
def dL:=@List.flatten_cons
def dM:=@Array.toList_push
def dO:=@Array.toArray_toList
def dP:=@Array.toList_reverse
def dQ:=@PySem.wpAny_attempt
def dR:=@PySem.F.slot_list_insert
def dS:=@PySem.F.type_list_insert
def dU:=@List.sum_cons
def dW:=@List.getElem?_range
def dX:=@List.getElem?_replicate
def dY:=@PySem.F.plain_list_iadd
def dZ:=@PySem.sizeLine_eq
def ed:=@Int.le_refl
def ef:=@List.eq_nil_of_length_eq_zero
def eg:=@of_decide_eq_false
def eh:=@PyProof.Rows.wpS_modify
def ev:=@Nat.not_lt_zero
def eE:=@List.sum_append
def eF:=@List.find?_cons
def eG:=@PySem.wpAny_truthy_bool
def eJ:=@List.take_sublist
def eQ:=@Bool.and_false
def eR:=@Array.toList_extract
def eS:=@PySem.codeAny_mono
def eU:=@PySem.wpAny_askSetting
def eV:=@PySem.Around.in1_units
def eW:=@List.getElem?_zip_eq_some
def eX:=@List.reverse_append
def eY:=@Int.fdiv_mul_cancel
def eZ:=@List.map_congr_left
def fb:=@PySem.F.args_tuple_add_2
def fc:=@PySem.W.mg_of
def fe:=@Option.map_some
def ff:=@Int.emod_nonneg
def fg:=@List.range_succ
def fh:=@PySem.wpAny_Call_Name_kw
def fi:=@List.getElem?_drop
def fj:=@decide_eq_true_iff
def fm:=@Int.emod_lt_of_pos
def fo:=@PySem.F.entry_tuple_add
def fq:=@decide_eq_false_iff_not
def fw:=@Nat.pow_add
def fA:=@Int.dvd_of_emod_eq_zero
def fE:=@Int.emod_eq_zero_of_dvd
def fI:=@PySem.F.slot_tuple_add
def fJ:=@List.Perm.append_right
def fO:=@List.pairwise_lt_range
def fQ:=@List.length_singleton
def fS:=@PySem.builtinLookup_eq_fast
def fV:=@PySem.F.slot_dict_get
def fX:=@List.getElem?_zipWith
def fY:=@beq_self_eq_true
def fZ:=@List.nodup_range
def ga:=@List.perm_middle
def gb:=@PySem.wpAny_isInstance
def gd:=@List.any_eq_true
def ge:=@List.countP_cons
def gf:=@PySem.Paired.length
def gh:=@if_true
def gm:=@List.any_cons
def gn:=@PySem.plainId_quiet
def gq:=@List.map_drop
def gt:=@PySem.wpAny_updateSeq_pair
def gw:=@Nat.pow_le_pow_right
def gx:=@Int.one_mul
def gy:=@PySem.wpAny_execs_nil
def gz:=@List.forIn_cons
def gA:=@List.length_nil
def gB:=@List.all_append
def gC:=@List.filterMap_cons
def gE:=@PySem.Heap.SameBut.update
def gF:=@List.length_take_le
def gG:=@List.length_zipWith
def gH:=@PySem.wpAny_typeOf
def gI:=@List.map_nil
def gJ:=@PySem.F.plain_proto_collect
def gL:=@PyProof.Rows.wpS_get
def gM:=@List.idxOf_lt_length_of_mem
def gN:=@PySem.Calls.Name_function_global
def gO:=@PySem.wpAny_load
def gP:=@PySem.wpAny_pyIter_tuple
def gQ:=@Int.fdiv_eq_ediv_of_nonneg
def gR:=@PySem.Calls.spliced_cons
def gS:=@PySem.call_meets
def gU:=@Nat.lt_of_le_of_lt
def gW:=@List.pairwise_cons
def gX:=@List.forIn_nil
def gY:=@PySem.tupleKind_room_in1
def gZ:=@List.drop_drop
def g8:=@Array.toList_setIfInBounds
def hG:=@Bool.false_eq_true
def hV:=@Int.ofNat_dvd_left
def hW:=@List.perm_append_singleton
def h8:=@List.Perm.refl
def ic:=@List.getElem_idxOf
def ie:=@List.drop_eq_getElem_cons
def ig:=@PySem.Calls.call_function_entry
def ij:=@List.drop_sublist
def ik:=@Option.some.injEq
def il:=@Nat.le_succ
def im:=@PySem.wpAny_letGo
def io:=@Bool.not_eq_true'
def iq:=@Nat.mul_left_comm
def ir:=@List.map_id
def iu:=@PySem.wpAny_standAt
def iw:=@Option.isSome_iff_exists
def ix:=@PySem.wpAny_comprehension_free
def iy:=@PySem.wpAny_newList
def iA:=@PySem.wpAny_onRaise
def iB:=@PyProof.Rows.listUpdate_at
def iC:=@Int.dvd_mul_of_dvd_right
def iD:=@Nat.mul_assoc
def iE:=@PySem.noFill_tuple_add
def iF:=@List.length_eq_zero_iff
def iG:=@List.cons_append
def iH:=@List.zipIdx_cons
def iI:=@PySem.F.args_dict_get_3
def iJ:=@PyProof.Rows.wpS_lift
def iK:=@List.pairwise_singleton
def iM:=@List.map_snd_zip
def iN:=@decide_eq_decide
def iP:=@PySem.F.slot_list_index
def iQ:=@PySem.F.type_list_index
def iR:=@List.getElem?_set_self
def iS:=@PySem.W.cellsFrom_some
def iT:=@Nat.lt_trans
def iU:=@PyProof.Rows.size_push'
def iV:=@PySem.F.entry_dict_get
def iW:=@List.drop_eq_nil_of_le
def iX:=@Nat.sub_self
def iY:=@Int.fmod_nonneg_of_pos
def iZ:=@Int.dvd_zero
def i4:=@List.map_eq_append_iff
def i5:=@List.length_set
def i6:=@List.nil_append
def i7:=@PySem.typeLookup_type
def i8:=@PySem.pushCells_keeps
def i9:=@List.Perm.of_eq
def ja:=@PySem.F.slot_set_iter
def jc:=@List.set_append_right
def jd:=@Int.mul_fdiv_add_fmod
def jf:=@List.getElem?_set_ne
def jg:=@Int.mul_one
def jh:=@if_false
def ji:=@PySem.wpAny_runValue
def jk:=@PySem.isSubtype_type
def jl:=@PySem.isSubtype_stop
def jm:=@PySem.wpAny_newTuple
def jn:=@List.drop_zero
def jo:=@List.reverse_reverse
def jp:=@Array.getElem_toList
def jq:=@Nat.mul_le_mul_right
def jr:=@Int.natAbs_dvd
def js:=@Bool.and_eq_true_iff
def jt:=@PySem.W.codeHd_of_K
def ju:=@Bool.not_true
def jw:=@Bool.and_true
def jx:=@List.map_take
def jy:=@List.cons.inj
def jz:=@Array.append_assoc
def ka:=@List.mem_filterMap
def kc:=@Int.natCast_nonneg
def ke:=@PySem.Walks.list
def kf:=@Option.isSome_some
def kg:=@Int.fmod_lt_of_pos
def kh:=@Int.sub_add_cancel
def ki:=@Nat.add_comm
def kj:=@List.all_map
def km:=@Nat.add_zero
def kn:=@Nat.sub_zero
def ko:=@getElem?_pos
def kq:=@Nat.pow_succ
def ku:=@Int.zero_dvd
def kx:=@Int.add_emod
def kz:=@Sum.inl.inj
def lg:=@Int.dvd_add
def lh:=@not_or
open PySem.W (codeHdIn envX findIn instObj keepIn kitOne kitx_dict kitx_list kla_obj lookIn methodObj mg_of mroIn plainGet tabObj)
open List (map_set replicate zipWith)
open Option (getD_none)
namespace L2
open PySem PySem.Spec PyProof.Rows
def yX(s:Stmt):Arguments:=match s with
 | .FunctionDef _ a _ _ _ _ _ _ _ _=>a
 |_=>{posonlyargs:=[],args:=[],vararg:=none,kwonlyargs:=[],kw_defaults:=[],kwarg:=none,defaults:=[]}
def jE(s:Stmt):List Stmt:=match s with
 | .FunctionDef _ _ b _ _ _ _ _ _ _=>b
 |_=>[]
def jB(s:Stmt):Scope:=match s with
 | .FunctionDef _ _ _ _ _ _ sc _ _ _=>sc
 |_=>{kind:=.function,names:=[],isGenerator:=false,isCoroutine:=false}
end L2
namespace Eo
open PySem L2
noncomputable def top(i:Nat):Stmt:=PySem.Challenge.pw_eachonce_k55_whole_kinds_of_wholes_stay.main.body.getD i (.Pass ⟨0,0,0,0⟩)
abbrev sGcd:Stmt:=top 1
abbrev jCR:Stmt:=top 3
abbrev jAN:Stmt:=top 5
abbrev jCQ:Stmt:=top 6
abbrev sNear:Stmt:=top 7
abbrev sGoes:Stmt:=top 8
abbrev sLed:Stmt:=top 9
abbrev qY:Stmt:=top 10
abbrev sLnd:Stmt:=top 11
abbrev jBU:Stmt:=top 12
abbrev yT:Stmt:=top 13
abbrev sCell:Stmt:=top 15
abbrev sPot:Stmt:=top 16
abbrev sTake:Stmt:=top 17
abbrev sLot:Stmt:=top 18
abbrev sBox:Stmt:=top 19
abbrev yA:Stmt:=top 20
abbrev xB:Stmt:=top 21
abbrev jB1:Stmt:=top 22
abbrev jDG:Stmt:=top 23
abbrev yW:Stmt:=top 24
abbrev sUpto:Stmt:=top 25
abbrev qG:Stmt:=top 26
abbrev jCP:Stmt:=top 27
abbrev yP:Stmt:=top 28
abbrev jBB:Stmt:=top 29
abbrev sLaw:Stmt:=top 30
noncomputable def kC(x:Str)(t:Nat)(l n:Int)(a:Nat)(X Y:Value)(z:Nat)(u:Int)(v:Nat):Obj:=⟨.type "code",none,.fields #[.str x t,.str x (t+1),.str "/claim/cut.py" (t+2),.int l 0,.int n 0,.int 0 0,.int 0 0,.int 3 0,.ref a,.bool true,.int 181 0,.ref (a+1),.none,X,Y,.ref z,.int u 0,.int l 0,.str "/claim/cut.py" v],#[]⟩
noncomputable def kF(x:Str)(s:Stmt)(m:Str)(t c:Nat):Obj:=⟨.type "function",none,.func (PySem.W.fnOf x x (yX s) (jE s) (jB s) .none .none .none (.str m t) none (.ref c) .none),#[]⟩
noncomputable def kM(P:Params):Obj:=
 let e (x:Str) (t:Nat) (v:Value):DictEntry:=⟨PyData.keyHash P x,.str x t,v⟩
 ⟨.type "dict",none,.dict #[e "__name__" 165 (.str "law_eachonce_k55_whole_kinds_of_wholes_stay" 278),e "__doc__" 166 (.none),e "__package__" 167 (.none),e "__loader__" 168 (.builtin "__main__.__loader__#opaque"),e "__spec__" 169 (.none),e "__annotations__" 170 (.ref 6),e "__builtins__" 171 (.ref 4),e "__file__" 173 (.str "/claim/cut.py" 172),e "__cached__" 174 (.none),e "common_divisor" 197 (.ref 21),e "musts_of" 205 (.ref 26),e "first_columns" 213 (.ref 31),e "taken_off" 219 (.ref 36),e "nearest_times" 227 (.ref 43),e "goes_in" 235 (.ref 50),e "led_by_one" 241 (.ref 55),e "numbers_of_row" 247 (.ref 60),e "least_not_dividing" 255 (.ref 67),e "hues_of_row" 271 (.ref 74),e "wholes" 277 (.ref 79),e "_law_cell_at" 287 (.ref 86),e "_law_pot" 297 (.ref 93),e "_law_take" 306 (.ref 100),e "_law_lot" 312 (.ref 105),e "_law_box" 318 (.ref 110),e "_law_planted" 324 (.ref 115),e "_law_hued" 330 (.ref 120),e "_law_musts" 336 (.ref 125),e "_law_whole" 343 (.ref 132),e "_law_wholes_right" 349 (.ref 137),e "_law_upto" 358 (.ref 144),e "_law_hues_right" 364 (.ref 149),e "_law_told_right" 372 (.ref 156),e "_law_turned" 378 (.ref 161),e "_law_beside" 384 (.ref 166),e "law" 390 (.ref 171)] 36,#[]⟩
def kS(P:Params):Array DictEntry:=#[⟨PyData.keyHash P "builtins",.str "builtins" 162,(.ref 4)⟩,⟨PyData.keyHash P "__main__",.str "__main__" 163,(.ref 5)⟩]
noncomputable def kK(P:Params):W.Frag:=(nat_lit 1,⟨.type "dict",none,.dict (kS P) 2,#[]⟩)::(nat_lit 2, {cls:=.none,data:=.dict #[]})::(nat_lit 3,kM P)::(nat_lit 4,⟨.type "module",some 0,.plain,#[]⟩)::(nat_lit 20,kC "common_divisor" 189 2 2 15 (.ref 17) (.ref 18) 19 195 196)::(nat_lit 21,kF "common_divisor" sGcd "eachonce.kinds" 187 20)::(nat_lit 25,kC "musts_of" 200 9 1 22 (.none) (.none) 24 203 204)::(nat_lit 26,kF "musts_of" jCR "eachonce.boxes" 198 25)::(nat_lit 30,kC "first_columns" 208 13 2 27 (.none) (.none) 29 211 212)::(nat_lit 31,kF "first_columns" jAN "eachonce.wholes" 206 30)::(nat_lit 35,kC "taken_off" 214 19 3 32 (.none) (.none) 34 217 218)::(nat_lit 36,kF "taken_off" jCQ "eachonce.wholes" 206 35)::(nat_lit 42,kC "nearest_times" 220 21 2 37 (.ref 39) (.ref 40) 41 225 226)::(nat_lit 43,kF "nearest_times" sNear "eachonce.wholes" 206 42)::(nat_lit 49,kC "goes_in" 228 23 2 44 (.ref 46) (.ref 47) 48 233 234)::(nat_lit 50,kF "goes_in" sGoes "eachonce.wholes" 206 49)::(nat_lit 54,kC "led_by_one" 236 25 2 51 (.none) (.none) 53 239 240)::(nat_lit 55,kF "led_by_one" sLed "eachonce.wholes" 206 54)::(nat_lit 59,kC "numbers_of_row" 242 35 3 56 (.none) (.none) 58 245 246)::(nat_lit 60,kF "numbers_of_row" qY "eachonce.wholes" 206 59)::(nat_lit 66,kC "least_not_dividing" 248 43 1 61 (.ref 63) (.ref 64) 65 253 254)::(nat_lit 67,kF "least_not_dividing" sLnd "eachonce.wholes" 206 66)::(nat_lit 73,kC "hues_of_row" 256 48 5 68 (.ref 70) (.ref 71) 72 269 270)::(nat_lit 74,kF "hues_of_row" jBU "eachonce.wholes" 206 73)::(nat_lit 78,kC "wholes" 272 55 1 75 (.none) (.none) 77 275 276)::(nat_lit 79,kF "wholes" yT "eachonce.wholes" 206 78)::(nat_lit 85,kC "_law_cell_at" 280 71 2 80 (.ref 82) (.ref 83) 84 285 286)::(nat_lit 86,kF "_law_cell_at" sCell "law_eachonce_k55_whole_kinds_of_wholes_stay" 278 85)::(nat_lit 92,kC "_law_pot" 288 75 1 87 (.ref 89) (.ref 90) 91 295 296)::(nat_lit 93,kF "_law_pot" sPot "law_eachonce_k55_whole_kinds_of_wholes_stay" 278 92)::(nat_lit 99,kC "_law_take" 298 84 2 94 (.ref 96) (.ref 97) 98 304 305)::(nat_lit 100,kF "_law_take" sTake "law_eachonce_k55_whole_kinds_of_wholes_stay" 278 99)::(nat_lit 104,kC "_law_lot" 307 88 2 101 (.none) (.none) 103 310 311)::(nat_lit 105,kF "_law_lot" sLot "law_eachonce_k55_whole_kinds_of_wholes_stay" 278 104)::(nat_lit 109,kC "_law_box" 313 97 3 106 (.none) (.none) 108 316 317)::(nat_lit 110,kF "_law_box" sBox "law_eachonce_k55_whole_kinds_of_wholes_stay" 278 109)::(nat_lit 114,kC "_law_planted" 319 115 3 111 (.none) (.none) 113 322 323)::(nat_lit 115,kF "_law_planted" yA "law_eachonce_k55_whole_kinds_of_wholes_stay" 278 114)::(nat_lit 119,kC "_law_hued" 325 131 3 116 (.none) (.none) 118 328 329)::(nat_lit 120,kF "_law_hued" xB "law_eachonce_k55_whole_kinds_of_wholes_stay" 278 119)::(nat_lit 124,kC "_law_musts" 331 145 1 121 (.none) (.none) 123 334 335)::(nat_lit 125,kF "_law_musts" jB1 "law_eachonce_k55_whole_kinds_of_wholes_stay" 278 124)::(nat_lit 131,kC "_law_whole" 337 147 1 126 (.ref 128) (.ref 129) 130 341 342)::(nat_lit 132,kF "_law_whole" jDG "law_eachonce_k55_whole_kinds_of_wholes_stay" 278 131)::(nat_lit 136,kC "_law_wholes_right" 344 149 2 133 (.none) (.none) 135 347 348)::(nat_lit 137,kF "_law_wholes_right" yW "law_eachonce_k55_whole_kinds_of_wholes_stay" 278 136)::(nat_lit 143,kC "_law_upto" 350 156 3 138 (.ref 140) (.ref 141) 142 356 357)::(nat_lit 144,kF "_law_upto" sUpto "law_eachonce_k55_whole_kinds_of_wholes_stay" 278 143)::(nat_lit 148,kC "_law_hues_right" 359 158 2 145 (.none) (.none) 147 362 363)::(nat_lit 149,kF "_law_hues_right" qG "law_eachonce_k55_whole_kinds_of_wholes_stay" 278 148)::(nat_lit 155,kC "_law_told_right" 365 169 2 150 (.ref 152) (.ref 153) 154 370 371)::(nat_lit 156,kF "_law_told_right" jCP "law_eachonce_k55_whole_kinds_of_wholes_stay" 278 155)::(nat_lit 160,kC "_law_turned" 373 177 2 157 (.none) (.none) 159 376 377)::(nat_lit 161,kF "_law_turned" yP "law_eachonce_k55_whole_kinds_of_wholes_stay" 278 160)::(nat_lit 165,kC "_law_beside" 379 186 2 162 (.none) (.none) 164 382 383)::(nat_lit 166,kF "_law_beside" jBB "law_eachonce_k55_whole_kinds_of_wholes_stay" 278 165)::(nat_lit 170,kC "law" 385 189 1 167 (.none) (.none) 169 388 389)::(nat_lit 171,kF "law" sLaw "law_eachonce_k55_whole_kinds_of_wholes_stay" 278 170)::[]
noncomputable def kA:List Addr:=[1,2,3,4,20,21,25,26,30,31,35,36,42,43,49,50,54,55,59,60,66,67,73,74,78,79,85,86,92,93,99,100,104,105,109,110,114,115,119,120,124,125,131,132,136,137,143,144,148,149,155,156,160,161,165,166,170,171]
noncomputable def vw:Program:= {PySem.Challenge.pw_eachonce_k55_whole_kinds_of_wholes_stay with main:= {PySem.Challenge.pw_eachonce_k55_whole_kinds_of_wholes_stay.main with body:=[top 1,top 3,top 5,top 6,top 7,top 8,top 9,top 10,top 11,top 12,top 13,top 15,top 16,top 17,top 18,top 19,top 20,top 21,top 22,top 23,top 24,top 25,top 26,top 27,top 28,top 29,top 30]}}
def kA_eq:∀P,kA=(kK P).map (·.1):=λ_=>by kernel_rfl
noncomputable abbrev kH:PySem.W.Hook:=PySem.W.kmHook kK kA kA_eq [52]
set_option maxHeartbeats 0 in
def left:PySem.W.LeftO PySem.Challenge.rw_eachonce_k55_whole_kinds_of_wholes_stay.prog vw [] (λs=>PySem.W.xlAt vw [] s&&PySem.W.recOk (PySem.W.RowW.records (PySem.W.OpenRow.toRowW PySem.Challenge.rw_eachonce_k55_whole_kinds_of_wholes_stay.row)) s) (PySem.W.Hook.obs kH) (PySem.W.Hook.val kH) 2100:=λw=>by kernel_rfl
end Eo
section
namespace L2
open PySem PySem.Spec PyProof.Rows
variable {E Q:Value->Shared->Prop}{f:Value->Value->Sem Value}{u:Value}{b a dx:Addr}{K:W.Frag}{x:Str}{mg mA:Str->Option Value}{us:List Value}{op:CmpOp}{fp:List Addr}{N:List Str}{body:List Stmt}{tg c l e:Expr}{o:Obj}{kindOf:Str->Option NameKind}{i j:Nat}{g:Int->Int->Int}{es:List Expr}{base:Heap}{A:Around}{M:Model}{α:Type}{outer:List Env}
abbrev Key:=Sum Int Str
def keyIs:Key->Value->Bool
 | .inl k,v=>Value.isInt k v
 | .inr x,v=>Value.isStrOf x v
def keyH(w:World):Key->Int
 | .inl k=>hashInt k
 | .inr x=>hashStr w x
def jA0:∀{k:Key}{v:Value},keyIs k v=true->(∃i t,k=Sum.inl i/\v=Value.int i t)\/(∃x t,k=Sum.inr x/\v=Value.str x t)
 | .inl i,v,h=>by
  obtain⟨t,e⟩:=Value.isInt_shape (k:=i) (v:=v) h
  exact .inl ⟨i,t,rfl,e⟩
 | .inr x,v,h=>by
  obtain⟨t,e⟩:=Value.isStrOf_shape (x:=x) (v:=v) h
  exact .inr ⟨x,t,rfl,e⟩
def jLN(i:Int)(t:Tok):keyIs (.inl i) (.int i t)=true:=by simp[keyIs,Value.isInt]
def jLM(x:Str)(t:Tok):keyIs (.inr x) (.str x t)=true:=by simp[keyIs,Value.isStrOf]
theorem jTG(a b:Int):decide ((Sum.inl a:Key)=Sum.inl b)=(a==b):=by
 by_cases e:a=b
 .subst e;simp
 .have h:¬(Sum.inl a:Key)=Sum.inl b:=λq=>e (kz q)
  rw[aN h]
  exact(cD.mpr e).symm
theorem jTD(a b:Str):decide ((Sum.inr a:Key)=Sum.inr b)=decide (a=b):=by
 by_cases e:a=b
 .subst e;simp
 .have h:¬(Sum.inr a:Key)=Sum.inr b:=λq=>e (Sum.inr.inj q)
  rw[aN h,aN e]
theorem jTF(a:Int)(b:Str):decide ((Sum.inl a:Key)=Sum.inr b)=false:=aN (λq=>nomatch q)
theorem jTE(a:Str)(b:Int):decide ((Sum.inr a:Key)=Sum.inl b)=false:=aN (λq=>nomatch q)
def yJ(prog:Program)(w:World):PySem.KeyKind prog w Key where
 is:=keyIs
 hash:=keyH w
 inj:=λv a b ha hb=>by
  rcases jA0 ha with ⟨i,t,rfl,rfl⟩|⟨x,t,rfl,rfl⟩
  .rcases jA0 hb with ⟨j,u,rfl,e⟩|⟨y,u,rfl,e⟩
   .injection e with e1 _;rw[e1]
   .exact nomatch e
  .rcases jA0 hb with ⟨j,u,rfl,e⟩|⟨y,u,rfl,e⟩
   .exact nomatch e
   .injection e with e1 _;rw[e1]
 byValue:=λk v h=>by
  rcases jA0 h with ⟨i,t,rfl,rfl⟩|⟨x,t,rfl,rfl⟩<;>rfl
 pyHash:=λhv h=>by
  rcases jA0 hv with ⟨i,t,rfl,rfl⟩|⟨x,t,rfl,rfl⟩
  .exact wpAny_pyHash_int h
  .exact wpAny_pyHash_str h
 eqBool:=λhu hv h=>by
  rcases jA0 hu with ⟨i,t,rfl,rfl⟩|⟨x,t,rfl,rfl⟩
  .rcases jA0 hv with ⟨j,u,rfl,rfl⟩|⟨y,u,rfl,rfl⟩
   .rw[jTG] at h;exact wpAny_eqBool_int h
   .rw[jTF] at h;exact SeqAt.EqAt.int_str i t y u _ _ _ _ h
  .rcases jA0 hv with ⟨j,u,rfl,rfl⟩|⟨y,u,rfl,rfl⟩
   .rw[jTE] at h;exact SeqAt.EqAt.str_int x t j u _ _ _ _ h
   .rw[jTD] at h;exact wpAny_eqBool_str h
 «strs»:=λk x t v h=>by
  rcases jA0 h with ⟨i,u,rfl,e⟩|⟨y,u,rfl,e⟩
  .exact nomatch e
  .injection e with e1 _
   subst e1
   cases v<;>rfl
def jHG(prog:Program)(w:World)(i:Int)(t:Tok):(yJ prog w).is (.inl i) (.int i t)=true:=jLN i t
def jHF(prog:Program)(w:World)(x:Str)(t:Tok):(yJ prog w).is (.inr x) (.str x t)=true:=jLM x t
inductive V where
 |non|bl (b:Bool)|int (i:Int)|str (x:Str)|byt (b:Array UInt8)|flt (b:UInt64)|ref (a:Addr)|ty (n:String)
 deriving DecidableEq
def RelV:V->Value->Prop
 | .non,u=>u=Value.none
 | .bl b,u=>u=Value.bool b
 | .int i,u=>∃t,u=Value.int i t
 | .str x,u=>∃t,u=Value.str x t
 | .byt b,u=>∃t,u=Value.bytes b t
 | .flt b,u=>∃t,u=Value.float b t
 | .ref a,u=>u=Value.ref a
 | .ty n,u=>u=Value.type n
abbrev Vals:List V->List Value->Prop:=Paired RelV
def Vals.length{xs:List V}{us:List Value}(r:Vals xs us):xs.length=us.length:=gf r
def Vals.get:∀{xs:List V}{us:List Value}{i:Nat}{x:V},Vals xs us->xs[i]?=some x->∃u,us[i]?=some u/\RelV x u
 |_,_,_,_,.nil,e=>by simp at e
 |_,_,0,_,.cons r _,e=>by simp at e;subst e;exact⟨_,rfl,r⟩
 |_,_,i+1,x,.cons _ t,e=>by
  obtain⟨u,h1,h2⟩:=Vals.get (i:=i) (x:=x) t (by simpa using e)
  exact⟨u,by simpa using h1,h2⟩
def Vals.set{x:V}(r:RelV x u):∀{xs:List V}{us:List Value}(i:Nat),Vals xs us->Vals (xs.set i x) (us.set i u)
 |_,_,_,.nil=> .nil
 |_,_,0,.cons _ t=> .cons r t
 |_,_,i+1,.cons q t=> .cons q (Vals.set r i t)
def Vals.append:∀{xs ys:List V}{us ws:List Value},Vals xs us->Vals ys ws->Vals (xs++ys) (us++ws)
 |_,_,_,_,.nil,s=>s
 |_,_,_,_,.cons r t,s=> .cons r (Vals.append t s)
def Vals.take:∀{xs:List V}{us:List Value}(n:Nat),Vals xs us->Vals (xs.take n) (us.take n)
 |_,_,0,_=> .nil
 |_,_,_+1,.nil=> .nil
 |_,_,n+1,.cons r t=> .cons r (Vals.take n t)
def Vals.drop:∀{xs:List V}{us:List Value}(n:Nat),Vals xs us->Vals (xs.drop n) (us.drop n)
 |_,_,0,r=>r
 |_,_,_+1,.nil=> .nil
 |_,_,n+1,.cons _ t=>Vals.drop n t
def RelO:Option V->Option Value->Prop
 |some v,some u=>RelV v u
 |none,none=>True
 |_,_=>False
def KV{κ:Type}:List (κ×V)->List (κ×Value)->Prop:=Paired λ(p:κ×V) (q:κ×Value)=>p.1=q.1/\RelV p.2 q.2
noncomputable def kV:Key->V
 | .inl i=> .int i
 | .inr x=> .str x
def TupO(h:Heap)(a:Addr)(items:Array Value):Prop:=∃n,h.get? a=some {cls:=.type "tuple",data:=.seq items n}
def TupO.isTup{h:Heap}{items:Array Value}(x:TupO h a items):IsTup h a items:=let ⟨n,e⟩:=x;⟨_,e,rfl,n,rfl⟩
def TupO.new(h:Heap)(items:Array Value):TupO (h.push {cls:=.type "tuple",data:=.seq items}) h.objs.size items:=⟨0,aD _ rfl⟩
inductive HO where
  |lst (xs:List V)
  |tup (xs:List V)
  |dK (kvs:List (Key×V))|dT (kvs:List (List Key×V))
  |set (S:Int->Bool) (n:Nat)
  |ins (C dx:Addr) (fs:List (Str×V))
  |own (x:Addr)
  |xd (fs:List (Str×V))
  |met (f x:Addr)
  |rng (lo hi:Int)
  |frz (o:Obj) (u:HO)
  |tbl (ps:Array Value)
  |ext (φ:Heap->Prop)
abbrev Hp:=Addr->Option HO
def upd(H:Hp)(a:Addr)(o:HO):Hp:=λb=>if b=a then some o else H b
variable {H:Hp}
def j5{o:HO}:upd H a o a=some o:=by unfold upd;rw[ai rfl]
def j7{o:HO}(h:b≠a):upd H a o b=H b:=by unfold upd;rw[aj h]
def ne_of{o u:HO}(h:H a=some o)(h':H b=some u)(d:o≠u):a≠b:=by
 intro e;subst e;rw[h] at h';exact d (bj h')
def j8{o:HO}(h:H a=some o)(h':H b=none):a≠b:=by
 intro e;subst e;rw[h] at h';cases h'
section
variable (P:Program)(w:World)
def ObjOk(H:Hp)(h:Heap)(a:Addr):HO->Prop
 | .lst xs=>xs.length<=sizeLine/\∃(its:List Value) (n:Nat),Vals xs its/\h.get? a=some {cls:=.type "list",data:=.seq its.toArray n}
 | .tup xs=>xs.length<=sizeLine/\∃its:List Value,Vals xs its/\TupO h a its.toArray
 | .dK kvs=>kvs.length<=sizeLine/\(a==sysModules)=false/\∃vs,KV kvs vs/\h.DictOf (yJ P w) a vs
 | .dT kvs=>kvs.length<=sizeLine/\(a==sysModules)=false/\∃xs:List (List Key×Addr×Value),
   Paired (λ(p:List Key×V) (q:List Key×Addr×Value)=>p.1=q.1/\H q.2.1=some (.tup (p.1.map kV))/\RelV p.2 q.2.2) kvs xs/\
   ∃o es ep,h.get? a=some o/\o.ExactDict/\o.data=.dict es ep/\es.toList=xs.map (entryOfKey (tupleKind (yJ P w)))/\(xs.map (·.1)).Nodup
 | .set S n=>h.SetOf (intKind P w) a S n
 | .ins C dx fs=>H dx=some (.own a)/\fs.length<=1000/\dx≠a/\h.get? a=some (instObj C dx)/\
   ∃mA,h.Ns1 dx mA/\(∀f,RelO (fs.lookup f) (mA f))/\PySem.Within mA (fs.map (·.1))
 | .own _=>∃o,h.get? a=some o
 | .xd fs=>∃mA,h.Ns1 a mA/\∀f,RelO (fs.lookup f) (mA f)
 | .rng lo hi=>∃t u v,h.get? a=some {cls:=.type "range",data:=.fields #[.int lo t,.int hi u,.int 1 v]}
 | .frz o u=>h.get? a=some o/\ObjOk H h a u
 | .tbl ps=>h.get? a=some {cls:=.none,data:=.fields ps}
 | .met f x=>h.get? a=some (methodObj (.ref f) (.ref x))
 | .ext φ=>φ h/\(∃o,h.get? a=some o)/\∀h1 h2:Heap,φ h1->(∀o,h1.get? a=some o->h2.get? a=some o)->φ h2
def HOk(H:Hp)(h:Heap):Prop:=∀a o,H a=some o->ObjOk P w H h a o
end
variable {P:Program}{w:World}{H H':Hp}{h h':Heap}{a:Addr}
section
variable {o:HO}
def ObjOk.lt(x:ObjOk P w H h a o):a<h.objs.size:=by
 cases o with
 |lst xs=>obtain⟨_,_,_,_,e⟩:=x;exact aw e
 |tup xs=>obtain⟨_,_,_,_,e⟩:=x;exact aw e
 |dK kvs=>obtain⟨_,_,_,_,o,_,_,e,_⟩:=x;exact aw e
 |dT kvs=>obtain⟨_,_,_,_,o,_,_,e,_⟩:=x;exact aw e
 |set S n=>obtain⟨o,_,_,_,e,_⟩:=x;exact aw e
 |ins C dx fs=>obtain⟨_,_,_,e,_⟩:=x;exact aw e
 |own y=>obtain⟨_,e⟩:=x;exact aw e
 |xd fs=>obtain⟨_,⟨_,_,_,e,_⟩,_⟩:=x;exact aw e
 |rng lo hi=>obtain⟨_,_,_,e⟩:=x;exact aw e
 |frz ob u=>obtain⟨e,_⟩:=x;exact aw e
 |tbl ps=>exact aw (show h.get? a=some _ from x)
 |met f y=>exact aw (show h.get? a=some _ from x)
 |ext φ=>obtain⟨_,⟨_,e⟩,_⟩:=x;exact aw e
def Paired.mapP{β:Type}{F G:α->β->Prop}:∀{l₁:List α}{l₂:List β},Paired F l₁ l₂->(∀a b,F a b->G a b)->Paired G l₁ l₂
 |_,_,.nil,_=> .nil
 |_,_,.cons r t,f=> .cons (f _ _ r) (Paired.mapP t f)
def ObjOk.stay(x:ObjOk P w H h a o)(k:∀b u,(b=a\/H b=some (.own a))->h.get? b=some u->h'.get? b=some u)
  (ho:∀b,H b=some (.own a)->H' b=some (.own a)) (ht:∀b xs,H b=some (.tup xs)->H' b=some (.tup xs)):ObjOk P w H' h' a o:=by
 induction o with
 |lst xs=>obtain⟨z,its,n,r,e⟩:=x;exact⟨z,its,n,r,k _ _ (.inl rfl) e⟩
 |tup xs=>obtain⟨z,its,r,n,e⟩:=x;exact⟨z,its,r,n,k _ _ (.inl rfl) e⟩
 |dK kvs=>obtain⟨z,y,vs,r,ob,es,ep,e,c⟩:=x;exact⟨z,y,vs,r,ob,es,ep,k _ _ (.inl rfl) e,c⟩
 |dT kvs=>
  obtain⟨z,y,xs,r,ob,es,ep,e,c⟩:=x
  exact⟨z,y,xs,Paired.mapP r λp q z=>⟨z.1,ht _ _ z.2.1,z.2.2⟩,ob,es,ep,k _ _ (.inl rfl) e,c⟩
 |set S n=>obtain⟨ob,es,ep,t,e,c⟩:=x;exact⟨ob,es,ep,t,k _ _ (.inl rfl) e,c⟩
 |ins C dx fs=>
  obtain⟨d,z,ne,e,mA,⟨od,es,ep,e2,c⟩,r⟩:=x
  exact⟨ho _ d,z,ne,k _ _ (.inl rfl) e,mA,⟨od,es,ep,k _ _ (.inr d) e2,c⟩,r⟩
 |own y=>obtain⟨ob,e⟩:=x;exact⟨ob,k _ _ (.inl rfl) e⟩
 |xd fs=>obtain⟨mA,⟨od,es,ep,e,c⟩,r⟩:=x;exact⟨mA,⟨od,es,ep,k _ _ (.inl rfl) e,c⟩,r⟩
 |rng lo hi=>obtain⟨t,u,v,e⟩:=x;exact⟨t,u,v,k _ _ (.inl rfl) e⟩
 |frz ob u ih=>obtain⟨e,q⟩:=x;exact⟨k _ _ (.inl rfl) e,ih q⟩
 |tbl ps=>
  have e:h.get? a=some {cls:=.none,data:=.fields ps}:=x
  show h'.get? a=some {cls:=.none,data:=.fields ps}
  exact k a _ (.inl rfl) e
 |met f y=>
  have e:h.get? a=some (methodObj (.ref f) (.ref y)):=x
  show h'.get? a=some (methodObj (.ref f) (.ref y))
  exact k a _ (.inl rfl) e
 |ext φ=>obtain⟨p,⟨o,e⟩,st⟩:=x;exact⟨st _ _ p λo q=>k _ _ (.inl rfl) q,⟨o,k _ _ (.inl rfl) e⟩,st⟩
def HOk.lt(x:HOk P w H h)(e:H a=some o):a<h.objs.size:=(x a o e).lt
def HOk.fresh(x:HOk P w H h)(e:h.objs.size<=a):H a=none:=by
 cases q:H a with
 |none=>rfl
 |some u=>exact absurd (aR (x.lt q) e) (cf _)
def HOk.kept(x:HOk P w H h)(k:∀b u,h.get? b=some u->h'.get? b=some u):HOk P w H h':=λa o e=>
 (x a o e).stay (λb u _ q=>k b u q) (λ_ q=>q) λ_ _ q=>q
def HOk.laid(x:HOk P w H h)(k:∀b u,h.get? b=some u->h'.get? b=some u)(hp:h.objs.size<=a)(new:ObjOk P w (upd H a o) h' a o):HOk P w (upd H a o) h':=λb u e=>by
 have hn:=x.fresh hp
 by_cases hb:b=a
 .subst hb;rw[j5] at e;cases e;exact new
 .rw[j7 hb] at e
  exact(x b u e).stay (λc v _ q=>k c v q) (λc q=>by rw[j7 (j8 q hn)];exact q) λc xs q=>by rw[j7 (j8 q hn)];exact q
end
def Rd(H:Hp)(a:Addr)(u:HO):Prop:=H a=some u\/∃o,H a=some (.frz o u)
def Rd.ok{u:HO}(r:Rd H a u)(x:HOk P w H h):ObjOk P w H h a u:=by
 rcases r with r|⟨o,r⟩
 .exact x a u r
 .obtain⟨_,q⟩:=x a _ r
  exact q
def Mut:Option HO->Prop
 |some (.lst _)=>True
 |some (.dK _)=>True
 |some (.dT _)=>True
 |some (.set _ _)=>True
 |some (.ins _ _ _)=>True
 |some (.ext _)=>True
 |_=>False
variable {x:Addr}
section
variable {e:Addr}{o':HO}
def HOk.write(ok:HOk P w H h)(mu:Mut (H x))(he:e=x\/H e=some (.own x))(k:∀b u,b≠e->h.get? b=some u->h'.get? b=some u)(heo:∃u,h'.get? e=some u)
  (new:ObjOk P w (upd H x o') h' x o'):HOk P w (upd H x o') h':=λb u q=>by
 have nown:∀c y,H c=some (.own y)->c≠x:=λc y r z=>by subst z;rw[r] at mu;exact mu
 have ntup:∀c xs,H c=some (.tup xs)->c≠x:=λc xs r z=>by subst z;rw[r] at mu;exact mu
 by_cases hb:b=x
 .subst hb;rw[j5] at q;cases q;exact new
 .rw[j7 hb] at q
  by_cases hbe:b=e
  .have q':H b=some (.own x):=by
    rcases he with z|z
    .exact absurd (hbe.trans z) hb
    .rw[hbe];exact z
   rw[q] at q';cases q'
   obtain⟨v,hv⟩:=heo
   exact⟨v,by rw[hbe];exact hv⟩
  .refine(ok b u q).stay (λc v hc r=>k c v ?_ r) (λc r=>by rw[j7 (nown c b r)];exact r) λc xs r=>by rw[j7 (ntup c xs r)];exact r
   rcases hc with rfl|hc
   .exact hbe
   .rintro rfl
    rcases he with z|z
    .exact nown c b hc z
    .rw[hc] at z;cases z;exact hb rfl
end
structure Un (fs ex:List Addr)(H H':Hp)(h h':Heap):Prop where
 keep:∀b o,h.get? b=some o->H b=none->b∉fs->b∉ex->h'.get? b=some o
 slot:∀b o,h.get? b=some o->H b=none->b∈fs->b∉ex->∃sl,h'.get? b=some {o with slots:=sl}
 free:∀b o,h.get? b=some o->H b=none->b∉ex->H' b=none
 there:∀b o,h.get? b=some o->b∉ex->∃o',h'.get? b=some o'
 tups:∀b xs,H b=some (.tup xs)->H' b=some (.tup xs)
 frzs:∀b o u,H b=some (.frz o u)->H' b=some (.frz o u)
 tbls:∀b ps,H b=some (.tbl ps)->∃more,H' b=some (.tbl (ps++more))
section
variable {fs fs' ex ex':List Addr}{H1 H2:Hp}{h1 h2:Heap}{e:Addr}{o:HO}
def Un.any(u:Un fs ex H H1 h h1){ob:Obj}(q:h.get? b=some ob)(n:H b=none)(hx:b∉ex):∃sl,h1.get? b=some {ob with slots:=sl}:=by
 by_cases hb:b∈fs
 .exact u.slot b ob q n hb hx
 .exact⟨ob.slots,u.keep b ob q n hb hx⟩
def Un.trans(a:Un fs ex H H1 h h1)(b:Un fs ex H1 H2 h1 h2):Un fs ex H H2 h h2 where
 keep:=λc ob q n hc hx=>b.keep c ob (a.keep c ob q n hc hx) (a.free c ob q n hx) hc hx
 slot:=λc ob q n hc hx=>by
  obtain⟨sl,e1⟩:=a.slot c ob q n hc hx
  obtain⟨sl',e2⟩:=b.slot c _ e1 (a.free c ob q n hx) hc hx
  exact⟨sl',e2⟩
 free:=λc ob q n hx=>by
  obtain⟨o',e1⟩:=a.there c ob q hx
  exact b.free c o' e1 (a.free c ob q n hx) hx
 there:=λc ob q hx=>by
  obtain⟨o',e1⟩:=a.there c ob q hx
  exact b.there c o' e1 hx
 tups:=λc xs q=>b.tups c xs (a.tups c xs q)
 frzs:=λc ob xs q=>b.frzs c ob xs (a.frzs c ob xs q)
 tbls:=λc ps q=>by
  obtain⟨m1,e1⟩:=a.tbls c ps q
  obtain⟨m2,e2⟩:=b.tbls c _ e1
  exact⟨m1++m2,by rw[e2,jz]⟩
def Un.kept(k:∀b u,h.get? b=some u->h'.get? b=some u):Un fs ex H H h h':=
 ⟨λb ob q _ _ _=>k b ob q,λb ob q _ _ _=>⟨ob.slots,k b ob q⟩,λ_ _ _ n _=>n,λb ob q _=>⟨ob,k b ob q⟩,λ_ _ q=>q,λ_ _ _ q=>q,λ_ ps q=>⟨#[],by rw[q];simp⟩⟩
def Un.refl:Un fs ex H H h h:=Un.kept λ_ _ q=>q
def Un.laid(k:∀b u,h.get? b=some u->h'.get? b=some u)(hp:h.objs.size<=a)(hn:H a=none):Un fs ex H (upd H a o) h h' where
 keep:=λb u q _ _ _=>k b u q
 slot:=λb u q _ _ _=>⟨u.slots,k b u q⟩
 free:=λb u q n _=>by rw[j7 (aS (aR (aw q) hp))];exact n
 there:=λb u q _=>⟨u,k b u q⟩
 tups:=λb xs q=>by rw[j7 (j8 q hn)];exact q
 frzs:=λb u xs q=>by rw[j7 (j8 q hn)];exact q
 tbls:=λb ps q=>⟨#[],by rw[j7 (j8 q hn),q];simp⟩
def Un.write(mu:Mut (H x))(he:e=x\/H e=some (.own x))(k:∀b u,b≠e->h.get? b=some u->h'.get? b=some u)(heo:∃u,h'.get? e=some u):Un fs ex H (upd H x o) h h':=by
 have hx:∀b,H b=none->b≠x:=λb n z=>by subst z;rw[n] at mu;exact mu
 have hb:∀b,H b=none->b≠e:=λb n z=>by
  subst z
  rcases he with r|r
  .exact hx b n r
  .rw[n] at r;cases r
 have hm:∀b u,H b=some u->¬Mut (some u)->b≠x:=λb u q nm z=>by subst z;rw[q] at mu;exact nm mu
 refine⟨λb u q n _ _=>k b u (hb b n) q,λb u q n _ _=>⟨u.slots,k b u (hb b n) q⟩,λb u q n _=>by rw[j7 (hx b n)];exact n,λb u q _=>?_,
  λb xs q=>by rw[j7 (hm b _ q λz=>z)];exact q,λb u xs q=>by rw[j7 (hm b _ q λz=>z)];exact q,λb ps q=>⟨#[],by rw[j7 (hm b _ q λz=>z),q];simp⟩⟩
 by_cases hbe:b=e
 .subst hbe;exact heo
 .exact⟨u,k b u hbe q⟩
end
def trk(h:Heap)(H:Hp):List Addr:=(List.range h.objs.size).filter λa=>(H a).isSome
def hidT(h:Heap)(H:Hp):Heap:=PySem.W.hideAll h (trk h H)
def jM0(h:Heap)(H:Hp):(hidT h H).objs.size=h.objs.size:=PySem.W.hideAll_size _ _
def jOR(e:h.get? b=some o)(n:H b=none):(hidT h H).get? b=some o:=
 PySem.W.hideAll_get _ e λhm=>by
  have q:(H b).isSome=true:=(bo.mp hm).2
  rw[n] at q;simp at q
def jR4(e:(hidT h H).get? b=some o):h.get? b=some o/\H b=none:=by
 have e':h.get? b=some o:=PySem.W.of_hideAll (trk h H) e
 refine⟨e',?_⟩
 cases q:H b with
 |none=>rfl
 |some x=>
  have hm:b∈trk h H:=bo.mpr ⟨bq.mpr (aw e'),by simp[q]⟩
  have z:(hidT h H).get? b=none:=PySem.W.hideAll_none (trk h H) hm
  rw[z] at e;cases e
structure Mod (K:W.Frag)(mg:Str->Option Value)(base:Heap):Prop where
 kin:K.In base
 glob:base.Ns mainGlobals mg
 blt:∃mb,base.Ns builtinsNs mb/\∀x:Str,x≠"__name__" ->mb x=bootBuiltins x
 nolimit:base.NoLimit
structure Cx where
 prog:Program
 w:World
 K:W.Frag
 mg:Str->Option Value
 base:Heap
 A:Around
 N:List Str
 s₀:Shared
 H₀:Hp
 env:Env
 outer:List Env
 stack:List Env
 ex:List Addr
 fn:Str->Bool
 calm:Bool
 pn:List (Addr×Obj)
 xe:Value->Shared->Prop
def frs(l:List Env):List Addr:=l.filterMap (·.frame)
abbrev Cx.fs(X:Cx):List Addr:=frs X.outer
def Vis(sc:Scope)(x:Str):Prop:=sc.names.lookup x=some .local\/sc.names.lookup x=some .cell\/sc.names.lookup x=some .free
def Loc(sc:Scope)(x:Str):Prop:=sc.names.lookup x=some .local\/sc.names.lookup x=some .cell
def Look(env:Env)(h:Heap)(m:Str->Option Value)(x:Str)(u:Value):Prop:=
 (env.kindOf x=some .local/\m x=some u)\/((env.kindOf x=some .cell\/env.kindOf x=some .free)/\∃c,env.cells.lookup x=some c/\h.IsCell c (some u))
structure Cx.Ok (X:Cx):Prop where
 mod:Mod X.K X.mg X.base
 kind:X.env.scope.kind=.function
 glob:X.env.globals=mainGlobals
 blt:X.env.builtins=builtinsNs
 above:X.s₀.heap.objs.size<=X.env.locals
 inj:∀x y c,X.env.cells.lookup x=some c->X.env.cells.lookup y=some c->x=y
 has:∀x,(X.env.kindOf x=some .cell\/X.env.kindOf x=some .free)->∃c,X.env.cells.lookup x=some c
 cab:∀x c,X.fn x=true->X.env.cells.lookup x=some c->X.s₀.heap.objs.size<=c
 hd:X.calm=true->X.A.handled=none
 frames:X.A.frames=some X.stack
 stk:X.stack=X.outer\/(X.stack=X.env::X.outer/\X.env.frame=some X.env.locals)
 exf:∀b∈X.ex,b≠X.env.locals/\∀x c,X.env.cells.lookup x=some c->c≠b
 bs:∀b o,X.base.get? b=some o->X.s₀.heap.get? b=some o/\X.H₀ b=none
 bsz:X.base.objs.size<=X.s₀.heap.objs.size
 noex:∀b o,X.base.get? b=some o->b∉X.ex
 exfs:∀b∈X.ex,b∉X.fs
 funs:X.s₀.heap.FunFrames X.base X.outer
 frf:∀b∈X.fs,X.H₀ b=none
structure Inv (X:Cx)(ad:List (Addr×Obj))(σ:List (Option V))(H:Hp)(s:Shared):Prop where
 ok:X.Ok
 os:s.os=X.s₀.os
 bare:AllBare s.gens
 base:Un X.fs X.ex X.H₀ H X.s₀.heap s.heap
 loc:∃m,s.heap.Ns X.env.locals m/\∀(i:Nat) (x:Str) (v:V),X.N[i]?=some x->σ[i]?=some (some v)->Vis X.env.scope x->∃u,RelV v u/\Look X.env s.heap m x u
 cell:∀x c,X.env.cells.lookup x=some c->∃v,s.heap.IsCell c v
 free:H X.env.locals=none
 freeC:∀x c,X.env.cells.lookup x=some c->H c=none
 pin:∀p∈X.pn++ad,s.heap.get? p.1=some p.2/\H p.1=none/\p.1≠X.env.locals/\p.1∉X.fs/\∀v,p.2.data≠.cell v
 hok:HOk X.prog X.w H s.heap
 len:σ.length=X.N.length
variable {X:Cx}{ad:List (Addr×Obj)}{s:Shared}
section
variable {σ:List (Option V)}
def Cx.Ok.nofr(ok:X.Ok)(e:X.base.get? b=some o):b∉X.fs:=λhb=>by
 have:=(ok.funs.mem hb).1
 rw[e] at this;cases this
def Inv.bs(I:Inv X ad σ H s):∀b o,X.base.get? b=some o->s.heap.get? b=some o/\H b=none:=λb o e=>
 ⟨I.base.keep b o (I.ok.bs b o e).1 (I.ok.bs b o e).2 (I.ok.nofr e) (I.ok.noex b o e),I.base.free b o (I.ok.bs b o e).1 (I.ok.bs b o e).2 (I.ok.noex b o e)⟩
def Inv.bk(I:Inv X ad σ H s):∀b o,X.base.get? b=some o->s.heap.get? b=some o:=λb o e=>(I.bs b o e).1
def Inv.mod(I:Inv X ad σ H s):Mod X.K X.mg X.base:=I.ok.mod
def Inv.kIn(I:Inv X ad σ H s):X.K.In s.heap:=I.ok.mod.kin.keeps I.bk
def Inv.nolimit(I:Inv X ad σ H s):s.heap.NoLimit:=I.ok.mod.nolimit.keeps I.bk
def Inv.lt(I:Inv X ad σ H s):X.env.locals<s.heap.objs.size:=let ⟨_,hn,_⟩:=I.loc;hn.lt
def Inv.sz(I:Inv X ad σ H s):X.s₀.heap.objs.size<=s.heap.objs.size:=aY I.ok.above (dj I.lt)
def Inv.nofs(I:Inv X ad σ H s)(h:s.heap.objs.size<=a):a∉X.fs:=λhb=>by
 obtain⟨_,o,ho,_⟩:=I.ok.funs.mem hb
 exact absurd (aR (aw ho) (aY I.sz h)) (cf _)
def Inv.cne(I:Inv X ad σ H s):∀x c,X.env.cells.lookup x=some c->c≠X.env.locals:=λx c e z=>by
 obtain⟨v,o,ho,hd⟩:=I.cell x c e
 obtain⟨m,⟨o',es,ep,ho',hd',_⟩,_⟩:=I.loc
 rw[z,ho'] at ho;cases ho;rw[hd'] at hd;cases hd
def Inv.funs(I:Inv X ad σ H s):s.heap.FunFrames X.base X.outer:=by
 have all:∀(l:List Env),(∀b∈frs l,b∈X.fs)->X.s₀.heap.FunFrames X.base l->s.heap.FunFrames X.base l:=by
  intro l
  induction l with
  |nil=>intro _ _;trivial
  |cons env r ih=>
   intro hs hl
   obtain⟨hk,⟨L,o,hf,hn,ho,hd⟩,hr⟩:=hl
   have hL:L∈X.fs:=hs L (by unfold frs;rw[gC,hf];exact au)
   obtain⟨sl,e⟩:=I.base.slot L o ho (I.ok.frf L hL) hL λz=>I.ok.exfs L z hL
   exact⟨hk,⟨L,_,hf,hn,e,hd⟩,ih (λb hb=>hs b (by unfold frs;rw[gC,hf];exact av _ hb)) hr⟩
 exact all X.outer (λ_ hb=>hb) I.ok.funs
theorem Inv.stack(I:Inv X ad σ H s):s.heap.FunFrames X.base X.stack:=by
 rcases I.ok.stk with e|⟨e,hf⟩
 .rw[e];exact I.funs
 .rw[e]
  obtain⟨m,hn,_⟩:=I.loc
  refine .cons (by rw[I.ok.kind];decide) hf hn ?_ I.funs
  exact Heap.get?_none_of_le (aY I.ok.bsz I.ok.above)
def Inv.stkSub(I:Inv X ad σ H s):∀b∈frs X.stack,b∈X.env.locals::X.fs:=λb hb=>by
 rcases I.ok.stk with e|⟨e,hf⟩
 .rw[e] at hb;exact av _ hb
 .rw[e] at hb
  unfold frs at hb
  rw[gC,hf] at hb
  exact hb
def Inv.stkFree(I:Inv X ad σ H s):∀b∈frs X.stack,H b=none:=λb hb=>by
 rcases ay.mp (I.stkSub b hb) with e|hb
 .rw[e];exact I.free
 .obtain⟨_,o,ho,_⟩:=I.ok.funs.mem hb
  exact I.base.free b o ho (I.ok.frf b hb) λz=>I.ok.exfs b z hb
def Inv.step{g':Array GenState}{t':Nat}{d':Drawn}{ch:List Addr}(I:Inv X ad σ H s)
  (hch:∀b∈ch,(b∈X.ex\/X.s₀.heap.objs.size<=b)/\b≠X.env.locals/\(∀x c,X.env.cells.lookup x=some c->c≠b)/\∀p∈X.pn++ad,p.1≠b)
  (keep:∀b o,b≠X.env.locals->b∉X.fs->b∉ch->s.heap.get? b=some o->H b=none->h'.get? b=some o)
  (slot:∀b o,b≠X.env.locals->b∈X.fs->b∉ch->s.heap.get? b=some o->H b=none->∃sl,h'.get? b=some {o with slots:=sl}) (free:∀b o,b∉ch->s.heap.get? b=some o->H b=none->H' b=none)
  (there:∀b o,b∉ch->s.heap.get? b=some o->∃o',h'.get? b=some o')
  (tups:∀b xs,H b=some (.tup xs)->H' b=some (.tup xs)) (frzs:∀b o u,H b=some (.frz o u)->H' b=some (.frz o u)) (tbls:∀b ps,H b=some (.tbl ps)->∃more,H' b=some (.tbl (ps++more)))
  (ns:∀m,s.heap.Ns X.env.locals m->h'.Ns X.env.locals m) (hok:HOk X.prog X.w H' h') (hg:AllBare g'):
  Inv X ad σ H' {s with heap:=h',gens:=g',drawn:=d',toks:=t'}:=by
 have neL:∀b o,X.s₀.heap.get? b=some o->b≠X.env.locals:=λb o e=>aS (aR (aw e) I.ok.above)
 have neC:∀b o,X.s₀.heap.get? b=some o->b∉X.ex->b∉ch:=λb o e hx hb=>by
  rcases (hch b hb).1 with z|z
  .exact hx z
  .exact absurd (aR (aw e) z) (cf _)
 have cellK:∀x c,X.env.cells.lookup x=some c->∀v,s.heap.IsCell c v->h'.IsCell c v:=λx c e v ⟨o,ho,hd⟩=>by
  have nch:c∉ch:=λz=>(hch c z).2.2.1 x c e rfl
  by_cases hc:c∈X.fs
  .obtain⟨sl,q⟩:=slot c o (I.cne x c e) hc nch ho (I.freeC x c e)
   exact⟨_,q,hd⟩
  .exact⟨o,keep c o (I.cne x c e) hc nch ho (I.freeC x c e),hd⟩
 refine⟨I.ok,I.os,hg,⟨λb o e n hb hx=>?_,λb o e n hb hx=>?_,λb o e n hx=>?_,λb o e hx=>?_,λb xs e=>tups b xs (I.base.tups b xs e),λb o xs e=>frzs b o xs (I.base.frzs b o xs e),λb ps e=>?_⟩,?_,λx c e=>?_,?_,λx c e=>?_,λp hp=>?_,hok,I.len⟩
 .exact keep b o (neL b o e) hb (neC b o e hx) (I.base.keep b o e n hb hx) (I.base.free b o e n hx)
 .obtain⟨sl,e1⟩:=I.base.slot b o e n hb hx
  obtain⟨sl',e2⟩:=slot b _ (neL b o e) hb (neC b o e hx) e1 (I.base.free b o e n hx)
  exact⟨sl',e2⟩
 .obtain⟨o',e1⟩:=I.base.there b o e hx
  exact free b o' (neC b o e hx) e1 (I.base.free b o e n hx)
 .obtain⟨o',e1⟩:=I.base.there b o e hx
  exact there b o' (neC b o e hx) e1
 .obtain⟨m1,e1⟩:=I.base.tbls b ps e
  obtain⟨m2,e2⟩:=tbls b _ e1
  exact⟨m1++m2,by rw[e2,jz]⟩
 .obtain⟨m,hn,hl⟩:=I.loc
  refine⟨m,ns m hn,λi x v e1 e2 e3=>?_⟩
  obtain⟨u,r,l⟩:=hl i x v e1 e2 e3
  refine⟨u,r,?_⟩
  rcases l with l|⟨k,c,e,z⟩
  .exact .inl l
  .exact .inr ⟨k,c,e,cellK x c e _ z⟩
 .obtain⟨v,z⟩:=I.cell x c e
  exact⟨v,cellK x c e v z⟩
 .obtain⟨m,⟨o,_,_,ho,_⟩,_⟩:=I.loc
  exact free _ o (λz=>(hch _ z).2.1 rfl) ho I.free
 .obtain⟨v,o,ho,hd⟩:=I.cell x c e
  exact free c o (λz=>(hch c z).2.2.1 x c e rfl) ho (I.freeC x c e)
 .obtain⟨e,n,ne,nf,d⟩:=I.pin p hp
  have nch:p.1∉ch:=λz=>(hch p.1 z).2.2.2 p hp rfl
  exact⟨keep p.1 p.2 ne nf nch e n,free p.1 p.2 nch e n,ne,nf,d⟩
def Inv.un{t':Nat}(I:Inv X ad σ H s)(u:Un X.fs [] H H' s.heap h')(hok:HOk X.prog X.w H' h'):Inv X ad σ H' {s with heap:=h',toks:=t'}:=by
 obtain⟨m,⟨o,es,ep,ho,r⟩,_⟩:=id I.loc
 obtain⟨sl,hL⟩:=u.any ho I.free (by simp)
 exact I.step (g':=s.gens) (d':=s.drawn) (ch:=[]) (λ_ z=>nomatch z) (λb o _ hb _ e n=>u.keep b o e n hb (by simp)) (λb o _ hb _ e n=>u.slot b o e n hb (by simp)) (λb o _ e n=>u.free b o e n (by simp)) (λb o _ e=>u.there b o e (by simp)) u.tups u.frzs u.tbls (λm' hm=>by
  obtain⟨o',es',ep',ho',r'⟩:=hm
  rw[ho] at ho';cases ho'
  exact⟨_,es',ep',hL,r'⟩) hok I.bare
def Inv.call{g':Array GenState}{t':Nat}{d':Drawn}{ch:List Addr}(I:Inv X ad σ H s)(u:Un (frs X.stack) ch H H' s.heap h')(hok:HOk X.prog X.w H' h')(hg:AllBare g')
  (hch:∀b∈ch,(b∈X.ex\/X.s₀.heap.objs.size<=b)/\b≠X.env.locals/\(∀x c,X.env.cells.lookup x=some c->c≠b)/\∀p∈X.pn++ad,p.1≠b):
  Inv X ad σ H' {s with heap:=h',gens:=g',drawn:=d',toks:=t'}:=by
 obtain⟨m,⟨o,es,ep,ho,r⟩,_⟩:=id I.loc
 obtain⟨sl,hL⟩:=u.any ho I.free λz=>(hch _ z).2.1 rfl
 exact I.step (ch:=ch) hch (λb o hL hb hc e n=>u.keep b o e n (λz=>(ay.mp (I.stkSub b z)).elim hL hb) hc) (λb o _ _ hc e n=>u.any e n hc) (λb o hc e n=>u.free b o e n hc) (λb o hc e=>u.there b o e hc) u.tups u.frzs u.tbls (λm' hm=>by
  obtain⟨o',es',ep',ho',r'⟩:=hm
  rw[ho] at ho';cases ho'
  exact⟨_,es',ep',hL,r'⟩) hok hg
def Inv.turned{t':Nat}{it:Addr}(I:Inv X ad σ H s)(k:∀b o,b≠it->s.heap.get? b=some o->h'.get? b=some o)(hn:H it=none)(hL:it≠X.env.locals)
  (h1:it∈X.ex\/X.s₀.heap.objs.size<=it) (h2:∀x c,X.env.cells.lookup x=some c->c≠it) (h3:∀p∈X.pn++ad,p.1≠it):Inv X ad σ H {s with heap:=h',toks:=t'}:=by
 have nit:∀b u,H b=some u->b≠it:=λb u e z=>by rw[z,hn] at e;cases e
 refine I.step (g':=s.gens) (d':=s.drawn) (ch:=[it]) (λb hb=>?_) (λb o _ _ hc e _=>k b o (λz=>hc (by simp[z])) e) (λb o _ _ hc e _=>⟨o.slots,k b o (λz=>hc (by simp[z])) e⟩) (λ_ _ _ _ n=>n)
  (λb o hc e=>⟨o,k b o (λz=>hc (by simp[z])) e⟩) (λ_ _ e=>e) (λ_ _ _ e=>e) (λb ps e=>⟨#[],by rw[e];simp⟩) (λm hm=>?_) (λb u e=>?_) I.bare
 .have e:b=it:=by simpa using hb
  subst e
  exact⟨h1,hL,h2,h3⟩
 .obtain⟨o,es,ep,ho,r⟩:=hm
  exact⟨o,es,ep,k _ o (bO hL) ho,r⟩
 .refine(I.hok b u e).stay (λc v hc q=>k c v ?_ q) (λ_ q=>q) λ_ _ q=>q
  rcases hc with z|z
  .rw[z];exact nit b u e
  .exact nit c _ z
def Inv.tok(I:Inv X ad σ H s)(t:Nat):Inv X ad σ H {s with toks:=t}:=I.un (h':=s.heap) (t':=t) Un.refl I.hok
def Inv.kept{t':Nat}(I:Inv X ad σ H s)(k:∀b u,s.heap.get? b=some u->h'.get? b=some u):Inv X ad σ H {s with heap:=h',toks:=t'}:=I.un (Un.kept k) (I.hok.kept k)
def Inv.laid{a:Addr}{o:HO}{t':Nat}(I:Inv X ad σ H s)(k:∀b u,s.heap.get? b=some u->h'.get? b=some u)(hp:s.heap.objs.size<=a)(new:ObjOk X.prog X.w (upd H a o) h' a o):
  Inv X ad σ (upd H a o) {s with heap:=h',toks:=t'}:=I.un (Un.laid k hp (I.hok.fresh hp)) (I.hok.laid k hp new)
def Inv.write{x e:Addr}{o:HO}{t':Nat}(I:Inv X ad σ H s)(mu:Mut (H x))(he:e=x\/H e=some (.own x))(k:∀b u,b≠e->s.heap.get? b=some u->h'.get? b=some u)(heo:∃u,h'.get? e=some u)
  (new:ObjOk X.prog X.w (upd H x o) h' x o):Inv X ad σ (upd H x o) {s with heap:=h',toks:=t'}:=I.un (Un.write mu he k heo) (I.hok.write mu he k heo new)
def Inv.pins_of{ad':List (Addr×Obj)}(I:Inv X ad σ H s)(h:∀p∈ad',s.heap.get? p.1=some p.2/\H p.1=none/\p.1≠X.env.locals/\p.1∉X.fs/\∀v,p.2.data≠.cell v):Inv X ad' σ H s:=
 ⟨I.ok,I.os,I.bare,I.base,I.loc,I.cell,I.free,I.freeC,λp hp=>(az.mp hp).elim (λz=>I.pin p (aE _ z)) (h p),I.hok,I.len⟩
def jII(hN:N.Nodup){x:Str}(a:N[i]?=some x)(b:N[j]?=some x):i=j:=by
 obtain⟨h1,e1⟩:=aF.mp a
 obtain⟨h2,e2⟩:=aF.mp b
 exact(List.getElem_inj hN).mp (e1.trans e2.symm)
def jFJ{M:Model}{A:Around}{E:Value->Shared->Prop}{i:Nat}{x:Str}{v:V}{u:Value}{Q:Unit->Shared->Prop}(I:Inv X ad σ H s)(hN:X.N.Nodup)(hi:X.N[i]?=some x)(hx:Loc X.env.scope x)(r:RelV v u)
  (h:∀s',Inv X ad (σ.set i (some v)) H s'->(∃a,Heap.SameBut a s.heap s'.heap/\(a=X.env.locals\/X.env.cells.lookup x=some a))->Q () s') (hf:X.fn x=true\/X.env.scope.names.lookup x=some .local:=by first|exact .inl rfl|exact .inr rfl|assumption):wpAny M A (storeName X.env x u) Q E s:=by
 obtain⟨m,hn,hl⟩:=id I.loc
 have hcls:(X.env.scope.kind==.class || (X.env.scope.kind==.module&&X.env.locals != X.env.globals))=false:=by rw[I.ok.kind];rfl
 have hiσ:i<σ.length:=by rw[I.len];exact(aF.mp hi).1
 have cne:=I.cne
 have tracked:∀{a:Addr}{h':Heap},(∃o,s.heap.get? a=some o/\H a=none)->Heap.SameBut a s.heap h'->HOk X.prog X.w H h':=λ{a h'} ha hs b ob e=>by
  obtain⟨_,_,hfree⟩:=ha
  refine(I.hok b ob e).stay (λc w' hc q=>(hs.2 c ?_).trans q) (λ_ q=>q) λ_ _ q=>q
  rintro rfl
  rcases hc with rfl|hc
  .rw[hfree] at e;cases e
  .rw[hfree] at hc;cases hc
 rcases hx with hk|hk
 .refine wpAny_storeName_local hk hn (λh' hn' hs=>?_) hcls
  obtain⟨oL,_,_,hoL,_⟩:=id hn
  refine h _ ⟨I.ok,I.os,I.bare,⟨λb o e n hb hx=>?_,λb o e n hb hx=>?_,I.base.free,λb o e hx=>?_,I.base.tups,I.base.frzs,I.base.tbls⟩,⟨_,hn',λj y v' e1 e2 e3=>?_⟩,λy c e=>?_,I.free,I.freeC,λp hp=>?_,tracked ⟨oL,hoL,I.free⟩ hs,by simpa using I.len⟩ ⟨_,hs,.inl rfl⟩
  .exact(hs.2 b (aS (aR (aw e) I.ok.above))).trans (I.base.keep b o e n hb hx)
  .obtain⟨sl,e1⟩:=I.base.slot b o e n hb hx
   exact⟨sl,(hs.2 b (aS (aR (aw e) I.ok.above))).trans e1⟩
  .obtain⟨o',e1⟩:=I.base.there b o e hx
   exact⟨o',(hs.2 b (aS (aR (aw e) I.ok.above))).trans e1⟩
  .by_cases hj:j=i
   .subst hj
    rw[hi] at e1;cases e1
    rw[iR hiσ] at e2
    cases e2
    exact⟨u,r,.inl ⟨hk,by simp⟩⟩
   .rw[jf (bO hj)] at e2
    obtain⟨u',r',q⟩:=hl j y v' e1 e2 e3
    refine⟨u',r',?_⟩
    rcases q with ⟨k,e⟩|⟨k,c,e,z⟩
    .refine .inl ⟨k,?_⟩
     have:y≠x:=λe=>hj (jII hN e1 (e ▸ hi))
     simp[this,e]
    .exact .inr ⟨k,c,e,z.sameBut hs (cne y c e)⟩
  .obtain⟨w',z⟩:=I.cell y c e
   exact⟨w',z.sameBut hs (cne y c e)⟩
  .obtain⟨e,n,ne,nf,d⟩:=I.pin p hp
   exact⟨(hs.2 p.1 ne).trans e,n,ne,nf,d⟩
 .have hfn:X.fn x=true:=by
   rcases hf with z|z
   .exact z
   .rw[z] at hk;cases hk
  obtain⟨c,hc⟩:=I.ok.has x (.inl hk)
  obtain⟨w',z⟩:=I.cell x c hc
  refine wpAny_storeName_cell I.ok.kind hk hc z (λh' hc' hs=>?_)
  obtain⟨oc,hoc,hocd⟩:=id z
  refine h {s with heap:=h'} ⟨I.ok,I.os,I.bare,⟨λb o e n hb hx=>?_,λb o e n hb hx=>?_,I.base.free,λb o e hx=>?_,I.base.tups,I.base.frzs,I.base.tbls⟩,⟨m,hn.sameBut hs (bO (cne x c hc)),λj y v' e1 e2 e3=>?_⟩,λy c' e=>?_,I.free,I.freeC,λp hp=>?_,tracked ⟨oc,hoc,I.freeC x c hc⟩ hs,by simpa using I.len⟩ ⟨c,hs,.inr hc⟩
  .exact(hs.2 b (aS (aR (aw e) (I.ok.cab x c hfn hc)))).trans (I.base.keep b o e n hb hx)
  .obtain⟨sl,e1⟩:=I.base.slot b o e n hb hx
   exact⟨sl,(hs.2 b (aS (aR (aw e) (I.ok.cab x c hfn hc)))).trans e1⟩
  .obtain⟨o',e1⟩:=I.base.there b o e hx
   exact⟨o',(hs.2 b (aS (aR (aw e) (I.ok.cab x c hfn hc)))).trans e1⟩
  .by_cases hj:j=i
   .subst hj
    rw[hi] at e1;cases e1
    rw[iR hiσ] at e2
    cases e2
    exact⟨u,r,.inr ⟨.inl hk,c,hc,hc'⟩⟩
   .rw[jf (bO hj)] at e2
    obtain⟨u',r',q⟩:=hl j y v' e1 e2 e3
    refine⟨u',r',?_⟩
    rcases q with q|⟨k,c',e,z'⟩
    .exact .inl q
    .refine .inr ⟨k,c',e,z'.sameBut hs ?_⟩
     rintro rfl
     exact hj (jII hN e1 (I.ok.inj _ _ _ e hc ▸ hi))
  .by_cases hcc:c'=c
   .subst hcc;exact⟨_,hc'⟩
   .obtain⟨w2,z2⟩:=I.cell y c' e
    exact⟨w2,z2.sameBut hs hcc⟩
  .obtain⟨e,n,ne,nf,d⟩:=I.pin p hp
   refine⟨(hs.2 p.1 ?_).trans e,n,ne,nf,d⟩
   intro q
   rw[q,hoc] at e
   have q':oc=p.2:=bj e
   exact d w' (by rw[<- q'];exact hocd)
def jEF{x:Str}{v:V}{Q:Unit->Shared->Prop}(I:Inv X ad σ H s)(hN:X.N.Nodup)(hi:X.N[i]?=some x)(hx:Loc X.env.scope x)(r:RelV v u)
  (h:∀s',Inv X ad (σ.set i (some v)) H s'->Q () s') (hf:X.fn x=true\/X.env.scope.names.lookup x=some .local:=by first|exact .inl rfl|exact .inr rfl|assumption):wpAny M A (storeName X.env x u) Q E s:=
 jFJ I hN hi hx r (λs' I' _=>h s' I') hf
def Inv.call'{s':Shared}{ch:List Addr}(I:Inv X ad σ H s)(ho:s'.os=s.os)(u:Un (frs X.stack) ch H H' s.heap s'.heap)(hok:HOk X.prog X.w H' s'.heap)(hg:AllBare s'.gens)
  (hch:∀b∈ch,(b∈X.ex\/X.s₀.heap.objs.size<=b)/\b≠X.env.locals/\(∀x c,X.env.cells.lookup x=some c->c≠b)/\∀p∈X.pn++ad,p.1≠b):Inv X ad σ H' s':=by
 obtain⟨h',g',d',t',o'⟩:=s'
 have e:o'=s.os:=ho
 subst e
 exact I.call (g':=g') (t':=t') (d':=d') u hok hg hch
end
abbrev XK:=Value->Option Addr->Hp->Prop
abbrev St:=List (Option V)
abbrev VK:=V->Hp->Prop
abbrev TE:=St->Hp->VK->Prop
abbrev TT:=St->Hp->(Bool->Hp->Prop)->Prop
abbrev TA:=St->Hp->(List V->Hp->Prop)->Prop
structure Ends where
 nx:St->Hp->Prop
 rt:VK
 bk:St->Hp->Prop:=λ_ _=>False
 ct:St->Hp->Prop:=λ_ _=>False
abbrev TS:=Ends->St->Hp->Prop
def EP(X:Cx)(ad:List (Addr×Obj))(σ:St)(Q:VK)(u:Value)(s':Shared):Prop:=∃v H',Inv X ad σ H' s'/\RelV v u/\Q v H'
def TP(X:Cx)(ad:List (Addr×Obj))(σ:St)(Q:Bool->Hp->Prop)(b:Bool)(s':Shared):Prop:=∃H',Inv X ad σ H' s'/\Q b H'
def AP(X:Cx)(ad:List (Addr×Obj))(σ:St)(Q:List V->Hp->Prop)(us:List Value)(s':Shared):Prop:=∃vs H',Inv X ad σ H' s'/\Vals vs us/\Q vs H'
def SP(X:Cx)(ad:List (Addr×Obj))(D:Ends)(f:Flow)(s':Shared):Prop:=
 match f with
 | .next=>∃σ' H',Inv X ad σ' H' s'/\D.nx σ' H'
 | .brk=>∃σ' H',Inv X ad σ' H' s'/\D.bk σ' H'
 | .cont=>∃σ' H',Inv X ad σ' H' s'/\D.ct σ' H'
 | .ret u=>∃v σ' H',Inv X ad σ' H' s'/\RelV v u/\D.rt v H'
def PE(X:Cx)(e:Expr)(t:TE):Prop:=
 ∀(ad:List (Addr×Obj)) (s:Shared) (σ:St) (H:Hp) (Q:VK),Inv X ad σ H s->t σ H Q->wpAny (model X.prog X.w) X.A (eval e X.env) (EP X ad σ Q) X.xe s
def PT(X:Cx)(e:Expr)(t:TT):Prop:=
 ∀(ad:List (Addr×Obj)) (s:Shared) (σ:St) (H:Hp) (Q:Bool->Hp->Prop),Inv X ad σ H s->t σ H Q->wpAny (model X.prog X.w) X.A (isTrue e X.env (eval e X.env)) (TP X ad σ Q) X.xe s
def PW(X:Cx)(e:Expr)(t:TT):Prop:=
 ∀(whole:Sem Value) (ad:List (Addr×Obj)) (s:Shared) (σ:St) (H:Hp) (Q:Bool->Hp->Prop),Inv X ad σ H s->t σ H Q->wpAny (model X.prog X.w) X.A (isTrue e X.env whole) (TP X ad σ Q) X.xe s
def PW.pt{t:TT}(h:PW X e t):PT X e t:=h _
def PA(X:Cx)(es:List Expr)(t:TA):Prop:=
 ∀(pos:Pos) (ad:List (Addr×Obj)) (s:Shared) (σ:St) (H:Hp) (Q:List V->Hp->Prop),Inv X ad σ H s->t σ H Q->wpAny (model X.prog X.w) X.A (spliced (backTo pos (starEach es X.env))) (AP X ad σ Q) X.xe s
def PS(X:Cx)(st:Stmt)(t:TS):Prop:=
 ∀(ad:List (Addr×Obj)) (s:Shared) (σ:St) (H:Hp) (D:Ends),Inv X ad σ H s->t D σ H->wpAny (model X.prog X.w) X.A (exec st X.env) (SP X ad D) X.xe s
def PSs(X:Cx)(st:List Stmt)(t:TS):Prop:=
 ∀(ad:List (Addr×Obj)) (s:Shared) (σ:St) (H:Hp) (D:Ends),Inv X ad σ H s->t D σ H->wpAny (model X.prog X.w) X.A (execs st X.env) (SP X ad D) X.xe s
def ln{t:Sem α}{Q Q':α->Shared->Prop}(h:wpAny M A t Q E s)(hQ:∀a s,Q a s->Q' a s):wpAny M A t Q' E s:=cn h hQ λ_ _ x=>x
variable {b:Expr}{ta tb:TE}{pos:Pos}
variable {σ:St}
section
def tVar(i:Nat):TE:=λσ H Q=>∃v,σ[i]?=some (some v)/\Q v H
def tC(v:V):TE:=λ_ H Q=>Q v H
theorem jPC{x:Str}(hN:X.N[i]?=some x)(hv:Vis X.env.scope x)(hd:(x==("__debug__":Str))=false:=by decide)(hcd:(x==("__classdict__":Str))=false:=by decide):PE X (.Name x pos) (tVar i):=by
 intro ad s σ H Q I h
 obtain⟨v,e,h⟩:=h
 obtain⟨m,hn,hl⟩:=I.loc
 obtain⟨u,r,l⟩:=hl i x v hN e hv
 have fin:EP X ad σ Q u s:=⟨v,H,I,r,h⟩
 rcases l with ⟨hk,hm⟩|⟨hk,c,hc,hcell⟩
 .exact wpAny_Name (wpAny_loadName_local I.ok.kind hk hn hm fin) hd
 .rcases hk with hk|hk
  .exact wpAny_Name (wpAny_loadName_cell I.ok.kind hk hc hcell fin) hd
  .exact wpAny_Name (wpAny_loadName_free I.ok.kind hk hc hcell fin hcd) hd
def jY{i j pos}:PE X (.Constant (.int i) j pos) (tC (.int i)):=λ_ _ _ H _ I h=>wpAny_Constant_int ⟨.int i,H,I.tok _,⟨_,rfl⟩,h⟩
def pe_bl{b j pos}:PE X (.Constant (.bool b) j pos) (tC (.bl b)):=λ_ _ _ H _ I h=>Constant_bool ⟨.bl b,H,I,rfl,h⟩
def jSR{j pos}:PE X (.Constant .none j pos) (tC .non):=λ_ _ _ H _ I h=>Constant_none ⟨.non,H,I,rfl,h⟩
def jSO{x j pos}:PE X (.Constant (.str x) j pos) (tC (.str x)):=λ_ _ _ H _ I h=>Calls.Constant_str ⟨.str x,H,I.tok _,⟨_,rfl⟩,h⟩
def Gl(X:Cx)(x:Str):Prop:=X.env.kindOf x=some .globalImplicit
theorem jRB{x:Str}(I:Inv X ad σ H s)(hg:Gl X x)(hm:X.mg x=some u)(h:Q u s)
  (hd:(x==("__debug__":Str))=false:=by decide):wpAny (model X.prog X.w) X.A (eval (.Name x pos) X.env) Q E s:=
 gN I.ok.kind hg (Calls.loadGlobal_global (by rw[I.ok.glob];exact I.mod.glob.keeps I.bk) hm h) hd
theorem jCU{x:Str}(I:Inv X ad σ H s)(hg:Gl X x)(hm:X.mg x=none)(hv:bootBuiltins x=some u)(h:Q u s)
  (hn:x≠"__name__" :=by decide) (hd:(x==("__debug__":Str))=false:=by decide):wpAny (model X.prog X.w) X.A (eval (.Name x pos) X.env) Q E s:=by
 obtain⟨mb,h1,h2⟩:=I.mod.blt
 exact gN I.ok.kind hg (Calls.loadGlobal_builtin (by rw[I.ok.glob];exact I.mod.glob.keeps I.bk) hm (by rw[I.ok.blt];exact h1.keeps I.bk) ((h2 x hn).trans hv) h) hd
theorem jQT{x:Str}{v:V}(hg:Gl X x)(hm:X.mg x=none)(hv:bootBuiltins x=some u)(r:RelV v u)(hn:x≠"__name__" :=by decide)(hd:(x==("__debug__":Str))=false:=by decide):PE X (.Name x pos) (tC v):=
 λ_ _ _ H _ I h=>jCU I hg hm hv ⟨v,H,I,r,h⟩ hn hd
variable {a:Expr}
def tB(t:TE):TT:=λσ H Q=>t σ H λx H1=>∃c,x=.bl c/\Q c H1
def jSF{t:TE}(h:PE X e t)(he:∀whole,isTrue e X.env whole=(do let v <- whole;standAt e.pos;holding [v] (truthy v)):=by intro _;rfl):PT X e (tB t):=by
 intro ad s σ H Q I hw
 refine isTrue_plain (ln (h ad s σ H _ I hw) λv s1 ⟨x,H1,I1,r1,q1⟩=>?_) (he _)
 obtain⟨d,rfl,q⟩:=q1
 cases r1
 exact eG ⟨H1,I1,q⟩
variable {tA tB':TT}{rest:List Expr}
def tAnd(t u:TT):TT:=λσ H Q=>t σ H λc H1=>if c=true then u σ H1 Q else Q false H1
def tOr(t u:TT):TT:=λσ H Q=>t σ H λc H1=>if c=true then Q true H1 else u σ H1 Q
def tNot(t:TT):TT:=λσ H Q=>t σ H λc H1=>Q (!c) H1
def jQA(ha:PT X a tA):PW X (.BoolOp .And [a] pos) tA:=by
 intro wh ad s σ H Q I h
 refine isTrue_and (ln (ha ad s σ H Q I h) λc s1 e=>?_)
 cases c with
 |true=>exact isTrue_and_nil e
 |false=>exact e
def jSC(ha:PT X a tA):PW X (.BoolOp .Or [a] pos) tA:=by
 intro wh ad s σ H Q I h
 refine isTrue_or (ln (ha ad s σ H Q I h) λc s1 e=>?_)
 cases c with
 |false=>exact isTrue_or_nil e
 |true=>exact e
def jSE(ha:PT X a tA)(hb:PW X (.BoolOp .And (b::rest) pos) tB'):PW X (.BoolOp .And (a::b::rest) pos) (tAnd tA tB'):=by
 intro wh ad s σ H Q I h
 refine isTrue_and (ln (ha ad s σ H _ I h) λc s1 ⟨H1,I1,q1⟩=>?_)
 cases c with
 |true=>exact hb wh ad s1 σ H1 Q I1 q1
 |false=>exact⟨H1,I1,q1⟩
def pw_or(ha:PT X a tA)(hb:PW X (.BoolOp .Or (b::rest) pos) tB'):PW X (.BoolOp .Or (a::b::rest) pos) (tOr tA tB'):=by
 intro wh ad s σ H Q I h
 refine isTrue_or (ln (ha ad s σ H _ I h) λc s1 ⟨H1,I1,q1⟩=>?_)
 cases c with
 |true=>exact⟨H1,I1,q1⟩
 |false=>exact hb wh ad s1 σ H1 Q I1 q1
def jSG(ha:PT X a tA):PT X (.UnaryOp .Not a pos) (tNot tA):=by
 intro ad s σ H Q I h
 exact isTrue_not (ha ad s σ H (λc H1=>Q (!c) H1) I h)
def tAndV(ta tb:TE):TE:=λσ H Q=>ta σ H λx H1=>∃c,x=.bl c/\if c=true then tb σ H1 Q else Q (.bl false) H1
def tNotV(ta:TE):TE:=λσ H Q=>ta σ H λx H1=>∃c,x=.bl c/\Q (.bl (!c)) H1
def jSP{op}{t:TE}(h:PE X a t):PE X (.BoolOp op [a] pos) t:=λad s σ H Q I hw=>BoolOp_one (h ad s σ H Q I hw)
def jST(ha:PE X a ta)(hb:PE X (.BoolOp .And (b::rest) pos) tb):PE X (.BoolOp .And (a::b::rest) pos) (tAndV ta tb):=by
 intro ad s σ H Q I h
 refine BoolOp_and (ln (ha ad s σ H _ I h) λv s1 ⟨x,H1,I1,r1,q1⟩=>?_)
 obtain⟨c,rfl,q1⟩:=q1
 cases r1
 refine eG ?_
 cases c with
 |true=>exact hb ad s1 σ H1 Q I1 q1
 |false=>exact⟨.bl false,H1,I1,rfl,q1⟩
def jSQ(ha:PE X a ta):PE X (.UnaryOp .Not a pos) (tNotV ta):=by
 intro ad s σ H Q I h
 refine UnaryOp_ (ln (ha ad s σ H _ I h) λv s1 ⟨x,H1,I1,r1,q1⟩=>?_)
 obtain⟨c,rfl,q1⟩:=q1
 cases r1
 exact not_of (eG ⟨.bl (!c),H1,I1,rfl,q1⟩)
def tIf(t:TT)(ta tb:TE):TE:=λσ H Q=>t σ H λc H1=>if c=true then ta σ H1 Q else tb σ H1 Q
def jNY(hc:PT X c tA)(ha:PE X a ta)(hb:PE X b tb):PE X (.IfExp c a b pos) (tIf tA ta tb):=by
 intro ad s σ H Q I h
 refine wpAny_IfExp (ln (hc ad s σ H _ I h) λd s1 ⟨H1,I1,q1⟩=>?_)
 cases d with
 |true=>exact ha ad s1 σ H1 Q I1 q1
 |false=>exact hb ad s1 σ H1 Q I1 q1
end
def SqL(K:W.Frag)(H:Hp)(a:Addr)(xs:List V):Prop:=
 Rd H a (.lst xs)\/
  ∃(o:Obj) (its:Array Value) (n:Nat),K.lookup a=some o/\o.cls=.type "list" /\o.dict=none/\o.data=.seq its n/\its.size<=sizeLine/\Vals xs its.toList
def SqT(K:W.Frag)(H:Hp)(a:Addr)(xs:List V):Prop:=
 Rd H a (.tup xs)\/
  ∃(o:Obj) (its:Array Value) (n:Nat),K.lookup a=some o/\o.cls=.type "tuple" /\o.data=.seq its n/\its.size<=sizeLine/\Vals xs its.toList
noncomputable def absV:Value->Option V
 | .none=>some .non
 | .bool b=>some (.bl b)
 | .int i _=>some (.int i)
 | .str x _=>some (.str x)
 | .bytes b _=>some (.byt b)
 | .float b _=>some (.flt b)
 | .ref a=>some (.ref a)
 | .type n=>some (.ty n)
 |_=>none
def RelV.abs{x:V}(r:RelV x u):absV u=some x:=by
 cases x with
 |non=>cases r;rfl
 |bl _=>cases r;rfl
 |int _=>obtain⟨t,rfl⟩:=r;rfl
 |str _=>obtain⟨t,rfl⟩:=r;rfl
 |byt _=>obtain⟨t,rfl⟩:=r;rfl
 |flt _=>obtain⟨t,rfl⟩:=r;rfl
 |ref _=>cases r;rfl
 |ty _=>cases r;rfl
def RelV.inj{x y:V}{u:Value}(r:RelV x u)(q:RelV y u):x=y:=bj (r.abs.symm.trans q.abs)
def Vals.inj:∀{xs ys:List V}{us:List Value},Vals xs us->Vals ys us->xs=ys
 |_,_,_,.nil,.nil=>rfl
 |_,_,_,.cons r t,.cons r' t'=>by rw[r.inj r',Vals.inj t t']
section
variable {σ:St}{xs ys:List V}
def SqL.of{K:W.Frag}(h:H a=some (.lst xs)):SqL K H a xs:=.inl (.inl h)
def SqT.of{K:W.Frag}(h:H a=some (.tup xs)):SqT K H a xs:=.inl (.inl h)
theorem Inv.list(I:Inv X ad σ H s)(h:SqL X.K H a xs):∃its:List Value,Vals xs its/\PlainL s.heap a its.toArray/\xs.length<=sizeLine:=by
 rcases h with h|⟨o,its,n,hk,hc,hd,hs,hz,r⟩
 .obtain⟨z,its,n,r,e⟩:=h.ok I.hok
  exact⟨its,r,⟨_,n,e,rfl,rfl,rfl⟩,z⟩
 .refine⟨its.toList,r,⟨o,n,I.kIn a o hk,hc,hd,by simpa using hs⟩,?_⟩
  have e:=r.length
  simp only[aM] at e
  lia
theorem Inv.tuple(I:Inv X ad σ H s)(h:SqT X.K H a xs):∃its:List Value,Vals xs its/\IsTup s.heap a its.toArray/\xs.length<=sizeLine:=by
 rcases h with h|⟨o,its,n,hk,hc,hs,hz,r⟩
 .obtain⟨z,its,r,p⟩:=h.ok I.hok
  exact⟨its,r,p.isTup,z⟩
 .refine⟨its.toList,r,⟨o,I.kIn a o hk,hc,n,by simpa using hs⟩,?_⟩
  have e:=r.length
  simp only[aM] at e
  lia
def Inv.list_inj(I:Inv X ad σ H s)(h:SqL X.K H a xs)(h':SqL X.K H a ys):xs=ys:=by
 obtain⟨its,r,⟨o,n,e,_,_,d⟩,_⟩:=I.list h
 obtain⟨its',r',⟨o',n',e',_,_,d'⟩,_⟩:=I.list h'
 rw[e] at e';cases e'
 rw[d] at d'
 injection d' with d1 _
 have:its=its':=by simpa using bB Array.toList d1
 subst this
 exact r.inj r'
def Inv.tuple_inj(I:Inv X ad σ H s)(h:SqT X.K H a xs)(h':SqT X.K H a ys):xs=ys:=by
 obtain⟨its,r,⟨o,e,_,n,d⟩,_⟩:=I.tuple h
 obtain⟨its',r',⟨o',e',_,n',d'⟩,_⟩:=I.tuple h'
 rw[e] at e';cases e'
 rw[d] at d'
 injection d' with d1 _
 have:its=its':=by simpa using bB Array.toList d1
 subst this
 exact r.inj r'
end
abbrev Cx.wish(X:Cx)(E:Value->Shared->Prop):Cx:= {X with xe:=E}
abbrev Cx.nox(X:Cx):Cx:=X.wish λ_ _=>False
def Cx.Ok.wish(ok:X.Ok)(E:Value->Shared->Prop):(X.wish E).Ok:=
 ⟨ok.mod,ok.kind,ok.glob,ok.blt,ok.above,ok.inj,ok.has,ok.cab,ok.hd,ok.frames,ok.stk,ok.exf,ok.bs,ok.bsz,ok.noex,ok.exfs,ok.funs,ok.frf⟩
def Cx.Ok.unwish(ok:(X.wish E).Ok):X.Ok:=
 ⟨ok.mod,ok.kind,ok.glob,ok.blt,ok.above,ok.inj,ok.has,ok.cab,ok.hd,ok.frames,ok.stk,ok.exf,ok.bs,ok.bsz,ok.noex,ok.exfs,ok.funs,ok.frf⟩
variable {E:Value->Shared->Prop}
section
variable {σ:St}
def Inv.wish(I:Inv X ad σ H s)(E:Value->Shared->Prop):Inv (X.wish E) ad σ H s:=⟨I.ok.wish E,I.os,I.bare,I.base,I.loc,I.cell,I.free,I.freeC,I.pin,I.hok,I.len⟩
def Inv.unwish(I:Inv (X.wish E) ad σ H s):Inv X ad σ H s:=⟨I.ok.unwish,I.os,I.bare,I.base,I.loc,I.cell,I.free,I.freeC,I.pin,I.hok,I.len⟩
def SP.unwish{D:Ends}{f:Flow}{s':Shared}(h:SP (X.wish E) ad D f s'):SP X ad D f s':=by
 cases f with
 |next=>obtain⟨σ',H',I,q⟩:=h;exact⟨σ',H',I.unwish,q⟩
 |brk=>obtain⟨σ',H',I,q⟩:=h;exact⟨σ',H',I.unwish,q⟩
 |cont=>obtain⟨σ',H',I,q⟩:=h;exact⟨σ',H',I.unwish,q⟩
 |ret u=>obtain⟨v,σ',H',I,r,q⟩:=h;exact⟨v,σ',H',I.unwish,r,q⟩
def PSs.nox{st:List Stmt}{t:TS}(h:PSs X.nox st t):PSs X st t:=λad s σ H D I hw=>
 cn (h ad s σ H D (I.wish _) hw) (λ_ _ q=>q.unwish) λ_ _ z=>False.elim z
end
variable {e:Expr}{te:TE}
section
variable {st:Stmt}{rest:List Stmt}{t u:TS}
def tNext:TS:=λD σ H=>D.nx σ H
def tSeq(t u:TS):TS:=λD σ H=>t {D with nx:=u D} σ H
def jEN:PSs X [] tNext:=λ_ _ σ H _ I h=>gy ⟨σ,H,I,h⟩
def yI(h1:PS X st t)(h2:PSs X rest u):PSs X (st::rest) (tSeq t u):=by
 intro ad s σ H D I h
 refine wpAny_execs_cons (ln (h1 ad s σ H {D with nx:=u D} I h) λf s1 q=>?_)
 cases f with
 |next=>
  obtain⟨σ',H',I',q⟩:=q
  exact h2 ad s1 σ' H' D I' q
 |ret v=>exact q
 |brk=>exact q
 |cont=>exact q
def jAW(h1:PS X st t):PSs X [st] t:=by
 intro ad s σ H D I h
 refine wpAny_execs_cons (ln (h1 ad s σ H D I h) λf s1 q=>?_)
 cases f with
 |next=>exact gy q
 |ret v=>exact q
 |brk=>exact q
 |cont=>exact q
def Inv.quiet(I:Inv X ad σ H s):interactive X.env=false:=by simp[interactive,I.ok.kind]
def tDrop(te:TE):TS:=λD σ H=>te σ H λ_ H1=>D.nx σ H1
def jQD(he:PE X e te)(hs:swapsWith e none pos.line X.env=pure false:=by rfl):PS X (.Expr e pos) (tDrop te):=by
 intro ad s σ H D I h
 exact wpAny_Expr_any (ln (he ad s σ H _ I h) λv s1 ⟨x,H1,I1,r1,q1⟩=>⟨σ,H1,I1,q1⟩) I.quiet hs
def tRet(te:TE):TS:=λD σ H=>te σ H D.rt
def jCS(he:PE X e te):PS X (.Return (some e) pos) (tRet te):=by
 intro ad s σ H D I h
 exact wpAny_Return_some (ln (he ad s σ H _ I h) λv s1 ⟨x,H1,I1,r1,q1⟩=>⟨x,σ,H1,I1,r1,q1⟩)
def tIfS(c:TT)(t u:TS):TS:=λD σ H=>c σ H λb H1=>if b=true then t D σ H1 else u D σ H1
def ps_if{a b:List Stmt}{tc:TT}(hc:PT X c tc)(ha:PSs X a t)(hb:PSs X b u):PS X (.If c a b pos) (tIfS tc t u):=by
 intro ad s σ H D I h
 refine wpAny_If (ln (hc ad s σ H _ I h) λd s1 ⟨H1,I1,q1⟩=>?_)
 cases d with
 |true=>exact ha ad s1 σ H1 D I1 q1
 |false=>exact hb ad s1 σ H1 D I1 q1
end
abbrev TG:=V->St->Hp->(St->Hp->Prop)->Prop
abbrev TGs:=List V->St->Hp->(St->Hp->Prop)->Prop
def PG(X:Cx)(target:Expr)(t:TG):Prop:=
 ∀(ad:List (Addr×Obj)) (s:Shared) (σ:St) (H:Hp) (v:V) (u:Value) (Q:St->Hp->Prop),Inv X ad σ H s->RelV v u->t v σ H Q->
  wpAny (model X.prog X.w) X.A (assign target X.env u) (λ_ s'=>∃σ' H',Inv X ad σ' H' s'/\Q σ' H') X.xe s
def PGs(X:Cx)(ts:List Expr)(t:TGs):Prop:=
 ∀(ad:List (Addr×Obj)) (s:Shared) (σ:St) (H:Hp) (vs:List V) (us:List Value) (Q:St->Hp->Prop),Inv X ad σ H s->Vals vs us->t vs σ H Q->
  wpAny (model X.prog X.w) X.A (assignInOrder ((assignEach ts X.env).map (·.2)) us) (λ_ s'=>∃σ' H',Inv X ad σ' H' s'/\Q σ' H') X.xe s
abbrev TSet:=V->V->V->Hp->(Hp->Prop)->Prop
def PSet(X:Cx)(t:TSet):Prop:=
 ∀(ad:List (Addr×Obj)) (s:Shared) (σ:St) (H:Hp) (o i v:V) (ov iv u:Value) (Q:Hp->Prop),Inv X ad σ H s->RelV o ov->RelV i iv->RelV v u->t o i v H Q->
  wpAny (model X.prog X.w) X.A (setItem ov iv u) (λ_ s'=>∃H',Inv X ad σ H' s'/\Q H') X.xe s
abbrev TIp:=V->V->Hp->VK->Prop
def PIp(X:Cx)(op:Operator)(t:TIp):Prop:=
 ∀(ad:List (Addr×Obj)) (s:Shared) (σ:St) (H:Hp) (x y:V) (v u:Value) (Q:VK),Inv X ad σ H s->RelV x v->RelV y u->t x y H Q->
  wpAny (model X.prog X.w) X.A (inplaceOp op v u) (EP X ad σ Q) X.xe s
def kI(i:Nat):TG:=λv σ H Q=>Q (σ.set i (some v)) H
def jEO{i:Nat}{x:Str}(hN:X.N.Nodup)(hi:X.N[i]?=some x)(hx:Loc X.env.scope x)(hf:X.fn x=true\/X.env.scope.names.lookup x=some .local:=by first|exact .inl rfl|exact .inr rfl|assumption):PG X (.Name x pos) (kI i):=by
 intro ad s σ H v u Q I r h
 exact wpAny_assign_Name (jEF I hN hi hx r (λs' I'=>⟨_,H,I',h⟩) hf)
def gNil:TGs:=λvs σ H Q=>vs=[]/\Q σ H
def qZ(t:TG)(u:TGs):TGs:=λvs σ H Q=>∃v r,vs=v::r/\t v σ H λσ' H'=>u r σ' H' Q
def jQM:PGs X [] gNil:=by
 intro ad s σ H vs us Q I r h
 obtain⟨e,h⟩:=h
 subst e
 cases r
 exact assignInOrder_nil ⟨σ,H,I,h⟩
def jNW{t:TG}{u:TGs}(h1:PG X e t)(h2:PGs X es u)
  (hs:(assignEach (e::es) X.env).map (·.2)=assign e X.env::(assignEach es X.env).map (·.2):=by rfl):PGs X (e::es) (qZ t u):=by
 intro ad s σ H vs us Q I r h
 obtain⟨v,vr,e1,h⟩:=h
 subst e1
 cases r with
 |cons r rr=>
  rw[hs]
  refine assignInOrder_cons (ln (h1 ad s σ H _ _ _ I r h) λ_ s1 ⟨σ1,H1,I1,q1⟩=>?_)
  exact h2 ad s1 σ1 H1 _ _ Q I1 rr q1
def gTup(K:W.Frag)(n:Nat)(t:TGs):TG:=λv σ H Q=>∃a xs,v=.ref a/\SqT K H a xs/\xs.length=n/\t xs σ H Q
def jSM{k:Nat}{t:TGs}{n:Nat}(hc:X.calm=true)(h:PGs X es t)
  (hn:(assignEach es X.env).length=n:=by rfl) (hst:(assignEach es X.env).findIdx? (·.1)=none:=by rfl):PG X (.Tuple es k pos) (gTup X.K n t):=by
 intro ad s σ H v u Q I r hw
 obtain⟨a,xs,e1,hq,hl,hw⟩:=hw
 subst e1
 cases r
 obtain⟨its,rv,ht,hz⟩:=I.tuple hq
 refine assign_Tuple_tuple (I.ok.hd hc) ht (by simp[hn,<- hl,rv.length]) hst λh' hx=>?_
 have I1:Inv X ad σ H {s with heap:=h'}:=I.kept (t':=s.toks) λb o e=>hx b o (aS (aw e)) e
 exact h ad _ σ H xs _ Q I1 (by simpa using rv) hw
def gSub(to ti:TE)(t:TSet):TG:=λv σ H Q=>to σ H λo H1=>ti σ H1 λi H2=>t o i v H2 λH3=>Q σ H3
def jPB{o i:Expr}{to ti:TE}{t:TSet}(ho:PE X o to)(hi:PE X i ti)(hs:PSet X t)
  (ha:∀v,assign (.Subscript o i pos) X.env v=(do
   let ov <- holding [v] (eval o X.env)
   let iv <- holding [v,ov] (eval i X.env)
   standAt pos
   holding [v,ov,iv] (setItem ov iv v)
   release [v,ov,iv] []):=by intro _;rfl):PG X (.Subscript o i pos) (gSub to ti t):=by
 intro ad s σ H v u Q I r h
 rw[ha]
 refine ab (cx (ln (ho ad s σ H _ I h) λov s1 ⟨x,H1,I1,r1,q1⟩=>?_))
 refine ab (cx (ln (hi ad s1 σ H1 _ I1 q1) λiv s2 ⟨y,H2,I2,r2,q2⟩=>?_))
 refine ab (iu (ab (cx (ln (hs ad s2 σ H2 x y v ov iv u _ I2 r1 r2 r q2) λ_ s3 ⟨H3,I3,q3⟩=>?_))))
 exact wpAny_release ⟨σ,H3,I3,q3⟩
def tAsg(te:TE)(g:TG):TS:=λD σ H=>te σ H λx H1=>g x σ H1 D.nx
def jP8{g:TG}(he:PE X e te)(hg:PG X tg g)(hs:swapsWithSole [tg] e pos.line X.env=pure false:=by rfl)(hw:swappedStores [tg] e X.env=pure none:=by rfl)
  (h1:(assignEach [tg] X.env).map (·.2)=[assign tg X.env]:=by rfl):PS X (.Assign [tg] e pos) (tAsg te g):=by
 intro ad s σ H D I h
 refine wpAny_Assign_stores (ln (he ad s σ H _ I h) λv s1 ⟨x,H1,I1,r1,q1⟩=>?_) hs hw
 rw[h1]
 exact ln (hg ad s1 σ H1 x v _ I1 r1 q1) λ_ s2 q=>q
def qO{i:Nat}{x:Str}{e:Expr}{te:TE}{pos':Pos}(hN:X.N.Nodup)(hi:X.N[i]?=some x)(hx:Loc X.env.scope x)(he:PE X e te)(hs:swapsWith e (some (.Name x pos')) pos.line X.env=pure false:=by rfl)(hf:X.fn x=true\/X.env.scope.names.lookup x=some .local:=by first|exact .inl rfl|exact .inr rfl|assumption):
  PS X (.Assign [.Name x pos'] e pos) (tAsg te (kI i)):=by
 intro ad s σ H D I h
 refine wpAny_Assign_Name (ln (he ad s σ H _ I h) λv s1 ⟨y,H1,I1,r1,q1⟩=>?_) hs
 exact jEF I1 hN hi hx r1 (λs2 I2=>⟨_,H1,I2,q1⟩) hf
def tAug(i:Nat)(te:TE)(ti:TIp):TS:=λD σ H=>∃x,σ[i]?=some (some x)/\te σ H λy H1=>ti x y H1 λz H2=>D.nx (σ.set i (some z)) H2
def jSH{x:Str}{op:Operator}{ti:TIp}{pos':Pos}(hN:X.N.Nodup)(hi:X.N[i]?=some x)(hx:Loc X.env.scope x)(he:PE X e te)(ho:PIp X op ti)(hf:X.fn x=true\/X.env.scope.names.lookup x=some .local:=by first|exact .inl rfl|exact .inr rfl|assumption):
  PS X (.AugAssign (.Name x pos') op e pos) (tAug i te ti):=by
 intro ad s σ H D I h
 obtain⟨v,e1,h⟩:=h
 obtain⟨m,hn,hl⟩:=I.loc
 have vis:Vis X.env.scope x:=by rcases hx with k|k;exact .inl k;exact .inr (.inl k)
 obtain⟨u,r,l⟩:=hl i x v hi e1 vis
 refine wpAny_AugAssign_Name ?_
 have go:wpAny (model X.prog X.w) X.A (eval e X.env) (λw s₂=>wpAny (model X.prog X.w) X.A (inplaceOp op u w) (λr s₃=>wpAny (model X.prog X.w) X.A (storeName X.env x r) (λ_=>SP X ad D .next) X.xe s₃) X.xe s₂) X.xe s:=by
  refine ln (he ad s σ H _ I h) λw s1 ⟨y,H1,I1,r1,q1⟩=>?_
  refine ln (ho ad s1 σ H1 v y u w _ I1 r r1 q1) λz s2 ⟨zv,H2,I2,r2,q2⟩=>?_
  exact jEF I2 hN hi hx r2 (λs3 I3=>⟨_,H2,I3,q2⟩) hf
 rcases l with ⟨hk,hm⟩|⟨hk,c,hc,hcell⟩
 .exact wpAny_loadName_local I.ok.kind hk hn hm go
 .rcases hk with hk|hk
  .exact wpAny_loadName_cell I.ok.kind hk hc hcell go
  .rcases hx with k|k
   .have:X.env.scope.names.lookup x=some .free:=hk
    rw[k] at this;cases this
   .have:X.env.scope.names.lookup x=some .free:=hk
    rw[k] at this;cases this
def ipI(f:Int->Int->Int):TIp:=λx y H Q=>∃i j,x=.int i/\y=.int j/\Q (.int (f i j)) H
def jTO:PIp X .Add (ipI λi j=>i+j):=by
 intro ad s σ H x y v u Q I r1 r2 h
 obtain⟨i,j,e1,e2,q⟩:=h
 subst e1;subst e2
 obtain⟨t,rfl⟩:=r1
 obtain⟨t',rfl⟩:=r2
 exact iadd_int ⟨.int _,H,I.tok _,⟨_,rfl⟩,q⟩
def jP1(c:TT)(tb:TS):TS:=λD σ H=>∃W:Nat->St->Hp->Prop,(∃m,W m σ H)/\∀m σ H,W m σ H->
 c σ H λb H1=>if b=true then ∃N:St->Hp->Prop,(∀σ' H',N σ' H'->∃m',m'<m/\W m' σ' H')/\tb {D with nx:=N,ct:=N,bk:=D.nx} σ H1 else D.nx σ H1
def jNN{tc:TT}{tb:TS}(hp:PassesOwn (model X.prog X.w) X.A X.env X.xe)(hc:PT X c tc)(hb:PSs X body tb):PS X (.While c body [] pos) (jP1 tc tb):=by
 intro ad s σ H D I h
 obtain⟨W,⟨m0,w0⟩,turn⟩:=h
 refine wpAny_While (codeAny_whileLoop (λn s'=>∃σ' H',Inv X ad σ' H' s'/\W n σ' H') ?_ m0 ⟨σ,H,I,w0⟩)
 rintro n s1 ⟨σ1,H1,I1,w1⟩
 refine dI hp (ln (hc ad s1 σ1 H1 _ I1 (turn n σ1 H1 w1)) λb s2 ⟨H2,I2,q2⟩=>?_)
 cases b with
 |true=>
  obtain⟨N,hN,q2⟩:=q2
  rw[ai rfl]
  refine dI hp (ln (hb ad s2 σ1 H2 _ I2 q2) λf s3 q3=>?_)
  cases f with
  |next=>
   obtain⟨σ3,H3,I3,n3⟩:=q3
   obtain⟨m',hm,w3⟩:=hN σ3 H3 n3
   exact⟨m',hm,σ3,H3,I3,w3⟩
  |cont=>
   obtain⟨σ3,H3,I3,n3⟩:=q3
   obtain⟨m',hm,w3⟩:=hN σ3 H3 n3
   exact⟨m',hm,σ3,H3,I3,w3⟩
  |brk=>exact q3
  |ret v=>exact q3
 |false=>
  rw[aj aq]
  exact gy ⟨σ1,H2,I2,q2⟩
structure It where
 go:Nat->Hp->Prop
 yld:Nat->Hp->V->Hp->Prop
 stop:Nat->Hp->Prop
def FpOk(X:Cx)(ad:List (Addr×Obj))(H:Hp)(b:Addr):Prop:=
 H b=none/\b≠X.env.locals/\b∉X.fs/\(b∈X.ex\/X.s₀.heap.objs.size<=b)/\(∀x c,X.env.cells.lookup x=some c->c≠b)/\∀p∈X.pn++ad,p.1≠b
def Inv.fpOk{b:Addr}(I:Inv X ad σ H s)(hb:s.heap.objs.size<=b)(hn:H' b=none):FpOk X ad H' b:=by
 refine⟨hn,cz (aR I.lt hb),I.nofs hb,.inr (aY I.sz hb),λx c e z=>?_,λp hp z=>?_⟩
 .obtain⟨v,q⟩:=I.cell x c e
  exact absurd (aR q.lt (by rw[z];exact hb)) (cf _)
 .exact absurd (aR (aw (I.pin p hp).1) (by rw[z];exact hb)) (cf _)
structure Turn (P:Program)(w:World)(K:W.Frag)(tg:Expr)(J:It)(fp:List Addr)(it:Addr)(tn:Nat->Heap->Prop):Prop where
 mem:it∈fp
 obj:∀i h,tn i h->∀b∈fp,∃o,h.get? b=some o/\∀v,o.data≠.cell v
 keep:∀i h h',tn i h->(∀b∈fp,∀o,h.get? b=some o->h'.get? b=some o)->tn i h'
 item:∀(X:Cx),X.prog=P->X.w=w->X.K=K->X.calm=true->∀(i:Nat) (ad:List (Addr×Obj)) (s:Shared) (σ:St) (H:Hp) (E:Value->Shared->Prop),Inv X ad σ H s->(∀b∈fp,FpOk X ad H b)->tn i s.heap->J.go i H->
  wpAny (model P w) X.A (pyNext (.ref it)) (λr s1=>∃u,r=some u/\
   wpAny (model P w) X.A (letOwnedTupleGo tg (.ref it) u) (λ_ s2=>∃x H',Inv X ad σ H' s2/\RelV x u/\J.yld i H x H'/\tn (i+1) s2.heap/\∀b∈fp,H' b=none) E s1) E s
 done:∀(X:Cx),X.prog=P->X.w=w->X.K=K->X.calm=true->∀(i:Nat) (ad:List (Addr×Obj)) (s:Shared) (σ:St) (H:Hp) (E:Value->Shared->Prop),Inv X ad σ H s->(∀b∈fp,FpOk X ad H b)->tn i s.heap->J.stop i H->
  wpAny (model P w) X.A (pyNext (.ref it)) (λr s1=>r=none/\Inv X ad σ H s1) E s
 self:∀(A:Around) (i:Nat) (s:Shared) (Q:Value->Shared->Prop) (E:Value->Shared->Prop),tn i s.heap->Q (.ref it) s->wpAny (model P w) A (pyIter (.ref it)) Q E s
abbrev TI:=St->Hp->(It->Hp->Prop)->Prop
def PIE(X:Cx)(ad:List (Addr×Obj))(σ:St)(tg:Expr)(R:It->Hp->Prop)(itv:Value)(s2:Shared):Prop:=
 ∃(it:Addr) (fp:List Addr) (tn:Nat->Heap->Prop) (J:It) (H':Hp),itv=.ref it/\Inv X ad σ H' s2/\Turn X.prog X.w X.K tg J fp it tn/\tn 0 s2.heap/\(∀b∈fp,FpOk X ad H' b)/\R J H'
def PI(X:Cx)(tg iter:Expr)(wi:TI):Prop:=
 ∀(ad:List (Addr×Obj)) (s:Shared) (σ:St) (H:Hp) (R:It->Hp->Prop),Inv X ad σ H s->wi σ H R->
  wpAny (model X.prog X.w) X.A (eval iter X.env) (λv s1=>wpAny (model X.prog X.w) X.A (pyIter v) (PIE X ad σ tg R) X.xe s1) X.xe s
def go_of{M:Model}{A:Around}{E:Value->Shared->Prop}{s:Shared}{tg:Expr}{it:Addr}{u:Value}{o:Obj}{n:String}{vs:Array Value}{Q:Unit->Shared->Prop}(ho:s.heap.get? it=some o)(hc:o.cls=.type n)(hd:o.data=.fields vs)
  (hn: ["enumerate","zip","dict_itemiterator","dict_reverseitemiterator","odict_iterator","itertools.zip_longest","itertools.pairwise"].contains n=false) (hQ:Q () s):wpAny M A (letOwnedTupleGo tg (.ref it) u) Q E s:=by
 unfold letOwnedTupleGo
 cases tg<;>first
  |exact ah hQ
  | (cases u<;>first
    |exact ah hQ
    | (refine ab (gO ho ?_)
       rw [hc, hd]
       show wpAny M A (if (["enumerate", "zip", "dict_itemiterator", "dict_reverseitemiterator", "odict_iterator", "itertools.zip_longest", "itertools.pairwise"].contains n && vs[0]? == some (rawInt _)) = true then _ else _) Q E s
       rw [aj (by intro h;rw [hn, ce] at h;cases h)]
       exact ah hQ))
def Itl(K:W.Frag)(a:Addr):It:=
 ⟨λi H=>∃xs x,SqL K H a xs/\xs[i]?=some x,λi H x H'=>H'=H/\∀xs,SqL K H a xs->xs[i]?=some x,λi H=>∃xs,SqL K H a xs/\xs.length<=i⟩
def Itt(K:W.Frag)(a:Addr):It:=
 ⟨λi H=>∃xs x,SqT K H a xs/\xs[i]?=some x,λi H x H'=>H'=H/\∀xs,SqT K H a xs->xs[i]?=some x,λi H=>∃xs,SqT K H a xs/\xs.length<=i⟩
def Itr(lo:Int)(n:Nat):It:=⟨λi _=>i<n,λi H x H'=>H'=H/\x=.int (lo+i),λi _=>n<=i⟩
theorem jK7(a it:Addr):Turn P w K tg (Itl K a) [it] it (λi h=>h.IsListIter it a i) where
 mem:=by simp
 obj:=λi h st b hb=>by
  have e:b=it:=by simpa using hb
  subst e
  obtain⟨o,e,c,d⟩:=st
  exact⟨o,e,λv z=>by rw[d] at z;cases z⟩
 keep:=λi h h' st k=>st.at λo e=>k it (by simp) o e
 item:=by
  intro X hP hw hK hc i ad s σ H E I hf st hg
  subst hP hw hK
  obtain⟨xs,x,hq,hx⟩:=hg
  obtain⟨its,rv,p,hz⟩:=I.list hq
  obtain⟨u,hu,ru⟩:=rv.get hx
  obtain⟨f0,f1,f2,f3,f4,f5⟩:=hf it (by simp)
  refine wpAny_pyNext_list_item st p.isList (x:=u) (by simpa using hu) λh' st' sb=>?_
  have I1:Inv X ad σ H {s with heap:=h'}:=I.turned (t':=s.toks) (λb o hb e=>(sb.2 b hb).trans e) f0 f1 f3 f4 f5
  obtain⟨o,e,c,d⟩:=id st'
  exact⟨u,rfl,go_of (s:= {s with heap:=h'}) e c d (by decide) ⟨x,H,I1,ru,⟨rfl,λys hy=>by rw[I.list_inj hy hq];exact hx⟩,st',λb hb=>(hf b hb).1⟩⟩
 done:=by
  intro X hP hw hK hc i ad s σ H E I hf st hg
  subst hP hw hK
  obtain⟨xs,hq,hx⟩:=hg
  obtain⟨its,rv,p,hz⟩:=I.list hq
  obtain⟨f0,f1,f2,f3,f4,f5⟩:=hf it (by simp)
  have hl:=rv.length
  exact wpAny_pyNext_list_end (I.ok.hd hc) st p.isList (by simp;lia) λh' eb=>⟨rfl,I.turned (t':=s.toks) (λb o hb e=>eb b o hb e) f0 f1 f3 f4 f5⟩
 self:=λ_ _ _ _ _ st h=>wpAny_pyIter_listiter st h
theorem jJB(a it:Addr):Turn P w K tg (Itt K a) [it] it (λi h=>h.IsTupleIter it a i) where
 mem:=by simp
 obj:=λi h st b hb=>by
  have e:b=it:=by simpa using hb
  subst e
  obtain⟨o,e,c,d⟩:=st
  exact⟨o,e,λv z=>by rw[d] at z;cases z⟩
 keep:=λi h h' st k=>st.at λo e=>k it (by simp) o e
 item:=by
  intro X hP hw hK hc i ad s σ H E I hf st hg
  subst hP hw hK
  obtain⟨xs,x,hq,hx⟩:=hg
  obtain⟨its,rv,p,hz⟩:=I.tuple hq
  obtain⟨u,hu,ru⟩:=rv.get hx
  obtain⟨f0,f1,f2,f3,f4,f5⟩:=hf it (by simp)
  refine wpAny_pyNext_tuple_item st (show s.heap.IsTuple a its.toArray from p) (x:=u) (by simpa using hu) λh' st' sb=>?_
  have I1:Inv X ad σ H {s with heap:=h'}:=I.turned (t':=s.toks) (λb o hb e=>(sb.2 b hb).trans e) f0 f1 f3 f4 f5
  obtain⟨o,e,c,d⟩:=id st'
  exact⟨u,rfl,go_of (s:= {s with heap:=h'}) e c d (by decide) ⟨x,H,I1,ru,⟨rfl,λys hy=>by rw[I.tuple_inj hy hq];exact hx⟩,st',λb hb=>(hf b hb).1⟩⟩
 done:=by
  intro X hP hw hK hc i ad s σ H E I hf st hg
  subst hP hw hK
  obtain⟨xs,hq,hx⟩:=hg
  obtain⟨its,rv,p,hz⟩:=I.tuple hq
  obtain⟨f0,f1,f2,f3,f4,f5⟩:=hf it (by simp)
  have hl:=rv.length
  exact wpAny_pyNext_tuple_end (I.ok.hd hc) st (show s.heap.IsTuple a its.toArray from p) (by simp;lia) λh' eb=>⟨rfl,I.turned (t':=s.toks) (λb o hb e=>eb b o hb e) f0 f1 f3 f4 f5⟩
 self:=λ_ _ _ _ _ st h=>wpAny_pyIter_tupleiter st h
theorem jJC(it:Addr)(lo:Int)(n:Nat):Turn P w K tg (Itr lo n) [it] it (λi h=>IsRangeIter h it (lo+(i:Nat)*1) ((n:Int)-(i:Nat)) 1) where
 mem:=by simp
 obj:=λi h st b hb=>by
  have e:b=it:=by simpa using hb
  subst e
  exact⟨_,st,λv z=>by
   have z':Data.fields _=Data.cell v:=z
   cases z'⟩
 keep:=λi h h' st k=>k it (by simp) _ st
 item:=by
  intro X hP hw hK hc i ad s σ H E I hf st hg
  subst hP hw hK
  obtain⟨f0,f1,f2,f3,f4,f5⟩:=hf it (by simp)
  have W:=Walks.range (prog:=X.prog) (w:=X.w) (I.ok.hd hc) it lo 1 n
  refine W.item i s _ _ hg st λv h' tk hv st' kk=>?_
  obtain⟨t,rfl⟩:=hv
  have I1:Inv X ad σ H {s with heap:=h',toks:=tk}:=I.turned (λb o hb e=>kk b o (by simpa using hb) e) f0 f1 f3 f4 f5
  refine⟨_,rfl,go_of (s:= {s with heap:=h',toks:=tk}) (n:= "range_iterator") st' rfl rfl (by decide) ⟨.int (lo+i),H,I1,⟨t,?_⟩,⟨rfl,rfl⟩,st',λb hb=>(hf b hb).1⟩⟩
  rw[jg]
 done:=by
  intro X hP hw hK hc i ad s σ H E I hf st hg
  subst hP hw hK
  obtain⟨f0,f1,f2,f3,f4,f5⟩:=hf it (by simp)
  exact wpAny_pyNext_range_end (I.ok.hd hc) st (by have:n<=i:=hg;lia) λh' eb=>⟨rfl,I.turned (t':=s.toks) (λb o hb e=>eb b o hb e) f0 f1 f3 f4 f5⟩
 self:=λ_ _ _ _ _ st h=>wpAny_pyIter_rangeiter st h
section
variable {tg:Expr}
def iList(K:W.Frag)(tl:TE):TI:=λσ H R=>tl σ H λx H1=>∃a,x=.ref a/\(∃xs,SqL K H1 a xs)/\R (Itl K a) H1
def iTup(K:W.Frag)(tl:TE):TI:=λσ H R=>tl σ H λx H1=>∃a,x=.ref a/\(∃xs,SqT K H1 a xs)/\R (Itt K a) H1
def jQK{tl:TE}(hl:PE X l tl):PI X tg l (iList X.K tl):=by
 intro ad s σ H R I h
 refine ln (hl ad s σ H _ I h) λv s1 ⟨x,H1,I1,r1,q1⟩=>?_
 obtain⟨a,e,⟨xs,hq⟩,q⟩:=q1
 subst e
 cases r1
 obtain⟨its,rv,p,hz⟩:=I1.list hq
 refine dJ p.isList ?_
 refine⟨s1.heap.objs.size,[s1.heap.objs.size],_,_,H1,rfl,I1.kept (t':=s1.toks) λb o e=>ae _ e,jK7 a _,⟨_,aD _ rfl,rfl,rfl⟩,λb hb=>?_,q⟩
 have e:b=s1.heap.objs.size:=by simpa using hb
 subst e
 exact I1.fpOk (ak _) (I1.hok.fresh (ak _))
def jSK{tl:TE}(hl:PE X l tl):PI X tg l (iTup X.K tl):=by
 intro ad s σ H R I h
 refine ln (hl ad s σ H _ I h) λv s1 ⟨x,H1,I1,r1,q1⟩=>?_
 obtain⟨a,e,⟨xs,hq⟩,q⟩:=q1
 subst e
 cases r1
 obtain⟨its,rv,p,hz⟩:=I1.tuple hq
 refine gP (show s1.heap.IsTuple a its.toArray from p) ?_
 refine⟨s1.heap.objs.size,[s1.heap.objs.size],_,_,H1,rfl,I1.kept (t':=s1.toks) λb o e=>ae _ e,jJB a _,⟨_,aD _ rfl,rfl,rfl⟩,λb hb=>?_,q⟩
 have e:b=s1.heap.objs.size:=by simpa using hb
 subst e
 exact I1.fpOk (ak _) (I1.hok.fresh (ak _))
theorem jNL{R:It->Hp->Prop}{lo hi:Int}{t u v:Tok}{tk:Nat}(I:Inv X ad σ H s)(h1: -(2^62)<=lo)(h2:lo<2^62)(h3: -(2^62)<=hi)(h4:hi<2^62)
  (q:R (Itr lo (hi-lo).toNat) H):wpAny (model X.prog X.w) X.A (pyIter (.ref s.heap.objs.size)) (PIE X ad σ tg R) E {s with heap:=s.heap.push {cls:=.type "range",data:=.fields #[.int lo t,.int hi u,.int 1 v]},toks:=tk}:=by
 refine wpAny_pyIter_range (IsRange.new ..) (small_one h1 h2 h3 h4) ?_
 have I1:Inv X ad σ H {s with heap:=s.heap.push {cls:=.type "range",data:=.fields #[.int lo t,.int hi u,.int 1 v]},toks:=tk}:=I.kept λb o e=>ae _ e
 refine⟨(s.heap.push {cls:=.type "range",data:=.fields #[.int lo t,.int hi u,.int 1 v]}).objs.size,[(s.heap.push {cls:=.type "range",data:=.fields #[.int lo t,.int hi u,.int 1 v]}).objs.size],_,_,H,rfl,
  I1.kept (t':=tk) λb o e=>ae _ e,jJC _ lo (hi-lo).toNat,?_,λb hb=>?_,q⟩
 .have e1:lo+((0:Nat):Int)*1=lo:=by simp
  have e2:(((hi-lo).toNat:Nat):Int)-((0:Nat):Int)=Builtin.Range.rangeSize lo hi 1:=by rw[rangeSize_one];split<;>lia
  show IsRangeIter _ _ (lo+((0:Nat):Int)*1) ((((hi-lo).toNat:Nat):Int)-((0:Nat):Int)) 1
  rw[e1,e2]
  exact aD _ rfl
 .have e:b=(s.heap.push {cls:=.type "range",data:=.fields #[.int lo t,.int hi u,.int 1 v]}).objs.size:=by simpa using hb
  subst e
  exact I1.fpOk (ak _) (I1.hok.fresh (ak _))
def iRng1(ta:TA):TI:=λσ H R=>ta σ H λvs H1=>∃j:Int,vs=[.int j]/\ -(2^62)<=j/\j<2^62/\R (Itr 0 j.toNat) H1
theorem jBV{a:Expr}{ta:TA}{p:Pos}(hg:Gl X "range")(hm:X.mg "range" =none)(ha:PA X [a] ta)(hs:starEach [a] X.env=[(false,eval a X.env)]:=by rfl):PI X tg (.Call (.Name "range" p) [a] [] pos) (iRng1 ta):=by
 intro ad s σ H R I h
 refine Call_ (jCU I hg hm boot_range (cK (ln (ha pos ad s σ H _ I h) λus s1 ⟨vs,H1,I1,r1,q1⟩=>?_) hs rfl))
 obtain⟨j,e,q1,q2,q⟩:=q1
 subst e
 cases r1 with
 |cons r rr=>
  cases rr
  obtain⟨t,rfl⟩:=r
  exact call_range_1 (jNL I1 (by lia) (by lia) q1 q2 (by simpa using q))
def tFor(wi:TI)(g:TG)(tb:TS):TS:=λD σ H=>wi σ H λJ H1=>∃W:Nat->Nat->St->Hp->Prop,(∃m,W 0 m σ H1)/\∀i m σ H,W i m σ H->
 (J.stop i H/\D.nx σ H)\/(J.go i H/\∃N:St->Hp->Prop,(∀σ' H',N σ' H'->∃m',m'<m/\W (i+1) m' σ' H')/\∀x H',J.yld i H x H'->g x σ H' λσ2 H2=>tb {D with nx:=N,ct:=N,bk:=D.nx} σ2 H2)
def jE3(fp:List Addr)(h:Heap):List (Addr×Obj):=fp.filterMap λb=>(h.get? b).map λo=>(b,o)
def jAE{b:Addr}(hb:b∈fp)(e:h.get? b=some o):(b,o)∈jE3 fp h:=ka.mpr ⟨b,hb,by rw[e];rfl⟩
def jL6{p:Addr×Obj}(hp:p∈jE3 fp h):p.1∈fp/\h.get? p.1=some p.2:=by
 obtain⟨b,hb,e⟩:=ka.mp hp
 cases q:h.get? b with
 |none=>rw[q] at e;cases e
 |some o=>
  rw[q] at e
  have e':(b,o)=p:=bj e
  subst e'
  exact⟨hb,q⟩
def Inv.pinned(I:Inv X ad σ H s)(hf:∀b∈fp,FpOk X ad H b)(ho:∀b∈fp,∃o,s.heap.get? b=some o/\∀v,o.data≠.cell v):Inv X (ad++jE3 fp s.heap) σ H s:=
 I.pins_of λp hp=>(az.mp hp).elim (λz=>I.pin p (am _ z)) λz=>by
  obtain⟨hb,e⟩:=jL6 z
  obtain⟨f0,f1,f2,_⟩:=hf p.1 hb
  obtain⟨o,e',d⟩:=ho p.1 hb
  rw[e] at e';cases e'
  exact⟨e,f0,f1,f2,d⟩
def Inv.unpinned{pl:List (Addr×Obj)}(I:Inv X (ad++pl) σ H s):Inv X ad σ H s:=I.pins_of λp hp=>I.pin p (am _ (aE _ hp))
def jP7{iter:Expr}{wi:TI}{g:TG}{tb:TS}(hp:PassesOwn (model X.prog X.w) X.A X.env X.xe)(hc:X.calm=true)(hi:PI X tg iter wi)(hg:PG X tg g)(hb:PSs X body tb)
  (hs:∀x,foldedSetIterable iter X.env x=pure x:=by intro _;rfl):PS X (.For tg iter body [] pos) (tFor wi g tb):=by
 intro ad s σ H D I h
 refine wpAny_For (ln (hi ad s σ H _ I h) λv s1 h1=>ln h1 λitv s2 h2=>?_) hs
 obtain⟨it,fp,tn,J,H2,e,I2,T,st2,f2,W,⟨m0,w0⟩,turn⟩:=h2
 subst e
 have stat:∀{H':Hp},(∀b∈fp,H' b=none)->∀b∈fp,FpOk X ad H' b:=λhn b hb=>⟨hn b hb,(f2 b hb).2⟩
 refine codeAny_forLoop_any (λn s'=>∃i σ' H',Inv X ad σ' H' s'/\tn i s'.heap/\(∀b∈fp,H' b=none)/\W i n σ' H') ?_ m0 ⟨0,σ,H2,I2,st2,λb hb=>(f2 b hb).1,w0⟩
 rintro n s3 ⟨i,σ3,H3,I3,st3,fr3,w3⟩
 rcases turn i n σ3 H3 w3 with ⟨stop,qn⟩|⟨go,N,hN,step⟩
 .refine dI hp (ln (T.done X rfl rfl rfl hc i ad s3 σ3 H3 X.xe I3 (stat fr3) st3 stop) λr s4 ⟨hr,I4⟩=>?_)
  subst hr
  exact gy ⟨σ3,H3,I4,qn⟩
 .refine dI hp (ln (T.item X rfl rfl rfl hc i ad s3 σ3 H3 X.xe I3 (stat fr3) st3 go) λr s4 ⟨u,hr,h4⟩=>?_)
  subst hr
  refine dI hp (ln h4 λ_ s5 ⟨x,H5,I5,r5,y5,st5,fr5⟩=>?_)
  have I5':=I5.pinned (stat fr5) (T.obj _ _ st5)
  refine dI hp (ln (hg _ s5 σ3 H5 x u _ I5' r5 (step x H5 y5)) λ_ s6 ⟨σ6,H6,I6,q6⟩=>?_)
  refine dI hp (ln (hb _ s6 σ6 H6 _ I6 q6) λf s7 q7=>?_)
  have again:∀{σ7:St}{H7:Hp},Inv X (ad++jE3 fp s5.heap) σ7 H7 s7->N σ7 H7->∃m,m<n/\∃i σ' H',Inv X ad σ' H' s7/\tn i s7.heap/\(∀b∈fp,H' b=none)/\W i m σ' H':=λ{σ7 H7} I7 n7=>by
   obtain⟨m',hm,w7⟩:=hN σ7 H7 n7
   refine⟨m',hm,i+1,σ7,H7,I7.unpinned,T.keep _ _ _ st5 λb hb o e=>(I7.pin (b,o) (am _ (am _ (jAE hb e)))).1,λb hb=>?_,w7⟩
   obtain⟨o,e,d⟩:=T.obj _ _ st5 b hb
   exact(I7.pin (b,o) (am _ (am _ (jAE hb e)))).2.1
  cases f with
  |next=>obtain⟨σ7,H7,I7,n7⟩:=q7;exact again I7 n7
  |cont=>obtain⟨σ7,H7,I7,n7⟩:=q7;exact again I7 n7
  |brk=>obtain⟨σ7,H7,I7,q7⟩:=q7;exact⟨σ7,H7,I7.unpinned,q7⟩
  |ret v=>obtain⟨x7,σ7,H7,I7,r7,q7⟩:=q7;exact⟨x7,σ7,H7,I7.unpinned,r7,q7⟩
end
theorem jC3{K:W.Frag}{a:Addr}{xs:List V}{g:TG}{tb:TS}{D:Ends}{σ:St}{H:Hp}(Pv:Nat->St->Hp->Prop)(h0:Pv 0 σ H)(hl:∀i σ H,i<=xs.length->Pv i σ H->SqL K H a xs)
  (hs:∀i x σ H,xs[i]?=some x->Pv i σ H->g x σ H λσ2 H2=>tb {D with nx:=Pv (i+1),ct:=Pv (i+1),bk:=D.nx} σ2 H2) (hd:∀σ H,Pv xs.length σ H->D.nx σ H):
  ∃W:Nat->Nat->St->Hp->Prop,(∃m,W 0 m σ H)/\∀i m σ H,W i m σ H->
   ((Itl K a).stop i H/\D.nx σ H)\/((Itl K a).go i H/\∃N:St->Hp->Prop,(∀σ' H',N σ' H'->∃m',m'<m/\W (i+1) m' σ' H')/\∀x H',(Itl K a).yld i H x H'->g x σ H' λσ2 H2=>tb {D with nx:=N,ct:=N,bk:=D.nx} σ2 H2):=by
 refine⟨λi m σ H=>m=xs.length-i/\i<=xs.length/\Pv i σ H,⟨xs.length,by simp,bb _,h0⟩,?_⟩
 rintro i m σ H ⟨rfl,hi,p⟩
 have q:=hl i σ H hi p
 by_cases hlt:i<xs.length
 .refine .inr ⟨⟨xs,xs[i],q,by simp[hlt]⟩,Pv (i+1),λσ' H' p'=>⟨xs.length-(i+1),by lia,rfl,hlt,p'⟩,λx H' y=>?_⟩
  obtain⟨e,y⟩:=y
  subst e
  exact hs i x σ _ (y xs q) p
 .have e:i=xs.length:=by lia
  subst e
  exact .inl ⟨⟨xs,q,ak _⟩,hd σ H p⟩
theorem jRR{K:W.Frag}{a:Addr}{xs:List V}{g:TG}{tb:TS}{D:Ends}{σ:St}{H:Hp}(Pv:Nat->St->Hp->Prop)(h0:Pv 0 σ H)(hl:∀i σ H,i<=xs.length->Pv i σ H->SqT K H a xs)
  (hs:∀i x σ H,xs[i]?=some x->Pv i σ H->g x σ H λσ2 H2=>tb {D with nx:=Pv (i+1),ct:=Pv (i+1),bk:=D.nx} σ2 H2) (hd:∀σ H,Pv xs.length σ H->D.nx σ H):
  ∃W:Nat->Nat->St->Hp->Prop,(∃m,W 0 m σ H)/\∀i m σ H,W i m σ H->
   ((Itt K a).stop i H/\D.nx σ H)\/((Itt K a).go i H/\∃N:St->Hp->Prop,(∀σ' H',N σ' H'->∃m',m'<m/\W (i+1) m' σ' H')/\∀x H',(Itt K a).yld i H x H'->g x σ H' λσ2 H2=>tb {D with nx:=N,ct:=N,bk:=D.nx} σ2 H2):=by
 refine⟨λi m σ H=>m=xs.length-i/\i<=xs.length/\Pv i σ H,⟨xs.length,by simp,bb _,h0⟩,?_⟩
 rintro i m σ H ⟨rfl,hi,p⟩
 have q:=hl i σ H hi p
 by_cases hlt:i<xs.length
 .refine .inr ⟨⟨xs,xs[i],q,by simp[hlt]⟩,Pv (i+1),λσ' H' p'=>⟨xs.length-(i+1),by lia,rfl,hlt,p'⟩,λx H' y=>?_⟩
  obtain⟨e,y⟩:=y
  subst e
  exact hs i x σ _ (y xs q) p
 .have e:i=xs.length:=by lia
  subst e
  exact .inl ⟨⟨xs,q,ak _⟩,hd σ H p⟩
theorem jA7{lo:Int}{n:Nat}{g:TG}{tb:TS}{D:Ends}{σ:St}{H:Hp}(Pv:Nat->St->Hp->Prop)(h0:Pv 0 σ H)
  (hs:∀i σ H,i<n->Pv i σ H->g (.int (lo+i)) σ H λσ2 H2=>tb {D with nx:=Pv (i+1),ct:=Pv (i+1),bk:=D.nx} σ2 H2) (hd:∀σ H,Pv n σ H->D.nx σ H):
  ∃W:Nat->Nat->St->Hp->Prop,(∃m,W 0 m σ H)/\∀i m σ H,W i m σ H->
   ((Itr lo n).stop i H/\D.nx σ H)\/((Itr lo n).go i H/\∃N:St->Hp->Prop,(∀σ' H',N σ' H'->∃m',m'<m/\W (i+1) m' σ' H')/\∀x H',(Itr lo n).yld i H x H'->g x σ H' λσ2 H2=>tb {D with nx:=N,ct:=N,bk:=D.nx} σ2 H2):=by
 refine⟨λi m σ H=>m=n-i/\i<=n/\Pv i σ H,⟨n,by simp,bb _,h0⟩,?_⟩
 rintro i m σ H ⟨rfl,hi,p⟩
 by_cases hlt:i<n
 .refine .inr ⟨hlt,Pv (i+1),λσ' H' p'=>⟨n-(i+1),by lia,rfl,hlt,p'⟩,λx H' y=>?_⟩
  obtain⟨e,y⟩:=y
  subst e y
  exact hs i σ _ hlt p
 .have e:i=n:=by lia
  subst e
  exact .inl ⟨ak _,hd σ H p⟩
abbrev R2:=V->V->Hp->VK->Prop
def OpR(X:Cx)(f:Value->Value->Sem Value)(r:R2):Prop:=
 ∀(ad:List (Addr×Obj)) (s:Shared) (σ:St) (H:Hp) (x y:V) (v u:Value) (Q:VK),Inv X ad σ H s->RelV x v->RelV y u->r x y H Q->
  wpAny (model X.prog X.w) X.A (f v u) (EP X ad σ Q) X.xe s
def UnR(X:Cx)(f:Value->Sem Value)(r:V->Hp->VK->Prop):Prop:=
 ∀(ad:List (Addr×Obj)) (s:Shared) (σ:St) (H:Hp) (x:V) (v:Value) (Q:VK),Inv X ad σ H s->RelV x v->r x H Q->
  wpAny (model X.prog X.w) X.A (f v) (EP X ad σ Q) X.xe s
def yV(X:Cx)(f:Value)(r:List V->Hp->VK->Prop):Prop:=
 ∀(ad:List (Addr×Obj)) (s:Shared) (σ:St) (H:Hp) (xs:List V) (us:List Value) (Q:VK),Inv X ad σ H s->Vals xs us->r xs H Q->
  wpAny (model X.prog X.w) X.A (call f us) (EP X ad σ Q) X.xe s
def tOp(r:R2)(ta tb:TE):TE:=λσ H Q=>ta σ H λx H1=>tb σ H1 λy H2=>r x y H2 Q
def tUn(r:V->Hp->VK->Prop)(ta:TE):TE:=λσ H Q=>ta σ H λx H1=>r x H1 Q
def rI(C:Int->Int->Prop)(g:Int->Int->V):R2:=λx y H Q=>∃i j,x=.int i/\y=.int j/\C i j/\Q (g i j) H
def rI0(g:Int->Int->V):R2:=λx y H Q=>∃i j,x=.int i/\y=.int j/\Q (g i j) H
def rU(g:Int->V):V->Hp->VK->Prop:=λx H Q=>∃i,x=.int i/\Q (g i) H
variable {c:Expr}{tc:TE}
section
variable {a:Expr}
def binT(ha:PE X a ta)(hb:PE X b tb){R:V->V->Hp->Prop}(I:Inv X ad σ H s)
  (h:ta σ H λx H1=>tb σ H1 λy H2=>R x y H2) 
  (hf:∀v u s2 x y H2,Inv X ad σ H2 s2->RelV x v->RelV y u->R x y H2->wpAny (model X.prog X.w) X.A (f v u) Q X.xe s2):
  wpAny (model X.prog X.w) X.A (eval a X.env) (λv s₁=>wpAny (model X.prog X.w) X.A (eval b X.env) (λu s₂=>wpAny (model X.prog X.w) X.A (f v u) Q X.xe s₂) X.xe s₁) X.xe s:=by
 refine ln (ha ad s σ H _ I h) λv s1 ⟨x,H1,I1,r1,q1⟩=>?_
 refine ln (hb ad s1 σ H1 _ I1 q1) λu s2 ⟨y,H2,I2,r2,q2⟩=>?_
 exact hf v u s2 x y H2 I2 r1 r2 q2
def yE{op:Operator}{r:R2}(ho:OpR X (binaryOp op) r)(ha:PE X a ta)(hb:PE X b tb):PE X (.BinOp a op b pos) (tOp r ta tb):=by
 intro ad s σ H Q I h
 exact wpAny_BinOp (binT ha hb I h λv u s2 x y H2 I2 rx ry q=>ho ad s2 σ H2 x y v u Q I2 rx ry q)
def pe_un{op:UnaryOp}{r:V->Hp->VK->Prop}(ho:UnR X (unaryOp op) r)(ha:PE X a ta):PE X (.UnaryOp op a pos) (tUn r ta):=by
 intro ad s σ H Q I h
 exact UnaryOp_ (ln (ha ad s σ H _ I h) λv s1 ⟨x,H1,I1,r1,q1⟩=>ho ad s1 σ H1 x v Q I1 r1 q1)
def opI{C:Int->Int->Prop}
  (rule:∀(i j:Int) (t u:Tok) (s:Shared) (Q:Value->Shared->Prop) (E:Value->Shared->Prop),C i j->Q (.int (g i j) s.toks) {s with toks:=s.toks+1} ->wpAny (model X.prog X.w) X.A (f (.int i t) (.int j u)) Q E s):
  OpR X f (rI C λi j=> .int (g i j)):=by
 intro ad s σ H x y v u Q I rx ry h
 obtain⟨i,j,rfl,rfl,hc,q⟩:=h
 obtain⟨t,rfl⟩:=rx
 obtain⟨t',rfl⟩:=ry
 exact rule i j t t' s _ _ hc ⟨.int (g i j),H,I.tok _,⟨_,rfl⟩,q⟩
def opI0 
  (rule:∀(i j:Int) (t u:Tok) (s:Shared) (Q:Value->Shared->Prop) (E:Value->Shared->Prop),Q (.int (g i j) s.toks) {s with toks:=s.toks+1} ->wpAny (model X.prog X.w) X.A (f (.int i t) (.int j u)) Q E s):
  OpR X f (rI0 λi j=> .int (g i j)):=by
 intro ad s σ H x y v u Q I rx ry h
 obtain⟨i,j,rfl,rfl,q⟩:=h
 obtain⟨t,rfl⟩:=rx
 obtain⟨t',rfl⟩:=ry
 exact rule i j t t' s _ _ ⟨.int (g i j),H,I.tok _,⟨_,rfl⟩,q⟩
def opB0{g:Int->Int->Bool}
  (rule:∀(i j:Int) (t u:Tok) (s:Shared) (Q:Value->Shared->Prop) (E:Value->Shared->Prop),Q (.bool (g i j)) s->wpAny (model X.prog X.w) X.A (f (.int i t) (.int j u)) Q E s):
  OpR X f (rI0 λi j=> .bl (g i j)):=by
 intro ad s σ H x y v u Q I rx ry h
 obtain⟨i,j,rfl,rfl,q⟩:=h
 obtain⟨t,rfl⟩:=rx
 obtain⟨t',rfl⟩:=ry
 exact rule i j t t' s _ _ ⟨.bl (g i j),H,I,rfl,q⟩
def CPow(i j:Int):Prop:=0<=j/\j<=1000000/\i.natAbs<2^64
def CMul(i j:Int):Prop:=(-(2^64)<i/\i<2^64)\/(-(2^64)<j/\j<2^64)
def CMul.ok{i j:Int}(h:CMul i j):IntMulOk i j:=by
 rcases h with ⟨h1,h2⟩|⟨h1,h2⟩
 .exact .of_left (intBits_le_64 h1 h2)
 .exact .of_right (intBits_le_64 h1 h2)
def jJ9(k:Nat):(0:Int)<=2^k:=by
 rw[two_pow_cast]
 exact kc _
def yB:OpR X (binaryOp .Add) (rI0 λi j=> .int (i+j)):=opI0 λ_ _ _ _ _ _ _ q=>add_int q
def jBX:OpR X (binaryOp .Sub) (rI0 λi j=> .int (i-j)):=opI0 λ_ _ _ _ _ _ _ q=>sub_int q
def jBC:OpR X (binaryOp .Mult) (rI CMul λi j=> .int (i*j)):=opI λ_ _ _ _ _ _ _ hc q=>mul_int q hc.ok
theorem qK:OpR X (binaryOp .Mod) (rI (λ_ j=>0<j) λi j=> .int (i%j)):=opI λi j _ _ _ _ _ hc q=>by
 have h1:(0:Int)<j:=hc
 exact mod_int' (by lia) (by rw[Int.fmod_eq_emod_of_nonneg i (by lia)];exact q)
def jQV:OpR X (binaryOp .Mod) (rI (λ_ j=>j≠0) λi j=> .int (i.fmod j)):=opI λ_ _ _ _ _ _ _ hc q=>mod_int' hc q
def jKY:OpR X (binaryOp .Pow) (rI CPow λi j=> .int (i^j.toNat)):=opI λ_ _ _ _ _ _ _ hc q=>pow_int_small hc.1 hc.2.1 hc.2.2 q
def jSX:OpR X (binaryOp .LShift) (rI CPow λi j=> .int (i*2^j.toNat)):=opI λ_ _ _ _ _ _ _ hc q=>lshift_int_small hc.1 hc.2.1 hc.2.2 q
def jSW:OpR X (binaryOp .RShift) (rI (λ_ j=>0<=j) λi j=> .int (i/2^j.toNat)):=opI λi j _ _ _ _ _ hc q=>
 rshift_int hc (by rw[gQ i (jJ9 _)];exact q)
def jT0:OpR X (binaryOp .BitAnd) (rI0 λi j=> .int (Builtin.bitAnd i j)):=opI0 λ_ _ _ _ _ _ _ q=>and_int q
def unI{f:Value->Sem Value}{g:Int->Int}
  (rule:∀(i:Int) (t:Tok) (s:Shared) (Q:Value->Shared->Prop) (E:Value->Shared->Prop),Q (.int (g i) s.toks) {s with toks:=s.toks+1} ->wpAny (model X.prog X.w) X.A (f (.int i t)) Q E s):
  UnR X f (rU λi=> .int (g i)):=by
 intro ad s σ H x v Q I rx h
 obtain⟨i,rfl,q⟩:=h
 obtain⟨t,rfl⟩:=rx
 exact rule i t s _ _ ⟨.int (g i),H,I.tok _,⟨_,rfl⟩,q⟩
def jOZ:UnR X (unaryOp .USub) (rU λi=> .int (-i)):=unI λ_ _ _ _ _ q=>neg_int q
end
noncomputable def scal:V->V->Bool
 | .non,.non=>true| .non,.int _=>true| .int _,.non=>true| .non,.bl _=>true| .bl _,.non=>true| .non,.str _=>true| .str _,.non=>true
 | .int _,.int _=>true| .bl _,.bl _=>true| .str _,.str _=>true| .byt _,.byt _=>true
 | .int _,.str _=>true| .str _,.int _=>true| .bl _,.str _=>true| .str _,.bl _=>true
 |_,_=>false
def rEq:R2:=λx y H Q=>scal x y=true/\Q (.bl (decide (x=y))) H
def rNe:R2:=λx y H Q=>scal x y=true/\Q (.bl (!decide (x=y))) H
theorem jM7{i j:Int}:decide (V.int i=V.int j)=(i==j):=by
 rw[cQ]
 simp
theorem jPO{i j:Bool}:decide (V.bl i=V.bl j)=(i==j):=by
 rw[cQ]
 simp
theorem jM6{i j:Str}:decide (V.str i=V.str j)=(i==j):=by
 rw[cQ]
 simp
theorem jM8{i j:Array UInt8}:decide (V.byt i=V.byt j)=(i.toList==j.toList):=by
 rw[cQ]
 cases i
 cases j
 simp
variable {r:R2}
section
variable {a:Expr}
def kR{Q:VK}{k k':Bool}(I:Inv X ad σ H s)(q:Q (.bl k) H)(e:k=k'):EP X ad σ Q (.bool k') s:=by
 subst e
 exact⟨.bl k,H,I,rfl,q⟩
def qM:OpR X (compareOp .Eq) rEq:=by
 intro ad s σ H x y v u Q I rx ry h
 obtain⟨hs,q⟩:=h
 cases x with
 |non=>
  cases rx
  cases y with
  |non=>cases ry;exact PySem.EqNone.eq_none_none (kR I q (by simp))
  |bl j=>cases ry;exact PySem.EqNone.eq_none_bool (kR I q (by simp))
  |int j=>obtain⟨t',rfl⟩:=ry;exact PySem.EqNone.eq_none_int (kR I q (by simp))
  |str j=>obtain⟨t',rfl⟩:=ry;exact PySem.EqNone.eq_none_str (kR I q (by simp))
  |_=>exact absurd (show false=true from hs) aq
 |bl i=>
  cases rx
  cases y with
  |non=>cases ry;exact PySem.EqNone.eq_bool_none (kR I q (by simp))
  |bl j=>cases ry;exact eq_bool (kR I q jPO)
  |str j=>obtain⟨t',rfl⟩:=ry;exact PySem.EqMixed.eq_bool_str (kR I q (by simp))
  |_=>exact absurd (show false=true from hs) aq
 |int i=>
  obtain⟨t,rfl⟩:=rx
  cases y with
  |non=>cases ry;exact PySem.EqNone.eq_int_none (kR I q (by simp))
  |int j=>obtain⟨t',rfl⟩:=ry;exact eq_int (kR I q jM7)
  |str j=>obtain⟨t',rfl⟩:=ry;exact PySem.EqMixed.eq_int_str (kR I q (by simp))
  |_=>exact absurd (show false=true from hs) aq
 |str i=>
  obtain⟨t,rfl⟩:=rx
  cases y with
  |non=>cases ry;exact PySem.EqNone.eq_str_none (kR I q (by simp))
  |bl j=>cases ry;exact PySem.EqMixed.eq_str_bool (kR I q (by simp))
  |int j=>obtain⟨t',rfl⟩:=ry;exact PySem.EqMixed.eq_str_int (kR I q (by simp))
  |str j=>obtain⟨t',rfl⟩:=ry;exact eq_str (kR I q jM6)
  |_=>exact absurd (show false=true from hs) aq
 |byt i=>
  obtain⟨t,rfl⟩:=rx
  cases y with
  |byt j=>obtain⟨t',rfl⟩:=ry;exact PySem.W.eq_bytes (kR I q jM8)
  |_=>exact absurd (show false=true from hs) aq
 |_=>cases y<;>exact absurd (show false=true from hs) aq
def qS:OpR X (compareOp .NotEq) rNe:=by
 intro ad s σ H x y v u Q I rx ry h
 obtain⟨hs,q⟩:=h
 cases x with
 |non=>
  cases rx
  cases y with
  |non=>cases ry;exact PySem.EqNone.ne_none_none (kR I q (by simp))
  |bl j=>cases ry;exact PySem.EqNone.ne_none_bool (kR I q (by simp))
  |int j=>obtain⟨t',rfl⟩:=ry;exact PySem.EqNone.ne_none_int (kR I q (by simp))
  |str j=>obtain⟨t',rfl⟩:=ry;exact PySem.EqNone.ne_none_str (kR I q (by simp))
  |_=>exact absurd (show false=true from hs) aq
 |bl i=>
  cases rx
  cases y with
  |non=>cases ry;exact PySem.EqNone.ne_bool_none (kR I q (by simp))
  |bl j=>cases ry;exact ne_bool (kR I q (bB not jPO))
  |str j=>obtain⟨t',rfl⟩:=ry;exact PySem.EqMixed.ne_bool_str (kR I q (by simp))
  |_=>exact absurd (show false=true from hs) aq
 |int i=>
  obtain⟨t,rfl⟩:=rx
  cases y with
  |non=>cases ry;exact PySem.EqNone.ne_int_none (kR I q (by simp))
  |int j=>obtain⟨t',rfl⟩:=ry;exact ne_int (kR I q (bB not jM7))
  |str j=>obtain⟨t',rfl⟩:=ry;exact PySem.EqMixed.ne_int_str (kR I q (by simp))
  |_=>exact absurd (show false=true from hs) aq
 |str i=>
  obtain⟨t,rfl⟩:=rx
  cases y with
  |non=>cases ry;exact PySem.EqNone.ne_str_none (kR I q (by simp))
  |bl j=>cases ry;exact PySem.EqMixed.ne_str_bool (kR I q (by simp))
  |int j=>obtain⟨t',rfl⟩:=ry;exact PySem.EqMixed.ne_str_int (kR I q (by simp))
  |str j=>obtain⟨t',rfl⟩:=ry;exact ne_str (kR I q (bB not jM6))
  |_=>exact absurd (show false=true from hs) aq
 |byt i=>
  obtain⟨t,rfl⟩:=rx
  cases y with
  |byt j=>obtain⟨t',rfl⟩:=ry;exact PySem.W.ne_bytes (kR I q (bB not jM8))
  |_=>exact absurd (show false=true from hs) aq
 |_=>cases y<;>exact absurd (show false=true from hs) aq
theorem op_lt:OpR X (compareOp .Lt) (rI0 λi j=> .bl (decide (i<j))):=opB0 λ_ _ _ _ _ _ _ q=>lt_int q
theorem op_le:OpR X (compareOp .LtE) (rI0 λi j=> .bl (decide (i<=j))):=opB0 λ_ _ _ _ _ _ _ q=>le_int q
theorem op_gt:OpR X (compareOp .Gt) (rI0 λi j=> .bl (decide (j<i))):=opB0 λ_ _ _ _ _ _ _ q=>gt_int q
theorem op_ge:OpR X (compareOp .GtE) (rI0 λi j=> .bl (decide (j<=i))):=opB0 λ_ _ _ _ _ _ _ q=>ge_int q
theorem jT(b:Expr)(h:op≠.In:=by decide)(h2:op≠.NotIn:=by decide):behindInMarks op b=false:=by
 have e1:(op==CmpOp.In)=false:=by cases op<;>first|rfl|exact absurd rfl h
 have e2:(op==CmpOp.NotIn)=false:=by cases op<;>first|rfl|exact absurd rfl h2
 cases b<;>simp[behindInMarks,e1,e2]
def jQQ(ho:OpR X (compareOp op) r)(ha:PE X a ta)(hb:PE X b tb)(hm:behindInMarks op b=false):PE X (.Compare a [op] [b] pos) (tOp r ta tb):=by
 intro ad s σ H Q I h
 exact wpAny_Compare1 (binT ha hb I h λv u s2 x y H2 I2 rx ry q=>ho ad s2 σ H2 x y v u Q I2 rx ry q) hm
def tTest(t:TE):TT:=λσ H Q=>t σ H λx H'=>∃k,x=.bl k/\Q k H'
def jDJ(ho:OpR X (compareOp op) r)(ha:PE X a ta)(hb:PE X b tb)(hm:behindInMarks op b=false):PT X (.Compare a [op] [b] pos) (tTest (tOp r ta tb)):=by
 intro ad s σ H Q I h
 refine wpAny_isTrue_Compare1 (ln (ha ad s σ H _ I h) λv s1 ⟨x,H1,I1,r1,q1⟩=>ln (hb ad s1 σ H1 _ I1 q1) λu s2 ⟨y,H2,I2,r2,q2⟩=>
  ln (ho ad s2 σ H2 x y v u _ I2 r1 r2 q2) λc s3 ⟨z,H3,I3,r3,k,e,q3⟩=>?_) hm
 subst e
 cases r3
 exact eG ⟨H3,I3,q3⟩
def jP3(r r':R2)(ta tb tc:TE):TE:=λσ H Q=>ta σ H λx H1=>tb σ H1 λy H2=>r x y H2 λz H3=>∃k,z=.bl k/\
 (if k=true then tc σ H3 λw' H4=>r' y w' H4 Q else Q (.bl false) H3)
def jO1{op':CmpOp}{r':R2}(ho:OpR X (compareOp op) r)(ho':OpR X (compareOp op') r')(ha:PE X a ta)(hb:PE X b tb)(hc:PE X c tc)
  (hm:lastMarks [op,op'] [b,c]=false:=by with_unfolding_all rfl):PE X (.Compare a [op,op'] [b,c] pos) (jP3 r r' ta tb tc):=by
 intro ad s σ H Q I h
 refine Compare_chain (ln (ha ad s σ H _ I h) λv s1 ⟨x,H1,I1,r1,q1⟩=>chain_link (ln (hb ad s1 σ H1 _ I1 q1) λu s2 ⟨y,H2,I2,r2,q2⟩=>
  ln (ho ad s2 σ H2 x y v u _ I2 r1 r2 q2) λd s3 ⟨z,H3,I3,r3,k,e,q3⟩=>?_)) hm
 subst e
 cases r3
 refine eG ?_
 cases k with
 |false=>exact ite_ff ⟨.bl false,H3,I3,rfl,q3⟩
 |true=>exact ite_tt (chain_last (ln (hc ad s3 σ H3 _ I3 q3) λw' s4 ⟨z',H4,I4,r4,q4⟩=>ho' ad s4 σ H4 y z' u w' Q I4 r2 r4 q4))
theorem jFZ:(sizeLine:Nat)<2^63:=by rw[dZ];decide
def vals1{x:V}(r:Vals [x] us):∃u,us=[u]/\RelV x u:=by
 cases r with
 |cons r1 r2=>cases r2;exact⟨_,rfl,r1⟩
def vals2{x y:V}(r:Vals [x,y] us):∃u w',us=[u,w']/\RelV x u/\RelV y w':=by
 cases r with
 |cons r1 r2=>
  cases r2 with
  |cons r3 r4=>cases r4;exact⟨_,_,rfl,r1,r3⟩
def jD8:yV X (.builtin "abs") (λxs H Q=>∃i,xs=[.int i]/\Q (.int (if i<0 then -i else i)) H):=by
 intro ad s σ H xs us Q I r h
 obtain⟨i,rfl,q⟩:=h
 obtain⟨u,rfl,t,rfl⟩:=vals1 r
 exact call_abs_int λu tk=>⟨.int (if i<0 then -i else i),H,I.tok _,⟨_,rfl⟩,q⟩
def jMQ(hc:X.calm=true):yV X (.builtin "max") (λxs H Q=>∃i j,xs=[.int i,.int j]/\Q (.int (if j>i then j else i)) H):=by
 intro ad s σ H xs us Q I r h
 obtain⟨i,j,rfl,q⟩:=h
 obtain⟨u,w',rfl,⟨t,rfl⟩,⟨t',rfl⟩⟩:=vals2 r
 refine max_two_ints (I.ok.hd hc) λh' tk k=>⟨_,H,I.kept k,?_,q⟩
 by_cases hj:j>i
 .rw[ai hj,ai hj];exact⟨_,rfl⟩
 .rw[aj hj,aj hj];exact⟨_,rfl⟩
def jMP(hc:X.calm=true):yV X (.builtin "min") (λxs H Q=>∃i j,xs=[.int i,.int j]/\Q (.int (if j<i then j else i)) H):=by
 intro ad s σ H xs us Q I r h
 obtain⟨i,j,rfl,q⟩:=h
 obtain⟨u,w',rfl,⟨t,rfl⟩,⟨t',rfl⟩⟩:=vals2 r
 refine min_two_ints (I.ok.hd hc) λh' tk k=>⟨_,H,I.kept k,?_,q⟩
 by_cases hj:j<i
 .rw[ai hj,ai hj];exact⟨_,rfl⟩
 .rw[aj hj,aj hj];exact⟨_,rfl⟩
def jGE:yV X (.type "int") (λxs H Q=>(∃i,xs=[.int i]/\Q (.int i) H)\/∃k,xs=[.bl k]/\Q (.int (if k then 1 else 0)) H):=by
 intro ad s σ H xs us Q I r h
 rcases h with ⟨i,rfl,q⟩|⟨k,rfl,q⟩
 .obtain⟨u,rfl,t,rfl⟩:=vals1 r
  exact call_int_int ⟨.int i,H,I,⟨_,rfl⟩,q⟩
 .obtain⟨u,rfl,r1⟩:=vals1 r
  cases r1
  exact call_int_bool ⟨.int (if k then 1 else 0),H,I.tok _,⟨_,rfl⟩,q⟩
end
structure ObjM (h:Heap)(x dx C:Addr)(mA:Str->Option Value):Prop where
 obj:h.get? x=some (instObj C dx)
 ns:h.Ns1 dx mA
 ne:dx≠x
def jLH(n:h.Ns1 dx mA):∃od,h.get? dx=some od/\∀name,lookIn name od=some (mA name):=by
 obtain⟨o,es,ep,ho,hd,hk,_,hm⟩:=n
 refine⟨o,ho,λname=>?_⟩
 have e:=hm name
 unfold nsFind findBy at e
 rw[<- Array.find?_toList] at e
 unfold lookIn
 rw[hd]
 dsimp only
 split
 .rename_i y q
  rw[q] at e
  exact bB some e
 .rename_i q
  rw[q] at e
  have a:es.toList.any (·.refKey)=false:=by
   rw[List.any_eq_false]
   intro y hy
   obtain⟨z,t,hkey⟩:=hk y (Array.mem_toList_iff.mp hy)
   simp[DictEntry.refKey,hkey]
  have a':¬es.toList.any (·.refKey)=true:=by rw[a];exact aq
  rw[aj a']
  exact bB some e
def ObjM.look{C:Addr}(I:ObjM h x dx C mA):∃od,PySem.W.InstAt h x (instObj C dx) C (some od)/\∀name,lookIn name od=some (mA name):=
 let ⟨od,ho,hl⟩:=jLH I.ns
 ⟨od,⟨I.obj,rfl,rfl,ho⟩,hl⟩
variable {A:Around}{dx C f:Addr}
section
variable {prog:Program}{K:W.Frag}{mA:Str->Option Value}{name:Str}{v:Value}
end
def RelO.some_of{v:V}{o:Option Value}(r:RelO (some v) o):∃u,o=some u/\RelV v u:=by
 cases o with
 |none=>exact(show False from r).elim
 |some u=>exact⟨u,rfl,r⟩
section
variable {fs fs':List (Str×V)}
def jRK(hok:HOk P w H h)(e:H a=some (.ins C dx fs)):∃mA,ObjM h a dx C mA/\(∀f,RelO (fs.lookup f) (mA f))/\PySem.Within mA (fs.map (·.1))/\fs.length<=1000/\H dx=some (.own a):=by
 obtain⟨d,z,ne,ob,mA,n,r,q⟩:=(show ObjOk P w H h a (.ins C dx fs) from hok a _ e)
 exact⟨mA,⟨ob,n,ne⟩,r,q,z,d⟩
end
structure Cls (K:W.Frag)(C:Addr):Prop where
 pg:plainGet K C Str.empty=true
 hd:PySem.W.hasDictIn K C=true
 po:PySem.W.plainOver K C=true
 sa:findIn K (.ref C) "__setattr__" =some (some (.builtin "object.__setattr__"))
def Cls.get{K:W.Frag}{C:Addr}(c:Cls K C)(f:Str):plainGet K C f=true:=c.pg
section
variable {σ:St}{fs:List (Str×V)}{f:Str}{v:V}
end
variable {o:Expr}
section
variable {value:Expr}{f:Str}{pos' tpos:Pos}{tv:TE}
end
section
variable {σ:St}{Q:Value->Shared->Prop}{c:Value}{b:Bool}
inductive TyOf (K:W.Frag) (H:Hp):V->Value->Prop where
 |non:TyOf K H .non (.type "NoneType")
 |bl (x:Bool):TyOf K H (.bl x) (.type "bool")
 |int (i:Int):TyOf K H (.int i) (.type "int")
 |str (x:Str):TyOf K H (.str x) (.type "str")
 |flt (x:UInt64):TyOf K H (.flt x) (.type "float")
 |lst {a:Addr}{xs:List V}(e:H a=some (.lst xs)):TyOf K H (.ref a) (.type "list")
 |frz {a:Addr}{o:Obj}{xs:List V}(e:H a=some (.frz o (.lst xs))):TyOf K H (.ref a) (.type "list")
 |tup {a:Addr}{xs:List V}(e:H a=some (.tup xs)):TyOf K H (.ref a) (.type "tuple")
 |dK {a:Addr}{kvs:List (Key×V)}(e:H a=some (.dK kvs)):TyOf K H (.ref a) (.type "dict")
 |dT {a:Addr}{kvs:List (List Key×V)}(e:H a=some (.dT kvs)):TyOf K H (.ref a) (.type "dict")
 |ins {a C dx:Addr}{fs:List (Str×V)}(e:H a=some (.ins C dx fs)) (cl:Cls K C) (ha:findIn K (.ref C) "__class__" =some (some (.builtin "object.__class__")))
   (hn:PySem.W.specialIn K (.builtin "object.__class__") "__get__" =some (some (.builtin "getset_descriptor.__get__"))) (htk:PySem.W.takesIn K (.builtin "object.__class__")=some true)
   (hm:mroIn K C (.type "object")=some true):TyOf K H (.ref a) (.ref C)
def jLW{x:V}{t:Value}(I:Inv X ad σ H s)(rx:RelV x u)(ty:TyOf X.K H x t)(e:kitOne X.K t c=some b)(h:∀tk,Q (.bool b) {s with toks:=tk}):
  wpAny (model X.prog X.w) A (call (.builtin "isinstance") [u,c]) Q E s:=by
 cases ty with
 |non=>cases (show u=Value.none from rx);exact cy PySem.W.kitx_none I.kIn True.intro e (λz=>nomatch z) h
 |bl y=>cases (show u=Value.bool y from rx);exact cy PySem.W.kitx_bool I.kIn True.intro e (λz=>nomatch z) h
 |int i=>obtain⟨t,q⟩:=(show ∃t,u=Value.int i t from rx);cases q;exact cy PySem.W.kitx_int I.kIn True.intro e (λz=>nomatch z) h
 |str y=>obtain⟨t,q⟩:=(show ∃t,u=Value.str y t from rx);cases q;exact cy PySem.W.kitx_str I.kIn True.intro e (λz=>nomatch z) h
 |flt y=>obtain⟨t,q⟩:=(show ∃t,u=Value.float y t from rx);cases q;exact cy PySem.W.kitx_float I.kIn True.intro e (λz=>nomatch z) h
 | @lst a xs ea=>
  cases (show u=Value.ref a from rx)
  obtain⟨_,_,n,_,h1⟩:=(show ObjOk X.prog X.w H s.heap a (.lst xs) from I.hok a _ ea)
  exact cy kitx_list I.kIn ⟨_,h1,rfl⟩ e (λz=>nomatch z) h
 | @frz a ob xs ea=>
  cases (show u=Value.ref a from rx)
  obtain⟨_,_,_,n,_,h1⟩:=(show ObjOk X.prog X.w H s.heap a (.frz ob (.lst xs)) from I.hok a _ ea)
  exact cy kitx_list I.kIn ⟨_,h1,rfl⟩ e (λz=>nomatch z) h
 | @tup a xs ea=>
  cases (show u=Value.ref a from rx)
  obtain⟨_,_,_,p⟩:=(show ObjOk X.prog X.w H s.heap a (.tup xs) from I.hok a _ ea)
  obtain⟨o,h1,h2,_⟩:=p.isTup
  exact cy PySem.W.kitx_tuple I.kIn ⟨o,h1,h2⟩ e (λz=>nomatch z) h
 | @dK a kvs ea=>
  cases (show u=Value.ref a from rx)
  obtain⟨_,_,vs,_,p⟩:=(show ObjOk X.prog X.w H s.heap a (.dK kvs) from I.hok a _ ea)
  obtain⟨o,es,ep,h1,h2,_⟩:=p
  exact cy kitx_dict I.kIn ⟨o,h1,h2.1⟩ e (λz=>nomatch z) h
 | @dT a kvs ea=>
  cases (show u=Value.ref a from rx)
  obtain⟨_,_,xs,_,o,es,ep,h1,h2,_⟩:=(show ObjOk X.prog X.w H s.heap a (.dT kvs) from I.hok a _ ea)
  exact cy kitx_dict I.kIn ⟨o,h1,h2.1⟩ e (λz=>nomatch z) h
 | @ins a C dx fs ea cl ha hn htk hm=>
  cases (show u=Value.ref a from rx)
  obtain⟨mA,O,_⟩:=jRK I.hok ea
  obtain⟨od,J,_⟩:=O.look
  exact cy (PySem.W.kitx_own (cl.get _) cl.hd ha hn htk hm) I.kIn J e (λz=>nomatch z) h
end
structure Room (k:Nat)(A:Around):Prop where
 hd:A.handled=none
 dp:A.depth+3*k+5<recursionLimit
 un:A.units+16*k+200<cLine
theorem Room.mono{k:Nat}(r:Room k A)(h:j<=k):Room j A:=⟨r.hd,by have:=r.dp;lia,by have:=r.un;lia⟩
theorem Room.deeper{k:Nat}(r:Room (k+1) A)(env:Env):Room k (A.deeper env):=
 ⟨r.hd,by have:=r.dp;show A.depth+1+3*k+5<_;lia,by have:=r.un;show A.units+3+16*k+200<_;lia⟩
theorem Room.in1{k:Nat}(r:Room (k+1) A):Room k A.in1:=
 ⟨r.hd,by have:=r.dp;show A.depth+3*k+5<_;lia,by have:=r.un;show A.units+1+16*k+200<_;lia⟩
theorem Room.depth{k:Nat}(r:Room k A):A.depth<recursionLimit:=by have:=r.dp;lia
theorem Room.units{k:Nat}(r:Room k A):A.units+64<cLine:=by have:=r.un;lia
theorem Room.units0{k:Nat}(r:Room k A):A.units<cLine:=by have:=r.un;lia
def tNil:TA:=λ_ H Q=>Q [] H
def tCons(ta:TE)(tr:TA):TA:=λσ H Q=>ta σ H λx H1=>tr σ H1 λxs H2=>Q (x::xs) H2
variable {es:List Expr}{t:TA}
def yU:PA X [] tNil:=λ_ _ _ _ H Q I h=>Calls.spliced_nil ⟨[],H,I,.nil,h⟩
def kP(ha:PE X e te)(hr:PA X es t)(hs:starEach (e::es) X.env=(false,eval e X.env)::starEach es X.env:=by rfl):PA X (e::es) (tCons te t):=by
 intro pos ad s σ H Q I h
 rw[hs]
 show wpAny _ _ (spliced ((false,eval e X.env)::backTo pos (starEach es X.env))) _ _ s
 refine gR (ln (ha ad s σ H _ I h) λu s1 ⟨x,H1,I1,r1,q1⟩=>?_)
 exact ln (hr pos ad s1 σ H1 _ I1 q1) λus s2 ⟨xs,H2,I2,r2,q2⟩=>⟨x::xs,H2,I2,.cons r1 r2,q2⟩
def tTup(t:TA):TE:=λσ H Q=>t σ H λxs H1=>xs.length<=sizeLine/\∀p,H1 p=none->Q (.ref p) (upd H1 p (.tup xs))
def tLst(t:TA):TE:=λσ H Q=>t σ H λxs H1=>xs.length<=sizeLine/\∀p,H1 p=none->Q (.ref p) (upd H1 p (.lst xs))
def jSN{x1}(h:PA X es t):PE X (.Tuple es x1 pos) (tTup t):=by
 intro ad s σ H Q I hq
 refine wpAny_Tuple_spliced (ln (h pos ad s σ H _ I hq) λus s1 ⟨xs,H1,I1,r,z,q⟩=>⟨by rw[<- r.length];exact z,?_⟩)
 have hf:H1 s1.heap.objs.size=none:=I1.hok.fresh (ak _)
 refine⟨.ref s1.heap.objs.size,upd H1 s1.heap.objs.size (.tup xs),I1.laid (t':=s1.toks) (λb u e=>ae _ e) (ak _) ?_,rfl,q _ hf⟩
 exact⟨z,us,r,TupO.new _ _⟩
def jIE(h:PA X es t):PE X (.List es pos) (tLst t):=by
 intro ad s σ H Q I hq
 refine wpAny_List_spliced (ln (h pos ad s σ H _ I hq) λus s1 ⟨xs,H1,I1,r,z,q⟩=>⟨by rw[<- r.length];exact z,?_⟩)
 have hf:H1 s1.heap.objs.size=none:=I1.hok.fresh (ak _)
 refine⟨.ref s1.heap.objs.size,upd H1 s1.heap.objs.size (.lst xs),I1.laid (t':=s1.toks) (λb u e=>ae _ e) (ak _) ?_,rfl,q _ hf⟩
 exact⟨z,us,0,r,aD _ rfl⟩
abbrev Sp:=List V->Hp->VK->XK->Prop
abbrev CXT:=List Env->Hp->Shared->XK->Value->Shared->Prop
structure Env0 (P:Program)(w:World)(K:W.Frag)(mg:Str->Option Value)(base:Heap)(A:Around)(outer:List Env)(s:Shared)(H:Hp):Prop where
 frames:A.frames=some outer
 mod:Mod K mg base
 bs:∀b o,base.get? b=some o->s.heap.get? b=some o/\H b=none
 bsz:base.objs.size<=s.heap.objs.size
 funs:s.heap.FunFrames base outer
 frf:∀b∈frs outer,H b=none
 hok:HOk P w H s.heap
 bare:AllBare s.gens
def CE(outer:List Env)(P:Program)(w:World)(H:Hp)(s:Shared)(Q:VK)(u:Value)(s':Shared):Prop:=
 ∃v H',s'.os=s.os/\AllBare s'.gens/\Un (frs outer) [] H H' s.heap s'.heap/\HOk P w H' s'.heap/\RelV v u/\Q v H'
def CR(CX:CXT)(outer:List Env)(P:Program)(w:World)(H:Hp)(s:Shared)(Q:VK)(E:XK)(r:Result)(s':Shared):Prop:=
 match r with
 | .ok (.ret u)=>CE outer P w H s Q u s'
 | .ok _=>False
 | .error e=>CX outer H s E e s'
structure FnOk (P:Program)(w:World)(K:W.Frag)(mg:Str->Option Value)(base:Heap)(CX:CXT)(k:Nat)(f:Addr)(fd:FuncData)(ps:List Str)(sp:Sp):Prop where
 len:∀vs H Q E,sp vs H Q E->vs.length=ps.length
 run:∀(A:Around) (outer:List Env) (s:Shared) (H:Hp) (args:Args) (us:List Value) (vs:List V) (Q:VK) (E:XK),Room k A->Env0 P w K mg base A outer s H->BindsTo s fd args (ps.zip us)->Vals vs us->sp vs H Q E->
  codeAny (model P w) A (.call (.ref f) args) (CR CX outer P w H s Q E) s
def Env0.in1(e:Env0 P w K mg base A outer s H):
  Env0 P w K mg base A.in1 outer s H:=⟨e.frames,e.mod,e.bs,e.bsz,e.funs,e.frf,e.hok,e.bare⟩
section
variable {σ:St}{s':Shared}
def Inv.env0(I:Inv X ad σ H s):Env0 X.prog X.w X.K X.mg X.base X.A X.stack s H:=
 ⟨I.ok.frames,I.ok.mod,I.bs,aY I.ok.bsz I.sz,I.stack,I.stkFree,I.hok,I.bare⟩
def Inv.after{Q:VK}(I:Inv X ad σ H s)(h:CE X.stack X.prog X.w H s Q u s'):EP X ad σ Q u s':=by
 obtain⟨v,H',os,bare,un,hok,r,q⟩:=h
 obtain⟨hh,g,d,t,os'⟩:=s'
 obtain rfl:os'=s.os:=os
 exact⟨v,H',I.call (h':=hh) (g':=g) (d':=d) (t':=t) (ch:=[]) un hok bare (λb z=>absurd z (by simp)),r,q⟩
end
def tCall(sp:Sp)(dvs:List V)(E:XK)(t:TA):TE:=λσ H Q=>t σ H λvs H1=>sp (vs++dvs) H1 Q E
def Binds(K:W.Frag)(fd:FuncData)(ps:List Str)(ds:List Value):Prop:=
 ∀(s:Shared) (us:List Value),K.In s.heap->(us++ds).length=ps.length->BindsTo s fd ⟨us,[]⟩ (ps.zip (us++ds))
def Binds.all{fd:FuncData}{ps:List Str}(h:∀us:List Value,us.length=ps.length->bindArgs fd ⟨us,[]⟩=pure (ps.zip us)):Binds K fd ps []:=λs us _ hl=>by
 rw[bS] at hl ⊢
 exact .of_eq (h us hl)
def jN1(CX:CXT)(X:Cx)(E:XK):Prop:=∀(ad:List (Addr×Obj)) (σ:St) (H:Hp) (s:Shared) (e:Value) (s':Shared),Inv X ad σ H s->CX X.stack H s E e s'->X.xe e s'
variable {CX:CXT}{fd:FuncData}{ps:List Str}{sp:Sp}{m:Str}{p apos:Pos}
variable {vs:List V}
section
variable {k:Nat}{dvs:List V}{ds:List Value}{E:XK}{x:Str}
def jSB{Q:VK}(F:FnOk X.prog X.w X.K X.mg X.base CX k f fd ps sp)(hr:Room k X.A)(hb:Binds X.K fd ps ds)(hd:Vals dvs ds)(hx:jN1 CX X E)
  (I:Inv X ad σ H s) (r:Vals vs us) (h:sp (vs++dvs) H Q E):wpAny (model X.prog X.w) X.A (call (.ref f) us) (EP X ad σ Q) X.xe s:=by
 have r2:Vals (vs++dvs) (us++ds):=r.append hd
 have hl:(us++ds).length=ps.length:=by rw[<- r2.length];exact F.len _ _ _ _ h
 refine wpAny_call (eS (F.run X.A X.stack s H ⟨us,[]⟩ (us++ds) (vs++dvs) Q E hr I.env0 (hb s us I.kIn hl) r2 h) λr s' hq=>?_)
 cases r with
 |error e=>exact hx ad σ H s e s' I hq
 |ok fl=>
  cases fl with
  |ret u=>exact I.after hq
  |next=>exact False.elim hq
  |brk=>exact False.elim hq
  |cont=>exact False.elim hq
theorem jQR(F:FnOk X.prog X.w X.K X.mg X.base CX k f fd ps sp)(hr:Room k X.A)(hg:Gl X x)(hm:X.mg x=some (.ref f))(hk:keepIn X.K (.ref f)=true)(hb:Binds X.K fd ps ds)(hd:Vals dvs ds)(hx:jN1 CX X E)
  (ha:PA X (e::es) t) (hdb:(x==("__debug__":Str))=false:=by decide) (he:starEach (e::es) X.env=(false,eval e X.env)::starEach es X.env:=by rfl) (hpl:(backTo pos (starEach es X.env)).any (·.1)=false:=by rfl):
  PE X (.Call (.Name x p) (e::es) [] pos) (tCall sp dvs E t):=by
 intro ad s σ H Q I h
 refine fh (jRB I hg hm ?_ hdb)
 refine PySem.W.callWith_K (h₀:=X.base) I.ok.mod.kin hk (ln (ha pos ad s σ H _ I h) λus s1 ⟨vs,H1,I1,r,q⟩=>⟨I1.kIn,?_⟩) he hpl
 exact jSB F hr hb hd hx I1 r q
end
def PK(X:Cx)(kws:List Keyword)(t:TA):Prop:=
 ∀(pos:Pos) (ad:List (Addr×Obj)) (s:Shared) (σ:St) (H:Hp) (Q:List V->Hp->Prop),Inv X ad σ H s->t σ H Q->wpAny (model X.prog X.w) X.A (evalAll ((backToKw pos (keywordEach kws X.env)).map (·.2))) (AP X ad σ Q) X.xe s
section
variable {k:Nat}{ks:List Str}{E:XK}{x:Str}{kpos:Pos}{kws:List Keyword}{tk:TA}{nm:Option Str}
def jSI:PK X [] tNil:=λ_ _ _ _ H Q I h=>wpAny_evalAll_nil ⟨[],H,I,.nil,h⟩
def jQI(ha:PE X e te)(hr:PK X kws t):PK X (⟨nm,e,kpos⟩::kws) (tCons te t):=by
 intro pos ad s σ H Q I h
 show wpAny _ _ (evalAll ((do let v <- eval e X.env;standAt pos;pure v)::(backToKw pos (keywordEach kws X.env)).map (·.2))) _ _ s
 refine wpAny_evalAll_cons (ab (ln (ha ad s σ H _ I h) λu s1 ⟨x,H1,I1,r1,q1⟩=>ab (iu (ah ?_))))
 exact ln (hr pos ad s1 σ H1 _ I1 q1) λus s2 ⟨xs,H2,I2,r2,q2⟩=>⟨x::xs,H2,I2,.cons r1 r2,q2⟩
variable {g:List Value->List Value->List Value}{gV:List V->List V->List V}
end
structure FnScope (N P:List Str)(sc:Scope):Prop where
 kind:sc.kind=.function:=by rfl
 co:sc.isCoroutine=false:=by rfl
 gen:sc.isGenerator=false:=by rfl
 nd:N.Nodup:=by decide+kernel
 pre:N.take P.length=P:=by rfl
 par:∀x∈P,sc.names.lookup x=some .local\/sc.names.lookup x=some .cell:=by decide+kernel
 nofree:∀y∈sc.names,y.2≠.free:=by decide+kernel
def jGK{x:Str}:∀{binds:List (Str×Value)}{m:Str->Option Value},(∀v,(x,v)∉binds)->bindL kindOf binds m x=m x
 |[],_,_=>rfl
 | (n,v)::r,m,h=>by
  unfold bindL
  rw[jGK λw hw=>h w (av _ hw)]
  split
  .have:x≠n:=by rintro rfl;exact h v au
   simp[this]
  .rfl
def jGM{x:Str}:∀{binds:List (Str×Value)}{m:Str->Option Value},(∀v,(x,v)∉binds)->bindC kindOf binds m x=m x
 |[],_,_=>rfl
 | (n,v)::r,m,h=>by
  unfold bindC
  rw[jGM λw hw=>h w (av _ hw)]
  split
  .rfl
  .have:x≠n:=by rintro rfl;exact h v au
   simp[this]
def jGL{kindOf:Str->Option NameKind}{x:Str}{v:Value}:∀{P:List Str}{vs:List Value}{i:Nat}{m:Str->Option Value},P.Nodup->P[i]?=some x->vs[i]?=some v->kindOf x=some .local->
  bindL kindOf (P.zip vs) m x=some v
 |[],_,_,_,_,h,_,_=>by simp at h
 |_::_,[],_,_,_,_,h,_=>by simp at h
 |p::P,w::vs,0,m,nd,h1,h2,hk=>by
  simp at h1 h2;subst h1;subst h2
  show bindL kindOf ((p,w)::P.zip vs) m p=_
  unfold bindL
  rw[jGK λv hv=>(cG.mp nd).1 (cR hv).1,ai hk]
  simp
 |p::P,w::vs,i+1,m,nd,h1,h2,hk=>by
  show bindL kindOf ((p,w)::P.zip vs) m x=_
  unfold bindL
  exact jGL (i:=i) (cG.mp nd).2 (by simpa using h1) (by simpa using h2) hk
def jGN{kindOf:Str->Option NameKind}{x:Str}{v:Value}:∀{P:List Str}{vs:List Value}{i:Nat}{m:Str->Option Value},P.Nodup->P[i]?=some x->vs[i]?=some v->kindOf x≠some .local->
  bindC kindOf (P.zip vs) m x=some v
 |[],_,_,_,_,h,_,_=>by simp at h
 |_::_,[],_,_,_,_,h,_=>by simp at h
 |p::P,w::vs,0,m,nd,h1,h2,hk=>by
  simp at h1 h2;subst h1;subst h2
  show bindC kindOf ((p,w)::P.zip vs) m p=_
  unfold bindC
  rw[jGM λv hv=>(cG.mp nd).1 (cR hv).1,aj hk]
  simp
 |p::P,w::vs,i+1,m,nd,h1,h2,hk=>by
  show bindC kindOf ((p,w)::P.zip vs) m x=_
  unfold bindC
  exact jGN (i:=i) (cG.mp nd).2 (by simpa using h1) (by simpa using h2) hk
def yY(N:List Str)(vs:List V):St:=vs.map some++replicate (N.length-vs.length) none
def cxOf(CX:CXT)(P:Program)(w:World)(K:W.Frag)(mg:Str->Option Value)(base:Heap)(N:List Str)(qual:Str)(scope:Scope)(f:Addr)(cd:Value)(A:Around)(outer:List Env)(s:Shared)(H:Hp)(E:XK):Cx where
 prog:=P
 w:=w
 K:=K
 mg:=mg
 base:=base
 A:=A.deeper (envOfC qual scope s.heap.objs.size f cd)
 N:=N
 s₀:=s
 H₀:=H
 env:=envOfC qual scope s.heap.objs.size f cd
 outer:=outer
 stack:=envOfC qual scope s.heap.objs.size f cd::outer
 ex:=[]
 calm:=true
 fn:=λ_=>true
 pn:=[]
 xe:=λe s'=>wpAny (model P w) (A.deeper (envOfC qual scope s.heap.objs.size f cd)) (leaving (envOfC qual scope s.heap.objs.size f cd) e) (λ_ s''=>CX outer H s E e s'') (λe' s''=>CX outer H s E e' s'') s'
def jJ5{sc:Scope}{n:Nat}{x:Str}(h:sc.names.lookup x=some .cell):∃c,(cellsFrom n sc.names []).lookup x=some c:=by
 have q:=iS sc.names n [] (.inl h)
 exact iw.mp q
theorem jLX{qual:Str}{scope:Scope}{cd:Value}{s1:Shared}{E:XK}
  (S:FnScope N ps scope) (hd:A.handled=none) (e0:Env0 P w K mg base A outer s H) (hl:vs.length=ps.length) (r:Vals vs us)
  (x:InCallC s s.heap.objs.size (bindL (envOfC qual scope s.heap.objs.size f cd).kindOf (ps.zip us) λ_=>none) (cellsFrom (s.heap.objs.size+1) scope.names []) (bindC (envOfC qual scope s.heap.objs.size f cd).kindOf (ps.zip us) λ_=>none) s1):
  Inv (cxOf CX P w K mg base N qual scope f cd A outer s H E) [] (yY N vs) H s1:=by
 have hpl:ps.length<=N.length:=by have:=bB List.length S.pre;rw[aZ] at this;lia
 obtain⟨h1,tk,rfl,hk⟩:=x.done
 have noA:∀b:Addr,b∉(cxOf CX P w K mg base N qual scope f cd A outer s H E).ex:=λb z=>absurd (show b∈([]:List Addr) from z) (by simp)
 refine⟨⟨e0.mod,S.kind,rfl,rfl,ak _,λy z c h1 h2=>?_,λy hy=>?_,λy c _ h=>?_,λ_=>hd,Around.frames_deeper e0.frames,.inr ⟨rfl,rfl⟩,λb z=>absurd z (noA b),e0.bs,e0.bsz,λb _ _=>noA b,λb z=>absurd z (noA b),e0.funs,e0.frf⟩,
  rfl,e0.bare,Un.kept hk,⟨_,x.toInCall.ns,λi y v h1 h2 h3=>?_⟩,λy c h=>⟨_,x.cell y c h⟩,e0.hok.fresh (ak _),λy c h=>?_,λp hp=>absurd (show p∈([]:List (Addr×Obj)) from hp) (by simp),e0.hok.kept hk,?_⟩
 .exact name_of_addr x.apart (cP h1) (cP h2)
 .have hy:scope.names.lookup y=some .cell\/scope.names.lookup y=some .free:=hy
  rcases hy with hy|hy
  .exact jJ5 hy
  .exact absurd rfl (S.nofree _ (cP hy))
 .exact dj (x.above y c (cP h))
 .have hi:i<vs.length:=by
   unfold yY at h2
   by_cases hi:i<vs.length
   .exact hi
   .rw[bA (by simpa using hi)] at h2
    rw[dX] at h2
    split at h2<;>cases h2
  have ha:vs[i]?=some v:=by
   unfold yY at h2
   rw[ci (by simpa using hi),aO] at h2
   cases e:vs[i]? with
   |none=>rw[e] at h2;cases h2
   |some a=>rw[e] at h2;cases h2;rfl
  obtain⟨u,hu,rv⟩:=r.get ha
  have hp:ps[i]?=some y:=by
   rw[<- S.pre,cY (by lia)];exact h1
  have ndP:ps.Nodup:=by rw[<- S.pre];exact S.nd.sublist (eJ _ _)
  refine⟨u,rv,?_⟩
  rcases S.par y (aH hp) with k|k
  .exact .inl ⟨k,jGL ndP hp hu k⟩
  .obtain⟨c,e⟩:=jJ5 (n:=s.heap.objs.size+1) k
   refine .inr ⟨.inl k,c,e,?_⟩
   have q:=x.cell y c e
   rw[jGN ndP hp hu (by show scope.names.lookup y≠_;rw[k];decide)] at q
   exact q
 .exact e0.hok.fresh (dj (x.above y c (cP h)))
 .unfold yY
  show _=N.length
  rw[aK,aa,cW]
  lia
def fn_of{k:Nat}{name qual:Str}{params:Arguments}{scope:Scope}{dV kV doc pm cdv ct oc:Value}{an od:Option Addr}
  {osl:Array (Option Value)}(lk:K.lookup f=some ⟨oc,od,.func (PySem.W.fnOf name qual params body scope dV kV doc pm an cdv ct),osl⟩) (hcd:PySem.W.codeIn K cdv qual=true) (S:FnScope N ps scope)
  (len:∀vs H Q E,sp vs H Q E->vs.length=ps.length)
  (hbody:∀(A:Around) (outer:List Env) (s:Shared) (H:Hp) (vs:List V) (Q:VK) (E:XK),Room k (A.deeper (envOfC qual scope s.heap.objs.size f cdv))->sp vs H Q E->
   ∃t,PSs (cxOf CX P w K mg base N qual scope f cdv A outer s H E) body t/\t {nx:=λ_ H'=>Q .non H',rt:=Q} (yY N vs) H):
  FnOk P w K mg base CX (k+1) f (PySem.W.fnOf name qual params body scope dV kV doc pm an cdv ct) ps sp:=by
 refine⟨len,λA outer s H args us vs Q E hr e0 hb r hsp=>?_⟩
 have hl:=len _ _ _ _ hsp
 have KX:K.In s.heap:=e0.mod.kin.keeps λb o e=>(e0.bs b o e).1
 have lim:s.heap.NoLimit:=e0.mod.nolimit.keeps λb o e=>(e0.bs b o e).1
 have hkind:∀y∈ps.zip us,scope.names.lookup y.1=some .local\/(scope.names.lookup y.1=some .cell/\((cellsFrom (s.heap.objs.size+1) scope.names []).lookup y.1).isSome=true):=λ⟨n,v⟩ hy=>by
  rcases S.par n (cR hy).1 with q|q
  .exact .inl q
  .exact .inr ⟨q,iS _ _ _ (.inl q)⟩
 refine codeAny_call_function hr.depth (KX _ _ lk) rfl S.co S.gen rfl (PySem.W.codeRec_of KX hcd) (hb _ _ _ _ ?_)
 refine wpAny_newFunctionEnv_cells S.kind hkind λenv he s1 x=>?_
 subst he
 refine⟨lim.keeps x.toInCall.keep,codeAny_func ?_⟩
 obtain⟨t,ht,hq⟩:=hbody A outer s H vs Q E (hr.deeper _) hsp
 have I:Inv (cxOf CX P w K mg base N qual scope f cdv A outer s H E) [] (yY N vs) H s1:=jLX S hr.hd e0 hl r x
 refine cn (ht [] s1 (yY N vs) H _ I hq) (λfl s' hs=>?_) λe s' hs=>hs
 have fin:∀{σ':St}{H':Hp}{v:V}{u:Value},Inv (cxOf CX P w K mg base N qual scope f cdv A outer s H E) [] σ' H' s'->RelV v u->Q v H'->CE outer P w H s Q u s':=
  λ{σ' H' v u} J rv q=>⟨v,H',J.os,J.bare,J.base,J.hok,rv,q⟩
 cases fl with
 |ret u=>
  obtain⟨v,σ',H',J,rv,q⟩:=hs
  exact fin J rv q
 |next=>
  obtain⟨σ',H',J,q⟩:=hs
  exact fin (v:=V.non) (u:=Value.none) J rfl q
 |brk=>
  obtain⟨_,_,_,q⟩:=hs
  exact False.elim q
 |cont=>
  obtain⟨_,_,_,q⟩:=hs
  exact False.elim q
section
variable {x:Str}{id T:String}{r:List V->Hp->VK->Prop}
def tCB(r:List V->Hp->VK->Prop)(t:TA):TE:=λσ H Q=>t σ H λvs H1=>r vs H1 Q
theorem jEP(hc:yV X (.builtin id) r)(hg:Gl X x)(hm:X.mg x=none)(hv:bootBuiltins x=some (.builtin id))(ha:PA X (e::es) t)(hn:x≠"__name__" :=by decide)(hdb:(x==("__debug__":Str))=false:=by decide)
  (he:starEach (e::es) X.env=(false,eval e X.env)::starEach es X.env:=by rfl) (hpl:(backTo pos (starEach es X.env)).any (·.1)=false:=by rfl):PE X (.Call (.Name x p) (e::es) [] pos) (tCB r t):=by
 intro ad s σ H Q I h
 refine fh (jCU I hg hm hv ?_ hn hdb)
 exact PyProof.Rows.callWith_builtin1 (ln (ha pos ad s σ H _ I h) λus s1 ⟨vs,H1,I1,r1,q1⟩=>hc ad s1 σ H1 vs us Q I1 r1 q1) he hpl
theorem jBW(hc:yV X (.type T) r)(hg:Gl X x)(hm:X.mg x=none)(hv:bootBuiltins x=some (.type T))(ha:PA X (e::es) t)(hn:x≠"__name__" :=by decide)(hdb:(x==("__debug__":Str))=false:=by decide)
  (he:starEach (e::es) X.env=(false,eval e X.env)::starEach es X.env:=by rfl) (hpl:(backTo pos (starEach es X.env)).any (·.1)=false:=by rfl):PE X (.Call (.Name x p) (e::es) [] pos) (tCB r t):=by
 intro ad s σ H Q I h
 refine fh (jCU I hg hm hv ?_ hn hdb)
 exact cK (ln (ha pos ad s σ H _ I h) λus s1 ⟨vs,H1,I1,r1,q1⟩=>hc ad s1 σ H1 vs us Q I1 r1 q1) he hpl
end
end L2
namespace HT
open PySem PyProof.Rows
variable {Q:Value->Shared->Prop}{lo hi:Option Int}{vu vl:Value}{t sl:Addr}
noncomputable def lexLt:List Int->List Int->Bool
 |[],[]=>false
 |[],_::_=>true
 |_::_,[]=>false
 |x::xs,y::ys=>if x=y then lexLt xs ys else decide (x<y)
theorem lexLt_cons(x y:Int)(xs ys:List Int):lexLt (x::xs) (y::ys)=if x=y then lexLt xs ys else decide (x<y):=rfl
section
open PySem.SeqAt
open PySem.AutoSeq1 (wpAny_loadPart')
open PySem.MeetsSeq PySem.MeetsSeq2 PySem.MeetsSeq3
end
section
variable {prog:Program}{w:World}{A:Around}{E:Value->Shared->Prop}{s:Shared}
def cat_tup{b:Addr}{vs ws:List Value}(ht:IsTup s.heap t vs.toArray)(hb:IsTup s.heap b ws.toArray)(hv:vs≠[])
  (h1:ws=[]->Q (.ref t) s) (h2:ws≠[]->Q (.ref s.heap.objs.size) {s with heap:=s.heap.push {cls:=.type "tuple",data:=.seq (vs++ws).toArray}})
  (hsz:vs.length+ws.length<=sizeLine):wpAny (model prog w) A (binaryOp .Add (.ref t) (.ref b)) Q E s:=by
 obtain⟨⟨cls,dd,data,sl⟩,ho,hc,n,hd⟩:=id ht
 obtain⟨⟨cls2,dd2,data2,sl2⟩,ho2,hc2,n2,hd2⟩:=id hb
 simp only at hc hd hc2 hd2
 subst hc hd hc2 hd2
 have e:vs.toArray++ws.toArray=(vs++ws).toArray:=by simp
 by_cases hw:ws=[]
 .exact concat_meets ⟨_,ho,rfl⟩ ⟨_,ho2,rfl⟩ iE seq_tuple_add fI fo (fb _ _)
   (tuple_addW1 t b vs.toArray ws.toArray n n2 dd dd2 sl sl2 (by simpa using hv) (by simp[hw])) ⟨ho,ho2,h1 hw⟩
 .refine concat_meets ⟨_,ho,rfl⟩ ⟨_,ho2,rfl⟩ iE seq_tuple_add fI fo (fb _ _)
   (tuple_addW2 t b vs.toArray ws.toArray n n2 dd dd2 sl sl2 (by simpa using hv) (by simpa using hw) (by rw[ao,ao];exact hsz)) ⟨ho,ho2,?_⟩
  rw[e]
  exact h2 hw
noncomputable def sIx(n d:Nat):Option Int->Nat
 |none=>d
 |some v=>if v<0 then (v+(n:Int)).toNat else min v.toNat n
def sIx_none(n d:Nat):sIx n d none=d:=rfl
theorem sIx_nat(n d k:Nat):sIx n d (some (k:Int))=min k n:=by
 show (if (k:Int)<0 then ((k:Int)+(n:Int)).toNat else min (k:Int).toNat n)=min k n
 rw[aj (by lia),bY]
theorem jSA(n d:Nat)(hd:d<=n)(o:Option Int):sIx n d o<=n:=by
 cases o with
 |none=>exact hd
 |some v=>
  show (if v<0 then (v+(n:Int)).toNat else min v.toNat n)<=n
  by_cases hv:v<0
  .rw[ai hv];lia
  .rw[aj hv];exact Nat.min_le_right _ _
theorem jMH(v:Int)(n d:Nat):(if v<0 then max (v+(n:Int)) 0 else min v (n:Int))=((sIx n d (some v):Nat):Int):=by
 show (if v<0 then max (v+(n:Int)) 0 else min v (n:Int))=(((if v<0 then (v+(n:Int)).toNat else min v.toNat n):Nat):Int)
 by_cases hv:v<0
 .simp only[ai hv];lia
 .simp only[aj hv];lia
theorem jJZ(lo hi:Option Int)(n:Nat):Builtin.Slice.sliceAdjust lo hi 1 (n:Int)=(((sIx n 0 lo:Nat):Int),((sIx n n hi:Nat):Int)):=by
 have h1:¬((1:Int)<0):=by lia
 unfold Builtin.Slice.sliceAdjust
 simp only[h1,jh]
 refine Prod.ext ?_ ?_
 .cases lo with
  |none=>rfl
  |some v=>exact jMH v n 0
 .cases hi with
  |none=>rfl
  |some v=>exact jMH v n n
theorem jJH(i j:Nat):Builtin.Slice.slicePlaces (i:Int) (j:Int) 1=j-i:=by
 unfold Builtin.Slice.slicePlaces
 have h1:(1:Int)>0:=by lia
 simp only[h1,gh,Int.ediv_one]
 split<;>lia
def jE1{v:Value}{o:Option Int}{Q:Option Int->Shared->Prop}(p:IsPart v o)(h:Q o s):wpAny (model prog w) A (Builtin.Slice.slicePartIndex v) Q E s:=by
 cases p with
 |none=>exact slicePart_none h
 |int i t=>exact slicePart_int h
theorem sliceApplied_gen{n:Nat}{Q:Int×Int×Nat->Shared->Prop}(hs:s.heap.IsSliceOf sl vl vu .none)(pl:IsPart vl lo)(pu:IsPart vu hi)
  (h:Q (((sIx n 0 lo:Nat):Int),1,sIx n n hi-sIx n 0 lo) s):wpAny (model prog w) A (Builtin.Slice.sliceApplied (.ref sl) (pure (n:Int))) Q E s:=by
 obtain⟨os,hos,hcs,hds⟩:=id hs
 unfold Builtin.Slice.sliceApplied Builtin.Slice.sliceFields
 refine ab (ab (bX hos hds (x:=vl) rfl (ab (bX hos hds (x:=vu) rfl (ab (bX hos hds (x:=.none) rfl (ah ?_)))))))
 refine ab (slicePart_none ?_)
 show wpAny _ _ (if ((1:Int)==0)=true then _ else _) _ _ s
 rw[aj (by decide)]
 refine ab (jE1 pl (ab (jE1 pu (ab (ah ?_)))))
 show wpAny _ _ (match Builtin.Slice.sliceAdjust lo hi 1 (n:Int) with | (lo,hi)=>pure (lo,(1:Int),Builtin.Slice.slicePlaces lo hi 1)) _ _ s
 rw[jJZ lo hi n]
 show wpAny _ _ (pure (((sIx n 0 lo:Nat):Int),(1:Int),Builtin.Slice.slicePlaces ((sIx n 0 lo:Nat):Int) ((sIx n n hi:Nat):Int) 1)) _ _ s
 rw[jJH]
 exact ah h
theorem jNV(xs:Array Value)(i k:Nat):((List.range k).filterMap λ(m:Nat)=>xs[((i:Int)+(m:Int)*1).toNat]?).toArray=((xs.toList.drop i).take k).toArray:=by
 have e:(λ(m:Nat)=>xs[((i:Int)+(m:Int)*1).toNat]?)=λm=>xs[i+m]?:=by
  funext m
  have:((i:Int)+(m:Int)*1).toNat=i+m:=by lia
  rw[this]
 rw[e]
 have:=pick_run xs i k
 rw[List.filterMap_map] at this
 have e2:((λx=>xs[x]?) ∘ λx=>i+x)=λm=>xs[i+m]?:=rfl
 rw[e2] at this
 rw[this]
theorem getItem_tuple_cut{items:Array Value}(ht:IsTup s.heap t items)(hs:s.heap.IsSliceOf sl vl vu .none)(pl:IsPart vl lo)(pu:IsPart vu hi)
  (hw:¬(sIx items.size 0 lo=0/\sIx items.size items.size hi=items.size))
  (h:Q (.ref s.heap.objs.size) {s with heap:=s.heap.push {cls:=.type "tuple",data:=.seq ((items.toList.drop (sIx items.size 0 lo)).take (sIx items.size items.size hi-sIx items.size 0 lo)).toArray}})
  (hsz:items.size<=sizeLine):wpAny (model prog w) A (getItem (.ref t) (.ref sl)) Q E s:=by
 have htake:sizeOk (.seq ((items.toList.drop (sIx items.size 0 lo)).take (sIx items.size items.size hi-sIx items.size 0 lo)).toArray):=by
  show ((items.toList.drop (sIx items.size 0 lo)).take (sIx items.size items.size hi-sIx items.size 0 lo)).toArray.size<=sizeLine
  rw[ao,aZ,cB,aM]
  lia
 have hj:sIx items.size items.size hi<=items.size:=jSA _ _ (ak _) hi
 obtain⟨os,hos,hcs,hds⟩:=id hs
 have hTs:s.TypeIs (.ref sl) "slice" :=⟨os,hos,hcs⟩
 unfold getItem
 try with_reducible refine cx ?_
 first|refine ab (ah ?_)|skip
 refine ab (wpAny_sequenceKey ht.typeIs (by decide) ?_)
 refine ab (bK (name:=Str.ofString "__getitem__") ht.typeIs b9
  (bQ b9 ht.typeIs entry_tuple_getitem ?_ (args_tuple_getitem _ _)))
 show wpAny _ _ (Builtin.Tuple.tupleItemsOf (.ref t) >>= _) _ _ s
 refine ab (tupleItemsOf_ ht ?_)
 refine ab (gH hTs ?_)
 rw[ai (by decide)]
 refine ab (sliceApplied_gen hs pl pu ?_)
 have hno:¬((((sIx items.size 0 lo:Nat):Int)==0&&(1:Int)==1&&(sIx items.size items.size hi-sIx items.size 0 lo)==items.size)=true):=by
  intro q
  rw[ba,ba] at q
  have q1:((sIx items.size 0 lo:Nat):Int)=0:=eq_of_beq q.1.1
  have q2:sIx items.size items.size hi-sIx items.size 0 lo=items.size:=eq_of_beq q.2
  exact hw ⟨by lia,by lia⟩
 show wpAny _ _ (if (((sIx items.size 0 lo:Nat):Int)==0&&(1:Int)==1&&(sIx items.size items.size hi-sIx items.size 0 lo)==items.size)=true then _ else _) _ _ s
 rw[aj hno,jNV]
 first
  |exact ab (m:=Builtin.Tuple.tupleExact _) (bU (ah ⟨_,rfl,ah h⟩) htake)
  |exact ab (m:=Builtin.Tuple.tupleExact _) (bU (ab (ah (ah ⟨_,rfl,ah h⟩))) htake)
  |exact ab (ab (m:=Builtin.Tuple.tupleExact _) (bU (ah (ah ⟨_,rfl,ah h⟩)) htake))
  |exact ab (ab (m:=Builtin.Tuple.tupleExact _) (bU (ah ⟨_,rfl,ah h⟩) htake))
end
end HT
namespace L2
open PySem PySem.Spec PyProof.Rows
variable {s:Shared}{ad:List (Addr×Obj)}{xs:List V}{x:V}{v u:Value}{α:Type}{us:List Value}{n:Nat}{A:Around}{i:Int}
abbrev TO:=St->Hp->(Option Int->Hp->Prop)->Prop
def PO(X:Cx)(e:Option Expr)(t:TO):Prop:=
 ∀(ad:List (Addr×Obj)) (s:Shared) (σ:St) (H:Hp) (Q:Option Int->Hp->Prop),Inv X ad σ H s->t σ H Q->
  wpAny (model X.prog X.w) X.A (evalPart e X.env) (λu s'=>∃o H',Inv X ad σ H' s'/\IsPart u o/\Q o H') X.xe s
def jEE:TO:=λ_ H Q=>Q none H
def tPart(t:TE):TO:=λσ H Q=>t σ H λx H1=>∃i,x=.int i/\Q (some i) H1
variable {X:Cx}{e:Expr}{pos:Pos}
section
variable {te:TE}{lo hi:Option Expr}{tl th:TO}{p2:Pos}
def jQG:PO X none jEE:=by
 intro ad s σ H Q I h
 rw[evalPart_none]
 exact ah ⟨none,H,I,.none,h⟩
def jQF(h:PE X e te):PO X (some e) (tPart te):=by
 intro ad s σ H Q I hw
 rw[evalPart_some]
 refine ln (h ad s σ H _ I hw) λu s1 ⟨x,H1,I1,r1,q1⟩=>?_
 obtain⟨i,rfl,q⟩:=q1
 obtain⟨t,rfl⟩:=r1
 exact⟨some i,H1,I1,.int i t,q⟩
def SlR(X:Cx)(r:V->Option Int->Option Int->Hp->VK->Prop):Prop:=
 ∀(ad:List (Addr×Obj)) (s:Shared) (σ:St) (H:Hp) (x:V) (v vl vu:Value) (lo hi:Option Int) (sl:Addr) (Q:VK),Inv X ad σ H s->RelV x v->s.heap.IsSliceOf sl vl vu .none->IsPart vl lo->IsPart vu hi->r x lo hi H Q->
  ∃T id,typeLookup (.type T) "__getitem__" =pure (some (.builtin id))/\s.TypeIs v T/\wpAny (model X.prog X.w) X.A (getItem v (.ref sl)) (EP X ad σ Q) X.xe s
def tSl(r:V->Option Int->Option Int->Hp->VK->Prop)(te:TE)(tl th:TO):TE:=λσ H Q=>te σ H λx H1=>tl σ H1 λl H2=>th σ H2 λu H3=>r x l u H3 Q
def jNX{r:V->Option Int->Option Int->Hp->VK->Prop}(hr:SlR X r)(he:PE X e te)(hl:PO X lo tl)(hu:PO X hi th):PE X (.Subscript e (.Slice lo hi none p2) pos) (tSl r te tl th):=by
 intro ad s σ H Q I h
 refine Subscript_ (ln (he ad s σ H _ I h) λv s1 ⟨x,H1,I1,r1,q1⟩=>?_)
 refine wpAny_Slice (ln (hl ad s1 σ H1 _ I1 q1) λvl s2 ⟨l,H2,I2,pl,q2⟩=>ln (hu ad s2 σ H2 _ I2 q2) λvu s3 ⟨u,H3,I3,pu,q3⟩=>?_)
 rw[evalPart_none]
 refine ah ?_
 have I4:Inv X ad σ H3 {s3 with heap:=s3.heap.push {cls:=.type "slice",data:=.fields #[vl,vu,.none]}}:=I3.kept (t':=s3.toks) λb ob q=>ae _ q
 obtain⟨T,id,hT,ht,hg⟩:=hr ad {s3 with heap:=s3.heap.push {cls:=.type "slice",data:=.fields #[vl,vu,.none]}} σ H3 x v vl vu l u s3.heap.objs.size Q I4 r1 (Heap.IsSliceOf.new ..) pl pu q3
 show wpAny (model X.prog X.w) X.A (subscriptTail e (.Slice lo hi none p2) v (.ref s3.heap.objs.size)) (EP X ad σ Q) X.xe {s3 with heap:=s3.heap.push {cls:=.type "slice",data:=.fields #[vl,vu,.none]}}
 exact tail_any (ops:=[.ref s3.heap.objs.size,v]) ht hT hg (by with_unfolding_all rfl)
def cutV(xs:List V)(lo hi:Option Int):List V:=(xs.drop (HT.sIx xs.length 0 lo)).take (HT.sIx xs.length xs.length hi-HT.sIx xs.length 0 lo)
theorem jDU(xs:List V)(lo hi:Option Int):(cutV xs lo hi).length<=xs.length:=by
 unfold cutV
 rw[aZ,cB]
 lia
def rSlT(K:W.Frag):V->Option Int->Option Int->Hp->VK->Prop:=λx lo hi H Q=>∃a xs,x=.ref a/\SqT K H a xs/\
 ¬(HT.sIx xs.length 0 lo=0/\HT.sIx xs.length xs.length hi=xs.length)/\∀p,H p=none->Q (.ref p) (upd H p (.tup (cutV xs lo hi)))
def jS7:SlR X (rSlT X.K):=by
 intro ad s σ H x v vl vu lo hi sl Q I rx hs pl pu h
 obtain⟨a,xs,rfl,hx,hw,q⟩:=h
 cases rx
 obtain⟨its,r,ht,hz⟩:=I.tuple hx
 have hlen:its.toArray.size=xs.length:=by rw[ao];exact r.length.symm
 refine⟨"tuple",_,b9.lookup,ht.typeIs,?_⟩
 refine HT.getItem_tuple_cut ht hs pl pu (by rw[hlen];exact hw) ?_ (by rw[hlen];exact hz)
 rw[hlen]
 refine⟨.ref s.heap.objs.size,_,I.laid (t':=s.toks) (o:=.tup (cutV xs lo hi)) (λb ob q=>ae _ q) (ak _) ?_,rfl,q _ (I.hok.fresh (ak _))⟩
 exact⟨aY (jDU xs lo hi) hz,_,(r.drop (HT.sIx xs.length 0 lo)).take (HT.sIx xs.length xs.length hi-HT.sIx xs.length 0 lo),TupO.new _ _⟩
def rCatT(K:W.Frag):R2:=λx y H Q=>∃a b xs ys,x=.ref a/\y=.ref b/\SqT K H a xs/\SqT K H b ys/\xs≠[]/\xs.length+ys.length<=sizeLine/\
 (ys=[]->Q (.ref a) H)/\(ys≠[]->∀p,H p=none->Q (.ref p) (upd H p (.tup (xs++ys))))
def Vals.nil_iff(r:Vals xs us):us=[]↔xs=[]:=by
 cases r with
 |nil=>simp
 |cons _ _=>simp
def jQW:OpR X (binaryOp .Add) (rCatT X.K):=by
 intro ad s σ H x y v u Q I rx ry h
 obtain⟨a,b,xs,ys,rfl,rfl,ha,hb,hx,hz,q1,q2⟩:=h
 cases rx
 cases ry
 obtain⟨its,r1,p1,_⟩:=I.tuple ha
 obtain⟨its2,r2,p2,_⟩:=I.tuple hb
 refine HT.cat_tup p1 p2 (λz=>hx (r1.nil_iff.mp z)) (λz=>⟨.ref a,H,I,rfl,q1 (r2.nil_iff.mp z)⟩) (λz=>?_) (by rw[<- r1.length,<- r2.length];exact hz)
 refine⟨.ref s.heap.objs.size,_,I.laid (t':=s.toks) (o:=.tup (xs++ys)) (λb ob q=>ae _ q) (ak _) ?_,rfl,q2 (λw=>z (r2.nil_iff.mpr w)) _ (I.hok.fresh (ak _))⟩
 exact⟨by rw[aK];exact hz,_,r1.append r2,TupO.new _ _⟩
end
noncomputable def ixN(n:Nat)(i:Int):Option Nat:=if 0<=i then (if i<n then some i.toNat else none) else if -(n:Int)<=i then some (i+n).toNat else none
def atI(xs:List α)(i:Int):Option α:=(ixN xs.length i).bind λj=>xs[j]?
theorem jLV{j:Nat}(h:ixN n i=some j):seqIndex? i n=some j/\j<n/\ -(n:Int)<=i/\i<n:=by
 unfold ixN at h
 by_cases h0:0<=i
 .rw[ai h0] at h
  by_cases h1:i<n
  .rw[ai h1] at h
   have e:i.toNat=j:=bj h
   exact⟨by rw[seqIndex_of h0 h1,e],by lia,by lia,h1⟩
  .rw[aj h1] at h;cases h
 .rw[aj h0] at h
  by_cases h1: -(n:Int)<=i
  .rw[ai h1] at h
   have e:(i+n).toNat=j:=bj h
   exact⟨by rw[seqIndex_neg (by lia) h1,e],by lia,h1,by lia⟩
  .rw[aj h1] at h;cases h
def jMY{xs:List α}{v:α}(h:atI xs i=some v):∃j,seqIndex? i xs.length=some j/\xs[j]?=some v/\j<xs.length/\ -(xs.length:Int)<=i/\i<xs.length:=by
 unfold atI at h
 cases e:ixN xs.length i with
 |none=>rw[e] at h;cases h
 |some j=>
  rw[e] at h
  obtain⟨h1,h2,h3,h4⟩:=jLV e
  exact⟨j,h1,h,h2,h3,h4⟩
theorem yF{α:Type}{xs:List α}{j:Nat}{v:α}(h:xs[j]?=some v):atI xs (j:Int)=some v:=by
 have hj:j<xs.length:=(aF.mp h).1
 have e:ixN xs.length (j:Int)=some j:=by
  unfold ixN
  rw[ai (by lia),ai (by lia)];simp
 unfold atI;rw[e];exact h
def jCM(b:Expr):Prop:=∀o i,subscripted b false o i=operate [o,i] (getItem o i)
def IxR(X:Cx)(r:R2):Prop:=
 ∀(value slice:Expr) (ad:List (Addr×Obj)) (s:Shared) (σ:St) (H:Hp) (x y:V) (v u:Value) (Q:VK),Inv X ad σ H s->RelV x v->RelV y u->r x y H Q->
  subscripted slice false v u=operate [v,u] (getItem v u)->wpAny (model X.prog X.w) X.A (subscriptTail value slice v u) (EP X ad σ Q) X.xe s
def MtR(X:Cx)(id:String)(r:V->List V->Hp->VK->Prop):Prop:=
 ∀(ad:List (Addr×Obj)) (s:Shared) (σ:St) (H:Hp) (x:V) (xs:List V) (v:Value) (us:List Value) (Q:VK),Inv X ad σ H s->RelV x v->Vals xs us->r x xs H Q->
  wpAny (model X.prog X.w) X.A (call (.builtin id) (v::us)) (EP X ad σ Q) X.xe s
section
variable {a b:Expr}{ta tb:TE}
def pe_ix{r:R2}(hr:IxR X r)(ha:PE X a ta)(hb:PE X b tb)(hs:jCM b):PE X (.Subscript a b pos) (tOp r ta tb):=by
 intro ad s σ H Q I h
 exact Subscript_ (binT ha hb I h λv u s2 x y H2 I2 rx ry q=>hr a b ad s2 σ H2 x y v u Q I2 rx ry q (hs _ _))
def rIxL(K:W.Frag):R2:=λx y H Q=>∃p xs i v,x=.ref p/\y=.int i/\SqL K H p xs/\atI xs i=some v/\Q v H
def rIxT(K:W.Frag):R2:=λx y H Q=>∃p xs i v,x=.ref p/\y=.int i/\SqT K H p xs/\atI xs i=some v/\Q v H
theorem kX:IxR X (rIxL X.K):=by
 intro value slice ad s σ H x y v u Q I rx ry h hs
 obtain⟨p,xs,i,z,rfl,rfl,hq,he,q⟩:=h
 cases rx
 obtain⟨t,rfl⟩:=ry
 obtain⟨its,r,pl,hz⟩:=I.list hq
 obtain⟨j,h1,h2,h3,h4,h5⟩:=jMY he
 obtain⟨w,ew,rw'⟩:=r.get h2
 have hl:=r.length
 have hn:=jFZ
 have fin:EP X ad σ Q w s:=⟨z,H,I,rw',q⟩
 by_cases h0:0<=i
 .have hj:i.toNat=j:=by
   rw[seqIndex_of h0 h5] at h1
   exact bj h1
  exact item_listR pl.isList h0 (by lia) (by rw[hj];simpa using ew) fin hs
 .have hj:(i+(its.toArray.size:Int)).toNat=j:=by
   rw[seqIndex_neg (by lia) h4] at h1
   rw[ao,<- hl]
   exact bj h1
  exact subscriptTail_builtinR (x:=w) pl.isList.typeIs slot_list_getitem.lookup
   (wpAny_getItem_list_neg (Q:=λr s'=>r=w/\EP X ad σ Q r s') pl.isList (by lia) (by rw[ao]<;>lia) (by lia) (by rw[hj];simpa using ew) ⟨rfl,fin⟩) hs
theorem jU:IxR X (rIxT X.K):=by
 intro value slice ad s σ H x y v u Q I rx ry h hs
 obtain⟨p,xs,i,z,rfl,rfl,hq,he,q⟩:=h
 cases rx
 obtain⟨t,rfl⟩:=ry
 obtain⟨its,r,pl,hz⟩:=I.tuple hq
 obtain⟨j,h1,h2,h3,h4,h5⟩:=jMY he
 obtain⟨w,ew,rw'⟩:=r.get h2
 have hl:=r.length
 have hn:=jFZ
 have fin:EP X ad σ Q w s:=⟨z,H,I,rw',q⟩
 exact subscriptTail_builtinR (x:=w) pl.typeIs slot_tuple_getitem.lookup
  (getItem_tuple (j:=j) (Q:=λr s'=>r=w/\EP X ad σ Q r s') pl (by lia) (by lia) (by rw[ao,<- hl];exact h1) (by simpa using ew) ⟨rfl,fin⟩) hs
def jJM(its:List Value)(n j:Nat)(u:Value):Obj.mapSeq (·.setIfInBounds j u) {cls:=.type "list",data:=.seq its.toArray n} = {cls:=.type "list",data:=.seq (its.set j u).toArray n}:=by
 simp[Obj.mapSeq]
def Inv.lst{ad:List (Addr×Obj)}{σ:St}{H:Hp}{s:Shared}{p:Addr}{xs:List V}(I:Inv X ad σ H s)(h:H p=some (.lst xs)):
  ∃(its:List Value) (n:Nat),Vals xs its/\s.heap.get? p=some {cls:=.type "list",data:=.seq its.toArray n} /\xs.length<=sizeLine:=by
 obtain⟨z,its,n,r,e⟩:=I.hok p _ h
 exact⟨its,n,r,e,z⟩
def Inv.lstUpd{σ:St}{H:Hp}{p:Addr}{ys:List V}{its its':List Value}{n':Nat}{f:Obj->Obj}(I:Inv X ad σ H s)(h:H p=some (.lst xs))
  (ho:s.heap.get? p=some {cls:=.type "list",data:=.seq its.toArray n}) (hf:f {cls:=.type "list",data:=.seq its.toArray n} = {cls:=.type "list",data:=.seq its'.toArray n'}) (r:Vals ys its') (hz:ys.length<=sizeLine) (t:Nat):
  Inv X ad σ (upd H p (.lst ys)) {s with heap:=s.heap.update p f,toks:=t}:=by
 have e:(s.heap.update p f).get? p=some {cls:=.type "list",data:=.seq its'.toArray n'}:=by
  rw[dF f ho (by rw[hf]<;>rfl),hf]
 refine I.write (x:=p) (e:=p) (by rw[h];trivial) (.inl rfl) (λb u hb q=>(bE _ _ (bO hb)).trans q) ⟨_,e⟩ ?_
 exact⟨hz,its',n',r,e⟩
def rSetL:V->V->V->Hp->(Hp->Prop)->Prop:=λo i v H Q=>∃p xs k j,o=.ref p/\i=.int k/\H p=some (.lst xs)/\ixN xs.length k=some j/\Q (upd H p (.lst (xs.set j v)))
theorem jCZ:PSet X rSetL:=by
 intro ad s σ H o i v ov iv u Q I ro ri rv h
 obtain⟨p,xs,k,j,rfl,rfl,hp,hj,q⟩:=h
 cases ro
 obtain⟨t,rfl⟩:=ri
 obtain⟨its,n,r,ho,hz⟩:=I.lst hp
 obtain⟨h1,h2,h3,h4⟩:=jLV hj
 have hl:=r.length
 have hn:=jFZ
 have I':Inv X ad σ (upd H p (.lst (xs.set j v))) {s with heap:=s.heap.update p (Obj.mapSeq (·.setIfInBounds j u))}:=
  I.lstUpd hp ho (jJM its n j u) (r.set rv j) (by rw[i5];exact hz) s.toks
 by_cases h0:0<=k
 .have hk:k.toNat=j:=by
   rw[seqIndex_of h0 h4] at h1
   exact bj h1
  exact PySem.W.ki_setAt ho h0 (by lia) (by rw[ao,<- hl];exact h4) (by rw[hk];exact⟨_,I',q⟩)
 .have hk:(k+(its.toArray.size:Int)).toNat=j:=by
   rw[seqIndex_neg (by lia) h3] at h1
   rw[ao,<- hl]
   exact bj h1
  exact PySem.W.ki_setBack ho (by lia) (by rw[ao,<- hl];exact h3) (by lia) (by rw[hk];exact⟨_,I',q⟩)
theorem jFM(lo hi:Option Int)(n:Nat):(sliceBounds lo hi none n).1=((HT.sIx n 0 lo:Nat):Int)/\(sliceBounds lo hi none n).2.1=((HT.sIx n n hi:Nat):Int)/\(sliceBounds lo hi none n).2.2=1:=by
 refine⟨?_,?_,rfl⟩
 .cases lo with
  |none=>simp[sliceBounds,HT.sIx]
  |some i=>
   simp only[sliceBounds,HT.sIx,getD_none,show (1:Int)>0 by decide,gh]
   by_cases h:i<0
   .simp only[h,gh]<;>lia
   .simp only[h,jh]<;>lia
 .cases hi with
  |none=>simp[sliceBounds,HT.sIx]
  |some i=>
   simp only[sliceBounds,HT.sIx,getD_none,show (1:Int)>0 by decide,gh]
   by_cases h:i<0
   .simp only[h,gh]<;>lia
   .simp only[h,jh]<;>lia
def jEJ(its:List Value)(lo hi:Option Int):slicePick its.toArray lo hi none=((its.drop (HT.sIx its.length 0 lo)).take (HT.sIx its.length its.length hi-HT.sIx its.length 0 lo)).toArray:=by
 obtain⟨h1,h2,h3⟩:=jFM lo hi its.toArray.size
 unfold slicePick
 rw[h1,h2,h3]
 simp only[sliceRange_one,pick_run,ao]<;>rfl
def rSlL(K:W.Frag):V->Option Int->Option Int->Hp->VK->Prop:=λx lo hi H Q=>∃a xs,x=.ref a/\SqL K H a xs/\∀p,H p=none->Q (.ref p) (upd H p (.lst (cutV xs lo hi)))
theorem jEK:SlR X (rSlL X.K):=by
 intro ad s σ H x v vl vu lo hi sl Q I rx hs pl pu h
 obtain⟨a,xs,rfl,hx,q⟩:=h
 cases rx
 obtain⟨its,r,ht,hz⟩:=I.list hx
 have hlen:=r.length
 refine⟨"list",_,slot_list_getitem.lookup,ht.isList.typeIs,?_⟩
 refine wpAny_getItem_list_slice ht.isList hs pl pu .none (by simp) ?_ (by rw[ao]<;>lia)
 rw[jEJ,<- hlen]
 refine⟨.ref s.heap.objs.size,_,I.laid (t':=s.toks) (o:=.lst (cutV xs lo hi)) (λb ob q=>ae _ q) (ak _) ?_,rfl,q _ (I.hok.fresh (ak _))⟩
 exact⟨aY (jDU xs lo hi) hz,_,0,(r.drop (HT.sIx xs.length 0 lo)).take (HT.sIx xs.length xs.length hi-HT.sIx xs.length 0 lo),aD _ rfl⟩
def flatV:V->Bool
 | .non=>true
 | .bl _=>true
 | .int _=>true
 | .str _=>true
 |_=>false
noncomputable def eqV:V->V->Bool
 | .non,.non=>true
 | .bl a,.bl b=>a==b
 | .bl a,.int b=>(if a then 1 else 0)==b
 | .int a,.bl b=>a==(if b then 1 else 0)
 | .int a,.int b=>a==b
 | .str a,.str b=>a==b
 |_,_=>false
def jPN{y:V}(ry:RelV y u)(rx:RelV x v)(fy:flatV y=true)(fx:flatV x=true):SeqAt.EqAt A s u v (eqV y x):=by
 cases y with
 |non=>
  cases ry
  cases x with
  |non=>cases rx;exact SeqAt.EqAt.same _
  |bl b=>cases rx;exact SeqAt.EqAt.none_bool b
  |int b=>obtain⟨t,rfl⟩:=rx;exact SeqAt.EqAt.none_int b t
  |str b=>obtain⟨t,rfl⟩:=rx;exact SeqAt.EqAt.none_str b t
  |_=>exact absurd (show false=true from fx) aq
 |bl a=>
  cases ry
  cases x with
  |non=>cases rx;exact SeqAt.EqAt.bool_none a
  |bl b=>cases rx;exact SeqAt.EqAt.bool_bool a b
  |int b=>obtain⟨t,rfl⟩:=rx;exact SeqAt.EqAt.bool_int a b t
  |str b=>obtain⟨t,rfl⟩:=rx;exact SeqAt.EqAt.bool_str a b t
  |_=>exact absurd (show false=true from fx) aq
 |int a=>
  obtain⟨t',rfl⟩:=ry
  cases x with
  |non=>cases rx;exact SeqAt.EqAt.int_none a t'
  |bl b=>cases rx;exact SeqAt.EqAt.int_bool a t' b
  |int b=>obtain⟨t,rfl⟩:=rx;exact SeqAt.EqAt.int_int a t' b t
  |str b=>obtain⟨t,rfl⟩:=rx;exact SeqAt.EqAt.int_str a t' b t
  |_=>exact absurd (show false=true from fx) aq
 |str a=>
  obtain⟨t',rfl⟩:=ry
  cases x with
  |non=>cases rx;exact SeqAt.EqAt.str_none a t'
  |bl b=>cases rx;exact SeqAt.EqAt.str_bool a t' b
  |int b=>obtain⟨t,rfl⟩:=rx;exact SeqAt.EqAt.str_int a t' b t
  |str b=>obtain⟨t,rfl⟩:=rx;exact SeqAt.EqAt.str_str a t' b t
  |_=>exact absurd (show false=true from fx) aq
 |_=>exact absurd (show false=true from fy) aq
noncomputable def eqU(x:V)(u:Value):Bool:=match u with
 | .none=>eqV .non x
 | .bool b=>eqV (.bl b) x
 | .int i _=>eqV (.int i) x
 | .str z _=>eqV (.str z) x
 |_=>false
def jPM{y:V}(r:RelV y u)(f:flatV y=true):eqU x u=eqV y x:=by
 cases y with
 |non=>cases r;rfl
 |bl b=>cases r;rfl
 |int i=>obtain⟨t,rfl⟩:=r;rfl
 |str z=>obtain⟨t,rfl⟩:=r;rfl
 |_=>exact absurd (show false=true from f) aq
def jDW:∀{xs:List V}{us:List Value},Vals xs us->xs.all flatV=true->us.any (eqU x)=xs.any λy=>eqV y x
 |_,_,.nil,_=>rfl
 |y::xs,u::us,.cons r t,f=>by
  rw[dw,ba] at f
  rw[gm,gm,jPM r f.1,jDW t f.2]
def jB5(rx:RelV x v)(fx:flatV x=true):∀{xs:List V}{us:List Value},Vals xs us->xs.all flatV=true->∀u∈us,SeqAt.EqAt A s u v (eqU x u)
 |_,_,.nil,_=>λu hu=>by cases hu
 |y::xs,u::us,.cons r t,f=>λu' hu=>by
  rw[dw,ba] at f
  rcases ay.mp hu with rfl|hu
  .rw[jPM r f.1];exact jPN r rx f.1 fx
  .exact jB5 rx fx t f.2 u' hu
def inV(x:V)(xs:List V):Bool:=xs.any λy=>eqV y x
def rIn(K:W.Frag)(neg:Bool):R2:=λx y H Q=>∃p xs,y=.ref p/\(SqL K H p xs\/SqT K H p xs)/\flatV x=true/\xs.all flatV=true/\Q (.bl (if neg then !inV x xs else inV x xs)) H
def jKZ:OpR X (compareOp .In) (rIn X.K false):=by
 intro ad s σ H x y v u Q I rx ry h
 obtain⟨p,xs,rfl,hq,fx,fs,q⟩:=h
 cases ry
 rcases hq with hq|hq
 .obtain⟨its,r,pl,hz⟩:=I.list hq
  refine SeqAt.in_listAt (eqU x) pl.isList (λw hw=>jB5 rx fx r fs w (by simpa using hw)) ⟨.bl _,H,I,rfl,?_⟩
  rw[show its.toArray.any (eqU x)=its.any (eqU x) by simp,jDW r fs]
  exact q
 .obtain⟨its,r,pl,hz⟩:=I.tuple hq
  refine SeqAt.in_tupleAt (eqU x) pl (λw hw=>jB5 rx fx r fs w (by simpa using hw)) ⟨.bl _,H,I,rfl,?_⟩
  rw[show its.toArray.any (eqU x)=its.any (eqU x) by simp,jDW r fs]
  exact q
def jFU:OpR X (compareOp .NotIn) (rIn X.K true):=by
 intro ad s σ H x y v u Q I rx ry h
 obtain⟨p,xs,rfl,hq,fx,fs,q⟩:=h
 cases ry
 rcases hq with hq|hq
 .obtain⟨its,r,pl,hz⟩:=I.list hq
  refine SeqAt.notIn_listAt (eqU x) pl.isList (λw hw=>jB5 rx fx r fs w (by simpa using hw)) ⟨.bl _,H,I,rfl,?_⟩
  rw[show its.toArray.any (eqU x)=its.any (eqU x) by simp,jDW r fs]
  exact q
 .obtain⟨its,r,pl,hz⟩:=I.tuple hq
  refine SeqAt.notIn_tupleAt (eqU x) pl (λw hw=>jB5 rx fx r fs w (by simpa using hw)) ⟨.bl _,H,I,rfl,?_⟩
  rw[show its.toArray.any (eqU x)=its.any (eqU x) by simp,jDW r fs]
  exact q
theorem jN:yV X (.builtin "len") (λxs H Q=>∃p ys,xs=[.ref p]/\(SqL X.K H p ys\/SqT X.K H p ys)/\Q (.int ys.length) H):=by
 intro ad s σ H xs us Q I r h
 obtain⟨p,ys,rfl,hq,q⟩:=h
 obtain⟨u,rfl,rx⟩:=vals1 r
 cases rx
 have hn:=jFZ
 rcases hq with hq|hq
 .obtain⟨its,r',pl,hz⟩:=I.list hq
  have hlen:=r'.length
  exact Calls.call_len_list pl.isList (by simp only[ao]<;>lia) ⟨.int ys.length,H,I.tok _,⟨s.toks+1,by rw[ao,hlen]⟩,q⟩
 .obtain⟨its,r',pl,hz⟩:=I.tuple hq
  have hlen:=r'.length
  exact len_tuple pl (by simp only[ao]<;>lia) ⟨.int ys.length,H,I.tok _,⟨s.toks+1,by rw[ao,hlen]⟩,q⟩
theorem jO:yV X (.type "tuple") (λxs H Q=>∃p ys,xs=[.ref p]/\((SqL X.K H p ys/\∀l,H l=none->Q (.ref l) (upd H l (.tup ys)))\/(SqT X.K H p ys/\Q (.ref p) H))):=by
 intro ad s σ H xs us Q I r h
 obtain⟨p,ys,rfl,h⟩:=h
 obtain⟨u,rfl,rx⟩:=vals1 r
 cases rx
 rcases h with ⟨hq,q⟩|⟨hq,q⟩
 .obtain⟨its,r',pl,hz⟩:=I.list hq
  have hlen:=r'.length
  refine call_tuple_list pl.isList (λh' kp=>?_) (by simp only[ao]<;>lia)
  have I1:Inv X ad σ H {s with heap:=h'}:=I.kept (t':=s.toks) kp
  have I2:Inv X ad σ (upd H h'.objs.size (.tup ys)) {s with heap:=h'.push {cls:=.type "tuple",data:=.seq its.toArray}}:=
   I1.laid (t':=s.toks) (λb o e=>ae _ e) (ak _) (show ObjOk X.prog X.w _ _ _ (.tup ys) from ⟨hz,its,r',TupO.new _ _⟩)
  exact⟨.ref h'.objs.size,_,I2,rfl,q _ (I1.hok.fresh (ak _))⟩
 .obtain⟨its,r',pl,hz⟩:=I.tuple hq
  exact call_tuple_same pl ⟨.ref p,H,I,rfl,q⟩
def tyV(K:W.Frag)(T:String)(x:V)(H:Hp):Prop:=match x with
 | .str _=>T= "str"
 | .int _=>T= "int"
 | .ref p=>(T= "list" /\∃xs,SqL K H p xs)\/(T= "tuple" /\∃o,K.lookup p=some o/\o.cls=.type "tuple" /\o.dict=none)\/
   (T= "dict" /\((∃kvs,H p=some (.dK kvs))\/∃kvs,H p=some (.dT kvs)))\/(T= "set" /\∃S n,H p=some (.set S n))
 |_=>False
def jS2{σ:St}{H:Hp}{T:String}(I:Inv X ad σ H s)(r:RelV x v)(ty:tyV X.K T x H):
  s.TypeIs v T/\∀a,v=.ref a->∃ob,s.heap.get? a=some ob/\ob.dict=none:=by
 cases x with
 |str z=>
  obtain⟨t,rfl⟩:=r
  cases (show T= "str" from ty)
  exact⟨typeIs_str s z t,λ_ e=>nomatch e⟩
 |int i=>
  obtain⟨t,rfl⟩:=r
  cases (show T= "int" from ty)
  exact⟨typeIs_int s i t,λ_ e=>nomatch e⟩
 |ref p=>
  cases r
  rcases ty with ⟨rfl,xs,hq⟩|⟨rfl,o,hk,hc,hd⟩|⟨rfl,hk⟩|⟨rfl,S,n,hk⟩
  .obtain⟨its,_,pl,_⟩:=I.list hq
   refine⟨pl.isList.typeIs,λa e=>?_⟩
   cases e
   obtain⟨o,n,e,c,hd,_⟩:=pl
   exact⟨o,e,hd⟩
  .refine⟨⟨o,I.kIn p o hk,hc⟩,λa e=>?_⟩
   cases e
   exact⟨o,I.kIn _ o hk,hd⟩
  .have z:∃o,s.heap.get? p=some o/\o.ExactDict:=by
    rcases hk with ⟨kvs,hk⟩|⟨kvs,hk⟩
    .obtain⟨_,_,_,_,o,_,_,e,ex,_⟩:=I.hok p _ hk
     exact⟨o,e,ex⟩
    .obtain⟨_,_,_,_,o,_,_,e,ex,_⟩:=I.hok p _ hk
     exact⟨o,e,ex⟩
   obtain⟨o,e,ex⟩:=z
   refine⟨⟨o,e,ex.1⟩,λa e2=>?_⟩
   cases e2
   exact⟨o,e,ex.2.1⟩
  .obtain⟨o,_,_,_,e,ex,_⟩:=I.hok p _ hk
   refine⟨⟨o,e,ex.1⟩,λa e2=>?_⟩
   cases e2
   exact⟨o,e,ex.2.1⟩
 |_=>exact False.elim ty
def tBM(K:W.Frag)(T:String)(r:V->List V->Hp->VK->Prop)(to:TE)(t:TA):TE:=λσ H Q=>to σ H λx H1=>tyV K T x H1/\t σ H1 λxs H2=>r x xs H2 Q
variable {o:Expr}{es:List Expr}{to:TE}{t:TA}{name:Str}{apos cpos:Pos}{T id:String}{r:V->List V->Hp->VK->Prop}
theorem pe_bm(pa:PlainAttrs T)(slot:Slot T name id)(hty:typeOf (.builtin id)=pure (.type "method_descriptor"))(hm:MtR X id r)(ho:PE X o to)(ha:PA X (e::es) t)
  (hbase:attributeBase o name X.env (eval o X.env)=eval o X.env:=by rfl)
  (hfew:((backTo cpos (starEach (e::es) X.env)).all (λx=>!x.1)&&(backToKw cpos (keywordEach [] X.env)).all (λx=>x.1.isSome)
   &&decide ((e::es).length+([]:List Keyword).length+(if ([]:List Keyword).isEmpty then 0 else 1)<30))=true:=by rfl)
  (hline:(apos.endLine==cpos.line)=true:=by rfl) (hs:starEach (e::es) X.env=(false,eval e X.env)::starEach es X.env:=by rfl) (hplain:(backTo cpos (starEach es X.env)).any (·.1)=false:=by rfl):
  PE X (.Call (.Attribute o name apos) (e::es) [] cpos) (tBM X.K T r to t):=by
 intro ad s σ H Q I h
 refine wpAny_Call_method_late hbase hfew hline rfl (ln (ho ad s σ H _ I h) λv s1 ⟨x,H1,I1,r1,ty,q1⟩=>?_)
 obtain⟨h1,h2⟩:=jS2 I1 r1 ty
 refine⟨T,id,pa,slot,hty,h1,h2,?_⟩
 have hA:=ha cpos ad s1 σ H1 _ I1 q1
 rw[hs] at hA ⊢
 refine Calls.callWith_builtin (by show (false || (backTo cpos (starEach es X.env)).any (·.1))=false;rw[hplain]<;>rfl) (Calls.evalArgs_plain ?_)
 exact ln hA λus s2 ⟨vs,H2,I2,r2,q2⟩=>hm ad s2 σ H2 x vs v us Q I2 r1 r2 q2
/- xs.append(e),list.index on a module's tuple .. are MtR facts of 06m -/
end
def MtM(X:Cx)(id:String)(r:V->List V->Hp->VK->Prop):Prop:=
 ∀(ad:List (Addr×Obj)) (s:Shared) (σ:St) (H:Hp) (x:V) (xs:List V) (v:Value) (us:List Value) (Q:VK),Inv X ad σ H s->RelV x v->Vals xs us->r x xs H Q->
  wpAny (model X.prog X.w) X.A (call (.builtin id) (v::us)) (EP X ad σ Q) X.xe s
def Vals.one:∀{x:V}{us:List Value},Vals [x] us->∃u,us=[u]/\RelV x u
 |_,_,.cons r .nil=>⟨_,rfl,r⟩
def Vals.two:∀{x y:V}{us:List Value},Vals [x,y] us->∃u v,us=[u,v]/\RelV x u/\RelV y v
 |_,_,_,.cons r (.cons q .nil)=>⟨_,_,rfl,r,q⟩
def Vals.zero:∀{us:List Value},Vals [] us->us=[]
 |_,.nil=>rfl
def Vals.rep(h:Vals xs us):∀k:Nat,Vals (replicate k xs).flatten (replicate k us).flatten
 | 0=> .nil
 |k+1=>by
  rw[ck,ck,dL,dL]
  exact Vals.append h (Vals.rep h k)
def jG9(its:List Value):∀(k:Nat) (acc:List Value),
  List.foldl (λx1 x2=>x1++x2) acc.toArray (replicate k its.toArray)=(acc++(replicate k its).flatten).toArray
 | 0,acc=>by simp
 |k+1,acc=>by
  have e:acc.toArray++its.toArray=(acc++its).toArray:=by simp
  have e2:(acc++its)++(replicate k its).flatten=acc++(replicate (k+1) its).flatten:=by
   rw[ck,dL,be]
  rw[<- e2,<- jG9 its k (acc++its),<- e,ck,List.foldl_cons]
variable {s:Shared}
section
variable {ad:List (Addr×Obj)}{σ:St}{H:Hp}{l b:Addr}{xs ys zs:List V}
def Inv.lset{its its':List Value}{n:Nat}{f:Array Value->Array Value}{t':Nat}(I:Inv X ad σ H s)(hH:H l=some (.lst xs))
  (e:s.heap.get? l=some {cls:=.type "list",data:=.seq its.toArray n}) (hf:f its.toArray=its'.toArray) (hv:Vals ys its') (hz:ys.length<=sizeLine):
  Inv X ad σ (upd H l (.lst ys)) {s with heap:=s.heap.update l (Obj.mapSeq f),toks:=t'}:=by
 have q:=PySem.IsL.update e f
 rw[hf] at q
 refine I.write (x:=l) (e:=l) (by rw[hH];exact trivial) (.inl rfl) (λb' u hb hu=>(bE s.heap (Obj.mapSeq f) (bO hb)).trans hu) ⟨_,q⟩ ?_
 exact⟨hz,its',_,hv,q⟩
def Inv.lnew{its:List Value}{t':Nat}(I:Inv X ad σ H s)(hv:Vals ys its)(hz:ys.length<=sizeLine):
  Inv X ad σ (upd H s.heap.objs.size (.lst ys)) {s with heap:=s.heap.push {cls:=.type "list",data:=.seq its.toArray},toks:=t'}:=
 I.laid (λ_ _ q=>ae _ q) (ak _) ⟨hz,its,0,hv,aD _ rfl⟩
def Inv.fresh(I:Inv X ad σ H s):H s.heap.objs.size=none:=I.hok.fresh (ak _)
def Inv.lstM(I:Inv X ad σ H s)(hH:H l=some (.lst xs)):xs.length<=sizeLine/\∃(its:List Value) (n:Nat),Vals xs its/\xs.length=its.length/\s.heap.get? l=some {cls:=.type "list",data:=.seq its.toArray n}:=by
 obtain⟨z,its,n,r,e⟩:=I.hok l _ hH
 exact⟨z,its,n,r,r.length,e⟩
theorem jIH(h:n<=sizeLine):Builtin.List.listTooLong n=false:=by
 unfold Builtin.List.listTooLong
 exact aN (by lia)
end
def jQ9:V->List V->Hp->VK->Prop:=λx vs H Q=>∃l xs y,x=.ref l/\vs=[y]/\H l=some (.lst xs)/\xs.length<sizeLine/\Q .non (upd H l (.lst (xs++[y])))
theorem jAJ:MtM X "list.append" jQ9:=by
 intro ad s σ H x vs v us Q I rx rv h
 obtain⟨l,xs,y,rfl,rfl,hH,hz,q⟩:=h
 cases rx
 obtain⟨u,rfl,ru⟩:=rv.one
 obtain⟨z,its,n,r,hl,e⟩:=I.lstM hH
 refine gS F.slot_list_append ⟨_,e,rfl⟩ F.entry_list_append (F.args_list_append_2 _ _) (PySem.list_append l its.toArray n u (by rw[ao];lia)) ⟨e,?_⟩
 refine⟨.non,_,I.lset (its':=its++[u]) hH e (by simp) (r.append (.cons ru .nil)) ?_,rfl,q⟩
 rw[aK,fQ]
 lia
def jQ8:V->List V->Hp->VK->Prop:=λx vs H Q=>∃l b xs zs,x=.ref l/\vs=[.ref b]/\H l=some (.lst xs)/\H b=some (.lst zs)/\xs.length+zs.length<=sizeLine/\Q .non (upd H l (.lst (xs++zs)))
theorem jLF:MtM X "list.extend" jQ8:=by
 intro ad s σ H x vs v us Q I rx rv h
 obtain⟨l,b,xs,zs,rfl,rfl,hH,hB,hz,q⟩:=h
 cases rx
 obtain⟨u,rfl,ru⟩:=rv.one
 cases ru
 obtain⟨z,its,n,r,hl,e⟩:=I.lstM hH
 obtain⟨z2,its2,n2,r2,hl2,e2⟩:=I.lstM hB
 have hsz:its.toArray.size+its2.toArray.size<=sizeLine:=by rw[ao,ao];lia
 have hlong:¬(!its.toArray.isEmpty&&Builtin.List.listTooLong (its.toArray.size+its2.toArray.size))=true:=by
  rw[jIH hsz,eQ]
  exact aq
 refine gS F.slot_list_extend ⟨_,e,rfl⟩ F.entry_list_extend (F.args_list_extend_2 _ _)
  (AutoSeq1.list_extend_list_list_0 l its.toArray n b its2.toArray n2 hlong (by rw[ao];lia) (by lia)) ⟨e,e2,?_⟩
 refine⟨.non,_,I.lset (its':=its++its2) hH e (by simp) (r.append r2) ?_,rfl,q⟩
 rw[aK]
 lia
def rCat:R2:=λx y H Q=>∃l b xs zs,x=.ref l/\y=.ref b/\H l=some (.lst xs)/\H b=some (.lst zs)/\xs.length+zs.length<=sizeLine/\∀p,H p=none->Q (.ref p) (upd H p (.lst (xs++zs)))
theorem jSZ:OpR X (binaryOp .Add) rCat:=by
 intro ad s σ H x y v u Q I rx ry h
 obtain⟨l,b,xs,zs,rfl,rfl,hH,hB,hz,q⟩:=h
 cases rx
 cases ry
 obtain⟨z,its,n,r,hl,e⟩:=I.lstM hH
 obtain⟨z2,its2,n2,r2,hl2,e2⟩:=I.lstM hB
 refine PySem.P.add_list e e2 ?_ (by rw[ao,ao];lia)
 have ea:its.toArray++its2.toArray=(its++its2).toArray:=by simp
 rw[ea]
 exact⟨.ref _,_,I.lnew (t':=s.toks) (r.append r2) (by rw[aK];lia),rfl,q _ I.fresh⟩
def rRep:R2:=λx y H Q=>∃l k xs,x=.ref l/\y=.int k/\H l=some (.lst xs)/\ -(2^63)<=k/\k<2^63/\xs.length*k.toNat<=sizeLine/\
 ∀p,H p=none->Q (.ref p) (upd H p (.lst (replicate k.toNat xs).flatten))
def jRA(xs:List α)(k:Nat):(replicate k xs).flatten.length=k*xs.length:=by
 induction k with
 |zero=>simp
 |succ k ih=>rw[ck,dL,aK,ih,Nat.succ_mul,ki]
theorem jKX:OpR X (binaryOp .Mult) rRep:=by
 intro ad s σ H x y v u Q I rx ry h
 obtain⟨l,k,xs,rfl,rfl,hH,h1,h2,hz,q⟩:=h
 cases rx
 obtain⟨t,rfl⟩:=ry
 obtain⟨z,its,n,r,hl,e⟩:=I.lstM hH
 have hlen:its.toArray.size*k.toNat<=sizeLine:=by rw[ao,<- hl];exact hz
 have hcap:¬its.toArray.size*k.toNat>(2^63-1)/8:=by
  have:(sizeLine:Nat)<=(2^63-1)/8:=by decide
  lia
 have hfit:¬(!Builtin.List.listFitsIndex k)=true:=by
  rw[fitsIndex_both h1 h2]
  exact aq
 have hlong:¬Builtin.List.listTooLong (its.toArray.size*k.toNat)=true:=by
  rw[jIH hlen]
  exact aq
 have hnew:List.foldl (λx1 x2=>x1++x2) #[] (replicate (if its.toArray.isEmpty=true then 0 else k.toNat) its.toArray)=(replicate k.toNat its).flatten.toArray:=by
  have f0:∀m:Nat,List.foldl (λx1 x2=>x1++x2) #[] (replicate m its.toArray)=(replicate m its).flatten.toArray:=λm=>by
   have:=jG9 its m []
   rw[i6] at this
   exact this
  rw[f0]
  cases its with
  |nil=>simp
  |cons a r'=>rw[aj (by simp)]
 refine wpAny_binaryOp_repeat_ref (T:= "list") (U:= "int") (by decide) ⟨_,e,rfl⟩ (λs'=>typeIs_int s' k t) noFill_list_mul F.fills_int_mul F.slot_int_rmul repeat_list F.slot_int_index.lookup
  (gS F.slot_int_rmul (typeIs_int s k t) F.entry_int_rmul (F.args_int_rmul_2 _ _) (int___rmul___int_list k t l its.toArray n)
   ⟨e,rfl,⟨_,e,rfl⟩,gS F.slot_list_mul ⟨_,e,rfl⟩ F.entry_list_mul (F.args_list_mul_2 _ _) (AutoListH.list___mul___list_int_3 l its.toArray n k t hfit hcap hlong) ⟨e,?_⟩⟩)
 rw[hnew]
 exact⟨.ref _,_,I.lnew (t':=s.toks) (r.rep k.toNat) (by rw[jRA,Nat.mul_comm];exact hz),rfl,q _ I.fresh⟩
section
variable {prog:Program}{w:World}{A:Around}{E:Value->Shared->Prop}
set_option maxRecDepth 100000 in
end
end L2
namespace Att
open PySem PySem.W PySem.Calls PyProof.Rows
variable {l:OpenLaw}{P:Params}{h:Heap}{n:Nat}
def jDP:∀(ns:List Int) (vs:List Value),WellAll P h vs (ns.map WData.int)->IntsAre vs ns:=by
 intro ns
 induction ns with
 |nil=>
  intro vs w
  rw[gI] at w
  cases w
  exact .nil
 |cons n ns ih=>
  intro vs w
  rw[aP] at w
  cases w with
  |cons a b=>
   cases a
   exact .cons _ _ (ih _ b)
theorem jKM(hn:l.most=some n){args:List WData}{vals:List Value}
  (hpre:l.row.toRowW.claim.pre args=true) (hwl:WellAll P h vals args):
  ∃a vs ns,vals=[Value.ref a]/\args=[WData.list (ns.map WData.int)]/\h.get? a=some {cls:=.type "list",data:=.seq vs.toArray} /\IntsAre vs ns/\ns.length<=n:=by
 have hsh:WShape.hasAll [] args [.list .int]=true:=(pre_splitW hpre).1
 have hc:l.pre.holds [] {args:=args} =true:=(pre_splitW hpre).2
 obtain⟨d,r,rfl,h1,h2⟩:=hasAllW_cons hsh
 obtain rfl:=hasAllW_nil h2
 obtain⟨xs,rfl,h3⟩:=hasW_list h1
 obtain⟨ns,rfl⟩:=items_int h3
 have hlen:ns.length<=n:=by
  unfold OpenLaw.pre at hc
  have h4:(WTm.not (.lt (.lit (.int (n:Int))) (.len (.arg 0)))).holds [] {args:=[.list (ns.map .int)]} =true:=by
   have h4:=(holds_andW hc).1
   rw[hn] at h4
   exact h4
  have h5:=condW_of h4 (w_not (w_lt w_lit (w_len_list (w_arg rfl))))
  rw[aa] at h5
  refine Nat.le_of_not_lt λq=>?_
  have q':(n:Int)<((ns.length:Nat):Int):=by lia
  first
   | (rw[ax q'] at h5;exact absurd h5 (by decide))
   | (simp at h5;lia)
 cases hwl with
 |cons w1 w2=>
  cases w2
  cases w1 with
  |list ho hall=>exact⟨_,_,ns,rfl,rfl,ho,jDP ns _ hall,hlen⟩
theorem jKT(l:OpenLaw)(args:List WData):l.row.toRowW.claim.post args (.bool true) args=true:=
 postW_of (r:=l.row.toRowW) (X:=(true==true))
  (show WShape.has [] (.bool true) .bool=true by first|rfl|decide|simp[WShape.has,WShape.arms,WShape.armsAll])
  (show (WTm.eq .res (.lit (.bool true))).value [] {args:=args,res:=some (.bool true),after:=args} =some (.bool (true==true)) from w_eq_bool (w_res rfl) w_lit) rfl
def attach_call{q:Program}{loose:List Str}{XP:(Str->Option Value)->Heap->Prop}{YP:World->Heap->Prop}{d:DefRec}
  (hn:l.most=some n) (hdf:d.params.defaults=[])
  (call:∀(w:World) (s₀ s₁:Shared) (mg mb:Str->Option Value) (fa:Addr) (o:Obj) (pm cd doc:Value) (a:Addr) (vs:List Value) (ns:List Int),
   Ground q loose [] XP w s₀ mg mb s₁.heap->YP w s₁.heap->
   s₁.heap.get? fa=some o->o.data=.func (docDef d.name d.params d.body d.scope pm cd doc)->s₁.heap.CodeRec cd d.name->mg d.name=some (.ref fa)->
   s₁.heap.get? a=some {cls:=.type "list",data:=.seq vs.toArray} ->IntsAre vs ns->ns.length<=n->s₁.gens=#[]->
   codeAny (model l.prog w) callerA (.call (.ref fa) ⟨[.ref a],[]⟩) (λr s'=>r=.ok (.ret (.bool true))/\OldK s₁.heap s'.heap/\s'.os=s₁.os/\AllBare s'.gens) s₁):
  WalkO q loose XP YP l.row.toRowW d [] (λf vs=>PySem.call f vs):=by
 intro w s₀ s₁ mg mb G Y fa o pm cd doc dV kV ho hd hcd hD hmg hg args vals as hpre hlay hrd hwl hlo
 obtain rfl:dV=.none:=Dflts.none hD hdf
 obtain rfl:kV=.none:=Dflts.noKw hD
 obtain⟨a,vs,ns,rfl,rfl,hobj,hints,hlen⟩:=jKM hn hpre hwl
 refine enter_call (eS (call w s₀ s₁ mg mb fa o pm cd doc a vs ns G Y ho (fd_plain hd) hcd hmg hobj hints hlen hg) λr s' hq=>?_)
 obtain⟨rfl,h2,h3,h4⟩:=hq
 exact⟨.inl ⟨.bool true,.bool true,[],rfl,λ_=>rfl,.bool true,jKT l _,λ_=>⟨List.Pairwise.nil,λ_ hm=>(nomatch hm)⟩⟩,h2,h3,h4⟩
section
variable {prog:Program}{w:World}{A:Around}{E:Value->Shared->Prop}{s:Shared}{K:Frag}
end
end Att
namespace L2
open PySem PySem.Spec PyProof.Rows
def jFF:∀{vs:List Value}{ns:List Int},IntsAre vs ns->Vals (ns.map V.int) vs
 |_,_,.nil=> .nil
 |_,_,.cons n t h=> .cons ⟨t,rfl⟩ (jFF h)
end L2
/- THE LAST THEOREM (shape;LID,My.* are yours):
  My.Adr:a structure of the addresses that your layer names (classes,functions);My.Txt K t:a structure (Prop) of the equations over K;
  My.txt_mk: {K} {implicit addresses ..} (e1:nsIn K mainGlobals "law" =some (some (.ref f))) (e2:K.lookup f=some ⟨oc,od,.func (fnOf "law" "law" params body scope dV kV doc pm an cdv ct),sl⟩) (e3:codeIn K cdv "law" =true) .. :∃t,My.Txt K t
set_option maxRecDepth 100000 in
set_option maxHeartbeats 0 in
theorem PySem.Challenge.cw_LID_holds : PySem.Challenge.rw_LID.Holds := by
 w_on;o_law;k_head;(case hw=>w_witness2)
 k_fill
 refine L2.walk_of (l:=PySem.Challenge.rw_LID) (n:=63) (k:=40) (x:= "script") (CX:=λw=> ..) (sp:=λ_=>My.sp_law) rfl (by decide) rfl ⟨rfl,by decide,by decide⟩ (λw h Y=>PySem.W.kIn_of Y) ?F ?S ?C
 case F=>
  intro w mg fa h KX G hmg
  have T:∃t,My.Txt (L2.KOf KX) t:=by
   dsimp only[L2.KOf] -- K must stand as «<heap const>w.params» for k_is
   refine' My.txt_mk ?e1 ?e2 ?e3 ..
   (case e1=>PySem.W.k_is) -- in the order:a name->its address->its object->its parts
   (case e2=>PySem.W.k_is)
   ..
  obtain⟨t,T⟩:=T
  have e0:=hmg.symm.trans (fc KX G T.law)
  cases e0 -- fa is the law's own address
  exact⟨_,λs u=> .of_eq rfl,λbase kb nb=>My.law_fn T kb nb⟩ -- if «.of_eq rfl» comes too early:refine' ⟨_,?b,λbase kb nb=>My.law_fn T kb nb⟩;exact λs u=> .of_eq rfl
 case S=>exact λw H a ns hl hO hS=> ..
 case C=>exact ..
(the tactic k_is has no namespace:write k_is) -/
namespace L2
open PySem PySem.Spec PyProof.Rows
variable {B A c:Prop}{x:Str}{ps:List Str}{fd:FuncData}{env:Env}{sc:Scope}{f C:Addr}{st:Stmt}{h2 h1:Heap}
abbrev CX0:CXT:=λ_ _ _ _ _ _=>False
abbrev E0:XK:=λ_ _ _=>False
def pass0{X:Cx}:jN1 CX0 X E0:=λ_ _ _ _ _ _ _ h=>h.elim
structure Fun (K:W.Frag)(x qual:Str)(st:Stmt)(f:Addr)(fd:FuncData):Prop where
 ex:∃(oc:Value) (od:Option Addr) (kV doc pm:Value) (an:Option Addr) (cdv ct:Value) (osl:Array (Option Value)),
  fd=PySem.W.fnOf x qual (yX st) (jE st) (jB st) .none kV doc pm an cdv ct/\K.lookup f=some ⟨oc,od,.func fd,osl⟩/\PySem.W.codeIn K cdv qual=true
 kp:keepIn K (.ref f)=true
variable {w:World}
section
variable {P:Program}{K:W.Frag}{mg:Str->Option Value}{base:Heap}
def Fun.ok{qual:Str}{N:List Str}{k:Nat}{sp:Sp}(F:Fun K x qual st f fd)(S:FnScope N ps (jB st))(len:∀vs H Q E,sp vs H Q E->vs.length=ps.length)
  (hbody:∀(cdv:Value) (A:Around) (outer:List Env) (s:Shared) (H:Hp) (vs:List V) (Q:VK) (E:XK),Room k (A.deeper (envOfC qual (jB st) s.heap.objs.size f cdv))->sp vs H Q E->
   ∃t,PSs (cxOf CX0 P w K mg base N qual (jB st) f cdv A outer s H E).nox (jE st) t/\t {nx:=λ_ H'=>Q .non H',rt:=Q} (yY N vs) H):FnOk P w K mg base CX0 (k+1) f fd ps sp:=by
 obtain⟨oc,od,kV,doc,pm,an,cdv,ct,osl,rfl,lk,hcd⟩:=F.ex
 refine fn_of lk hcd S len λA outer s H vs Q E hr hsp=>?_
 obtain⟨t,h,q⟩:=hbody cdv A outer s H vs Q E hr hsp
 exact⟨t,h.nox,q⟩
def Fun.binds{qual:Str}(F:Fun K x qual st f fd)
  (h:∀(kV doc pm:Value) (an:Option Addr) (cdv ct:Value) (us:List Value),us.length=ps.length->bindArgs (PySem.W.fnOf x qual (yX st) (jE st) (jB st) .none kV doc pm an cdv ct) ⟨us,[]⟩=pure (ps.zip us)):Binds K fd ps []:=by
 obtain⟨oc,od,kV,doc,pm,an,cdv,ct,osl,rfl,lk,hcd⟩:=F.ex
 exact .all (h kV doc pm an cdv ct)
def kZ{x qual:Str}{st:Stmt}{f:Addr}{oc:Value}{od an:Option Addr}{osl:Array (Option Value)}{kV doc pm cdv ct:Value}(l:K.lookup f=some ⟨oc,od,.func (PySem.W.fnOf x qual (yX st) (jE st) (jB st) .none kV doc pm an cdv ct),osl⟩)
  (c:PySem.W.codeIn K cdv qual=true) (k:keepIn K (.ref f)=true):Fun K x qual st f (PySem.W.fnOf x qual (yX st) (jE st) (jB st) .none kV doc pm an cdv ct):=⟨⟨oc,od,kV,doc,pm,an,cdv,ct,osl,rfl,l,c⟩,k⟩
end
theorem hu_of{A:Around}{k:Nat}(hr:Room k A):A.units+1<cLine:=gU (Nat.add_le_add_left (by decide:1<=64) _) hr.units
variable {X:Cx}
theorem pv(i:Nat){pos:Pos}(hN:X.N[i]?=some x:=by rfl)(hv:Vis X.env.scope x:=by first|exact Or.inl rfl|exact Or.inr (Or.inl rfl)|exact Or.inr (Or.inr rfl))(hd:(x==("__debug__":Str))=false:=by decide)
  (hcd:(x==("__classdict__":Str))=false:=by decide):PE X (.Name x pos) (tVar i):=jPC hN hv hd hcd
def iteF(h:B):if false=true then A else B:=by
 rw[aj aq]
 exact h
def iteT(h:A):if true=true then A else B:=by
 rw[ai rfl]
 exact h
def ite2 [Decidable c](h1:c->A)(h2:¬c->B):if c then A else B:=by
 by_cases h:c
 .rw[ai h]
  exact h1 h
 .rw[aj h]
  exact h2 h
theorem iteNS [Decidable c](hc:c)(h:B):if (!decide c)=true then A else B:=by
 rw[ax hc]
 exact iteF h
def kB(cells:List (Str×Addr)):List (Str×NameKind)->List (Str×Addr)->List (Str×Addr)
 |[],acc=>acc
 | (n,k)::r,acc=>if k=.free then kB cells r ((n,(cells.lookup n).getD 0)::acc) else kB cells r acc
def jCL:∀(l:List (Str×NameKind)) (acc:List (Str×Addr)),(∀y∈l,y.2=.free->∃c,env.cells.lookup y.1=some c)->
  (forIn l acc λ(x:Str×NameKind) (cs:List (Str×Addr))=>(if (x.2==NameKind.free)=true then (do let a <- cellOf env x.1;pure (ForInStep.yield ((x.1,a)::cs))) else pure (ForInStep.yield cs):Sem (ForInStep (List (Str×Addr)))))=pure (kB env.cells l acc)
 |[],acc,_=>rfl
 | (n,k)::r,acc,h=>by
  have hr:∀y∈r,y.2=.free->∃c,env.cells.lookup y.1=some c:=λy hy=>h y (av _ hy)
  rw[gz]
  by_cases hk:k=.free
  .subst hk
   obtain⟨c,hc⟩:=h (n,.free) au rfl
   have e:cellOf env n=pure c:=by unfold cellOf;rw[hc]
   have e2:kB env.cells ((n,NameKind.free)::r) acc=kB env.cells r ((n,c)::acc):=by
    show (if NameKind.free=NameKind.free then kB env.cells r ((n,(env.cells.lookup n).getD 0)::acc) else _)=_
    rw[ai rfl,hc];rfl
   rw[e2,<- jCL r ((n,c)::acc) hr]
   show ((do let a <- cellOf env n;pure (ForInStep.yield ((n,a)::acc))) >>= _)=_
   rw[e];rfl
  .have hb:(k==NameKind.free)=false:=by cases k<;>first|rfl|exact absurd rfl hk
   have e2:kB env.cells ((n,k)::r) acc=kB env.cells r acc:=by
    show (if k=NameKind.free then _ else kB env.cells r acc)=_
    rw[aj hk]
   rw[e2,<- jCL r acc hr]
   show ((if (k==NameKind.free)=true then _ else pure (ForInStep.yield acc)) >>= _)=_
   rw[hb];rfl
def jHS(h:∀y∈sc.names,y.2=.free->∃c,env.cells.lookup y.1=some c):closureFor sc env=pure (kB env.cells sc.names []):=by
 unfold closureFor
 show (forIn sc.names [] _ >>= λcs=>pure cs)=_
 rw[show (forIn sc.names ([]:List (Str×Addr)) _:Sem _)=_ from jCL sc.names [] h]
 rfl
def jAG{cells:List (Str×Addr)}:∀(l:List (Str×NameKind)) (acc:List (Str×Addr)),(∀y∈l,y.2=.free->∃c,cells.lookup y.1=some c)->
  (∀x c,acc.lookup x=some c->cells.lookup x=some c)->∀x c,(kB cells l acc).lookup x=some c->cells.lookup x=some c
 |[],acc,_,ha=>ha
 | (n,k)::r,acc,h,ha=>by
  have hr:∀y∈r,y.2=.free->∃c,cells.lookup y.1=some c:=λy hy=>h y (av _ hy)
  unfold kB
  by_cases hk:k=.free
  .rw[ai hk]
   obtain⟨c0,hc⟩:=h (n,k) au hk
   refine jAG r _ hr λx c e=>?_
   rw[aU] at e
   cases hx:x==n with
   |true=>
    rw[hx] at e
    have exn:x=n:=eq_of_beq hx
    subst exn
    have hc':cells.lookup x=some c0:=hc
    rw[hc'] at e ⊢
    exact e
   |false=>rw[hx] at e;exact ha x c e
  .rw[aj hk];exact jAG r acc hr ha
def jA8{cells:List (Str×Addr)}{x:Str}:∀(l:List (Str×NameKind)) (acc:List (Str×Addr)),((x,NameKind.free)∈l\/∃c,acc.lookup x=some c)->∃c,(kB cells l acc).lookup x=some c
 |[],acc,h=>by
  rcases h with h|h
  .cases h
  .exact h
 | (n,k)::r,acc,h=>by
  unfold kB
  by_cases hk:k=.free
  .rw[ai hk]
   refine jA8 r _ ?_
   by_cases e:x=n
   .subst e
    exact .inr ⟨_,by rw[aU,fY]⟩
   .rcases h with h|⟨c,h⟩
    .rcases ay.mp h with q|q
     .cases q;exact absurd rfl e
     .exact .inl q
    .refine .inr ⟨c,?_⟩
     rw[aU,cD.mpr e]
     exact h
  .rw[aj hk]
   refine jA8 r _ ?_
   rcases h with h|h
   .rcases ay.mp h with q|q
    .cases q;exact absurd rfl hk
    .exact .inl q
   .exact .inr h
def jA5{k:NameKind}:∀{l:List (Str×NameKind)},l.lookup x=some k->(x,k)∈l
 |[],h=>by cases h
 | (n,k')::r,h=>by
  rw[aU] at h
  cases hx:x==n with
  |true=>rw[hx] at h;cases h;rw[eq_of_beq hx];exact au
  |false=>rw[hx] at h;exact av _ (jA5 h)
def jCC{env:Env}{x:Str}{k:NameKind}(hk:k=.cell\/k=.free):∀{l:List (Str×NameKind)},(∀y∈l,y.2≠.cell)->
  (l.map λ(n,k)=>if (k==NameKind.free&&env.scope.kind==.function&&env.kindOf n==some .cell) then (n,NameKind.cell) else (n,k)).lookup x=some k->l.lookup x=some .free
 |[],_,h=>by simp at h
 | (n,k')::r,hc,h=>by
  have ih:= @jCC env x k hk r (λy hy=>hc y (av _ hy))
  have hc0:k'≠.cell:=hc (n,k') au
  rw[aU]
  rw[aP] at h
  dsimp only at h
  by_cases hb:(k'==NameKind.free&&env.scope.kind==.function&&env.kindOf n==some .cell)=true
  .rw[ai hb,aU] at h
   cases hx:x==n with
   |true=>
    have:k'=.free:=by
     simp only[ba] at hb
     exact eq_of_beq hb.1.1
    rw[this]
   |false=>rw[hx] at h;exact ih h
  .rw[aj hb,aU] at h
   cases hx:x==n with
   |true=>
    rw[hx] at h
    have e:k'=k:=bj h
    rcases hk with q|q
    .exact absurd (e.trans q) hc0
    .rw[e,q]
   |false=>rw[hx] at h;exact ih h
def jAF{env:Env}{x:Str}:∀{l:List (Str×NameKind)},l.lookup x=some .free->
  (l.map λ(n,k)=>if (k==NameKind.free&&env.scope.kind==.function&&env.kindOf n==some .cell) then (n,NameKind.cell) else (n,k)).lookup x=some .cell\/
  (l.map λ(n,k)=>if (k==NameKind.free&&env.scope.kind==.function&&env.kindOf n==some .cell) then (n,NameKind.cell) else (n,k)).lookup x=some .free
 |[],h=>by cases h
 | (n,k')::r,h=>by
  have ih:= @jAF env x r
  rw[aU] at h
  rw[aP]
  dsimp only
  by_cases hb:(k'==NameKind.free&&env.scope.kind==.function&&env.kindOf n==some .cell)=true
  .rw[ai hb,aU]
   cases hx:x==n with
   |true=>exact .inl rfl
   |false=>rw[hx] at h;exact ih h
  .rw[aj hb,aU]
   cases hx:x==n with
   |true=>rw[hx] at h;exact .inr h
   |false=>rw[hx] at h;exact ih h
section
variable {prog:Program}{A:Around}{R:Result->Shared->Prop}{s:Shared}
abbrev jKA(ifs:List Expr)(env:Env):Sem Bool:=forIn ifs true λc r=>if r=true then do let ok <- isTrue c env (eval c env);pure (ForInStep.yield ok) else pure (ForInStep.yield r)
def jEA{elt tg iter:Expr}{ifs:List Expr}{pos:Pos}{it acc:Value}(J:Nat->Shared->Prop)
  (turn:∀n z,J n z->wpAny (model prog w) A (pyNext it) (λr z1=>match r with
   |none=>R (.ok .next) z1
   |some v=>wpAny (model prog w) A (letOwnedTupleGo tg it v) (λ_ z2=>wpAny (model prog w) A (assign tg env v) (λ_ z3=>wpAny (model prog w) A (jKA ifs env) (λok z4=>
     if ok=true then wpAny (model prog w) A (eval elt env) (λx z5=>wpAny (model prog w) A (call (.builtin "list.append") [acc,x]) (λ_ z6=>∃k,k<n/\J k z6) (λ_ _=>False) z5) (λ_ _=>False) z4
     else ∃k,k<n/\J k z4) (λ_ _=>False) z3) (λ_ _=>False) z2) (λ_ _=>False) z1) (λ_ _=>False) z)
  (n:Nat) (h:J n s):codeAny (model prog w) A (.compLoop (.ListComp elt [⟨tg,iter,ifs,0⟩] sc pos) 0 it acc env) R s:=by
 refine codeAny_loop rfl J (λk z hJ=>?_) n h
 have noE:∀{α:Type}{t:Sem α}{Q:α->Shared->Prop}{E:Value->Shared->Prop}{z:Shared},wpAny (model prog w) A t Q (λ_ _=>False) z->wpAny (model prog w) A t Q E z:=
  λq=>cn q (λ_ _ a=>a) λ_ _ f=>f.elim
 show wpAny _ A ((compTurn (.ListComp elt [⟨tg,iter,ifs,0⟩] sc pos) 0 it acc env).onRaise (λx=>do noteFrame x env;theTreesLotGoes x)) _ _ z
 refine wpAny_noted ?_
 rw[compTurn_list]
 refine ab (iu (ab (cn (turn k z hJ) (λr z1 q1=>?_) λ_ _ f=>f.elim)))
 cases r with
 |none=>exact ah q1
 |some v=>
  refine ab (cn q1 (λ_ z2 q2=>?_) λ_ _ f=>f.elim)
  refine ab (cn q2 (λ_ z3 q3=>?_) λ_ _ f=>f.elim)
  refine ab (cn q3 (λok z4 q4=>?_) λ_ _ f=>f.elim)
  cases ok with
  |false=>exact ah ⟨rfl,q4⟩
  |true=>
   refine ab (ab (cn q4 (λx z5 q5=>?_) λ_ _ f=>f.elim))
   exact ab (cn q5 (λ_ z6 q6=>ah (ah ⟨rfl,q6⟩)) λ_ _ f=>f.elim)
end
noncomputable def blk(X:Cx)(sc:Scope)(cl:List (Str×Addr))(C:Addr)(Nc:List Str)(fp:List Addr)(s:Shared)(H:Hp):Cx where
 prog:=X.prog
 w:=X.w
 K:=X.K
 mg:=X.mg
 base:=X.base
 A:=X.A
 N:=Nc
 s₀:=s
 H₀:=H
 env:=compEnvC sc cl C X.env
 outer:=X.stack
 stack:=X.stack
 ex:=fp
 fn:=λ_=>false
 calm:=X.calm
 pn:=[]
 xe:=λ_ _=>False
def blkσ(m:List (Option Nat))(σ:St):St:=m.map λo=>match o with
 |none=>none
 |some i=>(σ[i]?).getD none
def PTs(X:Cx)(ifs:List Expr)(t:TT):Prop:=
 ∀(ad:List (Addr×Obj)) (s:Shared) (σ:St) (H:Hp) (Q:Bool->Hp->Prop),Inv X ad σ H s->t σ H Q->wpAny (model X.prog X.w) X.A (jKA ifs X.env) (TP X ad σ Q) X.xe s
def yH:TT:=λ_ H Q=>Q true H
def jKR:PTs X [] yH:=λ_ _ _ H _ I h=>wpAny_tests_nil ⟨H,I,h⟩
def jKQ{c:Expr}{t:TT}(h:PT X c t):PTs X [c] t:=λad s σ H Q I q=>wpAny_tests_one (h ad s σ H Q I q)
def qJ(m:List (Option Nat))(g:TG)(tt:TT)(te:TE)(σ:St)(Q:VK)(J:It)(H1:Hp):Prop:=∀D,H1 D=none->∃W:Nat->Nat->St->Hp->List V->Prop,
  (∃n,W 0 n (blkσ m σ) (upd H1 D (.lst [])) [])/\∀i n σ' H' ys,W i n σ' H' ys->H' D=some (.lst ys)/\ys.length<sizeLine/\
   ((J.stop i H'/\Q (.ref D) H')\/(J.go i H'/\∃N:St->Hp->List V->Prop,(∀σ2 H2 zs,N σ2 H2 zs->∃n',n'<n/\W (i+1) n' σ2 H2 zs)/\∀x H'',J.yld i H' x H''->g x σ' H'' λσ2 H2=>tt σ2 H2 λb H3=>
    if b=true then te σ2 H3 λv H4=>H4 D=some (.lst ys)/\N σ2 (upd H4 D (.lst (ys++[v]))) (ys++[v])
    else N σ2 H3 ys))
def tComp(m:List (Option Nat))(wi:TI)(g:TG)(tt:TT)(te:TE):TE:=λσ H Q=>wi σ H (qJ m g tt te σ Q)
def Un.sameBut{fs ex:List Addr}{H H':Hp}{h:Heap}(u:Un fs ex H H' h h1)(sb:Heap.SameBut C h1 h2)(hC:h.objs.size<=C):Un fs ex H H' h h2:=by
 have ne:∀{b:Addr}{o:Obj},h.get? b=some o->b≠C:=λe=>aS (aR (aw e) hC)
 refine⟨λb o e n hf hx=>(sb.2 b (ne e)).trans (u.keep b o e n hf hx),λb o e n hf hx=>?_,u.free,λb o e hx=>?_,u.tups,u.frzs,u.tbls⟩
 .obtain⟨sl,q⟩:=u.slot b o e n hf hx
  exact⟨sl,(sb.2 b (ne e)).trans q⟩
 .obtain⟨o',q⟩:=u.there b o e hx
  exact⟨o',(sb.2 b (ne e)).trans q⟩
def HOk.sameBut{P:Program}{H:Hp}(x:HOk P w H h1)(sb:Heap.SameBut C h1 h2)(hC:H C=none):HOk P w H h2:=λa o e=>
 (x a o e).stay (λb u hb q=>(sb.2 b (by
  rintro rfl
  rcases hb with rfl|hb
  .rw[hC] at e;cases e
  .rw[hC] at hb;cases hb)).trans q) (λ_ q=>q) λ_ _ q=>q
variable {g:TG}{tt:TT}{te:TE}{m:List (Option Nat)}
section
variable {tg iter elt:Expr}{ifs:List Expr}{sc:Scope}{pos:Pos}{wi:TI}{Nc:List Str}
def qX(X:Cx)(sc:Scope)(Nc:List Str)(m:List (Option Nat)):Prop:=
 m.length=Nc.length/\∀(k i:Nat),m[k]?=some (some i)->∃x,Nc[k]?=some x/\X.N[i]?=some x/\sc.names.lookup x=some .free
abbrev Fq(X:Cx)(sc:Scope):Prop:=∀y∈sc.names,y.2=.free->X.env.scope.names.lookup y.1=some .cell\/X.env.scope.names.lookup y.1=some .free
def jMW{ad:List (Addr×Obj)}{s:Shared}{σ:St}{H:Hp}{fp:List Addr}(I:Inv X ad σ H s)(hkind:sc.kind=.function)(hcell:∀y∈sc.names,y.2≠.cell)
  (hfree:Fq X sc) (hm:qX X sc Nc m) (hfp:∀b∈fp,FpOk X ad H b) (hlt:∀b∈fp,b<s.heap.objs.size)
  {h1:Heap}{tk:Nat}{md:Str->Option Value}(hns:h1.Ns s.heap.objs.size md) (old:∀b o,s.heap.get? b=some o->h1.get? b=some o):
  Inv (blk X sc (kB X.env.cells sc.names []) s.heap.objs.size Nc fp s H) [] (blkσ m σ) H {s with heap:=h1,toks:=tk}:=by
 have hcl:∀y∈sc.names,y.2=.free->∃c,X.env.cells.lookup y.1=some c:=λy hy hf=>I.ok.has y.1 (hfree y hy hf)
 have sub:∀x c,(kB X.env.cells sc.names []).lookup x=some c->X.env.cells.lookup x=some c:=jAG sc.names [] hcl (λx c e=>by cases e)
 have isfree:∀x,(compEnvC sc (kB X.env.cells sc.names []) s.heap.objs.size X.env).kindOf x=some .cell\/(compEnvC sc (kB X.env.cells sc.names []) s.heap.objs.size X.env).kindOf x=some .free->sc.names.lookup x=some .free:=λx h=>by
  rcases h with h|h
  .exact jCC (.inl rfl) hcell h
  .exact jCC (.inr rfl) hcell h
 refine⟨⟨I.ok.mod,hkind,I.ok.glob,I.ok.blt,ak _,λx y c h1 h2=>I.ok.inj x y c (sub x c h1) (sub y c h2),λx hx=>?_,λx c hf _=>?_,I.ok.hd,I.ok.frames,.inl rfl,λb hb=>?_,I.bs,aY I.ok.bsz I.sz,λb o e hb=>?_,λb hb hz=>?_,I.stack,I.stkFree⟩,
  rfl,I.bare,Un.kept old,⟨md,hns,λk x v e1 e2 e3=>?_⟩,λx c e=>?_,I.hok.fresh (ak _),λx c e=>I.freeC x c (sub x c e),λp hp=>absurd (show p∈([]:List (Addr×Obj)) from hp) (by simp),I.hok.kept old,?_⟩
 .exact jA8 sc.names [] (.inl (jA5 (isfree x hx)))
 .exact absurd (show false=true from hf) aq
 .obtain⟨f0,f1,f2,f3,f4,f5⟩:=hfp b hb
  exact⟨aS (hlt b hb),λx c e=>f4 x c (sub x c e)⟩
 .obtain⟨f0,f1,f2,f3,f4,f5⟩:=hfp b hb
  rcases f3 with q|q
  .exact I.ok.noex b o e q
  .exact absurd (aR (aw (I.ok.bs b o e).1) q) (cf _)
 .obtain⟨f0,f1,f2,f3,f4,f5⟩:=hfp b hb
  rcases ay.mp (I.stkSub b hz) with q|q
  .exact f1 q
  .exact f2 q
 .have e2':∃i,m[k]?=some (some i)/\σ[i]?=some (some v):=by
   unfold blkσ at e2
   rw[aO] at e2
   cases q:m[k]? with
   |none=>rw[q] at e2;cases e2
   |some o=>
    rw[q] at e2
    cases o with
    |none=>cases e2
    |some i=>
     refine⟨i,rfl,?_⟩
     have e2:(σ[i]?).getD none=some v:=bj e2
     cases r:σ[i]? with
     |none=>rw[r] at e2;cases e2
     |some z=>rw[r] at e2;exact bB some e2
  obtain⟨i,q1,q2⟩:=e2'
  obtain⟨x',a1,a2,a3⟩:=hm.2 k i q1
  have e1':Nc[k]?=some x:=e1
  rw[e1'] at a1
  cases a1
  have vis:=hfree (x,.free) (jA5 a3) rfl
  obtain⟨m0,hn0,hl0⟩:=I.loc
  obtain⟨u,r,l⟩:=hl0 i x v a2 q2 (.inr vis)
  refine⟨u,r,.inr ⟨jAF a3,?_⟩⟩
  obtain⟨c,hc⟩:=jA8 (cells:=X.env.cells) (x:=x) sc.names [] (.inl (jA5 a3))
  rcases l with ⟨lk,_⟩|⟨_,c',hc',o,ho,hd⟩
  .have lk':X.env.scope.names.lookup x=some .local:=lk
   rcases vis with z|z
   .rw[lk'] at z;cases z
   .rw[lk'] at z;cases z
  .have:=sub x c hc
   rw[hc'] at this
   cases this
   exact⟨c,hc,o,old _ _ ho,hd⟩
 .obtain⟨v,o,ho,hd⟩:=I.cell x c (sub x c e)
  exact⟨v,o,old _ _ ho,hd⟩
 .show (blkσ m σ).length=Nc.length
  unfold blkσ
  rw[aa]
  exact hm.1
def jJ4{tf:St->TE}(hc:X.calm=true)(hi:PI X tg iter wi)(hkind:sc.kind=.function)(hcell:∀y∈sc.names,y.2≠.cell)(hnames:∀y∈sc.names,y.2=.local->sc.names.lookup y.1=some .local)
  (hfree:Fq X sc) (hm:qX X sc Nc m)
  (hg:∀cl C fp s H,PG (blk X sc cl C Nc fp s H) tg g) (ht:∀cl C fp s H,PTs (blk X sc cl C Nc fp s H) ifs tt) (he:∀cl C fp s H ad σ,Inv X ad σ H s->(∀b∈fp,FpOk X ad H b)->PE (blk X sc cl C Nc fp s H) elt (tf σ))
  (hs:∀x,foldedSetIterable iter X.env x=pure x) {fpos:Pos}{use:Option (Value->Sem Unit)}{R:Value->Shared->Prop}{ad:List (Addr×Obj)}{s:Shared}{σ:St}{H:Hp}{Q:VK}(I:Inv X ad σ H s) (h:tComp m wi g tt (tf σ) σ H Q)
  (fin:∀(D C:Addr) (H5:Hp) (z1:Shared) (r:Flow),(∃mm,z1.heap.Ns C mm)->FpOk X ad H5 C->(∀h',Heap.SameBut C z1.heap h'->Inv X ad σ H5 {z1 with heap:=h'})->Q (.ref D) H5->compPost (model X.prog X.w) X.A X.xe use R (.ref D) C (.ok r) z1):
  wpAny (model X.prog X.w) X.A (comprehension (.ListComp elt [⟨tg,iter,ifs,0⟩] sc pos) sc X.env fpos (newList []) false (eval iter X.env) use) R X.xe s:=by
 have hcl:∀y∈sc.names,y.2=.free->∃c,X.env.cells.lookup y.1=some c:=λy hy hf=>I.ok.has y.1 (hfree y hy hf)
 refine ix (use:=use) rfl hs (jHS hcl) hkind hnames (ln (hi ad s σ H _ I h) λv s1 h1=>ln h1 λitv s2 h2=>?_)
 obtain⟨it,fp,tn,J,H2,e,I2,T,st2,f2,hQ⟩:=h2
 subst e
 have hlt:∀b∈fp,b<s2.heap.objs.size:=λb hb=>by
  obtain⟨o,e,_⟩:=T.obj 0 _ st2 b hb
  exact aw e
 refine bU (wpAny_newFunctionEnv hcell (by intro y hy;simp at hy) (λh₁ hns₁ hsb₁=>?_) hkind)
 have I3:Inv X ad σ (upd H2 s2.heap.objs.size (.lst [])) {s2 with heap:=s2.heap.push {cls:=.type "list",data:=.seq ([]:List Value).toArray}}:=I2.lnew (t':=s2.toks) .nil (bb _)
 obtain⟨W,⟨n0,w0⟩,turn⟩:=hQ s2.heap.objs.size I2.fresh
 have hD3:∀b∈fp,b≠s2.heap.objs.size:=λb hb=>aS (hlt b hb)
 have f3:∀b∈fp,FpOk X ad (upd H2 s2.heap.objs.size (.lst [])) b:=λb hb=>by
  obtain⟨a0,a1⟩:=f2 b hb
  exact⟨by rw[j7 (hD3 b hb)];exact a0,a1⟩
 generalize hE:({s2 with heap:=s2.heap.push {cls:=.type "list",data:=.seq ([]:List Value).toArray}}:Shared)=s3 at I3 hns₁ hsb₁ ⊢
 generalize hH3:upd H2 s2.heap.objs.size (.lst [])=H3 at I3 f3 w0
 have hsz3:s3.heap.objs.size=s2.heap.objs.size+1:=by rw[<- hE];exact bM _ _
 have old:∀b o,s3.heap.get? b=some o->h₁.get? b=some o:=λb o e=>hsb₁.extBut b o (aS (aw e)) (ae _ e)
 have old2:∀b o,s2.heap.get? b=some o->h₁.get? b=some o:=λb o e=>old b o (by rw[<- hE];exact ae _ e)
 have I4:=jMW (fp:=fp) (tk:=s3.toks+([]:List (Str×Value)).length) I3 hkind hcell hfree hm f3 (λb hb=>show b<s3.heap.objs.size by rw[hsz3];exact bw (hlt b hb)) hns₁ old
 have st4:tn 0 h₁:=T.keep _ _ _ st2 λb hb o e=>old2 b o e
 have loop:codeAny (model X.prog X.w) X.A (.compLoop (.ListComp elt [⟨tg,iter,ifs,0⟩] sc pos) 0 (.ref it) (.ref s2.heap.objs.size) (compEnvC sc (kB X.env.cells sc.names []) s3.heap.objs.size X.env))
   (compPost (model X.prog X.w) X.A X.xe use R (.ref s2.heap.objs.size) s3.heap.objs.size) {s3 with heap:=h₁,toks:=s3.toks+([]:List (Str×Value)).length}:=by
  generalize hX:blk X sc (kB X.env.cells sc.names []) s3.heap.objs.size Nc fp s3 H3=Xb at I4
  have eP:Xb.prog=X.prog:=by rw[<- hX];rfl
  have ew:Xb.w=X.w:=by rw[<- hX];rfl
  have eK:Xb.K=X.K:=by rw[<- hX];rfl
  have eA:Xb.A=X.A:=by rw[<- hX];rfl
  have ec:Xb.calm=true:=by rw[<- hX];exact hc
  have ee:Xb.env=compEnvC sc (kB X.env.cells sc.names []) s3.heap.objs.size X.env:=by rw[<- hX];rfl
  have ex:Xb.xe=λ_ _=>False:=by rw[<- hX];rfl
  have hgb:PG Xb tg g:=by rw[<- hX];exact hg _ _ _ _ _
  have htb:PTs Xb ifs tt:=by rw[<- hX];exact ht _ _ _ _ _
  have heb:PE Xb elt (tf σ):=by rw[<- hX];exact he _ _ _ _ _ _ _ I3 f3
  have stat:∀{H':Hp},(∀b∈fp,H' b=none)->∀b∈fp,FpOk Xb [] H' b:=λ{H'} hn b hb=>by
   obtain⟨o,eo,_⟩:=T.obj _ _ st4 b hb
   have q:=I4.ok.exf b (by rw[<- hX];exact hb)
   exact⟨hn b hb,q.1,I4.ok.exfs b (by rw[<- hX];exact hb),.inl (by rw[<- hX];exact hb),q.2,λp hp=>absurd hp (by rw[<- hX];simp[blk])⟩
  have fr4:∀b∈fp,H3 b=none:=λb hb=>(f3 b hb).1
  unfold PG at hgb
  unfold PTs at htb
  unfold PE at heb
  rw[eP,ew,eA,ee,ex] at hgb htb heb
  refine jEA (λn z=>∃i σ' H' ys,Inv Xb [] σ' H' z/\tn i z.heap/\(∀b∈fp,H' b=none)/\W i n σ' H' ys) ?_ n0 ⟨0,_,H3,[],I4,st4,fr4,w0⟩
  rintro n z ⟨i,σ5,H5,ys,I5,st5,fr5,w5⟩
  obtain⟨hD,hlen,way⟩:=turn i n σ5 H5 ys w5
  rcases way with ⟨stop,q⟩|⟨go,N,hN,step⟩
  .have RR:=T.done Xb eP ew eK ec i [] z σ5 H5 (λ_ _=>False) I5 (stat fr5) st5 stop
   rw[eA] at RR
   refine ln RR λr z1 ⟨hr,I6⟩=>?_
   subst hr
   obtain⟨mm,hn6,_⟩:=I6.loc
   rw[ee] at hn6
   have u6:Un (frs X.stack) fp H3 H5 s3.heap z1.heap:=by
    have:=I6.base
    rw[<- hX] at this
    exact this
   have fC:H5 s3.heap.objs.size=none:=by
    have:=I6.free
    rw[ee] at this
    exact this
   have hok6:HOk X.prog X.w H5 z1.heap:=by
    have:=I6.hok
    rw[eP,ew] at this
    exact this
   have os6:z1.os=s3.os:=by
    have:=I6.os
    rw[<- hX] at this
    exact this
   refine fin s2.heap.objs.size s3.heap.objs.size H5 z1 .next ⟨mm,hn6⟩ (I3.fpOk (ak _) fC) (λh' sb=>?_) q
   refine I3.call' (s':= {z1 with heap:=h'}) (ch:=fp) os6 (u6.sameBut sb (ak _)) (hok6.sameBut sb fC) I6.bare (λb hb=>?_)
   obtain⟨a0,a1,a2,a3,a4,a5⟩:=f3 b hb
   exact⟨a3,a1,a4,a5⟩
  .have RR:=T.item Xb eP ew eK ec i [] z σ5 H5 (λ_ _=>False) I5 (stat fr5) st5 go
   rw[eA] at RR
   refine ln RR λr z1 ⟨u,hr,h6⟩=>?_
   subst hr
   refine ln h6 λ_ z2 ⟨x,H7,I7,r7,y7,st7,fr7⟩=>?_
   have I7':=I7.pinned (stat fr7) (T.obj _ _ st7)
   refine ln (hgb _ z2 σ5 H7 x u _ I7' r7 (step x H7 y7)) λ_ z3 ⟨σ8,H8,I8,q8⟩=>?_
   refine ln (htb _ z3 σ8 H8 _ I8 q8) λok z4 ⟨H9,I9,q9⟩=>?_
   have again:∀{σ7:St}{Hz:Hp}{zz:Shared}{yy:List V}{n':Nat},Inv Xb ([]++jE3 fp z2.heap) σ7 Hz zz->n'<n->W (i+1) n' σ7 Hz yy->∃k,k<n/\∃i σ' H' ys,Inv Xb [] σ' H' zz/\tn i zz.heap/\(∀b∈fp,H' b=none)/\W i k σ' H' ys:=λ{σ7 Hz zz yy n'} Iz hn wz=>by
    refine⟨n',hn,i+1,σ7,Hz,yy,Iz.unpinned,T.keep _ _ _ st7 λb hb o e=>(Iz.pin (b,o) (am _ (am _ (jAE hb e)))).1,λb hb=>?_,wz⟩
    obtain⟨o,e,d⟩:=T.obj _ _ st7 b hb
    exact(Iz.pin (b,o) (am _ (am _ (jAE hb e)))).2.1
   cases ok with
   |false=>
    obtain⟨n',hn,w9⟩:=hN _ _ _ (show N σ8 H9 ys from q9)
    exact again I9 hn w9
   |true=>
    refine ln (heb _ z4 σ8 H9 _ I9 q9) λxv z5 ⟨vv,H10,I10,r10,hD10,n10⟩=>?_
    obtain⟨n',hn,w10⟩:=hN _ _ _ n10
    have RR:=jAJ (X:=Xb) _ z5 σ8 H10 (.ref s2.heap.objs.size) [vv] (.ref s2.heap.objs.size) [xv] (λ_ H'=>H'=upd H10 s2.heap.objs.size (.lst (ys++[vv]))) I10 rfl (.cons r10 .nil) ⟨_,ys,vv,rfl,rfl,hD10,hlen,rfl⟩
    rw[eP,ew,eA,ex] at RR
    refine ln RR λ_ z6 ⟨_,H11,I11,_,e11⟩=>?_
    subst e11
    exact again I11 hn w10
 exact codeAny_compStart_list loop (T.self _ 0 _ _ _ st4 loop)
def jH7(hc:X.calm=true)(hi:PI X tg iter wi)(hkind:sc.kind=.function)(hcell:∀y∈sc.names,y.2≠.cell)(hnames:∀y∈sc.names,y.2=.local->sc.names.lookup y.1=some .local)
  (hfree:Fq X sc) (hm:qX X sc Nc m)
  (hg:∀cl C fp s H,PG (blk X sc cl C Nc fp s H) tg g) (ht:∀cl C fp s H,PTs (blk X sc cl C Nc fp s H) ifs tt) (he:∀cl C fp s H,PE (blk X sc cl C Nc fp s H) elt te)
  (hs:∀x,foldedSetIterable iter X.env x=pure x:=by intro _;rfl):PE X (.ListComp elt [⟨tg,iter,ifs,0⟩] sc pos) (tComp m wi g tt te):=by
 intro ad s σ H Q I h
 rw[eval_ListComp]
 exact jJ4 (tf:=λ_=>te) (use:=none) hc hi hkind hcell hnames hfree hm hg ht (λcl C fp s H _ _ _ _=>he cl C fp s H) hs I h (λD C H5 z1 r ⟨mm,hn⟩ fC sb q=>⟨mm,hn,λh' s2=>⟨.ref D,H5,sb h' s2,rfl,q⟩⟩)
end
theorem jQ{X:Cx}{sc psc:Scope}(h:(sc.names.all λy=>decide (y.2=.free->psc.names.lookup y.1=some .cell\/psc.names.lookup y.1=some .free))=true:=by decide+kernel)(e:X.env.scope=psc:=by rfl):
  ∀y∈sc.names,y.2=.free->X.env.scope.names.lookup y.1=some .cell\/X.env.scope.names.lookup y.1=some .free:=by
 rw[e]
 intro y hy
 exact aG (bF.mp h y hy)
def jM1(sc:Scope)(N Nc:List Str)(m:List (Option Nat))(k:Nat):Bool:=match m[k]? with
 |some (some i)=>match Nc[k]? with
  |some x=>decide (N[i]?=some x)&&decide (sc.names.lookup x=some .free)
  |none=>false
 |_=>true
theorem jH{X:Cx}{sc:Scope}{N Nc:List Str}{m:List (Option Nat)}(e:X.N=N)(hl:m.length=Nc.length)(h:((List.range m.length).all (jM1 sc N Nc m))=true):qX X sc Nc m:=by
 refine⟨hl,λk i hk=>?_⟩
 have hlt:k<m.length:=(aF.mp hk).1
 have q:=bF.mp h k (bq.mpr hlt)
 unfold jM1 at q
 rw[hk] at q
 cases e2:Nc[k]? with
 |none=>rw[e2] at q;cases q
 |some x=>
  rw[e2] at q
  have q:(decide (N[i]?=some x)&&decide (sc.names.lookup x=some .free))=true:=q
  rw[ba] at q
  exact⟨x,rfl,by rw[e];exact aG q.1,aG q.2⟩
section
variable {σ:St}{H1:Hp}{Q:VK}
theorem jAD{lo:Int}{n:Nat}(hn:n<sizeLine)(Pv:Addr->Nat->St->Hp->List V->Prop)(h0:∀D,H1 D=none->Pv D 0 (blkσ m σ) (upd H1 D (.lst [])) [])
  (hD:∀D i σ' H' ys,H1 D=none->i<=n->Pv D i σ' H' ys->H' D=some (.lst ys)/\ys.length<=i)
  (hs:∀D i σ' H' ys,H1 D=none->i<n->Pv D i σ' H' ys->g (.int (lo+i)) σ' H' λσ2 H2=>tt σ2 H2 λb H3=>if b=true then te σ2 H3 λv H4=>H4 D=some (.lst ys)/\Pv D (i+1) σ2 (upd H4 D (.lst (ys++[v]))) (ys++[v]) else Pv D (i+1) σ2 H3 ys)
  (hd:∀D σ' H' ys,H1 D=none->Pv D n σ' H' ys->Q (.ref D) H'):qJ m g tt te σ Q (Itr lo n) H1:=by
 intro D hDn
 refine⟨λi k σ' H' ys=>k=n-i/\i<=n/\Pv D i σ' H' ys,⟨n,rfl,bb _,h0 D hDn⟩,?_⟩
 rintro i k σ' H' ys ⟨rfl,hi,p⟩
 obtain⟨q1,q2⟩:=hD D i σ' H' ys hDn hi p
 refine⟨q1,by lia,?_⟩
 by_cases hlt:i<n
 .refine .inr ⟨hlt,Pv D (i+1),λσ2 H2 zs z=>⟨n-(i+1),by lia,rfl,hlt,z⟩,λx H'' y=>?_⟩
  obtain⟨e1,e2⟩:=y
  subst e1 e2
  exact hs D i σ' _ ys hDn hlt p
 .have e:i=n:=by lia
  subst e
  exact .inl ⟨ak _,hd D σ' H' ys hDn p⟩
end
end L2
end
namespace SS
open PySem PySem.SetTable
variable {t:SetTable}{xs:Array Nat}{α:Type}{j n i:Nat}{h:Int}{led:Bool}
abbrev Ris(xs:Array Nat):Prop:=xs.toList.Pairwise (· < ·)
def jCB(h:Ris xs){a b:Nat}(hab:a<b)(hb:b<xs.size):xs.getD a 0<xs.getD b 0:=by
 have h1:a<xs.size:=iT hab hb
 have:=cV.mp h a b (by simpa using h1) (by simpa using hb) hab
 simpa [Array.getD,h1,hb] using this
theorem jRN(hr:Ris xs):∀(fuel lo hi:Nat),hi-lo<=fuel->lo<=hi->hi<=xs.size->(∀a,a<lo->xs.getD a 0<j)->(∀a,hi<=a->a<xs.size->j<=xs.getD a 0)->
  (below.go xs j fuel lo hi<=xs.size/\(∀a,a<below.go xs j fuel lo hi->xs.getD a 0<j)/\(∀a,below.go xs j fuel lo hi<=a->a<xs.size->j<=xs.getD a 0)):=by
 intro fuel
 induction fuel with
 |zero=>
  intro lo hi h1 h2 h3 h4 h5
  have e:lo=hi:=by lia
  subst e
  exact⟨h3,h4,h5⟩
 |succ fuel ih=>
  intro lo hi h1 h2 h3 h4 h5
  unfold below.go
  by_cases hlt:lo<hi
  .rw[ai hlt]
   have hm:(lo+hi)/2<xs.size:=by lia
   have e:xs.getD ((lo+hi)/2) j=xs.getD ((lo+hi)/2) 0:=by simp[Array.getD,hm]
   dsimp only
   rw[e]
   by_cases hc:xs.getD ((lo+hi)/2) 0<j
   .rw[ai hc]
    refine ih _ _ (by lia) (by lia) h3 (λa ha=>?_) h5
    by_cases e2:a=(lo+hi)/2
    .rw[e2];exact hc
    .exact iT (jCB hr (by lia) hm) hc
   .rw[aj hc]
    refine ih _ _ (by lia) (by lia) (by lia) h4 (λa ha hs=>?_)
    by_cases e2:a=(lo+hi)/2
    .rw[e2];lia
    .have:=jCB hr (show (lo+hi)/2<a by lia) hs
     lia
  .rw[aj hlt]
   have e:lo=hi:=by lia
   subst e
   exact⟨h3,h4,h5⟩
theorem jEB(hr:Ris xs)(j:Nat):below xs j<=xs.size/\(∀a,a<below xs j->xs.getD a 0<j)/\(∀a,below xs j<=a->a<xs.size->j<=xs.getD a 0):=
 jRN hr xs.size 0 xs.size (by lia) (bb _) (ak _) (λa h=>absurd h (ev _)) (λa h1 h2=>absurd h2 (by lia))
theorem jFB(hr:Ris xs)(hi:i<=xs.size)(h1:∀a,a<i->xs.getD a 0<j)(h2:∀a,i<=a->a<xs.size->j<=xs.getD a 0):below xs j=i:=by
 obtain⟨b1,b2,b3⟩:=jEB hr j
 rcases Nat.lt_trichotomy (below xs j) i with h|h|h
 .have q1:=h1 _ h
  have q2:=b3 _ (ak _) (by lia)
  lia
 .exact h
 .have q1:=b2 _ h
  have q2:=h2 _ (ak _) (by lia)
  lia
def jAH(xs:Array α)(p:Nat)(x:α):(insertAt xs p x).toList=xs.toList.take p++x::xs.toList.drop p:=by
 unfold insertAt
 simp[eR,List.extract]
 rw[bf (by simp)]
theorem jBR(xs:Array α)(p:Nat)(x:α):(insertAt xs p x).size=xs.size+1:=by
 rw[<- aM,jAH]
 simp
 lia
theorem jJE(hr:Ris xs)(hj:j∉xs.toList):Ris (insertAt xs (below xs j) j):=by
 obtain⟨b1,b2,b3⟩:=jEB hr j
 show (insertAt xs (below xs j) j).toList.Pairwise (· < ·)
 rw[jAH,bP,gW]
 have hl:∀a∈xs.toList.take (below xs j),a<j:=by
  intro a ha
  obtain⟨i,hi,e⟩:=List.mem_take_iff_getElem.mp ha
  have:=b2 i (by lia)
  have hs:i<xs.size:=by simp at hi;lia
  simp[Array.getD,hs] at this
  simp at e
  lia
 have hg:∀a∈xs.toList.drop (below xs j),j<a:=by
  intro a ha
  obtain⟨i,hi,e⟩:=List.mem_drop_iff_getElem.mp ha
  have hs:i+below xs j<xs.size:=by simpa [ki] using hi
  have:=b3 (i+below xs j) (by lia) hs
  simp[Array.getD,hs] at this
  have e':xs[i+below xs j]=a:=by simpa [ki] using e
  have hne:a≠j:=by
   intro z
   apply hj
   rw[<- z]
   exact cw ha
  lia
 refine⟨hr.sublist (eJ _ _),⟨hg,hr.sublist (ij _ _)⟩,?_⟩
 intro a ha b hb
 rcases ay.mp hb with rfl|hb
 .exact hl a ha
 .exact iT (hl a ha) (hg b hb)
theorem jDK(hr:Ris t.place)(h:t.slot j=.empty):j∉t.place.toList:=by
 intro hm
 obtain⟨i,hi,e⟩:=cm hm
 have hs:i<t.place.size:=by simpa using hi
 have e0:t.place[i]=j:=by simpa using e
 have eb:below t.place j=i:=by
  refine jFB hr (dj hs) (λa ha=>?_) (λa h1 h2=>?_)
  .have:=jCB hr ha hs
   simp only[Array.getD,hs] at this ⊢
   simp[e0] at this ⊢
   exact this
  .by_cases e2:a=i
   .subst e2
    simp[Array.getD,hs,e0]
   .have:=jCB hr (show i<a by lia) h2
    simp only[Array.getD,hs] at this
    simp[e0] at this
    simp[Array.getD]
    lia
 unfold SetTable.slot at h
 dsimp only at h
 rw[eb] at h
 rw[ai (by simp[hs,e0])] at h
 cases h
def jHL(j:Nat):has #[] j=false:=by
 unfold has
 simp
def jIA(hd:t.dummies=#[]){f:Nat->Int}:∀(fuel:Nat) (p:Probe) (m:Met),p.dummy=none->probe.go t f h fuel p=some m->
  (∃j,m=.empty j none/\t.slot j=.empty)\/(∃j i n,m=.candidate j i n):=by
 intro fuel
 induction fuel with
 |zero=>intro p m _ e;simp[probe.go] at e
 |succ fuel ih=>
  intro p m hp e
  unfold probe.go at e
  cases hs:t.slot p.j with
  |empty=>
   rw[hs] at e
   simp only[ik] at e
   subst e
   exact .inl ⟨p.j,by rw[hp],hs⟩
  |dummy=>
   unfold SetTable.slot at hs
   dsimp only at hs
   rw[hd,jHL] at hs
   split at hs
   .cases hs
   .simp at hs
  |live i=>
   rw[hs] at e
   dsimp only at e
   split at e
   .simp only[ik] at e
    subst e
    exact .inr ⟨_,_,_,rfl⟩
   .refine ih _ _ ?_ e
    unfold advance
    split
    .exact hp
    .exact hp
def jF0(hr:Ris t.place)(hd:t.dummies=#[]){slot:Nat}{d:Bool}(e:t.freeSlot h=some (slot,d)):slot∉t.place.toList:=by
 unfold SetTable.freeSlot at e
 split at e
 .rename_i j dummy hp
  simp only[ik,Prod.mk.injEq] at e
  have hp':probe.go t (λ_=>h+1) h (10*turns t.mask) (t.probeStart h)=some (.empty j dummy):=hp
  rcases jIA hd _ _ _ (by unfold probeStart;rfl) hp' with ⟨j',em,hs⟩|⟨_,_,_,em⟩
  .cases em
   have:slot=j:=by rw[<- e.1];rfl
   rw[this]
   exact jDK hr hs
  .cases em
 .cases e
def jJD(hd:t.dummies=#[])(h:t.slot j≠.empty):(∃i,t.slot j=.live i)/\j∈t.place.toList:=by
 unfold SetTable.slot at h ⊢
 dsimp only at h ⊢
 by_cases q:(t.place[below t.place j]?==some j)=true
 .rw[ai q]
  refine⟨⟨_,rfl⟩,?_⟩
  have e:t.place[below t.place j]?=some j:=eq_of_beq q
  obtain⟨hi,e⟩:=Array.getElem?_eq_some_iff.mp e
  rw[<- e]
  exact Array.getElem_mem_toList hi
 .rw[aj q,hd,jHL] at h
  exact absurd rfl h
theorem run7(i:Nat):runEnd 7 i=i:=by unfold runEnd;rw[aj (by lia)]
theorem jKS(hm:t.mask=7)(hd:t.dummies=#[]) :∀(k fuel:Nat) (p:Probe),p.j=p.i->p.more=0->p.i<8->p.perturb<32->k<=fuel->
  probe.go t (λ_=>h+1) h fuel p=none->∀r,r<k->Nat.repeat (λi=>(i*5+1)%8) r p.i∈t.place.toList:=by
 intro k
 induction k with
 |zero=>intro fuel p _ _ _ _ _ _ r hr;lia
 |succ k ih=>
  intro fuel p h1 h2 h3 h4 h5 h6 r hr
  obtain⟨f,rfl⟩:∃f,fuel=f+1:=⟨fuel-1,by lia⟩
  unfold probe.go at h6
  by_cases he:t.slot p.j=.empty
  .rw[he] at h6;cases h6
  .obtain⟨⟨i,hl⟩,hmem⟩:=jJD hd he
   rw[hl] at h6
   dsimp only at h6
   rw[aj (by simp;lia)] at h6
   have hz:p.perturb/32=0:=by lia
   have ea:t.advance p= {p with j:=(p.i*5+1)%8,more:=0,i:=(p.i*5+1)%8,perturb:=0}:=by
    unfold advance leap
    rw[aj (by lia),hm,hz]
    simp[run7]
   rw[ea] at h6
   cases r with
   |zero=>show p.i∈_;rw[<- h1];exact hmem
   |succ r=>
    have q:=ih f _ (by rfl) (by rfl) (by show (p.i*5+1)%8<8;lia) (by show 0<32;lia) (by lia) h6 r (by lia)
    have e:∀(r i:Nat),Nat.repeat (λi=>(i*5+1)%8) (r+1) i=Nat.repeat (λi=>(i*5+1)%8) r ((i*5+1)%8):=by
     intro r
     induction r with
     |zero=>intro i;rfl
     |succ r ihr=>
      intro i
      show ((Nat.repeat _ (r+1) i)*5+1)%8=((Nat.repeat _ r ((i*5+1)%8))*5+1)%8
      rw[ihr]
    rw[e]
    exact q
theorem jN0:∀i,i<8->∀j,j<8->∃r,r<8/\Nat.repeat (λi=>(i*5+1)%8) r i=j:=by decide+kernel
theorem jEZ(hm:t.mask=7)(hd:t.dummies=#[])(hz:t.place.size<8)(h0:0<=h)(h1:h<32):∃q,t.freeSlot h=some q:=by
 unfold SetTable.freeSlot
 have hb:bits h<32:=by unfold bits;lia
 have hps:t.probeStart h= {j:=bits h%8,more:=0,i:=bits h%8,perturb:=bits h,dummy:=none}:=by
  unfold probeStart
  rw[hm]
  simp[run7]
 cases e:t.probe (λ_=>h+1) h (t.probeStart h) with
 |none=>
  exfalso
  have e':probe.go t (λ_=>h+1) h (10*turns t.mask) (t.probeStart h)=none:=e
  rw[hps] at e'
  have q:=jKS hm hd 8 _ _ (by rfl) (by rfl) (by show bits h%8<8;lia) (by exact hb) (by rw[hm];decide) e'
  have sub:List.range 8 ⊆ t.place.toList:=by
   intro j hj
   obtain⟨r,hr,er⟩:=jN0 (bits h%8) (by lia) j (bq.mp hj)
   rw[<- er]
   exact q r hr
  have:=List.Nodup.length_le_of_subset (fZ (n:=8)) sub
  simp at this
  lia
 |some m=>
  rcases jIA hd _ _ _ (by rw[hps]) (show probe.go t (λ_=>h+1) h (10*turns t.mask) (t.probeStart h)=some m from e) with ⟨j,rfl,_⟩|⟨j,i,n,rfl⟩
  .exact⟨_,rfl⟩
  .exfalso
   have nc:∀(fuel:Nat) (p:Probe) (j i:Nat) (n:Probe),probe.go t (λ_=>h+1) h fuel p≠some (.candidate j i n):=by
    intro fuel
    induction fuel with
    |zero=>intro p j i n;simp[probe.go]
    |succ f ih=>
     intro p j i n
     unfold probe.go
     cases t.slot p.j with
     |empty=>simp
     |dummy=>exact ih _ _ _ _
     |live i'=>
      dsimp only
      rw[aj (by simp;lia)]
      exact ih _ _ _ _
   exact nc _ _ _ _ _ e
structure Tab (t:SetTable)(n:Nat)(led:Bool):Prop where
 ris:Ris t.place
 sz:t.place.size=n
 dm:t.dummies=#[]
 msk:t.mask=7
 pl:t.plain=true
 ld:t.led=led
theorem Tab.fits(T:Tab t n led)(hn:n<=4):t.fits n=true:=by
 unfold SetTable.fits fill
 simp[T.sz,T.dm,T.msk]
 lia
theorem Tab.full(T:Tab t n led)(hn:n<=4):t.tooFull=false:=by
 unfold tooFull fill
 simp[T.sz,T.dm,T.msk]
 lia
def jKB(led:Bool):Tab (fresh 0 0 led) 0 led:=⟨List.Pairwise.nil,rfl,rfl,rfl,rfl,rfl⟩
theorem jJO(T:Tab t n led)(hn:n+1<=4)(es:Array (Int×Value))(he:es.size=n)(h0:0<=h)(h1:h<32)(x:Value):
  Tab (layNew t es h x).2.1 (n+1) led/\∃p,(layNew t es h x).1.toList=es.toList.take p++(h,x)::es.toList.drop p:=by
 obtain⟨⟨slot,d⟩,hf⟩:=jEZ T.msk T.dm (by rw[T.sz];lia) h0 h1
 unfold layNew
 rw[hf]
 dsimp only[SetTable.put]
 have hnm:=jF0 T.ris T.dm hf
 have T2:Tab {t with place:=insertAt t.place (below t.place slot) slot,dummies:=if has t.dummies slot then eraseAt t.dummies (below t.dummies slot) else t.dummies} (n+1) led:=by
  refine⟨jJE T.ris hnm,by rw[jBR,T.sz],?_,T.msk,T.pl,T.ld⟩
  rw[T.dm,jHL]
  rfl
 refine⟨?_,_,jAH _ _ _⟩
 unfold SetTable.orStandIn
 rw[jBR,he,T2.fits hn]
 exact T2
def jI8(xs:Array Nat):Nat->Nat
 | 0=>0
 |i+1=>xs.getD i 0+1
theorem jGO(hr:Ris xs)(hi:i<=xs.size):below xs (jI8 xs i)=i:=by
 cases i with
 |zero=>exact jFB hr (bb _) (λa h=>absurd h (ev _)) (λa _ _=>bb _)
 |succ i=>
  refine jFB hr hi (λa ha=>?_) (λa h1 h2=>?_)
  .show _<xs.getD i 0+1
   by_cases e:a=i
   .rw[e];lia
   .have:=jCB hr (show a<i by lia) (show i<xs.size by lia)
    lia
  .show xs.getD i 0+1<=_
   exact jCB hr (show i<a by lia) h2
def jJW{l:List α}(h:i<l.length):(l[i]::l.eraseIdx i).Perm l:=by
 rw[List.eraseIdx_eq_take_drop_succ]
 have e:l=l.take i++l[i]::l.drop (i+1):=by rw[<- ie h,bg]
 conv=>rhs;rw[e]
 exact ga.symm
theorem jQJ(next:Nat->Nat):∀(fuel k:Nat) (left:List α) (out:Array α),fuel=left.length->(pickOrder.go next fuel k left out).toList.Perm (out.toList++left):=by
 intro fuel
 induction fuel with
 |zero=>
  intro k left out h
  have:left=[]:=iF.mp h.symm
  subst this
  simp[pickOrder.go]
 |succ f ih=>
  intro k left out h
  have hl:next k%left.length<left.length:=Nat.mod_lt _ (by lia)
  unfold pickOrder.go
  rw[ag hl]
  dsimp only
  refine(ih _ _ _ (by rw[List.length_eraseIdx_of_lt hl];lia)).trans ?_
  rw[dM,be]
  exact cX _ (jJW hl)
def jFS(next:Nat->Nat)(xs:Array α):(pickOrder next xs).toList.Perm xs.toList:=by
 unfold pickOrder
 have:=jQJ next xs.size 0 xs.toList #[] (by simp)
 simpa using this
end SS
namespace SS
open PySem
variable {Q:Value->Shared->Prop}{α β:Type}{i:Nat}
abbrev ledW(w:World):Bool:=!(w.params.followText "set-order")
def El(e:Int×Value)(k:Int):Prop:=e.1=hashInt k/\∃t,e.2=.int k t
def jBH{F:α->β->Prop}:∀{l:List α}{r:List β},Paired F l r->∀a∈l,∃b∈r,F a b
 |_,_,.nil=>λa h=>by cases h
 |_,_,.cons f t=>λa h=>by
  rcases ay.mp h with rfl|h
  .exact⟨_,au,f⟩
  .obtain⟨b,hb,q⟩:=jBH t a h
   exact⟨b,av _ hb,q⟩
def jCT{F:α->β->Prop}:∀{l:List α}{r:List β},Paired F l r->∀b∈r,∃a∈l,F a b
 |_,_,.nil=>λa h=>by cases h
 |_,_,.cons f t=>λb h=>by
  rcases ay.mp h with rfl|h
  .exact⟨_,au,f⟩
  .obtain⟨a,ha,q⟩:=jCT t b h
   exact⟨a,av _ ha,q⟩
def jE4{F:α->β->Prop}{a:α}{b:β}(f:F a b):∀{l:List α}{r:List β}(p:Nat),Paired F l r->Paired F (l.take p++a::l.drop p) (r.take p++b::r.drop p)
 |_,_,0,q=>by simpa using Paired.cons f q
 |_,_,p+1,.nil=>by simpa using Paired.cons f .nil
 |_,_,p+1,.cons g t=>by
  simp only[List.take_succ_cons,List.drop_succ_cons,iG]
  exact .cons g (jE4 f p t)
def jQB(l:List α)(p:Nat)(x z:α):z∈l.take p++x::l.drop p↔z=x\/z∈l:=by
 conv=>rhs;rw[<- bg p l]
 simp only[az,ay]
 constructor
 .rintro (h|h|h)
  .exact .inr (.inl h)
  .exact .inl h
  .exact .inr (.inr h)
 .rintro (h|h|h)
  .exact .inr (.inl h)
  .exact .inl h
  .exact .inr (.inr h)
def jEM(l:List α)(p:Nat)(x:α):(l.take p++x::l.drop p).Perm (x::l):=by
 have h:(l.take p++x::l.drop p).Perm (x::(l.take p++l.drop p)):=ga
 rw[bg] at h
 exact h
structure SetG (w:World)(h:Heap)(a:Addr)(ks:List Int):Prop where
 ex:∃o es ep t,h.get? a=some o/\o.ExactSet/\o.data=.set es ep t/\Paired El es.toList ks/\Tab t es.size (ledW w)
 nd:ks.Nodup
 len:ks.length<=4
variable {prog:Program}{w:World}{A:Around}{E:Value->Shared->Prop}{s:Shared}{a:Addr}
section
variable {ks:List Int}{k:Int}{tk:Tok}
def elems{es:List (Int×Value)}(h:Paired El es ks):ElemsOf (intKind prog w) es:=λe he=>by
 obtain⟨k,_,h1,t,h2⟩:=jBH h e he
 rw[h2]
 exact⟨⟨k,by show Value.isInt k (.int k t)=true;simp[Value.isInt],h1⟩,rfl⟩
def SetG.at{h h':Heap}(S:SetG w h a ks)(e:∀o,h.get? a=some o->h'.get? a=some o):SetG w h' a ks:=by
 obtain⟨⟨o,es,ep,t,ho,r⟩,nd,len⟩:=S
 exact⟨⟨o,es,ep,t,e _ ho,r⟩,nd,len⟩
theorem jC2(k0:0<=k)(k1:k<32):hashInt k=k:=by
 obtain⟨n,rfl⟩:=Int.eq_ofNat_of_zero_le k0
 have e:∀n:Nat,n<32->hashInt (n:Int)=(n:Int):=by decide+kernel
 exact e n (by lia)
theorem jTY{Q:Bool->Shared->Prop}(S:SetG w s.heap a ks)(hl:ks.length+1<=4)(k0:0<=k)(k1:k<32)
  (h:∀b h' ks',Heap.SameBut a s.heap h'->SetG w h' a ks'->(∀z,z∈ks'↔z=k\/z∈ks)->ks'.length<=ks.length+1->Q b {s with heap:=h'}):
  wpAny (model prog w) A (setAddHashed a (.int k tk) (hashInt k)) Q E s:=by
 obtain⟨o,es,ep,t,ho,hex,hd,hp,T⟩:=id S.ex
 have hn:es.size=ks.length:=by rw[<- aM];exact gf hp
 have hf:=T.fits (by lia)
 have hel:ElemsOf (intKind prog w) es.toList:=elems hp
 have hb:es.size<scanBound:=by unfold scanBound;lia
 have hi:∀(j:Int) (t:Tok),Value.isInt k (.int j t)=true->j=k:=λj t e=>by simpa [Value.isInt] using e
 unfold setAddHashed setAddHashedIn
 refine cx (ab (dg ho hd hf ?_))
 dsimp only
 rw[byScan_of (knd:=intKind prog w) rfl hb hel,ai rfl]
 unfold setAddByScan
 refine ab (ab (cL (ab ?_)))
 refine wpAny_setScan_of (knd:=intKind prog w) (k:=k) (by show Value.isInt k (.int k tk)=true;simp[Value.isInt]) ho hd hf hel ?_
 have es0:s= {s with heap:=s.heap}:=by cases s;rfl
 cases hr:List.findIdx? (λe=>(intKind prog w).is k e.2) es.toList with
 |some j=>
  obtain⟨hj,hpj,_⟩:=List.findIdx?_eq_some_iff_getElem.mp hr
  obtain⟨k',hk',_,t',e'⟩:=jBH hp _ (bC hj)
  have hkk:k'=k:=hi k' t' (by rw[<- e'];exact hpj)
  subst hkk
  refine ah (ah ?_)
  rw[es0]
  exact h false s.heap ks (Heap.SameBut.refl a s.heap) S (λz=>⟨.inr,λq=>q.elim (λe=>e ▸ hk') id⟩) (by lia)
 |none=>
  have hnk:k∉ks:=λhm=>by
   obtain⟨e,he,_,t',e'⟩:=jCT hp k hm
   have q:=List.findIdx?_eq_none_iff.mp hr e he
   rw[e'] at q
   have q':Value.isInt k (.int k t')=false:=q
   simp[Value.isInt] at q'
  obtain⟨T1,p,hp1⟩:=jJO T (by lia) es rfl (h:=hashInt k) (by rw[jC2 k0 k1];exact k0) (by rw[jC2 k0 k1];exact k1) (.int k tk)
  dsimp only
  show wpAny _ A (match layNew t es (hashInt k) (Value.int k tk) with | (es,t,wasDummy,gave)=>_) _ E s
  generalize layNew t es (hashInt k) (Value.int k tk)=L at T1 hp1 ⊢
  obtain⟨es1,t1,wd,gv⟩:=L
  dsimp only at T1 hp1 ⊢
  have hp2:Paired El es1.toList (ks.take p++k::ks.drop p):=by
   rw[hp1]
   exact jE4 ⟨rfl,tk,rfl⟩ p hp
  have hz1:es1.size=es.size+1:=by
   rw[<- aM,hp1,(jEM es.toList p (hashInt k,Value.int k tk)).length_eq]
   simp
  have hlen:(ks.take p++k::ks.drop p).length=ks.length+1:=(jEM ks p k).length_eq
  have T1':Tab t1 es1.size (ledW w):=by rw[hz1];exact T1
  have hg:(s.heap.update a (Obj.putSet es1 t1)).get? a=some {o with data:=.set es1 (ep+1) t1}:=by
   have q:=dF (Obj.putSet es1 t1) ho (by rw[putSet_of es1 t1 hd];rfl)
   rw[putSet_of es1 t1 hd] at q
   exact q
  have fin:Q true {s with heap:=s.heap.update a (Obj.putSet es1 t1)}:=
   h true _ _ (gE ..) ⟨⟨_,es1,ep+1,t1,hg,hex,rfl,hp2,T1'⟩,(jEM ks p k).nodup_iff.mpr (cG.mpr ⟨hnk,S.nd⟩),by lia⟩ (λz=>jQB ks p k z) (by lia)
  have hfull:t1.tooFull=false:=T1'.full (by lia)
  refine ab (show wpAny _ A (match gv with|true=>rule "set.scan.the-table-gave-way" |false=>pure ()) _ E s from ?_)
  have hzl:es1.size<=sizeLine:=by rw[hz1,show sizeLine=2^24 from rfl];lia
  cases gv with
  |true=>
   refine cL ?_
   split
   all_goals
    refine ab (show wpAny _ A (pure true:Sem Bool) _ E s from ah ?_)
    simp only[gh]
    refine ab (wpAny_storeSet_of ho hd ?_ hzl)
    rw[hfull,eQ,aj aq]
    exact ah (ah fin)
  |false=>
   refine ah ?_
   split
   all_goals
    refine ab (show wpAny _ A (pure true:Sem Bool) _ E s from ah ?_)
    simp only[gh]
    refine ab (wpAny_storeSet_of ho hd ?_ hzl)
    rw[hfull,eQ,aj aq]
    exact ah (ah fin)
end
def jBE:entryFor table "set.update.loop" =some Builtin.«set.update.loop»:=entryFor_of_fast (by kernel_rfl)
theorem jAO:plainId "set.update.loop" =true:=by decide+kernel
variable {I:Addr}
section
variable {R:Result->Shared->Prop}{fp wr:List Addr}{n:Nat}{P:Nat->Value->Prop}{St:Nat->Shared->Prop}
theorem jN9(W:WalksS prog w A.in1 I fp wr (λa b=>b=a) n P St)(S:Addr)(hSf:S∉fp)(val:Nat->Int)(hval:∀i v,P i v->∃t,v=.int (val i) t)(hv:∀i,i<n->0<=val i/\val i<32)(hn:n<=4):
  ∀(k i:Nat) (s:Shared) (ks:List Int),n-i=k->i<=n->St i s->SetG w s.heap S ks->ks.length<=i->(∀z,z∈ks↔∃j,j<i/\val j=z)->
   (∀s' ks',Moved (S::wr) (λa b=>b=a) s s'->SetG w s'.heap S ks'->(∀z,z∈ks'↔∃j,j<n/\val j=z)->R (.ok (.ret .none)) s')->
   codeAny (model prog w) A (.builtin "set.update.loop" ⟨[.ref S,.ref I],[]⟩) R s:=by
 have hSw:S∉wr:=λh=>hSf (W.sub _ h)
 have sub1:∀b∈wr,b∈S::wr:=λb hb=>av _ hb
 intro k
 induction k with
 |zero=>
  intro i s ks hk hi hst hS hl hm hR
  obtain rfl:i=n:=by lia
  refine dh jBE ?_
  rw[cI jAO _]
  show wpAny _ A.in1 (pyNext (.ref I) >>= _) _ _ s
  refine ab (W.done s _ _ hst λs' mv=>?_)
  show wpAny _ A.in1 (ret Value.none) _ _ s'
  exact ah (hR s' ks (mv.mono sub1) (hS.at λo e=>mv.heap S o hSw e) hm)
 |succ k ih=>
  intro i s ks hk hi hst hS hl hm hR
  have hlt:i<n:=by lia
  refine dh jBE ?_
  rw[cI jAO _]
  show wpAny _ A.in1 (pyNext (.ref I) >>= _) _ _ s
  refine ab (W.item i s _ _ hlt hst λv s' hP hst' mv=>?_)
  obtain⟨t,rfl⟩:=hval i v hP
  have hS':=hS.at (h':=s'.heap) λo e=>mv.heap S o hSw e
  show wpAny _ A.in1 (holding [Value.int (val i) t] (setAdd S (.int (val i) t)) >>= _) _ _ s'
  refine ab (cx ?_)
  unfold setAdd
  refine cx (ab (wpAny_pyHash_int ?_))
  refine jTY (s:= {s' with toks:=s'.toks+1}) hS' (by lia) (hv i hlt).1 (hv i hlt).2 λb h' ks' sb hS2 hm2 hl2=>?_
  refine ah ⟨gn jAO _,ih (i+1) _ ks' (by lia) hlt (W.frame _ s' _ _ hst' (il _) λb hb o e=>?_) hS2 (by lia) (λz=>?_) λs'' ks'' mv2 hS3 hm3=>?_⟩
  .rw[sb.2 b (λh:b=S=>hSf (by rw[<- h];exact hb))]
   exact e
  .rw[hm2,hm]
   constructor
   .rintro (h|⟨j,hj,e⟩)
    .exact⟨i,by lia,h.symm⟩
    .exact⟨j,by lia,e⟩
   .rintro ⟨j,hj,e⟩
    by_cases hji:j=i
    .exact .inl (by rw[<- e,hji])
    .exact .inr ⟨j,by lia,e⟩
  .refine hR s'' ks'' (Moved.trans W.gtrans ((mv.mono sub1).then_heap (il _) λb o hb e=>?_) mv2) hS3 hm3
   rw[sb.2 b (λh:b=S=>hb (by rw[h];exact au))]
   exact e
end
section
def jR6(a:Value)
  (h:Q (.ref s.heap.objs.size) {s with heap:=s.heap.push {cls:=.type "set",dict:=none,data:=.set #[] 0 (.fresh 0 0 (ledW w))}}):
  codeAny (model prog w) A (.call (.builtin "set.__new__") ⟨[.type "set",a],[]⟩) (wants Q E) s:=by
 refine codeAny_of_tree (show wpAny _ A.in1 (do checkBuiltinCall "set.__new__" ⟨[.type "set",a],[]⟩;again (.builtin "set.__new__" ⟨[.type "set",a],[]⟩)) _ _ s from ?_)
 refine ab (wpAny_of_eq (F.newCall_set_1 a) (ah ⟨gn F.plain_set_new _,dh F.entry_set_new ?_⟩))
 rw[cI F.plain_set_new _]
 unfold Builtin.«set.__new__» Builtin.Frozenset.newClass
 have q:=sub_set_self
 obtain⟨hp,g,d,tk,os⟩:=s
 dsimp only
 wp_walk
 refine eU (ah ?_)
 dsimp only
 simp only[newObj]
 exact ab (wpAny_alloc (ah (ah h)))
set_option maxHeartbeats 3200000 in
theorem set_of_list{l:Addr}{items:Array Value}{ns:List Int}(hh:A.handled=none)(hl:s.heap.IsList l items)(hi:PyProof.Rows.IntsAre items.toList ns)
  (hn:items.size<=4) (hv:∀z∈ns,0<=z/\z<32)
  (h:∀(h':Heap) (tk:Nat) (ks:List Int),SetG w h' s.heap.objs.size ks->(∀z,z∈ks↔z∈ns)->(∀b o,s.heap.get? b=some o->h'.get? b=some o)->Q (.ref s.heap.objs.size) {s with heap:=h',toks:=tk}):
  wpAny (model prog w) A (call (.type "set") [.ref l]) Q E s:=by
 obtain⟨c,tl,hmro⟩:=F.called_set.mro
 have hmade:=F.called_set.made
 have hsub:=F.called_set.sub
 have g1:=F.called_set.notType
 have g2:=F.called_set.canCreate
 have g3:=F.typeCall_set_1 (.ref l)
 refine wpAny_call (codeAny_of_tree (show wpAny _ _ (callAny (.type "set") _) _ _ _ from ?_))
 refine ah ⟨Code.quiet_builtin _ (by decide+kernel),dh F.entry_type_call ?_⟩
 rw[Around.under_plain (weight_type_call_type "set" [.ref l] []) rfl]
 repeat (any_goals (first|assumption|wp_step))
 have hlen:items.size=ns.length:=by rw[<- aM];exact hi.length
 refine eS (jR6 (.ref l) (E:=E) (Q:=λobj z=>obj=.ref s.heap.objs.size/\z= {s with heap:=s.heap.push {cls:=.type "set",dict:=none,data:=.set #[] 0 (.fresh 0 0 (ledW w))}}) ⟨rfl,rfl⟩) λr z hr=>?_
 cases r with
 |error e=>exact hr
 |ok fl=>
  cases fl with
  |ret obj=>
   obtain⟨rfl,rfl⟩:=hr
   generalize hO:({cls:=.type "set",dict:=none,data:=.set #[] 0 (.fresh 0 0 (ledW w))}:Obj)=oS
   have hS:(s.heap.push oS).get? s.heap.objs.size=some oS:=aD _ (by rw[<- hO];rfl)
   have hT:Shared.TypeIs {s with heap:=s.heap.push oS} (.ref s.heap.objs.size) "set" :=⟨_,hS,by rw[<- hO]⟩
   have hli:=F.called_set.init.lookup
   have hbi:=F.called_set.init.bind (.ref s.heap.objs.size)
   repeat (any_goals (first|assumption|wp_step))
   refine eS (codeAny_call_builtin (R:=wants (λr z2=>r=.none/\∃h' tk ks,z2= {s with heap:=h',toks:=tk} /\SetG w h' s.heap.objs.size ks/\(∀z,z∈ks↔z∈ns)/\(∀b o,s.heap.get? b=some o->h'.get? b=some o)) E)
    F.called_set.init.plain F.entry_set_init (check_set_init_1 hT ?_)) λr2 z2 hr2=>?_
   .obtain⟨ol,hol,hcl,nl,hdl⟩:=hl
    obtain⟨ocls,odict,odata,oslots⟩:=ol
    simp only at hcl hdl
    subst hcl;subst hdl
    have hol':(s.heap.push oS).get? l=some {cls:=.type "list",dict:=odict,data:=.seq items nl,slots:=oslots}:=ae _ hol
    have y1:=F.sub_list_set
    have y2:=F.sub_list_frozenset
    have y3:(Value.type "list" ==Value.type "dict")=false:=by decide
    have hl1:(s.heap.push oS).IsList l items:=⟨_,hol',rfl,nl,rfl⟩
    subst hO
    unfold Builtin.«set.__init__» noKeywords Builtin.Frozenset.updateFrom
    generalize hPI:pyIter=PI
    wp_walk
    subst hPI
    refine dJ hl1 (ab (ji ?_))
    have hlS:l<s.heap.objs.size:=aw hol
    have hz1:(s.heap.push {cls:=.type "set",dict:=none,data:=.set #[] 0 (.fresh 0 0 (ledW w))}).objs.size=s.heap.objs.size+1:=bM _ _
    have nI:l≠(s.heap.push {cls:=.type "set",dict:=none,data:=.set #[] 0 (.fresh 0 0 (ledW w))}).objs.size:=by
     rw[hz1]
     exact aS (bw hlS)
    have nS:s.heap.objs.size∉ [(s.heap.push {cls:=.type "set",dict:=none,data:=.set #[] 0 (.fresh 0 0 (ledW w))}).objs.size,l]:=by
     rw[hz1]
     simp only[ay,bG,di,lh]
     exact⟨aS (cJ _),cz hlS⟩
    have hget:((s.heap.push {cls:=.type "set",dict:=none,data:=.set #[] 0 (.fresh 0 0 (ledW w))}).push {cls:=.type "list_iterator",data:=.fields #[.ref l,.int 0 0]}).get? s.heap.objs.size
      =some {cls:=.type "set",dict:=none,data:=.set #[] 0 (.fresh 0 0 (ledW w))}:=ae _ hS
    refine jN9 ((ke (by simp[hh]) _ l nI items).toS) s.heap.objs.size nS (λi=>ns.getD i 0) (λi v q=>PyProof.Rows.IntsAre.int_at hi i v (by rw[bV];exact q))
     (λi q=>hv _ ?_) hn (items.size-0) 0 _ [] rfl (bb _) ⟨⟨_,aD _ rfl,rfl,rfl⟩,hl1.push _⟩ ⟨⟨_,#[],0,_,hget,⟨rfl,rfl,rfl⟩,rfl,.nil,jKB _⟩,List.nodup_nil,bb _⟩ (ak _) (λz=>⟨λq=>by(cases q),λ⟨j,q,_⟩=>absurd q (ev _)⟩) ?_
    .have q':i<ns.length:=by rw[<- hlen];exact q
     simp[List.getD,q']
    .intro s' ks mv S' hm
     obtain⟨h',g',d',tk',os'⟩:=s'
     have e1:g'=s.gens:=mv.gens
     have e2:d'=s.drawn:=mv.drawn
     have e3:os'=s.os:=mv.os
     subst e1;subst e2;subst e3
     refine ah (ah ⟨rfl,h',tk',ks,rfl,S',λz=>?_,λb o e=>?_⟩)
     .rw[hm]
      constructor
      .rintro ⟨j,hj,e⟩
       have hj':j<ns.length:=by rw[<- hlen];exact hj
       rw[<- e]
       simp[List.getD,hj']
      .intro hz
       obtain⟨j,hj,e⟩:=cm hz
       exact⟨j,by rw[hlen];exact hj,by simp[List.getD,hj,e]⟩
     .have hb:=aw e
      refine mv.heap b o ?_ (ae _ (ae _ e))
      rw[hz1]
      simp only[ay,bG,di,lh]
      exact⟨aS hb,aS (bw hb)⟩
   .cases r2 with
    |error e=>exact hr2
    |ok fl2=>
     cases fl2 with
     |ret r=>
      obtain⟨rfl,h',tk,ks,rfl,hS',hm,hk⟩:=hr2
      repeat (any_goals (first|assumption|wp_step))
      exact h _ _ _ hS' hm hk
     |_=>exact hr2.elim
  |_=>exact hr.elim
end
theorem slot_si_next:Slot "set_iterator" "__next__" "set_iterator.__next__" :=
 .of (owner:= "set_iterator") (n:= "__next__") (by
   rw[i7,fS]
   kernel_rfl) (by decide+kernel) (by decide+kernel)
  (by decide+kernel)
  (by first
   |exact .inl (by decide+kernel)
   |exact .inr (by decide+kernel))
  (by
   rw[jk]
   kernel_rfl)
theorem jCO:Slot "set_iterator" "__iter__" "set_iterator.__iter__" :=
 .of (owner:= "set_iterator") (n:= "__iter__") (by
   rw[i7,fS]
   kernel_rfl) (by decide+kernel) (by decide+kernel)
  (by decide+kernel)
  (by first
   |exact .inl (by decide+kernel)
   |exact .inr (by decide+kernel))
  (by
   rw[jk]
   kernel_rfl)
def jC4:entryFor table "set_iterator.__next__" =some Builtin.«set_iterator.__next__»:=entryFor_of_tree (by kernel_rfl)
theorem jDX:entryFor table "set.__iter__" =some Builtin.«frozenset.__iter__»:=
 entryFor_alias (id':= "frozenset.__iter__") (by kernel_rfl) rfl (by decide+kernel) (by kernel_rfl)
theorem jF5:entryFor table "set_iterator.__iter__" =some Builtin.«dict_keyiterator.__iter__»:=
 entryFor_alias (id':= "dict_keyiterator.__iter__") (by kernel_rfl) (by first|rfl|decide+kernel | (unfold String.splitOn;simp+decide [String.splitOnAux])) (by decide+kernel)
  (by kernel_rfl)
def jCW(a:Value):argsOk "set_iterator.__next__" ⟨[a],[]⟩:=by unfold argsOk;kernel_rfl
def jGP(a:Value):argsOk "set_iterator.__iter__" ⟨[a],[]⟩:=by unfold argsOk;kernel_rfl
def jFC(a:Value):argsOk "set.__iter__" ⟨[a],[]⟩:=by unfold argsOk;kernel_rfl
abbrev byTxt(w:World):Bool:=w.params.followText "set-order"
abbrev IsSI(h:Heap)(I:Addr)(slot i:Nat)(a:Addr)(n ep:Nat):Prop:=
 h.get? I=some {cls:=.type "set_iterator",dict:=none,data:=.fields #[rawInt slot,rawInt i,.ref a,rawInt n,rawInt ep],slots:=#[]}
def qQ(w:World)(t:SetTable)(i:Nat):Nat:=if byTxt w=true then 0 else jI8 t.place i
noncomputable def told(w:World)(a:Addr)(ep:Nat)(es:Array (Int×Value)):List Value:=(if byTxt w=true then (pickOrder (w.params.setOrder a ep) es).toList else es.toList).map (·.2)
def jAU(w:World)(a:Addr)(ep:Nat)(es:Array (Int×Value)):(told w a ep es).length=es.size:=by
 unfold told
 rw[aa]
 split
 .rw[(jFS _ es).length_eq];simp
 .simp
def jK9(w:World)(a:Addr)(ep:Nat)(es:Array (Int×Value)):(told w a ep es).Perm (es.toList.map (·.2)):=by
 unfold told
 split
 .exact(jFS _ es).map _
 .exact .refl _
variable {o:Obj}{es:Array (Int×Value)}{ep:Nat}{t:SetTable}
theorem jL9{Q:Option (Value×Nat)->Shared->Prop}(ho:s.heap.get? a=some o)(hd:o.data=.set es ep t)(T:Tab t es.size (ledW w))(hn:es.size<=4)(hi:i<=es.size)
  (h:Q ((told w a ep es)[i]?.map λv=>(v,qQ w t (i+1))) s):wpAny (model prog w) A (setNext a (qQ w t i) i ep) Q E s:=by
 unfold setNext
 refine ab (dg ho hd (T.fits hn) ?_)
 dsimp only
 unfold setsByText
 refine ab (ab (eU (ah ?_)))
 show wpAny _ A (if byTxt w=true then _ else _) Q E s
 have hl:=jAU w a ep es
 by_cases hb:byTxt w=true
 .rw[ai hb,aj (by simp)]
  unfold setWalk
  refine ab (ab (dg ho hd (T.fits hn) ?_))
  dsimp only
  unfold setsByText
  refine ab (ab (eU (ah ?_)))
  show wpAny _ A (if byTxt w=true then _ else _) _ E s
  rw[ai hb]
  refine ab (eU (ah (ah ?_)))
  have e:(told w a ep es)[i]?.map (λv=>(v,qQ w t (i+1)))=(pickOrder (w.params.setOrder a ep) es)[i]?.map (λe=>(e.snd,qQ w t i)):=by
   unfold told qQ
   rw[ai hb,ai hb,ai hb,aO,bV,Option.map_map]
   rfl
  rw[e] at h
  exact h
 .rw[aj hb]
  have hb':byTxt w=false:=by simpa using hb
  have hld:t.led=true:=by rw[T.ld];show (!byTxt w)=true;rw[hb'];rfl
  show wpAny _ A (if (!t.plain&&decide (es.size>1))=true then _ else _) Q E s
  rw[T.pl,ju,ce,aj aq]
  refine ab ?_
  show wpAny _ A (if (!t.led&&!es.isEmpty)=true then _ else pure ()) _ E s
  rw[hld,ju,ce,aj aq]
  refine ah (ah ?_)
  have eb:SetTable.below t.place (qQ w t i)=i:=by
   unfold qQ
   rw[aj hb]
   exact jGO T.ris (by rw[T.sz];exact hi)
  rw[eb]
  have et:(told w a ep es)[i]?=es[i]?.map (·.2):=by
   unfold told
   rw[aj hb,aO,bV]
  rw[et] at h
  by_cases hlt:i<es.size
  .have h1:es[i]?=some es[i]:=by simp[hlt]
   have hlt2:i<t.place.size:=by rw[T.sz];exact hlt
   have h2:t.place[i]?=some t.place[i]:=by simp[hlt2]
   have h3:qQ w t (i+1)=t.place[i]+1:=by
    unfold qQ jI8
    rw[aj hb]
    simp[Array.getD,hlt2]
   rw[h1,h3] at h
   rw[h1,h2]
   exact h
  .have h1:es[i]?=none:=by simp;lia
   rw[h1] at h
   rw[h1]
   exact h
def jFN{v:Value}{Q:Option Value->Shared->Prop}(ho:s.heap.get? a=some o)(hd:o.data=.set es ep t)(T:Tab t es.size (ledW w))(hn:es.size<=4)
  (hit:IsSI s.heap I (qQ w t i) i a es.size ep) (hv:(told w a ep es)[i]?=some v)
  (hQ:∀h',IsSI h' I (qQ w t (i+1)) (i+1) a es.size ep->Heap.SameBut I s.heap h'->Q (some v) {s with heap:=h'}):wpAny (model prog w) A (pyNext (.ref I)) Q E s:=by
 have hT:s.TypeIs (.ref I) "set_iterator" :=⟨_,hit,rfl⟩
 have hi:i<es.size:=by
  rw[<- jAU w a ep es]
  exact(aF.mp hv).1
 unfold pyNext
 refine ab (dQ (bK (name:=Str.ofString "__next__") hT slot_si_next (bQ slot_si_next hT jC4 ?_ (jCW _))))
 unfold Builtin.«set_iterator.__next__»
 refine ab (m:=slotArgs "__next__" 0 _) (ah ?_)
 dsimp only
 unfold fieldsOf
 refine ab (ab (gO hit ?_))
 refine ah ?_
 dsimp only[rawInt]
 unfold setEntries
 refine ab (ab (dg ho hd (T.fits hn) (ah ?_)))
 rw[aj (by simp)]
 simp only[bY]
 refine ab (jL9 ho hd T hn (dj hi) ?_)
 rw[hv]
 dsimp only[Option.map]
 refine ab (bJ hit (by simp) λh1 hit1 sb1=>?_)
 refine ab (bJ hit1 (by simp) λh2 hit2 sb2=>?_)
 refine ah ⟨v,rfl,ah (hQ h2 ?_ (sb1.trans sb2))⟩
 show h2.get? I=_
 rw[hit2]
 simp[rawInt]
def jH2{Q:Option Value->Shared->Prop}(hh:A.handled=none)(ho:s.heap.get? a=some o)(hd:o.data=.set es ep t)(T:Tab t es.size (ledW w))(hn:es.size<=4)
  (hit:IsSI s.heap I (qQ w t es.size) es.size a es.size ep)
  (hQ:∀h',Heap.ExtBut I s.heap h'->Q none {s with heap:=h'}):wpAny (model prog w) A (pyNext (.ref I)) Q E s:=by
 have hT:s.TypeIs (.ref I) "set_iterator" :=⟨_,hit,rfl⟩
 unfold pyNext
 refine ab (dQ (bK (name:=Str.ofString "__next__") hT slot_si_next (bQ slot_si_next hT jC4 ?_ (jCW _))))
 unfold Builtin.«set_iterator.__next__»
 refine ab (m:=slotArgs "__next__" 0 _) (ah ?_)
 dsimp only
 unfold fieldsOf
 refine ab (ab (gO hit ?_))
 refine ah ?_
 dsimp only[rawInt]
 unfold setEntries
 refine ab (ab (dg ho hd (T.fits hn) (ah ?_)))
 rw[aj (by simp)]
 simp only[bY]
 refine ab (jL9 ho hd T hn (ak _) ?_)
 rw[cq (by rw[jAU];exact ak _)]
 dsimp only[Option.map]
 refine ab (bJ hit (by simp) λh1 hit1 sb1=>?_)
 refine ab ?_
 simp only[newExc,newTuple]
 refine ab (bU ?_ (by size_fits))
 refine ab (m:=firstArgMember _ _) (wpAny_of_eq (a:=Value.none) (by first|rfl | (simp only[firstArgMember];rfl)) ?_)
 refine bU ?_ (by size_fits)
 simp only[raiseNew]
 refine ab (wpAny_handled ?_)
 rw[show A.in1.handled=none from hh]
 refine ab (ah (wpAny_throw ?_))
 refine ab (gb (T:= "StopIteration") (b:=true) ⟨_,aD _ rfl,rfl⟩ jl ?_)
 exact ah (hQ _ ((sb1.extBut.push _).push _))
def jQ4{slot n:Nat}(hit:IsSI s.heap I slot i a n ep)(h:Q (.ref I) s):wpAny (model prog w) A (pyIter (.ref I)) Q E s:=by
 have hT:s.TypeIs (.ref I) "set_iterator" :=⟨_,hit,rfl⟩
 refine wpAny_pyIter_slot hT jCO (bQ jCO hT jF5 ?_ (jGP _))
 show wpAny _ _ (ret (.ref I)) _ _ s
 exact ah ⟨_,rfl,"set_iterator",_,hT,slot_si_next.lookup,h⟩
theorem jNK(hx:o.ExactSet)(ho:s.heap.get? a=some o)(hd:o.data=.set es ep t)(T:Tab t es.size (ledW w))(hn:es.size<=4)
  (hQ:∀h',h'.get? s.heap.objs.size=some {cls:=.type "set_iterator",dict:=none,data:=.fields #[rawInt (qQ w t 0),rawInt 0,.ref a,rawInt es.size,rawInt ep],slots:=#[]} ->(∀b u,s.heap.get? b=some u->h'.get? b=some u)->
   h'.objs.size=s.heap.objs.size+1->Q (.ref s.heap.objs.size) {s with heap:=h'}):wpAny (model prog w) A (pyIter (.ref a)) Q E s:=by
 have hT:s.TypeIs (.ref a) "set" :=⟨o,ho,hx.1⟩
 refine wpAny_pyIter_slot hT ja (bQ ja hT jDX ?_ (jFC _))
 unfold Builtin.«frozenset.__iter__»
 refine ab (show wpAny _ _ (pure a:Sem Addr) _ _ s from ah ?_)
 unfold Builtin.Frozenset.sizeOf setEntries
 refine ab (ab (ab (dg ho hd (T.fits hn) (ah (ah ?_)))))
 dsimp only
 unfold setDrawn
 refine ab (ab (dg ho hd (T.fits hn) ?_))
 dsimp only
 unfold setsByText
 refine ab (ab (eU (ah (ah ?_))))
 show wpAny _ _ (if (!byTxt w&&(!t.plain&&decide (es.size>1)))=true then _ else _) _ _ s
 rw[T.pl,ju,ce,eQ,aj aq]
 refine ab (ah ?_)
 refine ab (wpAny_setEpoch_of ho hd (T.fits hn) ?_)
 refine ab (bU (ah ⟨_,rfl,"set_iterator",_,⟨_,aD _ rfl,rfl⟩,slot_si_next.lookup,hQ _ ?_ (λb u e=>ae _ e) (bM _ _)⟩) (by size_fits))
 have e0:qQ w t 0=0:=by unfold qQ jI8;split<;>rfl
 rw[e0]
 exact aD _ rfl
def jK5(hh:A.handled=none)(hne:a≠I)(hd:o.data=.set es ep t)(T:Tab t es.size (ledW w))(hn:es.size<=4):
  Walks prog w A I [I,a] [I] es.size (λi v=>(told w a ep es)[i]?=some v) (λi h=>IsSI h I (qQ w t i) i a es.size ep/\h.get? a=some o) where
 sub:=λb hb=>by simp at hb;simp[hb]
 frame:=λ_ _ _ st hk=>⟨hk I (by simp) _ st.1,hk a (by simp) _ st.2⟩
 item:=λi s Q E hi st hQ=>by
  obtain⟨v,hv⟩:∃v,(told w a ep es)[i]?=some v:=⟨_,ag (by rw[jAU];exact hi)⟩
  exact jFN st.2 hd T hn st.1 hv λh' hit' sb=>hQ v h' s.toks hv ⟨hit',(sb.2 a hne).trans st.2⟩ λb o hb e=>(sb.2 b (λz=>hb (by simp[z]))).trans e
 done:=λs Q E st hQ=>jH2 hh st.2 hd T hn st.1 λh' eb=>hQ h' s.toks λb o hb e=>eb b o (λz=>hb (by simp[z])) e
 self:=λ_ _ _ _ st hQ=>jQ4 st.1 hQ
def jFL:typeLookup (.type "set") "__len__" =pure (some (.builtin "set.__len__")):=by rw[i7,fS];kernel_rfl
theorem jOQ{Q:Bool->Shared->Prop}(hT:s.TypeIs (.ref a) "set")(h:Q false s):wpAny (model prog w) A (Builtin.List.listLengthHint (.ref a)) Q E s:=by
 unfold Builtin.List.listLengthHint
 refine ab (wpAny_specialOf hT jFL ?_)
 generalize hid:("set.__len__":String)=id0
 wp_delta
 rw[show splitId id0=some ("set","__len__") from by subst hid;decide+kernel]
 subst hid
 refine ab (gb (b:=true) hT (by rw[jk];kernel_rfl) ?_)
 refine wpAny_ite_split (λq=>absurd q (by decide)) (λ_=>?_)
 refine wpAny_ite_split (λ_=>?_) (λq=>absurd (by decide+kernel) q)
 exact ab (gH hT (ah h))
theorem jHR{Q:List Value->Shared->Prop}(hh:A.handled=none)(hx:o.ExactSet)(ho:s.heap.get? a=some o)(hd:o.data=.set es ep t)(T:Tab t es.size (ledW w))(hn:es.size<=4)
  (hQ:∀s',(∀b u,s.heap.get? b=some u->s'.heap.get? b=some u)->s'.gens=s.gens->s'.drawn=s.drawn->s'.os=s.os->s.heap.objs.size<s'.heap.objs.size->Q (told w a ep es) s'):wpAny (model prog w) A (collect (.ref a)) Q E s:=by
 have ha:a<s.heap.objs.size:=aw ho
 have hSa:s.heap.objs.size≠a:=cz ha
 unfold collect
 refine ab (ji (dh PySem.F.entry_proto_collect ?_))
 rw[cI gJ _]
 show wpAny _ A.in1 (newList [] >>= λl=>again (.builtin "list.__iadd__" ⟨[l,.ref a],[]⟩)) _ _ s
 refine ab (bU (ah ⟨gn dY _,dh PySem.F.entry_list_iadd ?_⟩))
 rw[cI dY _]
 generalize hE:({s with heap:=s.heap.push {cls:=.type "list",dict:=none,data:=.seq ([]:List Value).toArray}}:Shared)=s1
 have ho1:s1.heap.get? a=some o:=by rw[<- hE];exact ae _ ho
 have hL1:s1.heap.get? s.heap.objs.size=some {cls:=.type "list",dict:=none,data:=.seq ([]:List Value).toArray}:=by rw[<- hE];exact aD _ rfl
 have hz1:s1.heap.objs.size=s.heap.objs.size+1:=by rw[<- hE];exact bM _ _
 have hT1:s1.TypeIs (.ref a) "set" :=⟨o,ho1,hx.1⟩
 show wpAny _ A.in1 (Builtin.List.listExtendWith (.ref s.heap.objs.size) (.ref a) (.ref s.heap.objs.size)) _ _ _
 unfold Builtin.List.listExtendWith
 refine ab (gH hT1 ?_)
 have q1:Builtin.List.listSameRef (.ref s.heap.objs.size) (.ref a)=false:=by simp[Builtin.List.listSameRef,hSa]
 rw[aj (by rw[q1];decide)]
 refine ab (jNK hx ho1 hd T hn λh2 hI2 k2 z2=>?_)
 refine ab (cx ?_)
 have ho2:h2.get? a=some o:=k2 _ _ ho1
 have hT2:Shared.TypeIs {s1 with heap:=h2} (.ref a) "set" :=⟨o,ho2,hx.1⟩
 have hL2:=k2 _ _ hL1
 refine jOQ hT2 ?_
 rw[ai (by decide+kernel)]
 refine ab (cL ?_)
 have hne:s.heap.objs.size≠s1.heap.objs.size:=by lia
 refine ab ?_
 show wpAny _ A.in1 (updateSeq s.heap.objs.size (·.push .none) >>= λ_=>updateSeq s.heap.objs.size (·.pop)) _ _ _
 refine ab (wpAny_updateSeq hL2 rfl ?_)
 have hL3:=dF (Obj.mapSeq (·.push Value.none)) hL2 rfl
 refine wpAny_updateSeq hL3 rfl ?_
 have hL4:=dF (Obj.mapSeq (·.pop)) hL3 rfl
 have oth:∀b u,b≠s.heap.objs.size->h2.get? b=some u->((h2.update s.heap.objs.size (Obj.mapSeq (·.push Value.none))).update s.heap.objs.size (Obj.mapSeq (·.pop))).get? b=some u:=
  λb u hb e=>(bE _ _ (bO hb)).trans ((bE _ _ (bO hb)).trans e)
 have W:=(jK5 (prog:=prog) (A:=A.in1) (a:=a) (I:=s1.heap.objs.size) hh (aS (show a<s1.heap.objs.size by rw[hz1];exact bw ha)) hd T hn).toS
 have z24:es.size<=sizeLine:=by rw[show sizeLine=2^24 from rfl];lia
 refine ah ⟨gn PySem.F.plain_extend_loop _,codeAny_extend_loopS W z24 s.heap.objs.size (by simp[hne,hSa]) _ es.size 0 _ _ _ rfl (bb _) ⟨oth _ _ (bO hne) hI2,oth _ _ (bO hSa) ho2⟩ hL4 (ItemsOf.nil _) λs' acc' c' hm hS' hacc=>?_⟩
 show wpAny _ A (load s.heap.objs.size >>= _) _ _ s'
 refine ab (gO hS' ?_)
 have eacc:acc'.toList=told w a ep es:=by
  apply List.ext_getElem?
  intro i
  by_cases hi:i<es.size
  .have hi':i<acc'.size:=by rw[hacc.1];exact hi
   have:=hacc.2 i acc'[i] (by simp[hi'])
   rw[this]
   simp[hi']
  .rw[cq (by rw[aM,hacc.1];lia),cq (by rw[jAU];lia)]
 refine ah ?_
 rw[eacc]
 refine hQ s' (λb u e=>?_) ?_ ?_ ?_ (aw hS')
 .have hb:b≠s.heap.objs.size:=aS (aw e)
  have hb1:b≠s1.heap.objs.size:=aS (show b<s1.heap.objs.size by rw[hz1];exact bw (aw e))
  exact hm.heap b u (by simp[hb,hb1]) (oth b u hb (k2 b u (by rw[<- hE];exact ae _ e)))
 .have:=hm.gens;rw[<- hE] at this;exact this
 .have:=hm.drawn;rw[<- hE] at this;exact this
 .have:=hm.os;rw[<- hE] at this;exact this
end SS
namespace SS
open PySem PyProof.Rows
section
variable {prog:Program}{w:World}{A:Around}{E:Value->Shared->Prop}{s:Shared}{a:Addr}{ks:List Int}
def jLY:∀{vs:List Value}{ks:List Int},Paired (λv k=>∃t,v=Value.int k t) vs ks->IntsAre vs ks
 |_,_,.nil=> .nil
 |_,_,.cons ⟨t,e⟩ r=>by subst e;exact .cons _ t (jLY r)
def jE5{es:List (Int×Value)}:∀{ks:List Int},Paired El es ks->Paired (λv k=>∃t,v=Value.int k t) (es.map (·.2)) ks
 |_,.nil=> .nil
 |_,.cons ⟨_,q⟩ r=> .cons q (jE5 r)
def jH8{α β:Type}{F:α->β->Prop}{l l':List α}(p:l'.Perm l):∀{r:List β},Paired F l r->∃r',Paired F l' r'/\r'.Perm r:=by
 induction p with
 |nil=>intro r h;cases h;exact⟨[],.nil,.nil⟩
 |cons x _ ih=>
  intro r h
  cases h with
  |cons f t=>
   obtain⟨r',h1,h2⟩:=ih t
   exact⟨_::r',.cons f h1,h2.cons _⟩
 |swap x y l=>
  intro r h
  cases h with
  |cons f t=>
   cases t with
   |cons g t=>exact⟨_,.cons g (.cons f t),.swap _ _ _⟩
 |trans _ _ ih1 ih2=>
  intro r h
  obtain⟨r1,h1,h2⟩:=ih2 h
  obtain⟨r2,h3,h4⟩:=ih1 h1
  exact⟨r2,h3,h4.trans h2⟩
theorem sorted_set{Q:Value->Shared->Prop}(hh:A.handled=none)(S:SetG w s.heap a ks)
  (h:∀(s':Shared) (l:Addr) (vs:List Value) (ns:List Int) (e:Nat),s.heap.objs.size<=l->(∀b u,s.heap.get? b=some u->s'.heap.get? b=some u)->s'.gens=s.gens->s'.drawn=s.drawn->s'.os=s.os->
   s'.heap.get? l=some {cls:=.type "list",data:=.seq vs.toArray e} ->IntsAre vs ns->ns.Perm ks->ns.Pairwise (· <= ·)->Q (.ref l) s'):
  wpAny (model prog w) A (call (.builtin "sorted") [.ref a]) Q E s:=by
 obtain⟨o,es,ep,t,ho,hex,hd,hp,T⟩:=S.ex
 have hn:es.size<=4:=by
  have:=gf hp
  rw[aM] at this
  have:=S.len
  lia
 refine ig kind_sorted plain_sorted entry_sorted (args_sorted1 _) ?_
 unfold Builtin.«sorted»
 refine ab (m:=checkCount "sorted" 1 1 _) (ah ?_)
 refine ab (jHR (A:=A.in1) hh hex ho hd T hn λs1 k1 g1 d1 o1 z1=>?_)
 refine ab (iy ?_ (by rw[jAU,show sizeLine=2^24 from rfl];lia))
 obtain⟨ks1,hp1,pm1⟩:=jH8 (jK9 w a ep es) (jE5 hp)
 have hI:=jLY hp1
 have hl:(told w a ep es).length<64:=by rw[jAU];lia
 have hL:(s1.heap.push (seqObj "list" (told w a ep es).toArray 0)).get? s1.heap.objs.size=some (seqObj "list" (told w a ep es).toArray 0):=aD _ rfl
 show wpAny _ _ _ _ _ {s1 with heap:=s1.heap.push (seqObj "list" (told w a ep es).toArray 0)}
 refine ab (cx (bQ slot_list_sort ⟨_,hL,rfl⟩ entry_list_sort (list_sort_tree hL hI hl λout ns' a1 a2 a3=>⟨_,rfl,?_⟩) (args_list_sort _)))
 obtain⟨e,he⟩:=sortedHeap_at (out:=out) hL
 have kept:∀b u,s.heap.get? b=some u->(sortedHeap (s1.heap.push (seqObj "list" (told w a ep es).toArray 0)) s1.heap.objs.size (told w a ep es) out).get? b=some u:=λb u q=>by
  have q1:=k1 b u q
  have hb:b<s1.heap.objs.size:=aw q1
  rw[sortedHeap_old (aS hb) (by rw[iU];exact bw hb)]
  exact ae _ q1
 generalize sortedHeap (s1.heap.push (seqObj "list" (told w a ep es).toArray 0)) s1.heap.objs.size (told w a ep es) out=hf at he kept ⊢
 exact ah ⟨_,rfl,h {s1 with heap:=hf} s1.heap.objs.size out.toList ns' e (dj z1) kept g1 d1 o1 (by rw[dO];exact he) a1 (a2.trans pm1) a3⟩
end
end SS
namespace L2
open PySem PySem.Spec PyProof.Rows
variable {xs ys:Array Value}{Q E:Value->Shared->Prop}{a l2 l1 it z i2 i1 p l:Addr}{tp t2 t1:Bool}{kw:List Keyword}{ad:List (Addr×Obj)}{h h':Heap}{tg e c:Expr}{op:CmpOp}{b x y:Value}{r:List V->Hp->VK->Prop}{k2 k1 i x1 n:Nat}{elts:List Expr}{prog:Program}{its its2:List Value}{σ:St}{body:List Stmt}{ws vs:List V}{st:Stmt}
variable {es xs:List Expr}{env:Env}{a b:Expr}{pos:Pos}
section
variable {ys:List Expr}
def yD{op:Operator}:starEach (.BinOp a op b pos::es) env=(false,eval (.BinOp a op b pos) env)::starEach es env:=rfl
def jKL{op}:starEach (.BoolOp op xs pos::es) env=(false,eval (.BoolOp op xs pos) env)::starEach es env:=rfl
def jP6{ops:List CmpOp}:starEach (.Compare a ops xs pos::es) env=(false,eval (.Compare a ops xs pos) env)::starEach es env:=rfl
def jG:starEach (.Call a xs kw pos::es) env=(false,eval (.Call a xs kw pos) env)::starEach es env:=rfl
def jR:starEach (.Subscript a b pos::es) env=(false,eval (.Subscript a b pos) env)::starEach es env:=rfl
def jP{gs sc}:starEach (.ListComp a gs sc pos::es) env=(false,eval (.ListComp a gs sc pos) env)::starEach es env:=rfl
def qR{x1}:starEach (.Tuple xs x1 pos::es) env=(false,eval (.Tuple xs x1 pos) env)::starEach es env:=rfl
def jI{c k}:starEach (.Constant c k pos::es) env=(false,eval (.Constant c k pos) env)::starEach es env:=rfl
def j4{x:Str}:starEach (.Name x pos::es) env=(false,eval (.Name x pos) env)::starEach es env:=rfl
end
variable {X:Cx}
def CDivL(i j:Int):Prop:=0<j/\j<2^64
theorem jIF:OpR X (binaryOp .FloorDiv) (rI CDivL λi j=> .int (i/j)):=opI λi j _ _ _ _ _ hc q=>by
 have h1:(0:Int)<j:=hc.1
 have h2:j<2^64:=hc.2
 refine floordiv_int (by lia) (by rw[gQ i (by lia)];exact q) (.inl (PyProof.noPylong_of_log2 ?_))
 have h3:j.natAbs<2^64:=by lia
 have h4:j.natAbs≠0:=by lia
 have:=(Nat.log2_lt h4).mpr h3
 lia
def jA4:yV X (.builtin "isinstance") (λxs H Q=>∃x T t b,xs=[x,.ty T]/\TyOf X.K H x t/\kitOne X.K t (.type T)=some b/\Q (.bl b) H):=by
 intro ad s σ H xs us Q I r h
 obtain⟨x,T,t,b,rfl,ty,e,q⟩:=h
 obtain⟨u,v,rfl,ru,rv⟩:=r.two
 cases rv
 exact jLW I ru ty e λtk=>⟨.bl b,H,I.tok tk,rfl,q⟩
def jQ7:V->List V->Hp->VK->Prop:=λx vs H Q=>∃l xs i y,x=.ref l/\vs=[.int i,y]/\H l=some (.lst xs)/\0<=i/\i<=xs.length/\xs.length<sizeLine/\Q .non (upd H l (.lst (xs.take i.toNat++y::xs.drop i.toNat)))
def Vals.put{y:V}{v:Value}(r:RelV y v){xs:List V}{us:List Value}(h:Vals xs us)(k:Nat):Vals (xs.take k++y::xs.drop k) (us.take k++v::us.drop k):=(h.take k).append (.cons r (h.drop k))
theorem jBY:MtM X "list.insert" jQ7:=by
 intro ad s σ H x vs v us Q I rx rv h
 obtain⟨l,xs,i,y,rfl,rfl,hH,h0,h1,hz,q⟩:=h
 cases rx
 obtain⟨a,b,rfl,ra,rb⟩:=rv.two
 obtain⟨t,rfl⟩:=ra
 obtain⟨z,its,n,r,hl,e⟩:=I.lstM hH
 have line:=jFZ
 have hf:Builtin.List.listFitsIndex i=true:=fitsIndex_both (by lia) (by lia)
 refine gS F.slot_list_insert ⟨_,e,rfl⟩ F.entry_list_insert (F.args_list_insert_3 _ _ _) (AutoSeq1.list_insert_list_int_val_1 l its.toArray n i t b (by simp[hf]) (by rw[ao];lia)) ⟨e,?_⟩
 refine⟨.non,_,I.lset (its':=its.take i.toNat++b::its.drop i.toNat) hH e ?_ (Vals.put rb r i.toNat) ?_,rfl,q⟩
 .have hk:(if i<0 then (i+(its.toArray.size:Int)).toNat else min i.toNat its.toArray.size)=i.toNat:=by
   rw[aj (by lia),ao]
   lia
  show (its.toArray.extract 0 (if i<0 then (i+(its.toArray.size:Int)).toNat else min i.toNat its.toArray.size)).push b++its.toArray.extract (if i<0 then (i+(its.toArray.size:Int)).toNat else min i.toNat its.toArray.size)=_
  rw[hk]
  apply Array.ext'
  simp[dH,bf]
 .rw[aK,aV,aZ,cB]
  lia
def rEqE(K:W.Frag):R2:=λx y H Q=>∃p q xs,x=.ref p/\y=.ref q/\SqT K H p xs/\SqT K H q []/\Q (.bl (decide (xs=[]))) H
theorem jSY(hu:X.A.units<cLine):OpR X (compareOp .Eq) (rEqE X.K):=by
 intro ad s σ H x y v u Q I rx ry h
 obtain⟨p,q,xs,rfl,rfl,hp,hq,k⟩:=h
 cases rx
 cases ry
 obtain⟨its,r,t1,_⟩:=I.tuple hp
 obtain⟨its2,r2,t2,_⟩:=I.tuple hq
 have e2:its2=[]:=r2.zero
 subst e2
 refine SeqAt.eq_tupleAt (e:=λ_=>true) (show s.heap.IsTuple p its.toArray from t1) (show s.heap.IsTuple q ([]:List Value).toArray from t2) hu (λj h1 h2=>absurd h2 (by simp)) ⟨.bl _,H,I,rfl,?_⟩
 have hl:=r.length
 have e:((List.range (min its.toArray.size ([]:List Value).toArray.size)).all (λ_=>true)&&its.toArray.size==([]:List Value).toArray.size)=decide (xs=[]):=by
  cases xs with
  |nil=>
   have:its=[]:=by simpa using hl.symm
   subst this
   rfl
  |cons a b=>
   have:its.length≠0:=by rw[<- hl];simp
   simp[this]
 rw[e]
 exact k
def jGF(hc:X.calm=true):yV X (.builtin "all") (λxs H Q=>∃(p:Addr) (bs:List Bool),xs=[.ref p]/\SqL X.K H p (bs.map V.bl)/\Q (.bl (bs.all id)) H):=by
 intro ad s σ H xs us Q I r h
 obtain⟨p,bs,rfl,hq,q⟩:=h
 obtain⟨u,rfl,rx⟩:=r.one
 cases rx
 obtain⟨its,r',pl,hz⟩:=I.list hq
 have hlen:=r'.length
 rw[aa] at hlen
 refine call_all_walk (dJ pl.isList ?_)
 have hne:p≠s.heap.objs.size:=by
  obtain⟨o,ho,_⟩:=pl.isList
  exact aS (aw ho)
 refine⟨s.heap.objs.size,_,_,_,_,_,λi=>bs.getD i true,rfl,ke (by simpa using I.ok.hd hc) _ p hne its.toArray,⟨⟨_,aD _ rfl,rfl,rfl⟩,pl.isList.push _⟩,λi v z Q' E' hP hQ'=>?_,λh' tk hk=>?_⟩
 .have hi:its[i]?=some v:=by simpa using hP
  have hb:i<bs.length:=by
   rw[hlen]
   exact(aF.mp hi).1
  obtain⟨u,hu,ru⟩:=r'.get (i:=i) (x:=.bl (bs[i])) (by simp[hb])
  rw[hi] at hu
  cases hu
  cases ru
  have e:bs.getD i true=bs[i]:=by simp[List.getD,hb]
  have hQ2:Q' (bs.getD i true) z:=hQ'
  rw[e] at hQ2
  exact ah hQ2
 .have e:(List.range its.toArray.size).all (λi=>bs.getD i true)=bs.all id:=by
   rw[ao,<- hlen]
   rw[cQ,bF,bF]
   constructor
   .intro a b hb
    obtain⟨i,hi,rfl⟩:=cm hb
    have:=a i (bq.mpr hi)
    simpa [List.getD,hi] using this
   .intro a i hi
    have hi:=bq.mp hi
    have:=a bs[i] (bC hi)
    simpa [List.getD,hi] using this
  rw[e]
  exact⟨.bl _,H,I.kept (t':=tk) λb o e=>hk b o (by
   intro z
   have z:b=s.heap.objs.size:=by simpa using z
   exact absurd (aw e) (by rw[z];exact cf _)) (ae _ e),rfl,q⟩
def jDQ(n:Nat):List V:=(List.range n).map λ(i:Nat)=>V.int (i:Int)
theorem jJ8{acc:Array Value}(h:ItemsOf (λi v=>∃t,v=Value.int (0+(i:Int)*1) t) acc n):Vals (jDQ n) acc.toList:=by
 have key:∀(l:List Value) (k:Nat),(∀j v,l[j]?=some v->∃t,v=Value.int ((k+j:Nat):Int) t)->Vals ((List.range' k l.length).map λ(i:Nat)=>V.int (i:Int)) l:=by
  intro l
  induction l with
  |nil=>intro k _;exact .nil
  |cons v l ih=>
   intro k hk
   rw[aV,List.range'_succ,aP]
   refine .cons ?_ (ih (k+1) λj u hj=>?_)
   .obtain⟨t,e⟩:=hk 0 v rfl
    exact⟨t,by simpa using e⟩
   .obtain⟨t,e⟩:=hk (j+1) u (by simpa using hj)
    exact⟨t,by rw[e];congr 1;lia⟩
 have:=key acc.toList 0 λj v hj=>by
  obtain⟨t,e⟩:=h.2 j v (by simpa using hj)
  exact⟨t,by rw[e];congr 1;lia⟩
 rw[aM,h.1] at this
 unfold jDQ
 rw[List.range_eq_range']
 exact this
def jHV:yV X (.type "range") (λxs H Q=>∃j:Int,xs=[.int j]/\∀p,H p=none->Q (.ref p) (upd H p (.rng 0 j))):=by
 intro ad s σ H xs us Q I r h
 obtain⟨j,rfl,q⟩:=h
 obtain⟨u,rfl,t,rfl⟩:=r.one
 refine call_range_1 ⟨.ref s.heap.objs.size,_,I.laid (o:=.rng 0 j) (λb o e=>ae _ e) (ak _) ?_,rfl,q _ I.fresh⟩
 exact⟨_,_,_,aD _ rfl⟩
theorem jGD(hc:X.calm=true):yV X (.type "list") (λxs H Q=>∃p j,xs=[.ref p]/\H p=some (.rng 0 j)/\0<=j/\j<=1000/\∀l,H l=none->Q (.ref l) (upd H l (.lst (jDQ j.toNat)))):=by
 intro ad s σ H xs us Q I r h
 obtain⟨p,j,rfl,hp,h0,h1,q⟩:=h
 obtain⟨u,rfl,rx⟩:=r.one
 cases rx
 obtain⟨t,u,v,e⟩:=I.hok p _ hp
 have en:Builtin.Range.rangeSize 0 j 1=(j.toNat:Int):=by
  rw[rangeSize_one]
  split<;>lia
 refine call_list_range (I.ok.hd hc) (show IsRange s.heap p 0 j 1 t u v from e) (small_one (by lia) (by lia) (by lia) (by lia)) en (by lia) λh' tk acc' c' kp hS hacc=>?_
 refine⟨.ref s.heap.objs.size,_,I.laid (t':=tk) (o:=.lst (jDQ j.toNat)) kp (ak _) ?_,rfl,q _ I.fresh⟩
 refine⟨?_,acc'.toList,c',jJ8 hacc,by rw[dO];exact hS⟩
 unfold jDQ
 rw[aa,bI,dZ]
 lia
def SetO(w:World)(a:Addr)(ks:List Int):HO:=.ext λh=>SS.SetG w h a ks
def jCN{ns:List Int}:∀{us:List Value},Vals (ns.map V.int) us->IntsAre us ns:=by
 induction ns with
 |nil=>intro us h;cases h;exact .nil
 |cons n ns ih=>
  intro us h
  cases h with
  |cons r t=>
   obtain⟨k,rfl⟩:=r
   exact .cons n k (ih t)
def jAL:∀{us:List Value}{ns:List Int},IntsAre us ns->Vals (ns.map V.int) us
 |_,_,.nil=> .nil
 |_,_,.cons n t r=> .cons ⟨t,rfl⟩ (jAL r)
theorem jMO(hc:X.calm=true):yV X (.type "set") (λxs H Q=>∃(p:Addr) (ns:List Int),xs=[.ref p]/\SqL X.K H p (ns.map V.int)/\ns.length<=4/\(∀z∈ns,0<=z/\z<32)/\
  ∀(l:Addr) (ks:List Int),H l=none->(∀z,z∈ks↔z∈ns)->Q (.ref l) (upd H l (SetO X.w l ks))):=by
 intro ad s σ H xs us Q I r h
 obtain⟨p,ns,rfl,hq,hl,hv,q⟩:=h
 obtain⟨u,rfl,rx⟩:=r.one
 cases rx
 obtain⟨its,r',pl,hz⟩:=I.list hq
 have hlen:=r'.length
 rw[aa] at hlen
 refine SS.set_of_list (I.ok.hd hc) pl.isList (jCN r') (by rw[ao];lia) hv λh' tk ks S hm kp=>?_
 have hg:∃o,h'.get? s.heap.objs.size=some o:=let ⟨o,_,_,_,e,_⟩:=S.ex;⟨o,e⟩
 exact⟨.ref s.heap.objs.size,_,I.laid (t':=tk) (o:=SetO X.w s.heap.objs.size ks) kp (ak _) ⟨S,hg,λh1 h2 a b=>a.at b⟩,rfl,q _ ks I.fresh hm⟩
theorem jDY(hc:X.calm=true):yV X (.builtin "sorted") (λxs H Q=>∃(p:Addr) (ks:List Int),xs=[.ref p]/\H p=some (SetO X.w p ks)/\
  ∀(l:Addr) (ns:List Int),H l=none->ns.Pairwise (· < ·)->(∀z,z∈ns↔z∈ks)->Q (.ref l) (upd H l (.lst (ns.map V.int)))):=by
 intro ad s σ H xs us Q I r h
 obtain⟨p,ks,rfl,hp,q⟩:=h
 obtain⟨u,rfl,rx⟩:=r.one
 cases rx
 obtain⟨S,_,_⟩:=I.hok p _ hp
 refine SS.sorted_set (I.ok.hd hc) S λs' l vs ns e hl kp g d o he hi pm srt=>?_
 obtain⟨h',g',d',t',o'⟩:=s'
 have g:g'=s.gens:=g
 have o:o'=s.os:=o
 have d:d'=s.drawn:=d
 subst g;subst o;subst d
 have nd:ns.Nodup:=pm.nodup_iff.mpr S.nd
 have lt:ns.Pairwise (· < ·):=by
  have:=List.Pairwise.and srt nd
  exact this.imp λ{a b} ⟨x,y⟩=>by lia
 have hz:(ns.map V.int).length<=sizeLine:=by
  rw[aa,pm.length_eq,dZ]
  have:=S.len
  lia
 have I2:Inv X ad σ (upd H l (.lst (ns.map V.int))) {s with heap:=h',toks:=t'}:=I.laid (t':=t') kp hl ⟨hz,vs,e,jAL hi,he⟩
 exact⟨.ref l,_,I2,rfl,q l ns (I.hok.fresh hl) lt λz=>pm.mem_iff⟩
variable {p2:Pos}
section
variable {p1 p3 p4 p5 p6 p7:Pos}{k1 k2 k3 k4:Nat}
def jQO{i j r:Int}(hj:0<=j)(hj2:j<=1000000)(hi:i.natAbs<2^64)(e:i^j.toNat=r):PE X (.BinOp (.Constant (.int i) k2 p2) .Pow (.Constant (.int j) k3 p3) p4) (tC (.int r)):=λad s σ H Q I h=>
 (yE (X:=X) jKY jY jY) ad s σ H Q I ⟨_,_,rfl,rfl,⟨hj,hj2,hi⟩,by subst e;exact h⟩
def jQP{a b:Expr}{i j r:Int}(ha:PE X a (tC (.int i)))(hb:PE X b (tC (.int j)))(hc:CMul i j)(e:i*j=r):PE X (.BinOp a .Mult b p1) (tC (.int r)):=λad s σ H Q I h=>
 (yE (X:=X) jBC ha hb) ad s σ H Q I ⟨_,_,rfl,rfl,hc,by subst e;exact h⟩
def jQS{a b:Expr}{i j r:Int}(ha:PE X a (tC (.int i)))(hb:PE X b (tC (.int j)))(e:i+j=r):PE X (.BinOp a .Add b p1) (tC (.int r)):=λad s σ H Q I h=>
 (yE (X:=X) yB ha hb) ad s σ H Q I ⟨_,_,rfl,rfl,by subst e;exact h⟩
theorem jSS:PE X (.BinOp (.BinOp (.Constant (.int 2) k1 p1) .Mult (.BinOp (.Constant (.int 10) k2 p2) .Pow (.Constant (.int 12) k3 p3) p4) p5) .Add (.Constant (.int 1) k4 p6) p7) (tC (.int 2000000000001)):=
 jQS (i:=2000000000000) (jQP (j:=1000000000000) jY (jQO (by decide) (by decide) (by decide) (by decide)) (.inl ⟨by decide,by decide⟩) (by decide)) jY (by decide)
end
def ItAt(tp:Bool)(h:Heap)(it a:Addr)(i:Nat):Prop:=match tp with
 |false=>h.IsListIter it a i
 |true=>h.IsTupleIter it a i
def ObAt(tp:Bool)(h:Heap)(a:Addr)(xs:Array Value):Prop:=match tp with
 |false=>h.IsList a xs
 |true=>h.IsTuple a xs
def ItAt.but{a b:Addr}(x:ItAt tp h it a i)(e:Heap.ExtBut b h h')(n:it≠b):ItAt tp h' it a i:=by
 cases tp with
 |false=>exact Heap.IsListIter.extBut x e n
 |true=>exact Heap.IsTupleIter.extBut x e n
def ObAt.but{a b:Addr}{xs:Array Value}(x:ObAt tp h a xs)(e:Heap.ExtBut b h h')(n:a≠b):ObAt tp h' a xs:=by
 cases tp with
 |false=>exact Heap.IsList.extBut x e n
 |true=>exact Heap.IsTuple.extBut x e n
def ItAt.at{tp:Bool}{h h':Heap}{it a:Addr}{i:Nat}(x:ItAt tp h it a i)(e:∀o,h.get? it=some o->h'.get? it=some o):ItAt tp h' it a i:=by
 cases tp with
 |false=>exact Heap.IsListIter.at x e
 |true=>exact Heap.IsTupleIter.at x e
def ItAt.obj{a:Addr}(x:ItAt tp h it a i):∃o,h.get? it=some o/\∀v,o.data≠.cell v:=by
 cases tp with
 |false=>obtain⟨o,e,_,d⟩:=x;exact⟨o,e,λv q=>by rw[d] at q;cases q⟩
 |true=>obtain⟨o,e,_,d⟩:=x;exact⟨o,e,λv q=>by rw[d] at q;cases q⟩
def ObAt.lt{a:Addr}{xs:Array Value}(x:ObAt tp h a xs):a<h.objs.size:=by
 cases tp with
 |false=>obtain⟨o,e,_⟩:=x;exact aw e
 |true=>obtain⟨o,e,_⟩:=x;exact aw e
variable {w:World}{A:Around}{s:Shared}
section
variable {prog:Program}{E:Value->Shared->Prop}
def next1{a:Addr}{xs:Array Value}(hi:ItAt tp s.heap it a i)(ha:ObAt tp s.heap a xs)(hx:xs[i]?=some x)
  (k:∀h',ItAt tp h' it a (i+1)->Heap.SameBut it s.heap h'->Q x {s with heap:=h'}):wpAny (model prog w) A (Builtin.SmallTypes.nextOf (.ref it)) Q E s:=by
 cases tp with
 |false=>exact wpAny_nextOf_list_item hi ha hx k
 |true=>
  obtain⟨o,e,c,d⟩:=id (show s.heap.IsTupleIter it a i from hi)
  obtain⟨u,eu,_,n,du⟩:=(show s.heap.IsTuple a xs from ha)
  have ty:=Heap.IsTupleIter.typeIs (show s.heap.IsTupleIter it a i from hi)
  unfold Builtin.SmallTypes.nextOf
  refine ab (bK (name:=Str.ofString "__next__") ty F.slot_tuple_iterator_next (bQ F.slot_tuple_iterator_next ty F.entry_tuple_iterator_next (?_:wpAny (model prog w) _ (field (.ref it) 0 >>= _) _ _ s) (F.args_tuple_iterator_next_1 _)))
  refine ab (bX e d (x:=.ref a) rfl (?_:wpAny (model prog w) _ (if (Value.ref a==Value.none)=true then _ else _) _ _ s))
  rw[aj (by exact aq)]
  show wpAny (model prog w) _ (field (.ref it) 1 >>= _) _ _ s
  refine ab (bX e d (x:=.int i 0) rfl ?_)
  show wpAny (model prog w) _ (seqItems? (.ref a) >>= _) _ _ s
  refine ab (dB eu du ?_)
  simp only[bY,hx]
  refine ab (wpAny_setField e d (by simp) (ah ⟨x,rfl,ah (k _ ⟨_,dF _ e (Obj.isFreed_of_fields (Obj.data_mapFields d _)),(Obj.cls_mapFields ..).trans c,?_⟩ (gE ..))⟩))
  rw[Obj.data_mapFields d]
  simp[rawInt]
def next0{a:Addr}{xs:Array Value}(hh:A.handled=none)(hi:ItAt tp s.heap it a i)(ha:ObAt tp s.heap a xs)(hx:xs[i]?=none)
  (k:∀h' e,Heap.ExtBut it s.heap h'->(∃o,h'.get? e=some o/\o.cls=.type "StopIteration")->E (.ref e) {s with heap:=h'}):wpAny (model prog w) A (Builtin.SmallTypes.nextOf (.ref it)) Q E s:=by
 cases tp with
 |false=>exact wpAny_nextOf_list_end hh hi ha hx k
 |true=>
  obtain⟨o,e,c,d⟩:=id (show s.heap.IsTupleIter it a i from hi)
  obtain⟨u,eu,_,n,du⟩:=(show s.heap.IsTuple a xs from ha)
  have ty:=Heap.IsTupleIter.typeIs (show s.heap.IsTupleIter it a i from hi)
  unfold Builtin.SmallTypes.nextOf
  refine ab (bK (name:=Str.ofString "__next__") ty F.slot_tuple_iterator_next (bQ F.slot_tuple_iterator_next ty F.entry_tuple_iterator_next (?_:wpAny (model prog w) _ (field (.ref it) 0 >>= _) _ _ s) (F.args_tuple_iterator_next_1 _)))
  refine ab (bX e d (x:=.ref a) rfl (?_:wpAny (model prog w) _ (if (Value.ref a==Value.none)=true then _ else _) _ _ s))
  rw[aj (by exact aq)]
  show wpAny (model prog w) _ (field (.ref it) 1 >>= _) _ _ s
  refine ab (bX e d (x:=.int i 0) rfl ?_)
  show wpAny (model prog w) _ (seqItems? (.ref a) >>= _) _ _ s
  refine ab (dB eu du ?_)
  simp only[bY,hx]
  refine ab (cL (ab (wpAny_setField e d (by simp) (?_:wpAny (model prog w) _ (newExc (.type "StopIteration") [] >>= _) _ _ _))))
  refine ab (by
   simp only[newExc,newTuple]
   refine ab (bU (ab (m:=firstArgMember _ _) (wpAny_of_eq (a:=Value.none) (by first|rfl | (simp only[firstArgMember];rfl)) (bU ?_ (by size_fits)))) (by size_fits))
   simp only[raiseNew]
   refine ab (wpAny_handled ?_)
   first|rw[show A.in1.handled=none from hh]|rw[hh]
   exact ab (ah (wpAny_throw (k _ _ (((gE ..).extBut.push _).push _) ⟨_,aD _ rfl,rfl⟩))))
def jK3{TI TO:Addr}{xs:Array Value}{a b:Value}(D:ZipApart z TI TO i1 i2 l1 l2)
  (ez:IsZip s.heap z TI TO .none) (eI:IsPair s.heap TI (.ref i1) (.ref i2)) (eO:IsPair s.heap TO a b) (g1:ItAt t1 s.heap i1 l1 k1) (g2:ItAt t2 s.heap i2 l2 k2) (o1:ObAt t1 s.heap l1 xs) (o2:ObAt t2 s.heap l2 ys) (hx:xs[k1]?=some x) (hy:ys[k2]?=some y)
  (k:∀h',IsZip h' z TI TO (rawInt s.heap.objs.size)->IsPair h' TO x y->ItAt t1 h' i1 l1 (k1+1)->ItAt t2 h' i2 l2 (k2+1)->IsPair h' s.heap.objs.size x y->h'.objs.size=s.heap.objs.size+1->
   (∀c o,c≠z->c≠TO->c≠i1->c≠i2->s.heap.get? c=some o->h'.get? c=some o)->Q (.ref s.heap.objs.size) {s with heap:=h'}):
  wpAny (model prog w) A (Builtin.«zip.__next__» ⟨[.ref z],[]⟩) (λfin s'=>∃v,fin=.done (.ret v)/\Q v s') E s:=by
 show wpAny (model prog w) A (field (.ref z) 2 >>= _) _ _ _
 refine ab (bX ez rfl (x:=.bool false) rfl (?_:wpAny (model prog w) A (field (.ref z) 3 >>= _) _ _ _))
 refine ab (bX ez rfl (x:=.ref TI) rfl (ab (dB eI rfl (?_:wpAny (model prog w) A (Builtin.SmallTypes.ownedTupleIsFree (.ref z) >>= _) _ _ _))))
 refine ab (by
  unfold Builtin.SmallTypes.ownedTupleIsFree
  refine ab (bX ez rfl (x:=.none) rfl (ah ?_))
  simp only[gh]
  refine ab (cL (ab (bX ez rfl (x:=.ref TO) rfl (ab (bJ ez (by simp) λp1 f1 q1=>?_)))))
  have f1:IsZip p1 z TI TO .ellipsis:=f1
  refine ab (by
   simp only[iH,List.zipIdx_nil,gz,gX]
   refine ab (ab (iA (?_:wpAny (model prog w) A (Builtin.SmallTypes.nextOf (.ref i1) >>= _) _ _ _)))
   refine ab (next1 (g1.but q1.extBut D.i1z) (o1.but q1.extBut D.l1z) hx λp2 r2 q2=>ah ?_)
   have eO2:IsPair p2 TO a b:=q2.extBut _ _ D.TOi1 (q1.extBut _ _ D.TOz eO)
   refine ab (dB eO2 rfl (ab (gt eO2 λp3 eO3 q3=>ab (im (ah ?_)))))
   have eO3:IsPair p3 TO x b:=eO3
   refine ab (ab (iA (?_:wpAny (model prog w) A (Builtin.SmallTypes.nextOf (.ref i2) >>= _) _ _ _)))
   refine ab (next1 (((g2.but q1.extBut D.i2z).but q2.extBut D.i12.symm).but q3.extBut D.TOi2.symm) (((o2.but q1.extBut D.l2z).but q2.extBut D.l2i1).but q3.extBut D.l2TO) hy λp4 r4 q4=>ah ?_)
   have eO4:IsPair p4 TO x b:=q4.extBut _ _ D.TOi2 eO3
   refine ab (dB eO4 rfl (ab (gt eO4 λp5 eO5 q5=>ab (im (ah (ah ?_))))))
   have eO5:IsPair p5 TO x y:=eO5
   refine ab (dB eO5 rfl (ab (jm ?_)))
   have sz:p5.objs.size=s.heap.objs.size:=by rw[q5.1,q4.1,q3.1,q2.1,q1.1]
   have ez5:IsZip p5 z TI TO .ellipsis:=q5.extBut _ _ D.TOz.symm (q4.extBut _ _ D.i2z.symm (q3.extBut _ _ D.TOz.symm (q2.extBut _ _ D.i1z.symm f1)))
   have kp5:∀c o,c≠z->c≠TO->c≠i1->c≠i2->s.heap.get? c=some o->p5.get? c=some o:=λc o n1 n2 n3 n4 e=>q5.extBut _ _ n2 (q4.extBut _ _ n4 (q3.extBut _ _ n2 (q2.extBut _ _ n3 (q1.extBut _ _ n1 e))))
   have r15:ItAt t1 p5 i1 l1 (k1+1):=((r2.but q3.extBut D.TOi1.symm).but q4.extBut D.i12).but q5.extBut D.TOi1.symm
   have r25:ItAt t2 p5 i2 l2 (k2+1):=r4.but q5.extBut D.TOi2.symm
   have zlt:z<p5.objs.size:=aw ez5
   show wpAny (model prog w) A (Builtin.SmallTypes.ownedTupleHandOut (.ref z) (.ref p5.objs.size) >>= _) _ _ _
   refine ab ?_
   unfold Builtin.SmallTypes.ownedTupleHandOut
   have f6:IsZip (p5.push {cls:=.type "tuple",data:=.seq #[x,y]}) z TI TO .ellipsis:=ae _ ez5
   refine ab (bJ f6 (by simp) λp7 f7 q7=>?_)
   have f7:IsZip p7 z TI TO (rawInt p5.objs.size):=f7
   refine bJ f7 (by simp) λp8 f8 q8=>?_
   have f8:IsZip p8 z TI TO (rawInt p5.objs.size):=f8
   have up:∀c o,c≠z->p5.get? c=some o->p8.get? c=some o:=λc o n1 e=>q8.extBut _ _ n1 (q7.extBut _ _ n1 (ae _ e))
   have eT:IsPair p8 p5.objs.size x y:=q8.extBut _ _ (cz zlt) (q7.extBut _ _ (cz zlt) (aD _ rfl))
   have sz8:p8.objs.size=p5.objs.size+1:=by rw[q8.1,q7.1,bM]
   rw[sz] at f8 eT sz8
   refine ah ⟨_,rfl,(?_:Q (.ref p5.objs.size) _)⟩
   rw[sz]
   exact k p8 f8 (up _ _ D.TOz eO5) (r15.at λo e=>up _ o D.i1z e) (r25.at λo e=>up _ o D.i2z e) eT sz8 λc o n1 n2 n3 n4 e=>up c o n1 (kp5 c o n1 n2 n3 n4 e)))
def jN4{TI TO:Addr}{xs:Array Value}{a b:Value}{Q:Fin->Shared->Prop}(hh:A.handled=none)(D:ZipApart z TI TO i1 i2 l1 l2)
  (ez:IsZip s.heap z TI TO .none) (eI:IsPair s.heap TI (.ref i1) (.ref i2)) (eO:IsPair s.heap TO a b) (g1:ItAt t1 s.heap i1 l1 k1) (g2:ItAt t2 s.heap i2 l2 k2) (o1:ObAt t1 s.heap l1 xs) (o2:ObAt t2 s.heap l2 ys) (hend:xs[k1]?=none\/ys[k2]?=none)
  (k:∀h' e,(∀c o,c≠z->c≠TO->c≠i1->c≠i2->s.heap.get? c=some o->h'.get? c=some o)->(∃o,h'.get? e=some o/\o.cls=.type "StopIteration")->E (.ref e) {s with heap:=h'}):
  wpAny (model prog w) A (Builtin.«zip.__next__» ⟨[.ref z],[]⟩) Q E s:=by
 show wpAny (model prog w) A (field (.ref z) 2 >>= _) _ _ _
 refine ab (bX ez rfl (x:=.bool false) rfl (?_:wpAny (model prog w) A (field (.ref z) 3 >>= _) _ _ _))
 refine ab (bX ez rfl (x:=.ref TI) rfl (ab (dB eI rfl (?_:wpAny (model prog w) A (Builtin.SmallTypes.ownedTupleIsFree (.ref z) >>= _) _ _ _))))
 refine ab (by
  unfold Builtin.SmallTypes.ownedTupleIsFree
  refine ab (bX ez rfl (x:=.none) rfl (ah ?_))
  simp only[gh]
  refine ab (cL (ab (bX ez rfl (x:=.ref TO) rfl (ab (bJ ez (by simp) λp1 f1 q1=>?_)))))
  have f1:IsZip p1 z TI TO .ellipsis:=f1
  refine ab (by
   simp only[iH,List.zipIdx_nil,gz,gX]
   refine ab (ab (iA (?_:wpAny (model prog w) A (Builtin.SmallTypes.nextOf (.ref i1) >>= _) _ _ _)))
   cases hx:xs[k1]? with
   |none=>
    refine ab (next0 hh (g1.but q1.extBut D.i1z) (o1.but q1.extBut D.l1z) hx λp2 e q2 ⟨u,eu,cu⟩=>?_)
    have f2:IsZip p2 z TI TO .ellipsis:=q2 _ _ D.i1z.symm f1
    have nz:e≠z:=λv=>by subst v;rw[f2] at eu;cases eu;simp at cu
    exact bJ f2 (by simp) λp3 _ q3=>k p3 e (λc o n1 _ n3 _ v=>q3.extBut _ _ n1 (q2 _ _ n3 (q1.extBut _ _ n1 v))) ⟨u,q3.extBut _ _ nz eu,cu⟩
   |some x=>
    have hy:ys[k2]?=none:=by
     rcases hend with v|v
     .rw[hx] at v;cases v
     .exact v
    refine ab (next1 (g1.but q1.extBut D.i1z) (o1.but q1.extBut D.l1z) hx λp2 r2 q2=>ah ?_)
    have eO2:IsPair p2 TO a b:=q2.extBut _ _ D.TOi1 (q1.extBut _ _ D.TOz eO)
    refine ab (dB eO2 rfl (ab (gt eO2 λp3 eO3 q3=>ab (im (ah ?_)))))
    refine ab (ab (iA (?_:wpAny (model prog w) A (Builtin.SmallTypes.nextOf (.ref i2) >>= _) _ _ _)))
    refine ab (next0 hh (((g2.but q1.extBut D.i2z).but q2.extBut D.i12.symm).but q3.extBut D.TOi2.symm) (((o2.but q1.extBut D.l2z).but q2.extBut D.l2i1).but q3.extBut D.l2TO) hy λp4 e q4 ⟨u,eu,cu⟩=>?_)
    have f4:IsZip p4 z TI TO .ellipsis:=q4 _ _ D.i2z.symm (q3.extBut _ _ D.TOz.symm (q2.extBut _ _ D.i1z.symm f1))
    have nz:e≠z:=λv=>by subst v;rw[f4] at eu;cases eu;simp at cu
    exact bJ f4 (by simp) λp5 _ q5=>k p5 e (λc o n1 n2 n3 n4 v=>q5.extBut _ _ n1 (q4 _ _ n4 (q3.extBut _ _ n2 (q2.extBut _ _ n3 (q1.extBut _ _ n1 v))))) ⟨u,q5.extBut _ _ nz eu,cu⟩))
def jH3{TI TO:Addr}{xs:Array Value}{a b:Value}{Q:Option Value->Shared->Prop}(D:ZipApart z TI TO i1 i2 l1 l2)
  (ez:IsZip s.heap z TI TO .none) (eI:IsPair s.heap TI (.ref i1) (.ref i2)) (eO:IsPair s.heap TO a b) (g1:ItAt t1 s.heap i1 l1 k1) (g2:ItAt t2 s.heap i2 l2 k2) (o1:ObAt t1 s.heap l1 xs) (o2:ObAt t2 s.heap l2 ys) (hx:xs[k1]?=some x) (hy:ys[k2]?=some y)
  (k:∀h',IsZip h' z TI TO (rawInt s.heap.objs.size)->IsPair h' TO x y->ItAt t1 h' i1 l1 (k1+1)->ItAt t2 h' i2 l2 (k2+1)->IsPair h' s.heap.objs.size x y->h'.objs.size=s.heap.objs.size+1->
   (∀c o,c≠z->c≠TO->c≠i1->c≠i2->s.heap.get? c=some o->h'.get? c=some o)->Q (some (.ref s.heap.objs.size)) {s with heap:=h'}):
  wpAny (model prog w) A (pyNext (.ref z)) Q E s:=by
 have ty:s.TypeIs (.ref z) "zip" :=⟨_,ez,rfl⟩
 unfold pyNext
 exact ab (dQ (bK (name:=Str.ofString "__next__") ty F.slot_zip_next (bQ F.slot_zip_next ty F.entry_zip_next (jK3 D ez eI eO g1 g2 o1 o2 hx hy λh' b1 b2 b3 b4 b5 b6 b7=>ah (k h' b1 b2 b3 b4 b5 b6 b7)) (F.args_zip_next_1 _))))
def jH4{TI TO:Addr}{xs:Array Value}{a b:Value}{Q:Option Value->Shared->Prop}(hh:A.handled=none)(D:ZipApart z TI TO i1 i2 l1 l2)
  (ez:IsZip s.heap z TI TO .none) (eI:IsPair s.heap TI (.ref i1) (.ref i2)) (eO:IsPair s.heap TO a b) (g1:ItAt t1 s.heap i1 l1 k1) (g2:ItAt t2 s.heap i2 l2 k2) (o1:ObAt t1 s.heap l1 xs) (o2:ObAt t2 s.heap l2 ys) (hend:xs[k1]?=none\/ys[k2]?=none)
  (k:∀h',(∀c o,c≠z->c≠TO->c≠i1->c≠i2->s.heap.get? c=some o->h'.get? c=some o)->Q none {s with heap:=h'}):wpAny (model prog w) A (pyNext (.ref z)) Q E s:=by
 have ty:s.TypeIs (.ref z) "zip" :=⟨_,ez,rfl⟩
 unfold pyNext
 refine ab (dQ (bK (name:=Str.ofString "__next__") ty F.slot_zip_next (bQ F.slot_zip_next ty F.entry_zip_next (jN4 hh D ez eI eO g1 g2 o1 o2 hend λh' e kp ⟨u,eu,cu⟩=>?_) (F.args_zip_next_1 _))))
 exact ab (gb (T:= "StopIteration") (b:=true) ⟨u,eu,cu⟩ jl (ah (k _ kp)))
end
def qU(tp:Bool)(a:Addr):Obj:=match tp with
 |false=>{cls:=.type "list_iterator",data:=.fields #[.ref a,.int 0 0]}
 |true=>{cls:=.type "tuple_iterator",data:=.fields #[.ref a,.int 0 0]}
def jCH(tp:Bool)(a:Addr):(qU tp a).isFreed=false:=by cases tp<;>rfl
def ObAt.push{a:Addr}{xs:Array Value}(x:ObAt tp h a xs)(o:Obj):ObAt tp (h.push o) a xs:=by
 cases tp with
 |false=>exact Heap.IsList.push x o
 |true=>exact Heap.IsTuple.push x o
def jCD{a:Addr}{xs:Array Value}(h:ObAt tp s.heap a xs)(q:Q (.ref s.heap.objs.size) {s with heap:=s.heap.push (qU tp a)}):
  wpAny (model prog w) A (pyIter (.ref a)) Q E s:=by
 cases tp with
 |false=>exact dJ h q
 |true=>exact gP h q
def zp1(t1:Bool)(h:Heap)(l1:Addr):Heap:=h.push (qU t1 l1)
def zp2(t1 t2:Bool)(h:Heap)(l1 l2:Addr):Heap:=(zp1 t1 h l1).push (qU t2 l2)
def zp3(t1 t2:Bool)(h:Heap)(l1 l2:Addr):Heap:=(zp2 t1 t2 h l1 l2).push {cls:=.type "tuple",data:=.seq #[.ref h.objs.size,.ref (zp1 t1 h l1).objs.size]}
def zp4(t1 t2:Bool)(h:Heap)(l1 l2:Addr):Heap:=(zp3 t1 t2 h l1 l2).push {cls:=.type "tuple",data:=.seq #[.none,.none]}
def zp5(t1 t2:Bool)(h:Heap)(l1 l2:Addr):Heap:=(zp4 t1 t2 h l1 l2).push {cls:=.type "zip",data:=.fields #[.none,.bool false,.bool false,.ref (zp2 t1 t2 h l1 l2).objs.size,.ref (zp3 t1 t2 h l1 l2).objs.size]}
def jJL(t1 t2:Bool)(l1 l2:Addr)(xs ys:Array Value):
  Meets (Builtin.«zip.__new__» ⟨[.type "zip",.ref l1,.ref l2],[]⟩) (λ_ R s=>ObAt t1 s.heap l1 xs/\ObAt t2 s.heap l2 ys/\R (.ok (.ret (.ref (zp4 t1 t2 s.heap l1 l2).objs.size))) {s with heap:=zp5 t1 t2 s.heap l1 l2}):=
 .of_wp λprog w A R s h=>by
  obtain⟨hp,g,d,tk,os⟩:=s
  obtain⟨a1,a2,q⟩:=h
  have sub:=sub_zip
  have e1:ObAt t1 (Shared.heap ⟨hp,g,d,tk,os⟩) l1 xs:=a1
  have e2:ObAt t2 (Shared.heap ⟨hp.push (qU t1 l1),g,d,tk,os⟩) l2 ys:=ObAt.push a2 _
  wp_walk using jCD e1,jCD e2
  exact⟨_,rfl,q⟩
def ItAt.new(tp:Bool){a:Addr}(e:h.get? it=some (qU tp a)):ItAt tp h it a 0:=by
 cases tp with
 |false=>exact⟨_,e,rfl,rfl⟩
 |true=>exact⟨_,e,rfl,rfl⟩
theorem jMM{xs:Array Value}(a1:ObAt t1 s.heap l1 xs)(a2:ObAt t2 s.heap l2 ys)
  (k:∀h',IsZip h' (s.heap.objs.size+4) (s.heap.objs.size+2) (s.heap.objs.size+3) .none->IsPair h' (s.heap.objs.size+2) (.ref s.heap.objs.size) (.ref (s.heap.objs.size+1))->
   IsPair h' (s.heap.objs.size+3) .none .none->ItAt t1 h' s.heap.objs.size l1 0->ItAt t2 h' (s.heap.objs.size+1) l2 0->(∀c o,s.heap.get? c=some o->h'.get? c=some o)->Q (.ref (s.heap.objs.size+4)) {s with heap:=h'}):
  wpAny (model prog w) A (call (.type "zip") [.ref l1,.ref l2]) Q E s:=by
 refine callType_new F.called_zip (by decide) (F.typeCall_zip_2 _ _) (F.newCall_zip_2 _ _) (λobj=>F.args_object_init_3 obj _ _) F.entry_zip_new (jJL t1 t2 l1 l2 xs ys) ⟨a1,a2,?_⟩
 have z1:(zp1 t1 s.heap l1).objs.size=s.heap.objs.size+1:=bM ..
 have z2:(zp2 t1 t2 s.heap l1 l2).objs.size=s.heap.objs.size+2:=(bM ..).trans (bB (· +1) z1)
 have z3:(zp3 t1 t2 s.heap l1 l2).objs.size=s.heap.objs.size+3:=(bM ..).trans (bB (· +1) z2)
 have z4:(zp4 t1 t2 s.heap l1 l2).objs.size=s.heap.objs.size+4:=(bM ..).trans (bB (· +1) z3)
 have y5:(zp5 t1 t2 s.heap l1 l2).get? (zp4 t1 t2 s.heap l1 l2).objs.size=some {cls:=.type "zip",data:=.fields #[.none,.bool false,.bool false,.ref (zp2 t1 t2 s.heap l1 l2).objs.size,.ref (zp3 t1 t2 s.heap l1 l2).objs.size]}:=aD _ rfl
 have y4:(zp5 t1 t2 s.heap l1 l2).get? (zp3 t1 t2 s.heap l1 l2).objs.size=some {cls:=.type "tuple",data:=.seq #[.none,.none]}:=ae _ (aD _ rfl)
 have y3:(zp5 t1 t2 s.heap l1 l2).get? (zp2 t1 t2 s.heap l1 l2).objs.size=some {cls:=.type "tuple",data:=.seq #[.ref s.heap.objs.size,.ref (zp1 t1 s.heap l1).objs.size]}:=ae _ (ae _ (aD _ rfl))
 have y2:(zp5 t1 t2 s.heap l1 l2).get? (zp1 t1 s.heap l1).objs.size=some (qU t2 l2):=ae _ (ae _ (ae _ (aD _ (jCH _ _))))
 have y1:(zp5 t1 t2 s.heap l1 l2).get? s.heap.objs.size=some (qU t1 l1):=ae _ (ae _ (ae _ (ae _ (aD _ (jCH _ _)))))
 have up:∀c o,s.heap.get? c=some o->(zp5 t1 t2 s.heap l1 l2).get? c=some o:=λc o e=>ae _ (ae _ (ae _ (ae _ (ae _ e))))
 rw[z2,z3,z4] at y5
 rw[z1,z2] at y3
 rw[z3] at y4
 rw[z1] at y2
 show _/\_
 rw[z4]
 exact⟨⟨_,y5,rfl⟩,k _ y5 y3 y4 (.new t1 y1) (.new t2 y2) up⟩
def Sq(tp:Bool)(K:W.Frag)(H:Hp)(a:Addr)(xs:List V):Prop:=match tp with
 |false=>SqL K H a xs
 |true=>SqT K H a xs
def Inv.sq{H:Hp}{a:Addr}{xs:List V}(I:Inv X ad σ H s)(h:Sq tp X.K H a xs):∃its:List Value,Vals xs its/\ObAt tp s.heap a its.toArray/\xs.length<=sizeLine:=by
 cases tp with
 |false=>
  obtain⟨its,r,p,z⟩:=I.list h
  exact⟨its,r,p.isList,z⟩
 |true=>exact I.tuple h
def Inv.sq_inj{H:Hp}{a:Addr}{xs ys:List V}(I:Inv X ad σ H s)(h:Sq tp X.K H a xs)(h':Sq tp X.K H a ys):xs=ys:=by
 cases tp with
 |false=>exact I.list_inj h h'
 |true=>exact I.tuple_inj h h'
def Itz(t1 t2:Bool)(K:W.Frag)(l1 l2:Addr):It:=
 ⟨λi H=>∃xs ys x y,Sq t1 K H l1 xs/\Sq t2 K H l2 ys/\xs[i]?=some x/\ys[i]?=some y,
  λi H v H'=>∃T x y,H T=none/\v=.ref T/\H'=upd H T (.tup [x,y])/\∀xs ys,Sq t1 K H l1 xs->Sq t2 K H l2 ys->xs[i]?=some x/\ys[i]?=some y,
  λi H=>∃xs ys,Sq t1 K H l1 xs/\Sq t2 K H l2 ys/\(xs.length<=i\/ys.length<=i)⟩
theorem jNA{P:Program}{K:W.Frag}{tp:Pos}(t1 t2:Bool)(l1 l2 z TI TO i1 i2:Addr)(D:ZipApart z TI TO i1 i2 l1 l2):
  Turn P w K (.Tuple elts x1 tp) (Itz t1 t2 K l1 l2) [z,TO,i1,i2,TI] z (λi h=>IsZip h z TI TO .none/\IsPair h TI (.ref i1) (.ref i2)/\(∃a b,IsPair h TO a b)/\ItAt t1 h i1 l1 i/\ItAt t2 h i2 l2 i) where
 mem:=by simp
 obj:=λi h st b hb=>by
  obtain⟨hz,hTI,⟨a,c,hTO⟩,y1,y2⟩:=st
  simp only[ay,bG,di] at hb
  rcases hb with rfl|rfl|rfl|rfl|rfl
  .exact⟨_,hz,λv q=>by cases q⟩
  .exact⟨_,hTO,λv q=>by cases q⟩
  .exact y1.obj
  .exact y2.obj
  .exact⟨_,hTI,λv q=>by cases q⟩
 keep:=λi h h' st k=>by
  obtain⟨hz,hTI,⟨a,c,hTO⟩,h1,h2⟩:=st
  exact⟨k z (by simp) _ hz,k TI (by simp) _ hTI,⟨a,c,k TO (by simp) _ hTO⟩,h1.at λo e=>k i1 (by simp) o e,h2.at λo e=>k i2 (by simp) o e⟩
 item:=by
  intro X hP hw hK hc i ad s σ H E I hf st hg
  subst hP hw hK
  obtain⟨xs,ys,x,y,hq1,hq2,hx,hy⟩:=hg
  obtain⟨hz,hTI,⟨a,c,hTO⟩,h1,h2⟩:=st
  obtain⟨its1,r1,p1,_⟩:=I.sq hq1
  obtain⟨its2,r2,p2,_⟩:=I.sq hq2
  obtain⟨u,hu,ru⟩:=r1.get hx
  obtain⟨v,hv,rv⟩:=r2.get hy
  refine jH3 D hz hTI hTO h1 h2 p1 p2 (x:=u) (y:=v) (by simpa using hu) (by simpa using hv) λh' a1 a2 a3 a4 a5 a6 a7=>?_
  refine⟨_,rfl,wpAny_letOwnedTupleGo_zip (s:= {s with heap:=h'}) a1 λh'' b1 sb=>?_⟩
  have fresh:H s.heap.objs.size=none:=I.fresh
  have nch:∀b∈([z,TO,i1,i2]:List Addr),FpOk X ad H b:=λb hb=>hf b (by
   simp only[ay,bG,di] at hb ⊢
   rcases hb with q|q|q|q
   .exact .inl q
   .exact .inr (.inl q)
   .exact .inr (.inr (.inl q))
   .exact .inr (.inr (.inr (.inl q))))
  have ntr:∀b o,H b=some o->b∉([z,TO,i1,i2]:List Addr):=λb o e hb=>by
   have:=(nch b hb).1
   rw[e] at this;cases this
  have kp:∀b o,b∉([z,TO,i1,i2]:List Addr)->s.heap.get? b=some o->h''.get? b=some o:=λb o hb e=>by
   simp only[ay,bG,di,lh] at hb
   exact(sb.2 b hb.1).trans (a7 b o hb.1 hb.2.1 hb.2.2.1 hb.2.2.2 e)
  have nz:s.heap.objs.size≠z:=cz (aw hz)
  have hT2:h''.get? s.heap.objs.size=some {cls:=.type "tuple",data:=.seq #[u,v]}:=(sb.2 _ nz).trans a5
  have I2:Inv X ad σ (upd H s.heap.objs.size (.tup [x,y])) {s with heap:=h''}:=by
   refine I.step (g':=s.gens) (d':=s.drawn) (t':=s.toks) (ch:=[z,TO,i1,i2]) (λb hb=>?_) (λb o _ _ hb e _=>kp b o hb e) (λb o _ _ hb e _=>⟨o.slots,kp b o hb e⟩)
    (λb o _ e n=>by rw[j7 (aS (aw e))];exact n) (λb o hb e=>⟨o,kp b o hb e⟩) (λb ws e=>by rw[j7 (j8 e fresh)];exact e) (λb o ws e=>by rw[j7 (j8 e fresh)];exact e)
    (λb ps e=>⟨#[],by rw[j7 (j8 e fresh),e];simp⟩) (λm hm=>?_) (λb o e=>?_) I.bare
   .obtain⟨f0,f1,f2,f3,f4,f5⟩:=nch b hb
    exact⟨f3,f1,f4,f5⟩
   .obtain⟨o,es,ep,ho,r⟩:=hm
    exact⟨o,es,ep,kp _ o (λhb=>(nch _ hb).2.1 rfl) ho,r⟩
   .by_cases hb:b=s.heap.objs.size
    .subst hb
     rw[j5] at e
     cases e
     exact⟨by rw[dZ];show 2<=_;decide,[u,v],.cons ru (.cons rv .nil),0,hT2⟩
    .rw[j7 hb] at e
     refine(I.hok b o e).stay (λc w hc q=>kp c w ?_ q) (λc q=>by rw[j7 (j8 q fresh)];exact q) (λc ws q=>by rw[j7 (j8 q fresh)];exact q)
     rcases hc with rfl|hc
     .exact ntr _ _ e
     .exact ntr _ _ hc
  refine⟨.ref s.heap.objs.size,_,I2,rfl,⟨_,x,y,fresh,rfl,rfl,λxs' ys' q1 q2=>⟨by rw[I.sq_inj q1 hq1];exact hx,by rw[I.sq_inj q2 hq2];exact hy⟩⟩,⟨b1,?_,⟨u,v,?_⟩,?_,?_⟩,λb hb=>?_⟩
  .exact kp TI _ (by simp[D.TIz,D.TITO,D.TIi1,D.TIi2]) hTI
  .exact(sb.2 TO D.TOz).trans a2
  .exact a3.at λo e=>(sb.2 i1 D.i1z).trans e
  .exact a4.at λo e=>(sb.2 i2 D.i2z).trans e
  .rw[j7 (λq=>by
    obtain⟨o,eo⟩:∃o,s.heap.get? b=some o:=by
     simp only[ay,bG,di] at hb
     rcases hb with rfl|rfl|rfl|rfl|rfl
     .exact⟨_,hz⟩
     .exact⟨_,hTO⟩
     .obtain⟨o,e,_⟩:=h1.obj;exact⟨o,e⟩
     .obtain⟨o,e,_⟩:=h2.obj;exact⟨o,e⟩
     .exact⟨_,hTI⟩
    exact absurd (aw eo) (by rw[q];exact cf _))]
   exact(hf b hb).1
 done:=by
  intro X hP hw hK hc i ad s σ H E I hf st hg
  subst hP hw hK
  obtain⟨xs,ys,hq1,hq2,hend⟩:=hg
  obtain⟨hz,hTI,⟨a,c,hTO⟩,h1,h2⟩:=st
  obtain⟨its1,r1,p1,_⟩:=I.sq hq1
  obtain⟨its2,r2,p2,_⟩:=I.sq hq2
  have e1:=r1.length
  have e2:=r2.length
  refine jH4 (I.ok.hd hc) D hz hTI hTO h1 h2 p1 p2 (by
   rcases hend with q|q
   .exact .inl (by simp;lia)
   .exact .inr (by simp;lia)) λh' kp=>⟨rfl,?_⟩
  have nch:∀b∈([z,TO,i1,i2]:List Addr),FpOk X ad H b:=λb hb=>hf b (by
   simp only[ay,bG,di] at hb ⊢
   rcases hb with q|q|q|q
   .exact .inl q
   .exact .inr (.inl q)
   .exact .inr (.inr (.inl q))
   .exact .inr (.inr (.inr (.inl q))))
  have kp2:∀b o,b∉([z,TO,i1,i2]:List Addr)->s.heap.get? b=some o->h'.get? b=some o:=λb o hb e=>by
   simp only[ay,bG,di,lh] at hb
   exact kp b o hb.1 hb.2.1 hb.2.2.1 hb.2.2.2 e
  have ntr:∀b o,H b=some o->b∉([z,TO,i1,i2]:List Addr):=λb o e hb=>by
   have:=(nch b hb).1
   rw[e] at this;cases this
  refine I.step (g':=s.gens) (d':=s.drawn) (t':=s.toks) (ch:=[z,TO,i1,i2]) (λb hb=>?_) (λb o _ _ hb e _=>kp2 b o hb e) (λb o _ _ hb e _=>⟨o.slots,kp2 b o hb e⟩)
   (λb o _ e n=>n) (λb o hb e=>⟨o,kp2 b o hb e⟩) (λb ws e=>e) (λb o ws e=>e) (λb ps e=>⟨#[],by rw[e];simp⟩) (λm hm=>?_) (λb o e=>?_) I.bare
  .obtain⟨f0,f1,f2,f3,f4,f5⟩:=nch b hb
   exact⟨f3,f1,f4,f5⟩
  .obtain⟨o,es,ep,ho,r⟩:=hm
   exact⟨o,es,ep,kp2 _ o (λhb=>(nch _ hb).2.1 rfl) ho,r⟩
  .refine(I.hok b o e).stay (λc w hc q=>kp2 c w ?_ q) (λ_ q=>q) λ_ _ q=>q
   rcases hc with rfl|hc
   .exact ntr _ _ e
   .exact ntr _ _ hc
 self:=λ_ _ _ _ _ st h=>wpAny_pyIter_zip st.1 h
def iZip(K:W.Frag)(ta:TA):TI:=λσ H R=>ta σ H λvs H1=>∃t1 t2 l1 l2,vs=[.ref l1,.ref l2]/\(∃xs,Sq t1 K H1 l1 xs)/\(∃ys,Sq t2 K H1 l2 ys)/\R (Itz t1 t2 K l1 l2) H1
theorem jSJ{ta:TA}{p:Pos}{tp:Pos}(hg:Gl X "zip")(hm:X.mg "zip" =none)(ha:PA X [a,b] ta)(hv:bootBuiltins "zip" =some (.type "zip"):=by decide+kernel)
  (he:starEach [a,b] X.env=(false,eval a X.env)::starEach [b] X.env:=by rfl) (hpl:(backTo pos (starEach [b] X.env)).any (·.1)=false:=by rfl):
  PI X (.Tuple elts x1 tp) (.Call (.Name "zip" p) [a,b] [] pos) (iZip X.K ta):=by
 intro ad s σ H R I h
 refine Call_ (jCU I hg hm hv (cK (ln (ha pos ad s σ H _ I h) λus s1 ⟨vs,H1,I1,r1,q1⟩=>?_) he hpl))
 obtain⟨t1,t2,l1,l2,rfl,⟨xs,hq1⟩,⟨ys,hq2⟩,q⟩:=q1
 obtain⟨u,v,rfl,ru,rv⟩:=r1.two
 cases ru
 cases rv
 obtain⟨its1,_,p1,_⟩:=I1.sq hq1
 obtain⟨its2,_,p2,_⟩:=I1.sq hq2
 have lt1:l1<s1.heap.objs.size:=p1.lt
 have lt2:l2<s1.heap.objs.size:=p2.lt
 refine jMM p1 p2 λh' a1 a2 a3 a4 a5 kp=>?_
 have I2:Inv X ad σ H1 {s1 with heap:=h'}:=I1.kept (t':=s1.toks) kp
 have D:ZipApart (s1.heap.objs.size+4) (s1.heap.objs.size+2) (s1.heap.objs.size+3) s1.heap.objs.size (s1.heap.objs.size+1) l1 l2:=zipApart_new lt1 lt2
 refine wpAny_pyIter_zip a1 ⟨s1.heap.objs.size+4,[s1.heap.objs.size+4,s1.heap.objs.size+3,s1.heap.objs.size,s1.heap.objs.size+1,s1.heap.objs.size+2],_,Itz t1 t2 X.K l1 l2,H1,rfl,I2,jNA t1 t2 l1 l2 _ _ _ _ _ D,⟨a1,a2,⟨_,_,a3⟩,a4,a5⟩,λb hb=>?_,q⟩
 have hge:s1.heap.objs.size<=b:=by
  simp only[ay,bG,di] at hb
  rcases hb with rfl|rfl|rfl|rfl|rfl
  .exact dy _ 4
  .exact dy _ 3
  .exact ak _
  .exact dy _ 1
  .exact dy _ 2
 exact I1.fpOk hge (I1.hok.fresh hge)
structure JE (X:Cx)(e:Expr)(t:TE):Prop where
 h:PE X e t
structure JA (X:Cx)(es:List Expr)(t:TA):Prop where
 h:PA X es t
structure JT (X:Cx)(e:Expr)(t:TT):Prop where
 h:PT X e t
structure JTs (X:Cx)(e:List Expr)(t:TT):Prop where
 h:PTs X e t
structure JS (X:Cx)(e:Stmt)(t:TS):Prop where
 h:PS X e t
structure JSs (X:Cx)(e:List Stmt)(t:TS):Prop where
 h:PSs X e t
structure JG (X:Cx)(e:Expr)(t:TG):Prop where
 h:PG X e t
structure JGs (X:Cx)(e:List Expr)(t:TGs):Prop where
 h:PGs X e t
structure JI (X:Cx)(tg e:Expr)(t:TI):Prop where
 h:PI X tg e t
structure JO (X:Cx)(e:Option Expr)(t:TO):Prop where
 h:PO X e t
structure Loc1 (X:Cx)(x:Str):Prop where
 a:Loc X.env.scope x
 b:X.fn x=true\/X.env.scope.names.lookup x=some .local
structure Vis1 (X:Cx)(x:Str):Prop where
 a:Vis X.env.scope x
structure Gl1 (X:Cx)(x:Str):Prop where
 a:Gl X x
section
variable {o:Option Expr}{l:Nat}
structure SwOk (e:Expr)(o:Option Expr):Prop where
 h:∀l env,swapsWith e o l env=pure false
def jBP{op:Operator}:SwOk (.BinOp a op b pos) o:=⟨λ_ _=>rfl⟩
def jZ:SwOk (.Call a xs kw pos) o:=⟨λ_ _=>rfl⟩
def jBO:SwOk (.Subscript a b pos) o:=⟨λ_ _=>rfl⟩
def jKD{x1}:SwOk (.Tuple xs x1 pos) o:=⟨λ_ _=>rfl⟩
def jBA:SwOk (.List xs pos) o:=⟨λ_ _=>rfl⟩
def jNH{c k}:SwOk (.Constant c k pos) o:=⟨λ_ _=>rfl⟩
def jEL:jCM (.Call a xs kw pos):=λ_ _=>rfl
def jD{i:Int}{k}:jCM (.Constant (.int i) k pos):=λ_ _=>rfl
def kN{x:Str}:jCM (.Name x pos):=λ_ _=>rfl
structure FoOk (iter:Expr):Prop where
 h:∀env x,foldedSetIterable iter env x=pure x
def kQ:FoOk (.Call a xs kw pos):=⟨λ_ _=>rfl⟩
def yM{x:Str}:FoOk (.Name x pos):=⟨λ_ _=>rfl⟩
def qV:FoOk (.Subscript a b pos):=⟨λ_ _=>rfl⟩
structure TvOk (e:Expr):Prop where
 h:∀env whole,isTrue e env whole=(do let v <- whole;standAt e.pos;holding [v] (truthy v))
def qB:TvOk (.Call a xs kw pos):=⟨λ_ _=>rfl⟩
end
variable {te:TE}{x:Str}
section
variable {e o:Expr}{ta tb to:TE}{t:TA}{p cpos apos:Pos}{T:String}{id:String}
theorem jv(i:Nat)(hN:X.N[i]?=some x)(hv:Vis1 X x)(hd:(x==("__debug__":Str))=false:=by decide)(hcd:(x==("__classdict__":Str))=false:=by decide):JE X (.Name x pos) (tVar i):=⟨jPC hN hv.a hd hcd⟩
def j9{i j}:JE X (.Constant (.int i) j pos) (tC (.int i)):=⟨jY⟩
def xD{i j}:JE X (.Constant (.bool i) j pos) (tC (.bl i)):=⟨pe_bl⟩
def jPJ{j}:JE X (.Constant .none j pos) (tC .non):=⟨jSR⟩
def jBD{i j}:JE X (.Constant (.str i) j pos) (tC (.str i)):=⟨jSO⟩
theorem jBL{v:V}{u:Value}(hg:Gl1 X x)(hm:X.mg x=none)(hv:bootBuiltins x=some u)(r:RelV v u)(hn:x≠"__name__" :=by decide)(hd:(x==("__debug__":Str))=false:=by decide):JE X (.Name x pos) (tC v):=⟨jQT hg.a hm hv r hn hd⟩
def jW{op:Operator}{r:R2}(ho:OpR X (binaryOp op) r)(ha:JE X a ta)(hb:JE X b tb):JE X (.BinOp a op b pos) (tOp r ta tb):=⟨yE ho ha.h hb.h⟩
def je_un{op:UnaryOp}{r:V->Hp->VK->Prop}(ho:UnR X (unaryOp op) r)(ha:JE X a ta):JE X (.UnaryOp op a pos) (tUn r ta):=⟨pe_un ho ha.h⟩
def jTK(ha:JE X a ta):JE X (.UnaryOp .Not a pos) (tNotV ta):=⟨jSQ ha.h⟩
def jCG{r:R2}(ho:OpR X (compareOp op) r)(ha:JE X a ta)(hb:JE X b tb)(hm:behindInMarks op b=false):JE X (.Compare a [op] [b] pos) (tOp r ta tb):=⟨jQQ ho ha.h hb.h hm⟩
def jLT{rest:List Expr}(ha:JE X a ta)(hb:JE X (.BoolOp .And (b::rest) pos) tb):JE X (.BoolOp .And (a::b::rest) pos) (tAndV ta tb):=⟨jST ha.h hb.h⟩
def jLQ{op}(ha:JE X a ta):JE X (.BoolOp op [a] pos) ta:=⟨jSP ha.h⟩
def jLR(h:JA X es t):JE X (.List es pos) (tLst t):=⟨jIE h.h⟩
def jIP{x1}(h:JA X es t):JE X (.Tuple es x1 pos) (tTup t):=⟨jSN h.h⟩
def jC0{lo hi:Option Expr}{tl th:TO}{r:V->Option Int->Option Int->Hp->VK->Prop}(hr:SlR X r)(he:JE X e te)(hl:JO X lo tl)(hu:JO X hi th):JE X (.Subscript e (.Slice lo hi none p2) pos) (tSl r te tl th):=⟨jNX hr he.h hl.h hu.h⟩
def jK{r:R2}(hr:IxR X r)(ha:JE X a ta)(hb:JE X b tb)(hs:jCM b):JE X (.Subscript a b pos) (tOp r ta tb):=⟨pe_ix hr ha.h hb.h hs⟩
theorem kG{T}(hc:yV X (.type T) r)(hg:Gl1 X x)(hm:X.mg x=none)(hv:bootBuiltins x=some (.type T))(ha:JA X (e::es) t)(he:starEach (e::es) X.env=(false,eval e X.env)::starEach es X.env)(hn:x≠"__name__" :=by decide)(hdb:(x==("__debug__":Str))=false:=by decide)
  (hpl:(backTo pos (starEach es X.env)).any (·.1)=false:=by rfl):JE X (.Call (.Name x p) (e::es) [] pos) (tCB r t):=⟨jBW hc hg.a hm hv ha.h hn hdb he hpl⟩
theorem jF{id}(hc:yV X (.builtin id) r)(hg:Gl1 X x)(hm:X.mg x=none)(hv:bootBuiltins x=some (.builtin id))(ha:JA X (e::es) t)(he:starEach (e::es) X.env=(false,eval e X.env)::starEach es X.env)(hn:x≠"__name__" :=by decide)(hdb:(x==("__debug__":Str))=false:=by decide)
  (hpl:(backTo pos (starEach es X.env)).any (·.1)=false:=by rfl):JE X (.Call (.Name x p) (e::es) [] pos) (tCB r t):=⟨jEP hc hg.a hm hv ha.h hn hdb he hpl⟩
def j6:JA X [] tNil:=⟨yU⟩
def j3(ha:JE X e te)(hr:JA X es t)(hs:starEach (e::es) X.env=(false,eval e X.env)::starEach es X.env):JA X (e::es) (tCons te t):=⟨kP ha.h hr.h hs⟩
def jM{r:R2}(ho:OpR X (compareOp op) r)(ha:JE X a ta)(hb:JE X b tb)(hm:behindInMarks op b=false):JT X (.Compare a [op] [b] pos) (tTest (tOp r ta tb)):=⟨jDJ ho ha.h hb.h hm⟩
def qP(h:JE X e te)(he:TvOk e):JT X e (tB te):=⟨jSF h.h (he.h _)⟩
def jBZ{tA:TT}(ha:JT X a tA):JT X (.UnaryOp .Not a pos) (tNot tA):=⟨jSG ha.h⟩
def kO:JTs X [] yH:=⟨jKR⟩
def jAP{t:TT}(h:JT X e t):JTs X [e] t:=⟨jKQ h.h⟩
def jJ{i:Nat}(hN:X.N.Nodup)(hi:X.N[i]?=some x)(hx:Loc1 X x):JG X (.Name x pos) (kI i):=⟨jEO hN hi hx.a hx.b⟩
def kY(hg:Gl1 X "range")(hm:X.mg "range" =none)(ha:JA X [a] t)(hs:starEach [a] X.env=(false,eval a X.env)::starEach [] X.env):JI X tg (.Call (.Name "range" p) [a] [] pos) (iRng1 t):=⟨jBV hg.a hm ha.h hs⟩
def yK(hl:JE X a ta):JI X tg a (iList X.K ta):=⟨jQK hl.h⟩
def qT(hl:JE X a ta):JI X tg a (iTup X.K ta):=⟨jSK hl.h⟩
theorem jIM{tp:Pos}(hg:Gl1 X "zip")(hm:X.mg "zip" =none)(ha:JA X [a,b] t)(he:starEach [a,b] X.env=(false,eval a X.env)::starEach [b] X.env)(hv:bootBuiltins "zip" =some (.type "zip"):=by decide+kernel)
  (hpl:(backTo pos (starEach [b] X.env)).any (·.1)=false:=by rfl):JI X (.Tuple elts x1 tp) (.Call (.Name "zip" p) [a,b] [] pos) (iZip X.K t):=⟨jSJ hg.a hm ha.h hv he hpl⟩
def jDN:JO X none jEE:=⟨jQG⟩
def jDM(h:JE X e te):JO X (some e) (tPart te):=⟨jQF h.h⟩
def jL{i:Nat}{pos':Pos}(hN:X.N.Nodup)(hi:X.N[i]?=some x)(hx:Loc1 X x)(he:JE X e te)(hs:SwOk e (some (.Name x pos'))):JS X (.Assign [.Name x pos'] e pos) (tAsg te (kI i)):=⟨qO hN hi hx.a he.h (hs.h _ _) hx.b⟩
def kD(he:JE X e te):JS X (.Return (some e) pos) (tRet te):=⟨jCS he.h⟩
def jAQ(he:JE X e te)(hs:SwOk e none):JS X (.Expr e pos) (tDrop te):=⟨jQD he.h (hs.h _ _)⟩
def yC:JSs X [] tNext:=⟨jEN⟩
def jC{t:TS}(h1:JS X st t):JSs X [st] t:=⟨jAW h1.h⟩
def jA{rest:List Stmt}{t u:TS}(h1:JS X st t)(h2:JSs X rest u):JSs X (st::rest) (tSeq t u):=⟨yI h1.h h2.h⟩
def qD{a b:List Stmt}{tc:TT}{t u:TS}(hc:JT X c tc)(ha:JSs X a t)(hb:JSs X b u):JS X (.If c a b pos) (tIfS tc t u):=⟨ps_if hc.h ha.h hb.h⟩
def yZ{iter:Expr}{wi:TI}{g:TG}{tb:TS}(hp:PassesOwn (model X.prog X.w) X.A X.env X.xe)(hc:X.calm=true)(hi:JI X tg iter wi)(hg:JG X tg g)(hb:JSs X body tb)(hs:FoOk iter):JS X (.For tg iter body [] pos) (tFor wi g tb):=⟨jP7 hp hc hi.h hg.h hb.h (hs.h _)⟩
theorem xC{name:Str}{r}(pa:PlainAttrs T)(slot:Slot T name id)(hty:typeOf (.builtin id)=pure (.type "method_descriptor"))(hm:MtR X id r)(ho:JE X o to)(ha:JA X (e::es) t)
  (hs:starEach (e::es) X.env=(false,eval e X.env)::starEach es X.env)
  (hbase:attributeBase o name X.env (eval o X.env)=eval o X.env:=by rfl)
  (hfew:((backTo cpos (starEach (e::es) X.env)).all (λx=>!x.1)&&(backToKw cpos (keywordEach [] X.env)).all (λx=>x.1.isSome)
   &&decide ((e::es).length+([]:List Keyword).length+(if ([]:List Keyword).isEmpty then 0 else 1)<30))=true:=by rfl)
  (hline:(apos.endLine==cpos.line)=true:=by rfl) (hplain:(backTo cpos (starEach es X.env)).any (·.1)=false:=by rfl):
  JE X (.Call (.Attribute o name apos) (e::es) [] cpos) (tBM X.K T r to t):=⟨pe_bm pa slot hty hm ho.h ha.h hbase hfew hline hs hplain⟩
def kJ{tg iter elt:Expr}{ifs:List Expr}{sc:Scope}{wi:TI}{g:TG}{tt:TT}{m:List (Option Nat)}{Nc:List Str}(hc:X.calm=true)(hi:JI X tg iter wi)(hkind:sc.kind=.function)(hcell:∀y∈sc.names,y.2≠.cell)(hnames:∀y∈sc.names,y.2=.local->sc.names.lookup y.1=some .local)
  (hfree:Fq X sc) (hm:qX X sc Nc m)
  (hg:∀cl C fp s H,JG (blk X sc cl C Nc fp s H) tg g) (ht:∀cl C fp s H,JTs (blk X sc cl C Nc fp s H) ifs tt) (he:∀cl C fp s H,JE (blk X sc cl C Nc fp s H) elt te)
  (hs:FoOk iter):JE X (.ListComp elt [⟨tg,iter,ifs,0⟩] sc pos) (tComp m wi g tt te):=⟨jH7 hc hi.h hkind hcell hnames hfree hm (λcl C fp s H=>(hg cl C fp s H).h) (λcl C fp s H=>(ht cl C fp s H).h) (λcl C fp s H=>(he cl C fp s H).h) (hs.h _)⟩
def jTM{p1 p3 p4 p5 p6 p7:Pos}{k3 k4:Nat}:JE X (.BinOp (.BinOp (.Constant (.int 2) k1 p1) .Mult (.BinOp (.Constant (.int 10) k2 p2) .Pow (.Constant (.int 12) k3 p3) p4) p5) .Add (.Constant (.int 1) k4 p6) p7) (tC (.int 2000000000001)):=⟨jSS⟩
end
variable {P:Program}{mg:Str->Option Value}{base:Heap}{N:List Str}{qual:Str}{sc:Scope}{f:Addr}{cdv:Value}{outer:List Env}{H:Hp}{E:XK}
section
variable {K:W.Frag}
def gl_d(h:sc.names.lookup x=some .globalImplicit):Gl1 (cxOf CX0 P w K mg base N qual sc f cdv A outer s H E).nox x:=⟨h⟩
theorem gD(h:sc.names.lookup x=some .globalImplicit:=by decide+kernel):Gl1 (cxOf CX0 P w K mg base N qual sc f cdv A outer s H E).nox x:=gl_d h
def vis_l(h:sc.names.lookup x=some .local):Vis1 (cxOf CX0 P w K mg base N qual sc f cdv A outer s H E).nox x:=⟨.inl h⟩
theorem vL(h:sc.names.lookup x=some .local:=by decide+kernel):Vis1 (cxOf CX0 P w K mg base N qual sc f cdv A outer s H E).nox x:=vis_l h
def vis_c(h:sc.names.lookup x=some .cell):Vis1 (cxOf CX0 P w K mg base N qual sc f cdv A outer s H E).nox x:=⟨.inr (.inl h)⟩
theorem vC(h:sc.names.lookup x=some .cell:=by decide+kernel):Vis1 (cxOf CX0 P w K mg base N qual sc f cdv A outer s H E).nox x:=vis_c h
end
def jA2{env:Env}{x:Str}{k:NameKind}(hk:k≠.free):∀{l:List (Str×NameKind)},l.lookup x=some k->
  (l.map λ(n,k)=>if (k==NameKind.free&&env.scope.kind==.function&&env.kindOf n==some .cell) then (n,NameKind.cell) else (n,k)).lookup x=some k
 |[],h=>by cases h
 | (n,k')::r,h=>by
  have ih:= @jA2 env x k hk r
  rw[aU] at h
  rw[aP]
  dsimp only
  by_cases hb:(k'==NameKind.free&&env.scope.kind==.function&&env.kindOf n==some .cell)=true
  .rw[ai hb,aU]
   cases hx:x==n with
   |true=>
    rw[hx] at h
    have e:k'=k:=bj h
    simp only[ba] at hb
    exact absurd (e.symm.trans (eq_of_beq hb.1.1)) hk
   |false=>rw[hx] at h;exact ih h
  .rw[aj hb,aU]
   cases hx:x==n with
   |true=>rw[hx] at h;exact h
   |false=>rw[hx] at h;exact ih h
variable {cl:List (Str×Addr)}{C:Addr}{Nc:List Str}{fp:List Addr}
theorem gl_b(h:sc.names.lookup x=some .globalImplicit:=by decide+kernel):Gl1 (blk X sc cl C Nc fp s H) x:=⟨jA2 (by decide) h⟩
theorem jV(h:sc.names.lookup x=some .local:=by decide+kernel):Vis1 (blk X sc cl C Nc fp s H) x:=⟨.inl (jA2 (by decide) h)⟩
theorem jX(h:sc.names.lookup x=some .free:=by decide+kernel):Vis1 (blk X sc cl C Nc fp s H) x:=⟨.inr (jAF h)⟩
theorem yG(h:sc.names.lookup x=some .local:=by decide+kernel):Loc1 (blk X sc cl C Nc fp s H) x:=⟨.inl (jA2 (by decide) h),.inr (jA2 (by decide) h)⟩
section
variable {K:W.Frag}
def loc_l(h:sc.names.lookup x=some .local):Loc1 (cxOf CX0 P w K mg base N qual sc f cdv A outer s H E).nox x:=⟨.inl h,.inl rfl⟩
theorem lL(h:sc.names.lookup x=some .local:=by decide+kernel):Loc1 (cxOf CX0 P w K mg base N qual sc f cdv A outer s H E).nox x:=loc_l h
theorem qI(h:sc.names.lookup x=some .cell:=by decide+kernel):Loc1 (cxOf CX0 P w K mg base N qual sc f cdv A outer s H E).nox x:=⟨.inr h,.inl rfl⟩
end
structure JW (X:Cx)(e:Expr)(t:TT):Prop where
 h:PW X e t
section
variable {rest:List Expr}{tA tB':TT}
def jHI(ha:JT X a tA):JW X (.BoolOp .And [a] pos) tA:=⟨jQA ha.h⟩
def jG1(ha:JT X a tA):JW X (.BoolOp .Or [a] pos) tA:=⟨jSC ha.h⟩
def jLO(ha:JT X a tA)(hb:JW X (.BoolOp .And (b::rest) pos) tB'):JW X (.BoolOp .And (a::b::rest) pos) (tAnd tA tB'):=⟨jSE ha.h hb.h⟩
def jw_or(ha:JT X a tA)(hb:JW X (.BoolOp .Or (b::rest) pos) tB'):JW X (.BoolOp .Or (a::b::rest) pos) (tOr tA tB'):=⟨pw_or ha.h hb.h⟩
def jt_w(h:JW X a tA):JT X a tA:=⟨h.h.pt⟩
def jEX:JGs X [] gNil:=⟨jQM⟩
structure AsOk (e:Expr):Prop where
 h:∀es env,assignEach (e::es) env=(false,assign e env)::assignEach es env
def jB3:AsOk (.Name x pos):=⟨λ_ _=>rfl⟩
def jAK{t:TG}{u:TGs}(h1:JG X e t)(h2:JGs X es u)(hs:AsOk e):JGs X (e::es) (qZ t u):=⟨jNW h1.h h2.h (by rw[hs.h];rfl)⟩
def jIO{es:List Expr}{k:Nat}{t:TGs}{n:Nat}(hc:X.calm=true)(h:JGs X es t)(hn:(assignEach es X.env).length=n:=by rfl)(hst:(assignEach es X.env).findIdx? (·.1)=none:=by rfl):JG X (.Tuple es k pos) (gTup X.K n t):=⟨jSM hc h.h hn hst⟩
def jL8:behindInMarks op (.Name x pos)=false:=by cases op<;>rfl
end
def jDO{X:Cx}{sc:Scope}{cl:List (Str×Addr)}{C:Addr}{Nc:List Str}{fp:List Addr}{s:Shared}{H:Hp}{x y:Str}{p1 p2 pos:Pos}{k:Nat}{i j:Nat}(hc:X.calm=true)(hN:Nc.Nodup)(hi:Nc[i]?=some x)(hj:Nc[j]?=some y)(hx:sc.names.lookup x=some .local)(hy:sc.names.lookup y=some .local):
  JG (blk X sc cl C Nc fp s H) (.Tuple [.Name x p1,.Name y p2] k pos) (gTup X.K 2 (qZ (kI i) (qZ (kI j) gNil))):=
 jIO (X:=blk X sc cl C Nc fp s H) hc (jAK (jJ hN hi (yG hx)) (jAK (jJ hN hj (yG hy)) jEX jB3) jB3)
variable {m:List (Option Nat)}{g:TG}{tt:TT}{H1:Hp}{Q:VK}
section
variable {K:W.Frag}{σ:St}
theorem jJ2{t1 t2:Bool}{l1 l2:Addr}{xs ys:List V}(hn:xs.length<sizeLine)(Pv:Addr->Nat->St->Hp->List V->Prop)(h0:∀D,H1 D=none->Pv D 0 (blkσ m σ) (upd H1 D (.lst [])) [])
  (hD:∀D i σ' H' zs,H1 D=none->Pv D i σ' H' zs->Sq t1 K H' l1 xs/\Sq t2 K H' l2 ys/\H' D=some (.lst zs)/\zs.length<=i)
  (hs:∀D i σ' H' zs x y T,H1 D=none->xs[i]?=some x->ys[i]?=some y->H' T=none->Pv D i σ' H' zs->g (.ref T) σ' (upd H' T (.tup [x,y])) λσ2 H2=>tt σ2 H2 λb H3=>if b=true then te σ2 H3 λv H4=>H4 D=some (.lst zs)/\Pv D (i+1) σ2 (upd H4 D (.lst (zs++[v]))) (zs++[v]) else Pv D (i+1) σ2 H3 zs)
  (hd:∀D σ' H' zs,H1 D=none->Pv D (min xs.length ys.length) σ' H' zs->Q (.ref D) H'):qJ m g tt te σ Q (Itz t1 t2 K l1 l2) H1:=by
 intro D hDn
 refine⟨λi k σ' H' zs=>k=min xs.length ys.length-i/\i<=min xs.length ys.length/\Pv D i σ' H' zs,⟨_,rfl,bb _,h0 D hDn⟩,?_⟩
 rintro i k σ' H' zs ⟨rfl,hi,p⟩
 obtain⟨s1,s2,q1,q2⟩:=hD D i σ' H' zs hDn p
 refine⟨q1,by lia,?_⟩
 by_cases hlt:i<min xs.length ys.length
 .have a1:i<xs.length:=by lia
  have a2:i<ys.length:=by lia
  refine .inr ⟨⟨xs,ys,xs[i],ys[i],s1,s2,by simp[a1],by simp[a2]⟩,Pv D (i+1),λσ2 H2 zs z=>⟨min xs.length ys.length-(i+1),by lia,rfl,hlt,z⟩,λv H'' y=>?_⟩
  obtain⟨T,x,y,e1,e2,e3,e4⟩:=y
  subst e2 e3
  obtain⟨z1,z2⟩:=e4 xs ys s1 s2
  exact hs D i σ' _ zs x y T hDn z1 z2 e1 p
 .have e:i=min xs.length ys.length:=by lia
  subst e
  exact .inl ⟨⟨xs,ys,s1,s2,by lia⟩,hd D σ' H' zs hDn p⟩
end
def jHB:OpR (blk X sc cl C Nc fp s H) (compareOp .In) (rIn X.K false):=jKZ
def jE6:OpR (blk X sc cl C Nc fp s H) (compareOp .NotIn) (rIn X.K true):=jFU
def yN:IxR (blk X sc cl C Nc fp s H) (rIxL X.K):=kX
def jAB:IxR (blk X sc cl C Nc fp s H) (rIxT X.K):=jU
def Ext(H H':Hp):Prop:=∀b o,H b=some o->H' b=some o
def Ext.refl(H:Hp):Ext H H:=λ_ _ h=>h
def Ext.trans{H2:Hp}(a:Ext H H1)(b:Ext H1 H2):Ext H H2:=λc o h=>b c o (a c o h)
def Ext.new(a:Ext H H1)(hl:H1 l=none)(o:HO):Ext H (upd H1 l o):=λc u h=>by
 have:=a c u h
 rw[j7 (j8 this hl)]
 exact this
def Ext.updNew(a:Ext H H1)(hl:H l=none)(o:HO):Ext H (upd H1 l o):=λc u h=>by
 rw[j7 (j8 h hl)]
 exact a c u h
def TupR(H:Hp)(xs:List V)(Q:VK):Prop:=∀r H',H' r=some (.tup xs)->Ext H H'->Q (.ref r) H'
def TupR.new{xs:List V}(q:TupR H xs Q)(hp:H p=none):Q (.ref p) (upd H p (.tup xs)):=q p _ j5 ((Ext.refl H).new hp _)
def TupR.old{xs:List V}(q:TupR H xs Q)(hp:H p=some (.tup xs)):Q (.ref p) H:=q p H hp (Ext.refl H)
def rCatU:R2:=λx y H Q=>∃a b xs ys,x=.ref a/\y=.ref b/\H a=some (.tup xs)/\H b=some (.tup ys)/\xs.length+ys.length<=sizeLine/\TupR H (xs++ys) Q
def jER:OpR X (binaryOp .Add) rCatU:=by
 intro ad s σ H x y v u Q I rx ry h
 obtain⟨a,b,xs,ys,rfl,rfl,ha,hb,hz,q⟩:=h
 by_cases hx:xs=[]
 .subst hx
  cases rx
  cases ry
  obtain⟨_,its,r1,n1,e1⟩:=I.hok a _ ha
  obtain⟨_,its2,r2,n2,e2⟩:=I.hok b _ hb
  cases r1
  exact concat_meets ⟨_,e1,rfl⟩ ⟨_,e2,rfl⟩ iE seq_tuple_add fI fo (fb _ _) (AutoSeq1.tuple___add___tuple_tuple_0 a _ n1 b its2.toArray n2 (by simp)) ⟨e1,e2,.ref b,H,I,rfl,q.old hb⟩
 .refine jQW ad s σ H _ _ v u Q I rx ry ⟨a,b,xs,ys,rfl,rfl,SqT.of ha,SqT.of hb,hx,hz,λe=>?_,λ_ p hp=>q.new hp⟩
  subst e
  rw[bS] at q
  exact q.old ha
section
variable (l:Addr)(items:Array Value)(n:Nat)(x:Int)(u:Tok)(h1:¬(decide (x< -(2^63)) ||decide (x ≥ 2^63))=true)
include h1
end
theorem jCI{E:Value->Shared->Prop}{t sl:Addr}{items:Array Value}{vl vu:Value}{lo hi:Option Int}{Q:Value->Shared->Prop}
  (e0:s.heap.get? t=some {cls:=.type "tuple",data:=.seq items n}) (hs:s.heap.IsSliceOf sl vl vu .none) (pl:IsPart vl lo) (pu:IsPart vu hi)
  (hw:HT.sIx items.size 0 lo=0/\HT.sIx items.size items.size hi=items.size) (h:Q (.ref t) s):wpAny (model prog w) A (getItem (.ref t) (.ref sl)) Q E s:=by
 have ht:IsTup s.heap t items:=⟨_,e0,rfl,n,rfl⟩
 obtain⟨os,hos,hcs,hds⟩:=id hs
 have hTs:s.TypeIs (.ref sl) "slice" :=⟨os,hos,hcs⟩
 unfold getItem
 try with_reducible refine cx ?_
 first|refine ab (ah ?_)|skip
 refine ab (wpAny_sequenceKey ht.typeIs (by decide) (ab (bK (name:=Str.ofString "__getitem__") ht.typeIs b9
  (bQ b9 ht.typeIs entry_tuple_getitem (?_:wpAny (model prog w) _ (Builtin.Tuple.tupleItemsOf (.ref t) >>= _) _ _ s) (args_tuple_getitem _ _)))))
 refine ab (tupleItemsOf_ ht (ab (gH hTs ?_)))
 rw[ai (by decide)]
 refine ab (HT.sliceApplied_gen hs pl pu ?_)
 have yes:(((HT.sIx items.size 0 lo:Nat):Int)==0&&(1:Int)==1&&(HT.sIx items.size items.size hi-HT.sIx items.size 0 lo)==items.size)=true:=by
  rw[hw.1,hw.2]
  simp
 show wpAny (model prog w) _ (if (((HT.sIx items.size 0 lo:Nat):Int)==0&&(1:Int)==1&&(HT.sIx items.size items.size hi-HT.sIx items.size 0 lo)==items.size)=true then _ else _) _ _ s
 rw[ai yes]
 have ex:∀{A:Around}{Q:Bool->Shared->Prop},Q true s->wpAny (model prog w) A (Builtin.Tuple.tupleIsExact (.ref t)) Q E s:=λq=>by
  unfold Builtin.Tuple.tupleIsExact
  exact ab (gH ⟨_,e0,rfl⟩ (ah q))
 refine ab (ex ?_)
 rw[ai rfl]
 exact ab (cL (ah ⟨_,rfl,ah h⟩))
def rSlU:V->Option Int->Option Int->Hp->VK->Prop:=λx lo hi H Q=>∃a xs,x=.ref a/\H a=some (.tup xs)/\TupR H (cutV xs lo hi) Q
def jQ3:SlR X rSlU:=by
 intro ad s σ H x v vl vu lo hi sl Q I rx hs pl pu h
 obtain⟨a,xs,rfl,hx,q⟩:=h
 by_cases hw:HT.sIx xs.length 0 lo=0/\HT.sIx xs.length xs.length hi=xs.length
 .cases rx
  obtain⟨_,its,r,n,e⟩:=I.hok a _ hx
  have hlen:its.toArray.size=xs.length:=by rw[ao];exact r.length.symm
  refine⟨"tuple",_,b9.lookup,⟨_,e,rfl⟩,jCI e hs pl pu (by rw[hlen];exact hw) ⟨.ref a,H,I,rfl,q.old ?_⟩⟩
  rw[hx]
  congr 2
  unfold cutV
  rw[hw.1,hw.2]
  simp
 .exact jS7 ad s σ H _ v vl vu lo hi sl Q I rx hs pl pu ⟨a,xs,rfl,SqT.of hx,hw,λp hp=>q.new hp⟩
theorem Inv.big'(I:Inv X ad σ H s):sysModules<s.heap.objs.size:=iT (by decide) (I.mod.glob.keeps I.bk).lt
def jS5:TE:=λ_ H Q=>∀p,H p=none->Q (.ref p) (upd H p (.dK []))
def jOK:JE X (.Dict [] [] pos) jS5:=⟨λad s σ H Q I h=>
 wpAny_Dict_empty ⟨.ref s.heap.objs.size,_,I.laid (a:=s.heap.objs.size) (o:=.dK []) (t':=s.toks) (λ_ _ q=>ae _ q) (ak _)
  ⟨bb _,cD.mpr (bO (aS I.big')),[],.nil,Heap.DictOf.new s.heap⟩,rfl,h _ (I.hok.fresh (ak _))⟩⟩
def jOM{ta tb tc:TE}{op':CmpOp}{r r':R2}(ho:OpR X (compareOp op) r)(ho':OpR X (compareOp op') r')(ha:JE X a ta)(hb:JE X b tb)(hc:JE X c tc)
  (hm:lastMarks [op,op'] [b,c]=false:=by with_unfolding_all rfl):JE X (.Compare a [op,op'] [b,c] pos) (jP3 r r' ta tb tc):=⟨jO1 ho ho' ha.h hb.h hc.h hm⟩
def jIL(he:JE X e te)(hg:JG X tg g)(hs:swapsWithSole [tg] e pos.line X.env=pure false:=by rfl)(hw:swappedStores [tg] e X.env=pure none:=by rfl)
  (h1:(assignEach [tg] X.env).map (·.2)=[assign tg X.env]:=by rfl):JS X (.Assign [tg] e pos) (tAsg te g):=⟨jP8 he.h hg.h hs hw h1⟩
section
variable {K:W.Frag}{σ:St}
theorem jB7{a:Addr}{xs:List V}(hn:xs.length<sizeLine)(Pv:Addr->Nat->St->Hp->List V->Prop)(h0:∀D,H1 D=none->Pv D 0 (blkσ m σ) (upd H1 D (.lst [])) [])
  (hD:∀D i σ' H' zs,H1 D=none->Pv D i σ' H' zs->H' a=some (.tup xs)/\H' D=some (.lst zs)/\zs.length<=i)
  (hs:∀D i σ' H' zs x,H1 D=none->xs[i]?=some x->Pv D i σ' H' zs->g x σ' H' λσ2 H2=>tt σ2 H2 λb H3=>if b=true then te σ2 H3 λv H4=>H4 D=some (.lst zs)/\Pv D (i+1) σ2 (upd H4 D (.lst (zs++[v]))) (zs++[v]) else Pv D (i+1) σ2 H3 zs)
  (hd:∀D σ' H' zs,H1 D=none->Pv D xs.length σ' H' zs->Q (.ref D) H'):qJ m g tt te σ Q (Itt K a) H1:=by
 intro D hDn
 refine⟨λi k σ' H' zs=>k=xs.length-i/\i<=xs.length/\Pv D i σ' H' zs,⟨_,rfl,bb _,h0 D hDn⟩,?_⟩
 rintro i k σ' H' zs ⟨rfl,hi,p⟩
 obtain⟨s1,q1,q2⟩:=hD D i σ' H' zs hDn p
 refine⟨q1,by lia,?_⟩
 by_cases hlt:i<xs.length
 .refine .inr ⟨⟨xs,xs[i],SqT.of s1,by simp[hlt]⟩,Pv D (i+1),λσ2 H2 zs z=>⟨xs.length-(i+1),by lia,rfl,hlt,z⟩,λv H'' y=>?_⟩
  obtain⟨e1,e2⟩:=y
  subst e1
  exact hs D i σ' _ zs v hDn (e2 xs (SqT.of s1)) p
 .have e:i=xs.length:=by lia
  subst e
  exact .inl ⟨⟨xs,SqT.of s1,ak _⟩,hd D σ' H' zs hDn p⟩
end
inductive Tr where
 |non
 |bl (b:Bool)
 |int (i:Int)
 |str (x:Str)
 |lst (ts:List Tr)
 |tup (ts:List Tr)
mutual
def TAt(H:Hp):Tr->V->Prop
 | .non,v=>v=.non
 | .bl b,v=>v=.bl b
 | .int i,v=>v=.int i
 | .str x,v=>v=.str x
 | .lst ts,v=>∃a vs,v=.ref a/\H a=some (.lst vs)/\TsAt H ts vs
 | .tup ts,v=>∃a vs,v=.ref a/\H a=some (.tup vs)/\TsAt H ts vs
def TsAt(H:Hp):List Tr->List V->Prop
 |[],vs=>vs=[]
 |t::ts,vs=>∃v r,vs=v::r/\TAt H t v/\TsAt H ts r
end
mutual
def dep:Tr->Nat
 | .lst ts=>deps ts+1
 | .tup ts=>deps ts+1
 |_=>0
def deps:List Tr->Nat
 |[]=>0
 |t::ts=>max (dep t) (deps ts)
end
mutual
def eqT:Tr->Tr->Bool
 | .non,.non=>true
 | .bl a,.bl b=>a==b
 | .bl a,.int b=>(if a then 1 else 0)==b
 | .int a,.bl b=>a==(if b then 1 else 0)
 | .int a,.int b=>a==b
 | .str a,.str b=>a==b
 | .lst a,.lst b=>eqTs a b
 | .tup a,.tup b=>eqTs a b
 |_,_=>false
def eqTs:List Tr->List Tr->Bool
 |[],[]=>true
 |a::as,b::bs=>eqT a b&&eqTs as bs
 |_,_=>false
end
mutual
def jF4:∀t:Tr,eqT t t=true
 | .non=>by simp[eqT]
 | .bl b=>by simp[eqT]
 | .int i=>by simp[eqT]
 | .str x=>by simp[eqT]
 | .lst ts=>by rw[eqT];exact jDS ts
 | .tup ts=>by rw[eqT];exact jDS ts
def jDS:∀ts:List Tr,eqTs ts ts=true
 |[]=>by simp[eqTs]
 |t::ts=>by rw[eqTs,jF4 t,jDS ts];rfl
end
mutual
def TAt.ext{H H':Hp}(e:Ext H H'):∀{t:Tr}{v:V},TAt H t v->TAt H' t v
 | .non,_,h=>h
 | .bl _,_,h=>h
 | .int _,_,h=>h
 | .str _,_,h=>h
 | .lst ts,_,⟨a,vs,q,h,r⟩=>⟨a,vs,q,e _ _ h,TsAt.ext e r⟩
 | .tup ts,_,⟨a,vs,q,h,r⟩=>⟨a,vs,q,e _ _ h,TsAt.ext e r⟩
def TsAt.ext{H H':Hp}(e:Ext H H'):∀{ts:List Tr}{vs:List V},TsAt H ts vs->TsAt H' ts vs
 |[],_,h=>h
 |t::ts,_,⟨v,r,q,h,s⟩=>⟨v,r,q,TAt.ext e h,TsAt.ext e s⟩
end
mutual
def TAt.inj{H:Hp}:∀{t u:Tr}{v:V},TAt H t v->TAt H u v->t=u
 | .non,u,_,h,h'=>by
  cases (show _=V.non from h)
  cases u with
  |non=>rfl
  |bl b=>cases (show V.non=_ from h')
  |int b=>cases (show V.non=_ from h')
  |str b=>cases (show V.non=_ from h')
  |lst ts=>obtain⟨_,_,q,_⟩:=h';cases q
  |tup ts=>obtain⟨_,_,q,_⟩:=h';cases q
 | .bl b,u,_,h,h'=>by
  cases (show _=V.bl b from h)
  cases u with
  |non=>cases (show V.bl b=_ from h')
  |bl b=>cases (show V.bl _=V.bl b from h');rfl
  |int i=>cases (show V.bl b=V.int i from h')
  |str i=>cases (show V.bl b=V.str i from h')
  |lst ts=>obtain⟨_,_,q,_⟩:=h';cases q
  |tup ts=>obtain⟨_,_,q,_⟩:=h';cases q
 | .int b,u,_,h,h'=>by
  cases (show _=V.int b from h)
  cases u with
  |non=>cases (show V.int b=_ from h')
  |bl i=>cases (show V.int b=V.bl i from h')
  |int b=>cases (show V.int _=V.int b from h');rfl
  |str i=>cases (show V.int b=V.str i from h')
  |lst ts=>obtain⟨_,_,q,_⟩:=h';cases q
  |tup ts=>obtain⟨_,_,q,_⟩:=h';cases q
 | .str b,u,_,h,h'=>by
  cases (show _=V.str b from h)
  cases u with
  |non=>cases (show V.str b=_ from h')
  |bl i=>cases (show V.str b=V.bl i from h')
  |int i=>cases (show V.str b=V.int i from h')
  |str b=>cases (show V.str _=V.str b from h');rfl
  |lst ts=>obtain⟨_,_,q,_⟩:=h';cases q
  |tup ts=>obtain⟨_,_,q,_⟩:=h';cases q
 | .lst ts,u,_,⟨a,vs,q,h,r⟩,h'=>by
  subst q
  cases u with
  |non=>cases (show V.ref a=_ from h')
  |bl i=>cases (show V.ref a=V.bl i from h')
  |int i=>cases (show V.ref a=V.int i from h')
  |str i=>cases (show V.ref a=V.str i from h')
  |lst us=>
   obtain⟨a',vs',q',h2,r'⟩:=h'
   cases q'
   rw[h] at h2
   cases h2
   rw[TsAt.inj r r']
  |tup us=>
   obtain⟨a',vs',q',h2,r'⟩:=h'
   cases q'
   rw[h] at h2
   cases h2
 | .tup ts,u,_,⟨a,vs,q,h,r⟩,h'=>by
  subst q
  cases u with
  |non=>cases (show V.ref a=_ from h')
  |bl i=>cases (show V.ref a=V.bl i from h')
  |int i=>cases (show V.ref a=V.int i from h')
  |str i=>cases (show V.ref a=V.str i from h')
  |lst us=>
   obtain⟨a',vs',q',h2,r'⟩:=h'
   cases q'
   rw[h] at h2
   cases h2
  |tup us=>
   obtain⟨a',vs',q',h2,r'⟩:=h'
   cases q'
   rw[h] at h2
   cases h2
   rw[TsAt.inj r r']
def TsAt.inj{H:Hp}:∀{ts us:List Tr}{vs:List V},TsAt H ts vs->TsAt H us vs->ts=us
 |[],us,_,h,h'=>by
  cases (show _=[] from h)
  cases us with
  |nil=>rfl
  |cons u us=>obtain⟨_,_,q,_⟩:=h';cases q
 |t::ts,us,_,⟨v,r,q,h,s⟩,h'=>by
  subst q
  cases us with
  |nil=>cases (show v::r=[] from h')
  |cons u us=>
   obtain⟨v',r',q,h2,s2⟩:=h'
   cases q
   rw[TAt.inj h h2,TsAt.inj s s2]
end
def TsAt.len:∀{ts:List Tr}{vs:List V},TsAt H ts vs->vs.length=ts.length
 |[],_,h=>by cases (show _=[] from h);rfl
 |t::ts,_,⟨v,r,q,_,s⟩=>by rw[q,aV,aV,TsAt.len s]
def TsAt.get{H:Hp}:∀{ts:List Tr}{vs:List V},TsAt H ts vs->∀{i:Nat}{v:V},vs[i]?=some v->∃t,ts[i]?=some t/\TAt H t v
 |[],_,h,i,v,e=>by cases (show _=[] from h);cases e
 |t::ts,_,⟨v,r,q,h,s⟩,0,v',e=>by subst q;cases e;exact⟨t,rfl,h⟩
 |t::ts,_,⟨v,r,q,h,s⟩,i+1,v',e=>by subst q;exact TsAt.get s (i:=i) e
theorem jF3:∀ts us:List Tr,eqTs ts us=((List.range (min ts.length us.length)).all (λj=>eqT (ts.getD j .non) (us.getD j .non))&&ts.length==us.length)
 |[],[]=>by simp[eqTs]
 |[],u::us=>by simp[eqTs]
 |t::ts,[]=>by simp[eqTs]
 |t::ts,u::us=>by
  rw[eqTs,jF3 ts us,aV,aV,show min (ts.length+1) (us.length+1)=min ts.length us.length+1 by lia,List.range_succ_eq_map,dw,kj]
  have e:(ts.length+1==us.length+1)=(ts.length==us.length):=by
   rw[cQ]
   simp
  rw[e,Bool.and_assoc]
  rfl
variable {ts:List Tr}{t:Tr}
theorem jHP(h:t∈ts):dep t<=deps ts:=by
 induction ts with
 |nil=>cases h
 |cons a r ih=>
  rw[deps]
  rcases ay.mp h with q|q
  .subst q;lia
  .have:=ih q;lia
def flatT:Tr->Bool
 | .lst _=>false
 | .tup _=>false
 |_=>true
def jM2{x:V}(h:TAt H t x)(f:flatT t=true):flatV x=true:=by
 cases t with
 |non=>cases (show x=_ from h);rfl
 |bl b=>cases (show x=V.bl b from h);rfl
 |int b=>cases (show x=V.int b from h);rfl
 |str b=>cases (show x=V.str b from h);rfl
 |lst ts=>cases f
 |tup ts=>cases f
def jRT{u:Tr}{x y:V}(h:TAt H t x)(h':TAt H u y)(f:flatT t=true)(f':flatT u=true):eqV x y=eqT t u:=by
 cases t with
 |non=>
  cases (show x=_ from h)
  cases u with
  |non=>cases (show y=_ from h');simp[eqV,eqT]
  |bl b=>cases (show y=V.bl b from h');simp[eqV,eqT]
  |int b=>cases (show y=V.int b from h');simp[eqV,eqT]
  |str b=>cases (show y=V.str b from h');simp[eqV,eqT]
  |lst ts=>cases f'
  |tup ts=>cases f'
 |bl c=>
  cases (show x=V.bl c from h)
  cases u with
  |non=>cases (show y=_ from h');simp[eqV,eqT]
  |bl b=>cases (show y=V.bl b from h');simp[eqV,eqT]
  |int b=>cases (show y=V.int b from h');simp[eqV,eqT]
  |str b=>cases (show y=V.str b from h');simp[eqV,eqT]
  |lst ts=>cases f'
  |tup ts=>cases f'
 |int c=>
  cases (show x=V.int c from h)
  cases u with
  |non=>cases (show y=_ from h');simp[eqV,eqT]
  |bl b=>cases (show y=V.bl b from h');simp[eqV,eqT]
  |int b=>cases (show y=V.int b from h');simp[eqV,eqT]
  |str b=>cases (show y=V.str b from h');simp[eqV,eqT]
  |lst ts=>cases f'
  |tup ts=>cases f'
 |str c=>
  cases (show x=V.str c from h)
  cases u with
  |non=>cases (show y=_ from h');simp[eqV,eqT]
  |bl b=>cases (show y=V.bl b from h');simp[eqV,eqT]
  |int b=>cases (show y=V.int b from h');simp[eqV,eqT]
  |str b=>cases (show y=V.str b from h');simp[eqV,eqT]
  |lst ts=>cases f'
  |tup ts=>cases f'
 |lst ts=>cases f
 |tup ts=>cases f
variable {us:List Tr}
section
variable {ad:List (Addr×Obj)}{σ:St}
theorem TsAt.both(h1:TsAt H ts vs)(h2:TsAt H us ws)(r1:Vals vs its)(r2:Vals ws its2){j:Nat}(a1:j<its.toArray.size)(a2:j<its2.toArray.size):
  ∃t u x y,ts.getD j .non=t/\us.getD j .non=u/\t∈ts/\TAt H t x/\TAt H u y/\RelV x its.toArray[j]/\RelV y its2.toArray[j]:=by
 have l1:=r1.length
 have l2:=r2.length
 rw[ao] at a1 a2
 obtain⟨x,hx⟩:∃x,vs[j]?=some x:=⟨vs[j]'(by lia),by simp[show j<vs.length by lia]⟩
 obtain⟨y,hy⟩:∃y,ws[j]?=some y:=⟨ws[j]'(by lia),by simp[show j<ws.length by lia]⟩
 obtain⟨t,ht,hxt⟩:=h1.get hx
 obtain⟨u,hu,hyu⟩:=h2.get hy
 obtain⟨v,hv,rv⟩:=r1.get hx
 obtain⟨w,hw,rw'⟩:=r2.get hy
 have e1:its.toArray[j]=v:=by
  have:its[j]?=some its[j]:=by simp[a1]
  rw[hv] at this
  simpa using (bj this).symm
 have e2:its2.toArray[j]=w:=by
  have:its2[j]?=some its2[j]:=by simp[a2]
  rw[hw] at this
  simpa using (bj this).symm
 refine⟨t,u,x,y,by rw[af,ht];rfl,by rw[af,hu];rfl,aH ht,hxt,hyu,by rw[e1];exact rv,by rw[e2];exact rw'⟩
theorem jTR(I:Inv X ad σ H s):∀(n:Nat) (t u:Tr) (x y:V) (vx vy:Value) (A:Around),dep t=n->TAt H t x->TAt H u y->RelV x vx->RelV y vy->A.units+n<cLine->SeqAt.EqAt A s vx vy (eqT t u):=by
 intro n
 induction n using Nat.strongRecOn with
 |ind n ih=>
  intro t u x y vx vy A hn ht hu rx ry hc
  have hcu:A.units<cLine:=by lia
  cases ft:flatT t with
  |true=>
   cases fu:flatT u with
   |true=>
    rw[<- jRT ht hu ft fu]
    exact jPN rx ry (jM2 ht ft) (jM2 hu fu)
   |false=>
    cases u with
    |lst us=>
     obtain⟨b,ws,rfl,hb,_⟩:=hu
     cases ry
     obtain⟨its,_,pl,_⟩:=I.list (SqL.of hb)
     cases t with
     |non=>cases (show x=_ from ht);cases rx;rw[show eqT .non (.lst us)=false by simp[eqT]];exact .none_list pl.isList hcu
     |bl c=>cases (show x=V.bl c from ht);cases rx;rw[show eqT (.bl c) (.lst us)=false by simp[eqT]];exact .bool_list c pl.isList hcu
     |int c=>cases (show x=V.int c from ht);obtain⟨k,rfl⟩:=rx;rw[show eqT (.int c) (.lst us)=false by simp[eqT]];exact .int_list c k pl.isList hcu
     |str c=>cases (show x=V.str c from ht);obtain⟨k,rfl⟩:=rx;rw[show eqT (.str c) (.lst us)=false by simp[eqT]];exact .str_list c k pl.isList hcu
     |lst ts=>cases ft
     |tup ts=>cases ft
    |tup us=>
     obtain⟨b,ws,rfl,hb,_⟩:=hu
     cases ry
     obtain⟨its,_,pl,_⟩:=I.tuple (SqT.of hb)
     cases t with
     |non=>cases (show x=_ from ht);cases rx;rw[show eqT .non (.tup us)=false by simp[eqT]];exact .none_tuple pl hcu
     |bl c=>cases (show x=V.bl c from ht);cases rx;rw[show eqT (.bl c) (.tup us)=false by simp[eqT]];exact .bool_tuple c pl hcu
     |int c=>cases (show x=V.int c from ht);obtain⟨k,rfl⟩:=rx;rw[show eqT (.int c) (.tup us)=false by simp[eqT]];exact .int_tuple c k pl hcu
     |str c=>cases (show x=V.str c from ht);obtain⟨k,rfl⟩:=rx;rw[show eqT (.str c) (.tup us)=false by simp[eqT]];exact .str_tuple c k pl hcu
     |lst ts=>cases ft
     |tup ts=>cases ft
    |non=>cases fu
    |bl c=>cases fu
    |int c=>cases fu
    |str c=>cases fu
  |false=>
   cases t with
   |non=>cases ft
   |bl c=>cases ft
   |int c=>cases ft
   |str c=>cases ft
   |lst ts=>
    have ht0:=ht
    obtain⟨a,vs,rfl,ha,hts⟩:=ht
    cases rx
    obtain⟨its,r1,pl,_⟩:=I.list (SqL.of ha)
    cases u with
    |non=>cases (show y=_ from hu);cases ry;rw[show eqT (.lst ts) .non=false by simp[eqT]];exact .list_none pl.isList hcu
    |bl c=>cases (show y=V.bl c from hu);cases ry;rw[show eqT (.lst ts) (.bl c)=false by simp[eqT]];exact .list_bool c pl.isList hcu
    |int c=>cases (show y=V.int c from hu);obtain⟨k,rfl⟩:=ry;rw[show eqT (.lst ts) (.int c)=false by simp[eqT]];exact .list_int c k pl.isList hcu
    |str c=>cases (show y=V.str c from hu);obtain⟨k,rfl⟩:=ry;rw[show eqT (.lst ts) (.str c)=false by simp[eqT]];exact .list_str c k pl.isList hcu
    |tup us=>
     obtain⟨b,ws,rfl,hb,_⟩:=hu
     cases ry
     obtain⟨its2,_,pl2,_⟩:=I.tuple (SqT.of hb)
     rw[show eqT (.lst ts) (.tup us)=false by simp[eqT]]
     exact .list_tuple pl.isList pl2 hcu
    |lst us=>
     have hu0:=hu
     obtain⟨b,ws,rfl,hb,hus⟩:=hu
     cases ry
     by_cases e:a=b
     .subst e
      rw[<- TAt.inj ht0 hu0,jF4]
      exact .same _
     .obtain⟨its2,r2,pl2,_⟩:=I.list (SqL.of hb)
      refine .of_refs e ?_
      have l1:=r1.length
      have l2:=r2.length
      have m1:=hts.len
      have m2:=hus.len
      rw[eqT,jF3]
      by_cases hl:ts.length=us.length
      .have key:=SeqAt.RcAt.lists (e:=λj=>eqT (ts.getD j .non) (us.getD j .non)) pl.isList pl2.isList (by rw[ao,ao];lia) hcu λj a1 a2=>by
        obtain⟨t',u',x',y',e1,e2,hm,q1,q2,q3,q4⟩:=TsAt.both hts hus r1 r2 a1 a2
        rw[e1,e2]
        have hd:=jHP hm
        have hn':deps ts+1=n:=by rw[<- hn,dep]
        exact ih (dep t') (by lia) t' u' x' y' _ _ _ rfl q1 q2 q3 q4 (by rw[eV];lia)
       have ez:its.toArray.size=min ts.length us.length:=by rw[ao];lia
       rw[ez] at key
       rw[show (ts.length==us.length)=true by simp[hl],jw]
       exact key
      .rw[show (ts.length==us.length)=false by simp[hl],eQ]
       refine SeqAt.RcAt.lists_lengths pl.isList pl2.isList ?_ hcu
       rw[ao,ao]
       simp
       lia
   |tup ts=>
    have ht0:=ht
    obtain⟨a,vs,rfl,ha,hts⟩:=ht
    cases rx
    obtain⟨its,r1,pl,_⟩:=I.tuple (SqT.of ha)
    cases u with
    |non=>cases (show y=_ from hu);cases ry;rw[show eqT (.tup ts) .non=false by simp[eqT]];exact .tuple_none pl hcu
    |bl c=>cases (show y=V.bl c from hu);cases ry;rw[show eqT (.tup ts) (.bl c)=false by simp[eqT]];exact .tuple_bool c pl hcu
    |int c=>cases (show y=V.int c from hu);obtain⟨k,rfl⟩:=ry;rw[show eqT (.tup ts) (.int c)=false by simp[eqT]];exact .tuple_int c k pl hcu
    |str c=>cases (show y=V.str c from hu);obtain⟨k,rfl⟩:=ry;rw[show eqT (.tup ts) (.str c)=false by simp[eqT]];exact .tuple_str c k pl hcu
    |lst us=>
     obtain⟨b,ws,rfl,hb,_⟩:=hu
     cases ry
     obtain⟨its2,_,pl2,_⟩:=I.list (SqL.of hb)
     rw[show eqT (.tup ts) (.lst us)=false by simp[eqT]]
     exact .tuple_list pl pl2.isList hcu
    |tup us=>
     have hu0:=hu
     obtain⟨b,ws,rfl,hb,hus⟩:=hu
     cases ry
     by_cases e:a=b
     .subst e
      rw[<- TAt.inj ht0 hu0,jF4]
      exact .same _
     .obtain⟨its2,r2,pl2,_⟩:=I.tuple (SqT.of hb)
      refine .of_refs e ?_
      have l1:=r1.length
      have l2:=r2.length
      have m1:=hts.len
      have m2:=hus.len
      rw[eqT,jF3]
      have key:=SeqAt.RcAt.tuples (e:=λj=>eqT (ts.getD j .non) (us.getD j .non)) pl pl2 hcu λj a1 a2=>by
       obtain⟨t',u',x',y',e1,e2,hm,q1,q2,q3,q4⟩:=TsAt.both hts hus r1 r2 a1 a2
       rw[e1,e2]
       have hd:=jHP hm
       have hn':deps ts+1=n:=by rw[<- hn,dep]
       exact ih (dep t') (by lia) t' u' x' y' _ _ _ rfl q1 q2 q3 q4 (by rw[eV];lia)
      have z1:its.toArray.size=ts.length:=by rw[ao];lia
      have z2:its2.toArray.size=us.length:=by rw[ao];lia
      rw[z1,z2] at key
      exact key
theorem jRJ(I:Inv X ad σ H s)(h1:TsAt H ts vs)(h2:TsAt H us ws)(r1:Vals vs its)(r2:Vals ws its2)(hc:A.units+deps ts<cLine):
  ∀j (a1:j<its.toArray.size) (a2:j<its2.toArray.size),SeqAt.EqAt A s its.toArray[j] its2.toArray[j] (eqT (ts.getD j .non) (us.getD j .non)):=λj a1 a2=>by
 obtain⟨t',u',x',y',e1,e2,hm,q1,q2,q3,q4⟩:=TsAt.both h1 h2 r1 r2 a1 a2
 rw[e1,e2]
 have hd:=jHP hm
 exact jTR I (dep t') t' u' x' y' _ _ _ rfl q1 q2 q3 q4 (by lia)
theorem jHA(hu:X.A.units+101<cLine):OpR X (compareOp .NotEq) (λx y H Q=>∃ts us,TAt H (.tup ts) x/\TAt H (.tup us) y/\deps ts<=100/\Q (.bl (!eqTs ts us)) H):=by
 intro ad s σ H x y v u Q I rx ry h
 obtain⟨ts,us,⟨a,vs,rfl,ha,hts⟩,⟨b,ws,rfl,hb,hus⟩,hd,q⟩:=h
 cases rx
 cases ry
 obtain⟨its,r1,p1,_⟩:=I.tuple (SqT.of ha)
 obtain⟨its2,r2,p2,_⟩:=I.tuple (SqT.of hb)
 have l1:=r1.length
 have l2:=r2.length
 have m1:=hts.len
 have m2:=hus.len
 refine SeqAt.RcNeAt.tuples (e:=λj=>eqT (ts.getD j .non) (us.getD j .non)) p1 p2 (by lia) (jRJ I hts hus r1 r2 (by rw[eV];lia)) _ _ _ _ ⟨.bl _,H,I,rfl,?_⟩
 have z1:its.toArray.size=ts.length:=by rw[ao];lia
 have z2:its2.toArray.size=us.length:=by rw[ao];lia
 rw[z1,z2,<- jF3]
 exact q
theorem Room.units101{k:Nat}(r:Room k A):A.units+101<cLine:=by have:=r.un;lia
end
theorem jMI{c:Addr}:∀(l:List (Str×NameKind)) (n:Nat) (acc:List (Str×Addr)),(cellsFrom n l acc).lookup x=some c->acc.lookup x=some c\/(n<=c/\(x,NameKind.cell)∈l)
 |[],n,acc,h=> .inl h
 | (y,k)::r,n,acc,h=>by
  unfold cellsFrom at h
  by_cases hk:(k==NameKind.cell)=true
  .rw[ai hk] at h
   have ek:k=.cell:=eq_of_beq hk
   rcases jMI r (n+1) _ h with q|⟨q1,q2⟩
   .rw[aU] at q
    cases e:x==y with
    |true=>
     rw[e] at q
     cases q
     exact .inr ⟨ak _,by rw[eq_of_beq e,ek];exact au⟩
    |false=>rw[e] at q;exact .inl q
   .exact .inr ⟨by lia,av _ q2⟩
  .rw[aj hk] at h
   rcases jMI r n _ h with q|⟨q1,q2⟩
   .exact .inl q
   .exact .inr ⟨q1,av _ q2⟩
def jMK:∀(l:List (Str×NameKind)) (n:Nat) (acc:List (Str×Addr)),(∀x y c,acc.lookup x=some c->acc.lookup y=some c->x=y)->(∀x c,acc.lookup x=some c->c<n)->
  ∀x y c,(cellsFrom n l acc).lookup x=some c->(cellsFrom n l acc).lookup y=some c->x=y
 |[],n,acc,h1,_=>h1
 | (z,k)::r,n,acc,h1,h2=>by
  unfold cellsFrom
  by_cases hk:(k==NameKind.cell)=true
  .rw[ai hk]
   refine jMK r (n+1) _ (λx y c a b=>?_) (λx c a=>?_)
   .rw[aU] at a b
    cases e1:x==z with
    |true=>
     rw[e1] at a
     cases a
     cases e2:y==z with
     |true=>exact(eq_of_beq e1).trans (eq_of_beq e2).symm
     |false=>rw[e2] at b;exact absurd (h2 y n b) (cf _)
    |false=>
     rw[e1] at a
     cases e2:y==z with
     |true=>rw[e2] at b;cases b;exact absurd (h2 x n a) (cf _)
     |false=>rw[e2] at b;exact h1 x y c a b
   .rw[aU] at a
    cases e1:x==z with
    |true=>rw[e1] at a;cases a;exact cJ _
    |false=>rw[e1] at a;exact bw (h2 x c a)
  .rw[aj hk]
   exact jMK r n acc h1 h2
def jML:∀(l:List (Str×NameKind)) (n:Nat) (acc:List (Str×Addr)),((x,NameKind.cell)∈l\/∃c,acc.lookup x=some c)->∃c,(cellsFrom n l acc).lookup x=some c
 |[],n,acc,h=>by
  rcases h with h|h
  .cases h
  .exact h
 | (z,k)::r,n,acc,h=>by
  unfold cellsFrom
  by_cases hk:(k==NameKind.cell)=true
  .rw[ai hk]
   refine jML r (n+1) _ ?_
   by_cases e:x=z
   .subst e
    exact .inr ⟨n,by rw[aU,fY]⟩
   .rcases h with h|⟨c,h⟩
    .rcases ay.mp h with q|q
     .cases q;exact absurd rfl e
     .exact .inl q
    .exact .inr ⟨c,by rw[aU,cD.mpr e];exact h⟩
  .rw[aj hk]
   refine jML r n acc ?_
   rcases h with h|h
   .rcases ay.mp h with q|q
    .cases q;exact absurd rfl hk
    .exact .inl q
   .exact .inr h
theorem jMJ{x:Str}{c n0:Nat}:∀(l:List (Str×NameKind)) (n:Nat) (acc:List (Str×Addr)),n0<=n->((x,NameKind.cell)∈l\/∀c,acc.lookup x=some c->n0<=c)->(cellsFrom n l acc).lookup x=some c->n0<=c
 |[],n,acc,_,h,e=>by
  rcases h with h|h
  .cases h
  .exact h c e
 | (z,k)::r,n,acc,hn,h,e=>by
  unfold cellsFrom at e
  by_cases hk:(k==NameKind.cell)=true
  .rw[ai hk] at e
   refine jMJ r (n+1) _ (by lia) ?_ e
   by_cases ez:x=z
   .subst ez
    refine .inr λc' h'=>?_
    rw[aU,fY] at h'
    cases h'
    exact hn
   .rcases h with h|h
    .rcases ay.mp h with q|q
     .cases q;exact absurd rfl ez
     .exact .inl q
    .refine .inr λc' h'=>?_
     rw[aU,cD.mpr ez] at h'
     exact h c' h'
  .rw[aj hk] at e
   refine jMJ r n acc hn ?_ e
   rcases h with h|h
   .rcases ay.mp h with q|q
    .cases q;exact absurd rfl hk
    .exact .inl q
   .exact .inr h
def jHT:∀(l:List (Str×NameKind)) (n:Nat) (acc:List (Str×Addr)),(x,NameKind.cell)∉l->(cellsFrom n l acc).lookup x=acc.lookup x
 |[],_,_,_=>rfl
 | (z,k)::r,n,acc,h=>by
  unfold cellsFrom
  by_cases hk:(k==NameKind.cell)=true
  .have ek:k=.cell:=eq_of_beq hk
   subst ek
   have ne:x≠z:=λe=>h (by rw[e];exact au)
   rw[ai hk,jHT r (n+1) _ (λq=>h (av _ q)),aU,cD.mpr ne]
  .rw[aj hk,jHT r n _ (λq=>h (av _ q))]
def jHU:∀(l:List (Str×NameKind)) (h:Heap) (acc:List (Str×Addr)),(∀x c,acc.lookup x=some c->∃v,h.IsCell c v)->∀x c,(cellsFrom h.objs.size l acc).lookup x=some c->∃v,(pushCells h l).IsCell c v
 |[],h,acc,k=>k
 | (z,k)::r,h,acc,hc=>by
  unfold cellsFrom pushCells
  by_cases hk:(k==NameKind.cell)=true
  .rw[ai hk,ai hk]
   have e:(h.push {cls:=.type "cell",data:=.cell none}).objs.size=h.objs.size+1:=bM _ _
   rw[<- e]
   refine jHU r _ _ (λx c q=>?_)
   rw[aU] at q
   cases ez:x==z with
   |true=>rw[ez] at q;cases q;exact⟨none,⟨_,aD _ rfl,rfl⟩⟩
   |false=>
    rw[ez] at q
    obtain⟨v,o,ho,hd⟩:=hc x c q
    exact⟨v,o,ae _ ho,hd⟩
  .rw[aj hk,aj hk]
   exact jHU r h acc hc
def jDI{env:Env}{x:Str}{k:NameKind}(hk:k=.cell\/k=.free):∀{l:List (Str×NameKind)},
  (l.map λ(n,k)=>if (k==NameKind.free&&env.scope.kind==.function&&env.kindOf n==some .cell) then (n,NameKind.cell) else (n,k)).lookup x=some k->(x,NameKind.cell)∈l\/(x,NameKind.free)∈l
 |[],h=>by simp at h
 | (n,k')::r,h=>by
  have ih:= @jDI env x k hk r
  have up:(x,NameKind.cell)∈r\/(x,NameKind.free)∈r->(x,NameKind.cell)∈(n,k')::r\/(x,NameKind.free)∈(n,k')::r:=λq=>q.imp (av _) (av _)
  rw[aP] at h
  dsimp only at h
  by_cases hb:(k'==NameKind.free&&env.scope.kind==.function&&env.kindOf n==some .cell)=true
  .rw[ai hb,aU] at h
   cases hx:x==n with
   |true=>
    have:k'=.free:=by
     simp only[ba] at hb
     exact eq_of_beq hb.1.1
    rw[this,eq_of_beq hx]
    exact .inr au
   |false=>rw[hx] at h;exact up (ih h)
  .rw[aj hb,aU] at h
   cases hx:x==n with
   |true=>
    rw[hx] at h
    have e:k'=k:=bj h
    rw[eq_of_beq hx,e]
    rcases hk with q|q
    .rw[q];exact .inl au
    .rw[q];exact .inr au
   |false=>rw[hx] at h;exact up (ih h)
def jHC{M:Model}{E:Value->Shared->Prop}{scope:Scope}{globals:Addr}{closure:List (Str×Addr)}{func:Option Addr}{code:Value}{outer:Env}{builtins:Addr}{Q:Env->Shared->Prop}
  (hQ:Q (newEnv scope s.heap.objs.size globals (cellsFrom (s.heap.objs.size+1) scope.names closure) qual func code (some outer) builtins) {s with heap:=pushCells (s.heap.push {cls:=.type "dict",data:=.dict #[]}) scope.names}):
  wpAny M A (newFunctionEnv scope globals closure [] qual func code (some outer) builtins) Q E s:=by
 simp only[newFunctionEnv,kf,gh]
 refine ab (wpAny_alloc ?_)
 refine ab (wpAny_layCells _ (λname kind cells=>by cases hkc:kind==NameKind.cell<;>simp[hkc]) _ _ _ _ ?_)
 rw[show ({s with heap:=s.heap.push {cls:=.type "dict",data:=.dict #[]}}:Shared).heap.objs.size=s.heap.objs.size+1 from bM ..]
 first
  |exact ah hQ
  |exact ab (ah (ah hQ))
  | (rw[gX];exact ab (ah (ah hQ)))
def blkC(X:Cx)(sc:Scope)(cl:List (Str×Addr))(C:Addr)(Nc:List Str)(fp:List Addr)(s:Shared)(H:Hp):Cx where
 prog:=X.prog
 w:=X.w
 K:=X.K
 mg:=X.mg
 base:=X.base
 A:=X.A
 N:=Nc
 s₀:=s
 H₀:=H
 env:=compEnvC sc cl C X.env
 outer:=X.stack
 stack:=X.stack
 ex:=fp
 fn:=λx=>sc.names.lookup x==some .cell
 calm:=X.calm
 pn:=[]
 xe:=λ_ _=>False
section
variable {tg iter elt:Expr}{ifs:List Expr}{wi:TI}
theorem jJX{ad:List (Addr×Obj)}{s:Shared}{σ:St}{H:Hp}{fp:List Addr}(I:Inv X ad σ H s)(hkind:sc.kind=.function)(hdis:∀x,sc.names.lookup x=some .free->(x,NameKind.cell)∉sc.names)
  (hfree:Fq X sc) (hm:qX X sc Nc m) (hfp:∀b∈fp,FpOk X ad H b) (hlt:∀b∈fp,b<s.heap.objs.size):
  Inv (blkC X sc (cellsFrom (s.heap.objs.size+1) sc.names (kB X.env.cells sc.names [])) s.heap.objs.size Nc fp s H) [] (blkσ m σ) H {s with heap:=pushCells (s.heap.push {cls:=.type "dict",data:=.dict #[]}) sc.names}:=by
 have hcl:∀y∈sc.names,y.2=.free->∃c,X.env.cells.lookup y.1=some c:=λy hy hf=>I.ok.has y.1 (hfree y hy hf)
 have sub:∀x c,(kB X.env.cells sc.names []).lookup x=some c->X.env.cells.lookup x=some c:=jAG sc.names [] hcl (λx c e=>by cases e)
 have clt:∀x c,(kB X.env.cells sc.names []).lookup x=some c->c<s.heap.objs.size:=λx c e=>by
  obtain⟨v,o,ho,_⟩:=I.cell x c (sub x c e)
  exact aw ho
 have way:∀x c,(cellsFrom (s.heap.objs.size+1) sc.names (kB X.env.cells sc.names [])).lookup x=some c->(kB X.env.cells sc.names []).lookup x=some c\/s.heap.objs.size+1<=c:=λx c e=>(jMI _ _ _ e).imp id λq=>q.1
 have old:∀b o,s.heap.get? b=some o->(pushCells (s.heap.push {cls:=.type "dict",data:=.dict #[]}) sc.names).get? b=some o:=λb o e=>i8 _ _ b o (ae _ e)
 have hns:(pushCells (s.heap.push {cls:=.type "dict",data:=.dict #[]}) sc.names).Ns s.heap.objs.size (λ_=>none):=(Heap.Ns.new s.heap (.type "dict")).keeps (i8 _ _)
 refine⟨⟨I.ok.mod,hkind,I.ok.glob,I.ok.blt,ak _,jMK _ _ _ (λx y c h1 h2=>I.ok.inj x y c (sub x c h1) (sub y c h2)) (λx c e=>bw (clt x c e)),λx hx=>?_,λx c hf e=>?_,I.ok.hd,I.ok.frames,.inl rfl,λb hb=>?_,I.bs,aY I.ok.bsz I.sz,λb o e hb=>?_,λb hb hz=>?_,I.stack,I.stkFree⟩,
  rfl,I.bare,Un.kept old,⟨_,hns,λk x v e1 e2 e3=>?_⟩,λx c e=>?_,I.hok.fresh (ak _),λx c e=>?_,λp hp=>absurd (show p∈([]:List (Addr×Obj)) from hp) (by simp),I.hok.kept old,?_⟩
 .have q:(x,NameKind.cell)∈sc.names\/(x,NameKind.free)∈sc.names:=by
   rcases hx with h|h
   .exact jDI (.inl rfl) h
   .exact jDI (.inr rfl) h
  exact jML _ _ _ (q.imp id λq=>jA8 sc.names [] (.inl q))
 .have hf:(sc.names.lookup x==some NameKind.cell)=true:=hf
  have:=jMJ (n0:=s.heap.objs.size+1) _ _ _ (ak _) (.inl (jA5 (eq_of_beq hf))) e
  exact Nat.le_of_succ_le this
 .obtain⟨f0,f1,f2,f3,f4,f5⟩:=hfp b hb
  refine⟨aS (hlt b hb),λx c e=>?_⟩
  rcases way x c e with q|q
  .exact f4 x c (sub x c q)
  .exact cz (aR (hlt b hb) (Nat.le_of_succ_le q))
 .obtain⟨f0,f1,f2,f3,f4,f5⟩:=hfp b hb
  rcases f3 with q|q
  .exact I.ok.noex b o e q
  .exact absurd (aR (aw (I.ok.bs b o e).1) q) (cf _)
 .obtain⟨f0,f1,f2,f3,f4,f5⟩:=hfp b hb
  rcases ay.mp (I.stkSub b hz) with q|q
  .exact f1 q
  .exact f2 q
 .have e2':∃i,m[k]?=some (some i)/\σ[i]?=some (some v):=by
   unfold blkσ at e2
   rw[aO] at e2
   cases q:m[k]? with
   |none=>rw[q] at e2;cases e2
   |some o=>
    rw[q] at e2
    cases o with
    |none=>cases e2
    |some i=>
     refine⟨i,rfl,?_⟩
     have e2:(σ[i]?).getD none=some v:=bj e2
     cases r:σ[i]? with
     |none=>rw[r] at e2;cases e2
     |some z=>rw[r] at e2;exact bB some e2
  obtain⟨i,q1,q2⟩:=e2'
  obtain⟨x',a1,a2,a3⟩:=hm.2 k i q1
  have e1':Nc[k]?=some x:=e1
  rw[e1'] at a1
  cases a1
  have vis:=hfree (x,.free) (jA5 a3) rfl
  obtain⟨m0,hn0,hl0⟩:=I.loc
  obtain⟨u,r,l⟩:=hl0 i x v a2 q2 (.inr vis)
  refine⟨u,r,.inr ⟨jAF a3,?_⟩⟩
  obtain⟨c,hc⟩:=jA8 (cells:=X.env.cells) (x:=x) sc.names [] (.inl (jA5 a3))
  rcases l with ⟨lk,_⟩|⟨_,c',hc',o,ho,hd⟩
  .have lk':X.env.scope.names.lookup x=some .local:=lk
   rcases vis with z|z
   .rw[lk'] at z;cases z
   .rw[lk'] at z;cases z
  .have:=sub x c hc
   rw[hc'] at this
   cases this
   exact⟨c,(jHT _ _ _ (hdis x a3)).trans hc,o,old _ _ ho,hd⟩
 .have e':(cellsFrom (s.heap.push {cls:=.type "dict",data:=.dict #[]}).objs.size sc.names (kB X.env.cells sc.names [])).lookup x=some c:=by
   rw[show (s.heap.push {cls:=.type "dict",data:=.dict #[]}).objs.size=s.heap.objs.size+1 from bM _ _]
   exact e
  refine jHU _ _ _ (λx c q=>?_) x c e'
  obtain⟨v,o,ho,hd⟩:=I.cell x c (sub x c q)
  exact⟨v,o,ae _ ho,hd⟩
 .rcases way x c e with q|q
  .exact I.freeC x c (sub x c q)
  .exact I.hok.fresh (by lia)
 .show (blkσ m σ).length=Nc.length
  unfold blkσ
  rw[aa]
  exact hm.1
def jO0(hc:X.calm=true)(hi:PI X tg iter wi)(hkind:sc.kind=.function)(hdis:∀x,sc.names.lookup x=some .free->(x,NameKind.cell)∉sc.names)(hnames:∀y∈sc.names,y.2=.local->sc.names.lookup y.1=some .local)
  (hfree:Fq X sc) (hm:qX X sc Nc m)
  (hg:∀cl C fp s H,PG (blkC X sc cl C Nc fp s H) tg g) (ht:∀cl C fp s H,PTs (blkC X sc cl C Nc fp s H) ifs tt) (he:∀cl C fp s H,PE (blkC X sc cl C Nc fp s H) elt te)
  (hs:∀x,foldedSetIterable iter X.env x=pure x:=by intro _;rfl):PE X (.ListComp elt [⟨tg,iter,ifs,0⟩] sc pos) (tComp m wi g tt te):=by
 intro ad s σ H Q I h
 rw[eval_ListComp]
 have hcl:∀y∈sc.names,y.2=.free->∃c,X.env.cells.lookup y.1=some c:=λy hy hf=>I.ok.has y.1 (hfree y hy hf)
 refine ix (use:=none) rfl hs (jHS hcl) hkind hnames (ln (hi ad s σ H _ I h) λv s1 h1=>ln h1 λitv s2 h2=>?_)
 obtain⟨it,fp,tn,J,H2,e,I2,T,st2,f2,hQ⟩:=h2
 subst e
 have hlt:∀b∈fp,b<s2.heap.objs.size:=λb hb=>by
  obtain⟨o,e,_⟩:=T.obj 0 _ st2 b hb
  exact aw e
 refine bU (jHC ?_)
 have I3:Inv X ad σ (upd H2 s2.heap.objs.size (.lst [])) {s2 with heap:=s2.heap.push {cls:=.type "list",data:=.seq ([]:List Value).toArray}}:=I2.lnew (t':=s2.toks) .nil (bb _)
 obtain⟨W,⟨n0,w0⟩,turn⟩:=hQ s2.heap.objs.size I2.fresh
 have hD3:∀b∈fp,b≠s2.heap.objs.size:=λb hb=>aS (hlt b hb)
 have f3:∀b∈fp,FpOk X ad (upd H2 s2.heap.objs.size (.lst [])) b:=λb hb=>by
  obtain⟨a0,a1⟩:=f2 b hb
  exact⟨by rw[j7 (hD3 b hb)];exact a0,a1⟩
 generalize hE:({s2 with heap:=s2.heap.push {cls:=.type "list",data:=.seq ([]:List Value).toArray}}:Shared)=s3 at I3 ⊢
 generalize hH3:upd H2 s2.heap.objs.size (.lst [])=H3 at I3 f3 w0
 have hsz3:s3.heap.objs.size=s2.heap.objs.size+1:=by rw[<- hE];exact bM _ _
 have I4:=jJX (fp:=fp) I3 hkind hdis hfree hm f3 (λb hb=>show b<s3.heap.objs.size by rw[hsz3];exact bw (hlt b hb))
 have old:∀b o,s3.heap.get? b=some o->(pushCells (s3.heap.push {cls:=.type "dict",data:=.dict #[]}) sc.names).get? b=some o:=λb o e=>i8 _ _ b o (ae _ e)
 have old2:∀b o,s2.heap.get? b=some o->(pushCells (s3.heap.push {cls:=.type "dict",data:=.dict #[]}) sc.names).get? b=some o:=λb o e=>old b o (by rw[<- hE];exact ae _ e)
 have st4:tn 0 (pushCells (s3.heap.push {cls:=.type "dict",data:=.dict #[]}) sc.names):=T.keep _ _ _ st2 λb hb o e=>old2 b o e
 clear old old2
 generalize hcs:cellsFrom (s3.heap.objs.size+1) sc.names (kB X.env.cells sc.names [])=cs at I4 ⊢
 generalize hh1:pushCells (s3.heap.push {cls:=.type "dict",data:=.dict #[]}) sc.names=h₁ at I4 st4 ⊢
 have loop:codeAny (model X.prog X.w) X.A (.compLoop (.ListComp elt [⟨tg,iter,ifs,0⟩] sc pos) 0 (.ref it) (.ref s2.heap.objs.size) (compEnvC sc cs s3.heap.objs.size X.env))
   (compPost (model X.prog X.w) X.A X.xe none (EP X ad σ Q) (.ref s2.heap.objs.size) s3.heap.objs.size) {s3 with heap:=h₁}:=by
  generalize hX:blkC X sc cs s3.heap.objs.size Nc fp s3 H3=Xb at I4
  have eP:Xb.prog=X.prog:=by rw[<- hX];rfl
  have ew:Xb.w=X.w:=by rw[<- hX];rfl
  have eK:Xb.K=X.K:=by rw[<- hX];rfl
  have eA:Xb.A=X.A:=by rw[<- hX];rfl
  have ec:Xb.calm=true:=by rw[<- hX];exact hc
  have ee:Xb.env=compEnvC sc cs s3.heap.objs.size X.env:=by rw[<- hX];rfl
  have ex:Xb.xe=λ_ _=>False:=by rw[<- hX];rfl
  have hgb:PG Xb tg g:=by rw[<- hX];exact hg _ _ _ _ _
  have htb:PTs Xb ifs tt:=by rw[<- hX];exact ht _ _ _ _ _
  have heb:PE Xb elt te:=by rw[<- hX];exact he _ _ _ _ _
  have stat:∀{H':Hp},(∀b∈fp,H' b=none)->∀b∈fp,FpOk Xb [] H' b:=λ{H'} hn b hb=>by
   obtain⟨o,eo,_⟩:=T.obj _ _ st4 b hb
   have q:=I4.ok.exf b (by rw[<- hX];exact hb)
   exact⟨hn b hb,q.1,I4.ok.exfs b (by rw[<- hX];exact hb),.inl (by rw[<- hX];exact hb),q.2,λp hp=>absurd hp (by rw[<- hX];simp[blkC])⟩
  have fr4:∀b∈fp,H3 b=none:=λb hb=>(f3 b hb).1
  unfold PG at hgb
  unfold PTs at htb
  unfold PE at heb
  rw[eP,ew,eA,ee,ex] at hgb htb heb
  refine jEA (λn z=>∃i σ' H' ys,Inv Xb [] σ' H' z/\tn i z.heap/\(∀b∈fp,H' b=none)/\W i n σ' H' ys) ?_ n0 ⟨0,_,H3,[],I4,st4,fr4,w0⟩
  rintro n z ⟨i,σ5,H5,ys,I5,st5,fr5,w5⟩
  obtain⟨hD,hlen,way⟩:=turn i n σ5 H5 ys w5
  rcases way with ⟨stop,q⟩|⟨go,N,hN,step⟩
  .have R:=T.done Xb eP ew eK ec i [] z σ5 H5 (λ_ _=>False) I5 (stat fr5) st5 stop
   rw[eA] at R
   refine ln R λr z1 ⟨hr,I6⟩=>?_
   subst hr
   obtain⟨mm,hn6,_⟩:=I6.loc
   rw[ee] at hn6
   refine⟨mm,hn6,λh' sb=>?_⟩
   have u6:Un (frs X.stack) fp H3 H5 s3.heap z1.heap:=by
    have:=I6.base
    rw[<- hX] at this
    exact this
   have fC:H5 s3.heap.objs.size=none:=by
    have:=I6.free
    rw[ee] at this
    exact this
   have hok6:HOk X.prog X.w H5 z1.heap:=by
    have:=I6.hok
    rw[eP,ew] at this
    exact this
   have os6:z1.os=s3.os:=by
    have:=I6.os
    rw[<- hX] at this
    exact this
   refine⟨.ref s2.heap.objs.size,H5,I3.call' (s':= {z1 with heap:=h'}) (ch:=fp) os6 (u6.sameBut sb (ak _)) (hok6.sameBut sb fC) I6.bare (λb hb=>?_),rfl,q⟩
   obtain⟨a0,a1,a2,a3,a4,a5⟩:=f3 b hb
   exact⟨a3,a1,a4,a5⟩
  .have R:=T.item Xb eP ew eK ec i [] z σ5 H5 (λ_ _=>False) I5 (stat fr5) st5 go
   rw[eA] at R
   refine ln R λr z1 ⟨u,hr,h6⟩=>?_
   subst hr
   refine ln h6 λ_ z2 ⟨x,H7,I7,r7,y7,st7,fr7⟩=>?_
   have I7':=I7.pinned (stat fr7) (T.obj _ _ st7)
   refine ln (hgb _ z2 σ5 H7 x u _ I7' r7 (step x H7 y7)) λ_ z3 ⟨σ8,H8,I8,q8⟩=>?_
   refine ln (htb _ z3 σ8 H8 _ I8 q8) λok z4 ⟨H9,I9,q9⟩=>?_
   have again:∀{σ7:St}{Hz:Hp}{zz:Shared}{yy:List V}{n':Nat},Inv Xb ([]++jE3 fp z2.heap) σ7 Hz zz->n'<n->W (i+1) n' σ7 Hz yy->∃k,k<n/\∃i σ' H' ys,Inv Xb [] σ' H' zz/\tn i zz.heap/\(∀b∈fp,H' b=none)/\W i k σ' H' ys:=λ{σ7 Hz zz yy n'} Iz hn wz=>by
    refine⟨n',hn,i+1,σ7,Hz,yy,Iz.unpinned,T.keep _ _ _ st7 λb hb o e=>(Iz.pin (b,o) (am _ (am _ (jAE hb e)))).1,λb hb=>?_,wz⟩
    obtain⟨o,e,d⟩:=T.obj _ _ st7 b hb
    exact(Iz.pin (b,o) (am _ (am _ (jAE hb e)))).2.1
   cases ok with
   |false=>
    obtain⟨n',hn,w9⟩:=hN _ _ _ (show N σ8 H9 ys from q9)
    exact again I9 hn w9
   |true=>
    refine ln (heb _ z4 σ8 H9 _ I9 q9) λxv z5 ⟨vv,H10,I10,r10,hD10,n10⟩=>?_
    obtain⟨n',hn,w10⟩:=hN _ _ _ n10
    have R:=jAJ (X:=Xb) _ z5 σ8 H10 (.ref s2.heap.objs.size) [vv] (.ref s2.heap.objs.size) [xv] (λ_ H'=>H'=upd H10 s2.heap.objs.size (.lst (ys++[vv]))) I10 rfl (.cons r10 .nil) ⟨_,ys,vv,rfl,rfl,hD10,hlen,rfl⟩
    rw[eP,ew,eA,ex] at R
    refine ln R λ_ z6 ⟨_,H11,I11,_,e11⟩=>?_
    subst e11
    exact again I11 hn w10
 exact codeAny_compStart_list loop (T.self _ 0 _ _ _ st4 loop)
theorem jTT(h:(sc.names.all λy=>decide (y.2=.cell->sc.names.lookup y.1=some .cell))=true):∀x,sc.names.lookup x=some .free->(x,NameKind.cell)∉sc.names:=λx hx hm=>by
 have:=aG (bF.mp h _ hm) rfl
 rw[hx] at this
 cases this
theorem jIQ(hc:X.calm=true)(hi:JI X tg iter wi)(hkind:sc.kind=.function)(hdis:(sc.names.all λy=>decide (y.2=.cell->sc.names.lookup y.1=some .cell))=true)(hnames:∀y∈sc.names,y.2=.local->sc.names.lookup y.1=some .local)
  (hfree:Fq X sc) (hm:qX X sc Nc m)
  (hg:∀cl C fp s H,JG (blkC X sc cl C Nc fp s H) tg g) (ht:∀cl C fp s H,JTs (blkC X sc cl C Nc fp s H) ifs tt) (he:∀cl C fp s H,JE (blkC X sc cl C Nc fp s H) elt te)
  (hs:FoOk iter):JE X (.ListComp elt [⟨tg,iter,ifs,0⟩] sc pos) (tComp m wi g tt te):=⟨jO0 hc hi.h hkind (jTT hdis) hnames hfree hm (λcl C fp s H=>(hg cl C fp s H).h) (λcl C fp s H=>(ht cl C fp s H).h) (λcl C fp s H=>(he cl C fp s H).h) (hs.h _)⟩
end
section
theorem gl_bC(h:sc.names.lookup x=some .globalImplicit):Gl1 (blkC X sc cl C Nc fp s H) x:=⟨jA2 (by decide) h⟩
theorem jED(h:sc.names.lookup x=some .local:=by decide+kernel):Vis1 (blkC X sc cl C Nc fp s H) x:=⟨.inl (jA2 (by decide) h)⟩
def jPV(h:sc.names.lookup x=some .free):Vis1 (blkC X sc cl C Nc fp s H) x:=⟨.inr (jAF h)⟩
theorem jHH(h:sc.names.lookup x=some .local:=by decide+kernel):Loc1 (blkC X sc cl C Nc fp s H) x:=⟨.inl (jA2 (by decide) h),.inr (jA2 (by decide) h)⟩
theorem jIV{sc2:Scope}(h:(sc2.names.all λy=>decide (y.2=.free->sc.names.lookup y.1=some .cell\/sc.names.lookup y.1=some .free))=true):
  ∀y∈sc2.names,y.2=.free->(blkC X sc cl C Nc fp s H).env.scope.names.lookup y.1=some .cell\/(blkC X sc cl C Nc fp s H).env.scope.names.lookup y.1=some .free:=λy hy hf=>by
 rcases aG (bF.mp h y hy) hf with q|q
 .exact .inl (jA2 (by decide) q)
 .exact jAF q
def jLU:IxR (blkC X sc cl C Nc fp s H) (rIxT X.K):=jU
def jG2{ta:TE}(hl:JE (blkC X sc cl C Nc fp s H) a ta):JI (blkC X sc cl C Nc fp s H) tg a (iTup X.K ta):=qT hl
variable {sc2:Scope}{cl2:List (Str×Addr)}{C2:Addr}{Nc2:List Str}{fp2:List Addr}{s2:Shared}{H2:Hp}
def jG4:IxR (blk (blkC X sc cl C Nc fp s H) sc2 cl2 C2 Nc2 fp2 s2 H2) (rIxT X.K):=jU
end
theorem jCV:yV X (.builtin "sorted") (λxs H Q=>∃(p:Addr) (ks:List Int),xs=[.ref p]/\SqL X.K H p (ks.map V.int)/\ks.length<64/\
  ∀(l:Addr) (ns:List Int),H l=none->ns.Pairwise (· <= ·)->ns.Perm ks->Q (.ref l) (upd H l (.lst (ns.map V.int)))):=by
 intro ad s σ H xs us Q I r h
 obtain⟨p,ks,rfl,hp,hn,q⟩:=h
 obtain⟨u,rfl,rx⟩:=r.one
 cases rx
 obtain⟨its,r',pl,hz⟩:=I.list hp
 have hlen:=r'.length
 rw[aa] at hlen
 refine sorted_ints pl.isList (jCN r') (by lia) λout ns' a1 a2 a3=>?_
 obtain⟨e,he⟩:=sortedAll_at s.heap its out
 have hz:(ns'.map V.int).length<=sizeLine:=by
  rw[aa,a2.length_eq,dZ]
  lia
 have I2:Inv X ad σ (upd H (s.heap.objs.size+1) (.lst (ns'.map V.int))) {s with heap:=sortedAll s.heap its out}:=I.laid (t':=s.toks) (λb o e=>sortedAll_old e) (il _) ⟨hz,out.toList,e,jAL a1,by rw[dO];exact he⟩
 exact⟨.ref _,_,I2,rfl,q _ ns' (I.hok.fresh (il _)) a3 a2⟩
theorem jQU(hu:X.A.units<cLine):OpR X (compareOp .NotEq) (λx y H Q=>∃p q xs,x=.ref p/\y=.ref q/\H p=some (.lst xs)/\H q=some (.lst [])/\Q (.bl (!decide (xs=[]))) H):=by
 intro ad s σ H x y v u Q I rx ry h
 obtain⟨p,q,xs,rfl,rfl,hp,hq,k⟩:=h
 cases rx
 cases ry
 obtain⟨its,r1,p1,_⟩:=I.list (SqL.of hp)
 obtain⟨its2,r2,p2,_⟩:=I.list (SqL.of hq)
 have l1:=r1.length
 have l2:its2.length=0:=r2.length.symm
 by_cases hl:xs=[]
 .subst hl
  have l1:its.length=0:=r1.length.symm
  refine SeqAt.RcNeAt.lists (e:=λ_=>true) p1.isList p2.isList (by rw[ao,ao];lia) hu (λj a1 a2=>absurd a2 (by rw[ao];lia)) _ _ _ _ ⟨.bl _,H,I,rfl,?_⟩
  have ez:its.toArray.size=0:=by rw[ao];lia
  rw[ez]
  exact k
 .refine SeqAt.RcNeAt.lists_lengths p1.isList p2.isList ?_ hu _ _ _ _ ⟨.bl _,H,I,rfl,?_⟩
  .rw[ao,ao]
   have:xs.length≠0:=λe=>hl (iF.mp e)
   simp
   lia
  .rw[aN hl] at k
   exact k
def jD7{tc:TT}{tb:TS}(hp:PassesOwn (model X.prog X.w) X.A X.env X.xe)(hc:JT X c tc)(hb:JSs X body tb):JS X (.While c body [] pos) (jP1 tc tb):=⟨jNN hp hc.h hb.h⟩
def jL7:behindInMarks op (.Subscript a b pos)=false:=by cases op<;>rfl
theorem jLS{o:Expr}{to:TE}{t:TA}{cpos apos:Pos}{id:String}{T:String}{name:Str}{r}(pa:PlainAttrs T)(slot:Slot T name id)(hty:typeOf (.builtin id)=pure (.type "method_descriptor"))(hm:MtR (blk X sc cl C Nc fp s H) id r)(ho:JE (blk X sc cl C Nc fp s H) o to)(ha:JA (blk X sc cl C Nc fp s H) (e::es) t)
  (hs:starEach (e::es) (blk X sc cl C Nc fp s H).env=(false,eval e (blk X sc cl C Nc fp s H).env)::starEach es (blk X sc cl C Nc fp s H).env)
  (hbase:attributeBase o name (blk X sc cl C Nc fp s H).env (eval o (blk X sc cl C Nc fp s H).env)=eval o (blk X sc cl C Nc fp s H).env:=by rfl)
  (hfew:((backTo cpos (starEach (e::es) (blk X sc cl C Nc fp s H).env)).all (λx=>!x.1)&&(backToKw cpos (keywordEach [] (blk X sc cl C Nc fp s H).env)).all (λx=>x.1.isSome)
   &&decide ((e::es).length+([]:List Keyword).length+(if ([]:List Keyword).isEmpty then 0 else 1)<30))=true:=by rfl)
  (hline:(apos.endLine==cpos.line)=true:=by rfl) (hplain:(backTo cpos (starEach es (blk X sc cl C Nc fp s H).env)).any (·.1)=false:=by rfl):
  JE (blk X sc cl C Nc fp s H) (.Call (.Attribute o name apos) (e::es) [] cpos) (tBM X.K T r to t):=xC pa slot hty hm ho ha hs hbase hfew hline hplain
end L2
namespace L2
open PySem
def LstR(H:Hp)(xs:List V)(Q:VK):Prop:=∀r H',H' r=some (.lst xs)->Ext H H'->H r=none->Q (.ref r) H'
def LstR.new{H:Hp}{xs:List V}{Q:VK}(q:LstR H xs Q){p:Addr}(hp:H p=none):Q (.ref p) (upd H p (.lst xs)):=q p _ j5 ((Ext.refl H).new hp _) hp
def tTupU(t:TA):TE:=λσ H Q=>t σ H λxs H1=>xs.length<=sizeLine/\TupR H1 xs Q
def tLstU(t:TA):TE:=λσ H Q=>t σ H λxs H1=>xs.length<=sizeLine/\LstR H1 xs Q
section
variable {X:Cx}{es:List Expr}{t:TA}{pos:Pos}
def kW{x1}(h:JA X es t):JE X (.Tuple es x1 pos) (tTupU t):=⟨λad s σ H Q I hq=>by
 refine wpAny_Tuple_spliced (ln (h.h pos ad s σ H _ I hq) λus s1 ⟨xs,H1,I1,r,z,q⟩=>⟨by rw[<- r.length];exact z,?_⟩)
 have hf:H1 s1.heap.objs.size=none:=I1.hok.fresh (ak _)
 exact⟨.ref s1.heap.objs.size,upd H1 s1.heap.objs.size (.tup xs),I1.laid (t':=s1.toks) (λb u e=>ae _ e) (ak _) ⟨z,us,r,TupO.new _ _⟩,rfl,q.new hf⟩⟩
def yL(h:JA X es t):JE X (.List es pos) (tLstU t):=⟨λad s σ H Q I hq=>by
 refine wpAny_List_spliced (ln (h.h pos ad s σ H _ I hq) λus s1 ⟨xs,H1,I1,r,z,q⟩=>⟨by rw[<- r.length];exact z,?_⟩)
 have hf:H1 s1.heap.objs.size=none:=I1.hok.fresh (ak _)
 exact⟨.ref s1.heap.objs.size,upd H1 s1.heap.objs.size (.lst xs),I1.laid (t':=s1.toks) (λb u e=>ae _ e) (ak _) ⟨z,us,0,r,aD _ rfl⟩,rfl,q.new hf⟩⟩
def jES:OpR X (binaryOp .Add) (λx y H Q=>∃l b xs zs,x=.ref l/\y=.ref b/\H l=some (.lst xs)/\H b=some (.lst zs)/\xs.length+zs.length<=sizeLine/\LstR H (xs++zs) Q):=by
 intro ad s σ H x y v u Q I rx ry h
 obtain⟨l,b,xs,zs,rfl,rfl,h1,h2,h3,q⟩:=h
 exact jSZ ad s σ H _ _ v u Q I rx ry ⟨l,b,xs,zs,rfl,rfl,h1,h2,h3,λp hp=>q.new hp⟩
end
end L2
namespace L2
open PySem PySem.Spec PyProof.Rows
variable {X:Cx}
def jLP{o i:Expr}{pos:Pos}{to ti:TE}{t:TSet}(ho:JE X o to)(hi:JE X i ti)(hs:PSet X t)
  (ha:∀v,assign (.Subscript o i pos) X.env v=(do
   let ov <- holding [v] (eval o X.env)
   let iv <- holding [v,ov] (eval i X.env)
   standAt pos
   holding [v,ov,iv] (setItem ov iv v)
   release [v,ov,iv] []):=by intro _;rfl):JG X (.Subscript o i pos) (gSub to ti t):=⟨jPB ho.h hi.h hs ha⟩
def jBG(ns:List Int):∀j,preSum (λi=>ns.getD i 0) j=(ns.take j).sum
 | 0=>rfl
 |j+1=>by
  rw[preSum,jBG ns j,aX,eE]
  congr 1
  rw[af]
  cases ns[j]? with
  |none=>rfl
  |some z=>simp
section
def rSum(K:W.Frag):List V->Hp->VK->Prop:=λxs H Q=>∃(p:Addr) (ns:List Int),xs=[.ref p]/\(SqL K H p (ns.map V.int))/\Q (.int ns.sum) H
def jAA(hc:X.calm=true):yV X (.builtin "sum") (rSum X.K):=by
 intro ad s σ H xs us Q I r h
 obtain⟨p,ns,rfl,hq,q⟩:=h
 obtain⟨u,rfl,rx⟩:=r.one
 cases rx
 obtain⟨its,r',pl,hz⟩:=I.list hq
 have hlen:=r'.length
 rw[aa] at hlen
 refine call_sum_walkG (dJ pl.isList ?_)
 have hne:p≠s.heap.objs.size:=by
  obtain⟨o,ho,_⟩:=pl.isList
  exact aS (aw ho)
 refine⟨s.heap.objs.size,_,_,_,_,_,λi=>ns.getD i 0,rfl,ke (by simpa using I.ok.hd hc) _ p hne its.toArray,⟨⟨_,aD _ rfl,rfl,rfl⟩,pl.isList.push _⟩,(λb hb=>?_),(λi v hP=>?_),λh' tk t' hk=>?_⟩
 .show b<(s.heap.push _).objs.size
  rw[bM]
  obtain⟨o,ho,_⟩:=pl.isList
  have:=aw ho
  rcases ay.mp hb with rfl|hb
  .exact cJ _
  .rcases ay.mp hb with rfl|hb
   .exact bw this
   .cases hb
 .have hi:its[i]?=some v:=by simpa using hP
  have hb:i<ns.length:=by
   rw[hlen]
   exact(aF.mp hi).1
  obtain⟨u,hu,ru⟩:=r'.get (i:=i) (x:=.int (ns[i])) (by simp[hb])
  rw[hi] at hu
  cases hu
  obtain⟨t,rfl⟩:=ru
  exact⟨t,by simp[List.getD,hb]⟩
 .have e:preSum (λi=>ns.getD i 0) its.toArray.size=ns.sum:=by
   rw[jBG,ao,<- hlen,bH]
  rw[e]
  exact⟨.int _,H,I.kept (t':=tk) λb o e=>hk b o (by
   intro z
   have z:b=s.heap.objs.size:=by simpa using z
   exact absurd (aw e) (by rw[z];exact cf _)) (ae _ e),⟨_,rfl⟩,q⟩
variable {sc:Scope}{cl:List (Str×Addr)}{C:Addr}{Nc:List Str}{fp:List Addr}{s:Shared}{H:Hp}
end
end L2
namespace L2
open PySem
variable {X:Cx}
section
variable {tg iter elt:Expr}{ifs:List Expr}{sc:Scope}{pos:Pos}{wi:TI}{g:TG}{tt:TT}{te:TE}{m:List (Option Nat)}{Nc:List Str}
def jOU(hc:X.calm=true)(hi:PI X tg iter wi)(hkind:sc.kind=.function)(hcell:∀y∈sc.names,y.2≠.cell)(hnames:∀y∈sc.names,y.2=.local->sc.names.lookup y.1=some .local)
  (hfree:Fq X sc) (hm:qX X sc Nc m)
  (hg:∀cl C fp s H,PG (blk X sc cl C Nc fp s H) tg g) (ht:∀cl C fp s H,PTs (blk X sc cl C Nc fp s H) ifs tt) (he:∀cl C fp s H,PE (blk X sc cl C Nc fp s H) elt te)
  (hs:∀x,foldedSetIterable iter X.env x=pure x) {fpos:Pos}{use:Option (Value->Sem Unit)}{R:Value->Shared->Prop}{ad:List (Addr×Obj)}{s:Shared}{σ:St}{H:Hp}{Q:VK}(I:Inv X ad σ H s) (h:tComp m wi g tt te σ H Q)
  (fin:∀(D C:Addr) (H5:Hp) (z1:Shared) (r:Flow),(∃mm,z1.heap.Ns C mm)->FpOk X ad H5 C->(∀h',Heap.SameBut C z1.heap h'->Inv X ad σ H5 {z1 with heap:=h'})->Q (.ref D) H5->compPost (model X.prog X.w) X.A X.xe use R (.ref D) C (.ok r) z1):
  wpAny (model X.prog X.w) X.A (comprehension (.ListComp elt [⟨tg,iter,ifs,0⟩] sc pos) sc X.env fpos (newList []) false (eval iter X.env) use) R X.xe s:=
 jJ4 (tf:=λ_=>te) hc hi hkind hcell hnames hfree hm hg ht (λcl C fp s H _ _ _ _=>he cl C fp s H) hs I h fin
def jQC{i:Nat}{x:Str}{pos' spos:Pos}(hN:X.N.Nodup)(hi':X.N[i]?=some x)(hx:Loc X.env.scope x)(hf:X.fn x=true\/X.env.scope.names.lookup x=some .local)(hsw:swapsWith (.ListComp elt [⟨tg,iter,ifs,0⟩] sc pos) (some (.Name x pos')) spos.line X.env=pure true)
  (hc:X.calm=true) (hi:PI X tg iter wi) (hkind:sc.kind=.function) (hcell:∀y∈sc.names,y.2≠.cell) (hnames:∀y∈sc.names,y.2=.local->sc.names.lookup y.1=some .local)
  (hfree:Fq X sc) (hm:qX X sc Nc m)
  (hg:∀cl C fp s H,PG (blk X sc cl C Nc fp s H) tg g) (ht:∀cl C fp s H,PTs (blk X sc cl C Nc fp s H) ifs tt) (he:∀cl C fp s H,PE (blk X sc cl C Nc fp s H) elt te)
  (hs:∀x,foldedSetIterable iter X.env x=pure x):PS X (.Assign [.Name x pos'] (.ListComp elt [⟨tg,iter,ifs,0⟩] sc pos) spos) (tAsg (tComp m wi g tt te) (kI i)):=by
 intro ad s σ H D I h
 rw[exec_Assign_Name_used _ _ _ _ hsw]
 refine ab (iu (ab ?_))
 show wpAny _ _ (do let _ <- comprehension (.ListComp elt [⟨tg,iter,ifs,0⟩] sc pos) sc X.env _ (newList []) false (eval iter X.env) (some (assign (.Name x pos') X.env))) _ _ _
 refine ab (cn (jOU (R:=λ_ s'=>SP X ad D .next s') hc hi hkind hcell hnames hfree hm hg ht he hs ⟨I.ok,I.os,I.bare,I.base,I.loc,I.cell,I.free,I.freeC,I.pin,I.hok,I.len⟩ h ?_) (λ_ s' hq=>ah (ah hq)) λ_ _ e=>e)
 intro D' C H5 z1 r ⟨mm,hn⟩ fC sb q
 have I1:=sb _ (Heap.SameBut.refl C z1.heap)
 refine wpAny_assign_Name (jFJ (v:=.ref D') I1 hN hi' hx rfl (λs2 I2 ⟨a,sa,ha⟩=>?_) hf)
 obtain⟨f0,f1,f2,f3,f4,f5⟩:=fC
 have hCa:C≠a:=by
  rcases ha with rfl|ha
  .exact f1
  .exact(f4 _ _ ha).symm
 refine⟨mm,hn.sameBut sa hCa,λh' sb2=>⟨_,H5,?_,q⟩⟩
 refine I2.call' (s':= {s2 with heap:=h'}) (ch:=[C]) rfl ?_ (I2.hok.sameBut sb2 f0) I2.bare (λb hb=>?_)
 .have ne:∀{b:Addr},b∉ [C]->b≠C:=λh e=>h (by rw[e];exact aW.mpr rfl)
  refine⟨λb o e n hf hx=>(sb2.2 b (ne hx)).trans e,λb o e n hf hx=>⟨o.slots,(sb2.2 b (ne hx)).trans e⟩,λb o e n hx=>n,λb o e hx=>⟨o,(sb2.2 b (ne hx)).trans e⟩,λb xs e=>e,λb o u e=>e,λb ps e=>⟨#[],by rw[Array.append_empty];exact e⟩⟩
 .cases aW.mp hb
  exact⟨f3,f1,f4,f5⟩
end
structure SwC (e:Expr)(x:Str)(pos' spos:Pos)(X:Cx):Prop where
 h:swapsWith e (some (.Name x pos')) spos.line X.env=pure true
def jBK{i:Nat}{x:Str}{pos' spos pos:Pos}{tg iter elt:Expr}{ifs:List Expr}{sc:Scope}{wi:TI}{g:TG}{tt:TT}{te:TE}{m:List (Option Nat)}{Nc:List Str}(hN:X.N.Nodup)(hi':X.N[i]?=some x)(hx:Loc1 X x)(hsw:SwC (.ListComp elt [⟨tg,iter,ifs,0⟩] sc pos) x pos' spos X)
  (hc:X.calm=true) (hi:JI X tg iter wi) (hkind:sc.kind=.function) (hcell:∀y∈sc.names,y.2≠.cell) (hnames:∀y∈sc.names,y.2=.local->sc.names.lookup y.1=some .local)
  (hfree:Fq X sc) (hm:qX X sc Nc m)
  (hg:∀cl C fp s H,JG (blk X sc cl C Nc fp s H) tg g) (ht:∀cl C fp s H,JTs (blk X sc cl C Nc fp s H) ifs tt) (he:∀cl C fp s H,JE (blk X sc cl C Nc fp s H) elt te)
  (hs:FoOk iter):JS X (.Assign [.Name x pos'] (.ListComp elt [⟨tg,iter,ifs,0⟩] sc pos) spos) (tAsg (tComp m wi g tt te) (kI i)):=
 ⟨jQC hN hi' hx.a hx.b hsw.h hc hi.h hkind hcell hnames hfree hm (λcl C fp s H=>(hg cl C fp s H).h) (λcl C fp s H=>(ht cl C fp s H).h) (λcl C fp s H=>(he cl C fp s H).h) (hs.h _)⟩
end L2
namespace L2
open PySem PySem.Spec PyProof.Rows
variable {Q:Value->Shared->Prop}{kvs:List (List Key×V)}{xs:List (List Key×Addr×Value)}{α β:Type}{zs:List V}{u x:Value}{o:Option V}{l e c it c0:Addr}{elts:List Expr}{tp:Bool}{K:W.Frag}{h':Heap}{y:V}{q:Str}{i x1 n:Nat}{args:Arguments}{a:Expr}{p:Pos}
variable {prog:Program}{w:World}{A:Around}{E:Value->Shared->Prop}
variable {X:Cx}
open PySem.AutoSeq1 (wpAny_loadPart')
variable {s:Shared}
variable {sc:Scope}{cl:List (Str×Addr)}{C:Addr}{Nc:List Str}{fp:List Addr}{H:Hp}
def rSumT(K:W.Frag):List V->Hp->VK->Prop:=λxs H Q=>∃(p:Addr) (ns:List Int),xs=[.ref p]/\(SqT K H p (ns.map V.int))/\Q (.int ns.sum) H
def jMN(hc:X.calm=true):yV X (.builtin "sum") (rSumT X.K):=by
 intro ad s σ H xs us Q I r h
 obtain⟨p,ns,rfl,hq,q⟩:=h
 obtain⟨u,rfl,rx⟩:=r.one
 cases rx
 obtain⟨its,r',pl,hz⟩:=I.tuple hq
 have pl:s.heap.IsTuple p its.toArray:=pl
 have hlen:=r'.length
 rw[aa] at hlen
 refine call_sum_walkG (gP pl ?_)
 have hne:p≠s.heap.objs.size:=by
  obtain⟨o,ho,_⟩:=pl
  exact aS (aw ho)
 refine⟨s.heap.objs.size,_,_,_,_,_,λi=>ns.getD i 0,rfl,Walks.tuple (by simpa using I.ok.hd hc) _ p hne its.toArray,⟨⟨_,aD _ rfl,rfl,rfl⟩,pl.push _⟩,(λb hb=>?_),(λi v hP=>?_),λh' tk t' hk=>?_⟩
 .show b<(s.heap.push _).objs.size
  rw[bM]
  obtain⟨o,ho,_⟩:=pl
  have:=aw ho
  rcases ay.mp hb with rfl|hb
  .exact cJ _
  .rcases ay.mp hb with rfl|hb
   .exact bw this
   .cases hb
 .have hi:its[i]?=some v:=by simpa using hP
  have hb:i<ns.length:=by
   rw[hlen]
   exact(aF.mp hi).1
  obtain⟨u,hu,ru⟩:=r'.get (i:=i) (x:=.int (ns[i])) (by simp[hb])
  rw[hi] at hu
  cases hu
  obtain⟨t,rfl⟩:=ru
  exact⟨t,by simp[List.getD,hb]⟩
 .have e:preSum (λi=>ns.getD i 0) its.toArray.size=ns.sum:=by
   rw[jBG,ao,<- hlen,bH]
  rw[e]
  exact⟨.int _,H,I.kept (t':=tk) λb o e=>hk b o (by
   intro z
   have z:b=s.heap.objs.size:=by simpa using z
   exact absurd (aw e) (by rw[z];exact cf _)) (ae _ e),⟨_,rfl⟩,q⟩
def rAnyI(K:W.Frag):List V->Hp->VK->Prop:=λxs H Q=>∃(p:Addr) (ns:List Int),xs=[.ref p]/\SqL K H p (ns.map V.int)/\Q (.bl (ns.any λn=>!decide (n=0))) H
theorem jMR(hc:X.calm=true):yV X (.builtin "any") (rAnyI X.K):=by
 intro ad s σ H xs us Q I r h
 obtain⟨p,bs,rfl,hq,q⟩:=h
 obtain⟨u,rfl,rx⟩:=r.one
 cases rx
 obtain⟨its,r',pl,hz⟩:=I.list hq
 have hlen:=r'.length
 rw[aa] at hlen
 refine call_any_walk (dJ pl.isList ?_)
 have hne:p≠s.heap.objs.size:=by
  obtain⟨o,ho,_⟩:=pl.isList
  exact aS (aw ho)
 refine⟨s.heap.objs.size,_,_,_,_,_,λi=>!decide (bs.getD i 1=0),rfl,ke (by simpa using I.ok.hd hc) _ p hne its.toArray,⟨⟨_,aD _ rfl,rfl,rfl⟩,pl.isList.push _⟩,λi v z Q' E' hP hQ'=>?_,λh' tk hk=>?_⟩
 .have hi:its[i]?=some v:=by simpa using hP
  have hb:i<bs.length:=by
   rw[hlen]
   exact(aF.mp hi).1
  obtain⟨u,hu,ru⟩:=r'.get (i:=i) (x:=.int (bs[i])) (by simp[hb])
  rw[hi] at hu
  cases hu
  obtain⟨t,rfl⟩:=ru
  have e:bs.getD i 1=bs[i]:=by simp[List.getD,hb]
  have hQ2:Q' (!decide (bs.getD i 1=0)) z:=hQ'
  rw[e] at hQ2
  refine PyProof.Rows.truthy_int ?_
  have e2:(bs[i] != 0)=!decide (bs[i]=0):=by by_cases h:bs[i]=0<;>simp[h]
  rw[e2]
  exact hQ2
 .have e:(List.range its.toArray.size).any (λi=>!decide (bs.getD i 1=0))=bs.any λn=>!decide (n=0):=by
   rw[ao,<- hlen]
   rw[cQ,gd,gd]
   constructor
   .rintro ⟨i,hi,hb⟩
    have hi:=bq.mp hi
    exact⟨bs[i],bC hi,by simpa [List.getD,hi] using hb⟩
   .rintro ⟨b,hb,hq⟩
    obtain⟨i,hi,rfl⟩:=cm hb
    exact⟨i,bq.mpr hi,by simpa [List.getD,hi] using hq⟩
  rw[e]
  exact⟨.bl _,H,I.kept (t':=tk) λb o e=>hk b o (by
   intro z
   have z:b=s.heap.objs.size:=by simpa using z
   exact absurd (aw e) (by rw[z];exact cf _)) (ae _ e),rfl,q⟩
def jGB(hc:X.calm=true):yV (blkC X sc cl C Nc fp s H) (.builtin "sum") (rSum X.K):=jAA hc
structure SeerK (P:Program)(K:W.Frag)(mg:Str->Option Value):Prop where
 tree:P.given.tree=none
 st:∃o n,K.lookup cStatics=some o/\o.data=.dict #[] n
 md:∃o es n,K.lookup sysModules=some o/\o.data=.dict es n/\StrKeys es/\nsFind es "_pylong" =none
 bm:∃b o,mg "__builtins__" =some (.ref b)/\K.lookup b=some o/\o.cls=.type "module" /\o.dict=some builtinsNs
def Plain(l:List Env):Prop:=∃e r,l=e::r/\e.scope.isGenerator=false/\e.scope.isCoroutine=false/\e.builtins=builtinsNs/\e.globals=mainGlobals
structure Pyl (X:Cx):Prop where
 k:SeerK X.prog X.K X.mg
 fr:Plain X.stack
 dp:X.A.depth+100<recursionLimit
variable {ad:List (Addr×Obj)}{σ:List (Option V)}
def Pyl.room(h:Pyl X)(I:Inv X ad σ H s):PylongRoom (model X.prog X.w) X.A s:=by
 obtain⟨e,r,e1,e2,e3,e4,e5⟩:=h.fr
 have kin:=I.kIn
 refine PylongRoom.of I.nolimit h.dp (SeerAt.of (env:=e) (l:=r) ⟨?_,?_,?_,?_⟩ h.k.tree (by rw[I.ok.frames,e1]) e2 e3 e4 e5)
 .obtain⟨o,n,a,b⟩:=h.k.st
  exact⟨λ_=>none,⟨o,_,n,kin _ _ a,b,(λe he=>absurd he (by simp)),λ_=>rfl⟩,rfl,rfl⟩
 .obtain⟨o,es,n,a,b,c,d⟩:=h.k.md
  exact⟨_,⟨o,_,n,kin _ _ a,b,c,λ_=>rfl⟩,d⟩
 .obtain⟨mb,a,b⟩:=I.mod.blt
  exact⟨mb,a.keepsP I.bk,b⟩
 .obtain⟨b,o,g,a,c,d⟩:=h.k.bm
  exact⟨X.mg,b,o,I.mod.glob.keepsP I.bk,g,kin _ _ a,c,d⟩
def Pyl.blk{s':Shared}{H':Hp}(h:Pyl X):Pyl (L2.blk X sc cl C Nc fp s' H'):=⟨h.k,h.fr,h.dp⟩
def jD2(h:Pyl X):OpR X (binaryOp .FloorDiv) (rI (λ_ j=>j≠0) λi j=> .int (i.fdiv j)):=by
 intro ad s σ H x y v u Q I rx ry hq
 obtain⟨i,j,rfl,rfl,hj,q⟩:=hq
 obtain⟨t,rfl⟩:=rx
 obtain⟨t',rfl⟩:=ry
 exact floordiv_int hj ⟨.int _,H,I.tok _,⟨_,rfl⟩,q⟩ (.inr (h.room I))
def Bt(k:Nat)(x:Int):Prop:=x.natAbs<=2^k
theorem Bt.bits{k:Nat}{x:Int}(h:Bt k x):Builtin.Int.intBits x<=k+1:=by
 unfold Builtin.Int.intBits
 split
 .exact bb _
 .rename_i hx
  have hx:x.natAbs≠0:=λz=>hx (by rw[Int.natAbs_eq_zero.mp z];rfl)
  have:x.natAbs.log2<k+1:=(Nat.log2_lt hx).mpr (gU h (Nat.pow_lt_pow_right (by decide) (cJ k)))
  lia
theorem Bt.mulOk{a b:Nat}{x y:Int}(hx:Bt a x)(hy:Bt b y)(h:a+b<=134217000):IntMulOk x y:=by
 have h1:=hx.bits
 have h2:=hy.bits
 unfold IntMulOk
 intro z
 rw[ba] at z
 have z:=z.2
 unfold Builtin.Int.intTooBig at z
 have z:=aG z
 rw[bitsLine_eq] at z
 lia
def jEQ:OpR X (binaryOp .Mult) (rI (λi j=>∃a b,Bt a i/\Bt b j/\a+b<=134217000) λi j=> .int (i*j)):=by
 intro ad s σ H x y v u Q I rx ry hq
 obtain⟨i,j,rfl,rfl,⟨a,b,ha,hb,hl⟩,q⟩:=hq
 obtain⟨t,rfl⟩:=rx
 obtain⟨t',rfl⟩:=ry
 exact mul_int ⟨.int _,H,I.tok _,⟨_,rfl⟩,q⟩ (ha.mulOk hb hl)
open PySem.AutoSeq1 (wpAny_loadPart')
def jOT{xs:Array Value}{old:Value}(ee:IsEnum s.heap e it i old)(g1:ItAt tp s.heap it l i)(o1:ObAt tp s.heap l xs)(hx:xs[i]?=some x)(ne:e≠it)
  (k:∀h',IsEnumOut h' e it ((i:Int)+1) x s.heap.objs.size->ItAt tp h' it l (i+1)->h'.get? s.heap.objs.size=some {cls:=.type "tuple",data:=.seq #[.int i s.toks,x]} ->h'.objs.size=s.heap.objs.size+1->
   (∀c o,c≠e->c≠it->s.heap.get? c=some o->h'.get? c=some o)->Q (.ref s.heap.objs.size) {s with heap:=h',toks:=s.toks+1}):
  wpAny (model prog w) A (Builtin.«enumerate.__next__» ⟨[.ref e],[]⟩) (λfin s'=>∃v,fin=.done (.ret v)/\Q v s') E s:=by
 obtain⟨hp,g,d,tk,os⟩:=s
 show wpAny (model prog w) A (field (.ref e) 2 >>= _) _ _ _
 refine ab (bX ee rfl (x:=.ref it) rfl (ab (next1 g1 o1 hx λp1 r1 q1=>?_)))
 have q1:Heap.SameBut it hp p1:=q1
 have e1:IsEnum p1 e it i old:=(q1.2 e ne).trans ee
 show wpAny (model prog w) A (field (.ref e) 3 >>= _) _ _ ⟨p1,g,d,tk,os⟩
 refine ab (bX e1 rfl (x:=rawInt i) rfl (?_:wpAny (model prog w) A (field (.ref e) 4 >>= _) _ _ ⟨p1,g,d,tk,os⟩))
 refine ab (bX e1 rfl (x:=.none) rfl (?_:wpAny (model prog w) A (mkInt i >>= _) _ _ ⟨p1,g,d,tk,os⟩))
 refine ab (wpAny_mkInt (?_:wpAny (model prog w) A (setField (.ref e) 3 (rawInt ((i:Int)+1)) >>= _) _ _ ⟨p1,g,d,tk+1,os⟩))
 refine ab (bJ e1 (by simp) λp2 e2 q2=>?_)
 have q2:Heap.SameBut e p1 p2:=q2
 have e2:IsEnum p2 e it ((i:Int)+1) old:=e2
 show wpAny (model prog w) A (setField (.ref e) 4 .none >>= _) _ _ ⟨p2,g,d,tk+1,os⟩
 refine ab (bJ e2 (by simp) λp3 e3 q3=>?_)
 have q3:Heap.SameBut e p2 p3:=q3
 have e3:IsEnum p3 e it ((i:Int)+1) old:=e3
 show wpAny (model prog w) A (newTuple [.int i tk,x] >>= _) _ _ ⟨p3,g,d,tk+1,os⟩
 refine ab (jm ?_)
 have e4:IsEnum (p3.push {cls:=.type "tuple",data:=.seq #[.int i tk,x]}) e it ((i:Int)+1) old:=ae _ e3
 have sz:p3.objs.size=hp.objs.size:=by rw[q3.1,q2.1,q1.1]
 have lt:e<hp.objs.size:=aw ee
 have t4:(p3.push {cls:=.type "tuple",data:=.seq #[.int i tk,x]}).get? hp.objs.size=some {cls:=.type "tuple",data:=.seq #[.int i tk,x]}:=by rw[<- sz];exact aD _ rfl
 have z4:(p3.push {cls:=.type "tuple",data:=.seq #[.int i tk,x]}).objs.size=hp.objs.size+1:=by rw[bM,sz]
 have k4:∀c o,c≠e->c≠it->hp.get? c=some o->(p3.push {cls:=.type "tuple",data:=.seq #[.int i tk,x]}).get? c=some o:=λc o n1 n2 v=>ae _ (q3.extBut c o n1 (q2.extBut c o n1 (q1.extBut c o n2 v)))
 have r4:ItAt tp (p3.push {cls:=.type "tuple",data:=.seq #[.int i tk,x]}) it l (i+1):=((r1.but q2.extBut ne.symm).but q3.extBut ne.symm).at λo v=>ae _ v
 generalize p3.push {cls:=.type "tuple",data:=.seq #[.int i tk,x]} =p4 at e4 t4 z4 k4 r4 ⊢
 show wpAny (model prog w) A (Builtin.SmallTypes.ownedTupleIsFree (.ref e) >>= _) _ _ ⟨p4,g,d,tk+1,os⟩
 rw[sz]
 refine ab (by
  unfold Builtin.SmallTypes.ownedTupleIsFree
  refine ab (bX e4 rfl (x:=.none) rfl (ah ?_))
  simp only[gh]
  refine ab (cL (ab (bX e4 rfl (x:=old) rfl (ab (bJ e4 (by simp) λp5 e5 q5=>?_)))))
  have q5:Heap.SameBut e p4 p5:=q5
  have e5:IsEnum p5 e it ((i:Int)+1) x:=e5
  refine ab (m:=Builtin.SmallTypes.ownedTupleHandOut (.ref e) (.ref hp.objs.size)) ?_
  unfold Builtin.SmallTypes.ownedTupleHandOut
  refine ab (bJ e5 (by simp) λp6 e6 q6=>?_)
  have q6:Heap.SameBut e p5 p6:=q6
  have e6:IsEnumOut p6 e it ((i:Int)+1) x hp.objs.size:=e6
  refine bJ e6 (by simp) λp7 e7 q7=>?_
  have q7:Heap.SameBut e p6 p7:=q7
  have e7:IsEnumOut p7 e it ((i:Int)+1) x hp.objs.size:=e7
  have up:∀c o,c≠e->p4.get? c=some o->p7.get? c=some o:=λc o n v=>q7.extBut _ _ n (q6.extBut _ _ n (q5.extBut _ _ n v))
  exact ab (im (ah ⟨_,rfl,k p7 e7 (r4.at λo v=>up _ o ne.symm v) (up _ _ (cz lt) t4) (by rw[q7.1,q6.1,q5.1,z4]) λc o n1 n2 v=>up c o n1 (k4 c o n1 n2 v)⟩)))
def jJF{xs:Array Value}{old:Value}{Q:Option Value->Shared->Prop}(ee:IsEnum s.heap e it i old)(g1:ItAt tp s.heap it l i)(o1:ObAt tp s.heap l xs)(hx:xs[i]?=some x)(ne:e≠it)
  (k:∀h',IsEnumOut h' e it ((i:Int)+1) x s.heap.objs.size->ItAt tp h' it l (i+1)->h'.get? s.heap.objs.size=some {cls:=.type "tuple",data:=.seq #[.int i s.toks,x]} ->h'.objs.size=s.heap.objs.size+1->
   (∀c o,c≠e->c≠it->s.heap.get? c=some o->h'.get? c=some o)->Q (some (.ref s.heap.objs.size)) {s with heap:=h',toks:=s.toks+1}):
  wpAny (model prog w) A (pyNext (.ref e)) Q E s:=by
 have ty:s.TypeIs (.ref e) "enumerate" :=⟨_,ee,rfl⟩
 unfold pyNext
 exact ab (dQ (bK (name:=Str.ofString "__next__") ty F.slot_enumerate_next (bQ F.slot_enumerate_next ty F.entry_enumerate_next (jOT ee g1 o1 hx ne λh' b1 b2 b3 b4 b5=>ah (k h' b1 b2 b3 b4 b5)) (F.args_enumerate_next_1 _))))
def jJG{xs:Array Value}{old:Value}{Q:Option Value->Shared->Prop}(hh:A.handled=none)(ee:IsEnum s.heap e it i old)(g1:ItAt tp s.heap it l i)(o1:ObAt tp s.heap l xs)(hx:xs[i]?=none)
  (k:∀h',(∀c o,c≠e->c≠it->s.heap.get? c=some o->h'.get? c=some o)->Q none {s with heap:=h'}):wpAny (model prog w) A (pyNext (.ref e)) Q E s:=by
 have ty:s.TypeIs (.ref e) "enumerate" :=⟨_,ee,rfl⟩
 unfold pyNext
 refine ab (dQ (bK (name:=Str.ofString "__next__") ty F.slot_enumerate_next (bQ F.slot_enumerate_next ty F.entry_enumerate_next (?_:wpAny (model prog w) _ (field (.ref e) 2 >>= _) _ _ _) (F.args_enumerate_next_1 _))))
 refine ab (bX ee rfl (x:=.ref it) rfl (ab (next0 hh g1 o1 hx λh' x kp ⟨u,eu,cu⟩=>?_)))
 exact ab (gb (T:= "StopIteration") (b:=true) ⟨u,eu,cu⟩ jl (ah (k _ λc o _ n v=>kp c o n v)))
set_option maxHeartbeats 2000000 in
def jLG(tp:Bool)(l:Addr)(xs:Array Value)(u:Obj):
  Meets (Builtin.«enumerate.__new__» ⟨[.type "enumerate",.ref l],[]⟩) (λ_ R s=>s.heap.get? l=some u/\ObAt tp s.heap l xs/\
   R (.ok (.ret (.ref (s.heap.push (qU tp l)).objs.size))) {s with heap:=(s.heap.push (qU tp l)).push {cls:=.type "enumerate",data:=.fields #[.none,.bool false,.ref s.heap.objs.size,rawInt 0,.none,.none]}}):=
 .of_wp λprog w A R s h=>by
  obtain⟨hp,g,d,tk,os⟩:=s
  obtain⟨a0,a1,q⟩:=h
  have sub:=sub_enumerate
  have e1:ObAt tp (Shared.heap ⟨hp,g,d,tk,os⟩) l xs:=a1
  obtain⟨c,dct,dt,sl⟩:=u
  obtain⟨n,hc,hd⟩:∃n,c=(if tp then .type "tuple" else .type "list")/\dt=.seq xs n:=by
   cases tp with
   |false=>obtain⟨o,e,hc,n,hd⟩:=a1;cases (a0.symm.trans e);exact⟨n,hc,hd⟩
   |true=>obtain⟨o,e,hc,n,hd⟩:=a1;cases (a0.symm.trans e);exact⟨n,hc,hd⟩
  subst hd
  cases tp with
  |false=>
   subst hc
   wp_walk using cS a0
   refine wpAny_stack_any λ_=>ah ?_
   split
   .rename_i c _ _ _ _ _
    cases hcc:(c==Value.type "enumerate")
    all_goals (wp_walk using cS a0,jCD e1;exact⟨_,rfl,q⟩)
   .wp_walk using cS a0,jCD e1
    exact⟨_,rfl,q⟩
  |true=>
   subst hc
   wp_walk using cS a0
   refine wpAny_stack_any λ_=>ah ?_
   split
   .rename_i c _ _ _ _ _
    cases hcc:(c==Value.type "enumerate")
    all_goals (wp_walk using cS a0,jCD e1;exact⟨_,rfl,q⟩)
   .wp_walk using cS a0,jCD e1
    exact⟨_,rfl,q⟩
theorem jOW{xs:Array Value}(a1:ObAt tp s.heap l xs)
  (k:∀h',IsEnum h' (s.heap.objs.size+1) s.heap.objs.size 0 .none->ItAt tp h' s.heap.objs.size l 0->(∀c o,s.heap.get? c=some o->h'.get? c=some o)->Q (.ref (s.heap.objs.size+1)) {s with heap:=h'}):
  wpAny (model prog w) A (call (.type "enumerate") [.ref l]) Q E s:=by
 obtain⟨u,eu⟩:∃u,s.heap.get? l=some u:=by
  cases tp with
  |false=>obtain⟨o,e,_⟩:=a1;exact⟨o,e⟩
  |true=>obtain⟨o,e,_⟩:=a1;exact⟨o,e⟩
 refine callType_new F.called_enumerate (by decide) (F.typeCall_enumerate_1 _) (F.newCall_enumerate_1 _) (λobj=>F.args_object_init_2 obj _) F.entry_enumerate_new (jLG tp l xs u) ⟨eu,a1,?_⟩
 have z1:(s.heap.push (qU tp l)).objs.size=s.heap.objs.size+1:=bM ..
 have y2:IsEnum ((s.heap.push (qU tp l)).push {cls:=.type "enumerate",data:=.fields #[.none,.bool false,.ref s.heap.objs.size,rawInt 0,.none,.none]}) (s.heap.push (qU tp l)).objs.size s.heap.objs.size 0 .none:=aD _ rfl
 have y1:((s.heap.push (qU tp l)).push {cls:=.type "enumerate",data:=.fields #[.none,.bool false,.ref s.heap.objs.size,rawInt 0,.none,.none]}).get? s.heap.objs.size=some (qU tp l):=ae _ (aD _ (jCH _ _))
 show _/\_
 rw[z1] at y2 ⊢
 exact⟨⟨_,y2,rfl⟩,k _ y2 (.new tp y1) λc o e=>ae _ (ae _ e)⟩
def Ite(tp:Bool)(K:W.Frag)(l:Addr):It:=
 ⟨λi H=>∃xs x,Sq tp K H l xs/\xs[i]?=some x,
  λi H v H'=>∃T x,H T=none/\v=.ref T/\H'=upd H T (.tup [.int (i:Int),x])/\∀xs,Sq tp K H l xs->xs[i]?=some x,
  λi H=>∃xs,Sq tp K H l xs/\xs.length<=i⟩
theorem jK8{P:Program}{tps:Pos}(tp:Bool)(l e it:Addr)(ne:e≠it):
  Turn P w K (.Tuple elts x1 tps) (Ite tp K l) [e,it] e (λi h=>(∃old,IsEnum h e it ((i:Nat):Int) old)/\ItAt tp h it l i) where
 mem:=by simp
 obj:=λi h st b hb=>by
  obtain⟨⟨old,he⟩,y1⟩:=st
  simp only[ay,bG,di] at hb
  rcases hb with rfl|rfl
  .exact⟨_,he,λv q=>by cases q⟩
  .exact y1.obj
 keep:=λi h h' st k=>by
  obtain⟨⟨old,he⟩,h1⟩:=st
  exact⟨⟨old,k e (by simp) _ he⟩,h1.at λo z=>k it (by simp) o z⟩
 item:=by
  intro X hP hw hK hc i ad s σ H E I hf st hg
  subst hP hw hK
  obtain⟨xs,x,hq1,hx⟩:=hg
  obtain⟨⟨old,he⟩,h1⟩:=st
  obtain⟨its1,r1,p1,_⟩:=I.sq hq1
  obtain⟨u,hu,ru⟩:=r1.get hx
  refine jJF he h1 p1 (x:=u) (by simpa using hu) ne λh' a1 a2 a3 a4 a5=>?_
  refine⟨_,rfl,wpAny_letOwnedTupleGo_enum (s:= {s with heap:=h',toks:=s.toks+1}) a1 λh'' b1 sb=>?_⟩
  have fresh:H s.heap.objs.size=none:=I.fresh
  have ntr:∀b o,H b=some o->b∉([e,it]:List Addr):=λb o z hb=>by
   have:=(hf b hb).1
   rw[z] at this;cases this
  have kp:∀b o,b∉([e,it]:List Addr)->s.heap.get? b=some o->h''.get? b=some o:=λb o hb z=>by
   simp only[ay,bG,di,lh] at hb
   exact(sb.2 b hb.1).trans (a5 b o hb.1 hb.2 z)
  have nz:s.heap.objs.size≠e:=cz (aw he)
  have hT2:h''.get? s.heap.objs.size=some {cls:=.type "tuple",data:=.seq #[.int i s.toks,u]}:=(sb.2 _ nz).trans a3
  have I2:Inv X ad σ (upd H s.heap.objs.size (.tup [.int (i:Int),x])) {s with heap:=h'',toks:=s.toks+1}:=by
   refine I.step (g':=s.gens) (d':=s.drawn) (t':=s.toks+1) (ch:=[e,it]) (λb hb=>?_) (λb o _ _ hb z _=>kp b o hb z) (λb o _ _ hb z _=>⟨o.slots,kp b o hb z⟩)
    (λb o _ z n=>by rw[j7 (aS (aw z))];exact n) (λb o hb z=>⟨o,kp b o hb z⟩) (λb ws z=>by rw[j7 (j8 z fresh)];exact z) (λb o ws z=>by rw[j7 (j8 z fresh)];exact z)
    (λb ps z=>⟨#[],by rw[j7 (j8 z fresh),z];simp⟩) (λm hm=>?_) (λb o z=>?_) I.bare
   .obtain⟨f0,f1,f2,f3,f4,f5⟩:=hf b hb
    exact⟨f3,f1,f4,f5⟩
   .obtain⟨o,es,ep,ho,r⟩:=hm
    exact⟨o,es,ep,kp _ o (λhb=>(hf _ hb).2.1 rfl) ho,r⟩
   .by_cases hb:b=s.heap.objs.size
    .subst hb
     rw[j5] at z
     cases z
     exact⟨by rw[dZ];show 2<=_;decide,[.int i s.toks,u],.cons ⟨_,rfl⟩ (.cons ru .nil),0,hT2⟩
    .rw[j7 hb] at z
     refine(I.hok b o z).stay (λc w hc q=>kp c w ?_ q) (λc q=>by rw[j7 (j8 q fresh)];exact q) (λc ws q=>by rw[j7 (j8 q fresh)];exact q)
     rcases hc with rfl|hc
     .exact ntr _ _ z
     .exact ntr _ _ hc
  refine⟨.ref s.heap.objs.size,_,I2,rfl,⟨_,x,fresh,rfl,rfl,λxs' q1=>by rw[I.sq_inj q1 hq1];exact hx⟩,⟨⟨_,b1⟩,?_⟩,λb hb=>?_⟩
  .exact a2.at λo z=>(sb.2 it ne.symm).trans z
  .rw[j7 (λq=>by
    obtain⟨o,eo⟩:∃o,s.heap.get? b=some o:=by
     simp only[ay,bG,di] at hb
     rcases hb with rfl|rfl
     .exact⟨_,he⟩
     .obtain⟨o,z,_⟩:=h1.obj;exact⟨o,z⟩
    exact absurd (aw eo) (by rw[q];exact cf _))]
   exact(hf b hb).1
 done:=by
  intro X hP hw hK hc i ad s σ H E I hf st hg
  subst hP hw hK
  obtain⟨xs,hq1,hend⟩:=hg
  obtain⟨⟨old,he⟩,h1⟩:=st
  obtain⟨its1,r1,p1,_⟩:=I.sq hq1
  have e1:=r1.length
  refine jJG (I.ok.hd hc) he h1 p1 (by simp;lia) λh' kp=>⟨rfl,?_⟩
  have kp2:∀b o,b∉([e,it]:List Addr)->s.heap.get? b=some o->h'.get? b=some o:=λb o hb z=>by
   simp only[ay,bG,di,lh] at hb
   exact kp b o hb.1 hb.2 z
  have ntr:∀b o,H b=some o->b∉([e,it]:List Addr):=λb o z hb=>by
   have:=(hf b hb).1
   rw[z] at this;cases this
  refine I.step (g':=s.gens) (d':=s.drawn) (t':=s.toks) (ch:=[e,it]) (λb hb=>?_) (λb o _ _ hb z _=>kp2 b o hb z) (λb o _ _ hb z _=>⟨o.slots,kp2 b o hb z⟩)
   (λb o _ z n=>n) (λb o hb z=>⟨o,kp2 b o hb z⟩) (λb ws z=>z) (λb o ws z=>z) (λb ps z=>⟨#[],by rw[z];simp⟩) (λm hm=>?_) (λb o z=>?_) I.bare
  .obtain⟨f0,f1,f2,f3,f4,f5⟩:=hf b hb
   exact⟨f3,f1,f4,f5⟩
  .obtain⟨o,es,ep,ho,r⟩:=hm
   exact⟨o,es,ep,kp2 _ o (λhb=>(hf _ hb).2.1 rfl) ho,r⟩
  .refine(I.hok b o z).stay (λc w hc q=>kp2 c w ?_ q) (λ_ q=>q) λ_ _ q=>q
   rcases hc with rfl|hc
   .exact ntr _ _ z
   .exact ntr _ _ hc
 self:=λ_ _ _ _ _ st h=>wpAny_pyIter_enum st.1.choose_spec h
def iEnum(K:W.Frag)(ta:TA):TI:=λσ H R=>ta σ H λvs H1=>∃tp l,vs=[.ref l]/\(∃xs,Sq tp K H1 l xs)/\R (Ite tp K l) H1
theorem jQL{ta:TA}{pos:Pos}{tp:Pos}(hg:Gl X "enumerate")(hm:X.mg "enumerate" =none)(ha:PA X [a] ta)(hv:bootBuiltins "enumerate" =some (.type "enumerate"):=by decide+kernel)
  (he:starEach [a] X.env=(false,eval a X.env)::starEach [] X.env:=by rfl) (hpl:(backTo pos (starEach [] X.env)).any (·.1)=false:=by rfl):
  PI X (.Tuple elts x1 tp) (.Call (.Name "enumerate" p) [a] [] pos) (iEnum X.K ta):=by
 intro ad s σ H R I h
 refine Call_ (jCU I hg hm hv (cK (ln (ha pos ad s σ H _ I h) λus s1 ⟨vs,H1,I1,r1,q1⟩=>?_) he hpl))
 obtain⟨t1,l1,rfl,⟨xs,hq1⟩,q⟩:=q1
 obtain⟨u,rfl,ru⟩:=r1.one
 cases ru
 obtain⟨its1,_,p1,_⟩:=I1.sq hq1
 refine jOW p1 λh' a1 a2 kp=>?_
 have I2:Inv X ad σ H1 {s1 with heap:=h'}:=I1.kept (t':=s1.toks) kp
 refine wpAny_pyIter_enum a1 ⟨s1.heap.objs.size+1,[s1.heap.objs.size+1,s1.heap.objs.size],_,Ite t1 X.K l1,H1,rfl,I2,jK8 t1 l1 _ _ (Nat.succ_ne_self _),⟨⟨_,a1⟩,a2⟩,λb hb=>?_,q⟩
 have hge:s1.heap.objs.size<=b:=by
  simp only[ay,bG,di] at hb
  rcases hb with rfl|rfl
  .exact dy _ 1
  .exact ak _
 exact I1.fpOk hge (I1.hok.fresh hge)
theorem jRH{t:TA}{pos:Pos}{tp:Pos}(hg:Gl1 X "enumerate")(hm:X.mg "enumerate" =none)(ha:JA X [a] t)(he:starEach [a] X.env=(false,eval a X.env)::starEach [] X.env)(hv:bootBuiltins "enumerate" =some (.type "enumerate"):=by decide+kernel)
  (hpl:(backTo pos (starEach [] X.env)).any (·.1)=false:=by rfl):JI X (.Tuple elts x1 tp) (.Call (.Name "enumerate" p) [a] [] pos) (iEnum X.K t):=⟨jQL hg.a hm ha.h hv he hpl⟩
variable {m:List (Option Nat)}{g:TG}{tt:TT}{te:TE}{H1:Hp}{Q:VK}
section
variable {K:W.Frag}{σ:St}
end
variable {x:Str}{e:Expr}{t:TA}{np cpos pos:Pos}
section
variable {W:Hp->Prop}
end
variable {M:Model}{h:Heap}
section
variable {g:Array GenState}{d:Drawn}{tk:Nat}{os:OsState}
end
variable {H':Hp}
section
variable {h':Heap}
end
variable {T:Addr}
section
variable {σ:St}{h2:Heap}{x T':Addr}
end
section
variable {σ:St}{x:Addr}
end
section
variable {x:Addr}{Q:Unit->Shared->Prop}
end
variable {j:Nat}{f:Addr}{fd:FuncData}{ps:List Str}{sp:Sp}{es:List Expr}
section
variable {y n g c:Str}{i k:Nat}{B:Addr}{r:Expr}{te:Addr->TE}{yp gp cp ap rp hp tp:Pos}
end
variable {tg:Expr}
variable {iter elt:Expr}{ifs:List Expr}{wi:TI}
variable {a:Addr}{p:Pos}
section
variable {k:Nat}{sp:Addr->Sp}
end
variable {P:Program}{mg:Str->Option Value}{base:Heap}{N:List Str}{qual:Str}{outer:List Env}
section
variable {CX:CXT}{K:W.Frag}{cdv:Value}{E:XK}
end
def ncP(q:Str)(c:Addr):Heap->Prop:=λh=>h.CodeRec (.ref c) q
noncomputable abbrev onePs(pos:Pos)(c:Addr):Array Value:=#[rawInt pos.line,rawInt pos.col,.ref c]
def TabOk(H:Hp)(T:Addr)(pos:Pos)(q:Str):Prop:=H T=some (.tbl #[])\/∃c,H T=some (.tbl (onePs pos c))/\H c=some (.ext (ncP q c))
def ExtT(T:Addr)(H H':Hp):Prop:=∀b o,H b=some o->b≠T->H' b=some o
def BltAt(base:Heap)(mg:Str->Option Value):Prop:=∃bm o,mg "__builtins__" =some (.ref bm)/\bm≠builtinsNs/\bm≠mainGlobals/\base.get? bm=some o/\o.cls=.type "module" /\o.dict=some builtinsNs/\o.data=.plain
def ncP.stay(h1 h2:Heap)(p:ncP q c h1)(k:∀o,h1.get? c=some o->h2.get? c=some o):ncP q c h2:=by
 obtain⟨c',o,vs,t,e,g,r⟩:=p
 cases e
 exact⟨c,o,vs,t,rfl,k _ g,r⟩
def ncP.is{q:Str}{c:Addr}{h:Heap}(p:ncP q c h):∃o,h.get? c=some o:=by
 obtain⟨c',o,vs,t,e,g,r⟩:=p
 cases e
 exact⟨o,g⟩
section
variable {σ:St}
def Inv.laidX{h':Heap}{t':Nat}{φ:Heap->Prop}{a:Addr}(I:Inv X ad σ H s)(k:∀b u,s.heap.get? b=some u->h'.get? b=some u)(hp:s.heap.objs.size<=a)(p:φ h')(ho:∃o,h'.get? a=some o)(st:∀h1 h2:Heap,φ h1->(∀o,h1.get? a=some o->h2.get? a=some o)->φ h2):Inv X ad σ (upd H a (.ext φ)) {s with heap:=h',toks:=t'}:=
 I.laid k hp ⟨p,ho,st⟩
def Inv.grown{t':Nat}{ps more:Array Value}{φ:Heap->Prop}(I:Inv X ad σ H s)(hT:H T=some (.tbl ps))(k:Heap.ExtBut T s.heap h')(e:h'.get? T=some {cls:=.none,data:=.fields (ps++more)})
  (hc:s.heap.objs.size<=c) (p:φ h') (ho:∃o,h'.get? c=some o) (st:∀h1 h2:Heap,φ h1->(∀o,h1.get? c=some o->h2.get? c=some o)->φ h2):Inv X ad σ (upd (upd H T (.tbl (ps++more))) c (.ext φ)) {s with heap:=h',toks:=t'}:=by
 have hcn:H c=none:=I.hok.fresh hc
 have nT:∀{b:Addr},H b=none->b≠T:=λn z=>by rw[z,hT] at n;cases n
 have cT:T≠c:=λz=>by rw[z,hcn] at hT;cases hT
 have nc:∀{b:Addr}{o:Obj},s.heap.get? b=some o->b≠c:=λq z=>absurd (aw q) (by rw[z];exact Nat.not_lt.mpr hc)
 have mc:∀{b:Addr}{o:HO},H b=some o->b≠c:=λq=>j8 q hcn
 refine I.un ⟨λb o q n _ _=>k b o (nT n) q,λb o q n _ _=>⟨o.slots,k b o (nT n) q⟩,λb o q n _=>by rw[j7 (nc q),j7 (nT n)];exact n,λb o q _=>?_,λb xs q=>?_,λb o u q=>?_,λb qs q=>?_⟩ λb o q=>?_
 .by_cases hb:b=T
  .rw[hb];exact⟨_,e⟩
  .exact⟨o,k b o hb q⟩
 .rw[j7 (mc q),j7 (λz=>by rw[z,hT] at q;cases q)];exact q
 .rw[j7 (mc q),j7 (λz=>by rw[z,hT] at q;cases q)];exact q
 .by_cases hb:b=T
  .subst hb
   rw[hT] at q
   cases q
   exact⟨more,by rw[j7 cT,j5]⟩
  .exact⟨#[],by rw[j7 (mc q),j7 hb,q];simp⟩
 .by_cases hb1:b=c
  .subst hb1
   rw[j5] at q
   cases q
   exact⟨p,ho,st⟩
  rw[j7 hb1] at q
  by_cases hb:b=T
  .subst hb
   rw[j5] at q
   cases q
   exact e
  .rw[j7 hb] at q
   refine(I.hok b o q).stay (λd u hd z=>k d u ?_ z) (λd z=>?_) λd xs z=>?_
   .rcases hd with rfl|hd
    .exact hb
    .exact λy=>by rw[y,hT] at hd;cases hd
   .rw[j7 (mc z),j7 (λy=>by rw[y,hT] at z;cases z)];exact z
   .rw[j7 (mc z),j7 (λy=>by rw[y,hT] at z;cases z)];exact z
end
def jFY:∀{l:List (Str×β)},(∀v,(x,v)∉l)->l.lookup x=none
 |[],_=>rfl
 | (y,v)::r,h=>by
  rw[aU,cD.mpr (λe=>h v (by rw[e];exact au))]
  exact jFY λw hw=>h w (av _ hw)
def jCF:∀{l m:List (Str×β)},(l++m).lookup x=(l.lookup x).or (m.lookup x)
 |[],_=>rfl
 | (y,v)::r,m=>by
  rw[iG,aU,aU,jCF]
  cases x==y<;>rfl
def jE2:∀{ps:List Str}{us:List Value}{i:Nat}{x:Str}{u:Value},ps.Nodup->ps[i]?=some x->us[i]?=some u->(ps.zip us).reverse.lookup x=some u
 |[],_,_,_,_,_,h,_=>by simp at h
 |_::_,[],_,_,_,_,_,h=>by simp at h
 |p::ps,w::us,0,x,u,nd,h1,h2=>by
  simp at h1 h2
  subst h1 h2
  rw[dE,List.reverse_cons,jCF,jFY λv hv=>(cG.mp nd).1 (cR (List.mem_reverse.mp hv)).1,aU,fY]
  rfl
 |p::ps,w::us,i+1,x,u,nd,h1,h2=>by
  rw[dE,List.reverse_cons,jCF,jE2 (i:=i) (cG.mp nd).2 (by simpa using h1) (by simpa using h2)]
  rfl
noncomputable def cxN(P:Program)(w:World)(K:W.Frag)(mg:Str->Option Value)(base:Heap)(N:List Str)(qual:Str)(scope:Scope)(f:Addr)(cd:Value)(cl:List (Str×Addr))(A:Around)(outer:List Env)(s:Shared)(H:Hp):Cx where
 prog:=P
 w:=w
 K:=K
 mg:=mg
 base:=base
 A:=A.deeper (envX qual scope s.heap.objs.size f cd cl)
 N:=N
 s₀:=s
 H₀:=H
 env:=envX qual scope s.heap.objs.size f cd cl
 outer:=outer
 stack:=envX qual scope s.heap.objs.size f cd cl::outer
 ex:=[]
 calm:=true
 fn:=λ_=>false
 pn:=[]
 xe:=λ_ _=>False
structure ClOk (cl:List (Str×Addr))(s:Shared)(H:Hp):Prop where
 inj:∀x y c,cl.lookup x=some c->cl.lookup y=some c->x=y
 cell:∀x c,cl.lookup x=some c->(∃v,s.heap.IsCell c v)/\H c=none
def FvOk(fs:List Str)(fv:List V)(cl:List (Str×Addr))(s:Shared):Prop:=fv.length=fs.length/\∀(i:Nat) (x:Str) (v:V),fs[i]?=some x->fv[i]?=some v->∃c u,cl.lookup x=some c/\RelV v u/\s.heap.IsCell c (some u)
structure NScope (N ps fs:List Str)(sc:Scope):Prop where
 kind:sc.kind=.function
 co:sc.isCoroutine=false
 gen:sc.isGenerator=false
 nd:N.Nodup
 pre:N.take (ps.length+fs.length)=ps++fs
 par:∀x∈ps,sc.names.lookup x=some .local
 fre:∀x∈fs,sc.names.lookup x=some .free
 all:∀x,sc.names.lookup x=some .free->x∈fs
 nocell:∀y∈sc.names,y.2≠.cell
def jDD(N:List Str)(vs fv:List V):St:=yY N (vs++fv)
variable {scope:Scope}{cd:Value}{fv:List V}
section
variable {K:W.Frag}{fs:List Str}{us:List Value}{vs:List V}
theorem jJS{h1:Heap}{tk:Nat}(S:NScope N ps fs scope)(hd:A.handled=none)(e0:Env0 P w K mg base A outer s H)(hl:us.length=ps.length)(r:Vals vs us)(C:ClOk cl s H)(Fv:FvOk fs fv cl s)
  (ns:h1.Ns s.heap.objs.size λx=>(ps.zip us).reverse.lookup x) (hk:∀b o,s.heap.get? b=some o->h1.get? b=some o):
  Inv (cxN P w K mg base N qual scope f cd cl A outer s H) [] (jDD N vs fv) H {s with heap:=h1,toks:=tk}:=by
 have hpl:ps.length+fs.length<=N.length:=by have:=bB List.length S.pre;rw[aZ,aK] at this;lia
 have noA:∀b:Addr,b∉(cxN P w K mg base N qual scope f cd cl A outer s H).ex:=λb z=>absurd (show b∈([]:List Addr) from z) (by simp)
 have vl:vs.length=ps.length:=r.length.trans hl
 refine⟨⟨e0.mod,S.kind,rfl,rfl,ak _,C.inj,λy hy=>?_,λy c z=>(nomatch z),λ_=>hd,Around.frames_deeper e0.frames,.inr ⟨rfl,rfl⟩,λb z=>absurd z (noA b),e0.bs,e0.bsz,λb _ _=>noA b,λb z=>absurd z (noA b),e0.funs,e0.frf⟩,
  rfl,e0.bare,Un.kept hk,⟨_,ns,λi y v h1' h2 h3=>?_⟩,λy c h=>?_,e0.hok.fresh (ak _),λy c h=>(C.cell y c h).2,λp hp=>absurd (show p∈([]:List (Addr×Obj)) from hp) (by simp),e0.hok.kept hk,?_⟩
 .have hy:scope.names.lookup y=some .cell\/scope.names.lookup y=some .free:=hy
  rcases hy with hy|hy
  .exact absurd rfl (S.nocell _ (cP hy))
  .have m:=S.all y hy
   obtain⟨i,hi⟩:=cg m
   have hi2:i<fv.length:=by rw[Fv.1];exact(aF.mp hi).1
   obtain⟨c,u,e,_⟩:=Fv.2 i y fv[i] hi (by simp[hi2])
   exact⟨c,e⟩
 .have h1':N[i]?=some y:=h1'
  have hlen:(vs++fv).length=ps.length+fs.length:=by rw[aK,vl,Fv.1]
  have hi:i<(vs++fv).length:=by
   unfold jDD yY at h2
   by_cases hi:i<(vs++fv).length
   .exact hi
   .rw[bA (by simpa using hi)] at h2
    rw[dX] at h2
    split at h2<;>cases h2
  have hv:(vs++fv)[i]?=some v:=by
   unfold jDD yY at h2
   rw[ci (by simpa using hi),aO] at h2
   cases e:(vs++fv)[i]? with
   |none=>rw[e] at h2;cases h2
   |some a=>rw[e] at h2;cases h2;rfl
  have hy:(ps++fs)[i]?=some y:=by
   rw[<- S.pre,cY (by lia)]
   exact h1'
  by_cases hi1:i<ps.length
  .rw[ci hi1] at hy
   rw[ci (by lia)] at hv
   obtain⟨u,hu,rv⟩:=r.get hv
   have ndP:ps.Nodup:=by
    have:(ps++fs).Nodup:=by rw[<- S.pre];exact S.nd.sublist (eJ _ _)
    exact(List.nodup_append.mp this).1
   exact⟨u,rv,.inl ⟨S.par y (aH hy),jE2 ndP hy hu⟩⟩
  .rw[bA (by lia)] at hy
   rw[bA (by lia),vl] at hv
   obtain⟨c,u,e,rv,o,ho,hd⟩:=Fv.2 _ y v hy hv
   exact⟨u,rv,.inr ⟨.inr (S.fre y (aH hy)),c,e,o,hk _ _ ho,hd⟩⟩
 .obtain⟨⟨v,o,ho,hd⟩,_⟩:=C.cell y c h
  exact⟨v,o,hk _ _ ho,hd⟩
 .unfold jDD yY
  show _=N.length
  rw[aK,aa,cW,aK,vl,Fv.1]
  lia
end
def jI7(σ:St)(is:List Nat)(fv:List V):Prop:=is.map (λi=>(σ[i]?).getD none)=fv.map some
section
variable {σ:St}{fs:List Str}{is:List Nat}
def FsAt(X:Cx)(fs:List Str)(is:List Nat):Prop:=is.length=fs.length/\∀(k:Nat) (x:Str),fs[k]?=some x->∃i,is[k]?=some i/\X.N[i]?=some x/\(X.env.scope.names.lookup x=some .cell\/X.env.scope.names.lookup x=some .free)
def Inv.clOk(I:Inv X ad σ H s)(hfree:∀y∈scope.names,y.2=.free->X.env.scope.names.lookup y.1=some .cell\/X.env.scope.names.lookup y.1=some .free):ClOk (kB X.env.cells scope.names []) s H:=by
 have sub:∀x c,(kB X.env.cells scope.names []).lookup x=some c->X.env.cells.lookup x=some c:=jAG scope.names [] (λy hy hf=>I.ok.has y.1 (hfree y hy hf)) (λx c e=>by cases e)
 exact⟨λx y c h1 h2=>I.ok.inj x y c (sub x c h1) (sub y c h2),λx c h=>⟨I.cell x c (sub x c h),I.freeC x c (sub x c h)⟩⟩
def Inv.fvOk(I:Inv X ad σ H s)(hfree:∀y∈scope.names,y.2=.free->X.env.scope.names.lookup y.1=some .cell\/X.env.scope.names.lookup y.1=some .free)(hfs:∀x∈fs,scope.names.lookup x=some .free)(ha:FsAt X fs is)(hs:jI7 σ is fv):FvOk fs fv (kB X.env.cells scope.names []) s:=by
 have hl:fv.length=fs.length:=by
  have:=bB List.length hs
  rw[aa,aa] at this
  rw[<- this,ha.1]
 refine⟨hl,λk x v h1 h2=>?_⟩
 obtain⟨i,hi,hN,hk⟩:=ha.2 k x h1
 have e:(σ[i]?).getD none=some v:=by
  have:=bB (λl=>l[k]?) hs
  simp only[aO,hi,h2,fe] at this
  exact bj this
 have e2:σ[i]?=some (some v):=by
  cases q:σ[i]? with
  |none=>rw[q] at e;cases e
  |some z=>rw[q] at e;exact bB some e
 obtain⟨m,hn,hl⟩:=I.loc
 obtain⟨u,r,l⟩:=hl i x v hN e2 (.inr hk)
 obtain⟨c,hc⟩:=jA8 (cells:=X.env.cells) (x:=x) scope.names [] (.inl (jA5 (hfs x (aH h1))))
 have sub:=jAG (cells:=X.env.cells) scope.names [] (λy hy hf=>I.ok.has y.1 (hfree y hy hf)) (λx c e=>by cases e) x c hc
 rcases l with ⟨lk,_⟩|⟨_,c',hc',z⟩
 .have lk':X.env.scope.names.lookup x=some .local:=lk
  rcases hk with z|z<;>rw[lk'] at z<;>cases z
 .rw[sub] at hc'
  cases hc'
  exact⟨c,u,hc,r,z⟩
end
section
variable {k:Nat}{q:Str}{args:Arguments}{body:List Stmt}{fs:List Str}{is:List Nat}{sp:List V->Sp}
end
section
variable {te:St->TE}
end
def jTZ(Ts:List Addr)(H:Hp):Prop:=∀b,H b=none\/(∃o xs,H b=some (.frz o (.lst xs)))\/b∈Ts
def jJP{cts:List (Addr×Addr)}{mb:Str->Option Value}{CX:CXT}{k:Nat}{fa:Addr}{x:Str}{s₁:Shared}{vs:List Value}{ns:List Int}
  (KX:K.In s₁.heap) (hns:s₁.heap.Ns mainGlobals mg) (hb:s₁.heap.Ns builtinsNs mb) (hbb:∀x:Str,x≠"__name__" ->mb x=bootBuiltins x) (hlim:s₁.heap.NoLimit) (hg:s₁.gens=#[])
  (ha:s₁.heap.get? a=some {cls:=.type "list",data:=.seq vs.toArray}) (hi:IntsAre vs ns) (hl:ns.length<=sizeLine) (hr:Room k callerA) (hT:∀T∈cts.map (·.2),s₁.heap.get? T=some (tabObj #[])) (CH:∀p∈cts,PySem.W.CodeHd s₁.heap p.1 p.2) (hKT:∀T∈cts.map (·.2),K.lookup T=none)
  (F:∀base:Heap,K.In base->base.Ns mainGlobals mg->FnOk P w K mg base CX k fa fd [x] sp) (hbind:∀(s:Shared) (u:Value),BindsTo s fd ⟨[u],[]⟩ [(x,u)])
  (hsp:∀H:Hp,(∀T∈cts.map (·.2),H T=some (.tbl #[]))->SqL K H a (ns.map V.int)->sp [.ref a] H (λv _=>v=.bl true) λ_ _ _=>False)
  (hCX:∀H e s',CX [] H s₁ (λ_ _ _=>False) e s'->False):
  codeAny (model P w) callerA (.call (.ref fa) ⟨[.ref a],[]⟩) (λr s'=>r=.ok (.ret (.bool true))/\OldK s₁.heap s'.heap/\s'.os=s₁.os/\AllBare s'.gens) s₁:=by
 have rv:=jFF hi
 have lenV:=hi.length
 have core:∀H:Hp,jTZ (cts.map (·.2)) H->(∀T∈cts.map (·.2),H T=some (.tbl #[]))->SqL K H a (ns.map V.int)->HOk P w H s₁.heap->(∀b,H b≠none->b=a\/b∈cts.map (·.2))->(H a≠none->K.lookup a=none)->
   codeAny (model P w) callerA (.call (.ref fa) ⟨[.ref a],[]⟩) (λr s'=>r=.ok (.ret (.bool true))/\OldK s₁.heap s'.heap/\s'.os=s₁.os/\AllBare s'.gens) s₁:=by
  intro H hO hHT hS hok hA hK
  have base_of:∀{b:Addr}{o:Obj},s₁.heap.get? b=some o->H b=none->(hidT s₁.heap H).get? b=some o:=λe n=>jOR e n
  have noA:∀{b:Addr}{o:Obj}{es:Array DictEntry}{ep:Nat},s₁.heap.get? b=some o->o.data=.dict es ep->H b=none:=λ{b o es ep} e d=>by
   cases q:H b with
   |none=>rfl
   |some u=>
    rcases hA b (by rw[q];simp) with e'|e'
    .subst e'
     rw[ha] at e;cases e
     have d':Data.seq vs.toArray _=Data.dict es ep:=d
     cases d'
    .rw[hT b e'] at e;cases e
     have d':Data.fields _=Data.dict es ep:=d
     cases d'
  have nsK:∀{b:Addr}{m:Str->Option Value},s₁.heap.Ns b m->(hidT s₁.heap H).Ns b m:=λ{b m} ⟨o,es,ep,e,d,r⟩=>⟨o,es,ep,base_of e (noA e d),d,r⟩
  have hKb:K.In (hidT s₁.heap H):=λb o e=>base_of (KX b o e) (by
   cases q:H b with
   |none=>rfl
   |some u=>
    rcases hA b (by rw[q];simp) with e'|e'
    .subst e'
     rw[hK (by rw[q];simp)] at e;cases e
    .rw[hKT b e'] at e;cases e)
  have hM:Mod K mg (hidT s₁.heap H):=⟨hKb,nsK hns,⟨mb,nsK hb,hbb⟩,let ⟨mc,h1,h2⟩:=hlim;⟨mc,nsK h1,h2⟩⟩
  have e0:Env0 P w K mg (hidT s₁.heap H) callerA [] s₁ H:=⟨rfl,hM,λb o e=>jR4 e,Nat.le_of_eq (jM0 _ _),trivial,λb hb=>absurd (show b∈([]:List Addr) from hb) (by simp),hok,.of_eq hg⟩
  refine eS ((F _ hKb (nsK hns)).run callerA [] s₁ H ⟨[.ref a],[]⟩ [.ref a] [.ref a] _ _ hr e0 (hbind s₁ (.ref a)) (.cons rfl .nil) (hsp H hHT hS)) λr s' h=>?_
  cases r with
  |error e=>exact(hCX H e s' h).elim
  |ok fl=>
   cases fl with
   |next=>exact False.elim h
   |brk=>exact False.elim h
   |cont=>exact False.elim h
   |ret u=>
    obtain⟨v,H',os,bare,un,hok',r',q⟩:=h
    have q':v=.bl true:=q
    subst q'
    obtain rfl:u=Value.bool true:=r'
    have gr:∀T∈cts.map (·.2),∃more,s'.heap.get? T=some (tabObj (#[]++more)):=λT hTm=>by
     obtain⟨more,z⟩:=un.tbls T _ (hHT T hTm)
     exact⟨more,hok' T _ z⟩
    have kp:∀b o,b∉cts.map (·.2)->s₁.heap.get? b=some o->s'.heap.get? b=some o:=λb o hbT e=>?_
    .refine⟨rfl,⟨λb o e=>?_,λb o e=>?_⟩,os,bare⟩
     .by_cases hb:b∈cts.map (·.2)
      .obtain⟨p,hp,rfl⟩:=aQ.mp hb
       have q:=hT _ hb
       rw[q] at e
       cases e
       obtain⟨more,z⟩:=gr _ hb
       exact .inr (.inl ⟨((CH p hp).tab q).isCodeTable,rfl,#[],more,rfl,z⟩)
      .exact .inl (kp b o hb e)
     .by_cases hb:b∈cts.map (·.2)
      .obtain⟨more,z⟩:=gr _ hb
       exact⟨_,z⟩
      .exact⟨o,kp b o hb e⟩
    cases q:H b with
    |none=>exact un.keep b o e q (by intro z;exact absurd (show b∈([]:List Addr) from z) (by simp)) (by simp)
    |some u=>
     rcases hO b with z|⟨ob,xs,z⟩|z
     .rw[q] at z;cases z
     .have z2:=un.frzs b ob _ z
      obtain⟨e1,_⟩:=hok b _ z
      obtain⟨e2,_⟩:=hok' b _ z2
      rw[e] at e1;cases e1
      exact e2
     .exact absurd z hbT
 have aT:a∉cts.map (·.2):=λz=>by rw[hT a z] at ha;cases ha
 cases hk:K.lookup a with
 |some o=>
  have e:=KX a o hk
  rw[ha] at e
  cases e
  refine core (λb=>if b∈cts.map (·.2) then some (.tbl #[]) else none) (λb=>?_) (λT hm=>ai hm) (.inr ⟨_,vs.toArray,_,hk,rfl,rfl,rfl,by rw[ao,lenV];exact hl,by simpa using rv⟩) (λb u z=>?_) (λb z=>?_) λz=>absurd (aj aT) z
  .by_cases hb:b∈cts.map (·.2)
   .exact .inr (.inr hb)
   .exact .inl (aj hb)
  .by_cases hb:b∈cts.map (·.2)
   .have z':=(ai hb).symm.trans z
    cases z'
    exact hT b hb
   .have z':=(aj hb).symm.trans z
    cases z'
  .by_cases hb:b∈cts.map (·.2)
   .exact .inr hb
   .exact absurd (aj hb) z
 |none=>
  refine core (λb=>if b∈cts.map (·.2) then some (.tbl #[]) else if b=a then some (.frz {cls:=.type "list",data:=.seq vs.toArray} (.lst (ns.map V.int))) else none) (λb=>?_) (λT hm=>ai hm) (.inl (.inr ⟨{cls:=.type "list",data:=.seq vs.toArray},by dsimp only;rw[aj aT,ai rfl]⟩)) (λb u z=>?_) (λb z=>?_) λ_=>hk
  .by_cases hT':b∈cts.map (·.2)
   .exact .inr (.inr hT')
   .by_cases hb:b=a
    .exact .inr (.inl ⟨_,_,by dsimp only;rw[aj hT',ai hb]⟩)
    .exact .inl (by dsimp only;rw[aj hT',aj hb])
  .dsimp only at z
   by_cases hT':b∈cts.map (·.2)
   .rw[ai hT'] at z
    cases z
    exact hT b hT'
   .rw[aj hT'] at z
    by_cases hb:b=a
    .rw[ai hb] at z
     cases z
     subst hb
     exact⟨ha,by rw[aa];exact hl,vs,_,rv,ha⟩
    .rw[aj hb] at z
     cases z
  .replace z:(if b∈cts.map (·.2) then some (HO.tbl #[]) else if b=a then some (HO.frz {cls:=.type "list",data:=.seq vs.toArray} (.lst (ns.map V.int))) else none)≠none:=z
   by_cases hT':b∈cts.map (·.2)
   .exact .inr hT'
   .by_cases hb:b=a
    .exact .inl hb
    .rw[aj hT',aj hb] at z
     exact absurd rfl z
def walk_ofTs{cts:List (Addr×Addr)}{l:PySem.W.OpenLaw}{n k:Nat}{q:Program}{loose:List Str}{XP:(Str->Option Value)->Heap->Prop}{YP:World->Heap->Prop}{d:DefRec}{K:Params->W.Frag}{CX:World->CXT}{sp:World->Sp}{x:Str}
  (hn:l.most=some n) (hn2:n<=sizeLine) (hdf:d.params.defaults=[]) (hr:Room k callerA)
  (hY:∀(w:World) (h:Heap),YP w h->(K w.params).In h/\∀T∈cts.map (·.2),h.get? T=some (tabObj #[])) (hcd:∀w:World,∀p∈cts,codeHdIn (K w.params) p.1 p.2=true) (hKT:∀w:World,∀T∈cts.map (·.2),(K w.params).lookup T=none)
  (F:∀(w:World) (mg:Str->Option Value) (fa:Addr) (h:Heap),(K w.params).In h->h.Ns mainGlobals mg->mg d.name=some (.ref fa)->
   ∃fd:FuncData,(∀(s:Shared) (u:Value),BindsTo s fd ⟨[u],[]⟩ [(x,u)])/\
    ∀base:Heap,(K w.params).In base->base.Ns mainGlobals mg->FnOk l.prog w (K w.params) mg base (CX w) k fa fd [x] (sp w))
  (hsp:∀(w:World) (H:Hp) (a:Addr) (ns:List Int),ns.length<=n->(∀T∈cts.map (·.2),H T=some (.tbl #[]))->SqL (K w.params) H a (ns.map V.int)->sp w [.ref a] H (λv _=>v=.bl true) λ_ _ _=>False)
  (hCX:∀(w:World) (H:Hp) (s:Shared) (e:Value) (s':Shared),CX w [] H s (λ_ _ _=>False) e s'->False):
  PySem.W.WalkO q loose XP YP l.row.toRowW d [] (λf vs=>PySem.call f vs):=by
 refine Att.attach_call hn hdf λw s₀ s₁ mg mb fa o pm cd doc a vs ns G Y ho hd _ hmg hobj hints hlen hg=>?_
 obtain⟨KX,hT⟩:=hY w _ Y
 obtain⟨fd,hb,hF⟩:=F w mg fa _ KX G.T.g hmg
 exact jJP KX G.T.g G.T.b G.T.builtins G.T.nolimit hg hobj hints (aY hlen hn2) hr hT (λp hp=>jt KX (hcd w p hp)) (hKT w) hF hb (λH hO hS=>hsp w H a ns hlen hO hS) λH e s'=>hCX w H s₁ e s'
section
variable {κ:Type} [DecidableEq κ]
def valV(kvs:List (κ×V))(k:κ):Option V:=(kvs.find? λkv=>decide (kv.1=k)).map (·.2)
def putK(kvs:List (κ×V))(k:κ)(v:V):List (κ×V):=
 if (kvs.any λkv=>decide (kv.1=k))=true then kvs.map (λkv=>if kv.1=k then (kv.1,v) else kv) else kvs++[(k,v)]
def yR{p:κ×V}{r:List (κ×V)}{k:κ}(e:p.1=k):valV (p::r) k=some p.2:=by simp[valV,eF,e]
def yS{p:κ×V}{r:List (κ×V)}{k:κ}(e:¬p.1=k):valV (p::r) k=valV r k:=by simp[valV,eF,e]
theorem jBN(k:κ):∀kvs:List (κ×V),(kvs.any λkv=>decide (kv.1=k))=(valV kvs k).isSome
 |[]=>rfl
 |p::r=>by
  rw[gm]
  by_cases e:p.1=k
  .simp only[yR e,ax e,Bool.true_or,kf]
  .rw[yS e,aN e,Bool.false_or];exact jBN k r
def jHY(k j:κ)(y:V):∀kvs:List (κ×V),valV (kvs.map λkv=>if kv.1=k then (kv.1,y) else kv) j=(valV kvs j).map λx=>if j=k then y else x
 |[]=>rfl
 |p::r=>by
  have ih:=jHY k j y r
  rw[aP]
  by_cases h:p.1=k
  .rw[ai h]
   by_cases e:p.1=j
   .rw[yR (p:=(p.1,y)) e,yR e,fe,ai (e.symm.trans h)]
   .rw[yS (p:=(p.1,y)) e,yS e,ih]
  .rw[aj h]
   by_cases e:p.1=j
   .rw[yR (p:=p) e,yR e,fe,aj (λz=>h (e.trans z))]
   .rw[yS (p:=p) e,yS e,ih]
def jFG(k j:κ)(y:V):∀kvs:List (κ×V),valV kvs k=none->valV (kvs++[(k,y)]) j=if j=k then some y else valV kvs j
 |[],_=>by
  by_cases e:k=j
  .rw[ai e.symm];exact yR (p:=(k,y)) e
  .rw[aj (λz=>e z.symm)];exact yS (p:=(k,y)) e
 |p::r,hn=>by
  rw[iG]
  have hk:¬p.1=k:=λz=>by rw[yR z] at hn;cases hn
  rw[yS hk] at hn
  have ih:=jFG k j y r hn
  by_cases e:p.1=j
  .rw[yR e,yR e,aj (λz=>hk (e.trans z))]
  .rw[yS e,yS e,ih]
theorem jHX(kvs:List (κ×V))(k j:κ)(y:V):valV (putK kvs k y) j=if j=k then some y else valV kvs j:=by
 unfold putK
 by_cases a:(kvs.any λkv=>decide (kv.1=k))=true
 .rw[ai a,jHY]
  rw[jBN] at a
  by_cases e:j=k
  .obtain⟨x,hx⟩:=iw.mp a
   rw[ai e,e,hx,fe,ai rfl]
  .rw[aj e]
   cases valV kvs j with
   |none=>rfl
   |some x=>rw[fe,aj e]
 .rw[aj a]
  refine jFG k j y kvs ?_
  rw[jBN] at a
  cases q:valV kvs k with
  |none=>rfl
  |some x=>rw[q] at a;exact(a rfl).elim
theorem jDL(kvs:List (κ×V))(k:κ)(v:V):(putK kvs k v).length<=kvs.length+1:=by
 unfold putK
 split
 .rw[aa];lia
 .rw[aK,aV,gA];lia
theorem jNM{kvs:List (κ×V)}{k:κ}(v:V)(h:valV kvs k=none):putK kvs k v=kvs++[(k,v)]:=by
 unfold putK
 rw[jBN,h]
 exact aj (by decide)
def RelO.isSome_eq{u:Option Value}(r:RelO o u):o.isSome=u.isSome:=by
 cases o with
 |none=>cases u with
  |none=>rfl
  |some _=>exact(show False from r).elim
 |some _=>cases u with
  |none=>exact(show False from r).elim
  |some _=>rfl
def RelO.getD{u:Option Value}{d:V}{d':Value}(r:RelO o u)(rd:RelV d d'):RelV (o.getD d) (u.getD d'):=by
 cases o with
 |none=>cases u with
  |none=>exact rd
  |some _=>exact(show False from r).elim
 |some _=>cases u with
  |none=>exact(show False from r).elim
  |some _=>exact r
def KV.val{kvs:List (κ×V)}{vs:List (κ×Value)}(r:KV kvs vs)(k:κ):RelO (valV kvs k) (valueAt vs k):=by
 unfold KV at r
 induction r with
 |nil=>exact True.intro
 | @cons p q ps qs h t ih=>
  obtain⟨h1,h2⟩:=h
  by_cases e:p.1=k
  .have e':q.1=k:=h1.symm.trans e
   have b:valueAt (q::qs) k=some q.2:=by simp[valueAt,eF,e']
   rw[yR e,b];exact h2
  .have e':¬q.1=k:=λz=>e (h1.trans z)
   have b:valueAt (q::qs) k=valueAt qs k:=by simp[valueAt,eF,e']
   rw[yS e,b];exact ih
theorem KV.any{kvs:List (κ×V)}{vs:List (κ×Value)}(r:KV kvs vs)(k:κ):(kvs.any λkv=>decide (kv.1=k))=vs.any λkv=>decide (kv.1=k):=by
 unfold KV at r
 induction r with
 |nil=>rfl
 |cons h t ih=>rw[gm,gm,ih,h.1]
def KV.repl{kvs:List (κ×V)}{vs:List (κ×Value)}(r:KV kvs vs)(k:κ)(ry:RelV y u):
  KV (kvs.map λkv=>if kv.1=k then (kv.1,y) else kv) (vs.map λkv=>if kv.1=k then (kv.1,u) else kv):=by
 unfold KV at r ⊢
 induction r with
 |nil=>exact .nil
 | @cons p q ps qs h t ih=>
  rw[aP,aP]
  refine .cons ?_ ih
  obtain⟨h1,h2⟩:=h
  by_cases e:p.1=k
  .rw[ai e,ai (h1.symm.trans e)];exact⟨h1,ry⟩
  .rw[aj e,aj (λz=>e (h1.trans z))];exact⟨h1,h2⟩
theorem KV.put{kvs:List (κ×V)}{vs:List (κ×Value)}(r:KV kvs vs)(k:κ)(ry:RelV y u):KV (putK kvs k y) (stored vs k u):=by
 unfold putK stored
 rw[r.any k]
 by_cases e:(vs.any λkv=>decide (kv.1=k))=true
 .rw[ai e,ai e];exact r.repl k ry
 .rw[aj e,aj e];exact Paired.snoc r ⟨rfl,ry⟩
def KV.keys{kvs:List (κ×V)}{vs:List (κ×Value)}(r:KV kvs vs):kvs.map (·.1)=vs.map (·.1):=by
 unfold KV at r
 induction r with
 |nil=>rfl
 |cons h t ih=>rw[aP,aP,ih,h.1]
def KV.length{kvs:List (κ×V)}{vs:List (κ×Value)}(r:KV kvs vs):kvs.length=vs.length:=gf r
end
def kV_is{k:Key}(r:RelV (kV k) u):(yJ P w).is k u=true:=by
 cases k with
 |inl i=>obtain⟨t,e⟩:=(show ∃t,u=Value.int i t from r);subst e;exact jHG P w i t
 |inr x=>obtain⟨t,e⟩:=(show ∃t,u=Value.str x t from r);subst e;exact jHF P w x t
def jG5:∀{ks:List Key}{us:List Value},Vals (ks.map kV) us->ItemsAre (yJ P w) ks us
 |[],_,r=>by rw[gI] at r;cases r;exact .nil
 |k::ks,_,r=>by
  rw[aP] at r
  cases r with
  |cons h t=>exact .cons (kV_is h) (jG5 t)
abbrev KT(H:Hp):List (List Key×V)->List (List Key×Addr×Value)->Prop:=Paired λp q=>p.1=q.1/\H q.2.1=some (.tup (p.1.map kV))/\RelV p.2 q.2.2
def KT.val(r:KT H kvs xs)(k:List Key):RelO (valV kvs k) ((atKey xs k).map (·.2)):=by
 induction r with
 |nil=>exact True.intro
 | @cons p q ps qs h t ih=>
  obtain⟨h1,_,h2⟩:=h
  by_cases e:p.1=k
  .have e':q.1=k:=h1.symm.trans e
   have b:atKey (q::qs) k=some q.2:=by simp[atKey,eF,e']
   rw[yR e,b];exact h2
  .have e':¬q.1=k:=λz=>e (h1.trans z)
   have b:atKey (q::qs) k=atKey qs k:=by simp[atKey,eF,e']
   rw[yS e,b];exact ih
def KT.repl(r:KT H kvs xs)(k:List Key)(ry:RelV y u):
  KT H (kvs.map λkv=>if kv.1=k then (kv.1,y) else kv) (xs.map (putAt k u)):=by
 induction r with
 |nil=>exact .nil
 | @cons p q ps qs h t ih=>
  rw[aP,aP]
  refine .cons ?_ ih
  obtain⟨h1,h2,h3⟩:=h
  unfold putAt
  by_cases e:p.1=k
  .rw[ai e,ai (h1.symm.trans e)];exact⟨h1,h2,ry⟩
  .rw[aj e,aj (λz=>e (h1.trans z))];exact⟨h1,h2,h3⟩
theorem KT.put(r:KT H kvs xs)(k:List Key){b:Addr}(hb:H b=some (.tup (k.map kV)))(ry:RelV y u):
  KT H (putK kvs k y) (storedH xs k b u):=by
 have e:(kvs.any λkv=>decide (kv.1=k))=(atKey xs k).isSome:=by
  rw[jBN,(r.val k).isSome_eq,Option.isSome_map]
 unfold putK storedH
 rw[e]
 by_cases q:(atKey xs k).isSome=true
 .rw[ai q,ai q];exact r.repl k ry
 .rw[aj q,aj q];exact Paired.snoc r ⟨rfl,hb,ry⟩
def KT.keeps(r:KT H kvs xs)(ht:∀b ys,H b=some (.tup ys)->H' b=some (.tup ys)):KT H' kvs xs:=
 Paired.mapP r λ_ _ z=>⟨z.1,ht _ _ z.2.1,z.2.2⟩
def rd_of{u:HO}(ok:HOk P w H h)(e:Rd H a u):ObjOk P w H h a u:=e.ok ok
def dk_rd{kvs:List (Key×V)}(ok:HOk P w H h)(e:Rd H a (.dK kvs)):kvs.length<=sizeLine/\(a==sysModules)=false/\∃vs,KV kvs vs/\h.DictOf (yJ P w) a vs:=
 show ObjOk P w H h a (.dK kvs) from rd_of ok e
def dk_of{kvs:List (Key×V)}(ok:HOk P w H h)(e:H a=some (.dK kvs)):kvs.length<=sizeLine/\(a==sysModules)=false/\∃vs,KV kvs vs/\h.DictOf (yJ P w) a vs:=dk_rd ok (.inl e)
def jIK{ks:List Key}(ok:HOk P w H h)(e:H a=some (.tup (ks.map kV))):(tupleKind (yJ P w)).is h ks a:=by
 obtain⟨_,its,r,p⟩:=(show ObjOk P w H h a (.tup (ks.map kV)) from ok a _ e)
 obtain⟨o,h1,h2,n,h3⟩:=p.isTup
 exact⟨o,its.toArray,n,h1,h2,h3,by simpa using jG5 r⟩
def dt_rd(ok:HOk P w H h)(e:Rd H a (.dT kvs)):kvs.length<=sizeLine/\(a==sysModules)=false/\
  ∃xs,KT H kvs xs/\h.DictOfH (tupleKind (yJ P w)) a xs:=by
 obtain⟨z,y,xs,r,o,es,ep,h1,h2,h3,h4,h5⟩:=(show ObjOk P w H h a (.dT kvs) from rd_of ok e)
 refine⟨z,y,xs,r,o,es,ep,h1,h2,h3,h4,λx hx=>?_,h5⟩
 have all:∀{l:List (List Key×V)}{m:List (List Key×Addr×Value)},KT H l m->∀x∈m,(tupleKind (yJ P w)).is h x.1 x.2.1:=by
  intro l m q
  induction q with
  |nil=>intro x hx;exact nomatch hx
  | @cons p q ps qs hq t ih=>
   intro x hx
   rcases ay.mp hx with e|hx
   .subst e
    exact jIK ok (by rw[<- hq.1];exact hq.2.1)
   .exact ih x hx
 exact all r x hx
def dt_of(ok:HOk P w H h)(e:H a=some (.dT kvs)):kvs.length<=sizeLine/\(a==sysModules)=false/\
  ∃xs,KT H kvs xs/\h.DictOfH (tupleKind (yJ P w)) a xs:=dt_rd ok (.inl e)
def DGet(H:Hp)(a:Addr)(y:V)(r:Option V):Prop:=
 (∃kvs k,Rd H a (.dK kvs)/\y=kV k/\r=valV kvs k)\/∃kvs k b,Rd H a (.dT kvs)/\y=.ref b/\H b=some (.tup (k.map kV))/\r=valV kvs k
def DPut(H:Hp)(a:Addr)(y v:V)(H':Hp):Prop:=
 (∃kvs k,H a=some (.dK kvs)/\y=kV k/\kvs.length<sizeLine/\H'=upd H a (.dK (putK kvs k v)))\/
 ∃kvs k b,H a=some (.dT kvs)/\y=.ref b/\H b=some (.tup (k.map kV))/\kvs.length<sizeLine/\H'=upd H a (.dT (putK kvs k v))
def DGet.k{H:Hp}{a:Addr}{kvs:List (Key×V)}{k:Key}(e:H a=some (.dK kvs)):DGet H a (kV k) (valV kvs k):=.inl ⟨kvs,k,.inl e,rfl,rfl⟩
def DPut.k{H:Hp}{a:Addr}{kvs:List (Key×V)}{k:Key}{v:V}(e:H a=some (.dK kvs))(hl:kvs.length<sizeLine):DPut H a (kV k) v (upd H a (.dK (putK kvs k v))):=.inl ⟨kvs,k,e,rfl,hl,rfl⟩
variable {y:V}{u r:Value}
section
variable {σ:St}{v:V}{o:Option V}
def jMB{Q:Value->Shared->Prop}(hu:A.units+1<cLine)(I:Inv X ad σ H s)(g:DGet H a y (some v))(ry:RelV y u)(h:∀w' s',Inv X ad σ H s'->RelV v w'->Q w' s'):
  wpAny (model X.prog X.w) A (getItem (.ref a) u) Q E s:=by
 rcases g with ⟨kvs,k,e,ey,l⟩|⟨kvs,k,b,e,ey,eb,l⟩
 .subst ey
  obtain⟨z,hd,vs,rel,dd⟩:=dk_rd I.hok e
  obtain⟨w',hw,rw'⟩:=RelO.some_of (v:=v) (o:=valueAt vs k) (by rw[l];exact rel.val k)
  exact wpAny_getItem_of (kV_is ry) dd.mapOf hw (h w' _ (I.tok _) rw')
 .subst ey
  cases (show u=Value.ref b from ry)
  obtain⟨z,hd,xs,rel,dd⟩:=dt_rd I.hok e
  obtain⟨w',hw,rw'⟩:=RelO.some_of (v:=v) (o:=(atKey xs k).map (·.2)) (by rw[l];exact rel.val k)
  obtain⟨p,hp,hp2⟩:=Option.map_eq_some_iff.mp hw
  refine wpAny_getItem_heap (gY hu) (jIK I.hok eb) dd hp ?_
  rw[hp2]
  exact h w' _ (I.tok _) rw'
def jM9{t':Nat}{ob:HO}(I:Inv X ad σ H s)(mu:Mut (H a))(hs:Heap.SameBut a s.heap h')(he:∃q,h'.get? a=some q)(new:ObjOk X.prog X.w (upd H a ob) h' a ob):
  Inv X ad σ (upd H a ob) {s with heap:=h',toks:=t'}:=
 I.write (x:=a) (e:=a) mu (.inl rfl) (λb q hb z=>(hs.2 b hb).trans z) he new
def jTS{kvs:List (Key×V)}{vs:List (Key×Value)}(z:kvs.length<=sizeLine)(hd:(a==sysModules)=false)(rel:KV kvs vs)(dd:h'.DictOf (yJ P w) a vs):
  ObjOk P w H' h' a (.dK kvs):=⟨z,hd,vs,rel,dd⟩
theorem jMA{Q:Unit->Shared->Prop}(hu:A.units+1<cLine)(I:Inv X ad σ H s)(g:DPut H a y v H')(ry:RelV y u)(rv:RelV v r)(h:∀s',Inv X ad σ H' s'->Q () s'):
  wpAny (model X.prog X.w) A (setItem (.ref a) u r) Q E s:=by
 rcases g with ⟨kvs,k,e,ey,l,eH⟩|⟨kvs,k,b,e,ey,eb,l,eH⟩
 .subst ey eH
  obtain⟨z,hd,vs,rel,dd⟩:=dk_of I.hok e
  have hz:vs.length<=sizeLine:=by rw[<- rel.length];exact z
  have hl:(putK kvs k v).length<=sizeLine:=by have:=jDL kvs k v;lia
  refine wpAny_setItem_pairs (hsz:=hz) (kV_is ry) dd λh' dd' hs=>h _ ?_
  have he:∃q,h'.get? a=some q:=let ⟨q,_,_,hq,_⟩:=dd';⟨q,hq⟩
  exact jM9 I (by rw[e];exact True.intro) hs he (jTS hl hd (rel.put k rv) dd')
 .subst ey eH
  cases (show u=Value.ref b from ry)
  obtain⟨z,hd,xs,rel,dd⟩:=dt_of I.hok e
  have hz:xs.length<=sizeLine:=by rw[<- gf rel];exact z
  have hl:(putK kvs k v).length<=sizeLine:=by have:=jDL kvs k v;lia
  refine wpAny_setItem_heap (hsz:=hz) (gY hu) (jIK I.hok eb) dd λh' dd' hs=>h _ ?_
  obtain⟨q,es,ep,hq,h2,h3,h4,_,h5⟩:=dd'
  refine jM9 I (by rw[e];exact True.intro) hs ⟨q,hq⟩ ⟨hl,hd,_,(rel.put k eb rv).keeps λc ys ec=>?_,q,es,ep,hq,h2,h3,h4,h5⟩
  rw[j7 (ne_of ec e (λz=>nomatch z))]
  exact ec
end
variable {kvs:List (Key×V)}
section
variable {σ:St}{k:Key}
end
def NoSl(i:Expr):Prop:=∀ov iv,subscripted i false ov iv=operate [ov,iv] (getItem ov iv)
def jQ1{env:Env}{value slice:Expr}{T id:String}{Q:Value->Shared->Prop}
  (hl:typeLookup (.type T) "__getitem__" =pure (some (.builtin id))) (hs:NoSl slice)
  (h:wpAny (model prog w) A (eval value env) (λo s₁=>wpAny (model prog w) A (eval slice env) (λi s₂=>s₂.TypeIs o T/\wpAny (model prog w) A (getItem o i) Q E s₂) E s₁) E s):
  wpAny (model prog w) A (eval (.Subscript value slice pos) env) Q E s:=by
 refine Subscript_ (cn h (λo s₁ h₁=>cn h₁ (λi s₂ h₂=>?_) λ_ _ x=>x) λ_ _ x=>x)
 obtain⟨hT,h₂⟩:=h₂
 unfold subscriptTail
 refine ab ?_
 rw[getitemInPython_of_ne hT.not_modules]
 refine ab (wpAny_specialOf hT hl ?_)
 have fin:wpAny (model prog w) A (subscripted slice false o i) (λr s₃=>wpAny (model prog w) A (letTemporaryGo value o r >>= λ_=>pure r) Q E s₃) E s₂:=by
  rw[hs o i]
  exact wpAny_operating (cn h₂ (λr s₃ h₃=>ab (wpAny_letTemporaryGo (ah h₃))) λ_ _ x=>x)
 first
  |exact ah (ab fin)
  |exact ab (ah (ab fin))
  |exact ab fin
def jHO{σ:St}(I:Inv X ad σ H s)(g:DGet H a y o):s.TypeIs (.ref a) "dict" :=by
 rcases g with ⟨kvs,k,e,_,_⟩|⟨kvs,k,b,e,_,_,_⟩
 .obtain⟨_,_,vs,_,dd⟩:=dk_rd I.hok e
  exact dd.typeIs
 .obtain⟨_,_,xs,_,dd⟩:=dt_rd I.hok e
  exact dd.typeIs
def tDGet(td ty:TE):TE:=λσ H Q=>td σ H λx H1=>ty σ H1 λy H2=>∃a v,x=.ref a/\DGet H2 a y (some v)/\Q v H2
def sDPut(td ty tv:TE):TS:=λD σ H=>tv σ H λv H1=>td σ H1 λx H2=>ty σ H2 λy H3=>∃a H4,x=.ref a/\DPut H3 a y v H4/\D.nx σ H4
variable {o i value:Expr}{pos':Pos}{td tv:TE}
section
variable {tpos:Pos}{ty:TE}
def jQN(hu:X.A.units+1<cLine)(ho:PE X o td)(hi:PE X i ty)(hs:NoSl i):PE X (.Subscript o i pos) (tDGet td ty):=by
 intro ad s σ H Q I h
 refine jQ1 PySem.F.slot_dict_getitem.lookup hs (ln (ho ad s σ H _ I h) λu s1 ⟨x,H1,I1,rx,q1⟩=>ln (hi ad s1 σ H1 _ I1 q1) λiv s2 ⟨y,H2,I2,ry,a,v,ex,g,q2⟩=>?_)
 subst ex
 obtain rfl:u=Value.ref a:=rx
 exact⟨jHO I2 g,jMB hu I2 g ry λw' s3 I3 rw'=>⟨v,H2,I3,rw',q2⟩⟩
def jQE(hu:X.A.units+1<cLine)(ho:PE X o td)(hi:PE X i ty)(hv:PE X value tv)(hs:swapsWith value (some (.Subscript o i pos')) pos.line X.env=pure false):
  PS X (.Assign [.Subscript o i pos'] value pos) (sDPut td ty tv):=by
 intro ad s σ H D I h
 refine wpAny_Assign_Subscript (ln (hv ad s σ H _ I h) λr s1 ⟨v,H1,I1,rv,q1⟩=>ln (ho ad s1 σ H1 _ I1 q1) λu s2 ⟨x,H2,I2,rx,q2⟩=>ln (hi ad s2 σ H2 _ I2 q2) λiv s3 ⟨y,H3,I3,ry,a,H4,ex,g,q3⟩=>?_) hs
 subst ex
 obtain rfl:u=Value.ref a:=rx
 exact jMA hu I3 g ry rv λs4 I4=>⟨σ,H4,I4,q3⟩
end
structure M2 (X:Cx)(o:Expr)(m:Str)(apos:Pos)(e f:Expr)(cpos:Pos):Prop where
 base:attributeBase o m X.env (eval o X.env)=eval o X.env
 few:((backTo cpos (starEach [e,f] X.env)).all (λx=>!x.1)&&(backToKw cpos (keywordEach [] X.env)).all (λx=>x.1.isSome)
  &&decide (([e,f]:List Expr).length+([]:List Keyword).length+(if ([]:List Keyword).isEmpty then 0 else 1)<30))=true
 line:(apos.endLine==cpos.line)=true
 trees:backTo cpos (starEach [e,f] X.env)=[(false,eval e X.env),(false,eval f X.env)]
def IsD(H:Hp)(a:Addr):Prop:=(∃kvs,Rd H a (.dK kvs))\/∃kvs,Rd H a (.dT kvs)
def jTN{σ:St}(I:Inv X ad σ H s)(d:IsD H a):
  s.TypeIs (.ref a) "dict" /\(∀b,Value.ref a=.ref b->∃ob,s.heap.get? b=some ob/\ob.dict=none)/\(a==sysModules)=false:=by
 rcases d with ⟨kvs,e⟩|⟨kvs,e⟩
 .obtain⟨_,hd,vs,_,dd⟩:=dk_rd I.hok e
  refine⟨dd.typeIs,λb q=>?_,hd⟩
  cases q
  obtain⟨ob,_,_,h1,h2,_⟩:=dd
  exact⟨ob,h1,h2.2.1⟩
 .obtain⟨_,hd,xs,_,dd⟩:=dt_rd I.hok e
  refine⟨dd.typeIs,λb q=>?_,hd⟩
  cases q
  obtain⟨ob,_,_,h1,h2,_⟩:=dd
  exact⟨ob,h1,h2.2.1⟩
section
variable {σ:St}{d:V}{o:Option V}
def jTU{Q:Value->Shared->Prop}(hu:A.units+1<cLine)(I:Inv X ad σ H s)(g:DGet H a y o)(ry:RelV y u)(rd:RelV d r)(h:∀w' s',Inv X ad σ H s'->RelV (o.getD d) w'->Q w' s'):
  wpAny (model X.prog X.w) A (call (.builtin "dict.get") [.ref a,u,r]) Q E s:=by
 rcases g with ⟨kvs,k,e,ey,l⟩|⟨kvs,k,b,e,ey,eb,l⟩
 .subst ey
  obtain⟨z,hd,vs,rel,dd⟩:=dk_rd I.hok e
  refine call_meetsIn fV dd.typeIs iV (iI _ _ _) (meets_dict_get_default (yJ X.prog X.w) a (kV_is ry) hd r) ⟨_,dd.mapOf,h _ _ (I.tok _) ?_⟩
  rw[l]
  exact(rel.val k).getD rd
 .subst ey
  cases (show u=Value.ref b from ry)
  obtain⟨z,hd,xs,rel,dd⟩:=dt_rd I.hok e
  refine call_meetsIn fV dd.typeIs iV (iI _ _ _) (meetsH_dict_get_default (tupleKind (yJ X.prog X.w)) a b hd r) ⟨gY hu,k,xs,jIK I.hok eb,dd,h _ _ (I.tok _) ?_⟩
  rw[l]
  exact(rel.val k).getD rd
end
def jP2(td ty tx:TE):TE:=λσ H Q=>td σ H λx H1=>∃a,x=.ref a/\IsD H1 a/\ty σ H1 λy H2=>tx σ H2 λz H3=>∃o,DGet H3 a y o/\Q (o.getD z) H3
variable {apos:Pos}{tx:TE}
section
variable {f:Expr}{ty:TE}
def jNZ(hu:X.A.units+1<cLine)(ho:PE X o td)(he:PE X e ty)(hf:PE X f tx)(m:M2 X o "get" apos e f cpos):PE X (.Call (.Attribute o "get" apos) [e,f] [] cpos) (jP2 td ty tx):=by
 intro ad s σ H Q I h
 refine wpAny_Call_method m.base m.few m.line PySem.F.plainAttrs_dict fV PySem.F.type_dict_get (ln (ho ad s σ H _ I h) λu s1 ⟨x,H1,I1,rx,a,ex,d,q1⟩=>?_)
 subst ex
 obtain rfl:u=Value.ref a:=rx
 obtain⟨t1,t2,_⟩:=jTN I1 d
 refine⟨t1,t2,?_⟩
 rw[m.trees]
 refine Calls.callWith_builtin rfl (Calls.evalArgs_plain (gR (ln (he ad s1 σ H1 _ I1 q1) λiv s2 ⟨y,H2,I2,ry,q2⟩=>
  gR (ln (hf ad s2 σ H2 _ I2 q2) λfv s3 ⟨z,H3,I3,rz,ov,g,q3⟩=>Calls.spliced_nil ?_))))
 exact jTU hu I3 g ry rz λw' s4 I4 rw'=>⟨_,H3,I4,rw',q3⟩
end
section
variable {σ:St}
end
section
variable {σ:St}
end
section
variable {κ:Type} [DecidableEq κ]
def jLA:∀{l:List κ}{k:κ},l.Nodup->¬k∈l->(l++[k]).Nodup
 |[],k,_,_=>by simp
 |a::r,k,h,hk=>by
  obtain⟨h1,h2⟩:=cG.mp h
  show (a::(r++[k])).Nodup
  refine cG.mpr ⟨λm=>?_,jLA h2 λm=>hk (ay.mpr (Or.inr m))⟩
  rcases az.mp m with q|q
  .exact h1 q
  .exact hk (ay.mpr (Or.inl (aW.mp q).symm))
end
section
variable {d:Addr}{kvs:List (Key×Value)}
def jHQ{T:String}{r d:Addr}{n:Nat}{P:Nat->Value->Prop}{OK:Heap->Prop}{R:List Value->Shared->Prop}(K:PySem.W.KdlSrc prog w T r d n P OK)(hh:A.handled=none)(hok:OK s.heap)(hn:n<=sizeLine)
  (h:∀(h':Heap) (tk:Nat) (acc:Array Value),(∀b o,s.heap.get? b=some o->h'.get? b=some o)->s.heap.objs.size<h'.objs.size->ItemsOf P acc n->R acc.toList {s with heap:=h',toks:=tk}):
  wpAny (model prog w) A (collect (.ref r)) R E s:=by
 have hlt:=K.there _ hok
 unfold collect
 refine ab (ji (dh entry_proto_collect' ?_))
 rw[cI gJ _]
 show wpAny _ A.in1 (newList [] >>= λl=>again (.builtin "list.__iadd__" ⟨[l,.ref r],[]⟩)) _ _ s
 refine ab (bU ?_)
 refine ah ⟨gn dY _,dh entry_list_iadd' ?_⟩
 rw[cI dY _]
 have hS:(s.heap.push {cls:=.type "list",data:=.seq ([]:List Value).toArray}).get? s.heap.objs.size=some {cls:=.type "list",data:=.seq #[]}:=aD _ rfl
 show wpAny _ A.in1 (Builtin.List.listExtendWith (.ref s.heap.objs.size) (.ref r) (.ref s.heap.objs.size)) _ _ _
 refine cn (PySem.W.kdl_extend (A:=A) (s:= {s with heap:=s.heap.push {cls:=.type "list",data:=.seq ([]:List Value).toArray}})
  (R:=λ(q:Result) (s':Shared)=>∃(h':Heap) (tk:Nat) (acc:Array Value) (c:Nat),q=.ok (.ret (.ref s.heap.objs.size))/\s'= {s with heap:=h',toks:=tk} /\
   (∀b o,s.heap.get? b=some o->h'.get? b=some o)/\h'.get? s.heap.objs.size=some {cls:=.type "list",dict:=none,data:=.seq acc c,slots:=#[]} /\ItemsOf P acc n)
  K hh (K.keep _ _ hok λb _ o e=>ae _ e) s.heap.objs.size (cz hlt.1) (cz hlt.2) (.ref s.heap.objs.size) 0 hS
  (λh' tk acc c hk hS' hacc=>⟨h',tk,acc,c,rfl,rfl,λb o e=>hk b o (aS (aw e)) (ae _ e),hS',hacc⟩) hn) (λfin s' x=>?_) λe s' x=>?_
 .cases fin with
  |done f=>
   obtain⟨h',tk,acc,c,e,rfl,hk,hS',hacc⟩:=x
   cases e
   show wpAny _ A (load s.heap.objs.size >>= _) _ _ _
   exact ab (gO hS' (ah (h h' tk acc hk (aw hS') hacc)))
  |again c1=>
   refine⟨x.1,eS x.2 λq s2 y=>?_⟩
   obtain⟨h',tk,acc,c,rfl,rfl,hk,hS',hacc⟩:=y
   show wpAny _ A (load s.heap.objs.size >>= _) _ _ _
   exact ab (gO hS' (ah (h h' tk acc hk (aw hS') hacc)))
 .obtain⟨_,_,_,_,e',_⟩:=x
  cases e'
theorem jH1{Q:Value->Shared->Prop}{ks:List Int}(hh:A.handled=none)(lo:(d==sysModules)=false)(D:s.heap.DictOf (yJ prog w) d kvs)(hk:kvs.map (·.1)=ks.map Sum.inl)(h64:ks.length<64)
  (h:∀(hf:Heap) (tk:Nat) (l:Addr) (vs:List Value) (ns:List Int) (e:Nat),s.heap.objs.size<=l->(∀b u,s.heap.get? b=some u->hf.get? b=some u)->
   hf.get? l=some {cls:=.type "list",data:=.seq vs.toArray e} ->IntsAre vs ns->ns.Perm ks->ns.Pairwise (· <= ·)->Q (.ref l) {s with heap:=hf,toks:=tk}):
  wpAny (model prog w) A (call (.builtin "sorted") [.ref d]) Q E s:=by
 obtain⟨ep,hat⟩:=D.dictAt
 have hlen:kvs.length=ks.length:=by
  have:=bB List.length hk
  rwa [aa,aa] at this
 have hat0:s.heap.DictAt (yJ prog w) d kvs ep:=hat
 refine ig kind_sorted plain_sorted entry_sorted (args_sorted1 _) ?_
 unfold Builtin.«sorted»
 refine ab (m:=checkCount "sorted" 1 1 _) (ah ?_)
 refine ab (jHQ (A:=A.in1) (PySem.W.kdl_dict (knd:=yJ prog w) (kvs:=kvs) (ep:=ep) lo) hh hat0 (by rw[dZ];lia) λh1 tk acc hk1 hlt1 hacc=>?_)
 have hI:IntsAre acc.toList ks:=by
  have hsz:acc.toList.length=ks.length:=by rw[aM,hacc.1,hlen]
  have hat:∀(j:Nat) (v:Value),acc.toList[j]?=some v->∃i t,ks[j]?=some i/\v=Value.int i t:=λj v e=>by
   obtain⟨k,x,hx,hv⟩:=hacc.2 j v (by rw[<- bV];exact e)
   have e2:(kvs.map (·.1))[j]?=some k:=by rw[aO,hx];rfl
   rw[hk,aO] at e2
   cases hq:ks[j]? with
   |none=>rw[hq] at e2;cases e2
   |some i=>
    rw[hq] at e2
    cases e2
    rcases jA0 (show keyIs (Sum.inl i) v=true from hv) with ⟨i',t,q1,q2⟩|⟨x,t,q1,q2⟩
    .cases q1
     exact⟨i,t,rfl,q2⟩
    .cases q1
  generalize acc.toList=vs at hsz hat
  clear hk hlen hacc h
  induction vs generalizing ks with
  |nil=>
   cases ks with
   |nil=>exact .nil
   |cons a r=>cases hsz
  |cons v vs ih=>
   cases ks with
   |nil=>cases hsz
   |cons a r=>
    obtain⟨i,t,e1,rfl⟩:=hat 0 v rfl
    cases e1
    exact .cons _ t (ih (by rw[aV] at h64;lia) (by simpa using hsz) λj v e=>hat (j+1) v e)
 have hl:acc.toList.length<64:=by rw[aM,hacc.1,hlen];exact h64
 refine ab (iy ?_ (by rw[dZ];lia))
 have hL:(h1.push (seqObj "list" acc.toList.toArray 0)).get? h1.objs.size=some (seqObj "list" acc.toList.toArray 0):=aD _ rfl
 show wpAny _ _ _ _ _ {s with heap:=h1.push (seqObj "list" acc.toList.toArray 0),toks:=tk}
 refine ab (cx (bQ slot_list_sort ⟨_,hL,rfl⟩ entry_list_sort (list_sort_tree hL hI hl λout ns' a1 a2 a3=>⟨_,rfl,?_⟩) (args_list_sort _)))
 obtain⟨e,he⟩:=sortedHeap_at (out:=out) hL
 have kept:∀b u,s.heap.get? b=some u->(sortedHeap (h1.push (seqObj "list" acc.toList.toArray 0)) h1.objs.size acc.toList out).get? b=some u:=λb u q=>by
  have q1:=hk1 b u q
  have hb:b<h1.objs.size:=aw q1
  rw[sortedHeap_old (aS hb) (by rw[iU];exact bw hb)]
  exact ae _ q1
 generalize sortedHeap (h1.push (seqObj "list" acc.toList.toArray 0)) h1.objs.size acc.toList out=hf at he kept ⊢
 exact ah ⟨_,rfl,h hf tk h1.objs.size out.toList ns' e (dj hlt1) kept (by rw[dO];exact he) a1 a2 a3⟩
end
section
variable {f:Expr}{ty:TE}
theorem jGC(hc:X.calm=true):yV X (.builtin "sorted") (λxs H Q=>∃(p:Addr) (kvs:List (Key×V)) (ks:List Int),xs=[.ref p]/\H p=some (.dK kvs)/\kvs.map (·.1)=ks.map Sum.inl/\ks.length<64/\
  ∀(l:Addr) (ns:List Int),H l=none->ns.Pairwise (· <= ·)->ns.Perm ks->Q (.ref l) (upd H l (.lst (ns.map V.int)))):=by
 intro ad s σ H xs us Q I r h
 obtain⟨p,kvs,ks,rfl,hp,hk,hn,q⟩:=h
 obtain⟨u,rfl,rx⟩:=r.one
 cases rx
 obtain⟨z,lo,vs,rel,dd⟩:=dk_of I.hok hp
 refine jH1 (I.ok.hd hc) lo dd (by rw[<- rel.keys];exact hk) hn λhf tk l vs ns e hl kp he hi pm srt=>?_
 have hz:(ns.map V.int).length<=sizeLine:=by
  rw[aa,pm.length_eq,dZ]
  lia
 have I2:Inv X ad σ (upd H l (.lst (ns.map V.int))) {s with heap:=hf,toks:=tk}:=I.laid (t':=tk) kp hl ⟨hz,vs,e,jAL hi,he⟩
 exact⟨.ref l,_,I2,rfl,q l ns (I.hok.fresh hl) srt pm⟩
def jRI(hu:X.A.units+1<cLine)(ho:JE X o td)(hi:JE X i ty)(hs:jCM i):JE X (.Subscript o i pos) (tDGet td ty):=⟨jQN hu ho.h hi.h hs⟩
def jRF(hu:X.A.units+1<cLine)(ho:JE X o td)(hi:JE X i ty)(hv:JE X value tv)(hs:SwOk value (some (.Subscript o i pos'))):JS X (.Assign [.Subscript o i pos'] value pos) (sDPut td ty tv):=⟨jQE hu ho.h hi.h hv.h (hs.h _ _)⟩
theorem jOL(hu:X.A.units+1<cLine)(ho:JE X o td)(he:JE X e ty)(hf:JE X f tx)(s1:starEach [e,f] X.env=(false,eval e X.env)::starEach [f] X.env)(s2:starEach [f] X.env=(false,eval f X.env)::starEach [] X.env)
  (base:attributeBase o "get" X.env (eval o X.env)=eval o X.env:=by rfl)
  (few:((backTo cpos (starEach [e,f] X.env)).all (λx=>!x.1)&&(backToKw cpos (keywordEach [] X.env)).all (λx=>x.1.isSome)
   &&decide (([e,f]:List Expr).length+([]:List Keyword).length+(if ([]:List Keyword).isEmpty then 0 else 1)<30))=true:=by rfl)
  (line:(apos.endLine==cpos.line)=true:=by rfl) (trees:backTo cpos (starEach [e,f] X.env)=[(false,eval e X.env),(false,eval f X.env)]:=by rfl):
  JE X (.Call (.Attribute o "get" apos) [e,f] [] cpos) (jP2 td ty tx):=⟨jNZ hu ho.h he.h hf.h ⟨base,few,line,trees⟩⟩
end
section
variable {prog:Program}{w:World}{K:Type} [DecidableEq K]{knd:KeyKind prog w K}{A:Around}{R:Result->Shared->Prop}{I:Addr}{fp wr:List Addr}{n:Nat}{P:Nat->Value->Prop}{St:Nat->Shared->Prop}
end
section
variable {prog:Program}{w:World}{K:Type} [DecidableEq K]{knd:KeyKind prog w K}{A:Around}{E:Value->Shared->Prop}{s:Shared}
end
section
variable {K:W.Frag}
def gl_n(h:sc.names.lookup x=some .globalImplicit):Gl1 (cxN P w K mg base N qual sc f cd cl A outer s H) x:=⟨h⟩
def vis_n(h:sc.names.lookup x=some .local):Vis1 (cxN P w K mg base N qual sc f cd cl A outer s H) x:=⟨.inl h⟩
def jS0(h:sc.names.lookup x=some .free):Vis1 (cxN P w K mg base N qual sc f cd cl A outer s H) x:=⟨.inr (.inr h)⟩
end
def AtS(tp:Bool)(H:Hp)(a:Addr)(xs:List V):Prop:=match tp with
 |false=>H a=some (.lst xs)
 |true=>H a=some (.tup xs)
section
variable {K:W.Frag}{σ:St}
theorem jDV{a:Addr}{xs:List V}(hn:xs.length<sizeLine)(Pv:Addr->Nat->St->Hp->List V->Prop)(h0:∀D,H1 D=none->Pv D 0 (blkσ m σ) (upd H1 D (.lst [])) [])
  (hD:∀D i σ' H' zs,H1 D=none->Pv D i σ' H' zs->H' a=some (.lst xs)/\H' D=some (.lst zs)/\zs.length<=i)
  (hs:∀D i σ' H' zs x,H1 D=none->xs[i]?=some x->Pv D i σ' H' zs->g x σ' H' λσ2 H2=>tt σ2 H2 λb H3=>if b=true then te σ2 H3 λv H4=>H4 D=some (.lst zs)/\Pv D (i+1) σ2 (upd H4 D (.lst (zs++[v]))) (zs++[v]) else Pv D (i+1) σ2 H3 zs)
  (hd:∀D σ' H' zs,H1 D=none->Pv D xs.length σ' H' zs->Q (.ref D) H'):qJ m g tt te σ Q (Itl K a) H1:=by
 intro D hDn
 refine⟨λi k σ' H' zs=>k=xs.length-i/\i<=xs.length/\Pv D i σ' H' zs,⟨_,rfl,bb _,h0 D hDn⟩,?_⟩
 rintro i k σ' H' zs ⟨rfl,hi,p⟩
 obtain⟨s1,q1,q2⟩:=hD D i σ' H' zs hDn p
 refine⟨q1,by lia,?_⟩
 by_cases hlt:i<xs.length
 .refine .inr ⟨⟨xs,xs[i],SqL.of s1,by simp[hlt]⟩,Pv D (i+1),λσ2 H2 zs z=>⟨xs.length-(i+1),by lia,rfl,hlt,z⟩,λv H'' y=>?_⟩
  obtain⟨e1,e2⟩:=y
  subst e1
  exact hs D i σ' _ zs v hDn (e2 xs (SqL.of s1)) p
 .have e:i=xs.length:=by lia
  subst e
  exact .inl ⟨⟨xs,SqL.of s1,ak _⟩,hd D σ' H' zs hDn p⟩
end
def ExtT.of{T:Addr}{H H':Hp}(e:Ext H H'):ExtT T H H':=λb o h _=>e b o h
def TabOk.ext(t:TabOk H T pos q)(e:Ext H H'):TabOk H' T pos q:=by
 rcases t with h|⟨c,h,h2⟩
 .exact .inl (e _ _ h)
 .exact .inr ⟨c,e _ _ h,e _ _ h2⟩
structure FunC (K:W.Frag)(x qual:Str)(st:Stmt)(f:Addr)(fd:FuncData)(c0:Addr):Prop where
 ex:∃(oc:Value) (od:Option Addr) (kV doc pm:Value) (an:Option Addr) (ct:Value) (osl:Array (Option Value)),fd=PySem.W.fnOf x qual (yX st) (jE st) (jB st) .none kV doc pm an (.ref c0) ct/\K.lookup f=some ⟨oc,od,.func fd,osl⟩/\PySem.W.codeIn K (.ref c0) qual=true
def FunC.ok{st:Stmt}{k:Nat}(F:FunC K x qual st f fd c0)(S:FnScope N ps (jB st))(len:∀vs H Q E,sp vs H Q E->vs.length=ps.length)
  (hbody:∀(A:Around) (outer:List Env) (s:Shared) (H:Hp) (vs:List V) (Q:VK) (E:XK),Room k (A.deeper (envOfC qual (jB st) s.heap.objs.size f (.ref c0)))->sp vs H Q E->
   ∃t,PSs (cxOf CX0 P w K mg base N qual (jB st) f (.ref c0) A outer s H E).nox (jE st) t/\t {nx:=λ_ H'=>Q .non H',rt:=Q} (yY N vs) H):FnOk P w K mg base CX0 (k+1) f fd ps sp:=by
 obtain⟨oc,od,kV,doc,pm,an,ct,osl,rfl,lk,hcd⟩:=F.ex
 refine fn_of lk hcd S len λA outer s H vs Q E hr hsp=>?_
 obtain⟨t,ht,hq⟩:=hbody A outer s H vs Q E hr hsp
 exact⟨t,ht.nox,hq⟩
section
variable {K:W.Frag}
end
structure Callee (P:Program)(w:World)(K:W.Frag)(mg:Str->Option Value)(base:Heap)(Z:Shared->Hp->Prop)(zh:Hp->Prop)(k:Nat)(a:Addr)(sp:Sp):Prop where
 fn:∀(A:Around) (outer:List Env) (s:Shared) (H:Hp),Env0 P w K mg base A outer s H->zh H->PySem.W.FnAt a s.heap
 run:∀(A:Around) (outer:List Env) (s:Shared) (H:Hp) (us:List Value) (vs:List V) (Q:VK) (E:XK),Room k A->Env0 P w K mg base A outer s H->Z s H->zh H->Vals vs us->sp vs H Q E->codeAny (model P w) A (.call (.ref a) ⟨us,[]⟩) (CR CX0 outer P w H s Q E) s
section
variable {Z:Shared->Hp->Prop}{zh:Hp->Prop}{k:Nat}
end
def nlP(q:Str)(args:Arguments)(body:Expr)(scope:Scope)(cl:List (Str×Addr))(a c:Addr):Heap->Prop:=λh=>∃pm ctv,h.get? a=some (kla_obj "<lambda>" q args body scope cl pm c ctv)
def nlP.stay{body:Expr}(h1 h2:Heap)(p:nlP q args body scope cl a c h1)(k:∀o,h1.get? a=some o->h2.get? a=some o):nlP q args body scope cl a c h2:=by
 obtain⟨m,t,e⟩:=p
 exact⟨m,t,k _ e⟩
def tLam(q:Str)(args:Arguments)(body:Expr)(scope:Scope)(cl:List (Str×Addr))(T:Addr)(pos:Pos):TE:=λ_ H Q=>TabOk H T pos q/\∀a c H',H' a=some (.ext (nlP q args body scope cl a c))->H' c=some (.ext (ncP q c))->H' T=some (.tbl (onePs pos c))->ExtT T H H'->H a=none->Q (.ref a) H'
def jTL{body:Expr}(hcode:X.env.code=.ref c0)(CH:PySem.W.CodeHd X.base c0 T)(hbm:BltAt X.base X.mg)
  (hfree:∀y∈scope.names,y.2=.free->X.env.scope.names.lookup y.1=some .cell\/X.env.scope.names.lookup y.1=some .free) (hdf:defaultsOf args X.env=([],[])):
  JE X (.Lambda args body scope pos) (tLam (X.env.qual++ "<lambda>") args body scope (kB X.env.cells scope.names []) T pos):=by
 refine⟨λad s σ H Q I h=>?_⟩
 obtain⟨tab,h⟩:=h
 refine PySem.W.kla_eval hdf ?_
 have hcl:closureFor scope X.env=pure (kB X.env.cells scope.names []):=jHS λy hy hz=>I.ok.has y.1 (hfree y hy hz)
 have hg:s.heap.Ns mainGlobals X.mg:=I.mod.glob.keeps I.bk
 have C:=CH.keeps I.bk
 have gT:∀{ps:Array Value},H T=some (.tbl ps)->mainGlobals≠T:=λhT z=>by
  obtain⟨o,es,ep,e,_⟩:=I.mod.glob
  have:=(I.bs _ _ e).2
  rw[z,hT] at this
  cases this
 have bT:∀{ps:Array Value},H T=some (.tbl ps)->s.heap.BuiltinsAt X.mg T:=λhT=>by
  obtain⟨bm,o,h1,h2,h3,h4,h5,h6,h7⟩:=hbm
  refine⟨bm,o,h1,h2,h3,λz=>?_,(I.bs _ _ h4).1,h5,h6,h7⟩
  have:=(I.bs _ _ h4).2
  rw[z,hT] at this
  cases this
 rcases tab with hT|⟨c,hT,hc⟩
 .refine PySem.W.kla_makeFunction hcl I.ok.glob hg hcode C (I.hok T _ hT) trivial rfl (gT hT) (bT hT) λc ctv h' tk k1 k2 k3 k4 k5=>?_
  obtain⟨oc,hoc⟩:=ncP.is (q:=X.env.qual++ "<lambda>") k4
  have I1:Inv X ad σ (upd (upd H T (.tbl (#[]++onePs pos c))) c (.ext (ncP (X.env.qual++ "<lambda>") c))) {s with heap:=h',toks:=tk}:=I.grown hT k1 k5 k2 k4 ⟨oc,hoc⟩ ncP.stay
  have I2:=I1.laidX (t':=tk) (a:=h'.objs.size) (φ:=nlP (X.env.qual++ "<lambda>") args body scope (kB X.env.cells scope.names []) h'.objs.size c) (h':=h'.push (kla_obj "<lambda>" (X.env.qual++ "<lambda>") args body scope (kB X.env.cells scope.names []) ((X.mg "__name__").getD .none) c ctv)) (λb u q=>ae _ q) (ak _) ⟨_,ctv,aD _ rfl⟩ ⟨_,aD _ rfl⟩ nlP.stay
  have hcn:H c=none:=I.hok.fresh k2
  have han:H h'.objs.size=none:=I.hok.fresh (aY k2 (dj k3))
  have ca:c≠h'.objs.size:=aS k3
  have Tc:T≠c:=λz=>by rw[z,hcn] at hT;cases hT
  have Ta:T≠h'.objs.size:=λz=>by rw[z,han] at hT;cases hT
  refine⟨.ref _,_,I2,rfl,h _ c _ j5 (by rw[j7 ca,j5]) (by rw[j7 Ta,j7 Tc,j5,Array.empty_append]) (λb o e n=>?_) han⟩
  rw[j7 (j8 e han),j7 (j8 e hcn),j7 n]
  exact e
 .refine PySem.W.kla_makeFunctionHit (cv:=.ref c) hcl I.ok.glob hg hcode C (I.hok T _ hT) (by exact trivial) (by simp[codeAmong,rawInt]) (bT hT) λctv h' tk k1 k2=>?_
  have I2:=I.laidX (t':=tk) (a:=h'.objs.size) (φ:=nlP (X.env.qual++ "<lambda>") args body scope (kB X.env.cells scope.names []) h'.objs.size c) (h':=h'.push (kla_obj "<lambda>" (X.env.qual++ "<lambda>") args body scope (kB X.env.cells scope.names []) ((X.mg "__name__").getD .none) c ctv)) (λb u q=>ae _ (k1 b u q)) k2 ⟨_,ctv,aD _ rfl⟩ ⟨_,aD _ rfl⟩ nlP.stay
  have han:H h'.objs.size=none:=I.hok.fresh k2
  refine⟨.ref _,_,I2,rfl,h _ c _ j5 (by rw[j7 (j8 hc han)];exact hc) (by rw[j7 (j8 hT han)];exact hT) (λb o e n=>?_) han⟩
  rw[j7 (j8 e han)]
  exact e
def jTQ{P:Program}{w:World}{K:W.Frag}{mg:Str->Option Value}{base:Heap}{k:Nat}{q:Str}{args:Arguments}{body:Expr}{scope:Scope}{N ps fs:List Str}{sp:Sp}{cl:List (Str×Addr)}{fv:List V}{a c:Addr}(S:NScope N ps fs scope)(len:∀vs H Q E,sp vs H Q E->vs.length=ps.length)
  (hb:∀pm ctv (us:List Value),us.length=ps.length->bindArgs (PySem.W.kla_fn "<lambda>" q args body scope cl pm (.ref c) ctv) ⟨us,[]⟩=pure (ps.zip us))
  (hbody:∀(A:Around) (outer:List Env) (s:Shared) (H:Hp) (vs:List V) (Q:VK) (E:XK),Room k (A.deeper (envX q scope s.heap.objs.size a (.ref c) cl))->sp vs H Q E->
   ∃t,PE (cxN P w K mg base N q scope a (.ref c) cl A outer s H) body t/\t (jDD N vs fv) H Q):
  Callee P w K mg base (λs H=>ClOk cl s H/\FvOk fs fv cl s) (λH=>H a=some (.ext (nlP q args body scope cl a c))/\H c=some (.ext (ncP q c))) (k+1) a sp:=by
 refine⟨λA outer s H e z=>?_,λA outer s H us vs Q E hr e0 hz zh r hsp=>?_⟩
 .obtain⟨⟨m,t,g⟩,_,_⟩:=(show ObjOk P w H s.heap a (.ext _) from e.hok a _ z.1)
  exact⟨_,_,_,_,g⟩
 obtain⟨C,Fv⟩:=hz
 obtain⟨⟨pm,ctv,ho⟩,_,_⟩:=(show ObjOk P w H s.heap a (.ext _) from e0.hok a _ zh.1)
 obtain⟨hc,_,_⟩:=(show ObjOk P w H s.heap c (.ext _) from e0.hok c _ zh.2)
 have hl:us.length=ps.length:=r.length.symm.trans (len _ _ _ _ hsp)
 have lim:s.heap.NoLimit:=e0.mod.nolimit.keeps λb o e=>(e0.bs b o e).1
 refine PySem.W.kla_callFunE hr.depth ho rfl S.co S.gen rfl hc ?_
 rw[hb pm ctv us hl]
 refine ah (wpAny_newFunctionEnv S.nocell (λy hy=>S.par y.1 (cR hy).1) (λh₁ hns hsb=>⟨lim.fresh _ hsb,?_⟩) S.kind)
 show codeAny _ _ (.expr body (envX q scope s.heap.objs.size a (.ref c) cl)) _ _
 have hk:∀b o,s.heap.get? b=some o->h₁.get? b=some o:=λb o e=>hsb.extBut b o (aS (aw e)) (ae _ e)
 obtain⟨t,ht,hq⟩:=hbody A outer s H vs Q E (hr.deeper _) hsp
 have I:Inv (cxN P w K mg base N q scope a (.ref c) cl A outer s H) [] (jDD N vs fv) H {s with heap:=h₁,toks:=s.toks+(ps.zip us).length}:=jJS S hr.hd e0 hl r C Fv hns hk
 refine PySem.W.kla_codeExpr (cn (ht [] _ (jDD N vs fv) H _ I hq) (λu s' hs=>?_) λe s' hs=>False.elim hs)
 obtain⟨v,H',J,rv,q⟩:=hs
 exact⟨v,H',J.os,J.bare,J.base,J.hok,rv,q⟩
section
variable {sc2:Scope}{cl2:List (Str×Addr)}{C2:Addr}{Nc2:List Str}{fp2:List Addr}{s2:Shared}{H2:Hp}
end
section
variable {K:W.Frag}{σ:St}
abbrev TupsK(H H':Hp):Prop:=∀b xs,H b=some (.tup xs)->H' b=some (.tup xs)
structure ZOk (Z:Hp->List V->Nat->Prop):Prop where
 z0:∀H,Z H [] 0
 mono:∀H H' zs j,TupsK H H'->Z H zs j->Z H' zs j
 len:∀H zs j,Z H zs j->zs.length<=j
def jFH{D:Addr}(h:H D=some (.lst zs))(o:HO):TupsK H (upd H D o):=λb xs hb=>by
 rw[j7 (λe=>by rw[e,h] at hb;cases hb)]
 exact hb
def TurnZ(g:TG)(tt:TT)(te:TE)(σP:St->Prop)(Z:Hp->List V->Nat->Prop)(x:V)(j:Nat)(σ':St)(H':Hp)(zs:List V):Prop:=
 ∀(R:St->V->Hp->Prop) (S:St->Hp->Prop),(∀σ2 v H2,σP σ2->Ext H' H2->Z H2 (zs++[v]) (j+1)->R σ2 v H2)->(∀σ2 H2,σP σ2->Ext H' H2->Z H2 zs (j+1)->S σ2 H2)->
  g x σ' H' λσ2 H2=>tt σ2 H2 λb H3=>if b=true then te σ2 H3 (R σ2) else S σ2 H3
def jME{tp:Bool}{a:Addr}{xs:List V}(σP:St->Prop)(Z:Hp->List V->Nat->Prop)(zo:ZOk Z)(ha:AtS tp H a xs)(hn:xs.length<sizeLine)(h0:σP (blkσ m σ))
  (step:∀j x σ' H' zs,xs[j]?=some x->σP σ'->Ext H H'->Z H' zs j->TurnZ g tt te σP Z x j σ' H' zs)
  (hd:∀D H' zs,H' D=some (.lst zs)->Ext H H'->H D=none->Z H' zs xs.length->Q (.ref D) H'):qJ m g tt te σ Q (match tp with|false=>Itl K a|true=>Itt K a) H:=by
 have turn:∀D j σ' H' zs x,H D=none->xs[j]?=some x->(σP σ'/\Ext H H'/\H' D=some (.lst zs)/\H D=none/\Z H' zs j)->g x σ' H' λσ2 H2=>tt σ2 H2 λb H3=>if b=true then te σ2 H3 λv H4=>H4 D=some (.lst zs)/\(σP σ2/\Ext H (upd H4 D (.lst (zs++[v])))/\(upd H4 D (.lst (zs++[v]))) D=some (.lst (zs++[v]))/\H D=none/\Z (upd H4 D (.lst (zs++[v]))) (zs++[v]) (j+1)) else (σP σ2/\Ext H H3/\H3 D=some (.lst zs)/\H D=none/\Z H3 zs (j+1)):=by
  rintro D j σ' H' zs x hD hx ⟨p,e,h2,hn,hz⟩
  exact step j x σ' H' zs hx p e hz _ _ (λσ2 v H2 p2 e2 z2=>⟨e2 _ _ h2,p2,(e.trans e2).updNew hn _,j5,hn,zo.mono _ _ _ _ (jFH (e2 _ _ h2) _) z2⟩) λσ2 H2 p2 e2 z2=>⟨p2,e.trans e2,e2 _ _ h2,hn,z2⟩
 cases tp with
 |false=>exact jDV (xs:=xs) hn (λD j σ' H' zs=>σP σ'/\Ext H H'/\H' D=some (.lst zs)/\H D=none/\Z H' zs j) (λD hD=>⟨h0,(Ext.refl _).new hD _,j5,hD,zo.z0 _⟩) (λD j σ' H' zs hD ⟨_,e,h2,_,hz⟩=>⟨e _ _ ha,h2,zo.len _ _ _ hz⟩) turn λD σ' H' zs hD ⟨_,e,h2,hn,hz⟩=>hd D H' zs h2 e hn hz
 |true=>exact jB7 (xs:=xs) hn (λD j σ' H' zs=>σP σ'/\Ext H H'/\H' D=some (.lst zs)/\H D=none/\Z H' zs j) (λD hD=>⟨h0,(Ext.refl _).new hD _,j5,hD,zo.z0 _⟩) (λD j σ' H' zs hD ⟨_,e,h2,_,hz⟩=>⟨e _ _ ha,h2,zo.len _ _ _ hz⟩) turn λD σ' H' zs hD ⟨_,e,h2,hn,hz⟩=>hd D H' zs h2 e hn hz
def jF8{a:Addr}{xs:List V}(σP:St->Prop)(Z:Hp->List V->Nat->Prop)(zo:ZOk Z)(ha:H a=some (.tup xs))(hn:xs.length<sizeLine)(h0:σP (blkσ m σ))
  (step:∀j x σ' H' zs,xs[j]?=some x->σP σ'->Ext H H'->Z H' zs j->TurnZ g tt te σP Z x j σ' H' zs)
  (hd:∀D H' zs,H' D=some (.lst zs)->Ext H H'->H D=none->Z H' zs xs.length->Q (.ref D) H'):qJ m g tt te σ Q (Itt K a) H:=jME (tp:=true) σP Z zo ha hn h0 step hd
def jC5{a:Addr}{xs:List V}(σP:St->Prop)(Z:Hp->List V->Nat->Prop)(zo:ZOk Z)(ha:H a=some (.lst xs))(hn:xs.length<sizeLine)(h0:σP (blkσ m σ))
  (step:∀j x σ' H' zs,xs[j]?=some x->σP σ'->Ext H H'->Z H' zs j->TurnZ g tt te σP Z x j σ' H' zs)
  (hd:∀D H' zs,H' D=some (.lst zs)->Ext H H'->H D=none->Z H' zs xs.length->Q (.ref D) H'):qJ m g tt te σ Q (Itl K a) H:=jME (tp:=false) σP Z zo ha hn h0 step hd
def jJ3{n:Nat}(σP:St->Prop)(Z:Hp->List V->Nat->Prop)(zo:ZOk Z)(hn:n<sizeLine)(h0:σP (blkσ m σ))
  (step:∀j σ' H' zs,j<n->σP σ'->Ext H H'->Z H' zs j->TurnZ g tt te σP Z (.int (0+j)) j σ' H' zs)
  (hd:∀D H' zs,H' D=some (.lst zs)->Ext H H'->H D=none->Z H' zs n->Q (.ref D) H'):qJ m g tt te σ Q (Itr 0 n) H:=by
 refine jAD (lo:=0) (n:=n) hn (λD j σ' H' zs=>σP σ'/\Ext H H'/\H' D=some (.lst zs)/\H D=none/\Z H' zs j) (λD hD=>⟨h0,(Ext.refl _).new hD _,j5,hD,zo.z0 _⟩) (λD j σ' H' zs hD hj ⟨_,e,h2,_,hz⟩=>⟨h2,zo.len _ _ _ hz⟩) ?_ λD σ' H' zs hD ⟨_,e,h2,hn,hz⟩=>hd D H' zs h2 e hn hz
 rintro D j σ' H' zs hD hj ⟨p,e,h2,hn,hz⟩
 exact step j σ' H' zs hj p e hz _ _ (λσ2 v H2 p2 e2 z2=>⟨e2 _ _ h2,p2,(e.trans e2).updNew hn _,j5,hn,zo.mono _ _ _ _ (jFH (e2 _ _ h2) _) z2⟩) λσ2 H2 p2 e2 z2=>⟨p2,e.trans e2,e2 _ _ h2,hn,z2⟩
end
def outZ(l:List α)(p:α->Bool)(f:α->V):Hp->List V->Nat->Prop:=λ_ zs j=>zs=((l.take j).filter p).map f
def outZ.ok(l:List α)(p:α->Bool)(f:α->V):ZOk (outZ l p f):=⟨λ_=>rfl,λ_ _ _ _ _ h=>h,λ_ zs j h=>by
 rw[show zs=_ from h,aa]
 exact aY (bW _ _) (gF _ _)⟩
def outZ.yes{l:List α}{p:α->Bool}{f:α->V}{x:α}(h:outZ l p f H zs j)(hx:l[j]?=some x)(hp:p x=true):outZ l p f H' (zs++[f x]) (j+1):=by
 show _=_
 rw[aX,hx,cH,aC,<- show zs=_ from h]
 simp[hp]
def outZ.no{l:List α}{p:α->Bool}{f:α->V}{x:α}(h:outZ l p f H zs j)(hx:l[j]?=some x)(hp:p x=false):outZ l p f H' zs (j+1):=by
 show _=_
 rw[aX,hx,cH,aC,<- show zs=_ from h]
 simp[hp]
def outZ.all{l:List α}{p:α->Bool}{f:α->V}(h:outZ l p f H zs n)(hn:l.length<=n):zs=(l.filter p).map f:=by
 rw[show zs=_ from h,bf hn]
def mapZ(l:List α)(f:α->V):Hp->List V->Nat->Prop:=λ_ zs j=>zs=(l.take j).map f
def mapZ.ok(l:List α)(f:α->V):ZOk (mapZ l f):=⟨λ_=>rfl,λ_ _ _ _ _ h=>h,λ_ zs j h=>by
 rw[show zs=_ from h,aa]
 exact gF _ _⟩
def mapZ.yes{l:List α}{f:α->V}{x:α}(h:mapZ l f H zs j)(hx:l[j]?=some x):mapZ l f H' (zs++[f x]) (j+1):=by
 show _=_
 rw[aX,hx,aC,<- show zs=_ from h]
 rfl
def mapZ.all{l:List α}{f:α->V}(h:mapZ l f H zs n)(hn:l.length<=n):zs=l.map f:=by
 rw[show zs=_ from h,bf hn]
def int_at{l:List Int}{x:V}(h:(l.map V.int)[j]?=some x):∃z:Int,l[j]?=some z/\x=V.int z:=by
 rw[aO] at h
 cases hq:l[j]? with
 |none=>rw[hq] at h;cases h
 |some z=>rw[hq] at h;cases h;exact⟨z,rfl,rfl⟩
def jHJ{X:Cx}{e:Expr}{te:TE}{x:Str}{pos:Pos}{i:Nat}{pos':Pos}(hN:X.N.Nodup)(hi:X.N[i]?=some x)(hx:Loc1 X x)(he:JE X e te)(hs:swapsWith e (some (.Name x pos')) pos.line X.env=pure false):JS X (.Assign [.Name x pos'] e pos) (tAsg te (kI i)):=⟨qO hN hi hx.a he.h hs hx.b⟩
end L2
namespace TM
open PySem PyProof.Rows
variable {xs ys a₀:Array Keyed}{st st':SortSt}{Q:Option Nat->SortSt->Prop}{l b a o tot v u m xb xa:List Keyed}{p y x q:Keyed}{n i ib ia hint:Nat}
class Od where
 kd:SortKind
 ky:Keyed->Int
 is:Keyed->Prop
abbrev key [Od]:Keyed->Int:=Od.ky
abbrev IsI [Od]:Keyed->Prop:=Od.is
class LtOk (prog:Program) (w:World) (A:Around) (s:Shared) [Od]:Prop where
 lt:∀{E:Value->Shared->Prop}{st:SortSt}{x y:Keyed}{Q:Option Bool->SortSt->Prop},kindOf st=Od.kd->IsI x->IsI y->Q (some (decide (key x<key y))) st->wpS (model prog w) A E s (lt' x y) Q st
variable [Od]
abbrev AllI(l:List Keyed):Prop:=∀p∈l,IsI p
abbrev LE(x y:Keyed):Prop:=key x<=key y
def jBM:Bool->Keyed->Array Keyed->Nat->Nat->Nat->StateT SortSt Sem (Option Nat):=sortPriv% PySem.Builtin.gallop
def gallopB: {g:Bool->Keyed->Array Keyed->Nat->Nat->Nat->StateT SortSt Sem (Option Nat) // jBM=g}:=⟨λ_ _ _ _ _ _=>bind _ _,rfl⟩
def elP:(sortPriv% PySem.Builtin.elem)=elem':=rfl
def ltP:(sortPriv% PySem.Builtin.lt)=lt':=rfl
def ltAtP:(sortPriv% PySem.Builtin.ltAt)=ltAt':=rfl
def jHN:(sortPriv% PySem.Builtin.gallop)=jBM:=rfl
section
variable {prog:Program}{w:World}{A:Around}{E:Value->Shared->Prop}{s:Shared}
theorem jFD [LtOk prog w A s]{Q:Option Bool->SortSt->Prop}(hk:kindOf st=Od.kd)(hx:IsI x)(hy:IsI y)(h:Q (some (decide (key x<key y))) st):wpS (model prog w) A E s (lt' x y) Q st:=LtOk.lt hk hx hy h
def kE{arr:Array Keyed}{Q:Keyed->SortSt->Prop}(hi:arr[i]?=some p)(h:Q p st):wpS (model prog w) A E s (elem' arr i) Q st:=by
 rw[elem'_eq,hi]
 exact aL h
end
section
variable {prog:Program}{w:World}{A:Around}{E:Value->Shared->Prop}{s:Shared} [LtOk prog w A s]
theorem jB4{left:Bool}{ky:Keyed}{arr:Array Keyed}{base:Nat}(hk:kindOf st=Od.kd)(hky:IsI ky)(hI:∀i,i<n->∃p,arr[base+i]?=some p/\IsI p)(hh:hint<n)(B:Nat->Bool)
  (hB:∀i p,i<n->arr[base+i]?=some p->B i=(if left=true then decide (key p<key ky) else !decide (key ky<key p))) (mono:∀i j,i<=j->j<n->B j=true->B i=true)
  (h:∀k,k<=n->(∀i,i<k->B i=true)->(∀i,k<=i->i<n->B i=false)->Q (some k) st):wpS (model prog w) A E s (jBM left ky arr base n hint) Q st:=by
 rw[gallopB.2]
 delta gallopB
 dsimp only
 simp only[elP,ltP]
 have bey:∀i (R:Option Bool->SortSt->Prop),i<n->R (some (B i)) st->wpS (model prog w) A E s (do
   let x <- elem' arr (base+i)
   if left=true then lt' x ky else do
    let r <- lt' ky x
    pure (r.map (!·))) R st:=λi R hi hR=>by
  obtain⟨p,hp,ip⟩:=hI i hi
  refine aJ (kE hp ?_)
  have e:=hB i p hi hp
  cases left with
  |true=>
   rw[ai rfl] at e ⊢
   rw[e] at hR
   exact jFD hk ip hky hR
  |false=>
   rw[aj aq] at e ⊢
   rw[e] at hR
   exact aJ (jFD hk hky ip (aL hR))
 have down:∀i j,i<=j->j<n->B i=false->B j=false:=λi j hij hj hi=>by
  cases hb:B j with
  |false=>rfl
  |true=>rw[mono i j hij hj hb] at hi;cases hi
 refine aJ (bey hint _ hh ?_)
 dsimp only
 cases hb:B hint with
 |true=>
  rw[ai rfl]
  refine aJ (db (bZ (I:=λx c st'=>st'=st/\∃l o,c=(none,l,o)/\l<o/\x+1<=o/\hint+l<n/\B (hint+l)=true)
   (Q:=λc st'=>st'=st/\∃l o,c=(none,l,o)/\l<o/\hint+l<n/\B (hint+l)=true/\(n-hint<=o\/(hint+o<n/\B (hint+o)=false))) ?step ?fin ⟨rfl,0,1,rfl,by lia,by lia,by lia,by rw[km];exact hb⟩) ?post)
  case post=>
   rintro c st' ⟨rfl,l,o,rfl,a1,a2,a3,a4⟩
   dsimp only
   have p3:∀i,i<hint+l+1->B i=true:=λi hi=>mono i (hint+l) (by lia) a2 a3
   have p4:∀i,hint+min o (n-hint)<=i->i<n->B i=false:=λi h1 h2=>by
    rcases a4 with a4|⟨a4,a5⟩
    .lia
    .exact down (hint+o) i (by lia) h2 a5
   refine aJ (db (bZ (I:=λx c st''=>st''=st'/\∃lo hi,c=(none,lo,hi)/\lo<=hi/\hi<=n/\hi-lo<=n-x/\(∀i,i<lo->B i=true)/\(∀i,hi<=i->i<n->B i=false))
    (Q:=λc st''=>st''=st'/\∃k,c=(none,k,k)/\k<=n/\(∀i,i<k->B i=true)/\(∀i,k<=i->i<n->B i=false)) ?step2 ?fin2 ⟨rfl,hint+l+1,hint+min o (n-hint),rfl,by lia,by lia,by lia,p3,p4⟩) ?post2)
   case post2=>
    rintro c st'' ⟨rfl,k,rfl,k1,k2,k3⟩
    exact aL (h k k1 k2 k3)
   case fin2=>
    rintro c st'' ⟨rfl,lo,hi,rfl,a1,a2,a3,a4,a5⟩
    have:lo=hi:=by lia
    subst this
    exact⟨rfl,lo,rfl,a2,a4,a5⟩
   case step2=>
    rintro x c st'' _ hx ⟨rfl,lo,hi,rfl,a1,a2,a3,a4,a5⟩
    dsimp only
    by_cases hge:lo ≥ hi
    .rw[ai hge]
     have:lo=hi:=by lia
     subst this
     exact aL ⟨rfl,lo,rfl,a2,a4,a5⟩
    .rw[aj hge]
     refine aJ (bey _ _ (by lia) ?_)
     dsimp only
     cases hb:B (lo+(hi-lo)/2) with
     |true=>
      rw[ai rfl]
      exact aL ⟨rfl,lo+(hi-lo)/2+1,hi,rfl,by lia,a2,by lia,λi hi'=>mono i _ (by lia) (by lia) hb,a5⟩
     |false=>
      rw[aj aq]
      exact aL ⟨rfl,lo,lo+(hi-lo)/2,rfl,by lia,by lia,by lia,a4,λi h1 h2=>down _ i h1 h2 hb⟩
  case fin=>
   rintro c st' ⟨rfl,l,o,rfl,a1,a2,a3,a4⟩
   exact⟨rfl,l,o,rfl,a1,a3,a4,.inl (by lia)⟩
  case step=>
   rintro x c st' _ hx ⟨rfl,l,o,rfl,a1,a2,a3,a4⟩
   dsimp only
   by_cases hge:o ≥ n-hint
   .rw[ai hge]
    exact aL ⟨rfl,l,o,rfl,a1,a3,a4,.inl hge⟩
   .rw[aj hge]
    refine aJ (bey _ _ (by lia) ?_)
    dsimp only
    cases hb2:B (hint+o) with
    |true=>
     rw[aj (by decide)]
     exact aL ⟨rfl,o,2*o+1,rfl,by lia,by lia,by lia,hb2⟩
    |false=>
     rw[ai (by decide)]
     exact aL ⟨rfl,l,o,rfl,a1,a3,a4,.inr ⟨by lia,hb2⟩⟩
 |false=>
  rw[aj aq]
  refine aJ (db (bZ (I:=λx c st'=>st'=st/\∃l o,c=(none,l,o)/\l<o/\x+1<=o/\l<=hint/\B (hint-l)=false)
   (Q:=λc st'=>st'=st/\∃l o,c=(none,l,o)/\l<o/\l<=hint/\B (hint-l)=false/\(hint+1<=o\/(o<=hint/\B (hint-o)=true))) ?step ?fin ⟨rfl,0,1,rfl,by lia,by lia,by lia,by rw[kn];exact hb⟩) ?post)
  case post=>
   rintro c st' ⟨rfl,l,o,rfl,a1,a2,a3,a4⟩
   dsimp only
   have p3:∀i,i<hint+1-min o (hint+1)->B i=true:=λi hi=>by
    rcases a4 with a4|⟨a4,a5⟩
    .lia
    .exact mono i (hint-o) (by lia) (by lia) a5
   have p4:∀i,hint-l<=i->i<n->B i=false:=λi h1 h2=>down (hint-l) i (by lia) h2 a3
   refine aJ (db (bZ (I:=λx c st''=>st''=st'/\∃lo hi,c=(none,lo,hi)/\lo<=hi/\hi<=n/\hi-lo<=n-x/\(∀i,i<lo->B i=true)/\(∀i,hi<=i->i<n->B i=false))
    (Q:=λc st''=>st''=st'/\∃k,c=(none,k,k)/\k<=n/\(∀i,i<k->B i=true)/\(∀i,k<=i->i<n->B i=false)) ?step2 ?fin2 ⟨rfl,hint+1-min o (hint+1),hint-l,rfl,by lia,by lia,by lia,p3,p4⟩) ?post2)
   case post2=>
    rintro c st'' ⟨rfl,k,rfl,k1,k2,k3⟩
    exact aL (h k k1 k2 k3)
   case fin2=>
    rintro c st'' ⟨rfl,lo,hi,rfl,a1,a2,a3,a4,a5⟩
    have:lo=hi:=by lia
    subst this
    exact⟨rfl,lo,rfl,a2,a4,a5⟩
   case step2=>
    rintro x c st'' _ hx ⟨rfl,lo,hi,rfl,a1,a2,a3,a4,a5⟩
    dsimp only
    by_cases hge:lo ≥ hi
    .rw[ai hge]
     have:lo=hi:=by lia
     subst this
     exact aL ⟨rfl,lo,rfl,a2,a4,a5⟩
    .rw[aj hge]
     refine aJ (bey _ _ (by lia) ?_)
     dsimp only
     cases hb:B (lo+(hi-lo)/2) with
     |true=>
      rw[ai rfl]
      exact aL ⟨rfl,lo+(hi-lo)/2+1,hi,rfl,by lia,a2,by lia,λi hi'=>mono i _ (by lia) (by lia) hb,a5⟩
     |false=>
      rw[aj aq]
      exact aL ⟨rfl,lo,lo+(hi-lo)/2,rfl,by lia,by lia,by lia,a4,λi h1 h2=>down _ i h1 h2 hb⟩
  case fin=>
   rintro c st' ⟨rfl,l,o,rfl,a1,a2,a3,a4⟩
   exact⟨rfl,l,o,rfl,a1,a3,a4,.inl (by lia)⟩
  case step=>
   rintro x c st' _ hx ⟨rfl,l,o,rfl,a1,a2,a3,a4⟩
   dsimp only
   by_cases hge:o ≥ hint+1
   .rw[ai hge]
    exact aL ⟨rfl,l,o,rfl,a1,a3,a4,.inl hge⟩
   .rw[aj hge]
    refine aJ (bey _ _ (by lia) ?_)
    dsimp only
    cases hb2:B (hint-o) with
    |true=>
     rw[ai rfl]
     exact aL ⟨rfl,l,o,rfl,a1,a3,a4,.inr ⟨by lia,hb2⟩⟩
    |false=>
     rw[aj aq]
     exact aL ⟨rfl,o,2*o+1,rfl,by lia,by lia,by lia,hb2⟩
end
abbrev jFO(st:SortSt)(g:Nat):SortSt:=SortSt.mk' (kindOf st) (arrOf st) (pendingOf st) g (failedOf st)
def jBS:Nat->StateT SortSt Sem Unit:=sortPriv% PySem.Builtin.setMinGallop
def jKK:(sortPriv% PySem.Builtin.setMinGallop)=jBS:=rfl
def jA3(g:Nat):jBS g=modify λs=>jFO s g:=rfl
def jEU:Array Keyed->Array Keyed->StateT SortSt Sem (Array Keyed):=sortPriv% PySem.Builtin.mergeLo
def mergeLoB: {g:Array Keyed->Array Keyed->StateT SortSt Sem (Array Keyed) // jEU=g}:=⟨λ_ _=>bind _ _,rfl⟩
def jOA:(sortPriv% PySem.Builtin.mergeLo)=jEU:=rfl
def jEV:Array Keyed->Array Keyed->StateT SortSt Sem (Array Keyed):=sortPriv% PySem.Builtin.mergeHi
def mergeHiB: {g:Array Keyed->Array Keyed->StateT SortSt Sem (Array Keyed) // jEV=g}:=⟨λ_ _=>bind _ _,rfl⟩
def jOB:(sortPriv% PySem.Builtin.mergeHi)=jEV:=rfl
abbrev Srt(l:List Keyed):Prop:=l.Pairwise LE
structure ML (a b out:List Keyed)(ia ib:Nat):Prop where
 perm:(out++(a.drop ia++b.drop ib)).Perm (a++b)
 srt:Srt out
 le:∀x∈out,∀y∈a.drop ia++b.drop ib,LE x y
def Srt.drop(h:Srt l)(i:Nat):Srt (l.drop i):=h.sublist (ij _ _)
def Srt.take(h:Srt l)(i:Nat):Srt (l.take i):=h.sublist (eJ _ _)
def qF(h1:Srt l)(h2:Srt m)(h:∀x∈l,∀y∈m,LE x y):Srt (l++m):=bP.mpr ⟨h1,h2,h⟩
def ML.takeA{out:List Keyed}(h:ML a b out ia ib)(sa:Srt a)(k:Nat)(hc:∀x∈(a.drop ia).take k,∀y∈b.drop ib,LE x y):ML a b (out++(a.drop ia).take k) (ia+k) ib:=by
 have e:a.drop (ia+k)=(a.drop ia).drop k:=by rw[gZ]
 refine⟨?_,qF h.srt ((sa.drop ia).take k) λx hx y hy=>h.le x hx y (aE _ (de hy)),λx hx y hy=>?_⟩
 .refine List.Perm.trans ?_ h.perm
  rw[e]
  refine i9 ?_
  rw[be,<- be ((a.drop ia).take k),bg]
 .rcases az.mp hx with q|q
  .refine h.le x q y ?_
   rcases az.mp hy with z|z
   .rw[e] at z
    exact aE _ (cw z)
   .exact am _ z
  .rcases az.mp hy with z|z
   .rw[e] at z
    have s:=sa.drop ia
    rw[<- bg k (a.drop ia)] at s
    exact(bP.mp s).2.2 x q y z
   .exact hc x q y z
def ML.takeB{out:List Keyed}(h:ML a b out ia ib)(sb:Srt b)(k:Nat)(hc:∀x∈(b.drop ib).take k,∀y∈a.drop ia,LE x y):ML a b (out++(b.drop ib).take k) ia (ib+k):=by
 have e:b.drop (ib+k)=(b.drop ib).drop k:=by rw[gZ]
 refine⟨?_,qF h.srt ((sb.drop ib).take k) λx hx y hy=>h.le x hx y (am _ (de hy)),λx hx y hy=>?_⟩
 .refine List.Perm.trans ?_ h.perm
  rw[e,be]
  refine cX out ?_
  refine dG.trans ?_
  rw[be]
  refine cX _ ?_
  refine dG.trans ?_
  rw[bg]
 .rcases az.mp hx with q|q
  .refine h.le x q y ?_
   rcases az.mp hy with z|z
   .exact aE _ z
   .rw[e] at z
    exact am _ (cw z)
  .rcases az.mp hy with z|z
   .exact hc x q y z
   .rw[e] at z
    have s:=sb.drop ib
    rw[<- bg k (b.drop ib)] at s
    exact(bP.mp s).2.2 x q y z
def ML.outA{out:List Keyed}(h:ML a b out ia ib)(sa:Srt a)(hb:b.length<=ib):(out++a.drop ia++b.drop ib).Perm (a++b)/\Srt (out++a.drop ia++b.drop ib):=by
 refine⟨by rw[be];exact h.perm,?_⟩
 rw[iW hb,bS]
 exact qF h.srt (sa.drop ia) λx hx y hy=>h.le x hx y (aE _ hy)
def ML.outB{out:List Keyed}(h:ML a b out ia ib)(sb:Srt b)(ha:a.length<=ia):(out++a.drop ia++b.drop ib).Perm (a++b)/\Srt (out++a.drop ia++b.drop ib):=by
 refine⟨by rw[be];exact h.perm,?_⟩
 rw[iW ha,bS]
 exact qF h.srt (sb.drop ib) λx hx y hy=>h.le x hx y (am _ hy)
def ML.last{out:List Keyed}(h:ML a b out ia ib)(sa:Srt a)(sb:Srt b)(ha:∀x∈b,∀y∈a.drop ia,LE x y):(out++b.drop ib++a.drop ia).Perm (a++b)/\Srt (out++b.drop ib++a.drop ia):=by
 refine⟨?_,?_⟩
 .rw[be]
  exact(cX out dG).trans h.perm
 .refine qF (qF h.srt (sb.drop ib) λx hx y hy=>h.le x hx y (am _ hy)) (sa.drop ia) λx hx y hy=>?_
  rcases az.mp hx with q|q
  .exact h.le x q y (aE _ hy)
  .exact ha x (cw q) y hy
def jAC(h:l[i]?=some p):(l.drop i).take 1=[p]:=by
 obtain⟨hi,e⟩:=aF.mp h
 rw[<- List.getElem_cons_drop (h:=hi),e]
 rfl
theorem jE0(h:Srt l){j:Nat}(hx:l[i]?=some x)(hy:l[j]?=some y)(hij:i<=j):LE x y:=by
 obtain⟨h1,rfl⟩:=aF.mp hx
 obtain⟨h2,rfl⟩:=aF.mp hy
 by_cases e:i=j
 .subst e;exact ed _
 .exact cV.mp h i j h1 h2 (by lia)
theorem jD6(h:y∈l.drop i):∃j,i<=j/\l[j]?=some y:=by
 obtain⟨k,hk⟩:=cg h
 rw[fi] at hk
 exact⟨i+k,by lia,hk⟩
theorem jA6{k:Nat}(h:y∈(l.drop i).take k):∃j,i<=j/\j<i+k/\l[j]?=some y:=by
 obtain⟨n,hn⟩:=cg h
 have hlt:n<k:=by
  have:=(aF.mp hn).1
  rw[aZ] at this
  lia
 rw[cY hlt,fi] at hn
 exact⟨i+n,by lia,by lia,hn⟩
def jCK{a:Array Keyed}:(a.extract i a.size).toList=a.toList.drop i:=by
 rw[eR,dH]
 exact bf (by rw[cB,aM];exact ak _)
def ext_k{a:Array Keyed}{k:Nat}:(a.extract i (i+k)).toList=(a.toList.drop i).take k:=by
 rw[eR,dH,cr]
structure Two (a b:Array Keyed):Prop where
 ia:AllI a.toList
 ib:AllI b.toList
 sa:Srt a.toList
 sb:Srt b.toList
 na:0<a.size
 nb:0<b.size
 last:∀x∈b.toList,∀y,a.toList[a.size-1]?=some y->key x<key y
 first:∀y∈a.toList,∀p,b.toList[0]?=some p->key p<key y
def qA(a b r:Array Keyed):Prop:=r.toList.Perm (a.toList++b.toList)/\Srt r.toList
structure SG (st st':SortSt):Prop where
 k:kindOf st'=kindOf st
 a:arrOf st'=arrOf st
 p:pendingOf st'=pendingOf st
 f:failedOf st'=failedOf st
def SG.refl(st:SortSt):SG st st:=⟨rfl,rfl,rfl,rfl⟩
def SG.gal(h:SG st st')(g:Nat):SG st (jFO st' g):=⟨h.k,h.a,h.p,h.f⟩
abbrev MA(a b out:Array Keyed)(ia ib:Nat):Prop:=ML a.toList b.toList out.toList ia ib
variable {a b:Array Keyed}{i j:Nat}
section
variable {out:Array Keyed}{k:Nat}
def at_list:a[i]?=some p↔a.toList[i]?=some p:=by rw[bV]
def qW(h:i<a.size):∃p,a[i]?=some p/\a.toList[i]?=some p:=⟨a[i],by simp[h],by simp[h]⟩
def MA.doneA(T:Two a b)(h:MA a b out i j)(hj:b.size<=j):qA a b (out++a.extract i a.size++b.extract j b.size):=by
 unfold qA
 rw[bu,bu,jCK,jCK]
 exact ML.outA h T.sa (by rw[aM];exact hj)
def MA.doneB(T:Two a b)(h:MA a b out i j)(hi:a.size<=i):qA a b (out++a.extract i a.size++b.extract j b.size):=by
 unfold qA
 rw[bu,bu,jCK,jCK]
 exact ML.outB h T.sb (by rw[aM];exact hi)
theorem MA.doneL(T:Two a b)(h:MA a b out i j)(hi:i+1=a.size):qA a b (out++b.extract j b.size++a.extract i a.size):=by
 unfold qA
 rw[bu,bu,jCK,jCK]
 refine ML.last h T.sa T.sb λx hx y hy=>?_
 obtain⟨n,h1,h2⟩:=jD6 hy
 have:n=a.size-1:=by
  have:=(aF.mp h2).1
  rw[aM] at this
  lia
 subst this
 exact cC (T.last x hx y h2)
def MA.pushB(T:Two a b)(h:MA a b out i j){p q:Keyed}(hp:b[j]?=some p)(hc:∀y∈a.toList.drop i,LE p y):MA a b (out.push p) i (j+1):=by
 have:=ML.takeB h T.sb 1 (by
  rw[jAC (at_list.mp hp)]
  intro x hx
  rw[aW.mp hx]
  exact hc)
 rw[jAC (at_list.mp hp)] at this
 unfold MA
 rw[dM]
 exact this
def MA.pushA(T:Two a b)(h:MA a b out i j){p q:Keyed}(hp:a[i]?=some p)(hc:∀y∈b.toList.drop j,LE p y):MA a b (out.push p) (i+1) j:=by
 have:=ML.takeA h T.sa 1 (by
  rw[jAC (at_list.mp hp)]
  intro x hx
  rw[aW.mp hx]
  exact hc)
 rw[jAC (at_list.mp hp)] at this
 unfold MA
 rw[dM]
 exact this
def MA.appA(T:Two a b)(h:MA a b out i j)(k:Nat)(hc:∀n x,i<=n->n<i+k->a.toList[n]?=some x->∀y∈b.toList.drop j,LE x y):MA a b (out++a.extract i (i+k)) (i+k) j:=by
 unfold MA
 rw[bu,ext_k]
 exact ML.takeA h T.sa k λx hx y hy=>by
  obtain⟨n,h1,h2,h3⟩:=jA6 hx
  exact hc n x h1 h2 h3 y hy
def MA.appB(T:Two a b)(h:MA a b out i j)(k:Nat)(hc:∀n x,j<=n->n<j+k->b.toList[n]?=some x->∀y∈a.toList.drop i,LE x y):MA a b (out++b.extract j (j+k)) i (j+k):=by
 unfold MA
 rw[bu,ext_k]
 exact ML.takeB h T.sb k λx hx y hy=>by
  obtain⟨n,h1,h2,h3⟩:=jA6 hx
  exact hc n x h1 h2 h3 y hy
def Two.atA(T:Two a b)(h:i<a.size):∃p,a[i]?=some p/\IsI p:=by
 obtain⟨p,h1,h2⟩:=qW h
 exact⟨p,h1,T.ia p (aH h2)⟩
def Two.atB(T:Two a b)(h:i<b.size):∃p,b[i]?=some p/\IsI p:=by
 obtain⟨p,h1,h2⟩:=qW h
 exact⟨p,h1,T.ib p (aH h2)⟩
def jEW(s:Srt a.toList)(hp:a[i]?=some p)(h:LE q p):∀y∈a.toList.drop i,LE q y:=λy hy=>by
 obtain⟨n,h1,h2⟩:=jD6 hy
 exact dq h (jE0 s (at_list.mp hp) h2 h1)
end
section
variable {prog:Program}{w:World}{A:Around}{E:Value->Shared->Prop}{s:Shared} [LtOk prog w A s]
theorem jRO(hk:kindOf st=Od.kd)(hp:IsI p)(ha:AllI a.toList)(sa:Srt a.toList)(hi:i<a.size)
  (h:∀k,i+k<=a.size->(∀n x,i<=n->n<i+k->a.toList[n]?=some x->LE x p)->(∀n x,i+k<=n->a.toList[n]?=some x->key p<key x)->Q (some k) st):
  wpS (model prog w) A E s (jBM false p a i (a.size-i) 0) Q st:=by
 refine jB4 hk hp (λn hn=>?_) (by lia) (λn=>match a[i+n]? with|some x=>!decide (key p<key x)|none=>false) (λn x hn hx=>?_) (λn m hnm hm hb=>?_) λk hk1 hk2 hk3=>h k (by lia) (λn x h1 h2 h3=>?_) λn x h1 h2=>?_
 .obtain⟨q,q1,q2⟩:=qW (a:=a) (i:=i+n) (by lia)
  exact⟨q,q1,ha q (aH q2)⟩
 .rw[hx,aj aq]
 .obtain⟨x,x1,x2⟩:=qW (a:=a) (i:=i+n) (by lia)
  obtain⟨y,y1,y2⟩:=qW (a:=a) (i:=i+m) (by lia)
  rw[y1] at hb
  rw[x1]
  have:=jE0 sa x2 y2 (by lia)
  have hb:¬key p<key y:=by simpa using hb
  show (!decide (key p<key x))=true
  rw[io,fq]
  have:key x<=key y:=this
  lia
 .have:=hk2 (n-i) (by lia)
  rw[show i+(n-i)=n by lia,at_list.mpr h3] at this
  have this:¬key p<key x:=by simpa using this
  show key x<=key p
  lia
 .have hn:=(aF.mp h2).1
  rw[aM] at hn
  have:=hk3 (n-i) (by lia) (by lia)
  rw[show i+(n-i)=n by lia,at_list.mpr h2] at this
  simpa using this
theorem jRP(hk:kindOf st=Od.kd)(hp:IsI p)(ha:AllI a.toList)(sa:Srt a.toList)(hi:i<a.size)
  (h:∀k,i+k<=a.size->(∀n x,i<=n->n<i+k->a.toList[n]?=some x->key x<key p)->(∀n x,i+k<=n->a.toList[n]?=some x->LE p x)->Q (some k) st):
  wpS (model prog w) A E s (jBM true p a i (a.size-i) 0) Q st:=by
 refine jB4 hk hp (λn hn=>?_) (by lia) (λn=>match a[i+n]? with|some x=>decide (key x<key p)|none=>false) (λn x hn hx=>?_) (λn m hnm hm hb=>?_) λk hk1 hk2 hk3=>h k (by lia) (λn x h1 h2 h3=>?_) λn x h1 h2=>?_
 .obtain⟨q,q1,q2⟩:=qW (a:=a) (i:=i+n) (by lia)
  exact⟨q,q1,ha q (aH q2)⟩
 .rw[hx,ai rfl]
 .obtain⟨x,x1,x2⟩:=qW (a:=a) (i:=i+n) (by lia)
  obtain⟨y,y1,y2⟩:=qW (a:=a) (i:=i+m) (by lia)
  rw[y1] at hb
  rw[x1]
  have:=jE0 sa x2 y2 (by lia)
  have hb:key y<key p:=aG hb
  show decide (key x<key p)=true
  rw[fj]
  have:key x<=key y:=this
  lia
 .have:=hk2 (n-i) (by lia)
  rw[show i+(n-i)=n by lia,at_list.mpr h3] at this
  exact aG this
 .have hn:=(aF.mp h2).1
  rw[aM] at hn
  have:=hk3 (n-i) (by lia) (by lia)
  rw[show i+(n-i)=n by lia,at_list.mpr h2] at this
  have this:¬key x<key p:=eg this
  show key p<=key x
  lia
end
section
variable {prog:Program}{w:World}{A:Around}{E:Value->Shared->Prop}{s:Shared} [LtOk prog w A s]
def bp{a b:Nat}(h:a=b):(a==b)=true:=beq_iff_eq.mpr h
def bn{a b:Nat}(h:¬a=b):¬(a==b)=true:=λz=>h (beq_iff_eq.mp z)
structure LoI (a b:Array Keyed)(st:SortSt)(out:Array Keyed)(ia ib:Nat)(st':SortSt):Prop where
 m:MA a b out ia ib
 i:ia+1<a.size
 j:ib<b.size
 s:SG st st'
theorem jGQ{Q:Array Keyed->SortSt->Prop}(hk:kindOf st=Od.kd)(T:Two a b)(h:∀r st',qA a b r->SG st st'->Q r st'):wpS (model prog w) A E s (jEU a b) Q st:=by
 rw[mergeLoB.2]
 delta mergeLoB
 dsimp only
 simp only[elP,ltP,jHN,jKK]
 have na:=T.na
 have nb:=T.nb
 refine aJ (iJ (cL ⟨rfl,?_⟩))
 obtain⟨p0,hp0,ip0⟩:=T.atB nb
 refine aJ (kE hp0 ?_)
 have M0:MA a b #[p0] 0 1:=by
  have z:MA a b #[] 0 0:=⟨by show (([]:List Keyed)++(a.toList.drop 0++b.toList.drop 0)).Perm _;rw[i6,jn,jn],List.Pairwise.nil,λx hx=>by cases hx⟩
  have:=MA.pushB (q:=p0) T z hp0 λy hy=>cC (T.first y (cw hy) p0 (at_list.mp hp0))
  exact this
 by_cases e1:1=b.size
 .rw[ai (bp e1)]
  exact aL (h _ _ (MA.doneA T M0 (by lia)) (SG.refl _))
 rw[aj (bn e1)]
 by_cases e2:0+1=a.size
 .rw[ai (bp e2)]
  exact aL (h _ _ (MA.doneL T M0 e2) (SG.refl _))
 rw[aj (bn e2)]
 refine aJ (gL ?_)
 refine aJ (db (bZ (I:=λx c st'=>∃out ia ib mg,c=(none,out,ia,ib,mg)/\LoI a b st out ia ib st'/\x+1<=ia+ib)
  (Q:=λc st'=>∃r,c.1=some r/\qA a b r/\SG st st') ?step ?fin ⟨_,0,1,_,rfl,⟨M0,by lia,by lia,SG.refl _⟩,by lia⟩) ?post)
 case post=>
  rintro ⟨r0,c⟩ st' ⟨r,hr,d,g⟩
  have hr:r0=some r:=hr
  subst hr
  exact aL (h r st' d g)
 case fin=>
  rintro c st' ⟨out,ia,ib,mg,rfl,I0,hx⟩
  have:=I0.i
  have:=I0.j
  lia
 case step=>
  rintro x c st1 _ hx ⟨out,ia,ib,mg,rfl,I0,hxx⟩
  dsimp only
  refine aJ (db (bZ (I:=λy c st'=>∃out' ia' ib' ac bc,c=(none,out',ia',ib',ac,bc)/\LoI a b st out' ia' ib' st'/\ia+ib<=ia'+ib'/\(y=0\/ia+ib<ia'+ib'))
   (Q:=λc st'=>(∃r,c.1=some r/\qA a b r/\SG st st')\/∃out' ia' ib' ac bc,c=(none,out',ia',ib',ac,bc)/\LoI a b st out' ia' ib' st'/\ia+ib<ia'+ib') ?step1 ?fin1 ⟨_,_,_,_,_,rfl,I0,by lia,.inl rfl⟩) ?post1)
  case fin1=>
   rintro c st' ⟨out',ia',ib',ac,bc,rfl,I1,h1,h2⟩
   exact .inr ⟨_,_,_,_,_,rfl,I1,by lia⟩
  case step1=>
   rintro y c st2 _ hy ⟨out',ia',ib',ac,bc,rfl,I1,h1,h2⟩
   dsimp only
   obtain⟨pb,hpb,ipb⟩:=T.atB I1.j
   obtain⟨pa,hpa,ipa⟩:=T.atA (i:=ia') (by have:=I1.i;lia)
   have ii:=I1.i
   have jj:=I1.j
   refine aJ (kE hpb (aJ (kE hpa (aJ (jFD (I1.s.k.trans hk) ipb ipa ?_)))))
   dsimp only
   by_cases hlt:key pb<key pa
   .rw[ax hlt,ai rfl]
    refine aJ (kE hpb ?_)
    have M2:=MA.pushB (q:=pb) T I1.m hpb (jEW T.sa hpa (cC hlt))
    by_cases f1:ib'+1=b.size
    .rw[ai (bp f1)]
     exact aL (.inl ⟨_,rfl,MA.doneA T M2 (by lia),I1.s⟩)
    rw[aj (bn f1)]
    split
    .exact aL (.inr ⟨_,_,_,_,_,rfl,⟨M2,ii,by lia,I1.s⟩,by lia⟩)
    .exact aL ⟨_,_,_,_,_,rfl,⟨M2,ii,by lia,I1.s⟩,by lia,.inr (by lia)⟩
   .rw[aN hlt,aj aq]
    refine aJ (kE hpa ?_)
    have M2:=MA.pushA (q:=pa) T I1.m hpa (jEW T.sb hpb (by show key pa<=key pb;lia))
    by_cases f1:ia'+1+1=a.size
    .rw[ai (bp f1)]
     exact aL (.inl ⟨_,rfl,MA.doneL T M2 f1,I1.s⟩)
    rw[aj (bn f1)]
    split
    .exact aL (.inr ⟨_,_,_,_,_,rfl,⟨M2,by lia,jj,I1.s⟩,by lia⟩)
    .exact aL ⟨_,_,_,_,_,rfl,⟨M2,by lia,jj,I1.s⟩,by lia,.inr (by lia)⟩
  case post1=>
   rintro c st2 (⟨r,hr,d,g⟩|⟨out1,ia1,ib1,ac,bc,rfl,I1,h1⟩)
   .obtain⟨r0,c⟩:=c
    have hr:r0=some r:=hr
    subst hr
    exact aL ⟨r,rfl,d,g⟩
   dsimp only
   refine aJ (iJ (cL ⟨rfl,?_⟩))
   refine aJ (db (bZ (I:=λy c st'=>∃out' ia' ib' mg' ac bc,c=(none,out',ia',ib',mg',ac,bc)/\LoI a b st out' ia' ib' st'/\ia+ib<ia'+ib')
    (Q:=λc st'=>(∃r,c.1=some r/\qA a b r/\SG st st')\/∃out' ia' ib' mg' ac bc,c=(none,out',ia',ib',mg',ac,bc)/\LoI a b st out' ia' ib' st'/\ia+ib<ia'+ib') ?step2 ?fin2 ⟨_,_,_,_,_,_,rfl,I1,h1⟩) ?post2)
   case fin2=>
    rintro c st' ⟨out',ia',ib',mg',ac,bc,rfl,I2,h2⟩
    exact .inr ⟨_,_,_,_,_,_,rfl,I2,h2⟩
   case post2=>
    rintro c st3 (⟨r,hr,d,g⟩|⟨out2,ia2,ib2,mg2,ac,bc,rfl,I2,h2⟩)
    .obtain⟨r0,c⟩:=c
     have hr:r0=some r:=hr
     subst hr
     exact aL ⟨r,rfl,d,g⟩
    dsimp only
    rw[jA3]
    exact aJ (eh (aL ⟨_,_,_,_,rfl,⟨I2.m,I2.i,I2.j,I2.s.gal _⟩,by lia⟩))
   case step2=>
    clear I0 I1
    rintro y c st2 _ hy ⟨out,ia,ib,mg',ac,bc,rfl,I0,h2⟩
    dsimp only
    obtain⟨pb,hpb,ipb⟩:=T.atB I0.j
    by_cases hg:mg'>1
    case' pos=>
     rw[ai hg]
     generalize hgg:mg'-1=gg
    case' neg=>
     rw[aj hg]
     generalize hgg:mg'=gg
    all_goals
     rw[jA3]
     refine aJ (eh ?_)
     have G1:=I0.s.gal gg
     refine aJ (kE hpb ?_)
     refine aJ (jRO (G1.k.trans hk) ipb T.ia T.sa (by have:=I0.i;lia) λk1 g1 g2 g3=>?_)
     dsimp only
     have M1:=MA.appA T I0.m k1 (λn x h1 h2 h3=>jEW T.sb hpb (g2 n x h1 h2 h3))
     have hgt:∀y∈a.toList.drop (ia+k1),LE pb y:=λy hy=>by
      obtain⟨n,h1,h2⟩:=jD6 hy
      exact cC (g3 n y h1 h2)
     have jb:=I0.j
     by_cases e0:k1>0
     case' pos=>
      rw[ai e0]
      by_cases f1:ia+k1+1=a.size
      .rw[ai (bp f1)]
       exact aL (.inl ⟨_,rfl,MA.doneL T M1 f1,G1⟩)
      rw[aj (bn f1)]
      by_cases f2:ia+k1=a.size
      .rw[ai (bp f2)]
       exact aL (.inl ⟨_,rfl,MA.doneB T M1 (by lia),G1⟩)
      rw[aj (bn f2)]
      obtain⟨pa,hpa,ipa⟩:=T.atA (i:=ia+k1) (by lia)
      have hz:ia+k1<a.size:=by lia
      generalize hiz:ia+k1=iz at*
     case' neg=>
      rw[aj e0]
      have e0':k1=0:=by lia
      subst e0'
      have M1:=I0.m
      obtain⟨pa,hpa,ipa⟩:=T.atA (i:=ia) (by have:=I0.i;lia)
      have hz:ia<a.size:=by have:=I0.i;lia
      rw[km] at hgt
      have hia:=I0.i
      generalize hiz:ia=iz at*
     all_goals
      refine aJ (kE hpb ?_)
      have M2:=MA.pushB (q:=pb) T M1 hpb hgt
      by_cases e1:ib+1=b.size
      .rw[ai (bp e1)]
       exact aL (.inl ⟨_,rfl,MA.doneA T M2 (by lia),G1⟩)
      rw[aj (bn e1)]
      refine aJ (kE hpa ?_)
      refine aJ (jRP (G1.k.trans hk) ipa T.ib T.sb (by lia) λk2 l1 l2 l3=>?_)
      dsimp only
      have M3:=MA.appB T M2 k2 (λn x h1 h2 h3=>jEW T.sa hpa (cC (l2 n x h1 h2 h3)))
      have fin3:∀y∈b.toList.drop (ib+1+k2),LE pa y:=λy hy=>by
       obtain⟨n,h1,h2⟩:=jD6 hy
       exact l3 n y h1 h2
      by_cases e2:k2>0
      .rw[ai e2]
       by_cases e3:ib+1+k2=b.size
       .rw[ai (bp e3)]
        exact aL (.inl ⟨_,rfl,MA.doneA T M3 (by lia),G1⟩)
       rw[aj (bn e3)]
       refine aJ (kE hpa ?_)
       have M4:=MA.pushA (q:=pa) T M3 hpa fin3
       by_cases e4:iz+1+1=a.size
       .rw[ai (bp e4)]
        exact aL (.inl ⟨_,rfl,MA.doneL T M4 e4,G1⟩)
       rw[aj (bn e4)]
       split
       .exact aL (.inr ⟨_,_,_,_,_,_,rfl,⟨M4,by lia,by lia,G1⟩,by lia⟩)
       .exact aL ⟨_,_,_,_,_,_,rfl,⟨M4,by lia,by lia,G1⟩,by lia⟩
      .rw[aj e2]
       have e0:k2=0:=by lia
       subst e0
       refine aJ (kE hpa ?_)
       have M4:=MA.pushA (q:=pa) T M2 hpa fin3
       by_cases e4:iz+1+1=a.size
       .rw[ai (bp e4)]
        exact aL (.inl ⟨_,rfl,MA.doneL T M4 e4,G1⟩)
       rw[aj (bn e4)]
       split
       .exact aL (.inr ⟨_,_,_,_,_,_,rfl,⟨M4,by lia,by lia,G1⟩,by lia⟩)
       .exact aL ⟨_,_,_,_,_,_,rfl,⟨M4,by lia,by lia,G1⟩,by lia⟩
end
structure MHL (tot xa xb o:List Keyed):Prop where
 perm:(xa++xb++o).Perm tot
 srt:Srt o
 le:∀x∈o,∀y∈xa++xb,LE y x
def MHL.takeA(h:MHL tot (u++v) xb o)(s:Srt (u++v))(hc:∀x∈v,∀y∈xb,LE y x):MHL tot u xb (v++o):=by
 have sp:=bP.mp s
 refine⟨?_,qF sp.2.1 h.srt λx hx y hy=>h.le y hy x (aE _ (am _ hx)),λx hx y hy=>?_⟩
 .refine List.Perm.trans ?_ h.perm
  rw[be,be,be]
  refine cX u ?_
  rw[<- be,<- be]
  exact fJ o dG
 .rcases az.mp hx with q|q
  .rcases az.mp hy with z|z
   .exact sp.2.2 y z x q
   .exact hc x q y z
  .refine h.le x q y ?_
   rcases az.mp hy with z|z
   .exact aE _ (aE _ z)
   .exact am _ z
def MHL.takeB(h:MHL tot xa (u++v) o)(s:Srt (u++v))(hc:∀x∈v,∀y∈xa,LE y x):MHL tot xa u (v++o):=by
 have sp:=bP.mp s
 refine⟨?_,qF sp.2.1 h.srt λx hx y hy=>h.le y hy x (am _ (am _ hx)),λx hx y hy=>?_⟩
 .refine List.Perm.trans (i9 ?_) h.perm
  simp only[be]
 .rcases az.mp hx with q|q
  .rcases az.mp hy with z|z
   .exact hc x q y z
   .exact sp.2.2 y z x q
  .refine h.le x q y ?_
   rcases az.mp hy with z|z
   .exact aE _ z
   .exact am _ (aE _ z)
def MHL.out{tot xa xb o:List Keyed}(h:MHL tot xa xb o)(s:Srt (xa++xb)):(xa++xb++o).Perm tot/\Srt (xa++xb++o):=
 ⟨h.perm,qF s h.srt λx hx y hy=>h.le y hy x hx⟩
def MHL.outF(h:MHL tot xa xb o)(s:Srt (xb++xa)):(xb++xa++o).Perm tot/\Srt (xb++xa++o):=
 ⟨(fJ o dG).trans h.perm,qF s h.srt λx hx y hy=>h.le y hy x (by
  rcases az.mp hx with z|z
  .exact am _ z
  .exact aE _ z)⟩
theorem jI2(hn:0<n)(h:l[n-1]?=some p):l.take n=l.take (n-1)++[p]:=by
 obtain⟨m,rfl⟩:∃m,n=m+1:=⟨n-1,by lia⟩
 rw[Nat.add_sub_cancel] at h ⊢
 rw[List.take_succ,h]
 rfl
theorem jI1{l:List Keyed}{k n:Nat}(hk:k<=n):l.take n=l.take k++(l.drop k).take (n-k):=by
 obtain⟨m,rfl⟩:∃m,n=k+m:=⟨n-k,by lia⟩
 rw[cr,List.take_add]
def jAR{k:Nat}:(a.extract k n).toList=(a.toList.drop k).take (n-k):=by
 rw[eR,dH]
def jB6:(a.extract 0 n).toList=a.toList.take n:=by
 rw[jAR,jn,kn]
abbrev MH(a b out:Array Keyed)(na nb:Nat):Prop:=MHL (a.toList++b.toList) (a.toList.take na) (b.toList.take nb) out.toList.reverse
theorem jD5(h:y∈l.take n):∃j,j<n/\l[j]?=some y:=by
 obtain⟨k,hk⟩:=cg h
 have hlt:k<n:=by
  have:=(aF.mp hk).1
  rw[aZ] at this
  lia
 rw[cY hlt] at hk
 exact⟨k,hlt,hk⟩
section
variable {out:Array Keyed}{k:Nat}
theorem jD0(s:Srt a.toList)(hp:a[i-1]?=some p)(h:LE p q):∀y∈a.toList.take i,LE y q:=λy hy=>by
 obtain⟨n,h1,h2⟩:=jD5 hy
 exact dq (jE0 s h2 (at_list.mp hp) (by lia)) h
def MH.pushA(T:Two a b)(h:MH a b out i j){p:Keyed}(hi:0<i)(hp:a[i-1]?=some p)(hc:∀y∈b.toList.take j,LE y p):MH a b (out.push p) (i-1) j:=by
 have e:=jI2 hi (at_list.mp hp)
 have s:=T.sa.take i
 unfold MH at h ⊢
 rw[e] at h s
 rw[dM,eX]
 exact h.takeA s λx hx=>by rw[aW.mp hx];exact hc
def MH.pushB(T:Two a b)(h:MH a b out i j){p:Keyed}(hj:0<j)(hp:b[j-1]?=some p)(hc:∀y∈a.toList.take i,LE y p):MH a b (out.push p) i (j-1):=by
 have e:=jI2 hj (at_list.mp hp)
 have s:=T.sb.take j
 unfold MH at h ⊢
 rw[e] at h s
 rw[dM,eX]
 exact h.takeB s λx hx=>by rw[aW.mp hx];exact hc
theorem MH.appA(T:Two a b)(h:MH a b out i j)(hk:k<=i)(hc:∀n x,k<=n->n<i->a.toList[n]?=some x->∀y∈b.toList.take j,LE y x):MH a b (out++(a.extract k i).reverse) k j:=by
 have e:=jI1 (l:=a.toList) hk
 have s:=T.sa.take i
 unfold MH at h ⊢
 rw[e] at h s
 rw[bu,dP,eX,jo,jAR]
 exact h.takeA s λx hx y hy=>by
  obtain⟨n,h1,h2,h3⟩:=jA6 hx
  exact hc n x h1 (by lia) h3 y hy
theorem MH.appB(T:Two a b)(h:MH a b out i j)(hk:k<=j)(hc:∀n x,k<=n->n<j->b.toList[n]?=some x->∀y∈a.toList.take i,LE y x):MH a b (out++(b.extract k j).reverse) i k:=by
 have e:=jI1 (l:=b.toList) hk
 have s:=T.sb.take j
 unfold MH at h ⊢
 rw[e] at h s
 rw[bu,dP,eX,jo,jAR]
 exact h.takeB s λx hx y hy=>by
  obtain⟨n,h1,h2,h3⟩:=jA6 hx
  exact hc n x h1 (by lia) h3 y hy
def MH.doneA(T:Two a b)(h:MH a b out 0 j):qA a b (a.extract 0 0++b.extract 0 j++out.reverse):=by
 unfold qA
 rw[bu,bu,jB6,jB6,dP]
 exact h.out (by rw[List.take_zero];exact T.sb.take j)
def MH.doneB(T:Two a b)(h:MH a b out i 0):qA a b (a.extract 0 i++b.extract 0 0++out.reverse):=by
 unfold qA
 rw[bu,bu,jB6,jB6,dP]
 exact h.out (by rw[List.take_zero,bS];exact T.sa.take i)
theorem MH.doneF(T:Two a b)(h:MH a b out i 1):qA a b (b.extract 0 1++a.extract 0 i++out.reverse):=by
 unfold qA
 rw[bu,bu,jB6,jB6,dP]
 refine h.outF (qF (T.sb.take 1) (T.sa.take i) λx hx y hy=>?_)
 obtain⟨n,h1,h2⟩:=jD5 hx
 have:n=0:=by lia
 subst this
 exact cC (T.first y (de hy) x h2)
end
section
variable {prog:Program}{w:World}{A:Around}{E:Value->Shared->Prop}{s:Shared} [LtOk prog w A s]
theorem jIT{len:Nat}(hk:kindOf st=Od.kd)(hp:IsI p)(ha:AllI a.toList)
  (sa:∀n m x y,i<=n->n<=m->m<i+len->a[n]?=some x->a[m]?=some y->LE x y) (hh:hint<len) (hl:i+len<=a.size)
  (h:∀k,k<=len->(∀n x,i<=n->n<i+k->a[n]?=some x->LE x p)->(∀n x,i+k<=n->n<i+len->a[n]?=some x->key p<key x)->Q (some k) st):
  wpS (model prog w) A E s (jBM false p a i len hint) Q st:=by
 refine jB4 hk hp (λn hn=>?_) hh (λn=>match a[i+n]? with|some x=>!decide (key p<key x)|none=>false) (λn x hn hx=>?_) (λn m hnm hm hb=>?_) λk hk1 hk2 hk3=>h k (by lia) (λn x h1 h2 h3=>?_) λn x h1 h2 h3=>?_
 .obtain⟨q,q1,q2⟩:=qW (a:=a) (i:=i+n) (by lia)
  exact⟨q,q1,ha q (aH q2)⟩
 .rw[hx,aj aq]
 .obtain⟨x,x1,x2⟩:=qW (a:=a) (i:=i+n) (by lia)
  obtain⟨y,y1,y2⟩:=qW (a:=a) (i:=i+m) (by lia)
  rw[y1] at hb
  rw[x1]
  have:=sa (i+n) (i+m) x y (by lia) (by lia) (by lia) x1 y1
  have hb:¬key p<key y:=by simpa using hb
  show (!decide (key p<key x))=true
  rw[io,fq]
  have:key x<=key y:=this
  lia
 .have:=hk2 (n-i) (by lia)
  rw[show i+(n-i)=n by lia,h3] at this
  have this:¬key p<key x:=by simpa using this
  show key x<=key p
  lia
 .have:=hk3 (n-i) (by lia) (by lia)
  rw[show i+(n-i)=n by lia,h3] at this
  simpa using this
theorem jIU{len:Nat}(hk:kindOf st=Od.kd)(hp:IsI p)(ha:AllI a.toList)
  (sa:∀n m x y,i<=n->n<=m->m<i+len->a[n]?=some x->a[m]?=some y->LE x y) (hh:hint<len) (hl:i+len<=a.size)
  (h:∀k,k<=len->(∀n x,i<=n->n<i+k->a[n]?=some x->key x<key p)->(∀n x,i+k<=n->n<i+len->a[n]?=some x->LE p x)->Q (some k) st):
  wpS (model prog w) A E s (jBM true p a i len hint) Q st:=by
 refine jB4 hk hp (λn hn=>?_) hh (λn=>match a[i+n]? with|some x=>decide (key x<key p)|none=>false) (λn x hn hx=>?_) (λn m hnm hm hb=>?_) λk hk1 hk2 hk3=>h k (by lia) (λn x h1 h2 h3=>?_) λn x h1 h2 h3=>?_
 .obtain⟨q,q1,q2⟩:=qW (a:=a) (i:=i+n) (by lia)
  exact⟨q,q1,ha q (aH q2)⟩
 .rw[hx,ai rfl]
 .obtain⟨x,x1,x2⟩:=qW (a:=a) (i:=i+n) (by lia)
  obtain⟨y,y1,y2⟩:=qW (a:=a) (i:=i+m) (by lia)
  rw[y1] at hb
  rw[x1]
  have:=sa (i+n) (i+m) x y (by lia) (by lia) (by lia) x1 y1
  have hb:key y<key p:=aG hb
  show decide (key x<key p)=true
  rw[fj]
  have:key x<=key y:=this
  lia
 .have:=hk2 (n-i) (by lia)
  rw[show i+(n-i)=n by lia,h3] at this
  exact aG this
 .have:=hk3 (n-i) (by lia) (by lia)
  rw[show i+(n-i)=n by lia,h3] at this
  have this:¬key x<key p:=eg this
  show key p<=key x
  lia
end
section
variable {prog:Program}{w:World}{A:Around}{E:Value->Shared->Prop}{s:Shared} [LtOk prog w A s]
structure HiI (a b:Array Keyed)(st:SortSt)(out:Array Keyed)(na nb:Nat)(st':SortSt):Prop where
 m:MH a b out na nb
 i:0<na
 ia:na<=a.size
 j:1<nb
 jb:nb<=b.size
 s:SG st st'
def whole(s:Srt a.toList){len:Nat}:∀n m x y,0<=n->n<=m->m<0+len->a[n]?=some x->a[m]?=some y->LE x y:=λn m x y _ h _ hx hy=>jE0 s (at_list.mp hx) (at_list.mp hy) h
theorem jGR{Q:Array Keyed->SortSt->Prop}(hk:kindOf st=Od.kd)(T:Two a b)(h:∀r st',qA a b r->SG st st'->Q r st'):wpS (model prog w) A E s (jEV a b) Q st:=by
 rw[mergeHiB.2]
 delta mergeHiB
 dsimp only
 simp only[elP,ltP,jHN,jKK]
 have na:=T.na
 have nb:=T.nb
 refine aJ (iJ (cL ⟨rfl,?_⟩))
 obtain⟨p0,hp0,ip0⟩:=T.atA (i:=a.size-1) (by lia)
 refine aJ (kE hp0 ?_)
 have M0:MH a b #[p0] (a.size-1) b.size:=by
  have z:MH a b #[] a.size b.size:=⟨by
   rw[show a.toList.take a.size=a.toList from bf (by simp),show b.toList.take b.size=b.toList from bf (by simp)]
   show ((a.toList++b.toList)++([]:List Keyed)).Perm _
   rw[bS],List.Pairwise.nil,λx hx=>by cases hx⟩
  have:=MH.pushA T z (by lia) hp0 λy hy=>cC (T.last y (de hy) p0 (at_list.mp hp0))
  exact this
 by_cases e1:a.size-1=0
 .rw[ai (bp e1)]
  rw[e1] at M0 ⊢
  exact aL (h _ _ (MH.doneA T M0) (SG.refl _))
 rw[aj (bn e1)]
 by_cases e2:b.size=1
 .rw[ai (bp e2)]
  rw[e2] at M0 ⊢
  exact aL (h _ _ (MH.doneF T M0) (SG.refl _))
 rw[aj (bn e2)]
 refine aJ (gL ?_)
 refine aJ (db (bZ (I:=λx c st'=>∃out na nb mg,c=(none,na,nb,out,mg)/\HiI a b st out na nb st'/\x+1<=a.size-na+(b.size-nb))
  (Q:=λc st'=>∃r,c.1=some r/\qA a b r/\SG st st') ?step ?fin ⟨_,_,_,_,rfl,⟨M0,by lia,by lia,by lia,by lia,SG.refl _⟩,by lia⟩) ?post)
 case post=>
  rintro ⟨r0,c⟩ st' ⟨r,hr,d,g⟩
  have hr:r0=some r:=hr
  subst hr
  exact aL (h r st' d g)
 case fin=>
  rintro c st' ⟨out,na,nb,mg,rfl,I0,hx⟩
  have:=I0.i
  have:=I0.j
  lia
 case step=>
  rintro x c st1 _ hx ⟨out,na,nb,mg,rfl,I0,hxx⟩
  dsimp only
  refine aJ (db (bZ (I:=λy c st'=>∃out' na' nb' ac bc,c=(none,na',nb',out',ac,bc)/\HiI a b st out' na' nb' st'/\na'+nb'<=na+nb/\(y=0\/na'+nb'<na+nb))
   (Q:=λc st'=>(∃r,c.1=some r/\qA a b r/\SG st st')\/∃out' na' nb' ac bc,c=(none,na',nb',out',ac,bc)/\HiI a b st out' na' nb' st'/\na'+nb'<na+nb) ?step1 ?fin1 ⟨_,_,_,_,_,rfl,I0,by lia,.inl rfl⟩) ?post1)
  case fin1=>
   rintro c st' ⟨out',na',nb',ac,bc,rfl,I1,h1,h2⟩
   exact .inr ⟨_,_,_,_,_,rfl,I1,by lia⟩
  case step1=>
   rintro y c st2 _ hy ⟨out',na',nb',ac,bc,rfl,I1,h1,h2⟩
   dsimp only
   have i0:=I1.i
   have i1:=I1.ia
   have j0:=I1.j
   have j1:=I1.jb
   obtain⟨pb,hpb,ipb⟩:=T.atB (i:=nb'-1) (by lia)
   obtain⟨pa,hpa,ipa⟩:=T.atA (i:=na'-1) (by lia)
   refine aJ (kE hpb (aJ (kE hpa (aJ (jFD (I1.s.k.trans hk) ipb ipa ?_)))))
   dsimp only
   by_cases hlt:key pb<key pa
   .rw[ax hlt,ai rfl]
    refine aJ (kE hpa ?_)
    have M2:=MH.pushA T I1.m i0 hpa (jD0 T.sb hpb (cC hlt))
    by_cases f1:na'-1=0
    .rw[ai (bp f1)]
     rw[f1] at M2 ⊢
     exact aL (.inl ⟨_,rfl,MH.doneA T M2,I1.s⟩)
    rw[aj (bn f1)]
    split
    .exact aL (.inr ⟨_,_,_,_,_,rfl,⟨M2,by lia,by lia,j0,j1,I1.s⟩,by lia⟩)
    .exact aL ⟨_,_,_,_,_,rfl,⟨M2,by lia,by lia,j0,j1,I1.s⟩,by lia,.inr (by lia)⟩
   .rw[aN hlt,aj aq]
    refine aJ (kE hpb ?_)
    have M2:=MH.pushB T I1.m (by lia) hpb (jD0 T.sa hpa (by show key pa<=key pb;lia))
    by_cases f1:nb'-1=1
    .rw[ai (bp f1)]
     rw[f1] at M2 ⊢
     exact aL (.inl ⟨_,rfl,MH.doneF T M2,I1.s⟩)
    rw[aj (bn f1)]
    split
    .exact aL (.inr ⟨_,_,_,_,_,rfl,⟨M2,i0,i1,by lia,by lia,I1.s⟩,by lia⟩)
    .exact aL ⟨_,_,_,_,_,rfl,⟨M2,i0,i1,by lia,by lia,I1.s⟩,by lia,.inr (by lia)⟩
  case post1=>
   rintro c st2 (⟨r,hr,d,g⟩|⟨out1,na1,nb1,ac,bc,rfl,I1,h1⟩)
   .obtain⟨r0,c⟩:=c
    have hr:r0=some r:=hr
    subst hr
    exact aL ⟨r,rfl,d,g⟩
   dsimp only
   refine aJ (iJ (cL ⟨rfl,?_⟩))
   refine aJ (db (bZ (I:=λy c st'=>∃out' na' nb' mg' ac bc,c=(none,na',nb',out',mg',ac,bc)/\HiI a b st out' na' nb' st'/\na'+nb'<na+nb)
    (Q:=λc st'=>(∃r,c.1=some r/\qA a b r/\SG st st')\/∃out' na' nb' mg' ac bc,c=(none,na',nb',out',mg',ac,bc)/\HiI a b st out' na' nb' st'/\na'+nb'<na+nb) ?step2 ?fin2 ⟨_,_,_,_,_,_,rfl,I1,h1⟩) ?post2)
   case fin2=>
    rintro c st' ⟨out',na',nb',mg',ac,bc,rfl,I2,h2⟩
    exact .inr ⟨_,_,_,_,_,_,rfl,I2,h2⟩
   case post2=>
    have q1:=I0.ia
    have q2:=I0.jb
    rintro c st3 (⟨r,hr,d,g⟩|⟨out2,na2,nb2,mg2,ac,bc,rfl,I2,h2⟩)
    .obtain⟨r0,c⟩:=c
     have hr:r0=some r:=hr
     subst hr
     exact aL ⟨r,rfl,d,g⟩
    dsimp only
    rw[jA3]
    have q3:=I2.ia
    have q4:=I2.jb
    exact aJ (eh (aL ⟨_,_,_,_,rfl,⟨I2.m,I2.i,I2.ia,I2.j,I2.jb,I2.s.gal _⟩,by lia⟩))
   case step2=>
    clear I0 I1
    rename_i na00 nb00
    generalize hbd:na+nb=bd
    clear hxx h1
    rintro y c st2 _ hy ⟨out,na,nb,mg',ac,bc,rfl,I0,h2⟩
    dsimp only
    obtain⟨pb,hpb,ipb⟩:=T.atB (i:=nb-1) (by have:=I0.j;have:=I0.jb;lia)
    by_cases hg:mg'>1
    case' pos=>
     rw[ai hg]
     generalize hgg:mg'-1=gg
    case' neg=>
     rw[aj hg]
     generalize hgg:mg'=gg
    all_goals
     rw[jA3]
     refine aJ (eh ?_)
     have G1:=I0.s.gal gg
     have na0:=I0.i
     have na1:=I0.ia
     have nb0:=I0.j
     have nb1:=I0.jb
     refine aJ (kE hpb ?_)
     refine aJ (jIT (G1.k.trans hk) ipb T.ia (whole T.sa) (by lia) (by lia) λk1 g1 g2 g3=>?_)
     dsimp only
     have M1:=MH.appA T I0.m g1 (λn x h1 h2 h3=>jD0 T.sb hpb (cC (g3 n x (by lia) (by lia) (at_list.mpr h3))))
     have hle:∀y∈a.toList.take k1,LE y pb:=λy hy=>by
      obtain⟨n,h1,h2⟩:=jD5 hy
      exact g2 n y (by lia) (by lia) (at_list.mpr h2)
     by_cases e0:na-k1>0
     case' pos=>
      rw[ai e0]
      by_cases f1:k1=0
      .rw[ai (bp f1)]
       rw[f1] at M1 ⊢
       exact aL (.inl ⟨_,rfl,MH.doneA T M1,G1⟩)
      rw[aj (bn f1)]
      obtain⟨pa,hpa,ipa⟩:=T.atA (i:=k1-1) (by lia)
      have hz:0<k1:=by lia
      generalize hiz:k1=iz at*
     case' neg=>
      rw[aj e0]
      have e0':k1=na:=by lia
      subst e0'
      have M1:=I0.m
      obtain⟨pa,hpa,ipa⟩:=T.atA (i:=k1-1) (by lia)
      have hz:0<k1:=by lia
      generalize hiz:k1=iz at*
     all_goals
      refine aJ (kE hpb ?_)
      have M2:=MH.pushB T M1 (by lia) hpb hle
      by_cases e1:nb-1=1
      .rw[ai (bp e1)]
       rw[e1] at M2 ⊢
       exact aL (.inl ⟨_,rfl,MH.doneF T M2,G1⟩)
      rw[aj (bn e1)]
      refine aJ (kE hpa ?_)
      refine aJ (jIU (G1.k.trans hk) ipa T.ib (whole T.sb) (by lia) (by lia) λk2 l1 l2 l3=>?_)
      dsimp only
      have M3:=MH.appB T M2 l1 (λn x h1 h2 h3=>jD0 T.sa hpa (l3 n x (by lia) (by lia) (at_list.mpr h3)))
      have fin3:∀y∈b.toList.take k2,LE y pa:=λy hy=>by
       obtain⟨n,h1,h2⟩:=jD5 hy
       exact cC (l2 n y (by lia) (by lia) (at_list.mpr h2))
      by_cases e2:nb-1-k2>0
      .rw[ai e2]
       by_cases e3:k2=1
       .rw[ai (bp e3)]
        rw[e3] at M3 ⊢
        exact aL (.inl ⟨_,rfl,MH.doneF T M3,G1⟩)
       rw[aj (bn e3)]
       by_cases e5:k2=0
       .rw[ai (bp e5)]
        rw[e5] at M3 ⊢
        exact aL (.inl ⟨_,rfl,MH.doneB T M3,G1⟩)
       rw[aj (bn e5)]
       refine aJ (kE hpa ?_)
       have M4:=MH.pushA T M3 hz hpa fin3
       by_cases e4:iz-1=0
       .rw[ai (bp e4)]
        rw[e4] at M4 ⊢
        exact aL (.inl ⟨_,rfl,MH.doneA T M4,G1⟩)
       rw[aj (bn e4)]
       split
       .exact aL (.inr ⟨_,_,_,_,_,_,rfl,⟨M4,by lia,by lia,by lia,by lia,G1⟩,by lia⟩)
       .exact aL ⟨_,_,_,_,_,_,rfl,⟨M4,by lia,by lia,by lia,by lia,G1⟩,by lia⟩
      .rw[aj e2]
       have e0:k2=nb-1:=by lia
       subst e0
       refine aJ (kE hpa ?_)
       have M4:=MH.pushA T M2 hz hpa fin3
       by_cases e4:iz-1=0
       .rw[ai (bp e4)]
        rw[e4] at M4 ⊢
        exact aL (.inl ⟨_,rfl,MH.doneA T M4,G1⟩)
       rw[aj (bn e4)]
       split
       .exact aL (.inr ⟨_,_,_,_,_,_,rfl,⟨M4,by lia,by lia,by lia,by lia,G1⟩,by lia⟩)
       .exact aL ⟨_,_,_,_,_,_,rfl,⟨M4,by lia,by lia,by lia,by lia,G1⟩,by lia⟩
end
def KI(xs:Array Keyed)(i:Nat):Int:=match xs[i]? with
 |some p=>key p
 |none=>0
def STo(xs:Array Keyed)(k:Nat):Prop:=∀i j,i<=j->j<k->KI xs i<=KI xs j
structure SB (a₀:Array Keyed)(st:SortSt):Prop where
 perm:(arrOf st).Perm a₀
 kind:kindOf st=Od.kd
 failed:failedOf st=none
 pend:pendingOf st=#[]
def SB.size(h:SB a₀ st):(arrOf st).size=a₀.size:=h.perm.size_eq
def jB8(h:xs[i]?=ys[j]?):KI xs i=KI ys j:=by unfold KI;rw[h]
def jN2{src d:Nat}(hs:src<xs.size)(hd:d<=src)(k:Nat):
  KI (bubble xs src d) k=if k=src-d then KI xs src else if src-d<k/\k<=src then KI xs (k-1) else KI xs k:=by
 have e:=getElem?_bubble hs d hd k
 by_cases h1:k=src-d
 .rw[ai h1] at e ⊢;exact jB8 e
 .rw[aj h1] at e ⊢
  by_cases h2:src-d<k/\k<=src
  .rw[ai h2] at e ⊢;exact jB8 e
  .rw[aj h2] at e ⊢;exact jB8 e
def jC7(hj:j<=xs.size)(k:Nat):
  KI (mirror xs i j ((j-i)/2)) k=if i<=k/\k<j then KI xs (i+j-1-k) else KI xs k:=by
 have e:=getElem?_mirror_all (i:=i) hj k
 by_cases h1:i<=k/\k<j
 .rw[ai h1] at e
  rw[ai h1]
  exact jB8 e
 .rw[aj h1] at e
  rw[aj h1]
  exact jB8 e
theorem jA1(hj:j<=xs.size)(heq:∀k,i<=k->k<j->KI xs k=KI xs (j-1))(k:Nat):
  KI (mirror xs i j ((j-i)/2)) k=KI xs k:=by
 rw[jC7 hj]
 split
 .rename_i h
  rw[heq _ (by lia) (by lia),heq k h.1 h.2]
 .rfl
def Up(xs:Array Keyed)(lo n:Nat):Prop:=∀i j,lo<=i->i<=j->j<lo+n->KI xs i<=KI xs j
def Dn(xs:Array Keyed)(lo n:Nat):Prop:=∀i j,lo<=i->i<=j->j<lo+n->KI xs j<=KI xs i
structure BB (a₀:Array Keyed)(p:Array (Nat×Nat×Nat))(F:Nat->Int)(lo:Nat)(st:SortSt):Prop where
 perm:(arrOf st).Perm a₀
 kind:kindOf st=Od.kd
 failed:failedOf st=none
 pend:pendingOf st=p
 low:∀k,k<lo->KI (arrOf st) k=F k
def jPI(hp:xs.Perm a₀)(h0:AllI a₀.toList)(hi:i<a₀.size):∃q,xs[i]?=some q/\IsI q/\key q=KI xs i:=by
 have hi':i<xs.size:=by rw[hp.size_eq];exact hi
 have hm:xs[i]∈a₀.toList:=(cM.mp hp).mem_iff.mp (by simp)
 have e:xs[i]?=some xs[i]:=ko _ i hi'
 exact⟨xs[i],e,h0 _ hm,by unfold KI;rw[e]⟩
section
variable {prog:Program}{w:World}{A:Around}{E:Value->Shared->Prop}{s:Shared} [LtOk prog w A s]{a₀:Array Keyed}{p:Array (Nat×Nat×Nat)}{F:Nat->Int}{lo:Nat}
def BB.sz(h:BB a₀ p F lo st):(arrOf st).size=a₀.size:=h.perm.size_eq
def BB.arr{st:SortSt}(h:BB a₀ p F lo st){xs:Array Keyed}(hp:xs.Perm (arrOf st))(hl:∀k,k<lo->KI xs k=KI (arrOf st) k):BB a₀ p F lo (setArr st xs):=
 ⟨hp.trans h.perm,h.kind,h.failed,h.pend,λk hk=>(hl k hk).trans (h.low k hk)⟩
theorem jC8{Q:Option Bool->SortSt->Prop}(hB:BB a₀ p F lo st)(h0:AllI a₀.toList)(hi:i<a₀.size)(hj:j<a₀.size)
  (h:Q (some (decide (KI (arrOf st) i<KI (arrOf st) j))) st):wpS (model prog w) A E s (ltAt' i j) Q st:=by
 obtain⟨x,e1,i1,k1⟩:=jPI hB.perm h0 hi
 obtain⟨y,e2,i2,k2⟩:=jPI hB.perm h0 hj
 rw[ltAt'_eq]
 refine aJ (gL ?_)
 show wpS _ _ _ _ (do let x <- elem' (arrOf st) i;let y <- elem' (arrOf st) j;lt' x y) Q st
 rw[elem'_eq,elem'_eq,e1,e2]
 refine aJ (aL (aJ (aL (jFD hB.kind i1 i2 ?_))))
 rw[k1,k2]
 exact h
theorem Up.one:Up xs lo 1:=λi j h1 h2 h3=>by
 have:i=j:=by lia
 rw[this]
 exact ed _
theorem Dn.one:Dn xs lo 1:=λi j h1 h2 h3=>by
 have:i=j:=by lia
 rw[this]
 exact ed _
theorem Up.more(h:Up xs lo n)(hn:0<n)(hc:KI xs (lo+n-1)<=KI xs (lo+n)):Up xs lo (n+1):=λi j h1 h2 h3=>by
 by_cases e:j<lo+n
 .exact h i j h1 h2 e
 .have ej:j=lo+n:=by lia
  subst ej
  by_cases ei:i=lo+n
  .rw[ei]
   exact ed _
  .exact dq (h i (lo+n-1) h1 (by lia) (by lia)) hc
theorem Dn.more(h:Dn xs lo n)(hn:0<n)(hc:KI xs (lo+n)<=KI xs (lo+n-1)):Dn xs lo (n+1):=λi j h1 h2 h3=>by
 by_cases e:j<lo+n
 .exact h i j h1 h2 e
 .have ej:j=lo+n:=by lia
  subst ej
  by_cases ei:i=lo+n
  .rw[ei]
   exact ed _
  .exact dq hc (h i (lo+n-1) h1 (by lia) (by lia))
def Dn.congr(h:Dn xs lo n)(e:∀k,KI ys k=KI xs k):Dn ys lo n:=λi j h1 h2 h3=>by
 rw[e i,e j]
 exact h i j h1 h2 h3
theorem jEC{st:SortSt}{nrem:Nat}{Q:Option Nat->SortSt->Prop}(h0:AllI a₀.toList)(hn:lo+nrem<=a₀.size)(hn1:1<=nrem)(hB:BB a₀ p F lo st)
  (h:∀m st',BB a₀ p F lo st'->1<=m->m<=nrem->Up (arrOf st') lo m->Q (some m) st'):wpS (model prog w) A E s (countRun' lo nrem) Q st:=by
 rw[countRun'_eq]
 dsimp only
 refine aJ (db (bZ (I:=λx c st'=>st'=st/\c=(none,x)/\Up (arrOf st) lo x)
  (Q:=λc st'=>st'=st/\∃n,c=(none,n)/\1<=n/\n<=nrem/\Up (arrOf st) lo n/\(n=nrem\/KI (arrOf st) (lo+n)<KI (arrOf st) (lo+n-1))) ?step ?fin ⟨rfl,rfl,Up.one⟩) ?post)
 case fin=>
  rintro c st' ⟨rfl,rfl,hu⟩
  rw[show max 1 nrem=nrem by lia] at hu ⊢
  exact⟨rfl,nrem,rfl,hn1,ak _,hu,.inl rfl⟩
 case step=>
  rintro x c st' h1 h2 ⟨rfl,rfl,hu⟩
  dsimp only
  refine aJ (jC8 hB h0 (by lia) (by lia) ?_)
  dsimp only
  by_cases hl:KI (arrOf st') (lo+x)<KI (arrOf st') (lo+x-1)
  .rw[ax hl,ai rfl]
   exact aL ⟨rfl,x,rfl,by lia,by lia,hu,.inr hl⟩
  .rw[aN hl,aj aq]
   exact aL ⟨rfl,rfl,hu.more (by lia) (by lia)⟩
 case post=>
  rintro c st' ⟨rfl,n,rfl,n1,n2,hu,hor⟩
  dsimp only
  by_cases hnn:n=nrem
  .rw[ai (bp hnn)]
   exact aL (h n st' hB n1 n2 hu)
  rw[aj (bn hnn)]
  have hlt:=hor.resolve_left hnn
  have hz:lo+n<=(arrOf st').size:=by rw[hB.sz];lia
  by_cases hgt:n>1
  case' pos=>
   rw[ai hgt]
   refine aJ (jC8 hB h0 (by lia) (by lia) ?_)
   dsimp only
   by_cases hr:KI (arrOf st') lo<KI (arrOf st') (lo+n-1)
   .rw[ax hr,ai rfl]
    exact aL (h n st' hB n1 n2 hu)
   rw[aN hr,aj aq]
   have hall:∀k,lo<=k->k<lo+n->KI (arrOf st') k=KI (arrOf st') (lo+n-1):=λk h1 h2=>by
    have a1:=hu lo k (by lia) h1 h2
    have a2:=hu k (lo+n-1) h1 (by lia) (by lia)
    lia
   refine aJ (wpS_reverse ?_)
   have hB1:=hB.arr (xs:=mirror (arrOf st') lo (lo+n) ((lo+n-lo)/2)) (mirror_perm _ _ _ _) λk _=>jA1 hz hall k
   have hs0:Dn (arrOf st') lo n:=λi j h1 h2 h3=>by
    rw[hall i h1 (by lia),hall j (by lia) h3]
    exact ed _
   have hs1:Dn (arrOf (setArr st' (mirror (arrOf st') lo (lo+n) ((lo+n-lo)/2)))) lo (n+1):=(hs0.more (by lia) (cC hlt)).congr (jA1 hz hall)
   generalize setArr st' (mirror (arrOf st') lo (lo+n) ((lo+n-lo)/2))=st1 at*
  case' neg=>
   rw[aj hgt]
   have en:n=1:=by lia
   have hB1:=hB
   have hs1:Dn (arrOf st') lo (n+1):=by
    rw[en] at hlt ⊢
    exact Dn.one.more (by lia) (cC hlt)
  all_goals
   refine aJ (iJ (cL ⟨rfl,?_⟩))
   refine aJ (db (bZ (I:=λx c st'=>∃q,c=(none,x,q)/\BB a₀ p F lo st'/\Dn (arrOf st') lo x/\q+1<=x/\∀i,lo+x-(q+1)<=i->i<lo+x->KI (arrOf st') i=KI (arrOf st') (lo+x-1))
    (Q:=λc st'=>∃m q,c=(none,m,q)/\1<=m/\m<=nrem/\BB a₀ p F lo st'/\Dn (arrOf st') lo m/\q+1<=m/\∀i,lo+m-(q+1)<=i->i<lo+m->KI (arrOf st') i=KI (arrOf st') (lo+m-1)) ?dstep ?dfin ⟨0,rfl,hB1,hs1,by lia,λi h1 h2=>by congr 1;lia⟩) ?dpost)
   case dfin=>
    rintro c st' ⟨q,rfl,hb,hd,hq,he⟩
    rw[show max (n+1) nrem=nrem by lia] at hd hq he ⊢
    exact⟨nrem,q,rfl,by lia,by lia,hb,hd,hq,he⟩
   case dstep=>
    rintro x c st' h1 h2 ⟨q,rfl,hb,hd,hq,he⟩
    dsimp only
    have hz:lo+x<=(arrOf st').size:=by rw[hb.sz];lia
    refine aJ (jC8 hb h0 (by lia) (by lia) ?_)
    dsimp only
    by_cases hl:KI (arrOf st') (lo+x)<KI (arrOf st') (lo+x-1)
    .rw[ax hl,ai rfl]
     have d1:=hd.more (by lia) (cC hl)
     by_cases hq0:q>0
     .rw[ai hq0]
      refine aJ (wpS_reverse (aL ⟨0,rfl,hb.arr (mirror_perm _ _ _ _) λk _=>jA1 hz he k,d1.congr (jA1 hz he),by lia,λi h1 h2=>by congr 1;lia⟩))
     .rw[aj hq0]
      exact aL ⟨0,rfl,hb,d1,by lia,λi h1 h2=>by congr 1;lia⟩
    .rw[aN hl,aj aq]
     refine aJ (jC8 hb h0 (by lia) (by lia) ?_)
     dsimp only
     by_cases hg:KI (arrOf st') (lo+x-1)<KI (arrOf st') (lo+x)
     .rw[ax hg,ai rfl]
      exact aL ⟨x,q,rfl,by lia,by lia,hb,hd,hq,he⟩
     .rw[aN hg,aj aq]
      have ex:KI (arrOf st') (lo+x)=KI (arrOf st') (lo+x-1):=by lia
      refine aL ⟨q+1,rfl,hb,hd.more (by lia) (by lia),by lia,λi h1 h2=>?_⟩
      rw[show lo+(x+1)-1=lo+x by lia]
      by_cases hix:i=lo+x
      .rw[hix]
      .rw[ex]
       exact he i (by lia) (by lia)
   case dpost=>
    rintro c st2 ⟨m,q,rfl,m1,m2,hB2,hs2,hq,he⟩
    dsimp only
    have hz2:lo+m<=(arrOf st2).size:=by rw[hB2.sz];lia
    by_cases hq0:q>0
    case' pos=>
     rw[ai hq0]
     refine aJ (wpS_reverse ?_)
     have hB3:=hB2.arr (xs:=mirror (arrOf st2) (lo+m-(q+1)) (lo+m) ((lo+m-(lo+m-(q+1)))/2)) (mirror_perm _ _ _ _) λk _=>jA1 hz2 he k
     have hs3:Dn (arrOf (setArr st2 (mirror (arrOf st2) (lo+m-(q+1)) (lo+m) ((lo+m-(lo+m-(q+1)))/2)))) lo m:=hs2.congr (jA1 hz2 he)
     generalize setArr st2 (mirror (arrOf st2) (lo+m-(q+1)) (lo+m) ((lo+m-(lo+m-(q+1)))/2))=st3 at*
    case' neg=>
     rw[aj hq0]
     have hB3:=hB2
     have hs3:=hs2
     generalize st2=st3 at*
    all_goals
     have hz3:lo+m<=(arrOf st3).size:=by rw[hB3.sz];lia
     refine aJ (wpS_reverse ?_)
     have hB4:=hB3.arr (xs:=mirror (arrOf st3) lo (lo+m) ((lo+m-lo)/2)) (mirror_perm _ _ _ _) λk hk=>by
      rw[jC7 hz3,aj (by lia)]
     have hU:Up (mirror (arrOf st3) lo (lo+m) ((lo+m-lo)/2)) lo m:=λi j h1 h2 h3=>by
      rw[jC7 hz3,jC7 hz3,ai ⟨h1,by lia⟩,ai ⟨by lia,h3⟩]
      exact hs3 _ _ (by lia) (by lia) (by lia)
     generalize mirror (arrOf st3) lo (lo+m) ((lo+m-lo)/2)=xs4 at*
     refine aJ (db (bZ (I:=λx c st'=>st'=setArr st3 xs4/\c=(none,x)/\Up xs4 lo x)
      (Q:=λc st'=>st'=setArr st3 xs4/\∃n,c=(none,n)/\1<=n/\n<=nrem/\Up xs4 lo n) ?tstep ?tfin ⟨rfl,rfl,hU⟩) ?tpost)
     case tfin=>
      rintro c st' ⟨rfl,rfl,hu⟩
      rw[show max m nrem=nrem by lia] at hu ⊢
      exact⟨rfl,nrem,rfl,by lia,by lia,hu⟩
     case tstep=>
      rintro x c st' h1 h2 ⟨rfl,rfl,hu⟩
      dsimp only
      refine aJ (jC8 hB4 h0 (by lia) (by lia) ?_)
      dsimp only
      by_cases hl:KI xs4 (lo+x)<KI xs4 (lo+x-1)
      .rw[ax hl,ai rfl]
       exact aL ⟨rfl,x,rfl,by lia,by lia,hu⟩
      .rw[aN hl,aj aq]
       exact aL ⟨rfl,rfl,hu.more (by lia) (by lia)⟩
     case tpost=>
      rintro c st' ⟨rfl,n,rfl,n1,n2,hu⟩
      exact aL (h n _ hB4 n1 n2 hu)
theorem jDA{ok:Nat}{Q:Bool->SortSt->Prop}(h0:AllI a₀.toList)(hn:lo+n<=a₀.size)(hok:ok<=n)(hB:BB a₀ p F lo st)(hs:Up (arrOf st) lo ok)
  (h:∀st',BB a₀ p F lo st'->Up (arrOf st') lo n->Q true st'):wpS (model prog w) A E s (binarySort' lo n ok) Q st:=by
 rw[binarySort'_eq]
 dsimp only
 refine aJ (db (bZ (I:=λk c st'=>c=(none,())/\BB a₀ p F lo st'/\Up (arrOf st') lo (min k n))
  (Q:=λc st'=>c=(none,())/\BB a₀ p F lo st'/\Up (arrOf st') lo n) ?step ?fin ⟨rfl,hB,?init⟩) ?post)
 case post=>
  rintro c st' ⟨rfl,hb,hu⟩
  exact aL (h st' hb hu)
 case init=>
  by_cases e:ok=0
  .intro i j h1 h2 h3
   have:i=j:=by lia
   rw[this]
   exact ed _
  .exact λi j h1 h2 h3=>hs i j h1 h2 (by lia)
 case fin=>
  rintro c st' ⟨hc,hb,hu⟩
  rw[show min (max (max ok 1) n) n=n by lia] at hu
  exact⟨hc,hb,hu⟩
 case step=>
  rintro k c st1 hk1 hk2 ⟨rfl,hb,hu⟩
  rw[show min k n=k by lia] at hu
  refine aJ (db (bZ (I:=λx c st'=>st'=st1/\∃l r,c=(none,l,r)/\l<=r/\r<=k/\r-l<=k-x/\
    (∀i,i<l->KI (arrOf st1) (lo+i)<=KI (arrOf st1) (lo+k))/\∀i,r<=i->i<k->KI (arrOf st1) (lo+k)<KI (arrOf st1) (lo+i))
   (Q:=λc st'=>st'=st1/\∃l r,c=(none,l,r)/\l<=k/\
    (∀i,i<l->KI (arrOf st1) (lo+i)<=KI (arrOf st1) (lo+k))/\∀i,l<=i->i<k->KI (arrOf st1) (lo+k)<KI (arrOf st1) (lo+i)) ?step1 ?fin1 ⟨rfl,0,k,rfl,by lia,by lia,by lia,λi hi=>by lia,λi h1 h2=>by lia⟩) ?post1)
  case fin1=>
   rintro c st' ⟨rfl,l,r,rfl,b1,b2,b3,b4,b5⟩
   have:l=r:=by lia
   subst this
   exact⟨rfl,l,l,rfl,b2,b4,b5⟩
  case step1=>
   rintro x c st' _ hx ⟨rfl,l,r,rfl,b1,b2,b3,b4,b5⟩
   dsimp only
   by_cases hge:l ≥ r
   .rw[ai hge]
    have:l=r:=by lia
    subst this
    exact aL ⟨rfl,l,l,rfl,b2,b4,b5⟩
   rw[aj hge]
   refine aJ (jC8 hb h0 (by lia) (by lia) ?_)
   dsimp only
   by_cases hl:KI (arrOf st') (lo+k)<KI (arrOf st') (lo+(l+r)/2)
   .rw[ax hl,ai rfl]
    exact aL ⟨rfl,l,(l+r)/2,rfl,by lia,by lia,by lia,b4,λi h1 h2=>Int.lt_of_lt_of_le hl (hu _ _ (by lia) (by lia) (by lia))⟩
   .rw[aN hl,aj aq]
    exact aL ⟨rfl,(l+r)/2+1,r,rfl,by lia,by lia,by lia,λi h1=>dq (hu (lo+i) (lo+(l+r)/2) (by lia) (by lia) (by lia)) (Int.not_lt.mp hl),b5⟩
  case post1=>
   rintro c st' ⟨rfl,l,r,rfl,hlk,b4,b5⟩
   dsimp only
   rw[moveDown'_eq]
   have hks:lo+k<(arrOf st').size:=by rw[hb.sz];lia
   have kb:∀x,KI (bubble (arrOf st') (lo+k) (lo+k-(lo+l))) x=if x=lo+l then KI (arrOf st') (lo+k) else if lo+l<x/\x<=lo+k then KI (arrOf st') (x-1) else KI (arrOf st') x:=λx=>by
    have:=jN2 hks (d:=lo+k-(lo+l)) (by lia) x
    rw[show lo+k-(lo+k-(lo+l))=lo+l by lia] at this
    exact this
   refine aJ (eh (aL ⟨rfl,hb.arr (bubble_perm _ _ _) λx hx=>?_,?_⟩))
   .rw[kb,aj (by lia),aj (by lia)]
   rw[show min (k+1) n=k+1 by lia]
   intro i j h1 h2 h3
   show KI (bubble _ _ _) i<=KI (bubble _ _ _) j
   rw[kb,kb]
   have lo1:∀i,lo<=i->i<lo+l->KI (arrOf st') i<=KI (arrOf st') (lo+k):=λi h1 h2=>by
    have:=b4 (i-lo) (by lia)
    rw[show lo+(i-lo)=i by lia] at this
    exact this
   have hi1:∀i,lo+l<=i->i<lo+k->KI (arrOf st') (lo+k)<=KI (arrOf st') i:=λi h1 h2=>by
    have:=b5 (i-lo) (by lia) (by lia)
    rw[show lo+(i-lo)=i by lia] at this
    exact cC this
   repeat' split
   all_goals first
    | (exfalso;lia)
    |exact ed _
    |exact lo1 _ (by lia) (by lia)
    |exact hi1 _ (by lia) (by lia)
    |exact hu _ _ (by lia) (by lia) (by lia)
end
def mergeAtB: {g:Nat->StateT SortSt Sem Bool // mergeAt'=g}:=⟨λ_=>bind _ _,rfl⟩
def KI_key{xs:Array Keyed}{i:Nat}{p:Keyed}(h:xs[i]?=some p):KI xs i=key p:=by
 unfold KI
 rw[h]
def jI9(s1:Nat):∀(l:List Keyed) (j0:Nat) (a:Array Keyed) (P M S:List Keyed),P.length=s1+j0->M.length=l.length->a.toList=P++(M++S)->
  ((l.zipIdx j0).foldl (λ(a:Array Keyed) (x:Keyed×Nat)=>a.setIfInBounds (s1+x.2) x.1) a).toList=P++(l++S)
 |[],j0,a,P,M,S,h1,h2,h3=>by
  rw[ef h2] at h3
  exact h3
 |q::l,j0,a,P,[],S,h1,h2,h3=>by cases h2
 |q::l,j0,a,P,m::M,S,h1,h2,h3=>by
  rw[iH,List.foldl_cons]
  have:=jI9 s1 l (j0+1) (a.setIfInBounds (s1+j0) q) (P++[q]) M S (by rw[aK,h1];rfl) (Nat.succ.inj h2) (by
   rw[g8,h3,<- h1,jc _ _ (ak _),iX,be]
   rfl)
  rw[this,be]
  rfl
theorem jR8{P m1 m2 S:List Keyed}(e:m1.length=m2.length){k:Nat}(h:k<P.length\/P.length+m1.length<=k):(P++(m1++S))[k]?=(P++(m2++S))[k]?:=by
 rcases h with h|h
 .rw[ci h,ci h]
 .rw[bA (by lia),bA (by lia),bA (by lia),bA (by lia),e]
theorem jTA{P S:List Keyed}{k:Nat}(h1:P.length<=k)(h2:k<P.length+m.length):(P++(m++S))[k]?=m[k-P.length]?:=by
 rw[bA h1,ci (by lia)]
def jIY{xs:Array Keyed}{i j t:Nat}(h:t<j-i):(xs.extract i j).toList[t]?=xs[i+t]?:=by
 rw[jAR,cY h,fi,bV]
theorem jCJ(h:p∈(xs.extract i j).toList):∃t,i<=t/\t<j/\xs[t]?=some p:=by
 rw[jAR] at h
 obtain⟨t,h1,h2,h3⟩:=jA6 h
 exact⟨t,h1,by lia,at_list.mpr h3⟩
theorem jDR(h:j<=xs.size):(xs.extract i j).size=j-i:=by
 rw[Array.size_extract]
 lia
theorem jM4(h:∀n m x y,i<=n->n<=m->m<j->xs[n]?=some x->xs[m]?=some y->LE x y):Srt (xs.extract i j).toList:=by
 refine cV.mpr λa b ha hb hab=>?_
 have hl:(xs.extract i j).toList.length<=j-i:=by rw[jAR,aZ];lia
 have e1:=jIY (xs:=xs) (i:=i) (j:=j) (t:=a) (by lia)
 have e2:=jIY (xs:=xs) (i:=i) (j:=j) (t:=b) (by lia)
 rw[ag ha] at e1
 rw[ag hb] at e2
 exact h (i+a) (i+b) _ _ (by lia) (by lia) (by lia) e1.symm e2.symm
def KI_at(h:xs.toList[i]?=ys.toList[j]?):KI xs i=KI ys j:=jB8 (by rw[<- bV,<- bV];exact h)
theorem jJK{xs r R:Array Keyed}{sa na sb nb k1 k2:Nat}(hsb:sb=sa+na)(hk1:k1<na)(hk2:0<k2)(hk2':k2<=nb)(hz:sb+nb<=xs.size)
  (u1:Up xs sa na) (u2:Up xs sb nb) (g2:∀t,sa<=t->t<sa+k1->KI xs t<=KI xs sb) (l3:∀t,sb+k2<=t->t<sb+nb->KI xs (sb-1)<=KI xs t)
  (D:qA (xs.extract (sa+k1) sb) (xs.extract sb (sb+k2)) r)
  (hR:R.toList=xs.toList.take (sa+k1)++(r.toList++xs.toList.drop (sb+k2))):
  R.Perm xs/\(∀k,k<sa\/sa+(na+nb)<=k->KI R k=KI xs k)/\Up R sa (na+nb):=by
 have lr:r.toList.length=sb+k2-(sa+k1):=by
  rw[D.1.length_eq,aK,aM,aM,jDR (by lia),jDR (by lia)]
  lia
 have lP:(xs.toList.take (sa+k1)).length=sa+k1:=by rw[aZ,aM];lia
 have hX:xs.toList=xs.toList.take (sa+k1)++(((xs.extract (sa+k1) sb).toList++(xs.extract sb (sb+k2)).toList)++xs.toList.drop (sb+k2)):=by
  have a1:=bg (sa+k1) xs.toList
  have a2:=bg (sb-(sa+k1)) (xs.toList.drop (sa+k1))
  have a3:=bg k2 (xs.toList.drop sb)
  rw[gZ] at a2 a3
  rw[show sa+k1+(sb-(sa+k1))=sb by lia] at a2
  rw[jAR,jAR,cr,be,a3,a2,a1]
 have lm:((xs.extract (sa+k1) sb).toList++(xs.extract sb (sb+k2)).toList).length=r.toList.length:=D.1.length_eq.symm
 have out:∀k,k<sa+k1\/sb+k2<=k->KI R k=KI xs k:=λk hk=>KI_at (by
  have:=jR8 (P:=xs.toList.take (sa+k1)) (S:=xs.toList.drop (sb+k2)) lm.symm (k:=k) (by rw[lP,lr];lia)
  exact(bB (·[k]?) hR).trans (this.trans (bB (·[k]?) hX).symm))
 have inn:∀k,sa+k1<=k->k<sb+k2->R.toList[k]?=r.toList[k-(sa+k1)]?:=λk h1 h2=>by
  rw[hR,jTA (by rw[lP];exact h1) (by rw[lP,lr];lia),lP]
 have mem:∀k,sa+k1<=k->k<sb+k2->∃t,sa+k1<=t/\t<sb+k2/\KI R k=KI xs t:=λk h1 h2=>by
  have hk:k-(sa+k1)<r.toList.length:=by lia
  have e:=inn k h1 h2
  rw[ag hk] at e
  have hm:=D.1.mem_iff.mp (bC hk)
  rcases az.mp hm with q|q
  .obtain⟨t,t1,t2,t3⟩:=jCJ q
   exact⟨t,t1,by lia,(KI_key (at_list.mpr e)).trans (KI_key t3).symm⟩
  .obtain⟨t,t1,t2,t3⟩:=jCJ q
   exact⟨t,by lia,t2,(KI_key (at_list.mpr e)).trans (KI_key t3).symm⟩
 have srt:∀i j,sa+k1<=i->i<=j->j<sb+k2->KI R i<=KI R j:=λi j h1 h2 h3=>by
  have hi:i-(sa+k1)<r.toList.length:=by lia
  have hj:j-(sa+k1)<r.toList.length:=by lia
  have e1:=inn i h1 (by lia)
  have e2:=inn j (by lia) h3
  rw[ag hi] at e1
  rw[ag hj] at e2
  rw[KI_key (at_list.mpr e1),KI_key (at_list.mpr e2)]
  exact jE0 D.2 (ag hi) (ag hj) (by lia)
 have low:∀t u,sa<=t->t<sa+k1->t<=u->u<sb+nb->KI xs t<=KI xs u:=λt u h1 h2 h3 h4=>by
  by_cases e:u<sb
  .exact u1 t u h1 h3 (by lia)
  .exact dq (g2 t h1 h2) (u2 sb u (ak _) (by lia) h4)
 have high:∀t u,sa<=t->t<=u->sb+k2<=u->u<sb+nb->KI xs t<=KI xs u:=λt u h1 h2 h3 h4=>by
  by_cases e:t<sb
  .exact dq (u1 t (sb-1) h1 (by lia) (by lia)) (l3 u h3 h4)
  .exact u2 t u (by lia) h2 h4
 refine⟨?_,λk hk=>out k (by lia),λi j h1 h2 h3=>?_⟩
 .refine cM.mpr ?_
  rw[hR]
  refine List.Perm.trans ?_ (i9 hX.symm)
  exact cX _ (fJ _ D.1)
 .have h3:j<sb+nb:=by lia
  by_cases i1:i<sa+k1
  .rw[out i (.inl i1)]
   by_cases j1:j<sa+k1
   .rw[out j (.inl j1)]
    exact low i j h1 i1 h2 h3
   by_cases j2:j<sb+k2
   .obtain⟨t,t1,t2,t3⟩:=mem j (by lia) j2
    rw[t3]
    exact low i t h1 i1 (by lia) (by lia)
   .rw[out j (.inr (by lia))]
    exact low i j h1 i1 h2 h3
  by_cases i2:i<sb+k2
  .by_cases j2:j<sb+k2
   .exact srt i j (by lia) h2 j2
   .obtain⟨t,t1,t2,t3⟩:=mem i (by lia) i2
    rw[t3,out j (.inr (by lia))]
    exact high t j (by lia) (by lia) (by lia) h3
  .rw[out i (.inr (by lia)),out j (.inr (by lia))]
   exact high i j h1 h2 (by lia) h3
section
variable {prog:Program}{w:World}{A:Around}{E:Value->Shared->Prop}{s:Shared} [LtOk prog w A s]
def jPU{Q:PUnit->SortSt->Prop}(h:Q ⟨⟩ st'):wpS (model prog w) A E s (set st':StateT SortSt Sem PUnit) Q st:=eh (f:=λ_=>st') h
def jK4{α:Type}{a b:α}{Q:α->SortSt->Prop}(e:a=b)(h:Q b st):wpS (model prog w) A E s (pure a:StateT SortSt Sem α) Q st:=aL (e ▸ h)
structure Merged (st st':SortSt)(i sa na sb nb pw:Nat):Prop where
 perm:(arrOf st').Perm (arrOf st)
 kind:kindOf st'=Od.kd
 failed:failedOf st'=none
 pend:pendingOf st'=((pendingOf st).setIfInBounds i (sa,na+nb,pw)).eraseIdxIfInBounds (i+1)
 out:∀k,k<sa\/sa+(na+nb)<=k->KI (arrOf st') k=KI (arrOf st) k
 up:Up (arrOf st') sa (na+nb)
theorem jGS{sa na pw sb nb w2:Nat}{Q:Bool->SortSt->Prop}(hk:kindOf st=Od.kd)(hf:failedOf st=none)(hI:AllI (arrOf st).toList)
  (h1:(pendingOf st)[i]?=some (sa,na,pw)) (h2:(pendingOf st)[i+1]?=some (sb,nb,w2)) (hsb:sb=sa+na) (hna:0<na) (hnb:0<nb) (hz:sb+nb<=(arrOf st).size)
  (u1:Up (arrOf st) sa na) (u2:Up (arrOf st) sb nb) (h:∀st',Merged st st' i sa na sb nb pw->Q true st'):wpS (model prog w) A E s (mergeAt' i) Q st:=by
 rw[mergeAtB.2]
 delta mergeAtB
 dsimp only
 simp only[elP,ltP,ltAtP,jHN,jOA,jOB]
 refine aJ (gL ?_)
 rw[h1,h2]
 dsimp only
 refine aJ (jPU ?_)
 generalize hpp:((pendingOf st).setIfInBounds i (sa,na+nb,pw)).eraseIdxIfInBounds (i+1)=pp
 show wpS _ _ _ _ _ _ (SortSt.mk' (kindOf st) (arrOf st) pp (gallopOf st) (failedOf st))
 generalize hst1:SortSt.mk' (kindOf st) (arrOf st) pp (gallopOf st) (failedOf st)=st1
 have G1:kindOf st1=kindOf st/\arrOf st1=arrOf st/\pendingOf st1=pp/\failedOf st1=failedOf st:=by rw[<- hst1];exact⟨rfl,rfl,rfl,rfl⟩
 have at_:∀t,t<(arrOf st).size->∃q,(arrOf st)[t]?=some q/\IsI q:=λt ht=>by
  obtain⟨q,q1,q2⟩:=qW ht
  exact⟨q,q1,hI q (aH q2)⟩
 have m1:∀n m x y,sa<=n->n<=m->m<sa+na->(arrOf st)[n]?=some x->(arrOf st)[m]?=some y->LE x y:=λn m x y a1 a2 a3 hx hy=>by
  have:=u1 n m a1 a2 a3
  rw[KI_key hx,KI_key hy] at this
  exact this
 have m2:∀n m x y,sb<=n->n<=m->m<sb+nb->(arrOf st)[n]?=some x->(arrOf st)[m]?=some y->LE x y:=λn m x y a1 a2 a3 hx hy=>by
  have:=u2 n m a1 a2 a3
  rw[KI_key hx,KI_key hy] at this
  exact this
 obtain⟨pb,hpb,ipb⟩:=at_ sb (by lia)
 refine aJ (kE hpb ?_)
 refine aJ (jIT (G1.1.trans hk) ipb hI m1 hna (show sa+na<=(arrOf st).size by lia) λk1 g1 g2 g3=>?_)
 dsimp only
 have g2:∀t,sa<=t->t<sa+k1->KI (arrOf st) t<=KI (arrOf st) sb:=λt t1 t2=>by
  obtain⟨q,hq,_⟩:=at_ t (by lia)
  rw[KI_key hq,KI_key hpb]
  exact g2 t q t1 t2 hq
 by_cases e1:na-k1=0
 .rw[ai (bp e1)]
  refine aL (h _ ⟨?_,G1.1.trans hk,G1.2.2.2.trans hf,G1.2.2.1.trans hpp.symm,λk _=>?_,?_⟩)
  .rw[G1.2.1]
  .rw[G1.2.1]
  .rw[G1.2.1]
   intro i j i1 i2 i3
   by_cases a:i<sb
   .by_cases b:j<sb
    .exact u1 i j i1 i2 (by lia)
    .exact dq (g2 i i1 (by lia)) (u2 sb j (ak _) (by lia) (by lia))
   .exact u2 i j (by lia) i2 (by lia)
 rw[aj (bn e1)]
 obtain⟨pa,hpa,ipa⟩:=at_ (sa+k1+(na-k1)-1) (by lia)
 refine aJ (kE hpa ?_)
 refine aJ (jIU (G1.1.trans hk) ipa hI m2 (by lia) (show sb+nb<=(arrOf st).size by lia) λk2 l1 l2 l3=>?_)
 dsimp only
 have epa:sa+k1+(na-k1)-1=sb-1:=by lia
 rw[epa] at hpa
 have l3':∀t,sb+k2<=t->t<sb+nb->KI (arrOf st) (sb-1)<=KI (arrOf st) t:=λt t1 t2=>by
  obtain⟨q,hq,_⟩:=at_ t (by lia)
  rw[KI_key hq,KI_key hpa]
  exact l3 t q t1 t2 hq
 by_cases e2:k2=0
 .rw[ai (bp e2)]
  refine aL (h _ ⟨?_,G1.1.trans hk,G1.2.2.2.trans hf,G1.2.2.1.trans hpp.symm,λk _=>?_,?_⟩)
  .rw[G1.2.1]
  .rw[G1.2.1]
  .rw[G1.2.1]
   intro i j i1 i2 i3
   by_cases a:i<sb
   .by_cases b:j<sb
    .exact u1 i j i1 i2 (by lia)
    .exact dq (u1 i (sb-1) i1 (by lia) (by lia)) (l3' j (by lia) (by lia))
   .exact u2 i j (by lia) i2 (by lia)
 rw[aj (bn e2)]
 have T:Two ((arrOf st).extract (sa+k1) sb) ((arrOf st).extract sb (sb+k2)):=by
  refine⟨λq hq=>?_,λq hq=>?_,jM4 λn m x y a1 a2 a3=>m1 n m x y (by lia) a2 (by lia),jM4 λn m x y a1 a2 a3=>m2 n m x y (by lia) a2 (by lia),?_,?_,λx hx y hy=>?_,λy hy q hq=>?_⟩
  .obtain⟨t,_,_,t3⟩:=jCJ hq
   exact hI q (aH (at_list.mp t3))
  .obtain⟨t,_,_,t3⟩:=jCJ hq
   exact hI q (aH (at_list.mp t3))
  .rw[jDR (by lia)];lia
  .rw[jDR (by lia)];lia
  .obtain⟨t,t1,t2,t3⟩:=jCJ hx
   rw[jDR (by lia),jIY (by lia),show sa+k1+(sb-(sa+k1)-1)=sb-1 by lia,hpa] at hy
   cases hy
   exact l2 t x t1 t2 t3
  .obtain⟨t,t1,t2,t3⟩:=jCJ hy
   rw[jIY (by lia),km,hpb] at hq
   cases hq
   exact g3 t y t1 (by lia) t3
 by_cases e3:na-k1<=k2
 case' pos=>
  rw[ai e3]
  refine aJ (jGQ (G1.1.trans hk) T λr st2 D G0=>?_)
  have G:SG (SortSt.mk' (kindOf st) (arrOf st) pp (gallopOf st) (failedOf st)) st2:=by rw[hst1];exact G0
  subst hpp
 case' neg=>
  rw[aj e3]
  refine aJ (jGR (G1.1.trans hk) T λr st2 D G0=>?_)
  have G:SG (SortSt.mk' (kindOf st) (arrOf st) pp (gallopOf st) (failedOf st)) st2:=by rw[hst1];exact G0
  subst hpp
 all_goals
  refine aJ (eh (aJ (gL ?_)))
  have ea:arrOf st2=arrOf st:=G.a
  have W:=jJK (R:=((r.toList.zipIdx 0).foldl (λ(a:Array Keyed) (x:Keyed×Nat)=>a.setIfInBounds (sa+k1+x.2) x.1) (arrOf st))) hsb (by lia) (by lia) l1 hz u1 u2 g2 l3' D (jI9 (sa+k1) r.toList 0 (arrOf st) ((arrOf st).toList.take (sa+k1)) (((arrOf st).extract (sa+k1) sb).toList++((arrOf st).extract sb (sb+k2)).toList) ((arrOf st).toList.drop (sb+k2)) (by rw[aZ,aM];lia) D.1.length_eq.symm (by
   have a1:=bg (sa+k1) (arrOf st).toList
   have a2:=bg (sb-(sa+k1)) ((arrOf st).toList.drop (sa+k1))
   have a3:=bg k2 ((arrOf st).toList.drop sb)
   rw[gZ] at a2 a3
   rw[show sa+k1+(sb-(sa+k1))=sb by lia] at a2
   rw[jAR,jAR,cr,be,a3,a2,a1]))
  rw[<- ea] at W
  refine jK4 (by show (failedOf st2).isNone=true;rw[G.f];show (failedOf st).isNone=true;rw[hf];rfl) (h _ ⟨?_,G.k.trans hk,G.f.trans hf,G.p,?_,?_⟩)
  .rw[<- ea]
   exact W.1
  .rw[<- ea]
   exact W.2.1
  .exact W.2.2
end
def Runs(xs:Array Keyed):List (Nat×Nat×Nat)->Nat->Nat->Prop
 |[],a,b=>a=b
 | (s,n,_)::t,a,b=>s=a/\0<n/\Up xs s n/\Runs xs t (a+n) b
section
variable {xs ys:Array Keyed}
theorem Runs.le:∀{l:List (Nat×Nat×Nat)}{a b:Nat},Runs xs l a b->a+l.length<=b
 |[],a,b,h=>by have:a=b:=h;rw[gA];lia
 | (s,n,_)::t,a,b,⟨_,h2,_,h4⟩=>by
  have:=Runs.le h4
  rw[aV]
  lia
def Runs.app:∀{l m:List (Nat×Nat×Nat)}{a b:Nat},Runs xs (l++m) a b->∃c,Runs xs l a c/\Runs xs m c b
 |[],m,a,b,h=>⟨a,rfl,h⟩
 | (s,n,_)::t,m,a,b,⟨h1,h2,h3,h4⟩=>by
  obtain⟨c,c1,c2⟩:=Runs.app h4
  exact⟨c,⟨h1,h2,h3,c1⟩,c2⟩
def Runs.put:∀{l m:List (Nat×Nat×Nat)}{a b c:Nat},Runs xs l a c->Runs xs m c b->Runs xs (l++m) a b
 |[],m,a,b,c,h,g=>by have:a=c:=h;subst this;exact g
 | (s,n,_)::t,m,a,b,c,⟨h1,h2,h3,h4⟩,g=>⟨h1,h2,h3,Runs.put h4 g⟩
theorem Up.same{lo n:Nat}(h:Up xs lo n)(e:∀k,lo<=k->k<lo+n->KI ys k=KI xs k):Up ys lo n:=λi j h1 h2 h3=>by
 rw[e i h1 (by lia),e j (by lia) h3]
 exact h i j h1 h2 h3
theorem Runs.same:∀{l:List (Nat×Nat×Nat)}{a b:Nat},Runs xs l a b->(∀k,a<=k->k<b->KI ys k=KI xs k)->Runs ys l a b
 |[],a,b,h,_=>h
 | (s,n,_)::t,a,b,⟨h1,h2,h3,h4⟩,e=>by
  have:=Runs.le h4
  exact⟨h1,h2,h3.same λk k1 k2=>e k (by lia) (by lia),Runs.same h4 λk k1 k2=>e k (by lia) k2⟩
def Runs.mod{f:Nat×Nat×Nat->Nat×Nat×Nat}(hf:∀x,(f x).1=x.1/\(f x).2.1=x.2.1):∀{l:List (Nat×Nat×Nat)}{i a b:Nat},Runs xs l a b->Runs xs (l.modify i f) a b
 |[],i,a,b,h=>by rw[List.modify_nil];exact h
 | (s,n,w)::t,0,a,b,⟨h1,h2,h3,h4⟩=>by
  rw[List.modify_zero_cons]
  obtain⟨e1,e2⟩:=hf (s,n,w)
  generalize f (s,n,w)=v at e1 e2 ⊢
  obtain⟨s',n',w'⟩:=v
  have e1:s'=s:=e1
  have e2:n'=n:=e2
  subst e1 e2
  exact⟨h1,h2,h3,h4⟩
 | (s,n,w)::t,i+1,a,b,⟨h1,h2,h3,h4⟩=>by
  rw[List.modify_succ_cons]
  exact⟨h1,h2,h3,Runs.mod hf h4⟩
end
structure RI (a₀:Array Keyed)(lo:Nat)(st:SortSt):Prop where
 perm:(arrOf st).Perm a₀
 kind:kindOf st=Od.kd
 failed:failedOf st=none
 runs:Runs (arrOf st) (pendingOf st).toList 0 lo
theorem jFK:∀(l:List (Nat×Nat×Nat)) (i:Nat),i+1<l.length->∃u x y t,l=u++x::y::t/\u.length=i
 |[],i,h=>absurd h (ev _)
 |[x],i,h=>by rw[fQ] at h;lia
 |x::y::t,0,h=>⟨[],x,y,t,rfl,rfl⟩
 |x::y::t,i+1,h=>by
  obtain⟨u,x',y',t',e,hu⟩:=jFK (y::t) i (by rw[aV] at h;lia)
  exact⟨x::u,x',y',t',by rw[e];rfl,by rw[aV,hu]⟩
def jRV(h0:AllI a₀.toList)(hp:xs.Perm a₀):AllI xs.toList:=λp hp'=>h0 p ((cM.mp hp).mem_iff.mp hp')
section
variable {prog:Program}{w:World}{A:Around}{E:Value->Shared->Prop}{s:Shared} [LtOk prog w A s]{a₀:Array Keyed}
theorem jD9{lo:Nat}{Q:Bool->SortSt->Prop}(h0:AllI a₀.toList)(R:RI a₀ lo st)(hlo:lo<=a₀.size)(hi:i+1<(pendingOf st).size)
  (h:∀st',RI a₀ lo st'->(pendingOf st').size+1=(pendingOf st).size->(∀k,lo<=k->KI (arrOf st') k=KI (arrOf st) k)->Q true st'):wpS (model prog w) A E s (mergeAt' i) Q st:=by
 obtain⟨u,⟨sa,na,pw⟩,⟨sb,nb,w2⟩,t,e,hu⟩:=jFK (pendingOf st).toList i (by rw[aM];exact hi)
 have rr:=R.runs
 rw[e] at rr
 obtain⟨c,r1,a1,a2,a3,a4,a5,a6,a7⟩:=Runs.app rr
 have r2:=Runs.le a7
 have r3:=Runs.le r1
 subst a1
 have e1:(pendingOf st)[i]?=some (sa,na,pw):=by
  rw[<- bV,e,bA (by lia),hu,iX]
  rfl
 have e2:(pendingOf st)[i+1]?=some (sb,nb,w2):=by
  rw[<- bV,e,bA (by lia),hu,cr]
  rfl
 have z:=R.perm.size_eq
 refine jGS R.kind R.failed (jRV h0 R.perm) e1 e2 a4 a2 a5 (by lia) a3 a6 λst' M=>?_
 have ep:(pendingOf st').toList=u++(sa,na+nb,pw)::t:=by
  rw[M.pend,Array.toList_eraseIdxIfInBounds,g8,e,jc _ _ (by lia),hu,iX,List.set_cons_zero,List.eraseIdx_append_of_length_le (by lia),hu,cr]
  rfl
 refine h st' ⟨M.perm.trans R.perm,M.kind,M.failed,?_⟩ ?_ λk hk=>M.out k (by lia)
 .rw[ep]
  refine Runs.put (Runs.same r1 λk k1 k2=>M.out k (by lia)) ⟨rfl,by lia,M.up,?_⟩
  have:=Runs.same (ys:=arrOf st') a7 λk k1 k2=>M.out k (by lia)
  rw[Nat.add_assoc] at this
  exact this
 .have q1:=bB List.length ep
  have q2:=bB List.length e
  rw[aM,aK,aV] at q1
  rw[aM,aK,aV,aV] at q2
  lia
def RI.of{st:SortSt}{F:Nat->Int}{lo:Nat}{p:Array (Nat×Nat×Nat)}{xs:Array Keyed}(h:BB a₀ p F lo st)(hr:Runs xs p.toList 0 lo)(hF:∀k,F k=KI xs k):RI a₀ lo st:=
 ⟨h.perm,h.kind,h.failed,by rw[h.pend];exact hr.same λk _ hk=>(h.low k hk).trans (hF k)⟩
theorem wpS_sortRunsAny{st:SortSt}{Q:Unit->SortSt->Prop}(h0:AllI a₀.toList)(hB:SB a₀ st)(h1:1<=a₀.size)
  (h:∀st',(arrOf st').Perm a₀->failedOf st'=none->STo (arrOf st') a₀.size->Q () st'):wpS (model prog w) A E s sortRuns' Q st:=by
 rw[sortRuns'_eq]
 refine aJ (gL ?_)
 try dsimp only
 have hz:=hB.size
 rw[hz]
 generalize minRun' a₀.size a₀.size 0=mr
 refine aJ (db (bZ (I:=λx c st'=>∃lo,c=(none,lo)/\x<=lo/\lo<=a₀.size/\RI a₀ lo st')
  (Q:=λc st'=>c=(none,a₀.size)/\RI a₀ a₀.size st') ?step ?fin ⟨0,rfl,ak _,bb _,hB.perm,hB.kind,hB.failed,by rw[hB.pend];rfl⟩) ?post)
 case fin=>
  rintro c st' ⟨lo,rfl,l1,l2,R⟩
  have:lo=a₀.size:=by lia
  subst this
  exact⟨rfl,R⟩
 case step=>
  rintro x c st1 _ hx ⟨lo,rfl,l1,l2,R1⟩
  try dsimp only
  by_cases hl:lo ≥ a₀.size
  .rw[ai hl]
   have:lo=a₀.size:=by lia
   subst this
   exact aL ⟨rfl,R1⟩
  rw[aj hl]
  refine aJ (jEC (F:=λk=>KI (arrOf st1) k) (p:=pendingOf st1) h0 (by lia) (by lia) ⟨R1.perm,R1.kind,R1.failed,rfl,λ_ _=>rfl⟩ λm st2 B2 m1 m2 U2=>?_)
  try dsimp only
  by_cases hm:m<mr
  case' pos=>
   rw[ai hm]
   refine aJ (iJ (cL ⟨rfl,?_⟩))
   refine aJ (jDA h0 (by lia) (by lia) B2 U2 λst4 B4 U4=>?_)
   have R4:=RI.of B4 R1.runs λ_=>rfl
   have n0:0<min (a₀.size-lo) mr:=by lia
   have n9:min (a₀.size-lo) mr<=a₀.size-lo:=by lia
   generalize min (a₀.size-lo) mr=n at*
  case' neg=>
   rw[aj hm]
   have R4:=RI.of B2 R1.runs λ_=>rfl
   have U4:=U2
   generalize st2=st4 at*
   generalize m=n at*
  all_goals
   refine aJ (gL ?_)
   have last:∀st5:SortSt,RI a₀ lo st5->Up (arrOf st5) lo n->∃lo',(none,lo+n)=((none:Option PUnit),lo')/\x+1<=lo'/\lo'<=a₀.size/\RI a₀ lo' (setPending st5 ((pendingOf st5).push (lo,n,0))):=λst5 R5 U5=>
    ⟨lo+n,rfl,by lia,by lia,R5.perm,R5.kind,R5.failed,by
     show Runs (arrOf st5) ((pendingOf st5).push (lo,n,0)).toList 0 (lo+n)
     rw[dM]
     exact R5.runs.put ⟨rfl,by lia,U5,rfl⟩⟩
   cases hb:(pendingOf st4).back? with
   |none=>
    try dsimp only
    exact aJ (eh (aL (last st4 R4 U4)))
   |some v=>
    obtain⟨s1,n1,w1⟩:=v
    try dsimp only
    refine aJ (db (bZ (I:=λ_ c st'=>c=(none,())/\RI a₀ lo st'/\Up (arrOf st') lo n) (Q:=λc st'=>c=(none,())/\RI a₀ lo st'/\Up (arrOf st') lo n) ?mstep (λ_ _ z=>z) ⟨rfl,R4,U4⟩) ?mpost)
    case mstep=>
     rintro y c st5 _ _ ⟨rfl,R5,U5⟩
     try dsimp only
     refine aJ (gL ?_)
     by_cases hs:(pendingOf st5).size>1
     .rw[ai hs]
      obtain⟨v,hv⟩:∃v,(pendingOf st5)[(pendingOf st5).size-2]?=some v:=⟨_,Array.getElem?_eq_getElem (by lia)⟩
      rw[hv]
      obtain⟨v1,v2,older⟩:=v
      try dsimp only
      by_cases ho:older<=power' a₀.size (2*s1+n1) (2*s1+n1+n1+n) a₀.size
      .rw[ai ho]
       exact aL ⟨rfl,R5,U5⟩
      rw[aj ho]
      refine aJ (jD9 h0 R5 (by lia) (by lia) λst6 R6 _ E6=>?_)
      exact aL ⟨rfl,R6,U5.same λk k1 _=>E6 k k1⟩
     .rw[aj hs]
      exact aL ⟨rfl,R5,U5⟩
    case mpost=>
     rintro c st5 ⟨rfl,R5,U5⟩
     try dsimp only
     refine aJ (eh (aJ (eh (aL (last (setPending st5 ((pendingOf st5).modify ((pendingOf st5).size-1) λx=>(x.1,x.2.1,power' a₀.size (2*s1+n1) (2*s1+n1+n1+n) a₀.size))) ⟨R5.perm,R5.kind,R5.failed,?_⟩ U5)))))
     show Runs (arrOf st5) (Array.modify _ _ _).toList 0 lo
     rw[Array.toList_modify]
     exact Runs.mod (f:=λx=>(x.1,x.2.1,power' a₀.size (2*s1+n1) (2*s1+n1+n1+n) a₀.size)) (λ_=>⟨rfl,rfl⟩) R5.runs
 case post=>
  rintro c st1 ⟨rfl,R1⟩
  try dsimp only
  refine aJ (db (bZ (I:=λx c st'=>c=(none,())/\RI a₀ a₀.size st'/\1<=(pendingOf st').size/\(pendingOf st').size+x<=a₀.size)
   (Q:=λc st'=>c=(none,())/\RI a₀ a₀.size st'/\(pendingOf st').size=1) ?step2 ?fin2 ⟨rfl,R1,?a1,?a2⟩) ?post2)
  case a1=>
   have:=R1.runs
   cases hp:(pendingOf st1).toList with
   |nil=>
    rw[hp] at this
    have:0=a₀.size:=this
    lia
   |cons v t=>
    have:=bB List.length hp
    rw[aM,aV] at this
    lia
  case a2=>
   have:=R1.runs.le
   rw[aM] at this
   lia
  case fin2=>
   rintro c st2 ⟨_,_,h2,h3⟩
   lia
  case post2=>
   rintro c st2 ⟨rfl,R2,h2⟩
   try dsimp only
   refine aL (h st2 R2.perm R2.failed ?_)
   have rr:=R2.runs
   cases hp:(pendingOf st2).toList with
   |nil=>
    rw[<- aM,hp] at h2
    cases h2
   |cons v t=>
    have:=bB List.length hp
    rw[aM,h2,aV] at this
    have:t=[]:=ef (by lia)
    subst this
    rw[hp] at rr
    obtain⟨v1,v2,v3⟩:=v
    obtain⟨q1,q2,q3,q4⟩:=rr
    have q4:0+v2=a₀.size:=q4
    subst q1
    exact λi j hij hj=>q3 i j (bb _) hij (by lia)
  case step2=>
   rintro x c st2 _ hx ⟨rfl,R2,h2,h3⟩
   try dsimp only
   refine aJ (gL ?_)
   by_cases hs:(pendingOf st2).size<=1
   .rw[ai hs]
    exact aL ⟨rfl,R2,by lia⟩
   rw[aj hs]
   refine aJ (jD9 h0 R2 (ak _) ?_ λst3 R3 e3 _=>?_)
   .have ite_le:∀(c:Prop) [Decidable c] (a b:Nat),(if c then a else b)<=max a b:=λc _ a b=>by
     by_cases z:c
     .rw[ai z];lia
     .rw[aj z];lia
    refine gU (Nat.add_le_add_right (ite_le _ _ _) 1) ?_
    lia
   .exact aL ⟨rfl,R3,by lia,by lia⟩
end
end TM
namespace TM
open PySem PySem.Spec PyProof.Rows
section
variable {prog:Program}{w:World}{A:Around}{E:Value->Shared->Prop}{s:Shared}
end
end TM
namespace L2
open PySem PySem.Spec PyProof.Rows
section
variable {prog:Program}{w:World}{A:Around}{E:Value->Shared->Prop}{s:Shared}{d:Addr}{kvs:List (Key×Value)}
end
structure JK (X:Cx)(kws:List Keyword)(t:TA):Prop where
 h:PK X kws t
variable {X:Cx}
section
variable {x:Str}{p pos kpos:Pos}{e:Expr}{es:List Expr}{kws:List Keyword}{t tk:TA}{te:TE}{nm:Option Str}{ks:List Str}{id:String}{r:List V->List V->Hp->VK->Prop}
def jTI:JK X [] tNil:=⟨jSI⟩
def jRG(ha:JE X e te)(hr:JK X kws t):JK X (⟨nm,e,kpos⟩::kws) (tCons te t):=⟨jQI ha.h hr.h⟩
end
theorem jOS{K:W.Frag}{tp:Bool}{l:Addr}{xs:List V}{g:TG}{tb:TS}{D:Ends}{σ:St}{H:Hp}(Pv:Nat->St->Hp->Prop)(h0:Pv 0 σ H)(hl:∀i σ H,Pv i σ H->Sq tp K H l xs)
  (hs:∀i x T σ H,xs[i]?=some x->H T=none->Pv i σ H->g (.ref T) σ (upd H T (.tup [.int (i:Int),x])) λσ2 H2=>tb {D with nx:=Pv (i+1),ct:=Pv (i+1),bk:=D.nx} σ2 H2) (hd:∀σ H,Pv xs.length σ H->D.nx σ H):
  ∃W:Nat->Nat->St->Hp->Prop,(∃m,W 0 m σ H)/\∀i m σ H,W i m σ H->
   ((Ite tp K l).stop i H/\D.nx σ H)\/((Ite tp K l).go i H/\∃N:St->Hp->Prop,(∀σ' H',N σ' H'->∃m',m'<m/\W (i+1) m' σ' H')/\∀x H',(Ite tp K l).yld i H x H'->g x σ H' λσ2 H2=>tb {D with nx:=N,ct:=N,bk:=D.nx} σ2 H2):=by
 refine⟨λi m σ H=>m=xs.length-i/\i<=xs.length/\Pv i σ H,⟨_,rfl,bb _,h0⟩,?_⟩
 rintro i m σ H ⟨rfl,hi,p⟩
 have s1:=hl i σ H p
 by_cases hlt:i<xs.length
 .refine .inr ⟨⟨xs,xs[i],s1,by simp[hlt]⟩,Pv (i+1),λσ' H' p'=>⟨xs.length-(i+1),by lia,rfl,hlt,p'⟩,λv H'' y=>?_⟩
  obtain⟨T,x,e1,e2,e3,e4⟩:=y
  subst e2 e3
  exact hs i x T σ _ (e4 xs s1) e1 p
 .have e:i=xs.length:=by lia
  subst e
  exact .inl ⟨⟨xs,s1,ak _⟩,hd σ H p⟩
def All2{α β:Type}(R:α->β->Prop):List α->List β->Prop
 |[],[]=>True
 |a::as,b::bs=>R a b/\All2 R as bs
 |_,_=>False
section
variable {α β:Type}{R S:α->β->Prop}
def All2.len:∀{as:List α}{bs:List β},All2 R as bs->as.length=bs.length
 |[],[],_=>rfl
 |_::_,_::_,h=>bB (· +1) (All2.len h.2)
def All2.imp(f:∀a b,R a b->S a b):∀{as:List α}{bs:List β},All2 R as bs->All2 S as bs
 |[],[],_=>trivial
 |_::_,_::_,h=>⟨f _ _ h.1,All2.imp f h.2⟩
def All2.snoc{a:α}{b:β}:∀{as:List α}{bs:List β},All2 R as bs->R a b->All2 R (as++[a]) (bs++[b])
 |[],[],_,h=>⟨h,trivial⟩
 |_::_,_::_,h,k=>⟨h.1,All2.snoc h.2 k⟩
def All2.get':∀{as:List α}{bs:List β}{i:Nat}{a:α},All2 R as bs->as[i]?=some a->∃b,bs[i]?=some b/\R a b
 |[],[],i,b,_,h=>by simp at h
 |a::_,b::_,0,x,h,e=>by
  simp at e
  subst e
  exact⟨b,rfl,h.1⟩
 |_::_,_::_,i+1,x,h,e=>by
  obtain⟨b,h1,h2⟩:=All2.get' h.2 (i:=i) (a:=x) (by simpa using e)
  exact⟨b,by simpa using h1,h2⟩
def All2.append:∀{as as':List α}{bs bs':List β},All2 R as bs->All2 R as' bs'->All2 R (as++as') (bs++bs')
 |[],_,[],_,_,h=>h
 |_::_,_,_::_,_,h,k=>⟨h.1,All2.append h.2 k⟩
end
end L2
namespace TM
open PySem PySem.Spec PyProof.Rows PySem.W
open HT (lexLt lexLt_cons)
open L2 (All2)
def jLK:∀x:List Int,lexLt x x=false
 |[]=>rfl
 |a::x=>by rw[lexLt_cons,ai rfl];exact jLK x
theorem jLI:∀{x y z:List Int},lexLt x y=true->lexLt y z=true->lexLt x z=true
 |[],[],_,h,_=>by cases h
 |[],_::_,[],_,h=>by cases h
 |[],_::_,_::_,_,_=>rfl
 |_::_,[],_,h,_=>by cases h
 |_::_,_::_,[],_,h=>by cases h
 |a::x,b::y,c::z,h,k=>by
  rw[lexLt_cons] at h k ⊢
  by_cases e1:a=b
  .rw[ai e1] at h
   by_cases e2:b=c
   .rw[ai e2] at k
    rw[ai (e1.trans e2)]
    exact jLI h k
   .rw[aj e2] at k
    rw[aj (e1 ▸ e2),e1]
    exact k
  .rw[aj e1] at h
   have h:=aG h
   by_cases e2:b=c
   .rw[aj (e2 ▸ e1),<- e2]
    exact ax h
   .rw[aj e2] at k
    have k:=aG k
    rw[aj (by lia)]
    exact ax (by lia)
theorem jLJ:∀{x y:List Int},lexLt x y=false->lexLt y x=false->x=y
 |[],[],_,_=>rfl
 |[],_::_,h,_=>by cases h
 |_::_,[],_,h=>by cases h
 |a::x,b::y,h,k=>by
  rw[lexLt_cons] at h k
  by_cases e:a=b
  .rw[ai e] at h
   rw[ai e.symm] at k
   rw[e,jLJ h k]
  .rw[aj e] at h
   rw[aj (λz=>e z.symm)] at k
   have:=eg h
   have:=eg k
   lia
def rk(ws:List (List Int))(x:List Int):Int:=((ws.countP λz=>lexLt z x:Nat):Int)
theorem jF6{p q:List Int->Bool}(h:∀z,p z=true->q z=true):∀ws:List (List Int),ws.countP p<=ws.countP q
 |[]=>ak _
 |a::ws=>by
  have:=jF6 h ws
  rw[ge,ge]
  have:=h a
  cases hp:p a<;>cases hq:q a<;>simp_all<;>lia
theorem jJ1{p q:List Int->Bool}(h:∀z,p z=true->q z=true){x:List Int}(hp:p x=false)(hq:q x=true):∀{ws:List (List Int)},x∈ws->ws.countP p<ws.countP q
 |a::ws,hx=>by
  rw[ge,ge]
  rcases ay.mp hx with e|hx
  .have:=jF6 h ws
   rw[<- e,hp,hq]
   simp
   lia
  .have:=jJ1 h hp hq hx
   have:=h a
   cases hpa:p a<;>cases hqa:q a<;>simp_all<;>lia
theorem rk_lt{ws:List (List Int)}{x y:List Int}(hx:x∈ws):decide (rk ws x<rk ws y)=lexLt x y:=by
 unfold rk
 cases h:lexLt x y with
 |true=>
  have:=jJ1 (p:=λz=>lexLt z x) (q:=λz=>lexLt z y) (λz hz=>jLI hz h) (jLK x) h hx
  exact ax (by lia)
 |false=>
  refine aN ?_
  by_cases k:lexLt y x=true
  .have:=jF6 (p:=λz=>lexLt z y) (q:=λz=>lexLt z x) (λz hz=>jLI hz k) ws
   lia
  .have:=jLJ h (Bool.eq_false_iff.mpr k)
   rw[this]
   lia
variable {prog:Program}{w:World}{A:Around}{E:Value->Shared->Prop}{s:Shared}
section
variable {kd:SortKind}{f:Value->List Int}
end
end TM
namespace L2
open PySem PySem.Spec PyProof.Rows
variable {h:Heap}{P:Program}{ws:List (List Int)}{w:World}{D:Addr}{ks:List Value}{H:Hp}
variable {X:Cx}
noncomputable def refV:Value->V
 | .ref a=> .ref a
 |_=> .non
structure KeyS where
 TK:Heap->Value->List Int->Prop
 KR:Hp->V->List Int->Prop
 kd:List (List Int)->SortKind
 dc:Heap->Value->List Int
structure KeyOk (S:KeyS):Prop where
 of:∀{P:Program}{w:World}{H:Hp}{h:Heap}{v:V}{u:Value}{l:List Int},HOk P w H h->RelV v u->S.KR H v l->S.TK h u l
 mono:∀{H H':Hp}{v:V}{l:List Int},TupsK H H'->S.KR H v l->S.KR H' v l
 dec:∀{h:Heap}{u:Value}{l:List Int},S.TK h u l->S.dc h u=l
 kind:∀{prog:Program}{w:World}{A:Around}{E:Value->Shared->Prop}{s:Shared}{vs:List Value}{ws:List (List Int)}{Q:SortKind->Shared->Prop},All2 (S.TK s.heap) vs ws->vs≠[]->Q (S.kd ws) s->wpAny (model prog w) A (keyKind' vs.toArray) Q E s
 lt:∀{prog:Program}{w:World}{A:Around}{E:Value->Shared->Prop}{s:Shared}{ws:List (List Int)}{u v:Value}{x y:List Int}{Q:Bool->Shared->Prop},S.TK s.heap u x->S.TK s.heap v y->A.units+2<cLine->Q (HT.lexLt x y) s->wpAny (model prog w) A (keyLt' (S.kd ws) u v) Q E s
variable {S:KeyS}
section
variable {prog:Program}{w:World}{A:Around}{E:Value->Shared->Prop}{s:Shared}
noncomputable abbrev odK(S:KeyS)(ws:List (List Int))(h:Heap)(ks:List Value):TM.Od:=⟨S.kd ws,λp=>TM.rk (ks.map (S.dc h)) (S.dc h p.1),λp=>p.1∈ks⟩
theorem ltK(ok:KeyOk S)(t:All2 (S.TK s.heap) ks ws)(room:A.units+2<cLine): @TM.LtOk prog w A s (odK S ws s.heap ks):= @TM.LtOk.mk prog w A s (odK S ws s.heap ks) λ{E st x y Q} hk hx hy h=>by
 have e:decide (@TM.key (odK S ws s.heap ks) x< @TM.key (odK S ws s.heap ks) y)=HT.lexLt (S.dc s.heap x.1) (S.dc s.heap y.1):=TM.rk_lt (bv hx)
 rw[e] at h
 rw[lt'_eq]
 refine aJ (gL ?_)
 rw[show kindOf st=S.kd ws from hk]
 obtain⟨i,hi⟩:=cg hx
 obtain⟨j,hj⟩:=cg hy
 obtain⟨l1,_,t1⟩:=t.get' hi
 obtain⟨l2,_,t2⟩:=t.get' hj
 rw[ok.dec t1,ok.dec t2] at h
 exact aJ (iJ (dQ (ok.lt t1 t2 room ⟨rfl,aL h⟩)))
def jSD{α:Type}{R:α->α->Prop}:∀{l:List α},l.length<=1->l.Pairwise R
 |[],_=> .nil
 |[_],_=>iK _ _
 |_::_::_,h=>absurd h (by simp)
theorem jLL(ok:KeyOk S){kS:Addr}{its:List Value}{e1 e:Nat}{P:PySem.Fin->Shared->Prop}(hl:ks.length=its.length)(hz:its.length<=sizeLine)(t:All2 (S.TK s.heap) ks ws)(room:A.units+2<cLine)
  (hD:s.heap.get? D=some (seqObj "list" #[] e1)) (hK:s.heap.get? kS=some (seqObj "list" ks.toArray e)) (ne:D≠kS)
  (h:∀ps:List (Value×Value),ps.Perm (ks.zip its)->ps.Pairwise (λp q=>HT.lexLt (S.dc s.heap q.1) (S.dc s.heap p.1)=false)->
   P (.done (.ret .none)) {s with heap:=(s.heap.update kS (Obj.mapSeq λ_=>#[])).update D (Obj.mapSeq λ_=>(ps.map Prod.snd).toArray)}):
  wpAny (model prog w) A (ksk_end D false its.toArray e1 (.ref kS) ks.toArray) P E s:=by
 have hpz:(ks.toArray.zip its.toArray).toList=ks.zip its:=by simp
 have hpn:(ks.toArray.zip its.toArray).size=its.length:=by rw[<- aM,hpz,cU];lia
 have hD2:(s.heap.update kS (Obj.mapSeq λ_=>(#[]:Array Value))).get? D=some (seqObj "list" #[] e1):=(bE _ _ (bO ne)).trans hD
 have tail:∀st:SortSt,failedOf st=none->(arrOf st).Perm (ks.toArray.zip its.toArray)->(arrOf st).toList.Pairwise (λp q=>HT.lexLt (S.dc s.heap q.1) (S.dc s.heap p.1)=false)->wpAny (model prog w) A (ksk_tail D false e1 (.ref kS) st) P E s:=λst hf hp hs=>by
  unfold ksk_tail
  dsimp only
  refine ab (iB hK rfl ?_ (by rw[ao];lia) (bb _))
  refine ab (im ?_)
  refine ab (seqEpoch_at hD2 rfl ?_)
  refine ab (iB hD2 rfl ?_ (bb _) ?_)
  .rw[hf]
   simp only[bne_self_eq_false,hG,jh]
   refine ah ?_
   have:=h (arrOf st).toList (by rw[<- hpz];exact cM.mp hp) hs
   have e:∀xs:Array Keyed,(xs.toList.map Prod.snd).toArray=xs.map (·.2):=λxs=>by rw[<- Array.toList_map,dO]
   rw[e] at this
   exact this
  .simp only[hG,jh]
   rw[Array.size_map,hp.size_eq,hpn]
   lia
 unfold ksk_end
 dsimp only
 simp only[hG,jh]
 by_cases few:its.toArray.size<2
 .rw[ai few,ai few]
  refine ab (ah ?_)
  rw[StateT.run_pure]
  refine ab (ah ?_)
  dsimp only
  refine tail (SortSt.mk' general' _ #[] 7 none) rfl (Array.Perm.refl _) ?_
  show (ks.toArray.zip its.toArray).toList.Pairwise _
  rw[hpz]
  rw[ao] at few
  have:(ks.zip its).length<=1:=by rw[cU];lia
  exact jSD this
 .rw[aj few,aj few]
  rw[ao] at few
  have nek:ks≠[]:=λz=>by rw[z] at hl;simp at hl;lia
  have allk: @TM.AllI (odK S ws s.heap ks) (ks.toArray.zip its.toArray).toList:=λp hp=>by
   rw[hpz] at hp
   exact(cR hp).1
  letI iO:TM.Od:=odK S ws s.heap ks
  haveI iL:TM.LtOk prog w A s:=ltK ok t room
  refine ab (ok.kind t nek (ab (cn (TM.wpS_sortRunsAny (a₀:=ks.toArray.zip its.toArray) (st:=SortSt.mk' (S.kd ws) _ #[] 7 none)
   (Q:=λ_ st'=>(arrOf st').Perm (ks.toArray.zip its.toArray)/\failedOf st'=none/\TM.STo (arrOf st') (ks.toArray.zip its.toArray).size)
   allk ⟨Array.Perm.refl _,rfl,rfl,rfl⟩ (by rw[hpn];lia) λst' a1 a2 a3=>⟨a1,a2,a3⟩) ?_ λ_ _ e=>e)))
  rintro ⟨⟨⟩,st'⟩ s' ⟨rfl,p1,p2,p3⟩
  dsimp only at p1 p2 p3 ⊢
  refine tail st' p2 p1 ?_
  have pl:=cM.mp p1
  rw[cV]
  intro i j hi hj hij
  rw[aM] at hi hj
  have sz:=p1.size_eq
  have k:=p3 i j (dj hij) (by lia)
  have ei:(arrOf st')[i]?=some (arrOf st')[i]:=ko _ i hi
  have ej:(arrOf st')[j]?=some (arrOf st')[j]:=ko _ j hj
  have m2:(arrOf st')[j].1∈ks:=allk _ (pl.mem_iff.mp (by simp))
  rw[@TM.KI_key (odK S ws s'.heap ks) _ _ _ ei,@TM.KI_key (odK S ws s'.heap ks) _ _ _ ej] at k
  have e:decide (@TM.key (odK S ws s'.heap ks) (arrOf st')[j]< @TM.key (odK S ws s'.heap ks) (arrOf st')[i])=HT.lexLt (S.dc s'.heap (arrOf st')[j].1) (S.dc s'.heap (arrOf st')[i].1):=TM.rk_lt (bv m2)
  rw[jp,jp,<- e]
  exact aN (Int.not_lt.mpr k)
end
def Un.out{fs:List Addr}{H H':Hp}{h h1 h2:Heap}(u:Un fs [] H H' h h1)(k:∀b,b<h.objs.size->h2.get? b=h1.get? b):Un fs [] H H' h h2 where
 keep b o e n f x:=(k b (aw e)).trans (u.keep b o e n f x)
 slot b o e n f x:=by obtain⟨sl,q⟩:=u.slot b o e n f x;exact⟨sl,(k b (aw e)).trans q⟩
 free:=u.free
 there b o e x:=by obtain⟨o',q⟩:=u.there b o e x;exact⟨o',(k b (aw e)).trans q⟩
 tups:=u.tups
 frzs:=u.frzs
 tbls:=u.tbls
def Un.track{fs:List Addr}{H':Hp}{h1:Heap}{o:HO}(ok:HOk P w H h)(u:Un fs [] H H' h h1)(hD:h.objs.size<=D):Un fs [] H (upd H' D o) h h1 where
 keep:=u.keep
 slot:=u.slot
 free b ob e n x:=by rw[j7 (aS (aR (aw e) hD))];exact u.free b ob e n x
 there:=u.there
 tups b xs e:=by rw[j7 (aS (aR (ok.lt e) hD))];exact u.tups b xs e
 frzs b ob q e:=by rw[j7 (aS (aR (ok.lt e) hD))];exact u.frzs b ob q e
 tbls b ps e:=by rw[j7 (aS (aR (ok.lt e) hD))];exact u.tbls b ps e
def HOk.adopt{o:HO}(ok:HOk P w H h)(hn:H D=none)(new:ObjOk P w (upd H D o) h D o):HOk P w (upd H D o) h:=λb u e=>by
 by_cases hb:b=D
 .subst hb;rw[j5] at e;cases e;exact new
 .rw[j7 hb] at e
  exact(ok b u e).stay (λc v _ q=>q) (λc q=>by rw[j7 (j8 q hn)];exact q) λc xs q=>by rw[j7 (j8 q hn)];exact q
def Inv.repin{ad:List (Addr×Obj)}{σ:St}{H:Hp}{s:Shared}{D kS:Addr}{oD oK oK':Obj}{f:Obj->Obj}(I:Inv X (ad++[(D,oD),(kS,oK)]) σ H s)(fk:FpOk X ad H kS)(ne:D≠kS)(e:(s.heap.update kS f).get? kS=some oK')(hc:∀v,oK'.data≠.cell v):
  Inv X (ad++[(D,oD),(kS,oK')]) σ H {s with heap:=s.heap.update kS f}:=by
 obtain⟨f0,f1,f2,f3,f4,f5⟩:=fk
 have I1:Inv X (ad++[(D,oD)]) σ H s:=I.pins_of λp hp=>I.pin p (am _ (by
  rcases az.mp hp with z|z
  .exact aE _ z
  .exact am _ (by rw[aW] at z;rw[z];exact au ..)))
 have I2:Inv X (ad++[(D,oD)]) σ H {s with heap:=s.heap.update kS f,toks:=s.toks}:=I1.turned (it:=kS) (λb o hb q=>(bE _ _ (bO hb)).trans q) f0 f1 f3 f4 λp hp=>by
  rcases az.mp hp with z|z
  .exact f5 p (aE _ z)
  .rcases az.mp z with z|z
   .exact f5 p (am _ z)
   .rw[aW] at z
    rw[z]
    exact ne
 refine I2.pins_of λp hp=>?_
 rcases az.mp hp with z|z
 .exact I2.pin p (am _ (aE _ z))
 .rcases ay.mp z with z|z
  .exact I2.pin p (am _ (am _ (by rw[z];exact au ..)))
  .rw[aW] at z
   rw[z]
   exact⟨e,f0,f1,f2,hc⟩
def jPH(ok:KeyOk S)(hk:HOk P w H h){KF:V->List Int}:∀{kvs:List V}{ks:List Value}{us:List V},Vals kvs ks->All2 (λkv v=>S.KR H kv (KF v)) kvs us->All2 (S.TK h) ks (us.map KF)
 |[],_,[],.nil,_=>trivial
 |_::_,_,_::_,.cons r rs,⟨t,ts⟩=>⟨ok.of hk r t,jPH ok hk rs ts⟩
def jFR:∀{us:List V}{its:List Value},Vals us its->(∀v∈us,∃a,v=V.ref a)->its.map refV=us
 |[],_,.nil,_=>rfl
 |v::us,_,.cons r rs,h=>by
  obtain⟨a,e⟩:=h v (au ..)
  subst e
  cases r
  rw[aP,jFR rs λw hw=>h w (av _ hw)]
  rfl
def jFQ:∀{its:List Value},(∀u∈its,∃a,u=Value.ref a)->Vals (its.map refV) its
 |[],_=> .nil
 |u::its,h=>by
  obtain⟨a,e⟩:=h u (au ..)
  subst e
  exact .cons rfl (jFQ λw hw=>h w (av _ hw))
def jFE:∀{us:List V}{its:List Value},Vals us its->(∀v∈us,∃a,v=V.ref a)->∀u∈its,∃a,u=Value.ref a
 |[],_,.nil,_,u,hu=>by cases hu
 |v::us,_,.cons r rs,h,u,hu=>by
  obtain⟨a,e⟩:=h v (au ..)
  subst e
  cases r
  rcases ay.mp hu with z|z
  .exact⟨a,z⟩
  .exact jFE rs (λw hw=>h w (av _ hw)) u z
def jK2{ks its:List Value}{f:Value->List Int}{g:Value->List Int}:∀{ks its:List Value}{us:List V}{KF:V->List Int},ks.map f=us.map KF->its.map refV=us->∀p∈ks.zip its,f p.1=KF (refV p.2)
 |[],_,_,_,_,_,p,hp=>by cases hp
 |_::_,[],_,_,_,_,p,hp=>by cases hp
 |k::ks,u::its,us,KF,e1,e2,p,hp=>by
  subst e2
  rw[aP,aP,aP] at e1
  injection e1 with q1 q2
  rw[dE] at hp
  rcases ay.mp hp with z|z
  .rw[z];exact q1
  .exact jK2 (ks:=ks) (its:=its) (f:=f) (g:=g) q2 rfl p z
def jP0(ok:KeyOk S) :∀{ks:List Value}{ws:List (List Int)},All2 (S.TK h) ks ws->ks.map (S.dc h)=ws
 |[],[],_=>rfl
 |_::_,_::_,⟨t,r⟩=>by rw[aP,ok.dec t,jP0 ok r]
end L2
namespace TM
open PySem PySem.Spec PyProof.Rows PySem.W
open L2 (All2)
section
variable {prog:Program}{w:World}{A:Around}{E:Value->Shared->Prop}{s:Shared}
end
end TM
namespace L2
open PySem PySem.Spec PyProof.Rows
variable {E:Value->Shared->Prop}{s:Shared}{w:World}{a:Expr}{p:Pos}
variable {X:Cx}{S:KeyS}
def jPT(X:Cx)(f:Value)(ks:List Str)(r:St->List V->List V->Hp->VK->Prop):Prop:=
 ∀(ad:List (Addr×Obj)) (s:Shared) (σ:St) (H:Hp) (xs zs:List V) (us ws:List Value) (Q:VK),Inv X ad σ H s->Vals xs us->Vals zs ws->r σ xs zs H Q->
  wpAny (model X.prog X.w) X.A (call f us (ks.zip ws)) (EP X ad σ Q) X.xe s
def tCBKS(r:St->List V->List V->Hp->VK->Prop)(t tk:TA):TE:=λσ H Q=>t σ H λvs H1=>tk σ H1 λzs H2=>r σ vs zs H2 Q
section
variable {x:Str}{p pos kpos:Pos}{e:Expr}{es:List Expr}{kws:List Keyword}{t tk:TA}{te:TE}{nm:Option Str}{ks:List Str}{id:String}{r:St->List V->List V->Hp->VK->Prop}
theorem jJR(hc:jPT X (.builtin id) ks r)(hg:Gl1 X x)(hm:X.mg x=none)(hv:bootBuiltins x=some (.builtin id))(ha:JA X (e::es) t)(hkw:JK X kws tk)(he:starEach (e::es) X.env=(false,eval e X.env)::starEach es X.env)
  (hn:x≠"__name__" :=by decide) (hdb:(x==("__debug__":Str))=false:=by decide) (hall:(backToKw pos (keywordEach kws X.env)).all (·.1.isSome)=true:=by rfl) (hks:(backToKw pos (keywordEach kws X.env)).filterMap (·.1)=ks:=by rfl)
  (hpl:(backTo pos (starEach es X.env)).any (·.1)=false:=by rfl) (hkn:(backToKw pos (keywordEach kws X.env)).any (·.1.isNone)=false:=by rfl):JE X (.Call (.Name x p) (e::es) kws pos) (tCBKS r t tk):=by
 refine⟨λad s σ H Q I h=>?_⟩
 refine fh (jCU I hg.a hm hv ?_ hn hdb)
 refine callWith_kw (ln (ha.h pos ad s σ H _ I h) λus s1 ⟨vs,H1,I1,r1,q1⟩=>ln (hkw.h pos ad s1 σ H1 _ I1 q1) λws s2 ⟨zs,H2,I2,rz,q2⟩=>?_) (by rw[he];rfl) (by rw[he];exact hpl) hall hkn
 rw[hks]
 exact hc ad s2 σ H2 vs zs us ws Q I2 r1 rz q2
end
theorem jG0(ok:KeyOk S){Z:Shared->Hp->Prop}{k:Nat}{q:Addr}{zh:Hp->Prop}{sp:Sp}(F:Callee X.prog X.w X.K X.mg X.base Z zh k q sp)(zo:∀H H',Ext H H'->zh H->zh H')(hr:Room k X.A.in1.in1){ad:List (Addr×Obj)}{σ:St}{H:Hp}{D kS:Addr}{oD:Obj}{us:List V}{KF:V->List Int}
  (hZ:∀ad s H,Inv X ad σ H s->Z s H) (hkey:∀v∈us,∀(H1:Hp) (Q1:VK),Ext H H1->(∀r H2,S.KR H2 r (KF v)->Ext H1 H2->Q1 r H2)->sp [v] H1 Q1 E0) (fk:FpOk X ad H kS) (ne:D≠kS) (hkS:s.heap.objs.size<=kS)
  {body:Value->PUnit->Sem (ForInStep PUnit)}(hb:∀x (sj:Shared) (C:ForInStep PUnit->Shared->Prop),wpAny (model X.prog X.w) X.A.in1.in1 (call (.ref q) [x]) (λkv s''=>∃ks e,s''.heap.get? kS=some (seqObj "list" ks e)/\ks.size<sizeLine/\C (.yield ⟨⟩) {s'' with heap:=s''.heap.update kS (Obj.mapSeq (·.push kv))}) (λ_ _=>False) sj->wpAny (model X.prog X.w) X.A.in1.in1 (body x ⟨⟩) C E sj):
  ∀(r:List Value) (rv:List V) (ks:List Value) (kvs dn:List V) (e:Nat) (sj:Shared) (Hj:Hp),Vals rv r->(∀v∈rv,v∈us)->ks.length+r.length<=sizeLine->
   Inv X (ad++[(D,oD),(kS,seqObj "list" ks.toArray e)]) σ Hj sj->Un (frs X.stack) [] H Hj s.heap sj.heap->Ext H Hj->zh Hj->Vals kvs ks->All2 (λkv v=>S.KR Hj kv (KF v)) kvs dn->
   wpAny (model X.prog X.w) X.A.in1.in1 (forIn r PUnit.unit body) (λ_ s'=>∃ks' kvs' e' H',Inv X (ad++[(D,oD),(kS,seqObj "list" ks'.toArray e')]) σ H' s'/\Un (frs X.stack) [] H H' s.heap s'.heap/\Ext H H'/\Vals kvs' ks'/\All2 (λkv v=>S.KR H' kv (KF v)) kvs' (dn++rv)) E sj
 |[],rv,ks,kvs,dn,e,sj,Hj,hv,hm,hz,I,u,ex,z,hk,al=>by
  rw[gX]
  cases hv
  exact ah ⟨ks,kvs,e,Hj,I,u,ex,hk,by rw[bS];exact al⟩
 |x::r,rv,ks,kvs,dn,e,sj,Hj,hv,hm,hz,I,u,ex,z,hk,al=>by
  cases hv with
  | @cons v _ rv' _ rx rs=>
  rw[aV] at hz
  rw[gz]
  refine ab (hb x sj _ ?_)
  have sp1:=hkey v (hm v (au ..)) Hj (λr H2=>S.KR H2 r (KF v)/\Ext Hj H2) ex λr H2 h1 h2=>⟨h1,h2⟩
  refine wpAny_call (eS (F.run X.A.in1.in1 X.stack sj Hj [x] [v] _ E0 hr I.env0.in1.in1 (hZ _ _ _ I) z (.cons rx .nil) sp1) λfr s' hq=>?_)
  cases fr with
  |error e=>exact hq.elim
  |ok fl=>
   cases fl with
   |ret kv=>
    obtain⟨v',H2,os,bare,un,hok,rel,kr,e2⟩:=hq
    have I2:=Inv.call' I os un hok bare λb z=>absurd z (by simp)
    obtain⟨gk,nk,_,_,_⟩:=I2.pin (kS,seqObj "list" ks.toArray e) (am _ (am _ (av _ (au ..))))
    have ea:ks.toArray.push kv=(ks++[kv]).toArray:=by simp
    obtain⟨c2,hc2⟩:∃c2,(s'.heap.update kS (Obj.mapSeq (·.push kv))).get? kS=some (seqObj "list" (ks++[kv]).toArray c2):=⟨_,by rw[<- ea];exact get?_update_seq gk (·.push kv)⟩
    have I3:=I2.repin (oK':=seqObj "list" (ks++[kv]).toArray c2) ⟨nk,fk.2⟩ ne hc2 (by intro v q;cases q)
    refine⟨_,e,gk,by rw[ao];lia,?_⟩
    show wpAny (model X.prog X.w) X.A.in1.in1 (forIn r PUnit.unit body) _ E _
    have u3:=(u.trans un).out (h2:=s'.heap.update kS (Obj.mapSeq (·.push kv))) λb hb=>bE _ _ (cz (aR hb hkS))
    have:=jG0 ok F zo hr hZ hkey fk ne hkS hb r rv' (ks++[kv]) (kvs++[v']) (dn++[v]) c2 _ H2 rs (λw hw=>hm w (av _ hw)) (by rw[aK,fQ];lia) I3 u3 (ex.trans e2) (zo _ _ e2 z) (hk.append (.cons rel .nil)) (All2.snoc (All2.imp (λa b q=>ok.mono (λc xs h=>e2 c _ h) q) al) kr)
    rw[be] at this
    exact this
   |next=>exact False.elim hq
   |brk=>exact False.elim hq
   |cont=>exact False.elim hq
theorem jFA{ι:Type}(ok:KeyOk S){k:Nat}{Z:ι->Shared->Hp->Prop}{G:ι->St->Prop}{sp:ι->Sp}{zh:Addr->Addr->Hp->Prop}(F:∀i q c,Callee X.prog X.w X.K X.mg X.base (Z i) (zh q c) k q (sp i))(hZ:∀i ad s σ H,Inv X ad σ H s->G i σ->Z i s H)(zo:∀q c H H',Ext H H'->zh q c H->zh q c H')(hr:Room (k+2) X.A):
  jPT X (.builtin "sorted") [Str.ofString "key"] (λσ xs zs H Q=>∃(p:Addr) (us:List V) (q c:Addr) (KF:V->List Int) (i:ι),G i σ/\xs=[.ref p]/\zs=[.ref q]/\SqL X.K H p us/\zh q c H/\(∀v∈us,∃a,v=V.ref a)/\
   (∀v∈us,∀(H1:Hp) (Q1:VK),Ext H H1->(∀r H2,S.KR H2 r (KF v)->Ext H1 H2->Q1 r H2)->sp i [v] H1 Q1 E0)/\
   ∀(l:Addr) (us':List V) (H':Hp),H l=none->us'.Perm us->us'.Pairwise (λu v=>HT.lexLt (KF v) (KF u)=false)->Ext H H'->H' l=some (.lst us')->Q (.ref l) H'):=by
 intro ad s σ H xs zs us0 ws0 Q I r1 r2 h
 obtain⟨p,us,q,c,KF,i,gi,rfl,rfl,hp,hz,hrf,hkey,fin⟩:=h
 obtain⟨u,rfl,rx⟩:=r1.one
 cases rx
 obtain⟨u2,rfl,ry⟩:=r2.one
 cases ry
 obtain⟨its,rv,pl,hlen⟩:=I.list hp
 have rl:=rv.length
 show wpAny (model X.prog X.w) X.A (call (.builtin "sorted") [.ref p] [(Str.ofString "key",.ref q)]) (EP X ad σ Q) X.xe s
 refine call_function_entry_kw kind_sorted plain_sorted entry_sorted (ksk_s1 _ _) ?_
 unfold Builtin.«sorted»
 refine ab (m:=checkCount "sorted" 1 1 _) (ah ?_)
 refine ab (collect_list pl.isList ?_ (by lia))
 refine ab (iy ?_ (by lia))
 have hsz:((s.heap.push (seqObj "list" #[] 0)).update s.heap.objs.size (Obj.mapSeq (· ++its.toArray))).objs.size=s.heap.objs.size+1:=by
  rw[Heap.size_update,iU]
 have hoL:(((s.heap.push (seqObj "list" #[] 0)).update s.heap.objs.size (Obj.mapSeq (· ++its.toArray))).push (seqObj "list" its.toArray 0)).get? (s.heap.objs.size+1)=some (seqObj "list" its.toArray 0):=by
  rw[<- hsz];exact aD _ rfl
 have k5:∀b o,s.heap.get? b=some o->(((s.heap.push (seqObj "list" #[] 0)).update s.heap.objs.size (Obj.mapSeq (· ++its.toArray))).push (seqObj "list" its.toArray 0)).get? b=some o:=λb o q=>by
  refine ae _ ?_
  rw[bE _ _ (cz (aw q))]
  exact ae _ q
 have z5:(((s.heap.push (seqObj "list" #[] 0)).update s.heap.objs.size (Obj.mapSeq (· ++its.toArray))).push (seqObj "list" its.toArray 0)).objs.size=s.heap.objs.size+2:=by rw[iU,hsz]
 show wpAny _ _ _ _ _ {s with heap:=((s.heap.push (seqObj "list" #[] 0)).update s.heap.objs.size (Obj.mapSeq (· ++its.toArray))).push (seqObj "list" its.toArray 0)}
 rw[hsz]
 generalize ((s.heap.push (seqObj "list" #[] 0)).update s.heap.objs.size (Obj.mapSeq (· ++its.toArray))).push (seqObj "list" its.toArray 0)=h5 at hoL k5 z5
 have hD:s.heap.objs.size<=s.heap.objs.size+1:=il _
 have hDk:s.heap.objs.size+1≠h5.objs.size+1:=by lia
 have hkS:s.heap.objs.size<=h5.objs.size+1:=by lia
 generalize s.heap.objs.size+1=D at hoL hD hDk
 refine ab (cx (wpAny_call_entry_kw slot_list_sort ⟨_,hoL,rfl⟩ entry_list_sort ?body (ksk_l1 _ _)))
 case body=>
  show wpAny (model X.prog X.w) X.A.in1.in1 (Builtin.«list.sort» ⟨[.ref D],[(Str.ofString "key",.ref q)]⟩) _ _ _
  rw[ksk_t1]
  unfold ksk_tree
  refine ab (listItems_at hoL rfl ?_)
  refine ab (iB hoL rfl ?_ (by rw[ao];lia) (bb _))
  obtain⟨e1,ho1⟩:∃e1,(h5.update D (Obj.mapSeq λ_=>(#[]:Array Value))).get? D=some (seqObj "list" #[] e1):=⟨_,get?_update_seq hoL λ_=>#[]⟩
  refine ab (seqEpoch_at ho1 rfl ?_)
  refine ab (jm ?_ (by show its.length<=_;lia))
  refine ab (iy ?_ (bb _))
  refine cx ?_
  have hkz:((h5.update D (Obj.mapSeq λ_=>(#[]:Array Value))).push (seqObj "tuple" its.toArray 0)).objs.size=h5.objs.size+1:=by rw[iU,Heap.size_update]
  have hoK:(((h5.update D (Obj.mapSeq λ_=>(#[]:Array Value))).push (seqObj "tuple" its.toArray 0)).push (seqObj "list" #[] 0)).get? (h5.objs.size+1)=some (seqObj "list" #[] 0):=by
   rw[<- hkz];exact aD _ rfl
  have hoD:(((h5.update D (Obj.mapSeq λ_=>(#[]:Array Value))).push (seqObj "tuple" its.toArray 0)).push (seqObj "list" #[] 0)).get? D=some (seqObj "list" #[] e1):=ae _ (ae _ ho1)
  have k6:∀b o,s.heap.get? b=some o->(((h5.update D (Obj.mapSeq λ_=>(#[]:Array Value))).push (seqObj "tuple" its.toArray 0)).push (seqObj "list" #[] 0)).get? b=some o:=λb o z=>by
   refine ae _ (ae _ ?_)
   rw[bE _ _ (cz (aR (aw z) hD))]
   exact k5 b o z
  show wpAny _ _ (ksk_rest D (.ref q) false its.toArray e1 (.ref ((h5.update D (Obj.mapSeq λ_=>(#[]:Array Value))).push (seqObj "tuple" its.toArray 0)).objs.size)) _ _ {s with heap:=((h5.update D (Obj.mapSeq λ_=>(#[]:Array Value))).push (seqObj "tuple" its.toArray 0)).push (seqObj "list" #[] 0)}
  rw[hkz]
  generalize ((h5.update D (Obj.mapSeq λ_=>(#[]:Array Value))).push (seqObj "tuple" its.toArray 0)).push (seqObj "list" #[] 0)=h6 at hoK hoD k6
  generalize h5.objs.size+1=kS at hoK hkS hDk
  have fD:FpOk X ad H D:=I.fpOk hD (I.hok.fresh hD)
  have fK:FpOk X ad H kS:=I.fpOk hkS (I.hok.fresh hkS)
  have I6:Inv X ad σ H {s with heap:=h6,toks:=s.toks}:=I.kept k6
  have I7:Inv X (ad++[(D,seqObj "list" #[] e1),(kS,seqObj "list" ([]:List Value).toArray 0)]) σ H {s with heap:=h6}:=I6.pins_of λx hx=>by
   rcases az.mp hx with z|z
   .exact I6.pin x (am _ z)
   .rcases ay.mp z with z|z
    .rw[z];exact⟨hoD,fD.1,fD.2.1,fD.2.2.1,by intro v q;cases q⟩
    .rw[aW] at z
     rw[z];exact⟨hoK,fK.1,fK.2.1,fK.2.2.1,by intro v q;cases q⟩
  have u7:Un (frs X.stack) [] H H s.heap h6:=Un.kept k6
  unfold ksk_rest
  refine ab (cL ?_)
  rw[<- Array.forIn_toList]
  simp only[List.toList_toArray]
  refine ab (cn (jG0 ok (F i q c) (zo q c) hr.in1.in1 (λ_ _ _ J=>hZ i _ _ _ _ J gi) hkey fK hDk hkS (λx sj C hx=>?_) its us [] [] [] 0 {s with heap:=h6} H rv (λv hv=>hv) (by rw[gA];lia) I7 u7 (Ext.refl _) hz .nil trivial) (λ_ s' hd=>?_) λ_ _ x=>x)
  .refine ab (dQ (cn hx (λkv s'' hk=>?_) λ_ _ hF=>hF.elim))
   obtain⟨ks,e,gk,sz,hc⟩:=hk
   dsimp only
   refine ab (iB gk rfl ?_ (dj sz) (aY (Nat.le_of_eq (Array.size_push ..)) (by lia)))
   exact ah hc
  .obtain⟨ks,kvs,e,HN,IN,uN,eN,vk,al⟩:=hd
   rw[i6] at al
   obtain⟨gD,nD,_,_,_⟩:=IN.pin (D,seqObj "list" #[] e1) (am _ (am _ (au ..)))
   obtain⟨gK,nK,_,_,_⟩:=IN.pin (kS,seqObj "list" ks.toArray e) (am _ (am _ (av _ (au ..))))
   refine ab (listItems_at gK rfl ?_)
   have tk:=jPH ok IN.hok vk al
   have kl:ks.length=its.length:=by rw[<- vk.length,al.len];exact rl
   have un:=hr.un
   refine jLL ok kl (by lia) tk (by rw[eV,eV];lia) gD gK hDk λps pm pw=>⟨_,rfl,ah ⟨_,rfl,?_⟩⟩
   have bk:=jFR rv hrf
   have dk:∀x∈ks.zip its,S.dc s'.heap x.1=KF (refV x.2):=jK2 (g:=λ_=>[]) (ks:=[]) (its:=[]) (jP0 ok tk) bk
   have pi:(ps.map Prod.snd).Perm its:=by
    have:=pm.map Prod.snd
    rw[iM (by lia)] at this
    exact this
   have rf:∀u∈ps.map Prod.snd,∃a,u=Value.ref a:=λu hu=>jFE rv hrf u (pi.mem_iff.mp hu)
   have p1:((ps.map Prod.snd).map refV).Perm us:=by rw[<- bk];exact pi.map _
   have p2:((ps.map Prod.snd).map refV).Pairwise λu v=>HT.lexLt (KF v) (KF u)=false:=by
    rw[cO,cO]
    exact(List.Pairwise.and_mem.mp pw).imp λ{a b} h=>by
     rw[<- dk a (pm.mem_iff.mp h.1),<- dk b (pm.mem_iff.mp h.2.1)]
     exact h.2.2
   obtain⟨e9,he9⟩:∃e9,((s'.heap.update kS (Obj.mapSeq λ_=>(#[]:Array Value))).update D (Obj.mapSeq λ_=>(ps.map Prod.snd).toArray)).get? D=some (seqObj "list" (ps.map Prod.snd).toArray e9):=⟨_,get?_update_seq ((bE _ _ (bO hDk)).trans gD) λ_=>(ps.map Prod.snd).toArray⟩
   have oth:∀b,b≠D->b≠kS->((s'.heap.update kS (Obj.mapSeq λ_=>(#[]:Array Value))).update D (Obj.mapSeq λ_=>(ps.map Prod.snd).toArray)).get? b=s'.heap.get? b:=λb n1 n2=>(bE _ _ (bO n1)).trans (bE _ _ (bO n2))
   generalize (s'.heap.update kS (Obj.mapSeq λ_=>(#[]:Array Value))).update D (Obj.mapSeq λ_=>(ps.map Prod.snd).toArray)=hf at he9 oth
   have nt:∀b o,HN b=some o->b≠D/\b≠kS:=λb o z=>⟨λy=>(by rw[y,nD] at z;cases z),λy=>(by rw[y,nK] at z;cases z)⟩
   have ok1:HOk X.prog X.w HN hf:=λb o z=>(IN.hok b o z).stay (λc v hc y=>by
    have:c≠D/\c≠kS:=by
     rcases hc with e|e
     .rw[e];exact nt b o z
     .exact nt c _ e
    rw[oth c this.1 this.2]
    exact y) (λ_ y=>y) λ_ _ y=>y
   have pz:((ps.map Prod.snd).map refV).length<=sizeLine:=by rw[aa,pi.length_eq];lia
   have ok2:HOk X.prog X.w (upd HN D (.lst ((ps.map Prod.snd).map refV))) hf:=ok1.adopt nD ⟨pz,ps.map Prod.snd,e9,jFQ rf,he9⟩
   have u9:Un (frs X.stack) [] H (upd HN D (.lst ((ps.map Prod.snd).map refV))) s.heap hf:=(uN.out λb hb=>oth b (aS (aR hb hD)) (aS (aR hb hkS))).track I.hok hD
   have I9:Inv X ad σ (upd HN D (.lst ((ps.map Prod.snd).map refV))) {s' with heap:=hf}:=Inv.call' I (IN.os.trans I.os.symm) u9 ok2 IN.bare λb z=>absurd z (by simp)
   exact⟨.ref D,_,I9,rfl,fin D _ _ (I.hok.fresh hD) p1 p2 (λb o z=>by rw[j7 (aS (aR (I.hok.lt z) hD))];exact eN b o z) j5⟩
def IntK(u:Value)(l:List Int):Prop:=∃i t,u=Value.int i t/\l=[i]
def decI:Value->List Int
 | .int i _=>[i]
 |_=>[]
def jG6:∀{vs:List Value}{ws:List (List Int)},All2 IntK vs ws->∃ns,IntsAre vs ns
 |[],[],_=>⟨[],.nil⟩
 |_::_,_::_,⟨⟨i,t,e,_⟩,r⟩=>by
  obtain⟨ns,h⟩:=jG6 r
  rw[e]
  exact⟨i::ns,.cons i t h⟩
def jOJ(i:Int)(t:Tok):keyKind' [Value.int i t].toArray=pure oneType':=by
 have hI:IntsAre [Value.int i t] [i]:=.cons i t .nil
 rw[keyKind'_eq,List.mapM_toArray,mapM_first_ints hI]
 simp[oneTypeOnly'_eq,List.mapM_toArray,mapM_typeOf_ints hI]
def jOO{prog:Program}{A:Around}{vs:List Value}{ws:List (List Int)}{Q:SortKind->Shared->Prop}(t:All2 IntK vs ws)(h2:vs≠[])(h:Q oneType' s):wpAny (model prog w) A (keyKind' vs.toArray) Q E s:=by
 obtain⟨ns,hI⟩:=jG6 t
 match vs,hI,h2 with
 |[],_,h2=>exact absurd rfl h2
 |[_],.cons i t .nil,_=>
  rw[jOJ]
  exact ah h
 |_::_::_,hI,_=>
  rw[keyKind_ints hI]
  exact ah h
def keyI:KeyS:=⟨λ_ u l=>IntK u l,λ_ v l=>∃i:Int,v=V.int i/\l=[i],λ_=>oneType',λ_ u=>decI u⟩
theorem jRE:KeyOk keyI where
 of:=λ{P w H h v u l} _ r k=>by
  obtain⟨i,rfl,rfl⟩:=k
  obtain⟨t,rfl⟩:=r
  exact⟨i,t,rfl,rfl⟩
 mono:=λ_ k=>k
 dec:=λ{h u l} k=>by
  obtain⟨i,t,rfl,rfl⟩:=k
  rfl
 kind:=λ{prog w A E s vs ws Q} t h2 h=>jOO t h2 h
 lt:=λ{prog w A E s ws u v x y Q} hu hv room h=>by
  obtain⟨i,t,rfl,rfl⟩:=hu
  obtain⟨j,t',rfl,rfl⟩:=hv
  show wpAny (model prog w) A (keyLt' oneType' _ _) Q E s
  rw[keyLt'_oneType]
  refine oneLt_int ?_
  have e:HT.lexLt [i] [j]=decide (i<j):=by
   rw[HT.lexLt_cons]
   by_cases q:i=j
   .rw[ai q,q]
    simp[HT.lexLt]
   .rw[aj q]
  rw[e] at h
  exact h
def Itv(K:W.Frag)(a:Addr)(n:Nat):It:=⟨λi H=>i<n/\∃xs,SqL K H a xs/\xs.length=n,λi H x H'=>H'=H/\∀xs,SqL K H a xs->xs[n-1-i]?=some x,λi _=>i=n⟩
theorem jNB{P:Program}{K:W.Frag}{tg:Expr}(a it:Addr)(n:Nat):Turn P w K tg (Itv K a n) [it] it (λi h=>h.IsRevIter it a ((n:Int)-1-(i:Int))) where
 mem:=by simp
 obj:=λi h st b hb=>by
  have e:b=it:=by simpa using hb
  subst e
  obtain⟨o,e,c,d⟩:=st
  exact⟨o,e,λv z=>by rw[d] at z;cases z⟩
 keep:=λi h h' st k=>st.at λo e=>k it (by simp) o e
 item:=by
  intro X hP hw hK hc i ad s σ H E I hf st hg
  subst hP hw hK
  obtain⟨hi,xs,hq,hx⟩:=hg
  obtain⟨its,rv,p,hz⟩:=I.list hq
  have hj:n-1-i<xs.length:=by lia
  obtain⟨u,hu,ru⟩:=rv.get (ag hj)
  obtain⟨f0,f1,f2,f3,f4,f5⟩:=hf it (by simp)
  have ei:(n:Int)-1-(i:Int)=((n-1-i:Nat):Int):=by lia
  have st0:s.heap.IsRevIter it a ((n-1-i:Nat):Int):=by rw[<- ei];exact st
  refine wpAny_pyNext_rev_item st0 p.isList (x:=u) (by simpa using hu) λh' st' sb=>?_
  have I1:Inv X ad σ H {s with heap:=h'}:=I.turned (t':=s.toks) (λb o hb e=>(sb.2 b hb).trans e) f0 f1 f3 f4 f5
  have e2:((n-1-i:Nat):Int)-1=(n:Int)-1-((i+1:Nat):Int):=by lia
  rw[e2] at st'
  obtain⟨o,e,c,d⟩:=id st'
  exact⟨u,rfl,go_of (s:= {s with heap:=h'}) e c d (by decide) ⟨xs[n-1-i],H,I1,ru,⟨rfl,λys hy=>by rw[I.list_inj hy hq];exact ag hj⟩,st',λb hb=>(hf b hb).1⟩⟩
 done:=by
  intro X hP hw hK hc i ad s σ H E I hf st hg
  subst hP hw hK
  obtain⟨f0,f1,f2,f3,f4,f5⟩:=hf it (by simp)
  have hg:i=n:=hg
  subst hg
  have ei:(i:Int)-1-(i:Int)= -1:=by lia
  have st0:s.heap.IsRevIter it a (-1):=by rw[<- ei];exact st
  exact wpAny_pyNext_rev_end (I.ok.hd hc) st0 λh' eb=>⟨rfl,I.turned (t':=s.toks) (λb o hb e=>eb b o hb e) f0 f1 f3 f4 f5⟩
 self:=λ_ _ _ _ _ st h=>wpAny_pyIter_revIter st h
section
variable {tg:Expr}
def iRev(K:W.Frag)(ta:TA):TI:=λσ H R=>ta σ H λvs H1=>∃l xs,vs=[.ref l]/\SqL K H1 l xs/\R (Itv K l xs.length) H1
theorem jSL{ta:TA}{pos:Pos}(hg:Gl X "reversed")(hm:X.mg "reversed" =none)(ha:PA X [a] ta)(hv:bootBuiltins "reversed" =some (.type "reversed"):=by decide+kernel)
  (he:starEach [a] X.env=(false,eval a X.env)::starEach [] X.env:=by rfl) (hpl:(backTo pos (starEach [] X.env)).any (·.1)=false:=by rfl):
  PI X tg (.Call (.Name "reversed" p) [a] [] pos) (iRev X.K ta):=by
 intro ad s σ H R I h
 refine Call_ (jCU I hg hm hv (cK (ln (ha pos ad s σ H _ I h) λus s1 ⟨vs,H1,I1,r1,q1⟩=>?_) he hpl))
 obtain⟨l,xs,rfl,hq,q⟩:=q1
 obtain⟨u,rfl,ru⟩:=r1.one
 cases ru
 obtain⟨its,rv,p1,_⟩:=I1.list hq
 refine call_reversed_list p1.isList ?_
 have e:((its.toArray.size:Nat):Int)-1=(xs.length:Int)-1-((0:Nat):Int):=by
  have:=rv.length
  rw[ao,this]
  simp
 rw[e]
 have hit:Heap.IsRevIter (s1.heap.push (revObj l ((xs.length:Int)-1-((0:Nat):Int)))) s1.heap.objs.size l ((xs.length:Int)-1-((0:Nat):Int)):=⟨_,aD _ rfl,rfl,rfl⟩
 refine wpAny_pyIter_revIter (s:= {s1 with heap:=s1.heap.push (revObj l ((xs.length:Int)-1-((0:Nat):Int)))}) hit ⟨s1.heap.objs.size,[s1.heap.objs.size],_,_,H1,rfl,I1.kept (t':=s1.toks) λb o e=>ae _ e,jNB l _ xs.length,hit,λb hb=>?_,q⟩
 have e:b=s1.heap.objs.size:=by simpa using hb
 subst e
 exact I1.fpOk (ak _) (I1.hok.fresh (ak _))
theorem jTJ{t:TA}{pos:Pos}(hg:Gl1 X "reversed")(hm:X.mg "reversed" =none)(ha:JA X [a] t)(he:starEach [a] X.env=(false,eval a X.env)::starEach [] X.env)(hv:bootBuiltins "reversed" =some (.type "reversed"):=by decide+kernel)
  (hpl:(backTo pos (starEach [] X.env)).any (·.1)=false:=by rfl):JI X tg (.Call (.Name "reversed" p) [a] [] pos) (iRev X.K t):=⟨jSL hg.a hm ha.h hv he hpl⟩
end
theorem jRS{K:W.Frag}{a:Addr}{xs:List V}{g:TG}{tb:TS}{D:Ends}{σ:St}{H:Hp}(Pv:Nat->St->Hp->Prop)(h0:Pv 0 σ H)(hl:∀i σ H,i<=xs.length->Pv i σ H->SqL K H a xs)
  (hs:∀i x σ H,i<xs.length->xs[xs.length-1-i]?=some x->Pv i σ H->g x σ H λσ2 H2=>tb {D with nx:=Pv (i+1),ct:=Pv (i+1),bk:=D.nx} σ2 H2) (hd:∀σ H,Pv xs.length σ H->D.nx σ H):
  ∃W:Nat->Nat->St->Hp->Prop,(∃m,W 0 m σ H)/\∀i m σ H,W i m σ H->
   ((Itv K a xs.length).stop i H/\D.nx σ H)\/((Itv K a xs.length).go i H/\∃N:St->Hp->Prop,(∀σ' H',N σ' H'->∃m',m'<m/\W (i+1) m' σ' H')/\∀x H',(Itv K a xs.length).yld i H x H'->g x σ H' λσ2 H2=>tb {D with nx:=N,ct:=N,bk:=D.nx} σ2 H2):=by
 refine⟨λi m σ H=>m=xs.length-i/\i<=xs.length/\Pv i σ H,⟨xs.length,by simp,bb _,h0⟩,?_⟩
 rintro i m σ H ⟨rfl,hi,p⟩
 have q:=hl i σ H hi p
 by_cases hlt:i<xs.length
 .refine .inr ⟨⟨hlt,xs,q,rfl⟩,Pv (i+1),λσ' H' p'=>⟨xs.length-(i+1),by lia,rfl,hlt,p'⟩,λx H' y=>?_⟩
  obtain⟨e,y⟩:=y
  subst e
  exact hs i x σ _ hlt (y xs q) p
 .have e:i=xs.length:=by lia
  subst e
  exact .inl ⟨rfl,hd σ H p⟩
end L2
namespace L2
open PySem PySem.Spec PyProof.Rows Builtin Builtin.Str
variable {c:Expr}
variable {X:Cx}
section
variable {tg:Expr}
end
section
variable {K:W.Frag}{m:List (Option Nat)}{g:TG}{tt:TT}{te:TE}{σ:St}{H1:Hp}{Q:VK}
end
section
variable {a b e:Expr}{ta tb te:TE}{pos:Pos}
def jG3{tc:TT}(hc:JT X c tc)(ha:JE X a ta)(hb:JE X b tb):JE X (.IfExp c a b pos) (tIf tc ta tb):=⟨jNY hc.h ha.h hb.h⟩
def jTH{i:Nat}{x:PySem.Str}{op:Operator}{ti:TIp}{pos':Pos}(hN:X.N.Nodup)(hi:X.N[i]?=some x)(hx:Loc1 X x)(he:JE X e te)(ho:PIp X op ti):JS X (.AugAssign (.Name x pos') op e pos) (tAug i te ti):=⟨jSH hN hi hx.a he.h ho hx.b⟩
def jS6{o:Option Expr}:SwOk (.IfExp c a b pos) o:=⟨λ_ _=>rfl⟩
end
section
variable {sc:Scope}{cl:List (PySem.Str×Addr)}{C:Addr}{Nc:List PySem.Str}{fp:List Addr}{s:Shared}{H:Hp}
end
end L2
namespace L2
open PySem
theorem jRQ{K:W.Frag}{t1 t2:Bool}{l1 l2:Addr}{xs ys:List V}{g:TG}{tb:TS}{D:Ends}{σ:St}{H:Hp}(Pv:Nat->St->Hp->Prop)(h0:Pv 0 σ H)(hl:∀i σ H,Pv i σ H->Sq t1 K H l1 xs/\Sq t2 K H l2 ys)
  (hs:∀i x y T σ H,xs[i]?=some x->ys[i]?=some y->H T=none->Pv i σ H->g (.ref T) σ (upd H T (.tup [x,y])) λσ2 H2=>tb {D with nx:=Pv (i+1),ct:=Pv (i+1),bk:=D.nx} σ2 H2) (hd:∀σ H,Pv (min xs.length ys.length) σ H->D.nx σ H):
  ∃W:Nat->Nat->St->Hp->Prop,(∃m,W 0 m σ H)/\∀i m σ H,W i m σ H->
   ((Itz t1 t2 K l1 l2).stop i H/\D.nx σ H)\/((Itz t1 t2 K l1 l2).go i H/\∃N:St->Hp->Prop,(∀σ' H',N σ' H'->∃m',m'<m/\W (i+1) m' σ' H')/\∀x H',(Itz t1 t2 K l1 l2).yld i H x H'->g x σ H' λσ2 H2=>tb {D with nx:=N,ct:=N,bk:=D.nx} σ2 H2):=by
 refine⟨λi m σ H=>m=min xs.length ys.length-i/\i<=min xs.length ys.length/\Pv i σ H,⟨_,rfl,bb _,h0⟩,?_⟩
 rintro i m σ H ⟨rfl,hi,p⟩
 obtain⟨s1,s2⟩:=hl i σ H p
 by_cases hlt:i<min xs.length ys.length
 .have a1:i<xs.length:=by lia
  have a2:i<ys.length:=by lia
  refine .inr ⟨⟨xs,ys,xs[i],ys[i],s1,s2,by simp[a1],by simp[a2]⟩,Pv (i+1),λσ' H' p'=>⟨min xs.length ys.length-(i+1),by lia,rfl,hlt,p'⟩,λv H'' y=>?_⟩
  obtain⟨T,x,y,e1,e2,e3,e4⟩:=y
  subst e2 e3
  obtain⟨z1,z2⟩:=e4 xs ys s1 s2
  exact hs i x y T σ _ z1 z2 e1 p
 .have e:i=min xs.length ys.length:=by lia
  subst e
  exact .inl ⟨⟨xs,ys,s1,s2,by lia⟩,hd σ H p⟩
end L2
namespace L2
open PySem PySem.Spec PyProof.Rows
variable {X:Cx}
def jKO:V->List V->Hp->VK->Prop:=λx vs H Q=>∃(p:Addr) (ns:List Int) (i:Int) (k:Nat),x=.ref p/\vs=[.int i]/\H p=some (.lst (ns.map V.int))/\ns.length<=1000/\ns[k]?=some i/\(∀m,m<k->ns[m]?≠some i)/\Q (.int (k:Int)) H
theorem jFW:MtM X "list.index" jKO:=by
 intro ad s σ H x vs v us Q I rx rv h
 obtain⟨p,ns,i,k,rfl,rfl,hp,hs,hk,hno,q⟩:=h
 cases rx
 obtain⟨u,rfl,ru⟩:=rv.one
 obtain⟨z,its,n,r,_,e0⟩:=I.lstM hp
 have hl:=r.length
 rw[aa] at hl
 have hkl:k<its.length:=by rw[<- hl];exact(aF.mp hk).1
 have at_:∀m (hm:m<its.length),∃(z:Int) (t:Tok),ns[m]?=some z/\its[m]=.int z t:=λm hm=>by
  have hz:(ns.map V.int)[m]?=some (.int ns[m]):=by simp[show m<ns.length by lia]
  obtain⟨w,hw,t,rw'⟩:=r.get hz
  refine⟨ns[m],t,by simp[show m<ns.length by lia],?_⟩
  rw[ag hm] at hw
  rw[bj hw]
  exact rw'
 refine gS F.slot_list_index ⟨_,e0,rfl⟩ F.entry_list_index (F.args_list_index_2 _ _) (SeqAt.list_indexAt p its.toArray n none #[] u (eqU (.int i)) k (by simpa using hkl) (by lia) ?_ λm hm hmk=>?_) ⟨e0,λw hw=>jB5 ru rfl r ?_ w (by simpa using hw),?_⟩
 .obtain⟨z,t,h1,h2⟩:=at_ k hkl
  rw[hk] at h1
  cases h1
  show eqU (.int i) its[k]=true
  rw[h2]
  show (i==i)=true
  simp
 .have hm':m<its.length:=by simpa using hm
  obtain⟨z,t,h1,h2⟩:=at_ m hm'
  show eqU (.int i) its[m]=false
  rw[h2]
  show (z==i)=false
  rw[cD]
  exact λe=>hno m hmk (by rw[h1,e])
 .rw[bF]
  intro x hx
  obtain⟨z,_,rfl⟩:=aQ.mp hx
  rfl
 .exact⟨.int _,H,I.tok _,⟨s.toks,rfl⟩,q⟩
end L2
open PySem L2
variable {P:Program}{w:World}{K:W.Frag}{mg:Str->Option Value}{base:Heap}{f fT fL fW fR fU fM fH a fK fN tb fG fF:Addr}{fdT fdL fdW fdR fdU fdM fdH fdK fdN fdG fdF:FuncData}{cdv:Value}{A:Around}{outer:List Env}{s:Shared}{H0:Hp}{E:XK}{m:Nat}{cs:List (List Int)}
namespace Eo
open PySem L2
variable {H H' H1 H5:Hp}{p qm ql l b qp:Addr}{fd:FuncData}{lj:List (List Int×Int)}{mays ts lf:List Int}{v9 v8 v10 v7 v6:Option V}{D:Ends}{N mt mp:Int}{v:V}{es:List Expr}{ps:List Str}{xs vs:List V}{e:Expr}{x:Str}
def Keep(H H':Hp)(p:Addr):Prop:=∀b o,H b=some o->b≠p->H' b=some o
structure Txt (mg:Str->Option Value):Prop where
 len:mg "len" =none
 range:mg "range" =none
 tuple:mg "tuple" =none
 sorted:mg "sorted" =none
 set:mg "set" =none
 list:mg "list" =none
 int:mg "int" =none
 isinstance:mg "isinstance" =none
 bool:mg "bool" =none
 str:mg "str" =none
 all:mg "all" =none
 zip:mg "zip" =none
 max:mg "max" =none
 min:mg "min" =none
 any:mg "any" =none
 abs:mg "abs" =none
 sum:mg "sum" =none
 enumerate:mg "enumerate" =none
 reversed:mg "reversed" =none
structure Can (P:Program)(w:World)(K:W.Frag)(mg:Str->Option Value)(base:Heap)(x:Str)(k:Nat)(f:Addr)(fd:FuncData)(ps:List Str)(sp:Sp):Prop where
 G:FnOk P w K mg base CX0 k f fd ps sp
 m:mg x=some (.ref f)
 kp:keepIn K (.ref f)=true
 b:Binds K fd ps []
theorem Can.pe{X:Cx}{k:Nat}{sp:Sp}{t:TA}{p pos:Pos}(C:Can X.prog X.w X.K X.mg X.base x k f fd ps sp)(hr:Room k X.A)(hg:Gl X x)(ha:PA X (e::es) t)(hdb:(x==("__debug__":Str))=false:=by decide)
  (he:starEach (e::es) X.env=(false,eval e X.env)::starEach es X.env:=by rfl) (hpl:(backTo pos (starEach es X.env)).any (·.1)=false:=by rfl):PE X (.Call (.Name x p) (e::es) [] pos) (tCall sp [] E0 t):=
 jQR C.G hr hg C.m C.kp C.b .nil pass0 ha hdb he hpl
theorem Can.je{X:Cx}{k:Nat}{sp:Sp}{t:TA}{p pos:Pos}(C:Can X.prog X.w X.K X.mg X.base x k f fd ps sp)(hr:Room k X.A)(hg:Gl1 X x)(ha:JA X (e::es) t)(he:starEach (e::es) X.env=(false,eval e X.env)::starEach es X.env)
  (hdb:(x==("__debug__":Str))=false:=by decide) (hpl:(backTo pos (starEach es X.env)).any (·.1)=false:=by rfl):JE X (.Call (.Name x p) (e::es) [] pos) (tCall sp [] E0 t):=
 ⟨C.pe hr hg.a ha.h hdb he hpl⟩
def jKI(K:W.Frag):Sp:=λvs H Q _=>∃(a:Addr) (ns:List Int) (k:Int),vs=[.ref a,.int k]/\SqL K H a (ns.map V.int)/\0<=k/\∀c:Int,Q (.int c) H
def jS9:FnScope ["script","k"] ["script","k"] (jB sCell):= {}
theorem jR3(F:Fun K "_law_cell_at" "_law_cell_at" sCell f fd)(T:Txt mg):FnOk P w K mg base CX0 1 f fd ["script","k"] (jKI K):=by
 refine F.ok jS9 (λvs H Q E h=>?_) (λcdv A outer s H vs Q E hr h=>?_)
 .obtain⟨a,ns,k,rfl,_⟩:=h
  rfl
 .obtain⟨a,ns,k,rfl,hS,h0,q⟩:=h
  refine⟨_,yI (ps_if (jDJ op_lt (pv 1) (jEP jN (by rfl) T.len PySem.boot_len (kP (pv 0) yU)) (jT _)) (jAW (jCS (pe_ix kX (pv 0) (pv 1) (λ_ _=>rfl)))) jEN) (jAW (jCS jY)),?_⟩
  refine⟨_,rfl,_,rfl,a,_,rfl,.inl hS,_,_,rfl,rfl,_,rfl,?_⟩
  refine ite2 (λhlt=>?_) (λ_=>?_)
  .have hlt:k<((ns.map V.int).length:Int):=aG hlt
   have hk:k.toNat<ns.length:=by rw[aa] at hlt;lia
   refine⟨_,rfl,_,rfl,a,_,k,.int (ns[k.toNat]),rfl,rfl,hS,?_,q _⟩
   have e:(k.toNat:Int)=k:=by lia
   have q2:=yF (xs:=ns.map V.int) (j:=k.toNat) (v:=V.int ns[k.toNat]) (by simp[hk])
   rw[e] at q2
   exact q2
  .exact q 0
def jS:Sp:=λvs H Q _=>∃(p:Addr) (N w:Int),vs=[.ref p,.int w]/\H p=some (.lst [.int N])/\0<=N/\0<w/\w<2^64/\∀N' r:Int,0<=N'->0<=r->r<w->Q (.int r) (upd H p (.lst [.int N']))
def scTake:FnScope ["pot","wide","found"] ["pot","wide"] (jB sTake):= {}
theorem jQY(F:Fun K "_law_take" "_law_take" sTake f fd):FnOk P w K mg base CX0 1 f fd ["pot","wide"] jS:=by
 refine F.ok scTake (λvs H Q E h=>?_) (λcdv A outer s H vs Q E hr h=>?_)
 .obtain⟨a,ns,k,rfl,_⟩:=h
  rfl
 .obtain⟨p,N,w,rfl,hp,h0,h1,h2,q⟩:=h
  refine⟨_,yI (qO (i:=2) scTake.nd rfl (Or.inl rfl) (yE qK (pe_ix kX (pv 0) jY (λ_ _=>rfl)) (pv 1)))
   (yI (jP8 (yE jIF (pe_ix kX (pv 0) jY (λ_ _=>rfl)) (pv 1)) (jPB (pv 0) jY jCZ))
   (jAW (jCS (pv 2)))),?_⟩
  refine⟨_,rfl,p,_,0,.int N,rfl,rfl,SqL.of hp,rfl,_,rfl,_,_,rfl,rfl,h1,?_⟩
  refine⟨_,rfl,p,_,0,.int N,rfl,rfl,SqL.of hp,rfl,_,rfl,_,_,rfl,rfl,⟨h1,h2⟩,?_⟩
  refine⟨_,rfl,p,_,0,0,rfl,rfl,hp,rfl,_,rfl,?_⟩
  exact q _ _ (Int.ediv_nonneg h0 (by lia)) (ff _ (by lia)) (fm _ h1)
def spPot:Sp:=λvs H Q _=>∃c:Int,vs=[.int c]/\∀(p:Addr) (N:Int),H p=none->0<=N->Q (.ref p) (upd H p (.lst [.int N]))
def scPot:FnScope ["cell","number","j","more"] ["cell"] (jB sPot):= {}
theorem jT2(F:Fun K "_law_pot" "_law_pot" sPot f fd)(T:Txt mg):FnOk P w K mg base CX0 1 f fd ["cell"] spPot:=by
 refine F.ok scPot (λvs H Q E h=>?_) (λcdv A outer s H vs Q E hr h=>?_)
 .obtain⟨c,rfl,_⟩:=h
  rfl
 .obtain⟨c,rfl,q⟩:=h
  have one: [V.int 0].length<=sizeLine:=by show 1<=sizeLine;decide
  refine⟨_,yI (ps_if (jDJ op_ge (pv 0) (yE jKY jY jY) (jT _)) (jAW (jCS (jIE (kP (yE jBX (pv 0) (yE jKY jY jY)) yU)))) jEN)
   (yI (qO (i:=1) scPot.nd rfl (Or.inl rfl) jY)
   (yI (jP7 br rfl (jBV rfl T.range (kP jY yU)) (jEO (i:=2) scPot.nd rfl (Or.inl rfl))
    (yI (qO (i:=3) scPot.nd rfl (Or.inl rfl) (yE qK (yE jBC (yE yB (yE yB (yE qK (pv 0) jY) (yE jBC jY (pv 2))) jY) jY) jY))
    (yI (qO (i:=3) scPot.nd rfl (Or.inl rfl) (yE qK (yE yB (yE yB (yE jBC (pv 3) (pv 3)) (yE jBC jY (pv 2))) jY) jY))
    (jAW (qO (i:=1) scPot.nd rfl (Or.inl rfl) (yE yB (yE jBC (pv 1) jY) (pv 3)))))))
   (jAW (jCS (jIE (kP (pv 1) yU)))))),?_⟩
  refine⟨_,rfl,_,_,rfl,rfl,⟨by decide,by decide,by decide⟩,_,_,rfl,rfl,_,rfl,?_⟩
  refine ite2 (λhge=>?_) (λ_=>?_)
  .refine⟨_,rfl,_,_,rfl,rfl,⟨by decide,by decide,by decide⟩,_,_,rfl,rfl,one,λp hp=>q p _ hp ?_⟩
   exact Int.sub_nonneg_of_le (aG hge)
  .refine⟨64,rfl,by decide,by decide,jA7 (n:=64) (λi σ H2=>∃(num:Int) (v1 v2:Option V),σ=[some (.int c),some (.int num),v1,v2]/\0<=num/\H2=H) ⟨0,none,none,rfl,ed _,rfl⟩ ?_ ?_⟩
   .rintro i σ H2 hi ⟨num,v1,v2,rfl,hn,rfl⟩
    refine⟨_,rfl,_,_,rfl,rfl,(by show (0:Int)<2147483629;decide),_,rfl,_,_,rfl,rfl,.inl ⟨by decide,by decide⟩,_,_,rfl,rfl,_,_,rfl,rfl,_,_,rfl,rfl,.inr ⟨by decide,by decide⟩,_,_,rfl,rfl,(by show (0:Int)<2147483647;decide),?_⟩
    refine⟨_,rfl,_,rfl,_,_,rfl,rfl,.inl ⟨?_,?_⟩,_,rfl,_,_,rfl,rfl,.inl ⟨by decide,by decide⟩,_,_,rfl,rfl,_,_,rfl,rfl,_,_,rfl,rfl,(by show (0:Int)<2147483587;decide),?_⟩
    .lia
    .lia
    .refine⟨_,rfl,_,_,rfl,rfl,.inr ⟨by decide,by decide⟩,_,rfl,_,_,rfl,rfl,?_⟩
     refine⟨_,_,_,rfl,?_,rfl⟩
     lia
   .rintro σ H2 ⟨num,v1,v2,rfl,hn,rfl⟩
    exact⟨_,rfl,one,λp hp=>q p num hp hn⟩
def jAT{o o':HO}:upd (upd H a o) a o'=upd H a o':=by
 funext b
 unfold upd
 by_cases h:b=a
 .rw[ai h,ai h]
 .rw[aj h,aj h,aj h]
def yO{o:HO}(h:upd H a o b=none):b≠a/\H b=none:=by
 have h1:b≠a:=λe=>by rw[e,j5] at h;cases h
 exact⟨h1,by rw[j7 h1] at h;exact h⟩
def Keep.refl(H:Hp)(p:Addr):Keep H H p:=λ_ _ h _=>h
def Keep.trans{H2:Hp}(a:Keep H H1 p)(b:Keep H1 H2 p):Keep H H2 p:=λc o h n=>b c o (a c o h n) n
def Keep.upd(a:Keep H H1 p)(o:HO):Keep H (upd H1 p o) p:=λc u h n=>by rw[j7 n];exact a c u h n
def Keep.new(a:Keep H H1 p)(hl:H1 l=none)(o:HO):Keep H (L2.upd H1 l o) p:=λc u h n=>by
 have:=a c u h n
 rw[j7 (j8 this hl)]
 exact this
theorem pw{w:Int}(h1:1<=w)(h2:w<=16):(2:Int)<=2^w.toNat/\(2:Int)^w.toNat<=65536:=by
 have e:∀n:Nat,n<17->1<=n->(2:Int)<=2^n/\(2:Int)^n<=65536:=by decide+kernel
 exact e w.toNat (by lia) (by lia)
structure Lot (w:Int)(ts:List Int):Prop where
 ris:ts.Pairwise (· < ·)
 bnd:∀z∈ts,0<=z/\z<w
 ne:ts≠[]
def bits(n:Int)(k:Nat):List Int:=((List.range k).filter λt=>decide (Builtin.bitAnd (n/2^t) 1=1)).map λ(t:Nat)=>(t:Int)
theorem jGJ(n:Int)(k:Nat):bits n (k+1)=bits n k++(if decide (Builtin.bitAnd (n/2^k) 1=1)=true then [(k:Int)] else []):=by
 unfold bits
 rw[fg,cH,aC]
 congr 1
 rw[bL]
 split<;>rfl
theorem jOX{n w:Int}(h1:1<=n)(hw:0<=w)(h2:n<2^w.toNat):Lot w (bits n w.toNat):=by
 refine⟨?_,λz hz=>?_,?_⟩
 .unfold bits
  rw[cO]
  have:=(fO (n:=w.toNat)).filter (λt=>decide (Builtin.bitAnd (n/2^t) 1=1))
  exact this.imp λh=>by lia
 .unfold bits at hz
  obtain⟨t,ht,rfl⟩:=aQ.mp hz
  have:=bq.mp (bo.mp ht).1
  lia
 .obtain⟨m,rfl⟩:∃m:Nat,n=(m:Int):=⟨n.toNat,by lia⟩
  have hm:m≠0:=by lia
  have hlt:m<2^w.toNat:=by
   have:((m:Nat):Int)<((2^w.toNat:Nat):Int):=by rw[Int.natCast_pow];exact h2
   lia
  obtain⟨i,hi⟩:=Nat.exists_testBit_of_ne_zero hm
  have hiw:i<w.toNat:=by
   rcases Nat.lt_or_ge i w.toNat with h|h
   .exact h
   .rw[Nat.testBit_lt_two_pow (aR hlt (gw (by lia) h))] at hi
    cases hi
  have hb:Builtin.bitAnd ((m:Int)/2^i) 1=1:=by
   have e:((m:Int)/2^i)=((m/2^i:Nat):Int):=by rw[Int.natCast_ediv,Int.natCast_pow];rfl
   rw[e,PyProof.Rows.bitAnd_pp (kc _) (by decide)]
   have e2:(((m/2^i:Nat):Int).toNat&&&(1:Int).toNat)=1:=by
    rw[bY]
    show (m/2^i)&&&1=1
    rw[Nat.and_one_is_mod]
    have:=hi
    rw[Nat.testBit_eq_decide_div_mod_eq] at this
    exact aG this
   rw[e2]
   rfl
  intro z
  have hmem:(i:Int)∈bits (m:Int) w.toNat:=by
   unfold bits
   exact aQ.mpr ⟨i,bo.mpr ⟨bq.mpr hiw,ax hb⟩,rfl⟩
  rw[z] at hmem
  cases hmem
def kT:Sp:=λvs H Q _=>∃(p:Addr) (N w:Int),vs=[.ref p,.int w]/\H p=some (.lst [.int N])/\0<=N/\1<=w/\w<=16/\
 ∀(q:Addr) (N':Int) (ts:List Int) (H':Hp),0<=N'->Lot w ts->H' q=some (.tup (ts.map V.int))->H' p=some (.lst [.int N'])->Keep H H' p->Q (.ref q) H'
def scLot:FnScope ["pot","wide","way","number","start","step","size"] ["pot","wide"] (jB sLot):= {}
theorem jT3(F:Fun K "_law_lot" "_law_lot" sLot f fd)(T:Txt mg)(CT:Can P w K mg base "_law_take" 1 fT fdT ["pot","wide"] jS):FnOk P w K mg base CX0 2 f fd ["pot","wide"] kT:=by
 refine F.ok scLot (λvs H Q E h=>?_) (λcdv A outer s H vs Q E hr h=>?_)
 .obtain⟨a,ns,k,rfl,_⟩:=h
  rfl
 .obtain⟨p,N,w,rfl,hp,hN,h1,h2,q⟩:=h
  have hpw:=pw h1 h2
  have nd:=scLot.nd
  refine⟨_,yI (qO (i:=2) nd rfl (Or.inl rfl) (CT.pe hr rfl (kP (pv 0) (kP jY yU))))
   (yI (ps_if (jDJ qM (pv 2) jY (jT _))
    (yI (qO (i:=3) nd rfl (Or.inr rfl) (yE yB jY (CT.pe hr rfl (kP (pv 0) (kP (yE jBX (yE jSX jY (pv 1)) jY) yU)))))
    (jAW (jCS (jBW jO rfl T.tuple (by decide+kernel) (kP
     (jH7 (m:=[none,some 3]) (Nc:=["t","number"]) rfl (jBV rfl T.range (kP (pv 1) yU)) rfl (by decide+kernel) (by decide+kernel) (jQ (psc:=jB sLot))
      (jH (N:=["pot","wide","way","number","start","step","size"]) rfl rfl (by decide+kernel))
      (λcl C fp s H=>jEO (i:=0) (show (["t","number"]:List Str).Nodup by decide+kernel) rfl (Or.inl rfl))
      (λcl C fp s H=>jKQ (jDJ qM (yE jT0 (yE jSW (pv 1) (pv 0)) jY) jY (jT _)))
      (λcl C fp s H=>pv 0)) yU)))))
    jEN)
   (yI (qO (i:=4) nd rfl (Or.inr rfl) (CT.pe hr rfl (kP (pv 0) (kP (pv 1) yU))))
   (yI (qO (i:=5) nd rfl (Or.inr rfl) (yE yB jY (CT.pe hr rfl (kP (pv 0) (kP jY yU)))))
   (yI (qO (i:=6) nd rfl (Or.inl rfl) (yE yB jY (CT.pe hr rfl (kP (pv 0) (kP (pe_ix kX (jIE (kP jY (kP jY (kP jY yU)))) (yE jBX (pv 2) jY) (λ_ _=>rfl)) yU)))))
   (jAW (jCS (jBW jO rfl T.tuple (by decide+kernel) (kP (jEP (jDY rfl) rfl T.sorted (by decide+kernel) (kP (jBW (jMO rfl) rfl T.set (by decide+kernel) (kP
     (jH7 (m:=[none,some 4,some 5,some 1]) (Nc:=["j","start","step","wide"]) rfl (jBV rfl T.range (kP (pv 6) yU)) rfl (by decide+kernel) (by decide+kernel) (jQ (psc:=jB sLot))
      (jH (N:=["pot","wide","way","number","start","step","size"]) rfl rfl (by decide+kernel))
      (λcl C fp s H=>jEO (i:=0) (show (["j","start","step","wide"]:List Str).Nodup by decide+kernel) rfl (Or.inl rfl))
      (λcl C fp s H=>jKR)
      (λcl C fp s H=>yE qK (yE yB (pv 1) (yE jBC (pv 2) (pv 0))) (pv 3))) yU)) yU)) yU)))))))),?_⟩
  refine⟨_,rfl,p,N,4,rfl,hp,hN,by decide,by decide,λN1 way b1 b2 b3=>?_⟩
  have hp1:∀M,(upd H p (.lst [.int M])) p=some (.lst [.int M]):=λ_=>j5
  refine⟨_,rfl,rfl,_,rfl,?_⟩
  refine ite2 (λ_=>?_) (λhw0=>?_)
  .refine⟨_,rfl,_,rfl,_,_,rfl,rfl,⟨by lia,by lia,by decide⟩,_,_,rfl,rfl,p,N1,_,rfl,hp1 _,b1,by lia,by lia,λN2 r2 c1 c2 c3=>⟨_,_,rfl,rfl,?_⟩⟩
   have hnum:1+r2<2^w.toNat:=by lia
   refine⟨_,rfl,w,rfl,by lia,by lia,jAD (n:=w.toNat) (by rw[ar];lia) (λD i σ' H' ys=>(∃v,σ'=[v,some (.int (1+r2))])/\ys=(bits (1+r2) i).map V.int/\H'=upd (upd (upd H p (.lst [.int N1])) p (.lst [.int N2])) D (.lst ys)) ?_ ?_ ?_ ?_⟩
   .intro D hD
    exact⟨⟨_,rfl⟩,rfl,rfl⟩
   .rintro D i σ' H' ys hD hi ⟨_,e1,e2⟩
    refine⟨by rw[e2];exact j5,?_⟩
    rw[e1,aa]
    unfold bits
    rw[aa]
    exact aY (bW _ _) (by rw[bI];exact ak _)
   .rintro D i σ' H' ys hD hi ⟨⟨v,rfl⟩,rfl,rfl⟩
    refine⟨_,rfl,_,rfl,_,_,rfl,rfl,(by show (0:Int)<=0+(i:Int);lia),_,_,rfl,rfl,rfl,_,rfl,?_⟩
    have ei:(0+(i:Int)).toNat=i:=by lia
    refine ite2 (λhb=>?_) (λhb=>?_)
    .have hb:Builtin.bitAnd ((1+r2)/2^i) 1=1:=by
      have:=aG hb
      rw[ei] at this
      exact V.int.inj this
     refine⟨_,rfl,j5,⟨_,rfl⟩,?_,jAT⟩
     rw[jGJ,ai (ax hb),aC]
     congr 1
     show [V.int (0+(i:Int))]=[V.int (i:Int)]
     rw[dv]
    .have hb:¬Builtin.bitAnd ((1+r2)/2^i) 1=1:=λe=>hb (ax (by rw[ei];exact bB V.int e))
     refine⟨⟨_,rfl⟩,?_,rfl⟩
     rw[jGJ,aj (by simpa using hb),bS]
   .rintro D σ' H' ys hD ⟨_,rfl,rfl⟩
    refine⟨D,_,rfl,.inl ⟨SqL.of j5,λqq hqq=>?_⟩⟩
    obtain⟨n1,n2⟩:=yO hqq
    have pD:p≠D:=j8 j5 hD
    have pq:p≠qq:=j8 j5 n2
    exact q qq N2 (bits (1+r2) w.toNat) _ c1 (jOX (by lia) (by lia) hnum) j5 (by rw[j7 pq,j7 pD,j5]) (((((Keep.refl H p).upd _).upd _).new hD _).new hqq _)
  .have hway:1<=way:=by
    have:¬way=0:=λe=>hw0 (ax (by rw[e]))
    lia
   refine⟨_,rfl,_,rfl,p,N1,w,rfl,hp1 _,b1,by lia,by lia,λN2 yY c1 c2 c3=>?_⟩
   rw[jAT]
   refine⟨_,rfl,p,N2,3,rfl,hp1 _,c1,by decide,by decide,λN3 st d1 d2 d3=>⟨_,_,rfl,rfl,?_⟩⟩
   rw[jAT]
   refine⟨_,rfl,(by show 3<=sizeLine;decide),λl hl=>?_⟩
   have pl:p≠l:=j8 (hp1 _) hl
   obtain⟨wd,hwd,e1,e2⟩:∃wd:Int,atI [V.int 1,V.int 2,V.int 4] (way-1)=some (.int wd)/\1<=wd/\wd<=4:=by
    rcases (show way=1\/way=2\/way=3 by lia) with e|e|e
    .subst e;exact⟨1,rfl,by decide,by decide⟩
    .subst e;exact⟨2,rfl,by decide,by decide⟩
    .subst e;exact⟨4,rfl,by decide,by decide⟩
   refine⟨_,rfl,_,_,rfl,rfl,l,_,_,_,rfl,rfl,SqL.of j5,hwd,p,N3,wd,rfl,by rw[j7 pl];exact hp1 _,d1,by lia,by lia,λN4 r4 g1 g2 g3=>⟨_,_,rfl,rfl,?_⟩⟩
   have kp:Keep H (upd (upd (upd H p (.lst [.int N3])) l (.lst [V.int 1,V.int 2,V.int 4])) p (.lst [.int N4])) p:=(((Keep.refl H p).upd _).new hl _).upd _
   have hp4:(upd (upd (upd H p (.lst [.int N3])) l (.lst [V.int 1,V.int 2,V.int 4])) p (.lst [.int N4])) p=some (.lst [.int N4]):=j5
   generalize (upd (upd (upd H p (.lst [.int N3])) l (.lst [V.int 1,V.int 2,V.int 4])) p (.lst [.int N4]))=H4 at kp hp4 ⊢
   refine⟨_,rfl,1+r4,rfl,by lia,by lia,jAD (n:=(1+r4).toNat) (by rw[ar];lia) (λD i σ' H' ys=>(∃v,σ'=[v,some (.int yY),some (.int (1+st)),some (.int w)])/\(∃ns:List Int,ys=ns.map V.int/\ns.length=i/\∀z∈ns,0<=z/\z<w)/\H'=upd H4 D (.lst ys)) ?_ ?_ ?_ ?_⟩
   .intro D hD
    exact⟨⟨_,rfl⟩,⟨[],rfl,rfl,λz hz=>by cases hz⟩,rfl⟩
   .rintro D i σ' H' ys hD hi ⟨_,⟨ns,rfl,e,_⟩,rfl⟩
    exact⟨j5,by rw[aa,e];exact ak _⟩
   .rintro D i σ' H' ys hD hi ⟨⟨v,rfl⟩,⟨ns,rfl,e,hb⟩,rfl⟩
    dsimp only[kI,yH]
    rw[ai rfl]
    refine⟨_,rfl,_,rfl,_,rfl,_,_,rfl,rfl,.inl ⟨by lia,by lia⟩,_,_,rfl,rfl,_,rfl,_,_,rfl,rfl,(by show 0<w;lia),j5,⟨_,rfl⟩,⟨ns++[(yY+(1+st)*(0+(i:Int)))%w],by simp,by simp[e],λz hz=>?_⟩,jAT⟩
    rcases az.mp hz with hz|hz
    .exact hb z hz
    .have:z=(yY+(1+st)*(0+(i:Int)))%w:=by simpa using hz
     rw[this]
     exact⟨ff _ (by lia),fm _ (by lia)⟩
   .rintro D σ' H' ys hD ⟨_,⟨ns,rfl,e,hb⟩,rfl⟩
    refine⟨D,ns,rfl,SqL.of j5,by lia,λz hz=>⟨(hb z hz).1,by have:=(hb z hz).2;lia⟩,λl1 ks h11 hm1=>?_⟩
    refine⟨l1,ks,rfl,j5,λl2 ms h12 srt hm2=>?_⟩
    refine⟨l2,_,rfl,.inl ⟨SqL.of j5,λqq hqq=>?_⟩⟩
    have pD:p≠D:=j8 hp4 hD
    have p1:p≠l1:=j8 hp4 (yO h11).2
    have p2:p≠l2:=j8 hp4 (yO (yO h12).2).2
    have pq:p≠qq:=j8 hp4 (yO (yO (yO hqq).2).2).2
    refine q qq N4 ms _ g1 ⟨srt,λz hz=>hb z ((hm1 z).mp ((hm2 z).mp hz)),λz=>?_⟩ j5 (by rw[j7 pq,j7 p2,j7 p1,j7 pD];exact hp4) ((((kp.new hD _).new h11 _).new h12 _).new hqq _)
    subst z
    cases ns with
    |nil=>simp at e;lia
    |cons x r=>
     have:=(hm2 x).mpr ((hm1 x).mpr au)
     cases this
structure Ris (w:Int)(ts:List Int):Prop where
 ris:ts.Pairwise (· < ·)
 bnd:∀z∈ts,0<=z/\z<w
def Ris.nil(w:Int):Ris w []:=⟨.nil,λz hz=>by cases hz⟩
def Ris.take{w:Int}(h:Ris w ts)(k:Nat):Ris w (ts.take k):=⟨h.ris.sublist (eJ _ _),λz hz=>h.bnd z (de hz)⟩
def Ris.drop{w:Int}(h:Ris w ts)(k:Nat):Ris w (ts.drop k):=⟨h.ris.sublist (ij _ _),λz hz=>h.bnd z (cw hz)⟩
theorem Ris.snoc{i:Nat}(h:Ris i ts):Ris (i+1:Nat) (ts++[(i:Int)]):=by
 refine⟨bP.mpr ⟨h.ris,iK _ _,λa ha b hb=>?_⟩,λz hz=>?_⟩
 .have:=(h.bnd a ha).2
  have e:b=i:=by simpa using hb
  lia
 .rcases az.mp hz with q|q
  .have:=h.bnd z q
   lia
  .have e:z=i:=by simpa using q
   lia
theorem Ris.step{i:Nat}{ts:List Int}(h:Ris i ts):Ris (i+1:Nat) ts:=⟨h.ris,λz hz=>by have:=h.bnd z hz;lia⟩
def upto(n:Nat):List Int:=(List.range n).map λ(i:Nat)=>(i:Int)
def jLZ(n:Nat):jDQ n=(upto n).map V.int:=by
 unfold jDQ upto
 rw[b8]
 rfl
theorem jN8(n:Nat):Ris n (upto n):=by
 refine⟨?_,λz hz=>?_⟩
 .unfold upto
  rw[cO]
  exact fO.imp λh=>by lia
 .unfold upto at hz
  obtain⟨t,ht,rfl⟩:=aQ.mp hz
  have:=bq.mp ht
  lia
def Tups(H H':Hp):Prop:=∀b xs,H b=some (.tup xs)->H' b=some (.tup xs)
def Tups.trans{H2:Hp}(a:Tups H H1)(b:Tups H1 H2):Tups H H2:=λc o h=>b c o (a c o h)
def Keep.tups(k:Keep H H' p)(hp:H p=some (.lst xs)):Tups H H':=λb ys hb=>k b _ hb λe=>by
 subst e
 rw[hb] at hp
 cases hp
def Tups.upd(hp:H p=some (.lst xs))(o:HO):Tups H (upd H p o):=λb ys hb=>by
 rw[j7 (λe=>by subst e;rw[hb] at hp;cases hp)]
 exact hb
def Tups.new(hp:H p=none)(o:HO):Tups H (L2.upd H p o):=λb ys hb=>by
 rw[j7 (j8 hb hp)]
 exact hb
def PcAt(H:Hp)(v:V)(pc:List Int×Int):Prop:=∃a q,v=.ref a/\H a=some (.tup [.ref q,.int pc.2])/\H q=some (.tup (pc.1.map V.int))
def PcsAt(H:Hp):List V->List (List Int×Int)->Prop
 |[],[]=>True
 |v::vs,p::ps=>PcAt H v p/\PcsAt H vs ps
 |_,_=>False
def PcAt.mono{pc:List Int×Int}(h:PcAt H v pc)(t:Tups H H'):PcAt H' v pc:=by
 obtain⟨a,q,rfl,h1,h2⟩:=h
 exact⟨a,q,rfl,t _ _ h1,t _ _ h2⟩
def PcsAt.mono(t:Tups H H'):∀{vs:List V}{ps:List (List Int×Int)},PcsAt H vs ps->PcsAt H' vs ps
 |[],[],_=>trivial
 |_::_,_::_,h=>⟨h.1.mono t,PcsAt.mono t h.2⟩
 |[],_::_,h=>h.elim
 |_::_,[],h=>h.elim
def PcsAt.len:∀{vs:List V}{ps:List (List Int×Int)},PcsAt H vs ps->vs.length=ps.length
 |[],[],_=>rfl
 |_::_,_::_,h=>bB (· +1) (PcsAt.len h.2)
 |[],_::_,h=>h.elim
 |_::_,[],h=>h.elim
def PcsAt.put{p:List Int×Int}(hv:PcAt H v p):∀(k:Nat) {vs:List V}{ps:List (List Int×Int)},PcsAt H vs ps->PcsAt H (vs.take k++v::vs.drop k) (ps.take k++p::ps.drop k)
 | 0,_,_,h=>⟨hv,h⟩
 |_+1,[],[],_=>⟨hv,trivial⟩
 |k+1,_::_,_::_,h=>⟨h.1,PcsAt.put hv k h.2⟩
 |_+1,[],_::_,h=>h.elim
 |_+1,_::_,[],h=>h.elim
structure GoodPc (w:Int)(pc:List Int×Int):Prop where
 lot:Lot w pc.1
 lo: -1000000000000<=pc.2
 hi:pc.2<=1000000000000
structure BoxAt (H:Hp)(b:Addr)(w:Int)(mays:List Int)(lj:List (List Int×Int)):Prop where
 ex:∃qm qp vs,H b=some (.tup [.int w,.ref qm,.ref qp])/\H qm=some (.tup (mays.map V.int))/\H qp=some (.tup vs)/\PcsAt H vs lj
def BoxAt.mono{w:Int}(h:BoxAt H b w mays lj)(t:Tups H H'):BoxAt H' b w mays lj:=by
 obtain⟨qm,qp,vs,h1,h2,h3,h4⟩:=h.ex
 exact⟨qm,qp,vs,t _ _ h1,t _ _ h2,t _ _ h3,h4.mono t⟩
structure Good (mt mp:Int)(w:Int)(mays:List Int)(lj:List (List Int×Int)):Prop where
 w0:0<=w
 w1:w<=mt
 mr:Ris w mays
 pl:(lj.length:Int)<=mp
 pg:∀pc∈lj,GoodPc w pc
def Keep.updNew(a:Keep H H1 p)(hl:H l=none)(o:HO):Keep H (L2.upd H1 l o) p:=λc u h n=>by
 rw[j7 (j8 h hl)]
 exact a c u h n
def spBox:Sp:=λvs H Q _=>∃(p:Addr) (N mt mp:Int),vs=[.ref p,.int mt,.int mp]/\H p=some (.lst [.int N])/\0<=N/\0<=mt/\mt<=16/\0<=mp/\mp<=32/\
 ∀(b:Addr) (N' w:Int) (mays:List Int) (lj:List (List Int×Int)) (H':Hp),0<=N'->H' p=some (.lst [.int N'])->BoxAt H' b w mays lj->Good mt mp w mays lj->Keep H H' p->Q (.ref b) H'
noncomputable abbrev nBox:List Str:=["pot","most_things","most_pieces","wide","mays","left","far","pieces","k","size","things"]
def scBox:FnScope nBox ["pot","most_things","most_pieces"] (jB sBox):= {}
abbrev XBox(P:Program)(w:World)(K:W.Frag)(mg:Str->Option Value)(base:Heap)(f:Addr)(cdv:Value)(A:Around)(outer:List Env)(s:Shared)(H:Hp)(E:XK):Cx:=(cxOf CX0 P w K mg base nBox "_law_box" (jB sBox) f cdv A outer s H E).nox
def qH:Stmt->List Stmt
 | .For _ _ b _ _=>b
 |_=>[]
def boxI(T:Txt mg)(CT:Can P w K mg base "_law_take" 1 fT fdT ["pot","wide"] jS)(CL:Can P w K mg base "_law_lot" 2 fL fdL ["pot","wide"] kT)(hr:Room 2 (XBox P w K mg base f cdv A outer s H E).A): {t:TS // JSs (XBox P w K mg base f cdv A outer s H E) ((qH ((jE sBox).getD 7 (.Pass ⟨0,0,0,0⟩))).drop 4) t}:=
 have nd:=scBox.nd
 ⟨_,(jC (jAQ (xC bD dR dS jBY (jv 7 rfl vL) (j3 (CT.je (hr.mono (by decide)) gD (j3 (jv 0 rfl vC) (j3 (jW yB (jF jN gD T.len (by decide+kernel) (j3 (jv 7 rfl vL) j6 j4) j4) (j9)) j6 yD) j4) j4) (j3 (jIP (j3 (jv 10 rfl vL) (j3 (jW jBX (CT.je (hr.mono (by decide)) gD (j3 (jv 0 rfl vC) (j3 (jv 6 rfl vL) j6 j4) j4) j4) (jW jIF (jv 6 rfl vL) (j9))) j6 yD) j4)) j6 qR) jG) jG) jZ))⟩
def boxL(T:Txt mg)(CT:Can P w K mg base "_law_take" 1 fT fdT ["pot","wide"] jS)(CL:Can P w K mg base "_law_lot" 2 fL fdL ["pot","wide"] kT)(hr:Room 2 (XBox P w K mg base f cdv A outer s H E).A): {t:TS // JSs (XBox P w K mg base f cdv A outer s H E) (qH ((jE sBox).getD 7 (.Pass ⟨0,0,0,0⟩))) t}:=
 have nd:=scBox.nd
 ⟨_,(jA (jL (i:=9) nd rfl lL (jW yB (j9) (CT.je (hr.mono (by decide)) gD (j3 (jv 0 rfl vC) (j3 (j9) j6 jI) j4) j4)) jBP)
   (jA (jL (i:=10) nd rfl lL (kG jO gD T.tuple (by decide+kernel) (j3 (jC0 jEK (jv 5 rfl vL) jDN (jDM (jv 9 rfl vL))) j6 jR) jR) jZ)
   (jA (jL (i:=5) nd rfl lL (jC0 jEK (jv 5 rfl vL) (jDM (jv 9 rfl vL)) jDN) jBO)
   (jA (qD (jM (jSY hr.units0) (jv 10 rfl vL) (jIP j6) (jT _)) (jC (jL (i:=10) nd rfl lL (CL.je hr gD (j3 (jv 0 rfl vC) (j3 (jv 3 rfl vL) j6 j4) j4) j4) jZ)) yC)
   (boxI T CT CL hr).2))))⟩
def boxC(T:Txt mg)(CT:Can P w K mg base "_law_take" 1 fT fdT ["pot","wide"] jS)(CL:Can P w K mg base "_law_lot" 2 fL fdL ["pot","wide"] kT)(hr:Room 2 (XBox P w K mg base f cdv A outer s H E).A): {t:TS // JSs (XBox P w K mg base f cdv A outer s H E) ((jE sBox).drop 5) t}:=
 have nd:=scBox.nd
 ⟨_,(jA (jL (i:=6) nd rfl lL (jK kX (jLR (j3 (j9) (j3 (j9) (j3 (jTM) j6 yD) jI) jI)) (CT.je (hr.mono (by decide)) gD (j3 (jv 0 rfl vC) (j3 (j9) j6 jI) j4) j4) jEL) jBO)
   (jA (jL (i:=7) nd rfl lL (jLR j6) jBA)
   (jA (yZ br rfl (kY gD T.range (j3 (jW jBC (CT.je (hr.mono (by decide)) gD (j3 (jv 0 rfl vC) (j3 (jW yB (jv 2 rfl vL) (j9)) j6 yD) j4) j4) (kG jGE gD T.int (by decide+kernel) (j3 (jCG op_gt (jv 3 rfl vL) (j9) (jT _)) j6 jP6) jP6)) j6 yD) yD) (jJ (i:=8) nd rfl lL) (boxL T CT CL hr).2 kQ)
   (jC (kD (jIP (j3 (jv 3 rfl vL) (j3 (jv 4 rfl vL) (j3 (kG jO gD T.tuple (by decide+kernel) (j3 (jv 7 rfl vL) j6 j4) j4) j6 jG) j4) j4)))))))⟩
def boxB(T:Txt mg)(CT:Can P w K mg base "_law_take" 1 fT fdT ["pot","wide"] jS)(CL:Can P w K mg base "_law_lot" 2 fL fdL ["pot","wide"] kT)(hr:Room 2 (XBox P w K mg base f cdv A outer s H E).A): {t:TS // JSs (XBox P w K mg base f cdv A outer s H E) ((jE sBox).drop 3) t}:=
 have nd:=scBox.nd
 ⟨_,(jA (jL (i:=5) nd rfl lL (kG (jGD rfl) gD T.list (by decide+kernel) (j3 (kG jHV gD T.range (by decide+kernel) (j3 (jv 3 rfl vL) j6 j4) j4) j6 jG) jG) jZ)
   (jA (qD (jM qM (CT.je (hr.mono (by decide)) gD (j3 (jv 0 rfl vC) (j3 (j9) j6 jI) j4) j4) (j9) (jT _)) (jC (jL (i:=5) nd rfl lL (jLR j6) jBA)) yC)
   (boxC T CT CL hr).2))⟩
def boxA(T:Txt mg)(CT:Can P w K mg base "_law_take" 1 fT fdT ["pot","wide"] jS)(CL:Can P w K mg base "_law_lot" 2 fL fdL ["pot","wide"] kT)(hr:Room 2 (XBox P w K mg base f cdv A outer s H E).A): {t:TS // JSs (XBox P w K mg base f cdv A outer s H E) (jE sBox) t}:=
 have nd:=scBox.nd
 ⟨_,(jA (jL (i:=3) nd rfl lL (CT.je (hr.mono (by decide)) gD (j3 (jv 0 rfl vC) (j3 (jW yB (jv 1 rfl vL) (j9)) j6 yD) j4) j4) jZ)
   (jA (jL (i:=4) nd rfl lL (jIP j6) jKD)
   (jA (qD (jM qM (CT.je (hr.mono (by decide)) gD (j3 (jv 0 rfl vC) (j3 (j9) j6 jI) j4) j4) (j9) (jT _)) (jC (jL (i:=4) nd rfl lL (kG jO gD T.tuple (by decide+kernel) (j3 (kJ (m:=[none,some 0]) (Nc:=["t","pot"]) rfl (kY gD T.range (j3 (jv 3 rfl vL) j6 j4) j4) rfl (by decide+kernel) (by decide+kernel) (jQ (psc:=jB sBox)) (jH (N:=nBox) rfl rfl (by decide+kernel)) (λcl C fp s H=>jJ (i:=0) (show (["t","pot"]:List Str).Nodup by decide+kernel) rfl yG) (λcl C fp s H=>jAP (jM qM (CT.je (hr.mono (by decide)) gl_b (j3 (jv 1 rfl jX) (j3 (j9) j6 jI) j4) j4) (j9) (jT _))) (λcl C fp s H=>(jv 0 rfl jV)) kQ) j6 jP) jP) jZ)) yC)
   (boxB T CT CL hr).2)))⟩
structure St0 (H H2:Hp)(p:Addr)(w:Int)(qm ql:Addr)(mays lf:List Int)(N:Int):Prop where
 hp:H2 p=some (.lst [.int N])
 hN:0<=N
 hm:H2 qm=some (.tup (mays.map V.int))
 rm:Ris w mays
 hl:H2 ql=some (.lst (lf.map V.int))
 rl:Ris w lf
 ne:ql≠p
 kp:Keep H H2 p
def St0.step{H H2 H3:Hp}{p:Addr}{w:Int}{qm ql:Addr}{mays lf:List Int}{N N':Int}(S:St0 H H2 p w qm ql mays lf N)(k:Keep H2 H3 p)(hp:H3 p=some (.lst [.int N']))(hN:0<=N'):St0 H H3 p w qm ql mays lf N':=
 ⟨hp,hN,k qm _ S.hm (ne_of S.hm S.hp (by intro z;cases z)),S.rm,k ql _ S.hl S.ne,S.rl,S.ne,S.kp.trans k⟩
def jMC{w:Int}(h:Ris w lf)(lo hi:Option Int):∃l',cutV (lf.map V.int) lo hi=l'.map V.int/\Ris w l':=by
 refine⟨(lf.drop (HT.sIx lf.length 0 lo)).take (HT.sIx lf.length lf.length hi-HT.sIx lf.length 0 lo),?_,(h.drop _).take _⟩
 unfold cutV
 rw[aa,jx,gq]
theorem jGG(T:Txt mg)(CT:Can P w K mg base "_law_take" 1 fT fdT ["pot","wide"] jS)(CL:Can P w K mg base "_law_lot" 2 fL fdL ["pot","wide"] kT)(hr:Room 2 (XBox P w K mg base f cdv A outer s H0 E).A)
  {qt:Addr}{w far:Int}
  (S:St0 H H5 p w qm ql mays lf N) (hqp:H5 qp=some (.lst vs)) (hv:PcsAt H5 vs lj) (hg:∀pc∈lj,GoodPc w pc) (hqt:H5 qt=some (.tup (ts.map V.int))) (lt:Lot w ts) (hf:far=1\/far=10\/far=2000000000001) (hn:lj.length<=100) (hH:H qp=none) (hne:ql≠qp) (hpp:p≠qp)
  (nx:∀H6 N' vs' lj',St0 H H6 p w qm ql mays lf N'->H6 qp=some (.lst vs')->PcsAt H6 vs' lj'->(∀pc∈lj',GoodPc w pc)->lj'.length=lj.length+1->D.nx [some (.ref p),some (.int mt),some (.int mp),some (.int w),some (.ref qm),some (.ref ql),some (.int far),some (.ref qp),v8,v9,some (.ref qt)] H6):
  (boxI T CT CL hr).1 D [some (.ref p),some (.int mt),some (.int mp),some (.int w),some (.ref qm),some (.ref ql),some (.int far),some (.ref qp),v8,v9,some (.ref qt)] H5:=by
 have hlen:=hv.len
 have h64:(0:Int)<far/\far<2^64:=by rcases hf with e|e|e<;>subst e<;>decide
 refine⟨_,rfl,.inl ⟨rfl,_,SqL.of hqp⟩,_,rfl,_,rfl,qp,vs,rfl,.inl (SqL.of hqp),_,_,rfl,rfl,p,N,_,rfl,S.hp,S.hN,by lia,by lia,λN1 i a1 a2 a3=>?_⟩
 refine⟨_,rfl,_,rfl,_,rfl,p,N1,far,rfl,j5,a1,h64.1,h64.2,λN2 r b1 b2 b3=>?_⟩
 rw[jAT]
 refine⟨_,rfl,_,_,rfl,rfl,⟨by decide,by decide⟩,_,_,rfl,rfl,(by show 2<=sizeLine;decide),λtq htq=>?_⟩
 obtain⟨t1,t2⟩:=yO htq
 have ht:tq≠qp:=λe=>by subst e;rw[hqp] at t2;cases t2
 refine⟨qp,vs,i,_,rfl,rfl,by rw[j7 ht.symm,j7 hpp.symm];exact hqp,a2,by lia,by rw[ar];lia,?_⟩
 have T1:Tups H5 (upd (upd H5 p (.lst [.int N2])) tq (.tup [.ref qt,.int (r-far/2)])):=(Tups.upd S.hp _).trans (Tups.new htq _)
 have k1:Keep H5 (upd (upd H5 p (.lst [.int N2])) tq (.tup [.ref qt,.int (r-far/2)])) p:=((Keep.refl _ _).upd _).new htq _
 have S1:=S.step k1 (by rw[j7 t1.symm];exact j5) b1
 have hq1:(upd (upd H5 p (.lst [.int N2])) tq (.tup [.ref qt,.int (r-far/2)])) qp=some (.lst vs):=by rw[j7 ht.symm,j7 hpp.symm];exact hqp
 have T2:=T1.trans (Tups.upd hq1 (.lst (vs.take i.toNat++V.ref tq::vs.drop i.toNat)))
 have pc:PcAt (upd (upd H5 p (.lst [.int N2])) tq (.tup [.ref qt,.int (r-far/2)])) (.ref tq) (ts,r-far/2):=⟨tq,qt,rfl,j5,T1 _ _ hqt⟩
 refine nx _ N2 _ (lj.take i.toNat++(ts,r-far/2)::lj.drop i.toNat) ⟨?_,b1,?_,S.rm,?_,S.rl,S.ne,S1.kp.updNew hH _⟩ j5 ?_ ?_ ?_
 .rw[j7 hpp];exact S1.hp
 .exact(Tups.upd hq1 _) _ _ S1.hm
 .rw[j7 hne];exact S1.hl
 .exact PcsAt.put (pc.mono (Tups.upd hq1 _)) _ (hv.mono T2)
 .intro c hc
  rcases az.mp hc with h|h
  .exact hg c (de h)
  .rcases ay.mp h with h|h
   .subst h
    refine⟨lt,?_,?_⟩
    .show -1000000000000<=r-far/2
     rcases hf with e|e|e<;>subst e<;>lia
    .show r-far/2<=1000000000000
     rcases hf with e|e|e<;>subst e<;>lia
   .exact hg c (cw h)
 .rw[aK,aV,aZ,cB]
  lia
theorem jMU(T:Txt mg)(CT:Can P w K mg base "_law_take" 1 fT fdT ["pot","wide"] jS)(CL:Can P w K mg base "_law_lot" 2 fL fdL ["pot","wide"] kT)(hr:Room 2 (XBox P w K mg base f cdv A outer s H0 E).A)
  {w far:Int}
  (S:St0 H H5 p w qm ql mays lf N) (hqp:H5 qp=some (.lst vs)) (hv:PcsAt H5 vs lj) (hg:∀pc∈lj,GoodPc w pc) (hf:far=1\/far=10\/far=2000000000001) (hn:lj.length<=100) (hH:H qp=none) (hpp:p≠qp) (w1:1<=w) (w2:w<=16)
  (nx:∀H6 N' vs' lj' ql' lf' v9' v10',St0 H H6 p w qm ql' mays lf' N'->ql'≠qp->H6 qp=some (.lst vs')->PcsAt H6 vs' lj'->(∀pc∈lj',GoodPc w pc)->lj'.length=lj.length+1->D.nx [some (.ref p),some (.int mt),some (.int mp),some (.int w),some (.ref qm),some (.ref ql'),some (.int far),some (.ref qp),v8,v9',v10'] H6):
  (boxL T CT CL hr).1 D [some (.ref p),some (.int mt),some (.int mp),some (.int w),some (.ref qm),some (.ref ql),some (.int far),some (.ref qp),v8,v9,v10] H5:=by
 refine⟨_,rfl,p,N,3,rfl,S.hp,S.hN,by decide,by decide,λN1 r1 a1 a2 a3=>⟨_,_,rfl,rfl,?_⟩⟩
 have S1:=S.step ((Keep.refl _ _).upd (.lst [.int N1])) j5 a1
 have hq1:(upd H5 p (.lst [.int N1])) qp=some (.lst vs):=by rw[j7 hpp.symm];exact hqp
 have hv1:=hv.mono (Tups.upd S.hp (.lst [.int N1]))
 generalize upd H5 p (.lst [.int N1])=H6 at S1 hq1 hv1 ⊢
 clear S hqp hv
 obtain⟨l1,e1,g1⟩:=jMC S1.rl none (some (1+r1))
 obtain⟨l2,e2,g2⟩:=jMC S1.rl (some (1+r1)) none
 refine⟨_,rfl,_,rfl,1+r1,rfl,ql,_,rfl,SqL.of S1.hl,λx hx=>⟨x,_,rfl,.inl ⟨SqL.of j5,λqt hqt=>?_⟩⟩⟩
 rw[e1] at hqt ⊢
 have k1:Keep H6 (upd (upd H6 x (.lst (l1.map V.int))) qt (.tup (l1.map V.int))) p:=((Keep.refl _ _).new hx _).new hqt _
 obtain⟨t1,t2⟩:=yO hqt
 have px:p≠x:=j8 S1.hp hx
 have pt:p≠qt:=j8 S1.hp t2
 have qx:qp≠x:=j8 hq1 hx
 have qq:qp≠qt:=j8 hq1 t2
 have S2:=S1.step k1 (by rw[j7 pt,j7 px];exact S1.hp) S1.hN
 have hq2:(upd (upd H6 x (.lst (l1.map V.int))) qt (.tup (l1.map V.int))) qp=some (.lst vs):=by rw[j7 qq,j7 qx];exact hq1
 have hv2:=hv1.mono (k1.tups S1.hp)
 have ht2:(upd (upd H6 x (.lst (l1.map V.int))) qt (.tup (l1.map V.int))) qt=some (.tup (l1.map V.int)):=j5
 generalize upd (upd H6 x (.lst (l1.map V.int))) qt (.tup (l1.map V.int))=H7 at S2 hq2 hv2 ht2 ⊢
 clear k1 hqt t2 hx S1 hq1 hv1
 refine⟨_,rfl,_,rfl,1+r1,rfl,ql,_,rfl,SqL.of S2.hl,λql' hql=>?_⟩
 rw[e2]
 have pl:p≠ql':=j8 S2.hp hql
 have k2:Keep H7 (upd H7 ql' (.lst (l2.map V.int))) p:=(Keep.refl _ _).new hql _
 have S3':=S2.step k2 (by rw[j7 pl];exact S2.hp) S2.hN
 have S3:St0 H (upd H7 ql' (.lst (l2.map V.int))) p w qm ql' mays l2 N1:=⟨S3'.hp,S3'.hN,S3'.hm,S3'.rm,j5,g2,pl.symm,S3'.kp⟩
 have hne:qp≠ql':=j8 hq2 hql
 have hq3:(upd H7 ql' (.lst (l2.map V.int))) qp=some (.lst vs):=by rw[j7 hne];exact hq2
 have hv3:=hv2.mono (k2.tups S2.hp)
 have ht3:=k2.tups S2.hp _ _ ht2
 generalize upd H7 ql' (.lst (l2.map V.int))=H8 at S3 hq3 hv3 ht3 ⊢
 clear k2 S3' S2 hq2 hv2 ht2 hql
 refine⟨_,rfl,(by show 0<=sizeLine;exact bb _),λz hz=>⟨qt,z,l1.map V.int,rfl,rfl,SqT.of ?_,SqT.of j5,_,rfl,?_⟩⟩
 .rw[j7 (j8 ht3 hz)];exact ht3
 have pz:p≠z:=j8 S3.hp hz
 have qz:qp≠z:=j8 hq3 hz
 have k3:Keep H8 (upd H8 z (.tup [])) p:=(Keep.refl _ _).new hz _
 have S4:=S3.step k3 (by rw[j7 pz];exact S3.hp) S3.hN
 have hq4:(upd H8 z (.tup [])) qp=some (.lst vs):=by rw[j7 qz];exact hq3
 have hv4:=hv3.mono (k3.tups S3.hp)
 have ht4:=k3.tups S3.hp _ _ ht3
 generalize upd H8 z (.tup [])=H9 at S4 hq4 hv4 ht4 ⊢
 clear k3 S3 hq3 hv3 ht3 hz pz qz
 refine ite2 (λhy=>?_) (λhy=>?_)
 .refine⟨_,rfl,_,rfl,p,N1,w,rfl,S4.hp,S4.hN,w1,w2,λq N2 ts H' b1 lt b2 b3 b4=>?_⟩
  exact jGG T CT CL hr (S4.step b4 b3 b1) (b4 _ _ hq4 hpp.symm) (hv4.mono (b4.tups S4.hp)) hg b2 lt hf hn hH hne.symm hpp λH6 N' vs' lj' z1 z2 z3 z4 z5=>nx H6 N' vs' lj' ql' l2 _ _ z1 hne.symm z2 z3 z4 z5
 .have nl:l1≠[]:=λe=>hy (ax (by rw[e];rfl))
  exact jGG T CT CL hr S4 hq4 hv4 hg ht4 ⟨g1.ris,g1.bnd,nl⟩ hf hn hH hne.symm hpp λH6 N' vs' lj' z1 z2 z3 z4 z5=>nx H6 N' vs' lj' ql' l2 _ _ z1 hne.symm z2 z3 z4 z5
def Told(H:Hp)(p:Addr)(mt mp:Int)(R:VK):Prop:=∀(b:Addr) (N' w:Int) (mays:List Int) (lj:List (List Int×Int)) (H':Hp),0<=N'->H' p=some (.lst [.int N'])->BoxAt H' b w mays lj->Good mt mp w mays lj->Keep H H' p->R (.ref b) H'
theorem jGH(T:Txt mg)(CT:Can P w K mg base "_law_take" 1 fT fdT ["pot","wide"] jS)(CL:Can P w K mg base "_law_lot" 2 fL fdL ["pot","wide"] kT)(hr:Room 2 (XBox P w K mg base f cdv A outer s H0 E).A)
  {w:Int}
  (S:St0 H H5 p w qm ql mays lf N) (hpH:∃o,H p=some o) (w0:0<=w) (w1:w<=mt) (w2:mt<=16) (n0:0<=mp) (n1:mp<=32) (q:Told H p mt mp D.rt):
  (boxC T CT CL hr).1 D [some (.ref p),some (.int mt),some (.int mp),some (.int w),some (.ref qm),some (.ref ql),v6,v7,v8,v9,v10] H5:=by
 refine⟨(by show 3<=sizeLine;decide),λl hl=>?_⟩
 have pl:p≠l:=j8 S.hp hl
 refine⟨_,rfl,p,N,3,rfl,by rw[j7 pl];exact S.hp,S.hN,by decide,by decide,λN1 r a1 a2 a3=>?_⟩
 obtain⟨far,hfar,hf⟩:∃far:Int,atI [V.int 1,V.int 10,V.int 2000000000001] r=some (.int far)/\(far=1\/far=10\/far=2000000000001):=by
  rcases (show r=0\/r=1\/r=2 by lia) with e|e|e
  .subst e;exact⟨_,rfl,.inl rfl⟩
  .subst e;exact⟨_,rfl,.inr (.inl rfl)⟩
  .subst e;exact⟨_,rfl,.inr (.inr rfl)⟩
 refine⟨l,_,r,_,rfl,rfl,SqL.of (by rw[j7 pl.symm];exact j5),hfar,?_⟩
 have S1:=S.step ((((Keep.refl _ _).new hl (.lst [V.int 1,V.int 10,V.int 2000000000001])).upd (.lst [.int N1]))) j5 a1
 generalize upd (upd H5 l (.lst [V.int 1,V.int 10,V.int 2000000000001])) p (.lst [.int N1])=H6 at S1 ⊢
 clear hl S
 refine⟨(by show 0<=sizeLine;exact bb _),λqp hqp=>?_⟩
 have pq:p≠qp:=j8 S1.hp hqp
 have hHq:H qp=none:=by
  cases e:H qp with
  |none=>rfl
  |some o=>
   have:=S1.kp _ _ e pq.symm
   rw[hqp] at this
   cases this
 have lq:ql≠qp:=j8 S1.hl hqp
 have S2:=S1.step ((Keep.refl _ _).new hqp (.lst [])) (by rw[j7 pq];exact S1.hp) S1.hN
 have hq2:(upd H6 qp (.lst [])) qp=some (.lst []):=j5
 generalize upd H6 qp (.lst [])=H7 at S2 hq2 ⊢
 clear hqp S1
 refine⟨_,rfl,_,rfl,_,_,rfl,rfl,p,N1,_,rfl,S2.hp,S2.hN,by lia,by lia,λN2 n b1 b2 b3=>?_⟩
 refine⟨_,rfl,_,_,rfl,rfl,.inr ⟨_,rfl,_,_,rfl,rfl,.inl ⟨by lia,by lia⟩,_,rfl,?_⟩⟩
 have S3:=S2.step ((Keep.refl _ _).upd (.lst [.int N2])) j5 b1
 have hq3:(upd H7 p (.lst [.int N2])) qp=some (.lst []):=by rw[j7 pq.symm];exact hq2
 generalize upd H7 p (.lst [.int N2])=H8 at S3 hq3 ⊢
 clear S2 hq2
 obtain⟨m,em,hm,hw⟩:∃m:Int,n*(if decide (0<w)=true then 1 else 0)=m/\(0<=m/\m<=mp)/\(0<m->1<=w):=by
  by_cases h:0<w
  .exact⟨n,by simp[h],⟨b2,by lia⟩,λ_=>h⟩
  .exact⟨0,by simp[h],⟨by lia,n0⟩,λz=>by lia⟩
 show _/\_/\_
 rw[show (n*(if decide (0<w)=true then 1 else 0))=m from em]
 refine⟨by lia,by lia,jA7 (n:=m.toNat) (λi σ H5=>∃ql' lf' N' vs lj v8 v9 v10,σ=[some (.ref p),some (.int mt),some (.int mp),some (.int w),some (.ref qm),some (.ref ql'),some (.int far),some (.ref qp),v8,v9,v10]/\St0 H H5 p w qm ql' mays lf' N'/\ql'≠qp/\H5 qp=some (.lst vs)/\PcsAt H5 vs lj/\(∀pc∈lj,GoodPc w pc)/\lj.length=i) ?_ ?_ ?_⟩
 .exact⟨ql,lf,N2,[],[],_,_,_,rfl,S3,lq,hq3,trivial,(λ_ h=>by cases h),rfl⟩
 .rintro i σ H9 hi ⟨ql',lf',N',vs,lj,x8,x9,x10,rfl,S4,l4,hq4,hv4,hg4,e4⟩
  exact jMU T CT CL hr S4 hq4 hv4 hg4 hf (by lia) hHq pq (hw (by lia)) (by lia) λH6 N' vs' lj' ql' lf' v9' v10' z1 z2 z3 z4 z5 z6=>⟨ql',lf',N',vs',lj',_,_,_,rfl,z1,z2,z3,z4,z5,by lia⟩
 .rintro σ H9 ⟨ql',lf',N',vs,lj,x8,x9,x10,rfl,S4,l4,hq4,hv4,hg4,e4⟩
  refine⟨_,rfl,_,rfl,_,rfl,qp,vs,rfl,.inl ⟨SqL.of hq4,λtq htq=>⟨(by show 3<=sizeLine;decide),λb hb=>?_⟩⟩⟩
  have k1:Keep H9 (upd H9 tq (.tup vs)) p:=(Keep.refl _ _).new htq _
  have k2:Keep H9 (upd (upd H9 tq (.tup vs)) b (.tup [.int w,.ref qm,.ref tq])) p:=k1.new hb _
  have tb:=j8 j5 hb
  have S5:=S4.step k2 (by rw[j7 (yO hb |>.2 |> λh=>j8 S4.hp h),j7 (j8 S4.hp htq)];exact S4.hp) S4.hN
  exact q b N' w mays lj _ S4.hN S5.hp ⟨qm,tq,vs,j5,S5.hm,by rw[j7 tb];exact j5,hv4.mono (k2.tups S4.hp)⟩ ⟨w0,w1,S4.rm,by lia,hg4⟩ S5.kp
theorem jGI(T:Txt mg)(CT:Can P w K mg base "_law_take" 1 fT fdT ["pot","wide"] jS)(CL:Can P w K mg base "_law_lot" 2 fL fdL ["pot","wide"] kT)(hr:Room 2 (XBox P w K mg base f cdv A outer s H0 E).A)
  {w:Int}{v5:Option V}
  (hp:H5 p=some (.lst [.int N])) (hN:0<=N) (hm:H5 qm=some (.tup (mays.map V.int))) (rm:Ris w mays) (kp:Keep H H5 p) (hpH:∃o,H p=some o) (w0:0<=w) (w1:w<=mt) (w2:mt<=16) (n0:0<=mp) (n1:mp<=32) (q:Told H p mt mp D.rt):
  (boxB T CT CL hr).1 D [some (.ref p),some (.int mt),some (.int mp),some (.int w),some (.ref qm),v5,v6,v7,v8,v9,v10] H5:=by
 refine⟨_,rfl,w,rfl,λx hx=>⟨x,w,rfl,j5,w0,by lia,λql hql=>?_⟩⟩
 rw[jLZ]
 have px:p≠x:=j8 hp hx
 have pl:p≠ql:=j8 hp (yO hql).2
 have k1:Keep H5 (upd (upd H5 x (.rng 0 w)) ql (.lst ((upto w.toNat).map V.int))) p:=((Keep.refl _ _).new hx _).new hql _
 have e:((w.toNat:Nat):Int)=w:=by lia
 have rl:Ris w (upto w.toNat):=by
  have:=jN8 w.toNat
  rw[e] at this
  exact this
 have S:St0 H (upd (upd H5 x (.rng 0 w)) ql (.lst ((upto w.toNat).map V.int))) p w qm ql mays (upto w.toNat) N:=
  ⟨by rw[j7 pl,j7 px];exact hp,hN,k1 qm _ hm (ne_of hm hp (by intro z;cases z)),rm,j5,rl,pl.symm,kp.trans k1⟩
 generalize upd (upd H5 x (.rng 0 w)) ql (.lst ((upto w.toNat).map V.int))=H6 at S ⊢
 clear k1 hql hx hp hm kp
 refine⟨_,rfl,p,N,3,rfl,S.hp,S.hN,by decide,by decide,λN1 r a1 a2 a3=>⟨rfl,_,rfl,?_⟩⟩
 have S1:=S.step ((Keep.refl _ _).upd (.lst [.int N1])) j5 a1
 generalize upd H6 p (.lst [.int N1])=H7 at S1 ⊢
 clear S
 refine ite2 (λhy=>?_) (λhy=>?_)
 .refine⟨(by show 0<=sizeLine;exact bb _),λl hl=>?_⟩
  have pl2:p≠l:=j8 S1.hp hl
  have S2:=S1.step ((Keep.refl _ _).new hl (.lst [])) (by rw[j7 pl2];exact S1.hp) S1.hN
  have S3:St0 H (upd H7 l (.lst [])) p w qm l mays [] N1:=⟨S2.hp,S2.hN,S2.hm,S2.rm,j5,Ris.nil w,pl2.symm,S2.kp⟩
  exact jGH T CT CL hr S3 hpH w0 w1 w2 n0 n1 q
 .exact jGH T CT CL hr S1 hpH w0 w1 w2 n0 n1 q
theorem jMV(T:Txt mg)(CT:Can P w K mg base "_law_take" 1 fT fdT ["pot","wide"] jS)(CL:Can P w K mg base "_law_lot" 2 fL fdL ["pot","wide"] kT)(hr:Room 2 (XBox P w K mg base f cdv A outer s H0 E).A)
  
  (hp:H p=some (.lst [.int N])) (hN:0<=N) (w0:0<=mt) (w2:mt<=16) (n0:0<=mp) (n1:mp<=32) (q:Told H p mt mp D.rt):
  (boxA T CT CL hr).1 D [some (.ref p),some (.int mt),some (.int mp),none,none,none,none,none,none,none,none] H:=by
 refine⟨_,rfl,_,rfl,_,_,rfl,rfl,p,N,_,rfl,hp,hN,by lia,by lia,λN1 w a1 a2 a3=>?_⟩
 refine⟨(by show 0<=sizeLine;exact bb _),λt ht=>?_⟩
 have pt:p≠t:=(yO ht).1.symm
 refine⟨_,rfl,p,N1,3,rfl,by rw[j7 pt];exact j5,a1,by decide,by decide,λN2 r b1 b2 b3=>⟨rfl,_,rfl,?_⟩⟩
 have k1:Keep H (upd (upd (upd H p (.lst [.int N1])) t (.tup [])) p (.lst [.int N2])) p:=(((Keep.refl _ _).upd _).new ht _).upd _
 have hp1:(upd (upd (upd H p (.lst [.int N1])) t (.tup [])) p (.lst [.int N2])) p=some (.lst [.int N2]):=j5
 have ht1:(upd (upd (upd H p (.lst [.int N1])) t (.tup [])) p (.lst [.int N2])) t=some (.tup []):=by rw[j7 pt.symm];exact j5
 generalize upd (upd (upd H p (.lst [.int N1])) t (.tup [])) p (.lst [.int N2])=H1 at k1 hp1 ht1 ⊢
 clear ht
 refine ite2 (λhy=>?_) (λhy=>?_)
 .refine⟨_,rfl,w,rfl,by lia,by lia,jAD (n:=w.toNat) (by rw[ar];lia) (λD i σ' H' ys=>(∃v,σ'=[v,some (.ref p)])/\(∃(ms:List Int) (N':Int),ys=ms.map V.int/\ms.length<=i/\Ris i ms/\0<=N'/\H' p=some (.lst [.int N']))/\Keep H1 H' p/\H' D=some (.lst ys)/\D≠p/\H1 D=none) ?_ ?_ ?_ ?_⟩
  .intro D hD
   have:p≠D:=j8 hp1 hD
   exact⟨⟨_,rfl⟩,⟨[],N2,rfl,ak _,Ris.nil _,b1,by rw[j7 this];exact hp1⟩,(Keep.refl _ _).new hD _,j5,this.symm,hD⟩
  .rintro D i σ' H' ys hD hi ⟨_,⟨ms,N',rfl,e,_⟩,_,e2,_⟩
   exact⟨e2,by rw[aa];exact e⟩
  .rintro D i σ' H' ys hD hi ⟨⟨v,rfl⟩,⟨ms,N',rfl,e,rs,n',hp'⟩,kk,e2,dp,hn⟩
   refine⟨_,rfl,p,N',3,rfl,hp',n',by decide,by decide,λN3 r3 c1 c2 c3=>⟨rfl,_,rfl,?_⟩⟩
   have k2:Keep H1 (upd H' p (.lst [.int N3])) p:=kk.upd _
   have e3:(upd H' p (.lst [.int N3])) D=some (.lst (ms.map V.int)):=by rw[j7 dp];exact e2
   have hp3:(upd H' p (.lst [.int N3])) p=some (.lst [.int N3]):=j5
   generalize upd H' p (.lst [.int N3])=H'' at k2 e3 hp3 ⊢
   refine ite2 (λhz=>?_) (λhz=>?_)
   .refine⟨_,rfl,e3,⟨_,rfl⟩,⟨ms++[(i:Int)],N3,?_,?_,rs.snoc,c1,by rw[j7 dp.symm];exact hp3⟩,k2.updNew hn _,j5,dp,hn⟩
    .rw[aC]
     show _++[V.int (0+(i:Int))]=_++[V.int (i:Int)]
     rw[dv]
    .rw[aK]
     show ms.length+1<=i+1
     lia
   .exact⟨⟨_,rfl⟩,⟨ms,N3,rfl,by lia,rs.step,c1,hp3⟩,k2,e3,dp,hn⟩
  .rintro D σ' H' ys hD ⟨_,⟨ms,N',rfl,e,rs,n',hp'⟩,kk,e2,dp,hn⟩
   refine⟨D,_,rfl,.inl ⟨SqL.of e2,λqm hqm=>?_⟩⟩
   have pm:p≠qm:=j8 hp' hqm
   have e':((w.toNat:Nat):Int)=w:=by lia
   rw[e'] at rs
   exact jGI T CT CL hr (by rw[j7 pm];exact hp') n' j5 rs ((k1.trans kk).new hqm _) ⟨_,hp⟩ a2 (by lia) w2 n0 n1 q
 .exact jGI T CT CL hr hp1 b1 (mays:=[]) ht1 (Ris.nil w) k1 ⟨_,hp⟩ a2 (by lia) w2 n0 n1 q
def jT8(F:Fun K "_law_box" "_law_box" sBox f fd)(T:Txt mg)(CT:Can P w K mg base "_law_take" 1 fT fdT ["pot","wide"] jS)(CL:Can P w K mg base "_law_lot" 2 fL fdL ["pot","wide"] kT):
  FnOk P w K mg base CX0 3 f fd ["pot","most_things","most_pieces"] spBox:=by
 refine F.ok scBox (λvs H Q E h=>?_) (λcdv A outer s H vs Q E hr h=>?_)
 .obtain⟨_,_,_,_,rfl,_⟩:=h
  rfl
 .obtain⟨p,N,mt,mp,rfl,hp,hN,m0,m1,n0,n1,q⟩:=h
  exact⟨_,(boxA T CT CL hr).2.h,jMV T CT CL hr hp hN m0 m1 n0 n1 q⟩
inductive Ob where
 |int (i:Int)
 |oth
 |tup (os:List Ob)
def OthAt(H:Hp)(v:V):Prop:=v=.non\/(∃b,v=.bl b)\/(∃x,v=.str x)\/∃a,v=.ref a/\((∃xs,H a=some (.lst xs))\/∃kvs,H a=some (.dK kvs))
mutual
def At(H:Hp):Ob->V->Prop
 | .int i,v=>v=.int i
 | .oth,v=>OthAt H v
 | .tup os,v=>∃a vs,v=.ref a/\H a=some (.tup vs)/\vs.length<=100/\Ats H os vs
def Ats(H:Hp):List Ob->List V->Prop
 |[],vs=>vs=[]
 |o::os,vs=>∃v r,vs=v::r/\At H o v/\Ats H os r
end
structure Kp (H H':Hp):Prop where
 t:Tups H H'
 l:∀a xs,H a=some (.lst xs)->∃ys,H' a=some (.lst ys)
 d:∀a xs,H a=some (.dK xs)->∃ys,H' a=some (.dK ys)
def Kp.of{H H':Hp}(e:Ext H H'):Kp H H':=⟨λb xs h=>e b _ h,λa xs h=>⟨xs,e a _ h⟩,λa xs h=>⟨xs,e a _ h⟩⟩
def OthAt.mono(k:Kp H H')(h:OthAt H v):OthAt H' v:=by
 rcases h with h|h|h|⟨a,rfl,⟨xs,h⟩|⟨xs,h⟩⟩
 .exact .inl h
 .exact .inr (.inl h)
 .exact .inr (.inr (.inl h))
 .exact .inr (.inr (.inr ⟨a,rfl,.inl (k.l _ _ h)⟩))
 .exact .inr (.inr (.inr ⟨a,rfl,.inr (k.d _ _ h)⟩))
mutual
def At.mono{H H':Hp}(k:Kp H H'):∀(o:Ob) (v:V),At H o v->At H' o v
 | .int _,_,h=>h
 | .oth,_,h=>OthAt.mono k h
 | .tup os,_,⟨a,vs,e,h,n,r⟩=>⟨a,vs,e,k.t _ _ h,n,Ats.mono k os vs r⟩
def Ats.mono{H H':Hp}(k:Kp H H'):∀(os:List Ob) (vs:List V),Ats H os vs->Ats H' os vs
 |[],_,h=>h
 |o::os,_,⟨v,r,e,h,t⟩=>⟨v,r,e,At.mono k o v h,Ats.mono k os r t⟩
end
variable {o:Ob}
def At.ext(e:Ext H H')(h:At H o v):At H' o v:=At.mono (.of e) o v h
def Ats.len:∀{os:List Ob}{vs:List V},Ats H os vs->vs.length=os.length
 |[],_,h=>by cases (show _=[] from h);rfl
 |o::os,_,⟨v,r,e,h,t⟩=>by rw[e,aV,aV,Ats.len t]
def Ats.get{H:Hp}:∀{os:List Ob}{vs:List V},Ats H os vs->∀{i:Nat}{v:V},vs[i]?=some v->∃o,os[i]?=some o/\At H o v
 |[],_,h,i,v,e=>by cases (show _=[] from h);cases e
 |o::os,_,⟨v,r,e,h,t⟩,0,v',e'=>by subst e;cases e';exact⟨o,rfl,h⟩
 |o::os,_,⟨v,r,e,h,t⟩,i+1,v',e'=>by subst e;exact Ats.get t (i:=i) e'
def isInt:Ob->Bool
 | .int _=>true
 |_=>false
def isTup:Ob->Bool
 | .tup _=>true
 |_=>false
def upB(lo hi:Int):Ob->Bool
 | .int i=>decide (lo<=i)&&decide (i<=hi)
 |_=>false
def At.ty(K:W.Frag)(h:At H o v):∃t,TyOf K H v t/\kitOne K t (.type "tuple")=some (isTup o)/\∃b1 b2,kitOne K t (.type "int")=some b1/\kitOne K t (.type "bool")=some b2/\(b1&&!b2)=isInt o:=by
 cases o with
 |int i=>
  cases (show v=.int i from h)
  exact⟨_,.int i,rfl,true,false,rfl,rfl,rfl⟩
 |oth=>
  rcases (show OthAt H v from h) with rfl|⟨b,rfl⟩|⟨x,rfl⟩|⟨a,rfl,⟨xs,e⟩|⟨xs,e⟩⟩
  .exact⟨_,.non,rfl,false,false,rfl,rfl,rfl⟩
  .exact⟨_,.bl b,rfl,true,true,rfl,rfl,rfl⟩
  .exact⟨_,.str x,rfl,false,false,rfl,rfl,rfl⟩
  .exact⟨_,.lst e,rfl,false,false,rfl,rfl,rfl⟩
  .exact⟨_,.dK e,rfl,false,false,rfl,rfl,rfl⟩
 |tup os=>
  obtain⟨a,vs,rfl,e,_⟩:=h
  exact⟨_,.tup e,rfl,false,false,rfl,rfl,rfl⟩
def At.tupOf(h:At H o v)(t:isTup o=true):∃os a vs,o=.tup os/\v=.ref a/\H a=some (.tup vs)/\vs.length<=100/\Ats H os vs:=by
 cases o with
 |int i=>cases t
 |oth=>cases t
 |tup os=>
  obtain⟨a,vs,e1,e2,e4,e3⟩:=h
  exact⟨os,a,vs,rfl,e1,e2,e4,e3⟩
theorem jGA{K:W.Frag}{m:List (Option Nat)}{g:TG}{tt:TT}{te:TE}{σ:St}{H1:Hp}{Q:VK}{a:Addr}{xs:List V}{os:List Ob}{F:Ob->Bool}(ha:H1 a=some (.tup xs))(hx:Ats H1 os xs)(hn:xs.length<sizeLine)(σP:St->Prop)(h0:σP (blkσ m σ))
  (step:∀(σ':St) (H':Hp) (v:V) (o:Ob) (R:St->V->Hp->Prop) (S:St->Hp->Prop),σP σ'->Ext H1 H'->At H' o v->(∀σ2 H'',σP σ2->Ext H' H''->R σ2 (.bl (F o)) H'')->g v σ' H' λσ2 H2=>tt σ2 H2 λb H3=>if b=true then te σ2 H3 (R σ2) else S σ2 H3)
  (hd:∀D H',Ext H1 H'->H' D=some (.lst ((os.map F).map V.bl))->Q (.ref D) H'):qJ m g tt te σ Q (Itt K a) H1:=by
 have hl:=hx.len
 refine jB7 (xs:=xs) hn (λD i σ' H' zs=>σP σ'/\Ext H1 H'/\H' D=some (.lst zs)/\H1 D=none/\zs=((os.take i).map F).map V.bl) ?_ ?_ ?_ ?_
 .intro D hD
  exact⟨h0,(Ext.refl _).new hD _,j5,hD,rfl⟩
 .rintro D i σ' H' zs hD ⟨_,e,h2,_,rfl⟩
  refine⟨e _ _ ha,h2,?_⟩
  rw[aa,aa,aZ]
  lia
 .rintro D i σ' H' zs x hD hi ⟨p,e,h2,hn,rfl⟩
  obtain⟨o,ho,hAt⟩:=hx.get hi
  refine step σ' H' x o _ _ p e (hAt.ext e) λσ2 H'' p2 e2=>⟨e2 _ _ h2,p2,(e.trans e2).updNew hn _,j5,hn,?_⟩
  have:os.take (i+1)=os.take i++[o]:=by
   rw[aX,ho]
   rfl
  rw[this,aC,aC]
  rfl
 .rintro D σ' H' zs hD ⟨_,e,h2,_,rfl⟩
  rw[hl,bH] at h2
  exact hd D H' e h2
noncomputable abbrev XOf(N:List Str)(q:Str)(st:Stmt)(P:Program)(w:World)(K:W.Frag)(mg:Str->Option Value)(base:Heap)(f:Addr)(cdv:Value)(A:Around)(outer:List Env)(s:Shared)(H:Hp)(E:XK):Cx:=(cxOf CX0 P w K mg base N q (jB st) f cdv A outer s H E).nox
def spWh:Sp:=λvs H Q _=>∃v o,vs=[v]/\At H o v/\Q (.bl (isInt o)) H
end Eo
namespace L2
open PySem
def qb{Q:VK}{H:Hp}{a b:Bool}(q:Q (.bl a) H)(e:a=b):Q (.bl b) H:=e ▸ q
section
variable {P:Program}{w:World}{K:W.Frag}{mg:Str->Option Value}{base:Heap}{N:List Str}{qual:Str}{sc:Scope}{f:Addr}{cdv:Value}{A:Around}{outer:List Env}{s:Shared}{H:Hp}{E:XK}{x y z:Str}{p1 p2 p3 pos:Pos}{k i j l:Nat}
def jIN(hN:N.Nodup)(hi:N[i]?=some x)(hj:N[j]?=some y)(hx:sc.names.lookup x=some .local)(hy:sc.names.lookup y=some .local):
  JG (cxOf CX0 P w K mg base N qual sc f cdv A outer s H E).nox (.Tuple [.Name x p1,.Name y p2] k pos) (gTup K 2 (qZ (kI i) (qZ (kI j) gNil))):=
 jIO (X:=(cxOf CX0 P w K mg base N qual sc f cdv A outer s H E).nox) rfl (jAK (jJ hN hi (loc_l hx)) (jAK (jJ hN hj (loc_l hy)) jEX jB3) jB3)
end
section
variable {K:W.Frag}{m:List (Option Nat)}{g:TG}{tt:TT}{te:TE}{σ:St}{H1:Hp}{Q:VK}
theorem jF7{a:Addr}{xs:List V}(hn:xs.length<sizeLine)(Pv:Addr->Nat->St->Hp->List V->Prop)(h0:∀D,H1 D=none->Pv D 0 (blkσ m σ) (upd H1 D (.lst [])) [])
  (hD:∀D i σ' H' zs,H1 D=none->Pv D i σ' H' zs->H' a=some (.lst xs)/\H' D=some (.lst zs)/\zs.length<=i)
  (hs:∀D i σ' H' zs x,H1 D=none->xs[i]?=some x->Pv D i σ' H' zs->g x σ' H' λσ2 H2=>tt σ2 H2 λb H3=>if b=true then te σ2 H3 λv H4=>H4 D=some (.lst zs)/\Pv D (i+1) σ2 (upd H4 D (.lst (zs++[v]))) (zs++[v]) else Pv D (i+1) σ2 H3 zs)
  (hd:∀D σ' H' zs,H1 D=none->Pv D xs.length σ' H' zs->Q (.ref D) H'):qJ m g tt te σ Q (Itl K a) H1:=by
 intro D hDn
 refine⟨λi k σ' H' zs=>k=xs.length-i/\i<=xs.length/\Pv D i σ' H' zs,⟨_,rfl,bb _,h0 D hDn⟩,?_⟩
 rintro i k σ' H' zs ⟨rfl,hi,p⟩
 obtain⟨s1,q1,q2⟩:=hD D i σ' H' zs hDn p
 refine⟨q1,by lia,?_⟩
 by_cases hlt:i<xs.length
 .refine .inr ⟨⟨xs,xs[i],SqL.of s1,by simp[hlt]⟩,Pv D (i+1),λσ2 H2 zs z=>⟨xs.length-(i+1),by lia,rfl,hlt,z⟩,λv H'' y=>?_⟩
  obtain⟨e1,e2⟩:=y
  subst e1
  exact hs D i σ' _ zs v hDn (e2 xs (SqL.of s1)) p
 .have e:i=xs.length:=by lia
  subst e
  exact .inl ⟨⟨xs,SqL.of s1,ak _⟩,hd D σ' H' zs hDn p⟩
end
end L2
namespace Eo
open PySem L2
variable {fd:FuncData}{os:List Ob}{H:Hp}{lj:List (List Int×Int)}{ns:List Int}{B c:Prop}{vs:List V}{o:Ob}{t:Int}
abbrev jPD:List Str:=["found"]
def scWhole:FnScope jPD ["found"] (jB jDG):= {}
def jRX(T:Txt mg): {t:TS // JSs (XOf jPD "_law_whole" jDG P w K mg base f cdv A outer s H0 E) (jE jDG) t}:=
 have nd:=scWhole.nd
 ⟨_,(jC (kD ((jLT (jF jA4 gD T.isinstance (by decide+kernel) (j3 (jv 0 rfl vL) (j3 (jBL (v:=.ty "int") gD T.int (by decide+kernel) rfl) j6 j4) j4) j4) (jLQ (jTK (jF jA4 gD T.isinstance (by decide+kernel) (j3 (jv 0 rfl vL) (j3 (jBL (v:=.ty "bool") gD T.bool (by decide+kernel) rfl) j6 j4) j4) j4)))))))⟩
def jO2(F:Fun K "_law_whole" "_law_whole" jDG f fd)(T:Txt mg):FnOk P w K mg base CX0 1 f fd ["found"] spWh:=by
 refine F.ok scWhole (λvs H Q E h=>?_) (λcdv A outer s H vs Q E hr h=>?_)
 .obtain⟨_,_,rfl,_⟩:=h
  rfl
 .obtain⟨v,o,rfl,hA,q⟩:=h
  obtain⟨t,ty,_,b1,b2,k1,k2,e⟩:=hA.ty K
  refine⟨_,(jRX T).2.h,?_⟩
  refine⟨_,rfl,_,_,_,b1,rfl,ty,k1,b1,rfl,?_⟩
  rw[<- e] at q
  cases b1 with
  |true=>exact iteT ⟨_,rfl,_,_,_,b2,rfl,ty,k2,b2,rfl,q⟩
  |false=>exact iteF q
def jB2(l:List Int):(l.map V.int).all flatV=true:=by
 rw[bF]
 intro x hx
 obtain⟨i,_,rfl⟩:=aQ.mp hx
 rfl
theorem jC1(i:Int)(l:List Int):inV (.int i) (l.map V.int)=decide (i∈l):=by
 unfold inV
 rw[cQ,gd,fj]
 constructor
 .rintro ⟨x,hx,e⟩
  obtain⟨j,hj,rfl⟩:=aQ.mp hx
  have:j=i:=eq_of_beq e
  rw[<- this]
  exact hj
 .intro h
  exact⟨.int i,aQ.mpr ⟨i,h,rfl⟩,by simp[eqV]⟩
theorem jAV:∀(ts:List Int) (lo w:Int),ts.Pairwise (· < ·)->(∀z∈ts,lo<=z/\z<w)->(ts.length:Int)<=max (w-lo) 0
 |[],lo,w,_,_=>by show (0:Int)<=_;lia
 |a::r,lo,w,hp,hb=>by
  have h1:=hb a au
  have hp':=gW.mp hp
  have:=jAV r (a+1) w hp'.2 λz hz=>⟨by have:=hp'.1 z hz;lia,(hb z (av _ hz)).2⟩
  rw[aV]
  lia
def PcsAt.get{H:Hp}:∀{vs:List V}{ps:List (List Int×Int)},PcsAt H vs ps->∀{k:Nat},k<ps.length->∃v,vs[k]?=some v/\PcAt H v (ps.getD k ([],0))
 |v::vs,p::ps,h,0,_=>⟨v,rfl,h.1⟩
 |v::vs,p::ps,h,k+1,hk=>PcsAt.get h.2 (k:=k) (by simpa using hk)
 |[],[],_,k,hk=>absurd hk (ev _)
 |[],_::_,h,_,_=>h.elim
 |_::_,[],h,_,_=>h.elim
def jCX(n:Nat):(upto n).length=n:=by
 unfold upto
 rw[aa,bI]
def Ats.two(h:Ats H os vs)(n:vs.length=2):∃x y a b,os=[x,y]/\vs=[a,b]/\At H x a/\At H y b:=by
 cases os with
 |nil=>cases (show vs=[] from h);cases n
 |cons x os=>
  obtain⟨a,r,rfl,h1,h⟩:=h
  cases os with
  |nil=>cases (show r=[] from h);cases n
  |cons y os=>
   obtain⟨b,r,rfl,h2,h⟩:=h
   cases os with
   |nil=>cases (show r=[] from h);exact⟨x,y,a,b,rfl,rfl,h1,h2⟩
   |cons z os=>obtain⟨c,r,rfl,_,_⟩:=h;simp at n
def jTW(H:Hp)(i:Int):At H (.int i) (.int i):=rfl
def jPR(h:H a=some (.tup vs))(n:vs.length<=100)(r:Ats H os vs):At H (.tup os) (.ref a):=⟨a,vs,rfl,h,n,r⟩
def ats0(H:Hp):Ats H [] []:=rfl
def ats1{v:V}(h:At H o v)(r:Ats H os vs):Ats H (o::os) (v::vs):=⟨v,vs,rfl,h,r⟩
def iteT'{A:Prop}{c:Bool}(hc:c=true)(h:A):if c=true then A else B:=by
 rw[ai hc]
 exact h
theorem yes{A:Prop} [Decidable c](hc:c)(h:A):if decide c=true then A else B:=by
 rw[ax hc,ai rfl]
 exact h
theorem nay{A:Prop} [Decidable c](hc:¬c)(h:B):if decide c=true then A else B:=by
 rw[aN hc,aj aq]
 exact h
def _root_.L2.Ext.tups{H':Hp}(e:Ext H H'):Tups H H':=λb xs h=>e b _ h
def PcsAt.at{H:Hp}:∀{vs:List V}{ps:List (List Int×Int)},PcsAt H vs ps->∀{i:Nat}{v:V},vs[i]?=some v->∃pc,ps[i]?=some pc/\PcAt H v pc
 |[],[],_,i,v,e=>by cases e
 |x::vs,p::ps,h,0,v,e=>by cases e;exact⟨p,rfl,h.1⟩
 |x::vs,p::ps,h,i+1,v,e=>PcsAt.at h.2 (i:=i) e
 |[],_::_,h,_,_,_=>h.elim
 |_::_,[],h,_,_,_=>h.elim
theorem iteNT{A:Prop} [Decidable c](hc:¬c)(h:A):if (!decide c)=true then A else B:=by
 rw[aN hc]
 exact h
def valO:Ob->Int
 | .int i=>i
 |_=>0
def nAt(ns:List Int)(t:Int):Int:=ns.getD t.toNat 0
theorem ns_at(h0:0<=t)(h1:t<ns.length):atI (ns.map V.int) t=some (.int (nAt ns t)):=by
 obtain⟨n,rfl⟩:∃n:Nat,t=(n:Int):=⟨t.toNat,by lia⟩
 refine yF ?_
 unfold nAt
 rw[aO,bY,af,ag (by lia)]
 rfl
def mus(mays:List Int)(n:Nat):List Int:=((List.range n).filter λ(t:Nat)=>!decide ((t:Int)∈mays)).map λ(t:Nat)=>(t:Int)
theorem jD4(mays:List Int)(n:Nat):mus mays (n+1)=mus mays n++(if (!decide ((n:Int)∈mays))=true then [(n:Int)] else []):=by
 unfold mus
 rw[fg,cH,aC]
 congr 1
 rw[bL]
 split<;>rfl
def jBJ(mays:List Int)(n:Nat):(mus mays n).length<=n:=by
 unfold mus
 rw[aa]
 exact aY (bW _ _) (by rw[bI];exact ak _)
def wL(ns:List Int)(lj:List (List Int×Int))(t:Int)(n:Nat):List Int:=(((ns.zip lj).take n).filter λx=>decide (t∈x.2.1)).map Prod.fst
theorem jRZ(ns:List Int)(lj:List (List Int×Int))(t:Int)(n:Nat):(wL ns lj t n).length<=n:=by
 unfold wL
 rw[aa]
 refine aY (bW _ _) ?_
 rw[aZ]
 lia
theorem jGV{a:Int}{j:Nat}{pc:List Int×Int}(h1:ns[j]?=some a)(h2:lj[j]?=some pc):wL ns lj t (j+1)=wL ns lj t j++(if decide (t∈pc.1)=true then [a] else []):=by
 unfold wL
 have e:(ns.zip lj).take (j+1)=(ns.zip lj).take j++[(a,pc)]:=by
  rw[aX,show (ns.zip lj)[j]?=some (a,pc) from eW.mpr ⟨h1,h2⟩]
  rfl
 rw[e,cH,aC,bL]
 congr 1
 show List.map Prod.fst (if decide (t∈pc.1)=true then [(a,pc)] else [])=_
 split<;>rfl
def onesB(w:Int)(ms:List Int)(lj:List (List Int×Int))(ns:List Int):Bool:=(mus ms w.toNat).all λt=>decide ((wL ns lj t lj.length).sum=1)
def jAM(w:Int)(ms:List Int)(lj:List (List Int×Int)):Ob->Bool
 | .tup os=>decide (os.length=lj.length)&&(os.all isInt&&onesB w ms lj (os.map valO))
 |_=>false
def Ats.intsW:∀{os:List Ob}{vs:List V},Ats H os vs->os.all isInt=true->vs=(os.map valO).map V.int
 |[],vs,h,_=>by cases (show vs=[] from h);rfl
 |o::os,vs,h,ha=>by
  obtain⟨v,r,rfl,h1,h2⟩:=h
  rw[dw,ba] at ha
  cases o with
  |int i=>
   cases (show v=.int i from h1)
   rw[Ats.intsW h2 ha.2]
   rfl
  |oth=>cases ha.1
  |tup _=>cases ha.1
def jRY{w:Int}{ms:List Int}(h:isTup o=false):jAM w ms lj o=false:=by cases o<;>first|rfl|cases h
def jB0:Sp:=λvs H Q _=>∃(b qm:Addr) (x3:V) (w:Int) (mays:List Int),vs=[.ref b]/\H b=some (.tup [.int w,.ref qm,x3])/\H qm=some (.tup (mays.map V.int))/\0<=w/\w<=1000/\∀l,H l=none->Q (.ref l) (upd H l (.lst ((mus mays w.toNat).map V.int)))
abbrev jLD:List Str:=["box","mays"]
def scMusts:FnScope jLD ["box"] (jB jCR):= {}
def jT9(T:Txt mg): {t:TS // JSs (XOf jLD "musts_of" jCR P w K mg base f cdv A outer s H0 E) (jE jCR) t}:=
 have nd:=scMusts.nd
 ⟨_,(jA (jL (i:=1) nd rfl qI (jK jU (jv 0 rfl vL) (j9) jD) jBO)
   (jC (kD (kJ (m:=[none,some 1]) (Nc:=["thing","mays"]) rfl (kY gD T.range (j3 (jK jU (jv 0 rfl vL) (j9) jD) j6 jR) jR) rfl (by decide+kernel) (by decide+kernel) (jQ (psc:=jB jCR)) (jH (N:=jLD) rfl rfl (by decide+kernel)) (λcl C fp s H=>jJ (i:=0) (show (["thing","mays"]:List Str).Nodup by decide+kernel) rfl yG) (λcl C fp s H=>jAP (jM jE6 (jv 0 rfl jV) (jv 1 rfl jX) jL8)) (λcl C fp s H=>(jv 0 rfl jV)) kQ))))⟩
theorem jO5(F:Fun K "musts_of" "musts_of" jCR f fd)(T:Txt mg):FnOk P w K mg base CX0 1 f fd ["box"] jB0:=by
 refine F.ok scMusts (λvs H Q E h=>?_) (λcdv A outer s H vs Q E hr h=>?_)
 .obtain⟨_,_,_,_,_,rfl,_⟩:=h
  rfl
 .obtain⟨b,qm,x3,w,mays,rfl,hb,hm,w0,w1,q⟩:=h
  refine⟨_,(jT9 T).2.h,?_⟩
  refine⟨_,rfl,b,_,1,_,rfl,rfl,SqT.of hb,rfl,?_⟩
  refine⟨_,rfl,b,_,0,_,rfl,rfl,SqT.of hb,rfl,w,rfl,by lia,by lia,jAD (n:=w.toNat) (by rw[ar];lia) (λD i σ' H' ys=>(∃v,σ'=[v,some (.ref qm)])/\ys=(mus mays i).map V.int/\H'=upd H D (.lst ys)) ?_ ?_ ?_ ?_⟩
  .intro D hD
   exact⟨⟨_,rfl⟩,rfl,rfl⟩
  .rintro D i σ' H' ys hD hi ⟨_,rfl,rfl⟩
   exact⟨j5,by rw[aa];exact jBJ _ _⟩
  .rintro D i σ' H' ys hD hi ⟨⟨v,rfl⟩,rfl,rfl⟩
   have e0:(0+(i:Int))=(i:Int):=by lia
   refine⟨_,rfl,_,rfl,qm,_,rfl,.inr (SqT.of (by rw[j7 (j8 hm hD)];exact hm)),rfl,jB2 mays,_,rfl,?_⟩
   rw[e0,jC1]
   refine ite2 (λhz=>?_) (λhz=>?_)
   .rw[ai rfl] at hz
    refine⟨_,rfl,j5,⟨_,rfl⟩,?_,jAT⟩
    rw[jD4,ai hz,aC]
    rfl
   .rw[ai rfl] at hz
    refine⟨⟨_,rfl⟩,?_,rfl⟩
    rw[jD4,aj hz,bS]
  .rintro D σ' H' ys hD ⟨_,rfl,rfl⟩
   exact q D hD
abbrev jHE:List Str:=["box"]
def scLMusts:FnScope jHE ["box"] (jB jB1):= {}
def jR9(T:Txt mg): {t:TS // JSs (XOf jHE "_law_musts" jB1 P w K mg base f cdv A outer s H0 E) (jE jB1) t}:=
 have nd:=scLMusts.nd
 ⟨_,(jC (kD (kJ (m:=[none,some 0]) (Nc:=["thing","box"]) rfl (kY gD T.range (j3 (jK jU (jv 0 rfl vC) (j9) jD) j6 jR) jR) rfl (by decide+kernel) (by decide+kernel) (jQ (psc:=jB jB1)) (jH (N:=jHE) rfl rfl (by decide+kernel)) (λcl C fp s H=>jJ (i:=0) (show (["thing","box"]:List Str).Nodup by decide+kernel) rfl yG) (λcl C fp s H=>jAP (jM jE6 (jv 0 rfl jV) (jK jAB (jv 1 rfl jX) (j9) jD) jL7)) (λcl C fp s H=>(jv 0 rfl jV)) kQ)))⟩
theorem jL3(F:Fun K "_law_musts" "_law_musts" jB1 f fd)(T:Txt mg):FnOk P w K mg base CX0 1 f fd ["box"] jB0:=by
 refine F.ok scLMusts (λvs H Q E h=>?_) (λcdv A outer s H vs Q E hr h=>?_)
 .obtain⟨_,_,_,_,_,rfl,_⟩:=h
  rfl
 .obtain⟨b,qm,x3,w,mays,rfl,hb,hm,w0,w1,q⟩:=h
  refine⟨_,(jR9 T).2.h,?_⟩
  refine⟨_,rfl,b,_,0,_,rfl,rfl,SqT.of hb,rfl,w,rfl,by lia,by lia,jAD (n:=w.toNat) (by rw[ar];lia) (λD i σ' H' ys=>(∃v,σ'=[v,some (.ref b)])/\ys=(mus mays i).map V.int/\H'=upd H D (.lst ys)) ?_ ?_ ?_ ?_⟩
  .intro D hD
   exact⟨⟨_,rfl⟩,rfl,rfl⟩
  .rintro D i σ' H' ys hD hi ⟨_,rfl,rfl⟩
   exact⟨j5,by rw[aa];exact jBJ _ _⟩
  .rintro D i σ' H' ys hD hi ⟨⟨v,rfl⟩,rfl,rfl⟩
   have e0:(0+(i:Int))=(i:Int):=by lia
   refine⟨_,rfl,_,rfl,b,_,1,_,rfl,rfl,SqT.of (by rw[j7 (j8 hb hD)];exact hb),rfl,qm,_,rfl,.inr (SqT.of (by rw[j7 (j8 hm hD)];exact hm)),rfl,jB2 mays,_,rfl,?_⟩
   rw[e0,jC1]
   refine ite2 (λhz=>?_) (λhz=>?_)
   .rw[ai rfl] at hz
    refine⟨_,rfl,j5,⟨_,rfl⟩,?_,jAT⟩
    rw[jD4,ai hz,aC]
    rfl
   .rw[ai rfl] at hz
    refine⟨⟨_,rfl⟩,?_,rfl⟩
    rw[jD4,aj hz,bS]
  .rintro D σ' H' ys hD ⟨_,rfl,rfl⟩
   exact q D hD
def spWho:Sp:=λvs H Q _=>∃(b:Addr) (v:V) (o:Ob) (w:Int) (ms:List Int) (lj:List (List Int×Int)),vs=[.ref b,v]/\BoxAt H b w ms lj/\Good 16 32 w ms lj/\At H o v/\∀H',Ext H H'->Q (.bl (jAM w ms lj o)) H'
abbrev jBI:List Str:=["box","thing","must"]
def scRightW:FnScope jBI ["box","thing"] (jB yW):= {}
def rigLW(T:Txt mg)(CW:Can P w K mg base "_law_whole" 1 fW fdW ["found"] spWh)(CM:Can P w K mg base "_law_musts" 1 fM fdM ["box"] jB0)(hr:Room 1 (XOf jBI "_law_wholes_right" yW P w K mg base f cdv A outer s H0 E).A): {t:TS // JSs (XOf jBI "_law_wholes_right" yW P w K mg base f cdv A outer s H0 E) (qH ((jE yW).getD 1 (.Pass ⟨0,0,0,0⟩))) t}:=
 have nd:=scRightW.nd
 ⟨_,(jC (qD (jM qS (jF (jAA rfl) gD T.sum (by decide+kernel) (j3 (kJ (m:=[none,some 2,some 0,some 1]) (Nc:=["k","must","box","thing"]) rfl (kY gD T.range (j3 (jF jN gD T.len (by decide+kernel) (j3 (jv 1 rfl vC) j6 j4) j4) j6 jG) jG) rfl (by decide+kernel) (by decide+kernel) (jQ (psc:=jB yW)) (jH (N:=jBI) rfl rfl (by decide+kernel)) (λcl C fp s H=>jJ (i:=0) (show (["k","must","box","thing"]:List Str).Nodup by decide+kernel) rfl yG) (λcl C fp s H=>jAP (jM jHB (jv 1 rfl jX) (jK jAB (jK jAB (jK jAB (jv 2 rfl jX) (j9) jD) (jv 0 rfl jV) kN) (j9) jD) jL7)) (λcl C fp s H=>(jK jAB (jv 3 rfl jX) (jv 0 rfl jV) kN)) kQ) j6 jP) jP) (j9) (jT _)) (jC (kD (xD))) yC))⟩
def rigAW(T:Txt mg)(CW:Can P w K mg base "_law_whole" 1 fW fdW ["found"] spWh)(CM:Can P w K mg base "_law_musts" 1 fM fdM ["box"] jB0)(hr:Room 1 (XOf jBI "_law_wholes_right" yW P w K mg base f cdv A outer s H0 E).A): {t:TS // JSs (XOf jBI "_law_wholes_right" yW P w K mg base f cdv A outer s H0 E) (jE yW) t}:=
 have nd:=scRightW.nd
 ⟨_,(jA (qD (jt_w (jw_or (jBZ (qP (jF jA4 gD T.isinstance (by decide+kernel) (j3 (jv 1 rfl vC) (j3 (jBL (v:=.ty "tuple") gD T.tuple (by decide+kernel) rfl) j6 j4) j4) j4) qB)) (jw_or (jM qS (jF jN gD T.len (by decide+kernel) (j3 (jv 1 rfl vC) j6 j4) j4) (jF jN gD T.len (by decide+kernel) (j3 (jK jU (jv 0 rfl vC) (j9) jD) j6 jR) jR) (jT _)) (jG1 (jBZ (qP (jF (jGF rfl) gD T.all (by decide+kernel) (j3 (kJ (m:=[none]) (Nc:=["one"]) rfl (qT (jv 1 rfl vC)) rfl (by decide+kernel) (by decide+kernel) (jQ (psc:=jB yW)) (jH (N:=jBI) rfl rfl (by decide+kernel)) (λcl C fp s H=>jJ (i:=0) (show (["one"]:List Str).Nodup by decide+kernel) rfl yG) (λcl C fp s H=>kO) (λcl C fp s H=>(CW.je (hr.mono (by decide)) gl_b (j3 (jv 0 rfl jV) j6 j4) j4)) yM) j6 jP) jP) qB)))))) (jC (kD (xD))) yC) (jA (yZ br rfl (yK (CM.je hr gD (j3 (jv 0 rfl vC) j6 j4) j4)) (jJ (i:=2) nd rfl qI) (rigLW T CW CM hr).2 kQ) (jC (kD (xD)))))⟩
theorem jL1(F:Fun K "_law_wholes_right" "_law_wholes_right" yW f fd)(T:Txt mg)(CW:Can P w K mg base "_law_whole" 1 fW fdW ["found"] spWh)(CM:Can P w K mg base "_law_musts" 1 fM fdM ["box"] jB0):FnOk P w K mg base CX0 2 f fd ["box","thing"] spWho:=by
 refine F.ok scRightW (λvs H Q E h=>?_) (λcdv A outer s H vs Q E hr h=>?_)
 .obtain⟨_,_,_,_,_,_,rfl,_⟩:=h
  rfl
 .obtain⟨b,v,o,w,ms,lj,rfl,hB,g,hA,q⟩:=h
  obtain⟨qm,qp,ps,b1,b2,b3,b4⟩:=hB.ex
  have pl:=b4.len
  have gl:=g.pl
  have w0:=g.w0
  have w1:=g.w1
  obtain⟨t,ty,kt,_⟩:=hA.ty K
  refine⟨_,(rigAW T CW CM hr).2.h,?_⟩
  refine⟨_,rfl,_,_,_,_,rfl,ty,kt,_,rfl,?_⟩
  cases ht:isTup o with
  |false=>exact iteT (iteT (qb (q H (Ext.refl H)) (jRY ht)))
  |true=>
   refine iteF ?_
   obtain⟨os,a,vs,rfl,rfl,ha,h100,hx⟩:=hA.tupOf ht
   have hl:=hx.len
   have hn:vs.length<sizeLine:=by rw[ar];lia
   have q:∀H',Ext H H'->Q (.bl (decide (os.length=lj.length)&&(os.all isInt&&onesB w ms lj (os.map valO)))) H':=q
   refine⟨_,rfl,a,_,rfl,.inr (SqT.of ha),_,rfl,b,_,2,_,rfl,rfl,SqT.of b1,rfl,qp,_,rfl,.inr (SqT.of b3),rfl,_,rfl,?_⟩
   by_cases hle:vs.length=ps.length
   .refine iteNS (by rw[hle]) ?_
    rw[ax (show os.length=lj.length by lia),cE] at q
    refine⟨_,rfl,a,rfl,⟨_,SqT.of ha⟩,jGA (F:=isInt) ha hx hn (λσ'=>∃v,σ'=[v]) ⟨_,rfl⟩ ?_ ?_⟩
    .rintro σ' H' v o R S ⟨u,rfl⟩ e hA k
     dsimp only[kI,yH]
     rw[ai rfl]
     exact⟨_,rfl,v,o,rfl,hA,k _ H' ⟨_,rfl⟩ (Ext.refl _)⟩
    .intro D H1 e1 hD
     refine⟨D,_,rfl,SqL.of hD,_,rfl,?_⟩
     have eall:(os.map isInt).all id=os.all isInt:=by rw[kj];rfl
     rw[eall]
     cases hall:os.all isInt with
     |false=>
      rw[hall,ce] at q
      exact iteT (q H1 e1)
     |true=>
      rw[hall,cE] at q
      refine iteF ?_
      have evs:=hx.intsW hall
      generalize hns:os.map valO=ns at q evs
      subst evs
      rw[aa] at hle
      refine⟨_,rfl,b,qm,_,w,ms,rfl,e1 _ _ b1,e1 _ _ b2,w0,by lia,λl hl2=>?_⟩
      have e2:=e1.new hl2 (.lst ((mus ms w.toNat).map V.int))
      have hl3:(upd H1 l (.lst ((mus ms w.toNat).map V.int))) l=some (.lst ((mus ms w.toNat).map V.int)):=j5
      generalize upd H1 l (.lst ((mus ms w.toNat).map V.int))=H2 at e2 hl3 ⊢
      refine⟨l,rfl,⟨_,SqL.of hl3⟩,jC3 (xs:=(mus ms w.toNat).map V.int) (λi σ H'=>(∃v2,σ=[some (.ref b),some (.ref a),v2])/\Ext H2 H'/\((mus ms w.toNat).take i).all (λt=>decide ((wL ns lj t lj.length).sum=1))=true) ⟨⟨_,rfl⟩,Ext.refl _,rfl⟩ (λi σ H' _ ⟨_,e,_⟩=>SqL.of (e _ _ hl3)) ?_ ?_⟩
      .rintro i x σ H3 hx3 ⟨⟨v2,rfl⟩,e3,hall3⟩
       obtain⟨u,hu,rfl⟩:∃z:Int,(mus ms w.toNat)[i]?=some z/\V.int z=x:=by
        rw[aO] at hx3
        cases hq:(mus ms w.toNat)[i]? with
        |none=>rw[hq] at hx3;cases hx3
        |some z=>rw[hq] at hx3;cases hx3;exact⟨z,rfl,rfl⟩
       have E3:=e2.trans e3
       have rest:∀(D4:Addr) (H4:Hp),H4 D4=some (.lst ((wL ns lj u lj.length).map V.int))->Ext H3 H4->(if (!decide (V.int (wL ns lj u lj.length).sum=V.int 1))=true then Q (.bl false) H4 else (∃v2,([some (.ref b),some (.ref a),some (.int u)]:St)=[some (.ref b),some (.ref a),v2])/\Ext H2 H4/\((mus ms w.toNat).take (i+1)).all (λt=>decide ((wL ns lj t lj.length).sum=1))=true):=λD4 H4 h4 e4=>by
        by_cases h1:(wL ns lj u lj.length).sum=1
        .refine iteNS (by rw[h1]) ⟨⟨_,rfl⟩,e3.trans e4,?_⟩
         rw[aX,hu,gB,hall3]
         show (true&&([u]:List Int).all _)=true
         rw[dw,ax h1]
         rfl
        .refine iteNT (λz=>h1 (V.int.inj z)) (qb (q H4 (E3.trans e4)) ?_)
         unfold onesB
         rw[List.all_eq_false]
         exact⟨u,aH hu,by rw[aN h1];exact aq⟩
       refine⟨_,rfl,a,_,rfl,.inr (SqT.of (E3 _ _ ha)),_,rfl,by lia,by lia,jAD (n:=(((ns.map V.int).length:Int)).toNat) (by rw[aa,ar];lia) (λD j σ' H' zs=>(∃v,σ'=[v,some (.int u),some (.ref b),some (.ref a)])/\zs=(wL ns lj u j).map V.int/\Ext H3 H'/\H' D=some (.lst zs)/\H3 D=none) ?_ ?_ ?_ ?_⟩
       .intro D hD
        exact⟨⟨_,rfl⟩,rfl,(Ext.refl _).new hD _,j5,hD⟩
       .rintro D j σ' H' zs hD hj ⟨_,rfl,e,h2,_⟩
        exact⟨h2,by rw[aa];exact jRZ _ _ _ _⟩
       .rintro D j σ' H' zs hD hj ⟨⟨v,rfl⟩,rfl,e,h2,hn2⟩
        have hjn:j<ns.length:=by rw[aa] at hj;lia
        have hz:ns[j]?=some ns[j]:=ag hjn
        have hy1:ps[j]?=some ps[j]:=ag (by lia)
        obtain⟨pc,hpc,pa,pq,hpe,c1,c2⟩:=b4.at hy1
        have at1:atI ps (0+(j:Int))=some (.ref pa):=by rw[dv];exact yF (by rw[hy1,hpe])
        have at2:atI (ns.map V.int) (0+(j:Int))=some (.int ns[j]):=by rw[dv];exact yF (by rw[aO,hz];rfl)
        have E5:=E3.trans e
        refine⟨_,rfl,_,rfl,b,_,2,_,rfl,rfl,SqT.of (E5 _ _ b1),rfl,_,rfl,qp,_,_,_,rfl,rfl,SqT.of (E5 _ _ b3),at1,pa,_,0,_,rfl,rfl,SqT.of (E5 _ _ c1),rfl,pq,_,rfl,.inr (SqT.of (E5 _ _ c2)),rfl,jB2 _,_,rfl,?_⟩
        show if inV (.int u) (pc.1.map V.int)=true then _ else _
        rw[jC1]
        refine ite2 (λhy=>?_) (λhy=>?_)
        .refine⟨_,rfl,_,rfl,a,_,_,_,rfl,rfl,SqT.of (E5 _ _ ha),at2,h2,⟨_,rfl⟩,?_,e.updNew hn2 _,j5,hn2⟩
         rw[jGV hz hpc,ai hy,aC]
         rfl
        .refine⟨⟨_,rfl⟩,?_,e,h2,hn2⟩
         rw[jGV hz hpc,aj hy,bS]
       .rintro D4 σ' H4 zs hD ⟨_,rfl,e4,h4,_⟩
        rw[show (((ns.map V.int).length:Int)).toNat=lj.length by rw[aa];lia] at h4
        exact⟨D4,_,rfl,SqL.of h4,rfl,_,rfl,rest D4 H4 h4 e4⟩
      .rintro σ H3 ⟨⟨v2,rfl⟩,e3,hall3⟩
       rw[aa,bH] at hall3
       refine qb (q H3 (e2.trans e3)) ?_
       unfold onesB
       exact hall3
   .refine iteNT (λz=>hle (by have:=V.int.inj z;lia)) (iteT (qb (q H (Ext.refl H)) ?_))
    rw[aN (show ¬os.length=lj.length by lia),ce]
def hueO(m:Int):Ob->Bool
 | .int i=>decide (0<=i)&&decide (i<m)
 |_=>false
def mayH(ms:List Int)(ns:List Int):Bool:=ms.all λt=>decide (nAt ns t=0)
def pcH(m:Int)(lj:List (List Int×Int))(ns:List Int):Bool:=lj.all λpc=>decide ((pc.1.map (nAt ns)).sum%m=0)
def restH(m:Int)(ms:List Int)(lj:List (List Int×Int))(ns:List Int):Bool:=mayH ms ns&&(pcH m lj ns&&!decide (ns.sum%m=0))
def hueB(w:Int)(ms:List Int)(lj:List (List Int×Int)):Ob->Bool
 | .tup [.int m,.tup os]=>decide (2<=m)&&(decide ((os.length:Int)=w)&&(os.all (hueO m)&&restH m ms lj (os.map valO)))
 |_=>false
section
variable {w:Int}{ms:List Int}{lj:List (List Int×Int)}
def jRL(h:isTup o=false):hueB w ms lj o=false:=by cases o<;>first|rfl|cases h
def jRM(h:¬os.length=2):hueB w ms lj (.tup os)=false:=by
 match os,h with
 |[],_=>rfl
 |[a],_=>cases a<;>rfl
 |[_,_],h=>exact absurd rfl h
 |a::b::_::_,_=>cases a<;>cases b<;>rfl
def hue_l{x y:Ob}(h:isInt x=false):hueB w ms lj (.tup [x,y])=false:=by cases x<;>first|rfl|cases h
def hue_r{x y:Ob}(h:isTup y=false):hueB w ms lj (.tup [x,y])=false:=by cases x<;>cases y<;>first|rfl|cases h
def jON(h:isInt o=true):∃i,o=.int i:=by
 cases o with
 |int i=>exact⟨i,rfl⟩
 |oth=>cases h
 |tup _=>cases h
end
def Ats.intsH{m:Int}:∀{os:List Ob}{vs:List V},Ats H os vs->os.all (hueO m)=true->vs=(os.map valO).map V.int
 |[],vs,h,_=>by cases (show vs=[] from h);rfl
 |o::os,vs,h,ha=>by
  obtain⟨v,r,rfl,h1,h2⟩:=h
  rw[dw,ba] at ha
  cases o with
  |int i=>
   cases (show v=.int i from h1)
   rw[Ats.intsH h2 ha.2]
   rfl
  |oth=>cases ha.1
  |tup _=>cases ha.1
theorem jRU{σ:St}{H1:Hp}{Q:VK}{q:Addr}{ts:List Int}(hσ:blkσ [none,some 1] σ=[none,some (.ref a)])(hq:H1 q=some (.tup (ts.map V.int)))(ha:H1 a=some (.tup (ns.map V.int)))(hb:∀t∈ts,0<=t/\t<ns.length)(hl:ts.length<=100)
  (k:∀D H',H' D=some (.lst ((ts.map (nAt ns)).map V.int))->Ext H1 H'->Q (.ref D) H'):qJ [none,some 1] (kI 0) yH (tOp (rIxT K) (tVar 1) (tVar 0)) σ Q (Itt K q) H1:=by
 refine jB7 (xs:=ts.map V.int) (by rw[aa,ar];lia) (λD j σ' H' zs=>(∃v,σ'=[v,some (.ref a)])/\zs=((ts.take j).map (nAt ns)).map V.int/\Ext H1 H'/\H' D=some (.lst zs)/\H1 D=none) ?_ ?_ ?_ ?_
 .intro D hD
  exact⟨⟨_,hσ⟩,rfl,(Ext.refl _).new hD _,j5,hD⟩
 .rintro D j σ' H' zs hD ⟨_,rfl,e,h2,_⟩
  refine⟨e _ _ hq,h2,?_⟩
  rw[aa,aa,aZ]
  lia
 .rintro D j σ' H' zs x hD hx ⟨⟨v,rfl⟩,rfl,e,h2,hn⟩
  obtain⟨z,hz,rfl⟩:∃z:Int,ts[j]?=some z/\V.int z=x:=by
   rw[aO] at hx
   cases hq:ts[j]? with
   |none=>rw[hq] at hx;cases hx
   |some z=>rw[hq] at hx;cases hx;exact⟨z,rfl,rfl⟩
  obtain⟨z0,z1⟩:=hb z (aH hz)
  dsimp only[kI,yH]
  rw[ai rfl]
  refine⟨_,rfl,_,rfl,a,_,_,_,rfl,rfl,SqT.of (e _ _ ha),ns_at z0 z1,h2,⟨_,rfl⟩,?_,e.updNew hn _,j5,hn⟩
  have:ts.take (j+1)=ts.take j++[z]:=by
   rw[aX,hz]
   rfl
  rw[this,aC,aC]
  rfl
 .rintro D σ' H' zs hD ⟨_,rfl,e,h2,hn⟩
  rw[aa,bH] at h2
  exact k D H' h2 e
def jI6:Sp:=λvs H Q _=>∃(b:Addr) (v:V) (o:Ob) (w:Int) (ms:List Int) (lj:List (List Int×Int)),vs=[.ref b,v]/\BoxAt H b w ms lj/\Good 16 32 w ms lj/\At H o v/\∀H',Ext H H'->Q (.bl (hueB w ms lj o)) H'
end Eo
namespace L2
open PySem
def jEY{P:Program}{w:World}{K:W.Frag}{mg:Str->Option Value}{base:Heap}{N:List Str}{qual:Str}{sc:Scope}{f:Addr}{cdv:Value}{A:Around}{outer:List Env}{s:Shared}{H:Hp}{E:XK}{x y:Str}{p1 p2 pos:Pos}{k i j:Nat}(hN:N.Nodup)(hi:N[i]?=some x)(hj:N[j]?=some y)
  (hx:Loc1 (cxOf CX0 P w K mg base N qual sc f cdv A outer s H E).nox x) (hy:Loc1 (cxOf CX0 P w K mg base N qual sc f cdv A outer s H E).nox y):
  JG (cxOf CX0 P w K mg base N qual sc f cdv A outer s H E).nox (.Tuple [.Name x p1,.Name y p2] k pos) (gTup K 2 (qZ (kI i) (qZ (kI j) gNil))):=
 jIO (X:=(cxOf CX0 P w K mg base N qual sc f cdv A outer s H E).nox) rfl (jAK (jJ hN hi hx) (jAK (jJ hN hj hy) jEX jB3) jB3)
end L2
namespace Eo
open PySem L2
variable {fd:FuncData}
theorem jS1(m:Int):upB 0 (m-1)=hueO m:=by
 funext o
 cases o with
 |int i=>
  show (decide (0<=i)&&decide (i<=m-1))=(decide (0<=i)&&decide (i<m))
  congr 1
  rw[iN]
  lia
 |oth=>rfl
 |tup _=>rfl
theorem jPL(s:Int){m:Int}(h:2<=m):decide (0<s%m)=!decide (s%m=0):=by
 have:=ff s (show m≠0 by lia)
 rw[cQ,fj,io,fq]
 lia
noncomputable abbrev nUpto:List Str:=["thing","least","most"]
def scUpto:FnScope nUpto ["thing","least","most"] (jB sUpto):= {}
def spUp:Sp:=λvs H Q _=>∃v o lo hi,vs=[v,.int lo,.int hi]/\At H o v/\Q (.bl (upB lo hi o)) H
def uptoA(T:Txt mg)(CW:Can P w K mg base "_law_whole" 1 fW fdW ["found"] spWh)(hr:Room 1 (XOf nUpto "_law_upto" sUpto P w K mg base f cdv A outer s H0 E).A): {t:TS // JSs (XOf nUpto "_law_upto" sUpto P w K mg base f cdv A outer s H0 E) (jE sUpto) t}:=
 have nd:=scUpto.nd
 ⟨_,(jC (kD ((jLT (CW.je hr gD (j3 (jv 0 rfl vL) j6 j4) j4) (jLQ (jOM op_le op_le (jv 1 rfl vL) (jv 0 rfl vL) (jv 2 rfl vL)))))))⟩
theorem jQX(F:Fun K "_law_upto" "_law_upto" sUpto f fd)(T:Txt mg)(CW:Can P w K mg base "_law_whole" 1 fW fdW ["found"] spWh):FnOk P w K mg base CX0 2 f fd ["thing","least","most"] spUp:=by
 refine F.ok scUpto (λvs H Q E h=>?_) (λcdv A outer s H vs Q E hr h=>?_)
 .obtain⟨_,_,_,_,rfl,_⟩:=h
  rfl
 .obtain⟨v,o,lo,hi,rfl,hA,q⟩:=h
  refine⟨_,(uptoA T CW hr).2.h,?_⟩
  refine⟨_,rfl,v,o,rfl,hA,_,rfl,?_⟩
  cases o with
  |int i=>
   cases (show v=.int i from hA)
   refine iteT ⟨_,rfl,_,rfl,_,_,rfl,rfl,_,rfl,ite2 (λhy=>?_) (λhy=>?_)⟩
   .refine⟨_,rfl,_,_,rfl,rfl,qb q ?_⟩
    have hy:lo<=i:=aG hy
    show (decide _&&decide _)=decide _
    rw[ax hy,cE]
   .refine qb q ?_
    have hy:¬lo<=i:=λh=>hy (ax h)
    show (decide _&&decide _)=false
    rw[aN hy,ce]
  |oth=>exact iteF q
  |tup os=>exact iteF q
abbrev jCE:List Str:=["box","thing","modulus","numbers"]
def scRightH:FnScope jCE ["box","thing"] (jB qG):= {}
def jQ6(T:Txt mg)(CW:Can P w K mg base "_law_whole" 1 fW fdW ["found"] spWh)(CU:Can P w K mg base "_law_upto" 2 fU fdU ["thing","least","most"] spUp)(hr:Room 2 (XOf jCE "_law_hues_right" qG P w K mg base f cdv A outer s H0 E).A): {t:TS // JSs (XOf jCE "_law_hues_right" qG P w K mg base f cdv A outer s H0 E) (jE qG) t}:=
 have nd:=scRightH.nd
 ⟨_,(jA (qD (jt_w (jw_or (jBZ (qP (jF jA4 gD T.isinstance (by decide+kernel) (j3 (jv 1 rfl vL) (j3 (jBL (v:=.ty "tuple") gD T.tuple (by decide+kernel) rfl) j6 j4) j4) j4) qB)) (jw_or (jM qS (jF jN gD T.len (by decide+kernel) (j3 (jv 1 rfl vL) j6 j4) j4) (j9) (jT _)) (jw_or (jBZ (qP (CW.je (hr.mono (by decide)) gD (j3 (jK jU (jv 1 rfl vL) (j9) jD) j6 jR) jR) qB)) (jG1 (jM op_lt (jK jU (jv 1 rfl vL) (j9) jD) (j9) (jT _))))))) (jC (kD (xD))) yC)
   (jA (jIL (jv 1 rfl vL) (jEY (i:=2) (j:=3) nd rfl rfl qI qI))
   (jA (qD (jt_w (jw_or (jBZ (qP (jF jA4 gD T.isinstance (by decide+kernel) (j3 (jv 3 rfl vC) (j3 (jBL (v:=.ty "tuple") gD T.tuple (by decide+kernel) rfl) j6 j4) j4) j4) qB)) (jG1 (jM qS (jF jN gD T.len (by decide+kernel) (j3 (jv 3 rfl vC) j6 j4) j4) (jK jU (jv 0 rfl vL) (j9) jD) (jT _))))) (jC (kD (xD))) yC)
   (jA (qD (jt_w (jw_or (jBZ (qP (jF (jGF rfl) gD T.all (by decide+kernel) (j3 (kJ (m:=[none,some 2]) (Nc:=["one","modulus"]) rfl (qT (jv 3 rfl vC)) rfl (by decide+kernel) (by decide+kernel) (jQ (psc:=jB qG)) (jH (N:=jCE) rfl rfl (by decide+kernel)) (λcl C fp s H=>jJ (i:=0) (show (["one","modulus"]:List Str).Nodup by decide+kernel) rfl yG) (λcl C fp s H=>kO) (λcl C fp s H=>(CU.je hr gl_b (j3 (jv 0 rfl jV) (j3 (j9) (j3 (jW jBX (jv 1 rfl jX) (j9)) j6 yD) jI) j4) j4)) yM) j6 jP) jP) qB)) (jG1 (qP (jF (jMR rfl) gD T.any (by decide+kernel) (j3 (kJ (m:=[none,some 3]) (Nc:=["may","numbers"]) rfl (qT (jK jU (jv 0 rfl vL) (j9) jD)) rfl (by decide+kernel) (by decide+kernel) (jQ (psc:=jB qG)) (jH (N:=jCE) rfl rfl (by decide+kernel)) (λcl C fp s H=>jJ (i:=0) (show (["may","numbers"]:List Str).Nodup by decide+kernel) rfl yG) (λcl C fp s H=>kO) (λcl C fp s H=>(jK jAB (jv 1 rfl jX) (jv 0 rfl jV) kN)) qV) j6 jP) jP) qB)))) (jC (kD (xD))) yC)
   (jA (qD (jM (jQU hr.units0) (jIQ (m:=[none,some 3,some 2]) (Nc:=["piece","numbers","modulus"]) rfl (qT (jK jU (jv 0 rfl vL) (j9) jD)) rfl (by decide+kernel) (by decide+kernel) (jQ (psc:=jB qG)) (jH (N:=jCE) rfl rfl (by decide+kernel)) (λcl C fp s H=>jJ (i:=0) (show (["piece","numbers","modulus"]:List Str).Nodup by decide+kernel) rfl jHH) (λcl C fp s H=>jAP (jM op_gt (jW qK (jF (jGB rfl) (gl_bC (by decide+kernel)) T.sum (by decide+kernel) (j3 (kJ (m:=[none,some 1]) (Nc:=["one","numbers"]) rfl (jG2 (jK jLU (jv 0 rfl jED) (j9) jD)) rfl (by decide+kernel) (by decide+kernel) (jIV (by decide+kernel)) (jH (N:=["piece","numbers","modulus"]) rfl rfl (by decide+kernel)) (λcl C fp s H=>jJ (i:=0) (show (["one","numbers"]:List Str).Nodup by decide+kernel) rfl yG) (λcl C fp s H=>kO) (λcl C fp s H=>(jK jG4 (jv 1 rfl jX) (jv 0 rfl jV) kN)) qV) j6 jP) jP) (jv 2 rfl (jPV (by decide+kernel)))) (j9) (jT _))) (λcl C fp s H=>(jv 0 rfl jED)) qV) (yL j6) (jT _)) (jC (kD (xD))) yC)
   (jC (kD (jCG op_gt (jW qK (jF (jMN rfl) gD T.sum (by decide+kernel) (j3 (jv 3 rfl vC) j6 j4) j4) (jv 2 rfl vC)) (j9) (jT _)))))))))⟩
theorem jL2(F:Fun K "_law_hues_right" "_law_hues_right" qG f fd)(T:Txt mg)(CW:Can P w K mg base "_law_whole" 1 fW fdW ["found"] spWh)(CU:Can P w K mg base "_law_upto" 2 fU fdU ["thing","least","most"] spUp):FnOk P w K mg base CX0 3 f fd ["box","thing"] jI6:=by
 refine F.ok scRightH (λvs H Q E h=>?_) (λcdv A outer s H vs Q E hr h=>?_)
 .obtain⟨_,_,_,_,_,_,rfl,_⟩:=h
  rfl
 .obtain⟨b,v,o,w,ms,lj,rfl,hB,g,hA,q⟩:=h
  obtain⟨qm,qp,ps,b1,b2,b3,b4⟩:=hB.ex
  have pl:=b4.len
  have gl:=g.pl
  have w0:=g.w0
  have w1:=g.w1
  have ml:=jAV _ 0 w g.mr.1 g.mr.2
  obtain⟨t,ty,kt,_⟩:=hA.ty K
  refine⟨_,(jQ6 T CW CU hr).2.h,?_⟩
  refine⟨_,rfl,_,_,_,_,rfl,ty,kt,_,rfl,?_⟩
  cases ht:isTup o with
  |false=>exact iteT (iteT (qb (q H (Ext.refl H)) (jRL ht)))
  |true=>
   refine iteF ?_
   obtain⟨os,a,vs,rfl,rfl,ha,h100,hx⟩:=hA.tupOf ht
   have hl:=hx.len
   refine⟨_,rfl,a,_,rfl,.inr (SqT.of ha),rfl,_,rfl,?_⟩
   by_cases hle:vs.length=2
   .refine iteNS (by rw[hle];rfl) ?_
    obtain⟨x,y,u1,u2,rfl,rfl,hA1,hA2⟩:=hx.two hle
    refine⟨_,rfl,a,_,0,_,rfl,rfl,SqT.of ha,rfl,u1,x,rfl,hA1,_,rfl,?_⟩
    cases hi:isInt x with
    |false=>exact iteT (iteT (qb (q H (Ext.refl H)) (hue_l hi)))
    |true=>
     refine iteF ?_
     obtain⟨m,rfl⟩:=jON hi
     cases (show u1=.int m from hA1)
     refine⟨_,rfl,a,_,0,_,rfl,rfl,SqT.of ha,rfl,_,_,rfl,rfl,_,rfl,?_⟩
     by_cases hm:m<2
     .refine yes hm (qb (q H (Ext.refl H)) ?_)
      have:¬2<=m:=by lia
      cases y with
      |tup os=>show (decide (2<=m)&&_)=false;rw[aN this,ce]
      |int _=>rfl
      |oth=>rfl
     .refine nay hm ?_
      have m2:2<=m:=by lia
      obtain⟨t2,ty2,kt2,_⟩:=hA2.ty K
      refine⟨_,rfl,a,_,rfl,SqT.of ha,rfl,_,_,rfl,_,_,rfl,rfl,?_⟩
      refine⟨_,rfl,_,_,_,_,rfl,ty2,kt2,_,rfl,?_⟩
      cases ht2:isTup y with
      |false=>exact iteT (iteT (qb (q H (Ext.refl H)) (hue_r ht2)))
      |true=>
       refine iteF ?_
       obtain⟨os2,a2,vs2,rfl,rfl,ha2,h1002,hx2⟩:=hA2.tupOf ht2
       have hl2:=hx2.len
       have q:∀H',Ext H H'->Q (.bl (decide (2<=m)&&(decide ((os2.length:Int)=w)&&(os2.all (hueO m)&&restH m ms lj (os2.map valO))))) H':=q
       rw[ax m2,cE] at q
       refine⟨_,rfl,a2,_,rfl,.inr (SqT.of ha2),_,rfl,b,_,0,_,rfl,rfl,SqT.of b1,rfl,rfl,_,rfl,?_⟩
       by_cases hw:((vs2.length:Nat):Int)=w
       .refine iteNS (by rw[hw]) ?_
        rw[ax (show ((os2.length:Nat):Int)=w by rw[<- hl2];exact hw),cE] at q
        have hn2:vs2.length<sizeLine:=by rw[ar];lia
        refine⟨_,rfl,a2,rfl,⟨_,SqT.of ha2⟩,jGA (F:=hueO m) ha2 hx2 hn2 (λσ'=>∃v,σ'=[v,some (.int m)]) ⟨_,rfl⟩ ?_ ?_⟩
        .rintro σ' H' v o R S ⟨u,rfl⟩ e hA k
         dsimp only[kI,yH]
         rw[ai rfl]
         refine⟨_,rfl,_,rfl,_,_,rfl,rfl,v,o,0,m-1,rfl,hA,?_⟩
         rw[jS1]
         exact k _ H' ⟨_,rfl⟩ (Ext.refl _)
        .intro D H1 e1 hD
         refine⟨D,_,rfl,SqL.of hD,_,rfl,?_⟩
         have eall:(os2.map (hueO m)).all id=os2.all (hueO m):=by rw[kj];rfl
         rw[eall]
         cases hall:os2.all (hueO m) with
         |false=>
          rw[hall,ce] at q
          exact iteT (iteT (q H1 e1))
         |true=>
          rw[hall,cE] at q
          refine iteF ?_
          have evs:=hx2.intsH hall
          generalize hns:os2.map valO=ns at q evs
          subst evs
          have nl:ns.length=w.toNat:=by rw[aa] at hw;lia
          have ha3:=e1 _ _ ha2
          refine⟨_,rfl,b,_,1,_,rfl,rfl,SqT.of (e1 _ _ b1),rfl,qm,rfl,⟨_,SqT.of (e1 _ _ b2)⟩,jB7 (xs:=ms.map V.int) (by rw[aa,ar];lia) (λD j σ' H' zs=>(∃v,σ'=[v,some (.ref a2)])/\zs=((ms.take j).map λt=>nAt ns t).map V.int/\Ext H1 H'/\H' D=some (.lst zs)/\H1 D=none) ?_ ?_ ?_ ?_⟩
          .intro D hD
           exact⟨⟨_,rfl⟩,rfl,(Ext.refl _).new hD _,j5,hD⟩
          .rintro D j σ' H' zs hD ⟨_,rfl,e,h2,_⟩
           refine⟨e _ _ (e1 _ _ b2),h2,?_⟩
           rw[aa,aa,aZ]
           lia
          .rintro D j σ' H' zs x hD hx ⟨⟨v,rfl⟩,rfl,e,h2,hn⟩
           obtain⟨z,hz,rfl⟩:∃z:Int,ms[j]?=some z/\V.int z=x:=by
            rw[aO] at hx
            cases hq:ms[j]? with
            |none=>rw[hq] at hx;cases hx
            |some z=>rw[hq] at hx;cases hx;exact⟨z,rfl,rfl⟩
           have zb:=g.mr.2 z (aH hz)
           dsimp only[kI,yH]
           rw[ai rfl]
           refine⟨_,rfl,_,rfl,a2,_,_,_,rfl,rfl,SqT.of (e _ _ ha3),ns_at zb.1 (by lia),h2,⟨_,rfl⟩,?_,e.updNew hn _,j5,hn⟩
           have:ms.take (j+1)=ms.take j++[z]:=by
            rw[aX,hz]
            rfl
           rw[this,aC,aC]
           rfl
          .rintro D2 σ' H2 zs hD ⟨_,rfl,e2,h2,hn⟩
           rw[aa,bH] at h2
           have E2:=e1.trans e2
           have ha4:=e2 _ _ ha3
           refine⟨D2,_,rfl,SqL.of h2,_,rfl,?_⟩
           have emay:((ms.map λt=>nAt ns t).any λn=>!decide (n=0))=!mayH ms ns:=by
            unfold mayH
            rw[List.any_map,List.not_all_eq_any_not]
            rfl
           rw[emay]
           cases hmay:mayH ms ns with
           |false=>
            refine iteT (qb (q H2 E2) ?_)
            unfold restH
            rw[hmay,ce]
           |true=>
            refine iteF ?_
            have q2:∀H',Ext H H'->Q (.bl (pcH m lj ns&&!decide (ns.sum%m=0))) H':=λH' e=>qb (q H' e) (by unfold restH;rw[hmay,cE])
            refine⟨_,rfl,b,_,2,_,rfl,rfl,SqT.of (E2 _ _ b1),rfl,qp,rfl,⟨_,SqT.of (E2 _ _ b3)⟩,jB7 (xs:=ps) (by rw[ar];lia) (λD j σ' H' zs=>(∃v,σ'=[v,some (.ref a2),some (.int m)])/\(zs=[]↔pcH m (lj.take j) ns=true)/\zs.length<=j/\Ext H2 H'/\H' D=some (.lst zs)/\H2 D=none) ?_ ?_ ?_ ?_⟩
            .intro D hD
             exact⟨⟨_,rfl⟩,⟨λ_=>rfl,λ_=>rfl⟩,ak _,(Ext.refl _).new hD _,j5,hD⟩
            .rintro D j σ' H' zs hD ⟨_,_,hz,e,h2,_⟩
             exact⟨e _ _ (E2 _ _ b3),h2,hz⟩
            .rintro D j σ' H' zs x hD hx ⟨⟨v,rfl⟩,hiff,hz,e,h2,hn⟩
             obtain⟨pc,hpc,pa,pq,rfl,c1,c2⟩:=b4.at hx
             have gp:=g.pg pc (aH hpc)
             have lt:=jAV _ 0 w gp.lot.ris gp.lot.bnd
             have EE:=E2.trans e
             have tk:lj.take (j+1)=lj.take j++[pc]:=by
              rw[aX,hpc]
              rfl
             refine⟨_,rfl,pa,_,0,_,rfl,rfl,SqT.of (EE _ _ c1),rfl,pq,rfl,⟨_,SqT.of (EE _ _ c2)⟩,jRU rfl (EE _ _ c2) (e _ _ ha4) (λt ht=>by have:=gp.lot.bnd t ht;lia) (by lia) λD5 H5 h5 e5=>?_⟩
             refine⟨D5,_,rfl,SqL.of h5,_,rfl,_,_,rfl,rfl,by lia,_,_,rfl,rfl,_,rfl,?_⟩
             show if decide (0<(pc.1.map (nAt ns)).sum%m)=true then _ else _
             rw[jPL _ m2]
             have h25:=e5 _ _ h2
             refine ite2 (λhy=>?_) (λhy=>?_)
             .have hy:¬(pc.1.map (nAt ns)).sum%m=0:=by simpa using hy
              refine⟨_,rfl,h25,⟨_,rfl⟩,⟨λz=>absurd z (by simp),λz=>?_⟩,by rw[aK];show zs.length+1<=_;lia,(e.trans e5).updNew hn _,j5,hn⟩
              unfold pcH at z
              rw[tk,gB,dw,aN hy,ce,eQ] at z
              cases z
             .have hy:(pc.1.map (nAt ns)).sum%m=0:=by simpa using hy
              refine⟨⟨_,rfl⟩,hiff.trans ?_,by lia,e.trans e5,h25,hn⟩
              unfold pcH
              rw[tk,gB,dw,ax hy,List.all_nil,jw,jw]
            .rintro D3 σ' H3 zs hD ⟨_,hiff,hz,e3,h3,hn⟩
             rw[pl,bH] at hiff
             have E3:=E2.trans e3
             refine⟨(by show 0<=sizeLine;decide),λl4 H4 y4 x4 _=>⟨D3,l4,zs,rfl,rfl,x4 _ _ h3,y4,_,rfl,?_⟩⟩
             have E4:=E3.trans x4
             cases hpc:pcH m lj ns with
             |false=>
              have hne:¬zs=[]:=λz=>by rw[hiff.mp z] at hpc;cases hpc
              refine iteNT hne (qb (q2 H4 E4) ?_)
              rw[hpc,ce]
             |true=>
              refine iteNS (hiff.mpr hpc) ⟨_,rfl,a2,ns,rfl,SqT.of (x4 _ _ (e3 _ _ ha4)),_,rfl,_,_,rfl,rfl,by lia,_,_,rfl,rfl,?_⟩
              refine qb (q2 H4 E4) ?_
              rw[hpc,cE]
              exact(jPL _ m2).symm
       .refine iteNT (λz=>hw (V.int.inj z)) (qb (q H (Ext.refl H)) ?_)
        rw[aN (show ¬((os2.length:Nat):Int)=w by rw[<- hl2];exact hw),ce]
   .exact iteNT (λz=>hle (by have:=V.int.inj z;lia)) (qb (q H (Ext.refl H)) (jRM (by lia)))
end Eo
namespace Eo
def sxS:Nat->(Nat->Int)->Int
 | 0,_=>0
 |n+1,f=>sxS n f+f n
def kL:∀{n:Nat}{f g:Nat->Int},(∀k,k<n->f k=g k)->sxS n f=sxS n g
 | 0,_,_,_=>rfl
 |n+1,f,g,h=>by
  show sxS n f+f n=sxS n g+g n
  rw[kL λk hk=>h k (bw hk),h n (cJ n)]
def jCY:∀{n:Nat}{f:Nat->Int},(∀k,k<n->f k=0)->sxS n f=0
 | 0,_,_=>rfl
 |n+1,f,h=>by
  show sxS n f+f n=0
  rw[jCY λk hk=>h k (bw hk),h n (cJ n)]
  rfl
theorem jDB(f g:Nat->Int):∀n,sxS n (λk=>f k+g k)=sxS n f+sxS n g
 | 0=>rfl
 |n+1=>by
  show sxS n _+(f n+g n)=(sxS n f+f n)+(sxS n g+g n)
  rw[jDB f g n];lia
def jAZ(x:Int)(f:Nat->Int):∀n,sxS n (λk=>x*f k)=x*sxS n f
 | 0=>(Int.mul_zero x).symm
 |n+1=>by
  show sxS n _+x*f n=x*(sxS n f+f n)
  rw[jAZ x f n,Int.mul_add]
theorem jGX{n i:Nat}{f:Nat->Int}(hi:i<n)(h:∀k,k<n->k≠i->f k=0):sxS n f=f i:=by
 induction n with
 |zero=>exact absurd hi (ev _)
 |succ n ih=>
  show sxS n f+f n=f i
  by_cases e:i=n
  .subst e
   rw[jCY λk hk=>h k (bw hk) (aS hk),dv]
  .rw[ih (by lia) λk hk=>h k (bw hk),h n (cJ n) (λz=>e z.symm),Int.add_zero]
end Eo
namespace Eo
variable {c d:List Int}{t:Int}{r N:Nat}
def cA(c:List Int)(i:Nat):Int:=c.getD i 0
def tkf(t:Int)(c d:List Int):List Int:=zipWith (λx y=>x-t*y) c d
theorem jGW(hc:c.length=N)(hd:d.length=N):(tkf t c d).length=N:=by
 unfold tkf;rw[gG,hc,hd];lia
theorem jB9(h:c.length=d.length)(i:Nat):cA (tkf t c d) i=cA c i-t*cA d i:=by
 unfold cA tkf
 rw[af,af,af,fX]
 by_cases hi:i<c.length
 .rw[ag hi,ag (h ▸ hi)]
  rfl
 .rw[cq (by lia),cq (by lia)]
  simp
def Lf(n:Nat)(y:Nat->Int)(c:List Int):Int:=sxS n λj=>y j*cA c j
theorem jPS{n:Nat}{y:Nat->Int}(h:c.length=d.length):Lf n y (tkf t c d)=Lf n y c-t*Lf n y d:=by
 unfold Lf
 have e:(sxS n λj=>y j*cA (tkf t c d) j)=sxS n λj=>(y j*cA c j)+(-t)*(y j*cA d j):=kL λj _=>by rw[jB9 h];grind
 rw[e,jDB,jAZ]
 grind
def near(c d:Int):Int:=(2*c+d).fdiv (2*d)
theorem jHD(c d:Int)(h:d≠0):2*(c-near c d*d).natAbs<=d.natAbs/\2*((near c d).natAbs*d.natAbs)<=2*c.natAbs+d.natAbs:=by
 have key:2*(c-near c d*d).natAbs<=d.natAbs:=by
  unfold near
  rcases Int.lt_or_gt_of_ne h with hd|hd
  .have e:=jd (-(2*c+d)) (-(2*d))
   rw[Int.neg_fdiv_neg] at e
   have b1:=iY (-(2*c+d)) (b:= -(2*d)) (by lia)
   have b2:=kg (-(2*c+d)) (b:= -(2*d)) (by lia)
   generalize (2*c+d).fdiv (2*d)=q at e
   have: -(2*d)*q= -(2*(q*d)):=by grind
   lia
  .have e:=jd (2*c+d) (2*d)
   have b1:=iY (2*c+d) (b:=2*d) (by lia)
   have b2:=kg (2*c+d) (b:=2*d) (by lia)
   generalize (2*c+d).fdiv (2*d)=q at e
   have:2*d*q=2*(q*d):=by grind
   lia
 refine⟨key,?_⟩
 rw[<- df]
 lia
structure Led (N r:Nat)(cs F D:List (List Int)):Prop where
 lin:∀P:List Int->Prop,(∀t c d,c.length=N->d.length=N->P c->P d->P (tkf t c d))->(∀c∈cs,P c)->∀c∈F++D,P c
 len:∀c∈F++D,c.length=N
 gen:∀(n:Nat) (y:Nat->Int) (M:Int),(∀c∈F++D,M∣Lf n y c)->∀c∈cs,M∣Lf n y c
 fz:∀c∈F,cA c r≠0
 dz:∀c∈D,cA c r=0
 cnt:F.length+D.length=cs.length
def nzB(r:Nat)(c:List Int):Bool:=!decide (cA c r=0)
def zrB(r:Nat)(c:List Int):Bool:=decide (cA c r=0)
def mem_parts{r:Nat}{cs:List (List Int)}{c:List Int}:c∈cs.filter (nzB r)++cs.filter (zrB r)↔c∈cs:=by
 rw[az,bo,bo]
 unfold nzB zrB
 by_cases h:cA c r=0<;>simp[h]
theorem jFT(r:Nat)(cs:List (List Int)):(cs.filter (nzB r)).length+(cs.filter (zrB r)).length=cs.length:=by
 induction cs with
 |nil=>rfl
 |cons c cs ih=>
  rw[bL,bL,aV]
  unfold nzB zrB at*
  by_cases h:cA c r=0<;>simp[h]<;>lia
def Led.first(h:∀c∈cs,c.length=N):Led N r cs (cs.filter (nzB r)) (cs.filter (zrB r)) where
 lin:=λP _ hc c h'=>hc c (mem_parts.mp h')
 len:=λc h'=>h c (mem_parts.mp h')
 gen:=λn y M hh c hc=>hh c (mem_parts.mpr hc)
 fz:=λc hc=>by have:=(bo.mp hc).2;unfold nzB at this;simpa using this
 dz:=λc hc=>by have:=(bo.mp hc).2;unfold zrB at this;simpa using this
 cnt:=jFT r cs
def qN(r:Nat)(lead:List Int)(rest:List (List Int)):List (List Int):=rest.map λc=>tkf (near (cA c r) (cA lead r)) c lead
theorem Led.step{N r:Nat}{cs F D rest:List (List Int)}{lead:List Int}(h:Led N r cs F D)(hp:(lead::rest).Perm F):
  Led N r cs (lead::(qN r lead rest).filter (nzB r)) (D++(qN r lead rest).filter (zrB r)):=by
 have hm:∀c,c∈lead::rest↔c∈F:=λc=>hp.mem_iff
 have ll:lead.length=N:=h.len lead (aE _ ((hm lead).mp (au ..)))
 have rl:∀c∈rest,c.length=N:=λc hc=>h.len c (aE _ ((hm c).mp (av _ hc)))
 have mem:∀c,c∈(lead::(qN r lead rest).filter (nzB r))++(D++(qN r lead rest).filter (zrB r))↔c=lead\/c∈D\/c∈qN r lead rest:=λc=>by
  have:=mem_parts (r:=r) (cs:=qN r lead rest) (c:=c)
  rw[az] at this
  rw[az,ay,az]
  constructor
  .rintro ((h|h)|h|h)
   .exact .inl h
   .exact .inr (.inr (this.mp (.inl h)))
   .exact .inr (.inl h)
   .exact .inr (.inr (this.mp (.inr h)))
  .rintro (h|h|h)
   .exact .inl (.inl h)
   .exact .inr (.inl h)
   .rcases this.mpr h with q|q
    .exact .inl (.inr q)
    .exact .inr (.inr q)
 have lm:∀{c},c∈qN r lead rest->∃x∈rest,c=tkf (near (cA x r) (cA lead r)) x lead:=λhc=>by
  obtain⟨x,hx,e⟩:=aQ.mp hc
  exact⟨x,hx,e.symm⟩
 refine⟨λP hP hc c hc'=>?_,λc hc'=>?_,λn y M hh=>?_,λc hc=>?_,λc hc=>?_,?_⟩
 .have old:=h.lin P hP hc
  rcases (mem c).mp hc' with rfl|q|q
  .exact old _ (aE _ ((hm _).mp (au ..)))
  .exact old _ (am _ q)
  .obtain⟨x,hx,rfl⟩:=lm q
   exact hP _ _ _ (rl x hx) ll (old _ (aE _ ((hm _).mp (av _ hx)))) (old _ (aE _ ((hm _).mp (au ..))))
 .rcases (mem c).mp hc' with rfl|q|q
  .exact ll
  .exact h.len _ (am _ q)
  .obtain⟨x,hx,rfl⟩:=lm q
   exact jGW (rl x hx) ll
 .refine h.gen n y M λc hc=>?_
  have hl:M∣Lf n y lead:=hh lead ((mem lead).mpr (.inl rfl))
  rcases az.mp hc with q|q
  .rcases ay.mp ((hm c).mpr q) with rfl|q
   .exact hl
   .have:=hh _ ((mem _).mpr (.inr (.inr (bv (f:=λc=>tkf (near (cA c r) (cA lead r)) c lead) q))))
    rw[jPS (by rw[rl c q,ll])] at this
    have:=lg this (iC (b:=near (cA c r) (cA lead r)) hl)
    rwa [kh] at this
  .exact hh c ((mem c).mpr (.inr (.inl q)))
 .rcases ay.mp hc with rfl|q
  .exact h.fz _ ((hm _).mp (au ..))
  .have:=(bo.mp q).2;unfold nzB at this;simpa using this
 .rcases az.mp hc with q|q
  .exact h.dz c q
  .have:=(bo.mp q).2;unfold zrB at this;simpa using this
 .have:=jFT r (qN r lead rest)
  have e:(qN r lead rest).length=rest.length:=aa _
  have:=h.cnt
  have hl:=hp.length_eq
  rw[aV] at hl
  rw[aV,aK]
  lia
def AllB(X:Nat)(cs:List (List Int)):Prop:=∀c∈cs,∀i,(cA c i).natAbs<=X
def LInv(r A:Nat)(F D:List (List Int))(m:Nat):Prop:=
 (m=A+1/\AllB A (F++D))\/∃lead rest X,F=lead::rest/\m=(cA lead r).natAbs/\(∀c∈rest,2*(cA c r).natAbs<=m)/\AllB X (F++D)/\2*(X*(m*m))<=5*(A*(A*A))
theorem LInv.big{A:Nat}{F D:List (List Int)}(h:LInv r A F D m)(l:Led N r cs F D)(hA:1<=A):AllB (3*(A*(A*A))) (F++D):=by
 rcases h with ⟨_,h⟩|⟨lead,rest,X,rfl,rfl,_,hX,hb⟩
 .intro c hc i
  have:=h c hc i
  have:A*1<=A*(A*A):=bN _ (cj hA hA)
  lia
 .intro c hc i
  have h1:=hX c hc i
  have h2:1<=(cA lead r).natAbs:=by
   have:=l.fz lead (au ..)
   lia
  have:X*1<=X*((cA lead r).natAbs*(cA lead r).natAbs):=bN _ (cj h2 h2)
  lia
theorem grow{X T d e:Nat}(ht:2*(T*d)<=2*e+d)(hd:2*d<=e):(X+T*X)*(d*d)<=X*(e*e):=by
 have h1:2*(d*d+T*d*d)<=2*(e*e):=by
  have a1:2*(T*d)*d<=(2*e+d)*d:=jq _ ht
  have a2:(2*d)*(2*d)<=e*e:=cj hd hd
  have a3:e*(2*d)<=e*e:=bN _ hd
  have:2*(T*d)*d=2*(T*d*d):=by rw[iD]
  have:(2*e+d)*d=2*(e*d)+d*d:=by rw[Nat.add_mul,iD]
  have:e*(2*d)=2*(e*d):=by rw[iq]
  have:2*d*(2*d)=4*(d*d):=by rw[Nat.mul_mul_mul_comm]
  lia
 have e1:(X+T*X)*(d*d)=X*(d*d+T*d*d):=by grind
 rw[e1]
 exact bN _ (by lia)
theorem grow1{A T d:Nat}(ht:2*(T*d)<=2*A+d)(hd:d<=A):2*((A+T*A)*(d*d))<=5*(A*(A*A)):=by
 have h1:2*(d*d+T*d*d)<=5*(A*A):=by
  have a1:2*(T*d)*d<=(2*A+d)*d:=jq _ ht
  have a2:d*d<=A*A:=cj hd hd
  have a3:A*d<=A*A:=bN _ hd
  have:2*(T*d)*d=2*(T*d*d):=by rw[iD]
  have:(2*A+d)*d=2*(A*d)+d*d:=by rw[Nat.add_mul,iD]
  lia
 have e1:2*((A+T*A)*(d*d))=A*(2*(d*d+T*d*d)):=by grind
 rw[e1,show 5*(A*(A*A))=A*(5*(A*A)) by grind]
 exact bN _ h1
theorem jJN{X e:Nat}{lead:List Int}(hl:c.length=lead.length)(h0:cA lead r≠0)(hX:∀i,(cA c i).natAbs<=X)(hL:∀i,(cA lead i).natAbs<=X)(he:(cA c r).natAbs<=e)(i:Nat):
  (cA (tkf (near (cA c r) (cA lead r)) c lead) i).natAbs<=X+(2*e+(cA lead r).natAbs)/(2*(cA lead r).natAbs)*X:=by
 have hn:=(jHD (cA c r) (cA lead r) h0).2
 have hd:0<2*(cA lead r).natAbs:=by lia
 have ht:(near (cA c r) (cA lead r)).natAbs<=(2*e+(cA lead r).natAbs)/(2*(cA lead r).natAbs):=by
  rw[Nat.le_div_iff_mul_le hd]
  have:(near (cA c r) (cA lead r)).natAbs*(2*(cA lead r).natAbs)=2*((near (cA c r) (cA lead r)).natAbs*(cA lead r).natAbs):=by rw[iq]
  lia
 rw[jB9 hl]
 have h1:=hX i
 have h2:(near (cA c r) (cA lead r)*cA lead i).natAbs<=(2*e+(cA lead r).natAbs)/(2*(cA lead r).natAbs)*X:=by
  rw[df]
  exact cj ht (hL i)
 generalize (2*e+(cA lead r).natAbs)/(2*(cA lead r).natAbs)*X=Z at h2
 lia
theorem LInv.step{N r A m:Nat}{cs F D rest:List (List Int)}{lead:List Int}(h:LInv r A F D m)(l:Led N r cs F D)(hp:(lead::rest).Perm F)(hmin:∀c∈rest,(cA lead r).natAbs<=(cA c r).natAbs)(hne:rest≠[]):
  LInv r A (lead::(qN r lead rest).filter (nzB r)) (D++(qN r lead rest).filter (zrB r)) (cA lead r).natAbs/\(cA lead r).natAbs<m:=by
 have hm:∀c,c∈lead::rest↔c∈F:=λc=>hp.mem_iff
 have lF:lead∈F:=(hm lead).mp (au ..)
 have h0:cA lead r≠0:=l.fz lead lF
 have d1:1<=(cA lead r).natAbs:=by lia
 have ll:lead.length=N:=l.len lead (aE _ lF)
 have rl:∀c∈rest,c.length=N:=λc hc=>l.len c (aE _ ((hm c).mp (av _ hc)))
 have half:∀c∈(qN r lead rest).filter (nzB r),2*(cA c r).natAbs<=(cA lead r).natAbs:=λc hc=>by
  obtain⟨x,hx,rfl⟩:=aQ.mp (bo.mp hc).1
  rw[jB9 (by rw[rl x hx,ll])]
  exact(jHD (cA x r) (cA lead r) h0).1
 have bound:∀{X e:Nat},AllB X (F++D)->(∀c∈F,(cA c r).natAbs<=e)->AllB (X+(2*e+(cA lead r).natAbs)/(2*(cA lead r).natAbs)*X) ((lead::(qN r lead rest).filter (nzB r))++(D++(qN r lead rest).filter (zrB r))):=λ{X e} hX he c hc i=>by
  have hL:∀i,(cA lead i).natAbs<=X:=hX lead (aE _ lF)
  have less:∀c∈qN r lead rest,(cA c i).natAbs<=X+(2*e+(cA lead r).natAbs)/(2*(cA lead r).natAbs)*X:=λc hc=>by
   obtain⟨x,hx,rfl⟩:=aQ.mp hc
   have xF:=(hm x).mp (av _ hx)
   exact jJN (by rw[rl x hx,ll]) h0 (hX x (aE _ xF)) hL (he x xF) i
  rcases az.mp hc with q|q
  .rcases ay.mp q with rfl|q
   .have:=hL i;lia
   .exact less c (bo.mp q).1
  .rcases az.mp q with q|q
   .have:=hX c (am _ q) i;lia
   .exact less c (bo.mp q).1
 have hdiv:∀e,2*((2*e+(cA lead r).natAbs)/(2*(cA lead r).natAbs)*(cA lead r).natAbs)<=2*e+(cA lead r).natAbs:=λe=>by
  have:=Nat.div_mul_le_self (2*e+(cA lead r).natAbs) (2*(cA lead r).natAbs)
  rw[iq]
  exact this
 rcases h with ⟨rfl,hX⟩|⟨lead0,rest0,X,rfl,rfl,hr,hX,hb⟩
 .have dA:(cA lead r).natAbs<=A:=hX lead (aE _ lF) r
  exact⟨.inr ⟨lead,_,_,rfl,rfl,half,bound hX (λc hc=>hX c (aE _ hc) r),grow1 (hdiv A) dA⟩,by lia⟩
 ·-- a later turn
  have two:2*(cA lead r).natAbs<=(cA lead0 r).natAbs:=by
   have hlen:=hp.length_eq
   have:rest0≠[]:=λz=>by
    rw[z] at hlen
    cases rest with
    |nil=>exact hne rfl
    |cons a b=>simp at hlen
   obtain⟨c,hc⟩:=List.exists_mem_of_ne_nil _ this
   have h1:=hr c hc
   have cF:c∈lead::rest:=(hm c).mpr (av _ hc)
   rcases ay.mp cF with q|q
   .rw[q] at h1;exact h1
   .have:=hmin c q;lia
  have he:∀c∈lead0::rest0,(cA c r).natAbs<=(cA lead0 r).natAbs:=λc hc=>by
   rcases ay.mp hc with rfl|q
   .exact ak _
   .have:=hr c q;lia
  refine⟨.inr ⟨lead,_,_,rfl,rfl,half,bound hX he,?_⟩,by lia⟩
  have:=grow (X:=X) (hdiv (cA lead0 r).natAbs) two
  lia
end Eo
namespace Eo
variable {ys d c:List Int}{x:Int}{n:Nat}
def RelC(n m:Nat)(a:Nat->Nat->Int)(c:List Int):Prop:=∀j,j<n->cA c j=sxS m λk=>a j k*cA c (n+k)
def RelT(n m:Nat)(a:Nat->Nat->Int)(t:List Int):Prop:=∀j,j<n->cA t j=1+sxS m λk=>a j k*cA t (n+k)
theorem jGY(m:Nat)(f g:Nat->Int)(x:Int):sxS m (λk=>f k-x*g k)=sxS m f-x*sxS m g:=by
 have e:(sxS m λk=>f k-x*g k)=sxS m λk=>f k+(-x)*g k:=kL λk _=>by grind
 rw[e,jDB,jAZ]
 grind
theorem RelC.tk{a:Nat->Nat->Int}(hl:c.length=d.length)(hc:RelC n m a c)(hd:RelC n m a d):RelC n m a (tkf x c d):=λj hj=>by
 rw[jB9 hl,hc j hj,hd j hj,<- jGY]
 exact kL λk _=>by rw[jB9 hl];grind
theorem RelT.tk{a:Nat->Nat->Int}(hl:c.length=d.length)(hc:RelT n m a c)(hd:RelC n m a d):RelT n m a (tkf x c d):=λj hj=>by
 have e:(sxS m λk=>a j k*cA (tkf x c d) (n+k))=(sxS m λk=>a j k*cA c (n+k))-x*sxS m λk=>a j k*cA d (n+k):=by
  rw[<- jGY]
  exact kL λk _=>by rw[jB9 hl];grind
 rw[jB9 hl,hc j hj,hd j hj,e]
 lia
def bR:Nat->Nat
 | 0=>0
 |r+1=>3*bR r+2
def uR:Nat->Nat
 | 0=>0
 |r+1=>uR r+bR (r+1)+1
def vR:Nat->Nat
 | 0=>0
 |r+1=>vR r+(bR (r+1)+4)
theorem jIB(b:Nat):3*(2^b*(2^b*2^b))<=2^(3*b+2):=by
 have:2^(3*b+2)=4*(2^b*(2^b*2^b)):=by
  rw[fw,show 3*b=b+(b+b) by lia,fw,fw]
  lia
 lia
def jD1(b:Nat):1<=2^b:=Nat.one_le_two_pow
def zsL(L:List (Nat×List Int)):Nat:=(L.map λpc=>bR (pc.1+1)+4).sum
structure WI (n m:Nat)(a:Nat->Nat->Int)(r:Nat)(cs:List (List Int))(L:List (Nat×List Int))(t:List Int):Prop where
 lc:∀c∈cs,c.length=n+m
 ll:∀pc∈L,pc.2.length=n+m
 lt:t.length=n+m
 zc:∀c∈cs,∀j,j<r->cA c j=0
 zl:∀pc∈L,pc.1<r/\cA pc.2 pc.1≠0/\∀j,j<pc.1->cA pc.2 j=0
 zt:∀j,j<r->cA t j=0
 rc:∀c∈cs,RelC n m a c
 rt:RelT n m a t
 gen:∀(y:Nat->Int) (M:Int),(∀c∈cs,M∣Lf n y c)->(∀pc∈L,M∣Lf n y pc.2)->∀k,k<m->M∣sxS n λj=>y j*a j k
 tg:∀y:Nat->Int,(∀pc∈L,Lf n y pc.2=0)->Lf n y t=sxS n y
 srt:(L.map Prod.fst).Pairwise (· < ·)
 bc:AllB (2^bR r) cs
 bl:∀pc∈L,∀i,(cA pc.2 i).natAbs<=2^bR (pc.1+1)
 bt:∀i,(cA t i).natAbs<=2^uR r
 bz:zsL L<=vR r
 few:cs.length<=m
section
variable {n r:Nat}{a:Nat->Nat->Int}{F D:List (List Int)}{L:List (Nat×List Int)}{t lead:List Int}
def WI.zF(w:WI n m a r cs L t)(l:Led (n+m) r cs F D):∀c∈F++D,∀j,j<r->cA c j=0:=
 l.lin (λc=>∀j,j<r->cA c j=0) (λx c d hc hd pc pd j hj=>by rw[jB9 (by rw[hc,hd]),pc j hj,pd j hj];simp) w.zc
def WI.rF(w:WI n m a r cs L t)(l:Led (n+m) r cs F D):∀c∈F++D,RelC n m a c:=
 l.lin (RelC n m a) (λx c d hc hd pc pd=>pc.tk (by rw[hc,hd]) pd) w.rc
def AllB.up{b:Nat}(h:AllB (3*(2^b*(2^b*2^b))) (F++D)):AllB (2^(3*b+2)) (F++D):=λc hc i=>aY (h c hc i) (jIB b)
theorem zD(w:WI n m a r cs L t)(l:Led (n+m) r cs F D):∀c∈D,∀j,j<r+1->cA c j=0:=λc hc j hj=>by
 by_cases h:j=r
 .rw[h];exact l.dz c hc
 .exact w.zF l c (am _ hc) j (by lia)
theorem WI.next0(w:WI n m a r cs L t)(l:Led (n+m) r cs [] D)(hb:AllB (2^bR (r+1)) ([]++D))(h0:cA t r=0):WI n m a (r+1) D L t where
 lc:=λc hc=>l.len c hc
 ll:=w.ll
 lt:=w.lt
 zc:=zD w l
 zl:=λpc h=>⟨bw (w.zl pc h).1,(w.zl pc h).2⟩
 zt:=λj hj=>by
  by_cases h:j=r
  .rw[h];exact h0
  .exact w.zt j (by lia)
 rc:=λc hc=>w.rF l c hc
 rt:=w.rt
 gen:=λy M h1 h2=>w.gen y M (l.gen n y M h1) h2
 tg:=w.tg
 srt:=w.srt
 bc:=hb
 bl:=w.bl
 bt:=λi=>aY (w.bt i) (gw (by decide) (by show uR r<=uR r+bR (r+1)+1;lia))
 bz:=by have:=w.bz;show _<=vR r+_;lia
 few:=by have:=l.cnt;have:=w.few;simp at this ⊢;have:=l.cnt;simp at this;lia
theorem WI.next1(w:WI n m a r cs L t)(l:Led (n+m) r cs [lead] D)(hb:AllB (2^bR (r+1)) ([lead]++D))(hr:r<n){q:Int}(hq:cA t r=q*cA lead r)(hqb:q.natAbs<=2^uR r):WI n m a (r+1) D (L++[(r,lead)]) (tkf q t lead):=by
 have ll:lead.length=n+m:=l.len lead (by simp)
 have el:t.length=lead.length:=by rw[w.lt,ll]
 have lz:∀j,j<r->cA lead j=0:=w.zF l lead (by simp)
 have mem:∀{pc},pc∈L++[(r,lead)]->pc∈L\/pc=(r,lead):=λh=>by simpa using h
 refine⟨λc hc=>l.len c (by simp[hc]),λpc h=>?_,jGW w.lt ll,zD w l,λpc h=>?_,λj hj=>?_,λc hc=>w.rF l c (by simp[hc]),w.rt.tk el (w.rF l lead (by simp)),λy M h1 h2=>?_,λy hy=>?_,?_,λc hc=>hb c (by simp[hc]),λpc h=>?_,λi=>?_,?_,?_⟩
 .rcases mem h with h|rfl
  .exact w.ll pc h
  .exact ll
 .rcases mem h with h|rfl
  .exact⟨bw (w.zl pc h).1,(w.zl pc h).2⟩
  .exact⟨cJ _,l.fz lead (by simp),lz⟩
 .rw[jB9 el]
  by_cases h:j=r
  .rw[h,hq];lia
  .rw[w.zt j (by lia),lz j (by lia)];simp
 .have hl:M∣Lf n y lead:=h2 (r,lead) (by simp)
  refine w.gen y M (l.gen n y M λc hc=>?_) λpc hp=>h2 pc (by simp[hp])
  rcases az.mp hc with h|h
  .rw[aW.mp h];exact hl
  .exact h1 c h
 .have hl:Lf n y lead=0:=hy (r,lead) (by simp)
  rw[jPS el,hl,w.tg y λpc hp=>hy pc (by simp[hp])]
  simp
 .rw[aC,bP]
  refine⟨w.srt,by simp,λx hx z hz=>?_⟩
  obtain⟨pc,hp,rfl⟩:=aQ.mp hx
  have hz:z=r:=by simpa using hz
  rw[hz]
  exact(w.zl pc hp).1
 .rcases mem h with h|rfl
  .exact w.bl pc h
  .exact λi=>hb lead (by simp) i
 .rw[jB9 el]
  have h1:=w.bt i
  have h2:(q*cA lead i).natAbs<=2^uR r*2^bR (r+1):=by
   rw[df]
   exact cj hqb (hb lead (by simp) i)
  have h3:2^uR (r+1)=2*(2^uR r*2^bR (r+1)):=by
   show 2^(uR r+bR (r+1)+1)=_
   rw[kq,fw];lia
  have h4:2^uR r*1<=2^uR r*2^bR (r+1):=bN _ (jD1 _)
  rw[h3]
  generalize 2^uR r*2^bR (r+1)=Z at h2 h4
  lia
 .have:=w.bz
  show ((L++[(r,lead)]).map _).sum<=vR r+_
  rw[aC,eE]
  show zsL L+(bR (r+1)+4+0)<=_
  lia
 .have:=l.cnt
  have:=w.few
  simp at*
  lia
theorem WI.fin(w:WI n m a n cs L t):∀j,j<n->(sxS m λk=>a j k*(- cA t (n+k)))=1:=λj hj=>by
 have h:=w.rt j hj
 rw[w.zt j hj] at h
 have e:(sxS m λk=>a j k*(- cA t (n+k)))= - sxS m λk=>a j k*cA t (n+k):=by
  have:=jAZ (-1) (λk=>a j k*cA t (n+k)) m
  rw[show (- sxS m λk=>a j k*cA t (n+k))=(-1)*sxS m λk=>a j k*cA t (n+k) by lia,<- this]
  exact kL λk _=>by grind
 lia
structure NI (n row:Nat)(S:List (Nat×List Int))(R:List (Nat×List Int))(ys:List Int):Prop where
 len:ys.length=n
 far:∀j,row<j->cA ys j=0
 at_:cA ys row≠0
 nul:∀pc∈S,Lf n (cA ys) pc.2=0
 free:∀pc∈R,cA ys pc.1=0
 bnd:∀i,(cA ys i).natAbs<=2^zsL S
def jS8{p:Nat}{v:Int}(hp:p<ys.length)(i:Nat):cA (ys.set p v) i=if i=p then v else cA ys i:=by
 unfold cA
 rw[af,List.getElem?_set]
 by_cases h:p=i
 .subst h;simp[hp]
 .rw[aj h,aj (λz=>h z.symm),af]
def jPG{f:Int->Int}(h0:f 0=0)(i:Nat):cA (ys.map f) i=f (cA ys i):=by
 unfold cA
 rw[af,aO,af]
 cases ys[i]? with
 |none=>simp[h0]
 |some x=>rfl
theorem NI.step{n row p:Nat}{S R:List (Nat×List Int)}{ys c:List Int}(h:NI n row S (R++[(p,c)]) ys)(hrow:row<n)(hn:n<=16)(hp:p<row)(hc:cA c p≠0)(srt:((R++[(p,c)]++S).map Prod.fst).Pairwise (· < ·))(hz:∀pc∈S,∀j,j<pc.1->cA pc.2 j=0)
  (hb:∀i,(cA c i).natAbs<=2^bR (p+1)) {g:Int}(hg:0<g) (g1:g∣Lf n (cA ys) c) (g2:g∣cA c p):
  (Lf n (cA ys) c).natAbs<=2^(zsL S+bR (p+1)+4)/\NI n row ((p,c)::S) R ((ys.map λx=>x*(cA c p).fdiv g).set p ((-Lf n (cA ys) c).fdiv g)):=by
 have pn:p<(ys.map λx=>x*(cA c p).fdiv g).length:=by rw[aa,h.len];lia
 have p0:cA ys p=0:=h.free (p,c) (by simp)
 have e:∀i,cA ((ys.map λx=>x*(cA c p).fdiv g).set p ((-Lf n (cA ys) c).fdiv g)) i=if i=p then (-Lf n (cA ys) c).fdiv g else cA ys i*(cA c p).fdiv g:=λi=>by
  rw[jS8 pn,jPG (by simp)]
 have x1:(cA c p).fdiv g*g=cA c p:=eY g2
 have x2:(-Lf n (cA ys) c).fdiv g*g= -Lf n (cA ys) c:=eY ((Int.dvd_neg).mpr g1)
 have q0:(cA c p).fdiv g≠0:=λz=>by rw[z] at x1;simp at x1;exact hc x1.symm
 have small:∀{x q:Int},q*g=x->q.natAbs<=x.natAbs:=λ{x q} hx=>by
  rw[<- hx,df]
  have:1<=g.natAbs:=by lia
  calc q.natAbs=q.natAbs*1:=by lia
   _<=_:=bN _ this
 have sumb:∀(k:Nat) (f:Nat->Int) (Z:Nat),(∀i,(f i).natAbs<=Z)->(sxS k f).natAbs<=k*Z:=by
  intro k f Z hf
  induction k with
  |zero=>simp[sxS]
  |succ k ih=>
   have:=hf k
   show (sxS k f+f k).natAbs<=_
   rw[Nat.succ_mul]
   lia
 have restB:(Lf n (cA ys) c).natAbs<=2^(zsL S+bR (p+1)+4):=by
  have:=sumb n (λj=>cA ys j*cA c j) (2^zsL S*2^bR (p+1)) λi=>by rw[df];exact cj (h.bnd i) (hb i)
  refine aY this ?_
  rw[fw,fw,Nat.mul_comm n]
  exact bN _ hn
 have lin:∀d:List Int,Lf n (cA ((ys.map λx=>x*(cA c p).fdiv g).set p ((-Lf n (cA ys) c).fdiv g))) d=(cA c p).fdiv g*Lf n (cA ys) d+(-Lf n (cA ys) c).fdiv g*cA d p:=λd=>by
  unfold Lf
  have e1:(sxS n λj=>cA ((ys.map λx=>x*(cA c p).fdiv g).set p ((-Lf n (cA ys) c).fdiv g)) j*cA d j)=sxS n λj=>(cA c p).fdiv g*(cA ys j*cA d j)+(if j=p then (-Lf n (cA ys) c).fdiv g*cA d p else 0):=kL λj _=>by
   rw[e]
   by_cases hj:j=p
   .subst hj
    rw[ai rfl,ai rfl,p0];simp
   .rw[aj hj,aj hj];grind
  rw[show (sxS n λj=>cA ys j*cA c j)=Lf n (cA ys) c from rfl,e1,jDB,jAZ]
  congr 1
  rw[jGX (i:=p) (by lia) λk _ hk=>aj hk,ai rfl]
 rw[aC,aC,bP] at srt
 obtain⟨s1,_,s3⟩:=srt
 rw[bP] at s1
 refine⟨restB,by rw[i5,aa,h.len],λj hj=>?_,?_,λpc hpc=>?_,λpc hpc=>?_,λi=>?_⟩
 .rw[e,aj (by lia),h.far j hj];simp
 .rw[e,aj (by lia)]
  exact Int.mul_ne_zero h.at_ q0
 .rw[lin]
  rcases ay.mp hpc with rfl|hpc
  .show (cA c p).fdiv g*Lf n (cA ys) c+(-Lf n (cA ys) c).fdiv g*cA c p=0
   have:((-Lf n (cA ys) c).fdiv g*cA c p)*g= -((cA c p).fdiv g*Lf n (cA ys) c)*g:=by
    calc ((-Lf n (cA ys) c).fdiv g*cA c p)*g=((-Lf n (cA ys) c).fdiv g*g)*cA c p:=by grind
     _= -Lf n (cA ys) c*((cA c p).fdiv g*g):=by rw[x2,x1]
     _=_:=by grind
   have:=Int.eq_of_mul_eq_mul_right (by lia) this
   lia
  .have lt:p<pc.1:=s3 p (by simp) pc.1 (bv hpc)
   rw[h.nul pc hpc,hz pc hpc p lt]
   simp
 .have lt:pc.1<p:=s1.2.2 pc.1 (bv hpc) p (by simp)
  rw[e,aj (by lia),h.free pc (by simp[hpc])]
  simp
 .have z1:zsL ((p,c)::S)=zsL S+bR (p+1)+4:=by
   show bR (p+1)+4+zsL S=_
   lia
  rw[z1,e]
  split
  .refine aY (small x2) ?_
   rw[Int.natAbs_neg]
   exact restB
  .rw[df]
   have:((cA c p).fdiv g).natAbs<=2^bR (p+1):=aY (small x1) (hb p)
   refine aY (cj (h.bnd i) this) ?_
   rw[<- fw]
   exact gw (by decide) (by lia)
theorem WI.hue(w:WI n m a r cs L t)(l:Led (n+m) r cs F D)(hr:r<n)(hy:NI n r L [] ys){M:Int}(hF:∀c∈F,M∣cA ys r*cA c r):
  (∀k,k<m->M∣sxS n λj=>cA ys j*a j k)/\sxS n (cA ys)=cA ys r*cA t r:=by
 have only:∀c:List Int,(∀j,j<r->cA c j=0)->Lf n (cA ys) c=cA ys r*cA c r:=λc hc=>by
  unfold Lf
  refine jGX hr λk _ hk=>?_
  by_cases h:k<r
  .rw[hc k h];simp
  .rw[hy.far k (by lia)];simp
 refine⟨w.gen _ M (l.gen n _ M λc hc=>?_) λpc hp=>?_,?_⟩
 .rw[only c (w.zF l c hc)]
  rcases az.mp hc with q|q
  .exact hF c q
  .rw[l.dz c q];simp
 .rw[hy.nul pc hp];exact iZ M
 .rw[<- w.tg _ hy.nul]
  exact only t w.zt
end
end Eo
namespace Eo
open PySem L2
variable {lj:List (List Int×Int)}{Dc F rest:List (List Int)}{H H':Hp}{ms l C xs ys mu l' hs:List Int}{fd:FuncData}{r j b N i n:Nat}{v5 v0:Option V}{D:Ends}{ds zs:List V}{α:Type}{Da la:Addr}{M:Int}
def aI(mu:List Int)(lj:List (List Int×Int))(j k:Nat):Int:=if mu.getD j 0∈(lj.getD k ([],0)).1 then 1 else 0
def fcol(mu:List Int)(lj:List (List Int×Int))(k:Nat):List Int:=(mu.map λt=>if t∈(lj.getD k ([],0)).1 then (1:Int) else 0)++(List.range lj.length).map λo=>if o=k then (1:Int) else 0
def tgt0(n m:Nat):List Int:=replicate n 1++replicate m 0
def jMT(l1 l2:List Int)(i:Nat):cA (l1++l2) i=if i<l1.length then cA l1 i else cA l2 (i-l1.length):=by
 unfold cA
 rw[af,List.getElem?_append]
 split<;>rw[af]
def jMS(l:List α)(f:α->Int)(d:α)(h:i<l.length):cA (l.map f) i=f (l.getD i d):=by
 unfold cA
 rw[af,aO,ag h,af,ag h]
 rfl
def jPQ(h:l.length<=i):cA l i=0:=by
 unfold cA
 rw[af,cq h]
 rfl
def jPP(n:Nat)(x:Int)(i:Nat):cA (replicate n x) i=if i<n then x else 0:=by
 unfold cA
 rw[af,dX]
 split<;>rfl
def jIX(mu:List Int)(lj:List (List Int×Int))(k:Nat):(fcol mu lj k).length=mu.length+lj.length:=by
 unfold fcol;simp
def jF1{k:Nat}(hj:j<mu.length):cA (fcol mu lj k) j=aI mu lj j k:=by
 unfold fcol aI
 rw[jMT,ai (by simpa using hj),jMS _ _ 0 hj]
def jF2{mu:List Int}{lj:List (List Int×Int)}{k o:Nat}(ho:o<lj.length):cA (fcol mu lj k) (mu.length+o)=if o=k then 1 else 0:=by
 unfold fcol
 rw[jMT,aj (by simp),aa,cr,jMS _ _ 0 (by simpa using ho),af,dW ho]
 rfl
theorem jJV(mu:List Int)(lj:List (List Int×Int))(k i:Nat):(cA (fcol mu lj k) i).natAbs<=1:=by
 by_cases h:i<mu.length
 .rw[jF1 h];unfold aI;split<;>decide
 .by_cases h2:i-mu.length<lj.length
  .have:=jF2 (mu:=mu) (k:=k) h2
   rw[show mu.length+(i-mu.length)=i by lia] at this
   rw[this];split<;>decide
  .rw[jPQ (by rw[jIX];lia)];decide
def jI0(n m i:Nat):cA (tgt0 n m) i=if i<n then 1 else 0:=by
 unfold tgt0
 rw[jMT,cW]
 by_cases h:i<n
 .rw[ai h,ai h,jPP,ai h]
 .rw[aj h,aj h,jPP];split<;>rfl
theorem WI.first(mu:List Int)(lj:List (List Int×Int)):WI mu.length lj.length (aI mu lj) 0 ((List.range lj.length).map (fcol mu lj)) [] (tgt0 mu.length lj.length):=by
 have mem:∀{c},c∈(List.range lj.length).map (fcol mu lj)->∃k,k<lj.length/\fcol mu lj k=c:=λh=>by
  obtain⟨k,hk,e⟩:=aQ.mp h
  exact⟨k,bq.mp hk,e⟩
 refine⟨λc hc=>?_,λ_ h=>by simp at h,by unfold tgt0;simp,λ_ _ j hj=>absurd hj (by lia),λ_ h=>by simp at h,λj hj=>absurd hj (by lia),λc hc j hj=>?_,λj hj=>?_,λy M h _ k hk=>?_,λy _=>?_,by simp,λc hc i=>?_,λ_ h=>by simp at h,λi=>?_,by show 0<=0;decide,by simp⟩
 .obtain⟨k,hk,rfl⟩:=mem hc
  exact jIX mu lj k
 .obtain⟨k,hk,rfl⟩:=mem hc
  rw[jF1 hj,jGX (i:=k) hk λo ho ne=>by rw[jF2 ho,aj ne];simp,jF2 hk,ai rfl,jg]
 .rw[jI0,ai hj,jCY λk hk=>by rw[jI0,aj (by lia)];simp]
  rfl
 .have:=h (fcol mu lj k) (aQ.mpr ⟨k,bq.mpr hk,rfl⟩)
  unfold Lf at this
  rwa [kL λj hj=>by rw[jF1 hj]] at this
 .unfold Lf
  exact kL λj hj=>by rw[jI0,ai hj,jg]
 .obtain⟨k,hk,rfl⟩:=mem hc
  exact jJV mu lj k i
 .rw[jI0];split<;>decide
theorem wsum(t:Int)(hl:xs.length=lj.length):∀q,q<=lj.length->(wL xs lj t q).sum=sxS q λk=>(if t∈(lj.getD k ([],0)).1 then (1:Int) else 0)*cA xs k
 | 0,_=>by unfold wL;simp[sxS]
 |q+1,hq=>by
  have h1:xs[q]?=some (cA xs q):=by unfold cA;rw[af,ag (by lia)];rfl
  have h2:lj[q]?=some (lj.getD q ([],0)):=by rw[af,ag (by lia)];rfl
  rw[jGV h1 h2,eE,wsum t hl q (by lia)]
  show _=sxS q _+(if t∈(lj.getD q ([],0)).1 then (1:Int) else 0)*cA xs q
  congr 1
  by_cases h:t∈(lj.getD q ([],0)).1
  .rw[ai (ax h),ai h];simp
  .rw[aj (by simpa using h),aj h];simp
def jIG{w:Int}(hl:xs.length=lj.length):onesB w ms lj xs=true↔∀j,j<(mus ms w.toNat).length->(sxS lj.length λk=>aI (mus ms w.toNat) lj j k*cA xs k)=1:=by
 unfold onesB
 rw[bF]
 constructor
 .intro h j hj
  have hm:(mus ms w.toNat).getD j 0∈mus ms w.toNat:=by
   rw[af,ag hj]
   exact bC hj
  have:=aG (h _ hm)
  rw[wsum _ hl _ (ak _)] at this
  exact this
 .intro h t ht
  obtain⟨j,hj,rfl⟩:=cm ht
  refine ax ?_
  have h':=h j hj
  unfold aI at h'
  rw[af,ag hj] at h'
  rw[wsum _ hl _ (ak _)]
  exact h'
theorem jAS{w:Int}(xs:List Int):jAM w ms lj (.tup (xs.map Ob.int))=(decide (xs.length=lj.length)&&onesB w ms lj xs):=by
 show (decide ((xs.map Ob.int).length=lj.length)&&((xs.map Ob.int).all isInt&&onesB w ms lj ((xs.map Ob.int).map valO)))=_
 rw[aa,b8]
 have e1:(xs.map Ob.int).all isInt=true:=by rw[bF];intro x hx;obtain⟨i,_,rfl⟩:=aQ.mp hx;rfl
 have e2:xs.map (valO ∘ Ob.int)=xs:=(eZ λ_ _=>rfl).trans (ir xs)
 rw[e1,e2,cE]
theorem WI.wholes{w:Int}{L:List (Nat×List Int)}{t:List Int}(h:WI (mus ms w.toNat).length lj.length (aI (mus ms w.toNat) lj) (mus ms w.toNat).length cs L t):
  jAM w ms lj (.tup (((t.drop (mus ms w.toNat).length).map λx=> -x).map Ob.int))=true:=by
 have hl:((t.drop (mus ms w.toNat).length).map λx=> -x).length=lj.length:=by rw[aa,cB,h.lt];lia
 rw[jAS,ax hl,cE,jIG hl]
 intro j hj
 rw[<- h.fin j hj]
 refine kL λk hk=>?_
 rw[jPG (by rfl)]
 unfold cA
 rw[af,af,fi]
theorem lsum(l:List Int)(f:Int->Int):sxS l.length (λj=>f (l.getD j 0))=(l.map f).sum:=by
 have key:∀q,q<=l.length->sxS q (λj=>f (l.getD j 0))=((l.take q).map f).sum:=by
  intro q
  induction q with
  |zero=>intro _;rfl
  |succ q ih=>
   intro hq
   show sxS q _+f (l.getD q 0)=_
   rw[ih (by lia),aX,ag (by lia),aC,eE,af,ag (by lia)]
   simp
 rw[key _ (ak _),bH]
theorem mem_mus{ms:List Int}{n:Nat}{t:Int}:t∈mus ms n↔0<=t/\t<n/\t∉ms:=by
 unfold mus
 rw[aQ]
 constructor
 .rintro ⟨a,ha,rfl⟩
  rw[bo,bq] at ha
  exact⟨by lia,by lia,by simpa using ha.2⟩
 .rintro ⟨h0,h1,h2⟩
  exact⟨t.toNat,bo.mpr ⟨bq.mpr (by lia),by rw[show ((t.toNat:Nat):Int)=t by lia];simpa using h2⟩,by lia⟩
theorem jPF(ms:List Int)(n:Nat):(mus ms n).Nodup:=by
 unfold mus
 exact((fZ).filter _).map _ λa b h=>λz=>h (by lia)
def jFI(l:List Int)(f:Int->Int)(p:Int->Bool)(h:∀t∈l,p t=false->f t=0):(l.map f).sum=((l.filter p).map f).sum:=by
 induction l with
 |nil=>rfl
 |cons a l ih=>
  rw[aP,dU,ih λt ht=>h t (av _ ht),bL]
  cases hp:p a with
  |true=>rfl
  |false=>rw[h a (au ..) hp,dv];rfl
theorem jNJ(h:l.Perm l')(f:Int->Int):(l.map f).sum=(l'.map f).sum:=by
 induction h with
 |nil=>rfl
 |cons a _ ih=>rw[aP,aP,dU,dU,ih]
 |swap a b l=>simp only[aP,dU];lia
 |trans _ _ i1 i2=>rw[i1,i2]
def jH6(h1:l.Nodup)(h2:l'.Nodup)(h:∀t,t∈l↔t∈l'):l.Perm l':=(List.perm_ext_iff_of_nodup h1 h2).mpr h
theorem jC9{ms l:List Int}{n:Nat}{f:Int->Int}(hn:l.Nodup)(hb:∀t∈l,0<=t/\t<n)(h0:∀t∈ms,f t=0):(l.map f).sum=sxS (mus ms n).length λj=>(if (mus ms n).getD j 0∈l then (1:Int) else 0)*f ((mus ms n).getD j 0):=by
 rw[lsum (mus ms n) λt=>(if t∈l then (1:Int) else 0)*f t]
 rw[jFI l f (λt=>decide (t∉ms)) λt _ hp=>h0 t (by simpa using hp)]
 rw[jFI (mus ms n) (λt=>(if t∈l then (1:Int) else 0)*f t) (λt=>decide (t∈l)) λt _ hp=>by rw[aj (by simpa using hp)];simp]
 have e:((mus ms n).filter λt=>decide (t∈l)).map (λt=>(if t∈l then (1:Int) else 0)*f t)=((mus ms n).filter λt=>decide (t∈l)).map f:=eZ λt ht=>by
  rw[ai (by simpa using (bo.mp ht).2),gx]
 rw[e]
 refine jNJ (jH6 (hn.filter _) ((jPF ms n).filter _) λt=>?_) f
 rw[bo,bo,mem_mus]
 constructor
 .rintro ⟨a,b⟩
  exact⟨⟨(hb t a).1,(hb t a).2,by simpa using b⟩,ax a⟩
 .rintro ⟨⟨_,_,a⟩,b⟩
  exact⟨aG b,ax a⟩
theorem jMZ(hl:hs.length=n)(h0:∀t∈ms,nAt hs t=0):hs.sum=sxS (mus ms n).length λj=>nAt hs ((mus ms n).getD j 0):=by
 have e:hs=((List.range n).map λ(t:Nat)=>(t:Int)).map (nAt hs):=by
  rw[b8]
  refine List.ext_getElem (by simp[hl]) λi h1 h2=>?_
  simp only[List.getElem_map,List.getElem_range,Function.comp]
  unfold nAt
  rw[bY,af,ag h1]
  rfl
 have hn:((List.range n).map λ(t:Nat)=>(t:Int)).Nodup:=(fZ).map _ λa b h=>λz=>h (by lia)
 conv=>lhs;rw[e]
 rw[jC9 (ms:=ms) (n:=n) hn (λt ht=>by obtain⟨a,ha,rfl⟩:=aQ.mp ht;have:=bq.mp ha;lia) h0]
 refine kL λj hj=>?_
 have hm:(mus ms n).getD j 0∈mus ms n:=by
  rw[af,ag hj]
  exact bC hj
 rw[ai,gx]
 obtain⟨a,b,_⟩:=mem_mus.mp hm
 exact aQ.mpr ⟨((mus ms n).getD j 0).toNat,bq.mpr (by lia),by lia⟩
theorem jKC(n:Nat)(c y:Nat->Int)(M:Int):M∣sxS n (λj=>c j*(y j%M))-sxS n λj=>c j*y j:=by
 have e:sxS n (λj=>c j*(y j%M))-sxS n (λj=>c j*y j)=sxS n λj=>M*(-(c j*(y j/M))):=by
  have:=jGY n (λj=>c j*(y j%M)) (λj=>c j*y j) 1
  rw[gx] at this
  rw[<- this]
  refine kL λj _=>?_
  have:=Int.emod_add_mul_ediv (y j) M
  rw[gx]
  conv=>lhs;rhs;rw[<- this]
  grind
 rw[e,jAZ]
 exact Int.dvd_mul_right _ _
def HueOf(ms:List Int)(n:Nat)(M:Int)(ys hs:List Int):Prop:=hs.length=n/\(∀j,j<(mus ms n).length->nAt hs ((mus ms n).getD j 0)=cA ys j%M)/\∀t∈ms,nAt hs t=0
theorem HueOf.ok{w:Int}(g:Good 16 32 w ms lj)(h:HueOf ms w.toNat M ys hs)(hM:2<=M)(hk:∀k,k<lj.length->M∣sxS (mus ms w.toNat).length λj=>cA ys j*aI (mus ms w.toNat) lj j k)(ht:¬M∣sxS (mus ms w.toNat).length (cA ys)):
  hueB w ms lj (.tup [.int M,.tup (hs.map Ob.int)])=true:=by
 obtain⟨h1,h2,h3⟩:=h
 have w0:=g.w0
 have hue:∀t:Int,0<=t->t<w->0<=nAt hs t/\nAt hs t<M:=λt t0 t1=>by
  by_cases ht:t∈ms
  .rw[h3 t ht];lia
  .obtain⟨j,hj,e⟩:=cm (mem_mus (n:=w.toNat).mpr ⟨t0,by lia,ht⟩)
   have:=h2 j hj
   rw[af,ag hj] at this
   have this:nAt hs ((mus ms w.toNat)[j])=_:=this
   rw[e] at this
   rw[this]
   exact⟨ff _ (by lia),fm _ (by lia)⟩
 have emap:(hs.map Ob.int).map valO=hs:=by rw[b8];exact(eZ λ_ _=>rfl).trans (ir hs)
 show (decide (2<=M)&&(decide (((hs.map Ob.int).length:Int)=w)&&((hs.map Ob.int).all (hueO M)&&restH M ms lj ((hs.map Ob.int).map valO))))=true
 rw[emap,aa,h1,ax hM,ax (show ((w.toNat:Nat):Int)=w by lia),cE,cE,ba]
 refine⟨?_,?_⟩
 .rw[bF]
  intro x hx
  obtain⟨i,hi,rfl⟩:=aQ.mp hx
  obtain⟨j,hj,e⟩:=cm hi
  have:=hue (j:Int) (by lia) (by lia)
  have e2:nAt hs (j:Int)=i:=by unfold nAt;rw[bY,af,ag hj];exact e
  rw[e2] at this
  show (decide _&&decide _)=true
  rw[ax this.1,ax this.2]
  rfl
 .have s1:=jMZ h1 h3
  have e1:(sxS (mus ms w.toNat).length λj=>nAt hs ((mus ms w.toNat).getD j 0))=sxS (mus ms w.toNat).length λj=>1*(cA ys j%M):=kL λj hj=>by rw[h2 j hj,gx]
  have d1:=jKC (mus ms w.toNat).length (λ_=>1) (cA ys) M
  have e0:(sxS (mus ms w.toNat).length λj=>1*cA ys j)=sxS (mus ms w.toNat).length (cA ys):=kL λj _=>gx _
  rw[e0,<- e1,<- s1] at d1
  show (mayH ms hs&&(pcH M lj hs&&!decide (hs.sum%M=0)))=true
  have p1:mayH ms hs=true:=by unfold mayH;rw[bF];exact λt ht=>ax (h3 t ht)
  have p3:decide (hs.sum%M=0)=false:=aN λz=>ht (by
   have:=Int.dvd_sub (fA z) d1
   rwa [show hs.sum-(hs.sum-sxS (mus ms w.toNat).length (cA ys))=sxS (mus ms w.toNat).length (cA ys) by lia] at this)
  have p2:pcH M lj hs=true:=by
   unfold pcH
   rw[bF]
   intro pc hpc
   obtain⟨k,hk',e⟩:=cm hpc
   have gp:=g.pg pc hpc
   have ek:lj.getD k ([],0)=pc:=by rw[af,ag hk'];exact e
   refine ax (fE ?_)
   rw[jC9 (ms:=ms) (n:=w.toNat) (gp.lot.ris.imp λh=>Int.ne_of_lt h) (λt ht=>by have:=gp.lot.bnd t ht;lia) h3]
   have e2:(sxS (mus ms w.toNat).length λj=>(if (mus ms w.toNat).getD j 0∈pc.1 then (1:Int) else 0)*nAt hs ((mus ms w.toNat).getD j 0))=sxS (mus ms w.toNat).length λj=>aI (mus ms w.toNat) lj j k*(cA ys j%M):=kL λj hj=>by rw[h2 j hj];unfold aI;rw[ek]
   rw[e2]
   have d2:=jKC (mus ms w.toNat).length (λj=>aI (mus ms w.toNat) lj j k) (cA ys) M
   have d3:=hk k hk'
   rw[kL λj _=>Int.mul_comm (cA ys j) _] at d3
   have:=lg d2 d3
   rwa [kh] at this
  rw[p1,p2,p3]
  rfl
def jNG(n m:Nat)(f:Nat->Nat->Int):sxS n (λj=>sxS m λk=>f j k)=sxS m λk=>sxS n λj=>f j k:=by
 induction n with
 |zero=>exact(jCY λ_ _=>rfl).symm
 |succ n ih=>
  show sxS n _+_=_
  rw[ih,<- jDB]
  rfl
theorem jPY{f:Nat->Int}(h:∀k,k<n->M∣f k):M∣sxS n f:=by
 induction n with
 |zero=>exact iZ M
 |succ n ih=>exact lg (ih λk hk=>h k (by lia)) (h n (by lia))
theorem jJJ{w:Int}{o o':Ob}(g:Good 16 32 w ms lj)(h1:jAM w ms lj o=true)(h2:hueB w ms lj o'=true):False:=by
 have w0:=g.w0
 cases o with
 |int i=>cases h1
 |oth=>cases h1
 |tup xs'=>
  have h1:(decide (xs'.length=lj.length)&&(xs'.all isInt&&onesB w ms lj (xs'.map valO)))=true:=h1
  rw[ba,ba] at h1
  obtain⟨l1,_,h1⟩:=h1
  have l1:(xs'.map valO).length=lj.length:=by rw[aa];exact aG l1
  rw[jIG l1] at h1
  generalize xs'.map valO=xs at l1 h1
  have key:∀M os,hueB w ms lj (.tup [.int M,.tup os])=true->False:=λM os h2=>by
   have h2:(decide (2<=M)&&(decide ((os.length:Int)=w)&&(os.all (hueO M)&&(mayH ms (os.map valO)&&(pcH M lj (os.map valO)&&!decide ((os.map valO).sum%M=0))))))=true:=h2
   rw[ba,ba,ba,ba,ba] at h2
   obtain⟨_,l2,_,m2,p2,n2⟩:=h2
   have l2:(os.map valO).length=w.toNat:=by rw[aa];have:=aG l2;lia
   generalize os.map valO=hs at l2 m2 p2 n2
   have h3:∀t∈ms,nAt hs t=0:=λt ht=>aG (bF.mp m2 t ht)
   have n2:¬hs.sum%M=0:=by simpa using n2
   refine n2 (fE ?_)
   rw[jMZ l2 h3]
   have e:(sxS (mus ms w.toNat).length λj=>nAt hs ((mus ms w.toNat).getD j 0))=sxS (mus ms w.toNat).length λj=>sxS lj.length λk=>cA xs k*(aI (mus ms w.toNat) lj j k*nAt hs ((mus ms w.toNat).getD j 0)):=kL λj hj=>by
    have:=h1 j hj
    have e2:(sxS lj.length λk=>cA xs k*(aI (mus ms w.toNat) lj j k*nAt hs ((mus ms w.toNat).getD j 0)))=sxS lj.length λk=>nAt hs ((mus ms w.toNat).getD j 0)*(aI (mus ms w.toNat) lj j k*cA xs k):=kL λk _=>by grind
    rw[e2,jAZ,this,jg]
   rw[e,jNG]
   refine jPY λk hk=>?_
   rw[jAZ]
   refine iC ?_
   have hpc:=bF.mp p2 _ (bC hk)
   have hpc:=fA (aG hpc)
   have gp:=g.pg _ (bC hk)
   rw[jC9 (ms:=ms) (n:=w.toNat) (gp.lot.ris.imp λh=>Int.ne_of_lt h) (λt ht=>by have:=gp.lot.bnd t ht;lia) h3] at hpc
   have ek:lj.getD k ([],0)=lj[k]:=by rw[af,ag hk];rfl
   unfold aI
   rw[ek]
   exact hpc
  cases o' with
  |int i=>cases h2
  |oth=>cases h2
  |tup os=>
   match os,h2 with
   |[a,b],h2=>
    cases a with
    |int M=>
     cases b with
     |tup os=>exact key M os h2
     |int _=>cases h2
     |oth=>cases h2
    |oth=>cases h2
    |tup _=>cases h2
   |[],h2=>cases h2
   |[a],h2=>cases a<;>cases h2
   |a::b::_::_,h2=>cases a<;>cases b<;>cases h2
theorem jMD{m:List (Option Nat)}{te:TE}{σ τ:St}{Q:VK}{d:Addr}(F:Int->Int->Int)(hσ:blkσ m σ=none::none::τ)(ha:H a=some (.lst (xs.map V.int)))(hd:H d=some (.lst (ys.map V.int)))(hl:xs.length<=100)
  (ht:∀x y H' Q',x∈xs->y∈ys->Q' (.int (F x y)) H'->te (some (.int x)::some (.int y)::τ) H' Q')
  (k:∀D H',H' D=some (.lst ((zipWith F xs ys).map V.int))->Ext H H'->H D=none->Q (.ref D) H'):qJ m (gTup K 2 (qZ (kI 0) (qZ (kI 1) gNil))) yH te σ Q (Itz false false K a d) H:=by
 refine jJ2 (xs:=xs.map V.int) (ys:=ys.map V.int) (by rw[aa,ar];lia) (λD j σ' H' zs=>(∃v1 v2,σ'=v1::v2::τ)/\zs=((zipWith F xs ys).take j).map V.int/\Ext H H'/\H' D=some (.lst zs)/\H D=none) ?_ ?_ ?_ ?_
 .intro D hD
  exact⟨⟨_,_,hσ⟩,rfl,(Ext.refl _).new hD _,j5,hD⟩
 .rintro D j σ' H' zs hD ⟨_,hz,e,hD',_⟩
  exact⟨SqL.of (e _ _ ha),SqL.of (e _ _ hd),hD',by rw[hz,aa,aZ];lia⟩
 .rintro D j σ' H' zs x y Tp hD hx hy hT ⟨⟨v1,v2,rfl⟩,hz,e,hD',_⟩
  obtain⟨x,hx',rfl⟩:=int_at hx
  obtain⟨y,hy',rfl⟩:=int_at hy
  have e2:Ext H' (L2.upd H' Tp (.tup [.int x,.int y])):=(Ext.refl _).new hT _
  have d2:(L2.upd H' Tp (.tup [.int x,.int y])) Tp=some (.tup [.int x,.int y]):=j5
  generalize L2.upd H' Tp (.tup [.int x,.int y])=H2 at e2 d2
  refine⟨Tp,_,rfl,SqT.of d2,rfl,_,_,rfl,_,_,rfl,rfl,?_⟩
  dsimp only[yH]
  rw[ai rfl]
  refine ht x y H2 _ (aH hx') (aH hy') ⟨e2 _ _ hD',⟨_,_,rfl⟩,?_,(e.trans e2).updNew hD _,j5,hD⟩
  have:(zipWith F xs ys)[j]?=some (F x y):=by rw[fX,hx',hy']
  rw[hz,aX,this,aC]
  rfl
 .rintro D2 σ' H2 zs hD ⟨_,hz,e,hD',_⟩
  rw[aa,aa,bf (by rw[gG];exact ak _)] at hz
  exact k D2 H2 (by rw[hD',hz]) e hD
def _root_.L2.mapZ.yesV{l:List α}{f:α->V}{x:α}{v:V}(h:mapZ l f H zs j)(hx:l[j]?=some x)(e:f x=v):mapZ l f H' (zs++[v]) (j+1):=by
 rw[<- e]
 exact h.yes hx
def ColA(H:Hp)(u:V)(l:List Int):Prop:=∃a,u=.ref a/\H a=some (.lst (l.map V.int))
abbrev ColsA(H:Hp)(us:List V)(cs:List (List Int)):Prop:=All2 (ColA H) us cs
def ColA.ext{u:V}(h:ColA H u l)(e:Ext H H'):ColA H' u l:=let ⟨a,e1,q⟩:=h;⟨a,e1,e _ _ q⟩
def ColsA.ext{us:List V}(h:ColsA H us cs)(e:Ext H H'):ColsA H' us cs:=h.imp λ_ _ z=>z.ext e
def All2.impM{β:Type}{R R':α->β->Prop}:∀{us:List α}{ws:List β},(∀u∈us,∀w,R u w->R' u w)->All2 R us ws->All2 R' us ws
 |[],[],_,_=>trivial
 |u::us,w::ws,h,⟨a,r⟩=>⟨h u (au ..) w a,All2.impM (λx hx=>h x (av _ hx)) r⟩
abbrev jLC:List Str:=["column","times","other"]
def scTaken:FnScope jLC ["column","times","other"] (jB jCQ):= {}
def jS4(T:Txt mg): {t:TS // JSs (XOf jLC "taken_off" jCQ P w K mg base f cdv A outer s H0 E) (jE jCQ) t}:=
 have nd:=scTaken.nd
 ⟨_,(jC (kD (kJ (m:=[none,none,some 1]) (Nc:=["entry","less","times"]) rfl (jIM gD T.zip (j3 (jv 0 rfl vL) (j3 (jv 2 rfl vL) j6 j4) j4) j4) rfl (by decide+kernel) (by decide+kernel) (jQ (psc:=jB jCQ)) (jH (N:=jLC) rfl rfl (by decide+kernel)) (λcl C fp s H=>jDO (i:=0) (j:=1) rfl (show (["entry","less","times"]:List Str).Nodup by decide+kernel) rfl rfl (by decide+kernel) (by decide+kernel)) (λcl C fp s H=>kO) (λcl C fp s H=>(jW jBX (jv 0 rfl jV) (jW jEQ (jv 2 rfl jX) (jv 1 rfl jV)))) kQ)))⟩
def jDE:Sp:=λvs H Q _=>∃(a d:Addr) (x:Int) (C Dd:List Int) (p q:Nat),vs=[.ref a,.int x,.ref d]/\H a=some (.lst (C.map V.int))/\H d=some (.lst (Dd.map V.int))/\C.length<=100/\Bt p x/\(∀y∈Dd,Bt q y)/\p+q<=134217000/\∀r H',H' r=some (.lst ((tkf x C Dd).map V.int))->Ext H H'->H r=none->Q (.ref r) H'
def jO4(F:Fun K "taken_off" "taken_off" jCQ f fd)(T:Txt mg):FnOk P w K mg base CX0 1 f fd ["column","times","other"] jDE:=by
 refine F.ok scTaken (λvs H Q E h=>?_) (λcdv A outer s H vs Q E hr h=>?_)
 .obtain⟨_,_,_,_,_,_,_,rfl,_⟩:=h
  rfl
 .obtain⟨a,d,x,C,Dd,p,q,rfl,ha,hd,hl,hx,hy,hpq,k⟩:=h
  refine⟨_,(jS4 T).2.h,?_⟩
  refine⟨_,rfl,_,rfl,false,false,a,d,rfl,⟨_,SqL.of ha⟩,⟨_,SqL.of hd⟩,jMD (τ:=[some (.int x)]) (λy z=>y-x*z) rfl ha hd hl (λy z H' Q' hy' hz q'=>?_) k⟩
  exact⟨_,rfl,_,rfl,_,rfl,_,_,rfl,rfl,⟨p,q,hx,hy z hz,hpq⟩,_,_,rfl,rfl,q'⟩
noncomputable abbrev nNear:List Str:=["entry","divisor"]
def scNear:FnScope nNear ["entry","divisor"] (jB sNear):= {}
theorem pylOf{N:List Str}{q:String}{st:Stmt}(S:SeerK P K mg)(hd:Room 32 (XOf N q st P w K mg base f cdv A outer s H0 E).A)(h1:(jB st).isGenerator=false)(h2:(jB st).isCoroutine=false):Pyl (XOf N q st P w K mg base f cdv A outer s H0 E):=
 ⟨S,⟨_,_,rfl,h1,h2,rfl,rfl⟩,by have:=hd.dp;lia⟩
def nearA(T:Txt mg)(PY:Pyl (XOf nNear "nearest_times" sNear P w K mg base f cdv A outer s H0 E)): {t:TS // JSs (XOf nNear "nearest_times" sNear P w K mg base f cdv A outer s H0 E) (jE sNear) t}:=
 have nd:=scNear.nd
 ⟨_,(jC (kD (jW (jD2 PY) (jW yB (jW jBC (j9) (jv 0 rfl vL)) (jv 1 rfl vL)) (jW jBC (j9) (jv 1 rfl vL)))))⟩
def jI5:Sp:=λvs H Q _=>∃c d:Int,vs=[.int c,.int d]/\d≠0/\Q (.int (near c d)) H
theorem jR0(F:Fun K "nearest_times" "nearest_times" sNear f fd)(T:Txt mg)(S:SeerK P K mg):FnOk P w K mg base CX0 33 f fd ["entry","divisor"] jI5:=by
 refine F.ok scNear (λvs H Q E h=>?_) (λcdv A outer s H vs Q E hr h=>?_)
 .obtain⟨_,_,rfl,_⟩:=h
  rfl
 .obtain⟨c,d,rfl,hd,q⟩:=h
  refine⟨_,(nearA T (pylOf S hr rfl rfl)).2.h,?_⟩
  exact⟨_,rfl,_,_,rfl,rfl,.inl ⟨by decide,by decide⟩,_,rfl,_,_,rfl,rfl,_,rfl,_,_,rfl,rfl,.inl ⟨by decide,by decide⟩,_,_,rfl,rfl,(show (2*d:Int)≠0 by lia),q⟩
noncomputable abbrev nGoes:List Str:=["lead","entry"]
def scGoes:FnScope nGoes ["lead","entry"] (jB sGoes):= {}
def goesA(T:Txt mg): {t:TS // JSs (XOf nGoes "goes_in" sGoes P w K mg base f cdv A outer s H0 E) (jE sGoes) t}:=
 have nd:=scGoes.nd
 ⟨_,(jC (kD (jG3 (jM qS (jv 0 rfl vL) (j9) (jT _)) (jCG qM (jW jQV (jv 1 rfl vL) (jv 0 rfl vL)) (j9) (jT _)) (jCG qM (jv 1 rfl vL) (j9) (jT _)))))⟩
def jKH:Sp:=λvs H Q _=>∃l e:Int,vs=[.int l,.int e]/\Q (.bl (decide (l∣e))) H
theorem jR2(F:Fun K "goes_in" "goes_in" sGoes f fd)(T:Txt mg):FnOk P w K mg base CX0 1 f fd ["lead","entry"] jKH:=by
 refine F.ok scGoes (λvs H Q E h=>?_) (λcdv A outer s H vs Q E hr h=>?_)
 .obtain⟨_,_,rfl,_⟩:=h
  rfl
 .obtain⟨l,e,rfl,q⟩:=h
  refine⟨_,(goesA T).2.h,?_⟩
  refine⟨_,rfl,rfl,_,rfl,?_⟩
  by_cases h:l=0
  .subst h
   refine iteF ⟨_,rfl,rfl,?_⟩
   have e0:decide (V.int e=V.int 0)=decide ((0:Int)∣e):=by
    by_cases z:e=0
    .subst z;rfl
    .rw[aN (λh=>z (V.int.inj h)),aN (λh=>z (ku.mp h))]
   rw[<- e0] at q
   exact q
  .have hb:(!decide (V.int l=V.int 0))=true:=by rw[aN (λz=>h (V.int.inj z))];rfl
   dsimp only
   rw[ai hb]
   refine⟨_,rfl,_,rfl,_,_,rfl,rfl,h,rfl,?_⟩
   have e0:decide (V.int (e.fmod l)=V.int 0)=decide (l∣e):=by
    by_cases z:l∣e
    .rw[ax z,Int.fmod_eq_zero_of_dvd z];rfl
    .rw[aN z,aN (λh=>z (Int.dvd_of_fmod_eq_zero (V.int.inj h)))]
   rw[<- e0] at q
   exact q
abbrev jET:List Str:=["box","musts","columns","number","piece","held"]
def scFirstC:FnScope jET ["box","musts"] (jB jAN):= {}
abbrev XFc(P:Program)(w:World)(K:W.Frag)(mg:Str->Option Value)(base:Heap)(f:Addr)(cdv:Value)(A:Around)(outer:List Env)(s:Shared)(H:Hp)(E:XK):Cx:=XOf jET "first_columns" jAN P w K mg base f cdv A outer s H E
def fcolL(T:Txt mg)(hr:Room 0 (XFc P w K mg base f cdv A outer s H0 E).A): {t:TS // JSs (XFc P w K mg base f cdv A outer s H0 E) (qH ((jE jAN).getD 1 (.Pass ⟨0,0,0,0⟩))) t}:=
 have nd:=scFirstC.nd
 ⟨_,(jA (jBK (i:=5) nd rfl lL ⟨by rfl⟩ (m:=[none,some 4]) (Nc:=["must","piece"]) rfl (yK (jv 1 rfl vL)) rfl (by decide+kernel) (by decide+kernel) (jQ (psc:=jB jAN)) (jH (N:=jET) rfl rfl (by decide+kernel)) (λcl C fp s H=>jJ (i:=0) (show (["must","piece"]:List Str).Nodup by decide+kernel) rfl yG) (λcl C fp s H=>kO) (λcl C fp s H=>(jG3 (jM jHB (jv 0 rfl jV) (jK jAB (jv 1 rfl jX) (j9) jD) jL7) (j9) (j9))) yM)
   (jC (jAQ (xC bD cZ da jAJ (jv 2 rfl vL) (j3 (jW jES (jv 5 rfl vL) (kJ (m:=[none,some 3]) (Nc:=["other","number"]) rfl (kY gD T.range (j3 (jF jN gD T.len (by decide+kernel) (j3 (jK jU (jv 0 rfl vL) (j9) jD) j6 jR) jR) j6 jG) jG) rfl (by decide+kernel) (by decide+kernel) (jQ (psc:=jB jAN)) (jH (N:=jET) rfl rfl (by decide+kernel)) (λcl C fp s H=>jJ (i:=0) (show (["other","number"]:List Str).Nodup by decide+kernel) rfl yG) (λcl C fp s H=>kO) (λcl C fp s H=>(jG3 (jM qM (jv 0 rfl jV) (jv 1 rfl jX) (jT _)) (j9) (j9))) kQ)) j6 yD) yD) jZ)))⟩
def fcolA(T:Txt mg)(hr:Room 0 (XFc P w K mg base f cdv A outer s H0 E).A): {t:TS // JSs (XFc P w K mg base f cdv A outer s H0 E) (jE jAN) t}:=
 have nd:=scFirstC.nd
 ⟨_,(jA (jL (i:=2) nd rfl lL (yL j6) jBA) (jA (yZ br rfl (jRH gD T.enumerate (j3 (jK jU (jv 0 rfl vL) (j9) jD) j6 jR) jR) (jEY (i:=3) (j:=4) nd rfl rfl qI qI) (fcolL T hr).2 kQ) (jC (kD (jv 2 rfl vL)))))⟩
def jEH:Sp:=λvs H Q _=>∃(b m:Addr) (w:Int) (ms mu:List Int) (lj:List (List Int×Int)),vs=[.ref b,.ref m]/\BoxAt H b w ms lj/\Good 16 32 w ms lj/\H m=some (.lst (mu.map V.int))/\mu.length<=16/\∀l vs H',H' l=some (.lst vs)->ColsA H' vs ((List.range lj.length).map (fcol mu lj))->Ext H H'->H l=none->Q (.ref l) H'
theorem jM3(T:Txt mg)(hr:Room 0 (XFc P w K mg base f cdv A outer s H0 E).A){b m l pa pq qm qp:Addr}{ps vs:List V}{wi:Int}{pc:List Int×Int}(b1:H b=some (.tup [.int wi,.ref qm,.ref qp]))(b3:H qp=some (.tup ps))(psl:ps.length=lj.length)(pl:lj.length<=32)(hp:H pa=some (.tup [.ref pq,.int pc.2]))(hq:H pq=some (.tup (pc.1.map V.int)))(hpc:lj[i]?=some pc)(hm:H m=some (.lst (mu.map V.int)))(ml:mu.length<=16)(hl:H l=some (.lst vs))(vl:vs.length<=32)
  (nx:∀H' H'' r v5,Ext H H'->H' r=some (.lst ((fcol mu lj i).map V.int))->H''=L2.upd H' l (.lst (vs++[.ref r]))->r≠l->D.nx [some (.ref b),some (.ref m),some (.ref l),some (.int (i:Int)),some (.ref pa),v5] H''):
  (fcolL T hr).1 D [some (.ref b),some (.ref m),some (.ref l),some (.int (i:Int)),some (.ref pa),v5] H:=by
 have hpl:i<lj.length:=(aF.mp hpc).1
 have ek:lj.getD i ([],0)=pc:=by rw[af,hpc];rfl
 refine⟨_,rfl,m,rfl,⟨_,SqL.of hm⟩,jC5 (xs:=mu.map V.int) (λσ=>∃v,σ=[v,some (.ref pa)]) (mapZ mu λt=>V.int (if t∈pc.1 then 1 else 0)) (mapZ.ok _ _) hm (by rw[aa,ar];lia) ⟨_,rfl⟩ ?_ ?_⟩
 .rintro j x σ' H1 zs hx ⟨v,rfl⟩ e1 hz S1 S2 y1 n1
  obtain⟨t,ht,rfl⟩:=int_at hx
  dsimp only[kI,yH]
  rw[ai rfl]
  refine⟨_,rfl,_,rfl,pa,_,0,_,rfl,rfl,SqT.of (e1 _ _ hp),rfl,pq,_,rfl,.inr (SqT.of (e1 _ _ hq)),rfl,jB2 _,?_⟩
  rw[jC1]
  refine⟨_,rfl,ite2 (λh=>?_) (λh=>?_)⟩
  .have h:t∈pc.1:=by simpa using h
   exact y1 _ _ _ ⟨_,rfl⟩ (Ext.refl _) (hz.yesV ht (bB V.int (ai h)))
  .have h:t∉pc.1:=by simpa using h
   exact y1 _ _ _ ⟨_,rfl⟩ (Ext.refl _) (hz.yesV ht (bB V.int (aj h)))
 .rintro D1 H1 zs h1 e1 n1 hz
  have hz:=hz.all (by rw[aa];exact ak _)
  have b1':=e1 _ _ b1
  refine⟨_,rfl,.inl ⟨rfl,_,SqL.of (e1 _ _ hl)⟩,_,rfl,_,rfl,b,_,2,_,rfl,rfl,SqT.of b1',rfl,qp,_,rfl,.inr (SqT.of (e1 _ _ b3)),_,rfl,?_,?_,jJ3 (n:=ps.length) (λσ=>∃v,σ=[v,some (.int (i:Int))]) (mapZ (List.range lj.length) λo=>V.int (if o=i then 1 else 0)) (mapZ.ok _ _) (by rw[ar];lia) ⟨_,rfl⟩ ?_ ?_⟩
  .lia
  .lia
  .rintro j σ' H2 ys hj ⟨v,rfl⟩ e2 hy S1 S2 y1 n2
   have e0:(0+(j:Int))=(j:Int):=by lia
   rw[e0]
   dsimp only[kI,yH]
   rw[ai rfl]
   have hjr:(List.range lj.length)[j]?=some j:=dW (by lia)
   refine⟨_,rfl,_,rfl,rfl,_,rfl,ite2 (λh=>?_) (λh=>?_)⟩
   .have h:j=i:=by have:=V.int.inj (aG h);lia
    exact y1 _ _ _ ⟨_,rfl⟩ (Ext.refl _) (hy.yesV hjr (bB V.int (ai h)))
   .have h:j≠i:=λz=>h (ax (by rw[z]))
    exact y1 _ _ _ ⟨_,rfl⟩ (Ext.refl _) (hy.yesV hjr (bB V.int (aj h)))
  .rintro D2 H2 ys h2 e2 n2 hy
   have hy:=hy.all (by rw[bI];lia)
   have h1':=e2 _ _ h1
   refine⟨D1,D2,zs,ys,rfl,rfl,h1',h2,by rw[hz,hy,aa,aa,bI,ar];lia,λr H3 d3 e3 n3=>?_⟩
   have E3:=(e1.trans e2).trans e3
   have rl:r≠l:=λz=>by rw[z,e2 _ _ (e1 _ _ hl)] at n3;cases n3
   refine⟨l,vs,_,rfl,rfl,E3 _ _ hl,by rw[ar];lia,nx H3 _ r _ E3 ?_ rfl rl⟩
   rw[d3,hz,hy]
   unfold fcol
   rw[ek,aC,b8,b8]
   rfl
theorem jL4(F:Fun K "first_columns" "first_columns" jAN f fd)(T:Txt mg):FnOk P w K mg base CX0 1 f fd ["box","musts"] jEH:=by
 refine F.ok scFirstC (λvs H Q E h=>?_) (λcdv A outer s H vs Q E hr h=>?_)
 .obtain⟨_,_,_,_,_,_,rfl,_⟩:=h
  rfl
 .obtain⟨b,m,wi,ms,mu,lj,rfl,hB,g,hm,ml,q⟩:=h
  refine⟨_,(fcolA T hr).2.h,?_⟩
  obtain⟨qm,qp,ps,b1,b2,b3,b4⟩:=id hB.ex
  have psl:=b4.len
  have pl:lj.length<=32:=by have:=g.pl;lia
  refine⟨bb _,λl H1 d1 e1 n1=>?_⟩
  refine⟨_,rfl,b,_,2,_,rfl,rfl,SqT.of (e1 _ _ b1),rfl,true,qp,rfl,⟨_,SqT.of (e1 _ _ b3)⟩,jOS (tp:=true) (xs:=ps) (λi σ H'=>(∃v3 v4 v5,σ=[some (.ref b),some (.ref m),some (.ref l),v3,v4,v5])/\Ext H H'/\∃vs,H' l=some (.lst vs)/\ColsA H' vs ((List.range i).map (fcol mu lj))/\∀v∈vs,v≠.ref l) ⟨⟨_,_,_,rfl⟩,e1,[],d1,trivial,λv hv=>by cases hv⟩ (λi σ H' ⟨_,e,_⟩=>SqT.of (e _ _ b3)) ?_ ?_⟩
  .rintro i x t σ H3 hx ht ⟨⟨v3,v4,v5,rfl⟩,e3,vs,hl,hc,hne⟩
   obtain⟨pc,hpc,pa,pq,rfl,c1,c2⟩:=b4.at hx
   refine⟨t,_,rfl,SqT.of j5,rfl,_,_,rfl,_,_,rfl,rfl,?_⟩
   have k4:Ext H3 (L2.upd H3 t (.tup [.int (i:Int),.ref pa])):=(Ext.refl _).new ht _
   generalize L2.upd H3 t (.tup [.int (i:Int),.ref pa])=H4 at k4
   have E4:=e3.trans k4
   have hi:i<lj.length:=(aF.mp hpc).1
   have vl:=All2.len hc
   rw[aa,bI] at vl
   refine jM3 T hr (E4 _ _ b1) (E4 _ _ b3) psl pl (E4 _ _ c1) (E4 _ _ c2) hpc (E4 _ _ hm) ml (k4 _ _ hl) (by lia) λH5 H6 r v5 e5 hr' h6 rl=>?_
   subst h6
   have E5:=E4.trans e5
   have kk:∀c o,H5 c=some o->c≠l->(L2.upd H5 l (.lst (vs++[.ref r]))) c=some o:=λc o h n=>by rw[j7 n];exact h
   refine⟨⟨_,_,_,rfl⟩,λc o h=>kk _ _ (E5 _ _ h) (λz=>by rw[z,n1] at h;cases h),_,j5,?_,λv hv=>?_⟩
   .rw[fg,aC]
    refine All2.append (All2.impM (λu hu c hc=>?_) hc) ⟨⟨r,rfl,kk _ _ hr' rl⟩,trivial⟩
    obtain⟨a,rfl,ha⟩:=hc
    exact⟨a,rfl,kk _ _ (e5 _ _ (k4 _ _ ha)) λz=>hne _ hu (by rw[z])⟩
   .rcases az.mp hv with z|z
    .exact hne v z
    .rw[aW.mp z]
     exact λz=>rl (by cases z;rfl)
  .rintro σ H3 ⟨⟨v3,v4,v5,rfl⟩,e3,vs,hl,hc,_⟩
   rw[psl] at hc
   exact⟨_,rfl,q l vs H3 hl hc e3 n1⟩
def newOf{r:Addr}(e:Ext H H')(n:H' r=none):H r=none:=by
 cases h:H r with
 |none=>rfl
 |some o=>rw[e _ _ h] at n;cases n
def colV(H:Hp):V->List Int
 | .ref a=>match H a with
  |some (.lst xs)=>xs.map λv=>match v with
   | .int i=>i
   |_=>0
  |_=>[]
 |_=>[]
def jMG{x:List Int}(h:H a=some (.lst (x.map V.int))):colV H (.ref a)=x:=by
 dsimp only[colV]
 rw[h]
 show (x.map V.int).map _=x
 rw[b8]
 exact ir _
def ColsA.back:∀{us:List V}{cs:List (List Int)},ColsA H us cs->us.map (colV H)=cs/\∀v∈us,ColA H v (colV H v)
 |[],[],_=>⟨rfl,λv hv=>by cases hv⟩
 |u::us,x::ws,h=>by
  obtain⟨⟨a,rfl,ha⟩,r⟩:=h
  obtain⟨r1,r2⟩:=ColsA.back r
  refine⟨by rw[aP,jMG ha,r1],λv hv=>?_⟩
  rcases ay.mp hv with rfl|z
  .exact⟨a,rfl,by rw[jMG ha];exact ha⟩
  .exact r2 v z
def ColsA.of{H:Hp}:∀{us:List V},(∀v∈us,ColA H v (colV H v))->ColsA H us (us.map (colV H))
 |[],_=>trivial
 |u::us,h=>⟨h u (au ..),ColsA.of λv hv=>h v (av _ hv)⟩
def ColsA.filt(p:List Int->Bool):∀{us:List V}{cs:List (List Int)},ColsA H us cs->ColsA H (((us.zip cs).filter λx=>p x.2).map Prod.fst) (cs.filter p)
 |[],[],_=>trivial
 |u::us,c::cs,⟨h,r⟩=>by
  rw[dE,bL,bL]
  cases hp:p c with
  |true=>exact⟨h,ColsA.filt p r⟩
  |false=>exact ColsA.filt p r
section
variable {m:List (Option Nat)}{tt:TT}{te:TE}{σ τ:St}{H:Hp}{Q:VK}{us:List V}
theorem jC6(p:List Int->Bool)(hσ:blkσ m σ=none::τ)(ha:H a=some (.lst us))(hc:ColsA H us cs)(hl:us.length<=100)
  (ht:∀u c H' (Q':Bool->Hp->Prop),ColA H' u c->c∈cs->Q' (p c) H'->tt (some u::τ) H' Q')
  (k:∀D zs H',H' D=some (.lst zs)->ColsA H' zs (cs.filter p)->Ext H H'->H D=none->(∀z∈zs,z∈us)->Q (.ref D) H'):qJ m (kI 0) tt (tVar 0) σ Q (Itl K a) H:=by
 have ul:=All2.len hc
 refine jC5 (xs:=us) (λσ=>∃v,σ=v::τ) (outZ (us.zip cs) (λx=>p x.2) Prod.fst) (outZ.ok _ _ _) ha (by rw[ar];lia) ⟨_,hσ⟩ ?_ ?_
 .rintro j u σ' H1 zs hu ⟨v,rfl⟩ e1 hz S1 S2 yes no
  obtain⟨c,hc',hu'⟩:=All2.get' hc hu
  have hz2:(us.zip cs)[j]?=some (u,c):=eW.mpr ⟨hu,hc'⟩
  dsimp only[kI]
  refine ht u c H1 _ (hu'.ext e1) (aH hc') ?_
  refine ite2 (λh=>?_) (λh=>?_)
  .exact⟨_,rfl,yes _ _ _ ⟨_,rfl⟩ (Ext.refl _) (hz.yes hz2 h)⟩
  .exact no _ _ ⟨_,rfl⟩ (Ext.refl _) (hz.no hz2 (by simpa using h))
 .rintro D H1 zs h1 e1 n1 hz
  have hz:=hz.all (by rw[cU];lia)
  refine k D zs H1 h1 (by rw[hz];exact(hc.filt p).ext e1) e1 n1 λz hz'=>?_
  rw[hz] at hz'
  obtain⟨x,hx,rfl⟩:=aQ.mp hz'
  exact(cR (bo.mp hx).1).1
theorem jMF(F:List Int->List Int)(hσ:blkσ m σ=none::τ)(ha:H a=some (.lst us))(hc:ColsA H us cs)(hl:us.length<=100)
  (ht:∀u c H' Q',ColA H' u c->c∈cs->Ext H H'->(∀r H2,H2 r=some (.lst ((F c).map V.int))->Ext H' H2->H' r=none->Q' (.ref r) H2)->te (some u::τ) H' Q')
  (k:∀D zs H',H' D=some (.lst zs)->ColsA H' zs (cs.map F)->Ext H H'->H D=none->(∀z∈zs,∃r,z=.ref r/\H r=none)->Q (.ref D) H'):qJ m (kI 0) yH te σ Q (Itl K a) H:=by
 have ul:=All2.len hc
 refine jDV (xs:=us) (by rw[ar];lia) (λD j σ' H' zs=>(∃v,σ'=v::τ)/\Ext H H'/\H' D=some (.lst zs)/\H D=none/\ColsA H' zs ((cs.take j).map F)/\∀z∈zs,∃r,z=.ref r/\H r=none/\r≠D) ?_ ?_ ?_ ?_
 .intro D hD
  exact⟨⟨_,hσ⟩,(Ext.refl _).new hD _,j5,hD,trivial,λz hz=>by cases hz⟩
 .rintro D j σ' H' zs hD ⟨_,e,h2,_,hz,_⟩
  refine⟨e _ _ ha,h2,?_⟩
  rw[All2.len hz,aa,aZ]
  lia
 .rintro D j σ' H' zs u hD hu ⟨⟨v,rfl⟩,e,h2,_,hz,hn⟩
  obtain⟨c,hc',hu'⟩:=All2.get' hc hu
  dsimp only[kI,yH]
  rw[ai rfl]
  refine ht u c H' _ (hu'.ext e) (aH hc') e λr H2 d2 e2 n2=>?_
  have rD:r≠D:=λz=>by rw[z,h2] at n2;cases n2
  have kk:∀c o,H2 c=some o->c≠D->(L2.upd H2 D (.lst (zs++[.ref r]))) c=some o:=λc o h n=>by rw[j7 n];exact h
  refine⟨e2 _ _ h2,⟨_,rfl⟩,λc o h=>kk _ _ (e2 _ _ (e _ _ h)) (λz=>by rw[z,hD] at h;cases h),j5,hD,?_,λz hz'=>?_⟩
  .rw[aX,hc',aC]
   refine All2.append (All2.impM (λu hu c hc=>?_) hz) ⟨⟨r,rfl,kk _ _ d2 rD⟩,trivial⟩
   obtain⟨q,rfl,hq⟩:=hc
   obtain⟨q',e',_,n'⟩:=hn _ hu
   cases e'
   exact⟨q,rfl,kk _ _ (e2 _ _ hq) n'⟩
  .rcases az.mp hz' with z'|z'
   .exact hn z z'
   .exact⟨r,aW.mp z',newOf e n2,rD⟩
 .rintro D σ' H' zs hD ⟨_,e,h2,hn,hz,hne⟩
  rw[ul,bH] at hz
  exact k D zs H' h2 hz e hn λz hz'=>let ⟨r,a,b,_⟩:=hne z hz';⟨r,a,b⟩
end
def lamL(s:Stmt):Arguments×Expr×Scope×Pos:=match (jE s).getD 2 (.Pass ⟨0,0,0,0⟩) with
 | .While _ (.Assign _ (.Call _ _ [⟨_,.Lambda a b sc p,_⟩] _) _::_) _ _=>(a,b,sc,p)
 |_=>(yX s,.Constant .none 0 ⟨0,0,0,0⟩,jB s,⟨0,0,0,0⟩)
def jGT(s:Stmt):List Stmt:=match s with
 | .While _ b _ _=>b
 |_=>[]
abbrev ldA0:Arguments:=(lamL sLed).1
abbrev ldB:Expr:=(lamL sLed).2.1
abbrev ldSc:Scope:=(lamL sLed).2.2.1
abbrev ldPo:Pos:=(lamL sLed).2.2.2
noncomputable abbrev nLdK:List Str:=["column","row"]
theorem scLdK:NScope nLdK ["column"] ["row"] ldSc:=⟨rfl,rfl,rfl,by decide+kernel,rfl,by decide+kernel,by decide+kernel,λx h=>by
  have hl:∀y∈ldSc.names,y.2=.free->y.1= "row" :=by decide+kernel
  rw[aW]
  exact hl _ (cP h) rfl,by decide+kernel⟩
abbrev qLdK:Str:= "led_by_one.<locals>.<lambda>"
structure LdI where
 r:Int
abbrev TabL(H:Hp)(tb:Addr):Prop:=TabOk H tb ldPo qLdK
def zhLd(cl:List (Str×Addr))(a c:Addr):Hp->Prop:=λH=>H a=some (.ext (nlP qLdK ldA0 ldB ldSc cl a c))/\H c=some (.ext (ncP qLdK c))
def zhLd.ext{cl:List (Str×Addr)}(a c:Addr)(H H':Hp)(e:Ext H H')(h:zhLd cl a c H):zhLd cl a c H':=⟨e _ _ h.1,e _ _ h.2⟩
def absI(i:Int):Int:=if i<0 then -i else i
theorem jJ6(i:Int):absI i=(i.natAbs:Int):=by unfold absI;split<;>lia
section
variable {c c0:Addr}{cl:List (Str×Addr)}
def jTC(T:Txt mg): {t:TE // JE (cxN P w K mg base nLdK qLdK ldSc a (.ref c) cl A outer s H0) ldB t}:=⟨_,(jF jD8 (gl_n (by decide+kernel)) T.abs (by decide+kernel) (j3 (jK kX (jv 0 rfl (vis_n (by decide+kernel))) (jv 1 rfl (jS0 (by decide+kernel))) kN) j6 jR) jR)⟩
def spLdK(r:Int):Sp:=λvs H Q E=>∃(u:V) (C:List Int) (j:Nat),vs=[u]/\ColA H u C/\r=(j:Int)/\j<C.length/\Q (.int (absI (cA C j))) H
def qL(h:j<C.length):atI (C.map V.int) (j:Int)=some (.int (cA C j)):=by
 refine yF ?_
 unfold cA
 rw[aO,af,ag h]
 rfl
def jO6(i:LdI)(T:Txt mg):Callee P w K mg base (λs H=>ClOk cl s H/\FvOk ["row"] [.int i.r] cl s) (zhLd cl a c) 2 a (spLdK i.r):=by
 refine jTQ (fv:=[.int i.r]) scLdK (λvs H Q E h=>?_) (λpm ctv us hl=>?_) λA outer s H vs Q E hr h=>?_
 .obtain⟨_,_,_,rfl,_⟩:=h
  rfl
 .match us,hl with
  |[_],_=>rfl
 .obtain⟨u,C,j,rfl,⟨q,rfl,hq⟩,hj,hl,h⟩:=h
  exact⟨_,(jTC T).2.h,_,rfl,_,rfl,q,_,_,_,rfl,rfl,SqL.of hq,(by rw[hj];exact qL hl),_,rfl,h⟩
noncomputable abbrev nLed:List Str:=["columns","row","filled","done","lead","less"]
def scLed:FnScope nLed ["columns","row"] (jB sLed):= {}
abbrev XLd(P:Program)(w:World)(K:W.Frag)(mg:Str->Option Value)(base:Heap)(f c0:Addr)(A:Around)(outer:List Env)(s:Shared)(H:Hp)(E:XK):Cx:=XOf nLed "led_by_one" sLed P w K mg base f (.ref c0) A outer s H E
theorem fsLd:∀x∈(["row"]:List Str),ldSc.names.lookup x=some .free:=by decide+kernel
theorem jTP:FsAt (XLd P w K mg base f c0 A outer s H0 E) ["row"] [1]:=⟨rfl,λk x h=>by
 match k,h with
 | 0,h=>
  cases h
  exact⟨1,rfl,rfl,.inl (show (jB sLed).names.lookup (("row":String):Str)=some .cell by decide+kernel)⟩
 |k+1,h=>cases h⟩
section
variable (T:Txt mg)(CH:PySem.W.CodeHd base c0 tb)(BM:BltAt base mg)(CK:Can P w K mg base "taken_off" 1 fK fdK ["column","times","other"] jDE)(CN:Can P w K mg base "nearest_times" 33 fN fdN ["entry","divisor"] jI5)(hr:Room 33 (XLd P w K mg base f c0 A outer s H0 E).A)
def ldL3: {t:TS // JSs (XLd P w K mg base f c0 A outer s H0 E) ((jGT ((jE sLed).getD 2 (.Pass ⟨0,0,0,0⟩))).drop 3) t}:=
 have nd:=scLed.nd
 have _h0:=T;have _h:=CK;have _h1:=CN;have _h2:=hr
 ⟨_,(jA (jL (i:=2) nd rfl lL (jW jES (yL (j3 (jv 4 rfl vC) j6 j4)) (kJ (m:=[none,some 1]) (Nc:=["column","row"]) rfl (yK (jv 5 rfl vL)) rfl (by decide+kernel) (by decide+kernel) (jQ (psc:=jB sLed)) (jH (N:=nLed) rfl rfl (by decide+kernel)) (λcl C fp s H=>jJ (i:=0) (show (["column","row"]:List Str).Nodup by decide+kernel) rfl yG) (λcl C fp s H=>jAP (jM qS (jK yN (jv 0 rfl jV) (jv 1 rfl jX) kN) (j9) (jT _))) (λcl C fp s H=>(jv 0 rfl jV)) yM)) jBP)
   (jC (jAQ (xC bD PySem.F.slot_list_extend PySem.F.type_list_extend jLF (jv 3 rfl vL) (j3 (kJ (m:=[none,some 1]) (Nc:=["column","row"]) rfl (yK (jv 5 rfl vL)) rfl (by decide+kernel) (by decide+kernel) (jQ (psc:=jB sLed)) (jH (N:=nLed) rfl rfl (by decide+kernel)) (λcl C fp s H=>jJ (i:=0) (show (["column","row"]:List Str).Nodup by decide+kernel) rfl yG) (λcl C fp s H=>jAP (jM qM (jK yN (jv 0 rfl jV) (jv 1 rfl jX) kN) (j9) (jT _))) (λcl C fp s H=>(jv 0 rfl jV)) yM) j6 jP) jP) jZ)))⟩
def ldL2: {t:TS // JSs (XLd P w K mg base f c0 A outer s H0 E) ((jGT ((jE sLed).getD 2 (.Pass ⟨0,0,0,0⟩))).drop 2) t}:=
 have nd:=scLed.nd
 ⟨_,(jA (jBK (i:=5) nd rfl lL ⟨by rfl⟩ (m:=[none,some 1,some 4]) (Nc:=["column","row","lead"]) rfl (yK (jC0 jEK (jv 2 rfl vL) (jDM (j9)) jDN)) rfl (by decide+kernel) (by decide+kernel) (jQ (psc:=jB sLed)) (jH (N:=nLed) rfl rfl (by decide+kernel)) (λcl C fp s H=>jJ (i:=0) (show (["column","row","lead"]:List Str).Nodup by decide+kernel) rfl yG) (λcl C fp s H=>kO) (λcl C fp s H=>(CK.je (hr.mono (by decide)) gl_b (j3 (jv 0 rfl jV) (j3 (CN.je hr gl_b (j3 (jK yN (jv 0 rfl jV) (jv 1 rfl jX) kN) (j3 (jK yN (jv 2 rfl jX) (jv 1 rfl jX) kN) j6 jR) jR) jR) (j3 (jv 2 rfl jX) j6 j4) jG) j4) j4)) qV) (ldL3 T CK CN hr).2)⟩
def ldL: {t:TS // JSs (XLd P w K mg base f c0 A outer s H0 E) (jGT ((jE sLed).getD 2 (.Pass ⟨0,0,0,0⟩))) t}:=
 have nd:=scLed.nd
 ⟨_,(jA ((jL (i:=2) nd rfl lL (jJR (jFA jRE (G:=λ(i:LdI) σ=>jI7 σ [1] [.int i.r]) (λi q c=>jO6 i T) (λi ad s σ H I q=>⟨I.clOk (jQ (psc:=jB sLed)),I.fvOk (jQ (psc:=jB sLed)) fsLd jTP q⟩) zhLd.ext (hr.mono (by decide))) gD T.sorted (by decide+kernel) (j3 (jv 2 rfl vL) j6 j4) (jRG (jTL rfl CH BM (jQ (psc:=jB sLed)) rfl) jTI) j4) jZ)) (jA (jL (i:=4) nd rfl qI (jK kX (jv 2 rfl vL) (j9) jD) jBO) (ldL2 T CK CN hr).2))⟩
def ldA: {t:TS // JSs (XLd P w K mg base f c0 A outer s H0 E) (jE sLed) t}:=
 have nd:=scLed.nd
 ⟨_,(jA (jBK (i:=2) nd rfl lL ⟨by rfl⟩ (m:=[none,some 1]) (Nc:=["column","row"]) rfl (yK (jv 0 rfl vL)) rfl (by decide+kernel) (by decide+kernel) (jQ (psc:=jB sLed)) (jH (N:=nLed) rfl rfl (by decide+kernel)) (λcl C fp s H=>jJ (i:=0) (show (["column","row"]:List Str).Nodup by decide+kernel) rfl yG) (λcl C fp s H=>jAP (jM qS (jK yN (jv 0 rfl jV) (jv 1 rfl jX) kN) (j9) (jT _))) (λcl C fp s H=>(jv 0 rfl jV)) yM) (jA (jBK (i:=3) nd rfl lL ⟨by rfl⟩ (m:=[none,some 1]) (Nc:=["column","row"]) rfl (yK (jv 0 rfl vL)) rfl (by decide+kernel) (by decide+kernel) (jQ (psc:=jB sLed)) (jH (N:=nLed) rfl rfl (by decide+kernel)) (λcl C fp s H=>jJ (i:=0) (show (["column","row"]:List Str).Nodup by decide+kernel) rfl yG) (λcl C fp s H=>jAP (jM qM (jK yN (jv 0 rfl jV) (jv 1 rfl jX) kN) (j9) (jT _))) (λcl C fp s H=>(jv 0 rfl jV)) yM) (jA (jD7 br (jM op_gt (jF jN gD T.len (by decide+kernel) (j3 (jv 2 rfl vL) j6 j4) j4) (j9) (jT _)) (ldL T CH BM CK CN hr).2) (jC (kD (kW (j3 (jv 2 rfl vL) (j3 (jv 3 rfl vL) j6 j4) j4)))))))⟩
def spLed(tb:Addr):Sp:=λvs H Q _=>∃(l:Addr) (r N b:Nat) (us:List V) (cs:List (List Int)),vs=[.ref l,.int (r:Int)]/\H l=some (.lst us)/\ColsA H us cs/\us.length<=40/\(∀c∈cs,c.length=N)/\N<=60/\r<N/\AllB (2^b) cs/\4*b+10<=134217000/\TabL H tb/\
 ∀t Fa Da fs ds Fc Dc H',H' t=some (.tup [.ref Fa,.ref Da])->H' Fa=some (.lst fs)->ColsA H' fs Fc->H' Da=some (.lst ds)->ColsA H' ds Dc->Led N r cs Fc Dc->Fc.length<=1->AllB (2^(3*b+2)) (Fc++Dc)->ExtT tb H H'->TabL H' tb->H Fa=none->H Da=none->Q (.ref t) H'
theorem nzT:(!decide (V.int (cA C j)=V.int 0))=nzB j C:=by
 unfold nzB
 congr 1
 exact iN.mpr ⟨V.int.inj,bB V.int⟩
theorem zrT:decide (V.int (cA C j)=V.int 0)=zrB j C:=iN.mpr ⟨V.int.inj,bB V.int⟩
theorem jRC{L:Addr}{lead:List Int}{lc:List (List Int)}{v2:Option V}(hL:H L=some (.lst zs))(hz:ColsA H zs lc)(zl:zs.length<=40)(hlead:H la=some (.lst (lead.map V.int)))(hD:H Da=some (.lst ds))(hd:ColsA H ds Dc)(dl:ds.length<=40)(hlen:∀c∈lc,r<c.length)(hne:∀z∈ds,z≠.ref Da)(hzn:∀z∈zs,z≠.ref Da)(hla:la≠Da)(hLD:L≠Da)
  (nx:∀Fa fs ds' H',H' Fa=some (.lst fs)->ColsA H' fs (lead::lc.filter (nzB r))->H' Da=some (.lst ds')->ColsA H' ds' (Dc++lc.filter (zrB r))->(∀z∈fs++ds',z≠.ref Da)->Fa≠Da->(∀c o,H c=some o->c≠Da->H' c=some o)->H Fa=none->D.nx [v0,some (.int (r:Int)),some (.ref Fa),some (.ref Da),some (.ref la),some (.ref L)] H'):
  (ldL3 T CK CN hr).1 D [v0,some (.int (r:Int)),v2,some (.ref Da),some (.ref la),some (.ref L)] H:=by
 refine⟨_,rfl,by show (1:Nat)<=_;decide,λq1 H1 d1 e1 n1=>?_⟩
 refine⟨_,rfl,L,rfl,⟨_,SqL.of (e1 _ _ hL)⟩,jC6 (nzB r) (τ:=[some (.int (r:Int))]) rfl (e1 _ _ hL) (hz.ext e1) (by lia) (λu c H' Q' hc hm q'=>?_) λD2 fs H2 d2 hc2 e2 n2 sub=>?_⟩
 .obtain⟨a,rfl,ha⟩:=hc
  refine⟨_,rfl,_,rfl,a,_,_,_,rfl,rfl,SqL.of ha,qL (hlen c hm),rfl,_,rfl,?_⟩
  rw[nzT]
  exact q'
 .have E2:=e1.trans e2
  have fl:fs.length<=40:=by
   have:=All2.len hc2
   have h1:=All2.len hz
   have:=bW (nzB r) lc
   lia
  refine⟨q1,D2,_,fs,rfl,rfl,e2 _ _ d1,d2,by rw[ar];show 1+_<=_;lia,λF3 H3 d3 e3 n3=>?_⟩
  have E3:=E2.trans e3
  refine⟨_,rfl,.inl ⟨rfl,_,SqL.of (E3 _ _ hD)⟩,_,rfl,L,rfl,⟨_,SqL.of (E3 _ _ hL)⟩,jC6 (zrB r) (τ:=[some (.int (r:Int))]) rfl (E3 _ _ hL) (hz.ext E3) (by lia) (λu c H' Q' hc hm q'=>?_) λD4 gs H4 d4 hc4 e4 n4 sub4=>?_⟩
  .obtain⟨a,rfl,ha⟩:=hc
   refine⟨_,rfl,_,rfl,a,_,_,_,rfl,rfl,SqL.of ha,qL (hlen c hm),rfl,_,rfl,?_⟩
   rw[zrT]
   exact q'
  .have E4:=E3.trans e4
   have gl:gs.length<=40:=by
    have:=All2.len hc4
    have h1:=All2.len hz
    have:=bW (zrB r) lc
    lia
   refine⟨Da,D4,ds,gs,rfl,rfl,E4 _ _ hD,d4,by rw[ar];lia,?_⟩
   have kk:∀c o,H4 c=some o->c≠Da->(L2.upd H4 Da (.lst (ds++gs))) c=some o:=λc o h n=>by rw[j7 n];exact h
   have FD:F3≠Da:=λz=>by rw[z,E2 _ _ hD] at n3;cases n3
   have up:∀{us:List V}{cs:List (List Int)},ColsA H4 us cs->(∀z∈us,z≠.ref Da)->ColsA (L2.upd H4 Da (.lst (ds++gs))) us cs:=λh hn=>All2.impM (λu hu c ⟨a,e,ha⟩=>⟨a,e,kk _ _ ha λz=>hn u hu (by rw[e,z])⟩) h
   have f1:∀z∈fs,z≠.ref Da:=λz hz'=>hzn z (sub z hz')
   have g1:∀z∈gs,z≠.ref Da:=λz hz'=>hzn z (sub4 z hz')
   refine nx F3 _ _ _ (kk _ _ (e4 _ _ d3) FD) ⟨⟨la,rfl,kk _ _ (E4 _ _ hlead) hla⟩,up (hc2.ext (e3.trans e4)) f1⟩ j5 (All2.append (up (hd.ext E4) hne) (up hc4 g1)) (λz hz'=>?_) FD (λc o h n=>kk _ _ (E4 _ _ h) n) (newOf E2 n3)
   rcases az.mp hz' with q|q
   .rcases ay.mp q with q|q
    .rw[q];exact λz=>hla (by cases z;rfl)
    .exact f1 z q
   .rcases az.mp q with q|q
    .exact hne z q
    .exact g1 z q
def cut1(u:V)(fs:List V):cutV (u::fs) (some 1) none=fs:=by
 unfold cutV HT.sIx
 simp
def jFX{y:Int}(h:y∈C):∃i,y=cA C i:=by
 obtain⟨i,hi,rfl⟩:=cm h
 exact⟨i,by unfold cA;rw[af,ag hi];rfl⟩
theorem jRD{Fa:Addr}{lead:List Int}{u0:V}{fs:List V}(hF:H Fa=some (.lst (u0::fs)))(hc:ColsA H fs rest)(fl:fs.length<=40)(hlead:H la=some (.lst (lead.map V.int)))(ll:lead.length=N)(rl:∀c∈rest,c.length=N)(hN:N<=60)(hrN:r<N)(l0:cA lead r≠0)(hb:∀c∈rest,(near (cA c r) (cA lead r)).natAbs<=2^(b+2))(hlb:∀i,(cA lead i).natAbs<=2^(3*b+2))(hbb:4*b+10<=134217000)(hD:H Da=some (.lst ds))(hd:ColsA H ds Dc)(dl:ds.length<=40)(hne:∀z∈ds,z≠.ref Da)(hla:la≠Da)
  (nx:∀Fa fs ds' H' v5,H' Fa=some (.lst fs)->ColsA H' fs (lead::(qN r lead rest).filter (nzB r))->H' Da=some (.lst ds')->ColsA H' ds' (Dc++(qN r lead rest).filter (zrB r))->(∀z∈fs++ds',z≠.ref Da)->Fa≠Da->(∀c o,H c=some o->c≠Da->H' c=some o)->H Fa=none->D.nx [v0,some (.int (r:Int)),some (.ref Fa),some (.ref Da),some (.ref la),v5] H'):
  (ldL2 T CK CN hr).1 D [v0,some (.int (r:Int)),some (.ref Fa),some (.ref Da),some (.ref la),v5] H:=by
 refine⟨_,rfl,_,rfl,?_⟩
 dsimp only[jEE]
 refine⟨Fa,_,rfl,SqL.of hF,λq1 n1=>?_⟩
 rw[cut1]
 have e1:Ext H (L2.upd H q1 (.lst fs)):=(Ext.refl _).new n1 _
 have d1:(L2.upd H q1 (.lst fs)) q1=some (.lst fs):=j5
 generalize L2.upd H q1 (.lst fs)=H1 at e1 d1
 refine⟨q1,rfl,⟨_,SqL.of d1⟩,jMF (λc=>tkf (near (cA c r) (cA lead r)) c lead) (τ:=[some (.int (r:Int)),some (.ref la)]) rfl d1 (hc.ext e1) (by lia) (λu c H' Q' hu hm e' q'=>?_) λD2 zs H2 d2 hz2 e2 n2 sub=>?_⟩
 .obtain⟨a,rfl,ha⟩:=hu
  have hl':=e' _ _ (e1 _ _ hlead)
  refine⟨_,rfl,_,rfl,_,rfl,a,_,_,_,rfl,rfl,SqL.of ha,qL (by rw[rl c hm];exact hrN),_,rfl,_,rfl,la,_,_,_,rfl,rfl,SqL.of hl',qL (by rw[ll];exact hrN),?_⟩
  refine⟨_,_,rfl,l0,?_⟩
  refine⟨_,rfl,a,la,_,c,lead,b+2,3*b+2,rfl,ha,hl',by rw[rl c hm];lia,hb c hm,λy hy=>?_,by lia,λr2 H3 d3 e3 n3=>q' r2 H3 d3 e3 n3⟩
  obtain⟨i,rfl⟩:=jFX hy
  exact hlb i
 .have E2:=e1.trans e2
  have el:=All2.len hz2
  rw[aa] at el
  have cl:=All2.len hc
  refine jRC T CK CN hr d2 hz2 (by lia) (E2 _ _ hlead) (E2 _ _ hD) (hd.ext E2) dl (λc hc'=>?_) hne (λz hz'=>?_) hla (λz=>by rw[z,e1 _ _ hD] at n2;cases n2) λFa' fs' ds' H' a1 a2 a3 a4 a5 a6 a7 a8=>nx Fa' fs' ds' H' _ a1 a2 a3 a4 a5 a6 (λc o h n=>a7 _ _ (E2 _ _ h) n) (newOf E2 a8)
  .obtain⟨x,hx,rfl⟩:=aQ.mp hc'
   rw[jGW (rl x hx) ll]
   exact hrN
  .obtain⟨q,rfl,hq⟩:=sub z hz'
   exact λz=>by cases z;rw[e1 _ _ hD] at hq;cases hq
theorem LInv.row(h:LInv r (2^b) F Dc m)(l:Led N r cs F Dc):∀c∈F,(cA c r).natAbs<=2*2^b:=λc cF=>by
 have p1:=jD1 b
 rcases h with ⟨_,h⟩|⟨lead0,rest0,X,rfl,rfl,hr,hX,hb⟩
 .have:=h c (aE _ cF) r
  lia
 .have le0:(cA c r).natAbs<=(cA lead0 r).natAbs:=by
   rcases ay.mp cF with rfl|q
   .exact ak _
   .have:=hr c q;lia
  have xe:(cA lead0 r).natAbs<=X:=hX lead0 (by simp) r
  refine aY le0 ?_
  generalize (cA lead0 r).natAbs=e at*
  generalize 2^b=A at*
  refine Nat.le_of_not_lt λhlt=>?_
  have a1:(2*A)*((2*A)*(2*A))<=X*(e*e):=cj (by lia) (cj (by lia) (by lia))
  have a2:(2*A)*((2*A)*(2*A))=8*(A*(A*A)):=by grind
  have a3:1*(1*1)<=A*(A*A):=cj p1 (cj p1 p1)
  lia
theorem jR7{lead:List Int}(h:LInv r (2^b) F Dc m)(l:Led N r cs F Dc)(hp:(lead::rest).Perm F):∀c∈rest,(near (cA c r) (cA lead r)).natAbs<=2^(b+2):=λc hc=>by
 have hm:∀c,c∈lead::rest↔c∈F:=λc=>hp.mem_iff
 have h0:=l.fz lead ((hm lead).mp (au ..))
 have h1:=h.row l lead ((hm lead).mp (au ..))
 have h2:=h.row l c ((hm c).mp (av _ hc))
 have hn:=(jHD (cA c r) (cA lead r) h0).2
 have d1:1<=(cA lead r).natAbs:=by lia
 have t1:(near (cA c r) (cA lead r)).natAbs*1<=(near (cA c r) (cA lead r)).natAbs*(cA lead r).natAbs:=bN _ d1
 rw[kq,kq]
 lia
theorem lex1{i j:Int}(h:HT.lexLt [i] [j]=false):j<=i:=by
 rw[HT.lexLt_cons] at h
 split at h
 .lia
 .have:=eg h
  lia
theorem jK6{Fa:Addr}{fs:List V}{Fc:List (List Int)}{v4:Option V}(hF:H Fa=some (.lst fs))(hc:ColsA H fs Fc)(hD:H Da=some (.lst ds))(hd:ColsA H ds Dc)(l:Led N r cs Fc Dc)(li:LInv r (2^b) Fc Dc m)(cl:cs.length<=40)(hN:N<=60)(hrN:r<N)(hbb:4*b+10<=134217000)(hne:∀z∈fs++ds,z≠.ref Da)(FD:Fa≠Da)(tab:TabL H tb)(two:1<fs.length)
  (nx:∀m' Fa' fs' ds' Fc' Dc' H' v4 v5,m'<m->H' Fa'=some (.lst fs')->ColsA H' fs' Fc'->H' Da=some (.lst ds')->ColsA H' ds' Dc'->Led N r cs Fc' Dc'->LInv r (2^b) Fc' Dc' m'->(∀z∈fs'++ds',z≠.ref Da)->Fa'≠Da->TabL H' tb->(∀c o,H c=some o->c≠Da->c≠tb->H' c=some o)->H Fa'=none->D.nx [v0,some (.int (r:Int)),some (.ref Fa'),some (.ref Da),v4,v5] H'):
  (ldL T CH BM CK CN hr).1 D [v0,some (.int (r:Int)),some (.ref Fa),some (.ref Da),v4,v5] H:=by
 have nt:∀{c:Addr}{xs:List V},H c=some (.lst xs)->c≠tb:=λ{c xs} h z=>by
  rcases tab with q|⟨_,q,_⟩<;>(rw[z,q] at h;cases h)
 refine⟨_,rfl,tab,λq1 c1 H5 k1 k2 k3 e5 n5=>?_⟩
 have tab5:TabL H5 tb:=.inr ⟨c1,k3,k2⟩
 have up5:∀{us:List V}{cs:List (List Int)},ColsA H us cs->ColsA H5 us cs:=λh=>h.imp λu c ⟨a,e,ha⟩=>⟨a,e,e5 _ _ ha (nt ha)⟩
 have hF5:=e5 _ _ hF (nt hF)
 have hD5:=e5 _ _ hD (nt hD)
 have hc5:=up5 hc
 have hd5:=up5 hd
 obtain⟨bk1,bk2⟩:=hc5.back
 have fl:=All2.len hc
 have dl:=All2.len hd
 have cnt:=l.cnt
 have inF:∀v∈fs,colV H5 v∈Fc:=λv hv=>by rw[<- bk1];exact bv hv
 refine⟨Fa,fs,q1,c1,λv=>[absI (cA (colV H5 v) r)],⟨(r:Int)⟩,rfl,rfl,rfl,SqL.of hF5,⟨k1,k2⟩,λv hv=>let ⟨a,e,_⟩:=bk2 v hv;⟨a,e⟩,λv hv H6 Q6 e6 k6=>?_,λF6 us' H6 nl pm pw e6 d6=>?_⟩
 .exact⟨v,colV H5 v,r,rfl,(bk2 v hv).ext e6,rfl,by rw[l.len _ (aE _ (inF v hv))];exact hrN,k6 _ _ ⟨_,rfl,rfl⟩ (Ext.refl _)⟩
 .have ul:=pm.length_eq
  obtain⟨u0,rest',rfl⟩:∃u0 rest',us'=u0::rest':=by
   cases us' with
   |nil=>simp at ul;lia
   |cons a b=>exact⟨a,b,rfl⟩
  have mem':∀v∈u0::rest',v∈fs:=λv hv=>pm.mem_iff.mp hv
  obtain⟨la,rfl,hla⟩:=bk2 u0 (mem' _ (au ..))
  have pmc:(colV H5 (.ref la)::rest'.map (colV H5)).Perm Fc:=by
   have:=pm.map (colV H5)
   rw[bk1] at this
   exact this
  generalize hlead:colV H5 (.ref la)=lead at hla pmc
  have lF:lead∈Fc:=pmc.mem_iff.mp (au ..)
  have hmin:∀c∈rest'.map (colV H5),(cA lead r).natAbs<=(cA c r).natAbs:=λc hc'=>by
   obtain⟨v,hv,rfl⟩:=aQ.mp hc'
   have:=lex1 ((gW.mp pw).1 v hv)
   rw[hlead,jJ6,jJ6] at this
   lia
  have rne:rest'.map (colV H5)≠[]:=λz=>by
   have:=bB List.length z
   simp at this
   rw[this] at ul
   simp at ul
   lia
  obtain⟨li',lt'⟩:=li.step l pmc hmin rne
  have l':=l.step pmc
  have hla6:=e6 _ _ hla
  have hD6:=e6 _ _ hD5
  have hc6:ColsA H6 rest' (rest'.map (colV H5)):=ColsA.ext (ColsA.of λv hv=>bk2 v (mem' v (av _ hv))) e6
  have lD:la≠Da:=λz=>hne (.ref la) (aE _ (mem' _ (au ..))) (by rw[z])
  rw[aV] at ul
  refine⟨_,rfl,F6,_,0,.ref la,rfl,rfl,SqL.of d6,yF (xs:=V.ref la::rest') (j:=0) rfl,?_⟩
  refine jRD T CK CN hr d6 hc6 (by lia) hla6 (l.len lead (aE _ lF)) (λc hc'=>l.len c (aE _ (pmc.mem_iff.mp (av _ hc')))) hN hrN (l.fz lead lF) (jR7 li l pmc) (λi=>aY (li.big l (jD1 b) lead (aE _ lF) i) (jIB b)) hbb hD6 (hd5.ext e6) (by lia) (λz hz=>hne z (am _ hz)) lD λFa' fs' ds' H' v5 a1 a2 a3 a4 a5 a6 a7 a8=>?_
  refine nx _ Fa' fs' ds' _ _ H' _ _ lt' a1 a2 a3 a4 l' li' a5 a6 ?_ (λc o h n1 n2=>a7 _ _ (e6 _ _ (e5 _ _ h n2)) n1) ?_
  case refine_2=>
   cases hz:H Fa' with
   |none=>rfl
   |some o=>
    by_cases z:Fa'=tb
    .rw[z] at a8
     rcases tab5 with q|⟨c,q,q'⟩<;>(rw[e6 _ _ q] at a8;cases a8)
    .rw[e6 _ _ (e5 _ _ hz z)] at a8;cases a8
  rcases tab5 with q|⟨c,q,q'⟩
  .exact .inl (a7 _ _ (e6 _ _ q) λz=>by rw[z,hD5] at q;cases q)
  .exact .inr ⟨c,a7 _ _ (e6 _ _ q) (λz=>by rw[z,hD5] at q;cases q),a7 _ _ (e6 _ _ q') λz=>by rw[z,hD5] at q';cases q'⟩
end
theorem jT5(F:FunC K "led_by_one" "led_by_one" sLed f fd c0)(T:Txt mg)(CH:PySem.W.CodeHd base c0 tb)(BM:BltAt base mg)(CK:Can P w K mg base "taken_off" 1 fK fdK ["column","times","other"] jDE)(CN:Can P w K mg base "nearest_times" 33 fN fdN ["entry","divisor"] jI5):FnOk P w K mg base CX0 34 f fd ["columns","row"] (spLed tb):=by
 refine F.ok scLed (λvs H Q E h=>?_) (λA outer s H vs Q E hr h=>?_)
 .obtain⟨_,_,_,_,_,_,rfl,_⟩:=h
  rfl
 .obtain⟨la,r,N,b,us,cs,rfl,hl,hc,ul,hN,N60,hrN,hB,hbb,tab,q⟩:=h
  have cl:=All2.len hc
  refine⟨_,(ldA T CH BM CK CN hr).2.h,?_⟩
  have tst:∀(p:List Int->Bool) (rel:List Int->Bool),True:=λ_ _=>trivial
  refine⟨_,rfl,la,rfl,⟨_,SqL.of hl⟩,jC6 (nzB r) (τ:=[some (.int (r:Int))]) rfl hl hc (by lia) (λu c H' Q' hc' hm q'=>?_) λF1 fs H1 d1 hc1 e1 n1 sub1=>?_⟩
  .obtain⟨a,rfl,ha⟩:=hc'
   refine⟨_,rfl,_,rfl,a,_,_,_,rfl,rfl,SqL.of ha,qL (by rw[hN c hm];exact hrN),rfl,_,rfl,?_⟩
   rw[nzT]
   exact q'
  .refine⟨_,rfl,la,rfl,⟨_,SqL.of (e1 _ _ hl)⟩,jC6 (zrB r) (τ:=[some (.int (r:Int))]) rfl (e1 _ _ hl) (hc.ext e1) (by lia) (λu c H' Q' hc' hm q'=>?_) λD1 ds H2 d2 hc2 e2 n2 sub2=>?_⟩
   .obtain⟨a,rfl,ha⟩:=hc'
    refine⟨_,rfl,_,rfl,a,_,_,_,rfl,rfl,SqL.of ha,qL (by rw[hN c hm];exact hrN),rfl,_,rfl,?_⟩
    rw[zrT]
    exact q'
   .have E2:=e1.trans e2
    have nD:H D1=none:=newOf e1 n2
    have notD:∀z∈us,z≠.ref D1:=λz hz e=>by
     obtain⟨i,hi⟩:=cg hz
     obtain⟨c,_,a,rfl,ha⟩:=All2.get' hc hi
     cases e
     rw[nD] at ha;cases ha
    refine⟨λm σ H'=>∃Fa fs ds Fc Dc v4 v5,σ=[some (.ref la),some (.int (r:Int)),some (.ref Fa),some (.ref D1),v4,v5]/\H' Fa=some (.lst fs)/\ColsA H' fs Fc/\H' D1=some (.lst ds)/\ColsA H' ds Dc/\Led N r cs Fc Dc/\LInv r (2^b) Fc Dc m/\(∀z∈fs++ds,z≠.ref D1)/\Fa≠D1/\TabL H' tb/\H Fa=none/\∀c o,H c=some o->c≠tb->H' c=some o,⟨2^b+1,F1,fs,ds,_,_,_,_,rfl,e2 _ _ d1,hc1.ext e2,d2,hc2,Led.first hN,.inl ⟨rfl,λc hc'=>hB c (mem_parts.mp hc')⟩,λz hz=>?_,λz=>(by rw[z,n2] at d1;cases d1),tab.ext E2,n1,λc o h _=>E2 _ _ h⟩,?_⟩
    .rcases az.mp hz with z'|z'
     .exact notD z (sub1 z z')
     .exact notD z (sub2 z z')
    .rintro m σ H3 ⟨Fa,fs,ds,Fc,Dc,v4,v5,rfl,hF,hcF,hD,hcD,led,linv,hne,FD,tab3,nF,kp⟩
     have l1:=All2.len hcF
     have l2:=led.cnt
     refine⟨_,rfl,Fa,_,rfl,.inl (SqL.of hF),_,_,rfl,rfl,_,rfl,ite2 (λh=>?_) (λh=>?_)⟩
     .have h:(1:Int)<fs.length:=aG h
      refine⟨λσ' H'=>∃m',m'<m/\∃Fa fs ds Fc Dc v4 v5,σ'=[some (.ref la),some (.int (r:Int)),some (.ref Fa),some (.ref D1),v4,v5]/\H' Fa=some (.lst fs)/\ColsA H' fs Fc/\H' D1=some (.lst ds)/\ColsA H' ds Dc/\Led N r cs Fc Dc/\LInv r (2^b) Fc Dc m'/\(∀z∈fs++ds,z≠.ref D1)/\Fa≠D1/\TabL H' tb/\H Fa=none/\∀c o,H c=some o->c≠tb->H' c=some o,λσ' H' ⟨m',a,b⟩=>⟨m',a,b⟩,?_⟩
      refine jK6 T CH BM CK CN hr hF hcF hD hcD led linv (by lia) N60 hrN hbb hne FD tab3 (by lia) λm' Fa' fs' ds' Fc' Dc' H4 v4 v5 a0 a1 a2 a3 a4 a5 a6 a7 a8 a9 aA aB=>⟨m',a0,Fa',fs',ds',Fc',Dc',v4,v5,rfl,a1,a2,a3,a4,a5,a6,a7,a8,a9,?_,λc o h n=>aA _ _ (kp _ _ h n) (λz=>by rw[z,nD] at h;cases h) n⟩
      cases hz:H Fa' with
      |none=>rfl
      |some o=>
       by_cases z:Fa'=tb
       .rw[z] at aB
        rcases tab3 with q|⟨c,q,q'⟩<;>(rw[q] at aB;cases aB)
       .rw[kp _ _ hz z] at aB;cases aB
     .have h:¬(1:Int)<fs.length:=λz=>h (ax z)
      refine⟨_,rfl,_,rfl,by show (2:Nat)<=_;decide,λt H4 d4 e4=>?_⟩
      exact q t Fa D1 fs ds Fc Dc H4 d4 (e4 _ _ hF) (hcF.ext e4) (e4 _ _ hD) (hcD.ext e4) led (by lia) (linv.big led (jD1 b)).up (λc o h n=>e4 _ _ (kp _ _ h n)) (tab3.ext e4) nF nD
end
end Eo
namespace L2
open PySem
def jKE{x:Str}{pos:Pos}{o:Option Expr}:SwOk (.Name x pos) o:=⟨λ_ _=>rfl⟩
end L2
namespace Eo
open PySem L2
variable {n p:Nat}{fd:FuncData}{H H':Hp}{ys t ms:List Int}{lk:Int->Int}{kvs:List (Key×V)}{l:List (List Int×Int)}{L:List (Nat×List Int)}{v7 v6 v2 v8 v1 v0:Option V}{D:Ends}{la q c b ta qp qm nl:Addr}{xs lvs:List V}
theorem jHW(i:Int):(if i<0 then -i else i)=((i.natAbs:Nat):Int):=by split<;>lia
noncomputable abbrev nGcd:List Str:=["one","other","rest"]
def scGcd:FnScope nGcd ["one","other"] (jB sGcd):= {}
def spGcd:Sp:=λvs H Q _=>∃a b:Nat,vs=[.int (a:Int),.int (b:Int)]/\Q (.int ((Nat.gcd a b:Nat):Int)) H
def gcdA: {t:TS // JSs (XOf nGcd "common_divisor" sGcd P w K mg base f cdv A outer s H0 E) (jE sGcd) t}:=
 have nd:=scGcd.nd
 ⟨_,(jA (jD7 br (jM qS (jv 1 rfl vL) (j9) (jT _)) (jA (jL (i:=2) nd rfl lL (jW qK (jv 0 rfl vL) (jv 1 rfl vL)) jBP)
   (jA (jL (i:=0) nd rfl lL (jv 1 rfl vL) jKE)
   (jC (jL (i:=1) nd rfl lL (jv 2 rfl vL) jKE)))))
   (jC (kD (jv 0 rfl vL))))⟩
theorem jT7(F:Fun K "common_divisor" "common_divisor" sGcd f fd):FnOk P w K mg base CX0 1 f fd ["one","other"] spGcd:=by
 refine F.ok scGcd (λvs H Q E h=>?_) (λcdv A outer s H vs Q E hr h=>?_)
 .obtain⟨_,_,rfl,_⟩:=h
  rfl
 .obtain⟨a,b,rfl,q⟩:=h
  refine⟨_,gcdA.2.h,?_⟩
  refine⟨λm σ H'=>∃(a' b':Nat) (v2:Option V),σ=[some (.int (a':Int)),some (.int (b':Int)),v2]/\H'=H/\Nat.gcd a' b'=Nat.gcd a b/\m=b',⟨b,a,b,none,rfl,rfl,rfl,rfl⟩,?_⟩
  rintro m σ H' ⟨a',b',v2,rfl,rfl,hg,rfl⟩
  refine⟨_,rfl,rfl,_,rfl,?_⟩
  by_cases hb:m=0
  .subst hb
   refine iteNS rfl ⟨_,rfl,?_⟩
   rw[Nat.gcd_zero_right] at hg
   rw[hg]
   exact q
  .have hne:¬V.int (m:Int)=V.int 0:=λe=>hb (by have:=V.int.inj e;lia)
   refine iteT' (by rw[aN hne];rfl) ⟨λσ' H'=>∃(a' b':Nat) (v2:Option V),σ'=[some (.int (a':Int)),some (.int (b':Int)),v2]/\H'=_/\Nat.gcd a' b'=Nat.gcd a b/\b'<m,λσ' H' ⟨a',b',v2,e1,e2,e3,e4⟩=>⟨b',e4,a',b',v2,e1,e2,e3,rfl⟩,?_⟩
   refine⟨_,rfl,_,rfl,_,_,rfl,rfl,(by show (0:Int)<(m:Int);lia),_,rfl,_,rfl,?_⟩
   refine⟨m,a'%m,some (.int ((a'%m:Nat):Int)),?_,rfl,?_,Nat.mod_lt _ (by lia)⟩
   .show [some (V.int (m:Int)),some (V.int ((a':Int)%(m:Int))),some (V.int ((a':Int)%(m:Int)))]=_
    rw[Int.natCast_emod]
   .rw[Nat.gcd_comm m,<- Nat.gcd_rec,Nat.gcd_comm,hg]
def LeadA(H:Hp)(v:V)(pc:Nat×List Int):Prop:=∃a q,v=.ref a/\H a=some (.tup [.int (pc.1:Int),.ref q])/\H q=some (.lst (pc.2.map V.int))
theorem jRW{C:List Int}(hy:ys.length=n)(hC:n<=C.length):(zipWith (λx y=>x*y) ys C).sum=Lf n (cA ys) C:=by
 have key:∀q,q<=n->((zipWith (λx y=>x*y) ys C).take q).sum=sxS q λj=>cA ys j*cA C j:=by
  intro q
  induction q with
  |zero=>intro _;rfl
  |succ q ih=>
   intro hq
   have h1:(zipWith (λx y=>x*y) ys C)[q]?=some (cA ys q*cA C q):=by
    rw[fX,ag (by lia),ag (by lia)]
    unfold cA
    rw[af,af,ag (by lia),ag (by lia)]
    rfl
   rw[aX,h1,eE,ih (by lia)]
   show _=sxS q _+_
   simp
 have:=key n (ak _)
 rwa [bf (by rw[gG];lia)] at this
theorem NI.first{row:Nat}(hL:∀pc∈L,pc.1<row)(hr:row<n):NI n row [] L ((List.range n).map λo=>if o=row then (1:Int) else 0):=by
 have e:∀i,cA ((List.range n).map λo=>if o=row then (1:Int) else 0) i=if i=row then 1 else 0:=λi=>by
  by_cases h:i<n
  .rw[jMS _ _ 0 (by rw[bI];exact h),af,dW h]
   rfl
  .rw[jPQ (by rw[aa,bI];lia),aj (by lia)]
 refine⟨by rw[aa,bI],λj hj=>(by rw[e,aj (by lia)]),(by rw[e,ai rfl];decide),(λpc h=>by cases h),(λpc h=>by rw[e,aj (by have:=hL pc h;lia)]),λi=>?_⟩
 rw[e]
 split<;>decide
noncomputable abbrev nNums:List Str:=["musts","row","leads","numbers","place","column","rest","divisor"]
def scNums:FnScope nNums ["musts","row","leads"] (jB qY):= {}
abbrev XNu(P:Program)(w:World)(K:W.Frag)(mg:Str->Option Value)(base:Heap)(f:Addr)(cdv:Value)(A:Around)(outer:List Env)(s:Shared)(H:Hp)(E:XK):Cx:=XOf nNums "numbers_of_row" qY P w K mg base f cdv A outer s H E
section
variable (T:Txt mg)(CG:Can P w K mg base "common_divisor" 1 fG fdG ["one","other"] spGcd)(PY:Pyl (XNu P w K mg base f cdv A outer s H0 E))(hr:Room 32 (XNu P w K mg base f cdv A outer s H0 E).A)
def nuL: {t:TS // JSs (XNu P w K mg base f cdv A outer s H0 E) (qH ((jE qY).getD 1 (.Pass ⟨0,0,0,0⟩))) t}:=
 have nd:=scNums.nd
 have _h0:=T;have _h:=CG;have _h1:=PY;have _h2:=hr
 ⟨_,(jA (jL (i:=6) nd rfl lL (jF (jAA rfl) gD T.sum (by decide+kernel) (j3 (kJ (m:=[none,none]) (Nc:=["number","entry"]) rfl (jIM gD T.zip (j3 (jv 3 rfl vL) (j3 (jv 5 rfl vC) j6 j4) j4) j4) rfl (by decide+kernel) (by decide+kernel) (jQ (psc:=jB qY)) (jH (N:=nNums) rfl rfl (by decide+kernel)) (λcl C fp s H=>jDO (i:=0) (j:=1) rfl (show (["number","entry"]:List Str).Nodup by decide+kernel) rfl rfl (by decide+kernel) (by decide+kernel)) (λcl C fp s H=>kO) (λcl C fp s H=>(jW jEQ (jv 0 rfl jV) (jv 1 rfl jV))) kQ) j6 jP) jP) jZ)
   (jA (jL (i:=7) nd rfl qI (CG.je (hr.mono (by decide)) gD (j3 (jF jD8 gD T.abs (by decide+kernel) (j3 (jv 6 rfl vL) j6 j4) j4) (j3 (jF jD8 gD T.abs (by decide+kernel) (j3 (jK kX (jv 5 rfl vC) (jv 4 rfl vC) kN) j6 jR) jR) j6 jG) jG) jG) jZ)
   (jA (jBK (i:=3) nd rfl lL ⟨by rfl⟩ (m:=[none,some 5,some 4,some 7]) (Nc:=["number","column","place","divisor"]) rfl (yK (jv 3 rfl vL)) rfl (by decide+kernel) (by decide+kernel) (jQ (psc:=jB qY)) (jH (N:=nNums) rfl rfl (by decide+kernel)) (λcl C fp s H=>jJ (i:=0) (show (["number","column","place","divisor"]:List Str).Nodup by decide+kernel) rfl yG) (λcl C fp s H=>kO) (λcl C fp s H=>(jW jEQ (jv 0 rfl jV) (jW (jD2 (Pyl.blk PY)) (jK yN (jv 1 rfl jX) (jv 2 rfl jX) kN) (jv 3 rfl jX)))) yM)
   (jC (jIL (jW (jD2 PY) (je_un jOZ (jv 6 rfl vL)) (jv 7 rfl vC)) (jLP (jv 3 rfl vL) (jv 4 rfl vC) jCZ))))))⟩
def nuA: {t:TS // JSs (XNu P w K mg base f cdv A outer s H0 E) (jE qY) t}:=
 have nd:=scNums.nd
 ⟨_,(jA (jBK (i:=3) nd rfl lL ⟨by rfl⟩ (m:=[none,some 1]) (Nc:=["place","row"]) rfl (kY gD T.range (j3 (jF jN gD T.len (by decide+kernel) (j3 (jv 0 rfl vL) j6 j4) j4) j6 jG) jG) rfl (by decide+kernel) (by decide+kernel) (jQ (psc:=jB qY)) (jH (N:=nNums) rfl rfl (by decide+kernel)) (λcl C fp s H=>jJ (i:=0) (show (["place","row"]:List Str).Nodup by decide+kernel) rfl yG) (λcl C fp s H=>kO) (λcl C fp s H=>(jG3 (jM qM (jv 0 rfl jV) (jv 1 rfl jX) (jT _)) (j9) (j9))) kQ) (jA (yZ br rfl (jTJ gD T.reversed (j3 (jv 2 rfl vL) j6 j4) j4) (jEY (i:=4) (j:=5) nd rfl rfl qI qI) (nuL T CG PY hr).2 kQ) (jC (kD (jv 3 rfl vL)))))⟩
theorem jO8{N:Nat}{row:Nat}{S R:List (Nat×List Int)}{c:List Int}(hn:H nl=some (.lst (ys.map V.int)))(hq:H q=some (.lst (c.map V.int)))(cl:c.length=N)(hN:N<=60)(nN:n<=N)(ni:NI n row S (R++[(p,c)]) ys)(hrow:row<n)(hn16:n<=16)(hp:p<row)(hc:cA c p≠0)(srt:((R++[(p,c)]++S).map Prod.fst).Pairwise (· < ·))(hz:∀pc∈S,∀j,j<pc.1->cA pc.2 j=0)
  (hb:∀i,(cA c i).natAbs<=2^bR (p+1)) (big:zsL S+bR (p+1)+4<=60000000)
  (nx:∀nl' ys' H' v6 v7,H' nl'=some (.lst (ys'.map V.int))->NI n row ((p,c)::S) R ys'->Ext H H'->H nl'=none->D.nx [v0,v1,v2,some (.ref nl'),some (.int (p:Int)),some (.ref q),v6,v7] H'):
  (nuL T CG PY hr).1 D [v0,v1,v2,some (.ref nl),some (.int (p:Int)),some (.ref q),v6,v7] H:=by
 have yl:=ni.len
 refine⟨_,rfl,_,rfl,false,false,nl,q,rfl,⟨_,SqL.of hn⟩,⟨_,SqL.of hq⟩,jMD (τ:=[]) (λx y=>x*y) rfl hn hq (by lia) (λx y H' Q' hx hy q'=>?_) λD1 H1 d1 e1 n1=>?_⟩
 .obtain⟨i,rfl⟩:=jFX hx
  obtain⟨j,rfl⟩:=jFX hy
  exact⟨_,rfl,_,rfl,_,_,rfl,rfl,⟨zsL S,bR (p+1),ni.bnd i,hb j,by lia⟩,q'⟩
 .refine⟨D1,_,rfl,SqL.of d1,?_⟩
  rw[jRW yl (by lia)]
  have hq1:=e1 _ _ hq
  refine⟨_,rfl,_,rfl,?_⟩
  rw[jHW]
  refine⟨_,rfl,_,rfl,q,_,_,_,rfl,rfl,SqL.of hq1,qL (by lia),_,rfl,?_⟩
  rw[jHW]
  refine⟨_,_,rfl,?_⟩
  have g0:(0:Int)<((Nat.gcd (Lf n (cA ys) c).natAbs (cA c p).natAbs:Nat):Int):=by
   have:0<Nat.gcd (Lf n (cA ys) c).natAbs (cA c p).natAbs:=Nat.gcd_pos_of_pos_right _ (by lia)
   lia
  have g1:((Nat.gcd (Lf n (cA ys) c).natAbs (cA c p).natAbs:Nat):Int)∣Lf n (cA ys) c:=hV.mpr (Nat.gcd_dvd_left _ _)
  have g2:((Nat.gcd (Lf n (cA ys) c).natAbs (cA c p).natAbs:Nat):Int)∣cA c p:=hV.mpr (Nat.gcd_dvd_right _ _)
  generalize ((Nat.gcd (Lf n (cA ys) c).natAbs (cA c p).natAbs:Nat):Int)=g at g0 g1 g2
  obtain⟨_,st⟩:=ni.step hrow hn16 hp hc srt hz hb g0 g1 g2
  have qb:Bt (bR (p+1)) ((cA c p).fdiv g):=by
   have x1:(cA c p).fdiv g*g=cA c p:=eY g2
   have h1:=hb p
   have h2:((cA c p).fdiv g).natAbs*1<=((cA c p).fdiv g).natAbs*g.natAbs:=bN _ (by lia)
   rw[<- df,x1,Nat.mul_one] at h2
   exact aY h2 h1
  refine⟨_,rfl,nl,rfl,⟨_,SqL.of (e1 _ _ hn)⟩,jC5 (xs:=ys.map V.int) (λσ=>∃v,σ=[v,some (.ref q),some (.int (p:Int)),some (.int g)]) (mapZ ys λx=>V.int (x*(cA c p).fdiv g)) (mapZ.ok _ _) (e1 _ _ hn) (by rw[aa,ar];lia) ⟨_,rfl⟩ ?_ ?_⟩
  .rintro j x σ' H2 zs hx ⟨v,rfl⟩ e2 hz2 S1 S2 y1 n2
   obtain⟨x,hx',rfl⟩:=int_at hx
   dsimp only[kI,yH]
   rw[ai rfl]
   obtain⟨i,ei⟩:=jFX (aH hx')
   refine⟨_,rfl,_,rfl,_,rfl,q,_,_,_,rfl,rfl,SqL.of (e2 _ _ hq1),qL (by lia),_,rfl,_,_,rfl,rfl,(by lia),_,_,rfl,rfl,⟨zsL S,bR (p+1),by rw[ei];exact ni.bnd i,qb,by lia⟩,?_⟩
   exact y1 _ _ _ ⟨_,rfl⟩ (Ext.refl _) (hz2.yes hx')
  .rintro D2 H2 zs h2 e2 n2 hz2
   have hz2:=hz2.all (by rw[aa];exact ak _)
   have e0:zs=(ys.map λx=>x*(cA c p).fdiv g).map V.int:=by rw[hz2,b8];rfl
   rw[e0] at h2
   refine⟨_,rfl,_,rfl,_,rfl,_,_,rfl,rfl,(by lia),_,rfl,_,rfl,D2,_,_,p,rfl,rfl,h2,?_,?_⟩
   .unfold ixN
    rw[ai (by lia),ai (by rw[aa,aa];lia)]
    rfl
   .rw[<- map_set]
    refine nx D2 _ _ _ _ j5 st (λb o h=>?_) (newOf e1 n2)
    rw[j7 (λz=>by rw[z,newOf e1 n2] at h;cases h)]
    exact e2 _ _ (e1 _ _ h)
end
structure LeadsOk (n N row:Nat)(L:List (Nat×List Int)):Prop where
 len:∀pc∈L,pc.2.length=N
 at_:∀pc∈L,pc.1<row/\cA pc.2 pc.1≠0/\∀j,j<pc.1->cA pc.2 j=0
 srt:(L.map Prod.fst).Pairwise (· < ·)
 bl:∀pc∈L,∀i,(cA pc.2 i).natAbs<=2^bR (pc.1+1)
 bz:zsL L<=50000000
def jK0(L L':List (Nat×List Int)):zsL (L++L')=zsL L+zsL L':=by unfold zsL;rw[aC,eE]
def jI4:Sp:=λvs H Q _=>∃(m la:Addr) (n N row:Nat) (mu:List Int) (lvs:List V) (L:List (Nat×List Int)),vs=[.ref m,.int (row:Int),.ref la]/\H m=some (.lst (mu.map V.int))/\mu.length=n/\H la=some (.lst lvs)/\All2 (LeadA H) lvs L/\lvs.length<=16/\row<n/\n<=16/\n<=N/\N<=60/\LeadsOk n N row L/\∀l ys H',H' l=some (.lst (ys.map V.int))->NI n row L [] ys->Ext H H'->H l=none->Q (.ref l) H'
theorem jQZ(F:Fun K "numbers_of_row" "numbers_of_row" qY f fd)(T:Txt mg)(S:SeerK P K mg)(CG:Can P w K mg base "common_divisor" 1 fG fdG ["one","other"] spGcd):FnOk P w K mg base CX0 33 f fd ["musts","row","leads"] jI4:=by
 refine F.ok scNums (λvs H Q E h=>?_) (λcdv A outer s H vs Q E hr h=>?_)
 .obtain⟨_,_,_,_,_,_,_,_,rfl,_⟩:=h
  rfl
 .obtain⟨m,la,n,N,row,mu,lvs,L,rfl,hm,ml,hla,hL,ll,hrow,n16,nN,hN,ok,k⟩:=h
  have PY:=pylOf (f:=f) (cdv:=cdv) (A:=A) (outer:=outer) (s:=s) (H0:=H) (E:=E) (N:=nNums) (q:= "numbers_of_row") (st:=qY) (w:=w) (base:=base) S hr rfl rfl
  have le:=All2.len hL
  refine⟨_,(nuA T CG PY hr).2.h,?_⟩
  refine⟨_,rfl,m,_,rfl,.inl (SqL.of hm),(n:Int),by rw[aa,ml],?_,?_,jJ3 (n:=n) (λσ=>∃v,σ=[v,some (.int (row:Int))]) (mapZ (List.range n) λo=>V.int (if o=row then 1 else 0)) (mapZ.ok _ _) (by rw[ar];lia) ⟨_,rfl⟩ ?_ ?_⟩
  .lia
  .lia
  .rintro j σ' H1 zs hj ⟨v,rfl⟩ e1 hz S1 S2 y1 n1
   have e0:(0+(j:Int))=(j:Int):=by lia
   rw[e0]
   dsimp only[kI,yH]
   rw[ai rfl]
   have hjr:(List.range n)[j]?=some j:=dW hj
   refine⟨_,rfl,_,rfl,rfl,_,rfl,ite2 (λh=>?_) (λh=>?_)⟩
   .have h:j=row:=by have:=V.int.inj (aG h);lia
    exact y1 _ _ _ ⟨_,rfl⟩ (Ext.refl _) (hz.yesV hjr (bB V.int (ai h)))
   .have h:j≠row:=λz=>h (ax (by rw[z]))
    exact y1 _ _ _ ⟨_,rfl⟩ (Ext.refl _) (hz.yesV hjr (bB V.int (aj h)))
  .rintro D1 H1 zs h1 e1 n1 hz
   have hz:=hz.all (by rw[bI];exact ak _)
   have h1':H1 D1=some (.lst ((((List.range n).map λo=>if o=row then (1:Int) else 0)).map V.int)):=by rw[h1,hz,b8];rfl
   refine⟨_,rfl,la,lvs,rfl,SqL.of (e1 _ _ hla),jRS (xs:=lvs) (λi σ H'=>Ext H H'/\∃nl ys v4 v5 v6 v7,σ=[some (.ref m),some (.int (row:Int)),some (.ref la),some (.ref nl),v4,v5,v6,v7]/\H' nl=some (.lst (ys.map V.int))/\NI n row (L.drop (L.length-i)) (L.take (L.length-i)) ys/\H nl=none) ⟨e1,D1,_,_,_,_,_,rfl,h1',?_,n1⟩ (λi σ H' _ ⟨e,_⟩=>SqL.of (e _ _ hla)) ?_ ?_⟩
   .rw[kn,List.drop_length,bH]
    exact NI.first (λpc h=>(ok.at_ pc h).1) hrow
   .rintro i x σ H2 hi hx ⟨e2,nl,ys,v4,v5,v6,v7,rfl,hn,ni,nn⟩
    obtain⟨pc,hpc,a,q,rfl,ha,hq⟩:=All2.get' hL hx
    rw[le] at hpc hi
    obtain⟨j,hj⟩:∃j,L.length-i=j+1:=⟨L.length-i-1,by lia⟩
    have ej:L.length-1-i=j:=by lia
    have ej1:L.length-(i+1)=j:=by lia
    rw[ej] at hpc
    have mem:pc∈L:=aH hpc
    have tk:L.take (L.length-i)=L.take j++[pc]:=by rw[hj,aX,hpc];rfl
    have dr:L.drop (L.length-(i+1))=pc::L.drop (L.length-i):=by
     rw[ej1,hj]
     have hjl:j<L.length:=by lia
     rw[ie hjl]
     congr 1
     exact bj ((ag hjl).symm.trans hpc)
    have allL:L.take j++[pc]++L.drop (L.length-i)=L:=by rw[<- tk,bg]
    have zz:zsL L=zsL (L.take j)+(bR (pc.1+1)+4)+zsL (L.drop (L.length-i)):=by
     conv=>lhs;rw[<- allL]
     rw[jK0,jK0]
     rfl
    have bz:=ok.bz
    have ha2:=e2 _ _ ha
    refine⟨a,_,rfl,SqT.of ha2,rfl,_,_,rfl,_,_,rfl,rfl,?_⟩
    rw[tk] at ni
    obtain⟨p,c⟩:=pc
    refine jO8 T CG PY hr hn (e2 _ _ hq) (ok.len _ mem) hN nN ni hrow n16 (ok.at_ _ mem).1 (ok.at_ _ mem).2.1 (by rw[allL];exact ok.srt) (λpc h=>(ok.at_ pc (cw h)).2.2) (ok.bl _ mem) (by show zsL _+bR (p+1)+4<=_;have zz:zsL L=_+(bR (p+1)+4)+_:=zz;lia) λnl' ys' H3 v6 v7 h3 ni3 e3 n3=>⟨e2.trans e3,nl',ys',_,_,_,_,rfl,h3,?_,newOf e2 n3⟩
    rw[dr,ej1]
    exact ni3
   .rintro σ H2 ⟨e2,nl,ys,v4,v5,v6,v7,rfl,hn,ni,nn⟩
    rw[le,iX] at ni
    exact⟨_,rfl,k nl ys H2 hn ni e2 nn⟩
noncomputable abbrev nLnd:List Str:=["number","modulus"]
def scLnd:FnScope nLnd ["number"] (jB sLnd):= {}
def lndA(T:Txt mg): {t:TS // JSs (XOf nLnd "least_not_dividing" sLnd P w K mg base f cdv A outer s H0 E) (jE sLnd) t}:=
 have nd:=scLnd.nd
 ⟨_,(jA (jL (i:=1) nd rfl lL (j9) jNH)
   (jA (jD7 br (jM qM (jW qK (jv 0 rfl vL) (jv 1 rfl vL)) (j9) (jT _)) (jC (jTH (i:=1) nd rfl lL (j9) jTO)))
   (jC (kD (jv 1 rfl vL)))))⟩
def spLnd:Sp:=λvs H Q _=>∃x:Int,vs=[.int x]/\x≠0/\∀M:Int,2<=M->¬M∣x->Q (.int M) H
theorem jT4(F:Fun K "least_not_dividing" "least_not_dividing" sLnd f fd)(T:Txt mg):FnOk P w K mg base CX0 1 f fd ["number"] spLnd:=by
 refine F.ok scLnd (λvs H Q E h=>?_) (λcdv A outer s H vs Q E hr h=>?_)
 .obtain⟨_,rfl,_⟩:=h
  rfl
 .obtain⟨x,rfl,x0,q⟩:=h
  refine⟨_,(lndA T).2.h,?_⟩
  refine⟨λm σ H'=>∃k:Nat,σ=[some (.int x),some (.int (k:Int))]/\H'=H/\2<=k/\k<=x.natAbs+2/\m=x.natAbs+2-k,⟨x.natAbs,2,rfl,rfl,by decide,by lia,by lia⟩,?_⟩
  rintro m σ H' ⟨k,rfl,rfl,k2,k1,rfl⟩
  refine⟨_,rfl,_,rfl,_,_,rfl,rfl,(show (0:Int)<(k:Int) by lia),rfl,_,rfl,ite2 (λh=>?_) (λh=>?_)⟩
  .have h:x%(k:Int)=0:=V.int.inj (aG h)
   have hd:k∣x.natAbs:=hV.mp (fA h)
   have:=Nat.le_of_dvd (by lia) hd
   refine⟨λσ' H'=>∃k':Nat,σ'=[some (.int x),some (.int (k':Int))]/\H'=_/\2<=k'/\k'<=x.natAbs+2/\k'=k+1,λσ' H' ⟨k',a,b,c,d,e⟩=>⟨x.natAbs+2-k',by lia,k',a,b,c,d,rfl⟩,?_⟩
   exact⟨_,rfl,_,_,rfl,rfl,k+1,rfl,rfl,by lia,by lia,rfl⟩
  .have h:¬x%(k:Int)=0:=λz=>h (ax (bB V.int z))
   exact⟨_,rfl,q _ (by lia) λz=>h (fE z)⟩
abbrev jPE:List Str:=["box","musts","row","lead","leads","numbers","modulus","hues","must","number"]
def scHuesR:FnScope jPE ["box","musts","row","lead","leads"] (jB jBU):= {}
abbrev XHr(P:Program)(w:World)(K:W.Frag)(mg:Str->Option Value)(base:Heap)(f:Addr)(cdv:Value)(A:Around)(outer:List Env)(s:Shared)(H:Hp)(E:XK):Cx:=XOf jPE "hues_of_row" jBU P w K mg base f cdv A outer s H E
section
variable (T:Txt mg)(CN:Can P w K mg base "numbers_of_row" 33 fN fdN ["musts","row","leads"] jI4)(CL:Can P w K mg base "least_not_dividing" 1 fL fdL ["number"] spLnd)(hr:Room 33 (XHr P w K mg base f cdv A outer s H0 E).A)
def hrL: {t:TS // JSs (XHr P w K mg base f cdv A outer s H0 E) (qH ((jE jBU).getD 3 (.Pass ⟨0,0,0,0⟩))) t}:=
 have nd:=scHuesR.nd
 have _h0:=T;have _h:=CN;have _h1:=CL;have _h2:=hr
 ⟨_,(jC (jIL (jW qK (jv 9 rfl vL) (jv 6 rfl vL)) (jLP (jv 7 rfl vL) (jv 8 rfl vL) jCZ)))⟩
def hrB: {t:TS // JSs (XHr P w K mg base f cdv A outer s H0 E) ((jE jBU).drop 2) t}:=
 have nd:=scHuesR.nd
 ⟨_,(jA (jL (i:=7) nd rfl lL (jW jKX (yL (j3 (j9) j6 jI)) (jK jU (jv 0 rfl vL) (j9) jD)) jBP) (jA (yZ br rfl (jIM gD T.zip (j3 (jv 1 rfl vL) (j3 (jv 5 rfl vL) j6 j4) j4) j4) (jIN (i:=8) (j:=9) nd rfl rfl (by decide+kernel) (by decide+kernel)) (hrL T CN CL hr).2 kQ) (jC (kD (kW (j3 (jv 6 rfl vL) (j3 (kG jO gD T.tuple (by decide+kernel) (j3 (jv 7 rfl vL) j6 j4) j4) j6 jG) j4))))))⟩
def hrA: {t:TS // JSs (XHr P w K mg base f cdv A outer s H0 E) (jE jBU) t}:=
 have nd:=scHuesR.nd
 ⟨_,(jA (jL (i:=5) nd rfl lL (CN.je hr gD (j3 (jv 1 rfl vL) (j3 (jv 2 rfl vL) (j3 (jv 4 rfl vL) j6 j4) j4) j4) j4) jZ) (jA (jL (i:=6) nd rfl lL (jG3 (jM qS (jv 3 rfl vL) (j9) (jT _)) (jF jD8 gD T.abs (by decide+kernel) (j3 (jW jEQ (jK kX (jv 5 rfl vL) (jv 2 rfl vL) kN) (jv 3 rfl vL)) j6 yD) yD) (CL.je (hr.mono (by decide)) gD (j3 (jF (jAA rfl) gD T.sum (by decide+kernel) (j3 (jv 5 rfl vL) j6 j4) j4) j6 jG) jG)) jS6) (hrB T CN CL hr).2))⟩
theorem jLE{hs:List Int}{k:Nat}{v:Int}(h:k<hs.length)(t:Int)(t0:0<=t):nAt (hs.set k v) t=if t=(k:Int) then v else nAt hs t:=by
 unfold nAt
 rw[af,List.getElem?_set,af]
 by_cases e:k=t.toNat
 .rw[ai e,ai (by lia),ai (by lia)];rfl
 .rw[aj e,aj (by lia)]
theorem jIS(hms:∀t∈ms,0<=t){m:Addr}{wi M:Int}{v3 v4 v9:Option V}(b1:H b=some (.tup [.int wi,.ref qm,.ref qp]))(w0:0<=wi)(w1:wi<=16)(hm:H m=some (.lst ((mus ms wi.toNat).map V.int)))(hn:H nl=some (.lst (ys.map V.int)))(yl:ys.length=(mus ms wi.toNat).length)(hM:2<=M)
  (k:∀r q hs H',H' r=some (.tup [.int M,.ref q])->H' q=some (.tup (hs.map V.int))->HueOf ms wi.toNat M ys hs->Ext H H'->D.rt (.ref r) H'):
  (hrB T CN CL hr).1 D [some (.ref b),some (.ref m),v2,v3,v4,some (.ref nl),some (.int M),v7,v8,v9] H:=by
 have mul:=jBJ ms wi.toNat
 refine⟨by show (1:Nat)<=_;decide,λq1 H1 d1 e1 n1=>?_⟩
 refine⟨_,rfl,b,_,0,_,rfl,rfl,SqT.of (e1 _ _ b1),rfl,q1,wi,[.int 0],rfl,rfl,d1,by lia,by lia,by rw[ar];show 1*_<=_;lia,λh2 nh2=>?_⟩
 have er:(replicate wi.toNat [V.int 0]).flatten=(replicate wi.toNat (0:Int)).map V.int:=by
  generalize wi.toNat=n
  induction n with
  |zero=>rfl
  |succ n ih=>rw[ck,ck,dL,ih];rfl
 rw[er]
 have e2:Ext H1 (L2.upd H1 h2 (.lst ((replicate wi.toNat (0:Int)).map V.int))):=(Ext.refl _).new nh2 _
 have d2:(L2.upd H1 h2 (.lst ((replicate wi.toNat (0:Int)).map V.int))) h2=some (.lst ((replicate wi.toNat (0:Int)).map V.int)):=j5
 generalize L2.upd H1 h2 (.lst ((replicate wi.toNat (0:Int)).map V.int))=H2 at e2 d2
 have E2:=e1.trans e2
 have nh:H h2=none:=newOf e1 nh2
 refine⟨_,rfl,_,rfl,false,false,m,nl,rfl,⟨_,SqL.of (E2 _ _ hm)⟩,⟨_,SqL.of (E2 _ _ hn)⟩,jRQ (xs:=(mus ms wi.toNat).map V.int) (ys:=ys.map V.int) (λi σ H'=>Ext H H'/\∃hs v8 v9,σ=[some (.ref b),some (.ref m),v2,v3,v4,some (.ref nl),some (.int M),some (.ref h2),v8,v9]/\H' h2=some (.lst (hs.map V.int))/\hs.length=wi.toNat/\(∀j,j<i->nAt hs ((mus ms wi.toNat).getD j 0)=cA ys j%M)/\∀t:Int,0<=t->(∀j,j<i->(mus ms wi.toNat).getD j 0≠t)->nAt hs t=0) ⟨E2,_,_,_,rfl,d2,by rw[cW],λj hj=>absurd hj (by lia),λt t0 _=>?_⟩ (λi σ H' ⟨e,_⟩=>⟨SqL.of (e _ _ hm),SqL.of (e _ _ hn)⟩) ?_ ?_⟩
 .unfold nAt
  rw[af,dX]
  split<;>rfl
 .rintro i x y Tp σ H3 hx hy hT ⟨e3,hs,v8,v9,rfl,d3,hl,p1,p2⟩
  obtain⟨x,hx',rfl⟩:=int_at hx
  obtain⟨y,hy',rfl⟩:=int_at hy
  have e4:Ext H3 (L2.upd H3 Tp (.tup [.int x,.int y])):=(Ext.refl _).new hT _
  have d4:(L2.upd H3 Tp (.tup [.int x,.int y])) Tp=some (.tup [.int x,.int y]):=j5
  generalize L2.upd H3 Tp (.tup [.int x,.int y])=H4 at e4 d4
  have ex:(mus ms wi.toNat).getD i 0=x:=by rw[af,hx'];rfl
  have ey:cA ys i=y:=by unfold cA;rw[af,hy'];rfl
  obtain⟨x0,x1,xm⟩:=mem_mus.mp (aH hx')
  refine⟨Tp,_,rfl,SqT.of d4,rfl,_,_,rfl,_,_,rfl,rfl,?_⟩
  refine⟨_,rfl,_,rfl,_,_,rfl,rfl,(show (0:Int)<M by lia),_,rfl,_,rfl,h2,_,x,x.toNat,rfl,rfl,e4 _ _ d3,?_,?_⟩
  .unfold ixN
   rw[ai x0,ai (by rw[aa,hl];exact x1)]
  .rw[<- map_set]
   have hk:x.toNat<hs.length:=by lia
   have ek:((x.toNat:Nat):Int)=x:=by lia
   refine⟨λc o h=>?_,_,_,_,rfl,j5,by rw[i5];exact hl,λj hj=>?_,λt t0 ht=>?_⟩
   .rw[j7 (λz=>by rw[z,nh] at h;cases h)]
    exact e4 _ _ (e3 _ _ h)
   .have hi2:i<(mus ms wi.toNat).length:=(aF.mp hx').1
    have hjl:j<(mus ms wi.toNat).length:=by lia
    have ej:(mus ms wi.toNat).getD j 0=(mus ms wi.toNat)[j]:=by rw[af,ag hjl];rfl
    have j0:0<=(mus ms wi.toNat).getD j 0:=by rw[ej];exact(mem_mus.mp (bC hjl)).1
    rw[jLE hk _ j0,ek]
    by_cases h:j=i
    .rw[h,ex,ai rfl,ey]
    .rw[aj,p1 j (by lia)]
     intro z
     rw[ej] at z
     have ei:(mus ms wi.toNat)[i]=x:=(aF.mp hx').2
     have pw:=cV.mp (jPF ms wi.toNat) j i hjl hi2 (by lia)
     exact pw (z.trans ei.symm)
   .rw[jLE hk _ t0,ek,aj,p2 t t0 λj hj=>ht j (by lia)]
    intro z
    exact ht i (by lia) (by rw[ex,z])
 .rintro σ H3 ⟨e3,hs,v8,v9,rfl,d3,hl,p1,p2⟩
  rw[aa,aa,yl,Nat.min_self] at p1 p2
  refine⟨_,rfl,_,rfl,h2,_,rfl,.inl ⟨SqL.of d3,λq4 n4=>?_⟩⟩
  have e4:Ext H3 (L2.upd H3 q4 (.tup (hs.map V.int))):=(Ext.refl _).new n4 _
  have d4:(L2.upd H3 q4 (.tup (hs.map V.int))) q4=some (.tup (hs.map V.int)):=j5
  generalize L2.upd H3 q4 (.tup (hs.map V.int))=H4 at e4 d4
  refine⟨by show (2:Nat)<=_;decide,λr H5 d5 e5=>k r q4 hs H5 d5 (e5 _ _ d4) ⟨hl,p1,λt ht=>?_⟩ ((e3.trans e4).trans e5)⟩
  by_cases t0:0<=t
  .refine p2 t t0 λj hj e=>?_
   have ej:(mus ms wi.toNat).getD j 0=(mus ms wi.toNat)[j]:=by rw[af,ag hj];rfl
   have:=mem_mus.mp (bC hj)
   rw[<- ej,e] at this
   exact this.2.2 ht
  .exact absurd (hms t ht) t0
end
def jH0:Sp:=λvs H Q _=>∃(b m la:Addr) (wi lead:Int) (ms:List Int) (lj:List (List Int×Int)) (N row:Nat) (lvs:List V) (L:List (Nat×List Int)),vs=[.ref b,.ref m,.int (row:Int),.int lead,.ref la]/\BoxAt H b wi ms lj/\Good 16 32 wi ms lj/\H m=some (.lst ((mus ms wi.toNat).map V.int))/\H la=some (.lst lvs)/\All2 (LeadA H) lvs L/\lvs.length<=16/\row<(mus ms wi.toNat).length/\(mus ms wi.toNat).length<=N/\N<=60/\LeadsOk (mus ms wi.toNat).length N row L/\lead.natAbs<=2^bR (row+1)/\bR (row+1)<=80000000/\lead.natAbs≠1/\(lead=0->∀ys,NI (mus ms wi.toNat).length row L [] ys->sxS (mus ms wi.toNat).length (cA ys)≠0)/\
 ∀r q M ys hs H',H' r=some (.tup [.int M,.ref q])->H' q=some (.tup (hs.map V.int))->HueOf ms wi.toNat M ys hs->NI (mus ms wi.toNat).length row L [] ys->2<=M->(lead≠0->M=((cA ys row*lead).natAbs:Nat))->(lead=0->¬M∣sxS (mus ms wi.toNat).length (cA ys))->Ext H H'->Q (.ref r) H'
def jQ0(h:ys.length=n):ys.sum=sxS n (cA ys):=by
 have:=lsum ys λx=>x
 rw[List.map_id'',h] at this
 .exact this.symm
 .exact λ_=>rfl
theorem jO7(F:Fun K "hues_of_row" "hues_of_row" jBU f fd)(T:Txt mg)(CN:Can P w K mg base "numbers_of_row" 33 fN fdN ["musts","row","leads"] jI4)(CL:Can P w K mg base "least_not_dividing" 1 fL fdL ["number"] spLnd):FnOk P w K mg base CX0 34 f fd ["box","musts","row","lead","leads"] jH0:=by
 refine F.ok scHuesR (λvs H Q E h=>?_) (λcdv A outer s H vs Q E hr h=>?_)
 .obtain⟨_,_,_,_,_,_,_,_,_,_,_,rfl,_⟩:=h
  rfl
 .obtain⟨b,m,la,wi,lead,ms,lj,N,row,lvs,L,rfl,hB,g,hm,hla,hL,ll,hrow,nN,hN,ok,lb,lb2,l1,l0,k⟩:=h
  have w0:=g.w0
  have w1:=g.w1
  have hms:∀t∈ms,0<=t:=λt ht=>(g.mr.bnd t ht).1
  have n16:(mus ms wi.toNat).length<=16:=by have:=jBJ ms wi.toNat;lia
  obtain⟨qm,qp,ps,b1,b2,b3,b4⟩:=id hB.ex
  refine⟨_,(hrA T CN CL hr).2.h,?_⟩
  refine⟨_,rfl,_,rfl,_,rfl,m,la,_,N,row,_,lvs,L,rfl,hm,rfl,hla,hL,ll,hrow,n16,nN,hN,ok,λnl ys H1 d1 ni e1 n1=>?_⟩
  have yl:=ni.len
  refine⟨_,rfl,rfl,_,rfl,?_⟩
  by_cases z:lead=0
  .have hb:(!decide (V.int lead=V.int 0))=false:=by rw[z];rfl
   dsimp only
   rw[hb]
   refine iteF ⟨_,rfl,nl,_,rfl,SqL.of d1,?_⟩
   rw[jQ0 yl]
   refine⟨_,rfl,l0 z ys ni,λM hM hd=>?_⟩
   exact jIS T CN CL hr hms (e1 _ _ b1) w0 w1 (e1 _ _ hm) d1 yl hM λr q hs H2 a1 a2 a3 a4=>k r q M ys hs H2 a1 a2 a3 ni hM (λh=>absurd z h) (λ_=>hd) (e1.trans a4)
  .have hb:(!decide (V.int lead=V.int 0))=true:=by rw[aN (λh=>z (V.int.inj h))];rfl
   dsimp only
   rw[hb]
   have y0:=ni.at_
   have bz:=ok.bz
   refine iteT ⟨_,rfl,_,rfl,nl,_,_,_,rfl,rfl,SqL.of d1,qL (by lia),_,rfl,_,_,rfl,rfl,⟨zsL L,bR (row+1),ni.bnd row,lb,by lia⟩,_,rfl,?_⟩
   rw[jHW]
   have h2:(2:Int)<=((cA ys row*lead).natAbs:Nat):=by
    rw[df]
    have:1*2<=(cA ys row).natAbs*lead.natAbs:=cj (by lia) (by lia)
    lia
   exact jIS T CN CL hr hms (e1 _ _ b1) w0 w1 (e1 _ _ hm) d1 yl h2 λr q hs H2 a1 a2 a3 a4=>k r q _ ys hs H2 a1 a2 a3 ni h2 (λ_=>rfl) (λh=>absurd h z) (e1.trans a4)
theorem jFP:∀r,r<16->4*bR r+10<=134217000/\bR (r+1)<=80000000/\vR r<=50000000/\uR r+bR (r+1)<=134217000:=by decide
def LeadN(la:Addr)(H:Hp)(v:V)(pc:Nat×List Int):Prop:=∃a q,v=.ref a/\H a=some (.tup [.int (pc.1:Int),.ref q])/\H q=some (.lst (pc.2.map V.int))/\q≠la
def LeadN.lead{v:V}{pc:Nat×List Int}(h:LeadN la H v pc):LeadA H v pc:=let ⟨a,q,x,y,z,_⟩:=h;⟨a,q,x,y,z⟩
structure WG (P:Program)(w:World)(K:W.Frag)(mg:Str->Option Value)(base:Heap)(tb fM fF fL fG fH fK:Addr)(fdM fdF fdL fdG fdH fdK:FuncData):Prop where
 T:Txt mg
 S:SeerK P K mg
 CM:Can P w K mg base "musts_of" 1 fM fdM ["box"] jB0
 CF:Can P w K mg base "first_columns" 1 fF fdF ["box","musts"] jEH
 CL:Can P w K mg base "led_by_one" 34 fL fdL ["columns","row"] (spLed tb)
 CG:Can P w K mg base "goes_in" 1 fG fdG ["lead","entry"] jKH
 CH:Can P w K mg base "hues_of_row" 34 fH fdH ["box","musts","row","lead","leads"] jH0
 CK:Can P w K mg base "taken_off" 1 fK fdK ["column","times","other"] jDE
noncomputable abbrev nWhP:List Str:=["box","musts","columns","target","leads","row","parted","lead","column"]
def scWhP:FnScope nWhP ["box"] (jB yT):= {}
abbrev XWh(P:Program)(w:World)(K:W.Frag)(mg:Str->Option Value)(base:Heap)(f:Addr)(cdv:Value)(A:Around)(outer:List Env)(s:Shared)(H:Hp)(E:XK):Cx:=XOf nWhP "wholes" yT P w K mg base f cdv A outer s H E
abbrev whB:List Stmt:=qH ((jE yT).getD 4 (.Pass ⟨0,0,0,0⟩))
section
variable (G:WG P w K mg base tb fM fF fL fG fH fK fdM fdF fdL fdG fdH fdK)(PY:Pyl (XWh P w K mg base f cdv A outer s H0 E))(hr:Room 34 (XWh P w K mg base f cdv A outer s H0 E).A)
def whI: {t:TS // JSs (XWh P w K mg base f cdv A outer s H0 E) (qH (whB.getD 4 (.Pass ⟨0,0,0,0⟩))) t}:=
 have nd:=scWhP.nd
 have _h0:=G;have _h1:=PY;have _h2:=hr
 ⟨_,(jA (jL (i:=3) nd rfl lL (G.CK.je (hr.mono (by decide)) gD (j3 (jv 3 rfl vL) (j3 (jW (jD2 PY) (jK kX (jv 3 rfl vL) (jv 5 rfl vC) kN) (jv 7 rfl vL)) (j3 (jv 8 rfl vL) j6 j4) yD) j4) j4) jZ)
   (jC (jAQ (xC bD cZ da jAJ (jv 4 rfl vL) (j3 (kW (j3 (jv 5 rfl vC) (j3 (jv 8 rfl vL) j6 j4) j4)) j6 qR) qR) jZ)))⟩
def wh3A: {t:TS // JSs (XWh P w K mg base f cdv A outer s H0 E) (whB.drop 3) t}:=
 have nd:=scWhP.nd
 ⟨_,(jA (qD (jBZ (qP (G.CG.je (hr.mono (by decide)) gD (j3 (jv 7 rfl vL) (j3 (jK kX (jv 3 rfl vL) (jv 5 rfl vC) kN) j6 jR) j4) j4) qB)) (jC (kD (kW (j3 (jBD) (j3 (G.CH.je hr gD (j3 (jv 0 rfl vL) (j3 (jv 1 rfl vL) (j3 (jv 5 rfl vC) (j3 (jv 7 rfl vL) (j3 (jv 4 rfl vL) j6 j4) j4) j4) j4) j4) j4) j6 jG) jI)))) yC) (jC (yZ br rfl (yK (jK jU (jv 6 rfl vL) (j9) jD)) (jJ (i:=8) nd rfl lL) (whI G PY hr).2 qV)))⟩
def whL: {t:TS // JSs (XWh P w K mg base f cdv A outer s H0 E) whB t}:=
 have nd:=scWhP.nd
 ⟨_,(jA (jL (i:=6) nd rfl lL (G.CL.je hr gD (j3 (jv 2 rfl vL) (j3 (jv 5 rfl vC) j6 j4) j4) j4) jZ) (jA (jL (i:=2) nd rfl lL (jK jU (jv 6 rfl vL) (j9) jD) jBO) (jA (jL (i:=7) nd rfl lL (jF (jAA rfl) gD G.T.sum (by decide+kernel) (j3 (kJ (m:=[none,some 5]) (Nc:=["column","row"]) rfl (yK (jK jU (jv 6 rfl vL) (j9) jD)) rfl (by decide+kernel) (by decide+kernel) (jQ (psc:=jB yT)) (jH (N:=nWhP) rfl rfl (by decide+kernel)) (λcl C fp s H=>jJ (i:=0) (show (["column","row"]:List Str).Nodup by decide+kernel) rfl yG) (λcl C fp s H=>kO) (λcl C fp s H=>(jK yN (jv 0 rfl jV) (jv 1 rfl jX) kN)) qV) j6 jP) jP) jZ) (wh3A G PY hr).2)))⟩
def whA: {t:TS // JSs (XWh P w K mg base f cdv A outer s H0 E) (jE yT) t}:=
 have nd:=scWhP.nd
 ⟨_,(jA (jL (i:=1) nd rfl lL (G.CM.je (hr.mono (by decide)) gD (j3 (jv 0 rfl vL) j6 j4) j4) jZ) (jA (jL (i:=2) nd rfl lL (G.CF.je (hr.mono (by decide)) gD (j3 (jv 0 rfl vL) (j3 (jv 1 rfl vL) j6 j4) j4) j4) jZ) (jA (jL (i:=3) nd rfl lL (jW jES (jW jKX (yL (j3 (j9) j6 jI)) (jF jN gD G.T.len (by decide+kernel) (j3 (jv 1 rfl vL) j6 j4) j4)) (jW jKX (yL (j3 (j9) j6 jI)) (jF jN gD G.T.len (by decide+kernel) (j3 (jK jU (jv 0 rfl vL) (j9) jD) j6 jR) jR))) jBP) (jA (jL (i:=4) nd rfl lL (yL j6) jBA) (jA (yZ br rfl (kY gD G.T.range (j3 (jF jN gD G.T.len (by decide+kernel) (j3 (jv 1 rfl vL) j6 j4) j4) j6 jG) jG) (jJ (i:=5) nd rfl qI) (whL G PY hr).2 kQ) (jC (kD (kW (j3 (jBD) (j3 (kG jO gD G.T.tuple (by decide+kernel) (j3 (kJ (m:=[none]) (Nc:=["number"]) rfl (yK (jC0 jEK (jv 3 rfl vL) (jDM (jF jN gD G.T.len (by decide+kernel) (j3 (jv 1 rfl vL) j6 j4) j4)) jDN)) rfl (by decide+kernel) (by decide+kernel) (jQ (psc:=jB yT)) (jH (N:=nWhP) rfl rfl (by decide+kernel)) (λcl C fp s H=>jJ (i:=0) (show (["number"]:List Str).Nodup by decide+kernel) rfl yG) (λcl C fp s H=>kO) (λcl C fp s H=>(je_un jOZ (jv 0 rfl jV))) qV) j6 jP) jP) j6 jG) jI)))))))))⟩
def WhlT(wi:Int)(ms:List Int)(lj:List (List Int×Int))(tb:Addr)(H:Hp)(Q:VK):Prop:=
 (∀(r q:Addr) (xs:List Int) (H':Hp),H' r=some (.tup [.str "wholes",.ref q])->H' q=some (.tup (xs.map V.int))->jAM wi ms lj (.tup (xs.map Ob.int))=true->ExtT tb H H'->TabL H' tb->Q (.ref r) H')/\
 ∀(r h q:Addr) (M:Int) (hs:List Int) (H':Hp),H' r=some (.tup [.str "hues",.ref h])->H' h=some (.tup [.int M,.ref q])->H' q=some (.tup (hs.map V.int))->hueB wi ms lj (.tup [.int M,.tup (hs.map Ob.int)])=true->ExtT tb H H'->TabL H' tb->Q (.ref r) H'
structure WhS (wi:Int)(ms:List Int)(lj:List (List Int×Int))(tb la:Addr)(H H':Hp)(i:Nat)(ca ta:Addr)(us lvs:List V)(cs:List (List Int))(L:List (Nat×List Int))(tt:List Int):Prop where
 c:H' ca=some (.lst us)
 cc:ColsA H' us cs
 t:H' ta=some (.lst (tt.map V.int))
 l:H' la=some (.lst lvs)
 ll:All2 (LeadN la H') lvs L
 w:WI (mus ms wi.toNat).length lj.length (aI (mus ms wi.toNat) lj) i cs L tt
 nu:∀z∈us,z≠.ref la
 nc:ca≠la
 nt:ta≠la
 few:lvs.length<=i
 kp:∀c o,H c=some o->c≠tb->H' c=some o
 tab:TabL H' tb
 nl:H la=none
def yQ(tab:TabL H tb)(h:H c=some (.lst xs)):c≠tb:=λz=>by
 rcases tab with q|⟨_,q,_⟩<;>(rw[z,q] at h;cases h)
def qE(tab:TabL H tb)(h:H c=some (.tup xs)):c≠tb:=λz=>by
 rcases tab with q|⟨_,q,_⟩<;>(rw[z,q] at h;cases h)
theorem jN6{r:Nat}{c:List Int}{lead:Int}(ht:H ta=some (.lst (t.map V.int)))(hl:H la=some (.lst lvs))(hq:H q=some (.lst (c.map V.int)))(tl:t.length<=60)(cl:t.length=c.length)(hr':r<t.length)(l0:lead≠0){b:Nat}(hqb:((cA t r).fdiv lead).natAbs<=2^p)(hcb:∀i,(cA c i).natAbs<=2^b)(hpb:p+b<=134217000)(ll:lvs.length<=20)(nta:ta≠la)
  (nx:∀ta' a H',H' ta'=some (.lst ((tkf ((cA t r).fdiv lead) t c).map V.int))->H' la=some (.lst (lvs++[.ref a]))->H' a=some (.tup [.int (r:Int),.ref q])->(∀c o,H c=some o->c≠la->H' c=some o)->ta'≠la->D.nx [v0,v1,v2,some (.ref ta'),some (.ref la),some (.int (r:Int)),v6,some (.int lead),some (.ref q)] H'):
  (whI G PY hr).1 D [v0,v1,v2,some (.ref ta),some (.ref la),some (.int (r:Int)),v6,some (.int lead),some (.ref q)] H:=by
 refine⟨_,rfl,_,rfl,_,rfl,ta,_,_,_,rfl,rfl,SqL.of ht,qL hr',_,rfl,_,_,rfl,rfl,l0,_,rfl,ta,q,_,t,c,p,b,rfl,ht,hq,by lia,hqb,λy hy=>?_,hpb,λr2 H1 d1 e1 n1=>?_⟩
 .obtain⟨i,rfl⟩:=jFX hy
  exact hcb i
 .refine⟨_,rfl,.inl ⟨rfl,_,SqL.of (e1 _ _ hl)⟩,_,rfl,_,rfl,by show (2:Nat)<=_;decide,λa H2 d2 e2=>?_⟩
  have E2:=e1.trans e2
  have r2l:r2≠la:=λz=>by rw[z,hl] at n1;cases n1
  refine⟨la,lvs,_,rfl,rfl,E2 _ _ hl,by rw[ar];lia,nx r2 a _ ?_ j5 ?_ (λc o h n=>?_) r2l⟩
  .rw[j7 r2l];exact e2 _ _ d1
  .rw[j7 (λz=>by rw[z,E2 _ _ hl] at d2;cases d2)];exact d2
  .rw[j7 n];exact E2 _ _ h
def jOY{α β:Type}{R:α->β->Prop}{us:List α}{cs:List β}(h:All2 R us cs)(hl:cs.length<=1):(us=[]/\cs=[])\/∃u c,us=[u]/\cs=[c]/\R u c:=by
 match us,cs,h,hl with
 |[],[],_,_=>exact .inl ⟨rfl,rfl⟩
 |[u],[c],h,_=>exact .inr ⟨u,c,rfl,rfl,h.1⟩
 |_::_::_,_::_::_,_,hl=>simp at hl
theorem jN7{D:Ends}{H H1:Hp}{b m la ca ta pt Fa Da qm qp:Addr}{wi:Int}{ms:List Int}{lj:List (List Int×Int)}{ps:List V}{r:Nat}{fs ds lvs:List V}{cs Fc Dc:List (List Int)}{L:List (Nat×List Int)}{t:List Int}{v8:Option V}(b1:H b=some (.tup [.int wi,.ref qm,.ref qp]))(hB:BoxAt H b wi ms lj)(g:Good 16 32 wi ms lj)(hm:H m=some (.lst ((mus ms wi.toNat).map V.int)))(kp:∀c o,H c=some o->c≠tb->H1 c=some o)(tab0:TabL H tb)(tab:TabL H1 tb)(nl:H la=none)
  (hpt:H1 pt=some (.tup [.ref Fa,.ref Da])) (hF:H1 Fa=some (.lst fs)) (hcF:ColsA H1 fs Fc) (hD:H1 Da=some (.lst ds)) (hcD:ColsA H1 ds Dc) (ht:H1 ta=some (.lst (t.map V.int))) (hl:H1 la=some (.lst lvs)) (hL:All2 (LeadN la H1) lvs L) (w:WI (mus ms wi.toNat).length lj.length (aI (mus ms wi.toNat) lj) r cs L t) (led:Led ((mus ms wi.toNat).length+lj.length) r cs Fc Dc) (f1:Fc.length<=1) (hAB:AllB (2^bR (r+1)) (Fc++Dc)) (hr':r<(mus ms wi.toNat).length) (nta:ta≠la) (nDa:Da≠la) (nFa:Fa≠la) (nfs:∀z∈fs,z≠.ref la) (nds:∀z∈ds,z≠.ref la) (few:lvs.length<=r)
  (q:WhlT wi ms lj tb H D.rt)
  (nx:∀ta' lvs' L' t' H' v8,WhS wi ms lj tb la H H' (r+1) Da ta' ds lvs' Dc L' t'->D.nx [some (.ref b),some (.ref m),some (.ref Da),some (.ref ta'),some (.ref la),some (.int (r:Int)),some (.ref pt),some (.int ((Fc.map λc=>cA c r).sum)),v8] H'):
  (wh3A G PY hr).1 D [some (.ref b),some (.ref m),some (.ref Da),some (.ref ta),some (.ref la),some (.int (r:Int)),some (.ref pt),some (.int ((Fc.map λc=>cA c r).sum)),v8] H1:=by
 have mul:=jBJ ms wi.toNat
 have w1:=g.w1
 have pl:=g.pl
 have n16:(mus ms wi.toNat).length<=16:=by lia
 obtain⟨z1,z2,z3,z4⟩:=jFP r (by lia)
 have b1':=kp _ _ b1 (qE tab0 b1)
 have hm':=kp _ _ hm (yQ tab0 hm)
 have tl:=w.lt
 have hB1:BoxAt H1 b wi ms lj:=hB.mono λc xs h=>kp _ _ h (qE tab0 h)
 refine⟨_,rfl,_,rfl,_,rfl,ta,_,_,_,rfl,rfl,SqL.of ht,qL (by lia),?_⟩
 refine⟨_,_,rfl,_,rfl,?_⟩
 rcases jOY hcF f1 with ⟨rfl,rfl⟩|⟨u,c,rfl,rfl,hu⟩
 ·-- no lead
  by_cases hd:(0:Int)∣cA t r
  .have t0:=ku.mp hd
   have e:(!decide ((([]:List (List Int)).map λc=>cA c r).sum∣cA t r))=false:=by rw[ax (show (([]:List (List Int)).map λc=>cA c r).sum∣cA t r from hd)];rfl
   dsimp only
   rw[e]
   refine iteF ⟨_,rfl,pt,_,0,_,rfl,rfl,SqT.of hpt,rfl,Fa,rfl,⟨_,SqL.of hF⟩,jC3 (xs:=[]) (λi σ H'=>i=0->σ=[some (.ref b),some (.ref m),some (.ref Da),some (.ref ta),some (.ref la),some (.int (r:Int)),some (.ref pt),some (.int ((([]:List (List Int)).map λc=>cA c r).sum)),v8]/\H'=H1) (λ_=>⟨rfl,rfl⟩) (λi σ H' hi h=>?_) (λi x σ H' hx=>by simp at hx) λσ H' h=>?_⟩
   .obtain⟨_,rfl⟩:=h (by simpa using hi)
    exact SqL.of hF
   .obtain⟨rfl,rfl⟩:=h rfl
    exact nx ta lvs L t H' _ ⟨hD,hcD,ht,hl,hL,w.next0 led hAB t0,nds,nDa,nta,by lia,kp,tab,nl⟩
  .have e:(!decide ((([]:List (List Int)).map λc=>cA c r).sum∣cA t r))=true:=by rw[aN (show ¬(([]:List (List Int)).map λc=>cA c r).sum∣cA t r from hd)];rfl
   dsimp only
   rw[e]
   refine iteT ⟨_,rfl,_,rfl,_,rfl,_,rfl,_,rfl,b,m,la,wi,0,ms,lj,_,r,lvs,L,rfl,hB1,g,hm',hl,hL.imp λ_ _ z=>z.lead,by lia,hr',dy _ _,by lia,⟨w.ll,w.zl,w.srt,w.bl,aY w.bz z3⟩,bb _,z2,by decide,λ_ ys ny=>?_,λr1 q1 M ys hs H2 a1 a2 a3 a4 a5 a6 a7 a8=>?_⟩
   .obtain⟨_,e2⟩:=w.hue led hr' ny (M:=0) λc hc=>by cases hc
    rw[e2]
    exact Int.mul_ne_zero ny.at_ λz=>hd (by rw[z];exact iZ _)
   .obtain⟨h1,_⟩:=w.hue led hr' a4 (M:=0) λc hc=>by cases hc
    refine⟨by show (2:Nat)<=_;decide,λr3 H3 d3 e3=>q.2 r3 r1 q1 M hs H3 d3 (e3 _ _ a1) (e3 _ _ a2) (a3.ok g a5 (λk hk=>by rw[ku.mp (h1 k hk)];exact iZ _) (a7 rfl)) (λc o h n=>e3 _ _ (a8 _ _ (kp _ _ h n))) ((tab.ext a8).ext e3)⟩
 ·-- one lead
  obtain⟨qa,rfl,hqa⟩:=hu
  have el:([c].map λc=>cA c r).sum=cA c r:=by simp
  rw[el] at nx ⊢
  have l0:cA c r≠0:=led.fz c (by simp)
  have cl:=led.len c (by simp)
  have cb:∀i,(cA c i).natAbs<=2^bR (r+1):=hAB c (by simp)
  by_cases hd:cA c r∣cA t r
  .have e:(!decide (cA c r∣cA t r))=false:=by rw[ax hd];rfl
   dsimp only
   rw[e]
   have qm:(cA t r).fdiv (cA c r)*cA c r=cA t r:=eY hd
   have qb:((cA t r).fdiv (cA c r)).natAbs<=2^uR r:=by
    have h2:((cA t r).fdiv (cA c r)).natAbs*1<=((cA t r).fdiv (cA c r)).natAbs*(cA c r).natAbs:=bN _ (by lia)
    rw[<- df,qm,Nat.mul_one] at h2
    exact aY h2 (w.bt r)
   refine iteF ⟨_,rfl,pt,_,0,_,rfl,rfl,SqT.of hpt,rfl,Fa,rfl,⟨_,SqL.of hF⟩,jC3 (xs:=[.ref qa]) (λi σ H'=>(i=0->σ=[some (.ref b),some (.ref m),some (.ref Da),some (.ref ta),some (.ref la),some (.int (r:Int)),some (.ref pt),some (.int (cA c r)),v8]/\H'=H1)/\(∀c o,H1 c=some o->c≠la->H' c=some o)/\(i=1->∃ta' a,σ=[some (.ref b),some (.ref m),some (.ref Da),some (.ref ta'),some (.ref la),some (.int (r:Int)),some (.ref pt),some (.int (cA c r)),some (.ref qa)]/\H' ta'=some (.lst ((tkf ((cA t r).fdiv (cA c r)) t c).map V.int))/\H' la=some (.lst (lvs++[.ref a]))/\H' a=some (.tup [.int (r:Int),.ref qa])/\ta'≠la)) ⟨λ_=>⟨rfl,rfl⟩,λ_ _ h _=>h,λh=>absurd h (by decide)⟩ (λi σ H' hi ⟨_,h,_⟩=>SqL.of (h _ _ hF nFa)) ?_ ?_⟩
   .rintro i x σ H2 hx ⟨h0,_,_⟩
    have hi:i=0:=by have:=(aF.mp hx).1;simpa using this
    subst hi
    obtain⟨rfl,rfl⟩:=h0 rfl
    have ex:x=.ref qa:=by simpa using hx.symm
    subst ex
    refine jN6 G PY hr ht hl hqa (by lia) (by lia) (by lia) l0 qb cb z4 (by lia) nta λta' a H3 a1 a2 a3 a4 a5=>⟨λh=>absurd h (by decide),a4,λ_=>⟨ta',a,rfl,a1,a2,a3,a5⟩⟩
   .rintro σ H2 ⟨_,k2,h1⟩
    obtain⟨ta',a,rfl,a1,a2,a3,a5⟩:=h1 rfl
    have w2:=w.next1 led hAB hr' (q:=(cA t r).fdiv (cA c r)) qm.symm qb
    have nq:qa≠la:=λz=>nfs (.ref qa) (by simp) (by rw[z])
    refine nx ta' (lvs++[.ref a]) (L++[(r,c)]) (tkf ((cA t r).fdiv (cA c r)) t c) H2 _ ⟨k2 _ _ hD nDa,All2.impM (λu hu c ⟨x,e,hx⟩=>⟨x,e,k2 _ _ hx λz=>nds u hu (by rw[e,z])⟩) hcD,a1,a2,All2.append (hL.imp λv pc ⟨x,y,e,hx,hy,ne⟩=>⟨x,y,e,k2 _ _ hx (λz=>by rw[z,hl] at hx;cases hx),k2 _ _ hy ne,ne⟩) ⟨⟨a,qa,rfl,a3,k2 _ _ hqa nq,nq⟩,trivial⟩,w2,nds,nDa,a5,by rw[aK];show lvs.length+1<=_;lia,λc o h n=>k2 _ _ (kp _ _ h n) (λz=>by rw[z,nl] at h;cases h),?_,nl⟩
    rcases tab with q'|⟨c,q',q''⟩
    .exact .inl (k2 _ _ q' λz=>by rw[z,hl] at q';cases q')
    .exact .inr ⟨c,k2 _ _ q' (λz=>by rw[z,hl] at q';cases q'),k2 _ _ q'' λz=>by rw[z,hl] at q'';cases q''⟩
  .have e:(!decide (cA c r∣cA t r))=true:=by rw[aN hd];rfl
   dsimp only
   rw[e]
   refine iteT ⟨_,rfl,_,rfl,_,rfl,_,rfl,_,rfl,b,m,la,wi,cA c r,ms,lj,_,r,lvs,L,rfl,hB1,g,hm',hl,hL.imp λ_ _ z=>z.lead,by lia,hr',dy _ _,by lia,⟨w.ll,w.zl,w.srt,w.bl,aY w.bz z3⟩,cb r,z2,λh1=>hd ?_,λh=>absurd h l0,λr1 q1 M ys hs H2 a1 a2 a3 a4 a5 a6 a7 a8=>?_⟩
   .exact jr.mp (by rw[h1];exact Int.one_dvd _)
   .obtain⟨h1,h2⟩:=w.hue led hr' a4 (M:=cA ys r*cA c r) λc' hc=>by rw[aW.mp hc];exact Int.dvd_refl _
    have eM:=a6 l0
    refine⟨by show (2:Nat)<=_;decide,λr3 H3 d3 e3=>q.2 r3 r1 q1 M hs H3 d3 (e3 _ _ a1) (e3 _ _ a2) (a3.ok g a5 (λk hk=>by rw[eM];exact jr.mpr (h1 k hk)) λz=>hd ?_) (λc o h n=>e3 _ _ (a8 _ _ (kp _ _ h n))) ((tab.ext a8).ext e3)⟩
    rw[eM,h2] at z
    exact Int.dvd_of_mul_dvd_mul_left a4.at_ (jr.mp z)
theorem jN5{m ca:Addr}{wi:Int}{lj:List (List Int×Int)}{i:Nat}{us:List V}(b1:H b=some (.tup [.int wi,.ref qm,.ref qp]))(hB:BoxAt H b wi ms lj)(g:Good 16 32 wi ms lj)(hm:H m=some (.lst ((mus ms wi.toNat).map V.int)))(tab0:TabL H tb)(hi:i<(mus ms wi.toNat).length)(S:WhS wi ms lj tb la H H' i ca ta us lvs cs L t)(q:WhlT wi ms lj tb H D.rt)
  (nx:∀ca' ta' us' lvs' cs' L' t' H2 v6 v7 v8,WhS wi ms lj tb la H H2 (i+1) ca' ta' us' lvs' cs' L' t'->D.nx [some (.ref b),some (.ref m),some (.ref ca'),some (.ref ta'),some (.ref la),some (.int (i:Int)),v6,v7,v8] H2):
  (whL G PY hr).1 D [some (.ref b),some (.ref m),some (.ref ca),some (.ref ta),some (.ref la),some (.int (i:Int)),v6,v7,v8] H':=by
 have mul:=jBJ ms wi.toNat
 have w1:=g.w1
 have pl:=g.pl
 obtain⟨z1,z2,z3,z4⟩:=jFP i (by lia)
 have ul:=All2.len S.cc
 have few:=S.w.few
 refine⟨_,rfl,_,rfl,ca,i,_,bR i,us,cs,rfl,S.c,S.cc,by lia,S.w.lc,by lia,by lia,S.w.bc,z1,S.tab,λpt Fa Da fs ds Fc Dc H1 hpt hF hcF hD hcD led f1 hAB e1 tab1 nF nD=>?_⟩
 have kl:∀{c:Addr}{xs:List V},H' c=some (.lst xs)->H1 c=some (.lst xs):=λh=>e1 _ _ h (yQ S.tab h)
 have kt:∀{c:Addr}{xs:List V},H' c=some (.tup xs)->H1 c=some (.tup xs):=λh=>e1 _ _ h (qE S.tab h)
 have hl1:=kl S.l
 have hL1:All2 (LeadN la H1) lvs L:=S.ll.imp λv pc ⟨x,y,e,hx,hy,ne⟩=>⟨x,y,e,kt hx,kl hy,ne⟩
 have fN:Fa≠la:=λz=>by rw[z,S.l] at nF;cases nF
 have dN:Da≠la:=λz=>by rw[z,S.l] at nD;cases nD
 have cN:∀{us:List V}{cs:List (List Int)},ColsA H1 us cs->(∀c∈cs,c.length=(mus ms wi.toNat).length+lj.length)->∀z∈us,z≠.ref la:=λ{us cs} hc hlen z hz e=>by
  obtain⟨k,hk⟩:=cg hz
  obtain⟨c,hc',x,ex,hx⟩:=All2.get' hc hk
  rw[e] at ex
  cases ex
  rw[hl1] at hx
  have hx:lvs=c.map V.int:=by cases hx;rfl
  have cl:=hlen c (aH hc')
  obtain⟨y,ys,ec⟩:∃y ys,c=y::ys:=by
   cases c with
   |nil=>simp at cl;lia
   |cons y ys=>exact⟨y,ys,rfl⟩
  rw[ec] at hx
  obtain⟨pc,_,x',y',e',_⟩:=All2.get' hL1 (show lvs[0]?=some (V.int y) by rw[hx];rfl)
  cases e'
 refine⟨_,rfl,pt,_,1,_,rfl,rfl,SqT.of hpt,rfl,?_⟩
 refine⟨_,rfl,pt,_,0,_,rfl,rfl,SqT.of hpt,rfl,Fa,rfl,⟨_,SqL.of hF⟩,?_⟩
 have fl:=All2.len hcF
 refine jC5 (xs:=fs) (λσ=>∃v,σ=[v,some (.int (i:Int))]) (mapZ Fc λc=>V.int (cA c i)) (mapZ.ok _ _) hF (by rw[ar];lia) ⟨_,rfl⟩ ?_ ?_
 .rintro j x σ' H2 zs hx ⟨v,rfl⟩ e2 hz S1 S2 y1 n1
  obtain⟨c,hc,a,rfl,ha⟩:=All2.get' hcF hx
  dsimp only[kI,yH]
  rw[ai rfl]
  refine⟨_,rfl,_,rfl,a,_,_,_,rfl,rfl,SqL.of (e2 _ _ ha),qL (by rw[led.len c (aE _ (aH hc))];lia),?_⟩
  exact y1 _ _ _ ⟨_,rfl⟩ (Ext.refl _) (hz.yes hc)
 .rintro D2 H2 zs h2 e2 n2 hz
  have hz:=hz.all (by lia)
  have h2':H2 D2=some (.lst ((Fc.map λc=>cA c i).map V.int)):=by rw[h2,hz,b8];rfl
  refine⟨D2,_,rfl,SqL.of h2',?_⟩
  refine jN7 (ca:=Da) (ps:=[]) G PY hr b1 hB g hm (λc o h n=>e2 _ _ (e1 _ _ (S.kp _ _ h n) n)) tab0 (tab1.ext e2) S.nl (e2 _ _ hpt) (e2 _ _ hF) (hcF.ext e2) (e2 _ _ hD) (hcD.ext e2) (e2 _ _ (kl S.t)) (e2 _ _ hl1) (hL1.imp λv pc ⟨x,y,e,hx,hy,ne⟩=>⟨x,y,e,e2 _ _ hx,e2 _ _ hy,ne⟩) S.w led f1 hAB hi S.nt dN fN (cN hcF λc hc=>led.len c (aE _ hc)) (cN hcD λc hc=>led.len c (am _ hc)) S.few q λta' lvs' L' t' H3 v8 S3=>nx Da ta' ds lvs' Dc L' t' H3 _ _ v8 S3
end
def spWhl(tb:Addr):Sp:=λvs H Q _=>∃(b:Addr) (wi:Int) (ms:List Int) (lj:List (List Int×Int)),vs=[.ref b]/\BoxAt H b wi ms lj/\Good 16 32 wi ms lj/\TabL H tb/\WhlT wi ms lj tb H Q
def cutN(h:n<=t.length):cutV (t.map V.int) (some (n:Int)) none=(t.drop n).map V.int:=by
 unfold cutV
 rw[HT.sIx_nat,HT.sIx_none,aa,Nat.min_eq_left h,<- gq,bf (by rw[aa,cB];exact ak _)]
def jIW(n:Nat)(x:Int):(replicate n [V.int x]).flatten=(replicate n x).map V.int:=by
 induction n with
 |zero=>rfl
 |succ n ih=>rw[ck,ck,dL,ih];rfl
theorem jT1(F:Fun K "wholes" "wholes" yT f fd)(G:WG P w K mg base tb fM fF fL fG fH fK fdM fdF fdL fdG fdH fdK):FnOk P w K mg base CX0 35 f fd ["box"] (spWhl tb):=by
 refine F.ok scWhP (λvs H Q E h=>?_) (λcdv A outer s H vs Q E hr h=>?_)
 .obtain⟨_,_,_,_,rfl,_⟩:=h
  rfl
 .obtain⟨b,wi,ms,lj,rfl,hB,g,tab,q⟩:=h
  have PY:=pylOf (f:=f) (cdv:=cdv) (A:=A) (outer:=outer) (s:=s) (H0:=H) (E:=E) (N:=nWhP) (q:= "wholes") (st:=yT) (w:=w) (base:=base) G.S (hr.mono (by decide)) rfl rfl
  refine⟨_,(whA G PY hr).2.h,?_⟩
  obtain⟨qm,qp,ps,b1,b2,b3,b4⟩:=id hB.ex
  have psl:=b4.len
  have w0:=g.w0
  have w1:=g.w1
  have pl:=g.pl
  have mul:=jBJ ms wi.toNat
  refine⟨_,rfl,b,qm,_,wi,ms,rfl,b1,b2,w0,by lia,λm nm=>?_⟩
  have e1:Ext H (L2.upd H m (.lst ((mus ms wi.toNat).map V.int))):=(Ext.refl _).new nm _
  have d1:(L2.upd H m (.lst ((mus ms wi.toNat).map V.int))) m=some (.lst ((mus ms wi.toNat).map V.int)):=j5
  generalize L2.upd H m (.lst ((mus ms wi.toNat).map V.int))=H1 at e1 d1
  refine⟨_,rfl,_,rfl,b,m,wi,ms,mus ms wi.toNat,lj,rfl,hB.mono e1.tups,g,d1,by lia,λca us H2 d2 hc2 e2 n2=>?_⟩
  have E2:=e1.trans e2
  refine⟨by show (1:Nat)<=_;decide,λq3 H3 d3 e3 n3=>?_⟩
  have E3:=E2.trans e3
  refine⟨_,rfl,m,_,rfl,.inl (SqL.of (e3 _ _ (e2 _ _ d1))),q3,((mus ms wi.toNat).length:Int),[.int 1],rfl,by rw[aa],d3,by lia,by lia,by rw[ar];show 1*_<=_;lia,λq4 n4=>?_⟩
  rw[bY,jIW]
  have e4:Ext H3 (L2.upd H3 q4 (.lst ((replicate (mus ms wi.toNat).length (1:Int)).map V.int))):=(Ext.refl _).new n4 _
  have d4:(L2.upd H3 q4 (.lst ((replicate (mus ms wi.toNat).length (1:Int)).map V.int))) q4=some (.lst ((replicate (mus ms wi.toNat).length (1:Int)).map V.int)):=j5
  generalize L2.upd H3 q4 (.lst ((replicate (mus ms wi.toNat).length (1:Int)).map V.int))=H4 at e4 d4
  have E4:=E3.trans e4
  refine⟨by show (1:Nat)<=_;decide,λq5 H5 d5 e5 n5=>?_⟩
  have E5:=E4.trans e5
  refine⟨_,rfl,b,_,2,_,rfl,rfl,SqT.of (E5 _ _ b1),rfl,qp,_,rfl,.inr (SqT.of (E5 _ _ b3)),q5,(lj.length:Int),[.int 0],rfl,by rw[psl],d5,by lia,by lia,by rw[ar];show 1*_<=_;lia,λq6 n6=>?_⟩
  rw[bY,jIW]
  have e6:Ext H5 (L2.upd H5 q6 (.lst ((replicate lj.length (0:Int)).map V.int))):=(Ext.refl _).new n6 _
  have d6:(L2.upd H5 q6 (.lst ((replicate lj.length (0:Int)).map V.int))) q6=some (.lst ((replicate lj.length (0:Int)).map V.int)):=j5
  generalize L2.upd H5 q6 (.lst ((replicate lj.length (0:Int)).map V.int))=H6 at e6 d6
  have E6:=E5.trans e6
  refine⟨q4,q6,_,_,rfl,rfl,e6 _ _ (e5 _ _ d4),d6,by rw[aa,aa,cW,cW,ar];lia,λta H7 d7 e7 n7=>?_⟩
  have d7:H7 ta=some (.lst ((tgt0 (mus ms wi.toNat).length lj.length).map V.int)):=by rw[d7];unfold tgt0;rw[aC]
  have E7:=E6.trans e7
  refine⟨bb _,λla H8 d8 e8 n8=>?_⟩
  have E8:=E7.trans e8
  have c28:Ext H2 H8:=((((e3.trans e4).trans e5).trans e6).trans e7).trans e8
  have c27:Ext H2 H7:=(((e3.trans e4).trans e5).trans e6).trans e7
  have E18:=e2.trans c28
  have nla:H1 la=none:=newOf (e2.trans c27) n8
  have n2la:H2 la=none:=newOf c27 n8
  have S0:WhS wi ms lj tb la H1 H8 0 ca ta us [] ((List.range lj.length).map (fcol (mus ms wi.toNat) lj)) [] (tgt0 (mus ms wi.toNat).length lj.length):=by
   refine⟨c28 _ _ d2,hc2.ext c28,e8 _ _ d7,d8,trivial,WI.first _ _,λz hz e=>?_,λz=>?_,λz=>?_,ak _,λc o h _=>E18 _ _ h,tab.ext E8,nla⟩
   .obtain⟨k,hk⟩:=cg hz
    obtain⟨c,hc',x,ex,hx⟩:=All2.get' hc2 hk
    rw[e] at ex
    cases ex
    rw[n2la] at hx;cases hx
   .rw[z,n2la] at d2;cases d2
   .rw[z,n8] at d7;cases d7
  have q1:WhlT wi ms lj tb H1 Q:=⟨λr q' xs H' a1 a2 a3 a4 a5=>q.1 r q' xs H' a1 a2 a3 (λc o h n=>a4 _ _ (e1 _ _ h) n) a5,λr h' q' M hs H' a1 a2 a3 a4 a5 a6=>q.2 r h' q' M hs H' a1 a2 a3 a4 (λc o h n=>a5 _ _ (e1 _ _ h) n) a6⟩
  refine⟨_,rfl,m,_,rfl,.inl (SqL.of (E18 _ _ d1)),((mus ms wi.toNat).length:Int),by rw[aa],by lia,by lia,jA7 (lo:=0) (n:=(mus ms wi.toNat).length) (λi σ H'=>∃ca ta us lvs cs L t v5 v6 v7 v8,σ=[some (.ref b),some (.ref m),some (.ref ca),some (.ref ta),some (.ref la),v5,v6,v7,v8]/\WhS wi ms lj tb la H1 H' i ca ta us lvs cs L t) ⟨_,_,_,_,_,_,_,_,_,_,_,rfl,S0⟩ ?_ ?_⟩
  .rintro i σ H9 hi ⟨ca,ta,us,lvs,cs,L,t,v5,v6,v7,v8,rfl,S⟩
   have e0:(0+(i:Int))=(i:Int):=by lia
   show (whL G PY hr).1 _ [some (.ref b),some (.ref m),some (.ref ca),some (.ref ta),some (.ref la),some (.int (0+(i:Int))),v6,v7,v8] H9
   rw[e0]
   exact jN5 G PY hr (e1 _ _ b1) (hB.mono e1.tups) g d1 (tab.ext e1) hi S q1 λca' ta' us' lvs' cs' L' t' H2 v6 v7 v8 S'=>⟨_,_,_,_,_,_,_,_,_,_,_,rfl,S'⟩
  .rintro σ H9 ⟨ca,ta,us,lvs,cs,L,t,v5,v6,v7,v8,rfl,S⟩
   have hm9:=S.kp _ _ d1 (yQ (tab.ext e1) d1)
   refine⟨_,rfl,_,rfl,m,_,rfl,.inl (SqL.of hm9),((mus ms wi.toNat).length:Int),by rw[aa],?_⟩
   dsimp only[jEE]
   refine⟨ta,_,rfl,SqL.of S.t,λq9 n9=>?_⟩
   rw[cutN (by rw[S.w.lt];lia)]
   have eA:Ext H9 (L2.upd H9 q9 (.lst ((t.drop (mus ms wi.toNat).length).map V.int))):=(Ext.refl _).new n9 _
   have dA:(L2.upd H9 q9 (.lst ((t.drop (mus ms wi.toNat).length).map V.int))) q9=some (.lst ((t.drop (mus ms wi.toNat).length).map V.int)):=j5
   generalize L2.upd H9 q9 (.lst ((t.drop (mus ms wi.toNat).length).map V.int))=HA at eA dA
   have tl:=S.w.lt
   refine⟨q9,rfl,⟨_,SqL.of dA⟩,jC5 (xs:=(t.drop (mus ms wi.toNat).length).map V.int) (λσ=>∃v,σ=[v]) (mapZ (t.drop (mus ms wi.toNat).length) λx=>V.int (-x)) (mapZ.ok _ _) dA (by rw[aa,cB,ar];lia) ⟨_,rfl⟩ ?_ ?_⟩
   .rintro j x σ' H2 zs hx ⟨v,rfl⟩ e2 hz S1 S2 y1 n1
    obtain⟨x,hx',rfl⟩:=int_at hx
    dsimp only[kI,yH]
    rw[ai rfl]
    exact⟨_,rfl,_,rfl,y1 _ _ _ ⟨_,rfl⟩ (Ext.refl _) (hz.yes hx')⟩
   .rintro DB HB zs hb eB nB hz
    have hz:=hz.all (by rw[aa];exact ak _)
    have hb':HB DB=some (.lst (((t.drop (mus ms wi.toNat).length).map λx=> -x).map V.int)):=by rw[hb,hz,b8];rfl
    refine⟨DB,_,rfl,.inl ⟨SqL.of hb',λqC nC=>?_⟩⟩
    have eC:Ext HB (L2.upd HB qC (.tup (((t.drop (mus ms wi.toNat).length).map λx=> -x).map V.int))):=(Ext.refl _).new nC _
    have dC:(L2.upd HB qC (.tup (((t.drop (mus ms wi.toNat).length).map λx=> -x).map V.int))) qC=some (.tup (((t.drop (mus ms wi.toNat).length).map λx=> -x).map V.int)):=j5
    generalize L2.upd HB qC (.tup (((t.drop (mus ms wi.toNat).length).map λx=> -x).map V.int))=HC at eC dC
    refine⟨by show (2:Nat)<=_;decide,λr HD dD eD=>?_⟩
    have E:=((eA.trans eB).trans eC).trans eD
    exact q1.1 r qC _ HD dD (eD _ _ dC) S.w.wholes (λc o h n=>E _ _ (S.kp _ _ h n)) (S.tab.ext E)
def thL(lk:Int->Int)(n:Nat)(L:Int):List Int:=((List.range n).filter λ(t:Nat)=>decide (lk t=L)).map λ(t:Nat)=>(t:Int)
def jHZ(lk:Int->Int)(n:Nat)(L:Int):thL lk (n+1) L=thL lk n L++(if lk n=L then [(n:Int)] else []):=by
 unfold thL
 rw[fg,cH,aC]
 congr 1
 rw[bL]
 by_cases h:lk n=L
 .rw[ai (ax h),ai h]
  rfl
 .rw[aj (λz=>h (aG z)),aj h]
  rfl
theorem mem_thL{L t:Int}:t∈thL lk n L↔0<=t/\t<n/\lk t=L:=by
 unfold thL
 rw[aQ]
 constructor
 .rintro ⟨u,hu,rfl⟩
  obtain⟨h1,h2⟩:=bo.mp hu
  have:=bq.mp h1
  exact⟨by lia,by lia,aG h2⟩
 .rintro ⟨h0,h1,h2⟩
  have e:((t.toNat:Nat):Int)=t:=by lia
  exact⟨t.toNat,bo.mpr ⟨bq.mpr (by lia),ax (by rw[e];exact h2)⟩,e⟩
theorem jNC(lk:Int->Int)(n:Nat)(L:Int):(thL lk n L).Pairwise (· < ·):=by
 unfold thL
 rw[cO]
 refine List.Pairwise.imp ?_ (List.Pairwise.filter _ (fO (n:=n)))
 intro a b h
 lia
def jPX(lk:Int->Int)(n:Nat)(L:Int):(thL lk n L).length<=n:=by
 unfold thL
 rw[aa]
 exact aY (bW _ _) (by rw[bI];exact ak _)
structure DkSt (H:Hp)(kvs:List (Key×V))(lk:Int->Int)(n:Nat):Prop where
 ks:∃ks:List Int,kvs.map (·.1)=ks.map Sum.inl/\ks.Nodup/\(∀L,L∈ks↔∃t:Nat,t<n/\lk t=L)/\ks.length<=n
 has:∀L,(∃t:Nat,t<n/\lk t=L)->∃a,valV kvs (Sum.inl L)=some (.ref a)/\H a=some (.tup ((thL lk n L).map V.int))
 no:∀L,(¬∃t:Nat,t<n/\lk t=L)->valV kvs (Sum.inl L)=none
theorem DkSt.nil(H:Hp)(lk:Int->Int):DkSt H [] lk 0:=
 ⟨⟨[],rfl,List.nodup_nil,λL=>⟨λz=>(by cases z),λ⟨t,h,_⟩=>(by lia)⟩,ak _⟩,λL ⟨t,h,_⟩=>by lia,λL _=>rfl⟩
def DkSt.mono(d:DkSt H kvs lk n)(t:Tups H H'):DkSt H' kvs lk n:=
 ⟨d.ks,λL h=>let ⟨a,h1,h2⟩:=d.has L h;⟨a,h1,t _ _ h2⟩,d.no⟩
def jKP{k:Key}(v:V)(h:k∈kvs.map (·.1)):(putK kvs k v).map (·.1)=kvs.map (·.1):=by
 unfold putK
 obtain⟨p,hp,e⟩:=aQ.mp h
 rw[ai (gd.mpr ⟨p,hp,ax e⟩),b8]
 apply eZ
 intro q _
 show (if q.1=k then (q.1,v) else q).1=q.1
 split<;>rfl
theorem jND{L:Int}(h:¬∃t:Nat,t<n/\lk t=L):thL lk n L=[]:=by
 rw[List.eq_nil_iff_forall_not_mem]
 intro t ht
 obtain⟨h0,h1,h2⟩:=mem_thL.mp ht
 exact h ⟨t.toNat,by lia,by rw[show ((t.toNat:Nat):Int)=t by lia];exact h2⟩
theorem DkSt.put(d:DkSt H kvs lk n)(t:Tups H H')(h:H' a=some (.tup ((thL lk (n+1) (lk n)).map V.int))):DkSt H' (putK kvs (Sum.inl (lk n)) (.ref a)) lk (n+1):=by
 obtain⟨ks,h1,h2,h3,h4⟩:=d.ks
 have split:∀L,(∃t:Nat,t<n+1/\lk t=L)↔(∃t:Nat,t<n/\lk t=L)\/lk n=L:=λL=>by
  constructor
  .rintro ⟨u,hu,e⟩
   by_cases z:u=n
   .subst z;exact .inr e
   .exact .inl ⟨u,by lia,e⟩
  .rintro (⟨u,hu,e⟩|e)
   .exact⟨u,by lia,e⟩
   .exact⟨n,by lia,e⟩
 refine⟨?_,λL hL=>?_,λL hL=>?_⟩
 .by_cases hin:lk n∈ks
  .refine⟨ks,?_,h2,λL=>?_,by lia⟩
   .rw[jKP]
    .exact h1
    .rw[h1];exact bv hin
   .rw[split,h3]
    constructor
    .exact λz=> .inl z
    .rintro (z|z)
     .exact z
     .rw[<- h3,<- z];exact hin
  .have hno:valV kvs (Sum.inl (lk n))=none:=d.no _ (λz=>hin ((h3 _).mpr z))
   refine⟨ks++[lk n],?_,jLA h2 hin,λL=>?_,by rw[aK];show ks.length+1<=n+1;lia⟩
   .rw[jNM _ hno,aC,h1,aC]
    rfl
   .rw[split,az,h3,aW]
    exact⟨λz=>z.imp id Eq.symm,λz=>z.imp id Eq.symm⟩
 .rw[jHX]
  by_cases e:L=lk n
  .subst e
   exact⟨a,ai rfl,h⟩
  .rw[aj (λz=>e (kz z))]
   obtain⟨b,b1,b2⟩:=d.has L (((split L).mp hL).resolve_right λz=>e z.symm)
   refine⟨b,b1,?_⟩
   rw[jHZ,aj (λz=>e z.symm),bS]
   exact t _ _ b2
 .have hn2:¬lk n=L:=λz=>hL ((split L).mpr (.inr z))
  rw[jHX,aj (λz=>hn2 (kz z).symm)]
  exact d.no L λz=>hL ((split L).mpr (.inl z))
def kU(ps:List (List Int))(ns:List Int)(t:Int):Int:=1-(((ps.zip ns).filter λx=>decide (t∈x.1)).map Prod.snd).sum
def sumT(t:Int):List (List Int×Int)->Int
 |[]=>0
 |x::r=>(if t∈x.1 then x.2 else 0)+sumT t r
theorem jAI(t:Int):∀l:List (List Int×Int),((l.filter λx=>decide (t∈x.1)).map Prod.snd).sum=sumT t l
 |[]=>rfl
 |x::r=>by
  rw[bL]
  show _=(if t∈x.1 then x.2 else 0)+sumT t r
  by_cases h:t∈x.1
  .rw[ai (ax h),ai h,aP,dU,jAI t r]
  .rw[aj (λz=>h (aG z)),aj h,jAI t r,dv]
theorem jDC(t:Int):∀l m:List (List Int×Int),sumT t (l++m)=sumT t l+sumT t m
 |[],m=>by show sumT t m=0+sumT t m;lia
 |x::r,m=>by
  show (if t∈x.1 then x.2 else 0)+sumT t (r++m)=(if t∈x.1 then x.2 else 0)+sumT t r+sumT t m
  rw[jDC t r m]
  lia
theorem jKF(t:Int){m:List (List Int×Int)}(h:l.Perm m):sumT t l=sumT t m:=by
 induction h with
 |nil=>rfl
 |cons x _ ih=>show _+_=_+_;rw[ih]
 |swap x y l=>show _+(_+_)=_+(_+_);lia
 |trans _ _ a b=>exact a.trans b
theorem jDZ(lk:Int->Int)(n:Nat)(t:Int)(h0:0<=t)(h1:t<n):∀Ls:List Int,Ls.Nodup->sumT t (Ls.map λL=>(thL lk n L,L))=if lk t∈Ls then lk t else 0
 |[],_=>by rw[aj (λz=>by cases z)];rfl
 |L::Ls,hn=>by
  obtain⟨a,b⟩:=cG.mp hn
  show (if t∈thL lk n L then L else 0)+sumT t (Ls.map λL=>(thL lk n L,L))=_
  rw[jDZ lk n t h0 h1 Ls b]
  by_cases e:lk t=L
  .rw[ai (mem_thL.mpr ⟨h0,h1,e⟩),aj (by rw[e];exact a),ai (by rw[e];exact au),e]
   lia
  .rw[aj (λz=>e (mem_thL.mp z).2.2),dv]
   by_cases i:lk t∈Ls
   .rw[ai i,ai (av _ i)]
   .rw[aj i,aj (λz=>by rcases ay.mp z with z|z;exact e z;exact i z)]
theorem jH5{ps:List (List Int)}{ns Ls:List Int}{t:Int}(h0:0<=t)(h1:t<n)(hn:Ls.Nodup)(hm:∀L,L∈Ls↔L≠0/\∃u:Nat,u<n/\kU ps ns u=L):
  sumT t (ps.zip ns++Ls.map λL=>(thL (kU ps ns) n L,L))=1:=by
 rw[jDC,jDZ (kU ps ns) n t h0 h1 Ls hn]
 have e:kU ps ns t=1-sumT t (ps.zip ns):=by unfold kU;rw[jAI]
 by_cases z:kU ps ns t=0
 .rw[aj (λq=>((hm _).mp q).1 z)]
  lia
 .rw[ai ((hm _).mpr ⟨z,t.toNat,by lia,by rw[show ((t.toNat:Nat):Int)=t by lia]⟩)]
  lia
theorem jGU(t:Int):∀(l:List (List Int×Int)),(((l.map Prod.snd).zip (l.map λx=>(x.1,(0:Int)))).filter λx=>decide (t∈x.2.1)).map Prod.fst=(l.filter λx=>decide (t∈x.1)).map Prod.snd
 |[]=>rfl
 |x::r=>by
  rw[aP,aP,dE,bL,bL]
  by_cases h:t∈x.1
  .rw[ai (ax h),ai (ax h),aP,aP,jGU t r]
  .rw[aj (λz=>h (aG z)),aj (λz=>h (aG z)),jGU t r]
theorem jH9{m:List (List Int×Int)}{t:Int}(h:m.Perm l)(h1:sumT t l=1):(wL (m.map Prod.snd) (m.map λx=>(x.1,(0:Int))) t m.length).sum=1:=by
 unfold wL
 rw[bf (by rw[cU,aa,aa];lia),jGU,jAI,jKF t h,h1]
end Eo
namespace L2
open PySem
def jPZ{ks:List (Option Expr)}{vs:List Expr}{pos:Pos}{o:Option Expr}:SwOk (.Dict ks vs pos) o:=⟨λ_ _=>rfl⟩
end L2
namespace Eo
open PySem L2
variable {ps:List (List Int)}{ns os:List Int}{vs:List V}{p pl nl d ol:Addr}{H H1:Hp}{v2 v1 v8 v7 v10 v9 v6:Option V}{D:Ends}{wi t L:Int}{kvs:List (Key×V)}{n c i:Nat}{lk:Int->Int}{v:V}
def LtAt(H:Hp)(v:V)(ts:List Int):Prop:=∃q,v=.ref q/\H q=some (.tup (ts.map V.int))
def LtsAt(H:Hp):List V->List (List Int)->Prop
 |[],[]=>True
 |v::vs,p::ps=>LtAt H v p/\LtsAt H vs ps
 |_,_=>False
def LtsAt.mono{H':Hp}(t:Tups H H'):∀{vs:List V}{ps:List (List Int)},LtsAt H vs ps->LtsAt H' vs ps
 |[],[],_=>trivial
 |v::vs,p::ps,h=>⟨let ⟨q,e,h1⟩:=h.1;⟨q,e,t _ _ h1⟩,LtsAt.mono t h.2⟩
 |[],_::_,h=>h.elim
 |_::_,[],h=>h.elim
def LtsAt.snoc{p:List Int}(hv:LtAt H v p):∀{vs:List V}{ps:List (List Int)},LtsAt H vs ps->LtsAt H (vs++[v]) (ps++[p])
 |[],[],_=>⟨hv,trivial⟩
 |x::vs,q::ps,h=>⟨h.1,LtsAt.snoc hv h.2⟩
 |[],_::_,h=>h.elim
 |_::_,[],h=>h.elim
def LtsAt.len:∀{vs:List V}{ps:List (List Int)},LtsAt H vs ps->vs.length=ps.length
 |[],[],_=>rfl
 |x::vs,q::ps,h=>bB (· +1) (LtsAt.len h.2)
 |[],_::_,h=>h.elim
 |_::_,[],h=>h.elim
def LtsAt.at{H:Hp}:∀{vs:List V}{ps:List (List Int)},LtsAt H vs ps->∀{i:Nat}{v:V},vs[i]?=some v->∃pc,ps[i]?=some pc/\LtAt H v pc
 |[],[],_,i,v,e=>by cases e
 |x::vs,p::ps,h,0,v,e=>by cases e;exact⟨p,rfl,h.1⟩
 |x::vs,p::ps,h,i+1,v,e=>LtsAt.at h.2 (i:=i) e
 |[],_::_,h,_,_,_=>h.elim
 |_::_,[],h,_,_,_=>h.elim
structure PSt (H H':Hp)(p pl nl:Addr)(vs:List V)(ps:List (List Int))(ns:List Int):Prop where
 pot:∃N:Int,0<=N/\H' p=some (.lst [.int N])
 lj:H' pl=some (.lst vs)
 lts:LtsAt H' vs ps
 nums:H' nl=some (.lst (ns.map V.int))
 kp:Keep H H' p
structure PAp (H:Hp)(p pl nl:Addr):Prop where
 h:∃o,H p=some o
 fpl:H pl=none
 fnl:H nl=none
 ne:pl≠nl
def PAp.pp(a:PAp H p pl nl):pl≠p/\nl≠p:=by
 obtain⟨o,h⟩:=a.h
 exact⟨λz=>(by have:=a.fpl;rw[z,h] at this;cases this),λz=>(by have:=a.fnl;rw[z,h] at this;cases this)⟩
def PSt.ext{H2:Hp}(S:PSt H H1 p pl nl vs ps ns)(e:Ext H1 H2):PSt H H2 p pl nl vs ps ns:=
 ⟨let ⟨N,a,b⟩:=S.pot;⟨N,a,e _ _ b⟩,e _ _ S.lj,S.lts.mono e.tups,e _ _ S.nums,λc u h n=>e _ _ (S.kp c u h n)⟩
def PSt.upd(S:PSt H H1 p pl nl vs ps ns)(ap:PAp H p pl nl)(hd:H d=none)(d1:d≠pl)(d2:d≠nl)(ht:∀xs,H1 d≠some (.tup xs))(o:HO):PSt H (L2.upd H1 d o) p pl nl vs ps ns:=by
 obtain⟨u,hu⟩:=ap.h
 have dp:p≠d:=λz=>by rw[z,hd] at hu;cases hu
 refine⟨?_,by rw[j7 (bO d1)];exact S.lj,S.lts.mono λb xs h=>?_,by rw[j7 (bO d2)];exact S.nums,λc u h n=>?_⟩
 .obtain⟨N,a,b⟩:=S.pot
  exact⟨N,a,by rw[j7 dp];exact b⟩
 .rw[j7 (λz=>ht xs (by rw[<- z];exact h))]
  exact h
 .rw[j7 (λz=>by rw[z,hd] at h;cases h)]
  exact S.kp c u h n
abbrev jAX:List Str:=["pot","most_things","most_pieces","wide","pieces","numbers","lacks","thing","lack","order","k"]
def scPlanted:FnScope jAX ["pot","most_things","most_pieces"] (jB yA):= {}
abbrev XPl(P:Program)(w:World)(K:W.Frag)(mg:Str->Option Value)(base:Heap)(f:Addr)(cdv:Value)(A:Around)(outer:List Env)(s:Shared)(H:Hp)(E:XK):Cx:=XOf jAX "_law_planted" yA P w K mg base f cdv A outer s H E
abbrev jKU(i:Nat):List Stmt:=qH ((jE yA).getD i (.Pass ⟨0,0,0,0⟩))
def pl4(T:Txt mg)(CT:Can P w K mg base "_law_take" 1 fT fdT ["pot","wide"] jS)(CL:Can P w K mg base "_law_lot" 2 fL fdL ["pot","wide"] kT)(hr:Room 2 (XPl P w K mg base f cdv A outer s H0 E).A): {t:TS // JSs (XPl P w K mg base f cdv A outer s H0 E) (jKU 4) t}:=
 have nd:=scPlanted.nd
 ⟨_,(jA (jL (i:=8) nd rfl lL (jW jBX (j9) (jF (jAA rfl) gD T.sum (by decide+kernel) (j3 (kJ (m:=[none,none,some 7]) (Nc:=["piece","number","thing"]) rfl (jIM gD T.zip (j3 (jv 4 rfl vC) (j3 (jv 5 rfl vC) j6 j4) j4) j4) rfl (by decide+kernel) (by decide+kernel) (jQ (psc:=jB yA)) (jH (N:=jAX) rfl rfl (by decide+kernel)) (λcl C fp s H=>jDO (i:=0) (j:=1) rfl (show (["piece","number","thing"]:List Str).Nodup by decide+kernel) rfl rfl (by decide+kernel) (by decide+kernel)) (λcl C fp s H=>jAP (jM jHB (jv 2 rfl jX) (jv 0 rfl jV) jL8)) (λcl C fp s H=>(jv 1 rfl jV)) kQ) j6 jP) jP)) jBP)
   (jC (jRF (hu_of hr) (jv 6 rfl vL) (jv 8 rfl vL) (jW jER (jOL (hu_of hr) (jv 6 rfl vL) (jv 8 rfl vL) (kW j6) j4 qR) (kW (j3 (jv 7 rfl vC) j6 j4))) jBP)))⟩
def pl5(T:Txt mg)(CT:Can P w K mg base "_law_take" 1 fT fdT ["pot","wide"] jS)(CL:Can P w K mg base "_law_lot" 2 fL fdL ["pot","wide"] kT)(hr:Room 2 (XPl P w K mg base f cdv A outer s H0 E).A): {t:TS // JSs (XPl P w K mg base f cdv A outer s H0 E) (jKU 5) t}:=
 have nd:=scPlanted.nd
 ⟨_,(jC (qD (jM qS (jv 8 rfl vL) (j9) (jT _)) (jA (jAQ (xC bD cZ da jAJ (jv 4 rfl vC) (j3 (jRI (hu_of hr) (jv 6 rfl vL) (jv 8 rfl vL) kN) j6 jR) jR) jZ)
   (jC (jAQ (xC bD cZ da jAJ (jv 5 rfl vC) (j3 (jv 8 rfl vL) j6 j4) j4) jZ))) yC))⟩
def pl7(T:Txt mg)(CT:Can P w K mg base "_law_take" 1 fT fdT ["pot","wide"] jS)(CL:Can P w K mg base "_law_lot" 2 fL fdL ["pot","wide"] kT)(hr:Room 2 (XPl P w K mg base f cdv A outer s H0 E).A): {t:TS // JSs (XPl P w K mg base f cdv A outer s H0 E) (jKU 7) t}:=
 have nd:=scPlanted.nd
 ⟨_,(jC (jAQ (xC bD dR dS jBY (jv 9 rfl vL) (j3 (CT.je (hr.mono (by decide)) gD (j3 (jv 0 rfl vC) (j3 (jW yB (jv 10 rfl vL) (j9)) j6 yD) j4) j4) (j3 (jv 10 rfl vL) j6 j4) jG) jG) jZ))⟩
def plE(T:Txt mg)(CT:Can P w K mg base "_law_take" 1 fT fdT ["pot","wide"] jS)(CL:Can P w K mg base "_law_lot" 2 fL fdL ["pot","wide"] kT)(hr:Room 2 (XPl P w K mg base f cdv A outer s H0 E).A): {t:TS // JSs (XPl P w K mg base f cdv A outer s H0 E) ((jE yA).drop 8) t}:=
 have nd:=scPlanted.nd
 ⟨_,(jC (kD (yL (j3 (kW (j3 (jv 3 rfl vC) (j3 (kW j6) (j3 (kG jO gD T.tuple (by decide+kernel) (j3 (kJ (m:=[none,some 4]) (Nc:=["k","pieces"]) rfl (yK (jv 9 rfl vL)) rfl (by decide+kernel) (by decide+kernel) (jQ (psc:=jB yA)) (jH (N:=jAX) rfl rfl (by decide+kernel)) (λcl C fp s H=>jJ (i:=0) (show (["k","pieces"]:List Str).Nodup by decide+kernel) rfl yG) (λcl C fp s H=>kO) (λcl C fp s H=>(kW (j3 (jK yN (jv 1 rfl jX) (jv 0 rfl jV) kN) (j3 (j9) j6 jI) jR))) yM) j6 jP) jP) j6 jG) qR) j4)) (j3 (kG jO gD T.tuple (by decide+kernel) (j3 (kJ (m:=[none,some 5]) (Nc:=["k","numbers"]) rfl (yK (jv 9 rfl vL)) rfl (by decide+kernel) (by decide+kernel) (jQ (psc:=jB yA)) (jH (N:=jAX) rfl rfl (by decide+kernel)) (λcl C fp s H=>jJ (i:=0) (show (["k","numbers"]:List Str).Nodup by decide+kernel) rfl yG) (λcl C fp s H=>kO) (λcl C fp s H=>(jK yN (jv 1 rfl jX) (jv 0 rfl jV) kN)) yM) j6 jP) jP) j6 jG) qR))))⟩
def plD(T:Txt mg)(CT:Can P w K mg base "_law_take" 1 fT fdT ["pot","wide"] jS)(CL:Can P w K mg base "_law_lot" 2 fL fdL ["pot","wide"] kT)(hr:Room 2 (XPl P w K mg base f cdv A outer s H0 E).A): {t:TS // JSs (XPl P w K mg base f cdv A outer s H0 E) ((jE yA).drop 6) t}:=
 have nd:=scPlanted.nd
 ⟨_,(jA (jL (i:=9) nd rfl lL (yL j6) jBA) (jA (yZ br rfl (kY gD T.range (j3 (jF jN gD T.len (by decide+kernel) (j3 (jv 4 rfl vC) j6 j4) j4) j6 jG) jG) (jJ (i:=10) nd rfl lL) (pl7 T CT CL hr).2 kQ) (plE T CT CL hr).2))⟩
def plC(T:Txt mg)(CT:Can P w K mg base "_law_take" 1 fT fdT ["pot","wide"] jS)(CL:Can P w K mg base "_law_lot" 2 fL fdL ["pot","wide"] kT)(hr:Room 2 (XPl P w K mg base f cdv A outer s H0 E).A): {t:TS // JSs (XPl P w K mg base f cdv A outer s H0 E) ((jE yA).drop 5) t}:=
 have nd:=scPlanted.nd
 ⟨_,(jA (yZ br rfl (yK (jF (jGC rfl) gD T.sorted (by decide+kernel) (j3 (jv 6 rfl vL) j6 j4) j4)) (jJ (i:=8) nd rfl lL) (pl5 T CT CL hr).2 kQ) (plD T CT CL hr).2)⟩
def plB(T:Txt mg)(CT:Can P w K mg base "_law_take" 1 fT fdT ["pot","wide"] jS)(CL:Can P w K mg base "_law_lot" 2 fL fdL ["pot","wide"] kT)(hr:Room 2 (XPl P w K mg base f cdv A outer s H0 E).A): {t:TS // JSs (XPl P w K mg base f cdv A outer s H0 E) ((jE yA).drop 3) t}:=
 have nd:=scPlanted.nd
 ⟨_,(jA (jL (i:=6) nd rfl lL (jOK) jPZ) (jA (yZ br rfl (kY gD T.range (j3 (jv 3 rfl vC) j6 j4) j4) (jJ (i:=7) nd rfl qI) (pl4 T CT CL hr).2 kQ) (plC T CT CL hr).2))⟩
def plA(T:Txt mg)(CT:Can P w K mg base "_law_take" 1 fT fdT ["pot","wide"] jS)(CL:Can P w K mg base "_law_lot" 2 fL fdL ["pot","wide"] kT)(hr:Room 2 (XPl P w K mg base f cdv A outer s H0 E).A): {t:TS // JSs (XPl P w K mg base f cdv A outer s H0 E) (jE yA) t}:=
 have nd:=scPlanted.nd
 ⟨_,(jA (jL (i:=3) nd rfl qI (jW yB (j9) (CT.je (hr.mono (by decide)) gD (j3 (jv 0 rfl vC) (j3 (jv 1 rfl vL) j6 j4) j4) j4)) jBP) (jA (jHJ (i:=4) nd rfl qI (kJ (m:=[none,some 0,some 3]) (Nc:=["k","pot","wide"]) rfl (kY gD T.range (j3 (jW yB (j9) (CT.je (hr.mono (by decide)) gD (j3 (jv 0 rfl vC) (j3 (jv 2 rfl vL) j6 j4) j4) j4)) j6 yD) yD) rfl (by decide+kernel) (by decide+kernel) (jQ (psc:=jB yA)) (jH (N:=jAX) rfl rfl (by decide+kernel)) (λcl C fp s H=>jJ (i:=0) (show (["k","pot","wide"]:List Str).Nodup by decide+kernel) rfl yG) (λcl C fp s H=>kO) (λcl C fp s H=>(CL.je hr gl_b (j3 (jv 1 rfl jX) (j3 (jv 2 rfl jX) j6 j4) j4) j4)) kQ) (by rfl)) (jA (jHJ (i:=5) nd rfl qI (kJ (m:=[none,some 0]) (Nc:=["piece","pot"]) rfl (yK (jv 4 rfl vC)) rfl (by decide+kernel) (by decide+kernel) (jQ (psc:=jB yA)) (jH (N:=jAX) rfl rfl (by decide+kernel)) (λcl C fp s H=>jJ (i:=0) (show (["piece","pot"]:List Str).Nodup by decide+kernel) rfl yG) (λcl C fp s H=>kO) (λcl C fp s H=>(jW jBX (CT.je (hr.mono (by decide)) gl_b (j3 (jv 1 rfl jX) (j3 (j9) j6 jI) j4) j4) (j9))) yM) (by rfl)) (plB T CT CL hr).2)))⟩
def pL(ps:List (List Int))(ns:List Int)(t:Int)(n:Nat):List Int:=(((ps.zip ns).take n).filter λx=>decide (t∈x.1)).map Prod.snd
theorem jSU(ps:List (List Int))(ns:List Int)(t:Int)(n:Nat):(pL ps ns t n).length<=n:=by
 unfold pL
 rw[aa]
 refine aY (bW _ _) ?_
 rw[aZ]
 lia
theorem jKW{a:Int}{j:Nat}{pc:List Int}(h1:ns[j]?=some a)(h2:ps[j]?=some pc):pL ps ns t (j+1)=pL ps ns t j++(if decide (t∈pc)=true then [a] else []):=by
 unfold pL
 have e:(ps.zip ns).take (j+1)=(ps.zip ns).take j++[(pc,a)]:=by
  rw[aX,show (ps.zip ns)[j]?=some (pc,a) from eW.mpr ⟨h2,h1⟩]
  rfl
 rw[e,cH,aC,bL]
 congr 1
 show List.map Prod.snd (if decide (t∈pc)=true then [(pc,a)] else [])=_
 split<;>rfl
theorem jSV(h:ns.length=ps.length)(hn:n=ps.length):1-(pL ps ns t n).sum=kU ps ns t:=by
 unfold pL kU
 rw[bf (by rw[cU];lia)]
theorem jNU(T:Txt mg)(CT:Can P w K mg base "_law_take" 1 fT fdT ["pot","wide"] jS)(CL:Can P w K mg base "_law_lot" 2 fL fdL ["pot","wide"] kT)(hr:Room 2 (XPl P w K mg base f cdv A outer s H0 E).A)
  (ap:PAp H p pl nl) (S:PSt H H1 p pl nl vs ps ns) (hd0:H d=none) (d1:d≠pl) (d2:d≠nl) (hd:H1 d=some (.dK kvs)) (dk:DkSt H1 kvs (kU ps ns) i) (hl:ns.length=ps.length) (h10:ps.length<=10) (i16:i<16)
  (nx:∀H' kvs' v8,PSt H H' p pl nl vs ps ns->H' d=some (.dK kvs')->DkSt H' kvs' (kU ps ns) (i+1)->D.nx [some (.ref p),v1,v2,some (.int wi),some (.ref pl),some (.ref nl),some (.ref d),some (.int i),v8,v9,v10] H'):
  (pl4 T CT CL hr).1 D [some (.ref p),v1,v2,some (.int wi),some (.ref pl),some (.ref nl),some (.ref d),some (.int i),v8,v9,v10] H1:=by
 have vl:=S.lts.len
 refine⟨_,rfl,_,rfl,false,false,pl,nl,rfl,⟨_,SqL.of S.lj⟩,⟨_,SqL.of S.nums⟩,jJ2 (xs:=vs) (ys:=ns.map V.int) (by rw[ar];lia) (λD j σ' H' zs=>(∃v1 v2,σ'=[v1,v2,some (.int i)])/\zs=(pL ps ns i j).map V.int/\Ext H1 H'/\H' D=some (.lst zs)/\H1 D=none) ?_ ?_ ?_ ?_⟩
 .intro D hD
  exact⟨⟨_,_,rfl⟩,rfl,(Ext.refl _).new hD _,j5,hD⟩
 .rintro D j σ' H' zs hD ⟨_,rfl,e,h2,_⟩
  exact⟨SqL.of (e _ _ S.lj),SqL.of (e _ _ S.nums),h2,by rw[aa];exact jSU _ _ _ _⟩
 .rintro D j σ' H' zs x y tt hD hxx hyy htt ⟨⟨v1,v2,rfl⟩,rfl,e,h2,hn2⟩
  obtain⟨z,hz,rfl⟩:∃z:Int,ns[j]?=some z/\V.int z=y:=by
   rw[aO] at hyy
   cases hq:ns[j]? with
   |none=>rw[hq] at hyy;cases hyy
   |some z=>rw[hq] at hyy;cases hyy;exact⟨z,rfl,rfl⟩
  obtain⟨pc,hpc,pq,rfl,c2⟩:=S.lts.at hxx
  have e':=e.new htt (.tup [.ref pq,.int z])
  have h2':(upd H' tt (.tup [.ref pq,.int z])) D=some (.lst ((pL ps ns i j).map V.int)):=by rw[j7 (j8 h2 htt)];exact h2
  refine⟨tt,_,rfl,SqT.of j5,rfl,_,_,rfl,_,_,rfl,rfl,?_⟩
  generalize upd H' tt (.tup [.ref pq,.int z])=H5 at e' h2' ⊢
  refine⟨_,rfl,_,rfl,pq,_,rfl,.inr (SqT.of (e' _ _ c2)),rfl,jB2 _,_,rfl,?_⟩
  show if inV (.int i) (pc.map V.int)=true then _ else _
  rw[jC1]
  refine ite2 (λhy=>?_) (λhy=>?_)
  .refine⟨_,rfl,h2',⟨_,_,rfl⟩,?_,e'.updNew hn2 _,j5,hn2⟩
   rw[jKW hz hpc,ai hy,aC]
   rfl
  .refine⟨⟨_,_,rfl⟩,?_,e',h2',hn2⟩
   rw[jKW hz hpc,aj hy,bS]
 .rintro D4 σ' H4 zs hD ⟨_,rfl,e4,h4,_⟩
  rw[aa,show min vs.length ns.length=ps.length by lia] at h4
  have eL:1-(pL ps ns i ps.length).sum=kU ps ns i:=jSV hl rfl
  have S4:=S.ext e4
  have hd4:=e4 _ _ hd
  have dk4:=dk.mono e4.tups
  refine⟨D4,_,rfl,SqL.of h4,_,_,rfl,rfl,?_⟩
  dsimp only
  rw[eL]
  refine⟨_,rfl,d,rfl,.inl ⟨_,.inl hd4⟩,_,rfl,(by show 0<=sizeLine;decide),λr5 H5 y5 x5=>?_⟩
  refine⟨_,DGet.k (k:=Sum.inl (kU ps ns i)) (x5 _ _ hd4),?_⟩
  refine⟨_,rfl,(by show 1<=sizeLine;decide),λr6 H6 y6 x6=>?_⟩
  have E6:=x5.trans x6
  obtain⟨q,hq,hq2⟩:∃q,(valV kvs (Sum.inl (kU ps ns i))).getD (.ref r5)=.ref q/\H6 q=some (.tup ((thL (kU ps ns) i (kU ps ns i)).map V.int)):=by
   by_cases hin:∃t:Nat,t<i/\kU ps ns t=kU ps ns i
   .obtain⟨a,a1,a2⟩:=dk4.has _ hin
    exact⟨a,by rw[a1];rfl,E6 _ _ a2⟩
   .rw[dk4.no _ hin,jND hin]
    exact⟨r5,rfl,x6 _ _ y5⟩
  have tl:=jPX (kU ps ns) i (kU ps ns i)
  rw[hq]
  refine⟨q,r6,_,_,rfl,rfl,hq2,y6,by rw[aa,ar];show _+1<=_;lia,λr7 H7 y7 x7=>?_⟩
  have E7:=E6.trans x7
  have hd7:=E7 _ _ hd4
  obtain⟨ks,k1,_,_,k4⟩:=dk4.ks
  have kl:kvs.length=ks.length:=by
   have:=bB List.length k1
   rwa [aa,aa] at this
  refine⟨_,rfl,_,rfl,d,_,rfl,DPut.k (k:=Sum.inl (kU ps ns i)) hd7 (by rw[ar];lia),?_⟩
  have ntup:∀xs,H7 d≠some (.tup xs):=λxs z=>by rw[hd7] at z;cases z
  refine nx _ _ _ ((S4.ext E7).upd ap hd0 d1 d2 ntup _) j5 ((dk4.mono E7.tups).put (λb xs h=>?_) ?_)
  .rw[j7 (λz=>ntup xs (by rw[<- z];exact h))]
   exact h
  .rw[j7 (λz=>ntup _ (by rw[<- z];exact y7)),jHZ,ai rfl,aC]
   exact y7
def PSt.app{t:List Int}(S:PSt H H1 p pl nl vs ps ns)(ap:PAp H p pl nl)(hv:LtAt H1 v t):PSt H (L2.upd H1 pl (.lst (vs++[v]))) p pl nl (vs++[v]) (ps++[t]) ns:=by
 obtain⟨a1,a2⟩:=ap.pp
 have tt:Tups H1 (L2.upd H1 pl (.lst (vs++[v]))):=λb xs h=>by
  rw[j7 (λz=>by rw[z,S.lj] at h;cases h)]
  exact h
 refine⟨?_,j5,LtsAt.snoc ?_ (S.lts.mono tt),by rw[j7 (bO ap.ne)];exact S.nums,λc u h n=>?_⟩
 .obtain⟨N,b1,b2⟩:=S.pot
  exact⟨N,b1,by rw[j7 (bO a1)];exact b2⟩
 .obtain⟨q,e,h⟩:=hv
  exact⟨q,e,tt _ _ h⟩
 .rw[j7 (λz=>by rw[z,ap.fpl] at h;cases h)]
  exact S.kp c u h n
def PSt.num{ms:List Int}(S:PSt H H1 p pl nl vs ps ns)(ap:PAp H p pl nl):PSt H (L2.upd H1 nl (.lst (ms.map V.int))) p pl nl vs ps ms:=by
 obtain⟨a1,a2⟩:=ap.pp
 have tt:Tups H1 (L2.upd H1 nl (.lst (ms.map V.int))):=λb xs h=>by
  rw[j7 (λz=>by rw[z,S.nums] at h;cases h)]
  exact h
 refine⟨?_,by rw[j7 ap.ne];exact S.lj,S.lts.mono tt,j5,λc u h n=>?_⟩
 .obtain⟨N,b1,b2⟩:=S.pot
  exact⟨N,b1,by rw[j7 (bO a2)];exact b2⟩
 .rw[j7 (λz=>by rw[z,ap.fnl] at h;cases h)]
  exact S.kp c u h n
def PSt.draw(S:PSt H H1 p pl nl vs ps ns)(ap:PAp H p pl nl){N:Int}(hN:0<=N):PSt H (L2.upd H1 p (.lst [.int N])) p pl nl vs ps ns:=by
 obtain⟨a1,a2⟩:=ap.pp
 obtain⟨M,b1,b2⟩:=S.pot
 refine⟨⟨N,hN,j5⟩,by rw[j7 a1];exact S.lj,S.lts.mono λb xs h=>?_,by rw[j7 a2];exact S.nums,λc u h n=>?_⟩
 .rw[j7 (λz=>by rw[z,b2] at h;cases h)]
  exact h
 .rw[j7 n]
  exact S.kp c u h n
def jID{k:Nat}(h:os.Perm ((List.range n).map λ(t:Nat)=>(t:Int))):(os.take k++(n:Int)::os.drop k).Perm ((List.range (n+1)).map λ(t:Nat)=>(t:Int)):=by
 refine ga.trans ?_
 rw[bg,fg,aC]
 exact(List.Perm.cons _ h).trans (hW _ _).symm
theorem jNT(T:Txt mg)(CT:Can P w K mg base "_law_take" 1 fT fdT ["pot","wide"] jS)(CL:Can P w K mg base "_law_lot" 2 fL fdL ["pot","wide"] kT)(hr:Room 2 (XPl P w K mg base f cdv A outer s H0 E).A)
  (ap:PAp H p pl nl) (S:PSt H H1 p pl nl vs ps ns) (hd:H1 d=some (.dK kvs)) (dk:DkSt H1 kvs lk n) (hL:∃t:Nat,t<n/\lk t=L) (b1:ps.length<=100) (b2:ns.length<=100)
  (nx:∀H' vs',PSt H H' p pl nl vs' (if L=0 then ps else ps++[thL lk n L]) (if L=0 then ns else ns++[L])->(∀b o,H1 b=some o->b≠pl->b≠nl->H' b=some o)->
   D.nx [some (.ref p),v1,v2,some (.int wi),some (.ref pl),some (.ref nl),some (.ref d),v7,some (.int L),v9,v10] H'):
  (pl5 T CT CL hr).1 D [some (.ref p),v1,v2,some (.int wi),some (.ref pl),some (.ref nl),some (.ref d),v7,some (.int L),v9,v10] H1:=by
 have vl:=S.lts.len
 refine⟨_,rfl,rfl,_,rfl,?_⟩
 by_cases h0:L=0
 .refine iteNS (by rw[h0]) ?_
  exact nx H1 vs (by rw[ai h0,ai h0];exact S) λb o h _ _=>h
 .refine iteNT (λz=>h0 (V.int.inj z)) ?_
  obtain⟨a,hv,ha⟩:=dk.has L hL
  refine⟨_,rfl,.inl ⟨rfl,_,SqL.of S.lj⟩,_,rfl,_,rfl,d,.ref a,rfl,by rw[<- hv];exact DGet.k (k:=Sum.inl L) hd,pl,vs,_,rfl,rfl,S.lj,by rw[ar];lia,?_⟩
  have S2:=S.app ap (v:=.ref a) (t:=thL lk n L) ⟨a,rfl,ha⟩
  refine⟨_,rfl,.inl ⟨rfl,_,SqL.of S2.nums⟩,_,rfl,nl,ns.map V.int,_,rfl,rfl,S2.nums,by rw[aa,ar];lia,?_⟩
  have S3:=S2.num ap (ms:=ns++[L])
  rw[aC] at S3
  refine nx _ (vs++[.ref a]) (by rw[aj h0,aj h0];exact S3) λb o h n1 n2=>?_
  rw[j7 n2,j7 n1]
  exact h
theorem jNS(T:Txt mg)(CT:Can P w K mg base "_law_take" 1 fT fdT ["pot","wide"] jS)(CL:Can P w K mg base "_law_lot" 2 fL fdL ["pot","wide"] kT)(hr:Room 2 (XPl P w K mg base f cdv A outer s H0 E).A)
  (ap:PAp H p pl nl) (S:PSt H H1 p pl nl vs ps ns) (ho:H1 ol=some (.lst (os.map V.int))) (o0:H ol=none) (o1:ol≠pl) (o2:ol≠nl) (hi:i<=100) (hp:os.Perm ((List.range i).map λ(t:Nat)=>(t:Int)))
  (nx:∀H' (os':List Int),PSt H H' p pl nl vs ps ns->H' ol=some (.lst (os'.map V.int))->os'.Perm ((List.range (i+1)).map λ(t:Nat)=>(t:Int))->
   D.nx [some (.ref p),v1,v2,some (.int wi),some (.ref pl),some (.ref nl),v6,v7,v8,some (.ref ol),some (.int i)] H'):
  (pl7 T CT CL hr).1 D [some (.ref p),v1,v2,some (.int wi),some (.ref pl),some (.ref nl),v6,v7,v8,some (.ref ol),some (.int i)] H1:=by
 obtain⟨N,hN,hpot⟩:=S.pot
 obtain⟨u,hu⟩:=ap.h
 have op:ol≠p:=λz=>by rw[z,hu] at o0;cases o0
 have hlen:os.length=i:=by rw[hp.length_eq,aa,bI]
 refine⟨_,rfl,.inl ⟨rfl,_,SqL.of ho⟩,_,rfl,_,rfl,_,_,rfl,rfl,p,N,(i:Int)+1,rfl,hpot,hN,by lia,by lia,λN' r a1 a2 a3=>?_⟩
 have S2:=S.draw ap a1
 have ho2:(upd H1 p (.lst [.int N'])) ol=some (.lst (os.map V.int)):=by rw[j7 op];exact ho
 generalize upd H1 p (.lst [.int N'])=H2 at S2 ho2 ⊢
 refine⟨_,rfl,ol,_,r,_,rfl,rfl,ho2,a2,by rw[aa];lia,by rw[aa,ar];lia,?_⟩
 have ntup:∀xs,H2 ol≠some (.tup xs):=λxs z=>by rw[ho2] at z;cases z
 refine nx _ (os.take r.toNat++(i:Int)::os.drop r.toNat) (S2.upd ap o0 o1 o2 ntup _) ?_ (jID hp)
 rw[j5,aC,aP,jx,gq]
def pAt(ps:List (List Int))(t:Int):List Int:=ps.getD t.toNat []
def PcsAt.snoc{p:List Int×Int}(hv:PcAt H v p):∀{vs:List V}{ps:List (List Int×Int)},PcsAt H vs ps->PcsAt H (vs++[v]) (ps++[p])
 |[],[],_=>⟨hv,trivial⟩
 |x::vs,q::ps,h=>⟨h.1,PcsAt.snoc hv h.2⟩
 |[],_::_,h=>h.elim
 |_::_,[],h=>h.elim
structure PlOk (H:Hp)(b q:Addr)(wi:Int)(lj:List (List Int×Int))(ns:List Int):Prop where
 box:BoxAt H b wi [] lj
 good:Good 16 32 wi [] lj
 nums:H q=some (.tup (ns.map V.int))
 len:ns.length=lj.length
 pos:0<ns.length
 l22:ns.length<=24
 w12:wi<=14
 bnd:∀n∈ns, -100<=n/\n<=100
 sum:∀t:Int,0<=t->t<wi->(wL ns lj t lj.length).sum=1
theorem jK1(hl:ns.length=ps.length):((List.range ps.length).map λ(t:Nat)=>(t:Int)).map (λk=>(pAt ps k,nAt ns k))=ps.zip ns:=by
 apply List.ext_getElem?
 intro i
 rw[aO,aO]
 by_cases h:i<ps.length
 .rw[dW h,ag (by rw[cU];lia),List.getElem_zip]
  show some (pAt ps (i:Int),nAt ns (i:Int))=_
  unfold pAt nAt
  rw[bY,af,af,ag h,ag (by lia)]
  rfl
 .rw[cq (by rw[bI];lia),cq (by rw[cU];lia)]
  rfl
theorem jNO(T:Txt mg)(CT:Can P w K mg base "_law_take" 1 fT fdT ["pot","wide"] jS)(CL:Can P w K mg base "_law_lot" 2 fL fdL ["pot","wide"] kT)(hr:Room 2 (XPl P w K mg base f cdv A outer s H0 E).A)
  (ap:PAp H p pl nl) (S:PSt H H1 p pl nl vs ps ns) (ho:H1 ol=some (.lst (os.map V.int))) (hl:ns.length=ps.length) (l22:ps.length<=24) (lc:ps.length<=c) (l1:0<ps.length) (hp:os.Perm ((List.range ps.length).map λ(t:Nat)=>(t:Int)))
  (w0:0<=wi) (w12:wi<=14) (lots:∀ts∈ps,Lot wi ts) (nb:∀n∈ns, -100<=n/\n<=100) (sums:∀t:Int,0<=t->t<wi->sumT t (ps.zip ns)=1)
  (k:∀l b q lj ns N' H',H' l=some (.lst [.ref b,.ref q])->PlOk H' b q wi lj ns->ns.length<=c->H' p=some (.lst [.int N'])->0<=N'->Keep H H' p->D.rt (.ref l) H'):
  (plE T CT CL hr).1 D [some (.ref p),v1,v2,some (.int wi),some (.ref pl),some (.ref nl),v6,v7,v8,some (.ref ol),v10] H1:=by
 have vl:=S.lts.len
 have hlen:os.length=ps.length:=by rw[hp.length_eq,aa,bI]
 have hmem:∀t∈os,0<=t/\t<ps.length:=λt ht=>by
  obtain⟨u,hu,rfl⟩:=aQ.mp (hp.mem_iff.mp ht)
  have:=bq.mp hu
  exact⟨by lia,by lia⟩
 have hz:(os.map V.int).length<sizeLine:=by rw[aa,ar];lia
 refine⟨_,rfl,(by show 0<=sizeLine;decide),λt5 H5 y5 x5=>?_⟩
 refine⟨_,rfl,ol,rfl,⟨_,SqL.of (x5 _ _ ho)⟩,jF7 (xs:=os.map V.int) hz (λD j σ' H' zs=>(∃v,σ'=[v,some (.ref pl)])/\PcsAt H' zs ((os.take j).map λk=>(pAt ps k,(0:Int)))/\Ext H5 H'/\H' D=some (.lst zs)/\H5 D=none) ?_ ?_ ?_ ?_⟩
 .intro D hD
  exact⟨⟨_,rfl⟩,trivial,(Ext.refl _).new hD _,j5,hD⟩
 .rintro D j σ' H' zs hD ⟨_,hpc,e,h2,_⟩
  refine⟨(x5.trans e) _ _ ho,h2,?_⟩
  rw[hpc.len,aa,aZ]
  lia
 .rintro D j σ' H' zs x hD hx ⟨⟨v,rfl⟩,hpc,e,h2,hn⟩
  obtain⟨z,hz,rfl⟩:∃z:Int,os[j]?=some z/\V.int z=x:=by
   rw[aO] at hx
   cases hq:os[j]? with
   |none=>rw[hq] at hx;cases hx
   |some z=>rw[hq] at hx;cases hx;exact⟨z,rfl,rfl⟩
  obtain⟨z0,z1⟩:=hmem z (aH hz)
  have hv:vs[z.toNat]?=some vs[z.toNat]:=ag (by lia)
  obtain⟨pc,hpc1,hpc2⟩:=S.lts.at hv
  have epc:pAt ps z=pc:=by unfold pAt;rw[af,hpc1];rfl
  have at1:atI vs z=some vs[z.toNat]:=by
   have:=yF hv
   rwa [show ((z.toNat:Nat):Int)=z by lia] at this
  dsimp only[kI,yH]
  rw[ai rfl]
  refine⟨_,rfl,_,rfl,pl,_,_,_,rfl,rfl,SqL.of ((x5.trans e) _ _ S.lj),at1,(by show 2<=sizeLine;decide),λr6 H6 y6 x6=>?_⟩
  have h6:=x6 _ _ h2
  have tt:Tups H6 (upd H6 D (.lst (zs++[.ref r6]))):=λb xs h=>by
   rw[j7 (λq=>by rw[q,h6] at h;cases h)]
   exact h
  refine⟨h6,⟨_,rfl⟩,?_,(e.trans x6).updNew hn _,j5,hn⟩
  have:os.take (j+1)=os.take j++[z]:=by
   rw[aX,hz]
   rfl
  rw[this,aC]
  refine PcsAt.snoc ?_ (hpc.mono (λb xs h=>tt _ _ (x6 _ _ h)))
  obtain⟨q,eq,hq⟩:=hpc2
  rw[eq] at y6
  exact⟨r6,q,rfl,tt _ _ y6,tt _ _ (((x5.trans e).trans x6) _ _ (by show H1 q=some (.tup ((pAt ps z).map V.int));rw[epc];exact hq))⟩
 .rintro D6 σ' H6 zs hD ⟨_,hpc,e6,h6,_⟩
  rw[aa,bH] at hpc
  refine⟨D6,zs,rfl,.inl ⟨SqL.of h6,λt7 ht7=>?_⟩⟩
  have e7:Ext H6 (upd H6 t7 (.tup zs)):=(Ext.refl _).new ht7 _
  have y7:(upd H6 t7 (.tup zs)) t7=some (.tup zs):=j5
  generalize upd H6 t7 (.tup zs)=H7 at e7 y7 ⊢
  refine⟨(by show 3<=sizeLine;decide),λb H8 y8 x8=>?_⟩
  have E8:=((x5.trans e6).trans e7).trans x8
  refine⟨_,rfl,ol,rfl,⟨_,SqL.of (E8 _ _ ho)⟩,jF7 (xs:=os.map V.int) hz (λD j σ' H' zs=>(∃v,σ'=[v,some (.ref nl)])/\zs=((os.take j).map (nAt ns)).map V.int/\Ext H8 H'/\H' D=some (.lst zs)/\H8 D=none) ?_ ?_ ?_ ?_⟩
  .intro D hD
   exact⟨⟨_,rfl⟩,rfl,(Ext.refl _).new hD _,j5,hD⟩
  .rintro D j σ' H' zs hD ⟨_,rfl,e,h2,_⟩
   refine⟨(E8.trans e) _ _ ho,h2,?_⟩
   rw[aa,aa,aZ]
   lia
  .rintro D j σ' H' zs x hD hx ⟨⟨v,rfl⟩,rfl,e,h2,hn⟩
   obtain⟨z,hz,rfl⟩:∃z:Int,os[j]?=some z/\V.int z=x:=by
    rw[aO] at hx
    cases hq:os[j]? with
    |none=>rw[hq] at hx;cases hx
    |some z=>rw[hq] at hx;cases hx;exact⟨z,rfl,rfl⟩
   obtain⟨z0,z1⟩:=hmem z (aH hz)
   dsimp only[kI,yH]
   rw[ai rfl]
   refine⟨_,rfl,_,rfl,nl,_,_,_,rfl,rfl,SqL.of ((E8.trans e) _ _ S.nums),ns_at z0 (by lia),h2,⟨_,rfl⟩,?_,e.updNew hn _,j5,hn⟩
   have:os.take (j+1)=os.take j++[z]:=by
    rw[aX,hz]
    rfl
   rw[this,aC,aC]
   rfl
  .rintro D9 σ' H9 zs2 hD ⟨_,rfl,e9,h9,_⟩
   rw[aa,bH] at h9
   refine⟨D9,_,rfl,.inl ⟨SqL.of h9,λt10 ht10=>?_⟩⟩
   have e10:Ext H9 (upd H9 t10 (.tup ((os.map (nAt ns)).map V.int))):=(Ext.refl _).new ht10 _
   have y10:(upd H9 t10 (.tup ((os.map (nAt ns)).map V.int))) t10=some (.tup ((os.map (nAt ns)).map V.int)):=j5
   generalize upd H9 t10 (.tup ((os.map (nAt ns)).map V.int))=H10 at e10 y10 ⊢
   refine⟨(by show 2<=sizeLine;decide),λl J yl xl _=>?_⟩
   have x8J:=(e9.trans e10).trans xl
   have EJ:=E8.trans x8J
   obtain⟨N,hN,hpot⟩:=S.pot
   have hm:(os.map λk=>(pAt ps k,nAt ns k)).Perm (ps.zip ns):=by
    have:=hp.map (λk=>(pAt ps k,nAt ns k))
    rwa [jK1 hl] at this
   have e1:(os.map λk=>(pAt ps k,nAt ns k)).map Prod.snd=os.map (nAt ns):=by rw[b8];rfl
   have e2:(os.map λk=>(pAt ps k,nAt ns k)).map (λx=>(x.1,(0:Int)))=os.map λk=>(pAt ps k,(0:Int)):=by rw[b8];rfl
   refine k l b t10 (os.map λk=>(pAt ps k,(0:Int))) (os.map (nAt ns)) N J yl ⟨⟨t5,t7,zs,x8J _ _ y8,((e6.trans e7).trans (x8.trans x8J)) _ _ y5,(x8.trans x8J) _ _ y7,hpc.mono ((e7.trans (x8.trans x8J)).tups)⟩,⟨w0,by lia,Ris.nil _,by rw[aa];lia,λpc hpc=>?_⟩,xl _ _ y10,by rw[aa,aa],by rw[aa];lia,by rw[aa];lia,w12,λn hn=>?_,λt h0 h1=>?_⟩ (by rw[aa];lia) (EJ _ _ hpot) hN λc u h n=>EJ _ _ (S.kp c u h n)
   .obtain⟨z,hz,rfl⟩:=aQ.mp hpc
    obtain⟨z0,z1⟩:=hmem z hz
    have:ps[z.toNat]?=some ps[z.toNat]:=ag (by lia)
    refine⟨?_,by show (-1000000000000:Int)<=0;decide,by show (0:Int)<=1000000000000;decide⟩
    show Lot wi (pAt ps z)
    unfold pAt
    rw[af,this]
    exact lots _ (bC _)
   .obtain⟨z,hz,rfl⟩:=aQ.mp hn
    obtain⟨z0,z1⟩:=hmem z hz
    have:ns[z.toNat]?=some ns[z.toNat]:=ag (by lia)
    unfold nAt
    rw[af,this]
    exact nb _ (bC _)
   .have:=jH9 hm (sums t h0 h1)
    rw[e1,e2,aa] at this
    rw[aa]
    exact this
theorem jPW(hw:(n:Int)=wi)(h:∃t:Nat,t<n/\lk t=L):Lot wi (thL lk n L):=
 ⟨jNC _ _ _,λz hz=>(by obtain⟨a,b,_⟩:=mem_thL.mp hz;lia),λz=>(by
  obtain⟨t,ht,e⟩:=h
  have:(t:Int)∈thL lk n L:=mem_thL.mpr ⟨by lia,by lia,e⟩
  rw[z] at this
  cases this)⟩
def nz(l:List Int):List Int:=l.filter λL=>decide (L≠0)
def jR5(l:List Int)(L:Int):nz (l++[L])=if L=0 then nz l else nz l++[L]:=by
 unfold nz
 rw[cH,bL]
 by_cases h:L=0
 .rw[ai h,aj (by simp[h])]
  simp
 .rw[aj h,ai (by simp[h])]
  rfl
def jN3{Ls:List Int}(lk:Int->Int)(n:Nat)(hl:ns.length=ps.length):(ps++Ls.map (thL lk n)).zip (ns++Ls)=ps.zip ns++Ls.map λL=>(thL lk n L,L):=by
 rw[List.zip_append hl.symm]
 congr 1
 induction Ls with
 |nil=>rfl
 |cons a r ih=>rw[aP,dE,ih,aP]
theorem jI3(t:Int):∀l:List (List Int×Int),(∀x∈l, -4<=x.2/\x.2<=4)-> -(4*(l.length:Int))<=sumT t l/\sumT t l<=4*(l.length:Int)
 |[],_=>⟨by show -(4*((0:Nat):Int))<=0;lia,by show (0:Int)<=4*((0:Nat):Int);lia⟩
 |x::r,h=>by
  obtain⟨a,b⟩:=jI3 t r λy hy=>h y (av _ hy)
  obtain⟨c,d⟩:=h x au
  show -(4*((r.length+1:Nat):Int))<=(if t∈x.1 then x.2 else 0)+sumT t r/\(if t∈x.1 then x.2 else 0)+sumT t r<=4*((r.length+1:Nat):Int)
  split<;>constructor<;>lia
theorem jOI(t:Int)(h:∀n∈ns, -4<=n/\n<=4)(hl:ps.length<=10): -100<=kU ps ns t/\kU ps ns t<=100:=by
 unfold kU
 rw[jAI]
 obtain⟨a,b⟩:=jI3 t (ps.zip ns) λx hx=>h _ (cR (a:=x.1) (b:=x.2) hx).2
 have:(ps.zip ns).length<=10:=by rw[cU];lia
 lia
theorem jNP(T:Txt mg)(CT:Can P w K mg base "_law_take" 1 fT fdT ["pot","wide"] jS)(CL:Can P w K mg base "_law_lot" 2 fL fdL ["pot","wide"] kT)(hr:Room 2 (XPl P w K mg base f cdv A outer s H0 E).A)
  (ap:PAp H p pl nl) (S:PSt H H1 p pl nl vs ps ns) (hl:ns.length=ps.length) (l22:ps.length<=24) (lc:ps.length<=c) (l1:0<ps.length)
  (w0:0<=wi) (w12:wi<=14) (lots:∀ts∈ps,Lot wi ts) (nb:∀n∈ns, -100<=n/\n<=100) (sums:∀t:Int,0<=t->t<wi->sumT t (ps.zip ns)=1)
  (k:∀l b q lj ns N' H',H' l=some (.lst [.ref b,.ref q])->PlOk H' b q wi lj ns->ns.length<=c->H' p=some (.lst [.int N'])->0<=N'->Keep H H' p->D.rt (.ref l) H'):
  (plD T CT CL hr).1 D [some (.ref p),v1,v2,some (.int wi),some (.ref pl),some (.ref nl),v6,v7,v8,v9,v10] H1:=by
 have vl:=S.lts.len
 refine⟨(by show 0<=sizeLine;decide),λol H2 y2 x2 n2=>?_⟩
 have S2:=S.ext x2
 obtain⟨N,hN,hpot⟩:=S.pot
 have o1:ol≠pl:=bO (j8 S.lj n2)
 have o2:ol≠nl:=bO (j8 S.nums n2)
 have op:ol≠p:=bO (j8 hpot n2)
 have o0:H ol=none:=by
  cases q:H ol with
  |none=>rfl
  |some o=>rw[S.kp _ _ q op] at n2;cases n2
 refine⟨_,rfl,pl,_,rfl,.inl (SqL.of S2.lj),_,rfl,by lia,by rw[vl];lia,jA7 (n:=((vs.length:Int)).toNat) (λi σ H'=>(∃v10,σ=[some (.ref p),v1,v2,some (.int wi),some (.ref pl),some (.ref nl),v6,v7,v8,some (.ref ol),v10])/\PSt H H' p pl nl vs ps ns/\∃os:List Int,H' ol=some (.lst (os.map V.int))/\os.Perm ((List.range i).map λ(t:Nat)=>(t:Int))) ⟨⟨_,rfl⟩,S2,[],y2,h8 _⟩ ?_ ?_⟩
 .rintro i σ H3 hi ⟨⟨v10,rfl⟩,S3,os,ho,hp⟩
  have e0:(0+(i:Int))=(i:Int):=by lia
  rw[e0]
  exact jNS T CT CL hr ap S3 ho o0 o1 o2 (by lia) hp λH' os' S' ho' hp'=>⟨⟨_,rfl⟩,S',os',ho',hp'⟩
 .rintro σ H3 ⟨⟨v10,rfl⟩,S3,os,ho,hp⟩
  exact jNO T CT CL hr ap S3 ho hl l22 lc l1 (by rw[<- vl];exact hp) w0 w12 lots nb sums k
theorem jNQ(T:Txt mg)(CT:Can P w K mg base "_law_take" 1 fT fdT ["pot","wide"] jS)(CL:Can P w K mg base "_law_lot" 2 fL fdL ["pot","wide"] kT)(hr:Room 2 (XPl P w K mg base f cdv A outer s H0 E).A){n:Nat}
  (ap:PAp H p pl nl) (S:PSt H H1 p pl nl vs ps ns) (d1:d≠pl) (d2:d≠nl) (hd:H1 d=some (.dK kvs)) (dk:DkSt H1 kvs (kU ps ns) n) (hn:(n:Int)=wi) (lc:ps.length+n<=c) (hl:ns.length=ps.length) (l10:ps.length<=10) (l1:0<ps.length)
  (w12:wi<=14) (lots:∀ts∈ps,Lot wi ts) (nb:∀n∈ns, -4<=n/\n<=4)
  (k:∀l b q lj ns N' H',H' l=some (.lst [.ref b,.ref q])->PlOk H' b q wi lj ns->ns.length<=c->H' p=some (.lst [.int N'])->0<=N'->Keep H H' p->D.rt (.ref l) H'):
  (plC T CT CL hr).1 D [some (.ref p),v1,v2,some (.int wi),some (.ref pl),some (.ref nl),some (.ref d),v7,v8,v9,v10] H1:=by
 have vl:=S.lts.len
 obtain⟨ks,k1,k2,k3,k4⟩:=dk.ks
 refine⟨_,rfl,d,kvs,ks,rfl,hd,k1,by lia,λsl so hsl _ pm=>?_⟩
 have x2:Ext H1 (upd H1 sl (.lst (so.map V.int))):=(Ext.refl _).new hsl _
 have y2:(upd H1 sl (.lst (so.map V.int))) sl=some (.lst (so.map V.int)):=j5
 have sp:sl≠pl:=bO (j8 S.lj hsl)
 have sn:sl≠nl:=bO (j8 S.nums hsl)
 generalize upd H1 sl (.lst (so.map V.int))=H2 at x2 y2 ⊢
 have sl12:so.length<=14:=by rw[pm.length_eq];lia
 have nzn:(nz so).length<=n:=by
  unfold nz
  refine aY (bW _ _) ?_
  rw[pm.length_eq]
  exact k4
 have nzl:∀i,(nz (so.take i)).length<=14:=λi=>by
  unfold nz
  refine aY (bW _ _) ?_
  rw[aZ]
  lia
 have hin:∀L,L∈so↔∃t:Nat,t<n/\kU ps ns t=L:=λL=>by rw[pm.mem_iff,k3]
 refine⟨sl,rfl,⟨_,SqL.of y2⟩,jC3 (xs:=so.map V.int) (λi σ H'=>(∃v8,σ=[some (.ref p),v1,v2,some (.int wi),some (.ref pl),some (.ref nl),some (.ref d),v7,v8,v9,v10])/\(∃vs',PSt H H' p pl nl vs' (ps++(nz (so.take i)).map (thL (kU ps ns) n)) (ns++nz (so.take i)))/\H' d=some (.dK kvs)/\DkSt H' kvs (kU ps ns) n/\H' sl=some (.lst (so.map V.int))) ?_ ?_ ?_ ?_⟩
 .refine⟨⟨_,rfl⟩,⟨vs,?_⟩,x2 _ _ hd,dk.mono x2.tups,y2⟩
  show PSt H H2 p pl nl vs (ps++[]) (ns++[])
  rw[bS,bS]
  exact S.ext x2
 .rintro i σ H' hi ⟨_,_,_,_,h⟩
  exact SqL.of h
 .rintro i x σ H3 hx ⟨⟨v8,rfl⟩,⟨vs',S3⟩,hd3,dk3,h3⟩
  obtain⟨L,hL,rfl⟩:∃z:Int,so[i]?=some z/\V.int z=x:=by
   rw[aO] at hx
   cases hq:so[i]? with
   |none=>rw[hq] at hx;cases hx
   |some z=>rw[hq] at hx;cases hx;exact⟨z,rfl,rfl⟩
  have z1:=nzl i
  have eq:so.take (i+1)=so.take i++[L]:=by
   rw[aX,hL]
   rfl
  refine jNT T CT CL hr ap S3 hd3 dk3 ((hin L).mp (aH hL)) (by rw[aK,aa];lia) (by rw[aK];lia) λH' vs' S' kp=>⟨⟨_,rfl⟩,⟨vs',?_⟩,kp _ _ hd3 d1 d2,?_,kp _ _ h3 sp sn⟩
  .rw[eq,jR5]
   by_cases h0:L=0
   .rw[ai h0]
    rw[ai h0,ai h0] at S'
    exact S'
   .rw[aj h0,aC,<- be,<- be]
    rw[aj h0,aj h0] at S'
    exact S'
  .refine dk3.mono λb xs h=>kp _ _ h (λz=>?_) (λz=>?_)
   .rw[z,S3.lj] at h;cases h
   .rw[z,S3.nums] at h;cases h
 .rintro σ H3 ⟨⟨v8,rfl⟩,⟨vs',S3⟩,hd3,dk3,h3⟩
  rw[aa,bH] at S3
  have z1:=nzl so.length
  rw[bH] at z1
  have nd:(nz so).Nodup:=(pm.nodup_iff.mpr k2).sublist (List.filter_sublist ..)
  have hm:∀L,L∈nz so↔L≠0/\∃u:Nat,u<n/\kU ps ns u=L:=λL=>by
   unfold nz
   rw[bo,hin]
   exact⟨λ⟨a,b⟩=>⟨aG b,a⟩,λ⟨a,b⟩=>⟨b,ax a⟩⟩
  refine jNP T CT CL hr ap S3 (by rw[aK,aK,aa];lia) (by rw[aK,aa];lia) (by rw[aK,aa];lia) (by rw[aK];lia) (by lia) w12 (λts hts=>?_) (λx hx=>?_) (λt h0 h1=>?_) k
  .rcases az.mp hts with z|z
   .exact lots ts z
   .obtain⟨L,hL,rfl⟩:=aQ.mp z
    exact jPW hn ((hm L).mp hL).2
  .rcases az.mp hx with z|z
   .have:=nb x z
    lia
   .obtain⟨_,u,_,rfl⟩:=(hm x).mp z
    exact jOI _ nb l10
  .rw[jN3 _ _ hl]
   exact jH5 h0 (by lia) nd hm
theorem jNR(T:Txt mg)(CT:Can P w K mg base "_law_take" 1 fT fdT ["pot","wide"] jS)(CL:Can P w K mg base "_law_lot" 2 fL fdL ["pot","wide"] kT)(hr:Room 2 (XPl P w K mg base f cdv A outer s H0 E).A)
  (ap:PAp H p pl nl) (S:PSt H H1 p pl nl vs ps ns) (lc:ps.length+wi.toNat<=c) (hl:ns.length=ps.length) (l10:ps.length<=10) (l1:0<ps.length) (w0:0<=wi) (w12:wi<=14) (lots:∀ts∈ps,Lot wi ts) (nb:∀n∈ns, -4<=n/\n<=4)
  (k:∀l b q lj ns N' H',H' l=some (.lst [.ref b,.ref q])->PlOk H' b q wi lj ns->ns.length<=c->H' p=some (.lst [.int N'])->0<=N'->Keep H H' p->D.rt (.ref l) H'):
  (plB T CT CL hr).1 D [some (.ref p),v1,v2,some (.int wi),some (.ref pl),some (.ref nl),v6,v7,v8,v9,v10] H1:=by
 intro d hd1
 obtain⟨N,hN,hpot⟩:=S.pot
 have d1:d≠pl:=bO (j8 S.lj hd1)
 have d2:d≠nl:=bO (j8 S.nums hd1)
 have dp:d≠p:=bO (j8 hpot hd1)
 have d0:H d=none:=by
  cases q:H d with
  |none=>rfl
  |some o=>rw[S.kp _ _ q dp] at hd1;cases hd1
 have x2:Ext H1 (upd H1 d (.dK [])):=(Ext.refl _).new hd1 _
 have y2:(upd H1 d (.dK [])) d=some (.dK []):=j5
 generalize upd H1 d (.dK [])=H2 at x2 y2 ⊢
 refine⟨_,rfl,wi,rfl,by lia,by lia,jA7 (n:=wi.toNat) (λi σ H'=>(∃v7 v8,σ=[some (.ref p),v1,v2,some (.int wi),some (.ref pl),some (.ref nl),some (.ref d),v7,v8,v9,v10])/\PSt H H' p pl nl vs ps ns/\∃kvs,H' d=some (.dK kvs)/\DkSt H' kvs (kU ps ns) i) ⟨⟨_,_,rfl⟩,S.ext x2,[],y2,DkSt.nil _ _⟩ ?_ ?_⟩
 .rintro i σ H3 hi ⟨⟨v7,v8,rfl⟩,S3,kvs,hd,dk⟩
  have e0:(0+(i:Int))=(i:Int):=by lia
  rw[e0]
  exact jNU T CT CL hr ap S3 d0 d1 d2 hd dk hl l10 (by lia) λH' kvs' v8 S' h1 h2=>⟨⟨_,_,rfl⟩,S',kvs',h1,h2⟩
 .rintro σ H3 ⟨⟨v7,v8,rfl⟩,S3,kvs,hd,dk⟩
  exact jNQ T CT CL hr ap S3 d1 d2 hd dk (by lia) lc hl l10 l1 w12 lots nb k
def jDF:Sp:=λvs H Q _=>∃(p:Addr) (N mt mp:Int),vs=[.ref p,.int mt,.int mp]/\1<=mt/\mt<=14/\1<=mp/\mp<=10/\H p=some (.lst [.int N])/\0<=N/\
 ∀l b q wi lj ns N' H',H' l=some (.lst [.ref b,.ref q])->PlOk H' b q wi lj ns->wi<=mt/\(ns.length:Int)<=mp+mt->H' p=some (.lst [.int N'])->0<=N'->Keep H H' p->Q (.ref l) H'
theorem jJI{fd:FuncData}(F:Fun K "_law_planted" "_law_planted" yA f fd)(T:Txt mg)(CT:Can P w K mg base "_law_take" 1 fT fdT ["pot","wide"] jS)(CL:Can P w K mg base "_law_lot" 2 fL fdL ["pot","wide"] kT):FnOk P w K mg base CX0 3 f fd ["pot","most_things","most_pieces"] jDF:=by
 refine F.ok scPlanted (λvs H Q E h=>?_) (λcdv A outer s H vs Q E hr h=>?_)
 .obtain⟨_,_,_,_,rfl,_⟩:=h
  rfl
 .obtain⟨p,N,mt,mp,rfl,mt1,mt2,mp1,mp2,hp,hN,k⟩:=h
  refine⟨_,(plA T CT CL hr).2.h,?_⟩
  refine⟨_,rfl,_,rfl,p,N,mt,rfl,hp,hN,by lia,by lia,λN2 r2 a1 a2 a3=>?_⟩
  refine⟨_,_,rfl,rfl,?_⟩
  refine⟨_,rfl,_,rfl,p,N2,mp,rfl,j5,a1,by lia,by lia,λN3 r3 b1 b2 b3=>?_⟩
  rw[jAT]
  have k3:Keep H (upd H p (.lst [.int N3])) p:=λc u h n=>by rw[j7 n];exact h
  have hp3:(upd H p (.lst [.int N3])) p=some (.lst [.int N3]):=j5
  generalize upd H p (.lst [.int N3])=H3 at k3 hp3 ⊢
  refine⟨_,_,rfl,rfl,1+r3,rfl,by lia,by lia,jAD (n:=(1+r3).toNat) (by rw[ar];lia) (λD j σ' H' zs=>(∃v,σ'=[v,some (.ref p),some (.int (1+r2))])/\(∃ps,LtsAt H' zs ps/\ps.length=j/\∀ts∈ps,Lot (1+r2) ts)/\(∃N':Int,0<=N'/\H' p=some (.lst [.int N']))/\Keep H3 H' p/\H' D=some (.lst zs)/\H3 D=none) ?_ ?_ ?_ ?_⟩
  .intro D hD
   have pD:p≠D:=j8 hp3 hD
   exact⟨⟨_,rfl⟩,⟨[],trivial,rfl,λn hn=>by cases hn⟩,⟨N3,b1,by rw[j7 pD];exact hp3⟩,(Keep.refl _ _).new hD _,j5,hD⟩
  .rintro D j σ' H' zs hD hj ⟨_,⟨ps,hL,nl,_⟩,_,_,h2,_⟩
   exact⟨h2,by rw[hL.len];lia⟩
  .rintro D j σ' H' zs hD hj ⟨⟨v,rfl⟩,⟨ps,hL,nl,nb⟩,⟨N4,n4,hp4⟩,kk,h2,hn⟩
   have pD:D≠p:=bO (j8 hp3 hn)
   dsimp only[kI,yH]
   rw[ai rfl]
   refine⟨_,rfl,_,rfl,p,N4,1+r2,rfl,hp4,n4,by lia,by lia,λq N' ts H5 g1 g2 g3 g4 g5=>?_⟩
   have h5:=g5 _ _ h2 pD
   have tt:Tups H' (upd H5 D (.lst (zs++[.ref q]))):=λb xs h=>by
    rw[j7 (λz=>by rw[z,h2] at h;cases h)]
    exact g5 _ _ h λz=>by rw[z,hp4] at h;cases h
   refine⟨h5,⟨_,rfl⟩,⟨ps++[ts],LtsAt.snoc ⟨q,rfl,?_⟩ (hL.mono tt),by rw[aK,nl];rfl,λt ht=>?_⟩,⟨N',g1,by rw[j7 (bO pD)];exact g4⟩,λc u h n=>?_,j5,hn⟩
   .rw[j7 (λz=>by rw[z,h5] at g3;cases g3)]
    exact g3
   .rcases az.mp ht with z|z
    .exact nb t z
    .cases aW.mp z
     exact g2
   .rw[j7 (j8 h hn)]
    exact g5 _ _ (kk c u h n) n
  .rintro pl σ' H4 zs hD ⟨_,⟨ps,hL,plen,lots⟩,⟨N4,n4,hp4⟩,kk,h2,hn⟩
   have np:pl≠p:=bO (j8 hp3 hn)
   have pH:H pl=none:=by
    cases q:H pl with
    |none=>rfl
    |some o=>rw[k3 _ _ q np] at hn;cases hn
   have vl:=hL.len
   have K4:Keep H H4 p:=k3.trans kk
   refine⟨_,rfl,pl,rfl,⟨_,SqL.of h2⟩,jF7 (xs:=zs) (by rw[ar];lia) (λD j σ' H' ys=>(∃v,σ'=[v,some (.ref p)])/\(∃ns:List Int,ys=ns.map V.int/\ns.length=j/\∀n∈ns, -4<=n/\n<=4)/\(∃N':Int,0<=N'/\H' p=some (.lst [.int N']))/\Keep H4 H' p/\H' D=some (.lst ys)/\H4 D=none) ?_ ?_ ?_ ?_⟩
   .intro D hD
    have pD:p≠D:=j8 hp4 hD
    exact⟨⟨_,rfl⟩,⟨[],rfl,rfl,λn hn=>by cases hn⟩,⟨N4,n4,by rw[j7 pD];exact hp4⟩,(Keep.refl _ _).new hD _,j5,hD⟩
   .rintro D j σ' H' ys hD ⟨_,⟨ns,rfl,nl,_⟩,_,k5,h5,_⟩
    exact⟨k5 _ _ h2 np,h5,by rw[aa];lia⟩
   .rintro D j σ' H' ys x hD hx ⟨⟨v,rfl⟩,⟨ns,rfl,nl,nb⟩,⟨N5,n5,hp5⟩,k5,h5,hn5⟩
    have pD:D≠p:=bO (j8 hp4 hn5)
    dsimp only[kI,yH]
    rw[ai rfl]
    refine⟨_,rfl,p,N5,9,rfl,hp5,n5,by decide,by decide,λN6 r6 c1 c2 c3=>?_⟩
    refine⟨_,_,rfl,rfl,by rw[j7 pD];exact h5,⟨_,rfl⟩,⟨ns++[r6-4],by rw[aC];rfl,by rw[aK,nl];rfl,λn hn'=>?_⟩,⟨N6,c1,by rw[j7 (bO pD)];exact j5⟩,λc u h n=>?_,j5,hn5⟩
    .rcases az.mp hn' with z|z
     .exact nb n z
     .cases aW.mp z
      exact⟨by lia,by lia⟩
    .rw[j7 (j8 h hn5),j7 n]
     exact k5 c u h n
   .rintro nl σ' H5 ys hD ⟨_,⟨ns,rfl,nlen,nb⟩,⟨N5,n5,hp5⟩,k5,h5,hn5⟩
    have nnp:nl≠p:=bO (j8 hp4 hn5)
    have nH:H nl=none:=by
     cases q:H nl with
     |none=>rfl
     |some o=>rw[K4 _ _ q nnp] at hn5;cases hn5
    refine jNR T CT CL hr ⟨⟨_,hp⟩,pH,nH,j8 h2 hn5⟩ ⟨⟨N5,n5,hp5⟩,k5 _ _ h2 np,hL.mono (λb xs h=>k5 _ _ h λz=>by rw[z,hp4] at h;cases h),h5,K4.trans k5⟩ (ak _) (by lia) (by lia) (by lia) (by lia) (by lia) lots nb λl b q lj ns N' H' g1 g2 gc g3 g4 g5=>k l b q _ lj ns N' H' g1 g2 ⟨by lia,by lia⟩ g3 g4 g5
end Eo
namespace L2
open PySem
end L2
namespace Eo
open PySem L2
variable {lj lj':List (List Int×Int)}{ts th ns ms mu xs hs:List Int}{H H1:Hp}{p nl q pl:Addr}{v7 v1 v2 v8 v4:Option V}{i:Nat}{D:Ends}{t wi b d M:Int}{fd:FuncData}{B:Prop}
def jHK:∀l:List Int,TsAt H (l.map Tr.int) (l.map V.int)
 |[]=>by rw[gI,gI,TsAt]
 |a::r=>by
  rw[aP,aP,TsAt]
  exact⟨_,_,rfl,by rw[TAt],jHK r⟩
def jDT:∀l:List Int,deps (l.map Tr.int)<=0
 |[]=>by rw[gI,deps];exact bb _
 |a::r=>by
  rw[aP,deps]
  exact Nat.max_le.mpr ⟨by simp[dep],jDT r⟩
theorem jIZ(l:List Int):eqTs (l.map Tr.int) []=decide (l=[]):=by
 cases l with
 |nil=>rfl
 |cons a r=>rw[aP];simp[eqTs]
theorem jOV{σ:St}{Q:VK}(hσ:blkσ [none,some 5] σ=[none,some (.ref a)])(hq:H1 q=some (.tup (ts.map V.int)))(ha:H1 a=some (.lst (ns.map V.int)))(hb:∀t∈ts,0<=t/\t<ns.length)(hl:ts.length<=100)
  (k:∀D H',H' D=some (.lst ((ts.map (nAt ns)).map V.int))->Ext H1 H'->Q (.ref D) H'):qJ [none,some 5] (kI 0) yH (tOp (rIxL K) (tVar 1) (tVar 0)) σ Q (Itt K q) H1:=by
 refine jB7 (xs:=ts.map V.int) (by rw[aa,ar];lia) (λD j σ' H' zs=>(∃v,σ'=[v,some (.ref a)])/\zs=((ts.take j).map (nAt ns)).map V.int/\Ext H1 H'/\H' D=some (.lst zs)/\H1 D=none) ?_ ?_ ?_ ?_
 .intro D hD
  exact⟨⟨_,hσ⟩,rfl,(Ext.refl _).new hD _,j5,hD⟩
 .rintro D j σ' H' zs hD ⟨_,rfl,e,h2,_⟩
  refine⟨e _ _ hq,h2,?_⟩
  rw[aa,aa,aZ]
  lia
 .rintro D j σ' H' zs x hD hx ⟨⟨v,rfl⟩,rfl,e,h2,hn⟩
  obtain⟨z,hz,rfl⟩:∃z:Int,ts[j]?=some z/\V.int z=x:=by
   rw[aO] at hx
   cases hq:ts[j]? with
   |none=>rw[hq] at hx;cases hx
   |some z=>rw[hq] at hx;cases hx;exact⟨z,rfl,rfl⟩
  obtain⟨z0,z1⟩:=hb z (aH hz)
  dsimp only[kI,yH]
  rw[ai rfl]
  refine⟨_,rfl,_,rfl,a,_,_,_,rfl,rfl,SqL.of (e _ _ ha),ns_at z0 z1,h2,⟨_,rfl⟩,?_,e.updNew hn _,j5,hn⟩
  have:ts.take (j+1)=ts.take j++[z]:=by
   rw[aX,hz]
   rfl
  rw[this,aC,aC]
  rfl
 .rintro D σ' H' zs hD ⟨_,rfl,e,h2,hn⟩
  rw[aa,bH] at h2
  exact k D H' h2 e
structure USt (H H':Hp)(p nl pl:Addr)(m w:Int)(ns:List Int)(i:Nat):Prop where
 ex:∃(N:Int) (zs:List V) (lj:List (List Int×Int)),H' p=some (.lst [.int N])/\0<=N/\H' pl=some (.lst zs)/\PcsAt H' zs lj/\lj.length<=i/\(∀pc∈lj,GoodPc w pc)/\pcH m lj ns=true
 nn:H' nl=some (.lst (ns.map V.int))
 kp:Keep H H' p
structure UAp (H:Hp)(p nl pl:Addr):Prop where
 n1:H nl=none
 n2:H pl=none
 a1:nl≠p
 a2:pl≠p
 a3:nl≠pl
def USt.move{H2:Hp}{m w:Int}{N2:Int}(S:USt H H1 p nl pl m w ns i)(ap:UAp H p nl pl)(k:Keep H1 H2 p)(hp:H2 p=some (.lst [.int N2]))(hN:0<=N2):USt H H2 p nl pl m w ns i:=by
 obtain⟨⟨N,zs,lj,h1,h2,h3,h4,h5,h6,h7⟩,nn,kp⟩:=S
 exact⟨⟨N2,zs,lj,hp,hN,k _ _ h3 ap.a2,h4.mono (k.tups h1),h5,h6,h7⟩,k _ _ nn ap.a1,kp.trans k⟩
def USt.ext{H2:Hp}{m w:Int}(S:USt H H1 p nl pl m w ns i)(e:Ext H1 H2):USt H H2 p nl pl m w ns i:=by
 obtain⟨⟨N,zs,lj,h1,h2,h3,h4,h5,h6,h7⟩,nn,kp⟩:=S
 exact⟨⟨N,zs,lj,e _ _ h1,h2,e _ _ h3,h4.mono e.tups,h5,h6,h7⟩,e _ _ nn,λc u h n=>e c u (kp c u h n)⟩
noncomputable abbrev nHued:List Str:=["pot","most_things","most_pieces","modulus","wide","numbers","pieces","k","held"]
def scHued:FnScope nHued ["pot","most_things","most_pieces"] (jB xB):= {}
abbrev XHu(P:Program)(w:World)(K:W.Frag)(mg:Str->Option Value)(base:Heap)(f:Addr)(cdv:Value)(A:Around)(outer:List Env)(s:Shared)(H:Hp)(E:XK):Cx:=XOf nHued "_law_hued" xB P w K mg base f cdv A outer s H E
abbrev huBody:List Stmt:=qH ((jE xB).getD 5 (.Pass ⟨0,0,0,0⟩))
def huedX(T:Txt mg)(CT:Can P w K mg base "_law_take" 1 fT fdT ["pot","wide"] jS)(CL:Can P w K mg base "_law_lot" 2 fL fdL ["pot","wide"] kT)(hr:Room 2 (XHu P w K mg base f cdv A outer s H0 E).A): {t:TS // JSs (XHu P w K mg base f cdv A outer s H0 E) (huBody.drop 2) t}:=
 have nd:=scHued.nd
 ⟨_,(jC (qD (jM (jHA hr.units101) (jv 8 rfl vL) (kW j6) (jT _)) (jC (jAQ (xC bD cZ da jAJ (jv 6 rfl vL) (j3 (kW (j3 (jv 8 rfl vL) (j3 (j9) j6 jI) j4)) j6 qR) qR) jZ)) yC))⟩
def huedW(T:Txt mg)(CT:Can P w K mg base "_law_take" 1 fT fdT ["pot","wide"] jS)(CL:Can P w K mg base "_law_lot" 2 fL fdL ["pot","wide"] kT)(hr:Room 2 (XHu P w K mg base f cdv A outer s H0 E).A): {t:TS // JSs (XHu P w K mg base f cdv A outer s H0 E) (huBody.drop 1) t}:=
 have nd:=scHued.nd
 ⟨_,(jA (jD7 br (jt_w (jLO (jM (jHA hr.units101) (jv 8 rfl vL) (kW j6) (jT _)) (jHI (jM qS (jW qK (jF (jAA rfl) gD T.sum (by decide+kernel) (j3 (kJ (m:=[none,some 5]) (Nc:=["thing","numbers"]) rfl (qT (jv 8 rfl vL)) rfl (by decide+kernel) (by decide+kernel) (jQ (psc:=jB xB)) (jH (N:=nHued) rfl rfl (by decide+kernel)) (λcl C fp s H=>jJ (i:=0) (show (["thing","numbers"]:List Str).Nodup by decide+kernel) rfl yG) (λcl C fp s H=>kO) (λcl C fp s H=>(jK yN (jv 1 rfl jX) (jv 0 rfl jV) kN)) yM) j6 jP) jP) (jv 3 rfl vC)) (j9) (jT _))))) (jC (jL (i:=8) nd rfl lL (jC0 jQ3 (jv 8 rfl vL) (jDM (j9)) jDN) jBO))) (huedX T CT CL hr).2)⟩
def huedL(T:Txt mg)(CT:Can P w K mg base "_law_take" 1 fT fdT ["pot","wide"] jS)(CL:Can P w K mg base "_law_lot" 2 fL fdL ["pot","wide"] kT)(hr:Room 2 (XHu P w K mg base f cdv A outer s H0 E).A): {t:TS // JSs (XHu P w K mg base f cdv A outer s H0 E) huBody t}:=
 have nd:=scHued.nd
 ⟨_,(jA (jL (i:=8) nd rfl lL (CL.je hr gD (j3 (jv 0 rfl vC) (j3 (jv 4 rfl vL) j6 j4) j4) j4) jZ) (huedW T CT CL hr).2)⟩
def huedB(T:Txt mg)(CT:Can P w K mg base "_law_take" 1 fT fdT ["pot","wide"] jS)(CL:Can P w K mg base "_law_lot" 2 fL fdL ["pot","wide"] kT)(hr:Room 2 (XHu P w K mg base f cdv A outer s H0 E).A): {t:TS // JSs (XHu P w K mg base f cdv A outer s H0 E) ((jE xB).drop 4) t}:=
 have nd:=scHued.nd
 ⟨_,(jA (jL (i:=6) nd rfl lL (yL j6) jBA) (jA (yZ br rfl (kY gD T.range (j3 (jW yB (j9) (CT.je (hr.mono (by decide)) gD (j3 (jv 0 rfl vC) (j3 (jv 2 rfl vL) j6 j4) j4) j4)) j6 yD) yD) (jJ (i:=7) nd rfl lL) (huedL T CT CL hr).2 kQ) (jC (kD (yL (j3 (kW (j3 (jv 4 rfl vL) (j3 (kW j6) (j3 (kG jO gD T.tuple (by decide+kernel) (j3 (jv 6 rfl vL) j6 j4) j4) j6 jG) qR) j4)) (j3 (kW (j3 (jv 3 rfl vC) (j3 (kG jO gD T.tuple (by decide+kernel) (j3 (jv 5 rfl vC) j6 j4) j4) j6 jG) j4)) j6 qR) qR))))))⟩
def huedA(T:Txt mg)(CT:Can P w K mg base "_law_take" 1 fT fdT ["pot","wide"] jS)(CL:Can P w K mg base "_law_lot" 2 fL fdL ["pot","wide"] kT)(hr:Room 2 (XHu P w K mg base f cdv A outer s H0 E).A): {t:TS // JSs (XHu P w K mg base f cdv A outer s H0 E) (jE xB) t}:=
 have nd:=scHued.nd
 ⟨_,(jA (jL (i:=3) nd rfl qI (jK kX (yL (j3 (j9) (j3 (j9) (j3 (j9) (j3 (j9) (j3 (j9) (j3 (j9) j6 jI) jI) jI) jI) jI) jI)) (CT.je (hr.mono (by decide)) gD (j3 (jv 0 rfl vC) (j3 (j9) j6 jI) j4) j4) jEL) jBO) (jA (jL (i:=4) nd rfl lL (jW yB (j9) (CT.je (hr.mono (by decide)) gD (j3 (jv 0 rfl vC) (j3 (jW jBX (jv 1 rfl vL) (j9)) j6 yD) j4) j4)) jBP) (jA (jHJ (i:=5) nd rfl qI (kJ (m:=[none,some 0,some 3]) (Nc:=["thing","pot","modulus"]) rfl (kY gD T.range (j3 (jv 4 rfl vL) j6 j4) j4) rfl (by decide+kernel) (by decide+kernel) (jQ (psc:=jB xB)) (jH (N:=nHued) rfl rfl (by decide+kernel)) (λcl C fp s H=>jJ (i:=0) (show (["thing","pot","modulus"]:List Str).Nodup by decide+kernel) rfl yG) (λcl C fp s H=>kO) (λcl C fp s H=>(CT.je (hr.mono (by decide)) gl_b (j3 (jv 1 rfl jX) (j3 (jv 2 rfl jX) j6 j4) j4) j4)) kQ) (by rfl)) (jA (qD (jM qM (jW qK (jF (jAA rfl) gD T.sum (by decide+kernel) (j3 (jv 5 rfl vC) j6 j4) j4) (jv 3 rfl vC)) (j9) (jT _)) (jC (jIL (jW qK (jW yB (jK kX (jv 5 rfl vC) (j9) jD) (j9)) (jv 3 rfl vC)) (jLP (jv 5 rfl vC) (j9) jCZ))) yC) (huedB T CT CL hr).2))))⟩
theorem jE7(T:Txt mg)(CT:Can P w K mg base "_law_take" 1 fT fdT ["pot","wide"] jS)(CL:Can P w K mg base "_law_lot" 2 fL fdL ["pot","wide"] kT)(hr:Room 2 (XHu P w K mg base f cdv A outer s H0 E).A)
  {m:Int}(ap:UAp H p nl pl) (S:USt H H1 p nl pl m wi ns i) (i1:i<=100) (hq:H1 q=some (.tup (ts.map V.int))) (rt:Ris wi ts) (hz:ts=[]\/(ts.map (nAt ns)).sum%m=0)
  (nx:∀H' v8,USt H H' p nl pl m wi ns (i+1)->D.nx [some (.ref p),v1,v2,some (.int m),v4,some (.ref nl),some (.ref pl),v7,v8] H'):
  (huedX T CT CL hr).1 D [some (.ref p),v1,v2,some (.int m),v4,some (.ref nl),some (.ref pl),v7,some (.ref q)] H1:=by
 refine⟨_,rfl,(by show 0<=sizeLine;decide),λt6 H6 y6 x6=>?_⟩
 have u1:TAt H6 (.tup (ts.map Tr.int)) (.ref q):=by
  rw[TAt]
  exact⟨q,_,rfl,x6 _ _ hq,jHK _⟩
 have u2:TAt H6 (.tup []) (.ref t6):=by
  rw[TAt]
  exact⟨t6,_,rfl,y6,by rw[TsAt]⟩
 refine⟨_,_,u1,u2,aY (jDT _) (by decide),_,rfl,?_⟩
 rw[jIZ]
 have S6:=S.ext x6
 obtain⟨⟨N,zs,lj,h1,h2,h3,h4,h5,h6,h7⟩,nn,kp⟩:=S6
 have h4l:=h4.len
 by_cases he:ts=[]
 .refine iteNS he (nx H6 _ ⟨⟨N,zs,lj,h1,h2,h3,h4,by lia,h6,h7⟩,nn,kp⟩)
 .have hz:(ts.map (nAt ns)).sum%m=0:=hz.resolve_left he
  refine iteNT he ?_
  refine⟨_,rfl,.inl ⟨rfl,_,SqL.of h3⟩,_,rfl,(by show 2<=sizeLine;decide),λr H7 hr7 e7=>?_⟩
  have h37:=e7 _ _ h3
  refine⟨pl,zs,_,rfl,rfl,h37,by rw[ar];lia,nx _ _ ?_⟩
  have tw:Tups H7 (upd H7 pl (.lst (zs++[.ref r]))):=Tups.upd h37 _
  refine⟨⟨N,zs++[.ref r],lj++[(ts,0)],by rw[j7 (bO ap.a2)];exact e7 _ _ h1,h2,j5,PcsAt.snoc ⟨r,q,rfl,tw _ _ hr7,tw _ _ (e7 _ _ (x6 _ _ hq))⟩ (h4.mono (e7.tups.trans tw)),by rw[aK];show lj.length+1<=_;lia,λpc hpc=>?_,?_⟩,by rw[j7 ap.a3];exact e7 _ _ nn,λc u h n=>by rw[j7 (j8 h ap.n2)];exact e7 _ _ (kp c u h n)⟩
  .rcases az.mp hpc with z|z
   .exact h6 pc z
   .cases aW.mp z
    exact⟨⟨rt.ris,rt.bnd,he⟩,(by show (-1000000000000:Int)<=0;decide),(by show (0:Int)<=1000000000000;decide)⟩
  .unfold pcH at h7 ⊢
   rw[gB,h7,dw,ax hz]
   rfl
theorem jJT(T:Txt mg)(CT:Can P w K mg base "_law_take" 1 fT fdT ["pot","wide"] jS)(CL:Can P w K mg base "_law_lot" 2 fL fdL ["pot","wide"] kT)(hr:Room 2 (XHu P w K mg base f cdv A outer s H0 E).A)
  {m:Int}(ap:UAp H p nl pl) (S:USt H H1 p nl pl m wi ns i) (i1:i<=100) (hq:H1 q=some (.tup (ts.map V.int))) (rt:Ris wi ts) (m2:2<=m) (nw:(ns.length:Int)=wi) (w1:wi<=16)
  (nx:∀H' v8,USt H H' p nl pl m wi ns (i+1)->D.nx [some (.ref p),v1,v2,some (.int m),v4,some (.ref nl),some (.ref pl),v7,v8] H'):
  (huedW T CT CL hr).1 D [some (.ref p),v1,v2,some (.int m),v4,some (.ref nl),some (.ref pl),v7,some (.ref q)] H1:=by
 refine⟨λk σ H'=>∃q ts,σ=[some (.ref p),v1,v2,some (.int m),v4,some (.ref nl),some (.ref pl),v7,some (.ref q)]/\H' q=some (.tup (ts.map V.int))/\Ris wi ts/\USt H H' p nl pl m wi ns i/\k=ts.length,⟨_,q,ts,rfl,hq,rt,S,rfl⟩,?_⟩
 rintro k σ H2 ⟨q,ts,rfl,hq,rt,S,rfl⟩
 have lt:=jAV _ 0 wi rt.ris rt.bnd
 refine⟨_,rfl,(by show 0<=sizeLine;decide),λt6 H6 y6 x6=>?_⟩
 have u1:TAt H6 (.tup (ts.map Tr.int)) (.ref q):=by
  rw[TAt]
  exact⟨q,_,rfl,x6 _ _ hq,jHK _⟩
 have u2:TAt H6 (.tup []) (.ref t6):=by
  rw[TAt]
  exact⟨t6,_,rfl,y6,by rw[TsAt]⟩
 refine⟨_,_,u1,u2,aY (jDT _) (by decide),_,rfl,?_⟩
 rw[jIZ]
 have S6:=S.ext x6
 have hq6:=x6 _ _ hq
 by_cases he:ts=[]
 .exact iteNS he (iteF (jE7 T CT CL hr ap S6 i1 hq6 rt (.inl he) nx))
 .refine iteNT he ?_
  refine⟨_,rfl,q,rfl,⟨_,SqT.of hq6⟩,jOV rfl hq6 S6.nn (λt ht=>by have:=rt.bnd t ht;lia) (by lia) λD5 H5 h5 e5=>?_⟩
  refine⟨D5,_,rfl,SqL.of h5,_,rfl,_,_,rfl,rfl,by lia,rfl,_,rfl,?_⟩
  have S5:=S6.ext e5
  have hq5:=e5 _ _ hq6
  by_cases hs:(ts.map (nAt ns)).sum%m=0
  .refine iteNS (by show V.int ((ts.map (nAt ns)).sum%m)=V.int 0;rw[hs]) (jE7 T CT CL hr ap S5 i1 hq5 rt (.inr hs) nx)
  .refine iteNT (λz=>hs (V.int.inj z)) ⟨λσ' H'=>∃q' ts',σ'=[some (.ref p),v1,v2,some (.int m),v4,some (.ref nl),some (.ref pl),v7,some (.ref q')]/\H' q'=some (.tup (ts'.map V.int))/\Ris wi ts'/\USt H H' p nl pl m wi ns i/\ts'.length<ts.length,λσ' H' ⟨q',ts',g1,g2,g3,g4,g5⟩=>⟨_,g5,q',ts',g1,g2,g3,g4,rfl⟩,?_⟩
   refine⟨_,rfl,1,rfl,q,_,rfl,hq5,λr H7 hr7 e7=>?_⟩
   have ec:cutV (ts.map V.int) (some 1) none=(ts.drop 1).map V.int:=by
    have hpos:1<=ts.length:=by
     cases ts with
     |nil=>exact absurd rfl he
     |cons _ _=>exact Nat.succ_le_succ (bb _)
    unfold cutV
    rw[HT.sIx_none,show (some (1:Int))=some ((1:Nat):Int) from rfl,HT.sIx_nat,aa,Nat.min_eq_left hpos,gq]
    exact bf (by rw[cB,aa];exact ak _)
   rw[ec] at hr7
   refine⟨r,ts.drop 1,rfl,hr7,rt.drop 1,S5.ext e7,?_⟩
   cases ts with
   |nil=>exact absurd rfl he
   |cons _ _=>rw[cB,aV];lia
def jJU(T:Txt mg)(CT:Can P w K mg base "_law_take" 1 fT fdT ["pot","wide"] jS)(CL:Can P w K mg base "_law_lot" 2 fL fdL ["pot","wide"] kT)(hr:Room 2 (XHu P w K mg base f cdv A outer s H0 E).A)
  {m:Int}(ap:UAp H p nl pl) (S:USt H H1 p nl pl m wi ns i) (i1:i<=100) (m2:2<=m) (nw:(ns.length:Int)=wi) (w0:1<=wi) (w1:wi<=16)
  (nx:∀H' v8,USt H H' p nl pl m wi ns (i+1)->D.nx [some (.ref p),v1,v2,some (.int m),some (.int wi),some (.ref nl),some (.ref pl),v7,v8] H'):
  (huedL T CT CL hr).1 D [some (.ref p),v1,v2,some (.int m),some (.int wi),some (.ref nl),some (.ref pl),v7,v8] H1:=by
 obtain⟨N,zs,lj,h1,h2,_⟩:=S.ex
 refine⟨_,rfl,_,rfl,p,N,wi,rfl,h1,h2,w0,w1,λq N' ts H' g1 g2 g3 g4 g5=>?_⟩
 exact jJT T CT CL hr ap (S.move ap g5 g4 g1) i1 g3 ⟨g2.ris,g2.bnd⟩ m2 nw w1 nx
structure HuOk (H:Hp)(b hq:Addr)(m wi:Int)(ms:List Int)(lj:List (List Int×Int))(ns:List Int):Prop where
 box:BoxAt H b wi ms lj
 good:Good 16 32 wi ms lj
 hue:∃qn,H hq=some (.tup [.int m,.ref qn])/\H qn=some (.tup (ns.map V.int))
 m2:2<=m
 m30:m<=30
 nw:(ns.length:Int)=wi
 bnd:∀n∈ns,0<=n/\n<m
 lj:pcH m lj ns=true
 sum:¬ns.sum%m=0
 may:mayH ms ns=true
 w2:2<=wi
theorem jNI(a b:Int)(r:List Int):(b::r).sum=(a::r).sum-a+b:=by
 rw[dU,dU]
 lia
def jKG:Sp:=λvs H Q _=>∃(p:Addr) (N mt mp:Int),vs=[.ref p,.int mt,.int mp]/\2<=mt/\mt<=14/\1<=mp/\mp<=14/\H p=some (.lst [.int N])/\0<=N/\
 ∀l b hq m wi lj ns N' H',H' l=some (.lst [.ref b,.ref hq])->HuOk H' b hq m wi [] lj ns->wi<=mt->(lj.length:Int)<=mp->H' p=some (.lst [.int N'])->0<=N'->Keep H H' p->Q (.ref l) H'
theorem jE8(T:Txt mg)(CT:Can P w K mg base "_law_take" 1 fT fdT ["pot","wide"] jS)(CL:Can P w K mg base "_law_lot" 2 fL fdL ["pot","wide"] kT)(hr:Room 2 (XHu P w K mg base f cdv A outer s H0 E).A)
  {N m mt mp:Int}{v6:Option V}(hpH:∃o,H p=some o) (hp:H1 p=some (.lst [.int N])) (hN:0<=N) (hn:H1 nl=some (.lst (ns.map V.int))) (nn:H nl=none) (kp:Keep H H1 p) (m2:2<=m) (m30:m<=30) (nw:(ns.length:Int)=wi) (w2:2<=wi) (w1:wi<=mt) (mt2:mt<=14) (mp1:1<=mp) (mp2:mp<=14) (hb:∀n∈ns,0<=n/\n<m) (hs:¬ns.sum%m=0)
  (k:∀l b hq lj N' H',H' l=some (.lst [.ref b,.ref hq])->HuOk H' b hq m wi [] lj ns->wi<=mt->(lj.length:Int)<=mp->H' p=some (.lst [.int N'])->0<=N'->Keep H H' p->D.rt (.ref l) H'):
  (huedB T CT CL hr).1 D [some (.ref p),v1,some (.int mp),some (.int m),some (.int wi),some (.ref nl),v6,v7,v8] H1:=by
 refine⟨(by show 0<=sizeLine;decide),λpl H2 y2 x2 n2=>?_⟩
 obtain⟨o,hpo⟩:=hpH
 have np:nl≠p:=λz=>by subst z;rw[hpo] at nn;cases nn
 have pp:pl≠p:=λz=>by subst z;rw[hp] at n2;cases n2
 have npl:nl≠pl:=λz=>by subst z;rw[hn] at n2;cases n2
 have plH:H pl=none:=by
  cases q:H pl with
  |none=>rfl
  |some o=>rw[kp _ _ q pp] at n2;cases n2
 have ap:UAp H p nl pl:=⟨nn,plH,np,pp,npl⟩
 have S0:USt H H2 p nl pl m wi ns 0:=⟨⟨N,[],[],x2 _ _ hp,hN,y2,trivial,ak _,(λpc hpc=>by cases hpc),rfl⟩,x2 _ _ hn,λc u h n=>x2 _ _ (kp c u h n)⟩
 refine⟨_,rfl,_,rfl,p,N,mp,rfl,x2 _ _ hp,hN,by lia,by lia,λN3 r3 a1 a2 a3=>?_⟩
 have k3:Keep H2 (upd H2 p (.lst [.int N3])) p:=(Keep.refl _ _).upd _
 have hp3:(upd H2 p (.lst [.int N3])) p=some (.lst [.int N3]):=j5
 have S3:=S0.move ap k3 hp3 a1
 generalize upd H2 p (.lst [.int N3])=H3 at k3 hp3 S3 ⊢
 refine⟨_,_,rfl,rfl,_,rfl,by lia,by lia,jA7 (n:=(1+r3).toNat) (λi σ H'=>(∃v7 v8,σ=[some (.ref p),v1,some (.int mp),some (.int m),some (.int wi),some (.ref nl),some (.ref pl),v7,v8])/\USt H H' p nl pl m wi ns i) ⟨⟨_,_,rfl⟩,S3⟩ ?_ ?_⟩
 .rintro i σ H4 hi ⟨⟨v7,v8,rfl⟩,S⟩
  exact jJU T CT CL hr ap S (by lia) m2 nw (by lia) (by lia) λH' v8 S'=>⟨⟨_,_,rfl⟩,S'⟩
 .rintro σ H4 ⟨⟨v7,v8,rfl⟩,S⟩
  obtain⟨⟨N4,zs,lj,h1,h2,h3,h4,h5,h6,h7⟩,nn4,kp4⟩:=S
  refine⟨_,rfl,(by show 0<=sizeLine;decide),λt5 H5 y5 x5=>?_⟩
  refine⟨_,rfl,pl,zs,rfl,.inl ⟨SqL.of (x5 _ _ h3),λt6 ht6=>?_⟩⟩
  have e6:Ext H5 (upd H5 t6 (.tup zs)):=(Ext.refl _).new ht6 _
  have y6:(upd H5 t6 (.tup zs)) t6=some (.tup zs):=j5
  generalize upd H5 t6 (.tup zs)=H6 at e6 y6 ⊢
  refine⟨(by show 3<=sizeLine;decide),λb H7 y7 x7=>?_⟩
  have E7:=(x5.trans e6).trans x7
  refine⟨_,rfl,_,rfl,nl,_,rfl,.inl ⟨SqL.of (E7 _ _ nn4),λt8 ht8=>?_⟩⟩
  have e8:Ext H7 (upd H7 t8 (.tup (ns.map V.int))):=(Ext.refl _).new ht8 _
  have y8:(upd H7 t8 (.tup (ns.map V.int))) t8=some (.tup (ns.map V.int)):=j5
  generalize upd H7 t8 (.tup (ns.map V.int))=H8 at e8 y8 ⊢
  refine⟨(by show 2<=sizeLine;decide),λhq H9 y9 x9=>⟨(by show 2<=sizeLine;decide),λl J yl xl _=>?_⟩⟩
  have x9l:=x9.trans xl
  have e8l:=e8.trans x9l
  have EJ:=E7.trans e8l
  refine k l b hq lj N4 J yl ⟨⟨t5,t6,zs,e8l _ _ y7,((e6.trans x7).trans e8l) _ _ y5,(x7.trans e8l) _ _ y6,h4.mono EJ.tups⟩,⟨by lia,by lia,Ris.nil _,by lia,h6⟩,⟨t8,xl _ _ y9,x9l _ _ y8⟩,m2,m30,nw,hb,h7,hs,rfl,w2⟩ w1 (by lia) (EJ _ _ h1) h2 λc u h n=>EJ _ _ (kp4 c u h n)
theorem jR1(F:Fun K "_law_hued" "_law_hued" xB f fd)(T:Txt mg)(CT:Can P w K mg base "_law_take" 1 fT fdT ["pot","wide"] jS)(CL:Can P w K mg base "_law_lot" 2 fL fdL ["pot","wide"] kT):FnOk P w K mg base CX0 3 f fd ["pot","most_things","most_pieces"] jKG:=by
 refine F.ok scHued (λvs H Q E h=>?_) (λcdv A outer s H vs Q E hr h=>?_)
 .obtain⟨_,_,_,_,rfl,_⟩:=h
  rfl
 .obtain⟨p,N,mt,mp,rfl,mt1,mt2,mp1,mp2,hp,hN,k⟩:=h
  refine⟨_,(huedA T CT CL hr).2.h,?_⟩
  refine⟨(by show 6<=sizeLine;decide),λc1 H1 y1 x1 n1=>?_⟩
  refine⟨_,rfl,p,N,6,rfl,x1 _ _ hp,hN,by decide,by decide,λN2 r2 a1 a2 a3=>?_⟩
  have cp:c1≠p:=λe=>by subst e;rw[hp] at n1;cases n1
  have y2:(upd H1 p (.lst [.int N2])) c1=some (.lst [.int 2,.int 3,.int 4,.int 5,.int 6,.int 30]):=by rw[j7 cp];exact y1
  obtain⟨m,hm,m2,m30⟩:∃m:Int,atI [V.int 2,V.int 3,V.int 4,V.int 5,V.int 6,V.int 30] r2=some (.int m)/\2<=m/\m<=30:=by
   have:r2=0\/r2=1\/r2=2\/r2=3\/r2=4\/r2=5:=by lia
   rcases this with rfl|rfl|rfl|rfl|rfl|rfl
   .exact⟨2,yF (j:=0) rfl,by decide,by decide⟩
   .exact⟨3,yF (j:=1) rfl,by decide,by decide⟩
   .exact⟨4,yF (j:=2) rfl,by decide,by decide⟩
   .exact⟨5,yF (j:=3) rfl,by decide,by decide⟩
   .exact⟨6,yF (j:=4) rfl,by decide,by decide⟩
   .exact⟨30,yF (j:=5) rfl,by decide,by decide⟩
  refine⟨c1,_,r2,_,rfl,rfl,SqL.of y2,hm,?_⟩
  refine⟨_,rfl,_,rfl,_,_,rfl,rfl,p,N2,mt-1,rfl,j5,a1,by lia,by lia,λN3 r3 b1 b2 b3=>?_⟩
  rw[jAT]
  have k3:Keep H (upd H1 p (.lst [.int N3])) p:=λc u h n=>by rw[j7 n];exact x1 _ _ h
  have hp3:(upd H1 p (.lst [.int N3])) p=some (.lst [.int N3]):=j5
  generalize upd H1 p (.lst [.int N3])=H3 at k3 hp3 ⊢
  refine⟨_,_,rfl,rfl,?_⟩
  refine⟨_,rfl,2+r3,rfl,by lia,by lia,jAD (n:=(2+r3).toNat) (by rw[ar];lia) (λD j σ' H' zs=>(∃v,σ'=[v,some (.ref p),some (.int m)])/\(∃ns:List Int,zs=ns.map V.int/\ns.length=j/\∀n∈ns,0<=n/\n<m)/\(∃N':Int,0<=N'/\H' p=some (.lst [.int N']))/\Keep H3 H' p/\H' D=some (.lst zs)/\H3 D=none) ?_ ?_ ?_ ?_⟩
  .intro D hD
   have pD:p≠D:=j8 hp3 hD
   exact⟨⟨_,rfl⟩,⟨[],rfl,rfl,λn hn=>by cases hn⟩,⟨N3,b1,by rw[j7 pD];exact hp3⟩,(Keep.refl _ _).new hD _,j5,hD⟩
  .rintro D j σ' H' zs hD hj ⟨_,⟨ns,rfl,nl,_⟩,_,_,h2,_⟩
   exact⟨h2,by rw[aa];lia⟩
  .rintro D j σ' H' zs hD hj ⟨⟨v,rfl⟩,⟨ns,rfl,nl,nb⟩,⟨N4,n4,hp4⟩,kk,h2,hn⟩
   have pD:p≠D:=j8 hp3 hn
   dsimp only[kI,yH]
   rw[ai rfl]
   refine⟨_,rfl,_,rfl,p,N4,m,rfl,hp4,n4,by lia,by lia,λN5 r5 c1 c2 c3=>?_⟩
   refine⟨by rw[j7 (bO pD)];exact h2,⟨_,rfl⟩,⟨ns++[r5],by rw[aC];rfl,by rw[aK,nl];rfl,λn hn'=>?_⟩,⟨N5,c1,by rw[j7 pD];exact j5⟩,λc u h n=>?_,j5,hn⟩
   .rcases az.mp hn' with z|z
    .exact nb n z
    .cases aW.mp z
     exact⟨c2,c3⟩
   .rw[j7 (j8 h hn),j7 n]
    exact kk c u h n
  .rintro nl σ' H4 zs hD ⟨_,⟨ns,rfl,nlen,nb⟩,⟨N4,n4,hp4⟩,kk,h2,hn⟩
   have np:nl≠p:=λe=>by subst e;rw[hp3] at hn;cases hn
   have nH:H nl=none:=by
    cases q:H nl with
    |none=>rfl
    |some o=>rw[k3 _ _ q np] at hn;cases hn
   have K4:Keep H H4 p:=k3.trans kk
   refine⟨_,rfl,nl,_,rfl,SqL.of h2,_,rfl,_,_,rfl,rfl,by lia,rfl,_,rfl,?_⟩
   by_cases hs:ns.sum%m=0
   .refine yes (by show V.int (ns.sum%m)=V.int 0;rw[hs]) ?_
    cases ns with
    |nil=>rw[gA] at nlen;lia
    |cons n0 nr=>
     have hb0:=nb n0 (au ..)
     refine⟨_,rfl,nl,_,0,_,rfl,rfl,SqL.of h2,yF (xs:=(n0::nr).map V.int) (j:=0) rfl,_,_,rfl,rfl,_,rfl,_,_,rfl,rfl,by lia,?_⟩
     refine⟨_,rfl,nl,_,0,0,rfl,rfl,h2,(by unfold ixN;simp),?_⟩
     have e5:((n0::nr).map V.int).set 0 (V.int ((n0+1)%m))=(((n0+1)%m)::nr).map V.int:=rfl
     show (huedB T CT CL hr).1 _ _ (upd H4 nl (.lst (((n0::nr).map V.int).set 0 (V.int ((n0+1)%m)))))
     rw[e5]
     refine jE8 T CT CL hr ⟨_,hp⟩ (by rw[j7 (bO np)];exact hp4) n4 j5 nH (λc u h n=>by rw[j7 (j8 h nH)];exact K4 c u h n) m2 m30 (by rw[aV] at nlen ⊢;lia) (by lia) (by lia) mt2 mp1 mp2 (λn hn'=>?_) ?_ λl b hq lj N' H' g1 g2 g3 g4 g5 g6 g7=>k l b hq m (2+r3) lj _ N' H' g1 g2 g3 g4 g5 g6 g7
     .rcases ay.mp hn' with rfl|z
      .exact⟨ff _ (by lia),fm _ (by lia)⟩
      .exact nb n (av _ z)
     .rw[jNI n0]
      intro z
      have h1:((n0::nr).sum-n0+(n0+1)%m)%m=((n0::nr).sum+1)%m:=by
       rw[kx,Int.emod_emod,<- kx]
       congr 1
       lia
      rw[h1,kx,hs] at z
      have h2:(1:Int)%m=1:=Int.emod_eq_of_lt (by decide) (by lia)
      rw[h2,dv,h2] at z
      cases z
   .refine nay (λz=>hs (V.int.inj z)) ?_
    exact jE8 T CT CL hr ⟨_,hp⟩ hp4 n4 h2 nH K4 m2 m30 (by lia) (by lia) (by lia) mt2 mp1 mp2 nb hs λl b hq lj N' H' g1 g2 g3 g4 g5 g6 g7=>k l b hq m (2+r3) lj ns N' H' g1 g2 g3 g4 g5 g6 g7
def jIR{b:Bool}{A:Prop}(h:b=true)(a:A):if b=true then A else B:=by rw[ai h];exact a
theorem iteNo{b:Bool}{A:Prop}(h:b=false)(a:B):if b=true then A else B:=by rw[aj (by rw[h];decide)];exact a
inductive TR (wi:Int) (ms:List Int) (lj:List (List Int×Int)) (H:Hp) (r:Addr):Bool->Prop where
 |wh (q:Addr) (xs:List Int) (h1:H r=some (.tup [.str "wholes",.ref q])) (h2:H q=some (.tup (xs.map V.int))) (h3:jAM wi ms lj (.tup (xs.map Ob.int))=true):TR wi ms lj H r true
 |hu (h q:Addr) (M:Int) (hs:List Int) (h1:H r=some (.tup [.str "hues",.ref h])) (h2:H h=some (.tup [.int M,.ref q])) (h3:H q=some (.tup (hs.map V.int))) (h4:hueB wi ms lj (.tup [.int M,.tup (hs.map Ob.int)])=true):TR wi ms lj H r false
def wordS(b:Bool):PySem.Str:=if b then "wholes" else "hues"
def jJ7{w:Int}(h:jAM w ms lj (.tup (xs.map Ob.int))=true):xs.length=lj.length:=by
 rw[jAS,ba] at h
 exact aG h.1
theorem jOP{w:Int}(h:hueB w ms lj (.tup [.int M,.tup (hs.map Ob.int)])=true):(hs.length:Int)=w:=by
 have h:(decide (2<=M)&&(decide (((hs.map Ob.int).length:Int)=w)&&((hs.map Ob.int).all (hueO M)&&restH M ms lj ((hs.map Ob.int).map valO))))=true:=h
 rw[ba,ba,aa] at h
 exact aG h.2.1
def atsI:∀ls:List Int,Ats H (ls.map Ob.int) (ls.map V.int)
 |[]=>rfl
 |x::ls=>⟨_,_,rfl,rfl,atsI ls⟩
def jMX(h:H q=some (.tup (xs.map V.int)))(hl:xs.length<=100):At H (.tup (xs.map Ob.int)) (.ref q):=jPR h (by rw[aa];exact hl) (atsI xs)
theorem jTX{h:Addr}(h1:H h=some (.tup [.int M,.ref q]))(h2:H q=some (.tup (hs.map V.int)))(hl:hs.length<=100):At H (.tup [.int M,.tup (hs.map Ob.int)]) (.ref h):=
 jPR h1 (by show 2<=100;decide) (ats1 (jTW _ _) (ats1 (jMX h2 hl) (ats0 _)))
abbrev jLB:List Str:=["box","found"]
def scToldR:FnScope jLB ["box","found"] (jB jCP):= {}
def jS3(T:Txt mg)(CW:Can P w K mg base "_law_wholes_right" 2 fW fdW ["box","thing"] spWho)(CH:Can P w K mg base "_law_hues_right" 3 fH fdH ["box","thing"] jI6)(hr:Room 3 (XOf jLB "_law_told_right" jCP P w K mg base f cdv A outer s H0 E).A): {t:TS // JSs (XOf jLB "_law_told_right" jCP P w K mg base f cdv A outer s H0 E) (jE jCP) t}:=
 have nd:=scToldR.nd
 ⟨_,(jA (qD (jt_w (jw_or (jBZ (qP (jF jA4 gD T.isinstance (by decide+kernel) (j3 (jv 1 rfl vL) (j3 (jBL (v:=.ty "tuple") gD T.tuple (by decide+kernel) rfl) j6 j4) j4) j4) qB)) (jw_or (jM qS (jF jN gD T.len (by decide+kernel) (j3 (jv 1 rfl vL) j6 j4) j4) (j9) (jT _)) (jG1 (jBZ (qP (jF jA4 gD T.isinstance (by decide+kernel) (j3 (jK jU (jv 1 rfl vL) (j9) jD) (j3 (jBL (v:=.ty "str") gD T.str (by decide+kernel) rfl) j6 j4) jR) jR) qB)))))) (jC (kD (jPJ))) yC)
   (jA (qD (jt_w (jLO (jM qM (jK jU (jv 1 rfl vL) (j9) jD) (jBD) (jT _)) (jHI (qP (CW.je (hr.mono (by decide)) gD (j3 (jv 0 rfl vL) (j3 (jK jU (jv 1 rfl vL) (j9) jD) j6 jR) j4) j4) qB)))) (jC (kD (jBD))) yC)
   (jA (qD (jt_w (jLO (jM qM (jK jU (jv 1 rfl vL) (j9) jD) (jBD) (jT _)) (jHI (qP (CH.je hr gD (j3 (jv 0 rfl vL) (j3 (jK jU (jv 1 rfl vL) (j9) jD) j6 jR) j4) j4) qB)))) (jC (kD (jBD))) yC)
   (jC (kD (jPJ))))))⟩
def jGZ:Sp:=λvs H Q _=>∃(b r:Addr) (wi:Int) (ms:List Int) (lj:List (List Int×Int)) (x:Bool),vs=[.ref b,.ref r]/\BoxAt H b wi ms lj/\Good 16 32 wi ms lj/\TR wi ms lj H r x/\∀H',Ext H H'->Q (.str (wordS x)) H'
theorem jO3(F:Fun K "_law_told_right" "_law_told_right" jCP f fd)(T:Txt mg)(CW:Can P w K mg base "_law_wholes_right" 2 fW fdW ["box","thing"] spWho)(CH:Can P w K mg base "_law_hues_right" 3 fH fdH ["box","thing"] jI6):FnOk P w K mg base CX0 4 f fd ["box","found"] jGZ:=by
 refine F.ok scToldR (λvs H Q E h=>?_) (λcdv A outer s H vs Q E hr h=>?_)
 .obtain⟨_,_,_,_,_,_,rfl,_⟩:=h
  rfl
 .obtain⟨b,r,wi,ms,lj,x,rfl,hB,g,tr,q⟩:=h
  have pl:=g.pl
  have w1:=g.w1
  refine⟨_,(jS3 T CW CH hr).2.h,?_⟩
  cases tr with
  |wh qa xs h1 h2 h3=>
   have xl:=jJ7 h3
   refine⟨_,rfl,_,_,_,true,rfl,.tup h1,rfl,_,rfl,iteF ?_⟩
   refine⟨_,rfl,r,_,rfl,.inr (SqT.of h1),rfl,_,rfl,iteF ?_⟩
   refine⟨_,rfl,r,_,0,_,rfl,rfl,SqT.of h1,rfl,_,_,_,true,rfl,.str _,rfl,_,rfl,iteF ?_⟩
   refine⟨_,rfl,r,_,0,_,rfl,rfl,SqT.of h1,rfl,rfl,_,rfl,jIR (by decide+kernel) ?_⟩
   refine⟨_,rfl,_,rfl,r,_,1,_,rfl,rfl,SqT.of h1,rfl,b,_,_,wi,ms,lj,rfl,hB,g,jMX h2 (by lia),λH' e'=>?_⟩
   rw[h3]
   exact⟨true,rfl,iteT (q H' e')⟩
  |hu h qa M hs h1 h2 h3 h4=>
   have hl:=jOP h4
   refine⟨_,rfl,_,_,_,true,rfl,.tup h1,rfl,_,rfl,iteF ?_⟩
   refine⟨_,rfl,r,_,rfl,.inr (SqT.of h1),rfl,_,rfl,iteF ?_⟩
   refine⟨_,rfl,r,_,0,_,rfl,rfl,SqT.of h1,rfl,_,_,_,true,rfl,.str _,rfl,_,rfl,iteF ?_⟩
   refine⟨_,rfl,r,_,0,_,rfl,rfl,SqT.of h1,rfl,rfl,_,rfl,iteNo (by decide+kernel) ?_⟩
   refine⟨_,rfl,r,_,0,_,rfl,rfl,SqT.of h1,rfl,rfl,_,rfl,jIR (by decide+kernel) ?_⟩
   refine⟨_,rfl,_,rfl,r,_,1,_,rfl,rfl,SqT.of h1,rfl,b,_,_,wi,ms,lj,rfl,hB,g,jTX h2 h3 (by lia),λH' e'=>?_⟩
   rw[h4]
   exact⟨true,rfl,iteT (q H' e')⟩
def pcT(pc:List Int×Int):Tr:=.tup [.tup (pc.1.map Tr.int),.int pc.2]
def jPK:∀l:List Int,TsAt H (l.map Tr.int) (l.map V.int)
 |[]=>rfl
 |i::r=>⟨.int i,_,rfl,rfl,jPK r⟩
def pcs_T:∀{vs:List V}{lj:List (List Int×Int)},PcsAt H vs lj->TsAt H (lj.map pcT) vs
 |[],[],_=>rfl
 |v::vs,p::ps,h=>by
  obtain⟨a,q,e,h1,h2⟩:=h.1
  exact⟨v,vs,rfl,⟨a,_,e,h1,.ref q,_,rfl,⟨q,_,rfl,h2,jPK _⟩,.int p.2,[],rfl,rfl,rfl⟩,pcs_T h.2⟩
 |[],_::_,h=>h.elim
 |_::_,[],h=>h.elim
def jE9:∀l:List Int,deps (l.map Tr.int)=0
 |[]=>by simp[deps]
 |i::r=>by simp[deps,dep,jE9 r]
theorem jJ0:∀l:List (List Int×Int),deps (l.map pcT)<=2
 |[]=>by simp[deps]
 |p::r=>by
  have:=jJ0 r
  simp only[aP,deps,pcT,dep,jE9]
  lia
theorem jM5(l:List (List Int×Int)):eqTs (l.map pcT) []=decide (l=[]):=by
 cases l with
 |nil=>rfl
 |cons a r=>rfl
abbrev leI:Int->Int->Bool:=λa b=>decide (a<=b)
def srt(l:List Int):List Int:=l.mergeSort leI
def jBQ(l:List Int):(srt l).Perm l:=List.mergeSort_perm _ _
def jP4(l:List Int):(srt l).Pairwise (· <= ·):=by
 have:=List.pairwise_mergeSort (le:=leI) (λa b c h1 h2=>ax (dq (aG h1) (aG h2))) (λa b=>by
  rw[Bool.or_eq_true]
  rcases Int.le_total a b with h|h
  .exact .inl (ax h)
  .exact .inr (ax h)) l
 exact this.imp λh=>aG h
def jP5{l m:List Int}(h1:m.Pairwise (· <= ·))(h2:m.Perm l):m=srt l:=
 List.Perm.eq_of_pairwise (λa b _ _ h1 h2=>Int.le_antisymm h1 h2) h1 (jP4 l) (h2.trans (jBQ l).symm)
def jQ2(l:List Int):(srt l).length=l.length:=(jBQ l).length_eq
abbrev NP:Type:=Int×(List Int×Int)
def sW(t:Int):List NP->Int
 |[]=>0
 |x::r=>(if t∈x.2.1 then x.1 else 0)+sW t r
theorem jBT(t:Int):∀l:List NP,((l.filter λx=>decide (t∈x.2.1)).map Prod.fst).sum=sW t l
 |[]=>rfl
 |x::r=>by
  rw[bL]
  show _=(if t∈x.2.1 then x.1 else 0)+sW t r
  by_cases h:t∈x.2.1
  .rw[ai (ax h),ai h,aP,dU,jBT t r]
  .rw[aj (λz=>h (aG z)),aj h,jBT t r,dv]
theorem jA9(t:Int):∀l m:List NP,sW t (l++m)=sW t l+sW t m
 |[],m=>by show sW t m=0+sW t m;lia
 |x::r,m=>by
  show (if t∈x.2.1 then x.1 else 0)+sW t (r++m)=(if t∈x.2.1 then x.1 else 0)+sW t r+sW t m
  rw[jA9 t r m]
  lia
theorem jQ5(t:Int){l m:List NP}(h:l.Perm m):sW t l=sW t m:=by
 induction h with
 |nil=>rfl
 |cons x _ ih=>show _+_=_+_;rw[ih]
 |swap x y l=>show _+(_+_)=_+(_+_);lia
 |trans _ _ a b=>exact a.trans b
def jKN(t u:Int)(F:List Int×Int->List Int×Int):∀l:List NP,(∀x∈l,t∈(F x.2).1↔u∈x.2.1)->sW t (l.map λx=>(x.1,F x.2))=sW u l
 |[],_=>rfl
 |x::r,h=>by
  show (if t∈(F x.2).1 then x.1 else 0)+sW t (r.map λx=>(x.1,F x.2))=(if u∈x.2.1 then x.1 else 0)+sW u r
  rw[jKN t u F r λy hy=>h y (av _ hy)]
  have:=h x au
  simp only[this]
def jDH(t:Int):∀l:List NP,(∀x∈l,¬t∈x.2.1)->sW t l=0
 |[],_=>rfl
 |x::r,h=>by
  show (if t∈x.2.1 then x.1 else 0)+sW t r=0
  rw[aj (h x au),jDH t r λy hy=>h y (av _ hy)]
  rfl
def HasL(mu:List Int)(lj:List (List Int×Int)):Prop:=∃l:List NP,l.map Prod.snd=lj/\∀t∈mu,sW t l=1
def HasW(w:Int)(ms:List Int)(lj:List (List Int×Int)):Prop:=∃xs:List Int,jAM w ms lj (.tup (xs.map Ob.int))=true
theorem jAY{w:Int}:HasW w ms lj↔HasL (mus ms w.toNat) lj:=by
 constructor
 .rintro ⟨xs,h⟩
  rw[jAS,ba] at h
  have hl:=aG h.1
  refine⟨xs.zip lj,by rw[iM];lia,λt ht=>?_⟩
  have:=aG (bF.mp h.2 t ht)
  unfold wL at this
  rwa [bf (by rw[cU];lia),jBT] at this
 .rintro ⟨l,rfl,h⟩
  refine⟨l.map Prod.fst,?_⟩
  rw[jAS,ba]
  refine⟨ax (by rw[aa,aa]),bF.mpr λt ht=>ax ?_⟩
  unfold wL
  have e:(l.map Prod.fst).zip (l.map Prod.snd)=l:=by
   rw[List.zip_map',show (λa:NP=>(a.1,a.2))=id from rfl,ir]
  rw[bf (by rw[e,aa];lia),e,jBT,h t ht]
def jKV{α β:Type}{f:α->β}{m m':List β}(h:m.Perm m'):∀l:List α,l.map f=m->∃l',l.Perm l'/\l'.map f=m':=by
 induction h with
 |nil=>exact λl hl=>⟨l,h8 _,hl⟩
 |cons x _ ih=>
  intro l hl
  cases l with
  |nil=>cases hl
  |cons a r=>
   obtain⟨h1,h2⟩:=jy hl
   obtain⟨l',p,e⟩:=ih r h2
   exact⟨a::l',p.cons a,by rw[aP,h1,e]⟩
 |swap x y t=>
  intro l hl
  match l,hl with
  |a::b::r,hl=>
   obtain⟨h1,h2⟩:=jy hl
   obtain⟨h3,h4⟩:=jy h2
   exact⟨b::a::r,List.Perm.swap b a r,by rw[aP,aP,h1,h3,h4]⟩
 |trans _ _ a b=>
  intro l hl
  obtain⟨l1,p1,e1⟩:=a l hl
  obtain⟨l2,p2,e2⟩:=b l1 e1
  exact⟨l2,p1.trans p2,e2⟩
def HasL.perm(h:HasL mu lj)(p:lj.Perm lj'):HasL mu lj':=by
 obtain⟨l,e,s⟩:=h
 obtain⟨l',pl,e'⟩:=jKV p l e
 exact⟨l',e',λt ht=>by rw[<- jQ5 t pl];exact s t ht⟩
def HasL.map{mu mu':List Int}{lj:List (List Int×Int)}(F:List Int×Int->List Int×Int)(h:HasL mu lj)(hm:∀t∈mu',∃u∈mu,∀p∈lj,t∈(F p).1↔u∈p.1):HasL mu' (lj.map F):=by
 obtain⟨l,rfl,s⟩:=h
 refine⟨l.map λx=>(x.1,F x.2),by rw[b8,b8];rfl,λt ht=>?_⟩
 obtain⟨u,hu,q⟩:=hm t ht
 rw[jKN t u F l λx hx=>q _ (bv hx)]
 exact s u hu
theorem HasL.unmap{mu mu':List Int}{lj:List (List Int×Int)}(F:List Int×Int->List Int×Int)(h:HasL mu' (lj.map F))(hm:∀u∈mu,∃t∈mu',∀p∈lj,t∈(F p).1↔u∈p.1):HasL mu lj:=by
 obtain⟨l,e,s⟩:=h
 have hl:l.length=lj.length:=by have:=bB List.length e;rwa [aa,aa] at this
 have el:((l.map Prod.fst).zip lj).map (λx=>(x.1,F x.2))=l:=by
  have:((l.map Prod.fst).zip lj).map (λx:NP=>(x.1,F x.2))=(l.map Prod.fst).zip (lj.map F):=by
   rw[List.zip_map_right]
   rfl
  rw[this,<- e,List.zip_map',show (λa:NP=>(a.1,a.2))=id from rfl,ir]
 refine⟨(l.map Prod.fst).zip lj,by rw[iM];rw[aa];lia,λu hu=>?_⟩
 obtain⟨t,ht,q⟩:=hm u hu
 have:=jKN t u F ((l.map Prod.fst).zip lj) λx hx=>q _ (cR (a:=x.1) (b:=x.2) hx).2
 rw[<- this,el]
 exact s t ht
theorem HasL.more{p:List Int×Int}(hp:p∈lj):HasL mu (lj++[p])↔HasL mu lj:=by
 constructor
 .rintro ⟨l,e,s⟩
  obtain⟨la,lb,rfl,ea,eb⟩:=i4.mp e
  obtain⟨⟨x,p'⟩,eb1,eb2⟩:=List.map_eq_singleton_iff.mp eb
  cases eb2
  obtain⟨⟨y,p''⟩,hy,ey⟩:=aQ.mp (show p'∈la.map Prod.snd by rw[ea];exact hp)
  obtain rfl:p''=p':=ey
  obtain⟨l1,l2,rfl⟩:=List.append_of_mem hy
  refine⟨l1++(y+x,p'')::l2,by rw[<- ea,aC,aC];rfl,λt ht=>?_⟩
  have:=s t ht
  rw[eb1,jA9,jA9] at this
  have e1:sW t ((y,p'')::l2)=(if t∈p''.1 then y else 0)+sW t l2:=rfl
  have e2:sW t [(x,p'')]=(if t∈p''.1 then x else 0)+0:=rfl
  have e3:sW t ((y+x,p'')::l2)=(if t∈p''.1 then y+x else 0)+sW t l2:=rfl
  rw[jA9,e3]
  rw[e1,e2] at this
  split at this
  .rename_i q;rw[ai q];lia
  .rename_i q;rw[aj q];lia
 .rintro ⟨l,rfl,s⟩
  refine⟨l++[(0,p)],by rw[aC];rfl,λt ht=>?_⟩
  have e2:sW t [((0:Int),p)]=(if t∈p.1 then 0 else 0)+0:=rfl
  rw[jA9,e2,s t ht]
  split<;>rfl
def shP(d:Int)(p:List Int×Int):List Int×Int:=(p.1.map (· +d),p.2)
theorem mem_sh:t+d∈ts.map (· +d)↔t∈ts:=by
 constructor
 .intro h
  obtain⟨z,hz,e⟩:=aQ.mp h
  have:z=t:=by lia
  rwa [<- this]
 .exact λh=>bv (f:=(· +d)) h
theorem HasL.beside{mu1 mu2:List Int}{pa pb:List (List Int×Int)}(h1:∀t∈mu1,t<d)(h2:∀t∈mu2,0<=t)(hmu:∀t,t∈mu↔t∈mu1\/∃u∈mu2,t=u+d)(ha:∀p∈pa,∀t∈p.1,t<d)(hb:∀p∈pb,∀t∈p.1,0<=t):HasL mu (pa++pb.map (shP d))↔HasL mu1 pa/\HasL mu2 pb:=by
 have nb:∀t,t<d->∀p∈pb.map (shP d),¬t∈p.1:=λt ht p hp hm=>by
  obtain⟨q,hq,rfl⟩:=aQ.mp hp
  obtain⟨z,hz,e⟩:=aQ.mp (show t∈q.1.map (· +d) from hm)
  have:=hb q hq z hz
  lia
 have na:∀t,d<=t->∀p∈pa,¬t∈p.1:=λt ht p hp hm=>by
  have:=ha p hp t hm
  lia
 constructor
 .rintro ⟨l,e,s⟩
  obtain⟨la,lb,rfl,ea,eb⟩:=i4.mp e
  refine⟨⟨la,ea,λt ht=>?_⟩,?_⟩
  .have:=s t ((hmu t).mpr (.inl ht))
   rw[jA9,jDH t lb λx hx=>nb t (h1 t ht) _ (by rw[<- eb];exact bv hx)] at this
   lia
  .refine HasL.unmap (mu':=mu2.map (· +d)) (shP d) ⟨lb,eb,λt ht=>?_⟩ λu hu=>⟨u+d,bv (f:=(· +d)) hu,λp _=>mem_sh⟩
   obtain⟨u,hu,rfl⟩:=aQ.mp ht
   have:=s (u+d) ((hmu _).mpr (.inr ⟨u,hu,rfl⟩))
   have u0:=h2 u hu
   rw[jA9,jDH (u+d) la λx hx=>na _ (by lia) _ (by rw[<- ea];exact bv hx)] at this
   show sW (u+d) lb=1
   lia
 .rintro ⟨⟨la,rfl,sa⟩,hB⟩
  obtain⟨lb,eb,sb⟩:=hB.map (mu':=mu2.map (· +d)) (shP d) λt ht=>(by
   obtain⟨u,hu,rfl⟩:=aQ.mp ht
   exact⟨u,hu,λp _=>mem_sh⟩)
  refine⟨la++lb,by rw[aC,eb],λt ht=>?_⟩
  rw[jA9]
  rcases (hmu t).mp ht with q|⟨u,hu,rfl⟩
  .rw[sa t q,jDH t lb λx hx=>nb t (h1 t q) _ (by rw[<- eb];exact bv hx)]
   rfl
  .have u0:=h2 u hu
   rw[sb _ (bv (f:=(· +d)) hu),jDH (u+d) la λx hx=>na _ (by lia) _ (bv hx)]
   rfl
theorem jJY{w1 w2:Int}{m1 m2:List Int}{p1 p2:List (List Int×Int)}{a:Int}(g1:Good a b w1 m1 p1)(g2:Good a b w2 m2 p2):HasW (w1+w2) (m1++m2.map (· +w1)) (p1++p2.map (shP w1))↔HasW w1 m1 p1/\HasW w2 m2 p2:=by
 rw[jAY,jAY,jAY]
 have a0:=g1.w0
 have b0:=g2.w0
 refine HasL.beside (λt ht=>?_) (λt ht=>(mem_mus.mp ht).1) (λt=>?_) (λp hp t ht=>((g1.pg p hp).lot.bnd t ht).2) λp hp t ht=>((g2.pg p hp).lot.bnd t ht).1
 .obtain⟨t0,t1,_⟩:=mem_mus.mp ht
  lia
 .constructor
  .intro ht
   obtain⟨t0,t1,tm⟩:=mem_mus.mp ht
   by_cases q:t<w1
   .exact .inl (mem_mus.mpr ⟨t0,by lia,λz=>tm (aE _ z)⟩)
   .refine .inr ⟨t-w1,mem_mus.mpr ⟨by lia,by lia,λz=>tm (am _ ?_)⟩,by lia⟩
    exact aQ.mpr ⟨_,z,by lia⟩
  .rintro (ht|⟨u,hu,rfl⟩)
   .obtain⟨t0,t1,tm⟩:=mem_mus.mp ht
    refine mem_mus.mpr ⟨t0,by lia,λz=>?_⟩
    rcases az.mp z with z|z
    .exact tm z
    .obtain⟨y,hy,e⟩:=aQ.mp z
     have:=(g2.mr.bnd y hy).1
     lia
   .obtain⟨t0,t1,tm⟩:=mem_mus.mp hu
    refine mem_mus.mpr ⟨by lia,by lia,λz=>?_⟩
    rcases az.mp z with z|z
    .have:=(g1.mr.bnd _ z).2
     lia
    .exact tm (mem_sh.mp z)
def jO9{w:Int}{p:List Int×Int}(hp:p∈lj):HasW w ms (lj++[p])↔HasW w ms lj:=by
 rw[jAY,jAY]
 exact HasL.more hp
def plOf(th:List Int)(t:Int):Int:=(th.idxOf t:Nat)
theorem jIC{a:Int}(ha:a∈th)(h:plOf th a=plOf th b):a=b:=by
 unfold plOf at h
 have h':th.idxOf a=th.idxOf b:=by lia
 have l1:=gM ha
 have e1:=ic l1
 have e2:th[th.idxOf b]'(by rw[<- h'];exact l1)=b:=ic (by rw[<- h'];exact l1)
 rw[<- e1,<- e2]
 simp only[h']
def jTB(h:∀z∈ts,z∈th)(ht:t∈th):plOf th t∈ts.map (plOf th)↔t∈ts:=by
 constructor
 .intro q
  obtain⟨z,hz,e⟩:=aQ.mp q
  rw[<- jIC (h z hz) e]
  exact hz
 .exact λq=>bv q
theorem jPA(ht:t∈th):0<=plOf th t/\plOf th t<th.length:=by
 have:=gM ht
 unfold plOf
 lia
theorem jQH(nd:th.Nodup){j:Int}(h0:0<=j)(h1:j<th.length):∃t∈th,plOf th t=j:=by
 have hj:j.toNat<th.length:=by lia
 refine⟨th[j.toNat],bC hj,?_⟩
 unfold plOf
 rw[List.Nodup.idxOf_getElem nd j.toNat hj]
 lia
def rP(th:List Int)(p:List Int×Int):List Int×Int:=(srt (p.1.map (plOf th)),p.2)
theorem jP9{w:Int}(hl:(th.length:Int)=w)(h:∀z∈ts,z∈th)(r:ts.Pairwise (· < ·)):Ris w (srt (ts.map (plOf th))):=by
 have nd:(ts.map (plOf th)).Nodup:=by
  have n1:ts.Nodup:=r.imp λ{a b} h=>by lia
  refine cO.mpr (List.Pairwise.imp_of_mem ?_ n1)
  exact λ{a b} ha hb ne e=>ne (jIC (h a ha) e)
 have nd2:(srt (ts.map (plOf th))).Nodup:=(jBQ _).nodup_iff.mpr nd
 refine⟨?_,λz hz=>?_⟩
 .have:=(jP4 (ts.map (plOf th))).and nd2
  exact this.imp λ{a b} h=>by obtain⟨x,y⟩:=h;lia
 .obtain⟨t,ht,rfl⟩:=aQ.mp ((jBQ _).mem_iff.mp hz)
  have:=jPA (h t ht)
  lia
def jIJ(h:∀z∈ts,z∈th)(ht:t∈th):plOf th t∈srt (ts.map (plOf th))↔t∈ts:=by
 rw[(jBQ _).mem_iff]
 exact jTB h ht
theorem jJA{a w:Int}(g:Good a b w ms lj)(pt:th.Perm (upto w.toNat))(pp:lj'.Perm (lj.map (rP th))):
  Good a b w (srt (ms.map (plOf th))) lj'/\(HasW w (srt (ms.map (plOf th))) lj'↔HasW w ms lj):=by
 have w0:=g.w0
 have hin:∀z,0<=z->z<w->z∈th:=λz z0 z1=>pt.mem_iff.mpr (aQ.mpr ⟨z.toNat,bq.mpr (by lia),by lia⟩)
 have hof:∀z∈th,0<=z/\z<w:=λz hz=>by
  obtain⟨n,hn,rfl⟩:=aQ.mp (pt.mem_iff.mp hz)
  have:=bq.mp hn
  exact⟨by lia,by lia⟩
 have hl:(th.length:Int)=w:=by rw[pt.length_eq,jCX];lia
 have nd:th.Nodup:=pt.nodup_iff.mpr (by
  refine cO.mpr (List.Pairwise.imp ?_ (fZ (n:=w.toNat)))
  exact λ{a b} ne e=>ne (by lia))
 have hm:∀z∈ms,z∈th:=λz hz=>hin z (g.mr.bnd z hz).1 (g.mr.bnd z hz).2
 have hp:∀p∈lj,∀z∈p.1,z∈th:=λp hp z hz=>hin z ((g.pg p hp).lot.bnd z hz).1 ((g.pg p hp).lot.bnd z hz).2
 refine⟨⟨w0,g.w1,jP9 hl hm g.mr.ris,by rw[pp.length_eq,aa];exact g.pl,λq hq=>?_⟩,?_⟩
 .obtain⟨p,hpp,rfl⟩:=aQ.mp (pp.mem_iff.mp hq)
  have gp:=g.pg p hpp
  have r:=jP9 hl (hp p hpp) gp.lot.ris
  exact⟨⟨r.ris,r.bnd,λz=>gp.lot.ne (ef (by
   have z2:=bB List.length z
   rw[show (rP th p).1=srt (p.1.map (plOf th)) from rfl,jQ2,aa] at z2
   exact z2))⟩,gp.lo,gp.hi⟩
 .rw[jAY,jAY]
  constructor
  .intro h
   refine(h.perm pp).unmap (rP th) λu hu=>?_
   obtain⟨u0,u1,um⟩:=mem_mus.mp hu
   have ut:=hin u u0 (by lia)
   have pb:=jPA ut
   exact⟨plOf th u,mem_mus.mpr ⟨pb.1,by lia,λz=>um ((jIJ hm ut).mp z)⟩,λp hpp=>jIJ (hp p hpp) ut⟩
  .intro h
   refine(h.map (mu':=mus (srt (ms.map (plOf th))) w.toNat) (rP th) λt ht=>?_).perm pp.symm
   obtain⟨t0,t1,tm⟩:=mem_mus.mp ht
   obtain⟨u,ut,rfl⟩:=jQH nd t0 (by lia)
   have ub:=hof u ut
   exact⟨u,mem_mus.mpr ⟨ub.1,by lia,λz=>tm ((jIJ hm ut).mpr z)⟩,λp hpp=>jIJ (hp p hpp) ut⟩
end Eo
namespace L2
open PySem
def jJQ{X:Cx}{sc:Scope}{cl:List (Str×Addr)}{C:Addr}{Nc:List Str}{fp:List Addr}{s:Shared}{H:Hp}{x y:Str}{p1 p2 pos:Pos}{k:Nat}{i j:Nat}(hc:X.calm=true)(hN:Nc.Nodup)(hi:Nc[i]?=some x)(hj:Nc[j]?=some y)(hx:Loc1 (blkC X sc cl C Nc fp s H) x)(hy:Loc1 (blkC X sc cl C Nc fp s H) y):
  JG (blkC X sc cl C Nc fp s H) (.Tuple [.Name x p1,.Name y p2] k pos) (gTup X.K 2 (qZ (kI i) (qZ (kI j) gNil))):=
 jIO (X:=blkC X sc cl C Nc fp s H) hc (jAK (jJ hN hi hx) (jAK (jJ hN hj hy) jEX jB3) jB3)
def jF9{X:Cx}{sc:Scope}{cl:List (Str×Addr)}{C:Addr}{Nc:List Str}{fp:List Addr}{H:Hp}:yV (blkC X sc cl C Nc fp s H) (.type "tuple") (λxs H Q=>∃p ys,xs=[.ref p]/\((SqL X.K H p ys/\∀l,H l=none->Q (.ref l) (upd H l (.tup ys)))\/(SqT X.K H p ys/\Q (.ref p) H))):=jO
end L2
namespace Eo
open PySem L2
variable {lj:List (List Int×Int)}{H:Hp}{b q p tl pl:Addr}{v7 v3:Option V}{ts th ms lot:List Int}{fd:FuncData}{vs:List V}{D:Ends}{d N:Int}
abbrev jD3:List Str:=["pot","box","things","thing","pieces","held","weight","piece"]
def scTurnedL:FnScope jD3 ["pot","box"] (jB yP):= {}
abbrev XTd(P:Program)(w:World)(K:W.Frag)(mg:Str->Option Value)(base:Heap)(f:Addr)(cdv:Value)(A:Around)(outer:List Env)(s:Shared)(H:Hp)(E:XK):Cx:=XOf jD3 "_law_turned" yP P w K mg base f cdv A outer s H E
abbrev tdS(i:Nat):List Stmt:=qH ((jE yP).getD i (.Pass ⟨0,0,0,0⟩))
section
variable (T:Txt mg)(CT:Can P w K mg base "_law_take" 1 fT fdT ["pot","wide"] jS)(hr:Room 1 (XTd P w K mg base f cdv A outer s H0 E).A)
def td1: {t:TS // JSs (XTd P w K mg base f cdv A outer s H0 E) (tdS 1) t}:=
 have nd:=scTurnedL.nd
 have _h:=T;have _h2:=CT;have _h3:=hr
 ⟨_,(jC (jAQ (xC bD dR dS jBY (jv 2 rfl vC) (j3 (CT.je hr gD (j3 (jv 0 rfl vL) (j3 (jW yB (jv 3 rfl vL) (j9)) j6 yD) j4) j4) (j3 (jv 3 rfl vL) j6 j4) jG) jG) jZ))⟩
def td2: {t:TS // JSs (XTd P w K mg base f cdv A outer s H0 E) (tdS 3) t}:=
 have nd:=scTurnedL.nd
 have _h:=T;have _h2:=CT;have _h3:=hr
 ⟨_,(jA (jL (i:=7) nd rfl lL (kW (j3 (kG jO gD T.tuple (by decide+kernel) (j3 (jF jCV gD T.sorted (by decide+kernel) (j3 (kJ (m:=[none,some 2]) (Nc:=["thing","things"]) rfl (qT (jv 5 rfl vL)) rfl (by decide+kernel) (by decide+kernel) (jQ (psc:=jB yP)) (jH (N:=jD3) rfl rfl (by decide+kernel)) (λcl C fp s H=>jJ (i:=0) (show (["thing","things"]:List Str).Nodup by decide+kernel) rfl yG) (λcl C fp s H=>kO) (λcl C fp s H=>(jLS bD iP iQ jFW (jv 1 rfl jX) (j3 (jv 0 rfl jV) j6 j4) j4)) yM) j6 jP) jP) j6 jG) jG) (j3 (jv 6 rfl vL) j6 j4) jG)) jKD)
   (jC (jAQ (xC bD dR dS jBY (jv 4 rfl vL) (j3 (CT.je hr gD (j3 (jv 0 rfl vL) (j3 (jW yB (jF jN gD T.len (by decide+kernel) (j3 (jv 4 rfl vL) j6 j4) j4) (j9)) j6 yD) j4) j4) (j3 (jv 7 rfl vL) j6 j4) jG) jG) jZ)))⟩
def tdE: {t:TS // JSs (XTd P w K mg base f cdv A outer s H0 E) ((jE yP).drop 4) t}:=
 have nd:=scTurnedL.nd
 have _h:=T;have _h2:=CT;have _h3:=hr
 ⟨_,(jC (kD (kW (j3 (jK jU (jv 1 rfl vL) (j9) jD) (j3 (kG jO gD T.tuple (by decide+kernel) (j3 (jF jCV gD T.sorted (by decide+kernel) (j3 (kJ (m:=[none,some 2]) (Nc:=["may","things"]) rfl (qT (jK jU (jv 1 rfl vL) (j9) jD)) rfl (by decide+kernel) (by decide+kernel) (jQ (psc:=jB yP)) (jH (N:=jD3) rfl rfl (by decide+kernel)) (λcl C fp s H=>jJ (i:=0) (show (["may","things"]:List Str).Nodup by decide+kernel) rfl yG) (λcl C fp s H=>kO) (λcl C fp s H=>(jLS bD iP iQ jFW (jv 1 rfl jX) (j3 (jv 0 rfl jV) j6 j4) j4)) qV) j6 jP) jP) j6 jG) jG) (j3 (kG jO gD T.tuple (by decide+kernel) (j3 (jv 4 rfl vL) j6 j4) j4) j6 jG) jG) jR))))⟩
def tdB: {t:TS // JSs (XTd P w K mg base f cdv A outer s H0 E) ((jE yP).drop 2) t}:=
 have nd:=scTurnedL.nd
 have _h:=T;have _h2:=CT;have _h3:=hr
 ⟨_,(jA (jL (i:=4) nd rfl lL (yL j6) jBA) (jA (yZ br rfl (qT (jK jU (jv 1 rfl vL) (j9) jD)) (jIN (i:=5) (j:=6) nd rfl rfl (by decide+kernel) (by decide+kernel)) (td2 T CT hr).2 qV) (tdE T CT hr).2))⟩
def tdA: {t:TS // JSs (XTd P w K mg base f cdv A outer s H0 E) (jE yP) t}:=
 have nd:=scTurnedL.nd
 have _h:=T;have _h2:=CT;have _h3:=hr
 ⟨_,(jA (jL (i:=2) nd rfl qI (yL j6) jBA) (jA (yZ br rfl (kY gD T.range (j3 (jK jU (jv 1 rfl vL) (j9) jD) j6 jR) jR) (jJ (i:=3) nd rfl lL) (td1 T CT hr).2 kQ) (tdB T CT hr).2))⟩
end
abbrev jFV:List Str:=["one","other","pieces"]
def scBesid:FnScope jFV ["one","other"] (jB jBB):= {}
def jTV(T:Txt mg)(hr:Room 1 (XOf jFV "_law_beside" jBB P w K mg base f cdv A outer s H0 E).A): {t:TS // JSs (XOf jFV "_law_beside" jBB P w K mg base f cdv A outer s H0 E) (jE jBB) t}:=
 have nd:=scBesid.nd
 ⟨_,(jA (jL (i:=2) nd rfl lL (kG jO gD T.tuple (by decide+kernel) (j3 (jIQ (m:=[none,none,some 0]) (Nc:=["held","weight","one"]) rfl (qT (jK jU (jv 1 rfl vL) (j9) jD)) rfl (by decide+kernel) (by decide+kernel) (jQ (psc:=jB jBB)) (jH (N:=jFV) rfl rfl (by decide+kernel)) (λcl C fp s H=>jJQ (i:=0) (j:=1) rfl (show (["held","weight","one"]:List Str).Nodup by decide+kernel) rfl rfl jHH jHH) (λcl C fp s H=>kO) (λcl C fp s H=>(kW (j3 (kG jF9 (gl_bC (by decide+kernel)) T.tuple (by decide+kernel) (j3 (kJ (m:=[none,some 2]) (Nc:=["thing","one"]) rfl (jG2 (jv 0 rfl jED)) rfl (by decide+kernel) (by decide+kernel) (jIV (by decide+kernel)) (jH (N:=["held","weight","one"]) rfl rfl (by decide+kernel)) (λcl C fp s H=>jJ (i:=0) (show (["thing","one"]:List Str).Nodup by decide+kernel) rfl yG) (λcl C fp s H=>kO) (λcl C fp s H=>(jW yB (jv 0 rfl jV) (jK jG4 (jv 1 rfl jX) (j9) jD))) yM) j6 jP) jP) (j3 (jv 1 rfl jED) j6 j4) jG))) qV) j6 jP) jP) jZ)
   (jC (kD (kW (j3 (jW yB (jK jU (jv 0 rfl vC) (j9) jD) (jK jU (jv 1 rfl vL) (j9) jD)) (j3 (jW jER (jK jU (jv 0 rfl vC) (j9) jD) (kG jO gD T.tuple (by decide+kernel) (j3 (kJ (m:=[none,some 0]) (Nc:=["may","one"]) rfl (qT (jK jU (jv 1 rfl vL) (j9) jD)) rfl (by decide+kernel) (by decide+kernel) (jQ (psc:=jB jBB)) (jH (N:=jFV) rfl rfl (by decide+kernel)) (λcl C fp s H=>jJ (i:=0) (show (["may","one"]:List Str).Nodup by decide+kernel) rfl yG) (λcl C fp s H=>kO) (λcl C fp s H=>(jW yB (jv 0 rfl jV) (jK jAB (jv 1 rfl jX) (j9) jD))) qV) j6 jP) jP)) (j3 (jW jER (jK jU (jv 0 rfl vC) (j9) jD) (jv 2 rfl vL)) j6 yD) yD) yD)))))⟩
theorem jG7{t:Int}(h:t∈ts):ts[ts.idxOf t]?=some t/\∀m,m<ts.idxOf t->ts[m]?≠some t:=by
 have hi:=List.idxOf_lt_length_iff.mpr h
 refine⟨by rw[ag hi,ic],λm hm e=>?_⟩
 have hm':m<ts.length:=by lia
 rw[ag hm'] at e
 have:=List.not_of_lt_findIdx (p:=(· ==t)) (xs:=ts) (i:=m) (by unfold List.idxOf at hm;exact hm)
 rw[bj e] at this
 simp at this
theorem jG8{m:List (Option Nat)}{σ:St}{Q:VK}{t:Addr}(hq:H q=some (.tup (lot.map V.int)))(ht:H t=some (.lst (ts.map V.int)))(hl:lot.length<=1000)(tl:ts.length<=1000)(hs:∀x∈lot,x∈ts)(h0:blkσ m σ=[none,some (.ref t)])
  (k:∀D H',H' D=some (.lst ((lot.map λt=>((ts.idxOf t:Nat):Int)).map V.int))->Ext H H'->H D=none->Q (.ref D) H'):qJ m (kI 0) yH (tBM K "list" jKO (tVar 1) (tCons (tVar 0) tNil)) σ Q (Itt K q) H:=by
 refine jF8 (xs:=lot.map V.int) (λσ=>∃v,σ=[v,some (.ref t)]) (mapZ lot λx=>V.int ((ts.idxOf x:Nat):Int)) (mapZ.ok _ _) hq (by rw[aa,ar];lia) ⟨_,h0⟩ ?_ ?_
 .rintro j x σ' H' zs hx ⟨v,rfl⟩ e hz S1 S2 yes no
  obtain⟨z,hz',rfl⟩:=int_at hx
  have hzt:=hs z (aH hz')
  dsimp only[kI,yH]
  rw[ai rfl]
  exact⟨_,rfl,.inl ⟨rfl,_,SqL.of (e _ _ ht)⟩,_,rfl,t,ts,z,ts.idxOf z,rfl,rfl,e _ _ ht,tl,(jG7 hzt).1,(jG7 hzt).2,yes _ _ _ ⟨_,rfl⟩ (Ext.refl _) (hz.yes hz')⟩
 .rintro D H' zs hD e nD hz
  have hz:=hz.all (by rw[aa];exact ak _)
  have hz2:zs=(lot.map λt=>((ts.idxOf t:Nat):Int)).map V.int:=by rw[hz,b8];rfl
  rw[hz2] at hD
  exact k D H' hD e nD
def PcsAt.ins{H:Hp}{v:V}{p:List Int×Int}(hv:PcAt H v p):∀(i:Nat) {vs:List V}{ps:List (List Int×Int)},PcsAt H vs ps->i<=vs.length->PcsAt H (vs.take i++v::vs.drop i) (ps.take i++p::ps.drop i)
 | 0,vs,ps,h,_=>⟨hv,h⟩
 |i+1,x::vs,q::ps,h,hi=>⟨h.1,PcsAt.ins hv i h.2 (Nat.le_of_succ_le_succ hi)⟩
 |i+1,[],_,_,hi=>by cases hi
 |i+1,_::_,[],h,_=>h.elim
def jEG:Sp:=λvs H Q _=>∃(p b:Addr) (N wi:Int) (ms:List Int) (lj:List (List Int×Int)),vs=[.ref p,.ref b]/\H p=some (.lst [.int N])/\0<=N/\BoxAt H b wi ms lj/\Good 16 32 wi ms lj/\
 ∀(r:Addr) (N':Int) (ms':List Int) (lj':List (List Int×Int)) (H':Hp),BoxAt H' r wi ms' lj'->Good 16 32 wi ms' lj'->(HasW wi ms' lj'↔HasW wi ms lj)->H' p=some (.lst [.int N'])->0<=N'->Keep H H' p->Q (.ref r) H'
section
variable (T:Txt mg)(CT:Can P w K mg base "_law_take" 1 fT fdT ["pot","wide"] jS)(hr:Room 1 (XTd P w K mg base f cdv A outer s H0 E).A)
theorem jNE{H1:Hp}{wi:Int}{lj':List (List Int×Int)}{v5 v6:Option V}
  (g:Good 16 32 wi ms lj) (hB:BoxAt H1 b wi ms lj) (hp:H1 p=some (.lst [.int N])) (hN:0<=N) (kp:Keep H H1 p) (ht:H1 tl=some (.lst (th.map V.int))) (pt:th.Perm (upto wi.toNat)) (hl:H1 pl=some (.lst vs)) (hv:PcsAt H1 vs lj') (pp:lj'.Perm (lj.map (rP th)))
  (k:∀(r:Addr) (N':Int) (ms':List Int) (lj':List (List Int×Int)) (H':Hp),BoxAt H' r wi ms' lj'->Good 16 32 wi ms' lj'->(HasW wi ms' lj'↔HasW wi ms lj)->H' p=some (.lst [.int N'])->0<=N'->Keep H H' p->D.rt (.ref r) H'):
  (tdE T CT hr).1 D [some (.ref p),some (.ref b),some (.ref tl),v3,some (.ref pl),v5,v6,v7] H1:=by
 obtain⟨qm,qp,ps,b1,b2,b3,b4⟩:=id hB.ex
 have w0:=g.w0
 have w1:=g.w1
 have gpl:=g.pl
 have hlen:th.length=wi.toNat:=by rw[pt.length_eq,jCX]
 have hin:∀z∈ms,z∈th:=λz hz=>pt.mem_iff.mpr (aQ.mpr ⟨z.toNat,bq.mpr (by have:=g.mr.bnd z hz;lia),by have:=g.mr.bnd z hz;lia⟩)
 have ml:=jAV ms 0 wi g.mr.ris g.mr.bnd
 refine⟨_,rfl,b,_,0,_,rfl,rfl,SqT.of b1,rfl,_,rfl,b,_,1,_,rfl,rfl,SqT.of b1,rfl,qm,rfl,⟨_,SqT.of b2⟩,jG8 b2 ht (by lia) (by lia) hin rfl λD1 H2 d1 e1 n1=>?_⟩
 refine⟨_,_,rfl,SqL.of d1,by rw[aa];lia,λl ns hl2 sr pm=>?_⟩
 have e2:Ext H2 (L2.upd H2 l (.lst (ns.map V.int))):=(Ext.refl _).new hl2 _
 have d2:(L2.upd H2 l (.lst (ns.map V.int))) l=some (.lst (ns.map V.int)):=j5
 generalize L2.upd H2 l (.lst (ns.map V.int))=H3 at e2 d2 ⊢
 refine⟨l,_,rfl,.inl ⟨SqL.of d2,λq1 hq1=>?_⟩⟩
 have e3:Ext H3 (L2.upd H3 q1 (.tup (ns.map V.int))):=(Ext.refl _).new hq1 _
 have d3:(L2.upd H3 q1 (.tup (ns.map V.int))) q1=some (.tup (ns.map V.int)):=j5
 generalize L2.upd H3 q1 (.tup (ns.map V.int))=H4 at e3 d3 ⊢
 have E4:=(e1.trans e2).trans e3
 refine⟨_,rfl,pl,_,rfl,.inl ⟨SqL.of (E4 _ _ hl),λq2 hq2=>?_⟩⟩
 have e4:Ext H4 (L2.upd H4 q2 (.tup vs)):=(Ext.refl _).new hq2 _
 have d4:(L2.upd H4 q2 (.tup vs)) q2=some (.tup vs):=j5
 generalize L2.upd H4 q2 (.tup vs)=H5 at e4 d4 ⊢
 refine⟨by show 3<=sizeLine;decide,λr H6 y6 x6=>?_⟩
 have E6:=(E4.trans e4).trans x6
 obtain⟨g',hh⟩:=jJA g pt pp
 have en:ns=srt (ms.map (plOf th)):=jP5 sr pm
 refine k r N _ _ H6 ⟨q1,q2,vs,y6,?_,x6 _ _ d4,hv.mono E6.tups⟩ g' hh (E6 _ _ hp) hN λc u h n=>E6 _ _ (kp c u h n)
 rw[<- en]
 exact(e4.trans x6) _ _ d3
theorem jNF{H1:Hp}{wi:Int}{pc:List Int×Int}{qs:List (List Int×Int)}
  (gp:GoodPc wi pc) (w0:0<=wi) (w1:wi<=16) (hp:H1 p=some (.lst [.int N])) (hN:0<=N) (ht:H1 tl=some (.lst (th.map V.int))) (pt:th.Perm (upto wi.toNat)) (hl:H1 pl=some (.lst vs)) (hv:PcsAt H1 vs qs) (hlen:qs.length<=100) (n1:tl≠p) (n2:pl≠p) (n3:tl≠pl)
  (nx:∀(H':Hp) (vs':List V) (qs':List (List Int×Int)) (N':Int) (v5 v6 v7:Option V),H' p=some (.lst [.int N'])->0<=N'->H' tl=some (.lst (th.map V.int))->H' pl=some (.lst vs')->PcsAt H' vs' qs'->qs'.Perm (qs++[rP th pc])->(∀c o,H1 c=some o->c≠p->c≠pl->H' c=some o)->
   D.nx [some (.ref p),some (.ref b),some (.ref tl),v3,some (.ref pl),v5,v6,v7] H') {qh:Addr}(hqh:H1 qh=some (.tup (pc.1.map V.int))):
  (td2 T CT hr).1 D [some (.ref p),some (.ref b),some (.ref tl),v3,some (.ref pl),some (.ref qh),some (.int pc.2),v7] H1:=by
 have vl:=hv.len
 have hlen':th.length=wi.toNat:=by rw[pt.length_eq,jCX]
 have hin:∀z∈pc.1,z∈th:=λz hz=>pt.mem_iff.mpr (aQ.mpr ⟨z.toNat,bq.mpr (by have:=gp.lot.bnd z hz;lia),by have:=gp.lot.bnd z hz;lia⟩)
 have ml:=jAV pc.1 0 wi gp.lot.ris gp.lot.bnd
 refine⟨_,rfl,qh,rfl,⟨_,SqT.of hqh⟩,jG8 hqh ht (by lia) (by lia) hin rfl λD1 H2 d1 e1 nD=>?_⟩
 refine⟨_,_,rfl,SqL.of d1,by rw[aa];lia,λl ns hl2 sr pm=>?_⟩
 have en:ns=srt (pc.1.map (plOf th)):=jP5 sr pm
 have e2:Ext H2 (L2.upd H2 l (.lst (ns.map V.int))):=(Ext.refl _).new hl2 _
 have d2:(L2.upd H2 l (.lst (ns.map V.int))) l=some (.lst (ns.map V.int)):=j5
 generalize L2.upd H2 l (.lst (ns.map V.int))=H3 at e2 d2 ⊢
 refine⟨l,_,rfl,.inl ⟨SqL.of d2,λq1 hq1=>?_⟩⟩
 have e3:Ext H3 (L2.upd H3 q1 (.tup (ns.map V.int))):=(Ext.refl _).new hq1 _
 have d3:(L2.upd H3 q1 (.tup (ns.map V.int))) q1=some (.tup (ns.map V.int)):=j5
 generalize L2.upd H3 q1 (.tup (ns.map V.int))=H4 at e3 d3 ⊢
 refine⟨_,rfl,by show 2<=sizeLine;decide,λpa H5 y5 x5=>?_⟩
 have E5:=((e1.trans e2).trans e3).trans x5
 have hpc:PcAt H5 (.ref pa) (rP th pc):=⟨pa,q1,rfl,y5,by rw[show (rP th pc).1=ns from en.symm];exact x5 _ _ d3⟩
 refine⟨_,rfl,.inl ⟨rfl,_,SqL.of (E5 _ _ hl)⟩,_,rfl,_,rfl,pl,_,rfl,.inl (SqL.of (E5 _ _ hl)),_,_,rfl,rfl,p,N,(vs.length:Int)+1,rfl,E5 _ _ hp,hN,by lia,by lia,λN' r a1 a2 a3=>?_⟩
 have hl6:(L2.upd H5 p (.lst [.int N'])) pl=some (.lst vs):=by rw[j7 n2];exact E5 _ _ hl
 refine⟨_,rfl,pl,_,r,_,rfl,rfl,hl6,a2,by lia,by rw[ar];lia,?_⟩
 have tt:Tups H5 (L2.upd (L2.upd H5 p (.lst [.int N'])) pl (.lst (vs.take r.toNat++ .ref pa::vs.drop r.toNat))):=λc xs h=>by
  rw[j7 (λz=>by rw[z,E5 _ _ hl] at h;cases h),j7 (λz=>by rw[z,E5 _ _ hp] at h;cases h)]
  exact h
 refine nx _ _ (qs.take r.toNat++rP th pc::qs.drop r.toNat) N' _ _ _ ?_ a1 ?_ j5 (PcsAt.ins (hpc.mono tt) r.toNat ((hv.mono E5.tups).mono tt) (by lia)) ?_ λc o h c1 c2=>?_
 .rw[j7 (bO n2)];exact j5
 .rw[j7 n3,j7 n1];exact E5 _ _ ht
 .refine ga.trans ?_
  rw[bg]
  exact(hW _ _).symm
 .rw[j7 c2,j7 c1]
  exact E5 _ _ h
end
theorem jL0(F:Fun K "_law_turned" "_law_turned" yP f fd)(T:Txt mg)(CT:Can P w K mg base "_law_take" 1 fT fdT ["pot","wide"] jS):FnOk P w K mg base CX0 2 f fd ["pot","box"] jEG:=by
 refine F.ok scTurnedL (λvs H Q E h=>?_) (λcdv A outer s H vs Q E hr h=>?_)
 .obtain⟨_,_,_,_,_,_,rfl,_⟩:=h
  rfl
 .obtain⟨p,b,N,wi,ms,lj,rfl,hp,hN,hB,g,q⟩:=h
  refine⟨_,(tdA T CT hr).2.h,?_⟩
  obtain⟨qm,qp,ps,b1,b2,b3,b4⟩:=id hB.ex
  have psl:=b4.len
  have w0:=g.w0
  have w1:=g.w1
  have gpl:=g.pl
  refine⟨by show (0:Nat)<=_;decide,λtl H1 d1 e1 n1=>?_⟩
  have tp:tl≠p:=λz=>by rw[z,hp] at n1;cases n1
  refine⟨_,rfl,b,_,0,_,rfl,rfl,SqT.of (e1 _ _ b1),rfl,wi,rfl,by lia,by lia,jA7 (n:=wi.toNat) (λi σ H'=>(∃v3,σ=[some (.ref p),some (.ref b),some (.ref tl),v3,none,none,none,none])/\Keep H H' p/\(∃N',H' p=some (.lst [.int N'])/\0<=N')/\∃th:List Int,H' tl=some (.lst (th.map V.int))/\th.Perm (upto i)) ⟨⟨_,rfl⟩,λc o h _=>e1 _ _ h,⟨N,e1 _ _ hp,hN⟩,[],d1,h8 _⟩ ?_ ?_⟩
  .rintro i σ H2 hi ⟨⟨v3,rfl⟩,kp,⟨N2,hp2,hN2⟩,th,ht,pt⟩
   have e0:(0+(i:Int))=(i:Int):=by lia
   rw[e0]
   have tlen:th.length=i:=by rw[pt.length_eq,jCX]
   refine⟨_,rfl,.inl ⟨rfl,_,SqL.of ht⟩,_,rfl,_,rfl,_,_,rfl,rfl,p,N2,(i:Int)+1,rfl,hp2,hN2,by lia,by lia,λN' r a1 a2 a3=>?_⟩
   have ht2:(L2.upd H2 p (.lst [.int N'])) tl=some (.lst (th.map V.int)):=by rw[j7 tp];exact ht
   refine⟨_,rfl,tl,_,r,_,rfl,rfl,ht2,a2,by rw[aa];lia,by rw[aa,ar];lia,?_⟩
   refine⟨⟨_,rfl⟩,λc o h n=>?_,⟨N',by rw[j7 (bO tp)];exact j5,a1⟩,th.take r.toNat++(i:Int)::th.drop r.toNat,?_,jID pt⟩
   .have:c≠tl:=λz=>by rw[z] at h;rw[h] at n1;cases n1
    rw[j7 this,j7 n]
    exact kp c o h n
   .rw[j5,aC,aP,jx,gq]
  .rintro σ H2 ⟨⟨v3,rfl⟩,kp,⟨N2,hp2,hN2⟩,th,ht,pt⟩
   refine⟨by show (0:Nat)<=_;decide,λpl H3 d3 e3 n3=>?_⟩
   have pp:pl≠p:=λz=>by rw[z,hp2] at n3;cases n3
   have tpl:tl≠pl:=λz=>by rw[<- z,ht] at n3;cases n3
   have plH:H pl=none:=by
    cases z:H pl with
    |none=>rfl
    |some o=>rw[kp _ _ z pp] at n3;cases n3
   have hb3:H3 b=some (.tup [.int wi,.ref qm,.ref qp]):=e3 _ _ (kp _ _ b1 λz=>by rw[z,hp] at b1;cases b1)
   have kp3:Keep H H3 p:=λc o h n=>e3 _ _ (kp c o h n)
   refine⟨_,rfl,b,_,2,_,rfl,rfl,SqT.of hb3,rfl,qp,rfl,⟨_,SqT.of (kp3 _ _ b3 λz=>by rw[z,hp] at b3;cases b3)⟩,jRR (xs:=ps) (λi σ H'=>(∃v3 v5 v6 v7,σ=[some (.ref p),some (.ref b),some (.ref tl),v3,some (.ref pl),v5,v6,v7])/\Keep H H' p/\(∃N',H' p=some (.lst [.int N'])/\0<=N')/\H' tl=some (.lst (th.map V.int))/\∃vs qs,H' pl=some (.lst vs)/\PcsAt H' vs qs/\qs.Perm ((lj.take i).map (rP th))) ⟨⟨_,_,_,_,rfl⟩,kp3,⟨N2,e3 _ _ hp2,hN2⟩,e3 _ _ ht,[],[],d3,trivial,h8 _⟩ ?_ ?_ ?_⟩
   .rintro i σ H' hi ⟨_,k4,_⟩
    exact SqT.of (k4 _ _ b3 λz=>by rw[z,hp] at b3;cases b3)
   .rintro i x σ H4 hx ⟨⟨v3,v5,v6,v7,rfl⟩,k4,⟨N4,hp4,hN4⟩,ht4,vs,qs,hl4,hv4,pq⟩
    have hi:i<lj.length:=by
     have:=(aF.mp hx).1
     lia
    have tu:Tups H H4:=λc xs h=>k4 _ _ h λz=>by rw[z,hp] at h;cases h
    obtain⟨v,hv,hpc⟩:=b4.get hi
    rw[hx] at hv
    cases hv
    obtain⟨a,qh,rfl,c1,c2⟩:=hpc.mono tu
    have hm:lj.getD i ([],0)∈lj:=by rw[af,ag hi];exact bC hi
    have et:(lj.take (i+1)).map (rP th)=(lj.take i).map (rP th)++[rP th (lj.getD i ([],0))]:=by
     rw[aX,af,ag hi,aC]
     rfl
    have qlen:qs.length<=100:=by
     rw[pq.length_eq,aa,aZ]
     lia
    refine⟨a,_,rfl,SqT.of c1,rfl,_,_,rfl,_,_,rfl,rfl,?_⟩
    refine jNF T CT hr (g.pg _ hm) w0 w1 hp4 hN4 ht4 pt hl4 hv4 qlen tp pp tpl (λH' vs' qs' N' v5 v6 v7 g1 g2 g3 g4 g5 g6 g7=>?_) c2
    refine⟨⟨_,_,_,_,rfl⟩,λc o h n=>g7 c o (k4 c o h n) n λz=>(by rw[z,plH] at h;cases h),⟨N',g1,g2⟩,g3,vs',qs',g4,g5,?_⟩
    rw[et]
    exact g6.trans (pq.append_right _)
   .rintro σ H4 ⟨⟨v3,v5,v6,v7,rfl⟩,k4,⟨N4,hp4,hN4⟩,ht4,vs,qs,hl4,hv4,pq⟩
    rw[psl,bH] at pq
    exact jNE T CT hr g (hB.mono λc xs h=>k4 _ _ h λz=>by rw[z,hp] at h;cases h) hp4 hN4 k4 ht4 pt hl4 hv4 pq q
theorem jKJ{m:List (Option Nat)}{σ:St}{Q:VK}{x y:V}(hq:H q=some (.tup (lot.map V.int)))(hb:H b=some (.tup [.int d,x,y]))(hl:lot.length<=1000)(h0:blkσ m σ=[none,some (.ref b)])
  (k:∀D H',H' D=some (.lst ((lot.map (· +d)).map V.int))->Ext H H'->H D=none->Q (.ref D) H'):qJ m (kI 0) yH (tOp (rI0 λi j=>V.int (i+j)) (tVar 0) (tOp (rIxT K) (tVar 1) (tC (V.int 0)))) σ Q (Itt K q) H:=by
 refine jF8 (xs:=lot.map V.int) (λσ=>∃v,σ=[v,some (.ref b)]) (mapZ lot λx=>V.int (x+d)) (mapZ.ok _ _) hq (by rw[aa,ar];lia) ⟨_,h0⟩ ?_ ?_
 .rintro j x σ' H' zs hx ⟨v,rfl⟩ e hz S1 S2 yes no
  obtain⟨z,hz',rfl⟩:=int_at hx
  dsimp only[kI,yH]
  rw[ai rfl]
  exact⟨_,rfl,_,rfl,b,_,0,_,rfl,rfl,SqT.of (e _ _ hb),rfl,_,_,rfl,rfl,yes _ _ _ ⟨_,rfl⟩ (Ext.refl _) (hz.yes hz')⟩
 .rintro D H' zs hD e nD hz
  have hz:=hz.all (by rw[aa];exact ak _)
  have hz2:zs=(lot.map (· +d)).map V.int:=by rw[hz,b8];rfl
  rw[hz2] at hD
  exact k D H' hD e nD
def PcsAt.app:∀{vs us:List V}{ps qs:List (List Int×Int)},PcsAt H vs ps->PcsAt H us qs->PcsAt H (vs++us) (ps++qs)
 |[],us,[],qs,_,h=>h
 |v::vs,us,p::ps,qs,h1,h2=>⟨h1.1,PcsAt.app h1.2 h2⟩
 |[],_,_::_,_,h,_=>h.elim
 |_::_,_,[],_,h,_=>h.elim
def pcZ(l:List (List Int×Int)):Hp->List V->Nat->Prop:=λH zs j=>PcsAt H zs (l.take j)
theorem pcZ.ok(l:List (List Int×Int)):ZOk (pcZ l):=⟨λ_=>trivial,λ_ _ _ _ t h=>PcsAt.mono t h,λ_ zs j h=>by
 have:=PcsAt.len h
 rw[aZ] at this
 lia⟩
theorem jHM{w1 w2:Int}{m1 m2:List Int}{p1 p2:List (List Int×Int)}{a b:Int}(g1:Good a b w1 m1 p1)(g2:Good a b w2 m2 p2):Good (a+a) (b+b) (w1+w2) (m1++m2.map (· +w1)) (p1++p2.map (shP w1)):=by
 have a0:=g1.w0
 have a1:=g1.w1
 have b0:=g2.w0
 have b1:=g2.w1
 have c1:=g1.pl
 have c2:=g2.pl
 have sh:∀{ts:List Int},ts.Pairwise (· < ·)->(∀z∈ts,0<=z/\z<w2)->(ts.map (· +w1)).Pairwise (· < ·)/\∀z∈ts.map (· +w1),w1<=z/\z<w1+w2:=λ{ts} h hb=>by
  refine⟨cO.mpr (h.imp λ{a b} h=>by lia),λz hz=>?_⟩
  obtain⟨y,hy,rfl⟩:=aQ.mp hz
  have:=hb y hy
  lia
 obtain⟨s1,s2⟩:=sh g2.mr.ris g2.mr.bnd
 refine⟨by lia,by lia,⟨bP.mpr ⟨g1.mr.ris,s1,λx hx y hy=>?_⟩,λz hz=>?_⟩,by rw[aK,aa];lia,λpc hpc=>?_⟩
 .have:=g1.mr.bnd x hx
  have:=s2 y hy
  lia
 .rcases az.mp hz with q|q
  .have:=g1.mr.bnd z q
   lia
  .have:=s2 z q
   lia
 .rcases az.mp hpc with q|q
  .have gp:=g1.pg pc q
   exact⟨⟨gp.lot.ris,λz hz=>by have:=gp.lot.bnd z hz;lia,gp.lot.ne⟩,gp.lo,gp.hi⟩
  .obtain⟨p,hp,rfl⟩:=aQ.mp q
   have gp:=g2.pg p hp
   obtain⟨t1,t2⟩:=sh gp.lot.ris gp.lot.bnd
   exact⟨⟨t1,λz hz=>by have:=t2 z hz;lia,λz=>gp.lot.ne (List.map_eq_nil_iff.mp z)⟩,gp.lo,gp.hi⟩
theorem Good.up{a b c w:Int}(g:Good a b w ms lj)(h1:a<=c)(h2:b<=d):Good c d w ms lj:=by
 have:=g.w1
 have:=g.pl
 exact⟨g.w0,by lia,g.mr,by lia,g.pg⟩
def jEI:Sp:=λvs H Q _=>∃(a b:Addr) (w1 w2:Int) (m1 m2:List Int) (p1 p2:List (List Int×Int)),vs=[.ref a,.ref b]/\BoxAt H a w1 m1 p1/\BoxAt H b w2 m2 p2/\Good 8 16 w1 m1 p1/\Good 8 16 w2 m2 p2/\
 ∀(r:Addr) (H':Hp),BoxAt H' r (w1+w2) (m1++m2.map (· +w1)) (p1++p2.map (shP w1))->Ext H H'->Q (.ref r) H'
theorem jL5(F:Fun K "_law_beside" "_law_beside" jBB f fd)(T:Txt mg):FnOk P w K mg base CX0 2 f fd ["one","other"] jEI:=by
 refine F.ok scBesid (λvs H Q E h=>?_) (λcdv A outer s H vs Q E hr h=>?_)
 .obtain⟨_,_,_,_,_,_,_,_,rfl,_⟩:=h
  rfl
 .obtain⟨a,b,w1,w2,m1,m2,p1,p2,rfl,hA,hB,g1,g2,q⟩:=h
  refine⟨_,(jTV T hr).2.h,?_⟩
  obtain⟨qm,qp,ps,a1,a2,a3,a4⟩:=id hA.ex
  obtain⟨rm,rp,rs,b1,b2,b3,b4⟩:=id hB.ex
  have al:=a4.len
  have bl:=b4.len
  have gp1:=g1.pl
  have gp2:=g2.pl
  have gw1:=g1.w1
  have gw2:=g2.w1
  have ml1:=jAV m1 0 w1 g1.mr.ris g1.mr.bnd
  have ml2:=jAV m2 0 w2 g2.mr.ris g2.mr.bnd
  refine⟨_,rfl,b,_,2,_,rfl,rfl,SqT.of b1,rfl,rp,rfl,⟨_,SqT.of b3⟩,jF8 (xs:=rs) (λσ=>∃v1 v2,σ=[v1,v2,some (.ref a)]) (pcZ (p2.map (shP w1))) (pcZ.ok _) b3 (by rw[ar];lia) ⟨_,_,rfl⟩ ?_ ?_⟩
  .rintro j x σ' H' zs hx ⟨v1,v2,rfl⟩ e hz S1 S2 yes no
   have hj:j<p2.length:=by
    have:=(aF.mp hx).1
    lia
   obtain⟨v,hv,hpc⟩:=b4.get hj
   rw[hx] at hv
   cases hv
   obtain⟨c,qh,rfl,c1,c2⟩:=hpc.mono e.tups
   have hm:p2.getD j ([],0)∈p2:=by rw[af,ag hj];exact bC hj
   have gp:=g2.pg _ hm
   have hl:=jAV _ 0 w2 gp.lot.ris gp.lot.bnd
   have et:(p2.map (shP w1)).take (j+1)=(p2.map (shP w1)).take j++[shP w1 (p2.getD j ([],0))]:=by
    rw[aX,aO,af,ag hj]
    rfl
   generalize p2.getD j ([],0)=pc at*
   refine⟨c,_,rfl,SqT.of c1,rfl,_,_,rfl,_,_,rfl,rfl,?_⟩
   dsimp only[yH]
   rw[ai rfl]
   refine⟨_,rfl,qh,rfl,⟨_,SqT.of c2⟩,jKJ c2 (e _ _ a1) (by lia) rfl λD1 H2 d1 e1 nD=>?_⟩
   refine⟨_,_,rfl,.inl ⟨SqL.of d1,λq1 hq1=>?_⟩⟩
   have e3:Ext H2 (L2.upd H2 q1 (.tup ((pc.1.map (· +w1)).map V.int))):=(Ext.refl _).new hq1 _
   have d3:(L2.upd H2 q1 (.tup ((pc.1.map (· +w1)).map V.int))) q1=some (.tup ((pc.1.map (· +w1)).map V.int)):=j5
   generalize L2.upd H2 q1 (.tup ((pc.1.map (· +w1)).map V.int))=H4 at e3 d3 ⊢
   refine⟨_,rfl,by show 2<=sizeLine;decide,λpa H5 y5 x5=>yes _ _ _ ⟨_,_,rfl⟩ ((e1.trans e3).trans x5) ?_⟩
   show PcsAt H5 _ _
   rw[et]
   exact PcsAt.snoc (show PcAt H5 (.ref pa) (shP w1 pc) from ⟨pa,q1,rfl,y5,x5 _ _ d3⟩) (PcsAt.mono ((e1.trans e3).trans x5).tups hz)
  .rintro D H1 zs hD e nD hz
   have hz:PcsAt H1 zs (p2.map (shP w1)):=by
    have:PcsAt H1 zs ((p2.map (shP w1)).take rs.length):=hz
    rwa [bf (by rw[aa];lia)] at this
   have zl:=hz.len
   rw[aa] at zl
   refine⟨D,_,rfl,.inl ⟨SqL.of hD,λpt hpt=>?_⟩⟩
   have e2:Ext H1 (L2.upd H1 pt (.tup zs)):=(Ext.refl _).new hpt _
   have d2:(L2.upd H1 pt (.tup zs)) pt=some (.tup zs):=j5
   generalize L2.upd H1 pt (.tup zs)=H2 at e2 d2 ⊢
   have E2:=e.trans e2
   refine⟨_,rfl,a,_,0,_,rfl,rfl,SqT.of (E2 _ _ a1),rfl,_,rfl,b,_,0,_,rfl,rfl,SqT.of (E2 _ _ b1),rfl,_,_,rfl,rfl,?_⟩
   refine⟨_,rfl,a,_,1,_,rfl,rfl,SqT.of (E2 _ _ a1),rfl,_,rfl,b,_,1,_,rfl,rfl,SqT.of (E2 _ _ b1),rfl,rm,rfl,⟨_,SqT.of (E2 _ _ b2)⟩,jKJ (E2 _ _ b2) (E2 _ _ a1) (by lia) rfl λD3 H3 d3 e3 n3=>?_⟩
   refine⟨D3,_,rfl,.inl ⟨SqL.of d3,λq4 hq4=>?_⟩⟩
   have e4:Ext H3 (L2.upd H3 q4 (.tup ((m2.map (· +w1)).map V.int))):=(Ext.refl _).new hq4 _
   have d4:(L2.upd H3 q4 (.tup ((m2.map (· +w1)).map V.int))) q4=some (.tup ((m2.map (· +w1)).map V.int)):=j5
   generalize L2.upd H3 q4 (.tup ((m2.map (· +w1)).map V.int))=H4 at e4 d4 ⊢
   have E4:=(E2.trans e3).trans e4
   refine⟨qm,q4,_,_,rfl,rfl,E4 _ _ a2,d4,by rw[aa,aa,aa,ar];lia,λq5 H5 y5 x5=>?_⟩
   have E5:=E4.trans x5
   refine⟨_,rfl,a,_,2,_,rfl,rfl,SqT.of (E5 _ _ a1),rfl,_,rfl,qp,pt,_,_,rfl,rfl,E5 _ _ a3,((e3.trans e4).trans x5) _ _ d2,by rw[ar];lia,λq6 H6 y6 x6=>?_⟩
   refine⟨by show 3<=sizeLine;decide,λr H7 y7 x7=>?_⟩
   have E7:=(E5.trans x6).trans x7
   refine q r H7 ⟨q5,q6,_,y7,?_,x7 _ _ y6,PcsAt.app (a4.mono E7.tups) (PcsAt.mono ((((e2.trans e3).trans e4).trans x5).trans (x6.trans x7)).tups hz)⟩ E7
   rw[aC]
   exact(x6.trans x7) _ _ y5
end Eo
section
namespace L2
open PySem PyProof.Rows
structure SeerF (P:Program)(K:W.Frag):Prop where
 tree:P.given.tree=none
 st:∃o n,K.lookup cStatics=some o/\o.data=.dict #[] n
 md:∃o es n,K.lookup sysModules=some o/\o.data=.dict es n/\StrKeys es/\nsFind es "_pylong" =none
end L2
namespace Eo
open PySem L2
variable {lj:List (List Int×Int)}{H:Hp}{vB vA v7 v6 v9 v8 v5 v1 v0 v3 v4:Option V}{ms:List Int}{fd:FuncData}{bx:List (Addr×Bool)}{p sl r b bl:Addr}{D:Ends}{N wi:Int}{st:Stmt}{x q p1 p2:Str}{xs:List V}
def jBF{Q:VK}(h:∀(r:Addr) (x:Bool) (H':Hp),TR wi ms lj H' r x->ExtT tb H H'->TabL H' tb->Q (.ref r) H'):WhlT wi ms lj tb H Q:=
 ⟨λr q xs H' a1 a2 a3 a4 a5=>h r true H' (.wh q xs a1 a2 a3) a4 a5,λr hh q M hs H' a1 a2 a3 a4 a5 a6=>h r false H' (.hu hh q M hs a1 a2 a3 a4) a5 a6⟩
def TR.word{x:Bool}(h:TR wi ms lj H r x):∃v,H r=some (.tup [.str (wordS x),v]):=by
 cases h with
 |wh q xs h1 h2 h3=>exact⟨_,h1⟩
 |hu hh q M hs h1 h2 h3 h4=>exact⟨_,h1⟩
def TR.has{x:Bool}(g:Good 16 32 wi ms lj)(h:TR wi ms lj H r x):x=true↔∃xs:List Int,jAM wi ms lj (.tup (xs.map Ob.int))=true:=by
 cases h with
 |wh q xs h1 h2 h3=>exact⟨λ_=>⟨xs,h3⟩,λ_=>rfl⟩
 |hu hh q M hs h1 h2 h3 h4=>exact⟨(λz=>by cases z),λ⟨xs,h⟩=>(jJJ g h h4).elim⟩
def jCA{H1:Hp}(tab:TabL H tb)(hp:H p=some (.lst xs))(k:Keep H H1 p):TabL H1 tb:=by
 rcases tab with q|⟨c,q,q'⟩
 .exact .inl (k _ _ q λz=>by rw[z,hp] at q;cases q)
 .exact .inr ⟨c,k _ _ q (λz=>by rw[z,hp] at q;cases q),k _ _ q' λz=>by rw[z,hp] at q';cases q'⟩
section
variable {fC fP fB fWh fPl fHu fTd fBs:Addr}{fdC fdP fdB fdWh fdPl fdHu fdTd fdBs:FuncData}
noncomputable abbrev nLaw:List Str:=["script","k","pot","boxes","small","box","word","later","words","one","other","both","due"]
def scLaw:FnScope nLaw ["script"] (jB sLaw):= {}
abbrev XLaw(P:Program)(w:World)(K:W.Frag)(mg:Str->Option Value)(base:Heap)(f:Addr)(cdv:Value)(A:Around)(outer:List Env)(s:Shared)(H:Hp)(E:XK):Cx:=XOf nLaw "law" sLaw P w K mg base f cdv A outer s H E
structure LW (P:Program)(w:World)(K:W.Frag)(mg:Str->Option Value)(base:Heap)(tb fC fP fT fB fWh fR fPl fHu fTd fBs:Addr)(fdC fdP fdT fdB fdWh fdR fdPl fdHu fdTd fdBs:FuncData):Prop where
 T:Txt mg
 CC:Can P w K mg base "_law_cell_at" 1 fC fdC ["script","k"] (jKI K)
 CP:Can P w K mg base "_law_pot" 1 fP fdP ["cell"] spPot
 CT:Can P w K mg base "_law_take" 1 fT fdT ["pot","wide"] jS
 CB:Can P w K mg base "_law_box" 3 fB fdB ["pot","most_things","most_pieces"] spBox
 CWh:Can P w K mg base "wholes" 35 fWh fdWh ["box"] (spWhl tb)
 CR:Can P w K mg base "_law_told_right" 4 fR fdR ["box","found"] jGZ
 CPl:Can P w K mg base "_law_planted" 3 fPl fdPl ["pot","most_things","most_pieces"] jDF
 CHu:Can P w K mg base "_law_hued" 3 fHu fdHu ["pot","most_things","most_pieces"] jKG
 CTd:Can P w K mg base "_law_turned" 2 fTd fdTd ["pot","box"] jEG
 CBs:Can P w K mg base "_law_beside" 2 fBs fdBs ["one","other"] jEI
abbrev lawL:List Stmt:=qH ((jE sLaw).getD 0 (.Pass ⟨0,0,0,0⟩))
section
variable (G:LW P w K mg base tb fC fP fT fB fWh fR fPl fHu fTd fBs fdC fdP fdT fdB fdWh fdR fdPl fdHu fdTd fdBs)(hr:Room 35 (XLaw P w K mg base f cdv A outer s H0 E).A)
def li3A: {t:TS // JSs (XLaw P w K mg base f cdv A outer s H0 E) (qH (lawL.getD 3 (.Pass ⟨0,0,0,0⟩))) t}:=
 have nd:=scLaw.nd
 have _h:=G;have _h2:=hr
 ⟨_,(jA (jL (i:=6) nd rfl lL (jK jU (G.CWh.je (hr.mono (by decide)) gD (j3 (jv 5 rfl vL) j6 j4) j4) (j9) jD) jBO)
   (jA (jL (i:=7) nd rfl lL (G.CTd.je (hr.mono (by decide)) gD (j3 (jv 2 rfl vL) (j3 (jv 5 rfl vL) j6 j4) j4) j4) jZ)
   (jA (qD (jM qS (G.CR.je (hr.mono (by decide)) gD (j3 (jv 7 rfl vL) (j3 (G.CWh.je (hr.mono (by decide)) gD (j3 (jv 7 rfl vL) j6 j4) j4) j6 jG) j4) j4) (jv 6 rfl vL) (jT _)) (jC (kD (xD))) yC)
   (jC (qD (jM (jHA hr.units101) (jK jU (jv 5 rfl vL) (j9) jD) (kW j6) (jT _)) (jA (jL (i:=7) nd rfl lL (kW (j3 (jK jU (jv 5 rfl vL) (j9) jD) (j3 (jK jU (jv 5 rfl vL) (j9) jD) (j3 (jW jER (jK jU (jv 5 rfl vL) (j9) jD) (kW (j3 (jK jU (jK jU (jv 5 rfl vL) (j9) jD) (G.CT.je (hr.mono (by decide)) gD (j3 (jv 2 rfl vL) (j3 (jF jN gD G.T.len (by decide+kernel) (j3 (jK jU (jv 5 rfl vL) (j9) jD) j6 jR) jR) j6 jG) j4) j4) jEL) j6 jR))) j6 yD) jR) jR)) jKD)
   (jC (qD (jM qS (G.CR.je (hr.mono (by decide)) gD (j3 (jv 7 rfl vL) (j3 (G.CWh.je (hr.mono (by decide)) gD (j3 (jv 7 rfl vL) j6 j4) j4) j6 jG) j4) j4) (jv 6 rfl vL) (jT _)) (jC (kD (xD))) yC))) yC)))))⟩
def li5A: {t:TS // JSs (XLaw P w K mg base f cdv A outer s H0 E) (qH (lawL.getD 5 (.Pass ⟨0,0,0,0⟩))) t}:=
 have nd:=scLaw.nd
 have _h:=G;have _h2:=hr
 ⟨_,(jA (jL (i:=10) nd rfl lL (G.CT.je (hr.mono (by decide)) gD (j3 (jv 2 rfl vL) (j3 (j9) j6 jI) j4) j4) jZ)
   (jA (jL (i:=11) nd rfl lL (G.CBs.je (hr.mono (by decide)) gD (j3 (jK kX (jv 4 rfl vL) (jv 9 rfl vL) kN) (j3 (jK kX (jv 4 rfl vL) (jv 10 rfl vL) kN) j6 jR) jR) jR) jZ)
   (jA (jL (i:=12) nd rfl lL (jK kX (yL (j3 (jBD) (j3 (jBD) j6 jI) jI)) (kG jGE gD G.T.int (by decide+kernel) (j3 ((jLT (jCG qM (jK kX (jv 8 rfl vL) (jv 9 rfl vL) kN) (jBD) (jT _)) (jLQ (jCG qM (jK kX (jv 8 rfl vL) (jv 10 rfl vL) kN) (jBD) (jT _))))) j6 jKL) jKL) jEL) jBO)
   (jC (qD (jM qS (G.CR.je (hr.mono (by decide)) gD (j3 (jv 11 rfl vL) (j3 (G.CWh.je (hr.mono (by decide)) gD (j3 (jv 11 rfl vL) j6 j4) j4) j6 jG) j4) j4) (jv 12 rfl vL) (jT _)) (jC (kD (xD))) yC)))))⟩
def lt4A: {t:TS // JSs (XLaw P w K mg base f cdv A outer s H0 E) (lawL.drop 4) t}:=
 have nd:=scLaw.nd
 ⟨_,(jA (jBK (i:=8) nd rfl lL ⟨by rfl⟩ (m:=[none]) (Nc:=["box"]) rfl (yK (jv 4 rfl vL)) rfl (by decide+kernel) (by decide+kernel) (jQ (psc:=jB sLaw)) (jH (N:=nLaw) rfl rfl (by decide+kernel)) (λcl C fp s H=>jJ (i:=0) (show (["box"]:List Str).Nodup by decide+kernel) rfl yG) (λcl C fp s H=>kO) (λcl C fp s H=>(jK jAB (G.CWh.je (hr.mono (by decide)) gl_b (j3 (jv 0 rfl jV) j6 j4) j4) (j9) jD)) yM) (jC (yZ br rfl (kY gD G.T.range (j3 (j9) j6 jI) jI) (jJ (i:=9) nd rfl lL) (li5A G hr).2 kQ)))⟩
def lt3A: {t:TS // JSs (XLaw P w K mg base f cdv A outer s H0 E) (lawL.drop 3) t}:=
 have nd:=scLaw.nd
 ⟨_,(jA (yZ br rfl (yK (jv 3 rfl vL)) (jJ (i:=5) nd rfl lL) (li3A G hr).2 yM) (lt4A G hr).2)⟩
def lt2A: {t:TS // JSs (XLaw P w K mg base f cdv A outer s H0 E) (lawL.drop 2) t}:=
 have nd:=scLaw.nd
 ⟨_,(jA (jL (i:=4) nd rfl lL (yL (j3 (G.CB.je (hr.mono (by decide)) gD (j3 (jv 2 rfl vL) (j3 (j9) (j3 (j9) j6 jI) jI) j4) j4) (j3 (jK kX (G.CPl.je (hr.mono (by decide)) gD (j3 (jv 2 rfl vL) (j3 (j9) (j3 (j9) j6 jI) jI) j4) j4) (j9) jD) (j3 (jK kX (G.CHu.je (hr.mono (by decide)) gD (j3 (jv 2 rfl vL) (j3 (j9) (j3 (j9) j6 jI) jI) j4) j4) (j9) jD) j6 jR) jR) jG)) jBA) (lt3A G hr).2)⟩
def lt0A: {t:TS // JSs (XLaw P w K mg base f cdv A outer s H0 E) lawL t}:=
 have nd:=scLaw.nd
 ⟨_,(jA (jL (i:=2) nd rfl lL (G.CP.je (hr.mono (by decide)) gD (j3 (G.CC.je (hr.mono (by decide)) gD (j3 (jv 0 rfl vL) (j3 (jv 1 rfl vL) j6 j4) j4) j4) j6 jG) jG) jZ) (jA (jL (i:=3) nd rfl lL (yL (j3 (G.CB.je (hr.mono (by decide)) gD (j3 (jv 2 rfl vL) (j3 (j9) (j3 (j9) j6 jI) jI) j4) j4) (j3 (jK kX (G.CPl.je (hr.mono (by decide)) gD (j3 (jv 2 rfl vL) (j3 (j9) (j3 (j9) j6 jI) jI) j4) j4) (j9) jD) (j3 (jK kX (G.CHu.je (hr.mono (by decide)) gD (j3 (jv 2 rfl vL) (j3 (j9) (j3 (j9) j6 jI) jI) j4) j4) (j9) jD) j6 jR) jR) jG)) jBA) (lt2A G hr).2))⟩
def lawA: {t:TS // JSs (XLaw P w K mg base f cdv A outer s H0 E) (jE sLaw) t}:=
 have nd:=scLaw.nd
 ⟨_,(jA (yZ br rfl (kY gD G.T.range (j3 (jF (jMQ rfl) gD G.T.max (by decide+kernel) (j3 (j9) (j3 (jF (jMP rfl) gD G.T.min (by decide+kernel) (j3 (jF jN gD G.T.len (by decide+kernel) (j3 (jv 0 rfl vL) j6 j4) j4) (j3 (j9) j6 jI) jG) jG) j6 jG) jI) jI) j6 jG) jG) (jJ (i:=1) nd rfl lL) (lt0A G hr).2 kQ) (jC (kD (xD))))⟩
end
def sqT{H':Hp}(h:SqL K H a xs)(e:ExtT tb H H')(t:TabL H tb):SqL K H' a xs:=by
 rcases h with (h|⟨o,h⟩)|h
 .exact .inl (.inl (e _ _ h (yQ t h)))
 .refine .inl (.inr ⟨o,e _ _ h λz=>?_⟩)
  rcases t with q|⟨_,q,_⟩<;>(rw[z,q] at h;cases h)
 .exact .inr h
def spLaw(K:W.Frag)(tb:Addr):Sp:=λvs H Q _=>∃(a:Addr) (ns:List Int),vs=[.ref a]/\SqL K H a (ns.map V.int)/\ns.length<=63/\TabL H tb/\∀H',Q (.bl true) H'
def SmB(H:Hp)(b:Addr)(x:Bool):Prop:=∃wi ms lj,BoxAt H b wi ms lj/\Good 8 16 wi ms lj/\(x=true↔HasW wi ms lj)
def TR.same{wi wj:Int}{ms ns:List Int}{lj qcs:List (List Int×Int)}{H H':Hp}{r t:Addr}{x y:Bool}(g:Good 16 32 wi ms lj)(g':Good 16 32 wj ns qcs)(h:TR wi ms lj H r x)(h':TR wj ns qcs H' t y)(hh:HasW wj ns qcs↔HasW wi ms lj):y=x:=by
 have a:=h.has g
 have b:=h'.has g'
 have:y=true↔x=true:=b.trans (hh.trans a.symm)
 cases x<;>cases y<;>simp at this ⊢
section
variable (G:LW P w K mg base tb fC fP fT fB fWh fR fPl fHu fTd fBs fdC fdP fdT fdB fdWh fdR fdPl fdHu fdTd fdBs)(hr:Room 35 (XLaw P w K mg base f cdv A outer s H0 E).A)
theorem jOH{vC:Option V}(hp:H p=some (.lst [.int N]))(hN:0<=N)(tab:TabL H tb)(hB:BoxAt H b wi ms lj)(g:Good 16 31 wi ms lj)
  (nx:∀H' N' v6 v7,H' p=some (.lst [.int N'])->0<=N'->(∀c o,H c=some o->c≠p->c≠tb->H' c=some o)->TabL H' tb->D.nx [v0,v1,some (.ref p),v3,v4,some (.ref b),v6,v7,v8,v9,vA,vB,vC] H'):
  (li3A G hr).1 D [v0,v1,some (.ref p),v3,v4,some (.ref b),v6,v7,v8,v9,vA,vB,vC] H:=by
 have gu:Good 16 32 wi ms lj:=g.up (by decide) (by decide)
 have gpl:=g.pl
 refine⟨_,rfl,b,wi,ms,lj,rfl,hB,gu,tab,jBF λr x H1 tr e1 tab1=>?_⟩
 have tu1:Tups H H1:=λc xs h=>e1 _ _ h (qE tab h)
 obtain⟨v,hv⟩:=tr.word
 refine⟨r,_,0,_,rfl,rfl,SqT.of hv,rfl,?_⟩
 have hp1:=e1 _ _ hp (yQ tab hp)
 refine⟨_,rfl,_,rfl,p,b,N,wi,ms,lj,rfl,hp1,hN,hB.mono tu1,gu,λq N2 ms2 lj2 H2 hB2 g2 hh hp2 hN2 k2=>?_⟩
 have tab2:=jCA tab1 hp1 k2
 refine⟨_,rfl,_,rfl,q,wi,ms2,lj2,rfl,hB2,g2,tab2,jBF λr3 x3 H3 tr3 e3 tab3=>?_⟩
 have tu3:Tups H2 H3:=λc xs h=>e3 _ _ h (qE tab2 h)
 refine⟨q,r3,wi,ms2,lj2,x3,rfl,hB2.mono tu3,g2,tr3,λH4 e4=>?_⟩
 obtain rfl:x3=x:=tr.same gu g2 tr3 hh
 have tu12:Tups H1 H2:=λc xs h=>k2 _ _ h λz=>by rw[z,hp1] at h;cases h
 have hB4:=(((hB.mono tu1).mono tu12).mono tu3).mono e4.tups
 have tab4:=tab3.ext e4
 have hp4:=e4 _ _ (e3 _ _ hp2 (yQ tab2 hp2))
 have k4:∀c o,H c=some o->c≠p->c≠tb->H4 c=some o:=λc o h n1 n2=>e4 _ _ (e3 _ _ (k2 _ _ (e1 _ _ h n2) n1) n2)
 refine⟨_,rfl,rfl,_,rfl,iteNo (by cases x3<;>decide+kernel) ?_⟩
 obtain⟨qm,qp,ps,b1,b2,b3,b4⟩:=id hB4.ex
 have psl:=b4.len
 refine⟨_,rfl,b,_,2,_,rfl,rfl,SqT.of b1,rfl,bb _,λt5 H5 d5 e5=>?_⟩
 refine⟨lj.map pcT,[],⟨qp,ps,rfl,e5 _ _ b3,(pcs_T b4).ext e5⟩,⟨t5,[],rfl,d5,rfl⟩,by have:=jJ0 lj;lia,_,rfl,?_⟩
 rw[jM5]
 by_cases h0:lj=[]
 .refine iteNo (by rw[ax h0];rfl) ?_
  exact nx H5 N2 _ _ (e5 _ _ hp4) hN2 (λc o h n1 n2=>e5 _ _ (k4 c o h n1 n2)) (tab4.ext e5)
 .refine jIR (by rw[aN h0];rfl) ?_
  have pos:0<lj.length:=List.length_pos_iff.mpr h0
  refine⟨_,rfl,b,_,0,_,rfl,rfl,SqT.of (e5 _ _ b1),rfl,?_⟩
  refine⟨_,rfl,b,_,1,_,rfl,rfl,SqT.of (e5 _ _ b1),rfl,?_⟩
  refine⟨_,rfl,b,_,2,_,rfl,rfl,SqT.of (e5 _ _ b1),rfl,?_⟩
  refine⟨_,rfl,b,_,2,_,rfl,rfl,SqT.of (e5 _ _ b1),rfl,?_⟩
  refine⟨_,rfl,_,rfl,b,_,2,_,rfl,rfl,SqT.of (e5 _ _ b1),rfl,qp,_,rfl,.inr (SqT.of (e5 _ _ b3)),p,N2,(ps.length:Int),rfl,e5 _ _ hp4,hN2,by lia,by lia,λN6 i a1 a2 a3=>?_⟩
  have pq:∀{c:Addr}{xs:List V},H5 c=some (.tup xs)->(L2.upd H5 p (.lst [.int N6])) c=some (.tup xs):=λ{c xs} h=>by
   rw[j7 (λz=>by rw[z,e5 _ _ hp4] at h;cases h)]
   exact h
  have hp6:(L2.upd H5 p (.lst [.int N6])) p=some (.lst [.int N6]):=j5
  have k6:Keep H5 (L2.upd H5 p (.lst [.int N6])) p:=λc o h n=>by rw[j7 n];exact h
  have tab6:=jCA (tab4.ext e5) (e5 _ _ hp4) k6
  generalize L2.upd H5 p (.lst [.int N6])=H6 at pq hp6 k6 tab6 ⊢
  have tu6:Tups H4 H6:=λc xs h=>pq (e5 _ _ h)
  obtain⟨j,rfl⟩:∃j:Nat,i=(j:Int):=⟨i.toNat,by lia⟩
  have hj:j<lj.length:=by lia
  obtain⟨u,hu,hpc⟩:=b4.get hj
  have hm:lj.getD j ([],0)∈lj:=by rw[af,ag hj];exact bC hj
  refine⟨qp,ps,(j:Int),u,rfl,rfl,SqT.of (tu6 _ _ b3),?_,?_⟩
  .exact yF hu
  refine⟨by show (1:Nat)<=_;decide,λt7 H7 d7 e7=>?_⟩
  refine⟨qp,t7,ps,[u],rfl,rfl,e7 _ _ (tu6 _ _ b3),d7,by rw[ar];show ps.length+1<=_;lia,λt8 H8 d8 e8=>?_⟩
  refine⟨by show (3:Nat)<=_;decide,λt9 H9 d9 e9=>?_⟩
  have E9:=(e7.trans e8).trans e9
  have tu9:Tups H4 H9:=λc xs h=>E9 _ _ (tu6 _ _ h)
  have tab9:=tab6.ext E9
  have hB9:BoxAt H9 t9 wi ms (lj++[lj.getD j ([],0)]):=⟨qm,t8,ps++[u],d9,tu9 _ _ b2,e9 _ _ d8,PcsAt.snoc (hpc.mono tu9) (b4.mono tu9)⟩
  have g9:Good 16 32 wi ms (lj++[lj.getD j ([],0)]):=⟨g.w0,g.w1,g.mr,by rw[aK];show ((lj.length+1:Nat):Int)<=32;lia,λpc h=>by
   rcases az.mp h with z|z
   .exact g.pg pc z
   .rw[aW.mp z];exact g.pg _ hm⟩
  refine⟨_,rfl,_,rfl,t9,wi,ms,_,rfl,hB9,g9,tab9,jBF λrA xA HA trA eA tabA=>?_⟩
  have tuA:Tups H9 HA:=λc xs h=>eA _ _ h (qE tab9 h)
  refine⟨t9,rA,wi,ms,_,xA,rfl,hB9.mono tuA,g9,trA,λHB eB=>?_⟩
  obtain rfl:xA=x3:=tr.same gu g9 trA (jO9 hm)
  refine⟨_,rfl,rfl,_,rfl,iteNo (by cases xA<;>decide+kernel) ?_⟩
  exact nx HB N6 _ _ (eB _ _ (eA _ _ (E9 _ _ hp6) (yQ tab9 (E9 _ _ hp6)))) a1 (λc o h n1 n2=>eB _ _ (eA _ _ (E9 _ _ (k6 _ _ (e5 _ _ (k4 c o h n1 n2)) n1)) n2)) (tabA.ext eB)
theorem jOG{wl:Addr}{i:Nat}{vC:Option V}(hp:H p=some (.lst [.int N]))(hN:0<=N)(tab:TabL H tb)(hs:H sl=some (.lst (bx.map λy=>V.ref y.1)))(hw:H wl=some (.lst (bx.map λy=>V.str (wordS y.2))))(sp:sl≠p)(wp:wl≠p)(hl:bx.length=3)(hb:∀y∈bx,SmB H y.1 y.2)(hi:i<3)
  (nx:∀H' N' vA vB vC,H' p=some (.lst [.int N'])->0<=N'->(∀c o,H c=some o->c≠p->c≠tb->H' c=some o)->TabL H' tb->D.nx [v0,v1,some (.ref p),v3,some (.ref sl),v5,v6,v7,some (.ref wl),some (.int (i:Int)),vA,vB,vC] H'):
  (li5A G hr).1 D [v0,v1,some (.ref p),v3,some (.ref sl),v5,v6,v7,some (.ref wl),some (.int (i:Int)),vA,vB,vC] H:=by
 refine⟨_,rfl,p,N,3,rfl,hp,hN,by decide,by decide,λN1 o a1 a2 a3=>?_⟩
 have pq:∀{c:Addr}{o:HO},H c=some o->c≠p->(L2.upd H p (.lst [.int N1])) c=some o:=λ{c o} h n=>by
  rw[j7 n]
  exact h
 have hp1:(L2.upd H p (.lst [.int N1])) p=some (.lst [.int N1]):=j5
 have k1:Keep H (L2.upd H p (.lst [.int N1])) p:=λc o h n=>pq h n
 have tab1:=jCA tab hp k1
 have tu1:Tups H (L2.upd H p (.lst [.int N1])):=λc xs h=>pq h λz=>by rw[z,hp] at h;cases h
 generalize L2.upd H p (.lst [.int N1])=H1 at pq hp1 k1 tab1 tu1 ⊢
 obtain⟨j,rfl⟩:∃j:Nat,o=(j:Int):=⟨o.toNat,by lia⟩
 have hj:j<3:=by lia
 have gi:bx[i]?=some (bx[i]'(by lia)):=ag (by lia)
 have gj:bx[j]?=some (bx[j]'(by lia)):=ag (by lia)
 obtain⟨w1,m1,p1,B1,g1,e1⟩:=hb _ (bC (l:=bx) (n:=i) (by lia))
 obtain⟨w2,m2,p2,B2,g2,e2⟩:=hb _ (bC (l:=bx) (n:=j) (by lia))
 generalize bx[i]'(by lia)=y1 at gi B1 e1
 generalize bx[j]'(by lia)=y2 at gj B2 e2
 have si:(bx.map λy=>V.ref y.1)[i]?=some (.ref y1.1):=by rw[aO,gi];rfl
 have sj:(bx.map λy=>V.ref y.1)[j]?=some (.ref y2.1):=by rw[aO,gj];rfl
 have wi:(bx.map λy=>V.str (wordS y.2))[i]?=some (.str (wordS y1.2)):=by rw[aO,gi];rfl
 have wj:(bx.map λy=>V.str (wordS y.2))[j]?=some (.str (wordS y2.2)):=by rw[aO,gj];rfl
 refine⟨_,rfl,_,rfl,sl,_,(i:Int),_,rfl,rfl,SqL.of (pq hs sp),yF si,?_⟩
 refine⟨_,rfl,_,rfl,sl,_,(j:Int),_,rfl,rfl,SqL.of (pq hs sp),yF sj,?_⟩
 refine⟨y1.1,y2.1,w1,w2,m1,m2,p1,p2,rfl,B1.mono tu1,B2.mono tu1,g1,g2,λr H2 hB2 x2=>?_⟩
 have hw2:H2 wl=some (.lst (bx.map λy=>V.str (wordS y.2))):=x2 _ _ (pq hw wp)
 have ew:∀x:Bool,decide (V.str (wordS x)=V.str (Str.ofString "wholes"))=x:=λx=>by cases x<;>decide+kernel
 have g3:Good 16 32 (w1+w2) (m1++m2.map (· +w1)) (p1++p2.map (shP w1)):=jHM g1 g2
 have bh:=jJY g1 g2
 refine⟨by show (2:Nat)<=_;decide,λdl H3 d3 e3 n3=>?_⟩
 have hw3:=e3 _ _ hw2
 refine⟨_,rfl,_,rfl,wl,_,(i:Int),_,rfl,rfl,SqL.of hw3,yF wi,?_⟩
 obtain⟨c1,z1⟩:=y1
 obtain⟨c2,z2⟩:=y2
 have tab3:=(tab1.ext x2).ext e3
 have hB3:=hB2.mono e3.tups
 have hp3:=e3 _ _ (x2 _ _ hp1)
 have k3:∀c o,H c=some o->c≠p->H3 c=some o:=λc o h n=>e3 _ _ (x2 _ _ (k1 c o h n))
 have key:∀{x4:Bool}{r4:Addr}{H4:Hp},TR (w1+w2) (m1++m2.map (· +w1)) (p1++p2.map (shP w1)) H4 r4 x4->x4=(z1&&z2):=λ{x4 r4 H4} tr4=>by
  have a:=tr4.has g3
  have:x4=true↔(z1=true/\z2=true):=a.trans (bh.trans (and_congr e1.symm e2.symm))
  cases x4<;>cases z1<;>cases z2<;>simp at this ⊢
 refine⟨rfl,_,rfl,?_⟩
 rw[ew z1]
 cases z1 with
 |false=>
  refine iteNo rfl (.inr ⟨false,rfl,dl,_,0,_,rfl,rfl,SqL.of d3,rfl,?_⟩)
  refine⟨_,rfl,_,rfl,r,_,_,_,rfl,hB3,g3,tab3,jBF λr4 x4 H4 tr4 e4 tab4=>?_⟩
  have tu4:Tups H3 H4:=λc xs h=>e4 _ _ h (qE tab3 h)
  refine⟨r,r4,_,_,_,x4,rfl,hB3.mono tu4,g3,tr4,λH5 e5=>?_⟩
  obtain rfl:x4=false:=(key tr4).trans (ce _)
  refine⟨_,rfl,rfl,_,rfl,iteNo (by decide+kernel) ?_⟩
  exact nx H5 N1 _ _ _ (e5 _ _ (e4 _ _ hp3 (yQ tab3 hp3))) a1 (λc o h n1 n2=>e5 _ _ (e4 _ _ (k3 c o h n1) n2)) (tab4.ext e5)
 |true=>
  refine jIR rfl ⟨_,rfl,_,rfl,wl,_,(j:Int),_,rfl,rfl,SqL.of hw3,yF wj,rfl,?_⟩
  show _\/_
  rw[ew z2]
  cases z2 with
  |false=>
   refine .inr ⟨_,rfl,dl,_,0,_,rfl,rfl,SqL.of d3,rfl,?_⟩
   refine⟨_,rfl,_,rfl,r,_,_,_,rfl,hB3,g3,tab3,jBF λr4 x4 H4 tr4 e4 tab4=>?_⟩
   have tu4:Tups H3 H4:=λc xs h=>e4 _ _ h (qE tab3 h)
   refine⟨r,r4,_,_,_,x4,rfl,hB3.mono tu4,g3,tr4,λH5 e5=>?_⟩
   obtain rfl:x4=false:=(key tr4).trans rfl
   refine⟨_,rfl,rfl,_,rfl,iteNo (by decide+kernel) ?_⟩
   exact nx H5 N1 _ _ _ (e5 _ _ (e4 _ _ hp3 (yQ tab3 hp3))) a1 (λc o h n1 n2=>e5 _ _ (e4 _ _ (k3 c o h n1) n2)) (tab4.ext e5)
  |true=>
   refine .inr ⟨_,rfl,dl,_,1,_,rfl,rfl,SqL.of d3,rfl,?_⟩
   refine⟨_,rfl,_,rfl,r,_,_,_,rfl,hB3,g3,tab3,jBF λr4 x4 H4 tr4 e4 tab4=>?_⟩
   have tu4:Tups H3 H4:=λc xs h=>e4 _ _ h (qE tab3 h)
   refine⟨r,r4,_,_,_,x4,rfl,hB3.mono tu4,g3,tr4,λH5 e5=>?_⟩
   obtain rfl:x4=true:=(key tr4).trans rfl
   refine⟨_,rfl,rfl,_,rfl,iteNo (by decide+kernel) ?_⟩
   exact nx H5 N1 _ _ _ (e5 _ _ (e4 _ _ hp3 (yQ tab3 hp3))) a1 (λc o h n1 n2=>e5 _ _ (e4 _ _ (k3 c o h n1) n2)) (tab4.ext e5)
theorem jOC{vC:Option V}(hp:H p=some (.lst [.int N]))(hN:0<=N)(tab:TabL H tb)(hs:H sl=some (.lst (bx.map λy=>V.ref y.1)))(sp:sl≠p)(hl:bx.length=3)(hb:∀y∈bx,SmB H y.1 y.2)
  (nx:∀H' v8 v9 vA vB vC,(∀c o,H c=some o->c≠p->c≠tb->H' c=some o)->TabL H' tb->D.nx [v0,v1,some (.ref p),v3,some (.ref sl),v5,v6,v7,v8,v9,vA,vB,vC] H'):
  (lt4A G hr).1 D [v0,v1,some (.ref p),v3,some (.ref sl),v5,v6,v7,v8,v9,vA,vB,vC] H:=by
 refine⟨_,rfl,sl,rfl,⟨_,SqL.of hs⟩,jDV (xs:=bx.map λy=>V.ref y.1) (by rw[ar,aa];lia) (λD j σ' H' zs=>(∃v,σ'=[v])/\ExtT tb H H'/\TabL H' tb/\H' D=some (.lst zs)/\zs=(bx.take j).map λy=>V.str (wordS y.2)) (λD hD=>⟨⟨_,rfl⟩,ExtT.of ((Ext.refl _).new hD _),tab.ext ((Ext.refl _).new hD _),j5,rfl⟩) (λD j σ' H' zs hD ⟨_,e,t,h2,hz⟩=>⟨e _ _ hs (yQ tab hs),h2,?_⟩) ?_ ?_⟩
 .rw[hz,aa]
  exact gF _ _
 .rintro D j σ' H' zs x hD hx ⟨⟨v,rfl⟩,e,t,h2,hz⟩
  rw[aO] at hx
  cases hy:bx[j]? with
  |none=>rw[hy] at hx;cases hx
  |some y=>
   rw[hy] at hx
   obtain rfl:V.ref y.1=x:=bj hx
   obtain⟨w1,m1,p1,B1,g1,e1⟩:=hb y (aH hy)
   have tu:Tups H H':=λc xs h=>e _ _ h (qE tab h)
   have gu:Good 16 32 w1 m1 p1:=g1.up (by decide) (by decide)
   dsimp only[kI,yH]
   rw[ai rfl]
   refine⟨_,rfl,y.1,w1,m1,p1,rfl,B1.mono tu,gu,t,jBF λr x H3 tr e3 tab3=>?_⟩
   obtain⟨v,hv⟩:=tr.word
   obtain rfl:x=y.2:=by
    have a:x=true↔y.2=true:=(tr.has gu).trans e1.symm
    cases x<;>cases h:y.2<;>simp[h] at a ⊢
   refine⟨r,_,0,_,rfl,rfl,SqT.of hv,rfl,?_⟩
   have hD3:=e3 _ _ h2 (yQ t h2)
   refine⟨hD3,⟨_,rfl⟩,λc o h n=>?_,?_,j5,?_⟩
   .rw[j7 (j8 h hD)]
    exact e3 _ _ (e _ _ h n) n
   .exact jCA tab3 hD3 λc o h n=>by rw[j7 n];exact h
   .rw[aX,hy,aC,hz]
    rfl
 .rintro wl σ' H1 zs hD ⟨_,e,t,h2,hz⟩
  rw[aa,bH] at hz
  subst hz
  have tu:Tups H H1:=λc xs h=>e _ _ h (qE tab h)
  have hs1:=e _ _ hs (yQ tab hs)
  have hp1:=e _ _ hp (yQ tab hp)
  have wp:wl≠p:=λz=>by rw[z,hp] at hD;cases hD
  have wt:wl≠tb:=yQ t h2
  have st:sl≠tb:=yQ tab hs
  refine⟨3,rfl,by decide,by decide,jA7 (λi σ H2=>(∃v9 vA vB vC,σ=[v0,v1,some (.ref p),v3,some (.ref sl),v5,v6,v7,some (.ref wl),v9,vA,vB,vC])/\(∃N':Int,0<=N'/\H2 p=some (.lst [.int N']))/\(∀c o,H1 c=some o->c≠p->c≠tb->H2 c=some o)/\TabL H2 tb) ⟨⟨_,_,_,_,rfl⟩,⟨N,hN,hp1⟩,λ_ _ h _ _=>h,t⟩ ?_ ?_⟩
  .rintro i σ H2 hi ⟨⟨v9,vA,vB,vC,rfl⟩,⟨N2,a1,a2⟩,k2,t2⟩
   have e0:(0+(i:Int))=(i:Int):=by lia
   rw[e0]
   have tu2:Tups H1 H2:=λc xs h=>k2 _ _ h (λz=>by rw[z,hp1] at h;cases h) (qE t h)
   exact jOG G hr a2 a1 t2 (k2 _ _ hs1 sp st) (k2 _ _ h2 wp wt) sp wp hl (λy hy=>by
    obtain⟨w1,m1,p1,B1,g1,e1⟩:=hb y hy
    exact⟨w1,m1,p1,(B1.mono tu).mono tu2,g1,e1⟩) hi λH' N' vA vB vC b1 b2 b3 b4=>⟨⟨_,_,_,_,rfl⟩,⟨N',b2,b1⟩,λc o h n1 n2=>b3 _ _ (k2 _ _ h n1 n2) n1 n2,b4⟩
  .rintro σ H2 ⟨⟨v9,vA,vB,vC,rfl⟩,⟨N2,a1,a2⟩,k2,t2⟩
   exact nx H2 _ _ _ _ _ (λc o h n1 n2=>k2 _ _ (e _ _ h n2) n1 n2) t2
def LgB(H:Hp)(b:Addr):Prop:=∃wi ms lj,BoxAt H b wi ms lj/\Good 16 31 wi ms lj
def jOD{bs:List Addr}{vC:Option V}(hp:H p=some (.lst [.int N]))(hN:0<=N)(tab:TabL H tb)(hB:H bl=some (.lst (bs.map V.ref)))(bp:bl≠p)(hbl:∀b∈bs,LgB H b)(hs:H sl=some (.lst (bx.map λy=>V.ref y.1)))(sp:sl≠p)(hl:bx.length=3)(hb:∀y∈bx,SmB H y.1 y.2)
  (nx:∀H' v5 v6 v7 v8 v9 vA vB vC,(∀c o,H c=some o->c≠p->c≠tb->H' c=some o)->TabL H' tb->D.nx [v0,v1,some (.ref p),some (.ref bl),some (.ref sl),v5,v6,v7,v8,v9,vA,vB,vC] H'):
  (lt3A G hr).1 D [v0,v1,some (.ref p),some (.ref bl),some (.ref sl),v5,v6,v7,v8,v9,vA,vB,vC] H:=by
 have bt:bl≠tb:=yQ tab hB
 have st:sl≠tb:=yQ tab hs
 refine⟨_,rfl,bl,rfl,⟨_,SqL.of hB⟩,jC3 (xs:=bs.map V.ref) (λi σ H2=>(∃v5 v6 v7,σ=[v0,v1,some (.ref p),some (.ref bl),some (.ref sl),v5,v6,v7,v8,v9,vA,vB,vC])/\(∃N':Int,0<=N'/\H2 p=some (.lst [.int N']))/\(∀c o,H c=some o->c≠p->c≠tb->H2 c=some o)/\TabL H2 tb) ⟨⟨_,_,_,rfl⟩,⟨N,hN,hp⟩,λ_ _ h _ _=>h,tab⟩ (λi σ H2 _ ⟨_,_,k2,_⟩=>SqL.of (k2 _ _ hB bp bt)) ?_ ?_⟩
 .rintro i x σ H2 hx ⟨⟨v5,v6,v7,rfl⟩,⟨N2,a1,a2⟩,k2,t2⟩
  rw[aO] at hx
  cases hy:bs[i]? with
  |none=>rw[hy] at hx;cases hx
  |some y=>
   rw[hy] at hx
   obtain rfl:V.ref y=x:=bj hx
   obtain⟨w1,m1,p1,B1,g1⟩:=hbl y (aH hy)
   have tu2:Tups H H2:=λc xs h=>k2 _ _ h (λz=>by rw[z,hp] at h;cases h) (qE tab h)
   exact jOH G hr a2 a1 t2 (B1.mono tu2) g1 λH' N' v6 v7 b1 b2 b3 b4=>⟨⟨_,_,_,rfl⟩,⟨N',b2,b1⟩,λc o h n1 n2=>b3 _ _ (k2 _ _ h n1 n2) n1 n2,b4⟩
 .rintro σ H2 ⟨⟨v5,v6,v7,rfl⟩,⟨N2,a1,a2⟩,k2,t2⟩
  have tu2:Tups H H2:=λc xs h=>k2 _ _ h (λz=>by rw[z,hp] at h;cases h) (qE tab h)
  exact jOC G hr a2 a1 t2 (k2 _ _ hs sp st) sp hl (λy hy=>by
    obtain⟨w1,m1,p1,B1,g1,e1⟩:=hb y hy
    exact⟨w1,m1,p1,B1.mono tu2,g1,e1⟩) λH' v8 v9 vA vB vC b3 b4=>nx H' _ _ _ _ _ _ _ _ (λc o h n1 n2=>b3 _ _ (k2 _ _ h n1 n2) n1 n2) b4
def smB(B:BoxAt H b wi ms lj)(g:Good 8 16 wi ms lj):∃x,SmB H b x:=by
 by_cases h:HasW wi ms lj
 .exact⟨true,wi,ms,lj,B,g,λ_=>h,λ_=>rfl⟩
 .exact⟨false,wi,ms,lj,B,g,⟨λz=>(by cases z),λz=>absurd z h⟩⟩
theorem jOE{bs:List Addr}{vC:Option V}(hp:H p=some (.lst [.int N]))(hN:0<=N)(tab:TabL H tb)(hB:H bl=some (.lst (bs.map V.ref)))(bp:bl≠p)(hbl:∀b∈bs,LgB H b)
  (nx:∀H' v4 v5 v6 v7 v8 v9 vA vB vC,(∀c o,H c=some o->c≠p->c≠tb->H' c=some o)->TabL H' tb->D.nx [v0,v1,some (.ref p),some (.ref bl),v4,v5,v6,v7,v8,v9,vA,vB,vC] H'):
  (lt2A G hr).1 D [v0,v1,some (.ref p),some (.ref bl),v4,v5,v6,v7,v8,v9,vA,vB,vC] H:=by
 refine⟨_,rfl,p,N,6,8,rfl,hp,hN,by decide,by decide,by decide,by decide,λb1 N1 w1 m1 p1 H1 hN1 hp1 hB1 c1 k1=>?_⟩
 refine⟨_,rfl,p,N1,6,5,rfl,by decide,by decide,by decide,by decide,hp1,hN1,λl2 b2 q2 w2 p2 ns2 N2 H2 hl2 ok2 ln2 hp2 hN2 k2=>?_⟩
 refine⟨l2,_,0,_,rfl,rfl,SqL.of hl2,rfl,?_⟩
 refine⟨_,rfl,p,N2,6,6,rfl,by decide,by decide,by decide,by decide,hp2,hN2,λl3 b3 q3 md3 w3 p3 ns3 N3 H3 hl3 ok3 lw3 ln3 hp3 hN3 k3=>?_⟩
 refine⟨l3,_,0,_,rfl,rfl,SqL.of hl3,rfl,?_⟩
 refine⟨by show (3:Nat)<=_;decide,λsl H4 d4 e4 n4=>?_⟩
 have tu2:Tups H1 H2:=λc xs h=>k2 _ _ h λz=>by rw[z,hp1] at h;cases h
 have tu3:Tups H2 H3:=λc xs h=>k3 _ _ h λz=>by rw[z,hp2] at h;cases h
 have B1:=((hB1.mono tu2).mono tu3).mono e4.tups
 have B2:=(ok2.box.mono tu3).mono e4.tups
 have B3:=ok3.box.mono e4.tups
 have hp4:=e4 _ _ hp3
 have sp:sl≠p:=λz=>by rw[z,hp3] at n4;cases n4
 have k4:∀c o,H c=some o->c≠p->H4 c=some o:=λc o h n=>e4 _ _ (k3 _ _ (k2 _ _ (k1 _ _ h n) n) n)
 have tu:Tups H H4:=λc xs h=>k4 _ _ h λz=>by rw[z,hp] at h;cases h
 have g1:Good 8 16 w1 m1 p1:=⟨c1.w0,by have:=c1.w1;lia,c1.mr,by have:=c1.pl;lia,c1.pg⟩
 have g2:Good 8 16 w2 [] p2:=⟨ok2.good.w0,by lia,ok2.good.mr,by have:=ok2.len;lia,ok2.good.pg⟩
 have g3:Good 8 16 w3 [] p3:=⟨ok3.good.w0,by lia,ok3.good.mr,by lia,ok3.good.pg⟩
 obtain⟨x1,s1⟩:=smB B1 g1
 obtain⟨x2,s2⟩:=smB B2 g2
 obtain⟨x3,s3⟩:=smB B3 g3
 exact jOD G hr (bx:=[(b1,x1),(b2,x2),(b3,x3)]) hp4 hN3 (jCA tab hp k4) (k4 _ _ hB bp) bp (λb hb=>by
   obtain⟨wi,ms,lj,B,g⟩:=hbl b hb
   exact⟨wi,ms,lj,B.mono tu,g⟩) d4 sp rfl (λy hy=>by
   rcases ay.mp hy with rfl|hy
   .exact s1
   rcases ay.mp hy with rfl|hy
   .exact s2
   rcases ay.mp hy with rfl|hy
   .exact s3
   .cases hy) λH' v5 v6 v7 v8 v9 vA vB vC a1 a2=>nx H' _ _ _ _ _ _ _ _ _ (λc o h n1 n2=>a1 _ _ (k4 _ _ h n1) n1 n2) a2
theorem jOF{ns:List Int}{k:Int}{v2 vC:Option V}(hS:SqL K H a (ns.map V.int))(k0:0<=k)(tab:TabL H tb)
  (nx:∀H' v2 v3 v4 v5 v6 v7 v8 v9 vA vB vC,ExtT tb H H'->TabL H' tb->D.nx [some (.ref a),some (.int k),v2,v3,v4,v5,v6,v7,v8,v9,vA,vB,vC] H'):
  (lt0A G hr).1 D [some (.ref a),some (.int k),v2,v3,v4,v5,v6,v7,v8,v9,vA,vB,vC] H:=by
 refine⟨_,rfl,_,rfl,a,ns,k,rfl,hS,k0,λc=>?_⟩
 refine⟨c,rfl,λp N hp0 hN=>?_⟩
 have e0:Ext H (L2.upd H p (.lst [.int N])):=(Ext.refl _).new hp0 _
 have hp:(L2.upd H p (.lst [.int N])) p=some (.lst [.int N]):=j5
 have np:∀c o,H c=some o->c≠p:=λc o h=>j8 h hp0
 have tab0:=tab.ext e0
 generalize L2.upd H p (.lst [.int N])=H00 at e0 hp tab0 ⊢
 refine⟨_,rfl,p,N,14,18,rfl,hp,hN,by decide,by decide,by decide,by decide,λb1 N1 w1 m1 p1 H1 hN1 hp1 hB1 c1 k1=>?_⟩
 refine⟨_,rfl,p,N1,10,10,rfl,by decide,by decide,by decide,by decide,hp1,hN1,λl2 b2 q2 w2 p2 ns2 N2 H2 hl2 ok2 ln2 hp2 hN2 k2=>?_⟩
 refine⟨l2,_,0,_,rfl,rfl,SqL.of hl2,rfl,?_⟩
 refine⟨_,rfl,p,N2,10,10,rfl,by decide,by decide,by decide,by decide,hp2,hN2,λl3 b3 q3 md3 w3 p3 ns3 N3 H3 hl3 ok3 lw3 ln3 hp3 hN3 k3=>?_⟩
 refine⟨l3,_,0,_,rfl,rfl,SqL.of hl3,rfl,?_⟩
 refine⟨by show (3:Nat)<=_;decide,λsl H4 d4 e4 n4=>?_⟩
 have tu2:Tups H1 H2:=λc xs h=>k2 _ _ h λz=>by rw[z,hp1] at h;cases h
 have tu3:Tups H2 H3:=λc xs h=>k3 _ _ h λz=>by rw[z,hp2] at h;cases h
 have B1:=((hB1.mono tu2).mono tu3).mono e4.tups
 have B2:=(ok2.box.mono tu3).mono e4.tups
 have B3:=ok3.box.mono e4.tups
 have hp4:=e4 _ _ hp3
 have sp:sl≠p:=λz=>by rw[z,hp3] at n4;cases n4
 have k4:∀c o,H00 c=some o->c≠p->H4 c=some o:=λc o h n=>e4 _ _ (k3 _ _ (k2 _ _ (k1 _ _ h n) n) n)
 have g1:Good 16 31 w1 m1 p1:=⟨c1.w0,by have:=c1.w1;lia,c1.mr,by have:=c1.pl;lia,c1.pg⟩
 have g2:Good 16 31 w2 [] p2:=⟨ok2.good.w0,by lia,ok2.good.mr,by have:=ok2.len;lia,ok2.good.pg⟩
 have g3:Good 16 31 w3 [] p3:=⟨ok3.good.w0,by lia,ok3.good.mr,by lia,ok3.good.pg⟩
 exact jOE G hr (bs:=[b1,b2,b3]) hp4 hN3 (jCA tab0 hp k4) d4 sp (λb hb=>by
   rcases ay.mp hb with rfl|hb
   .exact⟨_,_,_,B1,g1⟩
   rcases ay.mp hb with rfl|hb
   .exact⟨_,_,_,B2,g2⟩
   rcases ay.mp hb with rfl|hb
   .exact⟨_,_,_,B3,g3⟩
   .cases hb) λH' v4 v5 v6 v7 v8 v9 vA vB vC a1 a2=>nx H' _ _ _ _ _ _ _ _ _ _ _ (λc o h n2=>a1 _ _ (k4 _ _ (e0 _ _ h) (np _ _ h)) (np _ _ h) n2) a2
end
theorem jT6(F:Fun K "law" "law" sLaw f fd)(G:LW P w K mg base tb fC fP fT fB fWh fR fPl fHu fTd fBs fdC fdP fdT fdB fdWh fdR fdPl fdHu fdTd fdBs):FnOk P w K mg base CX0 36 f fd ["script"] (spLaw K tb):=by
 refine F.ok scLaw (λvs H Q E h=>?_) (λcdv A outer s H vs Q E hr h=>?_)
 .obtain⟨_,_,rfl,_⟩:=h
  rfl
 .obtain⟨a,ns,rfl,hS,hlen,tab,q⟩:=h
  refine⟨_,(lawA G hr).2.h,?_⟩
  refine⟨_,rfl,a,_,rfl,.inl hS,_,_,rfl,_,_,rfl,_,rfl,?_,?_,jA7 (λi σ H2=>(∃v1 v2 v3 v4 v5 v6 v7 v8 v9 vA vB vC,σ=[some (.ref a),v1,v2,v3,v4,v5,v6,v7,v8,v9,vA,vB,vC])/\ExtT tb H H2/\TabL H2 tb) ⟨⟨_,_,_,_,_,_,_,_,_,_,_,_,rfl⟩,λ_ _ h _=>h,tab⟩ ?_ ?_⟩
  .split<;>split<;>lia
  .rw[aa]
   split<;>split<;>lia
  .rintro i σ H2 hi ⟨⟨v1,v2,v3,v4,v5,v6,v7,v8,v9,vA,vB,vC,rfl⟩,x,t2⟩
   exact jOF G hr (sqT hS x tab) (by lia) t2 λH' v2 v3 v4 v5 v6 v7 v8 v9 vA vB vC x' t'=>⟨⟨_,_,_,_,_,_,_,_,_,_,_,_,rfl⟩,λc o h n=>x' _ _ (x _ _ h n) n,t'⟩
  .rintro σ H2 ⟨⟨v1,v2,v3,v4,v5,v6,v7,v8,v9,vA,vB,vC,rfl⟩,x,t2⟩
   exact q H2
end
def lenU1{P:List Value->Prop}:∀{us:List Value},us.length=1->(∀a,P [a])->P us
 |[a],_,h=>h a
def lenU2{P:List Value->Prop}:∀{us:List Value},us.length=2->(∀a b,P [a,b])->P us
 |[a,b],_,h=>h a b
def lenU3{P:List Value->Prop}:∀{us:List Value},us.length=3->(∀a b c,P [a,b,c])->P us
 |[a,b,c],_,h=>h a b c
def lenU5{P:List Value->Prop}:∀{us:List Value},us.length=5->(∀a b c d e,P [a,b,c,d,e])->P us
 |[a,b,c,d,e],_,h=>h a b c d e
abbrev zN(K:W.Frag)(x:Str):=PySem.W.nsIn K mainGlobals x
abbrev zr(f:Addr):Option (Option Value):=some (some (.ref f))
abbrev zl(x:Str)(st:Stmt)(oc:Value)(od:Option Addr)(kV dc pm:Value)(an:Option Addr)(cd ct:Value)(sl:Array (Option Value)):Option Obj:=some ⟨oc,od,.func (PySem.W.fnOf x x (yX st) (jE st) (jB st) .none kV dc pm an cd ct),sl⟩
abbrev zc:=PySem.W.codeIn
abbrev zk(K:W.Frag)(f:Addr):=keepIn K (.ref f)
def zb1(F:Fun K x q st f fd)(h:∀(kV doc pm:Value) (an:Option Addr) (cdv ct u1:Value),bindArgs (PySem.W.fnOf x q (yX st) (jE st) (jB st) .none kV doc pm an cdv ct) ⟨[u1],[]⟩=pure [(p1,u1)]:=by intros;rfl):Binds K fd [p1] []:=F.binds λkV doc pm an cdv ct us hl=>lenU1 (P:=λus=>bindArgs _ ⟨us,[]⟩=pure (List.zip _ us)) hl λu1=>h kV doc pm an cdv ct u1
def zb2(F:Fun K x q st f fd)(h:∀(kV doc pm:Value) (an:Option Addr) (cdv ct u1 u2:Value),bindArgs (PySem.W.fnOf x q (yX st) (jE st) (jB st) .none kV doc pm an cdv ct) ⟨[u1,u2],[]⟩=pure [(p1,u1),(p2,u2)]:=by intros;rfl):Binds K fd [p1,p2] []:=F.binds λkV doc pm an cdv ct us hl=>lenU2 (P:=λus=>bindArgs _ ⟨us,[]⟩=pure (List.zip _ us)) hl λu1 u2=>h kV doc pm an cdv ct u1 u2
def zb3{p3:Str}(F:Fun K x q st f fd)(h:∀(kV doc pm:Value) (an:Option Addr) (cdv ct u1 u2 u3:Value),bindArgs (PySem.W.fnOf x q (yX st) (jE st) (jB st) .none kV doc pm an cdv ct) ⟨[u1,u2,u3],[]⟩=pure [(p1,u1),(p2,u2),(p3,u3)]:=by intros;rfl):Binds K fd [p1,p2,p3] []:=F.binds λkV doc pm an cdv ct us hl=>lenU3 (P:=λus=>bindArgs _ ⟨us,[]⟩=pure (List.zip _ us)) hl λu1 u2 u3=>h kV doc pm an cdv ct u1 u2 u3
def zb5{p3 p4 p5:Str}(F:Fun K x q st f fd)(h:∀(kV doc pm:Value) (an:Option Addr) (cdv ct u1 u2 u3 u4 u5:Value),bindArgs (PySem.W.fnOf x q (yX st) (jE st) (jB st) .none kV doc pm an cdv ct) ⟨[u1,u2,u3,u4,u5],[]⟩=pure [(p1,u1),(p2,u2),(p3,u3),(p4,u4),(p5,u5)]:=by intros;rfl):Binds K fd [p1,p2,p3,p4,p5] []:=F.binds λkV doc pm an cdv ct us hl=>lenU5 (P:=λus=>bindArgs _ ⟨us,[]⟩=pure (List.zip _ us)) hl λu1 u2 u3 u4 u5=>h kV doc pm an cdv ct u1 u2 u3 u4 u5
set_option autoImplicit true
set_option relaxedAutoImplicit true
set_option maxHeartbeats 8000000 in
def all_mk{l:PySem.W.OpenLaw}{h:Heap}{fa f1 f2 f3 f4 f5 f6 f7 f8 f9 f10 f11 f12 f13 f14 f15 f16 f17 f18 f19 f20 f21 f22 f23 f24 f25 f26 f27:Addr}(X:K.In h)(G:h.Ns mainGlobals mg)(hfa:mg "law" =some (.ref fa))
  (a1:zN K "common_divisor" =zr f1) (l1:K.lookup f1=zl "common_divisor" sGcd oc1 od1 kV1 dc1 pm1 an1 cd1 ct1 sl1) (c1:zc K cd1 "common_divisor" =true) (k1:zk K f1=true)
  (a2:zN K "musts_of" =zr f2) (l2:K.lookup f2=zl "musts_of" jCR oc2 od2 kV2 dc2 pm2 an2 cd2 ct2 sl2) (c2:zc K cd2 "musts_of" =true) (k2:zk K f2=true)
  (a3:zN K "first_columns" =zr f3) (l3:K.lookup f3=zl "first_columns" jAN oc3 od3 kV3 dc3 pm3 an3 cd3 ct3 sl3) (c3:zc K cd3 "first_columns" =true) (k3:zk K f3=true)
  (a4:zN K "taken_off" =zr f4) (l4:K.lookup f4=zl "taken_off" jCQ oc4 od4 kV4 dc4 pm4 an4 cd4 ct4 sl4) (c4:zc K cd4 "taken_off" =true) (k4:zk K f4=true)
  (a5:zN K "nearest_times" =zr f5) (l5:K.lookup f5=zl "nearest_times" sNear oc5 od5 kV5 dc5 pm5 an5 cd5 ct5 sl5) (c5:zc K cd5 "nearest_times" =true) (k5:zk K f5=true)
  (a6:zN K "goes_in" =zr f6) (l6:K.lookup f6=zl "goes_in" sGoes oc6 od6 kV6 dc6 pm6 an6 cd6 ct6 sl6) (c6:zc K cd6 "goes_in" =true) (k6:zk K f6=true)
  (a7:zN K "led_by_one" =zr f7) (l7:K.lookup f7=zl "led_by_one" sLed oc7 od7 kV7 dc7 pm7 an7 cd7 ct7 sl7) (c7:zc K cd7 "led_by_one" =true) (k7:zk K f7=true)
  (a8:zN K "numbers_of_row" =zr f8) (l8:K.lookup f8=zl "numbers_of_row" qY oc8 od8 kV8 dc8 pm8 an8 cd8 ct8 sl8) (c8:zc K cd8 "numbers_of_row" =true) (k8:zk K f8=true)
  (a9:zN K "least_not_dividing" =zr f9) (l9:K.lookup f9=zl "least_not_dividing" sLnd oc9 od9 kV9 dc9 pm9 an9 cd9 ct9 sl9) (c9:zc K cd9 "least_not_dividing" =true) (k9:zk K f9=true)
  (a10:zN K "hues_of_row" =zr f10) (l10:K.lookup f10=zl "hues_of_row" jBU oc10 od10 kV10 dc10 pm10 an10 cd10 ct10 sl10) (c10:zc K cd10 "hues_of_row" =true) (k10:zk K f10=true)
  (a11:zN K "wholes" =zr f11) (l11:K.lookup f11=zl "wholes" yT oc11 od11 kV11 dc11 pm11 an11 cd11 ct11 sl11) (c11:zc K cd11 "wholes" =true) (k11:zk K f11=true)
  (a12:zN K "_law_cell_at" =zr f12) (l12:K.lookup f12=zl "_law_cell_at" sCell oc12 od12 kV12 dc12 pm12 an12 cd12 ct12 sl12) (c12:zc K cd12 "_law_cell_at" =true) (k12:zk K f12=true)
  (a13:zN K "_law_pot" =zr f13) (l13:K.lookup f13=zl "_law_pot" sPot oc13 od13 kV13 dc13 pm13 an13 cd13 ct13 sl13) (c13:zc K cd13 "_law_pot" =true) (k13:zk K f13=true)
  (a14:zN K "_law_take" =zr f14) (l14:K.lookup f14=zl "_law_take" sTake oc14 od14 kV14 dc14 pm14 an14 cd14 ct14 sl14) (c14:zc K cd14 "_law_take" =true) (k14:zk K f14=true)
  (a15:zN K "_law_lot" =zr f15) (l15:K.lookup f15=zl "_law_lot" sLot oc15 od15 kV15 dc15 pm15 an15 cd15 ct15 sl15) (c15:zc K cd15 "_law_lot" =true) (k15:zk K f15=true)
  (a16:zN K "_law_box" =zr f16) (l16:K.lookup f16=zl "_law_box" sBox oc16 od16 kV16 dc16 pm16 an16 cd16 ct16 sl16) (c16:zc K cd16 "_law_box" =true) (k16:zk K f16=true)
  (a17:zN K "_law_planted" =zr f17) (l17:K.lookup f17=zl "_law_planted" yA oc17 od17 kV17 dc17 pm17 an17 cd17 ct17 sl17) (c17:zc K cd17 "_law_planted" =true) (k17:zk K f17=true)
  (a18:zN K "_law_hued" =zr f18) (l18:K.lookup f18=zl "_law_hued" xB oc18 od18 kV18 dc18 pm18 an18 cd18 ct18 sl18) (c18:zc K cd18 "_law_hued" =true) (k18:zk K f18=true)
  (a19:zN K "_law_musts" =zr f19) (l19:K.lookup f19=zl "_law_musts" jB1 oc19 od19 kV19 dc19 pm19 an19 cd19 ct19 sl19) (c19:zc K cd19 "_law_musts" =true) (k19:zk K f19=true)
  (a20:zN K "_law_whole" =zr f20) (l20:K.lookup f20=zl "_law_whole" jDG oc20 od20 kV20 dc20 pm20 an20 cd20 ct20 sl20) (c20:zc K cd20 "_law_whole" =true) (k20:zk K f20=true)
  (a21:zN K "_law_wholes_right" =zr f21) (l21:K.lookup f21=zl "_law_wholes_right" yW oc21 od21 kV21 dc21 pm21 an21 cd21 ct21 sl21) (c21:zc K cd21 "_law_wholes_right" =true) (k21:zk K f21=true)
  (a22:zN K "_law_upto" =zr f22) (l22:K.lookup f22=zl "_law_upto" sUpto oc22 od22 kV22 dc22 pm22 an22 cd22 ct22 sl22) (c22:zc K cd22 "_law_upto" =true) (k22:zk K f22=true)
  (a23:zN K "_law_hues_right" =zr f23) (l23:K.lookup f23=zl "_law_hues_right" qG oc23 od23 kV23 dc23 pm23 an23 cd23 ct23 sl23) (c23:zc K cd23 "_law_hues_right" =true) (k23:zk K f23=true)
  (a24:zN K "_law_told_right" =zr f24) (l24:K.lookup f24=zl "_law_told_right" jCP oc24 od24 kV24 dc24 pm24 an24 cd24 ct24 sl24) (c24:zc K cd24 "_law_told_right" =true) (k24:zk K f24=true)
  (a25:zN K "_law_turned" =zr f25) (l25:K.lookup f25=zl "_law_turned" yP oc25 od25 kV25 dc25 pm25 an25 cd25 ct25 sl25) (c25:zc K cd25 "_law_turned" =true) (k25:zk K f25=true)
  (a26:zN K "_law_beside" =zr f26) (l26:K.lookup f26=zl "_law_beside" jBB oc26 od26 kV26 dc26 pm26 an26 cd26 ct26 sl26) (c26:zc K cd26 "_law_beside" =true) (k26:zk K f26=true)
  (a27:zN K "law" =zr f27) (l27:K.lookup f27=zl "law" sLaw oc27 od27 kV27 dc27 pm27 an27 cd27 ct27 sl27) (c27:zc K cd27 "law" =true) (k27:zk K f27=true)
   (z1:zN K "len" =some none) (z2:zN K "range" =some none) (z3:zN K "tuple" =some none) (z4:zN K "sorted" =some none) (z5:zN K "set" =some none) (z6:zN K "list" =some none) (z7:zN K "int" =some none) (z8:zN K "isinstance" =some none) (z9:zN K "bool" =some none) (z10:zN K "str" =some none) (z11:zN K "all" =some none) (z12:zN K "zip" =some none) (z13:zN K "max" =some none) (z14:zN K "min" =some none) (z15:zN K "any" =some none) (z16:zN K "abs" =some none) (z17:zN K "sum" =some none) (z18:zN K "enumerate" =some none) (z19:zN K "reversed" =some none) (sk:SeerF l.prog K) {tb1 cc1:Addr}(cde1:cd7=.ref cc1) (hcd1:codeHdIn K cc1 tb1=true) {bmA:Addr}(xb1:zN K "__builtins__" =zr bmA) (xb2:K.lookup bmA=some ⟨.type "module",some builtinsNs,.plain,#[]⟩) (xb3:bmA≠builtinsNs) (xb4:bmA≠mainGlobals):
  ∃fd:FuncData,(∀(s:Shared) (v:Value),BindsTo s fd ⟨[v],[]⟩ [("script",v)])/\∀base:Heap,K.In base->base.Ns mainGlobals mg->FnOk l.prog w K mg base CX0 36 fa fd ["script"] (spLaw K tb1):=by
 have e:=hfa.symm.trans (fc X G a27)
 cases e
 have T:Txt mg:=⟨bi X G z1,bi X G z2,bi X G z3,bi X G z4,bi X G z5,bi X G z6,bi X G z7,bi X G z8,bi X G z9,bi X G z10,bi X G z11,bi X G z12,bi X G z13,bi X G z14,bi X G z15,bi X G z16,bi X G z17,bi X G z18,bi X G z19⟩
 have F1:=kZ (st:=sGcd) l1 c1 k1
 have F2:=kZ (st:=jCR) l2 c2 k2
 have F3:=kZ (st:=jAN) l3 c3 k3
 have F4:=kZ (st:=jCQ) l4 c4 k4
 have F5:=kZ (st:=sNear) l5 c5 k5
 have F6:=kZ (st:=sGoes) l6 c6 k6
 have F7:=kZ (st:=sLed) l7 c7 k7
 have b7:Binds K _ ["columns","row"] []:=zb2 F7
 have F8:=kZ (st:=qY) l8 c8 k8
 have F9:=kZ (st:=sLnd) l9 c9 k9
 have F10:=kZ (st:=jBU) l10 c10 k10
 have F11:=kZ (st:=yT) l11 c11 k11
 have F12:=kZ (st:=sCell) l12 c12 k12
 have F13:=kZ (st:=sPot) l13 c13 k13
 have F14:=kZ (st:=sTake) l14 c14 k14
 have F15:=kZ (st:=sLot) l15 c15 k15
 have F16:=kZ (st:=sBox) l16 c16 k16
 have F17:=kZ (st:=yA) l17 c17 k17
 have F18:=kZ (st:=xB) l18 c18 k18
 have F19:=kZ (st:=jB1) l19 c19 k19
 have F20:=kZ (st:=jDG) l20 c20 k20
 have F21:=kZ (st:=yW) l21 c21 k21
 have F22:=kZ (st:=sUpto) l22 c22 k22
 have F23:=kZ (st:=qG) l23 c23 k23
 have F24:=kZ (st:=jCP) l24 c24 k24
 have F25:=kZ (st:=yP) l25 c25 k25
 have F26:=kZ (st:=jBB) l26 c26 k26
 have F27:=kZ (st:=sLaw) l27 c27 k27
 refine⟨PySem.W.fnOf "law" "law" (yX sLaw) (jE sLaw) (jB sLaw) .none kV27 dc27 pm27 an27 cd27 ct27,λs v=> .of_eq rfl,λbase KB _=>?_⟩
 have M:=λ{x:Str}{f:Addr}(a:PySem.W.nsIn K mainGlobals x=some (some (.ref f)))=>fc X G a
 have M':=λ{x:Str}{v:Value}(a:PySem.W.nsIn K mainGlobals x=some (some v))=>fc X G a
 have CD1:PySem.W.CodeHd base cc1 tb1:=jt KB hcd1
 have FC1:FunC K "led_by_one" "led_by_one" sLed f7 _ cc1:=⟨_,_,_,_,_,_,_,_,rfl,cde1 ▸ l7,cde1 ▸ c7⟩
 have BM:BltAt base mg:=⟨bmA,_,fc X G xb1,xb3,xb4,KB _ _ xb2,rfl,rfl,rfl⟩
 have SK:SeerK l.prog K mg:=⟨sk.tree,sk.st,sk.md,⟨bmA,_,fc X G xb1,xb2,rfl,rfl⟩⟩
 have C1:Can l.prog w K mg base "common_divisor" 1 f1 _ ["one","other"] spGcd:=⟨jT7 F1,M a1,k1,(zb2 F1)⟩
 have C2:Can l.prog w K mg base "musts_of" 1 f2 _ ["box"] jB0:=⟨jO5 F2 T,M a2,k2,(zb1 F2)⟩
 have C3:Can l.prog w K mg base "first_columns" 1 f3 _ ["box","musts"] jEH:=⟨jL4 F3 T,M a3,k3,(zb2 F3)⟩
 have C4:Can l.prog w K mg base "taken_off" 1 f4 _ ["column","times","other"] jDE:=⟨jO4 F4 T,M a4,k4,(zb3 F4)⟩
 have C5:Can l.prog w K mg base "nearest_times" 33 f5 _ ["entry","divisor"] jI5:=⟨jR0 F5 T SK,M a5,k5,(zb2 F5)⟩
 have C6:Can l.prog w K mg base "goes_in" 1 f6 _ ["lead","entry"] jKH:=⟨jR2 F6 T,M a6,k6,(zb2 F6)⟩
 have C7:Can l.prog w K mg base "led_by_one" 34 f7 _ ["columns","row"] (spLed tb1):=⟨jT5 FC1 T CD1 BM C4 C5,M a7,k7,b7⟩
 have C8:Can l.prog w K mg base "numbers_of_row" 33 f8 _ ["musts","row","leads"] jI4:=⟨jQZ F8 T SK C1,M a8,k8,(zb3 F8)⟩
 have C9:Can l.prog w K mg base "least_not_dividing" 1 f9 _ ["number"] spLnd:=⟨jT4 F9 T,M a9,k9,(zb1 F9)⟩
 have C10:Can l.prog w K mg base "hues_of_row" 34 f10 _ ["box","musts","row","lead","leads"] jH0:=⟨jO7 F10 T C8 C9,M a10,k10,(zb5 F10)⟩
 have C11:Can l.prog w K mg base "wholes" 35 f11 _ ["box"] (spWhl tb1):=⟨jT1 F11 ⟨T,SK,C2,C3,C7,C6,C10,C4⟩,M a11,k11,(zb1 F11)⟩
 have C12:Can l.prog w K mg base "_law_cell_at" 1 f12 _ ["script","k"] (jKI K):=⟨jR3 F12 T,M a12,k12,(zb2 F12)⟩
 have C13:Can l.prog w K mg base "_law_pot" 1 f13 _ ["cell"] spPot:=⟨jT2 F13 T,M a13,k13,(zb1 F13)⟩
 have C14:Can l.prog w K mg base "_law_take" 1 f14 _ ["pot","wide"] jS:=⟨jQY F14,M a14,k14,(zb2 F14)⟩
 have C15:Can l.prog w K mg base "_law_lot" 2 f15 _ ["pot","wide"] kT:=⟨jT3 F15 T C14,M a15,k15,(zb2 F15)⟩
 have C16:Can l.prog w K mg base "_law_box" 3 f16 _ ["pot","most_things","most_pieces"] spBox:=⟨jT8 F16 T C14 C15,M a16,k16,(zb3 F16)⟩
 have C17:Can l.prog w K mg base "_law_planted" 3 f17 _ ["pot","most_things","most_pieces"] jDF:=⟨jJI F17 T C14 C15,M a17,k17,(zb3 F17)⟩
 have C18:Can l.prog w K mg base "_law_hued" 3 f18 _ ["pot","most_things","most_pieces"] jKG:=⟨jR1 F18 T C14 C15,M a18,k18,(zb3 F18)⟩
 have C19:Can l.prog w K mg base "_law_musts" 1 f19 _ ["box"] jB0:=⟨jL3 F19 T,M a19,k19,(zb1 F19)⟩
 have C20:Can l.prog w K mg base "_law_whole" 1 f20 _ ["found"] spWh:=⟨jO2 F20 T,M a20,k20,(zb1 F20)⟩
 have C21:Can l.prog w K mg base "_law_wholes_right" 2 f21 _ ["box","thing"] spWho:=⟨jL1 F21 T C20 C19,M a21,k21,(zb2 F21)⟩
 have C22:Can l.prog w K mg base "_law_upto" 2 f22 _ ["thing","least","most"] spUp:=⟨jQX F22 T C20,M a22,k22,(zb3 F22)⟩
 have C23:Can l.prog w K mg base "_law_hues_right" 3 f23 _ ["box","thing"] jI6:=⟨jL2 F23 T C20 C22,M a23,k23,(zb2 F23)⟩
 have C24:Can l.prog w K mg base "_law_told_right" 4 f24 _ ["box","found"] jGZ:=⟨jO3 F24 T C21 C23,M a24,k24,(zb2 F24)⟩
 have C25:Can l.prog w K mg base "_law_turned" 2 f25 _ ["pot","box"] jEG:=⟨jL0 F25 T C14,M a25,k25,(zb2 F25)⟩
 have C26:Can l.prog w K mg base "_law_beside" 2 f26 _ ["one","other"] jEI:=⟨jL5 F26 T,M a26,k26,(zb2 F26)⟩
 exact jT6 F27 ⟨T,C12,C13,C14,C16,C11,C24,C17,C18,C25,C26⟩
def kSeer(P:Params):SeerF PySem.Challenge.rw_eachonce_k55_whole_kinds_of_wholes_stay.prog (kK P):=⟨rfl,⟨_,_,(by kernel_rfl:(kK P).lookup cStatics=some {cls:=.none,data:=.dict #[]}),rfl⟩,⟨_,kS P,2,(by kernel_rfl:(kK P).lookup sysModules=some ⟨.type "dict",none,.dict (kS P) 2,#[]⟩),rfl,(λe he=>by
 simp only[kS,List.mem_toArray,ay,bG,di] at he
 rcases he with rfl|rfl<;>exact⟨_,_,rfl⟩),by kernel_rfl⟩⟩
theorem walk{l:PySem.W.OpenLaw}{q:Program}{loose:List Str}{XP:(Str->Option Value)->Heap->Prop}{YP:World->Heap->Prop}{d:DefRec}{K:Params->W.Frag}(hn:l.most=some 63)(hdf:d.params.defaults=[]){tb1:Addr}{cc1:Addr}
  (hY:∀(w:World) (h:Heap),YP w h->(K w.params).In h/\∀T∈[tb1],h.get? T=some (tabObj #[])) (hcd:∀w:World,codeHdIn (K w.params) cc1 tb1=true) (hKT:∀w:World,∀T∈[tb1],(K w.params).lookup T=none) (hnd:([tb1]:List Addr).Nodup)
  (F:∀(w:World) (mg:Str->Option Value) (fa:Addr) (h:Heap),(K w.params).In h->h.Ns mainGlobals mg->mg d.name=some (.ref fa)->
   ∃fd:FuncData,(∀(s:Shared) (u:Value),BindsTo s fd ⟨[u],[]⟩ [("script",u)])/\∀base:Heap,(K w.params).In base->base.Ns mainGlobals mg->FnOk l.prog w (K w.params) mg base CX0 36 fa fd ["script"] (spLaw (K w.params) tb1)):
  PySem.W.WalkO q loose XP YP l.row.toRowW d [] (λf vs=>PySem.call f vs):=
 L2.walk_ofTs (cts:=[(cc1,tb1)]) (n:=63) (k:=36) (x:= "script") (CX:=λ_=>CX0) (sp:=λw=>spLaw (K w.params) tb1) hn (by decide) hdf ⟨rfl,by decide,by decide⟩ hY (λw p hp=>by
  obtain _h0:=hcd w
  simp only[ay,bG,di] at hp
  rcases hp with rfl<;>assumption) hKT F (λ_ H a ns hl hT hS=>⟨a,ns,rfl,hS,hl,.inl (hT _ au),λ_=>rfl⟩) λ_ _ _ _ _ z=>z
end Eo
open PySem PySem.W PyProof.Rows
set_option maxRecDepth 100000 in
set_option maxHeartbeats 0 in
theorem PySem.Challenge.cw_eachonce_k55_whole_kinds_of_wholes_stay_holds : PySem.Challenge.rw_eachonce_k55_whole_kinds_of_wholes_stay.Holds := by
 w_on
 refine holds_law (by decide+kernel) λsaid=>?_
 refine holds_open (q:=Eo.vw) (loose:=[]) (Xt:=λs=>xlAt Eo.vw [] s&&recOk (RowW.records (OpenRow.toRowW PySem.Challenge.rw_eachonce_k55_whole_kinds_of_wholes_stay.row)) s) (XP:=XL Eo.vw []) (Yf:=Hook.obs Eo.kH) (Ya:=Hook.val Eo.kH) (YP:=Hook.says Eo.kH) (N:=2100) Eo.left (Hook.of Eo.kH) (Hook.keeps Eo.kH) (λs e=>xl_of s (js.mp e).1) XL.keeps (by rfl) (by rfl) (by rfl) (λs e=>recFacts_of (js.mp e).2) rfl said (by decide+kernel) ⟨rfl,rfl,rfl,rfl,rfl,by decide+kernel⟩ ?hw ?hc
 case hw=>w_witness2
 refine Eo.walk (l:=PySem.Challenge.rw_eachonce_k55_whole_kinds_of_wholes_stay) (K:=Eo.kK) rfl rfl (tb1:=52) (cc1:=54) (λw h Y=>⟨PySem.W.km_in_of Y,PySem.W.km_tabs_of Y⟩) (λw=>by kernel_rfl) (λw T hm=>by
   simp only[ay,bG,di] at hm
   rcases hm with rfl<;>kernel_rfl) (by decide) ?F
 case F=>
  intro w mg fa h KX G hmg
  k_fill
  refine' Eo.all_mk KX G hmg _ _ _ _ _ _ _ _ _ _ _ _ _ _ _ _ _ _ _ _ _ _ _ _ _ _ _ _ _ _ _ _ _ _ _ _ _ _ _ _ _ _ _ _ _ _ _ _ _ _ _ _ _ _ _ _ _ _ _ _ _ _ _ _ _ _ _ _ _ _ _ _ _ _ _ _ _ _ _ _ _ _ _ _ _ _ _ _ _ _ _ _ _ _ _ _ _ _ _ _ _ _ _ _ _ _ _ _ _ _ _ _ _ _ _ _ _ _ _ _ _ _ _ _ _ _ _ (Eo.kSeer _) (tb1:=52) rfl (by kernel_rfl) (bmA:=4) (by kernel_rfl) (by kernel_rfl) (by decide) (by decide)
  all_goals ((try delta Eo.zN);(try delta Eo.zr);(try delta Eo.zl);(try delta Eo.zc);(try delta Eo.zk);try k_is)
end
