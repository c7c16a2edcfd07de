import PyProof.Rows.All
import KE.KDictList
import KE.KDictOf
import KE.KFromBytes
import KE.KIsAll
import KE.KItem
import KE.KLam
import KE.KNestM
import PySem.Challenge.RW_eachonce_k44_whole_never_both
noncomputable section
set_option Elab.async false
set_option linter.all false
set_option maxRecDepth 100000
def aa:=@PySem.wpAny_bind
def ac:=@List.length_map
def ae:=@PySem.Heap.get?_push_of_some
def af:=@Nat.le_refl
def ag:=@PySem.wpAny_pure
def ah:=@if_pos
def ai:=@if_neg
def aj:=@PySem.sizeLine_eq
def ak:=@PySem.Heap.get?_push_size
def am:=@PySem.Heap.lt_size
def ao:=@List.length_range
def aq:=@Nat.lt_succ_of_lt
def ar:=@decide_eq_true
def au:=@of_decide_eq_true
def av:=@Bool.false_ne_true
def aw:=@List.size_toArray
def ay:=@List.getElem?_eq_some_iff
def az:=@List.getElem?_map
def aA:=@List.mem_cons_self
def aB:=@List.mem_cons_of_mem
def aC:=@List.mem_cons
def aD:=@List.map_append
def aE:=@List.getD_eq_getElem?_getD
def aF:=@Nat.lt_succ_self
def aG:=@List.getElem?_eq_getElem
def aH:=@Nat.le_trans
def aI:=@decide_eq_false
def aJ:=@Nat.lt_of_lt_of_le
def aK:=@List.lookup_cons
def aL:=@Nat.ne_of_lt
def aM:=@List.getElem?_range
def aN:=@List.length_append
def aO:=@List.mem_of_getElem?
def aP:=@PySem.W.mg_none_of
def aQ:=@List.mem_map
def aR:=@Bool.and_eq_true
def aS:=@List.mem_append_right
def aT:=@List.take_add_one
def aU:=@List.all_eq_true
def aV:=@Int.mul_zero
def aW:=@Nat.zero_le
def aX:=@List.take_of_length_le
def aY:=@List.mem_range
def aZ:=@PySem.wpAny_setField_rec
def ba:=@Option.some.inj
def bb:=@PySem.PassesOwn.never
def bc:=@Nat.lt_irrefl
def be:=@List.mem_singleton
def bf:=@PySem.Heap.size_push
def bg:=@List.not_mem_nil
def bh:=@Array.length_toList
def bj:=@List.map_congr_left
def bm:=@Nat.not_lt_zero
def bn:=@PySem.wpAny_callSpecial?_slot
def bo:=@PySem.wpAny_call_entry
def bp:=@List.length_cons
def bq:=@PySem.F.plainAttrs_list
def br:=@Int.mul_le_mul_of_nonneg_right
def bt:=@PySem.wpAny_field
def bu:=@Nat.pow_le_pow_right
def bv:=@List.map_map
def bw:=@Nat.lt_of_le_of_lt
def bx:=@List.mem_append
def bz:=@List.length_take
def bA:=@Int.zero_add
def bB:=@Int.mul_comm
def bC:=@Int.add_zero
def bE:=@PySem.W.kia_one
def bF:=@List.take_length
def bG:=@Int.le_of_lt
def bH:=@Int.zero_mul
def bI:=@PySem.wpAny_newObj_type
def bJ:=@List.getElem?_eq_none
def bK:=@List.length_filter_le
def bL:=@PySem.F.slot_list_append
def bM:=@PySem.F.type_list_append
def bN:=@Nat.ne_of_gt
def bO:=@Int.mul_nonpos_of_nonpos_of_nonneg
def bP:=@congrArg
def bQ:=@PyProof.Rows.callWith_type1
def bR:=@Bool.true_and
def bS:=@Int.eq_zero_of_gcd_eq_zero_right
def bT:=@Nat.mul_le_mul_left
def bU:=@PySem.wpAny_loadPart'
def bV:=@Classical.byContradiction
def bW:=@List.filter_append
def bX:=@Bool.false_and
def bY:=@Int.mul_one
def bZ:=@PySem.wpAny_setState_of
def ca:=@Int.toNat_natCast
def cc:=@Bool.eq_false_iff
def ce:=@PySem.codeAny_builtin
def cf:=@List.range_succ
def cg:=@beq_eq_false_iff_ne
def ck:=@List.replicate_succ
def cm:=@List.length_take_le
def cn:=@Int.mul_lt_mul_of_pos_right
def cq:=@PySem.wpAny_holding
def cr:=@List.getElem_mem
def cw:=@PySem.wpAny_mono
def cx:=@PySem.wpAny_seqItems
def cy:=@Int.eq_of_mul_eq_mul_right
def cz:=@PySem.Heap.get?_update_self
def cA:=@PySem.wpAny_passesOwn
def cB:=@Bool.eq_iff_iff
def cC:=@List.append_nil
def cD:=@PySem.wpAny_pyIter_list
def cE:=@PySem.Around.under_plainId
def cF:=@List.map_cons
def cG:=@PySem.mem_of_lookup
def cH:=@or_false
def cI:=@Nat.mod_eq_of_lt
def cJ:=@List.filter_cons_of_pos
def cK:=@List.filter_cons_of_neg
def cL:=@PySem.sizeLine_eq
def cM:=@Int.natCast_nonneg
def cN:=@PySem.Heap.get?_update_other
def cO:=@List.nodup_cons
def cP:=@List.length_replicate
def cQ:=@List.flatten_cons
def cR:=@List.mem_append_left
def cS:=@Int.fdiv_eq_ediv_of_nonneg
def cT:=@List.getElem?_append_right
def cU:=@Array.toArray_toList
def cV:=@List.mem_of_mem_take
def cW:=@Nat.mul_le_mul
def cX:=@Nat.mul_le_mul_right
def cY:=@Int.natAbs_mul
def cZ:=@Nat.le_of_lt
def db:=@PySem.wpAny_askSetting
def dc:=@Nat.le_add_right
def de:=@List.getElem?_append_left
def df:=@List.getElem_of_mem
def dg:=@PySem.F.args_tuple_add_2
def dh:=@PySem.wpAny_attempt
def di:=@List.mem_filter
def dj:=@Ne.symm
def dk:=@List.length_set
def dn:=@PySem.wpAny_rule
def dq:=@Nat.pos_of_ne_zero
def dr:=@PySem.F.entry_tuple_add
def dw:=@Int.eq_ofNat_of_zero_le
def dy:=@PySem.wpAny_truthy_bool
def dz:=@PySem.F.slot_tuple_add
def dA:=@Bool.and_false
def dB:=@List.take_append_drop
def dC:=@Array.getElem?_toList
def dD:=@PySem.builtinLookup_eq_fast
def dE:=@PySem.wpAny_isInstance
def dF:=@List.countP_cons
def dG:=@PySem.wpAny_standAt
def dH:=@List.mem_of_mem_drop
def dI:=@PySem.wpAny_updateSeq_pair
def dJ:=@Int.mul_pos
def dL:=@Nat.pow_lt_pow_right
def dM:=@List.getElem?_of_mem
def dN:=@PySem.wpAny_execs_nil
def dO:=@List.of_mem_zip
def dP:=@Int.ediv_nonneg
def dQ:=@List.filterMap_cons
def dR:=@PySem.Heap.SameBut.update
def dS:=@PySem.codeAny_mono
def dU:=@if_true
def dW:=@Nat.mul_comm
def dX:=@Nat.lt_trans
def dY:=@Int.le_trans
def dZ:=@PySem.Calls.Name_function_global
def d8:=@PyProof.Rows.assignInOrder_cons
def d9:=@PySem.wpAny_pyIter_tuple
def ef:=@PySem.wpAny_Call_Name_kw
def eh:=@Int.natAbs_natCast
def ej:=@Int.lt_of_mul_lt_mul_right
def el:=@Int.mul_nonneg
def eB:=@Nat.mul_add_mod_self_right
def eC:=@Int.le_of_mul_le_mul_right
def eE:=@PySem.Calls.call_function_entry
def eF:=@List.getElem?_zip_eq_some
def eG:=@Int.eq_of_mul_eq_mul_left
def eH:=@Int.le_of_mul_le_mul_left
def eJ:=@Int.mul_neg_of_neg_of_pos
def eL:=@Int.lt_of_mul_lt_mul_left
def eM:=@PySem.wpAny_assign_Name
def eN:=@List.any_eq_false
def eQ:=@List.take_sublist
def eR:=@List.append_assoc
def eS:=@Option.some.injEq
def eU:=@PySem.Heap.SameBut.refl
def eV:=@List.ext_getElem?
def eW:=@Int.le_refl
def eX:=@List.pairwise_map
def eY:=@Bool.not_eq_true'
def eZ:=@List.all_cons
def e8:=@PySem.W.mg_of
def e9:=@PySem.wpAny_comprehension_free
def fb:=@PySem.plainId_quiet
def fe:=@PyProof.noPylong_of_log2
def ff:=@PySem.wpAny_onRaise
def fg:=@PySem.noFill_tuple_add
def fh:=@List.length_drop
def fi:=@beq_self_eq_true
def fm:=@List.length_eq_zero_iff
def fo:=@PySem.F.plain_list_iadd
def fq:=@List.any_eq_true
def ft:=@Classical.axiomOfChoice
def fu:=@List.getElem?_set_self
def fw:=@PySem.wpAny_load
def fz:=@PySem.W.cellsFrom_some
def fH:=@PySem.call_meets
def fJ:=@List.pairwise_lt_range
def fK:=@Nat.gcd_comm
def fN:=@List.any_map
def fO:=@List.forIn_cons
def fQ:=@PySem.typeLookup_type
def fU:=@PySem.pushCells_keeps
def fX:=@List.sum_append
def fY:=@Int.natCast_add
def fZ:=@List.length_zip
def ga:=@PySem.F.slot_set_iter
def gb:=@List.countP_le_length
def gc:=@List.getElem?_set_ne
def gd:=@List.pairwise_append
def ge:=@Nat.le_succ
def gf:=@PySem.wpAny_runValue
def gg:=@PySem.isSubtype_type
def gh:=@PySem.isSubtype_stop
def gk:=@List.range_eq_range'
def gn:=@List.forIn_nil
def gq:=@PySem.wpAny_letGo
def gr:=@Int.mul_ediv_cancel'
def gt:=@Int.one_mul
def gw:=@Bool.and_eq_true_iff
def gx:=@Nat.pow_le_pow_left
def gy:=@List.countP_pos_iff
def gz:=@List.countP_eq_zero
def gA:=@Bool.not_true
def gB:=@List.map_take
def gC:=@List.mem_filterMap
def gE:=@List.pairwise_cons
def gF:=@Nat.mod_lt
def gG:=@PySem.Walks.list
def gH:=@Array.append_empty
def gI:=@Int.emod_lt_of_pos
def gJ:=@decide_eq_true_iff
def gK:=@Nat.gcd_zero_right
def gL:=@List.countP_append
def gM:=@List.zip_cons_cons
def gN:=@Nat.succ_mul
def gO:=@Nat.add_comm
def gP:=@Nat.succ_pos
def gQ:=@Nat.log2_lt
def gR:=@Nat.mul_add
def gS:=@Nat.pow_add
def gT:=@not_or
open PySem.W (findIn instObj kHook kIn_of keepIn kitOne kitx_dict kitx_list lookIn methodObj mg_of mroIn plainGet)
open List (all_map map_id map_set range' replicate)
open Option (getD_none)
section
namespace L2
open PySem PySem.Spec PyProof.Rows
def jR (s:Stmt):Arguments:=match s with
 | .FunctionDef _ a _ _ _ _ _ _ _ _=>a
 | _=> { posonlyargs:=[],args:=[],vararg:=none,kwonlyargs:=[],kw_defaults:=[],kwarg:=none,defaults:=[]}
def jB (s:Stmt):List Stmt:=match s with
 | .FunctionDef _ _ b _ _ _ _ _ _ _=>b
 | _=> []
def j8 (s:Stmt):Scope:=match s with
 | .FunctionDef _ _ _ _ _ _ sc _ _ _=>sc
 | _=> { kind:= .function,names:=[],isGenerator:=false,isCoroutine:=false}
end L2
end
section
namespace Eo
open PySem L2
noncomputable def top (i:Nat):Stmt:=PySem.Challenge.pw_eachonce_k44_whole_never_both.main.body.getD i (.Pass ⟨0,0,0,0⟩)
abbrev jAI:Stmt:=top 1
abbrev sGcd:Stmt:=top 2
abbrev sIsFr:Stmt:=top 3
abbrev sFrOf:Stmt:=top 4
abbrev jAZ:Stmt:=top 5
abbrev jB1:Stmt:=top 7
abbrev sAre:Stmt:=top 9
abbrev sSpk:Stmt:=top 10
abbrev yV:Stmt:=top 11
abbrev sColT:Stmt:=top 12
abbrev qH:Stmt:=top 13
abbrev yR:Stmt:=top 14
abbrev sBal:Stmt:=top 15
abbrev yO:Stmt:=top 16
abbrev sCell:Stmt:=top 18
abbrev sPot:Stmt:=top 19
abbrev sTake:Stmt:=top 20
abbrev sLot:Stmt:=top 21
abbrev sBox:Stmt:=top 22
abbrev qF:Stmt:=top 23
abbrev qM:Stmt:=top 24
abbrev jB2:Stmt:=top 25
abbrev sDiv:Stmt:=top 26
abbrev jB0:Stmt:=top 27
abbrev qI:Stmt:=top 28
abbrev sVec:Stmt:=top 29
abbrev sLaw:Stmt:=top 30
noncomputable def kC (x:Str)(t:Nat)(l n:Int)(a:Nat)(X Y:Value)(z:Nat)(u:Int)(v:Nat):Obj:=⟨.type "code",none, .fields #[.str x t, .str x (t+1), .str "/claim/cut.py" (t+2), .int l 0, .int n 0, .int 0 0, .int 0 0, .int 3 0, .ref a, .bool true, .int 181 0, .ref (a+1), .none,X,Y, .ref z, .int u 0, .int l 0, .str "/claim/cut.py" v],#[]⟩
noncomputable def kF (x:Str)(s:Stmt)(m:Str)(t c:Nat):Obj:=⟨.type "function",none, .func (PySem.W.fnOf x x (jR s) (jB s) (j8 s) .none .none .none (.str m t) none (.ref c) .none),#[]⟩
noncomputable def kM (P:Params):Obj:=
 let e (x:Str) (t:Nat) (v:Value):DictEntry:=⟨PyData.keyHash P x, .str x t,v⟩
 ⟨.type "dict",none, .dict #[e "__name__" 165 (.str "law_eachonce_k44_whole_never_both" 299),e "__doc__" 166 (.none),e "__package__" 167 (.none),e "__loader__" 168 (.builtin "__main__.__loader__#opaque"),e "__spec__" 169 (.none),e "__annotations__" 170 (.ref 6),e "__builtins__" 171 (.ref 4),e "__file__" 173 (.str "/claim/cut.py" 172),e "__cached__" 174 (.none),e "is_whole" 195 (.ref 21),e "common_divisor" 204 (.ref 28),e "is_fraction" 211 (.ref 35),e "fraction_of" 220 (.ref 42),e "sum_of" 230 (.ref 49),e "musts_of" 238 (.ref 54),e "are_shares" 246 (.ref 59),e "speaks_against" 252 (.ref 64),e "first_table" 258 (.ref 69),e "column_to_take" 267 (.ref 76),e "row_to_give" 280 (.ref 83),e "turned" 286 (.ref 88),e "balanced" 292 (.ref 93),e "shares" 298 (.ref 98),e "_law_cell_at" 308 (.ref 105),e "_law_pot" 318 (.ref 112),e "_law_take" 327 (.ref 119),e "_law_lot" 333 (.ref 124),e "_law_box" 339 (.ref 129),e "_law_from" 345 (.ref 134),e "_law_coverings" 351 (.ref 139),e "_law_drawn" 362 (.ref 146),e "_law_divisor" 370 (.ref 153),e "_law_ratio" 379 (.ref 160),e "_law_mean" 385 (.ref 165),e "_law_vector" 391 (.ref 170),e "law" 397 (.ref 175)] 36,#[]⟩
noncomputable def kK (P:Params):W.Frag:=(nat_lit 3,kM P)::(nat_lit 20,kC "is_whole" 189 2 1 15 (.ref 17) (.ref 18) 19 193 194)::(nat_lit 21,kF "is_whole" jAI "eachonce.kinds" 187 20)::(nat_lit 27,kC "common_divisor" 196 4 2 22 (.ref 24) (.ref 25) 26 202 203)::(nat_lit 28,kF "common_divisor" sGcd "eachonce.kinds" 187 27)::(nat_lit 34,kC "is_fraction" 205 10 1 29 (.ref 31) (.ref 32) 33 209 210)::(nat_lit 35,kF "is_fraction" sIsFr "eachonce.kinds" 187 34)::(nat_lit 41,kC "fraction_of" 212 16 2 36 (.ref 38) (.ref 39) 40 218 219)::(nat_lit 42,kF "fraction_of" sFrOf "eachonce.kinds" 187 41)::(nat_lit 48,kC "sum_of" 221 19 1 43 (.ref 45) (.ref 46) 47 228 229)::(nat_lit 49,kF "sum_of" jAZ "eachonce.kinds" 187 48)::(nat_lit 53,kC "musts_of" 233 27 1 50 (.none) (.none) 52 236 237)::(nat_lit 54,kF "musts_of" jB1 "eachonce.boxes" 231 53)::(nat_lit 58,kC "are_shares" 241 31 2 55 (.none) (.none) 57 244 245)::(nat_lit 59,kF "are_shares" sAre "eachonce.shares" 239 58)::(nat_lit 63,kC "speaks_against" 247 41 2 60 (.none) (.none) 62 250 251)::(nat_lit 64,kF "speaks_against" sSpk "eachonce.shares" 239 63)::(nat_lit 68,kC "first_table" 253 47 2 65 (.none) (.none) 67 256 257)::(nat_lit 69,kF "first_table" yV "eachonce.shares" 239 68)::(nat_lit 75,kC "column_to_take" 259 56 1 70 (.ref 72) (.ref 73) 74 265 266)::(nat_lit 76,kF "column_to_take" sColT "eachonce.shares" 239 75)::(nat_lit 82,kC "row_to_give" 268 61 3 77 (.ref 79) (.ref 80) 81 278 279)::(nat_lit 83,kF "row_to_give" qH "eachonce.shares" 239 82)::(nat_lit 87,kC "turned" 281 72 4 84 (.none) (.none) 86 284 285)::(nat_lit 88,kF "turned" yR "eachonce.shares" 239 87)::(nat_lit 92,kC "balanced" 287 82 2 89 (.none) (.none) 91 290 291)::(nat_lit 93,kF "balanced" sBal "eachonce.shares" 239 92)::(nat_lit 97,kC "shares" 293 98 1 94 (.none) (.none) 96 296 297)::(nat_lit 98,kF "shares" yO "eachonce.shares" 239 97)::(nat_lit 104,kC "_law_cell_at" 301 105 2 99 (.ref 101) (.ref 102) 103 306 307)::(nat_lit 105,kF "_law_cell_at" sCell "law_eachonce_k44_whole_never_both" 299 104)::(nat_lit 111,kC "_law_pot" 309 109 1 106 (.ref 108) (.ref 109) 110 316 317)::(nat_lit 112,kF "_law_pot" sPot "law_eachonce_k44_whole_never_both" 299 111)::(nat_lit 118,kC "_law_take" 319 118 2 113 (.ref 115) (.ref 116) 117 325 326)::(nat_lit 119,kF "_law_take" sTake "law_eachonce_k44_whole_never_both" 299 118)::(nat_lit 123,kC "_law_lot" 328 122 2 120 (.none) (.none) 122 331 332)::(nat_lit 124,kF "_law_lot" sLot "law_eachonce_k44_whole_never_both" 299 123)::(nat_lit 128,kC "_law_box" 334 131 3 125 (.none) (.none) 127 337 338)::(nat_lit 129,kF "_law_box" sBox "law_eachonce_k44_whole_never_both" 299 128)::(nat_lit 133,kC "_law_from" 340 149 3 130 (.none) (.none) 132 343 344)::(nat_lit 134,kF "_law_from" qF "law_eachonce_k44_whole_never_both" 299 133)::(nat_lit 138,kC "_law_coverings" 346 162 1 135 (.none) (.none) 137 349 350)::(nat_lit 139,kF "_law_coverings" qM "law_eachonce_k44_whole_never_both" 299 138)::(nat_lit 145,kC "_law_drawn" 352 164 4 140 (.ref 142) (.ref 143) 144 360 361)::(nat_lit 146,kF "_law_drawn" jB2 "law_eachonce_k44_whole_never_both" 299 145)::(nat_lit 152,kC "_law_divisor" 363 169 2 147 (.ref 149) (.ref 150) 151 368 369)::(nat_lit 153,kF "_law_divisor" sDiv "law_eachonce_k44_whole_never_both" 299 152)::(nat_lit 159,kC "_law_ratio" 371 175 2 154 (.ref 156) (.ref 157) 158 377 378)::(nat_lit 160,kF "_law_ratio" jB0 "law_eachonce_k44_whole_never_both" 299 159)::(nat_lit 164,kC "_law_mean" 380 178 3 161 (.none) (.none) 163 383 384)::(nat_lit 165,kF "_law_mean" qI "law_eachonce_k44_whole_never_both" 299 164)::(nat_lit 169,kC "_law_vector" 386 187 2 166 (.none) (.none) 168 389 390)::(nat_lit 170,kF "_law_vector" sVec "law_eachonce_k44_whole_never_both" 299 169)::(nat_lit 174,kC "law" 392 201 1 171 (.none) (.none) 173 395 396)::(nat_lit 175,kF "law" sLaw "law_eachonce_k44_whole_never_both" 299 174)::[]
noncomputable def kA:List Addr:=[3,20,21,27,28,34,35,41,42,48,49,53,54,58,59,63,64,68,69,75,76,82,83,87,88,92,93,97,98,104,105,111,112,118,119,123,124,128,129,133,134,138,139,145,146,152,153,159,160,164,165,169,170,174,175]
noncomputable def vw:Program:= { PySem.Challenge.pw_eachonce_k44_whole_never_both with main:= { PySem.Challenge.pw_eachonce_k44_whole_never_both.main with body:=[top 1,top 2,top 3,top 4,top 5,top 7,top 9,top 10,top 11,top 12,top 13,top 14,top 15,top 16,top 18,top 19,top 20,top 21,top 22,top 23,top 24,top 25,top 26,top 27,top 28,top 29,top 30]}}
theorem kA_eq:∀ P,kA=(kK P).map (·.1):=fun _=>by kernel_rfl
noncomputable abbrev kH:PySem.W.Hook:=kHook kK kA kA_eq
set_option maxHeartbeats 0 in
theorem left:PySem.W.LeftO PySem.Challenge.rw_eachonce_k44_whole_never_both.prog vw [] (fun s=>PySem.W.xlAt vw [] s&&PySem.W.recOk (PySem.W.RowW.records (PySem.W.OpenRow.toRowW PySem.Challenge.rw_eachonce_k44_whole_never_both.row)) s) (PySem.W.Hook.obs kH) (PySem.W.Hook.val kH) 6900:=fun w=>by kernel_rfl
end Eo
end
section
namespace L2
open PySem PySem.Spec PyProof.Rows
abbrev Key:=Sum Int Str
def keyIs:Key->Value->Bool
 | .inl k,v=>Value.isInt k v
 | .inr x,v=>Value.isStrOf x v
def keyH (w:World):Key->Int
 | .inl k=>hashInt k
 | .inr x=>hashStr w x
theorem jA0:∀ {k:Key}{v:Value},keyIs k v=true->(∃ i t,k=Sum.inl i/\v=Value.int i t)\/(∃ x t,k=Sum.inr x/\v=Value.str x t)
 | .inl i,v,h=>by
  obtain⟨t,e⟩:=Value.isInt_shape (k:=i) (v:=v) h
  exact .inl ⟨i,t,rfl,e⟩
 | .inr x,v,h=>by
  obtain⟨t,e⟩:=Value.isStrOf_shape (x:=x) (v:=v) h
  exact .inr ⟨x,t,rfl,e⟩
theorem jQA (a b:Int):decide ((Sum.inl a:Key)=Sum.inl b)=(a==b):=by
 by_cases e:a=b
 ·subst e; simp
 ·have h:¬ (Sum.inl a:Key)=Sum.inl b:=fun q=>e (Sum.inl.inj q)
  rw[aI h]
  exact(cg.mpr e).symm
theorem jQ7 (a b:Str):decide ((Sum.inr a:Key)=Sum.inr b)=decide (a=b):=by
 by_cases e:a=b
 ·subst e; simp
 ·have h:¬ (Sum.inr a:Key)=Sum.inr b:=fun q=>e (Sum.inr.inj q)
  rw[aI h,aI e]
theorem jQ9 (a:Int)(b:Str):decide ((Sum.inl a:Key)=Sum.inr b)=false:=aI (fun q=>nomatch q)
theorem jQ8 (a:Str)(b:Int):decide ((Sum.inr a:Key)=Sum.inl b)=false:=aI (fun q=>nomatch q)
def jJI (prog:Program)(w:World):PySem.KeyKind prog w Key where
 is:=keyIs
 hash:=keyH w
 inj:=fun v a b ha hb=>by
  rcases jA0 ha with ⟨i,t,rfl,rfl⟩ | ⟨x,t,rfl,rfl⟩
  ·rcases jA0 hb with ⟨j,u,rfl,e⟩ | ⟨y,u,rfl,e⟩
   ·injection e with e1 _; rw[e1]
   ·exact nomatch e
  ·rcases jA0 hb with ⟨j,u,rfl,e⟩ | ⟨y,u,rfl,e⟩
   ·exact nomatch e
   ·injection e with e1 _; rw[e1]
 byValue:=fun k v h=>by
  rcases jA0 h with ⟨i,t,rfl,rfl⟩ | ⟨x,t,rfl,rfl⟩ <;> rfl
 pyHash:=fun hv h=>by
  rcases jA0 hv with ⟨i,t,rfl,rfl⟩ | ⟨x,t,rfl,rfl⟩
  ·exact wpAny_pyHash_int h
  ·exact wpAny_pyHash_str h
 eqBool:=fun hu hv h=>by
  rcases jA0 hu with ⟨i,t,rfl,rfl⟩ | ⟨x,t,rfl,rfl⟩
  ·rcases jA0 hv with ⟨j,u,rfl,rfl⟩ | ⟨y,u,rfl,rfl⟩
   ·rw[jQA] at h; exact wpAny_eqBool_int h
   ·rw[jQ9] at h; exact SeqAt.EqAt.int_str i t y u _ _ _ _ h
  ·rcases jA0 hv with ⟨j,u,rfl,rfl⟩ | ⟨y,u,rfl,rfl⟩
   ·rw[jQ8] at h; exact SeqAt.EqAt.str_int x t j u _ _ _ _ h
   ·rw[jQ7] at h; exact wpAny_eqBool_str h
 «strs»:=fun k x t v h=>by
  rcases jA0 h with ⟨i,u,rfl,e⟩ | ⟨y,u,rfl,e⟩
  ·exact nomatch e
  ·injection e with e1 _
   subst e1
   cases v <;> rfl
end L2
namespace L2
open PySem PySem.Spec PyProof.Rows
inductive V where
 | non | bl (b:Bool) | int (i:Int) | str (x:Str) | byt (b:Array UInt8) | flt (b:UInt64) | ref (a:Addr) | ty (n:String)
 deriving DecidableEq
def RelV:V->Value->Prop
 | .non,u=>u=Value.none
 | .bl b,u=>u=Value.bool b
 | .int i,u=>∃ t,u=Value.int i t
 | .str x,u=>∃ t,u=Value.str x t
 | .byt b,u=>∃ t,u=Value.bytes b t
 | .flt b,u=>∃ t,u=Value.float b t
 | .ref a,u=>u=Value.ref a
 | .ty n,u=>u=Value.type n
abbrev Vals:List V->List Value->Prop:=Paired RelV
theorem Vals.length {xs:List V}{us:List Value}(r:Vals xs us):xs.length=us.length:=Paired.length r
theorem Vals.get:∀ {xs:List V}{us:List Value}{i:Nat}{x:V},Vals xs us->xs[i]?=some x->∃ u,us[i]?=some u/\RelV x u
 | _,_,_,_, .nil,e=>by simp at e
 | _,_,0,_, .cons r _,e=>by simp at e; subst e; exact⟨_,rfl,r⟩
 | _,_,i+1,x, .cons _ t,e=>by
  obtain⟨u,h1,h2⟩:=Vals.get (i:=i) (x:=x) t (by simpa using e)
  exact⟨u,by simpa using h1,h2⟩
theorem Vals.set {x:V}{u:Value}(r:RelV x u):∀ {xs:List V}{us:List Value}(i:Nat),Vals xs us->Vals (xs.set i x) (us.set i u)
 | _,_,_, .nil=> .nil
 | _,_,0, .cons _ t=> .cons r t
 | _,_,i+1, .cons q t=> .cons q (Vals.set r i t)
theorem Vals.append:∀ {xs ys:List V}{us ws:List Value},Vals xs us->Vals ys ws->Vals (xs++ys) (us++ws)
 | _,_,_,_, .nil,s=>s
 | _,_,_,_, .cons r t,s=> .cons r (Vals.append t s)
theorem Vals.take:∀ {xs:List V}{us:List Value}(n:Nat),Vals xs us->Vals (xs.take n) (us.take n)
 | _,_,0,_=> .nil
 | _,_,_+1, .nil=> .nil
 | _,_,n+1, .cons r t=> .cons r (Vals.take n t)
theorem Vals.drop:∀ {xs:List V}{us:List Value}(n:Nat),Vals xs us->Vals (xs.drop n) (us.drop n)
 | _,_,0,r=>r
 | _,_,_+1, .nil=> .nil
 | _,_,n+1, .cons _ t=>Vals.drop n t
def RelO:Option V->Option Value->Prop
 | some v,some u=>RelV v u
 | none,none=>True
 | _,_=>False
def KV {κ:Type} :List (κ×V)->List (κ×Value)->Prop:=Paired fun (p:κ×V) (q:κ×Value)=>p.1=q.1/\RelV p.2 q.2
noncomputable def kV:Key->V
 | .inl i=> .int i
 | .inr x=> .str x
def TupO (h:Heap)(a:Addr)(items:Array Value):Prop:=∃ n,h.get? a=some { cls:= .type "tuple",data:= .seq items n}
theorem TupO.isTup {h:Heap}{a:Addr}{items:Array Value}(x:TupO h a items):IsTup h a items:=let ⟨n,e⟩:=x; ⟨_,e,rfl,n,rfl⟩
theorem TupO.new (h:Heap)(items:Array Value):TupO (h.push { cls:= .type "tuple",data:= .seq items}) h.objs.size items:=⟨0,ak _ rfl⟩
inductive HO where
  | lst (xs:List V)
  | tup (xs:List V)
  | dK (kvs:List (Key×V)) | dT (kvs:List (List Key×V))
  | set (S:Int->Bool) (n:Nat)
  | ins (C dx:Addr) (fs:List (Str×V))
  | own (x:Addr)
  | xd (fs:List (Str×V))
  | met (f x:Addr)
  | rng (lo hi:Int)
  | frz (o:Obj) (u:HO)
  | tbl (ps:Array Value)
  | ext (φ:Heap->Prop)
abbrev Hp:=Addr->Option HO
def upd (H:Hp)(a:Addr)(o:HO):Hp:=fun b=>if b=a then some o else H b
theorem j4 {H:Hp}{a:Addr}{o:HO} :upd H a o a=some o:=by unfold upd; rw[ah rfl]
theorem j9 {H:Hp}{a b:Addr}{o:HO}(h:b≠a):upd H a o b=H b:=by unfold upd; rw[ai h]
theorem ne_of {H:Hp}{a b:Addr}{o u:HO}(h:H a=some o)(h':H b=some u)(d:o≠u):a≠b:=by
 intro e; subst e; rw[h] at h'; exact d (ba h')
theorem jA {H:Hp}{a b:Addr}{o:HO}(h:H a=some o)(h':H b=none):a≠b:=by
 intro e; subst e; rw[h] at h'; cases h'
section
variable (P:Program)(w:World)
def ObjOk (H:Hp)(h:Heap)(a:Addr):HO->Prop
 | .lst xs=>xs.length<=sizeLine/\∃ (its:List Value) (n:Nat),Vals xs its/\h.get? a=some { cls:= .type "list",data:= .seq its.toArray n}
 | .tup xs=>xs.length<=sizeLine/\∃ its:List Value,Vals xs its/\TupO h a its.toArray
 | .dK kvs=>kvs.length<=sizeLine/\(a==sysModules)=false/\∃ vs,KV kvs vs/\h.DictOf (jJI P w) a vs
 | .dT kvs=>kvs.length<=sizeLine/\(a==sysModules)=false/\∃ xs:List (List Key×Addr×Value),
   Paired (fun (p:List Key×V) (q:List Key×Addr×Value)=>p.1=q.1/\H q.2.1=some (.tup (p.1.map kV))/\RelV p.2 q.2.2) kvs xs/\
   ∃ o es ep,h.get? a=some o/\o.ExactDict/\o.data= .dict es ep/\es.toList=xs.map (entryOfKey (tupleKind (jJI P w)))/\(xs.map (·.1)).Nodup
 | .set S n=>h.SetOf (intKind P w) a S n
 | .ins C dx fs=>H dx=some (.own a)/\fs.length<=1000/\dx≠a/\h.get? a=some (instObj C dx)/\
   ∃ mA,h.Ns1 dx mA/\(∀ f,RelO (fs.lookup f) (mA f))/\PySem.Within mA (fs.map (·.1))
 | .own _=>∃ o,h.get? a=some o
 | .xd fs=>∃ mA,h.Ns1 a mA/\∀ f,RelO (fs.lookup f) (mA f)
 | .rng lo hi=>∃ t u v,h.get? a=some { cls:= .type "range",data:= .fields #[.int lo t, .int hi u, .int 1 v]}
 | .frz o u=>h.get? a=some o/\ObjOk H h a u
 | .tbl ps=>h.get? a=some { cls:= .none,data:= .fields ps}
 | .met f x=>h.get? a=some (methodObj (.ref f) (.ref x))
 | .ext φ=>φ h/\(∃ o,h.get? a=some o)/\∀ h1 h2:Heap,φ h1->(∀ o,h1.get? a=some o->h2.get? a=some o)->φ h2
def HOk (H:Hp)(h:Heap):Prop:=∀ a o,H a=some o->ObjOk P w H h a o
end
section
variable {P:Program}{w:World}{H H':Hp}{h h':Heap}{a:Addr}{o:HO}
theorem ObjOk.lt (x:ObjOk P w H h a o):a<h.objs.size:=by
 cases o with
 | lst xs=>obtain⟨_,_,_,_,e⟩:=x; exact am e
 | tup xs=>obtain⟨_,_,_,_,e⟩:=x; exact am e
 | dK kvs=>obtain⟨_,_,_,_,o,_,_,e,_⟩:=x; exact am e
 | dT kvs=>obtain⟨_,_,_,_,o,_,_,e,_⟩:=x; exact am e
 | set S n=>obtain⟨o,_,_,_,e,_⟩:=x; exact am e
 | ins C dx fs=>obtain⟨_,_,_,e,_⟩:=x; exact am e
 | own y=>obtain⟨_,e⟩:=x; exact am e
 | xd fs=>obtain⟨_,⟨_,_,_,e,_⟩,_⟩:=x; exact am e
 | rng lo hi=>obtain⟨_,_,_,e⟩:=x; exact am e
 | frz ob u=>obtain⟨e,_⟩:=x; exact am e
 | tbl ps=>exact am (show h.get? a=some _ from x)
 | met f y=>exact am (show h.get? a=some _ from x)
 | ext φ=>obtain⟨_,⟨_,e⟩,_⟩:=x; exact am e
theorem Paired.mapP {α β:Type}{F G:α->β->Prop} :∀ {l₁:List α}{l₂:List β},Paired F l₁ l₂->(∀ a b,F a b->G a b)->Paired G l₁ l₂
 | _,_, .nil,_=> .nil
 | _,_, .cons r t,f=> .cons (f _ _ r) (Paired.mapP t f)
theorem ObjOk.stay (x:ObjOk P w H h a o)(k:∀ b u,(b=a\/H b=some (.own a))->h.get? b=some u->h'.get? b=some u)
  (ho:∀ b,H b=some (.own a)->H' b=some (.own a)) (ht:∀ b xs,H b=some (.tup xs)->H' b=some (.tup xs)):ObjOk P w H' h' a o:=by
 induction o with
 | lst xs=>obtain⟨z,its,n,r,e⟩:=x; exact⟨z,its,n,r,k _ _ (.inl rfl) e⟩
 | tup xs=>obtain⟨z,its,r,n,e⟩:=x; exact⟨z,its,r,n,k _ _ (.inl rfl) e⟩
 | dK kvs=>obtain⟨z,y,vs,r,ob,es,ep,e,c⟩:=x; exact⟨z,y,vs,r,ob,es,ep,k _ _ (.inl rfl) e,c⟩
 | dT kvs=>
  obtain⟨z,y,xs,r,ob,es,ep,e,c⟩:=x
  exact⟨z,y,xs,Paired.mapP r fun p q z=>⟨z.1,ht _ _ z.2.1,z.2.2⟩,ob,es,ep,k _ _ (.inl rfl) e,c⟩
 | set S n=>obtain⟨ob,es,ep,t,e,c⟩:=x; exact⟨ob,es,ep,t,k _ _ (.inl rfl) e,c⟩
 | ins C dx fs=>
  obtain⟨d,z,ne,e,mA,⟨od,es,ep,e2,c⟩,r⟩:=x
  exact⟨ho _ d,z,ne,k _ _ (.inl rfl) e,mA,⟨od,es,ep,k _ _ (.inr d) e2,c⟩,r⟩
 | own y=>obtain⟨ob,e⟩:=x; exact⟨ob,k _ _ (.inl rfl) e⟩
 | xd fs=>obtain⟨mA,⟨od,es,ep,e,c⟩,r⟩:=x; exact⟨mA,⟨od,es,ep,k _ _ (.inl rfl) e,c⟩,r⟩
 | rng lo hi=>obtain⟨t,u,v,e⟩:=x; exact⟨t,u,v,k _ _ (.inl rfl) e⟩
 | frz ob u ih=>obtain⟨e,q⟩:=x; exact⟨k _ _ (.inl rfl) e,ih q⟩
 | tbl ps=>
  have e:h.get? a=some { cls:= .none,data:= .fields ps} :=x
  show h'.get? a=some { cls:= .none,data:= .fields ps}
  exact k a _ (.inl rfl) e
 | met f y=>
  have e:h.get? a=some (methodObj (.ref f) (.ref y)):=x
  show h'.get? a=some (methodObj (.ref f) (.ref y))
  exact k a _ (.inl rfl) e
 | ext φ=>obtain⟨p,⟨o,e⟩,st⟩:=x; exact⟨st _ _ p fun o q=>k _ _ (.inl rfl) q,⟨o,k _ _ (.inl rfl) e⟩,st⟩
theorem HOk.lt (x:HOk P w H h)(e:H a=some o):a<h.objs.size:=(x a o e).lt
theorem HOk.fresh (x:HOk P w H h)(e:h.objs.size<=a):H a=none:=by
 cases q:H a with
 | none=>rfl
 | some u=>exact absurd (aJ (x.lt q) e) (bc _)
theorem HOk.kept (x:HOk P w H h)(k:∀ b u,h.get? b=some u->h'.get? b=some u):HOk P w H h':=fun a o e=>
 (x a o e).stay (fun b u _ q=>k b u q) (fun _ q=>q) fun _ _ q=>q
theorem HOk.laid (x:HOk P w H h)(k:∀ b u,h.get? b=some u->h'.get? b=some u)(hp:h.objs.size<=a)(new:ObjOk P w (upd H a o) h' a o):HOk P w (upd H a o) h':=fun b u e=>by
 have hn:=x.fresh hp
 by_cases hb:b=a
 ·subst hb; rw[j4] at e; cases e; exact new
 ·rw[j9 hb] at e
  exact(x b u e).stay (fun c v _ q=>k c v q) (fun c q=>by rw[j9 (jA q hn)]; exact q) fun c xs q=>by rw[j9 (jA q hn)]; exact q
end
def Rd (H:Hp)(a:Addr)(u:HO):Prop:=H a=some u\/∃ o,H a=some (.frz o u)
theorem Rd.ok {P:Program}{w:World}{H:Hp}{h:Heap}{a:Addr}{u:HO}(r:Rd H a u)(x:HOk P w H h):ObjOk P w H h a u:=by
 rcases r with r | ⟨o,r⟩
 ·exact x a u r
 ·obtain⟨_,q⟩:=x a _ r
  exact q
def Mut:Option HO->Prop
 | some (.lst _)=>True
 | some (.dK _)=>True
 | some (.dT _)=>True
 | some (.set _ _)=>True
 | some (.ins _ _ _)=>True
 | some (.ext _)=>True
 | _=>False
section
variable {P:Program}{w:World}{H:Hp}{h h':Heap}{x e:Addr}{o':HO}
theorem HOk.write (ok:HOk P w H h)(mu:Mut (H x))(he:e=x\/H e=some (.own x))(k:∀ b u,b≠e->h.get? b=some u->h'.get? b=some u)(heo:∃ u,h'.get? e=some u)
  (new:ObjOk P w (upd H x o') h' x o'):HOk P w (upd H x o') h':=fun b u q=>by
 have nown:∀ c y,H c=some (.own y)->c≠x:=fun c y r z=>by subst z; rw[r] at mu; exact mu
 have ntup:∀ c xs,H c=some (.tup xs)->c≠x:=fun c xs r z=>by subst z; rw[r] at mu; exact mu
 by_cases hb:b=x
 ·subst hb; rw[j4] at q; cases q; exact new
 ·rw[j9 hb] at q
  by_cases hbe:b=e
  ·have q':H b=some (.own x):=by
    rcases he with z | z
    ·exact absurd (hbe.trans z) hb
    ·rw[hbe]; exact z
   rw[q] at q'; cases q'
   obtain⟨v,hv⟩:=heo
   exact⟨v,by rw[hbe]; exact hv⟩
  ·refine(ok b u q).stay (fun c v hc r=>k c v ?_ r) (fun c r=>by rw[j9 (nown c b r)]; exact r) fun c xs r=>by rw[j9 (ntup c xs r)]; exact r
   rcases hc with rfl | hc
   ·exact hbe
   ·rintro rfl
    rcases he with z | z
    ·exact nown c b hc z
    ·rw[hc] at z; cases z; exact hb rfl
end
structure Un (fs ex:List Addr)(H H':Hp)(h h':Heap):Prop where
 keep:∀ b o,h.get? b=some o->H b=none->b∉fs->b∉ex->h'.get? b=some o
 slot:∀ b o,h.get? b=some o->H b=none->b∈fs->b∉ex->∃ sl,h'.get? b=some { o with slots:=sl}
 free:∀ b o,h.get? b=some o->H b=none->b∉ex->H' b=none
 there:∀ b o,h.get? b=some o->b∉ex->∃ o',h'.get? b=some o'
 tups:∀ b xs,H b=some (.tup xs)->H' b=some (.tup xs)
 frzs:∀ b o u,H b=some (.frz o u)->H' b=some (.frz o u)
 tbls:∀ b ps,H b=some (.tbl ps)->∃ more,H' b=some (.tbl (ps++more))
section
variable {fs fs' ex ex':List Addr}{H H1 H2:Hp}{h h1 h2 h':Heap}{a x e:Addr}{o:HO}
theorem Un.any (u:Un fs ex H H1 h h1){b:Addr}{ob:Obj}(q:h.get? b=some ob)(n:H b=none)(hx:b∉ex):∃ sl,h1.get? b=some { ob with slots:=sl} :=by
 by_cases hb:b∈fs
 ·exact u.slot b ob q n hb hx
 ·exact⟨ob.slots,u.keep b ob q n hb hx⟩
theorem Un.kept (k:∀ b u,h.get? b=some u->h'.get? b=some u):Un fs ex H H h h':=
 ⟨fun b ob q _ _ _=>k b ob q,fun b ob q _ _ _=>⟨ob.slots,k b ob q⟩,fun _ _ _ n _=>n,fun b ob q _=>⟨ob,k b ob q⟩,fun _ _ q=>q,fun _ _ _ q=>q,fun _ ps q=>⟨#[],by rw[q]; simp⟩⟩
theorem Un.refl:Un fs ex H H h h:=Un.kept fun _ _ q=>q
theorem Un.laid (k:∀ b u,h.get? b=some u->h'.get? b=some u)(hp:h.objs.size<=a)(hn:H a=none):Un fs ex H (upd H a o) h h' where
 keep:=fun b u q _ _ _=>k b u q
 slot:=fun b u q _ _ _=>⟨u.slots,k b u q⟩
 free:=fun b u q n _=>by rw[j9 (aL (aJ (am q) hp))]; exact n
 there:=fun b u q _=>⟨u,k b u q⟩
 tups:=fun b xs q=>by rw[j9 (jA q hn)]; exact q
 frzs:=fun b u xs q=>by rw[j9 (jA q hn)]; exact q
 tbls:=fun b ps q=>⟨#[],by rw[j9 (jA q hn),q]; simp⟩
theorem Un.write (mu:Mut (H x))(he:e=x\/H e=some (.own x))(k:∀ b u,b≠e->h.get? b=some u->h'.get? b=some u)(heo:∃ u,h'.get? e=some u):Un fs ex H (upd H x o) h h':=by
 have hx:∀ b,H b=none->b≠x:=fun b n z=>by subst z; rw[n] at mu; exact mu
 have hb:∀ b,H b=none->b≠e:=fun b n z=>by
  subst z
  rcases he with r | r
  ·exact hx b n r
  ·rw[n] at r; cases r
 have hm:∀ b u,H b=some u->¬ Mut (some u)->b≠x:=fun b u q nm z=>by subst z; rw[q] at mu; exact nm mu
 refine⟨fun b u q n _ _=>k b u (hb b n) q,fun b u q n _ _=>⟨u.slots,k b u (hb b n) q⟩,fun b u q n _=>by rw[j9 (hx b n)]; exact n,fun b u q _=>?_,
  fun b xs q=>by rw[j9 (hm b _ q fun z=>z)]; exact q,fun b u xs q=>by rw[j9 (hm b _ q fun z=>z)]; exact q,fun b ps q=>⟨#[],by rw[j9 (hm b _ q fun z=>z),q]; simp⟩⟩
 by_cases hbe:b=e
 ·subst hbe; exact heo
 ·exact⟨u,k b u hbe q⟩
end
def trk (h:Heap)(H:Hp):List Addr:=(List.range h.objs.size).filter fun a=>(H a).isSome
def hidT (h:Heap)(H:Hp):Heap:=PySem.W.hideAll h (trk h H)
theorem jK4 (h:Heap)(H:Hp):(hidT h H).objs.size=h.objs.size:=PySem.W.hideAll_size _ _
theorem jLZ {h:Heap}{H:Hp}{b:Addr}{o:Obj}(e:h.get? b=some o)(n:H b=none):(hidT h H).get? b=some o:=
 PySem.W.hideAll_get _ e fun hm=>by
  have q:(H b).isSome=true:=(di.mp hm).2
  rw[n] at q; simp at q
theorem jOC {h:Heap}{H:Hp}{b:Addr}{o:Obj}(e:(hidT h H).get? b=some o):h.get? b=some o/\H b=none:=by
 have e':h.get? b=some o:=PySem.W.of_hideAll (trk h H) e
 refine⟨e',?_⟩
 cases q:H b with
 | none=>rfl
 | some x=>
  have hm:b∈trk h H:=di.mpr ⟨aY.mpr (am e'),by simp [q]⟩
  have z:(hidT h H).get? b=none:=PySem.W.hideAll_none (trk h H) hm
  rw[z] at e; cases e
end L2
namespace L2
open PySem PySem.Spec PyProof.Rows
structure Mod (K:W.Frag)(mg:Str->Option Value)(base:Heap):Prop where
 kin:K.In base
 glob:base.Ns mainGlobals mg
 blt:∃ mb,base.Ns builtinsNs mb/\∀ x:Str,x≠ "__name__" ->mb x=bootBuiltins x
 nolimit:base.NoLimit
structure Cx where
 prog:Program
 w:World
 K:W.Frag
 mg:Str->Option Value
 base:Heap
 A:Around
 N:List Str
 s₀:Shared
 H₀:Hp
 env:Env
 outer:List Env
 stack:List Env
 ex:List Addr
 fn:Str->Bool
 calm:Bool
 pn:List (Addr×Obj)
 xe:Value->Shared->Prop
def frs (l:List Env):List Addr:=l.filterMap (·.frame)
abbrev Cx.fs (X:Cx):List Addr:=frs X.outer
def Vis (sc:Scope)(x:Str):Prop:=sc.names.lookup x=some .local\/sc.names.lookup x=some .cell\/sc.names.lookup x=some .free
def Loc (sc:Scope)(x:Str):Prop:=sc.names.lookup x=some .local\/sc.names.lookup x=some .cell
def Look (env:Env)(h:Heap)(m:Str->Option Value)(x:Str)(u:Value):Prop:=
 (env.kindOf x=some .local/\m x=some u)\/((env.kindOf x=some .cell\/env.kindOf x=some .free)/\∃ c,env.cells.lookup x=some c/\h.IsCell c (some u))
structure Cx.Ok (X:Cx):Prop where
 mod:Mod X.K X.mg X.base
 kind:X.env.scope.kind= .function
 glob:X.env.globals=mainGlobals
 blt:X.env.builtins=builtinsNs
 above:X.s₀.heap.objs.size<=X.env.locals
 inj:∀ x y c,X.env.cells.lookup x=some c->X.env.cells.lookup y=some c->x=y
 has:∀ x,(X.env.kindOf x=some .cell\/X.env.kindOf x=some .free)->∃ c,X.env.cells.lookup x=some c
 cab:∀ x c,X.fn x=true->X.env.cells.lookup x=some c->X.s₀.heap.objs.size<=c
 hd:X.calm=true->X.A.handled=none
 frames:X.A.frames=some X.stack
 stk:X.stack=X.outer\/(X.stack=X.env::X.outer/\X.env.frame=some X.env.locals)
 exf:∀ b∈X.ex,b≠X.env.locals/\∀ x c,X.env.cells.lookup x=some c->c≠b
 bs:∀ b o,X.base.get? b=some o->X.s₀.heap.get? b=some o/\X.H₀ b=none
 bsz:X.base.objs.size<=X.s₀.heap.objs.size
 noex:∀ b o,X.base.get? b=some o->b∉X.ex
 exfs:∀ b∈X.ex,b∉X.fs
 funs:X.s₀.heap.FunFrames X.base X.outer
 frf:∀ b∈X.fs,X.H₀ b=none
structure Inv (X:Cx)(pins:List (Addr×Obj))(σ:List (Option V))(H:Hp)(s:Shared):Prop where
 ok:X.Ok
 os:s.os=X.s₀.os
 bare:AllBare s.gens
 base:Un X.fs X.ex X.H₀ H X.s₀.heap s.heap
 loc:∃ m,s.heap.Ns X.env.locals m/\∀ (i:Nat) (x:Str) (v:V),X.N[i]?=some x->σ[i]?=some (some v)->Vis X.env.scope x->∃ u,RelV v u/\Look X.env s.heap m x u
 cell:∀ x c,X.env.cells.lookup x=some c->∃ v,s.heap.IsCell c v
 free:H X.env.locals=none
 freeC:∀ x c,X.env.cells.lookup x=some c->H c=none
 pin:∀ p∈X.pn++pins,s.heap.get? p.1=some p.2/\H p.1=none/\p.1≠X.env.locals/\p.1∉X.fs/\∀ v,p.2.data≠ .cell v
 hok:HOk X.prog X.w H s.heap
 len:σ.length=X.N.length
section
variable {X:Cx}{pins:List (Addr×Obj)}{σ:List (Option V)}{H H':Hp}{s:Shared}{h':Heap}
theorem Cx.Ok.nofr (ok:X.Ok){b:Addr}{o:Obj}(e:X.base.get? b=some o):b∉X.fs:=fun hb=>by
 have:=(ok.funs.mem hb).1
 rw[e] at this; cases this
theorem Inv.bs (I:Inv X pins σ H s):∀ b o,X.base.get? b=some o->s.heap.get? b=some o/\H b=none:=fun b o e=>
 ⟨I.base.keep b o (I.ok.bs b o e).1 (I.ok.bs b o e).2 (I.ok.nofr e) (I.ok.noex b o e),I.base.free b o (I.ok.bs b o e).1 (I.ok.bs b o e).2 (I.ok.noex b o e)⟩
theorem Inv.bk (I:Inv X pins σ H s):∀ b o,X.base.get? b=some o->s.heap.get? b=some o:=fun b o e=>(I.bs b o e).1
theorem Inv.mod (I:Inv X pins σ H s):Mod X.K X.mg X.base:=I.ok.mod
theorem Inv.kIn (I:Inv X pins σ H s):X.K.In s.heap:=I.ok.mod.kin.keeps I.bk
theorem Inv.lt (I:Inv X pins σ H s):X.env.locals<s.heap.objs.size:=let ⟨_,hn,_⟩:=I.loc; hn.lt
theorem Inv.sz (I:Inv X pins σ H s):X.s₀.heap.objs.size<=s.heap.objs.size:=aH I.ok.above (cZ I.lt)
theorem Inv.nofs (I:Inv X pins σ H s){a:Addr}(h:s.heap.objs.size<=a):a∉X.fs:=fun hb=>by
 obtain⟨_,o,ho,_⟩:=I.ok.funs.mem hb
 exact absurd (aJ (am ho) (aH I.sz h)) (bc _)
theorem Inv.cne (I:Inv X pins σ H s):∀ x c,X.env.cells.lookup x=some c->c≠X.env.locals:=fun x c e z=>by
 obtain⟨v,o,ho,hd⟩:=I.cell x c e
 obtain⟨m,⟨o',es,ep,ho',hd',_⟩,_⟩:=I.loc
 rw[z,ho'] at ho; cases ho; rw[hd'] at hd; cases hd
theorem Inv.funs (I:Inv X pins σ H s):s.heap.FunFrames X.base X.outer:=by
 have all:∀ (l:List Env),(∀ b∈frs l,b∈X.fs)->X.s₀.heap.FunFrames X.base l->s.heap.FunFrames X.base l:=by
  intro l
  induction l with
  | nil=>intro _ _; trivial
  | cons env r ih=>
   intro hs hl
   obtain⟨hk,⟨L,o,hf,hn,ho,hd⟩,hr⟩:=hl
   have hL:L∈X.fs:=hs L (by unfold frs; rw[dQ,hf]; exact aA)
   obtain⟨sl,e⟩:=I.base.slot L o ho (I.ok.frf L hL) hL fun z=>I.ok.exfs L z hL
   exact⟨hk,⟨L,_,hf,hn,e,hd⟩,ih (fun b hb=>hs b (by unfold frs; rw[dQ,hf]; exact aB _ hb)) hr⟩
 exact all X.outer (fun _ hb=>hb) I.ok.funs
theorem Inv.stack (I:Inv X pins σ H s):s.heap.FunFrames X.base X.stack:=by
 rcases I.ok.stk with e | ⟨e,hf⟩
 ·rw[e]; exact I.funs
 ·rw[e]
  obtain⟨m,hn,_⟩:=I.loc
  refine .cons (by rw[I.ok.kind]; decide) hf hn ?_ I.funs
  exact Heap.get?_none_of_le (aH I.ok.bsz I.ok.above)
theorem Inv.stkSub (I:Inv X pins σ H s):∀ b∈frs X.stack,b∈X.env.locals::X.fs:=fun b hb=>by
 rcases I.ok.stk with e | ⟨e,hf⟩
 ·rw[e] at hb; exact aB _ hb
 ·rw[e] at hb
  unfold frs at hb
  rw[dQ,hf] at hb
  exact hb
theorem Inv.stkFree (I:Inv X pins σ H s):∀ b∈frs X.stack,H b=none:=fun b hb=>by
 rcases aC.mp (I.stkSub b hb) with e | hb
 ·rw[e]; exact I.free
 ·obtain⟨_,o,ho,_⟩:=I.ok.funs.mem hb
  exact I.base.free b o ho (I.ok.frf b hb) fun z=>I.ok.exfs b z hb
theorem Inv.step {g':Array GenState}{t':Nat}{d':Drawn}{ch:List Addr}(I:Inv X pins σ H s)
  (hch:∀ b∈ch,(b∈X.ex\/X.s₀.heap.objs.size<=b)/\b≠X.env.locals/\(∀ x c,X.env.cells.lookup x=some c->c≠b)/\∀ p∈X.pn++pins,p.1≠b)
  (keep:∀ b o,b≠X.env.locals->b∉X.fs->b∉ch->s.heap.get? b=some o->H b=none->h'.get? b=some o)
  (slot:∀ b o,b≠X.env.locals->b∈X.fs->b∉ch->s.heap.get? b=some o->H b=none->∃ sl,h'.get? b=some { o with slots:=sl}) (free:∀ b o,b∉ch->s.heap.get? b=some o->H b=none->H' b=none)
  (there:∀ b o,b∉ch->s.heap.get? b=some o->∃ o',h'.get? b=some o')
  (tups:∀ b xs,H b=some (.tup xs)->H' b=some (.tup xs)) (frzs:∀ b o u,H b=some (.frz o u)->H' b=some (.frz o u)) (tbls:∀ b ps,H b=some (.tbl ps)->∃ more,H' b=some (.tbl (ps++more)))
  (ns:∀ m,s.heap.Ns X.env.locals m->h'.Ns X.env.locals m) (hok:HOk X.prog X.w H' h') (hg:AllBare g'):
  Inv X pins σ H' { s with heap:=h',gens:=g',drawn:=d',toks:=t'} :=by
 have neL:∀ b o,X.s₀.heap.get? b=some o->b≠X.env.locals:=fun b o e=>aL (aJ (am e) I.ok.above)
 have neC:∀ b o,X.s₀.heap.get? b=some o->b∉X.ex->b∉ch:=fun b o e hx hb=>by
  rcases (hch b hb).1 with z | z
  ·exact hx z
  ·exact absurd (aJ (am e) z) (bc _)
 have cellK:∀ x c,X.env.cells.lookup x=some c->∀ v,s.heap.IsCell c v->h'.IsCell c v:=fun x c e v ⟨o,ho,hd⟩=>by
  have nch:c∉ch:=fun z=>(hch c z).2.2.1 x c e rfl
  by_cases hc:c∈X.fs
  ·obtain⟨sl,q⟩:=slot c o (I.cne x c e) hc nch ho (I.freeC x c e)
   exact⟨_,q,hd⟩
  ·exact⟨o,keep c o (I.cne x c e) hc nch ho (I.freeC x c e),hd⟩
 refine⟨I.ok,I.os,hg,⟨fun b o e n hb hx=>?_,fun b o e n hb hx=>?_,fun b o e n hx=>?_,fun b o e hx=>?_,fun b xs e=>tups b xs (I.base.tups b xs e),fun b o xs e=>frzs b o xs (I.base.frzs b o xs e),fun b ps e=>?_⟩,?_,fun x c e=>?_,?_,fun x c e=>?_,fun p hp=>?_,hok,I.len⟩
 ·exact keep b o (neL b o e) hb (neC b o e hx) (I.base.keep b o e n hb hx) (I.base.free b o e n hx)
 ·obtain⟨sl,e1⟩:=I.base.slot b o e n hb hx
  obtain⟨sl',e2⟩:=slot b _ (neL b o e) hb (neC b o e hx) e1 (I.base.free b o e n hx)
  exact⟨sl',e2⟩
 ·obtain⟨o',e1⟩:=I.base.there b o e hx
  exact free b o' (neC b o e hx) e1 (I.base.free b o e n hx)
 ·obtain⟨o',e1⟩:=I.base.there b o e hx
  exact there b o' (neC b o e hx) e1
 ·obtain⟨m1,e1⟩:=I.base.tbls b ps e
  obtain⟨m2,e2⟩:=tbls b _ e1
  exact⟨m1++m2,by rw[e2,Array.append_assoc]⟩
 ·obtain⟨m,hn,hl⟩:=I.loc
  refine⟨m,ns m hn,fun i x v e1 e2 e3=>?_⟩
  obtain⟨u,r,l⟩:=hl i x v e1 e2 e3
  refine⟨u,r,?_⟩
  rcases l with l | ⟨k,c,e,z⟩
  ·exact .inl l
  ·exact .inr ⟨k,c,e,cellK x c e _ z⟩
 ·obtain⟨v,z⟩:=I.cell x c e
  exact⟨v,cellK x c e v z⟩
 ·obtain⟨m,⟨o,_,_,ho,_⟩,_⟩:=I.loc
  exact free _ o (fun z=>(hch _ z).2.1 rfl) ho I.free
 ·obtain⟨v,o,ho,hd⟩:=I.cell x c e
  exact free c o (fun z=>(hch c z).2.2.1 x c e rfl) ho (I.freeC x c e)
 ·obtain⟨e,n,ne,nf,d⟩:=I.pin p hp
  have nch:p.1∉ch:=fun z=>(hch p.1 z).2.2.2 p hp rfl
  exact⟨keep p.1 p.2 ne nf nch e n,free p.1 p.2 nch e n,ne,nf,d⟩
theorem Inv.un {t':Nat}(I:Inv X pins σ H s)(u:Un X.fs [] H H' s.heap h')(hok:HOk X.prog X.w H' h'):Inv X pins σ H' { s with heap:=h',toks:=t'} :=by
 obtain⟨m,⟨o,es,ep,ho,r⟩,_⟩:=id I.loc
 obtain⟨sl,hL⟩:=u.any ho I.free (by simp)
 exact I.step (g':=s.gens) (d':=s.drawn) (ch:=[]) (fun _ z=>nomatch z) (fun b o _ hb _ e n=>u.keep b o e n hb (by simp)) (fun b o _ hb _ e n=>u.slot b o e n hb (by simp)) (fun b o _ e n=>u.free b o e n (by simp)) (fun b o _ e=>u.there b o e (by simp)) u.tups u.frzs u.tbls (fun m' hm=>by
  obtain⟨o',es',ep',ho',r'⟩:=hm
  rw[ho] at ho'; cases ho'
  exact⟨_,es',ep',hL,r'⟩) hok I.bare
theorem Inv.call {g':Array GenState}{t':Nat}{d':Drawn}{ch:List Addr}(I:Inv X pins σ H s)(u:Un (frs X.stack) ch H H' s.heap h')(hok:HOk X.prog X.w H' h')(hg:AllBare g')
  (hch:∀ b∈ch,(b∈X.ex\/X.s₀.heap.objs.size<=b)/\b≠X.env.locals/\(∀ x c,X.env.cells.lookup x=some c->c≠b)/\∀ p∈X.pn++pins,p.1≠b):
  Inv X pins σ H' { s with heap:=h',gens:=g',drawn:=d',toks:=t'} :=by
 obtain⟨m,⟨o,es,ep,ho,r⟩,_⟩:=id I.loc
 obtain⟨sl,hL⟩:=u.any ho I.free fun z=>(hch _ z).2.1 rfl
 exact I.step (ch:=ch) hch (fun b o hL hb hc e n=>u.keep b o e n (fun z=>(aC.mp (I.stkSub b z)).elim hL hb) hc) (fun b o _ _ hc e n=>u.any e n hc) (fun b o hc e n=>u.free b o e n hc) (fun b o hc e=>u.there b o e hc) u.tups u.frzs u.tbls (fun m' hm=>by
  obtain⟨o',es',ep',ho',r'⟩:=hm
  rw[ho] at ho'; cases ho'
  exact⟨_,es',ep',hL,r'⟩) hok hg
theorem Inv.turned {t':Nat}{it:Addr}(I:Inv X pins σ H s)(k:∀ b o,b≠it->s.heap.get? b=some o->h'.get? b=some o)(hn:H it=none)(hL:it≠X.env.locals)
  (h1:it∈X.ex\/X.s₀.heap.objs.size<=it) (h2:∀ x c,X.env.cells.lookup x=some c->c≠it) (h3:∀ p∈X.pn++pins,p.1≠it):Inv X pins σ H { s with heap:=h',toks:=t'} :=by
 have nit:∀ b u,H b=some u->b≠it:=fun b u e z=>by rw[z,hn] at e; cases e
 refine I.step (g':=s.gens) (d':=s.drawn) (ch:=[it]) (fun b hb=>?_) (fun b o _ _ hc e _=>k b o (fun z=>hc (by simp [z])) e) (fun b o _ _ hc e _=>⟨o.slots,k b o (fun z=>hc (by simp [z])) e⟩) (fun _ _ _ _ n=>n)
  (fun b o hc e=>⟨o,k b o (fun z=>hc (by simp [z])) e⟩) (fun _ _ e=>e) (fun _ _ _ e=>e) (fun b ps e=>⟨#[],by rw[e]; simp⟩) (fun m hm=>?_) (fun b u e=>?_) I.bare
 ·have e:b=it:=by simpa using hb
  subst e
  exact⟨h1,hL,h2,h3⟩
 ·obtain⟨o,es,ep,ho,r⟩:=hm
  exact⟨o,es,ep,k _ o (dj hL) ho,r⟩
 ·refine(I.hok b u e).stay (fun c v hc q=>k c v ?_ q) (fun _ q=>q) fun _ _ q=>q
  rcases hc with z | z
  ·rw[z]; exact nit b u e
  ·exact nit c _ z
theorem Inv.tok (I:Inv X pins σ H s)(t:Nat):Inv X pins σ H { s with toks:=t} :=I.un (h':=s.heap) (t':=t) Un.refl I.hok
theorem Inv.kept {t':Nat}(I:Inv X pins σ H s)(k:∀ b u,s.heap.get? b=some u->h'.get? b=some u):Inv X pins σ H { s with heap:=h',toks:=t'} :=I.un (Un.kept k) (I.hok.kept k)
theorem Inv.laid {a:Addr}{o:HO}{t':Nat}(I:Inv X pins σ H s)(k:∀ b u,s.heap.get? b=some u->h'.get? b=some u)(hp:s.heap.objs.size<=a)(new:ObjOk X.prog X.w (upd H a o) h' a o):
  Inv X pins σ (upd H a o) { s with heap:=h',toks:=t'} :=I.un (Un.laid k hp (I.hok.fresh hp)) (I.hok.laid k hp new)
theorem Inv.write {x e:Addr}{o:HO}{t':Nat}(I:Inv X pins σ H s)(mu:Mut (H x))(he:e=x\/H e=some (.own x))(k:∀ b u,b≠e->s.heap.get? b=some u->h'.get? b=some u)(heo:∃ u,h'.get? e=some u)
  (new:ObjOk X.prog X.w (upd H x o) h' x o):Inv X pins σ (upd H x o) { s with heap:=h',toks:=t'} :=I.un (Un.write mu he k heo) (I.hok.write mu he k heo new)
theorem Inv.pins_of {pins':List (Addr×Obj)}(I:Inv X pins σ H s)(h:∀ p∈pins',s.heap.get? p.1=some p.2/\H p.1=none/\p.1≠X.env.locals/\p.1∉X.fs/\∀ v,p.2.data≠ .cell v):Inv X pins' σ H s:=
 ⟨I.ok,I.os,I.bare,I.base,I.loc,I.cell,I.free,I.freeC,fun p hp=>(bx.mp hp).elim (fun z=>I.pin p (cR _ z)) (h p),I.hok,I.len⟩
theorem jGP {N:List Str}(hN:N.Nodup){i j:Nat}{x:Str}(a:N[i]?=some x)(b:N[j]?=some x):i=j:=by
 obtain⟨h1,e1⟩:=ay.mp a
 obtain⟨h2,e2⟩:=ay.mp b
 exact(List.getElem_inj hN).mp (e1.trans e2.symm)
theorem jCD {M:Model}{A:Around}{E:Value->Shared->Prop}{i:Nat}{x:Str}{v:V}{u:Value}{Q:Unit->Shared->Prop}(I:Inv X pins σ H s)(hN:X.N.Nodup)(hi:X.N[i]?=some x)(hx:Loc X.env.scope x)(r:RelV v u)
  (h:∀ s',Inv X pins (σ.set i (some v)) H s'->(∃ a,Heap.SameBut a s.heap s'.heap/\(a=X.env.locals\/X.env.cells.lookup x=some a))->Q () s') (hf:X.fn x=true\/X.env.scope.names.lookup x=some .local:=by first | exact .inl rfl | exact .inr rfl | assumption):wpAny M A (storeName X.env x u) Q E s:=by
 obtain⟨m,hn,hl⟩:=id I.loc
 have hcls:(X.env.scope.kind== .class || (X.env.scope.kind== .module&&X.env.locals != X.env.globals))=false:=by rw[I.ok.kind]; rfl
 have hiσ:i<σ.length:=by rw[I.len]; exact(ay.mp hi).1
 have cne:=I.cne
 have tracked:∀ {a:Addr}{h':Heap},(∃ o,s.heap.get? a=some o/\H a=none)->Heap.SameBut a s.heap h'->HOk X.prog X.w H h':=fun {a h'} ha hs b ob e=>by
  obtain⟨_,_,hfree⟩:=ha
  refine(I.hok b ob e).stay (fun c w' hc q=>(hs.2 c ?_).trans q) (fun _ q=>q) fun _ _ q=>q
  rintro rfl
  rcases hc with rfl | hc
  ·rw[hfree] at e; cases e
  ·rw[hfree] at hc; cases hc
 rcases hx with hk | hk
 ·refine wpAny_storeName_local hk hn (fun h' hn' hs=>?_) hcls
  obtain⟨oL,_,_,hoL,_⟩:=id hn
  refine h _ ⟨I.ok,I.os,I.bare,⟨fun b o e n hb hx=>?_,fun b o e n hb hx=>?_,I.base.free,fun b o e hx=>?_,I.base.tups,I.base.frzs,I.base.tbls⟩,⟨_,hn',fun j y v' e1 e2 e3=>?_⟩,fun y c e=>?_,I.free,I.freeC,fun p hp=>?_,tracked ⟨oL,hoL,I.free⟩ hs,by simpa using I.len⟩ ⟨_,hs, .inl rfl⟩
  ·exact(hs.2 b (aL (aJ (am e) I.ok.above))).trans (I.base.keep b o e n hb hx)
  ·obtain⟨sl,e1⟩:=I.base.slot b o e n hb hx
   exact⟨sl,(hs.2 b (aL (aJ (am e) I.ok.above))).trans e1⟩
  ·obtain⟨o',e1⟩:=I.base.there b o e hx
   exact⟨o',(hs.2 b (aL (aJ (am e) I.ok.above))).trans e1⟩
  ·by_cases hj:j=i
   ·subst hj
    rw[hi] at e1; cases e1
    rw[fu hiσ] at e2
    cases e2
    exact⟨u,r, .inl ⟨hk,by simp⟩⟩
   ·rw[gc (dj hj)] at e2
    obtain⟨u',r',q⟩:=hl j y v' e1 e2 e3
    refine⟨u',r',?_⟩
    rcases q with ⟨k,e⟩ | ⟨k,c,e,z⟩
    ·refine .inl ⟨k,?_⟩
     have:y≠x:=fun e=>hj (jGP hN e1 (e ▸ hi))
     simp [this,e]
    ·exact .inr ⟨k,c,e,z.sameBut hs (cne y c e)⟩
  ·obtain⟨w',z⟩:=I.cell y c e
   exact⟨w',z.sameBut hs (cne y c e)⟩
  ·obtain⟨e,n,ne,nf,d⟩:=I.pin p hp
   exact⟨(hs.2 p.1 ne).trans e,n,ne,nf,d⟩
 ·have hfn:X.fn x=true:=by
   rcases hf with z | z
   ·exact z
   ·rw[z] at hk; cases hk
  obtain⟨c,hc⟩:=I.ok.has x (.inl hk)
  obtain⟨w',z⟩:=I.cell x c hc
  refine wpAny_storeName_cell I.ok.kind hk hc z (fun h' hc' hs=>?_)
  obtain⟨oc,hoc,hocd⟩:=id z
  refine h { s with heap:=h'} ⟨I.ok,I.os,I.bare,⟨fun b o e n hb hx=>?_,fun b o e n hb hx=>?_,I.base.free,fun b o e hx=>?_,I.base.tups,I.base.frzs,I.base.tbls⟩,⟨m,hn.sameBut hs (dj (cne x c hc)),fun j y v' e1 e2 e3=>?_⟩,fun y c' e=>?_,I.free,I.freeC,fun p hp=>?_,tracked ⟨oc,hoc,I.freeC x c hc⟩ hs,by simpa using I.len⟩ ⟨c,hs, .inr hc⟩
  ·exact(hs.2 b (aL (aJ (am e) (I.ok.cab x c hfn hc)))).trans (I.base.keep b o e n hb hx)
  ·obtain⟨sl,e1⟩:=I.base.slot b o e n hb hx
   exact⟨sl,(hs.2 b (aL (aJ (am e) (I.ok.cab x c hfn hc)))).trans e1⟩
  ·obtain⟨o',e1⟩:=I.base.there b o e hx
   exact⟨o',(hs.2 b (aL (aJ (am e) (I.ok.cab x c hfn hc)))).trans e1⟩
  ·by_cases hj:j=i
   ·subst hj
    rw[hi] at e1; cases e1
    rw[fu hiσ] at e2
    cases e2
    exact⟨u,r, .inr ⟨.inl hk,c,hc,hc'⟩⟩
   ·rw[gc (dj hj)] at e2
    obtain⟨u',r',q⟩:=hl j y v' e1 e2 e3
    refine⟨u',r',?_⟩
    rcases q with q | ⟨k,c',e,z'⟩
    ·exact .inl q
    ·refine .inr ⟨k,c',e,z'.sameBut hs ?_⟩
     rintro rfl
     exact hj (jGP hN e1 (I.ok.inj _ _ _ e hc ▸ hi))
  ·by_cases hcc:c'=c
   ·subst hcc; exact⟨_,hc'⟩
   ·obtain⟨w2,z2⟩:=I.cell y c' e
    exact⟨w2,z2.sameBut hs hcc⟩
  ·obtain⟨e,n,ne,nf,d⟩:=I.pin p hp
   refine⟨(hs.2 p.1 ?_).trans e,n,ne,nf,d⟩
   intro q
   rw[q,hoc] at e
   have q':oc=p.2:=ba e
   exact d w' (by rw[<- q']; exact hocd)
theorem jBD {M:Model}{A:Around}{E:Value->Shared->Prop}{i:Nat}{x:Str}{v:V}{u:Value}{Q:Unit->Shared->Prop}(I:Inv X pins σ H s)(hN:X.N.Nodup)(hi:X.N[i]?=some x)(hx:Loc X.env.scope x)(r:RelV v u)
  (h:∀ s',Inv X pins (σ.set i (some v)) H s'->Q () s') (hf:X.fn x=true\/X.env.scope.names.lookup x=some .local:=by first | exact .inl rfl | exact .inr rfl | assumption):wpAny M A (storeName X.env x u) Q E s:=
 jCD I hN hi hx r (fun s' I' _=>h s' I') hf
theorem Inv.call' {s':Shared}{ch:List Addr}(I:Inv X pins σ H s)(ho:s'.os=s.os)(u:Un (frs X.stack) ch H H' s.heap s'.heap)(hok:HOk X.prog X.w H' s'.heap)(hg:AllBare s'.gens)
  (hch:∀ b∈ch,(b∈X.ex\/X.s₀.heap.objs.size<=b)/\b≠X.env.locals/\(∀ x c,X.env.cells.lookup x=some c->c≠b)/\∀ p∈X.pn++pins,p.1≠b):Inv X pins σ H' s':=by
 obtain⟨h',g',d',t',o'⟩:=s'
 have e:o'=s.os:=ho
 subst e
 exact I.call (g':=g') (t':=t') (d':=d') u hok hg hch
end
abbrev XK:=Value->Option Addr->Hp->Prop
abbrev St:=List (Option V)
abbrev VK:=V->Hp->Prop
abbrev TE:=St->Hp->VK->Prop
abbrev TT:=St->Hp->(Bool->Hp->Prop)->Prop
abbrev TA:=St->Hp->(List V->Hp->Prop)->Prop
structure Ends where
 nx:St->Hp->Prop
 rt:VK
 bk:St->Hp->Prop:=fun _ _=>False
 ct:St->Hp->Prop:=fun _ _=>False
abbrev TS:=Ends->St->Hp->Prop
def EP (X:Cx)(pins:List (Addr×Obj))(σ:St)(Q:VK)(u:Value)(s':Shared):Prop:=∃ v H',Inv X pins σ H' s'/\RelV v u/\Q v H'
def TP (X:Cx)(pins:List (Addr×Obj))(σ:St)(Q:Bool->Hp->Prop)(b:Bool)(s':Shared):Prop:=∃ H',Inv X pins σ H' s'/\Q b H'
def AP (X:Cx)(pins:List (Addr×Obj))(σ:St)(Q:List V->Hp->Prop)(us:List Value)(s':Shared):Prop:=∃ vs H',Inv X pins σ H' s'/\Vals vs us/\Q vs H'
def SP (X:Cx)(pins:List (Addr×Obj))(D:Ends)(f:Flow)(s':Shared):Prop:=
 match f with
 | .next=>∃ σ' H',Inv X pins σ' H' s'/\D.nx σ' H'
 | .brk=>∃ σ' H',Inv X pins σ' H' s'/\D.bk σ' H'
 | .cont=>∃ σ' H',Inv X pins σ' H' s'/\D.ct σ' H'
 | .ret u=>∃ v σ' H',Inv X pins σ' H' s'/\RelV v u/\D.rt v H'
def PE (X:Cx)(e:Expr)(t:TE):Prop:=
 ∀ (pins:List (Addr×Obj)) (s:Shared) (σ:St) (H:Hp) (Q:VK),Inv X pins σ H s->t σ H Q->wpAny (model X.prog X.w) X.A (eval e X.env) (EP X pins σ Q) X.xe s
def PT (X:Cx)(e:Expr)(t:TT):Prop:=
 ∀ (pins:List (Addr×Obj)) (s:Shared) (σ:St) (H:Hp) (Q:Bool->Hp->Prop),Inv X pins σ H s->t σ H Q->wpAny (model X.prog X.w) X.A (isTrue e X.env (eval e X.env)) (TP X pins σ Q) X.xe s
def PW (X:Cx)(e:Expr)(t:TT):Prop:=
 ∀ (whole:Sem Value) (pins:List (Addr×Obj)) (s:Shared) (σ:St) (H:Hp) (Q:Bool->Hp->Prop),Inv X pins σ H s->t σ H Q->wpAny (model X.prog X.w) X.A (isTrue e X.env whole) (TP X pins σ Q) X.xe s
theorem PW.pt {X:Cx}{e:Expr}{t:TT}(h:PW X e t):PT X e t:=h _
def PA (X:Cx)(es:List Expr)(t:TA):Prop:=
 ∀ (pos:Pos) (pins:List (Addr×Obj)) (s:Shared) (σ:St) (H:Hp) (Q:List V->Hp->Prop),Inv X pins σ H s->t σ H Q->wpAny (model X.prog X.w) X.A (spliced (backTo pos (starEach es X.env))) (AP X pins σ Q) X.xe s
def PS (X:Cx)(st:Stmt)(t:TS):Prop:=
 ∀ (pins:List (Addr×Obj)) (s:Shared) (σ:St) (H:Hp) (D:Ends),Inv X pins σ H s->t D σ H->wpAny (model X.prog X.w) X.A (exec st X.env) (SP X pins D) X.xe s
def PSs (X:Cx)(st:List Stmt)(t:TS):Prop:=
 ∀ (pins:List (Addr×Obj)) (s:Shared) (σ:St) (H:Hp) (D:Ends),Inv X pins σ H s->t D σ H->wpAny (model X.prog X.w) X.A (execs st X.env) (SP X pins D) X.xe s
theorem thn {α:Type}{t:Sem α}{Q Q':α->Shared->Prop}{M:Model}{A:Around}{E:Value->Shared->Prop}{s:Shared}(h:wpAny M A t Q E s)(hQ:∀ a s,Q a s->Q' a s):wpAny M A t Q' E s:=cw h hQ fun _ _ x=>x
end L2
namespace L2
open PySem PySem.Spec PyProof.Rows
section
variable {X:Cx}
def tVar (i:Nat):TE:=fun σ H Q=>∃ v,σ[i]?=some (some v)/\Q v H
def tC (v:V):TE:=fun _ H Q=>Q v H
theorem jMQ {i:Nat}{x:Str}{pos:Pos}(hN:X.N[i]?=some x)(hv:Vis X.env.scope x)(hd:(x==("__debug__" :Str))=false:=by decide)(hcd:(x==("__classdict__" :Str))=false:=by decide):PE X (.Name x pos) (tVar i):=by
 intro pins s σ H Q I h
 obtain⟨v,e,h⟩:=h
 obtain⟨m,hn,hl⟩:=I.loc
 obtain⟨u,r,l⟩:=hl i x v hN e hv
 have fin:EP X pins σ Q u s:=⟨v,H,I,r,h⟩
 rcases l with ⟨hk,hm⟩ | ⟨hk,c,hc,hcell⟩
 ·exact wpAny_Name (wpAny_loadName_local I.ok.kind hk hn hm fin) hd
 ·rcases hk with hk | hk
  ·exact wpAny_Name (wpAny_loadName_cell I.ok.kind hk hc hcell fin) hd
  ·exact wpAny_Name (wpAny_loadName_free I.ok.kind hk hc hcell fin hcd) hd
theorem jS {i j pos} :PE X (.Constant (.int i) j pos) (tC (.int i)):=fun _ _ _ H _ I h=>wpAny_Constant_int ⟨.int i,H,I.tok _,⟨_,rfl⟩,h⟩
theorem pe_bl {b j pos} :PE X (.Constant (.bool b) j pos) (tC (.bl b)):=fun _ _ _ H _ I h=>Constant_bool ⟨.bl b,H,I,rfl,h⟩
theorem jPL {j pos} :PE X (.Constant .none j pos) (tC .non):=fun _ _ _ H _ I h=>Constant_none ⟨.non,H,I,rfl,h⟩
theorem jPI {x j pos} :PE X (.Constant (.str x) j pos) (tC (.str x)):=fun _ _ _ H _ I h=>Calls.Constant_str ⟨.str x,H,I.tok _,⟨_,rfl⟩,h⟩
def Gl (X:Cx)(x:Str):Prop:=X.env.kindOf x=some .globalImplicit
theorem jOJ {E:Value->Shared->Prop}{pins:List (Addr×Obj)}{s:Shared}{σ:St}{H:Hp}{x:Str}{u:Value}{pos:Pos}{Q:Value->Shared->Prop}(I:Inv X pins σ H s)(hg:Gl X x)(hm:X.mg x=some u)(h:Q u s)
  (hd:(x==("__debug__" :Str))=false:=by decide):wpAny (model X.prog X.w) X.A (eval (.Name x pos) X.env) Q E s:=
 dZ I.ok.kind hg (Calls.loadGlobal_global (by rw[I.ok.glob]; exact I.mod.glob.keeps I.bk) hm h) hd
theorem jCO {E:Value->Shared->Prop}{pins:List (Addr×Obj)}{s:Shared}{σ:St}{H:Hp}{x:Str}{u:Value}{pos:Pos}{Q:Value->Shared->Prop}(I:Inv X pins σ H s)(hg:Gl X x)(hm:X.mg x=none)(hv:bootBuiltins x=some u)(h:Q u s)
  (hn:x≠ "__name__" :=by decide) (hd:(x==("__debug__" :Str))=false:=by decide):wpAny (model X.prog X.w) X.A (eval (.Name x pos) X.env) Q E s:=by
 obtain⟨mb,h1,h2⟩:=I.mod.blt
 exact dZ I.ok.kind hg (Calls.loadGlobal_builtin (by rw[I.ok.glob]; exact I.mod.glob.keeps I.bk) hm (by rw[I.ok.blt]; exact h1.keeps I.bk) ((h2 x hn).trans hv) h) hd
theorem jNZ {x:Str}{v:V}{u:Value}{pos:Pos}(hg:Gl X x)(hm:X.mg x=none)(hv:bootBuiltins x=some u)(r:RelV v u)(hn:x≠ "__name__" :=by decide)(hd:(x==("__debug__" :Str))=false:=by decide):PE X (.Name x pos) (tC v):=
 fun _ _ _ H _ I h=>jCO I hg hm hv ⟨v,H,I,r,h⟩ hn hd
variable {a b:Expr}{ta tb:TE}{pos:Pos}
def tB (t:TE):TT:=fun σ H Q=>t σ H fun x H1=>∃ c,x= .bl c/\Q c H1
theorem jPA {e:Expr}{t:TE}(h:PE X e t)(he:∀ whole,isTrue e X.env whole=(do let v <- whole; standAt e.pos; holding [v] (truthy v)):=by intro _; rfl):PT X e (tB t):=by
 intro pins s σ H Q I hw
 refine isTrue_plain (thn (h pins s σ H _ I hw) fun v s1 ⟨x,H1,I1,r1,q1⟩=>?_) (he _)
 obtain⟨d,rfl,q⟩:=q1
 cases r1
 exact dy ⟨H1,I1,q⟩
variable {tA tB':TT}{rest:List Expr}
def tAnd (t u:TT):TT:=fun σ H Q=>t σ H fun c H1=>if c=true then u σ H1 Q else Q false H1
def tOr (t u:TT):TT:=fun σ H Q=>t σ H fun c H1=>if c=true then Q true H1 else u σ H1 Q
def tNot (t:TT):TT:=fun σ H Q=>t σ H fun c H1=>Q (!c) H1
theorem jNK (ha:PT X a tA):PW X (.BoolOp .And [a] pos) tA:=by
 intro wh pins s σ H Q I h
 refine isTrue_and (thn (ha pins s σ H Q I h) fun c s1 e=>?_)
 cases c with
 | true=>exact isTrue_and_nil e
 | false=>exact e
theorem jP8 (ha:PT X a tA):PW X (.BoolOp .Or [a] pos) tA:=by
 intro wh pins s σ H Q I h
 refine isTrue_or (thn (ha pins s σ H Q I h) fun c s1 e=>?_)
 cases c with
 | false=>exact isTrue_or_nil e
 | true=>exact e
theorem jP9 (ha:PT X a tA)(hb:PW X (.BoolOp .And (b::rest) pos) tB'):PW X (.BoolOp .And (a::b::rest) pos) (tAnd tA tB'):=by
 intro wh pins s σ H Q I h
 refine isTrue_and (thn (ha pins s σ H _ I h) fun c s1 ⟨H1,I1,q1⟩=>?_)
 cases c with
 | true=>exact hb wh pins s1 σ H1 Q I1 q1
 | false=>exact⟨H1,I1,q1⟩
theorem pw_or (ha:PT X a tA)(hb:PW X (.BoolOp .Or (b::rest) pos) tB'):PW X (.BoolOp .Or (a::b::rest) pos) (tOr tA tB'):=by
 intro wh pins s σ H Q I h
 refine isTrue_or (thn (ha pins s σ H _ I h) fun c s1 ⟨H1,I1,q1⟩=>?_)
 cases c with
 | true=>exact⟨H1,I1,q1⟩
 | false=>exact hb wh pins s1 σ H1 Q I1 q1
theorem jPB (ha:PT X a tA):PT X (.UnaryOp .Not a pos) (tNot tA):=by
 intro pins s σ H Q I h
 exact isTrue_not (ha pins s σ H (fun c H1=>Q (!c) H1) I h)
def tAndV (ta tb:TE):TE:=fun σ H Q=>ta σ H fun x H1=>∃ c,x= .bl c/\if c=true then tb σ H1 Q else Q (.bl false) H1
def tNotV (ta:TE):TE:=fun σ H Q=>ta σ H fun x H1=>∃ c,x= .bl c/\Q (.bl (!c)) H1
theorem jPJ {op}{t:TE}(h:PE X a t):PE X (.BoolOp op [a] pos) t:=fun pins s σ H Q I hw=>BoolOp_one (h pins s σ H Q I hw)
theorem jPN (ha:PE X a ta)(hb:PE X (.BoolOp .And (b::rest) pos) tb):PE X (.BoolOp .And (a::b::rest) pos) (tAndV ta tb):=by
 intro pins s σ H Q I h
 refine BoolOp_and (thn (ha pins s σ H _ I h) fun v s1 ⟨x,H1,I1,r1,q1⟩=>?_)
 obtain⟨c,rfl,q1⟩:=q1
 cases r1
 refine dy ?_
 cases c with
 | true=>exact hb pins s1 σ H1 Q I1 q1
 | false=>exact⟨.bl false,H1,I1,rfl,q1⟩
theorem jPK (ha:PE X a ta):PE X (.UnaryOp .Not a pos) (tNotV ta):=by
 intro pins s σ H Q I h
 refine UnaryOp_ (thn (ha pins s σ H _ I h) fun v s1 ⟨x,H1,I1,r1,q1⟩=>?_)
 obtain⟨c,rfl,q1⟩:=q1
 cases r1
 exact not_of (dy ⟨.bl (!c),H1,I1,rfl,q1⟩)
def tIf (t:TT)(ta tb:TE):TE:=fun σ H Q=>t σ H fun c H1=>if c=true then ta σ H1 Q else tb σ H1 Q
theorem jLG {c:Expr}(hc:PT X c tA)(ha:PE X a ta)(hb:PE X b tb):PE X (.IfExp c a b pos) (tIf tA ta tb):=by
 intro pins s σ H Q I h
 refine wpAny_IfExp (thn (hc pins s σ H _ I h) fun d s1 ⟨H1,I1,q1⟩=>?_)
 cases d with
 | true=>exact ha pins s1 σ H1 Q I1 q1
 | false=>exact hb pins s1 σ H1 Q I1 q1
end
end L2
namespace L2
open PySem PySem.Spec PyProof.Rows
def SqL (K:W.Frag)(H:Hp)(a:Addr)(xs:List V):Prop:=
 Rd H a (.lst xs)\/
  ∃ (o:Obj) (its:Array Value) (n:Nat),K.lookup a=some o/\o.cls= .type "list" /\o.dict=none/\o.data= .seq its n/\its.size<=sizeLine/\Vals xs its.toList
def SqT (K:W.Frag)(H:Hp)(a:Addr)(xs:List V):Prop:=
 Rd H a (.tup xs)\/
  ∃ (o:Obj) (its:Array Value) (n:Nat),K.lookup a=some o/\o.cls= .type "tuple" /\o.data= .seq its n/\its.size<=sizeLine/\Vals xs its.toList
noncomputable def absV:Value->Option V
 | .none=>some .non
 | .bool b=>some (.bl b)
 | .int i _=>some (.int i)
 | .str x _=>some (.str x)
 | .bytes b _=>some (.byt b)
 | .float b _=>some (.flt b)
 | .ref a=>some (.ref a)
 | .type n=>some (.ty n)
 | _=>none
theorem RelV.abs {x:V}{u:Value}(r:RelV x u):absV u=some x:=by
 cases x with
 | non=>cases r; rfl
 | bl _=>cases r; rfl
 | int _=>obtain⟨t,rfl⟩:=r; rfl
 | str _=>obtain⟨t,rfl⟩:=r; rfl
 | byt _=>obtain⟨t,rfl⟩:=r; rfl
 | flt _=>obtain⟨t,rfl⟩:=r; rfl
 | ref _=>cases r; rfl
 | ty _=>cases r; rfl
theorem RelV.inj {x y:V}{u:Value}(r:RelV x u)(q:RelV y u):x=y:=ba (r.abs.symm.trans q.abs)
theorem Vals.inj:∀ {xs ys:List V}{us:List Value},Vals xs us->Vals ys us->xs=ys
 | _,_,_, .nil, .nil=>rfl
 | _,_,_, .cons r t, .cons r' t'=>by rw[r.inj r',Vals.inj t t']
section
variable {X:Cx}{pins:List (Addr×Obj)}{σ:St}{H:Hp}{s:Shared}{a:Addr}{xs ys:List V}
theorem SqL.of {K:W.Frag}(h:H a=some (.lst xs)):SqL K H a xs:= .inl (.inl h)
theorem SqT.of {K:W.Frag}(h:H a=some (.tup xs)):SqT K H a xs:= .inl (.inl h)
theorem Inv.list (I:Inv X pins σ H s)(h:SqL X.K H a xs):∃ its:List Value,Vals xs its/\PlainL s.heap a its.toArray/\xs.length<=sizeLine:=by
 rcases h with h | ⟨o,its,n,hk,hc,hd,hs,hz,r⟩
 ·obtain⟨z,its,n,r,e⟩:=h.ok I.hok
  exact⟨its,r,⟨_,n,e,rfl,rfl,rfl⟩,z⟩
 ·refine⟨its.toList,r,⟨o,n,I.kIn a o hk,hc,hd,by simpa using hs⟩,?_⟩
  have e:=r.length
  simp only [bh] at e
  omega
theorem Inv.tuple (I:Inv X pins σ H s)(h:SqT X.K H a xs):∃ its:List Value,Vals xs its/\IsTup s.heap a its.toArray/\xs.length<=sizeLine:=by
 rcases h with h | ⟨o,its,n,hk,hc,hs,hz,r⟩
 ·obtain⟨z,its,r,p⟩:=h.ok I.hok
  exact⟨its,r,p.isTup,z⟩
 ·refine⟨its.toList,r,⟨o,I.kIn a o hk,hc,n,by simpa using hs⟩,?_⟩
  have e:=r.length
  simp only [bh] at e
  omega
theorem Inv.list_inj (I:Inv X pins σ H s)(h:SqL X.K H a xs)(h':SqL X.K H a ys):xs=ys:=by
 obtain⟨its,r,⟨o,n,e,_,_,d⟩,_⟩:=I.list h
 obtain⟨its',r',⟨o',n',e',_,_,d'⟩,_⟩:=I.list h'
 rw[e] at e'; cases e'
 rw[d] at d'
 injection d' with d1 _
 have:its=its':=by simpa using bP Array.toList d1
 subst this
 exact r.inj r'
theorem Inv.tuple_inj (I:Inv X pins σ H s)(h:SqT X.K H a xs)(h':SqT X.K H a ys):xs=ys:=by
 obtain⟨its,r,⟨o,e,_,n,d⟩,_⟩:=I.tuple h
 obtain⟨its',r',⟨o',e',_,n',d'⟩,_⟩:=I.tuple h'
 rw[e] at e'; cases e'
 rw[d] at d'
 injection d' with d1 _
 have:its=its':=by simpa using bP Array.toList d1
 subst this
 exact r.inj r'
end
abbrev Cx.wish (X:Cx)(E:Value->Shared->Prop):Cx:= { X with xe:=E}
abbrev Cx.nox (X:Cx):Cx:=X.wish fun _ _=>False
theorem Cx.Ok.wish {X:Cx}(ok:X.Ok)(E:Value->Shared->Prop):(X.wish E).Ok:=
 ⟨ok.mod,ok.kind,ok.glob,ok.blt,ok.above,ok.inj,ok.has,ok.cab,ok.hd,ok.frames,ok.stk,ok.exf,ok.bs,ok.bsz,ok.noex,ok.exfs,ok.funs,ok.frf⟩
theorem Cx.Ok.unwish {X:Cx}{E:Value->Shared->Prop}(ok:(X.wish E).Ok):X.Ok:=
 ⟨ok.mod,ok.kind,ok.glob,ok.blt,ok.above,ok.inj,ok.has,ok.cab,ok.hd,ok.frames,ok.stk,ok.exf,ok.bs,ok.bsz,ok.noex,ok.exfs,ok.funs,ok.frf⟩
section
variable {X:Cx}{pins:List (Addr×Obj)}{σ:St}{H:Hp}{s:Shared}{E:Value->Shared->Prop}
theorem Inv.wish (I:Inv X pins σ H s)(E:Value->Shared->Prop):Inv (X.wish E) pins σ H s:=⟨I.ok.wish E,I.os,I.bare,I.base,I.loc,I.cell,I.free,I.freeC,I.pin,I.hok,I.len⟩
theorem Inv.unwish (I:Inv (X.wish E) pins σ H s):Inv X pins σ H s:=⟨I.ok.unwish,I.os,I.bare,I.base,I.loc,I.cell,I.free,I.freeC,I.pin,I.hok,I.len⟩
theorem SP.unwish {D:Ends}{f:Flow}{s':Shared}(h:SP (X.wish E) pins D f s'):SP X pins D f s':=by
 cases f with
 | next=>obtain⟨σ',H',I,q⟩:=h; exact⟨σ',H',I.unwish,q⟩
 | brk=>obtain⟨σ',H',I,q⟩:=h; exact⟨σ',H',I.unwish,q⟩
 | cont=>obtain⟨σ',H',I,q⟩:=h; exact⟨σ',H',I.unwish,q⟩
 | ret u=>obtain⟨v,σ',H',I,r,q⟩:=h; exact⟨v,σ',H',I.unwish,r,q⟩
theorem PSs.nox {st:List Stmt}{t:TS}(h:PSs X.nox st t):PSs X st t:=fun pins s σ H D I hw=>
 cw (h pins s σ H D (I.wish _) hw) (fun _ _ q=>q.unwish) fun _ _ z=>False.elim z
end
section
variable {X:Cx}{st:Stmt}{rest:List Stmt}{t u:TS}{e:Expr}{te:TE}{pos:Pos}
def tNext:TS:=fun D σ H=>D.nx σ H
def tSeq (t u:TS):TS:=fun D σ H=>t { D with nx:=u D} σ H
theorem jDT:PSs X [] tNext:=fun _ _ σ H _ I h=>dN ⟨σ,H,I,h⟩
theorem yA (h1:PS X st t)(h2:PSs X rest u):PSs X (st::rest) (tSeq t u):=by
 intro pins s σ H D I h
 refine wpAny_execs_cons (thn (h1 pins s σ H { D with nx:=u D} I h) fun f s1 q=>?_)
 cases f with
 | next=>
  obtain⟨σ',H',I',q⟩:=q
  exact h2 pins s1 σ' H' D I' q
 | ret v=>exact q
 | brk=>exact q
 | cont=>exact q
theorem jAK (h1:PS X st t):PSs X [st] t:=by
 intro pins s σ H D I h
 refine wpAny_execs_cons (thn (h1 pins s σ H D I h) fun f s1 q=>?_)
 cases f with
 | next=>exact dN q
 | ret v=>exact q
 | brk=>exact q
 | cont=>exact q
theorem Inv.quiet {pins:List (Addr×Obj)}{σ:St}{H:Hp}{s:Shared}(I:Inv X pins σ H s):interactive X.env=false:=by simp [interactive,I.ok.kind]
def tDrop (te:TE):TS:=fun D σ H=>te σ H fun _ H1=>D.nx σ H1
theorem jNN (he:PE X e te)(hs:swapsWith e none pos.line X.env=pure false:=by rfl):PS X (.Expr e pos) (tDrop te):=by
 intro pins s σ H D I h
 exact wpAny_Expr_any (thn (he pins s σ H _ I h) fun v s1 ⟨x,H1,I1,r1,q1⟩=>⟨σ,H1,I1,q1⟩) I.quiet hs
def tRet (te:TE):TS:=fun D σ H=>te σ H D.rt
theorem jC0 (he:PE X e te):PS X (.Return (some e) pos) (tRet te):=by
 intro pins s σ H D I h
 exact wpAny_Return_some (thn (he pins s σ H _ I h) fun v s1 ⟨x,H1,I1,r1,q1⟩=>⟨x,σ,H1,I1,r1,q1⟩)
def tIfS (c:TT)(t u:TS):TS:=fun D σ H=>c σ H fun b H1=>if b=true then t D σ H1 else u D σ H1
theorem ps_if {c:Expr}{a b:List Stmt}{tc:TT}(hc:PT X c tc)(ha:PSs X a t)(hb:PSs X b u):PS X (.If c a b pos) (tIfS tc t u):=by
 intro pins s σ H D I h
 refine wpAny_If (thn (hc pins s σ H _ I h) fun d s1 ⟨H1,I1,q1⟩=>?_)
 cases d with
 | true=>exact ha pins s1 σ H1 D I1 q1
 | false=>exact hb pins s1 σ H1 D I1 q1
end
abbrev TG:=V->St->Hp->(St->Hp->Prop)->Prop
abbrev TGs:=List V->St->Hp->(St->Hp->Prop)->Prop
def PG (X:Cx)(target:Expr)(t:TG):Prop:=
 ∀ (pins:List (Addr×Obj)) (s:Shared) (σ:St) (H:Hp) (v:V) (u:Value) (Q:St->Hp->Prop),Inv X pins σ H s->RelV v u->t v σ H Q->
  wpAny (model X.prog X.w) X.A (assign target X.env u) (fun _ s'=>∃ σ' H',Inv X pins σ' H' s'/\Q σ' H') X.xe s
def PGs (X:Cx)(ts:List Expr)(t:TGs):Prop:=
 ∀ (pins:List (Addr×Obj)) (s:Shared) (σ:St) (H:Hp) (vs:List V) (us:List Value) (Q:St->Hp->Prop),Inv X pins σ H s->Vals vs us->t vs σ H Q->
  wpAny (model X.prog X.w) X.A (assignInOrder ((assignEach ts X.env).map (·.2)) us) (fun _ s'=>∃ σ' H',Inv X pins σ' H' s'/\Q σ' H') X.xe s
abbrev TSet:=V->V->V->Hp->(Hp->Prop)->Prop
def PSet (X:Cx)(t:TSet):Prop:=
 ∀ (pins:List (Addr×Obj)) (s:Shared) (σ:St) (H:Hp) (o i v:V) (ov iv u:Value) (Q:Hp->Prop),Inv X pins σ H s->RelV o ov->RelV i iv->RelV v u->t o i v H Q->
  wpAny (model X.prog X.w) X.A (setItem ov iv u) (fun _ s'=>∃ H',Inv X pins σ H' s'/\Q H') X.xe s
abbrev TIp:=V->V->Hp->VK->Prop
def PIp (X:Cx)(op:Operator)(t:TIp):Prop:=
 ∀ (pins:List (Addr×Obj)) (s:Shared) (σ:St) (H:Hp) (x y:V) (v u:Value) (Q:VK),Inv X pins σ H s->RelV x v->RelV y u->t x y H Q->
  wpAny (model X.prog X.w) X.A (inplaceOp op v u) (EP X pins σ Q) X.xe s
section
variable {X:Cx}{pos:Pos}
def kS (i:Nat):TG:=fun v σ H Q=>Q (σ.set i (some v)) H
theorem jDV {i:Nat}{x:Str}(hN:X.N.Nodup)(hi:X.N[i]?=some x)(hx:Loc X.env.scope x)(hf:X.fn x=true\/X.env.scope.names.lookup x=some .local:=by first | exact .inl rfl | exact .inr rfl | assumption):PG X (.Name x pos) (kS i):=by
 intro pins s σ H v u Q I r h
 exact eM (jBD I hN hi hx r (fun s' I'=>⟨_,H,I',h⟩) hf)
def gNil:TGs:=fun vs σ H Q=>vs=[]/\Q σ H
def gCons (t:TG)(u:TGs):TGs:=fun vs σ H Q=>∃ v r,vs=v::r/\t v σ H fun σ' H'=>u r σ' H' Q
theorem jNT:PGs X [] gNil:=by
 intro pins s σ H vs us Q I r h
 obtain⟨e,h⟩:=h
 subst e
 cases r
 exact assignInOrder_nil ⟨σ,H,I,h⟩
theorem jLE {e:Expr}{es:List Expr}{t:TG}{u:TGs}(h1:PG X e t)(h2:PGs X es u)
  (hs:(assignEach (e::es) X.env).map (·.2)=assign e X.env::(assignEach es X.env).map (·.2):=by rfl):PGs X (e::es) (gCons t u):=by
 intro pins s σ H vs us Q I r h
 obtain⟨v,vr,e1,h⟩:=h
 subst e1
 cases r with
 | cons r rr=>
  rw[hs]
  refine d8 (thn (h1 pins s σ H _ _ _ I r h) fun _ s1 ⟨σ1,H1,I1,q1⟩=>?_)
  exact h2 pins s1 σ1 H1 _ _ Q I1 rr q1
def gTup (K:W.Frag)(n:Nat)(t:TGs):TG:=fun v σ H Q=>∃ a xs,v= .ref a/\SqT K H a xs/\xs.length=n/\t xs σ H Q
theorem jPG {es:List Expr}{k:Nat}{t:TGs}{n:Nat}(hc:X.calm=true)(h:PGs X es t)
  (hn:(assignEach es X.env).length=n:=by rfl) (hst:(assignEach es X.env).findIdx? (·.1)=none:=by rfl):PG X (.Tuple es k pos) (gTup X.K n t):=by
 intro pins s σ H v u Q I r hw
 obtain⟨a,xs,e1,hq,hl,hw⟩:=hw
 subst e1
 cases r
 obtain⟨its,rv,ht,hz⟩:=I.tuple hq
 refine assign_Tuple_tuple (I.ok.hd hc) ht (by simp [hn,<- hl,rv.length]) hst fun h' hx=>?_
 have I1:Inv X pins σ H { s with heap:=h'} :=I.kept (t':=s.toks) fun b o e=>hx b o (aL (am e)) e
 exact h pins _ σ H xs _ Q I1 (by simpa using rv) hw
def gSub (to ti:TE)(t:TSet):TG:=fun v σ H Q=>to σ H fun o H1=>ti σ H1 fun i H2=>t o i v H2 fun H3=>Q σ H3
theorem jMP {o i:Expr}{to ti:TE}{t:TSet}(ho:PE X o to)(hi:PE X i ti)(hs:PSet X t)
  (ha:∀ v,assign (.Subscript o i pos) X.env v=(do
   let ov <- holding [v] (eval o X.env)
   let iv <- holding [v,ov] (eval i X.env)
   standAt pos
   holding [v,ov,iv] (setItem ov iv v)
   release [v,ov,iv] []):=by intro _; rfl):PG X (.Subscript o i pos) (gSub to ti t):=by
 intro pins s σ H v u Q I r h
 rw[ha]
 refine aa (cq (thn (ho pins s σ H _ I h) fun ov s1 ⟨x,H1,I1,r1,q1⟩=>?_))
 refine aa (cq (thn (hi pins s1 σ H1 _ I1 q1) fun iv s2 ⟨y,H2,I2,r2,q2⟩=>?_))
 refine aa (dG (aa (cq (thn (hs pins s2 σ H2 x y v ov iv u _ I2 r1 r2 r q2) fun _ s3 ⟨H3,I3,q3⟩=>?_))))
 exact wpAny_release ⟨σ,H3,I3,q3⟩
def tAsg (te:TE)(g:TG):TS:=fun D σ H=>te σ H fun x H1=>g x σ H1 D.nx
theorem jMN {tg e:Expr}{te:TE}{g:TG}(he:PE X e te)(hg:PG X tg g)(hs:swapsWithSole [tg] e pos.line X.env=pure false:=by rfl)(hw:swappedStores [tg] e X.env=pure none:=by rfl)
  (h1:(assignEach [tg] X.env).map (·.2)=[assign tg X.env]:=by rfl):PS X (.Assign [tg] e pos) (tAsg te g):=by
 intro pins s σ H D I h
 refine wpAny_Assign_stores (thn (he pins s σ H _ I h) fun v s1 ⟨x,H1,I1,r1,q1⟩=>?_) hs hw
 rw[h1]
 exact thn (hg pins s1 σ H1 x v _ I1 r1 q1) fun _ s2 q=>q
theorem yZ {i:Nat}{x:Str}{e:Expr}{te:TE}{pos':Pos}(hN:X.N.Nodup)(hi:X.N[i]?=some x)(hx:Loc X.env.scope x)(he:PE X e te)(hs:swapsWith e (some (.Name x pos')) pos.line X.env=pure false:=by rfl)(hf:X.fn x=true\/X.env.scope.names.lookup x=some .local:=by first | exact .inl rfl | exact .inr rfl | assumption):
  PS X (.Assign [.Name x pos'] e pos) (tAsg te (kS i)):=by
 intro pins s σ H D I h
 refine wpAny_Assign_Name (thn (he pins s σ H _ I h) fun v s1 ⟨y,H1,I1,r1,q1⟩=>?_) hs
 exact jBD I1 hN hi hx r1 (fun s2 I2=>⟨_,H1,I2,q1⟩) hf
def tPar (i j:Nat)(ta:TA):TS:=fun D σ H=>ta σ H fun vs H1=>∃ v w,vs=[v,w]/\D.nx ((σ.set i (some v)).set j (some w)) H1
theorem jPC {i j:Nat}{x y:Str}{a b:Expr}{ta:TA}{px py pt:Pos}{kt k2 pt2}(hc:X.calm=true)(hN:X.N.Nodup)(hi:X.N[i]?=some x)(hj:X.N[j]?=some y)(hij:i≠j)
  (hx:X.env.scope.names.lookup x=some .local) (hy:X.env.scope.names.lookup y=some .local) (ha:PA X [a,b] ta)
  (hw:swappedStores [.Tuple [.Name x px, .Name y py] kt pt] (.Tuple [a,b] k2 pt2) X.env=pure (some [x,y]))
  (hs:swapsWithSole [.Tuple [.Name x px, .Name y py] kt pt] (.Tuple [a,b] k2 pt2) pos.line X.env=pure false:=by rfl):
  PS X (.Assign [.Tuple [.Name x px, .Name y py] kt pt] (.Tuple [a,b] k2 pt2) pos) (tPar i j ta):=by
 intro pins s σ H D I h
 rw[exec_Assign_arm]
 refine aa (dG ?_)
 rw[hs]
 refine aa (ag ?_)
 rw[ai (by decide)]
 refine aa (Tuple_ (thn (ha _ pins s σ H _ I h) fun us s1 ⟨vs,H1,I1,r1,q1⟩=>?_))
 obtain⟨v,w,e1,q1⟩:=q1
 subst e1
 obtain⟨u1,u2,rfl,rv,rw'⟩:∃ u1 u2,us=[u1,u2]/\RelV v u1/\RelV w u2:=by
  cases r1 with
  | cons p q=>
   cases q with
   | cons p' q'=>
    cases q'
    exact⟨_,_,rfl,p,p'⟩
 refine bI ?_ (by show 2<=sizeLine; decide)
 have I2:Inv X pins σ H1 { s1 with heap:=s1.heap.push { cls:= .type "tuple",data:= .seq [u1,u2].toArray}} :=I1.kept (t':=s1.toks) fun b o e=>ae _ e
 rw[hw]
 refine aa (ag ?_)
 show wpAny (model X.prog X.w) X.A (do rule "assign.swapped-stores"; let items <- unpackItems (.ref s1.heap.objs.size) 2 none; assignInOrder [fun v=>bindName X.env y v,fun v=>bindName X.env x v] items.reverse; pure Flow.next) _ _ _
 refine aa (dn (aa (unpackItems_tuple (items:=#[u1,u2]) (I.ok.hd hc) (IsTup.new s1.heap _) fun h' hx'=>?_)))
 have I3:=I2.kept (h':=h') (t':=s1.toks) fun b o e=>hx' b o (aL (am e)) e
 show wpAny _ _ (assignInOrder [fun v=>bindName X.env y v,fun v=>bindName X.env x v] [u2,u1] >>= fun _=>pure Flow.next) _ _ _
 refine aa (d8 (wpAny_bindName (jBD I3 hN hj (.inl hy) rw' (fun s2 I4=>?_) (.inr hy))))
 refine d8 (wpAny_bindName (jBD I4 hN hi (.inl hx) rv (fun s3 I5=>assignInOrder_nil (ag ?_)) (.inr hx)))
 rw[List.set_comm _ _ (dj hij)] at I5
 exact⟨_,H1,I5,q1⟩
def tAug (i:Nat)(te:TE)(ti:TIp):TS:=fun D σ H=>∃ x,σ[i]?=some (some x)/\te σ H fun y H1=>ti x y H1 fun z H2=>D.nx (σ.set i (some z)) H2
theorem jPD {i:Nat}{x:Str}{e:Expr}{te:TE}{op:Operator}{ti:TIp}{pos':Pos}(hN:X.N.Nodup)(hi:X.N[i]?=some x)(hx:Loc X.env.scope x)(he:PE X e te)(ho:PIp X op ti)(hf:X.fn x=true\/X.env.scope.names.lookup x=some .local:=by first | exact .inl rfl | exact .inr rfl | assumption):
  PS X (.AugAssign (.Name x pos') op e pos) (tAug i te ti):=by
 intro pins s σ H D I h
 obtain⟨v,e1,h⟩:=h
 obtain⟨m,hn,hl⟩:=I.loc
 have vis:Vis X.env.scope x:=by rcases hx with k | k; exact .inl k; exact .inr (.inl k)
 obtain⟨u,r,l⟩:=hl i x v hi e1 vis
 refine wpAny_AugAssign_Name ?_
 have go:wpAny (model X.prog X.w) X.A (eval e X.env) (fun w s₂=>wpAny (model X.prog X.w) X.A (inplaceOp op u w) (fun r s₃=>wpAny (model X.prog X.w) X.A (storeName X.env x r) (fun _=>SP X pins D .next) X.xe s₃) X.xe s₂) X.xe s:=by
  refine thn (he pins s σ H _ I h) fun w s1 ⟨y,H1,I1,r1,q1⟩=>?_
  refine thn (ho pins s1 σ H1 v y u w _ I1 r r1 q1) fun z s2 ⟨zv,H2,I2,r2,q2⟩=>?_
  exact jBD I2 hN hi hx r2 (fun s3 I3=>⟨_,H2,I3,q2⟩) hf
 rcases l with ⟨hk,hm⟩ | ⟨hk,c,hc,hcell⟩
 ·exact wpAny_loadName_local I.ok.kind hk hn hm go
 ·rcases hk with hk | hk
  ·exact wpAny_loadName_cell I.ok.kind hk hc hcell go
  ·rcases hx with k | k
   ·have:X.env.scope.names.lookup x=some .free:=hk
    rw[k] at this; cases this
   ·have:X.env.scope.names.lookup x=some .free:=hk
    rw[k] at this; cases this
end
section
variable {X:Cx}{pos:Pos}
def jID (c:TT)(tb:TS):TS:=fun D σ H=>∃ W:Nat->St->Hp->Prop,(∃ m,W m σ H)/\∀ m σ H,W m σ H->
 c σ H fun b H1=>if b=true then ∃ N:St->Hp->Prop,(∀ σ' H',N σ' H'->∃ m',m'<m/\W m' σ' H')/\tb { D with nx:=N,ct:=N,bk:=D.nx} σ H1 else D.nx σ H1
theorem jLC {c:Expr}{body:List Stmt}{tc:TT}{tb:TS}(hp:PassesOwn (model X.prog X.w) X.A X.env X.xe)(hc:PT X c tc)(hb:PSs X body tb):PS X (.While c body [] pos) (jID tc tb):=by
 intro pins s σ H D I h
 obtain⟨W,⟨m0,w0⟩,turn⟩:=h
 refine wpAny_While (codeAny_whileLoop (fun n s'=>∃ σ' H',Inv X pins σ' H' s'/\W n σ' H') ?_ m0 ⟨σ,H,I,w0⟩)
 rintro n s1 ⟨σ1,H1,I1,w1⟩
 refine cA hp (thn (hc pins s1 σ1 H1 _ I1 (turn n σ1 H1 w1)) fun b s2 ⟨H2,I2,q2⟩=>?_)
 cases b with
 | true=>
  obtain⟨N,hN,q2⟩:=q2
  rw[ah rfl]
  refine cA hp (thn (hb pins s2 σ1 H2 _ I2 q2) fun f s3 q3=>?_)
  cases f with
  | next=>
   obtain⟨σ3,H3,I3,n3⟩:=q3
   obtain⟨m',hm,w3⟩:=hN σ3 H3 n3
   exact⟨m',hm,σ3,H3,I3,w3⟩
  | cont=>
   obtain⟨σ3,H3,I3,n3⟩:=q3
   obtain⟨m',hm,w3⟩:=hN σ3 H3 n3
   exact⟨m',hm,σ3,H3,I3,w3⟩
  | brk=>exact q3
  | ret v=>exact q3
 | false=>
  rw[ai av]
  exact dN ⟨σ1,H2,I2,q2⟩
end
structure It where
 go:Nat->Hp->Prop
 yld:Nat->Hp->V->Hp->Prop
 stop:Nat->Hp->Prop
def FpOk (X:Cx)(pins:List (Addr×Obj))(H:Hp)(b:Addr):Prop:=
 H b=none/\b≠X.env.locals/\b∉X.fs/\(b∈X.ex\/X.s₀.heap.objs.size<=b)/\(∀ x c,X.env.cells.lookup x=some c->c≠b)/\∀ p∈X.pn++pins,p.1≠b
theorem Inv.fpOk {X:Cx}{pins:List (Addr×Obj)}{σ:St}{H H':Hp}{s:Shared}{b:Addr}(I:Inv X pins σ H s)(hb:s.heap.objs.size<=b)(hn:H' b=none):FpOk X pins H' b:=by
 refine⟨hn,bN (aJ I.lt hb),I.nofs hb, .inr (aH I.sz hb),fun x c e z=>?_,fun p hp z=>?_⟩
 ·obtain⟨v,q⟩:=I.cell x c e
  exact absurd (aJ q.lt (by rw[z]; exact hb)) (bc _)
 ·exact absurd (aJ (am (I.pin p hp).1) (by rw[z]; exact hb)) (bc _)
structure Turn (P:Program)(w:World)(K:W.Frag)(tg:Expr)(J:It)(fp:List Addr)(it:Addr)(tn:Nat->Heap->Prop):Prop where
 mem:it∈fp
 obj:∀ i h,tn i h->∀ b∈fp,∃ o,h.get? b=some o/\∀ v,o.data≠ .cell v
 keep:∀ i h h',tn i h->(∀ b∈fp,∀ o,h.get? b=some o->h'.get? b=some o)->tn i h'
 item:∀ (X:Cx),X.prog=P->X.w=w->X.K=K->X.calm=true->∀ (i:Nat) (pins:List (Addr×Obj)) (s:Shared) (σ:St) (H:Hp) (E:Value->Shared->Prop),Inv X pins σ H s->(∀ b∈fp,FpOk X pins H b)->tn i s.heap->J.go i H->
  wpAny (model P w) X.A (pyNext (.ref it)) (fun r s1=>∃ u,r=some u/\
   wpAny (model P w) X.A (letOwnedTupleGo tg (.ref it) u) (fun _ s2=>∃ x H',Inv X pins σ H' s2/\RelV x u/\J.yld i H x H'/\tn (i+1) s2.heap/\∀ b∈fp,H' b=none) E s1) E s
 done:∀ (X:Cx),X.prog=P->X.w=w->X.K=K->X.calm=true->∀ (i:Nat) (pins:List (Addr×Obj)) (s:Shared) (σ:St) (H:Hp) (E:Value->Shared->Prop),Inv X pins σ H s->(∀ b∈fp,FpOk X pins H b)->tn i s.heap->J.stop i H->
  wpAny (model P w) X.A (pyNext (.ref it)) (fun r s1=>r=none/\Inv X pins σ H s1) E s
 self:∀ (A:Around) (i:Nat) (s:Shared) (Q:Value->Shared->Prop) (E:Value->Shared->Prop),tn i s.heap->Q (.ref it) s->wpAny (model P w) A (pyIter (.ref it)) Q E s
abbrev TI:=St->Hp->(It->Hp->Prop)->Prop
def PIE (X:Cx)(pins:List (Addr×Obj))(σ:St)(tg:Expr)(R:It->Hp->Prop)(itv:Value)(s2:Shared):Prop:=
 ∃ (it:Addr) (fp:List Addr) (tn:Nat->Heap->Prop) (J:It) (H':Hp),itv= .ref it/\Inv X pins σ H' s2/\Turn X.prog X.w X.K tg J fp it tn/\tn 0 s2.heap/\(∀ b∈fp,FpOk X pins H' b)/\R J H'
def PI (X:Cx)(tg iter:Expr)(wi:TI):Prop:=
 ∀ (pins:List (Addr×Obj)) (s:Shared) (σ:St) (H:Hp) (R:It->Hp->Prop),Inv X pins σ H s->wi σ H R->
  wpAny (model X.prog X.w) X.A (eval iter X.env) (fun v s1=>wpAny (model X.prog X.w) X.A (pyIter v) (PIE X pins σ tg R) X.xe s1) X.xe s
theorem go_of {M:Model}{A:Around}{E:Value->Shared->Prop}{s:Shared}{tg:Expr}{it:Addr}{u:Value}{o:Obj}{n:String}{vs:Array Value}{Q:Unit->Shared->Prop}(ho:s.heap.get? it=some o)(hc:o.cls= .type n)(hd:o.data= .fields vs)
  (hn: ["enumerate","zip","dict_itemiterator","dict_reverseitemiterator","odict_iterator","itertools.zip_longest","itertools.pairwise"].contains n=false) (hQ:Q () s):wpAny M A (letOwnedTupleGo tg (.ref it) u) Q E s:=by
 unfold letOwnedTupleGo
 cases tg <;> first
  | exact ag hQ
  | (cases u <;> first
    | exact ag hQ
    | (refine aa (fw ho ?_)
       rw [hc, hd]
       show wpAny M A (if (["enumerate", "zip", "dict_itemiterator", "dict_reverseitemiterator", "odict_iterator", "itertools.zip_longest", "itertools.pairwise"].contains n && vs[0]? == some (rawInt _)) = true then _ else _) Q E s
       rw [ai (by intro h; rw [hn, bX] at h; cases h)]
       exact ag hQ))
def Itl (K:W.Frag)(a:Addr):It:=
 ⟨fun i H=>∃ xs x,SqL K H a xs/\xs[i]?=some x,fun i H x H'=>H'=H/\∀ xs,SqL K H a xs->xs[i]?=some x,fun i H=>∃ xs,SqL K H a xs/\xs.length<=i⟩
def Itt (K:W.Frag)(a:Addr):It:=
 ⟨fun i H=>∃ xs x,SqT K H a xs/\xs[i]?=some x,fun i H x H'=>H'=H/\∀ xs,SqT K H a xs->xs[i]?=some x,fun i H=>∃ xs,SqT K H a xs/\xs.length<=i⟩
def Itr (lo:Int)(n:Nat):It:=⟨fun i _=>i<n,fun i H x H'=>H'=H/\x= .int (lo+i),fun i _=>n<=i⟩
theorem jI3 {P:Program}{w:World}{K:W.Frag}{tg:Expr}(a it:Addr):Turn P w K tg (Itl K a) [it] it (fun i h=>h.IsListIter it a i) where
 mem:=by simp
 obj:=fun i h st b hb=>by
  have e:b=it:=by simpa using hb
  subst e
  obtain⟨o,e,c,d⟩:=st
  exact⟨o,e,fun v z=>by rw[d] at z; cases z⟩
 keep:=fun i h h' st k=>st.at fun o e=>k it (by simp) o e
 item:=by
  intro X hP hw hK hc i pins s σ H E I hf st hg
  subst hP hw hK
  obtain⟨xs,x,hq,hx⟩:=hg
  obtain⟨its,rv,p,hz⟩:=I.list hq
  obtain⟨u,hu,ru⟩:=rv.get hx
  obtain⟨f0,f1,f2,f3,f4,f5⟩:=hf it (by simp)
  refine wpAny_pyNext_list_item st p.isList (x:=u) (by simpa using hu) fun h' st' sb=>?_
  have I1:Inv X pins σ H { s with heap:=h'} :=I.turned (t':=s.toks) (fun b o hb e=>(sb.2 b hb).trans e) f0 f1 f3 f4 f5
  obtain⟨o,e,c,d⟩:=id st'
  exact⟨u,rfl,go_of (s:= { s with heap:=h'}) e c d (by decide) ⟨x,H,I1,ru,⟨rfl,fun ys hy=>by rw[I.list_inj hy hq]; exact hx⟩,st',fun b hb=>(hf b hb).1⟩⟩
 done:=by
  intro X hP hw hK hc i pins s σ H E I hf st hg
  subst hP hw hK
  obtain⟨xs,hq,hx⟩:=hg
  obtain⟨its,rv,p,hz⟩:=I.list hq
  obtain⟨f0,f1,f2,f3,f4,f5⟩:=hf it (by simp)
  have hl:=rv.length
  exact wpAny_pyNext_list_end (I.ok.hd hc) st p.isList (by simp; omega) fun h' eb=>⟨rfl,I.turned (t':=s.toks) (fun b o hb e=>eb b o hb e) f0 f1 f3 f4 f5⟩
 self:=fun _ _ _ _ _ st h=>wpAny_pyIter_listiter st h
theorem jHD {P:Program}{w:World}{K:W.Frag}{tg:Expr}(a it:Addr):Turn P w K tg (Itt K a) [it] it (fun i h=>h.IsTupleIter it a i) where
 mem:=by simp
 obj:=fun i h st b hb=>by
  have e:b=it:=by simpa using hb
  subst e
  obtain⟨o,e,c,d⟩:=st
  exact⟨o,e,fun v z=>by rw[d] at z; cases z⟩
 keep:=fun i h h' st k=>st.at fun o e=>k it (by simp) o e
 item:=by
  intro X hP hw hK hc i pins s σ H E I hf st hg
  subst hP hw hK
  obtain⟨xs,x,hq,hx⟩:=hg
  obtain⟨its,rv,p,hz⟩:=I.tuple hq
  obtain⟨u,hu,ru⟩:=rv.get hx
  obtain⟨f0,f1,f2,f3,f4,f5⟩:=hf it (by simp)
  refine wpAny_pyNext_tuple_item st (show s.heap.IsTuple a its.toArray from p) (x:=u) (by simpa using hu) fun h' st' sb=>?_
  have I1:Inv X pins σ H { s with heap:=h'} :=I.turned (t':=s.toks) (fun b o hb e=>(sb.2 b hb).trans e) f0 f1 f3 f4 f5
  obtain⟨o,e,c,d⟩:=id st'
  exact⟨u,rfl,go_of (s:= { s with heap:=h'}) e c d (by decide) ⟨x,H,I1,ru,⟨rfl,fun ys hy=>by rw[I.tuple_inj hy hq]; exact hx⟩,st',fun b hb=>(hf b hb).1⟩⟩
 done:=by
  intro X hP hw hK hc i pins s σ H E I hf st hg
  subst hP hw hK
  obtain⟨xs,hq,hx⟩:=hg
  obtain⟨its,rv,p,hz⟩:=I.tuple hq
  obtain⟨f0,f1,f2,f3,f4,f5⟩:=hf it (by simp)
  have hl:=rv.length
  exact wpAny_pyNext_tuple_end (I.ok.hd hc) st (show s.heap.IsTuple a its.toArray from p) (by simp; omega) fun h' eb=>⟨rfl,I.turned (t':=s.toks) (fun b o hb e=>eb b o hb e) f0 f1 f3 f4 f5⟩
 self:=fun _ _ _ _ _ st h=>wpAny_pyIter_tupleiter st h
theorem jHE {P:Program}{w:World}{K:W.Frag}{tg:Expr}(it:Addr)(lo:Int)(n:Nat):Turn P w K tg (Itr lo n) [it] it (fun i h=>IsRangeIter h it (lo+(i:Nat)*1) ((n:Int) - (i:Nat)) 1) where
 mem:=by simp
 obj:=fun i h st b hb=>by
  have e:b=it:=by simpa using hb
  subst e
  exact⟨_,st,fun v z=>by
   have z':Data.fields _=Data.cell v:=z
   cases z'⟩
 keep:=fun i h h' st k=>k it (by simp) _ st
 item:=by
  intro X hP hw hK hc i pins s σ H E I hf st hg
  subst hP hw hK
  obtain⟨f0,f1,f2,f3,f4,f5⟩:=hf it (by simp)
  have W:=Walks.range (prog:=X.prog) (w:=X.w) (I.ok.hd hc) it lo 1 n
  refine W.item i s _ _ hg st fun v h' tk hv st' kk=>?_
  obtain⟨t,rfl⟩:=hv
  have I1:Inv X pins σ H { s with heap:=h',toks:=tk} :=I.turned (fun b o hb e=>kk b o (by simpa using hb) e) f0 f1 f3 f4 f5
  refine⟨_,rfl,go_of (s:= { s with heap:=h',toks:=tk}) (n:= "range_iterator") st' rfl rfl (by decide) ⟨.int (lo+i),H,I1,⟨t,?_⟩,⟨rfl,rfl⟩,st',fun b hb=>(hf b hb).1⟩⟩
  rw[bY]
 done:=by
  intro X hP hw hK hc i pins s σ H E I hf st hg
  subst hP hw hK
  obtain⟨f0,f1,f2,f3,f4,f5⟩:=hf it (by simp)
  exact wpAny_pyNext_range_end (I.ok.hd hc) st (by have:n<=i:=hg; omega) fun h' eb=>⟨rfl,I.turned (t':=s.toks) (fun b o hb e=>eb b o hb e) f0 f1 f3 f4 f5⟩
 self:=fun _ _ _ _ _ st h=>wpAny_pyIter_rangeiter st h
end L2
namespace L2
open PySem PySem.Spec PyProof.Rows
section
variable {X:Cx}{tg:Expr}
def iList (K:W.Frag)(tl:TE):TI:=fun σ H R=>tl σ H fun x H1=>∃ a,x= .ref a/\(∃ xs,SqL K H1 a xs)/\R (Itl K a) H1
def iTup (K:W.Frag)(tl:TE):TI:=fun σ H R=>tl σ H fun x H1=>∃ a,x= .ref a/\(∃ xs,SqT K H1 a xs)/\R (Itt K a) H1
theorem jNR {l:Expr}{tl:TE}(hl:PE X l tl):PI X tg l (iList X.K tl):=by
 intro pins s σ H R I h
 refine thn (hl pins s σ H _ I h) fun v s1 ⟨x,H1,I1,r1,q1⟩=>?_
 obtain⟨a,e,⟨xs,hq⟩,q⟩:=q1
 subst e
 cases r1
 obtain⟨its,rv,p,hz⟩:=I1.list hq
 refine cD p.isList ?_
 refine⟨s1.heap.objs.size,[s1.heap.objs.size],_,_,H1,rfl,I1.kept (t':=s1.toks) fun b o e=>ae _ e,jI3 a _,⟨_,ak _ rfl,rfl,rfl⟩,fun b hb=>?_,q⟩
 have e:b=s1.heap.objs.size:=by simpa using hb
 subst e
 exact I1.fpOk (af _) (I1.hok.fresh (af _))
theorem jPF {l:Expr}{tl:TE}(hl:PE X l tl):PI X tg l (iTup X.K tl):=by
 intro pins s σ H R I h
 refine thn (hl pins s σ H _ I h) fun v s1 ⟨x,H1,I1,r1,q1⟩=>?_
 obtain⟨a,e,⟨xs,hq⟩,q⟩:=q1
 subst e
 cases r1
 obtain⟨its,rv,p,hz⟩:=I1.tuple hq
 refine d9 (show s1.heap.IsTuple a its.toArray from p) ?_
 refine⟨s1.heap.objs.size,[s1.heap.objs.size],_,_,H1,rfl,I1.kept (t':=s1.toks) fun b o e=>ae _ e,jHD a _,⟨_,ak _ rfl,rfl,rfl⟩,fun b hb=>?_,q⟩
 have e:b=s1.heap.objs.size:=by simpa using hb
 subst e
 exact I1.fpOk (af _) (I1.hok.fresh (af _))
theorem jGK {pins:List (Addr×Obj)}{σ:St}{H:Hp}{s:Shared}{R:It->Hp->Prop}{E:Value->Shared->Prop}{lo hi:Int}{t u v:Tok}{tk:Nat}(I:Inv X pins σ H s)(h1: -(2 ^ 62)<=lo)(h2:lo<2 ^ 62)(h3: -(2 ^ 62)<=hi)(h4:hi<2 ^ 62)
  (q:R (Itr lo (hi - lo).toNat) H):wpAny (model X.prog X.w) X.A (pyIter (.ref s.heap.objs.size)) (PIE X pins σ tg R) E { s with heap:=s.heap.push { cls:= .type "range",data:= .fields #[.int lo t, .int hi u, .int 1 v]},toks:=tk} :=by
 refine wpAny_pyIter_range (IsRange.new ..) (small_one h1 h2 h3 h4) ?_
 have I1:Inv X pins σ H { s with heap:=s.heap.push { cls:= .type "range",data:= .fields #[.int lo t, .int hi u, .int 1 v]},toks:=tk} :=I.kept fun b o e=>ae _ e
 refine⟨(s.heap.push { cls:= .type "range",data:= .fields #[.int lo t, .int hi u, .int 1 v]}).objs.size,[(s.heap.push { cls:= .type "range",data:= .fields #[.int lo t, .int hi u, .int 1 v]}).objs.size],_,_,H,rfl,
  I1.kept (t':=tk) fun b o e=>ae _ e,jHE _ lo (hi - lo).toNat,?_,fun b hb=>?_,q⟩
 ·have e1:lo+((0:Nat):Int)*1=lo:=by simp
  have e2:(((hi - lo).toNat:Nat):Int) - ((0:Nat):Int)=Builtin.Range.rangeSize lo hi 1:=by rw[rangeSize_one]; split <;> omega
  show IsRangeIter _ _ (lo+((0:Nat):Int)*1) ((((hi - lo).toNat:Nat):Int) - ((0:Nat):Int)) 1
  rw[e1,e2]
  exact ak _ rfl
 ·have e:b=(s.heap.push { cls:= .type "range",data:= .fields #[.int lo t, .int hi u, .int 1 v]}).objs.size:=by simpa using hb
  subst e
  exact I1.fpOk (af _) (I1.hok.fresh (af _))
def iRng1 (ta:TA):TI:=fun σ H R=>ta σ H fun vs H1=>∃ j:Int,vs=[.int j]/\ -(2 ^ 62)<=j/\j<2 ^ 62/\R (Itr 0 j.toNat) H1
def iRng2 (ta:TA):TI:=fun σ H R=>ta σ H fun vs H1=>∃ i j:Int,vs=[.int i, .int j]/\(-(2 ^ 62)<=i/\i<2 ^ 62/\ -(2 ^ 62)<=j/\j<2 ^ 62)/\R (Itr i (j - i).toNat) H1
theorem jBF {a:Expr}{ta:TA}{p pos:Pos}(hg:Gl X "range")(hm:X.mg "range" =none)(ha:PA X [a] ta)(hs:starEach [a] X.env=[(false,eval a X.env)]:=by rfl):PI X tg (.Call (.Name "range" p) [a] [] pos) (iRng1 ta):=by
 intro pins s σ H R I h
 refine Call_ (jCO I hg hm boot_range (bQ (thn (ha pos pins s σ H _ I h) fun us s1 ⟨vs,H1,I1,r1,q1⟩=>?_) hs rfl))
 obtain⟨j,e,q1,q2,q⟩:=q1
 subst e
 cases r1 with
 | cons r rr=>
  cases rr
  obtain⟨t,rfl⟩:=r
  exact call_range_1 (jGK I1 (by omega) (by omega) q1 q2 (by simpa using q))
theorem jJ1 {a b:Expr}{ta:TA}{p pos:Pos}(hg:Gl X "range")(hm:X.mg "range" =none)(ha:PA X [a,b] ta)(hs:starEach [a,b] X.env=[(false,eval a X.env),(false,eval b X.env)]:=by rfl)(hs2:starEach [b] X.env=[(false,eval b X.env)]:=by rfl):
  PI X tg (.Call (.Name "range" p) [a,b] [] pos) (iRng2 ta):=by
 intro pins s σ H R I h
 refine Call_ (jCO I hg hm boot_range (bQ (thn (ha pos pins s σ H _ I h) fun us s1 ⟨vs,H1,I1,r1,q1⟩=>?_) (by rw[hs,hs2]) (by rw[hs2]; rfl)))
 obtain⟨i,j,e,⟨q1,q2,q3,q4⟩,q⟩:=q1
 subst e
 cases r1 with
 | cons r rr=>
  cases rr with
  | cons r' rr=>
   cases rr
   obtain⟨t,rfl⟩:=r
   obtain⟨t',rfl⟩:=r'
   exact call_range_2 (jGK I1 q1 q2 q3 q4 q)
def tFor (wi:TI)(g:TG)(tb:TS):TS:=fun D σ H=>wi σ H fun J H1=>∃ W:Nat->Nat->St->Hp->Prop,(∃ m,W 0 m σ H1)/\∀ i m σ H,W i m σ H->
 (J.stop i H/\D.nx σ H)\/(J.go i H/\∃ N:St->Hp->Prop,(∀ σ' H',N σ' H'->∃ m',m'<m/\W (i+1) m' σ' H')/\∀ x H',J.yld i H x H'->g x σ H' fun σ2 H2=>tb { D with nx:=N,ct:=N,bk:=D.nx} σ2 H2)
def jD7 (fp:List Addr)(h:Heap):List (Addr×Obj):=fp.filterMap fun b=>(h.get? b).map fun o=>(b,o)
theorem jA7 {fp:List Addr}{h:Heap}{b:Addr}{o:Obj}(hb:b∈fp)(e:h.get? b=some o):(b,o)∈jD7 fp h:=gC.mpr ⟨b,hb,by rw[e]; rfl⟩
theorem jJ8 {fp:List Addr}{h:Heap}{p:Addr×Obj}(hp:p∈jD7 fp h):p.1∈fp/\h.get? p.1=some p.2:=by
 obtain⟨b,hb,e⟩:=gC.mp hp
 cases q:h.get? b with
 | none=>rw[q] at e; cases e
 | some o=>
  rw[q] at e
  have e':(b,o)=p:=ba e
  subst e'
  exact⟨hb,q⟩
theorem Inv.pinned {pins:List (Addr×Obj)}{σ:St}{H:Hp}{s:Shared}{fp:List Addr}(I:Inv X pins σ H s)(hf:∀ b∈fp,FpOk X pins H b)(ho:∀ b∈fp,∃ o,s.heap.get? b=some o/\∀ v,o.data≠ .cell v):Inv X (pins++jD7 fp s.heap) σ H s:=
 I.pins_of fun p hp=>(bx.mp hp).elim (fun z=>I.pin p (aS _ z)) fun z=>by
  obtain⟨hb,e⟩:=jJ8 z
  obtain⟨f0,f1,f2,_⟩:=hf p.1 hb
  obtain⟨o,e',d⟩:=ho p.1 hb
  rw[e] at e'; cases e'
  exact⟨e,f0,f1,f2,d⟩
theorem Inv.unpinned {pins pl:List (Addr×Obj)}{σ:St}{H:Hp}{s:Shared}(I:Inv X (pins++pl) σ H s):Inv X pins σ H s:=I.pins_of fun p hp=>I.pin p (aS _ (cR _ hp))
theorem jMM {iter:Expr}{body:List Stmt}{wi:TI}{g:TG}{tb:TS}{pos:Pos}(hp:PassesOwn (model X.prog X.w) X.A X.env X.xe)(hc:X.calm=true)(hi:PI X tg iter wi)(hg:PG X tg g)(hb:PSs X body tb)
  (hs:∀ x,foldedSetIterable iter X.env x=pure x:=by intro _; rfl):PS X (.For tg iter body [] pos) (tFor wi g tb):=by
 intro pins s σ H D I h
 refine wpAny_For (thn (hi pins s σ H _ I h) fun v s1 h1=>thn h1 fun itv s2 h2=>?_) hs
 obtain⟨it,fp,tn,J,H2,e,I2,T,st2,f2,W,⟨m0,w0⟩,turn⟩:=h2
 subst e
 have stat:∀ {H':Hp},(∀ b∈fp,H' b=none)->∀ b∈fp,FpOk X pins H' b:=fun hn b hb=>⟨hn b hb,(f2 b hb).2⟩
 refine codeAny_forLoop_any (fun n s'=>∃ i σ' H',Inv X pins σ' H' s'/\tn i s'.heap/\(∀ b∈fp,H' b=none)/\W i n σ' H') ?_ m0 ⟨0,σ,H2,I2,st2,fun b hb=>(f2 b hb).1,w0⟩
 rintro n s3 ⟨i,σ3,H3,I3,st3,fr3,w3⟩
 rcases turn i n σ3 H3 w3 with ⟨stop,qn⟩ | ⟨go,N,hN,step⟩
 ·refine cA hp (thn (T.done X rfl rfl rfl hc i pins s3 σ3 H3 X.xe I3 (stat fr3) st3 stop) fun r s4 ⟨hr,I4⟩=>?_)
  subst hr
  exact dN ⟨σ3,H3,I4,qn⟩
 ·refine cA hp (thn (T.item X rfl rfl rfl hc i pins s3 σ3 H3 X.xe I3 (stat fr3) st3 go) fun r s4 ⟨u,hr,h4⟩=>?_)
  subst hr
  refine cA hp (thn h4 fun _ s5 ⟨x,H5,I5,r5,y5,st5,fr5⟩=>?_)
  have I5':=I5.pinned (stat fr5) (T.obj _ _ st5)
  refine cA hp (thn (hg _ s5 σ3 H5 x u _ I5' r5 (step x H5 y5)) fun _ s6 ⟨σ6,H6,I6,q6⟩=>?_)
  refine cA hp (thn (hb _ s6 σ6 H6 _ I6 q6) fun f s7 q7=>?_)
  have again:∀ {σ7:St}{H7:Hp},Inv X (pins++jD7 fp s5.heap) σ7 H7 s7->N σ7 H7->∃ m,m<n/\∃ i σ' H',Inv X pins σ' H' s7/\tn i s7.heap/\(∀ b∈fp,H' b=none)/\W i m σ' H':=fun {σ7 H7} I7 n7=>by
   obtain⟨m',hm,w7⟩:=hN σ7 H7 n7
   refine⟨m',hm,i+1,σ7,H7,I7.unpinned,T.keep _ _ _ st5 fun b hb o e=>(I7.pin (b,o) (aS _ (aS _ (jA7 hb e)))).1,fun b hb=>?_,w7⟩
   obtain⟨o,e,d⟩:=T.obj _ _ st5 b hb
   exact(I7.pin (b,o) (aS _ (aS _ (jA7 hb e)))).2.1
  cases f with
  | next=>obtain⟨σ7,H7,I7,n7⟩:=q7; exact again I7 n7
  | cont=>obtain⟨σ7,H7,I7,n7⟩:=q7; exact again I7 n7
  | brk=>obtain⟨σ7,H7,I7,q7⟩:=q7; exact⟨σ7,H7,I7.unpinned,q7⟩
  | ret v=>obtain⟨x7,σ7,H7,I7,r7,q7⟩:=q7; exact⟨x7,σ7,H7,I7.unpinned,r7,q7⟩
end
theorem jM4 {K:W.Frag}{a:Addr}{xs:List V}{g:TG}{tb:TS}{D:Ends}{σ:St}{H:Hp}(Pv:Nat->St->Hp->Prop)(h0:Pv 0 σ H)(hl:∀ i σ H,i<=xs.length->Pv i σ H->SqL K H a xs)
  (hs:∀ i x σ H,xs[i]?=some x->Pv i σ H->g x σ H fun σ2 H2=>tb { D with nx:=Pv (i+1),ct:=Pv (i+1),bk:=D.nx} σ2 H2) (hd:∀ σ H,Pv xs.length σ H->D.nx σ H):
  ∃ W:Nat->Nat->St->Hp->Prop,(∃ m,W 0 m σ H)/\∀ i m σ H,W i m σ H->
   ((Itl K a).stop i H/\D.nx σ H)\/((Itl K a).go i H/\∃ N:St->Hp->Prop,(∀ σ' H',N σ' H'->∃ m',m'<m/\W (i+1) m' σ' H')/\∀ x H',(Itl K a).yld i H x H'->g x σ H' fun σ2 H2=>tb { D with nx:=N,ct:=N,bk:=D.nx} σ2 H2):=by
 refine⟨fun i m σ H=>m=xs.length - i/\i<=xs.length/\Pv i σ H,⟨xs.length,by simp,aW _,h0⟩,?_⟩
 rintro i m σ H ⟨rfl,hi,p⟩
 have q:=hl i σ H hi p
 by_cases hlt:i<xs.length
 ·refine .inr ⟨⟨xs,xs[i],q,by simp [hlt]⟩,Pv (i+1),fun σ' H' p'=>⟨xs.length - (i+1),by omega,rfl,hlt,p'⟩,fun x H' y=>?_⟩
  obtain⟨e,y⟩:=y
  subst e
  exact hs i x σ _ (y xs q) p
 ·have e:i=xs.length:=by omega
  subst e
  exact .inl ⟨⟨xs,q,af _⟩,hd σ H p⟩
theorem jK7 {K:W.Frag}{a:Addr}{xs:List V}{g:TG}{tb:TS}{D:Ends}{σ:St}{H:Hp}(Pv:Nat->St->Hp->Prop)(h0:Pv 0 σ H)(hl:∀ i σ H,i<=xs.length->Pv i σ H->SqT K H a xs)
  (hs:∀ i x σ H,xs[i]?=some x->Pv i σ H->g x σ H fun σ2 H2=>tb { D with nx:=Pv (i+1),ct:=Pv (i+1),bk:=D.nx} σ2 H2) (hd:∀ σ H,Pv xs.length σ H->D.nx σ H):
  ∃ W:Nat->Nat->St->Hp->Prop,(∃ m,W 0 m σ H)/\∀ i m σ H,W i m σ H->
   ((Itt K a).stop i H/\D.nx σ H)\/((Itt K a).go i H/\∃ N:St->Hp->Prop,(∀ σ' H',N σ' H'->∃ m',m'<m/\W (i+1) m' σ' H')/\∀ x H',(Itt K a).yld i H x H'->g x σ H' fun σ2 H2=>tb { D with nx:=N,ct:=N,bk:=D.nx} σ2 H2):=by
 refine⟨fun i m σ H=>m=xs.length - i/\i<=xs.length/\Pv i σ H,⟨xs.length,by simp,aW _,h0⟩,?_⟩
 rintro i m σ H ⟨rfl,hi,p⟩
 have q:=hl i σ H hi p
 by_cases hlt:i<xs.length
 ·refine .inr ⟨⟨xs,xs[i],q,by simp [hlt]⟩,Pv (i+1),fun σ' H' p'=>⟨xs.length - (i+1),by omega,rfl,hlt,p'⟩,fun x H' y=>?_⟩
  obtain⟨e,y⟩:=y
  subst e
  exact hs i x σ _ (y xs q) p
 ·have e:i=xs.length:=by omega
  subst e
  exact .inl ⟨⟨xs,q,af _⟩,hd σ H p⟩
theorem jA2 {lo:Int}{n:Nat}{g:TG}{tb:TS}{D:Ends}{σ:St}{H:Hp}(Pv:Nat->St->Hp->Prop)(h0:Pv 0 σ H)
  (hs:∀ i σ H,i<n->Pv i σ H->g (.int (lo+i)) σ H fun σ2 H2=>tb { D with nx:=Pv (i+1),ct:=Pv (i+1),bk:=D.nx} σ2 H2) (hd:∀ σ H,Pv n σ H->D.nx σ H):
  ∃ W:Nat->Nat->St->Hp->Prop,(∃ m,W 0 m σ H)/\∀ i m σ H,W i m σ H->
   ((Itr lo n).stop i H/\D.nx σ H)\/((Itr lo n).go i H/\∃ N:St->Hp->Prop,(∀ σ' H',N σ' H'->∃ m',m'<m/\W (i+1) m' σ' H')/\∀ x H',(Itr lo n).yld i H x H'->g x σ H' fun σ2 H2=>tb { D with nx:=N,ct:=N,bk:=D.nx} σ2 H2):=by
 refine⟨fun i m σ H=>m=n - i/\i<=n/\Pv i σ H,⟨n,by simp,aW _,h0⟩,?_⟩
 rintro i m σ H ⟨rfl,hi,p⟩
 by_cases hlt:i<n
 ·refine .inr ⟨hlt,Pv (i+1),fun σ' H' p'=>⟨n - (i+1),by omega,rfl,hlt,p'⟩,fun x H' y=>?_⟩
  obtain⟨e,y⟩:=y
  subst e y
  exact hs i σ _ hlt p
 ·have e:i=n:=by omega
  subst e
  exact .inl ⟨af _,hd σ H p⟩
end L2
namespace L2
open PySem PySem.Spec PyProof.Rows
abbrev R2:=V->V->Hp->VK->Prop
def OpR (X:Cx)(f:Value->Value->Sem Value)(r:R2):Prop:=
 ∀ (pins:List (Addr×Obj)) (s:Shared) (σ:St) (H:Hp) (x y:V) (v u:Value) (Q:VK),Inv X pins σ H s->RelV x v->RelV y u->r x y H Q->
  wpAny (model X.prog X.w) X.A (f v u) (EP X pins σ Q) X.xe s
def UnR (X:Cx)(f:Value->Sem Value)(r:V->Hp->VK->Prop):Prop:=
 ∀ (pins:List (Addr×Obj)) (s:Shared) (σ:St) (H:Hp) (x:V) (v:Value) (Q:VK),Inv X pins σ H s->RelV x v->r x H Q->
  wpAny (model X.prog X.w) X.A (f v) (EP X pins σ Q) X.xe s
def yJ (X:Cx)(f:Value)(r:List V->Hp->VK->Prop):Prop:=
 ∀ (pins:List (Addr×Obj)) (s:Shared) (σ:St) (H:Hp) (xs:List V) (us:List Value) (Q:VK),Inv X pins σ H s->Vals xs us->r xs H Q->
  wpAny (model X.prog X.w) X.A (call f us) (EP X pins σ Q) X.xe s
def tOp (r:R2)(ta tb:TE):TE:=fun σ H Q=>ta σ H fun x H1=>tb σ H1 fun y H2=>r x y H2 Q
def tUn (r:V->Hp->VK->Prop)(ta:TE):TE:=fun σ H Q=>ta σ H fun x H1=>r x H1 Q
def rI (C:Int->Int->Prop)(g:Int->Int->V):R2:=fun x y H Q=>∃ i j,x= .int i/\y= .int j/\C i j/\Q (g i j) H
def rI0 (g:Int->Int->V):R2:=fun x y H Q=>∃ i j,x= .int i/\y= .int j/\Q (g i j) H
def rU (g:Int->V):V->Hp->VK->Prop:=fun x H Q=>∃ i,x= .int i/\Q (g i) H
section
variable {X:Cx}{a b c:Expr}{ta tb tc:TE}{pos:Pos}
theorem binT (ha:PE X a ta)(hb:PE X b tb){pins:List (Addr×Obj)}{s:Shared}{σ:St}{H:Hp}{R:V->V->Hp->Prop}(I:Inv X pins σ H s)
  (h:ta σ H fun x H1=>tb σ H1 fun y H2=>R x y H2) {Q:Value->Shared->Prop}{f:Value->Value->Sem Value}
  (hf:∀ v u s2 x y H2,Inv X pins σ H2 s2->RelV x v->RelV y u->R x y H2->wpAny (model X.prog X.w) X.A (f v u) Q X.xe s2):
  wpAny (model X.prog X.w) X.A (eval a X.env) (fun v s₁=>wpAny (model X.prog X.w) X.A (eval b X.env) (fun u s₂=>wpAny (model X.prog X.w) X.A (f v u) Q X.xe s₂) X.xe s₁) X.xe s:=by
 refine thn (ha pins s σ H _ I h) fun v s1 ⟨x,H1,I1,r1,q1⟩=>?_
 refine thn (hb pins s1 σ H1 _ I1 q1) fun u s2 ⟨y,H2,I2,r2,q2⟩=>?_
 exact hf v u s2 x y H2 I2 r1 r2 q2
theorem kX {op:Operator}{r:R2}(ho:OpR X (binaryOp op) r)(ha:PE X a ta)(hb:PE X b tb):PE X (.BinOp a op b pos) (tOp r ta tb):=by
 intro pins s σ H Q I h
 exact wpAny_BinOp (binT ha hb I h fun v u s2 x y H2 I2 rx ry q=>ho pins s2 σ H2 x y v u Q I2 rx ry q)
theorem pe_un {op:UnaryOp}{r:V->Hp->VK->Prop}(ho:UnR X (unaryOp op) r)(ha:PE X a ta):PE X (.UnaryOp op a pos) (tUn r ta):=by
 intro pins s σ H Q I h
 exact UnaryOp_ (thn (ha pins s σ H _ I h) fun v s1 ⟨x,H1,I1,r1,q1⟩=>ho pins s1 σ H1 x v Q I1 r1 q1)
theorem opI {f:Value->Value->Sem Value}{C:Int->Int->Prop}{g:Int->Int->Int}
  (rule:∀ (i j:Int) (t u:Tok) (s:Shared) (Q:Value->Shared->Prop) (E:Value->Shared->Prop),C i j->Q (.int (g i j) s.toks) { s with toks:=s.toks+1} ->wpAny (model X.prog X.w) X.A (f (.int i t) (.int j u)) Q E s):
  OpR X f (rI C fun i j=> .int (g i j)):=by
 intro pins s σ H x y v u Q I rx ry h
 obtain⟨i,j,rfl,rfl,hc,q⟩:=h
 obtain⟨t,rfl⟩:=rx
 obtain⟨t',rfl⟩:=ry
 exact rule i j t t' s _ _ hc ⟨.int (g i j),H,I.tok _,⟨_,rfl⟩,q⟩
theorem opI0 {f:Value->Value->Sem Value}{g:Int->Int->Int}
  (rule:∀ (i j:Int) (t u:Tok) (s:Shared) (Q:Value->Shared->Prop) (E:Value->Shared->Prop),Q (.int (g i j) s.toks) { s with toks:=s.toks+1} ->wpAny (model X.prog X.w) X.A (f (.int i t) (.int j u)) Q E s):
  OpR X f (rI0 fun i j=> .int (g i j)):=by
 intro pins s σ H x y v u Q I rx ry h
 obtain⟨i,j,rfl,rfl,q⟩:=h
 obtain⟨t,rfl⟩:=rx
 obtain⟨t',rfl⟩:=ry
 exact rule i j t t' s _ _ ⟨.int (g i j),H,I.tok _,⟨_,rfl⟩,q⟩
theorem opB0 {f:Value->Value->Sem Value}{g:Int->Int->Bool}
  (rule:∀ (i j:Int) (t u:Tok) (s:Shared) (Q:Value->Shared->Prop) (E:Value->Shared->Prop),Q (.bool (g i j)) s->wpAny (model X.prog X.w) X.A (f (.int i t) (.int j u)) Q E s):
  OpR X f (rI0 fun i j=> .bl (g i j)):=by
 intro pins s σ H x y v u Q I rx ry h
 obtain⟨i,j,rfl,rfl,q⟩:=h
 obtain⟨t,rfl⟩:=rx
 obtain⟨t',rfl⟩:=ry
 exact rule i j t t' s _ _ ⟨.bl (g i j),H,I,rfl,q⟩
def CPow (i j:Int):Prop:=0<=j/\j<=1000000/\i.natAbs<2 ^ 64
def CMul (i j:Int):Prop:=(-(2 ^ 64)<i/\i<2 ^ 64)\/(-(2 ^ 64)<j/\j<2 ^ 64)
theorem CMul.ok {i j:Int}(h:CMul i j):IntMulOk i j:=by
 rcases h with ⟨h1,h2⟩ | ⟨h1,h2⟩
 ·exact .of_left (intBits_le_64 h1 h2)
 ·exact .of_right (intBits_le_64 h1 h2)
theorem jHC (k:Nat):(0:Int)<=2 ^ k:=by
 rw[two_pow_cast]
 exact cM _
theorem kW:OpR X (binaryOp .Add) (rI0 fun i j=> .int (i+j)):=opI0 fun _ _ _ _ _ _ _ q=>add_int q
theorem jB3:OpR X (binaryOp .Sub) (rI0 fun i j=> .int (i - j)):=opI0 fun _ _ _ _ _ _ _ q=>sub_int q
theorem jC2:OpR X (binaryOp .Mult) (rI CMul fun i j=> .int (i*j)):=opI fun _ _ _ _ _ _ _ hc q=>mul_int q hc.ok
theorem jCI:OpR X (binaryOp .Mod) (rI (fun _ j=>0<j) fun i j=> .int (i % j)):=opI fun i j _ _ _ _ _ hc q=>by
 have h1:(0:Int)<j:=hc
 exact mod_int' (by omega) (by rw[Int.fmod_eq_emod_of_nonneg i (by omega)]; exact q)
theorem jJ2:OpR X (binaryOp .Pow) (rI CPow fun i j=> .int (i ^ j.toNat)):=opI fun _ _ _ _ _ _ _ hc q=>pow_int_small hc.1 hc.2.1 hc.2.2 q
theorem jPP:OpR X (binaryOp .LShift) (rI CPow fun i j=> .int (i*2 ^ j.toNat)):=opI fun _ _ _ _ _ _ _ hc q=>lshift_int_small hc.1 hc.2.1 hc.2.2 q
theorem jPO:OpR X (binaryOp .RShift) (rI (fun _ j=>0<=j) fun i j=> .int (i / 2 ^ j.toNat)):=opI fun i j _ _ _ _ _ hc q=>
 rshift_int hc (by rw[cS i (jHC _)]; exact q)
theorem jPU:OpR X (binaryOp .BitAnd) (rI0 fun i j=> .int (Builtin.bitAnd i j)):=opI0 fun _ _ _ _ _ _ _ q=>and_int q
theorem unI {f:Value->Sem Value}{g:Int->Int}
  (rule:∀ (i:Int) (t:Tok) (s:Shared) (Q:Value->Shared->Prop) (E:Value->Shared->Prop),Q (.int (g i) s.toks) { s with toks:=s.toks+1} ->wpAny (model X.prog X.w) X.A (f (.int i t)) Q E s):
  UnR X f (rU fun i=> .int (g i)):=by
 intro pins s σ H x v Q I rx h
 obtain⟨i,rfl,q⟩:=h
 obtain⟨t,rfl⟩:=rx
 exact rule i t s _ _ ⟨.int (g i),H,I.tok _,⟨_,rfl⟩,q⟩
theorem jEE:UnR X (unaryOp .USub) (rU fun i=> .int (-i)):=unI fun _ _ _ _ _ q=>neg_int q
end
noncomputable def scal:V->V->Bool
 | .non, .non=>true | .non, .int _=>true | .int _, .non=>true | .non, .bl _=>true | .bl _, .non=>true | .non, .str _=>true | .str _, .non=>true
 | .int _, .int _=>true | .bl _, .bl _=>true | .str _, .str _=>true | .byt _, .byt _=>true
 | .int _, .str _=>true | .str _, .int _=>true | .bl _, .str _=>true | .str _, .bl _=>true
 | _,_=>false
def rEq:R2:=fun x y H Q=>scal x y=true/\Q (.bl (decide (x=y))) H
def rNe:R2:=fun x y H Q=>scal x y=true/\Q (.bl (!decide (x=y))) H
theorem jBV {i j:Int} :decide (V.int i=V.int j)=(i==j):=by
 rw[cB]
 simp
theorem jMZ {i j:Bool} :decide (V.bl i=V.bl j)=(i==j):=by
 rw[cB]
 simp
theorem jKC {i j:Str} :decide (V.str i=V.str j)=(i==j):=by
 rw[cB]
 simp
theorem jKD {i j:Array UInt8} :decide (V.byt i=V.byt j)=(i.toList==j.toList):=by
 rw[cB]
 cases i
 cases j
 simp
section
variable {X:Cx}{a b c:Expr}{ta tb tc:TE}{pos:Pos}
theorem kE {pins:List (Addr×Obj)}{σ:St}{H:Hp}{s:Shared}{Q:VK}{k k':Bool}(I:Inv X pins σ H s)(q:Q (.bl k) H)(e:k=k'):EP X pins σ Q (.bool k') s:=by
 subst e
 exact⟨.bl k,H,I,rfl,q⟩
theorem qD:OpR X (compareOp .Eq) rEq:=by
 intro pins s σ H x y v u Q I rx ry h
 obtain⟨hs,q⟩:=h
 cases x with
 | non=>
  cases rx
  cases y with
  | non=>cases ry; exact PySem.EqNone.eq_none_none (kE I q (by simp))
  | bl j=>cases ry; exact PySem.EqNone.eq_none_bool (kE I q (by simp))
  | int j=>obtain⟨t',rfl⟩:=ry; exact PySem.EqNone.eq_none_int (kE I q (by simp))
  | str j=>obtain⟨t',rfl⟩:=ry; exact PySem.EqNone.eq_none_str (kE I q (by simp))
  | _=>exact absurd (show false=true from hs) av
 | bl i=>
  cases rx
  cases y with
  | non=>cases ry; exact PySem.EqNone.eq_bool_none (kE I q (by simp))
  | bl j=>cases ry; exact eq_bool (kE I q jMZ)
  | str j=>obtain⟨t',rfl⟩:=ry; exact PySem.EqMixed.eq_bool_str (kE I q (by simp))
  | _=>exact absurd (show false=true from hs) av
 | int i=>
  obtain⟨t,rfl⟩:=rx
  cases y with
  | non=>cases ry; exact PySem.EqNone.eq_int_none (kE I q (by simp))
  | int j=>obtain⟨t',rfl⟩:=ry; exact eq_int (kE I q jBV)
  | str j=>obtain⟨t',rfl⟩:=ry; exact PySem.EqMixed.eq_int_str (kE I q (by simp))
  | _=>exact absurd (show false=true from hs) av
 | str i=>
  obtain⟨t,rfl⟩:=rx
  cases y with
  | non=>cases ry; exact PySem.EqNone.eq_str_none (kE I q (by simp))
  | bl j=>cases ry; exact PySem.EqMixed.eq_str_bool (kE I q (by simp))
  | int j=>obtain⟨t',rfl⟩:=ry; exact PySem.EqMixed.eq_str_int (kE I q (by simp))
  | str j=>obtain⟨t',rfl⟩:=ry; exact eq_str (kE I q jKC)
  | _=>exact absurd (show false=true from hs) av
 | byt i=>
  obtain⟨t,rfl⟩:=rx
  cases y with
  | byt j=>obtain⟨t',rfl⟩:=ry; exact PySem.W.eq_bytes (kE I q jKD)
  | _=>exact absurd (show false=true from hs) av
 | _=>cases y <;> exact absurd (show false=true from hs) av
theorem op_ne:OpR X (compareOp .NotEq) rNe:=by
 intro pins s σ H x y v u Q I rx ry h
 obtain⟨hs,q⟩:=h
 cases x with
 | non=>
  cases rx
  cases y with
  | non=>cases ry; exact PySem.EqNone.ne_none_none (kE I q (by simp))
  | bl j=>cases ry; exact PySem.EqNone.ne_none_bool (kE I q (by simp))
  | int j=>obtain⟨t',rfl⟩:=ry; exact PySem.EqNone.ne_none_int (kE I q (by simp))
  | str j=>obtain⟨t',rfl⟩:=ry; exact PySem.EqNone.ne_none_str (kE I q (by simp))
  | _=>exact absurd (show false=true from hs) av
 | bl i=>
  cases rx
  cases y with
  | non=>cases ry; exact PySem.EqNone.ne_bool_none (kE I q (by simp))
  | bl j=>cases ry; exact ne_bool (kE I q (bP not jMZ))
  | str j=>obtain⟨t',rfl⟩:=ry; exact PySem.EqMixed.ne_bool_str (kE I q (by simp))
  | _=>exact absurd (show false=true from hs) av
 | int i=>
  obtain⟨t,rfl⟩:=rx
  cases y with
  | non=>cases ry; exact PySem.EqNone.ne_int_none (kE I q (by simp))
  | int j=>obtain⟨t',rfl⟩:=ry; exact ne_int (kE I q (bP not jBV))
  | str j=>obtain⟨t',rfl⟩:=ry; exact PySem.EqMixed.ne_int_str (kE I q (by simp))
  | _=>exact absurd (show false=true from hs) av
 | str i=>
  obtain⟨t,rfl⟩:=rx
  cases y with
  | non=>cases ry; exact PySem.EqNone.ne_str_none (kE I q (by simp))
  | bl j=>cases ry; exact PySem.EqMixed.ne_str_bool (kE I q (by simp))
  | int j=>obtain⟨t',rfl⟩:=ry; exact PySem.EqMixed.ne_str_int (kE I q (by simp))
  | str j=>obtain⟨t',rfl⟩:=ry; exact ne_str (kE I q (bP not jKC))
  | _=>exact absurd (show false=true from hs) av
 | byt i=>
  obtain⟨t,rfl⟩:=rx
  cases y with
  | byt j=>obtain⟨t',rfl⟩:=ry; exact PySem.W.ne_bytes (kE I q (bP not jKD))
  | _=>exact absurd (show false=true from hs) av
 | _=>cases y <;> exact absurd (show false=true from hs) av
theorem op_lt:OpR X (compareOp .Lt) (rI0 fun i j=> .bl (decide (i<j))):=opB0 fun _ _ _ _ _ _ _ q=>lt_int q
theorem op_le:OpR X (compareOp .LtE) (rI0 fun i j=> .bl (decide (i<=j))):=opB0 fun _ _ _ _ _ _ _ q=>le_int q
theorem qJ:OpR X (compareOp .Gt) (rI0 fun i j=> .bl (decide (j<i))):=opB0 fun _ _ _ _ _ _ _ q=>gt_int q
theorem op_ge:OpR X (compareOp .GtE) (rI0 fun i j=> .bl (decide (j<=i))):=opB0 fun _ _ _ _ _ _ _ q=>ge_int q
theorem jPR:OpR X (compareOp .Is) (fun x y H Q=>y= .non/\Q (.bl (decide (x= .non))) H):=by
 intro pins s σ H x y v u Q I rx ry h
 obtain⟨rfl,q⟩:=h
 cases ry
 refine is_none_gen (kE I q ?_)
 cases x <;> first
  | (cases rx; rfl)
  | (obtain⟨t,rfl⟩:=rx; rfl)
theorem jO0:OpR X (compareOp .IsNot) (fun x y H Q=>y= .non/\Q (.bl (!decide (x= .non))) H):=by
 intro pins s σ H x y v u Q I rx ry h
 obtain⟨rfl,q⟩:=h
 cases ry
 refine isnot_none_gen (kE I q ?_)
 cases x <;> first
  | (cases rx; rfl)
  | (obtain⟨t,rfl⟩:=rx; rfl)
theorem jP (b:Expr){op:CmpOp}(h:op≠ .In:=by decide)(h2:op≠ .NotIn:=by decide):behindInMarks op b=false:=by
 have e1:(op==CmpOp.In)=false:=by cases op <;> first | rfl | exact absurd rfl h
 have e2:(op==CmpOp.NotIn)=false:=by cases op <;> first | rfl | exact absurd rfl h2
 cases b <;> simp [behindInMarks,e1,e2]
theorem jNW {op:CmpOp}{r:R2}(ho:OpR X (compareOp op) r)(ha:PE X a ta)(hb:PE X b tb)(hm:behindInMarks op b=false):PE X (.Compare a [op] [b] pos) (tOp r ta tb):=by
 intro pins s σ H Q I h
 exact wpAny_Compare1 (binT ha hb I h fun v u s2 x y H2 I2 rx ry q=>ho pins s2 σ H2 x y v u Q I2 rx ry q) hm
def tTest (t:TE):TT:=fun σ H Q=>t σ H fun x H'=>∃ k,x= .bl k/\Q k H'
theorem jCH {op:CmpOp}{r:R2}(ho:OpR X (compareOp op) r)(ha:PE X a ta)(hb:PE X b tb)(hm:behindInMarks op b=false):PT X (.Compare a [op] [b] pos) (tTest (tOp r ta tb)):=by
 intro pins s σ H Q I h
 refine wpAny_isTrue_Compare1 (thn (ha pins s σ H _ I h) fun v s1 ⟨x,H1,I1,r1,q1⟩=>thn (hb pins s1 σ H1 _ I1 q1) fun u s2 ⟨y,H2,I2,r2,q2⟩=>
  thn (ho pins s2 σ H2 x y v u _ I2 r1 r2 q2) fun c s3 ⟨z,H3,I3,r3,k,e,q3⟩=>?_) hm
 subst e
 cases r3
 exact dy ⟨H3,I3,q3⟩
theorem jER:(sizeLine:Nat)<2 ^ 63:=by rw[cL]; decide
theorem vals1 {x:V}{us:List Value}(r:Vals [x] us):∃ u,us=[u]/\RelV x u:=by
 cases r with
 | cons r1 r2=>cases r2; exact⟨_,rfl,r1⟩
theorem jBO:yJ X (.builtin "abs") (fun xs H Q=>∃ i,xs=[.int i]/\Q (.int (if i<0 then -i else i)) H):=by
 intro pins s σ H xs us Q I r h
 obtain⟨i,rfl,q⟩:=h
 obtain⟨u,rfl,t,rfl⟩:=vals1 r
 exact call_abs_int fun u tk=>⟨.int (if i<0 then -i else i),H,I.tok _,⟨_,rfl⟩,q⟩
theorem jF5:yJ X (.type "int") (fun xs H Q=>(∃ i,xs=[.int i]/\Q (.int i) H)\/∃ k,xs=[.bl k]/\Q (.int (if k then 1 else 0)) H):=by
 intro pins s σ H xs us Q I r h
 rcases h with ⟨i,rfl,q⟩ | ⟨k,rfl,q⟩
 ·obtain⟨u,rfl,t,rfl⟩:=vals1 r
  exact call_int_int ⟨.int i,H,I,⟨_,rfl⟩,q⟩
 ·obtain⟨u,rfl,r1⟩:=vals1 r
  cases r1
  exact call_int_bool ⟨.int (if k then 1 else 0),H,I.tok _,⟨_,rfl⟩,q⟩
end
end L2
namespace L2
open PySem PySem.Spec PyProof.Rows
structure ObjM (h:Heap)(x dx C:Addr)(mA:Str->Option Value):Prop where
 obj:h.get? x=some (instObj C dx)
 ns:h.Ns1 dx mA
 ne:dx≠x
theorem jJK {h:Heap}{dx:Addr}{mA:Str->Option Value}(n:h.Ns1 dx mA):∃ od,h.get? dx=some od/\∀ name,lookIn name od=some (mA name):=by
 obtain⟨o,es,ep,ho,hd,hk,_,hm⟩:=n
 refine⟨o,ho,fun name=>?_⟩
 have e:=hm name
 unfold nsFind findBy at e
 rw[<- Array.find?_toList] at e
 unfold lookIn
 rw[hd]
 dsimp only
 split
 ·rename_i y q
  rw[q] at e
  exact bP some e
 ·rename_i q
  rw[q] at e
  have a:es.toList.any (·.refKey)=false:=by
   rw[eN]
   intro y hy
   obtain⟨z,t,hkey⟩:=hk y (Array.mem_toList_iff.mp hy)
   simp [DictEntry.refKey,hkey]
  have a':¬ es.toList.any (·.refKey)=true:=by rw[a]; exact av
  rw[ai a']
  exact bP some e
theorem ObjM.look {h:Heap}{x dx C:Addr}{mA:Str->Option Value}(I:ObjM h x dx C mA):∃ od,PySem.W.InstAt h x (instObj C dx) C (some od)/\∀ name,lookIn name od=some (mA name):=
 let ⟨od,ho,hl⟩:=jJK I.ns
 ⟨od,⟨I.obj,rfl,rfl,ho⟩,hl⟩
section
variable {prog:Program}{w:World}{A:Around}{E:Value->Shared->Prop}{s:Shared}{K:W.Frag}{x dx C f:Addr}{mA:Str->Option Value}{name:Str}{v:Value}
end
section
variable {P:Program}{w:World}{H H':Hp}{h h':Heap}{a C dx:Addr}{fs fs':List (Str×V)}
theorem jOO (hok:HOk P w H h)(e:H a=some (.ins C dx fs)):∃ mA,ObjM h a dx C mA/\(∀ f,RelO (fs.lookup f) (mA f))/\PySem.Within mA (fs.map (·.1))/\fs.length<=1000/\H dx=some (.own a):=by
 obtain⟨d,z,ne,ob,mA,n,r,q⟩:=(show ObjOk P w H h a (.ins C dx fs) from hok a _ e)
 exact⟨mA,⟨ob,n,ne⟩,r,q,z,d⟩
end
structure Cls (K:W.Frag)(C:Addr):Prop where
 pg:plainGet K C Str.empty=true
 hd:PySem.W.hasDictIn K C=true
 po:PySem.W.plainOver K C=true
 sa:findIn K (.ref C) "__setattr__" =some (some (.builtin "object.__setattr__"))
theorem Cls.get {K:W.Frag}{C:Addr}(c:Cls K C)(f:Str):plainGet K C f=true:=c.pg
section
variable {X:Cx}{pins:List (Addr×Obj)}{σ:St}{H:Hp}{s:Shared}{a C dx:Addr}{fs:List (Str×V)}{f:Str}{v:V}{A:Around}{E:Value->Shared->Prop}
end
section
variable {X:Cx}{o e value:Expr}{f:Str}{pos pos' tpos:Pos}{ta tv:TE}
end
section
variable {X:Cx}{pins:List (Addr×Obj)}{σ:St}{H:Hp}{s:Shared}{A:Around}{E:Value->Shared->Prop}{Q:Value->Shared->Prop}{c:Value}{b:Bool}
inductive TyOf (K:W.Frag) (H:Hp):V->Value->Prop where
 | non:TyOf K H .non (.type "NoneType")
 | bl (x:Bool):TyOf K H (.bl x) (.type "bool")
 | int (i:Int):TyOf K H (.int i) (.type "int")
 | str (x:Str):TyOf K H (.str x) (.type "str")
 | flt (x:UInt64):TyOf K H (.flt x) (.type "float")
 | lst {a:Addr}{xs:List V}(e:H a=some (.lst xs)):TyOf K H (.ref a) (.type "list")
 | frz {a:Addr}{o:Obj}{xs:List V}(e:H a=some (.frz o (.lst xs))):TyOf K H (.ref a) (.type "list")
 | tup {a:Addr}{xs:List V}(e:H a=some (.tup xs)):TyOf K H (.ref a) (.type "tuple")
 | dK {a:Addr}{kvs:List (Key×V)}(e:H a=some (.dK kvs)):TyOf K H (.ref a) (.type "dict")
 | dT {a:Addr}{kvs:List (List Key×V)}(e:H a=some (.dT kvs)):TyOf K H (.ref a) (.type "dict")
 | ins {a C dx:Addr}{fs:List (Str×V)}(e:H a=some (.ins C dx fs)) (cl:Cls K C) (ha:findIn K (.ref C) "__class__" =some (some (.builtin "object.__class__")))
   (hn:PySem.W.specialIn K (.builtin "object.__class__") "__get__" =some (some (.builtin "getset_descriptor.__get__"))) (htk:PySem.W.takesIn K (.builtin "object.__class__")=some true)
   (hm:mroIn K C (.type "object")=some true):TyOf K H (.ref a) (.ref C)
theorem jK0 {x:V}{u t:Value}(I:Inv X pins σ H s)(rx:RelV x u)(ty:TyOf X.K H x t)(e:kitOne X.K t c=some b)(h:∀ tk,Q (.bool b) { s with toks:=tk}):
  wpAny (model X.prog X.w) A (call (.builtin "isinstance") [u,c]) Q E s:=by
 cases ty with
 | non=>cases (show u=Value.none from rx); exact bE PySem.W.kitx_none I.kIn True.intro e (fun z=>nomatch z) h
 | bl y=>cases (show u=Value.bool y from rx); exact bE PySem.W.kitx_bool I.kIn True.intro e (fun z=>nomatch z) h
 | int i=>obtain⟨t,q⟩:=(show ∃ t,u=Value.int i t from rx); cases q; exact bE PySem.W.kitx_int I.kIn True.intro e (fun z=>nomatch z) h
 | str y=>obtain⟨t,q⟩:=(show ∃ t,u=Value.str y t from rx); cases q; exact bE PySem.W.kitx_str I.kIn True.intro e (fun z=>nomatch z) h
 | flt y=>obtain⟨t,q⟩:=(show ∃ t,u=Value.float y t from rx); cases q; exact bE PySem.W.kitx_float I.kIn True.intro e (fun z=>nomatch z) h
 | @lst a xs ea=>
  cases (show u=Value.ref a from rx)
  obtain⟨_,_,n,_,h1⟩:=(show ObjOk X.prog X.w H s.heap a (.lst xs) from I.hok a _ ea)
  exact bE kitx_list I.kIn ⟨_,h1,rfl⟩ e (fun z=>nomatch z) h
 | @frz a ob xs ea=>
  cases (show u=Value.ref a from rx)
  obtain⟨_,_,_,n,_,h1⟩:=(show ObjOk X.prog X.w H s.heap a (.frz ob (.lst xs)) from I.hok a _ ea)
  exact bE kitx_list I.kIn ⟨_,h1,rfl⟩ e (fun z=>nomatch z) h
 | @tup a xs ea=>
  cases (show u=Value.ref a from rx)
  obtain⟨_,_,_,p⟩:=(show ObjOk X.prog X.w H s.heap a (.tup xs) from I.hok a _ ea)
  obtain⟨o,h1,h2,_⟩:=p.isTup
  exact bE PySem.W.kitx_tuple I.kIn ⟨o,h1,h2⟩ e (fun z=>nomatch z) h
 | @dK a kvs ea=>
  cases (show u=Value.ref a from rx)
  obtain⟨_,_,vs,_,p⟩:=(show ObjOk X.prog X.w H s.heap a (.dK kvs) from I.hok a _ ea)
  obtain⟨o,es,ep,h1,h2,_⟩:=p
  exact bE kitx_dict I.kIn ⟨o,h1,h2.1⟩ e (fun z=>nomatch z) h
 | @dT a kvs ea=>
  cases (show u=Value.ref a from rx)
  obtain⟨_,_,xs,_,o,es,ep,h1,h2,_⟩:=(show ObjOk X.prog X.w H s.heap a (.dT kvs) from I.hok a _ ea)
  exact bE kitx_dict I.kIn ⟨o,h1,h2.1⟩ e (fun z=>nomatch z) h
 | @ins a C dx fs ea cl ha hn htk hm=>
  cases (show u=Value.ref a from rx)
  obtain⟨mA,O,_⟩:=jOO I.hok ea
  obtain⟨od,J,_⟩:=O.look
  exact bE (PySem.W.kitx_own (cl.get _) cl.hd ha hn htk hm) I.kIn J e (fun z=>nomatch z) h
end
end L2
namespace L2
open PySem PySem.Spec PyProof.Rows
structure Room (k:Nat)(A:Around):Prop where
 hd:A.handled=none
 dp:A.depth+3*k+5<recursionLimit
 un:A.units+16*k+200<cLine
theorem Room.mono {j k:Nat}{A:Around}(r:Room k A)(h:j<=k):Room j A:=⟨r.hd,by have:=r.dp; omega,by have:=r.un; omega⟩
theorem Room.deeper {k:Nat}{A:Around}(r:Room (k+1) A)(env:Env):Room k (A.deeper env):=
 ⟨r.hd,by have:=r.dp; show A.depth+1+3*k+5<_; omega,by have:=r.un; show A.units+3+16*k+200<_; omega⟩
theorem Room.depth {k:Nat}{A:Around}(r:Room k A):A.depth<recursionLimit:=by have:=r.dp; omega
theorem Room.units0 {k:Nat}{A:Around}(r:Room k A):A.units<cLine:=by have:=r.un; omega
def tNil:TA:=fun _ H Q=>Q [] H
def tCons (ta:TE)(tr:TA):TA:=fun σ H Q=>ta σ H fun x H1=>tr σ H1 fun xs H2=>Q (x::xs) H2
section
variable {X:Cx}{e:Expr}{es:List Expr}{te:TE}{t:TA}{pos:Pos}
theorem yK:PA X [] tNil:=fun _ _ _ _ H Q I h=>Calls.spliced_nil ⟨[],H,I, .nil,h⟩
theorem kI (ha:PE X e te)(hr:PA X es t)(hs:starEach (e::es) X.env=(false,eval e X.env)::starEach es X.env:=by rfl):PA X (e::es) (tCons te t):=by
 intro pos pins s σ H Q I h
 rw[hs]
 show wpAny _ _ (spliced ((false,eval e X.env)::backTo pos (starEach es X.env))) _ _ s
 refine Calls.spliced_cons (thn (ha pins s σ H _ I h) fun u s1 ⟨x,H1,I1,r1,q1⟩=>?_)
 exact thn (hr pos pins s1 σ H1 _ I1 q1) fun us s2 ⟨xs,H2,I2,r2,q2⟩=>⟨x::xs,H2,I2, .cons r1 r2,q2⟩
def tTup (t:TA):TE:=fun σ H Q=>t σ H fun xs H1=>xs.length<=sizeLine/\∀ p,H1 p=none->Q (.ref p) (upd H1 p (.tup xs))
def tLst (t:TA):TE:=fun σ H Q=>t σ H fun xs H1=>xs.length<=sizeLine/\∀ p,H1 p=none->Q (.ref p) (upd H1 p (.lst xs))
theorem jPH {x1}(h:PA X es t):PE X (.Tuple es x1 pos) (tTup t):=by
 intro pins s σ H Q I hq
 refine wpAny_Tuple_spliced (thn (h pos pins s σ H _ I hq) fun us s1 ⟨xs,H1,I1,r,z,q⟩=>⟨by rw[<- r.length]; exact z,?_⟩)
 have hf:H1 s1.heap.objs.size=none:=I1.hok.fresh (af _)
 refine⟨.ref s1.heap.objs.size,upd H1 s1.heap.objs.size (.tup xs),I1.laid (t':=s1.toks) (fun b u e=>ae _ e) (af _) ?_,rfl,q _ hf⟩
 exact⟨z,us,r,TupO.new _ _⟩
theorem jGM (h:PA X es t):PE X (.List es pos) (tLst t):=by
 intro pins s σ H Q I hq
 refine wpAny_List_spliced (thn (h pos pins s σ H _ I hq) fun us s1 ⟨xs,H1,I1,r,z,q⟩=>⟨by rw[<- r.length]; exact z,?_⟩)
 have hf:H1 s1.heap.objs.size=none:=I1.hok.fresh (af _)
 refine⟨.ref s1.heap.objs.size,upd H1 s1.heap.objs.size (.lst xs),I1.laid (t':=s1.toks) (fun b u e=>ae _ e) (af _) ?_,rfl,q _ hf⟩
 exact⟨z,us,0,r,ak _ rfl⟩
end
abbrev Sp:=List V->Hp->VK->XK->Prop
abbrev CXT:=List Env->Hp->Shared->XK->Value->Shared->Prop
structure Env0 (P:Program)(w:World)(K:W.Frag)(mg:Str->Option Value)(base:Heap)(A:Around)(outer:List Env)(s:Shared)(H:Hp):Prop where
 frames:A.frames=some outer
 mod:Mod K mg base
 bs:∀ b o,base.get? b=some o->s.heap.get? b=some o/\H b=none
 bsz:base.objs.size<=s.heap.objs.size
 funs:s.heap.FunFrames base outer
 frf:∀ b∈frs outer,H b=none
 hok:HOk P w H s.heap
 bare:AllBare s.gens
def CE (outer:List Env)(P:Program)(w:World)(H:Hp)(s:Shared)(Q:VK)(u:Value)(s':Shared):Prop:=
 ∃ v H',s'.os=s.os/\AllBare s'.gens/\Un (frs outer) [] H H' s.heap s'.heap/\HOk P w H' s'.heap/\RelV v u/\Q v H'
def CR (CX:CXT)(outer:List Env)(P:Program)(w:World)(H:Hp)(s:Shared)(Q:VK)(E:XK)(r:Result)(s':Shared):Prop:=
 match r with
 | .ok (.ret u)=>CE outer P w H s Q u s'
 | .ok _=>False
 | .error e=>CX outer H s E e s'
structure FnOk (P:Program)(w:World)(K:W.Frag)(mg:Str->Option Value)(base:Heap)(CX:CXT)(k:Nat)(f:Addr)(fd:FuncData)(ps:List Str)(sp:Sp):Prop where
 len:∀ vs H Q E,sp vs H Q E->vs.length=ps.length
 run:∀ (A:Around) (outer:List Env) (s:Shared) (H:Hp) (args:Args) (us:List Value) (vs:List V) (Q:VK) (E:XK),Room k A->Env0 P w K mg base A outer s H->BindsTo s fd args (ps.zip us)->Vals vs us->sp vs H Q E->
  codeAny (model P w) A (.call (.ref f) args) (CR CX outer P w H s Q E) s
section
variable {X:Cx}{pins:List (Addr×Obj)}{σ:St}{H:Hp}{s s':Shared}
theorem Inv.env0 (I:Inv X pins σ H s):Env0 X.prog X.w X.K X.mg X.base X.A X.stack s H:=
 ⟨I.ok.frames,I.ok.mod,I.bs,aH I.ok.bsz I.sz,I.stack,I.stkFree,I.hok,I.bare⟩
theorem Inv.after {Q:VK}{u:Value}(I:Inv X pins σ H s)(h:CE X.stack X.prog X.w H s Q u s'):EP X pins σ Q u s':=by
 obtain⟨v,H',os,bare,un,hok,r,q⟩:=h
 obtain⟨hh,g,d,t,os'⟩:=s'
 obtain rfl:os'=s.os:=os
 exact⟨v,H',I.call (h':=hh) (g':=g) (d':=d) (t':=t) (ch:=[]) un hok bare (fun b z=>absurd z (by simp)),r,q⟩
end
def tCall (sp:Sp)(dvs:List V)(E:XK)(t:TA):TE:=fun σ H Q=>t σ H fun vs H1=>sp (vs++dvs) H1 Q E
def Binds (K:W.Frag)(fd:FuncData)(ps:List Str)(ds:List Value):Prop:=
 ∀ (s:Shared) (us:List Value),K.In s.heap->(us++ds).length=ps.length->BindsTo s fd ⟨us,[]⟩ (ps.zip (us++ds))
theorem Binds.all {K:W.Frag}{fd:FuncData}{ps:List Str}(h:∀ us:List Value,us.length=ps.length->bindArgs fd ⟨us,[]⟩=pure (ps.zip us)):Binds K fd ps []:=fun s us _ hl=>by
 rw[cC] at hl ⊢
 exact .of_eq (h us hl)
def jL1 (CX:CXT)(X:Cx)(E:XK):Prop:=∀ (pins:List (Addr×Obj)) (σ:St) (H:Hp) (s:Shared) (e:Value) (s':Shared),Inv X pins σ H s->CX X.stack H s E e s'->X.xe e s'
section
variable {X:Cx}{CX:CXT}{k:Nat}{f C:Addr}{fd:FuncData}{ps:List Str}{sp:Sp}{dvs:List V}{ds:List Value}{E:XK}{x m:Str}{p pos apos:Pos}{e o:Expr}{es:List Expr}{ta:TE}{t:TA}
theorem jP4 {pins:List (Addr×Obj)}{σ:St}{H:Hp}{s:Shared}{Q:VK}{us:List Value}{vs:List V}(F:FnOk X.prog X.w X.K X.mg X.base CX k f fd ps sp)(hr:Room k X.A)(hb:Binds X.K fd ps ds)(hd:Vals dvs ds)(hx:jL1 CX X E)
  (I:Inv X pins σ H s) (r:Vals vs us) (h:sp (vs++dvs) H Q E):wpAny (model X.prog X.w) X.A (call (.ref f) us) (EP X pins σ Q) X.xe s:=by
 have r2:Vals (vs++dvs) (us++ds):=r.append hd
 have hl:(us++ds).length=ps.length:=by rw[<- r2.length]; exact F.len _ _ _ _ h
 refine wpAny_call (dS (F.run X.A X.stack s H ⟨us,[]⟩ (us++ds) (vs++dvs) Q E hr I.env0 (hb s us I.kIn hl) r2 h) fun r s' hq=>?_)
 cases r with
 | error e=>exact hx pins σ H s e s' I hq
 | ok fl=>
  cases fl with
  | ret u=>exact I.after hq
  | next=>exact False.elim hq
  | brk=>exact False.elim hq
  | cont=>exact False.elim hq
theorem jNX (F:FnOk X.prog X.w X.K X.mg X.base CX k f fd ps sp)(hr:Room k X.A)(hg:Gl X x)(hm:X.mg x=some (.ref f))(hk:keepIn X.K (.ref f)=true)(hb:Binds X.K fd ps ds)(hd:Vals dvs ds)(hx:jL1 CX X E)
  (ha:PA X (e::es) t) (hdb:(x==("__debug__" :Str))=false:=by decide) (he:starEach (e::es) X.env=(false,eval e X.env)::starEach es X.env:=by rfl) (hpl:(backTo pos (starEach es X.env)).any (·.1)=false:=by rfl):
  PE X (.Call (.Name x p) (e::es) [] pos) (tCall sp dvs E t):=by
 intro pins s σ H Q I h
 refine ef (jOJ I hg hm ?_ hdb)
 refine PySem.W.callWith_K (h₀:=X.base) I.ok.mod.kin hk (thn (ha pos pins s σ H _ I h) fun us s1 ⟨vs,H1,I1,r,q⟩=>⟨I1.kIn,?_⟩) he hpl
 exact jP4 F hr hb hd hx I1 r q
end
section
variable {X:Cx}{CX:CXT}{k:Nat}{f C:Addr}{fd:FuncData}{ps ks:List Str}{sp:Sp}{E:XK}{x m:Str}{p pos apos kpos:Pos}{e o:Expr}{es:List Expr}{kws:List Keyword}{te ta:TE}{t tk:TA}{nm:Option Str}
variable {g:List Value->List Value->List Value}{gV:List V->List V->List V}
end
structure FnScope (N P:List Str)(sc:Scope):Prop where
 kind:sc.kind= .function
 co:sc.isCoroutine=false
 gen:sc.isGenerator=false
 nd:N.Nodup
 pre:N.take P.length=P
 par:∀ x∈P,sc.names.lookup x=some .local\/sc.names.lookup x=some .cell
 nofree:∀ y∈sc.names,y.2≠ .free
theorem jFB {kindOf:Str->Option NameKind}{x:Str} :∀ {binds:List (Str×Value)}{m:Str->Option Value},(∀ v,(x,v)∉binds)->bindL kindOf binds m x=m x
 | [],_,_=>rfl
 | (n,v)::r,m,h=>by
  unfold bindL
  rw[jFB fun w hw=>h w (aB _ hw)]
  split
  ·have:x≠n:=by rintro rfl; exact h v aA
   simp [this]
  ·rfl
theorem jFD {kindOf:Str->Option NameKind}{x:Str} :∀ {binds:List (Str×Value)}{m:Str->Option Value},(∀ v,(x,v)∉binds)->bindC kindOf binds m x=m x
 | [],_,_=>rfl
 | (n,v)::r,m,h=>by
  unfold bindC
  rw[jFD fun w hw=>h w (aB _ hw)]
  split
  ·rfl
  ·have:x≠n:=by rintro rfl; exact h v aA
   simp [this]
theorem jFC {kindOf:Str->Option NameKind}{x:Str}{v:Value} :∀ {P:List Str}{vs:List Value}{i:Nat}{m:Str->Option Value},P.Nodup->P[i]?=some x->vs[i]?=some v->kindOf x=some .local->
  bindL kindOf (P.zip vs) m x=some v
 | [],_,_,_,_,h,_,_=>by simp at h
 | _::_,[],_,_,_,_,h,_=>by simp at h
 | p::P,w::vs,0,m,nd,h1,h2,hk=>by
  simp at h1 h2; subst h1; subst h2
  show bindL kindOf ((p,w)::P.zip vs) m p=_
  unfold bindL
  rw[jFB fun v hv=>(cO.mp nd).1 (dO hv).1,ah hk]
  simp
 | p::P,w::vs,i+1,m,nd,h1,h2,hk=>by
  show bindL kindOf ((p,w)::P.zip vs) m x=_
  unfold bindL
  exact jFC (i:=i) (cO.mp nd).2 (by simpa using h1) (by simpa using h2) hk
theorem jFE {kindOf:Str->Option NameKind}{x:Str}{v:Value} :∀ {P:List Str}{vs:List Value}{i:Nat}{m:Str->Option Value},P.Nodup->P[i]?=some x->vs[i]?=some v->kindOf x≠some .local->
  bindC kindOf (P.zip vs) m x=some v
 | [],_,_,_,_,h,_,_=>by simp at h
 | _::_,[],_,_,_,_,h,_=>by simp at h
 | p::P,w::vs,0,m,nd,h1,h2,hk=>by
  simp at h1 h2; subst h1; subst h2
  show bindC kindOf ((p,w)::P.zip vs) m p=_
  unfold bindC
  rw[jFD fun v hv=>(cO.mp nd).1 (dO hv).1,ai hk]
  simp
 | p::P,w::vs,i+1,m,nd,h1,h2,hk=>by
  show bindC kindOf ((p,w)::P.zip vs) m x=_
  unfold bindC
  exact jFE (i:=i) (cO.mp nd).2 (by simpa using h1) (by simpa using h2) hk
def yX (N:List Str)(vs:List V):St:=vs.map some++replicate (N.length - vs.length) none
def cxOf (CX:CXT)(P:Program)(w:World)(K:W.Frag)(mg:Str->Option Value)(base:Heap)(N:List Str)(qual:Str)(scope:Scope)(f:Addr)(cd:Value)(A:Around)(outer:List Env)(s:Shared)(H:Hp)(E:XK):Cx where
 prog:=P
 w:=w
 K:=K
 mg:=mg
 base:=base
 A:=A.deeper (envOfC qual scope s.heap.objs.size f cd)
 N:=N
 s₀:=s
 H₀:=H
 env:=envOfC qual scope s.heap.objs.size f cd
 outer:=outer
 stack:=envOfC qual scope s.heap.objs.size f cd::outer
 ex:=[]
 calm:=true
 fn:=fun _=>true
 pn:=[]
 xe:=fun e s'=>wpAny (model P w) (A.deeper (envOfC qual scope s.heap.objs.size f cd)) (leaving (envOfC qual scope s.heap.objs.size f cd) e) (fun _ s''=>CX outer H s E e s'') (fun e' s''=>CX outer H s E e' s'') s'
theorem jH7 {sc:Scope}{n:Nat}{x:Str}(h:sc.names.lookup x=some .cell):∃ c,(cellsFrom n sc.names []).lookup x=some c:=by
 have q:=fz sc.names n [] (.inl h)
 exact Option.isSome_iff_exists.mp q
theorem jK1 {CX:CXT}{P:Program}{w:World}{K:W.Frag}{mg:Str->Option Value}{base:Heap}{N ps:List Str}{qual:Str}{scope:Scope}{f:Addr}{cd:Value}{A:Around}{outer:List Env}{s s1:Shared}{H:Hp}{E:XK}{us:List Value}{vs:List V}
  (S:FnScope N ps scope) (hd:A.handled=none) (e0:Env0 P w K mg base A outer s H) (hl:vs.length=ps.length) (r:Vals vs us)
  (x:InCallC s s.heap.objs.size (bindL (envOfC qual scope s.heap.objs.size f cd).kindOf (ps.zip us) fun _=>none) (cellsFrom (s.heap.objs.size+1) scope.names []) (bindC (envOfC qual scope s.heap.objs.size f cd).kindOf (ps.zip us) fun _=>none) s1):
  Inv (cxOf CX P w K mg base N qual scope f cd A outer s H E) [] (yX N vs) H s1:=by
 have hpl:ps.length<=N.length:=by have:=bP List.length S.pre; rw[bz] at this; omega
 obtain⟨h1,tk,rfl,hk⟩:=x.done
 have noA:∀ b:Addr,b∉(cxOf CX P w K mg base N qual scope f cd A outer s H E).ex:=fun b z=>absurd (show b∈([]:List Addr) from z) (by simp)
 refine⟨⟨e0.mod,S.kind,rfl,rfl,af _,fun y z c h1 h2=>?_,fun y hy=>?_,fun y c _ h=>?_,fun _=>hd,Around.frames_deeper e0.frames, .inr ⟨rfl,rfl⟩,fun b z=>absurd z (noA b),e0.bs,e0.bsz,fun b _ _=>noA b,fun b z=>absurd z (noA b),e0.funs,e0.frf⟩,
  rfl,e0.bare,Un.kept hk,⟨_,x.toInCall.ns,fun i y v h1 h2 h3=>?_⟩,fun y c h=>⟨_,x.cell y c h⟩,e0.hok.fresh (af _),fun y c h=>?_,fun p hp=>absurd (show p∈([]:List (Addr×Obj)) from hp) (by simp),e0.hok.kept hk,?_⟩
 ·exact name_of_addr x.apart (cG h1) (cG h2)
 ·have hy:scope.names.lookup y=some .cell\/scope.names.lookup y=some .free:=hy
  rcases hy with hy | hy
  ·exact jH7 hy
  ·exact absurd rfl (S.nofree _ (cG hy))
 ·exact cZ (x.above y c (cG h))
 ·have hi:i<vs.length:=by
   unfold yX at h2
   by_cases hi:i<vs.length
   ·exact hi
   ·rw[cT (by simpa using hi)] at h2
    rw[List.getElem?_replicate] at h2
    split at h2 <;> cases h2
  have ha:vs[i]?=some v:=by
   unfold yX at h2
   rw[de (by simpa using hi),az] at h2
   cases e:vs[i]? with
   | none=>rw[e] at h2; cases h2
   | some a=>rw[e] at h2; cases h2; rfl
  obtain⟨u,hu,rv⟩:=r.get ha
  have hp:ps[i]?=some y:=by
   rw[<- S.pre,List.getElem?_take_of_lt (by omega)]; exact h1
  have ndP:ps.Nodup:=by rw[<- S.pre]; exact S.nd.sublist (eQ _ _)
  refine⟨u,rv,?_⟩
  rcases S.par y (aO hp) with k | k
  ·exact .inl ⟨k,jFC ndP hp hu k⟩
  ·obtain⟨c,e⟩:=jH7 (n:=s.heap.objs.size+1) k
   refine .inr ⟨.inl k,c,e,?_⟩
   have q:=x.cell y c e
   rw[jFE ndP hp hu (by show scope.names.lookup y≠_; rw[k]; decide)] at q
   exact q
 ·exact e0.hok.fresh (cZ (x.above y c (cG h)))
 ·unfold yX
  show _=N.length
  rw[aN,ac,cP]
  omega
theorem fn_of {CX:CXT}{P:Program}{w:World}{K:W.Frag}{mg:Str->Option Value}{base:Heap}{k:Nat}{f:Addr}{name qual:Str}{params:Arguments}{body:List Stmt}{scope:Scope}{dV kV doc pm cdv ct oc:Value}{an od:Option Addr}
  {osl:Array (Option Value)}{N ps:List Str}{sp:Sp}(lk:K.lookup f=some ⟨oc,od, .func (PySem.W.fnOf name qual params body scope dV kV doc pm an cdv ct),osl⟩) (hcd:PySem.W.codeIn K cdv qual=true) (S:FnScope N ps scope)
  (len:∀ vs H Q E,sp vs H Q E->vs.length=ps.length)
  (hbody:∀ (A:Around) (outer:List Env) (s:Shared) (H:Hp) (vs:List V) (Q:VK) (E:XK),Room k (A.deeper (envOfC qual scope s.heap.objs.size f cdv))->sp vs H Q E->
   ∃ t,PSs (cxOf CX P w K mg base N qual scope f cdv A outer s H E) body t/\t { nx:=fun _ H'=>Q .non H',rt:=Q} (yX N vs) H):
  FnOk P w K mg base CX (k+1) f (PySem.W.fnOf name qual params body scope dV kV doc pm an cdv ct) ps sp:=by
 refine⟨len,fun A outer s H args us vs Q E hr e0 hb r hsp=>?_⟩
 have hl:=len _ _ _ _ hsp
 have KX:K.In s.heap:=e0.mod.kin.keeps fun b o e=>(e0.bs b o e).1
 have lim:s.heap.NoLimit:=e0.mod.nolimit.keeps fun b o e=>(e0.bs b o e).1
 have hkind:∀ y∈ps.zip us,scope.names.lookup y.1=some .local\/(scope.names.lookup y.1=some .cell/\((cellsFrom (s.heap.objs.size+1) scope.names []).lookup y.1).isSome=true):=fun ⟨n,v⟩ hy=>by
  rcases S.par n (dO hy).1 with q | q
  ·exact .inl q
  ·exact .inr ⟨q,fz _ _ _ (.inl q)⟩
 refine codeAny_call_function hr.depth (KX _ _ lk) rfl S.co S.gen rfl (PySem.W.codeRec_of KX hcd) (hb _ _ _ _ ?_)
 refine wpAny_newFunctionEnv_cells S.kind hkind fun env he s1 x=>?_
 subst he
 refine⟨lim.keeps x.toInCall.keep,codeAny_func ?_⟩
 obtain⟨t,ht,hq⟩:=hbody A outer s H vs Q E (hr.deeper _) hsp
 have I:Inv (cxOf CX P w K mg base N qual scope f cdv A outer s H E) [] (yX N vs) H s1:=jK1 S hr.hd e0 hl r x
 refine cw (ht [] s1 (yX N vs) H _ I hq) (fun fl s' hs=>?_) fun e s' hs=>hs
 have fin:∀ {σ':St}{H':Hp}{v:V}{u:Value},Inv (cxOf CX P w K mg base N qual scope f cdv A outer s H E) [] σ' H' s'->RelV v u->Q v H'->CE outer P w H s Q u s':=
  fun {σ' H' v u} J rv q=>⟨v,H',J.os,J.bare,J.base,J.hok,rv,q⟩
 cases fl with
 | ret u=>
  obtain⟨v,σ',H',J,rv,q⟩:=hs
  exact fin J rv q
 | next=>
  obtain⟨σ',H',J,q⟩:=hs
  exact fin (v:=V.non) (u:=Value.none) J rfl q
 | brk=>
  obtain⟨_,_,_,q⟩:=hs
  exact False.elim q
 | cont=>
  obtain⟨_,_,_,q⟩:=hs
  exact False.elim q
end L2
namespace L2
open PySem PySem.Spec PyProof.Rows
section
variable {X:Cx}{x:Str}{p pos:Pos}{e:Expr}{es:List Expr}{t:TA}{id T:String}{r:List V->Hp->VK->Prop}
def tCB (r:List V->Hp->VK->Prop)(t:TA):TE:=fun σ H Q=>t σ H fun vs H1=>r vs H1 Q
theorem jDW (hc:yJ X (.builtin id) r)(hg:Gl X x)(hm:X.mg x=none)(hv:bootBuiltins x=some (.builtin id))(ha:PA X (e::es) t)(hn:x≠ "__name__" :=by decide)(hdb:(x==("__debug__" :Str))=false:=by decide)
  (he:starEach (e::es) X.env=(false,eval e X.env)::starEach es X.env:=by rfl) (hpl:(backTo pos (starEach es X.env)).any (·.1)=false:=by rfl):PE X (.Call (.Name x p) (e::es) [] pos) (tCB r t):=by
 intro pins s σ H Q I h
 refine ef (jCO I hg hm hv ?_ hn hdb)
 exact PyProof.Rows.callWith_builtin1 (thn (ha pos pins s σ H _ I h) fun us s1 ⟨vs,H1,I1,r1,q1⟩=>hc pins s1 σ H1 vs us Q I1 r1 q1) he hpl
theorem jBG (hc:yJ X (.type T) r)(hg:Gl X x)(hm:X.mg x=none)(hv:bootBuiltins x=some (.type T))(ha:PA X (e::es) t)(hn:x≠ "__name__" :=by decide)(hdb:(x==("__debug__" :Str))=false:=by decide)
  (he:starEach (e::es) X.env=(false,eval e X.env)::starEach es X.env:=by rfl) (hpl:(backTo pos (starEach es X.env)).any (·.1)=false:=by rfl):PE X (.Call (.Name x p) (e::es) [] pos) (tCB r t):=by
 intro pins s σ H Q I h
 refine ef (jCO I hg hm hv ?_ hn hdb)
 exact bQ (thn (ha pos pins s σ H _ I h) fun us s1 ⟨vs,H1,I1,r1,q1⟩=>hc pins s1 σ H1 vs us Q I1 r1 q1) he hpl
end
end L2
namespace HT
open PySem PyProof.Rows
section
open PySem.SeqAt
open PySem.AutoSeq1 (wpAny_loadPart')
open PySem.MeetsSeq PySem.MeetsSeq2 PySem.MeetsSeq3
end
section
variable {prog:Program}{w:World}{A:Around}{E:Value->Shared->Prop}{s:Shared}
theorem cat_tup {t b:Addr}{vs ws:List Value}{Q:Value->Shared->Prop}(ht:IsTup s.heap t vs.toArray)(hb:IsTup s.heap b ws.toArray)(hv:vs≠ [])
  (h1:ws=[]->Q (.ref t) s) (h2:ws≠ []->Q (.ref s.heap.objs.size) { s with heap:=s.heap.push { cls:= .type "tuple",data:= .seq (vs++ws).toArray}})
  (hsz:vs.length+ws.length<=sizeLine):wpAny (model prog w) A (binaryOp .Add (.ref t) (.ref b)) Q E s:=by
 obtain⟨⟨cls,dd,data,sl⟩,ho,hc,n,hd⟩:=id ht
 obtain⟨⟨cls2,dd2,data2,sl2⟩,ho2,hc2,n2,hd2⟩:=id hb
 simp only at hc hd hc2 hd2
 subst hc hd hc2 hd2
 have e:vs.toArray++ws.toArray=(vs++ws).toArray:=by simp
 by_cases hw:ws=[]
 ·exact concat_meets ⟨_,ho,rfl⟩ ⟨_,ho2,rfl⟩ fg seq_tuple_add dz dr (dg _ _)
   (tuple_addW1 t b vs.toArray ws.toArray n n2 dd dd2 sl sl2 (by simpa using hv) (by simp [hw])) ⟨ho,ho2,h1 hw⟩
 ·refine concat_meets ⟨_,ho,rfl⟩ ⟨_,ho2,rfl⟩ fg seq_tuple_add dz dr (dg _ _)
   (tuple_addW2 t b vs.toArray ws.toArray n n2 dd dd2 sl sl2 (by simpa using hv) (by simpa using hw) (by rw[aw,aw]; exact hsz)) ⟨ho,ho2,?_⟩
  rw[e]
  exact h2 hw
noncomputable def sIx (n d:Nat):Option Int->Nat
 | none=>d
 | some v=>if v<0 then (v+(n:Int)).toNat else min v.toNat n
end
end HT
namespace L2
open PySem PySem.Spec PyProof.Rows
abbrev TO:=St->Hp->(Option Int->Hp->Prop)->Prop
def PO (X:Cx)(e:Option Expr)(t:TO):Prop:=
 ∀ (pins:List (Addr×Obj)) (s:Shared) (σ:St) (H:Hp) (Q:Option Int->Hp->Prop),Inv X pins σ H s->t σ H Q->
  wpAny (model X.prog X.w) X.A (evalPart e X.env) (fun u s'=>∃ o H',Inv X pins σ H' s'/\IsPart u o/\Q o H') X.xe s
def jIE:TO:=fun _ H Q=>Q none H
def tPart (t:TE):TO:=fun σ H Q=>t σ H fun x H1=>∃ i,x= .int i/\Q (some i) H1
section
variable {X:Cx}{e:Expr}{te:TE}{lo hi:Option Expr}{tl th:TO}{pos p2:Pos}
theorem jNP:PO X none jIE:=by
 intro pins s σ H Q I h
 rw[evalPart_none]
 exact ag ⟨none,H,I, .none,h⟩
theorem jNO (h:PE X e te):PO X (some e) (tPart te):=by
 intro pins s σ H Q I hw
 rw[evalPart_some]
 refine thn (h pins s σ H _ I hw) fun u s1 ⟨x,H1,I1,r1,q1⟩=>?_
 obtain⟨i,rfl,q⟩:=q1
 obtain⟨t,rfl⟩:=r1
 exact⟨some i,H1,I1, .int i t,q⟩
def SlR (X:Cx)(r:V->Option Int->Option Int->Hp->VK->Prop):Prop:=
 ∀ (pins:List (Addr×Obj)) (s:Shared) (σ:St) (H:Hp) (x:V) (v vl vu:Value) (lo hi:Option Int) (sl:Addr) (Q:VK),Inv X pins σ H s->RelV x v->s.heap.IsSliceOf sl vl vu .none->IsPart vl lo->IsPart vu hi->r x lo hi H Q->
  ∃ T id,typeLookup (.type T) "__getitem__" =pure (some (.builtin id))/\s.TypeIs v T/\wpAny (model X.prog X.w) X.A (getItem v (.ref sl)) (EP X pins σ Q) X.xe s
def tSl (r:V->Option Int->Option Int->Hp->VK->Prop)(te:TE)(tl th:TO):TE:=fun σ H Q=>te σ H fun x H1=>tl σ H1 fun l H2=>th σ H2 fun u H3=>r x l u H3 Q
theorem jLF {r:V->Option Int->Option Int->Hp->VK->Prop}(hr:SlR X r)(he:PE X e te)(hl:PO X lo tl)(hu:PO X hi th):PE X (.Subscript e (.Slice lo hi none p2) pos) (tSl r te tl th):=by
 intro pins s σ H Q I h
 refine Subscript_ (thn (he pins s σ H _ I h) fun v s1 ⟨x,H1,I1,r1,q1⟩=>?_)
 refine wpAny_Slice (thn (hl pins s1 σ H1 _ I1 q1) fun vl s2 ⟨l,H2,I2,pl,q2⟩=>thn (hu pins s2 σ H2 _ I2 q2) fun vu s3 ⟨u,H3,I3,pu,q3⟩=>?_)
 rw[evalPart_none]
 refine ag ?_
 have I4:Inv X pins σ H3 { s3 with heap:=s3.heap.push { cls:= .type "slice",data:= .fields #[vl,vu, .none]}} :=I3.kept (t':=s3.toks) fun b ob q=>ae _ q
 obtain⟨T,id,hT,ht,hg⟩:=hr pins { s3 with heap:=s3.heap.push { cls:= .type "slice",data:= .fields #[vl,vu, .none]}} σ H3 x v vl vu l u s3.heap.objs.size Q I4 r1 (Heap.IsSliceOf.new ..) pl pu q3
 show wpAny (model X.prog X.w) X.A (subscriptTail e (.Slice lo hi none p2) v (.ref s3.heap.objs.size)) (EP X pins σ Q) X.xe { s3 with heap:=s3.heap.push { cls:= .type "slice",data:= .fields #[vl,vu, .none]}}
 exact tail_any (ops:=[.ref s3.heap.objs.size,v]) ht hT hg (by with_unfolding_all rfl)
def cutV (xs:List V)(lo hi:Option Int):List V:=(xs.drop (HT.sIx xs.length 0 lo)).take (HT.sIx xs.length xs.length hi - HT.sIx xs.length 0 lo)
theorem jFZ (xs:List V)(lo hi:Option Int):(cutV xs lo hi).length<=xs.length:=by
 unfold cutV
 rw[bz,fh]
 omega
def rCatT (K:W.Frag):R2:=fun x y H Q=>∃ a b xs ys,x= .ref a/\y= .ref b/\SqT K H a xs/\SqT K H b ys/\xs≠ []/\xs.length+ys.length<=sizeLine/\
 (ys=[]->Q (.ref a) H)/\(ys≠ []->∀ p,H p=none->Q (.ref p) (upd H p (.tup (xs++ys))))
theorem Vals.nil_iff {xs:List V}{us:List Value}(r:Vals xs us):us=[]↔xs=[]:=by
 cases r with
 | nil=>simp
 | cons _ _=>simp
theorem jO2:OpR X (binaryOp .Add) (rCatT X.K):=by
 intro pins s σ H x y v u Q I rx ry h
 obtain⟨a,b,xs,ys,rfl,rfl,ha,hb,hx,hz,q1,q2⟩:=h
 cases rx
 cases ry
 obtain⟨its,r1,p1,_⟩:=I.tuple ha
 obtain⟨its2,r2,p2,_⟩:=I.tuple hb
 refine HT.cat_tup p1 p2 (fun z=>hx (r1.nil_iff.mp z)) (fun z=>⟨.ref a,H,I,rfl,q1 (r2.nil_iff.mp z)⟩) (fun z=>?_) (by rw[<- r1.length,<- r2.length]; exact hz)
 refine⟨.ref s.heap.objs.size,_,I.laid (t':=s.toks) (o:= .tup (xs++ys)) (fun b ob q=>ae _ q) (af _) ?_,rfl,q2 (fun w=>z (r2.nil_iff.mpr w)) _ (I.hok.fresh (af _))⟩
 exact⟨by rw[aN]; exact hz,_,r1.append r2,TupO.new _ _⟩
end
end L2
namespace L2
open PySem PySem.Spec PyProof.Rows
noncomputable def ixN (n:Nat)(i:Int):Option Nat:=if 0<=i then (if i<n then some i.toNat else none) else if -(n:Int)<=i then some (i+n).toNat else none
def atI {α:Type}(xs:List α)(i:Int):Option α:=(ixN xs.length i).bind fun j=>xs[j]?
theorem jJY {n:Nat}{i:Int}{j:Nat}(h:ixN n i=some j):seqIndex? i n=some j/\j<n/\ -(n:Int)<=i/\i<n:=by
 unfold ixN at h
 by_cases h0:0<=i
 ·rw[ah h0] at h
  by_cases h1:i<n
  ·rw[ah h1] at h
   have e:i.toNat=j:=ba h
   exact⟨by rw[seqIndex_of h0 h1,e],by omega,by omega,h1⟩
  ·rw[ai h1] at h; cases h
 ·rw[ai h0] at h
  by_cases h1: -(n:Int)<=i
  ·rw[ah h1] at h
   have e:(i+n).toNat=j:=ba h
   exact⟨by rw[seqIndex_neg (by omega) h1,e],by omega,h1,by omega⟩
  ·rw[ai h1] at h; cases h
theorem jKY {α:Type}{xs:List α}{i:Int}{v:α}(h:atI xs i=some v):∃ j,seqIndex? i xs.length=some j/\xs[j]?=some v/\j<xs.length/\ -(xs.length:Int)<=i/\i<xs.length:=by
 unfold atI at h
 cases e:ixN xs.length i with
 | none=>rw[e] at h; cases h
 | some j=>
  rw[e] at h
  obtain⟨h1,h2,h3,h4⟩:=jJY e
  exact⟨j,h1,h,h2,h3,h4⟩
theorem yB {α:Type}{xs:List α}{j:Nat}{v:α}(h:xs[j]?=some v):atI xs (j:Int)=some v:=by
 have hj:j<xs.length:=(ay.mp h).1
 have e:ixN xs.length (j:Int)=some j:=by
  unfold ixN
  rw[ah (by omega),ah (by omega)]; simp
 unfold atI; rw[e]; exact h
def jBB (b:Expr):Prop:=∀ o i,subscripted b false o i=operate [o,i] (getItem o i)
def IxR (X:Cx)(r:R2):Prop:=
 ∀ (value slice:Expr) (pins:List (Addr×Obj)) (s:Shared) (σ:St) (H:Hp) (x y:V) (v u:Value) (Q:VK),Inv X pins σ H s->RelV x v->RelV y u->r x y H Q->
  subscripted slice false v u=operate [v,u] (getItem v u)->wpAny (model X.prog X.w) X.A (subscriptTail value slice v u) (EP X pins σ Q) X.xe s
def MtR (X:Cx)(id:String)(r:V->List V->Hp->VK->Prop):Prop:=
 ∀ (pins:List (Addr×Obj)) (s:Shared) (σ:St) (H:Hp) (x:V) (xs:List V) (v:Value) (us:List Value) (Q:VK),Inv X pins σ H s->RelV x v->Vals xs us->r x xs H Q->
  wpAny (model X.prog X.w) X.A (call (.builtin id) (v::us)) (EP X pins σ Q) X.xe s
section
variable {X:Cx}{a b:Expr}{ta tb:TE}{pos:Pos}
theorem pe_ix {r:R2}(hr:IxR X r)(ha:PE X a ta)(hb:PE X b tb)(hs:jBB b):PE X (.Subscript a b pos) (tOp r ta tb):=by
 intro pins s σ H Q I h
 exact Subscript_ (binT ha hb I h fun v u s2 x y H2 I2 rx ry q=>hr a b pins s2 σ H2 x y v u Q I2 rx ry q (hs _ _))
def rIxL (K:W.Frag):R2:=fun x y H Q=>∃ p xs i v,x= .ref p/\y= .int i/\SqL K H p xs/\atI xs i=some v/\Q v H
def rIxT (K:W.Frag):R2:=fun x y H Q=>∃ p xs i v,x= .ref p/\y= .int i/\SqT K H p xs/\atI xs i=some v/\Q v H
theorem jU:IxR X (rIxL X.K):=by
 intro value slice pins s σ H x y v u Q I rx ry h hs
 obtain⟨p,xs,i,z,rfl,rfl,hq,he,q⟩:=h
 cases rx
 obtain⟨t,rfl⟩:=ry
 obtain⟨its,r,pl,hz⟩:=I.list hq
 obtain⟨j,h1,h2,h3,h4,h5⟩:=jKY he
 obtain⟨w,ew,rw'⟩:=r.get h2
 have hl:=r.length
 have hn:=jER
 have fin:EP X pins σ Q w s:=⟨z,H,I,rw',q⟩
 by_cases h0:0<=i
 ·have hj:i.toNat=j:=by
   rw[seqIndex_of h0 h5] at h1
   exact ba h1
  exact item_listR pl.isList h0 (by omega) (by rw[hj]; simpa using ew) fin hs
 ·have hj:(i+(its.toArray.size:Int)).toNat=j:=by
   rw[seqIndex_neg (by omega) h4] at h1
   rw[aw,<- hl]
   exact ba h1
  exact subscriptTail_builtinR (x:=w) pl.isList.typeIs slot_list_getitem.lookup
   (wpAny_getItem_list_neg (Q:=fun r s'=>r=w/\EP X pins σ Q r s') pl.isList (by omega) (by rw[aw] <;> omega) (by omega) (by rw[hj]; simpa using ew) ⟨rfl,fin⟩) hs
theorem jG:IxR X (rIxT X.K):=by
 intro value slice pins s σ H x y v u Q I rx ry h hs
 obtain⟨p,xs,i,z,rfl,rfl,hq,he,q⟩:=h
 cases rx
 obtain⟨t,rfl⟩:=ry
 obtain⟨its,r,pl,hz⟩:=I.tuple hq
 obtain⟨j,h1,h2,h3,h4,h5⟩:=jKY he
 obtain⟨w,ew,rw'⟩:=r.get h2
 have hl:=r.length
 have hn:=jER
 have fin:EP X pins σ Q w s:=⟨z,H,I,rw',q⟩
 exact subscriptTail_builtinR (x:=w) pl.typeIs slot_tuple_getitem.lookup
  (getItem_tuple (j:=j) (Q:=fun r s'=>r=w/\EP X pins σ Q r s') pl (by omega) (by omega) (by rw[aw,<- hl]; exact h1) (by simpa using ew) ⟨rfl,fin⟩) hs
theorem jHQ (its:List Value)(n j:Nat)(u:Value):Obj.mapSeq (·.setIfInBounds j u) { cls:= .type "list",data:= .seq its.toArray n} = { cls:= .type "list",data:= .seq (its.set j u).toArray n} :=by
 simp [Obj.mapSeq]
theorem Inv.lst {pins:List (Addr×Obj)}{σ:St}{H:Hp}{s:Shared}{p:Addr}{xs:List V}(I:Inv X pins σ H s)(h:H p=some (.lst xs)):
  ∃ (its:List Value) (n:Nat),Vals xs its/\s.heap.get? p=some { cls:= .type "list",data:= .seq its.toArray n} /\xs.length<=sizeLine:=by
 obtain⟨z,its,n,r,e⟩:=I.hok p _ h
 exact⟨its,n,r,e,z⟩
theorem Inv.lstUpd {pins:List (Addr×Obj)}{σ:St}{H:Hp}{s:Shared}{p:Addr}{xs ys:List V}{its its':List Value}{n n':Nat}{f:Obj->Obj}(I:Inv X pins σ H s)(h:H p=some (.lst xs))
  (ho:s.heap.get? p=some { cls:= .type "list",data:= .seq its.toArray n}) (hf:f { cls:= .type "list",data:= .seq its.toArray n} = { cls:= .type "list",data:= .seq its'.toArray n'}) (r:Vals ys its') (hz:ys.length<=sizeLine) (t:Nat):
  Inv X pins σ (upd H p (.lst ys)) { s with heap:=s.heap.update p f,toks:=t} :=by
 have e:(s.heap.update p f).get? p=some { cls:= .type "list",data:= .seq its'.toArray n'} :=by
  rw[cz f ho (by rw[hf] <;> rfl),hf]
 refine I.write (x:=p) (e:=p) (by rw[h]; trivial) (.inl rfl) (fun b u hb q=>(cN _ _ (dj hb)).trans q) ⟨_,e⟩ ?_
 exact⟨hz,its',n',r,e⟩
def rSetL:V->V->V->Hp->(Hp->Prop)->Prop:=fun o i v H Q=>∃ p xs k j,o= .ref p/\i= .int k/\H p=some (.lst xs)/\ixN xs.length k=some j/\Q (upd H p (.lst (xs.set j v)))
theorem jAU:PSet X rSetL:=by
 intro pins s σ H o i v ov iv u Q I ro ri rv h
 obtain⟨p,xs,k,j,rfl,rfl,hp,hj,q⟩:=h
 cases ro
 obtain⟨t,rfl⟩:=ri
 obtain⟨its,n,r,ho,hz⟩:=I.lst hp
 obtain⟨h1,h2,h3,h4⟩:=jJY hj
 have hl:=r.length
 have hn:=jER
 have I':Inv X pins σ (upd H p (.lst (xs.set j v))) { s with heap:=s.heap.update p (Obj.mapSeq (·.setIfInBounds j u))} :=
  I.lstUpd hp ho (jHQ its n j u) (r.set rv j) (by rw[dk]; exact hz) s.toks
 by_cases h0:0<=k
 ·have hk:k.toNat=j:=by
   rw[seqIndex_of h0 h4] at h1
   exact ba h1
  exact PySem.W.ki_setAt ho h0 (by omega) (by rw[aw,<- hl]; exact h4) (by rw[hk]; exact⟨_,I',q⟩)
 ·have hk:(k+(its.toArray.size:Int)).toNat=j:=by
   rw[seqIndex_neg (by omega) h3] at h1
   rw[aw,<- hl]
   exact ba h1
  exact PySem.W.ki_setBack ho (by omega) (by rw[aw,<- hl]; exact h3) (by omega) (by rw[hk]; exact⟨_,I',q⟩)
theorem jEL (lo hi:Option Int)(n:Nat):(sliceBounds lo hi none n).1=((HT.sIx n 0 lo:Nat):Int)/\(sliceBounds lo hi none n).2.1=((HT.sIx n n hi:Nat):Int)/\(sliceBounds lo hi none n).2.2=1:=by
 refine⟨?_,?_,rfl⟩
 ·cases lo with
  | none=>simp [sliceBounds,HT.sIx]
  | some i=>
   simp only [sliceBounds,HT.sIx,getD_none,show (1:Int)>0 by decide,dU]
   by_cases h:i<0
   ·simp only [h,dU] <;> omega
   ·simp only [h,if_false] <;> omega
 ·cases hi with
  | none=>simp [sliceBounds,HT.sIx]
  | some i=>
   simp only [sliceBounds,HT.sIx,getD_none,show (1:Int)>0 by decide,dU]
   by_cases h:i<0
   ·simp only [h,dU] <;> omega
   ·simp only [h,if_false] <;> omega
theorem jDO (its:List Value)(lo hi:Option Int):slicePick its.toArray lo hi none=((its.drop (HT.sIx its.length 0 lo)).take (HT.sIx its.length its.length hi - HT.sIx its.length 0 lo)).toArray:=by
 obtain⟨h1,h2,h3⟩:=jEL lo hi its.toArray.size
 unfold slicePick
 rw[h1,h2,h3]
 simp only [sliceRange_one,pick_run,aw] <;> rfl
def rSlL (K:W.Frag):V->Option Int->Option Int->Hp->VK->Prop:=fun x lo hi H Q=>∃ a xs,x= .ref a/\SqL K H a xs/\∀ p,H p=none->Q (.ref p) (upd H p (.lst (cutV xs lo hi)))
theorem jIP:SlR X (rSlL X.K):=by
 intro pins s σ H x v vl vu lo hi sl Q I rx hs pl pu h
 obtain⟨a,xs,rfl,hx,q⟩:=h
 cases rx
 obtain⟨its,r,ht,hz⟩:=I.list hx
 have hlen:=r.length
 refine⟨"list",_,slot_list_getitem.lookup,ht.isList.typeIs,?_⟩
 refine wpAny_getItem_list_slice ht.isList hs pl pu .none (by simp) ?_ (by rw[aw] <;> omega)
 rw[jDO,<- hlen]
 refine⟨.ref s.heap.objs.size,_,I.laid (t':=s.toks) (o:= .lst (cutV xs lo hi)) (fun b ob q=>ae _ q) (af _) ?_,rfl,q _ (I.hok.fresh (af _))⟩
 exact⟨aH (jFZ xs lo hi) hz,_,0,(r.drop (HT.sIx xs.length 0 lo)).take (HT.sIx xs.length xs.length hi - HT.sIx xs.length 0 lo),ak _ rfl⟩
def flatV:V->Bool
 | .non=>true
 | .bl _=>true
 | .int _=>true
 | .str _=>true
 | _=>false
noncomputable def eqV:V->V->Bool
 | .non, .non=>true
 | .bl a, .bl b=>a==b
 | .bl a, .int b=>(if a then 1 else 0)==b
 | .int a, .bl b=>a==(if b then 1 else 0)
 | .int a, .int b=>a==b
 | .str a, .str b=>a==b
 | _,_=>false
theorem jQI {A:Around}{s:Shared}{y x:V}{u v:Value}(ry:RelV y u)(rx:RelV x v)(fy:flatV y=true)(fx:flatV x=true):SeqAt.EqAt A s u v (eqV y x):=by
 cases y with
 | non=>
  cases ry
  cases x with
  | non=>cases rx; exact SeqAt.EqAt.same _
  | bl b=>cases rx; exact SeqAt.EqAt.none_bool b
  | int b=>obtain⟨t,rfl⟩:=rx; exact SeqAt.EqAt.none_int b t
  | str b=>obtain⟨t,rfl⟩:=rx; exact SeqAt.EqAt.none_str b t
  | _=>exact absurd (show false=true from fx) av
 | bl a=>
  cases ry
  cases x with
  | non=>cases rx; exact SeqAt.EqAt.bool_none a
  | bl b=>cases rx; exact SeqAt.EqAt.bool_bool a b
  | int b=>obtain⟨t,rfl⟩:=rx; exact SeqAt.EqAt.bool_int a b t
  | str b=>obtain⟨t,rfl⟩:=rx; exact SeqAt.EqAt.bool_str a b t
  | _=>exact absurd (show false=true from fx) av
 | int a=>
  obtain⟨t',rfl⟩:=ry
  cases x with
  | non=>cases rx; exact SeqAt.EqAt.int_none a t'
  | bl b=>cases rx; exact SeqAt.EqAt.int_bool a t' b
  | int b=>obtain⟨t,rfl⟩:=rx; exact SeqAt.EqAt.int_int a t' b t
  | str b=>obtain⟨t,rfl⟩:=rx; exact SeqAt.EqAt.int_str a t' b t
  | _=>exact absurd (show false=true from fx) av
 | str a=>
  obtain⟨t',rfl⟩:=ry
  cases x with
  | non=>cases rx; exact SeqAt.EqAt.str_none a t'
  | bl b=>cases rx; exact SeqAt.EqAt.str_bool a t' b
  | int b=>obtain⟨t,rfl⟩:=rx; exact SeqAt.EqAt.str_int a t' b t
  | str b=>obtain⟨t,rfl⟩:=rx; exact SeqAt.EqAt.str_str a t' b t
  | _=>exact absurd (show false=true from fx) av
 | _=>exact absurd (show false=true from fy) av
noncomputable def eqU (x:V)(u:Value):Bool:=match u with
 | .none=>eqV .non x
 | .bool b=>eqV (.bl b) x
 | .int i _=>eqV (.int i) x
 | .str z _=>eqV (.str z) x
 | _=>false
theorem jMY {x y:V}{u:Value}(r:RelV y u)(f:flatV y=true):eqU x u=eqV y x:=by
 cases y with
 | non=>cases r; rfl
 | bl b=>cases r; rfl
 | int i=>obtain⟨t,rfl⟩:=r; rfl
 | str z=>obtain⟨t,rfl⟩:=r; rfl
 | _=>exact absurd (show false=true from f) av
theorem jD1 {x:V} :∀ {xs:List V}{us:List Value},Vals xs us->xs.all flatV=true->us.any (eqU x)=xs.any fun y=>eqV y x
 | _,_, .nil,_=>rfl
 | y::xs,u::us, .cons r t,f=>by
  rw[eZ,aR] at f
  rw[List.any_cons,List.any_cons,jMY r f.1,jD1 t f.2]
theorem jAV {A:Around}{s:Shared}{x:V}{v:Value}(rx:RelV x v)(fx:flatV x=true):∀ {xs:List V}{us:List Value},Vals xs us->xs.all flatV=true->∀ u∈us,SeqAt.EqAt A s u v (eqU x u)
 | _,_, .nil,_=>fun u hu=>by cases hu
 | y::xs,u::us, .cons r t,f=>fun u' hu=>by
  rw[eZ,aR] at f
  rcases aC.mp hu with rfl | hu
  ·rw[jMY r f.1]; exact jQI r rx f.1 fx
  ·exact jAV rx fx t f.2 u' hu
def inV (x:V)(xs:List V):Bool:=xs.any fun y=>eqV y x
def rIn (K:W.Frag)(neg:Bool):R2:=fun x y H Q=>∃ p xs,y= .ref p/\(SqL K H p xs\/SqT K H p xs)/\flatV x=true/\xs.all flatV=true/\Q (.bl (if neg then !inV x xs else inV x xs)) H
theorem jAP:OpR X (compareOp .In) (rIn X.K false):=by
 intro pins s σ H x y v u Q I rx ry h
 obtain⟨p,xs,rfl,hq,fx,fs,q⟩:=h
 cases ry
 rcases hq with hq | hq
 ·obtain⟨its,r,pl,hz⟩:=I.list hq
  refine SeqAt.in_listAt (eqU x) pl.isList (fun w hw=>jAV rx fx r fs w (by simpa using hw)) ⟨.bl _,H,I,rfl,?_⟩
  rw[show its.toArray.any (eqU x)=its.any (eqU x) by simp,jD1 r fs]
  exact q
 ·obtain⟨its,r,pl,hz⟩:=I.tuple hq
  refine SeqAt.in_tupleAt (eqU x) pl (fun w hw=>jAV rx fx r fs w (by simpa using hw)) ⟨.bl _,H,I,rfl,?_⟩
  rw[show its.toArray.any (eqU x)=its.any (eqU x) by simp,jD1 r fs]
  exact q
theorem jAN:OpR X (compareOp .NotIn) (rIn X.K true):=by
 intro pins s σ H x y v u Q I rx ry h
 obtain⟨p,xs,rfl,hq,fx,fs,q⟩:=h
 cases ry
 rcases hq with hq | hq
 ·obtain⟨its,r,pl,hz⟩:=I.list hq
  refine SeqAt.notIn_listAt (eqU x) pl.isList (fun w hw=>jAV rx fx r fs w (by simpa using hw)) ⟨.bl _,H,I,rfl,?_⟩
  rw[show its.toArray.any (eqU x)=its.any (eqU x) by simp,jD1 r fs]
  exact q
 ·obtain⟨its,r,pl,hz⟩:=I.tuple hq
  refine SeqAt.notIn_tupleAt (eqU x) pl (fun w hw=>jAV rx fx r fs w (by simpa using hw)) ⟨.bl _,H,I,rfl,?_⟩
  rw[show its.toArray.any (eqU x)=its.any (eqU x) by simp,jD1 r fs]
  exact q
theorem jZ:yJ X (.builtin "len") (fun xs H Q=>∃ p ys,xs=[.ref p]/\(SqL X.K H p ys\/SqT X.K H p ys)/\Q (.int ys.length) H):=by
 intro pins s σ H xs us Q I r h
 obtain⟨p,ys,rfl,hq,q⟩:=h
 obtain⟨u,rfl,rx⟩:=vals1 r
 cases rx
 have hn:=jER
 rcases hq with hq | hq
 ·obtain⟨its,r',pl,hz⟩:=I.list hq
  have hlen:=r'.length
  exact Calls.call_len_list pl.isList (by simp only [aw] <;> omega) ⟨.int ys.length,H,I.tok _,⟨s.toks+1,by rw[aw,hlen]⟩,q⟩
 ·obtain⟨its,r',pl,hz⟩:=I.tuple hq
  have hlen:=r'.length
  exact len_tuple pl (by simp only [aw] <;> omega) ⟨.int ys.length,H,I.tok _,⟨s.toks+1,by rw[aw,hlen]⟩,q⟩
theorem jY:yJ X (.type "tuple") (fun xs H Q=>∃ p ys,xs=[.ref p]/\((SqL X.K H p ys/\∀ l,H l=none->Q (.ref l) (upd H l (.tup ys)))\/(SqT X.K H p ys/\Q (.ref p) H))):=by
 intro pins s σ H xs us Q I r h
 obtain⟨p,ys,rfl,h⟩:=h
 obtain⟨u,rfl,rx⟩:=vals1 r
 cases rx
 rcases h with ⟨hq,q⟩ | ⟨hq,q⟩
 ·obtain⟨its,r',pl,hz⟩:=I.list hq
  have hlen:=r'.length
  refine call_tuple_list pl.isList (fun h' kp=>?_) (by simp only [aw] <;> omega)
  have I1:Inv X pins σ H { s with heap:=h'} :=I.kept (t':=s.toks) kp
  have I2:Inv X pins σ (upd H h'.objs.size (.tup ys)) { s with heap:=h'.push { cls:= .type "tuple",data:= .seq its.toArray}} :=
   I1.laid (t':=s.toks) (fun b o e=>ae _ e) (af _) (show ObjOk X.prog X.w _ _ _ (.tup ys) from ⟨hz,its,r',TupO.new _ _⟩)
  exact⟨.ref h'.objs.size,_,I2,rfl,q _ (I1.hok.fresh (af _))⟩
 ·obtain⟨its,r',pl,hz⟩:=I.tuple hq
  exact call_tuple_same pl ⟨.ref p,H,I,rfl,q⟩
def tyV (K:W.Frag)(T:String)(x:V)(H:Hp):Prop:=match x with
 | .str _=>T= "str"
 | .int _=>T= "int"
 | .ref p=>(T= "list" /\∃ xs,SqL K H p xs)\/(T= "tuple" /\∃ o,K.lookup p=some o/\o.cls= .type "tuple" /\o.dict=none)\/
   (T= "dict" /\((∃ kvs,H p=some (.dK kvs))\/∃ kvs,H p=some (.dT kvs)))\/(T= "set" /\∃ S n,H p=some (.set S n))
 | _=>False
theorem jOX {pins:List (Addr×Obj)}{σ:St}{H:Hp}{s:Shared}{T:String}{x:V}{v:Value}(I:Inv X pins σ H s)(r:RelV x v)(ty:tyV X.K T x H):
  s.TypeIs v T/\∀ a,v= .ref a->∃ ob,s.heap.get? a=some ob/\ob.dict=none:=by
 cases x with
 | str z=>
  obtain⟨t,rfl⟩:=r
  cases (show T= "str" from ty)
  exact⟨typeIs_str s z t,fun _ e=>nomatch e⟩
 | int i=>
  obtain⟨t,rfl⟩:=r
  cases (show T= "int" from ty)
  exact⟨typeIs_int s i t,fun _ e=>nomatch e⟩
 | ref p=>
  cases r
  rcases ty with ⟨rfl,xs,hq⟩ | ⟨rfl,o,hk,hc,hd⟩ | ⟨rfl,hk⟩ | ⟨rfl,S,n,hk⟩
  ·obtain⟨its,_,pl,_⟩:=I.list hq
   refine⟨pl.isList.typeIs,fun a e=>?_⟩
   cases e
   obtain⟨o,n,e,c,hd,_⟩:=pl
   exact⟨o,e,hd⟩
  ·refine⟨⟨o,I.kIn p o hk,hc⟩,fun a e=>?_⟩
   cases e
   exact⟨o,I.kIn _ o hk,hd⟩
  ·have z:∃ o,s.heap.get? p=some o/\o.ExactDict:=by
    rcases hk with ⟨kvs,hk⟩ | ⟨kvs,hk⟩
    ·obtain⟨_,_,_,_,o,_,_,e,ex,_⟩:=I.hok p _ hk
     exact⟨o,e,ex⟩
    ·obtain⟨_,_,_,_,o,_,_,e,ex,_⟩:=I.hok p _ hk
     exact⟨o,e,ex⟩
   obtain⟨o,e,ex⟩:=z
   refine⟨⟨o,e,ex.1⟩,fun a e2=>?_⟩
   cases e2
   exact⟨o,e,ex.2.1⟩
  ·obtain⟨o,_,_,_,e,ex,_⟩:=I.hok p _ hk
   refine⟨⟨o,e,ex.1⟩,fun a e2=>?_⟩
   cases e2
   exact⟨o,e,ex.2.1⟩
 | _=>exact False.elim ty
def tBM (K:W.Frag)(T:String)(r:V->List V->Hp->VK->Prop)(to:TE)(t:TA):TE:=fun σ H Q=>to σ H fun x H1=>tyV K T x H1/\t σ H1 fun xs H2=>r x xs H2 Q
variable {o e:Expr}{es:List Expr}{to:TE}{t:TA}{name:Str}{apos cpos:Pos}{T id:String}{r:V->List V->Hp->VK->Prop}
theorem pe_bm (pa:PlainAttrs T)(slot:Slot T name id)(hty:typeOf (.builtin id)=pure (.type "method_descriptor"))(hm:MtR X id r)(ho:PE X o to)(ha:PA X (e::es) t)
  (hbase:attributeBase o name X.env (eval o X.env)=eval o X.env:=by rfl)
  (hfew:((backTo cpos (starEach (e::es) X.env)).all (fun x=>!x.1)&&(backToKw cpos (keywordEach [] X.env)).all (fun x=>x.1.isSome)
   &&decide ((e::es).length+([]:List Keyword).length+(if ([]:List Keyword).isEmpty then 0 else 1)<30))=true:=by rfl)
  (hline:(apos.endLine==cpos.line)=true:=by rfl) (hs:starEach (e::es) X.env=(false,eval e X.env)::starEach es X.env:=by rfl) (hplain:(backTo cpos (starEach es X.env)).any (·.1)=false:=by rfl):
  PE X (.Call (.Attribute o name apos) (e::es) [] cpos) (tBM X.K T r to t):=by
 intro pins s σ H Q I h
 refine wpAny_Call_method_late hbase hfew hline rfl (thn (ho pins s σ H _ I h) fun v s1 ⟨x,H1,I1,r1,ty,q1⟩=>?_)
 obtain⟨h1,h2⟩:=jOX I1 r1 ty
 refine⟨T,id,pa,slot,hty,h1,h2,?_⟩
 have hA:=ha cpos pins s1 σ H1 _ I1 q1
 rw[hs] at hA ⊢
 refine Calls.callWith_builtin (by show (false || (backTo cpos (starEach es X.env)).any (·.1))=false; rw[hplain] <;> rfl) (Calls.evalArgs_plain ?_)
 exact thn hA fun us s2 ⟨vs,H2,I2,r2,q2⟩=>hm pins s2 σ H2 x vs v us Q I2 r1 r2 q2
/- xs.append(e),list.index on a module's tuple .. are MtR facts of 06m -/
end
end L2
namespace L2
open PySem PySem.Spec PyProof.Rows
def MtM (X:Cx)(id:String)(r:V->List V->Hp->VK->Prop):Prop:=
 ∀ (pins:List (Addr×Obj)) (s:Shared) (σ:St) (H:Hp) (x:V) (xs:List V) (v:Value) (us:List Value) (Q:VK),Inv X pins σ H s->RelV x v->Vals xs us->r x xs H Q->
  wpAny (model X.prog X.w) X.A (call (.builtin id) (v::us)) (EP X pins σ Q) X.xe s
theorem Vals.one:∀ {x:V}{us:List Value},Vals [x] us->∃ u,us=[u]/\RelV x u
 | _,_, .cons r .nil=>⟨_,rfl,r⟩
theorem Vals.two:∀ {x y:V}{us:List Value},Vals [x,y] us->∃ u v,us=[u,v]/\RelV x u/\RelV y v
 | _,_,_, .cons r (.cons q .nil)=>⟨_,_,rfl,r,q⟩
theorem Vals.zero:∀ {us:List Value},Vals [] us->us=[]
 | _, .nil=>rfl
theorem Vals.rep {xs:List V}{us:List Value}(h:Vals xs us):∀ k:Nat,Vals (replicate k xs).flatten (replicate k us).flatten
 | 0=> .nil
 | k+1=>by
  rw[ck,ck,cQ,cQ]
  exact Vals.append h (Vals.rep h k)
theorem jEY (its:List Value):∀ (k:Nat) (acc:List Value),
  List.foldl (fun x1 x2=>x1++x2) acc.toArray (replicate k its.toArray)=(acc++(replicate k its).flatten).toArray
 | 0,acc=>by simp
 | k+1,acc=>by
  have e:acc.toArray++its.toArray=(acc++its).toArray:=by simp
  have e2:(acc++its)++(replicate k its).flatten=acc++(replicate (k+1) its).flatten:=by
   rw[ck,cQ,eR]
  rw[<- e2,<- jEY its k (acc++its),<- e,ck,List.foldl_cons]
section
variable {X:Cx}{pins:List (Addr×Obj)}{σ:St}{H:Hp}{s:Shared}{l b:Addr}{xs ys zs:List V}
theorem Inv.lset {its its':List Value}{n:Nat}{f:Array Value->Array Value}{t':Nat}(I:Inv X pins σ H s)(hH:H l=some (.lst xs))
  (e:s.heap.get? l=some { cls:= .type "list",data:= .seq its.toArray n}) (hf:f its.toArray=its'.toArray) (hv:Vals ys its') (hz:ys.length<=sizeLine):
  Inv X pins σ (upd H l (.lst ys)) { s with heap:=s.heap.update l (Obj.mapSeq f),toks:=t'} :=by
 have q:=PySem.IsL.update e f
 rw[hf] at q
 refine I.write (x:=l) (e:=l) (by rw[hH]; exact trivial) (.inl rfl) (fun b' u hb hu=>(cN s.heap (Obj.mapSeq f) (dj hb)).trans hu) ⟨_,q⟩ ?_
 exact⟨hz,its',_,hv,q⟩
theorem Inv.lnew {its:List Value}{t':Nat}(I:Inv X pins σ H s)(hv:Vals ys its)(hz:ys.length<=sizeLine):
  Inv X pins σ (upd H s.heap.objs.size (.lst ys)) { s with heap:=s.heap.push { cls:= .type "list",data:= .seq its.toArray},toks:=t'} :=
 I.laid (fun _ _ q=>ae _ q) (af _) ⟨hz,its,0,hv,ak _ rfl⟩
theorem Inv.fresh (I:Inv X pins σ H s):H s.heap.objs.size=none:=I.hok.fresh (af _)
theorem Inv.lstM (I:Inv X pins σ H s)(hH:H l=some (.lst xs)):xs.length<=sizeLine/\∃ (its:List Value) (n:Nat),Vals xs its/\xs.length=its.length/\s.heap.get? l=some { cls:= .type "list",data:= .seq its.toArray n} :=by
 obtain⟨z,its,n,r,e⟩:=I.hok l _ hH
 exact⟨z,its,n,r,r.length,e⟩
theorem jLO {n:Nat}(h:n<=sizeLine):Builtin.List.listTooLong n=false:=by
 unfold Builtin.List.listTooLong
 exact aI (by omega)
end
section
variable {X:Cx}
def jNJ:V->List V->Hp->VK->Prop:=fun x vs H Q=>∃ l xs y,x= .ref l/\vs=[y]/\H l=some (.lst xs)/\xs.length<sizeLine/\Q .non (upd H l (.lst (xs++[y])))
theorem jA6:MtM X "list.append" jNJ:=by
 intro pins s σ H x vs v us Q I rx rv h
 obtain⟨l,xs,y,rfl,rfl,hH,hz,q⟩:=h
 cases rx
 obtain⟨u,rfl,ru⟩:=rv.one
 obtain⟨z,its,n,r,hl,e⟩:=I.lstM hH
 refine fH F.slot_list_append ⟨_,e,rfl⟩ F.entry_list_append (F.args_list_append_2 _ _) (PySem.list_append l its.toArray n u (by rw[aw]; omega)) ⟨e,?_⟩
 refine⟨.non,_,I.lset (its':=its++[u]) hH e (by simp) (r.append (.cons ru .nil)) ?_,rfl,q⟩
 rw[aN,List.length_singleton]
 omega
def rCat:R2:=fun x y H Q=>∃ l b xs zs,x= .ref l/\y= .ref b/\H l=some (.lst xs)/\H b=some (.lst zs)/\xs.length+zs.length<=sizeLine/\∀ p,H p=none->Q (.ref p) (upd H p (.lst (xs++zs)))
theorem jPT:OpR X (binaryOp .Add) rCat:=by
 intro pins s σ H x y v u Q I rx ry h
 obtain⟨l,b,xs,zs,rfl,rfl,hH,hB,hz,q⟩:=h
 cases rx
 cases ry
 obtain⟨z,its,n,r,hl,e⟩:=I.lstM hH
 obtain⟨z2,its2,n2,r2,hl2,e2⟩:=I.lstM hB
 refine PySem.P.add_list e e2 ?_ (by rw[aw,aw]; omega)
 have ea:its.toArray++its2.toArray=(its++its2).toArray:=by simp
 rw[ea]
 exact⟨.ref _,_,I.lnew (t':=s.toks) (r.append r2) (by rw[aN]; omega),rfl,q _ I.fresh⟩
def rRep:R2:=fun x y H Q=>∃ l k xs,x= .ref l/\y= .int k/\H l=some (.lst xs)/\ -(2 ^ 63)<=k/\k<2 ^ 63/\xs.length*k.toNat<=sizeLine/\
 ∀ p,H p=none->Q (.ref p) (upd H p (.lst (replicate k.toNat xs).flatten))
theorem jOI {α:Type}(xs:List α)(k:Nat):(replicate k xs).flatten.length=k*xs.length:=by
 induction k with
 | zero=>simp
 | succ k ih=>rw[ck,cQ,aN,ih,gN,gO]
theorem jPQ:OpR X (binaryOp .Mult) rRep:=by
 intro pins s σ H x y v u Q I rx ry h
 obtain⟨l,k,xs,rfl,rfl,hH,h1,h2,hz,q⟩:=h
 cases rx
 obtain⟨t,rfl⟩:=ry
 obtain⟨z,its,n,r,hl,e⟩:=I.lstM hH
 have hlen:its.toArray.size*k.toNat<=sizeLine:=by rw[aw,<- hl]; exact hz
 have hcap:¬ its.toArray.size*k.toNat>(2 ^ 63 - 1) / 8:=by
  have:(sizeLine:Nat)<=(2 ^ 63 - 1) / 8:=by decide
  omega
 have hfit:¬ (!Builtin.List.listFitsIndex k)=true:=by
  rw[fitsIndex_both h1 h2]
  exact av
 have hlong:¬ Builtin.List.listTooLong (its.toArray.size*k.toNat)=true:=by
  rw[jLO hlen]
  exact av
 have hnew:List.foldl (fun x1 x2=>x1++x2) #[] (replicate (if its.toArray.isEmpty=true then 0 else k.toNat) its.toArray)=(replicate k.toNat its).flatten.toArray:=by
  have f0:∀ m:Nat,List.foldl (fun x1 x2=>x1++x2) #[] (replicate m its.toArray)=(replicate m its).flatten.toArray:=fun m=>by
   have:=jEY its m []
   rw[List.nil_append] at this
   exact this
  rw[f0]
  cases its with
  | nil=>simp
  | cons a r'=>rw[ai (by simp)]
 refine wpAny_binaryOp_repeat_ref (T:= "list") (U:= "int") (by decide) ⟨_,e,rfl⟩ (fun s'=>typeIs_int s' k t) noFill_list_mul F.fills_int_mul F.slot_int_rmul repeat_list F.slot_int_index.lookup
  (fH F.slot_int_rmul (typeIs_int s k t) F.entry_int_rmul (F.args_int_rmul_2 _ _) (int___rmul___int_list k t l its.toArray n)
   ⟨e,rfl,⟨_,e,rfl⟩,fH F.slot_list_mul ⟨_,e,rfl⟩ F.entry_list_mul (F.args_list_mul_2 _ _) (AutoListH.list___mul___list_int_3 l its.toArray n k t hfit hcap hlong) ⟨e,?_⟩⟩)
 rw[hnew]
 exact⟨.ref _,_,I.lnew (t':=s.toks) (r.rep k.toNat) (by rw[jOI,dW]; exact hz),rfl,q _ I.fresh⟩
end
section
variable {prog:Program}{w:World}{A:Around}{E:Value->Shared->Prop}{s:Shared}
set_option maxRecDepth 100000 in
end
section
variable {X:Cx}
end
end L2
namespace Att
open PySem PySem.W PySem.Calls PyProof.Rows
theorem jCT {P:Params}{h:Heap} :∀ (ns:List Int) (vs:List Value),WellAll P h vs (ns.map WData.int)->IntsAre vs ns:=by
 intro ns
 induction ns with
 | nil=>
  intro vs w
  rw[List.map_nil] at w
  cases w
  exact .nil
 | cons n ns ih=>
  intro vs w
  rw[cF] at w
  cases w with
  | cons a b=>
   cases a
   exact .cons _ _ (ih _ b)
theorem jIT {l:OpenLaw}{n:Nat}(hn:l.most=some n){P:Params}{h:Heap}{args:List WData}{vals:List Value}
  (hpre:l.row.toRowW.claim.pre args=true) (hwl:WellAll P h vals args):
  ∃ a vs ns,vals=[Value.ref a]/\args=[WData.list (ns.map WData.int)]/\h.get? a=some { cls:= .type "list",data:= .seq vs.toArray} /\IntsAre vs ns/\ns.length<=n:=by
 have hsh:WShape.hasAll [] args [.list .int]=true:=(pre_splitW hpre).1
 have hc:l.pre.holds [] { args:=args} =true:=(pre_splitW hpre).2
 obtain⟨d,r,rfl,h1,h2⟩:=hasAllW_cons hsh
 obtain rfl:=hasAllW_nil h2
 obtain⟨xs,rfl,h3⟩:=hasW_list h1
 obtain⟨ns,rfl⟩:=items_int h3
 have hlen:ns.length<=n:=by
  unfold OpenLaw.pre at hc
  have h4:(WTm.not (.lt (.lit (.int (n:Int))) (.len (.arg 0)))).holds [] { args:=[.list (ns.map .int)]} =true:=by
   have h4:=(holds_andW hc).1
   rw[hn] at h4
   exact h4
  have h5:=condW_of h4 (w_not (w_lt w_lit (w_len_list (w_arg rfl))))
  rw[ac] at h5
  refine Nat.le_of_not_lt fun q=>?_
  have q':(n:Int)<((ns.length:Nat):Int):=by omega
  first
   | (rw[ar q'] at h5; exact absurd h5 (by decide))
   | (simp at h5; omega)
 cases hwl with
 | cons w1 w2=>
  cases w2
  cases w1 with
  | list ho hall=>exact⟨_,_,ns,rfl,rfl,ho,jCT ns _ hall,hlen⟩
theorem jJ0 (l:OpenLaw)(args:List WData):l.row.toRowW.claim.post args (.bool true) args=true:=
 postW_of (r:=l.row.toRowW) (X:=(true==true))
  (show WShape.has [] (.bool true) .bool=true by first | rfl | decide | simp [WShape.has,WShape.arms,WShape.armsAll])
  (show (WTm.eq .res (.lit (.bool true))).value [] { args:=args,res:=some (.bool true),after:=args} =some (.bool (true==true)) from w_eq_bool (w_res rfl) w_lit) rfl
theorem attach_call {l:OpenLaw}{n:Nat}{q:Program}{loose:List Str}{XP:(Str->Option Value)->Heap->Prop}{YP:World->Heap->Prop}{d:DefRec}
  (hn:l.most=some n) (hdf:d.params.defaults=[])
  (call:∀ (w:World) (s₀ s₁:Shared) (mg mb:Str->Option Value) (fa:Addr) (o:Obj) (pm cd doc:Value) (a:Addr) (vs:List Value) (ns:List Int),
   Ground q loose [] XP w s₀ mg mb s₁.heap->YP w s₁.heap->
   s₁.heap.get? fa=some o->o.data= .func (docDef d.name d.params d.body d.scope pm cd doc)->s₁.heap.CodeRec cd d.name->mg d.name=some (.ref fa)->
   s₁.heap.get? a=some { cls:= .type "list",data:= .seq vs.toArray} ->IntsAre vs ns->ns.length<=n->s₁.gens=#[]->
   codeAny (model l.prog w) callerA (.call (.ref fa) ⟨[.ref a],[]⟩) (fun r s'=>r= .ok (.ret (.bool true))/\OldK s₁.heap s'.heap/\s'.os=s₁.os/\AllBare s'.gens) s₁):
  WalkO q loose XP YP l.row.toRowW d [] (fun f vs=>PySem.call f vs):=by
 intro w s₀ s₁ mg mb G Y fa o pm cd doc dV kV ho hd hcd hD hmg hg args vals as hpre hlay hrd hwl hlo
 obtain rfl:dV= .none:=Dflts.none hD hdf
 obtain rfl:kV= .none:=Dflts.noKw hD
 obtain⟨a,vs,ns,rfl,rfl,hobj,hints,hlen⟩:=jIT hn hpre hwl
 refine enter_call (dS (call w s₀ s₁ mg mb fa o pm cd doc a vs ns G Y ho (fd_plain hd) hcd hmg hobj hints hlen hg) fun r s' hq=>?_)
 obtain⟨rfl,h2,h3,h4⟩:=hq
 exact⟨.inl ⟨.bool true, .bool true,[],rfl,fun _=>rfl, .bool true,jJ0 l _,fun _=>⟨List.Pairwise.nil,fun _ hm=>(nomatch hm)⟩⟩,h2,h3,h4⟩
section
variable {prog:Program}{w:World}{A:Around}{E:Value->Shared->Prop}{s:Shared}{K:Frag}
end
end Att
namespace L2
open PySem PySem.Spec PyProof.Rows
theorem jED:∀ {vs:List Value}{ns:List Int},IntsAre vs ns->Vals (ns.map V.int) vs
 | _,_, .nil=> .nil
 | _,_, .cons n t h=> .cons ⟨t,rfl⟩ (jED h)
def Only (H:Hp):Prop:=∀ b,H b=none\/∃ o xs,H b=some (.frz o (.lst xs))
theorem jLV {P:Program}{w:World}{K:W.Frag}{mg mb:Str->Option Value}{CX:CXT}{k:Nat}{fa a:Addr}{fd:FuncData}{x:Str}{sp:Sp}{s₁:Shared}{vs:List Value}{ns:List Int}
  (KX:K.In s₁.heap) (hns:s₁.heap.Ns mainGlobals mg) (hb:s₁.heap.Ns builtinsNs mb) (hbb:∀ x:Str,x≠ "__name__" ->mb x=bootBuiltins x) (hlim:s₁.heap.NoLimit) (hg:s₁.gens=#[])
  (ha:s₁.heap.get? a=some { cls:= .type "list",data:= .seq vs.toArray}) (hi:IntsAre vs ns) (hl:ns.length<=sizeLine) (hr:Room k callerA)
  (F:∀ base:Heap,K.In base->base.Ns mainGlobals mg->FnOk P w K mg base CX k fa fd [x] sp) (hbind:∀ (s:Shared) (u:Value),BindsTo s fd ⟨[u],[]⟩ [(x,u)])
  (hsp:∀ H:Hp,Only H->SqL K H a (ns.map V.int)->sp [.ref a] H (fun v _=>v= .bl true) fun _ _ _=>False)
  (hCX:∀ H e s',CX [] H s₁ (fun _ _ _=>False) e s'->False):
  codeAny (model P w) callerA (.call (.ref fa) ⟨[.ref a],[]⟩) (fun r s'=>r= .ok (.ret (.bool true))/\OldK s₁.heap s'.heap/\s'.os=s₁.os/\AllBare s'.gens) s₁:=by
 have rv:=jED hi
 have lenV:=hi.length
 have core:∀ H:Hp,Only H->SqL K H a (ns.map V.int)->HOk P w H s₁.heap->(∀ b,H b≠none->b=a)->(H a≠none->K.lookup a=none)->
   codeAny (model P w) callerA (.call (.ref fa) ⟨[.ref a],[]⟩) (fun r s'=>r= .ok (.ret (.bool true))/\OldK s₁.heap s'.heap/\s'.os=s₁.os/\AllBare s'.gens) s₁:=by
  intro H hO hS hok hA hK
  have base_of:∀ {b:Addr}{o:Obj},s₁.heap.get? b=some o->H b=none->(hidT s₁.heap H).get? b=some o:=fun e n=>jLZ e n
  have noA:∀ {b:Addr}{o:Obj}{es:Array DictEntry}{ep:Nat},s₁.heap.get? b=some o->o.data= .dict es ep->H b=none:=fun {b o es ep} e d=>by
   cases q:H b with
   | none=>rfl
   | some u=>
    have e':b=a:=hA b (by rw[q]; simp)
    subst e'
    rw[ha] at e; cases e
    have d':Data.seq vs.toArray _=Data.dict es ep:=d
    cases d'
  have nsK:∀ {b:Addr}{m:Str->Option Value},s₁.heap.Ns b m->(hidT s₁.heap H).Ns b m:=fun {b m} ⟨o,es,ep,e,d,r⟩=>⟨o,es,ep,base_of e (noA e d),d,r⟩
  have hKb:K.In (hidT s₁.heap H):=fun b o e=>base_of (KX b o e) (by
   cases q:H b with
   | none=>rfl
   | some u=>
    have e':b=a:=hA b (by rw[q]; simp)
    subst e'
    rw[hK (by rw[q]; simp)] at e; cases e)
  have hM:Mod K mg (hidT s₁.heap H):=⟨hKb,nsK hns,⟨mb,nsK hb,hbb⟩,let ⟨mc,h1,h2⟩:=hlim; ⟨mc,nsK h1,h2⟩⟩
  have e0:Env0 P w K mg (hidT s₁.heap H) callerA [] s₁ H:=⟨rfl,hM,fun b o e=>jOC e,Nat.le_of_eq (jK4 _ _),trivial,fun b hb=>absurd (show b∈([]:List Addr) from hb) (by simp),hok, .of_eq hg⟩
  refine dS ((F _ hKb (nsK hns)).run callerA [] s₁ H ⟨[.ref a],[]⟩ [.ref a] [.ref a] _ _ hr e0 (hbind s₁ (.ref a)) (.cons rfl .nil) (hsp H hO hS)) fun r s' h=>?_
  cases r with
  | error e=>exact(hCX H e s' h).elim
  | ok fl=>
   cases fl with
   | next=>exact False.elim h
   | brk=>exact False.elim h
   | cont=>exact False.elim h
   | ret u=>
    obtain⟨v,H',os,bare,un,hok',r',q⟩:=h
    have q':v= .bl true:=q
    subst q'
    obtain rfl:u=Value.bool true:=r'
    refine⟨rfl,OldK.of_keep fun b o e=>?_,os,bare⟩
    cases q:H b with
    | none=>exact un.keep b o e q (by intro z; exact absurd (show b∈([]:List Addr) from z) (by simp)) (by simp)
    | some u=>
     rcases hO b with z | ⟨ob,xs,z⟩
     ·rw[q] at z; cases z
     ·have z2:=un.frzs b ob _ z
      obtain⟨e1,_⟩:=hok b _ z
      obtain⟨e2,_⟩:=hok' b _ z2
      rw[e] at e1; cases e1
      exact e2
 cases hk:K.lookup a with
 | some o=>
  have e:=KX a o hk
  rw[ha] at e
  cases e
  refine core (fun _=>none) (fun _=> .inl rfl) (.inr ⟨_,vs.toArray,_,hk,rfl,rfl,rfl,by rw[aw,lenV]; exact hl,by simpa using rv⟩) (fun b u z=>by have z':(none:Option HO)=some u:=z; cases z') (fun b z=>absurd rfl z) fun z=>absurd rfl z
 | none=>
  refine core (fun b=>if b=a then some (.frz { cls:= .type "list",data:= .seq vs.toArray} (.lst (ns.map V.int))) else none) (fun b=>?_) (.inl (.inr ⟨{ cls:= .type "list",data:= .seq vs.toArray},ah rfl⟩)) (fun b u z=>?_) (fun b z=>?_) fun _=>hk
  ·by_cases hb:b=a
   ·exact .inr ⟨_,_,ah hb⟩
   ·exact .inl (ai hb)
  ·by_cases hb:b=a
   ·have z':=(ah hb).symm.trans z
    cases z'
    subst hb
    exact⟨ha,by rw[ac]; exact hl,vs,_,rv,ha⟩
   ·have z':=(ai hb).symm.trans z
    cases z'
  ·by_cases hb:b=a
   ·exact hb
   ·exact absurd (ai hb) z
end L2
namespace L2
open PySem PySem.Spec PyProof.Rows
theorem walk_of {l:PySem.W.OpenLaw}{n k:Nat}{q:Program}{loose:List Str}{XP:(Str->Option Value)->Heap->Prop}{YP:World->Heap->Prop}{d:DefRec}{K:Params->W.Frag}{CX:World->CXT}{sp:World->Sp}{x:Str}
  (hn:l.most=some n) (hn2:n<=sizeLine) (hdf:d.params.defaults=[]) (hr:Room k callerA)
  (hY:∀ (w:World) (h:Heap),YP w h->(K w.params).In h)
  (F:∀ (w:World) (mg:Str->Option Value) (fa:Addr) (h:Heap),(K w.params).In h->h.Ns mainGlobals mg->mg d.name=some (.ref fa)->
   ∃ fd:FuncData,(∀ (s:Shared) (u:Value),BindsTo s fd ⟨[u],[]⟩ [(x,u)])/\
    ∀ base:Heap,(K w.params).In base->base.Ns mainGlobals mg->FnOk l.prog w (K w.params) mg base (CX w) k fa fd [x] (sp w))
  (hsp:∀ (w:World) (H:Hp) (a:Addr) (ns:List Int),ns.length<=n->Only H->SqL (K w.params) H a (ns.map V.int)->sp w [.ref a] H (fun v _=>v= .bl true) fun _ _ _=>False)
  (hCX:∀ (w:World) (H:Hp) (s:Shared) (e:Value) (s':Shared),CX w [] H s (fun _ _ _=>False) e s'->False):
  PySem.W.WalkO q loose XP YP l.row.toRowW d [] (fun f vs=>PySem.call f vs):=by
 refine Att.attach_call hn hdf fun w s₀ s₁ mg mb fa o pm cd doc a vs ns G Y ho hd hcd hmg hobj hints hlen hg=>?_
 have KX:=hY w _ Y
 obtain⟨fd,hb,hF⟩:=F w mg fa _ KX G.T.g hmg
 exact jLV KX G.T.g G.T.b G.T.builtins G.T.nolimit hg hobj hints (aH hlen hn2) hr hF hb (fun H hO hS=>hsp w H a ns hlen hO hS) fun H e s'=>hCX w H s₁ e s'
end L2
/- THE LAST THEOREM (shape; LID,My.* are yours):
  My.Adr:a structure of the addresses that your layer names (classes,functions); My.Txt K t:a structure (Prop) of the equations over K;
  My.txt_mk: {K} {implicit addresses ..} (e1:nsIn K mainGlobals "law" =some (some (.ref f))) (e2:K.lookup f=some ⟨oc,od, .func (fnOf "law" "law" params body scope dV kV doc pm an cdv ct),sl⟩) (e3:codeIn K cdv "law" =true) .. :∃ t,My.Txt K t
set_option maxRecDepth 100000 in
set_option maxHeartbeats 0 in
theorem PySem.Challenge.cw_LID_holds : PySem.Challenge.rw_LID.Holds := by
 w_on; o_law; k_head; (case hw=>w_witness2)
 k_fill
 refine L2.walk_of (l:=PySem.Challenge.rw_LID) (n:=63) (k:=40) (x:= "script") (CX:=fun w=> ..) (sp:=fun _=>My.sp_law) rfl (by decide) rfl ⟨rfl,by decide,by decide⟩ (fun w h Y=>kIn_of Y) ?F ?S ?C
 case F=>
  intro w mg fa h KX G hmg
  have T:∃ t,My.Txt (L2.KOf KX) t:=by
   dsimp only [L2.KOf] -- K must stand as «<heap const>w.params» for k_is
   refine' My.txt_mk ?e1 ?e2 ?e3 ..
   (case e1=>PySem.W.k_is) -- in the order:a name->its address->its object->its parts
   (case e2=>PySem.W.k_is)
   ..
  obtain⟨t,T⟩:=T
  have e0:=hmg.symm.trans (e8 KX G T.law)
  cases e0 -- fa is the law's own address
  exact⟨_,fun s u=> .of_eq rfl,fun base kb nb=>My.law_fn T kb nb⟩ -- if «.of_eq rfl» comes too early:refine' ⟨_,?b,fun base kb nb=>My.law_fn T kb nb⟩; exact fun s u=> .of_eq rfl
 case S=>exact fun w H a ns hl hO hS=> ..
 case C=>exact ..
(the tactic k_is has no namespace:write k_is) -/
namespace L2
open PySem PySem.Spec PyProof.Rows
abbrev CX0:CXT:=fun _ _ _ _ _ _=>False
abbrev E0:XK:=fun _ _ _=>False
theorem pass0 {X:Cx} :jL1 CX0 X E0:=fun _ _ _ _ _ _ _ h=>h.elim
structure Fun (K:W.Frag)(x qual:Str)(st:Stmt)(f:Addr)(fd:FuncData):Prop where
 ex:∃ (oc:Value) (od:Option Addr) (kV doc pm:Value) (an:Option Addr) (cdv ct:Value) (osl:Array (Option Value)),
  fd=PySem.W.fnOf x qual (jR st) (jB st) (j8 st) .none kV doc pm an cdv ct/\K.lookup f=some ⟨oc,od, .func fd,osl⟩/\PySem.W.codeIn K cdv qual=true
 kp:keepIn K (.ref f)=true
section
variable {P:Program}{w:World}{K:W.Frag}{mg:Str->Option Value}{base:Heap}
theorem Fun.ok {x qual:Str}{st:Stmt}{f:Addr}{fd:FuncData}{N ps:List Str}{k:Nat}{sp:Sp}(F:Fun K x qual st f fd)(S:FnScope N ps (j8 st))(len:∀ vs H Q E,sp vs H Q E->vs.length=ps.length)
  (hbody:∀ (cdv:Value) (A:Around) (outer:List Env) (s:Shared) (H:Hp) (vs:List V) (Q:VK) (E:XK),Room k (A.deeper (envOfC qual (j8 st) s.heap.objs.size f cdv))->sp vs H Q E->
   ∃ t,PSs (cxOf CX0 P w K mg base N qual (j8 st) f cdv A outer s H E).nox (jB st) t/\t { nx:=fun _ H'=>Q .non H',rt:=Q} (yX N vs) H):FnOk P w K mg base CX0 (k+1) f fd ps sp:=by
 obtain⟨oc,od,kV,doc,pm,an,cdv,ct,osl,rfl,lk,hcd⟩:=F.ex
 refine fn_of lk hcd S len fun A outer s H vs Q E hr hsp=>?_
 obtain⟨t,h,q⟩:=hbody cdv A outer s H vs Q E hr hsp
 exact⟨t,h.nox,q⟩
theorem Fun.binds {x qual:Str}{st:Stmt}{f:Addr}{fd:FuncData}{ps:List Str}(F:Fun K x qual st f fd)
  (h:∀ (kV doc pm:Value) (an:Option Addr) (cdv ct:Value) (us:List Value),us.length=ps.length->bindArgs (PySem.W.fnOf x qual (jR st) (jB st) (j8 st) .none kV doc pm an cdv ct) ⟨us,[]⟩=pure (ps.zip us)):Binds K fd ps []:=by
 obtain⟨oc,od,kV,doc,pm,an,cdv,ct,osl,rfl,lk,hcd⟩:=F.ex
 exact .all (h kV doc pm an cdv ct)
theorem kU {x qual:Str}{st:Stmt}{f:Addr}{oc:Value}{od an:Option Addr}{osl:Array (Option Value)}{kV doc pm cdv ct:Value}(l:K.lookup f=some ⟨oc,od, .func (PySem.W.fnOf x qual (jR st) (jB st) (j8 st) .none kV doc pm an cdv ct),osl⟩)
  (c:PySem.W.codeIn K cdv qual=true) (k:keepIn K (.ref f)=true):Fun K x qual st f (PySem.W.fnOf x qual (jR st) (jB st) (j8 st) .none kV doc pm an cdv ct):=⟨⟨oc,od,kV,doc,pm,an,cdv,ct,osl,rfl,l,c⟩,k⟩
end
section
variable {X:Cx}
theorem pv (i:Nat){x:Str}{pos:Pos}(hN:X.N[i]?=some x:=by rfl)(hv:Vis X.env.scope x:=by first | exact Or.inl rfl | exact Or.inr (Or.inl rfl) | exact Or.inr (Or.inr rfl))(hd:(x==("__debug__" :Str))=false:=by decide)
  (hcd:(x==("__classdict__" :Str))=false:=by decide):PE X (.Name x pos) (tVar i):=jMQ hN hv hd hcd
end
theorem iteF {A B:Prop}(h:B):if false=true then A else B:=by
 rw[ai av]
 exact h
theorem iteT {A B:Prop}(h:A):if true=true then A else B:=by
 rw[ah rfl]
 exact h
theorem ite2 {c A B:Prop} [Decidable c](h1:c->A)(h2:¬ c->B):if c then A else B:=by
 by_cases h:c
 ·rw[ah h]
  exact h1 h
 ·rw[ai h]
  exact h2 h
theorem iteNS {c A B:Prop} [Decidable c](hc:c)(h:B):if (!decide c)=true then A else B:=by
 rw[ar hc]
 exact iteF h
def kO (cells:List (Str×Addr)):List (Str×NameKind)->List (Str×Addr)->List (Str×Addr)
 | [],acc=>acc
 | (n,k)::r,acc=>if k= .free then kO cells r ((n,(cells.lookup n).getD 0)::acc) else kO cells r acc
theorem jBW {env:Env} :∀ (l:List (Str×NameKind)) (acc:List (Str×Addr)),(∀ y∈l,y.2= .free->∃ c,env.cells.lookup y.1=some c)->
  (forIn l acc fun (x:Str×NameKind) (cs:List (Str×Addr))=>(if (x.2==NameKind.free)=true then (do let a <- cellOf env x.1; pure (ForInStep.yield ((x.1,a)::cs))) else pure (ForInStep.yield cs):Sem (ForInStep (List (Str×Addr)))))=pure (kO env.cells l acc)
 | [],acc,_=>rfl
 | (n,k)::r,acc,h=>by
  have hr:∀ y∈r,y.2= .free->∃ c,env.cells.lookup y.1=some c:=fun y hy=>h y (aB _ hy)
  rw[fO]
  by_cases hk:k= .free
  ·subst hk
   obtain⟨c,hc⟩:=h (n, .free) aA rfl
   have e:cellOf env n=pure c:=by unfold cellOf; rw[hc]
   have e2:kO env.cells ((n,NameKind.free)::r) acc=kO env.cells r ((n,c)::acc):=by
    show (if NameKind.free=NameKind.free then kO env.cells r ((n,(env.cells.lookup n).getD 0)::acc) else _)=_
    rw[ah rfl,hc]; rfl
   rw[e2,<- jBW r ((n,c)::acc) hr]
   show ((do let a <- cellOf env n; pure (ForInStep.yield ((n,a)::acc))) >>= _)=_
   rw[e]; rfl
  ·have hb:(k==NameKind.free)=false:=by cases k <;> first | rfl | exact absurd rfl hk
   have e2:kO env.cells ((n,k)::r) acc=kO env.cells r acc:=by
    show (if k=NameKind.free then _ else kO env.cells r acc)=_
    rw[ai hk]
   rw[e2,<- jBW r acc hr]
   show ((if (k==NameKind.free)=true then _ else pure (ForInStep.yield acc)) >>= _)=_
   rw[hb]; rfl
theorem jKK {env:Env}{sc:Scope}(h:∀ y∈sc.names,y.2= .free->∃ c,env.cells.lookup y.1=some c):closureFor sc env=pure (kO env.cells sc.names []):=by
 unfold closureFor
 show (forIn sc.names [] _ >>= fun cs=>pure cs)=_
 rw[show (forIn sc.names ([]:List (Str×Addr)) _:Sem _)=_ from jBW sc.names [] h]
 rfl
theorem jAY {cells:List (Str×Addr)} :∀ (l:List (Str×NameKind)) (acc:List (Str×Addr)),(∀ y∈l,y.2= .free->∃ c,cells.lookup y.1=some c)->
  (∀ x c,acc.lookup x=some c->cells.lookup x=some c)->∀ x c,(kO cells l acc).lookup x=some c->cells.lookup x=some c
 | [],acc,_,ha=>ha
 | (n,k)::r,acc,h,ha=>by
  have hr:∀ y∈r,y.2= .free->∃ c,cells.lookup y.1=some c:=fun y hy=>h y (aB _ hy)
  unfold kO
  by_cases hk:k= .free
  ·rw[ah hk]
   obtain⟨c0,hc⟩:=h (n,k) aA hk
   refine jAY r _ hr fun x c e=>?_
   rw[aK] at e
   cases hx:x==n with
   | true=>
    rw[hx] at e
    have exn:x=n:=eq_of_beq hx
    subst exn
    have hc':cells.lookup x=some c0:=hc
    rw[hc'] at e ⊢
    exact e
   | false=>rw[hx] at e; exact ha x c e
  ·rw[ai hk]; exact jAY r acc hr ha
theorem jA8 {cells:List (Str×Addr)}{x:Str} :∀ (l:List (Str×NameKind)) (acc:List (Str×Addr)),((x,NameKind.free)∈l\/∃ c,acc.lookup x=some c)->∃ c,(kO cells l acc).lookup x=some c
 | [],acc,h=>by
  rcases h with h | h
  ·cases h
  ·exact h
 | (n,k)::r,acc,h=>by
  unfold kO
  by_cases hk:k= .free
  ·rw[ah hk]
   refine jA8 r _ ?_
   by_cases e:x=n
   ·subst e
    exact .inr ⟨_,by rw[aK,fi]⟩
   ·rcases h with h | ⟨c,h⟩
    ·rcases aC.mp h with q | q
     ·cases q; exact absurd rfl e
     ·exact .inl q
    ·refine .inr ⟨c,?_⟩
     rw[aK,cg.mpr e]
     exact h
  ·rw[ai hk]
   refine jA8 r _ ?_
   rcases h with h | h
   ·rcases aC.mp h with q | q
    ·cases q; exact absurd rfl hk
    ·exact .inl q
   ·exact .inr h
theorem jA3 {x:Str}{k:NameKind} :∀ {l:List (Str×NameKind)},l.lookup x=some k->(x,k)∈l
 | [],h=>by cases h
 | (n,k')::r,h=>by
  rw[aK] at h
  cases hx:x==n with
  | true=>rw[hx] at h; cases h; rw[eq_of_beq hx]; exact aA
  | false=>rw[hx] at h; exact aB _ (jA3 h)
theorem jBR {env:Env}{x:Str}{k:NameKind}(hk:k= .cell\/k= .free):∀ {l:List (Str×NameKind)},(∀ y∈l,y.2≠ .cell)->
  (l.map fun (n,k)=>if (k==NameKind.free&&env.scope.kind== .function&&env.kindOf n==some .cell) then (n,NameKind.cell) else (n,k)).lookup x=some k->l.lookup x=some .free
 | [],_,h=>by simp at h
 | (n,k')::r,hc,h=>by
  have ih:= @jBR env x k hk r (fun y hy=>hc y (aB _ hy))
  have hc0:k'≠ .cell:=hc (n,k') aA
  rw[aK]
  rw[cF] at h
  dsimp only at h
  by_cases hb:(k'==NameKind.free&&env.scope.kind== .function&&env.kindOf n==some .cell)=true
  ·rw[ah hb,aK] at h
   cases hx:x==n with
   | true=>
    have:k'= .free:=by
     simp only [aR] at hb
     exact eq_of_beq hb.1.1
    rw[this]
   | false=>rw[hx] at h; exact ih h
  ·rw[ai hb,aK] at h
   cases hx:x==n with
   | true=>
    rw[hx] at h
    have e:k'=k:=ba h
    rcases hk with q | q
    ·exact absurd (e.trans q) hc0
    ·rw[e,q]
   | false=>rw[hx] at h; exact ih h
theorem jA4 {env:Env}{x:Str} :∀ {l:List (Str×NameKind)},l.lookup x=some .free->
  (l.map fun (n,k)=>if (k==NameKind.free&&env.scope.kind== .function&&env.kindOf n==some .cell) then (n,NameKind.cell) else (n,k)).lookup x=some .cell\/
  (l.map fun (n,k)=>if (k==NameKind.free&&env.scope.kind== .function&&env.kindOf n==some .cell) then (n,NameKind.cell) else (n,k)).lookup x=some .free
 | [],h=>by cases h
 | (n,k')::r,h=>by
  have ih:= @jA4 env x r
  rw[aK] at h
  rw[cF]
  dsimp only
  by_cases hb:(k'==NameKind.free&&env.scope.kind== .function&&env.kindOf n==some .cell)=true
  ·rw[ah hb,aK]
   cases hx:x==n with
   | true=>exact .inl rfl
   | false=>rw[hx] at h; exact ih h
  ·rw[ai hb,aK]
   cases hx:x==n with
   | true=>rw[hx] at h; exact .inr h
   | false=>rw[hx] at h; exact ih h
section
variable {prog:Program}{w:World}{A:Around}{R:Result->Shared->Prop}{s:Shared}
abbrev jIA (ifs:List Expr)(env:Env):Sem Bool:=forIn ifs true fun c r=>if r=true then do let ok <- isTrue c env (eval c env); pure (ForInStep.yield ok) else pure (ForInStep.yield r)
theorem jDG {elt tg iter:Expr}{ifs:List Expr}{sc:Scope}{pos:Pos}{it acc:Value}{env:Env}(J:Nat->Shared->Prop)
  (turn:∀ n z,J n z->wpAny (model prog w) A (pyNext it) (fun r z1=>match r with
   | none=>R (.ok .next) z1
   | some v=>wpAny (model prog w) A (letOwnedTupleGo tg it v) (fun _ z2=>wpAny (model prog w) A (assign tg env v) (fun _ z3=>wpAny (model prog w) A (jIA ifs env) (fun ok z4=>
     if ok=true then wpAny (model prog w) A (eval elt env) (fun x z5=>wpAny (model prog w) A (call (.builtin "list.append") [acc,x]) (fun _ z6=>∃ k,k<n/\J k z6) (fun _ _=>False) z5) (fun _ _=>False) z4
     else ∃ k,k<n/\J k z4) (fun _ _=>False) z3) (fun _ _=>False) z2) (fun _ _=>False) z1) (fun _ _=>False) z)
  (n:Nat) (h:J n s):codeAny (model prog w) A (.compLoop (.ListComp elt [⟨tg,iter,ifs,0⟩] sc pos) 0 it acc env) R s:=by
 refine codeAny_loop rfl J (fun k z hJ=>?_) n h
 have noE:∀ {α:Type}{t:Sem α}{Q:α->Shared->Prop}{E:Value->Shared->Prop}{z:Shared},wpAny (model prog w) A t Q (fun _ _=>False) z->wpAny (model prog w) A t Q E z:=
  fun q=>cw q (fun _ _ a=>a) fun _ _ f=>f.elim
 show wpAny _ A ((compTurn (.ListComp elt [⟨tg,iter,ifs,0⟩] sc pos) 0 it acc env).onRaise (fun x=>do noteFrame x env; theTreesLotGoes x)) _ _ z
 refine wpAny_noted ?_
 rw[compTurn_list]
 refine aa (dG (aa (cw (turn k z hJ) (fun r z1 q1=>?_) fun _ _ f=>f.elim)))
 cases r with
 | none=>exact ag q1
 | some v=>
  refine aa (cw q1 (fun _ z2 q2=>?_) fun _ _ f=>f.elim)
  refine aa (cw q2 (fun _ z3 q3=>?_) fun _ _ f=>f.elim)
  refine aa (cw q3 (fun ok z4 q4=>?_) fun _ _ f=>f.elim)
  cases ok with
  | false=>exact ag ⟨rfl,q4⟩
  | true=>
   refine aa (aa (cw q4 (fun x z5 q5=>?_) fun _ _ f=>f.elim))
   exact aa (cw q5 (fun _ z6 q6=>ag (ag ⟨rfl,q6⟩)) fun _ _ f=>f.elim)
end
noncomputable def blk (X:Cx)(sc:Scope)(cl:List (Str×Addr))(C:Addr)(Nc:List Str)(fp:List Addr)(s:Shared)(H:Hp):Cx where
 prog:=X.prog
 w:=X.w
 K:=X.K
 mg:=X.mg
 base:=X.base
 A:=X.A
 N:=Nc
 s₀:=s
 H₀:=H
 env:=compEnvC sc cl C X.env
 outer:=X.stack
 stack:=X.stack
 ex:=fp
 fn:=fun _=>false
 calm:=X.calm
 pn:=[]
 xe:=fun _ _=>False
def blkσ (m:List (Option Nat))(σ:St):St:=m.map fun o=>match o with
 | none=>none
 | some i=>(σ[i]?).getD none
def PTs (X:Cx)(ifs:List Expr)(t:TT):Prop:=
 ∀ (pins:List (Addr×Obj)) (s:Shared) (σ:St) (H:Hp) (Q:Bool->Hp->Prop),Inv X pins σ H s->t σ H Q->wpAny (model X.prog X.w) X.A (jIA ifs X.env) (TP X pins σ Q) X.xe s
def yG:TT:=fun _ H Q=>Q true H
theorem jIY {X:Cx} :PTs X [] yG:=fun _ _ _ H _ I h=>wpAny_tests_nil ⟨H,I,h⟩
theorem jIX {X:Cx}{c:Expr}{t:TT}(h:PT X c t):PTs X [c] t:=fun pins s σ H Q I q=>wpAny_tests_one (h pins s σ H Q I q)
def qN (m:List (Option Nat))(g:TG)(tt:TT)(te:TE)(σ:St)(Q:VK)(J:It)(H1:Hp):Prop:=∀ D,H1 D=none->∃ W:Nat->Nat->St->Hp->List V->Prop,
  (∃ n,W 0 n (blkσ m σ) (upd H1 D (.lst [])) [])/\∀ i n σ' H' ys,W i n σ' H' ys->H' D=some (.lst ys)/\ys.length<sizeLine/\
   ((J.stop i H'/\Q (.ref D) H')\/(J.go i H'/\∃ N:St->Hp->List V->Prop,(∀ σ2 H2 zs,N σ2 H2 zs->∃ n',n'<n/\W (i+1) n' σ2 H2 zs)/\∀ x H'',J.yld i H' x H''->g x σ' H'' fun σ2 H2=>tt σ2 H2 fun b H3=>
    if b=true then te σ2 H3 fun v H4=>H4 D=some (.lst ys)/\N σ2 (upd H4 D (.lst (ys++[v]))) (ys++[v])
    else N σ2 H3 ys))
def tComp (m:List (Option Nat))(wi:TI)(g:TG)(tt:TT)(te:TE):TE:=fun σ H Q=>wi σ H (qN m g tt te σ Q)
theorem Un.sameBut {fs ex:List Addr}{H H':Hp}{h h1 h2:Heap}{C:Addr}(u:Un fs ex H H' h h1)(sb:Heap.SameBut C h1 h2)(hC:h.objs.size<=C):Un fs ex H H' h h2:=by
 have ne:∀ {b:Addr}{o:Obj},h.get? b=some o->b≠C:=fun e=>aL (aJ (am e) hC)
 refine⟨fun b o e n hf hx=>(sb.2 b (ne e)).trans (u.keep b o e n hf hx),fun b o e n hf hx=>?_,u.free,fun b o e hx=>?_,u.tups,u.frzs,u.tbls⟩
 ·obtain⟨sl,q⟩:=u.slot b o e n hf hx
  exact⟨sl,(sb.2 b (ne e)).trans q⟩
 ·obtain⟨o',q⟩:=u.there b o e hx
  exact⟨o',(sb.2 b (ne e)).trans q⟩
theorem HOk.sameBut {P:Program}{w:World}{H:Hp}{h1 h2:Heap}{C:Addr}(x:HOk P w H h1)(sb:Heap.SameBut C h1 h2)(hC:H C=none):HOk P w H h2:=fun a o e=>
 (x a o e).stay (fun b u hb q=>(sb.2 b (by
  rintro rfl
  rcases hb with rfl | hb
  ·rw[hC] at e; cases e
  ·rw[hC] at hb; cases hb)).trans q) (fun _ q=>q) fun _ _ q=>q
section
variable {X:Cx}{tg iter elt:Expr}{ifs:List Expr}{sc:Scope}{pos:Pos}{wi:TI}{g:TG}{tt:TT}{te:TE}{m:List (Option Nat)}{Nc:List Str}
def qB (X:Cx)(sc:Scope)(Nc:List Str)(m:List (Option Nat)):Prop:=
 m.length=Nc.length/\∀ (k i:Nat),m[k]?=some (some i)->∃ x,Nc[k]?=some x/\X.N[i]?=some x/\sc.names.lookup x=some .free
theorem jKU {pins:List (Addr×Obj)}{s:Shared}{σ:St}{H:Hp}{fp:List Addr}(I:Inv X pins σ H s)(hkind:sc.kind= .function)(hcell:∀ y∈sc.names,y.2≠ .cell)
  (hfree:∀ y∈sc.names,y.2= .free->X.env.scope.names.lookup y.1=some .cell\/X.env.scope.names.lookup y.1=some .free) (hm:qB X sc Nc m) (hfp:∀ b∈fp,FpOk X pins H b) (hlt:∀ b∈fp,b<s.heap.objs.size)
  {h1:Heap}{tk:Nat}{md:Str->Option Value}(hns:h1.Ns s.heap.objs.size md) (old:∀ b o,s.heap.get? b=some o->h1.get? b=some o):
  Inv (blk X sc (kO X.env.cells sc.names []) s.heap.objs.size Nc fp s H) [] (blkσ m σ) H { s with heap:=h1,toks:=tk} :=by
 have hcl:∀ y∈sc.names,y.2= .free->∃ c,X.env.cells.lookup y.1=some c:=fun y hy hf=>I.ok.has y.1 (hfree y hy hf)
 have sub:∀ x c,(kO X.env.cells sc.names []).lookup x=some c->X.env.cells.lookup x=some c:=jAY sc.names [] hcl (fun x c e=>by cases e)
 have isfree:∀ x,(compEnvC sc (kO X.env.cells sc.names []) s.heap.objs.size X.env).kindOf x=some .cell\/(compEnvC sc (kO X.env.cells sc.names []) s.heap.objs.size X.env).kindOf x=some .free->sc.names.lookup x=some .free:=fun x h=>by
  rcases h with h | h
  ·exact jBR (.inl rfl) hcell h
  ·exact jBR (.inr rfl) hcell h
 refine⟨⟨I.ok.mod,hkind,I.ok.glob,I.ok.blt,af _,fun x y c h1 h2=>I.ok.inj x y c (sub x c h1) (sub y c h2),fun x hx=>?_,fun x c hf _=>?_,I.ok.hd,I.ok.frames, .inl rfl,fun b hb=>?_,I.bs,aH I.ok.bsz I.sz,fun b o e hb=>?_,fun b hb hz=>?_,I.stack,I.stkFree⟩,
  rfl,I.bare,Un.kept old,⟨md,hns,fun k x v e1 e2 e3=>?_⟩,fun x c e=>?_,I.hok.fresh (af _),fun x c e=>I.freeC x c (sub x c e),fun p hp=>absurd (show p∈([]:List (Addr×Obj)) from hp) (by simp),I.hok.kept old,?_⟩
 ·exact jA8 sc.names [] (.inl (jA3 (isfree x hx)))
 ·exact absurd (show false=true from hf) av
 ·obtain⟨f0,f1,f2,f3,f4,f5⟩:=hfp b hb
  exact⟨aL (hlt b hb),fun x c e=>f4 x c (sub x c e)⟩
 ·obtain⟨f0,f1,f2,f3,f4,f5⟩:=hfp b hb
  rcases f3 with q | q
  ·exact I.ok.noex b o e q
  ·exact absurd (aJ (am (I.ok.bs b o e).1) q) (bc _)
 ·obtain⟨f0,f1,f2,f3,f4,f5⟩:=hfp b hb
  rcases aC.mp (I.stkSub b hz) with q | q
  ·exact f1 q
  ·exact f2 q
 ·have e2':∃ i,m[k]?=some (some i)/\σ[i]?=some (some v):=by
   unfold blkσ at e2
   rw[az] at e2
   cases q:m[k]? with
   | none=>rw[q] at e2; cases e2
   | some o=>
    rw[q] at e2
    cases o with
    | none=>cases e2
    | some i=>
     refine⟨i,rfl,?_⟩
     have e2:(σ[i]?).getD none=some v:=ba e2
     cases r:σ[i]? with
     | none=>rw[r] at e2; cases e2
     | some z=>rw[r] at e2; exact bP some e2
  obtain⟨i,q1,q2⟩:=e2'
  obtain⟨x',a1,a2,a3⟩:=hm.2 k i q1
  have e1':Nc[k]?=some x:=e1
  rw[e1'] at a1
  cases a1
  have vis:=hfree (x, .free) (jA3 a3) rfl
  obtain⟨m0,hn0,hl0⟩:=I.loc
  obtain⟨u,r,l⟩:=hl0 i x v a2 q2 (.inr vis)
  refine⟨u,r, .inr ⟨jA4 a3,?_⟩⟩
  obtain⟨c,hc⟩:=jA8 (cells:=X.env.cells) (x:=x) sc.names [] (.inl (jA3 a3))
  rcases l with ⟨lk,_⟩ | ⟨_,c',hc',o,ho,hd⟩
  ·have lk':X.env.scope.names.lookup x=some .local:=lk
   rcases vis with z | z
   ·rw[lk'] at z; cases z
   ·rw[lk'] at z; cases z
  ·have:=sub x c hc
   rw[hc'] at this
   cases this
   exact⟨c,hc,o,old _ _ ho,hd⟩
 ·obtain⟨v,o,ho,hd⟩:=I.cell x c (sub x c e)
  exact⟨v,o,old _ _ ho,hd⟩
 ·show (blkσ m σ).length=Nc.length
  unfold blkσ
  rw[ac]
  exact hm.1
theorem jH6 {tf:St->TE}(hc:X.calm=true)(hi:PI X tg iter wi)(hkind:sc.kind= .function)(hcell:∀ y∈sc.names,y.2≠ .cell)(hnames:∀ y∈sc.names,y.2= .local->sc.names.lookup y.1=some .local)
  (hfree:∀ y∈sc.names,y.2= .free->X.env.scope.names.lookup y.1=some .cell\/X.env.scope.names.lookup y.1=some .free) (hm:qB X sc Nc m)
  (hg:∀ cl C fp s H,PG (blk X sc cl C Nc fp s H) tg g) (ht:∀ cl C fp s H,PTs (blk X sc cl C Nc fp s H) ifs tt) (he:∀ cl C fp s H pins σ,Inv X pins σ H s->(∀ b∈fp,FpOk X pins H b)->PE (blk X sc cl C Nc fp s H) elt (tf σ))
  (hs:∀ x,foldedSetIterable iter X.env x=pure x) {fpos:Pos}{use:Option (Value->Sem Unit)}{R:Value->Shared->Prop}{pins:List (Addr×Obj)}{s:Shared}{σ:St}{H:Hp}{Q:VK}(I:Inv X pins σ H s) (h:tComp m wi g tt (tf σ) σ H Q)
  (fin:∀ (D C:Addr) (H5:Hp) (z1:Shared) (r:Flow),(∃ mm,z1.heap.Ns C mm)->FpOk X pins H5 C->(∀ h',Heap.SameBut C z1.heap h'->Inv X pins σ H5 { z1 with heap:=h'})->Q (.ref D) H5->compPost (model X.prog X.w) X.A X.xe use R (.ref D) C (.ok r) z1):
  wpAny (model X.prog X.w) X.A (comprehension (.ListComp elt [⟨tg,iter,ifs,0⟩] sc pos) sc X.env fpos (newList []) false (eval iter X.env) use) R X.xe s:=by
 have hcl:∀ y∈sc.names,y.2= .free->∃ c,X.env.cells.lookup y.1=some c:=fun y hy hf=>I.ok.has y.1 (hfree y hy hf)
 refine e9 (use:=use) rfl hs (jKK hcl) hkind hnames (thn (hi pins s σ H _ I h) fun v s1 h1=>thn h1 fun itv s2 h2=>?_)
 obtain⟨it,fp,tn,J,H2,e,I2,T,st2,f2,hQ⟩:=h2
 subst e
 have hlt:∀ b∈fp,b<s2.heap.objs.size:=fun b hb=>by
  obtain⟨o,e,_⟩:=T.obj 0 _ st2 b hb
  exact am e
 refine bI (wpAny_newFunctionEnv hcell (by intro y hy; simp at hy) (fun h₁ hns₁ hsb₁=>?_) hkind)
 have I3:Inv X pins σ (upd H2 s2.heap.objs.size (.lst [])) { s2 with heap:=s2.heap.push { cls:= .type "list",data:= .seq ([]:List Value).toArray}} :=I2.lnew (t':=s2.toks) .nil (aW _)
 obtain⟨W,⟨n0,w0⟩,turn⟩:=hQ s2.heap.objs.size I2.fresh
 have hD3:∀ b∈fp,b≠s2.heap.objs.size:=fun b hb=>aL (hlt b hb)
 have f3:∀ b∈fp,FpOk X pins (upd H2 s2.heap.objs.size (.lst [])) b:=fun b hb=>by
  obtain⟨a0,a1⟩:=f2 b hb
  exact⟨by rw[j9 (hD3 b hb)]; exact a0,a1⟩
 generalize hE:({ s2 with heap:=s2.heap.push { cls:= .type "list",data:= .seq ([]:List Value).toArray}} :Shared)=s3 at I3 hns₁ hsb₁ ⊢
 generalize hH3:upd H2 s2.heap.objs.size (.lst [])=H3 at I3 f3 w0
 have hsz3:s3.heap.objs.size=s2.heap.objs.size+1:=by rw[<- hE]; exact bf _ _
 have old:∀ b o,s3.heap.get? b=some o->h₁.get? b=some o:=fun b o e=>hsb₁.extBut b o (aL (am e)) (ae _ e)
 have old2:∀ b o,s2.heap.get? b=some o->h₁.get? b=some o:=fun b o e=>old b o (by rw[<- hE]; exact ae _ e)
 have I4:=jKU (fp:=fp) (tk:=s3.toks+([]:List (Str×Value)).length) I3 hkind hcell hfree hm f3 (fun b hb=>show b<s3.heap.objs.size by rw[hsz3]; exact aq (hlt b hb)) hns₁ old
 have st4:tn 0 h₁:=T.keep _ _ _ st2 fun b hb o e=>old2 b o e
 have loop:codeAny (model X.prog X.w) X.A (.compLoop (.ListComp elt [⟨tg,iter,ifs,0⟩] sc pos) 0 (.ref it) (.ref s2.heap.objs.size) (compEnvC sc (kO X.env.cells sc.names []) s3.heap.objs.size X.env))
   (compPost (model X.prog X.w) X.A X.xe use R (.ref s2.heap.objs.size) s3.heap.objs.size) { s3 with heap:=h₁,toks:=s3.toks+([]:List (Str×Value)).length} :=by
  generalize hX:blk X sc (kO X.env.cells sc.names []) s3.heap.objs.size Nc fp s3 H3=Xb at I4
  have eP:Xb.prog=X.prog:=by rw[<- hX]; rfl
  have ew:Xb.w=X.w:=by rw[<- hX]; rfl
  have eK:Xb.K=X.K:=by rw[<- hX]; rfl
  have eA:Xb.A=X.A:=by rw[<- hX]; rfl
  have ec:Xb.calm=true:=by rw[<- hX]; exact hc
  have ee:Xb.env=compEnvC sc (kO X.env.cells sc.names []) s3.heap.objs.size X.env:=by rw[<- hX]; rfl
  have ex:Xb.xe=fun _ _=>False:=by rw[<- hX]; rfl
  have hgb:PG Xb tg g:=by rw[<- hX]; exact hg _ _ _ _ _
  have htb:PTs Xb ifs tt:=by rw[<- hX]; exact ht _ _ _ _ _
  have heb:PE Xb elt (tf σ):=by rw[<- hX]; exact he _ _ _ _ _ _ _ I3 f3
  have stat:∀ {H':Hp},(∀ b∈fp,H' b=none)->∀ b∈fp,FpOk Xb [] H' b:=fun {H'} hn b hb=>by
   obtain⟨o,eo,_⟩:=T.obj _ _ st4 b hb
   have q:=I4.ok.exf b (by rw[<- hX]; exact hb)
   exact⟨hn b hb,q.1,I4.ok.exfs b (by rw[<- hX]; exact hb), .inl (by rw[<- hX]; exact hb),q.2,fun p hp=>absurd hp (by rw[<- hX]; simp [blk])⟩
  have fr4:∀ b∈fp,H3 b=none:=fun b hb=>(f3 b hb).1
  unfold PG at hgb
  unfold PTs at htb
  unfold PE at heb
  rw[eP,ew,eA,ee,ex] at hgb htb heb
  refine jDG (fun n z=>∃ i σ' H' ys,Inv Xb [] σ' H' z/\tn i z.heap/\(∀ b∈fp,H' b=none)/\W i n σ' H' ys) ?_ n0 ⟨0,_,H3,[],I4,st4,fr4,w0⟩
  rintro n z ⟨i,σ5,H5,ys,I5,st5,fr5,w5⟩
  obtain⟨hD,hlen,way⟩:=turn i n σ5 H5 ys w5
  rcases way with ⟨stop,q⟩ | ⟨go,N,hN,step⟩
  ·have RR:=T.done Xb eP ew eK ec i [] z σ5 H5 (fun _ _=>False) I5 (stat fr5) st5 stop
   rw[eA] at RR
   refine thn RR fun r z1 ⟨hr,I6⟩=>?_
   subst hr
   obtain⟨mm,hn6,_⟩:=I6.loc
   rw[ee] at hn6
   have u6:Un (frs X.stack) fp H3 H5 s3.heap z1.heap:=by
    have:=I6.base
    rw[<- hX] at this
    exact this
   have fC:H5 s3.heap.objs.size=none:=by
    have:=I6.free
    rw[ee] at this
    exact this
   have hok6:HOk X.prog X.w H5 z1.heap:=by
    have:=I6.hok
    rw[eP,ew] at this
    exact this
   have os6:z1.os=s3.os:=by
    have:=I6.os
    rw[<- hX] at this
    exact this
   refine fin s2.heap.objs.size s3.heap.objs.size H5 z1 .next ⟨mm,hn6⟩ (I3.fpOk (af _) fC) (fun h' sb=>?_) q
   refine I3.call' (s':= { z1 with heap:=h'}) (ch:=fp) os6 (u6.sameBut sb (af _)) (hok6.sameBut sb fC) I6.bare (fun b hb=>?_)
   obtain⟨a0,a1,a2,a3,a4,a5⟩:=f3 b hb
   exact⟨a3,a1,a4,a5⟩
  ·have RR:=T.item Xb eP ew eK ec i [] z σ5 H5 (fun _ _=>False) I5 (stat fr5) st5 go
   rw[eA] at RR
   refine thn RR fun r z1 ⟨u,hr,h6⟩=>?_
   subst hr
   refine thn h6 fun _ z2 ⟨x,H7,I7,r7,y7,st7,fr7⟩=>?_
   have I7':=I7.pinned (stat fr7) (T.obj _ _ st7)
   refine thn (hgb _ z2 σ5 H7 x u _ I7' r7 (step x H7 y7)) fun _ z3 ⟨σ8,H8,I8,q8⟩=>?_
   refine thn (htb _ z3 σ8 H8 _ I8 q8) fun ok z4 ⟨H9,I9,q9⟩=>?_
   have again:∀ {σ7:St}{Hz:Hp}{zz:Shared}{yy:List V}{n':Nat},Inv Xb ([]++jD7 fp z2.heap) σ7 Hz zz->n'<n->W (i+1) n' σ7 Hz yy->∃ k,k<n/\∃ i σ' H' ys,Inv Xb [] σ' H' zz/\tn i zz.heap/\(∀ b∈fp,H' b=none)/\W i k σ' H' ys:=fun {σ7 Hz zz yy n'} Iz hn wz=>by
    refine⟨n',hn,i+1,σ7,Hz,yy,Iz.unpinned,T.keep _ _ _ st7 fun b hb o e=>(Iz.pin (b,o) (aS _ (aS _ (jA7 hb e)))).1,fun b hb=>?_,wz⟩
    obtain⟨o,e,d⟩:=T.obj _ _ st7 b hb
    exact(Iz.pin (b,o) (aS _ (aS _ (jA7 hb e)))).2.1
   cases ok with
   | false=>
    obtain⟨n',hn,w9⟩:=hN _ _ _ (show N σ8 H9 ys from q9)
    exact again I9 hn w9
   | true=>
    refine thn (heb _ z4 σ8 H9 _ I9 q9) fun xv z5 ⟨vv,H10,I10,r10,hD10,n10⟩=>?_
    obtain⟨n',hn,w10⟩:=hN _ _ _ n10
    have RR:=jA6 (X:=Xb) _ z5 σ8 H10 (.ref s2.heap.objs.size) [vv] (.ref s2.heap.objs.size) [xv] (fun _ H'=>H'=upd H10 s2.heap.objs.size (.lst (ys++[vv]))) I10 rfl (.cons r10 .nil) ⟨_,ys,vv,rfl,rfl,hD10,hlen,rfl⟩
    rw[eP,ew,eA,ex] at RR
    refine thn RR fun _ z6 ⟨_,H11,I11,_,e11⟩=>?_
    subst e11
    exact again I11 hn w10
 exact codeAny_compStart_list loop (T.self _ 0 _ _ _ st4 loop)
theorem jFR (hc:X.calm=true)(hi:PI X tg iter wi)(hkind:sc.kind= .function)(hcell:∀ y∈sc.names,y.2≠ .cell)(hnames:∀ y∈sc.names,y.2= .local->sc.names.lookup y.1=some .local)
  (hfree:∀ y∈sc.names,y.2= .free->X.env.scope.names.lookup y.1=some .cell\/X.env.scope.names.lookup y.1=some .free) (hm:qB X sc Nc m)
  (hg:∀ cl C fp s H,PG (blk X sc cl C Nc fp s H) tg g) (ht:∀ cl C fp s H,PTs (blk X sc cl C Nc fp s H) ifs tt) (he:∀ cl C fp s H,PE (blk X sc cl C Nc fp s H) elt te)
  (hs:∀ x,foldedSetIterable iter X.env x=pure x:=by intro _; rfl):PE X (.ListComp elt [⟨tg,iter,ifs,0⟩] sc pos) (tComp m wi g tt te):=by
 intro pins s σ H Q I h
 rw[eval_ListComp]
 exact jH6 (tf:=fun _=>te) (use:=none) hc hi hkind hcell hnames hfree hm hg ht (fun cl C fp s H _ _ _ _=>he cl C fp s H) hs I h (fun D C H5 z1 r ⟨mm,hn⟩ fC sb q=>⟨mm,hn,fun h' s2=>⟨.ref D,H5,sb h' s2,rfl,q⟩⟩)
end
theorem jW {X:Cx}{sc psc:Scope}(h:(sc.names.all fun y=>decide (y.2= .free->psc.names.lookup y.1=some .cell\/psc.names.lookup y.1=some .free))=true)(e:X.env.scope=psc:=by rfl):
  ∀ y∈sc.names,y.2= .free->X.env.scope.names.lookup y.1=some .cell\/X.env.scope.names.lookup y.1=some .free:=by
 rw[e]
 intro y hy
 exact au (aU.mp h y hy)
def jK6 (sc:Scope)(N Nc:List Str)(m:List (Option Nat))(k:Nat):Bool:=match m[k]? with
 | some (some i)=>match Nc[k]? with
  | some x=>decide (N[i]?=some x)&&decide (sc.names.lookup x=some .free)
  | none=>false
 | _=>true
theorem jI {X:Cx}{sc:Scope}{N Nc:List Str}{m:List (Option Nat)}(e:X.N=N)(hl:m.length=Nc.length)(h:((List.range m.length).all (jK6 sc N Nc m))=true):qB X sc Nc m:=by
 refine⟨hl,fun k i hk=>?_⟩
 have hlt:k<m.length:=(ay.mp hk).1
 have q:=aU.mp h k (aY.mpr hlt)
 unfold jK6 at q
 rw[hk] at q
 cases e2:Nc[k]? with
 | none=>rw[e2] at q; cases q
 | some x=>
  rw[e2] at q
  have q:(decide (N[i]?=some x)&&decide (sc.names.lookup x=some .free))=true:=q
  rw[aR] at q
  exact⟨x,rfl,by rw[e]; exact au q.1,au q.2⟩
section
variable {m:List (Option Nat)}{g:TG}{tt:TT}{te:TE}{σ:St}{H1:Hp}{Q:VK}
theorem jAX {lo:Int}{n:Nat}(hn:n<sizeLine)(Pv:Addr->Nat->St->Hp->List V->Prop)(h0:∀ D,H1 D=none->Pv D 0 (blkσ m σ) (upd H1 D (.lst [])) [])
  (hD:∀ D i σ' H' ys,H1 D=none->i<=n->Pv D i σ' H' ys->H' D=some (.lst ys)/\ys.length<=i)
  (hs:∀ D i σ' H' ys,H1 D=none->i<n->Pv D i σ' H' ys->g (.int (lo+i)) σ' H' fun σ2 H2=>tt σ2 H2 fun b H3=>if b=true then te σ2 H3 fun v H4=>H4 D=some (.lst ys)/\Pv D (i+1) σ2 (upd H4 D (.lst (ys++[v]))) (ys++[v]) else Pv D (i+1) σ2 H3 ys)
  (hd:∀ D σ' H' ys,H1 D=none->Pv D n σ' H' ys->Q (.ref D) H'):qN m g tt te σ Q (Itr lo n) H1:=by
 intro D hDn
 refine⟨fun i k σ' H' ys=>k=n - i/\i<=n/\Pv D i σ' H' ys,⟨n,rfl,aW _,h0 D hDn⟩,?_⟩
 rintro i k σ' H' ys ⟨rfl,hi,p⟩
 obtain⟨q1,q2⟩:=hD D i σ' H' ys hDn hi p
 refine⟨q1,by omega,?_⟩
 by_cases hlt:i<n
 ·refine .inr ⟨hlt,Pv D (i+1),fun σ2 H2 zs z=>⟨n - (i+1),by omega,rfl,hlt,z⟩,fun x H'' y=>?_⟩
  obtain⟨e1,e2⟩:=y
  subst e1 e2
  exact hs D i σ' _ ys hDn hlt p
 ·have e:i=n:=by omega
  subst e
  exact .inl ⟨af _,hd D σ' H' ys hDn p⟩
end
end L2
end
section
namespace SS
open PySem PySem.SetTable
abbrev Ris (xs:Array Nat):Prop:=xs.toList.Pairwise (· < ·)
theorem jBQ {xs:Array Nat}(h:Ris xs){a b:Nat}(hab:a<b)(hb:b<xs.size):xs.getD a 0<xs.getD b 0:=by
 have h1:a<xs.size:=dX hab hb
 have:=List.pairwise_iff_getElem.mp h a b (by simpa using h1) (by simpa using hb) hab
 simpa [Array.getD,h1,hb] using this
theorem jOP {xs:Array Nat}{j:Nat}(hr:Ris xs):∀ (fuel lo hi:Nat),hi - lo<=fuel->lo<=hi->hi<=xs.size->(∀ a,a<lo->xs.getD a 0<j)->(∀ a,hi<=a->a<xs.size->j<=xs.getD a 0)->
  (below.go xs j fuel lo hi<=xs.size/\(∀ a,a<below.go xs j fuel lo hi->xs.getD a 0<j)/\(∀ a,below.go xs j fuel lo hi<=a->a<xs.size->j<=xs.getD a 0)):=by
 intro fuel
 induction fuel with
 | zero=>
  intro lo hi h1 h2 h3 h4 h5
  have e:lo=hi:=by omega
  subst e
  exact⟨h3,h4,h5⟩
 | succ fuel ih=>
  intro lo hi h1 h2 h3 h4 h5
  unfold below.go
  by_cases hlt:lo<hi
  ·rw[ah hlt]
   have hm:(lo+hi) / 2<xs.size:=by omega
   have e:xs.getD ((lo+hi) / 2) j=xs.getD ((lo+hi) / 2) 0:=by simp [Array.getD,hm]
   dsimp only
   rw[e]
   by_cases hc:xs.getD ((lo+hi) / 2) 0<j
   ·rw[ah hc]
    refine ih _ _ (by omega) (by omega) h3 (fun a ha=>?_) h5
    by_cases e2:a=(lo+hi) / 2
    ·rw[e2]; exact hc
    ·exact dX (jBQ hr (by omega) hm) hc
   ·rw[ai hc]
    refine ih _ _ (by omega) (by omega) (by omega) h4 (fun a ha hs=>?_)
    by_cases e2:a=(lo+hi) / 2
    ·rw[e2]; omega
    ·have:=jBQ hr (show (lo+hi) / 2<a by omega) hs
     omega
  ·rw[ai hlt]
   have e:lo=hi:=by omega
   subst e
   exact⟨h3,h4,h5⟩
theorem jDH {xs:Array Nat}(hr:Ris xs)(j:Nat):below xs j<=xs.size/\(∀ a,a<below xs j->xs.getD a 0<j)/\(∀ a,below xs j<=a->a<xs.size->j<=xs.getD a 0):=
 jOP hr xs.size 0 xs.size (by omega) (aW _) (af _) (fun a h=>absurd h (bm _)) (fun a h1 h2=>absurd h2 (by omega))
theorem jE7 {xs:Array Nat}(hr:Ris xs){j i:Nat}(hi:i<=xs.size)(h1:∀ a,a<i->xs.getD a 0<j)(h2:∀ a,i<=a->a<xs.size->j<=xs.getD a 0):below xs j=i:=by
 obtain⟨b1,b2,b3⟩:=jDH hr j
 rcases Nat.lt_trichotomy (below xs j) i with h | h | h
 ·have q1:=h1 _ h
  have q2:=b3 _ (af _) (by omega)
  omega
 ·exact h
 ·have q1:=b2 _ h
  have q2:=h2 _ (af _) (by omega)
  omega
theorem jA9 {α:Type}(xs:Array α)(p:Nat)(x:α):(insertAt xs p x).toList=xs.toList.take p++x::xs.toList.drop p:=by
 unfold insertAt
 simp [Array.toList_extract,List.extract]
 rw[aX (by simp)]
theorem jBE {α:Type}(xs:Array α)(p:Nat)(x:α):(insertAt xs p x).size=xs.size+1:=by
 rw[<- bh,jA9]
 simp
 omega
theorem jHL {xs:Array Nat}{j:Nat}(hr:Ris xs)(hj:j∉xs.toList):Ris (insertAt xs (below xs j) j):=by
 obtain⟨b1,b2,b3⟩:=jDH hr j
 show (insertAt xs (below xs j) j).toList.Pairwise (· < ·)
 rw[jA9,gd,gE]
 have hl:∀ a∈xs.toList.take (below xs j),a<j:=by
  intro a ha
  obtain⟨i,hi,e⟩:=List.mem_take_iff_getElem.mp ha
  have:=b2 i (by omega)
  have hs:i<xs.size:=by simp at hi; omega
  simp [Array.getD,hs] at this
  simp at e
  omega
 have hg:∀ a∈xs.toList.drop (below xs j),j<a:=by
  intro a ha
  obtain⟨i,hi,e⟩:=List.mem_drop_iff_getElem.mp ha
  have hs:i+below xs j<xs.size:=by simpa [gO] using hi
  have:=b3 (i+below xs j) (by omega) hs
  simp [Array.getD,hs] at this
  have e':xs[i+below xs j]=a:=by simpa [gO] using e
  have hne:a≠j:=by
   intro z
   apply hj
   rw[<- z]
   exact dH ha
  omega
 refine⟨hr.sublist (eQ _ _),⟨hg,hr.sublist (List.drop_sublist _ _)⟩,?_⟩
 intro a ha b hb
 rcases aC.mp hb with rfl | hb
 ·exact hl a ha
 ·exact dX (hl a ha) (hg b hb)
theorem jCK {t:SetTable}{j:Nat}(hr:Ris t.place)(h:t.slot j= .empty):j∉t.place.toList:=by
 intro hm
 obtain⟨i,hi,e⟩:=df hm
 have hs:i<t.place.size:=by simpa using hi
 have e0:t.place[i]=j:=by simpa using e
 have eb:below t.place j=i:=by
  refine jE7 hr (cZ hs) (fun a ha=>?_) (fun a h1 h2=>?_)
  ·have:=jBQ hr ha hs
   simp only [Array.getD,hs] at this ⊢
   simp [e0] at this ⊢
   exact this
  ·by_cases e2:a=i
   ·subst e2
    simp [Array.getD,hs,e0]
   ·have:=jBQ hr (show i<a by omega) h2
    simp only [Array.getD,hs] at this
    simp [e0] at this
    simp [Array.getD]
    omega
 unfold SetTable.slot at h
 dsimp only at h
 rw[eb] at h
 rw[ah (by simp [hs,e0])] at h
 cases h
theorem jFX (j:Nat):has #[] j=false:=by
 unfold has
 simp
theorem jGL {t:SetTable}(hd:t.dummies=#[]){f:Nat->Int}{h:Int} :∀ (fuel:Nat) (p:Probe) (m:Met),p.dummy=none->probe.go t f h fuel p=some m->
  (∃ j,m= .empty j none/\t.slot j= .empty)\/(∃ j i n,m= .candidate j i n):=by
 intro fuel
 induction fuel with
 | zero=>intro p m _ e; simp [probe.go] at e
 | succ fuel ih=>
  intro p m hp e
  unfold probe.go at e
  cases hs:t.slot p.j with
  | empty=>
   rw[hs] at e
   simp only [eS] at e
   subst e
   exact .inl ⟨p.j,by rw[hp],hs⟩
  | dummy=>
   unfold SetTable.slot at hs
   dsimp only at hs
   rw[hd,jFX] at hs
   split at hs
   ·cases hs
   ·simp at hs
  | live i=>
   rw[hs] at e
   dsimp only at e
   split at e
   ·simp only [eS] at e
    subst e
    exact .inr ⟨_,_,_,rfl⟩
   ·refine ih _ _ ?_ e
    unfold advance
    split
    ·exact hp
    ·exact hp
theorem jE0 {t:SetTable}(hr:Ris t.place)(hd:t.dummies=#[]){h:Int}{slot:Nat}{d:Bool}(e:t.freeSlot h=some (slot,d)):slot∉t.place.toList:=by
 unfold SetTable.freeSlot at e
 split at e
 ·rename_i j dummy hp
  simp only [eS,Prod.mk.injEq] at e
  have hp':probe.go t (fun _=>h+1) h (10*turns t.mask) (t.probeStart h)=some (.empty j dummy):=hp
  rcases jGL hd _ _ _ (by unfold probeStart; rfl) hp' with ⟨j',em,hs⟩ | ⟨_,_,_,em⟩
  ·cases em
   have:slot=j:=by rw[<- e.1]; rfl
   rw[this]
   exact jCK hr hs
  ·cases em
 ·cases e
theorem jHJ {t:SetTable}{j:Nat}(hd:t.dummies=#[])(h:t.slot j≠ .empty):(∃ i,t.slot j= .live i)/\j∈t.place.toList:=by
 unfold SetTable.slot at h ⊢
 dsimp only at h ⊢
 by_cases q:(t.place[below t.place j]?==some j)=true
 ·rw[ah q]
  refine⟨⟨_,rfl⟩,?_⟩
  have e:t.place[below t.place j]?=some j:=eq_of_beq q
  obtain⟨hi,e⟩:=Array.getElem?_eq_some_iff.mp e
  rw[<- e]
  exact Array.getElem_mem_toList hi
 ·rw[ai q,hd,jFX] at h
  exact absurd rfl h
theorem run7 (i:Nat):runEnd 7 i=i:=by unfold runEnd; rw[ai (by omega)]
theorem jIZ {t:SetTable}(hm:t.mask=7)(hd:t.dummies=#[]){h:Int} :∀ (k fuel:Nat) (p:Probe),p.j=p.i->p.more=0->p.i<8->p.perturb<32->k<=fuel->
  probe.go t (fun _=>h+1) h fuel p=none->∀ r,r<k->Nat.repeat (fun i=>(i*5+1) % 8) r p.i∈t.place.toList:=by
 intro k
 induction k with
 | zero=>intro fuel p _ _ _ _ _ _ r hr; omega
 | succ k ih=>
  intro fuel p h1 h2 h3 h4 h5 h6 r hr
  obtain⟨f,rfl⟩:∃ f,fuel=f+1:=⟨fuel - 1,by omega⟩
  unfold probe.go at h6
  by_cases he:t.slot p.j= .empty
  ·rw[he] at h6; cases h6
  ·obtain⟨⟨i,hl⟩,hmem⟩:=jHJ hd he
   rw[hl] at h6
   dsimp only at h6
   rw[ai (by simp; omega)] at h6
   have hz:p.perturb / 32=0:=by omega
   have ea:t.advance p= { p with j:=(p.i*5+1) % 8,more:=0,i:=(p.i*5+1) % 8,perturb:=0} :=by
    unfold advance leap
    rw[ai (by omega),hm,hz]
    simp [run7]
   rw[ea] at h6
   cases r with
   | zero=>show p.i∈_; rw[<- h1]; exact hmem
   | succ r=>
    have q:=ih f _ (by rfl) (by rfl) (by show (p.i*5+1) % 8<8; omega) (by show 0<32; omega) (by omega) h6 r (by omega)
    have e:∀ (r i:Nat),Nat.repeat (fun i=>(i*5+1) % 8) (r+1) i=Nat.repeat (fun i=>(i*5+1) % 8) r ((i*5+1) % 8):=by
     intro r
     induction r with
     | zero=>intro i; rfl
     | succ r ihr=>
      intro i
      show ((Nat.repeat _ (r+1) i)*5+1) % 8=((Nat.repeat _ r ((i*5+1) % 8))*5+1) % 8
      rw[ihr]
    rw[e]
    exact q
theorem jL0:∀ i,i<8->∀ j,j<8->∃ r,r<8/\Nat.repeat (fun i=>(i*5+1) % 8) r i=j:=by decide+kernel
theorem jDZ {t:SetTable}(hm:t.mask=7)(hd:t.dummies=#[])(hz:t.place.size<8){h:Int}(h0:0<=h)(h1:h<32):∃ q,t.freeSlot h=some q:=by
 unfold SetTable.freeSlot
 have hb:bits h<32:=by unfold bits; omega
 have hps:t.probeStart h= { j:=bits h % 8,more:=0,i:=bits h % 8,perturb:=bits h,dummy:=none} :=by
  unfold probeStart
  rw[hm]
  simp [run7]
 cases e:t.probe (fun _=>h+1) h (t.probeStart h) with
 | none=>
  exfalso
  have e':probe.go t (fun _=>h+1) h (10*turns t.mask) (t.probeStart h)=none:=e
  rw[hps] at e'
  have q:=jIZ hm hd 8 _ _ (by rfl) (by rfl) (by show bits h % 8<8; omega) (by exact hb) (by rw[hm]; decide) e'
  have sub:List.range 8 ⊆ t.place.toList:=by
   intro j hj
   obtain⟨r,hr,er⟩:=jL0 (bits h % 8) (by omega) j (aY.mp hj)
   rw[<- er]
   exact q r hr
  have:=List.Nodup.length_le_of_subset (List.nodup_range (n:=8)) sub
  simp at this
  omega
 | some m=>
  rcases jGL hd _ _ _ (by rw[hps]) (show probe.go t (fun _=>h+1) h (10*turns t.mask) (t.probeStart h)=some m from e) with ⟨j,rfl,_⟩ | ⟨j,i,n,rfl⟩
  ·exact⟨_,rfl⟩
  ·exfalso
   have nc:∀ (fuel:Nat) (p:Probe) (j i:Nat) (n:Probe),probe.go t (fun _=>h+1) h fuel p≠some (.candidate j i n):=by
    intro fuel
    induction fuel with
    | zero=>intro p j i n; simp [probe.go]
    | succ f ih=>
     intro p j i n
     unfold probe.go
     cases t.slot p.j with
     | empty=>simp
     | dummy=>exact ih _ _ _ _
     | live i'=>
      dsimp only
      rw[ai (by simp; omega)]
      exact ih _ _ _ _
   exact nc _ _ _ _ _ e
structure Tab (t:SetTable)(n:Nat)(led:Bool):Prop where
 ris:Ris t.place
 sz:t.place.size=n
 dm:t.dummies=#[]
 msk:t.mask=7
 pl:t.plain=true
 ld:t.led=led
theorem Tab.fits {t:SetTable}{n:Nat}{led:Bool}(T:Tab t n led)(hn:n<=4):t.fits n=true:=by
 unfold SetTable.fits fill
 simp [T.sz,T.dm,T.msk]
 omega
theorem Tab.full {t:SetTable}{n:Nat}{led:Bool}(T:Tab t n led)(hn:n<=4):t.tooFull=false:=by
 unfold tooFull fill
 simp [T.sz,T.dm,T.msk]
 omega
theorem jIB (led:Bool):Tab (fresh 0 0 led) 0 led:=⟨List.Pairwise.nil,rfl,rfl,rfl,rfl,rfl⟩
theorem jHR {t:SetTable}{n:Nat}{led:Bool}(T:Tab t n led)(hn:n+1<=4)(es:Array (Int×Value))(he:es.size=n){h:Int}(h0:0<=h)(h1:h<32)(x:Value):
  Tab (layNew t es h x).2.1 (n+1) led/\∃ p,(layNew t es h x).1.toList=es.toList.take p++(h,x)::es.toList.drop p:=by
 obtain⟨⟨slot,d⟩,hf⟩:=jDZ T.msk T.dm (by rw[T.sz]; omega) h0 h1
 unfold layNew
 rw[hf]
 dsimp only [SetTable.put]
 have hnm:=jE0 T.ris T.dm hf
 have T2:Tab { t with place:=insertAt t.place (below t.place slot) slot,dummies:=if has t.dummies slot then eraseAt t.dummies (below t.dummies slot) else t.dummies} (n+1) led:=by
  refine⟨jHL T.ris hnm,by rw[jBE,T.sz],?_,T.msk,T.pl,T.ld⟩
  rw[T.dm,jFX]
  rfl
 refine⟨?_,_,jA9 _ _ _⟩
 unfold SetTable.orStandIn
 rw[jBE,he,T2.fits hn]
 exact T2
def jGI (xs:Array Nat):Nat->Nat
 | 0=>0
 | i+1=>xs.getD i 0+1
theorem jFF {xs:Array Nat}(hr:Ris xs){i:Nat}(hi:i<=xs.size):below xs (jGI xs i)=i:=by
 cases i with
 | zero=>exact jE7 hr (aW _) (fun a h=>absurd h (bm _)) (fun a _ _=>aW _)
 | succ i=>
  refine jE7 hr hi (fun a ha=>?_) (fun a h1 h2=>?_)
  ·show _<xs.getD i 0+1
   by_cases e:a=i
   ·rw[e]; omega
   ·have:=jBQ hr (show a<i by omega) (show i<xs.size by omega)
    omega
  ·show xs.getD i 0+1<=_
   exact jBQ hr (show i<a by omega) h2
theorem jHU {α:Type}{l:List α}{i:Nat}(h:i<l.length):(l[i]::l.eraseIdx i).Perm l:=by
 rw[List.eraseIdx_eq_take_drop_succ]
 have e:l=l.take i++l[i]::l.drop (i+1):=by rw[<- List.drop_eq_getElem_cons h,dB]
 conv=>rhs; rw[e]
 exact List.perm_middle.symm
theorem jNQ {α:Type}(next:Nat->Nat):∀ (fuel k:Nat) (left:List α) (out:Array α),fuel=left.length->(pickOrder.go next fuel k left out).toList.Perm (out.toList++left):=by
 intro fuel
 induction fuel with
 | zero=>
  intro k left out h
  have:left=[]:=fm.mp h.symm
  subst this
  simp [pickOrder.go]
 | succ f ih=>
  intro k left out h
  have hl:next k % left.length<left.length:=gF _ (by omega)
  unfold pickOrder.go
  rw[aG hl]
  dsimp only
  refine(ih _ _ _ (by rw[List.length_eraseIdx_of_lt hl]; omega)).trans ?_
  rw[Array.toList_push,eR]
  exact List.Perm.append_left _ (jHU hl)
theorem jEN {α:Type}(next:Nat->Nat)(xs:Array α):(pickOrder next xs).toList.Perm xs.toList:=by
 unfold pickOrder
 have:=jNQ next xs.size 0 xs.toList #[] (by simp)
 simpa using this
end SS
end
section
namespace SS
open PySem
abbrev ledW (w:World):Bool:=!(w.params.followText "set-order")
def El (e:Int×Value)(k:Int):Prop:=e.1=hashInt k/\∃ t,e.2= .int k t
theorem jB8 {α β:Type}{F:α->β->Prop} :∀ {l:List α}{r:List β},Paired F l r->∀ a∈l,∃ b∈r,F a b
 | _,_, .nil=>fun a h=>by cases h
 | _,_, .cons f t=>fun a h=>by
  rcases aC.mp h with rfl | h
  ·exact⟨_,aA,f⟩
  ·obtain⟨b,hb,q⟩:=jB8 t a h
   exact⟨b,aB _ hb,q⟩
theorem jC1 {α β:Type}{F:α->β->Prop} :∀ {l:List α}{r:List β},Paired F l r->∀ b∈r,∃ a∈l,F a b
 | _,_, .nil=>fun a h=>by cases h
 | _,_, .cons f t=>fun b h=>by
  rcases aC.mp h with rfl | h
  ·exact⟨_,aA,f⟩
  ·obtain⟨a,ha,q⟩:=jC1 t b h
   exact⟨a,aB _ ha,q⟩
theorem jD8 {α β:Type}{F:α->β->Prop}{a:α}{b:β}(f:F a b):∀ {l:List α}{r:List β}(p:Nat),Paired F l r->Paired F (l.take p++a::l.drop p) (r.take p++b::r.drop p)
 | _,_,0,q=>by simpa using Paired.cons f q
 | _,_,p+1, .nil=>by simpa using Paired.cons f .nil
 | _,_,p+1, .cons g t=>by
  simp only [List.take_succ_cons,List.drop_succ_cons,List.cons_append]
  exact .cons g (jD8 f p t)
theorem jNL {α:Type}(l:List α)(p:Nat)(x z:α):z∈l.take p++x::l.drop p↔z=x\/z∈l:=by
 conv=>rhs; rw[<- dB p l]
 simp only [bx,aC]
 constructor
 ·rintro (h | h | h)
  ·exact .inr (.inl h)
  ·exact .inl h
  ·exact .inr (.inr h)
 ·rintro (h | h | h)
  ·exact .inr (.inl h)
  ·exact .inl h
  ·exact .inr (.inr h)
theorem jDS {α:Type}(l:List α)(p:Nat)(x:α):(l.take p++x::l.drop p).Perm (x::l):=by
 have h:(l.take p++x::l.drop p).Perm (x::(l.take p++l.drop p)):=List.perm_middle
 rw[dB] at h
 exact h
structure SetG (w:World)(h:Heap)(a:Addr)(ks:List Int):Prop where
 ex:∃ o es ep t,h.get? a=some o/\o.ExactSet/\o.data= .set es ep t/\Paired El es.toList ks/\Tab t es.size (ledW w)
 nd:ks.Nodup
 len:ks.length<=4
section
variable {prog:Program}{w:World}{A:Around}{E:Value->Shared->Prop}{s:Shared}{a:Addr}{ks:List Int}{k:Int}{tk:Tok}
theorem elems {es:List (Int×Value)}(h:Paired El es ks):ElemsOf (intKind prog w) es:=fun e he=>by
 obtain⟨k,_,h1,t,h2⟩:=jB8 h e he
 rw[h2]
 exact⟨⟨k,by show Value.isInt k (.int k t)=true; simp [Value.isInt],h1⟩,rfl⟩
theorem SetG.at {h h':Heap}(S:SetG w h a ks)(e:∀ o,h.get? a=some o->h'.get? a=some o):SetG w h' a ks:=by
 obtain⟨⟨o,es,ep,t,ho,r⟩,nd,len⟩:=S
 exact⟨⟨o,es,ep,t,e _ ho,r⟩,nd,len⟩
theorem jBK (k0:0<=k)(k1:k<32):hashInt k=k:=by
 obtain⟨n,rfl⟩:=dw k0
 have e:∀ n:Nat,n<32->hashInt (n:Int)=(n:Int):=by decide+kernel
 exact e n (by omega)
theorem jQR {Q:Bool->Shared->Prop}(S:SetG w s.heap a ks)(hl:ks.length+1<=4)(k0:0<=k)(k1:k<32)
  (h:∀ b h' ks',Heap.SameBut a s.heap h'->SetG w h' a ks'->(∀ z,z∈ks'↔z=k\/z∈ks)->ks'.length<=ks.length+1->Q b { s with heap:=h'}):
  wpAny (model prog w) A (setAddHashed a (.int k tk) (hashInt k)) Q E s:=by
 obtain⟨o,es,ep,t,ho,hex,hd,hp,T⟩:=id S.ex
 have hn:es.size=ks.length:=by rw[<- bh]; exact Paired.length hp
 have hf:=T.fits (by omega)
 have hel:ElemsOf (intKind prog w) es.toList:=elems hp
 have hb:es.size<scanBound:=by unfold scanBound; omega
 have hi:∀ (j:Int) (t:Tok),Value.isInt k (.int j t)=true->j=k:=fun j t e=>by simpa [Value.isInt] using e
 unfold setAddHashed setAddHashedIn
 refine cq (aa (bZ ho hd hf ?_))
 dsimp only
 rw[byScan_of (knd:=intKind prog w) rfl hb hel,ah rfl]
 unfold setAddByScan
 refine aa (aa (dn (aa ?_)))
 refine wpAny_setScan_of (knd:=intKind prog w) (k:=k) (by show Value.isInt k (.int k tk)=true; simp [Value.isInt]) ho hd hf hel ?_
 have es0:s= { s with heap:=s.heap} :=by cases s; rfl
 cases hr:List.findIdx? (fun e=>(intKind prog w).is k e.2) es.toList with
 | some j=>
  obtain⟨hj,hpj,_⟩:=List.findIdx?_eq_some_iff_getElem.mp hr
  obtain⟨k',hk',_,t',e'⟩:=jB8 hp _ (cr hj)
  have hkk:k'=k:=hi k' t' (by rw[<- e']; exact hpj)
  subst hkk
  refine ag (ag ?_)
  rw[es0]
  exact h false s.heap ks (eU a s.heap) S (fun z=>⟨.inr,fun q=>q.elim (fun e=>e ▸ hk') id⟩) (by omega)
 | none=>
  have hnk:k∉ks:=fun hm=>by
   obtain⟨e,he,_,t',e'⟩:=jC1 hp k hm
   have q:=List.findIdx?_eq_none_iff.mp hr e he
   rw[e'] at q
   have q':Value.isInt k (.int k t')=false:=q
   simp [Value.isInt] at q'
  obtain⟨T1,p,hp1⟩:=jHR T (by omega) es rfl (h:=hashInt k) (by rw[jBK k0 k1]; exact k0) (by rw[jBK k0 k1]; exact k1) (.int k tk)
  dsimp only
  show wpAny _ A (match layNew t es (hashInt k) (Value.int k tk) with | (es,t,wasDummy,gave)=>_) _ E s
  generalize layNew t es (hashInt k) (Value.int k tk)=L at T1 hp1 ⊢
  obtain⟨es1,t1,wd,gv⟩:=L
  dsimp only at T1 hp1 ⊢
  have hp2:Paired El es1.toList (ks.take p++k::ks.drop p):=by
   rw[hp1]
   exact jD8 ⟨rfl,tk,rfl⟩ p hp
  have hz1:es1.size=es.size+1:=by
   rw[<- bh,hp1,(jDS es.toList p (hashInt k,Value.int k tk)).length_eq]
   simp
  have hlen:(ks.take p++k::ks.drop p).length=ks.length+1:=(jDS ks p k).length_eq
  have T1':Tab t1 es1.size (ledW w):=by rw[hz1]; exact T1
  have hg:(s.heap.update a (Obj.putSet es1 t1)).get? a=some { o with data:= .set es1 (ep+1) t1} :=by
   have q:=cz (Obj.putSet es1 t1) ho (by rw[putSet_of es1 t1 hd]; rfl)
   rw[putSet_of es1 t1 hd] at q
   exact q
  have fin:Q true { s with heap:=s.heap.update a (Obj.putSet es1 t1)} :=
   h true _ _ (dR ..) ⟨⟨_,es1,ep+1,t1,hg,hex,rfl,hp2,T1'⟩,(jDS ks p k).nodup_iff.mpr (cO.mpr ⟨hnk,S.nd⟩),by omega⟩ (fun z=>jNL ks p k z) (by omega)
  have hfull:t1.tooFull=false:=T1'.full (by omega)
  refine aa (show wpAny _ A (match gv with | true=>rule "set.scan.the-table-gave-way" | false=>pure ()) _ E s from ?_)
  have hzl:es1.size<=sizeLine:=by rw[hz1,show sizeLine=2 ^ 24 from rfl]; omega
  cases gv with
  | true=>
   refine dn ?_
   split
   all_goals
    refine aa (show wpAny _ A (pure true:Sem Bool) _ E s from ag ?_)
    simp only [dU]
    refine aa (wpAny_storeSet_of ho hd ?_ hzl)
    rw[hfull,dA,ai av]
    exact ag (ag fin)
  | false=>
   refine ag ?_
   split
   all_goals
    refine aa (show wpAny _ A (pure true:Sem Bool) _ E s from ag ?_)
    simp only [dU]
    refine aa (wpAny_storeSet_of ho hd ?_ hzl)
    rw[hfull,dA,ai av]
    exact ag (ag fin)
end
theorem jB4:entryFor table "set.update.loop" =some Builtin.«set.update.loop»:=entryFor_of_fast (by kernel_rfl)
theorem jAE:plainId "set.update.loop" =true:=by decide+kernel
section
variable {prog:Program}{w:World}{A:Around}{R:Result->Shared->Prop}{I:Addr}{fp wr:List Addr}{n:Nat}{P:Nat->Value->Prop}{St:Nat->Shared->Prop}
theorem jL4 (W:WalksS prog w A.in1 I fp wr (fun a b=>b=a) n P St)(S:Addr)(hSf:S∉fp)(val:Nat->Int)(hval:∀ i v,P i v->∃ t,v= .int (val i) t)(hv:∀ i,i<n->0<=val i/\val i<32)(hn:n<=4):
  ∀ (k i:Nat) (s:Shared) (ks:List Int),n - i=k->i<=n->St i s->SetG w s.heap S ks->ks.length<=i->(∀ z,z∈ks↔∃ j,j<i/\val j=z)->
   (∀ s' ks',Moved (S::wr) (fun a b=>b=a) s s'->SetG w s'.heap S ks'->(∀ z,z∈ks'↔∃ j,j<n/\val j=z)->R (.ok (.ret .none)) s')->
   codeAny (model prog w) A (.builtin "set.update.loop" ⟨[.ref S, .ref I],[]⟩) R s:=by
 have hSw:S∉wr:=fun h=>hSf (W.sub _ h)
 have sub1:∀ b∈wr,b∈S::wr:=fun b hb=>aB _ hb
 intro k
 induction k with
 | zero=>
  intro i s ks hk hi hst hS hl hm hR
  obtain rfl:i=n:=by omega
  refine ce jB4 ?_
  rw[cE jAE _]
  show wpAny _ A.in1 (pyNext (.ref I) >>= _) _ _ s
  refine aa (W.done s _ _ hst fun s' mv=>?_)
  show wpAny _ A.in1 (ret Value.none) _ _ s'
  exact ag (hR s' ks (mv.mono sub1) (hS.at fun o e=>mv.heap S o hSw e) hm)
 | succ k ih=>
  intro i s ks hk hi hst hS hl hm hR
  have hlt:i<n:=by omega
  refine ce jB4 ?_
  rw[cE jAE _]
  show wpAny _ A.in1 (pyNext (.ref I) >>= _) _ _ s
  refine aa (W.item i s _ _ hlt hst fun v s' hP hst' mv=>?_)
  obtain⟨t,rfl⟩:=hval i v hP
  have hS':=hS.at (h':=s'.heap) fun o e=>mv.heap S o hSw e
  show wpAny _ A.in1 (holding [Value.int (val i) t] (setAdd S (.int (val i) t)) >>= _) _ _ s'
  refine aa (cq ?_)
  unfold setAdd
  refine cq (aa (wpAny_pyHash_int ?_))
  refine jQR (s:= { s' with toks:=s'.toks+1}) hS' (by omega) (hv i hlt).1 (hv i hlt).2 fun b h' ks' sb hS2 hm2 hl2=>?_
  refine ag ⟨fb jAE _,ih (i+1) _ ks' (by omega) hlt (W.frame _ s' _ _ hst' (ge _) fun b hb o e=>?_) hS2 (by omega) (fun z=>?_) fun s'' ks'' mv2 hS3 hm3=>?_⟩
  ·rw[sb.2 b (fun h:b=S=>hSf (by rw[<- h]; exact hb))]
   exact e
  ·rw[hm2,hm]
   constructor
   ·rintro (h | ⟨j,hj,e⟩)
    ·exact⟨i,by omega,h.symm⟩
    ·exact⟨j,by omega,e⟩
   ·rintro ⟨j,hj,e⟩
    by_cases hji:j=i
    ·exact .inl (by rw[<- e,hji])
    ·exact .inr ⟨j,by omega,e⟩
  ·refine hR s'' ks'' (Moved.trans W.gtrans ((mv.mono sub1).then_heap (ge _) fun b o hb e=>?_) mv2) hS3 hm3
   rw[sb.2 b (fun h:b=S=>hb (by rw[h]; exact aA))]
   exact e
end
section
variable {prog:Program}{w:World}{A:Around}{E:Value->Shared->Prop}{s:Shared}
theorem jOE (a:Value){Q:Value->Shared->Prop}
  (h:Q (.ref s.heap.objs.size) { s with heap:=s.heap.push { cls:= .type "set",dict:=none,data:= .set #[] 0 (.fresh 0 0 (ledW w))}}):
  codeAny (model prog w) A (.call (.builtin "set.__new__") ⟨[.type "set",a],[]⟩) (wants Q E) s:=by
 refine codeAny_of_tree (show wpAny _ A.in1 (do checkBuiltinCall "set.__new__" ⟨[.type "set",a],[]⟩; again (.builtin "set.__new__" ⟨[.type "set",a],[]⟩)) _ _ s from ?_)
 refine aa (wpAny_of_eq (F.newCall_set_1 a) (ag ⟨fb F.plain_set_new _,ce F.entry_set_new ?_⟩))
 rw[cE F.plain_set_new _]
 unfold Builtin.«set.__new__» Builtin.Frozenset.newClass
 have q:=sub_set_self
 obtain⟨hp,g,d,tk,os⟩:=s
 dsimp only
 wp_walk
 refine db (ag ?_)
 dsimp only
 simp only [newObj]
 exact aa (wpAny_alloc (ag (ag h)))
set_option maxHeartbeats 3200000 in
theorem set_of_list {l:Addr}{items:Array Value}{ns:List Int}{Q:Value->Shared->Prop}(hh:A.handled=none)(hl:s.heap.IsList l items)(hi:PyProof.Rows.IntsAre items.toList ns)
  (hn:items.size<=4) (hv:∀ z∈ns,0<=z/\z<32)
  (h:∀ (h':Heap) (tk:Nat) (ks:List Int),SetG w h' s.heap.objs.size ks->(∀ z,z∈ks↔z∈ns)->(∀ b o,s.heap.get? b=some o->h'.get? b=some o)->Q (.ref s.heap.objs.size) { s with heap:=h',toks:=tk}):
  wpAny (model prog w) A (call (.type "set") [.ref l]) Q E s:=by
 obtain⟨c,tl,hmro⟩:=F.called_set.mro
 have hmade:=F.called_set.made
 have hsub:=F.called_set.sub
 have g1:=F.called_set.notType
 have g2:=F.called_set.canCreate
 have g3:=F.typeCall_set_1 (.ref l)
 refine wpAny_call (codeAny_of_tree (show wpAny _ _ (callAny (.type "set") _) _ _ _ from ?_))
 refine ag ⟨Code.quiet_builtin _ (by decide+kernel),ce F.entry_type_call ?_⟩
 rw[Around.under_plain (weight_type_call_type "set" [.ref l] []) rfl]
 repeat (any_goals (first | assumption | wp_step))
 have hlen:items.size=ns.length:=by rw[<- bh]; exact hi.length
 refine dS (jOE (.ref l) (E:=E) (Q:=fun obj z=>obj= .ref s.heap.objs.size/\z= { s with heap:=s.heap.push { cls:= .type "set",dict:=none,data:= .set #[] 0 (.fresh 0 0 (ledW w))}}) ⟨rfl,rfl⟩) fun r z hr=>?_
 cases r with
 | error e=>exact hr
 | ok fl=>
  cases fl with
  | ret obj=>
   obtain⟨rfl,rfl⟩:=hr
   generalize hO:({ cls:= .type "set",dict:=none,data:= .set #[] 0 (.fresh 0 0 (ledW w))} :Obj)=oS
   have hS:(s.heap.push oS).get? s.heap.objs.size=some oS:=ak _ (by rw[<- hO]; rfl)
   have hT:Shared.TypeIs { s with heap:=s.heap.push oS} (.ref s.heap.objs.size) "set" :=⟨_,hS,by rw[<- hO]⟩
   have hli:=F.called_set.init.lookup
   have hbi:=F.called_set.init.bind (.ref s.heap.objs.size)
   repeat (any_goals (first | assumption | wp_step))
   refine dS (codeAny_call_builtin (R:=wants (fun r z2=>r= .none/\∃ h' tk ks,z2= { s with heap:=h',toks:=tk} /\SetG w h' s.heap.objs.size ks/\(∀ z,z∈ks↔z∈ns)/\(∀ b o,s.heap.get? b=some o->h'.get? b=some o)) E)
    F.called_set.init.plain F.entry_set_init (check_set_init_1 hT ?_)) fun r2 z2 hr2=>?_
   ·obtain⟨ol,hol,hcl,nl,hdl⟩:=hl
    obtain⟨ocls,odict,odata,oslots⟩:=ol
    simp only at hcl hdl
    subst hcl; subst hdl
    have hol':(s.heap.push oS).get? l=some { cls:= .type "list",dict:=odict,data:= .seq items nl,slots:=oslots} :=ae _ hol
    have y1:=F.sub_list_set
    have y2:=F.sub_list_frozenset
    have y3:(Value.type "list" ==Value.type "dict")=false:=by decide
    have hl1:(s.heap.push oS).IsList l items:=⟨_,hol',rfl,nl,rfl⟩
    subst hO
    unfold Builtin.«set.__init__» noKeywords Builtin.Frozenset.updateFrom
    generalize hPI:pyIter=PI
    wp_walk
    subst hPI
    refine cD hl1 (aa (gf ?_))
    have hlS:l<s.heap.objs.size:=am hol
    have hz1:(s.heap.push { cls:= .type "set",dict:=none,data:= .set #[] 0 (.fresh 0 0 (ledW w))}).objs.size=s.heap.objs.size+1:=bf _ _
    have nI:l≠(s.heap.push { cls:= .type "set",dict:=none,data:= .set #[] 0 (.fresh 0 0 (ledW w))}).objs.size:=by
     rw[hz1]
     exact aL (aq hlS)
    have nS:s.heap.objs.size∉ [(s.heap.push { cls:= .type "set",dict:=none,data:= .set #[] 0 (.fresh 0 0 (ledW w))}).objs.size,l]:=by
     rw[hz1]
     simp only [aC,bg,cH,gT]
     exact⟨aL (aF _),bN hlS⟩
    have hget:((s.heap.push { cls:= .type "set",dict:=none,data:= .set #[] 0 (.fresh 0 0 (ledW w))}).push { cls:= .type "list_iterator",data:= .fields #[.ref l, .int 0 0]}).get? s.heap.objs.size
      =some { cls:= .type "set",dict:=none,data:= .set #[] 0 (.fresh 0 0 (ledW w))} :=ae _ hS
    refine jL4 ((gG (by simp [hh]) _ l nI items).toS) s.heap.objs.size nS (fun i=>ns.getD i 0) (fun i v q=>PyProof.Rows.IntsAre.int_at hi i v (by rw[dC]; exact q))
     (fun i q=>hv _ ?_) hn (items.size - 0) 0 _ [] rfl (aW _) ⟨⟨_,ak _ rfl,rfl,rfl⟩,hl1.push _⟩ ⟨⟨_,#[],0,_,hget,⟨rfl,rfl,rfl⟩,rfl, .nil,jIB _⟩,List.nodup_nil,aW _⟩ (af _) (fun z=>⟨fun q=>by(cases q),fun ⟨j,q,_⟩=>absurd q (bm _)⟩) ?_
    ·have q':i<ns.length:=by rw[<- hlen]; exact q
     simp [List.getD,q']
    ·intro s' ks mv S' hm
     obtain⟨h',g',d',tk',os'⟩:=s'
     have e1:g'=s.gens:=mv.gens
     have e2:d'=s.drawn:=mv.drawn
     have e3:os'=s.os:=mv.os
     subst e1; subst e2; subst e3
     refine ag (ag ⟨rfl,h',tk',ks,rfl,S',fun z=>?_,fun b o e=>?_⟩)
     ·rw[hm]
      constructor
      ·rintro ⟨j,hj,e⟩
       have hj':j<ns.length:=by rw[<- hlen]; exact hj
       rw[<- e]
       simp [List.getD,hj']
      ·intro hz
       obtain⟨j,hj,e⟩:=df hz
       exact⟨j,by rw[hlen]; exact hj,by simp [List.getD,hj,e]⟩
     ·have hb:=am e
      refine mv.heap b o ?_ (ae _ (ae _ e))
      rw[hz1]
      simp only [aC,bg,cH,gT]
      exact⟨aL hb,aL (aq hb)⟩
   ·cases r2 with
    | error e=>exact hr2
    | ok fl2=>
     cases fl2 with
     | ret r=>
      obtain⟨rfl,h',tk,ks,rfl,hS',hm,hk⟩:=hr2
      repeat (any_goals (first | assumption | wp_step))
      exact h _ _ _ hS' hm hk
     | _=>exact hr2.elim
  | _=>exact hr.elim
end
theorem slot_si_next:Slot "set_iterator" "__next__" "set_iterator.__next__" :=
 .of (owner:= "set_iterator") (n:= "__next__") (by
   rw[fQ,dD]
   kernel_rfl) (by decide+kernel) (by decide+kernel)
  (by decide+kernel)
  (by first
   | exact .inl (by decide+kernel)
   | exact .inr (by decide+kernel))
  (by
   rw[gg]
   kernel_rfl)
theorem jBZ:Slot "set_iterator" "__iter__" "set_iterator.__iter__" :=
 .of (owner:= "set_iterator") (n:= "__iter__") (by
   rw[fQ,dD]
   kernel_rfl) (by decide+kernel) (by decide+kernel)
  (by decide+kernel)
  (by first
   | exact .inl (by decide+kernel)
   | exact .inr (by decide+kernel))
  (by
   rw[gg]
   kernel_rfl)
theorem jBL:entryFor table "set_iterator.__next__" =some Builtin.«set_iterator.__next__»:=entryFor_of_tree (by kernel_rfl)
theorem jD3:entryFor table "set.__iter__" =some Builtin.«frozenset.__iter__»:=
 entryFor_alias (id':= "frozenset.__iter__") (by kernel_rfl) rfl (by decide+kernel) (by kernel_rfl)
theorem jE2:entryFor table "set_iterator.__iter__" =some Builtin.«dict_keyiterator.__iter__»:=
 entryFor_alias (id':= "dict_keyiterator.__iter__") (by kernel_rfl) (by first | rfl | decide+kernel | (unfold String.splitOn; simp+decide [String.splitOnAux])) (by decide+kernel)
  (by kernel_rfl)
theorem jC3 (a:Value):argsOk "set_iterator.__next__" ⟨[a],[]⟩:=by unfold argsOk; kernel_rfl
theorem jFH (a:Value):argsOk "set_iterator.__iter__" ⟨[a],[]⟩:=by unfold argsOk; kernel_rfl
theorem jE9 (a:Value):argsOk "set.__iter__" ⟨[a],[]⟩:=by unfold argsOk; kernel_rfl
abbrev byTxt (w:World):Bool:=w.params.followText "set-order"
abbrev IsSI (h:Heap)(I:Addr)(slot i:Nat)(a:Addr)(n ep:Nat):Prop:=
 h.get? I=some { cls:= .type "set_iterator",dict:=none,data:= .fields #[rawInt slot,rawInt i, .ref a,rawInt n,rawInt ep],slots:=#[]}
def qC (w:World)(t:SetTable)(i:Nat):Nat:=if byTxt w=true then 0 else jGI t.place i
noncomputable def told (w:World)(a:Addr)(ep:Nat)(es:Array (Int×Value)):List Value:=(if byTxt w=true then (pickOrder (w.params.setOrder a ep) es).toList else es.toList).map (·.2)
theorem jAH (w:World)(a:Addr)(ep:Nat)(es:Array (Int×Value)):(told w a ep es).length=es.size:=by
 unfold told
 rw[ac]
 split
 ·rw[(jEN _ es).length_eq]; simp
 ·simp
theorem jI9 (w:World)(a:Addr)(ep:Nat)(es:Array (Int×Value)):(told w a ep es).Perm (es.toList.map (·.2)):=by
 unfold told
 split
 ·exact(jEN _ es).map _
 ·exact .refl _
section
variable {prog:Program}{w:World}{A:Around}{E:Value->Shared->Prop}{s:Shared}{a I:Addr}{o:Obj}{es:Array (Int×Value)}{ep:Nat}{t:SetTable}
theorem jJ9 {i:Nat}{Q:Option (Value×Nat)->Shared->Prop}(ho:s.heap.get? a=some o)(hd:o.data= .set es ep t)(T:Tab t es.size (ledW w))(hn:es.size<=4)(hi:i<=es.size)
  (h:Q ((told w a ep es)[i]?.map fun v=>(v,qC w t (i+1))) s):wpAny (model prog w) A (setNext a (qC w t i) i ep) Q E s:=by
 unfold setNext
 refine aa (bZ ho hd (T.fits hn) ?_)
 dsimp only
 unfold setsByText
 refine aa (aa (db (ag ?_)))
 show wpAny _ A (if byTxt w=true then _ else _) Q E s
 have hl:=jAH w a ep es
 by_cases hb:byTxt w=true
 ·rw[ah hb,ai (by simp)]
  unfold setWalk
  refine aa (aa (bZ ho hd (T.fits hn) ?_))
  dsimp only
  unfold setsByText
  refine aa (aa (db (ag ?_)))
  show wpAny _ A (if byTxt w=true then _ else _) _ E s
  rw[ah hb]
  refine aa (db (ag (ag ?_)))
  have e:(told w a ep es)[i]?.map (fun v=>(v,qC w t (i+1)))=(pickOrder (w.params.setOrder a ep) es)[i]?.map (fun e=>(e.snd,qC w t i)):=by
   unfold told qC
   rw[ah hb,ah hb,ah hb,az,dC,Option.map_map]
   rfl
  rw[e] at h
  exact h
 ·rw[ai hb]
  have hb':byTxt w=false:=by simpa using hb
  have hld:t.led=true:=by rw[T.ld]; show (!byTxt w)=true; rw[hb']; rfl
  show wpAny _ A (if (!t.plain&&decide (es.size>1))=true then _ else _) Q E s
  rw[T.pl,gA,bX,ai av]
  refine aa ?_
  show wpAny _ A (if (!t.led&&!es.isEmpty)=true then _ else pure ()) _ E s
  rw[hld,gA,bX,ai av]
  refine ag (ag ?_)
  have eb:SetTable.below t.place (qC w t i)=i:=by
   unfold qC
   rw[ai hb]
   exact jFF T.ris (by rw[T.sz]; exact hi)
  rw[eb]
  have et:(told w a ep es)[i]?=es[i]?.map (·.2):=by
   unfold told
   rw[ai hb,az,dC]
  rw[et] at h
  by_cases hlt:i<es.size
  ·have h1:es[i]?=some es[i]:=by simp [hlt]
   have hlt2:i<t.place.size:=by rw[T.sz]; exact hlt
   have h2:t.place[i]?=some t.place[i]:=by simp [hlt2]
   have h3:qC w t (i+1)=t.place[i]+1:=by
    unfold qC jGI
    rw[ai hb]
    simp [Array.getD,hlt2]
   rw[h1,h3] at h
   rw[h1,h2]
   exact h
  ·have h1:es[i]?=none:=by simp; omega
   rw[h1] at h
   rw[h1]
   exact h
theorem jEM {i:Nat}{v:Value}{Q:Option Value->Shared->Prop}(ho:s.heap.get? a=some o)(hd:o.data= .set es ep t)(T:Tab t es.size (ledW w))(hn:es.size<=4)
  (hit:IsSI s.heap I (qC w t i) i a es.size ep) (hv:(told w a ep es)[i]?=some v)
  (hQ:∀ h',IsSI h' I (qC w t (i+1)) (i+1) a es.size ep->Heap.SameBut I s.heap h'->Q (some v) { s with heap:=h'}):wpAny (model prog w) A (pyNext (.ref I)) Q E s:=by
 have hT:s.TypeIs (.ref I) "set_iterator" :=⟨_,hit,rfl⟩
 have hi:i<es.size:=by
  rw[<- jAH w a ep es]
  exact(ay.mp hv).1
 unfold pyNext
 refine aa (dh (bn (name:=Str.ofString "__next__") hT slot_si_next (bo slot_si_next hT jBL ?_ (jC3 _))))
 unfold Builtin.«set_iterator.__next__»
 refine aa (m:=slotArgs "__next__" 0 _) (ag ?_)
 dsimp only
 unfold fieldsOf
 refine aa (aa (fw hit ?_))
 refine ag ?_
 dsimp only [rawInt]
 unfold setEntries
 refine aa (aa (bZ ho hd (T.fits hn) (ag ?_)))
 rw[ai (by simp)]
 simp only [ca]
 refine aa (jJ9 ho hd T hn (cZ hi) ?_)
 rw[hv]
 dsimp only [Option.map]
 refine aa (aZ hit (by simp) fun h1 hit1 sb1=>?_)
 refine aa (aZ hit1 (by simp) fun h2 hit2 sb2=>?_)
 refine ag ⟨v,rfl,ag (hQ h2 ?_ (sb1.trans sb2))⟩
 show h2.get? I=_
 rw[hit2]
 simp [rawInt]
theorem jFN {Q:Option Value->Shared->Prop}(hh:A.handled=none)(ho:s.heap.get? a=some o)(hd:o.data= .set es ep t)(T:Tab t es.size (ledW w))(hn:es.size<=4)
  (hit:IsSI s.heap I (qC w t es.size) es.size a es.size ep)
  (hQ:∀ h',Heap.ExtBut I s.heap h'->Q none { s with heap:=h'}):wpAny (model prog w) A (pyNext (.ref I)) Q E s:=by
 have hT:s.TypeIs (.ref I) "set_iterator" :=⟨_,hit,rfl⟩
 unfold pyNext
 refine aa (dh (bn (name:=Str.ofString "__next__") hT slot_si_next (bo slot_si_next hT jBL ?_ (jC3 _))))
 unfold Builtin.«set_iterator.__next__»
 refine aa (m:=slotArgs "__next__" 0 _) (ag ?_)
 dsimp only
 unfold fieldsOf
 refine aa (aa (fw hit ?_))
 refine ag ?_
 dsimp only [rawInt]
 unfold setEntries
 refine aa (aa (bZ ho hd (T.fits hn) (ag ?_)))
 rw[ai (by simp)]
 simp only [ca]
 refine aa (jJ9 ho hd T hn (af _) ?_)
 rw[bJ (by rw[jAH]; exact af _)]
 dsimp only [Option.map]
 refine aa (aZ hit (by simp) fun h1 hit1 sb1=>?_)
 refine aa ?_
 simp only [newExc,newTuple]
 refine aa (bI ?_ (by size_fits))
 refine aa (m:=firstArgMember _ _) (wpAny_of_eq (a:=Value.none) (by first | rfl | (simp only [firstArgMember]; rfl)) ?_)
 refine bI ?_ (by size_fits)
 simp only [raiseNew]
 refine aa (wpAny_handled ?_)
 rw[show A.in1.handled=none from hh]
 refine aa (ag (wpAny_throw ?_))
 refine aa (dE (T:= "StopIteration") (b:=true) ⟨_,ak _ rfl,rfl⟩ gh ?_)
 exact ag (hQ _ ((sb1.extBut.push _).push _))
theorem jNF {i:Nat}{slot n:Nat}{Q:Value->Shared->Prop}(hit:IsSI s.heap I slot i a n ep)(h:Q (.ref I) s):wpAny (model prog w) A (pyIter (.ref I)) Q E s:=by
 have hT:s.TypeIs (.ref I) "set_iterator" :=⟨_,hit,rfl⟩
 refine wpAny_pyIter_slot hT jBZ (bo jBZ hT jE2 ?_ (jFH _))
 show wpAny _ _ (ret (.ref I)) _ _ s
 exact ag ⟨_,rfl,"set_iterator",_,hT,slot_si_next.lookup,h⟩
theorem jLB {Q:Value->Shared->Prop}(hx:o.ExactSet)(ho:s.heap.get? a=some o)(hd:o.data= .set es ep t)(T:Tab t es.size (ledW w))(hn:es.size<=4)
  (hQ:∀ h',h'.get? s.heap.objs.size=some { cls:= .type "set_iterator",dict:=none,data:= .fields #[rawInt (qC w t 0),rawInt 0, .ref a,rawInt es.size,rawInt ep],slots:=#[]} ->(∀ b u,s.heap.get? b=some u->h'.get? b=some u)->
   h'.objs.size=s.heap.objs.size+1->Q (.ref s.heap.objs.size) { s with heap:=h'}):wpAny (model prog w) A (pyIter (.ref a)) Q E s:=by
 have hT:s.TypeIs (.ref a) "set" :=⟨o,ho,hx.1⟩
 refine wpAny_pyIter_slot hT ga (bo ga hT jD3 ?_ (jE9 _))
 unfold Builtin.«frozenset.__iter__»
 refine aa (show wpAny _ _ (pure a:Sem Addr) _ _ s from ag ?_)
 unfold Builtin.Frozenset.sizeOf setEntries
 refine aa (aa (aa (bZ ho hd (T.fits hn) (ag (ag ?_)))))
 dsimp only
 unfold setDrawn
 refine aa (aa (bZ ho hd (T.fits hn) ?_))
 dsimp only
 unfold setsByText
 refine aa (aa (db (ag (ag ?_))))
 show wpAny _ _ (if (!byTxt w&&(!t.plain&&decide (es.size>1)))=true then _ else _) _ _ s
 rw[T.pl,gA,bX,dA,ai av]
 refine aa (ag ?_)
 refine aa (wpAny_setEpoch_of ho hd (T.fits hn) ?_)
 refine aa (bI (ag ⟨_,rfl,"set_iterator",_,⟨_,ak _ rfl,rfl⟩,slot_si_next.lookup,hQ _ ?_ (fun b u e=>ae _ e) (bf _ _)⟩) (by size_fits))
 have e0:qC w t 0=0:=by unfold qC jGI; split <;> rfl
 rw[e0]
 exact ak _ rfl
theorem jHX (hh:A.handled=none)(hne:a≠I)(hd:o.data= .set es ep t)(T:Tab t es.size (ledW w))(hn:es.size<=4):
  Walks prog w A I [I,a] [I] es.size (fun i v=>(told w a ep es)[i]?=some v) (fun i h=>IsSI h I (qC w t i) i a es.size ep/\h.get? a=some o) where
 sub:=fun b hb=>by simp at hb; simp [hb]
 frame:=fun _ _ _ st hk=>⟨hk I (by simp) _ st.1,hk a (by simp) _ st.2⟩
 item:=fun i s Q E hi st hQ=>by
  obtain⟨v,hv⟩:∃ v,(told w a ep es)[i]?=some v:=⟨_,aG (by rw[jAH]; exact hi)⟩
  exact jEM st.2 hd T hn st.1 hv fun h' hit' sb=>hQ v h' s.toks hv ⟨hit',(sb.2 a hne).trans st.2⟩ fun b o hb e=>(sb.2 b (fun z=>hb (by simp [z]))).trans e
 done:=fun s Q E st hQ=>jFN hh st.2 hd T hn st.1 fun h' eb=>hQ h' s.toks fun b o hb e=>eb b o (fun z=>hb (by simp [z])) e
 self:=fun _ _ _ _ st hQ=>jNF st.1 hQ
end
theorem jEK:typeLookup (.type "set") "__len__" =pure (some (.builtin "set.__len__")):=by rw[fQ,dD]; kernel_rfl
section
variable {prog:Program}{w:World}{A:Around}{E:Value->Shared->Prop}{s:Shared}{a:Addr}{o:Obj}{es:Array (Int×Value)}{ep:Nat}{t:SetTable}
theorem jLY {Q:Bool->Shared->Prop}(hT:s.TypeIs (.ref a) "set")(h:Q false s):wpAny (model prog w) A (Builtin.List.listLengthHint (.ref a)) Q E s:=by
 unfold Builtin.List.listLengthHint
 refine aa (wpAny_specialOf hT jEK ?_)
 generalize hid:("set.__len__" :String)=id0
 wp_delta
 rw[show splitId id0=some ("set","__len__") from by subst hid; decide+kernel]
 subst hid
 refine aa (dE (b:=true) hT (by rw[gg]; kernel_rfl) ?_)
 refine wpAny_ite_split (fun q=>absurd q (by decide)) (fun _=>?_)
 refine wpAny_ite_split (fun _=>?_) (fun q=>absurd (by decide+kernel) q)
 exact aa (wpAny_typeOf hT (ag h))
theorem jG1 {Q:List Value->Shared->Prop}(hh:A.handled=none)(hx:o.ExactSet)(ho:s.heap.get? a=some o)(hd:o.data= .set es ep t)(T:Tab t es.size (ledW w))(hn:es.size<=4)
  (hQ:∀ s',(∀ b u,s.heap.get? b=some u->s'.heap.get? b=some u)->s'.gens=s.gens->s'.drawn=s.drawn->s'.os=s.os->s.heap.objs.size<s'.heap.objs.size->Q (told w a ep es) s'):wpAny (model prog w) A (collect (.ref a)) Q E s:=by
 have ha:a<s.heap.objs.size:=am ho
 have hSa:s.heap.objs.size≠a:=bN ha
 unfold collect
 refine aa (gf (ce PySem.F.entry_proto_collect ?_))
 rw[cE PySem.F.plain_proto_collect _]
 show wpAny _ A.in1 (newList [] >>= fun l=>again (.builtin "list.__iadd__" ⟨[l, .ref a],[]⟩)) _ _ s
 refine aa (bI (ag ⟨fb fo _,ce PySem.F.entry_list_iadd ?_⟩))
 rw[cE fo _]
 generalize hE:({ s with heap:=s.heap.push { cls:= .type "list",dict:=none,data:= .seq ([]:List Value).toArray}} :Shared)=s1
 have ho1:s1.heap.get? a=some o:=by rw[<- hE]; exact ae _ ho
 have hL1:s1.heap.get? s.heap.objs.size=some { cls:= .type "list",dict:=none,data:= .seq ([]:List Value).toArray} :=by rw[<- hE]; exact ak _ rfl
 have hz1:s1.heap.objs.size=s.heap.objs.size+1:=by rw[<- hE]; exact bf _ _
 have hT1:s1.TypeIs (.ref a) "set" :=⟨o,ho1,hx.1⟩
 show wpAny _ A.in1 (Builtin.List.listExtendWith (.ref s.heap.objs.size) (.ref a) (.ref s.heap.objs.size)) _ _ _
 unfold Builtin.List.listExtendWith
 refine aa (wpAny_typeOf hT1 ?_)
 have q1:Builtin.List.listSameRef (.ref s.heap.objs.size) (.ref a)=false:=by simp [Builtin.List.listSameRef,hSa]
 rw[ai (by rw[q1]; decide)]
 refine aa (jLB hx ho1 hd T hn fun h2 hI2 k2 z2=>?_)
 refine aa (cq ?_)
 have ho2:h2.get? a=some o:=k2 _ _ ho1
 have hT2:Shared.TypeIs { s1 with heap:=h2} (.ref a) "set" :=⟨o,ho2,hx.1⟩
 have hL2:=k2 _ _ hL1
 refine jLY hT2 ?_
 rw[ah (by decide+kernel)]
 refine aa (dn ?_)
 have hne:s.heap.objs.size≠s1.heap.objs.size:=by omega
 refine aa ?_
 show wpAny _ A.in1 (updateSeq s.heap.objs.size (·.push .none) >>= fun _=>updateSeq s.heap.objs.size (·.pop)) _ _ _
 refine aa (wpAny_updateSeq hL2 rfl ?_)
 have hL3:=cz (Obj.mapSeq (·.push Value.none)) hL2 rfl
 refine wpAny_updateSeq hL3 rfl ?_
 have hL4:=cz (Obj.mapSeq (·.pop)) hL3 rfl
 have oth:∀ b u,b≠s.heap.objs.size->h2.get? b=some u->((h2.update s.heap.objs.size (Obj.mapSeq (·.push Value.none))).update s.heap.objs.size (Obj.mapSeq (·.pop))).get? b=some u:=
  fun b u hb e=>(cN _ _ (dj hb)).trans ((cN _ _ (dj hb)).trans e)
 have W:=(jHX (prog:=prog) (A:=A.in1) (a:=a) (I:=s1.heap.objs.size) hh (aL (show a<s1.heap.objs.size by rw[hz1]; exact aq ha)) hd T hn).toS
 have z24:es.size<=sizeLine:=by rw[show sizeLine=2 ^ 24 from rfl]; omega
 refine ag ⟨fb PySem.F.plain_extend_loop _,codeAny_extend_loopS W z24 s.heap.objs.size (by simp [hne,hSa]) _ es.size 0 _ _ _ rfl (aW _) ⟨oth _ _ (dj hne) hI2,oth _ _ (dj hSa) ho2⟩ hL4 (ItemsOf.nil _) fun s' acc' c' hm hS' hacc=>?_⟩
 show wpAny _ A (load s.heap.objs.size >>= _) _ _ s'
 refine aa (fw hS' ?_)
 have eacc:acc'.toList=told w a ep es:=by
  apply eV
  intro i
  by_cases hi:i<es.size
  ·have hi':i<acc'.size:=by rw[hacc.1]; exact hi
   have:=hacc.2 i acc'[i] (by simp [hi'])
   rw[this]
   simp [hi']
  ·rw[bJ (by rw[bh,hacc.1]; omega),bJ (by rw[jAH]; omega)]
 refine ag ?_
 rw[eacc]
 refine hQ s' (fun b u e=>?_) ?_ ?_ ?_ (am hS')
 ·have hb:b≠s.heap.objs.size:=aL (am e)
  have hb1:b≠s1.heap.objs.size:=aL (show b<s1.heap.objs.size by rw[hz1]; exact aq (am e))
  exact hm.heap b u (by simp [hb,hb1]) (oth b u hb (k2 b u (by rw[<- hE]; exact ae _ e)))
 ·have:=hm.gens; rw[<- hE] at this; exact this
 ·have:=hm.drawn; rw[<- hE] at this; exact this
 ·have:=hm.os; rw[<- hE] at this; exact this
end
end SS
end
section
namespace SS
open PySem PyProof.Rows
section
variable {prog:Program}{w:World}{A:Around}{E:Value->Shared->Prop}{s:Shared}{a:Addr}{ks:List Int}
theorem jK2:∀ {vs:List Value}{ks:List Int},Paired (fun v k=>∃ t,v=Value.int k t) vs ks->IntsAre vs ks
 | _,_, .nil=> .nil
 | _,_, .cons ⟨t,e⟩ r=>by subst e; exact .cons _ t (jK2 r)
theorem jD9 {es:List (Int×Value)} :∀ {ks:List Int},Paired El es ks->Paired (fun v k=>∃ t,v=Value.int k t) (es.map (·.2)) ks
 | _, .nil=> .nil
 | _, .cons ⟨_,q⟩ r=> .cons q (jD9 r)
theorem jFS {α β:Type}{F:α->β->Prop}{l l':List α}(p:l'.Perm l):∀ {r:List β},Paired F l r->∃ r',Paired F l' r'/\r'.Perm r:=by
 induction p with
 | nil=>intro r h; cases h; exact⟨[], .nil, .nil⟩
 | cons x _ ih=>
  intro r h
  cases h with
  | cons f t=>
   obtain⟨r',h1,h2⟩:=ih t
   exact⟨_::r', .cons f h1,h2.cons _⟩
 | swap x y l=>
  intro r h
  cases h with
  | cons f t=>
   cases t with
   | cons g t=>exact⟨_, .cons g (.cons f t), .swap _ _ _⟩
 | trans _ _ ih1 ih2=>
  intro r h
  obtain⟨r1,h1,h2⟩:=ih2 h
  obtain⟨r2,h3,h4⟩:=ih1 h1
  exact⟨r2,h3,h4.trans h2⟩
theorem sorted_set {Q:Value->Shared->Prop}(hh:A.handled=none)(S:SetG w s.heap a ks)
  (h:∀ (s':Shared) (l:Addr) (vs:List Value) (ns:List Int) (e:Nat),s.heap.objs.size<=l->(∀ b u,s.heap.get? b=some u->s'.heap.get? b=some u)->s'.gens=s.gens->s'.drawn=s.drawn->s'.os=s.os->
   s'.heap.get? l=some { cls:= .type "list",data:= .seq vs.toArray e} ->IntsAre vs ns->ns.Perm ks->ns.Pairwise (· <= ·)->Q (.ref l) s'):
  wpAny (model prog w) A (call (.builtin "sorted") [.ref a]) Q E s:=by
 obtain⟨o,es,ep,t,ho,hex,hd,hp,T⟩:=S.ex
 have hn:es.size<=4:=by
  have:=Paired.length hp
  rw[bh] at this
  have:=S.len
  omega
 refine eE kind_sorted plain_sorted entry_sorted (args_sorted1 _) ?_
 unfold Builtin.«sorted»
 refine aa (m:=checkCount "sorted" 1 1 _) (ag ?_)
 refine aa (jG1 (A:=A.in1) hh hex ho hd T hn fun s1 k1 g1 d1 o1 z1=>?_)
 refine aa (wpAny_newList ?_ (by rw[jAH,show sizeLine=2 ^ 24 from rfl]; omega))
 obtain⟨ks1,hp1,pm1⟩:=jFS (jI9 w a ep es) (jD9 hp)
 have hI:=jK2 hp1
 have hl:(told w a ep es).length<64:=by rw[jAH]; omega
 have hL:(s1.heap.push (seqObj "list" (told w a ep es).toArray 0)).get? s1.heap.objs.size=some (seqObj "list" (told w a ep es).toArray 0):=ak _ rfl
 show wpAny _ _ _ _ _ { s1 with heap:=s1.heap.push (seqObj "list" (told w a ep es).toArray 0)}
 refine aa (cq (bo slot_list_sort ⟨_,hL,rfl⟩ entry_list_sort (list_sort_tree hL hI hl fun out ns' a1 a2 a3=>⟨_,rfl,?_⟩) (args_list_sort _)))
 obtain⟨e,he⟩:=sortedHeap_at (out:=out) hL
 have kept:∀ b u,s.heap.get? b=some u->(sortedHeap (s1.heap.push (seqObj "list" (told w a ep es).toArray 0)) s1.heap.objs.size (told w a ep es) out).get? b=some u:=fun b u q=>by
  have q1:=k1 b u q
  have hb:b<s1.heap.objs.size:=am q1
  rw[sortedHeap_old (aL hb) (by rw[size_push']; exact aq hb)]
  exact ae _ q1
 generalize sortedHeap (s1.heap.push (seqObj "list" (told w a ep es).toArray 0)) s1.heap.objs.size (told w a ep es) out=hf at he kept ⊢
 exact ag ⟨_,rfl,h { s1 with heap:=hf} s1.heap.objs.size out.toList ns' e (cZ z1) kept g1 d1 o1 (by rw[cU]; exact he) a1 (a2.trans pm1) a3⟩
end
end SS
end
section
namespace L2
open PySem PySem.Spec PyProof.Rows
section
variable {es:List Expr}{env:Env}{a b:Expr}{pos:Pos}{xs ys:List Expr}
theorem kZ {op:Operator} :starEach (.BinOp a op b pos::es) env=(false,eval (.BinOp a op b pos) env)::starEach es env:=rfl
theorem jIS {op} :starEach (.BoolOp op xs pos::es) env=(false,eval (.BoolOp op xs pos) env)::starEach es env:=rfl
theorem jMK {ops:List CmpOp} :starEach (.Compare a ops xs pos::es) env=(false,eval (.Compare a ops xs pos) env)::starEach es env:=rfl
theorem jT {kw:List Keyword} :starEach (.Call a xs kw pos::es) env=(false,eval (.Call a xs kw pos) env)::starEach es env:=rfl
theorem jL:starEach (.Subscript a b pos::es) env=(false,eval (.Subscript a b pos) env)::starEach es env:=rfl
theorem jQ {gs sc} :starEach (.ListComp a gs sc pos::es) env=(false,eval (.ListComp a gs sc pos) env)::starEach es env:=rfl
theorem jIR {x1} :starEach (.Tuple xs x1 pos::es) env=(false,eval (.Tuple xs x1 pos) env)::starEach es env:=rfl
theorem jM {c k} :starEach (.Constant c k pos::es) env=(false,eval (.Constant c k pos) env)::starEach es env:=rfl
theorem j3 {x:Str} :starEach (.Name x pos::es) env=(false,eval (.Name x pos) env)::starEach es env:=rfl
end
section
variable {X:Cx}
def CDivL (i j:Int):Prop:=0<j/\j<2 ^ 64
theorem jGO:OpR X (binaryOp .FloorDiv) (rI CDivL fun i j=> .int (i / j)):=opI fun i j _ _ _ _ _ hc q=>by
 have h1:(0:Int)<j:=hc.1
 have h2:j<2 ^ 64:=hc.2
 refine floordiv_int (by omega) (by rw[cS i (by omega)]; exact q) (.inl (fe ?_))
 have h3:j.natAbs<2 ^ 64:=by omega
 have h4:j.natAbs≠0:=by omega
 have:=(gQ h4).mpr h3
 omega
theorem jAA:yJ X (.builtin "isinstance") (fun xs H Q=>∃ x T t b,xs=[x, .ty T]/\TyOf X.K H x t/\kitOne X.K t (.type T)=some b/\Q (.bl b) H):=by
 intro pins s σ H xs us Q I r h
 obtain⟨x,T,t,b,rfl,ty,e,q⟩:=h
 obtain⟨u,v,rfl,ru,rv⟩:=r.two
 cases rv
 exact jK0 I ru ty e fun tk=>⟨.bl b,H,I.tok tk,rfl,q⟩
def jNH:V->List V->Hp->VK->Prop:=fun x vs H Q=>∃ l xs i y,x= .ref l/\vs=[.int i,y]/\H l=some (.lst xs)/\0<=i/\i<=xs.length/\xs.length<sizeLine/\Q .non (upd H l (.lst (xs.take i.toNat++y::xs.drop i.toNat)))
theorem Vals.put {y:V}{v:Value}(r:RelV y v){xs:List V}{us:List Value}(h:Vals xs us)(k:Nat):Vals (xs.take k++y::xs.drop k) (us.take k++v::us.drop k):=(h.take k).append (.cons r (h.drop k))
theorem jJG:MtM X "list.insert" jNH:=by
 intro pins s σ H x vs v us Q I rx rv h
 obtain⟨l,xs,i,y,rfl,rfl,hH,h0,h1,hz,q⟩:=h
 cases rx
 obtain⟨a,b,rfl,ra,rb⟩:=rv.two
 obtain⟨t,rfl⟩:=ra
 obtain⟨z,its,n,r,hl,e⟩:=I.lstM hH
 have line:=jER
 have hf:Builtin.List.listFitsIndex i=true:=fitsIndex_both (by omega) (by omega)
 refine fH F.slot_list_insert ⟨_,e,rfl⟩ F.entry_list_insert (F.args_list_insert_3 _ _ _) (AutoSeq1.list_insert_list_int_val_1 l its.toArray n i t b (by simp [hf]) (by rw[aw]; omega)) ⟨e,?_⟩
 refine⟨.non,_,I.lset (its':=its.take i.toNat++b::its.drop i.toNat) hH e ?_ (Vals.put rb r i.toNat) ?_,rfl,q⟩
 ·have hk:(if i<0 then (i+(its.toArray.size:Int)).toNat else min i.toNat its.toArray.size)=i.toNat:=by
   rw[ai (by omega),aw]
   omega
  show (its.toArray.extract 0 (if i<0 then (i+(its.toArray.size:Int)).toNat else min i.toNat its.toArray.size)).push b++its.toArray.extract (if i<0 then (i+(its.toArray.size:Int)).toNat else min i.toNat its.toArray.size)=_
  rw[hk]
  apply Array.ext'
  simp [List.extract_eq_take_drop,aX]
 ·rw[aN,bp,bz,fh]
  omega
def rEqE (K:W.Frag):R2:=fun x y H Q=>∃ p q xs,x= .ref p/\y= .ref q/\SqT K H p xs/\SqT K H q []/\Q (.bl (decide (xs=[]))) H
theorem jPS (hu:X.A.units<cLine):OpR X (compareOp .Eq) (rEqE X.K):=by
 intro pins s σ H x y v u Q I rx ry h
 obtain⟨p,q,xs,rfl,rfl,hp,hq,k⟩:=h
 cases rx
 cases ry
 obtain⟨its,r,t1,_⟩:=I.tuple hp
 obtain⟨its2,r2,t2,_⟩:=I.tuple hq
 have e2:its2=[]:=r2.zero
 subst e2
 refine SeqAt.eq_tupleAt (e:=fun _=>true) (show s.heap.IsTuple p its.toArray from t1) (show s.heap.IsTuple q ([]:List Value).toArray from t2) hu (fun j h1 h2=>absurd h2 (by simp)) ⟨.bl _,H,I,rfl,?_⟩
 have hl:=r.length
 have e:((List.range (min its.toArray.size ([]:List Value).toArray.size)).all (fun _=>true)&&its.toArray.size==([]:List Value).toArray.size)=decide (xs=[]):=by
  cases xs with
  | nil=>
   have:its=[]:=by simpa using hl.symm
   subst this
   rfl
  | cons a b=>
   have:its.length≠0:=by rw[<- hl]; simp
   simp [this]
 rw[e]
 exact k
theorem jD0 (hc:X.calm=true):yJ X (.builtin "all") (fun xs H Q=>∃ (p:Addr) (bs:List Bool),xs=[.ref p]/\SqL X.K H p (bs.map V.bl)/\Q (.bl (bs.all id)) H):=by
 intro pins s σ H xs us Q I r h
 obtain⟨p,bs,rfl,hq,q⟩:=h
 obtain⟨u,rfl,rx⟩:=r.one
 cases rx
 obtain⟨its,r',pl,hz⟩:=I.list hq
 have hlen:=r'.length
 rw[ac] at hlen
 refine call_all_walk (cD pl.isList ?_)
 have hne:p≠s.heap.objs.size:=by
  obtain⟨o,ho,_⟩:=pl.isList
  exact aL (am ho)
 refine⟨s.heap.objs.size,_,_,_,_,_,fun i=>bs.getD i true,rfl,gG (by simpa using I.ok.hd hc) _ p hne its.toArray,⟨⟨_,ak _ rfl,rfl,rfl⟩,pl.isList.push _⟩,fun i v z Q' E' hP hQ'=>?_,fun h' tk hk=>?_⟩
 ·have hi:its[i]?=some v:=by simpa using hP
  have hb:i<bs.length:=by
   rw[hlen]
   exact(ay.mp hi).1
  obtain⟨u,hu,ru⟩:=r'.get (i:=i) (x:= .bl (bs[i])) (by simp [hb])
  rw[hi] at hu
  cases hu
  cases ru
  have e:bs.getD i true=bs[i]:=by simp [List.getD,hb]
  have hQ2:Q' (bs.getD i true) z:=hQ'
  rw[e] at hQ2
  exact ag hQ2
 ·have e:(List.range its.toArray.size).all (fun i=>bs.getD i true)=bs.all id:=by
   rw[aw,<- hlen]
   rw[cB,aU,aU]
   constructor
   ·intro a b hb
    obtain⟨i,hi,rfl⟩:=df hb
    have:=a i (aY.mpr hi)
    simpa [List.getD,hi] using this
   ·intro a i hi
    have hi:=aY.mp hi
    have:=a bs[i] (cr hi)
    simpa [List.getD,hi] using this
  rw[e]
  exact⟨.bl _,H,I.kept (t':=tk) fun b o e=>hk b o (by
   intro z
   have z:b=s.heap.objs.size:=by simpa using z
   exact absurd (am e) (by rw[z]; exact bc _)) (ae _ e),rfl,q⟩
def jCU (n:Nat):List V:=(List.range n).map fun (i:Nat)=>V.int (i:Int)
theorem jHB {n:Nat}{acc:Array Value}(h:ItemsOf (fun i v=>∃ t,v=Value.int (0+(i:Int)*1) t) acc n):Vals (jCU n) acc.toList:=by
 have key:∀ (l:List Value) (k:Nat),(∀ j v,l[j]?=some v->∃ t,v=Value.int ((k+j:Nat):Int) t)->Vals ((range' k l.length).map fun (i:Nat)=>V.int (i:Int)) l:=by
  intro l
  induction l with
  | nil=>intro k _; exact .nil
  | cons v l ih=>
   intro k hk
   rw[bp,List.range'_succ,cF]
   refine .cons ?_ (ih (k+1) fun j u hj=>?_)
   ·obtain⟨t,e⟩:=hk 0 v rfl
    exact⟨t,by simpa using e⟩
   ·obtain⟨t,e⟩:=hk (j+1) u (by simpa using hj)
    exact⟨t,by rw[e]; congr 1; omega⟩
 have:=key acc.toList 0 fun j v hj=>by
  obtain⟨t,e⟩:=h.2 j v (by simpa using hj)
  exact⟨t,by rw[e]; congr 1; omega⟩
 rw[bh,h.1] at this
 unfold jCU
 rw[gk]
 exact this
theorem jG6:yJ X (.type "range") (fun xs H Q=>∃ j:Int,xs=[.int j]/\∀ p,H p=none->Q (.ref p) (upd H p (.rng 0 j))):=by
 intro pins s σ H xs us Q I r h
 obtain⟨j,rfl,q⟩:=h
 obtain⟨u,rfl,t,rfl⟩:=r.one
 refine call_range_1 ⟨.ref s.heap.objs.size,_,I.laid (o:= .rng 0 j) (fun b o e=>ae _ e) (af _) ?_,rfl,q _ I.fresh⟩
 exact⟨_,_,_,ak _ rfl⟩
theorem jF4 (hc:X.calm=true):yJ X (.type "list") (fun xs H Q=>∃ p j,xs=[.ref p]/\H p=some (.rng 0 j)/\0<=j/\j<=1000/\∀ l,H l=none->Q (.ref l) (upd H l (.lst (jCU j.toNat)))):=by
 intro pins s σ H xs us Q I r h
 obtain⟨p,j,rfl,hp,h0,h1,q⟩:=h
 obtain⟨u,rfl,rx⟩:=r.one
 cases rx
 obtain⟨t,u,v,e⟩:=I.hok p _ hp
 have en:Builtin.Range.rangeSize 0 j 1=(j.toNat:Int):=by
  rw[rangeSize_one]
  split <;> omega
 refine call_list_range (I.ok.hd hc) (show IsRange s.heap p 0 j 1 t u v from e) (small_one (by omega) (by omega) (by omega) (by omega)) en (by omega) fun h' tk acc' c' kp hS hacc=>?_
 refine⟨.ref s.heap.objs.size,_,I.laid (t':=tk) (o:= .lst (jCU j.toNat)) kp (af _) ?_,rfl,q _ I.fresh⟩
 refine⟨?_,acc'.toList,c',jHB hacc,by rw[cU]; exact hS⟩
 unfold jCU
 rw[ac,ao,cL]
 omega
def SetO (w:World)(a:Addr)(ks:List Int):HO:= .ext fun h=>SS.SetG w h a ks
theorem jBX {ns:List Int} :∀ {us:List Value},Vals (ns.map V.int) us->IntsAre us ns:=by
 induction ns with
 | nil=>intro us h; cases h; exact .nil
 | cons n ns ih=>
  intro us h
  cases h with
  | cons r t=>
   obtain⟨k,rfl⟩:=r
   exact .cons n k (ih t)
theorem jAS:∀ {us:List Value}{ns:List Int},IntsAre us ns->Vals (ns.map V.int) us
 | _,_, .nil=> .nil
 | _,_, .cons n t r=> .cons ⟨t,rfl⟩ (jAS r)
theorem jKR (hc:X.calm=true):yJ X (.type "set") (fun xs H Q=>∃ (p:Addr) (ns:List Int),xs=[.ref p]/\SqL X.K H p (ns.map V.int)/\ns.length<=4/\(∀ z∈ns,0<=z/\z<32)/\
  ∀ (l:Addr) (ks:List Int),H l=none->(∀ z,z∈ks↔z∈ns)->Q (.ref l) (upd H l (SetO X.w l ks))):=by
 intro pins s σ H xs us Q I r h
 obtain⟨p,ns,rfl,hq,hl,hv,q⟩:=h
 obtain⟨u,rfl,rx⟩:=r.one
 cases rx
 obtain⟨its,r',pl,hz⟩:=I.list hq
 have hlen:=r'.length
 rw[ac] at hlen
 refine SS.set_of_list (I.ok.hd hc) pl.isList (jBX r') (by rw[aw]; omega) hv fun h' tk ks S hm kp=>?_
 have hg:∃ o,h'.get? s.heap.objs.size=some o:=let ⟨o,_,_,_,e,_⟩:=S.ex; ⟨o,e⟩
 exact⟨.ref s.heap.objs.size,_,I.laid (t':=tk) (o:=SetO X.w s.heap.objs.size ks) kp (af _) ⟨S,hg,fun h1 h2 a b=>a.at b⟩,rfl,q _ ks I.fresh hm⟩
theorem jD4 (hc:X.calm=true):yJ X (.builtin "sorted") (fun xs H Q=>∃ (p:Addr) (ks:List Int),xs=[.ref p]/\H p=some (SetO X.w p ks)/\
  ∀ (l:Addr) (ns:List Int),H l=none->ns.Pairwise (· < ·)->(∀ z,z∈ns↔z∈ks)->Q (.ref l) (upd H l (.lst (ns.map V.int)))):=by
 intro pins s σ H xs us Q I r h
 obtain⟨p,ks,rfl,hp,q⟩:=h
 obtain⟨u,rfl,rx⟩:=r.one
 cases rx
 obtain⟨S,_,_⟩:=I.hok p _ hp
 refine SS.sorted_set (I.ok.hd hc) S fun s' l vs ns e hl kp g d o he hi pm srt=>?_
 obtain⟨h',g',d',t',o'⟩:=s'
 have g:g'=s.gens:=g
 have o:o'=s.os:=o
 have d:d'=s.drawn:=d
 subst g; subst o; subst d
 have nd:ns.Nodup:=pm.nodup_iff.mpr S.nd
 have lt:ns.Pairwise (· < ·):=by
  have:=List.Pairwise.and srt nd
  exact this.imp fun {a b} ⟨x,y⟩=>by omega
 have hz:(ns.map V.int).length<=sizeLine:=by
  rw[ac,pm.length_eq,cL]
  have:=S.len
  omega
 have I2:Inv X pins σ (upd H l (.lst (ns.map V.int))) { s with heap:=h',toks:=t'} :=I.laid (t':=t') kp hl ⟨hz,vs,e,jAS hi,he⟩
 exact⟨.ref l,_,I2,rfl,q l ns (I.hok.fresh hl) lt fun z=>pm.mem_iff⟩
end
section
variable {X:Cx}{p1 p2 p3 p4 p5 p6 p7:Pos}{k1 k2 k3 k4:Nat}
theorem jNU {i j r:Int}(hj:0<=j)(hj2:j<=1000000)(hi:i.natAbs<2 ^ 64)(e:i ^ j.toNat=r):PE X (.BinOp (.Constant (.int i) k2 p2) .Pow (.Constant (.int j) k3 p3) p4) (tC (.int r)):=fun pins s σ H Q I h=>
 (kX (X:=X) jJ2 jS jS) pins s σ H Q I ⟨_,_,rfl,rfl,⟨hj,hj2,hi⟩,by subst e; exact h⟩
theorem jNV {a b:Expr}{i j r:Int}(ha:PE X a (tC (.int i)))(hb:PE X b (tC (.int j)))(hc:CMul i j)(e:i*j=r):PE X (.BinOp a .Mult b p1) (tC (.int r)):=fun pins s σ H Q I h=>
 (kX (X:=X) jC2 ha hb) pins s σ H Q I ⟨_,_,rfl,rfl,hc,by subst e; exact h⟩
theorem jNY {a b:Expr}{i j r:Int}(ha:PE X a (tC (.int i)))(hb:PE X b (tC (.int j)))(e:i+j=r):PE X (.BinOp a .Add b p1) (tC (.int r)):=fun pins s σ H Q I h=>
 (kX (X:=X) kW ha hb) pins s σ H Q I ⟨_,_,rfl,rfl,by subst e; exact h⟩
theorem jPM:PE X (.BinOp (.BinOp (.Constant (.int 2) k1 p1) .Mult (.BinOp (.Constant (.int 10) k2 p2) .Pow (.Constant (.int 12) k3 p3) p4) p5) .Add (.Constant (.int 1) k4 p6) p7) (tC (.int 2000000000001)):=
 jNY (i:=2000000000000) (jNV (j:=1000000000000) jS (jNU (by decide) (by decide) (by decide) (by decide)) (.inl ⟨by decide,by decide⟩) (by decide)) jS (by decide)
end
def ItAt (tp:Bool)(h:Heap)(it a:Addr)(i:Nat):Prop:=match tp with
 | false=>h.IsListIter it a i
 | true=>h.IsTupleIter it a i
def ObAt (tp:Bool)(h:Heap)(a:Addr)(xs:Array Value):Prop:=match tp with
 | false=>h.IsList a xs
 | true=>h.IsTuple a xs
theorem ItAt.but {tp:Bool}{h h':Heap}{it a b:Addr}{i:Nat}(x:ItAt tp h it a i)(e:Heap.ExtBut b h h')(n:it≠b):ItAt tp h' it a i:=by
 cases tp with
 | false=>exact Heap.IsListIter.extBut x e n
 | true=>exact Heap.IsTupleIter.extBut x e n
theorem ObAt.but {tp:Bool}{h h':Heap}{a b:Addr}{xs:Array Value}(x:ObAt tp h a xs)(e:Heap.ExtBut b h h')(n:a≠b):ObAt tp h' a xs:=by
 cases tp with
 | false=>exact Heap.IsList.extBut x e n
 | true=>exact Heap.IsTuple.extBut x e n
theorem ItAt.at {tp:Bool}{h h':Heap}{it a:Addr}{i:Nat}(x:ItAt tp h it a i)(e:∀ o,h.get? it=some o->h'.get? it=some o):ItAt tp h' it a i:=by
 cases tp with
 | false=>exact Heap.IsListIter.at x e
 | true=>exact Heap.IsTupleIter.at x e
theorem ItAt.obj {tp:Bool}{h:Heap}{it a:Addr}{i:Nat}(x:ItAt tp h it a i):∃ o,h.get? it=some o/\∀ v,o.data≠ .cell v:=by
 cases tp with
 | false=>obtain⟨o,e,_,d⟩:=x; exact⟨o,e,fun v q=>by rw[d] at q; cases q⟩
 | true=>obtain⟨o,e,_,d⟩:=x; exact⟨o,e,fun v q=>by rw[d] at q; cases q⟩
theorem ObAt.lt {tp:Bool}{h:Heap}{a:Addr}{xs:Array Value}(x:ObAt tp h a xs):a<h.objs.size:=by
 cases tp with
 | false=>obtain⟨o,e,_⟩:=x; exact am e
 | true=>obtain⟨o,e,_⟩:=x; exact am e
section
variable {prog:Program}{w:World}{A:Around}{E:Value->Shared->Prop}{s:Shared}
theorem next1 {tp:Bool}{it a:Addr}{i:Nat}{xs:Array Value}{x:Value}{Q:Value->Shared->Prop}(hi:ItAt tp s.heap it a i)(ha:ObAt tp s.heap a xs)(hx:xs[i]?=some x)
  (k:∀ h',ItAt tp h' it a (i+1)->Heap.SameBut it s.heap h'->Q x { s with heap:=h'}):wpAny (model prog w) A (Builtin.SmallTypes.nextOf (.ref it)) Q E s:=by
 cases tp with
 | false=>exact wpAny_nextOf_list_item hi ha hx k
 | true=>
  obtain⟨o,e,c,d⟩:=id (show s.heap.IsTupleIter it a i from hi)
  obtain⟨u,eu,_,n,du⟩:=(show s.heap.IsTuple a xs from ha)
  have ty:=Heap.IsTupleIter.typeIs (show s.heap.IsTupleIter it a i from hi)
  unfold Builtin.SmallTypes.nextOf
  refine aa (bn (name:=Str.ofString "__next__") ty F.slot_tuple_iterator_next (bo F.slot_tuple_iterator_next ty F.entry_tuple_iterator_next (?_:wpAny (model prog w) _ (field (.ref it) 0 >>= _) _ _ s) (F.args_tuple_iterator_next_1 _)))
  refine aa (bt e d (x:= .ref a) rfl (?_:wpAny (model prog w) _ (if (Value.ref a==Value.none)=true then _ else _) _ _ s))
  rw[ai (by exact av)]
  show wpAny (model prog w) _ (field (.ref it) 1 >>= _) _ _ s
  refine aa (bt e d (x:= .int i 0) rfl ?_)
  show wpAny (model prog w) _ (seqItems? (.ref a) >>= _) _ _ s
  refine aa (cx eu du ?_)
  simp only [ca,hx]
  refine aa (wpAny_setField e d (by simp) (ag ⟨x,rfl,ag (k _ ⟨_,cz _ e (Obj.isFreed_of_fields (Obj.data_mapFields d _)),(Obj.cls_mapFields ..).trans c,?_⟩ (dR ..))⟩))
  rw[Obj.data_mapFields d]
  simp [rawInt]
theorem next0 {tp:Bool}{it a:Addr}{i:Nat}{xs:Array Value}{Q:Value->Shared->Prop}(hh:A.handled=none)(hi:ItAt tp s.heap it a i)(ha:ObAt tp s.heap a xs)(hx:xs[i]?=none)
  (k:∀ h' e,Heap.ExtBut it s.heap h'->(∃ o,h'.get? e=some o/\o.cls= .type "StopIteration")->E (.ref e) { s with heap:=h'}):wpAny (model prog w) A (Builtin.SmallTypes.nextOf (.ref it)) Q E s:=by
 cases tp with
 | false=>exact wpAny_nextOf_list_end hh hi ha hx k
 | true=>
  obtain⟨o,e,c,d⟩:=id (show s.heap.IsTupleIter it a i from hi)
  obtain⟨u,eu,_,n,du⟩:=(show s.heap.IsTuple a xs from ha)
  have ty:=Heap.IsTupleIter.typeIs (show s.heap.IsTupleIter it a i from hi)
  unfold Builtin.SmallTypes.nextOf
  refine aa (bn (name:=Str.ofString "__next__") ty F.slot_tuple_iterator_next (bo F.slot_tuple_iterator_next ty F.entry_tuple_iterator_next (?_:wpAny (model prog w) _ (field (.ref it) 0 >>= _) _ _ s) (F.args_tuple_iterator_next_1 _)))
  refine aa (bt e d (x:= .ref a) rfl (?_:wpAny (model prog w) _ (if (Value.ref a==Value.none)=true then _ else _) _ _ s))
  rw[ai (by exact av)]
  show wpAny (model prog w) _ (field (.ref it) 1 >>= _) _ _ s
  refine aa (bt e d (x:= .int i 0) rfl ?_)
  show wpAny (model prog w) _ (seqItems? (.ref a) >>= _) _ _ s
  refine aa (cx eu du ?_)
  simp only [ca,hx]
  refine aa (dn (aa (wpAny_setField e d (by simp) (?_:wpAny (model prog w) _ (newExc (.type "StopIteration") [] >>= _) _ _ _))))
  refine aa (by
   simp only [newExc,newTuple]
   refine aa (bI (aa (m:=firstArgMember _ _) (wpAny_of_eq (a:=Value.none) (by first | rfl | (simp only [firstArgMember]; rfl)) (bI ?_ (by size_fits)))) (by size_fits))
   simp only [raiseNew]
   refine aa (wpAny_handled ?_)
   first | rw[show A.in1.handled=none from hh] | rw[hh]
   exact aa (ag (wpAny_throw (k _ _ (((dR ..).extBut.push _).push _) ⟨_,ak _ rfl,rfl⟩))))
theorem jHW {t1 t2:Bool}{z TI TO i1 i2 l1 l2:Addr}{k1 k2:Nat}{xs ys:Array Value}{x y a b:Value}{Q:Value->Shared->Prop}(D:ZipApart z TI TO i1 i2 l1 l2)
  (ez:IsZip s.heap z TI TO .none) (eI:IsPair s.heap TI (.ref i1) (.ref i2)) (eO:IsPair s.heap TO a b) (g1:ItAt t1 s.heap i1 l1 k1) (g2:ItAt t2 s.heap i2 l2 k2) (o1:ObAt t1 s.heap l1 xs) (o2:ObAt t2 s.heap l2 ys) (hx:xs[k1]?=some x) (hy:ys[k2]?=some y)
  (k:∀ h',IsZip h' z TI TO (rawInt s.heap.objs.size)->IsPair h' TO x y->ItAt t1 h' i1 l1 (k1+1)->ItAt t2 h' i2 l2 (k2+1)->IsPair h' s.heap.objs.size x y->h'.objs.size=s.heap.objs.size+1->
   (∀ c o,c≠z->c≠TO->c≠i1->c≠i2->s.heap.get? c=some o->h'.get? c=some o)->Q (.ref s.heap.objs.size) { s with heap:=h'}):
  wpAny (model prog w) A (Builtin.«zip.__next__» ⟨[.ref z],[]⟩) (fun fin s'=>∃ v,fin= .done (.ret v)/\Q v s') E s:=by
 show wpAny (model prog w) A (field (.ref z) 2 >>= _) _ _ _
 refine aa (bt ez rfl (x:= .bool false) rfl (?_:wpAny (model prog w) A (field (.ref z) 3 >>= _) _ _ _))
 refine aa (bt ez rfl (x:= .ref TI) rfl (aa (cx eI rfl (?_:wpAny (model prog w) A (Builtin.SmallTypes.ownedTupleIsFree (.ref z) >>= _) _ _ _))))
 refine aa (by
  unfold Builtin.SmallTypes.ownedTupleIsFree
  refine aa (bt ez rfl (x:= .none) rfl (ag ?_))
  simp only [dU]
  refine aa (dn (aa (bt ez rfl (x:= .ref TO) rfl (aa (aZ ez (by simp) fun p1 f1 q1=>?_)))))
  have f1:IsZip p1 z TI TO .ellipsis:=f1
  refine aa (by
   simp only [List.zipIdx_cons,List.zipIdx_nil,fO,gn]
   refine aa (aa (ff (?_:wpAny (model prog w) A (Builtin.SmallTypes.nextOf (.ref i1) >>= _) _ _ _)))
   refine aa (next1 (g1.but q1.extBut D.i1z) (o1.but q1.extBut D.l1z) hx fun p2 r2 q2=>ag ?_)
   have eO2:IsPair p2 TO a b:=q2.extBut _ _ D.TOi1 (q1.extBut _ _ D.TOz eO)
   refine aa (cx eO2 rfl (aa (dI eO2 fun p3 eO3 q3=>aa (gq (ag ?_)))))
   have eO3:IsPair p3 TO x b:=eO3
   refine aa (aa (ff (?_:wpAny (model prog w) A (Builtin.SmallTypes.nextOf (.ref i2) >>= _) _ _ _)))
   refine aa (next1 (((g2.but q1.extBut D.i2z).but q2.extBut D.i12.symm).but q3.extBut D.TOi2.symm) (((o2.but q1.extBut D.l2z).but q2.extBut D.l2i1).but q3.extBut D.l2TO) hy fun p4 r4 q4=>ag ?_)
   have eO4:IsPair p4 TO x b:=q4.extBut _ _ D.TOi2 eO3
   refine aa (cx eO4 rfl (aa (dI eO4 fun p5 eO5 q5=>aa (gq (ag (ag ?_))))))
   have eO5:IsPair p5 TO x y:=eO5
   refine aa (cx eO5 rfl (aa (wpAny_newTuple ?_)))
   have sz:p5.objs.size=s.heap.objs.size:=by rw[q5.1,q4.1,q3.1,q2.1,q1.1]
   have ez5:IsZip p5 z TI TO .ellipsis:=q5.extBut _ _ D.TOz.symm (q4.extBut _ _ D.i2z.symm (q3.extBut _ _ D.TOz.symm (q2.extBut _ _ D.i1z.symm f1)))
   have kp5:∀ c o,c≠z->c≠TO->c≠i1->c≠i2->s.heap.get? c=some o->p5.get? c=some o:=fun c o n1 n2 n3 n4 e=>q5.extBut _ _ n2 (q4.extBut _ _ n4 (q3.extBut _ _ n2 (q2.extBut _ _ n3 (q1.extBut _ _ n1 e))))
   have r15:ItAt t1 p5 i1 l1 (k1+1):=((r2.but q3.extBut D.TOi1.symm).but q4.extBut D.i12).but q5.extBut D.TOi1.symm
   have r25:ItAt t2 p5 i2 l2 (k2+1):=r4.but q5.extBut D.TOi2.symm
   have zlt:z<p5.objs.size:=am ez5
   show wpAny (model prog w) A (Builtin.SmallTypes.ownedTupleHandOut (.ref z) (.ref p5.objs.size) >>= _) _ _ _
   refine aa ?_
   unfold Builtin.SmallTypes.ownedTupleHandOut
   have f6:IsZip (p5.push { cls:= .type "tuple",data:= .seq #[x,y]}) z TI TO .ellipsis:=ae _ ez5
   refine aa (aZ f6 (by simp) fun p7 f7 q7=>?_)
   have f7:IsZip p7 z TI TO (rawInt p5.objs.size):=f7
   refine aZ f7 (by simp) fun p8 f8 q8=>?_
   have f8:IsZip p8 z TI TO (rawInt p5.objs.size):=f8
   have up:∀ c o,c≠z->p5.get? c=some o->p8.get? c=some o:=fun c o n1 e=>q8.extBut _ _ n1 (q7.extBut _ _ n1 (ae _ e))
   have eT:IsPair p8 p5.objs.size x y:=q8.extBut _ _ (bN zlt) (q7.extBut _ _ (bN zlt) (ak _ rfl))
   have sz8:p8.objs.size=p5.objs.size+1:=by rw[q8.1,q7.1,bf]
   rw[sz] at f8 eT sz8
   refine ag ⟨_,rfl,(?_:Q (.ref p5.objs.size) _)⟩
   rw[sz]
   exact k p8 f8 (up _ _ D.TOz eO5) (r15.at fun o e=>up _ o D.i1z e) (r25.at fun o e=>up _ o D.i2z e) eT sz8 fun c o n1 n2 n3 n4 e=>up c o n1 (kp5 c o n1 n2 n3 n4 e)))
theorem jL2 {t1 t2:Bool}{z TI TO i1 i2 l1 l2:Addr}{k1 k2:Nat}{xs ys:Array Value}{a b:Value}{Q:Fin->Shared->Prop}(hh:A.handled=none)(D:ZipApart z TI TO i1 i2 l1 l2)
  (ez:IsZip s.heap z TI TO .none) (eI:IsPair s.heap TI (.ref i1) (.ref i2)) (eO:IsPair s.heap TO a b) (g1:ItAt t1 s.heap i1 l1 k1) (g2:ItAt t2 s.heap i2 l2 k2) (o1:ObAt t1 s.heap l1 xs) (o2:ObAt t2 s.heap l2 ys) (hend:xs[k1]?=none\/ys[k2]?=none)
  (k:∀ h' e,(∀ c o,c≠z->c≠TO->c≠i1->c≠i2->s.heap.get? c=some o->h'.get? c=some o)->(∃ o,h'.get? e=some o/\o.cls= .type "StopIteration")->E (.ref e) { s with heap:=h'}):
  wpAny (model prog w) A (Builtin.«zip.__next__» ⟨[.ref z],[]⟩) Q E s:=by
 show wpAny (model prog w) A (field (.ref z) 2 >>= _) _ _ _
 refine aa (bt ez rfl (x:= .bool false) rfl (?_:wpAny (model prog w) A (field (.ref z) 3 >>= _) _ _ _))
 refine aa (bt ez rfl (x:= .ref TI) rfl (aa (cx eI rfl (?_:wpAny (model prog w) A (Builtin.SmallTypes.ownedTupleIsFree (.ref z) >>= _) _ _ _))))
 refine aa (by
  unfold Builtin.SmallTypes.ownedTupleIsFree
  refine aa (bt ez rfl (x:= .none) rfl (ag ?_))
  simp only [dU]
  refine aa (dn (aa (bt ez rfl (x:= .ref TO) rfl (aa (aZ ez (by simp) fun p1 f1 q1=>?_)))))
  have f1:IsZip p1 z TI TO .ellipsis:=f1
  refine aa (by
   simp only [List.zipIdx_cons,List.zipIdx_nil,fO,gn]
   refine aa (aa (ff (?_:wpAny (model prog w) A (Builtin.SmallTypes.nextOf (.ref i1) >>= _) _ _ _)))
   cases hx:xs[k1]? with
   | none=>
    refine aa (next0 hh (g1.but q1.extBut D.i1z) (o1.but q1.extBut D.l1z) hx fun p2 e q2 ⟨u,eu,cu⟩=>?_)
    have f2:IsZip p2 z TI TO .ellipsis:=q2 _ _ D.i1z.symm f1
    have nz:e≠z:=fun v=>by subst v; rw[f2] at eu; cases eu; simp at cu
    exact aZ f2 (by simp) fun p3 _ q3=>k p3 e (fun c o n1 _ n3 _ v=>q3.extBut _ _ n1 (q2 _ _ n3 (q1.extBut _ _ n1 v))) ⟨u,q3.extBut _ _ nz eu,cu⟩
   | some x=>
    have hy:ys[k2]?=none:=by
     rcases hend with v | v
     ·rw[hx] at v; cases v
     ·exact v
    refine aa (next1 (g1.but q1.extBut D.i1z) (o1.but q1.extBut D.l1z) hx fun p2 r2 q2=>ag ?_)
    have eO2:IsPair p2 TO a b:=q2.extBut _ _ D.TOi1 (q1.extBut _ _ D.TOz eO)
    refine aa (cx eO2 rfl (aa (dI eO2 fun p3 eO3 q3=>aa (gq (ag ?_)))))
    refine aa (aa (ff (?_:wpAny (model prog w) A (Builtin.SmallTypes.nextOf (.ref i2) >>= _) _ _ _)))
    refine aa (next0 hh (((g2.but q1.extBut D.i2z).but q2.extBut D.i12.symm).but q3.extBut D.TOi2.symm) (((o2.but q1.extBut D.l2z).but q2.extBut D.l2i1).but q3.extBut D.l2TO) hy fun p4 e q4 ⟨u,eu,cu⟩=>?_)
    have f4:IsZip p4 z TI TO .ellipsis:=q4 _ _ D.i2z.symm (q3.extBut _ _ D.TOz.symm (q2.extBut _ _ D.i1z.symm f1))
    have nz:e≠z:=fun v=>by subst v; rw[f4] at eu; cases eu; simp at cu
    exact aZ f4 (by simp) fun p5 _ q5=>k p5 e (fun c o n1 n2 n3 n4 v=>q5.extBut _ _ n1 (q4 _ _ n4 (q3.extBut _ _ n2 (q2.extBut _ _ n3 (q1.extBut _ _ n1 v))))) ⟨u,q5.extBut _ _ nz eu,cu⟩))
theorem jFO {t1 t2:Bool}{z TI TO i1 i2 l1 l2:Addr}{k1 k2:Nat}{xs ys:Array Value}{x y a b:Value}{Q:Option Value->Shared->Prop}(D:ZipApart z TI TO i1 i2 l1 l2)
  (ez:IsZip s.heap z TI TO .none) (eI:IsPair s.heap TI (.ref i1) (.ref i2)) (eO:IsPair s.heap TO a b) (g1:ItAt t1 s.heap i1 l1 k1) (g2:ItAt t2 s.heap i2 l2 k2) (o1:ObAt t1 s.heap l1 xs) (o2:ObAt t2 s.heap l2 ys) (hx:xs[k1]?=some x) (hy:ys[k2]?=some y)
  (k:∀ h',IsZip h' z TI TO (rawInt s.heap.objs.size)->IsPair h' TO x y->ItAt t1 h' i1 l1 (k1+1)->ItAt t2 h' i2 l2 (k2+1)->IsPair h' s.heap.objs.size x y->h'.objs.size=s.heap.objs.size+1->
   (∀ c o,c≠z->c≠TO->c≠i1->c≠i2->s.heap.get? c=some o->h'.get? c=some o)->Q (some (.ref s.heap.objs.size)) { s with heap:=h'}):
  wpAny (model prog w) A (pyNext (.ref z)) Q E s:=by
 have ty:s.TypeIs (.ref z) "zip" :=⟨_,ez,rfl⟩
 unfold pyNext
 exact aa (dh (bn (name:=Str.ofString "__next__") ty F.slot_zip_next (bo F.slot_zip_next ty F.entry_zip_next (jHW D ez eI eO g1 g2 o1 o2 hx hy fun h' b1 b2 b3 b4 b5 b6 b7=>ag (k h' b1 b2 b3 b4 b5 b6 b7)) (F.args_zip_next_1 _))))
theorem jFP {t1 t2:Bool}{z TI TO i1 i2 l1 l2:Addr}{k1 k2:Nat}{xs ys:Array Value}{a b:Value}{Q:Option Value->Shared->Prop}(hh:A.handled=none)(D:ZipApart z TI TO i1 i2 l1 l2)
  (ez:IsZip s.heap z TI TO .none) (eI:IsPair s.heap TI (.ref i1) (.ref i2)) (eO:IsPair s.heap TO a b) (g1:ItAt t1 s.heap i1 l1 k1) (g2:ItAt t2 s.heap i2 l2 k2) (o1:ObAt t1 s.heap l1 xs) (o2:ObAt t2 s.heap l2 ys) (hend:xs[k1]?=none\/ys[k2]?=none)
  (k:∀ h',(∀ c o,c≠z->c≠TO->c≠i1->c≠i2->s.heap.get? c=some o->h'.get? c=some o)->Q none { s with heap:=h'}):wpAny (model prog w) A (pyNext (.ref z)) Q E s:=by
 have ty:s.TypeIs (.ref z) "zip" :=⟨_,ez,rfl⟩
 unfold pyNext
 refine aa (dh (bn (name:=Str.ofString "__next__") ty F.slot_zip_next (bo F.slot_zip_next ty F.entry_zip_next (jL2 hh D ez eI eO g1 g2 o1 o2 hend fun h' e kp ⟨u,eu,cu⟩=>?_) (F.args_zip_next_1 _))))
 exact aa (dE (T:= "StopIteration") (b:=true) ⟨u,eu,cu⟩ gh (ag (k _ kp)))
end
def qE (tp:Bool)(a:Addr):Obj:=match tp with
 | false=> { cls:= .type "list_iterator",data:= .fields #[.ref a, .int 0 0]}
 | true=> { cls:= .type "tuple_iterator",data:= .fields #[.ref a, .int 0 0]}
theorem jBU (tp:Bool)(a:Addr):(qE tp a).isFreed=false:=by cases tp <;> rfl
theorem ObAt.push {tp:Bool}{h:Heap}{a:Addr}{xs:Array Value}(x:ObAt tp h a xs)(o:Obj):ObAt tp (h.push o) a xs:=by
 cases tp with
 | false=>exact Heap.IsList.push x o
 | true=>exact Heap.IsTuple.push x o
theorem jBS {prog:Program}{w:World}{A:Around}{E:Value->Shared->Prop}{s:Shared}{tp:Bool}{a:Addr}{xs:Array Value}{Q:Value->Shared->Prop}(h:ObAt tp s.heap a xs)(q:Q (.ref s.heap.objs.size) { s with heap:=s.heap.push (qE tp a)}):
  wpAny (model prog w) A (pyIter (.ref a)) Q E s:=by
 cases tp with
 | false=>exact cD h q
 | true=>exact d9 h q
def zp1 (t1:Bool)(h:Heap)(l1:Addr):Heap:=h.push (qE t1 l1)
def zp2 (t1 t2:Bool)(h:Heap)(l1 l2:Addr):Heap:=(zp1 t1 h l1).push (qE t2 l2)
def zp3 (t1 t2:Bool)(h:Heap)(l1 l2:Addr):Heap:=(zp2 t1 t2 h l1 l2).push { cls:= .type "tuple",data:= .seq #[.ref h.objs.size, .ref (zp1 t1 h l1).objs.size]}
def zp4 (t1 t2:Bool)(h:Heap)(l1 l2:Addr):Heap:=(zp3 t1 t2 h l1 l2).push { cls:= .type "tuple",data:= .seq #[.none, .none]}
def zp5 (t1 t2:Bool)(h:Heap)(l1 l2:Addr):Heap:=(zp4 t1 t2 h l1 l2).push { cls:= .type "zip",data:= .fields #[.none, .bool false, .bool false, .ref (zp2 t1 t2 h l1 l2).objs.size, .ref (zp3 t1 t2 h l1 l2).objs.size]}
theorem jHP (t1 t2:Bool)(l1 l2:Addr)(xs ys:Array Value):
  Meets (Builtin.«zip.__new__» ⟨[.type "zip", .ref l1, .ref l2],[]⟩) (fun _ R s=>ObAt t1 s.heap l1 xs/\ObAt t2 s.heap l2 ys/\R (.ok (.ret (.ref (zp4 t1 t2 s.heap l1 l2).objs.size))) { s with heap:=zp5 t1 t2 s.heap l1 l2}):=
 .of_wp fun prog w A R s h=>by
  obtain⟨hp,g,d,tk,os⟩:=s
  obtain⟨a1,a2,q⟩:=h
  have sub:=sub_zip
  have e1:ObAt t1 (Shared.heap ⟨hp,g,d,tk,os⟩) l1 xs:=a1
  have e2:ObAt t2 (Shared.heap ⟨hp.push (qE t1 l1),g,d,tk,os⟩) l2 ys:=ObAt.push a2 _
  wp_walk using jBS e1,jBS e2
  exact⟨_,rfl,q⟩
theorem ItAt.new (tp:Bool){h:Heap}{it a:Addr}(e:h.get? it=some (qE tp a)):ItAt tp h it a 0:=by
 cases tp with
 | false=>exact⟨_,e,rfl,rfl⟩
 | true=>exact⟨_,e,rfl,rfl⟩
theorem jKP {prog:Program}{w:World}{A:Around}{E:Value->Shared->Prop}{s:Shared}{t1 t2:Bool}{l1 l2:Addr}{xs ys:Array Value}{Q:Value->Shared->Prop}(a1:ObAt t1 s.heap l1 xs)(a2:ObAt t2 s.heap l2 ys)
  (k:∀ h',IsZip h' (s.heap.objs.size+4) (s.heap.objs.size+2) (s.heap.objs.size+3) .none->IsPair h' (s.heap.objs.size+2) (.ref s.heap.objs.size) (.ref (s.heap.objs.size+1))->
   IsPair h' (s.heap.objs.size+3) .none .none->ItAt t1 h' s.heap.objs.size l1 0->ItAt t2 h' (s.heap.objs.size+1) l2 0->(∀ c o,s.heap.get? c=some o->h'.get? c=some o)->Q (.ref (s.heap.objs.size+4)) { s with heap:=h'}):
  wpAny (model prog w) A (call (.type "zip") [.ref l1, .ref l2]) Q E s:=by
 refine callType_new F.called_zip (by decide) (F.typeCall_zip_2 _ _) (F.newCall_zip_2 _ _) (fun obj=>F.args_object_init_3 obj _ _) F.entry_zip_new (jHP t1 t2 l1 l2 xs ys) ⟨a1,a2,?_⟩
 have z1:(zp1 t1 s.heap l1).objs.size=s.heap.objs.size+1:=bf ..
 have z2:(zp2 t1 t2 s.heap l1 l2).objs.size=s.heap.objs.size+2:=(bf ..).trans (bP (· +1) z1)
 have z3:(zp3 t1 t2 s.heap l1 l2).objs.size=s.heap.objs.size+3:=(bf ..).trans (bP (· +1) z2)
 have z4:(zp4 t1 t2 s.heap l1 l2).objs.size=s.heap.objs.size+4:=(bf ..).trans (bP (· +1) z3)
 have y5:(zp5 t1 t2 s.heap l1 l2).get? (zp4 t1 t2 s.heap l1 l2).objs.size=some { cls:= .type "zip",data:= .fields #[.none, .bool false, .bool false, .ref (zp2 t1 t2 s.heap l1 l2).objs.size, .ref (zp3 t1 t2 s.heap l1 l2).objs.size]} :=ak _ rfl
 have y4:(zp5 t1 t2 s.heap l1 l2).get? (zp3 t1 t2 s.heap l1 l2).objs.size=some { cls:= .type "tuple",data:= .seq #[.none, .none]} :=ae _ (ak _ rfl)
 have y3:(zp5 t1 t2 s.heap l1 l2).get? (zp2 t1 t2 s.heap l1 l2).objs.size=some { cls:= .type "tuple",data:= .seq #[.ref s.heap.objs.size, .ref (zp1 t1 s.heap l1).objs.size]} :=ae _ (ae _ (ak _ rfl))
 have y2:(zp5 t1 t2 s.heap l1 l2).get? (zp1 t1 s.heap l1).objs.size=some (qE t2 l2):=ae _ (ae _ (ae _ (ak _ (jBU _ _))))
 have y1:(zp5 t1 t2 s.heap l1 l2).get? s.heap.objs.size=some (qE t1 l1):=ae _ (ae _ (ae _ (ae _ (ak _ (jBU _ _)))))
 have up:∀ c o,s.heap.get? c=some o->(zp5 t1 t2 s.heap l1 l2).get? c=some o:=fun c o e=>ae _ (ae _ (ae _ (ae _ (ae _ e))))
 rw[z2,z3,z4] at y5
 rw[z1,z2] at y3
 rw[z3] at y4
 rw[z1] at y2
 show _/\_
 rw[z4]
 exact⟨⟨_,y5,rfl⟩,k _ y5 y3 y4 (.new t1 y1) (.new t2 y2) up⟩
section
variable {X:Cx}
def Sq (tp:Bool)(K:W.Frag)(H:Hp)(a:Addr)(xs:List V):Prop:=match tp with
 | false=>SqL K H a xs
 | true=>SqT K H a xs
theorem Inv.sq {X:Cx}{pins:List (Addr×Obj)}{σ:St}{H:Hp}{s:Shared}{tp:Bool}{a:Addr}{xs:List V}(I:Inv X pins σ H s)(h:Sq tp X.K H a xs):∃ its:List Value,Vals xs its/\ObAt tp s.heap a its.toArray/\xs.length<=sizeLine:=by
 cases tp with
 | false=>
  obtain⟨its,r,p,z⟩:=I.list h
  exact⟨its,r,p.isList,z⟩
 | true=>exact I.tuple h
theorem Inv.sq_inj {X:Cx}{pins:List (Addr×Obj)}{σ:St}{H:Hp}{s:Shared}{tp:Bool}{a:Addr}{xs ys:List V}(I:Inv X pins σ H s)(h:Sq tp X.K H a xs)(h':Sq tp X.K H a ys):xs=ys:=by
 cases tp with
 | false=>exact I.list_inj h h'
 | true=>exact I.tuple_inj h h'
def Itz (t1 t2:Bool)(K:W.Frag)(l1 l2:Addr):It:=
 ⟨fun i H=>∃ xs ys x y,Sq t1 K H l1 xs/\Sq t2 K H l2 ys/\xs[i]?=some x/\ys[i]?=some y,
  fun i H v H'=>∃ T x y,H T=none/\v= .ref T/\H'=upd H T (.tup [x,y])/\∀ xs ys,Sq t1 K H l1 xs->Sq t2 K H l2 ys->xs[i]?=some x/\ys[i]?=some y,
  fun i H=>∃ xs ys,Sq t1 K H l1 xs/\Sq t2 K H l2 ys/\(xs.length<=i\/ys.length<=i)⟩
theorem jL5 {P:Program}{w:World}{K:W.Frag}{elts:List Expr}{x1:Nat}{tp:Pos}(t1 t2:Bool)(l1 l2 z TI TO i1 i2:Addr)(D:ZipApart z TI TO i1 i2 l1 l2):
  Turn P w K (.Tuple elts x1 tp) (Itz t1 t2 K l1 l2) [z,TO,i1,i2,TI] z (fun i h=>IsZip h z TI TO .none/\IsPair h TI (.ref i1) (.ref i2)/\(∃ a b,IsPair h TO a b)/\ItAt t1 h i1 l1 i/\ItAt t2 h i2 l2 i) where
 mem:=by simp
 obj:=fun i h st b hb=>by
  obtain⟨hz,hTI,⟨a,c,hTO⟩,y1,y2⟩:=st
  simp only [aC,bg,cH] at hb
  rcases hb with rfl | rfl | rfl | rfl | rfl
  ·exact⟨_,hz,fun v q=>by cases q⟩
  ·exact⟨_,hTO,fun v q=>by cases q⟩
  ·exact y1.obj
  ·exact y2.obj
  ·exact⟨_,hTI,fun v q=>by cases q⟩
 keep:=fun i h h' st k=>by
  obtain⟨hz,hTI,⟨a,c,hTO⟩,h1,h2⟩:=st
  exact⟨k z (by simp) _ hz,k TI (by simp) _ hTI,⟨a,c,k TO (by simp) _ hTO⟩,h1.at fun o e=>k i1 (by simp) o e,h2.at fun o e=>k i2 (by simp) o e⟩
 item:=by
  intro X hP hw hK hc i pins s σ H E I hf st hg
  subst hP hw hK
  obtain⟨xs,ys,x,y,hq1,hq2,hx,hy⟩:=hg
  obtain⟨hz,hTI,⟨a,c,hTO⟩,h1,h2⟩:=st
  obtain⟨its1,r1,p1,_⟩:=I.sq hq1
  obtain⟨its2,r2,p2,_⟩:=I.sq hq2
  obtain⟨u,hu,ru⟩:=r1.get hx
  obtain⟨v,hv,rv⟩:=r2.get hy
  refine jFO D hz hTI hTO h1 h2 p1 p2 (x:=u) (y:=v) (by simpa using hu) (by simpa using hv) fun h' a1 a2 a3 a4 a5 a6 a7=>?_
  refine⟨_,rfl,wpAny_letOwnedTupleGo_zip (s:= { s with heap:=h'}) a1 fun h'' b1 sb=>?_⟩
  have fresh:H s.heap.objs.size=none:=I.fresh
  have nch:∀ b∈([z,TO,i1,i2]:List Addr),FpOk X pins H b:=fun b hb=>hf b (by
   simp only [aC,bg,cH] at hb ⊢
   rcases hb with q | q | q | q
   ·exact .inl q
   ·exact .inr (.inl q)
   ·exact .inr (.inr (.inl q))
   ·exact .inr (.inr (.inr (.inl q))))
  have ntr:∀ b o,H b=some o->b∉([z,TO,i1,i2]:List Addr):=fun b o e hb=>by
   have:=(nch b hb).1
   rw[e] at this; cases this
  have kp:∀ b o,b∉([z,TO,i1,i2]:List Addr)->s.heap.get? b=some o->h''.get? b=some o:=fun b o hb e=>by
   simp only [aC,bg,cH,gT] at hb
   exact(sb.2 b hb.1).trans (a7 b o hb.1 hb.2.1 hb.2.2.1 hb.2.2.2 e)
  have nz:s.heap.objs.size≠z:=bN (am hz)
  have hT2:h''.get? s.heap.objs.size=some { cls:= .type "tuple",data:= .seq #[u,v]} :=(sb.2 _ nz).trans a5
  have I2:Inv X pins σ (upd H s.heap.objs.size (.tup [x,y])) { s with heap:=h''} :=by
   refine I.step (g':=s.gens) (d':=s.drawn) (t':=s.toks) (ch:=[z,TO,i1,i2]) (fun b hb=>?_) (fun b o _ _ hb e _=>kp b o hb e) (fun b o _ _ hb e _=>⟨o.slots,kp b o hb e⟩)
    (fun b o _ e n=>by rw[j9 (aL (am e))]; exact n) (fun b o hb e=>⟨o,kp b o hb e⟩) (fun b ws e=>by rw[j9 (jA e fresh)]; exact e) (fun b o ws e=>by rw[j9 (jA e fresh)]; exact e)
    (fun b ps e=>⟨#[],by rw[j9 (jA e fresh),e]; simp⟩) (fun m hm=>?_) (fun b o e=>?_) I.bare
   ·obtain⟨f0,f1,f2,f3,f4,f5⟩:=nch b hb
    exact⟨f3,f1,f4,f5⟩
   ·obtain⟨o,es,ep,ho,r⟩:=hm
    exact⟨o,es,ep,kp _ o (fun hb=>(nch _ hb).2.1 rfl) ho,r⟩
   ·by_cases hb:b=s.heap.objs.size
    ·subst hb
     rw[j4] at e
     cases e
     exact⟨by rw[cL]; show 2<=_; decide,[u,v], .cons ru (.cons rv .nil),0,hT2⟩
    ·rw[j9 hb] at e
     refine(I.hok b o e).stay (fun c w hc q=>kp c w ?_ q) (fun c q=>by rw[j9 (jA q fresh)]; exact q) (fun c ws q=>by rw[j9 (jA q fresh)]; exact q)
     rcases hc with rfl | hc
     ·exact ntr _ _ e
     ·exact ntr _ _ hc
  refine⟨.ref s.heap.objs.size,_,I2,rfl,⟨_,x,y,fresh,rfl,rfl,fun xs' ys' q1 q2=>⟨by rw[I.sq_inj q1 hq1]; exact hx,by rw[I.sq_inj q2 hq2]; exact hy⟩⟩,⟨b1,?_,⟨u,v,?_⟩,?_,?_⟩,fun b hb=>?_⟩
  ·exact kp TI _ (by simp [D.TIz,D.TITO,D.TIi1,D.TIi2]) hTI
  ·exact(sb.2 TO D.TOz).trans a2
  ·exact a3.at fun o e=>(sb.2 i1 D.i1z).trans e
  ·exact a4.at fun o e=>(sb.2 i2 D.i2z).trans e
  ·rw[j9 (fun q=>by
    obtain⟨o,eo⟩:∃ o,s.heap.get? b=some o:=by
     simp only [aC,bg,cH] at hb
     rcases hb with rfl | rfl | rfl | rfl | rfl
     ·exact⟨_,hz⟩
     ·exact⟨_,hTO⟩
     ·obtain⟨o,e,_⟩:=h1.obj; exact⟨o,e⟩
     ·obtain⟨o,e,_⟩:=h2.obj; exact⟨o,e⟩
     ·exact⟨_,hTI⟩
    exact absurd (am eo) (by rw[q]; exact bc _))]
   exact(hf b hb).1
 done:=by
  intro X hP hw hK hc i pins s σ H E I hf st hg
  subst hP hw hK
  obtain⟨xs,ys,hq1,hq2,hend⟩:=hg
  obtain⟨hz,hTI,⟨a,c,hTO⟩,h1,h2⟩:=st
  obtain⟨its1,r1,p1,_⟩:=I.sq hq1
  obtain⟨its2,r2,p2,_⟩:=I.sq hq2
  have e1:=r1.length
  have e2:=r2.length
  refine jFP (I.ok.hd hc) D hz hTI hTO h1 h2 p1 p2 (by
   rcases hend with q | q
   ·exact .inl (by simp; omega)
   ·exact .inr (by simp; omega)) fun h' kp=>⟨rfl,?_⟩
  have nch:∀ b∈([z,TO,i1,i2]:List Addr),FpOk X pins H b:=fun b hb=>hf b (by
   simp only [aC,bg,cH] at hb ⊢
   rcases hb with q | q | q | q
   ·exact .inl q
   ·exact .inr (.inl q)
   ·exact .inr (.inr (.inl q))
   ·exact .inr (.inr (.inr (.inl q))))
  have kp2:∀ b o,b∉([z,TO,i1,i2]:List Addr)->s.heap.get? b=some o->h'.get? b=some o:=fun b o hb e=>by
   simp only [aC,bg,cH,gT] at hb
   exact kp b o hb.1 hb.2.1 hb.2.2.1 hb.2.2.2 e
  have ntr:∀ b o,H b=some o->b∉([z,TO,i1,i2]:List Addr):=fun b o e hb=>by
   have:=(nch b hb).1
   rw[e] at this; cases this
  refine I.step (g':=s.gens) (d':=s.drawn) (t':=s.toks) (ch:=[z,TO,i1,i2]) (fun b hb=>?_) (fun b o _ _ hb e _=>kp2 b o hb e) (fun b o _ _ hb e _=>⟨o.slots,kp2 b o hb e⟩)
   (fun b o _ e n=>n) (fun b o hb e=>⟨o,kp2 b o hb e⟩) (fun b ws e=>e) (fun b o ws e=>e) (fun b ps e=>⟨#[],by rw[e]; simp⟩) (fun m hm=>?_) (fun b o e=>?_) I.bare
  ·obtain⟨f0,f1,f2,f3,f4,f5⟩:=nch b hb
   exact⟨f3,f1,f4,f5⟩
  ·obtain⟨o,es,ep,ho,r⟩:=hm
   exact⟨o,es,ep,kp2 _ o (fun hb=>(nch _ hb).2.1 rfl) ho,r⟩
  ·refine(I.hok b o e).stay (fun c w hc q=>kp2 c w ?_ q) (fun _ q=>q) fun _ _ q=>q
   rcases hc with rfl | hc
   ·exact ntr _ _ e
   ·exact ntr _ _ hc
 self:=fun _ _ _ _ _ st h=>wpAny_pyIter_zip st.1 h
def iZip (K:W.Frag)(ta:TA):TI:=fun σ H R=>ta σ H fun vs H1=>∃ t1 t2 l1 l2,vs=[.ref l1, .ref l2]/\(∃ xs,Sq t1 K H1 l1 xs)/\(∃ ys,Sq t2 K H1 l2 ys)/\R (Itz t1 t2 K l1 l2) H1
theorem jPE {a b:Expr}{ta:TA}{p pos:Pos}{elts:List Expr}{x1:Nat}{tp:Pos}(hg:Gl X "zip")(hm:X.mg "zip" =none)(ha:PA X [a,b] ta)(hv:bootBuiltins "zip" =some (.type "zip"):=by decide+kernel)
  (he:starEach [a,b] X.env=(false,eval a X.env)::starEach [b] X.env:=by rfl) (hpl:(backTo pos (starEach [b] X.env)).any (·.1)=false:=by rfl):
  PI X (.Tuple elts x1 tp) (.Call (.Name "zip" p) [a,b] [] pos) (iZip X.K ta):=by
 intro pins s σ H R I h
 refine Call_ (jCO I hg hm hv (bQ (thn (ha pos pins s σ H _ I h) fun us s1 ⟨vs,H1,I1,r1,q1⟩=>?_) he hpl))
 obtain⟨t1,t2,l1,l2,rfl,⟨xs,hq1⟩,⟨ys,hq2⟩,q⟩:=q1
 obtain⟨u,v,rfl,ru,rv⟩:=r1.two
 cases ru
 cases rv
 obtain⟨its1,_,p1,_⟩:=I1.sq hq1
 obtain⟨its2,_,p2,_⟩:=I1.sq hq2
 have lt1:l1<s1.heap.objs.size:=p1.lt
 have lt2:l2<s1.heap.objs.size:=p2.lt
 refine jKP p1 p2 fun h' a1 a2 a3 a4 a5 kp=>?_
 have I2:Inv X pins σ H1 { s1 with heap:=h'} :=I1.kept (t':=s1.toks) kp
 have D:ZipApart (s1.heap.objs.size+4) (s1.heap.objs.size+2) (s1.heap.objs.size+3) s1.heap.objs.size (s1.heap.objs.size+1) l1 l2:=zipApart_new lt1 lt2
 refine wpAny_pyIter_zip a1 ⟨s1.heap.objs.size+4,[s1.heap.objs.size+4,s1.heap.objs.size+3,s1.heap.objs.size,s1.heap.objs.size+1,s1.heap.objs.size+2],_,Itz t1 t2 X.K l1 l2,H1,rfl,I2,jL5 t1 t2 l1 l2 _ _ _ _ _ D,⟨a1,a2,⟨_,_,a3⟩,a4,a5⟩,fun b hb=>?_,q⟩
 have hge:s1.heap.objs.size<=b:=by
  simp only [aC,bg,cH] at hb
  rcases hb with rfl | rfl | rfl | rfl | rfl
  ·exact dc _ 4
  ·exact dc _ 3
  ·exact af _
  ·exact dc _ 1
  ·exact dc _ 2
 exact I1.fpOk hge (I1.hok.fresh hge)
end
structure JE (X:Cx)(e:Expr)(t:TE):Prop where
 h:PE X e t
structure JA (X:Cx)(es:List Expr)(t:TA):Prop where
 h:PA X es t
structure JT (X:Cx)(e:Expr)(t:TT):Prop where
 h:PT X e t
structure JTs (X:Cx)(e:List Expr)(t:TT):Prop where
 h:PTs X e t
structure JS (X:Cx)(e:Stmt)(t:TS):Prop where
 h:PS X e t
structure JSs (X:Cx)(e:List Stmt)(t:TS):Prop where
 h:PSs X e t
structure JG (X:Cx)(e:Expr)(t:TG):Prop where
 h:PG X e t
structure JGs (X:Cx)(e:List Expr)(t:TGs):Prop where
 h:PGs X e t
structure JI (X:Cx)(tg e:Expr)(t:TI):Prop where
 h:PI X tg e t
structure JO (X:Cx)(e:Option Expr)(t:TO):Prop where
 h:PO X e t
structure Loc1 (X:Cx)(x:Str):Prop where
 a:Loc X.env.scope x
 b:X.fn x=true\/X.env.scope.names.lookup x=some .local
structure Vis1 (X:Cx)(x:Str):Prop where
 a:Vis X.env.scope x
structure Gl1 (X:Cx)(x:Str):Prop where
 a:Gl X x
section
variable {a b:Expr}{pos:Pos}{xs:List Expr}{o:Option Expr}{l:Nat}{env:Env}
structure SwOk (e:Expr)(o:Option Expr):Prop where
 h:∀ l env,swapsWith e o l env=pure false
theorem jBY {op:Operator} :SwOk (.BinOp a op b pos) o:=⟨fun _ _=>rfl⟩
theorem jO {kw:List Keyword} :SwOk (.Call a xs kw pos) o:=⟨fun _ _=>rfl⟩
theorem jCB:SwOk (.Subscript a b pos) o:=⟨fun _ _=>rfl⟩
theorem jMI {x1} :SwOk (.Tuple xs x1 pos) o:=⟨fun _ _=>rfl⟩
theorem jCC:SwOk (.List xs pos) o:=⟨fun _ _=>rfl⟩
theorem jBC {c k} :SwOk (.Constant c k pos) o:=⟨fun _ _=>rfl⟩
theorem jP7 {op:Operator} :jBB (.BinOp a op b pos):=fun _ _=>rfl
theorem jFQ {kw:List Keyword} :jBB (.Call a xs kw pos):=fun _ _=>rfl
theorem jC {i:Int}{k} :jBB (.Constant (.int i) k pos):=fun _ _=>rfl
theorem kL {x:Str} :jBB (.Name x pos):=fun _ _=>rfl
structure FoOk (iter:Expr):Prop where
 h:∀ env x,foldedSetIterable iter env x=pure x
theorem kR {kw:List Keyword} :FoOk (.Call a xs kw pos):=⟨fun _ _=>rfl⟩
theorem jAT {x:Str} :FoOk (.Name x pos):=⟨fun _ _=>rfl⟩
theorem qA:FoOk (.Subscript a b pos):=⟨fun _ _=>rfl⟩
structure TvOk (e:Expr):Prop where
 h:∀ env whole,isTrue e env whole=(do let v <- whole; standAt e.pos; holding [v] (truthy v))
theorem yN {kw:List Keyword} :TvOk (.Call a xs kw pos):=⟨fun _ _=>rfl⟩
end
section
variable {X:Cx}{a b e o:Expr}{ta tb te to:TE}{es:List Expr}{t:TA}{pos p p2 cpos apos:Pos}{x:Str}{T:String}{id:String}
theorem jv (i:Nat)(hN:X.N[i]?=some x)(hv:Vis1 X x)(hd:(x==("__debug__" :Str))=false:=by decide)(hcd:(x==("__classdict__" :Str))=false:=by decide):JE X (.Name x pos) (tVar i):=⟨jMQ hN hv.a hd hcd⟩
theorem j6 {i j} :JE X (.Constant (.int i) j pos) (tC (.int i)):=⟨jS⟩
theorem je_bl {i j} :JE X (.Constant (.bool i) j pos) (tC (.bl i)):=⟨pe_bl⟩
theorem jGV {j} :JE X (.Constant .none j pos) (tC .non):=⟨jPL⟩
theorem jGT {i j} :JE X (.Constant (.str i) j pos) (tC (.str i)):=⟨jPI⟩
theorem jCS {v:V}{u:Value}(hg:Gl1 X x)(hm:X.mg x=none)(hv:bootBuiltins x=some u)(r:RelV v u)(hn:x≠ "__name__" :=by decide)(hd:(x==("__debug__" :Str))=false:=by decide):JE X (.Name x pos) (tC v):=⟨jNZ hg.a hm hv r hn hd⟩
theorem jX {op:Operator}{r:R2}(ho:OpR X (binaryOp op) r)(ha:JE X a ta)(hb:JE X b tb):JE X (.BinOp a op b pos) (tOp r ta tb):=⟨kX ho ha.h hb.h⟩
theorem je_un {op:UnaryOp}{r:V->Hp->VK->Prop}(ho:UnR X (unaryOp op) r)(ha:JE X a ta):JE X (.UnaryOp op a pos) (tUn r ta):=⟨pe_un ho ha.h⟩
theorem jQD (ha:JE X a ta):JE X (.UnaryOp .Not a pos) (tNotV ta):=⟨jPK ha.h⟩
theorem yI {op:CmpOp}{r:R2}(ho:OpR X (compareOp op) r)(ha:JE X a ta)(hb:JE X b tb)(hm:behindInMarks op b=false):JE X (.Compare a [op] [b] pos) (tOp r ta tb):=⟨jNW ho ha.h hb.h hm⟩
theorem jDD {rest:List Expr}(ha:JE X a ta)(hb:JE X (.BoolOp .And (b::rest) pos) tb):JE X (.BoolOp .And (a::b::rest) pos) (tAndV ta tb):=⟨jPN ha.h hb.h⟩
theorem jDC {op}(ha:JE X a ta):JE X (.BoolOp op [a] pos) ta:=⟨jPJ ha.h⟩
theorem jJV (h:JA X es t):JE X (.List es pos) (tLst t):=⟨jGM h.h⟩
theorem jGS {x1}(h:JA X es t):JE X (.Tuple es x1 pos) (tTup t):=⟨jPH h.h⟩
theorem jGU {lo hi:Option Expr}{tl th:TO}{r:V->Option Int->Option Int->Hp->VK->Prop}(hr:SlR X r)(he:JE X e te)(hl:JO X lo tl)(hu:JO X hi th):JE X (.Subscript e (.Slice lo hi none p2) pos) (tSl r te tl th):=⟨jLF hr he.h hl.h hu.h⟩
theorem jE {r:R2}(hr:IxR X r)(ha:JE X a ta)(hb:JE X b tb)(hs:jBB b):JE X (.Subscript a b pos) (tOp r ta tb):=⟨pe_ix hr ha.h hb.h hs⟩
theorem kN {T}{r:List V->Hp->VK->Prop}(hc:yJ X (.type T) r)(hg:Gl1 X x)(hm:X.mg x=none)(hv:bootBuiltins x=some (.type T))(ha:JA X (e::es) t)(he:starEach (e::es) X.env=(false,eval e X.env)::starEach es X.env)(hn:x≠ "__name__" :=by decide)(hdb:(x==("__debug__" :Str))=false:=by decide)
  (hpl:(backTo pos (starEach es X.env)).any (·.1)=false:=by rfl):JE X (.Call (.Name x p) (e::es) [] pos) (tCB r t):=⟨jBG hc hg.a hm hv ha.h hn hdb he hpl⟩
theorem jN {id}{r:List V->Hp->VK->Prop}(hc:yJ X (.builtin id) r)(hg:Gl1 X x)(hm:X.mg x=none)(hv:bootBuiltins x=some (.builtin id))(ha:JA X (e::es) t)(he:starEach (e::es) X.env=(false,eval e X.env)::starEach es X.env)(hn:x≠ "__name__" :=by decide)(hdb:(x==("__debug__" :Str))=false:=by decide)
  (hpl:(backTo pos (starEach es X.env)).any (·.1)=false:=by rfl):JE X (.Call (.Name x p) (e::es) [] pos) (tCB r t):=⟨jDW hc hg.a hm hv ha.h hn hdb he hpl⟩
theorem j5:JA X [] tNil:=⟨yK⟩
theorem j0 (ha:JE X e te)(hr:JA X es t)(hs:starEach (e::es) X.env=(false,eval e X.env)::starEach es X.env):JA X (e::es) (tCons te t):=⟨kI ha.h hr.h hs⟩
theorem jJ {op:CmpOp}{r:R2}(ho:OpR X (compareOp op) r)(ha:JE X a ta)(hb:JE X b tb)(hm:behindInMarks op b=false):JT X (.Compare a [op] [b] pos) (tTest (tOp r ta tb)):=⟨jCH ho ha.h hb.h hm⟩
theorem q0 (h:JE X e te)(he:TvOk e):JT X e (tB te):=⟨jPA h.h (he.h _)⟩
theorem jBJ {tA:TT}(ha:JT X a tA):JT X (.UnaryOp .Not a pos) (tNot tA):=⟨jPB ha.h⟩
theorem kP:JTs X [] yG:=⟨jIY⟩
theorem jB9 {t:TT}(h:JT X e t):JTs X [e] t:=⟨jIX h.h⟩
theorem jK {i:Nat}(hN:X.N.Nodup)(hi:X.N[i]?=some x)(hx:Loc1 X x):JG X (.Name x pos) (kS i):=⟨jDV hN hi hx.a hx.b⟩
theorem kT {tg:Expr}(hg:Gl1 X "range")(hm:X.mg "range" =none)(ha:JA X [a] t)(hs:starEach [a] X.env=(false,eval a X.env)::starEach [] X.env):JI X tg (.Call (.Name "range" p) [a] [] pos) (iRng1 t):=⟨jBF hg.a hm ha.h hs⟩
theorem jAQ {tg:Expr}(hl:JE X a ta):JI X tg a (iList X.K ta):=⟨jNR hl.h⟩
theorem yT {tg:Expr}(hl:JE X a ta):JI X tg a (iTup X.K ta):=⟨jPF hl.h⟩
theorem jMU {elts:List Expr}{x1:Nat}{tp:Pos}(hg:Gl1 X "zip")(hm:X.mg "zip" =none)(ha:JA X [a,b] t)(he:starEach [a,b] X.env=(false,eval a X.env)::starEach [b] X.env)(hv:bootBuiltins "zip" =some (.type "zip"):=by decide+kernel)
  (hpl:(backTo pos (starEach [b] X.env)).any (·.1)=false:=by rfl):JI X (.Tuple elts x1 tp) (.Call (.Name "zip" p) [a,b] [] pos) (iZip X.K t):=⟨jPE hg.a hm ha.h hv he hpl⟩
theorem jJQ:JO X none jIE:=⟨jNP⟩
theorem jJP (h:JE X e te):JO X (some e) (tPart te):=⟨jNO h.h⟩
theorem jF {i:Nat}{pos':Pos}(hN:X.N.Nodup)(hi:X.N[i]?=some x)(hx:Loc1 X x)(he:JE X e te)(hs:SwOk e (some (.Name x pos'))):JS X (.Assign [.Name x pos'] e pos) (tAsg te (kS i)):=⟨yZ hN hi hx.a he.h (hs.h _ _) hx.b⟩
theorem jV (he:JE X e te):JS X (.Return (some e) pos) (tRet te):=⟨jC0 he.h⟩
theorem jBA (he:JE X e te)(hs:SwOk e none):JS X (.Expr e pos) (tDrop te):=⟨jNN he.h (hs.h _ _)⟩
theorem kG:JSs X [] tNext:=⟨jDT⟩
theorem jD {st:Stmt}{t:TS}(h1:JS X st t):JSs X [st] t:=⟨jAK h1.h⟩
theorem j7 {st:Stmt}{rest:List Stmt}{t u:TS}(h1:JS X st t)(h2:JSs X rest u):JSs X (st::rest) (tSeq t u):=⟨yA h1.h h2.h⟩
theorem yE {c:Expr}{a b:List Stmt}{tc:TT}{t u:TS}(hc:JT X c tc)(ha:JSs X a t)(hb:JSs X b u):JS X (.If c a b pos) (tIfS tc t u):=⟨ps_if hc.h ha.h hb.h⟩
theorem yW {tg iter:Expr}{body:List Stmt}{wi:TI}{g:TG}{tb:TS}(hp:PassesOwn (model X.prog X.w) X.A X.env X.xe)(hc:X.calm=true)(hi:JI X tg iter wi)(hg:JG X tg g)(hb:JSs X body tb)(hs:FoOk iter):JS X (.For tg iter body [] pos) (tFor wi g tb):=⟨jMM hp hc hi.h hg.h hb.h (hs.h _)⟩
theorem je_bm {T:String}{name:Str}{r}(pa:PlainAttrs T)(slot:Slot T name id)(hty:typeOf (.builtin id)=pure (.type "method_descriptor"))(hm:MtR X id r)(ho:JE X o to)(ha:JA X (e::es) t)
  (hs:starEach (e::es) X.env=(false,eval e X.env)::starEach es X.env)
  (hbase:attributeBase o name X.env (eval o X.env)=eval o X.env:=by rfl)
  (hfew:((backTo cpos (starEach (e::es) X.env)).all (fun x=>!x.1)&&(backToKw cpos (keywordEach [] X.env)).all (fun x=>x.1.isSome)
   &&decide ((e::es).length+([]:List Keyword).length+(if ([]:List Keyword).isEmpty then 0 else 1)<30))=true:=by rfl)
  (hline:(apos.endLine==cpos.line)=true:=by rfl) (hplain:(backTo cpos (starEach es X.env)).any (·.1)=false:=by rfl):
  JE X (.Call (.Attribute o name apos) (e::es) [] cpos) (tBM X.K T r to t):=⟨pe_bm pa slot hty hm ho.h ha.h hbase hfew hline hs hplain⟩
theorem kQ {tg iter elt:Expr}{ifs:List Expr}{sc:Scope}{wi:TI}{g:TG}{tt:TT}{m:List (Option Nat)}{Nc:List Str}(hc:X.calm=true)(hi:JI X tg iter wi)(hkind:sc.kind= .function)(hcell:∀ y∈sc.names,y.2≠ .cell)(hnames:∀ y∈sc.names,y.2= .local->sc.names.lookup y.1=some .local)
  (hfree:∀ y∈sc.names,y.2= .free->X.env.scope.names.lookup y.1=some .cell\/X.env.scope.names.lookup y.1=some .free) (hm:qB X sc Nc m)
  (hg:∀ cl C fp s H,JG (blk X sc cl C Nc fp s H) tg g) (ht:∀ cl C fp s H,JTs (blk X sc cl C Nc fp s H) ifs tt) (he:∀ cl C fp s H,JE (blk X sc cl C Nc fp s H) elt te)
  (hs:FoOk iter):JE X (.ListComp elt [⟨tg,iter,ifs,0⟩] sc pos) (tComp m wi g tt te):=⟨jFR hc hi.h hkind hcell hnames hfree hm (fun cl C fp s H=>(hg cl C fp s H).h) (fun cl C fp s H=>(ht cl C fp s H).h) (fun cl C fp s H=>(he cl C fp s H).h) (hs.h _)⟩
theorem jQE {p1 p2 p3 p4 p5 p6 p7:Pos}{k1 k2 k3 k4:Nat} :JE X (.BinOp (.BinOp (.Constant (.int 2) k1 p1) .Mult (.BinOp (.Constant (.int 10) k2 p2) .Pow (.Constant (.int 12) k3 p3) p4) p5) .Add (.Constant (.int 1) k4 p6) p7) (tC (.int 2000000000001)):=⟨jPM⟩
end
section
variable {P:Program}{w:World}{K:W.Frag}{mg:Str->Option Value}{base:Heap}{N:List Str}{qual:Str}{sc:Scope}{f:Addr}{cdv:Value}{A:Around}{outer:List Env}{s:Shared}{H:Hp}{E:XK}{x:Str}
theorem gl_d (h:sc.names.lookup x=some .globalImplicit):Gl1 (cxOf CX0 P w K mg base N qual sc f cdv A outer s H E).nox x:=⟨h⟩
theorem gD (h:sc.names.lookup x=some .globalImplicit:=by decide+kernel):Gl1 (cxOf CX0 P w K mg base N qual sc f cdv A outer s H E).nox x:=gl_d h
theorem vis_l (h:sc.names.lookup x=some .local):Vis1 (cxOf CX0 P w K mg base N qual sc f cdv A outer s H E).nox x:=⟨.inl h⟩
theorem vL (h:sc.names.lookup x=some .local:=by decide+kernel):Vis1 (cxOf CX0 P w K mg base N qual sc f cdv A outer s H E).nox x:=vis_l h
theorem vis_c (h:sc.names.lookup x=some .cell):Vis1 (cxOf CX0 P w K mg base N qual sc f cdv A outer s H E).nox x:=⟨.inr (.inl h)⟩
theorem vC (h:sc.names.lookup x=some .cell:=by decide+kernel):Vis1 (cxOf CX0 P w K mg base N qual sc f cdv A outer s H E).nox x:=vis_c h
end
theorem jA1 {env:Env}{x:Str}{k:NameKind}(hk:k≠ .free):∀ {l:List (Str×NameKind)},l.lookup x=some k->
  (l.map fun (n,k)=>if (k==NameKind.free&&env.scope.kind== .function&&env.kindOf n==some .cell) then (n,NameKind.cell) else (n,k)).lookup x=some k
 | [],h=>by cases h
 | (n,k')::r,h=>by
  have ih:= @jA1 env x k hk r
  rw[aK] at h
  rw[cF]
  dsimp only
  by_cases hb:(k'==NameKind.free&&env.scope.kind== .function&&env.kindOf n==some .cell)=true
  ·rw[ah hb,aK]
   cases hx:x==n with
   | true=>
    rw[hx] at h
    have e:k'=k:=ba h
    simp only [aR] at hb
    exact absurd (e.symm.trans (eq_of_beq hb.1.1)) hk
   | false=>rw[hx] at h; exact ih h
  ·rw[ai hb,aK]
   cases hx:x==n with
   | true=>rw[hx] at h; exact h
   | false=>rw[hx] at h; exact ih h
section
variable {X:Cx}{sc:Scope}{cl:List (Str×Addr)}{C:Addr}{Nc:List Str}{fp:List Addr}{s:Shared}{H:Hp}{x:Str}
theorem gl_b (h:sc.names.lookup x=some .globalImplicit):Gl1 (blk X sc cl C Nc fp s H) x:=⟨jA1 (by decide) h⟩
theorem kB (h:sc.names.lookup x=some .local):Vis1 (blk X sc cl C Nc fp s H) x:=⟨.inl (jA1 (by decide) h)⟩
theorem kJ (h:sc.names.lookup x=some .free):Vis1 (blk X sc cl C Nc fp s H) x:=⟨.inr (jA4 h)⟩
theorem yD (h:sc.names.lookup x=some .local):Loc1 (blk X sc cl C Nc fp s H) x:=⟨.inl (jA1 (by decide) h), .inr (jA1 (by decide) h)⟩
end
section
variable {P:Program}{w:World}{K:W.Frag}{mg:Str->Option Value}{base:Heap}{N:List Str}{qual:Str}{sc:Scope}{f:Addr}{cdv:Value}{A:Around}{outer:List Env}{s:Shared}{H:Hp}{E:XK}{x:Str}
theorem loc_l (h:sc.names.lookup x=some .local):Loc1 (cxOf CX0 P w K mg base N qual sc f cdv A outer s H E).nox x:=⟨.inl h, .inl rfl⟩
theorem lL (h:sc.names.lookup x=some .local:=by decide+kernel):Loc1 (cxOf CX0 P w K mg base N qual sc f cdv A outer s H E).nox x:=loc_l h
theorem yS (h:sc.names.lookup x=some .cell):Loc1 (cxOf CX0 P w K mg base N qual sc f cdv A outer s H E).nox x:=⟨.inr h, .inl rfl⟩
end
structure JW (X:Cx)(e:Expr)(t:TT):Prop where
 h:PW X e t
section
variable {X:Cx}{a b:Expr}{rest:List Expr}{pos:Pos}{tA tB':TT}
theorem jCP (ha:JT X a tA):JW X (.BoolOp .And [a] pos) tA:=⟨jNK ha.h⟩
theorem jDB (ha:JT X a tA):JW X (.BoolOp .Or [a] pos) tA:=⟨jP8 ha.h⟩
theorem jET (ha:JT X a tA)(hb:JW X (.BoolOp .And (b::rest) pos) tB'):JW X (.BoolOp .And (a::b::rest) pos) (tAnd tA tB'):=⟨jP9 ha.h hb.h⟩
theorem jw_or (ha:JT X a tA)(hb:JW X (.BoolOp .Or (b::rest) pos) tB'):JW X (.BoolOp .Or (a::b::rest) pos) (tOr tA tB'):=⟨pw_or ha.h hb.h⟩
theorem jt_w (h:JW X a tA):JT X a tA:=⟨h.h.pt⟩
theorem jJU:JGs X [] gNil:=⟨jNT⟩
structure AsOk (e:Expr):Prop where
 h:∀ es env,assignEach (e::es) env=(false,assign e env)::assignEach es env
theorem jE8 {x:Str} :AsOk (.Name x pos):=⟨fun _ _=>rfl⟩
theorem jC7 {e:Expr}{es:List Expr}{t:TG}{u:TGs}(h1:JG X e t)(h2:JGs X es u)(hs:AsOk e):JGs X (e::es) (gCons t u):=⟨jLE h1.h h2.h (by rw[hs.h]; rfl)⟩
theorem jMV {es:List Expr}{k:Nat}{t:TGs}{n:Nat}(hc:X.calm=true)(h:JGs X es t)(hn:(assignEach es X.env).length=n:=by rfl)(hst:(assignEach es X.env).findIdx? (·.1)=none:=by rfl):JG X (.Tuple es k pos) (gTup X.K n t):=⟨jPG hc h.h hn hst⟩
theorem jBT {op:CmpOp}{x:Str} :behindInMarks op (.Name x pos)=false:=by cases op <;> rfl
end
theorem jCR {X:Cx}{sc:Scope}{cl:List (Str×Addr)}{C:Addr}{Nc:List Str}{fp:List Addr}{s:Shared}{H:Hp}{x y:Str}{p1 p2 pos:Pos}{k:Nat}{i j:Nat}(hc:X.calm=true)(hN:Nc.Nodup)(hi:Nc[i]?=some x)(hj:Nc[j]?=some y)(hx:sc.names.lookup x=some .local)(hy:sc.names.lookup y=some .local):
  JG (blk X sc cl C Nc fp s H) (.Tuple [.Name x p1, .Name y p2] k pos) (gTup X.K 2 (gCons (kS i) (gCons (kS j) gNil))):=
 jMV (X:=blk X sc cl C Nc fp s H) hc (jC7 (jK hN hi (yD hx)) (jC7 (jK hN hj (yD hy)) jJU jE8) jE8)
section
variable {K:W.Frag}{m:List (Option Nat)}{g:TG}{tt:TT}{te:TE}{σ:St}{H1:Hp}{Q:VK}
theorem jH5 {t1 t2:Bool}{l1 l2:Addr}{xs ys:List V}(hn:xs.length<sizeLine)(Pv:Addr->Nat->St->Hp->List V->Prop)(h0:∀ D,H1 D=none->Pv D 0 (blkσ m σ) (upd H1 D (.lst [])) [])
  (hD:∀ D i σ' H' zs,H1 D=none->Pv D i σ' H' zs->Sq t1 K H' l1 xs/\Sq t2 K H' l2 ys/\H' D=some (.lst zs)/\zs.length<=i)
  (hs:∀ D i σ' H' zs x y T,H1 D=none->xs[i]?=some x->ys[i]?=some y->H' T=none->Pv D i σ' H' zs->g (.ref T) σ' (upd H' T (.tup [x,y])) fun σ2 H2=>tt σ2 H2 fun b H3=>if b=true then te σ2 H3 fun v H4=>H4 D=some (.lst zs)/\Pv D (i+1) σ2 (upd H4 D (.lst (zs++[v]))) (zs++[v]) else Pv D (i+1) σ2 H3 zs)
  (hd:∀ D σ' H' zs,H1 D=none->Pv D (min xs.length ys.length) σ' H' zs->Q (.ref D) H'):qN m g tt te σ Q (Itz t1 t2 K l1 l2) H1:=by
 intro D hDn
 refine⟨fun i k σ' H' zs=>k=min xs.length ys.length - i/\i<=min xs.length ys.length/\Pv D i σ' H' zs,⟨_,rfl,aW _,h0 D hDn⟩,?_⟩
 rintro i k σ' H' zs ⟨rfl,hi,p⟩
 obtain⟨s1,s2,q1,q2⟩:=hD D i σ' H' zs hDn p
 refine⟨q1,by omega,?_⟩
 by_cases hlt:i<min xs.length ys.length
 ·have a1:i<xs.length:=by omega
  have a2:i<ys.length:=by omega
  refine .inr ⟨⟨xs,ys,xs[i],ys[i],s1,s2,by simp [a1],by simp [a2]⟩,Pv D (i+1),fun σ2 H2 zs z=>⟨min xs.length ys.length - (i+1),by omega,rfl,hlt,z⟩,fun v H'' y=>?_⟩
  obtain⟨T,x,y,e1,e2,e3,e4⟩:=y
  subst e2 e3
  obtain⟨z1,z2⟩:=e4 xs ys s1 s2
  exact hs D i σ' _ zs x y T hDn z1 z2 e1 p
 ·have e:i=min xs.length ys.length:=by omega
  subst e
  exact .inl ⟨⟨xs,ys,s1,s2,by omega⟩,hd D σ' H' zs hDn p⟩
end
section
variable {X:Cx}{sc:Scope}{cl:List (Str×Addr)}{C:Addr}{Nc:List Str}{fp:List Addr}{s:Shared}{H:Hp}
theorem jCJ:OpR (blk X sc cl C Nc fp s H) (compareOp .In) (rIn X.K false):=jAP
theorem jHO:OpR (blk X sc cl C Nc fp s H) (compareOp .NotIn) (rIn X.K true):=jAN
theorem jAR:IxR (blk X sc cl C Nc fp s H) (rIxL X.K):=jU
theorem jAB:IxR (blk X sc cl C Nc fp s H) (rIxT X.K):=jG
end
def Ext (H H':Hp):Prop:=∀ b o,H b=some o->H' b=some o
theorem Ext.refl (H:Hp):Ext H H:=fun _ _ h=>h
theorem Ext.trans {H H1 H2:Hp}(a:Ext H H1)(b:Ext H1 H2):Ext H H2:=fun c o h=>b c o (a c o h)
theorem Ext.new {H H1:Hp}{l:Addr}(a:Ext H H1)(hl:H1 l=none)(o:HO):Ext H (upd H1 l o):=fun c u h=>by
 have:=a c u h
 rw[j9 (jA this hl)]
 exact this
theorem Ext.updNew {H H1:Hp}{l:Addr}(a:Ext H H1)(hl:H l=none)(o:HO):Ext H (upd H1 l o):=fun c u h=>by
 rw[j9 (jA h hl)]
 exact a c u h
def TupR (H:Hp)(xs:List V)(Q:VK):Prop:=∀ r H',H' r=some (.tup xs)->Ext H H'->Q (.ref r) H'
theorem TupR.new {H:Hp}{xs:List V}{Q:VK}(q:TupR H xs Q){p:Addr}(hp:H p=none):Q (.ref p) (upd H p (.tup xs)):=q p _ j4 ((Ext.refl H).new hp _)
theorem TupR.old {H:Hp}{xs:List V}{Q:VK}(q:TupR H xs Q){p:Addr}(hp:H p=some (.tup xs)):Q (.ref p) H:=q p H hp (Ext.refl H)
section
variable {X:Cx}
def rCatU:R2:=fun x y H Q=>∃ a b xs ys,x= .ref a/\y= .ref b/\H a=some (.tup xs)/\H b=some (.tup ys)/\xs.length+ys.length<=sizeLine/\TupR H (xs++ys) Q
theorem jJ3:OpR X (binaryOp .Add) rCatU:=by
 intro pins s σ H x y v u Q I rx ry h
 obtain⟨a,b,xs,ys,rfl,rfl,ha,hb,hz,q⟩:=h
 by_cases hx:xs=[]
 ·subst hx
  cases rx
  cases ry
  obtain⟨_,its,r1,n1,e1⟩:=I.hok a _ ha
  obtain⟨_,its2,r2,n2,e2⟩:=I.hok b _ hb
  cases r1
  exact concat_meets ⟨_,e1,rfl⟩ ⟨_,e2,rfl⟩ fg seq_tuple_add dz dr (dg _ _) (AutoSeq1.tuple___add___tuple_tuple_0 a _ n1 b its2.toArray n2 (by simp)) ⟨e1,e2, .ref b,H,I,rfl,q.old hb⟩
 ·refine jO2 pins s σ H _ _ v u Q I rx ry ⟨a,b,xs,ys,rfl,rfl,SqT.of ha,SqT.of hb,hx,hz,fun e=>?_,fun _ p hp=>q.new hp⟩
  subst e
  rw[cC] at q
  exact q.old ha
section
variable (l:Addr)(items:Array Value)(n:Nat)(x:Int)(u:Tok)(h1:¬ (decide (x< -(2 ^ 63)) || decide (x ≥ 2 ^ 63))=true)
include h1
end
theorem jJS {tg a b:Expr}{t:TA}{p pos:Pos}(hg:Gl1 X "range")(hm:X.mg "range" =none)(ha:JA X [a,b] t)(hs:starEach [a,b] X.env=(false,eval a X.env)::starEach [b] X.env)(hs2:starEach [b] X.env=(false,eval b X.env)::starEach [] X.env):
  JI X tg (.Call (.Name "range" p) [a,b] [] pos) (iRng2 t):=⟨jJ1 hg.a hm ha.h (by rw[hs,hs2]; rfl) hs2⟩
theorem jEU {tg e:Expr}{te:TE}{g:TG}{pos:Pos}(he:JE X e te)(hg:JG X tg g)(hs:swapsWithSole [tg] e pos.line X.env=pure false:=by rfl)(hw:swappedStores [tg] e X.env=pure none:=by rfl)
  (h1:(assignEach [tg] X.env).map (·.2)=[assign tg X.env]:=by rfl):JS X (.Assign [tg] e pos) (tAsg te g):=⟨jMN he.h hg.h hs hw h1⟩
end
section
variable {K:W.Frag}{m:List (Option Nat)}{g:TG}{tt:TT}{te:TE}{σ:St}{H1:Hp}{Q:VK}
theorem jBM {a:Addr}{xs:List V}(hn:xs.length<sizeLine)(Pv:Addr->Nat->St->Hp->List V->Prop)(h0:∀ D,H1 D=none->Pv D 0 (blkσ m σ) (upd H1 D (.lst [])) [])
  (hD:∀ D i σ' H' zs,H1 D=none->Pv D i σ' H' zs->H' a=some (.tup xs)/\H' D=some (.lst zs)/\zs.length<=i)
  (hs:∀ D i σ' H' zs x,H1 D=none->xs[i]?=some x->Pv D i σ' H' zs->g x σ' H' fun σ2 H2=>tt σ2 H2 fun b H3=>if b=true then te σ2 H3 fun v H4=>H4 D=some (.lst zs)/\Pv D (i+1) σ2 (upd H4 D (.lst (zs++[v]))) (zs++[v]) else Pv D (i+1) σ2 H3 zs)
  (hd:∀ D σ' H' zs,H1 D=none->Pv D xs.length σ' H' zs->Q (.ref D) H'):qN m g tt te σ Q (Itt K a) H1:=by
 intro D hDn
 refine⟨fun i k σ' H' zs=>k=xs.length - i/\i<=xs.length/\Pv D i σ' H' zs,⟨_,rfl,aW _,h0 D hDn⟩,?_⟩
 rintro i k σ' H' zs ⟨rfl,hi,p⟩
 obtain⟨s1,q1,q2⟩:=hD D i σ' H' zs hDn p
 refine⟨q1,by omega,?_⟩
 by_cases hlt:i<xs.length
 ·refine .inr ⟨⟨xs,xs[i],SqT.of s1,by simp [hlt]⟩,Pv D (i+1),fun σ2 H2 zs z=>⟨xs.length - (i+1),by omega,rfl,hlt,z⟩,fun v H'' y=>?_⟩
  obtain⟨e1,e2⟩:=y
  subst e1
  exact hs D i σ' _ zs v hDn (e2 xs (SqT.of s1)) p
 ·have e:i=xs.length:=by omega
  subst e
  exact .inl ⟨⟨xs,SqT.of s1,af _⟩,hd D σ' H' zs hDn p⟩
end
inductive Tr where
 | non
 | bl (b:Bool)
 | int (i:Int)
 | str (x:Str)
 | lst (ts:List Tr)
 | tup (ts:List Tr)
mutual
def TAt (H:Hp):Tr->V->Prop
 | .non,v=>v= .non
 | .bl b,v=>v= .bl b
 | .int i,v=>v= .int i
 | .str x,v=>v= .str x
 | .lst ts,v=>∃ a vs,v= .ref a/\H a=some (.lst vs)/\TsAt H ts vs
 | .tup ts,v=>∃ a vs,v= .ref a/\H a=some (.tup vs)/\TsAt H ts vs
def TsAt (H:Hp):List Tr->List V->Prop
 | [],vs=>vs=[]
 | t::ts,vs=>∃ v r,vs=v::r/\TAt H t v/\TsAt H ts r
end
mutual
def dep:Tr->Nat
 | .lst ts=>deps ts+1
 | .tup ts=>deps ts+1
 | _=>0
def deps:List Tr->Nat
 | []=>0
 | t::ts=>max (dep t) (deps ts)
end
mutual
def eqT:Tr->Tr->Bool
 | .non, .non=>true
 | .bl a, .bl b=>a==b
 | .bl a, .int b=>(if a then 1 else 0)==b
 | .int a, .bl b=>a==(if b then 1 else 0)
 | .int a, .int b=>a==b
 | .str a, .str b=>a==b
 | .lst a, .lst b=>eqTs a b
 | .tup a, .tup b=>eqTs a b
 | _,_=>false
def eqTs:List Tr->List Tr->Bool
 | [],[]=>true
 | a::as,b::bs=>eqT a b&&eqTs as bs
 | _,_=>false
end
mutual
theorem jM5:∀ t:Tr,eqT t t=true
 | .non=>by simp [eqT]
 | .bl b=>by simp [eqT]
 | .int i=>by simp [eqT]
 | .str x=>by simp [eqT]
 | .lst ts=>by rw[eqT]; exact jCX ts
 | .tup ts=>by rw[eqT]; exact jCX ts
theorem jCX:∀ ts:List Tr,eqTs ts ts=true
 | []=>by simp [eqTs]
 | t::ts=>by rw[eqTs,jM5 t,jCX ts]; rfl
end
mutual
theorem TAt.ext {H H':Hp}(e:Ext H H'):∀ {t:Tr}{v:V},TAt H t v->TAt H' t v
 | .non,_,h=>h
 | .bl _,_,h=>h
 | .int _,_,h=>h
 | .str _,_,h=>h
 | .lst ts,_,⟨a,vs,q,h,r⟩=>⟨a,vs,q,e _ _ h,TsAt.ext e r⟩
 | .tup ts,_,⟨a,vs,q,h,r⟩=>⟨a,vs,q,e _ _ h,TsAt.ext e r⟩
theorem TsAt.ext {H H':Hp}(e:Ext H H'):∀ {ts:List Tr}{vs:List V},TsAt H ts vs->TsAt H' ts vs
 | [],_,h=>h
 | t::ts,_,⟨v,r,q,h,s⟩=>⟨v,r,q,TAt.ext e h,TsAt.ext e s⟩
end
mutual
theorem TAt.inj {H:Hp} :∀ {t u:Tr}{v:V},TAt H t v->TAt H u v->t=u
 | .non,u,_,h,h'=>by
  cases (show _=V.non from h)
  cases u with
  | non=>rfl
  | bl b=>cases (show V.non=_ from h')
  | int b=>cases (show V.non=_ from h')
  | str b=>cases (show V.non=_ from h')
  | lst ts=>obtain⟨_,_,q,_⟩:=h'; cases q
  | tup ts=>obtain⟨_,_,q,_⟩:=h'; cases q
 | .bl b,u,_,h,h'=>by
  cases (show _=V.bl b from h)
  cases u with
  | non=>cases (show V.bl b=_ from h')
  | bl b=>cases (show V.bl _=V.bl b from h'); rfl
  | int i=>cases (show V.bl b=V.int i from h')
  | str i=>cases (show V.bl b=V.str i from h')
  | lst ts=>obtain⟨_,_,q,_⟩:=h'; cases q
  | tup ts=>obtain⟨_,_,q,_⟩:=h'; cases q
 | .int b,u,_,h,h'=>by
  cases (show _=V.int b from h)
  cases u with
  | non=>cases (show V.int b=_ from h')
  | bl i=>cases (show V.int b=V.bl i from h')
  | int b=>cases (show V.int _=V.int b from h'); rfl
  | str i=>cases (show V.int b=V.str i from h')
  | lst ts=>obtain⟨_,_,q,_⟩:=h'; cases q
  | tup ts=>obtain⟨_,_,q,_⟩:=h'; cases q
 | .str b,u,_,h,h'=>by
  cases (show _=V.str b from h)
  cases u with
  | non=>cases (show V.str b=_ from h')
  | bl i=>cases (show V.str b=V.bl i from h')
  | int i=>cases (show V.str b=V.int i from h')
  | str b=>cases (show V.str _=V.str b from h'); rfl
  | lst ts=>obtain⟨_,_,q,_⟩:=h'; cases q
  | tup ts=>obtain⟨_,_,q,_⟩:=h'; cases q
 | .lst ts,u,_,⟨a,vs,q,h,r⟩,h'=>by
  subst q
  cases u with
  | non=>cases (show V.ref a=_ from h')
  | bl i=>cases (show V.ref a=V.bl i from h')
  | int i=>cases (show V.ref a=V.int i from h')
  | str i=>cases (show V.ref a=V.str i from h')
  | lst us=>
   obtain⟨a',vs',q',h2,r'⟩:=h'
   cases q'
   rw[h] at h2
   cases h2
   rw[TsAt.inj r r']
  | tup us=>
   obtain⟨a',vs',q',h2,r'⟩:=h'
   cases q'
   rw[h] at h2
   cases h2
 | .tup ts,u,_,⟨a,vs,q,h,r⟩,h'=>by
  subst q
  cases u with
  | non=>cases (show V.ref a=_ from h')
  | bl i=>cases (show V.ref a=V.bl i from h')
  | int i=>cases (show V.ref a=V.int i from h')
  | str i=>cases (show V.ref a=V.str i from h')
  | lst us=>
   obtain⟨a',vs',q',h2,r'⟩:=h'
   cases q'
   rw[h] at h2
   cases h2
  | tup us=>
   obtain⟨a',vs',q',h2,r'⟩:=h'
   cases q'
   rw[h] at h2
   cases h2
   rw[TsAt.inj r r']
theorem TsAt.inj {H:Hp} :∀ {ts us:List Tr}{vs:List V},TsAt H ts vs->TsAt H us vs->ts=us
 | [],us,_,h,h'=>by
  cases (show _=[] from h)
  cases us with
  | nil=>rfl
  | cons u us=>obtain⟨_,_,q,_⟩:=h'; cases q
 | t::ts,us,_,⟨v,r,q,h,s⟩,h'=>by
  subst q
  cases us with
  | nil=>cases (show v::r=[] from h')
  | cons u us=>
   obtain⟨v',r',q,h2,s2⟩:=h'
   cases q
   rw[TAt.inj h h2,TsAt.inj s s2]
end
section
variable {X:Cx}{pins:List (Addr×Obj)}{σ:St}{H:Hp}{s:Shared}
end
theorem jKL {x:Str}{c:Addr} :∀ (l:List (Str×NameKind)) (n:Nat) (acc:List (Str×Addr)),(cellsFrom n l acc).lookup x=some c->acc.lookup x=some c\/(n<=c/\(x,NameKind.cell)∈l)
 | [],n,acc,h=> .inl h
 | (y,k)::r,n,acc,h=>by
  unfold cellsFrom at h
  by_cases hk:(k==NameKind.cell)=true
  ·rw[ah hk] at h
   have ek:k= .cell:=eq_of_beq hk
   rcases jKL r (n+1) _ h with q | ⟨q1,q2⟩
   ·rw[aK] at q
    cases e:x==y with
    | true=>
     rw[e] at q
     cases q
     exact .inr ⟨af _,by rw[eq_of_beq e,ek]; exact aA⟩
    | false=>rw[e] at q; exact .inl q
   ·exact .inr ⟨by omega,aB _ q2⟩
  ·rw[ai hk] at h
   rcases jKL r n _ h with q | ⟨q1,q2⟩
   ·exact .inl q
   ·exact .inr ⟨q1,aB _ q2⟩
theorem jKN:∀ (l:List (Str×NameKind)) (n:Nat) (acc:List (Str×Addr)),(∀ x y c,acc.lookup x=some c->acc.lookup y=some c->x=y)->(∀ x c,acc.lookup x=some c->c<n)->
  ∀ x y c,(cellsFrom n l acc).lookup x=some c->(cellsFrom n l acc).lookup y=some c->x=y
 | [],n,acc,h1,_=>h1
 | (z,k)::r,n,acc,h1,h2=>by
  unfold cellsFrom
  by_cases hk:(k==NameKind.cell)=true
  ·rw[ah hk]
   refine jKN r (n+1) _ (fun x y c a b=>?_) (fun x c a=>?_)
   ·rw[aK] at a b
    cases e1:x==z with
    | true=>
     rw[e1] at a
     cases a
     cases e2:y==z with
     | true=>exact(eq_of_beq e1).trans (eq_of_beq e2).symm
     | false=>rw[e2] at b; exact absurd (h2 y n b) (bc _)
    | false=>
     rw[e1] at a
     cases e2:y==z with
     | true=>rw[e2] at b; cases b; exact absurd (h2 x n a) (bc _)
     | false=>rw[e2] at b; exact h1 x y c a b
   ·rw[aK] at a
    cases e1:x==z with
    | true=>rw[e1] at a; cases a; exact aF _
    | false=>rw[e1] at a; exact aq (h2 x c a)
  ·rw[ai hk]
   exact jKN r n acc h1 h2
theorem jKO {x:Str} :∀ (l:List (Str×NameKind)) (n:Nat) (acc:List (Str×Addr)),((x,NameKind.cell)∈l\/∃ c,acc.lookup x=some c)->∃ c,(cellsFrom n l acc).lookup x=some c
 | [],n,acc,h=>by
  rcases h with h | h
  ·cases h
  ·exact h
 | (z,k)::r,n,acc,h=>by
  unfold cellsFrom
  by_cases hk:(k==NameKind.cell)=true
  ·rw[ah hk]
   refine jKO r (n+1) _ ?_
   by_cases e:x=z
   ·subst e
    exact .inr ⟨n,by rw[aK,fi]⟩
   ·rcases h with h | ⟨c,h⟩
    ·rcases aC.mp h with q | q
     ·cases q; exact absurd rfl e
     ·exact .inl q
    ·exact .inr ⟨c,by rw[aK,cg.mpr e]; exact h⟩
  ·rw[ai hk]
   refine jKO r n acc ?_
   rcases h with h | h
   ·rcases aC.mp h with q | q
    ·cases q; exact absurd rfl hk
    ·exact .inl q
   ·exact .inr h
theorem jKM {x:Str}{c n0:Nat} :∀ (l:List (Str×NameKind)) (n:Nat) (acc:List (Str×Addr)),n0<=n->((x,NameKind.cell)∈l\/∀ c,acc.lookup x=some c->n0<=c)->(cellsFrom n l acc).lookup x=some c->n0<=c
 | [],n,acc,_,h,e=>by
  rcases h with h | h
  ·cases h
  ·exact h c e
 | (z,k)::r,n,acc,hn,h,e=>by
  unfold cellsFrom at e
  by_cases hk:(k==NameKind.cell)=true
  ·rw[ah hk] at e
   refine jKM r (n+1) _ (by omega) ?_ e
   by_cases ez:x=z
   ·subst ez
    refine .inr fun c' h'=>?_
    rw[aK,fi] at h'
    cases h'
    exact hn
   ·rcases h with h | h
    ·rcases aC.mp h with q | q
     ·cases q; exact absurd rfl ez
     ·exact .inl q
    ·refine .inr fun c' h'=>?_
     rw[aK,cg.mpr ez] at h'
     exact h c' h'
  ·rw[ai hk] at e
   refine jKM r n acc hn ?_ e
   rcases h with h | h
   ·rcases aC.mp h with q | q
    ·cases q; exact absurd rfl hk
    ·exact .inl q
   ·exact .inr h
theorem jG2 {x:Str} :∀ (l:List (Str×NameKind)) (n:Nat) (acc:List (Str×Addr)),(x,NameKind.cell)∉l->(cellsFrom n l acc).lookup x=acc.lookup x
 | [],_,_,_=>rfl
 | (z,k)::r,n,acc,h=>by
  unfold cellsFrom
  by_cases hk:(k==NameKind.cell)=true
  ·have ek:k= .cell:=eq_of_beq hk
   subst ek
   have ne:x≠z:=fun e=>h (by rw[e]; exact aA)
   rw[ah hk,jG2 r (n+1) _ (fun q=>h (aB _ q)),aK,cg.mpr ne]
  ·rw[ai hk,jG2 r n _ (fun q=>h (aB _ q))]
theorem jG3:∀ (l:List (Str×NameKind)) (h:Heap) (acc:List (Str×Addr)),(∀ x c,acc.lookup x=some c->∃ v,h.IsCell c v)->∀ x c,(cellsFrom h.objs.size l acc).lookup x=some c->∃ v,(pushCells h l).IsCell c v
 | [],h,acc,k=>k
 | (z,k)::r,h,acc,hc=>by
  unfold cellsFrom pushCells
  by_cases hk:(k==NameKind.cell)=true
  ·rw[ah hk,ah hk]
   have e:(h.push { cls:= .type "cell",data:= .cell none}).objs.size=h.objs.size+1:=bf _ _
   rw[<- e]
   refine jG3 r _ _ (fun x c q=>?_)
   rw[aK] at q
   cases ez:x==z with
   | true=>rw[ez] at q; cases q; exact⟨none,⟨_,ak _ rfl,rfl⟩⟩
   | false=>
    rw[ez] at q
    obtain⟨v,o,ho,hd⟩:=hc x c q
    exact⟨v,o,ae _ ho,hd⟩
  ·rw[ai hk,ai hk]
   exact jG3 r h acc hc
theorem jCF {env:Env}{x:Str}{k:NameKind}(hk:k= .cell\/k= .free):∀ {l:List (Str×NameKind)},
  (l.map fun (n,k)=>if (k==NameKind.free&&env.scope.kind== .function&&env.kindOf n==some .cell) then (n,NameKind.cell) else (n,k)).lookup x=some k->(x,NameKind.cell)∈l\/(x,NameKind.free)∈l
 | [],h=>by simp at h
 | (n,k')::r,h=>by
  have ih:= @jCF env x k hk r
  have up:(x,NameKind.cell)∈r\/(x,NameKind.free)∈r->(x,NameKind.cell)∈(n,k')::r\/(x,NameKind.free)∈(n,k')::r:=fun q=>q.imp (aB _) (aB _)
  rw[cF] at h
  dsimp only at h
  by_cases hb:(k'==NameKind.free&&env.scope.kind== .function&&env.kindOf n==some .cell)=true
  ·rw[ah hb,aK] at h
   cases hx:x==n with
   | true=>
    have:k'= .free:=by
     simp only [aR] at hb
     exact eq_of_beq hb.1.1
    rw[this,eq_of_beq hx]
    exact .inr aA
   | false=>rw[hx] at h; exact up (ih h)
  ·rw[ai hb,aK] at h
   cases hx:x==n with
   | true=>
    rw[hx] at h
    have e:k'=k:=ba h
    rw[eq_of_beq hx,e]
    rcases hk with q | q
    ·rw[q]; exact .inl aA
    ·rw[q]; exact .inr aA
   | false=>rw[hx] at h; exact up (ih h)
theorem jFT {M:Model}{A:Around}{E:Value->Shared->Prop}{s:Shared}{scope:Scope}{globals:Addr}{closure:List (Str×Addr)}{qual:Str}{func:Option Addr}{code:Value}{outer:Env}{builtins:Addr}{Q:Env->Shared->Prop}
  (hQ:Q (newEnv scope s.heap.objs.size globals (cellsFrom (s.heap.objs.size+1) scope.names closure) qual func code (some outer) builtins) { s with heap:=pushCells (s.heap.push { cls:= .type "dict",data:= .dict #[]}) scope.names}):
  wpAny M A (newFunctionEnv scope globals closure [] qual func code (some outer) builtins) Q E s:=by
 simp only [newFunctionEnv,Option.isSome_some,dU]
 refine aa (wpAny_alloc ?_)
 refine aa (wpAny_layCells _ (fun name kind cells=>by cases hkc:kind==NameKind.cell <;> simp [hkc]) _ _ _ _ ?_)
 rw[show ({ s with heap:=s.heap.push { cls:= .type "dict",data:= .dict #[]}} :Shared).heap.objs.size=s.heap.objs.size+1 from bf ..]
 first
  | exact ag hQ
  | exact aa (ag (ag hQ))
  | (rw[gn]; exact aa (ag (ag hQ)))
def blkC (X:Cx)(sc:Scope)(cl:List (Str×Addr))(C:Addr)(Nc:List Str)(fp:List Addr)(s:Shared)(H:Hp):Cx where
 prog:=X.prog
 w:=X.w
 K:=X.K
 mg:=X.mg
 base:=X.base
 A:=X.A
 N:=Nc
 s₀:=s
 H₀:=H
 env:=compEnvC sc cl C X.env
 outer:=X.stack
 stack:=X.stack
 ex:=fp
 fn:=fun x=>sc.names.lookup x==some .cell
 calm:=X.calm
 pn:=[]
 xe:=fun _ _=>False
section
variable {X:Cx}{tg iter elt:Expr}{ifs:List Expr}{sc:Scope}{pos:Pos}{wi:TI}{g:TG}{tt:TT}{te:TE}{m:List (Option Nat)}{Nc:List Str}
theorem jHV {pins:List (Addr×Obj)}{s:Shared}{σ:St}{H:Hp}{fp:List Addr}(I:Inv X pins σ H s)(hkind:sc.kind= .function)(hdis:∀ x,sc.names.lookup x=some .free->(x,NameKind.cell)∉sc.names)
  (hfree:∀ y∈sc.names,y.2= .free->X.env.scope.names.lookup y.1=some .cell\/X.env.scope.names.lookup y.1=some .free) (hm:qB X sc Nc m) (hfp:∀ b∈fp,FpOk X pins H b) (hlt:∀ b∈fp,b<s.heap.objs.size):
  Inv (blkC X sc (cellsFrom (s.heap.objs.size+1) sc.names (kO X.env.cells sc.names [])) s.heap.objs.size Nc fp s H) [] (blkσ m σ) H { s with heap:=pushCells (s.heap.push { cls:= .type "dict",data:= .dict #[]}) sc.names} :=by
 have hcl:∀ y∈sc.names,y.2= .free->∃ c,X.env.cells.lookup y.1=some c:=fun y hy hf=>I.ok.has y.1 (hfree y hy hf)
 have sub:∀ x c,(kO X.env.cells sc.names []).lookup x=some c->X.env.cells.lookup x=some c:=jAY sc.names [] hcl (fun x c e=>by cases e)
 have clt:∀ x c,(kO X.env.cells sc.names []).lookup x=some c->c<s.heap.objs.size:=fun x c e=>by
  obtain⟨v,o,ho,_⟩:=I.cell x c (sub x c e)
  exact am ho
 have way:∀ x c,(cellsFrom (s.heap.objs.size+1) sc.names (kO X.env.cells sc.names [])).lookup x=some c->(kO X.env.cells sc.names []).lookup x=some c\/s.heap.objs.size+1<=c:=fun x c e=>(jKL _ _ _ e).imp id fun q=>q.1
 have old:∀ b o,s.heap.get? b=some o->(pushCells (s.heap.push { cls:= .type "dict",data:= .dict #[]}) sc.names).get? b=some o:=fun b o e=>fU _ _ b o (ae _ e)
 have hns:(pushCells (s.heap.push { cls:= .type "dict",data:= .dict #[]}) sc.names).Ns s.heap.objs.size (fun _=>none):=(Heap.Ns.new s.heap (.type "dict")).keeps (fU _ _)
 refine⟨⟨I.ok.mod,hkind,I.ok.glob,I.ok.blt,af _,jKN _ _ _ (fun x y c h1 h2=>I.ok.inj x y c (sub x c h1) (sub y c h2)) (fun x c e=>aq (clt x c e)),fun x hx=>?_,fun x c hf e=>?_,I.ok.hd,I.ok.frames, .inl rfl,fun b hb=>?_,I.bs,aH I.ok.bsz I.sz,fun b o e hb=>?_,fun b hb hz=>?_,I.stack,I.stkFree⟩,
  rfl,I.bare,Un.kept old,⟨_,hns,fun k x v e1 e2 e3=>?_⟩,fun x c e=>?_,I.hok.fresh (af _),fun x c e=>?_,fun p hp=>absurd (show p∈([]:List (Addr×Obj)) from hp) (by simp),I.hok.kept old,?_⟩
 ·have q:(x,NameKind.cell)∈sc.names\/(x,NameKind.free)∈sc.names:=by
   rcases hx with h | h
   ·exact jCF (.inl rfl) h
   ·exact jCF (.inr rfl) h
  exact jKO _ _ _ (q.imp id fun q=>jA8 sc.names [] (.inl q))
 ·have hf:(sc.names.lookup x==some NameKind.cell)=true:=hf
  have:=jKM (n0:=s.heap.objs.size+1) _ _ _ (af _) (.inl (jA3 (eq_of_beq hf))) e
  exact Nat.le_of_succ_le this
 ·obtain⟨f0,f1,f2,f3,f4,f5⟩:=hfp b hb
  refine⟨aL (hlt b hb),fun x c e=>?_⟩
  rcases way x c e with q | q
  ·exact f4 x c (sub x c q)
  ·exact bN (aJ (hlt b hb) (Nat.le_of_succ_le q))
 ·obtain⟨f0,f1,f2,f3,f4,f5⟩:=hfp b hb
  rcases f3 with q | q
  ·exact I.ok.noex b o e q
  ·exact absurd (aJ (am (I.ok.bs b o e).1) q) (bc _)
 ·obtain⟨f0,f1,f2,f3,f4,f5⟩:=hfp b hb
  rcases aC.mp (I.stkSub b hz) with q | q
  ·exact f1 q
  ·exact f2 q
 ·have e2':∃ i,m[k]?=some (some i)/\σ[i]?=some (some v):=by
   unfold blkσ at e2
   rw[az] at e2
   cases q:m[k]? with
   | none=>rw[q] at e2; cases e2
   | some o=>
    rw[q] at e2
    cases o with
    | none=>cases e2
    | some i=>
     refine⟨i,rfl,?_⟩
     have e2:(σ[i]?).getD none=some v:=ba e2
     cases r:σ[i]? with
     | none=>rw[r] at e2; cases e2
     | some z=>rw[r] at e2; exact bP some e2
  obtain⟨i,q1,q2⟩:=e2'
  obtain⟨x',a1,a2,a3⟩:=hm.2 k i q1
  have e1':Nc[k]?=some x:=e1
  rw[e1'] at a1
  cases a1
  have vis:=hfree (x, .free) (jA3 a3) rfl
  obtain⟨m0,hn0,hl0⟩:=I.loc
  obtain⟨u,r,l⟩:=hl0 i x v a2 q2 (.inr vis)
  refine⟨u,r, .inr ⟨jA4 a3,?_⟩⟩
  obtain⟨c,hc⟩:=jA8 (cells:=X.env.cells) (x:=x) sc.names [] (.inl (jA3 a3))
  rcases l with ⟨lk,_⟩ | ⟨_,c',hc',o,ho,hd⟩
  ·have lk':X.env.scope.names.lookup x=some .local:=lk
   rcases vis with z | z
   ·rw[lk'] at z; cases z
   ·rw[lk'] at z; cases z
  ·have:=sub x c hc
   rw[hc'] at this
   cases this
   exact⟨c,(jG2 _ _ _ (hdis x a3)).trans hc,o,old _ _ ho,hd⟩
 ·have e':(cellsFrom (s.heap.push { cls:= .type "dict",data:= .dict #[]}).objs.size sc.names (kO X.env.cells sc.names [])).lookup x=some c:=by
   rw[show (s.heap.push { cls:= .type "dict",data:= .dict #[]}).objs.size=s.heap.objs.size+1 from bf _ _]
   exact e
  refine jG3 _ _ _ (fun x c q=>?_) x c e'
  obtain⟨v,o,ho,hd⟩:=I.cell x c (sub x c q)
  exact⟨v,o,ae _ ho,hd⟩
 ·rcases way x c e with q | q
  ·exact I.freeC x c (sub x c q)
  ·exact I.hok.fresh (by omega)
 ·show (blkσ m σ).length=Nc.length
  unfold blkσ
  rw[ac]
  exact hm.1
theorem jQK (h:(sc.names.all fun y=>decide (y.2= .cell->sc.names.lookup y.1=some .cell))=true):∀ x,sc.names.lookup x=some .free->(x,NameKind.cell)∉sc.names:=fun x hx hm=>by
 have:=au (aU.mp h _ hm) rfl
 rw[hx] at this
 cases this
end
section
variable {X:Cx}{sc:Scope}{cl:List (Str×Addr)}{C:Addr}{Nc:List Str}{fp:List Addr}{s:Shared}{H:Hp}{x:Str}
theorem gl_bC (h:sc.names.lookup x=some .globalImplicit):Gl1 (blkC X sc cl C Nc fp s H) x:=⟨jA1 (by decide) h⟩
theorem jHY (h:sc.names.lookup x=some .cell):Vis1 (blkC X sc cl C Nc fp s H) x:=⟨.inr (.inl (jA1 (by decide) h))⟩
theorem jFI (h:sc.names.lookup x=some .free):Vis1 (blkC X sc cl C Nc fp s H) x:=⟨.inr (jA4 h)⟩
theorem jJL (h:sc.names.lookup x=some .cell):Loc1 (blkC X sc cl C Nc fp s H) x:=⟨.inr (jA1 (by decide) h), .inl (by show (sc.names.lookup x==some NameKind.cell)=true; rw[h]; rfl)⟩
theorem jH1 {sc2:Scope}(h:(sc2.names.all fun y=>decide (y.2= .free->sc.names.lookup y.1=some .cell\/sc.names.lookup y.1=some .free))=true):
  ∀ y∈sc2.names,y.2= .free->(blkC X sc cl C Nc fp s H).env.scope.names.lookup y.1=some .cell\/(blkC X sc cl C Nc fp s H).env.scope.names.lookup y.1=some .free:=fun y hy hf=>by
 rcases au (aU.mp h y hy) hf with q | q
 ·exact .inl (jA1 (by decide) q)
 ·exact jA4 q
theorem jEW:IxR (blkC X sc cl C Nc fp s H) (rIxT X.K):=jG
theorem jHS {tg a:Expr}{ta:TE}(hl:JE (blkC X sc cl C Nc fp s H) a ta):JI (blkC X sc cl C Nc fp s H) tg a (iList X.K ta):=jAQ hl
theorem jJR {tg a:Expr}{ta:TE}(hl:JE (blkC X sc cl C Nc fp s H) a ta):JI (blkC X sc cl C Nc fp s H) tg a (iTup X.K ta):=yT hl
variable {sc2:Scope}{cl2:List (Str×Addr)}{C2:Addr}{Nc2:List Str}{fp2:List Addr}{s2:Shared}{H2:Hp}
theorem jGN:OpR (blk (blkC X sc cl C Nc fp s H) sc2 cl2 C2 Nc2 fp2 s2 H2) (compareOp .In) (rIn X.K false):=jAP
theorem jJW:IxR (blk (blkC X sc cl C Nc fp s H) sc2 cl2 C2 Nc2 fp2 s2 H2) (rIxT X.K):=jG
end
section
variable {X:Cx}
def rAny (K:W.Frag):List V->Hp->VK->Prop:=fun xs H Q=>∃ (p:Addr) (bs:List Bool),xs=[.ref p]/\SqL K H p (bs.map V.bl)/\Q (.bl (bs.any id)) H
theorem jCZ (hc:X.calm=true):yJ X (.builtin "any") (rAny X.K):=by
 intro pins s σ H xs us Q I r h
 obtain⟨p,bs,rfl,hq,q⟩:=h
 obtain⟨u,rfl,rx⟩:=r.one
 cases rx
 obtain⟨its,r',pl,hz⟩:=I.list hq
 have hlen:=r'.length
 rw[ac] at hlen
 refine call_any_walk (cD pl.isList ?_)
 have hne:p≠s.heap.objs.size:=by
  obtain⟨o,ho,_⟩:=pl.isList
  exact aL (am ho)
 refine⟨s.heap.objs.size,_,_,_,_,_,fun i=>bs.getD i true,rfl,gG (by simpa using I.ok.hd hc) _ p hne its.toArray,⟨⟨_,ak _ rfl,rfl,rfl⟩,pl.isList.push _⟩,fun i v z Q' E' hP hQ'=>?_,fun h' tk hk=>?_⟩
 ·have hi:its[i]?=some v:=by simpa using hP
  have hb:i<bs.length:=by
   rw[hlen]
   exact(ay.mp hi).1
  obtain⟨u,hu,ru⟩:=r'.get (i:=i) (x:= .bl (bs[i])) (by simp [hb])
  rw[hi] at hu
  cases hu
  cases ru
  have e:bs.getD i true=bs[i]:=by simp [List.getD,hb]
  have hQ2:Q' (bs.getD i true) z:=hQ'
  rw[e] at hQ2
  exact ag hQ2
 ·have e:(List.range its.toArray.size).any (fun i=>bs.getD i true)=bs.any id:=by
   rw[aw,<- hlen]
   rw[cB,fq,fq]
   constructor
   ·rintro ⟨i,hi,hb⟩
    have hi:=aY.mp hi
    exact⟨bs[i],cr hi,by simpa [List.getD,hi] using hb⟩
   ·rintro ⟨b,hb,hq⟩
    obtain⟨i,hi,rfl⟩:=df hb
    exact⟨i,aY.mpr hi,by simpa [List.getD,hi] using hq⟩
  rw[e]
  exact⟨.bl _,H,I.kept (t':=tk) fun b o e=>hk b o (by
   intro z
   have z:b=s.heap.objs.size:=by simpa using z
   exact absurd (am e) (by rw[z]; exact bc _)) (ae _ e),rfl,q⟩
theorem jO1 (hu:X.A.units<cLine):OpR X (compareOp .NotEq) (fun x y H Q=>∃ p q xs,x= .ref p/\y= .ref q/\H p=some (.lst xs)/\H q=some (.lst [])/\Q (.bl (!decide (xs=[]))) H):=by
 intro pins s σ H x y v u Q I rx ry h
 obtain⟨p,q,xs,rfl,rfl,hp,hq,k⟩:=h
 cases rx
 cases ry
 obtain⟨its,r1,p1,_⟩:=I.list (SqL.of hp)
 obtain⟨its2,r2,p2,_⟩:=I.list (SqL.of hq)
 have l1:=r1.length
 have l2:its2.length=0:=r2.length.symm
 by_cases hl:xs=[]
 ·subst hl
  have l1:its.length=0:=r1.length.symm
  refine SeqAt.RcNeAt.lists (e:=fun _=>true) p1.isList p2.isList (by rw[aw,aw]; omega) hu (fun j a1 a2=>absurd a2 (by rw[aw]; omega)) _ _ _ _ ⟨.bl _,H,I,rfl,?_⟩
  have ez:its.toArray.size=0:=by rw[aw]; omega
  rw[ez]
  exact k
 ·refine SeqAt.RcNeAt.lists_lengths p1.isList p2.isList ?_ hu _ _ _ _ ⟨.bl _,H,I,rfl,?_⟩
  ·rw[aw,aw]
   have:xs.length≠0:=fun e=>hl (fm.mp e)
   simp
   omega
  ·rw[aI hl] at k
   exact k
theorem jDY {c:Expr}{body:List Stmt}{tc:TT}{tb:TS}{pos:Pos}(hp:PassesOwn (model X.prog X.w) X.A X.env X.xe)(hc:JT X c tc)(hb:JSs X body tb):JS X (.While c body [] pos) (jID tc tb):=⟨jLC hp hc.h hb.h⟩
theorem jCL {op:CmpOp}{a b:Expr}{pos:Pos} :behindInMarks op (.Subscript a b pos)=false:=by cases op <;> rfl
end
section
variable {X:Cx}{sc:Scope}{cl:List (Str×Addr)}{C:Addr}{Nc:List Str}{fp:List Addr}{s:Shared}{H:Hp}
theorem jF6 (hc:X.calm=true):yJ (blkC X sc cl C Nc fp s H) (.builtin "any") (rAny X.K):=jCZ hc
theorem jOL {o e:Expr}{es:List Expr}{to:TE}{t:TA}{cpos apos:Pos}{id:String}{T:String}{name:Str}{r}(pa:PlainAttrs T)(slot:Slot T name id)(hty:typeOf (.builtin id)=pure (.type "method_descriptor"))(hm:MtR (blk X sc cl C Nc fp s H) id r)(ho:JE (blk X sc cl C Nc fp s H) o to)(ha:JA (blk X sc cl C Nc fp s H) (e::es) t)
  (hs:starEach (e::es) (blk X sc cl C Nc fp s H).env=(false,eval e (blk X sc cl C Nc fp s H).env)::starEach es (blk X sc cl C Nc fp s H).env)
  (hbase:attributeBase o name (blk X sc cl C Nc fp s H).env (eval o (blk X sc cl C Nc fp s H).env)=eval o (blk X sc cl C Nc fp s H).env:=by rfl)
  (hfew:((backTo cpos (starEach (e::es) (blk X sc cl C Nc fp s H).env)).all (fun x=>!x.1)&&(backToKw cpos (keywordEach [] (blk X sc cl C Nc fp s H).env)).all (fun x=>x.1.isSome)
   &&decide ((e::es).length+([]:List Keyword).length+(if ([]:List Keyword).isEmpty then 0 else 1)<30))=true:=by rfl)
  (hline:(apos.endLine==cpos.line)=true:=by rfl) (hplain:(backTo cpos (starEach es (blk X sc cl C Nc fp s H).env)).any (·.1)=false:=by rfl):
  JE (blk X sc cl C Nc fp s H) (.Call (.Attribute o name apos) (e::es) [] cpos) (tBM X.K T r to t):=je_bm pa slot hty hm ho ha hs hbase hfew hline hplain
end
end L2
end
section
namespace L2
open PySem
def LstR (H:Hp)(xs:List V)(Q:VK):Prop:=∀ r H',H' r=some (.lst xs)->Ext H H'->H r=none->Q (.ref r) H'
theorem LstR.new {H:Hp}{xs:List V}{Q:VK}(q:LstR H xs Q){p:Addr}(hp:H p=none):Q (.ref p) (upd H p (.lst xs)):=q p _ j4 ((Ext.refl H).new hp _) hp
def tTupU (t:TA):TE:=fun σ H Q=>t σ H fun xs H1=>xs.length<=sizeLine/\TupR H1 xs Q
def tLstU (t:TA):TE:=fun σ H Q=>t σ H fun xs H1=>xs.length<=sizeLine/\LstR H1 xs Q
section
variable {X:Cx}{es:List Expr}{t:TA}{pos:Pos}
theorem jAF {x1}(h:JA X es t):JE X (.Tuple es x1 pos) (tTupU t):=⟨fun pins s σ H Q I hq=>by
 refine wpAny_Tuple_spliced (thn (h.h pos pins s σ H _ I hq) fun us s1 ⟨xs,H1,I1,r,z,q⟩=>⟨by rw[<- r.length]; exact z,?_⟩)
 have hf:H1 s1.heap.objs.size=none:=I1.hok.fresh (af _)
 exact⟨.ref s1.heap.objs.size,upd H1 s1.heap.objs.size (.tup xs),I1.laid (t':=s1.toks) (fun b u e=>ae _ e) (af _) ⟨z,us,r,TupO.new _ _⟩,rfl,q.new hf⟩⟩
theorem jAL (h:JA X es t):JE X (.List es pos) (tLstU t):=⟨fun pins s σ H Q I hq=>by
 refine wpAny_List_spliced (thn (h.h pos pins s σ H _ I hq) fun us s1 ⟨xs,H1,I1,r,z,q⟩=>⟨by rw[<- r.length]; exact z,?_⟩)
 have hf:H1 s1.heap.objs.size=none:=I1.hok.fresh (af _)
 exact⟨.ref s1.heap.objs.size,upd H1 s1.heap.objs.size (.lst xs),I1.laid (t':=s1.toks) (fun b u e=>ae _ e) (af _) ⟨z,us,0,r,ak _ rfl⟩,rfl,q.new hf⟩⟩
theorem jC6:OpR X (binaryOp .Add) (fun x y H Q=>∃ l b xs zs,x= .ref l/\y= .ref b/\H l=some (.lst xs)/\H b=some (.lst zs)/\xs.length+zs.length<=sizeLine/\LstR H (xs++zs) Q):=by
 intro pins s σ H x y v u Q I rx ry h
 obtain⟨l,b,xs,zs,rfl,rfl,h1,h2,h3,q⟩:=h
 exact jPT pins s σ H _ _ v u Q I rx ry ⟨l,b,xs,zs,rfl,rfl,h1,h2,h3,fun p hp=>q.new hp⟩
end
end L2
end
section
namespace L2
open PySem PySem.Spec PyProof.Rows
section
variable {X:Cx}
def CDivB (i j:Int):Prop:=0<j/\j.natAbs.log2<9000
theorem jBH:OpR X (binaryOp .FloorDiv) (rI CDivB fun i j=> .int (i / j)):=opI fun i j _ _ _ _ _ hc q=>by
 have h1:(0:Int)<j:=hc.1
 exact floordiv_int (by omega) (by rw[cS i (by omega)]; exact q) (.inl (fe hc.2))
theorem jQB {i j:Nat}{x y:Str}{a b:Expr}{ta:TA}{pos px py pt:Pos}{kt k2 pt2}(hc:X.calm=true)(hN:X.N.Nodup)(hi:X.N[i]?=some x)(hj:X.N[j]?=some y)(hij:i≠j)
  (hx:X.env.scope.names.lookup x=some .local) (hy:X.env.scope.names.lookup y=some .local) (ha:JA X [a,b] ta)
  (hw:swappedStores [.Tuple [.Name x px, .Name y py] kt pt] (.Tuple [a,b] k2 pt2) X.env=pure (some [x,y]))
  (hs:swapsWithSole [.Tuple [.Name x px, .Name y py] kt pt] (.Tuple [a,b] k2 pt2) pos.line X.env=pure false:=by rfl):
  JS X (.Assign [.Tuple [.Name x px, .Name y py] kt pt] (.Tuple [a,b] k2 pt2) pos) (tPar i j ta):=⟨jPC hc hN hi hj hij hx hy ha.h hw hs⟩
theorem jEV {o i:Expr}{pos:Pos}{to ti:TE}{t:TSet}(ho:JE X o to)(hi:JE X i ti)(hs:PSet X t)
  (ha:∀ v,assign (.Subscript o i pos) X.env v=(do
   let ov <- holding [v] (eval o X.env)
   let iv <- holding [v,ov] (eval i X.env)
   standAt pos
   holding [v,ov,iv] (setItem ov iv v)
   release [v,ov,iv] []):=by intro _; rfl):JG X (.Subscript o i pos) (gSub to ti t):=⟨jMP ho.h hi.h hs ha⟩
theorem jG0 {prog:Program}{w:World}{A:Around}{E:Value->Shared->Prop}{s:Shared}{l:Addr}{vs:List Value}{n:Nat}{Q:List Value->Shared->Prop}(ho:s.heap.get? l=some { cls:= .type "tuple",data:= .seq vs.toArray n})
  (h:Q vs { s with heap:=(s.heap.push (seqObj "list" #[] 0)).update s.heap.objs.size (Obj.mapSeq (· ++vs.toArray))}) (hsz:vs.length<=sizeLine):
  wpAny (model prog w) A (collect (.ref l)) Q E s:=by
 unfold collect
 refine aa (gf (ce entry_proto_collect' ?_))
 show wpAny _ _ (do again (.builtin "list.__iadd__" ⟨[<- newList [], .ref l],[]⟩)) _ _ s
 refine aa (wpAny_newList (ag ⟨Code.quiet_builtin _ (by decide+kernel),ce entry_list_iadd' ?_⟩))
 show wpAny _ _ (Builtin.List.listExtendWith (.ref s.heap.objs.size) (.ref l) (.ref s.heap.objs.size)) _ _ { s with heap:=s.heap.push (seqObj "list" #[] 0)}
 unfold Builtin.List.listExtendWith
 have ho':(s.heap.push (seqObj "list" #[] 0)).get? l=some { cls:= .type "tuple",data:= .seq vs.toArray n} :=ae _ ho
 refine aa (wpAny_typeOf (T:= "tuple") ⟨_,ho',rfl⟩ ?_)
 have ht:(Value.type "tuple" ==Value.type "tuple")=true:=by rfl
 rw[ah (by rw[ht,Bool.or_true])]
 refine aa (listItems_at ho' rfl ?_)
 refine aa (listItems_at (xs:=#[]) (n:=0) (ak _ rfl) rfl ?_)
 rw[ai (by simp)]
 refine aa (listUpdate_at (xs:=#[]) (n:=0) (ak _ rfl) rfl ?_ (aW _) (by show (#[]++vs.toArray).size<=sizeLine+1; simp only [Array.size_append,aw,List.length_nil]; omega))
 refine ag ?_
 show wpAny (model prog w) A (do
   let o <- load s.heap.objs.size
   match o.data with
   | .seq xs _=>pure xs.toList
   | _=>unsupported "internal:collect") Q E { s with heap:=(s.heap.push (seqObj "list" #[] 0)).update s.heap.objs.size (Obj.mapSeq (· ++vs.toArray))}
 refine aa (fw (get?_update_seq (ak _ rfl) _) ?_)
 show wpAny _ _ (pure ((#[]:Array Value)++vs.toArray).toList) Q E _
 rw[show ((#[]:Array Value)++vs.toArray).toList=vs by simp]
 exact ag h
theorem jHI {prog:Program}{w:World}{A:Around}{E:Value->Shared->Prop}{s:Shared}{l:Addr}{vs:List Value}{ns:List Int}{n:Nat}{Q:Value->Shared->Prop}(ho:s.heap.get? l=some { cls:= .type "tuple",data:= .seq vs.toArray n})(hI:IntsAre vs ns)(h64:vs.length<64)
  (h:∀ (out:Array Value) (ns':List Int),IntsAre out.toList ns'->ns'.Perm ns->ns'.Pairwise (· <= ·)->Q (.ref (s.heap.objs.size+1)) { s with heap:=sortedAll s.heap vs out}):
  wpAny (model prog w) A (call (.builtin "sorted") [.ref l]) Q E s:=by
 refine eE kind_sorted plain_sorted entry_sorted (args_sorted1 _) ?_
 unfold Builtin.«sorted»
 refine aa (m:=checkCount "sorted" 1 1 _) (ag ?_)
 refine aa (jG0 ho ?_ (by rw[cL]; omega))
 refine aa (wpAny_newList ?_ (by rw[cL]; omega))
 have hsz:((s.heap.push (seqObj "list" #[] 0)).update s.heap.objs.size (Obj.mapSeq (· ++vs.toArray))).objs.size=s.heap.objs.size+1:=by
  rw[Heap.size_update,size_push']
 have hoL:(((s.heap.push (seqObj "list" #[] 0)).update s.heap.objs.size (Obj.mapSeq (· ++vs.toArray))).push (seqObj "list" vs.toArray 0)).get? (s.heap.objs.size+1)=some (seqObj "list" vs.toArray 0):=by
  rw[<- hsz]; exact ak _ rfl
 show wpAny _ _ _ _ _ { s with heap:=((s.heap.push (seqObj "list" #[] 0)).update s.heap.objs.size (Obj.mapSeq (· ++vs.toArray))).push (seqObj "list" vs.toArray 0)}
 rw[hsz]
 refine aa (cq (bo slot_list_sort ⟨_,hoL,rfl⟩ entry_list_sort (list_sort_tree hoL hI h64 fun out ns' a1 a2 a3=>⟨_,rfl,?_⟩) (args_list_sort _)))
 exact ag ⟨_,rfl,h out ns' a1 a2 a3⟩
theorem jF2:yJ X (.builtin "sorted") (fun xs H Q=>∃ (p:Addr) (ks:List Int),xs=[.ref p]/\H p=some (.tup (ks.map V.int))/\ks.length<64/\
  ∀ (l:Addr) (ns:List Int),H l=none->ns.Pairwise (· <= ·)->ns.Perm ks->Q (.ref l) (upd H l (.lst (ns.map V.int)))):=by
 intro pins s σ H xs us Q I r h
 obtain⟨p,ks,rfl,hp,hn,q⟩:=h
 obtain⟨u,rfl,rx⟩:=r.one
 cases rx
 obtain⟨_,its,r',n,e0⟩:=I.hok p _ hp
 have hlen:=r'.length
 rw[ac] at hlen
 refine jHI e0 (jBX r') (by omega) fun out ns' a1 a2 a3=>?_
 obtain⟨e,he⟩:=sortedAll_at s.heap its out
 have hz:(ns'.map V.int).length<=sizeLine:=by
  rw[ac,a2.length_eq,cL]
  omega
 have I2:Inv X pins σ (upd H (s.heap.objs.size+1) (.lst (ns'.map V.int))) { s with heap:=sortedAll s.heap its out} :=I.laid (t':=s.toks) (fun b o e=>sortedAll_old e) (ge _) ⟨hz,out.toList,e,jAS a1,by rw[cU]; exact he⟩
 exact⟨.ref _,_,I2,rfl,q _ ns' (I.hok.fresh (ge _)) a3 a2⟩
end
theorem jB7 (ns:List Int):∀ j,preSum (fun i=>ns.getD i 0) j=(ns.take j).sum
 | 0=>rfl
 | j+1=>by
  rw[preSum,jB7 ns j,aT,fX]
  congr 1
  rw[aE]
  cases ns[j]? with
  | none=>rfl
  | some z=>simp
section
variable {X:Cx}
def rSum (K:W.Frag):List V->Hp->VK->Prop:=fun xs H Q=>∃ (p:Addr) (ns:List Int),xs=[.ref p]/\(SqL K H p (ns.map V.int))/\Q (.int ns.sum) H
theorem jF1 (hc:X.calm=true):yJ X (.builtin "sum") (rSum X.K):=by
 intro pins s σ H xs us Q I r h
 obtain⟨p,ns,rfl,hq,q⟩:=h
 obtain⟨u,rfl,rx⟩:=r.one
 cases rx
 obtain⟨its,r',pl,hz⟩:=I.list hq
 have hlen:=r'.length
 rw[ac] at hlen
 refine call_sum_walkG (cD pl.isList ?_)
 have hne:p≠s.heap.objs.size:=by
  obtain⟨o,ho,_⟩:=pl.isList
  exact aL (am ho)
 refine⟨s.heap.objs.size,_,_,_,_,_,fun i=>ns.getD i 0,rfl,gG (by simpa using I.ok.hd hc) _ p hne its.toArray,⟨⟨_,ak _ rfl,rfl,rfl⟩,pl.isList.push _⟩,(fun b hb=>?_),(fun i v hP=>?_),fun h' tk t' hk=>?_⟩
 ·show b<(s.heap.push _).objs.size
  rw[bf]
  obtain⟨o,ho,_⟩:=pl.isList
  have:=am ho
  rcases aC.mp hb with rfl | hb
  ·exact aF _
  ·rcases aC.mp hb with rfl | hb
   ·exact aq this
   ·cases hb
 ·have hi:its[i]?=some v:=by simpa using hP
  have hb:i<ns.length:=by
   rw[hlen]
   exact(ay.mp hi).1
  obtain⟨u,hu,ru⟩:=r'.get (i:=i) (x:= .int (ns[i])) (by simp [hb])
  rw[hi] at hu
  cases hu
  obtain⟨t,rfl⟩:=ru
  exact⟨t,by simp [List.getD,hb]⟩
 ·have e:preSum (fun i=>ns.getD i 0) its.toArray.size=ns.sum:=by
   rw[jB7,aw,<- hlen,bF]
  rw[e]
  exact⟨.int _,H,I.kept (t':=tk) fun b o e=>hk b o (by
   intro z
   have z:b=s.heap.objs.size:=by simpa using z
   exact absurd (am e) (by rw[z]; exact bc _)) (ae _ e),⟨_,rfl⟩,q⟩
variable {sc:Scope}{cl:List (Str×Addr)}{C:Addr}{Nc:List Str}{fp:List Addr}{s:Shared}{H:Hp}
theorem jG5 (hc:X.calm=true):yJ (blk X sc cl C Nc fp s H) (.builtin "sum") (rSum X.K):=jF1 hc
end
end L2
end
section
namespace L2
open PySem
section
variable {X:Cx}{tg iter elt:Expr}{ifs:List Expr}{sc:Scope}{pos:Pos}{wi:TI}{g:TG}{tt:TT}{te:TE}{m:List (Option Nat)}{Nc:List Str}
theorem jM8 (hc:X.calm=true)(hi:PI X tg iter wi)(hkind:sc.kind= .function)(hcell:∀ y∈sc.names,y.2≠ .cell)(hnames:∀ y∈sc.names,y.2= .local->sc.names.lookup y.1=some .local)
  (hfree:∀ y∈sc.names,y.2= .free->X.env.scope.names.lookup y.1=some .cell\/X.env.scope.names.lookup y.1=some .free) (hm:qB X sc Nc m)
  (hg:∀ cl C fp s H,PG (blk X sc cl C Nc fp s H) tg g) (ht:∀ cl C fp s H,PTs (blk X sc cl C Nc fp s H) ifs tt) (he:∀ cl C fp s H,PE (blk X sc cl C Nc fp s H) elt te)
  (hs:∀ x,foldedSetIterable iter X.env x=pure x) {fpos:Pos}{use:Option (Value->Sem Unit)}{R:Value->Shared->Prop}{pins:List (Addr×Obj)}{s:Shared}{σ:St}{H:Hp}{Q:VK}(I:Inv X pins σ H s) (h:tComp m wi g tt te σ H Q)
  (fin:∀ (D C:Addr) (H5:Hp) (z1:Shared) (r:Flow),(∃ mm,z1.heap.Ns C mm)->FpOk X pins H5 C->(∀ h',Heap.SameBut C z1.heap h'->Inv X pins σ H5 { z1 with heap:=h'})->Q (.ref D) H5->compPost (model X.prog X.w) X.A X.xe use R (.ref D) C (.ok r) z1):
  wpAny (model X.prog X.w) X.A (comprehension (.ListComp elt [⟨tg,iter,ifs,0⟩] sc pos) sc X.env fpos (newList []) false (eval iter X.env) use) R X.xe s:=
 jH6 (tf:=fun _=>te) hc hi hkind hcell hnames hfree hm hg ht (fun cl C fp s H _ _ _ _=>he cl C fp s H) hs I h fin
theorem jNM {i:Nat}{x:Str}{pos' spos:Pos}(hN:X.N.Nodup)(hi':X.N[i]?=some x)(hx:Loc X.env.scope x)(hf:X.fn x=true\/X.env.scope.names.lookup x=some .local)(hsw:swapsWith (.ListComp elt [⟨tg,iter,ifs,0⟩] sc pos) (some (.Name x pos')) spos.line X.env=pure true)
  (hc:X.calm=true) (hi:PI X tg iter wi) (hkind:sc.kind= .function) (hcell:∀ y∈sc.names,y.2≠ .cell) (hnames:∀ y∈sc.names,y.2= .local->sc.names.lookup y.1=some .local)
  (hfree:∀ y∈sc.names,y.2= .free->X.env.scope.names.lookup y.1=some .cell\/X.env.scope.names.lookup y.1=some .free) (hm:qB X sc Nc m)
  (hg:∀ cl C fp s H,PG (blk X sc cl C Nc fp s H) tg g) (ht:∀ cl C fp s H,PTs (blk X sc cl C Nc fp s H) ifs tt) (he:∀ cl C fp s H,PE (blk X sc cl C Nc fp s H) elt te)
  (hs:∀ x,foldedSetIterable iter X.env x=pure x):PS X (.Assign [.Name x pos'] (.ListComp elt [⟨tg,iter,ifs,0⟩] sc pos) spos) (tAsg (tComp m wi g tt te) (kS i)):=by
 intro pins s σ H D I h
 rw[exec_Assign_Name_used _ _ _ _ hsw]
 refine aa (dG (aa ?_))
 show wpAny _ _ (do let _ <- comprehension (.ListComp elt [⟨tg,iter,ifs,0⟩] sc pos) sc X.env _ (newList []) false (eval iter X.env) (some (assign (.Name x pos') X.env))) _ _ _
 refine aa (cw (jM8 (R:=fun _ s'=>SP X pins D .next s') hc hi hkind hcell hnames hfree hm hg ht he hs ⟨I.ok,I.os,I.bare,I.base,I.loc,I.cell,I.free,I.freeC,I.pin,I.hok,I.len⟩ h ?_) (fun _ s' hq=>ag (ag hq)) fun _ _ e=>e)
 intro D' C H5 z1 r ⟨mm,hn⟩ fC sb q
 have I1:=sb _ (eU C z1.heap)
 refine eM (jCD (v:= .ref D') I1 hN hi' hx rfl (fun s2 I2 ⟨a,sa,ha⟩=>?_) hf)
 obtain⟨f0,f1,f2,f3,f4,f5⟩:=fC
 have hCa:C≠a:=by
  rcases ha with rfl | ha
  ·exact f1
  ·exact(f4 _ _ ha).symm
 refine⟨mm,hn.sameBut sa hCa,fun h' sb2=>⟨_,H5,?_,q⟩⟩
 refine I2.call' (s':= { s2 with heap:=h'}) (ch:=[C]) rfl ?_ (I2.hok.sameBut sb2 f0) I2.bare (fun b hb=>?_)
 ·have ne:∀ {b:Addr},b∉ [C]->b≠C:=fun h e=>h (by rw[e]; exact be.mpr rfl)
  refine⟨fun b o e n hf hx=>(sb2.2 b (ne hx)).trans e,fun b o e n hf hx=>⟨o.slots,(sb2.2 b (ne hx)).trans e⟩,fun b o e n hx=>n,fun b o e hx=>⟨o,(sb2.2 b (ne hx)).trans e⟩,fun b xs e=>e,fun b o u e=>e,fun b ps e=>⟨#[],by rw[gH]; exact e⟩⟩
 ·cases be.mp hb
  exact⟨f3,f1,f4,f5⟩
end
section
variable {X:Cx}
structure SwC (e:Expr)(x:Str)(pos' spos:Pos)(X:Cx):Prop where
 h:swapsWith e (some (.Name x pos')) spos.line X.env=pure true
theorem jCQ {i:Nat}{x:Str}{pos' spos pos:Pos}{tg iter elt:Expr}{ifs:List Expr}{sc:Scope}{wi:TI}{g:TG}{tt:TT}{te:TE}{m:List (Option Nat)}{Nc:List Str}(hN:X.N.Nodup)(hi':X.N[i]?=some x)(hx:Loc1 X x)(hsw:SwC (.ListComp elt [⟨tg,iter,ifs,0⟩] sc pos) x pos' spos X)
  (hc:X.calm=true) (hi:JI X tg iter wi) (hkind:sc.kind= .function) (hcell:∀ y∈sc.names,y.2≠ .cell) (hnames:∀ y∈sc.names,y.2= .local->sc.names.lookup y.1=some .local)
  (hfree:∀ y∈sc.names,y.2= .free->X.env.scope.names.lookup y.1=some .cell\/X.env.scope.names.lookup y.1=some .free) (hm:qB X sc Nc m)
  (hg:∀ cl C fp s H,JG (blk X sc cl C Nc fp s H) tg g) (ht:∀ cl C fp s H,JTs (blk X sc cl C Nc fp s H) ifs tt) (he:∀ cl C fp s H,JE (blk X sc cl C Nc fp s H) elt te)
  (hs:FoOk iter):JS X (.Assign [.Name x pos'] (.ListComp elt [⟨tg,iter,ifs,0⟩] sc pos) spos) (tAsg (tComp m wi g tt te) (kS i)):=
 ⟨jNM hN hi' hx.a hx.b hsw.h hc hi.h hkind hcell hnames hfree hm (fun cl C fp s H=>(hg cl C fp s H).h) (fun cl C fp s H=>(ht cl C fp s H).h) (fun cl C fp s H=>(he cl C fp s H).h) (hs.h _)⟩
end
end L2
end
section
namespace L2
open PySem PySem.Spec PyProof.Rows
section
variable {prog:Program}{w:World}{A:Around}{E:Value->Shared->Prop}
end
section
variable {X:Cx}
end
section
variable {prog:Program}{w:World}{A:Around}{E:Value->Shared->Prop}{s:Shared}
end
end L2
namespace L2
open PySem PySem.Spec PyProof.Rows
section
variable {X:Cx}{x:Str}{C:Addr}{W:Hp->Prop}{e:Expr}{t:TA}{np cpos pos:Pos}
end
end L2
namespace L2
open PySem PySem.Spec PyProof.Rows
end L2
namespace L2
open PySem PySem.Spec PyProof.Rows
section
variable {M:Model}{A:Around}{E:Value->Shared->Prop}{h:Heap}{g:Array GenState}{d:Drawn}{tk:Nat}{os:OsState}
end
end L2
namespace L2
open PySem PySem.Spec PyProof.Rows
end L2
namespace L2
open PySem PySem.Spec PyProof.Rows
section
variable {X:Cx}{pins:List (Addr×Obj)}{σ:List (Option V)}{H H':Hp}{s:Shared}{h':Heap}
end
end L2
namespace L2
open PySem PySem.Spec PyProof.Rows
section
variable {X:Cx}{pins:List (Addr×Obj)}{σ:St}{H H':Hp}{s:Shared}{h2:Heap}{x C T T':Addr}
end
section
variable {X:Cx}{pins:List (Addr×Obj)}{σ:St}{H:Hp}{s:Shared}{x:Addr}
end
section
variable {M:Model}{A:Around}{E:Value->Shared->Prop}{s:Shared}{x C T:Addr}{Q:Unit->Shared->Prop}
end
section
variable {X:Cx}{y n g c:Str}{i j k:Nat}{f B C:Addr}{fd:FuncData}{ps:List Str}{sp:Sp}{e r:Expr}{es:List Expr}{t:TA}{te:Addr->TE}{yp gp cp ap np rp hp tp:Pos}
end
section
variable {prog:Program}{w:World}{A:Around}{E:Value->Shared->Prop}{s:Shared}
end
section
variable {X:Cx}{tg:Expr}
end
section
variable {X:Cx}{tg iter elt:Expr}{ifs:List Expr}{sc:Scope}{pos:Pos}{wi:TI}{g:TG}{tt:TT}{te:TE}{m:List (Option Nat)}{Nc:List Str}
end
section
variable {X:Cx}{k:Nat}{f a:Addr}{fd:FuncData}{ps:List Str}{sp:Addr->Sp}{x:Str}{p pos:Pos}{e:Expr}{es:List Expr}{t:TA}
end
section
variable {CX:CXT}{P:Program}{w:World}{K:W.Frag}{mg:Str->Option Value}{base:Heap}{N:List Str}{qual:Str}{sc:Scope}{f:Addr}{cdv:Value}{A:Around}{outer:List Env}{s:Shared}{H:Hp}{E:XK}{x:Str}
end
section
variable {X:Cx}{e:Expr}{es:List Expr}{t:TA}{a:Addr}{p pos:Pos}
end
section
variable {X:Cx}{y n g c:Str}{i j k:Nat}{f B C:Addr}{fd:FuncData}{ps:List Str}{sp:Sp}{e:Expr}{es:List Expr}{t:TA}{te t1:TEX}{yp gp cp ap np rp hp tp pos:Pos}
end
section
variable {X:Cx}{pins:List (Addr×Obj)}{σ:St}{H:Hp}{s:Shared}
end
section
variable {P:Program}{w:World}{K:W.Frag}{mg:Str->Option Value}{base:Heap}{N ps fs:List Str}{qual:Str}{scope:Scope}{f:Addr}{cd:Value}{cl:List (Str×Addr)}{A:Around}{outer:List Env}{s:Shared}{H:Hp}{us:List Value}{vs fv:List V}
end
section
variable {X:Cx}{pins:List (Addr×Obj)}{σ:St}{H:Hp}{s:Shared}{fs:List Str}{fv:List V}{is:List Nat}{scope:Scope}
end
section
variable {X:Cx}{k:Nat}{x q:Str}{args:Arguments}{body:List Stmt}{scope:Scope}{ps fs:List Str}{is:List Nat}{sp:List V->Sp}{p pos:Pos}{e:Expr}{es:List Expr}{t:TA}{j:Nat}
end
section
variable {X:Cx}{tg iter elt:Expr}{ifs:List Expr}{sc:Scope}{pos:Pos}{wi:TI}{g:TG}{tt:TT}{te:St->TE}{m:List (Option Nat)}{Nc:List Str}
end
open PySem.AutoSeq1 (wpAny_loadPart')
section
variable {prog:Program}{w:World}{A:Around}{E:Value->Shared->Prop}{s:Shared}
theorem jM6 {tp:Bool}{e it l:Addr}{i:Nat}{xs:Array Value}{x old:Value}{Q:Value->Shared->Prop}(ee:IsEnum s.heap e it i old)(g1:ItAt tp s.heap it l i)(o1:ObAt tp s.heap l xs)(hx:xs[i]?=some x)(ne:e≠it)
  (k:∀ h',IsEnumOut h' e it ((i:Int)+1) x s.heap.objs.size->ItAt tp h' it l (i+1)->h'.get? s.heap.objs.size=some { cls:= .type "tuple",data:= .seq #[.int i s.toks,x]} ->h'.objs.size=s.heap.objs.size+1->
   (∀ c o,c≠e->c≠it->s.heap.get? c=some o->h'.get? c=some o)->Q (.ref s.heap.objs.size) { s with heap:=h',toks:=s.toks+1}):
  wpAny (model prog w) A (Builtin.«enumerate.__next__» ⟨[.ref e],[]⟩) (fun fin s'=>∃ v,fin= .done (.ret v)/\Q v s') E s:=by
 obtain⟨hp,g,d,tk,os⟩:=s
 show wpAny (model prog w) A (field (.ref e) 2 >>= _) _ _ _
 refine aa (bt ee rfl (x:= .ref it) rfl (aa (next1 g1 o1 hx fun p1 r1 q1=>?_)))
 have q1:Heap.SameBut it hp p1:=q1
 have e1:IsEnum p1 e it i old:=(q1.2 e ne).trans ee
 show wpAny (model prog w) A (field (.ref e) 3 >>= _) _ _ ⟨p1,g,d,tk,os⟩
 refine aa (bt e1 rfl (x:=rawInt i) rfl (?_:wpAny (model prog w) A (field (.ref e) 4 >>= _) _ _ ⟨p1,g,d,tk,os⟩))
 refine aa (bt e1 rfl (x:= .none) rfl (?_:wpAny (model prog w) A (mkInt i >>= _) _ _ ⟨p1,g,d,tk,os⟩))
 refine aa (wpAny_mkInt (?_:wpAny (model prog w) A (setField (.ref e) 3 (rawInt ((i:Int)+1)) >>= _) _ _ ⟨p1,g,d,tk+1,os⟩))
 refine aa (aZ e1 (by simp) fun p2 e2 q2=>?_)
 have q2:Heap.SameBut e p1 p2:=q2
 have e2:IsEnum p2 e it ((i:Int)+1) old:=e2
 show wpAny (model prog w) A (setField (.ref e) 4 .none >>= _) _ _ ⟨p2,g,d,tk+1,os⟩
 refine aa (aZ e2 (by simp) fun p3 e3 q3=>?_)
 have q3:Heap.SameBut e p2 p3:=q3
 have e3:IsEnum p3 e it ((i:Int)+1) old:=e3
 show wpAny (model prog w) A (newTuple [.int i tk,x] >>= _) _ _ ⟨p3,g,d,tk+1,os⟩
 refine aa (wpAny_newTuple ?_)
 have e4:IsEnum (p3.push { cls:= .type "tuple",data:= .seq #[.int i tk,x]}) e it ((i:Int)+1) old:=ae _ e3
 have sz:p3.objs.size=hp.objs.size:=by rw[q3.1,q2.1,q1.1]
 have lt:e<hp.objs.size:=am ee
 have t4:(p3.push { cls:= .type "tuple",data:= .seq #[.int i tk,x]}).get? hp.objs.size=some { cls:= .type "tuple",data:= .seq #[.int i tk,x]} :=by rw[<- sz]; exact ak _ rfl
 have z4:(p3.push { cls:= .type "tuple",data:= .seq #[.int i tk,x]}).objs.size=hp.objs.size+1:=by rw[bf,sz]
 have k4:∀ c o,c≠e->c≠it->hp.get? c=some o->(p3.push { cls:= .type "tuple",data:= .seq #[.int i tk,x]}).get? c=some o:=fun c o n1 n2 v=>ae _ (q3.extBut c o n1 (q2.extBut c o n1 (q1.extBut c o n2 v)))
 have r4:ItAt tp (p3.push { cls:= .type "tuple",data:= .seq #[.int i tk,x]}) it l (i+1):=((r1.but q2.extBut ne.symm).but q3.extBut ne.symm).at fun o v=>ae _ v
 generalize p3.push { cls:= .type "tuple",data:= .seq #[.int i tk,x]} =p4 at e4 t4 z4 k4 r4 ⊢
 show wpAny (model prog w) A (Builtin.SmallTypes.ownedTupleIsFree (.ref e) >>= _) _ _ ⟨p4,g,d,tk+1,os⟩
 rw[sz]
 refine aa (by
  unfold Builtin.SmallTypes.ownedTupleIsFree
  refine aa (bt e4 rfl (x:= .none) rfl (ag ?_))
  simp only [dU]
  refine aa (dn (aa (bt e4 rfl (x:=old) rfl (aa (aZ e4 (by simp) fun p5 e5 q5=>?_)))))
  have q5:Heap.SameBut e p4 p5:=q5
  have e5:IsEnum p5 e it ((i:Int)+1) x:=e5
  refine aa (m:=Builtin.SmallTypes.ownedTupleHandOut (.ref e) (.ref hp.objs.size)) ?_
  unfold Builtin.SmallTypes.ownedTupleHandOut
  refine aa (aZ e5 (by simp) fun p6 e6 q6=>?_)
  have q6:Heap.SameBut e p5 p6:=q6
  have e6:IsEnumOut p6 e it ((i:Int)+1) x hp.objs.size:=e6
  refine aZ e6 (by simp) fun p7 e7 q7=>?_
  have q7:Heap.SameBut e p6 p7:=q7
  have e7:IsEnumOut p7 e it ((i:Int)+1) x hp.objs.size:=e7
  have up:∀ c o,c≠e->p4.get? c=some o->p7.get? c=some o:=fun c o n v=>q7.extBut _ _ n (q6.extBut _ _ n (q5.extBut _ _ n v))
  exact aa (gq (ag ⟨_,rfl,k p7 e7 (r4.at fun o v=>up _ o ne.symm v) (up _ _ (bN lt) t4) (by rw[q7.1,q6.1,q5.1,z4]) fun c o n1 n2 v=>up c o n1 (k4 c o n1 n2 v)⟩)))
theorem jHM {tp:Bool}{e it l:Addr}{i:Nat}{xs:Array Value}{x old:Value}{Q:Option Value->Shared->Prop}(ee:IsEnum s.heap e it i old)(g1:ItAt tp s.heap it l i)(o1:ObAt tp s.heap l xs)(hx:xs[i]?=some x)(ne:e≠it)
  (k:∀ h',IsEnumOut h' e it ((i:Int)+1) x s.heap.objs.size->ItAt tp h' it l (i+1)->h'.get? s.heap.objs.size=some { cls:= .type "tuple",data:= .seq #[.int i s.toks,x]} ->h'.objs.size=s.heap.objs.size+1->
   (∀ c o,c≠e->c≠it->s.heap.get? c=some o->h'.get? c=some o)->Q (some (.ref s.heap.objs.size)) { s with heap:=h',toks:=s.toks+1}):
  wpAny (model prog w) A (pyNext (.ref e)) Q E s:=by
 have ty:s.TypeIs (.ref e) "enumerate" :=⟨_,ee,rfl⟩
 unfold pyNext
 exact aa (dh (bn (name:=Str.ofString "__next__") ty F.slot_enumerate_next (bo F.slot_enumerate_next ty F.entry_enumerate_next (jM6 ee g1 o1 hx ne fun h' b1 b2 b3 b4 b5=>ag (k h' b1 b2 b3 b4 b5)) (F.args_enumerate_next_1 _))))
theorem jHN {tp:Bool}{e it l:Addr}{i:Nat}{xs:Array Value}{old:Value}{Q:Option Value->Shared->Prop}(hh:A.handled=none)(ee:IsEnum s.heap e it i old)(g1:ItAt tp s.heap it l i)(o1:ObAt tp s.heap l xs)(hx:xs[i]?=none)
  (k:∀ h',(∀ c o,c≠e->c≠it->s.heap.get? c=some o->h'.get? c=some o)->Q none { s with heap:=h'}):wpAny (model prog w) A (pyNext (.ref e)) Q E s:=by
 have ty:s.TypeIs (.ref e) "enumerate" :=⟨_,ee,rfl⟩
 unfold pyNext
 refine aa (dh (bn (name:=Str.ofString "__next__") ty F.slot_enumerate_next (bo F.slot_enumerate_next ty F.entry_enumerate_next (?_:wpAny (model prog w) _ (field (.ref e) 2 >>= _) _ _ _) (F.args_enumerate_next_1 _))))
 refine aa (bt ee rfl (x:= .ref it) rfl (aa (next0 hh g1 o1 hx fun h' x kp ⟨u,eu,cu⟩=>?_)))
 exact aa (dE (T:= "StopIteration") (b:=true) ⟨u,eu,cu⟩ gh (ag (k _ fun c o _ n v=>kp c o n v)))
end
set_option maxHeartbeats 2000000 in
theorem jJJ (tp:Bool)(l:Addr)(xs:Array Value)(u:Obj):
  Meets (Builtin.«enumerate.__new__» ⟨[.type "enumerate", .ref l],[]⟩) (fun _ R s=>s.heap.get? l=some u/\ObAt tp s.heap l xs/\
   R (.ok (.ret (.ref (s.heap.push (qE tp l)).objs.size))) { s with heap:=(s.heap.push (qE tp l)).push { cls:= .type "enumerate",data:= .fields #[.none, .bool false, .ref s.heap.objs.size,rawInt 0, .none, .none]}}):=
 .of_wp fun prog w A R s h=>by
  obtain⟨hp,g,d,tk,os⟩:=s
  obtain⟨a0,a1,q⟩:=h
  have sub:=sub_enumerate
  have e1:ObAt tp (Shared.heap ⟨hp,g,d,tk,os⟩) l xs:=a1
  obtain⟨c,dct,dt,sl⟩:=u
  obtain⟨n,hc,hd⟩:∃ n,c=(if tp then .type "tuple" else .type "list")/\dt= .seq xs n:=by
   cases tp with
   | false=>obtain⟨o,e,hc,n,hd⟩:=a1; cases (a0.symm.trans e); exact⟨n,hc,hd⟩
   | true=>obtain⟨o,e,hc,n,hd⟩:=a1; cases (a0.symm.trans e); exact⟨n,hc,hd⟩
  subst hd
  cases tp with
  | false=>
   subst hc
   wp_walk using bU a0
   refine wpAny_stack_any fun _=>ag ?_
   split
   ·rename_i c _ _ _ _ _
    cases hcc:(c==Value.type "enumerate")
    all_goals (wp_walk using bU a0,jBS e1; exact⟨_,rfl,q⟩)
   ·wp_walk using bU a0,jBS e1
    exact⟨_,rfl,q⟩
  | true=>
   subst hc
   wp_walk using bU a0
   refine wpAny_stack_any fun _=>ag ?_
   split
   ·rename_i c _ _ _ _ _
    cases hcc:(c==Value.type "enumerate")
    all_goals (wp_walk using bU a0,jBS e1; exact⟨_,rfl,q⟩)
   ·wp_walk using bU a0,jBS e1
    exact⟨_,rfl,q⟩
theorem jMA {prog:Program}{w:World}{A:Around}{E:Value->Shared->Prop}{s:Shared}{tp:Bool}{l:Addr}{xs:Array Value}{Q:Value->Shared->Prop}(a1:ObAt tp s.heap l xs)
  (k:∀ h',IsEnum h' (s.heap.objs.size+1) s.heap.objs.size 0 .none->ItAt tp h' s.heap.objs.size l 0->(∀ c o,s.heap.get? c=some o->h'.get? c=some o)->Q (.ref (s.heap.objs.size+1)) { s with heap:=h'}):
  wpAny (model prog w) A (call (.type "enumerate") [.ref l]) Q E s:=by
 obtain⟨u,eu⟩:∃ u,s.heap.get? l=some u:=by
  cases tp with
  | false=>obtain⟨o,e,_⟩:=a1; exact⟨o,e⟩
  | true=>obtain⟨o,e,_⟩:=a1; exact⟨o,e⟩
 refine callType_new F.called_enumerate (by decide) (F.typeCall_enumerate_1 _) (F.newCall_enumerate_1 _) (fun obj=>F.args_object_init_2 obj _) F.entry_enumerate_new (jJJ tp l xs u) ⟨eu,a1,?_⟩
 have z1:(s.heap.push (qE tp l)).objs.size=s.heap.objs.size+1:=bf ..
 have y2:IsEnum ((s.heap.push (qE tp l)).push { cls:= .type "enumerate",data:= .fields #[.none, .bool false, .ref s.heap.objs.size,rawInt 0, .none, .none]}) (s.heap.push (qE tp l)).objs.size s.heap.objs.size 0 .none:=ak _ rfl
 have y1:((s.heap.push (qE tp l)).push { cls:= .type "enumerate",data:= .fields #[.none, .bool false, .ref s.heap.objs.size,rawInt 0, .none, .none]}).get? s.heap.objs.size=some (qE tp l):=ae _ (ak _ (jBU _ _))
 show _/\_
 rw[z1] at y2 ⊢
 exact⟨⟨_,y2,rfl⟩,k _ y2 (.new tp y1) fun c o e=>ae _ (ae _ e)⟩
section
variable {X:Cx}
def Ite (tp:Bool)(K:W.Frag)(l:Addr):It:=
 ⟨fun i H=>∃ xs x,Sq tp K H l xs/\xs[i]?=some x,
  fun i H v H'=>∃ T x,H T=none/\v= .ref T/\H'=upd H T (.tup [.int (i:Int),x])/\∀ xs,Sq tp K H l xs->xs[i]?=some x,
  fun i H=>∃ xs,Sq tp K H l xs/\xs.length<=i⟩
theorem jI4 {P:Program}{w:World}{K:W.Frag}{elts:List Expr}{x1:Nat}{tps:Pos}(tp:Bool)(l e it:Addr)(ne:e≠it):
  Turn P w K (.Tuple elts x1 tps) (Ite tp K l) [e,it] e (fun i h=>(∃ old,IsEnum h e it ((i:Nat):Int) old)/\ItAt tp h it l i) where
 mem:=by simp
 obj:=fun i h st b hb=>by
  obtain⟨⟨old,he⟩,y1⟩:=st
  simp only [aC,bg,cH] at hb
  rcases hb with rfl | rfl
  ·exact⟨_,he,fun v q=>by cases q⟩
  ·exact y1.obj
 keep:=fun i h h' st k=>by
  obtain⟨⟨old,he⟩,h1⟩:=st
  exact⟨⟨old,k e (by simp) _ he⟩,h1.at fun o z=>k it (by simp) o z⟩
 item:=by
  intro X hP hw hK hc i pins s σ H E I hf st hg
  subst hP hw hK
  obtain⟨xs,x,hq1,hx⟩:=hg
  obtain⟨⟨old,he⟩,h1⟩:=st
  obtain⟨its1,r1,p1,_⟩:=I.sq hq1
  obtain⟨u,hu,ru⟩:=r1.get hx
  refine jHM he h1 p1 (x:=u) (by simpa using hu) ne fun h' a1 a2 a3 a4 a5=>?_
  refine⟨_,rfl,wpAny_letOwnedTupleGo_enum (s:= { s with heap:=h',toks:=s.toks+1}) a1 fun h'' b1 sb=>?_⟩
  have fresh:H s.heap.objs.size=none:=I.fresh
  have ntr:∀ b o,H b=some o->b∉([e,it]:List Addr):=fun b o z hb=>by
   have:=(hf b hb).1
   rw[z] at this; cases this
  have kp:∀ b o,b∉([e,it]:List Addr)->s.heap.get? b=some o->h''.get? b=some o:=fun b o hb z=>by
   simp only [aC,bg,cH,gT] at hb
   exact(sb.2 b hb.1).trans (a5 b o hb.1 hb.2 z)
  have nz:s.heap.objs.size≠e:=bN (am he)
  have hT2:h''.get? s.heap.objs.size=some { cls:= .type "tuple",data:= .seq #[.int i s.toks,u]} :=(sb.2 _ nz).trans a3
  have I2:Inv X pins σ (upd H s.heap.objs.size (.tup [.int (i:Int),x])) { s with heap:=h'',toks:=s.toks+1} :=by
   refine I.step (g':=s.gens) (d':=s.drawn) (t':=s.toks+1) (ch:=[e,it]) (fun b hb=>?_) (fun b o _ _ hb z _=>kp b o hb z) (fun b o _ _ hb z _=>⟨o.slots,kp b o hb z⟩)
    (fun b o _ z n=>by rw[j9 (aL (am z))]; exact n) (fun b o hb z=>⟨o,kp b o hb z⟩) (fun b ws z=>by rw[j9 (jA z fresh)]; exact z) (fun b o ws z=>by rw[j9 (jA z fresh)]; exact z)
    (fun b ps z=>⟨#[],by rw[j9 (jA z fresh),z]; simp⟩) (fun m hm=>?_) (fun b o z=>?_) I.bare
   ·obtain⟨f0,f1,f2,f3,f4,f5⟩:=hf b hb
    exact⟨f3,f1,f4,f5⟩
   ·obtain⟨o,es,ep,ho,r⟩:=hm
    exact⟨o,es,ep,kp _ o (fun hb=>(hf _ hb).2.1 rfl) ho,r⟩
   ·by_cases hb:b=s.heap.objs.size
    ·subst hb
     rw[j4] at z
     cases z
     exact⟨by rw[cL]; show 2<=_; decide,[.int i s.toks,u], .cons ⟨_,rfl⟩ (.cons ru .nil),0,hT2⟩
    ·rw[j9 hb] at z
     refine(I.hok b o z).stay (fun c w hc q=>kp c w ?_ q) (fun c q=>by rw[j9 (jA q fresh)]; exact q) (fun c ws q=>by rw[j9 (jA q fresh)]; exact q)
     rcases hc with rfl | hc
     ·exact ntr _ _ z
     ·exact ntr _ _ hc
  refine⟨.ref s.heap.objs.size,_,I2,rfl,⟨_,x,fresh,rfl,rfl,fun xs' q1=>by rw[I.sq_inj q1 hq1]; exact hx⟩,⟨⟨_,b1⟩,?_⟩,fun b hb=>?_⟩
  ·exact a2.at fun o z=>(sb.2 it ne.symm).trans z
  ·rw[j9 (fun q=>by
    obtain⟨o,eo⟩:∃ o,s.heap.get? b=some o:=by
     simp only [aC,bg,cH] at hb
     rcases hb with rfl | rfl
     ·exact⟨_,he⟩
     ·obtain⟨o,z,_⟩:=h1.obj; exact⟨o,z⟩
    exact absurd (am eo) (by rw[q]; exact bc _))]
   exact(hf b hb).1
 done:=by
  intro X hP hw hK hc i pins s σ H E I hf st hg
  subst hP hw hK
  obtain⟨xs,hq1,hend⟩:=hg
  obtain⟨⟨old,he⟩,h1⟩:=st
  obtain⟨its1,r1,p1,_⟩:=I.sq hq1
  have e1:=r1.length
  refine jHN (I.ok.hd hc) he h1 p1 (by simp; omega) fun h' kp=>⟨rfl,?_⟩
  have kp2:∀ b o,b∉([e,it]:List Addr)->s.heap.get? b=some o->h'.get? b=some o:=fun b o hb z=>by
   simp only [aC,bg,cH,gT] at hb
   exact kp b o hb.1 hb.2 z
  have ntr:∀ b o,H b=some o->b∉([e,it]:List Addr):=fun b o z hb=>by
   have:=(hf b hb).1
   rw[z] at this; cases this
  refine I.step (g':=s.gens) (d':=s.drawn) (t':=s.toks) (ch:=[e,it]) (fun b hb=>?_) (fun b o _ _ hb z _=>kp2 b o hb z) (fun b o _ _ hb z _=>⟨o.slots,kp2 b o hb z⟩)
   (fun b o _ z n=>n) (fun b o hb z=>⟨o,kp2 b o hb z⟩) (fun b ws z=>z) (fun b o ws z=>z) (fun b ps z=>⟨#[],by rw[z]; simp⟩) (fun m hm=>?_) (fun b o z=>?_) I.bare
  ·obtain⟨f0,f1,f2,f3,f4,f5⟩:=hf b hb
   exact⟨f3,f1,f4,f5⟩
  ·obtain⟨o,es,ep,ho,r⟩:=hm
   exact⟨o,es,ep,kp2 _ o (fun hb=>(hf _ hb).2.1 rfl) ho,r⟩
  ·refine(I.hok b o z).stay (fun c w hc q=>kp2 c w ?_ q) (fun _ q=>q) fun _ _ q=>q
   rcases hc with rfl | hc
   ·exact ntr _ _ z
   ·exact ntr _ _ hc
 self:=fun _ _ _ _ _ st h=>wpAny_pyIter_enum st.1.choose_spec h
def iEnum (K:W.Frag)(ta:TA):TI:=fun σ H R=>ta σ H fun vs H1=>∃ tp l,vs=[.ref l]/\(∃ xs,Sq tp K H1 l xs)/\R (Ite tp K l) H1
theorem jNS {a:Expr}{ta:TA}{p pos:Pos}{elts:List Expr}{x1:Nat}{tp:Pos}(hg:Gl X "enumerate")(hm:X.mg "enumerate" =none)(ha:PA X [a] ta)(hv:bootBuiltins "enumerate" =some (.type "enumerate"):=by decide+kernel)
  (he:starEach [a] X.env=(false,eval a X.env)::starEach [] X.env:=by rfl) (hpl:(backTo pos (starEach [] X.env)).any (·.1)=false:=by rfl):
  PI X (.Tuple elts x1 tp) (.Call (.Name "enumerate" p) [a] [] pos) (iEnum X.K ta):=by
 intro pins s σ H R I h
 refine Call_ (jCO I hg hm hv (bQ (thn (ha pos pins s σ H _ I h) fun us s1 ⟨vs,H1,I1,r1,q1⟩=>?_) he hpl))
 obtain⟨t1,l1,rfl,⟨xs,hq1⟩,q⟩:=q1
 obtain⟨u,rfl,ru⟩:=r1.one
 cases ru
 obtain⟨its1,_,p1,_⟩:=I1.sq hq1
 refine jMA p1 fun h' a1 a2 kp=>?_
 have I2:Inv X pins σ H1 { s1 with heap:=h'} :=I1.kept (t':=s1.toks) kp
 refine wpAny_pyIter_enum a1 ⟨s1.heap.objs.size+1,[s1.heap.objs.size+1,s1.heap.objs.size],_,Ite t1 X.K l1,H1,rfl,I2,jI4 t1 l1 _ _ (Nat.succ_ne_self _),⟨⟨_,a1⟩,a2⟩,fun b hb=>?_,q⟩
 have hge:s1.heap.objs.size<=b:=by
  simp only [aC,bg,cH] at hb
  rcases hb with rfl | rfl
  ·exact dc _ 1
  ·exact af _
 exact I1.fpOk hge (I1.hok.fresh hge)
theorem jJT {a:Expr}{t:TA}{p pos:Pos}{elts:List Expr}{x1:Nat}{tp:Pos}(hg:Gl1 X "enumerate")(hm:X.mg "enumerate" =none)(ha:JA X [a] t)(he:starEach [a] X.env=(false,eval a X.env)::starEach [] X.env)(hv:bootBuiltins "enumerate" =some (.type "enumerate"):=by decide+kernel)
  (hpl:(backTo pos (starEach [] X.env)).any (·.1)=false:=by rfl):JI X (.Tuple elts x1 tp) (.Call (.Name "enumerate" p) [a] [] pos) (iEnum X.K t):=⟨jNS hg.a hm ha.h hv he hpl⟩
end
section
variable {K:W.Frag}{m:List (Option Nat)}{g:TG}{tt:TT}{te:TE}{σ:St}{H1:Hp}{Q:VK}
end
section
variable {κ:Type} [DecidableEq κ]
end
section
variable {P:Program}{w:World}{H:Hp}{h:Heap}{a:Addr}
end
section
variable {X:Cx}{pins:List (Addr×Obj)}{σ:St}{H:Hp}{s:Shared}{a:Addr}{y v:V}{u r:Value}{o:Option V}{A:Around}{E:Value->Shared->Prop}
end
section
variable {X:Cx}{pins:List (Addr×Obj)}{σ:St}{H:Hp}{s:Shared}{a:Addr}{kvs:List (Key×V)}{k:Key}{u:Value}{A:Around}{E:Value->Shared->Prop}
end
section
variable {X:Cx}{o i e value:Expr}{pos pos' tpos:Pos}{td ty tv:TE}
end
section
variable {X:Cx}{pos:Pos}
end
section
variable {X:Cx}{pins:List (Addr×Obj)}{σ:St}{H:Hp}{s:Shared}{a:Addr}{y d:V}{u r:Value}{o:Option V}{A:Around}{E:Value->Shared->Prop}
end
section
variable {X:Cx}{o e f:Expr}{apos cpos:Pos}{td ty tx:TE}
end
section
variable {X:Cx}{pins:List (Addr×Obj)}{σ:St}{H:Hp}{s:Shared}{a:Addr}{kvs:List (Key×V)}{A:Around}{E:Value->Shared->Prop}
end
section
variable {X:Cx}{pins:List (Addr×Obj)}{σ:St}{H:Hp}{s:Shared}{a:Addr}{y:V}{u:Value}{A:Around}{E:Value->Shared->Prop}
end
section
variable {κ:Type} [DecidableEq κ]
end
section
variable {prog:Program}{w:World}{A:Around}{E:Value->Shared->Prop}{s:Shared}{d:Addr}{kvs:List (Key×Value)}
end
section
variable {X:Cx}{o i e f value:Expr}{td ty tv tx:TE}{pos pos' apos cpos:Pos}
end
section
variable {prog:Program}{w:World}{A:Around}{E:Value->Shared->Prop}{s:Shared}
end
section
variable {prog:Program}{w:World}{K:Type} [DecidableEq K]{knd:KeyKind prog w K}{A:Around}{R:Result->Shared->Prop}{I:Addr}{fp wr:List Addr}{n:Nat}{P:Nat->Value->Prop}{St:Nat->Shared->Prop}
end
section
variable {prog:Program}{w:World}{K:Type} [DecidableEq K]{knd:KeyKind prog w K}{A:Around}{E:Value->Shared->Prop}{s:Shared}
end
section
variable {X:Cx}
end
section
variable {X:Cx}
end
section
variable {P:Program}{w:World}{K:W.Frag}{mg:Str->Option Value}{base:Heap}{N:List Str}{qual:Str}{sc:Scope}{f:Addr}{cd:Value}{cl:List (Str×Addr)}{A:Around}{outer:List Env}{s:Shared}{H:Hp}{x:Str}
end
section
variable {X:Cx}
def AtS (tp:Bool)(H:Hp)(a:Addr)(xs:List V):Prop:=match tp with
 | false=>H a=some (.lst xs)
 | true=>H a=some (.tup xs)
end
section
variable {K:W.Frag}{m:List (Option Nat)}{g:TG}{tt:TT}{te:TE}{σ:St}{H1:Hp}{Q:VK}
theorem jKH {a:Addr}{xs:List V}(hn:xs.length<sizeLine)(Pv:Addr->Nat->St->Hp->List V->Prop)(h0:∀ D,H1 D=none->Pv D 0 (blkσ m σ) (upd H1 D (.lst [])) [])
  (hD:∀ D i σ' H' zs,H1 D=none->Pv D i σ' H' zs->H' a=some (.lst xs)/\H' D=some (.lst zs)/\zs.length<=i)
  (hs:∀ D i σ' H' zs x,H1 D=none->xs[i]?=some x->Pv D i σ' H' zs->g x σ' H' fun σ2 H2=>tt σ2 H2 fun b H3=>if b=true then te σ2 H3 fun v H4=>H4 D=some (.lst zs)/\Pv D (i+1) σ2 (upd H4 D (.lst (zs++[v]))) (zs++[v]) else Pv D (i+1) σ2 H3 zs)
  (hd:∀ D σ' H' zs,H1 D=none->Pv D xs.length σ' H' zs->Q (.ref D) H'):qN m g tt te σ Q (Itl K a) H1:=by
 intro D hDn
 refine⟨fun i k σ' H' zs=>k=xs.length - i/\i<=xs.length/\Pv D i σ' H' zs,⟨_,rfl,aW _,h0 D hDn⟩,?_⟩
 rintro i k σ' H' zs ⟨rfl,hi,p⟩
 obtain⟨s1,q1,q2⟩:=hD D i σ' H' zs hDn p
 refine⟨q1,by omega,?_⟩
 by_cases hlt:i<xs.length
 ·refine .inr ⟨⟨xs,xs[i],SqL.of s1,by simp [hlt]⟩,Pv D (i+1),fun σ2 H2 zs z=>⟨xs.length - (i+1),by omega,rfl,hlt,z⟩,fun v H'' y=>?_⟩
  obtain⟨e1,e2⟩:=y
  subst e1
  exact hs D i σ' _ zs v hDn (e2 xs (SqL.of s1)) p
 ·have e:i=xs.length:=by omega
  subst e
  exact .inl ⟨⟨xs,SqL.of s1,af _⟩,hd D σ' H' zs hDn p⟩
end
section
variable {X:Cx}{sc:Scope}{cl:List (Str×Addr)}{C:Addr}{Nc:List Str}{fp:List Addr}{s:Shared}{H:Hp}
theorem jM0 {sc2:Scope}(h:(sc2.names.all fun y=>decide (y.2= .free->sc.names.lookup y.1=some .cell\/sc.names.lookup y.1=some .free))=true):
  ∀ y∈sc2.names,y.2= .free->(blk X sc cl C Nc fp s H).env.scope.names.lookup y.1=some .cell\/(blk X sc cl C Nc fp s H).env.scope.names.lookup y.1=some .free:=fun y hy hf=>by
 rcases au (aU.mp h y hy) hf with q | q
 ·exact .inl (jA1 (by decide) q)
 ·exact jA4 q
theorem jLX {tg a:Expr}{ta:TE}(hl:JE (blk X sc cl C Nc fp s H) a ta):JI (blk X sc cl C Nc fp s H) tg a (iTup X.K ta):=yT hl
variable {sc2:Scope}{cl2:List (Str×Addr)}{C2:Addr}{Nc2:List Str}{fp2:List Addr}{s2:Shared}{H2:Hp}
theorem jJX:IxR (blk (blk X sc cl C Nc fp s H) sc2 cl2 C2 Nc2 fp2 s2 H2) (rIxT X.K):=jG
theorem jG4:yJ (blk X sc cl C Nc fp s H) (.type "tuple") (fun xs H Q=>∃ p ys,xs=[.ref p]/\((SqL X.K H p ys/\∀ l,H l=none->Q (.ref l) (upd H l (.tup ys)))\/(SqT X.K H p ys/\Q (.ref p) H))):=jY
end
section
variable {K:W.Frag}{m:List (Option Nat)}{g:TG}{tt:TT}{te:TE}{σ:St}{H:Hp}{Q:VK}
abbrev TupsK (H H':Hp):Prop:=∀ b xs,H b=some (.tup xs)->H' b=some (.tup xs)
structure ZOk (Z:Hp->List V->Nat->Prop):Prop where
 z0:∀ H,Z H [] 0
 mono:∀ H H' zs j,TupsK H H'->Z H zs j->Z H' zs j
 len:∀ H zs j,Z H zs j->zs.length<=j
theorem jEF {H:Hp}{D:Addr}{zs:List V}(h:H D=some (.lst zs))(o:HO):TupsK H (upd H D o):=fun b xs hb=>by
 rw[j9 (fun e=>by rw[e,h] at hb; cases hb)]
 exact hb
def TurnZ (g:TG)(tt:TT)(te:TE)(σP:St->Prop)(Z:Hp->List V->Nat->Prop)(x:V)(j:Nat)(σ':St)(H':Hp)(zs:List V):Prop:=
 ∀ (R:St->V->Hp->Prop) (S:St->Hp->Prop),(∀ σ2 v H2,σP σ2->Ext H' H2->Z H2 (zs++[v]) (j+1)->R σ2 v H2)->(∀ σ2 H2,σP σ2->Ext H' H2->Z H2 zs (j+1)->S σ2 H2)->
  g x σ' H' fun σ2 H2=>tt σ2 H2 fun b H3=>if b=true then te σ2 H3 (R σ2) else S σ2 H3
theorem jKI {tp:Bool}{a:Addr}{xs:List V}(σP:St->Prop)(Z:Hp->List V->Nat->Prop)(zo:ZOk Z)(ha:AtS tp H a xs)(hn:xs.length<sizeLine)(h0:σP (blkσ m σ))
  (step:∀ j x σ' H' zs,xs[j]?=some x->σP σ'->Ext H H'->Z H' zs j->TurnZ g tt te σP Z x j σ' H' zs)
  (hd:∀ D H' zs,H' D=some (.lst zs)->Ext H H'->H D=none->Z H' zs xs.length->Q (.ref D) H'):qN m g tt te σ Q (match tp with | false=>Itl K a | true=>Itt K a) H:=by
 have turn:∀ D j σ' H' zs x,H D=none->xs[j]?=some x->(σP σ'/\Ext H H'/\H' D=some (.lst zs)/\H D=none/\Z H' zs j)->g x σ' H' fun σ2 H2=>tt σ2 H2 fun b H3=>if b=true then te σ2 H3 fun v H4=>H4 D=some (.lst zs)/\(σP σ2/\Ext H (upd H4 D (.lst (zs++[v])))/\(upd H4 D (.lst (zs++[v]))) D=some (.lst (zs++[v]))/\H D=none/\Z (upd H4 D (.lst (zs++[v]))) (zs++[v]) (j+1)) else (σP σ2/\Ext H H3/\H3 D=some (.lst zs)/\H D=none/\Z H3 zs (j+1)):=by
  rintro D j σ' H' zs x hD hx ⟨p,e,h2,hn,hz⟩
  exact step j x σ' H' zs hx p e hz _ _ (fun σ2 v H2 p2 e2 z2=>⟨e2 _ _ h2,p2,(e.trans e2).updNew hn _,j4,hn,zo.mono _ _ _ _ (jEF (e2 _ _ h2) _) z2⟩) fun σ2 H2 p2 e2 z2=>⟨p2,e.trans e2,e2 _ _ h2,hn,z2⟩
 cases tp with
 | false=>exact jKH (xs:=xs) hn (fun D j σ' H' zs=>σP σ'/\Ext H H'/\H' D=some (.lst zs)/\H D=none/\Z H' zs j) (fun D hD=>⟨h0,(Ext.refl _).new hD _,j4,hD,zo.z0 _⟩) (fun D j σ' H' zs hD ⟨_,e,h2,_,hz⟩=>⟨e _ _ ha,h2,zo.len _ _ _ hz⟩) turn fun D σ' H' zs hD ⟨_,e,h2,hn,hz⟩=>hd D H' zs h2 e hn hz
 | true=>exact jBM (xs:=xs) hn (fun D j σ' H' zs=>σP σ'/\Ext H H'/\H' D=some (.lst zs)/\H D=none/\Z H' zs j) (fun D hD=>⟨h0,(Ext.refl _).new hD _,j4,hD,zo.z0 _⟩) (fun D j σ' H' zs hD ⟨_,e,h2,_,hz⟩=>⟨e _ _ ha,h2,zo.len _ _ _ hz⟩) turn fun D σ' H' zs hD ⟨_,e,h2,hn,hz⟩=>hd D H' zs h2 e hn hz
theorem jAM {a:Addr}{xs:List V}(σP:St->Prop)(Z:Hp->List V->Nat->Prop)(zo:ZOk Z)(ha:H a=some (.tup xs))(hn:xs.length<sizeLine)(h0:σP (blkσ m σ))
  (step:∀ j x σ' H' zs,xs[j]?=some x->σP σ'->Ext H H'->Z H' zs j->TurnZ g tt te σP Z x j σ' H' zs)
  (hd:∀ D H' zs,H' D=some (.lst zs)->Ext H H'->H D=none->Z H' zs xs.length->Q (.ref D) H'):qN m g tt te σ Q (Itt K a) H:=jKI (tp:=true) σP Z zo ha hn h0 step hd
theorem jC8 {a:Addr}{xs:List V}(σP:St->Prop)(Z:Hp->List V->Nat->Prop)(zo:ZOk Z)(ha:H a=some (.lst xs))(hn:xs.length<sizeLine)(h0:σP (blkσ m σ))
  (step:∀ j x σ' H' zs,xs[j]?=some x->σP σ'->Ext H H'->Z H' zs j->TurnZ g tt te σP Z x j σ' H' zs)
  (hd:∀ D H' zs,H' D=some (.lst zs)->Ext H H'->H D=none->Z H' zs xs.length->Q (.ref D) H'):qN m g tt te σ Q (Itl K a) H:=jKI (tp:=false) σP Z zo ha hn h0 step hd
theorem jBN {n:Nat}(σP:St->Prop)(Z:Hp->List V->Nat->Prop)(zo:ZOk Z)(hn:n<sizeLine)(h0:σP (blkσ m σ))
  (step:∀ j σ' H' zs,j<n->σP σ'->Ext H H'->Z H' zs j->TurnZ g tt te σP Z (.int (0+j)) j σ' H' zs)
  (hd:∀ D H' zs,H' D=some (.lst zs)->Ext H H'->H D=none->Z H' zs n->Q (.ref D) H'):qN m g tt te σ Q (Itr 0 n) H:=by
 refine jAX (lo:=0) (n:=n) hn (fun D j σ' H' zs=>σP σ'/\Ext H H'/\H' D=some (.lst zs)/\H D=none/\Z H' zs j) (fun D hD=>⟨h0,(Ext.refl _).new hD _,j4,hD,zo.z0 _⟩) (fun D j σ' H' zs hD hj ⟨_,e,h2,_,hz⟩=>⟨h2,zo.len _ _ _ hz⟩) ?_ fun D σ' H' zs hD ⟨_,e,h2,hn,hz⟩=>hd D H' zs h2 e hn hz
 rintro D j σ' H' zs hD hj ⟨p,e,h2,hn,hz⟩
 exact step j σ' H' zs hj p e hz _ _ (fun σ2 v H2 p2 e2 z2=>⟨e2 _ _ h2,p2,(e.trans e2).updNew hn _,j4,hn,zo.mono _ _ _ _ (jEF (e2 _ _ h2) _) z2⟩) fun σ2 H2 p2 e2 z2=>⟨p2,e.trans e2,e2 _ _ h2,hn,z2⟩
end
def outZ {α:Type}(l:List α)(p:α->Bool)(f:α->V):Hp->List V->Nat->Prop:=fun _ zs j=>zs=((l.take j).filter p).map f
theorem outZ.ok {α:Type}(l:List α)(p:α->Bool)(f:α->V):ZOk (outZ l p f):=⟨fun _=>rfl,fun _ _ _ _ _ h=>h,fun _ zs j h=>by
 rw[show zs=_ from h,ac]
 exact aH (bK _ _) (cm _ _)⟩
theorem outZ.yes {α:Type}{l:List α}{p:α->Bool}{f:α->V}{H H':Hp}{zs:List V}{j:Nat}{x:α}(h:outZ l p f H zs j)(hx:l[j]?=some x)(hp:p x=true):outZ l p f H' (zs++[f x]) (j+1):=by
 show _=_
 rw[aT,hx,bW,aD,<- show zs=_ from h]
 simp [hp]
theorem outZ.no {α:Type}{l:List α}{p:α->Bool}{f:α->V}{H H':Hp}{zs:List V}{j:Nat}{x:α}(h:outZ l p f H zs j)(hx:l[j]?=some x)(hp:p x=false):outZ l p f H' zs (j+1):=by
 show _=_
 rw[aT,hx,bW,aD,<- show zs=_ from h]
 simp [hp]
theorem outZ.all {α:Type}{l:List α}{p:α->Bool}{f:α->V}{H:Hp}{zs:List V}{n:Nat}(h:outZ l p f H zs n)(hn:l.length<=n):zs=(l.filter p).map f:=by
 rw[show zs=_ from h,aX hn]
def mapZ {α:Type}(l:List α)(f:α->V):Hp->List V->Nat->Prop:=fun _ zs j=>zs=(l.take j).map f
theorem mapZ.ok {α:Type}(l:List α)(f:α->V):ZOk (mapZ l f):=⟨fun _=>rfl,fun _ _ _ _ _ h=>h,fun _ zs j h=>by
 rw[show zs=_ from h,ac]
 exact cm _ _⟩
theorem mapZ.yes {α:Type}{l:List α}{f:α->V}{H H':Hp}{zs:List V}{j:Nat}{x:α}(h:mapZ l f H zs j)(hx:l[j]?=some x):mapZ l f H' (zs++[f x]) (j+1):=by
 show _=_
 rw[aT,hx,aD,<- show zs=_ from h]
 rfl
theorem mapZ.all {α:Type}{l:List α}{f:α->V}{H:Hp}{zs:List V}{n:Nat}(h:mapZ l f H zs n)(hn:l.length<=n):zs=l.map f:=by
 rw[show zs=_ from h,aX hn]
theorem int_at {l:List Int}{j:Nat}{x:V}(h:(l.map V.int)[j]?=some x):∃ z:Int,l[j]?=some z/\x=V.int z:=by
 rw[az] at h
 cases hq:l[j]? with
 | none=>rw[hq] at h; cases h
 | some z=>rw[hq] at h; cases h; exact⟨z,rfl,rfl⟩
theorem jOK {X:Cx}{e:Expr}{te:TE}{x:Str}{pos:Pos}{i:Nat}{pos':Pos}(hN:X.N.Nodup)(hi:X.N[i]?=some x)(hx:Loc1 X x)(he:JE X e te)(hs:swapsWith e (some (.Name x pos')) pos.line X.env=pure false):JS X (.Assign [.Name x pos'] e pos) (tAsg te (kS i)):=⟨yZ hN hi hx.a he.h hs hx.b⟩
section
variable {X:Cx}{sc:Scope}{cl:List (Str×Addr)}{C:Addr}{Nc:List Str}{fp:List Addr}{s:Shared}{H:Hp}
end
section
variable {X:Cx}{st:Stmt}{sts:List Stmt}{t:TS}{e:Expr}{tt:TT}
end
end L2
namespace L2
open PySem PySem.Spec PyProof.Rows
end L2
namespace L2
open PySem
end L2
namespace L2
open PySem PySem.Spec PyProof.Rows
section
variable {m:List (Option Nat)}{g:TG}{tt:TT}{te:TE}{σ:St}{H1:Hp}{Q:VK}
end
open PySem.AutoSeq1 (wpAny_loadPart')
section
variable {prog:Program}{w:World}{A:Around}{E:Value->Shared->Prop}{s:Shared}
end
def jCV (a:Int)(n:Nat):List Int:=(List.range n).map fun (i:Nat)=>a+(i:Int)
theorem jI1 {a:Int}{n:Nat}{acc:Array Value}(h:ItemsOf (fun i v=>∃ t,v=Value.int (a+(i:Int)*1) t) acc n):Vals ((jCV a n).map V.int) acc.toList:=by
 have key:∀ (l:List Value) (k:Nat),(∀ j v,l[j]?=some v->∃ t,v=Value.int (a+((k+j:Nat):Int)) t)->Vals ((range' k l.length).map fun (i:Nat)=>V.int (a+(i:Int))) l:=by
  intro l
  induction l with
  | nil=>intro k _; exact .nil
  | cons v l ih=>
   intro k hk
   rw[bp,List.range'_succ,cF]
   refine .cons ?_ (ih (k+1) fun j u hj=>?_)
   ·obtain⟨t,e⟩:=hk 0 v rfl
    exact⟨t,by simpa using e⟩
   ·obtain⟨t,e⟩:=hk (j+1) u (by simpa using hj)
    exact⟨t,by rw[e]; congr 2; omega⟩
 have:=key acc.toList 0 fun j v hj=>by
  obtain⟨t,e⟩:=h.2 j v (by simpa using hj)
  exact⟨t,by rw[e,bY,Nat.zero_add]⟩
 rw[bh,h.1,<- gk] at this
 unfold jCV
 rw[bv]
 exact this
section
variable {X:Cx}
theorem jF3:yJ X (.type "range") (fun xs H Q=>∃ i j:Int,xs=[.int i, .int j]/\∀ p,H p=none->Q (.ref p) (upd H p (.rng i j))):=by
 intro pins s σ H xs us Q I r h
 obtain⟨i,j,rfl,q⟩:=h
 obtain⟨u,v,rfl,ru,rv⟩:=r.two
 obtain⟨t,rfl⟩:=ru
 obtain⟨t',rfl⟩:=rv
 refine call_range_2 ⟨.ref s.heap.objs.size,_,I.laid (o:= .rng i j) (fun b o e=>ae _ e) (af _) ?_,rfl,q _ I.fresh⟩
 exact⟨_,_,_,ak _ rfl⟩
def rSumT (K:W.Frag):List V->Hp->VK->Prop:=fun xs H Q=>∃ (p:Addr) (ns:List Int),xs=[.ref p]/\(SqT K H p (ns.map V.int))/\Q (.int ns.sum) H
theorem jKQ (hc:X.calm=true):yJ X (.builtin "sum") (rSumT X.K):=by
 intro pins s σ H xs us Q I r h
 obtain⟨p,ns,rfl,hq,q⟩:=h
 obtain⟨u,rfl,rx⟩:=r.one
 cases rx
 obtain⟨its,r',pl,hz⟩:=I.tuple hq
 have pl:s.heap.IsTuple p its.toArray:=pl
 have hlen:=r'.length
 rw[ac] at hlen
 refine call_sum_walkG (d9 pl ?_)
 have hne:p≠s.heap.objs.size:=by
  obtain⟨o,ho,_⟩:=pl
  exact aL (am ho)
 refine⟨s.heap.objs.size,_,_,_,_,_,fun i=>ns.getD i 0,rfl,Walks.tuple (by simpa using I.ok.hd hc) _ p hne its.toArray,⟨⟨_,ak _ rfl,rfl,rfl⟩,pl.push _⟩,(fun b hb=>?_),(fun i v hP=>?_),fun h' tk t' hk=>?_⟩
 ·show b<(s.heap.push _).objs.size
  rw[bf]
  obtain⟨o,ho,_⟩:=pl
  have:=am ho
  rcases aC.mp hb with rfl | hb
  ·exact aF _
  ·rcases aC.mp hb with rfl | hb
   ·exact aq this
   ·cases hb
 ·have hi:its[i]?=some v:=by simpa using hP
  have hb:i<ns.length:=by
   rw[hlen]
   exact(ay.mp hi).1
  obtain⟨u,hu,ru⟩:=r'.get (i:=i) (x:= .int (ns[i])) (by simp [hb])
  rw[hi] at hu
  cases hu
  obtain⟨t,rfl⟩:=ru
  exact⟨t,by simp [List.getD,hb]⟩
 ·have e:preSum (fun i=>ns.getD i 0) its.toArray.size=ns.sum:=by
   rw[jB7,aw,<- hlen,bF]
  rw[e]
  exact⟨.int _,H,I.kept (t':=tk) fun b o e=>hk b o (by
   intro z
   have z:b=s.heap.objs.size:=by simpa using z
   exact absurd (am e) (by rw[z]; exact bc _)) (ae _ e),⟨_,rfl⟩,q⟩
variable {sc:Scope}{cl:List (Str×Addr)}{C:Addr}{Nc:List Str}{fp:List Addr}{s:Shared}{H:Hp}
end
section
variable {P:Program}{w:World}{K:W.Frag}{mg:Str->Option Value}{base:Heap}
end
section
variable {X:Cx}{Z:Shared->Hp->Prop}{zh:Hp->Prop}{k:Nat}{a:Addr}{sp:Sp}{x:Str}{p pos:Pos}{e:Expr}{es:List Expr}{t:TA}{j:Nat}
end
end L2
end
section
namespace TM
open PySem PyProof.Rows
class Od where
 kd:SortKind
 ky:Keyed->Int
 is:Keyed->Prop
abbrev key [Od]:Keyed->Int:=Od.ky
abbrev IsI [Od]:Keyed->Prop:=Od.is
class LtOk (prog:Program) (w:World) (A:Around) (s:Shared) [Od]:Prop where
 lt:∀ {E:Value->Shared->Prop}{st:SortSt}{x y:Keyed}{Q:Option Bool->SortSt->Prop},kindOf st=Od.kd->IsI x->IsI y->Q (some (decide (key x<key y))) st->wpS (model prog w) A E s (lt' x y) Q st
variable [Od]
def jOQ:Bool->Keyed->Array Keyed->Nat->Nat->Nat->StateT SortSt Sem (Option Nat):=sortPriv% PySem.Builtin.gallop
theorem elP:(sortPriv% PySem.Builtin.elem)=elem':=rfl
theorem ltP:(sortPriv% PySem.Builtin.lt)=lt':=rfl
theorem ltAtP:(sortPriv% PySem.Builtin.ltAt)=ltAt':=rfl
theorem gallopP:(sortPriv% PySem.Builtin.gallop)=jOQ:=rfl
section
variable {prog:Program}{w:World}{A:Around}{E:Value->Shared->Prop}{s:Shared}
end
section
variable {prog:Program}{w:World}{A:Around}{E:Value->Shared->Prop}{s:Shared} [LtOk prog w A s]
end
def jDQ:Nat->StateT SortSt Sem Unit:=sortPriv% PySem.Builtin.setMinGallop
theorem setMinP:(sortPriv% PySem.Builtin.setMinGallop)=jDQ:=rfl
def jLQ:Array Keyed->Array Keyed->StateT SortSt Sem (Array Keyed):=sortPriv% PySem.Builtin.mergeLo
theorem mergeLoP:(sortPriv% PySem.Builtin.mergeLo)=jLQ:=rfl
def jLR:Array Keyed->Array Keyed->StateT SortSt Sem (Array Keyed):=sortPriv% PySem.Builtin.mergeHi
theorem mergeHiP:(sortPriv% PySem.Builtin.mergeHi)=jLR:=rfl
section
variable {a b out:Array Keyed}{i j k:Nat}
end
section
variable {prog:Program}{w:World}{A:Around}{E:Value->Shared->Prop}{s:Shared} [LtOk prog w A s]
end
section
variable {prog:Program}{w:World}{A:Around}{E:Value->Shared->Prop}{s:Shared} [LtOk prog w A s]
end
section
variable {a b out:Array Keyed}{i j k:Nat}
end
section
variable {prog:Program}{w:World}{A:Around}{E:Value->Shared->Prop}{s:Shared} [LtOk prog w A s]
end
section
variable {prog:Program}{w:World}{A:Around}{E:Value->Shared->Prop}{s:Shared} [LtOk prog w A s]
end
section
variable {prog:Program}{w:World}{A:Around}{E:Value->Shared->Prop}{s:Shared} [LtOk prog w A s]{a₀:Array Keyed}{p:Array (Nat×Nat×Nat)}{F:Nat->Int}{lo:Nat}
end
section
variable {prog:Program}{w:World}{A:Around}{E:Value->Shared->Prop}{s:Shared} [LtOk prog w A s]
end
section
variable {xs ys:Array Keyed}
end
section
variable {prog:Program}{w:World}{A:Around}{E:Value->Shared->Prop}{s:Shared} [LtOk prog w A s]{a₀:Array Keyed}
end
end TM
end
section
namespace TM
open PySem PySem.Spec PyProof.Rows
section
variable {prog:Program}{w:World}{A:Around}{E:Value->Shared->Prop}{s:Shared}
end
end TM
end
section
namespace L2
open PySem PySem.Spec PyProof.Rows
section
variable {prog:Program}{w:World}{A:Around}{E:Value->Shared->Prop}{s:Shared}{d:Addr}{kvs:List (Key×Value)}
end
section
variable {X:Cx}{x:Str}{p pos kpos:Pos}{e:Expr}{es:List Expr}{kws:List Keyword}{t tk:TA}{te:TE}{nm:Option Str}{ks:List Str}{id:String}{r:List V->List V->Hp->VK->Prop}
end
section
variable {X:Cx}
theorem jH2 {K:W.Frag}{tp:Bool}{l:Addr}{xs:List V}{g:TG}{tb:TS}{D:Ends}{σ:St}{H:Hp}(Pv:Nat->St->Hp->Prop)(h0:Pv 0 σ H)(hl:∀ i σ H,Pv i σ H->Sq tp K H l xs)
  (hs:∀ i x T σ H,xs[i]?=some x->H T=none->Pv i σ H->g (.ref T) σ (upd H T (.tup [.int (i:Int),x])) fun σ2 H2=>tb { D with nx:=Pv (i+1),ct:=Pv (i+1),bk:=D.nx} σ2 H2) (hd:∀ σ H,Pv xs.length σ H->D.nx σ H):
  ∃ W:Nat->Nat->St->Hp->Prop,(∃ m,W 0 m σ H)/\∀ i m σ H,W i m σ H->
   ((Ite tp K l).stop i H/\D.nx σ H)\/((Ite tp K l).go i H/\∃ N:St->Hp->Prop,(∀ σ' H',N σ' H'->∃ m',m'<m/\W (i+1) m' σ' H')/\∀ x H',(Ite tp K l).yld i H x H'->g x σ H' fun σ2 H2=>tb { D with nx:=N,ct:=N,bk:=D.nx} σ2 H2):=by
 refine⟨fun i m σ H=>m=xs.length - i/\i<=xs.length/\Pv i σ H,⟨_,rfl,aW _,h0⟩,?_⟩
 rintro i m σ H ⟨rfl,hi,p⟩
 have s1:=hl i σ H p
 by_cases hlt:i<xs.length
 ·refine .inr ⟨⟨xs,xs[i],s1,by simp [hlt]⟩,Pv (i+1),fun σ' H' p'=>⟨xs.length - (i+1),by omega,rfl,hlt,p'⟩,fun v H'' y=>?_⟩
  obtain⟨T,x,e1,e2,e3,e4⟩:=y
  subst e2 e3
  exact hs i x T σ _ (e4 xs s1) e1 p
 ·have e:i=xs.length:=by omega
  subst e
  exact .inl ⟨⟨xs,s1,af _⟩,hd σ H p⟩
end
def All2 {α β:Type}(R:α->β->Prop):List α->List β->Prop
 | [],[]=>True
 | a::as,b::bs=>R a b/\All2 R as bs
 | _,_=>False
section
variable {α β:Type}{R S:α->β->Prop}
theorem All2.len:∀ {as:List α}{bs:List β},All2 R as bs->as.length=bs.length
 | [],[],_=>rfl
 | _::_,_::_,h=>bP (· +1) (All2.len h.2)
theorem All2.imp (f:∀ a b,R a b->S a b):∀ {as:List α}{bs:List β},All2 R as bs->All2 S as bs
 | [],[],_=>trivial
 | _::_,_::_,h=>⟨f _ _ h.1,All2.imp f h.2⟩
theorem All2.snoc {a:α}{b:β} :∀ {as:List α}{bs:List β},All2 R as bs->R a b->All2 R (as++[a]) (bs++[b])
 | [],[],_,h=>⟨h,trivial⟩
 | _::_,_::_,h,k=>⟨h.1,All2.snoc h.2 k⟩
theorem All2.get:∀ {as:List α}{bs:List β}{i:Nat}{b:β},All2 R as bs->bs[i]?=some b->∃ a,as[i]?=some a/\R a b
 | [],[],i,b,_,h=>by simp at h
 | a::_,_::_,0,b,h,e=>by
  simp at e
  subst e
  exact⟨a,rfl,h.1⟩
 | _::_,_::_,i+1,b,h,e=>by
  obtain⟨a,h1,h2⟩:=All2.get h.2 (i:=i) (b:=b) (by simpa using e)
  exact⟨a,by simpa using h1,h2⟩
theorem All2.get':∀ {as:List α}{bs:List β}{i:Nat}{a:α},All2 R as bs->as[i]?=some a->∃ b,bs[i]?=some b/\R a b
 | [],[],i,b,_,h=>by simp at h
 | a::_,b::_,0,x,h,e=>by
  simp at e
  subst e
  exact⟨b,rfl,h.1⟩
 | _::_,_::_,i+1,x,h,e=>by
  obtain⟨b,h1,h2⟩:=All2.get' h.2 (i:=i) (a:=x) (by simpa using e)
  exact⟨b,by simpa using h1,h2⟩
theorem All2.append:∀ {as as':List α}{bs bs':List β},All2 R as bs->All2 R as' bs'->All2 R (as++as') (bs++bs')
 | [],_,[],_,_,h=>h
 | _::_,_,_::_,_,h,k=>⟨h.1,All2.append h.2 k⟩
end
end L2
end
section
namespace L2
open PySem
section
variable {X:Cx}{tg iter elt:Expr}{ifs:List Expr}{sc:Scope}{pos:Pos}{wi:TI}{g:TG}{tt:TT}{te:TE}{m:List (Option Nat)}{Nc:List Str}
theorem jKJ (hc:X.calm=true)(hi:PI X tg iter wi)(hkind:sc.kind= .function)(hdis:∀ x,sc.names.lookup x=some .free->(x,NameKind.cell)∉sc.names)(hnames:∀ y∈sc.names,y.2= .local->sc.names.lookup y.1=some .local)
  (hfree:∀ y∈sc.names,y.2= .free->X.env.scope.names.lookup y.1=some .cell\/X.env.scope.names.lookup y.1=some .free) (hm:qB X sc Nc m)
  (hg:∀ cl C fp s H,PG (blkC X sc cl C Nc fp s H) tg g) (ht:∀ cl C fp s H,PTs (blkC X sc cl C Nc fp s H) ifs tt) (he:∀ cl C fp s H,PE (blkC X sc cl C Nc fp s H) elt te)
  (hs:∀ x,foldedSetIterable iter X.env x=pure x) {fpos:Pos}{use:Option (Value->Sem Unit)}{R:Value->Shared->Prop}{pins:List (Addr×Obj)}{s:Shared}{σ:St}{H:Hp}{Q:VK}(I:Inv X pins σ H s) (h:tComp m wi g tt te σ H Q)
  (fin:∀ (D C:Addr) (H5:Hp) (z1:Shared) (r:Flow),(∃ mm,z1.heap.Ns C mm)->FpOk X pins H5 C->(∀ h',Heap.SameBut C z1.heap h'->Inv X pins σ H5 { z1 with heap:=h'})->Q (.ref D) H5->compPost (model X.prog X.w) X.A X.xe use R (.ref D) C (.ok r) z1):
  wpAny (model X.prog X.w) X.A (comprehension (.ListComp elt [⟨tg,iter,ifs,0⟩] sc pos) sc X.env fpos (newList []) false (eval iter X.env) use) R X.xe s:=by
 have hcl:∀ y∈sc.names,y.2= .free->∃ c,X.env.cells.lookup y.1=some c:=fun y hy hf=>I.ok.has y.1 (hfree y hy hf)
 refine e9 (use:=use) rfl hs (jKK hcl) hkind hnames (thn (hi pins s σ H _ I h) fun v s1 h1=>thn h1 fun itv s2 h2=>?_)
 obtain⟨it,fp,tn,J,H2,e,I2,T,st2,f2,hQ⟩:=h2
 subst e
 have hlt:∀ b∈fp,b<s2.heap.objs.size:=fun b hb=>by
  obtain⟨o,e,_⟩:=T.obj 0 _ st2 b hb
  exact am e
 refine bI (jFT ?_)
 have I3:Inv X pins σ (upd H2 s2.heap.objs.size (.lst [])) { s2 with heap:=s2.heap.push { cls:= .type "list",data:= .seq ([]:List Value).toArray}} :=I2.lnew (t':=s2.toks) .nil (aW _)
 obtain⟨W,⟨n0,w0⟩,turn⟩:=hQ s2.heap.objs.size I2.fresh
 have hD3:∀ b∈fp,b≠s2.heap.objs.size:=fun b hb=>aL (hlt b hb)
 have f3:∀ b∈fp,FpOk X pins (upd H2 s2.heap.objs.size (.lst [])) b:=fun b hb=>by
  obtain⟨a0,a1⟩:=f2 b hb
  exact⟨by rw[j9 (hD3 b hb)]; exact a0,a1⟩
 generalize hE:({ s2 with heap:=s2.heap.push { cls:= .type "list",data:= .seq ([]:List Value).toArray}} :Shared)=s3 at I3 ⊢
 generalize hH3:upd H2 s2.heap.objs.size (.lst [])=H3 at I3 f3 w0
 have hsz3:s3.heap.objs.size=s2.heap.objs.size+1:=by rw[<- hE]; exact bf _ _
 have I4:=jHV (fp:=fp) I3 hkind hdis hfree hm f3 (fun b hb=>show b<s3.heap.objs.size by rw[hsz3]; exact aq (hlt b hb))
 have old:∀ b o,s3.heap.get? b=some o->(pushCells (s3.heap.push { cls:= .type "dict",data:= .dict #[]}) sc.names).get? b=some o:=fun b o e=>fU _ _ b o (ae _ e)
 have old2:∀ b o,s2.heap.get? b=some o->(pushCells (s3.heap.push { cls:= .type "dict",data:= .dict #[]}) sc.names).get? b=some o:=fun b o e=>old b o (by rw[<- hE]; exact ae _ e)
 have st4:tn 0 (pushCells (s3.heap.push { cls:= .type "dict",data:= .dict #[]}) sc.names):=T.keep _ _ _ st2 fun b hb o e=>old2 b o e
 clear old old2
 generalize hcs:cellsFrom (s3.heap.objs.size+1) sc.names (kO X.env.cells sc.names [])=cs at I4 ⊢
 generalize hh1:pushCells (s3.heap.push { cls:= .type "dict",data:= .dict #[]}) sc.names=h₁ at I4 st4 ⊢
 have loop:codeAny (model X.prog X.w) X.A (.compLoop (.ListComp elt [⟨tg,iter,ifs,0⟩] sc pos) 0 (.ref it) (.ref s2.heap.objs.size) (compEnvC sc cs s3.heap.objs.size X.env))
   (compPost (model X.prog X.w) X.A X.xe use R (.ref s2.heap.objs.size) s3.heap.objs.size) { s3 with heap:=h₁} :=by
  generalize hX:blkC X sc cs s3.heap.objs.size Nc fp s3 H3=Xb at I4
  have eP:Xb.prog=X.prog:=by rw[<- hX]; rfl
  have ew:Xb.w=X.w:=by rw[<- hX]; rfl
  have eK:Xb.K=X.K:=by rw[<- hX]; rfl
  have eA:Xb.A=X.A:=by rw[<- hX]; rfl
  have ec:Xb.calm=true:=by rw[<- hX]; exact hc
  have ee:Xb.env=compEnvC sc cs s3.heap.objs.size X.env:=by rw[<- hX]; rfl
  have ex:Xb.xe=fun _ _=>False:=by rw[<- hX]; rfl
  have hgb:PG Xb tg g:=by rw[<- hX]; exact hg _ _ _ _ _
  have htb:PTs Xb ifs tt:=by rw[<- hX]; exact ht _ _ _ _ _
  have heb:PE Xb elt te:=by rw[<- hX]; exact he _ _ _ _ _
  have stat:∀ {H':Hp},(∀ b∈fp,H' b=none)->∀ b∈fp,FpOk Xb [] H' b:=fun {H'} hn b hb=>by
   obtain⟨o,eo,_⟩:=T.obj _ _ st4 b hb
   have q:=I4.ok.exf b (by rw[<- hX]; exact hb)
   exact⟨hn b hb,q.1,I4.ok.exfs b (by rw[<- hX]; exact hb), .inl (by rw[<- hX]; exact hb),q.2,fun p hp=>absurd hp (by rw[<- hX]; simp [blkC])⟩
  have fr4:∀ b∈fp,H3 b=none:=fun b hb=>(f3 b hb).1
  unfold PG at hgb
  unfold PTs at htb
  unfold PE at heb
  rw[eP,ew,eA,ee,ex] at hgb htb heb
  refine jDG (fun n z=>∃ i σ' H' ys,Inv Xb [] σ' H' z/\tn i z.heap/\(∀ b∈fp,H' b=none)/\W i n σ' H' ys) ?_ n0 ⟨0,_,H3,[],I4,st4,fr4,w0⟩
  rintro n z ⟨i,σ5,H5,ys,I5,st5,fr5,w5⟩
  obtain⟨hD,hlen,way⟩:=turn i n σ5 H5 ys w5
  rcases way with ⟨stop,q⟩ | ⟨go,N,hN,step⟩
  ·have RR:=T.done Xb eP ew eK ec i [] z σ5 H5 (fun _ _=>False) I5 (stat fr5) st5 stop
   rw[eA] at RR
   refine thn RR fun r z1 ⟨hr,I6⟩=>?_
   subst hr
   obtain⟨mm,hn6,_⟩:=I6.loc
   rw[ee] at hn6
   have u6:Un (frs X.stack) fp H3 H5 s3.heap z1.heap:=by
    have:=I6.base
    rw[<- hX] at this
    exact this
   have fC:H5 s3.heap.objs.size=none:=by
    have:=I6.free
    rw[ee] at this
    exact this
   have hok6:HOk X.prog X.w H5 z1.heap:=by
    have:=I6.hok
    rw[eP,ew] at this
    exact this
   have os6:z1.os=s3.os:=by
    have:=I6.os
    rw[<- hX] at this
    exact this
   refine fin s2.heap.objs.size s3.heap.objs.size H5 z1 .next ⟨mm,hn6⟩ (I3.fpOk (af _) fC) (fun h' sb=>?_) q
   refine I3.call' (s':= { z1 with heap:=h'}) (ch:=fp) os6 (u6.sameBut sb (af _)) (hok6.sameBut sb fC) I6.bare (fun b hb=>?_)
   obtain⟨a0,a1,a2,a3,a4,a5⟩:=f3 b hb
   exact⟨a3,a1,a4,a5⟩
  ·have RR:=T.item Xb eP ew eK ec i [] z σ5 H5 (fun _ _=>False) I5 (stat fr5) st5 go
   rw[eA] at RR
   refine thn RR fun r z1 ⟨u,hr,h6⟩=>?_
   subst hr
   refine thn h6 fun _ z2 ⟨x,H7,I7,r7,y7,st7,fr7⟩=>?_
   have I7':=I7.pinned (stat fr7) (T.obj _ _ st7)
   refine thn (hgb _ z2 σ5 H7 x u _ I7' r7 (step x H7 y7)) fun _ z3 ⟨σ8,H8,I8,q8⟩=>?_
   refine thn (htb _ z3 σ8 H8 _ I8 q8) fun ok z4 ⟨H9,I9,q9⟩=>?_
   have again:∀ {σ7:St}{Hz:Hp}{zz:Shared}{yy:List V}{n':Nat},Inv Xb ([]++jD7 fp z2.heap) σ7 Hz zz->n'<n->W (i+1) n' σ7 Hz yy->∃ k,k<n/\∃ i σ' H' ys,Inv Xb [] σ' H' zz/\tn i zz.heap/\(∀ b∈fp,H' b=none)/\W i k σ' H' ys:=fun {σ7 Hz zz yy n'} Iz hn wz=>by
    refine⟨n',hn,i+1,σ7,Hz,yy,Iz.unpinned,T.keep _ _ _ st7 fun b hb o e=>(Iz.pin (b,o) (aS _ (aS _ (jA7 hb e)))).1,fun b hb=>?_,wz⟩
    obtain⟨o,e,d⟩:=T.obj _ _ st7 b hb
    exact(Iz.pin (b,o) (aS _ (aS _ (jA7 hb e)))).2.1
   cases ok with
   | false=>
    obtain⟨n',hn,w9⟩:=hN _ _ _ (show N σ8 H9 ys from q9)
    exact again I9 hn w9
   | true=>
    refine thn (heb _ z4 σ8 H9 _ I9 q9) fun xv z5 ⟨vv,H10,I10,r10,hD10,n10⟩=>?_
    obtain⟨n',hn,w10⟩:=hN _ _ _ n10
    have RR:=jA6 (X:=Xb) _ z5 σ8 H10 (.ref s2.heap.objs.size) [vv] (.ref s2.heap.objs.size) [xv] (fun _ H'=>H'=upd H10 s2.heap.objs.size (.lst (ys++[vv]))) I10 rfl (.cons r10 .nil) ⟨_,ys,vv,rfl,rfl,hD10,hlen,rfl⟩
    rw[eP,ew,eA,ex] at RR
    refine thn RR fun _ z6 ⟨_,H11,I11,_,e11⟩=>?_
    subst e11
    exact again I11 hn w10
 exact codeAny_compStart_list loop (T.self _ 0 _ _ _ st4 loop)
theorem jLD {i:Nat}{x:Str}{pos' spos:Pos}(hN:X.N.Nodup)(hi':X.N[i]?=some x)(hx:Loc X.env.scope x)(hf:X.fn x=true\/X.env.scope.names.lookup x=some .local)(hsw:swapsWith (.ListComp elt [⟨tg,iter,ifs,0⟩] sc pos) (some (.Name x pos')) spos.line X.env=pure true)
  (hc:X.calm=true) (hi:PI X tg iter wi) (hkind:sc.kind= .function) (hdis:∀ x,sc.names.lookup x=some .free->(x,NameKind.cell)∉sc.names) (hnames:∀ y∈sc.names,y.2= .local->sc.names.lookup y.1=some .local)
  (hfree:∀ y∈sc.names,y.2= .free->X.env.scope.names.lookup y.1=some .cell\/X.env.scope.names.lookup y.1=some .free) (hm:qB X sc Nc m)
  (hg:∀ cl C fp s H,PG (blkC X sc cl C Nc fp s H) tg g) (ht:∀ cl C fp s H,PTs (blkC X sc cl C Nc fp s H) ifs tt) (he:∀ cl C fp s H,PE (blkC X sc cl C Nc fp s H) elt te)
  (hs:∀ x,foldedSetIterable iter X.env x=pure x):PS X (.Assign [.Name x pos'] (.ListComp elt [⟨tg,iter,ifs,0⟩] sc pos) spos) (tAsg (tComp m wi g tt te) (kS i)):=by
 intro pins s σ H D I h
 rw[exec_Assign_Name_used _ _ _ _ hsw]
 refine aa (dG (aa ?_))
 show wpAny _ _ (do let _ <- comprehension (.ListComp elt [⟨tg,iter,ifs,0⟩] sc pos) sc X.env _ (newList []) false (eval iter X.env) (some (assign (.Name x pos') X.env))) _ _ _
 refine aa (cw (jKJ (R:=fun _ s'=>SP X pins D .next s') hc hi hkind hdis hnames hfree hm hg ht he hs ⟨I.ok,I.os,I.bare,I.base,I.loc,I.cell,I.free,I.freeC,I.pin,I.hok,I.len⟩ h ?_) (fun _ s' hq=>ag (ag hq)) fun _ _ e=>e)
 intro D' C H5 z1 r ⟨mm,hn⟩ fC sb q
 have I1:=sb _ (eU C z1.heap)
 refine eM (jCD (v:= .ref D') I1 hN hi' hx rfl (fun s2 I2 ⟨a,sa,ha⟩=>?_) hf)
 obtain⟨f0,f1,f2,f3,f4,f5⟩:=fC
 have hCa:C≠a:=by
  rcases ha with rfl | ha
  ·exact f1
  ·exact(f4 _ _ ha).symm
 refine⟨mm,hn.sameBut sa hCa,fun h' sb2=>⟨_,H5,?_,q⟩⟩
 refine I2.call' (s':= { s2 with heap:=h'}) (ch:=[C]) rfl ?_ (I2.hok.sameBut sb2 f0) I2.bare (fun b hb=>?_)
 ·have ne:∀ {b:Addr},b∉ [C]->b≠C:=fun h e=>h (by rw[e]; exact be.mpr rfl)
  refine⟨fun b o e n hf hx=>(sb2.2 b (ne hx)).trans e,fun b o e n hf hx=>⟨o.slots,(sb2.2 b (ne hx)).trans e⟩,fun b o e n hx=>n,fun b o e hx=>⟨o,(sb2.2 b (ne hx)).trans e⟩,fun b xs e=>e,fun b o u e=>e,fun b ps e=>⟨#[],by rw[gH]; exact e⟩⟩
 ·cases be.mp hb
  exact⟨f3,f1,f4,f5⟩
end
section
variable {X:Cx}
theorem jGQ {i:Nat}{x:Str}{pos' spos pos:Pos}{tg iter elt:Expr}{ifs:List Expr}{sc:Scope}{wi:TI}{g:TG}{tt:TT}{te:TE}{m:List (Option Nat)}{Nc:List Str}(hN:X.N.Nodup)(hi':X.N[i]?=some x)(hx:Loc1 X x)(hsw:SwC (.ListComp elt [⟨tg,iter,ifs,0⟩] sc pos) x pos' spos X)
  (hc:X.calm=true) (hi:JI X tg iter wi) (hkind:sc.kind= .function) (hdis:(sc.names.all fun y=>decide (y.2= .cell->sc.names.lookup y.1=some .cell))=true) (hnames:∀ y∈sc.names,y.2= .local->sc.names.lookup y.1=some .local)
  (hfree:∀ y∈sc.names,y.2= .free->X.env.scope.names.lookup y.1=some .cell\/X.env.scope.names.lookup y.1=some .free) (hm:qB X sc Nc m)
  (hg:∀ cl C fp s H,JG (blkC X sc cl C Nc fp s H) tg g) (ht:∀ cl C fp s H,JTs (blkC X sc cl C Nc fp s H) ifs tt) (he:∀ cl C fp s H,JE (blkC X sc cl C Nc fp s H) elt te)
  (hs:FoOk iter):JS X (.Assign [.Name x pos'] (.ListComp elt [⟨tg,iter,ifs,0⟩] sc pos) spos) (tAsg (tComp m wi g tt te) (kS i)):=
 ⟨jLD hN hi' hx.a hx.b hsw.h hc hi.h hkind (jQK hdis) hnames hfree hm (fun cl C fp s H=>(hg cl C fp s H).h) (fun cl C fp s H=>(ht cl C fp s H).h) (fun cl C fp s H=>(he cl C fp s H).h) (hs.h _)⟩
end
end L2
end
section
namespace L2
open PySem PySem.Spec PyProof.Rows
section
variable {X:Cx}
def jNI:V->List V->Hp->VK->Prop:=fun x vs H Q=>∃ (p:Addr) (ns:List Int) (i:Int) (k:Nat),x= .ref p/\vs=[.int i]/\H p=some (.lst (ns.map V.int))/\ns.length<=1000/\ns[k]?=some i/\(∀ m,m<k->ns[m]?≠some i)/\Q (.int (k:Int)) H
theorem jJH:MtM X "list.index" jNI:=by
 intro pins s σ H x vs v us Q I rx rv h
 obtain⟨p,ns,i,k,rfl,rfl,hp,hs,hk,hno,q⟩:=h
 cases rx
 obtain⟨u,rfl,ru⟩:=rv.one
 obtain⟨z,its,n,r,_,e0⟩:=I.lstM hp
 have hl:=r.length
 rw[ac] at hl
 have hkl:k<its.length:=by rw[<- hl]; exact(ay.mp hk).1
 have at_:∀ m (hm:m<its.length),∃ (z:Int) (t:Tok),ns[m]?=some z/\its[m]= .int z t:=fun m hm=>by
  have hz:(ns.map V.int)[m]?=some (.int ns[m]):=by simp [show m<ns.length by omega]
  obtain⟨w,hw,t,rw'⟩:=r.get hz
  refine⟨ns[m],t,by simp [show m<ns.length by omega],?_⟩
  rw[aG hm] at hw
  rw[ba hw]
  exact rw'
 refine fH F.slot_list_index ⟨_,e0,rfl⟩ F.entry_list_index (F.args_list_index_2 _ _) (SeqAt.list_indexAt p its.toArray n none #[] u (eqU (.int i)) k (by simpa using hkl) (by omega) ?_ fun m hm hmk=>?_) ⟨e0,fun w hw=>jAV ru rfl r ?_ w (by simpa using hw),?_⟩
 ·obtain⟨z,t,h1,h2⟩:=at_ k hkl
  rw[hk] at h1
  cases h1
  show eqU (.int i) its[k]=true
  rw[h2]
  show (i==i)=true
  simp
 ·have hm':m<its.length:=by simpa using hm
  obtain⟨z,t,h1,h2⟩:=at_ m hm'
  show eqU (.int i) its[m]=false
  rw[h2]
  show (z==i)=false
  rw[cg]
  exact fun e=>hno m hmk (by rw[h1,e])
 ·rw[aU]
  intro x hx
  obtain⟨z,_,rfl⟩:=aQ.mp hx
  rfl
 ·exact⟨.int _,H,I.tok _,⟨s.toks,rfl⟩,q⟩
end
end L2
end
section
namespace L2
open PySem
end L2
end
section
end
section
namespace Eo
open PySem L2
def Keep (H H':Hp)(p:Addr):Prop:=∀ b o,H b=some o->b≠p->H' b=some o
structure Txt (mg:Str->Option Value):Prop where
 len:mg "len" =none
 range:mg "range" =none
 tuple:mg "tuple" =none
 sorted:mg "sorted" =none
 set:mg "set" =none
 list:mg "list" =none
 int:mg "int" =none
 isinstance:mg "isinstance" =none
 bool:mg "bool" =none
 str:mg "str" =none
 all:mg "all" =none
 zip:mg "zip" =none
 max:mg "max" =none
 min:mg "min" =none
 any:mg "any" =none
 abs:mg "abs" =none
 sum:mg "sum" =none
 enumerate:mg "enumerate" =none
 dict:mg "dict" =none
structure Can (P:Program)(w:World)(K:W.Frag)(mg:Str->Option Value)(base:Heap)(x:Str)(k:Nat)(f:Addr)(fd:FuncData)(ps:List Str)(sp:Sp):Prop where
 G:FnOk P w K mg base CX0 k f fd ps sp
 m:mg x=some (.ref f)
 kp:keepIn K (.ref f)=true
 b:Binds K fd ps []
theorem Can.pe {X:Cx}{x:Str}{k:Nat}{f:Addr}{fd:FuncData}{ps:List Str}{sp:Sp}{e:Expr}{es:List Expr}{t:TA}{p pos:Pos}(C:Can X.prog X.w X.K X.mg X.base x k f fd ps sp)(hr:Room k X.A)(hg:Gl X x)(ha:PA X (e::es) t)(hdb:(x==("__debug__" :Str))=false:=by decide)
  (he:starEach (e::es) X.env=(false,eval e X.env)::starEach es X.env:=by rfl) (hpl:(backTo pos (starEach es X.env)).any (·.1)=false:=by rfl):PE X (.Call (.Name x p) (e::es) [] pos) (tCall sp [] E0 t):=
 jNX C.G hr hg C.m C.kp C.b .nil pass0 ha hdb he hpl
theorem Can.je {X:Cx}{x:Str}{k:Nat}{f:Addr}{fd:FuncData}{ps:List Str}{sp:Sp}{e:Expr}{es:List Expr}{t:TA}{p pos:Pos}(C:Can X.prog X.w X.K X.mg X.base x k f fd ps sp)(hr:Room k X.A)(hg:Gl1 X x)(ha:JA X (e::es) t)(he:starEach (e::es) X.env=(false,eval e X.env)::starEach es X.env)
  (hdb:(x==("__debug__" :Str))=false:=by decide) (hpl:(backTo pos (starEach es X.env)).any (·.1)=false:=by rfl):JE X (.Call (.Name x p) (e::es) [] pos) (tCall sp [] E0 t):=
 ⟨C.pe hr hg.a ha.h hdb he hpl⟩
section
variable {P:Program}{w:World}{K:W.Frag}{mg:Str->Option Value}{base:Heap}
def jEJ (K:W.Frag):Sp:=fun vs H Q _=>∃ (a:Addr) (ns:List Int) (k:Int),vs=[.ref a, .int k]/\SqL K H a (ns.map V.int)/\0<=k/\∀ c:Int,Q (.int c) H
theorem jP3:FnScope ["script","k"] ["script","k"] (j8 sCell):=⟨rfl,rfl,rfl,by decide+kernel,rfl,by decide+kernel,by decide+kernel⟩
theorem jOA {f:Addr}{fd:FuncData}(F:Fun K "_law_cell_at" "_law_cell_at" sCell f fd)(T:Txt mg):FnOk P w K mg base CX0 1 f fd ["script","k"] (jEJ K):=by
 refine F.ok jP3 (fun vs H Q E h=>?_) (fun cdv A outer s H vs Q E hr h=>?_)
 ·obtain⟨a,ns,k,rfl,_⟩:=h
  rfl
 ·obtain⟨a,ns,k,rfl,hS,h0,q⟩:=h
  refine⟨_,yA (ps_if (jCH op_lt (pv 1) (jDW jZ (by rfl) T.len PySem.boot_len (kI (pv 0) yK)) (jP _)) (jAK (jC0 (pe_ix jU (pv 0) (pv 1) (fun _ _=>rfl)))) jDT) (jAK (jC0 jS)),?_⟩
  refine⟨_,rfl,_,rfl,a,_,rfl, .inl hS,_,_,rfl,rfl,_,rfl,?_⟩
  refine ite2 (fun hlt=>?_) (fun _=>?_)
  ·have hlt:k<((ns.map V.int).length:Int):=au hlt
   have hk:k.toNat<ns.length:=by rw[ac] at hlt; omega
   refine⟨_,rfl,_,rfl,a,_,k, .int (ns[k.toNat]),rfl,rfl,hS,?_,q _⟩
   have e:(k.toNat:Int)=k:=by omega
   have q2:=yB (xs:=ns.map V.int) (j:=k.toNat) (v:=V.int ns[k.toNat]) (by simp [hk])
   rw[e] at q2
   exact q2
  ·exact q 0
def y9:Sp:=fun vs H Q _=>∃ (p:Addr) (N w:Int),vs=[.ref p, .int w]/\H p=some (.lst [.int N])/\0<=N/\0<w/\w<2 ^ 64/\∀ N' r:Int,0<=N'->0<=r->r<w->Q (.int r) (upd H p (.lst [.int N']))
theorem scTake:FnScope ["pot","wide","found"] ["pot","wide"] (j8 sTake):=⟨rfl,rfl,rfl,by decide+kernel,rfl,by decide+kernel,by decide+kernel⟩
theorem jO3 {f:Addr}{fd:FuncData}(F:Fun K "_law_take" "_law_take" sTake f fd):FnOk P w K mg base CX0 1 f fd ["pot","wide"] y9:=by
 refine F.ok scTake (fun vs H Q E h=>?_) (fun cdv A outer s H vs Q E hr h=>?_)
 ·obtain⟨a,ns,k,rfl,_⟩:=h
  rfl
 ·obtain⟨p,N,w,rfl,hp,h0,h1,h2,q⟩:=h
  refine⟨_,yA (yZ (i:=2) scTake.nd rfl (Or.inl rfl) (kX jCI (pe_ix jU (pv 0) jS (fun _ _=>rfl)) (pv 1)))
   (yA (jMN (kX jGO (pe_ix jU (pv 0) jS (fun _ _=>rfl)) (pv 1)) (jMP (pv 0) jS jAU))
   (jAK (jC0 (pv 2)))),?_⟩
  refine⟨_,rfl,p,_,0, .int N,rfl,rfl,SqL.of hp,rfl,_,rfl,_,_,rfl,rfl,h1,?_⟩
  refine⟨_,rfl,p,_,0, .int N,rfl,rfl,SqL.of hp,rfl,_,rfl,_,_,rfl,rfl,⟨h1,h2⟩,?_⟩
  refine⟨_,rfl,p,_,0,0,rfl,rfl,hp,rfl,_,rfl,?_⟩
  exact q _ _ (dP h0 (by omega)) (Int.emod_nonneg _ (by omega)) (gI _ h1)
def spPot:Sp:=fun vs H Q _=>∃ c:Int,vs=[.int c]/\∀ (p:Addr) (N:Int),H p=none->0<=N->Q (.ref p) (upd H p (.lst [.int N]))
theorem scPot:FnScope ["cell","number","j","more"] ["cell"] (j8 sPot):=⟨rfl,rfl,rfl,by decide+kernel,rfl,by decide+kernel,by decide+kernel⟩
theorem jPX {f:Addr}{fd:FuncData}(F:Fun K "_law_pot" "_law_pot" sPot f fd)(T:Txt mg):FnOk P w K mg base CX0 1 f fd ["cell"] spPot:=by
 refine F.ok scPot (fun vs H Q E h=>?_) (fun cdv A outer s H vs Q E hr h=>?_)
 ·obtain⟨c,rfl,_⟩:=h
  rfl
 ·obtain⟨c,rfl,q⟩:=h
  have one: [V.int 0].length<=sizeLine:=by show 1<=sizeLine; decide
  refine⟨_,yA (ps_if (jCH op_ge (pv 0) (kX jJ2 jS jS) (jP _)) (jAK (jC0 (jGM (kI (kX jB3 (pv 0) (kX jJ2 jS jS)) yK)))) jDT)
   (yA (yZ (i:=1) scPot.nd rfl (Or.inl rfl) jS)
   (yA (jMM bb rfl (jBF rfl T.range (kI jS yK)) (jDV (i:=2) scPot.nd rfl (Or.inl rfl))
    (yA (yZ (i:=3) scPot.nd rfl (Or.inl rfl) (kX jCI (kX jC2 (kX kW (kX kW (kX jCI (pv 0) jS) (kX jC2 jS (pv 2))) jS) jS) jS))
    (yA (yZ (i:=3) scPot.nd rfl (Or.inl rfl) (kX jCI (kX kW (kX kW (kX jC2 (pv 3) (pv 3)) (kX jC2 jS (pv 2))) jS) jS))
    (jAK (yZ (i:=1) scPot.nd rfl (Or.inl rfl) (kX kW (kX jC2 (pv 1) jS) (pv 3)))))))
   (jAK (jC0 (jGM (kI (pv 1) yK)))))),?_⟩
  refine⟨_,rfl,_,_,rfl,rfl,⟨by decide,by decide,by decide⟩,_,_,rfl,rfl,_,rfl,?_⟩
  refine ite2 (fun hge=>?_) (fun _=>?_)
  ·refine⟨_,rfl,_,_,rfl,rfl,⟨by decide,by decide,by decide⟩,_,_,rfl,rfl,one,fun p hp=>q p _ hp ?_⟩
   exact Int.sub_nonneg_of_le (au hge)
  ·refine⟨64,rfl,by decide,by decide,jA2 (n:=64) (fun i σ H2=>∃ (num:Int) (v1 v2:Option V),σ=[some (.int c),some (.int num),v1,v2]/\0<=num/\H2=H) ⟨0,none,none,rfl,eW _,rfl⟩ ?_ ?_⟩
   ·rintro i σ H2 hi ⟨num,v1,v2,rfl,hn,rfl⟩
    refine⟨_,rfl,_,_,rfl,rfl,(by show (0:Int)<2147483629; decide),_,rfl,_,_,rfl,rfl, .inl ⟨by decide,by decide⟩,_,_,rfl,rfl,_,_,rfl,rfl,_,_,rfl,rfl, .inr ⟨by decide,by decide⟩,_,_,rfl,rfl,(by show (0:Int)<2147483647; decide),?_⟩
    refine⟨_,rfl,_,rfl,_,_,rfl,rfl, .inl ⟨?_,?_⟩,_,rfl,_,_,rfl,rfl, .inl ⟨by decide,by decide⟩,_,_,rfl,rfl,_,_,rfl,rfl,_,_,rfl,rfl,(by show (0:Int)<2147483587; decide),?_⟩
    ·omega
    ·omega
    ·refine⟨_,rfl,_,_,rfl,rfl, .inr ⟨by decide,by decide⟩,_,rfl,_,_,rfl,rfl,?_⟩
     refine⟨_,_,_,rfl,?_,rfl⟩
     omega
   ·rintro σ H2 ⟨num,v1,v2,rfl,hn,rfl⟩
    exact⟨_,rfl,one,fun p hp=>q p num hp hn⟩
end
theorem jAG {H:Hp}{a:Addr}{o o':HO} :upd (upd H a o) a o'=upd H a o':=by
 funext b
 unfold upd
 by_cases h:b=a
 ·rw[ah h,ah h]
 ·rw[ai h,ai h,ai h]
theorem yF {H:Hp}{a b:Addr}{o:HO}(h:upd H a o b=none):b≠a/\H b=none:=by
 have h1:b≠a:=fun e=>by rw[e,j4] at h; cases h
 exact⟨h1,by rw[j9 h1] at h; exact h⟩
theorem Keep.refl (H:Hp)(p:Addr):Keep H H p:=fun _ _ h _=>h
theorem Keep.trans {H H1 H2:Hp}{p:Addr}(a:Keep H H1 p)(b:Keep H1 H2 p):Keep H H2 p:=fun c o h n=>b c o (a c o h n) n
theorem Keep.upd {H H1:Hp}{p:Addr}(a:Keep H H1 p)(o:HO):Keep H (upd H1 p o) p:=fun c u h n=>by rw[j9 n]; exact a c u h n
theorem Keep.new {H H1:Hp}{p l:Addr}(a:Keep H H1 p)(hl:H1 l=none)(o:HO):Keep H (L2.upd H1 l o) p:=fun c u h n=>by
 have:=a c u h n
 rw[j9 (jA this hl)]
 exact this
theorem pw {w:Int}(h1:1<=w)(h2:w<=16):(2:Int)<=2 ^ w.toNat/\(2:Int) ^ w.toNat<=65536:=by
 have e:∀ n:Nat,n<17->1<=n->(2:Int)<=2 ^ n/\(2:Int) ^ n<=65536:=by decide+kernel
 exact e w.toNat (by omega) (by omega)
structure Lot (w:Int)(ts:List Int):Prop where
 ris:ts.Pairwise (· < ·)
 bnd:∀ z∈ts,0<=z/\z<w
 ne:ts≠ []
def bits (n:Int)(k:Nat):List Int:=((List.range k).filter fun t=>decide (Builtin.bitAnd (n / 2 ^ t) 1=1)).map fun (t:Nat)=>(t:Int)
theorem jFA (n:Int)(k:Nat):bits n (k+1)=bits n k++(if decide (Builtin.bitAnd (n / 2 ^ k) 1=1)=true then [(k:Int)] else []):=by
 unfold bits
 rw[cf,bW,aD]
 congr 1
 rw[List.filter_cons]
 split <;> rfl
theorem jMB {n w:Int}(h1:1<=n)(hw:0<=w)(h2:n<2 ^ w.toNat):Lot w (bits n w.toNat):=by
 refine⟨?_,fun z hz=>?_,?_⟩
 ·unfold bits
  rw[eX]
  have:=(fJ (n:=w.toNat)).filter (fun t=>decide (Builtin.bitAnd (n / 2 ^ t) 1=1))
  exact this.imp fun h=>by omega
 ·unfold bits at hz
  obtain⟨t,ht,rfl⟩:=aQ.mp hz
  have:=aY.mp (di.mp ht).1
  omega
 ·obtain⟨m,rfl⟩:∃ m:Nat,n=(m:Int):=⟨n.toNat,by omega⟩
  have hm:m≠0:=by omega
  have hlt:m<2 ^ w.toNat:=by
   have:((m:Nat):Int)<((2 ^ w.toNat:Nat):Int):=by rw[Int.natCast_pow]; exact h2
   omega
  obtain⟨i,hi⟩:=Nat.exists_testBit_of_ne_zero hm
  have hiw:i<w.toNat:=by
   rcases Nat.lt_or_ge i w.toNat with h | h
   ·exact h
   ·rw[Nat.testBit_lt_two_pow (aJ hlt (bu (by omega) h))] at hi
    cases hi
  have hb:Builtin.bitAnd ((m:Int) / 2 ^ i) 1=1:=by
   have e:((m:Int) / 2 ^ i)=((m / 2 ^ i:Nat):Int):=by rw[Int.natCast_ediv,Int.natCast_pow]; rfl
   rw[e,PyProof.Rows.bitAnd_pp (cM _) (by decide)]
   have e2:(((m / 2 ^ i:Nat):Int).toNat&&&(1:Int).toNat)=1:=by
    rw[ca]
    show (m / 2 ^ i)&&&1=1
    rw[Nat.and_one_is_mod]
    have:=hi
    rw[Nat.testBit_eq_decide_div_mod_eq] at this
    exact au this
   rw[e2]
   rfl
  intro z
  have hmem:(i:Int)∈bits (m:Int) w.toNat:=by
   unfold bits
   exact aQ.mpr ⟨i,di.mpr ⟨aY.mpr hiw,ar hb⟩,rfl⟩
  rw[z] at hmem
  cases hmem
section
variable {P:Program}{w:World}{K:W.Frag}{mg:Str->Option Value}{base:Heap}
def qG:Sp:=fun vs H Q _=>∃ (p:Addr) (N w:Int),vs=[.ref p, .int w]/\H p=some (.lst [.int N])/\0<=N/\1<=w/\w<=16/\
 ∀ (q:Addr) (N':Int) (ts:List Int) (H':Hp),0<=N'->Lot w ts->H' q=some (.tup (ts.map V.int))->H' p=some (.lst [.int N'])->Keep H H' p->Q (.ref q) H'
theorem scLot:FnScope ["pot","wide","way","number","start","step","size"] ["pot","wide"] (j8 sLot):=⟨rfl,rfl,rfl,by decide+kernel,rfl,by decide+kernel,by decide+kernel⟩
theorem jPY {f fT:Addr}{fd fdT:FuncData}(F:Fun K "_law_lot" "_law_lot" sLot f fd)(T:Txt mg)(CT:Can P w K mg base "_law_take" 1 fT fdT ["pot","wide"] y9):FnOk P w K mg base CX0 2 f fd ["pot","wide"] qG:=by
 refine F.ok scLot (fun vs H Q E h=>?_) (fun cdv A outer s H vs Q E hr h=>?_)
 ·obtain⟨a,ns,k,rfl,_⟩:=h
  rfl
 ·obtain⟨p,N,w,rfl,hp,hN,h1,h2,q⟩:=h
  have hpw:=pw h1 h2
  have nd:=scLot.nd
  refine⟨_,yA (yZ (i:=2) nd rfl (Or.inl rfl) (CT.pe hr rfl (kI (pv 0) (kI jS yK))))
   (yA (ps_if (jCH qD (pv 2) jS (jP _))
    (yA (yZ (i:=3) nd rfl (Or.inr rfl) (kX kW jS (CT.pe hr rfl (kI (pv 0) (kI (kX jB3 (kX jPP jS (pv 1)) jS) yK)))))
    (jAK (jC0 (jBG jY rfl T.tuple (by decide+kernel) (kI
     (jFR (m:=[none,some 3]) (Nc:=["t","number"]) rfl (jBF rfl T.range (kI (pv 1) yK)) rfl (by decide+kernel) (by decide+kernel) (jW (psc:=j8 sLot) (by decide+kernel))
      (jI (N:=["pot","wide","way","number","start","step","size"]) rfl rfl (by decide+kernel))
      (fun cl C fp s H=>jDV (i:=0) (show (["t","number"]:List Str).Nodup by decide+kernel) rfl (Or.inl rfl))
      (fun cl C fp s H=>jIX (jCH qD (kX jPU (kX jPO (pv 1) (pv 0)) jS) jS (jP _)))
      (fun cl C fp s H=>pv 0)) yK)))))
    jDT)
   (yA (yZ (i:=4) nd rfl (Or.inr rfl) (CT.pe hr rfl (kI (pv 0) (kI (pv 1) yK))))
   (yA (yZ (i:=5) nd rfl (Or.inr rfl) (kX kW jS (CT.pe hr rfl (kI (pv 0) (kI jS yK)))))
   (yA (yZ (i:=6) nd rfl (Or.inl rfl) (kX kW jS (CT.pe hr rfl (kI (pv 0) (kI (pe_ix jU (jGM (kI jS (kI jS (kI jS yK)))) (kX jB3 (pv 2) jS) (fun _ _=>rfl)) yK)))))
   (jAK (jC0 (jBG jY rfl T.tuple (by decide+kernel) (kI (jDW (jD4 rfl) rfl T.sorted (by decide+kernel) (kI (jBG (jKR rfl) rfl T.set (by decide+kernel) (kI
     (jFR (m:=[none,some 4,some 5,some 1]) (Nc:=["j","start","step","wide"]) rfl (jBF rfl T.range (kI (pv 6) yK)) rfl (by decide+kernel) (by decide+kernel) (jW (psc:=j8 sLot) (by decide+kernel))
      (jI (N:=["pot","wide","way","number","start","step","size"]) rfl rfl (by decide+kernel))
      (fun cl C fp s H=>jDV (i:=0) (show (["j","start","step","wide"]:List Str).Nodup by decide+kernel) rfl (Or.inl rfl))
      (fun cl C fp s H=>jIY)
      (fun cl C fp s H=>kX jCI (kX kW (pv 1) (kX jC2 (pv 2) (pv 0))) (pv 3))) yK)) yK)) yK)))))))),?_⟩
  refine⟨_,rfl,p,N,4,rfl,hp,hN,by decide,by decide,fun N1 way b1 b2 b3=>?_⟩
  have hp1:∀ M,(upd H p (.lst [.int M])) p=some (.lst [.int M]):=fun _=>j4
  refine⟨_,rfl,rfl,_,rfl,?_⟩
  refine ite2 (fun _=>?_) (fun hw0=>?_)
  ·refine⟨_,rfl,_,rfl,_,_,rfl,rfl,⟨by omega,by omega,by decide⟩,_,_,rfl,rfl,p,N1,_,rfl,hp1 _,b1,by omega,by omega,fun N2 r2 c1 c2 c3=>⟨_,_,rfl,rfl,?_⟩⟩
   have hnum:1+r2<2 ^ w.toNat:=by omega
   refine⟨_,rfl,w,rfl,by omega,by omega,jAX (n:=w.toNat) (by rw[aj]; omega) (fun D i σ' H' ys=>(∃ v,σ'=[v,some (.int (1+r2))])/\ys=(bits (1+r2) i).map V.int/\H'=upd (upd (upd H p (.lst [.int N1])) p (.lst [.int N2])) D (.lst ys)) ?_ ?_ ?_ ?_⟩
   ·intro D hD
    exact⟨⟨_,rfl⟩,rfl,rfl⟩
   ·rintro D i σ' H' ys hD hi ⟨_,e1,e2⟩
    refine⟨by rw[e2]; exact j4,?_⟩
    rw[e1,ac]
    unfold bits
    rw[ac]
    exact aH (bK _ _) (by rw[ao]; exact af _)
   ·rintro D i σ' H' ys hD hi ⟨⟨v,rfl⟩,rfl,rfl⟩
    refine⟨_,rfl,_,rfl,_,_,rfl,rfl,(by show (0:Int)<=0+(i:Int); omega),_,_,rfl,rfl,rfl,_,rfl,?_⟩
    have ei:(0+(i:Int)).toNat=i:=by omega
    refine ite2 (fun hb=>?_) (fun hb=>?_)
    ·have hb:Builtin.bitAnd ((1+r2) / 2 ^ i) 1=1:=by
      have:=au hb
      rw[ei] at this
      exact V.int.inj this
     refine⟨_,rfl,j4,⟨_,rfl⟩,?_,jAG⟩
     rw[jFA,ah (ar hb),aD]
     congr 1
     show [V.int (0+(i:Int))]=[V.int (i:Int)]
     rw[bA]
    ·have hb:¬ Builtin.bitAnd ((1+r2) / 2 ^ i) 1=1:=fun e=>hb (ar (by rw[ei]; exact bP V.int e))
     refine⟨⟨_,rfl⟩,?_,rfl⟩
     rw[jFA,ai (by simpa using hb),cC]
   ·rintro D σ' H' ys hD ⟨_,rfl,rfl⟩
    refine⟨D,_,rfl, .inl ⟨SqL.of j4,fun qq hqq=>?_⟩⟩
    obtain⟨n1,n2⟩:=yF hqq
    have pD:p≠D:=jA j4 hD
    have pq:p≠qq:=jA j4 n2
    exact q qq N2 (bits (1+r2) w.toNat) _ c1 (jMB (by omega) (by omega) hnum) j4 (by rw[j9 pq,j9 pD,j4]) (((((Keep.refl H p).upd _).upd _).new hD _).new hqq _)
  ·have hway:1<=way:=by
    have:¬ way=0:=fun e=>hw0 (ar (by rw[e]))
    omega
   refine⟨_,rfl,_,rfl,p,N1,w,rfl,hp1 _,b1,by omega,by omega,fun N2 yX c1 c2 c3=>?_⟩
   rw[jAG]
   refine⟨_,rfl,p,N2,3,rfl,hp1 _,c1,by decide,by decide,fun N3 st d1 d2 d3=>⟨_,_,rfl,rfl,?_⟩⟩
   rw[jAG]
   refine⟨_,rfl,(by show 3<=sizeLine; decide),fun l hl=>?_⟩
   have pl:p≠l:=jA (hp1 _) hl
   obtain⟨wd,hwd,e1,e2⟩:∃ wd:Int,atI [V.int 1,V.int 2,V.int 4] (way - 1)=some (.int wd)/\1<=wd/\wd<=4:=by
    rcases (show way=1\/way=2\/way=3 by omega) with e | e | e
    ·subst e; exact⟨1,rfl,by decide,by decide⟩
    ·subst e; exact⟨2,rfl,by decide,by decide⟩
    ·subst e; exact⟨4,rfl,by decide,by decide⟩
   refine⟨_,rfl,_,_,rfl,rfl,l,_,_,_,rfl,rfl,SqL.of j4,hwd,p,N3,wd,rfl,by rw[j9 pl]; exact hp1 _,d1,by omega,by omega,fun N4 r4 g1 g2 g3=>⟨_,_,rfl,rfl,?_⟩⟩
   have kp:Keep H (upd (upd (upd H p (.lst [.int N3])) l (.lst [V.int 1,V.int 2,V.int 4])) p (.lst [.int N4])) p:=(((Keep.refl H p).upd _).new hl _).upd _
   have hp4:(upd (upd (upd H p (.lst [.int N3])) l (.lst [V.int 1,V.int 2,V.int 4])) p (.lst [.int N4])) p=some (.lst [.int N4]):=j4
   generalize (upd (upd (upd H p (.lst [.int N3])) l (.lst [V.int 1,V.int 2,V.int 4])) p (.lst [.int N4]))=H4 at kp hp4 ⊢
   refine⟨_,rfl,1+r4,rfl,by omega,by omega,jAX (n:=(1+r4).toNat) (by rw[aj]; omega) (fun D i σ' H' ys=>(∃ v,σ'=[v,some (.int yX),some (.int (1+st)),some (.int w)])/\(∃ ns:List Int,ys=ns.map V.int/\ns.length=i/\∀ z∈ns,0<=z/\z<w)/\H'=upd H4 D (.lst ys)) ?_ ?_ ?_ ?_⟩
   ·intro D hD
    exact⟨⟨_,rfl⟩,⟨[],rfl,rfl,fun z hz=>by cases hz⟩,rfl⟩
   ·rintro D i σ' H' ys hD hi ⟨_,⟨ns,rfl,e,_⟩,rfl⟩
    exact⟨j4,by rw[ac,e]; exact af _⟩
   ·rintro D i σ' H' ys hD hi ⟨⟨v,rfl⟩,⟨ns,rfl,e,hb⟩,rfl⟩
    dsimp only [kS,yG]
    rw[ah rfl]
    refine⟨_,rfl,_,rfl,_,rfl,_,_,rfl,rfl, .inl ⟨by omega,by omega⟩,_,_,rfl,rfl,_,rfl,_,_,rfl,rfl,(by show 0<w; omega),j4,⟨_,rfl⟩,⟨ns++[(yX+(1+st)*(0+(i:Int))) % w],by simp,by simp [e],fun z hz=>?_⟩,jAG⟩
    rcases bx.mp hz with hz | hz
    ·exact hb z hz
    ·have:z=(yX+(1+st)*(0+(i:Int))) % w:=by simpa using hz
     rw[this]
     exact⟨Int.emod_nonneg _ (by omega),gI _ (by omega)⟩
   ·rintro D σ' H' ys hD ⟨_,⟨ns,rfl,e,hb⟩,rfl⟩
    refine⟨D,ns,rfl,SqL.of j4,by omega,fun z hz=>⟨(hb z hz).1,by have:=(hb z hz).2; omega⟩,fun l1 ks h11 hm1=>?_⟩
    refine⟨l1,ks,rfl,j4,fun l2 ms h12 srt hm2=>?_⟩
    refine⟨l2,_,rfl, .inl ⟨SqL.of j4,fun qq hqq=>?_⟩⟩
    have pD:p≠D:=jA hp4 hD
    have p1:p≠l1:=jA hp4 (yF h11).2
    have p2:p≠l2:=jA hp4 (yF (yF h12).2).2
    have pq:p≠qq:=jA hp4 (yF (yF (yF hqq).2).2).2
    refine q qq N4 ms _ g1 ⟨srt,fun z hz=>hb z ((hm1 z).mp ((hm2 z).mp hz)),fun z=>?_⟩ j4 (by rw[j9 pq,j9 p2,j9 p1,j9 pD]; exact hp4) ((((kp.new hD _).new h11 _).new h12 _).new hqq _)
    subst z
    cases ns with
    | nil=>simp at e; omega
    | cons x r=>
     have:=(hm2 x).mpr ((hm1 x).mpr aA)
     cases this
end
structure Ris (w:Int)(ts:List Int):Prop where
 ris:ts.Pairwise (· < ·)
 bnd:∀ z∈ts,0<=z/\z<w
theorem Ris.nil (w:Int):Ris w []:=⟨.nil,fun z hz=>by cases hz⟩
theorem Ris.take {w:Int}{ts:List Int}(h:Ris w ts)(k:Nat):Ris w (ts.take k):=⟨h.ris.sublist (eQ _ _),fun z hz=>h.bnd z (cV hz)⟩
theorem Ris.drop {w:Int}{ts:List Int}(h:Ris w ts)(k:Nat):Ris w (ts.drop k):=⟨h.ris.sublist (List.drop_sublist _ _),fun z hz=>h.bnd z (dH hz)⟩
theorem Ris.snoc {i:Nat}{ts:List Int}(h:Ris i ts):Ris (i+1:Nat) (ts++[(i:Int)]):=by
 refine⟨gd.mpr ⟨h.ris,List.pairwise_singleton _ _,fun a ha b hb=>?_⟩,fun z hz=>?_⟩
 ·have:=(h.bnd a ha).2
  have e:b=i:=by simpa using hb
  omega
 ·rcases bx.mp hz with q | q
  ·have:=h.bnd z q
   omega
  ·have e:z=i:=by simpa using q
   omega
theorem Ris.step {i:Nat}{ts:List Int}(h:Ris i ts):Ris (i+1:Nat) ts:=⟨h.ris,fun z hz=>by have:=h.bnd z hz; omega⟩
def upto (n:Nat):List Int:=(List.range n).map fun (i:Nat)=>(i:Int)
theorem jK3 (n:Nat):jCU n=(upto n).map V.int:=by
 unfold jCU upto
 rw[bv]
 rfl
theorem jGA (n:Nat):Ris n (upto n):=by
 refine⟨?_,fun z hz=>?_⟩
 ·unfold upto
  rw[eX]
  exact fJ.imp fun h=>by omega
 ·unfold upto at hz
  obtain⟨t,ht,rfl⟩:=aQ.mp hz
  have:=aY.mp ht
  omega
def Tups (H H':Hp):Prop:=∀ b xs,H b=some (.tup xs)->H' b=some (.tup xs)
theorem Tups.trans {H H1 H2:Hp}(a:Tups H H1)(b:Tups H1 H2):Tups H H2:=fun c o h=>b c o (a c o h)
theorem Keep.tups {H H':Hp}{p:Addr}{xs:List V}(k:Keep H H' p)(hp:H p=some (.lst xs)):Tups H H':=fun b ys hb=>k b _ hb fun e=>by
 subst e
 rw[hb] at hp
 cases hp
theorem Tups.upd {H:Hp}{p:Addr}{xs:List V}(hp:H p=some (.lst xs))(o:HO):Tups H (upd H p o):=fun b ys hb=>by
 rw[j9 (fun e=>by subst e; rw[hb] at hp; cases hp)]
 exact hb
theorem Tups.new {H:Hp}{p:Addr}(hp:H p=none)(o:HO):Tups H (L2.upd H p o):=fun b ys hb=>by
 rw[j9 (jA hb hp)]
 exact hb
def PcAt (H:Hp)(v:V)(pc:List Int×Int):Prop:=∃ a q,v= .ref a/\H a=some (.tup [.ref q, .int pc.2])/\H q=some (.tup (pc.1.map V.int))
def PcsAt (H:Hp):List V->List (List Int×Int)->Prop
 | [],[]=>True
 | v::vs,p::ps=>PcAt H v p/\PcsAt H vs ps
 | _,_=>False
theorem PcAt.mono {H H':Hp}{v:V}{pc:List Int×Int}(h:PcAt H v pc)(t:Tups H H'):PcAt H' v pc:=by
 obtain⟨a,q,rfl,h1,h2⟩:=h
 exact⟨a,q,rfl,t _ _ h1,t _ _ h2⟩
theorem PcsAt.mono {H H':Hp}(t:Tups H H'):∀ {vs:List V}{ps:List (List Int×Int)},PcsAt H vs ps->PcsAt H' vs ps
 | [],[],_=>trivial
 | _::_,_::_,h=>⟨h.1.mono t,PcsAt.mono t h.2⟩
 | [],_::_,h=>h.elim
 | _::_,[],h=>h.elim
theorem PcsAt.len {H:Hp} :∀ {vs:List V}{ps:List (List Int×Int)},PcsAt H vs ps->vs.length=ps.length
 | [],[],_=>rfl
 | _::_,_::_,h=>bP (· +1) (PcsAt.len h.2)
 | [],_::_,h=>h.elim
 | _::_,[],h=>h.elim
theorem PcsAt.put {H:Hp}{v:V}{p:List Int×Int}(hv:PcAt H v p):∀ (k:Nat) {vs:List V}{ps:List (List Int×Int)},PcsAt H vs ps->PcsAt H (vs.take k++v::vs.drop k) (ps.take k++p::ps.drop k)
 | 0,_,_,h=>⟨hv,h⟩
 | _+1,[],[],_=>⟨hv,trivial⟩
 | k+1,_::_,_::_,h=>⟨h.1,PcsAt.put hv k h.2⟩
 | _+1,[],_::_,h=>h.elim
 | _+1,_::_,[],h=>h.elim
structure GoodPc (w:Int)(pc:List Int×Int):Prop where
 lot:Lot w pc.1
 lo: -1000000000000<=pc.2
 hi:pc.2<=1000000000000
structure BoxAt (H:Hp)(b:Addr)(w:Int)(mays:List Int)(pcs:List (List Int×Int)):Prop where
 ex:∃ qm qp vs,H b=some (.tup [.int w, .ref qm, .ref qp])/\H qm=some (.tup (mays.map V.int))/\H qp=some (.tup vs)/\PcsAt H vs pcs
theorem BoxAt.mono {H H':Hp}{b:Addr}{w:Int}{mays:List Int}{pcs:List (List Int×Int)}(h:BoxAt H b w mays pcs)(t:Tups H H'):BoxAt H' b w mays pcs:=by
 obtain⟨qm,qp,vs,h1,h2,h3,h4⟩:=h.ex
 exact⟨qm,qp,vs,t _ _ h1,t _ _ h2,t _ _ h3,h4.mono t⟩
structure Good (mt mp:Int)(w:Int)(mays:List Int)(pcs:List (List Int×Int)):Prop where
 w0:0<=w
 w1:w<=mt
 mr:Ris w mays
 pl:(pcs.length:Int)<=mp
 pg:∀ pc∈pcs,GoodPc w pc
theorem Keep.updNew {H H1:Hp}{p l:Addr}(a:Keep H H1 p)(hl:H l=none)(o:HO):Keep H (L2.upd H1 l o) p:=fun c u h n=>by
 rw[j9 (jA h hl)]
 exact a c u h n
section
variable {P:Program}{w:World}{K:W.Frag}{mg:Str->Option Value}{base:Heap}
def spBox:Sp:=fun vs H Q _=>∃ (p:Addr) (N mt mp:Int),vs=[.ref p, .int mt, .int mp]/\H p=some (.lst [.int N])/\0<=N/\0<=mt/\mt<=16/\0<=mp/\mp<=32/\
 ∀ (b:Addr) (N' w:Int) (mays:List Int) (pcs:List (List Int×Int)) (H':Hp),0<=N'->H' p=some (.lst [.int N'])->BoxAt H' b w mays pcs->Good mt mp w mays pcs->Keep H H' p->Q (.ref b) H'
noncomputable abbrev nBox:List Str:=["pot","most_things","most_pieces","wide","mays","left","far","pieces","k","size","things"]
theorem scBox:FnScope nBox ["pot","most_things","most_pieces"] (j8 sBox):=⟨rfl,rfl,rfl,by decide+kernel,rfl,by decide+kernel,by decide+kernel⟩
end
section
variable {P:Program}{w:World}{K:W.Frag}{mg:Str->Option Value}{base:Heap}
abbrev XBox (P:Program)(w:World)(K:W.Frag)(mg:Str->Option Value)(base:Heap)(f:Addr)(cdv:Value)(A:Around)(outer:List Env)(s:Shared)(H:Hp)(E:XK):Cx:=(cxOf CX0 P w K mg base nBox "_law_box" (j8 sBox) f cdv A outer s H E).nox
def yQ:Stmt->List Stmt
 | .For _ _ b _ _=>b
 | _=> []
def boxI {f fT fL:Addr}{fdT fdL:FuncData}{cdv:Value}{A:Around}{outer:List Env}{s:Shared}{H:Hp}{E:XK}(T:Txt mg)(CT:Can P w K mg base "_law_take" 1 fT fdT ["pot","wide"] y9)(CL:Can P w K mg base "_law_lot" 2 fL fdL ["pot","wide"] qG)(hr:Room 2 (XBox P w K mg base f cdv A outer s H E).A): { t:TS // JSs (XBox P w K mg base f cdv A outer s H E) ((yQ ((jB sBox).getD 7 (.Pass ⟨0,0,0,0⟩))).drop 4) t} :=
 have nd:=scBox.nd
 ⟨_,(jD (jBA (je_bm bq PySem.F.slot_list_insert PySem.F.type_list_insert jJG (jv 7 rfl vL) (j0 (CT.je (hr.mono (by decide)) gD (j0 (jv 0 rfl vC) (j0 (jX kW (jN jZ gD T.len (by decide+kernel) (j0 (jv 7 rfl vL) j5 j3) j3) (j6)) j5 kZ) j3) j3) (j0 (jGS (j0 (jv 10 rfl vL) (j0 (jX jB3 (CT.je (hr.mono (by decide)) gD (j0 (jv 0 rfl vC) (j0 (jv 6 rfl vL) j5 j3) j3) j3) (jX jGO (jv 6 rfl vL) (j6))) j5 kZ) j3)) j5 jIR) jT) jT) jO))⟩
def boxL {f fT fL:Addr}{fdT fdL:FuncData}{cdv:Value}{A:Around}{outer:List Env}{s:Shared}{H:Hp}{E:XK}(T:Txt mg)(CT:Can P w K mg base "_law_take" 1 fT fdT ["pot","wide"] y9)(CL:Can P w K mg base "_law_lot" 2 fL fdL ["pot","wide"] qG)(hr:Room 2 (XBox P w K mg base f cdv A outer s H E).A): { t:TS // JSs (XBox P w K mg base f cdv A outer s H E) (yQ ((jB sBox).getD 7 (.Pass ⟨0,0,0,0⟩))) t} :=
 have nd:=scBox.nd
 ⟨_,(j7 (jF (i:=9) nd rfl lL (jX kW (j6) (CT.je (hr.mono (by decide)) gD (j0 (jv 0 rfl vC) (j0 (j6) j5 jM) j3) j3)) jBY)
   (j7 (jF (i:=10) nd rfl lL (kN jY gD T.tuple (by decide+kernel) (j0 (jGU jIP (jv 5 rfl vL) jJQ (jJP (jv 9 rfl vL))) j5 jL) jL) jO)
   (j7 (jF (i:=5) nd rfl lL (jGU jIP (jv 5 rfl vL) (jJP (jv 9 rfl vL)) jJQ) jCB)
   (j7 (yE (jJ (jPS hr.units0) (jv 10 rfl vL) (jGS j5) (jP _)) (jD (jF (i:=10) nd rfl lL (CL.je hr gD (j0 (jv 0 rfl vC) (j0 (jv 3 rfl vL) j5 j3) j3) j3) jO)) kG)
   (boxI T CT CL hr).2))))⟩
def boxC {f fT fL:Addr}{fdT fdL:FuncData}{cdv:Value}{A:Around}{outer:List Env}{s:Shared}{H:Hp}{E:XK}(T:Txt mg)(CT:Can P w K mg base "_law_take" 1 fT fdT ["pot","wide"] y9)(CL:Can P w K mg base "_law_lot" 2 fL fdL ["pot","wide"] qG)(hr:Room 2 (XBox P w K mg base f cdv A outer s H E).A): { t:TS // JSs (XBox P w K mg base f cdv A outer s H E) ((jB sBox).drop 5) t} :=
 have nd:=scBox.nd
 ⟨_,(j7 (jF (i:=6) nd rfl lL (jE jU (jJV (j0 (j6) (j0 (j6) (j0 (jQE) j5 kZ) jM) jM)) (CT.je (hr.mono (by decide)) gD (j0 (jv 0 rfl vC) (j0 (j6) j5 jM) j3) j3) jFQ) jCB)
   (j7 (jF (i:=7) nd rfl lL (jJV j5) jCC)
   (j7 (yW bb rfl (kT gD T.range (j0 (jX jC2 (CT.je (hr.mono (by decide)) gD (j0 (jv 0 rfl vC) (j0 (jX kW (jv 2 rfl vL) (j6)) j5 kZ) j3) j3) (kN jF5 gD T.int (by decide+kernel) (j0 (yI qJ (jv 3 rfl vL) (j6) (jP _)) j5 jMK) jMK)) j5 kZ) kZ) (jK (i:=8) nd rfl lL) (boxL T CT CL hr).2 kR)
   (jD (jV (jGS (j0 (jv 3 rfl vL) (j0 (jv 4 rfl vL) (j0 (kN jY gD T.tuple (by decide+kernel) (j0 (jv 7 rfl vL) j5 j3) j3) j5 jT) j3) j3)))))))⟩
def boxB {f fT fL:Addr}{fdT fdL:FuncData}{cdv:Value}{A:Around}{outer:List Env}{s:Shared}{H:Hp}{E:XK}(T:Txt mg)(CT:Can P w K mg base "_law_take" 1 fT fdT ["pot","wide"] y9)(CL:Can P w K mg base "_law_lot" 2 fL fdL ["pot","wide"] qG)(hr:Room 2 (XBox P w K mg base f cdv A outer s H E).A): { t:TS // JSs (XBox P w K mg base f cdv A outer s H E) ((jB sBox).drop 3) t} :=
 have nd:=scBox.nd
 ⟨_,(j7 (jF (i:=5) nd rfl lL (kN (jF4 rfl) gD T.list (by decide+kernel) (j0 (kN jG6 gD T.range (by decide+kernel) (j0 (jv 3 rfl vL) j5 j3) j3) j5 jT) jT) jO)
   (j7 (yE (jJ qD (CT.je (hr.mono (by decide)) gD (j0 (jv 0 rfl vC) (j0 (j6) j5 jM) j3) j3) (j6) (jP _)) (jD (jF (i:=5) nd rfl lL (jJV j5) jCC)) kG)
   (boxC T CT CL hr).2))⟩
def boxA {f fT fL:Addr}{fdT fdL:FuncData}{cdv:Value}{A:Around}{outer:List Env}{s:Shared}{H:Hp}{E:XK}(T:Txt mg)(CT:Can P w K mg base "_law_take" 1 fT fdT ["pot","wide"] y9)(CL:Can P w K mg base "_law_lot" 2 fL fdL ["pot","wide"] qG)(hr:Room 2 (XBox P w K mg base f cdv A outer s H E).A): { t:TS // JSs (XBox P w K mg base f cdv A outer s H E) (jB sBox) t} :=
 have nd:=scBox.nd
 ⟨_,(j7 (jF (i:=3) nd rfl lL (CT.je (hr.mono (by decide)) gD (j0 (jv 0 rfl vC) (j0 (jX kW (jv 1 rfl vL) (j6)) j5 kZ) j3) j3) jO)
   (j7 (jF (i:=4) nd rfl lL (jGS j5) jMI)
   (j7 (yE (jJ qD (CT.je (hr.mono (by decide)) gD (j0 (jv 0 rfl vC) (j0 (j6) j5 jM) j3) j3) (j6) (jP _)) (jD (jF (i:=4) nd rfl lL (kN jY gD T.tuple (by decide+kernel) (j0 (kQ (m:=[none,some 0]) (Nc:=["t","pot"]) rfl (kT gD T.range (j0 (jv 3 rfl vL) j5 j3) j3) rfl (by decide+kernel) (by decide+kernel) (jW (psc:=j8 sBox) (by decide+kernel)) (jI (N:=nBox) rfl rfl (by decide+kernel)) (fun cl C fp s H=>jK (i:=0) (show (["t","pot"]:List Str).Nodup by decide+kernel) rfl (yD (by decide+kernel))) (fun cl C fp s H=>jB9 (jJ qD (CT.je (hr.mono (by decide)) (gl_b (by decide+kernel)) (j0 (jv 1 rfl (kJ (by decide+kernel))) (j0 (j6) j5 jM) j3) j3) (j6) (jP _))) (fun cl C fp s H=>(jv 0 rfl (kB (by decide+kernel)))) kR) j5 jQ) jQ) jO)) kG)
   (boxB T CT CL hr).2)))⟩
end
structure St0 (H H2:Hp)(p:Addr)(w:Int)(qm ql:Addr)(mays lf:List Int)(N:Int):Prop where
 hp:H2 p=some (.lst [.int N])
 hN:0<=N
 hm:H2 qm=some (.tup (mays.map V.int))
 rm:Ris w mays
 hl:H2 ql=some (.lst (lf.map V.int))
 rl:Ris w lf
 ne:ql≠p
 kp:Keep H H2 p
theorem St0.step {H H2 H3:Hp}{p:Addr}{w:Int}{qm ql:Addr}{mays lf:List Int}{N N':Int}(S:St0 H H2 p w qm ql mays lf N)(k:Keep H2 H3 p)(hp:H3 p=some (.lst [.int N']))(hN:0<=N'):St0 H H3 p w qm ql mays lf N':=
 ⟨hp,hN,k qm _ S.hm (ne_of S.hm S.hp (by intro z; cases z)),S.rm,k ql _ S.hl S.ne,S.rl,S.ne,S.kp.trans k⟩
theorem jKE {w:Int}{lf:List Int}(h:Ris w lf)(lo hi:Option Int):∃ l',cutV (lf.map V.int) lo hi=l'.map V.int/\Ris w l':=by
 refine⟨(lf.drop (HT.sIx lf.length 0 lo)).take (HT.sIx lf.length lf.length hi - HT.sIx lf.length 0 lo),?_,(h.drop _).take _⟩
 unfold cutV
 rw[ac,gB,List.map_drop]
section
variable {P:Program}{w:World}{K:W.Frag}{mg:Str->Option Value}{base:Heap}
variable {f fT fL:Addr}{fdT fdL:FuncData}{cdv:Value}{A:Around}{outer:List Env}{s:Shared}{H0:Hp}{E:XK}
theorem jF7 (T:Txt mg)(CT:Can P w K mg base "_law_take" 1 fT fdT ["pot","wide"] y9)(CL:Can P w K mg base "_law_lot" 2 fL fdL ["pot","wide"] qG)(hr:Room 2 (XBox P w K mg base f cdv A outer s H0 E).A)
  {D:Ends}{H H5:Hp}{p qm ql qp qt:Addr}{mt mp w N far:Int}{mays lf ts:List Int}{vs:List V}{pcs:List (List Int×Int)}{v8 v9:Option V}
  (S:St0 H H5 p w qm ql mays lf N) (hqp:H5 qp=some (.lst vs)) (hv:PcsAt H5 vs pcs) (hg:∀ pc∈pcs,GoodPc w pc) (hqt:H5 qt=some (.tup (ts.map V.int))) (lt:Lot w ts) (hf:far=1\/far=10\/far=2000000000001) (hn:pcs.length<=100) (hH:H qp=none) (hne:ql≠qp) (hpp:p≠qp)
  (nx:∀ H6 N' vs' pcs',St0 H H6 p w qm ql mays lf N'->H6 qp=some (.lst vs')->PcsAt H6 vs' pcs'->(∀ pc∈pcs',GoodPc w pc)->pcs'.length=pcs.length+1->D.nx [some (.ref p),some (.int mt),some (.int mp),some (.int w),some (.ref qm),some (.ref ql),some (.int far),some (.ref qp),v8,v9,some (.ref qt)] H6):
  (boxI T CT CL hr).1 D [some (.ref p),some (.int mt),some (.int mp),some (.int w),some (.ref qm),some (.ref ql),some (.int far),some (.ref qp),v8,v9,some (.ref qt)] H5:=by
 have hlen:=hv.len
 have h64:(0:Int)<far/\far<2 ^ 64:=by rcases hf with e | e | e <;> subst e <;> decide
 refine⟨_,rfl, .inl ⟨rfl,_,SqL.of hqp⟩,_,rfl,_,rfl,qp,vs,rfl, .inl (SqL.of hqp),_,_,rfl,rfl,p,N,_,rfl,S.hp,S.hN,by omega,by omega,fun N1 i a1 a2 a3=>?_⟩
 refine⟨_,rfl,_,rfl,_,rfl,p,N1,far,rfl,j4,a1,h64.1,h64.2,fun N2 r b1 b2 b3=>?_⟩
 rw[jAG]
 refine⟨_,rfl,_,_,rfl,rfl,⟨by decide,by decide⟩,_,_,rfl,rfl,(by show 2<=sizeLine; decide),fun tq htq=>?_⟩
 obtain⟨t1,t2⟩:=yF htq
 have ht:tq≠qp:=fun e=>by subst e; rw[hqp] at t2; cases t2
 refine⟨qp,vs,i,_,rfl,rfl,by rw[j9 ht.symm,j9 hpp.symm]; exact hqp,a2,by omega,by rw[aj]; omega,?_⟩
 have T1:Tups H5 (upd (upd H5 p (.lst [.int N2])) tq (.tup [.ref qt, .int (r - far / 2)])):=(Tups.upd S.hp _).trans (Tups.new htq _)
 have k1:Keep H5 (upd (upd H5 p (.lst [.int N2])) tq (.tup [.ref qt, .int (r - far / 2)])) p:=((Keep.refl _ _).upd _).new htq _
 have S1:=S.step k1 (by rw[j9 t1.symm]; exact j4) b1
 have hq1:(upd (upd H5 p (.lst [.int N2])) tq (.tup [.ref qt, .int (r - far / 2)])) qp=some (.lst vs):=by rw[j9 ht.symm,j9 hpp.symm]; exact hqp
 have T2:=T1.trans (Tups.upd hq1 (.lst (vs.take i.toNat++V.ref tq::vs.drop i.toNat)))
 have pc:PcAt (upd (upd H5 p (.lst [.int N2])) tq (.tup [.ref qt, .int (r - far / 2)])) (.ref tq) (ts,r - far / 2):=⟨tq,qt,rfl,j4,T1 _ _ hqt⟩
 refine nx _ N2 _ (pcs.take i.toNat++(ts,r - far / 2)::pcs.drop i.toNat) ⟨?_,b1,?_,S.rm,?_,S.rl,S.ne,S1.kp.updNew hH _⟩ j4 ?_ ?_ ?_
 ·rw[j9 hpp]; exact S1.hp
 ·exact(Tups.upd hq1 _) _ _ S1.hm
 ·rw[j9 hne]; exact S1.hl
 ·exact PcsAt.put (pc.mono (Tups.upd hq1 _)) _ (hv.mono T2)
 ·intro c hc
  rcases bx.mp hc with h | h
  ·exact hg c (cV h)
  ·rcases aC.mp h with h | h
   ·subst h
    refine⟨lt,?_,?_⟩
    ·show -1000000000000<=r - far / 2
     rcases hf with e | e | e <;> subst e <;> omega
    ·show r - far / 2<=1000000000000
     rcases hf with e | e | e <;> subst e <;> omega
   ·exact hg c (dH h)
 ·rw[aN,bp,bz,fh]
  omega
end
section
variable {P:Program}{w:World}{K:W.Frag}{mg:Str->Option Value}{base:Heap}
variable {f fT fL:Addr}{fdT fdL:FuncData}{cdv:Value}{A:Around}{outer:List Env}{s:Shared}{H0:Hp}{E:XK}
theorem jKS (T:Txt mg)(CT:Can P w K mg base "_law_take" 1 fT fdT ["pot","wide"] y9)(CL:Can P w K mg base "_law_lot" 2 fL fdL ["pot","wide"] qG)(hr:Room 2 (XBox P w K mg base f cdv A outer s H0 E).A)
  {D:Ends}{H H5:Hp}{p qm ql qp:Addr}{mt mp w N far:Int}{mays lf:List Int}{vs:List V}{pcs:List (List Int×Int)}{v8 v9 v10:Option V}
  (S:St0 H H5 p w qm ql mays lf N) (hqp:H5 qp=some (.lst vs)) (hv:PcsAt H5 vs pcs) (hg:∀ pc∈pcs,GoodPc w pc) (hf:far=1\/far=10\/far=2000000000001) (hn:pcs.length<=100) (hH:H qp=none) (hpp:p≠qp) (w1:1<=w) (w2:w<=16)
  (nx:∀ H6 N' vs' pcs' ql' lf' v9' v10',St0 H H6 p w qm ql' mays lf' N'->ql'≠qp->H6 qp=some (.lst vs')->PcsAt H6 vs' pcs'->(∀ pc∈pcs',GoodPc w pc)->pcs'.length=pcs.length+1->D.nx [some (.ref p),some (.int mt),some (.int mp),some (.int w),some (.ref qm),some (.ref ql'),some (.int far),some (.ref qp),v8,v9',v10'] H6):
  (boxL T CT CL hr).1 D [some (.ref p),some (.int mt),some (.int mp),some (.int w),some (.ref qm),some (.ref ql),some (.int far),some (.ref qp),v8,v9,v10] H5:=by
 refine⟨_,rfl,p,N,3,rfl,S.hp,S.hN,by decide,by decide,fun N1 r1 a1 a2 a3=>⟨_,_,rfl,rfl,?_⟩⟩
 have S1:=S.step ((Keep.refl _ _).upd (.lst [.int N1])) j4 a1
 have hq1:(upd H5 p (.lst [.int N1])) qp=some (.lst vs):=by rw[j9 hpp.symm]; exact hqp
 have hv1:=hv.mono (Tups.upd S.hp (.lst [.int N1]))
 generalize upd H5 p (.lst [.int N1])=H6 at S1 hq1 hv1 ⊢
 clear S hqp hv
 obtain⟨l1,e1,g1⟩:=jKE S1.rl none (some (1+r1))
 obtain⟨l2,e2,g2⟩:=jKE S1.rl (some (1+r1)) none
 refine⟨_,rfl,_,rfl,1+r1,rfl,ql,_,rfl,SqL.of S1.hl,fun x hx=>⟨x,_,rfl, .inl ⟨SqL.of j4,fun qt hqt=>?_⟩⟩⟩
 rw[e1] at hqt ⊢
 have k1:Keep H6 (upd (upd H6 x (.lst (l1.map V.int))) qt (.tup (l1.map V.int))) p:=((Keep.refl _ _).new hx _).new hqt _
 obtain⟨t1,t2⟩:=yF hqt
 have px:p≠x:=jA S1.hp hx
 have pt:p≠qt:=jA S1.hp t2
 have qx:qp≠x:=jA hq1 hx
 have qq:qp≠qt:=jA hq1 t2
 have S2:=S1.step k1 (by rw[j9 pt,j9 px]; exact S1.hp) S1.hN
 have hq2:(upd (upd H6 x (.lst (l1.map V.int))) qt (.tup (l1.map V.int))) qp=some (.lst vs):=by rw[j9 qq,j9 qx]; exact hq1
 have hv2:=hv1.mono (k1.tups S1.hp)
 have ht2:(upd (upd H6 x (.lst (l1.map V.int))) qt (.tup (l1.map V.int))) qt=some (.tup (l1.map V.int)):=j4
 generalize upd (upd H6 x (.lst (l1.map V.int))) qt (.tup (l1.map V.int))=H7 at S2 hq2 hv2 ht2 ⊢
 clear k1 hqt t2 hx S1 hq1 hv1
 refine⟨_,rfl,_,rfl,1+r1,rfl,ql,_,rfl,SqL.of S2.hl,fun ql' hql=>?_⟩
 rw[e2]
 have pl:p≠ql':=jA S2.hp hql
 have k2:Keep H7 (upd H7 ql' (.lst (l2.map V.int))) p:=(Keep.refl _ _).new hql _
 have S3':=S2.step k2 (by rw[j9 pl]; exact S2.hp) S2.hN
 have S3:St0 H (upd H7 ql' (.lst (l2.map V.int))) p w qm ql' mays l2 N1:=⟨S3'.hp,S3'.hN,S3'.hm,S3'.rm,j4,g2,pl.symm,S3'.kp⟩
 have hne:qp≠ql':=jA hq2 hql
 have hq3:(upd H7 ql' (.lst (l2.map V.int))) qp=some (.lst vs):=by rw[j9 hne]; exact hq2
 have hv3:=hv2.mono (k2.tups S2.hp)
 have ht3:=k2.tups S2.hp _ _ ht2
 generalize upd H7 ql' (.lst (l2.map V.int))=H8 at S3 hq3 hv3 ht3 ⊢
 clear k2 S3' S2 hq2 hv2 ht2 hql
 refine⟨_,rfl,(by show 0<=sizeLine; exact aW _),fun z hz=>⟨qt,z,l1.map V.int,rfl,rfl,SqT.of ?_,SqT.of j4,_,rfl,?_⟩⟩
 ·rw[j9 (jA ht3 hz)]; exact ht3
 have pz:p≠z:=jA S3.hp hz
 have qz:qp≠z:=jA hq3 hz
 have k3:Keep H8 (upd H8 z (.tup [])) p:=(Keep.refl _ _).new hz _
 have S4:=S3.step k3 (by rw[j9 pz]; exact S3.hp) S3.hN
 have hq4:(upd H8 z (.tup [])) qp=some (.lst vs):=by rw[j9 qz]; exact hq3
 have hv4:=hv3.mono (k3.tups S3.hp)
 have ht4:=k3.tups S3.hp _ _ ht3
 generalize upd H8 z (.tup [])=H9 at S4 hq4 hv4 ht4 ⊢
 clear k3 S3 hq3 hv3 ht3 hz pz qz
 refine ite2 (fun hy=>?_) (fun hy=>?_)
 ·refine⟨_,rfl,_,rfl,p,N1,w,rfl,S4.hp,S4.hN,w1,w2,fun q N2 ts H' b1 lt b2 b3 b4=>?_⟩
  exact jF7 T CT CL hr (S4.step b4 b3 b1) (b4 _ _ hq4 hpp.symm) (hv4.mono (b4.tups S4.hp)) hg b2 lt hf hn hH hne.symm hpp fun H6 N' vs' pcs' z1 z2 z3 z4 z5=>nx H6 N' vs' pcs' ql' l2 _ _ z1 hne.symm z2 z3 z4 z5
 ·have nl:l1≠ []:=fun e=>hy (ar (by rw[e]; rfl))
  exact jF7 T CT CL hr S4 hq4 hv4 hg ht4 ⟨g1.ris,g1.bnd,nl⟩ hf hn hH hne.symm hpp fun H6 N' vs' pcs' z1 z2 z3 z4 z5=>nx H6 N' vs' pcs' ql' l2 _ _ z1 hne.symm z2 z3 z4 z5
end
section
variable {P:Program}{w:World}{K:W.Frag}{mg:Str->Option Value}{base:Heap}
variable {f fT fL:Addr}{fdT fdL:FuncData}{cdv:Value}{A:Around}{outer:List Env}{s:Shared}{H0:Hp}{E:XK}
def Told (H:Hp)(p:Addr)(mt mp:Int)(R:VK):Prop:=∀ (b:Addr) (N' w:Int) (mays:List Int) (pcs:List (List Int×Int)) (H':Hp),0<=N'->H' p=some (.lst [.int N'])->BoxAt H' b w mays pcs->Good mt mp w mays pcs->Keep H H' p->R (.ref b) H'
theorem jF8 (T:Txt mg)(CT:Can P w K mg base "_law_take" 1 fT fdT ["pot","wide"] y9)(CL:Can P w K mg base "_law_lot" 2 fL fdL ["pot","wide"] qG)(hr:Room 2 (XBox P w K mg base f cdv A outer s H0 E).A)
  {D:Ends}{H H5:Hp}{p qm ql:Addr}{mt mp w N:Int}{mays lf:List Int}{v6 v7 v8 v9 v10:Option V}
  (S:St0 H H5 p w qm ql mays lf N) (hpH:∃ o,H p=some o) (w0:0<=w) (w1:w<=mt) (w2:mt<=16) (n0:0<=mp) (n1:mp<=32) (q:Told H p mt mp D.rt):
  (boxC T CT CL hr).1 D [some (.ref p),some (.int mt),some (.int mp),some (.int w),some (.ref qm),some (.ref ql),v6,v7,v8,v9,v10] H5:=by
 refine⟨(by show 3<=sizeLine; decide),fun l hl=>?_⟩
 have pl:p≠l:=jA S.hp hl
 refine⟨_,rfl,p,N,3,rfl,by rw[j9 pl]; exact S.hp,S.hN,by decide,by decide,fun N1 r a1 a2 a3=>?_⟩
 obtain⟨far,hfar,hf⟩:∃ far:Int,atI [V.int 1,V.int 10,V.int 2000000000001] r=some (.int far)/\(far=1\/far=10\/far=2000000000001):=by
  rcases (show r=0\/r=1\/r=2 by omega) with e | e | e
  ·subst e; exact⟨_,rfl, .inl rfl⟩
  ·subst e; exact⟨_,rfl, .inr (.inl rfl)⟩
  ·subst e; exact⟨_,rfl, .inr (.inr rfl)⟩
 refine⟨l,_,r,_,rfl,rfl,SqL.of (by rw[j9 pl.symm]; exact j4),hfar,?_⟩
 have S1:=S.step ((((Keep.refl _ _).new hl (.lst [V.int 1,V.int 10,V.int 2000000000001])).upd (.lst [.int N1]))) j4 a1
 generalize upd (upd H5 l (.lst [V.int 1,V.int 10,V.int 2000000000001])) p (.lst [.int N1])=H6 at S1 ⊢
 clear hl S
 refine⟨(by show 0<=sizeLine; exact aW _),fun qp hqp=>?_⟩
 have pq:p≠qp:=jA S1.hp hqp
 have hHq:H qp=none:=by
  cases e:H qp with
  | none=>rfl
  | some o=>
   have:=S1.kp _ _ e pq.symm
   rw[hqp] at this
   cases this
 have lq:ql≠qp:=jA S1.hl hqp
 have S2:=S1.step ((Keep.refl _ _).new hqp (.lst [])) (by rw[j9 pq]; exact S1.hp) S1.hN
 have hq2:(upd H6 qp (.lst [])) qp=some (.lst []):=j4
 generalize upd H6 qp (.lst [])=H7 at S2 hq2 ⊢
 clear hqp S1
 refine⟨_,rfl,_,rfl,_,_,rfl,rfl,p,N1,_,rfl,S2.hp,S2.hN,by omega,by omega,fun N2 n b1 b2 b3=>?_⟩
 refine⟨_,rfl,_,_,rfl,rfl, .inr ⟨_,rfl,_,_,rfl,rfl, .inl ⟨by omega,by omega⟩,_,rfl,?_⟩⟩
 have S3:=S2.step ((Keep.refl _ _).upd (.lst [.int N2])) j4 b1
 have hq3:(upd H7 p (.lst [.int N2])) qp=some (.lst []):=by rw[j9 pq.symm]; exact hq2
 generalize upd H7 p (.lst [.int N2])=H8 at S3 hq3 ⊢
 clear S2 hq2
 obtain⟨m,em,hm,hw⟩:∃ m:Int,n*(if decide (0<w)=true then 1 else 0)=m/\(0<=m/\m<=mp)/\(0<m->1<=w):=by
  by_cases h:0<w
  ·exact⟨n,by simp [h],⟨b2,by omega⟩,fun _=>h⟩
  ·exact⟨0,by simp [h],⟨by omega,n0⟩,fun z=>by omega⟩
 show _/\_/\_
 rw[show (n*(if decide (0<w)=true then 1 else 0))=m from em]
 refine⟨by omega,by omega,jA2 (n:=m.toNat) (fun i σ H5=>∃ ql' lf' N' vs pcs v8 v9 v10,σ=[some (.ref p),some (.int mt),some (.int mp),some (.int w),some (.ref qm),some (.ref ql'),some (.int far),some (.ref qp),v8,v9,v10]/\St0 H H5 p w qm ql' mays lf' N'/\ql'≠qp/\H5 qp=some (.lst vs)/\PcsAt H5 vs pcs/\(∀ pc∈pcs,GoodPc w pc)/\pcs.length=i) ?_ ?_ ?_⟩
 ·exact⟨ql,lf,N2,[],[],_,_,_,rfl,S3,lq,hq3,trivial,(fun _ h=>by cases h),rfl⟩
 ·rintro i σ H9 hi ⟨ql',lf',N',vs,pcs,x8,x9,x10,rfl,S4,l4,hq4,hv4,hg4,e4⟩
  exact jKS T CT CL hr S4 hq4 hv4 hg4 hf (by omega) hHq pq (hw (by omega)) (by omega) fun H6 N' vs' pcs' ql' lf' v9' v10' z1 z2 z3 z4 z5 z6=>⟨ql',lf',N',vs',pcs',_,_,_,rfl,z1,z2,z3,z4,z5,by omega⟩
 ·rintro σ H9 ⟨ql',lf',N',vs,pcs,x8,x9,x10,rfl,S4,l4,hq4,hv4,hg4,e4⟩
  refine⟨_,rfl,_,rfl,_,rfl,qp,vs,rfl, .inl ⟨SqL.of hq4,fun tq htq=>⟨(by show 3<=sizeLine; decide),fun b hb=>?_⟩⟩⟩
  have k1:Keep H9 (upd H9 tq (.tup vs)) p:=(Keep.refl _ _).new htq _
  have k2:Keep H9 (upd (upd H9 tq (.tup vs)) b (.tup [.int w, .ref qm, .ref tq])) p:=k1.new hb _
  have tb:=jA j4 hb
  have S5:=S4.step k2 (by rw[j9 (yF hb |>.2 |> fun h=>jA S4.hp h),j9 (jA S4.hp htq)]; exact S4.hp) S4.hN
  exact q b N' w mays pcs _ S4.hN S5.hp ⟨qm,tq,vs,j4,S5.hm,by rw[j9 tb]; exact j4,hv4.mono (k2.tups S4.hp)⟩ ⟨w0,w1,S4.rm,by omega,hg4⟩ S5.kp
end
section
variable {P:Program}{w:World}{K:W.Frag}{mg:Str->Option Value}{base:Heap}
section
variable {f fT fL:Addr}{fdT fdL:FuncData}{cdv:Value}{A:Around}{outer:List Env}{s:Shared}{H0:Hp}{E:XK}
theorem jF9 (T:Txt mg)(CT:Can P w K mg base "_law_take" 1 fT fdT ["pot","wide"] y9)(CL:Can P w K mg base "_law_lot" 2 fL fdL ["pot","wide"] qG)(hr:Room 2 (XBox P w K mg base f cdv A outer s H0 E).A)
  {D:Ends}{H H5:Hp}{p qm:Addr}{mt mp w N:Int}{mays:List Int}{v5 v6 v7 v8 v9 v10:Option V}
  (hp:H5 p=some (.lst [.int N])) (hN:0<=N) (hm:H5 qm=some (.tup (mays.map V.int))) (rm:Ris w mays) (kp:Keep H H5 p) (hpH:∃ o,H p=some o) (w0:0<=w) (w1:w<=mt) (w2:mt<=16) (n0:0<=mp) (n1:mp<=32) (q:Told H p mt mp D.rt):
  (boxB T CT CL hr).1 D [some (.ref p),some (.int mt),some (.int mp),some (.int w),some (.ref qm),v5,v6,v7,v8,v9,v10] H5:=by
 refine⟨_,rfl,w,rfl,fun x hx=>⟨x,w,rfl,j4,w0,by omega,fun ql hql=>?_⟩⟩
 rw[jK3]
 have px:p≠x:=jA hp hx
 have pl:p≠ql:=jA hp (yF hql).2
 have k1:Keep H5 (upd (upd H5 x (.rng 0 w)) ql (.lst ((upto w.toNat).map V.int))) p:=((Keep.refl _ _).new hx _).new hql _
 have e:((w.toNat:Nat):Int)=w:=by omega
 have rl:Ris w (upto w.toNat):=by
  have:=jGA w.toNat
  rw[e] at this
  exact this
 have S:St0 H (upd (upd H5 x (.rng 0 w)) ql (.lst ((upto w.toNat).map V.int))) p w qm ql mays (upto w.toNat) N:=
  ⟨by rw[j9 pl,j9 px]; exact hp,hN,k1 qm _ hm (ne_of hm hp (by intro z; cases z)),rm,j4,rl,pl.symm,kp.trans k1⟩
 generalize upd (upd H5 x (.rng 0 w)) ql (.lst ((upto w.toNat).map V.int))=H6 at S ⊢
 clear k1 hql hx hp hm kp
 refine⟨_,rfl,p,N,3,rfl,S.hp,S.hN,by decide,by decide,fun N1 r a1 a2 a3=>⟨rfl,_,rfl,?_⟩⟩
 have S1:=S.step ((Keep.refl _ _).upd (.lst [.int N1])) j4 a1
 generalize upd H6 p (.lst [.int N1])=H7 at S1 ⊢
 clear S
 refine ite2 (fun hy=>?_) (fun hy=>?_)
 ·refine⟨(by show 0<=sizeLine; exact aW _),fun l hl=>?_⟩
  have pl2:p≠l:=jA S1.hp hl
  have S2:=S1.step ((Keep.refl _ _).new hl (.lst [])) (by rw[j9 pl2]; exact S1.hp) S1.hN
  have S3:St0 H (upd H7 l (.lst [])) p w qm l mays [] N1:=⟨S2.hp,S2.hN,S2.hm,S2.rm,j4,Ris.nil w,pl2.symm,S2.kp⟩
  exact jF8 T CT CL hr S3 hpH w0 w1 w2 n0 n1 q
 ·exact jF8 T CT CL hr S1 hpH w0 w1 w2 n0 n1 q
theorem jKT (T:Txt mg)(CT:Can P w K mg base "_law_take" 1 fT fdT ["pot","wide"] y9)(CL:Can P w K mg base "_law_lot" 2 fL fdL ["pot","wide"] qG)(hr:Room 2 (XBox P w K mg base f cdv A outer s H0 E).A)
  {D:Ends}{H:Hp}{p:Addr}{mt mp N:Int}
  (hp:H p=some (.lst [.int N])) (hN:0<=N) (w0:0<=mt) (w2:mt<=16) (n0:0<=mp) (n1:mp<=32) (q:Told H p mt mp D.rt):
  (boxA T CT CL hr).1 D [some (.ref p),some (.int mt),some (.int mp),none,none,none,none,none,none,none,none] H:=by
 refine⟨_,rfl,_,rfl,_,_,rfl,rfl,p,N,_,rfl,hp,hN,by omega,by omega,fun N1 w a1 a2 a3=>?_⟩
 refine⟨(by show 0<=sizeLine; exact aW _),fun t ht=>?_⟩
 have pt:p≠t:=(yF ht).1.symm
 refine⟨_,rfl,p,N1,3,rfl,by rw[j9 pt]; exact j4,a1,by decide,by decide,fun N2 r b1 b2 b3=>⟨rfl,_,rfl,?_⟩⟩
 have k1:Keep H (upd (upd (upd H p (.lst [.int N1])) t (.tup [])) p (.lst [.int N2])) p:=(((Keep.refl _ _).upd _).new ht _).upd _
 have hp1:(upd (upd (upd H p (.lst [.int N1])) t (.tup [])) p (.lst [.int N2])) p=some (.lst [.int N2]):=j4
 have ht1:(upd (upd (upd H p (.lst [.int N1])) t (.tup [])) p (.lst [.int N2])) t=some (.tup []):=by rw[j9 pt.symm]; exact j4
 generalize upd (upd (upd H p (.lst [.int N1])) t (.tup [])) p (.lst [.int N2])=H1 at k1 hp1 ht1 ⊢
 clear ht
 refine ite2 (fun hy=>?_) (fun hy=>?_)
 ·refine⟨_,rfl,w,rfl,by omega,by omega,jAX (n:=w.toNat) (by rw[aj]; omega) (fun D i σ' H' ys=>(∃ v,σ'=[v,some (.ref p)])/\(∃ (ms:List Int) (N':Int),ys=ms.map V.int/\ms.length<=i/\Ris i ms/\0<=N'/\H' p=some (.lst [.int N']))/\Keep H1 H' p/\H' D=some (.lst ys)/\D≠p/\H1 D=none) ?_ ?_ ?_ ?_⟩
  ·intro D hD
   have:p≠D:=jA hp1 hD
   exact⟨⟨_,rfl⟩,⟨[],N2,rfl,af _,Ris.nil _,b1,by rw[j9 this]; exact hp1⟩,(Keep.refl _ _).new hD _,j4,this.symm,hD⟩
  ·rintro D i σ' H' ys hD hi ⟨_,⟨ms,N',rfl,e,_⟩,_,e2,_⟩
   exact⟨e2,by rw[ac]; exact e⟩
  ·rintro D i σ' H' ys hD hi ⟨⟨v,rfl⟩,⟨ms,N',rfl,e,rs,n',hp'⟩,kk,e2,dp,hn⟩
   refine⟨_,rfl,p,N',3,rfl,hp',n',by decide,by decide,fun N3 r3 c1 c2 c3=>⟨rfl,_,rfl,?_⟩⟩
   have k2:Keep H1 (upd H' p (.lst [.int N3])) p:=kk.upd _
   have e3:(upd H' p (.lst [.int N3])) D=some (.lst (ms.map V.int)):=by rw[j9 dp]; exact e2
   have hp3:(upd H' p (.lst [.int N3])) p=some (.lst [.int N3]):=j4
   generalize upd H' p (.lst [.int N3])=H'' at k2 e3 hp3 ⊢
   refine ite2 (fun hz=>?_) (fun hz=>?_)
   ·refine⟨_,rfl,e3,⟨_,rfl⟩,⟨ms++[(i:Int)],N3,?_,?_,rs.snoc,c1,by rw[j9 dp.symm]; exact hp3⟩,k2.updNew hn _,j4,dp,hn⟩
    ·rw[aD]
     show _++[V.int (0+(i:Int))]=_++[V.int (i:Int)]
     rw[bA]
    ·rw[aN]
     show ms.length+1<=i+1
     omega
   ·exact⟨⟨_,rfl⟩,⟨ms,N3,rfl,by omega,rs.step,c1,hp3⟩,k2,e3,dp,hn⟩
  ·rintro D σ' H' ys hD ⟨_,⟨ms,N',rfl,e,rs,n',hp'⟩,kk,e2,dp,hn⟩
   refine⟨D,_,rfl, .inl ⟨SqL.of e2,fun qm hqm=>?_⟩⟩
   have pm:p≠qm:=jA hp' hqm
   have e':((w.toNat:Nat):Int)=w:=by omega
   rw[e'] at rs
   exact jF9 T CT CL hr (by rw[j9 pm]; exact hp') n' j4 rs ((k1.trans kk).new hqm _) ⟨_,hp⟩ a2 (by omega) w2 n0 n1 q
 ·exact jF9 T CT CL hr hp1 b1 (mays:=[]) ht1 (Ris.nil w) k1 ⟨_,hp⟩ a2 (by omega) w2 n0 n1 q
end
theorem jQ2 {f fT fL:Addr}{fd fdT fdL:FuncData}(F:Fun K "_law_box" "_law_box" sBox f fd)(T:Txt mg)(CT:Can P w K mg base "_law_take" 1 fT fdT ["pot","wide"] y9)(CL:Can P w K mg base "_law_lot" 2 fL fdL ["pot","wide"] qG):
  FnOk P w K mg base CX0 3 f fd ["pot","most_things","most_pieces"] spBox:=by
 refine F.ok scBox (fun vs H Q E h=>?_) (fun cdv A outer s H vs Q E hr h=>?_)
 ·obtain⟨_,_,_,_,rfl,_⟩:=h
  rfl
 ·obtain⟨p,N,mt,mp,rfl,hp,hN,m0,m1,n0,n1,q⟩:=h
  exact⟨_,(boxA T CT CL hr).2.h,jKT T CT CL hr hp hN m0 m1 n0 n1 q⟩
end
inductive Ob where
 | int (i:Int)
 | oth
 | tup (os:List Ob)
def OthAt (H:Hp)(v:V):Prop:=v= .non\/(∃ b,v= .bl b)\/(∃ x,v= .str x)\/∃ a,v= .ref a/\((∃ xs,H a=some (.lst xs))\/∃ kvs,H a=some (.dK kvs))
mutual
def At (H:Hp):Ob->V->Prop
 | .int i,v=>v= .int i
 | .oth,v=>OthAt H v
 | .tup os,v=>∃ a vs,v= .ref a/\H a=some (.tup vs)/\vs.length<=100/\Ats H os vs
def Ats (H:Hp):List Ob->List V->Prop
 | [],vs=>vs=[]
 | o::os,vs=>∃ v r,vs=v::r/\At H o v/\Ats H os r
end
structure Kp (H H':Hp):Prop where
 t:Tups H H'
 l:∀ a xs,H a=some (.lst xs)->∃ ys,H' a=some (.lst ys)
 d:∀ a xs,H a=some (.dK xs)->∃ ys,H' a=some (.dK ys)
theorem Kp.of {H H':Hp}(e:Ext H H'):Kp H H':=⟨fun b xs h=>e b _ h,fun a xs h=>⟨xs,e a _ h⟩,fun a xs h=>⟨xs,e a _ h⟩⟩
theorem OthAt.mono {H H':Hp}(k:Kp H H'){v:V}(h:OthAt H v):OthAt H' v:=by
 rcases h with h | h | h | ⟨a,rfl,⟨xs,h⟩ | ⟨xs,h⟩⟩
 ·exact .inl h
 ·exact .inr (.inl h)
 ·exact .inr (.inr (.inl h))
 ·exact .inr (.inr (.inr ⟨a,rfl, .inl (k.l _ _ h)⟩))
 ·exact .inr (.inr (.inr ⟨a,rfl, .inr (k.d _ _ h)⟩))
mutual
theorem At.mono {H H':Hp}(k:Kp H H'):∀ (o:Ob) (v:V),At H o v->At H' o v
 | .int _,_,h=>h
 | .oth,_,h=>OthAt.mono k h
 | .tup os,_,⟨a,vs,e,h,n,r⟩=>⟨a,vs,e,k.t _ _ h,n,Ats.mono k os vs r⟩
theorem Ats.mono {H H':Hp}(k:Kp H H'):∀ (os:List Ob) (vs:List V),Ats H os vs->Ats H' os vs
 | [],_,h=>h
 | o::os,_,⟨v,r,e,h,t⟩=>⟨v,r,e,At.mono k o v h,Ats.mono k os r t⟩
end
theorem At.ext {H H':Hp}(e:Ext H H'){o:Ob}{v:V}(h:At H o v):At H' o v:=At.mono (.of e) o v h
theorem Ats.len {H:Hp} :∀ {os:List Ob}{vs:List V},Ats H os vs->vs.length=os.length
 | [],_,h=>by cases (show _=[] from h); rfl
 | o::os,_,⟨v,r,e,h,t⟩=>by rw[e,bp,bp,Ats.len t]
theorem Ats.get {H:Hp} :∀ {os:List Ob}{vs:List V},Ats H os vs->∀ {i:Nat}{v:V},vs[i]?=some v->∃ o,os[i]?=some o/\At H o v
 | [],_,h,i,v,e=>by cases (show _=[] from h); cases e
 | o::os,_,⟨v,r,e,h,t⟩,0,v',e'=>by subst e; cases e'; exact⟨o,rfl,h⟩
 | o::os,_,⟨v,r,e,h,t⟩,i+1,v',e'=>by subst e; exact Ats.get t (i:=i) e'
theorem Ats.append {H:Hp} :∀ {os:List Ob}{vs:List V}{os2:List Ob}{vs2:List V},Ats H os vs->Ats H os2 vs2->Ats H (os++os2) (vs++vs2)
 | [],_,_,_,h,h2=>by cases (show _=[] from h); exact h2
 | o::os,_,_,_,⟨v,r,e,h,t⟩,h2=>by subst e; exact⟨v,_,rfl,h,Ats.append t h2⟩
def isInt:Ob->Bool
 | .int _=>true
 | _=>false
def isTup:Ob->Bool
 | .tup _=>true
 | _=>false
def val:Ob->Int
 | .int i=>i
 | _=>0
theorem jN4 (l:List Ob)(F:Ob->Bool):(l.map F).all id=l.all F:=by
 rw[all_map]
 rfl
theorem At.ty (K:W.Frag){H:Hp}{o:Ob}{v:V}(h:At H o v):∃ t,TyOf K H v t/\kitOne K t (.type "tuple")=some (isTup o)/\∃ b1 b2,kitOne K t (.type "int")=some b1/\kitOne K t (.type "bool")=some b2/\(b1&&!b2)=isInt o:=by
 cases o with
 | int i=>
  cases (show v= .int i from h)
  exact⟨_, .int i,rfl,true,false,rfl,rfl,rfl⟩
 | oth=>
  rcases (show OthAt H v from h) with rfl | ⟨b,rfl⟩ | ⟨x,rfl⟩ | ⟨a,rfl,⟨xs,e⟩ | ⟨xs,e⟩⟩
  ·exact⟨_, .non,rfl,false,false,rfl,rfl,rfl⟩
  ·exact⟨_, .bl b,rfl,true,true,rfl,rfl,rfl⟩
  ·exact⟨_, .str x,rfl,false,false,rfl,rfl,rfl⟩
  ·exact⟨_, .lst e,rfl,false,false,rfl,rfl,rfl⟩
  ·exact⟨_, .dK e,rfl,false,false,rfl,rfl,rfl⟩
 | tup os=>
  obtain⟨a,vs,rfl,e,_⟩:=h
  exact⟨_, .tup e,rfl,false,false,rfl,rfl,rfl⟩
theorem At.tupOf {H:Hp}{o:Ob}{v:V}(h:At H o v)(t:isTup o=true):∃ os a vs,o= .tup os/\v= .ref a/\H a=some (.tup vs)/\vs.length<=100/\Ats H os vs:=by
 cases o with
 | int i=>cases t
 | oth=>cases t
 | tup os=>
  obtain⟨a,vs,e1,e2,e4,e3⟩:=h
  exact⟨os,a,vs,rfl,e1,e2,e4,e3⟩
theorem jF0 {K:W.Frag}{m:List (Option Nat)}{g:TG}{tt:TT}{te:TE}{σ:St}{H1:Hp}{Q:VK}{a:Addr}{xs:List V}{os:List Ob}{F:Ob->Bool}(ha:H1 a=some (.tup xs))(hx:Ats H1 os xs)(hn:xs.length<sizeLine)(σP:St->Prop)(h0:σP (blkσ m σ))
  (step:∀ (σ':St) (H':Hp) (v:V) (o:Ob) (R:St->V->Hp->Prop) (S:St->Hp->Prop),σP σ'->Ext H1 H'->At H' o v->(∀ σ2 H'',σP σ2->Ext H' H''->R σ2 (.bl (F o)) H'')->g v σ' H' fun σ2 H2=>tt σ2 H2 fun b H3=>if b=true then te σ2 H3 (R σ2) else S σ2 H3)
  (hd:∀ D H',Ext H1 H'->H' D=some (.lst ((os.map F).map V.bl))->Q (.ref D) H'):qN m g tt te σ Q (Itt K a) H1:=by
 have hl:=hx.len
 refine jBM (xs:=xs) hn (fun D i σ' H' zs=>σP σ'/\Ext H1 H'/\H' D=some (.lst zs)/\H1 D=none/\zs=((os.take i).map F).map V.bl) ?_ ?_ ?_ ?_
 ·intro D hD
  exact⟨h0,(Ext.refl _).new hD _,j4,hD,rfl⟩
 ·rintro D i σ' H' zs hD ⟨_,e,h2,_,rfl⟩
  refine⟨e _ _ ha,h2,?_⟩
  rw[ac,ac,bz]
  omega
 ·rintro D i σ' H' zs x hD hi ⟨p,e,h2,hn,rfl⟩
  obtain⟨o,ho,hAt⟩:=hx.get hi
  refine step σ' H' x o _ _ p e (hAt.ext e) fun σ2 H'' p2 e2=>⟨e2 _ _ h2,p2,(e.trans e2).updNew hn _,j4,hn,?_⟩
  have:os.take (i+1)=os.take i++[o]:=by
   rw[aT,ho]
   rfl
  rw[this,aD,aD]
  rfl
 ·rintro D σ' H' zs hD ⟨_,e,h2,_,rfl⟩
  rw[hl,bF] at h2
  exact hd D H' e h2
section
variable {P:Program}{w:World}{K:W.Frag}{mg:Str->Option Value}{base:Heap}
noncomputable abbrev XOf (N:List Str)(q:Str)(st:Stmt)(P:Program)(w:World)(K:W.Frag)(mg:Str->Option Value)(base:Heap)(f:Addr)(cdv:Value)(A:Around)(outer:List Env)(s:Shared)(H:Hp)(E:XK):Cx:=(cxOf CX0 P w K mg base N q (j8 st) f cdv A outer s H E).nox
variable {f fW fR:Addr}{fdW fdR:FuncData}{cdv:Value}{A:Around}{outer:List Env}{s:Shared}{H0:Hp}{E:XK}
abbrev jJA:List Str:=["thing"]
theorem scWhole0:FnScope jJA ["thing"] (j8 jAI):=⟨rfl,rfl,rfl,by decide+kernel,rfl,by decide+kernel,by decide+kernel⟩
def spWh:Sp:=fun vs H Q _=>∃ v o,vs=[v]/\At H o v/\Q (.bl (isInt o)) H
def jN5 (T:Txt mg): { t:TS // JSs (XOf jJA "is_whole" jAI P w K mg base f cdv A outer s H0 E) (jB jAI) t} :=
 have nd:=scWhole0.nd
 ⟨_,(jD (jV ((jDD (jN jAA gD T.isinstance (by decide+kernel) (j0 (jv 0 rfl vL) (j0 (jCS (v:= .ty "int") gD T.int (by decide+kernel) rfl) j5 j3) j3) j3) (jDC (jQD (jN jAA gD T.isinstance (by decide+kernel) (j0 (jv 0 rfl vL) (j0 (jCS (v:= .ty "bool") gD T.bool (by decide+kernel) rfl) j5 j3) j3) j3)))))))⟩
theorem jJ4 {fd:FuncData}(F:Fun K "is_whole" "is_whole" jAI f fd)(T:Txt mg):FnOk P w K mg base CX0 1 f fd ["thing"] spWh:=by
 refine F.ok scWhole0 (fun vs H Q E h=>?_) (fun cdv A outer s H vs Q E hr h=>?_)
 ·obtain⟨_,_,rfl,_⟩:=h
  rfl
 ·obtain⟨v,o,rfl,hA,q⟩:=h
  obtain⟨t,ty,_,b1,b2,k1,k2,e⟩:=hA.ty K
  refine⟨_,(jN5 T).2.h,?_⟩
  refine⟨_,rfl,_,_,_,b1,rfl,ty,k1,b1,rfl,?_⟩
  rw[<- e] at q
  cases b1 with
  | true=>exact iteT ⟨_,rfl,_,_,_,b2,rfl,ty,k2,b2,rfl,q⟩
  | false=>exact iteF q
def spB (F:Ob->Bool):Sp:=fun vs H Q _=>∃ v o,vs=[v]/\At H o v/\∀ H',Ext H H'->Q (.bl (F o)) H'
end
end Eo
end
section
namespace L2
open PySem
theorem px_un {op:UnaryOp}{a:Expr}{pos:Pos} :jBB (.UnaryOp op a pos):=fun _ _=>rfl
theorem jKZ {α:Type}{xs:List α}{v:α}(h:xs[xs.length - 1]?=some v):atI xs (-1)=some v:=by
 have hj:xs.length - 1<xs.length:=(ay.mp h).1
 have e:ixN xs.length (-1)=some (xs.length - 1):=by
  unfold ixN
  rw[ai (by omega),ah (by omega)]
  congr 1
  omega
 unfold atI
 rw[e]
 exact h
theorem qb {Q:VK}{H:Hp}{a b:Bool}(q:Q (.bl a) H)(e:a=b):Q (.bl b) H:=e ▸ q
end L2
namespace Eo
open PySem L2
section
variable {P:Program}{w:World}{K:W.Frag}{mg:Str->Option Value}{base:Heap}
variable {f fW fR fL fG fI fPs:Addr}{fdW fdR fdL fdG fdI fdPs:FuncData}{cdv:Value}{A:Around}{outer:List Env}{s:Shared}{H0:Hp}{E:XK}
end
end Eo
end
section
namespace L2
open PySem
section
variable {P:Program}{w:World}{K:W.Frag}{mg:Str->Option Value}{base:Heap}{N:List Str}{qual:Str}{sc:Scope}{f:Addr}{cdv:Value}{A:Around}{outer:List Env}{s:Shared}{H:Hp}{E:XK}{x y z:Str}{p1 p2 p3 pos:Pos}{k i j l:Nat}
theorem jGR (hN:N.Nodup)(hi:N[i]?=some x)(hj:N[j]?=some y)(hx:sc.names.lookup x=some .local)(hy:sc.names.lookup y=some .local):
  JG (cxOf CX0 P w K mg base N qual sc f cdv A outer s H E).nox (.Tuple [.Name x p1, .Name y p2] k pos) (gTup K 2 (gCons (kS i) (gCons (kS j) gNil))):=
 jMV (X:=(cxOf CX0 P w K mg base N qual sc f cdv A outer s H E).nox) rfl (jC7 (jK hN hi (loc_l hx)) (jC7 (jK hN hj (loc_l hy)) jJU jE8) jE8)
end
end L2
namespace L2
open PySem
section
variable {K:W.Frag}{m:List (Option Nat)}{g:TG}{tt:TT}{te:TE}{σ:St}{H1:Hp}{Q:VK}
theorem jE3 {a:Addr}{xs:List V}(hn:xs.length<sizeLine)(Pv:Addr->Nat->St->Hp->List V->Prop)(h0:∀ D,H1 D=none->Pv D 0 (blkσ m σ) (upd H1 D (.lst [])) [])
  (hD:∀ D i σ' H' zs,H1 D=none->Pv D i σ' H' zs->H' a=some (.lst xs)/\H' D=some (.lst zs)/\zs.length<=i)
  (hs:∀ D i σ' H' zs x,H1 D=none->xs[i]?=some x->Pv D i σ' H' zs->g x σ' H' fun σ2 H2=>tt σ2 H2 fun b H3=>if b=true then te σ2 H3 fun v H4=>H4 D=some (.lst zs)/\Pv D (i+1) σ2 (upd H4 D (.lst (zs++[v]))) (zs++[v]) else Pv D (i+1) σ2 H3 zs)
  (hd:∀ D σ' H' zs,H1 D=none->Pv D xs.length σ' H' zs->Q (.ref D) H'):qN m g tt te σ Q (Itl K a) H1:=by
 intro D hDn
 refine⟨fun i k σ' H' zs=>k=xs.length - i/\i<=xs.length/\Pv D i σ' H' zs,⟨_,rfl,aW _,h0 D hDn⟩,?_⟩
 rintro i k σ' H' zs ⟨rfl,hi,p⟩
 obtain⟨s1,q1,q2⟩:=hD D i σ' H' zs hDn p
 refine⟨q1,by omega,?_⟩
 by_cases hlt:i<xs.length
 ·refine .inr ⟨⟨xs,xs[i],SqL.of s1,by simp [hlt]⟩,Pv D (i+1),fun σ2 H2 zs z=>⟨xs.length - (i+1),by omega,rfl,hlt,z⟩,fun v H'' y=>?_⟩
  obtain⟨e1,e2⟩:=y
  subst e1
  exact hs D i σ' _ zs v hDn (e2 xs (SqL.of s1)) p
 ·have e:i=xs.length:=by omega
  subst e
  exact .inl ⟨⟨xs,SqL.of s1,af _⟩,hd D σ' H' zs hDn p⟩
end
end L2
namespace Eo
open PySem L2
theorem y8 (l:List Int):(l.map V.int).all flatV=true:=by
 rw[aU]
 intro x hx
 obtain⟨i,_,rfl⟩:=aQ.mp hx
 rfl
theorem yH (i:Int)(l:List Int):inV (.int i) (l.map V.int)=decide (i∈l):=by
 unfold inV
 rw[cB,fq,gJ]
 constructor
 ·rintro ⟨x,hx,e⟩
  obtain⟨j,hj,rfl⟩:=aQ.mp hx
  have:j=i:=eq_of_beq e
  rw[<- this]
  exact hj
 ·intro h
  exact⟨.int i,aQ.mpr ⟨i,h,rfl⟩,by simp [eqV]⟩
theorem jIW:∀ (ts:List Int) (lo w:Int),ts.Pairwise (· < ·)->(∀ z∈ts,lo<=z/\z<w)->(ts.length:Int)<=max (w - lo) 0
 | [],lo,w,_,_=>by show (0:Int)<=_; omega
 | a::r,lo,w,hp,hb=>by
  have h1:=hb a aA
  have hp':=gE.mp hp
  have:=jIW r (a+1) w hp'.2 fun z hz=>⟨by have:=hp'.1 z hz; omega,(hb z (aB _ hz)).2⟩
  rw[bp]
  omega
theorem PcsAt.get {H:Hp} :∀ {vs:List V}{ps:List (List Int×Int)},PcsAt H vs ps->∀ {k:Nat},k<ps.length->∃ v,vs[k]?=some v/\PcAt H v (ps.getD k ([],0))
 | v::vs,p::ps,h,0,_=>⟨v,rfl,h.1⟩
 | v::vs,p::ps,h,k+1,hk=>PcsAt.get h.2 (k:=k) (by simpa using hk)
 | [],[],_,k,hk=>absurd hk (bm _)
 | [],_::_,h,_,_=>h.elim
 | _::_,[],h,_,_=>h.elim
theorem Good.at {mt mp w:Int}{ms:List Int}{pcs:List (List Int×Int)}(g:Good mt mp w ms pcs){k:Nat}(hk:k<pcs.length):GoodPc w (pcs.getD k ([],0)):=by
 have e:pcs.getD k ([],0)=pcs[k]:=by simp [List.getD,hk]
 rw[e]
 exact g.pg _ (cr hk)
theorem jI2 {n i:Nat}(h:i<n):(upto n).take (i+1)=(upto n).take i++[(i:Int)]:=by
 unfold upto
 rw[<- gB,<- gB,List.take_range,List.take_range,show min (i+1) n=i+1 by omega,show min i n=i by omega,cf,aD]
 rfl
theorem jL3 (n:Nat):(upto n).length=n:=by
 unfold upto
 rw[ac,ao]
theorem jGB {n i:Nat}(h:i<n):(upto n)[i]?=some (i:Int):=by
 unfold upto
 rw[az,aM h]
 rfl
theorem Ats.two {H:Hp}{os:List Ob}{vs:List V}(h:Ats H os vs)(n:vs.length=2):∃ x y a b,os=[x,y]/\vs=[a,b]/\At H x a/\At H y b:=by
 cases os with
 | nil=>cases (show vs=[] from h); cases n
 | cons x os=>
  obtain⟨a,r,rfl,h1,h⟩:=h
  cases os with
  | nil=>cases (show r=[] from h); cases n
  | cons y os=>
   obtain⟨b,r,rfl,h2,h⟩:=h
   cases os with
   | nil=>cases (show r=[] from h); exact⟨x,y,a,b,rfl,rfl,h1,h2⟩
   | cons z os=>obtain⟨c,r,rfl,_,_⟩:=h; simp at n
theorem jFG {H:Hp}{a:Addr}{vs:List V}{os:List Ob}(h:H a=some (.tup vs))(n:vs.length<=100)(r:Ats H os vs):At H (.tup os) (.ref a):=⟨a,vs,rfl,h,n,r⟩
theorem ats0 (H:Hp):Ats H [] []:=rfl
theorem ats1 {H:Hp}{o:Ob}{v:V}{os:List Ob}{vs:List V}(h:At H o v)(r:Ats H os vs):Ats H (o::os) (v::vs):=⟨v,vs,rfl,h,r⟩
theorem iteT' {A B:Prop}{c:Bool}(hc:c=true)(h:A):if c=true then A else B:=by
 rw[ah hc]
 exact h
theorem _root_.L2.Ext.tups {H H':Hp}(e:Ext H H'):Tups H H':=fun b xs h=>e b _ h
theorem PcsAt.at {H:Hp} :∀ {vs:List V}{ps:List (List Int×Int)},PcsAt H vs ps->∀ {i:Nat}{v:V},vs[i]?=some v->∃ pc,ps[i]?=some pc/\PcAt H v pc
 | [],[],_,i,v,e=>by cases e
 | x::vs,p::ps,h,0,v,e=>by cases e; exact⟨p,rfl,h.1⟩
 | x::vs,p::ps,h,i+1,v,e=>PcsAt.at h.2 (i:=i) e
 | [],_::_,h,_,_,_=>h.elim
 | _::_,[],h,_,_,_=>h.elim
theorem PcsAt.snoc {H:Hp}{v:V}{p:List Int×Int}(hv:PcAt H v p):∀ {vs:List V}{ps:List (List Int×Int)},PcsAt H vs ps->PcsAt H (vs++[v]) (ps++[p])
 | [],[],_=>⟨hv,trivial⟩
 | x::vs,q::ps,h=>⟨h.1,PcsAt.snoc hv h.2⟩
 | [],_::_,h=>h.elim
 | _::_,[],h=>h.elim
def fitS (ds:List Int)(pc:List Int×Int):Bool:=!pc.1.any fun t=>decide (t∈ds)
def mus (mays:List Int)(n:Nat):List Int:=((List.range n).filter fun (t:Nat)=>!decide ((t:Int)∈mays)).map fun (t:Nat)=>(t:Int)
theorem jDX (mays:List Int)(n:Nat):mus mays (n+1)=mus mays n++(if (!decide ((n:Int)∈mays))=true then [(n:Int)] else []):=by
 unfold mus
 rw[cf,bW,aD]
 congr 1
 rw[List.filter_cons]
 split <;> rfl
theorem jCN (mays:List Int)(n:Nat):(mus mays n).length<=n:=by
 unfold mus
 rw[ac]
 exact aH (bK _ _) (by rw[ao]; exact af _)
theorem Keep.ext {H H':Hp}{p:Addr}{o:HO}(k:Keep (L2.upd H p o) H' p)(hp:H p=none):Ext H H':=fun b u hb=>by
 have n:b≠p:=jA hb hp
 exact k b u (by rw[j9 n]; exact hb) n
theorem Good.wide {mt mp w mt' mp':Int}{ms:List Int}{pcs:List (List Int×Int)}(g:Good mt mp w ms pcs)(h1:mt<=mt')(h2:mp<=mp'):Good mt' mp' w ms pcs:=⟨g.w0,dY g.w1 h1,g.mr,dY g.pl h2,g.pg⟩
theorem jEP (n:Nat):∀ (ds:List Int),ds.Nodup->(∀ t∈ds,0<=t/\t<(n:Int))->ds.length<=n:=by
 intro ds h1 h2
 have h3:(ds.map Int.toNat).Nodup:=by
  rw[List.Nodup,eX]
  refine List.Pairwise.imp_of_mem (R:=(· ≠ ·)) (fun {a b} ha hb hne e=>hne ?_) h1
  have:=h2 a ha
  have:=h2 b hb
  omega
 have h4:(ds.map Int.toNat).length<=(List.range n).length:=h3.length_le_of_subset fun x hx=>by
  obtain⟨t,ht,rfl⟩:=aQ.mp hx
  have:=h2 t ht
  exact aY.mpr (by omega)
 rw[ac,ao] at h4
 exact h4
section
variable {P:Program}{w:World}{K:W.Frag}{mg:Str->Option Value}{base:Heap}
variable {f fC fP fT fB fW:Addr}{fdC fdP fdT fdB fdW:FuncData}{cdv:Value}{A:Around}{outer:List Env}{s:Shared}{H0:Hp}{E:XK}
def jFM (K:W.Frag):Sp:=fun vs H Q _=>∃ (sc:Addr) (ns:List Int) (k mt mp:Int),vs=[.ref sc, .int k, .int mt, .int mp]/\SqL K H sc (ns.map V.int)/\0<=k/\0<=mt/\mt<=16/\0<=mp/\mp<=16/\
 ∀ b w ms pcs H',BoxAt H' b w ms pcs->Good 16 16 w ms pcs->Ext H H'->Q (.ref b) H'
abbrev jJE:List Str:=["script","k","things","pieces","pot"]
theorem scDrawn:FnScope jJE ["script","k","things","pieces"] (j8 jB2):=⟨rfl,rfl,rfl,by decide+kernel,rfl,by decide+kernel,by decide+kernel⟩
def jQJ (T:Txt mg)(CC:Can P w K mg base "_law_cell_at" 1 fC fdC ["script","k"] (jEJ K))(CP:Can P w K mg base "_law_pot" 1 fP fdP ["cell"] spPot)(CT:Can P w K mg base "_law_take" 1 fT fdT ["pot","wide"] y9)(CB:Can P w K mg base "_law_box" 3 fB fdB ["pot","most_things","most_pieces"] spBox)(hr:Room 3 (XOf jJE "_law_drawn" jB2 P w K mg base f cdv A outer s H0 E).A): { t:TS // JSs (XOf jJE "_law_drawn" jB2 P w K mg base f cdv A outer s H0 E) (jB jB2) t} :=
 have nd:=scDrawn.nd
 ⟨_,(j7 (jF (i:=4) nd rfl lL (CP.je (hr.mono (by decide)) gD (j0 (CC.je (hr.mono (by decide)) gD (j0 (jv 0 rfl vL) (j0 (jv 1 rfl vL) j5 j3) j3) j3) j5 jT) jT) jO)
   (j7 (yE (jJ qD (CT.je (hr.mono (by decide)) gD (j0 (jv 4 rfl vL) (j0 (j6) j5 jM) j3) j3) (j6) (jP _)) (jD (jV (CB.je hr gD (j0 (jv 4 rfl vL) (j0 (j6) (j0 (j6) j5 jM) jM) j3) j3))) kG)
   (jD (jV (CB.je hr gD (j0 (jv 4 rfl vL) (j0 (jv 2 rfl vL) (j0 (jv 3 rfl vL) j5 j3) j3) j3) j3)))))⟩
theorem jLN {fd:FuncData}(F:Fun K "_law_drawn" "_law_drawn" jB2 f fd)(T:Txt mg)(CC:Can P w K mg base "_law_cell_at" 1 fC fdC ["script","k"] (jEJ K))(CP:Can P w K mg base "_law_pot" 1 fP fdP ["cell"] spPot)(CT:Can P w K mg base "_law_take" 1 fT fdT ["pot","wide"] y9)(CB:Can P w K mg base "_law_box" 3 fB fdB ["pot","most_things","most_pieces"] spBox):FnOk P w K mg base CX0 4 f fd ["script","k","things","pieces"] (jFM K):=by
 refine F.ok scDrawn (fun vs H Q E h=>?_) (fun cdv A outer s H vs Q E hr h=>?_)
 ·obtain⟨_,_,_,_,_,rfl,_⟩:=h
  rfl
 ·obtain⟨a,ns,k,mt,mp,rfl,hS,k0,m0,m1,p0,p1,q⟩:=h
  refine⟨_,(jQJ T CC CP CT CB hr).2.h,?_⟩
  refine⟨_,rfl,_,rfl,a,ns,k,rfl,hS,k0,fun c=>?_⟩
  refine⟨c,rfl,fun p N hp hN=>?_⟩
  refine⟨_,rfl,p,N,8,rfl,j4,hN,by decide,by decide,fun N1 r a1 a2 a3=>?_⟩
  rw[jAG]
  refine⟨rfl,_,rfl,ite2 (fun _=>?_) (fun _=>?_)⟩
  ·refine⟨_,rfl,p,N1,16,7,rfl,j4,a1,by decide,by decide,by decide,by decide,fun b N' w ms pcs H1 c1 c2 c3 c4 c5=>?_⟩
   exact q b w ms pcs H1 c3 (c4.wide (by decide) (by decide)) (c5.ext hp)
  ·refine⟨_,rfl,_,rfl,_,rfl,p,N1,mt,mp,rfl,j4,a1,m0,m1,p0,by omega,fun b N' w ms pcs H1 c1 c2 c3 c4 c5=>?_⟩
   exact q b w ms pcs H1 c3 (c4.wide m1 p1) (c5.ext hp)
end
section
variable {P:Program}{w:World}{K:W.Frag}{mg:Str->Option Value}{base:Heap}
variable {f fM:Addr}{fdM:FuncData}{cdv:Value}{A:Around}{outer:List Env}{s:Shared}{H0:Hp}{E:XK}
def jDM:Sp:=fun vs H Q _=>∃ (b qm:Addr) (x3:V) (w:Int) (mays:List Int),vs=[.ref b]/\H b=some (.tup [.int w, .ref qm,x3])/\H qm=some (.tup (mays.map V.int))/\0<=w/\w<=1000/\∀ l,H l=none->Q (.ref l) (upd H l (.lst ((mus mays w.toNat).map V.int)))
abbrev jJD:List Str:=["box","mays"]
theorem scMusts:FnScope jJD ["box"] (j8 jB1):=⟨rfl,rfl,rfl,by decide+kernel,rfl,by decide+kernel,by decide+kernel⟩
def jQ6 (T:Txt mg): { t:TS // JSs (XOf jJD "musts_of" jB1 P w K mg base f cdv A outer s H0 E) (jB jB1) t} :=
 have nd:=scMusts.nd
 ⟨_,(j7 (jF (i:=1) nd rfl (yS (by decide+kernel)) (jE jG (jv 0 rfl vL) (j6) jC) jCB)
   (jD (jV (kQ (m:=[none,some 1]) (Nc:=["thing","mays"]) rfl (kT gD T.range (j0 (jE jG (jv 0 rfl vL) (j6) jC) j5 jL) jL) rfl (by decide+kernel) (by decide+kernel) (jW (psc:=j8 jB1) (by decide+kernel)) (jI (N:=jJD) rfl rfl (by decide+kernel)) (fun cl C fp s H=>jK (i:=0) (show (["thing","mays"]:List Str).Nodup by decide+kernel) rfl (yD (by decide+kernel))) (fun cl C fp s H=>jB9 (jJ jHO (jv 0 rfl (kB (by decide+kernel))) (jv 1 rfl (kJ (by decide+kernel))) jBT)) (fun cl C fp s H=>(jv 0 rfl (kB (by decide+kernel)))) kR))))⟩
theorem jLL {fd:FuncData}(F:Fun K "musts_of" "musts_of" jB1 f fd)(T:Txt mg):FnOk P w K mg base CX0 1 f fd ["box"] jDM:=by
 refine F.ok scMusts (fun vs H Q E h=>?_) (fun cdv A outer s H vs Q E hr h=>?_)
 ·obtain⟨_,_,_,_,_,rfl,_⟩:=h
  rfl
 ·obtain⟨b,qm,x3,w,mays,rfl,hb,hm,w0,w1,q⟩:=h
  refine⟨_,(jQ6 T).2.h,?_⟩
  refine⟨_,rfl,b,_,1,_,rfl,rfl,SqT.of hb,rfl,?_⟩
  refine⟨_,rfl,b,_,0,_,rfl,rfl,SqT.of hb,rfl,w,rfl,by omega,by omega,jAX (n:=w.toNat) (by rw[aj]; omega) (fun D i σ' H' ys=>(∃ v,σ'=[v,some (.ref qm)])/\ys=(mus mays i).map V.int/\H'=upd H D (.lst ys)) ?_ ?_ ?_ ?_⟩
  ·intro D hD
   exact⟨⟨_,rfl⟩,rfl,rfl⟩
  ·rintro D i σ' H' ys hD hi ⟨_,rfl,rfl⟩
   exact⟨j4,by rw[ac]; exact jCN _ _⟩
  ·rintro D i σ' H' ys hD hi ⟨⟨v,rfl⟩,rfl,rfl⟩
   have e0:(0+(i:Int))=(i:Int):=by omega
   refine⟨_,rfl,_,rfl,qm,_,rfl, .inr (SqT.of (by rw[j9 (jA hm hD)]; exact hm)),rfl,y8 mays,_,rfl,?_⟩
   rw[e0,yH]
   refine ite2 (fun hz=>?_) (fun hz=>?_)
   ·rw[ah rfl] at hz
    refine⟨_,rfl,j4,⟨_,rfl⟩,?_,jAG⟩
    rw[jDX,ah hz,aD]
    rfl
   ·rw[ah rfl] at hz
    refine⟨⟨_,rfl⟩,?_,rfl⟩
    rw[jDX,ai hz,cC]
  ·rintro D σ' H' ys hD ⟨_,rfl,rfl⟩
   exact q D hD
end
end Eo
end
section
namespace L2
open PySem
section
variable {P:Program}{w:World}{K:W.Frag}{mg:Str->Option Value}{base:Heap}{N:List Str}{qual:Str}{sc:Scope}{f:Addr}{cdv:Value}{A:Around}{outer:List Env}{s:Shared}{H:Hp}{E:XK}
theorem jLW {i j:Nat}{x y:Str}{a b:Expr}{ta:TA}{pos px py pt:Pos}{kt k2 pt2}(hN:N.Nodup)(hi:N[i]?=some x)(hj:N[j]?=some y)(hij:i≠j)
  (hx:sc.names.lookup x=some .local) (hy:sc.names.lookup y=some .local) (ha:JA (cxOf CX0 P w K mg base N qual sc f cdv A outer s H E).nox [a,b] ta)
  (hw:swappedStores [.Tuple [.Name x px, .Name y py] kt pt] (.Tuple [a,b] k2 pt2) (cxOf CX0 P w K mg base N qual sc f cdv A outer s H E).nox.env=pure (some [x,y]))
  (hs:swapsWithSole [.Tuple [.Name x px, .Name y py] kt pt] (.Tuple [a,b] k2 pt2) pos.line (cxOf CX0 P w K mg base N qual sc f cdv A outer s H E).nox.env=pure false:=by rfl):
  JS (cxOf CX0 P w K mg base N qual sc f cdv A outer s H E).nox (.Assign [.Tuple [.Name x px, .Name y py] kt pt] (.Tuple [a,b] k2 pt2) pos) (tPar i j ta):=jQB rfl hN hi hj hij hx hy ha hw hs
end
theorem jQC {X:Cx}{e:Expr}{te:TE}{pos:Pos}{i:Nat}{x:Str}{op:Operator}{ti:TIp}{pos':Pos}(hN:X.N.Nodup)(hi:X.N[i]?=some x)(hx:Loc1 X x)(he:JE X e te)(ho:PIp X op ti):JS X (.AugAssign (.Name x pos') op e pos) (tAug i te ti):=⟨jPD hN hi hx.a he.h ho hx.b⟩
theorem jDJ {x:Str}{pos:Pos}{o:Option Expr} :SwOk (.Name x pos) o:=⟨fun _ _=>rfl⟩
end L2
namespace Eo
open PySem L2
def BIG:Nat:=2 ^ 6000
theorem jOF {n:Nat}(h0:0<n)(h:n<BIG):n.log2<9000:=by
 have:n.log2<6000:=(gQ (by omega)).mpr h
 omega
def yU:Ob->Bool
 | .tup [.int a, .int b]=>decide (1<=b)&&decide (Int.gcd a b=1)
 | _=>false
theorem jM1 {o:Ob}(h:isTup o=false):yU o=false:=by cases o <;> first | rfl | cases h
theorem jM2 {os:List Ob}(h:¬ os.length=2):yU (.tup os)=false:=by
 match os,h with
 | [],_=>rfl
 | [a],_=>cases a <;> rfl
 | [_,_],h=>exact absurd rfl h
 | a::b::_::_,_=>cases a <;> cases b <;> rfl
theorem jQG {x y:Ob}(h:isInt x=false):yU (.tup [x,y])=false:=by cases x <;> first | rfl | cases h
theorem jQF {x y:Ob}(h:isInt y=false):yU (.tup [x,y])=false:=by cases x <;> cases y <;> first | rfl | cases h
theorem jGX {o:Ob}(h:isInt o=true):∃ i,o= .int i:=by
 cases o with
 | int i=>exact⟨i,rfl⟩
 | oth=>cases h
 | tup _=>cases h
theorem jEA (i:Int):(if i<0 then -i else i)=((i.natAbs:Nat):Int):=by split <;> omega
section
variable {P:Program}{w:World}{K:W.Frag}{mg:Str->Option Value}{base:Heap}
variable {f fW fG fF:Addr}{fdW fdG fdF:FuncData}{cdv:Value}{A:Around}{outer:List Env}{s:Shared}{H0:Hp}{E:XK}
noncomputable abbrev nGcd:List Str:=["one","other","rest"]
theorem scGcd:FnScope nGcd ["one","other"] (j8 sGcd):=⟨rfl,rfl,rfl,by decide+kernel,rfl,by decide+kernel,by decide+kernel⟩
def spGcd:Sp:=fun vs H Q _=>∃ a b:Nat,vs=[.int (a:Int), .int (b:Int)]/\Q (.int ((Nat.gcd a b:Nat):Int)) H
def gcdA: { t:TS // JSs (XOf nGcd "common_divisor" sGcd P w K mg base f cdv A outer s H0 E) (jB sGcd) t} :=
 have nd:=scGcd.nd
 ⟨_,(j7 (jDY bb (jJ op_ne (jv 1 rfl vL) (j6) (jP _)) (j7 (jF (i:=2) nd rfl lL (jX jCI (jv 0 rfl vL) (jv 1 rfl vL)) jBY)
   (j7 (jF (i:=0) nd rfl lL (jv 1 rfl vL) jDJ)
   (jD (jF (i:=1) nd rfl lL (jv 2 rfl vL) jDJ)))))
   (jD (jV (jv 0 rfl vL))))⟩
theorem jQ0 {fd:FuncData}(F:Fun K "common_divisor" "common_divisor" sGcd f fd):FnOk P w K mg base CX0 1 f fd ["one","other"] spGcd:=by
 refine F.ok scGcd (fun vs H Q E h=>?_) (fun cdv A outer s H vs Q E hr h=>?_)
 ·obtain⟨_,_,rfl,_⟩:=h
  rfl
 ·obtain⟨a,b,rfl,q⟩:=h
  refine⟨_,gcdA.2.h,?_⟩
  refine⟨fun m σ H'=>∃ (a' b':Nat) (v2:Option V),σ=[some (.int (a':Int)),some (.int (b':Int)),v2]/\H'=H/\Nat.gcd a' b'=Nat.gcd a b/\m=b',⟨b,a,b,none,rfl,rfl,rfl,rfl⟩,?_⟩
  rintro m σ H' ⟨a',b',v2,rfl,rfl,hg,rfl⟩
  refine⟨_,rfl,rfl,_,rfl,?_⟩
  by_cases hb:m=0
  ·subst hb
   refine iteNS rfl ⟨_,rfl,?_⟩
   rw[gK] at hg
   rw[hg]
   exact q
  ·have hne:¬ V.int (m:Int)=V.int 0:=fun e=>hb (by have:=V.int.inj e; omega)
   refine iteT' (by rw[aI hne]; rfl) ⟨fun σ' H'=>∃ (a' b':Nat) (v2:Option V),σ'=[some (.int (a':Int)),some (.int (b':Int)),v2]/\H'=_/\Nat.gcd a' b'=Nat.gcd a b/\b'<m,fun σ' H' ⟨a',b',v2,e1,e2,e3,e4⟩=>⟨b',e4,a',b',v2,e1,e2,e3,rfl⟩,?_⟩
   refine⟨_,rfl,_,rfl,_,_,rfl,rfl,(by show (0:Int)<(m:Int); omega),_,rfl,_,rfl,?_⟩
   refine⟨m,a' % m,some (.int ((a' % m:Nat):Int)),?_,rfl,?_,gF _ (by omega)⟩
   ·show [some (V.int (m:Int)),some (V.int ((a':Int) % (m:Int))),some (V.int ((a':Int) % (m:Int)))]=_
    rw[Int.natCast_emod]
   ·rw[fK m,<- Nat.gcd_rec,fK,hg]
noncomputable abbrev nDiv:List Str:=["one","other"]
theorem scDiv:FnScope nDiv ["one","other"] (j8 sDiv):=⟨rfl,rfl,rfl,by decide+kernel,rfl,by decide+kernel,by decide+kernel⟩
def spDiv:Sp:=fun vs H Q _=>∃ a b:Int,vs=[.int a, .int b]/\Q (.int ((Int.gcd a b:Nat):Int)) H
def divA (T:Txt mg): { t:TS // JSs (XOf nDiv "_law_divisor" sDiv P w K mg base f cdv A outer s H0 E) (jB sDiv) t} :=
 have nd:=scDiv.nd
 ⟨_,(j7 (jF (i:=0) nd rfl lL (jN jBO gD T.abs (by decide+kernel) (j0 (jv 0 rfl vL) j5 j3) j3) jO)
   (j7 (jF (i:=1) nd rfl lL (jN jBO gD T.abs (by decide+kernel) (j0 (jv 1 rfl vL) j5 j3) j3) jO)
   (j7 (jDY bb (jJ qJ (jv 1 rfl vL) (j6) (jP _)) (jD (jLW (i:=0) (j:=1) nd rfl rfl (by decide) (by decide+kernel) (by decide+kernel) (j0 (jv 1 rfl vL) (j0 (jX jCI (jv 0 rfl vL) (jv 1 rfl vL)) j5 kZ) j3) (by rfl))))
   (jD (jV (jv 0 rfl vL))))))⟩
theorem jQ1 {fd:FuncData}(F:Fun K "_law_divisor" "_law_divisor" sDiv f fd)(T:Txt mg):FnOk P w K mg base CX0 1 f fd ["one","other"] spDiv:=by
 refine F.ok scDiv (fun vs H Q E h=>?_) (fun cdv A outer s H vs Q E hr h=>?_)
 ·obtain⟨_,_,rfl,_⟩:=h
  rfl
 ·obtain⟨a,b,rfl,q⟩:=h
  refine⟨_,(divA T).2.h,?_⟩
  refine⟨_,rfl,a,rfl,_,rfl,b,rfl,?_⟩
  rw[jEA,jEA]
  refine⟨fun m σ H'=>∃ (a' b':Nat),σ=[some (.int (a':Int)),some (.int (b':Int))]/\H'=H/\Nat.gcd a' b'=Nat.gcd a.natAbs b.natAbs/\m=b',⟨_,a.natAbs,b.natAbs,rfl,rfl,rfl,rfl⟩,?_⟩
  rintro m σ H' ⟨a',b',rfl,rfl,hg,rfl⟩
  refine⟨_,rfl,_,_,rfl,rfl,_,rfl,ite2 (fun hb=>?_) (fun hb=>?_)⟩
  ·have hb:(0:Int)<(m:Int):=au hb
   refine⟨fun σ' H'=>∃ (a' b':Nat),σ'=[some (.int (a':Int)),some (.int (b':Int))]/\H'=_/\Nat.gcd a' b'=Nat.gcd a.natAbs b.natAbs/\b'<m,fun σ' H' ⟨a',b',e1,e2,e3,e4⟩=>⟨b',e4,a',b',e1,e2,e3,rfl⟩,?_⟩
   refine⟨_,rfl,_,rfl,_,rfl,_,_,rfl,rfl,hb,_,_,rfl,?_⟩
   refine⟨m,a' % m,?_,rfl,?_,gF _ (by omega)⟩
   ·show [some (V.int (m:Int)),some (V.int ((a':Int) % (m:Int)))]=_
    rw[Int.natCast_emod]
   ·rw[fK m,<- Nat.gcd_rec,fK,hg]
  ·have hb:¬ (0:Int)<(m:Int):=fun h=>hb (ar h)
   have hm:m=0:=by omega
   subst hm
   rw[gK] at hg
   refine⟨_,rfl,?_⟩
   rw[hg]
   exact q
def spFr:Sp:=fun vs H Q _=>∃ t b:Int,vs=[.int t, .int b]/\0<b/\b.natAbs<BIG/\∀ r H',H' r=some (.tup [.int (t / (Int.gcd t b:Nat)), .int (b / (Int.gcd t b:Nat))])->Ext H H'->Q (.ref r) H'
theorem jMW {t b:Int}(h:0<b)(hb:b.natAbs<BIG):(0:Int)<((Int.gcd t b:Nat):Int)/\((Int.gcd t b:Nat):Int).natAbs.log2<9000:=by
 have h1:0<Int.gcd t b:=dq fun e=>by
  have:=bS e
  omega
 have h2:Int.gcd t b<=b.natAbs:=Nat.le_of_dvd (by omega) (Nat.gcd_dvd_right _ _)
 refine⟨by omega,?_⟩
 rw[eh]
 exact jOF h1 (bw h2 hb)
noncomputable abbrev nFrOf:List Str:=["top","bottom","divisor"]
theorem scFrOf:FnScope nFrOf ["top","bottom"] (j8 sFrOf):=⟨rfl,rfl,rfl,by decide+kernel,rfl,by decide+kernel,by decide+kernel⟩
def frOfA (T:Txt mg)(CG:Can P w K mg base "common_divisor" 1 fG fdG ["one","other"] spGcd)(hr:Room 1 (XOf nFrOf "fraction_of" sFrOf P w K mg base f cdv A outer s H0 E).A): { t:TS // JSs (XOf nFrOf "fraction_of" sFrOf P w K mg base f cdv A outer s H0 E) (jB sFrOf) t} :=
 have nd:=scFrOf.nd
 ⟨_,(j7 (jF (i:=2) nd rfl lL (CG.je hr gD (j0 (jN jBO gD T.abs (by decide+kernel) (j0 (jv 0 rfl vL) j5 j3) j3) (j0 (jv 1 rfl vL) j5 j3) jT) jT) jO)
   (jD (jV (jAF (j0 (jX jBH (jv 0 rfl vL) (jv 2 rfl vL)) (j0 (jX jBH (jv 1 rfl vL) (jv 2 rfl vL)) j5 kZ) kZ)))))⟩
theorem jO7 {fd:FuncData}(F:Fun K "fraction_of" "fraction_of" sFrOf f fd)(T:Txt mg)(CG:Can P w K mg base "common_divisor" 1 fG fdG ["one","other"] spGcd):FnOk P w K mg base CX0 2 f fd ["top","bottom"] spFr:=by
 refine F.ok scFrOf (fun vs H Q E h=>?_) (fun cdv A outer s H vs Q E hr h=>?_)
 ·obtain⟨_,_,rfl,_⟩:=h
  rfl
 ·obtain⟨t,b,rfl,hb,hB,q⟩:=h
  obtain⟨g1,g2⟩:=jMW (t:=t) hb hB
  refine⟨_,(frOfA T CG hr).2.h,?_⟩
  refine⟨_,rfl,t,rfl,_,rfl,t.natAbs,b.natAbs,?_,?_⟩
  ·rw[jEA]
   show [V.int _,V.int b]=[V.int _,V.int ((b.natAbs:Nat):Int)]
   rw[show ((b.natAbs:Nat):Int)=b by omega]
  ·refine⟨_,rfl,_,rfl,_,_,rfl,rfl,⟨g1,g2⟩,_,rfl,_,rfl,_,_,rfl,rfl,⟨g1,g2⟩,(by show 2<=sizeLine; decide),fun r H' hr' e=>q r H' hr' e⟩
abbrev jJC:List Str:=["top","bottom","by"]
theorem scRatio:FnScope jJC ["top","bottom"] (j8 jB0):=⟨rfl,rfl,rfl,by decide+kernel,rfl,by decide+kernel,by decide+kernel⟩
def jP6 (T:Txt mg)(CG:Can P w K mg base "_law_divisor" 1 fG fdG ["one","other"] spDiv)(hr:Room 1 (XOf jJC "_law_ratio" jB0 P w K mg base f cdv A outer s H0 E).A): { t:TS // JSs (XOf jJC "_law_ratio" jB0 P w K mg base f cdv A outer s H0 E) (jB jB0) t} :=
 have nd:=scRatio.nd
 ⟨_,(j7 (jF (i:=2) nd rfl lL (CG.je hr gD (j0 (jv 0 rfl vL) (j0 (jv 1 rfl vL) j5 j3) j3) j3) jO)
   (jD (jV (jAF (j0 (jX jBH (jv 0 rfl vL) (jv 2 rfl vL)) (j0 (jX jBH (jv 1 rfl vL) (jv 2 rfl vL)) j5 kZ) kZ)))))⟩
theorem jLK {fd:FuncData}(F:Fun K "_law_ratio" "_law_ratio" jB0 f fd)(T:Txt mg)(CG:Can P w K mg base "_law_divisor" 1 fG fdG ["one","other"] spDiv):FnOk P w K mg base CX0 2 f fd ["top","bottom"] spFr:=by
 refine F.ok scRatio (fun vs H Q E h=>?_) (fun cdv A outer s H vs Q E hr h=>?_)
 ·obtain⟨_,_,rfl,_⟩:=h
  rfl
 ·obtain⟨t,b,rfl,hb,hB,q⟩:=h
  obtain⟨g1,g2⟩:=jMW (t:=t) hb hB
  refine⟨_,(jP6 T CG hr).2.h,?_⟩
  refine⟨_,rfl,_,rfl,t,b,rfl,?_⟩
  refine⟨_,rfl,_,rfl,_,_,rfl,rfl,⟨g1,g2⟩,_,rfl,_,rfl,_,_,rfl,rfl,⟨g1,g2⟩,(by show 2<=sizeLine; decide),fun r H' hr' e=>q r H' hr' e⟩
noncomputable abbrev nIsFr:List Str:=["thing"]
theorem scIsFr:FnScope nIsFr ["thing"] (j8 sIsFr):=⟨rfl,rfl,rfl,by decide+kernel,rfl,by decide+kernel,by decide+kernel⟩
def isFrA (T:Txt mg)(CW:Can P w K mg base "is_whole" 1 fW fdW ["thing"] spWh)(CG:Can P w K mg base "common_divisor" 1 fG fdG ["one","other"] spGcd)(hr:Room 1 (XOf nIsFr "is_fraction" sIsFr P w K mg base f cdv A outer s H0 E).A): { t:TS // JSs (XOf nIsFr "is_fraction" sIsFr P w K mg base f cdv A outer s H0 E) (jB sIsFr) t} :=
 have nd:=scIsFr.nd
 ⟨_,(j7 (yE (jt_w (jw_or (jBJ (q0 (jN jAA gD T.isinstance (by decide+kernel) (j0 (jv 0 rfl vL) (j0 (jCS (v:= .ty "tuple") gD T.tuple (by decide+kernel) rfl) j5 j3) j3) j3) yN)) (jDB (jJ op_ne (jN jZ gD T.len (by decide+kernel) (j0 (jv 0 rfl vL) j5 j3) j3) (j6) (jP _))))) (jD (jV (je_bl))) kG)
   (j7 (yE (jt_w (jw_or (jBJ (q0 (CW.je (hr.mono (by decide)) gD (j0 (jE jG (jv 0 rfl vL) (j6) jC) j5 jL) jL) yN)) (jw_or (jBJ (q0 (CW.je (hr.mono (by decide)) gD (j0 (jE jG (jv 0 rfl vL) (j6) jC) j5 jL) jL) yN)) (jDB (jJ op_lt (jE jG (jv 0 rfl vL) (j6) jC) (j6) (jP _)))))) (jD (jV (je_bl))) kG)
   (jD (jV (yI qD (CG.je (hr.mono (by decide)) gD (j0 (jN jBO gD T.abs (by decide+kernel) (j0 (jE jG (jv 0 rfl vL) (j6) jC) j5 jL) jL) (j0 (jE jG (jv 0 rfl vL) (j6) jC) j5 jL) jT) jT) (j6) (jP _))))))⟩
theorem jBV (a b:Int):decide (V.int a=V.int b)=decide (a=b):=by
 by_cases h:a=b
 ·subst h; simp
 ·simp [h]
theorem jO6 {fd:FuncData}(F:Fun K "is_fraction" "is_fraction" sIsFr f fd)(T:Txt mg)(CW:Can P w K mg base "is_whole" 1 fW fdW ["thing"] spWh)(CG:Can P w K mg base "common_divisor" 1 fG fdG ["one","other"] spGcd):FnOk P w K mg base CX0 2 f fd ["thing"] (spB yU):=by
 refine F.ok scIsFr (fun vs H Q E h=>?_) (fun cdv A outer s H vs Q E hr h=>?_)
 ·obtain⟨_,_,rfl,_⟩:=h
  rfl
 ·obtain⟨v,o,rfl,hA,q⟩:=h
  have q:=q H (Ext.refl H)
  obtain⟨t,ty,kt,_⟩:=hA.ty K
  refine⟨_,(isFrA T CW CG hr).2.h,?_⟩
  refine⟨_,rfl,_,_,_,_,rfl,ty,kt,_,rfl,?_⟩
  cases ht:isTup o with
  | false=>exact iteT (iteT (qb q (jM1 ht)))
  | true=>
   refine iteF ?_
   obtain⟨os,a,vs,rfl,rfl,ha,h100,hx⟩:=hA.tupOf ht
   have hl:=hx.len
   refine⟨_,rfl,a,_,rfl, .inr (SqT.of ha),rfl,_,rfl,?_⟩
   by_cases h2:vs.length=2
   ·refine iteNS (by rw[h2]; rfl) ?_
    obtain⟨x,y,a1,a2,rfl,rfl,hx1,hx2⟩:=hx.two h2
    refine⟨_,rfl,a,_,0,_,rfl,rfl,SqT.of ha,rfl,a1,x,rfl,hx1,_,rfl,?_⟩
    cases hi1:isInt x with
    | false=>exact iteT (iteT (qb q (jQG hi1)))
    | true=>
     refine iteF ⟨_,rfl,a,_,1,_,rfl,rfl,SqT.of ha,rfl,a2,y,rfl,hx2,_,rfl,?_⟩
     cases hi2:isInt y with
     | false=>exact iteT (iteT (qb q (jQF hi2)))
     | true=>
      obtain⟨i,rfl⟩:=jGX hi1
      obtain⟨j,rfl⟩:=jGX hi2
      cases (show a1= .int i from hx1)
      cases (show a2= .int j from hx2)
      refine iteF ⟨_,rfl,a,_,1,_,rfl,rfl,SqT.of ha,rfl,_,_,rfl,rfl,_,rfl,ite2 (fun hj=>?_) (fun hj=>?_)⟩
      ·have hj:j<1:=au hj
       refine qb q ?_
       show (decide (1<=j)&&_)=false
       rw[aI (by omega),bX]
      ·have hj:¬ j<1:=fun h=>hj (ar h)
       refine⟨_,rfl,a,_,0,_,rfl,rfl,SqT.of ha,rfl,i,rfl,_,rfl,a,_,1,_,rfl,rfl,SqT.of ha,rfl,i.natAbs,j.natAbs,?_,rfl,?_⟩
       ·rw[jEA]
        show [V.int _,V.int j]=[V.int _,V.int ((j.natAbs:Nat):Int)]
        rw[show ((j.natAbs:Nat):Int)=j by omega]
       ·rw[jBV]
        refine qb q ?_
        show (decide (1<=j)&&decide (Int.gcd i j=1))=_
        rw[ar (show 1<=j by omega),bR]
        show decide (Nat.gcd i.natAbs j.natAbs=1)=_
        by_cases hg:Nat.gcd i.natAbs j.natAbs=1
        ·rw[ar hg,ar (by omega)]
        ·rw[aI hg,aI (by omega)]
   ·have hb:(!decide (V.int (vs.length:Int)=V.int 2))=true:=by
     have:¬ V.int (vs.length:Int)=V.int 2:=fun e=>h2 (by have:=V.int.inj e; omega)
     simp [this]
    exact ite2 (fun _=>qb q (jM2 (by omega))) (fun hn=>absurd hb hn)
end
end Eo
end
section
namespace L2
open PySem PySem.Spec PyProof.Rows
def CMulB (i j:Int):Prop:=i.natAbs<2 ^ 6000/\j.natAbs<2 ^ 6000
theorem jAO {X:Cx} :OpR X (binaryOp .Mult) (rI CMulB fun i j=> .int (i*j)):=opI fun _ _ _ _ _ _ _ hc q=>mul_int q (.of_bits (aH (intBits_le hc.1) (by decide)) (aH (intBits_le hc.2) (by decide)))
theorem jON {X:Cx} :PIp X .Mult (fun x y H Q=>∃ i j,x= .int i/\y= .int j/\CMulB i j/\Q (.int (i*j)) H):=by
 intro pins s σ H x y v u Q I r1 r2 h
 obtain⟨i,j,e1,e2,hc,q⟩:=h
 subst e1; subst e2
 obtain⟨t,rfl⟩:=r1
 obtain⟨t',rfl⟩:=r2
 exact imul_int ⟨.int _,H,I.tok _,⟨_,rfl⟩,q⟩ (.of_bits (aH (intBits_le hc.1) (by decide)) (aH (intBits_le hc.2) (by decide)))
end L2
namespace Eo
open PySem L2
def FrAt (H:Hp)(v:V)(p:Int×Int):Prop:=∃ a,v= .ref a/\H a=some (.tup [.int p.1, .int p.2])
def FrsAt (H:Hp):List V->List (Int×Int)->Prop
 | [],[]=>True
 | v::vs,p::ps=>FrAt H v p/\FrsAt H vs ps
 | _,_=>False
theorem FrAt.mono {H H':Hp}{v:V}{p:Int×Int}(h:FrAt H v p)(t:Tups H H'):FrAt H' v p:=let ⟨a,e,q⟩:=h; ⟨a,e,t _ _ q⟩
theorem FrsAt.mono {H H':Hp}(t:Tups H H'):∀ {vs:List V}{ps:List (Int×Int)},FrsAt H vs ps->FrsAt H' vs ps
 | [],[],_=>trivial
 | _::_,_::_,h=>⟨h.1.mono t,FrsAt.mono t h.2⟩
 | [],_::_,h=>h.elim
 | _::_,[],h=>h.elim
theorem FrsAt.len {H:Hp} :∀ {vs:List V}{ps:List (Int×Int)},FrsAt H vs ps->vs.length=ps.length
 | [],[],_=>rfl
 | _::_,_::_,h=>bP (· +1) (FrsAt.len h.2)
 | [],_::_,h=>h.elim
 | _::_,[],h=>h.elim
theorem FrsAt.at {H:Hp} :∀ {vs:List V}{ps:List (Int×Int)},FrsAt H vs ps->∀ {i:Nat}{v:V},vs[i]?=some v->∃ p,ps[i]?=some p/\FrAt H v p
 | v::vs,p::ps,h,0,_,e=>by cases e; exact⟨p,rfl,h.1⟩
 | v::vs,p::ps,h,i+1,_,e=>FrsAt.at h.2 (i:=i) e
 | [],[],_,_,_,e=>by cases e
 | [],_::_,h,_,_,_=>h.elim
 | _::_,[],h,_,_,_=>h.elim
theorem FrsAt.snoc {H:Hp}{v:V}{p:Int×Int}(hv:FrAt H v p):∀ {vs:List V}{ps:List (Int×Int)},FrsAt H vs ps->FrsAt H (vs++[v]) (ps++[p])
 | [],[],_=>⟨hv,trivial⟩
 | _::_,_::_,h=>⟨h.1,FrsAt.snoc hv h.2⟩
 | [],_::_,h=>h.elim
 | _::_,[],h=>h.elim
def jD2 (p:Int×Int):Prop:= -1461501637330902918203684832716283019655932542976<p.1/\p.1<1461501637330902918203684832716283019655932542976/\0<p.2/\p.2<5192296858534827628530496329220096
def stp (f p:Int×Int):Int×Int:=(f.1*p.2+p.1*f.2,f.2*p.2)
def nrm (f:Int×Int):Int×Int:=(f.1 / (Int.gcd f.1 f.2:Nat),f.2 / (Int.gcd f.1 f.2:Nat))
def sumF (frs:List (Int×Int)):Int×Int:=frs.foldl stp (0,1)
structure Like (f:Int×Int)(x y:Int):Prop where
 pos:0<y
 eq:x*f.2=f.1*y
theorem jBI {f:Int×Int}(h:0<f.2):Like f (nrm f).1 (nrm f).2/\(nrm f).2<=f.2:=by
 have d0:0<Int.gcd f.1 f.2:=dq fun e=>by
  have:=bS e
  omega
 have e1:f.1=((Int.gcd f.1 f.2:Nat):Int)*(nrm f).1:=(gr (Int.gcd_dvd_left ..)).symm
 have e2:f.2=((Int.gcd f.1 f.2:Nat):Int)*(nrm f).2:=(gr (Int.gcd_dvd_right ..)).symm
 generalize (Int.gcd f.1 f.2:Nat)=d at d0 e1 e2
 have d1:(0:Int)<(d:Int):=by omega
 have p2:0<(nrm f).2:=by
  refine Int.pos_of_mul_pos_right ?_ d1
  rw[<- e2]
  exact h
 refine⟨⟨p2,?_⟩,?_⟩
 ·rw[e1,e2]
  generalize (nrm f).1=x
  generalize (nrm f).2=y
  grind
 ·rw[e2]
  generalize (nrm f).2=y at p2 ⊢
  have:1*y<=(d:Int)*y:=br (by omega) (by omega)
  omega
theorem jEG {a b:Int}{n:Nat}(ha:0<a)(hb:0<b)(h1:a.toNat<=n)(h2:b<5192296858534827628530496329220096):(a*b).toNat<=n*5192296858534827628530496329220096:=by
 obtain⟨m,rfl⟩:=dw (bG ha)
 obtain⟨k,rfl⟩:=dw (bG hb)
 show m*k<=n*5192296858534827628530496329220096
 exact cW (by simpa using h1) (by omega)
theorem jFK:∀ (frs:List (Int×Int)) (f:Int×Int),0<f.2->(∀ p∈frs,jD2 p)->0<(frs.foldl stp f).2/\(frs.foldl stp f).2.toNat<=f.2.toNat*5192296858534827628530496329220096 ^ frs.length
 | [],f,h,_=>⟨h,by show f.2.toNat<=f.2.toNat*1; omega⟩
 | p::r,f,h,hs=>by
  have hp:=hs p aA
  have hpos:0<(stp f p).2:=dJ h hp.2.2.1
  obtain⟨a,b⟩:=jFK r (stp f p) hpos fun q hq=>hs q (aB _ hq)
  refine⟨a,aH b ?_⟩
  rw[bp,Nat.pow_succ,dW (5192296858534827628530496329220096 ^ r.length),<- Nat.mul_assoc]
  exact cX _ (jEG h hp.2.2.1 (af _) hp.2.2.2)
theorem jN2 {b:Int}{n:Nat}(hn:n<=40)(h0:0<b)(h:b.toNat<=5192296858534827628530496329220096 ^ n):b.natAbs<BIG:=by
 have e:b.natAbs=b.toNat:=by omega
 rw[e]
 refine bw h ?_
 refine bw (bu (by decide) hn) ?_
 unfold BIG
 decide+kernel
theorem jOG {f:Int×Int}{x y:Int}(h:Like f x y)(hf:0<f.2):(y<x)↔(f.2<f.1):=by
 obtain⟨h1,h2⟩:=h
 constructor
 ·intro h
  have a:=cn h hf
  rw[h2] at a
  rw[bB y] at a
  exact ej a (by omega)
 ·intro h
  have a:=cn h h1
  rw[<- h2,bB f.2] at a
  exact ej a (by omega)
theorem jOH {f:Int×Int}{x y:Int}(h:Like f x y)(hf:0<f.2):(x=y)↔(f.1=f.2):=by
 obtain⟨h1,h2⟩:=h
 constructor
 ·intro e
  rw[e,bB] at h2
  exact(cy (by omega) h2).symm
 ·intro e
  rw[e,bB f.2] at h2
  exact cy (by omega) h2
theorem jIO {frs:List (Int×Int)}{i:Nat}{p:Int×Int}(h:frs[i]?=some p):frs.take (i+1)=frs.take i++[p]:=by
 rw[aT,h]
 rfl
theorem jOD {f:Int×Int}(h:0<f.2):Int.gcd (nrm f).1 (nrm f).2=1:=by
 refine Int.gcd_ediv_gcd_ediv_gcd ?_
 exact dq fun e=>by
  have:=bS e
  omega
theorem jII:∀ (frs:List (Int×Int)) (f:Int×Int) (n:Nat),0<f.2->f.2.natAbs<=2 ^ (112*n)->f.1.natAbs<=n*2 ^ 160*2 ^ (112*n)->(∀ p∈frs,jD2 p)->(frs.foldl stp f).1.natAbs<=(n+frs.length)*2 ^ 160*2 ^ (112*(n+frs.length))/\(frs.foldl stp f).2.natAbs<=2 ^ (112*(n+frs.length))
 | [],f,n,_,h1,h2,_=>⟨h2,h1⟩
 | p::r,f,n,h0,h1,h2,hs=>by
  obtain⟨s1,s2,s3,s4⟩:=hs p (aA ..)
  have b1:p.2.natAbs<=2 ^ 112:=by omega
  have b2:p.1.natAbs<=2 ^ 160:=by omega
  have e1:(stp f p).2.natAbs<=2 ^ (112*(n+1)):=by
   show (f.2*p.2).natAbs<=_
   rw[cY,gR,gS]
   exact cW h1 b1
  have e2:(stp f p).1.natAbs<=(n+1)*2 ^ 160*2 ^ (112*(n+1)):=by
   show (f.1*p.2+p.1*f.2).natAbs<=_
   refine aH (Int.natAbs_add_le _ _) ?_
   rw[cY,cY]
   have k1:f.1.natAbs*p.2.natAbs<=n*2 ^ 160*2 ^ (112*n)*2 ^ 112:=cW h2 b1
   have k2:p.1.natAbs*f.2.natAbs<=2 ^ 160*2 ^ (112*n):=cW b2 h1
   have k3:2 ^ (112*(n+1))=2 ^ (112*n)*2 ^ 112:=by rw[gR,gS]
   rw[k3]
   have k4:2 ^ 160*2 ^ (112*n)<=2 ^ 160*(2 ^ (112*n)*2 ^ 112):=bT _ (Nat.le_mul_of_pos_right _ (by decide))
   generalize 2 ^ (112*n)=z at*
   grind
  have:=jII r (stp f p) (n+1) (dJ h0 s3) e1 e2 fun q hq=>hs q (aB _ hq)
  rw[bp,show n+(r.length+1)=n+1+r.length by omega]
  exact this
theorem jLI {frs:List (Int×Int)}(hs:∀ p∈frs,jD2 p)(hn:frs.length<=32)(i:Nat):(sumF (frs.take i)).1.natAbs<2 ^ 6000/\(sumF (frs.take i)).2.natAbs<2 ^ 6000:=by
 obtain⟨h1,h2⟩:=jII (frs.take i) (0,1) 0 (by decide) (by decide) (by decide) fun p hp=>hs p (cV hp)
 have hl:(frs.take i).length<=32:=by rw[bz]; omega
 rw[Nat.zero_add] at h1 h2
 have p1:2 ^ (112*(frs.take i).length)<=2 ^ 3584:=bu (by decide) (by omega)
 have m1:(frs.take i).length*2 ^ 160*2 ^ (112*(frs.take i).length)<=32*2 ^ 160*2 ^ 3584:=cW (cX _ hl) p1
 have c1:32*2 ^ 160*2 ^ 3584<2 ^ 6000:=by decide
 have c2:2 ^ 3584<2 ^ 6000:=by decide
 exact⟨bw (aH h1 m1) c1,bw (aH h2 p1) c2⟩
theorem jOZ {p:Int×Int}(h:jD2 p):p.1.natAbs<2 ^ 6000/\p.2.natAbs<2 ^ 6000:=by
 obtain⟨s1,s2,s3,s4⟩:=h
 exact⟨aJ (show p.1.natAbs<2 ^ 160 by omega) (bu (by decide) (by decide)),aJ (show p.2.natAbs<2 ^ 112 by omega) (bu (by decide) (by decide))⟩
def spSum:Sp:=fun vs H Q _=>∃ (l:Addr) (us:List V) (frs:List (Int×Int)),vs=[.ref l]/\H l=some (.lst us)/\FrsAt H us frs/\(∀ p∈frs,jD2 p)/\frs.length<=32/\∀ r H',H' r=some (.tup [.int (nrm (sumF frs)).1, .int (nrm (sumF frs)).2])->Ext H H'->Q (.ref r) H'
section
variable {P:Program}{w:World}{K:W.Frag}{mg:Str->Option Value}{base:Heap}
variable {f fW fG fF:Addr}{fdW fdG fdF:FuncData}{cdv:Value}{A:Around}{outer:List Env}{s:Shared}{H0:Hp}{E:XK}
abbrev jJB:List Str:=["fractions","top","bottom","fraction"]
theorem scSumOf:FnScope jJB ["fractions"] (j8 jAZ):=⟨rfl,rfl,rfl,by decide+kernel,rfl,by decide+kernel,by decide+kernel⟩
def jOY (T:Txt mg)(CF:Can P w K mg base "fraction_of" 2 fF fdF ["top","bottom"] spFr)(hr:Room 2 (XOf jJB "sum_of" jAZ P w K mg base f cdv A outer s H0 E).A): { t:TS // JSs (XOf jJB "sum_of" jAZ P w K mg base f cdv A outer s H0 E) (jB jAZ) t} :=
 have nd:=scSumOf.nd
 ⟨_,(j7 (jF (i:=1) nd rfl lL (j6) jBC)
   (j7 (jF (i:=2) nd rfl lL (j6) jBC)
   (j7 (yW bb rfl (jAQ (jv 0 rfl vL)) (jK (i:=3) nd rfl lL) (j7 (jF (i:=1) nd rfl lL (jX kW (jX jAO (jv 1 rfl vL) (jE jG (jv 3 rfl vL) (j6) jC)) (jX jAO (jE jG (jv 3 rfl vL) (j6) jC) (jv 2 rfl vL))) jBY)
   (jD (jQC (i:=2) nd rfl lL (jE jG (jv 3 rfl vL) (j6) jC) jON))) jAT)
   (jD (jV (CF.je hr gD (j0 (jv 1 rfl vL) (j0 (jv 2 rfl vL) j5 j3) j3) j3))))))⟩
theorem jLJ {fd:FuncData}(F:Fun K "sum_of" "sum_of" jAZ f fd)(T:Txt mg)(CF:Can P w K mg base "fraction_of" 2 fF fdF ["top","bottom"] spFr):FnOk P w K mg base CX0 3 f fd ["fractions"] spSum:=by
 refine F.ok scSumOf (fun vs H Q E h=>?_) (fun cdv A outer s H vs Q E hr h=>?_)
 ·obtain⟨_,_,_,rfl,_⟩:=h
  rfl
 ·obtain⟨l,us,frs,rfl,hl,hF,hs,hn,q⟩:=h
  refine⟨_,(jOY T CF hr).2.h,?_⟩
  refine⟨_,rfl,l,rfl,⟨_,SqL.of hl⟩,jM4 (xs:=us) (fun i σ H'=>(∃ v3,σ=[some (.ref l),some (.int (sumF (frs.take i)).1),some (.int (sumF (frs.take i)).2),v3])/\H'=H) ⟨⟨_,rfl⟩,rfl⟩ (fun i σ H' _ ⟨_,e⟩=>by rw[e]; exact SqL.of hl) ?_ ?_⟩
  ·rintro i x σ H' hi ⟨⟨v3,rfl⟩,rfl⟩
   obtain⟨p,hp,a,rfl,ha⟩:=hF.at hi
   obtain⟨s1,s2,s3,s4⟩:=hs p (aO hp)
   obtain⟨g1,g2⟩:=jLI hs hn i
   obtain⟨g3,g4⟩:=jOZ (hs p (aO hp))
   refine⟨_,rfl,_,rfl,a,_,1,_,rfl,rfl,SqT.of ha,rfl,_,_,rfl,rfl,⟨g1,g4⟩,_,rfl,a,_,0,_,rfl,rfl,SqT.of ha,rfl,_,rfl,_,_,rfl,rfl,⟨g3,g2⟩,_,_,rfl,rfl,?_⟩
   refine⟨_,rfl,_,rfl,a,_,1,_,rfl,rfl,SqT.of ha,rfl,_,_,rfl,rfl,⟨g2,g4⟩,?_⟩
   refine⟨⟨some (.ref a),?_⟩,rfl⟩
   have:sumF (frs.take (i+1))=stp (sumF (frs.take i)) p:=by
    rw[jIO hp]
    unfold sumF
    rw[List.foldl_append]
    rfl
   rw[this]
   rfl
  ·rintro σ H' ⟨⟨v3,rfl⟩,rfl⟩
   rw[hF.len,bF]
   obtain⟨p1,p2⟩:=jFK frs (0,1) (by decide) hs
   have p2:(sumF frs).2.toNat<=1*5192296858534827628530496329220096 ^ frs.length:=p2
   refine⟨_,rfl,_,rfl,_,_,rfl,p1,jN2 (n:=frs.length) (by omega) p1 (by rw[Nat.one_mul] at p2; exact p2),fun r H' hr' e=>q r H' hr' e⟩
end
def topI:Ob->Int
 | .tup (.int a::_)=>a
 | _=>0
def fr:Ob->Int×Int
 | .tup [.int a, .int b]=>(a,b)
 | _=>(0,1)
def frsT (fs:List (Int×Int))(pcs:List (List Int×Int))(t:Int)(i:Nat):List (Int×Int):=(((fs.zip pcs).take i).filter fun x=>decide (t∈x.2.1)).map (·.1)
def okS (ms:List Int)(t:Int)(f:Int×Int):Bool:=!decide (f.2<f.1)&&(decide (f.1=f.2) || decide (t∈ms))
def shB (w:Int)(ms:List Int)(pcs:List (List Int×Int)):Ob->Bool
 | .tup os=>decide (os.length=pcs.length)&&(os.all (fun o=>yU o&&decide (0<=topI o))&&(upto w.toNat).all fun t=>okS ms t (sumF (frsT (os.map fr) pcs t pcs.length)))
 | _=>false
def SmO (o:Ob):Prop:=∀ os,o= .tup os->∀ x∈os,∀ a b,x= .tup [.int a, .int b]-> -1461501637330902918203684832716283019655932542976<a/\a<1461501637330902918203684832716283019655932542976/\b<5192296858534827628530496329220096
theorem jE1 {o:Ob}(h:yU o=true):∃ a b,o= .tup [.int a, .int b]/\1<=b:=by
 cases o with
 | int i=>cases h
 | oth=>cases h
 | tup os=>
  match os,h with
  | [.int a, .int b],h=>
   have h:(decide (1<=b)&&decide (Int.gcd a b=1))=true:=h
   rw[aR] at h
   exact⟨a,b,rfl,au h.1⟩
  | [],h=>cases h
  | [a],h=>cases a <;> cases h
  | [.int _, .oth],h=>cases h
  | [.int _, .tup _],h=>cases h
  | [.oth,b],h=>cases b <;> cases h
  | [.tup _,b],h=>cases b <;> cases h
  | a::b::_::_,h=>cases a <;> cases b <;> cases h
theorem fr_at {H:Hp}{o:Ob}{v:V}(h:yU o=true)(hA:At H o v):FrAt H v (fr o):=by
 obtain⟨a,b,rfl,_⟩:=jE1 h
 obtain⟨p,vs,rfl,hp,_,hx⟩:=hA
 obtain⟨v1,r1,rfl,e1,v2,r2,rfl,e2,e3⟩:=hx
 cases (show v1= .int a from e1)
 cases (show v2= .int b from e2)
 cases (show r2=[] from e3)
 exact⟨p,rfl,hp⟩
theorem jM3 {o:Ob}(h:yU o=true)(hs:∀ a b,o= .tup [.int a, .int b]-> -1461501637330902918203684832716283019655932542976<a/\a<1461501637330902918203684832716283019655932542976/\b<5192296858534827628530496329220096):jD2 (fr o):=by
 obtain⟨a,b,rfl,hb⟩:=jE1 h
 obtain⟨h1,h2,h3⟩:=hs a b rfl
 exact⟨h1,h2,by show 0<b; omega,h3⟩
theorem jK5 {fs:List (Int×Int)}{pcs:List (List Int×Int)}{t:Int}{i:Nat}{p:Int×Int}{pc:List Int×Int}(h1:fs[i]?=some p)(h2:pcs[i]?=some pc):frsT fs pcs t (i+1)=if decide (t∈pc.1)=true then frsT fs pcs t i++[p] else frsT fs pcs t i:=by
 have hz:(fs.zip pcs)[i]?=some (p,pc):=by
  rw[eF]
  exact⟨h1,h2⟩
 unfold frsT
 rw[aT,hz,bW,aD]
 by_cases e:decide (t∈pc.1)=true
 ·rw[ah e]
  simp [e]
 ·rw[ai e]
  simp at e
  simp [e]
theorem jH0 (fs:List (Int×Int))(pcs:List (List Int×Int))(t:Int)(i:Nat):(frsT fs pcs t i).length<=i:=by
 unfold frsT
 rw[ac]
 exact aH (bK _ _) (by rw[bz]; omega)
theorem jGZ {fs:List (Int×Int)}{pcs:List (List Int×Int)}{t:Int}{i:Nat}{p:Int×Int}(h:p∈frsT fs pcs t i):p∈fs:=by
 unfold frsT at h
 obtain⟨x,hx,rfl⟩:=aQ.mp h
 have:=cV (di.mp hx).1
 exact(dO this).1
theorem jP0 {w:Int}{ms:List Int}{pcs:List (List Int×Int)}{o:Ob}(h:isTup o=false):shB w ms pcs o=false:=by cases o <;> first | rfl | cases h
theorem jP1 {w:Int}{ms:List Int}{pcs:List (List Int×Int)}{os:List Ob}(h:¬ os.length=pcs.length):shB w ms pcs (.tup os)=false:=by
 show (decide _&&_)=false
 rw[aI h,bX]
theorem jP2 {w:Int}{ms:List Int}{pcs:List (List Int×Int)}{os:List Ob}(h:os.all (fun o=>yU o&&decide (0<=topI o))=false):shB w ms pcs (.tup os)=false:=by
 show (_&&(_&&_))=false
 rw[h,bX,dA]
theorem jIQ {w:Int}{ms:List Int}{pcs:List (List Int×Int)}{os:List Ob}(h1:os.length=pcs.length)(h2:os.all (fun o=>yU o&&decide (0<=topI o))=true):shB w ms pcs (.tup os)=(upto w.toNat).all fun t=>okS ms t (sumF (frsT (os.map fr) pcs t pcs.length)):=by
 show (decide _&&(_&&_))=_
 rw[ar h1,h2,bR,bR]
theorem jOT {α:Type}{l:List α}{F:α->Bool}{i:Nat}{x:α}(h:l[i]?=some x)(e:F x=false):l.all F=false:=by
 rw[cc]
 intro q
 rw[aU] at q
 have:=q x (aO h)
 rw[e] at this
 cases this
def spSh:Sp:=fun vs H Q _=>∃ (b:Addr) (v:V) (o:Ob) (w:Int) (ms:List Int) (pcs:List (List Int×Int)),vs=[.ref b,v]/\BoxAt H b w ms pcs/\Good 16 32 w ms pcs/\At H o v/\SmO o/\∀ H',Ext H H'->Q (.bl (shB w ms pcs o)) H'
section
variable {P:Program}{w:World}{K:W.Frag}{mg:Str->Option Value}{base:Heap}
variable {f fI fS:Addr}{fdI fdS:FuncData}{cdv:Value}{A:Around}{outer:List Env}{s:Shared}{H0:Hp}{E:XK}
noncomputable abbrev nAre:List Str:=["box","thing","one","held"]
theorem scAre:FnScope nAre ["box","thing"] (j8 sAre):=⟨rfl,rfl,rfl,by decide+kernel,rfl,by decide+kernel,by decide+kernel⟩
def areA (T:Txt mg)(CI:Can P w K mg base "is_fraction" 2 fI fdI ["thing"] (spB yU))(CS:Can P w K mg base "sum_of" 3 fS fdS ["fractions"] spSum)(hr:Room 3 (XOf nAre "are_shares" sAre P w K mg base f cdv A outer s H0 E).A): { t:TS // JSs (XOf nAre "are_shares" sAre P w K mg base f cdv A outer s H0 E) (jB sAre) t} :=
 have nd:=scAre.nd
 ⟨_,(j7 (yE (jt_w (jw_or (jBJ (q0 (jN jAA gD T.isinstance (by decide+kernel) (j0 (jv 1 rfl vL) (j0 (jCS (v:= .ty "tuple") gD T.tuple (by decide+kernel) rfl) j5 j3) j3) j3) yN)) (jDB (jJ op_ne (jN jZ gD T.len (by decide+kernel) (j0 (jv 1 rfl vL) j5 j3) j3) (jN jZ gD T.len (by decide+kernel) (j0 (jE jG (jv 0 rfl vL) (j6) jC) j5 jL) jL) (jP _))))) (jD (jV (je_bl))) kG)
   (j7 (yE (jBJ (q0 (jN (jD0 rfl) gD T.all (by decide+kernel) (j0 (kQ (m:=[none]) (Nc:=["share"]) rfl (yT (jv 1 rfl vL)) rfl (by decide+kernel) (by decide+kernel) (jW (psc:=j8 sAre) (by decide+kernel)) (jI (N:=nAre) rfl rfl (by decide+kernel)) (fun cl C fp s H=>jK (i:=0) (show (["share"]:List Str).Nodup by decide+kernel) rfl (yD (by decide+kernel))) (fun cl C fp s H=>kP) (fun cl C fp s H=>((jDD (CI.je (hr.mono (by decide)) (gl_b (by decide+kernel)) (j0 (jv 0 rfl (kB (by decide+kernel))) j5 j3) j3) (jDC (yI op_ge (jE jAB (jv 0 rfl (kB (by decide+kernel))) (j6) jC) (j6) (jP _)))))) jAT) j5 jQ) jQ) yN)) (jD (jV (je_bl))) kG)
   (j7 (yW bb rfl (kT gD T.range (j0 (jE jG (jv 0 rfl vL) (j6) jC) j5 jL) jL) (jK (i:=2) nd rfl (yS (by decide+kernel))) (j7 (jF (i:=3) nd rfl lL (CS.je (hr.mono (by decide)) gD (j0 (kQ (m:=[none,none,some 2]) (Nc:=["share","piece","one"]) rfl (jMU gD T.zip (j0 (jv 1 rfl vL) (j0 (jE jG (jv 0 rfl vL) (j6) jC) j5 jL) j3) j3) rfl (by decide+kernel) (by decide+kernel) (jW (psc:=j8 sAre) (by decide+kernel)) (jI (N:=nAre) rfl rfl (by decide+kernel)) (fun cl C fp s H=>jCR (i:=0) (j:=1) rfl (show (["share","piece","one"]:List Str).Nodup by decide+kernel) rfl rfl (by decide+kernel) (by decide+kernel)) (fun cl C fp s H=>jB9 (jJ jCJ (jv 2 rfl (kJ (by decide+kernel))) (jE jAB (jv 1 rfl (kB (by decide+kernel))) (j6) jC) jCL)) (fun cl C fp s H=>(jv 0 rfl (kB (by decide+kernel)))) kR) j5 jQ) jQ) jO)
   (jD (yE (jt_w (jw_or (jJ qJ (jE jG (jv 3 rfl vL) (j6) jC) (jE jG (jv 3 rfl vL) (j6) jC) (jP _)) (jDB (jt_w (jET (jJ op_lt (jE jG (jv 3 rfl vL) (j6) jC) (jE jG (jv 3 rfl vL) (j6) jC) (jP _)) (jCP (jJ jAN (jv 2 rfl vC) (jE jG (jv 0 rfl vL) (j6) jC) jCL))))))) (jD (jV (je_bl))) kG))) kR)
   (jD (jV (je_bl))))))⟩
theorem jQ4 {fd:FuncData}(F:Fun K "are_shares" "are_shares" sAre f fd)(T:Txt mg)(CI:Can P w K mg base "is_fraction" 2 fI fdI ["thing"] (spB yU))(CS:Can P w K mg base "sum_of" 3 fS fdS ["fractions"] spSum):FnOk P w K mg base CX0 4 f fd ["box","thing"] spSh:=by
 refine F.ok scAre (fun vs H Q E h=>?_) (fun cdv A outer s H vs Q E hr h=>?_)
 ·obtain⟨_,_,_,_,_,_,rfl,_⟩:=h
  rfl
 ·obtain⟨b,v,o,w,ms,pcs,rfl,hB,g,hA,hS,q⟩:=h
  obtain⟨qm,qp,ps,b1,b2,b3,b4⟩:=hB.ex
  have pl:=b4.len
  have gl:=g.pl
  have w0:=g.w0
  have w1:=g.w1
  obtain⟨t,ty,kt,_⟩:=hA.ty K
  refine⟨_,(areA T CI CS hr).2.h,?_⟩
  refine⟨_,rfl,_,_,_,_,rfl,ty,kt,_,rfl,?_⟩
  cases ht:isTup o with
  | false=>exact iteT (iteT (qb (q H (Ext.refl H)) (jP0 ht)))
  | true=>
   refine iteF ?_
   obtain⟨os,a,vs,rfl,rfl,ha,h100,hx⟩:=hA.tupOf ht
   have hl:=hx.len
   have hn:vs.length<sizeLine:=by rw[aj]; omega
   refine⟨_,rfl,a,_,rfl, .inr (SqT.of ha),_,rfl,b,_,2,_,rfl,rfl,SqT.of b1,rfl,qp,_,rfl, .inr (SqT.of b3),rfl,_,rfl,?_⟩
   by_cases hle:vs.length=ps.length
   ·refine iteNS (by rw[hle]) ?_
    refine⟨_,rfl,a,rfl,⟨_,SqT.of ha⟩,jF0 (F:=fun o=>yU o&&decide (0<=topI o)) ha hx hn (fun σ'=>∃ v,σ'=[v]) ⟨_,rfl⟩ ?_ ?_⟩
    ·rintro σ' H' v o R S ⟨u,rfl⟩ e hA k
     dsimp only [kS,yG]
     rw[ah rfl]
     refine⟨_,rfl,v,o,rfl,hA,fun H3 e3=>⟨_,rfl,?_⟩⟩
     cases hf:yU o with
     | false=>
      have:=k [some v] H3 ⟨_,rfl⟩ e3
      rw[hf] at this
      exact iteF this
     | true=>
      obtain⟨c,hc⟩:FrAt H' v (fr o):=fr_at hf hA
      obtain⟨rfl,hc⟩:=hc
      have:=k [some (.ref c)] H3 ⟨_,rfl⟩ e3
      rw[hf,bR] at this
      obtain⟨a',b',rfl,_⟩:=jE1 hf
      exact iteT ⟨_,rfl,c,_,0,_,rfl,rfl,SqT.of (e3 _ _ hc),rfl,_,_,rfl,rfl,this⟩
    ·intro D H1 e1 hD
     refine⟨D,_,rfl,SqL.of hD,_,rfl,?_⟩
     rw[jN4]
     cases hall:os.all (fun o=>yU o&&decide (0<=topI o)) with
     | false=>exact iteT (qb (q H1 e1) (jP2 hall))
     | true=>
      refine iteF ?_
      have hos:os.length=pcs.length:=by omega
      rw[jIQ hos hall] at q
      have hfr:∀ o∈os,yU o=true:=fun o ho=>by
       have:=aU.mp hall o ho
       rw[aR] at this
       exact this.1
      have hsm:∀ p∈os.map fr,jD2 p:=fun p hp=>by
       obtain⟨o,ho,rfl⟩:=aQ.mp hp
       exact jM3 (hfr o ho) (hS os rfl o ho)
      refine⟨_,rfl,b,_,0,_,rfl,rfl,SqT.of (e1 _ _ b1),rfl,w,rfl,by omega,by omega,jA2 (fun i σ H'=>(∃ v2 v3,σ=[some (.ref b),some (.ref a),v2,v3])/\Ext H H'/\((upto w.toNat).take i).all (fun t=>okS ms t (sumF (frsT (os.map fr) pcs t pcs.length)))=true) ⟨⟨_,_,rfl⟩,e1,rfl⟩ ?_ ?_⟩
      ·rintro i σ H2 hi ⟨⟨v2,v3,rfl⟩,e2,hp⟩
       have no:∀ H',Ext H2 H'->okS ms i (sumF (frsT (os.map fr) pcs i pcs.length))=false->Q (.bl false) H':=fun H' e' z=>qb (q H' (e2.trans e')) (jOT (jGB hi) z)
       refine⟨_,rfl,_,rfl,b,_,2,_,rfl,rfl,SqT.of (e2 _ _ b1),rfl,true,true,a,qp,rfl,⟨_,SqT.of (e2 _ _ ha)⟩,⟨_,SqT.of (e2 _ _ b3)⟩,jH5 (xs:=vs) (ys:=ps) hn (fun D j σ' H' zs=>(∃ v1 v2,σ'=[v1,v2,some (.int (0+(i:Int)))])/\FrsAt H' zs (frsT (os.map fr) pcs i j)/\Ext H2 H'/\H' D=some (.lst zs)/\H2 D=none) ?_ ?_ ?_ ?_⟩
       ·intro D hD
        exact⟨⟨_,_,rfl⟩,trivial,(Ext.refl _).new hD _,j4,hD⟩
       ·rintro D j σ' H' zs hD ⟨_,hF,e,h2,_⟩
        have E2:=e2.trans e
        refine⟨SqT.of (E2 _ _ ha),SqT.of (E2 _ _ b3),h2,?_⟩
        rw[hF.len]
        exact jH0 _ _ _ _
       ·rintro D j σ' H' zs x y tt hD hx1 hy1 ht1 ⟨⟨v1,v2,rfl⟩,hF,e,h2,hn2⟩
        obtain⟨oj,hoj,hAj⟩:=hx.get hx1
        obtain⟨pc,hpc,pa,pq,rfl,c1,c2⟩:=b4.at hy1
        have hfo:=hfr oj (aO hoj)
        have hfx:=fr_at hfo (hAj.ext (e2.trans e))
        have tD:D≠tt:=jA h2 ht1
        have e3:Ext H' (upd H' tt (.tup [x, .ref pa])):=(Ext.refl _).new ht1 _
        have EE:=(e2.trans e).trans e3
        have hsucc:=jK5 (fs:=os.map fr) (t:=(i:Int)) (p:=fr oj) (by rw[az,hoj]; rfl) hpc
        refine⟨tt,_,rfl,SqT.of j4,rfl,_,_,rfl,_,_,rfl,rfl,?_⟩
        refine⟨_,rfl,_,rfl,pa,_,0,_,rfl,rfl,SqT.of (EE _ _ c1),rfl,pq,_,rfl, .inr (SqT.of (EE _ _ c2)),rfl,y8 _,_,rfl,?_⟩
        show if inV (.int (0+(i:Int))) (pc.1.map V.int)=true then _ else _
        rw[yH,bA]
        refine ite2 (fun hy=>?_) (fun hy=>?_)
        ·rw[ah hy] at hsucc
         have tw:Tups (upd H' tt (.tup [x, .ref pa])) (upd (upd H' tt (.tup [x, .ref pa])) D (.lst (zs++[x]))):=Tups.upd (by rw[j9 tD]; exact h2) _
         refine⟨_,rfl,by rw[j9 tD]; exact h2,⟨_,_,rfl⟩,?_,(e.trans e3).updNew hn2 _,j4,hn2⟩
         rw[hsucc]
         exact FrsAt.snoc ((hfx.mono fun b xs h=>e3 b _ h).mono tw) ((hF.mono fun b xs h=>e3 b _ h).mono tw)
        ·rw[ai hy] at hsucc
         refine⟨⟨_,_,rfl⟩,?_,e.trans e3,by rw[j9 tD]; exact h2,hn2⟩
         rw[hsucc]
         exact hF.mono fun b xs h=>e3 b _ h
       ·rintro D σ' H' zs hD ⟨_,hF,e,h2,hn2⟩
        have em:min vs.length ps.length=pcs.length:=by omega
        rw[em] at hF
        have hfl:=jH0 (os.map fr) pcs i pcs.length
        refine⟨D,zs,_,rfl,h2,hF,fun p hp=>hsm p (jGZ hp),by omega,fun r H3 hr3 e3=>?_⟩
        have hpos:0<(sumF (frsT (os.map fr) pcs i pcs.length)).2:=(jFK _ (0,1) (by decide) fun p hp=>hsm p (jGZ hp)).1
        have lk:=(jBI hpos).1
        generalize hxx:(nrm (sumF (frsT (os.map fr) pcs i pcs.length))).1=x at hr3 lk
        generalize hyy:(nrm (sumF (frsT (os.map fr) pcs i pcs.length))).2=y at hr3 lk
        have lg:=jOG lk hpos
        have le:=jOH lk hpos
        have EE:=(e2.trans e).trans e3
        have nx:okS ms i (sumF (frsT (os.map fr) pcs i pcs.length))=true->(∃ v2' v3',([some (.ref b),some (.ref a),some (.int (0+(i:Int))),some (.ref r)]:St)=[some (.ref b),some (.ref a),v2',v3'])/\Ext H H3/\((upto w.toNat).take (i+1)).all (fun t=>okS ms t (sumF (frsT (os.map fr) pcs t pcs.length)))=true:=fun z=>by
         refine⟨⟨_,_,rfl⟩,EE,?_⟩
         rw[jI2 hi,List.all_append,hp,eZ,z]
         rfl
        generalize hsf:sumF (frsT (os.map fr) pcs i pcs.length)=sf at lg le nx no
        refine⟨_,rfl,r,_,0,_,rfl,rfl,SqT.of hr3,rfl,_,rfl,r,_,1,_,rfl,rfl,SqT.of hr3,rfl,_,_,rfl,rfl,_,rfl,ite2 (fun h1=>?_) (fun h1=>?_)⟩
        ·have h1:y<x:=au h1
         refine iteT (no H3 (e.trans e3) ?_)
         unfold okS
         rw[ar (lg.mp h1)]
         rfl
        ·have h1:¬ y<x:=fun h=>h1 (ar h)
         have h1':¬ sf.2<sf.1:=fun h=>h1 (lg.mpr h)
         refine⟨_,rfl,r,_,0,_,rfl,rfl,SqT.of hr3,rfl,_,rfl,r,_,1,_,rfl,rfl,SqT.of hr3,rfl,_,_,rfl,rfl,_,rfl,ite2 (fun h2'=>?_) (fun h2'=>?_)⟩
         ·have h2':x<y:=au h2'
          have hne:¬ sf.1=sf.2:=fun h=>by have:=le.mpr h; omega
          refine⟨_,rfl,_,rfl,b,_,1,_,rfl,rfl,SqT.of (EE _ _ b1),rfl,qm,_,rfl, .inr (SqT.of (EE _ _ b2)),rfl,y8 _,_,rfl,?_⟩
          show if (!inV (.int (0+(i:Int))) (ms.map V.int))=true then _ else _
          rw[yH,bA]
          refine ite2 (fun h3=>?_) (fun h3=>?_)
          ·have h3:decide ((i:Int)∈ms)=false:=by simpa using h3
           refine no H3 (e.trans e3) ?_
           unfold okS
           rw[aI hne,h3]
           simp
          ·have h3:decide ((i:Int)∈ms)=true:=by simpa using h3
           have:=nx (by
            unfold okS
            rw[aI h1',h3]
            simp)
           rw[bA] at this
           exact this
         ·have h2':¬ x<y:=fun h=>h2' (ar h)
          have heq:sf.1=sf.2:=le.mp (by omega)
          refine iteF (nx ?_)
          unfold okS
          rw[aI h1',ar heq]
          rfl
      ·rintro σ H2 ⟨⟨v2,v3,rfl⟩,e2,hp⟩
       refine qb (q H2 e2) ?_
       have:(upto w.toNat).take w.toNat=upto w.toNat:=by
        have:=bF (l:=upto w.toNat)
        rw[jL3] at this
        exact this
       rw[this] at hp
       exact hp
   ·have hb:(!decide (V.int (vs.length:Int)=V.int (ps.length:Int)))=true:=by
     have:¬ V.int (vs.length:Int)=V.int (ps.length:Int):=fun e=>hle (by have:=V.int.inj e; omega)
     simp [this]
    exact ite2 (fun _=>qb (q H (Ext.refl H)) (jP1 (by omega))) (fun hn=>absurd hb hn)
end
end Eo
end
section
namespace Eo
def sxS:Nat->(Nat->Int)->Int
 | 0,_=>0
 | n+1,f=>sxS n f+f n
theorem jH:∀ {n:Nat}{f g:Nat->Int},(∀ k,k<n->f k=g k)->sxS n f=sxS n g
 | 0,_,_,_=>rfl
 | n+1,f,g,h=>by
  show sxS n f+f n=sxS n g+g n
  rw[jH fun k hk=>h k (aq hk),h n (aF n)]
theorem jA5:∀ {n:Nat}{f:Nat->Int},(∀ k,k<n->f k=0)->sxS n f=0
 | 0,_,_=>rfl
 | n+1,f,h=>by
  show sxS n f+f n=0
  rw[jA5 fun k hk=>h k (aq hk),h n (aF n)]
  rfl
theorem yC (f g:Nat->Int):∀ n,sxS n (fun k=>f k+g k)=sxS n f+sxS n g
 | 0=>rfl
 | n+1=>by
  show sxS n _+(f n+g n)=(sxS n f+f n)+(sxS n g+g n)
  rw[yC f g n]; omega
theorem kY (x:Int)(f:Nat->Int):∀ n,sxS n (fun k=>x*f k)=x*sxS n f
 | 0=>(aV x).symm
 | n+1=>by
  show sxS n _+x*f n=x*(sxS n f+f n)
  rw[kY x f n,Int.mul_add]
theorem yM {n i:Nat}{f:Nat->Int}(hi:i<n)(h:∀ k,k<n->k≠i->f k=0):sxS n f=f i:=by
 induction n with
 | zero=>exact absurd hi (bm _)
 | succ n ih=>
  show sxS n f+f n=f i
  by_cases e:i=n
  ·subst e
   rw[jA5 fun k hk=>h k (aq hk) (aL hk),bA]
  ·rw[ih (by omega) fun k hk=>h k (aq hk),h n (aF n) (fun z=>e z.symm),bC]
theorem jNA {n i j:Nat}{f:Nat->Int}(hi:i<n)(hj:j<n)(ne:i≠j)(h:∀ k,k<n->k≠i->k≠j->f k=0):sxS n f=f i+f j:=by
 have e:sxS n f=sxS n (fun k=>(if k=i then f i else 0)+if k=i then 0 else f k):=jH fun k _=>by
  by_cases z:k=i
  ·rw[ah z,ah z,z,bC]
  ·rw[ai z,ai z,bA]
 rw[e,yC,yM hi fun k _ z=>ai z,ah rfl,yM hj fun k hk z=>?_,ai (fun z=>ne z.symm)]
 by_cases y:k=i
 ·exact ah y
 ·rw[ai y]; exact h k hk y z
theorem jGE:∀ (m:Nat) (F:Nat->Nat->Int),(∀ k j,k<j->j<=m->F j k+F k (j - 1)=0)->sxS (m+1) (fun j=>sxS m fun k=>F j k)=0
 | 0,F,_=>rfl
 | m+1,F,h=>by
  show sxS (m+1) (fun j=>sxS m (fun k=>F j k)+F j m)+(sxS m (fun k=>F (m+1) k)+F (m+1) m)=0
  rw[yC,jGE m F fun k j hk hj=>h k j hk (Nat.le_succ_of_le hj),bA]
  show sxS (m+1) (fun j=>F j m)+sxS (m+1) (fun k=>F (m+1) k)=0
  rw[<- yC]
  exact jA5 fun k hk=>by
   have:=h k (m+1) hk (af _)
   rw[Nat.add_sub_cancel] at this
   omega
theorem jBP (f:Nat->Int)(n:Nat):sxS n (fun k=> - f k)= - sxS n f:=by
 have:=kY (-1) f n
 rw[show (-1:Int)*sxS n f= - sxS n f by omega] at this
 rw[<- this]
 exact jH fun k _=>by omega
theorem jGD {f:Nat->Int} :∀ {n:Nat},sxS n f>0->∃ k,k<n/\f k>0
 | 0,h=>absurd h (by show ¬ (0:Int)>0; omega)
 | n+1,h=>by
  have h:sxS n f+f n>0:=h
  by_cases z:f n>0
  ·exact⟨n,aF n,z⟩
  ·obtain⟨k,hk,q⟩:=jGD (n:=n) (f:=f) (by omega)
   exact⟨k,aq hk,q⟩
theorem jGF {f:Nat->Int} :∀ {n:Nat},(∀ k,k<n->0<=f k)->0<=sxS n f
 | 0,_=>eW _
 | n+1,h=>by
  have a:=jGF (n:=n) fun k hk=>h k (aq hk)
  have b:=h n (aF n)
  show 0<=sxS n f+f n
  omega
theorem jIF {f:Nat->Int}{n:Nat}(h:∀ k,k<n->f k<=0):sxS n f<=0:=by
 have:=jGF (n:=n) (f:=fun k=> - f k) fun k hk=>by have:=h k hk; show 0<= - f k; omega
 rw[jBP] at this
 omega
def skp (j k:Nat):Nat:=if k<j then k else k+1
theorem jNE {k j:Nat}(h:k<j)(l:Nat):skp j (skp k l)=skp k (skp (j - 1) l):=by
 unfold skp
 split <;> split <;> (try split) <;> (try split) <;> omega
def sgn (j:Nat):Int:=if j % 2=0 then 1 else -1
theorem jLA (j:Nat):sgn (j+1)= - sgn j:=by
 unfold sgn
 split <;> split <;> first | rfl | omega
def dt:Nat->(Nat->Nat->Int)->Int
 | 0,_=>1
 | n+1,M=>sxS (n+1) fun j=>sgn j*M 0 j*dt n fun i k=>M (i+1) (skp j k)
theorem jMJ {j k n:Nat}(hj:j<n+1)(hk:k<n):skp j k<n+1:=by
 unfold skp
 split <;> omega
theorem jAC:∀ {n:Nat}{M N:Nat->Nat->Int},(∀ i j,i<n->j<n->M i j=N i j)->dt n M=dt n N
 | 0,_,_,_=>rfl
 | n+1,M,N,h=>jH fun j hj=>by
  rw[h 0 j (gP _) hj,jAC fun i k hi hk=>h (i+1) (skp j k) (by omega) (jMJ hj hk)]
def rs (M:Nat->Nat->Int)(r:Nat)(v:Nat->Int):Nat->Nat->Int:=fun i=>if i=r then v else M i
theorem jAJ {M:Nat->Nat->Int}{r:Nat}{v:Nat->Int} :rs M r v r=v:=ah rfl
theorem qK {M:Nat->Nat->Int}{r i:Nat}{v:Nat->Int}(h:i≠r):rs M r v i=M i:=ai h
theorem jDF {x y:Int}{u v:Nat->Int} :∀ {n r:Nat}{M:Nat->Nat->Int},r<n->dt n (rs M r fun j=>x*u j+y*v j)=x*dt n (rs M r u)+y*dt n (rs M r v)
 | n+1,0,M,_=>by
  unfold dt
  rw[<- kY,<- kY,<- yC]
  refine jH fun j _=>?_
  rw[jAJ,jAJ,jAJ]
  have e:∀ w:Nat->Int,(fun i k=>rs M 0 w (i+1) (skp j k))=fun i k=>M (i+1) (skp j k):=fun w=>by
   funext i k
   rw[qK (Nat.succ_ne_zero i)]
  rw[e,e,e]
  generalize dt n _=d
  grind
 | n+1,r+1,M,h=>by
  unfold dt
  rw[<- kY,<- kY,<- yC]
  refine jH fun j _=>?_
  have e0:∀ w:Nat->Int,rs M (r+1) w 0=M 0:=fun w=>qK (by omega)
  have e:∀ w:Nat->Int,(fun i k=>rs M (r+1) w (i+1) (skp j k))=rs (fun i k=>M (i+1) (skp j k)) r fun k=>w (skp j k):=fun w=>by
   funext i k
   unfold rs
   by_cases z:i=r
   ·rw[ah z,ah (by omega)]
   ·rw[ai z,ai (by omega)]
  rw[e0,e0,e0,e,e,e,jDF (by omega)]
  grind
theorem jEZ {n r:Nat}{M:Nat->Nat->Int}{t:Nat->Int}{v:Nat->Nat->Int}(h:r<n):∀ m,dt n (rs M r fun j=>sxS m fun k=>t k*v k j)=sxS m fun k=>t k*dt n (rs M r (v k))
 | 0=>by
  have:=jDF (x:=0) (y:=0) (u:=fun _=>0) (v:=fun _=>0) (M:=M) h
  have e:(fun j:Nat=>sxS 0 fun k=>t k*v k j)=fun _:Nat=>(0:Int)*0+0*0:=rfl
  rw[e,this]
  show _=(0:Int)
  omega
 | m+1=>by
  have:=jDF (x:=1) (y:=t m) (u:=fun j=>sxS m fun k=>t k*v k j) (v:=v m) (M:=M) h
  have e:(fun j:Nat=>sxS (m+1) fun k=>t k*v k j)=fun j=>1*(sxS m fun k=>t k*v k j)+t m*v m j:=by
   funext j
   show sxS m _+t m*v m j=_
   omega
  rw[e,this,jEZ h m]
  show _=sxS m _+t m*dt n (rs M r (v m))
  omega
theorem dt_01 {n:Nat}{M:Nat->Nat->Int}(h:∀ k,k<n+2->M 0 k=M 1 k):dt (n+2) M=0:=by
 show sxS (n+2) (fun j=>sgn j*M 0 j*sxS (n+1) fun k=>sgn k*M 1 (skp j k)*dt n fun i l=>M (i+2) (skp j (skp k l)))=0
 have e:sxS (n+2) (fun j=>sgn j*M 0 j*sxS (n+1) fun k=>sgn k*M 1 (skp j k)*dt n fun i l=>M (i+2) (skp j (skp k l)))=sxS (n+2) (fun j=>sxS (n+1) fun k=>sgn j*M 0 j*(sgn k*M 1 (skp j k)*dt n fun i l=>M (i+2) (skp j (skp k l)))):=jH fun j _=>(kY _ _ _).symm
 rw[e]
 refine jGE (n+1) _ fun k j hk hj=>?_
 have e1:skp j k=k:=ah hk
 have e2:skp k (j - 1)=j:=by unfold skp; rw[ai (by omega)]; omega
 have e3:(fun i l=>M (i+2) (skp j (skp k l)))=fun i l=>M (i+2) (skp k (skp (j - 1) l)):=by
  funext i l
  rw[jNE hk]
 have e4:sgn j= - sgn (j - 1):=by
  have:=jLA (j - 1)
  rwa [show j - 1+1=j by omega] at this
 show sgn j*M 0 j*(sgn k*M 1 (skp j k)*dt n fun i l=>M (i+2) (skp j (skp k l)))+sgn k*M 0 k*(sgn (j - 1)*M 1 (skp k (j - 1))*dt n fun i l=>M (i+2) (skp k (skp (j - 1) l)))=0
 rw[e1,e2,e3,e4,h j (by omega),h k (by omega)]
 generalize dt n _=d
 grind
theorem jB5 {M:Nat->Nat->Int}{r q:Nat}{u v:Nat->Int}(h:r≠q):rs (rs M r u) q v=rs (rs M q v) r u:=by
 funext i
 unfold rs
 by_cases a:i=q
 ·rw[ah a,ai (fun z=>h (z.symm.trans a)),ah a]
 ·rw[ai a]
  by_cases b:i=r
  ·rw[ah b,ah b]
  ·rw[ai b,ai b,ai a]
theorem rs_rs {M:Nat->Nat->Int}{r:Nat}{u v:Nat->Int} :rs (rs M r u) r v=rs M r v:=by
 funext i
 unfold rs
 by_cases a:i=r
 ·rw[ah a,ah a]
 ·rw[ai a,ai a,ai a]
theorem jCE {M:Nat->Nat->Int}{r:Nat} :rs M r (M r)=M:=by
 funext i
 unfold rs
 by_cases a:i=r
 ·rw[ah a,a]
 ·rw[ai a]
theorem jKB {n r:Nat}{M:Nat->Nat->Int}{u v:Nat->Int}(h:r<n):dt n (rs M r fun j=>u j+v j)=dt n (rs M r u)+dt n (rs M r v):=by
 have:=jDF (x:=1) (y:=1) (u:=u) (v:=v) (M:=M) h
 have e:(fun j=>1*u j+1*v j)=fun j=>u j+v j:=by funext j; omega
 rw[e] at this
 omega
def AltN (n:Nat):Prop:=∀ (M:Nat->Nat->Int) (i j:Nat),i<j->j<n->(∀ k,k<n->M i k=M j k)->dt n M=0
theorem jN3 {n:Nat}(al:AltN n){M:Nat->Nat->Int}{i j:Nat}(ne:i≠j)(hi:i<n)(hj:j<n)(h:∀ k,k<n->M i k=M j k):dt n M=0:=by
 rcases Nat.lt_or_gt_of_ne ne with z | z
 ·exact al M i j z hj h
 ·exact al M j i z hi fun k hk=>(h k hk).symm
theorem jHA {n:Nat}(al:AltN n){M:Nat->Nat->Int}{i j:Nat}{u v:Nat->Int}(ne:i≠j)(hi:i<n)(hj:j<n):dt n (rs (rs M i u) j v)= - dt n (rs (rs M i v) j u):=by
 have z:∀ w:Nat->Int,dt n (rs (rs M i w) j w)=0:=fun w=>jN3 al ne hi hj fun k _=>by rw[qK ne,jAJ,jAJ]
 have h:=z fun k=>u k+v k
 rw[jKB hj,jB5 ne,jB5 ne,jKB hi,jKB hi,<- jB5 ne,<- jB5 ne,<- jB5 ne,<- jB5 ne,z u,z v] at h
 omega
theorem jG8:∀ n,AltN n
 | 0=>fun _ _ _ _ hj _=>absurd hj (bm _)
 | n+1=>by
  have ih:=jG8 n
  intro M i j hij hj h
  have later:∀ (M:Nat->Nat->Int) (i j:Nat),i<j->j<n->(∀ k,k<n+1->M (i+1) k=M (j+1) k)->dt (n+1) M=0:=fun M i j hij hj h=>jA5 fun c hc=>by
   rw[ih _ i j hij hj fun k hk=>h _ (jMJ hc hk),aV]
  cases i with
  | succ i=>
   cases j with
   | zero=>omega
   | succ j=>exact later M i j (by omega) (by omega) h
  | zero=>
   by_cases j1:j=1
   ·subst j1
    cases n with
    | zero=>omega
    | succ n=>exact dt_01 h
   ·-- rows 1 and j exchanged
    have sw:dt (n+1) (rs (rs M 1 (M j)) j (M 1))= - dt (n+1) M:=by
     show sxS (n+1) _= - sxS (n+1) _
     rw[<- jBP]
     refine jH fun c hc=>?_
     have e0:rs (rs M 1 (M j)) j (M 1) 0=M 0:=by rw[qK (by omega),qK (by omega)]
     have e1:(fun i k=>rs (rs M 1 (M j)) j (M 1) (i+1) (skp c k))=rs (rs (fun i k=>M (i+1) (skp c k)) 0 (fun k=>M j (skp c k))) (j - 1) fun k=>M 1 (skp c k):=by
      funext i k
      unfold rs
      by_cases a:i=j - 1
      ·rw[ah a,ah (by omega)]
      ·rw[ai a,ai (by omega)]
       by_cases b:i=0
       ·rw[ah b,ah (by omega)]
       ·rw[ai b,ai (by omega)]
     have e2:(fun i k=>M (i+1) (skp c k))=rs (rs (fun i k=>M (i+1) (skp c k)) 0 (fun k=>M 1 (skp c k))) (j - 1) fun k=>M j (skp c k):=by
      funext i k
      unfold rs
      by_cases a:i=j - 1
      ·rw[ah a,show i+1=j by omega]
      ·rw[ai a]
       by_cases b:i=0
       ·rw[ah b,b]
       ·rw[ai b]
     show sgn c*rs (rs M 1 (M j)) j (M 1) 0 c*dt n (fun i k=>rs (rs M 1 (M j)) j (M 1) (i+1) (skp c k))= - (sgn c*M 0 c*dt n fun i k=>M (i+1) (skp c k))
     rw[e0,e1,jHA ih (by omega) (by omega) (by omega),<- e2]
     generalize dt n _=d
     grind
    have z:dt (n+1) (rs (rs M 1 (M j)) j (M 1))=0:=by
     cases n with
     | zero=>omega
     | succ n=>
      refine dt_01 fun k hk=>?_
      rw[qK (by omega),qK (by omega),qK (fun y=>j1 y.symm),jAJ]
      exact h k hk
    omega
theorem jKA {n:Nat}{M:Nat->Nat->Int}{i j:Nat}(ne:i≠j)(hi:i<n)(hj:j<n)(h:∀ k,k<n->M i k=M j k):dt n M=0:=jN3 (jG8 n) ne hi hj h
theorem jOS {n:Nat}{M:Nat->Nat->Int}{i j:Nat}{u v:Nat->Int}(ne:i≠j)(hi:i<n)(hj:j<n):dt n (rs (rs M i u) j v)= - dt n (rs (rs M i v) j u):=jHA (jG8 n) ne hi hj
def dlt (i j:Nat):Int:=if i=j then 1 else 0
theorem dt_id:∀ n,dt n dlt=1
 | 0=>rfl
 | n+1=>by
  show sxS (n+1) _=1
  rw[yM (i:=0) (gP _) fun k _ hk=>by
   have:dlt 0 k=0:=ai fun z=>hk z.symm
   rw[this,aV,bH]]
  have e:(fun i k=>dlt (i+1) (skp 0 k))=dlt:=by
   funext i k
   unfold dlt skp
   rw[ai (bm _)]
   by_cases z:i=k
   ·rw[ah z,ah (by omega)]
   ·rw[ai z,ai (by omega)]
  show sgn 0*dlt 0 0*dt n (fun i k=>dlt (i+1) (skp 0 k))=1
  rw[e,dt_id n]
  rfl
theorem jNG (j:Nat):(sgn j).natAbs=1:=by
 unfold sgn
 split <;> rfl
end Eo
end
section
namespace Eo
def fs (b:Nat->Nat)(i c:Nat):Nat->Nat:=fun k=>if k=i then c else b k
theorem jCW {b:Nat->Nat}{i c:Nat} :fs b i c i=c:=ah rfl
theorem fs_ne {b:Nat->Nat}{i c k:Nat}(h:k≠i):fs b i c k=b k:=ai h
structure Sx where
 n:Nat
 a:Nat->Nat->Int
namespace Sx
variable (S:Sx)
def M (b:Nat->Nat):Nat->Nat->Int:=fun i=>S.a (b i)
def D (b:Nat->Nat):Int:=dt (S.n+1) (S.M b)
def T (b:Nat->Nat)(i c:Nat):Int:=dt (S.n+1) (rs (S.M b) i (S.a c))
variable {S}
theorem M_fs {b:Nat->Nat}{i c:Nat} :S.M (fs b i c)=rs (S.M b) i (S.a c):=by
 funext k
 unfold M fs rs
 by_cases h:k=i
 ·rw[ah h,ah h]
 ·rw[ai h,ai h]
theorem D_fs {b:Nat->Nat}{i c:Nat} :S.D (fs b i c)=S.T b i c:=by unfold D T; rw[M_fs]
def Spn (S:Sx)(b:Nat->Nat):Prop:=∀ c k,k<S.n+1->S.D b*S.a c k=sxS (S.n+1) fun i=>S.T b i c*S.a (b i) k
theorem T_bas {b:Nat->Nat}{i j:Nat}(hi:i<S.n+1)(hj:j<S.n+1):S.T b i (b j)=if i=j then S.D b else 0:=by
 unfold T D
 by_cases h:i=j
 ·rw[ah h,<- h]
  show dt _ (rs (S.M b) i (S.M b i))=_
  rw[jCE]
 ·rw[ai h]
  exact jKA h hi hj fun k _=>by rw[jAJ,qK (fun z=>h z.symm)]; rfl
theorem T_r {b:Nat->Nat}{r q c:Nat} :S.T (fs b r q) r c=S.T b r c:=by
 unfold T
 rw[M_fs,rs_rs]
theorem T_piv {b:Nat->Nat}{r q i c:Nat}(sp:Spn S b)(hr:r<S.n+1)(hi:i<S.n+1)(ne:i≠r):S.D b*S.T (fs b r q) i c=S.T b i c*S.T b r q - S.T b i q*S.T b r c:=by
 have e1:S.D b*S.T (fs b r q) i c=dt (S.n+1) (rs (S.M (fs b r q)) i fun k=>sxS (S.n+1) fun j=>S.T b j c*S.a (b j) k):=by
  have:=jDF (x:=S.D b) (y:=0) (u:=S.a c) (v:=S.a c) (M:=S.M (fs b r q)) hi
  rw[bH,bC] at this
  show S.D b*dt _ _=_
  rw[<- this]
  refine jAC fun k j _ hj=>?_
  unfold rs
  by_cases z:k=i
  ·rw[ah z,ah z,bH,bC]
   exact sp c j hj
  ·rw[ai z,ai z]
 rw[e1,jEZ hi,jNA hi hr ne fun k hk k1 k2=>?_]
 ·have a1:dt (S.n+1) (rs (S.M (fs b r q)) i (S.a (b i)))=S.T b r q:=by
   unfold T
   rw[M_fs,jB5 (fun z=>ne z.symm)]
   show dt _ (rs (rs (S.M b) i (S.M b i)) r _)=_
   rw[jCE]
  have a2:dt (S.n+1) (rs (S.M (fs b r q)) i (S.a (b r)))= - S.T b i q:=by
   unfold T
   rw[M_fs,jOS (fun z=>ne z.symm) hr hi]
   show - dt _ (rs (rs (S.M b) r (S.M b r)) i _)=_
   rw[jCE]
  rw[a1,a2]
  grind
 ·have:dt (S.n+1) (rs (S.M (fs b r q)) i (S.a (b k)))=0:=jKA k1 hk hi fun l _=>by
   rw[qK k1,jAJ,M_fs,qK k2]
   rfl
  rw[this,aV]
theorem Spn.piv {b:Nat->Nat}{r q:Nat}(sp:Spn S b)(hr:r<S.n+1)(d0:S.D b≠0):Spn S (fs b r q):=by
 intro c k hk
 rw[D_fs]
 refine eG d0 ?_
 rw[<- kY]
 have e:sxS (S.n+1) (fun i=>S.D b*(S.T (fs b r q) i c*S.a (fs b r q i) k))=sxS (S.n+1) (fun i=>S.T b r q*(S.T b i c*S.a (b i) k)+ - S.T b r c*(S.T b i q*S.a (b i) k)+if i=r then S.D b*S.T b r c*S.a q k else 0):=jH fun i hi=>by
  by_cases z:i=r
  ·subst z
   rw[ah rfl,T_r,jCW]
   grind
  ·rw[ai z,fs_ne z,<- Int.mul_assoc,T_piv sp hr hi z]
   grind
 rw[e,yC,yC,kY,kY,<- sp c k hk,<- sp q k hk,yM hr fun j _ hj=>ai hj,ah rfl]
 grind
theorem jM7 {b b':Nat->Nat}{q:Nat}(sp:Spn S b)(hO:b S.n=b' S.n):S.D b*S.T b' S.n q - sxS S.n (fun i=>S.T b i q*S.T b' S.n (b i))=S.T b S.n q*S.D b':=by
 have hn:S.n<S.n+1:=aF _
 have e1:dt (S.n+1) (rs (S.M b') S.n fun k=>S.D b*S.a q k)=S.D b*S.T b' S.n q:=by
  have:=jDF (x:=S.D b) (y:=0) (u:=S.a q) (v:=S.a q) (M:=S.M b') hn
  rw[bH,bC] at this
  show _=S.D b*dt _ _
  rw[<- this]
  refine jAC fun k j _ hj=>?_
  unfold rs
  by_cases z:k=S.n
  ·rw[ah z,ah z,bH,bC]
  ·rw[ai z,ai z]
 have e2:dt (S.n+1) (rs (S.M b') S.n fun k=>S.D b*S.a q k)=dt (S.n+1) (rs (S.M b') S.n fun k=>sxS (S.n+1) fun i=>S.T b i q*S.a (b i) k):=jAC fun k j _ hj=>by
  unfold rs
  by_cases z:k=S.n
  ·rw[ah z,ah z]; exact sp q j hj
  ·rw[ai z,ai z]
 rw[jEZ hn] at e2
 have e3:sxS (S.n+1) (fun k=>S.T b k q*dt (S.n+1) (rs (S.M b') S.n (S.a (b k))))=sxS S.n (fun i=>S.T b i q*S.T b' S.n (b i))+S.T b S.n q*dt (S.n+1) (rs (S.M b') S.n (S.a (b S.n))):=rfl
 have e4:dt (S.n+1) (rs (S.M b') S.n (S.a (b S.n)))=S.D b':=by
  rw[hO]
  show dt _ (rs (S.M b') S.n (S.M b' S.n))=_
  rw[jCE]
  rfl
 rw[e4] at e3
 omega
end Sx
end Eo
end
section
namespace Eo
namespace Sx
structure Prob where
 S:Sx
 N:Nat
 R:Nat
 Om:Nat
variable (P:Prob)
abbrev Prob.T (b:Nat->Nat)(i c:Nat):Int:=P.S.T b i c
abbrev Prob.D (b:Nat->Nat):Int:=P.S.D b
abbrev Prob.n:Nat:=P.S.n
structure Val (b:Nat->Nat):Prop where
 sp:Spn P.S b
 d:0<P.D b
 f:∀ i,i<P.n->0<=P.T b i P.R
 lt:∀ i,i<P.n->b i<P.N
 om:b P.n=P.Om
structure Ent (b:Nat->Nat)(q:Nat):Prop where
 lt:q<P.N
 neg:P.T b P.n q<0
 low:∀ j,j<q->0<=P.T b P.n j
structure Lev (b:Nat->Nat)(q r:Nat):Prop where
 lt:r<P.n
 pos:0<P.T b r q
 best:∀ i,i<P.n->0<P.T b i q->P.T b r P.R*P.T b i q<P.T b i P.R*P.T b r q\/(P.T b r P.R*P.T b i q=P.T b i P.R*P.T b r q/\b r<=b i)
def Stp (b b':Nat->Nat):Prop:=∃ q r,Ent P b q/\Lev P b q r/\b'=fs b r q
variable {P}
theorem Val.inj {b:Nat->Nat}(v:Val P b){i j:Nat}(hi:i<P.n)(hj:j<P.n)(h:b i=b j):i=j:=bV fun ne=>by
 have e:=T_bas (S:=P.S) (b:=b) (i:=i) (j:=i) (aq hi) (aq hi)
 rw[ah rfl] at e
 have e2:=T_bas (S:=P.S) (b:=b) (i:=i) (j:=j) (aq hi) (aq hj)
 rw[ai ne,<- h,e] at e2
 have:0<P.S.D b:=v.d
 omega
theorem jH8 {b:Nat->Nat}{i:Nat}(hi:i<P.n):P.T b P.n (b i)=0:=by
 have e:=T_bas (S:=P.S) (b:=b) (i:=P.n) (j:=i) (aF _) (aq hi)
 rw[ai (bN hi)] at e
 exact e
theorem Val.step {b:Nat->Nat}{q r:Nat}(v:Val P b)(e:Ent P b q)(l:Lev P b q r):Val P (fs b r q):=by
 have hr:r<P.S.n+1:=aq l.lt
 have d0:P.S.D b≠0:=by have:0<P.S.D b:=v.d; omega
 refine⟨v.sp.piv hr d0,?_,fun i hi=>?_,fun i hi=>?_,?_⟩
 ·show 0<P.S.D (fs b r q)
  rw[D_fs]
  exact l.pos
 ·show 0<=P.S.T (fs b r q) i P.R
  by_cases z:i=r
  ·rw[z,T_r]; exact v.f r l.lt
  ·have h:=T_piv (q:=q) (c:=P.R) v.sp hr (aq hi) z
   have key:0<=P.S.D b*P.S.T (fs b r q) i P.R:=by
    rw[h]
    by_cases p:0<P.S.T b i q
    ·have:=l.best i hi p
     have c:=bB (P.S.T b r P.R) (P.S.T b i q)
     have this:P.S.T b r P.R*P.S.T b i q<P.S.T b i P.R*P.S.T b r q\/(P.S.T b r P.R*P.S.T b i q=P.S.T b i P.R*P.S.T b r q/\b r<=b i):=this
     omega
    ·have a:0<=P.S.T b i P.R*P.S.T b r q:=el (v.f i hi) (bG l.pos)
     have b2:P.S.T b i q*P.S.T b r P.R<=0:=bO (by omega) (v.f r l.lt)
     omega
   exact eH (a:=P.S.D b) (by rw[aV]; exact key) v.d
 ·by_cases z:i=r
  ·rw[z,jCW]; exact e.lt
  ·rw[fs_ne z]; exact v.lt i hi
 ·have:P.n≠r:=bN l.lt
  rw[fs_ne this]
  exact v.om
theorem Val.stp {b b':Nat->Nat}(v:Val P b)(h:Stp P b b'):Val P b':=by
 obtain⟨q,r,e,l,rfl⟩:=h
 exact v.step e l
theorem cross {a b c x y z:Int}(hb:0<y)(hx:0<x)(hz:0<z)(h1:a*y<=b*x)(h2:b*z<=c*y):a*z<=c*x:=by
 have e1:=br h1 (bG hz)
 have e2:=br h2 (bG hx)
 refine eH (a:=y) ?_ hb
 have e3:a*y*z=y*(a*z):=by grind
 have e4:b*x*z=b*z*x:=by grind
 have e5:c*y*x=y*(c*x):=by grind
 omega
theorem jMR {p:Nat->Prop} :∀ (N:Nat),(∃ c,p c)->(∀ c,p c->c<N)->∃ t,p t/\∀ c,p c->c<=t
 | 0,⟨c,h⟩,hN=>absurd (hN c h) (bm _)
 | N+1,ex,hN=>by
  by_cases h:p N
  ·exact⟨N,h,fun c hc=>Nat.le_of_lt_succ (hN c hc)⟩
  ·exact jMR N ex fun c hc=>by
    have:=hN c hc
    have:c≠N:=fun z=>h (z ▸ hc)
    omega
theorem jLP {h:Nat->Nat->Nat}{L:Nat}(L0:0<L)(per:∀ k,h (k+L)=h k)(v0:Val P (h 0))(st:∀ k,Stp P (h k) (h (k+1))):False:=by
 have v:∀ k,Val P (h k):=fun k=>by
  induction k with
  | zero=>exact v0
  | succ k ih=>exact ih.stp (st k)
 obtain⟨q,hq⟩:=ft st
 obtain⟨r,hr⟩:=ft hq
 have hE:∀ k,Ent P (h k) (q k):=fun k=>(hr k).1
 have hL:∀ k,Lev P (h k) (q k) (r k):=fun k=>(hr k).2.1
 have hS:∀ k,h (k+1)=fs (h k) (r k) (q k):=fun k=>(hr k).2.2
 have perm:∀ m k,h (k+L*m)=h k:=fun m=>by
  induction m with
  | zero=>intro k; rfl
  | succ m ih=>intro k; rw[Nat.mul_succ,<- Nat.add_assoc,per,ih]
 have gain:∀ k,P.T (h (k+1)) P.n P.R*P.D (h k)=P.T (h k) P.n P.R*P.D (h (k+1)) - P.T (h k) P.n (q k)*P.T (h k) (r k) P.R:=fun k=>by
  have e:=T_piv (S:=P.S) (q:=q k) (c:=P.R) (v k).sp (aq (hL k).lt) (aF P.S.n) (bN (hL k).lt)
  have e2:P.S.D (h (k+1))=P.S.T (h k) (r k) (q k):=by rw[hS,D_fs]
  rw[<- hS] at e
  show P.S.T (h (k+1)) P.S.n P.R*P.S.D (h k)=P.S.T (h k) P.S.n P.R*P.S.D (h (k+1)) - P.S.T (h k) P.S.n (q k)*P.S.T (h k) (r k) P.R
  rw[e2,bB,e]
 have up:∀ k m,P.T (h k) P.n P.R*P.D (h (k+m))<=P.T (h (k+m)) P.n P.R*P.D (h k):=fun k m=>by
  induction m with
  | zero=>exact eW _
  | succ m ih=>
   refine cross (v (k+m)).d (v k).d (v (k+m+1)).d ih ?_
   have g:=gain (k+m)
   have:P.T (h (k+m)) P.n (q (k+m))*P.T (h (k+m)) (r (k+m)) P.R<=0:=bO (bG (hE (k+m)).neg) ((v (k+m)).f _ (hL (k+m)).lt)
   show P.T (h (k+m)) P.n P.R*P.D (h (k+m+1))<=P.T (h (k+m+1)) P.n P.R*P.D (h (k+m))
   omega
 have deg:∀ k,P.T (h k) (r k) P.R=0:=fun k=>bV fun ne=>by
  have x0:=(v k).f _ (hL k).lt
  have x1:0<P.T (h k) (r k) P.R:=by omega
  have g:=gain k
  have s:P.T (h k) P.n (q k)*P.T (h k) (r k) P.R<0:=eJ (hE k).neg x1
  have u:=up (k+1) (L - 1)
  rw[show k+1+(L - 1)=k+L by omega,per] at u
  omega
 let mem:Nat->Nat->Prop:=fun k c=>∃ i,i<P.n/\h k i=c
 have mper:∀ k m c,mem (k+L*m) c↔mem k c:=fun k m c=>by show (∃ i,_/\h (k+L*m) i=c)↔_; rw[perm]
 have qin:∀ k,mem (k+1) (q k):=fun k=>⟨r k,(hL k).lt,by rw[hS,jCW]⟩
 have qout:∀ k,¬ mem k (q k):=fun k ⟨i,hi,e⟩=>by
  have:=jH8 (P:=P) (b:=h k) hi
  rw[e] at this
  have:=(hE k).neg
  omega
 have m1:∀ k c,mem (k+1) c->mem k c\/c=q k:=fun k c ⟨i,hi,e⟩=>by
  rw[hS] at e
  by_cases z:i=r k
  ·rw[z,jCW] at e; exact .inr e.symm
  ·rw[fs_ne z] at e; exact .inl ⟨i,hi,e⟩
 have m2:∀ k c,mem k c->mem (k+1) c\/c=h k (r k):=fun k c ⟨i,hi,e⟩=>by
  by_cases z:i=r k
  ·rw[z] at e; exact .inr e.symm
  ·exact .inl ⟨i,hi,by rw[hS,fs_ne z]; exact e⟩
 let fick:Nat->Prop:=fun c=>∃ k,q k=c
 have enters:∀ c m l,¬ mem l c->mem (l+m) c->fick c:=fun c m=>by
  induction m with
  | zero=>intro l a b; exact absurd b a
  | succ m ih=>
   intro l a b
   rcases m1 _ _ b with z | z
   ·exact ih l a z
   ·exact⟨_,z.symm⟩
 have leaves:∀ c m l,mem l c->¬ mem (l+m) c->∃ k,h k (r k)=c:=fun c m=>by
  induction m with
  | zero=>intro l a b; exact absurd a b
  | succ m ih=>
   intro l a b
   by_cases z:mem (l+m) c
   ·rcases m2 _ _ z with y | y
    ·exact absurd y b
    ·exact⟨_,y.symm⟩
   ·exact ih l a z
 have fk:∀ k l c,mem k c->¬ mem l c->fick c:=fun k l c a b=>by
  have:mem (k+L*l) c:=(mper k l c).mpr a
  have le:l<=k+L*l:=by
   have:l*1<=l*L:=bT l L0
   rw[dW L l]
   omega
  refine enters c (k+L*l - l) l b ?_
  rw[show l+(k+L*l - l)=k+L*l by omega]
  exact this
 obtain⟨t,⟨k2,ht⟩,tmax⟩:=jMR (p:=fick) P.N ⟨q 0,0,rfl⟩ fun c ⟨k,e⟩=>e ▸ (hE k).lt
 obtain⟨k1,e1⟩:=leaves t (L - 1) (k2+1) (ht ▸ qin k2) (by
  rw[show k2+1+(L - 1)=k2+L by omega]
  show ¬ ∃ i,_/\h (k2+L) i=t
  rw[per]
  exact ht ▸ qout k2)
 have zf:∀ c m l,(∀ i,i<P.n->h l i=c->P.T (h l) i P.R=0)->∀ i,i<P.n->h (l+m) i=c->P.T (h (l+m)) i P.R=0:=fun c m=>by
  induction m with
  | zero=>intro l a; exact a
  | succ m ih=>
   intro l a i hi e
   have b:=ih l a
   show P.S.T (h (l+m+1)) i P.R=0
   have e:h (l+m+1) i=c:=e
   rw[hS] at e ⊢
   by_cases z:i=r (l+m)
   ·rw[z,T_r]; exact deg (l+m)
   ·rw[fs_ne z] at e
    have g:=T_piv (S:=P.S) (q:=q (l+m)) (c:=P.R) (v (l+m)).sp (aq (hL (l+m)).lt) (aq hi) z
    have g1:P.S.T (h (l+m)) i P.R=0:=b i hi e
    have g2:P.S.T (h (l+m)) (r (l+m)) P.R=0:=deg (l+m)
    rw[g1,g2,bH,aV] at g
    have d:0<P.S.D (h (l+m)):=(v (l+m)).d
    rcases Int.mul_eq_zero.mp (show P.S.D (h (l+m))*_=0 from g) with y | y
    ·omega
    ·exact y
 have zer:∀ c,fick c->∀ k i,i<P.n->h k i=c->P.T (h k) i P.R=0:=fun c ⟨k0,e0⟩ k i hi e=>by
  have le:k0<=k+L*k0:=by
   have:k0*1<=k0*L:=bT k0 L0
   rw[dW L k0]
   omega
  have:=zf c (k+L*k0 - k0) k0 (fun i hi e=>absurd ⟨i,hi,e.trans e0.symm⟩ (qout k0)) i hi
  rw[show k0+(k+L*k0 - k0)=k+L*k0 by omega,perm] at this
  exact this e
 have c2t:P.T (h k2) P.n t<0:=ht ▸ (hE k2).neg
 have c2l:∀ j,j<t->0<=P.T (h k2) P.n j:=ht ▸ (hE k2).low
 have tin:mem k1 t:=⟨r k1,(hL k1).lt,e1⟩
 have q1t:q k1<t:=by
  have:=tmax _ ⟨k1,rfl⟩
  have:q k1≠t:=fun z=>qout k1 (z ▸ tin)
  omega
 have two:=jM7 (S:=P.S) (b:=h k1) (b':=h k2) (q:=q k1) (v k1).sp ((v k1).om.trans (v k2).om.symm)
 have neg:P.S.T (h k1) P.S.n (q k1)*P.S.D (h k2)<0:=eJ (hE k1).neg (v k2).d
 have pos:0<=P.S.D (h k1)*P.S.T (h k2) P.S.n (q k1):=el (bG (v k1).d) (c2l _ q1t)
 obtain⟨i,hi,hp⟩:=jGD (n:=P.S.n) (f:=fun i=>P.S.T (h k1) i (q k1)*P.S.T (h k2) P.S.n (h k1 i)) (by omega)
 have hp:0<P.T (h k1) i (q k1)*P.T (h k2) P.n (h k1 i):=hp
 by_cases ir:i=r k1
 ·rw[ir,e1] at hp
  have:=Int.mul_neg_of_pos_of_neg (hL k1).pos c2t
  omega
 ·have nz:P.T (h k2) P.n (h k1 i)≠0:=fun z=>by rw[z,aV] at hp; omega
  have nm:¬ mem k2 (h k1 i):=fun ⟨j,hj,e⟩=>nz (by rw[<- e]; exact jH8 hj)
  have fj:fick (h k1 i):=fk k1 k2 _ ⟨i,hi,rfl⟩ nm
  have jt:h k1 i<t:=by
   have:=tmax _ fj
   have:h k1 i≠t:=fun z=>ir ((v k1).inj hi (hL k1).lt (z.trans e1.symm))
   omega
  have cj:=c2l _ jt
  have tp:0<P.T (h k1) i (q k1):=bV fun y=>by
   have:P.T (h k1) i (q k1)*P.T (h k2) P.n (h k1 i)<=0:=bO (by omega) cj
   omega
  have x1:=zer _ fj k1 i hi rfl
  have x2:=deg k1
  rcases (hL k1).best i hi tp with y | ⟨y,y2⟩
  ·rw[x1,x2,bH,bH] at y; omega
  ·rw[e1] at y2; omega
def Chn (P:Prob)(m:Nat)(b:Nat->Nat):Prop:=∃ g:Nat->Nat->Nat,g 0=b/\∀ k,k<m->Stp P (g k) (g (k+1))
theorem Chn.more {m:Nat}{b b':Nat->Nat}(s:Stp P b b')(c:Chn P m b'):Chn P (m+1) b:=by
 obtain⟨g,g0,gs⟩:=c
 refine⟨fun k=>match k with | 0=>b | k+1=>g k,rfl,fun k hk=>?_⟩
 cases k with
 | zero=>show Stp P b (g 0); rw[g0]; exact s
 | succ k=>exact gs k (by omega)
theorem Chn.zero (b:Nat->Nat):Chn P 0 b:=⟨fun _=>b,rfl,fun k hk=>absurd hk (bm _)⟩
def encB (N:Nat):Nat->(Nat->Nat)->Nat
 | 0,_=>0
 | n+1,b=>encB N n b*N+b n
theorem jK9 {N:Nat} :∀ {n:Nat}{b:Nat->Nat},(∀ i,i<n->b i<N)->encB N n b<N ^ n
 | 0,_,_=>Nat.one_pos
 | n+1,b,h=>by
  have a:=jK9 (n:=n) fun i hi=>h i (aq hi)
  have c:=h n (aF n)
  show encB N n b*N+b n<N ^ n*N
  have:(encB N n b+1)*N<=N ^ n*N:=cX _ a
  rw[gN] at this
  omega
theorem jH3 {N:Nat} :∀ {n:Nat}{b b':Nat->Nat},(∀ i,i<n->b i<N)->(∀ i,i<n->b' i<N)->encB N n b=encB N n b'->∀ i,i<n->b i=b' i
 | 0,_,_,_,_,_=>fun i hi=>absurd hi (bm _)
 | n+1,b,b',h,h',e=>by
  have c:=h n (aF n)
  have c':=h' n (aF n)
  have e:encB N n b*N+b n=encB N n b'*N+b' n:=e
  have em:b n=b' n:=by
   have:(encB N n b*N+b n) % N=(encB N n b'*N+b' n) % N:=bP (· % N) e
   rw[eB,eB,cI c,cI c'] at this
   exact this
  have ed:encB N n b=encB N n b':=by
   rw[em] at e
   exact Nat.eq_of_mul_eq_mul_right (by omega) (Nat.add_right_cancel e)
  have ih:=jH3 (n:=n) (fun i hi=>h i (aq hi)) (fun i hi=>h' i (aq hi)) ed
  intro i hi
  by_cases z:i=n
  ·rw[z]; exact em
  ·exact ih i (by omega)
theorem jMO:∀ (M:Nat) (f:Nat->Nat),(∀ k,k<=M->f k<M)->∃ i j,i<j/\j<=M/\f i=f j
 | 0,f,h=>absurd (h 0 (af _)) (bm _)
 | M+1,f,h=>by
  by_cases ex:∃ i,i<M+1/\f i=f (M+1)
  ·obtain⟨i,hi,e⟩:=ex
   exact⟨i,M+1,hi,af _,e⟩
  ·have ne:∀ i,i<M+1->f i≠f (M+1):=fun i hi e=>ex ⟨i,hi,e⟩
   have top:=h (M+1) (af _)
   obtain⟨i,j,hij,hj,e⟩:=jMO M (fun k=>if f k<f (M+1) then f k else f k - 1) fun k hk=>by
    have a:=h k (by omega)
    have b:=ne k (by omega)
    show (if f k<f (M+1) then f k else f k - 1)<M
    split <;> omega
   refine⟨i,j,hij,by omega,?_⟩
   have a:=ne i (by omega)
   have b:=ne j (by omega)
   have e:(if f i<f (M+1) then f i else f i - 1)=if f j<f (M+1) then f j else f j - 1:=e
   split at e <;> split at e <;> omega
theorem no_chain {b:Nat->Nat}(v:Val P b):¬ Chn P (P.N ^ P.n) b:=by
 rintro ⟨g,g0,gs⟩
 have vs:∀ k,k<=P.N ^ P.n->Val P (g k):=fun k=>by
  induction k with
  | zero=>intro _; rw[g0]; exact v
  | succ k ih=>intro hk; exact(ih (by omega)).stp (gs k (by omega))
 obtain⟨i,j,hij,hj,e⟩:=jMO (P.N ^ P.n) (fun k=>encB P.N P.n (g k)) fun k hk=>jK9 (vs k hk).lt
 have far:∀ k,k<=P.N ^ P.n->∀ l,P.n<=l->g k l=b l:=fun k=>by
  induction k with
  | zero=>intro _ l _; rw[g0]
  | succ k ih=>
   intro hk l hl
   obtain⟨q,r,_,lv,e⟩:=gs k (by omega)
   rw[e,fs_ne (by have:=lv.lt; omega)]
   exact ih (by omega) l hl
 have eg:g i=g j:=by
  funext l
  by_cases hl:l<P.n
  ·exact jH3 (vs i (by omega)).lt (vs j hj).lt e l hl
  ·rw[far i (by omega) l (by omega),far j hj l (by omega)]
 refine jLP (P:=P) (h:=fun k=>g (i+k % (j - i))) (L:=j - i) (by omega) (fun k=>?_) ?_ fun k=>?_
 ·show g (i+(k+(j - i)) % (j - i))=g (i+k % (j - i))
  rw[Nat.add_mod_right]
 ·show Val P (g (i+0 % (j - i)))
  rw[Nat.zero_mod]
  exact vs i (by omega)
 ·have hm:=gF k (show 0<j - i by omega)
  have s:=gs (i+k % (j - i)) (by omega)
  show Stp P (g (i+k % (j - i))) (g (i+(k+1) % (j - i)))
  have e2:g (i+(k+1) % (j - i))=g (i+k % (j - i)+1):=by
   by_cases z:k % (j - i)+1=j - i
   ·have:(k+1) % (j - i)=0:=by
     by_cases o:j - i=1
     ·rw[o,Nat.mod_one]
     ·rw[Nat.add_mod,cI (show 1<j - i by omega),z,Nat.mod_self]
    rw[this,Nat.add_zero,eg]
    congr 1
    omega
   ·have:(k+1) % (j - i)=k % (j - i)+1:=by
     rw[Nat.add_mod,cI (show k % (j - i)+1 % (j - i)<j - i by
      by_cases o:j - i=1
      ·omega
      ·rw[cI (show 1<j - i by omega)]; omega)]
     by_cases o:j - i=1
     ·omega
     ·rw[cI (show 1<j - i by omega)]
    rw[this]
    rfl
  rw[e2]
  exact s
end Sx
end Eo
end
section
namespace Eo
namespace Sx
theorem sxS_swap (f:Nat->Nat->Int)(m:Nat):∀ n,sxS n (fun i=>sxS m fun j=>f i j)=sxS m fun j=>sxS n fun i=>f i j
 | 0=>(jA5 fun _ _=>rfl).symm
 | n+1=>by
  show sxS n (fun i=>sxS m fun j=>f i j)+sxS m (fun j=>f n j)=sxS m fun j=>sxS n (fun i=>f i j)+f n j
  rw[sxS_swap f m n,yC]
theorem jFJ (f:Nat->Int)(p:Nat):∀ n,sxS (p+n) f=sxS p f+sxS n fun k=>f (p+k)
 | 0=>(bC _).symm
 | n+1=>by
  show sxS (p+n) f+f (p+n)=sxS p f+(sxS n (fun k=>f (p+k))+f (p+n))
  rw[jFJ f p n]
  omega
structure Bx where
 n:Nat
 p:Nat
 inn:Nat->Nat->Bool
 co:Nat->Int
namespace Bx
variable (B:Bx)
def col (c k:Nat):Int:=
 if c<B.p then (if k<B.n then (if B.inn c k=true then 1 else 0) else B.co c)
 else if c<B.p+B.n then (if k=c - B.p then 1 else 0)
 else if c=B.p+B.n then (if k<B.n then 1 else 0)
 else if k=B.n then 1 else 0
def P:Prob:=⟨⟨B.n,B.col⟩,B.p+B.n,B.p+B.n,B.p+B.n+1⟩
def b0:Nat->Nat:=fun i=>if i<B.n then B.p+i else B.p+B.n+1
variable {B}
theorem col_p {c k:Nat}(h:c<B.p)(hk:k<B.n):B.col c k=if B.inn c k=true then 1 else 0:=by
 unfold col
 rw[ah h,ah hk]
theorem col_c {c:Nat}(h:c<B.p):B.col c B.n=B.co c:=by
 unfold col
 rw[ah h,ai (bc _)]
theorem col_s {j k:Nat}(h:j<B.n):B.col (B.p+j) k=if k=j then 1 else 0:=by
 unfold col
 rw[ai (by omega),ah (by omega),Nat.add_sub_cancel_left]
theorem col_r {k:Nat} :B.col (B.p+B.n) k=if k<B.n then 1 else 0:=by
 unfold col
 rw[ai (by omega),ai (by omega),ah rfl]
theorem col_o {k:Nat} :B.col (B.p+B.n+1) k=if k=B.n then 1 else 0:=by
 unfold col
 rw[ai (by omega),ai (by omega),ai (by omega)]
theorem M0 {i k:Nat}(hi:i<B.n+1):B.P.S.M B.b0 i k=dlt i k:=by
 show B.col (B.b0 i) k=dlt i k
 unfold b0 dlt
 by_cases h:i<B.n
 ·rw[ah h,col_s h]
  by_cases z:k=i
  ·rw[ah z,ah z.symm]
  ·rw[ai z,ai fun y=>z y.symm]
 ·rw[ai h,col_o]
  have:i=B.n:=by omega
  subst this
  by_cases z:k=B.n
  ·rw[ah z,ah z.symm]
  ·rw[ai z,ai fun y=>z y.symm]
theorem dt_dl {m i:Nat}{v:Nat->Int}(hi:i<m):dt m (rs dlt i v)=v i:=by
 have e:dt m (rs dlt i v)=dt m (rs dlt i fun j=>sxS m fun k=>v k*dlt k j):=jAC fun a j _ hj=>by
  unfold rs
  by_cases z:a=i
  ·rw[ah z,ah z,yM hj fun k _ hk=>by
    have:dlt k j=0:=ai hk
    rw[this,aV]]
   have:dlt j j=1:=ah rfl
   rw[this,bY]
  ·rw[ai z,ai z]
 rw[e,jEZ hi,yM hi fun k hk ne=>by
  have:dt m (rs dlt i (dlt k))=0:=jKA (fun z=>ne z.symm) hi hk fun j _=>by rw[jAJ,qK ne]
  rw[this,aV],jCE,dt_id,bY]
theorem D0:B.P.D B.b0=1:=by
 show dt (B.n+1) (B.P.S.M B.b0)=1
 rw[jAC (N:=dlt) fun i k hi _=>M0 hi,dt_id]
theorem T0 {i c:Nat}(hi:i<B.n+1):B.P.T B.b0 i c=B.col c i:=by
 show dt (B.n+1) (rs (B.P.S.M B.b0) i (B.col c))=_
 rw[jAC (N:=rs dlt i (B.col c)) fun a k ha _=>by
  unfold rs
  by_cases z:a=i
  ·rw[ah z,ah z]
  ·rw[ai z,ai z]; exact M0 ha]
 exact dt_dl hi
theorem val0:Val B.P B.b0:=by
 refine⟨fun c k hk=>?_,by rw[D0]; decide,fun i hi=>?_,fun i hi=>?_,?_⟩
 ·have hk:k<B.n+1:=hk
  show B.P.D B.b0*B.col c k=sxS (B.n+1) fun i=>B.P.T B.b0 i c*B.P.S.M B.b0 i k
  rw[D0,gt,yM (i:=k) hk fun i hi ne=>by
   have:dlt i k=0:=ai ne
   rw[M0 hi,this,aV]]
  have:dlt k k=1:=ah rfl
  rw[M0 hk,this,bY,T0 hk]
 ·have hi:i<B.n:=hi
  show 0<=B.P.T B.b0 i (B.p+B.n)
  rw[T0 (by omega),col_r,ah hi]
  decide
 ·have hi:i<B.n:=hi
  show B.b0 i<B.p+B.n
  unfold b0
  rw[ah hi]
  omega
 ·show B.b0 B.n=_
  unfold b0
  rw[ai (bc _)]
  rfl
theorem jQN {c k:Nat}(hc:c<B.p+B.n)(hk:k<B.n):0<=B.col c k:=by
 by_cases h:c<B.p
 ·rw[col_p h hk]
  split <;> decide
 ·have:c=B.p+(c - B.p):=by omega
  rw[this,col_s (by omega)]
  split <;> decide
section
variable (ne:∀ c,c<B.p->∃ k,k<B.n/\B.inn c k=true)
include ne
theorem some_row {b:Nat->Nat}{q:Nat}(v:Val B.P b)(hq:q<B.p+B.n):∃ i,i<B.n/\0<B.P.T b i q:=bV fun no=>by
 have np:∀ i,i<B.n->B.P.T b i q<=0:=fun i hi=>by
  have:¬ 0<B.P.T b i q:=fun z=>no ⟨i,hi,z⟩
  omega
 obtain⟨k,hk,pos⟩:∃ k,k<B.n/\0<B.col q k:=by
  by_cases h:q<B.p
  ·obtain⟨k,hk,e⟩:=ne q h
   exact⟨k,hk,by rw[col_p h hk,ah e]; decide⟩
  ·refine⟨q - B.p,by omega,?_⟩
   have:q=B.p+(q - B.p):=by omega
   rw[this,col_s (by omega),ah (by omega)]
   decide
 have s:=v.sp q k (aq hk)
 have s:B.P.D b*B.col q k=sxS B.n (fun i=>B.P.T b i q*B.col (b i) k)+B.P.T b B.n q*B.col (b B.n) k:=s
 have o:b B.n=B.p+B.n+1:=v.om
 rw[o,col_o,ai (aL hk),aV,bC] at s
 have l:=jIF (n:=B.n) (f:=fun i=>B.P.T b i q*B.col (b i) k) fun i hi=>bO (np i hi) (jQN (v.lt i hi) hk)
 have:=dJ v.d pos
 omega
end
def xP (B:Bx)(b:Nat->Nat)(c:Nat):Int:=sxS B.n fun i=>if b i=c then B.P.T b i (B.p+B.n) else 0
section
variable {b:Nat->Nat}(v:Val B.P b)
include v
theorem xP_in {i:Nat}(hi:i<B.n):B.xP b (b i)=B.P.T b i (B.p+B.n):=by
 unfold xP
 rw[yM hi fun k hk ne=>ai fun z=>ne (v.inj hk hi z),ah rfl]
omit v in
theorem xP_out {c:Nat}(h:∀ i,i<B.n->b i≠c):B.xP b c=0:=jA5 fun i hi=>ai (h i hi)
theorem xP_nn (c:Nat):0<=B.xP b c:=jGF fun i hi=>by
 show 0<=if b i=c then _ else _
 split
 ·exact v.f i hi
 ·decide
theorem jME (g:Nat->Int):sxS B.n (fun i=>B.P.T b i (B.p+B.n)*g (b i))=sxS (B.p+B.n) fun c=>B.xP b c*g c:=by
 have e:sxS (B.p+B.n) (fun c=>B.xP b c*g c)=sxS (B.p+B.n) (fun c=>sxS B.n fun i=>if b i=c then B.P.T b i (B.p+B.n)*g c else 0):=jH fun c _=>by
  unfold xP
  rw[bB,<- kY]
  refine jH fun i _=>?_
  by_cases z:b i=c
  ·rw[ah z,ah z,bB]
  ·rw[ai z,ai z,aV]
 rw[e,sxS_swap]
 refine jH fun i hi=>?_
 rw[yM (n:=B.p+B.n) (i:=b i) (v.lt i hi) fun c _ ne=>ai fun z=>ne z.symm,ah rfl]
theorem prim {k:Nat}(hk:k<B.n):sxS B.p (fun c=>if B.inn c k=true then B.xP b c else 0)+B.xP b (B.p+k)=B.P.D b:=by
 have s:=v.sp (B.p+B.n) k (aq hk)
 have s:B.P.D b*B.col (B.p+B.n) k=sxS B.n (fun i=>B.P.T b i (B.p+B.n)*B.col (b i) k)+B.P.T b B.n (B.p+B.n)*B.col (b B.n) k:=s
 have o:b B.n=B.p+B.n+1:=v.om
 rw[o,col_o,ai (aL hk),aV,bC,col_r,ah hk,bY,jME v fun c=>B.col c k,jFJ] at s
 rw[s]
 congr 1
 ·refine jH fun c hc=>?_
  rw[col_p hc hk]
  by_cases z:B.inn c k=true
  ·rw[ah z,ah z,bY]
  ·rw[ai z,ai z,aV]
 ·rw[yM (i:=k) hk fun j hj ne=>by rw[col_s hj,ai (fun z=>ne z.symm),aV],col_s hk,ah rfl,bY]
theorem t_om:B.P.T b B.n (B.p+B.n+1)=B.P.D b:=by
 have e:=T_bas (S:=B.P.S) (b:=b) (i:=B.n) (j:=B.n) (aF B.n) (aF B.n)
 have o:b B.n=B.p+B.n+1:=v.om
 rw[ah rfl,o] at e
 exact e
theorem jKG (c:Nat):B.P.T b B.n c=sxS B.n (fun k=>B.col c k*B.P.T b B.n (B.p+k))+B.col c B.n*B.P.D b:=by
 have hn:B.n<B.n+1:=aF _
 have e:B.P.T b B.n c=dt (B.n+1) (rs (B.P.S.M b) B.n fun j=>sxS (B.n+1) fun k=>B.col c k*B.col (if k<B.n then B.p+k else B.p+B.n+1) j):=jAC (n:=B.n+1) fun a j _ hj=>by
  show rs (B.P.S.M b) B.n (B.col c) a j=_
  unfold rs
  by_cases z:a=B.n
  ·rw[ah z,ah z,yM (i:=j) hj fun k hk ne=>by
    by_cases y:k<B.n
    ·rw[ah y,col_s y,ai (fun z=>ne z.symm),aV]
    ·rw[ai y,col_o,ai (by omega),aV]]
   by_cases y:j<B.n
   ·rw[ah y,col_s y,ah rfl,bY]
   ·rw[ai y,col_o,ah (by omega),bY]
  ·rw[ai z,ai z]
 rw[e,jEZ hn]
 show sxS B.n _+B.col c B.n*dt (B.n+1) (rs (B.P.S.M b) B.n (B.col (if B.n<B.n then B.p+B.n else B.p+B.n+1)))=_
 rw[ai (bc _)]
 congr 1
 ·refine jH fun k hk=>?_
  rw[ah hk]
  rfl
 ·rw[<- t_om v]
  rfl
theorem value:B.P.T b B.n (B.p+B.n)= - sxS B.p fun c=>B.xP b c*B.co c:=by
 have s:=v.sp (B.p+B.n) B.n (aF _)
 have s:B.P.D b*B.col (B.p+B.n) B.n=sxS B.n (fun i=>B.P.T b i (B.p+B.n)*B.col (b i) B.n)+B.P.T b B.n (B.p+B.n)*B.col (b B.n) B.n:=s
 have o:b B.n=B.p+B.n+1:=v.om
 rw[o,col_o,ah rfl,bY,col_r,ai (bc _),aV,jME v fun c=>B.col c B.n,jFJ] at s
 have z:sxS B.n (fun k=>B.xP b (B.p+k)*B.col (B.p+k) B.n)=0:=jA5 fun k hk=>by rw[col_s hk,ai (bN hk),aV]
 have y:sxS B.p (fun c=>B.xP b c*B.col c B.n)=sxS B.p fun c=>B.xP b c*B.co c:=jH fun c hc=>by rw[col_c hc]
 rw[z,y] at s
 omega
end
structure Ms (B:Bx) where
 mu:Nat->Bool
 wt:Nat->Int
 lk:Int
 eq:∀ c,c<B.p->B.co c=wt c - lk*sxS B.n fun k=>if B.inn c k=true/\mu k=true then 1 else 0
def yP (m:Ms B)(b:Nat->Nat)(k:Nat):Int:=(if m.mu k=true then m.lk*B.P.D b else 0) - B.P.T b B.n (B.p+k)
section
variable {b:Nat->Nat}(v:Val B.P b)(op:∀ c,c<B.p+B.n->0<=B.P.T b B.n c)
include v op
theorem dual_c (m:Ms B){c:Nat}(hc:c<B.p):sxS B.n (fun k=>if B.inn c k=true then yP m b k else 0)<=B.P.D b*m.wt c:=by
 have e:=jKG v c
 have o:=op c (by omega)
 rw[e,col_c hc,m.eq c hc] at o
 have e1:sxS B.n (fun k=>B.col c k*B.P.T b B.n (B.p+k))=sxS B.n fun k=>if B.inn c k=true then B.P.T b B.n (B.p+k) else 0:=jH fun k hk=>by
  rw[col_p hc hk]
  by_cases z:B.inn c k=true
  ·rw[ah z,ah z,gt]
  ·rw[ai z,ai z,bH]
 have e2:sxS B.n (fun k=>if B.inn c k=true then yP m b k else 0)=sxS B.n (fun k=>m.lk*B.P.D b*(if B.inn c k=true/\m.mu k=true then 1 else 0))+ - sxS B.n fun k=>if B.inn c k=true then B.P.T b B.n (B.p+k) else 0:=by
  rw[<- jBP,<- yC]
  refine jH fun k _=>?_
  unfold yP
  by_cases z:B.inn c k=true
  ·rw[ah z,ah z]
   by_cases y:m.mu k=true
   ·rw[ah y,ah ⟨z,y⟩]; omega
   ·rw[ai y,ai fun q=>y q.2]; omega
  ·rw[ai z,ai z,ai fun q=>z q.1]; omega
 rw[e1] at o
 rw[e2,kY]
 generalize sxS B.n (fun k=>if B.inn c k=true/\m.mu k=true then (1:Int) else 0)=s at o ⊢
 generalize sxS B.n (fun k=>if B.inn c k=true then B.P.T b B.n (B.p+k) else 0)=u at o ⊢
 generalize B.P.D b=d at o ⊢
 have:(m.wt c - m.lk*s)*d=d*m.wt c - m.lk*d*s:=by grind
 omega
theorem dual_m (m:Ms B){k:Nat}(hk:k<B.n)(h:m.mu k=false):yP m b k<=0:=by
 have:=op (B.p+k) (by omega)
 unfold yP
 rw[h,ai (by decide)]
 omega
theorem dual_s (m:Ms B):sxS B.n (yP m b)=m.lk*sxS B.n (fun k=>if m.mu k=true then B.xP b (B.p+k) else 0)+sxS B.p fun c=>B.xP b c*m.wt c:=by
 have val:=value v
 have cb:=jKG v (B.p+B.n)
 rw[col_r,ai (bc _),bH,bC] at cb
 have e1:sxS B.n (fun k=>B.col (B.p+B.n) k*B.P.T b B.n (B.p+k))=sxS B.n fun k=>B.P.T b B.n (B.p+k):=jH fun k hk=>by rw[col_r,ah hk,gt]
 rw[e1] at cb
 have e2:sxS B.n (yP m b)=sxS B.n (fun k=>if m.mu k=true then m.lk*B.P.D b else 0)+ - sxS B.n fun k=>B.P.T b B.n (B.p+k):=by
  rw[<- jBP,<- yC]
  exact jH fun k _=>by unfold yP; omega
 have e3:sxS B.n (fun k=>if m.mu k=true then m.lk*B.P.D b else 0)=m.lk*sxS B.n (fun k=>if m.mu k=true then B.xP b (B.p+k) else 0)+m.lk*sxS B.n fun k=>if m.mu k=true then sxS B.p (fun c=>if B.inn c k=true then B.xP b c else 0) else 0:=by
  rw[<- kY,<- kY,<- yC]
  refine jH fun k hk=>?_
  by_cases z:m.mu k=true
  ·rw[ah z,ah z,ah z,<- prim v hk,Int.mul_add]; omega
  ·rw[ai z,ai z,ai z]; omega
 have e4:sxS B.p (fun c=>B.xP b c*B.co c)=sxS B.p (fun c=>B.xP b c*m.wt c)+ - (m.lk*sxS B.p fun c=>B.xP b c*sxS B.n fun k=>if B.inn c k=true/\m.mu k=true then 1 else 0):=by
  rw[<- kY,<- jBP,<- yC]
  refine jH fun c hc=>?_
  rw[m.eq c hc]
  grind
 have e5:sxS B.p (fun c=>B.xP b c*sxS B.n fun k=>if B.inn c k=true/\m.mu k=true then 1 else 0)=sxS B.n fun k=>if m.mu k=true then sxS B.p (fun c=>if B.inn c k=true then B.xP b c else 0) else 0:=by
  have:sxS B.p (fun c=>B.xP b c*sxS B.n fun k=>if B.inn c k=true/\m.mu k=true then 1 else 0)=sxS B.p (fun c=>sxS B.n fun k=>B.xP b c*if B.inn c k=true/\m.mu k=true then 1 else 0):=jH fun c _=>(kY _ _ _).symm
  rw[this,sxS_swap]
  refine jH fun k _=>?_
  by_cases z:m.mu k=true
  ·rw[ah z]
   refine jH fun c _=>?_
   by_cases y:B.inn c k=true
   ·rw[ah ⟨y,z⟩,ah y,bY]
   ·rw[ai fun q=>y q.1,ai y,aV]
  ·rw[ai z]
   exact jA5 fun c _=>by rw[ai fun q=>z q.2,aV]
 rw[e2,e3,<- cb,val,e4,e5]
 omega
end
end Bx
end Sx
end Eo
end
section
namespace Eo
def sxN:Nat->(Nat->Nat)->Nat
 | 0,_=>0
 | n+1,f=>sxN n f+f n
theorem jEI:∀ {n:Nat}{f g:Nat->Nat},(∀ k,k<n->f k=g k)->sxN n f=sxN n g
 | 0,_,_,_=>rfl
 | n+1,f,g,h=>by
  show sxN n f+f n=sxN n g+g n
  rw[jEI fun k hk=>h k (aq hk),h n (aF n)]
theorem jIG (f:Nat->Nat):∀ (n j:Nat),j<=n->sxN n (fun k=>f (skp j k))+f j=sxN (n+1) f
 | 0,0,_=>rfl
 | n+1,j,h=>by
  by_cases z:j=n+1
  ·rw[z,jEI (g:=f) fun k hk=>by unfold skp; rw[ah hk]]
   rfl
  ·have ih:=jIG f n j (by omega)
   show sxN n (fun k=>f (skp j k))+f (skp j n)+f j=sxN (n+1) f+f (n+1)
   have:skp j n=n+1:=by unfold skp; rw[ai (by omega)]
   rw[this]
   omega
theorem jMH {f:Nat->Nat}{X:Nat} :∀ {n:Nat},(∀ k,k<n->f k<=X)->sxN n f<=n*X
 | 0,_=>aW _
 | n+1,h=>by
  have a:=jMH (n:=n) fun k hk=>h k (aq hk)
  have b:=h n (aF n)
  show sxN n f+f n<=_
  rw[gN]
  omega
theorem jGG {f:Nat->Int}{g:Nat->Nat}{Y:Nat} :∀ {n:Nat},(∀ k,k<n->(f k).natAbs<=g k*Y)->(sxS n f).natAbs<=sxN n g*Y
 | 0,_=>aW _
 | n+1,h=>by
  have a:=jGG (n:=n) fun k hk=>h k (aq hk)
  have b:=h n (aF n)
  show (sxS n f+f n).natAbs<=(sxN n g+g n)*Y
  rw[Nat.add_mul]
  have:=Int.natAbs_add_le (sxS n f) (f n)
  omega
theorem jFY {Y:Nat} :∀ {n:Nat}{M:Nat->Nat->Int},(∀ i,i<n->sxN n (fun j=>(M i j).natAbs)<=Y)->(dt n M).natAbs<=Y ^ n
 | 0,_,_=>af _
 | n+1,M,h=>by
  have key:(dt (n+1) M).natAbs<=sxN (n+1) (fun j=>(M 0 j).natAbs)*Y ^ n:=jGG fun j hj=>by
   rw[cY,cY,jNG,Nat.one_mul]
   refine bT _ (jFY fun i hi=>?_)
   have a:=jIG (fun k=>(M (i+1) k).natAbs) n j (by omega)
   have b:=h (i+1) (by omega)
   omega
  refine aH key ?_
  rw[Nat.pow_succ,dW (Y ^ n)]
  exact cX _ (h 0 (gP _))
namespace Sx.Bx
variable {B:Bx}
theorem jE4 {X:Nat}(hX:∀ c,c<B.p->(B.co c).natAbs<=X)(c:Nat):sxN (B.n+1) (fun k=>(B.col c k).natAbs)<=B.n+1+X:=by
 have e:∀ k,k<B.n->(B.col c k).natAbs<=1:=fun k hk=>by
  unfold col
  repeat' split
  all_goals first | decide | omega
 have a:=jMH (n:=B.n) e
 have b:(B.col c B.n).natAbs<=1+X:=by
  by_cases h:c<B.p
  ·rw[col_c h]
   have:=hX c h
   omega
  ·unfold col
   rw[ai h]
   repeat' split
   all_goals first | omega | (show (1:Int).natAbs<=_; show 1<=_; omega) | (show (0:Int).natAbs<=_; exact aW _)
 show sxN B.n _+(B.col c B.n).natAbs<=_
 omega
theorem T_abs {X:Nat}(hX:∀ c,c<B.p->(B.co c).natAbs<=X)(b:Nat->Nat)(i c:Nat):(B.P.T b i c).natAbs<=(B.n+1+X) ^ (B.n+1):=jFY (n:=B.n+1) fun k _=>by
 show sxN (B.n+1) (fun j=>(rs (B.P.S.M b) i (B.col c) k j).natAbs)<=_
 unfold rs
 by_cases z:k=i
 ·rw[ah z]; exact jE4 hX c
 ·rw[ai z]; exact jE4 hX (b k)
theorem D_abs {X:Nat}(hX:∀ c,c<B.p->(B.co c).natAbs<=X)(b:Nat->Nat):(B.P.D b).natAbs<=(B.n+1+X) ^ (B.n+1):=jFY (n:=B.n+1) fun k _=>jE4 hX (b k)
end Sx.Bx
end Eo
end
section
namespace L2
open PySem PySem.Spec PyProof.Rows
section
variable {X:Cx}{sc:Scope}{cl:List (Str×Addr)}{C:Addr}{Nc:List Str}{fp:List Addr}{s:Shared}{H:Hp}
theorem jG7:yJ (blkC X sc cl C Nc fp s H) (.builtin "len") (fun xs H Q=>∃ p ys,xs=[.ref p]/\(SqL X.K H p ys\/SqT X.K H p ys)/\Q (.int ys.length) H):=jZ
end
theorem jGW {X:Cx}{a b c:Expr}{pos:Pos}{ta tb:TE}{tc:TT}(hc:JT X c tc)(ha:JE X a ta)(hb:JE X b tb):JE X (.IfExp c a b pos) (tIf tc ta tb):=⟨jLG hc.h ha.h hb.h⟩
end L2
namespace Eo
open PySem L2
def bxO (w:Int)(ms:List Int)(pcs:List (List Int×Int))(lack:Int):Sx.Bx:=⟨w.toNat,pcs.length,fun c k=>decide ((k:Int)∈(pcs.getD c ([],0)).1),fun c=>(pcs.getD c ([],0)).2 - lack*((((mus ms w.toNat).filter fun m=>decide (m∈(pcs.getD c ([],0)).1)).length:Nat):Int)⟩
def rowI (B:Sx.Bx)(b:Nat->Nat)(i:Nat):List Int:=(List.range (B.p+B.n+1)).map fun c=>B.P.T b i c
def cstI (B:Sx.Bx)(b:Nat->Nat):List Int:=(List.range (B.p+B.n)).map fun c=>B.P.T b B.n c
def tabI (B:Sx.Bx)(b:Nat->Nat):List (List Int):=(List.range B.n).map (rowI B b)++[cstI B b]
theorem nw_of {H H':Hp}{a:Addr}(e:Ext H H')(h:H' a=none):H a=none:=by
 cases z:H a with
 | none=>rfl
 | some o=>rw[e _ _ z] at h; cases h
theorem All2.imp' {α β:Type}{R S:α->β->Prop} :∀ {as:List α}{bs:List β},All2 R as bs->(∀ a b,a∈as->R a b->S a b)->All2 S as bs
 | [],[],_,_=>trivial
 | a::as,b::bs,h,f=>⟨f a b (aA ..) h.1,All2.imp' h.2 fun x y hx=>f x y (aB _ hx)⟩
def RowA (H:Hp)(u:V)(l:List Int):Prop:=∃ a,u= .ref a/\H a=some (.lst (l.map V.int))
def TabA (H:Hp)(t:Addr)(ls:List (List Int)):Prop:=∃ us,H t=some (.lst us)/\All2 (RowA H) us ls
theorem RowA.mono {H H':Hp}{u:V}{l:List Int}(h:RowA H u l)(k:∀ a xs,H a=some (.lst xs)->H' a=some (.lst xs)):RowA H' u l:=let ⟨a,e,q⟩:=h; ⟨a,e,k _ _ q⟩
theorem TabA.ext {H H':Hp}{t:Addr}{ls:List (List Int)}(h:TabA H t ls)(e:Ext H H'):TabA H' t ls:=let ⟨us,a,b⟩:=h; ⟨us,e _ _ a,b.imp fun _ _ z=>z.mono fun _ _ q=>e _ _ q⟩
theorem jP5 {w:Int}{ms:List Int}{pcs:List (List Int×Int)}{lack:Int}{i:Nat}(hi:i<w.toNat):rowI (bxO w ms pcs lack) (bxO w ms pcs lack).b0 i=(((List.range pcs.length).map fun c=>if decide ((i:Int)∈(pcs.getD c ([],0)).1)=true then (1:Int) else 0)++(List.range w.toNat).map fun k=>if k=i then (1:Int) else 0)++[1]:=by
 have e:rowI (bxO w ms pcs lack) (bxO w ms pcs lack).b0 i=(List.range (pcs.length+w.toNat+1)).map fun c=>(bxO w ms pcs lack).col c i:=bj fun c _=>Sx.Bx.T0 (aq hi)
 rw[e,cf,aD,List.range_add,aD,bv]
 congr 1
 ·congr 1
  ·exact bj fun c hc=>Sx.Bx.col_p (B:=bxO w ms pcs lack) (aY.mp hc) hi
  ·refine bj fun k hk=>?_
   have:=Sx.Bx.col_s (B:=bxO w ms pcs lack) (k:=i) (aY.mp hk)
   refine Eq.trans this ?_
   by_cases z:k=i
   ·rw[ah z,ah z.symm]
   ·rw[ai z,ai fun y=>z y.symm]
 ·have:=Sx.Bx.col_r (B:=bxO w ms pcs lack) (k:=i)
  exact bP (fun x=> [x]) (this.trans (ah hi))
theorem jQL {w:Int}{ms:List Int}{pcs:List (List Int×Int)}{lack:Int} :cstI (bxO w ms pcs lack) (bxO w ms pcs lack).b0=((List.range pcs.length).map fun c=>(bxO w ms pcs lack).co c)++replicate w.toNat 0:=by
 have e:cstI (bxO w ms pcs lack) (bxO w ms pcs lack).b0=(List.range (pcs.length+w.toNat)).map fun c=>(bxO w ms pcs lack).col c w.toNat:=bj fun c _=>Sx.Bx.T0 (aF _)
 rw[e,List.range_add,aD,bv]
 congr 1
 ·exact bj fun c hc=>Sx.Bx.col_c (B:=bxO w ms pcs lack) (aY.mp hc)
 ·refine List.eq_replicate_iff.mpr ⟨by rw[ac,ao],fun x hx=>?_⟩
  obtain⟨k,hk,rfl⟩:=aQ.mp hx
  have hk:=aY.mp hk
  have:=Sx.Bx.col_s (B:=bxO w ms pcs lack) (k:=w.toNat) hk
  rw[ai (by omega)] at this
  exact this
section
variable {P:Program}{w:World}{K:W.Frag}{mg:Str->Option Value}{base:Heap}
variable {f fM:Addr}{fdM:FuncData}{cdv:Value}{A:Around}{outer:List Env}{s:Shared}{H0:Hp}{E:XK}
abbrev jEQ:List Str:=["box","lack","musts","table","thing","held","costs"]
theorem scFirst:FnScope jEQ ["box","lack"] (j8 yV):=⟨rfl,rfl,rfl,by decide+kernel,rfl,by decide+kernel,by decide+kernel⟩
abbrev XFir (P:Program)(w:World)(K:W.Frag)(mg:Str->Option Value)(base:Heap)(f:Addr)(cdv:Value)(A:Around)(outer:List Env)(s:Shared)(H:Hp)(E:XK):Cx:=XOf jEQ "first_table" yV P w K mg base f cdv A outer s H E
def firLA (T:Txt mg): { t:TS // JSs (XFir P w K mg base f cdv A outer s H0 E) (yQ ((jB yV).getD 2 (.Pass ⟨0,0,0,0⟩))) t} :=
 have nd:=scFirst.nd
 ⟨_,(j7 (jCQ (i:=5) nd rfl lL ⟨by rfl⟩ (m:=[none,some 4]) (Nc:=["piece","thing"]) rfl (yT (jE jG (jv 0 rfl vL) (j6) jC)) rfl (by decide+kernel) (by decide+kernel) (jW (psc:=j8 yV) (by decide+kernel)) (jI (N:=jEQ) rfl rfl (by decide+kernel)) (fun cl C fp s H=>jK (i:=0) (show (["piece","thing"]:List Str).Nodup by decide+kernel) rfl (yD (by decide+kernel))) (fun cl C fp s H=>kP) (fun cl C fp s H=>(jGW (jJ jCJ (jv 1 rfl (kJ (by decide+kernel))) (jE jAB (jv 0 rfl (kB (by decide+kernel))) (j6) jC) jCL) (j6) (j6))) qA)
   (jD (jBA (je_bm bq bL bM jA6 (jv 3 rfl vL) (j0 (jX jC6 (jX jC6 (jv 5 rfl vL) (kQ (m:=[none,some 4]) (Nc:=["other","thing"]) rfl (kT gD T.range (j0 (jE jG (jv 0 rfl vL) (j6) jC) j5 jL) jL) rfl (by decide+kernel) (by decide+kernel) (jW (psc:=j8 yV) (by decide+kernel)) (jI (N:=jEQ) rfl rfl (by decide+kernel)) (fun cl C fp s H=>jK (i:=0) (show (["other","thing"]:List Str).Nodup by decide+kernel) rfl (yD (by decide+kernel))) (fun cl C fp s H=>kP) (fun cl C fp s H=>(jGW (jJ qD (jv 0 rfl (kB (by decide+kernel))) (jv 1 rfl (kJ (by decide+kernel))) (jP _)) (j6) (j6))) kR)) (jAL (j0 (j6) j5 jM))) j5 kZ) kZ) jO)))⟩
def firA (T:Txt mg)(CM:Can P w K mg base "musts_of" 1 fM fdM ["box"] jDM)(hr:Room 1 (XFir P w K mg base f cdv A outer s H0 E).A): { t:TS // JSs (XFir P w K mg base f cdv A outer s H0 E) (jB yV) t} :=
 have nd:=scFirst.nd
 ⟨_,(j7 (jF (i:=2) nd rfl (yS (by decide+kernel)) (CM.je (hr.mono (by decide)) gD (j0 (jv 0 rfl vL) j5 j3) j3) jO) (j7 (jF (i:=3) nd rfl lL (jAL j5) jCC) (j7 (yW bb rfl (kT gD T.range (j0 (jE jG (jv 0 rfl vL) (j6) jC) j5 jL) jL) (jK (i:=4) nd rfl (yS (by decide+kernel))) (firLA T).2 kR) (j7 (jGQ (i:=6) nd rfl lL ⟨by rfl⟩ (m:=[none,some 1,some 2]) (Nc:=["piece","lack","musts"]) rfl (yT (jE jG (jv 0 rfl vL) (j6) jC)) rfl (by decide+kernel) (by decide+kernel) (jW (psc:=j8 yV) (by decide+kernel)) (jI (N:=jEQ) rfl rfl (by decide+kernel)) (fun cl C fp s H=>jK (i:=0) (show (["piece","lack","musts"]:List Str).Nodup by decide+kernel) rfl (jJL (by decide+kernel))) (fun cl C fp s H=>kP) (fun cl C fp s H=>(jX jB3 (jE jEW (jv 0 rfl (jHY (by decide+kernel))) (j6) jC) (jX jAO (jv 1 rfl (jFI (by decide+kernel))) (jN jG7 (gl_bC (by decide+kernel)) T.len (by decide+kernel) (j0 (kQ (m:=[none,some 0]) (Nc:=["must","piece"]) rfl (jHS (jv 2 rfl (jFI (by decide+kernel)))) rfl (by decide+kernel) (by decide+kernel) (jH1 (by decide+kernel)) (jI (N:=["piece","lack","musts"]) rfl rfl (by decide+kernel)) (fun cl C fp s H=>jK (i:=0) (show (["must","piece"]:List Str).Nodup by decide+kernel) rfl (yD (by decide+kernel))) (fun cl C fp s H=>jB9 (jJ jGN (jv 0 rfl (kB (by decide+kernel))) (jE jJW (jv 1 rfl (kJ (by decide+kernel))) (j6) jC) jCL)) (fun cl C fp s H=>(jv 0 rfl (kB (by decide+kernel)))) jAT) j5 jQ) jQ)))) qA)
   (j7 (jBA (je_bm bq bL bM jA6 (jv 3 rfl vL) (j0 (jX jC6 (jv 6 rfl vL) (jX jPQ (jAL (j0 (j6) j5 jM)) (jE jG (jv 0 rfl vL) (j6) jC))) j5 kZ) kZ) jO)
   (jD (jV (jv 3 rfl vL))))))))⟩
theorem jK8 (T:Txt mg){D:Ends}{H:Hp}{b t:Addr}{wi lack:Int}{ms:List Int}{pcs:List (List Int×Int)}{i:Nat}{us:List V}{v2 v5 v6:Option V}(hB:BoxAt H b wi ms pcs)(g:Good 16 32 wi ms pcs)(hi:i<wi.toNat)(ht:H t=some (.lst us))(ul:us.length<=100)
  (nx:∀ H' v5 u,u≠V.ref t->H' t=some (.lst (us++[u]))->RowA H' u (rowI (bxO wi ms pcs lack) (bxO wi ms pcs lack).b0 i)->(∀ c o,H c=some o->c≠t->H' c=some o)->D.nx [some (.ref b),some (.int lack),v2,some (.ref t),some (.int (i:Int)),v5,v6] H'):
  (firLA (f:=f) (cdv:=cdv) (A:=A) (outer:=outer) (s:=s) (H0:=H0) (E:=E) (P:=P) (w:=w) (K:=K) (base:=base) T).1 D [some (.ref b),some (.int lack),v2,some (.ref t),some (.int (i:Int)),v5,v6] H:=by
 obtain⟨qm,qp,ps,b1,b2,b3,b4⟩:=id hB.ex
 have pl:=b4.len
 have gpl:=g.pl
 have w1:=g.w1
 refine⟨_,rfl,b,_,2,_,rfl,rfl,SqT.of b1,rfl,qp,rfl,⟨_,SqT.of b3⟩,jAM (xs:=ps) (fun σ=>∃ v,σ=[v,some (.int (i:Int))]) (mapZ (List.range pcs.length) fun c=>V.int (if decide ((i:Int)∈(pcs.getD c ([],0)).1)=true then (1:Int) else 0)) (mapZ.ok _ _) b3 (by rw[aj]; omega) ⟨_,rfl⟩ ?_ ?_⟩
 ·rintro j x σ' H' zs hx ⟨v,rfl⟩ e hz S1 S2 yes no
  have hj:j<pcs.length:=by
   rw[<- pl]
   exact(ay.mp hx).1
  obtain⟨x',hx',pa,pq,rfl,c1,c2⟩:=b4.get hj
  rw[hx] at hx'
  cases hx'
  dsimp only [kS,yG]
  rw[ah rfl]
  refine⟨_,rfl,_,rfl,pa,_,0,_,rfl,rfl,SqT.of (e _ _ c1),rfl,pq,_,rfl, .inr (SqT.of (e _ _ c2)),rfl,y8 _,_,rfl,?_⟩
  rw[yH]
  have hg:(List.range pcs.length)[j]?=some j:=aM hj
  refine ite2 (fun h=>?_) (fun h=>?_)
  ·have h:decide ((i:Int)∈(pcs.getD j ([],0)).1)=true:=h
   have y:=hz.yes (H':=H') hg
   rw[ah h] at y
   exact yes _ _ _ ⟨_,rfl⟩ (Ext.refl _) y
  ·have h:¬ decide ((i:Int)∈(pcs.getD j ([],0)).1)=true:=h
   have y:=hz.yes (H':=H') hg
   rw[ai h] at y
   exact yes _ _ _ ⟨_,rfl⟩ (Ext.refl _) y
 ·rintro l1 H1 zs d1 e1 n1 hz
  have hz:=hz.all (by rw[ao]; omega)
  have hB1:=hB.mono e1.tups
  refine⟨_,rfl, .inl ⟨rfl,_,SqL.of (e1 _ _ ht)⟩,_,rfl,_,rfl,b,_,0,_,rfl,rfl,SqT.of (e1 _ _ b1),rfl,wi,rfl,by omega,by omega,jBN (n:=wi.toNat) (fun σ=>∃ v,σ=[v,some (.int (i:Int))]) (mapZ (List.range wi.toNat) fun k=>V.int (if k=i then (1:Int) else 0)) (mapZ.ok _ _) (by rw[aj]; omega) ⟨_,rfl⟩ ?_ ?_⟩
  ·rintro j σ' H' zs' hj ⟨v,rfl⟩ e hz' S1 S2 yes no
   have hg:(List.range wi.toNat)[j]?=some j:=aM hj
   dsimp only [kS,yG]
   rw[ah rfl]
   have y:=hz'.yes (H':=H') hg
   refine⟨_,rfl,_,rfl,rfl,_,rfl,ite2 (fun h=>?_) (fun h=>?_)⟩
   ·have h:V.int (0+(j:Int))=V.int (i:Int):=au h
    have h:(0+(j:Int))=(i:Int):=by injection h
    rw[ah (show j=i by omega)] at y
    exact yes _ _ _ ⟨_,rfl⟩ (Ext.refl _) y
   ·have h:¬ V.int (0+(j:Int))=V.int (i:Int):=fun z=>h (ar z)
    rw[ai (show ¬ j=i from fun z=>h (by rw[z,bA]))] at y
    exact yes _ _ _ ⟨_,rfl⟩ (Ext.refl _) y
  ·rintro l2 H2 zs2 d2 e2 n2 hz2
   have hz2:=hz2.all (by rw[ao]; exact af _)
   refine⟨l1,l2,_,_,rfl,rfl,e2 _ _ d1,d2,?_,fun l3 H3 d3 e3 n3=>?_⟩
   ·rw[hz,hz2,aj,ac,ac,ao,ao]; omega
   refine⟨by show (1:Nat)<=_; decide,fun l4 H4 d4 e4 n4=>?_⟩
   refine⟨l3,l4,_,_,rfl,rfl,e4 _ _ d3,d4,?_,fun l5 H5 d5 e5 n5=>?_⟩
   ·rw[hz,hz2,aj,aN,ac,ac,ao,ao]; show _+1<=_; omega
   have E5:=((((e1.trans e2).trans e3).trans e4).trans e5)
   have t5:=E5 _ _ ht
   refine⟨t,us,_,rfl,rfl,t5,by rw[aj]; omega,?_⟩
   have lt:l5≠t:=fun z=>by rw[z] at n5; rw[((((e1.trans e2).trans e3).trans e4)) _ _ ht] at n5; cases n5
   refine nx _ _ _ (fun z=>lt (by cases z; rfl)) j4 ⟨l5,rfl,?_⟩ fun c o h n=>by rw[j9 n]; exact E5 _ _ h
   rw[j9 lt,d5,hz,hz2,jP5 hi,aD,aD,bv,bv]
   rfl
def jFL:Sp:=fun vs H Q _=>∃ (b:Addr) (w lack:Int) (ms:List Int) (pcs:List (List Int×Int)),vs=[.ref b, .int lack]/\BoxAt H b w ms pcs/\Good 16 32 w ms pcs/\lack.natAbs<2 ^ 200/\∀ t H',TabA H' t (tabI (bxO w ms pcs lack) (bxO w ms pcs lack).b0)->Ext H H'->Q (.ref t) H'
theorem jLM {fd:FuncData}(F:Fun K "first_table" "first_table" yV f fd)(T:Txt mg)(CM:Can P w K mg base "musts_of" 1 fM fdM ["box"] jDM):FnOk P w K mg base CX0 2 f fd ["box","lack"] jFL:=by
 refine F.ok scFirst (fun vs H Q E h=>?_) (fun cdv A outer s H vs Q E hr h=>?_)
 ·obtain⟨_,_,_,_,_,rfl,_⟩:=h
  rfl
 ·obtain⟨b,wi,lack,ms,pcs,rfl,hB,g,hl,q⟩:=h
  refine⟨_,(firA T CM hr).2.h,?_⟩
  obtain⟨qm,qp,ps,b1,b2,b3,b4⟩:=id hB.ex
  have pl:=b4.len
  have gpl:=g.pl
  have w0:=g.w0
  have w1:=g.w1
  refine⟨_,rfl,b,qm,_,wi,ms,rfl,b1,b2,by omega,by omega,fun m hm=>?_⟩
  have e1:Ext H (L2.upd H m (.lst ((mus ms wi.toNat).map V.int))):=(Ext.refl _).new hm _
  have d1:(L2.upd H m (.lst ((mus ms wi.toNat).map V.int))) m=some (.lst ((mus ms wi.toNat).map V.int)):=j4
  generalize L2.upd H m (.lst ((mus ms wi.toNat).map V.int))=H1 at e1 d1
  refine⟨by show (0:Nat)<=_; decide,fun t H2 d2 e2 n2=>?_⟩
  have tn:H t=none:=nw_of e1 n2
  refine⟨_,rfl,b,_,0,_,rfl,rfl,SqT.of ((e1.trans e2) _ _ b1),rfl,wi,rfl,by omega,by omega,jA2 (lo:=0) (n:=wi.toNat) (fun i σ H'=>(∃ v4 v5,σ=[some (.ref b),some (.int lack),some (.ref m),some (.ref t),v4,v5,none])/\(∀ c o,H2 c=some o->c≠t->H' c=some o)/\∃ us,H' t=some (.lst us)/\All2 (RowA H') us ((List.range i).map (rowI (bxO wi ms pcs lack) (bxO wi ms pcs lack).b0))/\∀ u∈us,u≠ .ref t) ⟨⟨_,_,rfl⟩,fun _ _ h _=>h,[],d2,trivial,fun _ h=>by cases h⟩ ?_ ?_⟩
  ·rintro i σ H3 hi ⟨⟨v4,v5,rfl⟩,k3,us,t3,a3,nt⟩
   have ul:=All2.len a3
   rw[ac,ao] at ul
   have e0:(0+(i:Int))=(i:Int):=by omega
   have tu:Tups H H3:=fun c xs h=>k3 _ _ ((e1.trans e2) _ _ h) fun z=>by rw[z,tn] at h; cases h
   show (firLA T).1 _ [some (.ref b),some (.int lack),some (.ref m),some (.ref t),some (.int (0+(i:Int))),v5,none] H3
   rw[e0]
   refine jK8 T (hB.mono tu) g hi t3 (by omega) fun H4 v5 u nu t4 r4 k4=>⟨⟨_,_,rfl⟩,fun c o h n=>k4 _ _ (k3 _ _ h n) n,_,t4,?_,?_⟩
   ·rw[cf,aD]
    refine All2.append (All2.imp' a3 fun u l hu ⟨a,e,q⟩=>⟨a,e,k4 _ _ q fun z=>nt u hu (by rw[e,z])⟩) ⟨r4,trivial⟩
   ·intro x hx
    rcases bx.mp hx with y | y
    ·exact nt x y
    ·rw[be.mp y]
     exact nu
  ·rintro σ H3 ⟨⟨v4,v5,rfl⟩,k3,us,t3,a3,nt⟩
   have tu:Tups H H3:=fun c xs h=>k3 _ _ ((e1.trans e2) _ _ h) fun z=>by rw[z,tn] at h; cases h
   have m3:=k3 _ _ (e2 _ _ d1) (fun z=>by rw[z] at d1; rw[d1] at n2; cases n2)
   refine⟨_,rfl,b,_,2,_,rfl,rfl,SqT.of (tu _ _ b1),rfl,qp,rfl,⟨_,SqT.of (tu _ _ b3)⟩,jAM (xs:=ps) (fun σ=>∃ v,σ=[v,some (.int lack),some (.ref m)]) (mapZ (List.range pcs.length) fun c=>V.int ((bxO wi ms pcs lack).co c)) (mapZ.ok _ _) (tu _ _ b3) (by rw[aj]; omega) ⟨_,rfl⟩ ?_ ?_⟩
   ·rintro j x σ' H' zs hx ⟨v,rfl⟩ e hz S1 S2 yes no
    have hj:j<pcs.length:=by
     rw[<- pl]
     exact(ay.mp hx).1
    obtain⟨x',hx',pa,pq,rfl,c1,c2⟩:=b4.get hj
    rw[hx] at hx'
    cases hx'
    have c1:=e _ _ (tu _ _ c1)
    have c2:=e _ _ (tu _ _ c2)
    dsimp only [kS,yG]
    rw[ah rfl]
    refine⟨_,rfl,pa,_,1,_,rfl,rfl,SqT.of c1,rfl,_,rfl,_,rfl,m,rfl,⟨_,SqL.of (e _ _ m3)⟩,jC8 (xs:=(mus ms wi.toNat).map V.int) (fun σ=>∃ v,σ=[v,some (.ref pa)]) (outZ (mus ms wi.toNat) (fun x=>decide (x∈(pcs.getD j ([],0)).1)) V.int) (outZ.ok _ _ _) (e _ _ m3) (by rw[aj,ac]; have:=jCN ms wi.toNat; omega) ⟨_,rfl⟩ ?_ ?_⟩
    ·rintro j2 x2 σ2 H2' zs2 hx2 ⟨v2,rfl⟩ e2' hz2 S1' S2' yes2 no2
     obtain⟨z,hz',rfl⟩:=int_at hx2
     dsimp only [kS]
     refine⟨_,rfl,_,rfl,pa,_,0,_,rfl,rfl,SqT.of (e2' _ _ c1),rfl,pq,_,rfl, .inr (SqT.of (e2' _ _ c2)),rfl,y8 _,_,rfl,?_⟩
     rw[yH]
     refine ite2 (fun h=>?_) (fun h=>?_)
     ·exact⟨_,rfl,yes2 _ _ _ ⟨_,rfl⟩ (Ext.refl _) (hz2.yes hz' h)⟩
     ·exact no2 _ _ ⟨_,rfl⟩ (Ext.refl _) (hz2.no hz' (cc.mpr h))
    ·rintro D2 H5 zs2 kD eD nD hz2
     have hz2:=hz2.all (by rw[ac]; exact af _)
     rw[hz2] at kD
     refine⟨D2,_,rfl, .inl (SqL.of kD),?_⟩
     rw[ac]
     have ml:((mus ms wi.toNat).filter fun x=>decide (x∈(pcs.getD j ([],0)).1)).length<=16:=by
      have:=jCN ms wi.toNat
      have:=bK (fun x=>decide (x∈(pcs.getD j ([],0)).1)) (mus ms wi.toNat)
      omega
     refine⟨_,_,rfl,rfl,⟨dX hl (dL (by decide) (by decide)),?_⟩,_,_,rfl,rfl,?_⟩
     ·rw[eh]
      exact bw ml (by decide)
     exact yes _ _ _ ⟨_,rfl⟩ eD (hz.yes (aM hj))
   ·rintro D4 H4 zs d4 e4 n4 hz
    have hz:=hz.all (by rw[ao,pl]; exact af _)
    have t4:=e4 _ _ t3
    refine⟨_,rfl, .inl ⟨rfl,_,SqL.of t4⟩,_,rfl,by show (1:Nat)<=_; decide,fun l5 H5 d5 e5 n5=>?_⟩
    refine⟨_,rfl,b,_,0,_,rfl,rfl,SqT.of ((e4.trans e5) _ _ (tu _ _ b1)),rfl,l5,_,_,rfl,rfl,d5,by omega,by omega,by show 1*_<=_; rw[aj]; omega,fun l6 h6=>?_⟩
    have rp:∀ n:Nat,(replicate n [V.int 0]).flatten=(replicate n (0:Int)).map V.int:=fun n=>by
     induction n with
     | zero=>rfl
     | succ n ih=>
      rw[ck,cQ,ih]
      rfl
    rw[rp wi.toNat]
    have e6:Ext H5 (L2.upd H5 l6 (.lst ((replicate wi.toNat (0:Int)).map V.int))):=(Ext.refl _).new h6 _
    have d6:(L2.upd H5 l6 (.lst ((replicate wi.toNat (0:Int)).map V.int))) l6=some (.lst ((replicate wi.toNat (0:Int)).map V.int)):=j4
    generalize L2.upd H5 l6 (.lst ((replicate wi.toNat (0:Int)).map V.int))=H6 at e6 d6
    have E6:=e5.trans e6
    refine⟨D4,l6,_,_,rfl,rfl,E6 _ _ d4,d6,?_,fun l7 H7 d7 e7 n7=>?_⟩
    ·rw[hz,aj,ac,ao,ac,cP]; omega
    have E7:=E6.trans e7
    have t7:=E7 _ _ t4
    have ul:=All2.len a3
    rw[ac,ao] at ul
    refine⟨t,us,_,rfl,rfl,t7,by rw[aj]; omega,?_⟩
    have lt:l7≠t:=fun z=>by rw[z,E6 _ _ t4] at n7; cases n7
    have E47:=e4.trans E7
    refine⟨_,rfl,q t _ ⟨_,j4,?_⟩ ?_⟩
    ·unfold tabI
     refine All2.append (All2.imp' a3 fun u l hu ⟨a,e,q⟩=>⟨a,e,?_⟩) ⟨⟨l7,rfl,?_⟩,trivial⟩
     ·rw[j9 (fun z=>nt u hu (by rw[e,z]))]
      exact E47 _ _ q
     ·rw[j9 lt,d7,hz,jQL,aD,bv]
      rfl
    ·intro c o h
     have ct:c≠t:=fun z=>by rw[z,tn] at h; cases h
     rw[j9 ct]
     exact E47 _ _ (k3 _ _ ((e1.trans e2) _ _ h) ct)
end
abbrev TabB (H:Hp)(t:Addr)(B:Sx.Bx)(b:Nat->Nat):Prop:=TabA H t (tabI B b)
section
variable {H:Hp}{t:Addr}{B:Sx.Bx}{b:Nat->Nat}(h:TabB H t B b)
include h
theorem TabB.len:∃ us,H t=some (.lst us)/\us.length=B.n+1/\All2 (RowA H) us (tabI B b):=by
 obtain⟨us,a,al⟩:=h
 refine⟨us,a,?_,al⟩
 rw[All2.len al]
 unfold tabI
 rw[aN,ac,ao]
 rfl
theorem TabB.cst:∃ us a,H t=some (.lst us)/\us.length=B.n+1/\us[B.n]?=some (.ref a)/\atI us (-1)=some (.ref a)/\H a=some (.lst ((cstI B b).map V.int)):=by
 obtain⟨us,a,l,al⟩:=h.len
 have e:(tabI B b)[B.n]?=some (cstI B b):=by
  unfold tabI
  rw[cT (by rw[ac,ao]; exact af _),ac,ao,Nat.sub_self]
  rfl
 obtain⟨u,hu,r,rfl,hr⟩:=All2.get al e
 exact⟨us,r,a,l,hu,jKZ (by rw[l]; exact hu),hr⟩
theorem TabB.row {i:Nat}(hi:i<B.n):∃ us a,H t=some (.lst us)/\us.length=B.n+1/\us[i]?=some (.ref a)/\atI us (i:Int)=some (.ref a)/\H a=some (.lst ((rowI B b i).map V.int)):=by
 obtain⟨us,a,l,al⟩:=h.len
 have e:(tabI B b)[i]?=some (rowI B b i):=by
  unfold tabI
  rw[de (by rw[ac,ao]; exact hi),az,aM hi]
  rfl
 obtain⟨u,hu,r,rfl,hr⟩:=All2.get al e
 exact⟨us,r,a,l,hu,yB hu,hr⟩
end
theorem jB6 {B:Sx.Bx}{b:Nat->Nat}{i c:Nat}(hc:c<B.p+B.n+1):((rowI B b i).map V.int)[c]?=some (.int (B.P.T b i c)):=by
 unfold rowI
 rw[az,az,aM hc]
 rfl
theorem jKF {B:Sx.Bx}{b:Nat->Nat}{c:Nat}(hc:c<B.p+B.n):((cstI B b).map V.int)[c]?=some (.int (B.P.T b B.n c)):=by
 unfold cstI
 rw[az,az,aM hc]
 rfl
theorem jGJ {B:Sx.Bx}{b:Nat->Nat}{i:Nat} :((rowI B b i).map V.int).length=B.p+B.n+1:=by
 unfold rowI
 rw[ac,ac,ao]
theorem jH4 {B:Sx.Bx}{b:Nat->Nat} :((cstI B b).map V.int).length=B.p+B.n:=by
 unfold cstI
 rw[ac,ac,ao]
theorem jDR {B:Sx.Bx}{b:Nat->Nat}{i:Nat} :atI ((rowI B b i).map V.int) (-1)=some (.int (B.P.T b i (B.p+B.n))):=jKZ (by rw[jGJ]; exact jB6 (aF _))
section
variable {P:Program}{w:World}{K:W.Frag}{mg:Str->Option Value}{base:Heap}
variable {f fM:Addr}{fdM:FuncData}{cdv:Value}{A:Around}{outer:List Env}{s:Shared}{H0:Hp}{E:XK}
noncomputable abbrev nColT:List Str:=["table","column","cost"]
theorem scColT:FnScope nColT ["table"] (j8 sColT):=⟨rfl,rfl,rfl,by decide+kernel,rfl,by decide+kernel,by decide+kernel⟩
def colTA (T:Txt mg): { t:TS // JSs (XOf nColT "column_to_take" sColT P w K mg base f cdv A outer s H0 E) (jB sColT) t} :=
 have nd:=scColT.nd
 ⟨_,(j7 (yW bb rfl (jJT gD T.enumerate (j0 (jE jU (jv 0 rfl vL) (je_un jEE (j6)) px_un) j5 jL) jL) (jGR (i:=1) (j:=2) nd rfl rfl (by decide+kernel) (by decide+kernel)) (jD (yE (jJ op_lt (jv 2 rfl vL) (j6) (jP _)) (jD (jV (jv 1 rfl vL))) kG)) kR)
   (jD (jV (jGV))))⟩
def jIN:Sp:=fun vs H Q _=>∃ (t:Addr) (B:Sx.Bx) (b:Nat->Nat),vs=[.ref t]/\TabB H t B b/\(∀ q H',Sx.Ent B.P b q->Ext H H'->Q (.int (q:Int)) H')/\((∀ c,c<B.p+B.n->0<=B.P.T b B.n c)->∀ H',Ext H H'->Q .non H')
theorem jO9 {fd:FuncData}(F:Fun K "column_to_take" "column_to_take" sColT f fd)(T:Txt mg):FnOk P w K mg base CX0 1 f fd ["table"] jIN:=by
 refine F.ok scColT (fun vs H Q E h=>?_) (fun cdv A outer s H vs Q E hr h=>?_)
 ·obtain⟨_,_,_,rfl,_⟩:=h
  rfl
 ·obtain⟨t,B,b,rfl,tb,qy,qn⟩:=h
  refine⟨_,(colTA T).2.h,?_⟩
  obtain⟨us,a,ht,ul,_,hat,ha⟩:=tb.cst
  refine⟨_,rfl,_,rfl,t,us,_,_,rfl,rfl,SqL.of ht,hat,false,a,rfl,⟨_,SqL.of ha⟩,jH2 (tp:=false) (xs:=(cstI B b).map V.int) (fun i σ H'=>(∃ v1 v2,σ=[some (.ref t),v1,v2])/\Ext H H'/\∀ c,c<i->0<=B.P.T b B.n c) ⟨⟨_,_,rfl⟩,Ext.refl _,fun c hc=>absurd hc (bm _)⟩ (fun i σ H' ⟨_,e,_⟩=>SqL.of (e _ _ ha)) ?_ ?_⟩
  ·rintro i x Tp σ H1 hx hT ⟨⟨v1,v2,rfl⟩,e1,low⟩
   have il:i<B.p+B.n:=by have:=(ay.mp hx).1; rwa [jH4] at this
   rw[jKF il] at hx
   cases hx
   have e2:Ext H1 (L2.upd H1 Tp (.tup [.int (i:Int), .int (B.P.T b B.n i)])):=(Ext.refl _).new hT _
   have d2:(L2.upd H1 Tp (.tup [.int (i:Int), .int (B.P.T b B.n i)])) Tp=some (.tup [.int (i:Int), .int (B.P.T b B.n i)]):=j4
   generalize L2.upd H1 Tp (.tup [.int (i:Int), .int (B.P.T b B.n i)])=H2 at e2 d2
   refine⟨Tp,_,rfl,SqT.of d2,rfl,_,_,rfl,_,_,rfl,rfl,?_⟩
   refine⟨_,rfl,_,_,rfl,rfl,_,rfl,ite2 (fun h=>?_) (fun h=>?_)⟩
   ·have h:B.P.T b B.n i<0:=au h
    exact⟨_,rfl,qy i H2 ⟨il,h,low⟩ (e1.trans e2)⟩
   ·have h:¬ B.P.T b B.n i<0:=fun z=>h (ar z)
    refine⟨⟨_,_,rfl⟩,e1.trans e2,fun c hc=>?_⟩
    by_cases z:c=i
    ·rw[z]; omega
    ·exact low c (by omega)
  ·rintro σ H1 ⟨⟨v1,v2,rfl⟩,e1,low⟩
   rw[jH4] at low
   exact qn low H1 e1
theorem cr_lt {xi yi xr yr xj yj:Int}(hr:0<yr)(hi:0<yi)(hj:0<yj)(h1:xi*yr<xr*yi)(h2:xr*yj<=xj*yr):xi*yj<xj*yi:=by
 have a1:=cn h1 hj
 have a2:=br h2 (bG hi)
 refine eL (a:=yr) ?_ (bG hr)
 have e1:xi*yr*yj=yr*(xi*yj):=by grind
 have e2:xr*yi*yj=xr*yj*yi:=by grind
 have e3:xj*yr*yi=yr*(xj*yi):=by grind
 omega
theorem jQM {xi yi xr yr xj yj:Int}(hr:0<yr)(hi:0<yi)(hj:0<yj)(h1:xi*yr=xr*yi)(h2:xr*yj<xj*yr):xi*yj<xj*yi:=by
 have a2:=cn h2 hi
 refine eL (a:=yr) ?_ (bG hr)
 have e1:yr*(xi*yj)=xr*yj*yi:=by
  have:yr*(xi*yj)=xi*yr*yj:=by grind
  rw[this,h1]
  grind
 have e3:xj*yr*yi=yr*(xj*yi):=by grind
 omega
theorem cr_eq {xi yi xr yr xj yj:Int}(hr:0<yr)(h1:xi*yr=xr*yi)(h2:xr*yj=xj*yr):xi*yj=xj*yi:=by
 refine eG (a:=yr) (by omega) ?_
 have:yr*(xi*yj)=xi*yr*yj:=by grind
 rw[this,h1]
 have:yr*(xj*yi)=xj*yr*yi:=by grind
 rw[this,<- h2]
 grind
def LvR (B:Sx.Bx)(b:Nat->Nat)(q r j:Nat):Prop:=B.P.T b r (B.p+B.n)*B.P.T b j q<B.P.T b j (B.p+B.n)*B.P.T b r q\/(B.P.T b r (B.p+B.n)*B.P.T b j q=B.P.T b j (B.p+B.n)*B.P.T b r q/\b r<=b j)
theorem LvR.trans {B:Sx.Bx}{b:Nat->Nat}{q i r j:Nat}(hi:0<B.P.T b i q)(hr:0<B.P.T b r q)(hj:0<B.P.T b j q)(h1:LvR B b q i r)(h2:LvR B b q r j):LvR B b q i j:=by
 rcases h1 with a | ⟨a,a2⟩ <;> rcases h2 with c | ⟨c,c2⟩
 ·exact .inl (cr_lt hr hi hj a (bG c))
 ·exact .inl (cr_lt hr hi hj a (Int.le_of_eq c))
 ·exact .inl (jQM hr hi hj a c)
 ·exact .inr ⟨cr_eq hr a c,aH a2 c2⟩
noncomputable abbrev nRowG:List Str:=["table","taken","column","best","row","here","there"]
theorem scRowG:FnScope nRowG ["table","taken","column"] (j8 qH):=⟨rfl,rfl,rfl,by decide+kernel,rfl,by decide+kernel,by decide+kernel⟩
def jML (T:Txt mg): { t:TS // JSs (XOf nRowG "row_to_give" qH P w K mg base f cdv A outer s H0 E) ((match (yQ ((jB qH).getD 1 (.Pass ⟨0,0,0,0⟩))).getD 0 (.Pass ⟨0,0,0,0⟩) with | .If _ b _ _=>b | _=> []).drop 1) t} :=
 have nd:=scRowG.nd
 have _h:=T
 ⟨_,(j7 (jF (i:=5) nd rfl lL (jX jAO (jE jU (jE jU (jv 0 rfl vL) (jv 4 rfl vL) kL) (je_un jEE (j6)) px_un) (jE jU (jE jU (jv 0 rfl vL) (jv 3 rfl vL) kL) (jv 2 rfl vL) kL)) jBY)
   (j7 (jF (i:=6) nd rfl lL (jX jAO (jE jU (jE jU (jv 0 rfl vL) (jv 3 rfl vL) kL) (je_un jEE (j6)) px_un) (jE jU (jE jU (jv 0 rfl vL) (jv 4 rfl vL) kL) (jv 2 rfl vL) kL)) jBY)
   (jD (yE (jt_w (jw_or (jJ op_lt (jv 5 rfl vL) (jv 6 rfl vL) (jP _)) (jDB (jt_w (jET (jJ qD (jv 5 rfl vL) (jv 6 rfl vL) (jP _)) (jCP (jJ op_lt (jE jU (jv 1 rfl vL) (jv 4 rfl vL) kL) (jE jU (jv 1 rfl vL) (jv 3 rfl vL) kL) (jP _)))))))) (jD (jF (i:=3) nd rfl lL (jv 4 rfl vL) jDJ)) kG))))⟩
def jIV (T:Txt mg): { t:TS // JSs (XOf nRowG "row_to_give" qH P w K mg base f cdv A outer s H0 E) (yQ ((jB qH).getD 1 (.Pass ⟨0,0,0,0⟩))) t} :=
 have nd:=scRowG.nd
 have _h:=T
 ⟨_,(jD (yE (jJ qJ (jE jU (jE jU (jv 0 rfl vL) (jv 4 rfl vL) kL) (jv 2 rfl vL) kL) (j6) (jP _)) (j7 (yE (jJ jPR (jv 3 rfl vL) (jGV) (jP _)) (jD (jF (i:=3) nd rfl lL (jv 4 rfl vL) jDJ)) kG) (jML T).2) kG))⟩
def rowGA (T:Txt mg): { t:TS // JSs (XOf nRowG "row_to_give" qH P w K mg base f cdv A outer s H0 E) (jB qH) t} :=
 have nd:=scRowG.nd
 ⟨_,(j7 (jF (i:=3) nd rfl lL (jGV) jBC) (j7 (yW bb rfl (kT gD T.range (j0 (jN jZ gD T.len (by decide+kernel) (j0 (jv 1 rfl vL) j5 j3) j3) j5 jT) jT) (jK (i:=4) nd rfl lL) (jIV T).2 kR) (jD (jV (jv 3 rfl vL)))))⟩
def tkn (B:Sx.Bx)(b:Nat->Nat):List Int:=(List.range B.n).map fun i=>((b i:Nat):Int)
theorem jEH {B:Sx.Bx}{b:Nat->Nat}{i:Nat}(hi:i<B.n):((tkn B b).map V.int)[i]?=some (.int ((b i:Nat):Int)):=by
 unfold tkn
 rw[az,az,aM hi]
 rfl
theorem jCA {B:Sx.Bx}{b:Nat->Nat} :((tkn B b).map V.int).length=B.n:=by
 unfold tkn
 rw[ac,ac,ao]
def bstV (r:Option Nat):V:=match r with
 | none=> .non
 | some r=> .int (r:Int)
def BstI (B:Sx.Bx)(b:Nat->Nat)(q i:Nat)(r:Option Nat):Prop:=match r with
 | none=>∀ j,j<i->¬ 0<B.P.T b j q
 | some r=>r<i/\0<B.P.T b r q/\∀ j,j<i->0<B.P.T b j q->LvR B b q r j
theorem jD6 (T:Txt mg){D:Ends}{H:Hp}{t k:Addr}{B:Sx.Bx}{b:Nat->Nat}{q i r:Nat}{v5 v6:Option V}(tb:TabB H t B b)(hk:H k=some (.lst ((tkn B b).map V.int)))(hq:q<B.p+B.n)(hi:i<B.n)(bd:∀ i c,(B.P.T b i c).natAbs<2 ^ 6000)(ri:r<i+1)(hr:0<B.P.T b r q)(hp:0<B.P.T b i q)(lv:∀ j,j<i->0<B.P.T b j q->LvR B b q r j)
  (nx:∀ r v5 v6,BstI B b q (i+1) (some r)->D.nx [some (.ref t),some (.ref k),some (.int (q:Int)),some (.int (r:Int)),some (.int (i:Int)),v5,v6] H):
  (jML (f:=f) (cdv:=cdv) (A:=A) (outer:=outer) (s:=s) (H0:=H0) (E:=E) (P:=P) (w:=w) (K:=K) (base:=base) T).1 D [some (.ref t),some (.ref k),some (.int (q:Int)),some (.int (r:Int)),some (.int (i:Int)),v5,v6] H:=by
 have rn:r<B.n:=by omega
 obtain⟨us,a,ht,ul,_,hat,ha⟩:=tb.row hi
 obtain⟨us',a',ht',_,_,hat',ha'⟩:=tb.row rn
 rw[ht] at ht'
 cases ht'
 refine⟨_,rfl,_,rfl,t,us,(i:Int),_,rfl,rfl,SqL.of ht,hat,_,rfl,a,_,_,_,rfl,rfl,SqL.of ha,jDR,?_⟩
 refine⟨_,rfl,_,rfl,t,us,(r:Int),_,rfl,rfl,SqL.of ht,hat',_,rfl,a',_,(q:Int),_,rfl,rfl,SqL.of ha',yB (jB6 (by omega)),_,_,rfl,rfl,⟨bd _ _,bd _ _⟩,?_⟩
 refine⟨_,rfl,_,rfl,t,us,(r:Int),_,rfl,rfl,SqL.of ht,hat',_,rfl,a',_,_,_,rfl,rfl,SqL.of ha',jDR,?_⟩
 refine⟨_,rfl,_,rfl,t,us,(i:Int),_,rfl,rfl,SqL.of ht,hat,_,rfl,a,_,(q:Int),_,rfl,rfl,SqL.of ha,yB (jB6 (by omega)),_,_,rfl,rfl,⟨bd _ _,bd _ _⟩,?_⟩
 have ki:=jEH (b:=b) hi
 have kr:=jEH (b:=b) rn
 have rf:LvR B b q i i:= .inr ⟨rfl,af _⟩
 have stay:LvR B b q r i->BstI B b q (i+1) (some r):=fun l=>⟨ri,hr,fun j hj hpj=>by
  by_cases z:j=i
  ·rw[z]; exact l
  ·exact lv j (by omega) hpj⟩
 have move:LvR B b q i r->BstI B b q (i+1) (some i):=fun l=>⟨aF _,hp,fun j hj hpj=>by
  by_cases z:j=i
  ·rw[z]; exact rf
  ·exact l.trans hp hr hpj (lv j (by omega) hpj)⟩
 refine⟨_,rfl,_,rfl,_,_,rfl,rfl,_,rfl,ite2 (fun h=>?_) (fun h=>?_)⟩
 ·have h:B.P.T b i (B.p+B.n)*B.P.T b r q<B.P.T b r (B.p+B.n)*B.P.T b i q:=au h
  exact⟨_,rfl,nx i _ _ (move (.inl h))⟩
 ·have h:¬ B.P.T b i (B.p+B.n)*B.P.T b r q<B.P.T b r (B.p+B.n)*B.P.T b i q:=fun z=>h (ar z)
  refine⟨_,rfl,_,rfl,rfl,_,rfl,ite2 (fun h2=>?_) (fun h2=>?_)⟩
  ·have h2:V.int (B.P.T b i (B.p+B.n)*B.P.T b r q)=V.int (B.P.T b r (B.p+B.n)*B.P.T b i q):=au h2
   have h2:B.P.T b i (B.p+B.n)*B.P.T b r q=B.P.T b r (B.p+B.n)*B.P.T b i q:=by injection h2
   refine⟨_,rfl,_,rfl,k,_,(i:Int),_,rfl,rfl,SqL.of hk,yB ki,_,rfl,_,rfl,k,_,(r:Int),_,rfl,rfl,SqL.of hk,yB kr,_,_,rfl,rfl,_,rfl,ite2 (fun h3=>?_) (fun h3=>?_)⟩
   ·have h3:((b i:Nat):Int)<((b r:Nat):Int):=au h3
    exact⟨_,rfl,nx i _ _ (move (.inr ⟨h2,by omega⟩))⟩
   ·have h3:¬ ((b i:Nat):Int)<((b r:Nat):Int):=fun z=>h3 (ar z)
    exact nx r _ _ (stay (.inr ⟨h2.symm,by omega⟩))
  ·have h2:¬ V.int (B.P.T b i (B.p+B.n)*B.P.T b r q)=V.int (B.P.T b r (B.p+B.n)*B.P.T b i q):=fun z=>h2 (ar z)
   have h2:¬ B.P.T b i (B.p+B.n)*B.P.T b r q=B.P.T b r (B.p+B.n)*B.P.T b i q:=fun z=>h2 (by rw[z])
   exact nx r _ _ (stay (.inl (by omega)))
theorem jHK (T:Txt mg){D:Ends}{H:Hp}{t k:Addr}{B:Sx.Bx}{b:Nat->Nat}{q i:Nat}{r:Option Nat}{v5 v6:Option V}(tb:TabB H t B b)(hk:H k=some (.lst ((tkn B b).map V.int)))(hq:q<B.p+B.n)(hi:i<B.n)(bd:∀ i c,(B.P.T b i c).natAbs<2 ^ 6000)(bi:BstI B b q i r)
  (nx:∀ r v5 v6,BstI B b q (i+1) r->D.nx [some (.ref t),some (.ref k),some (.int (q:Int)),some (bstV r),some (.int (i:Int)),v5,v6] H):
  (jIV (f:=f) (cdv:=cdv) (A:=A) (outer:=outer) (s:=s) (H0:=H0) (E:=E) (P:=P) (w:=w) (K:=K) (base:=base) T).1 D [some (.ref t),some (.ref k),some (.int (q:Int)),some (bstV r),some (.int (i:Int)),v5,v6] H:=by
 obtain⟨us,a,ht,ul,_,hat,ha⟩:=tb.row hi
 refine⟨_,rfl,_,rfl,t,us,(i:Int),_,rfl,rfl,SqL.of ht,hat,_,rfl,a,_,(q:Int),_,rfl,rfl,SqL.of ha,yB (jB6 (by omega)),_,_,rfl,rfl,_,rfl,ite2 (fun h=>?_) (fun h=>?_)⟩
 ·have h:0<B.P.T b i q:=au h
  cases r with
  | none=>
   refine⟨_,rfl,rfl,_,rfl,iteT ⟨_,rfl,?_⟩⟩
   exact jD6 T tb hk hq hi bd (aF i) h h (fun j hj hp=>absurd hp (bi j hj)) fun r v5 v6 z=>nx (some r) v5 v6 z
  | some r=>
   refine⟨_,rfl,rfl,_,rfl,ite2 (fun h=>absurd (au h) (by intro z; cases z)) (fun _=>?_)⟩
   exact jD6 T tb hk hq hi bd (aq bi.1) bi.2.1 h bi.2.2 fun r v5 v6 z=>nx (some r) v5 v6 z
 ·have h:¬ 0<B.P.T b i q:=fun z=>h (ar z)
  refine nx r _ _ ?_
  cases r with
  | none=>
   intro j hj
   by_cases z:j=i
   ·rw[z]; exact h
   ·exact bi j (by omega)
  | some r=>
   refine⟨aq bi.1,bi.2.1,fun j hj hp=>?_⟩
   by_cases z:j=i
   ·rw[z] at hp; exact absurd hp h
   ·exact bi.2.2 j (by omega) hp
def jIK:Sp:=fun vs H Q _=>∃ (t k:Addr) (B:Sx.Bx) (b:Nat->Nat) (q:Nat),vs=[.ref t, .ref k, .int (q:Int)]/\TabB H t B b/\H k=some (.lst ((tkn B b).map V.int))/\q<B.p+B.n/\B.n<=16/\(∀ i c,(B.P.T b i c).natAbs<2 ^ 6000)/\(∃ i,i<B.n/\0<B.P.T b i q)/\∀ r,Sx.Lev B.P b q r->Q (.int (r:Int)) H
theorem jO4 {fd:FuncData}(F:Fun K "row_to_give" "row_to_give" qH f fd)(T:Txt mg):FnOk P w K mg base CX0 1 f fd ["table","taken","column"] jIK:=by
 refine F.ok scRowG (fun vs H Q E h=>?_) (fun cdv A outer s H vs Q E hr h=>?_)
 ·obtain⟨_,_,_,_,_,rfl,_⟩:=h
  rfl
 ·obtain⟨t,k,B,b,q,rfl,tb,hk,hq,n16,bd,⟨i0,hi0,hp0⟩,qq⟩:=h
  refine⟨_,(rowGA T).2.h,?_⟩
  refine⟨_,rfl,k,_,rfl, .inl (SqL.of hk),(B.n:Int),by rw[jCA],by omega,by omega,jA2 (lo:=0) (n:=B.n) (fun i σ H'=>H'=H/\∃ r v4 v5 v6,σ=[some (.ref t),some (.ref k),some (.int (q:Int)),some (bstV r),v4,v5,v6]/\BstI B b q i r) ⟨rfl,none,_,_,_,rfl,fun j hj=>absurd hj (bm _)⟩ ?_ ?_⟩
  ·rintro i σ H1 hi ⟨rfl,r,v4,v5,v6,rfl,bi⟩
   have e0:(0+(i:Int))=(i:Int):=by omega
   show (jIV T).1 _ [some (.ref t),some (.ref k),some (.int (q:Int)),some (bstV r),some (.int (0+(i:Int))),v5,v6] H1
   rw[e0]
   exact jHK T tb hk hq hi bd bi fun r v5 v6 z=>⟨rfl,r,_,_,_,rfl,z⟩
  ·rintro σ H1 ⟨rfl,r,v4,v5,v6,rfl,bi⟩
   cases r with
   | none=>exact absurd hp0 (bi i0 hi0)
   | some r=>exact⟨_,rfl,qq r ⟨bi.1,bi.2.1,bi.2.2⟩⟩
end
def rowM (B:Sx.Bx)(b:Nat->Nat)(m i:Nat):List Int:=(List.range m).map fun c=>B.P.T b i c
theorem jIU {B:Sx.Bx}{b:Nat->Nat}{m i c:Nat}(hc:c<m):((rowM B b m i).map V.int)[c]?=some (.int (B.P.T b i c)):=by
 unfold rowM
 rw[az,az,aM hc]
 rfl
theorem jC5 {B:Sx.Bx}{b:Nat->Nat}{m i:Nat} :((rowM B b m i).map V.int).length=m:=by
 unfold rowM
 rw[ac,ac,ao]
def wid' (B:Sx.Bx)(i:Nat):Nat:=if i<B.n then B.p+B.n+1 else B.p+B.n
theorem jGC {B:Sx.Bx}{b:Nat->Nat}{i:Nat}(hi:i<B.n+1):(tabI B b)[i]?=some (rowM B b (wid' B i) i):=by
 unfold tabI wid'
 by_cases h:i<B.n
 ·rw[ah h,de (by rw[ac,ao]; exact h),az,aM h]
  rfl
 ·have:i=B.n:=by omega
  subst this
  rw[ai h,cT (by rw[ac,ao]; exact af _),ac,ao,Nat.sub_self]
  rfl
theorem jIC {B:Sx.Bx}{b:Nat->Nat}{i:Nat}(hi:i<B.n+1):(tabI B b).take (i+1)=(tabI B b).take i++[rowM B b (wid' B i) i]:=by
 rw[aT,jGC hi]
 rfl
section
variable {P:Program}{w:World}{K:W.Frag}{mg:Str->Option Value}{base:Heap}
variable {f fM:Addr}{fdM:FuncData}{cdv:Value}{A:Around}{outer:List Env}{s:Shared}{H0:Hp}{E:XK}
abbrev jFU:List Str:=["table","bottom","row","column","turn","told","place","entries","factor"]
theorem scTurned:FnScope jFU ["table","bottom","row","column"] (j8 yR):=⟨rfl,rfl,rfl,by decide+kernel,rfl,by decide+kernel,by decide+kernel⟩
abbrev XTur (P:Program)(w:World)(K:W.Frag)(mg:Str->Option Value)(base:Heap)(f:Addr)(cdv:Value)(A:Around)(outer:List Env)(s:Shared)(H:Hp)(E:XK):Cx:=XOf jFU "turned" yR P w K mg base f cdv A outer s H E
def turLA (T:Txt mg): { t:TS // JSs (XTur P w K mg base f cdv A outer s H0 E) (yQ ((jB yR).getD 2 (.Pass ⟨0,0,0,0⟩))) t} :=
 have nd:=scTurned.nd
 ⟨_,(jD (yE (jJ qD (jv 6 rfl vL) (jv 2 rfl vL) (jP _)) (jD (jBA (je_bm bq bL bM jA6 (jv 5 rfl vL) (j0 (jv 7 rfl vL) j5 j3) j3) jO)) (j7 (jF (i:=8) nd rfl (yS (by decide+kernel)) (jE jU (jv 7 rfl vL) (jv 3 rfl vL) kL) jCB)
   (jD (jBA (je_bm bq bL bM jA6 (jv 5 rfl vL) (j0 (kQ (m:=[none,none,some 4,some 8,some 1]) (Nc:=["entry","other","turn","factor","bottom"]) rfl (jMU gD T.zip (j0 (jv 7 rfl vL) (j0 (jE jU (jv 0 rfl vL) (jv 2 rfl vL) kL) j5 jL) j3) j3) rfl (by decide+kernel) (by decide+kernel) (jW (psc:=j8 yR) (by decide+kernel)) (jI (N:=jFU) rfl rfl (by decide+kernel)) (fun cl C fp s H=>jCR (i:=0) (j:=1) rfl (show (["entry","other","turn","factor","bottom"]:List Str).Nodup by decide+kernel) rfl rfl (by decide+kernel) (by decide+kernel)) (fun cl C fp s H=>kP) (fun cl C fp s H=>(jX jBH (jX jB3 (jX jAO (jv 0 rfl (kB (by decide+kernel))) (jv 2 rfl (kJ (by decide+kernel)))) (jX jAO (jv 3 rfl (kJ (by decide+kernel))) (jv 1 rfl (kB (by decide+kernel))))) (jv 4 rfl (kJ (by decide+kernel))))) kR) j5 jQ) jQ) jO)))))⟩
def turA (T:Txt mg): { t:TS // JSs (XTur P w K mg base f cdv A outer s H0 E) (jB yR) t} :=
 have nd:=scTurned.nd
 ⟨_,(j7 (jF (i:=4) nd rfl (yS (by decide+kernel)) (jE jU (jE jU (jv 0 rfl vL) (jv 2 rfl vL) kL) (jv 3 rfl vL) kL) jCB) (j7 (jF (i:=5) nd rfl lL (jAL j5) jCC) (j7 (yW bb rfl (jJT gD T.enumerate (j0 (jv 0 rfl vL) j5 j3) j3) (jGR (i:=6) (j:=7) nd rfl rfl (by decide+kernel) (by decide+kernel)) (turLA T).2 kR) (jD (jV (jv 5 rfl vL))))))⟩
theorem jI6 (T:Txt mg){D:Ends}{H:Hp}{t l a:Addr}{B:Sx.Bx}{b:Nat->Nat}{q r i:Nat}{us:List V}{v8:Option V}(tb:TabB H t B b)(v:Sx.Val B.P b)(hr:r<B.n)(hq:q<B.p+B.n)(hi:i<B.n+1)(n50:B.p+B.n<=50)(bd:∀ i c,(B.P.T b i c).natAbs<2 ^ 6000)(bD:(B.P.D b).natAbs.log2<9000)(ha:H a=some (.lst ((rowM B b (wid' B i) i).map V.int)))(hl:H l=some (.lst us))(ul:us.length<=100)
  (nx:∀ H' u v8,H' l=some (.lst (us++[u]))->u≠V.ref l->(u=V.ref a\/∃ d,u=V.ref d/\H d=none)->RowA H' u (rowM B (fs b r q) (wid' B i) i)->(∀ c o,H c=some o->c≠l->H' c=some o)->D.nx [some (.ref t),some (.int (B.P.D b)),some (.int (r:Int)),some (.int (q:Int)),some (.int (B.P.T b r q)),some (.ref l),some (.int (i:Int)),some (.ref a),v8] H') (al:a≠l):
  (turLA (f:=f) (cdv:=cdv) (A:=A) (outer:=outer) (s:=s) (H0:=H0) (E:=E) (P:=P) (w:=w) (K:=K) (base:=base) T).1 D [some (.ref t),some (.int (B.P.D b)),some (.int (r:Int)),some (.int (q:Int)),some (.int (B.P.T b r q)),some (.ref l),some (.int (i:Int)),some (.ref a),v8] H:=by
 refine⟨_,rfl,_,rfl,rfl,_,rfl,ite2 (fun h=>?_) (fun h=>?_)⟩
 ·have h:V.int (i:Int)=V.int (r:Int):=au h
  have h:(i:Int)=(r:Int):=by injection h
  have h:i=r:=by omega
  subst h
  refine⟨_,rfl, .inl ⟨rfl,_,SqL.of hl⟩,_,rfl,l,us,_,rfl,rfl,hl,by rw[aj]; omega,?_⟩
  refine nx _ (.ref a) _ j4 (fun z=>al (by cases z; rfl)) (.inl rfl) ⟨a,rfl,?_⟩ fun c o h n=>by rw[j9 n]; exact h
  rw[j9 al,ha]
  have e:rowM B b (wid' B i) i=rowM B (fs b i q) (wid' B i) i:=bj fun c _=>(Sx.T_r (S:=B.P.S)).symm
  rw[e]
 ·have h:¬ V.int (i:Int)=V.int (r:Int):=fun z=>h (ar z)
  have h:i≠r:=fun z=>h (by rw[z])
  have iw:q<wid' B i:=by unfold wid'; split <;> omega
  have iw2:wid' B i<=B.p+B.n+1:=by unfold wid'; split <;> omega
  obtain⟨us',a',ht,_,_,hat,ha'⟩:=tb.row hr
  refine⟨_,rfl,_,rfl,a,_,(q:Int),_,rfl,rfl,SqL.of ha,yB (jIU iw),?_⟩
  refine⟨_,rfl, .inl ⟨rfl,_,SqL.of hl⟩,_,rfl,_,rfl,_,rfl,t,us',(r:Int),_,rfl,rfl,SqL.of ht,hat,?_⟩
  have n50':wid' B i<PySem.sizeLine:=by rw[aj]; omega
  refine⟨false,false,a,a',rfl,⟨_,SqL.of ha⟩,⟨_,SqL.of ha'⟩,jH5 (xs:=(rowM B b (wid' B i) i).map V.int) (ys:=(rowI B b r).map V.int) (by rw[jC5]; exact n50') (fun D j σ' H' zs=>(∃ v1 v2,σ'=[v1,v2,some (.int (B.P.T b r q)),some (.int (B.P.T b i q)),some (.int (B.P.D b))])/\zs=(rowM B (fs b r q) j i).map V.int/\Ext H H'/\H' D=some (.lst zs)/\H D=none) ?_ ?_ ?_ ?_⟩
  ·intro D hD
   exact⟨⟨_,_,rfl⟩,rfl,(Ext.refl _).new hD _,j4,hD⟩
  ·rintro D j σ' H' zs hD ⟨_,hz,e,hD',_⟩
   exact⟨SqL.of (e _ _ ha),SqL.of (e _ _ ha'),hD',by rw[hz,jC5]; exact af _⟩
  ·rintro D j σ' H' zs x y Tp hD hx hy hT ⟨⟨v1,v2,rfl⟩,hz,e,hD',_⟩
   have jw:j<wid' B i:=by have:=(ay.mp hx).1; rwa [jC5] at this
   rw[jIU jw] at hx
   cases hx
   rw[jB6 (by omega)] at hy
   cases hy
   have e2:Ext H' (L2.upd H' Tp (.tup [.int (B.P.T b i j), .int (B.P.T b r j)])):=(Ext.refl _).new hT _
   have d2:(L2.upd H' Tp (.tup [.int (B.P.T b i j), .int (B.P.T b r j)])) Tp=some (.tup [.int (B.P.T b i j), .int (B.P.T b r j)]):=j4
   generalize L2.upd H' Tp (.tup [.int (B.P.T b i j), .int (B.P.T b r j)])=H2 at e2 d2
   refine⟨Tp,_,rfl,SqT.of d2,rfl,_,_,rfl,_,_,rfl,rfl,?_⟩
   dsimp only [yG]
   rw[ah rfl]
   refine⟨_,rfl,_,rfl,_,_,rfl,rfl,⟨bd _ _,bd _ _⟩,_,rfl,_,rfl,_,_,rfl,rfl,⟨bd _ _,bd _ _⟩,_,_,rfl,rfl,_,rfl,_,_,rfl,rfl,⟨v.d,bD⟩,?_⟩
   have pv:=Sx.T_piv (S:=B.P.S) (q:=q) (c:=j) v.sp (aq hr) hi h
   have dv:(B.P.T b i j*B.P.T b r q - B.P.T b i q*B.P.T b r j) / B.P.D b=B.P.T (fs b r q) i j:=by
    have pv:B.P.D b*B.P.T (fs b r q) i j=B.P.T b i j*B.P.T b r q - B.P.T b i q*B.P.T b r j:=pv
    rw[<- pv]
    exact Int.mul_ediv_cancel_left _ (by have:=v.d; omega)
   dsimp only
   rw[dv]
   refine⟨e2 _ _ hD',⟨_,_,rfl⟩,?_,(e.trans e2).updNew hD _,j4,hD⟩
   rw[hz]
   unfold rowM
   rw[cf,aD,aD]
   rfl
  ·rintro D2 σ' H2 zs hD ⟨_,hz,e,hD',_⟩
   rw[jC5,jGJ,Nat.min_eq_left iw2] at hz
   have l2:=e _ _ hl
   have dl:D2≠l:=fun z=>by rw[z,hl] at hD; cases hD
   refine⟨l,us,_,rfl,rfl,l2,by rw[aj]; omega,?_⟩
   exact nx _ (.ref D2) _ j4 (fun z=>dl (by cases z; rfl)) (.inr ⟨D2,rfl,hD⟩) ⟨D2,rfl,by rw[j9 dl,hD',hz]⟩ fun c o h n=>by rw[j9 n]; exact e _ _ h
def jDK:Sp:=fun vs H Q _=>∃ (t:Addr) (B:Sx.Bx) (b:Nat->Nat) (r q:Nat),vs=[.ref t, .int (B.P.D b), .int (r:Int), .int (q:Int)]/\TabB H t B b/\Sx.Val B.P b/\r<B.n/\q<B.p+B.n/\B.p+B.n<=50/\(∀ i c,(B.P.T b i c).natAbs<2 ^ 6000)/\(B.P.D b).natAbs.log2<9000/\∀ us l H' zs,H t=some (.lst us)->H' l=some (.lst zs)->All2 (RowA H') zs (tabI B (fs b r q))->(∀ u∈zs,u∈us\/∃ d,u=V.ref d/\H d=none)->Ext H H'->H l=none->Q (.ref l) H'
theorem jJ5 {fd:FuncData}(F:Fun K "turned" "turned" yR f fd)(T:Txt mg):FnOk P w K mg base CX0 1 f fd ["table","bottom","row","column"] jDK:=by
 refine F.ok scTurned (fun vs H Q E h=>?_) (fun cdv A outer s H vs Q E hr h=>?_)
 ·obtain⟨_,_,_,_,_,rfl,_⟩:=h
  rfl
 ·obtain⟨t,B,b,r,q,rfl,tb,v,hrn,hq,n50,bd,bD,qq⟩:=h
  refine⟨_,(turA T).2.h,?_⟩
  obtain⟨us,a,ht,ul,_,hat,ha⟩:=tb.row hrn
  refine⟨_,rfl,_,rfl,t,us,(r:Int),_,rfl,rfl,SqL.of ht,hat,_,rfl,a,_,(q:Int),_,rfl,rfl,SqL.of ha,yB (jB6 (by omega)),?_⟩
  refine⟨by show (0:Nat)<=_; decide,fun l H1 d1 e1 n1=>?_⟩
  have lt:l≠t:=fun z=>by rw[z,ht] at n1; cases n1
  obtain⟨us2,ht2,ul2,al2⟩:=tb.len
  rw[ht] at ht2
  cases ht2
  refine⟨_,rfl,false,t,rfl,⟨_,SqL.of (e1 _ _ ht)⟩,jH2 (tp:=false) (xs:=us) (fun i σ H'=>(∃ v6 v7 v8,σ=[some (.ref t),some (.int (B.P.D b)),some (.int (r:Int)),some (.int (q:Int)),some (.int (B.P.T b r q)),some (.ref l),v6,v7,v8])/\(∀ c o,H1 c=some o->c≠l->H' c=some o)/\∃ zs,H' l=some (.lst zs)/\All2 (RowA H') zs ((tabI B (fs b r q)).take i)/\(∀ u∈zs,u≠ .ref l)/\∀ u∈zs,u∈us\/∃ d,u=V.ref d/\H d=none) ⟨⟨_,_,_,rfl⟩,fun _ _ h _=>h,[],d1,trivial,(fun _ h=>by cases h),fun _ h=>by cases h⟩ (fun i σ H' ⟨_,k,_⟩=>SqL.of (k _ _ (e1 _ _ ht) (dj lt))) ?_ ?_⟩
  ·rintro i x Tp σ H2 hx hT ⟨⟨v6,v7,v8,rfl⟩,k2,zs,l2,a2,nl,od⟩
   have hi:i<B.n+1:=by rw[<- ul]; exact(ay.mp hx).1
   obtain⟨row,hrow,ax,rfl,hax⟩:=All2.get' al2 hx
   rw[jGC hi] at hrow
   cases hrow
   have e3:Ext H2 (L2.upd H2 Tp (.tup [.int (i:Int), .ref ax])):=(Ext.refl _).new hT _
   have d3:(L2.upd H2 Tp (.tup [.int (i:Int), .ref ax])) Tp=some (.tup [.int (i:Int), .ref ax]):=j4
   generalize L2.upd H2 Tp (.tup [.int (i:Int), .ref ax])=H3 at e3 d3
   refine⟨Tp,_,rfl,SqT.of d3,rfl,_,_,rfl,_,_,rfl,rfl,?_⟩
   have axl:ax≠l:=fun z=>by rw[z] at hax; rw[hax] at n1; cases n1
   have zl:=All2.len a2
   have k3:∀ c o,H c=some o->H3 c=some o:=fun c o h=>e3 _ _ (k2 _ _ (e1 _ _ h) fun z=>by rw[z,n1] at h; cases h)
   have tb3:TabB H3 t B b:=by
    obtain⟨us3,x1,x2⟩:=tb
    exact⟨us3,k3 _ _ x1,x2.imp fun _ _ z=>z.mono fun _ _ q=>k3 _ _ q⟩
   refine jI6 T tb3 v hrn hq hi n50 bd bD (k3 _ _ hax) (e3 _ _ l2) (by rw[zl]; have:=cm i (tabI B (fs b r q)); omega) (fun H4 u v8 l4 nu ou r4 k4=>⟨⟨_,_,_,rfl⟩,fun c o h n=>k4 _ _ (e3 _ _ (k2 _ _ h n)) n,_,l4,?_,?_,?_⟩) axl
   ·rw[jIC hi]
    refine All2.append (All2.imp' a2 fun u l hu ⟨a,e,q⟩=>⟨a,e,k4 _ _ (e3 _ _ q) fun z=>nl u hu (by rw[e,z])⟩) ⟨r4,trivial⟩
   ·intro x hx
    rcases bx.mp hx with y | y
    ·exact nl x y
    ·rw[be.mp y]; exact nu
   ·intro x hx'
    rcases bx.mp hx' with y | y
    ·exact od x y
    ·rw[be.mp y]
     rcases ou with e | ⟨d,e,hd⟩
     ·rw[e]; exact .inl (aO hx)
     ·exact .inr ⟨d,e,by
       cases z:H d with
       | none=>rfl
       | some o=>rw[k3 _ _ z] at hd; cases hd⟩
  ·rintro σ H2 ⟨⟨v6,v7,v8,rfl⟩,k2,zs,l2,a2,nl,od⟩
   have tl:(tabI B (fs b r q)).take us.length=tabI B (fs b r q):=aX (by
    unfold tabI
    rw[aN,ac,ao,ul]
    exact af _)
   rw[tl] at a2
   exact⟨_,rfl,qq us l H2 zs ht l2 a2 od (fun c o h=>k2 _ _ (e1 _ _ h) fun z=>by rw[z,n1] at h; cases h) n1⟩
end
end Eo
end
section
namespace L2
open PySem PySem.Spec PyProof.Rows
theorem jE6 {X:Cx}(hc:X.calm=true):yJ X (.type "list") (fun xs H Q=>∃ p i j,xs=[.ref p]/\H p=some (.rng i j)/\0<=i/\i<=j/\j<=1000/\∀ l,H l=none->Q (.ref l) (upd H l (.lst ((jCV i (j - i).toNat).map V.int)))):=by
 intro pins s σ H xs us Q I r h
 obtain⟨p,i,j,rfl,hp,h0,h1,h2,q⟩:=h
 obtain⟨u,rfl,rx⟩:=r.one
 cases rx
 obtain⟨t,u,v,e⟩:=I.hok p _ hp
 have en:Builtin.Range.rangeSize i j 1=((j - i).toNat:Int):=by
  rw[rangeSize_one]
  split <;> omega
 refine call_list_range (I.ok.hd hc) (show IsRange s.heap p i j 1 t u v from e) (small_one (by omega) (by omega) (by omega) (by omega)) en (by omega) fun h' tk acc' c' kp hS hacc=>?_
 refine⟨.ref s.heap.objs.size,_,I.laid (t':=tk) (o:= .lst ((jCV i (j - i).toNat).map V.int)) kp (af _) ?_,rfl,q _ I.fresh⟩
 refine⟨?_,acc'.toList,c',jI1 hacc,by rw[cU]; exact hS⟩
 unfold jCV
 rw[ac,ac,ao,cL]
 omega
end L2
namespace Eo
open PySem L2
theorem jN1 {wi lack:Int}{ms:List Int}{pcs:List (List Int×Int)}(g:Good 16 32 wi ms pcs)(hl:lack.natAbs<2 ^ 200):∀ c,c<(bxO wi ms pcs lack).p->((bxO wi ms pcs lack).co c).natAbs<=2 ^ 205:=fun c hc=>by
 have hc:c<pcs.length:=hc
 have gp:=g.at hc
 have lo:=gp.lo
 have hi:=gp.hi
 have w1:=g.w1
 have ml:((mus ms wi.toNat).filter fun x=>decide (x∈(pcs.getD c ([],0)).1)).length<=16:=by
  have:=jCN ms wi.toNat
  have:=bK (fun x=>decide (x∈(pcs.getD c ([],0)).1)) (mus ms wi.toNat)
  omega
 show ((pcs.getD c ([],0)).2 - lack*((((mus ms wi.toNat).filter fun m=>decide (m∈(pcs.getD c ([],0)).1)).length:Nat):Int)).natAbs<=2 ^ 205
 generalize ((mus ms wi.toNat).filter fun m=>decide (m∈(pcs.getD c ([],0)).1)).length=m at ml ⊢
 generalize (pcs.getD c ([],0)).2=x at lo hi ⊢
 have a:(lack*(m:Int)).natAbs<=2 ^ 200*16:=by
  rw[cY,eh]
  exact cW (cZ hl) ml
 have e1:2 ^ 200*16=2 ^ 204:=by decide
 have e2:2 ^ 204+1000000000000<=2 ^ 205:=by decide
 rw[e1] at a
 generalize lack*(m:Int)=y at a ⊢
 generalize (2:Nat) ^ 204=z1 at a e2
 generalize (2:Nat) ^ 205=z2 at e2 ⊢
 omega
theorem bxO_T {wi lack:Int}{ms:List Int}{pcs:List (List Int×Int)}(g:Good 16 32 wi ms pcs)(hl:lack.natAbs<2 ^ 200)(b:Nat->Nat):(∀ i c,((bxO wi ms pcs lack).P.T b i c).natAbs<2 ^ 6000)/\((bxO wi ms pcs lack).P.D b).natAbs<2 ^ 6000:=by
 have w1:=g.w1
 have n17:(bxO wi ms pcs lack).n+1<=17:=by show wi.toNat+1<=17; omega
 have key:((bxO wi ms pcs lack).n+1+2 ^ 205) ^ ((bxO wi ms pcs lack).n+1)<2 ^ 6000:=by
  refine bw (gx (show _<=2 ^ 206 from ?_) _) (bw (bu (by decide) n17) ?_)
  ·have:17+2 ^ 205<=2 ^ 206:=by decide
   exact aH (Nat.add_le_add_right n17 _) this
  ·rw[<- Nat.pow_mul]
   exact dL (by decide) (by decide)
 exact⟨fun i c=>bw (Sx.Bx.T_abs (jN1 g hl) b i c) key,bw (Sx.Bx.D_abs (jN1 g hl) b) key⟩
theorem jLS {n:Nat}(h:n<2 ^ 6000):n.log2<9000:=by
 by_cases z:n=0
 ·rw[z]; decide
 ·have:=(gQ z).mpr h
  omega
theorem jQP {wi lack:Int}{ms:List Int}{pcs:List (List Int×Int)}(g:Good 16 32 wi ms pcs):∀ c,c<(bxO wi ms pcs lack).p->∃ k,k<(bxO wi ms pcs lack).n/\(bxO wi ms pcs lack).inn c k=true:=fun c hc=>by
 have hc:c<pcs.length:=hc
 have gp:=(g.at hc).lot
 cases e:(pcs.getD c ([],0)).1 with
 | nil=>exact absurd e gp.ne
 | cons x r=>
  have b:=gp.bnd x (by rw[e]; exact aA ..)
  refine⟨x.toNat,show x.toNat<wi.toNat by omega,ar ?_⟩
  rw[show ((x.toNat:Nat):Int)=x by omega,e]
  exact aA ..
theorem jN8 {B:Sx.Bx}{b:Nat->Nat}{r q:Nat}(hr:r<B.n):((tkn B b).map V.int).set r (.int (q:Int))=(tkn B (fs b r q)).map V.int:=by
 refine eV fun j=>?_
 rw[List.getElem?_set,jCA]
 by_cases h:r=j
 ·subst h
  rw[ah rfl,ah hr,jEH hr,jCW]
 ·rw[ai h]
  by_cases hj:j<B.n
  ·rw[jEH hj,jEH hj,fs_ne (fun z=>h z.symm)]
  ·rw[bJ (by rw[jCA]; omega),bJ (by rw[jCA]; omega)]
def Rn (P:Sx.Prob)(b0:Nat->Nat):Nat->(Nat->Nat)->Prop
 | 0,b=>b=b0
 | k+1,b=>∃ a,Rn P b0 k a/\Sx.Stp P a b
def colV (q:Option Nat):V:=match q with
 | none=> .non
 | some q=> .int (q:Int)
def ColI (B:Sx.Bx)(b:Nat->Nat)(q:Option Nat):Prop:=match q with
 | none=>∀ c,c<B.p+B.n->0<=B.P.T b B.n c
 | some q=>Sx.Ent B.P b q
section
variable {P:Program}{w:World}{K:W.Frag}{mg:Str->Option Value}{base:Heap}
variable {f fF fC fR fT:Addr}{fdF fdC fdR fdT:FuncData}{cdv:Value}{A:Around}{outer:List Env}{s:Shared}{H0:Hp}{E:XK}
noncomputable abbrev nBal:List Str:=["box","lack","pieces","table","taken","bottom","column","row","parts","most","prices"]
theorem scBal:FnScope nBal ["box","lack"] (j8 sBal):=⟨rfl,rfl,rfl,by decide+kernel,rfl,by decide+kernel,by decide+kernel⟩
abbrev XBal (P:Program)(w:World)(K:W.Frag)(mg:Str->Option Value)(base:Heap)(f:Addr)(cdv:Value)(A:Around)(outer:List Env)(s:Shared)(H:Hp)(E:XK):Cx:=XOf nBal "balanced" sBal P w K mg base f cdv A outer s H E
structure BalW (P:Program)(w:World)(K:W.Frag)(mg:Str->Option Value)(base:Heap)(fF fC fR fT:Addr)(fdF fdC fdR fdT:FuncData):Prop where
 T:Txt mg
 CF:Can P w K mg base "first_table" 2 fF fdF ["box","lack"] jFL
 CC:Can P w K mg base "column_to_take" 1 fC fdC ["table"] jIN
 CR:Can P w K mg base "row_to_give" 1 fR fdR ["table","taken","column"] jIK
 CT:Can P w K mg base "turned" 1 fT fdT ["table","bottom","row","column"] jDK
section
variable (G:BalW P w K mg base fF fC fR fT fdF fdC fdR fdT)(hr:Room 2 (XBal P w K mg base f cdv A outer s H0 E).A)
def balWA: { t:TS // JSs (XBal P w K mg base f cdv A outer s H0 E) (match (jB sBal).getD 5 (.Pass ⟨0,0,0,0⟩) with | .While _ b _ _=>b | _=> []) t} :=
 have nd:=scBal.nd
 ⟨_,(j7 (jF (i:=7) nd rfl lL (G.CR.je (hr.mono (by decide)) gD (j0 (jv 3 rfl vC) (j0 (jv 4 rfl vC) (j0 (jv 6 rfl vL) j5 j3) j3) j3) j3) jO)
   (j7 (jF (i:=3) nd rfl (yS (by decide+kernel)) (G.CT.je (hr.mono (by decide)) gD (j0 (jv 3 rfl vC) (j0 (jv 5 rfl vC) (j0 (jv 7 rfl vL) (j0 (jv 6 rfl vL) j5 j3) j3) j3) j3) j3) jO)
   (j7 (jF (i:=5) nd rfl (yS (by decide+kernel)) (jE jU (jE jU (jv 3 rfl vC) (jv 7 rfl vL) kL) (jv 6 rfl vL) kL) jCB)
   (j7 (jEU (jv 6 rfl vL) (jEV (jv 4 rfl vC) (jv 7 rfl vL) jAU))
   (jD (jF (i:=6) nd rfl lL (G.CC.je (hr.mono (by decide)) gD (j0 (jv 3 rfl vC) j5 j3) j3) jO))))))⟩
def balEA: { t:TS // JSs (XBal P w K mg base f cdv A outer s H0 E) ((jB sBal).drop 6) t} :=
 have nd:=scBal.nd
 ⟨_,(j7 (jCQ (i:=8) nd rfl lL ⟨by rfl⟩ (m:=[none,some 4,some 3]) (Nc:=["piece","taken","table"]) rfl (kT gD G.T.range (j0 (jv 2 rfl vC) j5 j3) j3) rfl (by decide+kernel) (by decide+kernel) (jW (psc:=j8 sBal) (by decide+kernel)) (jI (N:=nBal) rfl rfl (by decide+kernel)) (fun cl C fp s H=>jK (i:=0) (show (["piece","taken","table"]:List Str).Nodup by decide+kernel) rfl (yD (by decide+kernel))) (fun cl C fp s H=>kP) (fun cl C fp s H=>(jGW (jJ jCJ (jv 0 rfl (kB (by decide+kernel))) (jv 1 rfl (kJ (by decide+kernel))) jBT) (jE jAR (jE jAR (jv 2 rfl (kJ (by decide+kernel))) (jOL bq PySem.F.slot_list_index PySem.F.type_list_index jJH (jv 1 rfl (kJ (by decide+kernel))) (j0 (jv 0 rfl (kB (by decide+kernel))) j5 j3) j3) jFQ) (je_un jEE (j6)) px_un) (j6))) kR)
   (j7 (jOK (i:=9) nd rfl (yS (by decide+kernel)) (kQ (m:=[none,some 0,some 1,some 5]) (Nc:=["thing","box","lack","bottom"]) rfl (kT gD G.T.range (j0 (jE jG (jv 0 rfl vC) (j6) jC) j5 jL) jL) rfl (by decide+kernel) (by decide+kernel) (jW (psc:=j8 sBal) (by decide+kernel)) (jI (N:=nBal) rfl rfl (by decide+kernel)) (fun cl C fp s H=>jK (i:=0) (show (["thing","box","lack","bottom"]:List Str).Nodup by decide+kernel) rfl (yD (by decide+kernel))) (fun cl C fp s H=>kP) (fun cl C fp s H=>(jGW (jJ jCJ (jv 0 rfl (kB (by decide+kernel))) (jE jAB (jv 1 rfl (kJ (by decide+kernel))) (j6) jC) jCL) (j6) (jX jAO (jv 2 rfl (kJ (by decide+kernel))) (jv 3 rfl (kJ (by decide+kernel)))))) kR) (by rfl))
   (j7 (jCQ (i:=10) nd rfl lL ⟨by rfl⟩ (m:=[none,some 9,some 3,some 2]) (Nc:=["thing","most","table","pieces"]) rfl (kT gD G.T.range (j0 (jE jG (jv 0 rfl vC) (j6) jC) j5 jL) jL) rfl (by decide+kernel) (by decide+kernel) (jW (psc:=j8 sBal) (by decide+kernel)) (jI (N:=nBal) rfl rfl (by decide+kernel)) (fun cl C fp s H=>jK (i:=0) (show (["thing","most","table","pieces"]:List Str).Nodup by decide+kernel) rfl (yD (by decide+kernel))) (fun cl C fp s H=>kP) (fun cl C fp s H=>(jX jB3 (jE jAR (jv 1 rfl (kJ (by decide+kernel))) (jv 0 rfl (kB (by decide+kernel))) kL) (jE jAR (jE jAR (jv 2 rfl (kJ (by decide+kernel))) (je_un jEE (j6)) px_un) (jX kW (jv 3 rfl (kJ (by decide+kernel))) (jv 0 rfl (kB (by decide+kernel)))) jP7))) kR)
   (jD (jV (jAF (j0 (jv 8 rfl vL) (j0 (jv 10 rfl vL) (j0 (jv 5 rfl vC) j5 j3) j3) j3)))))))⟩
def balA: { t:TS // JSs (XBal P w K mg base f cdv A outer s H0 E) (jB sBal) t} :=
 have nd:=scBal.nd
 ⟨_,(j7 (jF (i:=2) nd rfl (yS (by decide+kernel)) (jN jZ gD G.T.len (by decide+kernel) (j0 (jE jG (jv 0 rfl vC) (j6) jC) j5 jL) jL) jO) (j7 (jF (i:=3) nd rfl (yS (by decide+kernel)) (G.CF.je (hr.mono (by decide)) gD (j0 (jv 0 rfl vC) (j0 (jv 1 rfl vC) j5 j3) j3) j3) jO) (j7 (jF (i:=4) nd rfl (yS (by decide+kernel)) (kN (jE6 rfl) gD G.T.list (by decide+kernel) (j0 (kN jF3 gD G.T.range (by decide+kernel) (j0 (jv 2 rfl vC) (j0 (jX kW (jv 2 rfl vC) (jE jG (jv 0 rfl vC) (j6) jC)) j5 kZ) j3) j3) j5 jT) jT) jO) (j7 (jF (i:=5) nd rfl (yS (by decide+kernel)) (j6) jBC) (j7 (jF (i:=6) nd rfl lL (G.CC.je (hr.mono (by decide)) gD (j0 (jv 3 rfl vC) j5 j3) j3) jO) (j7 (jDY bb (jJ jO0 (jv 6 rfl vL) (jGV) (jP _)) (balWA G hr).2) (balEA G).2))))))⟩
structure BalI (H:Hp)(t k:Addr)(B:Sx.Bx)(b:Nat->Nat):Prop where
 v:Sx.Val B.P b
 tb:TabB H t B b
 tk:H k=some (.lst ((tkn B b).map V.int))
 ne:t≠k
 ap:∀ us,H t=some (.lst us)->∀ u∈us,u≠V.ref k
theorem jKV {D:Ends}{H:Hp}{t k:Addr}{B:Sx.Bx}{b:Nat->Nat}{q:Nat}{v0 v1 v2 v7 v8 v9 v10:Option V}(bi:BalI H t k B b)(en:Sx.Ent B.P b q)(ne:∀ c,c<B.p->∃ k,k<B.n/\B.inn c k=true)(n16:B.n<=16)(n50:B.p+B.n<=50)(bd:∀ b,(∀ i c,(B.P.T b i c).natAbs<2 ^ 6000)/\(B.P.D b).natAbs<2 ^ 6000)
  (nx:∀ H' t' b' q' r,Sx.Stp B.P b b'->BalI H' t' k B b'->ColI B b' q'->(∀ c o,H c=some o->c≠k->H' c=some o)->D.nx [v0,v1,v2,some (.ref t'),some (.ref k),some (.int (B.P.D b')),some (colV q'),some (.int (r:Int)),v8,v9,v10] H'):
  (balWA G hr).1 D [v0,v1,v2,some (.ref t),some (.ref k),some (.int (B.P.D b)),some (.int (q:Int)),v7,v8,v9,v10] H:=by
 refine⟨_,rfl,_,rfl,_,rfl,t,k,B,b,q,rfl,bi.tb,bi.tk,en.lt,n16,(bd b).1,Sx.Bx.some_row ne bi.v en.lt,fun r lv=>?_⟩
 refine⟨_,rfl,_,rfl,_,rfl,_,rfl,t,B,b,r,q,rfl,bi.tb,bi.v,lv.lt,en.lt,n50,(bd b).1,jLS (bd b).2,fun us l H1 zs ht hl al od e1 nl=>?_⟩
 have tb1:TabB H1 l B (fs b r q):=⟨zs,hl,al⟩
 have k1:=e1 _ _ bi.tk
 have lk:l≠k:=fun z=>by rw[z,bi.tk] at nl; cases nl
 have zk:∀ u∈zs,u≠V.ref k:=fun u hu z=>by
  rcases od u hu with y | ⟨d,y,hd⟩
  ·exact bi.ap us ht u y z
  ·rw[z] at y
   cases y
   rw[bi.tk] at hd
   cases hd
 obtain⟨us2,a2,ht2,ul2,_,hat2,ha2⟩:=tb1.row lv.lt
 rw[hl] at ht2
 cases ht2
 refine⟨_,rfl,_,rfl,l,zs,(r:Int),_,rfl,rfl,SqL.of hl,hat2,_,rfl,a2,_,(q:Int),_,rfl,rfl,SqL.of ha2,yB (jB6 (by have:=en.lt; show q<B.p+B.n+1; have h:q<B.p+B.n:=en.lt; omega)),?_⟩
 have eD:B.P.T (fs b r q) r q=B.P.D (fs b r q):=by
  have h1:B.P.S.D (fs b r q)=B.P.S.T b r q:=Sx.D_fs
  have h2:B.P.S.T (fs b r q) r q=B.P.S.T b r q:=Sx.T_r
  exact h2.trans h1.symm
 rw[eD]
 refine⟨_,rfl,_,rfl,_,rfl,k,_,_,r,rfl,rfl,k1,?_,?_⟩
 ·unfold ixN
  rw[jCA]
  have:=lv.lt
  have h:r<B.n:=this
  simp
  omega
 rw[jN8 lv.lt]
 have d2:(L2.upd H1 k (.lst ((tkn B (fs b r q)).map V.int))) k=some (.lst ((tkn B (fs b r q)).map V.int)):=j4
 have k2:∀ c o,H1 c=some o->c≠k->(L2.upd H1 k (.lst ((tkn B (fs b r q)).map V.int))) c=some o:=fun c o h n=>by rw[j9 n]; exact h
 generalize L2.upd H1 k (.lst ((tkn B (fs b r q)).map V.int))=H2 at d2 k2
 have al2:All2 (RowA H2) zs (tabI B (fs b r q)):=All2.imp' al fun u l hu ⟨a,e,q⟩=>⟨a,e,k2 _ _ q fun z=>zk u hu (by rw[e,z])⟩
 have l2:=k2 _ _ hl lk
 have st:Sx.Stp B.P b (fs b r q):=⟨q,r,en,lv,rfl⟩
 have v2:=bi.v.stp st
 have mk:∀ H3,Ext H2 H3->BalI H3 l k B (fs b r q):=fun H3 e3=>⟨v2,TabA.ext ⟨zs,l2,al2⟩ e3,e3 _ _ d2,lk,fun us h u hu=>by
  rw[e3 _ _ l2] at h
  cases h
  exact zk u hu⟩
 refine⟨_,rfl,l,B,fs b r q,rfl,⟨zs,l2,al2⟩,fun q3 H3 en3 e3=>?_,fun op H3 e3=>?_⟩
 ·exact nx H3 l _ (some q3) r st (mk H3 e3) en3 fun c o h n=>e3 _ _ (k2 _ _ (e1 _ _ h) n)
 ·exact nx H3 l _ none r st (mk H3 e3) op fun c o h n=>e3 _ _ (k2 _ _ (e1 _ _ h) n)
def xL (B:Sx.Bx)(b:Nat->Nat):List Int:=(List.range B.p).map fun c=>B.xP b c
def yL (ms:List Int)(lack:Int)(B:Sx.Bx)(b:Nat->Nat):List Int:=(List.range B.n).map fun (k:Nat)=>(if decide ((k:Int)∈ms)=true then 0 else lack*B.P.D b) - B.P.T b B.n (B.p+k)
theorem jKW {D:Ends}{H:Hp}{x t k:Addr}{wi lack:Int}{ms:List Int}{pcs:List (List Int×Int)}{b:Nat->Nat}{v6 v7 v8 v9 v10:Option V}(hB:BoxAt H x wi ms pcs)(g:Good 16 32 wi ms pcs)(hl:lack.natAbs<2 ^ 200)(bi:BalI H t k (bxO wi ms pcs lack) b)
  (rt:∀ r lp ly H',H' r=some (.tup [.ref lp, .ref ly, .int ((bxO wi ms pcs lack).P.D b)])->H' lp=some (.lst ((xL (bxO wi ms pcs lack) b).map V.int))->H' ly=some (.lst ((yL ms lack (bxO wi ms pcs lack) b).map V.int))->Ext H H'->D.rt (.ref r) H'):
  (balEA (f:=f) (cdv:=cdv) (A:=A) (outer:=outer) (s:=s) (H0:=H0) (E:=E) G).1 D [some (.ref x),some (.int lack),some (.int ((pcs.length:Nat):Int)),some (.ref t),some (.ref k),some (.int ((bxO wi ms pcs lack).P.D b)),v6,v7,v8,v9,v10] H:=by
 obtain⟨qm,qp,ps,b1,b2,b3,b4⟩:=id hB.ex
 have gpl:=g.pl
 have w0:=g.w0
 have w1:=g.w1
 refine⟨_,rfl,_,rfl,by omega,by omega,jBN (n:=pcs.length) (fun σ=>∃ v,σ=[v,some (.ref k),some (.ref t)]) (mapZ (List.range pcs.length) fun c=>V.int ((bxO wi ms pcs lack).xP b c)) (mapZ.ok _ _) (by rw[aj]; omega) ⟨_,rfl⟩ ?_ ?_⟩
 ·rintro j σ' H' zs hj ⟨v,rfl⟩ e hz S1 S2 yes no
  dsimp only [kS,yG]
  rw[ah rfl]
  have e0:(0+(j:Int))=(j:Int):=by omega
  have hg:(List.range pcs.length)[j]?=some j:=aM hj
  have tk':=e _ _ bi.tk
  refine⟨_,rfl,_,rfl,k,_,rfl, .inl (SqL.of tk'),rfl,y8 _,_,rfl,?_⟩
  rw[yH,e0]
  have y:=hz.yes (H':=H') hg
  refine ite2 (fun h=>?_) (fun h=>?_)
  ·have h:(j:Int)∈tkn (bxO wi ms pcs lack) b:=au h
   obtain⟨i,hi,ei⟩:=aQ.mp h
   have hi:=aY.mp hi
   have ei:b i=j:=by omega
   have nd:∀ m,m<i->((tkn (bxO wi ms pcs lack) b)[m]?≠some (j:Int)):=fun m hm z=>by
    have hm':m<(bxO wi ms pcs lack).n:=by omega
    have:(tkn (bxO wi ms pcs lack) b)[m]?=some ((b m:Nat):Int):=by
     unfold tkn
     rw[az,aM hm']
     rfl
    rw[this] at z
    have z:((b m:Nat):Int)=(j:Int):=ba z
    have:=bi.v.inj hm' hi (by omega)
    omega
   have gi:(tkn (bxO wi ms pcs lack) b)[i]?=some (j:Int):=by
    unfold tkn
    rw[az,aM hi,<- ei]
    rfl
   have xi:(bxO wi ms pcs lack).xP b j=(bxO wi ms pcs lack).P.T b i ((bxO wi ms pcs lack).p+(bxO wi ms pcs lack).n):=by rw[<- ei]; exact Sx.Bx.xP_in bi.v hi
   rw[xi] at y
   obtain⟨us,a,ht,ul,_,hat,ha⟩:=TabB.row (TabA.ext bi.tb e) hi
   have tl:(tkn (bxO wi ms pcs lack) b).length<=1000:=by
    unfold tkn
    rw[ac,ao]
    show wi.toNat<=1000
    omega
   refine⟨_,rfl,_,rfl, .inl ⟨rfl,_,SqL.of tk'⟩,_,rfl,k,_,_,i,rfl,rfl,tk',tl,gi,nd,?_⟩
   refine⟨t,us,(i:Int),_,rfl,rfl,SqL.of ht,hat,_,rfl,a,_,_,_,rfl,rfl,SqL.of ha,jDR,?_⟩
   exact yes _ _ _ ⟨_,rfl⟩ (Ext.refl _) y
  ·have h:¬ (j:Int)∈tkn (bxO wi ms pcs lack) b:=fun z=>h (ar z)
   have x0:(bxO wi ms pcs lack).xP b j=0:=Sx.Bx.xP_out fun i hi ez=>h (aQ.mpr ⟨i,aY.mpr hi,by rw[ez]⟩)
   rw[x0] at y
   exact yes _ _ _ ⟨_,rfl⟩ (Ext.refl _) y
 ·rintro lp H1 zs d1 e1 n1 hz
  have hz:=hz.all (by rw[ao]; exact af _)
  have d1:H1 lp=some (.lst ((xL (bxO wi ms pcs lack) b).map V.int)):=by rw[d1,hz]; unfold xL; rw[bv]; rfl
  have bD:=(bxO_T g hl b).2
  have hB1:=hB.mono e1.tups
  refine⟨_,rfl,x,_,0,_,rfl,rfl,SqT.of (e1 _ _ b1),rfl,wi,rfl,by omega,by omega,jBN (n:=wi.toNat) (fun σ=>∃ v,σ=[v,some (.ref x),some (.int lack),some (.int ((bxO wi ms pcs lack).P.D b))]) (mapZ (List.range wi.toNat) fun (k:Nat)=>V.int (if decide ((k:Int)∈ms)=true then 0 else lack*(bxO wi ms pcs lack).P.D b)) (mapZ.ok _ _) (by rw[aj]; omega) ⟨_,rfl⟩ ?_ ?_⟩
  ·rintro j σ' H' zs' hj ⟨v,rfl⟩ e hz' S1 S2 yes no
   have e0:(0+(j:Int))=(j:Int):=by omega
   have hg:(List.range wi.toNat)[j]?=some j:=aM hj
   dsimp only [kS,yG]
   rw[ah rfl]
   have y:=hz'.yes (H':=H') hg
   have E1:=e1.trans e
   refine⟨_,rfl,_,rfl,x,_,1,_,rfl,rfl,SqT.of (E1 _ _ b1),rfl,qm,_,rfl, .inr (SqT.of (E1 _ _ b2)),rfl,y8 _,_,rfl,?_⟩
   rw[yH,e0]
   refine ite2 (fun h=>?_) (fun h=>?_)
   ·have h:decide ((j:Int)∈ms)=true:=h
    rw[ah h] at y
    exact yes _ _ _ ⟨_,rfl⟩ (Ext.refl _) y
   ·have h:¬ decide ((j:Int)∈ms)=true:=h
    rw[ai h] at y
    exact⟨_,rfl,_,rfl,_,_,rfl,rfl,⟨dX hl (dL (by decide) (by decide)),bD⟩,yes _ _ _ ⟨_,rfl⟩ (Ext.refl _) y⟩
  ·rintro lm H2 zs2 d2 e2 n2 hz2
   have hz2:=hz2.all (by rw[ao]; exact af _)
   have E2:=e1.trans e2
   have ml:zs2.length=wi.toNat:=by rw[hz2,ac,ao]
   refine⟨_,rfl,x,_,0,_,rfl,rfl,SqT.of (E2 _ _ b1),rfl,wi,rfl,by omega,by omega,jBN (n:=wi.toNat) (fun σ=>∃ v,σ=[v,some (.ref lm),some (.ref t),some (.int ((pcs.length:Nat):Int))]) (mapZ (List.range wi.toNat) fun (k:Nat)=>V.int ((if decide ((k:Int)∈ms)=true then 0 else lack*(bxO wi ms pcs lack).P.D b) - (bxO wi ms pcs lack).P.T b wi.toNat (pcs.length+k))) (mapZ.ok _ _) (by rw[aj]; omega) ⟨_,rfl⟩ ?_ ?_⟩
   ·rintro j σ' H' zs' hj ⟨v,rfl⟩ e hz' S1 S2 yes no
    have e0:(0+(j:Int))=(j:Int):=by omega
    have hg:(List.range wi.toNat)[j]?=some j:=aM hj
    dsimp only [kS,yG]
    rw[ah rfl,e0]
    have y:=hz'.yes (H':=H') hg
    have E3:=E2.trans e
    have zj:zs2[j]?=some (V.int (if decide ((j:Int)∈ms)=true then 0 else lack*(bxO wi ms pcs lack).P.D b)):=by rw[hz2,az,hg]; rfl
    obtain⟨us,a,ht,ul,_,hat,ha⟩:=TabB.cst (TabA.ext bi.tb E3)
    refine⟨_,rfl,_,rfl,lm,_,(j:Int),_,rfl,rfl,SqL.of (e _ _ d2),yB zj,?_⟩
    refine⟨_,rfl,_,rfl,t,us,_,_,rfl,rfl,SqL.of ht,hat,_,rfl,_,rfl,_,_,rfl,rfl,?_⟩
    have ci:=jKF (B:=bxO wi ms pcs lack) (b:=b) (c:=pcs.length+j) (show pcs.length+j<pcs.length+wi.toNat by omega)
    refine⟨a,_,((pcs.length+j:Nat):Int),_,rfl,by rw[fY],SqL.of ha,yB ci,?_⟩
    exact⟨_,_,rfl,rfl,yes _ _ _ ⟨_,rfl⟩ (Ext.refl _) y⟩
   ·rintro ly H3 zs3 d3 e3 n3 hz3
    have hz3:=hz3.all (by rw[ao]; exact af _)
    refine⟨_,rfl,_,rfl,_,rfl,by show (3:Nat)<=_; decide,fun r H4 d4 e4=>?_⟩
    refine rt r lp ly H4 d4 (e4 _ _ (e3 _ _ (e2 _ _ d1))) ?_ ((E2.trans e3).trans e4)
    rw[e4 _ _ d3,hz3]
    unfold yL
    rw[bv]
    rfl
end
structure OptB (B:Sx.Bx)(b:Nat->Nat):Prop where
 v:Sx.Val B.P b
 rc:∃ k,Rn B.P B.b0 k b
 o:∀ c,c<B.p+B.n->0<=B.P.T b B.n c
def spBal:Sp:=fun vs H Q _=>∃ (x:Addr) (w lack:Int) (ms:List Int) (pcs:List (List Int×Int)),vs=[.ref x, .int lack]/\BoxAt H x w ms pcs/\Good 16 32 w ms pcs/\lack.natAbs<2 ^ 200/\∀ b r lp ly H',OptB (bxO w ms pcs lack) b->H' r=some (.tup [.ref lp, .ref ly, .int ((bxO w ms pcs lack).P.D b)])->H' lp=some (.lst ((xL (bxO w ms pcs lack) b).map V.int))->H' ly=some (.lst ((yL ms lack (bxO w ms pcs lack) b).map V.int))->Ext H H'->Q (.ref r) H'
theorem jQ3 {fd:FuncData}(F:Fun K "balanced" "balanced" sBal f fd)(G:BalW P w K mg base fF fC fR fT fdF fdC fdR fdT):FnOk P w K mg base CX0 3 f fd ["box","lack"] spBal:=by
 refine F.ok scBal (fun vs H Q E h=>?_) (fun cdv A outer s H vs Q E hr h=>?_)
 ·obtain⟨_,_,_,_,_,rfl,_⟩:=h
  rfl
 ·obtain⟨x,wi,lack,ms,pcs,rfl,hB,g,hl,q⟩:=h
  refine⟨_,(balA G hr).2.h,?_⟩
  obtain⟨qm,qp,ps,b1,b2,b3,b4⟩:=id hB.ex
  have pl:=b4.len
  have gpl:=g.pl
  have w0:=g.w0
  have w1:=g.w1
  refine⟨_,rfl,x,_,2,_,rfl,rfl,SqT.of b1,rfl,qp,_,rfl, .inr (SqT.of b3),?_⟩
  rw[pl]
  refine⟨_,rfl,_,rfl,x,wi,lack,ms,pcs,rfl,hB,g,hl,fun t H1 tb1 e1=>?_⟩
  refine⟨_,rfl,_,rfl,_,rfl,x,_,0,_,rfl,rfl,SqT.of (e1 _ _ b1),rfl,_,_,rfl,rfl,?_⟩
  refine⟨_,_,rfl,fun pr hpr=>?_⟩
  have e2:Ext H1 (L2.upd H1 pr (.rng ((pcs.length:Nat):Int) (((pcs.length:Nat):Int)+wi))):=(Ext.refl _).new hpr _
  have d2:(L2.upd H1 pr (.rng ((pcs.length:Nat):Int) (((pcs.length:Nat):Int)+wi))) pr=some (.rng ((pcs.length:Nat):Int) (((pcs.length:Nat):Int)+wi)):=j4
  generalize L2.upd H1 pr (.rng ((pcs.length:Nat):Int) (((pcs.length:Nat):Int)+wi))=H2 at e2 d2
  refine⟨pr,_,_,rfl,d2,by omega,by omega,by omega,fun k hk=>?_⟩
  have ek:(jCV ((pcs.length:Nat):Int) (((pcs.length:Nat):Int)+wi - ((pcs.length:Nat):Int)).toNat)=tkn (bxO wi ms pcs lack) (bxO wi ms pcs lack).b0:=by
   rw[show (((pcs.length:Nat):Int)+wi - ((pcs.length:Nat):Int)).toNat=wi.toNat by omega]
   unfold jCV tkn
   refine bj fun i hi=>?_
   have hi:i<(bxO wi ms pcs lack).n:=aY.mp hi
   unfold Sx.Bx.b0
   rw[ah hi,fY]
   rfl
  rw[ek]
  have e3:Ext H2 (L2.upd H2 k (.lst ((tkn (bxO wi ms pcs lack) (bxO wi ms pcs lack).b0).map V.int))):=(Ext.refl _).new hk _
  have d3:(L2.upd H2 k (.lst ((tkn (bxO wi ms pcs lack) (bxO wi ms pcs lack).b0).map V.int))) k=some (.lst ((tkn (bxO wi ms pcs lack) (bxO wi ms pcs lack).b0).map V.int)):=j4
  generalize L2.upd H2 k (.lst ((tkn (bxO wi ms pcs lack) (bxO wi ms pcs lack).b0).map V.int))=H3 at e3 d3
  have E23:=e2.trans e3
  have tb3:TabB H3 t (bxO wi ms pcs lack) (bxO wi ms pcs lack).b0:=TabA.ext tb1 E23
  have nk:H1 k=none:=nw_of e2 hk
  obtain⟨us1,ht1,al1⟩:=id tb1
  have bi3:∀ H4,Ext H3 H4->BalI H4 t k (bxO wi ms pcs lack) (bxO wi ms pcs lack).b0:=fun H4 e4=>⟨Sx.Bx.val0,TabA.ext tb3 e4,e4 _ _ d3,(fun z=>by rw[z,nk] at ht1; cases ht1),fun us h u hu z=>by
   rw[(E23.trans e4) _ _ ht1] at h
   cases h
   obtain⟨i,hi⟩:=dM hu
   obtain⟨row,_,a,ea,ha⟩:=All2.get' al1 hi
   rw[z] at ea
   cases ea
   rw[nk] at ha
   cases ha⟩
  have EH:=e1.trans E23
  have kn:H k=none:=nw_of e1 nk
  have D1:(1:Int)=(bxO wi ms pcs lack).P.D (bxO wi ms pcs lack).b0:=Sx.Bx.D0.symm
  rw[D1]
  have loop:∀ (H4:Hp) (c0:Option Nat),Ext H3 H4->ColI (bxO wi ms pcs lack) (bxO wi ms pcs lack).b0 c0->(tSeq (jID (tTest (tOp (fun x y H Q=>y=V.non/\Q (.bl (!decide (x= .non))) H) (tVar 6) (tC .non))) (balWA (f:=f) (cdv:=cdv) (A:=A) (outer:=outer) (s:=s) (H0:=H) (E:=E) G hr).1) (balEA (f:=f) (cdv:=cdv) (A:=A) (outer:=outer) (s:=s) (H0:=H) (E:=E) G).1) { nx:=fun x H'=>Q V.non H',rt:=Q} [some (.ref x),some (.int lack),some (.int ((pcs.length:Nat):Int)),some (.ref t),some (.ref k),some (.int ((bxO wi ms pcs lack).P.D (bxO wi ms pcs lack).b0)),some (colV c0),none,none,none,none] H4:=fun H4 c0 e4 c4=>by
   have n16:(bxO wi ms pcs lack).n<=16:=by show wi.toNat<=16; omega
   have n50:(bxO wi ms pcs lack).p+(bxO wi ms pcs lack).n<=50:=by show pcs.length+wi.toNat<=50; omega
   refine⟨fun m σ H'=>∃ b t' c v7,¬ Sx.Chn (bxO wi ms pcs lack).P m b/\(∃ j,Rn (bxO wi ms pcs lack).P (bxO wi ms pcs lack).b0 j b)/\BalI H' t' k (bxO wi ms pcs lack) b/\ColI (bxO wi ms pcs lack) b c/\Ext H H'/\σ=[some (.ref x),some (.int lack),some (.int ((pcs.length:Nat):Int)),some (.ref t'),some (.ref k),some (.int ((bxO wi ms pcs lack).P.D b)),some (colV c),v7,none,none,none],⟨_,_,_,_,_,Sx.no_chain Sx.Bx.val0,⟨0,rfl⟩,bi3 H4 e4,c4,EH.trans e4,rfl⟩,?_⟩
   rintro m σ H5 ⟨b,t5,c5,v7,nc,rc,bi5,ci5,e5,rfl⟩
   cases c5 with
   | none=>
    refine⟨_,rfl,rfl,_,rfl,ite2 (fun h=>absurd h (by show ¬ (!decide (V.non=V.non))=true; rw[ar rfl]; decide)) (fun _=>?_)⟩
    exact jKW G (hB.mono e5.tups) g hl bi5 fun r lp ly H6 d6 x6 y6 e6=>q b r lp ly H6 ⟨bi5.v,rc,ci5⟩ d6 x6 y6 (e5.trans e6)
   | some q5=>
    refine⟨_,rfl,rfl,_,rfl,ite2 (fun _=>?_) (fun h=>absurd (show (!decide (V.int (q5:Int)=V.non))=true by rw[aI (by intro z; cases z)]; rfl) h)⟩
    cases m with
    | zero=>exact absurd (Sx.Chn.zero b) nc
    | succ m=>
     refine⟨_,fun σ' H' h=>⟨m,aF m,h⟩,?_⟩
     exact jKV G hr bi5 ci5 (jQP g) n16 n50 (bxO_T g hl) fun H6 t6 b6 q6 r6 st bi6 ci6 k6=>⟨b6,t6,q6,_,fun z=>nc (z.more st),(let ⟨j,hj⟩:=rc; ⟨j+1,b,hj,st⟩),bi6,ci6,(fun c o h=>k6 _ _ (e5 _ _ h) fun z=>by rw[z,kn] at h; cases h),rfl⟩
  refine⟨_,rfl,t,bxO wi ms pcs lack,(bxO wi ms pcs lack).b0,rfl,tb3,fun q4 H4 en4 e4=>?_,fun op H4 e4=>?_⟩
  ·exact loop H4 (some q4) e4 en4
  ·exact loop H4 none e4 op
end
def unW (pcs:List (List Int×Int)):List (List Int×Int):=pcs.map fun p=>(p.1,0)
theorem jAD (pcs:List (List Int×Int)):(unW pcs).length=pcs.length:=ac ..
theorem jDI {pcs:List (List Int×Int)}{c:Nat} :(unW pcs).getD c ([],0)=((pcs.getD c ([],0)).1,0):=by
 unfold unW
 rw[aE,aE,az]
 cases pcs[c]? <;> rfl
theorem jC4 {w:Int}{ms:List Int}{pcs:List (List Int×Int)}(g:Good 16 32 w ms pcs):Good 16 32 w ms (unW pcs):=⟨g.w0,g.w1,g.mr,by rw[jAD]; exact g.pl,fun pc hpc=>by
 obtain⟨p,hp,rfl⟩:=aQ.mp hpc
 exact⟨(g.pg p hp).lot,by show (-1000000000000:Int)<=0; decide,by show (0:Int)<=1000000000000; decide⟩⟩
abbrev bxU (w:Int)(ms:List Int)(pcs:List (List Int×Int)):Sx.Bx:=bxO w ms (unW pcs) 1
section
variable {P:Program}{w:World}{K:W.Frag}{mg:Str->Option Value}{base:Heap}
variable {f fB fR:Addr}{fdB fdR:FuncData}{cdv:Value}{A:Around}{outer:List Env}{s:Shared}{H0:Hp}{E:XK}
abbrev jCM:List Str:=["box","unweighed","told"]
theorem scShares:FnScope jCM ["box"] (j8 yO):=⟨rfl,rfl,rfl,by decide+kernel,rfl,by decide+kernel,by decide+kernel⟩
def shaA (T:Txt mg)(CB:Can P w K mg base "balanced" 3 fB fdB ["box","lack"] spBal)(CF:Can P w K mg base "fraction_of" 2 fR fdR ["top","bottom"] spFr)(hr:Room 3 (XOf jCM "shares" yO P w K mg base f cdv A outer s H0 E).A): { t:TS // JSs (XOf jCM "shares" yO P w K mg base f cdv A outer s H0 E) (jB yO) t} :=
 have nd:=scShares.nd
 ⟨_,(j7 (jF (i:=1) nd rfl lL (jAF (j0 (jE jG (jv 0 rfl vL) (j6) jC) (j0 (jE jG (jv 0 rfl vL) (j6) jC) (j0 (kN jY gD T.tuple (by decide+kernel) (j0 (kQ (m:=[none]) (Nc:=["piece"]) rfl (yT (jE jG (jv 0 rfl vL) (j6) jC)) rfl (by decide+kernel) (by decide+kernel) (jW (psc:=j8 yO) (by decide+kernel)) (jI (N:=jCM) rfl rfl (by decide+kernel)) (fun cl C fp s H=>jK (i:=0) (show (["piece"]:List Str).Nodup by decide+kernel) rfl (yD (by decide+kernel))) (fun cl C fp s H=>kP) (fun cl C fp s H=>(jAF (j0 (jE jAB (jv 0 rfl (kB (by decide+kernel))) (j6) jC) (j0 (j6) j5 jM) jL))) qA) j5 jQ) jQ) j5 jT) jL) jL)) jMI)
   (j7 (jF (i:=2) nd rfl (yS (by decide+kernel)) (CB.je (hr.mono (by decide)) gD (j0 (jv 1 rfl vL) (j0 (j6) j5 jM) j3) j3) jO)
   (j7 (yE (jJ qJ (jN (jF1 rfl) gD T.sum (by decide+kernel) (j0 (jE jG (jv 2 rfl vC) (j6) jC) j5 jL) jL) (j6) (jP _)) (jD (jV (jAF (j0 (jGT) (j0 (kN jY gD T.tuple (by decide+kernel) (j0 (jE jG (jv 2 rfl vC) (j6) jC) j5 jL) jL) j5 jT) jM)))) kG)
   (jD (jV (jAF (j0 (jGT) (j0 (kN jY gD T.tuple (by decide+kernel) (j0 (kQ (m:=[none,some 2]) (Nc:=["part","told"]) rfl (jAQ (jE jG (jv 2 rfl vC) (j6) jC)) rfl (by decide+kernel) (by decide+kernel) (jW (psc:=j8 yO) (by decide+kernel)) (jI (N:=jCM) rfl rfl (by decide+kernel)) (fun cl C fp s H=>jK (i:=0) (show (["part","told"]:List Str).Nodup by decide+kernel) rfl (yD (by decide+kernel))) (fun cl C fp s H=>kP) (fun cl C fp s H=>(CF.je (hr.mono (by decide)) (gl_b (by decide+kernel)) (j0 (jv 0 rfl (kB (by decide+kernel))) (j0 (jE jAB (jv 1 rfl (kJ (by decide+kernel))) (j6) jC) j5 jL) j3) j3)) qA) j5 jQ) jQ) j5 jT) jM)))))))⟩
def frX (B:Sx.Bx)(b:Nat->Nat):List (Int×Int):=(xL B b).map fun x=>nrm (x,B.P.D b)
def jDL:Sp:=fun vs H Q _=>∃ (x:Addr) (w:Int) (ms:List Int) (pcs:List (List Int×Int)),vs=[.ref x]/\BoxAt H x w ms pcs/\Good 16 32 w ms pcs/\
 ∀ b,OptB (bxU w ms pcs) b->(0<(yL ms 1 (bxU w ms pcs) b).sum->∀ r ty H',H' r=some (.tup [.str "against", .ref ty])->H' ty=some (.tup ((yL ms 1 (bxU w ms pcs) b).map V.int))->Ext H H'->Q (.ref r) H')/\
  (¬ 0<(yL ms 1 (bxU w ms pcs) b).sum->∀ r tx us H',H' r=some (.tup [.str "shares", .ref tx])->H' tx=some (.tup us)->FrsAt H' us (frX (bxU w ms pcs) b)->Ext H H'->Q (.ref r) H')
theorem jJ6 {fd:FuncData}(F:Fun K "shares" "shares" yO f fd)(T:Txt mg)(CB:Can P w K mg base "balanced" 3 fB fdB ["box","lack"] spBal)(CF:Can P w K mg base "fraction_of" 2 fR fdR ["top","bottom"] spFr):FnOk P w K mg base CX0 4 f fd ["box"] jDL:=by
 refine F.ok scShares (fun vs H Q E h=>?_) (fun cdv A outer s H vs Q E hr h=>?_)
 ·obtain⟨_,_,_,_,rfl,_⟩:=h
  rfl
 ·obtain⟨x,wi,ms,pcs,rfl,hB,g,q⟩:=h
  refine⟨_,(shaA T CB CF hr).2.h,?_⟩
  obtain⟨qm,qp,ps,b1,b2,b3,b4⟩:=id hB.ex
  have pl:=b4.len
  have gpl:=g.pl
  have w0:=g.w0
  have w1:=g.w1
  refine⟨_,rfl,x,_,0,_,rfl,rfl,SqT.of b1,rfl,?_⟩
  refine⟨_,rfl,x,_,1,_,rfl,rfl,SqT.of b1,rfl,?_⟩
  refine⟨_,rfl,x,_,2,_,rfl,rfl,SqT.of b1,rfl,qp,rfl,⟨_,SqT.of b3⟩,jAM (xs:=ps) (fun σ=>∃ v,σ=[v]) (fun H' zs i=>PcsAt H' zs ((unW pcs).take i)) ⟨fun H=>trivial,fun H H' zs i tu hz=>hz.mono tu,fun H zs i hz=>?_⟩ b3 (by rw[aj]; omega) ⟨_,rfl⟩ ?_ ?_⟩
  ·rw[hz.len]; exact cm _ _
  ·rintro j y σ' H' zs hy ⟨v,rfl⟩ e hz S1 S2 yes no
   have hj:j<pcs.length:=by
    rw[<- pl]
    exact(ay.mp hy).1
   obtain⟨y',hy',pa,pq,rfl,c1,c2⟩:=b4.get hj
   rw[hy] at hy'
   cases hy'
   dsimp only [kS,yG]
   rw[ah rfl]
   refine⟨_,rfl,pa,_,0,_,rfl,rfl,SqT.of (e _ _ c1),rfl,by show (2:Nat)<=_; decide,fun r2 H2 d2 e2=>yes _ _ _ ⟨_,rfl⟩ e2 ?_⟩
   have gj:(unW pcs)[j]?=some ((pcs.getD j ([],0)).1,0):=by
    have:=jDI (pcs:=pcs) (c:=j)
    rw[aE,aG (by rw[jAD]; exact hj)] at this
    rw[aG (by rw[jAD]; exact hj)]
    exact bP some this
   show PcsAt _ _ _
   rw[aT,gj]
   exact PcsAt.snoc (p:=((pcs.getD j ([],0)).1,0)) ⟨r2,pq,rfl,d2,e2 _ _ (e _ _ c2)⟩ (hz.mono e2.tups)
  rintro l1 H1 zs d1 e1 n1 hz
  have hz:PcsAt H1 zs (unW pcs):=by
   have:(unW pcs).take ps.length=unW pcs:=aX (by rw[jAD,pl]; exact af _)
   rw[<- this]
   exact hz
  refine⟨l1,_,rfl, .inl ⟨SqL.of d1,fun r2 h2=>?_⟩⟩
  have e2:Ext H1 (L2.upd H1 r2 (.tup zs)):=(Ext.refl _).new h2 _
  have d2:(L2.upd H1 r2 (.tup zs)) r2=some (.tup zs):=j4
  generalize L2.upd H1 r2 (.tup zs)=H2 at e2 d2
  refine⟨by show (3:Nat)<=_; decide,fun u3 H3 d3 e3=>?_⟩
  have E3:=(e1.trans e2).trans e3
  have hB3:BoxAt H3 u3 wi ms (unW pcs):=⟨qm,r2,zs,d3,E3 _ _ b2,e3 _ _ d2,hz.mono (e2.trans e3).tups⟩
  refine⟨_,rfl,u3,wi,1,ms,unW pcs,rfl,hB3,jC4 g,by decide,fun b r4 lp ly H4 op d4 x4 y4 e4=>?_⟩
  obtain⟨qa,qs⟩:=q b op
  have E4:=E3.trans e4
  refine⟨_,rfl,r4,_,1,_,rfl,rfl,SqT.of d4,rfl,ly,_,rfl,SqL.of y4,_,_,rfl,rfl,_,rfl,ite2 (fun h=>?_) (fun h=>?_)⟩
  ·have h:0<(yL ms 1 (bxU wi ms pcs) b).sum:=au h
   refine⟨_,rfl,r4,_,1,_,rfl,rfl,SqT.of d4,rfl,ly,_,rfl, .inl ⟨SqL.of y4,fun r5 h5=>?_⟩⟩
   have e5:Ext H4 (L2.upd H4 r5 (.tup ((yL ms 1 (bxU wi ms pcs) b).map V.int))):=(Ext.refl _).new h5 _
   have d5:(L2.upd H4 r5 (.tup ((yL ms 1 (bxU wi ms pcs) b).map V.int))) r5=some (.tup ((yL ms 1 (bxU wi ms pcs) b).map V.int)):=j4
   generalize L2.upd H4 r5 (.tup ((yL ms 1 (bxU wi ms pcs) b).map V.int))=H5 at e5 d5
   exact⟨by show (2:Nat)<=_; decide,fun r6 H6 d6 e6=>qa h r6 r5 H6 d6 (e6 _ _ d5) ((E4.trans e5).trans e6)⟩
  ·have h:¬ 0<(yL ms 1 (bxU wi ms pcs) b).sum:=fun z=>h (ar z)
   have xl:(xL (bxU wi ms pcs) b).length=pcs.length:=by
    unfold xL
    rw[ac,ao]
    exact jAD pcs
   refine⟨_,rfl,r4,_,0,_,rfl,rfl,SqT.of d4,rfl,lp,rfl,⟨_,SqL.of x4⟩,jC8 (xs:=(xL (bxU wi ms pcs) b).map V.int) (fun σ=>∃ v,σ=[v,some (.ref r4)]) (fun H' zs i=>FrsAt H' zs ((frX (bxU wi ms pcs) b).take i)) ⟨fun H=>?_,fun H H' zs i tu hz=>?_,fun H zs i hz=>?_⟩ x4 (by rw[aj,ac]; omega) ⟨_,rfl⟩ ?_ ?_⟩
   ·trivial
   ·exact FrsAt.mono tu hz
   ·rw[hz.len]; exact cm _ _
   ·rintro j y σ' H' zs hy ⟨v,rfl⟩ e hz S1 S2 yes no
    obtain⟨z,hz',rfl⟩:=int_at hy
    dsimp only [kS,yG]
    rw[ah rfl]
    have bD:=(bxO_T (jC4 g) (by decide:(1:Int).natAbs<2 ^ 200) b).2
    refine⟨_,rfl,_,rfl,r4,_,2,_,rfl,rfl,SqT.of (e _ _ d4),rfl,z,_,rfl,op.v.d,bD,fun r5 H5 d5 e5=>yes _ _ _ ⟨_,rfl⟩ e5 ?_⟩
    have gj:(frX (bxU wi ms pcs) b)[j]?=some (nrm (z,(bxU wi ms pcs).P.D b)):=by
     unfold frX
     rw[az,hz']
     rfl
    show FrsAt _ _ _
    rw[aT,gj]
    exact FrsAt.snoc ⟨r5,rfl,d5⟩ (hz.mono e5.tups)
   ·rintro l5 H5 zs5 d5 e5 n5 hz
    have hz:FrsAt H5 zs5 (frX (bxU wi ms pcs) b):=by
     have:(frX (bxU wi ms pcs) b).take ((xL (bxU wi ms pcs) b).map V.int).length=frX (bxU wi ms pcs) b:=aX (by unfold frX; rw[ac,ac]; exact af _)
     rw[<- this]
     exact hz
    refine⟨l5,_,rfl, .inl ⟨SqL.of d5,fun r6 h6=>?_⟩⟩
    have e6:Ext H5 (L2.upd H5 r6 (.tup zs5)):=(Ext.refl _).new h6 _
    have d6:(L2.upd H5 r6 (.tup zs5)) r6=some (.tup zs5):=j4
    generalize L2.upd H5 r6 (.tup zs5)=H6 at e6 d6
    exact⟨by show (2:Nat)<=_; decide,fun r7 H7 d7 e7=>qs h r7 r6 zs5 H7 d7 (e7 _ _ d6) (hz.mono (e6.trans e7).tups) (((E4.trans e5).trans e6).trans e7)⟩
end
end Eo
end
section
namespace L2
open PySem
end L2
namespace Eo
open PySem L2
theorem All2.mono {C:Type}{R S:V->C->Prop}(h:∀ v c,R v c->S v c){vs:List V}{cs:List C}(a:All2 R vs cs):All2 S vs cs:=a.imp h
def spNo:Sp:=fun _ _ _ _=>False
theorem ok_no {P:Program}{w:World}{K:W.Frag}{mg:Str->Option Value}{base:Heap}{k:Nat}{f:Addr}{fd:FuncData}{ps:List Str} :FnOk P w K mg base CX0 k f fd ps spNo:=⟨fun _ _ _ _ h=>h.elim,fun _ _ _ _ _ _ _ _ _ _ _ _ _ h=>h.elim⟩
def y0 (pc:List Int×Int):Int:=pc.1.getD 0 0
def cntF (pcs:List (List Int×Int))(t:Int):Nat:=pcs.countP fun pc=>decide (t<=y0 pc)
def lead (pcs:List (List Int×Int))(t:Int)(i:Nat):Nat:=(pcs.take i).countP fun pc=>decide (y0 pc=t)
theorem jCY (t:Int):∀ pcs:List (List Int×Int),cntF pcs t=cntF pcs (t+1)+pcs.countP fun pc=>decide (y0 pc=t)
 | []=>rfl
 | p::r=>by
  have ih:=jCY t r
  unfold cntF at ih ⊢
  rw[dF,dF,dF,ih]
  by_cases h1:y0 p=t
  ·have h2:t<=y0 p:=by omega
   have h3:¬ t+1<=y0 p:=by omega
   have h4:¬ t+1<=t:=by omega
   simp [h1,h4]
   try omega
  ·by_cases h2:t<=y0 p
   ·have h3:t+1<=y0 p:=by omega
    simp [h1,h2,h3]
    omega
   ·have h3:¬ t+1<=y0 p:=by omega
    simp [h1,h2,h3]
theorem jQO (pcs:List (List Int×Int))(t:Int):cntF pcs t<=pcs.length:=gb
theorem jLU (pcs:List (List Int×Int))(t:Int):2 ^ cntF pcs (t+1)*(1+lead pcs t pcs.length)<=2 ^ cntF pcs t:=by
 unfold lead
 rw[bF,jCY t pcs,gS]
 refine bT _ ?_
 have:=Nat.lt_two_pow_self (n:=pcs.countP fun pc=>decide (y0 pc=t))
 omega
theorem jJN {pcs:List (List Int×Int)}{t:Int}{i:Nat}{pc:List Int×Int}(h:pcs[i]?=some pc):lead pcs t (i+1)=lead pcs t i+if y0 pc=t then 1 else 0:=by
 unfold lead
 rw[aT,h]
 show ((pcs.take i)++[pc]).countP _=_
 rw[gL,dF,List.countP_nil]
 simp
theorem jDU {pcs:List (List Int×Int)}{t:Int}(h:pcs.length<=16):2 ^ cntF pcs t<=65536:=by
 have:=jQO pcs t
 exact aH (bu (by decide) (aH this h)) (by decide)
theorem jM9 (pcs:List (List Int×Int))(t:Int):2 ^ cntF pcs (t+1)<=2 ^ cntF pcs t:=by
 refine bu (by decide) ?_
 rw[jCY t pcs]
 omega
theorem jLT {w:Int}{pc:List Int×Int}(h:Lot w pc.1):atI (pc.1.map V.int) 0=some (.int (y0 pc))/\y0 pc<w/\pc.1.length<=w.toNat/\y0 pc∈pc.1:=by
 have hl:pc.1.length<=w.toNat:=by
  have:=jIW _ 0 w h.ris h.bnd
  omega
 obtain⟨q,c⟩:=pc
 cases q with
 | nil=>exact absurd rfl h.ne
 | cons x r=>exact⟨yB (xs:=(x::r).map V.int) (j:=0) rfl,(h.bnd x (aA ..)).2,hl,aA ..⟩
theorem jJO {pcs:List (List Int×Int)}{t:Int}{i j:Nat}(h:i<=j):lead pcs t i<=lead pcs t j:=by
 unfold lead
 exact List.Sublist.countP_le (List.take_sublist_take_left h)
def pcAt (pcs:List (List Int×Int))(k:Int):List Int×Int:=pcs.getD k.toNat ([],0)
theorem jLH {pcs:List (List Int×Int)}{i:Nat}{pc:List Int×Int}(h:pcs[i]?=some pc):pcAt pcs (i:Int)=pc:=by
 unfold pcAt
 rw[ca,aE,h]
 rfl
def tailF (F:List Int->List (List Int))(pcs:List (List Int×Int))(t:Int)(hs:List Int)(i:Nat):List (List Int):=
 (List.range i).flatMap fun (k:Nat)=>if (decide (y0 (pcAt pcs (k:Int))=t)&&fitS hs (pcAt pcs (k:Int)))=true then (F (hs++(pcAt pcs (k:Int)).1)).map ((k:Int):: ·) else []
theorem jHH {F:List Int->List (List Int)}{pcs:List (List Int×Int)}{t:Int}{hs:List Int}{i:Nat}{pc:List Int×Int}(h:pcs[i]?=some pc):
  tailF F pcs t hs (i+1)=tailF F pcs t hs i++if (decide (y0 pc=t)&&fitS hs pc)=true then (F (hs++pc.1)).map ((i:Int):: ·) else []:=by
 unfold tailF
 rw[cf,List.flatMap_append,List.flatMap_cons,List.flatMap_nil,cC,jLH h]
def yY (ms:List Int)(pcs:List (List Int×Int)):Nat->Int->List Int->List (List Int)
 | 0,_,_=> [[]]
 | d+1,t,hs=>if decide (t∈hs)=true then yY ms pcs d (t+1) hs else (if decide (t∈ms)=true then yY ms pcs d (t+1) hs else [])++tailF (fun hs=>yY ms pcs d (t+1) hs) pcs t hs pcs.length
theorem jN9 {F:List Int->List (List Int)}{pcs:List (List Int×Int)}{t:Int}{hs:List Int}{i:Nat}{ks:List Int}(h:ks∈tailF F pcs t hs i):
  ∃ (k:Nat) (r:List Int),k<i/\ks=(k:Int)::r/\y0 (pcAt pcs (k:Int))=t/\fitS hs (pcAt pcs (k:Int))=true/\r∈F (hs++(pcAt pcs (k:Int)).1):=by
 unfold tailF at h
 obtain⟨k,hk,hm⟩:=List.mem_flatMap.mp h
 split at hm
 ·rename_i hc
  rw[aR,gJ] at hc
  obtain⟨r,hr,rfl⟩:=aQ.mp hm
  exact⟨k,r,aY.mp hk,rfl,hc.1,hc.2,hr⟩
 ·cases hm
theorem jAW {ms:List Int}{pcs:List (List Int×Int)} :∀ {d:Nat}{t:Int}{hs ks:List Int},ks∈yY ms pcs d t hs->ks.length<=d/\∀ k∈ks,0<=k/\k<pcs.length
 | 0,t,hs,ks,h=>by
  cases be.mp h
  exact⟨af _,fun k hk=>by cases hk⟩
 | d+1,t,hs,ks,h=>by
  rw[yY] at h
  split at h
  ·have:=jAW h
   exact⟨by omega,this.2⟩
  ·rcases bx.mp h with h | h
   ·split at h
    ·have:=jAW h
     exact⟨by omega,this.2⟩
    ·cases h
   ·obtain⟨k,r,hk,rfl,_,_,hr⟩:=jN9 h
    have:=jAW hr
    refine⟨by rw[bp]; omega,fun z hz=>?_⟩
    rcases aC.mp hz with rfl | hz
    ·omega
    ·exact this.2 z hz
def KAt (H:Hp)(v:V)(ks:List Int):Prop:=∃ a,v= .ref a/\H a=some (.tup (ks.map V.int))
theorem KAt.mono {H H':Hp}(t:Tups H H'){us:List V}{kss:List (List Int)}(h:All2 (KAt H) us kss):All2 (KAt H') us kss:=All2.mono (fun v c ⟨a,e,q⟩=>⟨a,e,t _ _ q⟩) h
def jD5 (d:Nat):Sp:=fun vs H Q _=>∃ (b h:Addr) (w t:Int) (ms:List Int) (pcs:List (List Int×Int)) (hs:List Int),vs=[.ref b, .int t, .ref h]/\BoxAt H b w ms pcs/\Good 16 16 w ms pcs/\0<=t/\t<=w/\w - t<=d/\H h=some (.tup (hs.map V.int))/\hs.length<=16*t.toNat/\
 ∀ l us H',H' l=some (.lst us)->us.length<=2 ^ cntF pcs t->All2 (KAt H') us (yY ms pcs (w - t).toNat t hs)->Ext H H'->Q (.ref l) H'
def jDN:Nat->Sp
 | 0=>spNo
 | d+1=>jD5 d
section
variable {P:Program}{w:World}{K:W.Frag}{mg:Str->Option Value}{base:Heap}
variable {f fF:Addr}{fdF:FuncData}{cdv:Value}{A:Around}{outer:List Env}{s:Shared}{H0:Hp}{E:XK}
noncomputable abbrev nFrom:List Str:=["box","thing","held","found","k","own"]
theorem scFrom:FnScope nFrom ["box","thing","held"] (j8 qF):=⟨rfl,rfl,rfl,by decide+kernel,rfl,by decide+kernel,by decide+kernel⟩
abbrev XFrom (P:Program)(w:World)(K:W.Frag)(mg:Str->Option Value)(base:Heap)(f:Addr)(cdv:Value)(A:Around)(outer:List Env)(s:Shared)(H:Hp)(E:XK):Cx:=XOf nFrom "_law_from" qF P w K mg base f cdv A outer s H E
def fromL {d:Nat}{sp:Sp}(T:Txt mg)(CF:Can P w K mg base "_law_from" (d+1) fF fdF ["box","thing","held"] sp)(hr:Room (d+1) (XFrom P w K mg base f cdv A outer s H0 E).A): { t:TS // JSs (XFrom P w K mg base f cdv A outer s H0 E) (yQ ((jB qF).getD 4 (.Pass ⟨0,0,0,0⟩))) t} :=
 have nd:=scFrom.nd
 ⟨_,(j7 (jF (i:=5) nd rfl lL (jE jG (jE jG (jE jG (jv 0 rfl vL) (j6) jC) (jv 4 rfl vC) kL) (j6) jC) jCB)
   (jD (yE (jt_w (jET (jJ qD (jE jG (jv 5 rfl vL) (j6) jC) (jv 1 rfl vL) (jP _)) (jCP (jBJ (q0 (jN (jCZ rfl) gD T.any (by decide+kernel) (j0 (kQ (m:=[none,some 2]) (Nc:=["t","held"]) rfl (yT (jv 5 rfl vL)) rfl (by decide+kernel) (by decide+kernel) (jW (psc:=j8 qF) (by decide+kernel)) (jI (N:=nFrom) rfl rfl (by decide+kernel)) (fun cl C fp s H=>jK (i:=0) (show (["t","held"]:List Str).Nodup by decide+kernel) rfl (yD (by decide+kernel))) (fun cl C fp s H=>kP) (fun cl C fp s H=>(yI jCJ (jv 0 rfl (kB (by decide+kernel))) (jv 1 rfl (kJ (by decide+kernel))) jBT)) jAT) j5 jQ) jQ) yN))))) (jD (jF (i:=3) nd rfl lL (jX jC6 (jv 3 rfl vL) (kQ (m:=[none,some 4]) (Nc:=["rest","k"]) rfl (jAQ (CF.je hr gD (j0 (jv 0 rfl vL) (j0 (jX kW (jv 1 rfl vL) (j6)) (j0 (jX jJ3 (jv 2 rfl vC) (jv 5 rfl vL)) j5 kZ) kZ) j3) j3)) rfl (by decide+kernel) (by decide+kernel) (jW (psc:=j8 qF) (by decide+kernel)) (jI (N:=nFrom) rfl rfl (by decide+kernel)) (fun cl C fp s H=>jK (i:=0) (show (["rest","k"]:List Str).Nodup by decide+kernel) rfl (yD (by decide+kernel))) (fun cl C fp s H=>kP) (fun cl C fp s H=>(jX jJ3 (jAF (j0 (jv 1 rfl (kJ (by decide+kernel))) j5 j3)) (jv 0 rfl (kB (by decide+kernel))))) kR)) jBY)) kG)))⟩
def fromB {d:Nat}{sp:Sp}(T:Txt mg)(CF:Can P w K mg base "_law_from" (d+1) fF fdF ["box","thing","held"] sp)(hr:Room (d+1) (XFrom P w K mg base f cdv A outer s H0 E).A): { t:TS // JSs (XFrom P w K mg base f cdv A outer s H0 E) ((jB qF).drop 4) t} :=
 have nd:=scFrom.nd
 ⟨_,(j7 (yW bb rfl (kT gD T.range (j0 (jN jZ gD T.len (by decide+kernel) (j0 (jE jG (jv 0 rfl vL) (j6) jC) j5 jL) jL) j5 jT) jT) (jK (i:=4) nd rfl (yS (by decide+kernel))) (fromL T CF hr).2 kR) (jD (jV (jv 3 rfl vL))))⟩
def fromA {d:Nat}{sp:Sp}(T:Txt mg)(CF:Can P w K mg base "_law_from" (d+1) fF fdF ["box","thing","held"] sp)(hr:Room (d+1) (XFrom P w K mg base f cdv A outer s H0 E).A): { t:TS // JSs (XFrom P w K mg base f cdv A outer s H0 E) (jB qF) t} :=
 have nd:=scFrom.nd
 ⟨_,(j7 (yE (jJ qD (jv 1 rfl vL) (jE jG (jv 0 rfl vL) (j6) jC) (jP _)) (jD (jV (jAL (j0 (jAF j5) j5 jIR)))) kG) (j7 (yE (jJ jAP (jv 1 rfl vL) (jv 2 rfl vC) jBT) (jD (jV (CF.je hr gD (j0 (jv 0 rfl vL) (j0 (jX kW (jv 1 rfl vL) (j6)) (j0 (jv 2 rfl vC) j5 j3) kZ) j3) j3))) kG) (j7 (jF (i:=3) nd rfl lL (jAL j5) jCC) (j7 (yE (jJ jAP (jv 1 rfl vL) (jE jG (jv 0 rfl vL) (j6) jC) jCL) (jD (jF (i:=3) nd rfl lL (CF.je hr gD (j0 (jv 0 rfl vL) (j0 (jX kW (jv 1 rfl vL) (j6)) (j0 (jv 2 rfl vC) j5 j3) kZ) j3) j3) jO)) kG) (fromB T CF hr).2))))⟩
theorem jDE {d:Nat}(T:Txt mg)(CF:Can P w K mg base "_law_from" (d+1) fF fdF ["box","thing","held"] (jDN d))(hr:Room (d+1) (XFrom P w K mg base f cdv A outer s H0 E).A)
  {H H1:Hp}{b h l:Addr}{wi t:Int}{ms:List Int}{pcs:List (List Int×Int)}{hs:List Int}{us:List V}{v4 v5:Option V}{D:Ends}{bs0:List (List Int)}(hB:BoxAt H b wi ms pcs) (g:Good 16 16 wi ms pcs) (t0:0<=t) (t1:t<wi) (hd:wi - t<=d) (hh:H h=some (.tup (hs.map V.int))) (hl:hs.length<=16*t.toNat)
  (e1:Ext H H1) (hf:H1 l=some (.lst us)) (fl:us.length<=2 ^ cntF pcs (t+1)) (fc:All2 (KAt H1) us bs0)
  (q:∀ l us H',H' l=some (.lst us)->us.length<=2 ^ cntF pcs t->All2 (KAt H') us (bs0++tailF (fun hs=>yY ms pcs (wi - (t+1)).toNat (t+1) hs) pcs t hs pcs.length)->Ext H H'->D.rt (.ref l) H'):
  (fromB T CF hr).1 D [some (.ref b),some (.int t),some (.ref h),some (.ref l),v4,v5] H1:=by
 obtain⟨qm,qp,ps,b1,b2,b3,b4⟩:=hB.ex
 have pl:=b4.len
 have gl:=g.pl
 have w0:=g.w0
 have w1:=g.w1
 have hfit:=jDU (pcs:=pcs) (t:=t) (by omega)
 have hfit1:=jDU (pcs:=pcs) (t:=t+1) (by omega)
 have hall:=jLU pcs t
 generalize hFn:(fun hs=>yY ms pcs (wi - (t+1)).toNat (t+1) hs)=Fn at q
 refine⟨_,rfl,b,_,2,_,rfl,rfl,SqT.of (e1 _ _ b1),rfl,qp,_,rfl, .inr (SqT.of (e1 _ _ b3)),_,rfl,by omega,by omega,jA2 (fun i σ H'=>(∃ l us v4 v5,σ=[some (.ref b),some (.int t),some (.ref h),some (.ref l),v4,v5]/\H' l=some (.lst us)/\us.length<=2 ^ cntF pcs (t+1)*(1+lead pcs t i)/\All2 (KAt H') us (bs0++tailF Fn pcs t hs i))/\Ext H H') ⟨⟨_,_,_,_,rfl,hf,?_,?_⟩,e1⟩ ?_ ?_⟩
 ·show us.length<=2 ^ cntF pcs (t+1)*(1+0)
  omega
 ·show All2 (KAt H1) us (bs0++[])
  rw[cC]
  exact fc
 ·rintro i σ H2 hi ⟨⟨l2,us2,v4,v5,rfl,g1,g2,g3⟩,e2⟩
  have hil:i<ps.length:=by omega
  have hy1:ps[i]?=some ps[i]:=aG hil
  obtain⟨pc,hpc,pa,pq,hpe,c1,c2⟩:=b4.at hy1
  have hlot:=(g.pg pc (aO hpc)).lot
  obtain⟨lt0,lt1,lt2,lt3⟩:=jLT hlot
  have at1:atI ps (0+(i:Int))=some (.ref pa):=by rw[bA]; exact yB (by rw[hy1,hpe])
  have hsu:=jJN (t:=t) hpc
  have htl:=jHH (F:=Fn) (t:=t) (hs:=hs) hpc
  have hmono:lead pcs t (i+1)<=lead pcs t pcs.length:=jJO (by omega)
  have hbig:2 ^ cntF pcs (t+1)*(1+lead pcs t (i+1))<=2 ^ cntF pcs t:=aH (bT _ (by omega)) hall
  have keep:∀ (v4 v5:Option V) (H3:Hp),Ext H2 H3->(decide (y0 pc=t)&&fitS hs pc)=false->(∃ l us v4' v5',([some (.ref b),some (.int t),some (.ref h),some (.ref l2),v4,v5]:St)=[some (.ref b),some (.int t),some (.ref h),some (.ref l),v4',v5']/\H3 l=some (.lst us)/\us.length<=2 ^ cntF pcs (t+1)*(1+lead pcs t (i+1))/\All2 (KAt H3) us (bs0++tailF Fn pcs t hs (i+1)))/\Ext H H3:=fun v4 v5 H3 e3 hno=>⟨⟨l2,us2,v4,v5,rfl,e3 _ _ g1,aH g2 (bT _ (by omega)),by rw[htl,hno,ai av,cC]; exact KAt.mono e3.tups g3⟩,e2.trans e3⟩
  refine⟨_,rfl,b,_,2,_,rfl,rfl,SqT.of (e2 _ _ b1),rfl,_,rfl,qp,_,_,_,rfl,rfl,SqT.of (e2 _ _ b3),at1,pa,_,0,_,rfl,rfl,SqT.of (e2 _ _ c1),rfl,?_⟩
  refine⟨_,rfl,pq,_,0,_,rfl,rfl,SqT.of (e2 _ _ c2),lt0,_,rfl,rfl,_,rfl,?_⟩
  rw[jBV]
  refine ite2 (fun h1=>?_) (fun h1=>?_)
  ·have h1d:=h1
   have h1:y0 pc=t:=au h1
   rw[ah h1] at hsu
   refine⟨_,rfl,pq,rfl,⟨_,SqT.of (e2 _ _ c2)⟩,jBM (xs:=pc.1.map V.int) (by rw[ac,aj]; omega) (fun D i σ' H' zs=>(∃ v,σ'=[v,some (.ref h)])/\Ext H2 H'/\H' D=some (.lst zs)/\H2 D=none/\zs=((pc.1.take i).map fun z=>decide (z∈hs)).map V.bl) ?_ ?_ ?_ ?_⟩
   ·intro D hD
    exact⟨⟨_,rfl⟩,(Ext.refl _).new hD _,j4,hD,rfl⟩
   ·rintro D j σ' H' zs hD ⟨_,e,h2,_,rfl⟩
    exact⟨e _ _ (e2 _ _ c2),h2,by rw[ac,ac,bz]; omega⟩
   ·rintro D j σ' H' zs x hD hx ⟨⟨v,rfl⟩,e,h2,hn,rfl⟩
    obtain⟨z,hz,rfl⟩:∃ z:Int,pc.1[j]?=some z/\V.int z=x:=by
     rw[az] at hx
     cases hq:pc.1[j]? with
     | none=>rw[hq] at hx; cases hx
     | some z=>rw[hq] at hx; cases hx; exact⟨z,rfl,rfl⟩
    dsimp only [kS,yG]
    rw[ah rfl]
    refine⟨_,rfl,_,rfl,h,_,rfl, .inr (SqT.of (e _ _ (e2 _ _ hh))),rfl,y8 _,h2,⟨_,rfl⟩,e.updNew hn _,j4,hn,?_⟩
    have:pc.1.take (j+1)=pc.1.take j++[z]:=by
     rw[aT,hz]
     rfl
    rw[this,aD,aD]
    show _++[V.bl (inV (.int z) (hs.map V.int))]=_
    rw[yH]
    rfl
   ·rintro D' σ' H3 zs hD ⟨_,e3,h2,hn,rfl⟩
    refine⟨D',_,rfl,SqL.of h2,_,rfl,?_⟩
    have ea:(((pc.1.take (pc.1.map V.int).length).map fun z=>decide (z∈hs)).any id)=pc.1.any fun z=>decide (z∈hs):=by
     rw[ac,bF,fN]
     rfl
    rw[ea]
    have e4:(!pc.1.any fun z=>decide (z∈hs))=fitS hs pc:=rfl
    refine ite2 (fun h3=>?_) (fun h3=>keep _ _ H3 e3 (by rw[h1d,bR]; rw[e4] at h3; exact cc.mpr h3))
    have h3:fitS hs pc=true:=h3
    have E3:=e2.trans e3
    cases d with
    | zero=>omega
    | succ d=>
    refine⟨_,rfl,_,rfl,_,rfl,_,_,rfl,rfl,_,rfl,_,rfl,h,pq,_,_,rfl,rfl,E3 _ _ hh,E3 _ _ c2,by rw[ac,ac,aj]; omega,fun r H4 hr4 e4=>?_⟩
    have E4:=E3.trans e4
    refine⟨b,r,wi,t+1,ms,pcs,hs++pc.1,rfl,hB.mono E4.tups,g,by omega,by omega,by omega,by rw[aD]; exact hr4,by rw[aN]; omega,fun l5 us5 H5 hl5 hu5 hc5 e5=>?_⟩
    have E5:=E4.trans e5
    have hc5:All2 (KAt H5) us5 (Fn (hs++pc.1)):=by rw[<- hFn]; exact hc5
    have hcl:=hc5.len
    have hkl:∀ ks∈Fn (hs++pc.1),ks.length<=16:=fun ks hks=>by
     rw[<- hFn] at hks
     have:=(jAW hks).1
     omega
    generalize Fn (hs++pc.1)=G at htl hc5 hcl hkl
    refine⟨l5,rfl,⟨_,SqL.of hl5⟩,jE3 (xs:=us5) (by rw[aj]; omega) (fun D j σ' H' zs=>(∃ v,σ'=[v,some (.int (0+(i:Int)))])/\Ext H5 H'/\H' D=some (.lst zs)/\H5 D=none/\All2 (KAt H') zs ((G.take j).map ((i:Int):: ·))) ?_ ?_ ?_ ?_⟩
    ·intro D hD
     exact⟨⟨_,rfl⟩,(Ext.refl _).new hD _,j4,hD,trivial⟩
    ·rintro D j σ' H' zs hD ⟨_,e,h2,_,hc⟩
     refine⟨e _ _ hl5,h2,?_⟩
     rw[hc.len,ac,bz]
     omega
    ·rintro D j σ' H' zs x hD hx ⟨⟨v,rfl⟩,e,h2,hn,hc⟩
     obtain⟨ks,hks,a,rfl,ha⟩:=hc5.get' hx
     have hkl:=hkl ks (aO hks)
     dsimp only [kS,yG]
     rw[ah rfl]
     refine⟨_,rfl,by rw[aj]; show 1<=_; omega,fun r6 H6 hr6 e6=>⟨_,rfl,r6,a,_,_,rfl,rfl,hr6,e6 _ _ (e _ _ ha),by rw[ac,aj]; show 1+_<=_; omega,fun r7 H7 hr7 e7=>?_⟩⟩
     have e67:=e6.trans e7
     have h27:=e67 _ _ h2
     refine⟨h27,⟨_,rfl⟩,(e.trans e67).updNew hn _,j4,hn,?_⟩
     have tw:Tups H7 (upd H7 D (.lst (zs++[.ref r7]))):=Tups.upd h27 _
     have tk:G.take (j+1)=G.take j++[ks]:=by
      rw[aT,hks]
      rfl
     rw[tk,aD]
     refine All2.snoc (KAt.mono (e67.tups.trans tw) hc) ⟨r7,rfl,tw _ _ ?_⟩
     rw[hr7,bA]
     rfl
    ·rintro D6 σ' H6 zs hD ⟨_,e6,h2,hn,hc⟩
     rw[hcl,bF] at hc
     have hzl:zs.length=us5.length:=by rw[hc.len,ac,hcl]
     have gm:us2.length+zs.length<=2 ^ cntF pcs (t+1)*(1+lead pcs t (i+1)):=by
      rw[hsu,<- Nat.add_assoc,gR,Nat.mul_one]
      omega
     refine⟨l2,D6,_,_,rfl,rfl,e6 _ _ (e5 _ _ (e4 _ _ (e3 _ _ g1))),h2,by rw[aj]; omega,fun r7 H7 hr7 e7 hn7=>?_⟩
     have E37:=((e3.trans e4).trans e5).trans (e6.trans e7)
     refine⟨⟨r7,_,_,_,rfl,hr7,by rw[aN]; exact gm,?_⟩,e2.trans E37⟩
     rw[htl,h1d,h3,bR,ah rfl,<- eR]
     exact All2.append (KAt.mono E37.tups g3) (KAt.mono e7.tups hc)
  ·exact iteF (keep _ _ H2 (Ext.refl _) (by rw[cc.mpr h1]; rfl))
 ·rintro σ H2 ⟨⟨l2,us2,v4,v5,rfl,g1,g2,g3⟩,e2⟩
  have em:((ps.length:Int)).toNat=pcs.length:=by omega
  rw[em] at g2 g3
  exact⟨_,rfl,q l2 us2 H2 g1 (aH g2 hall) g3 e2⟩
theorem jEX {fd:FuncData}(d:Nat)(F:Fun K "_law_from" "_law_from" qF f fd)(T:Txt mg)(CF:Can P w K mg base "_law_from" (d+1) f fd ["box","thing","held"] (jDN d)):
  FnOk P w K mg base CX0 (d+2) f fd ["box","thing","held"] (jD5 d):=by
 refine F.ok scFrom (fun vs H Q E h=>?_) (fun cdv A outer s H vs Q E hr h=>?_)
 ·obtain⟨_,_,_,_,_,_,_,rfl,_⟩:=h
  rfl
 ·obtain⟨b,h,wi,t,ms,pcs,hs,rfl,hB,g,t0,t1,hd,hh,hl,q⟩:=h
  obtain⟨qm,qp,ps,b1,b2,b3,b4⟩:=hB.ex
  have gl:=g.pl
  have w0:=g.w0
  have w1:=g.w1
  have hfit1:=jDU (pcs:=pcs) (t:=t+1) (by omega)
  refine⟨_,(fromA T CF hr).2.h,?_⟩
  refine⟨_,rfl,_,rfl,b,_,0,_,rfl,rfl,SqT.of b1,rfl,rfl,_,rfl,?_⟩
  rw[jBV]
  refine ite2 (fun h1=>?_) (fun h1=>?_)
  ·have h1:t=wi:=au h1
   refine⟨by rw[aj]; show 0<=_; omega,fun r1 H1 hr1 e1=>⟨by rw[aj]; show 1<=_; omega,fun r2 H2 hr2 e2 _=>?_⟩⟩
   refine q r2 _ H2 hr2 (Nat.one_le_two_pow) ?_ (e1.trans e2)
   rw[show (wi - t).toNat=0 by omega]
   exact⟨⟨r1,rfl,e2 _ _ hr1⟩,trivial⟩
  ·have h1:¬ t=wi:=fun h=>h1 (ar h)
   refine⟨_,rfl,_,rfl,h,_,rfl, .inr (SqT.of hh),rfl,y8 _,_,rfl,?_⟩
   have hd1:∃ d',d=d'+1:=⟨d - 1,by omega⟩
   obtain⟨d',rfl⟩:=hd1
   have en:(wi - t).toNat=(wi - (t+1)).toNat+1:=by omega
   rw[en] at q
   have call:∀ (H1:Hp) (Q':VK),Ext H H1->(∀ l us H',H' l=some (.lst us)->us.length<=2 ^ cntF pcs (t+1)->All2 (KAt H') us (yY ms pcs (wi - (t+1)).toNat (t+1) hs)->Ext H H'->Q' (.ref l) H')->jDN (d'+1) [.ref b, .int (t+1), .ref h] H1 Q' E0:=fun H1 Q' e1 k=>by
    refine⟨b,h,wi,t+1,ms,pcs,hs,rfl,hB.mono e1.tups,g,by omega,by omega,by omega,e1 _ _ hh,by omega,fun l us H' a1 a2 a3 a4=>k l us H' a1 a2 a3 (e1.trans a4)⟩
   show if inV (.int t) (hs.map V.int)=true then _ else _
   rw[yH]
   refine ite2 (fun h2=>?_) (fun h2=>?_)
   ·rw[yY,ah h2] at q
    refine⟨_,rfl,_,rfl,_,_,rfl,rfl,_,rfl,call H _ (Ext.refl _) fun l us H' a1 a2 a3 a4=>?_⟩
    exact q l us H' a1 (aH a2 (jM9 pcs t)) a3 a4
   ·rw[yY,ai h2] at q
    refine⟨by rw[aj]; show 0<=_; omega,fun l1 H1 hl1 e1 _=>?_⟩
    refine⟨_,rfl,_,rfl,b,_,1,_,rfl,rfl,SqT.of (e1 _ _ b1),rfl,qm,_,rfl, .inr (SqT.of (e1 _ _ b2)),rfl,y8 _,_,rfl,?_⟩
    show if inV (.int t) (ms.map V.int)=true then _ else _
    rw[yH]
    refine ite2 (fun h3=>?_) (fun h3=>?_)
    ·rw[ah h3] at q
     refine⟨_,rfl,_,rfl,_,_,rfl,rfl,_,rfl,(show jDN (d'+1) [.ref b, .int (t+1), .ref h] H1 (fun x H2=>(fromB T CF hr).1 { nx:=fun x H'=>Q V.non H',rt:=Q} [some (.ref b),some (.int t),some (.ref h),some x,none,none] H2) E0 from call H1 _ e1 fun l us H' a1 a2 a3 a4=>?_)⟩
     exact jDE T CF hr hB g t0 (by omega) hd hh hl a4 a1 a2 a3 q
    ·rw[ai h3] at q
     exact jDE (bs0:=[]) T CF hr hB g t0 (by omega) hd hh hl e1 hl1 (aW _) trivial q
theorem jJ7 {fd:FuncData}(F:Fun K "_law_from" "_law_from" qF f fd)(T:Txt mg)(hm:mg "_law_from" =some (.ref f))(kp:keepIn K (.ref f)=true)(hb:Binds K fd ["box","thing","held"] []):
  ∀ d:Nat,FnOk P w K mg base CX0 (d+2) f fd ["box","thing","held"] (jD5 d)
 | 0=>jEX 0 F T ⟨ok_no,hm,kp,hb⟩
 | d+1=>jEX (d+1) F T ⟨jJ7 F T hm kp hb d,hm,kp,hb⟩
def CvAt (H:Hp)(v:V)(ks:List Int):Prop:=∃ a ns,v= .ref a/\H a=some (.tup (ns.map V.int))/\List.Perm ns ks
theorem CvAt.mono {H H':Hp}(t:Tups H H'){us:List V}{kss:List (List Int)}(h:All2 (CvAt H) us kss):All2 (CvAt H') us kss:=All2.mono (fun v c ⟨a,ns,e,q,p⟩=>⟨a,ns,e,t _ _ q,p⟩) h
def jIM:Sp:=fun vs H Q _=>∃ (b:Addr) (w:Int) (ms:List Int) (pcs:List (List Int×Int)),vs=[.ref b]/\BoxAt H b w ms pcs/\Good 16 16 w ms pcs/\
 ∀ l us H',H' l=some (.lst us)->us.length<=65536->All2 (CvAt H') us (yY ms pcs w.toNat 0 [])->Ext H H'->Q (.ref l) H'
noncomputable abbrev nCovs:List Str:=["box"]
theorem scCovs:FnScope nCovs ["box"] (j8 qM):=⟨rfl,rfl,rfl,by decide+kernel,rfl,by decide+kernel,by decide+kernel⟩
def covsA (T:Txt mg)(CF:Can P w K mg base "_law_from" 18 fF fdF ["box","thing","held"] (jD5 16))(hr:Room 18 (XOf nCovs "_law_coverings" qM P w K mg base f cdv A outer s H0 E).A): { t:TS // JSs (XOf nCovs "_law_coverings" qM P w K mg base f cdv A outer s H0 E) (jB qM) t} :=
 have nd:=scCovs.nd
 ⟨_,(jD (jV (kQ (m:=[none]) (Nc:=["some"]) rfl (jAQ (CF.je hr gD (j0 (jv 0 rfl vL) (j0 (j6) (j0 (jAF j5) j5 jIR) jM) j3) j3)) rfl (by decide+kernel) (by decide+kernel) (jW (psc:=j8 qM) (by decide+kernel)) (jI (N:=nCovs) rfl rfl (by decide+kernel)) (fun cl C fp s H=>jK (i:=0) (show (["some"]:List Str).Nodup by decide+kernel) rfl (yD (by decide+kernel))) (fun cl C fp s H=>kP) (fun cl C fp s H=>(kN jG4 (gl_b (by decide+kernel)) T.tuple (by decide+kernel) (j0 (jN jF2 (gl_b (by decide+kernel)) T.sorted (by decide+kernel) (j0 (jv 0 rfl (kB (by decide+kernel))) j5 j3) j3) j5 jT) jT)) kR)))⟩
theorem jO8 {fd:FuncData}(F:Fun K "_law_coverings" "_law_coverings" qM f fd)(T:Txt mg)(CF:Can P w K mg base "_law_from" 18 fF fdF ["box","thing","held"] (jD5 16)):FnOk P w K mg base CX0 19 f fd ["box"] jIM:=by
 refine F.ok scCovs (fun vs H Q E h=>?_) (fun cdv A outer s H vs Q E hr h=>?_)
 ·obtain⟨_,_,_,_,rfl,_⟩:=h
  rfl
 ·obtain⟨b,wi,ms,pcs,rfl,hB,g,q⟩:=h
  have gl:=g.pl
  have w0:=g.w0
  have w1:=g.w1
  have hfit:=jDU (pcs:=pcs) (t:=0) (by omega)
  refine⟨_,(covsA T CF hr).2.h,?_⟩
  refine⟨_,rfl,by rw[aj]; show 0<=_; omega,fun r1 H1 hr1 e1=>⟨b,r1,wi,0,ms,pcs,[],rfl,hB.mono e1.tups,g,by omega,by omega,by omega,hr1,by show 0<=_; omega,fun l us H2 a1 a2 a3 a4=>?_⟩⟩
  rw[Int.sub_zero] at a3
  have a3l:=a3.len
  have hkl:∀ ks∈yY ms pcs wi.toNat 0 [],ks.length<=16:=fun ks hks=>by
   have:=(jAW hks).1
   omega
  generalize yY ms pcs wi.toNat 0 []=G at q a3 a3l hkl
  refine⟨l,rfl,⟨_,SqL.of a1⟩,jE3 (xs:=us) (by rw[aj]; omega) (fun D j σ' H' zs=>(∃ v,σ'=[v])/\Ext H2 H'/\H' D=some (.lst zs)/\H2 D=none/\All2 (CvAt H') zs (G.take j)) ?_ ?_ ?_ ?_⟩
  ·intro D hD
   exact⟨⟨_,rfl⟩,(Ext.refl _).new hD _,j4,hD,trivial⟩
  ·rintro D j σ' H' zs hD ⟨_,e,h2,_,hc⟩
   refine⟨e _ _ a1,h2,?_⟩
   rw[hc.len,bz]
   omega
  ·rintro D j σ' H' zs x hD hx ⟨⟨v,rfl⟩,e,h2,hn,hc⟩
   obtain⟨ks,hks,a,rfl,ha⟩:=a3.get' hx
   have hk:=hkl ks (aO hks)
   dsimp only [kS,yG]
   rw[ah rfl]
   refine⟨_,rfl,a,ks,rfl,e _ _ ha,by omega,fun l6 ns hl6 sr pm=>⟨l6,_,rfl, .inl ⟨SqL.of j4,fun l7 hl7=>?_⟩⟩⟩
   have e6:Ext H' (upd H' l6 (.lst (ns.map V.int))):=(Ext.refl _).new hl6 _
   have e7:Ext H' (upd (upd H' l6 (.lst (ns.map V.int))) l7 (.tup (ns.map V.int))):=e6.new hl7 _
   have h27:=e7 _ _ h2
   refine⟨h27,⟨_,rfl⟩,(e.trans e7).updNew hn _,j4,hn,?_⟩
   have tw:=Tups.upd h27 (.lst (zs++[.ref l7]))
   have tk:G.take (j+1)=G.take j++[ks]:=by
    rw[aT,hks]
    rfl
   rw[tk]
   exact All2.snoc (CvAt.mono (e7.tups.trans tw) hc) ⟨l7,ns,rfl,tw _ _ j4,pm⟩
  ·rintro D6 σ' H6 zs hD ⟨_,e6,h2,hn,hc⟩
   rw[a3l,bF] at hc
   exact q D6 zs H6 h2 (by have:=hc.len; omega) hc ((e1.trans a4).trans e6)
end
def yAt (ys:List Int)(t:Int):Int:=ys.getD t.toNat 0
def spkY (ms:List Int)(pcs:List (List Int×Int))(ys:List Int):Bool:=!(ms.any fun m=>decide (0<yAt ys m))&&(decide (0<ys.sum)&&pcs.all fun p=>decide ((p.1.map (yAt ys)).sum<=0))
def spkB (w:Int)(ms:List Int)(pcs:List (List Int×Int)):Ob->Bool
 | .tup os=>decide ((os.length:Int)=w)&&(os.all isInt&&spkY ms pcs (os.map val))
 | _=>false
section
variable {P:Program}{w:World}{K:W.Frag}{mg:Str->Option Value}{base:Heap}
variable {f fW:Addr}{fdW:FuncData}{cdv:Value}{A:Around}{outer:List Env}{s:Shared}{H0:Hp}{E:XK}
noncomputable abbrev nSpk:List Str:=["box","thing"]
theorem scSpk:FnScope nSpk ["box","thing"] (j8 sSpk):=⟨rfl,rfl,rfl,by decide+kernel,rfl,by decide+kernel,by decide+kernel⟩
abbrev XSpk (P:Program)(w:World)(K:W.Frag)(mg:Str->Option Value)(base:Heap)(f:Addr)(cdv:Value)(A:Around)(outer:List Env)(s:Shared)(H:Hp)(E:XK):Cx:=XOf nSpk "speaks_against" sSpk P w K mg base f cdv A outer s H E
def spkRA (T:Txt mg)(hr:Room 1 (XSpk P w K mg base f cdv A outer s H0 E).A): { t:TS // JSs (XSpk P w K mg base f cdv A outer s H0 E) ((jB sSpk).drop 1) t} :=
 have nd:=scSpk.nd
 ⟨_,(j7 (yE (q0 (jN (jCZ rfl) gD T.any (by decide+kernel) (j0 (kQ (m:=[none,some 1]) (Nc:=["may","thing"]) rfl (yT (jE jG (jv 0 rfl vL) (j6) jC)) rfl (by decide+kernel) (by decide+kernel) (jW (psc:=j8 sSpk) (by decide+kernel)) (jI (N:=nSpk) rfl rfl (by decide+kernel)) (fun cl C fp s H=>jK (i:=0) (show (["may","thing"]:List Str).Nodup by decide+kernel) rfl (yD (by decide+kernel))) (fun cl C fp s H=>kP) (fun cl C fp s H=>(yI qJ (jE jAB (jv 1 rfl (kJ (by decide+kernel))) (jv 0 rfl (kB (by decide+kernel))) kL) (j6) (jP _))) qA) j5 jQ) jQ) yN) (jD (jV (je_bl))) kG)
   (jD (jV ((jDD (yI qJ (jN (jKQ rfl) gD T.sum (by decide+kernel) (j0 (jv 1 rfl vC) j5 j3) j3) (j6) (jP _)) (jDC (jN (jD0 rfl) gD T.all (by decide+kernel) (j0 (kQ (m:=[none,some 1]) (Nc:=["piece","thing"]) rfl (yT (jE jG (jv 0 rfl vL) (j6) jC)) rfl (by decide+kernel) (by decide+kernel) (jW (psc:=j8 sSpk) (by decide+kernel)) (jI (N:=nSpk) rfl rfl (by decide+kernel)) (fun cl C fp s H=>jK (i:=0) (show (["piece","thing"]:List Str).Nodup by decide+kernel) rfl (yD (by decide+kernel))) (fun cl C fp s H=>kP) (fun cl C fp s H=>(yI op_le (jN (jG5 rfl) (gl_b (by decide+kernel)) T.sum (by decide+kernel) (j0 (kQ (m:=[none,some 1]) (Nc:=["one","thing"]) rfl (jLX (jE jAB (jv 0 rfl (kB (by decide+kernel))) (j6) jC)) rfl (by decide+kernel) (by decide+kernel) (jM0 (by decide+kernel)) (jI (N:=["piece","thing"]) rfl rfl (by decide+kernel)) (fun cl C fp s H=>jK (i:=0) (show (["one","thing"]:List Str).Nodup by decide+kernel) rfl (yD (by decide+kernel))) (fun cl C fp s H=>kP) (fun cl C fp s H=>(jE jJX (jv 1 rfl (kJ (by decide+kernel))) (jv 0 rfl (kB (by decide+kernel))) kL)) qA) j5 jQ) jQ) (j6) (jP _))) qA) j5 jQ) jQ)))))))⟩
def spkA (T:Txt mg)(CW:Can P w K mg base "is_whole" 1 fW fdW ["thing"] spWh)(hr:Room 1 (XSpk P w K mg base f cdv A outer s H0 E).A): { t:TS // JSs (XSpk P w K mg base f cdv A outer s H0 E) (jB sSpk) t} :=
 have nd:=scSpk.nd
 ⟨_,(j7 (yE (jt_w (jw_or (jBJ (q0 (jN jAA gD T.isinstance (by decide+kernel) (j0 (jv 1 rfl vC) (j0 (jCS (v:= .ty "tuple") gD T.tuple (by decide+kernel) rfl) j5 j3) j3) j3) yN)) (jw_or (jJ op_ne (jN jZ gD T.len (by decide+kernel) (j0 (jv 1 rfl vC) j5 j3) j3) (jE jG (jv 0 rfl vL) (j6) jC) (jP _)) (jDB (jBJ (q0 (jN (jD0 rfl) gD T.all (by decide+kernel) (j0 (kQ (m:=[none]) (Nc:=["number"]) rfl (yT (jv 1 rfl vC)) rfl (by decide+kernel) (by decide+kernel) (jW (psc:=j8 sSpk) (by decide+kernel)) (jI (N:=nSpk) rfl rfl (by decide+kernel)) (fun cl C fp s H=>jK (i:=0) (show (["number"]:List Str).Nodup by decide+kernel) rfl (yD (by decide+kernel))) (fun cl C fp s H=>kP) (fun cl C fp s H=>(CW.je (hr.mono (by decide)) (gl_b (by decide+kernel)) (j0 (jv 0 rfl (kB (by decide+kernel))) j5 j3) j3)) jAT) j5 jQ) jQ) yN)))))) (jD (jV (je_bl))) kG) (spkRA T hr).2)⟩
theorem jG9 {ys:List Int}{t:Int}{n:Nat}(h0:0<=t)(h1:t<n)(hl:ys.length=n):atI (ys.map V.int) t=some (.int (yAt ys t)):=by
 have e:((t.toNat:Nat):Int)=t:=by omega
 have:(ys.map V.int)[t.toNat]?=some (.int (yAt ys t)):=by
  rw[az,aG (by omega)]
  unfold yAt
  rw[aE,aG (by omega)]
  rfl
 have:=yB this
 rwa [e] at this
theorem jIJ (T:Txt mg)(hr:Room 1 (XSpk P w K mg base f cdv A outer s H0 E).A){D:Ends}{H:Hp}{b a:Addr}{wi:Int}{ms:List Int}{pcs:List (List Int×Int)}{ys:List Int}(hB:BoxAt H b wi ms pcs)(g:Good 16 32 wi ms pcs)(ha:H a=some (.tup (ys.map V.int)))(hy:ys.length=wi.toNat)(q:∀ H',Ext H H'->D.rt (.bl (spkY ms pcs ys)) H'):
  (spkRA T hr).1 D [some (.ref b),some (.ref a)] H:=by
 obtain⟨qm,qp,ps,b1,b2,b3,b4⟩:=id hB.ex
 have pl:=b4.len
 have gpl:=g.pl
 have w0:=g.w0
 have w1:=g.w1
 have ml:ms.length<=wi.toNat:=jEP wi.toNat ms (g.mr.ris.imp fun {x y} h=>by omega) fun t ht=>by have:=g.mr.bnd t ht; omega
 refine⟨_,rfl,b,_,1,_,rfl,rfl,SqT.of b1,rfl,qm,rfl,⟨_,SqT.of b2⟩,jAM (xs:=ms.map V.int) (fun σ=>∃ v,σ=[v,some (.ref a)]) (mapZ ms fun m=>V.bl (decide (0<yAt ys m))) (mapZ.ok _ _) b2 (by rw[aj,ac]; omega) ⟨_,rfl⟩ ?_ ?_⟩
 ·rintro j x σ' H' zs hx ⟨v,rfl⟩ e hz S1 S2 yes no
  obtain⟨z,hz',rfl⟩:=int_at hx
  have zb:=g.mr.bnd z (aO hz')
  dsimp only [kS,yG]
  rw[ah rfl]
  exact⟨_,rfl,_,rfl,a,_,z,_,rfl,rfl,SqT.of (e _ _ ha),jG9 zb.1 (by omega) hy,_,_,rfl,rfl,yes _ _ _ ⟨_,rfl⟩ (Ext.refl _) (hz.yes hz')⟩
 ·rintro l1 H1 zs d1 e1 n1 hz
  have hz:=hz.all (by rw[ac]; exact af _)
  have d1:H1 l1=some (.lst ((ms.map fun m=>decide (0<yAt ys m)).map V.bl)):=by rw[d1,hz,bv]; rfl
  refine⟨l1,_,rfl,SqL.of d1,_,rfl,ite2 (fun h=>?_) (fun h=>?_)⟩
  ·have e:spkY ms pcs ys=false:=by
    unfold spkY
    rw[fN] at h
    have h:(ms.any fun m=>decide (0<yAt ys m))=true:=h
    rw[h]
    rfl
   have:=q H1 e1
   rw[e] at this
   exact this
  ·rw[fN] at h
   have h:(ms.any fun m=>decide (0<yAt ys m))=false:=cc.mpr h
   have ey:spkY ms pcs ys=(decide (0<ys.sum)&&pcs.all fun p=>decide ((p.1.map (yAt ys)).sum<=0)):=by
    unfold spkY
    rw[h]
    rfl
   rw[ey] at q
   refine⟨_,rfl,a,_,rfl,SqT.of (e1 _ _ ha),_,_,rfl,rfl,_,rfl,ite2 (fun h2=>?_) (fun h2=>?_)⟩
   ·have h2:decide (0<ys.sum)=true:=h2
    rw[h2,bR] at q
    refine⟨_,rfl,b,_,2,_,rfl,rfl,SqT.of (e1 _ _ b1),rfl,qp,rfl,⟨_,SqT.of (e1 _ _ b3)⟩,jAM (xs:=ps) (fun σ=>∃ v,σ=[v,some (.ref a)]) (mapZ pcs fun p=>V.bl (decide ((p.1.map (yAt ys)).sum<=0))) (mapZ.ok _ _) (e1 _ _ b3) (by rw[aj]; omega) ⟨_,rfl⟩ ?_ ?_⟩
    ·rintro j x σ' H' zs' hx ⟨v,rfl⟩ e hz' S1 S2 yes no
     have hj:j<pcs.length:=by
      rw[<- pl]
      exact(ay.mp hx).1
     obtain⟨x',hx',pa,pq,rfl,c1,c2⟩:=b4.get hj
     rw[hx] at hx'
     cases hx'
     have E1:=e1.trans e
     have gp:=(g.at hj).lot
     have pgj:pcs[j]?=some (pcs.getD j ([],0)):=by rw[aE,aG hj]; rfl
     have tl:(pcs.getD j ([],0)).1.length<=wi.toNat:=jEP wi.toNat _ (gp.ris.imp fun {x y} h=>by omega) fun t ht=>by have:=gp.bnd t ht; omega
     dsimp only [kS,yG]
     rw[ah rfl]
     refine⟨_,rfl,pa,_,0,_,rfl,rfl,SqT.of (E1 _ _ c1),rfl,pq,rfl,⟨_,SqT.of (E1 _ _ c2)⟩,jAM (xs:=(pcs.getD j ([],0)).1.map V.int) (fun σ=>∃ v,σ=[v,some (.ref a)]) (mapZ (pcs.getD j ([],0)).1 fun t=>V.int (yAt ys t)) (mapZ.ok _ _) (E1 _ _ c2) (by rw[aj,ac]; omega) ⟨_,rfl⟩ ?_ ?_⟩
     ·rintro j2 x2 σ2 H2 zs2 hx2 ⟨v2,rfl⟩ e2 hz2 S1' S2' yes2 no2
      obtain⟨z,hz',rfl⟩:=int_at hx2
      have zb:=gp.bnd z (aO hz')
      dsimp only [kS,yG]
      rw[ah rfl]
      exact⟨_,rfl,_,rfl,a,_,z,_,rfl,rfl,SqT.of (e2 _ _ (E1 _ _ ha)),jG9 zb.1 (by omega) hy,yes2 _ _ _ ⟨_,rfl⟩ (Ext.refl _) (hz2.yes hz')⟩
     ·rintro l2 H2 zs2 d2 e2 n2 hz2
      have hz2:=hz2.all (by rw[ac]; exact af _)
      have d2:H2 l2=some (.lst (((pcs.getD j ([],0)).1.map (yAt ys)).map V.int)):=by rw[d2,hz2,bv]; rfl
      exact⟨l2,_,rfl,SqL.of d2,_,_,rfl,rfl,yes _ _ _ ⟨_,rfl⟩ e2 (hz'.yes pgj)⟩
    ·rintro l3 H3 zs3 d3 e3 n3 hz3
     have hz3:=hz3.all (by rw[pl]; exact af _)
     have d3:H3 l3=some (.lst ((pcs.map fun p=>decide ((p.1.map (yAt ys)).sum<=0)).map V.bl)):=by rw[d3,hz3,bv]; rfl
     refine⟨l3,_,rfl,SqL.of d3,?_⟩
     have:=q H3 (e1.trans e3)
     rw[all_map]
     exact this
   ·have h2:decide (0<ys.sum)=false:=cc.mpr h2
    have:=q H1 e1
    rw[h2] at this
    exact this
theorem jNB {w:Int}{ms:List Int}{pcs:List (List Int×Int)}{o:Ob}(h:isTup o=false):spkB w ms pcs o=false:=by cases o <;> first | rfl | cases h
theorem jNC {w:Int}{ms:List Int}{pcs:List (List Int×Int)}{os:List Ob}(h:¬ (os.length:Int)=w):spkB w ms pcs (.tup os)=false:=by
 show (decide _&&_)=false
 rw[aI h,bX]
theorem jND {w:Int}{ms:List Int}{pcs:List (List Int×Int)}{os:List Ob}(h:os.all isInt=false):spkB w ms pcs (.tup os)=false:=by
 show (_&&(_&&_))=false
 rw[h,bX,dA]
theorem jGH {w:Int}{ms:List Int}{pcs:List (List Int×Int)}{os:List Ob}(h1:(os.length:Int)=w)(h2:os.all isInt=true):spkB w ms pcs (.tup os)=spkY ms pcs (os.map val):=by
 show (decide _&&(_&&_))=_
 rw[ar h1,h2,bR,bR]
theorem jH9 {H:Hp} :∀ {os:List Ob}{vs:List V},Ats H os vs->os.all isInt=true->vs=(os.map val).map V.int
 | [],vs,h,_=>h
 | o::os,vs,h,q=>by
  obtain⟨v,r,rfl,e1,e2⟩:=h
  rw[eZ,aR] at q
  rw[jH9 e2 q.2]
  cases o with
  | int i=>rw[show v= .int i from e1]; rfl
  | oth=>cases q.1
  | tup _=>cases q.1
def spSpk:Sp:=fun vs H Q _=>∃ (b:Addr) (v:V) (o:Ob) (w:Int) (ms:List Int) (pcs:List (List Int×Int)),vs=[.ref b,v]/\BoxAt H b w ms pcs/\Good 16 32 w ms pcs/\At H o v/\∀ H',Ext H H'->Q (.bl (spkB w ms pcs o)) H'
theorem jPW {fd:FuncData}(F:Fun K "speaks_against" "speaks_against" sSpk f fd)(T:Txt mg)(CW:Can P w K mg base "is_whole" 1 fW fdW ["thing"] spWh):FnOk P w K mg base CX0 2 f fd ["box","thing"] spSpk:=by
 refine F.ok scSpk (fun vs H Q E h=>?_) (fun cdv A outer s H vs Q E hr h=>?_)
 ·obtain⟨_,_,_,_,_,_,rfl,_⟩:=h
  rfl
 ·obtain⟨b,v,o,wi,ms,pcs,rfl,hB,g,hA,q⟩:=h
  obtain⟨qm,qp,ps,b1,b2,b3,b4⟩:=id hB.ex
  have w0:=g.w0
  obtain⟨t,ty,kt,_⟩:=hA.ty K
  refine⟨_,(spkA T CW hr).2.h,?_⟩
  refine⟨_,rfl,_,_,_,_,rfl,ty,kt,_,rfl,?_⟩
  cases ht:isTup o with
  | false=>exact iteT (iteT (qb (q H (Ext.refl H)) (jNB ht)))
  | true=>
   refine iteF ?_
   obtain⟨os,a,vs,rfl,rfl,ha,h100,hx⟩:=hA.tupOf ht
   have hl:=hx.len
   have hn:vs.length<sizeLine:=by rw[aj]; omega
   refine⟨_,rfl,a,_,rfl, .inr (SqT.of ha),_,rfl,b,_,0,_,rfl,rfl,SqT.of b1,rfl,rfl,_,rfl,?_⟩
   by_cases hle:((vs.length:Nat):Int)=wi
   ·refine iteNS (by rw[hle]) ?_
    refine⟨_,rfl,a,rfl,⟨_,SqT.of ha⟩,jF0 (F:=isInt) ha hx hn (fun σ'=>∃ v,σ'=[v]) ⟨_,rfl⟩ ?_ ?_⟩
    ·rintro σ' H' v o R S ⟨u,rfl⟩ e hA k
     dsimp only [kS,yG]
     rw[ah rfl]
     exact⟨_,rfl,v,o,rfl,hA,k [some v] H' ⟨_,rfl⟩ (Ext.refl _)⟩
    ·intro D H1 e1 hD
     refine⟨D,_,rfl,SqL.of hD,_,rfl,?_⟩
     rw[jN4]
     cases hall:os.all isInt with
     | false=>exact iteT (qb (q H1 e1) (jND hall))
     | true=>
      refine iteF ?_
      have ev:=jH9 hx hall
      rw[ev] at ha
      refine jIJ T hr (hB.mono e1.tups) g (e1 _ _ ha) ?_ fun H2 e2=>?_
      ·rw[ac]; omega
      ·exact qb (q H2 (e1.trans e2)) (jGH (by omega) hall)
   ·have hb:(!decide (V.int ((vs.length:Nat):Int)=V.int wi))=true:=by
     rw[aI (fun z=>hle (by injection z))]
     rfl
    exact ite2 (fun _=>iteT (qb (q H (Ext.refl H)) (jNC (by omega)))) (fun hn=>absurd hb hn)
end
end Eo
end
section
namespace L2
open PySem PySem.Spec PyProof.Rows
theorem jHT {X:Cx}{sc:Scope}{cl:List (Str×Addr)}{C:Addr}{Nc:List Str}{fp:List Addr}{s:Shared}{H:Hp}{sc2:Scope}{cl2:List (Str×Addr)}{C2:Addr}{Nc2:List Str}{fp2:List Addr}{s2:Shared}{H2:Hp}{x y:Str}{p1 p2 pos:Pos}{k:Nat}{i j:Nat}(hc:X.calm=true)(hN:Nc2.Nodup)(hi:Nc2[i]?=some x)(hj:Nc2[j]?=some y)(hx:sc2.names.lookup x=some .local)(hy:sc2.names.lookup y=some .local):
  JG (blk (blkC X sc cl C Nc fp s H) sc2 cl2 C2 Nc2 fp2 s2 H2) (.Tuple [.Name x p1, .Name y p2] k pos) (gTup X.K 2 (gCons (kS i) (gCons (kS j) gNil))):=jCR (X:=blkC X sc cl C Nc fp s H) hc hN hi hj hx hy
end L2
namespace Eo
open PySem L2
def jMG (s:Stmt):List Stmt:=match s with
 | .If _ b _ _=>b
 | _=> []
section
variable {P:Program}{w:World}{K:W.Frag}{mg:Str->Option Value}{base:Heap}
variable {f fT:Addr}{fdT:FuncData}{cdv:Value}{A:Around}{outer:List Env}{s:Shared}{H0:Hp}{E:XK}
noncomputable abbrev nVec:List Str:=["pot","box","way","found","t","lone","at"]
theorem scVec:FnScope nVec ["pot","box"] (j8 sVec):=⟨rfl,rfl,rfl,by decide+kernel,rfl,by decide+kernel,by decide+kernel⟩
abbrev XVec (P:Program)(w:World)(K:W.Frag)(mg:Str->Option Value)(base:Heap)(f:Addr)(cdv:Value)(A:Around)(outer:List Env)(s:Shared)(H:Hp)(E:XK):Cx:=XOf nVec "_law_vector" sVec P w K mg base f cdv A outer s H E
section
variable (T:Txt mg)(CT:Can P w K mg base "_law_take" 1 fT fdT ["pot","wide"] y9)(hr:Room 1 (XVec P w K mg base f cdv A outer s H0 E).A)
def vecAA: { t:TS // JSs (XVec P w K mg base f cdv A outer s H0 E) (yQ ((jMG ((jB sVec).getD 2 (.Pass ⟨0,0,0,0⟩))).getD 0 (.Pass ⟨0,0,0,0⟩))) t} :=
 have nd:=scVec.nd
 have _h:=T
 have _h2:=hr
 ⟨_,(jD (jEU (jX jB3 (j6) (jN jBO gD T.abs (by decide+kernel) (j0 (jE jU (jv 3 rfl vL) (jv 4 rfl vL) kL) j5 jL) jL)) (jEV (jv 3 rfl vL) (jv 4 rfl vL) jAU)))⟩
def vecBA: { t:TS // JSs (XVec P w K mg base f cdv A outer s H0 E) (yQ ((jMG ((jB sVec).getD 4 (.Pass ⟨0,0,0,0⟩))).getD 0 (.Pass ⟨0,0,0,0⟩))) t} :=
 have nd:=scVec.nd
 have _h2:=hr
 ⟨_,(jD (jEU (kN jF5 gD T.int (by decide+kernel) (j0 ((jDD (yI jAP (jv 4 rfl vL) (jv 5 rfl vL) jBT) (jDC (yI jAN (jv 4 rfl vL) (jE jG (jv 1 rfl vC) (j6) jC) jCL)))) j5 jIS) jIS) (jEV (jv 3 rfl vL) (jv 4 rfl vL) jAU)))⟩
def vecRA: { t:TS // JSs (XVec P w K mg base f cdv A outer s H0 E) ((jB sVec).drop 6) t} :=
 have nd:=scVec.nd
 ⟨_,(jD (jV (kN jY gD T.tuple (by decide+kernel) (j0 (jv 3 rfl vL) j5 j3) j3)))⟩
def vecEA: { t:TS // JSs (XVec P w K mg base f cdv A outer s H0 E) ((jB sVec).drop 5) t} :=
 have nd:=scVec.nd
 ⟨_,(j7 (yE (jt_w (jET (jJ qD (jv 2 rfl vL) (j6) (jP _)) (jCP (jJ qJ (jE jG (jv 1 rfl vC) (j6) jC) (j6) (jP _))))) (j7 (jF (i:=6) nd rfl lL (CT.je hr gD (j0 (jv 0 rfl vC) (j0 (jE jG (jv 1 rfl vC) (j6) jC) j5 jL) j3) j3) jO)
   (jD (jEU (jX jB3 (jX kW (jE jU (jv 3 rfl vL) (jv 6 rfl vL) kL) (CT.je hr gD (j0 (jv 0 rfl vC) (j0 (j6) j5 jM) j3) j3)) (j6)) (jEV (jv 3 rfl vL) (jv 6 rfl vL) jAU)))) kG) (vecRA T).2)⟩
def vecLA: { t:TS // JSs (XVec P w K mg base f cdv A outer s H0 E) ((jB sVec).drop 3) t} :=
 have nd:=scVec.nd
 ⟨_,(j7 (jGQ (i:=5) nd rfl lL ⟨by rfl⟩ (m:=[none,some 1]) (Nc:=["t","box"]) rfl (kT gD T.range (j0 (jE jG (jv 1 rfl vC) (j6) jC) j5 jL) jL) rfl (by decide+kernel) (by decide+kernel) (jW (psc:=j8 sVec) (by decide+kernel)) (jI (N:=nVec) rfl rfl (by decide+kernel)) (fun cl C fp s H=>jK (i:=0) (show (["t","box"]:List Str).Nodup by decide+kernel) rfl (jJL (by decide+kernel))) (fun cl C fp s H=>jB9 (jBJ (q0 (jN (jF6 rfl) (gl_bC (by decide+kernel)) T.any (by decide+kernel) (j0 (kQ (m:=[none,none,some 0]) (Nc:=["things","weight","t"]) rfl (jJR (jE jEW (jv 1 rfl (jFI (by decide+kernel))) (j6) jC)) rfl (by decide+kernel) (by decide+kernel) (jH1 (by decide+kernel)) (jI (N:=["t","box"]) rfl rfl (by decide+kernel)) (fun cl C fp s H=>jHT (i:=0) (j:=1) rfl (show (["things","weight","t"]:List Str).Nodup by decide+kernel) rfl rfl (by decide+kernel) (by decide+kernel)) (fun cl C fp s H=>kP) (fun cl C fp s H=>(yI jGN (jv 2 rfl (kJ (by decide+kernel))) (jv 0 rfl (kB (by decide+kernel))) jBT)) qA) j5 jQ) jQ) yN))) (fun cl C fp s H=>(jv 0 rfl (jHY (by decide+kernel)))) kR) (j7 (yE (jJ qJ (jv 2 rfl vL) (j6) (jP _)) (jD (yW bb rfl (kT gD T.range (j0 (jE jG (jv 1 rfl vC) (j6) jC) j5 jL) jL) (jK (i:=4) nd rfl lL) (vecBA T hr).2 kR)) kG) (vecEA T CT hr).2))⟩
def vecA: { t:TS // JSs (XVec P w K mg base f cdv A outer s H0 E) (jB sVec) t} :=
 have nd:=scVec.nd
 ⟨_,(j7 (jF (i:=2) nd rfl lL (CT.je hr gD (j0 (jv 0 rfl vC) (j0 (j6) j5 jM) j3) j3) jO) (j7 (jCQ (i:=3) nd rfl lL ⟨by rfl⟩ (m:=[none,some 0]) (Nc:=["t","pot"]) rfl (kT gD T.range (j0 (jE jG (jv 1 rfl vC) (j6) jC) j5 jL) jL) rfl (by decide+kernel) (by decide+kernel) (jW (psc:=j8 sVec) (by decide+kernel)) (jI (N:=nVec) rfl rfl (by decide+kernel)) (fun cl C fp s H=>jK (i:=0) (show (["t","pot"]:List Str).Nodup by decide+kernel) rfl (yD (by decide+kernel))) (fun cl C fp s H=>kP) (fun cl C fp s H=>(jX jB3 (CT.je hr (gl_b (by decide+kernel)) (j0 (jv 1 rfl (kJ (by decide+kernel))) (j0 (j6) j5 jM) j3) j3) (j6))) kR) (j7 (yE (jJ qJ (jv 2 rfl vL) (j6) (jP _)) (jD (yW bb rfl (yT (jE jG (jv 1 rfl vC) (j6) jC)) (jK (i:=4) nd rfl lL) (vecAA T hr).2 qA)) kG) (vecLA T CT hr).2)))⟩
theorem jDP (ys:List Int)(j:Nat)(z:Int):(ys.map V.int).set j (.int z)=(ys.set j z).map V.int:=by
 rw[map_set]
theorem jJZ {n:Nat}{t:Int}(h0:0<=t)(h1:t<n):ixN n t=some t.toNat:=by
 unfold ixN
 rw[ah h0,ah h1]
def VRt (D:Ends)(H:Hp)(p l:Addr)(n:Nat):Prop:=∀ (r:Addr) (ys':List Int) (N':Int) (H':Hp),H' r=some (.tup (ys'.map V.int))->ys'.length=n->H' p=some (.lst [.int N'])->0<=N'->(∀ c o,H c=some o->c≠p->c≠l->H' c=some o)->D.rt (.ref r) H'
theorem jC9 {D:Ends}{H:Hp}{p l:Addr}{N:Int}{n:Nat}{ys:List Int}{v1 v2 v4 v5 v6:Option V}(hp:H p=some (.lst [.int N]))(hN:0<=N)(hl:H l=some (.lst (ys.map V.int)))(yl:ys.length=n)(rt:VRt D H p l n):
  (vecRA (f:=f) (cdv:=cdv) (A:=A) (outer:=outer) (s:=s) (H0:=H0) (E:=E) (P:=P) (w:=w) (K:=K) (base:=base) T).1 D [some (.ref p),v1,v2,some (.ref l),v4,v5,v6] H:=by
 refine⟨_,rfl,l,_,rfl, .inl ⟨SqL.of hl,fun r h=>?_⟩⟩
 have e:Ext H (L2.upd H r (.tup (ys.map V.int))):=(Ext.refl _).new h _
 exact rt r ys N _ j4 yl (e _ _ hp) hN fun c o h _ _=>e _ _ h
theorem VRt.go {D:Ends}{H H1:Hp}{p l:Addr}{n:Nat}(rt:VRt D H p l n)(k:∀ c o,H c=some o->c≠p->c≠l->H1 c=some o):VRt D H1 p l n:=fun r ys N H' a b c d e=>rt r ys N H' a b c d fun x o h n1 n2=>e x o (k x o h n1 n2) n1 n2
theorem jEC {D:Ends}{H:Hp}{p x l:Addr}{N wy:Int}{wi:Int}{ms:List Int}{pcs:List (List Int×Int)}{ys:List Int}{v4 v5 v6:Option V}(hB:BoxAt H x wi ms pcs)(g:Good 16 32 wi ms pcs)(hp:H p=some (.lst [.int N]))(hN:0<=N)(hl:H l=some (.lst (ys.map V.int)))(yl:ys.length=wi.toNat)(lp:l≠p)(rt:VRt D H p l wi.toNat):
  (vecEA T CT hr).1 D [some (.ref p),some (.ref x),some (.int wy),some (.ref l),v4,v5,v6] H:=by
 obtain⟨qm,qp,ps,b1,b2,b3,b4⟩:=id hB.ex
 have w0:=g.w0
 have w1:=g.w1
 refine⟨_,rfl,rfl,_,rfl,ite2 (fun h=>?_) (fun h=>?_)⟩
 ·refine⟨_,rfl,x,_,0,_,rfl,rfl,SqT.of b1,rfl,_,_,rfl,rfl,_,rfl,ite2 (fun h2=>?_) (fun h2=>?_)⟩
  ·have h2:wi>0:=au h2
   refine⟨_,rfl,_,rfl,x,_,0,_,rfl,rfl,SqT.of b1,rfl,p,N,wi,rfl,hp,hN,by omega,by omega,fun N1 r q1 q2 q3=>?_⟩
   have k1:∀ c o,H c=some o->c≠p->(L2.upd H p (.lst [.int N1])) c=some o:=fun c o h n=>by rw[j9 n]; exact h
   have d1:(L2.upd H p (.lst [.int N1])) p=some (.lst [.int N1]):=j4
   generalize L2.upd H p (.lst [.int N1])=H1 at k1 d1
   have l1:=k1 _ _ hl lp
   refine⟨_,rfl,_,rfl,l,_,r,_,rfl,rfl,SqL.of l1,jG9 q2 (by omega) yl,?_⟩
   refine⟨_,rfl,p,N1,3,rfl,d1,q1,by decide,by decide,fun N2 r2 s1 s2 s3=>⟨_,_,rfl,rfl,?_⟩⟩
   have k2:∀ c o,H1 c=some o->c≠p->(L2.upd H1 p (.lst [.int N2])) c=some o:=fun c o h n=>by rw[j9 n]; exact h
   have d2:(L2.upd H1 p (.lst [.int N2])) p=some (.lst [.int N2]):=j4
   generalize L2.upd H1 p (.lst [.int N2])=H2 at k2 d2
   have l2:=k2 _ _ l1 lp
   refine⟨_,_,rfl,rfl,_,rfl,_,rfl,l,_,r,_,rfl,rfl,l2,jJZ q2 (by rw[ac]; omega),?_⟩
   rw[jDP]
   exact jC9 T (by rw[j9 lp.symm]; exact d2) s1 j4 (by rw[dk]; exact yl) (rt.go fun c o h n1 n2=>by rw[j9 n2]; exact k2 _ _ (k1 _ _ h n1) n1)
  ·exact jC9 T hp hN hl yl rt
 ·exact jC9 T hp hN hl yl rt
theorem jHZ {D:Ends}{H:Hp}{p x l ln:Addr}{wi:Int}{ms:List Int}{pcs:List (List Int×Int)}{ys:List Int}{ls:List Int}{j:Nat}{v2 v6:Option V}(hB:BoxAt H x wi ms pcs)(g:Good 16 32 wi ms pcs)(hl:H l=some (.lst (ys.map V.int)))(yl:ys.length=wi.toNat)(hn:H ln=some (.lst (ls.map V.int)))(hj:j<wi.toNat)
  (nx:∀ H' (ys':List Int),H' l=some (.lst (ys'.map V.int))->ys'.length=wi.toNat->(∀ c o,H c=some o->c≠l->H' c=some o)->D.nx [some (.ref p),some (.ref x),v2,some (.ref l),some (.int (j:Int)),some (.ref ln),v6] H'):
  (vecBA T hr).1 D [some (.ref p),some (.ref x),v2,some (.ref l),some (.int (j:Int)),some (.ref ln),v6] H:=by
 obtain⟨qm,qp,ps,b1,b2,b3,b4⟩:=id hB.ex
 have put:∀ z:Int,rSetL (.ref l) (.int (j:Int)) (.int z) H fun H'=>D.nx [some (.ref p),some (.ref x),v2,some (.ref l),some (.int (j:Int)),some (.ref ln),v6] H':=fun z=>by
  refine⟨l,_,(j:Int),_,rfl,rfl,hl,jJZ (by omega) (by rw[ac]; omega),?_⟩
  rw[jDP]
  exact nx _ _ j4 (by rw[dk]; exact yl) fun c o h n=>by rw[j9 n]; exact h
 refine⟨_,rfl,_,rfl,ln,_,rfl, .inl (SqL.of hn),rfl,y8 _,_,rfl,?_⟩
 rw[yH]
 refine ite2 (fun h=>?_) (fun h=>?_)
 ·refine⟨_,rfl,_,rfl,x,_,1,_,rfl,rfl,SqT.of b1,rfl,qm,_,rfl, .inr (SqT.of b2),rfl,y8 _,?_⟩
  exact .inr ⟨_,rfl,_,rfl,_,rfl,put _⟩
 ·exact .inr ⟨_,rfl,_,rfl,_,rfl,put _⟩
theorem jI0 {D:Ends}{H:Hp}{p x l:Addr}{wi t:Int}{ys:List Int}{v2 v5 v6:Option V}(hl:H l=some (.lst (ys.map V.int)))(yl:ys.length=wi.toNat)(t0:0<=t)(t1:t<wi)
  (nx:∀ H' (ys':List Int),H' l=some (.lst (ys'.map V.int))->ys'.length=wi.toNat->(∀ c o,H c=some o->c≠l->H' c=some o)->D.nx [some (.ref p),some (.ref x),v2,some (.ref l),some (.int t),v5,v6] H'):
  (vecAA T hr).1 D [some (.ref p),some (.ref x),v2,some (.ref l),some (.int t),v5,v6] H:=by
 refine⟨_,rfl,_,rfl,l,_,t,_,rfl,rfl,SqL.of hl,jG9 (n:=wi.toNat) t0 (by omega) yl,?_⟩
 refine⟨_,rfl,_,_,rfl,rfl,_,rfl,_,rfl,l,_,t,_,rfl,rfl,hl,jJZ t0 (by rw[ac]; omega),?_⟩
 rw[jDP]
 exact nx _ _ j4 (by rw[dk]; exact yl) fun c o h n=>by rw[j9 n]; exact h
theorem jEB {D:Ends}{H:Hp}{p x l:Addr}{N wy:Int}{wi:Int}{ms:List Int}{pcs:List (List Int×Int)}{ys:List Int}{v4 v5 v6:Option V}(hB:BoxAt H x wi ms pcs)(g:Good 16 32 wi ms pcs)(hp:H p=some (.lst [.int N]))(hN:0<=N)(hl:H l=some (.lst (ys.map V.int)))(yl:ys.length=wi.toNat)(lp:l≠p)(rt:VRt D H p l wi.toNat):
  (vecLA T CT hr).1 D [some (.ref p),some (.ref x),some (.int wy),some (.ref l),v4,v5,v6] H:=by
 obtain⟨qm,qp,ps,b1,b2,b3,b4⟩:=id hB.ex
 have w0:=g.w0
 have w1:=g.w1
 have pl:=b4.len
 have gpl:=g.pl
 refine⟨_,rfl,x,_,0,_,rfl,rfl,SqT.of b1,rfl,wi,rfl,by omega,by omega,jBN (n:=wi.toNat) (fun σ=>∃ v,σ=[v,some (.ref x)]) (outZ (List.range wi.toNat) (fun (t:Nat)=>!(pcs.any fun pc=>decide ((t:Int)∈pc.1))) fun (t:Nat)=>V.int (t:Int)) (outZ.ok _ _ _) (by rw[aj]; omega) ⟨_,rfl⟩ ?_ ?_⟩
 ·rintro j σ' H' zs hj ⟨v,rfl⟩ e hz S1 S2 yes no
  have e0:(0+(j:Int))=(j:Int):=by omega
  have hg:(List.range wi.toNat)[j]?=some j:=aM hj
  refine⟨_,rfl,x,_,2,_,rfl,rfl,SqT.of (e _ _ b1),rfl,qp,rfl,⟨_,SqT.of (e _ _ b3)⟩,jAM (xs:=ps) (fun σ=>∃ v v',σ=[v,v',some (.int (0+(j:Int)))]) (mapZ pcs fun pc=>V.bl (decide ((j:Int)∈pc.1))) (mapZ.ok _ _) (e _ _ b3) (by rw[aj]; omega) ⟨_,_,rfl⟩ ?_ ?_⟩
  ·rintro i y σ2 H2 zs2 hy ⟨u,u',rfl⟩ e2 hz2 S1' S2' yes2 no2
   have hi:i<pcs.length:=by
    rw[<- pl]
    exact(ay.mp hy).1
   obtain⟨y',hy',pa,pq,rfl,c1,c2⟩:=b4.get hi
   rw[hy] at hy'
   cases hy'
   have pgi:pcs[i]?=some (pcs.getD i ([],0)):=by rw[aE,aG hi]; rfl
   have E:=e.trans e2
   refine⟨pa,_,rfl,SqT.of (E _ _ c1),rfl,_,_,rfl,_,_,rfl,rfl,?_⟩
   dsimp only [yG]
   rw[ah rfl]
   refine⟨_,rfl,_,rfl,pq,_,rfl, .inr (SqT.of (E _ _ c2)),rfl,y8 _,?_⟩
   rw[yH,e0]
   exact yes2 _ _ _ ⟨some (.ref pq),some (.int (pcs.getD i ([],0)).2),by rw[e0]; rfl⟩ (Ext.refl _) (hz2.yes pgi)
  ·rintro D2 H2 zs2 d2 e2 n2 hz2
   have hz2:=hz2.all (by rw[pl]; exact af _)
   have d2:H2 D2=some (.lst ((pcs.map fun pc=>decide ((j:Int)∈pc.1)).map V.bl)):=by rw[d2,hz2,bv]; rfl
   refine⟨D2,_,rfl,SqL.of d2,_,rfl,?_⟩
   rw[fN]
   refine ite2 (fun h=>?_) (fun h=>?_)
   ·have y:=hz.yes (H':=H2) hg h
    rw[e0]
    exact⟨_,rfl,yes _ _ _ ⟨_,rfl⟩ e2 y⟩
   ·exact no _ _ ⟨_,rfl⟩ e2 (hz.no hg (cc.mpr h))
 ·rintro ln H1 zs d1 e1 n1 hz
  have hz:=hz.all (by rw[ao]; exact af _)
  have d1:H1 ln=some (.lst ((((List.range wi.toNat).filter fun (t:Nat)=>!(pcs.any fun pc=>decide ((t:Int)∈pc.1))).map fun (t:Nat)=>(t:Int)).map V.int)):=by rw[d1,hz,bv]; rfl
  have lnl:ln≠l:=fun z=>by rw[z,hl] at n1; cases n1
  have lnp:ln≠p:=fun z=>by rw[z,hp] at n1; cases n1
  have B1:=hB.mono e1.tups
  have rt1:VRt D H1 p l wi.toNat:=rt.go fun c o h _ _=>e1 _ _ h
  refine⟨_,rfl,_,_,rfl,rfl,_,rfl,ite2 (fun h=>?_) (fun h=>?_)⟩
  ·obtain⟨qm,qp,ps,b1,b2,b3,b4⟩:=id B1.ex
   refine⟨_,rfl,x,_,0,_,rfl,rfl,SqT.of b1,rfl,wi,rfl,by omega,by omega,jA2 (lo:=0) (n:=wi.toNat) (fun i σ H'=>(∃ v4,σ=[some (.ref p),some (.ref x),some (.int wy),some (.ref l),v4,some (.ref ln),v6])/\(∀ c o,H1 c=some o->c≠l->H' c=some o)/\∃ ys':List Int,H' l=some (.lst (ys'.map V.int))/\ys'.length=wi.toNat) ⟨⟨_,rfl⟩,fun _ _ h _=>h,ys,e1 _ _ hl,yl⟩ ?_ ?_⟩
   ·rintro i σ H2 hi ⟨⟨v4,rfl⟩,k2,ys2,l2,yl2⟩
    have e0:(0+(i:Int))=(i:Int):=by omega
    show (vecBA T hr).1 _ [some (.ref p),some (.ref x),some (.int wy),some (.ref l),some (.int (0+(i:Int))),some (.ref ln),v6] H2
    rw[e0]
    have t2:Tups H1 H2:=fun c xs h=>k2 _ _ h fun z=>by rw[z,e1 _ _ hl] at h; cases h
    exact jHZ T hr (B1.mono t2) g l2 yl2 (k2 _ _ d1 lnl) hi fun H3 ys3 l3 yl3 k3=>⟨⟨_,rfl⟩,fun c o h n=>k3 _ _ (k2 _ _ h n) n,ys3,l3,yl3⟩
   ·rintro σ H2 ⟨⟨v4,rfl⟩,k2,ys2,l2,yl2⟩
    have t2:Tups H1 H2:=fun c xs h=>k2 _ _ h fun z=>by rw[z,e1 _ _ hl] at h; cases h
    exact jEC T CT hr (B1.mono t2) g (k2 _ _ (e1 _ _ hp) lp.symm) hN l2 yl2 lp (rt1.go fun c o h _ n2=>k2 _ _ h n2)
  ·exact jEC T CT hr B1 g (e1 _ _ hp) hN (e1 _ _ hl) yl lp rt1
end
def spVec:Sp:=fun vs H Q _=>∃ (p x:Addr) (N w:Int) (ms:List Int) (pcs:List (List Int×Int)),vs=[.ref p, .ref x]/\H p=some (.lst [.int N])/\0<=N/\BoxAt H x w ms pcs/\Good 16 32 w ms pcs/\∀ (r:Addr) (ys:List Int) (N':Int) (H':Hp),H' r=some (.tup (ys.map V.int))->ys.length=w.toNat->H' p=some (.lst [.int N'])->0<=N'->(∀ c o,H c=some o->c≠p->H' c=some o)->Q (.ref r) H'
theorem jPV {fd:FuncData}(F:Fun K "_law_vector" "_law_vector" sVec f fd)(T:Txt mg)(CT:Can P w K mg base "_law_take" 1 fT fdT ["pot","wide"] y9):FnOk P w K mg base CX0 2 f fd ["pot","box"] spVec:=by
 refine F.ok scVec (fun vs H Q E h=>?_) (fun cdv A outer s H vs Q E hr h=>?_)
 ·obtain⟨_,_,_,_,_,_,rfl,_⟩:=h
  rfl
 ·obtain⟨p,x,N,wi,ms,pcs,rfl,hp,hN,hB,g,q⟩:=h
  refine⟨_,(vecA T CT hr).2.h,?_⟩
  have w0:=g.w0
  have w1:=g.w1
  refine⟨_,rfl,p,N,4,rfl,hp,hN,by decide,by decide,fun N1 wy q1 q2 q3=>?_⟩
  have k1:∀ c o,H c=some o->c≠p->(L2.upd H p (.lst [.int N1])) c=some o:=fun c o h n=>by rw[j9 n]; exact h
  have d1:(L2.upd H p (.lst [.int N1])) p=some (.lst [.int N1]):=j4
  have t1:Tups H (L2.upd H p (.lst [.int N1])):=Tups.upd hp _
  generalize L2.upd H p (.lst [.int N1])=H1 at k1 d1 t1
  have B1:=hB.mono t1
  obtain⟨qm,qp,ps,b1,b2,b3,b4⟩:=id B1.ex
  refine⟨_,rfl,x,_,0,_,rfl,rfl,SqT.of b1,rfl,wi,rfl,by omega,by omega,jAX (n:=wi.toNat) (by rw[aj]; omega) (fun D i σ' H' zs=>(∃ v,σ'=[v,some (.ref p)])/\H' D=some (.lst zs)/\(∃ ys:List Int,zs=ys.map V.int/\ys.length=i)/\(∃ N',H' p=some (.lst [.int N'])/\0<=N')/\∀ c o,H1 c=some o->c≠p->H' c=some o) ?_ ?_ ?_ ?_⟩
  ·intro D hD
   have Dp:D≠p:=fun z=>by rw[z,d1] at hD; cases hD
   exact⟨⟨_,rfl⟩,j4,⟨[],rfl,rfl⟩,⟨N1,by rw[j9 Dp.symm]; exact d1,q1⟩,fun c o h n=>by rw[j9 (fun z=>by rw[z,hD] at h; cases h)]; exact h⟩
  ·rintro D i σ' H' zs hD hi ⟨_,h2,⟨ys,rfl,yl⟩,_⟩
   exact⟨h2,by rw[ac]; omega⟩
  ·rintro D i σ' H' zs hD hi ⟨⟨v,rfl⟩,h2,⟨ys,rfl,yl⟩,⟨N',p',hN'⟩,k'⟩
   have Dp:D≠p:=fun z=>by rw[z,d1] at hD; cases hD
   dsimp only [kS,yG]
   rw[ah rfl]
   refine⟨_,rfl,p,N',7,rfl,p',hN',by decide,by decide,fun N2 r s1 s2 s3=>⟨_,_,rfl,rfl,?_⟩⟩
   refine⟨by rw[j9 Dp]; exact h2,⟨_,rfl⟩,j4,⟨ys++[r - 3],by rw[aD]; rfl,by rw[aN,yl]; rfl⟩,⟨N2,by rw[j9 Dp.symm,j4],s1⟩,fun c o h n=>?_⟩
   rw[j9 (fun z=>by rw[z,hD] at h; cases h),j9 n]
   exact k' _ _ h n
  ·rintro l σ' H2 zs hD ⟨_,h2,⟨ys,rfl,yl⟩,⟨N2,p2,hN2⟩,k2⟩
   have lp:l≠p:=fun z=>by rw[z,d1] at hD; cases hD
   have t2:Tups H1 H2:=fun c xs h=>k2 _ _ h fun z=>by rw[z,d1] at h; cases h
   have B2:=B1.mono t2
   have rt:VRt { nx:=fun x H'=>Q V.non H',rt:=Q} H2 p l wi.toNat:=fun r ys' N' H' a b c d e=>q r ys' N' H' a b c d fun x o h n=>e _ _ (k2 _ _ (k1 _ _ h n) n) n fun z=>by
    have:=k1 _ _ h n
    rw[z,hD] at this
    cases this
   refine⟨_,rfl,_,_,rfl,rfl,_,rfl,ite2 (fun h=>?_) (fun h=>?_)⟩
   ·obtain⟨qm,qp,ps,b1,b2,b3,b4⟩:=id B2.ex
    refine⟨_,rfl,x,_,1,_,rfl,rfl,SqT.of b1,rfl,qm,rfl,⟨_,SqT.of b2⟩,jK7 (xs:=ms.map V.int) (fun i σ H'=>(∃ v4,σ=[some (.ref p),some (.ref x),some (.int wy),some (.ref l),v4,none,none])/\(∀ c o,H2 c=some o->c≠l->H' c=some o)/\∃ ys':List Int,H' l=some (.lst (ys'.map V.int))/\ys'.length=wi.toNat) ⟨⟨_,rfl⟩,fun _ _ h _=>h,ys,h2,yl⟩ (fun i σ H' _ ⟨_,k,_⟩=>SqT.of (k _ _ b2 fun z=>by rw[z,h2] at b2; cases b2)) ?_ ?_⟩
    ·rintro i y σ H3 hy ⟨⟨v4,rfl⟩,k3,ys3,l3,yl3⟩
     obtain⟨z,hz',rfl⟩:=int_at hy
     have zb:=g.mr.bnd z (aO hz')
     exact jI0 T hr l3 yl3 zb.1 zb.2 fun H4 ys4 l4 yl4 k4=>⟨⟨_,rfl⟩,fun c o h n=>k4 _ _ (k3 _ _ h n) n,ys4,l4,yl4⟩
    ·rintro σ H3 ⟨⟨v4,rfl⟩,k3,ys3,l3,yl3⟩
     have t3:Tups H2 H3:=fun c xs h=>k3 _ _ h fun z=>by rw[z,h2] at h; cases h
     exact jEB T CT hr (B2.mono t3) g (k3 _ _ p2 lp.symm) hN2 l3 yl3 lp (rt.go fun c o h _ n2=>k3 _ _ h n2)
   ·exact jEB T CT hr B2 g p2 hN2 h2 yl lp rt
end
def Covs (H:Hp)(us:List V)(n len:Nat):Prop:=∀ u∈us,∃ (a:Addr) (ks:List Int),u= .ref a/\H a=some (.tup (ks.map V.int))/\(∀ k∈ks,0<=k/\k<n)/\ks.length<=len
section
variable {P:Program}{w:World}{K:W.Frag}{mg:Str->Option Value}{base:Heap}
variable {f fT fR:Addr}{fdT fdR:FuncData}{cdv:Value}{A:Around}{outer:List Env}{s:Shared}{H0:Hp}{E:XK}
noncomputable abbrev nMean:List Str:=["pot","box","every","heavy","whole","turn","by","k"]
theorem scMean:FnScope nMean ["pot","box","every"] (j8 qI):=⟨rfl,rfl,rfl,by decide+kernel,rfl,by decide+kernel,by decide+kernel⟩
abbrev XMean (P:Program)(w:World)(K:W.Frag)(mg:Str->Option Value)(base:Heap)(f:Addr)(cdv:Value)(A:Around)(outer:List Env)(s:Shared)(H:Hp)(E:XK):Cx:=XOf nMean "_law_mean" qI P w K mg base f cdv A outer s H E
def meanI (T:Txt mg)(CT:Can P w K mg base "_law_take" 1 fT fdT ["pot","wide"] y9)(CR:Can P w K mg base "_law_ratio" 2 fR fdR ["top","bottom"] spFr)(hr:Room 2 (XMean P w K mg base f cdv A outer s H0 E).A): { t:TS // JSs (XMean P w K mg base f cdv A outer s H0 E) (yQ ((yQ ((jB qI).getD 2 (.Pass ⟨0,0,0,0⟩))).getD 2 (.Pass ⟨0,0,0,0⟩))) t} :=
 have nd:=scMean.nd
 ⟨_,(jD (jEU (jX kW (jE jU (jv 3 rfl vL) (jv 7 rfl vL) kL) (jv 6 rfl vL)) (jEV (jv 3 rfl vL) (jv 7 rfl vL) jAU)))⟩
def meanL (T:Txt mg)(CT:Can P w K mg base "_law_take" 1 fT fdT ["pot","wide"] y9)(CR:Can P w K mg base "_law_ratio" 2 fR fdR ["top","bottom"] spFr)(hr:Room 2 (XMean P w K mg base f cdv A outer s H0 E).A): { t:TS // JSs (XMean P w K mg base f cdv A outer s H0 E) (yQ ((jB qI).getD 2 (.Pass ⟨0,0,0,0⟩))) t} :=
 have nd:=scMean.nd
 ⟨_,(j7 (jF (i:=6) nd rfl lL (jX kW (j6) (CT.je (hr.mono (by decide)) gD (j0 (jv 0 rfl vL) (j0 (j6) j5 jM) j3) j3)) jBY) (j7 (jF (i:=4) nd rfl (yS (by decide+kernel)) (jX kW (jv 4 rfl vC) (jv 6 rfl vL)) jBY) (jD (yW bb rfl (yT (jE jU (jv 2 rfl vL) (CT.je (hr.mono (by decide)) gD (j0 (jv 0 rfl vL) (j0 (jN jZ gD T.len (by decide+kernel) (j0 (jv 2 rfl vL) j5 j3) j3) j5 jT) j3) j3) jFQ)) (jK (i:=7) nd rfl lL) (meanI T CT CR hr).2 qA))))⟩
def meanA (T:Txt mg)(CT:Can P w K mg base "_law_take" 1 fT fdT ["pot","wide"] y9)(CR:Can P w K mg base "_law_ratio" 2 fR fdR ["top","bottom"] spFr)(hr:Room 2 (XMean P w K mg base f cdv A outer s H0 E).A): { t:TS // JSs (XMean P w K mg base f cdv A outer s H0 E) (jB qI) t} :=
 have nd:=scMean.nd
 ⟨_,(j7 (jCQ (i:=3) nd rfl lL ⟨by rfl⟩ (m:=[none]) (Nc:=["piece"]) rfl (yT (jE jG (jv 1 rfl vL) (j6) jC)) rfl (by decide+kernel) (by decide+kernel) (jW (psc:=j8 qI) (by decide+kernel)) (jI (N:=nMean) rfl rfl (by decide+kernel)) (fun cl C fp s H=>jK (i:=0) (show (["piece"]:List Str).Nodup by decide+kernel) rfl (yD (by decide+kernel))) (fun cl C fp s H=>kP) (fun cl C fp s H=>(j6)) qA) (j7 (jF (i:=4) nd rfl (yS (by decide+kernel)) (j6) jBC) (j7 (yW bb rfl (kT gD T.range (j0 (jX kW (j6) (CT.je (hr.mono (by decide)) gD (j0 (jv 0 rfl vL) (j0 (j6) j5 jM) j3) j3)) j5 kZ) kZ) (jK (i:=5) nd rfl lL) (meanL T CT CR hr).2 kR) (jD (jV (kN jY gD T.tuple (by decide+kernel) (j0 (kQ (m:=[none,some 4]) (Nc:=["one","whole"]) rfl (jAQ (jv 3 rfl vL)) rfl (by decide+kernel) (by decide+kernel) (jW (psc:=j8 qI) (by decide+kernel)) (jI (N:=nMean) rfl rfl (by decide+kernel)) (fun cl C fp s H=>jK (i:=0) (show (["one","whole"]:List Str).Nodup by decide+kernel) rfl (yD (by decide+kernel))) (fun cl C fp s H=>kP) (fun cl C fp s H=>(CR.je hr (gl_b (by decide+kernel)) (j0 (jv 0 rfl (kB (by decide+kernel))) (j0 (jv 1 rfl (kJ (by decide+kernel))) j5 j3) j3) j3)) jAT) j5 jQ) jQ))))))⟩
end
theorem jOM {n j:Nat}(h:j<n):ixN n (j:Int)=some j:=by
 unfold ixN
 simp
 omega
def SmF (p:Int×Int):Prop:=0<=p.1/\p.1<=1000/\1<=p.2/\p.2<=1000
theorem jEO {h b:Int}(h0:0<=h)(h1:h<=1000)(b0:1<=b)(b1:b<=1000):SmF (nrm (h,b)):=by
 obtain⟨⟨p,_⟩,le⟩:=jBI (f:=(h,b)) (show (0:Int)<b by omega)
 have le:(nrm (h,b)).2<=b:=le
 refine⟨dP h0 (cM _),dY (Int.ediv_le_self _ h0) h1,p,dY le b1⟩
theorem jMX {b:Int}(b0:1<=b)(b1:b<=1000000):b.natAbs<BIG:=jN2 (n:=1) (by decide) (by omega) (by rw[Nat.pow_one]; omega)
def jIL:Sp:=fun vs H Q _=>∃ (p b l:Addr) (N w:Int) (ms:List Int) (pcs:List (List Int×Int)) (us:List V),vs=[.ref p, .ref b, .ref l]/\H p=some (.lst [.int N])/\0<=N/\BoxAt H b w ms pcs/\Good 16 16 w ms pcs/\H l=some (.lst us)/\0<us.length/\us.length<=65536/\Covs H us pcs.length 16/\l≠p/\
 ∀ r N' H' xs frs,0<=N'->H' p=some (.lst [.int N'])->H' r=some (.tup xs)->FrsAt H' xs frs->(∀ x∈frs,SmF x)->frs.length=pcs.length->Keep H H' p->Q (.ref r) H'
section
variable {P:Program}{w:World}{K:W.Frag}{mg:Str->Option Value}{base:Heap}
variable {f fT fR:Addr}{fdT fdR:FuncData}{cdv:Value}{A:Around}{outer:List Env}{s:Shared}{H0:Hp}{E:XK}
theorem jO5 {fd:FuncData}(F:Fun K "_law_mean" "_law_mean" qI f fd)(T:Txt mg)(CT:Can P w K mg base "_law_take" 1 fT fdT ["pot","wide"] y9)(CR:Can P w K mg base "_law_ratio" 2 fR fdR ["top","bottom"] spFr):FnOk P w K mg base CX0 3 f fd ["pot","box","every"] jIL:=by
 refine F.ok scMean (fun vs H Q E h=>?_) (fun cdv A outer s H vs Q E hr h=>?_)
 ·obtain⟨_,_,_,_,_,_,_,_,rfl,_⟩:=h
  rfl
 ·obtain⟨p,b,l,N,wi,ms,pcs,us,rfl,hp,hN,hB,g,hl,u0,u1,hC,lp,q⟩:=h
  obtain⟨qm,qp,ps,b1,b2,b3,b4⟩:=hB.ex
  have pl:=b4.len
  have gl:=g.pl
  refine⟨_,(meanA T CT CR hr).2.h,?_⟩
  refine⟨_,rfl,b,_,2,_,rfl,rfl,SqT.of b1,rfl,qp,rfl,⟨_,SqT.of b3⟩,jBM (xs:=ps) (by rw[aj]; omega) (fun D i σ' H' zs=>(∃ v,σ'=[v])/\zs=(replicate i (0:Int)).map V.int/\Ext H H'/\H' D=some (.lst zs)/\H D=none) ?_ ?_ ?_ ?_⟩
  ·intro D hD
   exact⟨⟨_,rfl⟩,rfl,(Ext.refl _).new hD _,j4,hD⟩
  ·rintro D i σ' H' zs hD ⟨_,rfl,e,h2,_⟩
   exact⟨e _ _ b3,h2,by rw[ac,cP]; exact af _⟩
  ·rintro D i σ' H' zs x hD hx ⟨⟨v,rfl⟩,rfl,e,h2,hn⟩
   dsimp only [kS,yG]
   rw[ah rfl]
   refine⟨h2,⟨_,rfl⟩,?_,e.updNew hn _,j4,hn⟩
   rw[List.replicate_succ',aD]
   rfl
  ·rintro D σ' H1 zs hD ⟨_,rfl,e1,hD1,hn⟩
   have pD:D≠p:=fun e=>by subst e; rw[hp] at hn; cases hn
   refine⟨_,rfl,p,N,3,rfl,e1 _ _ hp,hN,by decide,by decide,fun N1 r a1 a2 a3=>?_⟩
   refine⟨_,_,rfl,rfl,_,rfl,by omega,by omega,jA2 (fun i σ H'=>∃ (N:Int) (hs:List Int) (wh:Int) (v5 v6 v7:Option V),σ=[some (.ref p),some (.ref b),some (.ref l),some (.ref D),some (.int wh),v5,v6,v7]/\0<=N/\H' p=some (.lst [.int N])/\H' D=some (.lst (hs.map V.int))/\hs.length=pcs.length/\(∀ h∈hs,0<=h/\h<=80*(i:Int))/\(i:Int)<=wh/\wh<=5*(i:Int)/\Keep H H' p) ?_ ?_ ?_⟩
   ·refine⟨N1,replicate ps.length 0,0,_,_,_,rfl,a1,j4,by rw[j9 pD]; exact hD1,by rw[cP]; exact pl,fun h hh=>?_,by omega,by omega,fun c u hc hne=>by rw[j9 hne]; exact e1 _ _ hc⟩
    rw[List.mem_replicate] at hh
    omega
   ·rintro i σ H2 hi ⟨N2,hs,wh,v5,v6,v7,rfl,hN2,hp2,hD2,hl2,hb2,w0,w1,kp⟩
    refine⟨_,rfl,p,N2,5,rfl,hp2,hN2,by decide,by decide,fun N3 r3 c1 c2 c3=>⟨_,_,rfl,rfl,?_⟩⟩
    refine⟨_,rfl,_,rfl,_,_,rfl,rfl,?_⟩
    have hl3:(upd H2 p (.lst [.int N3])) l=some (.lst us):=by rw[j9 lp]; exact kp _ _ hl lp
    refine⟨_,rfl,_,rfl,_,rfl,l,us,rfl, .inl (SqL.of hl3),p,N3,us.length,rfl,j4,c1,by omega,by omega,fun N4 r4 d1 d2 d3=>?_⟩
    rw[jAG]
    have hl4:(upd H2 p (.lst [.int N4])) l=some (.lst us):=by rw[j9 lp]; exact kp _ _ hl lp
    have hr4:r4.toNat<us.length:=by omega
    have hx4:us[r4.toNat]?=some us[r4.toNat]:=aG hr4
    obtain⟨qc,ks,hqe,hqc,hk,hkl⟩:=hC _ (aO hx4)
    have at4:atI us r4=some (.ref qc):=by
     have e:r4=((r4.toNat:Nat):Int):=by omega
     rw[e]
     exact yB (by rw[<- hqe]; exact hx4)
    have qp':qc≠p:=ne_of hqc hp (by intro z; cases z)
    have kp4:Keep H (upd H2 p (.lst [.int N4])) p:=kp.upd _
    have hD4:(upd H2 p (.lst [.int N4])) D=some (.lst (hs.map V.int)):=by rw[j9 pD]; exact hD2
    have hp4:(upd H2 p (.lst [.int N4])) p=some (.lst [.int N4]):=j4
    generalize upd H2 p (.lst [.int N4])=H4 at hl4 kp4 hD4 hp4 ⊢
    refine⟨l,us,r4,_,rfl,rfl,SqL.of hl4,at4,qc,rfl,⟨_,SqT.of (kp4 _ _ hqc qp')⟩,jK7 (xs:=ks.map V.int) (fun j σ H'=>∃ (hs:List Int) (v7:Option V),σ=[some (.ref p),some (.ref b),some (.ref l),some (.ref D),some (.int (wh+(1+r3))),some (.int (0+(i:Int))),some (.int (1+r3)),v7]/\H' D=some (.lst (hs.map V.int))/\hs.length=pcs.length/\(∀ h∈hs,0<=h/\h<=80*(i:Int)+5*(j:Int))/\H' p=some (.lst [.int N4])/\Keep H H' p) ⟨hs,_,rfl,hD4,hl2,fun h hh=>?_,hp4,kp4⟩ ?_ ?_ ?_⟩
    ·have:=hb2 h hh
     omega
    ·rintro j σ H5 _ ⟨hs,v7,rfl,f1,f2,f3,f4,f5⟩
     exact SqT.of (f5 _ _ hqc qp')
    ·rintro j x σ H5 hx ⟨hs,v7,rfl,f1,f2,f3,f4,f5⟩
     obtain⟨z,hz,rfl⟩:∃ z:Int,z∈ks/\V.int z=x:=by
      have:=aO hx
      rw[aQ] at this
      exact this
     obtain⟨z0,z1⟩:=hk z hz
     obtain⟨kn,rfl⟩:∃ kn:Nat,z=(kn:Int):=⟨z.toNat,by omega⟩
     have hkn:kn<hs.length:=by omega
     have hg:(hs.map V.int)[kn]?=some (.int hs[kn]):=by rw[az,aG hkn]; rfl
     have hbk:=f3 _ (cr hkn)
     refine⟨_,rfl,_,rfl,D,_,_,_,rfl,rfl,SqL.of f1,yB hg,_,rfl,_,_,rfl,rfl,?_⟩
     refine⟨_,rfl,_,rfl,D,_,_,kn,rfl,rfl,f1,jOM (by rw[ac]; exact hkn),?_⟩
     refine⟨hs.set kn (hs[kn]+(1+r3)),_,rfl,?_,by rw[dk]; exact f2,fun h hh=>?_,by rw[j9 (dj pD)]; exact f4,fun c u hc hne=>?_⟩
     ·rw[j4,map_set]
     ·rcases List.mem_or_eq_of_mem_set hh with hh | rfl
      ·have:=f3 h hh
       omega
      ·omega
     ·rw[j9 (jA hc hn)]
      exact f5 c u hc hne
    ·rintro σ H5 ⟨hs,v7,rfl,f1,f2,f3,f4,f5⟩
     refine⟨N4,hs,_,_,_,_,rfl,d1,f4,f1,f2,fun h hh=>?_,by omega,by omega,f5⟩
     have:=f3 h hh
     rw[ac] at this
     omega
   ·rintro σ H5 ⟨N5,hs,wh,v5,v6,v7,rfl,hN5,hp5,hD5,hl5,hb5,w0,w1,kp5⟩
    refine⟨_,rfl,D,rfl,⟨_,SqL.of hD5⟩,jE3 (xs:=hs.map V.int) (by rw[ac,aj]; omega) (fun D2 j σ' H' zs=>(∃ v,σ'=[v,some (.int wh)])/\FrsAt H' zs ((hs.take j).map fun h=>nrm (h,wh))/\Ext H5 H'/\H' D2=some (.lst zs)/\H5 D2=none) ?_ ?_ ?_ ?_⟩
    ·intro D2 hD2
     exact⟨⟨_,rfl⟩,trivial,(Ext.refl _).new hD2 _,j4,hD2⟩
    ·rintro D2 j σ' H' zs hD2 ⟨_,hF,e,h2,_⟩
     refine⟨e _ _ hD5,h2,?_⟩
     rw[hF.len,ac,bz]
     omega
    ·rintro D2 j σ' H' zs x hD2 hx ⟨⟨v,rfl⟩,hF,e,h2,hn2⟩
     obtain⟨z,hz,rfl⟩:∃ z:Int,hs[j]?=some z/\V.int z=x:=by
      rw[az] at hx
      cases hq:hs[j]? with
      | none=>rw[hq] at hx; cases hx
      | some z=>rw[hq] at hx; cases hx; exact⟨z,rfl,rfl⟩
     dsimp only [kS,yG]
     rw[ah rfl]
     refine⟨_,rfl,_,rfl,z,wh,rfl,by omega,jMX (by omega) (by omega),fun r6 H6 hr6 e6=>?_⟩
     have h26:=e6 _ _ h2
     have tw:Tups H6 (upd H6 D2 (.lst (zs++[.ref r6]))):=Tups.upd h26 _
     refine⟨h26,⟨_,rfl⟩,?_,(e.trans e6).updNew hn2 _,j4,hn2⟩
     have:hs.take (j+1)=hs.take j++[z]:=by
      rw[aT,hz]
      rfl
     rw[this,aD]
     exact FrsAt.snoc ⟨r6,rfl,tw _ _ hr6⟩ (hF.mono (e6.tups.trans tw))
    ·rintro D2 σ' H6 zs hD2 ⟨_,hF,e,h2,hn2⟩
     rw[ac,bF] at hF
     refine⟨D2,zs,rfl, .inl ⟨SqL.of h2,fun l7 hl7=>?_⟩⟩
     have e7:Ext H6 (upd H6 l7 (.tup zs)):=(Ext.refl _).new hl7 _
     have e57:=e.trans e7
     refine q l7 N5 _ zs _ hN5 (e57 _ _ hp5) j4 (hF.mono e7.tups) (fun x hx=>?_) (by rw[ac]; exact hl5) fun c u hc hne=>e57 _ _ (kp5 c u hc hne)
     rw[aQ] at hx
     obtain⟨z,hz,rfl⟩:=hx
     have:=hb5 z hz
     exact jEO (by omega) (by omega) (by omega) (by omega)
end
theorem jCG (f:Nat->Int):∀ n,((List.range n).map f).sum=sxS n f
 | 0=>rfl
 | n+1=>by
  rw[cf,aD,fX,jCG f n]
  show _+(f n+0)=_
  rw[bC]
  rfl
theorem jFV {n:Nat}{g:Int->Int} :∀ {L:List Int},L.Nodup->(∀ t∈L,0<=t/\t<(n:Int))->(L.map g).sum=sxS n fun k=>if decide ((k:Int)∈L)=true then g (k:Int) else 0
 | [],_,_=>(jA5 fun k _=>ai (by rw[aI (by intro h; cases h)]; decide)).symm
 | a::L,nd,hb=>by
  obtain⟨n1,n2⟩:=cO.mp nd
  have ab:=hb a (aA ..)
  have ih:=jFV (g:=g) n2 fun t ht=>hb t (aB _ ht)
  rw[cF,List.sum_cons,ih]
  have e:sxS n (fun k=>if decide ((k:Int)∈a::L)=true then g (k:Int) else 0)=sxS n (fun k=>(if k=a.toNat then g a else 0)+if decide ((k:Int)∈L)=true then g (k:Int) else 0):=jH fun k _=>by
   by_cases z:k=a.toNat
   ·have zk:(k:Int)=a:=by omega
    rw[ah z,zk,ar (aA ..),ah rfl,aI n1,ai (by decide),bC]
   ·have zk:¬ (k:Int)=a:=by omega
    rw[ai z,bA]
    by_cases y:(k:Int)∈L
    ·rw[ar y,ar (aB _ y)]
    ·rw[aI y,aI fun q=>by
      rcases aC.mp q with q | q
      ·exact zk q
      ·exact y q]
  rw[e,yC,yM (i:=a.toNat) (by omega) fun k _ hk=>ai hk,ah rfl]
theorem jJF (ms:List Int)(p:Int->Bool):∀ n,((((mus ms n).filter p).length:Nat):Int)=sxS n fun k=>if p (k:Int)=true/\(!decide ((k:Int)∈ms))=true then 1 else 0
 | 0=>rfl
 | n+1=>by
  rw[jDX,bW,aN,fY,jJF ms p n]
  show _=sxS n _+if p (n:Int)=true/\(!decide ((n:Int)∈ms))=true then 1 else 0
  congr 1
  by_cases h:(!decide ((n:Int)∈ms))=true
  ·rw[ah h]
   by_cases y:p (n:Int)=true
   ·rw[cJ y,ah ⟨y,h⟩]; rfl
   ·rw[cK y,ai fun q=>y q.1]; rfl
  ·rw[ai h,ai fun q=>h q.2]; rfl
def msO (w:Int)(ms:List Int)(pcs:List (List Int×Int))(lack:Int):Sx.Bx.Ms (bxO w ms pcs lack):=⟨fun k=>!decide ((k:Int)∈ms),fun c=>(pcs.getD c ([],0)).2,lack,fun c _=>by
 show (pcs.getD c ([],0)).2 - lack*_=_
 rw[jJF]
 rfl⟩
theorem yL_eq (w:Int)(ms:List Int)(pcs:List (List Int×Int))(lack:Int)(b:Nat->Nat):yL ms lack (bxO w ms pcs lack) b=(List.range w.toNat).map fun k=>Sx.Bx.yP (msO w ms pcs lack) b k:=bj fun k _=>by
 unfold Sx.Bx.yP
 show _=(if (!decide ((k:Int)∈ms))=true then lack*(bxO w ms pcs lack).P.D b else 0) - _
 by_cases h:(k:Int)∈ms
 ·rw[ar h,ah rfl,ai (by decide)]
 ·rw[aI h,ai (by decide),ah (by decide)]
theorem jMD {w:Int}{ms:List Int}{pcs:List (List Int×Int)}{lack:Int}{b:Nat->Nat}{t:Int}(h0:0<=t)(h1:t<w):yAt (yL ms lack (bxO w ms pcs lack) b) t=Sx.Bx.yP (msO w ms pcs lack) b t.toNat:=by
 unfold yAt
 rw[yL_eq,aE,az,aM (by omega)]
 rfl
section
variable {w:Int}{ms:List Int}{pcs:List (List Int×Int)}{lack:Int}{b:Nat->Nat}(g:Good 16 32 w ms pcs)(o:OptB (bxO w ms pcs lack) b)
include g o
theorem jL9 {m:Int}(hm:m∈ms):yAt (yL ms lack (bxO w ms pcs lack) b) m<=0:=by
 have mb:=g.mr.bnd m hm
 rw[jMD mb.1 mb.2]
 refine Sx.Bx.dual_m o.v o.o _ (show m.toNat<w.toNat by omega) ?_
 show (!decide (((m.toNat:Nat):Int)∈ms))=false
 rw[show ((m.toNat:Nat):Int)=m by omega,ar hm]
 rfl
theorem jHG {p:List Int×Int}(hp:p∈pcs):(p.1.map (yAt (yL ms lack (bxO w ms pcs lack) b))).sum<=(bxO w ms pcs lack).P.D b*p.2:=by
 obtain⟨c,hc⟩:=dM hp
 have cl:c<pcs.length:=(ay.mp hc).1
 have eg:pcs.getD c ([],0)=p:=by rw[aE,hc]; rfl
 have gp:=(g.pg p hp).lot
 have w0:=g.w0
 rw[jFV (n:=w.toNat) (gp.ris.imp fun {x y} h=>by omega) fun t ht=>by have:=gp.bnd t ht; omega]
 have:=Sx.Bx.dual_c o.v o.o (msO w ms pcs lack) (show c<(bxO w ms pcs lack).p from cl)
 have e:(msO w ms pcs lack).wt c=p.2:=by show (pcs.getD c ([],0)).2=p.2; rw[eg]
 rw[e] at this
 refine dY (Int.le_of_eq ?_) this
 refine jH (n:=w.toNat) fun k hk=>?_
 show _=if decide ((k:Int)∈(pcs.getD c ([],0)).1)=true then _ else _
 rw[eg]
 by_cases h:decide ((k:Int)∈p.1)=true
 ·rw[ah h,ah h,jMD (by omega) (by omega)]
  rfl
 ·rw[ai h,ai h]
theorem jL7:(yL ms lack (bxO w ms pcs lack) b).sum=lack*sxS w.toNat (fun k=>if (!decide ((k:Int)∈ms))=true then (bxO w ms pcs lack).xP b (pcs.length+k) else 0)+sxS pcs.length fun c=>(bxO w ms pcs lack).xP b c*(pcs.getD c ([],0)).2:=by
 rw[yL_eq,jCG]
 exact Sx.Bx.dual_s o.v o.o (msO w ms pcs lack)
end
section
variable {w:Int}{ms:List Int}{pcs:List (List Int×Int)}{b:Nat->Nat}(g:Good 16 32 w ms pcs)(o:OptB (bxU w ms pcs) b)
include g o
theorem jL8 (h:0<(yL ms 1 (bxU w ms pcs) b).sum):spkY ms pcs (yL ms 1 (bxU w ms pcs) b)=true:=by
 have gu:=jC4 g
 unfold spkY
 rw[ar h,bR,aR,eY,eN,aU]
 refine⟨fun m hm z=>?_,fun p hp=>ar ?_⟩
 ·have:=jL9 gu o hm
  have z:0<yAt (yL ms 1 (bxO w ms (unW pcs) 1) b) m:=au z
  omega
 ·have:=jHG gu o (p:=(p.1,0)) (aQ.mpr ⟨p,hp,rfl⟩)
  have e:(bxO w ms (unW pcs) 1).P.D b*(p.1,(0:Int)).2=0:=aV _
  rw[e] at this
  exact this
theorem jI8 (h:¬ 0<(yL ms 1 (bxU w ms pcs) b).sum){t:Nat}(ht:t<w.toNat)(hm:¬ (t:Int)∈ms):(bxU w ms pcs).xP b (pcs.length+t)=0:=by
 have gu:=jC4 g
 have s:=jL7 gu o
 rw[jAD,gt] at s
 have z:sxS pcs.length (fun c=>(bxO w ms (unW pcs) 1).xP b c*((unW pcs).getD c ([],0)).2)=0:=jA5 fun c _=>by rw[jDI]; exact aV _
 rw[z,bC] at s
 have nn:∀ k,k<w.toNat->0<=(if (!decide ((k:Int)∈ms))=true then (bxO w ms (unW pcs) 1).xP b (pcs.length+k) else 0):=fun k _=>by
  split
  ·exact Sx.Bx.xP_nn o.v _
  ·exact eW _
 have pos:0<=(bxO w ms (unW pcs) 1).xP b (pcs.length+t):=Sx.Bx.xP_nn o.v (pcs.length+t)
 refine bV fun ne=>h ?_
 have ne:¬ (bxO w ms (unW pcs) 1).xP b (pcs.length+t)=0:=ne
 rw[s]
 have one:sxS w.toNat (fun k=>if (!decide ((k:Int)∈ms))=true then (bxO w ms (unW pcs) 1).xP b (pcs.length+k) else 0)=sxS w.toNat (fun k=>(if k=t then (bxO w ms (unW pcs) 1).xP b (pcs.length+t) else 0)+if k=t then 0 else if (!decide ((k:Int)∈ms))=true then (bxO w ms (unW pcs) 1).xP b (pcs.length+k) else 0):=jH fun k _=>by
  by_cases y:k=t
  ·rw[ah y,ah y,y,aI hm,ah (by decide),bC]
  ·rw[ai y,ai y,bA]
 rw[one,yC,yM ht fun k _ hk=>ai hk,ah rfl]
 have rest:=jGF (n:=w.toNat) (f:=fun k=>if k=t then 0 else if (!decide ((k:Int)∈ms))=true then (bxO w ms (unW pcs) 1).xP b (pcs.length+k) else 0) fun k hk=>by
  show 0<=if k=t then 0 else _
  split
  ·exact eW _
  ·exact nn k hk
 omega
theorem jHF {t:Nat}(ht:t<w.toNat):sxS pcs.length (fun c=>if decide ((t:Int)∈(pcs.getD c ([],0)).1)=true then (bxU w ms pcs).xP b c else 0)+(bxU w ms pcs).xP b (pcs.length+t)=(bxU w ms pcs).P.D b:=by
 have:=Sx.Bx.prim o.v (show t<(bxU w ms pcs).n from ht)
 have pe:(bxU w ms pcs).p=pcs.length:=jAD pcs
 rw[pe] at this
 rw[<- this]
 congr 1
 refine jH fun c _=>?_
 show _=if decide ((t:Int)∈((unW pcs).getD c ([],0)).1)=true then _ else _
 rw[jDI]
end
def LkD (D:Int):List (Int×Int)->List Int->Prop
 | [],[]=>True
 | p::ps,x::xs=>(0<p.2/\p.1*D=x*p.2)/\LkD D ps xs
 | _,_=>False
theorem jIH {D:Int} :∀ {ps:List (Int×Int)}{xs:List Int}{f:Int×Int}{s:Int},LkD D ps xs->0<f.2->f.1*D=s*f.2->0<(ps.foldl stp f).2/\(ps.foldl stp f).1*D=(s+xs.sum)*(ps.foldl stp f).2
 | [],[],f,s,_,h0,h1=>⟨h0,by rw[List.sum_nil,bC]; exact h1⟩
 | p::ps,x::xs,f,s,h,h0,h1=>by
  have:=jIH (f:=stp f p) (s:=s+x) h.2 (dJ h0 h.1.1) (by
   have e:=h.1.2
   show (f.1*p.2+p.1*f.2)*D=(s+x)*(f.2*p.2)
   have e1:(f.1*p.2+p.1*f.2)*D=(f.1*D)*p.2+(p.1*D)*f.2:=by grind
   rw[e1,h1,e]
   grind)
  rw[List.sum_cons,<- Int.add_assoc]
  exact this
 | [],_::_,_,_,h,_,_=>h.elim
 | _::_,[],_,_,h,_,_=>h.elim
theorem jQ5 {D s:Int}{ms:List Int}{t:Int}{f:Int×Int}(hD:0<D)(h0:0<f.2)(h1:f.1*D=s*f.2)(hs:s<=D)(hm:t∈ms\/s=D):okS ms t f=true:=by
 have le:f.1<=f.2:=by
  refine eC (a:=D) ?_ hD
  rw[h1,bB f.2]
  exact br hs (bG h0)
 unfold okS
 rw[aI (by omega),Bool.not_false,bR,Bool.or_eq_true]
 rcases hm with z | z
 ·exact .inr (ar z)
 ·refine .inl (ar ?_)
  rw[z] at h1
  exact cy (by omega) (h1.trans (bB _ _))
theorem jOB {D s:Int}{ms:List Int}{t:Int}{f:Int×Int}(hD:0<D)(h0:0<f.2)(h1:f.1*D=s*f.2)(h:okS ms t f=true):s<=D/\(t∈ms\/s=D):=by
 unfold okS at h
 rw[aR,eY,decide_eq_false_iff_not,Bool.or_eq_true] at h
 have le:f.1<=f.2:=by omega
 constructor
 ·refine eC (a:=f.2) ?_ h0
  rw[<- h1,bB D]
  exact br le (bG hD)
 ·rcases h.2 with z | z
  ·refine .inr (cy (a:=f.2) (by omega) ?_)
   rw[<- h1,au z,bB]
  ·exact .inl (au z)
theorem jFW {D:Int}{t:Int} :∀ {fs:List (Int×Int)}{xs:List Int}{pcs:List (List Int×Int)},LkD D fs xs->fs.length=pcs.length->LkD D (((fs.zip pcs).filter fun x=>decide (t∈x.2.1)).map (·.1)) (((xs.zip pcs).filter fun x=>decide (t∈x.2.1)).map (·.1))
 | [],[],_,_,_=>trivial
 | p::fs,x::xs,pc::pcs,h,hl=>by
  have ih:=jFW (t:=t) (pcs:=pcs) h.2 (by simpa using hl)
  rw[gM,gM]
  by_cases z:decide (t∈pc.1)=true
  ·rw[cJ (p:=fun x:(Int×Int)×(List Int×Int)=>decide (t∈x.2.1)) z,cJ (p:=fun x:Int×(List Int×Int)=>decide (t∈x.2.1)) z]
   exact⟨h.1,ih⟩
  ·rw[cK (p:=fun x:(Int×Int)×(List Int×Int)=>decide (t∈x.2.1)) z,cK (p:=fun x:Int×(List Int×Int)=>decide (t∈x.2.1)) z]
   exact ih
 | p::fs,x::xs,[],_,hl=>by cases hl
 | [],_::_,_,h,_=>h.elim
 | _::_,[],_,h,_=>h.elim
theorem jGY {t:Int} :∀ {pcs:List (List Int×Int)}{xs:List Int},xs.length=pcs.length->(((xs.zip pcs).filter fun x=>decide (t∈x.2.1)).map (·.1)).sum=sxS pcs.length fun c=>if decide (t∈(pcs.getD c ([],0)).1)=true then xs.getD c 0 else 0:=fun {pcs} {xs} hl=>by
 have key:∀ i,i<=pcs.length->((((xs.zip pcs).take i).filter fun x=>decide (t∈x.2.1)).map (·.1)).sum=sxS i fun c=>if decide (t∈(pcs.getD c ([],0)).1)=true then xs.getD c 0 else 0:=fun i=>by
  induction i with
  | zero=>intro _; rfl
  | succ i ih=>
   intro hi
   have hz:(xs.zip pcs)[i]?=some (xs.getD i 0,pcs.getD i ([],0)):=by
    rw[eF]
    constructor
    ·show xs[i]?=some (xs.getD i 0)
     rw[aE,aG (by omega)]; rfl
    ·show pcs[i]?=some (pcs.getD i ([],0))
     rw[aE,aG (by omega)]; rfl
   rw[aT,hz,bW,aD,fX,ih (by omega)]
   show _=sxS i _+_
   congr 1
   show _=if decide (t∈(pcs.getD i ([],0)).1)=true then xs.getD i 0 else 0
   by_cases z:decide (t∈(pcs.getD i ([],0)).1)=true
   ·rw[ah z]
    show ((List.filter _ [(xs.getD i 0,pcs.getD i ([],0))]).map _).sum=_
    rw[cJ (p:=fun x:Int×(List Int×Int)=>decide (t∈x.2.1)) z]
    show xs.getD i 0+0=_
    omega
   ·rw[ai z]
    show ((List.filter _ [(xs.getD i 0,pcs.getD i ([],0))]).map _).sum=_
    rw[cK (p:=fun x:Int×(List Int×Int)=>decide (t∈x.2.1)) z]
    rfl
 have:=key pcs.length (af _)
 rw[aX (by rw[fZ]; omega)] at this
 exact this
theorem jMS {D:Int}(hD:0<D):∀ xs:List Int,LkD D (xs.map fun x=>nrm (x,D)) xs
 | []=>trivial
 | x::xs=>⟨by
   obtain⟨⟨p1,e1⟩,_⟩:=jBI (f:=(x,D)) hD
   exact⟨p1,e1⟩,jMS hD xs⟩
def frO (p:Int×Int):Ob:= .tup [.int p.1, .int p.2]
theorem FrAt.at {H:Hp}{v:V}{p:Int×Int}(h:FrAt H v p):At H (frO p) v:=by
 obtain⟨a,rfl,q⟩:=h
 exact jFG q (by show 2<=100; decide) (ats1 rfl (ats1 rfl (ats0 _)))
theorem FrsAt.ats {H:Hp} :∀ {vs:List V}{ps:List (Int×Int)},FrsAt H vs ps->Ats H (ps.map frO) vs
 | [],[],_=>ats0 _
 | v::vs,p::ps,h=>ats1 h.1.at (FrsAt.ats h.2)
 | [],_::_,h=>h.elim
 | _::_,[],h=>h.elim
theorem jQH (ps:List (Int×Int)):(ps.map frO).map fr=ps:=by
 rw[bv]
 exact(bj fun p _=>rfl).trans (map_id _)
section
variable {w:Int}{ms:List Int}{pcs:List (List Int×Int)}{b:Nat->Nat}(g:Good 16 32 w ms pcs)(o:OptB (bxU w ms pcs) b)
include g o
theorem jN7 (h:¬ 0<(yL ms 1 (bxU w ms pcs) b).sum):shB w ms pcs (.tup ((frX (bxU w ms pcs) b).map frO))=true:=by
 have hD:0<(bxU w ms pcs).P.D b:=o.v.d
 have xl:(xL (bxU w ms pcs) b).length=pcs.length:=by
  unfold xL
  rw[ac,ao]
  exact jAD pcs
 have fl:(frX (bxU w ms pcs) b).length=pcs.length:=by unfold frX; rw[ac]; exact xl
 rw[jIQ (by rw[ac]; exact fl),jQH,aU]
 ·intro t ht
  have tb:=(jGA w.toNat).bnd t ht
  obtain⟨k,rfl⟩:∃ k:Nat,t=(k:Int):=⟨t.toNat,by omega⟩
  have hk:k<w.toNat:=by omega
  have lk:=jFW (t:=(k:Int)) (pcs:=pcs) (jMS hD (xL (bxU w ms pcs) b)) fl
  have e:frsT (frX (bxU w ms pcs) b) pcs (k:Int) pcs.length=(((frX (bxU w ms pcs) b).zip pcs).filter fun x=>decide ((k:Int)∈x.2.1)).map (·.1):=by
   unfold frsT
   rw[aX (by rw[fZ]; omega)]
  rw[e]
  obtain⟨p1,p2⟩:=jIH (f:=(0,1)) (s:=0) lk (by decide) (by rw[bH,bH])
  rw[bA,jGY xl] at p2
  have tt:=jHF g o hk
  have xe:sxS pcs.length (fun c=>if decide ((k:Int)∈(pcs.getD c ([],0)).1)=true then (xL (bxU w ms pcs) b).getD c 0 else 0)=sxS pcs.length (fun c=>if decide ((k:Int)∈(pcs.getD c ([],0)).1)=true then (bxU w ms pcs).xP b c else 0):=jH fun c hc=>by
   have:(xL (bxU w ms pcs) b).getD c 0=(bxU w ms pcs).xP b c:=by
    unfold xL
    rw[aE,az,aM (by show c<(unW pcs).length; rw[jAD]; exact hc)]
    rfl
   rw[this]
  rw[xe] at p2
  have nn:=Sx.Bx.xP_nn o.v (pcs.length+k)
  refine jQ5 hD p1 p2 (by omega) ?_
  by_cases hm:(k:Int)∈ms
  ·exact .inl hm
  ·refine .inr ?_
   have:=jI8 g o h hk hm
   omega
 ·rw[aU]
  intro x hx
  obtain⟨p,hp,rfl⟩:=aQ.mp hx
  obtain⟨z,hz,rfl⟩:=aQ.mp hp
  obtain⟨c,_,rfl⟩:=aQ.mp hz
  have z0:=Sx.Bx.xP_nn o.v c
  obtain⟨⟨p1,e1⟩,_⟩:=jBI (f:=((bxU w ms pcs).xP b c,(bxU w ms pcs).P.D b)) hD
  have cop:=jOD (f:=((bxU w ms pcs).xP b c,(bxU w ms pcs).P.D b)) hD
  rw[aR]
  constructor
  ·show (decide (1<=(nrm _).2)&&decide (Int.gcd (nrm _).1 (nrm _).2=1))=true
   rw[ar (by omega:1<=(nrm ((bxU w ms pcs).xP b c,(bxU w ms pcs).P.D b)).2),ar cop]
   rfl
  ·show decide (0<=(nrm ((bxU w ms pcs).xP b c,(bxU w ms pcs).P.D b)).1)=true
   exact ar (dP z0 (cM _))
end
theorem jOU {ys:List Int}{n:Nat}(h:ys.length=n):ys.sum=sxS n fun k=>yAt ys (k:Int):=by
 rw[<- jCG]
 congr 1
 refine eV fun j=>?_
 rw[az]
 by_cases hj:j<n
 ·rw[aM hj]
  unfold yAt
  show _=some (ys.getD ((j:Nat):Int).toNat 0)
  rw[ca,aE,aG (by omega)]
  rfl
 ·rw[bJ (by omega),bJ (by rw[ao]; omega)]
  rfl
theorem jN0 {w:Int}{ms:List Int}{pcs:List (List Int×Int)}(g:Good 16 32 w ms pcs):∀ c,c<(bxU w ms pcs).p->((bxU w ms pcs).co c).natAbs<=16:=fun c _=>by
 have w1:=g.w1
 have ml:((mus ms w.toNat).filter fun x=>decide (x∈((unW pcs).getD c ([],0)).1)).length<=16:=by
  have:=jCN ms w.toNat
  have:=bK (fun x=>decide (x∈((unW pcs).getD c ([],0)).1)) (mus ms w.toNat)
  omega
 have z:((unW pcs).getD c ([],0)).2=0:=by rw[jDI]
 show (((unW pcs).getD c ([],0)).2 - 1*((((mus ms w.toNat).filter fun m=>decide (m∈((unW pcs).getD c ([],0)).1)).length:Nat):Int)).natAbs<=16
 rw[z]
 omega
theorem bxU_T {w:Int}{ms:List Int}{pcs:List (List Int×Int)}(g:Good 16 32 w ms pcs)(b:Nat->Nat):(∀ i c,((bxU w ms pcs).P.T b i c).natAbs<=33 ^ 17)/\((bxU w ms pcs).P.D b).natAbs<=33 ^ 17:=by
 have w1:=g.w1
 have n17:(bxU w ms pcs).n+1<=17:=by show w.toNat+1<=17; omega
 have key:((bxU w ms pcs).n+1+16) ^ ((bxU w ms pcs).n+1)<=33 ^ 17:=aH (gx (show _<=33 by omega) _) (bu (by decide) n17)
 exact⟨fun i c=>aH (Sx.Bx.T_abs (jN0 g) b i c) key,aH (Sx.Bx.D_abs (jN0 g) b) key⟩
theorem jOV {w:Int}{ms:List Int}{pcs:List (List Int×Int)}{b:Nat->Nat}(g:Good 16 32 w ms pcs)(o:OptB (bxU w ms pcs) b)(c:Nat):((bxU w ms pcs).xP b c).natAbs<=33 ^ 17:=by
 by_cases h:∃ i,i<(bxU w ms pcs).n/\b i=c
 ·obtain⟨i,hi,rfl⟩:=h
  rw[Sx.Bx.xP_in o.v hi]
  exact(bxU_T g b).1 _ _
 ·rw[Sx.Bx.xP_out fun i hi e=>h ⟨i,hi,e⟩]
  exact aW _
theorem jN6 {w:Int}{ms:List Int}{pcs:List (List Int×Int)}{b:Nat->Nat}(g:Good 16 32 w ms pcs)(o:OptB (bxU w ms pcs) b):SmO (.tup ((frX (bxU w ms pcs) b).map frO)):=fun os e x hx a c ex=>by
 cases e
 obtain⟨p,hp,rfl⟩:=aQ.mp hx
 obtain⟨z,hz,rfl⟩:=aQ.mp hp
 obtain⟨j,_,rfl⟩:=aQ.mp hz
 have hD:0<(bxU w ms pcs).P.D b:=o.v.d
 have xa:=jOV g o j
 have da:=(bxU_T g b).2
 have x0:=Sx.Bx.xP_nn o.v j
 obtain⟨⟨p1,_⟩,le⟩:=jBI (f:=((bxU w ms pcs).xP b j,(bxU w ms pcs).P.D b)) hD
 have d0:0<Int.gcd ((bxU w ms pcs).xP b j) ((bxU w ms pcs).P.D b):=dq fun e=>by
  have:=bS e
  omega
 have t0:0<=(nrm ((bxU w ms pcs).xP b j,(bxU w ms pcs).P.D b)).1:=dP x0 (cM _)
 have t1:(nrm ((bxU w ms pcs).xP b j,(bxU w ms pcs).P.D b)).1<=(bxU w ms pcs).xP b j:=Int.ediv_le_self _ x0
 have ea:a=(nrm ((bxU w ms pcs).xP b j,(bxU w ms pcs).P.D b)).1:=by
  cases ex
  rfl
 have ec:c=(nrm ((bxU w ms pcs).xP b j,(bxU w ms pcs).P.D b)).2:=by
  cases ex
  rfl
 have le:(nrm ((bxU w ms pcs).xP b j,(bxU w ms pcs).P.D b)).2<=(bxU w ms pcs).P.D b:=le
 rw[ea,ec]
 generalize (nrm ((bxU w ms pcs).xP b j,(bxU w ms pcs).P.D b)).1=u at*
 generalize (nrm ((bxU w ms pcs).xP b j,(bxU w ms pcs).P.D b)).2=v at*
 generalize (bxU w ms pcs).xP b j=x at*
 generalize (bxU w ms pcs).P.D b=d at*
 have e33:33 ^ 17=65273511648264442971824673:=by decide
 rw[e33] at xa da
 omega
theorem jKX {H:Hp} :∀ ys:List Int,Ats H (ys.map Ob.int) (ys.map V.int)
 | []=>ats0 _
 | y::ys=>ats1 rfl (jKX ys)
theorem jOW (ys:List Int):(ys.map Ob.int).map val=ys:=by
 rw[bv]
 exact(bj fun p _=>rfl).trans (map_id _)
theorem jQQ (ys:List Int):(ys.map Ob.int).all isInt=true:=by
 rw[aU]
 intro x hx
 obtain⟨y,_,rfl⟩:=aQ.mp hx
 rfl
theorem jMC {w:Int}{ms:List Int}{pcs:List (List Int×Int)}{lack:Int}{b:Nat->Nat} :(yL ms lack (bxO w ms pcs lack) b).length=w.toNat:=by
 unfold yL
 rw[ac,ao]
 rfl
theorem jOR {w:Int}{ms:List Int}{pcs:List (List Int×Int)}{b:Nat->Nat} :(frX (bxU w ms pcs) b).length=pcs.length:=by
 unfold frX xL
 rw[ac,ac,ao]
 exact jAD pcs
theorem jMT {D c:Int}(hc:0<c):∀ {fs:List (Int×Int)}{xs:List Int},LkD D fs xs->LkD (D*c) fs (xs.map fun x=>x*c)
 | [],[],_=>trivial
 | p::fs,x::xs,h=>⟨⟨h.1.1,by
   have:=h.1.2
   show p.1*(D*c)=x*c*p.2
   rw[<- Int.mul_assoc,this]
   grind⟩,jMT hc h.2⟩
 | [],_::_,h=>h.elim
 | _::_,[],h=>h.elim
theorem lk_ex:∀ {fs:List (Int×Int)},(∀ p∈fs,1<=p.2/\0<=p.1)->∃ D xs,0<D/\LkD D fs xs/\(∀ x∈xs,0<=x)/\xs.length=fs.length
 | [],_=>⟨1,[],by decide,trivial,(fun x hx=>by cases hx),rfl⟩
 | p::fs,h=>by
  obtain⟨D,xs,hD,lk,nn,xl⟩:=lk_ex (fs:=fs) fun q hq=>h q (aB _ hq)
  have hp:=h p (aA ..)
  refine⟨D*p.2,p.1*D::xs.map (fun x=>x*p.2),dJ hD (by omega),⟨⟨by omega,by grind⟩,jMT (by omega) lk⟩,fun x hx=>?_,by rw[bp,ac,xl,bp]⟩
  rcases aC.mp hx with z | z
  ·rw[z]; exact el hp.2 (bG hD)
  ·obtain⟨y,hy,rfl⟩:=aQ.mp z
   exact el (nn y hy) (by omega)
theorem jDA {w:Int}{ms:List Int}{pcs:List (List Int×Int)}{o o':Ob}(g:Good 16 32 w ms pcs)(h:shB w ms pcs o=true)(h':spkB w ms pcs o'=true):False:=by
 cases o' with
 | int _=>cases h'
 | oth=>cases h'
 | tup os'=>
 cases o with
 | int _=>cases h
 | oth=>cases h
 | tup os=>
 have w0:=g.w0
 have h:(decide (os.length=pcs.length)&&(os.all (fun o=>yU o&&decide (0<=topI o))&&(upto w.toNat).all fun t=>okS ms t (sumF (frsT (os.map fr) pcs t pcs.length))))=true:=h
 rw[aR,aR] at h
 obtain⟨h1,h2,h3⟩:=h
 have h1:os.length=pcs.length:=au h1
 have h':(decide ((os'.length:Int)=w)&&(os'.all isInt&&spkY ms pcs (os'.map val)))=true:=h'
 rw[aR,aR] at h'
 obtain⟨l1,_,sp⟩:=h'
 have l1:(os'.length:Int)=w:=au l1
 have yl:(os'.map val).length=w.toNat:=by rw[ac]; omega
 generalize os'.map val=ys at sp yl
 unfold spkY at sp
 rw[aR,aR,eY,eN,aU] at sp
 obtain⟨s1,s2,s3⟩:=sp
 have s2:0<ys.sum:=au s2
 have fl:(os.map fr).length=pcs.length:=by rw[ac]; exact h1
 obtain⟨D,xs,hD,lk,nn,xl⟩:=lk_ex (fs:=os.map fr) fun p hp=>by
  obtain⟨o,ho,rfl⟩:=aQ.mp hp
  have:=aU.mp h2 o ho
  rw[aR] at this
  obtain⟨a,b,rfl,hb⟩:=jE1 this.1
  exact⟨hb,au this.2⟩
 rw[fl] at xl
 have hs:∀ t:Nat,t<w.toNat->sxS pcs.length (fun c=>if decide ((t:Int)∈(pcs.getD c ([],0)).1)=true then xs.getD c 0 else 0)<=D/\((t:Int)∈ms\/sxS pcs.length (fun c=>if decide ((t:Int)∈(pcs.getD c ([],0)).1)=true then xs.getD c 0 else 0)=D):=fun t ht=>by
  have ok:=aU.mp h3 (t:Int) (aO (jGB ht))
  have lk2:=jFW (t:=(t:Int)) (pcs:=pcs) lk fl
  have e:frsT (os.map fr) pcs (t:Int) pcs.length=(((os.map fr).zip pcs).filter fun x=>decide ((t:Int)∈x.2.1)).map (·.1):=by
   unfold frsT
   rw[aX (by rw[fZ]; omega)]
  rw[e] at ok
  obtain⟨p1,p2⟩:=jIH (f:=(0,1)) (s:=0) lk2 (by decide) (by rw[bH,bH])
  rw[bA,jGY xl] at p2
  exact jOB hD p1 p2 ok
 have hpc:∀ c,c<pcs.length->xs.getD c 0*sxS w.toNat (fun k=>if decide ((k:Int)∈(pcs.getD c ([],0)).1)=true then yAt ys (k:Int) else 0)<=0:=fun c hc=>by
  have gp:=(g.at hc).lot
  have pm:pcs.getD c ([],0)∈pcs:=by rw[aE,aG hc]; exact cr hc
  have np:((pcs.getD c ([],0)).1.map (yAt ys)).sum<=0:=au (s3 _ pm)
  rw[jFV (n:=w.toNat) (gp.ris.imp fun {x y} h=>by omega) (fun t ht=>by have:=gp.bnd t ht; omega)] at np
  have x0:0<=xs.getD c 0:=by
   rw[aE,aG (by omega)]
   exact nn _ (cr _)
  exact Int.mul_nonpos_of_nonneg_of_nonpos x0 np
 have tot:sxS pcs.length (fun c=>xs.getD c 0*sxS w.toNat (fun k=>if decide ((k:Int)∈(pcs.getD c ([],0)).1)=true then yAt ys (k:Int) else 0))<=0:=jIF hpc
 have sw:sxS pcs.length (fun c=>xs.getD c 0*sxS w.toNat (fun k=>if decide ((k:Int)∈(pcs.getD c ([],0)).1)=true then yAt ys (k:Int) else 0))=sxS w.toNat (fun k=>yAt ys (k:Int)*sxS pcs.length (fun c=>if decide ((k:Int)∈(pcs.getD c ([],0)).1)=true then xs.getD c 0 else 0)):=by
  have e1:sxS pcs.length (fun c=>xs.getD c 0*sxS w.toNat (fun k=>if decide ((k:Int)∈(pcs.getD c ([],0)).1)=true then yAt ys (k:Int) else 0))=sxS pcs.length (fun c=>sxS w.toNat fun k=>xs.getD c 0*if decide ((k:Int)∈(pcs.getD c ([],0)).1)=true then yAt ys (k:Int) else 0):=jH fun c _=>(kY _ _ _).symm
  rw[e1,Sx.sxS_swap]
  refine jH fun k _=>?_
  rw[<- kY]
  refine jH fun c _=>?_
  split
  ·exact bB _ _
  ·rw[aV,aV]
 rw[sw] at tot
 have low:sxS w.toNat (fun k=>yAt ys (k:Int)*D)<=sxS w.toNat (fun k=>yAt ys (k:Int)*sxS pcs.length (fun c=>if decide ((k:Int)∈(pcs.getD c ([],0)).1)=true then xs.getD c 0 else 0)):=by
  have:=jIF (n:=w.toNat) (f:=fun k=>yAt ys (k:Int)*D+ - (yAt ys (k:Int)*sxS pcs.length (fun c=>if decide ((k:Int)∈(pcs.getD c ([],0)).1)=true then xs.getD c 0 else 0))) fun k hk=>by
   obtain⟨a,b⟩:=hs k hk
   show yAt ys (k:Int)*D+ - (yAt ys (k:Int)*_)<=0
   rcases b with m | e
   ·have ym:yAt ys (k:Int)<=0:=by
     have:=s1 _ m
     have:¬ 0<yAt ys (k:Int):=fun q=>this (ar q)
     omega
    have:=Int.mul_le_mul_of_nonpos_left ym a
    omega
   ·rw[e]; omega
  rw[yC,jBP] at this
  omega
 have eD:sxS w.toNat (fun k=>yAt ys (k:Int)*D)=ys.sum*D:=by
  rw[jOU yl,bB,<- kY]
  exact jH fun k _=>bB _ _
 rw[eD] at low
 have:=dJ s2 hD
 omega
section
variable {P:Program}{w:World}{K:W.Frag}{mg:Str->Option Value}{base:Heap}
variable {f fC fP fT fD fV fE fM fR fA fL fS:Addr}{fdC fdP fdT fdD fdV fdE fdM fdR fdA fdL fdS:FuncData}{cdv:Value}{A:Around}{outer:List Env}{s:Shared}{H0:Hp}{E:XK}
noncomputable abbrev nLaw:List Str:=["script","box","every","told","fractions","numbers","k","pot","some","would","speak"]
theorem scLaw:FnScope nLaw ["script"] (j8 sLaw):=⟨rfl,rfl,rfl,by decide+kernel,rfl,by decide+kernel,by decide+kernel⟩
abbrev XLaw (P:Program)(w:World)(K:W.Frag)(mg:Str->Option Value)(base:Heap)(f:Addr)(cdv:Value)(A:Around)(outer:List Env)(s:Shared)(H:Hp)(E:XK):Cx:=XOf nLaw "law" sLaw P w K mg base f cdv A outer s H E
structure LW (P:Program)(w:World)(K:W.Frag)(mg:Str->Option Value)(base:Heap)(fC fP fT fD fV fE fM fR fA fL fS:Addr)(fdC fdP fdT fdD fdV fdE fdM fdR fdA fdL fdS:FuncData):Prop where
 T:Txt mg
 CC:Can P w K mg base "_law_cell_at" 1 fC fdC ["script","k"] (jEJ K)
 CP:Can P w K mg base "_law_pot" 1 fP fdP ["cell"] spPot
 CT:Can P w K mg base "_law_take" 1 fT fdT ["pot","wide"] y9
 CD:Can P w K mg base "_law_drawn" 4 fD fdD ["script","k","things","pieces"] (jFM K)
 CV:Can P w K mg base "_law_coverings" 19 fV fdV ["box"] jIM
 CE:Can P w K mg base "_law_vector" 2 fE fdE ["pot","box"] spVec
 CM:Can P w K mg base "_law_mean" 3 fM fdM ["pot","box","every"] jIL
 CR:Can P w K mg base "_law_ratio" 2 fR fdR ["top","bottom"] spFr
 CA:Can P w K mg base "are_shares" 4 fA fdA ["box","thing"] spSh
 CL:Can P w K mg base "speaks_against" 2 fL fdL ["box","thing"] spSpk
 CS:Can P w K mg base "shares" 4 fS fdS ["box"] jDL
section
variable (G:LW P w K mg base fC fP fT fD fV fE fM fR fA fL fS fdC fdP fdT fdD fdV fdE fdM fdR fdA fdL fdS)(hr:Room 19 (XLaw P w K mg base f cdv A outer s H0 E).A)
def turZA: { t:TS // JSs (XLaw P w K mg base f cdv A outer s H0 E) ((yQ ((jB sLaw).getD 5 (.Pass ⟨0,0,0,0⟩))).drop 4) t} :=
 have nd:=scLaw.nd
 have _h:=G.T
 have _h2:=hr
 ⟨_,(jD (jBA (je_bm bq bL bM jA6 (jv 4 rfl vL) (j0 (jv 8 rfl vL) j5 j3) j3) jO))⟩
def turFA: { t:TS // JSs (XLaw P w K mg base f cdv A outer s H0 E) ((yQ ((jB sLaw).getD 5 (.Pass ⟨0,0,0,0⟩))).drop 3) t} :=
 have nd:=scLaw.nd
 ⟨_,(j7 (yE (jt_w (jET (jJ (jO1 hr.units0) (jv 2 rfl vL) (jAL j5) (jP _)) (jCP (jJ qJ (G.CT.je (hr.mono (by decide)) gD (j0 (jv 7 rfl vC) (j0 (j6) j5 jM) j3) j3) (j6) (jP _))))) (jD (jF (i:=8) nd rfl lL (G.CM.je (hr.mono (by decide)) gD (j0 (jv 7 rfl vC) (j0 (jv 1 rfl vC) (j0 (jv 2 rfl vL) j5 j3) j3) j3) j3) jO)) kG) (turZA G hr).2)⟩
def jMF: { t:TS // JSs (XLaw P w K mg base f cdv A outer s H0 E) (yQ ((jB sLaw).getD 5 (.Pass ⟨0,0,0,0⟩))) t} :=
 have nd:=scLaw.nd
 ⟨_,(j7 (jF (i:=7) nd rfl (yS (by decide+kernel)) (G.CP.je (hr.mono (by decide)) gD (j0 (G.CC.je (hr.mono (by decide)) gD (j0 (jv 0 rfl vL) (j0 (jv 6 rfl vL) j5 j3) j3) j3) j5 jT) jT) jO) (j7 (jBA (je_bm bq bL bM jA6 (jv 5 rfl vL) (j0 (G.CE.je (hr.mono (by decide)) gD (j0 (jv 7 rfl vC) (j0 (jv 1 rfl vC) j5 j3) j3) j3) j5 jT) jT) jO) (j7 (jF (i:=8) nd rfl lL (kN jY gD G.T.tuple (by decide+kernel) (j0 (kQ (m:=[none,some 7]) (Nc:=["piece","pot"]) rfl (yT (jE jG (jv 1 rfl vC) (j6) jC)) rfl (by decide+kernel) (by decide+kernel) (jW (psc:=j8 sLaw) (by decide+kernel)) (jI (N:=nLaw) rfl rfl (by decide+kernel)) (fun cl C fp s H=>jK (i:=0) (show (["piece","pot"]:List Str).Nodup by decide+kernel) rfl (yD (by decide+kernel))) (fun cl C fp s H=>kP) (fun cl C fp s H=>(G.CR.je (hr.mono (by decide)) (gl_b (by decide+kernel)) (j0 (G.CT.je (hr.mono (by decide)) (gl_b (by decide+kernel)) (j0 (jv 1 rfl (kJ (by decide+kernel))) (j0 (j6) j5 jM) j3) j3) (j0 (jX kW (j6) (G.CT.je (hr.mono (by decide)) (gl_b (by decide+kernel)) (j0 (jv 1 rfl (kJ (by decide+kernel))) (j0 (j6) j5 jM) j3) j3)) j5 kZ) jT) jT)) qA) j5 jQ) jQ) jO) (turFA G hr).2)))⟩
def lendA: { t:TS // JSs (XLaw P w K mg base f cdv A outer s H0 E) ((jB sLaw).drop 6) t} :=
 have nd:=scLaw.nd
 ⟨_,(j7 (jF (i:=9) nd rfl lL (jN jZ gD G.T.len (by decide+kernel) (j0 (kQ (m:=[none,some 1]) (Nc:=["some","box"]) rfl (jAQ (jv 4 rfl vL)) rfl (by decide+kernel) (by decide+kernel) (jW (psc:=j8 sLaw) (by decide+kernel)) (jI (N:=nLaw) rfl rfl (by decide+kernel)) (fun cl C fp s H=>jK (i:=0) (show (["some","box"]:List Str).Nodup by decide+kernel) rfl (yD (by decide+kernel))) (fun cl C fp s H=>jB9 (q0 (G.CA.je (hr.mono (by decide)) (gl_b (by decide+kernel)) (j0 (jv 1 rfl (kJ (by decide+kernel))) (j0 (jv 0 rfl (kB (by decide+kernel))) j5 j3) j3) j3) yN)) (fun cl C fp s H=>(jv 0 rfl (kB (by decide+kernel)))) jAT) j5 jQ) jQ) jO)
   (j7 (jF (i:=10) nd rfl lL (jN jZ gD G.T.len (by decide+kernel) (j0 (kQ (m:=[none,some 1]) (Nc:=["some","box"]) rfl (jAQ (jv 5 rfl vL)) rfl (by decide+kernel) (by decide+kernel) (jW (psc:=j8 sLaw) (by decide+kernel)) (jI (N:=nLaw) rfl rfl (by decide+kernel)) (fun cl C fp s H=>jK (i:=0) (show (["some","box"]:List Str).Nodup by decide+kernel) rfl (yD (by decide+kernel))) (fun cl C fp s H=>jB9 (q0 (G.CL.je (hr.mono (by decide)) (gl_b (by decide+kernel)) (j0 (jv 1 rfl (kJ (by decide+kernel))) (j0 (jv 0 rfl (kB (by decide+kernel))) j5 j3) j3) j3) yN)) (fun cl C fp s H=>(jv 0 rfl (kB (by decide+kernel)))) jAT) j5 jQ) jQ) jO)
   (j7 (yE (jJ qJ (jv 9 rfl vL) (j6) (jP _)) (jD (jV ((jDD (yI qD (jv 10 rfl vL) (j6) (jP _)) (jDC (yI qD (jE jG (jv 3 rfl vL) (j6) jC) (jGT) (jP _))))))) kG)
   (jD (jV ((jDD (yI qJ (jv 10 rfl vL) (j6) (jP _)) (jDC (yI qD (jE jG (jv 3 rfl vL) (j6) jC) (jGT) (jP _))))))))))⟩
def lawRA: { t:TS // JSs (XLaw P w K mg base f cdv A outer s H0 E) ((jB sLaw).drop 3) t} :=
 have nd:=scLaw.nd
 ⟨_,(j7 (jF (i:=4) nd rfl lL (jAL (j0 (jE jG (jv 3 rfl vL) (j6) jC) j5 jL)) jCC) (j7 (jF (i:=5) nd rfl lL (jAL (j0 (jE jG (jv 3 rfl vL) (j6) jC) j5 jL)) jCC) (j7 (yW bb rfl (jJS gD G.T.range (j0 (j6) (j0 (j6) j5 jM) jM) jM jM) (jK (i:=6) nd rfl lL) (jMF G hr).2 kR) (lendA G hr).2)))⟩
def lawA: { t:TS // JSs (XLaw P w K mg base f cdv A outer s H0 E) (jB sLaw) t} :=
 have nd:=scLaw.nd
 ⟨_,(j7 (jF (i:=1) nd rfl (yS (by decide+kernel)) (G.CD.je (hr.mono (by decide)) gD (j0 (jv 0 rfl vL) (j0 (j6) (j0 (j6) (j0 (j6) j5 jM) jM) jM) j3) j3) jO) (j7 (jF (i:=2) nd rfl lL (G.CV.je hr gD (j0 (jv 1 rfl vC) j5 j3) j3) jO) (j7 (jF (i:=3) nd rfl lL (G.CS.je (hr.mono (by decide)) gD (j0 (jv 1 rfl vC) j5 j3) j3) jO) (lawRA G hr).2)))⟩
def Kp2 (H H':Hp)(a b:Addr):Prop:=∀ c o,H c=some o->c≠a->c≠b->H' c=some o
theorem Kp2.kp {H H':Hp}{a b:Addr}{xa xb ya yb:List V}(k:Kp2 H H' a b)(ha:H a=some (.lst xa))(hb:H b=some (.lst xb))(ha':H' a=some (.lst ya))(hb':H' b=some (.lst yb)):Kp H H':=by
 have off:∀ c o,H c=some o->(∀ xs,o≠ .lst xs)->H' c=some o:=fun c o h n=>k c o h (fun z=>by rw[z,ha] at h; cases h; exact n _ rfl) fun z=>by rw[z,hb] at h; cases h; exact n _ rfl
 refine⟨fun c xs h=>off _ _ h (by intro _ z; cases z),fun c xs h=>?_,fun c xs h=>⟨xs,off _ _ h (by intro _ z; cases z)⟩⟩
 by_cases z:c=a
 ·exact⟨ya,z ▸ ha'⟩
 ·by_cases y:c=b
  ·exact⟨yb,y ▸ hb'⟩
  ·exact⟨xs,k _ _ h z y⟩
theorem jI5 {D:Ends}{H:Hp}{fl sm:Addr}{vs:List V}{v0 v1 v2 v3 v5 v6 v7 v9 v10:Option V}(hf:H fl=some (.lst vs))(vl:vs.length<=100)
  (nx:∀ H',H' fl=some (.lst (vs++[.ref sm]))->(∀ c o,H c=some o->c≠fl->H' c=some o)->D.nx [v0,v1,v2,v3,some (.ref fl),v5,v6,v7,some (.ref sm),v9,v10] H'):
  (turZA G hr).1 D [v0,v1,v2,v3,some (.ref fl),v5,v6,v7,some (.ref sm),v9,v10] H:=by
 refine⟨_,rfl, .inl ⟨rfl,_,SqL.of hf⟩,_,rfl,fl,vs,_,rfl,rfl,hf,by rw[aj]; omega,?_⟩
 exact nx _ j4 fun c o h n=>by rw[j9 n]; exact h
theorem jI7 {D:Ends}{H:Hp}{x l fl p sm:Addr}{N:Int}{us vs xs:List V}{frs:List (Int×Int)}{wi:Int}{ms:List Int}{pcs:List (List Int×Int)}{v0 v3 v5 v6 v9 v10:Option V}(hB:BoxAt H x wi ms pcs)(g:Good 16 16 wi ms pcs)(hl:H l=some (.lst us))(ul:us.length<=65536)(hc:All2 (CvAt H) us (yY ms pcs wi.toNat 0 []))(hp:H p=some (.lst [.int N]))(hN:0<=N)(lp:l≠p)(fp:fl≠p)(hf:H fl=some (.lst vs))(vl:vs.length<=100)(hs:H sm=some (.tup xs))(hx:FrsAt H xs frs)(sf:∀ q∈frs,SmF q)(fl':frs.length=pcs.length)
  (nx:∀ H' sm' xs' frs',H' fl=some (.lst (vs++[.ref sm']))->H' sm'=some (.tup xs')->FrsAt H' xs' frs'->(∀ q∈frs',SmF q)->frs'.length=pcs.length->(∀ c o,H c=some o->c≠p->c≠fl->H' c=some o)->D.nx [v0,some (.ref x),some (.ref l),v3,some (.ref fl),v5,v6,some (.ref p),some (.ref sm'),v9,v10] H'):
  (turFA G hr).1 D [v0,some (.ref x),some (.ref l),v3,some (.ref fl),v5,v6,some (.ref p),some (.ref sm),v9,v10] H:=by
 have w1:=g.w1
 have w0:=g.w0
 have fin:∀ (H1:Hp) (sm':Addr) (xs':List V) (frs':List (Int×Int)),H1 fl=some (.lst vs)->H1 sm'=some (.tup xs')->FrsAt H1 xs' frs'->(∀ q∈frs',SmF q)->frs'.length=pcs.length->(∀ c o,H c=some o->c≠p->H1 c=some o)->(turZA G hr).1 D [v0,some (.ref x),some (.ref l),v3,some (.ref fl),v5,v6,some (.ref p),some (.ref sm'),v9,v10] H1:=fun H1 sm' xs' frs' a b c d e k=>by
  refine jI5 G hr a vl fun H2 f2 k2=>?_
  have t2:Tups H1 H2:=fun c xs h=>k2 _ _ h fun z=>by rw[z,a] at h; cases h
  exact nx H2 sm' xs' frs' f2 (t2 _ _ b) (c.mono t2) d e fun c o h n1 n2=>k2 _ _ (k _ _ h n1) n2
 refine⟨_,rfl,by show (0:Nat)<=_; decide,fun l2 H2 d2 e2 n2=>?_⟩
 refine⟨l,l2,us,rfl,rfl,e2 _ _ hl,d2,_,rfl,?_⟩
 by_cases z:us=[]
 ·rw[ar z]
  exact iteF (fin H2 sm xs frs (e2 _ _ hf) (e2 _ _ hs) (hx.mono e2.tups) sf fl' fun c o h _=>e2 _ _ h)
 ·rw[aI z]
  refine iteT ?_
  refine⟨_,rfl,p,N,3,rfl,e2 _ _ hp,hN,by decide,by decide,fun N3 r q1 q2 q3=>?_⟩
  have p2:=e2 _ _ hp
  have k3:∀ c o,H2 c=some o->c≠p->(L2.upd H2 p (.lst [.int N3])) c=some o:=fun c o h n=>by rw[j9 n]; exact h
  have d3:(L2.upd H2 p (.lst [.int N3])) p=some (.lst [.int N3]):=j4
  have t3:Tups H2 (L2.upd H2 p (.lst [.int N3])):=Tups.upd p2 _
  generalize L2.upd H2 p (.lst [.int N3])=H3 at k3 d3 t3
  have K3:∀ c o,H c=some o->c≠p->H3 c=some o:=fun c o h n=>k3 _ _ (e2 _ _ h) n
  have T3:Tups H H3:=e2.tups.trans t3
  refine⟨_,_,rfl,rfl,_,rfl,ite2 (fun h=>?_) (fun h=>?_)⟩
  ·have cv:Covs H3 us pcs.length 16:=fun u hu=>by
    obtain⟨i,hi⟩:=dM hu
    obtain⟨c,hcc,a,ns,e,q,pm⟩:=All2.get' hc hi
    have fl:=jAW (aO hcc)
    exact⟨a,ns,e,T3 _ _ q,fun k hk=>fl.2 k (pm.mem_iff.mp hk),by rw[pm.length_eq]; have:=fl.1; omega⟩
   refine⟨_,rfl,_,rfl,_,rfl,p,x,l,N3,wi,ms,pcs,us,rfl,d3,q1,hB.mono T3,g,K3 _ _ hl lp,List.length_pos_iff.mpr z,ul,cv,lp,fun r4 N4 H4 xs4 frs4 hN4 p4 d4 f4 s4 l4 k4=>?_⟩
   exact fin H4 r4 xs4 frs4 (k4 _ _ (K3 _ _ hf fp) fp) d4 f4 s4 l4 fun c o h n=>k4 _ _ (K3 _ _ h n) n
  ·exact fin H3 sm xs frs (K3 _ _ hf fp) (T3 _ _ hs) (hx.mono T3) sf fl' K3
theorem jL6 {D:Ends}{H:Hp}{a x l fl nl:Addr}{ns:List Int}{k:Int}{us vs1 vs2:List V}{wi:Int}{ms:List Int}{pcs:List (List Int×Int)}{v3 v7 v8 v9 v10:Option V}(hS:SqL K H a (ns.map V.int))(k0:0<=k)(hB:BoxAt H x wi ms pcs)(g:Good 16 16 wi ms pcs)(hl:H l=some (.lst us))(ul:us.length<=65536)(hc:All2 (CvAt H) us (yY ms pcs wi.toNat 0 []))(hf:H fl=some (.lst vs1))(v1l:vs1.length<=100)(hn:H nl=some (.lst vs2))(v2l:vs2.length<=100)(fn:fl≠nl)(lf:l≠fl)(ln:l≠nl)
  (nx:∀ H' v7 v8 sm r xs frs (ys:List Int),H' fl=some (.lst (vs1++[.ref sm]))->H' nl=some (.lst (vs2++[.ref r]))->H' sm=some (.tup xs)->FrsAt H' xs frs->(∀ q∈frs,SmF q)->frs.length=pcs.length->H' r=some (.tup (ys.map V.int))->ys.length=wi.toNat->Kp2 H H' fl nl->D.nx [some (.ref a),some (.ref x),some (.ref l),v3,some (.ref fl),some (.ref nl),some (.int k),v7,v8,v9,v10] H'):
  (jMF G hr).1 D [some (.ref a),some (.ref x),some (.ref l),v3,some (.ref fl),some (.ref nl),some (.int k),v7,v8,v9,v10] H:=by
 have g32:Good 16 32 wi ms pcs:=g.wide (by decide) (by decide)
 have gpl:=g.pl
 refine⟨_,rfl,_,rfl,a,ns,k,rfl,hS,k0,fun c=>⟨c,rfl,fun p N hp hN=>?_⟩⟩
 have e1:Ext H (L2.upd H p (.lst [.int N])):=(Ext.refl _).new hp _
 have d1:(L2.upd H p (.lst [.int N])) p=some (.lst [.int N]):=j4
 generalize L2.upd H p (.lst [.int N])=H1 at e1 d1
 have np:∀ {c o},H c=some o->c≠p:=fun {c o} h z=>by rw[z,hp] at h; cases h
 refine⟨_,rfl, .inl ⟨rfl,_,SqL.of (e1 _ _ hn)⟩,_,rfl,_,rfl,p,x,N,wi,ms,pcs,rfl,d1,hN,hB.mono e1.tups,g32,fun r ys N2 H2 d2 yl p2 hN2 k2=>?_⟩
 have K2:Ext H H2:=fun c o h=>k2 _ _ (e1 _ _ h) (np h)
 have n2:=K2 _ _ hn
 refine⟨nl,vs2,_,rfl,rfl,n2,by rw[aj]; omega,?_⟩
 have k3:∀ c o,H2 c=some o->c≠nl->(L2.upd H2 nl (.lst (vs2++[.ref r]))) c=some o:=fun c o h n=>by rw[j9 n]; exact h
 have d3:(L2.upd H2 nl (.lst (vs2++[.ref r]))) nl=some (.lst (vs2++[.ref r])):=j4
 have t3:Tups H2 (L2.upd H2 nl (.lst (vs2++[.ref r]))):=Tups.upd n2 _
 generalize L2.upd H2 nl (.lst (vs2++[.ref r]))=H3 at k3 d3 t3
 have nlp:nl≠p:=np hn
 have p3:=k3 _ _ p2 nlp.symm
 have B3:=(hB.mono K2.tups).mono t3
 obtain⟨qm,qp,ps,b1,b2,b3,b4⟩:=id B3.ex
 have pl:=b4.len
 refine⟨_,rfl,x,_,2,_,rfl,rfl,SqT.of b1,rfl,qp,rfl,⟨_,SqT.of b3⟩,jBM (xs:=ps) (by rw[aj]; omega) (fun D i σ' H' zs=>(∃ v,σ'=[v,some (.ref p)])/\H' D=some (.lst zs)/\(∃ frs,FrsAt H' zs frs/\(∀ q∈frs,SmF q)/\frs.length=i)/\(∃ N',H' p=some (.lst [.int N'])/\0<=N')/\∀ c o,H3 c=some o->c≠p->H' c=some o) ?_ ?_ ?_ ?_⟩
 ·intro D hD
  have Dp:D≠p:=fun z=>by rw[z,p3] at hD; cases hD
  exact⟨⟨_,rfl⟩,j4,⟨[],trivial,(fun _ h=>by cases h),rfl⟩,⟨N2,by rw[j9 Dp.symm]; exact p3,hN2⟩,fun c o h n=>by rw[j9 (fun z=>by rw[z,hD] at h; cases h)]; exact h⟩
 ·rintro D i σ' H' zs hD ⟨_,h2,⟨frs,f1,_,f3⟩,_,kk⟩
  exact⟨kk _ _ b3 (fun z=>by rw[z,p3] at b3; cases b3),h2,by rw[f1.len,f3]; exact af _⟩
 ·rintro D i σ' H' zs y hD hy ⟨⟨v,rfl⟩,h2,⟨frs,f1,f2,f3⟩,⟨N',p',hN'⟩,kk⟩
  have Dp:D≠p:=fun z=>by rw[z,p3] at hD; cases hD
  dsimp only [kS,yG]
  rw[ah rfl]
  refine⟨_,rfl,p,N',3,rfl,p',hN',by decide,by decide,fun N4 t4 q1 q2 q3=>?_⟩
  refine⟨_,rfl,p,N4,3,rfl,j4,q1,by decide,by decide,fun N5 t5 s1 s2 s3=>⟨_,_,rfl,rfl,?_⟩⟩
  rw[jAG]
  have k5:∀ c o,H' c=some o->c≠p->(L2.upd H' p (.lst [.int N5])) c=some o:=fun c o h n=>by rw[j9 n]; exact h
  have d5:(L2.upd H' p (.lst [.int N5])) p=some (.lst [.int N5]):=j4
  have t5':Tups H' (L2.upd H' p (.lst [.int N5])):=Tups.upd p' _
  generalize L2.upd H' p (.lst [.int N5])=H5 at k5 d5 t5'
  refine⟨t4,1+t5,rfl,by omega,jMX (by omega) (by omega),fun r6 H6 d6 e6=>?_⟩
  have D6:=e6 _ _ (k5 _ _ h2 Dp)
  have tD:Tups H6 (L2.upd H6 D (.lst (zs++[.ref r6]))):=Tups.upd D6 _
  refine⟨D6,⟨_,rfl⟩,j4,⟨frs++[nrm (t4,1+t5)],FrsAt.snoc ⟨r6,rfl,tD _ _ d6⟩ (f1.mono ((t5'.trans e6.tups).trans tD)),fun q hq=>?_,by rw[aN,f3]; rfl⟩,⟨N5,by rw[j9 Dp.symm]; exact e6 _ _ d5,s1⟩,fun c o h n=>?_⟩
  ·rcases bx.mp hq with z | z
   ·exact f2 q z
   ·rw[be.mp z]
    exact jEO (by omega) (by omega) (by omega) (by omega)
  ·rw[j9 (fun z=>by rw[z,hD] at h; cases h)]
   exact e6 _ _ (k5 _ _ (kk _ _ h n) n)
 ·rintro D2 σ' H4 zs hD ⟨_,h4,⟨frs,f1,f2,f3⟩,⟨N4,p4,hN4⟩,k4⟩
  refine⟨D2,_,rfl, .inl ⟨SqL.of h4,fun sm h5=>?_⟩⟩
  have e5:Ext H4 (L2.upd H4 sm (.tup zs)):=(Ext.refl _).new h5 _
  have d5:(L2.upd H4 sm (.tup zs)) sm=some (.tup zs):=j4
  generalize L2.upd H4 sm (.tup zs)=H5 at e5 d5
  have K5:∀ c o,H c=some o->c≠nl->H5 c=some o:=fun c o h n=>e5 _ _ (k4 _ _ (k3 _ _ (K2 _ _ h) n) (np h))
  have T5:Tups H H5:=fun c xs h=>K5 _ _ h fun z=>by rw[z,hn] at h; cases h
  have n5:H5 nl=some (.lst (vs2++[.ref r])):=e5 _ _ (k4 _ _ d3 nlp)
  have r5:H5 r=some (.tup (ys.map V.int)):=by
   have r3:=t3 _ _ d2
   exact e5 _ _ (k4 _ _ r3 fun z=>by rw[z,p3] at r3; cases r3)
  refine jI7 G hr (hB.mono T5) g (K5 _ _ hl ln) ul (CvAt.mono T5 hc) (e5 _ _ p4) hN4 (np hl) (np hf) (K5 _ _ hf fn) v1l d5 (f1.mono e5.tups) f2 (by rw[f3,pl]) fun H6 sm' xs' frs' f6 s6 x6 q6 l6 k6=>?_
  have np5:nl≠p:=nlp
  have nf:nl≠fl:=fn.symm
  have rf:r≠fl:=fun z=>by rw[z,K5 _ _ hf fn] at r5; cases r5
  have rp:r≠p:=fun z=>by rw[z,e5 _ _ p4] at r5; cases r5
  exact nx H6 _ _ sm' r xs' frs' ys f6 (k6 _ _ n5 np5 nf) s6 x6 q6 l6 (k6 _ _ r5 rp rf) yl fun c o h n1 n2=>k6 _ _ (K5 _ _ h n2) (np h) n1
theorem Ats.getA {H:Hp} :∀ {os:List Ob}{vs:List V}{j:Nat}{v:V},Ats H os vs->vs[j]?=some v->∃ o,os[j]?=some o/\At H o v
 | [],vs,j,v,h,e=>by
  rw[show vs=[] from h] at e
  cases e
 | o::os,vs,j,v,h,e=>by
  obtain⟨u,r,rfl,h1,h2⟩:=h
  cases j with
  | zero=>cases e; exact⟨o,rfl,h1⟩
  | succ j=>exact Ats.getA (j:=j) h2 e
def cntZ (F:Ob->Bool)(os:List Ob):Hp->List V->Nat->Prop:=fun _ zs i=>zs.length=(os.take i).countP F
theorem cntZ.ok (F:Ob->Bool)(os:List Ob):ZOk (cntZ F os):=⟨fun _=>rfl,fun _ _ _ _ _ h=>h,fun _ zs i h=>by
 have h:zs.length=(os.take i).countP F:=h
 rw[h]
 exact aH gb (cm _ _)⟩
theorem jE5 {F:Ob->Bool}{os:List Ob}{i:Nat}{o:Ob}(h:os[i]?=some o):(os.take (i+1)).countP F=(os.take i).countP F+if F o=true then 1 else 0:=by
 rw[aT,h,gL]
 show _+List.countP F [o]=_
 rw[List.countP_singleton]
theorem jJM {D:Ends}{H:Hp}{x r t2 fl nl:Addr}{vs1 vs2:List V}{os1 os2:List Ob}{wd:Str}{wi:Int}{ms:List Int}{pcs:List (List Int×Int)}{v0 v2 v6 v7 v8 v9 v10:Option V}(hB:BoxAt H x wi ms pcs)(g:Good 16 32 wi ms pcs)(hr':H r=some (.tup [.str wd, .ref t2]))(hf:H fl=some (.lst vs1))(v1l:vs1.length<=100)(hn:H nl=some (.lst vs2))(v2l:vs2.length<=100)(a1:Ats H os1 vs1)(s1:∀ o∈os1,SmO o)(a2:Ats H os2 vs2)
  (h:(wd= "shares" /\(∃ o∈os1,shB wi ms pcs o=true))\/(wd= "against" /\∃ o∈os2,spkB wi ms pcs o=true)) (q:∀ H',D.rt (.bl true) H'):
  (lendA G hr).1 D [v0,some (.ref x),v2,some (.ref r),some (.ref fl),some (.ref nl),v6,v7,v8,v9,v10] H:=by
 have l1:=a1.len
 have l2:=a2.len
 refine⟨_,rfl,fl,rfl,⟨_,SqL.of hf⟩,jC8 (xs:=vs1) (fun σ=>∃ v,σ=[v,some (.ref x)]) (cntZ (shB wi ms pcs) os1) (cntZ.ok _ _) hf (by rw[aj]; omega) ⟨_,rfl⟩ ?_ ?_⟩
 ·rintro j y σ' H' zs hy ⟨v,rfl⟩ e hz S1 S2 yes no
  obtain⟨o,ho,hA⟩:=Ats.getA a1 hy
  have hz:zs.length=(os1.take j).countP (shB wi ms pcs):=hz
  refine⟨_,rfl,_,rfl,x,y,o,wi,ms,pcs,rfl,hB.mono e.tups,g,hA.ext e,s1 o (aO ho),fun H2 e2=>⟨_,rfl,ite2 (fun z=>?_) (fun z=>?_)⟩⟩
  ·refine⟨_,rfl,yes _ _ _ ⟨_,rfl⟩ e2 ?_⟩
   show (zs++[_]).length=_
   rw[jE5 ho,ah z,aN,hz]
   rfl
  ·refine no _ _ ⟨_,rfl⟩ e2 ?_
   show zs.length=_
   rw[jE5 ho,ai z,hz]
   rfl
 ·rintro D1 H1 zs1 d1 e1 n1 hz1
  have hz1:zs1.length=os1.countP (shB wi ms pcs):=by
   have hz1:zs1.length=(os1.take vs1.length).countP (shB wi ms pcs):=hz1
   rwa [aX (by omega)] at hz1
  refine⟨D1,_,rfl, .inl (SqL.of d1),?_⟩
  refine⟨_,rfl,nl,rfl,⟨_,SqL.of (e1 _ _ hn)⟩,jC8 (xs:=vs2) (fun σ=>∃ v,σ=[v,some (.ref x)]) (cntZ (spkB wi ms pcs) os2) (cntZ.ok _ _) (e1 _ _ hn) (by rw[aj]; omega) ⟨_,rfl⟩ ?_ ?_⟩
  ·rintro j y σ' H' zs hy ⟨v,rfl⟩ e hz S1 S2 yes no
   obtain⟨o,ho,hA⟩:=Ats.getA a2 hy
   have hz:zs.length=(os2.take j).countP (spkB wi ms pcs):=hz
   refine⟨_,rfl,_,rfl,x,y,o,wi,ms,pcs,rfl,hB.mono (e1.trans e).tups,g,hA.ext (e1.trans e),fun H2 e2=>⟨_,rfl,ite2 (fun z=>?_) (fun z=>?_)⟩⟩
   ·refine⟨_,rfl,yes _ _ _ ⟨_,rfl⟩ e2 ?_⟩
    show (zs++[_]).length=_
    rw[jE5 ho,ah z,aN,hz]
    rfl
   ·refine no _ _ ⟨_,rfl⟩ e2 ?_
    show zs.length=_
    rw[jE5 ho,ai z,hz]
    rfl
  ·rintro D2 H2 zs2 d2 e2 n2 hz2
   have hz2:zs2.length=os2.countP (spkB wi ms pcs):=by
    have hz2:zs2.length=(os2.take vs2.length).countP (spkB wi ms pcs):=hz2
    rwa [aX (by omega)] at hz2
   have r2:=(e1.trans e2) _ _ hr'
   refine⟨D2,_,rfl, .inl (SqL.of d2),?_⟩
   refine⟨_,rfl,_,_,rfl,rfl,_,rfl,?_⟩
   rcases h with ⟨rfl,o,ho,hs⟩ | ⟨rfl,o,ho,hs⟩
   ·have c1:0<os1.countP (shB wi ms pcs):=gy.mpr ⟨o,ho,hs⟩
    have c2:os2.countP (spkB wi ms pcs)=0:=gz.mpr fun o' ho' z=>jDA g hs z
    refine ite2 (fun _=>?_) (fun z=>absurd (ar (show ((zs1.length:Nat):Int)>0 by omega)) z)
    have z2:zs2.length=0:=by omega
    refine⟨_,rfl,rfl,_,rfl,ite2 (fun _=>?_) (fun z=>absurd (ar (show V.int ((zs2.length:Nat):Int)=V.int 0 by rw[z2]; rfl)) z)⟩
    exact⟨_,rfl,r,_,0,_,rfl,rfl,SqT.of r2,rfl,rfl,q H2⟩
   ·have c2:0<os2.countP (spkB wi ms pcs):=gy.mpr ⟨o,ho,hs⟩
    have c1:os1.countP (shB wi ms pcs)=0:=gz.mpr fun o' ho' z=>jDA g z hs
    refine ite2 (fun z=>absurd (au z) (show ¬ ((zs1.length:Nat):Int)>0 by omega)) (fun _=>?_)
    refine⟨_,rfl,_,_,rfl,rfl,_,rfl,ite2 (fun _=>?_) (fun z=>absurd (ar (show ((zs2.length:Nat):Int)>0 by omega)) z)⟩
    exact⟨_,rfl,r,_,0,_,rfl,rfl,SqT.of r2,rfl,rfl,q H2⟩
theorem smF_O {frs:List (Int×Int)}(h:∀ p∈frs,SmF p):SmO (.tup (frs.map frO)):=fun os e y hy a b ex=>by
 cases e
 obtain⟨p,hp,rfl⟩:=aQ.mp hy
 obtain⟨h1,h2,h3,h4⟩:=h p hp
 cases ex
 omega
theorem jES {D:Ends}{H:Hp}{a x l r t2:Addr}{ns:List Int}{us:List V}{wd:Str}{o0:Ob}{wi:Int}{ms:List Int}{pcs:List (List Int×Int)}{v4 v5 v6 v7 v8 v9 v10:Option V}(hS:SqL K H a (ns.map V.int))(hB:BoxAt H x wi ms pcs)(g:Good 16 16 wi ms pcs)(hl:H l=some (.lst us))(ul:us.length<=65536)(hc:All2 (CvAt H) us (yY ms pcs wi.toNat 0 []))(hr':H r=some (.tup [.str wd, .ref t2]))(hA:At H o0 (.ref t2))(hM:SmO o0)(h:(wd= "shares" /\shB wi ms pcs o0=true)\/(wd= "against" /\spkB wi ms pcs o0=true))(q:∀ H',D.rt (.bl true) H'):
  (lawRA G hr).1 D [some (.ref a),some (.ref x),some (.ref l),some (.ref r),v4,v5,v6,v7,v8,v9,v10] H:=by
 have g32:Good 16 32 wi ms pcs:=g.wide (by decide) (by decide)
 have w0:=g.w0
 have w1:=g.w1
 have gpl:=g.pl
 refine⟨_,rfl,r,_,1,_,rfl,rfl,SqT.of hr',rfl,by show (1:Nat)<=_; decide,fun fl H1 d1 e1 n1=>?_⟩
 refine⟨_,rfl,r,_,1,_,rfl,rfl,SqT.of (e1 _ _ hr'),rfl,by show (1:Nat)<=_; decide,fun nl H2 d2 e2 n2=>?_⟩
 have E2:=e1.trans e2
 have fn:fl≠nl:=fun z=>by rw[<- z,d1] at n2; cases n2
 have nn:H nl=none:=nw_of e1 n2
 have lf:l≠fl:=fun z=>by rw[z,n1] at hl; cases hl
 have ln:l≠nl:=fun z=>by rw[z,nn] at hl; cases hl
 have f2:=e2 _ _ d1
 have A2:=hA.ext E2
 have B2:=hB.mono E2.tups
 refine⟨_,_,rfl,⟨by decide,by decide,by decide,by decide⟩,?_⟩
 refine jA2 (lo:=1) (n:=8) (fun i σ H'=>(∃ v6 v7 v8,σ=[some (.ref a),some (.ref x),some (.ref l),some (.ref r),some (.ref fl),some (.ref nl),v6,v7,v8,v9,v10])/\Kp2 H2 H' fl nl/\∃ vs1 vs2 os1 os2,H' fl=some (.lst vs1)/\H' nl=some (.lst vs2)/\vs1.length<=1+i/\vs2.length<=1+i/\Ats H' os1 vs1/\(∀ o∈os1,SmO o)/\Ats H' os2 vs2/\o0∈os1/\o0∈os2) ⟨⟨_,_,_,rfl⟩,fun _ _ h _ _=>h,_,_,[o0],[o0],f2,d2,af _,af _,ats1 A2 (ats0 _),(fun o ho=>by rw[be.mp ho]; exact hM),ats1 A2 (ats0 _),be.mpr rfl,be.mpr rfl⟩ ?_ ?_
 ·rintro i σ H3 hi ⟨⟨v6,v7,v8,rfl⟩,k3,vs1,vs2,os1,os2,f3,n3,l1,l2,a1,s1,a2,m1,m2⟩
  have kp:=k3.kp f2 d2 f3 n3
  have hS3:SqL K H3 a (ns.map V.int):=by
   have off:∀ o,H a=some o->a≠fl/\a≠nl:=fun o ho=>⟨(fun z=>by rw[z,n1] at ho; cases ho),(fun z=>by rw[z,nn] at ho; cases ho)⟩
   rcases hS with (h | ⟨o,h⟩) | h
   ·exact .inl (.inl (k3 _ _ (E2 _ _ h) (off _ h).1 (off _ h).2))
   ·exact .inl (.inr ⟨o,k3 _ _ (E2 _ _ h) (off _ h).1 (off _ h).2⟩)
   ·exact .inr h
  refine jL6 G hr hS3 (by omega) (B2.mono kp.t) g (k3 _ _ (E2 _ _ hl) lf ln) ul (CvAt.mono kp.t (CvAt.mono E2.tups hc)) f3 (by omega) n3 (by omega) fn lf ln fun H4 v7 v8 sm r4 xs frs ys f4 n4 s4 x4 q4 lq r4' yl k4=>?_
  have kp4:=k4.kp f3 n3 f4 n4
  refine⟨⟨_,_,_,rfl⟩,fun c o h n1 n2=>k4 _ _ (k3 _ _ h n1 n2) n1 n2,_,_,os1++[.tup (frs.map frO)],os2++[.tup (ys.map Ob.int)],f4,n4,by rw[aN]; show _+1<=_; omega,by rw[aN]; show _+1<=_; omega,(Ats.mono kp4 _ _ a1).append (ats1 (jFG s4 (by rw[x4.len,lq]; omega) x4.ats) (ats0 _)),fun o ho=>?_,(Ats.mono kp4 _ _ a2).append (ats1 (jFG r4' (by rw[ac]; omega) (jKX ys)) (ats0 _)),cR _ m1,cR _ m2⟩
  rcases bx.mp ho with z | z
  ·exact s1 o z
  ·rw[be.mp z]; exact smF_O q4
 ·rintro σ H3 ⟨⟨v6,v7,v8,rfl⟩,k3,vs1,vs2,os1,os2,f3,n3,l1,l2,a1,s1,a2,m1,m2⟩
  have kp:=k3.kp f2 d2 f3 n3
  refine jJM G hr (B2.mono kp.t) g32 (kp.t _ _ (E2 _ _ hr')) f3 (by omega) n3 (by omega) a1 s1 a2 ?_ q
  rcases h with ⟨e,h⟩ | ⟨e,h⟩
  ·exact .inl ⟨e,o0,m1,h⟩
  ·exact .inr ⟨e,o0,m2,h⟩
end
def spLaw (K:W.Frag):Sp:=fun vs H Q _=>∃ (a:Addr) (ns:List Int),vs=[.ref a]/\SqL K H a (ns.map V.int)/\ns.length<=63/\∀ H',Q (.bl true) H'
theorem SqL.extE {H H':Hp}{a:Addr}{xs:List V}(h:SqL K H a xs)(e:Ext H H'):SqL K H' a xs:=by
 rcases h with (h | ⟨o,h⟩) | h
 ·exact .inl (.inl (e _ _ h))
 ·exact .inl (.inr ⟨o,e _ _ h⟩)
 ·exact .inr h
theorem jPZ {fd:FuncData}(F:Fun K "law" "law" sLaw f fd)(G:LW P w K mg base fC fP fT fD fV fE fM fR fA fL fS fdC fdP fdT fdD fdV fdE fdM fdR fdA fdL fdS):FnOk P w K mg base CX0 20 f fd ["script"] (spLaw K):=by
 refine F.ok scLaw (fun vs H Q E h=>?_) (fun cdv A outer s H vs Q E hr h=>?_)
 ·obtain⟨_,_,rfl,_⟩:=h
  rfl
 ·obtain⟨a,ns,rfl,hS,hlen,q⟩:=h
  refine⟨_,(lawA G hr).2.h,?_⟩
  refine⟨_,rfl,a,ns,0,6,10,rfl,hS,by decide,by decide,by decide,by decide,by decide,fun x wi ms pcs H1 hB1 g1 e1=>?_⟩
  have g32:Good 16 32 wi ms pcs:=g1.wide (by decide) (by decide)
  have w0:=g1.w0
  have w1:=g1.w1
  have gpl:=g1.pl
  refine⟨_,rfl,x,wi,ms,pcs,rfl,hB1,g1,fun l us H2 d2 l2 a2 e2=>?_⟩
  refine⟨_,rfl,x,wi,ms,pcs,rfl,hB1.mono e2.tups,g32,fun b op=>⟨fun hp r ty H3 d3 y3 e3=>?_,fun hn r tx us' H3 d3 x3 f3 e3=>?_⟩⟩
  ·have hA:At H3 (.tup ((yL ms 1 (bxU wi ms pcs) b).map Ob.int)) (.ref ty):=jFG y3 (by rw[ac,jMC]; omega) (jKX _)
   have sp:=jL8 g32 op hp
   exact jES G hr (SqL.extE hS ((e1.trans e2).trans e3)) (hB1.mono (e2.trans e3).tups) g1 (e3 _ _ d2) l2 (CvAt.mono e3.tups a2) d3 hA (fun os e x hx a b ex=>by
    cases e
    obtain⟨z,_,rfl⟩:=aQ.mp hx
    cases ex) (.inr ⟨rfl,by rw[jGH (by rw[ac,jMC]; omega) (jQQ _),jOW]; exact sp⟩) q
  ·have hA:At H3 (.tup ((frX (bxU wi ms pcs) b).map frO)) (.ref tx):=jFG x3 (by rw[f3.len,jOR]; omega) f3.ats
   exact jES G hr (SqL.extE hS ((e1.trans e2).trans e3)) (hB1.mono (e2.trans e3).tups) g1 (e3 _ _ d2) l2 (CvAt.mono e3.tups a2) d3 hA (jN6 g32 op) (.inl ⟨rfl,jN7 g32 op hn⟩) q
end
theorem lenU1 {P:List Value->Prop} :∀ {us:List Value},us.length=1->(∀ a,P [a])->P us
 | [a],_,h=>h a
theorem qL {P:List Value->Prop} :∀ {us:List Value},us.length=2->(∀ a b,P [a,b])->P us
 | [a,b],_,h=>h a b
theorem lenU3 {P:List Value->Prop} :∀ {us:List Value},us.length=3->(∀ a b c,P [a,b,c])->P us
 | [a,b,c],_,h=>h a b c
theorem lenU4 {P:List Value->Prop} :∀ {us:List Value},us.length=4->(∀ a b c d,P [a,b,c,d])->P us
 | [a,b,c,d],_,h=>h a b c d
set_option maxHeartbeats 8000000 in
theorem all_mk {l:PySem.W.OpenLaw}{w:World}{K:W.Frag}{h:Heap}{mg:Str->Option Value}{fa f1 f2 f3 f4 f5 f6 f7 f8 f9 f10 f11 f12 f13 f14 f15 f16 f17 f18 f19 f20 f21 f22 f23 f24 f25 f26 f27:Addr}(X:K.In h)(G:h.Ns mainGlobals mg)(hfa:mg "law" =some (.ref fa))
  {od1 an1 od2 an2 od3 an3 od4 an4 od5 an5 od6 an6 od7 an7 od8 an8 od9 an9 od10 an10 od11 an11 od12 an12 od13 an13 od14 an14 od15 an15 od16 an16 od17 an17 od18 an18 od19 an19 od20 an20 od21 an21 od22 an22 od23 an23 od24 an24 od25 an25 od26 an26 od27 an27:Option Addr}{sl1 sl2 sl3 sl4 sl5 sl6 sl7 sl8 sl9 sl10 sl11 sl12 sl13 sl14 sl15 sl16 sl17 sl18 sl19 sl20 sl21 sl22 sl23 sl24 sl25 sl26 sl27:Array (Option Value)}{oc1 kV1 dc1 pm1 cd1 ct1 oc2 kV2 dc2 pm2 cd2 ct2 oc3 kV3 dc3 pm3 cd3 ct3 oc4 kV4 dc4 pm4 cd4 ct4 oc5 kV5 dc5 pm5 cd5 ct5 oc6 kV6 dc6 pm6 cd6 ct6 oc7 kV7 dc7 pm7 cd7 ct7 oc8 kV8 dc8 pm8 cd8 ct8 oc9 kV9 dc9 pm9 cd9 ct9 oc10 kV10 dc10 pm10 cd10 ct10 oc11 kV11 dc11 pm11 cd11 ct11 oc12 kV12 dc12 pm12 cd12 ct12 oc13 kV13 dc13 pm13 cd13 ct13 oc14 kV14 dc14 pm14 cd14 ct14 oc15 kV15 dc15 pm15 cd15 ct15 oc16 kV16 dc16 pm16 cd16 ct16 oc17 kV17 dc17 pm17 cd17 ct17 oc18 kV18 dc18 pm18 cd18 ct18 oc19 kV19 dc19 pm19 cd19 ct19 oc20 kV20 dc20 pm20 cd20 ct20 oc21 kV21 dc21 pm21 cd21 ct21 oc22 kV22 dc22 pm22 cd22 ct22 oc23 kV23 dc23 pm23 cd23 ct23 oc24 kV24 dc24 pm24 cd24 ct24 oc25 kV25 dc25 pm25 cd25 ct25 oc26 kV26 dc26 pm26 cd26 ct26 oc27 kV27 dc27 pm27 cd27 ct27:Value}
  (a1:PySem.W.nsIn K mainGlobals "is_whole" =some (some (.ref f1))) (l1:K.lookup f1=some ⟨oc1,od1, .func (PySem.W.fnOf "is_whole" "is_whole" (jR jAI) (jB jAI) (j8 jAI) .none kV1 dc1 pm1 an1 cd1 ct1),sl1⟩) (c1:PySem.W.codeIn K cd1 "is_whole" =true) (k1:keepIn K (.ref f1)=true)
  (a2:PySem.W.nsIn K mainGlobals "common_divisor" =some (some (.ref f2))) (l2:K.lookup f2=some ⟨oc2,od2, .func (PySem.W.fnOf "common_divisor" "common_divisor" (jR sGcd) (jB sGcd) (j8 sGcd) .none kV2 dc2 pm2 an2 cd2 ct2),sl2⟩) (c2:PySem.W.codeIn K cd2 "common_divisor" =true) (k2:keepIn K (.ref f2)=true)
  (a3:PySem.W.nsIn K mainGlobals "is_fraction" =some (some (.ref f3))) (l3:K.lookup f3=some ⟨oc3,od3, .func (PySem.W.fnOf "is_fraction" "is_fraction" (jR sIsFr) (jB sIsFr) (j8 sIsFr) .none kV3 dc3 pm3 an3 cd3 ct3),sl3⟩) (c3:PySem.W.codeIn K cd3 "is_fraction" =true) (k3:keepIn K (.ref f3)=true)
  (a4:PySem.W.nsIn K mainGlobals "fraction_of" =some (some (.ref f4))) (l4:K.lookup f4=some ⟨oc4,od4, .func (PySem.W.fnOf "fraction_of" "fraction_of" (jR sFrOf) (jB sFrOf) (j8 sFrOf) .none kV4 dc4 pm4 an4 cd4 ct4),sl4⟩) (c4:PySem.W.codeIn K cd4 "fraction_of" =true) (k4:keepIn K (.ref f4)=true)
  (a5:PySem.W.nsIn K mainGlobals "sum_of" =some (some (.ref f5))) (l5:K.lookup f5=some ⟨oc5,od5, .func (PySem.W.fnOf "sum_of" "sum_of" (jR jAZ) (jB jAZ) (j8 jAZ) .none kV5 dc5 pm5 an5 cd5 ct5),sl5⟩) (c5:PySem.W.codeIn K cd5 "sum_of" =true) (k5:keepIn K (.ref f5)=true)
  (a6:PySem.W.nsIn K mainGlobals "musts_of" =some (some (.ref f6))) (l6:K.lookup f6=some ⟨oc6,od6, .func (PySem.W.fnOf "musts_of" "musts_of" (jR jB1) (jB jB1) (j8 jB1) .none kV6 dc6 pm6 an6 cd6 ct6),sl6⟩) (c6:PySem.W.codeIn K cd6 "musts_of" =true) (k6:keepIn K (.ref f6)=true)
  (a7:PySem.W.nsIn K mainGlobals "are_shares" =some (some (.ref f7))) (l7:K.lookup f7=some ⟨oc7,od7, .func (PySem.W.fnOf "are_shares" "are_shares" (jR sAre) (jB sAre) (j8 sAre) .none kV7 dc7 pm7 an7 cd7 ct7),sl7⟩) (c7:PySem.W.codeIn K cd7 "are_shares" =true) (k7:keepIn K (.ref f7)=true)
  (a8:PySem.W.nsIn K mainGlobals "speaks_against" =some (some (.ref f8))) (l8:K.lookup f8=some ⟨oc8,od8, .func (PySem.W.fnOf "speaks_against" "speaks_against" (jR sSpk) (jB sSpk) (j8 sSpk) .none kV8 dc8 pm8 an8 cd8 ct8),sl8⟩) (c8:PySem.W.codeIn K cd8 "speaks_against" =true) (k8:keepIn K (.ref f8)=true)
  (a9:PySem.W.nsIn K mainGlobals "first_table" =some (some (.ref f9))) (l9:K.lookup f9=some ⟨oc9,od9, .func (PySem.W.fnOf "first_table" "first_table" (jR yV) (jB yV) (j8 yV) .none kV9 dc9 pm9 an9 cd9 ct9),sl9⟩) (c9:PySem.W.codeIn K cd9 "first_table" =true) (k9:keepIn K (.ref f9)=true)
  (a10:PySem.W.nsIn K mainGlobals "column_to_take" =some (some (.ref f10))) (l10:K.lookup f10=some ⟨oc10,od10, .func (PySem.W.fnOf "column_to_take" "column_to_take" (jR sColT) (jB sColT) (j8 sColT) .none kV10 dc10 pm10 an10 cd10 ct10),sl10⟩) (c10:PySem.W.codeIn K cd10 "column_to_take" =true) (k10:keepIn K (.ref f10)=true)
  (a11:PySem.W.nsIn K mainGlobals "row_to_give" =some (some (.ref f11))) (l11:K.lookup f11=some ⟨oc11,od11, .func (PySem.W.fnOf "row_to_give" "row_to_give" (jR qH) (jB qH) (j8 qH) .none kV11 dc11 pm11 an11 cd11 ct11),sl11⟩) (c11:PySem.W.codeIn K cd11 "row_to_give" =true) (k11:keepIn K (.ref f11)=true)
  (a12:PySem.W.nsIn K mainGlobals "turned" =some (some (.ref f12))) (l12:K.lookup f12=some ⟨oc12,od12, .func (PySem.W.fnOf "turned" "turned" (jR yR) (jB yR) (j8 yR) .none kV12 dc12 pm12 an12 cd12 ct12),sl12⟩) (c12:PySem.W.codeIn K cd12 "turned" =true) (k12:keepIn K (.ref f12)=true)
  (a13:PySem.W.nsIn K mainGlobals "balanced" =some (some (.ref f13))) (l13:K.lookup f13=some ⟨oc13,od13, .func (PySem.W.fnOf "balanced" "balanced" (jR sBal) (jB sBal) (j8 sBal) .none kV13 dc13 pm13 an13 cd13 ct13),sl13⟩) (c13:PySem.W.codeIn K cd13 "balanced" =true) (k13:keepIn K (.ref f13)=true)
  (a14:PySem.W.nsIn K mainGlobals "shares" =some (some (.ref f14))) (l14:K.lookup f14=some ⟨oc14,od14, .func (PySem.W.fnOf "shares" "shares" (jR yO) (jB yO) (j8 yO) .none kV14 dc14 pm14 an14 cd14 ct14),sl14⟩) (c14:PySem.W.codeIn K cd14 "shares" =true) (k14:keepIn K (.ref f14)=true)
  (a15:PySem.W.nsIn K mainGlobals "_law_cell_at" =some (some (.ref f15))) (l15:K.lookup f15=some ⟨oc15,od15, .func (PySem.W.fnOf "_law_cell_at" "_law_cell_at" (jR sCell) (jB sCell) (j8 sCell) .none kV15 dc15 pm15 an15 cd15 ct15),sl15⟩) (c15:PySem.W.codeIn K cd15 "_law_cell_at" =true) (k15:keepIn K (.ref f15)=true)
  (a16:PySem.W.nsIn K mainGlobals "_law_pot" =some (some (.ref f16))) (l16:K.lookup f16=some ⟨oc16,od16, .func (PySem.W.fnOf "_law_pot" "_law_pot" (jR sPot) (jB sPot) (j8 sPot) .none kV16 dc16 pm16 an16 cd16 ct16),sl16⟩) (c16:PySem.W.codeIn K cd16 "_law_pot" =true) (k16:keepIn K (.ref f16)=true)
  (a17:PySem.W.nsIn K mainGlobals "_law_take" =some (some (.ref f17))) (l17:K.lookup f17=some ⟨oc17,od17, .func (PySem.W.fnOf "_law_take" "_law_take" (jR sTake) (jB sTake) (j8 sTake) .none kV17 dc17 pm17 an17 cd17 ct17),sl17⟩) (c17:PySem.W.codeIn K cd17 "_law_take" =true) (k17:keepIn K (.ref f17)=true)
  (a18:PySem.W.nsIn K mainGlobals "_law_lot" =some (some (.ref f18))) (l18:K.lookup f18=some ⟨oc18,od18, .func (PySem.W.fnOf "_law_lot" "_law_lot" (jR sLot) (jB sLot) (j8 sLot) .none kV18 dc18 pm18 an18 cd18 ct18),sl18⟩) (c18:PySem.W.codeIn K cd18 "_law_lot" =true) (k18:keepIn K (.ref f18)=true)
  (a19:PySem.W.nsIn K mainGlobals "_law_box" =some (some (.ref f19))) (l19:K.lookup f19=some ⟨oc19,od19, .func (PySem.W.fnOf "_law_box" "_law_box" (jR sBox) (jB sBox) (j8 sBox) .none kV19 dc19 pm19 an19 cd19 ct19),sl19⟩) (c19:PySem.W.codeIn K cd19 "_law_box" =true) (k19:keepIn K (.ref f19)=true)
  (a20:PySem.W.nsIn K mainGlobals "_law_from" =some (some (.ref f20))) (l20:K.lookup f20=some ⟨oc20,od20, .func (PySem.W.fnOf "_law_from" "_law_from" (jR qF) (jB qF) (j8 qF) .none kV20 dc20 pm20 an20 cd20 ct20),sl20⟩) (c20:PySem.W.codeIn K cd20 "_law_from" =true) (k20:keepIn K (.ref f20)=true)
  (a21:PySem.W.nsIn K mainGlobals "_law_coverings" =some (some (.ref f21))) (l21:K.lookup f21=some ⟨oc21,od21, .func (PySem.W.fnOf "_law_coverings" "_law_coverings" (jR qM) (jB qM) (j8 qM) .none kV21 dc21 pm21 an21 cd21 ct21),sl21⟩) (c21:PySem.W.codeIn K cd21 "_law_coverings" =true) (k21:keepIn K (.ref f21)=true)
  (a22:PySem.W.nsIn K mainGlobals "_law_drawn" =some (some (.ref f22))) (l22:K.lookup f22=some ⟨oc22,od22, .func (PySem.W.fnOf "_law_drawn" "_law_drawn" (jR jB2) (jB jB2) (j8 jB2) .none kV22 dc22 pm22 an22 cd22 ct22),sl22⟩) (c22:PySem.W.codeIn K cd22 "_law_drawn" =true) (k22:keepIn K (.ref f22)=true)
  (a23:PySem.W.nsIn K mainGlobals "_law_divisor" =some (some (.ref f23))) (l23:K.lookup f23=some ⟨oc23,od23, .func (PySem.W.fnOf "_law_divisor" "_law_divisor" (jR sDiv) (jB sDiv) (j8 sDiv) .none kV23 dc23 pm23 an23 cd23 ct23),sl23⟩) (c23:PySem.W.codeIn K cd23 "_law_divisor" =true) (k23:keepIn K (.ref f23)=true)
  (a24:PySem.W.nsIn K mainGlobals "_law_ratio" =some (some (.ref f24))) (l24:K.lookup f24=some ⟨oc24,od24, .func (PySem.W.fnOf "_law_ratio" "_law_ratio" (jR jB0) (jB jB0) (j8 jB0) .none kV24 dc24 pm24 an24 cd24 ct24),sl24⟩) (c24:PySem.W.codeIn K cd24 "_law_ratio" =true) (k24:keepIn K (.ref f24)=true)
  (a25:PySem.W.nsIn K mainGlobals "_law_mean" =some (some (.ref f25))) (l25:K.lookup f25=some ⟨oc25,od25, .func (PySem.W.fnOf "_law_mean" "_law_mean" (jR qI) (jB qI) (j8 qI) .none kV25 dc25 pm25 an25 cd25 ct25),sl25⟩) (c25:PySem.W.codeIn K cd25 "_law_mean" =true) (k25:keepIn K (.ref f25)=true)
  (a26:PySem.W.nsIn K mainGlobals "_law_vector" =some (some (.ref f26))) (l26:K.lookup f26=some ⟨oc26,od26, .func (PySem.W.fnOf "_law_vector" "_law_vector" (jR sVec) (jB sVec) (j8 sVec) .none kV26 dc26 pm26 an26 cd26 ct26),sl26⟩) (c26:PySem.W.codeIn K cd26 "_law_vector" =true) (k26:keepIn K (.ref f26)=true)
  (a27:PySem.W.nsIn K mainGlobals "law" =some (some (.ref f27))) (l27:K.lookup f27=some ⟨oc27,od27, .func (PySem.W.fnOf "law" "law" (jR sLaw) (jB sLaw) (j8 sLaw) .none kV27 dc27 pm27 an27 cd27 ct27),sl27⟩) (c27:PySem.W.codeIn K cd27 "law" =true) (k27:keepIn K (.ref f27)=true)
   (z1:PySem.W.nsIn K mainGlobals "len" =some none) (z2:PySem.W.nsIn K mainGlobals "range" =some none) (z3:PySem.W.nsIn K mainGlobals "tuple" =some none) (z4:PySem.W.nsIn K mainGlobals "sorted" =some none) (z5:PySem.W.nsIn K mainGlobals "set" =some none) (z6:PySem.W.nsIn K mainGlobals "list" =some none) (z7:PySem.W.nsIn K mainGlobals "int" =some none) (z8:PySem.W.nsIn K mainGlobals "isinstance" =some none) (z9:PySem.W.nsIn K mainGlobals "bool" =some none) (z10:PySem.W.nsIn K mainGlobals "str" =some none) (z11:PySem.W.nsIn K mainGlobals "all" =some none) (z12:PySem.W.nsIn K mainGlobals "zip" =some none) (z13:PySem.W.nsIn K mainGlobals "max" =some none) (z14:PySem.W.nsIn K mainGlobals "min" =some none) (z15:PySem.W.nsIn K mainGlobals "any" =some none) (z16:PySem.W.nsIn K mainGlobals "abs" =some none) (z17:PySem.W.nsIn K mainGlobals "sum" =some none) (z18:PySem.W.nsIn K mainGlobals "enumerate" =some none) (z19:PySem.W.nsIn K mainGlobals "dict" =some none):
  ∃ fd:FuncData,(∀ (s:Shared) (v:Value),BindsTo s fd ⟨[v],[]⟩ [("script",v)])/\∀ base:Heap,K.In base->base.Ns mainGlobals mg->FnOk l.prog w K mg base CX0 20 fa fd ["script"] (spLaw K):=by
 have e:=hfa.symm.trans (e8 X G a27)
 cases e
 have T:Txt mg:=⟨aP X G z1,aP X G z2,aP X G z3,aP X G z4,aP X G z5,aP X G z6,aP X G z7,aP X G z8,aP X G z9,aP X G z10,aP X G z11,aP X G z12,aP X G z13,aP X G z14,aP X G z15,aP X G z16,aP X G z17,aP X G z18,aP X G z19⟩
 have F1:=kU (st:=jAI) l1 c1 k1
 have b1:=F1.binds (ps:=["thing"]) fun _ _ _ _ _ _ us hl=>lenU1 (P:=fun us=>bindArgs _ ⟨us,[]⟩=pure (List.zip _ us)) hl fun _=>rfl
 have F2:=kU (st:=sGcd) l2 c2 k2
 have b2:=F2.binds (ps:=["one","other"]) fun _ _ _ _ _ _ us hl=>qL (P:=fun us=>bindArgs _ ⟨us,[]⟩=pure (List.zip _ us)) hl fun _ _=>rfl
 have F3:=kU (st:=sIsFr) l3 c3 k3
 have b3:=F3.binds (ps:=["thing"]) fun _ _ _ _ _ _ us hl=>lenU1 (P:=fun us=>bindArgs _ ⟨us,[]⟩=pure (List.zip _ us)) hl fun _=>rfl
 have F4:=kU (st:=sFrOf) l4 c4 k4
 have b4:=F4.binds (ps:=["top","bottom"]) fun _ _ _ _ _ _ us hl=>qL (P:=fun us=>bindArgs _ ⟨us,[]⟩=pure (List.zip _ us)) hl fun _ _=>rfl
 have F5:=kU (st:=jAZ) l5 c5 k5
 have b5:=F5.binds (ps:=["fractions"]) fun _ _ _ _ _ _ us hl=>lenU1 (P:=fun us=>bindArgs _ ⟨us,[]⟩=pure (List.zip _ us)) hl fun _=>rfl
 have F6:=kU (st:=jB1) l6 c6 k6
 have b6:=F6.binds (ps:=["box"]) fun _ _ _ _ _ _ us hl=>lenU1 (P:=fun us=>bindArgs _ ⟨us,[]⟩=pure (List.zip _ us)) hl fun _=>rfl
 have F7:=kU (st:=sAre) l7 c7 k7
 have b7:=F7.binds (ps:=["box","thing"]) fun _ _ _ _ _ _ us hl=>qL (P:=fun us=>bindArgs _ ⟨us,[]⟩=pure (List.zip _ us)) hl fun _ _=>rfl
 have F8:=kU (st:=sSpk) l8 c8 k8
 have b8:=F8.binds (ps:=["box","thing"]) fun _ _ _ _ _ _ us hl=>qL (P:=fun us=>bindArgs _ ⟨us,[]⟩=pure (List.zip _ us)) hl fun _ _=>rfl
 have F9:=kU (st:=yV) l9 c9 k9
 have b9:=F9.binds (ps:=["box","lack"]) fun _ _ _ _ _ _ us hl=>qL (P:=fun us=>bindArgs _ ⟨us,[]⟩=pure (List.zip _ us)) hl fun _ _=>rfl
 have F10:=kU (st:=sColT) l10 c10 k10
 have b10:=F10.binds (ps:=["table"]) fun _ _ _ _ _ _ us hl=>lenU1 (P:=fun us=>bindArgs _ ⟨us,[]⟩=pure (List.zip _ us)) hl fun _=>rfl
 have F11:=kU (st:=qH) l11 c11 k11
 have b11:=F11.binds (ps:=["table","taken","column"]) fun _ _ _ _ _ _ us hl=>lenU3 (P:=fun us=>bindArgs _ ⟨us,[]⟩=pure (List.zip _ us)) hl fun _ _ _=>rfl
 have F12:=kU (st:=yR) l12 c12 k12
 have b12:=F12.binds (ps:=["table","bottom","row","column"]) fun _ _ _ _ _ _ us hl=>lenU4 (P:=fun us=>bindArgs _ ⟨us,[]⟩=pure (List.zip _ us)) hl fun _ _ _ _=>rfl
 have F13:=kU (st:=sBal) l13 c13 k13
 have b13:=F13.binds (ps:=["box","lack"]) fun _ _ _ _ _ _ us hl=>qL (P:=fun us=>bindArgs _ ⟨us,[]⟩=pure (List.zip _ us)) hl fun _ _=>rfl
 have F14:=kU (st:=yO) l14 c14 k14
 have b14:=F14.binds (ps:=["box"]) fun _ _ _ _ _ _ us hl=>lenU1 (P:=fun us=>bindArgs _ ⟨us,[]⟩=pure (List.zip _ us)) hl fun _=>rfl
 have F15:=kU (st:=sCell) l15 c15 k15
 have b15:=F15.binds (ps:=["script","k"]) fun _ _ _ _ _ _ us hl=>qL (P:=fun us=>bindArgs _ ⟨us,[]⟩=pure (List.zip _ us)) hl fun _ _=>rfl
 have F16:=kU (st:=sPot) l16 c16 k16
 have b16:=F16.binds (ps:=["cell"]) fun _ _ _ _ _ _ us hl=>lenU1 (P:=fun us=>bindArgs _ ⟨us,[]⟩=pure (List.zip _ us)) hl fun _=>rfl
 have F17:=kU (st:=sTake) l17 c17 k17
 have b17:=F17.binds (ps:=["pot","wide"]) fun _ _ _ _ _ _ us hl=>qL (P:=fun us=>bindArgs _ ⟨us,[]⟩=pure (List.zip _ us)) hl fun _ _=>rfl
 have F18:=kU (st:=sLot) l18 c18 k18
 have b18:=F18.binds (ps:=["pot","wide"]) fun _ _ _ _ _ _ us hl=>qL (P:=fun us=>bindArgs _ ⟨us,[]⟩=pure (List.zip _ us)) hl fun _ _=>rfl
 have F19:=kU (st:=sBox) l19 c19 k19
 have b19:=F19.binds (ps:=["pot","most_things","most_pieces"]) fun _ _ _ _ _ _ us hl=>lenU3 (P:=fun us=>bindArgs _ ⟨us,[]⟩=pure (List.zip _ us)) hl fun _ _ _=>rfl
 have F20:=kU (st:=qF) l20 c20 k20
 have b20:=F20.binds (ps:=["box","thing","held"]) fun _ _ _ _ _ _ us hl=>lenU3 (P:=fun us=>bindArgs _ ⟨us,[]⟩=pure (List.zip _ us)) hl fun _ _ _=>rfl
 have F21:=kU (st:=qM) l21 c21 k21
 have b21:=F21.binds (ps:=["box"]) fun _ _ _ _ _ _ us hl=>lenU1 (P:=fun us=>bindArgs _ ⟨us,[]⟩=pure (List.zip _ us)) hl fun _=>rfl
 have F22:=kU (st:=jB2) l22 c22 k22
 have b22:=F22.binds (ps:=["script","k","things","pieces"]) fun _ _ _ _ _ _ us hl=>lenU4 (P:=fun us=>bindArgs _ ⟨us,[]⟩=pure (List.zip _ us)) hl fun _ _ _ _=>rfl
 have F23:=kU (st:=sDiv) l23 c23 k23
 have b23:=F23.binds (ps:=["one","other"]) fun _ _ _ _ _ _ us hl=>qL (P:=fun us=>bindArgs _ ⟨us,[]⟩=pure (List.zip _ us)) hl fun _ _=>rfl
 have F24:=kU (st:=jB0) l24 c24 k24
 have b24:=F24.binds (ps:=["top","bottom"]) fun _ _ _ _ _ _ us hl=>qL (P:=fun us=>bindArgs _ ⟨us,[]⟩=pure (List.zip _ us)) hl fun _ _=>rfl
 have F25:=kU (st:=qI) l25 c25 k25
 have b25:=F25.binds (ps:=["pot","box","every"]) fun _ _ _ _ _ _ us hl=>lenU3 (P:=fun us=>bindArgs _ ⟨us,[]⟩=pure (List.zip _ us)) hl fun _ _ _=>rfl
 have F26:=kU (st:=sVec) l26 c26 k26
 have b26:=F26.binds (ps:=["pot","box"]) fun _ _ _ _ _ _ us hl=>qL (P:=fun us=>bindArgs _ ⟨us,[]⟩=pure (List.zip _ us)) hl fun _ _=>rfl
 have F27:=kU (st:=sLaw) l27 c27 k27
 refine⟨PySem.W.fnOf "law" "law" (jR sLaw) (jB sLaw) (j8 sLaw) .none kV27 dc27 pm27 an27 cd27 ct27,fun s v=> .of_eq rfl,fun base KB _=>?_⟩
 have M:=fun {x:Str}{f:Addr}(a:PySem.W.nsIn K mainGlobals x=some (some (.ref f)))=>e8 X G a
 have M':=fun {x:Str}{v:Value}(a:PySem.W.nsIn K mainGlobals x=some (some v))=>e8 X G a
 have C1:Can l.prog w K mg base "is_whole" 1 f1 _ ["thing"] spWh:=⟨jJ4 F1 T,M a1,k1,b1⟩
 have C2:Can l.prog w K mg base "common_divisor" 1 f2 _ ["one","other"] spGcd:=⟨jQ0 F2,M a2,k2,b2⟩
 have C3:Can l.prog w K mg base "is_fraction" 2 f3 _ ["thing"] (spB yU):=⟨jO6 F3 T C1 C2,M a3,k3,b3⟩
 have C4:Can l.prog w K mg base "fraction_of" 2 f4 _ ["top","bottom"] spFr:=⟨jO7 F4 T C2,M a4,k4,b4⟩
 have C5:Can l.prog w K mg base "sum_of" 3 f5 _ ["fractions"] spSum:=⟨jLJ F5 T C4,M a5,k5,b5⟩
 have C6:Can l.prog w K mg base "musts_of" 1 f6 _ ["box"] jDM:=⟨jLL F6 T,M a6,k6,b6⟩
 have C7:Can l.prog w K mg base "are_shares" 4 f7 _ ["box","thing"] spSh:=⟨jQ4 F7 T C3 C5,M a7,k7,b7⟩
 have C8:Can l.prog w K mg base "speaks_against" 2 f8 _ ["box","thing"] spSpk:=⟨jPW F8 T C1,M a8,k8,b8⟩
 have C9:Can l.prog w K mg base "first_table" 2 f9 _ ["box","lack"] jFL:=⟨jLM F9 T C6,M a9,k9,b9⟩
 have C10:Can l.prog w K mg base "column_to_take" 1 f10 _ ["table"] jIN:=⟨jO9 F10 T,M a10,k10,b10⟩
 have C11:Can l.prog w K mg base "row_to_give" 1 f11 _ ["table","taken","column"] jIK:=⟨jO4 F11 T,M a11,k11,b11⟩
 have C12:Can l.prog w K mg base "turned" 1 f12 _ ["table","bottom","row","column"] jDK:=⟨jJ5 F12 T,M a12,k12,b12⟩
 have C13:Can l.prog w K mg base "balanced" 3 f13 _ ["box","lack"] spBal:=⟨jQ3 F13 ⟨T,C9,C10,C11,C12⟩,M a13,k13,b13⟩
 have C14:Can l.prog w K mg base "shares" 4 f14 _ ["box"] jDL:=⟨jJ6 F14 T C13 C4,M a14,k14,b14⟩
 have C15:Can l.prog w K mg base "_law_cell_at" 1 f15 _ ["script","k"] (jEJ K):=⟨jOA F15 T,M a15,k15,b15⟩
 have C16:Can l.prog w K mg base "_law_pot" 1 f16 _ ["cell"] spPot:=⟨jPX F16 T,M a16,k16,b16⟩
 have C17:Can l.prog w K mg base "_law_take" 1 f17 _ ["pot","wide"] y9:=⟨jO3 F17,M a17,k17,b17⟩
 have C18:Can l.prog w K mg base "_law_lot" 2 f18 _ ["pot","wide"] qG:=⟨jPY F18 T C17,M a18,k18,b18⟩
 have C19:Can l.prog w K mg base "_law_box" 3 f19 _ ["pot","most_things","most_pieces"] spBox:=⟨jQ2 F19 T C17 C18,M a19,k19,b19⟩
 have C20:Can l.prog w K mg base "_law_from" 18 f20 _ ["box","thing","held"] (jD5 16):=⟨jJ7 F20 T (M a20) k20 b20 16,M a20,k20,b20⟩
 have C21:Can l.prog w K mg base "_law_coverings" 19 f21 _ ["box"] jIM:=⟨jO8 F21 T C20,M a21,k21,b21⟩
 have C22:Can l.prog w K mg base "_law_drawn" 4 f22 _ ["script","k","things","pieces"] (jFM K):=⟨jLN F22 T C15 C16 C17 C19,M a22,k22,b22⟩
 have C23:Can l.prog w K mg base "_law_divisor" 1 f23 _ ["one","other"] spDiv:=⟨jQ1 F23 T,M a23,k23,b23⟩
 have C24:Can l.prog w K mg base "_law_ratio" 2 f24 _ ["top","bottom"] spFr:=⟨jLK F24 T C23,M a24,k24,b24⟩
 have C25:Can l.prog w K mg base "_law_mean" 3 f25 _ ["pot","box","every"] jIL:=⟨jO5 F25 T C17 C24,M a25,k25,b25⟩
 have C26:Can l.prog w K mg base "_law_vector" 2 f26 _ ["pot","box"] spVec:=⟨jPV F26 T C17,M a26,k26,b26⟩
 exact jPZ F27 ⟨T,C15,C16,C17,C22,C21,C26,C25,C24,C7,C8,C14⟩
theorem walk {l:PySem.W.OpenLaw}{q:Program}{loose:List Str}{XP:(Str->Option Value)->Heap->Prop}{YP:World->Heap->Prop}{d:DefRec}{K:Params->W.Frag}(hn:l.most=some 63)(hdf:d.params.defaults=[])
  (hY:∀ (w:World) (h:Heap),YP w h->(K w.params).In h)
  (F:∀ (w:World) (mg:Str->Option Value) (fa:Addr) (h:Heap),(K w.params).In h->h.Ns mainGlobals mg->mg d.name=some (.ref fa)->
   ∃ fd:FuncData,(∀ (s:Shared) (u:Value),BindsTo s fd ⟨[u],[]⟩ [("script",u)])/\∀ base:Heap,(K w.params).In base->base.Ns mainGlobals mg->FnOk l.prog w (K w.params) mg base CX0 20 fa fd ["script"] (spLaw (K w.params))):
  PySem.W.WalkO q loose XP YP l.row.toRowW d [] (fun f vs=>PySem.call f vs):=
 L2.walk_of (n:=63) (k:=20) (x:= "script") (CX:=fun _=>CX0) (sp:=fun w=>spLaw (K w.params)) hn (by decide) hdf ⟨rfl,by decide,by decide⟩ hY F (fun _ _ a ns hl _ hS=>⟨a,ns,rfl,hS,hl,fun _=>rfl⟩) fun _ _ _ _ _ z=>z
end Eo
open PySem PySem.W PyProof.Rows
set_option maxRecDepth 100000 in
set_option maxHeartbeats 0 in
theorem PySem.Challenge.cw_eachonce_k44_whole_never_both_holds : PySem.Challenge.rw_eachonce_k44_whole_never_both.Holds := by
 w_on
 refine holds_law (by decide+kernel) fun said=>?_
 refine holds_open (q:=Eo.vw) (loose:=[]) (Xt:=fun s=>xlAt Eo.vw [] s&&recOk (RowW.records (OpenRow.toRowW PySem.Challenge.rw_eachonce_k44_whole_never_both.row)) s) (XP:=XL Eo.vw []) (Yf:=Hook.obs Eo.kH) (Ya:=Hook.val Eo.kH) (YP:=Hook.says Eo.kH) (N:=6900) Eo.left (Hook.of Eo.kH) (Hook.keeps Eo.kH) (fun s e=>xl_of s (gw.mp e).1) XL.keeps (by rfl) (by rfl) (by rfl) (fun s e=>recFacts_of (gw.mp e).2) rfl said (by decide+kernel) ⟨rfl,rfl,rfl,rfl,rfl,by decide+kernel⟩ ?hw ?hc
 case hw=>w_witness2
 refine Eo.walk (l:=PySem.Challenge.rw_eachonce_k44_whole_never_both) (K:=Eo.kK) rfl rfl (fun w h Y=>kIn_of Y) ?F
 case F=>
  intro w mg fa h KX G hmg
  k_fill
  refine' Eo.all_mk KX G hmg _ _ _ _ _ _ _ _ _ _ _ _ _ _ _ _ _ _ _ _ _ _ _ _ _ _ _ _ _ _ _ _ _ _ _ _ _ _ _ _ _ _ _ _ _ _ _ _ _ _ _ _ _ _ _ _ _ _ _ _ _ _ _ _ _ _ _ _ _ _ _ _ _ _ _ _ _ _ _ _ _ _ _ _ _ _ _ _ _ _ _ _ _ _ _ _ _ _ _ _ _ _ _ _ _ _ _ _ _ _ _ _ _ _ _ _ _ _ _ _ _ _ _ _ _ _ _
  all_goals try k_is
end
