import PyProof.Rows.All
import KE.KDictList
import KE.KDictOf
import KE.KFromBytes
import KE.KIsAll
import KE.KItem
import KE.KLam
import KE.KNestM
import PySem.Challenge.RW_eachonce_k16_whole_great_counts
noncomputable section
set_option Elab.async false
set_option linter.all false
set_option maxRecDepth 100000
def aa:=@List.length_map
def ae:=@List.getElem?_eq_some_iff
def af:=@if_neg
def ag:=@if_pos
def ah:=@PySem.wpAny_bind
def aj:=@List.getElem?_eq_getElem
def ak:=@Bool.false_ne_true
def am:=@PySem.Heap.get?_push_of_some
def ao:=@List.mem_of_getElem?
def aq:=@List.mem_cons_of_mem
def ar:=@List.length_append
def aw:=@PyProof.Rows.wpS_bind
def ax:=@List.mem_append
def ay:=@List.mem_singleton
def az:=@Nat.le_refl
def aA:=@List.getElem?_map
def aB:=@List.getD_eq_getElem?_getD
def aC:=@PyProof.Rows.wpS_pure
def aE:=@List.append_assoc
def aF:=@List.size_toArray
def aG:=@decide_eq_true
def aH:=@List.mem_cons_self
def aI:=@PySem.sizeLine_eq
def aJ:=@List.mem_append_right
def aK:=@List.map_append
def aL:=@PySem.Heap.lt_size
def aM:=@decide_eq_false
def aN:=@List.mem_map
def aO:=@of_decide_eq_true
def aP:=@List.mem_append_left
def aQ:=@PySem.Heap.get?_push_size
def aR:=@List.mem_cons
def aS:=@Int.toNat_natCast
def aU:=@Array.length_toList
def aV:=@PySem.wpAny_pure
def aW:=@Option.some.inj
def aX:=@List.getElem?_append_right
def aY:=@List.length_take
def aZ:=@PySem.W.mg_none_of
def ba:=@List.map_cons
def bb:=@PySem.F.plainAttrs_list
def be:=@Nat.lt_of_lt_of_le
def bf:=@decide_eq_true_iff
def bg:=@List.append_nil
def bh:=@Array.toList_append
def bo:=@List.take_add_one
def bq:=@List.length_cons
def br:=@List.take_append_drop
def bu:=@Nat.ne_of_lt
def bv:=@List.map_map
def bw:=@List.lookup_cons
def bx:=@List.map_congr_left
def bA:=@Nat.testBit_two_pow_sub_one
def bB:=@PySem.PassesOwn.never
def bC:=@Nat.testBit_or
def bD:=@Nat.le_trans
def bE:=@List.all_eq_true
def bF:=@Classical.byContradiction
def bG:=@List.take_of_length_le
def bH:=@Nat.zero_le
def bI:=@List.take_length
def bJ:=@Bool.eq_iff_iff
def bK:=@List.getElem?_append_left
def bL:=@PyProof.Rows.wpS_forRange
def bM:=@List.perm_append_comm
def bN:=@List.mem_range
def bO:=@Bool.and_eq_true
def bP:=@Nat.zero_testBit
def bQ:=@congrArg
def bR:=@List.mem_of_mem_take
def bS:=@Nat.pow_le_pow_right
def bU:=@List.pairwise_iff_getElem
def bV:=@Ne.symm
def bW:=@List.getElem?_take_of_lt
def bX:=@List.mem_map_of_mem
def bY:=@Array.getElem?_toList
def bZ:=@Nat.add_sub_cancel_left
def b0:=@PySem.wpAny_mono
def cc:=@Nat.mod_two_eq_zero_or_one
def ce:=@List.mem_filter
def cf:=@PySem.W.kia_one
def cg:=@List.not_mem_nil
def ci:=@Int.le_of_lt
def cj:=@List.replicate_succ
def ck:=@Nat.testBit_two_pow
def cm:=@List.Perm.append_left
def cq:=@List.getElem?_eq_none
def cr:=@List.nodup_cons
def cw:=@List.getElem?_of_mem
def cx:=@decide_eq_false_iff_not
def cy:=@Nat.eq_of_testBit_eq
def cz:=@List.idxOf_lt_length_of_mem
def cA:=@List.sum_cons
def cB:=@List.take_sublist
def cC:=@List.pairwise_map
def cD:=@beq_eq_false_iff_ne
def cE:=@PySem.mem_of_lookup
def cF:=@List.length_take_le
def cG:=@PySem.wpAny_loadPart'
def cH:=@Nat.testBit_and
def cI:=@List.length_singleton
def cJ:=@PySem.wpAny_holding
def cK:=@Nat.add_zero
def cL:=@PyProof.Rows.wpS_mono
def cM:=@List.pairwise_append
def cN:=@Int.le_refl
def cO:=@Array.toList_reverse
def cP:=@List.pairwise_singleton
def cQ:=@Nat.two_pow_pos
def cR:=@PyProof.Rows.callWith_type1
def cS:=@Int.le_trans
def cU:=@Nat.lt_irrefl
def cV:=@List.filter_append
def cW:=@Array.perm_iff_toList_perm
def cX:=@List.mem_replicate
def cY:=@List.length_filter_le
def cZ:=@List.extract_eq_take_drop
def da:=@PySem.wpAny_passesOwn
def dc:=@PySem.wpAny_truthy_bool
def de:=@PySem.wpAny_field
def df:=@List.nodup_append
def dh:=@List.length_range
def di:=@Bool.or_eq_false_iff
def dk:=@List.Pairwise.imp_of_mem
def dm:=@PySem.F.slot_list_append
def dn:=@PySem.F.type_list_append
def dq:=@List.getElem?_range
def dv:=@PySem.wpAny_callSpecial?_slot
def dw:=@List.mem_singleton_self
def dy:=@PySem.wpAny_Call_Name_kw
def dz:=@List.pairwise_cons
def dA:=@PySem.wpAny_setField_rec
def dB:=@PyProof.Rows.wpS_modify
def dC:=@List.of_mem_zip
def dD:=@List.find?_cons
def dE:=@PySem.wpAny_pyIter_list
def dF:=@List.flatten_cons
def dG:=@Array.toList_push
def dH:=@Bool.not_eq_true'
def dI:=@List.ext_getElem?
def dJ:=@PySem.call_meets
def dM:=@Bool.and_false
def dN:=@PySem.wpAny_rule
def dO:=@List.mem_of_mem_drop
def dP:=@List.perm_append_singleton
def dQ:=@List.getElem_mem
def dR:=@Nat.testBit_zero
def dS:=@List.getLastD_eq_getLast?
def dU:=@List.getLast?_eq_getElem?
def dW:=@List.reverse_append
def dX:=@PySem.F.slot_list_extend
def dY:=@PySem.F.type_list_extend
def dZ:=@List.length_nil
def ed:=@Nat.not_lt_zero
def eg:=@List.range_succ
def eh:=@List.getElem?_drop
def ek:=@of_decide_eq_false
def em:=@List.getElem_idxOf
def ev:=@List.getElem?_replicate
def eB:=@List.filter_cons_of_neg
def eC:=@List.filter_cons_of_pos
def eD:=@PySem.W.cellsFrom_some
def eE:=@PySem.Heap.get?_update_other
def eF:=@PySem.wpAny_newObj_type
def eG:=@List.drop_zero
def eI:=@or_false
def eJ:=@List.Perm.append_right
def eL:=@Nat.lt_or_ge
def eM:=@List.nodup_nil
def eO:=@List.Pairwise.and
def eQ:=@List.Perm.refl
def eR:=@PySem.wpAny_call_entry
def eS:=@PySem.wpAny_standAt
def eT:=@List.any_cons
def eU:=@PySem.W.mg_of
def eV:=@Array.toList_extract
def eW:=@List.eq_nil_of_length_eq_zero
def eX:=@Bool.and_eq_true_iff
def eY:=@PySem.wpAny_execs_nil
def eZ:=@List.Perm.of_eq
def fb:=@Int.natCast_mul
def fc:=@List.filterMap_cons
def fe:=@Nat.le_of_lt
def ff:=@Nat.ne_of_gt
def fg:=@PySem.codeAny_mono
def fh:=@PyProof.Rows.wpS_get
def fi:=@Bool.or_true
def fj:=@PySem.Calls.Name_function_global
def fk:=@Bool.false_and
def fm:=@Int.natCast_nonneg
def fo:=@Int.fdiv_eq_ediv_of_nonneg
def fq:=@PySem.wpAny_newFunctionEnv_cells
def fr:=@PySem.Heap.size_push
def ft:=@PySem.tupleKind_room_in1
def fu:=@List.drop_drop
def fw:=@Array.toList_setIfInBounds
def fz:=@List.perm_ext_iff_of_nodup
def fD:=@List.drop_eq_getElem_cons
def fE:=@Nat.lt_pow_two_of_testBit
def fH:=@List.exists_mem_of_ne_nil
def fJ:=@Nat.lt_succ_of_lt
def fK:=@Nat.or_lt_two_pow
def fO:=@decide_eq_true_eq
def fQ:=@List.getElem?_set
def fS:=@List.flatMap_cons
def fU:=@List.all_cons
def fX:=@Bool.false_or
def fY:=@Bool.true_and
def fZ:=@List.map_take
def ga:=@PySem.F.slot_list_insert
def gc:=@PySem.F.type_list_insert
def gf:=@List.length_drop
def gh:=@List.countP_cons
def gj:=@PySem.F.plain_list_iadd
def gk:=@PyProof.Rows.wpS_lift
def gq:=@List.length_eq_zero_iff
def gt:=@List.filter_cons
def gu:=@PySem.F.slot_list_count
def gw:=@PySem.F.type_list_count
def gx:=@Nat.succ_ne_zero
def gy:=@PySem.F.slot_list_index
def gz:=@PySem.F.type_list_index
def gA:=@List.getElem?_set_self
def gB:=@List.map_nil
def gC:=@List.drop_eq_nil_of_le
def gE:=@Nat.sub_self
def gF:=@Nat.testBit_lt_two_pow
def gG:=@Nat.zero_add
def gH:=@List.nil_append
def gI:=@List.sum_append
def gJ:=@List.filter_nil
def gK:=@and_congr_right
def gL:=@Int.natCast_add
def gM:=@List.length_replicate
def gN:=@List.set_append_right
def gO:=@Sum.inl.inj
def gP:=@List.getElem?_set_ne
def gQ:=@PySem.sizeLine_eq
def gR:=@Nat.le_succ
def gS:=@Array.toArray_toList
def gU:=@Nat.pow_lt_pow_right
def gW:=@List.reverse_reverse
def gX:=@List.take_zero
def gY:=@List.Pairwise.filter
def gZ:=@Nat.add_le_add
def g0:=@List.getElem_of_mem
def g4:=@PySem.W.codeHd_of_K
def g5:=@List.flatMap_append
def g6:=@List.map_eq_nil_iff
def g7:=@List.mem_filterMap
def g8:=@PySem.W.codeRec_of
def g9:=@Nat.lt_of_le_of_lt
def hG:=@Bool.false_eq_true
def hV:=@List.zip_cons_cons
def hZ:=@beq_iff_eq
def h9:=@Nat.and_one_is_mod
def ic:=@Nat.add_comm
def ie:=@Bool.true_or
def ig:=@Nat.sub_zero
def ik:=@Nat.zero_mul
def im:=@List.map_id
def io:=@if_true
def iq:=@if_false
open PySem.W (codeHdIn envX findIn instObj keepIn kitOne kitx_dict kitx_list kla_obj lookIn methodObj mg_of mroIn plainGet tabObj)
open List (all_map replicate)
open Nat (strongRecOn)
open Option (getD_none isSome_map)
section
namespace L2
open PySem PySem.Spec PyProof.Rows
def jF (s:Stmt):Arguments:=match s with
 | .FunctionDef _ a _ _ _ _ _ _ _ _=>a
 | _=> { posonlyargs:=[],args:=[],vararg:=none,kwonlyargs:=[],kw_defaults:=[],kwarg:=none,defaults:=[]}
def jB (s:Stmt):List Stmt:=match s with
 | .FunctionDef _ _ b _ _ _ _ _ _ _=>b
 | _=> []
def j7 (s:Stmt):Scope:=match s with
 | .FunctionDef _ _ _ _ _ _ sc _ _ _=>sc
 | _=> { kind:= .function,names:=[],isGenerator:=false,isCoroutine:=false}
end L2
end
section
namespace Eo
open PySem L2
noncomputable def top (i:Nat):Stmt:=PySem.Challenge.pw_eachonce_k16_whole_great_counts.main.body.getD i (.Pass ⟨0,0,0,0⟩)
abbrev jAK:Stmt:=top 4
abbrev y3:Stmt:=top 5
abbrev jBB:Stmt:=top 6
abbrev sMask:Stmt:=top 7
abbrev sCov:Stmt:=top 9
abbrev sRank:Stmt:=top 10
abbrev jZ:Stmt:=top 11
abbrev sFull:Stmt:=top 12
abbrev sAt:Stmt:=top 13
abbrev sMet:Stmt:=top 14
abbrev yO:Stmt:=top 15
abbrev yK:Stmt:=top 16
abbrev sMany:Stmt:=top 17
abbrev yL:Stmt:=top 18
abbrev jBC:Stmt:=top 19
abbrev jB9:Stmt:=top 20
abbrev jBA:Stmt:=top 21
abbrev sCell:Stmt:=top 23
abbrev sPot:Stmt:=top 24
abbrev sTake:Stmt:=top 25
abbrev y9:Stmt:=top 26
abbrev sLaw:Stmt:=top 27
noncomputable def kC (x:Str)(t:Nat)(l n:Int)(a:Nat)(X Y:Value)(z:Nat)(u:Int)(v:Nat):Obj:=⟨.type "code",none, .fields #[.str x t, .str x (t+1), .str "/claim/cut.py" (t+2), .int l 0, .int n 0, .int 0 0, .int 0 0, .int 3 0, .ref a, .bool true, .int 181 0, .ref (a+1), .none,X,Y, .ref z, .int u 0, .int l 0, .str "/claim/cut.py" v],#[]⟩
noncomputable def kF (x:Str)(s:Stmt)(m:Str)(t c:Nat):Obj:=⟨.type "function",none, .func (PySem.W.fnOf x x (jF s) (jB s) (j7 s) .none .none .none (.str m t) none (.ref c) .none),#[]⟩
noncomputable def kM (P:Params):Obj:=
 let e (x:Str) (t:Nat) (v:Value):DictEntry:=⟨PyData.keyHash P x, .str x t,v⟩
 ⟨.type "dict",none, .dict #[e "__name__" 165 (.str "law_eachonce_k16_whole_great_counts" 362),e "__doc__" 166 (.none),e "__package__" 167 (.none),e "__loader__" 168 (.builtin "__main__.__loader__#opaque"),e "__spec__" 169 (.none),e "__annotations__" 170 (.ref 6),e "__builtins__" 171 (.ref 4),e "__file__" 173 (.str "/claim/cut.py" 172),e "__cached__" 174 (.none),e "OnceError" 206 (.ref 24),e "NoCovering" 222 (.ref 37),e "is_whole" 231 (.ref 46),e "is_rising" 237 (.ref 51),e "is_lot" 245 (.ref 58),e "mask_of" 251 (.ref 63),e "is_covering" 259 (.ref 68),e "rank_of" 270 (.ref 75),e "choices_of" 276 (.ref 80),e "full_mask" 283 (.ref 87),e "choices_at" 289 (.ref 92),e "masks_met" 302 (.ref 99),e "gathered" 308 (.ref 104),e "ways_of" 315 (.ref 111),e "many" 322 (.ref 118),e "covering_along" 328 (.ref 123),e "covering_at" 338 (.ref 130),e "place_of" 352 (.ref 137),e "number_of" 361 (.ref 144),e "_law_cell_at" 371 (.ref 151),e "_law_pot" 381 (.ref 158),e "_law_take" 390 (.ref 165),e "_law_block" 405 (.ref 172),e "law" 411 (.ref 177)] 33,#[]⟩
noncomputable def kK (P:Params):W.Frag:=(nat_lit 3,kM P)::(nat_lit 4,⟨.type "module",some 0, .plain,#[]⟩)::(nat_lit 45,kC "is_whole" 225 7 1 40 (.ref 42) (.ref 43) 44 229 230)::(nat_lit 46,kF "is_whole" jAK "eachonce.kinds" 223 45)::(nat_lit 50,kC "is_rising" 232 9 1 47 (.none) (.none) 49 235 236)::(nat_lit 51,kF "is_rising" y3 "eachonce.kinds" 223 50)::(nat_lit 57,kC "is_lot" 238 15 2 52 (.ref 54) (.ref 55) 56 243 244)::(nat_lit 58,kF "is_lot" jBB "eachonce.kinds" 223 57)::(nat_lit 62,kC "mask_of" 246 19 1 59 (.none) (.none) 61 249 250)::(nat_lit 63,kF "mask_of" sMask "eachonce.kinds" 223 62)::(nat_lit 67,kC "is_covering" 254 22 2 64 (.none) (.none) 66 257 258)::(nat_lit 68,kF "is_covering" sCov "eachonce.coverings" 252 67)::(nat_lit 74,kC "rank_of" 260 29 2 69 (.ref 71) (.ref 72) 73 268 269)::(nat_lit 75,kF "rank_of" sRank "eachonce.coverings" 252 74)::(nat_lit 79,kC "choices_of" 271 35 1 76 (.none) (.none) 78 274 275)::(nat_lit 80,kF "choices_of" jZ "eachonce.coverings" 252 79)::(nat_lit 86,kC "full_mask" 277 40 1 81 (.ref 83) (.ref 84) 85 281 282)::(nat_lit 87,kF "full_mask" sFull "eachonce.coverings" 252 86)::(nat_lit 91,kC "choices_at" 284 42 2 88 (.none) (.none) 90 287 288)::(nat_lit 92,kF "choices_at" sAt "eachonce.coverings" 252 91)::(nat_lit 98,kC "masks_met" 290 45 1 93 (.ref 95) (.ref 96) 97 300 301)::(nat_lit 99,kF "masks_met" sMet "eachonce.coverings" 252 98)::(nat_lit 103,kC "gathered" 303 57 3 100 (.none) (.none) 102 306 307)::(nat_lit 104,kF "gathered" yO "eachonce.coverings" 252 103)::(nat_lit 110,kC "ways_of" 309 66 1 105 (.ref 107) (.ref 108) 109 313 314)::(nat_lit 111,kF "ways_of" yK "eachonce.coverings" 252 110)::(nat_lit 117,kC "many" 316 68 1 112 (.ref 114) (.ref 115) 116 320 321)::(nat_lit 118,kF "many" sMany "eachonce.coverings" 252 117)::(nat_lit 122,kC "covering_along" 323 70 3 119 (.none) (.none) 121 326 327)::(nat_lit 123,kF "covering_along" yL "eachonce.coverings" 252 122)::(nat_lit 129,kC "covering_at" 329 81 2 124 (.ref 126) (.ref 127) 128 336 337)::(nat_lit 130,kF "covering_at" jBC "eachonce.coverings" 252 129)::(nat_lit 136,kC "place_of" 339 87 3 131 (.ref 133) (.ref 134) 135 350 351)::(nat_lit 137,kF "place_of" jB9 "eachonce.coverings" 252 136)::(nat_lit 143,kC "number_of" 353 98 2 138 (.ref 140) (.ref 141) 142 359 360)::(nat_lit 144,kF "number_of" jBA "eachonce.coverings" 252 143)::(nat_lit 150,kC "_law_cell_at" 364 104 2 145 (.ref 147) (.ref 148) 149 369 370)::(nat_lit 151,kF "_law_cell_at" sCell "law_eachonce_k16_whole_great_counts" 362 150)::(nat_lit 157,kC "_law_pot" 372 108 1 152 (.ref 154) (.ref 155) 156 379 380)::(nat_lit 158,kF "_law_pot" sPot "law_eachonce_k16_whole_great_counts" 362 157)::(nat_lit 164,kC "_law_take" 382 117 2 159 (.ref 161) (.ref 162) 163 388 389)::(nat_lit 165,kF "_law_take" sTake "law_eachonce_k16_whole_great_counts" 362 164)::(nat_lit 171,kC "_law_block" 391 121 3 166 (.ref 168) (.ref 169) 170 403 404)::(nat_lit 172,kF "_law_block" y9 "law_eachonce_k16_whole_great_counts" 362 171)::(nat_lit 176,kC "law" 406 135 1 173 (.none) (.none) 175 409 410)::(nat_lit 177,kF "law" sLaw "law_eachonce_k16_whole_great_counts" 362 176)::[]
noncomputable def kA:List Addr:=[3,4,45,46,50,51,57,58,62,63,67,68,74,75,79,80,86,87,91,92,98,99,103,104,110,111,117,118,122,123,129,130,136,137,143,144,150,151,157,158,164,165,171,172,176,177]
noncomputable def vw:Program:= { PySem.Challenge.pw_eachonce_k16_whole_great_counts with main:= { PySem.Challenge.pw_eachonce_k16_whole_great_counts.main with body:=[top 1,top 2,top 4,top 5,top 6,top 7,top 9,top 10,top 11,top 12,top 13,top 14,top 15,top 16,top 17,top 18,top 19,top 20,top 21,top 23,top 24,top 25,top 26,top 27]}}
theorem kA_eq:∀ P,kA=(kK P).map (·.1):=fun _=>by kernel_rfl
noncomputable abbrev kH:PySem.W.Hook:=PySem.W.kmHook kK kA kA_eq [106]
set_option maxHeartbeats 0 in
theorem left:PySem.W.LeftO PySem.Challenge.rw_eachonce_k16_whole_great_counts.prog vw [] (fun s=>PySem.W.xlAt vw [] s&&PySem.W.recOk (PySem.W.RowW.records (PySem.W.OpenRow.toRowW PySem.Challenge.rw_eachonce_k16_whole_great_counts.row)) s) (PySem.W.Hook.obs kH) (PySem.W.Hook.val kH) 2500:=fun w=>by kernel_rfl
end Eo
end
section
namespace L2
open PySem PySem.Spec PyProof.Rows
abbrev Key:=Sum Int Str
def keyIs:Key->Value->Bool
 | .inl k,v=>Value.isInt k v
 | .inr x,v=>Value.isStrOf x v
def keyH (w:World):Key->Int
 | .inl k=>hashInt k
 | .inr x=>hashStr w x
theorem jA1:∀ {k:Key}{v:Value},keyIs k v=true->(∃ i t,k=Sum.inl i/\v=Value.int i t)\/(∃ x t,k=Sum.inr x/\v=Value.str x t)
 | .inl i,v,h=>by
  obtain⟨t,e⟩:=Value.isInt_shape (k:=i) (v:=v) h
  exact .inl ⟨i,t,rfl,e⟩
 | .inr x,v,h=>by
  obtain⟨t,e⟩:=Value.isStrOf_shape (x:=x) (v:=v) h
  exact .inr ⟨x,t,rfl,e⟩
theorem jJ7 (i:Int)(t:Tok):keyIs (.inl i) (.int i t)=true:=by simp [keyIs,Value.isInt]
theorem jJ6 (x:Str)(t:Tok):keyIs (.inr x) (.str x t)=true:=by simp [keyIs,Value.isStrOf]
theorem jPR (a b:Int):decide ((Sum.inl a:Key)=Sum.inl b)=(a==b):=by
 by_cases e:a=b
 ·subst e; simp
 ·have h:¬ (Sum.inl a:Key)=Sum.inl b:=fun q=>e (gO q)
  rw[aM h]
  exact(cD.mpr e).symm
theorem jPO (a b:Str):decide ((Sum.inr a:Key)=Sum.inr b)=decide (a=b):=by
 by_cases e:a=b
 ·subst e; simp
 ·have h:¬ (Sum.inr a:Key)=Sum.inr b:=fun q=>e (Sum.inr.inj q)
  rw[aM h,aM e]
theorem jPQ (a:Int)(b:Str):decide ((Sum.inl a:Key)=Sum.inr b)=false:=aM (fun q=>nomatch q)
theorem jPP (a:Str)(b:Int):decide ((Sum.inr a:Key)=Sum.inl b)=false:=aM (fun q=>nomatch q)
def kD (prog:Program)(w:World):PySem.KeyKind prog w Key where
 is:=keyIs
 hash:=keyH w
 inj:=fun v a b ha hb=>by
  rcases jA1 ha with ⟨i,t,rfl,rfl⟩ | ⟨x,t,rfl,rfl⟩
  ·rcases jA1 hb with ⟨j,u,rfl,e⟩ | ⟨y,u,rfl,e⟩
   ·injection e with e1 _; rw[e1]
   ·exact nomatch e
  ·rcases jA1 hb with ⟨j,u,rfl,e⟩ | ⟨y,u,rfl,e⟩
   ·exact nomatch e
   ·injection e with e1 _; rw[e1]
 byValue:=fun k v h=>by
  rcases jA1 h with ⟨i,t,rfl,rfl⟩ | ⟨x,t,rfl,rfl⟩ <;> rfl
 pyHash:=fun hv h=>by
  rcases jA1 hv with ⟨i,t,rfl,rfl⟩ | ⟨x,t,rfl,rfl⟩
  ·exact wpAny_pyHash_int h
  ·exact wpAny_pyHash_str h
 eqBool:=fun hu hv h=>by
  rcases jA1 hu with ⟨i,t,rfl,rfl⟩ | ⟨x,t,rfl,rfl⟩
  ·rcases jA1 hv with ⟨j,u,rfl,rfl⟩ | ⟨y,u,rfl,rfl⟩
   ·rw[jPR] at h; exact wpAny_eqBool_int h
   ·rw[jPQ] at h; exact SeqAt.EqAt.int_str i t y u _ _ _ _ h
  ·rcases jA1 hv with ⟨j,u,rfl,rfl⟩ | ⟨y,u,rfl,rfl⟩
   ·rw[jPP] at h; exact SeqAt.EqAt.str_int x t j u _ _ _ _ h
   ·rw[jPO] at h; exact wpAny_eqBool_str h
 «strs»:=fun k x t v h=>by
  rcases jA1 h with ⟨i,u,rfl,e⟩ | ⟨y,u,rfl,e⟩
  ·exact nomatch e
  ·injection e with e1 _
   subst e1
   cases v <;> rfl
theorem jFW (prog:Program)(w:World)(i:Int)(t:Tok):(kD prog w).is (.inl i) (.int i t)=true:=jJ7 i t
theorem jFV (prog:Program)(w:World)(x:Str)(t:Tok):(kD prog w).is (.inr x) (.str x t)=true:=jJ6 x t
end L2
namespace L2
open PySem PySem.Spec PyProof.Rows
inductive V where
 | non | bl (b:Bool) | int (i:Int) | str (x:Str) | byt (b:Array UInt8) | flt (b:UInt64) | ref (a:Addr) | ty (n:String)
 deriving DecidableEq
def RelV:V->Value->Prop
 | .non,u=>u=Value.none
 | .bl b,u=>u=Value.bool b
 | .int i,u=>∃ t,u=Value.int i t
 | .str x,u=>∃ t,u=Value.str x t
 | .byt b,u=>∃ t,u=Value.bytes b t
 | .flt b,u=>∃ t,u=Value.float b t
 | .ref a,u=>u=Value.ref a
 | .ty n,u=>u=Value.type n
abbrev Vals:List V->List Value->Prop:=Paired RelV
theorem Vals.length {xs:List V}{us:List Value}(r:Vals xs us):xs.length=us.length:=Paired.length r
theorem Vals.get:∀ {xs:List V}{us:List Value}{i:Nat}{x:V},Vals xs us->xs[i]?=some x->∃ u,us[i]?=some u/\RelV x u
 | _,_,_,_, .nil,e=>by simp at e
 | _,_,0,_, .cons r _,e=>by simp at e; subst e; exact⟨_,rfl,r⟩
 | _,_,i+1,x, .cons _ t,e=>by
  obtain⟨u,h1,h2⟩:=Vals.get (i:=i) (x:=x) t (by simpa using e)
  exact⟨u,by simpa using h1,h2⟩
theorem Vals.set {x:V}{u:Value}(r:RelV x u):∀ {xs:List V}{us:List Value}(i:Nat),Vals xs us->Vals (xs.set i x) (us.set i u)
 | _,_,_, .nil=> .nil
 | _,_,0, .cons _ t=> .cons r t
 | _,_,i+1, .cons q t=> .cons q (Vals.set r i t)
theorem Vals.append:∀ {xs ys:List V}{us ws:List Value},Vals xs us->Vals ys ws->Vals (xs++ys) (us++ws)
 | _,_,_,_, .nil,s=>s
 | _,_,_,_, .cons r t,s=> .cons r (Vals.append t s)
theorem Vals.take:∀ {xs:List V}{us:List Value}(n:Nat),Vals xs us->Vals (xs.take n) (us.take n)
 | _,_,0,_=> .nil
 | _,_,_+1, .nil=> .nil
 | _,_,n+1, .cons r t=> .cons r (Vals.take n t)
theorem Vals.drop:∀ {xs:List V}{us:List Value}(n:Nat),Vals xs us->Vals (xs.drop n) (us.drop n)
 | _,_,0,r=>r
 | _,_,_+1, .nil=> .nil
 | _,_,n+1, .cons _ t=>Vals.drop n t
def RelO:Option V->Option Value->Prop
 | some v,some u=>RelV v u
 | none,none=>True
 | _,_=>False
def KV {κ:Type} :List (κ×V)->List (κ×Value)->Prop:=Paired fun (p:κ×V) (q:κ×Value)=>p.1=q.1/\RelV p.2 q.2
noncomputable def kV:Key->V
 | .inl i=> .int i
 | .inr x=> .str x
def TupO (h:Heap)(a:Addr)(items:Array Value):Prop:=∃ n,h.get? a=some { cls:= .type "tuple",data:= .seq items n}
theorem TupO.isTup {h:Heap}{a:Addr}{items:Array Value}(x:TupO h a items):IsTup h a items:=let ⟨n,e⟩:=x; ⟨_,e,rfl,n,rfl⟩
theorem TupO.new (h:Heap)(items:Array Value):TupO (h.push { cls:= .type "tuple",data:= .seq items}) h.objs.size items:=⟨0,aQ _ rfl⟩
inductive HO where
  | lst (xs:List V)
  | tup (xs:List V)
  | dK (kvs:List (Key×V)) | dT (kvs:List (List Key×V))
  | set (S:Int->Bool) (n:Nat)
  | ins (C dx:Addr) (fs:List (Str×V))
  | own (x:Addr)
  | xd (fs:List (Str×V))
  | met (f x:Addr)
  | rng (lo hi:Int)
  | frz (o:Obj) (u:HO)
  | tbl (ps:Array Value)
  | ext (φ:Heap->Prop)
abbrev Hp:=Addr->Option HO
def upd (H:Hp)(a:Addr)(o:HO):Hp:=fun b=>if b=a then some o else H b
theorem j8 {H:Hp}{a:Addr}{o:HO} :upd H a o a=some o:=by unfold upd; rw[ag rfl]
theorem jA {H:Hp}{a b:Addr}{o:HO}(h:b≠a):upd H a o b=H b:=by unfold upd; rw[af h]
theorem ne_of {H:Hp}{a b:Addr}{o u:HO}(h:H a=some o)(h':H b=some u)(d:o≠u):a≠b:=by
 intro e; subst e; rw[h] at h'; exact d (aW h')
theorem jD {H:Hp}{a b:Addr}{o:HO}(h:H a=some o)(h':H b=none):a≠b:=by
 intro e; subst e; rw[h] at h'; cases h'
section
variable (P:Program)(w:World)
def ObjOk (H:Hp)(h:Heap)(a:Addr):HO->Prop
 | .lst xs=>xs.length<=sizeLine/\∃ (its:List Value) (n:Nat),Vals xs its/\h.get? a=some { cls:= .type "list",data:= .seq its.toArray n}
 | .tup xs=>xs.length<=sizeLine/\∃ its:List Value,Vals xs its/\TupO h a its.toArray
 | .dK kvs=>kvs.length<=sizeLine/\(a==sysModules)=false/\∃ vs,KV kvs vs/\h.DictOf (kD P w) a vs
 | .dT kvs=>kvs.length<=sizeLine/\(a==sysModules)=false/\∃ xs:List (List Key×Addr×Value),
   Paired (fun (p:List Key×V) (q:List Key×Addr×Value)=>p.1=q.1/\H q.2.1=some (.tup (p.1.map kV))/\RelV p.2 q.2.2) kvs xs/\
   ∃ o es ep,h.get? a=some o/\o.ExactDict/\o.data= .dict es ep/\es.toList=xs.map (entryOfKey (tupleKind (kD P w)))/\(xs.map (·.1)).Nodup
 | .set S n=>h.SetOf (intKind P w) a S n
 | .ins C dx fs=>H dx=some (.own a)/\fs.length<=1000/\dx≠a/\h.get? a=some (instObj C dx)/\
   ∃ mA,h.Ns1 dx mA/\(∀ f,RelO (fs.lookup f) (mA f))/\PySem.Within mA (fs.map (·.1))
 | .own _=>∃ o,h.get? a=some o
 | .xd fs=>∃ mA,h.Ns1 a mA/\∀ f,RelO (fs.lookup f) (mA f)
 | .rng lo hi=>∃ t u v,h.get? a=some { cls:= .type "range",data:= .fields #[.int lo t, .int hi u, .int 1 v]}
 | .frz o u=>h.get? a=some o/\ObjOk H h a u
 | .tbl ps=>h.get? a=some { cls:= .none,data:= .fields ps}
 | .met f x=>h.get? a=some (methodObj (.ref f) (.ref x))
 | .ext φ=>φ h/\(∃ o,h.get? a=some o)/\∀ h1 h2:Heap,φ h1->(∀ o,h1.get? a=some o->h2.get? a=some o)->φ h2
def HOk (H:Hp)(h:Heap):Prop:=∀ a o,H a=some o->ObjOk P w H h a o
end
section
variable {P:Program}{w:World}{H H':Hp}{h h':Heap}{a:Addr}{o:HO}
theorem ObjOk.lt (x:ObjOk P w H h a o):a<h.objs.size:=by
 cases o with
 | lst xs=>obtain⟨_,_,_,_,e⟩:=x; exact aL e
 | tup xs=>obtain⟨_,_,_,_,e⟩:=x; exact aL e
 | dK kvs=>obtain⟨_,_,_,_,o,_,_,e,_⟩:=x; exact aL e
 | dT kvs=>obtain⟨_,_,_,_,o,_,_,e,_⟩:=x; exact aL e
 | set S n=>obtain⟨o,_,_,_,e,_⟩:=x; exact aL e
 | ins C dx fs=>obtain⟨_,_,_,e,_⟩:=x; exact aL e
 | own y=>obtain⟨_,e⟩:=x; exact aL e
 | xd fs=>obtain⟨_,⟨_,_,_,e,_⟩,_⟩:=x; exact aL e
 | rng lo hi=>obtain⟨_,_,_,e⟩:=x; exact aL e
 | frz ob u=>obtain⟨e,_⟩:=x; exact aL e
 | tbl ps=>exact aL (show h.get? a=some _ from x)
 | met f y=>exact aL (show h.get? a=some _ from x)
 | ext φ=>obtain⟨_,⟨_,e⟩,_⟩:=x; exact aL e
theorem Paired.mapP {α β:Type}{F G:α->β->Prop} :∀ {l₁:List α}{l₂:List β},Paired F l₁ l₂->(∀ a b,F a b->G a b)->Paired G l₁ l₂
 | _,_, .nil,_=> .nil
 | _,_, .cons r t,f=> .cons (f _ _ r) (Paired.mapP t f)
theorem ObjOk.stay (x:ObjOk P w H h a o)(k:∀ b u,(b=a\/H b=some (.own a))->h.get? b=some u->h'.get? b=some u)
  (ho:∀ b,H b=some (.own a)->H' b=some (.own a)) (ht:∀ b xs,H b=some (.tup xs)->H' b=some (.tup xs)):ObjOk P w H' h' a o:=by
 induction o with
 | lst xs=>obtain⟨z,its,n,r,e⟩:=x; exact⟨z,its,n,r,k _ _ (.inl rfl) e⟩
 | tup xs=>obtain⟨z,its,r,n,e⟩:=x; exact⟨z,its,r,n,k _ _ (.inl rfl) e⟩
 | dK kvs=>obtain⟨z,y,vs,r,ob,es,ep,e,c⟩:=x; exact⟨z,y,vs,r,ob,es,ep,k _ _ (.inl rfl) e,c⟩
 | dT kvs=>
  obtain⟨z,y,xs,r,ob,es,ep,e,c⟩:=x
  exact⟨z,y,xs,Paired.mapP r fun p q z=>⟨z.1,ht _ _ z.2.1,z.2.2⟩,ob,es,ep,k _ _ (.inl rfl) e,c⟩
 | set S n=>obtain⟨ob,es,ep,t,e,c⟩:=x; exact⟨ob,es,ep,t,k _ _ (.inl rfl) e,c⟩
 | ins C dx fs=>
  obtain⟨d,z,ne,e,mA,⟨od,es,ep,e2,c⟩,r⟩:=x
  exact⟨ho _ d,z,ne,k _ _ (.inl rfl) e,mA,⟨od,es,ep,k _ _ (.inr d) e2,c⟩,r⟩
 | own y=>obtain⟨ob,e⟩:=x; exact⟨ob,k _ _ (.inl rfl) e⟩
 | xd fs=>obtain⟨mA,⟨od,es,ep,e,c⟩,r⟩:=x; exact⟨mA,⟨od,es,ep,k _ _ (.inl rfl) e,c⟩,r⟩
 | rng lo hi=>obtain⟨t,u,v,e⟩:=x; exact⟨t,u,v,k _ _ (.inl rfl) e⟩
 | frz ob u ih=>obtain⟨e,q⟩:=x; exact⟨k _ _ (.inl rfl) e,ih q⟩
 | tbl ps=>
  have e:h.get? a=some { cls:= .none,data:= .fields ps} :=x
  show h'.get? a=some { cls:= .none,data:= .fields ps}
  exact k a _ (.inl rfl) e
 | met f y=>
  have e:h.get? a=some (methodObj (.ref f) (.ref y)):=x
  show h'.get? a=some (methodObj (.ref f) (.ref y))
  exact k a _ (.inl rfl) e
 | ext φ=>obtain⟨p,⟨o,e⟩,st⟩:=x; exact⟨st _ _ p fun o q=>k _ _ (.inl rfl) q,⟨o,k _ _ (.inl rfl) e⟩,st⟩
theorem HOk.lt (x:HOk P w H h)(e:H a=some o):a<h.objs.size:=(x a o e).lt
theorem HOk.fresh (x:HOk P w H h)(e:h.objs.size<=a):H a=none:=by
 cases q:H a with
 | none=>rfl
 | some u=>exact absurd (be (x.lt q) e) (cU _)
theorem HOk.kept (x:HOk P w H h)(k:∀ b u,h.get? b=some u->h'.get? b=some u):HOk P w H h':=fun a o e=>
 (x a o e).stay (fun b u _ q=>k b u q) (fun _ q=>q) fun _ _ q=>q
theorem HOk.laid (x:HOk P w H h)(k:∀ b u,h.get? b=some u->h'.get? b=some u)(hp:h.objs.size<=a)(new:ObjOk P w (upd H a o) h' a o):HOk P w (upd H a o) h':=fun b u e=>by
 have hn:=x.fresh hp
 by_cases hb:b=a
 ·subst hb; rw[j8] at e; cases e; exact new
 ·rw[jA hb] at e
  exact(x b u e).stay (fun c v _ q=>k c v q) (fun c q=>by rw[jA (jD q hn)]; exact q) fun c xs q=>by rw[jA (jD q hn)]; exact q
end
def Rd (H:Hp)(a:Addr)(u:HO):Prop:=H a=some u\/∃ o,H a=some (.frz o u)
theorem Rd.ok {P:Program}{w:World}{H:Hp}{h:Heap}{a:Addr}{u:HO}(r:Rd H a u)(x:HOk P w H h):ObjOk P w H h a u:=by
 rcases r with r | ⟨o,r⟩
 ·exact x a u r
 ·obtain⟨_,q⟩:=x a _ r
  exact q
def Mut:Option HO->Prop
 | some (.lst _)=>True
 | some (.dK _)=>True
 | some (.dT _)=>True
 | some (.set _ _)=>True
 | some (.ins _ _ _)=>True
 | some (.ext _)=>True
 | _=>False
section
variable {P:Program}{w:World}{H:Hp}{h h':Heap}{x e:Addr}{o':HO}
theorem HOk.write (ok:HOk P w H h)(mu:Mut (H x))(he:e=x\/H e=some (.own x))(k:∀ b u,b≠e->h.get? b=some u->h'.get? b=some u)(heo:∃ u,h'.get? e=some u)
  (new:ObjOk P w (upd H x o') h' x o'):HOk P w (upd H x o') h':=fun b u q=>by
 have nown:∀ c y,H c=some (.own y)->c≠x:=fun c y r z=>by subst z; rw[r] at mu; exact mu
 have ntup:∀ c xs,H c=some (.tup xs)->c≠x:=fun c xs r z=>by subst z; rw[r] at mu; exact mu
 by_cases hb:b=x
 ·subst hb; rw[j8] at q; cases q; exact new
 ·rw[jA hb] at q
  by_cases hbe:b=e
  ·have q':H b=some (.own x):=by
    rcases he with z | z
    ·exact absurd (hbe.trans z) hb
    ·rw[hbe]; exact z
   rw[q] at q'; cases q'
   obtain⟨v,hv⟩:=heo
   exact⟨v,by rw[hbe]; exact hv⟩
  ·refine(ok b u q).stay (fun c v hc r=>k c v ?_ r) (fun c r=>by rw[jA (nown c b r)]; exact r) fun c xs r=>by rw[jA (ntup c xs r)]; exact r
   rcases hc with rfl | hc
   ·exact hbe
   ·rintro rfl
    rcases he with z | z
    ·exact nown c b hc z
    ·rw[hc] at z; cases z; exact hb rfl
end
structure Un (fs ex:List Addr)(H H':Hp)(h h':Heap):Prop where
 keep:∀ b o,h.get? b=some o->H b=none->b∉fs->b∉ex->h'.get? b=some o
 slot:∀ b o,h.get? b=some o->H b=none->b∈fs->b∉ex->∃ sl,h'.get? b=some { o with slots:=sl}
 free:∀ b o,h.get? b=some o->H b=none->b∉ex->H' b=none
 there:∀ b o,h.get? b=some o->b∉ex->∃ o',h'.get? b=some o'
 tups:∀ b xs,H b=some (.tup xs)->H' b=some (.tup xs)
 frzs:∀ b o u,H b=some (.frz o u)->H' b=some (.frz o u)
 tbls:∀ b ps,H b=some (.tbl ps)->∃ more,H' b=some (.tbl (ps++more))
section
variable {fs fs' ex ex':List Addr}{H H1 H2:Hp}{h h1 h2 h':Heap}{a x e:Addr}{o:HO}
theorem Un.any (u:Un fs ex H H1 h h1){b:Addr}{ob:Obj}(q:h.get? b=some ob)(n:H b=none)(hx:b∉ex):∃ sl,h1.get? b=some { ob with slots:=sl} :=by
 by_cases hb:b∈fs
 ·exact u.slot b ob q n hb hx
 ·exact⟨ob.slots,u.keep b ob q n hb hx⟩
theorem Un.kept (k:∀ b u,h.get? b=some u->h'.get? b=some u):Un fs ex H H h h':=
 ⟨fun b ob q _ _ _=>k b ob q,fun b ob q _ _ _=>⟨ob.slots,k b ob q⟩,fun _ _ _ n _=>n,fun b ob q _=>⟨ob,k b ob q⟩,fun _ _ q=>q,fun _ _ _ q=>q,fun _ ps q=>⟨#[],by rw[q]; simp⟩⟩
theorem Un.refl:Un fs ex H H h h:=Un.kept fun _ _ q=>q
theorem Un.laid (k:∀ b u,h.get? b=some u->h'.get? b=some u)(hp:h.objs.size<=a)(hn:H a=none):Un fs ex H (upd H a o) h h' where
 keep:=fun b u q _ _ _=>k b u q
 slot:=fun b u q _ _ _=>⟨u.slots,k b u q⟩
 free:=fun b u q n _=>by rw[jA (bu (be (aL q) hp))]; exact n
 there:=fun b u q _=>⟨u,k b u q⟩
 tups:=fun b xs q=>by rw[jA (jD q hn)]; exact q
 frzs:=fun b u xs q=>by rw[jA (jD q hn)]; exact q
 tbls:=fun b ps q=>⟨#[],by rw[jA (jD q hn),q]; simp⟩
theorem Un.write (mu:Mut (H x))(he:e=x\/H e=some (.own x))(k:∀ b u,b≠e->h.get? b=some u->h'.get? b=some u)(heo:∃ u,h'.get? e=some u):Un fs ex H (upd H x o) h h':=by
 have hx:∀ b,H b=none->b≠x:=fun b n z=>by subst z; rw[n] at mu; exact mu
 have hb:∀ b,H b=none->b≠e:=fun b n z=>by
  subst z
  rcases he with r | r
  ·exact hx b n r
  ·rw[n] at r; cases r
 have hm:∀ b u,H b=some u->¬ Mut (some u)->b≠x:=fun b u q nm z=>by subst z; rw[q] at mu; exact nm mu
 refine⟨fun b u q n _ _=>k b u (hb b n) q,fun b u q n _ _=>⟨u.slots,k b u (hb b n) q⟩,fun b u q n _=>by rw[jA (hx b n)]; exact n,fun b u q _=>?_,
  fun b xs q=>by rw[jA (hm b _ q fun z=>z)]; exact q,fun b u xs q=>by rw[jA (hm b _ q fun z=>z)]; exact q,fun b ps q=>⟨#[],by rw[jA (hm b _ q fun z=>z),q]; simp⟩⟩
 by_cases hbe:b=e
 ·subst hbe; exact heo
 ·exact⟨u,k b u hbe q⟩
end
def trk (h:Heap)(H:Hp):List Addr:=(List.range h.objs.size).filter fun a=>(H a).isSome
def hidT (h:Heap)(H:Hp):Heap:=PySem.W.hideAll h (trk h H)
theorem jJK (h:Heap)(H:Hp):(hidT h H).objs.size=h.objs.size:=PySem.W.hideAll_size _ _
theorem jL6 {h:Heap}{H:Hp}{b:Addr}{o:Obj}(e:h.get? b=some o)(n:H b=none):(hidT h H).get? b=some o:=
 PySem.W.hideAll_get _ e fun hm=>by
  have q:(H b).isSome=true:=(ce.mp hm).2
  rw[n] at q; simp at q
theorem jNN {h:Heap}{H:Hp}{b:Addr}{o:Obj}(e:(hidT h H).get? b=some o):h.get? b=some o/\H b=none:=by
 have e':h.get? b=some o:=PySem.W.of_hideAll (trk h H) e
 refine⟨e',?_⟩
 cases q:H b with
 | none=>rfl
 | some x=>
  have hm:b∈trk h H:=ce.mpr ⟨bN.mpr (aL e'),by simp [q]⟩
  have z:(hidT h H).get? b=none:=PySem.W.hideAll_none (trk h H) hm
  rw[z] at e; cases e
end L2
namespace L2
open PySem PySem.Spec PyProof.Rows
structure Mod (K:W.Frag)(mg:Str->Option Value)(base:Heap):Prop where
 kin:K.In base
 glob:base.Ns mainGlobals mg
 blt:∃ mb,base.Ns builtinsNs mb/\∀ x:Str,x≠ "__name__" ->mb x=bootBuiltins x
 nolimit:base.NoLimit
structure Cx where
 prog:Program
 w:World
 K:W.Frag
 mg:Str->Option Value
 base:Heap
 A:Around
 N:List Str
 s₀:Shared
 H₀:Hp
 env:Env
 outer:List Env
 stack:List Env
 ex:List Addr
 fn:Str->Bool
 calm:Bool
 pn:List (Addr×Obj)
 xe:Value->Shared->Prop
def frs (l:List Env):List Addr:=l.filterMap (·.frame)
abbrev Cx.fs (X:Cx):List Addr:=frs X.outer
def Vis (sc:Scope)(x:Str):Prop:=sc.names.lookup x=some .local\/sc.names.lookup x=some .cell\/sc.names.lookup x=some .free
def Loc (sc:Scope)(x:Str):Prop:=sc.names.lookup x=some .local\/sc.names.lookup x=some .cell
def Look (env:Env)(h:Heap)(m:Str->Option Value)(x:Str)(u:Value):Prop:=
 (env.kindOf x=some .local/\m x=some u)\/((env.kindOf x=some .cell\/env.kindOf x=some .free)/\∃ c,env.cells.lookup x=some c/\h.IsCell c (some u))
structure Cx.Ok (X:Cx):Prop where
 mod:Mod X.K X.mg X.base
 kind:X.env.scope.kind= .function
 glob:X.env.globals=mainGlobals
 blt:X.env.builtins=builtinsNs
 above:X.s₀.heap.objs.size<=X.env.locals
 inj:∀ x y c,X.env.cells.lookup x=some c->X.env.cells.lookup y=some c->x=y
 has:∀ x,(X.env.kindOf x=some .cell\/X.env.kindOf x=some .free)->∃ c,X.env.cells.lookup x=some c
 cab:∀ x c,X.fn x=true->X.env.cells.lookup x=some c->X.s₀.heap.objs.size<=c
 hd:X.calm=true->X.A.handled=none
 frames:X.A.frames=some X.stack
 stk:X.stack=X.outer\/(X.stack=X.env::X.outer/\X.env.frame=some X.env.locals)
 exf:∀ b∈X.ex,b≠X.env.locals/\∀ x c,X.env.cells.lookup x=some c->c≠b
 bs:∀ b o,X.base.get? b=some o->X.s₀.heap.get? b=some o/\X.H₀ b=none
 bsz:X.base.objs.size<=X.s₀.heap.objs.size
 noex:∀ b o,X.base.get? b=some o->b∉X.ex
 exfs:∀ b∈X.ex,b∉X.fs
 funs:X.s₀.heap.FunFrames X.base X.outer
 frf:∀ b∈X.fs,X.H₀ b=none
structure Inv (X:Cx)(pins:List (Addr×Obj))(σ:List (Option V))(H:Hp)(s:Shared):Prop where
 ok:X.Ok
 os:s.os=X.s₀.os
 bare:AllBare s.gens
 base:Un X.fs X.ex X.H₀ H X.s₀.heap s.heap
 loc:∃ m,s.heap.Ns X.env.locals m/\∀ (i:Nat) (x:Str) (v:V),X.N[i]?=some x->σ[i]?=some (some v)->Vis X.env.scope x->∃ u,RelV v u/\Look X.env s.heap m x u
 cell:∀ x c,X.env.cells.lookup x=some c->∃ v,s.heap.IsCell c v
 free:H X.env.locals=none
 freeC:∀ x c,X.env.cells.lookup x=some c->H c=none
 pin:∀ p∈X.pn++pins,s.heap.get? p.1=some p.2/\H p.1=none/\p.1≠X.env.locals/\p.1∉X.fs/\∀ v,p.2.data≠ .cell v
 hok:HOk X.prog X.w H s.heap
 len:σ.length=X.N.length
section
variable {X:Cx}{pins:List (Addr×Obj)}{σ:List (Option V)}{H H':Hp}{s:Shared}{h':Heap}
theorem Cx.Ok.nofr (ok:X.Ok){b:Addr}{o:Obj}(e:X.base.get? b=some o):b∉X.fs:=fun hb=>by
 have:=(ok.funs.mem hb).1
 rw[e] at this; cases this
theorem Inv.bs (I:Inv X pins σ H s):∀ b o,X.base.get? b=some o->s.heap.get? b=some o/\H b=none:=fun b o e=>
 ⟨I.base.keep b o (I.ok.bs b o e).1 (I.ok.bs b o e).2 (I.ok.nofr e) (I.ok.noex b o e),I.base.free b o (I.ok.bs b o e).1 (I.ok.bs b o e).2 (I.ok.noex b o e)⟩
theorem Inv.bk (I:Inv X pins σ H s):∀ b o,X.base.get? b=some o->s.heap.get? b=some o:=fun b o e=>(I.bs b o e).1
theorem Inv.mod (I:Inv X pins σ H s):Mod X.K X.mg X.base:=I.ok.mod
theorem Inv.kIn (I:Inv X pins σ H s):X.K.In s.heap:=I.ok.mod.kin.keeps I.bk
theorem Inv.lt (I:Inv X pins σ H s):X.env.locals<s.heap.objs.size:=let ⟨_,hn,_⟩:=I.loc; hn.lt
theorem Inv.sz (I:Inv X pins σ H s):X.s₀.heap.objs.size<=s.heap.objs.size:=bD I.ok.above (fe I.lt)
theorem Inv.nofs (I:Inv X pins σ H s){a:Addr}(h:s.heap.objs.size<=a):a∉X.fs:=fun hb=>by
 obtain⟨_,o,ho,_⟩:=I.ok.funs.mem hb
 exact absurd (be (aL ho) (bD I.sz h)) (cU _)
theorem Inv.cne (I:Inv X pins σ H s):∀ x c,X.env.cells.lookup x=some c->c≠X.env.locals:=fun x c e z=>by
 obtain⟨v,o,ho,hd⟩:=I.cell x c e
 obtain⟨m,⟨o',es,ep,ho',hd',_⟩,_⟩:=I.loc
 rw[z,ho'] at ho; cases ho; rw[hd'] at hd; cases hd
theorem Inv.funs (I:Inv X pins σ H s):s.heap.FunFrames X.base X.outer:=by
 have all:∀ (l:List Env),(∀ b∈frs l,b∈X.fs)->X.s₀.heap.FunFrames X.base l->s.heap.FunFrames X.base l:=by
  intro l
  induction l with
  | nil=>intro _ _; trivial
  | cons env r ih=>
   intro hs hl
   obtain⟨hk,⟨L,o,hf,hn,ho,hd⟩,hr⟩:=hl
   have hL:L∈X.fs:=hs L (by unfold frs; rw[fc,hf]; exact aH)
   obtain⟨sl,e⟩:=I.base.slot L o ho (I.ok.frf L hL) hL fun z=>I.ok.exfs L z hL
   exact⟨hk,⟨L,_,hf,hn,e,hd⟩,ih (fun b hb=>hs b (by unfold frs; rw[fc,hf]; exact aq _ hb)) hr⟩
 exact all X.outer (fun _ hb=>hb) I.ok.funs
theorem Inv.stack (I:Inv X pins σ H s):s.heap.FunFrames X.base X.stack:=by
 rcases I.ok.stk with e | ⟨e,hf⟩
 ·rw[e]; exact I.funs
 ·rw[e]
  obtain⟨m,hn,_⟩:=I.loc
  refine .cons (by rw[I.ok.kind]; decide) hf hn ?_ I.funs
  exact Heap.get?_none_of_le (bD I.ok.bsz I.ok.above)
theorem Inv.stkSub (I:Inv X pins σ H s):∀ b∈frs X.stack,b∈X.env.locals::X.fs:=fun b hb=>by
 rcases I.ok.stk with e | ⟨e,hf⟩
 ·rw[e] at hb; exact aq _ hb
 ·rw[e] at hb
  unfold frs at hb
  rw[fc,hf] at hb
  exact hb
theorem Inv.stkFree (I:Inv X pins σ H s):∀ b∈frs X.stack,H b=none:=fun b hb=>by
 rcases aR.mp (I.stkSub b hb) with e | hb
 ·rw[e]; exact I.free
 ·obtain⟨_,o,ho,_⟩:=I.ok.funs.mem hb
  exact I.base.free b o ho (I.ok.frf b hb) fun z=>I.ok.exfs b z hb
theorem Inv.step {g':Array GenState}{t':Nat}{d':Drawn}{ch:List Addr}(I:Inv X pins σ H s)
  (hch:∀ b∈ch,(b∈X.ex\/X.s₀.heap.objs.size<=b)/\b≠X.env.locals/\(∀ x c,X.env.cells.lookup x=some c->c≠b)/\∀ p∈X.pn++pins,p.1≠b)
  (keep:∀ b o,b≠X.env.locals->b∉X.fs->b∉ch->s.heap.get? b=some o->H b=none->h'.get? b=some o)
  (slot:∀ b o,b≠X.env.locals->b∈X.fs->b∉ch->s.heap.get? b=some o->H b=none->∃ sl,h'.get? b=some { o with slots:=sl}) (free:∀ b o,b∉ch->s.heap.get? b=some o->H b=none->H' b=none)
  (there:∀ b o,b∉ch->s.heap.get? b=some o->∃ o',h'.get? b=some o')
  (tups:∀ b xs,H b=some (.tup xs)->H' b=some (.tup xs)) (frzs:∀ b o u,H b=some (.frz o u)->H' b=some (.frz o u)) (tbls:∀ b ps,H b=some (.tbl ps)->∃ more,H' b=some (.tbl (ps++more)))
  (ns:∀ m,s.heap.Ns X.env.locals m->h'.Ns X.env.locals m) (hok:HOk X.prog X.w H' h') (hg:AllBare g'):
  Inv X pins σ H' { s with heap:=h',gens:=g',drawn:=d',toks:=t'} :=by
 have neL:∀ b o,X.s₀.heap.get? b=some o->b≠X.env.locals:=fun b o e=>bu (be (aL e) I.ok.above)
 have neC:∀ b o,X.s₀.heap.get? b=some o->b∉X.ex->b∉ch:=fun b o e hx hb=>by
  rcases (hch b hb).1 with z | z
  ·exact hx z
  ·exact absurd (be (aL e) z) (cU _)
 have cellK:∀ x c,X.env.cells.lookup x=some c->∀ v,s.heap.IsCell c v->h'.IsCell c v:=fun x c e v ⟨o,ho,hd⟩=>by
  have nch:c∉ch:=fun z=>(hch c z).2.2.1 x c e rfl
  by_cases hc:c∈X.fs
  ·obtain⟨sl,q⟩:=slot c o (I.cne x c e) hc nch ho (I.freeC x c e)
   exact⟨_,q,hd⟩
  ·exact⟨o,keep c o (I.cne x c e) hc nch ho (I.freeC x c e),hd⟩
 refine⟨I.ok,I.os,hg,⟨fun b o e n hb hx=>?_,fun b o e n hb hx=>?_,fun b o e n hx=>?_,fun b o e hx=>?_,fun b xs e=>tups b xs (I.base.tups b xs e),fun b o xs e=>frzs b o xs (I.base.frzs b o xs e),fun b ps e=>?_⟩,?_,fun x c e=>?_,?_,fun x c e=>?_,fun p hp=>?_,hok,I.len⟩
 ·exact keep b o (neL b o e) hb (neC b o e hx) (I.base.keep b o e n hb hx) (I.base.free b o e n hx)
 ·obtain⟨sl,e1⟩:=I.base.slot b o e n hb hx
  obtain⟨sl',e2⟩:=slot b _ (neL b o e) hb (neC b o e hx) e1 (I.base.free b o e n hx)
  exact⟨sl',e2⟩
 ·obtain⟨o',e1⟩:=I.base.there b o e hx
  exact free b o' (neC b o e hx) e1 (I.base.free b o e n hx)
 ·obtain⟨o',e1⟩:=I.base.there b o e hx
  exact there b o' (neC b o e hx) e1
 ·obtain⟨m1,e1⟩:=I.base.tbls b ps e
  obtain⟨m2,e2⟩:=tbls b _ e1
  exact⟨m1++m2,by rw[e2,Array.append_assoc]⟩
 ·obtain⟨m,hn,hl⟩:=I.loc
  refine⟨m,ns m hn,fun i x v e1 e2 e3=>?_⟩
  obtain⟨u,r,l⟩:=hl i x v e1 e2 e3
  refine⟨u,r,?_⟩
  rcases l with l | ⟨k,c,e,z⟩
  ·exact .inl l
  ·exact .inr ⟨k,c,e,cellK x c e _ z⟩
 ·obtain⟨v,z⟩:=I.cell x c e
  exact⟨v,cellK x c e v z⟩
 ·obtain⟨m,⟨o,_,_,ho,_⟩,_⟩:=I.loc
  exact free _ o (fun z=>(hch _ z).2.1 rfl) ho I.free
 ·obtain⟨v,o,ho,hd⟩:=I.cell x c e
  exact free c o (fun z=>(hch c z).2.2.1 x c e rfl) ho (I.freeC x c e)
 ·obtain⟨e,n,ne,nf,d⟩:=I.pin p hp
  have nch:p.1∉ch:=fun z=>(hch p.1 z).2.2.2 p hp rfl
  exact⟨keep p.1 p.2 ne nf nch e n,free p.1 p.2 nch e n,ne,nf,d⟩
theorem Inv.un {t':Nat}(I:Inv X pins σ H s)(u:Un X.fs [] H H' s.heap h')(hok:HOk X.prog X.w H' h'):Inv X pins σ H' { s with heap:=h',toks:=t'} :=by
 obtain⟨m,⟨o,es,ep,ho,r⟩,_⟩:=id I.loc
 obtain⟨sl,hL⟩:=u.any ho I.free (by simp)
 exact I.step (g':=s.gens) (d':=s.drawn) (ch:=[]) (fun _ z=>nomatch z) (fun b o _ hb _ e n=>u.keep b o e n hb (by simp)) (fun b o _ hb _ e n=>u.slot b o e n hb (by simp)) (fun b o _ e n=>u.free b o e n (by simp)) (fun b o _ e=>u.there b o e (by simp)) u.tups u.frzs u.tbls (fun m' hm=>by
  obtain⟨o',es',ep',ho',r'⟩:=hm
  rw[ho] at ho'; cases ho'
  exact⟨_,es',ep',hL,r'⟩) hok I.bare
theorem Inv.call {g':Array GenState}{t':Nat}{d':Drawn}{ch:List Addr}(I:Inv X pins σ H s)(u:Un (frs X.stack) ch H H' s.heap h')(hok:HOk X.prog X.w H' h')(hg:AllBare g')
  (hch:∀ b∈ch,(b∈X.ex\/X.s₀.heap.objs.size<=b)/\b≠X.env.locals/\(∀ x c,X.env.cells.lookup x=some c->c≠b)/\∀ p∈X.pn++pins,p.1≠b):
  Inv X pins σ H' { s with heap:=h',gens:=g',drawn:=d',toks:=t'} :=by
 obtain⟨m,⟨o,es,ep,ho,r⟩,_⟩:=id I.loc
 obtain⟨sl,hL⟩:=u.any ho I.free fun z=>(hch _ z).2.1 rfl
 exact I.step (ch:=ch) hch (fun b o hL hb hc e n=>u.keep b o e n (fun z=>(aR.mp (I.stkSub b z)).elim hL hb) hc) (fun b o _ _ hc e n=>u.any e n hc) (fun b o hc e n=>u.free b o e n hc) (fun b o hc e=>u.there b o e hc) u.tups u.frzs u.tbls (fun m' hm=>by
  obtain⟨o',es',ep',ho',r'⟩:=hm
  rw[ho] at ho'; cases ho'
  exact⟨_,es',ep',hL,r'⟩) hok hg
theorem Inv.turned {t':Nat}{it:Addr}(I:Inv X pins σ H s)(k:∀ b o,b≠it->s.heap.get? b=some o->h'.get? b=some o)(hn:H it=none)(hL:it≠X.env.locals)
  (h1:it∈X.ex\/X.s₀.heap.objs.size<=it) (h2:∀ x c,X.env.cells.lookup x=some c->c≠it) (h3:∀ p∈X.pn++pins,p.1≠it):Inv X pins σ H { s with heap:=h',toks:=t'} :=by
 have nit:∀ b u,H b=some u->b≠it:=fun b u e z=>by rw[z,hn] at e; cases e
 refine I.step (g':=s.gens) (d':=s.drawn) (ch:=[it]) (fun b hb=>?_) (fun b o _ _ hc e _=>k b o (fun z=>hc (by simp [z])) e) (fun b o _ _ hc e _=>⟨o.slots,k b o (fun z=>hc (by simp [z])) e⟩) (fun _ _ _ _ n=>n)
  (fun b o hc e=>⟨o,k b o (fun z=>hc (by simp [z])) e⟩) (fun _ _ e=>e) (fun _ _ _ e=>e) (fun b ps e=>⟨#[],by rw[e]; simp⟩) (fun m hm=>?_) (fun b u e=>?_) I.bare
 ·have e:b=it:=by simpa using hb
  subst e
  exact⟨h1,hL,h2,h3⟩
 ·obtain⟨o,es,ep,ho,r⟩:=hm
  exact⟨o,es,ep,k _ o (bV hL) ho,r⟩
 ·refine(I.hok b u e).stay (fun c v hc q=>k c v ?_ q) (fun _ q=>q) fun _ _ q=>q
  rcases hc with z | z
  ·rw[z]; exact nit b u e
  ·exact nit c _ z
theorem Inv.tok (I:Inv X pins σ H s)(t:Nat):Inv X pins σ H { s with toks:=t} :=I.un (h':=s.heap) (t':=t) Un.refl I.hok
theorem Inv.kept {t':Nat}(I:Inv X pins σ H s)(k:∀ b u,s.heap.get? b=some u->h'.get? b=some u):Inv X pins σ H { s with heap:=h',toks:=t'} :=I.un (Un.kept k) (I.hok.kept k)
theorem Inv.laid {a:Addr}{o:HO}{t':Nat}(I:Inv X pins σ H s)(k:∀ b u,s.heap.get? b=some u->h'.get? b=some u)(hp:s.heap.objs.size<=a)(new:ObjOk X.prog X.w (upd H a o) h' a o):
  Inv X pins σ (upd H a o) { s with heap:=h',toks:=t'} :=I.un (Un.laid k hp (I.hok.fresh hp)) (I.hok.laid k hp new)
theorem Inv.write {x e:Addr}{o:HO}{t':Nat}(I:Inv X pins σ H s)(mu:Mut (H x))(he:e=x\/H e=some (.own x))(k:∀ b u,b≠e->s.heap.get? b=some u->h'.get? b=some u)(heo:∃ u,h'.get? e=some u)
  (new:ObjOk X.prog X.w (upd H x o) h' x o):Inv X pins σ (upd H x o) { s with heap:=h',toks:=t'} :=I.un (Un.write mu he k heo) (I.hok.write mu he k heo new)
theorem Inv.pins_of {pins':List (Addr×Obj)}(I:Inv X pins σ H s)(h:∀ p∈pins',s.heap.get? p.1=some p.2/\H p.1=none/\p.1≠X.env.locals/\p.1∉X.fs/\∀ v,p.2.data≠ .cell v):Inv X pins' σ H s:=
 ⟨I.ok,I.os,I.bare,I.base,I.loc,I.cell,I.free,I.freeC,fun p hp=>(ax.mp hp).elim (fun z=>I.pin p (aP _ z)) (h p),I.hok,I.len⟩
theorem jGT {N:List Str}(hN:N.Nodup){i j:Nat}{x:Str}(a:N[i]?=some x)(b:N[j]?=some x):i=j:=by
 obtain⟨h1,e1⟩:=ae.mp a
 obtain⟨h2,e2⟩:=ae.mp b
 exact(List.getElem_inj hN).mp (e1.trans e2.symm)
theorem jEL {M:Model}{A:Around}{E:Value->Shared->Prop}{i:Nat}{x:Str}{v:V}{u:Value}{Q:Unit->Shared->Prop}(I:Inv X pins σ H s)(hN:X.N.Nodup)(hi:X.N[i]?=some x)(hx:Loc X.env.scope x)(r:RelV v u)
  (h:∀ s',Inv X pins (σ.set i (some v)) H s'->(∃ a,Heap.SameBut a s.heap s'.heap/\(a=X.env.locals\/X.env.cells.lookup x=some a))->Q () s') (hf:X.fn x=true\/X.env.scope.names.lookup x=some .local:=by first | exact .inl rfl | exact .inr rfl | assumption):wpAny M A (storeName X.env x u) Q E s:=by
 obtain⟨m,hn,hl⟩:=id I.loc
 have hcls:(X.env.scope.kind== .class || (X.env.scope.kind== .module&&X.env.locals != X.env.globals))=false:=by rw[I.ok.kind]; rfl
 have hiσ:i<σ.length:=by rw[I.len]; exact(ae.mp hi).1
 have cne:=I.cne
 have tracked:∀ {a:Addr}{h':Heap},(∃ o,s.heap.get? a=some o/\H a=none)->Heap.SameBut a s.heap h'->HOk X.prog X.w H h':=fun {a h'} ha hs b ob e=>by
  obtain⟨_,_,hfree⟩:=ha
  refine(I.hok b ob e).stay (fun c w' hc q=>(hs.2 c ?_).trans q) (fun _ q=>q) fun _ _ q=>q
  rintro rfl
  rcases hc with rfl | hc
  ·rw[hfree] at e; cases e
  ·rw[hfree] at hc; cases hc
 rcases hx with hk | hk
 ·refine wpAny_storeName_local hk hn (fun h' hn' hs=>?_) hcls
  obtain⟨oL,_,_,hoL,_⟩:=id hn
  refine h _ ⟨I.ok,I.os,I.bare,⟨fun b o e n hb hx=>?_,fun b o e n hb hx=>?_,I.base.free,fun b o e hx=>?_,I.base.tups,I.base.frzs,I.base.tbls⟩,⟨_,hn',fun j y v' e1 e2 e3=>?_⟩,fun y c e=>?_,I.free,I.freeC,fun p hp=>?_,tracked ⟨oL,hoL,I.free⟩ hs,by simpa using I.len⟩ ⟨_,hs, .inl rfl⟩
  ·exact(hs.2 b (bu (be (aL e) I.ok.above))).trans (I.base.keep b o e n hb hx)
  ·obtain⟨sl,e1⟩:=I.base.slot b o e n hb hx
   exact⟨sl,(hs.2 b (bu (be (aL e) I.ok.above))).trans e1⟩
  ·obtain⟨o',e1⟩:=I.base.there b o e hx
   exact⟨o',(hs.2 b (bu (be (aL e) I.ok.above))).trans e1⟩
  ·by_cases hj:j=i
   ·subst hj
    rw[hi] at e1; cases e1
    rw[gA hiσ] at e2
    cases e2
    exact⟨u,r, .inl ⟨hk,by simp⟩⟩
   ·rw[gP (bV hj)] at e2
    obtain⟨u',r',q⟩:=hl j y v' e1 e2 e3
    refine⟨u',r',?_⟩
    rcases q with ⟨k,e⟩ | ⟨k,c,e,z⟩
    ·refine .inl ⟨k,?_⟩
     have:y≠x:=fun e=>hj (jGT hN e1 (e ▸ hi))
     simp [this,e]
    ·exact .inr ⟨k,c,e,z.sameBut hs (cne y c e)⟩
  ·obtain⟨w',z⟩:=I.cell y c e
   exact⟨w',z.sameBut hs (cne y c e)⟩
  ·obtain⟨e,n,ne,nf,d⟩:=I.pin p hp
   exact⟨(hs.2 p.1 ne).trans e,n,ne,nf,d⟩
 ·have hfn:X.fn x=true:=by
   rcases hf with z | z
   ·exact z
   ·rw[z] at hk; cases hk
  obtain⟨c,hc⟩:=I.ok.has x (.inl hk)
  obtain⟨w',z⟩:=I.cell x c hc
  refine wpAny_storeName_cell I.ok.kind hk hc z (fun h' hc' hs=>?_)
  obtain⟨oc,hoc,hocd⟩:=id z
  refine h { s with heap:=h'} ⟨I.ok,I.os,I.bare,⟨fun b o e n hb hx=>?_,fun b o e n hb hx=>?_,I.base.free,fun b o e hx=>?_,I.base.tups,I.base.frzs,I.base.tbls⟩,⟨m,hn.sameBut hs (bV (cne x c hc)),fun j y v' e1 e2 e3=>?_⟩,fun y c' e=>?_,I.free,I.freeC,fun p hp=>?_,tracked ⟨oc,hoc,I.freeC x c hc⟩ hs,by simpa using I.len⟩ ⟨c,hs, .inr hc⟩
  ·exact(hs.2 b (bu (be (aL e) (I.ok.cab x c hfn hc)))).trans (I.base.keep b o e n hb hx)
  ·obtain⟨sl,e1⟩:=I.base.slot b o e n hb hx
   exact⟨sl,(hs.2 b (bu (be (aL e) (I.ok.cab x c hfn hc)))).trans e1⟩
  ·obtain⟨o',e1⟩:=I.base.there b o e hx
   exact⟨o',(hs.2 b (bu (be (aL e) (I.ok.cab x c hfn hc)))).trans e1⟩
  ·by_cases hj:j=i
   ·subst hj
    rw[hi] at e1; cases e1
    rw[gA hiσ] at e2
    cases e2
    exact⟨u,r, .inr ⟨.inl hk,c,hc,hc'⟩⟩
   ·rw[gP (bV hj)] at e2
    obtain⟨u',r',q⟩:=hl j y v' e1 e2 e3
    refine⟨u',r',?_⟩
    rcases q with q | ⟨k,c',e,z'⟩
    ·exact .inl q
    ·refine .inr ⟨k,c',e,z'.sameBut hs ?_⟩
     rintro rfl
     exact hj (jGT hN e1 (I.ok.inj _ _ _ e hc ▸ hi))
  ·by_cases hcc:c'=c
   ·subst hcc; exact⟨_,hc'⟩
   ·obtain⟨w2,z2⟩:=I.cell y c' e
    exact⟨w2,z2.sameBut hs hcc⟩
  ·obtain⟨e,n,ne,nf,d⟩:=I.pin p hp
   refine⟨(hs.2 p.1 ?_).trans e,n,ne,nf,d⟩
   intro q
   rw[q,hoc] at e
   have q':oc=p.2:=aW e
   exact d w' (by rw[<- q']; exact hocd)
theorem jDW {M:Model}{A:Around}{E:Value->Shared->Prop}{i:Nat}{x:Str}{v:V}{u:Value}{Q:Unit->Shared->Prop}(I:Inv X pins σ H s)(hN:X.N.Nodup)(hi:X.N[i]?=some x)(hx:Loc X.env.scope x)(r:RelV v u)
  (h:∀ s',Inv X pins (σ.set i (some v)) H s'->Q () s') (hf:X.fn x=true\/X.env.scope.names.lookup x=some .local:=by first | exact .inl rfl | exact .inr rfl | assumption):wpAny M A (storeName X.env x u) Q E s:=
 jEL I hN hi hx r (fun s' I' _=>h s' I') hf
theorem Inv.call' {s':Shared}{ch:List Addr}(I:Inv X pins σ H s)(ho:s'.os=s.os)(u:Un (frs X.stack) ch H H' s.heap s'.heap)(hok:HOk X.prog X.w H' s'.heap)(hg:AllBare s'.gens)
  (hch:∀ b∈ch,(b∈X.ex\/X.s₀.heap.objs.size<=b)/\b≠X.env.locals/\(∀ x c,X.env.cells.lookup x=some c->c≠b)/\∀ p∈X.pn++pins,p.1≠b):Inv X pins σ H' s':=by
 obtain⟨h',g',d',t',o'⟩:=s'
 have e:o'=s.os:=ho
 subst e
 exact I.call (g':=g') (t':=t') (d':=d') u hok hg hch
end
abbrev XK:=Value->Option Addr->Hp->Prop
abbrev St:=List (Option V)
abbrev VK:=V->Hp->Prop
abbrev TE:=St->Hp->VK->Prop
abbrev TT:=St->Hp->(Bool->Hp->Prop)->Prop
abbrev TA:=St->Hp->(List V->Hp->Prop)->Prop
structure Ends where
 nx:St->Hp->Prop
 rt:VK
 bk:St->Hp->Prop:=fun _ _=>False
 ct:St->Hp->Prop:=fun _ _=>False
abbrev TS:=Ends->St->Hp->Prop
def EP (X:Cx)(pins:List (Addr×Obj))(σ:St)(Q:VK)(u:Value)(s':Shared):Prop:=∃ v H',Inv X pins σ H' s'/\RelV v u/\Q v H'
def TP (X:Cx)(pins:List (Addr×Obj))(σ:St)(Q:Bool->Hp->Prop)(b:Bool)(s':Shared):Prop:=∃ H',Inv X pins σ H' s'/\Q b H'
def AP (X:Cx)(pins:List (Addr×Obj))(σ:St)(Q:List V->Hp->Prop)(us:List Value)(s':Shared):Prop:=∃ vs H',Inv X pins σ H' s'/\Vals vs us/\Q vs H'
def SP (X:Cx)(pins:List (Addr×Obj))(D:Ends)(f:Flow)(s':Shared):Prop:=
 match f with
 | .next=>∃ σ' H',Inv X pins σ' H' s'/\D.nx σ' H'
 | .brk=>∃ σ' H',Inv X pins σ' H' s'/\D.bk σ' H'
 | .cont=>∃ σ' H',Inv X pins σ' H' s'/\D.ct σ' H'
 | .ret u=>∃ v σ' H',Inv X pins σ' H' s'/\RelV v u/\D.rt v H'
def PE (X:Cx)(e:Expr)(t:TE):Prop:=
 ∀ (pins:List (Addr×Obj)) (s:Shared) (σ:St) (H:Hp) (Q:VK),Inv X pins σ H s->t σ H Q->wpAny (model X.prog X.w) X.A (eval e X.env) (EP X pins σ Q) X.xe s
def PT (X:Cx)(e:Expr)(t:TT):Prop:=
 ∀ (pins:List (Addr×Obj)) (s:Shared) (σ:St) (H:Hp) (Q:Bool->Hp->Prop),Inv X pins σ H s->t σ H Q->wpAny (model X.prog X.w) X.A (isTrue e X.env (eval e X.env)) (TP X pins σ Q) X.xe s
def PW (X:Cx)(e:Expr)(t:TT):Prop:=
 ∀ (whole:Sem Value) (pins:List (Addr×Obj)) (s:Shared) (σ:St) (H:Hp) (Q:Bool->Hp->Prop),Inv X pins σ H s->t σ H Q->wpAny (model X.prog X.w) X.A (isTrue e X.env whole) (TP X pins σ Q) X.xe s
theorem PW.pt {X:Cx}{e:Expr}{t:TT}(h:PW X e t):PT X e t:=h _
def PA (X:Cx)(es:List Expr)(t:TA):Prop:=
 ∀ (pos:Pos) (pins:List (Addr×Obj)) (s:Shared) (σ:St) (H:Hp) (Q:List V->Hp->Prop),Inv X pins σ H s->t σ H Q->wpAny (model X.prog X.w) X.A (spliced (backTo pos (starEach es X.env))) (AP X pins σ Q) X.xe s
def PS (X:Cx)(st:Stmt)(t:TS):Prop:=
 ∀ (pins:List (Addr×Obj)) (s:Shared) (σ:St) (H:Hp) (D:Ends),Inv X pins σ H s->t D σ H->wpAny (model X.prog X.w) X.A (exec st X.env) (SP X pins D) X.xe s
def PSs (X:Cx)(st:List Stmt)(t:TS):Prop:=
 ∀ (pins:List (Addr×Obj)) (s:Shared) (σ:St) (H:Hp) (D:Ends),Inv X pins σ H s->t D σ H->wpAny (model X.prog X.w) X.A (execs st X.env) (SP X pins D) X.xe s
theorem thn {α:Type}{t:Sem α}{Q Q':α->Shared->Prop}{M:Model}{A:Around}{E:Value->Shared->Prop}{s:Shared}(h:wpAny M A t Q E s)(hQ:∀ a s,Q a s->Q' a s):wpAny M A t Q' E s:=b0 h hQ fun _ _ x=>x
end L2
namespace L2
open PySem PySem.Spec PyProof.Rows
section
variable {X:Cx}
def tVar (i:Nat):TE:=fun σ H Q=>∃ v,σ[i]?=some (some v)/\Q v H
def tC (v:V):TE:=fun _ H Q=>Q v H
theorem jIL {i:Nat}{x:Str}{pos:Pos}(hN:X.N[i]?=some x)(hv:Vis X.env.scope x)(hd:(x==("__debug__" :Str))=false:=by decide)(hcd:(x==("__classdict__" :Str))=false:=by decide):PE X (.Name x pos) (tVar i):=by
 intro pins s σ H Q I h
 obtain⟨v,e,h⟩:=h
 obtain⟨m,hn,hl⟩:=I.loc
 obtain⟨u,r,l⟩:=hl i x v hN e hv
 have fin:EP X pins σ Q u s:=⟨v,H,I,r,h⟩
 rcases l with ⟨hk,hm⟩ | ⟨hk,c,hc,hcell⟩
 ·exact wpAny_Name (wpAny_loadName_local I.ok.kind hk hn hm fin) hd
 ·rcases hk with hk | hk
  ·exact wpAny_Name (wpAny_loadName_cell I.ok.kind hk hc hcell fin) hd
  ·exact wpAny_Name (wpAny_loadName_free I.ok.kind hk hc hcell fin hcd) hd
theorem kJ {i j pos} :PE X (.Constant (.int i) j pos) (tC (.int i)):=fun _ _ _ H _ I h=>wpAny_Constant_int ⟨.int i,H,I.tok _,⟨_,rfl⟩,h⟩
theorem pe_bl {b j pos} :PE X (.Constant (.bool b) j pos) (tC (.bl b)):=fun _ _ _ H _ I h=>Constant_bool ⟨.bl b,H,I,rfl,h⟩
def Gl (X:Cx)(x:Str):Prop:=X.env.kindOf x=some .globalImplicit
theorem jNU {E:Value->Shared->Prop}{pins:List (Addr×Obj)}{s:Shared}{σ:St}{H:Hp}{x:Str}{u:Value}{pos:Pos}{Q:Value->Shared->Prop}(I:Inv X pins σ H s)(hg:Gl X x)(hm:X.mg x=some u)(h:Q u s)
  (hd:(x==("__debug__" :Str))=false:=by decide):wpAny (model X.prog X.w) X.A (eval (.Name x pos) X.env) Q E s:=
 fj I.ok.kind hg (Calls.loadGlobal_global (by rw[I.ok.glob]; exact I.mod.glob.keeps I.bk) hm h) hd
theorem jDB {E:Value->Shared->Prop}{pins:List (Addr×Obj)}{s:Shared}{σ:St}{H:Hp}{x:Str}{u:Value}{pos:Pos}{Q:Value->Shared->Prop}(I:Inv X pins σ H s)(hg:Gl X x)(hm:X.mg x=none)(hv:bootBuiltins x=some u)(h:Q u s)
  (hn:x≠ "__name__" :=by decide) (hd:(x==("__debug__" :Str))=false:=by decide):wpAny (model X.prog X.w) X.A (eval (.Name x pos) X.env) Q E s:=by
 obtain⟨mb,h1,h2⟩:=I.mod.blt
 exact fj I.ok.kind hg (Calls.loadGlobal_builtin (by rw[I.ok.glob]; exact I.mod.glob.keeps I.bk) hm (by rw[I.ok.blt]; exact h1.keeps I.bk) ((h2 x hn).trans hv) h) hd
theorem jND {x:Str}{v:V}{u:Value}{pos:Pos}(hg:Gl X x)(hm:X.mg x=none)(hv:bootBuiltins x=some u)(r:RelV v u)(hn:x≠ "__name__" :=by decide)(hd:(x==("__debug__" :Str))=false:=by decide):PE X (.Name x pos) (tC v):=
 fun _ _ _ H _ I h=>jDB I hg hm hv ⟨v,H,I,r,h⟩ hn hd
variable {a b:Expr}{ta tb:TE}{pos:Pos}
def PC (X:Cx)(op:CmpOp)(a b:Expr)(t:TE):Prop:=
 ∀ (pins:List (Addr×Obj)) (s:Shared) (σ:St) (H:Hp) (Q:VK),Inv X pins σ H s->t σ H Q->
  wpAny (model X.prog X.w) X.A (eval a X.env) (fun v s₁=>wpAny (model X.prog X.w) X.A (eval b X.env) (fun u s₂=>wpAny (model X.prog X.w) X.A (compareOp op v u) (EP X pins σ Q) X.xe s₂) X.xe s₁) X.xe s
def tB (t:TE):TT:=fun σ H Q=>t σ H fun x H1=>∃ c,x= .bl c/\Q c H1
theorem jP1 {op:CmpOp}{t:TE}(h:PC X op a b t)(h1:behindInMarks op b=false:=by first | exact nobehind _ (by decide) (by decide) | rfl):PT X (.Compare a [op] [b] pos) (tB t):=by
 intro pins s σ H Q I hw
 refine wpAny_isTrue_Compare1 (thn (h pins s σ H _ I hw) fun v s1 h1=>thn h1 fun u s2 h2=>thn h2 fun c s3 ⟨x,H1,I1,r1,q1⟩=>?_) h1
 obtain⟨d,rfl,q⟩:=q1
 cases r1
 exact dc ⟨H1,I1,q⟩
theorem jOZ {e:Expr}{t:TE}(h:PE X e t)(he:∀ whole,isTrue e X.env whole=(do let v <- whole; standAt e.pos; holding [v] (truthy v)):=by intro _; rfl):PT X e (tB t):=by
 intro pins s σ H Q I hw
 refine isTrue_plain (thn (h pins s σ H _ I hw) fun v s1 ⟨x,H1,I1,r1,q1⟩=>?_) (he _)
 obtain⟨d,rfl,q⟩:=q1
 cases r1
 exact dc ⟨H1,I1,q⟩
variable {tA tB':TT}{rest:List Expr}
def tAnd (t u:TT):TT:=fun σ H Q=>t σ H fun c H1=>if c=true then u σ H1 Q else Q false H1
def tOr (t u:TT):TT:=fun σ H Q=>t σ H fun c H1=>if c=true then Q true H1 else u σ H1 Q
def tNot (t:TT):TT:=fun σ H Q=>t σ H fun c H1=>Q (!c) H1
theorem jMV (ha:PT X a tA):PW X (.BoolOp .And [a] pos) tA:=by
 intro wh pins s σ H Q I h
 refine isTrue_and (thn (ha pins s σ H Q I h) fun c s1 e=>?_)
 cases c with
 | true=>exact isTrue_and_nil e
 | false=>exact e
theorem jOX (ha:PT X a tA):PW X (.BoolOp .Or [a] pos) tA:=by
 intro wh pins s σ H Q I h
 refine isTrue_or (thn (ha pins s σ H Q I h) fun c s1 e=>?_)
 cases c with
 | false=>exact isTrue_or_nil e
 | true=>exact e
theorem jOY (ha:PT X a tA)(hb:PW X (.BoolOp .And (b::rest) pos) tB'):PW X (.BoolOp .And (a::b::rest) pos) (tAnd tA tB'):=by
 intro wh pins s σ H Q I h
 refine isTrue_and (thn (ha pins s σ H _ I h) fun c s1 ⟨H1,I1,q1⟩=>?_)
 cases c with
 | true=>exact hb wh pins s1 σ H1 Q I1 q1
 | false=>exact⟨H1,I1,q1⟩
theorem pw_or (ha:PT X a tA)(hb:PW X (.BoolOp .Or (b::rest) pos) tB'):PW X (.BoolOp .Or (a::b::rest) pos) (tOr tA tB'):=by
 intro wh pins s σ H Q I h
 refine isTrue_or (thn (ha pins s σ H _ I h) fun c s1 ⟨H1,I1,q1⟩=>?_)
 cases c with
 | true=>exact⟨H1,I1,q1⟩
 | false=>exact hb wh pins s1 σ H1 Q I1 q1
theorem jP0 (ha:PT X a tA):PT X (.UnaryOp .Not a pos) (tNot tA):=by
 intro pins s σ H Q I h
 exact isTrue_not (ha pins s σ H (fun c H1=>Q (!c) H1) I h)
def tAndV (ta tb:TE):TE:=fun σ H Q=>ta σ H fun x H1=>∃ c,x= .bl c/\if c=true then tb σ H1 Q else Q (.bl false) H1
def tOrV (ta tb:TE):TE:=fun σ H Q=>ta σ H fun x H1=>∃ c,x= .bl c/\if c=true then Q (.bl true) H1 else tb σ H1 Q
def tNotV (ta:TE):TE:=fun σ H Q=>ta σ H fun x H1=>∃ c,x= .bl c/\Q (.bl (!c)) H1
theorem jP8 {op}{t:TE}(h:PE X a t):PE X (.BoolOp op [a] pos) t:=fun pins s σ H Q I hw=>BoolOp_one (h pins s σ H Q I hw)
theorem jPB (ha:PE X a ta)(hb:PE X (.BoolOp .And (b::rest) pos) tb):PE X (.BoolOp .And (a::b::rest) pos) (tAndV ta tb):=by
 intro pins s σ H Q I h
 refine BoolOp_and (thn (ha pins s σ H _ I h) fun v s1 ⟨x,H1,I1,r1,q1⟩=>?_)
 obtain⟨c,rfl,q1⟩:=q1
 cases r1
 refine dc ?_
 cases c with
 | true=>exact hb pins s1 σ H1 Q I1 q1
 | false=>exact⟨.bl false,H1,I1,rfl,q1⟩
theorem pe_or (ha:PE X a ta)(hb:PE X (.BoolOp .Or (b::rest) pos) tb):PE X (.BoolOp .Or (a::b::rest) pos) (tOrV ta tb):=by
 intro pins s σ H Q I h
 refine BoolOp_or (thn (ha pins s σ H _ I h) fun v s1 ⟨x,H1,I1,r1,q1⟩=>?_)
 obtain⟨c,rfl,q1⟩:=q1
 cases r1
 refine dc ?_
 cases c with
 | false=>exact hb pins s1 σ H1 Q I1 q1
 | true=>exact⟨.bl true,H1,I1,rfl,q1⟩
theorem jP9 (ha:PE X a ta):PE X (.UnaryOp .Not a pos) (tNotV ta):=by
 intro pins s σ H Q I h
 refine UnaryOp_ (thn (ha pins s σ H _ I h) fun v s1 ⟨x,H1,I1,r1,q1⟩=>?_)
 obtain⟨c,rfl,q1⟩:=q1
 cases r1
 exact not_of (dc ⟨.bl (!c),H1,I1,rfl,q1⟩)
def tIf (t:TT)(ta tb:TE):TE:=fun σ H Q=>t σ H fun c H1=>if c=true then ta σ H1 Q else tb σ H1 Q
theorem jKM {c:Expr}(hc:PT X c tA)(ha:PE X a ta)(hb:PE X b tb):PE X (.IfExp c a b pos) (tIf tA ta tb):=by
 intro pins s σ H Q I h
 refine wpAny_IfExp (thn (hc pins s σ H _ I h) fun d s1 ⟨H1,I1,q1⟩=>?_)
 cases d with
 | true=>exact ha pins s1 σ H1 Q I1 q1
 | false=>exact hb pins s1 σ H1 Q I1 q1
end
end L2
namespace L2
open PySem PySem.Spec PyProof.Rows
def SqL (K:W.Frag)(H:Hp)(a:Addr)(xs:List V):Prop:=
 Rd H a (.lst xs)\/
  ∃ (o:Obj) (its:Array Value) (n:Nat),K.lookup a=some o/\o.cls= .type "list" /\o.dict=none/\o.data= .seq its n/\its.size<=sizeLine/\Vals xs its.toList
def SqT (K:W.Frag)(H:Hp)(a:Addr)(xs:List V):Prop:=
 Rd H a (.tup xs)\/
  ∃ (o:Obj) (its:Array Value) (n:Nat),K.lookup a=some o/\o.cls= .type "tuple" /\o.data= .seq its n/\its.size<=sizeLine/\Vals xs its.toList
noncomputable def absV:Value->Option V
 | .none=>some .non
 | .bool b=>some (.bl b)
 | .int i _=>some (.int i)
 | .str x _=>some (.str x)
 | .bytes b _=>some (.byt b)
 | .float b _=>some (.flt b)
 | .ref a=>some (.ref a)
 | .type n=>some (.ty n)
 | _=>none
theorem RelV.abs {x:V}{u:Value}(r:RelV x u):absV u=some x:=by
 cases x with
 | non=>cases r; rfl
 | bl _=>cases r; rfl
 | int _=>obtain⟨t,rfl⟩:=r; rfl
 | str _=>obtain⟨t,rfl⟩:=r; rfl
 | byt _=>obtain⟨t,rfl⟩:=r; rfl
 | flt _=>obtain⟨t,rfl⟩:=r; rfl
 | ref _=>cases r; rfl
 | ty _=>cases r; rfl
theorem RelV.inj {x y:V}{u:Value}(r:RelV x u)(q:RelV y u):x=y:=aW (r.abs.symm.trans q.abs)
theorem Vals.inj:∀ {xs ys:List V}{us:List Value},Vals xs us->Vals ys us->xs=ys
 | _,_,_, .nil, .nil=>rfl
 | _,_,_, .cons r t, .cons r' t'=>by rw[r.inj r',Vals.inj t t']
section
variable {X:Cx}{pins:List (Addr×Obj)}{σ:St}{H:Hp}{s:Shared}{a:Addr}{xs ys:List V}
theorem SqL.of {K:W.Frag}(h:H a=some (.lst xs)):SqL K H a xs:= .inl (.inl h)
theorem SqT.of {K:W.Frag}(h:H a=some (.tup xs)):SqT K H a xs:= .inl (.inl h)
theorem Inv.list (I:Inv X pins σ H s)(h:SqL X.K H a xs):∃ its:List Value,Vals xs its/\PlainL s.heap a its.toArray/\xs.length<=sizeLine:=by
 rcases h with h | ⟨o,its,n,hk,hc,hd,hs,hz,r⟩
 ·obtain⟨z,its,n,r,e⟩:=h.ok I.hok
  exact⟨its,r,⟨_,n,e,rfl,rfl,rfl⟩,z⟩
 ·refine⟨its.toList,r,⟨o,n,I.kIn a o hk,hc,hd,by simpa using hs⟩,?_⟩
  have e:=r.length
  simp only [aU] at e
  omega
theorem Inv.tuple (I:Inv X pins σ H s)(h:SqT X.K H a xs):∃ its:List Value,Vals xs its/\IsTup s.heap a its.toArray/\xs.length<=sizeLine:=by
 rcases h with h | ⟨o,its,n,hk,hc,hs,hz,r⟩
 ·obtain⟨z,its,r,p⟩:=h.ok I.hok
  exact⟨its,r,p.isTup,z⟩
 ·refine⟨its.toList,r,⟨o,I.kIn a o hk,hc,n,by simpa using hs⟩,?_⟩
  have e:=r.length
  simp only [aU] at e
  omega
theorem Inv.list_inj (I:Inv X pins σ H s)(h:SqL X.K H a xs)(h':SqL X.K H a ys):xs=ys:=by
 obtain⟨its,r,⟨o,n,e,_,_,d⟩,_⟩:=I.list h
 obtain⟨its',r',⟨o',n',e',_,_,d'⟩,_⟩:=I.list h'
 rw[e] at e'; cases e'
 rw[d] at d'
 injection d' with d1 _
 have:its=its':=by simpa using bQ Array.toList d1
 subst this
 exact r.inj r'
theorem Inv.tuple_inj (I:Inv X pins σ H s)(h:SqT X.K H a xs)(h':SqT X.K H a ys):xs=ys:=by
 obtain⟨its,r,⟨o,e,_,n,d⟩,_⟩:=I.tuple h
 obtain⟨its',r',⟨o',e',_,n',d'⟩,_⟩:=I.tuple h'
 rw[e] at e'; cases e'
 rw[d] at d'
 injection d' with d1 _
 have:its=its':=by simpa using bQ Array.toList d1
 subst this
 exact r.inj r'
end
abbrev Cx.wish (X:Cx)(E:Value->Shared->Prop):Cx:= { X with xe:=E}
abbrev Cx.nox (X:Cx):Cx:=X.wish fun _ _=>False
theorem Cx.Ok.wish {X:Cx}(ok:X.Ok)(E:Value->Shared->Prop):(X.wish E).Ok:=
 ⟨ok.mod,ok.kind,ok.glob,ok.blt,ok.above,ok.inj,ok.has,ok.cab,ok.hd,ok.frames,ok.stk,ok.exf,ok.bs,ok.bsz,ok.noex,ok.exfs,ok.funs,ok.frf⟩
theorem Cx.Ok.unwish {X:Cx}{E:Value->Shared->Prop}(ok:(X.wish E).Ok):X.Ok:=
 ⟨ok.mod,ok.kind,ok.glob,ok.blt,ok.above,ok.inj,ok.has,ok.cab,ok.hd,ok.frames,ok.stk,ok.exf,ok.bs,ok.bsz,ok.noex,ok.exfs,ok.funs,ok.frf⟩
section
variable {X:Cx}{pins:List (Addr×Obj)}{σ:St}{H:Hp}{s:Shared}{E:Value->Shared->Prop}
theorem Inv.wish (I:Inv X pins σ H s)(E:Value->Shared->Prop):Inv (X.wish E) pins σ H s:=⟨I.ok.wish E,I.os,I.bare,I.base,I.loc,I.cell,I.free,I.freeC,I.pin,I.hok,I.len⟩
theorem Inv.unwish (I:Inv (X.wish E) pins σ H s):Inv X pins σ H s:=⟨I.ok.unwish,I.os,I.bare,I.base,I.loc,I.cell,I.free,I.freeC,I.pin,I.hok,I.len⟩
theorem SP.unwish {D:Ends}{f:Flow}{s':Shared}(h:SP (X.wish E) pins D f s'):SP X pins D f s':=by
 cases f with
 | next=>obtain⟨σ',H',I,q⟩:=h; exact⟨σ',H',I.unwish,q⟩
 | brk=>obtain⟨σ',H',I,q⟩:=h; exact⟨σ',H',I.unwish,q⟩
 | cont=>obtain⟨σ',H',I,q⟩:=h; exact⟨σ',H',I.unwish,q⟩
 | ret u=>obtain⟨v,σ',H',I,r,q⟩:=h; exact⟨v,σ',H',I.unwish,r,q⟩
theorem PSs.nox {st:List Stmt}{t:TS}(h:PSs X.nox st t):PSs X st t:=fun pins s σ H D I hw=>
 b0 (h pins s σ H D (I.wish _) hw) (fun _ _ q=>q.unwish) fun _ _ z=>False.elim z
end
section
variable {X:Cx}{st:Stmt}{rest:List Stmt}{t u:TS}{e:Expr}{te:TE}{pos:Pos}
def tNext:TS:=fun D σ H=>D.nx σ H
def tSeq (t u:TS):TS:=fun D σ H=>t { D with nx:=u D} σ H
theorem jFT:PSs X [] tNext:=fun _ _ σ H _ I h=>eY ⟨σ,H,I,h⟩
theorem jAA (h1:PS X st t)(h2:PSs X rest u):PSs X (st::rest) (tSeq t u):=by
 intro pins s σ H D I h
 refine wpAny_execs_cons (thn (h1 pins s σ H { D with nx:=u D} I h) fun f s1 q=>?_)
 cases f with
 | next=>
  obtain⟨σ',H',I',q⟩:=q
  exact h2 pins s1 σ' H' D I' q
 | ret v=>exact q
 | brk=>exact q
 | cont=>exact q
theorem jBG (h1:PS X st t):PSs X [st] t:=by
 intro pins s σ H D I h
 refine wpAny_execs_cons (thn (h1 pins s σ H D I h) fun f s1 q=>?_)
 cases f with
 | next=>exact eY q
 | ret v=>exact q
 | brk=>exact q
 | cont=>exact q
def jOQ:TS:=fun D σ H=>D.bk σ H
theorem jGN:PS X (.Break pos) jOQ:=fun _ _ σ H _ I h=>wpAny_Break ⟨σ,H,I,h⟩
theorem Inv.quiet {pins:List (Addr×Obj)}{σ:St}{H:Hp}{s:Shared}(I:Inv X pins σ H s):interactive X.env=false:=by simp [interactive,I.ok.kind]
def tDrop (te:TE):TS:=fun D σ H=>te σ H fun _ H1=>D.nx σ H1
theorem jMZ (he:PE X e te)(hs:swapsWith e none pos.line X.env=pure false:=by rfl):PS X (.Expr e pos) (tDrop te):=by
 intro pins s σ H D I h
 exact wpAny_Expr_any (thn (he pins s σ H _ I h) fun v s1 ⟨x,H1,I1,r1,q1⟩=>⟨σ,H1,I1,q1⟩) I.quiet hs
def tRet (te:TE):TS:=fun D σ H=>te σ H D.rt
theorem jDK (he:PE X e te):PS X (.Return (some e) pos) (tRet te):=by
 intro pins s σ H D I h
 exact wpAny_Return_some (thn (he pins s σ H _ I h) fun v s1 ⟨x,H1,I1,r1,q1⟩=>⟨x,σ,H1,I1,r1,q1⟩)
def tIfS (c:TT)(t u:TS):TS:=fun D σ H=>c σ H fun b H1=>if b=true then t D σ H1 else u D σ H1
theorem ps_if {c:Expr}{a b:List Stmt}{tc:TT}(hc:PT X c tc)(ha:PSs X a t)(hb:PSs X b u):PS X (.If c a b pos) (tIfS tc t u):=by
 intro pins s σ H D I h
 refine wpAny_If (thn (hc pins s σ H _ I h) fun d s1 ⟨H1,I1,q1⟩=>?_)
 cases d with
 | true=>exact ha pins s1 σ H1 D I1 q1
 | false=>exact hb pins s1 σ H1 D I1 q1
end
abbrev TG:=V->St->Hp->(St->Hp->Prop)->Prop
abbrev TGs:=List V->St->Hp->(St->Hp->Prop)->Prop
def PG (X:Cx)(target:Expr)(t:TG):Prop:=
 ∀ (pins:List (Addr×Obj)) (s:Shared) (σ:St) (H:Hp) (v:V) (u:Value) (Q:St->Hp->Prop),Inv X pins σ H s->RelV v u->t v σ H Q->
  wpAny (model X.prog X.w) X.A (assign target X.env u) (fun _ s'=>∃ σ' H',Inv X pins σ' H' s'/\Q σ' H') X.xe s
def PGs (X:Cx)(ts:List Expr)(t:TGs):Prop:=
 ∀ (pins:List (Addr×Obj)) (s:Shared) (σ:St) (H:Hp) (vs:List V) (us:List Value) (Q:St->Hp->Prop),Inv X pins σ H s->Vals vs us->t vs σ H Q->
  wpAny (model X.prog X.w) X.A (assignInOrder ((assignEach ts X.env).map (·.2)) us) (fun _ s'=>∃ σ' H',Inv X pins σ' H' s'/\Q σ' H') X.xe s
abbrev TSet:=V->V->V->Hp->(Hp->Prop)->Prop
def PSet (X:Cx)(t:TSet):Prop:=
 ∀ (pins:List (Addr×Obj)) (s:Shared) (σ:St) (H:Hp) (o i v:V) (ov iv u:Value) (Q:Hp->Prop),Inv X pins σ H s->RelV o ov->RelV i iv->RelV v u->t o i v H Q->
  wpAny (model X.prog X.w) X.A (setItem ov iv u) (fun _ s'=>∃ H',Inv X pins σ H' s'/\Q H') X.xe s
abbrev TIp:=V->V->Hp->VK->Prop
def PIp (X:Cx)(op:Operator)(t:TIp):Prop:=
 ∀ (pins:List (Addr×Obj)) (s:Shared) (σ:St) (H:Hp) (x y:V) (v u:Value) (Q:VK),Inv X pins σ H s->RelV x v->RelV y u->t x y H Q->
  wpAny (model X.prog X.w) X.A (inplaceOp op v u) (EP X pins σ Q) X.xe s
section
variable {X:Cx}{pos:Pos}
def kO (i:Nat):TG:=fun v σ H Q=>Q (σ.set i (some v)) H
theorem jIK {i:Nat}{x:Str}(hN:X.N.Nodup)(hi:X.N[i]?=some x)(hx:Loc X.env.scope x)(hf:X.fn x=true\/X.env.scope.names.lookup x=some .local:=by first | exact .inl rfl | exact .inr rfl | assumption):PG X (.Name x pos) (kO i):=by
 intro pins s σ H v u Q I r h
 exact wpAny_assign_Name (jDW I hN hi hx r (fun s' I'=>⟨_,H,I',h⟩) hf)
def gNil:TGs:=fun vs σ H Q=>vs=[]/\Q σ H
def gCons (t:TG)(u:TGs):TGs:=fun vs σ H Q=>∃ v r,vs=v::r/\t v σ H fun σ' H'=>u r σ' H' Q
theorem jN7:PGs X [] gNil:=by
 intro pins s σ H vs us Q I r h
 obtain⟨e,h⟩:=h
 subst e
 cases r
 exact assignInOrder_nil ⟨σ,H,I,h⟩
theorem jKK {e:Expr}{es:List Expr}{t:TG}{u:TGs}(h1:PG X e t)(h2:PGs X es u)
  (hs:(assignEach (e::es) X.env).map (·.2)=assign e X.env::(assignEach es X.env).map (·.2):=by rfl):PGs X (e::es) (gCons t u):=by
 intro pins s σ H vs us Q I r h
 obtain⟨v,vr,e1,h⟩:=h
 subst e1
 cases r with
 | cons r rr=>
  rw[hs]
  refine assignInOrder_cons (thn (h1 pins s σ H _ _ _ I r h) fun _ s1 ⟨σ1,H1,I1,q1⟩=>?_)
  exact h2 pins s1 σ1 H1 _ _ Q I1 rr q1
def gTup (K:W.Frag)(n:Nat)(t:TGs):TG:=fun v σ H Q=>∃ a xs,v= .ref a/\SqT K H a xs/\xs.length=n/\t xs σ H Q
theorem jP6 {es:List Expr}{k:Nat}{t:TGs}{n:Nat}(hc:X.calm=true)(h:PGs X es t)
  (hn:(assignEach es X.env).length=n:=by rfl) (hst:(assignEach es X.env).findIdx? (·.1)=none:=by rfl):PG X (.Tuple es k pos) (gTup X.K n t):=by
 intro pins s σ H v u Q I r hw
 obtain⟨a,xs,e1,hq,hl,hw⟩:=hw
 subst e1
 cases r
 obtain⟨its,rv,ht,hz⟩:=I.tuple hq
 refine assign_Tuple_tuple (I.ok.hd hc) ht (by simp [hn,<- hl,rv.length]) hst fun h' hx=>?_
 have I1:Inv X pins σ H { s with heap:=h'} :=I.kept (t':=s.toks) fun b o e=>hx b o (bu (aL e)) e
 exact h pins _ σ H xs _ Q I1 (by simpa using rv) hw
def gSub (to ti:TE)(t:TSet):TG:=fun v σ H Q=>to σ H fun o H1=>ti σ H1 fun i H2=>t o i v H2 fun H3=>Q σ H3
theorem jLW {o i:Expr}{to ti:TE}{t:TSet}(ho:PE X o to)(hi:PE X i ti)(hs:PSet X t)
  (ha:∀ v,assign (.Subscript o i pos) X.env v=(do
   let ov <- holding [v] (eval o X.env)
   let iv <- holding [v,ov] (eval i X.env)
   standAt pos
   holding [v,ov,iv] (setItem ov iv v)
   release [v,ov,iv] []):=by intro _; rfl):PG X (.Subscript o i pos) (gSub to ti t):=by
 intro pins s σ H v u Q I r h
 rw[ha]
 refine ah (cJ (thn (ho pins s σ H _ I h) fun ov s1 ⟨x,H1,I1,r1,q1⟩=>?_))
 refine ah (cJ (thn (hi pins s1 σ H1 _ I1 q1) fun iv s2 ⟨y,H2,I2,r2,q2⟩=>?_))
 refine ah (eS (ah (cJ (thn (hs pins s2 σ H2 x y v ov iv u _ I2 r1 r2 r q2) fun _ s3 ⟨H3,I3,q3⟩=>?_))))
 exact wpAny_release ⟨σ,H3,I3,q3⟩
def tAsg (te:TE)(g:TG):TS:=fun D σ H=>te σ H fun x H1=>g x σ H1 D.nx
theorem jLV {tg e:Expr}{te:TE}{g:TG}(he:PE X e te)(hg:PG X tg g)(hs:swapsWithSole [tg] e pos.line X.env=pure false:=by rfl)(hw:swappedStores [tg] e X.env=pure none:=by rfl)
  (h1:(assignEach [tg] X.env).map (·.2)=[assign tg X.env]:=by rfl):PS X (.Assign [tg] e pos) (tAsg te g):=by
 intro pins s σ H D I h
 refine wpAny_Assign_stores (thn (he pins s σ H _ I h) fun v s1 ⟨x,H1,I1,r1,q1⟩=>?_) hs hw
 rw[h1]
 exact thn (hg pins s1 σ H1 x v _ I1 r1 q1) fun _ s2 q=>q
theorem jD3 {i:Nat}{x:Str}{e:Expr}{te:TE}{pos':Pos}(hN:X.N.Nodup)(hi:X.N[i]?=some x)(hx:Loc X.env.scope x)(he:PE X e te)(hs:swapsWith e (some (.Name x pos')) pos.line X.env=pure false:=by rfl)(hf:X.fn x=true\/X.env.scope.names.lookup x=some .local:=by first | exact .inl rfl | exact .inr rfl | assumption):
  PS X (.Assign [.Name x pos'] e pos) (tAsg te (kO i)):=by
 intro pins s σ H D I h
 refine wpAny_Assign_Name (thn (he pins s σ H _ I h) fun v s1 ⟨y,H1,I1,r1,q1⟩=>?_) hs
 exact jDW I1 hN hi hx r1 (fun s2 I2=>⟨_,H1,I2,q1⟩) hf
def tAug (i:Nat)(te:TE)(ti:TIp):TS:=fun D σ H=>∃ x,σ[i]?=some (some x)/\te σ H fun y H1=>ti x y H1 fun z H2=>D.nx (σ.set i (some z)) H2
theorem jP2 {i:Nat}{x:Str}{e:Expr}{te:TE}{op:Operator}{ti:TIp}{pos':Pos}(hN:X.N.Nodup)(hi:X.N[i]?=some x)(hx:Loc X.env.scope x)(he:PE X e te)(ho:PIp X op ti)(hf:X.fn x=true\/X.env.scope.names.lookup x=some .local:=by first | exact .inl rfl | exact .inr rfl | assumption):
  PS X (.AugAssign (.Name x pos') op e pos) (tAug i te ti):=by
 intro pins s σ H D I h
 obtain⟨v,e1,h⟩:=h
 obtain⟨m,hn,hl⟩:=I.loc
 have vis:Vis X.env.scope x:=by rcases hx with k | k; exact .inl k; exact .inr (.inl k)
 obtain⟨u,r,l⟩:=hl i x v hi e1 vis
 refine wpAny_AugAssign_Name ?_
 have go:wpAny (model X.prog X.w) X.A (eval e X.env) (fun w s₂=>wpAny (model X.prog X.w) X.A (inplaceOp op u w) (fun r s₃=>wpAny (model X.prog X.w) X.A (storeName X.env x r) (fun _=>SP X pins D .next) X.xe s₃) X.xe s₂) X.xe s:=by
  refine thn (he pins s σ H _ I h) fun w s1 ⟨y,H1,I1,r1,q1⟩=>?_
  refine thn (ho pins s1 σ H1 v y u w _ I1 r r1 q1) fun z s2 ⟨zv,H2,I2,r2,q2⟩=>?_
  exact jDW I2 hN hi hx r2 (fun s3 I3=>⟨_,H2,I3,q2⟩) hf
 rcases l with ⟨hk,hm⟩ | ⟨hk,c,hc,hcell⟩
 ·exact wpAny_loadName_local I.ok.kind hk hn hm go
 ·rcases hk with hk | hk
  ·exact wpAny_loadName_cell I.ok.kind hk hc hcell go
  ·rcases hx with k | k
   ·have:X.env.scope.names.lookup x=some .free:=hk
    rw[k] at this; cases this
   ·have:X.env.scope.names.lookup x=some .free:=hk
    rw[k] at this; cases this
def ipI (f:Int->Int->Int):TIp:=fun x y H Q=>∃ i j,x= .int i/\y= .int j/\Q (.int (f i j)) H
theorem jQ1:PIp X .Add (ipI fun i j=>i+j):=by
 intro pins s σ H x y v u Q I r1 r2 h
 obtain⟨i,j,e1,e2,q⟩:=h
 subst e1; subst e2
 obtain⟨t,rfl⟩:=r1
 obtain⟨t',rfl⟩:=r2
 exact iadd_int ⟨.int _,H,I.tok _,⟨_,rfl⟩,q⟩
theorem jQ0:PIp X .Sub (ipI fun i j=>i - j):=by
 intro pins s σ H x y v u Q I r1 r2 h
 obtain⟨i,j,e1,e2,q⟩:=h
 subst e1; subst e2
 obtain⟨t,rfl⟩:=r1
 obtain⟨t',rfl⟩:=r2
 exact isub_int ⟨.int _,H,I.tok _,⟨_,rfl⟩,q⟩
end
section
variable {X:Cx}{pos:Pos}
def jLS (c:TT)(tb:TS):TS:=fun D σ H=>∃ W:Nat->St->Hp->Prop,(∃ m,W m σ H)/\∀ m σ H,W m σ H->
 c σ H fun b H1=>if b=true then ∃ N:St->Hp->Prop,(∀ σ' H',N σ' H'->∃ m',m'<m/\W m' σ' H')/\tb { D with nx:=N,ct:=N,bk:=D.nx} σ H1 else D.nx σ H1
theorem jKH {c:Expr}{body:List Stmt}{tc:TT}{tb:TS}(hp:PassesOwn (model X.prog X.w) X.A X.env X.xe)(hc:PT X c tc)(hb:PSs X body tb):PS X (.While c body [] pos) (jLS tc tb):=by
 intro pins s σ H D I h
 obtain⟨W,⟨m0,w0⟩,turn⟩:=h
 refine wpAny_While (codeAny_whileLoop (fun n s'=>∃ σ' H',Inv X pins σ' H' s'/\W n σ' H') ?_ m0 ⟨σ,H,I,w0⟩)
 rintro n s1 ⟨σ1,H1,I1,w1⟩
 refine da hp (thn (hc pins s1 σ1 H1 _ I1 (turn n σ1 H1 w1)) fun b s2 ⟨H2,I2,q2⟩=>?_)
 cases b with
 | true=>
  obtain⟨N,hN,q2⟩:=q2
  rw[ag rfl]
  refine da hp (thn (hb pins s2 σ1 H2 _ I2 q2) fun f s3 q3=>?_)
  cases f with
  | next=>
   obtain⟨σ3,H3,I3,n3⟩:=q3
   obtain⟨m',hm,w3⟩:=hN σ3 H3 n3
   exact⟨m',hm,σ3,H3,I3,w3⟩
  | cont=>
   obtain⟨σ3,H3,I3,n3⟩:=q3
   obtain⟨m',hm,w3⟩:=hN σ3 H3 n3
   exact⟨m',hm,σ3,H3,I3,w3⟩
  | brk=>exact q3
  | ret v=>exact q3
 | false=>
  rw[af ak]
  exact eY ⟨σ1,H2,I2,q2⟩
end
structure It where
 go:Nat->Hp->Prop
 yld:Nat->Hp->V->Hp->Prop
 stop:Nat->Hp->Prop
def FpOk (X:Cx)(pins:List (Addr×Obj))(H:Hp)(b:Addr):Prop:=
 H b=none/\b≠X.env.locals/\b∉X.fs/\(b∈X.ex\/X.s₀.heap.objs.size<=b)/\(∀ x c,X.env.cells.lookup x=some c->c≠b)/\∀ p∈X.pn++pins,p.1≠b
theorem Inv.fpOk {X:Cx}{pins:List (Addr×Obj)}{σ:St}{H H':Hp}{s:Shared}{b:Addr}(I:Inv X pins σ H s)(hb:s.heap.objs.size<=b)(hn:H' b=none):FpOk X pins H' b:=by
 refine⟨hn,ff (be I.lt hb),I.nofs hb, .inr (bD I.sz hb),fun x c e z=>?_,fun p hp z=>?_⟩
 ·obtain⟨v,q⟩:=I.cell x c e
  exact absurd (be q.lt (by rw[z]; exact hb)) (cU _)
 ·exact absurd (be (aL (I.pin p hp).1) (by rw[z]; exact hb)) (cU _)
structure Turn (P:Program)(w:World)(K:W.Frag)(tg:Expr)(J:It)(fp:List Addr)(it:Addr)(tn:Nat->Heap->Prop):Prop where
 mem:it∈fp
 obj:∀ i h,tn i h->∀ b∈fp,∃ o,h.get? b=some o/\∀ v,o.data≠ .cell v
 keep:∀ i h h',tn i h->(∀ b∈fp,∀ o,h.get? b=some o->h'.get? b=some o)->tn i h'
 item:∀ (X:Cx),X.prog=P->X.w=w->X.K=K->X.calm=true->∀ (i:Nat) (pins:List (Addr×Obj)) (s:Shared) (σ:St) (H:Hp) (E:Value->Shared->Prop),Inv X pins σ H s->(∀ b∈fp,FpOk X pins H b)->tn i s.heap->J.go i H->
  wpAny (model P w) X.A (pyNext (.ref it)) (fun r s1=>∃ u,r=some u/\
   wpAny (model P w) X.A (letOwnedTupleGo tg (.ref it) u) (fun _ s2=>∃ x H',Inv X pins σ H' s2/\RelV x u/\J.yld i H x H'/\tn (i+1) s2.heap/\∀ b∈fp,H' b=none) E s1) E s
 done:∀ (X:Cx),X.prog=P->X.w=w->X.K=K->X.calm=true->∀ (i:Nat) (pins:List (Addr×Obj)) (s:Shared) (σ:St) (H:Hp) (E:Value->Shared->Prop),Inv X pins σ H s->(∀ b∈fp,FpOk X pins H b)->tn i s.heap->J.stop i H->
  wpAny (model P w) X.A (pyNext (.ref it)) (fun r s1=>r=none/\Inv X pins σ H s1) E s
 self:∀ (A:Around) (i:Nat) (s:Shared) (Q:Value->Shared->Prop) (E:Value->Shared->Prop),tn i s.heap->Q (.ref it) s->wpAny (model P w) A (pyIter (.ref it)) Q E s
abbrev TI:=St->Hp->(It->Hp->Prop)->Prop
def PIE (X:Cx)(pins:List (Addr×Obj))(σ:St)(tg:Expr)(R:It->Hp->Prop)(itv:Value)(s2:Shared):Prop:=
 ∃ (it:Addr) (fp:List Addr) (tn:Nat->Heap->Prop) (J:It) (H':Hp),itv= .ref it/\Inv X pins σ H' s2/\Turn X.prog X.w X.K tg J fp it tn/\tn 0 s2.heap/\(∀ b∈fp,FpOk X pins H' b)/\R J H'
def PI (X:Cx)(tg iter:Expr)(wi:TI):Prop:=
 ∀ (pins:List (Addr×Obj)) (s:Shared) (σ:St) (H:Hp) (R:It->Hp->Prop),Inv X pins σ H s->wi σ H R->
  wpAny (model X.prog X.w) X.A (eval iter X.env) (fun v s1=>wpAny (model X.prog X.w) X.A (pyIter v) (PIE X pins σ tg R) X.xe s1) X.xe s
theorem go_of {M:Model}{A:Around}{E:Value->Shared->Prop}{s:Shared}{tg:Expr}{it:Addr}{u:Value}{o:Obj}{n:String}{vs:Array Value}{Q:Unit->Shared->Prop}(ho:s.heap.get? it=some o)(hc:o.cls= .type n)(hd:o.data= .fields vs)
  (hn: ["enumerate","zip","dict_itemiterator","dict_reverseitemiterator","odict_iterator","itertools.zip_longest","itertools.pairwise"].contains n=false) (hQ:Q () s):wpAny M A (letOwnedTupleGo tg (.ref it) u) Q E s:=by
 unfold letOwnedTupleGo
 cases tg <;> first
  | exact aV hQ
  | (cases u <;> first
    | exact aV hQ
    | (refine ah (wpAny_load ho ?_)
       rw [hc, hd]
       show wpAny M A (if (["enumerate", "zip", "dict_itemiterator", "dict_reverseitemiterator", "odict_iterator", "itertools.zip_longest", "itertools.pairwise"].contains n && vs[0]? == some (rawInt _)) = true then _ else _) Q E s
       rw [af (by intro h; rw [hn, fk] at h; cases h)]
       exact aV hQ))
def Itl (K:W.Frag)(a:Addr):It:=
 ⟨fun i H=>∃ xs x,SqL K H a xs/\xs[i]?=some x,fun i H x H'=>H'=H/\∀ xs,SqL K H a xs->xs[i]?=some x,fun i H=>∃ xs,SqL K H a xs/\xs.length<=i⟩
def Itt (K:W.Frag)(a:Addr):It:=
 ⟨fun i H=>∃ xs x,SqT K H a xs/\xs[i]?=some x,fun i H x H'=>H'=H/\∀ xs,SqT K H a xs->xs[i]?=some x,fun i H=>∃ xs,SqT K H a xs/\xs.length<=i⟩
def Itr (lo:Int)(n:Nat):It:=⟨fun i _=>i<n,fun i H x H'=>H'=H/\x= .int (lo+i),fun i _=>n<=i⟩
theorem jI3 {P:Program}{w:World}{K:W.Frag}{tg:Expr}(a it:Addr):Turn P w K tg (Itl K a) [it] it (fun i h=>h.IsListIter it a i) where
 mem:=by simp
 obj:=fun i h st b hb=>by
  have e:b=it:=by simpa using hb
  subst e
  obtain⟨o,e,c,d⟩:=st
  exact⟨o,e,fun v z=>by rw[d] at z; cases z⟩
 keep:=fun i h h' st k=>st.at fun o e=>k it (by simp) o e
 item:=by
  intro X hP hw hK hc i pins s σ H E I hf st hg
  subst hP hw hK
  obtain⟨xs,x,hq,hx⟩:=hg
  obtain⟨its,rv,p,hz⟩:=I.list hq
  obtain⟨u,hu,ru⟩:=rv.get hx
  obtain⟨f0,f1,f2,f3,f4,f5⟩:=hf it (by simp)
  refine wpAny_pyNext_list_item st p.isList (x:=u) (by simpa using hu) fun h' st' sb=>?_
  have I1:Inv X pins σ H { s with heap:=h'} :=I.turned (t':=s.toks) (fun b o hb e=>(sb.2 b hb).trans e) f0 f1 f3 f4 f5
  obtain⟨o,e,c,d⟩:=id st'
  exact⟨u,rfl,go_of (s:= { s with heap:=h'}) e c d (by decide) ⟨x,H,I1,ru,⟨rfl,fun ys hy=>by rw[I.list_inj hy hq]; exact hx⟩,st',fun b hb=>(hf b hb).1⟩⟩
 done:=by
  intro X hP hw hK hc i pins s σ H E I hf st hg
  subst hP hw hK
  obtain⟨xs,hq,hx⟩:=hg
  obtain⟨its,rv,p,hz⟩:=I.list hq
  obtain⟨f0,f1,f2,f3,f4,f5⟩:=hf it (by simp)
  have hl:=rv.length
  exact wpAny_pyNext_list_end (I.ok.hd hc) st p.isList (by simp; omega) fun h' eb=>⟨rfl,I.turned (t':=s.toks) (fun b o hb e=>eb b o hb e) f0 f1 f3 f4 f5⟩
 self:=fun _ _ _ _ _ st h=>wpAny_pyIter_listiter st h
theorem jHE {P:Program}{w:World}{K:W.Frag}{tg:Expr}(a it:Addr):Turn P w K tg (Itt K a) [it] it (fun i h=>h.IsTupleIter it a i) where
 mem:=by simp
 obj:=fun i h st b hb=>by
  have e:b=it:=by simpa using hb
  subst e
  obtain⟨o,e,c,d⟩:=st
  exact⟨o,e,fun v z=>by rw[d] at z; cases z⟩
 keep:=fun i h h' st k=>st.at fun o e=>k it (by simp) o e
 item:=by
  intro X hP hw hK hc i pins s σ H E I hf st hg
  subst hP hw hK
  obtain⟨xs,x,hq,hx⟩:=hg
  obtain⟨its,rv,p,hz⟩:=I.tuple hq
  obtain⟨u,hu,ru⟩:=rv.get hx
  obtain⟨f0,f1,f2,f3,f4,f5⟩:=hf it (by simp)
  refine wpAny_pyNext_tuple_item st (show s.heap.IsTuple a its.toArray from p) (x:=u) (by simpa using hu) fun h' st' sb=>?_
  have I1:Inv X pins σ H { s with heap:=h'} :=I.turned (t':=s.toks) (fun b o hb e=>(sb.2 b hb).trans e) f0 f1 f3 f4 f5
  obtain⟨o,e,c,d⟩:=id st'
  exact⟨u,rfl,go_of (s:= { s with heap:=h'}) e c d (by decide) ⟨x,H,I1,ru,⟨rfl,fun ys hy=>by rw[I.tuple_inj hy hq]; exact hx⟩,st',fun b hb=>(hf b hb).1⟩⟩
 done:=by
  intro X hP hw hK hc i pins s σ H E I hf st hg
  subst hP hw hK
  obtain⟨xs,hq,hx⟩:=hg
  obtain⟨its,rv,p,hz⟩:=I.tuple hq
  obtain⟨f0,f1,f2,f3,f4,f5⟩:=hf it (by simp)
  have hl:=rv.length
  exact wpAny_pyNext_tuple_end (I.ok.hd hc) st (show s.heap.IsTuple a its.toArray from p) (by simp; omega) fun h' eb=>⟨rfl,I.turned (t':=s.toks) (fun b o hb e=>eb b o hb e) f0 f1 f3 f4 f5⟩
 self:=fun _ _ _ _ _ st h=>wpAny_pyIter_tupleiter st h
theorem jHF {P:Program}{w:World}{K:W.Frag}{tg:Expr}(it:Addr)(lo:Int)(n:Nat):Turn P w K tg (Itr lo n) [it] it (fun i h=>IsRangeIter h it (lo+(i:Nat)*1) ((n:Int) - (i:Nat)) 1) where
 mem:=by simp
 obj:=fun i h st b hb=>by
  have e:b=it:=by simpa using hb
  subst e
  exact⟨_,st,fun v z=>by
   have z':Data.fields _=Data.cell v:=z
   cases z'⟩
 keep:=fun i h h' st k=>k it (by simp) _ st
 item:=by
  intro X hP hw hK hc i pins s σ H E I hf st hg
  subst hP hw hK
  obtain⟨f0,f1,f2,f3,f4,f5⟩:=hf it (by simp)
  have W:=Walks.range (prog:=X.prog) (w:=X.w) (I.ok.hd hc) it lo 1 n
  refine W.item i s _ _ hg st fun v h' tk hv st' kk=>?_
  obtain⟨t,rfl⟩:=hv
  have I1:Inv X pins σ H { s with heap:=h',toks:=tk} :=I.turned (fun b o hb e=>kk b o (by simpa using hb) e) f0 f1 f3 f4 f5
  refine⟨_,rfl,go_of (s:= { s with heap:=h',toks:=tk}) (n:= "range_iterator") st' rfl rfl (by decide) ⟨.int (lo+i),H,I1,⟨t,?_⟩,⟨rfl,rfl⟩,st',fun b hb=>(hf b hb).1⟩⟩
  rw[Int.mul_one]
 done:=by
  intro X hP hw hK hc i pins s σ H E I hf st hg
  subst hP hw hK
  obtain⟨f0,f1,f2,f3,f4,f5⟩:=hf it (by simp)
  exact wpAny_pyNext_range_end (I.ok.hd hc) st (by have:n<=i:=hg; omega) fun h' eb=>⟨rfl,I.turned (t':=s.toks) (fun b o hb e=>eb b o hb e) f0 f1 f3 f4 f5⟩
 self:=fun _ _ _ _ _ st h=>wpAny_pyIter_rangeiter st h
end L2
namespace L2
open PySem PySem.Spec PyProof.Rows
section
variable {X:Cx}{tg:Expr}
def iList (K:W.Frag)(tl:TE):TI:=fun σ H R=>tl σ H fun x H1=>∃ a,x= .ref a/\(∃ xs,SqL K H1 a xs)/\R (Itl K a) H1
def iTup (K:W.Frag)(tl:TE):TI:=fun σ H R=>tl σ H fun x H1=>∃ a,x= .ref a/\(∃ xs,SqT K H1 a xs)/\R (Itt K a) H1
theorem jN5 {l:Expr}{tl:TE}(hl:PE X l tl):PI X tg l (iList X.K tl):=by
 intro pins s σ H R I h
 refine thn (hl pins s σ H _ I h) fun v s1 ⟨x,H1,I1,r1,q1⟩=>?_
 obtain⟨a,e,⟨xs,hq⟩,q⟩:=q1
 subst e
 cases r1
 obtain⟨its,rv,p,hz⟩:=I1.list hq
 refine dE p.isList ?_
 refine⟨s1.heap.objs.size,[s1.heap.objs.size],_,_,H1,rfl,I1.kept (t':=s1.toks) fun b o e=>am _ e,jI3 a _,⟨_,aQ _ rfl,rfl,rfl⟩,fun b hb=>?_,q⟩
 have e:b=s1.heap.objs.size:=by simpa using hb
 subst e
 exact I1.fpOk (az _) (I1.hok.fresh (az _))
theorem jP5 {l:Expr}{tl:TE}(hl:PE X l tl):PI X tg l (iTup X.K tl):=by
 intro pins s σ H R I h
 refine thn (hl pins s σ H _ I h) fun v s1 ⟨x,H1,I1,r1,q1⟩=>?_
 obtain⟨a,e,⟨xs,hq⟩,q⟩:=q1
 subst e
 cases r1
 obtain⟨its,rv,p,hz⟩:=I1.tuple hq
 refine wpAny_pyIter_tuple (show s1.heap.IsTuple a its.toArray from p) ?_
 refine⟨s1.heap.objs.size,[s1.heap.objs.size],_,_,H1,rfl,I1.kept (t':=s1.toks) fun b o e=>am _ e,jHE a _,⟨_,aQ _ rfl,rfl,rfl⟩,fun b hb=>?_,q⟩
 have e:b=s1.heap.objs.size:=by simpa using hb
 subst e
 exact I1.fpOk (az _) (I1.hok.fresh (az _))
theorem jGK {pins:List (Addr×Obj)}{σ:St}{H:Hp}{s:Shared}{R:It->Hp->Prop}{E:Value->Shared->Prop}{lo hi:Int}{t u v:Tok}{tk:Nat}(I:Inv X pins σ H s)(h1: -(2 ^ 62)<=lo)(h2:lo<2 ^ 62)(h3: -(2 ^ 62)<=hi)(h4:hi<2 ^ 62)
  (q:R (Itr lo (hi - lo).toNat) H):wpAny (model X.prog X.w) X.A (pyIter (.ref s.heap.objs.size)) (PIE X pins σ tg R) E { s with heap:=s.heap.push { cls:= .type "range",data:= .fields #[.int lo t, .int hi u, .int 1 v]},toks:=tk} :=by
 refine wpAny_pyIter_range (IsRange.new ..) (small_one h1 h2 h3 h4) ?_
 have I1:Inv X pins σ H { s with heap:=s.heap.push { cls:= .type "range",data:= .fields #[.int lo t, .int hi u, .int 1 v]},toks:=tk} :=I.kept fun b o e=>am _ e
 refine⟨(s.heap.push { cls:= .type "range",data:= .fields #[.int lo t, .int hi u, .int 1 v]}).objs.size,[(s.heap.push { cls:= .type "range",data:= .fields #[.int lo t, .int hi u, .int 1 v]}).objs.size],_,_,H,rfl,
  I1.kept (t':=tk) fun b o e=>am _ e,jHF _ lo (hi - lo).toNat,?_,fun b hb=>?_,q⟩
 ·have e1:lo+((0:Nat):Int)*1=lo:=by simp
  have e2:(((hi - lo).toNat:Nat):Int) - ((0:Nat):Int)=Builtin.Range.rangeSize lo hi 1:=by rw[rangeSize_one]; split <;> omega
  show IsRangeIter _ _ (lo+((0:Nat):Int)*1) ((((hi - lo).toNat:Nat):Int) - ((0:Nat):Int)) 1
  rw[e1,e2]
  exact aQ _ rfl
 ·have e:b=(s.heap.push { cls:= .type "range",data:= .fields #[.int lo t, .int hi u, .int 1 v]}).objs.size:=by simpa using hb
  subst e
  exact I1.fpOk (az _) (I1.hok.fresh (az _))
def iRng1 (ta:TA):TI:=fun σ H R=>ta σ H fun vs H1=>∃ j:Int,vs=[.int j]/\ -(2 ^ 62)<=j/\j<2 ^ 62/\R (Itr 0 j.toNat) H1
def iRng2 (ta:TA):TI:=fun σ H R=>ta σ H fun vs H1=>∃ i j:Int,vs=[.int i, .int j]/\(-(2 ^ 62)<=i/\i<2 ^ 62/\ -(2 ^ 62)<=j/\j<2 ^ 62)/\R (Itr i (j - i).toNat) H1
theorem jEU {a:Expr}{ta:TA}{p pos:Pos}(hg:Gl X "range")(hm:X.mg "range" =none)(ha:PA X [a] ta)(hs:starEach [a] X.env=[(false,eval a X.env)]:=by rfl):PI X tg (.Call (.Name "range" p) [a] [] pos) (iRng1 ta):=by
 intro pins s σ H R I h
 refine Call_ (jDB I hg hm boot_range (cR (thn (ha pos pins s σ H _ I h) fun us s1 ⟨vs,H1,I1,r1,q1⟩=>?_) hs rfl))
 obtain⟨j,e,q1,q2,q⟩:=q1
 subst e
 cases r1 with
 | cons r rr=>
  cases rr
  obtain⟨t,rfl⟩:=r
  exact call_range_1 (jGK I1 (by omega) (by omega) q1 q2 (by simpa using q))
theorem jIJ {a b:Expr}{ta:TA}{p pos:Pos}(hg:Gl X "range")(hm:X.mg "range" =none)(ha:PA X [a,b] ta)(hs:starEach [a,b] X.env=[(false,eval a X.env),(false,eval b X.env)]:=by rfl)(hs2:starEach [b] X.env=[(false,eval b X.env)]:=by rfl):
  PI X tg (.Call (.Name "range" p) [a,b] [] pos) (iRng2 ta):=by
 intro pins s σ H R I h
 refine Call_ (jDB I hg hm boot_range (cR (thn (ha pos pins s σ H _ I h) fun us s1 ⟨vs,H1,I1,r1,q1⟩=>?_) (by rw[hs,hs2]) (by rw[hs2]; rfl)))
 obtain⟨i,j,e,⟨q1,q2,q3,q4⟩,q⟩:=q1
 subst e
 cases r1 with
 | cons r rr=>
  cases rr with
  | cons r' rr=>
   cases rr
   obtain⟨t,rfl⟩:=r
   obtain⟨t',rfl⟩:=r'
   exact call_range_2 (jGK I1 q1 q2 q3 q4 q)
def tFor (wi:TI)(g:TG)(tb:TS):TS:=fun D σ H=>wi σ H fun J H1=>∃ W:Nat->Nat->St->Hp->Prop,(∃ m,W 0 m σ H1)/\∀ i m σ H,W i m σ H->
 (J.stop i H/\D.nx σ H)\/(J.go i H/\∃ N:St->Hp->Prop,(∀ σ' H',N σ' H'->∃ m',m'<m/\W (i+1) m' σ' H')/\∀ x H',J.yld i H x H'->g x σ H' fun σ2 H2=>tb { D with nx:=N,ct:=N,bk:=D.nx} σ2 H2)
def jES (fp:List Addr)(h:Heap):List (Addr×Obj):=fp.filterMap fun b=>(h.get? b).map fun o=>(b,o)
theorem jAZ {fp:List Addr}{h:Heap}{b:Addr}{o:Obj}(hb:b∈fp)(e:h.get? b=some o):(b,o)∈jES fp h:=g7.mpr ⟨b,hb,by rw[e]; rfl⟩
theorem jIV {fp:List Addr}{h:Heap}{p:Addr×Obj}(hp:p∈jES fp h):p.1∈fp/\h.get? p.1=some p.2:=by
 obtain⟨b,hb,e⟩:=g7.mp hp
 cases q:h.get? b with
 | none=>rw[q] at e; cases e
 | some o=>
  rw[q] at e
  have e':(b,o)=p:=aW e
  subst e'
  exact⟨hb,q⟩
theorem Inv.pinned {pins:List (Addr×Obj)}{σ:St}{H:Hp}{s:Shared}{fp:List Addr}(I:Inv X pins σ H s)(hf:∀ b∈fp,FpOk X pins H b)(ho:∀ b∈fp,∃ o,s.heap.get? b=some o/\∀ v,o.data≠ .cell v):Inv X (pins++jES fp s.heap) σ H s:=
 I.pins_of fun p hp=>(ax.mp hp).elim (fun z=>I.pin p (aJ _ z)) fun z=>by
  obtain⟨hb,e⟩:=jIV z
  obtain⟨f0,f1,f2,_⟩:=hf p.1 hb
  obtain⟨o,e',d⟩:=ho p.1 hb
  rw[e] at e'; cases e'
  exact⟨e,f0,f1,f2,d⟩
theorem Inv.unpinned {pins pl:List (Addr×Obj)}{σ:St}{H:Hp}{s:Shared}(I:Inv X (pins++pl) σ H s):Inv X pins σ H s:=I.pins_of fun p hp=>I.pin p (aJ _ (aP _ hp))
theorem jLU {iter:Expr}{body:List Stmt}{wi:TI}{g:TG}{tb:TS}{pos:Pos}(hp:PassesOwn (model X.prog X.w) X.A X.env X.xe)(hc:X.calm=true)(hi:PI X tg iter wi)(hg:PG X tg g)(hb:PSs X body tb)
  (hs:∀ x,foldedSetIterable iter X.env x=pure x:=by intro _; rfl):PS X (.For tg iter body [] pos) (tFor wi g tb):=by
 intro pins s σ H D I h
 refine wpAny_For (thn (hi pins s σ H _ I h) fun v s1 h1=>thn h1 fun itv s2 h2=>?_) hs
 obtain⟨it,fp,tn,J,H2,e,I2,T,st2,f2,W,⟨m0,w0⟩,turn⟩:=h2
 subst e
 have stat:∀ {H':Hp},(∀ b∈fp,H' b=none)->∀ b∈fp,FpOk X pins H' b:=fun hn b hb=>⟨hn b hb,(f2 b hb).2⟩
 refine codeAny_forLoop_any (fun n s'=>∃ i σ' H',Inv X pins σ' H' s'/\tn i s'.heap/\(∀ b∈fp,H' b=none)/\W i n σ' H') ?_ m0 ⟨0,σ,H2,I2,st2,fun b hb=>(f2 b hb).1,w0⟩
 rintro n s3 ⟨i,σ3,H3,I3,st3,fr3,w3⟩
 rcases turn i n σ3 H3 w3 with ⟨stop,qn⟩ | ⟨go,N,hN,step⟩
 ·refine da hp (thn (T.done X rfl rfl rfl hc i pins s3 σ3 H3 X.xe I3 (stat fr3) st3 stop) fun r s4 ⟨hr,I4⟩=>?_)
  subst hr
  exact eY ⟨σ3,H3,I4,qn⟩
 ·refine da hp (thn (T.item X rfl rfl rfl hc i pins s3 σ3 H3 X.xe I3 (stat fr3) st3 go) fun r s4 ⟨u,hr,h4⟩=>?_)
  subst hr
  refine da hp (thn h4 fun _ s5 ⟨x,H5,I5,r5,y5,st5,fr5⟩=>?_)
  have I5':=I5.pinned (stat fr5) (T.obj _ _ st5)
  refine da hp (thn (hg _ s5 σ3 H5 x u _ I5' r5 (step x H5 y5)) fun _ s6 ⟨σ6,H6,I6,q6⟩=>?_)
  refine da hp (thn (hb _ s6 σ6 H6 _ I6 q6) fun f s7 q7=>?_)
  have again:∀ {σ7:St}{H7:Hp},Inv X (pins++jES fp s5.heap) σ7 H7 s7->N σ7 H7->∃ m,m<n/\∃ i σ' H',Inv X pins σ' H' s7/\tn i s7.heap/\(∀ b∈fp,H' b=none)/\W i m σ' H':=fun {σ7 H7} I7 n7=>by
   obtain⟨m',hm,w7⟩:=hN σ7 H7 n7
   refine⟨m',hm,i+1,σ7,H7,I7.unpinned,T.keep _ _ _ st5 fun b hb o e=>(I7.pin (b,o) (aJ _ (aJ _ (jAZ hb e)))).1,fun b hb=>?_,w7⟩
   obtain⟨o,e,d⟩:=T.obj _ _ st5 b hb
   exact(I7.pin (b,o) (aJ _ (aJ _ (jAZ hb e)))).2.1
  cases f with
  | next=>obtain⟨σ7,H7,I7,n7⟩:=q7; exact again I7 n7
  | cont=>obtain⟨σ7,H7,I7,n7⟩:=q7; exact again I7 n7
  | brk=>obtain⟨σ7,H7,I7,q7⟩:=q7; exact⟨σ7,H7,I7.unpinned,q7⟩
  | ret v=>obtain⟨x7,σ7,H7,I7,r7,q7⟩:=q7; exact⟨x7,σ7,H7,I7.unpinned,r7,q7⟩
end
theorem jBU {K:W.Frag}{a:Addr}{xs:List V}{g:TG}{tb:TS}{D:Ends}{σ:St}{H:Hp}(Pv:Nat->St->Hp->Prop)(h0:Pv 0 σ H)(hl:∀ i σ H,i<=xs.length->Pv i σ H->SqL K H a xs)
  (hs:∀ i x σ H,xs[i]?=some x->Pv i σ H->g x σ H fun σ2 H2=>tb { D with nx:=Pv (i+1),ct:=Pv (i+1),bk:=D.nx} σ2 H2) (hd:∀ σ H,Pv xs.length σ H->D.nx σ H):
  ∃ W:Nat->Nat->St->Hp->Prop,(∃ m,W 0 m σ H)/\∀ i m σ H,W i m σ H->
   ((Itl K a).stop i H/\D.nx σ H)\/((Itl K a).go i H/\∃ N:St->Hp->Prop,(∀ σ' H',N σ' H'->∃ m',m'<m/\W (i+1) m' σ' H')/\∀ x H',(Itl K a).yld i H x H'->g x σ H' fun σ2 H2=>tb { D with nx:=N,ct:=N,bk:=D.nx} σ2 H2):=by
 refine⟨fun i m σ H=>m=xs.length - i/\i<=xs.length/\Pv i σ H,⟨xs.length,by simp,bH _,h0⟩,?_⟩
 rintro i m σ H ⟨rfl,hi,p⟩
 have q:=hl i σ H hi p
 by_cases hlt:i<xs.length
 ·refine .inr ⟨⟨xs,xs[i],q,by simp [hlt]⟩,Pv (i+1),fun σ' H' p'=>⟨xs.length - (i+1),by omega,rfl,hlt,p'⟩,fun x H' y=>?_⟩
  obtain⟨e,y⟩:=y
  subst e
  exact hs i x σ _ (y xs q) p
 ·have e:i=xs.length:=by omega
  subst e
  exact .inl ⟨⟨xs,q,az _⟩,hd σ H p⟩
theorem jG3 {K:W.Frag}{a:Addr}{xs:List V}{g:TG}{tb:TS}{D:Ends}{σ:St}{H:Hp}(Pv:Nat->St->Hp->Prop)(h0:Pv 0 σ H)(hl:∀ i σ H,i<=xs.length->Pv i σ H->SqT K H a xs)
  (hs:∀ i x σ H,xs[i]?=some x->Pv i σ H->g x σ H fun σ2 H2=>tb { D with nx:=Pv (i+1),ct:=Pv (i+1),bk:=D.nx} σ2 H2) (hd:∀ σ H,Pv xs.length σ H->D.nx σ H):
  ∃ W:Nat->Nat->St->Hp->Prop,(∃ m,W 0 m σ H)/\∀ i m σ H,W i m σ H->
   ((Itt K a).stop i H/\D.nx σ H)\/((Itt K a).go i H/\∃ N:St->Hp->Prop,(∀ σ' H',N σ' H'->∃ m',m'<m/\W (i+1) m' σ' H')/\∀ x H',(Itt K a).yld i H x H'->g x σ H' fun σ2 H2=>tb { D with nx:=N,ct:=N,bk:=D.nx} σ2 H2):=by
 refine⟨fun i m σ H=>m=xs.length - i/\i<=xs.length/\Pv i σ H,⟨xs.length,by simp,bH _,h0⟩,?_⟩
 rintro i m σ H ⟨rfl,hi,p⟩
 have q:=hl i σ H hi p
 by_cases hlt:i<xs.length
 ·refine .inr ⟨⟨xs,xs[i],q,by simp [hlt]⟩,Pv (i+1),fun σ' H' p'=>⟨xs.length - (i+1),by omega,rfl,hlt,p'⟩,fun x H' y=>?_⟩
  obtain⟨e,y⟩:=y
  subst e
  exact hs i x σ _ (y xs q) p
 ·have e:i=xs.length:=by omega
  subst e
  exact .inl ⟨⟨xs,q,az _⟩,hd σ H p⟩
theorem jAJ {lo:Int}{n:Nat}{g:TG}{tb:TS}{D:Ends}{σ:St}{H:Hp}(Pv:Nat->St->Hp->Prop)(h0:Pv 0 σ H)
  (hs:∀ i σ H,i<n->Pv i σ H->g (.int (lo+i)) σ H fun σ2 H2=>tb { D with nx:=Pv (i+1),ct:=Pv (i+1),bk:=D.nx} σ2 H2) (hd:∀ σ H,Pv n σ H->D.nx σ H):
  ∃ W:Nat->Nat->St->Hp->Prop,(∃ m,W 0 m σ H)/\∀ i m σ H,W i m σ H->
   ((Itr lo n).stop i H/\D.nx σ H)\/((Itr lo n).go i H/\∃ N:St->Hp->Prop,(∀ σ' H',N σ' H'->∃ m',m'<m/\W (i+1) m' σ' H')/\∀ x H',(Itr lo n).yld i H x H'->g x σ H' fun σ2 H2=>tb { D with nx:=N,ct:=N,bk:=D.nx} σ2 H2):=by
 refine⟨fun i m σ H=>m=n - i/\i<=n/\Pv i σ H,⟨n,by simp,bH _,h0⟩,?_⟩
 rintro i m σ H ⟨rfl,hi,p⟩
 by_cases hlt:i<n
 ·refine .inr ⟨hlt,Pv (i+1),fun σ' H' p'=>⟨n - (i+1),by omega,rfl,hlt,p'⟩,fun x H' y=>?_⟩
  obtain⟨e,y⟩:=y
  subst e y
  exact hs i σ _ hlt p
 ·have e:i=n:=by omega
  subst e
  exact .inl ⟨az _,hd σ H p⟩
end L2
namespace L2
open PySem PySem.Spec PyProof.Rows
abbrev R2:=V->V->Hp->VK->Prop
def OpR (X:Cx)(f:Value->Value->Sem Value)(r:R2):Prop:=
 ∀ (pins:List (Addr×Obj)) (s:Shared) (σ:St) (H:Hp) (x y:V) (v u:Value) (Q:VK),Inv X pins σ H s->RelV x v->RelV y u->r x y H Q->
  wpAny (model X.prog X.w) X.A (f v u) (EP X pins σ Q) X.xe s
def UnR (X:Cx)(f:Value->Sem Value)(r:V->Hp->VK->Prop):Prop:=
 ∀ (pins:List (Addr×Obj)) (s:Shared) (σ:St) (H:Hp) (x:V) (v:Value) (Q:VK),Inv X pins σ H s->RelV x v->r x H Q->
  wpAny (model X.prog X.w) X.A (f v) (EP X pins σ Q) X.xe s
def yP (X:Cx)(f:Value)(r:List V->Hp->VK->Prop):Prop:=
 ∀ (pins:List (Addr×Obj)) (s:Shared) (σ:St) (H:Hp) (xs:List V) (us:List Value) (Q:VK),Inv X pins σ H s->Vals xs us->r xs H Q->
  wpAny (model X.prog X.w) X.A (call f us) (EP X pins σ Q) X.xe s
def tOp (r:R2)(ta tb:TE):TE:=fun σ H Q=>ta σ H fun x H1=>tb σ H1 fun y H2=>r x y H2 Q
def tUn (r:V->Hp->VK->Prop)(ta:TE):TE:=fun σ H Q=>ta σ H fun x H1=>r x H1 Q
def rI (C:Int->Int->Prop)(g:Int->Int->V):R2:=fun x y H Q=>∃ i j,x= .int i/\y= .int j/\C i j/\Q (g i j) H
def rI0 (g:Int->Int->V):R2:=fun x y H Q=>∃ i j,x= .int i/\y= .int j/\Q (g i j) H
def rU (g:Int->V):V->Hp->VK->Prop:=fun x H Q=>∃ i,x= .int i/\Q (g i) H
section
variable {X:Cx}{a b c:Expr}{ta tb tc:TE}{pos:Pos}
theorem binT (ha:PE X a ta)(hb:PE X b tb){pins:List (Addr×Obj)}{s:Shared}{σ:St}{H:Hp}{R:V->V->Hp->Prop}(I:Inv X pins σ H s)
  (h:ta σ H fun x H1=>tb σ H1 fun y H2=>R x y H2) {Q:Value->Shared->Prop}{f:Value->Value->Sem Value}
  (hf:∀ v u s2 x y H2,Inv X pins σ H2 s2->RelV x v->RelV y u->R x y H2->wpAny (model X.prog X.w) X.A (f v u) Q X.xe s2):
  wpAny (model X.prog X.w) X.A (eval a X.env) (fun v s₁=>wpAny (model X.prog X.w) X.A (eval b X.env) (fun u s₂=>wpAny (model X.prog X.w) X.A (f v u) Q X.xe s₂) X.xe s₁) X.xe s:=by
 refine thn (ha pins s σ H _ I h) fun v s1 ⟨x,H1,I1,r1,q1⟩=>?_
 refine thn (hb pins s1 σ H1 _ I1 q1) fun u s2 ⟨y,H2,I2,r2,q2⟩=>?_
 exact hf v u s2 x y H2 I2 r1 r2 q2
theorem yA {op:Operator}{r:R2}(ho:OpR X (binaryOp op) r)(ha:PE X a ta)(hb:PE X b tb):PE X (.BinOp a op b pos) (tOp r ta tb):=by
 intro pins s σ H Q I h
 exact wpAny_BinOp (binT ha hb I h fun v u s2 x y H2 I2 rx ry q=>ho pins s2 σ H2 x y v u Q I2 rx ry q)
theorem pe_un {op:UnaryOp}{r:V->Hp->VK->Prop}(ho:UnR X (unaryOp op) r)(ha:PE X a ta):PE X (.UnaryOp op a pos) (tUn r ta):=by
 intro pins s σ H Q I h
 exact UnaryOp_ (thn (ha pins s σ H _ I h) fun v s1 ⟨x,H1,I1,r1,q1⟩=>ho pins s1 σ H1 x v Q I1 r1 q1)
theorem opI {f:Value->Value->Sem Value}{C:Int->Int->Prop}{g:Int->Int->Int}
  (rule:∀ (i j:Int) (t u:Tok) (s:Shared) (Q:Value->Shared->Prop) (E:Value->Shared->Prop),C i j->Q (.int (g i j) s.toks) { s with toks:=s.toks+1} ->wpAny (model X.prog X.w) X.A (f (.int i t) (.int j u)) Q E s):
  OpR X f (rI C fun i j=> .int (g i j)):=by
 intro pins s σ H x y v u Q I rx ry h
 obtain⟨i,j,rfl,rfl,hc,q⟩:=h
 obtain⟨t,rfl⟩:=rx
 obtain⟨t',rfl⟩:=ry
 exact rule i j t t' s _ _ hc ⟨.int (g i j),H,I.tok _,⟨_,rfl⟩,q⟩
theorem opI0 {f:Value->Value->Sem Value}{g:Int->Int->Int}
  (rule:∀ (i j:Int) (t u:Tok) (s:Shared) (Q:Value->Shared->Prop) (E:Value->Shared->Prop),Q (.int (g i j) s.toks) { s with toks:=s.toks+1} ->wpAny (model X.prog X.w) X.A (f (.int i t) (.int j u)) Q E s):
  OpR X f (rI0 fun i j=> .int (g i j)):=by
 intro pins s σ H x y v u Q I rx ry h
 obtain⟨i,j,rfl,rfl,q⟩:=h
 obtain⟨t,rfl⟩:=rx
 obtain⟨t',rfl⟩:=ry
 exact rule i j t t' s _ _ ⟨.int (g i j),H,I.tok _,⟨_,rfl⟩,q⟩
theorem opB0 {f:Value->Value->Sem Value}{g:Int->Int->Bool}
  (rule:∀ (i j:Int) (t u:Tok) (s:Shared) (Q:Value->Shared->Prop) (E:Value->Shared->Prop),Q (.bool (g i j)) s->wpAny (model X.prog X.w) X.A (f (.int i t) (.int j u)) Q E s):
  OpR X f (rI0 fun i j=> .bl (g i j)):=by
 intro pins s σ H x y v u Q I rx ry h
 obtain⟨i,j,rfl,rfl,q⟩:=h
 obtain⟨t,rfl⟩:=rx
 obtain⟨t',rfl⟩:=ry
 exact rule i j t t' s _ _ ⟨.bl (g i j),H,I,rfl,q⟩
def CPow (i j:Int):Prop:=0<=j/\j<=1000000/\i.natAbs<2 ^ 64
def CMul (i j:Int):Prop:=(-(2 ^ 64)<i/\i<2 ^ 64)\/(-(2 ^ 64)<j/\j<2 ^ 64)
theorem CMul.ok {i j:Int}(h:CMul i j):IntMulOk i j:=by
 rcases h with ⟨h1,h2⟩ | ⟨h1,h2⟩
 ·exact .of_left (intBits_le_64 h1 h2)
 ·exact .of_right (intBits_le_64 h1 h2)
theorem jHD (k:Nat):(0:Int)<=2 ^ k:=by
 rw[two_pow_cast]
 exact fm _
theorem kY:OpR X (binaryOp .Add) (rI0 fun i j=> .int (i+j)):=opI0 fun _ _ _ _ _ _ _ q=>add_int q
theorem jD6:OpR X (binaryOp .Sub) (rI0 fun i j=> .int (i - j)):=opI0 fun _ _ _ _ _ _ _ q=>sub_int q
theorem jCE:OpR X (binaryOp .Mult) (rI CMul fun i j=> .int (i*j)):=opI fun _ _ _ _ _ _ _ hc q=>mul_int q hc.ok
theorem jGQ:OpR X (binaryOp .Mod) (rI (fun _ j=>0<j) fun i j=> .int (i % j)):=opI fun i j _ _ _ _ _ hc q=>by
 have h1:(0:Int)<j:=hc
 exact mod_int' (by omega) (by rw[Int.fmod_eq_emod_of_nonneg i (by omega)]; exact q)
theorem jLY:OpR X (binaryOp .Pow) (rI CPow fun i j=> .int (i ^ j.toNat)):=opI fun _ _ _ _ _ _ _ hc q=>pow_int_small hc.1 hc.2.1 hc.2.2 q
theorem jIP:OpR X (binaryOp .LShift) (rI CPow fun i j=> .int (i*2 ^ j.toNat)):=opI fun _ _ _ _ _ _ _ hc q=>lshift_int_small hc.1 hc.2.1 hc.2.2 q
theorem jPC:OpR X (binaryOp .RShift) (rI (fun _ j=>0<=j) fun i j=> .int (i / 2 ^ j.toNat)):=opI fun i j _ _ _ _ _ hc q=>
 rshift_int hc (by rw[fo i (jHD _)]; exact q)
theorem jIS:OpR X (binaryOp .BitAnd) (rI0 fun i j=> .int (Builtin.bitAnd i j)):=opI0 fun _ _ _ _ _ _ _ q=>and_int q
theorem op_or:OpR X (binaryOp .BitOr) (rI0 fun i j=> .int (Builtin.bitOr i j)):=opI0 fun _ _ _ _ _ _ _ q=>or_int q
theorem unI {f:Value->Sem Value}{g:Int->Int}
  (rule:∀ (i:Int) (t:Tok) (s:Shared) (Q:Value->Shared->Prop) (E:Value->Shared->Prop),Q (.int (g i) s.toks) { s with toks:=s.toks+1} ->wpAny (model X.prog X.w) X.A (f (.int i t)) Q E s):
  UnR X f (rU fun i=> .int (g i)):=by
 intro pins s σ H x v Q I rx h
 obtain⟨i,rfl,q⟩:=h
 obtain⟨t,rfl⟩:=rx
 exact rule i t s _ _ ⟨.int (g i),H,I.tok _,⟨_,rfl⟩,q⟩
theorem jI1:UnR X (unaryOp .USub) (rU fun i=> .int (-i)):=unI fun _ _ _ _ _ q=>neg_int q
theorem jOM:UnR X (unaryOp .Invert) (rU fun i=> .int (Builtin.bitNot i)):=unI fun _ _ _ _ _ q=>invert_int q
end
noncomputable def scal:V->V->Bool
 | .non, .non=>true | .non, .int _=>true | .int _, .non=>true | .non, .bl _=>true | .bl _, .non=>true | .non, .str _=>true | .str _, .non=>true
 | .int _, .int _=>true | .bl _, .bl _=>true | .str _, .str _=>true | .byt _, .byt _=>true
 | .int _, .str _=>true | .str _, .int _=>true | .bl _, .str _=>true | .str _, .bl _=>true
 | _,_=>false
def rEq:R2:=fun x y H Q=>scal x y=true/\Q (.bl (decide (x=y))) H
def rNe:R2:=fun x y H Q=>scal x y=true/\Q (.bl (!decide (x=y))) H
theorem jE9 {i j:Int} :decide (V.int i=V.int j)=(i==j):=by
 rw[bJ]
 simp
theorem jMA {i j:Bool} :decide (V.bl i=V.bl j)=(i==j):=by
 rw[bJ]
 simp
theorem jJS {i j:Str} :decide (V.str i=V.str j)=(i==j):=by
 rw[bJ]
 simp
theorem jJT {i j:Array UInt8} :decide (V.byt i=V.byt j)=(i.toList==j.toList):=by
 rw[bJ]
 cases i
 cases j
 simp
section
variable {X:Cx}{a b c:Expr}{ta tb tc:TE}{pos:Pos}
theorem jM {pins:List (Addr×Obj)}{σ:St}{H:Hp}{s:Shared}{Q:VK}{k k':Bool}(I:Inv X pins σ H s)(q:Q (.bl k) H)(e:k=k'):EP X pins σ Q (.bool k') s:=by
 subst e
 exact⟨.bl k,H,I,rfl,q⟩
theorem op_eq:OpR X (compareOp .Eq) rEq:=by
 intro pins s σ H x y v u Q I rx ry h
 obtain⟨hs,q⟩:=h
 cases x with
 | non=>
  cases rx
  cases y with
  | non=>cases ry; exact PySem.EqNone.eq_none_none (jM I q (by simp))
  | bl j=>cases ry; exact PySem.EqNone.eq_none_bool (jM I q (by simp))
  | int j=>obtain⟨t',rfl⟩:=ry; exact PySem.EqNone.eq_none_int (jM I q (by simp))
  | str j=>obtain⟨t',rfl⟩:=ry; exact PySem.EqNone.eq_none_str (jM I q (by simp))
  | _=>exact absurd (show false=true from hs) ak
 | bl i=>
  cases rx
  cases y with
  | non=>cases ry; exact PySem.EqNone.eq_bool_none (jM I q (by simp))
  | bl j=>cases ry; exact eq_bool (jM I q jMA)
  | str j=>obtain⟨t',rfl⟩:=ry; exact PySem.EqMixed.eq_bool_str (jM I q (by simp))
  | _=>exact absurd (show false=true from hs) ak
 | int i=>
  obtain⟨t,rfl⟩:=rx
  cases y with
  | non=>cases ry; exact PySem.EqNone.eq_int_none (jM I q (by simp))
  | int j=>obtain⟨t',rfl⟩:=ry; exact eq_int (jM I q jE9)
  | str j=>obtain⟨t',rfl⟩:=ry; exact PySem.EqMixed.eq_int_str (jM I q (by simp))
  | _=>exact absurd (show false=true from hs) ak
 | str i=>
  obtain⟨t,rfl⟩:=rx
  cases y with
  | non=>cases ry; exact PySem.EqNone.eq_str_none (jM I q (by simp))
  | bl j=>cases ry; exact PySem.EqMixed.eq_str_bool (jM I q (by simp))
  | int j=>obtain⟨t',rfl⟩:=ry; exact PySem.EqMixed.eq_str_int (jM I q (by simp))
  | str j=>obtain⟨t',rfl⟩:=ry; exact eq_str (jM I q jJS)
  | _=>exact absurd (show false=true from hs) ak
 | byt i=>
  obtain⟨t,rfl⟩:=rx
  cases y with
  | byt j=>obtain⟨t',rfl⟩:=ry; exact PySem.W.eq_bytes (jM I q jJT)
  | _=>exact absurd (show false=true from hs) ak
 | _=>cases y <;> exact absurd (show false=true from hs) ak
theorem op_ne:OpR X (compareOp .NotEq) rNe:=by
 intro pins s σ H x y v u Q I rx ry h
 obtain⟨hs,q⟩:=h
 cases x with
 | non=>
  cases rx
  cases y with
  | non=>cases ry; exact PySem.EqNone.ne_none_none (jM I q (by simp))
  | bl j=>cases ry; exact PySem.EqNone.ne_none_bool (jM I q (by simp))
  | int j=>obtain⟨t',rfl⟩:=ry; exact PySem.EqNone.ne_none_int (jM I q (by simp))
  | str j=>obtain⟨t',rfl⟩:=ry; exact PySem.EqNone.ne_none_str (jM I q (by simp))
  | _=>exact absurd (show false=true from hs) ak
 | bl i=>
  cases rx
  cases y with
  | non=>cases ry; exact PySem.EqNone.ne_bool_none (jM I q (by simp))
  | bl j=>cases ry; exact ne_bool (jM I q (bQ not jMA))
  | str j=>obtain⟨t',rfl⟩:=ry; exact PySem.EqMixed.ne_bool_str (jM I q (by simp))
  | _=>exact absurd (show false=true from hs) ak
 | int i=>
  obtain⟨t,rfl⟩:=rx
  cases y with
  | non=>cases ry; exact PySem.EqNone.ne_int_none (jM I q (by simp))
  | int j=>obtain⟨t',rfl⟩:=ry; exact ne_int (jM I q (bQ not jE9))
  | str j=>obtain⟨t',rfl⟩:=ry; exact PySem.EqMixed.ne_int_str (jM I q (by simp))
  | _=>exact absurd (show false=true from hs) ak
 | str i=>
  obtain⟨t,rfl⟩:=rx
  cases y with
  | non=>cases ry; exact PySem.EqNone.ne_str_none (jM I q (by simp))
  | bl j=>cases ry; exact PySem.EqMixed.ne_str_bool (jM I q (by simp))
  | int j=>obtain⟨t',rfl⟩:=ry; exact PySem.EqMixed.ne_str_int (jM I q (by simp))
  | str j=>obtain⟨t',rfl⟩:=ry; exact ne_str (jM I q (bQ not jJS))
  | _=>exact absurd (show false=true from hs) ak
 | byt i=>
  obtain⟨t,rfl⟩:=rx
  cases y with
  | byt j=>obtain⟨t',rfl⟩:=ry; exact PySem.W.ne_bytes (jM I q (bQ not jJT))
  | _=>exact absurd (show false=true from hs) ak
 | _=>cases y <;> exact absurd (show false=true from hs) ak
theorem op_lt:OpR X (compareOp .Lt) (rI0 fun i j=> .bl (decide (i<j))):=opB0 fun _ _ _ _ _ _ _ q=>lt_int q
theorem op_le:OpR X (compareOp .LtE) (rI0 fun i j=> .bl (decide (i<=j))):=opB0 fun _ _ _ _ _ _ _ q=>le_int q
theorem op_gt:OpR X (compareOp .Gt) (rI0 fun i j=> .bl (decide (j<i))):=opB0 fun _ _ _ _ _ _ _ q=>gt_int q
theorem op_ge:OpR X (compareOp .GtE) (rI0 fun i j=> .bl (decide (j<=i))):=opB0 fun _ _ _ _ _ _ _ q=>ge_int q
theorem jQ (b:Expr){op:CmpOp}(h:op≠ .In:=by decide)(h2:op≠ .NotIn:=by decide):behindInMarks op b=false:=by
 have e1:(op==CmpOp.In)=false:=by cases op <;> first | rfl | exact absurd rfl h
 have e2:(op==CmpOp.NotIn)=false:=by cases op <;> first | rfl | exact absurd rfl h2
 cases b <;> simp [behindInMarks,e1,e2]
theorem jNB {op:CmpOp}{r:R2}(ho:OpR X (compareOp op) r)(ha:PE X a ta)(hb:PE X b tb)(hm:behindInMarks op b=false):PE X (.Compare a [op] [b] pos) (tOp r ta tb):=by
 intro pins s σ H Q I h
 exact wpAny_Compare1 (binT ha hb I h fun v u s2 x y H2 I2 rx ry q=>ho pins s2 σ H2 x y v u Q I2 rx ry q) hm
def tTest (t:TE):TT:=fun σ H Q=>t σ H fun x H'=>∃ k,x= .bl k/\Q k H'
theorem jFS {op:CmpOp}{r:R2}(ho:OpR X (compareOp op) r)(ha:PE X a ta)(hb:PE X b tb)(hm:behindInMarks op b=false):PT X (.Compare a [op] [b] pos) (tTest (tOp r ta tb)):=by
 intro pins s σ H Q I h
 refine wpAny_isTrue_Compare1 (thn (ha pins s σ H _ I h) fun v s1 ⟨x,H1,I1,r1,q1⟩=>thn (hb pins s1 σ H1 _ I1 q1) fun u s2 ⟨y,H2,I2,r2,q2⟩=>
  thn (ho pins s2 σ H2 x y v u _ I2 r1 r2 q2) fun c s3 ⟨z,H3,I3,r3,k,e,q3⟩=>?_) hm
 subst e
 cases r3
 exact dc ⟨H3,I3,q3⟩
theorem jF2:(sizeLine:Nat)<2 ^ 63:=by rw[gQ]; decide
theorem vals1 {x:V}{us:List Value}(r:Vals [x] us):∃ u,us=[u]/\RelV x u:=by
 cases r with
 | cons r1 r2=>cases r2; exact⟨_,rfl,r1⟩
theorem vals2 {x y:V}{us:List Value}(r:Vals [x,y] us):∃ u w',us=[u,w']/\RelV x u/\RelV y w':=by
 cases r with
 | cons r1 r2=>
  cases r2 with
  | cons r3 r4=>cases r4; exact⟨_,_,rfl,r1,r3⟩
theorem jK3 (hc:X.calm=true):yP X (.builtin "min") (fun xs H Q=>∃ i j,xs=[.int i, .int j]/\Q (.int (if j<i then j else i)) H):=by
 intro pins s σ H xs us Q I r h
 obtain⟨i,j,rfl,q⟩:=h
 obtain⟨u,w',rfl,⟨t,rfl⟩,⟨t',rfl⟩⟩:=vals2 r
 refine min_two_ints (I.ok.hd hc) fun h' tk k=>⟨_,H,I.kept k,?_,q⟩
 by_cases hj:j<i
 ·rw[ag hj,ag hj]; exact⟨_,rfl⟩
 ·rw[af hj,af hj]; exact⟨_,rfl⟩
theorem jFC:yP X (.type "int") (fun xs H Q=>(∃ i,xs=[.int i]/\Q (.int i) H)\/∃ k,xs=[.bl k]/\Q (.int (if k then 1 else 0)) H):=by
 intro pins s σ H xs us Q I r h
 rcases h with ⟨i,rfl,q⟩ | ⟨k,rfl,q⟩
 ·obtain⟨u,rfl,t,rfl⟩:=vals1 r
  exact call_int_int ⟨.int i,H,I,⟨_,rfl⟩,q⟩
 ·obtain⟨u,rfl,r1⟩:=vals1 r
  cases r1
  exact call_int_bool ⟨.int (if k then 1 else 0),H,I.tok _,⟨_,rfl⟩,q⟩
end
end L2
namespace L2
open PySem PySem.Spec PyProof.Rows
structure ObjM (h:Heap)(x dx C:Addr)(mA:Str->Option Value):Prop where
 obj:h.get? x=some (instObj C dx)
 ns:h.Ns1 dx mA
 ne:dx≠x
theorem jJ5 {h:Heap}{dx:Addr}{mA:Str->Option Value}(n:h.Ns1 dx mA):∃ od,h.get? dx=some od/\∀ name,lookIn name od=some (mA name):=by
 obtain⟨o,es,ep,ho,hd,hk,_,hm⟩:=n
 refine⟨o,ho,fun name=>?_⟩
 have e:=hm name
 unfold nsFind findBy at e
 rw[<- Array.find?_toList] at e
 unfold lookIn
 rw[hd]
 dsimp only
 split
 ·rename_i y q
  rw[q] at e
  exact bQ some e
 ·rename_i q
  rw[q] at e
  have a:es.toList.any (·.refKey)=false:=by
   rw[List.any_eq_false]
   intro y hy
   obtain⟨z,t,hkey⟩:=hk y (Array.mem_toList_iff.mp hy)
   simp [DictEntry.refKey,hkey]
  have a':¬ es.toList.any (·.refKey)=true:=by rw[a]; exact ak
  rw[af a']
  exact bQ some e
theorem ObjM.look {h:Heap}{x dx C:Addr}{mA:Str->Option Value}(I:ObjM h x dx C mA):∃ od,PySem.W.InstAt h x (instObj C dx) C (some od)/\∀ name,lookIn name od=some (mA name):=
 let ⟨od,ho,hl⟩:=jJ5 I.ns
 ⟨od,⟨I.obj,rfl,rfl,ho⟩,hl⟩
section
variable {prog:Program}{w:World}{A:Around}{E:Value->Shared->Prop}{s:Shared}{K:W.Frag}{x dx C f:Addr}{mA:Str->Option Value}{name:Str}{v:Value}
end
theorem RelO.some_of {v:V}{o:Option Value}(r:RelO (some v) o):∃ u,o=some u/\RelV v u:=by
 cases o with
 | none=>exact(show False from r).elim
 | some u=>exact⟨u,rfl,r⟩
section
variable {P:Program}{w:World}{H H':Hp}{h h':Heap}{a C dx:Addr}{fs fs':List (Str×V)}
theorem jO4 (hok:HOk P w H h)(e:H a=some (.ins C dx fs)):∃ mA,ObjM h a dx C mA/\(∀ f,RelO (fs.lookup f) (mA f))/\PySem.Within mA (fs.map (·.1))/\fs.length<=1000/\H dx=some (.own a):=by
 obtain⟨d,z,ne,ob,mA,n,r,q⟩:=(show ObjOk P w H h a (.ins C dx fs) from hok a _ e)
 exact⟨mA,⟨ob,n,ne⟩,r,q,z,d⟩
end
structure Cls (K:W.Frag)(C:Addr):Prop where
 pg:plainGet K C Str.empty=true
 hd:PySem.W.hasDictIn K C=true
 po:PySem.W.plainOver K C=true
 sa:findIn K (.ref C) "__setattr__" =some (some (.builtin "object.__setattr__"))
theorem Cls.get {K:W.Frag}{C:Addr}(c:Cls K C)(f:Str):plainGet K C f=true:=c.pg
section
variable {X:Cx}{pins:List (Addr×Obj)}{σ:St}{H:Hp}{s:Shared}{a C dx:Addr}{fs:List (Str×V)}{f:Str}{v:V}{A:Around}{E:Value->Shared->Prop}
end
section
variable {X:Cx}{o e value:Expr}{f:Str}{pos pos' tpos:Pos}{ta tv:TE}
end
section
variable {X:Cx}{pins:List (Addr×Obj)}{σ:St}{H:Hp}{s:Shared}{A:Around}{E:Value->Shared->Prop}{Q:Value->Shared->Prop}{c:Value}{b:Bool}
inductive TyOf (K:W.Frag) (H:Hp):V->Value->Prop where
 | non:TyOf K H .non (.type "NoneType")
 | bl (x:Bool):TyOf K H (.bl x) (.type "bool")
 | int (i:Int):TyOf K H (.int i) (.type "int")
 | str (x:Str):TyOf K H (.str x) (.type "str")
 | flt (x:UInt64):TyOf K H (.flt x) (.type "float")
 | lst {a:Addr}{xs:List V}(e:H a=some (.lst xs)):TyOf K H (.ref a) (.type "list")
 | frz {a:Addr}{o:Obj}{xs:List V}(e:H a=some (.frz o (.lst xs))):TyOf K H (.ref a) (.type "list")
 | tup {a:Addr}{xs:List V}(e:H a=some (.tup xs)):TyOf K H (.ref a) (.type "tuple")
 | dK {a:Addr}{kvs:List (Key×V)}(e:H a=some (.dK kvs)):TyOf K H (.ref a) (.type "dict")
 | dT {a:Addr}{kvs:List (List Key×V)}(e:H a=some (.dT kvs)):TyOf K H (.ref a) (.type "dict")
 | ins {a C dx:Addr}{fs:List (Str×V)}(e:H a=some (.ins C dx fs)) (cl:Cls K C) (ha:findIn K (.ref C) "__class__" =some (some (.builtin "object.__class__")))
   (hn:PySem.W.specialIn K (.builtin "object.__class__") "__get__" =some (some (.builtin "getset_descriptor.__get__"))) (htk:PySem.W.takesIn K (.builtin "object.__class__")=some true)
   (hm:mroIn K C (.type "object")=some true):TyOf K H (.ref a) (.ref C)
theorem jJI {x:V}{u t:Value}(I:Inv X pins σ H s)(rx:RelV x u)(ty:TyOf X.K H x t)(e:kitOne X.K t c=some b)(h:∀ tk,Q (.bool b) { s with toks:=tk}):
  wpAny (model X.prog X.w) A (call (.builtin "isinstance") [u,c]) Q E s:=by
 cases ty with
 | non=>cases (show u=Value.none from rx); exact cf PySem.W.kitx_none I.kIn True.intro e (fun z=>nomatch z) h
 | bl y=>cases (show u=Value.bool y from rx); exact cf PySem.W.kitx_bool I.kIn True.intro e (fun z=>nomatch z) h
 | int i=>obtain⟨t,q⟩:=(show ∃ t,u=Value.int i t from rx); cases q; exact cf PySem.W.kitx_int I.kIn True.intro e (fun z=>nomatch z) h
 | str y=>obtain⟨t,q⟩:=(show ∃ t,u=Value.str y t from rx); cases q; exact cf PySem.W.kitx_str I.kIn True.intro e (fun z=>nomatch z) h
 | flt y=>obtain⟨t,q⟩:=(show ∃ t,u=Value.float y t from rx); cases q; exact cf PySem.W.kitx_float I.kIn True.intro e (fun z=>nomatch z) h
 | @lst a xs ea=>
  cases (show u=Value.ref a from rx)
  obtain⟨_,_,n,_,h1⟩:=(show ObjOk X.prog X.w H s.heap a (.lst xs) from I.hok a _ ea)
  exact cf kitx_list I.kIn ⟨_,h1,rfl⟩ e (fun z=>nomatch z) h
 | @frz a ob xs ea=>
  cases (show u=Value.ref a from rx)
  obtain⟨_,_,_,n,_,h1⟩:=(show ObjOk X.prog X.w H s.heap a (.frz ob (.lst xs)) from I.hok a _ ea)
  exact cf kitx_list I.kIn ⟨_,h1,rfl⟩ e (fun z=>nomatch z) h
 | @tup a xs ea=>
  cases (show u=Value.ref a from rx)
  obtain⟨_,_,_,p⟩:=(show ObjOk X.prog X.w H s.heap a (.tup xs) from I.hok a _ ea)
  obtain⟨o,h1,h2,_⟩:=p.isTup
  exact cf PySem.W.kitx_tuple I.kIn ⟨o,h1,h2⟩ e (fun z=>nomatch z) h
 | @dK a kvs ea=>
  cases (show u=Value.ref a from rx)
  obtain⟨_,_,vs,_,p⟩:=(show ObjOk X.prog X.w H s.heap a (.dK kvs) from I.hok a _ ea)
  obtain⟨o,es,ep,h1,h2,_⟩:=p
  exact cf kitx_dict I.kIn ⟨o,h1,h2.1⟩ e (fun z=>nomatch z) h
 | @dT a kvs ea=>
  cases (show u=Value.ref a from rx)
  obtain⟨_,_,xs,_,o,es,ep,h1,h2,_⟩:=(show ObjOk X.prog X.w H s.heap a (.dT kvs) from I.hok a _ ea)
  exact cf kitx_dict I.kIn ⟨o,h1,h2.1⟩ e (fun z=>nomatch z) h
 | @ins a C dx fs ea cl ha hn htk hm=>
  cases (show u=Value.ref a from rx)
  obtain⟨mA,O,_⟩:=jO4 I.hok ea
  obtain⟨od,J,_⟩:=O.look
  exact cf (PySem.W.kitx_own (cl.get _) cl.hd ha hn htk hm) I.kIn J e (fun z=>nomatch z) h
end
end L2
namespace L2
open PySem PySem.Spec PyProof.Rows
structure Room (k:Nat)(A:Around):Prop where
 hd:A.handled=none
 dp:A.depth+3*k+5<recursionLimit
 un:A.units+16*k+200<cLine
theorem Room.mono {j k:Nat}{A:Around}(r:Room k A)(h:j<=k):Room j A:=⟨r.hd,by have:=r.dp; omega,by have:=r.un; omega⟩
theorem Room.deeper {k:Nat}{A:Around}(r:Room (k+1) A)(env:Env):Room k (A.deeper env):=
 ⟨r.hd,by have:=r.dp; show A.depth+1+3*k+5<_; omega,by have:=r.un; show A.units+3+16*k+200<_; omega⟩
theorem Room.depth {k:Nat}{A:Around}(r:Room k A):A.depth<recursionLimit:=by have:=r.dp; omega
theorem Room.units {k:Nat}{A:Around}(r:Room k A):A.units+64<cLine:=by have:=r.un; omega
def tNil:TA:=fun _ H Q=>Q [] H
def tCons (ta:TE)(tr:TA):TA:=fun σ H Q=>ta σ H fun x H1=>tr σ H1 fun xs H2=>Q (x::xs) H2
section
variable {X:Cx}{e:Expr}{es:List Expr}{te:TE}{t:TA}{pos:Pos}
theorem jEV:PA X [] tNil:=fun _ _ _ _ H Q I h=>Calls.spliced_nil ⟨[],H,I, .nil,h⟩
theorem jD5 (ha:PE X e te)(hr:PA X es t)(hs:starEach (e::es) X.env=(false,eval e X.env)::starEach es X.env:=by rfl):PA X (e::es) (tCons te t):=by
 intro pos pins s σ H Q I h
 rw[hs]
 show wpAny _ _ (spliced ((false,eval e X.env)::backTo pos (starEach es X.env))) _ _ s
 refine Calls.spliced_cons (thn (ha pins s σ H _ I h) fun u s1 ⟨x,H1,I1,r1,q1⟩=>?_)
 exact thn (hr pos pins s1 σ H1 _ I1 q1) fun us s2 ⟨xs,H2,I2,r2,q2⟩=>⟨x::xs,H2,I2, .cons r1 r2,q2⟩
def tLst (t:TA):TE:=fun σ H Q=>t σ H fun xs H1=>xs.length<=sizeLine/\∀ p,H1 p=none->Q (.ref p) (upd H1 p (.lst xs))
theorem jLX (h:PA X es t):PE X (.List es pos) (tLst t):=by
 intro pins s σ H Q I hq
 refine wpAny_List_spliced (thn (h pos pins s σ H _ I hq) fun us s1 ⟨xs,H1,I1,r,z,q⟩=>⟨by rw[<- r.length]; exact z,?_⟩)
 have hf:H1 s1.heap.objs.size=none:=I1.hok.fresh (az _)
 refine⟨.ref s1.heap.objs.size,upd H1 s1.heap.objs.size (.lst xs),I1.laid (t':=s1.toks) (fun b u e=>am _ e) (az _) ?_,rfl,q _ hf⟩
 exact⟨z,us,0,r,aQ _ rfl⟩
end
abbrev Sp:=List V->Hp->VK->XK->Prop
abbrev CXT:=List Env->Hp->Shared->XK->Value->Shared->Prop
structure Env0 (P:Program)(w:World)(K:W.Frag)(mg:Str->Option Value)(base:Heap)(A:Around)(outer:List Env)(s:Shared)(H:Hp):Prop where
 frames:A.frames=some outer
 mod:Mod K mg base
 bs:∀ b o,base.get? b=some o->s.heap.get? b=some o/\H b=none
 bsz:base.objs.size<=s.heap.objs.size
 funs:s.heap.FunFrames base outer
 frf:∀ b∈frs outer,H b=none
 hok:HOk P w H s.heap
 bare:AllBare s.gens
def CE (outer:List Env)(P:Program)(w:World)(H:Hp)(s:Shared)(Q:VK)(u:Value)(s':Shared):Prop:=
 ∃ v H',s'.os=s.os/\AllBare s'.gens/\Un (frs outer) [] H H' s.heap s'.heap/\HOk P w H' s'.heap/\RelV v u/\Q v H'
def CR (CX:CXT)(outer:List Env)(P:Program)(w:World)(H:Hp)(s:Shared)(Q:VK)(E:XK)(r:Result)(s':Shared):Prop:=
 match r with
 | .ok (.ret u)=>CE outer P w H s Q u s'
 | .ok _=>False
 | .error e=>CX outer H s E e s'
structure FnOk (P:Program)(w:World)(K:W.Frag)(mg:Str->Option Value)(base:Heap)(CX:CXT)(k:Nat)(f:Addr)(fd:FuncData)(ps:List Str)(sp:Sp):Prop where
 len:∀ vs H Q E,sp vs H Q E->vs.length=ps.length
 run:∀ (A:Around) (outer:List Env) (s:Shared) (H:Hp) (args:Args) (us:List Value) (vs:List V) (Q:VK) (E:XK),Room k A->Env0 P w K mg base A outer s H->BindsTo s fd args (ps.zip us)->Vals vs us->sp vs H Q E->
  codeAny (model P w) A (.call (.ref f) args) (CR CX outer P w H s Q E) s
section
variable {X:Cx}{pins:List (Addr×Obj)}{σ:St}{H:Hp}{s s':Shared}
theorem Inv.env0 (I:Inv X pins σ H s):Env0 X.prog X.w X.K X.mg X.base X.A X.stack s H:=
 ⟨I.ok.frames,I.ok.mod,I.bs,bD I.ok.bsz I.sz,I.stack,I.stkFree,I.hok,I.bare⟩
theorem Inv.after {Q:VK}{u:Value}(I:Inv X pins σ H s)(h:CE X.stack X.prog X.w H s Q u s'):EP X pins σ Q u s':=by
 obtain⟨v,H',os,bare,un,hok,r,q⟩:=h
 obtain⟨hh,g,d,t,os'⟩:=s'
 obtain rfl:os'=s.os:=os
 exact⟨v,H',I.call (h':=hh) (g':=g) (d':=d) (t':=t) (ch:=[]) un hok bare (fun b z=>absurd z (by simp)),r,q⟩
end
def tCall (sp:Sp)(dvs:List V)(E:XK)(t:TA):TE:=fun σ H Q=>t σ H fun vs H1=>sp (vs++dvs) H1 Q E
def Binds (K:W.Frag)(fd:FuncData)(ps:List Str)(ds:List Value):Prop:=
 ∀ (s:Shared) (us:List Value),K.In s.heap->(us++ds).length=ps.length->BindsTo s fd ⟨us,[]⟩ (ps.zip (us++ds))
theorem Binds.all {K:W.Frag}{fd:FuncData}{ps:List Str}(h:∀ us:List Value,us.length=ps.length->bindArgs fd ⟨us,[]⟩=pure (ps.zip us)):Binds K fd ps []:=fun s us _ hl=>by
 rw[bg] at hl ⊢
 exact .of_eq (h us hl)
def jKC (CX:CXT)(X:Cx)(E:XK):Prop:=∀ (pins:List (Addr×Obj)) (σ:St) (H:Hp) (s:Shared) (e:Value) (s':Shared),Inv X pins σ H s->CX X.stack H s E e s'->X.xe e s'
section
variable {X:Cx}{CX:CXT}{k:Nat}{f C:Addr}{fd:FuncData}{ps:List Str}{sp:Sp}{dvs:List V}{ds:List Value}{E:XK}{x m:Str}{p pos apos:Pos}{e o:Expr}{es:List Expr}{ta:TE}{t:TA}
theorem jOV {pins:List (Addr×Obj)}{σ:St}{H:Hp}{s:Shared}{Q:VK}{us:List Value}{vs:List V}(F:FnOk X.prog X.w X.K X.mg X.base CX k f fd ps sp)(hr:Room k X.A)(hb:Binds X.K fd ps ds)(hd:Vals dvs ds)(hx:jKC CX X E)
  (I:Inv X pins σ H s) (r:Vals vs us) (h:sp (vs++dvs) H Q E):wpAny (model X.prog X.w) X.A (call (.ref f) us) (EP X pins σ Q) X.xe s:=by
 have r2:Vals (vs++dvs) (us++ds):=r.append hd
 have hl:(us++ds).length=ps.length:=by rw[<- r2.length]; exact F.len _ _ _ _ h
 refine wpAny_call (fg (F.run X.A X.stack s H ⟨us,[]⟩ (us++ds) (vs++dvs) Q E hr I.env0 (hb s us I.kIn hl) r2 h) fun r s' hq=>?_)
 cases r with
 | error e=>exact hx pins σ H s e s' I hq
 | ok fl=>
  cases fl with
  | ret u=>exact I.after hq
  | next=>exact False.elim hq
  | brk=>exact False.elim hq
  | cont=>exact False.elim hq
theorem jNC (F:FnOk X.prog X.w X.K X.mg X.base CX k f fd ps sp)(hr:Room k X.A)(hg:Gl X x)(hm:X.mg x=some (.ref f))(hk:keepIn X.K (.ref f)=true)(hb:Binds X.K fd ps ds)(hd:Vals dvs ds)(hx:jKC CX X E)
  (ha:PA X (e::es) t) (hdb:(x==("__debug__" :Str))=false:=by decide) (he:starEach (e::es) X.env=(false,eval e X.env)::starEach es X.env:=by rfl) (hpl:(backTo pos (starEach es X.env)).any (·.1)=false:=by rfl):
  PE X (.Call (.Name x p) (e::es) [] pos) (tCall sp dvs E t):=by
 intro pins s σ H Q I h
 refine dy (jNU I hg hm ?_ hdb)
 refine PySem.W.callWith_K (h₀:=X.base) I.ok.mod.kin hk (thn (ha pos pins s σ H _ I h) fun us s1 ⟨vs,H1,I1,r,q⟩=>⟨I1.kIn,?_⟩) he hpl
 exact jOV F hr hb hd hx I1 r q
end
def PK (X:Cx)(kws:List Keyword)(t:TA):Prop:=
 ∀ (pos:Pos) (pins:List (Addr×Obj)) (s:Shared) (σ:St) (H:Hp) (Q:List V->Hp->Prop),Inv X pins σ H s->t σ H Q->wpAny (model X.prog X.w) X.A (evalAll ((backToKw pos (keywordEach kws X.env)).map (·.2))) (AP X pins σ Q) X.xe s
section
variable {X:Cx}{CX:CXT}{k:Nat}{f C:Addr}{fd:FuncData}{ps ks:List Str}{sp:Sp}{E:XK}{x m:Str}{p pos apos kpos:Pos}{e o:Expr}{es:List Expr}{kws:List Keyword}{te ta:TE}{t tk:TA}{nm:Option Str}
theorem jP4:PK X [] tNil:=fun _ _ _ _ H Q I h=>wpAny_evalAll_nil ⟨[],H,I, .nil,h⟩
theorem jN4 (ha:PE X e te)(hr:PK X kws t):PK X (⟨nm,e,kpos⟩::kws) (tCons te t):=by
 intro pos pins s σ H Q I h
 show wpAny _ _ (evalAll ((do let v <- eval e X.env; standAt pos; pure v)::(backToKw pos (keywordEach kws X.env)).map (·.2))) _ _ s
 refine wpAny_evalAll_cons (ah (thn (ha pins s σ H _ I h) fun u s1 ⟨x,H1,I1,r1,q1⟩=>ah (eS (aV ?_))))
 exact thn (hr pos pins s1 σ H1 _ I1 q1) fun us s2 ⟨xs,H2,I2,r2,q2⟩=>⟨x::xs,H2,I2, .cons r1 r2,q2⟩
variable {g:List Value->List Value->List Value}{gV:List V->List V->List V}
end
structure FnScope (N P:List Str)(sc:Scope):Prop where
 kind:sc.kind= .function
 co:sc.isCoroutine=false
 gen:sc.isGenerator=false
 nd:N.Nodup
 pre:N.take P.length=P
 par:∀ x∈P,sc.names.lookup x=some .local\/sc.names.lookup x=some .cell
 nofree:∀ y∈sc.names,y.2≠ .free
theorem jFD {kindOf:Str->Option NameKind}{x:Str} :∀ {binds:List (Str×Value)}{m:Str->Option Value},(∀ v,(x,v)∉binds)->bindL kindOf binds m x=m x
 | [],_,_=>rfl
 | (n,v)::r,m,h=>by
  unfold bindL
  rw[jFD fun w hw=>h w (aq _ hw)]
  split
  ·have:x≠n:=by rintro rfl; exact h v aH
   simp [this]
  ·rfl
theorem jFF {kindOf:Str->Option NameKind}{x:Str} :∀ {binds:List (Str×Value)}{m:Str->Option Value},(∀ v,(x,v)∉binds)->bindC kindOf binds m x=m x
 | [],_,_=>rfl
 | (n,v)::r,m,h=>by
  unfold bindC
  rw[jFF fun w hw=>h w (aq _ hw)]
  split
  ·rfl
  ·have:x≠n:=by rintro rfl; exact h v aH
   simp [this]
theorem jFE {kindOf:Str->Option NameKind}{x:Str}{v:Value} :∀ {P:List Str}{vs:List Value}{i:Nat}{m:Str->Option Value},P.Nodup->P[i]?=some x->vs[i]?=some v->kindOf x=some .local->
  bindL kindOf (P.zip vs) m x=some v
 | [],_,_,_,_,h,_,_=>by simp at h
 | _::_,[],_,_,_,_,h,_=>by simp at h
 | p::P,w::vs,0,m,nd,h1,h2,hk=>by
  simp at h1 h2; subst h1; subst h2
  show bindL kindOf ((p,w)::P.zip vs) m p=_
  unfold bindL
  rw[jFD fun v hv=>(cr.mp nd).1 (dC hv).1,ag hk]
  simp
 | p::P,w::vs,i+1,m,nd,h1,h2,hk=>by
  show bindL kindOf ((p,w)::P.zip vs) m x=_
  unfold bindL
  exact jFE (i:=i) (cr.mp nd).2 (by simpa using h1) (by simpa using h2) hk
theorem jFG {kindOf:Str->Option NameKind}{x:Str}{v:Value} :∀ {P:List Str}{vs:List Value}{i:Nat}{m:Str->Option Value},P.Nodup->P[i]?=some x->vs[i]?=some v->kindOf x≠some .local->
  bindC kindOf (P.zip vs) m x=some v
 | [],_,_,_,_,h,_,_=>by simp at h
 | _::_,[],_,_,_,_,h,_=>by simp at h
 | p::P,w::vs,0,m,nd,h1,h2,hk=>by
  simp at h1 h2; subst h1; subst h2
  show bindC kindOf ((p,w)::P.zip vs) m p=_
  unfold bindC
  rw[jFF fun v hv=>(cr.mp nd).1 (dC hv).1,af hk]
  simp
 | p::P,w::vs,i+1,m,nd,h1,h2,hk=>by
  show bindC kindOf ((p,w)::P.zip vs) m x=_
  unfold bindC
  exact jFG (i:=i) (cr.mp nd).2 (by simpa using h1) (by simpa using h2) hk
def yH (N:List Str)(vs:List V):St:=vs.map some++replicate (N.length - vs.length) none
def cxOf (CX:CXT)(P:Program)(w:World)(K:W.Frag)(mg:Str->Option Value)(base:Heap)(N:List Str)(qual:Str)(scope:Scope)(f:Addr)(cd:Value)(A:Around)(outer:List Env)(s:Shared)(H:Hp)(E:XK):Cx where
 prog:=P
 w:=w
 K:=K
 mg:=mg
 base:=base
 A:=A.deeper (envOfC qual scope s.heap.objs.size f cd)
 N:=N
 s₀:=s
 H₀:=H
 env:=envOfC qual scope s.heap.objs.size f cd
 outer:=outer
 stack:=envOfC qual scope s.heap.objs.size f cd::outer
 ex:=[]
 calm:=true
 fn:=fun _=>true
 pn:=[]
 xe:=fun e s'=>wpAny (model P w) (A.deeper (envOfC qual scope s.heap.objs.size f cd)) (leaving (envOfC qual scope s.heap.objs.size f cd) e) (fun _ s''=>CX outer H s E e s'') (fun e' s''=>CX outer H s E e' s'') s'
theorem jH9 {sc:Scope}{n:Nat}{x:Str}(h:sc.names.lookup x=some .cell):∃ c,(cellsFrom n sc.names []).lookup x=some c:=by
 have q:=eD sc.names n [] (.inl h)
 exact Option.isSome_iff_exists.mp q
theorem jF8 {CX:CXT}{P:Program}{w:World}{K:W.Frag}{mg:Str->Option Value}{base:Heap}{N ps:List Str}{qual:Str}{scope:Scope}{f:Addr}{cd:Value}{A:Around}{outer:List Env}{s s1:Shared}{H:Hp}{E:XK}{us:List Value}{vs:List V}
  (S:FnScope N ps scope) (hd:A.handled=none) (e0:Env0 P w K mg base A outer s H) (hl:vs.length=ps.length) (r:Vals vs us)
  (x:InCallC s s.heap.objs.size (bindL (envOfC qual scope s.heap.objs.size f cd).kindOf (ps.zip us) fun _=>none) (cellsFrom (s.heap.objs.size+1) scope.names []) (bindC (envOfC qual scope s.heap.objs.size f cd).kindOf (ps.zip us) fun _=>none) s1):
  Inv (cxOf CX P w K mg base N qual scope f cd A outer s H E) [] (yH N vs) H s1:=by
 have hpl:ps.length<=N.length:=by have:=bQ List.length S.pre; rw[aY] at this; omega
 obtain⟨h1,tk,rfl,hk⟩:=x.done
 have noA:∀ b:Addr,b∉(cxOf CX P w K mg base N qual scope f cd A outer s H E).ex:=fun b z=>absurd (show b∈([]:List Addr) from z) (by simp)
 refine⟨⟨e0.mod,S.kind,rfl,rfl,az _,fun y z c h1 h2=>?_,fun y hy=>?_,fun y c _ h=>?_,fun _=>hd,Around.frames_deeper e0.frames, .inr ⟨rfl,rfl⟩,fun b z=>absurd z (noA b),e0.bs,e0.bsz,fun b _ _=>noA b,fun b z=>absurd z (noA b),e0.funs,e0.frf⟩,
  rfl,e0.bare,Un.kept hk,⟨_,x.toInCall.ns,fun i y v h1 h2 h3=>?_⟩,fun y c h=>⟨_,x.cell y c h⟩,e0.hok.fresh (az _),fun y c h=>?_,fun p hp=>absurd (show p∈([]:List (Addr×Obj)) from hp) (by simp),e0.hok.kept hk,?_⟩
 ·exact name_of_addr x.apart (cE h1) (cE h2)
 ·have hy:scope.names.lookup y=some .cell\/scope.names.lookup y=some .free:=hy
  rcases hy with hy | hy
  ·exact jH9 hy
  ·exact absurd rfl (S.nofree _ (cE hy))
 ·exact fe (x.above y c (cE h))
 ·have hi:i<vs.length:=by
   unfold yH at h2
   by_cases hi:i<vs.length
   ·exact hi
   ·rw[aX (by simpa using hi)] at h2
    rw[ev] at h2
    split at h2 <;> cases h2
  have ha:vs[i]?=some v:=by
   unfold yH at h2
   rw[bK (by simpa using hi),aA] at h2
   cases e:vs[i]? with
   | none=>rw[e] at h2; cases h2
   | some a=>rw[e] at h2; cases h2; rfl
  obtain⟨u,hu,rv⟩:=r.get ha
  have hp:ps[i]?=some y:=by
   rw[<- S.pre,bW (by omega)]; exact h1
  have ndP:ps.Nodup:=by rw[<- S.pre]; exact S.nd.sublist (cB _ _)
  refine⟨u,rv,?_⟩
  rcases S.par y (ao hp) with k | k
  ·exact .inl ⟨k,jFE ndP hp hu k⟩
  ·obtain⟨c,e⟩:=jH9 (n:=s.heap.objs.size+1) k
   refine .inr ⟨.inl k,c,e,?_⟩
   have q:=x.cell y c e
   rw[jFG ndP hp hu (by show scope.names.lookup y≠_; rw[k]; decide)] at q
   exact q
 ·exact e0.hok.fresh (fe (x.above y c (cE h)))
 ·unfold yH
  show _=N.length
  rw[ar,aa,gM]
  omega
theorem fn_of {CX:CXT}{P:Program}{w:World}{K:W.Frag}{mg:Str->Option Value}{base:Heap}{k:Nat}{f:Addr}{name qual:Str}{params:Arguments}{body:List Stmt}{scope:Scope}{dV kV doc pm cdv ct oc:Value}{an od:Option Addr}
  {osl:Array (Option Value)}{N ps:List Str}{sp:Sp}(lk:K.lookup f=some ⟨oc,od, .func (PySem.W.fnOf name qual params body scope dV kV doc pm an cdv ct),osl⟩) (hcd:PySem.W.codeIn K cdv qual=true) (S:FnScope N ps scope)
  (len:∀ vs H Q E,sp vs H Q E->vs.length=ps.length)
  (hbody:∀ (A:Around) (outer:List Env) (s:Shared) (H:Hp) (vs:List V) (Q:VK) (E:XK),Room k (A.deeper (envOfC qual scope s.heap.objs.size f cdv))->sp vs H Q E->
   ∃ t,PSs (cxOf CX P w K mg base N qual scope f cdv A outer s H E) body t/\t { nx:=fun _ H'=>Q .non H',rt:=Q} (yH N vs) H):
  FnOk P w K mg base CX (k+1) f (PySem.W.fnOf name qual params body scope dV kV doc pm an cdv ct) ps sp:=by
 refine⟨len,fun A outer s H args us vs Q E hr e0 hb r hsp=>?_⟩
 have hl:=len _ _ _ _ hsp
 have KX:K.In s.heap:=e0.mod.kin.keeps fun b o e=>(e0.bs b o e).1
 have lim:s.heap.NoLimit:=e0.mod.nolimit.keeps fun b o e=>(e0.bs b o e).1
 have hkind:∀ y∈ps.zip us,scope.names.lookup y.1=some .local\/(scope.names.lookup y.1=some .cell/\((cellsFrom (s.heap.objs.size+1) scope.names []).lookup y.1).isSome=true):=fun ⟨n,v⟩ hy=>by
  rcases S.par n (dC hy).1 with q | q
  ·exact .inl q
  ·exact .inr ⟨q,eD _ _ _ (.inl q)⟩
 refine codeAny_call_function hr.depth (KX _ _ lk) rfl S.co S.gen rfl (g8 KX hcd) (hb _ _ _ _ ?_)
 refine fq S.kind hkind fun env he s1 x=>?_
 subst he
 refine⟨lim.keeps x.toInCall.keep,codeAny_func ?_⟩
 obtain⟨t,ht,hq⟩:=hbody A outer s H vs Q E (hr.deeper _) hsp
 have I:Inv (cxOf CX P w K mg base N qual scope f cdv A outer s H E) [] (yH N vs) H s1:=jF8 S hr.hd e0 hl r x
 refine b0 (ht [] s1 (yH N vs) H _ I hq) (fun fl s' hs=>?_) fun e s' hs=>hs
 have fin:∀ {σ':St}{H':Hp}{v:V}{u:Value},Inv (cxOf CX P w K mg base N qual scope f cdv A outer s H E) [] σ' H' s'->RelV v u->Q v H'->CE outer P w H s Q u s':=
  fun {σ' H' v u} J rv q=>⟨v,H',J.os,J.bare,J.base,J.hok,rv,q⟩
 cases fl with
 | ret u=>
  obtain⟨v,σ',H',J,rv,q⟩:=hs
  exact fin J rv q
 | next=>
  obtain⟨σ',H',J,q⟩:=hs
  exact fin (v:=V.non) (u:=Value.none) J rfl q
 | brk=>
  obtain⟨_,_,_,q⟩:=hs
  exact False.elim q
 | cont=>
  obtain⟨_,_,_,q⟩:=hs
  exact False.elim q
end L2
namespace L2
open PySem PySem.Spec PyProof.Rows
section
variable {X:Cx}{x:Str}{p pos:Pos}{e:Expr}{es:List Expr}{t:TA}{id T:String}{r:List V->Hp->VK->Prop}
def tCB (r:List V->Hp->VK->Prop)(t:TA):TE:=fun σ H Q=>t σ H fun vs H1=>r vs H1 Q
theorem jGO (hc:yP X (.builtin id) r)(hg:Gl X x)(hm:X.mg x=none)(hv:bootBuiltins x=some (.builtin id))(ha:PA X (e::es) t)(hn:x≠ "__name__" :=by decide)(hdb:(x==("__debug__" :Str))=false:=by decide)
  (he:starEach (e::es) X.env=(false,eval e X.env)::starEach es X.env:=by rfl) (hpl:(backTo pos (starEach es X.env)).any (·.1)=false:=by rfl):PE X (.Call (.Name x p) (e::es) [] pos) (tCB r t):=by
 intro pins s σ H Q I h
 refine dy (jDB I hg hm hv ?_ hn hdb)
 exact PyProof.Rows.callWith_builtin1 (thn (ha pos pins s σ H _ I h) fun us s1 ⟨vs,H1,I1,r1,q1⟩=>hc pins s1 σ H1 vs us Q I1 r1 q1) he hpl
theorem jIM (hc:yP X (.type T) r)(hg:Gl X x)(hm:X.mg x=none)(hv:bootBuiltins x=some (.type T))(ha:PA X (e::es) t)(hn:x≠ "__name__" :=by decide)(hdb:(x==("__debug__" :Str))=false:=by decide)
  (he:starEach (e::es) X.env=(false,eval e X.env)::starEach es X.env:=by rfl) (hpl:(backTo pos (starEach es X.env)).any (·.1)=false:=by rfl):PE X (.Call (.Name x p) (e::es) [] pos) (tCB r t):=by
 intro pins s σ H Q I h
 refine dy (jDB I hg hm hv ?_ hn hdb)
 exact cR (thn (ha pos pins s σ H _ I h) fun us s1 ⟨vs,H1,I1,r1,q1⟩=>hc pins s1 σ H1 vs us Q I1 r1 q1) he hpl
end
end L2
namespace HT
open PySem PyProof.Rows
section
open PySem.SeqAt
open PySem.AutoSeq1 (wpAny_loadPart')
open PySem.MeetsSeq PySem.MeetsSeq2 PySem.MeetsSeq3
end
section
variable {prog:Program}{w:World}{A:Around}{E:Value->Shared->Prop}{s:Shared}
noncomputable def sIx (n d:Nat):Option Int->Nat
 | none=>d
 | some v=>if v<0 then (v+(n:Int)).toNat else min v.toNat n
theorem sIx_none (n d:Nat):sIx n d none=d:=rfl
theorem sIx_nat (n d k:Nat):sIx n d (some (k:Int))=min k n:=by
 show (if (k:Int)<0 then ((k:Int)+(n:Int)).toNat else min (k:Int).toNat n)=min k n
 rw[af (by omega),aS]
end
end HT
namespace L2
open PySem PySem.Spec PyProof.Rows
abbrev TO:=St->Hp->(Option Int->Hp->Prop)->Prop
def PO (X:Cx)(e:Option Expr)(t:TO):Prop:=
 ∀ (pins:List (Addr×Obj)) (s:Shared) (σ:St) (H:Hp) (Q:Option Int->Hp->Prop),Inv X pins σ H s->t σ H Q->
  wpAny (model X.prog X.w) X.A (evalPart e X.env) (fun u s'=>∃ o H',Inv X pins σ H' s'/\IsPart u o/\Q o H') X.xe s
def jI7:TO:=fun _ H Q=>Q none H
def tPart (t:TE):TO:=fun σ H Q=>t σ H fun x H1=>∃ i,x= .int i/\Q (some i) H1
section
variable {X:Cx}{e:Expr}{te:TE}{lo hi:Option Expr}{tl th:TO}{pos p2:Pos}
theorem jN3:PO X none jI7:=by
 intro pins s σ H Q I h
 rw[evalPart_none]
 exact aV ⟨none,H,I, .none,h⟩
theorem jN2 (h:PE X e te):PO X (some e) (tPart te):=by
 intro pins s σ H Q I hw
 rw[evalPart_some]
 refine thn (h pins s σ H _ I hw) fun u s1 ⟨x,H1,I1,r1,q1⟩=>?_
 obtain⟨i,rfl,q⟩:=q1
 obtain⟨t,rfl⟩:=r1
 exact⟨some i,H1,I1, .int i t,q⟩
def SlR (X:Cx)(r:V->Option Int->Option Int->Hp->VK->Prop):Prop:=
 ∀ (pins:List (Addr×Obj)) (s:Shared) (σ:St) (H:Hp) (x:V) (v vl vu:Value) (lo hi:Option Int) (sl:Addr) (Q:VK),Inv X pins σ H s->RelV x v->s.heap.IsSliceOf sl vl vu .none->IsPart vl lo->IsPart vu hi->r x lo hi H Q->
  ∃ T id,typeLookup (.type T) "__getitem__" =pure (some (.builtin id))/\s.TypeIs v T/\wpAny (model X.prog X.w) X.A (getItem v (.ref sl)) (EP X pins σ Q) X.xe s
def tSl (r:V->Option Int->Option Int->Hp->VK->Prop)(te:TE)(tl th:TO):TE:=fun σ H Q=>te σ H fun x H1=>tl σ H1 fun l H2=>th σ H2 fun u H3=>r x l u H3 Q
theorem jKL {r:V->Option Int->Option Int->Hp->VK->Prop}(hr:SlR X r)(he:PE X e te)(hl:PO X lo tl)(hu:PO X hi th):PE X (.Subscript e (.Slice lo hi none p2) pos) (tSl r te tl th):=by
 intro pins s σ H Q I h
 refine Subscript_ (thn (he pins s σ H _ I h) fun v s1 ⟨x,H1,I1,r1,q1⟩=>?_)
 refine wpAny_Slice (thn (hl pins s1 σ H1 _ I1 q1) fun vl s2 ⟨l,H2,I2,pl,q2⟩=>thn (hu pins s2 σ H2 _ I2 q2) fun vu s3 ⟨u,H3,I3,pu,q3⟩=>?_)
 rw[evalPart_none]
 refine aV ?_
 have I4:Inv X pins σ H3 { s3 with heap:=s3.heap.push { cls:= .type "slice",data:= .fields #[vl,vu, .none]}} :=I3.kept (t':=s3.toks) fun b ob q=>am _ q
 obtain⟨T,id,hT,ht,hg⟩:=hr pins { s3 with heap:=s3.heap.push { cls:= .type "slice",data:= .fields #[vl,vu, .none]}} σ H3 x v vl vu l u s3.heap.objs.size Q I4 r1 (Heap.IsSliceOf.new ..) pl pu q3
 show wpAny (model X.prog X.w) X.A (subscriptTail e (.Slice lo hi none p2) v (.ref s3.heap.objs.size)) (EP X pins σ Q) X.xe { s3 with heap:=s3.heap.push { cls:= .type "slice",data:= .fields #[vl,vu, .none]}}
 exact tail_any (ops:=[.ref s3.heap.objs.size,v]) ht hT hg (by with_unfolding_all rfl)
def cutV (xs:List V)(lo hi:Option Int):List V:=(xs.drop (HT.sIx xs.length 0 lo)).take (HT.sIx xs.length xs.length hi - HT.sIx xs.length 0 lo)
theorem jG7 (xs:List V)(lo hi:Option Int):(cutV xs lo hi).length<=xs.length:=by
 unfold cutV
 rw[aY,gf]
 omega
end
end L2
namespace L2
open PySem PySem.Spec PyProof.Rows
noncomputable def ixN (n:Nat)(i:Int):Option Nat:=if 0<=i then (if i<n then some i.toNat else none) else if -(n:Int)<=i then some (i+n).toNat else none
def atI {α:Type}(xs:List α)(i:Int):Option α:=(ixN xs.length i).bind fun j=>xs[j]?
theorem jJF {n:Nat}{i:Int}{j:Nat}(h:ixN n i=some j):seqIndex? i n=some j/\j<n/\ -(n:Int)<=i/\i<n:=by
 unfold ixN at h
 by_cases h0:0<=i
 ·rw[ag h0] at h
  by_cases h1:i<n
  ·rw[ag h1] at h
   have e:i.toNat=j:=aW h
   exact⟨by rw[seqIndex_of h0 h1,e],by omega,by omega,h1⟩
  ·rw[af h1] at h; cases h
 ·rw[af h0] at h
  by_cases h1: -(n:Int)<=i
  ·rw[ag h1] at h
   have e:(i+n).toNat=j:=aW h
   exact⟨by rw[seqIndex_neg (by omega) h1,e],by omega,h1,by omega⟩
  ·rw[af h1] at h; cases h
theorem jK9 {α:Type}{xs:List α}{i:Int}{v:α}(h:atI xs i=some v):∃ j,seqIndex? i xs.length=some j/\xs[j]?=some v/\j<xs.length/\ -(xs.length:Int)<=i/\i<xs.length:=by
 unfold atI at h
 cases e:ixN xs.length i with
 | none=>rw[e] at h; cases h
 | some j=>
  rw[e] at h
  obtain⟨h1,h2,h3,h4⟩:=jJF e
  exact⟨j,h1,h,h2,h3,h4⟩
theorem kU {α:Type}{xs:List α}{j:Nat}{v:α}(h:xs[j]?=some v):atI xs (j:Int)=some v:=by
 have hj:j<xs.length:=(ae.mp h).1
 have e:ixN xs.length (j:Int)=some j:=by
  unfold ixN
  rw[ag (by omega),ag (by omega)]; simp
 unfold atI; rw[e]; exact h
def jAT (b:Expr):Prop:=∀ o i,subscripted b false o i=operate [o,i] (getItem o i)
def IxR (X:Cx)(r:R2):Prop:=
 ∀ (value slice:Expr) (pins:List (Addr×Obj)) (s:Shared) (σ:St) (H:Hp) (x y:V) (v u:Value) (Q:VK),Inv X pins σ H s->RelV x v->RelV y u->r x y H Q->
  subscripted slice false v u=operate [v,u] (getItem v u)->wpAny (model X.prog X.w) X.A (subscriptTail value slice v u) (EP X pins σ Q) X.xe s
def MtR (X:Cx)(id:String)(r:V->List V->Hp->VK->Prop):Prop:=
 ∀ (pins:List (Addr×Obj)) (s:Shared) (σ:St) (H:Hp) (x:V) (xs:List V) (v:Value) (us:List Value) (Q:VK),Inv X pins σ H s->RelV x v->Vals xs us->r x xs H Q->
  wpAny (model X.prog X.w) X.A (call (.builtin id) (v::us)) (EP X pins σ Q) X.xe s
section
variable {X:Cx}{a b:Expr}{ta tb:TE}{pos:Pos}
theorem pe_ix {r:R2}(hr:IxR X r)(ha:PE X a ta)(hb:PE X b tb)(hs:jAT b):PE X (.Subscript a b pos) (tOp r ta tb):=by
 intro pins s σ H Q I h
 exact Subscript_ (binT ha hb I h fun v u s2 x y H2 I2 rx ry q=>hr a b pins s2 σ H2 x y v u Q I2 rx ry q (hs _ _))
def rIxL (K:W.Frag):R2:=fun x y H Q=>∃ p xs i v,x= .ref p/\y= .int i/\SqL K H p xs/\atI xs i=some v/\Q v H
def rIxT (K:W.Frag):R2:=fun x y H Q=>∃ p xs i v,x= .ref p/\y= .int i/\SqT K H p xs/\atI xs i=some v/\Q v H
theorem jAH:IxR X (rIxL X.K):=by
 intro value slice pins s σ H x y v u Q I rx ry h hs
 obtain⟨p,xs,i,z,rfl,rfl,hq,he,q⟩:=h
 cases rx
 obtain⟨t,rfl⟩:=ry
 obtain⟨its,r,pl,hz⟩:=I.list hq
 obtain⟨j,h1,h2,h3,h4,h5⟩:=jK9 he
 obtain⟨w,ew,rw'⟩:=r.get h2
 have hl:=r.length
 have hn:=jF2
 have fin:EP X pins σ Q w s:=⟨z,H,I,rw',q⟩
 by_cases h0:0<=i
 ·have hj:i.toNat=j:=by
   rw[seqIndex_of h0 h5] at h1
   exact aW h1
  exact item_listR pl.isList h0 (by omega) (by rw[hj]; simpa using ew) fin hs
 ·have hj:(i+(its.toArray.size:Int)).toNat=j:=by
   rw[seqIndex_neg (by omega) h4] at h1
   rw[aF,<- hl]
   exact aW h1
  exact subscriptTail_builtinR (x:=w) pl.isList.typeIs slot_list_getitem.lookup
   (wpAny_getItem_list_neg (Q:=fun r s'=>r=w/\EP X pins σ Q r s') pl.isList (by omega) (by rw[aF] <;> omega) (by omega) (by rw[hj]; simpa using ew) ⟨rfl,fin⟩) hs
theorem kQ:IxR X (rIxT X.K):=by
 intro value slice pins s σ H x y v u Q I rx ry h hs
 obtain⟨p,xs,i,z,rfl,rfl,hq,he,q⟩:=h
 cases rx
 obtain⟨t,rfl⟩:=ry
 obtain⟨its,r,pl,hz⟩:=I.tuple hq
 obtain⟨j,h1,h2,h3,h4,h5⟩:=jK9 he
 obtain⟨w,ew,rw'⟩:=r.get h2
 have hl:=r.length
 have hn:=jF2
 have fin:EP X pins σ Q w s:=⟨z,H,I,rw',q⟩
 exact subscriptTail_builtinR (x:=w) pl.typeIs slot_tuple_getitem.lookup
  (getItem_tuple (j:=j) (Q:=fun r s'=>r=w/\EP X pins σ Q r s') pl (by omega) (by omega) (by rw[aF,<- hl]; exact h1) (by simpa using ew) ⟨rfl,fin⟩) hs
theorem jHO (its:List Value)(n j:Nat)(u:Value):Obj.mapSeq (·.setIfInBounds j u) { cls:= .type "list",data:= .seq its.toArray n} = { cls:= .type "list",data:= .seq (its.set j u).toArray n} :=by
 simp [Obj.mapSeq]
theorem Inv.lst {pins:List (Addr×Obj)}{σ:St}{H:Hp}{s:Shared}{p:Addr}{xs:List V}(I:Inv X pins σ H s)(h:H p=some (.lst xs)):
  ∃ (its:List Value) (n:Nat),Vals xs its/\s.heap.get? p=some { cls:= .type "list",data:= .seq its.toArray n} /\xs.length<=sizeLine:=by
 obtain⟨z,its,n,r,e⟩:=I.hok p _ h
 exact⟨its,n,r,e,z⟩
theorem Inv.lstUpd {pins:List (Addr×Obj)}{σ:St}{H:Hp}{s:Shared}{p:Addr}{xs ys:List V}{its its':List Value}{n n':Nat}{f:Obj->Obj}(I:Inv X pins σ H s)(h:H p=some (.lst xs))
  (ho:s.heap.get? p=some { cls:= .type "list",data:= .seq its.toArray n}) (hf:f { cls:= .type "list",data:= .seq its.toArray n} = { cls:= .type "list",data:= .seq its'.toArray n'}) (r:Vals ys its') (hz:ys.length<=sizeLine) (t:Nat):
  Inv X pins σ (upd H p (.lst ys)) { s with heap:=s.heap.update p f,toks:=t} :=by
 have e:(s.heap.update p f).get? p=some { cls:= .type "list",data:= .seq its'.toArray n'} :=by
  rw[Heap.get?_update_self f ho (by rw[hf] <;> rfl),hf]
 refine I.write (x:=p) (e:=p) (by rw[h]; trivial) (.inl rfl) (fun b u hb q=>(eE _ _ (bV hb)).trans q) ⟨_,e⟩ ?_
 exact⟨hz,its',n',r,e⟩
def rSetL:V->V->V->Hp->(Hp->Prop)->Prop:=fun o i v H Q=>∃ p xs k j,o= .ref p/\i= .int k/\H p=some (.lst xs)/\ixN xs.length k=some j/\Q (upd H p (.lst (xs.set j v)))
theorem jGJ:PSet X rSetL:=by
 intro pins s σ H o i v ov iv u Q I ro ri rv h
 obtain⟨p,xs,k,j,rfl,rfl,hp,hj,q⟩:=h
 cases ro
 obtain⟨t,rfl⟩:=ri
 obtain⟨its,n,r,ho,hz⟩:=I.lst hp
 obtain⟨h1,h2,h3,h4⟩:=jJF hj
 have hl:=r.length
 have hn:=jF2
 have I':Inv X pins σ (upd H p (.lst (xs.set j v))) { s with heap:=s.heap.update p (Obj.mapSeq (·.setIfInBounds j u))} :=
  I.lstUpd hp ho (jHO its n j u) (r.set rv j) (by rw[List.length_set]; exact hz) s.toks
 by_cases h0:0<=k
 ·have hk:k.toNat=j:=by
   rw[seqIndex_of h0 h4] at h1
   exact aW h1
  exact PySem.W.ki_setAt ho h0 (by omega) (by rw[aF,<- hl]; exact h4) (by rw[hk]; exact⟨_,I',q⟩)
 ·have hk:(k+(its.toArray.size:Int)).toNat=j:=by
   rw[seqIndex_neg (by omega) h3] at h1
   rw[aF,<- hl]
   exact aW h1
  exact PySem.W.ki_setBack ho (by omega) (by rw[aF,<- hl]; exact h3) (by omega) (by rw[hk]; exact⟨_,I',q⟩)
theorem jEQ (lo hi:Option Int)(n:Nat):(sliceBounds lo hi none n).1=((HT.sIx n 0 lo:Nat):Int)/\(sliceBounds lo hi none n).2.1=((HT.sIx n n hi:Nat):Int)/\(sliceBounds lo hi none n).2.2=1:=by
 refine⟨?_,?_,rfl⟩
 ·cases lo with
  | none=>simp [sliceBounds,HT.sIx]
  | some i=>
   simp only [sliceBounds,HT.sIx,getD_none,show (1:Int)>0 by decide,io]
   by_cases h:i<0
   ·simp only [h,io] <;> omega
   ·simp only [h,iq] <;> omega
 ·cases hi with
  | none=>simp [sliceBounds,HT.sIx]
  | some i=>
   simp only [sliceBounds,HT.sIx,getD_none,show (1:Int)>0 by decide,io]
   by_cases h:i<0
   ·simp only [h,io] <;> omega
   ·simp only [h,iq] <;> omega
theorem jE0 (its:List Value)(lo hi:Option Int):slicePick its.toArray lo hi none=((its.drop (HT.sIx its.length 0 lo)).take (HT.sIx its.length its.length hi - HT.sIx its.length 0 lo)).toArray:=by
 obtain⟨h1,h2,h3⟩:=jEQ lo hi its.toArray.size
 unfold slicePick
 rw[h1,h2,h3]
 simp only [sliceRange_one,pick_run,aF] <;> rfl
def rSlL (K:W.Frag):V->Option Int->Option Int->Hp->VK->Prop:=fun x lo hi H Q=>∃ a xs,x= .ref a/\SqL K H a xs/\∀ p,H p=none->Q (.ref p) (upd H p (.lst (cutV xs lo hi)))
theorem jML:SlR X (rSlL X.K):=by
 intro pins s σ H x v vl vu lo hi sl Q I rx hs pl pu h
 obtain⟨a,xs,rfl,hx,q⟩:=h
 cases rx
 obtain⟨its,r,ht,hz⟩:=I.list hx
 have hlen:=r.length
 refine⟨"list",_,slot_list_getitem.lookup,ht.isList.typeIs,?_⟩
 refine wpAny_getItem_list_slice ht.isList hs pl pu .none (by simp) ?_ (by rw[aF] <;> omega)
 rw[jE0,<- hlen]
 refine⟨.ref s.heap.objs.size,_,I.laid (t':=s.toks) (o:= .lst (cutV xs lo hi)) (fun b ob q=>am _ q) (az _) ?_,rfl,q _ (I.hok.fresh (az _))⟩
 exact⟨bD (jG7 xs lo hi) hz,_,0,(r.drop (HT.sIx xs.length 0 lo)).take (HT.sIx xs.length xs.length hi - HT.sIx xs.length 0 lo),aQ _ rfl⟩
def yQ:V->Bool
 | .non=>true
 | .bl _=>true
 | .int _=>true
 | .str _=>true
 | _=>false
noncomputable def eqV:V->V->Bool
 | .non, .non=>true
 | .bl a, .bl b=>a==b
 | .bl a, .int b=>(if a then 1 else 0)==b
 | .int a, .bl b=>a==(if b then 1 else 0)
 | .int a, .int b=>a==b
 | .str a, .str b=>a==b
 | _,_=>false
theorem jQ4 {A:Around}{s:Shared}{y x:V}{u v:Value}(ry:RelV y u)(rx:RelV x v)(fy:yQ y=true)(fx:yQ x=true):SeqAt.EqAt A s u v (eqV y x):=by
 cases y with
 | non=>
  cases ry
  cases x with
  | non=>cases rx; exact SeqAt.EqAt.same _
  | bl b=>cases rx; exact SeqAt.EqAt.none_bool b
  | int b=>obtain⟨t,rfl⟩:=rx; exact SeqAt.EqAt.none_int b t
  | str b=>obtain⟨t,rfl⟩:=rx; exact SeqAt.EqAt.none_str b t
  | _=>exact absurd (show false=true from fx) ak
 | bl a=>
  cases ry
  cases x with
  | non=>cases rx; exact SeqAt.EqAt.bool_none a
  | bl b=>cases rx; exact SeqAt.EqAt.bool_bool a b
  | int b=>obtain⟨t,rfl⟩:=rx; exact SeqAt.EqAt.bool_int a b t
  | str b=>obtain⟨t,rfl⟩:=rx; exact SeqAt.EqAt.bool_str a b t
  | _=>exact absurd (show false=true from fx) ak
 | int a=>
  obtain⟨t',rfl⟩:=ry
  cases x with
  | non=>cases rx; exact SeqAt.EqAt.int_none a t'
  | bl b=>cases rx; exact SeqAt.EqAt.int_bool a t' b
  | int b=>obtain⟨t,rfl⟩:=rx; exact SeqAt.EqAt.int_int a t' b t
  | str b=>obtain⟨t,rfl⟩:=rx; exact SeqAt.EqAt.int_str a t' b t
  | _=>exact absurd (show false=true from fx) ak
 | str a=>
  obtain⟨t',rfl⟩:=ry
  cases x with
  | non=>cases rx; exact SeqAt.EqAt.str_none a t'
  | bl b=>cases rx; exact SeqAt.EqAt.str_bool a t' b
  | int b=>obtain⟨t,rfl⟩:=rx; exact SeqAt.EqAt.str_int a t' b t
  | str b=>obtain⟨t,rfl⟩:=rx; exact SeqAt.EqAt.str_str a t' b t
  | _=>exact absurd (show false=true from fx) ak
 | _=>exact absurd (show false=true from fy) ak
noncomputable def eqU (x:V)(u:Value):Bool:=match u with
 | .none=>eqV .non x
 | .bool b=>eqV (.bl b) x
 | .int i _=>eqV (.int i) x
 | .str z _=>eqV (.str z) x
 | _=>false
theorem jJQ {x y:V}{u:Value}(r:RelV y u)(f:yQ y=true):eqU x u=eqV y x:=by
 cases y with
 | non=>cases r; rfl
 | bl b=>cases r; rfl
 | int i=>obtain⟨t,rfl⟩:=r; rfl
 | str z=>obtain⟨t,rfl⟩:=r; rfl
 | _=>exact absurd (show false=true from f) ak
theorem jGA {x:V} :∀ {xs:List V}{us:List Value},Vals xs us->xs.all yQ=true->us.any (eqU x)=xs.any fun y=>eqV y x
 | _,_, .nil,_=>rfl
 | y::xs,u::us, .cons r t,f=>by
  rw[fU,bO] at f
  rw[eT,eT,jJQ r f.1,jGA t f.2]
theorem jBQ {A:Around}{s:Shared}{x:V}{v:Value}(rx:RelV x v)(fx:yQ x=true):∀ {xs:List V}{us:List Value},Vals xs us->xs.all yQ=true->∀ u∈us,SeqAt.EqAt A s u v (eqU x u)
 | _,_, .nil,_=>fun u hu=>by cases hu
 | y::xs,u::us, .cons r t,f=>fun u' hu=>by
  rw[fU,bO] at f
  rcases aR.mp hu with rfl | hu
  ·rw[jJQ r f.1]; exact jQ4 r rx f.1 fx
  ·exact jBQ rx fx t f.2 u' hu
def inV (x:V)(xs:List V):Bool:=xs.any fun y=>eqV y x
def rIn (K:W.Frag)(neg:Bool):R2:=fun x y H Q=>∃ p xs,y= .ref p/\(SqL K H p xs\/SqT K H p xs)/\yQ x=true/\xs.all yQ=true/\Q (.bl (if neg then !inV x xs else inV x xs)) H
theorem jIQ:OpR X (compareOp .In) (rIn X.K false):=by
 intro pins s σ H x y v u Q I rx ry h
 obtain⟨p,xs,rfl,hq,fx,fs,q⟩:=h
 cases ry
 rcases hq with hq | hq
 ·obtain⟨its,r,pl,hz⟩:=I.list hq
  refine SeqAt.in_listAt (eqU x) pl.isList (fun w hw=>jBQ rx fx r fs w (by simpa using hw)) ⟨.bl _,H,I,rfl,?_⟩
  rw[show its.toArray.any (eqU x)=its.any (eqU x) by simp,jGA r fs]
  exact q
 ·obtain⟨its,r,pl,hz⟩:=I.tuple hq
  refine SeqAt.in_tupleAt (eqU x) pl (fun w hw=>jBQ rx fx r fs w (by simpa using hw)) ⟨.bl _,H,I,rfl,?_⟩
  rw[show its.toArray.any (eqU x)=its.any (eqU x) by simp,jGA r fs]
  exact q
theorem jA0:yP X (.builtin "len") (fun xs H Q=>∃ p ys,xs=[.ref p]/\(SqL X.K H p ys\/SqT X.K H p ys)/\Q (.int ys.length) H):=by
 intro pins s σ H xs us Q I r h
 obtain⟨p,ys,rfl,hq,q⟩:=h
 obtain⟨u,rfl,rx⟩:=vals1 r
 cases rx
 have hn:=jF2
 rcases hq with hq | hq
 ·obtain⟨its,r',pl,hz⟩:=I.list hq
  have hlen:=r'.length
  exact Calls.call_len_list pl.isList (by simp only [aF] <;> omega) ⟨.int ys.length,H,I.tok _,⟨s.toks+1,by rw[aF,hlen]⟩,q⟩
 ·obtain⟨its,r',pl,hz⟩:=I.tuple hq
  have hlen:=r'.length
  exact len_tuple pl (by simp only [aF] <;> omega) ⟨.int ys.length,H,I.tok _,⟨s.toks+1,by rw[aF,hlen]⟩,q⟩
theorem jA3:yP X (.type "tuple") (fun xs H Q=>∃ p ys,xs=[.ref p]/\((SqL X.K H p ys/\∀ l,H l=none->Q (.ref l) (upd H l (.tup ys)))\/(SqT X.K H p ys/\Q (.ref p) H))):=by
 intro pins s σ H xs us Q I r h
 obtain⟨p,ys,rfl,h⟩:=h
 obtain⟨u,rfl,rx⟩:=vals1 r
 cases rx
 rcases h with ⟨hq,q⟩ | ⟨hq,q⟩
 ·obtain⟨its,r',pl,hz⟩:=I.list hq
  have hlen:=r'.length
  refine call_tuple_list pl.isList (fun h' kp=>?_) (by simp only [aF] <;> omega)
  have I1:Inv X pins σ H { s with heap:=h'} :=I.kept (t':=s.toks) kp
  have I2:Inv X pins σ (upd H h'.objs.size (.tup ys)) { s with heap:=h'.push { cls:= .type "tuple",data:= .seq its.toArray}} :=
   I1.laid (t':=s.toks) (fun b o e=>am _ e) (az _) (show ObjOk X.prog X.w _ _ _ (.tup ys) from ⟨hz,its,r',TupO.new _ _⟩)
  exact⟨.ref h'.objs.size,_,I2,rfl,q _ (I1.hok.fresh (az _))⟩
 ·obtain⟨its,r',pl,hz⟩:=I.tuple hq
  exact call_tuple_same pl ⟨.ref p,H,I,rfl,q⟩
def tyV (K:W.Frag)(T:String)(x:V)(H:Hp):Prop:=match x with
 | .str _=>T= "str"
 | .int _=>T= "int"
 | .ref p=>(T= "list" /\∃ xs,SqL K H p xs)\/(T= "tuple" /\∃ o,K.lookup p=some o/\o.cls= .type "tuple" /\o.dict=none)\/
   (T= "dict" /\((∃ kvs,H p=some (.dK kvs))\/∃ kvs,H p=some (.dT kvs)))\/(T= "set" /\∃ S n,H p=some (.set S n))
 | _=>False
theorem jLR {pins:List (Addr×Obj)}{σ:St}{H:Hp}{s:Shared}{T:String}{x:V}{v:Value}(I:Inv X pins σ H s)(r:RelV x v)(ty:tyV X.K T x H):
  s.TypeIs v T/\∀ a,v= .ref a->∃ ob,s.heap.get? a=some ob/\ob.dict=none:=by
 cases x with
 | str z=>
  obtain⟨t,rfl⟩:=r
  cases (show T= "str" from ty)
  exact⟨typeIs_str s z t,fun _ e=>nomatch e⟩
 | int i=>
  obtain⟨t,rfl⟩:=r
  cases (show T= "int" from ty)
  exact⟨typeIs_int s i t,fun _ e=>nomatch e⟩
 | ref p=>
  cases r
  rcases ty with ⟨rfl,xs,hq⟩ | ⟨rfl,o,hk,hc,hd⟩ | ⟨rfl,hk⟩ | ⟨rfl,S,n,hk⟩
  ·obtain⟨its,_,pl,_⟩:=I.list hq
   refine⟨pl.isList.typeIs,fun a e=>?_⟩
   cases e
   obtain⟨o,n,e,c,hd,_⟩:=pl
   exact⟨o,e,hd⟩
  ·refine⟨⟨o,I.kIn p o hk,hc⟩,fun a e=>?_⟩
   cases e
   exact⟨o,I.kIn _ o hk,hd⟩
  ·have z:∃ o,s.heap.get? p=some o/\o.ExactDict:=by
    rcases hk with ⟨kvs,hk⟩ | ⟨kvs,hk⟩
    ·obtain⟨_,_,_,_,o,_,_,e,ex,_⟩:=I.hok p _ hk
     exact⟨o,e,ex⟩
    ·obtain⟨_,_,_,_,o,_,_,e,ex,_⟩:=I.hok p _ hk
     exact⟨o,e,ex⟩
   obtain⟨o,e,ex⟩:=z
   refine⟨⟨o,e,ex.1⟩,fun a e2=>?_⟩
   cases e2
   exact⟨o,e,ex.2.1⟩
  ·obtain⟨o,_,_,_,e,ex,_⟩:=I.hok p _ hk
   refine⟨⟨o,e,ex.1⟩,fun a e2=>?_⟩
   cases e2
   exact⟨o,e,ex.2.1⟩
 | _=>exact False.elim ty
def tBM0 (K:W.Frag)(T:String)(r:V->List V->Hp->VK->Prop)(to:TE):TE:=fun σ H Q=>to σ H fun x H1=>tyV K T x H1/\r x [] H1 Q
def tBM (K:W.Frag)(T:String)(r:V->List V->Hp->VK->Prop)(to:TE)(t:TA):TE:=fun σ H Q=>to σ H fun x H1=>tyV K T x H1/\t σ H1 fun xs H2=>r x xs H2 Q
variable {o e:Expr}{es:List Expr}{to:TE}{t:TA}{name:Str}{apos cpos:Pos}{T id:String}{r:V->List V->Hp->VK->Prop}
theorem jPA (pa:PlainAttrs T)(slot:Slot T name id)(hty:typeOf (.builtin id)=pure (.type "method_descriptor"))(hm:MtR X id r)(ho:PE X o to)
  (hbase:attributeBase o name X.env (eval o X.env)=eval o X.env:=by rfl) (hline:(apos.endLine==cpos.line)=true:=by rfl):PE X (.Call (.Attribute o name apos) [] [] cpos) (tBM0 X.K T r to):=by
 intro pins s σ H Q I h
 refine wpAny_Call_method0_late hbase hline (thn (ho pins s σ H _ I h) fun v s1 ⟨x,H1,I1,r1,ty,q1⟩=>?_)
 obtain⟨h1,h2⟩:=jLR I1 r1 ty
 exact⟨T,id,pa,slot,hty,h1,h2,Calls.callWith_builtin rfl (PySem.evalArgs_none (hm pins s1 σ H1 x [] v [] Q I1 r1 .nil q1))⟩
theorem pe_bm (pa:PlainAttrs T)(slot:Slot T name id)(hty:typeOf (.builtin id)=pure (.type "method_descriptor"))(hm:MtR X id r)(ho:PE X o to)(ha:PA X (e::es) t)
  (hbase:attributeBase o name X.env (eval o X.env)=eval o X.env:=by rfl)
  (hfew:((backTo cpos (starEach (e::es) X.env)).all (fun x=>!x.1)&&(backToKw cpos (keywordEach [] X.env)).all (fun x=>x.1.isSome)
   &&decide ((e::es).length+([]:List Keyword).length+(if ([]:List Keyword).isEmpty then 0 else 1)<30))=true:=by rfl)
  (hline:(apos.endLine==cpos.line)=true:=by rfl) (hs:starEach (e::es) X.env=(false,eval e X.env)::starEach es X.env:=by rfl) (hplain:(backTo cpos (starEach es X.env)).any (·.1)=false:=by rfl):
  PE X (.Call (.Attribute o name apos) (e::es) [] cpos) (tBM X.K T r to t):=by
 intro pins s σ H Q I h
 refine wpAny_Call_method_late hbase hfew hline rfl (thn (ho pins s σ H _ I h) fun v s1 ⟨x,H1,I1,r1,ty,q1⟩=>?_)
 obtain⟨h1,h2⟩:=jLR I1 r1 ty
 refine⟨T,id,pa,slot,hty,h1,h2,?_⟩
 have hA:=ha cpos pins s1 σ H1 _ I1 q1
 rw[hs] at hA ⊢
 refine Calls.callWith_builtin (by show (false || (backTo cpos (starEach es X.env)).any (·.1))=false; rw[hplain] <;> rfl) (Calls.evalArgs_plain ?_)
 exact thn hA fun us s2 ⟨vs,H2,I2,r2,q2⟩=>hm pins s2 σ H2 x vs v us Q I2 r1 r2 q2
/- xs.append(e),list.index on a module's tuple .. are MtR facts of 06m -/
end
end L2
namespace L2
open PySem PySem.Spec PyProof.Rows
def MtM (X:Cx)(id:String)(r:V->List V->Hp->VK->Prop):Prop:=
 ∀ (pins:List (Addr×Obj)) (s:Shared) (σ:St) (H:Hp) (x:V) (xs:List V) (v:Value) (us:List Value) (Q:VK),Inv X pins σ H s->RelV x v->Vals xs us->r x xs H Q->
  wpAny (model X.prog X.w) X.A (call (.builtin id) (v::us)) (EP X pins σ Q) X.xe s
theorem Vals.one:∀ {x:V}{us:List Value},Vals [x] us->∃ u,us=[u]/\RelV x u
 | _,_, .cons r .nil=>⟨_,rfl,r⟩
theorem Vals.two:∀ {x y:V}{us:List Value},Vals [x,y] us->∃ u v,us=[u,v]/\RelV x u/\RelV y v
 | _,_,_, .cons r (.cons q .nil)=>⟨_,_,rfl,r,q⟩
theorem Vals.zero:∀ {us:List Value},Vals [] us->us=[]
 | _, .nil=>rfl
theorem Vals.dropLast {xs:List V}{us:List Value}(h:Vals xs us):Vals xs.dropLast us.dropLast:=by
 induction h with
 | nil=>exact .nil
 | cons r t ih=>
  cases t with
  | nil=>exact .nil
  | cons q t'=>exact .cons r ih
theorem Vals.rep {xs:List V}{us:List Value}(h:Vals xs us):∀ k:Nat,Vals (replicate k xs).flatten (replicate k us).flatten
 | 0=> .nil
 | k+1=>by
  rw[cj,cj,dF,dF]
  exact Vals.append h (Vals.rep h k)
theorem jHT {α:Type}(l:List α):l.eraseIdx (l.length - 1)=l.dropLast:=by
 induction l with
 | nil=>rfl
 | cons a r ih=>
  cases r with
  | nil=>rfl
  | cons b r=>
   have e:(a::b::r).length - 1=((b::r).length - 1)+1:=by
    have h1:(a::b::r).length=r.length+2:=rfl
    have h2:(b::r).length=r.length+1:=rfl
    omega
   rw[e,List.eraseIdx_cons_succ,ih]
   all_goals rfl
theorem jF9 (its:List Value):∀ (k:Nat) (acc:List Value),
  List.foldl (fun x1 x2=>x1++x2) acc.toArray (replicate k its.toArray)=(acc++(replicate k its).flatten).toArray
 | 0,acc=>by simp
 | k+1,acc=>by
  have e:acc.toArray++its.toArray=(acc++its).toArray:=by simp
  have e2:(acc++its)++(replicate k its).flatten=acc++(replicate (k+1) its).flatten:=by
   rw[cj,dF,aE]
  rw[<- e2,<- jF9 its k (acc++its),<- e,cj,List.foldl_cons]
section
variable {X:Cx}{pins:List (Addr×Obj)}{σ:St}{H:Hp}{s:Shared}{l b:Addr}{xs ys zs:List V}
theorem Inv.lset {its its':List Value}{n:Nat}{f:Array Value->Array Value}{t':Nat}(I:Inv X pins σ H s)(hH:H l=some (.lst xs))
  (e:s.heap.get? l=some { cls:= .type "list",data:= .seq its.toArray n}) (hf:f its.toArray=its'.toArray) (hv:Vals ys its') (hz:ys.length<=sizeLine):
  Inv X pins σ (upd H l (.lst ys)) { s with heap:=s.heap.update l (Obj.mapSeq f),toks:=t'} :=by
 have q:=PySem.IsL.update e f
 rw[hf] at q
 refine I.write (x:=l) (e:=l) (by rw[hH]; exact trivial) (.inl rfl) (fun b' u hb hu=>(eE s.heap (Obj.mapSeq f) (bV hb)).trans hu) ⟨_,q⟩ ?_
 exact⟨hz,its',_,hv,q⟩
theorem Inv.lnew {its:List Value}{t':Nat}(I:Inv X pins σ H s)(hv:Vals ys its)(hz:ys.length<=sizeLine):
  Inv X pins σ (upd H s.heap.objs.size (.lst ys)) { s with heap:=s.heap.push { cls:= .type "list",data:= .seq its.toArray},toks:=t'} :=
 I.laid (fun _ _ q=>am _ q) (az _) ⟨hz,its,0,hv,aQ _ rfl⟩
theorem Inv.fresh (I:Inv X pins σ H s):H s.heap.objs.size=none:=I.hok.fresh (az _)
theorem Inv.lstM (I:Inv X pins σ H s)(hH:H l=some (.lst xs)):xs.length<=sizeLine/\∃ (its:List Value) (n:Nat),Vals xs its/\xs.length=its.length/\s.heap.get? l=some { cls:= .type "list",data:= .seq its.toArray n} :=by
 obtain⟨z,its,n,r,e⟩:=I.hok l _ hH
 exact⟨z,its,n,r,r.length,e⟩
theorem jE2 {n:Nat}(h:n<=sizeLine):Builtin.List.listTooLong n=false:=by
 unfold Builtin.List.listTooLong
 exact aM (by omega)
end
section
variable {X:Cx}
def jMU:V->List V->Hp->VK->Prop:=fun x vs H Q=>∃ l xs y,x= .ref l/\vs=[y]/\H l=some (.lst xs)/\xs.length<sizeLine/\Q .non (upd H l (.lst (xs++[y])))
theorem jAQ:MtM X "list.append" jMU:=by
 intro pins s σ H x vs v us Q I rx rv h
 obtain⟨l,xs,y,rfl,rfl,hH,hz,q⟩:=h
 cases rx
 obtain⟨u,rfl,ru⟩:=rv.one
 obtain⟨z,its,n,r,hl,e⟩:=I.lstM hH
 refine dJ F.slot_list_append ⟨_,e,rfl⟩ F.entry_list_append (F.args_list_append_2 _ _) (PySem.list_append l its.toArray n u (by rw[aF]; omega)) ⟨e,?_⟩
 refine⟨.non,_,I.lset (its':=its++[u]) hH e (by simp) (r.append (.cons ru .nil)) ?_,rfl,q⟩
 rw[ar,cI]
 omega
def jMS:V->List V->Hp->VK->Prop:=fun x vs H Q=>∃ l b xs zs,x= .ref l/\vs=[.ref b]/\H l=some (.lst xs)/\H b=some (.lst zs)/\xs.length+zs.length<=sizeLine/\Q .non (upd H l (.lst (xs++zs)))
theorem jEY:MtM X "list.extend" jMS:=by
 intro pins s σ H x vs v us Q I rx rv h
 obtain⟨l,b,xs,zs,rfl,rfl,hH,hB,hz,q⟩:=h
 cases rx
 obtain⟨u,rfl,ru⟩:=rv.one
 cases ru
 obtain⟨z,its,n,r,hl,e⟩:=I.lstM hH
 obtain⟨z2,its2,n2,r2,hl2,e2⟩:=I.lstM hB
 have hsz:its.toArray.size+its2.toArray.size<=sizeLine:=by rw[aF,aF]; omega
 have hlong:¬ (!its.toArray.isEmpty&&Builtin.List.listTooLong (its.toArray.size+its2.toArray.size))=true:=by
  rw[jE2 hsz,dM]
  exact ak
 refine dJ F.slot_list_extend ⟨_,e,rfl⟩ F.entry_list_extend (F.args_list_extend_2 _ _)
  (AutoSeq1.list_extend_list_list_0 l its.toArray n b its2.toArray n2 hlong (by rw[aF]; omega) (by omega)) ⟨e,e2,?_⟩
 refine⟨.non,_,I.lset (its':=its++its2) hH e (by simp) (r.append r2) ?_,rfl,q⟩
 rw[ar]
 omega
def rPop:V->List V->Hp->VK->Prop:=fun x vs H Q=>∃ l xs y,x= .ref l/\vs=[]/\H l=some (.lst xs)/\xs[xs.length - 1]?=some y/\Q y (upd H l (.lst xs.dropLast))
theorem jPK:MtM X "list.pop" rPop:=by
 intro pins s σ H x vs v us Q I rx rv h
 obtain⟨l,xs,y,rfl,rfl,hH,hy,q⟩:=h
 cases rx
 have hus:=rv.zero
 subst hus
 obtain⟨z,its,n,r,hl,e⟩:=I.lstM hH
 obtain⟨u,hu,ru⟩:=r.get hy
 have hy':its.toArray[its.toArray.size - 1]?=some u:=by
  show its.toArray[its.length - 1]?=some u
  rw[<- bY,<- hl]
  exact hu
 refine dJ F.slot_list_pop ⟨_,e,rfl⟩ F.entry_list_pop (F.args_list_pop_1 _) (MeetsSeq.list_pop_last l its.toArray n u hy' (by rw[aF]; omega)) ⟨e,?_⟩
 refine⟨y,_,I.lset (its':=its.dropLast) hH e ?_ r.dropLast ?_,ru,q⟩
 ·show its.toArray.eraseIdxIfInBounds (its.toArray.size - 1)=its.dropLast.toArray
  rw[aF,List.eraseIdxIfInBounds_toArray,jHT]
 ·rw[List.length_dropLast]
  omega
def rCat:R2:=fun x y H Q=>∃ l b xs zs,x= .ref l/\y= .ref b/\H l=some (.lst xs)/\H b=some (.lst zs)/\xs.length+zs.length<=sizeLine/\∀ p,H p=none->Q (.ref p) (upd H p (.lst (xs++zs)))
theorem jPD:OpR X (binaryOp .Add) rCat:=by
 intro pins s σ H x y v u Q I rx ry h
 obtain⟨l,b,xs,zs,rfl,rfl,hH,hB,hz,q⟩:=h
 cases rx
 cases ry
 obtain⟨z,its,n,r,hl,e⟩:=I.lstM hH
 obtain⟨z2,its2,n2,r2,hl2,e2⟩:=I.lstM hB
 refine PySem.P.add_list e e2 ?_ (by rw[aF,aF]; omega)
 have ea:its.toArray++its2.toArray=(its++its2).toArray:=by simp
 rw[ea]
 exact⟨.ref _,_,I.lnew (t':=s.toks) (r.append r2) (by rw[ar]; omega),rfl,q _ I.fresh⟩
def rRep:R2:=fun x y H Q=>∃ l k xs,x= .ref l/\y= .int k/\H l=some (.lst xs)/\ -(2 ^ 63)<=k/\k<2 ^ 63/\xs.length*k.toNat<=sizeLine/\
 ∀ p,H p=none->Q (.ref p) (upd H p (.lst (replicate k.toNat xs).flatten))
theorem jDA {α:Type}(xs:List α)(k:Nat):(replicate k xs).flatten.length=k*xs.length:=by
 induction k with
 | zero=>simp
 | succ k ih=>rw[cj,dF,ar,ih,Nat.succ_mul,ic]
theorem jGP:OpR X (binaryOp .Mult) rRep:=by
 intro pins s σ H x y v u Q I rx ry h
 obtain⟨l,k,xs,rfl,rfl,hH,h1,h2,hz,q⟩:=h
 cases rx
 obtain⟨t,rfl⟩:=ry
 obtain⟨z,its,n,r,hl,e⟩:=I.lstM hH
 have hlen:its.toArray.size*k.toNat<=sizeLine:=by rw[aF,<- hl]; exact hz
 have hcap:¬ its.toArray.size*k.toNat>(2 ^ 63 - 1) / 8:=by
  have:(sizeLine:Nat)<=(2 ^ 63 - 1) / 8:=by decide
  omega
 have hfit:¬ (!Builtin.List.listFitsIndex k)=true:=by
  rw[fitsIndex_both h1 h2]
  exact ak
 have hlong:¬ Builtin.List.listTooLong (its.toArray.size*k.toNat)=true:=by
  rw[jE2 hlen]
  exact ak
 have hnew:List.foldl (fun x1 x2=>x1++x2) #[] (replicate (if its.toArray.isEmpty=true then 0 else k.toNat) its.toArray)=(replicate k.toNat its).flatten.toArray:=by
  have f0:∀ m:Nat,List.foldl (fun x1 x2=>x1++x2) #[] (replicate m its.toArray)=(replicate m its).flatten.toArray:=fun m=>by
   have:=jF9 its m []
   rw[gH] at this
   exact this
  rw[f0]
  cases its with
  | nil=>simp
  | cons a r'=>rw[af (by simp)]
 refine wpAny_binaryOp_repeat_ref (T:= "list") (U:= "int") (by decide) ⟨_,e,rfl⟩ (fun s'=>typeIs_int s' k t) noFill_list_mul F.fills_int_mul F.slot_int_rmul repeat_list F.slot_int_index.lookup
  (dJ F.slot_int_rmul (typeIs_int s k t) F.entry_int_rmul (F.args_int_rmul_2 _ _) (int___rmul___int_list k t l its.toArray n)
   ⟨e,rfl,⟨_,e,rfl⟩,dJ F.slot_list_mul ⟨_,e,rfl⟩ F.entry_list_mul (F.args_list_mul_2 _ _) (AutoListH.list___mul___list_int_3 l its.toArray n k t hfit hcap hlong) ⟨e,?_⟩⟩)
 rw[hnew]
 exact⟨.ref _,_,I.lnew (t':=s.toks) (r.rep k.toNat) (by rw[jDA,Nat.mul_comm]; exact hz),rfl,q _ I.fresh⟩
end
section
variable {prog:Program}{w:World}{A:Around}{E:Value->Shared->Prop}{s:Shared}
set_option maxRecDepth 100000 in
end
section
variable {X:Cx}
end
end L2
namespace Att
open PySem PySem.W PySem.Calls PyProof.Rows
theorem jDD {P:Params}{h:Heap} :∀ (ns:List Int) (vs:List Value),WellAll P h vs (ns.map WData.int)->IntsAre vs ns:=by
 intro ns
 induction ns with
 | nil=>
  intro vs w
  rw[gB] at w
  cases w
  exact .nil
 | cons n ns ih=>
  intro vs w
  rw[ba] at w
  cases w with
  | cons a b=>
   cases a
   exact .cons _ _ (ih _ b)
theorem jIE {l:OpenLaw}{n:Nat}(hn:l.most=some n){P:Params}{h:Heap}{args:List WData}{vals:List Value}
  (hpre:l.row.toRowW.claim.pre args=true) (hwl:WellAll P h vals args):
  ∃ a vs ns,vals=[Value.ref a]/\args=[WData.list (ns.map WData.int)]/\h.get? a=some { cls:= .type "list",data:= .seq vs.toArray} /\IntsAre vs ns/\ns.length<=n:=by
 have hsh:WShape.hasAll [] args [.list .int]=true:=(pre_splitW hpre).1
 have hc:l.pre.holds [] { args:=args} =true:=(pre_splitW hpre).2
 obtain⟨d,r,rfl,h1,h2⟩:=hasAllW_cons hsh
 obtain rfl:=hasAllW_nil h2
 obtain⟨xs,rfl,h3⟩:=hasW_list h1
 obtain⟨ns,rfl⟩:=items_int h3
 have hlen:ns.length<=n:=by
  unfold OpenLaw.pre at hc
  have h4:(WTm.not (.lt (.lit (.int (n:Int))) (.len (.arg 0)))).holds [] { args:=[.list (ns.map .int)]} =true:=by
   have h4:=(holds_andW hc).1
   rw[hn] at h4
   exact h4
  have h5:=condW_of h4 (w_not (w_lt w_lit (w_len_list (w_arg rfl))))
  rw[aa] at h5
  refine Nat.le_of_not_lt fun q=>?_
  have q':(n:Int)<((ns.length:Nat):Int):=by omega
  first
   | (rw[aG q'] at h5; exact absurd h5 (by decide))
   | (simp at h5; omega)
 cases hwl with
 | cons w1 w2=>
  cases w2
  cases w1 with
  | list ho hall=>exact⟨_,_,ns,rfl,rfl,ho,jDD ns _ hall,hlen⟩
theorem jII (l:OpenLaw)(args:List WData):l.row.toRowW.claim.post args (.bool true) args=true:=
 postW_of (r:=l.row.toRowW) (X:=(true==true))
  (show WShape.has [] (.bool true) .bool=true by first | rfl | decide | simp [WShape.has,WShape.arms,WShape.armsAll])
  (show (WTm.eq .res (.lit (.bool true))).value [] { args:=args,res:=some (.bool true),after:=args} =some (.bool (true==true)) from w_eq_bool (w_res rfl) w_lit) rfl
theorem attach_call {l:OpenLaw}{n:Nat}{q:Program}{loose:List Str}{XP:(Str->Option Value)->Heap->Prop}{YP:World->Heap->Prop}{d:DefRec}
  (hn:l.most=some n) (hdf:d.params.defaults=[])
  (call:∀ (w:World) (s₀ s₁:Shared) (mg mb:Str->Option Value) (fa:Addr) (o:Obj) (pm cd doc:Value) (a:Addr) (vs:List Value) (ns:List Int),
   Ground q loose [] XP w s₀ mg mb s₁.heap->YP w s₁.heap->
   s₁.heap.get? fa=some o->o.data= .func (docDef d.name d.params d.body d.scope pm cd doc)->s₁.heap.CodeRec cd d.name->mg d.name=some (.ref fa)->
   s₁.heap.get? a=some { cls:= .type "list",data:= .seq vs.toArray} ->IntsAre vs ns->ns.length<=n->s₁.gens=#[]->
   codeAny (model l.prog w) callerA (.call (.ref fa) ⟨[.ref a],[]⟩) (fun r s'=>r= .ok (.ret (.bool true))/\OldK s₁.heap s'.heap/\s'.os=s₁.os/\AllBare s'.gens) s₁):
  WalkO q loose XP YP l.row.toRowW d [] (fun f vs=>PySem.call f vs):=by
 intro w s₀ s₁ mg mb G Y fa o pm cd doc dV kV ho hd hcd hD hmg hg args vals as hpre hlay hrd hwl hlo
 obtain rfl:dV= .none:=Dflts.none hD hdf
 obtain rfl:kV= .none:=Dflts.noKw hD
 obtain⟨a,vs,ns,rfl,rfl,hobj,hints,hlen⟩:=jIE hn hpre hwl
 refine enter_call (fg (call w s₀ s₁ mg mb fa o pm cd doc a vs ns G Y ho (fd_plain hd) hcd hmg hobj hints hlen hg) fun r s' hq=>?_)
 obtain⟨rfl,h2,h3,h4⟩:=hq
 exact⟨.inl ⟨.bool true, .bool true,[],rfl,fun _=>rfl, .bool true,jII l _,fun _=>⟨List.Pairwise.nil,fun _ hm=>(nomatch hm)⟩⟩,h2,h3,h4⟩
section
variable {prog:Program}{w:World}{A:Around}{E:Value->Shared->Prop}{s:Shared}{K:Frag}
end
end Att
namespace L2
open PySem PySem.Spec PyProof.Rows
theorem jEJ:∀ {vs:List Value}{ns:List Int},IntsAre vs ns->Vals (ns.map V.int) vs
 | _,_, .nil=> .nil
 | _,_, .cons n t h=> .cons ⟨t,rfl⟩ (jEJ h)
end L2
namespace L2
open PySem PySem.Spec PyProof.Rows
end L2
/- THE LAST THEOREM (shape; LID,My.* are yours):
  My.Adr:a structure of the addresses that your layer names (classes,functions); My.Txt K t:a structure (Prop) of the equations over K;
  My.txt_mk: {K} {implicit addresses ..} (e1:nsIn K mainGlobals "law" =some (some (.ref f))) (e2:K.lookup f=some ⟨oc,od, .func (fnOf "law" "law" params body scope dV kV doc pm an cdv ct),sl⟩) (e3:codeIn K cdv "law" =true) .. :∃ t,My.Txt K t
set_option maxRecDepth 100000 in
set_option maxHeartbeats 0 in
theorem PySem.Challenge.cw_LID_holds : PySem.Challenge.rw_LID.Holds := by
 w_on; o_law; k_head; (case hw=>w_witness2)
 k_fill
 refine L2.walk_of (l:=PySem.Challenge.rw_LID) (n:=63) (k:=40) (x:= "script") (CX:=fun w=> ..) (sp:=fun _=>My.sp_law) rfl (by decide) rfl ⟨rfl,by decide,by decide⟩ (fun w h Y=>PySem.W.kIn_of Y) ?F ?S ?C
 case F=>
  intro w mg fa h KX G hmg
  have T:∃ t,My.Txt (L2.KOf KX) t:=by
   dsimp only [L2.KOf] -- K must stand as «<heap const>w.params» for k_is
   refine' My.txt_mk ?e1 ?e2 ?e3 ..
   (case e1=>PySem.W.k_is) -- in the order:a name->its address->its object->its parts
   (case e2=>PySem.W.k_is)
   ..
  obtain⟨t,T⟩:=T
  have e0:=hmg.symm.trans (eU KX G T.law)
  cases e0 -- fa is the law's own address
  exact⟨_,fun s u=> .of_eq rfl,fun base kb nb=>My.law_fn T kb nb⟩ -- if «.of_eq rfl» comes too early:refine' ⟨_,?b,fun base kb nb=>My.law_fn T kb nb⟩; exact fun s u=> .of_eq rfl
 case S=>exact fun w H a ns hl hO hS=> ..
 case C=>exact ..
(the tactic k_is has no namespace:write k_is) -/
namespace L2
open PySem PySem.Spec PyProof.Rows
abbrev CX0:CXT:=fun _ _ _ _ _ _=>False
abbrev E0:XK:=fun _ _ _=>False
theorem pass0 {X:Cx} :jKC CX0 X E0:=fun _ _ _ _ _ _ _ h=>h.elim
structure Fun (K:W.Frag)(x qual:Str)(st:Stmt)(f:Addr)(fd:FuncData):Prop where
 ex:∃ (oc:Value) (od:Option Addr) (kV doc pm:Value) (an:Option Addr) (cdv ct:Value) (osl:Array (Option Value)),
  fd=PySem.W.fnOf x qual (jF st) (jB st) (j7 st) .none kV doc pm an cdv ct/\K.lookup f=some ⟨oc,od, .func fd,osl⟩/\PySem.W.codeIn K cdv qual=true
 kp:keepIn K (.ref f)=true
section
variable {P:Program}{w:World}{K:W.Frag}{mg:Str->Option Value}{base:Heap}
theorem Fun.ok {x qual:Str}{st:Stmt}{f:Addr}{fd:FuncData}{N ps:List Str}{k:Nat}{sp:Sp}(F:Fun K x qual st f fd)(S:FnScope N ps (j7 st))(len:∀ vs H Q E,sp vs H Q E->vs.length=ps.length)
  (hbody:∀ (cdv:Value) (A:Around) (outer:List Env) (s:Shared) (H:Hp) (vs:List V) (Q:VK) (E:XK),Room k (A.deeper (envOfC qual (j7 st) s.heap.objs.size f cdv))->sp vs H Q E->
   ∃ t,PSs (cxOf CX0 P w K mg base N qual (j7 st) f cdv A outer s H E).nox (jB st) t/\t { nx:=fun _ H'=>Q .non H',rt:=Q} (yH N vs) H):FnOk P w K mg base CX0 (k+1) f fd ps sp:=by
 obtain⟨oc,od,kV,doc,pm,an,cdv,ct,osl,rfl,lk,hcd⟩:=F.ex
 refine fn_of lk hcd S len fun A outer s H vs Q E hr hsp=>?_
 obtain⟨t,h,q⟩:=hbody cdv A outer s H vs Q E hr hsp
 exact⟨t,h.nox,q⟩
theorem Fun.binds {x qual:Str}{st:Stmt}{f:Addr}{fd:FuncData}{ps:List Str}(F:Fun K x qual st f fd)
  (h:∀ (kV doc pm:Value) (an:Option Addr) (cdv ct:Value) (us:List Value),us.length=ps.length->bindArgs (PySem.W.fnOf x qual (jF st) (jB st) (j7 st) .none kV doc pm an cdv ct) ⟨us,[]⟩=pure (ps.zip us)):Binds K fd ps []:=by
 obtain⟨oc,od,kV,doc,pm,an,cdv,ct,osl,rfl,lk,hcd⟩:=F.ex
 exact .all (h kV doc pm an cdv ct)
theorem jY {x qual:Str}{st:Stmt}{f:Addr}{oc:Value}{od an:Option Addr}{osl:Array (Option Value)}{kV doc pm cdv ct:Value}(l:K.lookup f=some ⟨oc,od, .func (PySem.W.fnOf x qual (jF st) (jB st) (j7 st) .none kV doc pm an cdv ct),osl⟩)
  (c:PySem.W.codeIn K cdv qual=true) (k:keepIn K (.ref f)=true):Fun K x qual st f (PySem.W.fnOf x qual (jF st) (jB st) (j7 st) .none kV doc pm an cdv ct):=⟨⟨oc,od,kV,doc,pm,an,cdv,ct,osl,rfl,l,c⟩,k⟩
end
theorem hu_of {A:Around}{k:Nat}(hr:Room k A):A.units+1<cLine:=g9 (Nat.add_le_add_left (by decide:1<=64) _) hr.units
section
variable {X:Cx}
theorem pv (i:Nat){x:Str}{pos:Pos}(hN:X.N[i]?=some x:=by rfl)(hv:Vis X.env.scope x:=by first | exact Or.inl rfl | exact Or.inr (Or.inl rfl) | exact Or.inr (Or.inr rfl))(hd:(x==("__debug__" :Str))=false:=by decide)
  (hcd:(x==("__classdict__" :Str))=false:=by decide):PE X (.Name x pos) (tVar i):=jIL hN hv hd hcd
end
theorem iteF {A B:Prop}(h:B):if false=true then A else B:=by
 rw[af ak]
 exact h
theorem iteT {A B:Prop}(h:A):if true=true then A else B:=by
 rw[ag rfl]
 exact h
theorem ite2 {c A B:Prop} [Decidable c](h1:c->A)(h2:¬ c->B):if c then A else B:=by
 by_cases h:c
 ·rw[ag h]
  exact h1 h
 ·rw[af h]
  exact h2 h
def jS (cells:List (Str×Addr)):List (Str×NameKind)->List (Str×Addr)->List (Str×Addr)
 | [],acc=>acc
 | (n,k)::r,acc=>if k= .free then jS cells r ((n,(cells.lookup n).getD 0)::acc) else jS cells r acc
theorem jC8 {env:Env} :∀ (l:List (Str×NameKind)) (acc:List (Str×Addr)),(∀ y∈l,y.2= .free->∃ c,env.cells.lookup y.1=some c)->
  (forIn l acc fun (x:Str×NameKind) (cs:List (Str×Addr))=>(if (x.2==NameKind.free)=true then (do let a <- cellOf env x.1; pure (ForInStep.yield ((x.1,a)::cs))) else pure (ForInStep.yield cs):Sem (ForInStep (List (Str×Addr)))))=pure (jS env.cells l acc)
 | [],acc,_=>rfl
 | (n,k)::r,acc,h=>by
  have hr:∀ y∈r,y.2= .free->∃ c,env.cells.lookup y.1=some c:=fun y hy=>h y (aq _ hy)
  rw[List.forIn_cons]
  by_cases hk:k= .free
  ·subst hk
   obtain⟨c,hc⟩:=h (n, .free) aH rfl
   have e:cellOf env n=pure c:=by unfold cellOf; rw[hc]
   have e2:jS env.cells ((n,NameKind.free)::r) acc=jS env.cells r ((n,c)::acc):=by
    show (if NameKind.free=NameKind.free then jS env.cells r ((n,(env.cells.lookup n).getD 0)::acc) else _)=_
    rw[ag rfl,hc]; rfl
   rw[e2,<- jC8 r ((n,c)::acc) hr]
   show ((do let a <- cellOf env n; pure (ForInStep.yield ((n,a)::acc))) >>= _)=_
   rw[e]; rfl
  ·have hb:(k==NameKind.free)=false:=by cases k <;> first | rfl | exact absurd rfl hk
   have e2:jS env.cells ((n,k)::r) acc=jS env.cells r acc:=by
    show (if k=NameKind.free then _ else jS env.cells r acc)=_
    rw[af hk]
   rw[e2,<- jC8 r acc hr]
   show ((if (k==NameKind.free)=true then _ else pure (ForInStep.yield acc)) >>= _)=_
   rw[hb]; rfl
theorem jK1 {env:Env}{sc:Scope}(h:∀ y∈sc.names,y.2= .free->∃ c,env.cells.lookup y.1=some c):closureFor sc env=pure (jS env.cells sc.names []):=by
 unfold closureFor
 show (forIn sc.names [] _ >>= fun cs=>pure cs)=_
 rw[show (forIn sc.names ([]:List (Str×Addr)) _:Sem _)=_ from jC8 sc.names [] h]
 rfl
theorem jC7 {cells:List (Str×Addr)} :∀ (l:List (Str×NameKind)) (acc:List (Str×Addr)),(∀ y∈l,y.2= .free->∃ c,cells.lookup y.1=some c)->
  (∀ x c,acc.lookup x=some c->cells.lookup x=some c)->∀ x c,(jS cells l acc).lookup x=some c->cells.lookup x=some c
 | [],acc,_,ha=>ha
 | (n,k)::r,acc,h,ha=>by
  have hr:∀ y∈r,y.2= .free->∃ c,cells.lookup y.1=some c:=fun y hy=>h y (aq _ hy)
  unfold jS
  by_cases hk:k= .free
  ·rw[ag hk]
   obtain⟨c0,hc⟩:=h (n,k) aH hk
   refine jC7 r _ hr fun x c e=>?_
   rw[bw] at e
   cases hx:x==n with
   | true=>
    rw[hx] at e
    have exn:x=n:=eq_of_beq hx
    subst exn
    have hc':cells.lookup x=some c0:=hc
    rw[hc'] at e ⊢
    exact e
   | false=>rw[hx] at e; exact ha x c e
  ·rw[af hk]; exact jC7 r acc hr ha
theorem jB6 {cells:List (Str×Addr)}{x:Str} :∀ (l:List (Str×NameKind)) (acc:List (Str×Addr)),((x,NameKind.free)∈l\/∃ c,acc.lookup x=some c)->∃ c,(jS cells l acc).lookup x=some c
 | [],acc,h=>by
  rcases h with h | h
  ·cases h
  ·exact h
 | (n,k)::r,acc,h=>by
  unfold jS
  by_cases hk:k= .free
  ·rw[ag hk]
   refine jB6 r _ ?_
   by_cases e:x=n
   ·subst e
    exact .inr ⟨_,by rw[bw,beq_self_eq_true]⟩
   ·rcases h with h | ⟨c,h⟩
    ·rcases aR.mp h with q | q
     ·cases q; exact absurd rfl e
     ·exact .inl q
    ·refine .inr ⟨c,?_⟩
     rw[bw,cD.mpr e]
     exact h
  ·rw[af hk]
   refine jB6 r _ ?_
   rcases h with h | h
   ·rcases aR.mp h with q | q
    ·cases q; exact absurd rfl hk
    ·exact .inl q
   ·exact .inr h
theorem jB0 {x:Str}{k:NameKind} :∀ {l:List (Str×NameKind)},l.lookup x=some k->(x,k)∈l
 | [],h=>by cases h
 | (n,k')::r,h=>by
  rw[bw] at h
  cases hx:x==n with
  | true=>rw[hx] at h; cases h; rw[eq_of_beq hx]; exact aH
  | false=>rw[hx] at h; exact aq _ (jB0 h)
theorem jC0 {env:Env}{x:Str}{k:NameKind}(hk:k= .cell\/k= .free):∀ {l:List (Str×NameKind)},(∀ y∈l,y.2≠ .cell)->
  (l.map fun (n,k)=>if (k==NameKind.free&&env.scope.kind== .function&&env.kindOf n==some .cell) then (n,NameKind.cell) else (n,k)).lookup x=some k->l.lookup x=some .free
 | [],_,h=>by simp at h
 | (n,k')::r,hc,h=>by
  have ih:= @jC0 env x k hk r (fun y hy=>hc y (aq _ hy))
  have hc0:k'≠ .cell:=hc (n,k') aH
  rw[bw]
  rw[ba] at h
  dsimp only at h
  by_cases hb:(k'==NameKind.free&&env.scope.kind== .function&&env.kindOf n==some .cell)=true
  ·rw[ag hb,bw] at h
   cases hx:x==n with
   | true=>
    have:k'= .free:=by
     simp only [bO] at hb
     exact eq_of_beq hb.1.1
    rw[this]
   | false=>rw[hx] at h; exact ih h
  ·rw[af hb,bw] at h
   cases hx:x==n with
   | true=>
    rw[hx] at h
    have e:k'=k:=aW h
    rcases hk with q | q
    ·exact absurd (e.trans q) hc0
    ·rw[e,q]
   | false=>rw[hx] at h; exact ih h
theorem jB3 {env:Env}{x:Str} :∀ {l:List (Str×NameKind)},l.lookup x=some .free->
  (l.map fun (n,k)=>if (k==NameKind.free&&env.scope.kind== .function&&env.kindOf n==some .cell) then (n,NameKind.cell) else (n,k)).lookup x=some .cell\/
  (l.map fun (n,k)=>if (k==NameKind.free&&env.scope.kind== .function&&env.kindOf n==some .cell) then (n,NameKind.cell) else (n,k)).lookup x=some .free
 | [],h=>by cases h
 | (n,k')::r,h=>by
  have ih:= @jB3 env x r
  rw[bw] at h
  rw[ba]
  dsimp only
  by_cases hb:(k'==NameKind.free&&env.scope.kind== .function&&env.kindOf n==some .cell)=true
  ·rw[ag hb,bw]
   cases hx:x==n with
   | true=>exact .inl rfl
   | false=>rw[hx] at h; exact ih h
  ·rw[af hb,bw]
   cases hx:x==n with
   | true=>rw[hx] at h; exact .inr h
   | false=>rw[hx] at h; exact ih h
section
variable {prog:Program}{w:World}{A:Around}{R:Result->Shared->Prop}{s:Shared}
abbrev jI5 (ifs:List Expr)(env:Env):Sem Bool:=forIn ifs true fun c r=>if r=true then do let ok <- isTrue c env (eval c env); pure (ForInStep.yield ok) else pure (ForInStep.yield r)
theorem jHU {elt tg iter:Expr}{ifs:List Expr}{sc:Scope}{pos:Pos}{it acc:Value}{env:Env}(J:Nat->Shared->Prop)
  (turn:∀ n z,J n z->wpAny (model prog w) A (pyNext it) (fun r z1=>match r with
   | none=>R (.ok .next) z1
   | some v=>wpAny (model prog w) A (letOwnedTupleGo tg it v) (fun _ z2=>wpAny (model prog w) A (assign tg env v) (fun _ z3=>wpAny (model prog w) A (jI5 ifs env) (fun ok z4=>
     if ok=true then wpAny (model prog w) A (eval elt env) (fun x z5=>wpAny (model prog w) A (call (.builtin "list.append") [acc,x]) (fun _ z6=>∃ k,k<n/\J k z6) (fun _ _=>False) z5) (fun _ _=>False) z4
     else ∃ k,k<n/\J k z4) (fun _ _=>False) z3) (fun _ _=>False) z2) (fun _ _=>False) z1) (fun _ _=>False) z)
  (n:Nat) (h:J n s):codeAny (model prog w) A (.compLoop (.ListComp elt [⟨tg,iter,ifs,0⟩] sc pos) 0 it acc env) R s:=by
 refine codeAny_loop rfl J (fun k z hJ=>?_) n h
 have noE:∀ {α:Type}{t:Sem α}{Q:α->Shared->Prop}{E:Value->Shared->Prop}{z:Shared},wpAny (model prog w) A t Q (fun _ _=>False) z->wpAny (model prog w) A t Q E z:=
  fun q=>b0 q (fun _ _ a=>a) fun _ _ f=>f.elim
 show wpAny _ A ((compTurn (.ListComp elt [⟨tg,iter,ifs,0⟩] sc pos) 0 it acc env).onRaise (fun x=>do noteFrame x env; theTreesLotGoes x)) _ _ z
 refine wpAny_noted ?_
 rw[compTurn_list]
 refine ah (eS (ah (b0 (turn k z hJ) (fun r z1 q1=>?_) fun _ _ f=>f.elim)))
 cases r with
 | none=>exact aV q1
 | some v=>
  refine ah (b0 q1 (fun _ z2 q2=>?_) fun _ _ f=>f.elim)
  refine ah (b0 q2 (fun _ z3 q3=>?_) fun _ _ f=>f.elim)
  refine ah (b0 q3 (fun ok z4 q4=>?_) fun _ _ f=>f.elim)
  cases ok with
  | false=>exact aV ⟨rfl,q4⟩
  | true=>
   refine ah (ah (b0 q4 (fun x z5 q5=>?_) fun _ _ f=>f.elim))
   exact ah (b0 q5 (fun _ z6 q6=>aV (aV ⟨rfl,q6⟩)) fun _ _ f=>f.elim)
end
noncomputable def blk (X:Cx)(sc:Scope)(cl:List (Str×Addr))(C:Addr)(Nc:List Str)(fp:List Addr)(s:Shared)(H:Hp):Cx where
 prog:=X.prog
 w:=X.w
 K:=X.K
 mg:=X.mg
 base:=X.base
 A:=X.A
 N:=Nc
 s₀:=s
 H₀:=H
 env:=compEnvC sc cl C X.env
 outer:=X.stack
 stack:=X.stack
 ex:=fp
 fn:=fun _=>false
 calm:=X.calm
 pn:=[]
 xe:=fun _ _=>False
def blkσ (m:List (Option Nat))(σ:St):St:=m.map fun o=>match o with
 | none=>none
 | some i=>(σ[i]?).getD none
def PTs (X:Cx)(ifs:List Expr)(t:TT):Prop:=
 ∀ (pins:List (Addr×Obj)) (s:Shared) (σ:St) (H:Hp) (Q:Bool->Hp->Prop),Inv X pins σ H s->t σ H Q->wpAny (model X.prog X.w) X.A (jI5 ifs X.env) (TP X pins σ Q) X.xe s
def yJ:TT:=fun _ H Q=>Q true H
theorem jMX {X:Cx} :PTs X [] yJ:=fun _ _ _ H _ I h=>wpAny_tests_nil ⟨H,I,h⟩
theorem jMW {X:Cx}{c:Expr}{t:TT}(h:PT X c t):PTs X [c] t:=fun pins s σ H Q I q=>wpAny_tests_one (h pins s σ H Q I q)
def CompW (m:List (Option Nat))(g:TG)(tt:TT)(te:TE)(σ:St)(Q:VK)(J:It)(H1:Hp):Prop:=∀ D,H1 D=none->∃ W:Nat->Nat->St->Hp->List V->Prop,
  (∃ n,W 0 n (blkσ m σ) (upd H1 D (.lst [])) [])/\∀ i n σ' H' ys,W i n σ' H' ys->H' D=some (.lst ys)/\ys.length<sizeLine/\
   ((J.stop i H'/\Q (.ref D) H')\/(J.go i H'/\∃ N:St->Hp->List V->Prop,(∀ σ2 H2 zs,N σ2 H2 zs->∃ n',n'<n/\W (i+1) n' σ2 H2 zs)/\∀ x H'',J.yld i H' x H''->g x σ' H'' fun σ2 H2=>tt σ2 H2 fun b H3=>
    if b=true then te σ2 H3 fun v H4=>H4 D=some (.lst ys)/\N σ2 (upd H4 D (.lst (ys++[v]))) (ys++[v])
    else N σ2 H3 ys))
def tComp (m:List (Option Nat))(wi:TI)(g:TG)(tt:TT)(te:TE):TE:=fun σ H Q=>wi σ H (CompW m g tt te σ Q)
theorem Un.sameBut {fs ex:List Addr}{H H':Hp}{h h1 h2:Heap}{C:Addr}(u:Un fs ex H H' h h1)(sb:Heap.SameBut C h1 h2)(hC:h.objs.size<=C):Un fs ex H H' h h2:=by
 have ne:∀ {b:Addr}{o:Obj},h.get? b=some o->b≠C:=fun e=>bu (be (aL e) hC)
 refine⟨fun b o e n hf hx=>(sb.2 b (ne e)).trans (u.keep b o e n hf hx),fun b o e n hf hx=>?_,u.free,fun b o e hx=>?_,u.tups,u.frzs,u.tbls⟩
 ·obtain⟨sl,q⟩:=u.slot b o e n hf hx
  exact⟨sl,(sb.2 b (ne e)).trans q⟩
 ·obtain⟨o',q⟩:=u.there b o e hx
  exact⟨o',(sb.2 b (ne e)).trans q⟩
theorem HOk.sameBut {P:Program}{w:World}{H:Hp}{h1 h2:Heap}{C:Addr}(x:HOk P w H h1)(sb:Heap.SameBut C h1 h2)(hC:H C=none):HOk P w H h2:=fun a o e=>
 (x a o e).stay (fun b u hb q=>(sb.2 b (by
  rintro rfl
  rcases hb with rfl | hb
  ·rw[hC] at e; cases e
  ·rw[hC] at hb; cases hb)).trans q) (fun _ q=>q) fun _ _ q=>q
section
variable {X:Cx}{tg iter elt:Expr}{ifs:List Expr}{sc:Scope}{pos:Pos}{wi:TI}{g:TG}{tt:TT}{te:TE}{m:List (Option Nat)}{Nc:List Str}
def jCH (X:Cx)(sc:Scope)(Nc:List Str)(m:List (Option Nat)):Prop:=
 m.length=Nc.length/\∀ (k i:Nat),m[k]?=some (some i)->∃ x,Nc[k]?=some x/\X.N[i]?=some x/\sc.names.lookup x=some .free
theorem jK5 {pins:List (Addr×Obj)}{s:Shared}{σ:St}{H:Hp}{fp:List Addr}(I:Inv X pins σ H s)(hkind:sc.kind= .function)(hcell:∀ y∈sc.names,y.2≠ .cell)
  (hfree:∀ y∈sc.names,y.2= .free->X.env.scope.names.lookup y.1=some .cell\/X.env.scope.names.lookup y.1=some .free) (hm:jCH X sc Nc m) (hfp:∀ b∈fp,FpOk X pins H b) (hlt:∀ b∈fp,b<s.heap.objs.size)
  {h1:Heap}{tk:Nat}{md:Str->Option Value}(hns:h1.Ns s.heap.objs.size md) (old:∀ b o,s.heap.get? b=some o->h1.get? b=some o):
  Inv (blk X sc (jS X.env.cells sc.names []) s.heap.objs.size Nc fp s H) [] (blkσ m σ) H { s with heap:=h1,toks:=tk} :=by
 have hcl:∀ y∈sc.names,y.2= .free->∃ c,X.env.cells.lookup y.1=some c:=fun y hy hf=>I.ok.has y.1 (hfree y hy hf)
 have sub:∀ x c,(jS X.env.cells sc.names []).lookup x=some c->X.env.cells.lookup x=some c:=jC7 sc.names [] hcl (fun x c e=>by cases e)
 have isfree:∀ x,(compEnvC sc (jS X.env.cells sc.names []) s.heap.objs.size X.env).kindOf x=some .cell\/(compEnvC sc (jS X.env.cells sc.names []) s.heap.objs.size X.env).kindOf x=some .free->sc.names.lookup x=some .free:=fun x h=>by
  rcases h with h | h
  ·exact jC0 (.inl rfl) hcell h
  ·exact jC0 (.inr rfl) hcell h
 refine⟨⟨I.ok.mod,hkind,I.ok.glob,I.ok.blt,az _,fun x y c h1 h2=>I.ok.inj x y c (sub x c h1) (sub y c h2),fun x hx=>?_,fun x c hf _=>?_,I.ok.hd,I.ok.frames, .inl rfl,fun b hb=>?_,I.bs,bD I.ok.bsz I.sz,fun b o e hb=>?_,fun b hb hz=>?_,I.stack,I.stkFree⟩,
  rfl,I.bare,Un.kept old,⟨md,hns,fun k x v e1 e2 e3=>?_⟩,fun x c e=>?_,I.hok.fresh (az _),fun x c e=>I.freeC x c (sub x c e),fun p hp=>absurd (show p∈([]:List (Addr×Obj)) from hp) (by simp),I.hok.kept old,?_⟩
 ·exact jB6 sc.names [] (.inl (jB0 (isfree x hx)))
 ·exact absurd (show false=true from hf) ak
 ·obtain⟨f0,f1,f2,f3,f4,f5⟩:=hfp b hb
  exact⟨bu (hlt b hb),fun x c e=>f4 x c (sub x c e)⟩
 ·obtain⟨f0,f1,f2,f3,f4,f5⟩:=hfp b hb
  rcases f3 with q | q
  ·exact I.ok.noex b o e q
  ·exact absurd (be (aL (I.ok.bs b o e).1) q) (cU _)
 ·obtain⟨f0,f1,f2,f3,f4,f5⟩:=hfp b hb
  rcases aR.mp (I.stkSub b hz) with q | q
  ·exact f1 q
  ·exact f2 q
 ·have e2':∃ i,m[k]?=some (some i)/\σ[i]?=some (some v):=by
   unfold blkσ at e2
   rw[aA] at e2
   cases q:m[k]? with
   | none=>rw[q] at e2; cases e2
   | some o=>
    rw[q] at e2
    cases o with
    | none=>cases e2
    | some i=>
     refine⟨i,rfl,?_⟩
     have e2:(σ[i]?).getD none=some v:=aW e2
     cases r:σ[i]? with
     | none=>rw[r] at e2; cases e2
     | some z=>rw[r] at e2; exact bQ some e2
  obtain⟨i,q1,q2⟩:=e2'
  obtain⟨x',a1,a2,a3⟩:=hm.2 k i q1
  have e1':Nc[k]?=some x:=e1
  rw[e1'] at a1
  cases a1
  have vis:=hfree (x, .free) (jB0 a3) rfl
  obtain⟨m0,hn0,hl0⟩:=I.loc
  obtain⟨u,r,l⟩:=hl0 i x v a2 q2 (.inr vis)
  refine⟨u,r, .inr ⟨jB3 a3,?_⟩⟩
  obtain⟨c,hc⟩:=jB6 (cells:=X.env.cells) (x:=x) sc.names [] (.inl (jB0 a3))
  rcases l with ⟨lk,_⟩ | ⟨_,c',hc',o,ho,hd⟩
  ·have lk':X.env.scope.names.lookup x=some .local:=lk
   rcases vis with z | z
   ·rw[lk'] at z; cases z
   ·rw[lk'] at z; cases z
  ·have:=sub x c hc
   rw[hc'] at this
   cases this
   exact⟨c,hc,o,old _ _ ho,hd⟩
 ·obtain⟨v,o,ho,hd⟩:=I.cell x c (sub x c e)
  exact⟨v,o,old _ _ ho,hd⟩
 ·show (blkσ m σ).length=Nc.length
  unfold blkσ
  rw[aa]
  exact hm.1
theorem jH8 {tf:St->TE}(hc:X.calm=true)(hi:PI X tg iter wi)(hkind:sc.kind= .function)(hcell:∀ y∈sc.names,y.2≠ .cell)(hnames:∀ y∈sc.names,y.2= .local->sc.names.lookup y.1=some .local)
  (hfree:∀ y∈sc.names,y.2= .free->X.env.scope.names.lookup y.1=some .cell\/X.env.scope.names.lookup y.1=some .free) (hm:jCH X sc Nc m)
  (hg:∀ cl C fp s H,PG (blk X sc cl C Nc fp s H) tg g) (ht:∀ cl C fp s H,PTs (blk X sc cl C Nc fp s H) ifs tt) (he:∀ cl C fp s H pins σ,Inv X pins σ H s->(∀ b∈fp,FpOk X pins H b)->PE (blk X sc cl C Nc fp s H) elt (tf σ))
  (hs:∀ x,foldedSetIterable iter X.env x=pure x) {fpos:Pos}{use:Option (Value->Sem Unit)}{R:Value->Shared->Prop}{pins:List (Addr×Obj)}{s:Shared}{σ:St}{H:Hp}{Q:VK}(I:Inv X pins σ H s) (h:tComp m wi g tt (tf σ) σ H Q)
  (fin:∀ (D C:Addr) (H5:Hp) (z1:Shared) (r:Flow),(∃ mm,z1.heap.Ns C mm)->FpOk X pins H5 C->(∀ h',Heap.SameBut C z1.heap h'->Inv X pins σ H5 { z1 with heap:=h'})->Q (.ref D) H5->compPost (model X.prog X.w) X.A X.xe use R (.ref D) C (.ok r) z1):
  wpAny (model X.prog X.w) X.A (comprehension (.ListComp elt [⟨tg,iter,ifs,0⟩] sc pos) sc X.env fpos (newList []) false (eval iter X.env) use) R X.xe s:=by
 have hcl:∀ y∈sc.names,y.2= .free->∃ c,X.env.cells.lookup y.1=some c:=fun y hy hf=>I.ok.has y.1 (hfree y hy hf)
 refine wpAny_comprehension_free (use:=use) rfl hs (jK1 hcl) hkind hnames (thn (hi pins s σ H _ I h) fun v s1 h1=>thn h1 fun itv s2 h2=>?_)
 obtain⟨it,fp,tn,J,H2,e,I2,T,st2,f2,hQ⟩:=h2
 subst e
 have hlt:∀ b∈fp,b<s2.heap.objs.size:=fun b hb=>by
  obtain⟨o,e,_⟩:=T.obj 0 _ st2 b hb
  exact aL e
 refine eF (wpAny_newFunctionEnv hcell (by intro y hy; simp at hy) (fun h₁ hns₁ hsb₁=>?_) hkind)
 have I3:Inv X pins σ (upd H2 s2.heap.objs.size (.lst [])) { s2 with heap:=s2.heap.push { cls:= .type "list",data:= .seq ([]:List Value).toArray}} :=I2.lnew (t':=s2.toks) .nil (bH _)
 obtain⟨W,⟨n0,w0⟩,turn⟩:=hQ s2.heap.objs.size I2.fresh
 have hD3:∀ b∈fp,b≠s2.heap.objs.size:=fun b hb=>bu (hlt b hb)
 have f3:∀ b∈fp,FpOk X pins (upd H2 s2.heap.objs.size (.lst [])) b:=fun b hb=>by
  obtain⟨a0,a1⟩:=f2 b hb
  exact⟨by rw[jA (hD3 b hb)]; exact a0,a1⟩
 generalize hE:({ s2 with heap:=s2.heap.push { cls:= .type "list",data:= .seq ([]:List Value).toArray}} :Shared)=s3 at I3 hns₁ hsb₁ ⊢
 generalize hH3:upd H2 s2.heap.objs.size (.lst [])=H3 at I3 f3 w0
 have hsz3:s3.heap.objs.size=s2.heap.objs.size+1:=by rw[<- hE]; exact fr _ _
 have old:∀ b o,s3.heap.get? b=some o->h₁.get? b=some o:=fun b o e=>hsb₁.extBut b o (bu (aL e)) (am _ e)
 have old2:∀ b o,s2.heap.get? b=some o->h₁.get? b=some o:=fun b o e=>old b o (by rw[<- hE]; exact am _ e)
 have I4:=jK5 (fp:=fp) (tk:=s3.toks+([]:List (Str×Value)).length) I3 hkind hcell hfree hm f3 (fun b hb=>show b<s3.heap.objs.size by rw[hsz3]; exact fJ (hlt b hb)) hns₁ old
 have st4:tn 0 h₁:=T.keep _ _ _ st2 fun b hb o e=>old2 b o e
 have loop:codeAny (model X.prog X.w) X.A (.compLoop (.ListComp elt [⟨tg,iter,ifs,0⟩] sc pos) 0 (.ref it) (.ref s2.heap.objs.size) (compEnvC sc (jS X.env.cells sc.names []) s3.heap.objs.size X.env))
   (compPost (model X.prog X.w) X.A X.xe use R (.ref s2.heap.objs.size) s3.heap.objs.size) { s3 with heap:=h₁,toks:=s3.toks+([]:List (Str×Value)).length} :=by
  generalize hX:blk X sc (jS X.env.cells sc.names []) s3.heap.objs.size Nc fp s3 H3=Xb at I4
  have eP:Xb.prog=X.prog:=by rw[<- hX]; rfl
  have ew:Xb.w=X.w:=by rw[<- hX]; rfl
  have eK:Xb.K=X.K:=by rw[<- hX]; rfl
  have eA:Xb.A=X.A:=by rw[<- hX]; rfl
  have ec:Xb.calm=true:=by rw[<- hX]; exact hc
  have ee:Xb.env=compEnvC sc (jS X.env.cells sc.names []) s3.heap.objs.size X.env:=by rw[<- hX]; rfl
  have ex:Xb.xe=fun _ _=>False:=by rw[<- hX]; rfl
  have hgb:PG Xb tg g:=by rw[<- hX]; exact hg _ _ _ _ _
  have htb:PTs Xb ifs tt:=by rw[<- hX]; exact ht _ _ _ _ _
  have heb:PE Xb elt (tf σ):=by rw[<- hX]; exact he _ _ _ _ _ _ _ I3 f3
  have stat:∀ {H':Hp},(∀ b∈fp,H' b=none)->∀ b∈fp,FpOk Xb [] H' b:=fun {H'} hn b hb=>by
   obtain⟨o,eo,_⟩:=T.obj _ _ st4 b hb
   have q:=I4.ok.exf b (by rw[<- hX]; exact hb)
   exact⟨hn b hb,q.1,I4.ok.exfs b (by rw[<- hX]; exact hb), .inl (by rw[<- hX]; exact hb),q.2,fun p hp=>absurd hp (by rw[<- hX]; simp [blk])⟩
  have fr4:∀ b∈fp,H3 b=none:=fun b hb=>(f3 b hb).1
  unfold PG at hgb
  unfold PTs at htb
  unfold PE at heb
  rw[eP,ew,eA,ee,ex] at hgb htb heb
  refine jHU (fun n z=>∃ i σ' H' ys,Inv Xb [] σ' H' z/\tn i z.heap/\(∀ b∈fp,H' b=none)/\W i n σ' H' ys) ?_ n0 ⟨0,_,H3,[],I4,st4,fr4,w0⟩
  rintro n z ⟨i,σ5,H5,ys,I5,st5,fr5,w5⟩
  obtain⟨hD,hlen,way⟩:=turn i n σ5 H5 ys w5
  rcases way with ⟨stop,q⟩ | ⟨go,N,hN,step⟩
  ·have RR:=T.done Xb eP ew eK ec i [] z σ5 H5 (fun _ _=>False) I5 (stat fr5) st5 stop
   rw[eA] at RR
   refine thn RR fun r z1 ⟨hr,I6⟩=>?_
   subst hr
   obtain⟨mm,hn6,_⟩:=I6.loc
   rw[ee] at hn6
   have u6:Un (frs X.stack) fp H3 H5 s3.heap z1.heap:=by
    have:=I6.base
    rw[<- hX] at this
    exact this
   have fC:H5 s3.heap.objs.size=none:=by
    have:=I6.free
    rw[ee] at this
    exact this
   have hok6:HOk X.prog X.w H5 z1.heap:=by
    have:=I6.hok
    rw[eP,ew] at this
    exact this
   have os6:z1.os=s3.os:=by
    have:=I6.os
    rw[<- hX] at this
    exact this
   refine fin s2.heap.objs.size s3.heap.objs.size H5 z1 .next ⟨mm,hn6⟩ (I3.fpOk (az _) fC) (fun h' sb=>?_) q
   refine I3.call' (s':= { z1 with heap:=h'}) (ch:=fp) os6 (u6.sameBut sb (az _)) (hok6.sameBut sb fC) I6.bare (fun b hb=>?_)
   obtain⟨a0,a1,a2,a3,a4,a5⟩:=f3 b hb
   exact⟨a3,a1,a4,a5⟩
  ·have RR:=T.item Xb eP ew eK ec i [] z σ5 H5 (fun _ _=>False) I5 (stat fr5) st5 go
   rw[eA] at RR
   refine thn RR fun r z1 ⟨u,hr,h6⟩=>?_
   subst hr
   refine thn h6 fun _ z2 ⟨x,H7,I7,r7,y7,st7,fr7⟩=>?_
   have I7':=I7.pinned (stat fr7) (T.obj _ _ st7)
   refine thn (hgb _ z2 σ5 H7 x u _ I7' r7 (step x H7 y7)) fun _ z3 ⟨σ8,H8,I8,q8⟩=>?_
   refine thn (htb _ z3 σ8 H8 _ I8 q8) fun ok z4 ⟨H9,I9,q9⟩=>?_
   have again:∀ {σ7:St}{Hz:Hp}{zz:Shared}{yy:List V}{n':Nat},Inv Xb ([]++jES fp z2.heap) σ7 Hz zz->n'<n->W (i+1) n' σ7 Hz yy->∃ k,k<n/\∃ i σ' H' ys,Inv Xb [] σ' H' zz/\tn i zz.heap/\(∀ b∈fp,H' b=none)/\W i k σ' H' ys:=fun {σ7 Hz zz yy n'} Iz hn wz=>by
    refine⟨n',hn,i+1,σ7,Hz,yy,Iz.unpinned,T.keep _ _ _ st7 fun b hb o e=>(Iz.pin (b,o) (aJ _ (aJ _ (jAZ hb e)))).1,fun b hb=>?_,wz⟩
    obtain⟨o,e,d⟩:=T.obj _ _ st7 b hb
    exact(Iz.pin (b,o) (aJ _ (aJ _ (jAZ hb e)))).2.1
   cases ok with
   | false=>
    obtain⟨n',hn,w9⟩:=hN _ _ _ (show N σ8 H9 ys from q9)
    exact again I9 hn w9
   | true=>
    refine thn (heb _ z4 σ8 H9 _ I9 q9) fun xv z5 ⟨vv,H10,I10,r10,hD10,n10⟩=>?_
    obtain⟨n',hn,w10⟩:=hN _ _ _ n10
    have RR:=jAQ (X:=Xb) _ z5 σ8 H10 (.ref s2.heap.objs.size) [vv] (.ref s2.heap.objs.size) [xv] (fun _ H'=>H'=upd H10 s2.heap.objs.size (.lst (ys++[vv]))) I10 rfl (.cons r10 .nil) ⟨_,ys,vv,rfl,rfl,hD10,hlen,rfl⟩
    rw[eP,ew,eA,ex] at RR
    refine thn RR fun _ z6 ⟨_,H11,I11,_,e11⟩=>?_
    subst e11
    exact again I11 hn w10
 exact codeAny_compStart_list loop (T.self _ 0 _ _ _ st4 loop)
theorem jNA (hc:X.calm=true)(hi:PI X tg iter wi)(hkind:sc.kind= .function)(hcell:∀ y∈sc.names,y.2≠ .cell)(hnames:∀ y∈sc.names,y.2= .local->sc.names.lookup y.1=some .local)
  (hfree:∀ y∈sc.names,y.2= .free->X.env.scope.names.lookup y.1=some .cell\/X.env.scope.names.lookup y.1=some .free) (hm:jCH X sc Nc m)
  (hg:∀ cl C fp s H,PG (blk X sc cl C Nc fp s H) tg g) (ht:∀ cl C fp s H,PTs (blk X sc cl C Nc fp s H) ifs tt) (he:∀ cl C fp s H,PE (blk X sc cl C Nc fp s H) elt te)
  (hs:∀ x,foldedSetIterable iter X.env x=pure x:=by intro _; rfl):PE X (.ListComp elt [⟨tg,iter,ifs,0⟩] sc pos) (tComp m wi g tt te):=by
 intro pins s σ H Q I h
 rw[eval_ListComp]
 exact jH8 (tf:=fun _=>te) (use:=none) hc hi hkind hcell hnames hfree hm hg ht (fun cl C fp s H _ _ _ _=>he cl C fp s H) hs I h (fun D C H5 z1 r ⟨mm,hn⟩ fC sb q=>⟨mm,hn,fun h' s2=>⟨.ref D,H5,sb h' s2,rfl,q⟩⟩)
end
theorem kT {X:Cx}{sc psc:Scope}(h:(sc.names.all fun y=>decide (y.2= .free->psc.names.lookup y.1=some .cell\/psc.names.lookup y.1=some .free))=true)(e:X.env.scope=psc:=by rfl):
  ∀ y∈sc.names,y.2= .free->X.env.scope.names.lookup y.1=some .cell\/X.env.scope.names.lookup y.1=some .free:=by
 rw[e]
 intro y hy
 exact aO (bE.mp h y hy)
def jJO (sc:Scope)(N Nc:List Str)(m:List (Option Nat))(k:Nat):Bool:=match m[k]? with
 | some (some i)=>match Nc[k]? with
  | some x=>decide (N[i]?=some x)&&decide (sc.names.lookup x=some .free)
  | none=>false
 | _=>true
theorem jR {X:Cx}{sc:Scope}{N Nc:List Str}{m:List (Option Nat)}(e:X.N=N)(hl:m.length=Nc.length)(h:((List.range m.length).all (jJO sc N Nc m))=true):jCH X sc Nc m:=by
 refine⟨hl,fun k i hk=>?_⟩
 have hlt:k<m.length:=(ae.mp hk).1
 have q:=bE.mp h k (bN.mpr hlt)
 unfold jJO at q
 rw[hk] at q
 cases e2:Nc[k]? with
 | none=>rw[e2] at q; cases q
 | some x=>
  rw[e2] at q
  have q:(decide (N[i]?=some x)&&decide (sc.names.lookup x=some .free))=true:=q
  rw[bO] at q
  exact⟨x,rfl,by rw[e]; exact aO q.1,aO q.2⟩
section
variable {m:List (Option Nat)}{g:TG}{tt:TT}{te:TE}{σ:St}{H1:Hp}{Q:VK}
theorem jEB {lo:Int}{n:Nat}(hn:n<sizeLine)(Pv:Addr->Nat->St->Hp->List V->Prop)(h0:∀ D,H1 D=none->Pv D 0 (blkσ m σ) (upd H1 D (.lst [])) [])
  (hD:∀ D i σ' H' ys,H1 D=none->i<=n->Pv D i σ' H' ys->H' D=some (.lst ys)/\ys.length<=i)
  (hs:∀ D i σ' H' ys,H1 D=none->i<n->Pv D i σ' H' ys->g (.int (lo+i)) σ' H' fun σ2 H2=>tt σ2 H2 fun b H3=>if b=true then te σ2 H3 fun v H4=>H4 D=some (.lst ys)/\Pv D (i+1) σ2 (upd H4 D (.lst (ys++[v]))) (ys++[v]) else Pv D (i+1) σ2 H3 ys)
  (hd:∀ D σ' H' ys,H1 D=none->Pv D n σ' H' ys->Q (.ref D) H'):CompW m g tt te σ Q (Itr lo n) H1:=by
 intro D hDn
 refine⟨fun i k σ' H' ys=>k=n - i/\i<=n/\Pv D i σ' H' ys,⟨n,rfl,bH _,h0 D hDn⟩,?_⟩
 rintro i k σ' H' ys ⟨rfl,hi,p⟩
 obtain⟨q1,q2⟩:=hD D i σ' H' ys hDn hi p
 refine⟨q1,by omega,?_⟩
 by_cases hlt:i<n
 ·refine .inr ⟨hlt,Pv D (i+1),fun σ2 H2 zs z=>⟨n - (i+1),by omega,rfl,hlt,z⟩,fun x H'' y=>?_⟩
  obtain⟨e1,e2⟩:=y
  subst e1 e2
  exact hs D i σ' _ ys hDn hlt p
 ·have e:i=n:=by omega
  subst e
  exact .inl ⟨az _,hd D σ' H' ys hDn p⟩
end
end L2
end
section
namespace SS
open PySem PySem.SetTable
end SS
end
section
namespace SS
open PySem
section
variable {prog:Program}{w:World}{A:Around}{E:Value->Shared->Prop}{s:Shared}{a:Addr}{ks:List Int}{k:Int}{tk:Tok}
end
section
variable {prog:Program}{w:World}{A:Around}{R:Result->Shared->Prop}{I:Addr}{fp wr:List Addr}{n:Nat}{P:Nat->Value->Prop}{St:Nat->Shared->Prop}
end
section
variable {prog:Program}{w:World}{A:Around}{E:Value->Shared->Prop}{s:Shared}
set_option maxHeartbeats 3200000 in
end
section
variable {prog:Program}{w:World}{A:Around}{E:Value->Shared->Prop}{s:Shared}{a I:Addr}{o:Obj}{es:Array (Int×Value)}{ep:Nat}{t:SetTable}
end
section
variable {prog:Program}{w:World}{A:Around}{E:Value->Shared->Prop}{s:Shared}{a:Addr}{o:Obj}{es:Array (Int×Value)}{ep:Nat}{t:SetTable}
end
end SS
end
section
namespace SS
open PySem PyProof.Rows
section
variable {prog:Program}{w:World}{A:Around}{E:Value->Shared->Prop}{s:Shared}{a:Addr}{ks:List Int}
end
end SS
end
section
namespace L2
open PySem PySem.Spec PyProof.Rows
section
variable {es:List Expr}{env:Env}{a b:Expr}{pos:Pos}{xs ys:List Expr}
theorem kX {op:Operator} :starEach (.BinOp a op b pos::es) env=(false,eval (.BinOp a op b pos) env)::starEach es env:=rfl
theorem se_un {op:UnaryOp} :starEach (.UnaryOp op a pos::es) env=(false,eval (.UnaryOp op a pos) env)::starEach es env:=rfl
theorem jJ {kw:List Keyword} :starEach (.Call a xs kw pos::es) env=(false,eval (.Call a xs kw pos) env)::starEach es env:=rfl
theorem kW:starEach (.Subscript a b pos::es) env=(false,eval (.Subscript a b pos) env)::starEach es env:=rfl
theorem jO {gs sc} :starEach (.ListComp a gs sc pos::es) env=(false,eval (.ListComp a gs sc pos) env)::starEach es env:=rfl
theorem jB8 {x1} :starEach (.Tuple xs x1 pos::es) env=(false,eval (.Tuple xs x1 pos) env)::starEach es env:=rfl
theorem jK {c k} :starEach (.Constant c k pos::es) env=(false,eval (.Constant c k pos) env)::starEach es env:=rfl
theorem j4 {x:Str} :starEach (.Name x pos::es) env=(false,eval (.Name x pos) env)::starEach es env:=rfl
end
section
variable {X:Cx}
def CDivL (i j:Int):Prop:=0<j/\j<2 ^ 64
theorem jGR:OpR X (binaryOp .FloorDiv) (rI CDivL fun i j=> .int (i / j)):=opI fun i j _ _ _ _ _ hc q=>by
 have h1:(0:Int)<j:=hc.1
 have h2:j<2 ^ 64:=hc.2
 refine floordiv_int (by omega) (by rw[fo i (by omega)]; exact q) (.inl (PyProof.noPylong_of_log2 ?_))
 have h3:j.natAbs<2 ^ 64:=by omega
 have h4:j.natAbs≠0:=by omega
 have:=(Nat.log2_lt h4).mpr h3
 omega
theorem jBJ:yP X (.builtin "isinstance") (fun xs H Q=>∃ x T t b,xs=[x, .ty T]/\TyOf X.K H x t/\kitOne X.K t (.type T)=some b/\Q (.bl b) H):=by
 intro pins s σ H xs us Q I r h
 obtain⟨x,T,t,b,rfl,ty,e,q⟩:=h
 obtain⟨u,v,rfl,ru,rv⟩:=r.two
 cases rv
 exact jJI I ru ty e fun tk=>⟨.bl b,H,I.tok tk,rfl,q⟩
def jMQ:V->List V->Hp->VK->Prop:=fun x vs H Q=>∃ l xs i y,x= .ref l/\vs=[.int i,y]/\H l=some (.lst xs)/\0<=i/\i<=xs.length/\xs.length<sizeLine/\Q .non (upd H l (.lst (xs.take i.toNat++y::xs.drop i.toNat)))
theorem Vals.put {y:V}{v:Value}(r:RelV y v){xs:List V}{us:List Value}(h:Vals xs us)(k:Nat):Vals (xs.take k++y::xs.drop k) (us.take k++v::us.drop k):=(h.take k).append (.cons r (h.drop k))
theorem jEW:MtM X "list.insert" jMQ:=by
 intro pins s σ H x vs v us Q I rx rv h
 obtain⟨l,xs,i,y,rfl,rfl,hH,h0,h1,hz,q⟩:=h
 cases rx
 obtain⟨a,b,rfl,ra,rb⟩:=rv.two
 obtain⟨t,rfl⟩:=ra
 obtain⟨z,its,n,r,hl,e⟩:=I.lstM hH
 have line:=jF2
 have hf:Builtin.List.listFitsIndex i=true:=fitsIndex_both (by omega) (by omega)
 refine dJ F.slot_list_insert ⟨_,e,rfl⟩ F.entry_list_insert (F.args_list_insert_3 _ _ _) (AutoSeq1.list_insert_list_int_val_1 l its.toArray n i t b (by simp [hf]) (by rw[aF]; omega)) ⟨e,?_⟩
 refine⟨.non,_,I.lset (its':=its.take i.toNat++b::its.drop i.toNat) hH e ?_ (Vals.put rb r i.toNat) ?_,rfl,q⟩
 ·have hk:(if i<0 then (i+(its.toArray.size:Int)).toNat else min i.toNat its.toArray.size)=i.toNat:=by
   rw[af (by omega),aF]
   omega
  show (its.toArray.extract 0 (if i<0 then (i+(its.toArray.size:Int)).toNat else min i.toNat its.toArray.size)).push b++its.toArray.extract (if i<0 then (i+(its.toArray.size:Int)).toNat else min i.toNat its.toArray.size)=_
  rw[hk]
  apply Array.ext'
  simp [cZ,bG]
 ·rw[ar,bq,aY,gf]
  omega
theorem jDN {x:V} :∀ {xs:List V}{us:List Value},Vals xs us->xs.all yQ=true->us.countP (eqU x)=xs.countP fun y=>eqV y x
 | _,_, .nil,_=>rfl
 | y::xs,u::us, .cons r t,f=>by
  rw[fU,bO] at f
  rw[gh,gh,jJQ r f.1,jDN t f.2]
theorem jDG (hc:X.calm=true):yP X (.builtin "all") (fun xs H Q=>∃ (p:Addr) (bs:List Bool),xs=[.ref p]/\SqL X.K H p (bs.map V.bl)/\Q (.bl (bs.all id)) H):=by
 intro pins s σ H xs us Q I r h
 obtain⟨p,bs,rfl,hq,q⟩:=h
 obtain⟨u,rfl,rx⟩:=r.one
 cases rx
 obtain⟨its,r',pl,hz⟩:=I.list hq
 have hlen:=r'.length
 rw[aa] at hlen
 refine call_all_walk (dE pl.isList ?_)
 have hne:p≠s.heap.objs.size:=by
  obtain⟨o,ho,_⟩:=pl.isList
  exact bu (aL ho)
 refine⟨s.heap.objs.size,_,_,_,_,_,fun i=>bs.getD i true,rfl,Walks.list (by simpa using I.ok.hd hc) _ p hne its.toArray,⟨⟨_,aQ _ rfl,rfl,rfl⟩,pl.isList.push _⟩,fun i v z Q' E' hP hQ'=>?_,fun h' tk hk=>?_⟩
 ·have hi:its[i]?=some v:=by simpa using hP
  have hb:i<bs.length:=by
   rw[hlen]
   exact(ae.mp hi).1
  obtain⟨u,hu,ru⟩:=r'.get (i:=i) (x:= .bl (bs[i])) (by simp [hb])
  rw[hi] at hu
  cases hu
  cases ru
  have e:bs.getD i true=bs[i]:=by simp [List.getD,hb]
  have hQ2:Q' (bs.getD i true) z:=hQ'
  rw[e] at hQ2
  exact aV hQ2
 ·have e:(List.range its.toArray.size).all (fun i=>bs.getD i true)=bs.all id:=by
   rw[aF,<- hlen]
   rw[bJ,bE,bE]
   constructor
   ·intro a b hb
    obtain⟨i,hi,rfl⟩:=g0 hb
    have:=a i (bN.mpr hi)
    simpa [List.getD,hi] using this
   ·intro a i hi
    have hi:=bN.mp hi
    have:=a bs[i] (dQ hi)
    simpa [List.getD,hi] using this
  rw[e]
  exact⟨.bl _,H,I.kept (t':=tk) fun b o e=>hk b o (by
   intro z
   have z:b=s.heap.objs.size:=by simpa using z
   exact absurd (aL e) (by rw[z]; exact cU _)) (am _ e),rfl,q⟩
theorem jEI {ns:List Int} :∀ {us:List Value},Vals (ns.map V.int) us->IntsAre us ns:=by
 induction ns with
 | nil=>intro us h; cases h; exact .nil
 | cons n ns ih=>
  intro us h
  cases h with
  | cons r t=>
   obtain⟨k,rfl⟩:=r
   exact .cons n k (ih t)
theorem jAR:∀ {us:List Value}{ns:List Int},IntsAre us ns->Vals (ns.map V.int) us
 | _,_, .nil=> .nil
 | _,_, .cons n t r=> .cons ⟨t,rfl⟩ (jAR r)
end
section
variable {X:Cx}{p1 p2 p3 p4 p5 p6 p7:Pos}{k1 k2 k3 k4:Nat}
end
def ItAt (tp:Bool)(h:Heap)(it a:Addr)(i:Nat):Prop:=match tp with
 | false=>h.IsListIter it a i
 | true=>h.IsTupleIter it a i
def ObAt (tp:Bool)(h:Heap)(a:Addr)(xs:Array Value):Prop:=match tp with
 | false=>h.IsList a xs
 | true=>h.IsTuple a xs
theorem ItAt.but {tp:Bool}{h h':Heap}{it a b:Addr}{i:Nat}(x:ItAt tp h it a i)(e:Heap.ExtBut b h h')(n:it≠b):ItAt tp h' it a i:=by
 cases tp with
 | false=>exact Heap.IsListIter.extBut x e n
 | true=>exact Heap.IsTupleIter.extBut x e n
theorem ItAt.at {tp:Bool}{h h':Heap}{it a:Addr}{i:Nat}(x:ItAt tp h it a i)(e:∀ o,h.get? it=some o->h'.get? it=some o):ItAt tp h' it a i:=by
 cases tp with
 | false=>exact Heap.IsListIter.at x e
 | true=>exact Heap.IsTupleIter.at x e
theorem ItAt.obj {tp:Bool}{h:Heap}{it a:Addr}{i:Nat}(x:ItAt tp h it a i):∃ o,h.get? it=some o/\∀ v,o.data≠ .cell v:=by
 cases tp with
 | false=>obtain⟨o,e,_,d⟩:=x; exact⟨o,e,fun v q=>by rw[d] at q; cases q⟩
 | true=>obtain⟨o,e,_,d⟩:=x; exact⟨o,e,fun v q=>by rw[d] at q; cases q⟩
section
variable {prog:Program}{w:World}{A:Around}{E:Value->Shared->Prop}{s:Shared}
theorem next1 {tp:Bool}{it a:Addr}{i:Nat}{xs:Array Value}{x:Value}{Q:Value->Shared->Prop}(hi:ItAt tp s.heap it a i)(ha:ObAt tp s.heap a xs)(hx:xs[i]?=some x)
  (k:∀ h',ItAt tp h' it a (i+1)->Heap.SameBut it s.heap h'->Q x { s with heap:=h'}):wpAny (model prog w) A (Builtin.SmallTypes.nextOf (.ref it)) Q E s:=by
 cases tp with
 | false=>exact wpAny_nextOf_list_item hi ha hx k
 | true=>
  obtain⟨o,e,c,d⟩:=id (show s.heap.IsTupleIter it a i from hi)
  obtain⟨u,eu,_,n,du⟩:=(show s.heap.IsTuple a xs from ha)
  have ty:=Heap.IsTupleIter.typeIs (show s.heap.IsTupleIter it a i from hi)
  unfold Builtin.SmallTypes.nextOf
  refine ah (dv (name:=Str.ofString "__next__") ty F.slot_tuple_iterator_next (eR F.slot_tuple_iterator_next ty F.entry_tuple_iterator_next (?_:wpAny (model prog w) _ (field (.ref it) 0 >>= _) _ _ s) (F.args_tuple_iterator_next_1 _)))
  refine ah (de e d (x:= .ref a) rfl (?_:wpAny (model prog w) _ (if (Value.ref a==Value.none)=true then _ else _) _ _ s))
  rw[af (by exact ak)]
  show wpAny (model prog w) _ (field (.ref it) 1 >>= _) _ _ s
  refine ah (de e d (x:= .int i 0) rfl ?_)
  show wpAny (model prog w) _ (seqItems? (.ref a) >>= _) _ _ s
  refine ah (wpAny_seqItems eu du ?_)
  simp only [aS,hx]
  refine ah (wpAny_setField e d (by simp) (aV ⟨x,rfl,aV (k _ ⟨_,Heap.get?_update_self _ e (Obj.isFreed_of_fields (Obj.data_mapFields d _)),(Obj.cls_mapFields ..).trans c,?_⟩ (Heap.SameBut.update ..))⟩))
  rw[Obj.data_mapFields d]
  simp [rawInt]
theorem next0 {tp:Bool}{it a:Addr}{i:Nat}{xs:Array Value}{Q:Value->Shared->Prop}(hh:A.handled=none)(hi:ItAt tp s.heap it a i)(ha:ObAt tp s.heap a xs)(hx:xs[i]?=none)
  (k:∀ h' e,Heap.ExtBut it s.heap h'->(∃ o,h'.get? e=some o/\o.cls= .type "StopIteration")->E (.ref e) { s with heap:=h'}):wpAny (model prog w) A (Builtin.SmallTypes.nextOf (.ref it)) Q E s:=by
 cases tp with
 | false=>exact wpAny_nextOf_list_end hh hi ha hx k
 | true=>
  obtain⟨o,e,c,d⟩:=id (show s.heap.IsTupleIter it a i from hi)
  obtain⟨u,eu,_,n,du⟩:=(show s.heap.IsTuple a xs from ha)
  have ty:=Heap.IsTupleIter.typeIs (show s.heap.IsTupleIter it a i from hi)
  unfold Builtin.SmallTypes.nextOf
  refine ah (dv (name:=Str.ofString "__next__") ty F.slot_tuple_iterator_next (eR F.slot_tuple_iterator_next ty F.entry_tuple_iterator_next (?_:wpAny (model prog w) _ (field (.ref it) 0 >>= _) _ _ s) (F.args_tuple_iterator_next_1 _)))
  refine ah (de e d (x:= .ref a) rfl (?_:wpAny (model prog w) _ (if (Value.ref a==Value.none)=true then _ else _) _ _ s))
  rw[af (by exact ak)]
  show wpAny (model prog w) _ (field (.ref it) 1 >>= _) _ _ s
  refine ah (de e d (x:= .int i 0) rfl ?_)
  show wpAny (model prog w) _ (seqItems? (.ref a) >>= _) _ _ s
  refine ah (wpAny_seqItems eu du ?_)
  simp only [aS,hx]
  refine ah (dN (ah (wpAny_setField e d (by simp) (?_:wpAny (model prog w) _ (newExc (.type "StopIteration") [] >>= _) _ _ _))))
  refine ah (by
   simp only [newExc,newTuple]
   refine ah (eF (ah (m:=firstArgMember _ _) (wpAny_of_eq (a:=Value.none) (by first | rfl | (simp only [firstArgMember]; rfl)) (eF ?_ (by size_fits)))) (by size_fits))
   simp only [raiseNew]
   refine ah (wpAny_handled ?_)
   first | rw[show A.in1.handled=none from hh] | rw[hh]
   exact ah (aV (wpAny_throw (k _ _ (((Heap.SameBut.update ..).extBut.push _).push _) ⟨_,aQ _ rfl,rfl⟩))))
end
noncomputable def iterO (tp:Bool)(a:Addr):Obj:=match tp with
 | false=> { cls:= .type "list_iterator",data:= .fields #[.ref a, .int 0 0]}
 | true=> { cls:= .type "tuple_iterator",data:= .fields #[.ref a, .int 0 0]}
theorem jHR (tp:Bool)(a:Addr):(iterO tp a).isFreed=false:=by cases tp <;> rfl
theorem jE1 {prog:Program}{w:World}{A:Around}{E:Value->Shared->Prop}{s:Shared}{tp:Bool}{a:Addr}{xs:Array Value}{Q:Value->Shared->Prop}(h:ObAt tp s.heap a xs)(q:Q (.ref s.heap.objs.size) { s with heap:=s.heap.push (iterO tp a)}):
  wpAny (model prog w) A (pyIter (.ref a)) Q E s:=by
 cases tp with
 | false=>exact dE h q
 | true=>exact wpAny_pyIter_tuple h q
theorem ItAt.new (tp:Bool){h:Heap}{it a:Addr}(e:h.get? it=some (iterO tp a)):ItAt tp h it a 0:=by
 cases tp with
 | false=>exact⟨_,e,rfl,rfl⟩
 | true=>exact⟨_,e,rfl,rfl⟩
section
variable {X:Cx}
def Sq (tp:Bool)(K:W.Frag)(H:Hp)(a:Addr)(xs:List V):Prop:=match tp with
 | false=>SqL K H a xs
 | true=>SqT K H a xs
theorem Inv.sq {X:Cx}{pins:List (Addr×Obj)}{σ:St}{H:Hp}{s:Shared}{tp:Bool}{a:Addr}{xs:List V}(I:Inv X pins σ H s)(h:Sq tp X.K H a xs):∃ its:List Value,Vals xs its/\ObAt tp s.heap a its.toArray/\xs.length<=sizeLine:=by
 cases tp with
 | false=>
  obtain⟨its,r,p,z⟩:=I.list h
  exact⟨its,r,p.isList,z⟩
 | true=>exact I.tuple h
theorem Inv.sq_inj {X:Cx}{pins:List (Addr×Obj)}{σ:St}{H:Hp}{s:Shared}{tp:Bool}{a:Addr}{xs ys:List V}(I:Inv X pins σ H s)(h:Sq tp X.K H a xs)(h':Sq tp X.K H a ys):xs=ys:=by
 cases tp with
 | false=>exact I.list_inj h h'
 | true=>exact I.tuple_inj h h'
end
structure JE (X:Cx)(e:Expr)(t:TE):Prop where
 h:PE X e t
structure JA (X:Cx)(es:List Expr)(t:TA):Prop where
 h:PA X es t
structure JT (X:Cx)(e:Expr)(t:TT):Prop where
 h:PT X e t
structure JTs (X:Cx)(e:List Expr)(t:TT):Prop where
 h:PTs X e t
structure JS (X:Cx)(e:Stmt)(t:TS):Prop where
 h:PS X e t
structure JSs (X:Cx)(e:List Stmt)(t:TS):Prop where
 h:PSs X e t
structure JG (X:Cx)(e:Expr)(t:TG):Prop where
 h:PG X e t
structure JGs (X:Cx)(e:List Expr)(t:TGs):Prop where
 h:PGs X e t
structure JI (X:Cx)(tg e:Expr)(t:TI):Prop where
 h:PI X tg e t
structure JO (X:Cx)(e:Option Expr)(t:TO):Prop where
 h:PO X e t
structure Loc1 (X:Cx)(x:Str):Prop where
 a:Loc X.env.scope x
 b:X.fn x=true\/X.env.scope.names.lookup x=some .local
structure Vis1 (X:Cx)(x:Str):Prop where
 a:Vis X.env.scope x
structure Gl1 (X:Cx)(x:Str):Prop where
 a:Gl X x
section
variable {a b:Expr}{pos:Pos}{xs:List Expr}{o:Option Expr}{l:Nat}{env:Env}
structure SwOk (e:Expr)(o:Option Expr):Prop where
 h:∀ l env,swapsWith e o l env=pure false
theorem jBN {op:Operator} :SwOk (.BinOp a op b pos) o:=⟨fun _ _=>rfl⟩
theorem jOS {ops:List CmpOp} :SwOk (.Compare a ops xs pos) o:=⟨fun _ _=>rfl⟩
theorem jN {kw:List Keyword} :SwOk (.Call a xs kw pos) o:=⟨fun _ _=>rfl⟩
theorem jOR {x1} :SwOk (.Tuple xs x1 pos) o:=⟨fun _ _=>rfl⟩
theorem jBM:SwOk (.List xs pos) o:=⟨fun _ _=>rfl⟩
theorem jAX {c k} :SwOk (.Constant c k pos) o:=⟨fun _ _=>rfl⟩
theorem jD2 {op:Operator} :jAT (.BinOp a op b pos):=fun _ _=>rfl
theorem jP {i:Int}{k} :jAT (.Constant (.int i) k pos):=fun _ _=>rfl
theorem jAP {x:Str} :jAT (.Name x pos):=fun _ _=>rfl
theorem jOW:jAT (.Subscript a b pos):=fun _ _=>rfl
structure FoOk (iter:Expr):Prop where
 h:∀ env x,foldedSetIterable iter env x=pure x
theorem kI {kw:List Keyword} :FoOk (.Call a xs kw pos):=⟨fun _ _=>rfl⟩
theorem yE {x:Str} :FoOk (.Name x pos):=⟨fun _ _=>rfl⟩
theorem jM7:FoOk (.Subscript a b pos):=⟨fun _ _=>rfl⟩
structure TvOk (e:Expr):Prop where
 h:∀ env whole,isTrue e env whole=(do let v <- whole; standAt e.pos; holding [v] (truthy v))
theorem jCY {kw:List Keyword} :TvOk (.Call a xs kw pos):=⟨fun _ _=>rfl⟩
end
section
variable {X:Cx}{a b e o:Expr}{ta tb te to:TE}{es:List Expr}{t:TA}{pos p p2 cpos apos:Pos}{x:Str}{T:String}{id:String}
theorem jv (i:Nat)(hN:X.N[i]?=some x)(hv:Vis1 X x)(hd:(x==("__debug__" :Str))=false:=by decide)(hcd:(x==("__classdict__" :Str))=false:=by decide):JE X (.Name x pos) (tVar i):=⟨jIL hN hv.a hd hcd⟩
theorem je_int {i j} :JE X (.Constant (.int i) j pos) (tC (.int i)):=⟨kJ⟩
theorem je_bl {i j} :JE X (.Constant (.bool i) j pos) (tC (.bl i)):=⟨pe_bl⟩
theorem jG0 {v:V}{u:Value}(hg:Gl1 X x)(hm:X.mg x=none)(hv:bootBuiltins x=some u)(r:RelV v u)(hn:x≠ "__name__" :=by decide)(hd:(x==("__debug__" :Str))=false:=by decide):JE X (.Name x pos) (tC v):=⟨jND hg.a hm hv r hn hd⟩
theorem jL {op:Operator}{r:R2}(ho:OpR X (binaryOp op) r)(ha:JE X a ta)(hb:JE X b tb):JE X (.BinOp a op b pos) (tOp r ta tb):=⟨yA ho ha.h hb.h⟩
theorem je_un {op:UnaryOp}{r:V->Hp->VK->Prop}(ho:UnR X (unaryOp op) r)(ha:JE X a ta):JE X (.UnaryOp op a pos) (tUn r ta):=⟨pe_un ho ha.h⟩
theorem jPW (ha:JE X a ta):JE X (.UnaryOp .Not a pos) (tNotV ta):=⟨jP9 ha.h⟩
theorem jAO {op:CmpOp}{r:R2}(ho:OpR X (compareOp op) r)(ha:JE X a ta)(hb:JE X b tb)(hm:behindInMarks op b=false):JE X (.Compare a [op] [b] pos) (tOp r ta tb):=⟨jNB ho ha.h hb.h hm⟩
theorem jJD {rest:List Expr}(ha:JE X a ta)(hb:JE X (.BoolOp .And (b::rest) pos) tb):JE X (.BoolOp .And (a::b::rest) pos) (tAndV ta tb):=⟨jPB ha.h hb.h⟩
theorem je_or {rest:List Expr}(ha:JE X a ta)(hb:JE X (.BoolOp .Or (b::rest) pos) tb):JE X (.BoolOp .Or (a::b::rest) pos) (tOrV ta tb):=⟨pe_or ha.h hb.h⟩
theorem jF6 {op}(ha:JE X a ta):JE X (.BoolOp op [a] pos) ta:=⟨jP8 ha.h⟩
theorem jL1 {lo hi:Option Expr}{tl th:TO}{r:V->Option Int->Option Int->Hp->VK->Prop}(hr:SlR X r)(he:JE X e te)(hl:JO X lo tl)(hu:JO X hi th):JE X (.Subscript e (.Slice lo hi none p2) pos) (tSl r te tl th):=⟨jKL hr he.h hl.h hu.h⟩
theorem kE {r:R2}(hr:IxR X r)(ha:JE X a ta)(hb:JE X b tb)(hs:jAT b):JE X (.Subscript a b pos) (tOp r ta tb):=⟨pe_ix hr ha.h hb.h hs⟩
theorem jA7 {T}{r:List V->Hp->VK->Prop}(hc:yP X (.type T) r)(hg:Gl1 X x)(hm:X.mg x=none)(hv:bootBuiltins x=some (.type T))(ha:JA X (e::es) t)(he:starEach (e::es) X.env=(false,eval e X.env)::starEach es X.env)(hn:x≠ "__name__" :=by decide)(hdb:(x==("__debug__" :Str))=false:=by decide)
  (hpl:(backTo pos (starEach es X.env)).any (·.1)=false:=by rfl):JE X (.Call (.Name x p) (e::es) [] pos) (tCB r t):=⟨jIM hc hg.a hm hv ha.h hn hdb he hpl⟩
theorem jI {id}{r:List V->Hp->VK->Prop}(hc:yP X (.builtin id) r)(hg:Gl1 X x)(hm:X.mg x=none)(hv:bootBuiltins x=some (.builtin id))(ha:JA X (e::es) t)(he:starEach (e::es) X.env=(false,eval e X.env)::starEach es X.env)(hn:x≠ "__name__" :=by decide)(hdb:(x==("__debug__" :Str))=false:=by decide)
  (hpl:(backTo pos (starEach es X.env)).any (·.1)=false:=by rfl):JE X (.Call (.Name x p) (e::es) [] pos) (tCB r t):=⟨jGO hc hg.a hm hv ha.h hn hdb he hpl⟩
theorem j6:JA X [] tNil:=⟨jEV⟩
theorem j3 (ha:JE X e te)(hr:JA X es t)(hs:starEach (e::es) X.env=(false,eval e X.env)::starEach es X.env):JA X (e::es) (tCons te t):=⟨jD5 ha.h hr.h hs⟩
theorem jW {op:CmpOp}{r:R2}(ho:OpR X (compareOp op) r)(ha:JE X a ta)(hb:JE X b tb)(hm:behindInMarks op b=false):JT X (.Compare a [op] [b] pos) (tTest (tOp r ta tb)):=⟨jFS ho ha.h hb.h hm⟩
theorem jF3 (h:JE X e te)(he:TvOk e):JT X e (tB te):=⟨jOZ h.h (he.h _)⟩
theorem jF4 {tA:TT}(ha:JT X a tA):JT X (.UnaryOp .Not a pos) (tNot tA):=⟨jP0 ha.h⟩
theorem kS:JTs X [] yJ:=⟨jMX⟩
theorem jJ8 {t:TT}(h:JT X e t):JTs X [e] t:=⟨jMW h.h⟩
theorem jG {i:Nat}(hN:X.N.Nodup)(hi:X.N[i]?=some x)(hx:Loc1 X x):JG X (.Name x pos) (kO i):=⟨jIK hN hi hx.a hx.b⟩
theorem jA6 {tg:Expr}(hg:Gl1 X "range")(hm:X.mg "range" =none)(ha:JA X [a] t)(hs:starEach [a] X.env=(false,eval a X.env)::starEach [] X.env):JI X tg (.Call (.Name "range" p) [a] [] pos) (iRng1 t):=⟨jEU hg.a hm ha.h hs⟩
theorem yC {tg:Expr}(hl:JE X a ta):JI X tg a (iList X.K ta):=⟨jN5 hl.h⟩
theorem jDC {tg:Expr}(hl:JE X a ta):JI X tg a (iTup X.K ta):=⟨jP5 hl.h⟩
theorem jNZ:JO X none jI7:=⟨jN3⟩
theorem jNY (h:JE X e te):JO X (some e) (tPart te):=⟨jN2 h.h⟩
theorem jE {i:Nat}{pos':Pos}(hN:X.N.Nodup)(hi:X.N[i]?=some x)(hx:Loc1 X x)(he:JE X e te)(hs:SwOk e (some (.Name x pos'))):JS X (.Assign [.Name x pos'] e pos) (tAsg te (kO i)):=⟨jD3 hN hi hx.a he.h (hs.h _ _) hx.b⟩
theorem jV (he:JE X e te):JS X (.Return (some e) pos) (tRet te):=⟨jDK he.h⟩
theorem jAN (he:JE X e te)(hs:SwOk e none):JS X (.Expr e pos) (tDrop te):=⟨jMZ he.h (hs.h _ _)⟩
theorem kG:JSs X [] tNext:=⟨jFT⟩
theorem jC {st:Stmt}{t:TS}(h1:JS X st t):JSs X [st] t:=⟨jBG h1.h⟩
theorem j9 {st:Stmt}{rest:List Stmt}{t u:TS}(h1:JS X st t)(h2:JSs X rest u):JSs X (st::rest) (tSeq t u):=⟨jAA h1.h h2.h⟩
theorem yI {c:Expr}{a b:List Stmt}{tc:TT}{t u:TS}(hc:JT X c tc)(ha:JSs X a t)(hb:JSs X b u):JS X (.If c a b pos) (tIfS tc t u):=⟨ps_if hc.h ha.h hb.h⟩
theorem yB {tg iter:Expr}{body:List Stmt}{wi:TI}{g:TG}{tb:TS}(hp:PassesOwn (model X.prog X.w) X.A X.env X.xe)(hc:X.calm=true)(hi:JI X tg iter wi)(hg:JG X tg g)(hb:JSs X body tb)(hs:FoOk iter):JS X (.For tg iter body [] pos) (tFor wi g tb):=⟨jLU hp hc hi.h hg.h hb.h (hs.h _)⟩
theorem je_bm {T:String}{name:Str}{r}(pa:PlainAttrs T)(slot:Slot T name id)(hty:typeOf (.builtin id)=pure (.type "method_descriptor"))(hm:MtR X id r)(ho:JE X o to)(ha:JA X (e::es) t)
  (hs:starEach (e::es) X.env=(false,eval e X.env)::starEach es X.env)
  (hbase:attributeBase o name X.env (eval o X.env)=eval o X.env:=by rfl)
  (hfew:((backTo cpos (starEach (e::es) X.env)).all (fun x=>!x.1)&&(backToKw cpos (keywordEach [] X.env)).all (fun x=>x.1.isSome)
   &&decide ((e::es).length+([]:List Keyword).length+(if ([]:List Keyword).isEmpty then 0 else 1)<30))=true:=by rfl)
  (hline:(apos.endLine==cpos.line)=true:=by rfl) (hplain:(backTo cpos (starEach es X.env)).any (·.1)=false:=by rfl):
  JE X (.Call (.Attribute o name apos) (e::es) [] cpos) (tBM X.K T r to t):=⟨pe_bm pa slot hty hm ho.h ha.h hbase hfew hline hs hplain⟩
theorem kR {tg iter elt:Expr}{ifs:List Expr}{sc:Scope}{wi:TI}{g:TG}{tt:TT}{m:List (Option Nat)}{Nc:List Str}(hc:X.calm=true)(hi:JI X tg iter wi)(hkind:sc.kind= .function)(hcell:∀ y∈sc.names,y.2≠ .cell)(hnames:∀ y∈sc.names,y.2= .local->sc.names.lookup y.1=some .local)
  (hfree:∀ y∈sc.names,y.2= .free->X.env.scope.names.lookup y.1=some .cell\/X.env.scope.names.lookup y.1=some .free) (hm:jCH X sc Nc m)
  (hg:∀ cl C fp s H,JG (blk X sc cl C Nc fp s H) tg g) (ht:∀ cl C fp s H,JTs (blk X sc cl C Nc fp s H) ifs tt) (he:∀ cl C fp s H,JE (blk X sc cl C Nc fp s H) elt te)
  (hs:FoOk iter):JE X (.ListComp elt [⟨tg,iter,ifs,0⟩] sc pos) (tComp m wi g tt te):=⟨jNA hc hi.h hkind hcell hnames hfree hm (fun cl C fp s H=>(hg cl C fp s H).h) (fun cl C fp s H=>(ht cl C fp s H).h) (fun cl C fp s H=>(he cl C fp s H).h) (hs.h _)⟩
end
section
variable {P:Program}{w:World}{K:W.Frag}{mg:Str->Option Value}{base:Heap}{N:List Str}{qual:Str}{sc:Scope}{f:Addr}{cdv:Value}{A:Around}{outer:List Env}{s:Shared}{H:Hp}{E:XK}{x:Str}
theorem gl_d (h:sc.names.lookup x=some .globalImplicit):Gl1 (cxOf CX0 P w K mg base N qual sc f cdv A outer s H E).nox x:=⟨h⟩
theorem gD (h:sc.names.lookup x=some .globalImplicit:=by decide+kernel):Gl1 (cxOf CX0 P w K mg base N qual sc f cdv A outer s H E).nox x:=gl_d h
theorem vis_l (h:sc.names.lookup x=some .local):Vis1 (cxOf CX0 P w K mg base N qual sc f cdv A outer s H E).nox x:=⟨.inl h⟩
theorem vL (h:sc.names.lookup x=some .local:=by decide+kernel):Vis1 (cxOf CX0 P w K mg base N qual sc f cdv A outer s H E).nox x:=vis_l h
theorem vis_c (h:sc.names.lookup x=some .cell):Vis1 (cxOf CX0 P w K mg base N qual sc f cdv A outer s H E).nox x:=⟨.inr (.inl h)⟩
theorem vC (h:sc.names.lookup x=some .cell:=by decide+kernel):Vis1 (cxOf CX0 P w K mg base N qual sc f cdv A outer s H E).nox x:=vis_c h
end
theorem jAC {env:Env}{x:Str}{k:NameKind}(hk:k≠ .free):∀ {l:List (Str×NameKind)},l.lookup x=some k->
  (l.map fun (n,k)=>if (k==NameKind.free&&env.scope.kind== .function&&env.kindOf n==some .cell) then (n,NameKind.cell) else (n,k)).lookup x=some k
 | [],h=>by cases h
 | (n,k')::r,h=>by
  have ih:= @jAC env x k hk r
  rw[bw] at h
  rw[ba]
  dsimp only
  by_cases hb:(k'==NameKind.free&&env.scope.kind== .function&&env.kindOf n==some .cell)=true
  ·rw[ag hb,bw]
   cases hx:x==n with
   | true=>
    rw[hx] at h
    have e:k'=k:=aW h
    simp only [bO] at hb
    exact absurd (e.symm.trans (eq_of_beq hb.1.1)) hk
   | false=>rw[hx] at h; exact ih h
  ·rw[af hb,bw]
   cases hx:x==n with
   | true=>rw[hx] at h; exact h
   | false=>rw[hx] at h; exact ih h
section
variable {X:Cx}{sc:Scope}{cl:List (Str×Addr)}{C:Addr}{Nc:List Str}{fp:List Addr}{s:Shared}{H:Hp}{x:Str}
theorem gl_b (h:sc.names.lookup x=some .globalImplicit):Gl1 (blk X sc cl C Nc fp s H) x:=⟨jAC (by decide) h⟩
theorem jX (h:sc.names.lookup x=some .local):Vis1 (blk X sc cl C Nc fp s H) x:=⟨.inl (jAC (by decide) h)⟩
theorem y6 (h:sc.names.lookup x=some .free):Vis1 (blk X sc cl C Nc fp s H) x:=⟨.inr (jB3 h)⟩
theorem yM (h:sc.names.lookup x=some .local):Loc1 (blk X sc cl C Nc fp s H) x:=⟨.inl (jAC (by decide) h), .inr (jAC (by decide) h)⟩
end
section
variable {P:Program}{w:World}{K:W.Frag}{mg:Str->Option Value}{base:Heap}{N:List Str}{qual:Str}{sc:Scope}{f:Addr}{cdv:Value}{A:Around}{outer:List Env}{s:Shared}{H:Hp}{E:XK}{x:Str}
theorem loc_l (h:sc.names.lookup x=some .local):Loc1 (cxOf CX0 P w K mg base N qual sc f cdv A outer s H E).nox x:=⟨.inl h, .inl rfl⟩
theorem lL (h:sc.names.lookup x=some .local:=by decide+kernel):Loc1 (cxOf CX0 P w K mg base N qual sc f cdv A outer s H E).nox x:=loc_l h
theorem loc_c (h:sc.names.lookup x=some .cell):Loc1 (cxOf CX0 P w K mg base N qual sc f cdv A outer s H E).nox x:=⟨.inr h, .inl rfl⟩
end
structure JW (X:Cx)(e:Expr)(t:TT):Prop where
 h:PW X e t
section
variable {X:Cx}{a b:Expr}{rest:List Expr}{pos:Pos}{tA tB':TT}
theorem jNV (ha:JT X a tA):JW X (.BoolOp .And [a] pos) tA:=⟨jMV ha.h⟩
theorem jPS (ha:JT X a tA):JW X (.BoolOp .Or [a] pos) tA:=⟨jOX ha.h⟩
theorem jPT (ha:JT X a tA)(hb:JW X (.BoolOp .And (b::rest) pos) tB'):JW X (.BoolOp .And (a::b::rest) pos) (tAnd tA tB'):=⟨jOY ha.h hb.h⟩
theorem jw_or (ha:JT X a tA)(hb:JW X (.BoolOp .Or (b::rest) pos) tB'):JW X (.BoolOp .Or (a::b::rest) pos) (tOr tA tB'):=⟨pw_or ha.h hb.h⟩
theorem jt_w (h:JW X a tA):JT X a tA:=⟨h.h.pt⟩
theorem jFZ:JGs X [] gNil:=⟨jN7⟩
structure AsOk (e:Expr):Prop where
 h:∀ es env,assignEach (e::es) env=(false,assign e env)::assignEach es env
theorem jCA {x:Str} :AsOk (.Name x pos):=⟨fun _ _=>rfl⟩
theorem jB1 {e:Expr}{es:List Expr}{t:TG}{u:TGs}(h1:JG X e t)(h2:JGs X es u)(hs:AsOk e):JGs X (e::es) (gCons t u):=⟨jKK h1.h h2.h (by rw[hs.h]; rfl)⟩
theorem jM4 {es:List Expr}{k:Nat}{t:TGs}{n:Nat}(hc:X.calm=true)(h:JGs X es t)(hn:(assignEach es X.env).length=n:=by rfl)(hst:(assignEach es X.env).findIdx? (·.1)=none:=by rfl):JG X (.Tuple es k pos) (gTup X.K n t):=⟨jP6 hc h.h hn hst⟩
end
theorem jF5 {X:Cx}{sc:Scope}{cl:List (Str×Addr)}{C:Addr}{Nc:List Str}{fp:List Addr}{s:Shared}{H:Hp}{x y:Str}{p1 p2 pos:Pos}{k:Nat}{i j:Nat}(hc:X.calm=true)(hN:Nc.Nodup)(hi:Nc[i]?=some x)(hj:Nc[j]?=some y)(hx:sc.names.lookup x=some .local)(hy:sc.names.lookup y=some .local):
  JG (blk X sc cl C Nc fp s H) (.Tuple [.Name x p1, .Name y p2] k pos) (gTup X.K 2 (gCons (kO i) (gCons (kO j) gNil))):=
 jM4 (X:=blk X sc cl C Nc fp s H) hc (jB1 (jG hN hi (yM hx)) (jB1 (jG hN hj (yM hy)) jFZ jCA) jCA)
section
variable {K:W.Frag}{m:List (Option Nat)}{g:TG}{tt:TT}{te:TE}{σ:St}{H1:Hp}{Q:VK}
end
section
variable {X:Cx}{sc:Scope}{cl:List (Str×Addr)}{C:Addr}{Nc:List Str}{fp:List Addr}{s:Shared}{H:Hp}
theorem jIR:OpR (blk X sc cl C Nc fp s H) (compareOp .In) (rIn X.K false):=jIQ
theorem jJE:IxR (blk X sc cl C Nc fp s H) (rIxL X.K):=jAH
theorem jBT:IxR (blk X sc cl C Nc fp s H) (rIxT X.K):=kQ
end
def Ext (H H':Hp):Prop:=∀ b o,H b=some o->H' b=some o
theorem Ext.refl (H:Hp):Ext H H:=fun _ _ h=>h
theorem Ext.trans {H H1 H2:Hp}(a:Ext H H1)(b:Ext H1 H2):Ext H H2:=fun c o h=>b c o (a c o h)
theorem Ext.new {H H1:Hp}{l:Addr}(a:Ext H H1)(hl:H1 l=none)(o:HO):Ext H (upd H1 l o):=fun c u h=>by
 have:=a c u h
 rw[jA (jD this hl)]
 exact this
theorem Ext.updNew {H H1:Hp}{l:Addr}(a:Ext H H1)(hl:H l=none)(o:HO):Ext H (upd H1 l o):=fun c u h=>by
 rw[jA (jD h hl)]
 exact a c u h
def TupR (H:Hp)(xs:List V)(Q:VK):Prop:=∀ r H',H' r=some (.tup xs)->Ext H H'->Q (.ref r) H'
theorem TupR.new {H:Hp}{xs:List V}{Q:VK}(q:TupR H xs Q){p:Addr}(hp:H p=none):Q (.ref p) (upd H p (.tup xs)):=q p _ j8 ((Ext.refl H).new hp _)
section
variable {X:Cx}
section
variable (l:Addr)(items:Array Value)(n:Nat)(x:Int)(u:Tok)(h1:¬ (decide (x< -(2 ^ 63)) || decide (x ≥ 2 ^ 63))=true)
include h1
end
theorem Inv.big' {pins:List (Addr×Obj)}{σ:St}{H:Hp}{s:Shared}(I:Inv X pins σ H s):sysModules<s.heap.objs.size:=Nat.lt_trans (by decide) (I.mod.glob.keeps I.bk).lt
def jOO:TE:=fun _ H Q=>∀ p,H p=none->Q (.ref p) (upd H p (.dK []))
theorem jL3 {pos:Pos} :JE X (.Dict [] [] pos) jOO:=⟨fun pins s σ H Q I h=>
 wpAny_Dict_empty ⟨.ref s.heap.objs.size,_,I.laid (a:=s.heap.objs.size) (o:= .dK []) (t':=s.toks) (fun _ _ q=>am _ q) (az _)
  ⟨bH _,cD.mpr (bV (bu I.big')),[], .nil,Heap.DictOf.new s.heap⟩,rfl,h _ (I.hok.fresh (az _))⟩⟩
theorem jJ9 {tg a b:Expr}{t:TA}{p pos:Pos}(hg:Gl1 X "range")(hm:X.mg "range" =none)(ha:JA X [a,b] t)(hs:starEach [a,b] X.env=(false,eval a X.env)::starEach [b] X.env)(hs2:starEach [b] X.env=(false,eval b X.env)::starEach [] X.env):
  JI X tg (.Call (.Name "range" p) [a,b] [] pos) (iRng2 t):=⟨jIJ hg.a hm ha.h (by rw[hs,hs2]; rfl) hs2⟩
theorem jM3 {tg e:Expr}{te:TE}{g:TG}{pos:Pos}(he:JE X e te)(hg:JG X tg g)(hs:swapsWithSole [tg] e pos.line X.env=pure false:=by rfl)(hw:swappedStores [tg] e X.env=pure none:=by rfl)
  (h1:(assignEach [tg] X.env).map (·.2)=[assign tg X.env]:=by rfl):JS X (.Assign [tg] e pos) (tAsg te g):=⟨jLV he.h hg.h hs hw h1⟩
end
section
variable {K:W.Frag}{m:List (Option Nat)}{g:TG}{tt:TT}{te:TE}{σ:St}{H1:Hp}{Q:VK}
theorem jEA {a:Addr}{xs:List V}(hn:xs.length<sizeLine)(Pv:Addr->Nat->St->Hp->List V->Prop)(h0:∀ D,H1 D=none->Pv D 0 (blkσ m σ) (upd H1 D (.lst [])) [])
  (hD:∀ D i σ' H' zs,H1 D=none->Pv D i σ' H' zs->H' a=some (.tup xs)/\H' D=some (.lst zs)/\zs.length<=i)
  (hs:∀ D i σ' H' zs x,H1 D=none->xs[i]?=some x->Pv D i σ' H' zs->g x σ' H' fun σ2 H2=>tt σ2 H2 fun b H3=>if b=true then te σ2 H3 fun v H4=>H4 D=some (.lst zs)/\Pv D (i+1) σ2 (upd H4 D (.lst (zs++[v]))) (zs++[v]) else Pv D (i+1) σ2 H3 zs)
  (hd:∀ D σ' H' zs,H1 D=none->Pv D xs.length σ' H' zs->Q (.ref D) H'):CompW m g tt te σ Q (Itt K a) H1:=by
 intro D hDn
 refine⟨fun i k σ' H' zs=>k=xs.length - i/\i<=xs.length/\Pv D i σ' H' zs,⟨_,rfl,bH _,h0 D hDn⟩,?_⟩
 rintro i k σ' H' zs ⟨rfl,hi,p⟩
 obtain⟨s1,q1,q2⟩:=hD D i σ' H' zs hDn p
 refine⟨q1,by omega,?_⟩
 by_cases hlt:i<xs.length
 ·refine .inr ⟨⟨xs,xs[i],SqT.of s1,by simp [hlt]⟩,Pv D (i+1),fun σ2 H2 zs z=>⟨xs.length - (i+1),by omega,rfl,hlt,z⟩,fun v H'' y=>?_⟩
  obtain⟨e1,e2⟩:=y
  subst e1
  exact hs D i σ' _ zs v hDn (e2 xs (SqT.of s1)) p
 ·have e:i=xs.length:=by omega
  subst e
  exact .inl ⟨⟨xs,SqT.of s1,az _⟩,hd D σ' H' zs hDn p⟩
end
inductive Tr where
 | non
 | bl (b:Bool)
 | int (i:Int)
 | str (x:Str)
 | lst (ts:List Tr)
 | tup (ts:List Tr)
mutual
def TAt (H:Hp):Tr->V->Prop
 | .non,v=>v= .non
 | .bl b,v=>v= .bl b
 | .int i,v=>v= .int i
 | .str x,v=>v= .str x
 | .lst ts,v=>∃ a vs,v= .ref a/\H a=some (.lst vs)/\TsAt H ts vs
 | .tup ts,v=>∃ a vs,v= .ref a/\H a=some (.tup vs)/\TsAt H ts vs
def TsAt (H:Hp):List Tr->List V->Prop
 | [],vs=>vs=[]
 | t::ts,vs=>∃ v r,vs=v::r/\TAt H t v/\TsAt H ts r
end
mutual
def dep:Tr->Nat
 | .lst ts=>deps ts+1
 | .tup ts=>deps ts+1
 | _=>0
def deps:List Tr->Nat
 | []=>0
 | t::ts=>max (dep t) (deps ts)
end
mutual
def eqT:Tr->Tr->Bool
 | .non, .non=>true
 | .bl a, .bl b=>a==b
 | .bl a, .int b=>(if a then 1 else 0)==b
 | .int a, .bl b=>a==(if b then 1 else 0)
 | .int a, .int b=>a==b
 | .str a, .str b=>a==b
 | .lst a, .lst b=>eqTs a b
 | .tup a, .tup b=>eqTs a b
 | _,_=>false
def eqTs:List Tr->List Tr->Bool
 | [],[]=>true
 | a::as,b::bs=>eqT a b&&eqTs as bs
 | _,_=>false
end
mutual
theorem jLA:∀ t:Tr,eqT t t=true
 | .non=>by simp [eqT]
 | .bl b=>by simp [eqT]
 | .int i=>by simp [eqT]
 | .str x=>by simp [eqT]
 | .lst ts=>by rw[eqT]; exact jDF ts
 | .tup ts=>by rw[eqT]; exact jDF ts
theorem jDF:∀ ts:List Tr,eqTs ts ts=true
 | []=>by simp [eqTs]
 | t::ts=>by rw[eqTs,jLA t,jDF ts]; rfl
end
mutual
theorem TAt.ext {H H':Hp}(e:Ext H H'):∀ {t:Tr}{v:V},TAt H t v->TAt H' t v
 | .non,_,h=>h
 | .bl _,_,h=>h
 | .int _,_,h=>h
 | .str _,_,h=>h
 | .lst ts,_,⟨a,vs,q,h,r⟩=>⟨a,vs,q,e _ _ h,TsAt.ext e r⟩
 | .tup ts,_,⟨a,vs,q,h,r⟩=>⟨a,vs,q,e _ _ h,TsAt.ext e r⟩
theorem TsAt.ext {H H':Hp}(e:Ext H H'):∀ {ts:List Tr}{vs:List V},TsAt H ts vs->TsAt H' ts vs
 | [],_,h=>h
 | t::ts,_,⟨v,r,q,h,s⟩=>⟨v,r,q,TAt.ext e h,TsAt.ext e s⟩
end
mutual
theorem TAt.inj {H:Hp} :∀ {t u:Tr}{v:V},TAt H t v->TAt H u v->t=u
 | .non,u,_,h,h'=>by
  cases (show _=V.non from h)
  cases u with
  | non=>rfl
  | bl b=>cases (show V.non=_ from h')
  | int b=>cases (show V.non=_ from h')
  | str b=>cases (show V.non=_ from h')
  | lst ts=>obtain⟨_,_,q,_⟩:=h'; cases q
  | tup ts=>obtain⟨_,_,q,_⟩:=h'; cases q
 | .bl b,u,_,h,h'=>by
  cases (show _=V.bl b from h)
  cases u with
  | non=>cases (show V.bl b=_ from h')
  | bl b=>cases (show V.bl _=V.bl b from h'); rfl
  | int i=>cases (show V.bl b=V.int i from h')
  | str i=>cases (show V.bl b=V.str i from h')
  | lst ts=>obtain⟨_,_,q,_⟩:=h'; cases q
  | tup ts=>obtain⟨_,_,q,_⟩:=h'; cases q
 | .int b,u,_,h,h'=>by
  cases (show _=V.int b from h)
  cases u with
  | non=>cases (show V.int b=_ from h')
  | bl i=>cases (show V.int b=V.bl i from h')
  | int b=>cases (show V.int _=V.int b from h'); rfl
  | str i=>cases (show V.int b=V.str i from h')
  | lst ts=>obtain⟨_,_,q,_⟩:=h'; cases q
  | tup ts=>obtain⟨_,_,q,_⟩:=h'; cases q
 | .str b,u,_,h,h'=>by
  cases (show _=V.str b from h)
  cases u with
  | non=>cases (show V.str b=_ from h')
  | bl i=>cases (show V.str b=V.bl i from h')
  | int i=>cases (show V.str b=V.int i from h')
  | str b=>cases (show V.str _=V.str b from h'); rfl
  | lst ts=>obtain⟨_,_,q,_⟩:=h'; cases q
  | tup ts=>obtain⟨_,_,q,_⟩:=h'; cases q
 | .lst ts,u,_,⟨a,vs,q,h,r⟩,h'=>by
  subst q
  cases u with
  | non=>cases (show V.ref a=_ from h')
  | bl i=>cases (show V.ref a=V.bl i from h')
  | int i=>cases (show V.ref a=V.int i from h')
  | str i=>cases (show V.ref a=V.str i from h')
  | lst us=>
   obtain⟨a',vs',q',h2,r'⟩:=h'
   cases q'
   rw[h] at h2
   cases h2
   rw[TsAt.inj r r']
  | tup us=>
   obtain⟨a',vs',q',h2,r'⟩:=h'
   cases q'
   rw[h] at h2
   cases h2
 | .tup ts,u,_,⟨a,vs,q,h,r⟩,h'=>by
  subst q
  cases u with
  | non=>cases (show V.ref a=_ from h')
  | bl i=>cases (show V.ref a=V.bl i from h')
  | int i=>cases (show V.ref a=V.int i from h')
  | str i=>cases (show V.ref a=V.str i from h')
  | lst us=>
   obtain⟨a',vs',q',h2,r'⟩:=h'
   cases q'
   rw[h] at h2
   cases h2
  | tup us=>
   obtain⟨a',vs',q',h2,r'⟩:=h'
   cases q'
   rw[h] at h2
   cases h2
   rw[TsAt.inj r r']
theorem TsAt.inj {H:Hp} :∀ {ts us:List Tr}{vs:List V},TsAt H ts vs->TsAt H us vs->ts=us
 | [],us,_,h,h'=>by
  cases (show _=[] from h)
  cases us with
  | nil=>rfl
  | cons u us=>obtain⟨_,_,q,_⟩:=h'; cases q
 | t::ts,us,_,⟨v,r,q,h,s⟩,h'=>by
  subst q
  cases us with
  | nil=>cases (show v::r=[] from h')
  | cons u us=>
   obtain⟨v',r',q,h2,s2⟩:=h'
   cases q
   rw[TAt.inj h h2,TsAt.inj s s2]
end
section
variable {X:Cx}{pins:List (Addr×Obj)}{σ:St}{H:Hp}{s:Shared}
end
section
variable {X:Cx}{tg iter elt:Expr}{ifs:List Expr}{sc:Scope}{pos:Pos}{wi:TI}{g:TG}{tt:TT}{te:TE}{m:List (Option Nat)}{Nc:List Str}
end
section
variable {X:Cx}{sc:Scope}{cl:List (Str×Addr)}{C:Addr}{Nc:List Str}{fp:List Addr}{s:Shared}{H:Hp}{x:Str}
variable {sc2:Scope}{cl2:List (Str×Addr)}{C2:Addr}{Nc2:List Str}{fp2:List Addr}{s2:Shared}{H2:Hp}
end
section
variable {X:Cx}
def jKF:V->List V->Hp->VK->Prop:=fun x vs H Q=>∃ l b xs zs,x= .ref l/\vs=[.ref b]/\H l=some (.lst xs)/\H b=some (.tup zs)/\xs.length+zs.length<=sizeLine/\Q .non (upd H l (.lst (xs++zs)))
theorem jHL:MtM X "list.extend" jKF:=by
 intro pins s σ H x vs v us Q I rx rv h
 obtain⟨l,b,xs,zs,rfl,rfl,hH,hB,hz,q⟩:=h
 cases rx
 obtain⟨u,rfl,ru⟩:=rv.one
 cases ru
 obtain⟨z,its,n,r,hl,e⟩:=I.lstM hH
 obtain⟨_,its2,r2,n2,e2⟩:=I.hok b _ hB
 have hl2:=r2.length
 have hsz:its.toArray.size+its2.toArray.size<=sizeLine:=by rw[aF,aF]; omega
 have hlong:¬ (!its.toArray.isEmpty&&Builtin.List.listTooLong (its.toArray.size+its2.toArray.size))=true:=by
  rw[jE2 hsz,dM]
  exact ak
 refine dJ F.slot_list_extend ⟨_,e,rfl⟩ F.entry_list_extend (F.args_list_extend_2 _ _)
  (AutoSeq1.list_extend_list_tuple_0 l its.toArray n b its2.toArray n2 hlong (by rw[aF]; omega) (by omega)) ⟨e,e2,?_⟩
 refine⟨.non,_,I.lset (its':=its++its2) hH e (by simp) (r.append r2) ?_,rfl,q⟩
 rw[ar]
 omega
def jMT:V->List V->Hp->VK->Prop:=fun x vs H Q=>∃ p xs y,x= .ref p/\vs=[y]/\H p=some (.lst xs)/\yQ y=true/\xs.all yQ=true/\Q (.int ((xs.countP fun z=>eqV z y:Nat):Int)) H
theorem jEZ:MtM X "list.count" jMT:=by
 intro pins s σ H x vs v us Q I rx rv h
 obtain⟨p,xs,y,rfl,rfl,hp,fy,fs,q⟩:=h
 cases rx
 obtain⟨u,rfl,ru⟩:=rv.one
 obtain⟨z,its,n,r,hl,e0⟩:=I.lstM hp
 refine dJ F.slot_list_count ⟨_,e0,rfl⟩ F.entry_list_count (F.args_list_count_2 _ _) (SeqAt.list_countAt p its.toArray n none #[] u (eqU y)) ⟨e0,fun w hw=>jBQ ru fy r fs w (by simpa using hw),?_⟩
 refine⟨.int _,H,I.tok _,⟨s.toks,rfl⟩,?_⟩
 rw[show its.toArray.toList.countP (eqU y)=xs.countP (fun z=>eqV z y) from jDN r fs]
 exact q
theorem jAG:yP X (.builtin "sorted") (fun xs H Q=>∃ (p:Addr) (ks:List Int),xs=[.ref p]/\SqL X.K H p (ks.map V.int)/\ks.length<64/\
  ∀ (l:Addr) (ns:List Int),H l=none->ns.Pairwise (· <= ·)->ns.Perm ks->Q (.ref l) (upd H l (.lst (ns.map V.int)))):=by
 intro pins s σ H xs us Q I r h
 obtain⟨p,ks,rfl,hp,hn,q⟩:=h
 obtain⟨u,rfl,rx⟩:=r.one
 cases rx
 obtain⟨its,r',pl,hz⟩:=I.list hp
 have hlen:=r'.length
 rw[aa] at hlen
 refine sorted_ints pl.isList (jEI r') (by omega) fun out ns' a1 a2 a3=>?_
 obtain⟨e,he⟩:=sortedAll_at s.heap its out
 have hz:(ns'.map V.int).length<=sizeLine:=by
  rw[aa,a2.length_eq,gQ]
  omega
 have I2:Inv X pins σ (upd H (s.heap.objs.size+1) (.lst (ns'.map V.int))) { s with heap:=sortedAll s.heap its out} :=I.laid (t':=s.toks) (fun b o e=>sortedAll_old e) (gR _) ⟨hz,out.toList,e,jAR a1,by rw[gS]; exact he⟩
 exact⟨.ref _,_,I2,rfl,q _ ns' (I.hok.fresh (gR _)) a3 a2⟩
theorem jGY {c:Expr}{body:List Stmt}{tc:TT}{tb:TS}{pos:Pos}(hp:PassesOwn (model X.prog X.w) X.A X.env X.xe)(hc:JT X c tc)(hb:JSs X body tb):JS X (.While c body [] pos) (jLS tc tb):=⟨jKH hp hc.h hb.h⟩
theorem jLZ {op:CmpOp}{a b:Expr}{pos:Pos} :behindInMarks op (.Subscript a b pos)=false:=by cases op <;> rfl
end
section
variable {X:Cx}{sc:Scope}{cl:List (Str×Addr)}{C:Addr}{Nc:List Str}{fp:List Addr}{s:Shared}{H:Hp}
theorem jE7 {o e:Expr}{es:List Expr}{to:TE}{t:TA}{cpos apos:Pos}{id:String}{T:String}{name:Str}{r}(pa:PlainAttrs T)(slot:Slot T name id)(hty:typeOf (.builtin id)=pure (.type "method_descriptor"))(hm:MtR (blk X sc cl C Nc fp s H) id r)(ho:JE (blk X sc cl C Nc fp s H) o to)(ha:JA (blk X sc cl C Nc fp s H) (e::es) t)
  (hs:starEach (e::es) (blk X sc cl C Nc fp s H).env=(false,eval e (blk X sc cl C Nc fp s H).env)::starEach es (blk X sc cl C Nc fp s H).env)
  (hbase:attributeBase o name (blk X sc cl C Nc fp s H).env (eval o (blk X sc cl C Nc fp s H).env)=eval o (blk X sc cl C Nc fp s H).env:=by rfl)
  (hfew:((backTo cpos (starEach (e::es) (blk X sc cl C Nc fp s H).env)).all (fun x=>!x.1)&&(backToKw cpos (keywordEach [] (blk X sc cl C Nc fp s H).env)).all (fun x=>x.1.isSome)
   &&decide ((e::es).length+([]:List Keyword).length+(if ([]:List Keyword).isEmpty then 0 else 1)<30))=true:=by rfl)
  (hline:(apos.endLine==cpos.line)=true:=by rfl) (hplain:(backTo cpos (starEach es (blk X sc cl C Nc fp s H).env)).any (·.1)=false:=by rfl):
  JE (blk X sc cl C Nc fp s H) (.Call (.Attribute o name apos) (e::es) [] cpos) (tBM X.K T r to t):=je_bm pa slot hty hm ho ha hs hbase hfew hline hplain
end
end L2
end
section
namespace L2
open PySem
def LstR (H:Hp)(xs:List V)(Q:VK):Prop:=∀ r H',H' r=some (.lst xs)->Ext H H'->H r=none->Q (.ref r) H'
theorem LstR.new {H:Hp}{xs:List V}{Q:VK}(q:LstR H xs Q){p:Addr}(hp:H p=none):Q (.ref p) (upd H p (.lst xs)):=q p _ j8 ((Ext.refl H).new hp _) hp
def tTupU (t:TA):TE:=fun σ H Q=>t σ H fun xs H1=>xs.length<=sizeLine/\TupR H1 xs Q
def tLstU (t:TA):TE:=fun σ H Q=>t σ H fun xs H1=>xs.length<=sizeLine/\LstR H1 xs Q
section
variable {X:Cx}{es:List Expr}{t:TA}{pos:Pos}
theorem yD {x1}(h:JA X es t):JE X (.Tuple es x1 pos) (tTupU t):=⟨fun pins s σ H Q I hq=>by
 refine wpAny_Tuple_spliced (thn (h.h pos pins s σ H _ I hq) fun us s1 ⟨xs,H1,I1,r,z,q⟩=>⟨by rw[<- r.length]; exact z,?_⟩)
 have hf:H1 s1.heap.objs.size=none:=I1.hok.fresh (az _)
 exact⟨.ref s1.heap.objs.size,upd H1 s1.heap.objs.size (.tup xs),I1.laid (t':=s1.toks) (fun b u e=>am _ e) (az _) ⟨z,us,r,TupO.new _ _⟩,rfl,q.new hf⟩⟩
theorem kL (h:JA X es t):JE X (.List es pos) (tLstU t):=⟨fun pins s σ H Q I hq=>by
 refine wpAny_List_spliced (thn (h.h pos pins s σ H _ I hq) fun us s1 ⟨xs,H1,I1,r,z,q⟩=>⟨by rw[<- r.length]; exact z,?_⟩)
 have hf:H1 s1.heap.objs.size=none:=I1.hok.fresh (az _)
 exact⟨.ref s1.heap.objs.size,upd H1 s1.heap.objs.size (.lst xs),I1.laid (t':=s1.toks) (fun b u e=>am _ e) (az _) ⟨z,us,0,r,aQ _ rfl⟩,rfl,q.new hf⟩⟩
theorem jGS:OpR X (binaryOp .Add) (fun x y H Q=>∃ l b xs zs,x= .ref l/\y= .ref b/\H l=some (.lst xs)/\H b=some (.lst zs)/\xs.length+zs.length<=sizeLine/\LstR H (xs++zs) Q):=by
 intro pins s σ H x y v u Q I rx ry h
 obtain⟨l,b,xs,zs,rfl,rfl,h1,h2,h3,q⟩:=h
 exact jPD pins s σ H _ _ v u Q I rx ry ⟨l,b,xs,zs,rfl,rfl,h1,h2,h3,fun p hp=>q.new hp⟩
end
end L2
end
section
namespace L2
open PySem PySem.Spec PyProof.Rows
section
variable {X:Cx}
theorem jPV {o i:Expr}{pos:Pos}{to ti:TE}{t:TSet}(ho:JE X o to)(hi:JE X i ti)(hs:PSet X t)
  (ha:∀ v,assign (.Subscript o i pos) X.env v=(do
   let ov <- holding [v] (eval o X.env)
   let iv <- holding [v,ov] (eval i X.env)
   standAt pos
   holding [v,ov,iv] (setItem ov iv v)
   release [v,ov,iv] []):=by intro _; rfl):JG X (.Subscript o i pos) (gSub to ti t):=⟨jLW ho.h hi.h hs ha⟩
end
theorem jD4 (ns:List Int):∀ j,preSum (fun i=>ns.getD i 0) j=(ns.take j).sum
 | 0=>rfl
 | j+1=>by
  rw[preSum,jD4 ns j,bo,gI]
  congr 1
  rw[aB]
  cases ns[j]? with
  | none=>rfl
  | some z=>simp
section
variable {X:Cx}
def rSum (K:W.Frag):List V->Hp->VK->Prop:=fun xs H Q=>∃ (p:Addr) (ns:List Int),xs=[.ref p]/\(SqL K H p (ns.map V.int))/\Q (.int ns.sum) H
theorem jFB (hc:X.calm=true):yP X (.builtin "sum") (rSum X.K):=by
 intro pins s σ H xs us Q I r h
 obtain⟨p,ns,rfl,hq,q⟩:=h
 obtain⟨u,rfl,rx⟩:=r.one
 cases rx
 obtain⟨its,r',pl,hz⟩:=I.list hq
 have hlen:=r'.length
 rw[aa] at hlen
 refine call_sum_walkG (dE pl.isList ?_)
 have hne:p≠s.heap.objs.size:=by
  obtain⟨o,ho,_⟩:=pl.isList
  exact bu (aL ho)
 refine⟨s.heap.objs.size,_,_,_,_,_,fun i=>ns.getD i 0,rfl,Walks.list (by simpa using I.ok.hd hc) _ p hne its.toArray,⟨⟨_,aQ _ rfl,rfl,rfl⟩,pl.isList.push _⟩,(fun b hb=>?_),(fun i v hP=>?_),fun h' tk t' hk=>?_⟩
 ·show b<(s.heap.push _).objs.size
  rw[fr]
  obtain⟨o,ho,_⟩:=pl.isList
  have:=aL ho
  rcases aR.mp hb with rfl | hb
  ·exact Nat.lt_succ_self _
  ·rcases aR.mp hb with rfl | hb
   ·exact fJ this
   ·cases hb
 ·have hi:its[i]?=some v:=by simpa using hP
  have hb:i<ns.length:=by
   rw[hlen]
   exact(ae.mp hi).1
  obtain⟨u,hu,ru⟩:=r'.get (i:=i) (x:= .int (ns[i])) (by simp [hb])
  rw[hi] at hu
  cases hu
  obtain⟨t,rfl⟩:=ru
  exact⟨t,by simp [List.getD,hb]⟩
 ·have e:preSum (fun i=>ns.getD i 0) its.toArray.size=ns.sum:=by
   rw[jD4,aF,<- hlen,bI]
  rw[e]
  exact⟨.int _,H,I.kept (t':=tk) fun b o e=>hk b o (by
   intro z
   have z:b=s.heap.objs.size:=by simpa using z
   exact absurd (aL e) (by rw[z]; exact cU _)) (am _ e),⟨_,rfl⟩,q⟩
variable {sc:Scope}{cl:List (Str×Addr)}{C:Addr}{Nc:List Str}{fp:List Addr}{s:Shared}{H:Hp}
end
theorem jC9 (a b:Nat):Builtin.bitAnd (a:Int) (b:Int)=((a&&&b:Nat):Int):=by
 unfold Builtin.bitAnd
 rw[aG (fm a),aG (fm b)]
 rfl
theorem jAE (a b:Nat):Builtin.bitOr (a:Int) (b:Int)=((a|||b:Nat):Int):=by
 unfold Builtin.bitOr
 have ha:Builtin.bitNot (a:Int)= -(a:Int) - 1:=by unfold Builtin.bitNot; omega
 have hb:Builtin.bitNot (b:Int)= -(b:Int) - 1:=by unfold Builtin.bitNot; omega
 have na:¬ (0<=Builtin.bitNot (a:Int)):=by rw[ha]; omega
 have nb:¬ (0<=Builtin.bitNot (b:Int)):=by rw[hb]; omega
 unfold Builtin.bitAnd
 rw[aM na,aM nb]
 have ea:Builtin.bitNot (Builtin.bitNot (a:Int))=(a:Int):=by rw[ha]; unfold Builtin.bitNot; omega
 have eb:Builtin.bitNot (Builtin.bitNot (b:Int))=(b:Int):=by rw[hb]; unfold Builtin.bitNot; omega
 show Builtin.bitNot (Builtin.bitNot _)=_
 rw[ea,eb]
 unfold Builtin.bitNot
 simp
 omega
def maskN (ts:List Int):Nat:=(ts.map fun t=>2 ^ t.toNat).sum
theorem jGW:∀ (ts:List Int) (lo:Nat),ts.Pairwise (· < ·)->(∀ t∈ts,(lo:Int)<=t)->maskN ts % 2 ^ lo=0
 | [],_,_,_=>by simp [maskN]
 | t::r,lo,hp,hl=>by
  have ih:=jGW r lo (dz.mp hp).2 fun x hx=>hl x (aq _ hx)
  have h0:=hl t (aH ..)
  have e:maskN (t::r)=2 ^ t.toNat+maskN r:=by simp [maskN]
  have d:2 ^ t.toNat % 2 ^ lo=0:=Nat.mod_eq_zero_of_dvd (Nat.pow_dvd_pow 2 (by omega))
  rw[e,Nat.add_mod,ih,d]
  simp
theorem jAD:∀ (ts:List Int) (n:Nat),ts.Pairwise (· < ·)->(∀ t∈ts,0<=t)->(maskN ts).testBit n=decide ((n:Int)∈ts)
 | [],n,_,_=>by simp [maskN]
 | t::r,n,hp,h0=>by
  obtain⟨h1,h2⟩:=dz.mp hp
  have ih:=jAD r n h2 fun x hx=>h0 x (aq _ hx)
  have ht:=h0 t (aH ..)
  obtain⟨k,rfl⟩:∃ k:Nat,t=(k:Int):=⟨t.toNat,by omega⟩
  have e:maskN ((k:Int)::r)=2 ^ k+maskN r:=by simp [maskN]
  have m0:maskN r % 2 ^ (k+1)=0:=jGW r (k+1) h2 fun x hx=>by have:=h1 x hx; omega
  obtain⟨c,hc⟩:∃ c,maskN r=2 ^ (k+1)*c:=(Nat.dvd_of_mod_eq_zero m0)
  have hor:2 ^ k+maskN r=maskN r|||2 ^ k:=by
   rw[hc,Nat.mul_comm,<- Nat.shiftLeft_eq,Nat.shiftLeft_add_eq_or_of_lt (b:=2 ^ k) (i:=k+1) (gU (by decide) (by omega)) c |>.symm,ic]
  rw[e,hor,bC,ih,ck]
  by_cases hk:k=n
  ·subst hk
   simp
  ·have:¬ ((n:Int)=(k:Int)):=by omega
   simp [hk,this]
end L2
end
section
namespace L2
open PySem
section
variable {X:Cx}{tg iter elt:Expr}{ifs:List Expr}{sc:Scope}{pos:Pos}{wi:TI}{g:TG}{tt:TT}{te:TE}{m:List (Option Nat)}{Nc:List Str}
theorem jLF (hc:X.calm=true)(hi:PI X tg iter wi)(hkind:sc.kind= .function)(hcell:∀ y∈sc.names,y.2≠ .cell)(hnames:∀ y∈sc.names,y.2= .local->sc.names.lookup y.1=some .local)
  (hfree:∀ y∈sc.names,y.2= .free->X.env.scope.names.lookup y.1=some .cell\/X.env.scope.names.lookup y.1=some .free) (hm:jCH X sc Nc m)
  (hg:∀ cl C fp s H,PG (blk X sc cl C Nc fp s H) tg g) (ht:∀ cl C fp s H,PTs (blk X sc cl C Nc fp s H) ifs tt) (he:∀ cl C fp s H,PE (blk X sc cl C Nc fp s H) elt te)
  (hs:∀ x,foldedSetIterable iter X.env x=pure x) {fpos:Pos}{use:Option (Value->Sem Unit)}{R:Value->Shared->Prop}{pins:List (Addr×Obj)}{s:Shared}{σ:St}{H:Hp}{Q:VK}(I:Inv X pins σ H s) (h:tComp m wi g tt te σ H Q)
  (fin:∀ (D C:Addr) (H5:Hp) (z1:Shared) (r:Flow),(∃ mm,z1.heap.Ns C mm)->FpOk X pins H5 C->(∀ h',Heap.SameBut C z1.heap h'->Inv X pins σ H5 { z1 with heap:=h'})->Q (.ref D) H5->compPost (model X.prog X.w) X.A X.xe use R (.ref D) C (.ok r) z1):
  wpAny (model X.prog X.w) X.A (comprehension (.ListComp elt [⟨tg,iter,ifs,0⟩] sc pos) sc X.env fpos (newList []) false (eval iter X.env) use) R X.xe s:=
 jH8 (tf:=fun _=>te) hc hi hkind hcell hnames hfree hm hg ht (fun cl C fp s H _ _ _ _=>he cl C fp s H) hs I h fin
theorem jMY {i:Nat}{x:Str}{pos' spos:Pos}(hN:X.N.Nodup)(hi':X.N[i]?=some x)(hx:Loc X.env.scope x)(hf:X.fn x=true\/X.env.scope.names.lookup x=some .local)(hsw:swapsWith (.ListComp elt [⟨tg,iter,ifs,0⟩] sc pos) (some (.Name x pos')) spos.line X.env=pure true)
  (hc:X.calm=true) (hi:PI X tg iter wi) (hkind:sc.kind= .function) (hcell:∀ y∈sc.names,y.2≠ .cell) (hnames:∀ y∈sc.names,y.2= .local->sc.names.lookup y.1=some .local)
  (hfree:∀ y∈sc.names,y.2= .free->X.env.scope.names.lookup y.1=some .cell\/X.env.scope.names.lookup y.1=some .free) (hm:jCH X sc Nc m)
  (hg:∀ cl C fp s H,PG (blk X sc cl C Nc fp s H) tg g) (ht:∀ cl C fp s H,PTs (blk X sc cl C Nc fp s H) ifs tt) (he:∀ cl C fp s H,PE (blk X sc cl C Nc fp s H) elt te)
  (hs:∀ x,foldedSetIterable iter X.env x=pure x):PS X (.Assign [.Name x pos'] (.ListComp elt [⟨tg,iter,ifs,0⟩] sc pos) spos) (tAsg (tComp m wi g tt te) (kO i)):=by
 intro pins s σ H D I h
 rw[exec_Assign_Name_used _ _ _ _ hsw]
 refine ah (eS (ah ?_))
 show wpAny _ _ (do let _ <- comprehension (.ListComp elt [⟨tg,iter,ifs,0⟩] sc pos) sc X.env _ (newList []) false (eval iter X.env) (some (assign (.Name x pos') X.env))) _ _ _
 refine ah (b0 (jLF (R:=fun _ s'=>SP X pins D .next s') hc hi hkind hcell hnames hfree hm hg ht he hs ⟨I.ok,I.os,I.bare,I.base,I.loc,I.cell,I.free,I.freeC,I.pin,I.hok,I.len⟩ h ?_) (fun _ s' hq=>aV (aV hq)) fun _ _ e=>e)
 intro D' C H5 z1 r ⟨mm,hn⟩ fC sb q
 have I1:=sb _ (Heap.SameBut.refl C z1.heap)
 refine wpAny_assign_Name (jEL (v:= .ref D') I1 hN hi' hx rfl (fun s2 I2 ⟨a,sa,ha⟩=>?_) hf)
 obtain⟨f0,f1,f2,f3,f4,f5⟩:=fC
 have hCa:C≠a:=by
  rcases ha with rfl | ha
  ·exact f1
  ·exact(f4 _ _ ha).symm
 refine⟨mm,hn.sameBut sa hCa,fun h' sb2=>⟨_,H5,?_,q⟩⟩
 refine I2.call' (s':= { s2 with heap:=h'}) (ch:=[C]) rfl ?_ (I2.hok.sameBut sb2 f0) I2.bare (fun b hb=>?_)
 ·have ne:∀ {b:Addr},b∉ [C]->b≠C:=fun h e=>h (by rw[e]; exact ay.mpr rfl)
  refine⟨fun b o e n hf hx=>(sb2.2 b (ne hx)).trans e,fun b o e n hf hx=>⟨o.slots,(sb2.2 b (ne hx)).trans e⟩,fun b o e n hx=>n,fun b o e hx=>⟨o,(sb2.2 b (ne hx)).trans e⟩,fun b xs e=>e,fun b o u e=>e,fun b ps e=>⟨#[],by rw[Array.append_empty]; exact e⟩⟩
 ·cases ay.mp hb
  exact⟨f3,f1,f4,f5⟩
end
section
variable {X:Cx}
structure SwC (e:Expr)(x:Str)(pos' spos:Pos)(X:Cx):Prop where
 h:swapsWith e (some (.Name x pos')) spos.line X.env=pure true
theorem jNX {i:Nat}{x:Str}{pos' spos pos:Pos}{tg iter elt:Expr}{ifs:List Expr}{sc:Scope}{wi:TI}{g:TG}{tt:TT}{te:TE}{m:List (Option Nat)}{Nc:List Str}(hN:X.N.Nodup)(hi':X.N[i]?=some x)(hx:Loc1 X x)(hsw:SwC (.ListComp elt [⟨tg,iter,ifs,0⟩] sc pos) x pos' spos X)
  (hc:X.calm=true) (hi:JI X tg iter wi) (hkind:sc.kind= .function) (hcell:∀ y∈sc.names,y.2≠ .cell) (hnames:∀ y∈sc.names,y.2= .local->sc.names.lookup y.1=some .local)
  (hfree:∀ y∈sc.names,y.2= .free->X.env.scope.names.lookup y.1=some .cell\/X.env.scope.names.lookup y.1=some .free) (hm:jCH X sc Nc m)
  (hg:∀ cl C fp s H,JG (blk X sc cl C Nc fp s H) tg g) (ht:∀ cl C fp s H,JTs (blk X sc cl C Nc fp s H) ifs tt) (he:∀ cl C fp s H,JE (blk X sc cl C Nc fp s H) elt te)
  (hs:FoOk iter):JS X (.Assign [.Name x pos'] (.ListComp elt [⟨tg,iter,ifs,0⟩] sc pos) spos) (tAsg (tComp m wi g tt te) (kO i)):=
 ⟨jMY hN hi' hx.a hx.b hsw.h hc hi.h hkind hcell hnames hfree hm (fun cl C fp s H=>(hg cl C fp s H).h) (fun cl C fp s H=>(ht cl C fp s H).h) (fun cl C fp s H=>(he cl C fp s H).h) (hs.h _)⟩
end
end L2
end
section
namespace L2
open PySem PySem.Spec PyProof.Rows
section
variable {prog:Program}{w:World}{A:Around}{E:Value->Shared->Prop}
theorem jH6 {it l:Addr}{xs:Array Value}(ne:l≠it):∀ (n i:Nat) (s:Shared) (Q:List Value->Shared->Prop),s.heap.IsListIter it l i->s.heap.IsList l xs->i+n<=xs.size->
  (∀ h',h'.IsListIter it l (i+n)->Heap.SameBut it s.heap h'->Q ((xs.toList.drop i).take n) { s with heap:=h'})->wpAny (model prog w) A (draw (.ref it) n) Q E s
 | 0,i,s,Q,g,_,_,k=>by
  refine(?_:wpAny _ _ (pure []) Q E s)
  exact aV (by simpa using k s.heap g (Heap.SameBut.refl ..))
 | n+1,i,s,Q,g,o,le,k=>by
  have lt:i<xs.size:=by omega
  refine(?_:wpAny _ _ (pyNext (.ref it) >>= _) Q E s)
  refine ah (wpAny_pyNext_list_item g o (x:=xs[i]) (by simp [lt]) fun p1 g1 q1=>?_)
  refine ah (cJ (jH6 ne n (i+1) _ _ g1 (o.extBut q1.extBut ne) (by omega) fun p2 g2 q2=>aV ?_))
  have hd:xs.toList.drop i=xs[i]::xs.toList.drop (i+1):=by simp [fD,lt]
  have:=k p2 (by rw[show i+(n+1)=i+1+n by omega]; exact g2) (q1.trans q2)
  rw[hd,List.take_succ_cons] at this
  exact this
theorem jCX {s:Shared}{l:Addr}{xs:Array Value}{Q:List Value->Shared->Prop}(hh:A.handled=none)(o:s.heap.IsList l xs)
  (k:∀ h',Heap.ExtBut s.heap.objs.size s.heap h'->Q xs.toList { s with heap:=h'}):wpAny (model prog w) A (unpackItems (.ref l) xs.size none) Q E s:=by
 have ne:l≠s.heap.objs.size:=by obtain⟨u,hu,_⟩:=o; exact bu (aL hu)
 unfold unpackItems
 refine ah (by
  unfold notIterableAtAll
  refine ah (wpAny_specialOf o.typeIs slot_list_iter.lookup (aV ?_))
  simp only [hG,iq]
  refine ah (cJ (dE o ?_))
  refine ah (cJ (jH6 ne xs.size 0 _ _ ⟨_,aQ _ rfl,rfl,rfl⟩ (o.push _) (by omega) fun p1 g1 q1=>?_))
  have hall:List.take xs.size (List.drop 0 xs.toList)=xs.toList:=by rw[eG]; exact bG (by simp)
  rw[hall,af (by simp)]
  have o1:p1.IsList l xs:=(o.push _).extBut q1.extBut ne
  refine ah (cJ (wpAny_pyNext_list_end hh g1 o1 (by simp) fun p2 e2=>?_))
  simp only [Option.isSome_none,hG,iq]
  exact aV (k p2 fun b u hb e=>e2 b u hb (q1.extBut b u hb (am _ e))))
end
section
variable {X:Cx}
def gLst (K:W.Frag)(n:Nat)(t:TGs):TG:=fun v σ H Q=>∃ a xs,v= .ref a/\SqL K H a xs/\xs.length=n/\t xs σ H Q
theorem jP7 {es:List Expr}{k:Nat}{t:TGs}{n:Nat}{pos:Pos}(hc:X.calm=true)(h:PGs X es t)
  (hn:(assignEach es X.env).length=n:=by rfl) (hst:(assignEach es X.env).findIdx? (·.1)=none:=by rfl):PG X (.Tuple es k pos) (gLst X.K n t):=by
 intro pins s σ H v u Q I r hw
 obtain⟨a,xs,e1,hq,hl,hw⟩:=hw
 subst e1
 cases r
 obtain⟨its,rv,ht,hz⟩:=I.list hq
 rw[assign_Tuple]
 refine ah (eS ?_)
 unfold unpack
 rw[hn,hst,show n=its.toArray.size by rw[aF,<- rv.length,hl]]
 refine ah (cJ (jCX (I.ok.hd hc) ht.isList fun h' hx=>?_))
 have I1:Inv X pins σ H { s with heap:=h'} :=I.kept (t':=s.toks) fun b o e=>hx b o (bu (aL e)) e
 exact h pins _ σ H xs _ Q I1 (by simpa using rv) hw
end
theorem jJA {P:Program}{w:World}{K:W.Frag}{mg:Str->Option Value}{base:Heap}{N:List Str}{qual:Str}{sc:Scope}{f:Addr}{cdv:Value}{A:Around}{outer:List Env}{s:Shared}{H:Hp}{E:XK}{x y:Str}{p1 p2 pos:Pos}{k i j:Nat}(hN:N.Nodup)(hi:N[i]?=some x)(hj:N[j]?=some y)(hx:sc.names.lookup x=some .local)(hy:sc.names.lookup y=some .local):
  JG (cxOf CX0 P w K mg base N qual sc f cdv A outer s H E).nox (.Tuple [.Name x p1, .Name y p2] k pos) (gLst K 2 (gCons (kO i) (gCons (kO j) gNil))):=
 ⟨jP7 (X:=(cxOf CX0 P w K mg base N qual sc f cdv A outer s H E).nox) rfl (jB1 (jG hN hi (loc_l hx)) (jB1 (jG hN hj (loc_l hy)) jFZ jCA) jCA).h⟩
section
variable {prog:Program}{w:World}{A:Around}{E:Value->Shared->Prop}{s:Shared}
end
end L2
namespace L2
open PySem PySem.Spec PyProof.Rows
section
variable {X:Cx}{x:Str}{C:Addr}{W:Hp->Prop}{e:Expr}{t:TA}{np cpos pos:Pos}
end
end L2
namespace L2
open PySem PySem.Spec PyProof.Rows
end L2
namespace L2
open PySem PySem.Spec PyProof.Rows
section
variable {M:Model}{A:Around}{E:Value->Shared->Prop}{h:Heap}{g:Array GenState}{d:Drawn}{tk:Nat}{os:OsState}
end
end L2
namespace L2
open PySem PySem.Spec PyProof.Rows
end L2
namespace L2
open PySem PySem.Spec PyProof.Rows
section
variable {X:Cx}{pins:List (Addr×Obj)}{σ:List (Option V)}{H H':Hp}{s:Shared}{h':Heap}
end
end L2
namespace L2
open PySem PySem.Spec PyProof.Rows
section
variable {X:Cx}{pins:List (Addr×Obj)}{σ:St}{H H':Hp}{s:Shared}{h2:Heap}{x C T T':Addr}
end
section
variable {X:Cx}{pins:List (Addr×Obj)}{σ:St}{H:Hp}{s:Shared}{x:Addr}
end
section
variable {M:Model}{A:Around}{E:Value->Shared->Prop}{s:Shared}{x C T:Addr}{Q:Unit->Shared->Prop}
end
section
variable {X:Cx}{y n g c:Str}{i j k:Nat}{f B C:Addr}{fd:FuncData}{ps:List Str}{sp:Sp}{e r:Expr}{es:List Expr}{t:TA}{te:Addr->TE}{yp gp cp ap np rp hp tp:Pos}
end
section
variable {prog:Program}{w:World}{A:Around}{E:Value->Shared->Prop}{s:Shared}
end
section
variable {X:Cx}{tg:Expr}
end
section
variable {X:Cx}{tg iter elt:Expr}{ifs:List Expr}{sc:Scope}{pos:Pos}{wi:TI}{g:TG}{tt:TT}{te:TE}{m:List (Option Nat)}{Nc:List Str}
end
section
variable {X:Cx}{k:Nat}{f a:Addr}{fd:FuncData}{ps:List Str}{sp:Addr->Sp}{x:Str}{p pos:Pos}{e:Expr}{es:List Expr}{t:TA}
end
section
variable {CX:CXT}{P:Program}{w:World}{K:W.Frag}{mg:Str->Option Value}{base:Heap}{N:List Str}{qual:Str}{sc:Scope}{f:Addr}{cdv:Value}{A:Around}{outer:List Env}{s:Shared}{H:Hp}{E:XK}{x:Str}
end
section
variable {X:Cx}{e:Expr}{es:List Expr}{t:TA}{a:Addr}{p pos:Pos}
end
section
variable {X:Cx}{y n g c:Str}{i j k:Nat}{f B C:Addr}{fd:FuncData}{ps:List Str}{sp:Sp}{e:Expr}{es:List Expr}{t:TA}{te t1:TEX}{yp gp cp ap np rp hp tp pos:Pos}
end
def ncP (q:Str)(c:Addr):Heap->Prop:=fun h=>h.CodeRec (.ref c) q
noncomputable abbrev onePs (pos:Pos)(c:Addr):Array Value:=#[rawInt pos.line,rawInt pos.col, .ref c]
def TabOk (H:Hp)(T:Addr)(pos:Pos)(q:Str):Prop:=H T=some (.tbl #[])\/∃ c,H T=some (.tbl (onePs pos c))/\H c=some (.ext (ncP q c))
def ExtT (T:Addr)(H H':Hp):Prop:=∀ b o,H b=some o->b≠T->H' b=some o
def BltAt (base:Heap)(mg:Str->Option Value):Prop:=∃ bm o,mg "__builtins__" =some (.ref bm)/\bm≠builtinsNs/\bm≠mainGlobals/\base.get? bm=some o/\o.cls= .type "module" /\o.dict=some builtinsNs/\o.data= .plain
theorem ncP.stay {q:Str}{c:Addr}(h1 h2:Heap)(p:ncP q c h1)(k:∀ o,h1.get? c=some o->h2.get? c=some o):ncP q c h2:=by
 obtain⟨c',o,vs,t,e,g,r⟩:=p
 cases e
 exact⟨c,o,vs,t,rfl,k _ g,r⟩
theorem ncP.is {q:Str}{c:Addr}{h:Heap}(p:ncP q c h):∃ o,h.get? c=some o:=by
 obtain⟨c',o,vs,t,e,g,r⟩:=p
 cases e
 exact⟨o,g⟩
section
variable {X:Cx}{pins:List (Addr×Obj)}{σ:St}{H:Hp}{s:Shared}
theorem Inv.laidX {h':Heap}{t':Nat}{φ:Heap->Prop}{a:Addr}(I:Inv X pins σ H s)(k:∀ b u,s.heap.get? b=some u->h'.get? b=some u)(hp:s.heap.objs.size<=a)(p:φ h')(ho:∃ o,h'.get? a=some o)(st:∀ h1 h2:Heap,φ h1->(∀ o,h1.get? a=some o->h2.get? a=some o)->φ h2):Inv X pins σ (upd H a (.ext φ)) { s with heap:=h',toks:=t'} :=
 I.laid k hp ⟨p,ho,st⟩
theorem Inv.grown {h':Heap}{t':Nat}{T c:Addr}{ps more:Array Value}{φ:Heap->Prop}(I:Inv X pins σ H s)(hT:H T=some (.tbl ps))(k:Heap.ExtBut T s.heap h')(e:h'.get? T=some { cls:= .none,data:= .fields (ps++more)})
  (hc:s.heap.objs.size<=c) (p:φ h') (ho:∃ o,h'.get? c=some o) (st:∀ h1 h2:Heap,φ h1->(∀ o,h1.get? c=some o->h2.get? c=some o)->φ h2):Inv X pins σ (upd (upd H T (.tbl (ps++more))) c (.ext φ)) { s with heap:=h',toks:=t'} :=by
 have hcn:H c=none:=I.hok.fresh hc
 have nT:∀ {b:Addr},H b=none->b≠T:=fun n z=>by rw[z,hT] at n; cases n
 have cT:T≠c:=fun z=>by rw[z,hcn] at hT; cases hT
 have nc:∀ {b:Addr}{o:Obj},s.heap.get? b=some o->b≠c:=fun q z=>absurd (aL q) (by rw[z]; exact Nat.not_lt.mpr hc)
 have mc:∀ {b:Addr}{o:HO},H b=some o->b≠c:=fun q=>jD q hcn
 refine I.un ⟨fun b o q n _ _=>k b o (nT n) q,fun b o q n _ _=>⟨o.slots,k b o (nT n) q⟩,fun b o q n _=>by rw[jA (nc q),jA (nT n)]; exact n,fun b o q _=>?_,fun b xs q=>?_,fun b o u q=>?_,fun b qs q=>?_⟩ fun b o q=>?_
 ·by_cases hb:b=T
  ·rw[hb]; exact⟨_,e⟩
  ·exact⟨o,k b o hb q⟩
 ·rw[jA (mc q),jA (fun z=>by rw[z,hT] at q; cases q)]; exact q
 ·rw[jA (mc q),jA (fun z=>by rw[z,hT] at q; cases q)]; exact q
 ·by_cases hb:b=T
  ·subst hb
   rw[hT] at q
   cases q
   exact⟨more,by rw[jA cT,j8]⟩
  ·exact⟨#[],by rw[jA (mc q),jA hb,q]; simp⟩
 ·by_cases hb1:b=c
  ·subst hb1
   rw[j8] at q
   cases q
   exact⟨p,ho,st⟩
  rw[jA hb1] at q
  by_cases hb:b=T
  ·subst hb
   rw[j8] at q
   cases q
   exact e
  ·rw[jA hb] at q
   refine(I.hok b o q).stay (fun d u hd z=>k d u ?_ z) (fun d z=>?_) fun d xs z=>?_
   ·rcases hd with rfl | hd
    ·exact hb
    ·exact fun y=>by rw[y,hT] at hd; cases hd
   ·rw[jA (mc z),jA (fun y=>by rw[y,hT] at z; cases z)]; exact z
   ·rw[jA (mc z),jA (fun y=>by rw[y,hT] at z; cases z)]; exact z
end
theorem jF1 {β:Type}{x:Str} :∀ {l:List (Str×β)},(∀ v,(x,v)∉l)->l.lookup x=none
 | [],_=>rfl
 | (y,v)::r,h=>by
  rw[bw,cD.mpr (fun e=>h v (by rw[e]; exact aH))]
  exact jF1 fun w hw=>h w (aq _ hw)
theorem jC3 {β:Type}{x:Str} :∀ {l m:List (Str×β)},(l++m).lookup x=(l.lookup x).or (m.lookup x)
 | [],_=>rfl
 | (y,v)::r,m=>by
  rw[List.cons_append,bw,bw,jC3]
  cases x==y <;> rfl
theorem jDJ:∀ {ps:List Str}{us:List Value}{i:Nat}{x:Str}{u:Value},ps.Nodup->ps[i]?=some x->us[i]?=some u->(ps.zip us).reverse.lookup x=some u
 | [],_,_,_,_,_,h,_=>by simp at h
 | _::_,[],_,_,_,_,_,h=>by simp at h
 | p::ps,w::us,0,x,u,nd,h1,h2=>by
  simp at h1 h2
  subst h1 h2
  rw[hV,List.reverse_cons,jC3,jF1 fun v hv=>(cr.mp nd).1 (dC (List.mem_reverse.mp hv)).1,bw,beq_self_eq_true]
  rfl
 | p::ps,w::us,i+1,x,u,nd,h1,h2=>by
  rw[hV,List.reverse_cons,jC3,jDJ (i:=i) (cr.mp nd).2 (by simpa using h1) (by simpa using h2)]
  rfl
noncomputable def cxN (P:Program)(w:World)(K:W.Frag)(mg:Str->Option Value)(base:Heap)(N:List Str)(qual:Str)(scope:Scope)(f:Addr)(cd:Value)(cl:List (Str×Addr))(A:Around)(outer:List Env)(s:Shared)(H:Hp):Cx where
 prog:=P
 w:=w
 K:=K
 mg:=mg
 base:=base
 A:=A.deeper (envX qual scope s.heap.objs.size f cd cl)
 N:=N
 s₀:=s
 H₀:=H
 env:=envX qual scope s.heap.objs.size f cd cl
 outer:=outer
 stack:=envX qual scope s.heap.objs.size f cd cl::outer
 ex:=[]
 calm:=true
 fn:=fun _=>false
 pn:=[]
 xe:=fun _ _=>False
structure ClOk (cl:List (Str×Addr))(s:Shared)(H:Hp):Prop where
 inj:∀ x y c,cl.lookup x=some c->cl.lookup y=some c->x=y
 cell:∀ x c,cl.lookup x=some c->(∃ v,s.heap.IsCell c v)/\H c=none
def FvOk (fs:List Str)(fv:List V)(cl:List (Str×Addr))(s:Shared):Prop:=fv.length=fs.length/\∀ (i:Nat) (x:Str) (v:V),fs[i]?=some x->fv[i]?=some v->∃ c u,cl.lookup x=some c/\RelV v u/\s.heap.IsCell c (some u)
structure NScope (N ps fs:List Str)(sc:Scope):Prop where
 kind:sc.kind= .function
 co:sc.isCoroutine=false
 gen:sc.isGenerator=false
 nd:N.Nodup
 pre:N.take (ps.length+fs.length)=ps++fs
 par:∀ x∈ps,sc.names.lookup x=some .local
 fre:∀ x∈fs,sc.names.lookup x=some .free
 all:∀ x,sc.names.lookup x=some .free->x∈fs
 nocell:∀ y∈sc.names,y.2≠ .cell
def jCZ (N:List Str)(vs fv:List V):St:=yH N (vs++fv)
section
variable {P:Program}{w:World}{K:W.Frag}{mg:Str->Option Value}{base:Heap}{N ps fs:List Str}{qual:Str}{scope:Scope}{f:Addr}{cd:Value}{cl:List (Str×Addr)}{A:Around}{outer:List Env}{s:Shared}{H:Hp}{us:List Value}{vs fv:List V}
theorem jHS {h1:Heap}{tk:Nat}(S:NScope N ps fs scope)(hd:A.handled=none)(e0:Env0 P w K mg base A outer s H)(hl:us.length=ps.length)(r:Vals vs us)(C:ClOk cl s H)(Fv:FvOk fs fv cl s)
  (ns:h1.Ns s.heap.objs.size fun x=>(ps.zip us).reverse.lookup x) (hk:∀ b o,s.heap.get? b=some o->h1.get? b=some o):
  Inv (cxN P w K mg base N qual scope f cd cl A outer s H) [] (jCZ N vs fv) H { s with heap:=h1,toks:=tk} :=by
 have hpl:ps.length+fs.length<=N.length:=by have:=bQ List.length S.pre; rw[aY,ar] at this; omega
 have noA:∀ b:Addr,b∉(cxN P w K mg base N qual scope f cd cl A outer s H).ex:=fun b z=>absurd (show b∈([]:List Addr) from z) (by simp)
 have vl:vs.length=ps.length:=r.length.trans hl
 refine⟨⟨e0.mod,S.kind,rfl,rfl,az _,C.inj,fun y hy=>?_,fun y c z=>(nomatch z),fun _=>hd,Around.frames_deeper e0.frames, .inr ⟨rfl,rfl⟩,fun b z=>absurd z (noA b),e0.bs,e0.bsz,fun b _ _=>noA b,fun b z=>absurd z (noA b),e0.funs,e0.frf⟩,
  rfl,e0.bare,Un.kept hk,⟨_,ns,fun i y v h1' h2 h3=>?_⟩,fun y c h=>?_,e0.hok.fresh (az _),fun y c h=>(C.cell y c h).2,fun p hp=>absurd (show p∈([]:List (Addr×Obj)) from hp) (by simp),e0.hok.kept hk,?_⟩
 ·have hy:scope.names.lookup y=some .cell\/scope.names.lookup y=some .free:=hy
  rcases hy with hy | hy
  ·exact absurd rfl (S.nocell _ (cE hy))
  ·have m:=S.all y hy
   obtain⟨i,hi⟩:=cw m
   have hi2:i<fv.length:=by rw[Fv.1]; exact(ae.mp hi).1
   obtain⟨c,u,e,_⟩:=Fv.2 i y fv[i] hi (by simp [hi2])
   exact⟨c,e⟩
 ·have h1':N[i]?=some y:=h1'
  have hlen:(vs++fv).length=ps.length+fs.length:=by rw[ar,vl,Fv.1]
  have hi:i<(vs++fv).length:=by
   unfold jCZ yH at h2
   by_cases hi:i<(vs++fv).length
   ·exact hi
   ·rw[aX (by simpa using hi)] at h2
    rw[ev] at h2
    split at h2 <;> cases h2
  have hv:(vs++fv)[i]?=some v:=by
   unfold jCZ yH at h2
   rw[bK (by simpa using hi),aA] at h2
   cases e:(vs++fv)[i]? with
   | none=>rw[e] at h2; cases h2
   | some a=>rw[e] at h2; cases h2; rfl
  have hy:(ps++fs)[i]?=some y:=by
   rw[<- S.pre,bW (by omega)]
   exact h1'
  by_cases hi1:i<ps.length
  ·rw[bK hi1] at hy
   rw[bK (by omega)] at hv
   obtain⟨u,hu,rv⟩:=r.get hv
   have ndP:ps.Nodup:=by
    have:(ps++fs).Nodup:=by rw[<- S.pre]; exact S.nd.sublist (cB _ _)
    exact(df.mp this).1
   exact⟨u,rv, .inl ⟨S.par y (ao hy),jDJ ndP hy hu⟩⟩
  ·rw[aX (by omega)] at hy
   rw[aX (by omega),vl] at hv
   obtain⟨c,u,e,rv,o,ho,hd⟩:=Fv.2 _ y v hy hv
   exact⟨u,rv, .inr ⟨.inr (S.fre y (ao hy)),c,e,o,hk _ _ ho,hd⟩⟩
 ·obtain⟨⟨v,o,ho,hd⟩,_⟩:=C.cell y c h
  exact⟨v,o,hk _ _ ho,hd⟩
 ·unfold jCZ yH
  show _=N.length
  rw[ar,aa,gM,ar,vl,Fv.1]
  omega
end
section
variable {X:Cx}{pins:List (Addr×Obj)}{σ:St}{H:Hp}{s:Shared}{fs:List Str}{fv:List V}{is:List Nat}{scope:Scope}
end
section
variable {X:Cx}{k:Nat}{x q:Str}{args:Arguments}{body:List Stmt}{scope:Scope}{ps fs:List Str}{is:List Nat}{sp:List V->Sp}{p pos:Pos}{e:Expr}{es:List Expr}{t:TA}{j:Nat}
end
section
variable {X:Cx}{tg iter elt:Expr}{ifs:List Expr}{sc:Scope}{pos:Pos}{wi:TI}{g:TG}{tt:TT}{te:St->TE}{m:List (Option Nat)}{Nc:List Str}
end
def jQE (Ts:List Addr)(H:Hp):Prop:=∀ b,H b=none\/(∃ o xs,H b=some (.frz o (.lst xs)))\/b∈Ts
theorem jHP {cts:List (Addr×Addr)}{P:Program}{w:World}{K:W.Frag}{mg mb:Str->Option Value}{CX:CXT}{k:Nat}{fa a:Addr}{fd:FuncData}{x:Str}{sp:Sp}{s₁:Shared}{vs:List Value}{ns:List Int}
  (KX:K.In s₁.heap) (hns:s₁.heap.Ns mainGlobals mg) (hb:s₁.heap.Ns builtinsNs mb) (hbb:∀ x:Str,x≠ "__name__" ->mb x=bootBuiltins x) (hlim:s₁.heap.NoLimit) (hg:s₁.gens=#[])
  (ha:s₁.heap.get? a=some { cls:= .type "list",data:= .seq vs.toArray}) (hi:IntsAre vs ns) (hl:ns.length<=sizeLine) (hr:Room k callerA) (hT:∀ T∈cts.map (·.2),s₁.heap.get? T=some (tabObj #[])) (CH:∀ p∈cts,PySem.W.CodeHd s₁.heap p.1 p.2) (hKT:∀ T∈cts.map (·.2),K.lookup T=none)
  (F:∀ base:Heap,K.In base->base.Ns mainGlobals mg->FnOk P w K mg base CX k fa fd [x] sp) (hbind:∀ (s:Shared) (u:Value),BindsTo s fd ⟨[u],[]⟩ [(x,u)])
  (hsp:∀ H:Hp,(∀ T∈cts.map (·.2),H T=some (.tbl #[]))->SqL K H a (ns.map V.int)->sp [.ref a] H (fun v _=>v= .bl true) fun _ _ _=>False)
  (hCX:∀ H e s',CX [] H s₁ (fun _ _ _=>False) e s'->False):
  codeAny (model P w) callerA (.call (.ref fa) ⟨[.ref a],[]⟩) (fun r s'=>r= .ok (.ret (.bool true))/\OldK s₁.heap s'.heap/\s'.os=s₁.os/\AllBare s'.gens) s₁:=by
 have rv:=jEJ hi
 have lenV:=hi.length
 have core:∀ H:Hp,jQE (cts.map (·.2)) H->(∀ T∈cts.map (·.2),H T=some (.tbl #[]))->SqL K H a (ns.map V.int)->HOk P w H s₁.heap->(∀ b,H b≠none->b=a\/b∈cts.map (·.2))->(H a≠none->K.lookup a=none)->
   codeAny (model P w) callerA (.call (.ref fa) ⟨[.ref a],[]⟩) (fun r s'=>r= .ok (.ret (.bool true))/\OldK s₁.heap s'.heap/\s'.os=s₁.os/\AllBare s'.gens) s₁:=by
  intro H hO hHT hS hok hA hK
  have base_of:∀ {b:Addr}{o:Obj},s₁.heap.get? b=some o->H b=none->(hidT s₁.heap H).get? b=some o:=fun e n=>jL6 e n
  have noA:∀ {b:Addr}{o:Obj}{es:Array DictEntry}{ep:Nat},s₁.heap.get? b=some o->o.data= .dict es ep->H b=none:=fun {b o es ep} e d=>by
   cases q:H b with
   | none=>rfl
   | some u=>
    rcases hA b (by rw[q]; simp) with e' | e'
    ·subst e'
     rw[ha] at e; cases e
     have d':Data.seq vs.toArray _=Data.dict es ep:=d
     cases d'
    ·rw[hT b e'] at e; cases e
     have d':Data.fields _=Data.dict es ep:=d
     cases d'
  have nsK:∀ {b:Addr}{m:Str->Option Value},s₁.heap.Ns b m->(hidT s₁.heap H).Ns b m:=fun {b m} ⟨o,es,ep,e,d,r⟩=>⟨o,es,ep,base_of e (noA e d),d,r⟩
  have hKb:K.In (hidT s₁.heap H):=fun b o e=>base_of (KX b o e) (by
   cases q:H b with
   | none=>rfl
   | some u=>
    rcases hA b (by rw[q]; simp) with e' | e'
    ·subst e'
     rw[hK (by rw[q]; simp)] at e; cases e
    ·rw[hKT b e'] at e; cases e)
  have hM:Mod K mg (hidT s₁.heap H):=⟨hKb,nsK hns,⟨mb,nsK hb,hbb⟩,let ⟨mc,h1,h2⟩:=hlim; ⟨mc,nsK h1,h2⟩⟩
  have e0:Env0 P w K mg (hidT s₁.heap H) callerA [] s₁ H:=⟨rfl,hM,fun b o e=>jNN e,Nat.le_of_eq (jJK _ _),trivial,fun b hb=>absurd (show b∈([]:List Addr) from hb) (by simp),hok, .of_eq hg⟩
  refine fg ((F _ hKb (nsK hns)).run callerA [] s₁ H ⟨[.ref a],[]⟩ [.ref a] [.ref a] _ _ hr e0 (hbind s₁ (.ref a)) (.cons rfl .nil) (hsp H hHT hS)) fun r s' h=>?_
  cases r with
  | error e=>exact(hCX H e s' h).elim
  | ok fl=>
   cases fl with
   | next=>exact False.elim h
   | brk=>exact False.elim h
   | cont=>exact False.elim h
   | ret u=>
    obtain⟨v,H',os,bare,un,hok',r',q⟩:=h
    have q':v= .bl true:=q
    subst q'
    obtain rfl:u=Value.bool true:=r'
    have gr:∀ T∈cts.map (·.2),∃ more,s'.heap.get? T=some (tabObj (#[]++more)):=fun T hTm=>by
     obtain⟨more,z⟩:=un.tbls T _ (hHT T hTm)
     exact⟨more,hok' T _ z⟩
    have kp:∀ b o,b∉cts.map (·.2)->s₁.heap.get? b=some o->s'.heap.get? b=some o:=fun b o hbT e=>?_
    ·refine⟨rfl,⟨fun b o e=>?_,fun b o e=>?_⟩,os,bare⟩
     ·by_cases hb:b∈cts.map (·.2)
      ·obtain⟨p,hp,rfl⟩:=aN.mp hb
       have q:=hT _ hb
       rw[q] at e
       cases e
       obtain⟨more,z⟩:=gr _ hb
       exact .inr (.inl ⟨((CH p hp).tab q).isCodeTable,rfl,#[],more,rfl,z⟩)
      ·exact .inl (kp b o hb e)
     ·by_cases hb:b∈cts.map (·.2)
      ·obtain⟨more,z⟩:=gr _ hb
       exact⟨_,z⟩
      ·exact⟨o,kp b o hb e⟩
    cases q:H b with
    | none=>exact un.keep b o e q (by intro z; exact absurd (show b∈([]:List Addr) from z) (by simp)) (by simp)
    | some u=>
     rcases hO b with z | ⟨ob,xs,z⟩ | z
     ·rw[q] at z; cases z
     ·have z2:=un.frzs b ob _ z
      obtain⟨e1,_⟩:=hok b _ z
      obtain⟨e2,_⟩:=hok' b _ z2
      rw[e] at e1; cases e1
      exact e2
     ·exact absurd z hbT
 have aT:a∉cts.map (·.2):=fun z=>by rw[hT a z] at ha; cases ha
 cases hk:K.lookup a with
 | some o=>
  have e:=KX a o hk
  rw[ha] at e
  cases e
  refine core (fun b=>if b∈cts.map (·.2) then some (.tbl #[]) else none) (fun b=>?_) (fun T hm=>ag hm) (.inr ⟨_,vs.toArray,_,hk,rfl,rfl,rfl,by rw[aF,lenV]; exact hl,by simpa using rv⟩) (fun b u z=>?_) (fun b z=>?_) fun z=>absurd (af aT) z
  ·by_cases hb:b∈cts.map (·.2)
   ·exact .inr (.inr hb)
   ·exact .inl (af hb)
  ·by_cases hb:b∈cts.map (·.2)
   ·have z':=(ag hb).symm.trans z
    cases z'
    exact hT b hb
   ·have z':=(af hb).symm.trans z
    cases z'
  ·by_cases hb:b∈cts.map (·.2)
   ·exact .inr hb
   ·exact absurd (af hb) z
 | none=>
  refine core (fun b=>if b∈cts.map (·.2) then some (.tbl #[]) else if b=a then some (.frz { cls:= .type "list",data:= .seq vs.toArray} (.lst (ns.map V.int))) else none) (fun b=>?_) (fun T hm=>ag hm) (.inl (.inr ⟨{ cls:= .type "list",data:= .seq vs.toArray},by dsimp only; rw[af aT,ag rfl]⟩)) (fun b u z=>?_) (fun b z=>?_) fun _=>hk
  ·by_cases hT':b∈cts.map (·.2)
   ·exact .inr (.inr hT')
   ·by_cases hb:b=a
    ·exact .inr (.inl ⟨_,_,by dsimp only; rw[af hT',ag hb]⟩)
    ·exact .inl (by dsimp only; rw[af hT',af hb])
  ·dsimp only at z
   by_cases hT':b∈cts.map (·.2)
   ·rw[ag hT'] at z
    cases z
    exact hT b hT'
   ·rw[af hT'] at z
    by_cases hb:b=a
    ·rw[ag hb] at z
     cases z
     subst hb
     exact⟨ha,by rw[aa]; exact hl,vs,_,rv,ha⟩
    ·rw[af hb] at z
     cases z
  ·replace z:(if b∈cts.map (·.2) then some (HO.tbl #[]) else if b=a then some (HO.frz { cls:= .type "list",data:= .seq vs.toArray} (.lst (ns.map V.int))) else none)≠none:=z
   by_cases hT':b∈cts.map (·.2)
   ·exact .inr hT'
   ·by_cases hb:b=a
    ·exact .inl hb
    ·rw[af hT',af hb] at z
     exact absurd rfl z
theorem walk_ofTs {cts:List (Addr×Addr)}{l:PySem.W.OpenLaw}{n k:Nat}{q:Program}{loose:List Str}{XP:(Str->Option Value)->Heap->Prop}{YP:World->Heap->Prop}{d:DefRec}{K:Params->W.Frag}{CX:World->CXT}{sp:World->Sp}{x:Str}
  (hn:l.most=some n) (hn2:n<=sizeLine) (hdf:d.params.defaults=[]) (hr:Room k callerA)
  (hY:∀ (w:World) (h:Heap),YP w h->(K w.params).In h/\∀ T∈cts.map (·.2),h.get? T=some (tabObj #[])) (hcd:∀ w:World,∀ p∈cts,codeHdIn (K w.params) p.1 p.2=true) (hKT:∀ w:World,∀ T∈cts.map (·.2),(K w.params).lookup T=none)
  (F:∀ (w:World) (mg:Str->Option Value) (fa:Addr) (h:Heap),(K w.params).In h->h.Ns mainGlobals mg->mg d.name=some (.ref fa)->
   ∃ fd:FuncData,(∀ (s:Shared) (u:Value),BindsTo s fd ⟨[u],[]⟩ [(x,u)])/\
    ∀ base:Heap,(K w.params).In base->base.Ns mainGlobals mg->FnOk l.prog w (K w.params) mg base (CX w) k fa fd [x] (sp w))
  (hsp:∀ (w:World) (H:Hp) (a:Addr) (ns:List Int),ns.length<=n->(∀ T∈cts.map (·.2),H T=some (.tbl #[]))->SqL (K w.params) H a (ns.map V.int)->sp w [.ref a] H (fun v _=>v= .bl true) fun _ _ _=>False)
  (hCX:∀ (w:World) (H:Hp) (s:Shared) (e:Value) (s':Shared),CX w [] H s (fun _ _ _=>False) e s'->False):
  PySem.W.WalkO q loose XP YP l.row.toRowW d [] (fun f vs=>PySem.call f vs):=by
 refine Att.attach_call hn hdf fun w s₀ s₁ mg mb fa o pm cd doc a vs ns G Y ho hd _ hmg hobj hints hlen hg=>?_
 obtain⟨KX,hT⟩:=hY w _ Y
 obtain⟨fd,hb,hF⟩:=F w mg fa _ KX G.T.g hmg
 exact jHP KX G.T.g G.T.b G.T.builtins G.T.nolimit hg hobj hints (bD hlen hn2) hr hT (fun p hp=>g4 KX (hcd w p hp)) (hKT w) hF hb (fun H hO hS=>hsp w H a ns hlen hO hS) fun H e s'=>hCX w H s₁ e s'
open PySem.AutoSeq1 (wpAny_loadPart')
section
variable {prog:Program}{w:World}{A:Around}{E:Value->Shared->Prop}{s:Shared}
theorem jLC {tp:Bool}{e it l:Addr}{i:Nat}{xs:Array Value}{x old:Value}{Q:Value->Shared->Prop}(ee:IsEnum s.heap e it i old)(g1:ItAt tp s.heap it l i)(o1:ObAt tp s.heap l xs)(hx:xs[i]?=some x)(ne:e≠it)
  (k:∀ h',IsEnumOut h' e it ((i:Int)+1) x s.heap.objs.size->ItAt tp h' it l (i+1)->h'.get? s.heap.objs.size=some { cls:= .type "tuple",data:= .seq #[.int i s.toks,x]} ->h'.objs.size=s.heap.objs.size+1->
   (∀ c o,c≠e->c≠it->s.heap.get? c=some o->h'.get? c=some o)->Q (.ref s.heap.objs.size) { s with heap:=h',toks:=s.toks+1}):
  wpAny (model prog w) A (Builtin.«enumerate.__next__» ⟨[.ref e],[]⟩) (fun fin s'=>∃ v,fin= .done (.ret v)/\Q v s') E s:=by
 obtain⟨hp,g,d,tk,os⟩:=s
 show wpAny (model prog w) A (field (.ref e) 2 >>= _) _ _ _
 refine ah (de ee rfl (x:= .ref it) rfl (ah (next1 g1 o1 hx fun p1 r1 q1=>?_)))
 have q1:Heap.SameBut it hp p1:=q1
 have e1:IsEnum p1 e it i old:=(q1.2 e ne).trans ee
 show wpAny (model prog w) A (field (.ref e) 3 >>= _) _ _ ⟨p1,g,d,tk,os⟩
 refine ah (de e1 rfl (x:=rawInt i) rfl (?_:wpAny (model prog w) A (field (.ref e) 4 >>= _) _ _ ⟨p1,g,d,tk,os⟩))
 refine ah (de e1 rfl (x:= .none) rfl (?_:wpAny (model prog w) A (mkInt i >>= _) _ _ ⟨p1,g,d,tk,os⟩))
 refine ah (wpAny_mkInt (?_:wpAny (model prog w) A (setField (.ref e) 3 (rawInt ((i:Int)+1)) >>= _) _ _ ⟨p1,g,d,tk+1,os⟩))
 refine ah (dA e1 (by simp) fun p2 e2 q2=>?_)
 have q2:Heap.SameBut e p1 p2:=q2
 have e2:IsEnum p2 e it ((i:Int)+1) old:=e2
 show wpAny (model prog w) A (setField (.ref e) 4 .none >>= _) _ _ ⟨p2,g,d,tk+1,os⟩
 refine ah (dA e2 (by simp) fun p3 e3 q3=>?_)
 have q3:Heap.SameBut e p2 p3:=q3
 have e3:IsEnum p3 e it ((i:Int)+1) old:=e3
 show wpAny (model prog w) A (newTuple [.int i tk,x] >>= _) _ _ ⟨p3,g,d,tk+1,os⟩
 refine ah (wpAny_newTuple ?_)
 have e4:IsEnum (p3.push { cls:= .type "tuple",data:= .seq #[.int i tk,x]}) e it ((i:Int)+1) old:=am _ e3
 have sz:p3.objs.size=hp.objs.size:=by rw[q3.1,q2.1,q1.1]
 have lt:e<hp.objs.size:=aL ee
 have t4:(p3.push { cls:= .type "tuple",data:= .seq #[.int i tk,x]}).get? hp.objs.size=some { cls:= .type "tuple",data:= .seq #[.int i tk,x]} :=by rw[<- sz]; exact aQ _ rfl
 have z4:(p3.push { cls:= .type "tuple",data:= .seq #[.int i tk,x]}).objs.size=hp.objs.size+1:=by rw[fr,sz]
 have k4:∀ c o,c≠e->c≠it->hp.get? c=some o->(p3.push { cls:= .type "tuple",data:= .seq #[.int i tk,x]}).get? c=some o:=fun c o n1 n2 v=>am _ (q3.extBut c o n1 (q2.extBut c o n1 (q1.extBut c o n2 v)))
 have r4:ItAt tp (p3.push { cls:= .type "tuple",data:= .seq #[.int i tk,x]}) it l (i+1):=((r1.but q2.extBut ne.symm).but q3.extBut ne.symm).at fun o v=>am _ v
 generalize p3.push { cls:= .type "tuple",data:= .seq #[.int i tk,x]} =p4 at e4 t4 z4 k4 r4 ⊢
 show wpAny (model prog w) A (Builtin.SmallTypes.ownedTupleIsFree (.ref e) >>= _) _ _ ⟨p4,g,d,tk+1,os⟩
 rw[sz]
 refine ah (by
  unfold Builtin.SmallTypes.ownedTupleIsFree
  refine ah (de e4 rfl (x:= .none) rfl (aV ?_))
  simp only [io]
  refine ah (dN (ah (de e4 rfl (x:=old) rfl (ah (dA e4 (by simp) fun p5 e5 q5=>?_)))))
  have q5:Heap.SameBut e p4 p5:=q5
  have e5:IsEnum p5 e it ((i:Int)+1) x:=e5
  refine ah (m:=Builtin.SmallTypes.ownedTupleHandOut (.ref e) (.ref hp.objs.size)) ?_
  unfold Builtin.SmallTypes.ownedTupleHandOut
  refine ah (dA e5 (by simp) fun p6 e6 q6=>?_)
  have q6:Heap.SameBut e p5 p6:=q6
  have e6:IsEnumOut p6 e it ((i:Int)+1) x hp.objs.size:=e6
  refine dA e6 (by simp) fun p7 e7 q7=>?_
  have q7:Heap.SameBut e p6 p7:=q7
  have e7:IsEnumOut p7 e it ((i:Int)+1) x hp.objs.size:=e7
  have up:∀ c o,c≠e->p4.get? c=some o->p7.get? c=some o:=fun c o n v=>q7.extBut _ _ n (q6.extBut _ _ n (q5.extBut _ _ n v))
  exact ah (wpAny_letGo (aV ⟨_,rfl,k p7 e7 (r4.at fun o v=>up _ o ne.symm v) (up _ _ (ff lt) t4) (by rw[q7.1,q6.1,q5.1,z4]) fun c o n1 n2 v=>up c o n1 (k4 c o n1 n2 v)⟩)))
theorem jHI {tp:Bool}{e it l:Addr}{i:Nat}{xs:Array Value}{x old:Value}{Q:Option Value->Shared->Prop}(ee:IsEnum s.heap e it i old)(g1:ItAt tp s.heap it l i)(o1:ObAt tp s.heap l xs)(hx:xs[i]?=some x)(ne:e≠it)
  (k:∀ h',IsEnumOut h' e it ((i:Int)+1) x s.heap.objs.size->ItAt tp h' it l (i+1)->h'.get? s.heap.objs.size=some { cls:= .type "tuple",data:= .seq #[.int i s.toks,x]} ->h'.objs.size=s.heap.objs.size+1->
   (∀ c o,c≠e->c≠it->s.heap.get? c=some o->h'.get? c=some o)->Q (some (.ref s.heap.objs.size)) { s with heap:=h',toks:=s.toks+1}):
  wpAny (model prog w) A (pyNext (.ref e)) Q E s:=by
 have ty:s.TypeIs (.ref e) "enumerate" :=⟨_,ee,rfl⟩
 unfold pyNext
 exact ah (wpAny_attempt (dv (name:=Str.ofString "__next__") ty F.slot_enumerate_next (eR F.slot_enumerate_next ty F.entry_enumerate_next (jLC ee g1 o1 hx ne fun h' b1 b2 b3 b4 b5=>aV (k h' b1 b2 b3 b4 b5)) (F.args_enumerate_next_1 _))))
theorem jHJ {tp:Bool}{e it l:Addr}{i:Nat}{xs:Array Value}{old:Value}{Q:Option Value->Shared->Prop}(hh:A.handled=none)(ee:IsEnum s.heap e it i old)(g1:ItAt tp s.heap it l i)(o1:ObAt tp s.heap l xs)(hx:xs[i]?=none)
  (k:∀ h',(∀ c o,c≠e->c≠it->s.heap.get? c=some o->h'.get? c=some o)->Q none { s with heap:=h'}):wpAny (model prog w) A (pyNext (.ref e)) Q E s:=by
 have ty:s.TypeIs (.ref e) "enumerate" :=⟨_,ee,rfl⟩
 unfold pyNext
 refine ah (wpAny_attempt (dv (name:=Str.ofString "__next__") ty F.slot_enumerate_next (eR F.slot_enumerate_next ty F.entry_enumerate_next (?_:wpAny (model prog w) _ (field (.ref e) 2 >>= _) _ _ _) (F.args_enumerate_next_1 _))))
 refine ah (de ee rfl (x:= .ref it) rfl (ah (next0 hh g1 o1 hx fun h' x kp ⟨u,eu,cu⟩=>?_)))
 exact ah (wpAny_isInstance (T:= "StopIteration") (b:=true) ⟨u,eu,cu⟩ isSubtype_stop (aV (k _ fun c o _ n v=>kp c o n v)))
end
set_option maxHeartbeats 2000000 in
theorem jJ2 (tp:Bool)(l:Addr)(xs:Array Value)(u:Obj):
  Meets (Builtin.«enumerate.__new__» ⟨[.type "enumerate", .ref l],[]⟩) (fun _ R s=>s.heap.get? l=some u/\ObAt tp s.heap l xs/\
   R (.ok (.ret (.ref (s.heap.push (iterO tp l)).objs.size))) { s with heap:=(s.heap.push (iterO tp l)).push { cls:= .type "enumerate",data:= .fields #[.none, .bool false, .ref s.heap.objs.size,rawInt 0, .none, .none]}}):=
 .of_wp fun prog w A R s h=>by
  obtain⟨hp,g,d,tk,os⟩:=s
  obtain⟨a0,a1,q⟩:=h
  have sub:=sub_enumerate
  have e1:ObAt tp (Shared.heap ⟨hp,g,d,tk,os⟩) l xs:=a1
  obtain⟨c,dct,dt,sl⟩:=u
  obtain⟨n,hc,hd⟩:∃ n,c=(if tp then .type "tuple" else .type "list")/\dt= .seq xs n:=by
   cases tp with
   | false=>obtain⟨o,e,hc,n,hd⟩:=a1; cases (a0.symm.trans e); exact⟨n,hc,hd⟩
   | true=>obtain⟨o,e,hc,n,hd⟩:=a1; cases (a0.symm.trans e); exact⟨n,hc,hd⟩
  subst hd
  cases tp with
  | false=>
   subst hc
   wp_walk using cG a0
   refine wpAny_stack_any fun _=>aV ?_
   split
   ·rename_i c _ _ _ _ _
    cases hcc:(c==Value.type "enumerate")
    all_goals (wp_walk using cG a0,jE1 e1; exact⟨_,rfl,q⟩)
   ·wp_walk using cG a0,jE1 e1
    exact⟨_,rfl,q⟩
  | true=>
   subst hc
   wp_walk using cG a0
   refine wpAny_stack_any fun _=>aV ?_
   split
   ·rename_i c _ _ _ _ _
    cases hcc:(c==Value.type "enumerate")
    all_goals (wp_walk using cG a0,jE1 e1; exact⟨_,rfl,q⟩)
   ·wp_walk using cG a0,jE1 e1
    exact⟨_,rfl,q⟩
theorem jLH {prog:Program}{w:World}{A:Around}{E:Value->Shared->Prop}{s:Shared}{tp:Bool}{l:Addr}{xs:Array Value}{Q:Value->Shared->Prop}(a1:ObAt tp s.heap l xs)
  (k:∀ h',IsEnum h' (s.heap.objs.size+1) s.heap.objs.size 0 .none->ItAt tp h' s.heap.objs.size l 0->(∀ c o,s.heap.get? c=some o->h'.get? c=some o)->Q (.ref (s.heap.objs.size+1)) { s with heap:=h'}):
  wpAny (model prog w) A (call (.type "enumerate") [.ref l]) Q E s:=by
 obtain⟨u,eu⟩:∃ u,s.heap.get? l=some u:=by
  cases tp with
  | false=>obtain⟨o,e,_⟩:=a1; exact⟨o,e⟩
  | true=>obtain⟨o,e,_⟩:=a1; exact⟨o,e⟩
 refine callType_new F.called_enumerate (by decide) (F.typeCall_enumerate_1 _) (F.newCall_enumerate_1 _) (fun obj=>F.args_object_init_2 obj _) F.entry_enumerate_new (jJ2 tp l xs u) ⟨eu,a1,?_⟩
 have z1:(s.heap.push (iterO tp l)).objs.size=s.heap.objs.size+1:=fr ..
 have y2:IsEnum ((s.heap.push (iterO tp l)).push { cls:= .type "enumerate",data:= .fields #[.none, .bool false, .ref s.heap.objs.size,rawInt 0, .none, .none]}) (s.heap.push (iterO tp l)).objs.size s.heap.objs.size 0 .none:=aQ _ rfl
 have y1:((s.heap.push (iterO tp l)).push { cls:= .type "enumerate",data:= .fields #[.none, .bool false, .ref s.heap.objs.size,rawInt 0, .none, .none]}).get? s.heap.objs.size=some (iterO tp l):=am _ (aQ _ (jHR _ _))
 show _/\_
 rw[z1] at y2 ⊢
 exact⟨⟨_,y2,rfl⟩,k _ y2 (.new tp y1) fun c o e=>am _ (am _ e)⟩
section
variable {X:Cx}
def Ite (tp:Bool)(K:W.Frag)(l:Addr):It:=
 ⟨fun i H=>∃ xs x,Sq tp K H l xs/\xs[i]?=some x,
  fun i H v H'=>∃ T x,H T=none/\v= .ref T/\H'=upd H T (.tup [.int (i:Int),x])/\∀ xs,Sq tp K H l xs->xs[i]?=some x,
  fun i H=>∃ xs,Sq tp K H l xs/\xs.length<=i⟩
theorem jI4 {P:Program}{w:World}{K:W.Frag}{elts:List Expr}{x1:Nat}{tps:Pos}(tp:Bool)(l e it:Addr)(ne:e≠it):
  Turn P w K (.Tuple elts x1 tps) (Ite tp K l) [e,it] e (fun i h=>(∃ old,IsEnum h e it ((i:Nat):Int) old)/\ItAt tp h it l i) where
 mem:=by simp
 obj:=fun i h st b hb=>by
  obtain⟨⟨old,he⟩,y1⟩:=st
  simp only [aR,cg,eI] at hb
  rcases hb with rfl | rfl
  ·exact⟨_,he,fun v q=>by cases q⟩
  ·exact y1.obj
 keep:=fun i h h' st k=>by
  obtain⟨⟨old,he⟩,h1⟩:=st
  exact⟨⟨old,k e (by simp) _ he⟩,h1.at fun o z=>k it (by simp) o z⟩
 item:=by
  intro X hP hw hK hc i pins s σ H E I hf st hg
  subst hP hw hK
  obtain⟨xs,x,hq1,hx⟩:=hg
  obtain⟨⟨old,he⟩,h1⟩:=st
  obtain⟨its1,r1,p1,_⟩:=I.sq hq1
  obtain⟨u,hu,ru⟩:=r1.get hx
  refine jHI he h1 p1 (x:=u) (by simpa using hu) ne fun h' a1 a2 a3 a4 a5=>?_
  refine⟨_,rfl,wpAny_letOwnedTupleGo_enum (s:= { s with heap:=h',toks:=s.toks+1}) a1 fun h'' b1 sb=>?_⟩
  have fresh:H s.heap.objs.size=none:=I.fresh
  have ntr:∀ b o,H b=some o->b∉([e,it]:List Addr):=fun b o z hb=>by
   have:=(hf b hb).1
   rw[z] at this; cases this
  have kp:∀ b o,b∉([e,it]:List Addr)->s.heap.get? b=some o->h''.get? b=some o:=fun b o hb z=>by
   simp only [aR,cg,eI,not_or] at hb
   exact(sb.2 b hb.1).trans (a5 b o hb.1 hb.2 z)
  have nz:s.heap.objs.size≠e:=ff (aL he)
  have hT2:h''.get? s.heap.objs.size=some { cls:= .type "tuple",data:= .seq #[.int i s.toks,u]} :=(sb.2 _ nz).trans a3
  have I2:Inv X pins σ (upd H s.heap.objs.size (.tup [.int (i:Int),x])) { s with heap:=h'',toks:=s.toks+1} :=by
   refine I.step (g':=s.gens) (d':=s.drawn) (t':=s.toks+1) (ch:=[e,it]) (fun b hb=>?_) (fun b o _ _ hb z _=>kp b o hb z) (fun b o _ _ hb z _=>⟨o.slots,kp b o hb z⟩)
    (fun b o _ z n=>by rw[jA (bu (aL z))]; exact n) (fun b o hb z=>⟨o,kp b o hb z⟩) (fun b ws z=>by rw[jA (jD z fresh)]; exact z) (fun b o ws z=>by rw[jA (jD z fresh)]; exact z)
    (fun b ps z=>⟨#[],by rw[jA (jD z fresh),z]; simp⟩) (fun m hm=>?_) (fun b o z=>?_) I.bare
   ·obtain⟨f0,f1,f2,f3,f4,f5⟩:=hf b hb
    exact⟨f3,f1,f4,f5⟩
   ·obtain⟨o,es,ep,ho,r⟩:=hm
    exact⟨o,es,ep,kp _ o (fun hb=>(hf _ hb).2.1 rfl) ho,r⟩
   ·by_cases hb:b=s.heap.objs.size
    ·subst hb
     rw[j8] at z
     cases z
     exact⟨by rw[gQ]; show 2<=_; decide,[.int i s.toks,u], .cons ⟨_,rfl⟩ (.cons ru .nil),0,hT2⟩
    ·rw[jA hb] at z
     refine(I.hok b o z).stay (fun c w hc q=>kp c w ?_ q) (fun c q=>by rw[jA (jD q fresh)]; exact q) (fun c ws q=>by rw[jA (jD q fresh)]; exact q)
     rcases hc with rfl | hc
     ·exact ntr _ _ z
     ·exact ntr _ _ hc
  refine⟨.ref s.heap.objs.size,_,I2,rfl,⟨_,x,fresh,rfl,rfl,fun xs' q1=>by rw[I.sq_inj q1 hq1]; exact hx⟩,⟨⟨_,b1⟩,?_⟩,fun b hb=>?_⟩
  ·exact a2.at fun o z=>(sb.2 it ne.symm).trans z
  ·rw[jA (fun q=>by
    obtain⟨o,eo⟩:∃ o,s.heap.get? b=some o:=by
     simp only [aR,cg,eI] at hb
     rcases hb with rfl | rfl
     ·exact⟨_,he⟩
     ·obtain⟨o,z,_⟩:=h1.obj; exact⟨o,z⟩
    exact absurd (aL eo) (by rw[q]; exact cU _))]
   exact(hf b hb).1
 done:=by
  intro X hP hw hK hc i pins s σ H E I hf st hg
  subst hP hw hK
  obtain⟨xs,hq1,hend⟩:=hg
  obtain⟨⟨old,he⟩,h1⟩:=st
  obtain⟨its1,r1,p1,_⟩:=I.sq hq1
  have e1:=r1.length
  refine jHJ (I.ok.hd hc) he h1 p1 (by simp; omega) fun h' kp=>⟨rfl,?_⟩
  have kp2:∀ b o,b∉([e,it]:List Addr)->s.heap.get? b=some o->h'.get? b=some o:=fun b o hb z=>by
   simp only [aR,cg,eI,not_or] at hb
   exact kp b o hb.1 hb.2 z
  have ntr:∀ b o,H b=some o->b∉([e,it]:List Addr):=fun b o z hb=>by
   have:=(hf b hb).1
   rw[z] at this; cases this
  refine I.step (g':=s.gens) (d':=s.drawn) (t':=s.toks) (ch:=[e,it]) (fun b hb=>?_) (fun b o _ _ hb z _=>kp2 b o hb z) (fun b o _ _ hb z _=>⟨o.slots,kp2 b o hb z⟩)
   (fun b o _ z n=>n) (fun b o hb z=>⟨o,kp2 b o hb z⟩) (fun b ws z=>z) (fun b o ws z=>z) (fun b ps z=>⟨#[],by rw[z]; simp⟩) (fun m hm=>?_) (fun b o z=>?_) I.bare
  ·obtain⟨f0,f1,f2,f3,f4,f5⟩:=hf b hb
   exact⟨f3,f1,f4,f5⟩
  ·obtain⟨o,es,ep,ho,r⟩:=hm
   exact⟨o,es,ep,kp2 _ o (fun hb=>(hf _ hb).2.1 rfl) ho,r⟩
  ·refine(I.hok b o z).stay (fun c w hc q=>kp2 c w ?_ q) (fun _ q=>q) fun _ _ q=>q
   rcases hc with rfl | hc
   ·exact ntr _ _ z
   ·exact ntr _ _ hc
 self:=fun _ _ _ _ _ st h=>wpAny_pyIter_enum st.1.choose_spec h
def iEnum (K:W.Frag)(ta:TA):TI:=fun σ H R=>ta σ H fun vs H1=>∃ tp l,vs=[.ref l]/\(∃ xs,Sq tp K H1 l xs)/\R (Ite tp K l) H1
theorem jN6 {a:Expr}{ta:TA}{p pos:Pos}{elts:List Expr}{x1:Nat}{tp:Pos}(hg:Gl X "enumerate")(hm:X.mg "enumerate" =none)(ha:PA X [a] ta)(hv:bootBuiltins "enumerate" =some (.type "enumerate"):=by decide+kernel)
  (he:starEach [a] X.env=(false,eval a X.env)::starEach [] X.env:=by rfl) (hpl:(backTo pos (starEach [] X.env)).any (·.1)=false:=by rfl):
  PI X (.Tuple elts x1 tp) (.Call (.Name "enumerate" p) [a] [] pos) (iEnum X.K ta):=by
 intro pins s σ H R I h
 refine Call_ (jDB I hg hm hv (cR (thn (ha pos pins s σ H _ I h) fun us s1 ⟨vs,H1,I1,r1,q1⟩=>?_) he hpl))
 obtain⟨t1,l1,rfl,⟨xs,hq1⟩,q⟩:=q1
 obtain⟨u,rfl,ru⟩:=r1.one
 cases ru
 obtain⟨its1,_,p1,_⟩:=I1.sq hq1
 refine jLH p1 fun h' a1 a2 kp=>?_
 have I2:Inv X pins σ H1 { s1 with heap:=h'} :=I1.kept (t':=s1.toks) kp
 refine wpAny_pyIter_enum a1 ⟨s1.heap.objs.size+1,[s1.heap.objs.size+1,s1.heap.objs.size],_,Ite t1 X.K l1,H1,rfl,I2,jI4 t1 l1 _ _ (Nat.succ_ne_self _),⟨⟨_,a1⟩,a2⟩,fun b hb=>?_,q⟩
 have hge:s1.heap.objs.size<=b:=by
  simp only [aR,cg,eI] at hb
  rcases hb with rfl | rfl
  ·exact Nat.le_add_right _ 1
  ·exact az _
 exact I1.fpOk hge (I1.hok.fresh hge)
theorem jO1 {a:Expr}{t:TA}{p pos:Pos}{elts:List Expr}{x1:Nat}{tp:Pos}(hg:Gl1 X "enumerate")(hm:X.mg "enumerate" =none)(ha:JA X [a] t)(he:starEach [a] X.env=(false,eval a X.env)::starEach [] X.env)(hv:bootBuiltins "enumerate" =some (.type "enumerate"):=by decide+kernel)
  (hpl:(backTo pos (starEach [] X.env)).any (·.1)=false:=by rfl):JI X (.Tuple elts x1 tp) (.Call (.Name "enumerate" p) [a] [] pos) (iEnum X.K t):=⟨jN6 hg.a hm ha.h hv he hpl⟩
end
section
variable {K:W.Frag}{m:List (Option Nat)}{g:TG}{tt:TT}{te:TE}{σ:St}{H1:Hp}{Q:VK}
end
section
variable {κ:Type} [DecidableEq κ]
def valV (kvs:List (κ×V))(k:κ):Option V:=(kvs.find? fun kv=>decide (kv.1=k)).map (·.2)
def putK (kvs:List (κ×V))(k:κ)(v:V):List (κ×V):=
 if (kvs.any fun kv=>decide (kv.1=k))=true then kvs.map (fun kv=>if kv.1=k then (kv.1,v) else kv) else kvs++[(k,v)]
theorem jBK {p:κ×V}{r:List (κ×V)}{k:κ}(e:p.1=k):valV (p::r) k=some p.2:=by simp [valV,dD,e]
theorem jAV {p:κ×V}{r:List (κ×V)}{k:κ}(e:¬ p.1=k):valV (p::r) k=valV r k:=by simp [valV,dD,e]
theorem jDU (k:κ):∀ kvs:List (κ×V),(kvs.any fun kv=>decide (kv.1=k))=(valV kvs k).isSome
 | []=>rfl
 | p::r=>by
  rw[eT]
  by_cases e:p.1=k
  ·simp only [jBK e,aG e,ie,Option.isSome_some]
  ·rw[jAV e,aM e,fX]; exact jDU k r
theorem jBH (kvs:List (κ×V))(k:κ)(v:V):(putK kvs k v).length<=kvs.length+1:=by
 unfold putK
 split
 ·rw[aa]; omega
 ·rw[ar,bq,dZ]; omega
theorem jGM {kvs:List (κ×V)}{k:κ}(v:V)(h:valV kvs k=none):putK kvs k v=kvs++[(k,v)]:=by
 unfold putK
 rw[jDU,h]
 exact af (by decide)
theorem RelO.isSome_eq {o:Option V}{u:Option Value}(r:RelO o u):o.isSome=u.isSome:=by
 cases o with
 | none=>cases u with
  | none=>rfl
  | some _=>exact(show False from r).elim
 | some _=>cases u with
  | none=>exact(show False from r).elim
  | some _=>rfl
theorem KV.val {kvs:List (κ×V)}{vs:List (κ×Value)}(r:KV kvs vs)(k:κ):RelO (valV kvs k) (valueAt vs k):=by
 unfold KV at r
 induction r with
 | nil=>exact True.intro
 | @cons p q ps qs h t ih=>
  obtain⟨h1,h2⟩:=h
  by_cases e:p.1=k
  ·have e':q.1=k:=h1.symm.trans e
   have b:valueAt (q::qs) k=some q.2:=by simp [valueAt,dD,e']
   rw[jBK e,b]; exact h2
  ·have e':¬ q.1=k:=fun z=>e (h1.trans z)
   have b:valueAt (q::qs) k=valueAt qs k:=by simp [valueAt,dD,e']
   rw[jAV e,b]; exact ih
theorem KV.any {kvs:List (κ×V)}{vs:List (κ×Value)}(r:KV kvs vs)(k:κ):(kvs.any fun kv=>decide (kv.1=k))=vs.any fun kv=>decide (kv.1=k):=by
 unfold KV at r
 induction r with
 | nil=>rfl
 | cons h t ih=>rw[eT,eT,ih,h.1]
theorem KV.repl {kvs:List (κ×V)}{vs:List (κ×Value)}(r:KV kvs vs)(k:κ){y:V}{u:Value}(ry:RelV y u):
  KV (kvs.map fun kv=>if kv.1=k then (kv.1,y) else kv) (vs.map fun kv=>if kv.1=k then (kv.1,u) else kv):=by
 unfold KV at r ⊢
 induction r with
 | nil=>exact .nil
 | @cons p q ps qs h t ih=>
  rw[ba,ba]
  refine .cons ?_ ih
  obtain⟨h1,h2⟩:=h
  by_cases e:p.1=k
  ·rw[ag e,ag (h1.symm.trans e)]; exact⟨h1,ry⟩
  ·rw[af e,af (fun z=>e (h1.trans z))]; exact⟨h1,h2⟩
theorem KV.put {kvs:List (κ×V)}{vs:List (κ×Value)}(r:KV kvs vs)(k:κ){y:V}{u:Value}(ry:RelV y u):KV (putK kvs k y) (stored vs k u):=by
 unfold putK stored
 rw[r.any k]
 by_cases e:(vs.any fun kv=>decide (kv.1=k))=true
 ·rw[ag e,ag e]; exact r.repl k ry
 ·rw[af e,af e]; exact Paired.snoc r ⟨rfl,ry⟩
theorem KV.keys {kvs:List (κ×V)}{vs:List (κ×Value)}(r:KV kvs vs):kvs.map (·.1)=vs.map (·.1):=by
 unfold KV at r
 induction r with
 | nil=>rfl
 | cons h t ih=>rw[ba,ba,ih,h.1]
theorem KV.length {kvs:List (κ×V)}{vs:List (κ×Value)}(r:KV kvs vs):kvs.length=vs.length:=Paired.length r
end
theorem kV_is {P:Program}{w:World}{k:Key}{u:Value}(r:RelV (kV k) u):(kD P w).is k u=true:=by
 cases k with
 | inl i=>obtain⟨t,e⟩:=(show ∃ t,u=Value.int i t from r); subst e; exact jFW P w i t
 | inr x=>obtain⟨t,e⟩:=(show ∃ t,u=Value.str x t from r); subst e; exact jFV P w x t
theorem jF7 {P:Program}{w:World} :∀ {ks:List Key}{us:List Value},Vals (ks.map kV) us->ItemsAre (kD P w) ks us
 | [],_,r=>by rw[gB] at r; cases r; exact .nil
 | k::ks,_,r=>by
  rw[ba] at r
  cases r with
  | cons h t=>exact .cons (kV_is h) (jF7 t)
abbrev KT (H:Hp):List (List Key×V)->List (List Key×Addr×Value)->Prop:=Paired fun p q=>p.1=q.1/\H q.2.1=some (.tup (p.1.map kV))/\RelV p.2 q.2.2
theorem KT.val {H:Hp}{kvs:List (List Key×V)}{xs:List (List Key×Addr×Value)}(r:KT H kvs xs)(k:List Key):RelO (valV kvs k) ((atKey xs k).map (·.2)):=by
 induction r with
 | nil=>exact True.intro
 | @cons p q ps qs h t ih=>
  obtain⟨h1,_,h2⟩:=h
  by_cases e:p.1=k
  ·have e':q.1=k:=h1.symm.trans e
   have b:atKey (q::qs) k=some q.2:=by simp [atKey,dD,e']
   rw[jBK e,b]; exact h2
  ·have e':¬ q.1=k:=fun z=>e (h1.trans z)
   have b:atKey (q::qs) k=atKey qs k:=by simp [atKey,dD,e']
   rw[jAV e,b]; exact ih
theorem KT.repl {H:Hp}{kvs:List (List Key×V)}{xs:List (List Key×Addr×Value)}(r:KT H kvs xs)(k:List Key){y:V}{u:Value}(ry:RelV y u):
  KT H (kvs.map fun kv=>if kv.1=k then (kv.1,y) else kv) (xs.map (putAt k u)):=by
 induction r with
 | nil=>exact .nil
 | @cons p q ps qs h t ih=>
  rw[ba,ba]
  refine .cons ?_ ih
  obtain⟨h1,h2,h3⟩:=h
  unfold putAt
  by_cases e:p.1=k
  ·rw[ag e,ag (h1.symm.trans e)]; exact⟨h1,h2,ry⟩
  ·rw[af e,af (fun z=>e (h1.trans z))]; exact⟨h1,h2,h3⟩
theorem KT.put {H:Hp}{kvs:List (List Key×V)}{xs:List (List Key×Addr×Value)}(r:KT H kvs xs)(k:List Key){b:Addr}{y:V}{u:Value}(hb:H b=some (.tup (k.map kV)))(ry:RelV y u):
  KT H (putK kvs k y) (storedH xs k b u):=by
 have e:(kvs.any fun kv=>decide (kv.1=k))=(atKey xs k).isSome:=by
  rw[jDU,(r.val k).isSome_eq,isSome_map]
 unfold putK storedH
 rw[e]
 by_cases q:(atKey xs k).isSome=true
 ·rw[ag q,ag q]; exact r.repl k ry
 ·rw[af q,af q]; exact Paired.snoc r ⟨rfl,hb,ry⟩
theorem KT.keeps {H H':Hp}{kvs:List (List Key×V)}{xs:List (List Key×Addr×Value)}(r:KT H kvs xs)(ht:∀ b ys,H b=some (.tup ys)->H' b=some (.tup ys)):KT H' kvs xs:=
 Paired.mapP r fun _ _ z=>⟨z.1,ht _ _ z.2.1,z.2.2⟩
section
variable {P:Program}{w:World}{H:Hp}{h:Heap}{a:Addr}
theorem rd_of {u:HO}(ok:HOk P w H h)(e:Rd H a u):ObjOk P w H h a u:=e.ok ok
theorem dk_rd {kvs:List (Key×V)}(ok:HOk P w H h)(e:Rd H a (.dK kvs)):kvs.length<=sizeLine/\(a==sysModules)=false/\∃ vs,KV kvs vs/\h.DictOf (kD P w) a vs:=
 show ObjOk P w H h a (.dK kvs) from rd_of ok e
theorem dk_of {kvs:List (Key×V)}(ok:HOk P w H h)(e:H a=some (.dK kvs)):kvs.length<=sizeLine/\(a==sysModules)=false/\∃ vs,KV kvs vs/\h.DictOf (kD P w) a vs:=dk_rd ok (.inl e)
theorem jGX {ks:List Key}(ok:HOk P w H h)(e:H a=some (.tup (ks.map kV))):(tupleKind (kD P w)).is h ks a:=by
 obtain⟨_,its,r,p⟩:=(show ObjOk P w H h a (.tup (ks.map kV)) from ok a _ e)
 obtain⟨o,h1,h2,n,h3⟩:=p.isTup
 exact⟨o,its.toArray,n,h1,h2,h3,by simpa using jF7 r⟩
theorem dt_rd {kvs:List (List Key×V)}(ok:HOk P w H h)(e:Rd H a (.dT kvs)):kvs.length<=sizeLine/\(a==sysModules)=false/\
  ∃ xs,KT H kvs xs/\h.DictOfH (tupleKind (kD P w)) a xs:=by
 obtain⟨z,y,xs,r,o,es,ep,h1,h2,h3,h4,h5⟩:=(show ObjOk P w H h a (.dT kvs) from rd_of ok e)
 refine⟨z,y,xs,r,o,es,ep,h1,h2,h3,h4,fun x hx=>?_,h5⟩
 have all:∀ {l:List (List Key×V)}{m:List (List Key×Addr×Value)},KT H l m->∀ x∈m,(tupleKind (kD P w)).is h x.1 x.2.1:=by
  intro l m q
  induction q with
  | nil=>intro x hx; exact nomatch hx
  | @cons p q ps qs hq t ih=>
   intro x hx
   rcases aR.mp hx with e | hx
   ·subst e
    exact jGX ok (by rw[<- hq.1]; exact hq.2.1)
   ·exact ih x hx
 exact all r x hx
theorem dt_of {kvs:List (List Key×V)}(ok:HOk P w H h)(e:H a=some (.dT kvs)):kvs.length<=sizeLine/\(a==sysModules)=false/\
  ∃ xs,KT H kvs xs/\h.DictOfH (tupleKind (kD P w)) a xs:=dt_rd ok (.inl e)
end
def DGet (H:Hp)(a:Addr)(y:V)(r:Option V):Prop:=
 (∃ kvs k,Rd H a (.dK kvs)/\y=kV k/\r=valV kvs k)\/∃ kvs k b,Rd H a (.dT kvs)/\y= .ref b/\H b=some (.tup (k.map kV))/\r=valV kvs k
def DPut (H:Hp)(a:Addr)(y v:V)(H':Hp):Prop:=
 (∃ kvs k,H a=some (.dK kvs)/\y=kV k/\kvs.length<sizeLine/\H'=upd H a (.dK (putK kvs k v)))\/
 ∃ kvs k b,H a=some (.dT kvs)/\y= .ref b/\H b=some (.tup (k.map kV))/\kvs.length<sizeLine/\H'=upd H a (.dT (putK kvs k v))
theorem DGet.k {H:Hp}{a:Addr}{kvs:List (Key×V)}{k:Key}(e:H a=some (.dK kvs)):DGet H a (kV k) (valV kvs k):= .inl ⟨kvs,k, .inl e,rfl,rfl⟩
theorem DPut.k {H:Hp}{a:Addr}{kvs:List (Key×V)}{k:Key}{v:V}(e:H a=some (.dK kvs))(hl:kvs.length<sizeLine):DPut H a (kV k) v (upd H a (.dK (putK kvs k v))):= .inl ⟨kvs,k,e,rfl,hl,rfl⟩
section
variable {X:Cx}{pins:List (Addr×Obj)}{σ:St}{H:Hp}{s:Shared}{a:Addr}{y v:V}{u r:Value}{o:Option V}{A:Around}{E:Value->Shared->Prop}
theorem Inv.big (I:Inv X pins σ H s):sysModules<s.heap.objs.size:=by
 have h:mainGlobals<s.heap.objs.size:=(I.mod.glob.keeps I.bk).lt
 exact Nat.lt_trans (by decide) h
theorem jJV {Q:Value->Shared->Prop}(hu:A.units+1<cLine)(I:Inv X pins σ H s)(g:DGet H a y (some v))(ry:RelV y u)(h:∀ w' s',Inv X pins σ H s'->RelV v w'->Q w' s'):
  wpAny (model X.prog X.w) A (getItem (.ref a) u) Q E s:=by
 rcases g with ⟨kvs,k,e,ey,l⟩ | ⟨kvs,k,b,e,ey,eb,l⟩
 ·subst ey
  obtain⟨z,hd,vs,rel,dd⟩:=dk_rd I.hok e
  obtain⟨w',hw,rw'⟩:=RelO.some_of (v:=v) (o:=valueAt vs k) (by rw[l]; exact rel.val k)
  exact wpAny_getItem_of (kV_is ry) dd.mapOf hw (h w' _ (I.tok _) rw')
 ·subst ey
  cases (show u=Value.ref b from ry)
  obtain⟨z,hd,xs,rel,dd⟩:=dt_rd I.hok e
  obtain⟨w',hw,rw'⟩:=RelO.some_of (v:=v) (o:=(atKey xs k).map (·.2)) (by rw[l]; exact rel.val k)
  obtain⟨p,hp,hp2⟩:=Option.map_eq_some_iff.mp hw
  refine wpAny_getItem_heap (ft hu) (jGX I.hok eb) dd hp ?_
  rw[hp2]
  exact h w' _ (I.tok _) rw'
theorem jOC {Q:Value->Shared->Prop}(hu:A.units+1<cLine)(I:Inv X pins σ H s)(g:DGet H a y o)(ry:RelV y u)(h:∀ s',Inv X pins σ H s'->Q (.bool (!o.isSome)) s'):
  wpAny (model X.prog X.w) A (compareOp .NotIn u (.ref a)) Q E s:=by
 rcases g with ⟨kvs,k,e,ey,l⟩ | ⟨kvs,k,b,e,ey,eb,l⟩
 ·subst ey
  obtain⟨z,hd,vs,rel,dd⟩:=dk_rd I.hok e
  refine wpAny_notIn_of (kV_is ry) hd dd.mapOf ?_
  rw[<- (rel.val k).isSome_eq,<- l]
  exact h _ (I.tok _)
 ·subst ey
  cases (show u=Value.ref b from ry)
  obtain⟨z,hd,xs,rel,dd⟩:=dt_rd I.hok e
  refine wpAny_notIn_heap (ft hu) (jGX I.hok eb) hd dd ?_
  have q:=(rel.val k).isSome_eq
  rw[isSome_map] at q
  rw[<- q,<- l]
  exact h _ (I.tok _)
theorem jG5 {h':Heap}{t':Nat}{ob:HO}(I:Inv X pins σ H s)(mu:Mut (H a))(hs:Heap.SameBut a s.heap h')(he:∃ q,h'.get? a=some q)(new:ObjOk X.prog X.w (upd H a ob) h' a ob):
  Inv X pins σ (upd H a ob) { s with heap:=h',toks:=t'} :=
 I.write (x:=a) (e:=a) mu (.inl rfl) (fun b q hb z=>(hs.2 b hb).trans z) he new
theorem jM9 {P:Program}{w:World}{H':Hp}{h':Heap}{kvs:List (Key×V)}{vs:List (Key×Value)}(z:kvs.length<=sizeLine)(hd:(a==sysModules)=false)(rel:KV kvs vs)(dd:h'.DictOf (kD P w) a vs):
  ObjOk P w H' h' a (.dK kvs):=⟨z,hd,vs,rel,dd⟩
theorem jJU {H':Hp}{Q:Unit->Shared->Prop}(hu:A.units+1<cLine)(I:Inv X pins σ H s)(g:DPut H a y v H')(ry:RelV y u)(rv:RelV v r)(h:∀ s',Inv X pins σ H' s'->Q () s'):
  wpAny (model X.prog X.w) A (setItem (.ref a) u r) Q E s:=by
 rcases g with ⟨kvs,k,e,ey,l,eH⟩ | ⟨kvs,k,b,e,ey,eb,l,eH⟩
 ·subst ey eH
  obtain⟨z,hd,vs,rel,dd⟩:=dk_of I.hok e
  have hz:vs.length<=sizeLine:=by rw[<- rel.length]; exact z
  have hl:(putK kvs k v).length<=sizeLine:=by have:=jBH kvs k v; omega
  refine wpAny_setItem_pairs (hsz:=hz) (kV_is ry) dd fun h' dd' hs=>h _ ?_
  have he:∃ q,h'.get? a=some q:=let ⟨q,_,_,hq,_⟩:=dd'; ⟨q,hq⟩
  exact jG5 I (by rw[e]; exact True.intro) hs he (jM9 hl hd (rel.put k rv) dd')
 ·subst ey eH
  cases (show u=Value.ref b from ry)
  obtain⟨z,hd,xs,rel,dd⟩:=dt_of I.hok e
  have hz:xs.length<=sizeLine:=by rw[<- Paired.length rel]; exact z
  have hl:(putK kvs k v).length<=sizeLine:=by have:=jBH kvs k v; omega
  refine wpAny_setItem_heap (hsz:=hz) (ft hu) (jGX I.hok eb) dd fun h' dd' hs=>h _ ?_
  obtain⟨q,es,ep,hq,h2,h3,h4,_,h5⟩:=dd'
  refine jG5 I (by rw[e]; exact True.intro) hs ⟨q,hq⟩ ⟨hl,hd,_,(rel.put k eb rv).keeps fun c ys ec=>?_,q,es,ep,hq,h2,h3,h4,h5⟩
  rw[jA (ne_of ec e (fun z=>nomatch z))]
  exact ec
end
section
variable {X:Cx}{pins:List (Addr×Obj)}{σ:St}{H:Hp}{s:Shared}{a:Addr}{kvs:List (Key×V)}{k:Key}{u:Value}{A:Around}{E:Value->Shared->Prop}
end
def NoSl (i:Expr):Prop:=∀ ov iv,subscripted i false ov iv=operate [ov,iv] (getItem ov iv)
theorem jMK {prog:Program}{w:World}{A:Around}{E:Value->Shared->Prop}{s:Shared}{env:Env}{value slice:Expr}{pos:Pos}{T id:String}{Q:Value->Shared->Prop}
  (hl:typeLookup (.type T) "__getitem__" =pure (some (.builtin id))) (hs:NoSl slice)
  (h:wpAny (model prog w) A (eval value env) (fun o s₁=>wpAny (model prog w) A (eval slice env) (fun i s₂=>s₂.TypeIs o T/\wpAny (model prog w) A (getItem o i) Q E s₂) E s₁) E s):
  wpAny (model prog w) A (eval (.Subscript value slice pos) env) Q E s:=by
 refine Subscript_ (b0 h (fun o s₁ h₁=>b0 h₁ (fun i s₂ h₂=>?_) fun _ _ x=>x) fun _ _ x=>x)
 obtain⟨hT,h₂⟩:=h₂
 unfold subscriptTail
 refine ah ?_
 rw[getitemInPython_of_ne hT.not_modules]
 refine ah (wpAny_specialOf hT hl ?_)
 have fin:wpAny (model prog w) A (subscripted slice false o i) (fun r s₃=>wpAny (model prog w) A (letTemporaryGo value o r >>= fun _=>pure r) Q E s₃) E s₂:=by
  rw[hs o i]
  exact wpAny_operating (b0 h₂ (fun r s₃ h₃=>ah (wpAny_letTemporaryGo (aV h₃))) fun _ _ x=>x)
 first
  | exact aV (ah fin)
  | exact ah (aV (ah fin))
  | exact ah fin
theorem jG4 {X:Cx}{pins:List (Addr×Obj)}{σ:St}{H:Hp}{s:Shared}{a:Addr}{y:V}{o:Option V}(I:Inv X pins σ H s)(g:DGet H a y o):s.TypeIs (.ref a) "dict" :=by
 rcases g with ⟨kvs,k,e,_,_⟩ | ⟨kvs,k,b,e,_,_,_⟩
 ·obtain⟨_,_,vs,_,dd⟩:=dk_rd I.hok e
  exact dd.typeIs
 ·obtain⟨_,_,xs,_,dd⟩:=dt_rd I.hok e
  exact dd.typeIs
def tDGet (td ty:TE):TE:=fun σ H Q=>td σ H fun x H1=>ty σ H1 fun y H2=>∃ a v,x= .ref a/\DGet H2 a y (some v)/\Q v H2
def jI8 (ty td:TE):TE:=fun σ H Q=>ty σ H fun y H1=>td σ H1 fun x H2=>∃ a o,x= .ref a/\DGet H2 a y o/\Q (.bl (!o.isSome)) H2
def sDPut (td ty tv:TE):TS:=fun D σ H=>tv σ H fun v H1=>td σ H1 fun x H2=>ty σ H2 fun y H3=>∃ a H4,x= .ref a/\DPut H3 a y v H4/\D.nx σ H4
section
variable {X:Cx}{o i e value:Expr}{pos pos' tpos:Pos}{td ty tv:TE}
theorem jN9 (hu:X.A.units+1<cLine)(ho:PE X o td)(hi:PE X i ty)(hs:NoSl i):PE X (.Subscript o i pos) (tDGet td ty):=by
 intro pins s σ H Q I h
 refine jMK PySem.F.slot_dict_getitem.lookup hs (thn (ho pins s σ H _ I h) fun u s1 ⟨x,H1,I1,rx,q1⟩=>thn (hi pins s1 σ H1 _ I1 q1) fun iv s2 ⟨y,H2,I2,ry,a,v,ex,g,q2⟩=>?_)
 subst ex
 obtain rfl:u=Value.ref a:=rx
 exact⟨jG4 I2 g,jJV hu I2 g ry fun w' s3 I3 rw'=>⟨v,H2,I3,rw',q2⟩⟩
theorem jIO (hu:X.A.units+1<cLine)(hi:PE X i ty)(ho:PE X o td):PC X .NotIn i o (jI8 ty td):=by
 intro pins s σ H Q I h
 refine thn (hi pins s σ H _ I h) fun iv s1 ⟨y,H1,I1,ry,q1⟩=>thn (ho pins s1 σ H1 _ I1 q1) fun u s2 ⟨x,H2,I2,rx,a,ov,ex,g,q2⟩=>?_
 subst ex
 obtain rfl:u=Value.ref a:=rx
 exact jOC hu I2 g ry fun s3 I3=>⟨.bl (!ov.isSome),H2,I3,rfl,q2⟩
theorem jN0 (hu:X.A.units+1<cLine)(ho:PE X o td)(hi:PE X i ty)(hv:PE X value tv)(hs:swapsWith value (some (.Subscript o i pos')) pos.line X.env=pure false):
  PS X (.Assign [.Subscript o i pos'] value pos) (sDPut td ty tv):=by
 intro pins s σ H D I h
 refine wpAny_Assign_Subscript (thn (hv pins s σ H _ I h) fun r s1 ⟨v,H1,I1,rv,q1⟩=>thn (ho pins s1 σ H1 _ I1 q1) fun u s2 ⟨x,H2,I2,rx,q2⟩=>thn (hi pins s2 σ H2 _ I2 q2) fun iv s3 ⟨y,H3,I3,ry,a,H4,ex,g,q3⟩=>?_) hs
 subst ex
 obtain rfl:u=Value.ref a:=rx
 exact jJU hu I3 g ry rv fun s4 I4=>⟨σ,H4,I4,q3⟩
end
theorem jLD {P:Program}{w:World}{H:Hp}(h:Heap)(hb:sysModules<h.objs.size):ObjOk P w H (h.push { cls:= .type "dict",data:= .dict #[]}) h.objs.size (.dK []):=
 ⟨bH _,cD.mpr (bV (bu hb)),[], .nil,Heap.DictOf.new h⟩
section
variable {X:Cx}{pos:Pos}
end
def jI6:List (TE×TE)->St->Hp->(List (V×V)->Hp->Prop)->Prop
 | [],_,H,Q=>Q [] H
 | (tk,tv)::r,σ,H,Q=>tk σ H fun x H1=>tv σ H1 fun y H2=>jI6 r σ H2 fun ps H3=>Q ((x,y)::ps) H3
abbrev VV:List (V×V)->List (Value×Value)->Prop:=Paired fun p q=>RelV p.1 q.1/\RelV p.2 q.2
def PPs (X:Cx)(pos:Pos)(keys:List (Option Expr))(values:List Expr)(trs:List (TE×TE)):Prop:=
 ∀ (pins:List (Addr×Obj)) (s:Shared) (σ:St) (H:Hp) (Q:List (V×V)->Hp->Prop),Inv X pins σ H s->jI6 trs σ H Q->
  wpAny (model X.prog X.w) X.A (evalPairs (pairTrees keys values X.env pos)) (fun vs s'=>∃ ps H',Inv X pins σ H' s'/\VV ps vs/\Q ps H') X.xe s
theorem jN1 {X:Cx}{pos:Pos} :PPs X pos [] [] []:=fun pins s σ H Q I h=>pairTrees_nil_walk ⟨[],H,I, .nil,h⟩
theorem jKI {X:Cx}{pos:Pos}{k v:Expr}{ks:List (Option Expr)}{vs:List Expr}{tk tv:TE}{trs:List (TE×TE)}(hk:PE X k tk)(hv:PE X v tv)(hr:PPs X pos ks vs trs):
  PPs X pos (some k::ks) (v::vs) ((tk,tv)::trs):=fun pins s σ H Q I h=>
 pairTrees_cons_walk (thn (hk pins s σ H _ I h) fun u s1 ⟨x,H1,I1,rx,q1⟩=>thn (hv pins s1 σ H1 _ I1 q1) fun w2 s2 ⟨y,H2,I2,ry,q2⟩=>
  thn (hr pins s2 σ H2 _ I2 q2) fun ws s3 ⟨ps,H3,I3,rel,q3⟩=>⟨(x,y)::ps,H3,I3, .cons ⟨rx,ry⟩ rel,q3⟩)
def jF0 (kvs more:List (Key×V)):List (Key×V):=more.foldl (fun acc kv=>putK acc kv.1 kv.2) kvs
theorem KV.merge:∀ {more:List (Key×V)}{rs:List (Key×Value)}{kvs:List (Key×V)}{vs:List (Key×Value)},KV more rs->KV kvs vs->KV (jF0 kvs more) (merged vs rs):=by
 intro more rs kvs vs r
 unfold KV at r
 induction r generalizing kvs vs with
 | nil=>intro q; exact q
 | @cons p q ps qs h t ih=>
  intro r0
  have e:KV (putK kvs p.1 p.2) (stored vs q.1 q.2):=by
   have:=r0.put p.1 h.2
   rw[<- h.1]; exact this
  exact ih e
theorem jBS:∀ (more kvs:List (Key×V)),(jF0 kvs more).length<=kvs.length+more.length
 | [],kvs=>by show kvs.length<=kvs.length+0; omega
 | p::r,kvs=>by
  have h1:=jBS r (putK kvs p.1 p.2)
  have h2:=jBH kvs p.1 p.2
  show (jF0 (putK kvs p.1 p.2) r).length<=_
  rw[bq]; omega
theorem jDP {P:Program}{w:World} :∀ {kvs:List (Key×V)}{ws:List (Value×Value)},VV (kvs.map fun kv=>(kV kv.1,kv.2)) ws->∃ rs,Carries (kD P w) ws rs/\KV kvs rs
 | [],_,r=>by rw[gB] at r; cases r; exact⟨[],True.intro, .nil⟩
 | p::kvs,_,r=>by
  rw[ba] at r
  cases r with
  | @cons a b as bs h t=>
   obtain⟨rs,c,q⟩:=jDP (P:=P) (w:=w) t
   obtain⟨b1,b2⟩:=b
   exact⟨(p.1,b2)::rs,⟨kV_is h.1,rfl,c⟩, .cons ⟨rfl,h.2⟩ q⟩
def tDisp (trs:List (TE×TE)):TE:=fun σ H Q=>∀ p,H p=none->jI6 trs σ (upd H p (.dK [])) fun ps H2=>H2 p=some (.dK [])/\∃ kvs:List (Key×V),ps=kvs.map (fun kv=>(kV kv.1,kv.2))/\kvs.length<=15/\Q (.ref p) (upd H2 p (.dK (jF0 [] kvs)))
theorem jN8 {X:Cx}{pos:Pos}{keys:List (Option Expr)}{values:List Expr}{trs:List (TE×TE)}(h:PPs X pos keys values trs)(hall:keys.all (·.isSome)=true)(hl:keys.length=values.length)(h0:keys≠ [])
  (h15:keys.length<=15):PE X (.Dict keys values pos) (tDisp trs):=by
 intro pins s σ H Q I q
 have hn:=I.hok.fresh (az s.heap.objs.size)
 have I1:=I.laid (a:=s.heap.objs.size) (o:= .dK []) (h':=s.heap.push { cls:= .type "dict",data:= .dict #[]}) (t':=s.toks) (fun _ _ q=>am _ q) (az _) (jLD s.heap I.big)
 refine wpAny_Dict_walk (knd:=kD X.prog X.w) hall hl h0 h15 (thn (h pins _ σ _ _ I1 (q _ hn)) fun ws s2 ⟨ps,H2,I2,rel,e,kvs,ep,lk,q2⟩=>?_)
 subst ep
 obtain⟨rs,c,rk⟩:=jDP (P:=X.prog) (w:=X.w) rel
 obtain⟨z,hd,vs0,r0,dd⟩:=dk_of I2.hok e
 cases r0
 refine⟨rs,c,dd,fun h' dd' hs=>⟨.ref s.heap.objs.size,_,?_,rfl,q2⟩⟩
 have hz:(jF0 [] kvs).length<=sizeLine:=by
  have h1:=jBS kvs []
  rw[dZ] at h1
  rw[gQ]; omega
 have he:∃ q,h'.get? s.heap.objs.size=some q:=let ⟨q,_,_,hq,_⟩:=dd'; ⟨q,hq⟩
 exact jG5 I2 (by rw[e]; exact True.intro) hs he (jM9 hz hd (rk.merge .nil) dd')
section
variable {X:Cx}{pins:List (Addr×Obj)}{σ:St}{H:Hp}{s:Shared}{a:Addr}{y d:V}{u r:Value}{o:Option V}{A:Around}{E:Value->Shared->Prop}
end
section
variable {X:Cx}{o e f:Expr}{apos cpos:Pos}{td ty tx:TE}
end
section
variable {X:Cx}{pins:List (Addr×Obj)}{σ:St}{H:Hp}{s:Shared}{a:Addr}{kvs:List (Key×V)}{A:Around}{E:Value->Shared->Prop}
end
section
variable {X:Cx}{pins:List (Addr×Obj)}{σ:St}{H:Hp}{s:Shared}{a:Addr}{y:V}{u:Value}{A:Around}{E:Value->Shared->Prop}
end
section
variable {κ:Type} [DecidableEq κ]
end
section
variable {prog:Program}{w:World}{A:Around}{E:Value->Shared->Prop}{s:Shared}{d:Addr}{kvs:List (Key×Value)}
theorem jG8 {T:String}{r d:Addr}{n:Nat}{P:Nat->Value->Prop}{OK:Heap->Prop}{R:List Value->Shared->Prop}(K:PySem.W.KdlSrc prog w T r d n P OK)(hh:A.handled=none)(hok:OK s.heap)(hn:n<=sizeLine)
  (h:∀ (h':Heap) (tk:Nat) (acc:Array Value),(∀ b o,s.heap.get? b=some o->h'.get? b=some o)->s.heap.objs.size<h'.objs.size->ItemsOf P acc n->R acc.toList { s with heap:=h',toks:=tk}):
  wpAny (model prog w) A (collect (.ref r)) R E s:=by
 have hlt:=K.there _ hok
 unfold collect
 refine ah (wpAny_runValue (codeAny_builtin entry_proto_collect' ?_))
 rw[Around.under_plainId PySem.F.plain_proto_collect _]
 show wpAny _ A.in1 (newList [] >>= fun l=>again (.builtin "list.__iadd__" ⟨[l, .ref r],[]⟩)) _ _ s
 refine ah (eF ?_)
 refine aV ⟨plainId_quiet gj _,codeAny_builtin entry_list_iadd' ?_⟩
 rw[Around.under_plainId gj _]
 have hS:(s.heap.push { cls:= .type "list",data:= .seq ([]:List Value).toArray}).get? s.heap.objs.size=some { cls:= .type "list",data:= .seq #[]} :=aQ _ rfl
 show wpAny _ A.in1 (Builtin.List.listExtendWith (.ref s.heap.objs.size) (.ref r) (.ref s.heap.objs.size)) _ _ _
 refine b0 (PySem.W.kdl_extend (A:=A) (s:= { s with heap:=s.heap.push { cls:= .type "list",data:= .seq ([]:List Value).toArray}})
  (R:=fun (q:Result) (s':Shared)=>∃ (h':Heap) (tk:Nat) (acc:Array Value) (c:Nat),q= .ok (.ret (.ref s.heap.objs.size))/\s'= { s with heap:=h',toks:=tk} /\
   (∀ b o,s.heap.get? b=some o->h'.get? b=some o)/\h'.get? s.heap.objs.size=some { cls:= .type "list",dict:=none,data:= .seq acc c,slots:=#[]} /\ItemsOf P acc n)
  K hh (K.keep _ _ hok fun b _ o e=>am _ e) s.heap.objs.size (ff hlt.1) (ff hlt.2) (.ref s.heap.objs.size) 0 hS
  (fun h' tk acc c hk hS' hacc=>⟨h',tk,acc,c,rfl,rfl,fun b o e=>hk b o (bu (aL e)) (am _ e),hS',hacc⟩) hn) (fun fin s' x=>?_) fun e s' x=>?_
 ·cases fin with
  | done f=>
   obtain⟨h',tk,acc,c,e,rfl,hk,hS',hacc⟩:=x
   cases e
   show wpAny _ A (load s.heap.objs.size >>= _) _ _ _
   exact ah (wpAny_load hS' (aV (h h' tk acc hk (aL hS') hacc)))
  | again c1=>
   refine⟨x.1,fg x.2 fun q s2 y=>?_⟩
   obtain⟨h',tk,acc,c,rfl,rfl,hk,hS',hacc⟩:=y
   show wpAny _ A (load s.heap.objs.size >>= _) _ _ _
   exact ah (wpAny_load hS' (aV (h h' tk acc hk (aL hS') hacc)))
 ·obtain⟨_,_,_,_,e',_⟩:=x
  cases e'
end
section
variable {X:Cx}{o i e f value:Expr}{td ty tv tx:TE}{pos pos' apos cpos:Pos}
theorem jC4 (hu:X.A.units+1<cLine)(ho:JE X o td)(hi:JE X i ty)(hs:jAT i):JE X (.Subscript o i pos) (tDGet td ty):=⟨jN9 hu ho.h hi.h hs⟩
theorem jFY (hu:X.A.units+1<cLine)(ho:JE X o td)(hi:JE X i ty)(hv:JE X value tv)(hs:SwOk value (some (.Subscript o i pos'))):JS X (.Assign [.Subscript o i pos'] value pos) (sDPut td ty tv):=⟨jN0 hu ho.h hi.h hv.h (hs.h _ _)⟩
end
section
variable {prog:Program}{w:World}{A:Around}{E:Value->Shared->Prop}{s:Shared}
end
section
variable {prog:Program}{w:World}{K:Type} [DecidableEq K]{knd:KeyKind prog w K}{A:Around}{R:Result->Shared->Prop}{I:Addr}{fp wr:List Addr}{n:Nat}{P:Nat->Value->Prop}{St:Nat->Shared->Prop}
end
section
variable {prog:Program}{w:World}{K:Type} [DecidableEq K]{knd:KeyKind prog w K}{A:Around}{E:Value->Shared->Prop}{s:Shared}
end
section
variable {X:Cx}
end
section
variable {X:Cx}
end
section
variable {P:Program}{w:World}{K:W.Frag}{mg:Str->Option Value}{base:Heap}{N:List Str}{qual:Str}{sc:Scope}{f:Addr}{cd:Value}{cl:List (Str×Addr)}{A:Around}{outer:List Env}{s:Shared}{H:Hp}{x:Str}
theorem gl_n (h:sc.names.lookup x=some .globalImplicit):Gl1 (cxN P w K mg base N qual sc f cd cl A outer s H) x:=⟨h⟩
theorem vis_n (h:sc.names.lookup x=some .local):Vis1 (cxN P w K mg base N qual sc f cd cl A outer s H) x:=⟨.inl h⟩
end
section
variable {X:Cx}
def AtS (tp:Bool)(H:Hp)(a:Addr)(xs:List V):Prop:=match tp with
 | false=>H a=some (.lst xs)
 | true=>H a=some (.tup xs)
end
section
variable {K:W.Frag}{m:List (Option Nat)}{g:TG}{tt:TT}{te:TE}{σ:St}{H1:Hp}{Q:VK}
theorem jJZ {a:Addr}{xs:List V}(hn:xs.length<sizeLine)(Pv:Addr->Nat->St->Hp->List V->Prop)(h0:∀ D,H1 D=none->Pv D 0 (blkσ m σ) (upd H1 D (.lst [])) [])
  (hD:∀ D i σ' H' zs,H1 D=none->Pv D i σ' H' zs->H' a=some (.lst xs)/\H' D=some (.lst zs)/\zs.length<=i)
  (hs:∀ D i σ' H' zs x,H1 D=none->xs[i]?=some x->Pv D i σ' H' zs->g x σ' H' fun σ2 H2=>tt σ2 H2 fun b H3=>if b=true then te σ2 H3 fun v H4=>H4 D=some (.lst zs)/\Pv D (i+1) σ2 (upd H4 D (.lst (zs++[v]))) (zs++[v]) else Pv D (i+1) σ2 H3 zs)
  (hd:∀ D σ' H' zs,H1 D=none->Pv D xs.length σ' H' zs->Q (.ref D) H'):CompW m g tt te σ Q (Itl K a) H1:=by
 intro D hDn
 refine⟨fun i k σ' H' zs=>k=xs.length - i/\i<=xs.length/\Pv D i σ' H' zs,⟨_,rfl,bH _,h0 D hDn⟩,?_⟩
 rintro i k σ' H' zs ⟨rfl,hi,p⟩
 obtain⟨s1,q1,q2⟩:=hD D i σ' H' zs hDn p
 refine⟨q1,by omega,?_⟩
 by_cases hlt:i<xs.length
 ·refine .inr ⟨⟨xs,xs[i],SqL.of s1,by simp [hlt]⟩,Pv D (i+1),fun σ2 H2 zs z=>⟨xs.length - (i+1),by omega,rfl,hlt,z⟩,fun v H'' y=>?_⟩
  obtain⟨e1,e2⟩:=y
  subst e1
  exact hs D i σ' _ zs v hDn (e2 xs (SqL.of s1)) p
 ·have e:i=xs.length:=by omega
  subst e
  exact .inl ⟨⟨xs,SqL.of s1,az _⟩,hd D σ' H' zs hDn p⟩
end
theorem ExtT.of {T:Addr}{H H':Hp}(e:Ext H H'):ExtT T H H':=fun b o h _=>e b o h
theorem ExtT.trans {T:Addr}{H H' H'':Hp}(a:ExtT T H H')(b:ExtT T H' H''):ExtT T H H'':=fun c o h n=>b c o (a c o h n) n
theorem TabOk.is {H:Hp}{T:Addr}{pos:Pos}{q:Str}(t:TabOk H T pos q):∃ ps,H T=some (.tbl ps):=by
 rcases t with h | ⟨c,h,_⟩
 ·exact⟨_,h⟩
 ·exact⟨_,h⟩
theorem TabOk.ne {H:Hp}{T:Addr}{pos:Pos}{q:Str}(t:TabOk H T pos q){b:Addr}{o:HO}(h:H b=some o)(ho:∀ ps,o≠ .tbl ps):b≠T:=fun e=>by
 obtain⟨ps,z⟩:=t.is
 rw[e,z] at h
 cases h
 exact ho ps rfl
theorem TabOk.ext {H H':Hp}{T:Addr}{pos:Pos}{q:Str}(t:TabOk H T pos q)(e:Ext H H'):TabOk H' T pos q:=by
 rcases t with h | ⟨c,h,h2⟩
 ·exact .inl (e _ _ h)
 ·exact .inr ⟨c,e _ _ h,e _ _ h2⟩
theorem ExtT.at {T:Addr}{H H':Hp}(e:ExtT T H H'){pos:Pos}{q:Str}(t:TabOk H T pos q){b:Addr}{o:HO}(h:H b=some o)(ho:∀ ps,o≠ .tbl ps:=by intro _ z; cases z):H' b=some o:=e b o h (t.ne h ho)
structure FunC (K:W.Frag)(x qual:Str)(st:Stmt)(f:Addr)(fd:FuncData)(c0:Addr):Prop where
 ex:∃ (oc:Value) (od:Option Addr) (kV doc pm:Value) (an:Option Addr) (ct:Value) (osl:Array (Option Value)),fd=PySem.W.fnOf x qual (jF st) (jB st) (j7 st) .none kV doc pm an (.ref c0) ct/\K.lookup f=some ⟨oc,od, .func fd,osl⟩/\PySem.W.codeIn K (.ref c0) qual=true
theorem FunC.ok {P:Program}{w:World}{K:W.Frag}{mg:Str->Option Value}{base:Heap}{x qual:Str}{st:Stmt}{f c0:Addr}{fd:FuncData}{N ps:List Str}{k:Nat}{sp:Sp}(F:FunC K x qual st f fd c0)(S:FnScope N ps (j7 st))(len:∀ vs H Q E,sp vs H Q E->vs.length=ps.length)
  (hbody:∀ (A:Around) (outer:List Env) (s:Shared) (H:Hp) (vs:List V) (Q:VK) (E:XK),Room k (A.deeper (envOfC qual (j7 st) s.heap.objs.size f (.ref c0)))->sp vs H Q E->
   ∃ t,PSs (cxOf CX0 P w K mg base N qual (j7 st) f (.ref c0) A outer s H E).nox (jB st) t/\t { nx:=fun _ H'=>Q .non H',rt:=Q} (yH N vs) H):FnOk P w K mg base CX0 (k+1) f fd ps sp:=by
 obtain⟨oc,od,kV,doc,pm,an,ct,osl,rfl,lk,hcd⟩:=F.ex
 refine fn_of lk hcd S len fun A outer s H vs Q E hr hsp=>?_
 obtain⟨t,ht,hq⟩:=hbody A outer s H vs Q E hr hsp
 exact⟨t,ht.nox,hq⟩
section
variable {X:Cx}{sc:Scope}{cl:List (Str×Addr)}{C:Addr}{Nc:List Str}{fp:List Addr}{s:Shared}{H:Hp}
theorem jL8 {sc2:Scope}(h:(sc2.names.all fun y=>decide (y.2= .free->sc.names.lookup y.1=some .cell\/sc.names.lookup y.1=some .free))=true):
  ∀ y∈sc2.names,y.2= .free->(blk X sc cl C Nc fp s H).env.scope.names.lookup y.1=some .cell\/(blk X sc cl C Nc fp s H).env.scope.names.lookup y.1=some .free:=fun y hy hf=>by
 rcases aO (bE.mp h y hy) hf with q | q
 ·exact .inl (jAC (by decide) q)
 ·exact jB3 q
theorem jL0 {tg a:Expr}{ta:TE}(hl:JE (blk X sc cl C Nc fp s H) a ta):JI (blk X sc cl C Nc fp s H) tg a (iTup X.K ta):=jDC hl
variable {sc2:Scope}{cl2:List (Str×Addr)}{C2:Addr}{Nc2:List Str}{fp2:List Addr}{s2:Shared}{H2:Hp}
theorem jHQ:IxR (blk (blk X sc cl C Nc fp s H) sc2 cl2 C2 Nc2 fp2 s2 H2) (rIxL X.K):=jAH
theorem jG9:yP (blk X sc cl C Nc fp s H) (.type "tuple") (fun xs H Q=>∃ p ys,xs=[.ref p]/\((SqL X.K H p ys/\∀ l,H l=none->Q (.ref l) (upd H l (.tup ys)))\/(SqT X.K H p ys/\Q (.ref p) H))):=jA3
end
theorem jM2 {X:Cx}{st:Stmt} :JS X st (fun _ _ _=>False):=⟨fun _ _ _ _ _ _ h=>h.elim⟩
section
variable {K:W.Frag}{m:List (Option Nat)}{g:TG}{tt:TT}{te:TE}{σ:St}{H:Hp}{Q:VK}
abbrev TupsK (H H':Hp):Prop:=∀ b xs,H b=some (.tup xs)->H' b=some (.tup xs)
structure ZOk (Z:Hp->List V->Nat->Prop):Prop where
 z0:∀ H,Z H [] 0
 mono:∀ H H' zs j,TupsK H H'->Z H zs j->Z H' zs j
 len:∀ H zs j,Z H zs j->zs.length<=j
theorem jEK {H:Hp}{D:Addr}{zs:List V}(h:H D=some (.lst zs))(o:HO):TupsK H (upd H D o):=fun b xs hb=>by
 rw[jA (fun e=>by rw[e,h] at hb; cases hb)]
 exact hb
def TurnZ (g:TG)(tt:TT)(te:TE)(σP:St->Prop)(Z:Hp->List V->Nat->Prop)(x:V)(j:Nat)(σ':St)(H':Hp)(zs:List V):Prop:=
 ∀ (R:St->V->Hp->Prop) (S:St->Hp->Prop),(∀ σ2 v H2,σP σ2->Ext H' H2->Z H2 (zs++[v]) (j+1)->R σ2 v H2)->(∀ σ2 H2,σP σ2->Ext H' H2->Z H2 zs (j+1)->S σ2 H2)->
  g x σ' H' fun σ2 H2=>tt σ2 H2 fun b H3=>if b=true then te σ2 H3 (R σ2) else S σ2 H3
theorem jK0 {tp:Bool}{a:Addr}{xs:List V}(σP:St->Prop)(Z:Hp->List V->Nat->Prop)(zo:ZOk Z)(ha:AtS tp H a xs)(hn:xs.length<sizeLine)(h0:σP (blkσ m σ))
  (step:∀ j x σ' H' zs,xs[j]?=some x->σP σ'->Ext H H'->Z H' zs j->TurnZ g tt te σP Z x j σ' H' zs)
  (hd:∀ D H' zs,H' D=some (.lst zs)->Ext H H'->H D=none->Z H' zs xs.length->Q (.ref D) H'):CompW m g tt te σ Q (match tp with | false=>Itl K a | true=>Itt K a) H:=by
 have turn:∀ D j σ' H' zs x,H D=none->xs[j]?=some x->(σP σ'/\Ext H H'/\H' D=some (.lst zs)/\H D=none/\Z H' zs j)->g x σ' H' fun σ2 H2=>tt σ2 H2 fun b H3=>if b=true then te σ2 H3 fun v H4=>H4 D=some (.lst zs)/\(σP σ2/\Ext H (upd H4 D (.lst (zs++[v])))/\(upd H4 D (.lst (zs++[v]))) D=some (.lst (zs++[v]))/\H D=none/\Z (upd H4 D (.lst (zs++[v]))) (zs++[v]) (j+1)) else (σP σ2/\Ext H H3/\H3 D=some (.lst zs)/\H D=none/\Z H3 zs (j+1)):=by
  rintro D j σ' H' zs x hD hx ⟨p,e,h2,hn,hz⟩
  exact step j x σ' H' zs hx p e hz _ _ (fun σ2 v H2 p2 e2 z2=>⟨e2 _ _ h2,p2,(e.trans e2).updNew hn _,j8,hn,zo.mono _ _ _ _ (jEK (e2 _ _ h2) _) z2⟩) fun σ2 H2 p2 e2 z2=>⟨p2,e.trans e2,e2 _ _ h2,hn,z2⟩
 cases tp with
 | false=>exact jJZ (xs:=xs) hn (fun D j σ' H' zs=>σP σ'/\Ext H H'/\H' D=some (.lst zs)/\H D=none/\Z H' zs j) (fun D hD=>⟨h0,(Ext.refl _).new hD _,j8,hD,zo.z0 _⟩) (fun D j σ' H' zs hD ⟨_,e,h2,_,hz⟩=>⟨e _ _ ha,h2,zo.len _ _ _ hz⟩) turn fun D σ' H' zs hD ⟨_,e,h2,hn,hz⟩=>hd D H' zs h2 e hn hz
 | true=>exact jEA (xs:=xs) hn (fun D j σ' H' zs=>σP σ'/\Ext H H'/\H' D=some (.lst zs)/\H D=none/\Z H' zs j) (fun D hD=>⟨h0,(Ext.refl _).new hD _,j8,hD,zo.z0 _⟩) (fun D j σ' H' zs hD ⟨_,e,h2,_,hz⟩=>⟨e _ _ ha,h2,zo.len _ _ _ hz⟩) turn fun D σ' H' zs hD ⟨_,e,h2,hn,hz⟩=>hd D H' zs h2 e hn hz
theorem jH7 {a:Addr}{xs:List V}(σP:St->Prop)(Z:Hp->List V->Nat->Prop)(zo:ZOk Z)(ha:H a=some (.tup xs))(hn:xs.length<sizeLine)(h0:σP (blkσ m σ))
  (step:∀ j x σ' H' zs,xs[j]?=some x->σP σ'->Ext H H'->Z H' zs j->TurnZ g tt te σP Z x j σ' H' zs)
  (hd:∀ D H' zs,H' D=some (.lst zs)->Ext H H'->H D=none->Z H' zs xs.length->Q (.ref D) H'):CompW m g tt te σ Q (Itt K a) H:=jK0 (tp:=true) σP Z zo ha hn h0 step hd
theorem jB5 {a:Addr}{xs:List V}(σP:St->Prop)(Z:Hp->List V->Nat->Prop)(zo:ZOk Z)(ha:H a=some (.lst xs))(hn:xs.length<sizeLine)(h0:σP (blkσ m σ))
  (step:∀ j x σ' H' zs,xs[j]?=some x->σP σ'->Ext H H'->Z H' zs j->TurnZ g tt te σP Z x j σ' H' zs)
  (hd:∀ D H' zs,H' D=some (.lst zs)->Ext H H'->H D=none->Z H' zs xs.length->Q (.ref D) H'):CompW m g tt te σ Q (Itl K a) H:=jK0 (tp:=false) σP Z zo ha hn h0 step hd
theorem jEC {n:Nat}(σP:St->Prop)(Z:Hp->List V->Nat->Prop)(zo:ZOk Z)(hn:n<sizeLine)(h0:σP (blkσ m σ))
  (step:∀ j σ' H' zs,j<n->σP σ'->Ext H H'->Z H' zs j->TurnZ g tt te σP Z (.int (0+j)) j σ' H' zs)
  (hd:∀ D H' zs,H' D=some (.lst zs)->Ext H H'->H D=none->Z H' zs n->Q (.ref D) H'):CompW m g tt te σ Q (Itr 0 n) H:=by
 refine jEB (lo:=0) (n:=n) hn (fun D j σ' H' zs=>σP σ'/\Ext H H'/\H' D=some (.lst zs)/\H D=none/\Z H' zs j) (fun D hD=>⟨h0,(Ext.refl _).new hD _,j8,hD,zo.z0 _⟩) (fun D j σ' H' zs hD hj ⟨_,e,h2,_,hz⟩=>⟨h2,zo.len _ _ _ hz⟩) ?_ fun D σ' H' zs hD ⟨_,e,h2,hn,hz⟩=>hd D H' zs h2 e hn hz
 rintro D j σ' H' zs hD hj ⟨p,e,h2,hn,hz⟩
 exact step j σ' H' zs hj p e hz _ _ (fun σ2 v H2 p2 e2 z2=>⟨e2 _ _ h2,p2,(e.trans e2).updNew hn _,j8,hn,zo.mono _ _ _ _ (jEK (e2 _ _ h2) _) z2⟩) fun σ2 H2 p2 e2 z2=>⟨p2,e.trans e2,e2 _ _ h2,hn,z2⟩
end
def outZ {α:Type}(l:List α)(p:α->Bool)(f:α->V):Hp->List V->Nat->Prop:=fun _ zs j=>zs=((l.take j).filter p).map f
theorem outZ.ok {α:Type}(l:List α)(p:α->Bool)(f:α->V):ZOk (outZ l p f):=⟨fun _=>rfl,fun _ _ _ _ _ h=>h,fun _ zs j h=>by
 rw[show zs=_ from h,aa]
 exact bD (cY _ _) (cF _ _)⟩
theorem outZ.yes {α:Type}{l:List α}{p:α->Bool}{f:α->V}{H H':Hp}{zs:List V}{j:Nat}{x:α}(h:outZ l p f H zs j)(hx:l[j]?=some x)(hp:p x=true):outZ l p f H' (zs++[f x]) (j+1):=by
 show _=_
 rw[bo,hx,cV,aK,<- show zs=_ from h]
 simp [hp]
theorem outZ.no {α:Type}{l:List α}{p:α->Bool}{f:α->V}{H H':Hp}{zs:List V}{j:Nat}{x:α}(h:outZ l p f H zs j)(hx:l[j]?=some x)(hp:p x=false):outZ l p f H' zs (j+1):=by
 show _=_
 rw[bo,hx,cV,aK,<- show zs=_ from h]
 simp [hp]
theorem outZ.all {α:Type}{l:List α}{p:α->Bool}{f:α->V}{H:Hp}{zs:List V}{n:Nat}(h:outZ l p f H zs n)(hn:l.length<=n):zs=(l.filter p).map f:=by
 rw[show zs=_ from h,bG hn]
def mapZ {α:Type}(l:List α)(f:α->V):Hp->List V->Nat->Prop:=fun _ zs j=>zs=(l.take j).map f
theorem mapZ.ok {α:Type}(l:List α)(f:α->V):ZOk (mapZ l f):=⟨fun _=>rfl,fun _ _ _ _ _ h=>h,fun _ zs j h=>by
 rw[show zs=_ from h,aa]
 exact cF _ _⟩
theorem mapZ.yes {α:Type}{l:List α}{f:α->V}{H H':Hp}{zs:List V}{j:Nat}{x:α}(h:mapZ l f H zs j)(hx:l[j]?=some x):mapZ l f H' (zs++[f x]) (j+1):=by
 show _=_
 rw[bo,hx,aK,<- show zs=_ from h]
 rfl
theorem mapZ.all {α:Type}{l:List α}{f:α->V}{H:Hp}{zs:List V}{n:Nat}(h:mapZ l f H zs n)(hn:l.length<=n):zs=l.map f:=by
 rw[show zs=_ from h,bG hn]
theorem jH0 {l:List Int}{j:Nat}{x:V}(h:(l.map V.int)[j]?=some x):∃ z:Int,l[j]?=some z/\x=V.int z:=by
 rw[aA] at h
 cases hq:l[j]? with
 | none=>rw[hq] at h; cases h
 | some z=>rw[hq] at h; cases h; exact⟨z,rfl,rfl⟩
theorem jNW {X:Cx}{e:Expr}{te:TE}{x:Str}{pos:Pos}{i:Nat}{pos':Pos}(hN:X.N.Nodup)(hi:X.N[i]?=some x)(hx:Loc1 X x)(he:JE X e te)(hs:swapsWith e (some (.Name x pos')) pos.line X.env=pure false):JS X (.Assign [.Name x pos'] e pos) (tAsg te (kO i)):=⟨jD3 hN hi hx.a he.h hs hx.b⟩
section
variable {X:Cx}{sc:Scope}{cl:List (Str×Addr)}{C:Addr}{Nc:List Str}{fp:List Addr}{s:Shared}{H:Hp}
end
section
variable {X:Cx}{st:Stmt}{sts:List Stmt}{t:TS}{e:Expr}{tt:TT}
end
end L2
namespace L2
open PySem PySem.Spec PyProof.Rows
end L2
namespace L2
open PySem
end L2
namespace L2
open PySem PySem.Spec PyProof.Rows
section
variable {m:List (Option Nat)}{g:TG}{tt:TT}{te:TE}{σ:St}{H1:Hp}{Q:VK}
end
open PySem.AutoSeq1 (wpAny_loadPart')
section
variable {prog:Program}{w:World}{A:Around}{E:Value->Shared->Prop}{s:Shared}
end
section
variable {X:Cx}
variable {sc:Scope}{cl:List (Str×Addr)}{C:Addr}{Nc:List Str}{fp:List Addr}{s:Shared}{H:Hp}
end
structure FnZ (P:Program)(w:World)(K:W.Frag)(mg:Str->Option Value)(base:Heap)(CX:CXT)(Z:Shared->Hp->Prop)(k:Nat)(f:Addr)(fd:FuncData)(ps:List Str)(sp:Sp):Prop where
 len:∀ vs H Q E,sp vs H Q E->vs.length=ps.length
 run:∀ (A:Around) (outer:List Env) (s:Shared) (H:Hp) (args:Args) (us:List Value) (vs:List V) (Q:VK) (E:XK),Room k A->Env0 P w K mg base A outer s H->BindsTo s fd args (ps.zip us)->Vals vs us->Z s H->sp vs H Q E->
  codeAny (model P w) A (.call (.ref f) args) (CR CX outer P w H s Q E) s
theorem jQ2 {Z:Shared->Hp->Prop}{CX:CXT}{P:Program}{w:World}{K:W.Frag}{mg:Str->Option Value}{base:Heap}{k:Nat}{f:Addr}{name qual:Str}{params:Arguments}{body:List Stmt}{scope:Scope}{dV kV doc pm cdv ct oc:Value}{an od:Option Addr}
  {osl:Array (Option Value)}{N ps:List Str}{sp:Sp}(lk:K.lookup f=some ⟨oc,od, .func (PySem.W.fnOf name qual params body scope dV kV doc pm an cdv ct),osl⟩) (hcd:PySem.W.codeIn K cdv qual=true) (S:FnScope N ps scope)
  (len:∀ vs H Q E,sp vs H Q E->vs.length=ps.length)
  (hbody:∀ (A:Around) (outer:List Env) (s:Shared) (H:Hp) (vs:List V) (Q:VK) (E:XK),Room k (A.deeper (envOfC qual scope s.heap.objs.size f cdv))->Z s H->sp vs H Q E->
   ∃ t,PSs (cxOf CX P w K mg base N qual scope f cdv A outer s H E) body t/\t { nx:=fun _ H'=>Q .non H',rt:=Q} (yH N vs) H):
  FnZ P w K mg base CX Z (k+1) f (PySem.W.fnOf name qual params body scope dV kV doc pm an cdv ct) ps sp:=by
 refine⟨len,fun A outer s H args us vs Q E hr e0 hb r hz hsp=>?_⟩
 have hl:=len _ _ _ _ hsp
 have KX:K.In s.heap:=e0.mod.kin.keeps fun b o e=>(e0.bs b o e).1
 have lim:s.heap.NoLimit:=e0.mod.nolimit.keeps fun b o e=>(e0.bs b o e).1
 have hkind:∀ y∈ps.zip us,scope.names.lookup y.1=some .local\/(scope.names.lookup y.1=some .cell/\((cellsFrom (s.heap.objs.size+1) scope.names []).lookup y.1).isSome=true):=fun ⟨n,v⟩ hy=>by
  rcases S.par n (dC hy).1 with q | q
  ·exact .inl q
  ·exact .inr ⟨q,eD _ _ _ (.inl q)⟩
 refine codeAny_call_function hr.depth (KX _ _ lk) rfl S.co S.gen rfl (g8 KX hcd) (hb _ _ _ _ ?_)
 refine fq S.kind hkind fun env he s1 x=>?_
 subst he
 refine⟨lim.keeps x.toInCall.keep,codeAny_func ?_⟩
 obtain⟨t,ht,hq⟩:=hbody A outer s H vs Q E (hr.deeper _) hz hsp
 have I:Inv (cxOf CX P w K mg base N qual scope f cdv A outer s H E) [] (yH N vs) H s1:=jF8 S hr.hd e0 hl r x
 refine b0 (ht [] s1 (yH N vs) H _ I hq) (fun fl s' hs=>?_) fun e s' hs=>hs
 have fin:∀ {σ':St}{H':Hp}{v:V}{u:Value},Inv (cxOf CX P w K mg base N qual scope f cdv A outer s H E) [] σ' H' s'->RelV v u->Q v H'->CE outer P w H s Q u s':=
  fun {σ' H' v u} J rv q=>⟨v,H',J.os,J.bare,J.base,J.hok,rv,q⟩
 cases fl with
 | ret u=>
  obtain⟨v,σ',H',J,rv,q⟩:=hs
  exact fin J rv q
 | next=>
  obtain⟨σ',H',J,q⟩:=hs
  exact fin (v:=V.non) (u:=Value.none) J rfl q
 | brk=>
  obtain⟨_,_,_,q⟩:=hs
  exact False.elim q
 | cont=>
  obtain⟨_,_,_,q⟩:=hs
  exact False.elim q
def ZSt (Z:Shared->Hp->Prop):Prop:=∀ (fs:List Addr) (s s':Shared) (H H':Hp),Un fs [] H H' s.heap s'.heap->Z s H->Z s' H'
abbrev ZT:Shared->Hp->Prop:=fun _ _=>True
theorem ZT.st:ZSt ZT:=fun _ _ _ _ _ _ _=>trivial
theorem FnZ.ok {P:Program}{w:World}{K:W.Frag}{mg:Str->Option Value}{base:Heap}{CX:CXT}{k:Nat}{f:Addr}{fd:FuncData}{ps:List Str}{sp:Sp}(F:FnZ P w K mg base CX ZT k f fd ps sp):FnOk P w K mg base CX k f fd ps sp:=
 ⟨F.len,fun A outer s H args us vs Q E hr he hb hv hs=>F.run A outer s H args us vs Q E hr he hb hv trivial hs⟩
section
variable {P:Program}{w:World}{K:W.Frag}{mg:Str->Option Value}{base:Heap}
theorem Fun.okZ {Z:Shared->Hp->Prop}{x qual:Str}{st:Stmt}{f:Addr}{fd:FuncData}{N ps:List Str}{k:Nat}{sp:Sp}(F:Fun K x qual st f fd)(S:FnScope N ps (j7 st))(len:∀ vs H Q E,sp vs H Q E->vs.length=ps.length)
  (hbody:∀ (cdv:Value) (A:Around) (outer:List Env) (s:Shared) (H:Hp) (vs:List V) (Q:VK) (E:XK),Room k (A.deeper (envOfC qual (j7 st) s.heap.objs.size f cdv))->Z s H->sp vs H Q E->
   ∃ t,PSs (cxOf CX0 P w K mg base N qual (j7 st) f cdv A outer s H E).nox (jB st) t/\t { nx:=fun _ H'=>Q .non H',rt:=Q} (yH N vs) H):FnZ P w K mg base CX0 Z (k+1) f fd ps sp:=by
 obtain⟨_,_,_,_,_,_,cdv,_,_,rfl,lk,hcd⟩:=F.ex
 refine jQ2 lk hcd S len fun A outer s H vs Q E hr hz hsp=>?_
 obtain⟨t,h,q⟩:=hbody cdv A outer s H vs Q E hr hz hsp
 exact⟨t,h.nox,q⟩
end
structure Callee (P:Program)(w:World)(K:W.Frag)(mg:Str->Option Value)(base:Heap)(Z:Shared->Hp->Prop)(zh:Hp->Prop)(k:Nat)(a:Addr)(sp:Sp):Prop where
 fn:∀ (A:Around) (outer:List Env) (s:Shared) (H:Hp),Env0 P w K mg base A outer s H->zh H->PySem.W.FnAt a s.heap
 run:∀ (A:Around) (outer:List Env) (s:Shared) (H:Hp) (us:List Value) (vs:List V) (Q:VK) (E:XK),Room k A->Env0 P w K mg base A outer s H->Z s H->zh H->Vals vs us->sp vs H Q E->codeAny (model P w) A (.call (.ref a) ⟨us,[]⟩) (CR CX0 outer P w H s Q E) s
def jOP (a:Addr)(zh:Hp->Prop)(sp:Sp)(j:Nat)(t:TA):TE:=fun σ H Q=>σ[j]?=some (some (.ref a))/\t σ H fun vs H1=>zh H1/\sp vs H1 Q E0
section
variable {X:Cx}{Z:Shared->Hp->Prop}{zh:Hp->Prop}{k:Nat}{a:Addr}{sp:Sp}{x:Str}{p pos:Pos}{e:Expr}{es:List Expr}{t:TA}{j:Nat}
theorem jL4 (F:Callee X.prog X.w X.K X.mg X.base Z zh k a sp)(hr:Room k X.A)(st:ZSt Z)(hz:Z X.s₀ X.H₀)(hex:X.ex=[])(hN:X.N[j]?=some x)(hv:Vis1 X x)
  (ha:JA X (e::es) t) (he:starEach (e::es) X.env=(false,eval e X.env)::starEach es X.env) (hdb:(x==("__debug__" :Str))=false:=by decide) (hcd:(x==("__classdict__" :Str))=false:=by decide) (hpl:(backTo pos (starEach es X.env)).any (·.1)=false:=by rfl):
  JE X (.Call (.Name x p) (e::es) [] pos) (jOP a zh sp j t):=by
 refine⟨fun pins s σ H Q I h=>?_⟩
 obtain⟨hj,h⟩:=h
 refine dy (thn (jIL (pos:=p) hN hv.a hdb hcd pins s σ H (fun v H'=>v= .ref a/\H'=H) I ⟨_,hj,rfl,rfl⟩) fun v s1 ⟨v',H1,I1,r1,q1,q2⟩=>?_)
 subst q1 q2
 cases (show v=Value.ref a from r1)
 have hX:=thn (ha.h pos pins s1 σ H1 _ I1 h) fun us s2 (z:AP X pins σ _ us s2)=>show PySem.W.FnAt a s2.heap/\wpAny (model X.prog X.w) X.A (call (.ref a) ([]++us)) (EP X pins σ Q) X.xe s2 from by
  obtain⟨vs,H2,I2,r,h1,h2⟩:=z
  have un:=I2.base
  rw[hex] at un
  refine⟨F.fn _ _ _ _ I2.env0 h1,wpAny_call (fg (F.run X.A X.stack s2 H2 us vs Q E0 hr I2.env0 (st _ _ _ _ _ un hz) h1 r h2) fun r s' hq=>?_)⟩
  cases r with
  | error e=>exact hq.elim
  | ok fl=>
   cases fl with
   | ret u=>exact I2.after hq
   | next=>exact False.elim hq
   | brk=>exact False.elim hq
   | cont=>exact False.elim hq
 rw[he] at hX ⊢
 exact PySem.W.callWith_of (by show ((false || (backTo pos (starEach es X.env)).any (·.1)) || false)=false; rw[hpl]; rfl) PySem.W.keeps_F (Calls.evalArgs_plain hX)
end
def nlP (q:Str)(args:Arguments)(body:Expr)(scope:Scope)(cl:List (Str×Addr))(a c:Addr):Heap->Prop:=fun h=>∃ pm ctv,h.get? a=some (kla_obj "<lambda>" q args body scope cl pm c ctv)
theorem nlP.stay {q:Str}{args:Arguments}{body:Expr}{scope:Scope}{cl:List (Str×Addr)}{a c:Addr}(h1 h2:Heap)(p:nlP q args body scope cl a c h1)(k:∀ o,h1.get? a=some o->h2.get? a=some o):nlP q args body scope cl a c h2:=by
 obtain⟨m,t,e⟩:=p
 exact⟨m,t,k _ e⟩
def tLam (q:Str)(args:Arguments)(body:Expr)(scope:Scope)(cl:List (Str×Addr))(T:Addr)(pos:Pos):TE:=fun _ H Q=>TabOk H T pos q/\∀ a c H',H' a=some (.ext (nlP q args body scope cl a c))->H' c=some (.ext (ncP q c))->H' T=some (.tbl (onePs pos c))->ExtT T H H'->H a=none->Q (.ref a) H'
theorem jPX {X:Cx}{args:Arguments}{body:Expr}{scope:Scope}{pos:Pos}{c0 T:Addr}(hcode:X.env.code= .ref c0)(CH:PySem.W.CodeHd X.base c0 T)(hbm:BltAt X.base X.mg)
  (hfree:∀ y∈scope.names,y.2= .free->X.env.scope.names.lookup y.1=some .cell\/X.env.scope.names.lookup y.1=some .free) (hdf:defaultsOf args X.env=([],[])):
  JE X (.Lambda args body scope pos) (tLam (X.env.qual++ "<lambda>") args body scope (jS X.env.cells scope.names []) T pos):=by
 refine⟨fun pins s σ H Q I h=>?_⟩
 obtain⟨tab,h⟩:=h
 refine PySem.W.kla_eval hdf ?_
 have hcl:closureFor scope X.env=pure (jS X.env.cells scope.names []):=jK1 fun y hy hz=>I.ok.has y.1 (hfree y hy hz)
 have hg:s.heap.Ns mainGlobals X.mg:=I.mod.glob.keeps I.bk
 have C:=CH.keeps I.bk
 have gT:∀ {ps:Array Value},H T=some (.tbl ps)->mainGlobals≠T:=fun hT z=>by
  obtain⟨o,es,ep,e,_⟩:=I.mod.glob
  have:=(I.bs _ _ e).2
  rw[z,hT] at this
  cases this
 have bT:∀ {ps:Array Value},H T=some (.tbl ps)->s.heap.BuiltinsAt X.mg T:=fun hT=>by
  obtain⟨bm,o,h1,h2,h3,h4,h5,h6,h7⟩:=hbm
  refine⟨bm,o,h1,h2,h3,fun z=>?_,(I.bs _ _ h4).1,h5,h6,h7⟩
  have:=(I.bs _ _ h4).2
  rw[z,hT] at this
  cases this
 rcases tab with hT | ⟨c,hT,hc⟩
 ·refine PySem.W.kla_makeFunction hcl I.ok.glob hg hcode C (I.hok T _ hT) trivial rfl (gT hT) (bT hT) fun c ctv h' tk k1 k2 k3 k4 k5=>?_
  obtain⟨oc,hoc⟩:=ncP.is (q:=X.env.qual++ "<lambda>") k4
  have I1:Inv X pins σ (upd (upd H T (.tbl (#[]++onePs pos c))) c (.ext (ncP (X.env.qual++ "<lambda>") c))) { s with heap:=h',toks:=tk} :=I.grown hT k1 k5 k2 k4 ⟨oc,hoc⟩ ncP.stay
  have I2:=I1.laidX (t':=tk) (a:=h'.objs.size) (φ:=nlP (X.env.qual++ "<lambda>") args body scope (jS X.env.cells scope.names []) h'.objs.size c) (h':=h'.push (kla_obj "<lambda>" (X.env.qual++ "<lambda>") args body scope (jS X.env.cells scope.names []) ((X.mg "__name__").getD .none) c ctv)) (fun b u q=>am _ q) (az _) ⟨_,ctv,aQ _ rfl⟩ ⟨_,aQ _ rfl⟩ nlP.stay
  have hcn:H c=none:=I.hok.fresh k2
  have han:H h'.objs.size=none:=I.hok.fresh (bD k2 (fe k3))
  have ca:c≠h'.objs.size:=bu k3
  have Tc:T≠c:=fun z=>by rw[z,hcn] at hT; cases hT
  have Ta:T≠h'.objs.size:=fun z=>by rw[z,han] at hT; cases hT
  refine⟨.ref _,_,I2,rfl,h _ c _ j8 (by rw[jA ca,j8]) (by rw[jA Ta,jA Tc,j8,Array.empty_append]) (fun b o e n=>?_) han⟩
  rw[jA (jD e han),jA (jD e hcn),jA n]
  exact e
 ·refine PySem.W.kla_makeFunctionHit (cv:= .ref c) hcl I.ok.glob hg hcode C (I.hok T _ hT) (by exact trivial) (by simp [codeAmong,rawInt]) (bT hT) fun ctv h' tk k1 k2=>?_
  have I2:=I.laidX (t':=tk) (a:=h'.objs.size) (φ:=nlP (X.env.qual++ "<lambda>") args body scope (jS X.env.cells scope.names []) h'.objs.size c) (h':=h'.push (kla_obj "<lambda>" (X.env.qual++ "<lambda>") args body scope (jS X.env.cells scope.names []) ((X.mg "__name__").getD .none) c ctv)) (fun b u q=>am _ (k1 b u q)) k2 ⟨_,ctv,aQ _ rfl⟩ ⟨_,aQ _ rfl⟩ nlP.stay
  have han:H h'.objs.size=none:=I.hok.fresh k2
  refine⟨.ref _,_,I2,rfl,h _ c _ j8 (by rw[jA (jD hc han)]; exact hc) (by rw[jA (jD hT han)]; exact hT) (fun b o e n=>?_) han⟩
  rw[jA (jD e han)]
  exact e
theorem jQ3 {P:Program}{w:World}{K:W.Frag}{mg:Str->Option Value}{base:Heap}{k:Nat}{q:Str}{args:Arguments}{body:Expr}{scope:Scope}{N ps fs:List Str}{sp:Sp}{cl:List (Str×Addr)}{fv:List V}{a c:Addr}(S:NScope N ps fs scope)(len:∀ vs H Q E,sp vs H Q E->vs.length=ps.length)
  (hb:∀ pm ctv (us:List Value),us.length=ps.length->bindArgs (PySem.W.kla_fn "<lambda>" q args body scope cl pm (.ref c) ctv) ⟨us,[]⟩=pure (ps.zip us))
  (hbody:∀ (A:Around) (outer:List Env) (s:Shared) (H:Hp) (vs:List V) (Q:VK) (E:XK),Room k (A.deeper (envX q scope s.heap.objs.size a (.ref c) cl))->sp vs H Q E->
   ∃ t,PE (cxN P w K mg base N q scope a (.ref c) cl A outer s H) body t/\t (jCZ N vs fv) H Q):
  Callee P w K mg base (fun s H=>ClOk cl s H/\FvOk fs fv cl s) (fun H=>H a=some (.ext (nlP q args body scope cl a c))/\H c=some (.ext (ncP q c))) (k+1) a sp:=by
 refine⟨fun A outer s H e z=>?_,fun A outer s H us vs Q E hr e0 hz zh r hsp=>?_⟩
 ·obtain⟨⟨m,t,g⟩,_,_⟩:=(show ObjOk P w H s.heap a (.ext _) from e.hok a _ z.1)
  exact⟨_,_,_,_,g⟩
 obtain⟨C,Fv⟩:=hz
 obtain⟨⟨pm,ctv,ho⟩,_,_⟩:=(show ObjOk P w H s.heap a (.ext _) from e0.hok a _ zh.1)
 obtain⟨hc,_,_⟩:=(show ObjOk P w H s.heap c (.ext _) from e0.hok c _ zh.2)
 have hl:us.length=ps.length:=r.length.symm.trans (len _ _ _ _ hsp)
 have lim:s.heap.NoLimit:=e0.mod.nolimit.keeps fun b o e=>(e0.bs b o e).1
 refine PySem.W.kla_callFunE hr.depth ho rfl S.co S.gen rfl hc ?_
 rw[hb pm ctv us hl]
 refine aV (wpAny_newFunctionEnv S.nocell (fun y hy=>S.par y.1 (dC hy).1) (fun h₁ hns hsb=>⟨lim.fresh _ hsb,?_⟩) S.kind)
 show codeAny _ _ (.expr body (envX q scope s.heap.objs.size a (.ref c) cl)) _ _
 have hk:∀ b o,s.heap.get? b=some o->h₁.get? b=some o:=fun b o e=>hsb.extBut b o (bu (aL e)) (am _ e)
 obtain⟨t,ht,hq⟩:=hbody A outer s H vs Q E (hr.deeper _) hsp
 have I:Inv (cxN P w K mg base N q scope a (.ref c) cl A outer s H) [] (jCZ N vs fv) H { s with heap:=h₁,toks:=s.toks+(ps.zip us).length} :=jHS S hr.hd e0 hl r C Fv hns hk
 refine PySem.W.kla_codeExpr (b0 (ht [] _ (jCZ N vs fv) H _ I hq) (fun u s' hs=>?_) fun e s' hs=>False.elim hs)
 obtain⟨v,H',J,rv,q⟩:=hs
 exact⟨v,H',J.os,J.bare,J.base,J.hok,rv,q⟩
end L2
end
section
namespace TM
open PySem PyProof.Rows
class Od where
 kd:SortKind
 ky:Keyed->Int
 is:Keyed->Prop
abbrev key [Od]:Keyed->Int:=Od.ky
abbrev IsI [Od]:Keyed->Prop:=Od.is
class LtOk (prog:Program) (w:World) (A:Around) (s:Shared) [Od]:Prop where
 lt:∀ {E:Value->Shared->Prop}{st:SortSt}{x y:Keyed}{Q:Option Bool->SortSt->Prop},kindOf st=Od.kd->IsI x->IsI y->Q (some (decide (key x<key y))) st->wpS (model prog w) A E s (lt' x y) Q st
variable [Od]
abbrev AllI (l:List Keyed):Prop:=∀ p∈l,IsI p
abbrev LE (x y:Keyed):Prop:=key x<=key y
def jBI:Bool->Keyed->Array Keyed->Nat->Nat->Nat->StateT SortSt Sem (Option Nat):=sortPriv% PySem.Builtin.gallop
def gallopB: { g:Bool->Keyed->Array Keyed->Nat->Nat->Nat->StateT SortSt Sem (Option Nat) // jBI=g} :=⟨fun _ _ _ _ _ _=>bind _ _,rfl⟩
theorem elP:(sortPriv% PySem.Builtin.elem)=elem':=rfl
theorem ltP:(sortPriv% PySem.Builtin.lt)=lt':=rfl
theorem ltAtP:(sortPriv% PySem.Builtin.ltAt)=ltAt':=rfl
theorem jG2:(sortPriv% PySem.Builtin.gallop)=jBI:=rfl
section
variable {prog:Program}{w:World}{A:Around}{E:Value->Shared->Prop}{s:Shared}
theorem jEH [LtOk prog w A s]{st:SortSt}{x y:Keyed}{Q:Option Bool->SortSt->Prop}(hk:kindOf st=Od.kd)(hx:IsI x)(hy:IsI y)(h:Q (some (decide (key x<key y))) st):wpS (model prog w) A E s (lt' x y) Q st:=LtOk.lt hk hx hy h
theorem jH {st:SortSt}{arr:Array Keyed}{i:Nat}{p:Keyed}{Q:Keyed->SortSt->Prop}(hi:arr[i]?=some p)(h:Q p st):wpS (model prog w) A E s (elem' arr i) Q st:=by
 rw[elem'_eq,hi]
 exact aC h
end
section
variable {prog:Program}{w:World}{A:Around}{E:Value->Shared->Prop}{s:Shared} [LtOk prog w A s]
theorem jAU {left:Bool}{ky:Keyed}{arr:Array Keyed}{base n hint:Nat}{st:SortSt}{Q:Option Nat->SortSt->Prop}(hk:kindOf st=Od.kd)(hky:IsI ky)(hI:∀ i,i<n->∃ p,arr[base+i]?=some p/\IsI p)(hh:hint<n)(B:Nat->Bool)
  (hB:∀ i p,i<n->arr[base+i]?=some p->B i=(if left=true then decide (key p<key ky) else !decide (key ky<key p))) (mono:∀ i j,i<=j->j<n->B j=true->B i=true)
  (h:∀ k,k<=n->(∀ i,i<k->B i=true)->(∀ i,k<=i->i<n->B i=false)->Q (some k) st):wpS (model prog w) A E s (jBI left ky arr base n hint) Q st:=by
 rw[gallopB.2]
 delta gallopB
 dsimp only
 simp only [elP,ltP]
 have bey:∀ i (R:Option Bool->SortSt->Prop),i<n->R (some (B i)) st->wpS (model prog w) A E s (do
   let x <- elem' arr (base+i)
   if left=true then lt' x ky else do
    let r <- lt' ky x
    pure (r.map (!·))) R st:=fun i R hi hR=>by
  obtain⟨p,hp,ip⟩:=hI i hi
  refine aw (jH hp ?_)
  have e:=hB i p hi hp
  cases left with
  | true=>
   rw[ag rfl] at e ⊢
   rw[e] at hR
   exact jEH hk ip hky hR
  | false=>
   rw[af ak] at e ⊢
   rw[e] at hR
   exact aw (jEH hk hky ip (aC hR))
 have down:∀ i j,i<=j->j<n->B i=false->B j=false:=fun i j hij hj hi=>by
  cases hb:B j with
  | false=>rfl
  | true=>rw[mono i j hij hj hb] at hi; cases hi
 refine aw (bey hint _ hh ?_)
 dsimp only
 cases hb:B hint with
 | true=>
  rw[ag rfl]
  refine aw (cL (bL (I:=fun x c st'=>st'=st/\∃ l o,c=(none,l,o)/\l<o/\x+1<=o/\hint+l<n/\B (hint+l)=true)
   (Q:=fun c st'=>st'=st/\∃ l o,c=(none,l,o)/\l<o/\hint+l<n/\B (hint+l)=true/\(n - hint<=o\/(hint+o<n/\B (hint+o)=false))) ?step ?fin ⟨rfl,0,1,rfl,by omega,by omega,by omega,by rw[cK]; exact hb⟩) ?post)
  case post=>
   rintro c st' ⟨rfl,l,o,rfl,a1,a2,a3,a4⟩
   dsimp only
   have p3:∀ i,i<hint+l+1->B i=true:=fun i hi=>mono i (hint+l) (by omega) a2 a3
   have p4:∀ i,hint+min o (n - hint)<=i->i<n->B i=false:=fun i h1 h2=>by
    rcases a4 with a4 | ⟨a4,a5⟩
    ·omega
    ·exact down (hint+o) i (by omega) h2 a5
   refine aw (cL (bL (I:=fun x c st''=>st''=st'/\∃ lo hi,c=(none,lo,hi)/\lo<=hi/\hi<=n/\hi - lo<=n - x/\(∀ i,i<lo->B i=true)/\(∀ i,hi<=i->i<n->B i=false))
    (Q:=fun c st''=>st''=st'/\∃ k,c=(none,k,k)/\k<=n/\(∀ i,i<k->B i=true)/\(∀ i,k<=i->i<n->B i=false)) ?step2 ?fin2 ⟨rfl,hint+l+1,hint+min o (n - hint),rfl,by omega,by omega,by omega,p3,p4⟩) ?post2)
   case post2=>
    rintro c st'' ⟨rfl,k,rfl,k1,k2,k3⟩
    exact aC (h k k1 k2 k3)
   case fin2=>
    rintro c st'' ⟨rfl,lo,hi,rfl,a1,a2,a3,a4,a5⟩
    have:lo=hi:=by omega
    subst this
    exact⟨rfl,lo,rfl,a2,a4,a5⟩
   case step2=>
    rintro x c st'' _ hx ⟨rfl,lo,hi,rfl,a1,a2,a3,a4,a5⟩
    dsimp only
    by_cases hge:lo ≥ hi
    ·rw[ag hge]
     have:lo=hi:=by omega
     subst this
     exact aC ⟨rfl,lo,rfl,a2,a4,a5⟩
    ·rw[af hge]
     refine aw (bey _ _ (by omega) ?_)
     dsimp only
     cases hb:B (lo+(hi - lo) / 2) with
     | true=>
      rw[ag rfl]
      exact aC ⟨rfl,lo+(hi - lo) / 2+1,hi,rfl,by omega,a2,by omega,fun i hi'=>mono i _ (by omega) (by omega) hb,a5⟩
     | false=>
      rw[af ak]
      exact aC ⟨rfl,lo,lo+(hi - lo) / 2,rfl,by omega,by omega,by omega,a4,fun i h1 h2=>down _ i h1 h2 hb⟩
  case fin=>
   rintro c st' ⟨rfl,l,o,rfl,a1,a2,a3,a4⟩
   exact⟨rfl,l,o,rfl,a1,a3,a4, .inl (by omega)⟩
  case step=>
   rintro x c st' _ hx ⟨rfl,l,o,rfl,a1,a2,a3,a4⟩
   dsimp only
   by_cases hge:o ≥ n - hint
   ·rw[ag hge]
    exact aC ⟨rfl,l,o,rfl,a1,a3,a4, .inl hge⟩
   ·rw[af hge]
    refine aw (bey _ _ (by omega) ?_)
    dsimp only
    cases hb2:B (hint+o) with
    | true=>
     rw[af (by decide)]
     exact aC ⟨rfl,o,2*o+1,rfl,by omega,by omega,by omega,hb2⟩
    | false=>
     rw[ag (by decide)]
     exact aC ⟨rfl,l,o,rfl,a1,a3,a4, .inr ⟨by omega,hb2⟩⟩
 | false=>
  rw[af ak]
  refine aw (cL (bL (I:=fun x c st'=>st'=st/\∃ l o,c=(none,l,o)/\l<o/\x+1<=o/\l<=hint/\B (hint - l)=false)
   (Q:=fun c st'=>st'=st/\∃ l o,c=(none,l,o)/\l<o/\l<=hint/\B (hint - l)=false/\(hint+1<=o\/(o<=hint/\B (hint - o)=true))) ?step ?fin ⟨rfl,0,1,rfl,by omega,by omega,by omega,by rw[ig]; exact hb⟩) ?post)
  case post=>
   rintro c st' ⟨rfl,l,o,rfl,a1,a2,a3,a4⟩
   dsimp only
   have p3:∀ i,i<hint+1 - min o (hint+1)->B i=true:=fun i hi=>by
    rcases a4 with a4 | ⟨a4,a5⟩
    ·omega
    ·exact mono i (hint - o) (by omega) (by omega) a5
   have p4:∀ i,hint - l<=i->i<n->B i=false:=fun i h1 h2=>down (hint - l) i (by omega) h2 a3
   refine aw (cL (bL (I:=fun x c st''=>st''=st'/\∃ lo hi,c=(none,lo,hi)/\lo<=hi/\hi<=n/\hi - lo<=n - x/\(∀ i,i<lo->B i=true)/\(∀ i,hi<=i->i<n->B i=false))
    (Q:=fun c st''=>st''=st'/\∃ k,c=(none,k,k)/\k<=n/\(∀ i,i<k->B i=true)/\(∀ i,k<=i->i<n->B i=false)) ?step2 ?fin2 ⟨rfl,hint+1 - min o (hint+1),hint - l,rfl,by omega,by omega,by omega,p3,p4⟩) ?post2)
   case post2=>
    rintro c st'' ⟨rfl,k,rfl,k1,k2,k3⟩
    exact aC (h k k1 k2 k3)
   case fin2=>
    rintro c st'' ⟨rfl,lo,hi,rfl,a1,a2,a3,a4,a5⟩
    have:lo=hi:=by omega
    subst this
    exact⟨rfl,lo,rfl,a2,a4,a5⟩
   case step2=>
    rintro x c st'' _ hx ⟨rfl,lo,hi,rfl,a1,a2,a3,a4,a5⟩
    dsimp only
    by_cases hge:lo ≥ hi
    ·rw[ag hge]
     have:lo=hi:=by omega
     subst this
     exact aC ⟨rfl,lo,rfl,a2,a4,a5⟩
    ·rw[af hge]
     refine aw (bey _ _ (by omega) ?_)
     dsimp only
     cases hb:B (lo+(hi - lo) / 2) with
     | true=>
      rw[ag rfl]
      exact aC ⟨rfl,lo+(hi - lo) / 2+1,hi,rfl,by omega,a2,by omega,fun i hi'=>mono i _ (by omega) (by omega) hb,a5⟩
     | false=>
      rw[af ak]
      exact aC ⟨rfl,lo,lo+(hi - lo) / 2,rfl,by omega,by omega,by omega,a4,fun i h1 h2=>down _ i h1 h2 hb⟩
  case fin=>
   rintro c st' ⟨rfl,l,o,rfl,a1,a2,a3,a4⟩
   exact⟨rfl,l,o,rfl,a1,a3,a4, .inl (by omega)⟩
  case step=>
   rintro x c st' _ hx ⟨rfl,l,o,rfl,a1,a2,a3,a4⟩
   dsimp only
   by_cases hge:o ≥ hint+1
   ·rw[ag hge]
    exact aC ⟨rfl,l,o,rfl,a1,a3,a4, .inl hge⟩
   ·rw[af hge]
    refine aw (bey _ _ (by omega) ?_)
    dsimp only
    cases hb2:B (hint - o) with
    | true=>
     rw[ag rfl]
     exact aC ⟨rfl,l,o,rfl,a1,a3,a4, .inr ⟨by omega,hb2⟩⟩
    | false=>
     rw[af ak]
     exact aC ⟨rfl,o,2*o+1,rfl,by omega,by omega,by omega,hb2⟩
end
abbrev jER (st:SortSt)(g:Nat):SortSt:=SortSt.mk' (kindOf st) (arrOf st) (pendingOf st) g (failedOf st)
def jBO:Nat->StateT SortSt Sem Unit:=sortPriv% PySem.Builtin.setMinGallop
theorem jID:(sortPriv% PySem.Builtin.setMinGallop)=jBO:=rfl
theorem jA4 (g:Nat):jBO g=modify fun s=>jER s g:=rfl
def jE3:Array Keyed->Array Keyed->StateT SortSt Sem (Array Keyed):=sortPriv% PySem.Builtin.mergeLo
def mergeLoB: { g:Array Keyed->Array Keyed->StateT SortSt Sem (Array Keyed) // jE3=g} :=⟨fun _ _=>bind _ _,rfl⟩
theorem jKV:(sortPriv% PySem.Builtin.mergeLo)=jE3:=rfl
def jE4:Array Keyed->Array Keyed->StateT SortSt Sem (Array Keyed):=sortPriv% PySem.Builtin.mergeHi
def mergeHiB: { g:Array Keyed->Array Keyed->StateT SortSt Sem (Array Keyed) // jE4=g} :=⟨fun _ _=>bind _ _,rfl⟩
theorem jKW:(sortPriv% PySem.Builtin.mergeHi)=jE4:=rfl
abbrev Srt (l:List Keyed):Prop:=l.Pairwise LE
structure ML (a b out:List Keyed)(ia ib:Nat):Prop where
 perm:(out++(a.drop ia++b.drop ib)).Perm (a++b)
 srt:Srt out
 le:∀ x∈out,∀ y∈a.drop ia++b.drop ib,LE x y
theorem Srt.drop {l:List Keyed}(h:Srt l)(i:Nat):Srt (l.drop i):=h.sublist (List.drop_sublist _ _)
theorem Srt.take {l:List Keyed}(h:Srt l)(i:Nat):Srt (l.take i):=h.sublist (cB _ _)
theorem y8 {l m:List Keyed}(h1:Srt l)(h2:Srt m)(h:∀ x∈l,∀ y∈m,LE x y):Srt (l++m):=cM.mpr ⟨h1,h2,h⟩
theorem ML.takeA {a b out:List Keyed}{ia ib:Nat}(h:ML a b out ia ib)(sa:Srt a)(k:Nat)(hc:∀ x∈(a.drop ia).take k,∀ y∈b.drop ib,LE x y):ML a b (out++(a.drop ia).take k) (ia+k) ib:=by
 have e:a.drop (ia+k)=(a.drop ia).drop k:=by rw[fu]
 refine⟨?_,y8 h.srt ((sa.drop ia).take k) fun x hx y hy=>h.le x hx y (aP _ (bR hy)),fun x hx y hy=>?_⟩
 ·refine List.Perm.trans ?_ h.perm
  rw[e]
  refine eZ ?_
  rw[aE,<- aE ((a.drop ia).take k),br]
 ·rcases ax.mp hx with q | q
  ·refine h.le x q y ?_
   rcases ax.mp hy with z | z
   ·rw[e] at z
    exact aP _ (dO z)
   ·exact aJ _ z
  ·rcases ax.mp hy with z | z
   ·rw[e] at z
    have s:=sa.drop ia
    rw[<- br k (a.drop ia)] at s
    exact(cM.mp s).2.2 x q y z
   ·exact hc x q y z
theorem ML.takeB {a b out:List Keyed}{ia ib:Nat}(h:ML a b out ia ib)(sb:Srt b)(k:Nat)(hc:∀ x∈(b.drop ib).take k,∀ y∈a.drop ia,LE x y):ML a b (out++(b.drop ib).take k) ia (ib+k):=by
 have e:b.drop (ib+k)=(b.drop ib).drop k:=by rw[fu]
 refine⟨?_,y8 h.srt ((sb.drop ib).take k) fun x hx y hy=>h.le x hx y (aJ _ (bR hy)),fun x hx y hy=>?_⟩
 ·refine List.Perm.trans ?_ h.perm
  rw[e,aE]
  refine cm out ?_
  refine bM.trans ?_
  rw[aE]
  refine cm _ ?_
  refine bM.trans ?_
  rw[br]
 ·rcases ax.mp hx with q | q
  ·refine h.le x q y ?_
   rcases ax.mp hy with z | z
   ·exact aP _ z
   ·rw[e] at z
    exact aJ _ (dO z)
  ·rcases ax.mp hy with z | z
   ·exact hc x q y z
   ·rw[e] at z
    have s:=sb.drop ib
    rw[<- br k (b.drop ib)] at s
    exact(cM.mp s).2.2 x q y z
theorem ML.outA {a b out:List Keyed}{ia ib:Nat}(h:ML a b out ia ib)(sa:Srt a)(hb:b.length<=ib):(out++a.drop ia++b.drop ib).Perm (a++b)/\Srt (out++a.drop ia++b.drop ib):=by
 refine⟨by rw[aE]; exact h.perm,?_⟩
 rw[gC hb,bg]
 exact y8 h.srt (sa.drop ia) fun x hx y hy=>h.le x hx y (aP _ hy)
theorem ML.outB {a b out:List Keyed}{ia ib:Nat}(h:ML a b out ia ib)(sb:Srt b)(ha:a.length<=ia):(out++a.drop ia++b.drop ib).Perm (a++b)/\Srt (out++a.drop ia++b.drop ib):=by
 refine⟨by rw[aE]; exact h.perm,?_⟩
 rw[gC ha,bg]
 exact y8 h.srt (sb.drop ib) fun x hx y hy=>h.le x hx y (aJ _ hy)
theorem ML.last {a b out:List Keyed}{ia ib:Nat}(h:ML a b out ia ib)(sa:Srt a)(sb:Srt b)(ha:∀ x∈b,∀ y∈a.drop ia,LE x y):(out++b.drop ib++a.drop ia).Perm (a++b)/\Srt (out++b.drop ib++a.drop ia):=by
 refine⟨?_,?_⟩
 ·rw[aE]
  exact(cm out bM).trans h.perm
 ·refine y8 (y8 h.srt (sb.drop ib) fun x hx y hy=>h.le x hx y (aJ _ hy)) (sa.drop ia) fun x hx y hy=>?_
  rcases ax.mp hx with q | q
  ·exact h.le x q y (aP _ hy)
  ·exact ha x (dO q) y hy
theorem jAB {l:List Keyed}{i:Nat}{p:Keyed}(h:l[i]?=some p):(l.drop i).take 1=[p]:=by
 obtain⟨hi,e⟩:=ae.mp h
 rw[<- List.getElem_cons_drop (h:=hi),e]
 rfl
theorem jDI {l:List Keyed}(h:Srt l){i j:Nat}{x y:Keyed}(hx:l[i]?=some x)(hy:l[j]?=some y)(hij:i<=j):LE x y:=by
 obtain⟨h1,rfl⟩:=ae.mp hx
 obtain⟨h2,rfl⟩:=ae.mp hy
 by_cases e:i=j
 ·subst e; exact cN _
 ·exact bU.mp h i j h1 h2 (by omega)
theorem jCO {l:List Keyed}{i:Nat}{y:Keyed}(h:y∈l.drop i):∃ j,i<=j/\l[j]?=some y:=by
 obtain⟨k,hk⟩:=cw h
 rw[eh] at hk
 exact⟨i+k,by omega,hk⟩
theorem jA5 {l:List Keyed}{i k:Nat}{y:Keyed}(h:y∈(l.drop i).take k):∃ j,i<=j/\j<i+k/\l[j]?=some y:=by
 obtain⟨n,hn⟩:=cw h
 have hlt:n<k:=by
  have:=(ae.mp hn).1
  rw[aY] at this
  omega
 rw[bW hlt,eh] at hn
 exact⟨i+n,by omega,by omega,hn⟩
theorem jC6 {a:Array Keyed}{i:Nat} :(a.extract i a.size).toList=a.toList.drop i:=by
 rw[eV,cZ]
 exact bG (by rw[gf,aU]; exact az _)
theorem ext_k {a:Array Keyed}{i k:Nat} :(a.extract i (i+k)).toList=(a.toList.drop i).take k:=by
 rw[eV,cZ,bZ]
structure Two (a b:Array Keyed):Prop where
 ia:AllI a.toList
 ib:AllI b.toList
 sa:Srt a.toList
 sb:Srt b.toList
 na:0<a.size
 nb:0<b.size
 last:∀ x∈b.toList,∀ y,a.toList[a.size - 1]?=some y->key x<key y
 first:∀ y∈a.toList,∀ p,b.toList[0]?=some p->key p<key y
def kZ (a b r:Array Keyed):Prop:=r.toList.Perm (a.toList++b.toList)/\Srt r.toList
structure SG (st st':SortSt):Prop where
 k:kindOf st'=kindOf st
 a:arrOf st'=arrOf st
 p:pendingOf st'=pendingOf st
 f:failedOf st'=failedOf st
theorem SG.refl (st:SortSt):SG st st:=⟨rfl,rfl,rfl,rfl⟩
theorem SG.gal {st st':SortSt}(h:SG st st')(g:Nat):SG st (jER st' g):=⟨h.k,h.a,h.p,h.f⟩
abbrev MA (a b out:Array Keyed)(ia ib:Nat):Prop:=ML a.toList b.toList out.toList ia ib
section
variable {a b out:Array Keyed}{i j k:Nat}
theorem at_list {p:Keyed} :a[i]?=some p↔a.toList[i]?=some p:=by rw[bY]
theorem yN (h:i<a.size):∃ p,a[i]?=some p/\a.toList[i]?=some p:=⟨a[i],by simp [h],by simp [h]⟩
theorem MA.doneA (T:Two a b)(h:MA a b out i j)(hj:b.size<=j):kZ a b (out++a.extract i a.size++b.extract j b.size):=by
 unfold kZ
 rw[bh,bh,jC6,jC6]
 exact ML.outA h T.sa (by rw[aU]; exact hj)
theorem MA.doneB (T:Two a b)(h:MA a b out i j)(hi:a.size<=i):kZ a b (out++a.extract i a.size++b.extract j b.size):=by
 unfold kZ
 rw[bh,bh,jC6,jC6]
 exact ML.outB h T.sb (by rw[aU]; exact hi)
theorem MA.doneL (T:Two a b)(h:MA a b out i j)(hi:i+1=a.size):kZ a b (out++b.extract j b.size++a.extract i a.size):=by
 unfold kZ
 rw[bh,bh,jC6,jC6]
 refine ML.last h T.sa T.sb fun x hx y hy=>?_
 obtain⟨n,h1,h2⟩:=jCO hy
 have:n=a.size - 1:=by
  have:=(ae.mp h2).1
  rw[aU] at this
  omega
 subst this
 exact ci (T.last x hx y h2)
theorem MA.pushB (T:Two a b)(h:MA a b out i j){p q:Keyed}(hp:b[j]?=some p)(hc:∀ y∈a.toList.drop i,LE p y):MA a b (out.push p) i (j+1):=by
 have:=ML.takeB h T.sb 1 (by
  rw[jAB (at_list.mp hp)]
  intro x hx
  rw[ay.mp hx]
  exact hc)
 rw[jAB (at_list.mp hp)] at this
 unfold MA
 rw[dG]
 exact this
theorem MA.pushA (T:Two a b)(h:MA a b out i j){p q:Keyed}(hp:a[i]?=some p)(hc:∀ y∈b.toList.drop j,LE p y):MA a b (out.push p) (i+1) j:=by
 have:=ML.takeA h T.sa 1 (by
  rw[jAB (at_list.mp hp)]
  intro x hx
  rw[ay.mp hx]
  exact hc)
 rw[jAB (at_list.mp hp)] at this
 unfold MA
 rw[dG]
 exact this
theorem MA.appA (T:Two a b)(h:MA a b out i j)(k:Nat)(hc:∀ n x,i<=n->n<i+k->a.toList[n]?=some x->∀ y∈b.toList.drop j,LE x y):MA a b (out++a.extract i (i+k)) (i+k) j:=by
 unfold MA
 rw[bh,ext_k]
 exact ML.takeA h T.sa k fun x hx y hy=>by
  obtain⟨n,h1,h2,h3⟩:=jA5 hx
  exact hc n x h1 h2 h3 y hy
theorem MA.appB (T:Two a b)(h:MA a b out i j)(k:Nat)(hc:∀ n x,j<=n->n<j+k->b.toList[n]?=some x->∀ y∈a.toList.drop i,LE x y):MA a b (out++b.extract j (j+k)) i (j+k):=by
 unfold MA
 rw[bh,ext_k]
 exact ML.takeB h T.sb k fun x hx y hy=>by
  obtain⟨n,h1,h2,h3⟩:=jA5 hx
  exact hc n x h1 h2 h3 y hy
theorem Two.atA (T:Two a b)(h:i<a.size):∃ p,a[i]?=some p/\IsI p:=by
 obtain⟨p,h1,h2⟩:=yN h
 exact⟨p,h1,T.ia p (ao h2)⟩
theorem Two.atB (T:Two a b)(h:i<b.size):∃ p,b[i]?=some p/\IsI p:=by
 obtain⟨p,h1,h2⟩:=yN h
 exact⟨p,h1,T.ib p (ao h2)⟩
theorem jE6 (s:Srt a.toList){p q:Keyed}(hp:a[i]?=some p)(h:LE q p):∀ y∈a.toList.drop i,LE q y:=fun y hy=>by
 obtain⟨n,h1,h2⟩:=jCO hy
 exact cS h (jDI s (at_list.mp hp) h2 h1)
end
section
variable {prog:Program}{w:World}{A:Around}{E:Value->Shared->Prop}{s:Shared} [LtOk prog w A s]
theorem jO8 {st:SortSt}{a:Array Keyed}{i:Nat}{p:Keyed}{Q:Option Nat->SortSt->Prop}(hk:kindOf st=Od.kd)(hp:IsI p)(ha:AllI a.toList)(sa:Srt a.toList)(hi:i<a.size)
  (h:∀ k,i+k<=a.size->(∀ n x,i<=n->n<i+k->a.toList[n]?=some x->LE x p)->(∀ n x,i+k<=n->a.toList[n]?=some x->key p<key x)->Q (some k) st):
  wpS (model prog w) A E s (jBI false p a i (a.size - i) 0) Q st:=by
 refine jAU hk hp (fun n hn=>?_) (by omega) (fun n=>match a[i+n]? with | some x=>!decide (key p<key x) | none=>false) (fun n x hn hx=>?_) (fun n m hnm hm hb=>?_) fun k hk1 hk2 hk3=>h k (by omega) (fun n x h1 h2 h3=>?_) fun n x h1 h2=>?_
 ·obtain⟨q,q1,q2⟩:=yN (a:=a) (i:=i+n) (by omega)
  exact⟨q,q1,ha q (ao q2)⟩
 ·rw[hx,af ak]
 ·obtain⟨x,x1,x2⟩:=yN (a:=a) (i:=i+n) (by omega)
  obtain⟨y,y1,y2⟩:=yN (a:=a) (i:=i+m) (by omega)
  rw[y1] at hb
  rw[x1]
  have:=jDI sa x2 y2 (by omega)
  have hb:¬ key p<key y:=by simpa using hb
  show (!decide (key p<key x))=true
  rw[dH,cx]
  have:key x<=key y:=this
  omega
 ·have:=hk2 (n - i) (by omega)
  rw[show i+(n - i)=n by omega,at_list.mpr h3] at this
  have this:¬ key p<key x:=by simpa using this
  show key x<=key p
  omega
 ·have hn:=(ae.mp h2).1
  rw[aU] at hn
  have:=hk3 (n - i) (by omega) (by omega)
  rw[show i+(n - i)=n by omega,at_list.mpr h2] at this
  simpa using this
theorem jO9 {st:SortSt}{a:Array Keyed}{i:Nat}{p:Keyed}{Q:Option Nat->SortSt->Prop}(hk:kindOf st=Od.kd)(hp:IsI p)(ha:AllI a.toList)(sa:Srt a.toList)(hi:i<a.size)
  (h:∀ k,i+k<=a.size->(∀ n x,i<=n->n<i+k->a.toList[n]?=some x->key x<key p)->(∀ n x,i+k<=n->a.toList[n]?=some x->LE p x)->Q (some k) st):
  wpS (model prog w) A E s (jBI true p a i (a.size - i) 0) Q st:=by
 refine jAU hk hp (fun n hn=>?_) (by omega) (fun n=>match a[i+n]? with | some x=>decide (key x<key p) | none=>false) (fun n x hn hx=>?_) (fun n m hnm hm hb=>?_) fun k hk1 hk2 hk3=>h k (by omega) (fun n x h1 h2 h3=>?_) fun n x h1 h2=>?_
 ·obtain⟨q,q1,q2⟩:=yN (a:=a) (i:=i+n) (by omega)
  exact⟨q,q1,ha q (ao q2)⟩
 ·rw[hx,ag rfl]
 ·obtain⟨x,x1,x2⟩:=yN (a:=a) (i:=i+n) (by omega)
  obtain⟨y,y1,y2⟩:=yN (a:=a) (i:=i+m) (by omega)
  rw[y1] at hb
  rw[x1]
  have:=jDI sa x2 y2 (by omega)
  have hb:key y<key p:=aO hb
  show decide (key x<key p)=true
  rw[bf]
  have:key x<=key y:=this
  omega
 ·have:=hk2 (n - i) (by omega)
  rw[show i+(n - i)=n by omega,at_list.mpr h3] at this
  exact aO this
 ·have hn:=(ae.mp h2).1
  rw[aU] at hn
  have:=hk3 (n - i) (by omega) (by omega)
  rw[show i+(n - i)=n by omega,at_list.mpr h2] at this
  have this:¬ key x<key p:=ek this
  show key p<=key x
  omega
end
section
variable {prog:Program}{w:World}{A:Around}{E:Value->Shared->Prop}{s:Shared} [LtOk prog w A s]
theorem bp {a b:Nat}(h:a=b):(a==b)=true:=hZ.mpr h
theorem bn {a b:Nat}(h:¬ a=b):¬ (a==b)=true:=fun z=>h (hZ.mp z)
structure LoI (a b:Array Keyed)(st:SortSt)(out:Array Keyed)(ia ib:Nat)(st':SortSt):Prop where
 m:MA a b out ia ib
 i:ia+1<a.size
 j:ib<b.size
 s:SG st st'
theorem jFH {a b:Array Keyed}{st:SortSt}{Q:Array Keyed->SortSt->Prop}(hk:kindOf st=Od.kd)(T:Two a b)(h:∀ r st',kZ a b r->SG st st'->Q r st'):wpS (model prog w) A E s (jE3 a b) Q st:=by
 rw[mergeLoB.2]
 delta mergeLoB
 dsimp only
 simp only [elP,ltP,jG2,jID]
 have na:=T.na
 have nb:=T.nb
 refine aw (gk (dN ⟨rfl,?_⟩))
 obtain⟨p0,hp0,ip0⟩:=T.atB nb
 refine aw (jH hp0 ?_)
 have M0:MA a b #[p0] 0 1:=by
  have z:MA a b #[] 0 0:=⟨by show (([]:List Keyed)++(a.toList.drop 0++b.toList.drop 0)).Perm _; rw[gH,eG,eG],List.Pairwise.nil,fun x hx=>by cases hx⟩
  have:=MA.pushB (q:=p0) T z hp0 fun y hy=>ci (T.first y (dO hy) p0 (at_list.mp hp0))
  exact this
 by_cases e1:1=b.size
 ·rw[ag (bp e1)]
  exact aC (h _ _ (MA.doneA T M0 (by omega)) (SG.refl _))
 rw[af (bn e1)]
 by_cases e2:0+1=a.size
 ·rw[ag (bp e2)]
  exact aC (h _ _ (MA.doneL T M0 e2) (SG.refl _))
 rw[af (bn e2)]
 refine aw (fh ?_)
 refine aw (cL (bL (I:=fun x c st'=>∃ out ia ib mg,c=(none,out,ia,ib,mg)/\LoI a b st out ia ib st'/\x+1<=ia+ib)
  (Q:=fun c st'=>∃ r,c.1=some r/\kZ a b r/\SG st st') ?step ?fin ⟨_,0,1,_,rfl,⟨M0,by omega,by omega,SG.refl _⟩,by omega⟩) ?post)
 case post=>
  rintro ⟨r0,c⟩ st' ⟨r,hr,d,g⟩
  have hr:r0=some r:=hr
  subst hr
  exact aC (h r st' d g)
 case fin=>
  rintro c st' ⟨out,ia,ib,mg,rfl,I0,hx⟩
  have:=I0.i
  have:=I0.j
  omega
 case step=>
  rintro x c st1 _ hx ⟨out,ia,ib,mg,rfl,I0,hxx⟩
  dsimp only
  refine aw (cL (bL (I:=fun y c st'=>∃ out' ia' ib' ac bc,c=(none,out',ia',ib',ac,bc)/\LoI a b st out' ia' ib' st'/\ia+ib<=ia'+ib'/\(y=0\/ia+ib<ia'+ib'))
   (Q:=fun c st'=>(∃ r,c.1=some r/\kZ a b r/\SG st st')\/∃ out' ia' ib' ac bc,c=(none,out',ia',ib',ac,bc)/\LoI a b st out' ia' ib' st'/\ia+ib<ia'+ib') ?step1 ?fin1 ⟨_,_,_,_,_,rfl,I0,by omega, .inl rfl⟩) ?post1)
  case fin1=>
   rintro c st' ⟨out',ia',ib',ac,bc,rfl,I1,h1,h2⟩
   exact .inr ⟨_,_,_,_,_,rfl,I1,by omega⟩
  case step1=>
   rintro y c st2 _ hy ⟨out',ia',ib',ac,bc,rfl,I1,h1,h2⟩
   dsimp only
   obtain⟨pb,hpb,ipb⟩:=T.atB I1.j
   obtain⟨pa,hpa,ipa⟩:=T.atA (i:=ia') (by have:=I1.i; omega)
   have ii:=I1.i
   have jj:=I1.j
   refine aw (jH hpb (aw (jH hpa (aw (jEH (I1.s.k.trans hk) ipb ipa ?_)))))
   dsimp only
   by_cases hlt:key pb<key pa
   ·rw[aG hlt,ag rfl]
    refine aw (jH hpb ?_)
    have M2:=MA.pushB (q:=pb) T I1.m hpb (jE6 T.sa hpa (ci hlt))
    by_cases f1:ib'+1=b.size
    ·rw[ag (bp f1)]
     exact aC (.inl ⟨_,rfl,MA.doneA T M2 (by omega),I1.s⟩)
    rw[af (bn f1)]
    split
    ·exact aC (.inr ⟨_,_,_,_,_,rfl,⟨M2,ii,by omega,I1.s⟩,by omega⟩)
    ·exact aC ⟨_,_,_,_,_,rfl,⟨M2,ii,by omega,I1.s⟩,by omega, .inr (by omega)⟩
   ·rw[aM hlt,af ak]
    refine aw (jH hpa ?_)
    have M2:=MA.pushA (q:=pa) T I1.m hpa (jE6 T.sb hpb (by show key pa<=key pb; omega))
    by_cases f1:ia'+1+1=a.size
    ·rw[ag (bp f1)]
     exact aC (.inl ⟨_,rfl,MA.doneL T M2 f1,I1.s⟩)
    rw[af (bn f1)]
    split
    ·exact aC (.inr ⟨_,_,_,_,_,rfl,⟨M2,by omega,jj,I1.s⟩,by omega⟩)
    ·exact aC ⟨_,_,_,_,_,rfl,⟨M2,by omega,jj,I1.s⟩,by omega, .inr (by omega)⟩
  case post1=>
   rintro c st2 (⟨r,hr,d,g⟩ | ⟨out1,ia1,ib1,ac,bc,rfl,I1,h1⟩)
   ·obtain⟨r0,c⟩:=c
    have hr:r0=some r:=hr
    subst hr
    exact aC ⟨r,rfl,d,g⟩
   dsimp only
   refine aw (gk (dN ⟨rfl,?_⟩))
   refine aw (cL (bL (I:=fun y c st'=>∃ out' ia' ib' mg' ac bc,c=(none,out',ia',ib',mg',ac,bc)/\LoI a b st out' ia' ib' st'/\ia+ib<ia'+ib')
    (Q:=fun c st'=>(∃ r,c.1=some r/\kZ a b r/\SG st st')\/∃ out' ia' ib' mg' ac bc,c=(none,out',ia',ib',mg',ac,bc)/\LoI a b st out' ia' ib' st'/\ia+ib<ia'+ib') ?step2 ?fin2 ⟨_,_,_,_,_,_,rfl,I1,h1⟩) ?post2)
   case fin2=>
    rintro c st' ⟨out',ia',ib',mg',ac,bc,rfl,I2,h2⟩
    exact .inr ⟨_,_,_,_,_,_,rfl,I2,h2⟩
   case post2=>
    rintro c st3 (⟨r,hr,d,g⟩ | ⟨out2,ia2,ib2,mg2,ac,bc,rfl,I2,h2⟩)
    ·obtain⟨r0,c⟩:=c
     have hr:r0=some r:=hr
     subst hr
     exact aC ⟨r,rfl,d,g⟩
    dsimp only
    rw[jA4]
    exact aw (dB (aC ⟨_,_,_,_,rfl,⟨I2.m,I2.i,I2.j,I2.s.gal _⟩,by omega⟩))
   case step2=>
    clear I0 I1
    rintro y c st2 _ hy ⟨out,ia,ib,mg',ac,bc,rfl,I0,h2⟩
    dsimp only
    obtain⟨pb,hpb,ipb⟩:=T.atB I0.j
    by_cases hg:mg'>1
    case' pos=>
     rw[ag hg]
     generalize hgg:mg' - 1=gg
    case' neg=>
     rw[af hg]
     generalize hgg:mg'=gg
    all_goals
     rw[jA4]
     refine aw (dB ?_)
     have G1:=I0.s.gal gg
     refine aw (jH hpb ?_)
     refine aw (jO8 (G1.k.trans hk) ipb T.ia T.sa (by have:=I0.i; omega) fun k1 g1 g2 g3=>?_)
     dsimp only
     have M1:=MA.appA T I0.m k1 (fun n x h1 h2 h3=>jE6 T.sb hpb (g2 n x h1 h2 h3))
     have hgt:∀ y∈a.toList.drop (ia+k1),LE pb y:=fun y hy=>by
      obtain⟨n,h1,h2⟩:=jCO hy
      exact ci (g3 n y h1 h2)
     have jb:=I0.j
     by_cases e0:k1>0
     case' pos=>
      rw[ag e0]
      by_cases f1:ia+k1+1=a.size
      ·rw[ag (bp f1)]
       exact aC (.inl ⟨_,rfl,MA.doneL T M1 f1,G1⟩)
      rw[af (bn f1)]
      by_cases f2:ia+k1=a.size
      ·rw[ag (bp f2)]
       exact aC (.inl ⟨_,rfl,MA.doneB T M1 (by omega),G1⟩)
      rw[af (bn f2)]
      obtain⟨pa,hpa,ipa⟩:=T.atA (i:=ia+k1) (by omega)
      have hz:ia+k1<a.size:=by omega
      generalize hiz:ia+k1=iz at*
     case' neg=>
      rw[af e0]
      have e0':k1=0:=by omega
      subst e0'
      have M1:=I0.m
      obtain⟨pa,hpa,ipa⟩:=T.atA (i:=ia) (by have:=I0.i; omega)
      have hz:ia<a.size:=by have:=I0.i; omega
      rw[cK] at hgt
      have hia:=I0.i
      generalize hiz:ia=iz at*
     all_goals
      refine aw (jH hpb ?_)
      have M2:=MA.pushB (q:=pb) T M1 hpb hgt
      by_cases e1:ib+1=b.size
      ·rw[ag (bp e1)]
       exact aC (.inl ⟨_,rfl,MA.doneA T M2 (by omega),G1⟩)
      rw[af (bn e1)]
      refine aw (jH hpa ?_)
      refine aw (jO9 (G1.k.trans hk) ipa T.ib T.sb (by omega) fun k2 l1 l2 l3=>?_)
      dsimp only
      have M3:=MA.appB T M2 k2 (fun n x h1 h2 h3=>jE6 T.sa hpa (ci (l2 n x h1 h2 h3)))
      have fin3:∀ y∈b.toList.drop (ib+1+k2),LE pa y:=fun y hy=>by
       obtain⟨n,h1,h2⟩:=jCO hy
       exact l3 n y h1 h2
      by_cases e2:k2>0
      ·rw[ag e2]
       by_cases e3:ib+1+k2=b.size
       ·rw[ag (bp e3)]
        exact aC (.inl ⟨_,rfl,MA.doneA T M3 (by omega),G1⟩)
       rw[af (bn e3)]
       refine aw (jH hpa ?_)
       have M4:=MA.pushA (q:=pa) T M3 hpa fin3
       by_cases e4:iz+1+1=a.size
       ·rw[ag (bp e4)]
        exact aC (.inl ⟨_,rfl,MA.doneL T M4 e4,G1⟩)
       rw[af (bn e4)]
       split
       ·exact aC (.inr ⟨_,_,_,_,_,_,rfl,⟨M4,by omega,by omega,G1⟩,by omega⟩)
       ·exact aC ⟨_,_,_,_,_,_,rfl,⟨M4,by omega,by omega,G1⟩,by omega⟩
      ·rw[af e2]
       have e0:k2=0:=by omega
       subst e0
       refine aw (jH hpa ?_)
       have M4:=MA.pushA (q:=pa) T M2 hpa fin3
       by_cases e4:iz+1+1=a.size
       ·rw[ag (bp e4)]
        exact aC (.inl ⟨_,rfl,MA.doneL T M4 e4,G1⟩)
       rw[af (bn e4)]
       split
       ·exact aC (.inr ⟨_,_,_,_,_,_,rfl,⟨M4,by omega,by omega,G1⟩,by omega⟩)
       ·exact aC ⟨_,_,_,_,_,_,rfl,⟨M4,by omega,by omega,G1⟩,by omega⟩
end
structure MHL (tot xa xb o:List Keyed):Prop where
 perm:(xa++xb++o).Perm tot
 srt:Srt o
 le:∀ x∈o,∀ y∈xa++xb,LE y x
theorem MHL.takeA {tot u v xb o:List Keyed}(h:MHL tot (u++v) xb o)(s:Srt (u++v))(hc:∀ x∈v,∀ y∈xb,LE y x):MHL tot u xb (v++o):=by
 have sp:=cM.mp s
 refine⟨?_,y8 sp.2.1 h.srt fun x hx y hy=>h.le y hy x (aP _ (aJ _ hx)),fun x hx y hy=>?_⟩
 ·refine List.Perm.trans ?_ h.perm
  rw[aE,aE,aE]
  refine cm u ?_
  rw[<- aE,<- aE]
  exact eJ o bM
 ·rcases ax.mp hx with q | q
  ·rcases ax.mp hy with z | z
   ·exact sp.2.2 y z x q
   ·exact hc x q y z
  ·refine h.le x q y ?_
   rcases ax.mp hy with z | z
   ·exact aP _ (aP _ z)
   ·exact aJ _ z
theorem MHL.takeB {tot u v xa o:List Keyed}(h:MHL tot xa (u++v) o)(s:Srt (u++v))(hc:∀ x∈v,∀ y∈xa,LE y x):MHL tot xa u (v++o):=by
 have sp:=cM.mp s
 refine⟨?_,y8 sp.2.1 h.srt fun x hx y hy=>h.le y hy x (aJ _ (aJ _ hx)),fun x hx y hy=>?_⟩
 ·refine List.Perm.trans (eZ ?_) h.perm
  simp only [aE]
 ·rcases ax.mp hx with q | q
  ·rcases ax.mp hy with z | z
   ·exact hc x q y z
   ·exact sp.2.2 y z x q
  ·refine h.le x q y ?_
   rcases ax.mp hy with z | z
   ·exact aP _ z
   ·exact aJ _ (aP _ z)
theorem MHL.out {tot xa xb o:List Keyed}(h:MHL tot xa xb o)(s:Srt (xa++xb)):(xa++xb++o).Perm tot/\Srt (xa++xb++o):=
 ⟨h.perm,y8 s h.srt fun x hx y hy=>h.le y hy x hx⟩
theorem MHL.outF {tot xa xb o:List Keyed}(h:MHL tot xa xb o)(s:Srt (xb++xa)):(xb++xa++o).Perm tot/\Srt (xb++xa++o):=
 ⟨(eJ o bM).trans h.perm,y8 s h.srt fun x hx y hy=>h.le y hy x (by
  rcases ax.mp hx with z | z
  ·exact aJ _ z
  ·exact aP _ z)⟩
theorem jGE {l:List Keyed}{n:Nat}{p:Keyed}(hn:0<n)(h:l[n - 1]?=some p):l.take n=l.take (n - 1)++[p]:=by
 obtain⟨m,rfl⟩:∃ m,n=m+1:=⟨n - 1,by omega⟩
 rw[Nat.add_sub_cancel] at h ⊢
 rw[List.take_succ,h]
 rfl
theorem jGD {l:List Keyed}{k n:Nat}(hk:k<=n):l.take n=l.take k++(l.drop k).take (n - k):=by
 obtain⟨m,rfl⟩:∃ m,n=k+m:=⟨n - k,by omega⟩
 rw[bZ,List.take_add]
theorem jAI {a:Array Keyed}{k n:Nat} :(a.extract k n).toList=(a.toList.drop k).take (n - k):=by
 rw[eV,cZ]
theorem jB4 {a:Array Keyed}{n:Nat} :(a.extract 0 n).toList=a.toList.take n:=by
 rw[jAI,eG,ig]
abbrev MH (a b out:Array Keyed)(na nb:Nat):Prop:=MHL (a.toList++b.toList) (a.toList.take na) (b.toList.take nb) out.toList.reverse
theorem jCN {l:List Keyed}{n:Nat}{y:Keyed}(h:y∈l.take n):∃ j,j<n/\l[j]?=some y:=by
 obtain⟨k,hk⟩:=cw h
 have hlt:k<n:=by
  have:=(ae.mp hk).1
  rw[aY] at this
  omega
 rw[bW hlt] at hk
 exact⟨k,hlt,hk⟩
section
variable {a b out:Array Keyed}{i j k:Nat}
theorem jCM (s:Srt a.toList){p q:Keyed}(hp:a[i - 1]?=some p)(h:LE p q):∀ y∈a.toList.take i,LE y q:=fun y hy=>by
 obtain⟨n,h1,h2⟩:=jCN hy
 exact cS (jDI s h2 (at_list.mp hp) (by omega)) h
theorem MH.pushA (T:Two a b)(h:MH a b out i j){p:Keyed}(hi:0<i)(hp:a[i - 1]?=some p)(hc:∀ y∈b.toList.take j,LE y p):MH a b (out.push p) (i - 1) j:=by
 have e:=jGE hi (at_list.mp hp)
 have s:=T.sa.take i
 unfold MH at h ⊢
 rw[e] at h s
 rw[dG,dW]
 exact h.takeA s fun x hx=>by rw[ay.mp hx]; exact hc
theorem MH.pushB (T:Two a b)(h:MH a b out i j){p:Keyed}(hj:0<j)(hp:b[j - 1]?=some p)(hc:∀ y∈a.toList.take i,LE y p):MH a b (out.push p) i (j - 1):=by
 have e:=jGE hj (at_list.mp hp)
 have s:=T.sb.take j
 unfold MH at h ⊢
 rw[e] at h s
 rw[dG,dW]
 exact h.takeB s fun x hx=>by rw[ay.mp hx]; exact hc
theorem MH.appA (T:Two a b)(h:MH a b out i j)(hk:k<=i)(hc:∀ n x,k<=n->n<i->a.toList[n]?=some x->∀ y∈b.toList.take j,LE y x):MH a b (out++(a.extract k i).reverse) k j:=by
 have e:=jGD (l:=a.toList) hk
 have s:=T.sa.take i
 unfold MH at h ⊢
 rw[e] at h s
 rw[bh,cO,dW,gW,jAI]
 exact h.takeA s fun x hx y hy=>by
  obtain⟨n,h1,h2,h3⟩:=jA5 hx
  exact hc n x h1 (by omega) h3 y hy
theorem MH.appB (T:Two a b)(h:MH a b out i j)(hk:k<=j)(hc:∀ n x,k<=n->n<j->b.toList[n]?=some x->∀ y∈a.toList.take i,LE y x):MH a b (out++(b.extract k j).reverse) i k:=by
 have e:=jGD (l:=b.toList) hk
 have s:=T.sb.take j
 unfold MH at h ⊢
 rw[e] at h s
 rw[bh,cO,dW,gW,jAI]
 exact h.takeB s fun x hx y hy=>by
  obtain⟨n,h1,h2,h3⟩:=jA5 hx
  exact hc n x h1 (by omega) h3 y hy
theorem MH.doneA (T:Two a b)(h:MH a b out 0 j):kZ a b (a.extract 0 0++b.extract 0 j++out.reverse):=by
 unfold kZ
 rw[bh,bh,jB4,jB4,cO]
 exact h.out (by rw[gX]; exact T.sb.take j)
theorem MH.doneB (T:Two a b)(h:MH a b out i 0):kZ a b (a.extract 0 i++b.extract 0 0++out.reverse):=by
 unfold kZ
 rw[bh,bh,jB4,jB4,cO]
 exact h.out (by rw[gX,bg]; exact T.sa.take i)
theorem MH.doneF (T:Two a b)(h:MH a b out i 1):kZ a b (b.extract 0 1++a.extract 0 i++out.reverse):=by
 unfold kZ
 rw[bh,bh,jB4,jB4,cO]
 refine h.outF (y8 (T.sb.take 1) (T.sa.take i) fun x hx y hy=>?_)
 obtain⟨n,h1,h2⟩:=jCN hx
 have:n=0:=by omega
 subst this
 exact ci (T.first y (bR hy) x h2)
end
section
variable {prog:Program}{w:World}{A:Around}{E:Value->Shared->Prop}{s:Shared} [LtOk prog w A s]
theorem jH2 {st:SortSt}{a:Array Keyed}{i len hint:Nat}{p:Keyed}{Q:Option Nat->SortSt->Prop}(hk:kindOf st=Od.kd)(hp:IsI p)(ha:AllI a.toList)
  (sa:∀ n m x y,i<=n->n<=m->m<i+len->a[n]?=some x->a[m]?=some y->LE x y) (hh:hint<len) (hl:i+len<=a.size)
  (h:∀ k,k<=len->(∀ n x,i<=n->n<i+k->a[n]?=some x->LE x p)->(∀ n x,i+k<=n->n<i+len->a[n]?=some x->key p<key x)->Q (some k) st):
  wpS (model prog w) A E s (jBI false p a i len hint) Q st:=by
 refine jAU hk hp (fun n hn=>?_) hh (fun n=>match a[i+n]? with | some x=>!decide (key p<key x) | none=>false) (fun n x hn hx=>?_) (fun n m hnm hm hb=>?_) fun k hk1 hk2 hk3=>h k (by omega) (fun n x h1 h2 h3=>?_) fun n x h1 h2 h3=>?_
 ·obtain⟨q,q1,q2⟩:=yN (a:=a) (i:=i+n) (by omega)
  exact⟨q,q1,ha q (ao q2)⟩
 ·rw[hx,af ak]
 ·obtain⟨x,x1,x2⟩:=yN (a:=a) (i:=i+n) (by omega)
  obtain⟨y,y1,y2⟩:=yN (a:=a) (i:=i+m) (by omega)
  rw[y1] at hb
  rw[x1]
  have:=sa (i+n) (i+m) x y (by omega) (by omega) (by omega) x1 y1
  have hb:¬ key p<key y:=by simpa using hb
  show (!decide (key p<key x))=true
  rw[dH,cx]
  have:key x<=key y:=this
  omega
 ·have:=hk2 (n - i) (by omega)
  rw[show i+(n - i)=n by omega,h3] at this
  have this:¬ key p<key x:=by simpa using this
  show key x<=key p
  omega
 ·have:=hk3 (n - i) (by omega) (by omega)
  rw[show i+(n - i)=n by omega,h3] at this
  simpa using this
theorem jH3 {st:SortSt}{a:Array Keyed}{i len hint:Nat}{p:Keyed}{Q:Option Nat->SortSt->Prop}(hk:kindOf st=Od.kd)(hp:IsI p)(ha:AllI a.toList)
  (sa:∀ n m x y,i<=n->n<=m->m<i+len->a[n]?=some x->a[m]?=some y->LE x y) (hh:hint<len) (hl:i+len<=a.size)
  (h:∀ k,k<=len->(∀ n x,i<=n->n<i+k->a[n]?=some x->key x<key p)->(∀ n x,i+k<=n->n<i+len->a[n]?=some x->LE p x)->Q (some k) st):
  wpS (model prog w) A E s (jBI true p a i len hint) Q st:=by
 refine jAU hk hp (fun n hn=>?_) hh (fun n=>match a[i+n]? with | some x=>decide (key x<key p) | none=>false) (fun n x hn hx=>?_) (fun n m hnm hm hb=>?_) fun k hk1 hk2 hk3=>h k (by omega) (fun n x h1 h2 h3=>?_) fun n x h1 h2 h3=>?_
 ·obtain⟨q,q1,q2⟩:=yN (a:=a) (i:=i+n) (by omega)
  exact⟨q,q1,ha q (ao q2)⟩
 ·rw[hx,ag rfl]
 ·obtain⟨x,x1,x2⟩:=yN (a:=a) (i:=i+n) (by omega)
  obtain⟨y,y1,y2⟩:=yN (a:=a) (i:=i+m) (by omega)
  rw[y1] at hb
  rw[x1]
  have:=sa (i+n) (i+m) x y (by omega) (by omega) (by omega) x1 y1
  have hb:key y<key p:=aO hb
  show decide (key x<key p)=true
  rw[bf]
  have:key x<=key y:=this
  omega
 ·have:=hk2 (n - i) (by omega)
  rw[show i+(n - i)=n by omega,h3] at this
  exact aO this
 ·have:=hk3 (n - i) (by omega) (by omega)
  rw[show i+(n - i)=n by omega,h3] at this
  have this:¬ key x<key p:=ek this
  show key p<=key x
  omega
end
section
variable {prog:Program}{w:World}{A:Around}{E:Value->Shared->Prop}{s:Shared} [LtOk prog w A s]
structure HiI (a b:Array Keyed)(st:SortSt)(out:Array Keyed)(na nb:Nat)(st':SortSt):Prop where
 m:MH a b out na nb
 i:0<na
 ia:na<=a.size
 j:1<nb
 jb:nb<=b.size
 s:SG st st'
theorem whole {a:Array Keyed}(s:Srt a.toList){len:Nat} :∀ n m x y,0<=n->n<=m->m<0+len->a[n]?=some x->a[m]?=some y->LE x y:=fun n m x y _ h _ hx hy=>jDI s (at_list.mp hx) (at_list.mp hy) h
theorem jFI {a b:Array Keyed}{st:SortSt}{Q:Array Keyed->SortSt->Prop}(hk:kindOf st=Od.kd)(T:Two a b)(h:∀ r st',kZ a b r->SG st st'->Q r st'):wpS (model prog w) A E s (jE4 a b) Q st:=by
 rw[mergeHiB.2]
 delta mergeHiB
 dsimp only
 simp only [elP,ltP,jG2,jID]
 have na:=T.na
 have nb:=T.nb
 refine aw (gk (dN ⟨rfl,?_⟩))
 obtain⟨p0,hp0,ip0⟩:=T.atA (i:=a.size - 1) (by omega)
 refine aw (jH hp0 ?_)
 have M0:MH a b #[p0] (a.size - 1) b.size:=by
  have z:MH a b #[] a.size b.size:=⟨by
   rw[show a.toList.take a.size=a.toList from bG (by simp),show b.toList.take b.size=b.toList from bG (by simp)]
   show ((a.toList++b.toList)++([]:List Keyed)).Perm _
   rw[bg],List.Pairwise.nil,fun x hx=>by cases hx⟩
  have:=MH.pushA T z (by omega) hp0 fun y hy=>ci (T.last y (bR hy) p0 (at_list.mp hp0))
  exact this
 by_cases e1:a.size - 1=0
 ·rw[ag (bp e1)]
  rw[e1] at M0 ⊢
  exact aC (h _ _ (MH.doneA T M0) (SG.refl _))
 rw[af (bn e1)]
 by_cases e2:b.size=1
 ·rw[ag (bp e2)]
  rw[e2] at M0 ⊢
  exact aC (h _ _ (MH.doneF T M0) (SG.refl _))
 rw[af (bn e2)]
 refine aw (fh ?_)
 refine aw (cL (bL (I:=fun x c st'=>∃ out na nb mg,c=(none,na,nb,out,mg)/\HiI a b st out na nb st'/\x+1<=a.size - na+(b.size - nb))
  (Q:=fun c st'=>∃ r,c.1=some r/\kZ a b r/\SG st st') ?step ?fin ⟨_,_,_,_,rfl,⟨M0,by omega,by omega,by omega,by omega,SG.refl _⟩,by omega⟩) ?post)
 case post=>
  rintro ⟨r0,c⟩ st' ⟨r,hr,d,g⟩
  have hr:r0=some r:=hr
  subst hr
  exact aC (h r st' d g)
 case fin=>
  rintro c st' ⟨out,na,nb,mg,rfl,I0,hx⟩
  have:=I0.i
  have:=I0.j
  omega
 case step=>
  rintro x c st1 _ hx ⟨out,na,nb,mg,rfl,I0,hxx⟩
  dsimp only
  refine aw (cL (bL (I:=fun y c st'=>∃ out' na' nb' ac bc,c=(none,na',nb',out',ac,bc)/\HiI a b st out' na' nb' st'/\na'+nb'<=na+nb/\(y=0\/na'+nb'<na+nb))
   (Q:=fun c st'=>(∃ r,c.1=some r/\kZ a b r/\SG st st')\/∃ out' na' nb' ac bc,c=(none,na',nb',out',ac,bc)/\HiI a b st out' na' nb' st'/\na'+nb'<na+nb) ?step1 ?fin1 ⟨_,_,_,_,_,rfl,I0,by omega, .inl rfl⟩) ?post1)
  case fin1=>
   rintro c st' ⟨out',na',nb',ac,bc,rfl,I1,h1,h2⟩
   exact .inr ⟨_,_,_,_,_,rfl,I1,by omega⟩
  case step1=>
   rintro y c st2 _ hy ⟨out',na',nb',ac,bc,rfl,I1,h1,h2⟩
   dsimp only
   have i0:=I1.i
   have i1:=I1.ia
   have j0:=I1.j
   have j1:=I1.jb
   obtain⟨pb,hpb,ipb⟩:=T.atB (i:=nb' - 1) (by omega)
   obtain⟨pa,hpa,ipa⟩:=T.atA (i:=na' - 1) (by omega)
   refine aw (jH hpb (aw (jH hpa (aw (jEH (I1.s.k.trans hk) ipb ipa ?_)))))
   dsimp only
   by_cases hlt:key pb<key pa
   ·rw[aG hlt,ag rfl]
    refine aw (jH hpa ?_)
    have M2:=MH.pushA T I1.m i0 hpa (jCM T.sb hpb (ci hlt))
    by_cases f1:na' - 1=0
    ·rw[ag (bp f1)]
     rw[f1] at M2 ⊢
     exact aC (.inl ⟨_,rfl,MH.doneA T M2,I1.s⟩)
    rw[af (bn f1)]
    split
    ·exact aC (.inr ⟨_,_,_,_,_,rfl,⟨M2,by omega,by omega,j0,j1,I1.s⟩,by omega⟩)
    ·exact aC ⟨_,_,_,_,_,rfl,⟨M2,by omega,by omega,j0,j1,I1.s⟩,by omega, .inr (by omega)⟩
   ·rw[aM hlt,af ak]
    refine aw (jH hpb ?_)
    have M2:=MH.pushB T I1.m (by omega) hpb (jCM T.sa hpa (by show key pa<=key pb; omega))
    by_cases f1:nb' - 1=1
    ·rw[ag (bp f1)]
     rw[f1] at M2 ⊢
     exact aC (.inl ⟨_,rfl,MH.doneF T M2,I1.s⟩)
    rw[af (bn f1)]
    split
    ·exact aC (.inr ⟨_,_,_,_,_,rfl,⟨M2,i0,i1,by omega,by omega,I1.s⟩,by omega⟩)
    ·exact aC ⟨_,_,_,_,_,rfl,⟨M2,i0,i1,by omega,by omega,I1.s⟩,by omega, .inr (by omega)⟩
  case post1=>
   rintro c st2 (⟨r,hr,d,g⟩ | ⟨out1,na1,nb1,ac,bc,rfl,I1,h1⟩)
   ·obtain⟨r0,c⟩:=c
    have hr:r0=some r:=hr
    subst hr
    exact aC ⟨r,rfl,d,g⟩
   dsimp only
   refine aw (gk (dN ⟨rfl,?_⟩))
   refine aw (cL (bL (I:=fun y c st'=>∃ out' na' nb' mg' ac bc,c=(none,na',nb',out',mg',ac,bc)/\HiI a b st out' na' nb' st'/\na'+nb'<na+nb)
    (Q:=fun c st'=>(∃ r,c.1=some r/\kZ a b r/\SG st st')\/∃ out' na' nb' mg' ac bc,c=(none,na',nb',out',mg',ac,bc)/\HiI a b st out' na' nb' st'/\na'+nb'<na+nb) ?step2 ?fin2 ⟨_,_,_,_,_,_,rfl,I1,h1⟩) ?post2)
   case fin2=>
    rintro c st' ⟨out',na',nb',mg',ac,bc,rfl,I2,h2⟩
    exact .inr ⟨_,_,_,_,_,_,rfl,I2,h2⟩
   case post2=>
    have q1:=I0.ia
    have q2:=I0.jb
    rintro c st3 (⟨r,hr,d,g⟩ | ⟨out2,na2,nb2,mg2,ac,bc,rfl,I2,h2⟩)
    ·obtain⟨r0,c⟩:=c
     have hr:r0=some r:=hr
     subst hr
     exact aC ⟨r,rfl,d,g⟩
    dsimp only
    rw[jA4]
    have q3:=I2.ia
    have q4:=I2.jb
    exact aw (dB (aC ⟨_,_,_,_,rfl,⟨I2.m,I2.i,I2.ia,I2.j,I2.jb,I2.s.gal _⟩,by omega⟩))
   case step2=>
    clear I0 I1
    rename_i na00 nb00
    generalize hbd:na+nb=bd
    clear hxx h1
    rintro y c st2 _ hy ⟨out,na,nb,mg',ac,bc,rfl,I0,h2⟩
    dsimp only
    obtain⟨pb,hpb,ipb⟩:=T.atB (i:=nb - 1) (by have:=I0.j; have:=I0.jb; omega)
    by_cases hg:mg'>1
    case' pos=>
     rw[ag hg]
     generalize hgg:mg' - 1=gg
    case' neg=>
     rw[af hg]
     generalize hgg:mg'=gg
    all_goals
     rw[jA4]
     refine aw (dB ?_)
     have G1:=I0.s.gal gg
     have na0:=I0.i
     have na1:=I0.ia
     have nb0:=I0.j
     have nb1:=I0.jb
     refine aw (jH hpb ?_)
     refine aw (jH2 (G1.k.trans hk) ipb T.ia (whole T.sa) (by omega) (by omega) fun k1 g1 g2 g3=>?_)
     dsimp only
     have M1:=MH.appA T I0.m g1 (fun n x h1 h2 h3=>jCM T.sb hpb (ci (g3 n x (by omega) (by omega) (at_list.mpr h3))))
     have hle:∀ y∈a.toList.take k1,LE y pb:=fun y hy=>by
      obtain⟨n,h1,h2⟩:=jCN hy
      exact g2 n y (by omega) (by omega) (at_list.mpr h2)
     by_cases e0:na - k1>0
     case' pos=>
      rw[ag e0]
      by_cases f1:k1=0
      ·rw[ag (bp f1)]
       rw[f1] at M1 ⊢
       exact aC (.inl ⟨_,rfl,MH.doneA T M1,G1⟩)
      rw[af (bn f1)]
      obtain⟨pa,hpa,ipa⟩:=T.atA (i:=k1 - 1) (by omega)
      have hz:0<k1:=by omega
      generalize hiz:k1=iz at*
     case' neg=>
      rw[af e0]
      have e0':k1=na:=by omega
      subst e0'
      have M1:=I0.m
      obtain⟨pa,hpa,ipa⟩:=T.atA (i:=k1 - 1) (by omega)
      have hz:0<k1:=by omega
      generalize hiz:k1=iz at*
     all_goals
      refine aw (jH hpb ?_)
      have M2:=MH.pushB T M1 (by omega) hpb hle
      by_cases e1:nb - 1=1
      ·rw[ag (bp e1)]
       rw[e1] at M2 ⊢
       exact aC (.inl ⟨_,rfl,MH.doneF T M2,G1⟩)
      rw[af (bn e1)]
      refine aw (jH hpa ?_)
      refine aw (jH3 (G1.k.trans hk) ipa T.ib (whole T.sb) (by omega) (by omega) fun k2 l1 l2 l3=>?_)
      dsimp only
      have M3:=MH.appB T M2 l1 (fun n x h1 h2 h3=>jCM T.sa hpa (l3 n x (by omega) (by omega) (at_list.mpr h3)))
      have fin3:∀ y∈b.toList.take k2,LE y pa:=fun y hy=>by
       obtain⟨n,h1,h2⟩:=jCN hy
       exact ci (l2 n y (by omega) (by omega) (at_list.mpr h2))
      by_cases e2:nb - 1 - k2>0
      ·rw[ag e2]
       by_cases e3:k2=1
       ·rw[ag (bp e3)]
        rw[e3] at M3 ⊢
        exact aC (.inl ⟨_,rfl,MH.doneF T M3,G1⟩)
       rw[af (bn e3)]
       by_cases e5:k2=0
       ·rw[ag (bp e5)]
        rw[e5] at M3 ⊢
        exact aC (.inl ⟨_,rfl,MH.doneB T M3,G1⟩)
       rw[af (bn e5)]
       refine aw (jH hpa ?_)
       have M4:=MH.pushA T M3 hz hpa fin3
       by_cases e4:iz - 1=0
       ·rw[ag (bp e4)]
        rw[e4] at M4 ⊢
        exact aC (.inl ⟨_,rfl,MH.doneA T M4,G1⟩)
       rw[af (bn e4)]
       split
       ·exact aC (.inr ⟨_,_,_,_,_,_,rfl,⟨M4,by omega,by omega,by omega,by omega,G1⟩,by omega⟩)
       ·exact aC ⟨_,_,_,_,_,_,rfl,⟨M4,by omega,by omega,by omega,by omega,G1⟩,by omega⟩
      ·rw[af e2]
       have e0:k2=nb - 1:=by omega
       subst e0
       refine aw (jH hpa ?_)
       have M4:=MH.pushA T M2 hz hpa fin3
       by_cases e4:iz - 1=0
       ·rw[ag (bp e4)]
        rw[e4] at M4 ⊢
        exact aC (.inl ⟨_,rfl,MH.doneA T M4,G1⟩)
       rw[af (bn e4)]
       split
       ·exact aC (.inr ⟨_,_,_,_,_,_,rfl,⟨M4,by omega,by omega,by omega,by omega,G1⟩,by omega⟩)
       ·exact aC ⟨_,_,_,_,_,_,rfl,⟨M4,by omega,by omega,by omega,by omega,G1⟩,by omega⟩
end
def KI (xs:Array Keyed)(i:Nat):Int:=match xs[i]? with
 | some p=>key p
 | none=>0
def STo (xs:Array Keyed)(k:Nat):Prop:=∀ i j,i<=j->j<k->KI xs i<=KI xs j
structure SB (a₀:Array Keyed)(st:SortSt):Prop where
 perm:(arrOf st).Perm a₀
 kind:kindOf st=Od.kd
 failed:failedOf st=none
 pend:pendingOf st=#[]
theorem SB.size {a₀:Array Keyed}{st:SortSt}(h:SB a₀ st):(arrOf st).size=a₀.size:=h.perm.size_eq
theorem jB7 {xs ys:Array Keyed}{i j:Nat}(h:xs[i]?=ys[j]?):KI xs i=KI ys j:=by unfold KI; rw[h]
theorem jKD {xs:Array Keyed}{src d:Nat}(hs:src<xs.size)(hd:d<=src)(k:Nat):
  KI (bubble xs src d) k=if k=src - d then KI xs src else if src - d<k/\k<=src then KI xs (k - 1) else KI xs k:=by
 have e:=getElem?_bubble hs d hd k
 by_cases h1:k=src - d
 ·rw[ag h1] at e ⊢; exact jB7 e
 ·rw[af h1] at e ⊢
  by_cases h2:src - d<k/\k<=src
  ·rw[ag h2] at e ⊢; exact jB7 e
  ·rw[af h2] at e ⊢; exact jB7 e
theorem jBX {xs:Array Keyed}{i j:Nat}(hj:j<=xs.size)(k:Nat):
  KI (mirror xs i j ((j - i) / 2)) k=if i<=k/\k<j then KI xs (i+j - 1 - k) else KI xs k:=by
 have e:=getElem?_mirror_all (i:=i) hj k
 by_cases h1:i<=k/\k<j
 ·rw[ag h1] at e
  rw[ag h1]
  exact jB7 e
 ·rw[af h1] at e
  rw[af h1]
  exact jB7 e
theorem jA2 {xs:Array Keyed}{i j:Nat}(hj:j<=xs.size)(heq:∀ k,i<=k->k<j->KI xs k=KI xs (j - 1))(k:Nat):
  KI (mirror xs i j ((j - i) / 2)) k=KI xs k:=by
 rw[jBX hj]
 split
 ·rename_i h
  rw[heq _ (by omega) (by omega),heq k h.1 h.2]
 ·rfl
def Up (xs:Array Keyed)(lo n:Nat):Prop:=∀ i j,lo<=i->i<=j->j<lo+n->KI xs i<=KI xs j
def Dn (xs:Array Keyed)(lo n:Nat):Prop:=∀ i j,lo<=i->i<=j->j<lo+n->KI xs j<=KI xs i
structure BB (a₀:Array Keyed)(p:Array (Nat×Nat×Nat))(F:Nat->Int)(lo:Nat)(st:SortSt):Prop where
 perm:(arrOf st).Perm a₀
 kind:kindOf st=Od.kd
 failed:failedOf st=none
 pend:pendingOf st=p
 low:∀ k,k<lo->KI (arrOf st) k=F k
theorem jM1 {a₀ xs:Array Keyed}(hp:xs.Perm a₀)(h0:AllI a₀.toList){i:Nat}(hi:i<a₀.size):∃ q,xs[i]?=some q/\IsI q/\key q=KI xs i:=by
 have hi':i<xs.size:=by rw[hp.size_eq]; exact hi
 have hm:xs[i]∈a₀.toList:=(cW.mp hp).mem_iff.mp (by simp)
 have e:xs[i]?=some xs[i]:=getElem?_pos _ i hi'
 exact⟨xs[i],e,h0 _ hm,by unfold KI; rw[e]⟩
section
variable {prog:Program}{w:World}{A:Around}{E:Value->Shared->Prop}{s:Shared} [LtOk prog w A s]{a₀:Array Keyed}{p:Array (Nat×Nat×Nat)}{F:Nat->Int}{lo:Nat}
theorem BB.sz {st:SortSt}(h:BB a₀ p F lo st):(arrOf st).size=a₀.size:=h.perm.size_eq
theorem BB.arr {st:SortSt}(h:BB a₀ p F lo st){xs:Array Keyed}(hp:xs.Perm (arrOf st))(hl:∀ k,k<lo->KI xs k=KI (arrOf st) k):BB a₀ p F lo (setArr st xs):=
 ⟨hp.trans h.perm,h.kind,h.failed,h.pend,fun k hk=>(hl k hk).trans (h.low k hk)⟩
theorem jBY {st:SortSt}{i j:Nat}{Q:Option Bool->SortSt->Prop}(hB:BB a₀ p F lo st)(h0:AllI a₀.toList)(hi:i<a₀.size)(hj:j<a₀.size)
  (h:Q (some (decide (KI (arrOf st) i<KI (arrOf st) j))) st):wpS (model prog w) A E s (ltAt' i j) Q st:=by
 obtain⟨x,e1,i1,k1⟩:=jM1 hB.perm h0 hi
 obtain⟨y,e2,i2,k2⟩:=jM1 hB.perm h0 hj
 rw[ltAt'_eq]
 refine aw (fh ?_)
 show wpS _ _ _ _ (do let x <- elem' (arrOf st) i; let y <- elem' (arrOf st) j; lt' x y) Q st
 rw[elem'_eq,elem'_eq,e1,e2]
 refine aw (aC (aw (aC (jEH hB.kind i1 i2 ?_))))
 rw[k1,k2]
 exact h
theorem Up.one {xs:Array Keyed} :Up xs lo 1:=fun i j h1 h2 h3=>by
 have:i=j:=by omega
 rw[this]
 exact cN _
theorem Dn.one {xs:Array Keyed} :Dn xs lo 1:=fun i j h1 h2 h3=>by
 have:i=j:=by omega
 rw[this]
 exact cN _
theorem Up.more {xs:Array Keyed}{n:Nat}(h:Up xs lo n)(hn:0<n)(hc:KI xs (lo+n - 1)<=KI xs (lo+n)):Up xs lo (n+1):=fun i j h1 h2 h3=>by
 by_cases e:j<lo+n
 ·exact h i j h1 h2 e
 ·have ej:j=lo+n:=by omega
  subst ej
  by_cases ei:i=lo+n
  ·rw[ei]
   exact cN _
  ·exact cS (h i (lo+n - 1) h1 (by omega) (by omega)) hc
theorem Dn.more {xs:Array Keyed}{n:Nat}(h:Dn xs lo n)(hn:0<n)(hc:KI xs (lo+n)<=KI xs (lo+n - 1)):Dn xs lo (n+1):=fun i j h1 h2 h3=>by
 by_cases e:j<lo+n
 ·exact h i j h1 h2 e
 ·have ej:j=lo+n:=by omega
  subst ej
  by_cases ei:i=lo+n
  ·rw[ei]
   exact cN _
  ·exact cS hc (h i (lo+n - 1) h1 (by omega) (by omega))
theorem Dn.congr {xs ys:Array Keyed}{n:Nat}(h:Dn xs lo n)(e:∀ k,KI ys k=KI xs k):Dn ys lo n:=fun i j h1 h2 h3=>by
 rw[e i,e j]
 exact h i j h1 h2 h3
theorem jDT {st:SortSt}{nrem:Nat}{Q:Option Nat->SortSt->Prop}(h0:AllI a₀.toList)(hn:lo+nrem<=a₀.size)(hn1:1<=nrem)(hB:BB a₀ p F lo st)
  (h:∀ m st',BB a₀ p F lo st'->1<=m->m<=nrem->Up (arrOf st') lo m->Q (some m) st'):wpS (model prog w) A E s (countRun' lo nrem) Q st:=by
 rw[countRun'_eq]
 dsimp only
 refine aw (cL (bL (I:=fun x c st'=>st'=st/\c=(none,x)/\Up (arrOf st) lo x)
  (Q:=fun c st'=>st'=st/\∃ n,c=(none,n)/\1<=n/\n<=nrem/\Up (arrOf st) lo n/\(n=nrem\/KI (arrOf st) (lo+n)<KI (arrOf st) (lo+n - 1))) ?step ?fin ⟨rfl,rfl,Up.one⟩) ?post)
 case fin=>
  rintro c st' ⟨rfl,rfl,hu⟩
  rw[show max 1 nrem=nrem by omega] at hu ⊢
  exact⟨rfl,nrem,rfl,hn1,az _,hu, .inl rfl⟩
 case step=>
  rintro x c st' h1 h2 ⟨rfl,rfl,hu⟩
  dsimp only
  refine aw (jBY hB h0 (by omega) (by omega) ?_)
  dsimp only
  by_cases hl:KI (arrOf st') (lo+x)<KI (arrOf st') (lo+x - 1)
  ·rw[aG hl,ag rfl]
   exact aC ⟨rfl,x,rfl,by omega,by omega,hu, .inr hl⟩
  ·rw[aM hl,af ak]
   exact aC ⟨rfl,rfl,hu.more (by omega) (by omega)⟩
 case post=>
  rintro c st' ⟨rfl,n,rfl,n1,n2,hu,hor⟩
  dsimp only
  by_cases hnn:n=nrem
  ·rw[ag (bp hnn)]
   exact aC (h n st' hB n1 n2 hu)
  rw[af (bn hnn)]
  have hlt:=hor.resolve_left hnn
  have hz:lo+n<=(arrOf st').size:=by rw[hB.sz]; omega
  by_cases hgt:n>1
  case' pos=>
   rw[ag hgt]
   refine aw (jBY hB h0 (by omega) (by omega) ?_)
   dsimp only
   by_cases hr:KI (arrOf st') lo<KI (arrOf st') (lo+n - 1)
   ·rw[aG hr,ag rfl]
    exact aC (h n st' hB n1 n2 hu)
   rw[aM hr,af ak]
   have hall:∀ k,lo<=k->k<lo+n->KI (arrOf st') k=KI (arrOf st') (lo+n - 1):=fun k h1 h2=>by
    have a1:=hu lo k (by omega) h1 h2
    have a2:=hu k (lo+n - 1) h1 (by omega) (by omega)
    omega
   refine aw (wpS_reverse ?_)
   have hB1:=hB.arr (xs:=mirror (arrOf st') lo (lo+n) ((lo+n - lo) / 2)) (mirror_perm _ _ _ _) fun k _=>jA2 hz hall k
   have hs0:Dn (arrOf st') lo n:=fun i j h1 h2 h3=>by
    rw[hall i h1 (by omega),hall j (by omega) h3]
    exact cN _
   have hs1:Dn (arrOf (setArr st' (mirror (arrOf st') lo (lo+n) ((lo+n - lo) / 2)))) lo (n+1):=(hs0.more (by omega) (ci hlt)).congr (jA2 hz hall)
   generalize setArr st' (mirror (arrOf st') lo (lo+n) ((lo+n - lo) / 2))=st1 at*
  case' neg=>
   rw[af hgt]
   have en:n=1:=by omega
   have hB1:=hB
   have hs1:Dn (arrOf st') lo (n+1):=by
    rw[en] at hlt ⊢
    exact Dn.one.more (by omega) (ci hlt)
  all_goals
   refine aw (gk (dN ⟨rfl,?_⟩))
   refine aw (cL (bL (I:=fun x c st'=>∃ q,c=(none,x,q)/\BB a₀ p F lo st'/\Dn (arrOf st') lo x/\q+1<=x/\∀ i,lo+x - (q+1)<=i->i<lo+x->KI (arrOf st') i=KI (arrOf st') (lo+x - 1))
    (Q:=fun c st'=>∃ m q,c=(none,m,q)/\1<=m/\m<=nrem/\BB a₀ p F lo st'/\Dn (arrOf st') lo m/\q+1<=m/\∀ i,lo+m - (q+1)<=i->i<lo+m->KI (arrOf st') i=KI (arrOf st') (lo+m - 1)) ?dstep ?dfin ⟨0,rfl,hB1,hs1,by omega,fun i h1 h2=>by congr 1; omega⟩) ?dpost)
   case dfin=>
    rintro c st' ⟨q,rfl,hb,hd,hq,he⟩
    rw[show max (n+1) nrem=nrem by omega] at hd hq he ⊢
    exact⟨nrem,q,rfl,by omega,by omega,hb,hd,hq,he⟩
   case dstep=>
    rintro x c st' h1 h2 ⟨q,rfl,hb,hd,hq,he⟩
    dsimp only
    have hz:lo+x<=(arrOf st').size:=by rw[hb.sz]; omega
    refine aw (jBY hb h0 (by omega) (by omega) ?_)
    dsimp only
    by_cases hl:KI (arrOf st') (lo+x)<KI (arrOf st') (lo+x - 1)
    ·rw[aG hl,ag rfl]
     have d1:=hd.more (by omega) (ci hl)
     by_cases hq0:q>0
     ·rw[ag hq0]
      refine aw (wpS_reverse (aC ⟨0,rfl,hb.arr (mirror_perm _ _ _ _) fun k _=>jA2 hz he k,d1.congr (jA2 hz he),by omega,fun i h1 h2=>by congr 1; omega⟩))
     ·rw[af hq0]
      exact aC ⟨0,rfl,hb,d1,by omega,fun i h1 h2=>by congr 1; omega⟩
    ·rw[aM hl,af ak]
     refine aw (jBY hb h0 (by omega) (by omega) ?_)
     dsimp only
     by_cases hg:KI (arrOf st') (lo+x - 1)<KI (arrOf st') (lo+x)
     ·rw[aG hg,ag rfl]
      exact aC ⟨x,q,rfl,by omega,by omega,hb,hd,hq,he⟩
     ·rw[aM hg,af ak]
      have ex:KI (arrOf st') (lo+x)=KI (arrOf st') (lo+x - 1):=by omega
      refine aC ⟨q+1,rfl,hb,hd.more (by omega) (by omega),by omega,fun i h1 h2=>?_⟩
      rw[show lo+(x+1) - 1=lo+x by omega]
      by_cases hix:i=lo+x
      ·rw[hix]
      ·rw[ex]
       exact he i (by omega) (by omega)
   case dpost=>
    rintro c st2 ⟨m,q,rfl,m1,m2,hB2,hs2,hq,he⟩
    dsimp only
    have hz2:lo+m<=(arrOf st2).size:=by rw[hB2.sz]; omega
    by_cases hq0:q>0
    case' pos=>
     rw[ag hq0]
     refine aw (wpS_reverse ?_)
     have hB3:=hB2.arr (xs:=mirror (arrOf st2) (lo+m - (q+1)) (lo+m) ((lo+m - (lo+m - (q+1))) / 2)) (mirror_perm _ _ _ _) fun k _=>jA2 hz2 he k
     have hs3:Dn (arrOf (setArr st2 (mirror (arrOf st2) (lo+m - (q+1)) (lo+m) ((lo+m - (lo+m - (q+1))) / 2)))) lo m:=hs2.congr (jA2 hz2 he)
     generalize setArr st2 (mirror (arrOf st2) (lo+m - (q+1)) (lo+m) ((lo+m - (lo+m - (q+1))) / 2))=st3 at*
    case' neg=>
     rw[af hq0]
     have hB3:=hB2
     have hs3:=hs2
     generalize st2=st3 at*
    all_goals
     have hz3:lo+m<=(arrOf st3).size:=by rw[hB3.sz]; omega
     refine aw (wpS_reverse ?_)
     have hB4:=hB3.arr (xs:=mirror (arrOf st3) lo (lo+m) ((lo+m - lo) / 2)) (mirror_perm _ _ _ _) fun k hk=>by
      rw[jBX hz3,af (by omega)]
     have hU:Up (mirror (arrOf st3) lo (lo+m) ((lo+m - lo) / 2)) lo m:=fun i j h1 h2 h3=>by
      rw[jBX hz3,jBX hz3,ag ⟨h1,by omega⟩,ag ⟨by omega,h3⟩]
      exact hs3 _ _ (by omega) (by omega) (by omega)
     generalize mirror (arrOf st3) lo (lo+m) ((lo+m - lo) / 2)=xs4 at*
     refine aw (cL (bL (I:=fun x c st'=>st'=setArr st3 xs4/\c=(none,x)/\Up xs4 lo x)
      (Q:=fun c st'=>st'=setArr st3 xs4/\∃ n,c=(none,n)/\1<=n/\n<=nrem/\Up xs4 lo n) ?tstep ?tfin ⟨rfl,rfl,hU⟩) ?tpost)
     case tfin=>
      rintro c st' ⟨rfl,rfl,hu⟩
      rw[show max m nrem=nrem by omega] at hu ⊢
      exact⟨rfl,nrem,rfl,by omega,by omega,hu⟩
     case tstep=>
      rintro x c st' h1 h2 ⟨rfl,rfl,hu⟩
      dsimp only
      refine aw (jBY hB4 h0 (by omega) (by omega) ?_)
      dsimp only
      by_cases hl:KI xs4 (lo+x)<KI xs4 (lo+x - 1)
      ·rw[aG hl,ag rfl]
       exact aC ⟨rfl,x,rfl,by omega,by omega,hu⟩
      ·rw[aM hl,af ak]
       exact aC ⟨rfl,rfl,hu.more (by omega) (by omega)⟩
     case tpost=>
      rintro c st' ⟨rfl,n,rfl,n1,n2,hu⟩
      exact aC (h n _ hB4 n1 n2 hu)
theorem jCV {st:SortSt}{n ok:Nat}{Q:Bool->SortSt->Prop}(h0:AllI a₀.toList)(hn:lo+n<=a₀.size)(hok:ok<=n)(hB:BB a₀ p F lo st)(hs:Up (arrOf st) lo ok)
  (h:∀ st',BB a₀ p F lo st'->Up (arrOf st') lo n->Q true st'):wpS (model prog w) A E s (binarySort' lo n ok) Q st:=by
 rw[binarySort'_eq]
 dsimp only
 refine aw (cL (bL (I:=fun k c st'=>c=(none,())/\BB a₀ p F lo st'/\Up (arrOf st') lo (min k n))
  (Q:=fun c st'=>c=(none,())/\BB a₀ p F lo st'/\Up (arrOf st') lo n) ?step ?fin ⟨rfl,hB,?init⟩) ?post)
 case post=>
  rintro c st' ⟨rfl,hb,hu⟩
  exact aC (h st' hb hu)
 case init=>
  by_cases e:ok=0
  ·intro i j h1 h2 h3
   have:i=j:=by omega
   rw[this]
   exact cN _
  ·exact fun i j h1 h2 h3=>hs i j h1 h2 (by omega)
 case fin=>
  rintro c st' ⟨hc,hb,hu⟩
  rw[show min (max (max ok 1) n) n=n by omega] at hu
  exact⟨hc,hb,hu⟩
 case step=>
  rintro k c st1 hk1 hk2 ⟨rfl,hb,hu⟩
  rw[show min k n=k by omega] at hu
  refine aw (cL (bL (I:=fun x c st'=>st'=st1/\∃ l r,c=(none,l,r)/\l<=r/\r<=k/\r - l<=k - x/\
    (∀ i,i<l->KI (arrOf st1) (lo+i)<=KI (arrOf st1) (lo+k))/\∀ i,r<=i->i<k->KI (arrOf st1) (lo+k)<KI (arrOf st1) (lo+i))
   (Q:=fun c st'=>st'=st1/\∃ l r,c=(none,l,r)/\l<=k/\
    (∀ i,i<l->KI (arrOf st1) (lo+i)<=KI (arrOf st1) (lo+k))/\∀ i,l<=i->i<k->KI (arrOf st1) (lo+k)<KI (arrOf st1) (lo+i)) ?step1 ?fin1 ⟨rfl,0,k,rfl,by omega,by omega,by omega,fun i hi=>by omega,fun i h1 h2=>by omega⟩) ?post1)
  case fin1=>
   rintro c st' ⟨rfl,l,r,rfl,b1,b2,b3,b4,b5⟩
   have:l=r:=by omega
   subst this
   exact⟨rfl,l,l,rfl,b2,b4,b5⟩
  case step1=>
   rintro x c st' _ hx ⟨rfl,l,r,rfl,b1,b2,b3,b4,b5⟩
   dsimp only
   by_cases hge:l ≥ r
   ·rw[ag hge]
    have:l=r:=by omega
    subst this
    exact aC ⟨rfl,l,l,rfl,b2,b4,b5⟩
   rw[af hge]
   refine aw (jBY hb h0 (by omega) (by omega) ?_)
   dsimp only
   by_cases hl:KI (arrOf st') (lo+k)<KI (arrOf st') (lo+(l+r) / 2)
   ·rw[aG hl,ag rfl]
    exact aC ⟨rfl,l,(l+r) / 2,rfl,by omega,by omega,by omega,b4,fun i h1 h2=>Int.lt_of_lt_of_le hl (hu _ _ (by omega) (by omega) (by omega))⟩
   ·rw[aM hl,af ak]
    exact aC ⟨rfl,(l+r) / 2+1,r,rfl,by omega,by omega,by omega,fun i h1=>cS (hu (lo+i) (lo+(l+r) / 2) (by omega) (by omega) (by omega)) (Int.not_lt.mp hl),b5⟩
  case post1=>
   rintro c st' ⟨rfl,l,r,rfl,hlk,b4,b5⟩
   dsimp only
   rw[moveDown'_eq]
   have hks:lo+k<(arrOf st').size:=by rw[hb.sz]; omega
   have kb:∀ x,KI (bubble (arrOf st') (lo+k) (lo+k - (lo+l))) x=if x=lo+l then KI (arrOf st') (lo+k) else if lo+l<x/\x<=lo+k then KI (arrOf st') (x - 1) else KI (arrOf st') x:=fun x=>by
    have:=jKD hks (d:=lo+k - (lo+l)) (by omega) x
    rw[show lo+k - (lo+k - (lo+l))=lo+l by omega] at this
    exact this
   refine aw (dB (aC ⟨rfl,hb.arr (bubble_perm _ _ _) fun x hx=>?_,?_⟩))
   ·rw[kb,af (by omega),af (by omega)]
   rw[show min (k+1) n=k+1 by omega]
   intro i j h1 h2 h3
   show KI (bubble _ _ _) i<=KI (bubble _ _ _) j
   rw[kb,kb]
   have lo1:∀ i,lo<=i->i<lo+l->KI (arrOf st') i<=KI (arrOf st') (lo+k):=fun i h1 h2=>by
    have:=b4 (i - lo) (by omega)
    rw[show lo+(i - lo)=i by omega] at this
    exact this
   have hi1:∀ i,lo+l<=i->i<lo+k->KI (arrOf st') (lo+k)<=KI (arrOf st') i:=fun i h1 h2=>by
    have:=b5 (i - lo) (by omega) (by omega)
    rw[show lo+(i - lo)=i by omega] at this
    exact ci this
   repeat' split
   all_goals first
    | (exfalso; omega)
    | exact cN _
    | exact lo1 _ (by omega) (by omega)
    | exact hi1 _ (by omega) (by omega)
    | exact hu _ _ (by omega) (by omega) (by omega)
end
def mergeAtB: { g:Nat->StateT SortSt Sem Bool // mergeAt'=g} :=⟨fun _=>bind _ _,rfl⟩
theorem yG {xs:Array Keyed}{i:Nat}{p:Keyed}(h:xs[i]?=some p):KI xs i=key p:=by
 unfold KI
 rw[h]
theorem jGL (s1:Nat):∀ (l:List Keyed) (j0:Nat) (a:Array Keyed) (P M S:List Keyed),P.length=s1+j0->M.length=l.length->a.toList=P++(M++S)->
  ((l.zipIdx j0).foldl (fun (a:Array Keyed) (x:Keyed×Nat)=>a.setIfInBounds (s1+x.2) x.1) a).toList=P++(l++S)
 | [],j0,a,P,M,S,h1,h2,h3=>by
  rw[eW h2] at h3
  exact h3
 | q::l,j0,a,P,[],S,h1,h2,h3=>by cases h2
 | q::l,j0,a,P,m::M,S,h1,h2,h3=>by
  rw[List.zipIdx_cons,List.foldl_cons]
  have:=jGL s1 l (j0+1) (a.setIfInBounds (s1+j0) q) (P++[q]) M S (by rw[ar,h1]; rfl) (Nat.succ.inj h2) (by
   rw[fw,h3,<- h1,gN _ _ (az _),gE,aE]
   rfl)
  rw[this,aE]
  rfl
theorem jNQ {P m1 m2 S:List Keyed}(e:m1.length=m2.length){k:Nat}(h:k<P.length\/P.length+m1.length<=k):(P++(m1++S))[k]?=(P++(m2++S))[k]?:=by
 rcases h with h | h
 ·rw[bK h,bK h]
 ·rw[aX (by omega),aX (by omega),aX (by omega),aX (by omega),e]
theorem jPL {P m S:List Keyed}{k:Nat}(h1:P.length<=k)(h2:k<P.length+m.length):(P++(m++S))[k]?=m[k - P.length]?:=by
 rw[aX h1,bK (by omega)]
theorem jH5 {xs:Array Keyed}{i j t:Nat}(h:t<j - i):(xs.extract i j).toList[t]?=xs[i+t]?:=by
 rw[jAI,bW h,eh,bY]
theorem jC5 {xs:Array Keyed}{i j:Nat}{p:Keyed}(h:p∈(xs.extract i j).toList):∃ t,i<=t/\t<j/\xs[t]?=some p:=by
 rw[jAI] at h
 obtain⟨t,h1,h2,h3⟩:=jA5 h
 exact⟨t,h1,by omega,at_list.mpr h3⟩
theorem jDE {xs:Array Keyed}{i j:Nat}(h:j<=xs.size):(xs.extract i j).size=j - i:=by
 rw[Array.size_extract]
 omega
theorem jJP {xs:Array Keyed}{i j:Nat}(h:∀ n m x y,i<=n->n<=m->m<j->xs[n]?=some x->xs[m]?=some y->LE x y):Srt (xs.extract i j).toList:=by
 refine bU.mpr fun a b ha hb hab=>?_
 have hl:(xs.extract i j).toList.length<=j - i:=by rw[jAI,aY]; omega
 have e1:=jH5 (xs:=xs) (i:=i) (j:=j) (t:=a) (by omega)
 have e2:=jH5 (xs:=xs) (i:=i) (j:=j) (t:=b) (by omega)
 rw[aj ha] at e1
 rw[aj hb] at e2
 exact h (i+a) (i+b) _ _ (by omega) (by omega) (by omega) e1.symm e2.symm
theorem KI_at {xs ys:Array Keyed}{i j:Nat}(h:xs.toList[i]?=ys.toList[j]?):KI xs i=KI ys j:=jB7 (by rw[<- bY,<- bY]; exact h)
theorem jHM {xs r R:Array Keyed}{sa na sb nb k1 k2:Nat}(hsb:sb=sa+na)(hk1:k1<na)(hk2:0<k2)(hk2':k2<=nb)(hz:sb+nb<=xs.size)
  (u1:Up xs sa na) (u2:Up xs sb nb) (g2:∀ t,sa<=t->t<sa+k1->KI xs t<=KI xs sb) (l3:∀ t,sb+k2<=t->t<sb+nb->KI xs (sb - 1)<=KI xs t)
  (D:kZ (xs.extract (sa+k1) sb) (xs.extract sb (sb+k2)) r)
  (hR:R.toList=xs.toList.take (sa+k1)++(r.toList++xs.toList.drop (sb+k2))):
  R.Perm xs/\(∀ k,k<sa\/sa+(na+nb)<=k->KI R k=KI xs k)/\Up R sa (na+nb):=by
 have lr:r.toList.length=sb+k2 - (sa+k1):=by
  rw[D.1.length_eq,ar,aU,aU,jDE (by omega),jDE (by omega)]
  omega
 have lP:(xs.toList.take (sa+k1)).length=sa+k1:=by rw[aY,aU]; omega
 have hX:xs.toList=xs.toList.take (sa+k1)++(((xs.extract (sa+k1) sb).toList++(xs.extract sb (sb+k2)).toList)++xs.toList.drop (sb+k2)):=by
  have a1:=br (sa+k1) xs.toList
  have a2:=br (sb - (sa+k1)) (xs.toList.drop (sa+k1))
  have a3:=br k2 (xs.toList.drop sb)
  rw[fu] at a2 a3
  rw[show sa+k1+(sb - (sa+k1))=sb by omega] at a2
  rw[jAI,jAI,bZ,aE,a3,a2,a1]
 have lm:((xs.extract (sa+k1) sb).toList++(xs.extract sb (sb+k2)).toList).length=r.toList.length:=D.1.length_eq.symm
 have out:∀ k,k<sa+k1\/sb+k2<=k->KI R k=KI xs k:=fun k hk=>KI_at (by
  have:=jNQ (P:=xs.toList.take (sa+k1)) (S:=xs.toList.drop (sb+k2)) lm.symm (k:=k) (by rw[lP,lr]; omega)
  exact(bQ (·[k]?) hR).trans (this.trans (bQ (·[k]?) hX).symm))
 have inn:∀ k,sa+k1<=k->k<sb+k2->R.toList[k]?=r.toList[k - (sa+k1)]?:=fun k h1 h2=>by
  rw[hR,jPL (by rw[lP]; exact h1) (by rw[lP,lr]; omega),lP]
 have mem:∀ k,sa+k1<=k->k<sb+k2->∃ t,sa+k1<=t/\t<sb+k2/\KI R k=KI xs t:=fun k h1 h2=>by
  have hk:k - (sa+k1)<r.toList.length:=by omega
  have e:=inn k h1 h2
  rw[aj hk] at e
  have hm:=D.1.mem_iff.mp (dQ hk)
  rcases ax.mp hm with q | q
  ·obtain⟨t,t1,t2,t3⟩:=jC5 q
   exact⟨t,t1,by omega,(yG (at_list.mpr e)).trans (yG t3).symm⟩
  ·obtain⟨t,t1,t2,t3⟩:=jC5 q
   exact⟨t,by omega,t2,(yG (at_list.mpr e)).trans (yG t3).symm⟩
 have srt:∀ i j,sa+k1<=i->i<=j->j<sb+k2->KI R i<=KI R j:=fun i j h1 h2 h3=>by
  have hi:i - (sa+k1)<r.toList.length:=by omega
  have hj:j - (sa+k1)<r.toList.length:=by omega
  have e1:=inn i h1 (by omega)
  have e2:=inn j (by omega) h3
  rw[aj hi] at e1
  rw[aj hj] at e2
  rw[yG (at_list.mpr e1),yG (at_list.mpr e2)]
  exact jDI D.2 (aj hi) (aj hj) (by omega)
 have low:∀ t u,sa<=t->t<sa+k1->t<=u->u<sb+nb->KI xs t<=KI xs u:=fun t u h1 h2 h3 h4=>by
  by_cases e:u<sb
  ·exact u1 t u h1 h3 (by omega)
  ·exact cS (g2 t h1 h2) (u2 sb u (az _) (by omega) h4)
 have high:∀ t u,sa<=t->t<=u->sb+k2<=u->u<sb+nb->KI xs t<=KI xs u:=fun t u h1 h2 h3 h4=>by
  by_cases e:t<sb
  ·exact cS (u1 t (sb - 1) h1 (by omega) (by omega)) (l3 u h3 h4)
  ·exact u2 t u (by omega) h2 h4
 refine⟨?_,fun k hk=>out k (by omega),fun i j h1 h2 h3=>?_⟩
 ·refine cW.mpr ?_
  rw[hR]
  refine List.Perm.trans ?_ (eZ hX.symm)
  exact cm _ (eJ _ D.1)
 ·have h3:j<sb+nb:=by omega
  by_cases i1:i<sa+k1
  ·rw[out i (.inl i1)]
   by_cases j1:j<sa+k1
   ·rw[out j (.inl j1)]
    exact low i j h1 i1 h2 h3
   by_cases j2:j<sb+k2
   ·obtain⟨t,t1,t2,t3⟩:=mem j (by omega) j2
    rw[t3]
    exact low i t h1 i1 (by omega) (by omega)
   ·rw[out j (.inr (by omega))]
    exact low i j h1 i1 h2 h3
  by_cases i2:i<sb+k2
  ·by_cases j2:j<sb+k2
   ·exact srt i j (by omega) h2 j2
   ·obtain⟨t,t1,t2,t3⟩:=mem i (by omega) i2
    rw[t3,out j (.inr (by omega))]
    exact high t j (by omega) (by omega) (by omega) h3
  ·rw[out i (.inr (by omega)),out j (.inr (by omega))]
   exact high i j h1 h2 (by omega) h3
section
variable {prog:Program}{w:World}{A:Around}{E:Value->Shared->Prop}{s:Shared} [LtOk prog w A s]
theorem jMF {st st':SortSt}{Q:PUnit->SortSt->Prop}(h:Q ⟨⟩ st'):wpS (model prog w) A E s (set st':StateT SortSt Sem PUnit) Q st:=dB (f:=fun _=>st') h
theorem jHZ {α:Type}{a b:α}{Q:α->SortSt->Prop}{st:SortSt}(e:a=b)(h:Q b st):wpS (model prog w) A E s (pure a:StateT SortSt Sem α) Q st:=aC (e ▸ h)
structure Merged (st st':SortSt)(i sa na sb nb pw:Nat):Prop where
 perm:(arrOf st').Perm (arrOf st)
 kind:kindOf st'=Od.kd
 failed:failedOf st'=none
 pend:pendingOf st'=((pendingOf st).setIfInBounds i (sa,na+nb,pw)).eraseIdxIfInBounds (i+1)
 out:∀ k,k<sa\/sa+(na+nb)<=k->KI (arrOf st') k=KI (arrOf st) k
 up:Up (arrOf st') sa (na+nb)
theorem jFJ {st:SortSt}{i sa na pw sb nb w2:Nat}{Q:Bool->SortSt->Prop}(hk:kindOf st=Od.kd)(hf:failedOf st=none)(hI:AllI (arrOf st).toList)
  (h1:(pendingOf st)[i]?=some (sa,na,pw)) (h2:(pendingOf st)[i+1]?=some (sb,nb,w2)) (hsb:sb=sa+na) (hna:0<na) (hnb:0<nb) (hz:sb+nb<=(arrOf st).size)
  (u1:Up (arrOf st) sa na) (u2:Up (arrOf st) sb nb) (h:∀ st',Merged st st' i sa na sb nb pw->Q true st'):wpS (model prog w) A E s (mergeAt' i) Q st:=by
 rw[mergeAtB.2]
 delta mergeAtB
 dsimp only
 simp only [elP,ltP,ltAtP,jG2,jKV,jKW]
 refine aw (fh ?_)
 rw[h1,h2]
 dsimp only
 refine aw (jMF ?_)
 generalize hpp:((pendingOf st).setIfInBounds i (sa,na+nb,pw)).eraseIdxIfInBounds (i+1)=pp
 show wpS _ _ _ _ _ _ (SortSt.mk' (kindOf st) (arrOf st) pp (gallopOf st) (failedOf st))
 generalize hst1:SortSt.mk' (kindOf st) (arrOf st) pp (gallopOf st) (failedOf st)=st1
 have G1:kindOf st1=kindOf st/\arrOf st1=arrOf st/\pendingOf st1=pp/\failedOf st1=failedOf st:=by rw[<- hst1]; exact⟨rfl,rfl,rfl,rfl⟩
 have at_:∀ t,t<(arrOf st).size->∃ q,(arrOf st)[t]?=some q/\IsI q:=fun t ht=>by
  obtain⟨q,q1,q2⟩:=yN ht
  exact⟨q,q1,hI q (ao q2)⟩
 have m1:∀ n m x y,sa<=n->n<=m->m<sa+na->(arrOf st)[n]?=some x->(arrOf st)[m]?=some y->LE x y:=fun n m x y a1 a2 a3 hx hy=>by
  have:=u1 n m a1 a2 a3
  rw[yG hx,yG hy] at this
  exact this
 have m2:∀ n m x y,sb<=n->n<=m->m<sb+nb->(arrOf st)[n]?=some x->(arrOf st)[m]?=some y->LE x y:=fun n m x y a1 a2 a3 hx hy=>by
  have:=u2 n m a1 a2 a3
  rw[yG hx,yG hy] at this
  exact this
 obtain⟨pb,hpb,ipb⟩:=at_ sb (by omega)
 refine aw (jH hpb ?_)
 refine aw (jH2 (G1.1.trans hk) ipb hI m1 hna (show sa+na<=(arrOf st).size by omega) fun k1 g1 g2 g3=>?_)
 dsimp only
 have g2:∀ t,sa<=t->t<sa+k1->KI (arrOf st) t<=KI (arrOf st) sb:=fun t t1 t2=>by
  obtain⟨q,hq,_⟩:=at_ t (by omega)
  rw[yG hq,yG hpb]
  exact g2 t q t1 t2 hq
 by_cases e1:na - k1=0
 ·rw[ag (bp e1)]
  refine aC (h _ ⟨?_,G1.1.trans hk,G1.2.2.2.trans hf,G1.2.2.1.trans hpp.symm,fun k _=>?_,?_⟩)
  ·rw[G1.2.1]
  ·rw[G1.2.1]
  ·rw[G1.2.1]
   intro i j i1 i2 i3
   by_cases a:i<sb
   ·by_cases b:j<sb
    ·exact u1 i j i1 i2 (by omega)
    ·exact cS (g2 i i1 (by omega)) (u2 sb j (az _) (by omega) (by omega))
   ·exact u2 i j (by omega) i2 (by omega)
 rw[af (bn e1)]
 obtain⟨pa,hpa,ipa⟩:=at_ (sa+k1+(na - k1) - 1) (by omega)
 refine aw (jH hpa ?_)
 refine aw (jH3 (G1.1.trans hk) ipa hI m2 (by omega) (show sb+nb<=(arrOf st).size by omega) fun k2 l1 l2 l3=>?_)
 dsimp only
 have epa:sa+k1+(na - k1) - 1=sb - 1:=by omega
 rw[epa] at hpa
 have l3':∀ t,sb+k2<=t->t<sb+nb->KI (arrOf st) (sb - 1)<=KI (arrOf st) t:=fun t t1 t2=>by
  obtain⟨q,hq,_⟩:=at_ t (by omega)
  rw[yG hq,yG hpa]
  exact l3 t q t1 t2 hq
 by_cases e2:k2=0
 ·rw[ag (bp e2)]
  refine aC (h _ ⟨?_,G1.1.trans hk,G1.2.2.2.trans hf,G1.2.2.1.trans hpp.symm,fun k _=>?_,?_⟩)
  ·rw[G1.2.1]
  ·rw[G1.2.1]
  ·rw[G1.2.1]
   intro i j i1 i2 i3
   by_cases a:i<sb
   ·by_cases b:j<sb
    ·exact u1 i j i1 i2 (by omega)
    ·exact cS (u1 i (sb - 1) i1 (by omega) (by omega)) (l3' j (by omega) (by omega))
   ·exact u2 i j (by omega) i2 (by omega)
 rw[af (bn e2)]
 have T:Two ((arrOf st).extract (sa+k1) sb) ((arrOf st).extract sb (sb+k2)):=by
  refine⟨fun q hq=>?_,fun q hq=>?_,jJP fun n m x y a1 a2 a3=>m1 n m x y (by omega) a2 (by omega),jJP fun n m x y a1 a2 a3=>m2 n m x y (by omega) a2 (by omega),?_,?_,fun x hx y hy=>?_,fun y hy q hq=>?_⟩
  ·obtain⟨t,_,_,t3⟩:=jC5 hq
   exact hI q (ao (at_list.mp t3))
  ·obtain⟨t,_,_,t3⟩:=jC5 hq
   exact hI q (ao (at_list.mp t3))
  ·rw[jDE (by omega)]; omega
  ·rw[jDE (by omega)]; omega
  ·obtain⟨t,t1,t2,t3⟩:=jC5 hx
   rw[jDE (by omega),jH5 (by omega),show sa+k1+(sb - (sa+k1) - 1)=sb - 1 by omega,hpa] at hy
   cases hy
   exact l2 t x t1 t2 t3
  ·obtain⟨t,t1,t2,t3⟩:=jC5 hy
   rw[jH5 (by omega),cK,hpb] at hq
   cases hq
   exact g3 t y t1 (by omega) t3
 by_cases e3:na - k1<=k2
 case' pos=>
  rw[ag e3]
  refine aw (jFH (G1.1.trans hk) T fun r st2 D G0=>?_)
  have G:SG (SortSt.mk' (kindOf st) (arrOf st) pp (gallopOf st) (failedOf st)) st2:=by rw[hst1]; exact G0
  subst hpp
 case' neg=>
  rw[af e3]
  refine aw (jFI (G1.1.trans hk) T fun r st2 D G0=>?_)
  have G:SG (SortSt.mk' (kindOf st) (arrOf st) pp (gallopOf st) (failedOf st)) st2:=by rw[hst1]; exact G0
  subst hpp
 all_goals
  refine aw (dB (aw (fh ?_)))
  have ea:arrOf st2=arrOf st:=G.a
  have W:=jHM (R:=((r.toList.zipIdx 0).foldl (fun (a:Array Keyed) (x:Keyed×Nat)=>a.setIfInBounds (sa+k1+x.2) x.1) (arrOf st))) hsb (by omega) (by omega) l1 hz u1 u2 g2 l3' D (jGL (sa+k1) r.toList 0 (arrOf st) ((arrOf st).toList.take (sa+k1)) (((arrOf st).extract (sa+k1) sb).toList++((arrOf st).extract sb (sb+k2)).toList) ((arrOf st).toList.drop (sb+k2)) (by rw[aY,aU]; omega) D.1.length_eq.symm (by
   have a1:=br (sa+k1) (arrOf st).toList
   have a2:=br (sb - (sa+k1)) ((arrOf st).toList.drop (sa+k1))
   have a3:=br k2 ((arrOf st).toList.drop sb)
   rw[fu] at a2 a3
   rw[show sa+k1+(sb - (sa+k1))=sb by omega] at a2
   rw[jAI,jAI,bZ,aE,a3,a2,a1]))
  rw[<- ea] at W
  refine jHZ (by show (failedOf st2).isNone=true; rw[G.f]; show (failedOf st).isNone=true; rw[hf]; rfl) (h _ ⟨?_,G.k.trans hk,G.f.trans hf,G.p,?_,?_⟩)
  ·rw[<- ea]
   exact W.1
  ·rw[<- ea]
   exact W.2.1
  ·exact W.2.2
end
def Runs (xs:Array Keyed):List (Nat×Nat×Nat)->Nat->Nat->Prop
 | [],a,b=>a=b
 | (s,n,_)::t,a,b=>s=a/\0<n/\Up xs s n/\Runs xs t (a+n) b
section
variable {xs ys:Array Keyed}
theorem Runs.le:∀ {l:List (Nat×Nat×Nat)}{a b:Nat},Runs xs l a b->a+l.length<=b
 | [],a,b,h=>by have:a=b:=h; rw[dZ]; omega
 | (s,n,_)::t,a,b,⟨_,h2,_,h4⟩=>by
  have:=Runs.le h4
  rw[bq]
  omega
theorem Runs.app:∀ {l m:List (Nat×Nat×Nat)}{a b:Nat},Runs xs (l++m) a b->∃ c,Runs xs l a c/\Runs xs m c b
 | [],m,a,b,h=>⟨a,rfl,h⟩
 | (s,n,_)::t,m,a,b,⟨h1,h2,h3,h4⟩=>by
  obtain⟨c,c1,c2⟩:=Runs.app h4
  exact⟨c,⟨h1,h2,h3,c1⟩,c2⟩
theorem Runs.put:∀ {l m:List (Nat×Nat×Nat)}{a b c:Nat},Runs xs l a c->Runs xs m c b->Runs xs (l++m) a b
 | [],m,a,b,c,h,g=>by have:a=c:=h; subst this; exact g
 | (s,n,_)::t,m,a,b,c,⟨h1,h2,h3,h4⟩,g=>⟨h1,h2,h3,Runs.put h4 g⟩
theorem Up.same {lo n:Nat}(h:Up xs lo n)(e:∀ k,lo<=k->k<lo+n->KI ys k=KI xs k):Up ys lo n:=fun i j h1 h2 h3=>by
 rw[e i h1 (by omega),e j (by omega) h3]
 exact h i j h1 h2 h3
theorem Runs.same:∀ {l:List (Nat×Nat×Nat)}{a b:Nat},Runs xs l a b->(∀ k,a<=k->k<b->KI ys k=KI xs k)->Runs ys l a b
 | [],a,b,h,_=>h
 | (s,n,_)::t,a,b,⟨h1,h2,h3,h4⟩,e=>by
  have:=Runs.le h4
  exact⟨h1,h2,h3.same fun k k1 k2=>e k (by omega) (by omega),Runs.same h4 fun k k1 k2=>e k (by omega) k2⟩
theorem Runs.mod {f:Nat×Nat×Nat->Nat×Nat×Nat}(hf:∀ x,(f x).1=x.1/\(f x).2.1=x.2.1):∀ {l:List (Nat×Nat×Nat)}{i a b:Nat},Runs xs l a b->Runs xs (l.modify i f) a b
 | [],i,a,b,h=>by rw[List.modify_nil]; exact h
 | (s,n,w)::t,0,a,b,⟨h1,h2,h3,h4⟩=>by
  rw[List.modify_zero_cons]
  obtain⟨e1,e2⟩:=hf (s,n,w)
  generalize f (s,n,w)=v at e1 e2 ⊢
  obtain⟨s',n',w'⟩:=v
  have e1:s'=s:=e1
  have e2:n'=n:=e2
  subst e1 e2
  exact⟨h1,h2,h3,h4⟩
 | (s,n,w)::t,i+1,a,b,⟨h1,h2,h3,h4⟩=>by
  rw[List.modify_succ_cons]
  exact⟨h1,h2,h3,Runs.mod hf h4⟩
end
structure RI (a₀:Array Keyed)(lo:Nat)(st:SortSt):Prop where
 perm:(arrOf st).Perm a₀
 kind:kindOf st=Od.kd
 failed:failedOf st=none
 runs:Runs (arrOf st) (pendingOf st).toList 0 lo
theorem jEN:∀ (l:List (Nat×Nat×Nat)) (i:Nat),i+1<l.length->∃ u x y t,l=u++x::y::t/\u.length=i
 | [],i,h=>absurd h (ed _)
 | [x],i,h=>by rw[cI] at h; omega
 | x::y::t,0,h=>⟨[],x,y,t,rfl,rfl⟩
 | x::y::t,i+1,h=>by
  obtain⟨u,x',y',t',e,hu⟩:=jEN (y::t) i (by rw[bq] at h; omega)
  exact⟨x::u,x',y',t',by rw[e]; rfl,by rw[bq,hu]⟩
theorem jOH {a₀ xs:Array Keyed}(h0:AllI a₀.toList)(hp:xs.Perm a₀):AllI xs.toList:=fun p hp'=>h0 p ((cW.mp hp).mem_iff.mp hp')
section
variable {prog:Program}{w:World}{A:Around}{E:Value->Shared->Prop}{s:Shared} [LtOk prog w A s]{a₀:Array Keyed}
theorem jCU {st:SortSt}{i lo:Nat}{Q:Bool->SortSt->Prop}(h0:AllI a₀.toList)(R:RI a₀ lo st)(hlo:lo<=a₀.size)(hi:i+1<(pendingOf st).size)
  (h:∀ st',RI a₀ lo st'->(pendingOf st').size+1=(pendingOf st).size->(∀ k,lo<=k->KI (arrOf st') k=KI (arrOf st) k)->Q true st'):wpS (model prog w) A E s (mergeAt' i) Q st:=by
 obtain⟨u,⟨sa,na,pw⟩,⟨sb,nb,w2⟩,t,e,hu⟩:=jEN (pendingOf st).toList i (by rw[aU]; exact hi)
 have rr:=R.runs
 rw[e] at rr
 obtain⟨c,r1,a1,a2,a3,a4,a5,a6,a7⟩:=Runs.app rr
 have r2:=Runs.le a7
 have r3:=Runs.le r1
 subst a1
 have e1:(pendingOf st)[i]?=some (sa,na,pw):=by
  rw[<- bY,e,aX (by omega),hu,gE]
  rfl
 have e2:(pendingOf st)[i+1]?=some (sb,nb,w2):=by
  rw[<- bY,e,aX (by omega),hu,bZ]
  rfl
 have z:=R.perm.size_eq
 refine jFJ R.kind R.failed (jOH h0 R.perm) e1 e2 a4 a2 a5 (by omega) a3 a6 fun st' M=>?_
 have ep:(pendingOf st').toList=u++(sa,na+nb,pw)::t:=by
  rw[M.pend,Array.toList_eraseIdxIfInBounds,fw,e,gN _ _ (by omega),hu,gE,List.set_cons_zero,List.eraseIdx_append_of_length_le (by omega),hu,bZ]
  rfl
 refine h st' ⟨M.perm.trans R.perm,M.kind,M.failed,?_⟩ ?_ fun k hk=>M.out k (by omega)
 ·rw[ep]
  refine Runs.put (Runs.same r1 fun k k1 k2=>M.out k (by omega)) ⟨rfl,by omega,M.up,?_⟩
  have:=Runs.same (ys:=arrOf st') a7 fun k k1 k2=>M.out k (by omega)
  rw[Nat.add_assoc] at this
  exact this
 ·have q1:=bQ List.length ep
  have q2:=bQ List.length e
  rw[aU,ar,bq] at q1
  rw[aU,ar,bq,bq] at q2
  omega
theorem RI.of {st:SortSt}{F:Nat->Int}{lo:Nat}{p:Array (Nat×Nat×Nat)}{xs:Array Keyed}(h:BB a₀ p F lo st)(hr:Runs xs p.toList 0 lo)(hF:∀ k,F k=KI xs k):RI a₀ lo st:=
 ⟨h.perm,h.kind,h.failed,by rw[h.pend]; exact hr.same fun k _ hk=>(h.low k hk).trans (hF k)⟩
theorem jCT {st:SortSt}{Q:Unit->SortSt->Prop}(h0:AllI a₀.toList)(hB:SB a₀ st)(h1:1<=a₀.size)
  (h:∀ st',(arrOf st').Perm a₀->failedOf st'=none->STo (arrOf st') a₀.size->Q () st'):wpS (model prog w) A E s sortRuns' Q st:=by
 rw[sortRuns'_eq]
 refine aw (fh ?_)
 try dsimp only
 have hz:=hB.size
 rw[hz]
 generalize minRun' a₀.size a₀.size 0=mr
 refine aw (cL (bL (I:=fun x c st'=>∃ lo,c=(none,lo)/\x<=lo/\lo<=a₀.size/\RI a₀ lo st')
  (Q:=fun c st'=>c=(none,a₀.size)/\RI a₀ a₀.size st') ?step ?fin ⟨0,rfl,az _,bH _,hB.perm,hB.kind,hB.failed,by rw[hB.pend]; rfl⟩) ?post)
 case fin=>
  rintro c st' ⟨lo,rfl,l1,l2,R⟩
  have:lo=a₀.size:=by omega
  subst this
  exact⟨rfl,R⟩
 case step=>
  rintro x c st1 _ hx ⟨lo,rfl,l1,l2,R1⟩
  try dsimp only
  by_cases hl:lo ≥ a₀.size
  ·rw[ag hl]
   have:lo=a₀.size:=by omega
   subst this
   exact aC ⟨rfl,R1⟩
  rw[af hl]
  refine aw (jDT (F:=fun k=>KI (arrOf st1) k) (p:=pendingOf st1) h0 (by omega) (by omega) ⟨R1.perm,R1.kind,R1.failed,rfl,fun _ _=>rfl⟩ fun m st2 B2 m1 m2 U2=>?_)
  try dsimp only
  by_cases hm:m<mr
  case' pos=>
   rw[ag hm]
   refine aw (gk (dN ⟨rfl,?_⟩))
   refine aw (jCV h0 (by omega) (by omega) B2 U2 fun st4 B4 U4=>?_)
   have R4:=RI.of B4 R1.runs fun _=>rfl
   have n0:0<min (a₀.size - lo) mr:=by omega
   have n9:min (a₀.size - lo) mr<=a₀.size - lo:=by omega
   generalize min (a₀.size - lo) mr=n at*
  case' neg=>
   rw[af hm]
   have R4:=RI.of B2 R1.runs fun _=>rfl
   have U4:=U2
   generalize st2=st4 at*
   generalize m=n at*
  all_goals
   refine aw (fh ?_)
   have last:∀ st5:SortSt,RI a₀ lo st5->Up (arrOf st5) lo n->∃ lo',(none,lo+n)=((none:Option PUnit),lo')/\x+1<=lo'/\lo'<=a₀.size/\RI a₀ lo' (setPending st5 ((pendingOf st5).push (lo,n,0))):=fun st5 R5 U5=>
    ⟨lo+n,rfl,by omega,by omega,R5.perm,R5.kind,R5.failed,by
     show Runs (arrOf st5) ((pendingOf st5).push (lo,n,0)).toList 0 (lo+n)
     rw[dG]
     exact R5.runs.put ⟨rfl,by omega,U5,rfl⟩⟩
   cases hb:(pendingOf st4).back? with
   | none=>
    try dsimp only
    exact aw (dB (aC (last st4 R4 U4)))
   | some v=>
    obtain⟨s1,n1,w1⟩:=v
    try dsimp only
    refine aw (cL (bL (I:=fun _ c st'=>c=(none,())/\RI a₀ lo st'/\Up (arrOf st') lo n) (Q:=fun c st'=>c=(none,())/\RI a₀ lo st'/\Up (arrOf st') lo n) ?mstep (fun _ _ z=>z) ⟨rfl,R4,U4⟩) ?mpost)
    case mstep=>
     rintro y c st5 _ _ ⟨rfl,R5,U5⟩
     try dsimp only
     refine aw (fh ?_)
     by_cases hs:(pendingOf st5).size>1
     ·rw[ag hs]
      obtain⟨v,hv⟩:∃ v,(pendingOf st5)[(pendingOf st5).size - 2]?=some v:=⟨_,Array.getElem?_eq_getElem (by omega)⟩
      rw[hv]
      obtain⟨v1,v2,older⟩:=v
      try dsimp only
      by_cases ho:older<=power' a₀.size (2*s1+n1) (2*s1+n1+n1+n) a₀.size
      ·rw[ag ho]
       exact aC ⟨rfl,R5,U5⟩
      rw[af ho]
      refine aw (jCU h0 R5 (by omega) (by omega) fun st6 R6 _ E6=>?_)
      exact aC ⟨rfl,R6,U5.same fun k k1 _=>E6 k k1⟩
     ·rw[af hs]
      exact aC ⟨rfl,R5,U5⟩
    case mpost=>
     rintro c st5 ⟨rfl,R5,U5⟩
     try dsimp only
     refine aw (dB (aw (dB (aC (last (setPending st5 ((pendingOf st5).modify ((pendingOf st5).size - 1) fun x=>(x.1,x.2.1,power' a₀.size (2*s1+n1) (2*s1+n1+n1+n) a₀.size))) ⟨R5.perm,R5.kind,R5.failed,?_⟩ U5)))))
     show Runs (arrOf st5) (Array.modify _ _ _).toList 0 lo
     rw[Array.toList_modify]
     exact Runs.mod (f:=fun x=>(x.1,x.2.1,power' a₀.size (2*s1+n1) (2*s1+n1+n1+n) a₀.size)) (fun _=>⟨rfl,rfl⟩) R5.runs
 case post=>
  rintro c st1 ⟨rfl,R1⟩
  try dsimp only
  refine aw (cL (bL (I:=fun x c st'=>c=(none,())/\RI a₀ a₀.size st'/\1<=(pendingOf st').size/\(pendingOf st').size+x<=a₀.size)
   (Q:=fun c st'=>c=(none,())/\RI a₀ a₀.size st'/\(pendingOf st').size=1) ?step2 ?fin2 ⟨rfl,R1,?a1,?a2⟩) ?post2)
  case a1=>
   have:=R1.runs
   cases hp:(pendingOf st1).toList with
   | nil=>
    rw[hp] at this
    have:0=a₀.size:=this
    omega
   | cons v t=>
    have:=bQ List.length hp
    rw[aU,bq] at this
    omega
  case a2=>
   have:=R1.runs.le
   rw[aU] at this
   omega
  case fin2=>
   rintro c st2 ⟨_,_,h2,h3⟩
   omega
  case post2=>
   rintro c st2 ⟨rfl,R2,h2⟩
   try dsimp only
   refine aC (h st2 R2.perm R2.failed ?_)
   have rr:=R2.runs
   cases hp:(pendingOf st2).toList with
   | nil=>
    rw[<- aU,hp] at h2
    cases h2
   | cons v t=>
    have:=bQ List.length hp
    rw[aU,h2,bq] at this
    have:t=[]:=eW (by omega)
    subst this
    rw[hp] at rr
    obtain⟨v1,v2,v3⟩:=v
    obtain⟨q1,q2,q3,q4⟩:=rr
    have q4:0+v2=a₀.size:=q4
    subst q1
    exact fun i j hij hj=>q3 i j (bH _) hij (by omega)
  case step2=>
   rintro x c st2 _ hx ⟨rfl,R2,h2,h3⟩
   try dsimp only
   refine aw (fh ?_)
   by_cases hs:(pendingOf st2).size<=1
   ·rw[ag hs]
    exact aC ⟨rfl,R2,by omega⟩
   rw[af hs]
   refine aw (jCU h0 R2 (az _) ?_ fun st3 R3 e3 _=>?_)
   ·have ite_le:∀ (c:Prop) [Decidable c] (a b:Nat),(if c then a else b)<=max a b:=fun c _ a b=>by
     by_cases z:c
     ·rw[ag z]; omega
     ·rw[af z]; omega
    refine g9 (Nat.add_le_add_right (ite_le _ _ _) 1) ?_
    omega
   ·exact aC ⟨rfl,R3,by omega,by omega⟩
end
end TM
end
section
namespace TM
open PySem PySem.Spec PyProof.Rows
section
variable {prog:Program}{w:World}{A:Around}{E:Value->Shared->Prop}{s:Shared}
abbrev turned (b:Bool)(xs:Array Value):Array Value:=if b then xs.reverse else xs
theorem jFM {b:Bool}{xs:Array Value} :(turned b xs).size=xs.size:=by
 cases b
 ·rfl
 ·exact Array.size_reverse
theorem jBZ (b:Bool)(vs:List Value):(if b=true then (vs.toArray.zip vs.toArray).reverse else vs.toArray.zip vs.toArray).Perm (pairsOf vs):=by
 cases b with
 | false=>exact Array.Perm.refl _
 | true=>exact cW.mpr (by show ((vs.toArray.zip vs.toArray).reverse).toList.Perm _; rw[cO]; exact List.reverse_perm _)
def AskOk [Od](prog:Program)(w:World)(A:Around)(s:Shared)(a:Addr)(vs:List Value):Prop:=
 ∀ h6:Heap,(∀ c o,s.heap.get? c=some o->c≠a->h6.get? c=some o)->
  (∀ (Q:SortKind->Shared->Prop) (E:Value->Shared->Prop),Q Od.kd { s with heap:=h6} ->wpAny (model prog w) A (keyKind' vs.toArray) Q E { s with heap:=h6})/\LtOk prog w A { s with heap:=h6}
theorem jKE [Od]{a:Addr}{vs:List Value}{n:Nat}{b:Bool}{P:Fin->Shared->Prop}(ho:s.heap.get? a=some (seqObj "list" vs.toArray n))(hz:vs.length<=sizeLine)(hI:AllI (pairsOf vs).toList)(hk:2<=vs.length->AskOk prog w A s a vs)
  (h:∀ xs:Array Keyed,xs.Perm (pairsOf vs)->STo xs (pairsOf vs).size->P (.done (.ret .none)) { s with heap:=sortedHeap s.heap a vs (turned b (xs.map (·.2)))}):
  wpAny (model prog w) A (Builtin.«list.sort» ⟨[.ref a],[(Str.ofString "reverse", .bool b)]⟩) P E s:=by
 rw[list_sort_rev]
 have ha:=aL ho
 have hz':vs.toArray.size<=sizeLine:=by rw[aF]; exact hz
 refine ah (listItems_at ho rfl (ah (listUpdate_at ho rfl ?_ hz' (bH _))))
 obtain⟨e1,ho1⟩:∃ e1,(s.heap.update a (Obj.mapSeq fun _=>#[])).get? a=some (seqObj "list" #[] e1):=⟨_,get?_update_seq ho _⟩
 refine ah (seqEpoch_at ho1 rfl (ah (wpAny_newTuple ?_ hz)))
 refine ah (wpAny_newList (cJ ?_))
 generalize hh6:((s.heap.update a (Obj.mapSeq fun _=>#[])).push (seqObj "tuple" vs.toArray 0)).push (seqObj "list" #[] 0)=h6
 have ho6:h6.get? a=some (seqObj "list" #[] e1):=by
  rw[<- hh6]
  exact am _ (am _ ho1)
 have k6:∀ c o,s.heap.get? c=some o->c≠a->h6.get? c=some o:=fun c o q ne=>by
  rw[<- hh6]
  exact am _ (am _ ((eE _ _ (bV ne)).trans q))
 have sh:∀ out,sortedHeap s.heap a vs out=h6.update a (Obj.mapSeq fun _=>out):=fun out=>by rw[<- hh6]; rfl
 have go:∀ X:Sem Fin,wpAny (model prog w) A X P E { s with heap:=h6} ->wpAny (model prog w) A (if b=true then (do let _ <- rule "list.sort.reverse"; X) else X) P E { s with heap:=h6} :=fun X hX=>by
  cases b with
  | false=>exact hX
  | true=>exact ah (dN hX)
 have hend:∀ st':SortSt,(arrOf st').Perm (pairsOf vs)->STo (arrOf st') (pairsOf vs).size->P (.done (.ret .none)) { s with heap:=h6.update a (Obj.mapSeq fun _=>turned b ((arrOf st').map (·.2)))} :=fun st' p1 p2=>by
  rw[<- sh]
  exact h _ p1 p2
 have hfit:∀ st':SortSt,(arrOf st').Perm (pairsOf vs)->(turned b ((arrOf st').map (·.2))).size<=sizeLine+1:=fun st' p1=>by
  rw[jFM,Array.size_map,p1.size_eq,pairsOf_size]
  omega
 dsimp only
 refine go _ ?_
 by_cases few:vs.toArray.size<2
 ·rw[ag few,ag few]
  refine ah (aV ?_)
  rw[StateT.run_pure]
  refine ah (aV ?_)
  dsimp only
  refine ah (seqEpoch_at ho6 rfl (ah (listUpdate_at ho6 rfl ?_ (bH _) (hfit (SortSt.mk' general' _ #[] 7 none) (jBZ b vs)))))
  rw[bne_self_eq_false,af ak]
  refine aV (hend (SortSt.mk' general' _ #[] 7 none) (jBZ b vs) fun i j hij hj=>?_)
  have:i=j:=by
   rw[pairsOf_size] at hj
   rw[aF] at few
   omega
  rw[this]
  exact cN _
 ·rw[af few,af few]
  rw[aF] at few
  obtain⟨kk,ll⟩:=hk (by omega) h6 k6
  refine ah (kk _ _ (ah (b0 (jCT (a₀:=pairsOf vs) (st:=SortSt.mk' Od.kd _ #[] 7 none)
   (Q:=fun _ st'=>(arrOf st').Perm (pairsOf vs)/\failedOf st'=none/\STo (arrOf st') (pairsOf vs).size)
   hI ⟨jBZ b _,rfl,rfl,rfl⟩ (by rw[pairsOf_size]; omega) fun st' a1 a2 a3=>⟨a1,a2,a3⟩) ?_ fun _ _ e=>e)))
  rintro ⟨⟨⟩,st'⟩ s' ⟨rfl,p1,p2,p3⟩
  dsimp only
  refine ah (seqEpoch_at ho6 rfl (ah (listUpdate_at ho6 rfl ?_ (bH _) (hfit st' p1))))
  rw[p2]
  dsimp only
  rw[bne_self_eq_false,af ak]
  exact aV (hend st' p1 p3)
abbrev odI:Od:=⟨oneType',fun p=>numOf p.1,fun p=>∃ n t,p.1=Value.int n t⟩
theorem ltI: @LtOk prog w A s odI:= @LtOk.mk prog w A s odI fun {E st x y Q} hk hx hy h=>by
 obtain⟨a,t,ha⟩:=hx
 obtain⟨b,u,hb⟩:=hy
 have e1: @key odI x=a:=by show numOf x.1=a; rw[ha]; rfl
 have e2: @key odI y=b:=by show numOf y.1=b; rw[hb]; rfl
 rw[e1,e2] at h
 rw[lt'_eq]
 refine aw (fh ?_)
 rw[show kindOf st=oneType' from hk,keyLt'_oneType,ha,hb]
 exact aw (gk (wpAny_attempt (oneLt_int ⟨rfl,aC h⟩)))
theorem stoI {xs:Array Keyed}{k:Nat}(h: @STo odI xs k):SortedTo xs k:=h
theorem askI {a:Addr}{vs:List Value}{ns:List Int}(hI:IntsAre vs ns)(h2:2<=vs.length): @AskOk odI prog w A s a vs:=fun h6 _=>⟨fun Q E h=>by
 obtain⟨u,v,r,rfl⟩:∃ u v r,vs=u::v::r:=by
  match vs,h2 with
  | [_],few=>exact absurd few (show ¬ 2<=1 by decide)
  | u::v::r,_=>exact⟨u,v,r,rfl⟩
 rw[keyKind_ints hI]
 exact aV h,ltI⟩
theorem sort_rev_any {a:Addr}{vs:List Value}{ns:List Int}{n:Nat}{b:Bool}{P:Fin->Shared->Prop}(ho:s.heap.get? a=some (seqObj "list" vs.toArray n))(hI:IntsAre vs ns)(hz:vs.length<=sizeLine)
  (h:∀ (out:Array Value) (ns':List Int),IntsAre out.toList ns'->ns'.Perm ns->Ordered b ns'->P (.done (.ret .none)) { s with heap:=sortedHeap s.heap a vs out}):
  wpAny (model prog w) A (Builtin.«list.sort» ⟨[.ref a],[(Str.ofString "reverse", .bool b)]⟩) P E s:=
 @jKE prog w A E s odI a vs n b P ho hz hI.intKeys (fun h2=>askI hI h2) fun xs p1 p2=>by
  obtain⟨ns',q1,q2,q3⟩:=sorted_out_rev hI p1 (stoI p2) b
  exact h _ ns' q1 q2 q3
end
end TM
end
section
namespace L2
open PySem PySem.Spec PyProof.Rows
section
variable {prog:Program}{w:World}{A:Around}{E:Value->Shared->Prop}{s:Shared}{d:Addr}{kvs:List (Key×Value)}
theorem jDM:∀ {vs:List Value}{ks:List Int},vs.length=ks.length->(∀ (j:Nat) (v:Value),vs[j]?=some v->∃ i t,ks[j]?=some i/\v=Value.int i t)->IntsAre vs ks
 | [],[],_,_=> .nil
 | [],_::_,h,_=>by cases h
 | _::_,[],h,_=>by cases h
 | v::vs,a::r,h,hat=>by
  obtain⟨i,t,e1,rfl⟩:=hat 0 v rfl
  cases e1
  exact .cons _ t (jDM (Nat.succ.inj h) fun j v e=>hat (j+1) v e)
theorem jEP {Q:Value->Shared->Prop}{ks:List Int}{b:Bool}(hh:A.handled=none)(lo:(d==sysModules)=false)(D:s.heap.DictOf (kD prog w) d kvs)(hk:kvs.map (·.1)=ks.map Sum.inl)(hz:ks.length<=sizeLine)
  (h:∀ (hf:Heap) (tk:Nat) (l:Addr) (vs:List Value) (ns:List Int) (e:Nat),s.heap.objs.size<=l->(∀ b u,s.heap.get? b=some u->hf.get? b=some u)->
   hf.get? l=some { cls:= .type "list",data:= .seq vs.toArray e} ->IntsAre vs ns->ns.Perm ks->Ordered b ns->Q (.ref l) { s with heap:=hf,toks:=tk}):
  wpAny (model prog w) A (call (.builtin "sorted") [.ref d] [(Str.ofString "reverse", .bool b)]) Q E s:=by
 obtain⟨ep,hat⟩:=D.dictAt
 have hlen:kvs.length=ks.length:=by
  have:=bQ List.length hk
  rwa [aa,aa] at this
 refine call_function_entry_kw kind_sorted plain_sorted entry_sorted (args_sorted_rev _ _) ?_
 unfold Builtin.«sorted»
 refine ah (m:=checkCount "sorted" 1 1 _) (aV ?_)
 refine ah (jG8 (A:=A.in1) (PySem.W.kdl_dict (knd:=kD prog w) (kvs:=kvs) (ep:=ep) lo) hh hat (by omega) fun h1 tk acc hk1 hlt1 hacc=>?_)
 have hal:acc.toList.length=ks.length:=by rw[aU,hacc.1,hlen]
 have hI:IntsAre acc.toList ks:=jDM hal fun j v e=>by
  obtain⟨k,x,hx,hv⟩:=hacc.2 j v (by rw[<- bY]; exact e)
  have e2:(kvs.map (·.1))[j]?=some k:=by rw[aA,hx]; rfl
  rw[hk,aA] at e2
  cases hq:ks[j]? with
  | none=>rw[hq] at e2; cases e2
  | some i=>
   rw[hq] at e2
   cases e2
   rcases jA1 (show keyIs (Sum.inl i) v=true from hv) with ⟨i',t,q1,q2⟩ | ⟨x,t,q1,q2⟩
   ·cases q1
    exact⟨i,t,rfl,q2⟩
   ·cases q1
 refine ah (wpAny_newList ?_ (by omega))
 have hL:(h1.push (seqObj "list" acc.toList.toArray 0)).get? h1.objs.size=some (seqObj "list" acc.toList.toArray 0):=aQ _ rfl
 show wpAny _ _ _ _ _ { s with heap:=h1.push (seqObj "list" acc.toList.toArray 0),toks:=tk}
 refine ah (cJ (wpAny_call_entry_kw slot_list_sort ⟨_,hL,rfl⟩ entry_list_sort (TM.sort_rev_any hL hI (by omega) fun out ns' a1 a2 a3=>⟨_,rfl,?_⟩) (args_list_sort_rev _ _)))
 obtain⟨e,he⟩:=sortedHeap_at (out:=out) hL
 have kept:∀ b u,s.heap.get? b=some u->(sortedHeap (h1.push (seqObj "list" acc.toList.toArray 0)) h1.objs.size acc.toList out).get? b=some u:=fun b u q=>by
  have q1:=hk1 b u q
  have hb:b<h1.objs.size:=aL q1
  rw[sortedHeap_old (bu hb) (by rw[size_push']; exact fJ hb)]
  exact am _ q1
 generalize sortedHeap (h1.push (seqObj "list" acc.toList.toArray 0)) h1.objs.size acc.toList out=hf at he kept ⊢
 exact aV ⟨_,rfl,h hf tk h1.objs.size out.toList ns' e (fe hlt1) kept (by rw[gS]; exact he) a1 a2 a3⟩
end
def jMD (X:Cx)(f:Value)(ks:List Str)(r:List V->List V->Hp->VK->Prop):Prop:=
 ∀ (pins:List (Addr×Obj)) (s:Shared) (σ:St) (H:Hp) (xs zs:List V) (us ws:List Value) (Q:VK),Inv X pins σ H s->Vals xs us->Vals zs ws->r xs zs H Q->
  wpAny (model X.prog X.w) X.A (call f us (ks.zip ws)) (EP X pins σ Q) X.xe s
def tCBK (r:List V->List V->Hp->VK->Prop)(t tk:TA):TE:=fun σ H Q=>t σ H fun vs H1=>tk σ H1 fun zs H2=>r vs zs H2 Q
structure JK (X:Cx)(kws:List Keyword)(t:TA):Prop where
 h:PK X kws t
section
variable {X:Cx}{x:Str}{p pos kpos:Pos}{e:Expr}{es:List Expr}{kws:List Keyword}{t tk:TA}{te:TE}{nm:Option Str}{ks:List Str}{id:String}{r:List V->List V->Hp->VK->Prop}
theorem jPU:JK X [] tNil:=⟨jP4⟩
theorem jO0 (ha:JE X e te)(hr:JK X kws t):JK X (⟨nm,e,kpos⟩::kws) (tCons te t):=⟨jN4 ha.h hr.h⟩
theorem jJC (hc:jMD X (.builtin id) ks r)(hg:Gl1 X x)(hm:X.mg x=none)(hv:bootBuiltins x=some (.builtin id))(ha:JA X (e::es) t)(hkw:JK X kws tk)(he:starEach (e::es) X.env=(false,eval e X.env)::starEach es X.env)
  (hn:x≠ "__name__" :=by decide) (hdb:(x==("__debug__" :Str))=false:=by decide) (hall:(backToKw pos (keywordEach kws X.env)).all (·.1.isSome)=true:=by rfl) (hks:(backToKw pos (keywordEach kws X.env)).filterMap (·.1)=ks:=by rfl)
  (hpl:(backTo pos (starEach es X.env)).any (·.1)=false:=by rfl) (hkn:(backToKw pos (keywordEach kws X.env)).any (·.1.isNone)=false:=by rfl):JE X (.Call (.Name x p) (e::es) kws pos) (tCBK r t tk):=by
 refine⟨fun pins s σ H Q I h=>?_⟩
 refine dy (jDB I hg.a hm hv ?_ hn hdb)
 refine callWith_kw (thn (ha.h pos pins s σ H _ I h) fun us s1 ⟨vs,H1,I1,r1,q1⟩=>thn (hkw.h pos pins s1 σ H1 _ I1 q1) fun ws s2 ⟨zs,H2,I2,rz,q2⟩=>?_) (by rw[he]; rfl) (by rw[he]; exact hpl) hall hkn
 rw[hks]
 exact hc pins s2 σ H2 vs zs us ws Q I2 r1 rz q2
theorem jEE (hc:X.calm=true):jMD X (.builtin "sorted") [Str.ofString "reverse"] (fun xs zs H Q=>∃ (p:Addr) (kvs:List (Key×V)) (ks:List Int) (b:Bool),xs=[.ref p]/\zs=[.bl b]/\H p=some (.dK kvs)/\kvs.map (·.1)=ks.map Sum.inl/\ks.length<=sizeLine/\
  ∀ (l:Addr) (ns:List Int),H l=none->Ordered b ns->ns.Perm ks->Q (.ref l) (upd H l (.lst (ns.map V.int)))):=by
 intro pins s σ H xs zs us ws Q I r rz h
 obtain⟨p,kvs,ks,b,rfl,rfl,hp,hk,hn,q⟩:=h
 obtain⟨u,rfl,rx⟩:=r.one
 obtain⟨v,rfl,ry⟩:=rz.one
 cases rx
 cases ry
 obtain⟨z,lo,vs,rel,dd⟩:=dk_of I.hok hp
 refine jEP (I.ok.hd hc) lo dd (by rw[<- rel.keys]; exact hk) hn fun hf tk l vs ns e hl kp he hi pm srt=>?_
 have hz:(ns.map V.int).length<=sizeLine:=by rw[aa,pm.length_eq]; exact hn
 have I2:Inv X pins σ (upd H l (.lst (ns.map V.int))) { s with heap:=hf,toks:=tk} :=I.laid (t':=tk) kp hl ⟨hz,vs,e,jAR hi,he⟩
 exact⟨.ref l,_,I2,rfl,q l ns (I.hok.fresh hl) srt pm⟩
end
section
variable {X:Cx}
theorem jM5 {o:Expr}{to:TE}{name:Str}{apos cpos:Pos}{T id:String}{r:V->List V->Hp->VK->Prop}(pa:PlainAttrs T)(slot:Slot T name id)(hty:typeOf (.builtin id)=pure (.type "method_descriptor"))(hm:MtR X id r)(ho:JE X o to)
  (hbase:attributeBase o name X.env (eval o X.env)=eval o X.env:=by rfl) (hline:(apos.endLine==cpos.line)=true:=by rfl):JE X (.Call (.Attribute o name apos) [] [] cpos) (tBM0 X.K T r to):=⟨jPA pa slot hty hm ho.h hbase hline⟩
def rBits:V->List V->Hp->VK->Prop:=fun x vs H Q=>∃ i,x= .int i/\vs=[]/\Q (.int (Builtin.Int.intBits i)) H
theorem jNP:MtR X "int.bit_length" rBits:=by
 intro pins s σ H x vs v us Q I rx rv h
 obtain⟨i,rfl,rfl,q⟩:=h
 obtain⟨t,rfl⟩:=rx
 have hus:=rv.zero
 subst hus
 exact call_int_bit_length ⟨.int _,H,I.tok _,⟨_,rfl⟩,q⟩
theorem jJB {i o:Expr}{ty td:TE}{pos:Pos}(hu:X.A.units+1<cLine)(hi:JE X i ty)(ho:JE X o td)(h1:behindInMarks .NotIn o=false):JT X (.Compare i [.NotIn] [o] pos) (tB (jI8 ty td)):=⟨jP1 (jIO hu hi.h ho.h) h1⟩
def jON (i:Int)(b:Bool):TE:=fun _ H Q=>∀ p H',H' p=some (.dK [(.inl i, .bl b)])->Ext H H'->H p=none->Q (.ref p) H'
theorem jL2 {i:Int}{b:Bool}{k1 k2:Nat}{p1 p2 pos:Pos} :JE X (.Dict [some (.Constant (.int i) k1 p1)] [.Constant (.bool b) k2 p2] pos) (jON i b):=
 ⟨fun pins s σ H Q I h=>jN8 (jKI je_int.h je_bl.h jN1) rfl rfl (by intro z; cases z) (by show 1<=15; decide) pins s σ H Q I fun p hp=>⟨j8,[(.inl i, .bl b)],rfl,by show 1<=15; decide,h p _ j8 (((Ext.refl H).new hp _).updNew hp _) hp⟩⟩
theorem jL9 {K:W.Frag}{tp:Bool}{l:Addr}{xs:List V}{g:TG}{tb:TS}{D:Ends}{σ:St}{H:Hp}(Pv:Nat->St->Hp->Prop)(h0:Pv 0 σ H)(hl:∀ i σ H,Pv i σ H->Sq tp K H l xs)
  (hs:∀ i x T σ H,xs[i]?=some x->H T=none->Pv i σ H->g (.ref T) σ (upd H T (.tup [.int (i:Int),x])) fun σ2 H2=>tb { D with nx:=Pv (i+1),ct:=Pv (i+1),bk:=D.nx} σ2 H2) (hd:∀ σ H,Pv xs.length σ H->D.nx σ H):
  ∃ W:Nat->Nat->St->Hp->Prop,(∃ m,W 0 m σ H)/\∀ i m σ H,W i m σ H->
   ((Ite tp K l).stop i H/\D.nx σ H)\/((Ite tp K l).go i H/\∃ N:St->Hp->Prop,(∀ σ' H',N σ' H'->∃ m',m'<m/\W (i+1) m' σ' H')/\∀ x H',(Ite tp K l).yld i H x H'->g x σ H' fun σ2 H2=>tb { D with nx:=N,ct:=N,bk:=D.nx} σ2 H2):=by
 refine⟨fun i m σ H=>m=xs.length - i/\i<=xs.length/\Pv i σ H,⟨_,rfl,bH _,h0⟩,?_⟩
 rintro i m σ H ⟨rfl,hi,p⟩
 have s1:=hl i σ H p
 by_cases hlt:i<xs.length
 ·refine .inr ⟨⟨xs,xs[i],s1,by simp [hlt]⟩,Pv (i+1),fun σ' H' p'=>⟨xs.length - (i+1),by omega,rfl,hlt,p'⟩,fun v H'' y=>?_⟩
  obtain⟨T,x,e1,e2,e3,e4⟩:=y
  subst e2 e3
  exact hs i x T σ _ (e4 xs s1) e1 p
 ·have e:i=xs.length:=by omega
  subst e
  exact .inl ⟨⟨xs,s1,az _⟩,hd σ H p⟩
end
def All2 {α β:Type}(R:α->β->Prop):List α->List β->Prop
 | [],[]=>True
 | a::as,b::bs=>R a b/\All2 R as bs
 | _,_=>False
section
variable {α β:Type}{R S:α->β->Prop}
theorem All2.len:∀ {as:List α}{bs:List β},All2 R as bs->as.length=bs.length
 | [],[],_=>rfl
 | _::_,_::_,h=>bQ (· +1) (All2.len h.2)
theorem All2.imp (f:∀ a b,R a b->S a b):∀ {as:List α}{bs:List β},All2 R as bs->All2 S as bs
 | [],[],_=>trivial
 | _::_,_::_,h=>⟨f _ _ h.1,All2.imp f h.2⟩
theorem All2.snoc {a:α}{b:β} :∀ {as:List α}{bs:List β},All2 R as bs->R a b->All2 R (as++[a]) (bs++[b])
 | [],[],_,h=>⟨h,trivial⟩
 | _::_,_::_,h,k=>⟨h.1,All2.snoc h.2 k⟩
theorem All2.get:∀ {as:List α}{bs:List β}{i:Nat}{b:β},All2 R as bs->bs[i]?=some b->∃ a,as[i]?=some a/\R a b
 | [],[],i,b,_,h=>by simp at h
 | a::_,_::_,0,b,h,e=>by
  simp at e
  subst e
  exact⟨a,rfl,h.1⟩
 | _::_,_::_,i+1,b,h,e=>by
  obtain⟨a,h1,h2⟩:=All2.get h.2 (i:=i) (b:=b) (by simpa using e)
  exact⟨a,by simpa using h1,h2⟩
theorem All2.get':∀ {as:List α}{bs:List β}{i:Nat}{a:α},All2 R as bs->as[i]?=some a->∃ b,bs[i]?=some b/\R a b
 | [],[],i,b,_,h=>by simp at h
 | a::_,b::_,0,x,h,e=>by
  simp at e
  subst e
  exact⟨b,rfl,h.1⟩
 | _::_,_::_,i+1,x,h,e=>by
  obtain⟨b,h1,h2⟩:=All2.get' h.2 (i:=i) (a:=x) (by simpa using e)
  exact⟨b,by simpa using h1,h2⟩
theorem All2.of_get {as:List α}{bs:List β}(hl:as.length=bs.length)(h:∀ (i:Nat) a b,as[i]?=some a->bs[i]?=some b->R a b):All2 R as bs:=by
 induction as generalizing bs with
 | nil=>cases bs with
  | nil=>trivial
  | cons b bs=>cases hl
 | cons a as ih=>cases bs with
  | nil=>cases hl
  | cons b bs=>exact⟨h 0 a b rfl rfl,ih (by simpa using hl) fun i a b h1 h2=>h (i+1) a b (by simpa using h1) (by simpa using h2)⟩
end
def lowN (m:Nat):Nat:=if m % 2=1 then lowN (m / 2)+1 else 0
theorem jD9 {m:Nat}(h:m % 2=0):lowN m=0:=by
 unfold lowN
 rw[af (by omega)]
theorem jE5 {m:Nat}(h:m % 2=1):lowN m=lowN (m / 2)+1:=by
 rw[lowN,ag h]
theorem jOG (a b:Nat):a&&&b=2*((a / 2)&&&(b / 2))+(a % 2)*(b % 2):=by
 have h1:(a&&&b) / 2=(a / 2)&&&(b / 2):=Nat.and_div_two
 have h2:(a&&&b) % 2=(a % 2)*(b % 2):=by
  have t:=cH a b 0
  rw[dR,dR,dR] at t
  have t':((a&&&b) % 2=1)↔(a % 2=1/\b % 2=1):=by
   rw[<- eX.trans (and_congr bf bf),<- t,bf]
  rcases cc a with ha | ha <;> rcases cc b with hb | hb <;> rw[ha,hb] at t' ⊢ <;> omega
 omega
theorem jNS (m:Nat):(m+1) - ((m+1)&&&m)=2 ^ lowN m:=by
 induction m using strongRecOn with
 | _ m ih=>
  rw[jOG]
  rcases cc m with h | h
  ·rw[jD9 h,show (m+1) / 2=m / 2 by omega,Nat.and_self,h]
   omega
  ·have:=ih (m / 2) (by omega)
   rw[jE5 h,Nat.pow_succ,show (m+1) / 2=m / 2+1 by omega,show (m+1) % 2=0 by omega]
   omega
theorem jKY (m:Nat):Builtin.Int.intBits (Builtin.bitAnd (Builtin.bitNot (m:Int)) ((m:Int)+1))=lowN m+1:=by
 have e:Builtin.bitAnd (Builtin.bitNot (m:Int)) ((m:Int)+1)=((2 ^ lowN m:Nat):Int):=by
  unfold Builtin.bitAnd
  have h1:¬ (0<=Builtin.bitNot (m:Int)):=by unfold Builtin.bitNot; omega
  have h2:(0:Int)<=(m:Int)+1:=by omega
  have h3:(Builtin.bitNot (Builtin.bitNot (m:Int))).toNat=m:=by unfold Builtin.bitNot; omega
  rw[aM h1,aG h2]
  show ((m:Int)+1) - ((((m:Int)+1).toNat&&&(Builtin.bitNot (Builtin.bitNot (m:Int))).toNat:Nat):Int)=_
  rw[h3,show ((m:Int)+1).toNat=m+1 by omega,<- jNS m]
  have:(m+1)&&&m<=m+1:=Nat.and_le_left
  omega
 rw[e]
 unfold Builtin.Int.intBits
 have hp:0<2 ^ lowN m:=cQ _
 have h0:((((2 ^ lowN m:Nat):Int))==0)=false:=by
  rw[cD]
  omega
 rw[h0]
 simp [Nat.log2_two_pow]
theorem jAM (m:Nat):m.testBit (lowN m)=false:=by
 induction m using strongRecOn with
 | _ m ih=>
  rcases cc m with h | h
  ·rw[jD9 h,dR,h]
   rfl
  ·rw[jE5 h,Nat.testBit_succ]
   exact ih _ (by omega)
theorem jC2 (m:Nat):∀ j,j<lowN m->m.testBit j=true:=by
 induction m using strongRecOn with
 | _ m ih=>
  intro j hj
  rcases cc m with h | h
  ·rw[jD9 h] at hj
   omega
  ·rw[jE5 h] at hj
   cases j with
   | zero=>rw[dR,h]; rfl
   | succ j=>
    rw[Nat.testBit_succ]
    exact ih _ (by omega) j (by omega)
theorem jJ3 {m t:Nat}(h1:m.testBit t=false)(h2:∀ j,j<t->m.testBit j=true):lowN m=t:=by
 rcases Nat.lt_trichotomy (lowN m) t with h | h | h
 ·have:=h2 _ h
  rw[jAM] at this
  cases this
 ·exact h
 ·have:=jC2 m t h
  rw[h1] at this
  cases this
theorem jJN {m w:Nat}(h:m<2 ^ w)(a:∀ j,j<w->m.testBit j=true):m=2 ^ w - 1:=by
 apply cy
 intro i
 rw[bA]
 by_cases hi:i<w
 ·rw[a i hi,aG hi]
 ·rw[aM hi]
  exact gF (be h (bS (by decide) (by omega)))
theorem jBR {m w:Nat}(h:m<2 ^ w)(hn:m≠2 ^ w - 1):lowN m<w:=by
 refine bF fun z=>hn (jJN h fun j hj=>jC2 m j (by omega))
abbrev Ch:=List (List (Int×Nat))
def fullN (ch:Ch):Nat:=2 ^ ch.length - 1
def chAt (ch:Ch)(m:Nat):List (Int×Nat):=(ch.getD (lowN m) []).filter fun c=>c.2&&&m==0
structure ChOk (ch:Ch):Prop where
 w:ch.length<=16
 len:∀ (t:Nat) (cs:List (Int×Nat)),ch[t]?=some cs->cs.length<=33
 it:∀ (t:Nat) (cs:List (Int×Nat)),ch[t]?=some cs->∀ c∈cs,c.2.testBit t=true/\c.2<2 ^ ch.length/\ -1<=c.1/\c.1<32
theorem ChOk.mem {ch:Ch}{m:Nat}{c:Int×Nat}(o:ChOk ch)(h:m<2 ^ ch.length)(hn:m≠fullN ch)(hc:c∈chAt ch m):c.2.testBit (lowN m)=true/\c.2<2 ^ ch.length/\c.2&&&m=0/\ -1<=c.1/\c.1<32:=by
 obtain⟨h1,h2⟩:=ce.mp hc
 have hl:=jBR h hn
 rw[aB,aj hl] at h1
 obtain⟨a,b,c1,c2⟩:=o.it _ _ (aj hl) c h1
 exact⟨a,b,by simpa using h2,c1,c2⟩
theorem ChOk.up {ch:Ch}{m:Nat}{c:Int×Nat}(o:ChOk ch)(h:m<2 ^ ch.length)(hn:m≠fullN ch)(hc:c∈chAt ch m):m<m|||c.2/\m|||c.2<2 ^ ch.length:=by
 obtain⟨a,b,z,_⟩:=o.mem h hn hc
 refine⟨?_,fK h b⟩
 refine Nat.lt_of_le_of_ne Nat.left_le_or fun e=>?_
 have t:m.testBit (lowN m)=(m|||c.2).testBit (lowN m):=bQ (fun z=>z.testBit (lowN m)) e
 rw[bC,a,fi,jAM] at t
 cases t
def gvN {α:Type}(ch:Ch)(e:α)(J:List (Int×α)->α):Nat->Nat->α
 | 0,_=>e
 | n+1,m=>if m=fullN ch then e else J ((chAt ch m).map fun c=>(c.1,gvN ch e J n (m|||c.2)))
def gv {α:Type}(ch:Ch)(e:α)(J:List (Int×α)->α)(m:Nat):α:=gvN ch e J (fullN ch - m) m
theorem jO7 {α:Type}{ch:Ch}{e:α}{J:List (Int×α)->α}(o:ChOk ch):∀ (k n m:Nat),fullN ch - m<=k->fullN ch - m<=n->m<2 ^ ch.length->gvN ch e J n m=gvN ch e J k m:=by
 intro k
 induction k with
 | zero=>
  intro n m h1 h2 h3
  have:m=fullN ch:=by
   unfold fullN at h1 ⊢
   omega
  subst this
  cases n with
  | zero=>rfl
  | succ n=>show gvN ch e J (n+1) (fullN ch)=e; rw[gvN,ag rfl]
 | succ k ih=>
  intro n m h1 h2 h3
  by_cases hm:m=fullN ch
  ·subst hm
   cases n with
   | zero=>show e=gvN ch e J (k+1) (fullN ch); rw[gvN,ag rfl]
   | succ n=>
    have q:∀ i,gvN ch e J (i+1) (fullN ch)=e:=fun i=>by rw[gvN,ag rfl]
    rw[q,q]
  ·have hlt:m<fullN ch:=by
    unfold fullN at hm ⊢
    omega
   cases n with
   | zero=>omega
   | succ n=>
    rw[gvN,af hm,gvN,af hm]
    congr 1
    refine bx fun c hc=>?_
    obtain⟨u1,u2⟩:=o.up h3 hm hc
    rw[ih n (m|||c.2) (by omega) (by omega) u2]
theorem jO6 {α:Type}{ch:Ch}{e:α}{J:List (Int×α)->α} :gv ch e J (fullN ch)=e:=by
 unfold gv
 rw[gE,gvN]
theorem jO5 {α:Type}{ch:Ch}{e:α}{J:List (Int×α)->α}{m:Nat}(o:ChOk ch)(h:m<2 ^ ch.length)(hn:m≠fullN ch):gv ch e J m=J ((chAt ch m).map fun c=>(c.1,gv ch e J (m|||c.2))):=by
 have hlt:m<fullN ch:=by
  unfold fullN at hn ⊢
  omega
 have:gv ch e J m=gvN ch e J ((fullN ch - m - 1)+1) m:=by
  unfold gv
  rw[show fullN ch - m - 1+1=fullN ch - m by omega]
 rw[this,gvN,af hn]
 congr 1
 refine bx fun c hc=>?_
 obtain⟨u1,u2⟩:=o.up h hn hc
 unfold gv
 rw[jO7 o (fullN ch - (m|||c.2)) _ _ (az _) (by omega) u2]
end L2
end
section
namespace L2
open PySem
section
variable {X:Cx}{tg iter elt:Expr}{ifs:List Expr}{sc:Scope}{pos:Pos}{wi:TI}{g:TG}{tt:TT}{te:TE}{m:List (Option Nat)}{Nc:List Str}
end
section
variable {X:Cx}
end
end L2
end
section
namespace L2
open PySem PySem.Spec PyProof.Rows
section
variable {X:Cx}
def jMR:V->List V->Hp->VK->Prop:=fun x vs H Q=>∃ (p:Addr) (ns:List Int) (i:Int) (k:Nat),x= .ref p/\vs=[.int i]/\H p=some (.lst (ns.map V.int))/\ns.length<=1000/\ns[k]?=some i/\(∀ m,m<k->ns[m]?≠some i)/\Q (.int (k:Int)) H
theorem jEX:MtM X "list.index" jMR:=by
 intro pins s σ H x vs v us Q I rx rv h
 obtain⟨p,ns,i,k,rfl,rfl,hp,hs,hk,hno,q⟩:=h
 cases rx
 obtain⟨u,rfl,ru⟩:=rv.one
 obtain⟨z,its,n,r,_,e0⟩:=I.lstM hp
 have hl:=r.length
 rw[aa] at hl
 have hkl:k<its.length:=by rw[<- hl]; exact(ae.mp hk).1
 have at_:∀ m (hm:m<its.length),∃ (z:Int) (t:Tok),ns[m]?=some z/\its[m]= .int z t:=fun m hm=>by
  have hz:(ns.map V.int)[m]?=some (.int ns[m]):=by simp [show m<ns.length by omega]
  obtain⟨w,hw,t,rw'⟩:=r.get hz
  refine⟨ns[m],t,by simp [show m<ns.length by omega],?_⟩
  rw[aj hm] at hw
  rw[aW hw]
  exact rw'
 refine dJ F.slot_list_index ⟨_,e0,rfl⟩ F.entry_list_index (F.args_list_index_2 _ _) (SeqAt.list_indexAt p its.toArray n none #[] u (eqU (.int i)) k (by simpa using hkl) (by omega) ?_ fun m hm hmk=>?_) ⟨e0,fun w hw=>jBQ ru rfl r ?_ w (by simpa using hw),?_⟩
 ·obtain⟨z,t,h1,h2⟩:=at_ k hkl
  rw[hk] at h1
  cases h1
  show eqU (.int i) its[k]=true
  rw[h2]
  show (i==i)=true
  simp
 ·have hm':m<its.length:=by simpa using hm
  obtain⟨z,t,h1,h2⟩:=at_ m hm'
  show eqU (.int i) its[m]=false
  rw[h2]
  show (z==i)=false
  rw[cD]
  exact fun e=>hno m hmk (by rw[h1,e])
 ·rw[bE]
  intro x hx
  obtain⟨z,_,rfl⟩:=aN.mp hx
  rfl
 ·exact⟨.int _,H,I.tok _,⟨s.toks,rfl⟩,q⟩
end
end L2
end
section
end
section
namespace Eo
open PySem L2
def Keep (H H':Hp)(p:Addr):Prop:=∀ b o,H b=some o->b≠p->H' b=some o
structure Txt (mg:Str->Option Value):Prop where
 len:mg "len" =none
 range:mg "range" =none
 tuple:mg "tuple" =none
 sorted:mg "sorted" =none
 set:mg "set" =none
 list:mg "list" =none
 int:mg "int" =none
 isinstance:mg "isinstance" =none
 bool:mg "bool" =none
 str:mg "str" =none
 all:mg "all" =none
 zip:mg "zip" =none
 max:mg "max" =none
 min:mg "min" =none
 any:mg "any" =none
 abs:mg "abs" =none
 sum:mg "sum" =none
 enumerate:mg "enumerate" =none
 dict:mg "dict" =none
structure Can (P:Program)(w:World)(K:W.Frag)(mg:Str->Option Value)(base:Heap)(x:Str)(k:Nat)(f:Addr)(fd:FuncData)(ps:List Str)(sp:Sp):Prop where
 G:FnOk P w K mg base CX0 k f fd ps sp
 m:mg x=some (.ref f)
 kp:keepIn K (.ref f)=true
 b:Binds K fd ps []
theorem Can.pe {X:Cx}{x:Str}{k:Nat}{f:Addr}{fd:FuncData}{ps:List Str}{sp:Sp}{e:Expr}{es:List Expr}{t:TA}{p pos:Pos}(C:Can X.prog X.w X.K X.mg X.base x k f fd ps sp)(hr:Room k X.A)(hg:Gl X x)(ha:PA X (e::es) t)(hdb:(x==("__debug__" :Str))=false:=by decide)
  (he:starEach (e::es) X.env=(false,eval e X.env)::starEach es X.env:=by rfl) (hpl:(backTo pos (starEach es X.env)).any (·.1)=false:=by rfl):PE X (.Call (.Name x p) (e::es) [] pos) (tCall sp [] E0 t):=
 jNC C.G hr hg C.m C.kp C.b .nil pass0 ha hdb he hpl
theorem Can.je {X:Cx}{x:Str}{k:Nat}{f:Addr}{fd:FuncData}{ps:List Str}{sp:Sp}{e:Expr}{es:List Expr}{t:TA}{p pos:Pos}(C:Can X.prog X.w X.K X.mg X.base x k f fd ps sp)(hr:Room k X.A)(hg:Gl1 X x)(ha:JA X (e::es) t)(he:starEach (e::es) X.env=(false,eval e X.env)::starEach es X.env)
  (hdb:(x==("__debug__" :Str))=false:=by decide) (hpl:(backTo pos (starEach es X.env)).any (·.1)=false:=by rfl):JE X (.Call (.Name x p) (e::es) [] pos) (tCall sp [] E0 t):=
 ⟨C.pe hr hg.a ha.h hdb he hpl⟩
section
variable {P:Program}{w:World}{K:W.Frag}{mg:Str->Option Value}{base:Heap}
def jIC (K:W.Frag):Sp:=fun vs H Q _=>∃ (a:Addr) (ns:List Int) (k:Int),vs=[.ref a, .int k]/\SqL K H a (ns.map V.int)/\0<=k/\∀ c:Int,Q (.int c) H
theorem jOU:FnScope ["script","k"] ["script","k"] (j7 sCell):=⟨rfl,rfl,rfl,by decide+kernel,rfl,by decide+kernel,by decide+kernel⟩
theorem jNM {f:Addr}{fd:FuncData}(F:Fun K "_law_cell_at" "_law_cell_at" sCell f fd)(T:Txt mg):FnOk P w K mg base CX0 1 f fd ["script","k"] (jIC K):=by
 refine F.ok jOU (fun vs H Q E h=>?_) (fun cdv A outer s H vs Q E hr h=>?_)
 ·obtain⟨a,ns,k,rfl,_⟩:=h
  rfl
 ·obtain⟨a,ns,k,rfl,hS,h0,q⟩:=h
  refine⟨_,jAA (ps_if (jFS op_lt (pv 1) (jGO jA0 (by rfl) T.len PySem.boot_len (jD5 (pv 0) jEV)) (jQ _)) (jBG (jDK (pe_ix jAH (pv 0) (pv 1) (fun _ _=>rfl)))) jFT) (jBG (jDK kJ)),?_⟩
  refine⟨_,rfl,_,rfl,a,_,rfl, .inl hS,_,_,rfl,rfl,_,rfl,?_⟩
  refine ite2 (fun hlt=>?_) (fun _=>?_)
  ·have hlt:k<((ns.map V.int).length:Int):=aO hlt
   have hk:k.toNat<ns.length:=by rw[aa] at hlt; omega
   refine⟨_,rfl,_,rfl,a,_,k, .int (ns[k.toNat]),rfl,rfl,hS,?_,q _⟩
   have e:(k.toNat:Int)=k:=by omega
   have q2:=kU (xs:=ns.map V.int) (j:=k.toNat) (v:=V.int ns[k.toNat]) (by simp [hk])
   rw[e] at q2
   exact q2
  ·exact q 0
def jD1:Sp:=fun vs H Q _=>∃ (p:Addr) (N w:Int),vs=[.ref p, .int w]/\H p=some (.lst [.int N])/\0<=N/\0<w/\w<2 ^ 64/\∀ N' r:Int,0<=N'->0<=r->r<w->Q (.int r) (upd H p (.lst [.int N']))
theorem scTake:FnScope ["pot","wide","found"] ["pot","wide"] (j7 sTake):=⟨rfl,rfl,rfl,by decide+kernel,rfl,by decide+kernel,by decide+kernel⟩
theorem jNF {f:Addr}{fd:FuncData}(F:Fun K "_law_take" "_law_take" sTake f fd):FnOk P w K mg base CX0 1 f fd ["pot","wide"] jD1:=by
 refine F.ok scTake (fun vs H Q E h=>?_) (fun cdv A outer s H vs Q E hr h=>?_)
 ·obtain⟨a,ns,k,rfl,_⟩:=h
  rfl
 ·obtain⟨p,N,w,rfl,hp,h0,h1,h2,q⟩:=h
  refine⟨_,jAA (jD3 (i:=2) scTake.nd rfl (Or.inl rfl) (yA jGQ (pe_ix jAH (pv 0) kJ (fun _ _=>rfl)) (pv 1)))
   (jAA (jLV (yA jGR (pe_ix jAH (pv 0) kJ (fun _ _=>rfl)) (pv 1)) (jLW (pv 0) kJ jGJ))
   (jBG (jDK (pv 2)))),?_⟩
  refine⟨_,rfl,p,_,0, .int N,rfl,rfl,SqL.of hp,rfl,_,rfl,_,_,rfl,rfl,h1,?_⟩
  refine⟨_,rfl,p,_,0, .int N,rfl,rfl,SqL.of hp,rfl,_,rfl,_,_,rfl,rfl,⟨h1,h2⟩,?_⟩
  refine⟨_,rfl,p,_,0,0,rfl,rfl,hp,rfl,_,rfl,?_⟩
  exact q _ _ (Int.ediv_nonneg h0 (by omega)) (Int.emod_nonneg _ (by omega)) (Int.emod_lt_of_pos _ h1)
def spPot:Sp:=fun vs H Q _=>∃ c:Int,vs=[.int c]/\∀ (p:Addr) (N:Int),H p=none->0<=N->Q (.ref p) (upd H p (.lst [.int N]))
theorem scPot:FnScope ["cell","number","j","more"] ["cell"] (j7 sPot):=⟨rfl,rfl,rfl,by decide+kernel,rfl,by decide+kernel,by decide+kernel⟩
theorem jPE {f:Addr}{fd:FuncData}(F:Fun K "_law_pot" "_law_pot" sPot f fd)(T:Txt mg):FnOk P w K mg base CX0 1 f fd ["cell"] spPot:=by
 refine F.ok scPot (fun vs H Q E h=>?_) (fun cdv A outer s H vs Q E hr h=>?_)
 ·obtain⟨c,rfl,_⟩:=h
  rfl
 ·obtain⟨c,rfl,q⟩:=h
  have one: [V.int 0].length<=sizeLine:=by show 1<=sizeLine; decide
  refine⟨_,jAA (ps_if (jFS op_ge (pv 0) (yA jLY kJ kJ) (jQ _)) (jBG (jDK (jLX (jD5 (yA jD6 (pv 0) (yA jLY kJ kJ)) jEV)))) jFT)
   (jAA (jD3 (i:=1) scPot.nd rfl (Or.inl rfl) kJ)
   (jAA (jLU bB rfl (jEU rfl T.range (jD5 kJ jEV)) (jIK (i:=2) scPot.nd rfl (Or.inl rfl))
    (jAA (jD3 (i:=3) scPot.nd rfl (Or.inl rfl) (yA jGQ (yA jCE (yA kY (yA kY (yA jGQ (pv 0) kJ) (yA jCE kJ (pv 2))) kJ) kJ) kJ))
    (jAA (jD3 (i:=3) scPot.nd rfl (Or.inl rfl) (yA jGQ (yA kY (yA kY (yA jCE (pv 3) (pv 3)) (yA jCE kJ (pv 2))) kJ) kJ))
    (jBG (jD3 (i:=1) scPot.nd rfl (Or.inl rfl) (yA kY (yA jCE (pv 1) kJ) (pv 3)))))))
   (jBG (jDK (jLX (jD5 (pv 1) jEV)))))),?_⟩
  refine⟨_,rfl,_,_,rfl,rfl,⟨by decide,by decide,by decide⟩,_,_,rfl,rfl,_,rfl,?_⟩
  refine ite2 (fun hge=>?_) (fun _=>?_)
  ·refine⟨_,rfl,_,_,rfl,rfl,⟨by decide,by decide,by decide⟩,_,_,rfl,rfl,one,fun p hp=>q p _ hp ?_⟩
   exact Int.sub_nonneg_of_le (aO hge)
  ·refine⟨64,rfl,by decide,by decide,jAJ (n:=64) (fun i σ H2=>∃ (num:Int) (v1 v2:Option V),σ=[some (.int c),some (.int num),v1,v2]/\0<=num/\H2=H) ⟨0,none,none,rfl,cN _,rfl⟩ ?_ ?_⟩
   ·rintro i σ H2 hi ⟨num,v1,v2,rfl,hn,rfl⟩
    refine⟨_,rfl,_,_,rfl,rfl,(by show (0:Int)<2147483629; decide),_,rfl,_,_,rfl,rfl, .inl ⟨by decide,by decide⟩,_,_,rfl,rfl,_,_,rfl,rfl,_,_,rfl,rfl, .inr ⟨by decide,by decide⟩,_,_,rfl,rfl,(by show (0:Int)<2147483647; decide),?_⟩
    refine⟨_,rfl,_,rfl,_,_,rfl,rfl, .inl ⟨?_,?_⟩,_,rfl,_,_,rfl,rfl, .inl ⟨by decide,by decide⟩,_,_,rfl,rfl,_,_,rfl,rfl,_,_,rfl,rfl,(by show (0:Int)<2147483587; decide),?_⟩
    ·omega
    ·omega
    ·refine⟨_,rfl,_,_,rfl,rfl, .inr ⟨by decide,by decide⟩,_,rfl,_,_,rfl,rfl,?_⟩
     refine⟨_,_,_,rfl,?_,rfl⟩
     omega
   ·rintro σ H2 ⟨num,v1,v2,rfl,hn,rfl⟩
    exact⟨_,rfl,one,fun p hp=>q p num hp hn⟩
end
theorem jMI {H:Hp}{a:Addr}{o o':HO} :upd (upd H a o) a o'=upd H a o':=by
 funext b
 unfold upd
 by_cases h:b=a
 ·rw[ag h,ag h]
 ·rw[af h,af h,af h]
structure Lot (w:Int)(ts:List Int):Prop where
 ris:ts.Pairwise (· < ·)
 bnd:∀ z∈ts,0<=z/\z<w
 ne:ts≠ []
structure Ris (w:Int)(ts:List Int):Prop where
 ris:ts.Pairwise (· < ·)
 bnd:∀ z∈ts,0<=z/\z<w
def upto (n:Nat):List Int:=(List.range n).map fun (i:Nat)=>(i:Int)
theorem jAW (n:Nat):Ris n (upto n):=by
 refine⟨?_,fun z hz=>?_⟩
 ·unfold upto
  rw[cC]
  exact List.pairwise_lt_range.imp fun h=>by omega
 ·unfold upto at hz
  obtain⟨t,ht,rfl⟩:=aN.mp hz
  have:=bN.mp ht
  omega
def Tups (H H':Hp):Prop:=∀ b xs,H b=some (.tup xs)->H' b=some (.tup xs)
theorem Tups.trans {H H1 H2:Hp}(a:Tups H H1)(b:Tups H1 H2):Tups H H2:=fun c o h=>b c o (a c o h)
theorem Tups.upd {H:Hp}{p:Addr}{xs:List V}(hp:H p=some (.lst xs))(o:HO):Tups H (upd H p o):=fun b ys hb=>by
 rw[jA (fun e=>by subst e; rw[hb] at hp; cases hp)]
 exact hb
def PcAt (H:Hp)(v:V)(pc:List Int×Int):Prop:=∃ a q,v= .ref a/\H a=some (.tup [.ref q, .int pc.2])/\H q=some (.tup (pc.1.map V.int))
def PcsAt (H:Hp):List V->List (List Int×Int)->Prop
 | [],[]=>True
 | v::vs,p::ps=>PcAt H v p/\PcsAt H vs ps
 | _,_=>False
theorem PcAt.mono {H H':Hp}{v:V}{pc:List Int×Int}(h:PcAt H v pc)(t:Tups H H'):PcAt H' v pc:=by
 obtain⟨a,q,rfl,h1,h2⟩:=h
 exact⟨a,q,rfl,t _ _ h1,t _ _ h2⟩
theorem PcsAt.mono {H H':Hp}(t:Tups H H'):∀ {vs:List V}{ps:List (List Int×Int)},PcsAt H vs ps->PcsAt H' vs ps
 | [],[],_=>trivial
 | _::_,_::_,h=>⟨h.1.mono t,PcsAt.mono t h.2⟩
 | [],_::_,h=>h.elim
 | _::_,[],h=>h.elim
theorem PcsAt.len {H:Hp} :∀ {vs:List V}{ps:List (List Int×Int)},PcsAt H vs ps->vs.length=ps.length
 | [],[],_=>rfl
 | _::_,_::_,h=>bQ (· +1) (PcsAt.len h.2)
 | [],_::_,h=>h.elim
 | _::_,[],h=>h.elim
theorem PcsAt.put {H:Hp}{v:V}{p:List Int×Int}(hv:PcAt H v p):∀ (k:Nat) {vs:List V}{ps:List (List Int×Int)},PcsAt H vs ps->PcsAt H (vs.take k++v::vs.drop k) (ps.take k++p::ps.drop k)
 | 0,_,_,h=>⟨hv,h⟩
 | _+1,[],[],_=>⟨hv,trivial⟩
 | k+1,_::_,_::_,h=>⟨h.1,PcsAt.put hv k h.2⟩
 | _+1,[],_::_,h=>h.elim
 | _+1,_::_,[],h=>h.elim
structure GoodPc (w:Int)(pc:List Int×Int):Prop where
 lot:Lot w pc.1
 lo: -1000000000000<=pc.2
 hi:pc.2<=1000000000000
structure BoxAt (H:Hp)(b:Addr)(w:Int)(mays:List Int)(pcs:List (List Int×Int)):Prop where
 ex:∃ qm qp vs,H b=some (.tup [.int w, .ref qm, .ref qp])/\H qm=some (.tup (mays.map V.int))/\H qp=some (.tup vs)/\PcsAt H vs pcs
theorem BoxAt.mono {H H':Hp}{b:Addr}{w:Int}{mays:List Int}{pcs:List (List Int×Int)}(h:BoxAt H b w mays pcs)(t:Tups H H'):BoxAt H' b w mays pcs:=by
 obtain⟨qm,qp,vs,h1,h2,h3,h4⟩:=h.ex
 exact⟨qm,qp,vs,t _ _ h1,t _ _ h2,t _ _ h3,h4.mono t⟩
structure Good (mt mp:Int)(w:Int)(mays:List Int)(pcs:List (List Int×Int)):Prop where
 w0:0<=w
 w1:w<=mt
 mr:Ris w mays
 pl:(pcs.length:Int)<=mp
 pg:∀ pc∈pcs,GoodPc w pc
def jCG:Stmt->List Stmt
 | .For _ _ b _ _=>b
 | _=> []
inductive Ob where
 | int (i:Int)
 | oth
 | tup (os:List Ob)
def OthAt (H:Hp)(v:V):Prop:=v= .non\/(∃ b,v= .bl b)\/(∃ x,v= .str x)\/∃ a,v= .ref a/\((∃ xs,H a=some (.lst xs))\/∃ kvs,H a=some (.dK kvs))
mutual
def At (H:Hp):Ob->V->Prop
 | .int i,v=>v= .int i
 | .oth,v=>OthAt H v
 | .tup os,v=>∃ a vs,v= .ref a/\H a=some (.tup vs)/\vs.length<=100/\Ats H os vs
def Ats (H:Hp):List Ob->List V->Prop
 | [],vs=>vs=[]
 | o::os,vs=>∃ v r,vs=v::r/\At H o v/\Ats H os r
end
structure Kp (H H':Hp):Prop where
 t:Tups H H'
 l:∀ a xs,H a=some (.lst xs)->∃ ys,H' a=some (.lst ys)
 d:∀ a xs,H a=some (.dK xs)->∃ ys,H' a=some (.dK ys)
theorem Kp.of {H H':Hp}(e:Ext H H'):Kp H H':=⟨fun b xs h=>e b _ h,fun a xs h=>⟨xs,e a _ h⟩,fun a xs h=>⟨xs,e a _ h⟩⟩
theorem OthAt.mono {H H':Hp}(k:Kp H H'){v:V}(h:OthAt H v):OthAt H' v:=by
 rcases h with h | h | h | ⟨a,rfl,⟨xs,h⟩ | ⟨xs,h⟩⟩
 ·exact .inl h
 ·exact .inr (.inl h)
 ·exact .inr (.inr (.inl h))
 ·exact .inr (.inr (.inr ⟨a,rfl, .inl (k.l _ _ h)⟩))
 ·exact .inr (.inr (.inr ⟨a,rfl, .inr (k.d _ _ h)⟩))
mutual
theorem At.mono {H H':Hp}(k:Kp H H'):∀ (o:Ob) (v:V),At H o v->At H' o v
 | .int _,_,h=>h
 | .oth,_,h=>OthAt.mono k h
 | .tup os,_,⟨a,vs,e,h,n,r⟩=>⟨a,vs,e,k.t _ _ h,n,Ats.mono k os vs r⟩
theorem Ats.mono {H H':Hp}(k:Kp H H'):∀ (os:List Ob) (vs:List V),Ats H os vs->Ats H' os vs
 | [],_,h=>h
 | o::os,_,⟨v,r,e,h,t⟩=>⟨v,r,e,At.mono k o v h,Ats.mono k os r t⟩
end
theorem At.ext {H H':Hp}(e:Ext H H'){o:Ob}{v:V}(h:At H o v):At H' o v:=At.mono (.of e) o v h
theorem Ats.len {H:Hp} :∀ {os:List Ob}{vs:List V},Ats H os vs->vs.length=os.length
 | [],_,h=>by cases (show _=[] from h); rfl
 | o::os,_,⟨v,r,e,h,t⟩=>by rw[e,bq,bq,Ats.len t]
theorem Ats.get {H:Hp} :∀ {os:List Ob}{vs:List V},Ats H os vs->∀ {i:Nat}{v:V},vs[i]?=some v->∃ o,os[i]?=some o/\At H o v
 | [],_,h,i,v,e=>by cases (show _=[] from h); cases e
 | o::os,_,⟨v,r,e,h,t⟩,0,v',e'=>by subst e; cases e'; exact⟨o,rfl,h⟩
 | o::os,_,⟨v,r,e,h,t⟩,i+1,v',e'=>by subst e; exact Ats.get t (i:=i) e'
theorem Ats.ints {H:Hp} :∀ (l:List Int),Ats H (l.map Ob.int) (l.map V.int)
 | []=>rfl
 | i::r=>⟨.int i,_,rfl,rfl,Ats.ints r⟩
def isInt:Ob->Bool
 | .int _=>true
 | _=>false
def isTup:Ob->Bool
 | .tup _=>true
 | _=>false
def upB (lo hi:Int):Ob->Bool
 | .int i=>decide (lo<=i)&&decide (i<=hi)
 | _=>false
def val:Ob->Int
 | .int i=>i
 | _=>0
def adj (is:List Int):List Bool:=(List.range (is.length - 1)).map fun k=>decide (is.getD k 0<is.getD (k+1) 0)
noncomputable def risB:Ob->Bool
 | .tup os=>os.all isInt&&(adj (os.map val)).all id
 | _=>false
noncomputable def lotB (w:Int):Ob->Bool
 | .tup os=>os.all (upB 0 (w - 1))&&(adj (os.map val)).all id
 | _=>false
def lotB' (w:Int)(o:Ob):Bool:=risB o&&match o with
 | .tup os=>decide (os=[]) || (decide (0<=(os.map val).getD 0 0)&&decide ((os.map val).getLastD 0<w))
 | _=>false
theorem jOJ {is:List Int}(h:(adj is).all id=true){k:Nat}(hk:k+1<is.length):is.getD k 0<is.getD (k+1) 0:=by
 rw[bE] at h
 exact aO (h _ (aN.mpr ⟨k,bN.mpr (by omega),rfl⟩))
theorem jKB {is:List Int}(h:(adj is).all id=true):∀ (j k:Nat),j<=k->k<is.length->is.getD j 0<=is.getD k 0
 | j,0,h1,_=>by
  have:j=0:=by omega
  subst this
  exact cN _
 | j,k+1,h1,h2=>by
  rcases eL k j with q | q
  ·have:j=k+1:=by omega
   subst this
   exact cN _
  ·have a:=jKB h j k q (by omega)
   have b:=jOJ h h2
   omega
theorem jPN (w:Int)(o:Ob):lotB' w o=lotB w o:=by
 cases o with
 | int i=>rfl
 | oth=>rfl
 | tup os=>
  rw[bJ]
  unfold lotB' risB lotB
  simp only [bO,Bool.or_eq_true,fO]
  constructor
  ·rintro ⟨⟨a,b⟩,c⟩
   refine⟨?_,b⟩
   rw[bE] at a ⊢
   intro x hx
   obtain⟨j,hj,rfl⟩:=g0 hx
   have hi:=a _ hx
   have e:os≠ []:=fun e=>by subst e; cases hx
   obtain⟨c1,c2⟩:=c.resolve_left e
   have hl:(os.map val).length=os.length:=aa _
   have g:(os.map val).getD j 0=val os[j]:=by
    rw[aB,aA]
    simp [hj]
   have l1:=jKB b 0 j (by omega) (by omega)
   have l2:=jKB b j (os.length - 1) (by omega) (by omega)
   have l3:(os.map val).getLastD 0=(os.map val).getD (os.length - 1) 0:=by
    rw[dS,dU,aB,hl]
   rw[g] at l1 l2
   rw[l3] at c2
   cases e2:os[j] with
   | int i=>
    rw[e2] at l1 l2
    simp only [val] at l1 l2
    simp only [upB,bO,fO]
    omega
   | oth=>rw[e2] at hi; cases hi
   | tup r=>rw[e2] at hi; cases hi
  ·rintro ⟨a,b⟩
   rw[bE] at a
   refine⟨⟨?_,b⟩,?_⟩
   ·rw[bE]
    intro x hx
    have:=a x hx
    cases x with
    | int i=>rfl
    | oth=>cases this
    | tup r=>cases this
   ·by_cases e:os=[]
    ·exact .inl e
    ·refine .inr ?_
     have key:∀ j,j<os.length->0<=(os.map val).getD j 0/\(os.map val).getD j 0<w:=fun j hj=>by
      have g:(os.map val).getD j 0=val os[j]:=by
       rw[aB,aA]
       simp [hj]
      have:=a os[j] (dQ hj)
      rw[g]
      cases e2:os[j] with
      | int i=>
       rw[e2] at this
       simp only [upB,bO,fO] at this
       simp only [val]
       omega
      | oth=>rw[e2] at this; cases this
      | tup r=>rw[e2] at this; cases this
     have hpos:0<os.length:=by
      cases os with
      | nil=>exact absurd rfl e
      | cons _ _=>simp
     have l3:(os.map val).getLastD 0=(os.map val).getD (os.length - 1) 0:=by
      rw[dS,dU,aB,aa]
     rw[l3]
     exact⟨(key 0 hpos).1,(key (os.length - 1) (by omega)).2⟩
theorem Ats.allInt {H:Hp} :∀ {os:List Ob}{vs:List V},Ats H os vs->os.all isInt=true->vs=(os.map val).map V.int
 | [],_,h,_=>by cases (show _=[] from h); rfl
 | o::os,_,⟨v,r,e,h,t⟩,ha=>by
  rw[fU,bO] at ha
  subst e
  rw[ba,ba,<- Ats.allInt t ha.2]
  cases o with
  | int i=>cases (show v= .int i from h); rfl
  | oth=>cases ha.1
  | tup _=>cases ha.1
theorem jQC (l:List Ob)(F:Ob->Bool):(l.map F).all id=l.all F:=by
 rw[all_map]
 rfl
theorem jOI (is:List Int):(adj is).length=is.length - 1:=by
 unfold adj
 rw[aa,dh]
theorem jQD {is:List Int}{k:Nat}(h:k<is.length - 1):(adj is)[k]?=some (decide (is.getD k 0<is.getD (k+1) 0)):=by
 unfold adj
 rw[aA,dq h]
 rfl
theorem jLM {is:List Int}{k:Nat}(h:k<is.length - 1):(adj is).take (k+1)=(adj is).take k++[decide (is.getD k 0<is.getD (k+1) 0)]:=by
 rw[bo,jQD h]
 rfl
theorem getI {is:List Int}{k:Nat}(h:k<is.length):(is.map V.int)[k]?=some (.int (is.getD k 0)):=by
 rw[aA,aB]
 simp [h]
theorem At.ty (K:W.Frag){H:Hp}{o:Ob}{v:V}(h:At H o v):∃ t,TyOf K H v t/\kitOne K t (.type "tuple")=some (isTup o)/\∃ b1 b2,kitOne K t (.type "int")=some b1/\kitOne K t (.type "bool")=some b2/\(b1&&!b2)=isInt o:=by
 cases o with
 | int i=>
  cases (show v= .int i from h)
  exact⟨_, .int i,rfl,true,false,rfl,rfl,rfl⟩
 | oth=>
  rcases (show OthAt H v from h) with rfl | ⟨b,rfl⟩ | ⟨x,rfl⟩ | ⟨a,rfl,⟨xs,e⟩ | ⟨xs,e⟩⟩
  ·exact⟨_, .non,rfl,false,false,rfl,rfl,rfl⟩
  ·exact⟨_, .bl b,rfl,true,true,rfl,rfl,rfl⟩
  ·exact⟨_, .str x,rfl,false,false,rfl,rfl,rfl⟩
  ·exact⟨_, .lst e,rfl,false,false,rfl,rfl,rfl⟩
  ·exact⟨_, .dK e,rfl,false,false,rfl,rfl,rfl⟩
 | tup os=>
  obtain⟨a,vs,rfl,e,_⟩:=h
  exact⟨_, .tup e,rfl,false,false,rfl,rfl,rfl⟩
theorem At.tupOf {H:Hp}{o:Ob}{v:V}(h:At H o v)(t:isTup o=true):∃ os a vs,o= .tup os/\v= .ref a/\H a=some (.tup vs)/\vs.length<=100/\Ats H os vs:=by
 cases o with
 | int i=>cases t
 | oth=>cases t
 | tup os=>
  obtain⟨a,vs,e1,e2,e4,e3⟩:=h
  exact⟨os,a,vs,rfl,e1,e2,e4,e3⟩
theorem jJY {K:W.Frag}{m:List (Option Nat)}{g:TG}{tt:TT}{te:TE}{σ:St}{H1:Hp}{Q:VK}{a:Addr}{xs:List V}{os:List Ob}{F:Ob->Bool}(ha:H1 a=some (.tup xs))(hx:Ats H1 os xs)(hn:xs.length<sizeLine)(σP:St->Prop)(h0:σP (blkσ m σ))
  (step:∀ (σ':St) (H':Hp) (v:V) (o:Ob) (R:St->V->Hp->Prop) (S:St->Hp->Prop),σP σ'->Ext H1 H'->At H' o v->(∀ σ2 H'',σP σ2->Ext H' H''->R σ2 (.bl (F o)) H'')->g v σ' H' fun σ2 H2=>tt σ2 H2 fun b H3=>if b=true then te σ2 H3 (R σ2) else S σ2 H3)
  (hd:∀ D H',Ext H1 H'->H' D=some (.lst ((os.map F).map V.bl))->Q (.ref D) H'):CompW m g tt te σ Q (Itt K a) H1:=by
 have hl:=hx.len
 refine jEA (xs:=xs) hn (fun D i σ' H' zs=>σP σ'/\Ext H1 H'/\H' D=some (.lst zs)/\H1 D=none/\zs=((os.take i).map F).map V.bl) ?_ ?_ ?_ ?_
 ·intro D hD
  exact⟨h0,(Ext.refl _).new hD _,j8,hD,rfl⟩
 ·rintro D i σ' H' zs hD ⟨_,e,h2,_,rfl⟩
  refine⟨e _ _ ha,h2,?_⟩
  rw[aa,aa,aY]
  omega
 ·rintro D i σ' H' zs x hD hi ⟨p,e,h2,hn,rfl⟩
  obtain⟨o,ho,hAt⟩:=hx.get hi
  refine step σ' H' x o _ _ p e (hAt.ext e) fun σ2 H'' p2 e2=>⟨e2 _ _ h2,p2,(e.trans e2).updNew hn _,j8,hn,?_⟩
  have:os.take (i+1)=os.take i++[o]:=by
   rw[bo,ho]
   rfl
  rw[this,aK,aK]
  rfl
 ·rintro D σ' H' zs hD ⟨_,e,h2,_,rfl⟩
  rw[hl,bI] at h2
  exact hd D H' e h2
section
variable {P:Program}{w:World}{K:W.Frag}{mg:Str->Option Value}{base:Heap}
noncomputable abbrev XOf (N:List Str)(q:Str)(st:Stmt)(P:Program)(w:World)(K:W.Frag)(mg:Str->Option Value)(base:Heap)(f:Addr)(cdv:Value)(A:Around)(outer:List Env)(s:Shared)(H:Hp)(E:XK):Cx:=(cxOf CX0 P w K mg base N q (j7 st) f cdv A outer s H E).nox
variable {f fW fR:Addr}{fdW fdR:FuncData}{cdv:Value}{A:Around}{outer:List Env}{s:Shared}{H0:Hp}{E:XK}
abbrev jIX:List Str:=["thing"]
theorem scWhole0:FnScope jIX ["thing"] (j7 jAK):=⟨rfl,rfl,rfl,by decide+kernel,rfl,by decide+kernel,by decide+kernel⟩
def spWh:Sp:=fun vs H Q _=>∃ v o,vs=[v]/\At H o v/\Q (.bl (isInt o)) H
def jMG (T:Txt mg): { t:TS // JSs (XOf jIX "is_whole" jAK P w K mg base f cdv A outer s H0 E) (jB jAK) t} :=
 have nd:=scWhole0.nd
 ⟨_,(jC (jV ((jJD (jI jBJ gD T.isinstance (by decide+kernel) (j3 (jv 0 rfl vL) (j3 (jG0 (v:= .ty "int") gD T.int (by decide+kernel) rfl) j6 j4) j4) j4) (jF6 (jPW (jI jBJ gD T.isinstance (by decide+kernel) (j3 (jv 0 rfl vL) (j3 (jG0 (v:= .ty "bool") gD T.bool (by decide+kernel) rfl) j6 j4) j4) j4)))))))⟩
theorem jIT {fd:FuncData}(F:Fun K "is_whole" "is_whole" jAK f fd)(T:Txt mg):FnOk P w K mg base CX0 1 f fd ["thing"] spWh:=by
 refine F.ok scWhole0 (fun vs H Q E h=>?_) (fun cdv A outer s H vs Q E hr h=>?_)
 ·obtain⟨_,_,rfl,_⟩:=h
  rfl
 ·obtain⟨v,o,rfl,hA,q⟩:=h
  obtain⟨t,ty,_,b1,b2,k1,k2,e⟩:=hA.ty K
  refine⟨_,(jMG T).2.h,?_⟩
  refine⟨_,rfl,_,_,_,b1,rfl,ty,k1,b1,rfl,?_⟩
  rw[<- e] at q
  cases b1 with
  | true=>exact iteT ⟨_,rfl,_,_,_,b2,rfl,ty,k2,b2,rfl,q⟩
  | false=>exact iteF q
abbrev jD7:List Str:=["thing"]
theorem scRising:FnScope jD7 ["thing"] (j7 y3):=⟨rfl,rfl,rfl,by decide+kernel,rfl,by decide+kernel,by decide+kernel⟩
def spB (F:Ob->Bool):Sp:=fun vs H Q _=>∃ v o,vs=[v]/\At H o v/\∀ H',Ext H H'->Q (.bl (F o)) H'
def jMP (T:Txt mg)(CW:Can P w K mg base "is_whole" 1 fW fdW ["thing"] spWh)(hr:Room 1 (XOf jD7 "is_rising" y3 P w K mg base f cdv A outer s H0 E).A): { t:TS // JSs (XOf jD7 "is_rising" y3 P w K mg base f cdv A outer s H0 E) (jB y3) t} :=
 have nd:=scRising.nd
 ⟨_,(j9 (yI (jF4 (jF3 (jI jBJ gD T.isinstance (by decide+kernel) (j3 (jv 0 rfl vC) (j3 (jG0 (v:= .ty "tuple") gD T.tuple (by decide+kernel) rfl) j6 j4) j4) j4) jCY)) (jC (jV (je_bl))) kG)
   (j9 (yI (jF4 (jF3 (jI (jDG rfl) gD T.all (by decide+kernel) (j3 (kR (m:=[none]) (Nc:=["number"]) rfl (jDC (jv 0 rfl vC)) rfl (by decide+kernel) (by decide+kernel) (kT (psc:=j7 y3) (by decide+kernel)) (jR (N:=jD7) rfl rfl (by decide+kernel)) (fun cl C fp s H=>jG (i:=0) (show (["number"]:List Str).Nodup by decide+kernel) rfl (yM (by decide+kernel))) (fun cl C fp s H=>kS) (fun cl C fp s H=>(CW.je hr (gl_b (by decide+kernel)) (j3 (jv 0 rfl (jX (by decide+kernel))) j6 j4) j4)) yE) j6 jO) jO) jCY)) (jC (jV (je_bl))) kG)
   (jC (jV (jI (jDG rfl) gD T.all (by decide+kernel) (j3 (kR (m:=[none,some 0]) (Nc:=["k","thing"]) rfl (jJ9 gD T.range (j3 (je_int) (j3 (jI jA0 gD T.len (by decide+kernel) (j3 (jv 0 rfl vC) j6 j4) j4) j6 jJ) jK) jK jJ) rfl (by decide+kernel) (by decide+kernel) (kT (psc:=j7 y3) (by decide+kernel)) (jR (N:=jD7) rfl rfl (by decide+kernel)) (fun cl C fp s H=>jG (i:=0) (show (["k","thing"]:List Str).Nodup by decide+kernel) rfl (yM (by decide+kernel))) (fun cl C fp s H=>kS) (fun cl C fp s H=>(jAO op_lt (kE jBT (jv 1 rfl (y6 (by decide+kernel))) (jL jD6 (jv 0 rfl (jX (by decide+kernel))) (je_int)) jD2) (kE jBT (jv 1 rfl (y6 (by decide+kernel))) (jv 0 rfl (jX (by decide+kernel))) jAP) (jQ _))) kI) j6 jO) jO)))))⟩
theorem jIU {fd:FuncData}(F:Fun K "is_rising" "is_rising" y3 f fd)(T:Txt mg)(CW:Can P w K mg base "is_whole" 1 fW fdW ["thing"] spWh):FnOk P w K mg base CX0 2 f fd ["thing"] (spB risB):=by
 refine F.ok scRising (fun vs H Q E h=>?_) (fun cdv A outer s H vs Q E hr h=>?_)
 ·obtain⟨_,_,rfl,_⟩:=h
  rfl
 ·obtain⟨v,o,rfl,hA,q⟩:=h
  obtain⟨t,ty,kt,_⟩:=hA.ty K
  refine⟨_,(jMP T CW hr).2.h,?_⟩
  refine⟨_,rfl,_,_,_,_,rfl,ty,kt,_,rfl,?_⟩
  cases ht:isTup o with
  | false=>
   refine iteT ?_
   have:risB o=false:=by cases o <;> first | rfl | cases ht
   rw[<- this]
   exact q H (Ext.refl H)
  | true=>
   refine iteF ?_
   obtain⟨os,a,vs,rfl,rfl,ha,h100,hx⟩:=hA.tupOf ht
   have hl:=hx.len
   have hn:vs.length<sizeLine:=by rw[aI]; omega
   ·refine⟨_,rfl,a,rfl,⟨_,SqT.of ha⟩,jJY (F:=isInt) ha hx hn (fun σ'=>∃ v,σ'=[v]) ⟨_,rfl⟩ ?_ ?_⟩
    ·rintro σ' H' v o R S ⟨u,rfl⟩ e hA k
     dsimp only [kO,yJ]
     rw[ag rfl]
     exact⟨_,rfl,v,o,rfl,hA,k _ H' ⟨_,rfl⟩ (Ext.refl _)⟩
    ·intro D H1 e1 hD
     refine⟨D,_,rfl,SqL.of hD,_,rfl,?_⟩
     rw[jQC]
     cases hi:os.all isInt with
     | false=>
      refine iteT ?_
      have:risB (.tup os)=false:=by
       show (os.all isInt&&_)=false
       rw[hi]
       rfl
      rw[<- this]
      exact q H1 e1
     | true=>
      refine iteF ?_
      have hv:=hx.allInt hi
      have hN:(os.map val).length=os.length:=aa _
      refine⟨_,rfl,a,_,rfl, .inr (SqT.of (e1 _ _ ha)),1,_,rfl,⟨by decide,by decide,by omega,by rw[aI] at hn; omega⟩,jEB (n:=((vs.length:Int) - 1).toNat) (by omega) (fun D i σ' H' zs=>(∃ v,σ'=[v,some (.ref a)])/\zs=((adj (os.map val)).take i).map V.bl/\H'=upd H1 D (.lst zs)) ?_ ?_ ?_ ?_⟩
      ·intro D hD
       exact⟨⟨_,rfl⟩,rfl,rfl⟩
      ·rintro D i σ' H' zs hD hi2 ⟨_,rfl,rfl⟩
       refine⟨j8,?_⟩
       rw[aa,aY]
       omega
      ·rintro D i σ' H' zs hD hi2 ⟨⟨v,rfl⟩,rfl,rfl⟩
       have hi3:i<(os.map val).length - 1:=by omega
       have ha':(upd H1 D (.lst (((adj (os.map val)).take i).map V.bl))) a=some (.tup ((os.map val).map V.int)):=by
        rw[jA (jD (e1 _ _ ha) hD),e1 _ _ ha,hv]
       dsimp only [kO,yJ]
       rw[ag rfl]
       have e0:(1+(i:Int)) - 1=(i:Int):=by omega
       have e2:(1+(i:Int))=((i+1:Nat):Int):=by omega
       refine⟨_,rfl,_,rfl,_,_,rfl,rfl,a,_,_,_,rfl,rfl,SqT.of ha',by rw[e0]; exact kU (getI (by omega)),_,rfl,_,rfl,a,_,_,_,rfl,rfl,SqT.of ha',by rw[e2]; exact kU (getI (by omega)),_,_,rfl,rfl,j8,⟨_,rfl⟩,?_,jMI⟩
       rw[jLM hi3,aK]
       rfl
      ·rintro D2 σ' H' zs hD2 ⟨_,rfl,rfl⟩
       have hlen:((vs.length:Int) - 1).toNat=(adj (os.map val)).length:=by rw[jOI]; omega
       rw[hlen,bI]
       refine⟨D2,_,rfl,SqL.of j8,?_⟩
       have:(adj (os.map val)).all id=risB (.tup os):=by
        show _=(os.all isInt&&(adj (os.map val)).all id)
        rw[hi,fY]
       rw[this]
       exact q _ (e1.new hD2 _)
end
end Eo
end
section
namespace L2
open PySem
theorem px_un {op:UnaryOp}{a:Expr}{pos:Pos} :jAT (.UnaryOp op a pos):=fun _ _=>rfl
theorem jOF {α:Type}{xs:List α}{v:α}(h:xs[xs.length - 1]?=some v):atI xs (-1)=some v:=by
 have hj:xs.length - 1<xs.length:=(ae.mp h).1
 have e:ixN xs.length (-1)=some (xs.length - 1):=by
  unfold ixN
  rw[af (by omega),ag (by omega)]
  congr 1
  omega
 unfold atI
 rw[e]
 exact h
theorem qb {Q:VK}{H:Hp}{a b:Bool}(q:Q (.bl a) H)(e:a=b):Q (.bl b) H:=e ▸ q
end L2
namespace Eo
open PySem L2
section
variable {P:Program}{w:World}{K:W.Frag}{mg:Str->Option Value}{base:Heap}
variable {f fW fR fL fG fI fPs:Addr}{fdW fdR fdL fdG fdI fdPs:FuncData}{cdv:Value}{A:Around}{outer:List Env}{s:Shared}{H0:Hp}{E:XK}
abbrev jJ0:List Str:=["thing","many"]
theorem scIsLot:FnScope jJ0 ["thing","many"] (j7 jBB):=⟨rfl,rfl,rfl,by decide+kernel,rfl,by decide+kernel,by decide+kernel⟩
def spB2 (F:Int->Ob->Bool):Sp:=fun vs H Q _=>∃ v o w,vs=[v, .int w]/\At H o v/\∀ H',Ext H H'->Q (.bl (F w o)) H'
def jPZ (T:Txt mg)(CR:Can P w K mg base "is_rising" 2 fR fdR ["thing"] (spB risB))(hr:Room 2 (XOf jJ0 "is_lot" jBB P w K mg base f cdv A outer s H0 E).A): { t:TS // JSs (XOf jJ0 "is_lot" jBB P w K mg base f cdv A outer s H0 E) (jB jBB) t} :=
 have nd:=scIsLot.nd
 ⟨_,(j9 (yI (jF4 (jF3 (CR.je hr gD (j3 (jv 0 rfl vL) j6 j4) j4) jCY)) (jC (jV (je_bl))) kG)
   (jC (jV ((je_or (jAO op_eq (jI jA0 gD T.len (by decide+kernel) (j3 (jv 0 rfl vL) j6 j4) j4) (je_int) (jQ _)) (jF6 ((jJD (jAO op_ge (kE kQ (jv 0 rfl vL) (je_int) jP) (je_int) (jQ _)) (jF6 (jAO op_lt (kE kQ (jv 0 rfl vL) (je_un jI1 (je_int)) px_un) (jv 1 rfl vL) (jQ _)))))))))))⟩
theorem jKQ {fd:FuncData}(F:Fun K "is_lot" "is_lot" jBB f fd)(T:Txt mg)(CR:Can P w K mg base "is_rising" 2 fR fdR ["thing"] (spB risB)):FnOk P w K mg base CX0 3 f fd ["thing","many"] (spB2 lotB):=by
 refine F.ok scIsLot (fun vs H Q E h=>?_) (fun cdv A outer s H vs Q E hr h=>?_)
 ·obtain⟨_,_,_,rfl,_⟩:=h
  rfl
 ·obtain⟨v,o,w,rfl,hA,q⟩:=h
  refine⟨_,(jPZ T CR hr).2.h,?_⟩
  refine⟨_,rfl,v,o,rfl,hA,fun H1 e1=>⟨_,rfl,?_⟩⟩
  have eq:=jPN w o
  cases hR:risB o with
  | false=>
   refine iteT (qb (q H1 e1) ?_)
   rw[<- eq]
   unfold lotB'
   rw[hR]
   rfl
  | true=>
   refine iteF ?_
   have ht:isTup o=true:=by cases o <;> first | rfl | cases hR
   obtain⟨os,a,vs,rfl,rfl,ha,h100,hx⟩:=hA.tupOf ht
   have hl:=hx.len
   have hi:os.all isInt=true:=by
    have:(os.all isInt&&(adj (os.map val)).all id)=true:=hR
    rw[bO] at this
    exact this.1
   have hv:=hx.allInt hi
   have ha1:=e1 _ _ ha
   refine⟨_,rfl,a,_,rfl, .inr (SqT.of ha1),rfl,_,rfl,ite2 (fun hy=>?_) (fun hy=>?_)⟩
   ·have h0:=V.int.inj (aO hy)
    have e0:os=[]:=gq.mp (by omega)
    refine qb (q H1 e1) ?_
    rw[<- eq]
    unfold lotB'
    rw[hR]
    simp [e0]
   ·have h0:0<vs.length:=Nat.pos_of_ne_zero fun h=>hy (aG (by rw[h]; rfl))
    have hml:(os.map val).length=vs.length:=by rw[aa,hl]
    refine⟨_,rfl,a,_,0, .int ((os.map val).getD 0 0),rfl,rfl,SqT.of ha1,?_,_,_,rfl,rfl,_,rfl,ite2 (fun hz=>?_) (fun hz=>?_)⟩
    ·rw[hv]
     exact kU (j:=0) (getI (by omega))
    ·refine⟨_,rfl,_,rfl,a,_,_, .int ((os.map val).getLastD 0),rfl,rfl,SqT.of ha1,?_,_,rfl,_,_,rfl,rfl,qb (q H1 e1) ?_⟩
     ·show atI vs (-1)=_
      refine jOF ?_
      rw[hv,aa,getI (by omega),dS,dU,aB]
     ·rw[<- eq]
      unfold lotB'
      rw[hR]
      have e0:¬ os=[]:=fun e=>by rw[e] at hl; have:vs.length=0:=hl; omega
      have hz:=aO hz
      simp [e0]
      intro hh
      simpa using hz
    ·refine qb (q H1 e1) ?_
     rw[<- eq]
     unfold lotB'
     rw[hR]
     have e0:¬ os=[]:=fun e=>by rw[e] at hl; have:vs.length=0:=hl; omega
     have hz:¬ (0<=(os.map val).getD 0 0):=fun h=>hz (aG h)
     simp only [e0,decide_false,fX,fY,aM hz,fk]
end
end Eo
end
section
namespace L2
open PySem
section
variable {P:Program}{w:World}{K:W.Frag}{mg:Str->Option Value}{base:Heap}{N:List Str}{qual:Str}{sc:Scope}{f:Addr}{cdv:Value}{A:Around}{outer:List Env}{s:Shared}{H:Hp}{E:XK}{x y z:Str}{p1 p2 p3 pos:Pos}{k i j l:Nat}
theorem jCR (hN:N.Nodup)(hi:N[i]?=some x)(hj:N[j]?=some y)(hx:sc.names.lookup x=some .local)(hy:sc.names.lookup y=some .local):
  JG (cxOf CX0 P w K mg base N qual sc f cdv A outer s H E).nox (.Tuple [.Name x p1, .Name y p2] k pos) (gTup K 2 (gCons (kO i) (gCons (kO j) gNil))):=
 jM4 (X:=(cxOf CX0 P w K mg base N qual sc f cdv A outer s H E).nox) rfl (jB1 (jG hN hi (loc_l hx)) (jB1 (jG hN hj (loc_l hy)) jFZ jCA) jCA)
end
end L2
namespace L2
open PySem
section
variable {K:W.Frag}{m:List (Option Nat)}{g:TG}{tt:TT}{te:TE}{σ:St}{H1:Hp}{Q:VK}
end
end L2
namespace Eo
open PySem L2
theorem jJL {α:Type}{l:List α}{i:Nat}{d:α}(h:i<l.length):l.getD i d=l[i]:=by
 rw[aB,aj h]
 rfl
theorem jAS (l:List Int):(l.map V.int).all yQ=true:=by
 rw[bE]
 intro x hx
 obtain⟨i,_,rfl⟩:=aN.mp hx
 rfl
theorem jH1 (i:Int)(l:List Int):inV (.int i) (l.map V.int)=decide (i∈l):=by
 unfold inV
 rw[bJ,List.any_eq_true,bf]
 constructor
 ·rintro ⟨x,hx,e⟩
  obtain⟨j,hj,rfl⟩:=aN.mp hx
  have:j=i:=eq_of_beq e
  rw[<- this]
  exact hj
 ·intro h
  exact⟨.int i,aN.mpr ⟨i,h,rfl⟩,by simp [eqV]⟩
theorem jJX (i:Int):∀ (l:List Int),((l.map V.int).countP fun z=>eqV z (.int i))=l.count i
 | []=>rfl
 | a::r=>by
  rw[ba,gh,jJX i r,List.count_cons]
  rfl
theorem jBF:∀ (ts:List Int) (lo w:Int),ts.Pairwise (· < ·)->(∀ z∈ts,lo<=z/\z<w)->(ts.length:Int)<=max (w - lo) 0
 | [],lo,w,_,_=>by show (0:Int)<=_; omega
 | a::r,lo,w,hp,hb=>by
  have h1:=hb a aH
  have hp':=dz.mp hp
  have:=jBF r (a+1) w hp'.2 fun z hz=>⟨by have:=hp'.1 z hz; omega,(hb z (aq _ hz)).2⟩
  rw[bq]
  omega
def j5 (pcs:List (List Int×Int))(k:Int):List Int:=(pcs.getD k.toNat ([],0)).1
theorem PcsAt.get {H:Hp} :∀ {vs:List V}{ps:List (List Int×Int)},PcsAt H vs ps->∀ {k:Nat},k<ps.length->∃ v,vs[k]?=some v/\PcAt H v (ps.getD k ([],0))
 | v::vs,p::ps,h,0,_=>⟨v,rfl,h.1⟩
 | v::vs,p::ps,h,k+1,hk=>PcsAt.get h.2 (k:=k) (by simpa using hk)
 | [],[],_,k,hk=>absurd hk (ed _)
 | [],_::_,h,_,_=>h.elim
 | _::_,[],h,_,_=>h.elim
theorem Good.at {mt mp w:Int}{ms:List Int}{pcs:List (List Int×Int)}(g:Good mt mp w ms pcs){k:Nat}(hk:k<pcs.length):GoodPc w (pcs.getD k ([],0)):=by
 have e:pcs.getD k ([],0)=pcs[k]:=by simp [List.getD,hk]
 rw[e]
 exact g.pg _ (dQ hk)
theorem jI0 {n i:Nat}(h:i<n):(upto n).take (i+1)=(upto n).take i++[(i:Int)]:=by
 unfold upto
 rw[<- fZ,<- fZ,List.take_range,List.take_range,show min (i+1) n=i+1 by omega,show min i n=i by omega,eg,aK]
 rfl
theorem jT (n:Nat):(upto n).length=n:=by
 unfold upto
 rw[aa,dh]
theorem kN {n i:Nat}(h:i<n):(upto n)[i]?=some (i:Int):=by
 unfold upto
 rw[aA,dq h]
 rfl
theorem jQA {H:Hp}{a:Addr}{vs:List V}{os:List Ob}(h:H a=some (.tup vs))(n:vs.length<=100)(r:Ats H os vs):At H (.tup os) (.ref a):=⟨a,vs,rfl,h,n,r⟩
theorem iteT' {A B:Prop}{c:Bool}(hc:c=true)(h:A):if c=true then A else B:=by
 rw[ag hc]
 exact h
theorem _root_.L2.Ext.tups {H H':Hp}(e:Ext H H'):Tups H H':=fun b xs h=>e b _ h
theorem PcsAt.at {H:Hp} :∀ {vs:List V}{ps:List (List Int×Int)},PcsAt H vs ps->∀ {i:Nat}{v:V},vs[i]?=some v->∃ pc,ps[i]?=some pc/\PcAt H v pc
 | [],[],_,i,v,e=>by cases e
 | x::vs,p::ps,h,0,v,e=>by cases e; exact⟨p,rfl,h.1⟩
 | x::vs,p::ps,h,i+1,v,e=>PcsAt.at h.2 (i:=i) e
 | [],_::_,h,_,_,_=>h.elim
 | _::_,[],h,_,_,_=>h.elim
theorem PcsAt.snoc {H:Hp}{v:V}{p:List Int×Int}(hv:PcAt H v p):∀ {vs:List V}{ps:List (List Int×Int)},PcsAt H vs ps->PcsAt H (vs++[v]) (ps++[p])
 | [],[],_=>⟨hv,trivial⟩
 | x::vs,q::ps,h=>⟨h.1,PcsAt.snoc hv h.2⟩
 | [],_::_,h=>h.elim
 | _::_,[],h=>h.elim
theorem jIW (n:Nat):∀ (ds:List Int),ds.Nodup->(∀ t∈ds,0<=t/\t<(n:Int))->ds.length<=n:=by
 intro ds h1 h2
 have h3:(ds.map Int.toNat).Nodup:=by
  rw[List.Nodup,cC]
  refine dk (R:=(· ≠ ·)) (fun {a b} ha hb hne e=>hne ?_) h1
  have:=h2 a ha
  have:=h2 b hb
  omega
 have h4:(ds.map Int.toNat).length<=(List.range n).length:=h3.length_le_of_subset fun x hx=>by
  obtain⟨t,ht,rfl⟩:=aN.mp hx
  have:=h2 t ht
  exact bN.mpr (by omega)
 rw[aa,dh] at h4
 exact h4
theorem iteN {A B:Prop}{c:Bool}(hc:c=false)(h:B):if c=true then A else B:=by
 rw[hc]
 exact iteF h
abbrev leI:Int->Int->Bool:=fun a b=>decide (a<=b)
def srt (l:List Int):List Int:=l.mergeSort leI
theorem jU (l:List Int):(srt l).Perm l:=List.mergeSort_perm _ _
theorem jEM (l:List Int):(srt l).Pairwise (· <= ·):=by
 have:=List.pairwise_mergeSort (le:=leI) (fun a b c h1 h2=>aG (cS (aO h1) (aO h2))) (fun a b=>by
  rw[Bool.or_eq_true]
  rcases Int.le_total a b with h | h
  ·exact .inl (aG h)
  ·exact .inr (aG h)) l
 exact this.imp fun h=>aO h
theorem jD0 {l m:List Int}(h1:m.Pairwise (· <= ·))(h2:m.Perm l):m=srt l:=
 List.Perm.eq_of_pairwise (fun a b _ _ h1 h2=>Int.le_antisymm h1 h2) h1 (jEM l) (h2.trans (jU l).symm)
theorem jDX (l:List Int):(srt l).length=l.length:=(jU l).length_eq
section
variable {P:Program}{w:World}{K:W.Frag}{mg:Str->Option Value}{base:Heap}
variable {f fM:Addr}{fdM:FuncData}{cdv:Value}{A:Around}{outer:List Env}{s:Shared}{H0:Hp}{E:XK}
noncomputable abbrev nMask:List Str:=["lot"]
theorem scMask:FnScope nMask ["lot"] (j7 sMask):=⟨rfl,rfl,rfl,by decide+kernel,rfl,by decide+kernel,by decide+kernel⟩
def jEO:Sp:=fun vs H Q _=>∃ (q:Addr) (ts:List Int),vs=[.ref q]/\H q=some (.tup (ts.map V.int))/\(∀ t∈ts,0<=t/\t<64)/\ts.length<=64/\∀ H',Ext H H'->Q (.int ((maskN ts:Nat):Int)) H'
def maskA (T:Txt mg): { t:TS // JSs (XOf nMask "mask_of" sMask P w K mg base f cdv A outer s H0 E) (jB sMask) t} :=
 have nd:=scMask.nd
 ⟨_,(jC (jV (jI (jFB rfl) gD T.sum (by decide+kernel) (j3 (kR (m:=[none]) (Nc:=["thing"]) rfl (jDC (jv 0 rfl vL)) rfl (by decide+kernel) (by decide+kernel) (kT (psc:=j7 sMask) (by decide+kernel)) (jR (N:=nMask) rfl rfl (by decide+kernel)) (fun cl C fp s H=>jG (i:=0) (show (["thing"]:List Str).Nodup by decide+kernel) rfl (yM (by decide+kernel))) (fun cl C fp s H=>kS) (fun cl C fp s H=>(jL jIP (je_int) (jv 0 rfl (jX (by decide+kernel))))) yE) j6 jO) jO)))⟩
theorem jHN (ts:List Int)(h:∀ t∈ts,0<=t):(ts.map fun t=>(1:Int)*2 ^ t.toNat).sum=((maskN ts:Nat):Int):=by
 induction ts with
 | nil=>rfl
 | cons t r ih=>
  have e:maskN (t::r)=2 ^ t.toNat+maskN r:=by simp [maskN]
  rw[ba,cA,ih fun x hx=>h x (aq _ hx),e]
  push_cast
  omega
theorem jNH {fd:FuncData}(F:Fun K "mask_of" "mask_of" sMask f fd)(T:Txt mg):FnOk P w K mg base CX0 1 f fd ["lot"] jEO:=by
 refine F.ok scMask (fun vs H Q E h=>?_) (fun cdv A outer s H vs Q E hr h=>?_)
 ·obtain⟨_,_,rfl,_⟩:=h
  rfl
 ·obtain⟨q,ts,rfl,hq,hb,hl,k⟩:=h
  refine⟨_,(maskA T).2.h,?_⟩
  refine⟨_,rfl,q,rfl,⟨_,SqT.of hq⟩,jEA (xs:=ts.map V.int) (by rw[aa,aI]; omega) (fun D i σ' H' zs=>(∃ v,σ'=[v])/\Ext H H'/\H' D=some (.lst zs)/\H D=none/\zs=((ts.take i).map fun t=>(1:Int)*2 ^ t.toNat).map V.int) ?_ ?_ ?_ ?_⟩
  ·intro D hD
   exact⟨⟨_,rfl⟩,(Ext.refl _).new hD _,j8,hD,rfl⟩
  ·rintro D i σ' H' zs hD ⟨_,e,h2,_,rfl⟩
   refine⟨e _ _ hq,h2,?_⟩
   rw[aa,aa,aY]
   omega
  ·rintro D i σ' H' zs x hD hx ⟨⟨v,rfl⟩,e,h2,hn,rfl⟩
   obtain⟨z,hz,rfl⟩:∃ z:Int,ts[i]?=some z/\V.int z=x:=by
    rw[aA] at hx
    cases hq:ts[i]? with
    | none=>rw[hq] at hx; cases hx
    | some z=>rw[hq] at hx; cases hx; exact⟨z,rfl,rfl⟩
   have hzb:=hb z (ao hz)
   dsimp only [kO,yJ]
   rw[ag rfl]
   refine⟨_,rfl,_,_,rfl,rfl,⟨?_,?_,?_⟩,h2,⟨_,rfl⟩,e.updNew hn _,j8,hn,?_⟩
   ·first | omega | decide
   ·first | omega | decide
   ·first | omega | decide
   ·have:ts.take (i+1)=ts.take i++[z]:=by
     rw[bo,hz]
     rfl
    rw[this,aK,aK]
    rfl
  ·rintro D σ' H' zs hD ⟨_,e,h2,hn,rfl⟩
   refine⟨D,_,rfl,SqL.of h2,?_⟩
   rw[aa,bI,jHN ts fun t ht=>(hb t ht).1]
   exact k H' e
end
end Eo
end
section
namespace L2
open PySem
theorem jPY {X:Cx}{a b c:Expr}{pos:Pos}{ta tb:TE}{tc:TT}(hc:JT X c tc)(ha:JE X a ta)(hb:JE X b tb):JE X (.IfExp c a b pos) (tIf tc ta tb):=⟨jKM hc.h ha.h hb.h⟩
end L2
namespace Eo
open PySem L2
def PrAt (H:Hp)(v:V)(c:Int×Nat):Prop:=∃ q,v= .ref q/\H q=some (.tup [.int c.1, .int ((c.2:Nat):Int)])
theorem PrAt.mono {H H':Hp}(t:Tups H H'){v:V}{c:Int×Nat}(h:PrAt H v c):PrAt H' v c:=let ⟨q,e,z⟩:=h; ⟨q,e,t _ _ z⟩
def RowAt (H:Hp)(l:Addr)(cs:List (Int×Nat)):Prop:=∃ vs,H l=some (.lst vs)/\All2 (PrAt H) vs cs
structure ChAt (H:Hp)(L:Addr)(ch:Ch):Prop where
 ex:∃ ls:List Addr,H L=some (.lst (ls.map V.ref))/\ls.Nodup/\All2 (RowAt H) ls ch
theorem RowAt.keep {H H':Hp}{l:Addr}{cs:List (Int×Nat)}(h:RowAt H l cs)(k:∀ xs,H l=some (.lst xs)->H' l=some (.lst xs))(t:Tups H H'):RowAt H' l cs:=let ⟨vs,a,b⟩:=h; ⟨vs,k _ a,b.imp fun _ _=>PrAt.mono t⟩
theorem ChAt.keep {H H':Hp}{L:Addr}{ch:Ch}(h:ChAt H L ch)(k:∀ b xs,H b=some (.lst xs)->H' b=some (.lst xs))(t:Tups H H'):ChAt H' L ch:=by
 obtain⟨ls,a,b,c⟩:=h.ex
 exact⟨ls,k _ _ a,b,c.imp fun l cs r=>r.keep (k l) t⟩
theorem ChAt.ext {H H':Hp}{L:Addr}{ch:Ch}(h:ChAt H L ch)(e:Ext H H'):ChAt H' L ch:=h.keep (fun b xs z=>e _ _ z) e.tups
theorem ChAt.len {H:Hp}{L:Addr}{ch:Ch}(h:ChAt H L ch):∃ ls:List Addr,H L=some (.lst (ls.map V.ref))/\ls.length=ch.length:=by
 obtain⟨ls,a,b,c⟩:=h.ex
 exact⟨ls,a,c.len⟩
def yF (ms:List Int)(pcs:List (List Int×Int))(n t:Nat):List (Int×Nat):=
 (if (t:Int)∈ms then [(-1,2 ^ t)] else [])++(((upto pcs.length).take n).filter fun k=>decide ((j5 pcs k).headD 0=(t:Int))).map fun k=>(k,maskN (j5 pcs k))
def chsN (w:Nat)(ms:List Int)(pcs:List (List Int×Int))(n:Nat):Ch:=(List.range w).map (yF ms pcs n)
def chs (w:Nat)(ms:List Int)(pcs:List (List Int×Int)):Ch:=chsN w ms pcs pcs.length
theorem kP (w:Nat)(ms:List Int)(pcs:List (List Int×Int))(n:Nat):(chsN w ms pcs n).length=w:=by
 unfold chsN
 rw[aa,dh]
theorem jA8 {w:Nat}{ms:List Int}{pcs:List (List Int×Int)}{n t:Nat}(h:t<w):(chsN w ms pcs n)[t]?=some (yF ms pcs n t):=by
 unfold chsN
 rw[aA,dq h]
 rfl
theorem jCF {ts:List Int}{t:Nat}(hp:ts.Pairwise (· < ·))(h0:∀ x∈ts,0<=x)(h:(t:Int)∈ts):(maskN ts).testBit t=true:=by
 rw[jAD ts t hp h0,aG h]
theorem jD8 {ts:List Int}{w:Nat}(hp:ts.Pairwise (· < ·))(h0:∀ x∈ts,0<=x/\x<(w:Int)):maskN ts<2 ^ w:=by
 refine fE _ fun i hi=>?_
 rw[jAD ts i hp fun x hx=>(h0 x hx).1,aM]
 intro z
 have:=(h0 _ z).2
 omega
theorem jE8 {l:List Int}(h:l≠ []):l.headD 0∈l:=by
 cases l with
 | nil=>exact absurd rfl h
 | cons a r=>exact aH ..
theorem jBV {w:Int}{ms:List Int}{pcs:List (List Int×Int)}{n:Nat}(g:Good 16 32 w ms pcs):ChOk (chsN w.toNat ms pcs n):=by
 have w0:=g.w0
 have w1:=g.w1
 have gpl:=g.pl
 refine⟨by rw[kP]; omega,fun t cs h=>?_,fun t cs h c hc=>?_⟩
 ·have ht:t<w.toNat:=by
   have:=(ae.mp h).1
   rwa [kP] at this
  rw[jA8 ht] at h
  cases h
  unfold yF
  rw[ar,aa]
  have:=cY (fun k=>decide ((j5 pcs k).headD 0=(t:Int))) ((upto pcs.length).take n)
  have:=cF n (upto pcs.length)
  have:=jT pcs.length
  have:((upto pcs.length).take n).length<=(upto pcs.length).length:=by rw[aY]; omega
  split <;> simp only [bq,dZ] <;> omega
 ·have ht:t<w.toNat:=by
   have:=(ae.mp h).1
   rwa [kP] at this
  rw[jA8 ht] at h
  cases h
  unfold yF at hc
  rw[kP]
  rcases ax.mp hc with hc | hc
  ·split at hc
   ·rw[ay] at hc
    subst hc
    exact⟨by simp [ck],gU (by decide) ht,by show (-1:Int)<= -1; decide,by show (-1:Int)<32; decide⟩
   ·cases hc
  ·obtain⟨k,hk,rfl⟩:=aN.mp hc
   obtain⟨hk1,hk2⟩:=ce.mp hk
   have kb:=(jAW pcs.length).bnd k (bR hk1)
   have gp:=g.at (k:=k.toNat) (by omega)
   have hk2:=aO hk2
   have hne:j5 pcs k≠ []:=gp.lot.ne
   have hm:(t:Int)∈j5 pcs k:=by
    rw[<- hk2]
    exact jE8 hne
   exact⟨jCF gp.lot.ris (fun x hx=>(gp.lot.bnd x hx).1) hm,jD8 gp.lot.ris fun x hx=>⟨(gp.lot.bnd x hx).1,by have:=(gp.lot.bnd x hx).2; omega⟩,by omega,by omega⟩
section
variable {P:Program}{w:World}{K:W.Frag}{mg:Str->Option Value}{base:Heap}
variable {f fM:Addr}{fdM:FuncData}{cdv:Value}{A:Around}{outer:List Env}{s:Shared}{H0:Hp}{E:XK}
abbrev jAY:List Str:=["box","choices","number","piece"]
theorem scChoices:FnScope jAY ["box"] (j7 jZ):=⟨rfl,rfl,rfl,by decide+kernel,rfl,by decide+kernel,by decide+kernel⟩
def jA9:Sp:=fun vs H Q _=>∃ (b:Addr) (w:Int) (ms:List Int) (pcs:List (List Int×Int)),vs=[.ref b]/\BoxAt H b w ms pcs/\Good 16 32 w ms pcs/\∀ r H',ChAt H' r (chs w.toNat ms pcs)->Ext H H'->Q (.ref r) H'
def jOD (T:Txt mg)(CM:Can P w K mg base "mask_of" 1 fM fdM ["lot"] jEO)(hr:Room 1 (XOf jAY "choices_of" jZ P w K mg base f cdv A outer s H0 E).A): { t:TS // JSs (XOf jAY "choices_of" jZ P w K mg base f cdv A outer s H0 E) (jCG ((jB jZ).getD 1 (.Pass ⟨0,0,0,0⟩))) t} :=
 have nd:=scChoices.nd
 ⟨_,(jC (jAN (je_bm bb dm dn jAQ (kE jAH (jv 1 rfl vL) (kE kQ (kE kQ (jv 3 rfl vL) (je_int) jP) (je_int) jP) jOW) (j3 (yD (j3 (jv 2 rfl vL) (j3 (CM.je hr gD (j3 (kE kQ (jv 3 rfl vL) (je_int) jP) j6 kW) kW) j6 jJ) j4)) j6 jB8) jB8) jN))⟩
def jLG (T:Txt mg)(CM:Can P w K mg base "mask_of" 1 fM fdM ["lot"] jEO)(hr:Room 1 (XOf jAY "choices_of" jZ P w K mg base f cdv A outer s H0 E).A): { t:TS // JSs (XOf jAY "choices_of" jZ P w K mg base f cdv A outer s H0 E) (jB jZ) t} :=
 have nd:=scChoices.nd
 ⟨_,(j9 (jNX (i:=1) nd rfl lL ⟨by rfl⟩ (m:=[none,some 0]) (Nc:=["thing","box"]) rfl (jA6 gD T.range (j3 (kE kQ (jv 0 rfl vC) (je_int) jP) j6 kW) kW) rfl (by decide+kernel) (by decide+kernel) (kT (psc:=j7 jZ) (by decide+kernel)) (jR (N:=jAY) rfl rfl (by decide+kernel)) (fun cl C fp s H=>jG (i:=0) (show (["thing","box"]:List Str).Nodup by decide+kernel) rfl (yM (by decide+kernel))) (fun cl C fp s H=>kS) (fun cl C fp s H=>(jPY (jW jIR (jv 0 rfl (jX (by decide+kernel))) (kE jBT (jv 1 rfl (y6 (by decide+kernel))) (je_int) jP) jLZ) (kL (j3 (yD (j3 (je_un jI1 (je_int)) (j3 (jL jIP (je_int) (jv 0 rfl (jX (by decide+kernel)))) j6 kX) se_un)) j6 jB8)) (kL j6))) kI) (j9 (yB bB rfl (jO1 gD T.enumerate (j3 (kE kQ (jv 0 rfl vC) (je_int) jP) j6 kW) kW) (jCR (i:=2) (j:=3) nd rfl rfl (by decide+kernel) (by decide+kernel)) (jOD T CM hr).2 kI) (jC (jV (jv 1 rfl vL)))))⟩
noncomputable abbrev nFull:List Str:=["choices"]
theorem scFull:FnScope nFull ["choices"] (j7 sFull):=⟨rfl,rfl,rfl,by decide+kernel,rfl,by decide+kernel,by decide+kernel⟩
def jCD:Sp:=fun vs H Q _=>∃ (L:Addr) (ch:Ch),vs=[.ref L]/\ChAt H L ch/\ch.length<=16/\Q (.int ((fullN ch:Nat):Int)) H
def fullA (T:Txt mg): { t:TS // JSs (XOf nFull "full_mask" sFull P w K mg base f cdv A outer s H0 E) (jB sFull) t} :=
 have nd:=scFull.nd
 ⟨_,(jC (jV (jL jD6 (jL jIP (je_int) (jI jA0 gD T.len (by decide+kernel) (j3 (jv 0 rfl vL) j6 j4) j4)) (je_int))))⟩
noncomputable abbrev nAt:List Str:=["choices","mask","least_lacked"]
theorem scAt:FnScope nAt ["choices","mask"] (j7 sAt):=⟨rfl,rfl,rfl,by decide+kernel,rfl,by decide+kernel,by decide+kernel⟩
def spAt:Sp:=fun vs H Q _=>∃ (L:Addr) (ch:Ch) (m:Nat),vs=[.ref L, .int (m:Int)]/\ChAt H L ch/\ChOk ch/\m<2 ^ ch.length/\m≠fullN ch/\∀ r H',RowAt H' r (chAt ch m)->Ext H H'->H r=none->Q (.ref r) H'
def atA (T:Txt mg): { t:TS // JSs (XOf nAt "choices_at" sAt P w K mg base f cdv A outer s H0 E) (jB sAt) t} :=
 have nd:=scAt.nd
 ⟨_,(j9 (jE (i:=2) nd rfl lL (jL jD6 (jM5 PySem.F.plainAttrs_int PySem.F.slot_int_bit_length PySem.F.type_int_bit_length jNP (jL jIS (je_un jOM (jv 1 rfl vC)) (jL kY (jv 1 rfl vC) (je_int)))) (je_int)) jBN)
   (jC (jV (kR (m:=[none,some 1]) (Nc:=["choice","mask"]) rfl (yC (kE jAH (jv 0 rfl vL) (jv 2 rfl vL) jAP)) rfl (by decide+kernel) (by decide+kernel) (kT (psc:=j7 sAt) (by decide+kernel)) (jR (N:=nAt) rfl rfl (by decide+kernel)) (fun cl C fp s H=>jG (i:=0) (show (["choice","mask"]:List Str).Nodup by decide+kernel) rfl (yM (by decide+kernel))) (fun cl C fp s H=>jJ8 (jW op_eq (jL jIS (kE jBT (jv 0 rfl (jX (by decide+kernel))) (je_int) jP) (jv 1 rfl (y6 (by decide+kernel)))) (je_int) (jQ _))) (fun cl C fp s H=>(jv 0 rfl (jX (by decide+kernel)))) jM7))))⟩
theorem jDO (ms:List Int)(pcs:List (List Int×Int))(t:Nat):yF ms pcs 0 t=if (t:Int)∈ms then [(-1,2 ^ t)] else []:=by
 unfold yF
 rw[gX]
 simp
theorem jK2 {w n:Nat}{ms:List Int}{pcs:List (List Int×Int)}(hn:n<pcs.length)(t:Nat)(ht:(j5 pcs (n:Int)).headD 0=(t:Int)):chsN w ms pcs (n+1)=(chsN w ms pcs n).set t (yF ms pcs n t++[((n:Int),maskN (j5 pcs n))]):=by
 have key:∀ u,yF ms pcs (n+1) u=yF ms pcs n u++if u=t then [((n:Int),maskN (j5 pcs n))] else []:=fun u=>by
  unfold yF
  rw[jI0 hn,cV,aK,aE]
  congr 2
  rw[gt,ht]
  by_cases hu:u=t
  ·subst hu
   rw[ag (aG rfl),ag rfl]
   rfl
  ·rw[af (by rw[bf]; omega),af hu]
   rfl
 refine dI fun i=>?_
 rw[fQ,kP]
 by_cases hi:i<w
 ·rw[jA8 hi,jA8 hi,key]
  by_cases h:t=i
  ·subst h
   rw[ag rfl,ag rfl,ag hi]
  ·rw[af h,af (fun z=>h z.symm),bg]
 ·rw[cq (by rw[kP]; omega),cq (by rw[kP]; omega)]
  split
  ·rw[af (by omega)]
  ·rfl
theorem ChAt.app {H:Hp}{L:Addr}{ch:Ch}{t:Nat}{l:Addr}{ls:List Addr}{vs:List V}{cs:List (Int×Nat)}{v:V}{c:Int×Nat}(hL:H L=some (.lst (ls.map V.ref)))(nd:ls.Nodup)(al:All2 (RowAt H) ls ch)(hl:ls[t]?=some l)(hc:ch[t]?=some cs)(hv:H l=some (.lst vs))(av:All2 (PrAt H) vs cs)(pv:PrAt H v c)(ne:l≠L):
  (L2.upd H l (.lst (vs++[v]))) L=some (.lst (ls.map V.ref))/\All2 (RowAt (L2.upd H l (.lst (vs++[v])))) ls (ch.set t (cs++[c])):=by
 have tu:Tups H (L2.upd H l (.lst (vs++[v]))):=Tups.upd hv _
 refine⟨by rw[jA ne.symm]; exact hL,?_⟩
 refine All2.of_get (by rw[List.length_set]; exact al.len) fun i a b h1 h2=>?_
 rw[fQ] at h2
 by_cases hi:t=i
 ·subst hi
  rw[ag rfl,ag (ae.mp hc).1] at h2
  cases h2
  rw[hl] at h1
  cases h1
  exact⟨_,j8,(av.imp fun _ _=>PrAt.mono tu).snoc (pv.mono tu)⟩
 ·rw[af hi] at h2
  obtain⟨b',hb',r⟩:=al.get' h1
  rw[h2] at hb'
  cases hb'
  refine r.keep (fun xs hx=>?_) tu
  rw[jA fun z=>hi ?_]
  ·exact hx
  ·exact(List.getElem?_inj (ae.mp hl).1 nd).mp (by rw[hl,h1,z])
theorem jHK {fd:FuncData}(F:Fun K "choices_of" "choices_of" jZ f fd)(T:Txt mg)(CM:Can P w K mg base "mask_of" 1 fM fdM ["lot"] jEO):FnOk P w K mg base CX0 2 f fd ["box"] jA9:=by
 refine F.ok scChoices (fun vs H Q E h=>?_) (fun cdv A outer s H vs Q E hr h=>?_)
 ·obtain⟨_,_,_,_,rfl,_⟩:=h
  rfl
 ·obtain⟨b,w,ms,pcs,rfl,hB,g,q⟩:=h
  refine⟨_,(jLG T CM hr).2.h,?_⟩
  obtain⟨qm,qp,ps,b1,b2,b3,b4⟩:=id hB.ex
  have pl:=b4.len
  have w0:=g.w0
  have w1:=g.w1
  have gpl:=g.pl
  refine⟨_,rfl,b,_,0,_,rfl,rfl,SqT.of b1,rfl,w,rfl,by omega,by omega,jEB (n:=w.toNat) (by rw[aI]; omega) (fun D i σ' H' zs=>(∃ v,σ'=[v,some (.ref b)])/\Ext H H'/\H' D=some (.lst zs)/\H D=none/\∃ ls:List Addr,zs=ls.map V.ref/\ls.Nodup/\D∉ls/\(∀ a∈ls,H a=none)/\All2 (RowAt H') ls ((List.range i).map (yF ms pcs 0))) ?_ ?_ ?_ ?_⟩
  ·intro D hD
   exact⟨⟨_,rfl⟩,(Ext.refl _).new hD _,j8,hD,[],rfl,eM,by simp,by simp,trivial⟩
  ·rintro D i σ' H' zs hD hi ⟨_,e,h2,_,ls,rfl,_,_,_,al⟩
   refine⟨h2,?_⟩
   rw[aa,al.len,aa,dh]
   omega
  ·rintro D i σ' H' zs hD hi ⟨⟨v,rfl⟩,e,h2,hn,ls,rfl,nd,hDl,nol,al⟩
   dsimp only [kO,yJ]
   rw[ag rfl]
   have e0:(0+(i:Int))=(i:Int):=by omega
   have key:∀ (l:Addr) (H2:Hp),Ext H' H2->H' l=none->RowAt H2 l (yF ms pcs 0 i)->H2 D=some (.lst (ls.map V.ref))/\((∃ v,[some (V.int (i:Int)),some (.ref b)]=[v,some (.ref b)])/\Ext H (L2.upd H2 D (.lst (ls.map V.ref++[.ref l])))/\(L2.upd H2 D (.lst (ls.map V.ref++[.ref l]))) D=some (.lst (ls.map V.ref++[.ref l]))/\H D=none/\∃ ls':List Addr,ls.map V.ref++[.ref l]=ls'.map V.ref/\ls'.Nodup/\D∉ls'/\(∀ a∈ls',H a=none)/\All2 (RowAt (L2.upd H2 D (.lst (ls.map V.ref++[.ref l])))) ls' ((List.range (i+1)).map (yF ms pcs 0))):=fun l H2 e2 nl rl=>by
    have hD2:=e2 _ _ h2
    have lD:l≠D:=fun z=>by rw[z,h2] at nl; cases nl
    have tu:Tups H2 (L2.upd H2 D (.lst (ls.map V.ref++[.ref l]))):=Tups.upd hD2 _
    have kp:∀ a xs,a≠D->H2 a=some (.lst xs)->(L2.upd H2 D (.lst (ls.map V.ref++[.ref l]))) a=some (.lst xs):=fun a xs ha h=>by rw[jA ha]; exact h
    refine⟨hD2,⟨_,rfl⟩,(e.trans e2).updNew hn _,j8,hn,ls++[l],by rw[aK]; rfl,?_,?_,?_,?_⟩
    ·rw[df]
     refine⟨nd,by simp,fun a ha b hb z=>?_⟩
     rw[ay] at hb
     subst hb z
     obtain⟨j,hj⟩:=cw ha
     obtain⟨cs,_,vs,r,_⟩:=al.get' hj
     rw[nl] at r
     cases r
    ·rw[ax,ay]
     rintro (z | z)
     ·exact hDl z
     ·exact lD z.symm
    ·intro a ha
     rcases ax.mp ha with z | z
     ·exact nol a z
     ·rw[ay] at z
      subst z
      cases y:H a with
      | none=>rfl
      | some o=>rw[e _ _ y] at nl; cases nl
    ·rw[eg,aK]
     refine(All2.of_get al.len fun j a c h1 h2'=>?_).snoc (rl.keep (fun xs=>kp l xs lD) tu)
     obtain⟨c',hc',r⟩:=al.get' h1
     rw[h2'] at hc'
     cases hc'
     have aD:a≠D:=fun z=>hDl (z ▸ ao h1)
     exact r.keep (fun xs hx=>kp a xs aD (e2 _ _ hx)) (e2.tups.trans tu)
   refine⟨_,rfl,_,rfl,b,_,1,_,rfl,rfl,SqT.of (e _ _ b1),rfl,qm,_,rfl, .inr (SqT.of (e _ _ b2)),rfl,jAS ms,_,rfl,?_⟩
   rw[e0,jH1]
   refine ite2 (fun hz=>?_) (fun hz=>?_)
   ·have hz:=aO hz
    refine⟨_,rfl,_,rfl,_,_,rfl,rfl,⟨by omega,by omega,by decide⟩,by show (2:Nat)<=_; decide,fun r H2 d2 e2=>⟨by show (1:Nat)<=_; decide,fun l H3 d3 e3 n3=>?_⟩⟩
    have nl:H' l=none:=by
     cases z:H' l with
     | none=>rfl
     | some o=>rw[e2 _ _ z] at n3; cases n3
    refine key l H3 (e2.trans e3) nl ⟨_,d3,?_⟩
    rw[jDO,ag hz]
    refine⟨⟨r,rfl,?_⟩,trivial⟩
    have:(1:Int)*2 ^ (i:Int).toNat=((2 ^ i:Nat):Int):=by
     rw[aS]
     push_cast
     omega
    rw[e3 _ _ d2]
    show some (HO.tup [V.int (-1),V.int ((1:Int)*2 ^ (i:Int).toNat)])=_
    rw[this]
   ·refine⟨by show (0:Nat)<=_; decide,fun l H3 d3 e3 n3=>?_⟩
    refine key l H3 e3 n3 ⟨_,d3,?_⟩
    rw[jDO,af (fun z=>hz (aG z))]
    trivial
  ·rintro D σ' H1 zs hD ⟨_,e1,h2,hn,ls,rfl,nd,hDl,nol,al⟩
   refine⟨_,rfl,b,_,2,_,rfl,rfl,SqT.of (e1 _ _ b1),rfl,true,qp,rfl,⟨_,SqT.of (e1 _ _ b3)⟩,jL9 (tp:=true) (xs:=ps) (fun i σ H'=>(∃ v2 v3,σ=[some (.ref b),some (.ref D),v2,v3])/\Ext H H'/\H' D=some (.lst (ls.map V.ref))/\All2 (RowAt H') ls (chsN w.toNat ms pcs i)) ⟨⟨_,_,rfl⟩,e1,h2,al⟩ (fun i σ H' ⟨_,e,_⟩=>SqT.of (e _ _ b3)) ?_ ?_⟩
   ·rintro i x t σ H' hx ht ⟨⟨v2,v3,rfl⟩,e,h3,al3⟩
    obtain⟨pc,hpc,hPc⟩:=b4.at hx
    obtain⟨pa,pq,rfl,c1,c2⟩:=id hPc
    have hi:i<pcs.length:=(ae.mp hpc).1
    have gp:=g.pg pc (ao hpc)
    have et:j5 pcs (i:Int)=pc.1:=by
     unfold j5
     rw[aS,aB,hpc]
     rfl
    have lt:=jBF _ 0 w gp.lot.ris gp.lot.bnd
    have e':=e.new ht (.tup [.int (i:Int), .ref pa])
    have k':Ext H' (L2.upd H' t (.tup [.int (i:Int), .ref pa])):=(Ext.refl _).new ht _
    refine⟨t,_,rfl,SqT.of j8,rfl,_,_,rfl,_,_,rfl,rfl,?_⟩
    have h5:=k' _ _ h3
    have al5:=al3.imp fun l cs r=>r.keep (fun xs z=>k' _ _ z) k'.tups
    generalize L2.upd H' t (.tup [.int (i:Int), .ref pa])=H5 at e' h5 al5 ⊢
    obtain⟨hd,tl,hp1⟩:∃ hd tl,pc.1=hd::tl:=by
     cases z:pc.1 with
     | nil=>exact absurd z gp.lot.ne
     | cons a r=>exact⟨a,r,rfl⟩
    have hb:=gp.lot.bnd hd (by rw[hp1]; exact aH ..)
    have hdl:(j5 pcs (i:Int)).headD 0=((hd.toNat:Nat):Int):=by
     rw[et,hp1]
     show hd=_
     omega
    have hw:hd.toNat<w.toNat:=by omega
    obtain⟨l,hl,vs,hv,av⟩:=al5.get (jA8 hw)
    have lne:l≠D:=fun z=>hDl (z ▸ ao hl)
    have iD:atI (ls.map V.ref) hd=some (.ref l):=by
     have:=kU (xs:=ls.map V.ref) (j:=hd.toNat) (v:= .ref l) (by rw[aA,hl]; rfl)
     rwa [show ((hd.toNat:Nat):Int)=hd by omega] at this
    have c2':H5 pq=some (.tup (pc.1.map V.int)):=e' _ _ c2
    refine⟨_,rfl,_,rfl,pa,_,0,_,rfl,rfl,SqT.of (e' _ _ c1),rfl,pq,_,0, .int hd,rfl,rfl,SqT.of c2',by rw[hp1]; exact kU (j:=0) rfl,D,_,_,_,rfl,rfl,SqL.of h5,iD, .inl ⟨rfl,_,SqL.of hv⟩,_,rfl,_,rfl,pa,_,0,_,rfl,rfl,SqT.of (e' _ _ c1),rfl,pq,pc.1,rfl,c2',fun x hx=>?_,by omega,fun H6 e6=>?_⟩
    ·have:=gp.lot.bnd x hx
     omega
    refine⟨by show (2:Nat)<=_; decide,fun r H7 d7 e7=>?_⟩
    have E7:=e6.trans e7
    have hv7:=E7 _ _ hv
    have vl:vs.length<=33:=by
     rw[av.len]
     exact(jBV g).len _ _ (jA8 hw)
    have ap:=ChAt.app (v:= .ref r) (c:=((i:Int),maskN (j5 pcs (i:Int)))) (E7 _ _ h5) nd (al5.imp fun l cs r=>r.keep (fun xs z=>E7 _ _ z) E7.tups) hl (jA8 hw) hv7 (av.imp fun _ _=>PrAt.mono E7.tups) ⟨r,rfl,by rw[et]; exact d7⟩ lne
    have nH:H l=none:=by
     cases z:H l with
     | none=>rfl
     | some o=>
      exfalso
      rw[nol l (ao hl)] at z
      cases z
    refine⟨l,_,_,rfl,rfl,hv7,by rw[aI]; omega,⟨_,_,rfl⟩,?_,ap.1,?_⟩
    ·exact(e'.trans E7).updNew nH _
    ·rw[jK2 hi hd.toNat hdl]
     exact ap.2
   ·rintro σ H' ⟨⟨v2,v3,rfl⟩,e,h3,al3⟩
    refine⟨_,rfl,q D H' ⟨ls,h3,nd,?_⟩ e⟩
    rw[pl] at al3
    exact al3
theorem jNK {fd:FuncData}(F:Fun K "full_mask" "full_mask" sFull f fd)(T:Txt mg):FnOk P w K mg base CX0 1 f fd ["choices"] jCD:=by
 refine F.ok scFull (fun vs H Q E h=>?_) (fun cdv A outer s H vs Q E hr h=>?_)
 ·obtain⟨_,_,rfl,_⟩:=h
  rfl
 ·obtain⟨L,ch,rfl,hL,hw,q⟩:=h
  refine⟨_,(fullA T).2.h,?_⟩
  obtain⟨ls,h1,h2⟩:=hL.len
  refine⟨_,rfl,L,_,rfl, .inl (SqL.of h1),_,_,rfl,rfl,⟨?_,?_,?_⟩,_,_,rfl,rfl,?_⟩
  ·first | omega | decide
  ·rw[aa]; omega
  ·first | omega | decide
  ·have e:(1:Int)*2 ^ (((ls.map V.ref).length:Nat):Int).toNat - 1=((fullN ch:Nat):Int):=by
    rw[aa,h2,aS]
    unfold fullN
    have:=cQ ch.length
    have e2:((2 ^ ch.length:Nat):Int)=(2:Int) ^ ch.length:=by push_cast; rfl
    omega
   show Q (V.int ((1:Int)*2 ^ (((ls.map V.ref).length:Nat):Int).toNat - 1)) H
   rw[e]
   exact q
theorem ok_at {fd:FuncData}(F:Fun K "choices_at" "choices_at" sAt f fd)(T:Txt mg):FnOk P w K mg base CX0 1 f fd ["choices","mask"] spAt:=by
 refine F.ok scAt (fun vs H Q E h=>?_) (fun cdv A outer s H vs Q E hr h=>?_)
 ·obtain⟨_,_,_,rfl,_⟩:=h
  rfl
 ·obtain⟨L,ch,m,rfl,hL,ok,hm,hf,q⟩:=h
  refine⟨_,(atA T).2.h,?_⟩
  obtain⟨ls,h1,nd,al⟩:=hL.ex
  have hlow:=jBR hm hf
  have w16:=ok.w
  refine⟨_,rfl,_,rfl,_,rfl,_,_,rfl,rfl,_,_,rfl,rfl,rfl,_,rfl,rfl,_,_,rfl,rfl,?_⟩
  have el:(Builtin.Int.intBits (Builtin.bitAnd (Builtin.bitNot (m:Int)) ((m:Int)+1)):Int) - 1=((lowN m:Nat):Int):=by
   rw[jKY]
   omega
  show kO 2 (V.int ((Builtin.Int.intBits (Builtin.bitAnd (Builtin.bitNot (m:Int)) ((m:Int)+1)):Int) - 1)) _ _ _
  rw[el]
  obtain⟨l,hl,vs,hv,av⟩:=al.get (aj hlow)
  have vl:vs.length<=33:=by
   rw[av.len]
   exact ok.len _ _ (aj hlow)
  have er:ch.getD (lowN m) []=ch[lowN m]:=by
   rw[aB,aj hlow]
   rfl
  refine⟨_,rfl,_,rfl,L,_,_,_,rfl,rfl,SqL.of h1,kU (by rw[aA,hl]; rfl),l,rfl,⟨_,SqL.of hv⟩,jB5 (xs:=vs) (fun σ=>∃ v,σ=[v,some (.int (m:Int))]) (fun H' zs j=>All2 (PrAt H') zs (((ch[lowN m]).take j).filter fun c=>c.2&&&m==0)) ⟨fun H=>trivial,fun H H' zs j t h=>h.imp fun _ _=>PrAt.mono t,fun H zs j h=>?_⟩ hv (by rw[aI]; omega) ⟨_,rfl⟩ ?_ ?_⟩
  ·rw[h.len]
   exact bD (cY _ _) (cF _ _)
  ·rintro j x σ' H' zs hx ⟨v,rfl⟩ e hz R S yes no
   obtain⟨c,hc,qa,rfl,hq⟩:=av.get' hx
   have hq':=e _ _ hq
   have et:(ch[lowN m]).take (j+1)=(ch[lowN m]).take j++[c]:=by
    rw[bo,hc]
    rfl
   refine⟨_,rfl,qa,_,1,_,rfl,rfl,SqT.of hq',rfl,_,rfl,_,_,rfl,rfl,rfl,_,rfl,?_⟩
   have ez:decide (V.int (Builtin.bitAnd ((c.2:Nat):Int) (m:Int))=V.int 0)=(c.2&&&m==0):=by
    rw[jC9,bJ,bf,hZ]
    exact⟨fun h=>by have:=V.int.inj h; omega,fun h=>by rw[h]; rfl⟩
   show if decide (V.int (Builtin.bitAnd ((c.2:Nat):Int) (m:Int))=V.int 0)=true then _ else _
   rw[ez]
   refine ite2 (fun h=>?_) (fun h=>?_)
   ·refine⟨_,rfl,yes _ _ _ ⟨_,rfl⟩ (Ext.refl _) ?_⟩
    show All2 _ _ (((ch[lowN m]).take (j+1)).filter _)
    rw[et,cV,gt,ag h]
    exact hz.snoc ⟨qa,rfl,hq'⟩
   ·refine no _ _ ⟨_,rfl⟩ (Ext.refl _) ?_
    show All2 _ _ (((ch[lowN m]).take (j+1)).filter _)
    rw[et,cV,gt,af h,gJ,bg]
    exact hz
  ·rintro D H' zs hD e hn hz
   rw[av.len,bI] at hz
   refine q D H' ⟨zs,hD,?_⟩ e hn
   unfold chAt
   rw[er]
   exact hz
end
end Eo
end
section
namespace L2
open PySem
theorem jI9 {ks:List (Option Expr)}{vs:List Expr}{pos:Pos}{o:Option Expr} :SwOk (.Dict ks vs pos) o:=⟨fun _ _=>rfl⟩
end L2
namespace Eo
open PySem L2
abbrev natV (n:Nat):V:= .int (n:Int)
structure MetOk (ch:Ch)(ns:List Nat):Prop where
 zero:0∈ns
 bnd:∀ m∈ns,m<2 ^ ch.length
 up:∀ m∈ns,m≠fullN ch->∀ c∈chAt ch m,(m|||c.2)∈ns
def trK (ks:List Nat):List (Key×V):=ks.map fun (k:Nat)=>(Sum.inl (k:Int),V.bl true)
def jMH:Stmt->List Stmt
 | .While _ b _ _=>b
 | _=> []
theorem jFL (n:Nat):∀ ks:List Nat,valV (trK ks) (.inl (n:Int))=if n∈ks then some (.bl true) else none
 | []=>rfl
 | k::ks=>by
  show valV ((Sum.inl (k:Int),V.bl true)::trK ks) _=_
  by_cases h:k=n
  ·subst h
   rw[jBK rfl,ag (aH ..)]
  ·rw[jAV (by intro z; have:=gO z; omega),jFL n ks]
   by_cases h2:n∈ks
   ·rw[ag h2,ag (aq _ h2)]
   ·rw[af h2,af]
    intro z
    rcases aR.mp z with z | z
    ·exact h z.symm
    ·exact h2 z
theorem jOB {H:Hp}{M:Addr}{ks:List Nat}{m c:Nat}(h:H M=some (.dK (trK ks))):DGet H M (.int (Builtin.bitOr (m:Int) (c:Int))) (if (m|||c)∈ks then some (.bl true) else none):=by
 rw[jAE,<- jFL]
 exact DGet.k (k:=Sum.inl (((m|||c:Nat):Nat):Int)) h
theorem jOA {H:Hp}{M:Addr}{ks:List Nat}{m c:Nat}(h:H M=some (.dK (trK ks)))(hn:¬ (m|||c)∈ks)(hl:(trK ks).length<sizeLine):DPut H M (.int (Builtin.bitOr (m:Int) (c:Int))) (.bl true) (L2.upd H M (.dK (trK (ks++[m|||c])))):=by
 rw[jAE]
 have:=DPut.k (k:=Sum.inl (((m|||c:Nat):Nat):Int)) (v:= .bl true) h hl
 rw[jGM _ (by rw[jFL,af hn])] at this
 unfold trK
 rw[aK]
 exact this
theorem jAL {n:Nat}{ks:List Nat}(nd:ks.Nodup)(hb:∀ k∈ks,k<n):ks.length<=n:=by
 have:(ks.map fun k:Nat=>(k:Int)).length<=n:=jIW n _ (cC.mpr (nd.imp fun h=>by omega)) fun t ht=>by
  obtain⟨k,hk,rfl⟩:=aN.mp ht
  have:=hb k hk
  omega
 rwa [aa] at this
section
variable {P:Program}{w:World}{K:W.Frag}{mg:Str->Option Value}{base:Heap}
variable {f fF fA:Addr}{fdF fdA:FuncData}{cdv:Value}{A:Around}{outer:List Env}{s:Shared}{H0:Hp}{E:XK}
noncomputable abbrev nMet:List Str:=["choices","full","met","waiting","mask","number","more"]
theorem scMet:FnScope nMet ["choices"] (j7 sMet):=⟨rfl,rfl,rfl,by decide+kernel,rfl,by decide+kernel,by decide+kernel⟩
def spMet:Sp:=fun vs H Q _=>∃ (L:Addr) (ch:Ch),vs=[.ref L]/\ChAt H L ch/\ChOk ch/\∀ (r:Addr) (ns:List Nat) (H':Hp),H' r=some (.lst (ns.map natV))->ns.Pairwise (· > ·)->MetOk ch ns->Ext H H'->H r=none->Q (.ref r) H'
def jGV (T:Txt mg)(CA:Can P w K mg base "choices_at" 1 fA fdA ["choices","mask"] spAt)(hr:Room 1 (XOf nMet "masks_met" sMet P w K mg base f cdv A outer s H0 E).A): { t:TS // JSs (XOf nMet "masks_met" sMet P w K mg base f cdv A outer s H0 E) (jMH ((jB sMet).getD 3 (.Pass ⟨0,0,0,0⟩))) t} :=
 have nd:=scMet.nd
 ⟨_,(j9 (jE (i:=4) nd rfl lL (jM5 bb PySem.F.slot_list_pop PySem.F.type_list_pop jPK (jv 3 rfl vL)) jN)
   (jC (yI (jW op_ne (jv 4 rfl vL) (jv 1 rfl vL) (jQ _)) (jC (yB bB rfl (yC (CA.je hr gD (j3 (jv 0 rfl vL) (j3 (jv 4 rfl vL) j6 j4) j4) j4)) (jCR (i:=5) (j:=6) nd rfl rfl (by decide+kernel) (by decide+kernel)) (jC (yI (jJB (hu_of hr) (jL op_or (jv 4 rfl vL) (jv 6 rfl vL)) (jv 2 rfl vL) rfl) (j9 (jFY (hu_of hr) (jv 2 rfl vL) (jL op_or (jv 4 rfl vL) (jv 6 rfl vL)) (je_bl) jAX)
   (jC (jAN (je_bm bb dm dn jAQ (jv 3 rfl vL) (j3 (jL op_or (jv 4 rfl vL) (jv 6 rfl vL)) j6 kX) kX) jN))) kG)) kI)) kG)))⟩
def metA (T:Txt mg)(CF:Can P w K mg base "full_mask" 1 fF fdF ["choices"] jCD)(CA:Can P w K mg base "choices_at" 1 fA fdA ["choices","mask"] spAt)(hr:Room 1 (XOf nMet "masks_met" sMet P w K mg base f cdv A outer s H0 E).A): { t:TS // JSs (XOf nMet "masks_met" sMet P w K mg base f cdv A outer s H0 E) (jB sMet) t} :=
 have nd:=scMet.nd
 ⟨_,(j9 (jE (i:=1) nd rfl lL (CF.je (hr.mono (by decide)) gD (j3 (jv 0 rfl vL) j6 j4) j4) jN) (j9 (jE (i:=2) nd rfl lL (jL2) jI9) (j9 (jE (i:=3) nd rfl lL (kL (j3 (je_int) j6 jK)) jBM) (j9 (jGY bB (jW op_gt (jI jA0 gD T.len (by decide+kernel) (j3 (jv 3 rfl vL) j6 j4) j4) (je_int) (jQ _)) (jGV T CA hr).2) (jC (jV (jJC (jEE rfl) gD T.sorted (by decide+kernel) (j3 (jv 2 rfl vL) j6 j4) (jO0 je_bl jPU) j4)))))))⟩
theorem jKU (T:Txt mg)(CA:Can P w K mg base "choices_at" 1 fA fdA ["choices","mask"] spAt)(hr:Room 1 (XOf nMet "masks_met" sMet P w K mg base f cdv A outer s H0 E).A)
  {D:Ends}{H:Hp}{L M W:Addr}{ch:Ch}{ks ws:List Nat}{m:Nat}{v4 v5 v6:Option V}(hL:ChAt H L ch) (ok:ChOk ch) (hM:H M=some (.dK (trK ks))) (hW:H W=some (.lst ((ws++[m]).map natV))) (nd:ks.Nodup) (hb:∀ k∈ks,k<2 ^ ch.length) (hm:m∈ks) (wln:ws.length<=ks.length)
  (nx:∀ (H':Hp) (new:List Nat) (v4 v5 v6:Option V),(∀ b o,H b=some o->b≠M->b≠W->H' b=some o)->H' M=some (.dK (trK (ks++new)))->H' W=some (.lst ((ws++new).map natV))->(ks++new).Nodup->(∀ k∈ks++new,k<2 ^ ch.length)->(m≠fullN ch->∀ c∈chAt ch m,(m|||c.2)∈ks++new)->D.nx [some (.ref L),some (natV (fullN ch)),some (.ref M),some (.ref W),v4,v5,v6] H'):
  (jGV T CA hr).1 D [some (.ref L),some (natV (fullN ch)),some (.ref M),some (.ref W),v4,v5,v6] H:=by
 have MW:M≠W:=fun z=>by rw[z,hW] at hM; cases hM
 have LW:∀ ls:List Addr,H L=some (.lst (ls.map V.ref))->L≠W:=fun ls h z=>by
  rw[z,hW] at h
  have h:=HO.lst.inj (aW h)
  have h2:natV m∈ls.map V.ref:=by rw[<- h]; simp
  obtain⟨a,_,ha⟩:=aN.mp h2
  cases ha
 have rw':∀ l cs,RowAt H l cs->l≠W:=fun l cs ⟨vs,h1,h2⟩ z=>by
  rw[z,hW] at h1
  have h1:=HO.lst.inj (aW h1)
  have h3:vs[ws.length]?=some (natV m):=by rw[<- h1]; simp
  obtain⟨_,_,q,e,_⟩:=h2.get' h3
  cases e
 have w16:=ok.w
 have hm2:=hb m hm
 have wl:((ws++[m]).map natV)[((ws++[m]).map natV).length - 1]?=some (natV m):=by
  rw[aa,ar,aA,aX (by simp)]
  simp
 have dl:((ws++[m]).map natV).dropLast=ws.map natV:=by
  rw[aK]
  simp
 refine⟨_,rfl, .inl ⟨rfl,_,SqL.of hW⟩,W,_,_,rfl,rfl,hW,wl,?_⟩
 rw[dl]
 have hM1:(L2.upd H W (.lst (ws.map natV))) M=some (.dK (trK ks)):=by rw[jA MW]; exact hM
 have hW1:(L2.upd H W (.lst (ws.map natV))) W=some (.lst (ws.map natV)):=j8
 have k1:∀ b o,H b=some o->b≠W->(L2.upd H W (.lst (ws.map natV))) b=some o:=fun b o h n=>by rw[jA n]; exact h
 have hL1:ChAt (L2.upd H W (.lst (ws.map natV))) L ch:=by
  obtain⟨ls,a1,a2,a3⟩:=hL.ex
  exact⟨ls,k1 _ _ a1 (LW _ a1),a2,a3.imp fun l cs r=>r.keep (fun xs z=>k1 _ _ z (rw' _ _ r)) (Tups.upd hW _)⟩
 generalize L2.upd H W (.lst (ws.map natV))=H1 at hM1 hW1 k1 hL1
 refine⟨_,rfl,_,rfl,rfl,_,rfl,?_⟩
 have nf:(!decide (natV m=natV (fullN ch)))=true↔m≠fullN ch:=by
  rw[dH,cx]
  refine not_congr ⟨fun h=>?_,fun h=>by rw[h]⟩
  have:=V.int.inj h
  omega
 refine ite2 (fun h=>?_) (fun h=>?_)
 ·have h:=nf.mp h
  refine⟨_,rfl,_,rfl,L,ch,m,rfl,hL1,ok,hm2,h,fun r H2 ⟨vs,hr2,av⟩ e2 nr=>?_⟩
  have hM2:=e2 _ _ hM1
  have hW2:=e2 _ _ hW1
  have rW:r≠W:=fun z=>by rw[z,hW1] at nr; cases nr
  have rM:r≠M:=fun z=>by rw[z,hM1] at nr; cases nr
  refine⟨r,rfl,⟨_,SqL.of hr2⟩,jBU (xs:=vs) (fun i σ H'=>(∃ v5 v6,σ=[some (.ref L),some (natV (fullN ch)),some (.ref M),some (.ref W),some (natV m),v5,v6])/\(∀ b o,H2 b=some o->b≠M->b≠W->H' b=some o)/\∃ new:List Nat,H' M=some (.dK (trK (ks++new)))/\H' W=some (.lst ((ws++new).map natV))/\(ks++new).Nodup/\(∀ k∈ks++new,k<2 ^ ch.length)/\∀ c∈(chAt ch m).take i,(m|||c.2)∈ks++new) ⟨⟨_,_,rfl⟩,fun b o h _ _=>h,[],by rw[bg]; exact hM2,by rw[bg]; exact hW2,by rw[bg]; exact nd,by rw[bg]; exact hb,fun c hc=>by cases hc⟩ (fun i σ H' _ ⟨_,k,_⟩=>SqL.of (k _ _ hr2 rM rW)) ?_ ?_⟩
  ·rintro i x σ H' hx ⟨⟨v5,v6,rfl⟩,k,new,hM',hW',nd',hb',cl⟩
   obtain⟨c,hc,q,rfl,hq⟩:=av.get' hx
   have qM:q≠M:=fun z=>by rw[z,hM2] at hq; cases hq
   have qW:q≠W:=fun z=>by rw[z,hW2] at hq; cases hq
   have hcm:=ao hc
   obtain⟨u1,u2⟩:=ok.up hm2 h hcm
   have tk:(chAt ch m).take (i+1)=(chAt ch m).take i++[c]:=by rw[bo,hc]; rfl
   refine⟨q,_,rfl,SqT.of (k _ _ hq qM qW),rfl,_,_,rfl,_,_,rfl,rfl,?_⟩
   refine⟨_,rfl,_,rfl,_,_,rfl,rfl,_,rfl,M,_,rfl,jOB hM',_,rfl,?_⟩
   by_cases hin:(m|||c.2)∈ks++new
   ·rw[ag hin]
    refine iteF ⟨⟨_,_,rfl⟩,k,new,hM',hW',nd',hb',fun c' hc'=>?_⟩
    rw[tk] at hc'
    rcases ax.mp hc' with z | z
    ·exact cl c' z
    ·rw[ay] at z
     rw[z]
     exact hin
   ·rw[af hin]
    have ndn:(ks++(new++[m|||c.2])).Nodup:=by
     rw[<- aE,df]
     refine⟨nd',by simp,fun a ha b hb z=>?_⟩
     rw[ay] at hb
     exact hin (hb ▸ z ▸ ha)
    have bdn:∀ k∈ks++(new++[m|||c.2]),k<2 ^ ch.length:=fun k hk=>by
     rw[<- aE] at hk
     rcases ax.mp hk with z | z
     ·exact hb' k z
     ·rw[ay] at z
      rw[z]
      exact u2
    have sz:(ks++(new++[m|||c.2])).length<=2 ^ 16:=bD (jAL ndn bdn) (bS (by decide) w16)
    rw[ar,ar] at sz
    have kl:(trK (ks++new)).length<sizeLine:=by
     unfold trK
     rw[aa,ar,aI]
     simp at sz
     omega
    refine iteT ⟨_,rfl,_,rfl,_,rfl,_,_,rfl,rfl,M,_,rfl,jOA hM' hin kl,?_⟩
    have hW3:(L2.upd H' M (.dK (trK (ks++new++[m|||c.2])))) W=some (.lst ((ws++new).map natV)):=by rw[jA MW.symm]; exact hW'
    have hM3:(L2.upd H' M (.dK (trK (ks++new++[m|||c.2])))) M=some (.dK (trK (ks++(new++[m|||c.2])))):=by rw[j8,aE]
    have k3:∀ b o,H2 b=some o->b≠M->b≠W->(L2.upd H' M (.dK (trK (ks++new++[m|||c.2])))) b=some o:=fun b o hbo n1 n2=>by rw[jA n1]; exact k b o hbo n1 n2
    generalize L2.upd H' M (.dK (trK (ks++new++[m|||c.2])))=H3 at hW3 hM3 k3
    refine⟨_,rfl, .inl ⟨rfl,_,SqL.of hW3⟩,_,rfl,_,rfl,_,_,rfl,rfl,W,_,_,rfl,rfl,hW3,?_,⟨_,_,rfl⟩,fun b o hbo n1 n2=>by rw[jA n2]; exact k3 b o hbo n1 n2,new++[m|||c.2],by rw[jA MW]; exact hM3,?_,ndn,bdn,fun c' hc'=>?_⟩
    ·skip
     rw[aa,ar,aI]
     simp at sz
     omega
    ·rw[j8]
     show some (HO.lst ((ws++new).map natV++[V.int (Builtin.bitOr (m:Int) (c.2:Int))]))=_
     rw[jAE,<- aE]
     exact bQ (fun z=>some (HO.lst z)) (aK (f:=natV) (l₁:=ws++new) (l₂:=[m|||c.2])).symm
    ·rw[<- aE,ax]
     rw[tk] at hc'
     rcases ax.mp hc' with z | z
     ·exact .inl (cl c' z)
     ·rw[ay] at z
      rw[z]
      exact .inr (ay.mpr rfl)
  ·rintro σ H' ⟨⟨v5,v6,rfl⟩,k,new,hM',hW',nd',hb',cl⟩
   have:(chAt ch m).take vs.length=chAt ch m:=by rw[av.len,bI]
   rw[this] at cl
   exact nx H' new _ _ _ (fun b o hbo n1 n2=>k _ _ (e2 _ _ (k1 _ _ hbo n2)) n1 n2) hM' hW' nd' hb' fun _=>cl
 ·have h:m=fullN ch:=bF fun z=>h (nf.mpr z)
  exact nx H1 [] _ _ _ (fun b o hbo n1 n2=>k1 _ _ hbo n2) (by rw[bg]; exact hM1) (by rw[bg]; exact hW1) (by rw[bg]; exact nd) (by rw[bg]; exact hb) fun z=>absurd h z
theorem jPF {fd:FuncData}(F:Fun K "masks_met" "masks_met" sMet f fd)(T:Txt mg)(CF:Can P w K mg base "full_mask" 1 fF fdF ["choices"] jCD)(CA:Can P w K mg base "choices_at" 1 fA fdA ["choices","mask"] spAt):FnOk P w K mg base CX0 2 f fd ["choices"] spMet:=by
 refine F.ok scMet (fun vs H Q E h=>?_) (fun cdv A outer s H vs Q E hr h=>?_)
 ·obtain⟨_,_,rfl,_⟩:=h
  rfl
 ·obtain⟨L,ch,rfl,hL,ok,q⟩:=h
  refine⟨_,(metA T CF CA hr).2.h,?_⟩
  have w16:=ok.w
  refine⟨_,rfl,L,ch,rfl,hL,w16,?_⟩
  refine fun M H1 hM1 e1 nM=>?_
  refine⟨by show (1:Nat)<=_; decide,fun W H2 hW2 e2 nW=>?_⟩
  have hM2:=e2 _ _ hM1
  have nW0:H W=none:=by
   cases z:H W with
   | none=>rfl
   | some o=>rw[e1 _ _ z] at nW; cases nW
  have E2:=e1.trans e2
  have pz:(0:Nat)<2 ^ ch.length:=cQ _
  refine⟨fun n σ H'=>(∃ v4 v5 v6,σ=[some (.ref L),some (natV (fullN ch)),some (.ref M),some (.ref W),v4,v5,v6])/\Ext H H'/\∃ ks ws:List Nat,n=2*(2 ^ ch.length - ks.length)+ws.length/\H' M=some (.dK (trK ks))/\H' W=some (.lst (ws.map natV))/\ks.Nodup/\(∀ k∈ks,k<2 ^ ch.length)/\(∀ k∈ws,k∈ks)/\ws.length<=ks.length/\0∈ks/\∀ k∈ks,k∉ws->k≠fullN ch->∀ c∈chAt ch k,(k|||c.2)∈ks,⟨_,⟨_,_,_,rfl⟩,E2,[0],[0],rfl,hM2,hW2,by simp,fun k hk=>by rw[ay] at hk; omega,fun k hk=>hk,az _,by simp,fun k h1 h2=>absurd h1 h2⟩,?_⟩
  rintro n σ H' ⟨⟨v4,v5,v6,rfl⟩,e,ks,ws,rfl,hM',hW',nd,hb,sub,wl,z0,cl⟩
  refine⟨_,rfl,W,_,rfl, .inl (SqL.of hW'),_,_,rfl,rfl,_,rfl,?_⟩
  rcases List.eq_nil_or_concat ws with hws | ⟨ws',m,hws⟩
  ·subst hws
   refine iteF ?_
   have ksl:=jAL nd hb
   have p16:2 ^ ch.length<=2 ^ 16:=bS (by decide) w16
   refine⟨_,rfl,M,trK ks,ks.map fun k:Nat=>(k:Int),true,rfl,rfl,hM',by unfold trK; rw[bv,bv]; rfl,by rw[aa,aI]; omega,fun l ns hl ord pm=>?_⟩
   obtain⟨js,rfl⟩:∃ js:List Nat,ns=js.map fun k:Nat=>(k:Int):=by
    refine⟨ns.map Int.toNat,?_⟩
    rw[bv]
    refine(im ns).symm.trans (bx fun x hx=>?_)
    obtain⟨k,_,rfl⟩:=aN.mp (pm.mem_iff.mp hx)
    show ((k:Nat):Int)=(((k:Nat):Int).toNat:Int)
    omega
   have pm':js.Perm ks:=by
    have:=pm.map Int.toNat
    rw[bv,bv] at this
    have e:∀ l:List Nat,l.map (Int.toNat ∘ fun k:Nat=>(k:Int))=l:=fun l=>(bx fun x _=>by show ((x:Nat):Int).toNat=x; omega).trans (im l)
    rwa [e,e] at this
   refine q l js _ ?_ ?_ ⟨pm'.mem_iff.mpr z0,fun m hm=>hb m (pm'.mem_iff.mp hm),fun m hm hf c hc=>pm'.mem_iff.mpr (cl m (pm'.mem_iff.mp hm) (by simp) hf c hc)⟩ ((Ext.refl _).trans (e.new hl _)) ?_
   ·rw[j8,bv]
    rfl
   ·have nj:js.Nodup:=pm'.nodup_iff.mpr nd
    have:js.Pairwise (fun (a b:Nat)=>(b:Int)<=(a:Int)):=cC.mp ord
    exact(this.and nj).imp fun {a b} h=>by omega
   ·cases z:H l with
    | none=>rfl
    | some o=>rw[e _ _ z] at hl; cases hl
  ·have hws:ws=ws'++[m]:=by rw[hws,List.concat_eq_append]
   subst hws
   have lp:decide ((0:Int)<(((ws'++[m]).map natV).length:Int))=true:=by
    rw[bf,aa,ar]
    show (0:Int)<((ws'.length+1:Nat):Int)
    omega
   show if decide ((0:Int)<(((ws'++[m]).map natV).length:Int))=true then _ else _
   rw[ag lp]
   rw[ar] at wl
   refine⟨fun σ' H''=>(∃ v4 v5 v6,σ'=[some (.ref L),some (natV (fullN ch)),some (.ref M),some (.ref W),v4,v5,v6])/\Ext H H''/\∃ new:List Nat,H'' M=some (.dK (trK (ks++new)))/\H'' W=some (.lst ((ws'++new).map natV))/\(ks++new).Nodup/\(∀ k∈ks++new,k<2 ^ ch.length)/\(m≠fullN ch->∀ c∈chAt ch m,(m|||c.2)∈ks++new),?_,jKU T CA hr (ks:=ks) (ws:=ws') (m:=m) (hL.ext e) ok hM' hW' nd hb (sub m (by simp)) (by omega) ?_⟩
   ·rintro σ' H'' ⟨hσ,e',new,a1,a2,a3,a4,a5⟩
    have sl:=jAL a3 a4
    rw[ar] at sl
    refine⟨_,?_,hσ,e',ks++new,ws'++new,rfl,a1,a2,a3,a4,fun k hk=>?_,?_,aP _ z0,fun k hk hkw hf c hc=>?_⟩
    ·rw[ar,ar,ar]
     simp only [bq,dZ]
     omega
    ·rcases ax.mp hk with z | z
     ·exact aP _ (sub k (aP _ z))
     ·exact aJ _ z
    ·rw[ar,ar]
     omega
    ·by_cases hkm:k=m
     ·subst hkm
      exact a5 hf c hc
     ·rcases ax.mp hk with z | z
      ·refine aP _ (cl k z (fun y=>?_) hf c hc)
       rcases ax.mp y with y | y
       ·exact hkw (aP _ y)
       ·exact hkm (ay.mp y)
      ·exact absurd (aJ _ z) hkw
   ·intro H'' new v4 v5 v6 kp a1 a2 a3 a4 a5
    refine⟨⟨_,_,_,rfl⟩,fun b o hbo=>?_,new,a1,a2,a3,a4,a5⟩
    refine kp b o (e b o hbo) (fun z=>?_) fun z=>?_
    ·rw[z,nM] at hbo; cases hbo
    ·rw[z,nW0] at hbo; cases hbo
end
end Eo
end
section
namespace L2
open PySem
theorem jMJ {x:Str}{pos:Pos}{o:Option Expr} :SwOk (.Name x pos) o:=⟨fun _ _=>rfl⟩
end L2
namespace Eo
open PySem L2
structure HpOk (φ:Hp->Prop):Prop where
 keep:∀ (H H':Hp) (D:Addr) (kvs:List (Key×V)),H D=some (.dK kvs)->(∀ b o,H b=some o->b≠D->H' b=some o)->φ H->φ H'
 ext:∀ H H',Ext H H'->φ H->φ H'
abbrev RepT:=Nat->Hp->V->Prop
def RepOk (R:RepT):Prop:=∀ m v,HpOk fun H=>R m H v
def ItAt (R:RepT)(m:Nat)(H:Hp)(v:V)(c:Int×Nat):Prop:=∃ q u,v= .ref q/\H q=some (.tup [.int c.1,u])/\R (m|||c.2) H u
def jGH (ch:Ch)(R:RepT):Sp:=fun vs H Q _=>∃ (l:Addr) (us:List V) (m:Nat),vs=[.ref l]/\H l=some (.lst us)/\m<2 ^ ch.length/\m≠fullN ch/\All2 (ItAt R m H) us (chAt ch m)/\∀ r H',R m H' r->Ext H H'->Q r H'
def gvs (ns:List Nat)(us:List V):List (Key×V):=(ns.zip us).map fun p:Nat×V=>(Sum.inl (p.1:Int),p.2)
structure GotAt (H:Hp)(r:Addr)(ch:Ch)(R:RepT)(ns:List Nat):Prop where
 ex:∃ us,H r=some (.dK (gvs ns us))/\All2 (fun n u=>R n H u) ns us
theorem jCL {R:Nat->V->Prop} :∀ {ns:List Nat}{us:List V}{n:Nat},All2 R ns us->ns.Nodup->n∈ns->∃ u,valV (gvs ns us) (.inl (n:Int))=some u/\R n u
 | [],_,_,_,_,h=>by cases h
 | k::ns,[],_,h,_,_=>h.elim
 | k::ns,u::us,n,h,nd,hm=>by
  show ∃ x,valV ((Sum.inl (k:Int),u)::gvs ns us) _=_/\_
  by_cases hk:k=n
  ·subst hk
   exact⟨u,jBK rfl,h.1⟩
  ·rw[jAV (by intro z; have:=gO z; omega)]
   rcases aR.mp hm with z | z
   ·exact absurd z.symm hk
   ·exact jCL h.2 (cr.mp nd).2 z
theorem jBL:∀ {ns:List Nat}{us:List V}{n:Nat},n∉ns->valV (gvs ns us) (.inl (n:Int))=none
 | [],_,_,_=>by
  unfold gvs
  rw[List.zip_nil_left]
  rfl
 | k::ns,[],_,_=>rfl
 | k::ns,u::us,n,h=>by
  show valV ((Sum.inl (k:Int),u)::gvs ns us) _=_
  rw[jAV (by intro z; have:=gO z; exact h (by rw[show n=k by omega]; exact aH ..))]
  exact jBL fun z=>h (aq _ z)
theorem jL7 {ns:List Nat}{us:List V}{n:Nat}{u:V}(h:ns.length=us.length):gvs (ns++[n]) (us++[u])=gvs ns us++[(Sum.inl (n:Int),u)]:=by
 unfold gvs
 rw[List.zip_append h,aK]
 rfl
section
variable {P:Program}{w:World}{K:W.Frag}{mg:Str->Option Value}{base:Heap}
variable {f fF fA fM j:Addr}{fdF fdA fdM:FuncData}{cdv:Value}{A:Around}{outer:List Env}{s:Shared}{H0:Hp}{E:XK}{Z:Shared->Hp->Prop}{zh:Hp->Prop}{ch:Ch}{R:RepT}
noncomputable abbrev nGath:List Str:=["choices","at_end","join","full","values","mask"]
theorem scGath:FnScope nGath ["choices","at_end","join"] (j7 yO):=⟨rfl,rfl,rfl,by decide+kernel,rfl,by decide+kernel,by decide+kernel⟩
def jLT (j:Addr)(zh:Hp->Prop)(ch:Ch)(R:RepT):Sp:=fun vs H Q _=>∃ (L:Addr) (ve:V),vs=[.ref L,ve, .ref j]/\ChAt H L ch/\R (fullN ch) H ve/\zh H/\∀ (r:Addr) (ns:List Nat) (H':Hp),GotAt H' r ch R ns->ns.Pairwise (· > ·)->MetOk ch ns->Ext H H'->H r=none->Q (.ref r) H'
def jJM (T:Txt mg)(CA:Can P w K mg base "choices_at" 1 fA fdA ["choices","mask"] spAt)(CJ:Callee P w K mg base Z zh 3 j (jGH ch R))(zs:ZSt Z)(hz:Z s H0)(hr:Room 3 (XOf nGath "gathered" yO P w K mg base f cdv A outer s H0 E).A): { t:TS // JSs (XOf nGath "gathered" yO P w K mg base f cdv A outer s H0 E) (jCG ((jB yO).getD 2 (.Pass ⟨0,0,0,0⟩))) t} :=
 have nd:=scGath.nd
 ⟨_,(jC (yI (jW op_eq (jv 5 rfl vC) (jv 3 rfl vL) (jQ _)) (jC (jFY (hu_of hr) (jv 4 rfl vC) (jv 5 rfl vC) (jv 1 rfl vL) jMJ)) (jC (jFY (hu_of hr) (jv 4 rfl vC) (jv 5 rfl vC) (jL4 (j:=2) CJ (hr.mono (by decide)) zs hz rfl rfl vL (j3 (kR (m:=[none,none,some 4,some 5]) (Nc:=["number","more","values","mask"]) rfl (yC (CA.je (hr.mono (by decide)) gD (j3 (jv 0 rfl vL) (j3 (jv 5 rfl vC) j6 j4) j4) j4)) rfl (by decide+kernel) (by decide+kernel) (kT (psc:=j7 yO) (by decide+kernel)) (jR (N:=nGath) rfl rfl (by decide+kernel)) (fun cl C fp s H=>jF5 (i:=0) (j:=1) rfl (show (["number","more","values","mask"]:List Str).Nodup by decide+kernel) rfl rfl (by decide+kernel) (by decide+kernel)) (fun cl C fp s H=>kS) (fun cl C fp s H=>(yD (j3 (jv 0 rfl (jX (by decide+kernel))) (j3 (jC4 (hu_of hr) (jv 2 rfl (y6 (by decide+kernel))) (jL op_or (jv 3 rfl (y6 (by decide+kernel))) (jv 1 rfl (jX (by decide+kernel)))) jD2) j6 kW) j4))) kI) j6 jO) jO) jN))))⟩
def gathA (T:Txt mg)(CF:Can P w K mg base "full_mask" 1 fF fdF ["choices"] jCD)(CM:Can P w K mg base "masks_met" 2 fM fdM ["choices"] spMet)(CA:Can P w K mg base "choices_at" 1 fA fdA ["choices","mask"] spAt)(CJ:Callee P w K mg base Z zh 3 j (jGH ch R))(zs:ZSt Z)(hz:Z s H0)(hr:Room 3 (XOf nGath "gathered" yO P w K mg base f cdv A outer s H0 E).A): { t:TS // JSs (XOf nGath "gathered" yO P w K mg base f cdv A outer s H0 E) (jB yO) t} :=
 have nd:=scGath.nd
 ⟨_,(j9 (jE (i:=3) nd rfl lL (CF.je (hr.mono (by decide)) gD (j3 (jv 0 rfl vL) j6 j4) j4) jN) (j9 (jE (i:=4) nd rfl (loc_c (by decide+kernel)) (jL3) jI9) (j9 (yB bB rfl (yC (CM.je (hr.mono (by decide)) gD (j3 (jv 0 rfl vL) j6 j4) j4)) (jG (i:=5) nd rfl (loc_c (by decide+kernel))) (jJM T CA CJ zs hz hr).2 kI) (jC (jV (jv 4 rfl vC))))))⟩
theorem jNJ {fd:FuncData}(F:Fun K "gathered" "gathered" yO f fd)(T:Txt mg)(CF:Can P w K mg base "full_mask" 1 fF fdF ["choices"] jCD)(CM:Can P w K mg base "masks_met" 2 fM fdM ["choices"] spMet)(CA:Can P w K mg base "choices_at" 1 fA fdA ["choices","mask"] spAt)(CJ:Callee P w K mg base Z zh 3 j (jGH ch R))(zs:ZSt Z)(zo:HpOk zh)(ro:RepOk R)(ok:ChOk ch):FnZ P w K mg base CX0 Z 4 f fd ["choices","at_end","join"] (jLT j zh ch R):=by
 refine F.okZ scGath (fun vs H Q E h=>?_) (fun cdv A outer s H vs Q E hr hz h=>?_)
 ·obtain⟨_,_,rfl,_⟩:=h
  rfl
 ·obtain⟨L,ve,rfl,hL,he,hzh,q⟩:=h
  refine⟨_,(gathA T CF CM CA CJ zs hz hr).2.h,?_⟩
  have w16:=ok.w
  have p16:2 ^ ch.length<=2 ^ 16:=bS (by decide) w16
  refine⟨_,rfl,L,ch,rfl,hL,w16,?_⟩
  refine fun D nD=>?_
  have e1:Ext H (L2.upd H D (.dK [])):=(Ext.refl _).new nD _
  have hD1:(L2.upd H D (.dK [])) D=some (.dK []):=j8
  generalize L2.upd H D (.dK [])=H1 at e1 hD1
  refine⟨_,rfl,L,ch,rfl,hL.ext e1,ok,fun r ns H2 hr2 srt mt e2 nr=>?_⟩
  have hD2:=e2 _ _ hD1
  have rD:r≠D:=fun z=>by rw[z,hD1] at nr; cases nr
  have E2:=e1.trans e2
  have nsn:ns.Nodup:=srt.imp fun {a b} h=>by omega
  have nsl:=jAL nsn mt.bnd
  refine⟨r,rfl,⟨_,SqL.of hr2⟩,jBU (xs:=ns.map natV) (fun i σ H'=>(∃ v5,σ=[some (.ref L),some ve,some (.ref j),some (natV (fullN ch)),some (.ref D),v5])/\(∀ b o,H2 b=some o->b≠D->H' b=some o)/\GotAt H' D ch R (ns.take i)) ⟨⟨_,rfl⟩,fun b o h _=>h,[],hD2,trivial⟩ (fun i σ H' _ ⟨_,k,_⟩=>SqL.of (k _ _ hr2 rD)) ?_ ?_⟩
  ·rintro i x σ H' hx ⟨⟨v5,rfl⟩,k,us,hD',au⟩
   obtain⟨m,hm,rfl⟩:∃ m,ns[i]?=some m/\natV m=x:=by
    rw[aA] at hx
    cases hq:ns[i]? with
    | none=>rw[hq] at hx; cases hx
    | some z=>rw[hq] at hx; cases hx; exact⟨z,rfl,rfl⟩
   have hmn:=ao hm
   have hm2:=mt.bnd m hmn
   have il:i<ns.length:=(ae.mp hm).1
   have tk:ns.take (i+1)=ns.take i++[m]:=by rw[bo,hm]; rfl
   have kl:(gvs (ns.take i) us).length<sizeLine:=by
    unfold gvs
    rw[aa,List.length_zip,aY,aI]
    omega
   have kH:∀ b o,H b=some o->H' b=some o:=fun b o h=>k _ _ (E2 _ _ h) fun z=>by rw[z,nD] at h; cases h
   have mi:m∉ns.take i:=fun z=>by
    obtain⟨a,ha⟩:=cw z
    have al:a<i:=by have:=(ae.mp ha).1; rw[aY] at this; omega
    rw[bW al] at ha
    have:=(List.getElem?_inj (by omega) nsn).mp (ha.trans hm.symm)
    omega
   have fin:∀ (u:V) (H3:Hp),(∀ b o,H' b=some o->H3 b=some o)->R m H3 u->DPut H3 D (natV m) u (L2.upd H3 D (.dK (gvs (ns.take (i+1)) (us++[u]))))/\((∃ v5,[some (V.ref L),some ve,some (.ref j),some (natV (fullN ch)),some (.ref D),some (natV m)]=[some (V.ref L),some ve,some (.ref j),some (natV (fullN ch)),some (.ref D),v5])/\(∀ b o,H2 b=some o->b≠D->(L2.upd H3 D (.dK (gvs (ns.take (i+1)) (us++[u])))) b=some o)/\GotAt (L2.upd H3 D (.dK (gvs (ns.take (i+1)) (us++[u])))) D ch R (ns.take (i+1))):=fun u H3 e3 ru=>by
    have hD3:=e3 _ _ hD'
    have up:∀ b o,H3 b=some o->b≠D->(L2.upd H3 D (.dK (gvs (ns.take (i+1)) (us++[u])))) b=some o:=fun b o h n=>by rw[jA n]; exact h
    refine⟨?_,⟨_,rfl⟩,fun b o h n=>up b o (e3 _ _ (k b o h n)) n,us++[u],j8,?_⟩
    ·have:=DPut.k (k:=Sum.inl ((m:Nat):Int)) (v:=u) hD3 kl
     rw[jGM _ (jBL mi),<- jL7 au.len,<- tk] at this
     exact this
    ·rw[tk]
     refine All2.snoc ?_ ((ro m u).keep _ _ D _ hD3 (by rw[<- tk]; exact up) ru)
     rw[<- tk]
     exact au.imp fun n u h=>(ro n u).keep _ _ D _ hD3 up ((ro n u).ext _ _ e3 h)
   refine⟨_,rfl,_,rfl,rfl,_,rfl,?_⟩
   have ef:decide (natV m=natV (fullN ch))=true↔m=fullN ch:=by
    rw[bf]
    exact⟨fun h=>by have:=V.int.inj h; omega,fun h=>by rw[h]⟩
   refine ite2 (fun h=>?_) (fun h=>?_)
   ·have h:=ef.mp h
    obtain⟨f1,f2⟩:=fin ve H' (fun b o h=>h) (by rw[h]; exact(ro _ _).ext _ _ kH he)
    exact⟨_,rfl,_,rfl,_,rfl,D,_,rfl,f1,f2⟩
   ·have h:m≠fullN ch:=fun z=>h (ef.mpr z)
    refine⟨rfl,_,rfl,_,rfl,L,ch,m,rfl,hL.ext kH,ok,hm2,h,fun r4 H4 ⟨vs4,hr4,av4⟩ e4 n4=>?_⟩
    have hD4:=e4 _ _ hD'
    have vl4:vs4.length<=33:=by
     rw[av4.len]
     have hlow:=jBR hm2 h
     refine bD (cY _ _) ?_
     rw[aB,aj hlow]
     exact ok.len _ _ (aj hlow)
    refine⟨r4,rfl,⟨_,SqL.of hr4⟩,jB5 (xs:=vs4) (fun σ=>∃ v1 v2,σ=[v1,v2,some (.ref D),some (natV m)]) (fun H' zs t=>All2 (fun v c=>∃ q u,v= .ref q/\H' q=some (.tup [.int c.1,u])/\R (m|||c.2) H4 u) zs ((chAt ch m).take t)) ⟨fun H=>trivial,fun H H' zs t tu hz=>hz.imp fun v c ⟨q,u,a1,a2,a3⟩=>⟨q,u,a1,tu _ _ a2,a3⟩,fun H zs t hz=>?_⟩ hr4 (by rw[aI]; omega) ⟨_,_,rfl⟩ ?_ ?_⟩
    ·rw[hz.len]
     exact cF _ _
    ·rintro t x σ' H5 zs hx ⟨v1,v2,rfl⟩ e5 hz5 S1 S2 yes no
     obtain⟨c,hc,qa,rfl,hq⟩:=av4.get' hx
     have hcm:=ao hc
     obtain⟨u1,u2⟩:=ok.up hm2 h hcm
     have ut:=mt.up m hmn h c hcm
     have up:(m|||c.2)∈ns.take i:=by
      obtain⟨a,ha⟩:=cw ut
      have al:a<i:=by
       refine bF fun z=>?_
       have a1:=(ae.mp ha)
       have m1:=(ae.mp hm)
       rcases eL i a with y | y
       ·have:=bU.mp srt i a il a1.1 y
        rw[a1.2,m1.2] at this
        omega
       ·have:a=i:=by omega
        subst this
        rw[hm] at ha
        have:=aW ha
        omega
      exact ao (i:=a) (by rw[bW al]; exact ha)
     obtain⟨u,hu,ru⟩:=jCL au (nsn.sublist (cB _ _)) up
     have et:(chAt ch m).take (t+1)=(chAt ch m).take t++[c]:=by rw[bo,hc]; rfl
     have dg:DGet H5 D (.int (Builtin.bitOr (m:Int) (c.2:Int))) (some u):=by
      rw[jAE,<- hu]
      exact DGet.k (k:=Sum.inl (((m|||c.2:Nat):Nat):Int)) (e5 _ _ hD4)
     refine⟨qa,_,rfl,SqT.of (e5 _ _ hq),rfl,_,_,rfl,_,_,rfl,rfl,?_⟩
     dsimp only [yJ]
     rw[ag rfl]
     refine⟨_,rfl,_,rfl,_,rfl,_,rfl,_,_,rfl,rfl,D,u,rfl,dg,by show (2:Nat)<=_; decide,fun r6 H6 d6 e6=>yes _ _ _ ⟨_,_,rfl⟩ e6 ?_⟩
     show All2 _ _ ((chAt ch m).take (t+1))
     rw[et]
     exact(hz5.imp fun v c ⟨q,u,a1,a2,a3⟩=>⟨q,u,a1,e6 _ _ a2,a3⟩).snoc ⟨r6,u,rfl,d6,(ro _ _).ext _ _ e4 ru⟩
    ·rintro D7 H7 zs hD7 e7 n7 hz7
     rw[av4.len,bI] at hz7
     refine⟨zo.ext _ _ (fun b o h=>e7 _ _ (e4 _ _ (kH b o h))) hzh,D7,zs,m,rfl,hD7,hm2,h,hz7.imp fun v c ⟨q,u,a1,a2,a3⟩=>⟨q,u,a1,a2,(ro _ _).ext _ _ e7 a3⟩,fun rr H8 r8 e8=>?_⟩
     obtain⟨f1,f2⟩:=fin rr H8 (fun b o h=>e8 _ _ (e7 _ _ (e4 _ _ h))) r8
     exact⟨_,rfl,_,rfl,D,_,rfl,f1,f2⟩
  ·rintro σ H' ⟨⟨v5,rfl⟩,k,got⟩
   rw[aa,bI] at got
   exact⟨_,rfl,q D ns H' got srt mt (fun b o h=>k _ _ (E2 _ _ h) fun z=>by rw[z,nD] at h; cases h) nD⟩
end
end Eo
end
section
namespace L2
open PySem
def spEx {α:Type}(p:α->Prop)(sp:α->Sp):Sp:=fun vs H Q E=>∃ a,p a/\sp a vs H Q E
theorem FnOk.ex {α:Type}{p:α->Prop}{sp:α->Sp}{P:Program}{w:World}{K:W.Frag}{mg:Str->Option Value}{base:Heap}{CX:CXT}{k:Nat}{f:Addr}{fd:FuncData}{ps:List Str}(h:∀ a,p a->FnOk P w K mg base CX k f fd ps (sp a)):FnOk P w K mg base CX k f fd ps (spEx p sp):=
 ⟨fun vs H Q E ⟨a,pa,q⟩=>(h a pa).len vs H Q E q,fun A outer s H args us vs Q E hr he hb hv ⟨a,pa,q⟩=>(h a pa).run A outer s H args us vs Q E hr he hb hv q⟩
theorem Callee.mono {P:Program}{w:World}{K:W.Frag}{mg:Str->Option Value}{base:Heap}{Z:Shared->Hp->Prop}{zh:Hp->Prop}{i k:Nat}{a:Addr}{sp:Sp}(C:Callee P w K mg base Z zh i a sp)(h:i<=k):Callee P w K mg base Z zh k a sp:=
 ⟨C.fn,fun A outer s H us vs Q E hr=>C.run A outer s H us vs Q E (hr.mono h)⟩
theorem Callee.imp {P:Program}{w:World}{K:W.Frag}{mg:Str->Option Value}{base:Heap}{Z Z':Shared->Hp->Prop}{zh:Hp->Prop}{k:Nat}{a:Addr}{sp:Sp}(C:Callee P w K mg base Z zh k a sp)(h:∀ s H,Z' s H->Z s H):Callee P w K mg base Z' zh k a sp:=
 ⟨C.fn,fun A outer s H us vs Q E hr he hz=>C.run A outer s H us vs Q E hr he (h _ _ hz)⟩
theorem jOT {a:Arguments}{b:Expr}{sc:Scope}{pos:Pos}{es:List Expr}{env:Env} :starEach (.Lambda a b sc pos::es) env=(false,eval (.Lambda a b sc pos) env)::starEach es env:=rfl
end L2
namespace Eo
open PySem L2
theorem got0 {H:Hp}{r:Addr}{ch:Ch}{R:RepT}{ns:List Nat}(g:GotAt H r ch R ns)(nd:ns.Pairwise (· > ·))(m:MetOk ch ns):∃ u,DGet H r (.int 0) (some u)/\R 0 H u:=by
 obtain⟨us,h1,h2⟩:=g.ex
 obtain⟨u,hu,ru⟩:=jCL h2 (nd.imp fun {a b} h=>by omega) m.zero
 refine⟨u,?_,ru⟩
 have:=DGet.k (k:=Sum.inl (0:Int)) h1
 rw[show valV (gvs ns us) (Sum.inl (0:Int))=some u from hu] at this
 exact this
theorem jM0 {H H1:Hp}{l:Addr}(e:Ext H H1)(n:H1 l=none):H l=none:=by
 cases z:H l with
 | none=>rfl
 | some o=>rw[e _ _ z] at n; cases n
end Eo
end
section
namespace L2
open PySem PySem.Spec PyProof.Rows
theorem ip_or {X:Cx} :PIp X .BitOr (fun x y H Q=>∃ i j,x= .int i/\y= .int j/\Q (.int (Builtin.bitOr i j)) H):=by
 intro pins s σ H x y v u Q I r1 r2 h
 obtain⟨i,j,e1,e2,q⟩:=h
 subst e1; subst e2
 obtain⟨t,rfl⟩:=r1
 obtain⟨t',rfl⟩:=r2
 exact ior_int ⟨.int _,H,I.tok _,⟨_,rfl⟩,q⟩
theorem jGZ {X:Cx}{e:Expr}{te:TE}{pos:Pos}{i:Nat}{x:PySem.Str}{op:Operator}{ti:TIp}{pos':Pos}(hN:X.N.Nodup)(hi:X.N[i]?=some x)(hx:Loc1 X x)(he:JE X e te)(ho:PIp X op ti):JS X (.AugAssign (.Name x pos') op e pos) (tAug i te ti):=⟨jP2 hN hi hx.a he.h ho hx.b⟩
end L2
end
section
namespace Eo
open PySem L2
def wJ (l:List (Int×List (List Int))):List (List Int):=l.flatMap fun p=>p.2.map fun x=>if p.1<0 then x else p.1::x
def wk (ch:Ch)(m:Nat):List (List Int):=gv ch [[]] wJ m
theorem jCW (a b:List (Int×List (List Int))):wJ (a++b)=wJ a++wJ b:=g5
theorem jBE (ch:Ch):wk ch (fullN ch)=[[]]:=jO6
theorem jBD {ch:Ch}{m:Nat}(o:ChOk ch)(h:m<2 ^ ch.length)(hn:m≠fullN ch):wk ch m=wJ ((chAt ch m).map fun c=>(c.1,wk ch (m|||c.2))):=jO5 o h hn
theorem jKX (w:Nat):lowN (2 ^ w - 1)=w:=by
 refine jJ3 ?_ fun j hj=>?_
 ·rw[bA,aM (by omega)]
 ·rw[bA,aG hj]
theorem jPM {m c:Nat}(h:c.testBit (lowN m)=true):lowN m<lowN (m|||c):=by
 refine bF fun z=>?_
 have n1:=jAM (m|||c)
 rw[bC] at n1
 rcases eL (lowN (m|||c)) (lowN m) with y | y
 ·rw[jC2 m _ y] at n1
  cases n1
 ·rw[show lowN (m|||c)=lowN m by omega,h,fi] at n1
  cases n1
theorem jCK {ch:Ch}(o:ChOk ch){P:Nat->Prop}(h0:P (fullN ch))(hs:∀ m,m<2 ^ ch.length->m≠fullN ch->(∀ c∈chAt ch m,P (m|||c.2))->P m):∀ m,m<2 ^ ch.length->P m:=by
 intro m hm
 generalize hk:fullN ch - m=k
 induction k using strongRecOn generalizing m with
 | _ k ih=>
  by_cases hf:m=fullN ch
  ·rw[hf]
   exact h0
  ·have hlt:m<fullN ch:=by
    unfold fullN at hf ⊢
    omega
   refine hs m hm hf fun c hc=>?_
   obtain⟨u1,u2⟩:=o.up hm hf hc
   exact ih (fullN ch - (m|||c.2)) (by omega) _ u2 rfl
theorem mem_wJ {l:List (Int×List (List Int))}{x:List Int} :x∈wJ l↔∃ p∈l,∃ y∈p.2,x=if p.1<0 then y else p.1::y:=by
 unfold wJ
 rw[List.mem_flatMap]
 refine exists_congr fun p=>gK fun _=>?_
 rw[aN]
 exact exists_congr fun y=>gK fun _=>eq_comm
theorem jOL {ch:Ch}(o:ChOk ch):∀ m,m<2 ^ ch.length->∀ x∈wk ch m,(∀ k∈x,0<=k/\k<32)/\x.length+lowN m<=ch.length:=by
 refine jCK o ?_ ?_
 ·intro x hx
  rw[jBE,ay] at hx
  subst hx
  refine⟨fun k hk=>(by cases hk),?_⟩
  unfold fullN
  rw[jKX]
  simp
 ·intro m hm hf ih x hx
  rw[jBD o hm hf] at hx
  obtain⟨p,hp,y,hy,rfl⟩:=mem_wJ.mp hx
  obtain⟨c,hc,rfl⟩:=aN.mp hp
  obtain⟨i1,i2⟩:=ih c hc y hy
  obtain⟨m1,m2,m3,m4,m5⟩:=o.mem hm hf hc
  have lo:=jPM m1
  dsimp only
  split
  ·exact⟨i1,by omega⟩
  ·refine⟨fun k hk=>?_,by rw[bq]; omega⟩
   rcases aR.mp hk with z | z
   ·subst z
    omega
   ·exact i1 k z
theorem jE9 (a b:Int):decide (V.int a=V.int b)=decide (a=b):=by
 rw[bJ,bf,bf]
 exact⟨fun h=>V.int.inj h,fun h=>by rw[h]⟩
def cvs (w:Int)(ms:List Int)(pcs:List (List Int×Int)):List (List Int):=(wk (chs w.toNat ms pcs) 0).map srt
theorem jCP {w:Int}{ms:List Int}{pcs:List (List Int×Int)}{m:Nat}{c:Int×Nat}(hl:lowN m<w.toNat):c∈chAt (chs w.toNat ms pcs) m↔c.2&&&m=0/\((c=(-1,2 ^ lowN m)/\(lowN m:Int)∈ms)\/∃ k:Int,c=(k,maskN (j5 pcs k))/\0<=k/\k<pcs.length/\(j5 pcs k).headD 0=(lowN m:Int)):=by
 unfold chAt
 rw[ce,hZ,and_comm]
 refine gK fun _=>?_
 unfold chs
 rw[aB,jA8 hl]
 show c∈yF ms pcs pcs.length (lowN m)↔_
 unfold yF
 rw[ax]
 refine or_congr ?_ ?_
 ·by_cases h:(lowN m:Int)∈ms
  ·rw[ag h,ay]
   exact⟨fun z=>⟨z,h⟩,fun z=>z.1⟩
  ·rw[af h]
   exact⟨fun z=>(by cases z),fun z=>absurd z.2 h⟩
 ·rw[bG (by rw[jT]; exact az _),aN]
  constructor
  ·rintro ⟨k,hk,rfl⟩
   obtain⟨h1,h2⟩:=ce.mp hk
   have b:=(jAW pcs.length).bnd k h1
   exact⟨k,rfl,b.1,b.2,aO h2⟩
  ·rintro ⟨k,rfl,h1,h2,h3⟩
   refine⟨k,ce.mpr ⟨?_,aG h3⟩,rfl⟩
   unfold upto
   exact aN.mpr ⟨k.toNat,bN.mpr (by omega),by omega⟩
structure CovM (w:Int)(ms:List Int)(pcs:List (List Int×Int))(m:Nat)(x:List Int):Prop where
 nd:x.Nodup
 bnd:∀ k∈x,0<=k/\k<pcs.length
 off:∀ k∈x,∀ t∈j5 pcs k,m.testBit t.toNat=false
 dis:∀ k∈x,∀ k'∈x,k≠k'->∀ t∈j5 pcs k,t∉j5 pcs k'
 cov:∀ t:Nat,t<w.toNat->m.testBit t=false->(t:Int)∉ms->∃ k∈x,(t:Int)∈j5 pcs k
section
variable {w:Int}{ms:List Int}{pcs:List (List Int×Int)}(g:Good 16 32 w ms pcs)
include g
theorem y4 {k:Int}(h0:0<=k)(h1:k<pcs.length):Lot w (j5 pcs k):=(g.at (k:=k.toNat) (by omega)).lot
theorem jBP {k:Int}(h0:0<=k)(h1:k<pcs.length)(t:Nat):(maskN (j5 pcs k)).testBit t=decide ((t:Int)∈j5 pcs k):=jAD _ t (y4 g h0 h1).ris fun x hx=>((y4 g h0 h1).bnd x hx).1
theorem jIN {k:Int}(h0:0<=k)(h1:k<pcs.length){m:Nat} :maskN (j5 pcs k)&&&m=0↔∀ t∈j5 pcs k,m.testBit t.toNat=false:=by
 have l:=y4 g h0 h1
 constructor
 ·intro h t ht
  have bt:=l.bnd t ht
  have q:=bQ (fun z=>z.testBit t.toNat) h
  simp only [cH,bP,jBP g h0 h1] at q
  rw[show ((t.toNat:Nat):Int)=t by omega,aG ht,fY] at q
  exact q
 ·intro h
  apply cy
  intro i
  rw[cH,bP,jBP g h0 h1]
  by_cases hi:(i:Int)∈j5 pcs k
  ·have:=h _ hi
   rw[aS] at this
   rw[this,dM]
  ·rw[aM hi]
   rfl
theorem jB2 {k:Int}(h0:0<=k)(h1:k<pcs.length):(j5 pcs k).headD 0∈j5 pcs k/\∀ t∈j5 pcs k,(j5 pcs k).headD 0<=t:=by
 have l:=y4 g h0 h1
 refine⟨jE8 l.ne,fun t ht=>?_⟩
 have r:=l.ris
 cases z:j5 pcs k with
 | nil=>rw[z] at ht; cases ht
 | cons a q=>
  rw[z] at ht r
  show a<=t
  rcases aR.mp ht with y | y
  ·omega
  ·have:=(dz.mp r).1 t y
   omega
theorem jCJ:∀ m,m<2 ^ (chs w.toNat ms pcs).length->∀ x∈wk (chs w.toNat ms pcs) m,CovM w ms pcs m x:=by
 have o:ChOk (chs w.toNat ms pcs):=jBV g
 have el:(chs w.toNat ms pcs).length=w.toNat:=kP _ _ _ _
 refine jCK o ?_ ?_
 ·intro x hx
  rw[jBE,ay] at hx
  subst hx
  refine⟨eM,fun k hk=>(by cases hk),fun k hk=>(by cases hk),fun k hk=>(by cases hk),fun t ht hb _=>?_⟩
  unfold fullN at hb
  rw[el,bA,aG ht] at hb
  cases hb
 ·intro m hm hf ih x hx
  have hl:lowN m<w.toNat:=by have:=jBR hm hf; rwa [el] at this
  rw[jBD o hm hf] at hx
  obtain⟨p,hp,y,hy,rfl⟩:=mem_wJ.mp hx
  obtain⟨c,hc,rfl⟩:=aN.mp hp
  have I:=ih c hc y hy
  have offm:∀ k∈y,∀ t∈j5 pcs k,m.testBit t.toNat=false:=fun k hk t ht=>by
   have:=I.off k hk t ht
   rw[bC,di] at this
   exact this.1
  obtain⟨hz,hcase⟩:=(jCP hl).mp hc
  rcases hcase with ⟨rfl,hms⟩ | ⟨k,rfl,k0,k1,hd⟩
  ·dsimp only
   rw[ag (show (-1:Int)<0 by decide)]
   refine⟨I.nd,I.bnd,offm,I.dis,fun t ht hb hn=>?_⟩
   refine I.cov t ht ?_ hn
   rw[bC,hb,fX,ck,aM]
   intro z
   subst z
   exact hn hms
  ·dsimp only at I hz ⊢
   rw[af (by omega)]
   have ky:∀ t∈j5 pcs k,∀ k'∈y,t∉j5 pcs k':=fun t ht k' hk' ht'=>by
    have:=I.off k' hk' t ht'
    have bt:=(y4 g k0 k1).bnd t ht
    rw[bC,jBP g k0 k1,show ((t.toNat:Nat):Int)=t by omega,aG ht,fi] at this
    cases this
   have hhd:=(jB2 g k0 k1).1
   refine⟨cr.mpr ⟨fun z=>ky _ hhd k z hhd,I.nd⟩,fun k' hk'=>?_,fun k' hk' t ht=>?_,fun k1' h1' k2' h2' ne t ht=>?_,fun t ht hb hn=>?_⟩
   ·rcases aR.mp hk' with z | z
    ·rw[z]; exact⟨k0,k1⟩
    ·exact I.bnd k' z
   ·rcases aR.mp hk' with z | z
    ·rw[z] at ht
     exact(jIN g k0 k1).mp hz t ht
    ·exact offm k' z t ht
   ·rcases aR.mp h1' with z | z <;> rcases aR.mp h2' with u | u
    ·exact absurd (z.trans u.symm) ne
    ·rw[z] at ht
     exact ky t ht _ u
    ·rw[u]
     intro q
     exact ky t q _ z ht
    ·exact I.dis _ z _ u ne t ht
   ·by_cases hk:(t:Int)∈j5 pcs k
    ·exact⟨k,aH .., hk⟩
    ·obtain⟨k',h1,h2⟩:=I.cov t ht (by rw[bC,hb,jBP g k0 k1,aM hk]; rfl) hn
     exact⟨k',aq _ h1,h2⟩
theorem jFK:∀ m,m<2 ^ (chs w.toNat ms pcs).length->∀ x,CovM w ms pcs m x->∃ y∈wk (chs w.toNat ms pcs) m,∀ k,k∈y↔k∈x:=by
 have o:ChOk (chs w.toNat ms pcs):=jBV g
 have el:(chs w.toNat ms pcs).length=w.toNat:=kP _ _ _ _
 have w0:=g.w0
 refine jCK o ?_ ?_
 ·intro x C
  refine⟨[],by rw[jBE]; exact ay.mpr rfl,fun k=>⟨fun z=>(by cases z),fun hk=>?_⟩⟩
  exfalso
  have b:=C.bnd k hk
  have hh:=(jB2 g b.1 b.2).1
  have hb:=(y4 g b.1 b.2).bnd _ hh
  have:=C.off k hk _ hh
  unfold fullN at this
  rw[el,bA,aG (by omega)] at this
  cases this
 ·intro m hm hf ih x C
  have hl:lowN m<w.toNat:=by have:=jBR hm hf; rwa [el] at this
  have hstep:=jBD o hm hf
  by_cases hx:∃ k∈x,(lowN m:Int)∈j5 pcs k
  ·obtain⟨k,hk,ht⟩:=hx
   have b:=C.bnd k hk
   have hd:(j5 pcs k).headD 0=(lowN m:Int):=by
    obtain⟨h1,h2⟩:=jB2 g b.1 b.2
    have h3:=h2 _ ht
    have hb:=(y4 g b.1 b.2).bnd _ h1
    have h4:=C.off k hk _ h1
    rcases Int.lt_or_eq_of_le h3 with z | z
    ·have:=jC2 m ((j5 pcs k).headD 0).toNat (by omega)
     rw[this] at h4
     cases h4
    ·exact z
   have fit:maskN (j5 pcs k)&&&m=0:=(jIN g b.1 b.2).mpr (C.off k hk)
   have hc:((k,maskN (j5 pcs k)):Int×Nat)∈chAt (chs w.toNat ms pcs) m:=(jCP hl).mpr ⟨fit, .inr ⟨k,rfl,b.1,b.2,hd⟩⟩
   have memE:∀ j,j∈x.erase k↔j≠k/\j∈x:=fun j=>C.nd.mem_erase_iff
   obtain⟨y,hy,hye⟩:=ih _ hc (x.erase k) ⟨C.nd.erase k,fun j hj=>C.bnd j ((memE j).mp hj).2,fun j hj t ht'=>by
     obtain⟨n1,n2⟩:=(memE j).mp hj
     have bj:=C.bnd j n2
     have bt:=(y4 g bj.1 bj.2).bnd t ht'
     have:=C.dis j n2 k hk n1 t ht'
     rw[bC,C.off j n2 t ht',jBP g b.1 b.2,show ((t.toNat:Nat):Int)=t by omega,aM this]
     rfl,fun j1 h1 j2 h2=>C.dis j1 ((memE j1).mp h1).2 j2 ((memE j2).mp h2).2,fun t ht' hb hn=>by
     rw[bC,di,jBP g b.1 b.2,cx] at hb
     obtain⟨j,hj,hjt⟩:=C.cov t ht' hb.1 hn
     exact⟨j,(memE j).mpr ⟨fun z=>hb.2 (z ▸ hjt),hj⟩,hjt⟩⟩
   refine⟨k::y,?_,fun j=>?_⟩
   ·rw[hstep,mem_wJ]
    exact⟨_,bX hc,y,hy,by dsimp only; rw[af (by omega)]⟩
   ·rw[aR,hye,memE]
    constructor
    ·rintro (z | z)
     ·rw[z]; exact hk
     ·exact z.2
    ·intro z
     by_cases hj:j=k
     ·exact .inl hj
     ·exact .inr ⟨hj,z⟩
  ·have hms:(lowN m:Int)∈ms:=bF fun z=>hx (C.cov (lowN m) hl (jAM m) z)
   have fit:2 ^ lowN m&&&m=0:=by
    apply cy
    intro i
    rw[cH,bP,ck]
    by_cases hi:lowN m=i
    ·rw[<- hi,jAM,dM]
    ·rw[aM hi]
     rfl
   have hc:((-1,2 ^ lowN m):Int×Nat)∈chAt (chs w.toNat ms pcs) m:=(jCP hl).mpr ⟨fit, .inl ⟨rfl,hms⟩⟩
   obtain⟨y,hy,hye⟩:=ih _ hc x ⟨C.nd,C.bnd,fun j hj t ht'=>by
     have bj:=C.bnd j hj
     have bt:=(y4 g bj.1 bj.2).bnd t ht'
     rw[bC,C.off j hj t ht',fX,ck,aM]
     intro z
     refine hx ⟨j,hj,?_⟩
     rw[z,show ((t.toNat:Nat):Int)=t by omega]
     exact ht',C.dis,fun t ht' hb hn=>by
     rw[bC,di] at hb
     exact C.cov t ht' hb.1 hn⟩
   refine⟨y,?_,hye⟩
   rw[hstep,mem_wJ]
   exact⟨_,bX hc,y,hy,by dsimp only; rw[ag (by decide)]⟩
end
structure IsCov (w:Int)(ms:List Int)(pcs:List (List Int×Int))(c:List Int):Prop where
 ris:Ris pcs.length c
 dis:∀ k∈c,∀ k'∈c,k≠k'->∀ t∈j5 pcs k,t∉j5 pcs k'
 cov:∀ t:Int,0<=t->t<w->t∉ms->∃ k∈c,t∈j5 pcs k
section
variable {w:Int}{ms:List Int}{pcs:List (List Int×Int)}(g:Good 16 32 w ms pcs)
include g
theorem jNR {c:List Int} :c∈cvs w ms pcs↔IsCov w ms pcs c:=by
 have z0:0<2 ^ (chs w.toNat ms pcs).length:=cQ _
 have w0:=g.w0
 unfold cvs
 rw[aN]
 constructor
 ·rintro ⟨x,hx,rfl⟩
  have C:=jCJ g 0 z0 x hx
  have me:∀ k,k∈srt x↔k∈x:=fun k=>(jU x).mem_iff
  refine⟨⟨?_,fun k hk=>C.bnd k ((me k).mp hk)⟩,fun k hk k' hk'=>C.dis k ((me k).mp hk) k' ((me k').mp hk'),fun t t0 t1 hn=>?_⟩
  ·exact(eO (jEM x) ((jU x).nodup_iff.mpr C.nd)).imp fun {a b} h=>by omega
  ·obtain⟨k,hk,hkt⟩:=C.cov t.toNat (by omega) (bP _) (by rw[show ((t.toNat:Nat):Int)=t by omega]; exact hn)
   exact⟨k,(me k).mpr hk,by rwa [show ((t.toNat:Nat):Int)=t by omega] at hkt⟩
 ·intro C
  obtain⟨y,hy,hye⟩:=jFK g 0 z0 c ⟨C.ris.ris.imp fun {a b} h=>by omega,C.ris.bnd,fun k hk t ht=>bP _,C.dis,fun t ht _ hn=>C.cov t (by omega) (by omega) hn⟩
  refine⟨y,hy,?_⟩
  have ny:=(jCJ g 0 z0 y hy).nd
  have nc:c.Nodup:=C.ris.ris.imp fun {a b} h=>by omega
  have pm:c.Perm y:=(fz nc ny).mpr fun k=>(hye k).symm
  exact(jD0 (C.ris.ris.imp fun {a b} h=>by omega) pm).symm
end
theorem jG6 (w:Int)(ms:List Int)(pcs:List (List Int×Int)):(cvs w ms pcs).length=(wk (chs w.toNat ms pcs) 0).length:=aa ..
noncomputable def lamOf (s:Stmt):Arguments×Expr×Scope×Pos:=match jB s with
 | [.Return (some (.Call _ [_,_, .Lambda a b sc p] _ _)) _]=>(a,b,sc,p)
 | _=>(jF s, .Constant .none 0 ⟨0,0,0,0⟩,j7 s,⟨0,0,0,0⟩)
abbrev lamA:Arguments:=(lamOf yK).1
abbrev lamB:Expr:=(lamOf yK).2.1
abbrev lamS:Scope:=(lamOf yK).2.2.1
abbrev lamP:Pos:=(lamOf yK).2.2.2
noncomputable abbrev nLam:List Str:=["behind"]
theorem scLam:NScope nLam ["behind"] [] lamS:=⟨rfl,rfl,rfl,by decide+kernel,rfl,by decide+kernel,by decide+kernel,fun x h=>by
  have hl:∀ y∈lamS.names,y.2≠ .free:=by decide+kernel
  exact absurd rfl (hl _ (cE h)),by decide+kernel⟩
def RWay (ch:Ch):RepT:=fun m _ v=>v=natV (wk ch m).length
theorem RWay.ok (ch:Ch):RepOk (RWay ch):=fun _ _=>⟨fun _ _ _ _ _ _ h=>h,fun _ _ _ h=>h⟩
theorem jLQ (l:List (Int×List (List Int))):(wJ l).length=(l.map fun p=>p.2.length).sum:=by
 unfold wJ
 rw[List.length_flatMap]
 congr 1
 refine bx fun p _=>?_
 rw[aa]
section
variable {P:Program}{w:World}{K:W.Frag}{mg:Str->Option Value}{base:Heap}
variable {f fG fW fC a c c0 tb:Addr}{fdG fdW fdC:FuncData}{cdv:Value}{cl:List (Str×Addr)}{A:Around}{outer:List Env}{s:Shared}{H0:Hp}{E:XK}
abbrev qLam:Str:= "ways_of.<locals>.<lambda>"
def jKZ (T:Txt mg): { t:TE // JE (cxN P w K mg base nLam qLam lamS a (.ref c) cl A outer s H0) lamB t} :=⟨_,(jI (jFB rfl) (gl_n (by decide+kernel)) T.sum (by decide+kernel) (j3 (kR (m:=[none,none]) (Nc:=["number","ways"]) rfl (yC (jv 0 rfl (vis_n (by decide+kernel)))) rfl (by decide+kernel) (by decide+kernel) (fun y hy hf=>absurd hf (by revert y; decide+kernel)) (jR (N:=nLam) rfl rfl (by decide+kernel)) (fun cl C fp s H=>jF5 (i:=0) (j:=1) rfl (show (["number","ways"]:List Str).Nodup by decide+kernel) rfl rfl (by decide+kernel) (by decide+kernel)) (fun cl C fp s H=>kS) (fun cl C fp s H=>(jv 1 rfl (jX (by decide+kernel)))) yE) j6 jO) jO)⟩
def zhW (a c:Addr):Hp->Prop:=fun H=>H a=some (.ext (nlP qLam lamA lamB lamS [] a c))/\H c=some (.ext (ncP qLam c))
theorem zhW.ok (a c:Addr):HpOk (zhW a c):=⟨fun H H' D kvs hD k h=>⟨k _ _ h.1 fun z=>(by rw[<- z,h.1] at hD; cases hD),k _ _ h.2 fun z=>(by rw[<- z,h.2] at hD; cases hD)⟩,fun H H' e h=>⟨e _ _ h.1,e _ _ h.2⟩⟩
theorem jPH {ch:Ch}(o:ChOk ch)(T:Txt mg):Callee P w K mg base ZT (zhW a c) 1 a (jGH ch (RWay ch)):=by
 refine Callee.imp (jQ3 (fv:=[]) scLam (fun vs H Q E h=>?_) (fun pm ctv us hl=>?_) fun A outer s H vs Q E hr h=>?_) fun s H _=>⟨⟨fun x y c h=>(by cases h),fun x c h=>(by cases h)⟩,rfl,fun i x v h=>(by cases h)⟩
 ·obtain⟨_,_,_,rfl,_⟩:=h
  rfl
 ·match us,hl with
  | [_],_=>rfl
 ·obtain⟨l,us,m,rfl,hl,hm,hf,av,q⟩:=h
  refine⟨_,(jKZ T).2.h,?_⟩
  have vl:us.length<=33:=by
   rw[av.len]
   have hlow:=jBR hm hf
   refine bD (cY _ _) ?_
   rw[aB,aj hlow]
   exact o.len _ _ (aj hlow)
  refine⟨_,rfl,l,rfl,⟨_,SqL.of hl⟩,jB5 (xs:=us) (fun σ=>∃ v1 v2,σ=[v1,v2]) (mapZ (chAt ch m) fun c=>natV (wk ch (m|||c.2)).length) (mapZ.ok _ _) hl (by rw[aI]; omega) ⟨_,_,rfl⟩ ?_ ?_⟩
  ·rintro j x σ' H' zs hx ⟨v1,v2,rfl⟩ e hz S1 S2 yes no
   obtain⟨c,hc,p,u,rfl,hp,hR⟩:=av.get' hx
   have hR:u=natV (wk ch (m|||c.2)).length:=hR
   subst hR
   refine⟨p,_,rfl,SqT.of (e _ _ hp),rfl,_,_,rfl,_,_,rfl,rfl,?_⟩
   dsimp only [yJ]
   rw[ag rfl]
   exact⟨_,rfl,yes _ _ _ ⟨_,_,rfl⟩ (Ext.refl _) (hz.yes hc)⟩
  ·rintro D H' zs hD e nD hz
   have hz:=hz.all (by rw[av.len]; exact az _)
   have hz2:zs=((chAt ch m).map fun c=>((wk ch (m|||c.2)).length:Int)).map V.int:=by rw[hz,bv]; rfl
   rw[hz2] at hD
   refine⟨D,_,rfl,SqL.of hD,q _ _ ?_ e⟩
   show V.int _=natV _
   rw[jBD o hm hf,jLQ,bv]
   congr 1
   generalize chAt ch m=cs
   induction cs with
   | nil=>rfl
   | cons a r ih=>
    rw[ba,cA,ba,cA,ih]
    push_cast
    rfl
noncomputable abbrev nWays:List Str:=["choices"]
theorem scWays:FnScope nWays ["choices"] (j7 yK):=⟨rfl,rfl,rfl,by decide+kernel,rfl,by decide+kernel,by decide+kernel⟩
abbrev TabW (H:Hp)(tb:Addr):Prop:=TabOk H tb lamP qLam
def jFO:Sp:=spEx (fun x:Addr×Addr×Ch=>ChOk x.2.2) fun x=>jLT x.1 (zhW x.1 x.2.1) x.2.2 (RWay x.2.2)
def jCC (tb:Addr):Sp:=fun vs H Q _=>∃ (L:Addr) (ch:Ch),vs=[.ref L]/\ChAt H L ch/\ChOk ch/\TabW H tb/\∀ (r:Addr) (ns:List Nat) (H':Hp),GotAt H' r ch (RWay ch) ns->ns.Pairwise (· > ·)->MetOk ch ns->ExtT tb H H'->TabW H' tb->H r=none->Q (.ref r) H'
def waysA (T:Txt mg)(CH:PySem.W.CodeHd base c0 tb)(BM:BltAt base mg)(CG:Can P w K mg base "gathered" 4 fG fdG ["choices","at_end","join"] jFO)(hr:Room 4 (XOf nWays "ways_of" yK P w K mg base f (.ref c0) A outer s H0 E).A): { t:TS // JSs (XOf nWays "ways_of" yK P w K mg base f (.ref c0) A outer s H0 E) (jB yK) t} :=
 have nd:=scWays.nd
 ⟨_,(jC (jV (CG.je hr gD (j3 (jv 0 rfl vL) (j3 je_int (j3 (jPX rfl CH BM (fun y hy hf=>absurd hf (by revert y; decide+kernel)) rfl) j6 jOT) jK) j4) j4)))⟩
theorem jNE {fd:FuncData}(F:FunC K "ways_of" "ways_of" yK f fd c0)(T:Txt mg)(CH:PySem.W.CodeHd base c0 tb)(BM:BltAt base mg)(CG:Can P w K mg base "gathered" 4 fG fdG ["choices","at_end","join"] jFO):FnOk P w K mg base CX0 5 f fd ["choices"] (jCC tb):=by
 refine F.ok scWays (fun vs H Q E h=>?_) (fun A outer s H vs Q E hr h=>?_)
 ·obtain⟨_,_,rfl,_⟩:=h
  rfl
 ·obtain⟨L,ch,rfl,hL,o,tab,q⟩:=h
  refine⟨_,(waysA T CH BM CG hr).2.h,?_⟩
  refine⟨_,rfl,tab,fun a c H1 k1 k2 k3 e1 na=>?_⟩
  have hL1:ChAt H1 L ch:=hL.keep (fun b xs h=>e1.at tab h) fun b xs h=>e1.at tab h
  refine⟨(a,c,ch),o,L,_,rfl,hL1,?_,⟨k1,k2⟩,fun r ns H2 got srt mt e2 n2=>?_⟩
  ·show V.int 1=natV _
   rw[jBE]
   rfl
  ·refine q r ns H2 got srt mt (fun b o hb hn=>e2 _ _ (e1 b o hb hn)) (.inr ⟨c,e2 _ _ k3,e2 _ _ k2⟩) ?_
   cases z:H r with
   | none=>rfl
   | some o=>
    by_cases hr:r=tb
    ·rw[hr,k3] at n2
     cases n2
    ·rw[e1 _ _ z hr] at n2
     cases n2
noncomputable abbrev nMany:List Str:=["box"]
theorem scMany:FnScope nMany ["box"] (j7 sMany):=⟨rfl,rfl,rfl,by decide+kernel,rfl,by decide+kernel,by decide+kernel⟩
def jIB (tb:Addr):Sp:=fun vs H Q _=>∃ (b:Addr) (w:Int) (ms:List Int) (pcs:List (List Int×Int)),vs=[.ref b]/\BoxAt H b w ms pcs/\Good 16 32 w ms pcs/\TabW H tb/\∀ H',ExtT tb H H'->TabW H' tb->Q (natV (wk (chs w.toNat ms pcs) 0).length) H'
def manyA (T:Txt mg)(CC:Can P w K mg base "choices_of" 2 fC fdC ["box"] jA9)(CW:Can P w K mg base "ways_of" 5 fW fdW ["choices"] (jCC tb))(hr:Room 5 (XOf nMany "many" sMany P w K mg base f cdv A outer s H0 E).A): { t:TS // JSs (XOf nMany "many" sMany P w K mg base f cdv A outer s H0 E) (jB sMany) t} :=
 have nd:=scMany.nd
 ⟨_,(jC (jV (jC4 (hu_of hr) (CW.je hr gD (j3 (CC.je (hr.mono (by decide)) gD (j3 (jv 0 rfl vL) j6 j4) j4) j6 jJ) jJ) je_int jP)))⟩
theorem jNI {fd:FuncData}(F:Fun K "many" "many" sMany f fd)(T:Txt mg)(CC:Can P w K mg base "choices_of" 2 fC fdC ["box"] jA9)(CW:Can P w K mg base "ways_of" 5 fW fdW ["choices"] (jCC tb)):FnOk P w K mg base CX0 6 f fd ["box"] (jIB tb):=by
 refine F.ok scMany (fun vs H Q E h=>?_) (fun cdv A outer s H vs Q E hr h=>?_)
 ·obtain⟨_,_,_,_,rfl,_⟩:=h
  rfl
 ·obtain⟨b,wi,ms,pcs,rfl,hB,g,tab,q⟩:=h
  refine⟨_,(manyA T CC CW hr).2.h,?_⟩
  refine⟨_,rfl,b,wi,ms,pcs,rfl,hB,g,fun L H1 hL1 e1=>?_⟩
  refine⟨L,_,rfl,hL1,jBV g,tab.ext e1,fun r ns H2 got srt mt e2 t2 n2=>?_⟩
  obtain⟨u,dg,ru⟩:=got0 got srt mt
  have ru:u=natV _:=ru
  subst ru
  exact⟨r,_,rfl,dg,q H2 ((ExtT.of e1).trans e2) t2⟩
end
theorem jLJ (m t:Nat):decide (V.int (Builtin.bitAnd ((m:Int) / 2 ^ ((t:Nat):Int).toNat) 1)=V.int 1)=m.testBit t:=by
 have e:(m:Int) / 2 ^ ((t:Nat):Int).toNat=((m / 2 ^ t:Nat):Int):=by
  rw[aS]
  push_cast
  rfl
 rw[e,show Builtin.bitAnd ((m / 2 ^ t:Nat):Int) 1=((m / 2 ^ t&&&1:Nat):Int) from jC9 _ 1,h9,Nat.testBit_eq_decide_div_mod_eq,bJ,bf,bf]
 constructor
 ·intro h
  have:=V.int.inj h
  omega
 ·intro h
  rw[h]
  rfl
theorem jK7 (m t:Nat):decide (V.int (Builtin.bitAnd ((m:Int) / 2 ^ ((t:Nat):Int).toNat) 1)=V.int 0)=!m.testBit t:=by
 rw[<- jLJ]
 have e:(m:Int) / 2 ^ ((t:Nat):Int).toNat=((m / 2 ^ t:Nat):Int):=by
  rw[aS]
  push_cast
  rfl
 rw[e,show Builtin.bitAnd ((m / 2 ^ t:Nat):Int) 1=((m / 2 ^ t&&&1:Nat):Int) from jC9 _ 1,h9,bJ,bf,dH,cx]
 constructor
 ·intro h z
  have:=V.int.inj h
  have:=V.int.inj z
  omega
 ·intro h
  have:m / 2 ^ t % 2=0:=by
   rcases cc (m / 2 ^ t) with y | y
   ·exact y
   ·exact absurd (by rw[y]; rfl) h
  rw[this]
  rfl
def befW (ch:Ch)(m j:Nat):Nat:=(wJ (((chAt ch m).take j).map fun c=>(c.1,wk ch (m|||c.2)))).length
theorem jLP (c:Int)(ws:List (List Int)):wJ [(c,ws)]=ws.map fun x=>if c<0 then x else c::x:=by
 unfold wJ
 rw[fS,List.flatMap_nil,bg]
theorem jBW {ch:Ch}{m j:Nat}{c:Int×Nat}(h:(chAt ch m)[j]?=some c):befW ch m (j+1)=befW ch m j+(wk ch (m|||c.2)).length:=by
 unfold befW
 rw[bo,h,aK,jCW,ar]
 congr 1
 show (wJ [(c.1,wk ch (m|||c.2))]).length=_
 rw[jLP,aa]
theorem jHC {ch:Ch}{m:Nat}(o:ChOk ch)(h:m<2 ^ ch.length)(hn:m≠fullN ch):befW ch m (chAt ch m).length=(wk ch m).length:=by
 unfold befW
 rw[bI,jBD o h hn]
theorem jLO {ch:Ch}{m j p:Nat}{c:Int×Nat}(o:ChOk ch)(h:m<2 ^ ch.length)(hn:m≠fullN ch)(hc:(chAt ch m)[j]?=some c)(hp:p<(wk ch (m|||c.2)).length):(wk ch m)[befW ch m j+p]?=((wk ch (m|||c.2))[p]?).map fun x=>if c.1<0 then x else c.1::x:=by
 have hj:=(ae.mp hc).1
 have hg:=(ae.mp hc).2
 have e:chAt ch m=(chAt ch m).take j++([c]++(chAt ch m).drop (j+1)):=by
  have:=(br j (chAt ch m)).symm
  rw[fD hj,hg] at this
  exact this
 rw[jBD o h hn]
 conv=>lhs; rw[e]
 rw[aK,aK,jCW,jCW]
 have b:(wJ (((chAt ch m).take j).map fun c=>(c.1,wk ch (m|||c.2)))).length=befW ch m j:=rfl
 rw[aX (by rw[b]; omega),b,bZ]
 have w1:wJ ([c].map fun c=>(c.1,wk ch (m|||c.2)))=(wk ch (m|||c.2)).map fun x=>if c.1<0 then x else c.1::x:=jLP _ _
 rw[w1,bK (by rw[aa]; exact hp),aA]
theorem jK8 {ch:Ch}{m p:Nat}(o:ChOk ch)(h:m<2 ^ ch.length)(hn:m≠fullN ch)(hp:p<(wk ch m).length):∃ j c,(chAt ch m)[j]?=some c/\befW ch m j<=p/\p - befW ch m j<(wk ch (m|||c.2)).length:=by
 have ha:p<befW ch m (chAt ch m).length:=by rw[jHC o h hn]; exact hp
 have key:∀ n,n<=(chAt ch m).length->p<befW ch m n->∃ j c,(chAt ch m)[j]?=some c/\befW ch m j<=p/\p - befW ch m j<(wk ch (m|||c.2)).length:=by
  intro n
  induction n with
  | zero=>intro _ z; exact absurd z (ed _)
  | succ n ih=>
   intro hl z
   rcases eL p (befW ch m n) with q | q
   ·exact ih (by omega) q
   ·have hc:(chAt ch m)[n]?=some ((chAt ch m)[n]'hl):=aj hl
    rw[jBW hc] at z
    exact⟨n,_,hc,q,by omega⟩
 exact key _ (az _) ha
section
variable {P:Program}{w:World}{K:W.Frag}{mg:Str->Option Value}{base:Heap}
variable {f fF fA:Addr}{fdF fdA:FuncData}{cdv:Value}{A:Around}{outer:List Env}{s:Shared}{H0:Hp}{E:XK}
abbrev jGU:List Str:=["choices","ways","place","taken","mask","number","more"]
theorem scAlong:FnScope jGU ["choices","ways","place"] (j7 yL):=⟨rfl,rfl,rfl,by decide+kernel,rfl,by decide+kernel,by decide+kernel⟩
def jDZ:Sp:=fun vs H Q _=>∃ (L r:Addr) (ch:Ch) (ns:List Nat) (n:Nat) (x:List Int),vs=[.ref L, .ref r, .int (n:Int)]/\ChAt H L ch/\ChOk ch/\ch.length<=16/\GotAt H r ch (RWay ch) ns/\ns.Pairwise (· > ·)/\MetOk ch ns/\(wk ch 0)[n]?=some x/\∀ q H',H' q=some (.tup ((srt x).map V.int))->Ext H H'->H q=none->Q (.ref q) H'
def jQB (T:Txt mg)(CF:Can P w K mg base "full_mask" 1 fF fdF ["choices"] jCD)(CA:Can P w K mg base "choices_at" 1 fA fdA ["choices","mask"] spAt)(hr:Room 1 (XOf jGU "covering_along" yL P w K mg base f cdv A outer s H0 E).A): { t:TS // JSs (XOf jGU "covering_along" yL P w K mg base f cdv A outer s H0 E) (jB yL) t} :=
 have nd:=scAlong.nd
 ⟨_,(j9 (jE (i:=3) nd rfl lL (kL j6) jBM)
   (j9 (jE (i:=4) nd rfl lL (je_int) jAX)
   (j9 (jGY bB (jW op_ne (jv 4 rfl vL) (CF.je (hr.mono (by decide)) gD (j3 (jv 0 rfl vL) j6 j4) j4) (jQ _)) (jC (yB bB rfl (yC (CA.je (hr.mono (by decide)) gD (j3 (jv 0 rfl vL) (j3 (jv 4 rfl vL) j6 j4) j4) j4)) (jCR (i:=5) (j:=6) nd rfl rfl (by decide+kernel) (by decide+kernel)) (j9 (yI (jW op_lt (jv 2 rfl vL) (jC4 (hu_of hr) (jv 1 rfl vL) (jL op_or (jv 4 rfl vL) (jv 6 rfl vL)) jD2) (jQ _)) (j9 (jAN (je_bm bb dm dn jAQ (jv 3 rfl vL) (j3 (jv 5 rfl vL) j6 j4) j4) jN)
   (j9 (jGZ (i:=4) nd rfl lL (jv 6 rfl vL) ip_or)
   (jC (⟨jGN⟩)))) kG)
   (jC (jGZ (i:=2) nd rfl lL (jC4 (hu_of hr) (jv 1 rfl vL) (jL op_or (jv 4 rfl vL) (jv 6 rfl vL)) jD2) jQ0))) kI)))
   (jC (jV (jA7 jA3 gD T.tuple (by decide+kernel) (j3 (jI jAG gD T.sorted (by decide+kernel) (j3 (kR (m:=[none]) (Nc:=["number"]) rfl (yC (jv 3 rfl vL)) rfl (by decide+kernel) (by decide+kernel) (kT (psc:=j7 yL) (by decide+kernel)) (jR (N:=jGU) rfl rfl (by decide+kernel)) (fun cl C fp s H=>jG (i:=0) (show (["number"]:List Str).Nodup by decide+kernel) rfl (yM (by decide+kernel))) (fun cl C fp s H=>jJ8 (jW op_ge (jv 0 rfl (jX (by decide+kernel))) (je_int) (jQ _))) (fun cl C fp s H=>(jv 0 rfl (jX (by decide+kernel)))) yE) j6 jO) jO) j6 jJ) jJ))))))⟩
end
theorem jM6 {H:Hp}{r:Addr}{ch:Ch}{ns:List Nat}{m c:Nat}(g:GotAt H r ch (RWay ch) ns)(nd:ns.Pairwise (· > ·))(h:(m|||c)∈ns):DGet H r (.int (Builtin.bitOr (m:Int) (c:Int))) (some (natV (wk ch (m|||c)).length)):=by
 obtain⟨us,h1,h2⟩:=g.ex
 obtain⟨u,hu,ru⟩:=jCL h2 (nd.imp fun {a b} h=>by omega) h
 have ru:u=natV _:=ru
 subst ru
 rw[jAE]
 have:=DGet.k (k:=Sum.inl (((m|||c:Nat):Nat):Int)) h1
 rw[hu] at this
 exact this
theorem GotAt.ext {H H':Hp}{r:Addr}{ch:Ch}{ns:List Nat}(g:GotAt H r ch (RWay ch) ns)(e:Ext H H'):GotAt H' r ch (RWay ch) ns:=let ⟨us,a,b⟩:=g.ex; ⟨us,e _ _ a,b⟩
section
variable {P:Program}{w:World}{K:W.Frag}{mg:Str->Option Value}{base:Heap}
variable {f fF fA:Addr}{fdF fdA:FuncData}{cdv:Value}{A:Around}{outer:List Env}{s:Shared}{H0:Hp}{E:XK}
theorem jKT {fd:FuncData}(F:Fun K "covering_along" "covering_along" yL f fd)(T:Txt mg)(CF:Can P w K mg base "full_mask" 1 fF fdF ["choices"] jCD)(CA:Can P w K mg base "choices_at" 1 fA fdA ["choices","mask"] spAt):FnOk P w K mg base CX0 2 f fd ["choices","ways","place"] jDZ:=by
 refine F.ok scAlong (fun vs H Q E h=>?_) (fun cdv A outer s H vs Q E hr h=>?_)
 ·obtain⟨_,_,_,_,_,_,rfl,_⟩:=h
  rfl
 ·obtain⟨L,r,ch,ns,n,x,rfl,hL,o,w16,got,srt',mt,hx,q⟩:=h
  refine⟨_,(jQB T CF CA hr).2.h,?_⟩
  have p16:2 ^ ch.length<=2 ^ 16:=bS (by decide) w16
  have x16:=(jOL o 0 (cQ _) x (ao hx)).2
  refine⟨by show (0:Nat)<=_; decide,fun l H1 d1 e1 n1=>?_⟩
  refine⟨fun k σ H'=>∃ (m p:Nat) (ks y:List Int) (v5 v6:Option V),σ=[some (.ref L),some (.ref r),some (natV p),some (.ref l),some (natV m),v5,v6]/\Ext H H'/\H' l=some (.lst (ks.map V.int))/\m∈ns/\(wk ch m)[p]?=some y/\x=(ks.filter fun z=>decide (0<=z))++y/\ks.length<=m/\k=fullN ch - m,⟨_,0,n,[],x,_,_,rfl,e1,d1,mt.zero,hx,rfl,az _,rfl⟩,?_⟩
  rintro k σ H2 ⟨m,p,ks,y,v5,v6,rfl,e2,hl2,hm,hy,hxe,hkl,rfl⟩
  have hm2:=mt.bnd m hm
  refine⟨_,rfl,_,rfl,L,ch,rfl,hL.ext e2,w16,rfl,_,rfl,?_⟩
  have nf:(!decide (natV m=natV (fullN ch)))=true↔m≠fullN ch:=by
   rw[dH,cx]
   refine not_congr ⟨fun h=>?_,fun h=>by rw[h]⟩
   have:=V.int.inj h
   omega
  refine ite2 (fun h=>?_) (fun h=>?_)
  ·have h:=nf.mp h
   have hml:m<fullN ch:=by unfold fullN at h ⊢; omega
   refine⟨fun σ' H'=>∃ (m' p:Nat) (ks y:List Int) (v5 v6:Option V),σ'=[some (.ref L),some (.ref r),some (natV p),some (.ref l),some (natV m'),v5,v6]/\Ext H H'/\H' l=some (.lst (ks.map V.int))/\m'∈ns/\(wk ch m')[p]?=some y/\x=(ks.filter fun z=>decide (0<=z))++y/\ks.length<=m'/\m<m',fun σ' H' ⟨m',p,ks,y,v5,v6,a1,a2,a3,a4,a5,a6,a7,a8⟩=>⟨fullN ch - m',by omega,m',p,ks,y,v5,v6,a1,a2,a3,a4,a5,a6,a7,rfl⟩,?_⟩
   refine⟨_,rfl,_,rfl,L,ch,m,rfl,hL.ext e2,o,hm2,h,fun r3 H3 ⟨vs,hr3,av⟩ e3 n3=>?_⟩
   have E3:=e2.trans e3
   have hl3:=e3 _ _ hl2
   have pl:=(ae.mp hy).1
   refine⟨r3,rfl,⟨_,SqL.of hr3⟩,jBU (xs:=vs) (fun i σ H'=>H'=H3/\befW ch m i<=p/\∃ v5 v6,σ=[some (.ref L),some (.ref r),some (natV (p - befW ch m i)),some (.ref l),some (natV m),v5,v6]) ⟨rfl,bH _,_,_,rfl⟩ (fun i σ H' _ ⟨e,_⟩=>by rw[e]; exact SqL.of hr3) ?_ ?_⟩
   ·rintro i z σ H' hz ⟨rfl,hb,v5,v6,rfl⟩
    obtain⟨c,hc,qa,rfl,hq⟩:=av.get' hz
    have hcm:=ao hc
    obtain⟨u1,u2⟩:=o.up hm2 h hcm
    have un:=mt.up m hm h c hcm
    have dg:=jM6 (got.ext E3) srt' un
    refine⟨qa,_,rfl,SqT.of hq,rfl,_,_,rfl,_,_,rfl,rfl,?_⟩
    refine⟨_,rfl,_,rfl,_,rfl,_,rfl,_,_,rfl,rfl,r,_,rfl,dg,_,_,rfl,rfl,_,rfl,?_⟩
    refine ite2 (fun h'=>?_) (fun h'=>?_)
    ·have lt:p - befW ch m i<(wk ch (m|||c.2)).length:=by
      have:=aO h'
      omega
     refine⟨_,rfl, .inl ⟨rfl,_,SqL.of hl3⟩,_,rfl,l,_,_,rfl,rfl,hl3,by rw[aa,aI]; omega,?_⟩
     refine⟨_,rfl,_,rfl,_,_,rfl,rfl,?_⟩
     rw[jAE]
     have g1:=jLO o hm2 h hc lt
     rw[show befW ch m i+(p - befW ch m i)=p by omega,hy] at g1
     obtain⟨y',hy'⟩:∃ y',(wk ch (m|||c.2))[p - befW ch m i]?=some y':=⟨_,aj lt⟩
     rw[hy'] at g1
     have g1:y=if c.1<0 then y' else c.1::y':=aW g1
     refine⟨m|||c.2,p - befW ch m i,ks++[c.1],y',_,_,rfl,E3.updNew n1 _,?_,un,hy',?_,by rw[ar]; show _+1<=_; omega,u1⟩
     ·rw[j8,aK]; rfl
     ·rw[hxe,g1,cV]
      by_cases c0:c.1<0
      ·rw[ag c0,eB (by simp; omega),gJ,bg]
      ·rw[af c0,eC (by simp; omega),gJ,aE]
       rfl
    ·have ge:(wk ch (m|||c.2)).length<=p - befW ch m i:=by
      have h3:¬ (((p - befW ch m i:Nat):Int)<((wk ch (m|||c.2)).length:Int)):=fun z=>h' (aG z)
      omega
     refine⟨_,rfl,_,rfl,_,rfl,_,rfl,_,_,rfl,rfl,r,_,rfl,dg,_,_,rfl,rfl,rfl,by rw[jBW hc]; omega,some (.int c.1),some (natV c.2),?_⟩
     rw[jBW hc]
     show [_,_,some (V.int (((p - befW ch m i:Nat):Int) - ((wk ch (m|||c.2)).length:Int))),_,_,_,_]=_
     rw[show ((p - befW ch m i:Nat):Int) - ((wk ch (m|||c.2)).length:Int)=((p - (befW ch m i+(wk ch (m|||c.2)).length):Nat):Int) by omega]
   ·rintro σ H' ⟨rfl,hb,v5,v6,rfl⟩
    rw[av.len,jHC o hm2 h] at hb
    omega
  ·have h:m=fullN ch:=bF fun z=>h (nf.mpr z)
   subst h
   rw[jBE] at hy
   have y0:y=[]:=by
    cases p with
    | zero=>exact(aW hy).symm
    | succ p=>cases hy
   subst y0
   rw[bg] at hxe
   refine⟨_,rfl,l,rfl,⟨_,SqL.of hl2⟩,jB5 (xs:=ks.map V.int) (fun σ=>∃ v,σ=[v]) (outZ ks (fun z=>decide (0<=z)) V.int) (outZ.ok _ _ _) hl2 (by rw[aa,aI]; omega) ⟨_,rfl⟩ ?_ ?_⟩
   ·rintro j z σ' H' zs hz ⟨v,rfl⟩ e hzz S1 S2 yes no
    obtain⟨k,hk,rfl⟩:=jH0 hz
    refine⟨_,rfl,_,_,rfl,rfl,_,rfl,?_⟩
    refine ite2 (fun h'=>?_) (fun h'=>?_)
    ·exact⟨_,rfl,yes _ _ _ ⟨_,rfl⟩ (Ext.refl _) (hzz.yes hk h')⟩
    ·exact no _ _ ⟨_,rfl⟩ (Ext.refl _) (hzz.no hk (Bool.eq_false_iff.mpr h'))
   ·rintro D H3 zs h3 e3 n3 hz
    have hz:=hz.all (by rw[aa]; exact az _)
    rw[<- hxe] at hz
    subst hz
    refine⟨D,_,rfl,SqL.of h3,by omega,fun l3 ns' hl3 hs3 hp3=>?_⟩
    have ens:=jD0 hs3 hp3
    subst ens
    have e4:Ext H3 (L2.upd H3 l3 (.lst ((srt x).map V.int))):=(Ext.refl _).new hl3 _
    have f4:(L2.upd H3 l3 (.lst ((srt x).map V.int))) l3=some (.lst ((srt x).map V.int)):=j8
    generalize L2.upd H3 l3 (.lst ((srt x).map V.int))=H4 at e4 f4
    refine⟨l3,_,rfl, .inl ⟨SqL.of f4,fun q5 hq5=>?_⟩⟩
    have E4:=(e2.trans e3).trans e4
    exact q q5 _ j8 (E4.trans ((Ext.refl _).new hq5 _)) (jM0 E4 hq5)
end
def rkP (pcs:List (List Int×Int))(x:List Int)(t:Int):Int:=((x.filter fun k=>decide (t∈j5 pcs k))++[-1]).headD 0
def rkL (w:Nat)(pcs:List (List Int×Int))(x:List Int):List Int:=(upto w).map (rkP pcs x)
section
variable {pcs:List (List Int×Int)}{x y:List Int}{t k:Int}
theorem jIG (h:t∈j5 pcs k):rkP pcs (k::x) t=k:=by
 unfold rkP
 rw[eC (by simpa using h)]
 rfl
theorem rk_no (h:t∉j5 pcs k):rkP pcs (k::x) t=rkP pcs x t:=by
 unfold rkP
 rw[eB (by simpa using h)]
theorem jFR (h:∀ k∈x,t∉j5 pcs k):rkP pcs x t= -1:=by
 unfold rkP
 rw[List.filter_eq_nil_iff.mpr fun k hk=>by simpa using h k hk]
 rfl
theorem rk_is (hk:k∈x)(ht:t∈j5 pcs k)(u:∀ k'∈x,t∈j5 pcs k'->k'=k):rkP pcs x t=k:=by
 induction x with
 | nil=>cases hk
 | cons a r ih=>
  by_cases h:t∈j5 pcs a
  ·rw[jIG h]
   exact u a (aH ..) h
  ·rw[rk_no h]
   rcases aR.mp hk with z | z
   ·rw[z] at ht
    exact absurd ht h
   ·exact ih z fun k' hk'=>u k' (aq _ hk')
theorem jIH (h:∀ k,k∈x↔k∈y)(d:∀ k∈x,∀ k'∈x,k≠k'->∀ t∈j5 pcs k,t∉j5 pcs k'):rkP pcs x t=rkP pcs y t:=by
 by_cases e:∃ k∈x,t∈j5 pcs k
 ·obtain⟨k,hk,ht⟩:=e
  have u:∀ k'∈x,t∈j5 pcs k'->k'=k:=fun k' hk' ht'=>bF fun n=>d k' hk' k hk n t ht' ht
  rw[rk_is hk ht u,rk_is ((h k).mp hk) ht fun k' hk'=>u k' ((h k').mpr hk')]
 ·have e1:∀ k∈x,t∉j5 pcs k:=fun k hk ht=>e ⟨k,hk,ht⟩
  rw[jFR e1,jFR fun k hk=>e1 k ((h k).mpr hk)]
end
theorem jMN (w:Nat)(pcs:List (List Int×Int))(x:List Int):(rkL w pcs x).length=w:=by
 unfold rkL
 rw[aa,jT]
theorem jMO {w t:Nat}{pcs:List (List Int×Int)}{x:List Int}(h:t<w):(rkL w pcs x)[t]?=some (rkP pcs x (t:Int)):=by
 unfold rkL
 rw[aA,kN h]
 rfl
theorem jOE {w:Int}{ms:List Int}{pcs:List (List Int×Int)}{m:Nat}(hl:lowN m<w.toNat):(chAt (chs w.toNat ms pcs) m).Pairwise fun a b=>a.1<b.1:=by
 unfold chAt
 refine gY _ ?_
 unfold chs
 rw[aB,jA8 hl]
 show (yF ms pcs pcs.length (lowN m)).Pairwise _
 unfold yF
 have up:∀ n:Nat,(((upto pcs.length).take n).filter fun k=>decide ((j5 pcs k).headD 0=(lowN m:Int))).Pairwise (· < ·):=fun n=>gY _ ((jAW pcs.length).ris.sublist (cB _ _))
 refine cM.mpr ⟨?_,cC.mpr (up _),?_⟩
 ·split
  ·exact cP _ _
  ·exact List.Pairwise.nil
 ·intro a ha b hb
  obtain⟨k,hk,rfl⟩:=aN.mp hb
  have:=(jAW pcs.length).bnd k (bR (ce.mp hk).1)
  split at ha
  ·rw[ay.mp ha]
   show (-1:Int)<k
   omega
  ·cases ha
section
variable {w:Int}{ms:List Int}{pcs:List (List Int×Int)}(g:Good 16 32 w ms pcs)
include g
theorem wk_rk {m:Nat}(hm:m<2 ^ (chs w.toNat ms pcs).length)(hn:m≠fullN (chs w.toNat ms pcs)){c:Int×Nat}(hc:c∈chAt (chs w.toNat ms pcs) m){y:List Int}(hy:y∈wk (chs w.toNat ms pcs) (m|||c.2)):
  (∀ t:Nat,c.2.testBit t=true->rkP pcs (if c.1<0 then y else c.1::y) t=c.1)/\(∀ t:Nat,c.2.testBit t=false->rkP pcs (if c.1<0 then y else c.1::y) t=rkP pcs y t):=by
 have o:=jBV (n:=pcs.length) g
 have hl:lowN m<w.toNat:=by
  have:=jBR hm hn
  unfold chs at this
  rwa [kP] at this
 have u:=o.up hm hn hc
 have S:=jCJ g _ u.2 y hy
 rcases ((jCP hl).mp hc).2 with ⟨rfl,h2⟩ | ⟨k,rfl,k0,k1,h2⟩
 ·refine⟨fun t ht=>?_,fun t ht=>?_⟩
  ·rw[ag (by show (-1:Int)<0; decide)]
   refine jFR fun k hk z=>?_
   have:=S.off k hk _ z
   rw[aS,bC,ht,fi] at this
   cases this
  ·rw[ag (by show (-1:Int)<0; decide)]
 ·refine⟨fun t ht=>?_,fun t ht=>?_⟩
  ·rw[af (by show ¬ k<0; omega)]
   rw[show (k,maskN (j5 pcs k)).2=maskN (j5 pcs k) from rfl,jBP g k0 k1] at ht
   exact jIG (aO ht)
  ·rw[af (by show ¬ k<0; omega)]
   rw[show (k,maskN (j5 pcs k)).2=maskN (j5 pcs k) from rfl,jBP g k0 k1] at ht
   exact rk_no (ek ht)
end
theorem jFX {n:Int}{ks:List Int}(h:ks.Pairwise (· < ·))(hb:∀ k∈ks,0<=k/\k<n):lotB n (.tup (ks.map Ob.int))=true:=by
 have hv:(ks.map Ob.int).map val=ks:=by rw[bv]; exact im _
 show ((ks.map Ob.int).all (upB 0 (n - 1))&&(adj ((ks.map Ob.int).map val)).all id)=true
 rw[hv,bO,bE,bE]
 refine⟨fun x hx=>?_,fun x hx=>?_⟩
 ·obtain⟨k,hk,rfl⟩:=aN.mp hx
  have:=hb k hk
  show (decide (0<=k)&&decide (k<=n - 1))=true
  rw[aG (by omega),aG (by omega)]
  rfl
 ·unfold adj at hx
  obtain⟨i,hi,rfl⟩:=aN.mp hx
  have hi:=bN.mp hi
  refine aG ?_
  rw[jJL (by omega),jJL (by omega)]
  exact bU.mp h i (i+1) (by omega) (by omega) (by omega)
theorem jET {H:Hp}{vs:List V}{pcs:List (List Int×Int)}(h:PcsAt H vs pcs){k:Int}(h0:0<=k)(h1:k<pcs.length):∃ a q,atI vs k=some (.ref a)/\H a=some (.tup [.ref q, .int (pcs.getD k.toNat ([],0)).2])/\H q=some (.tup ((j5 pcs k).map V.int)):=by
 obtain⟨v,hv,a,q,rfl,b1,b2⟩:=h.get (k:=k.toNat) (by omega)
 refine⟨a,q,?_,b1,b2⟩
 have e:((k.toNat:Nat):Int)=k:=by omega
 have:=kU hv
 rw[e] at this
 exact this
theorem jH4 {f:Int->List Int} :∀ {ks:List Int},(∀ k∈ks,(f k).length<=16)->∀ (i:Nat),ks.length<=i->(ks.flatMap f).length<=16*i
 | [],_,_,_=>by rw[List.flatMap_nil]; exact bH _
 | a::r,h,i,hi=>by
  rw[fS,ar]
  have h1:=h a aH
  rw[bq] at hi
  have:=jH4 (f:=f) (ks:=r) (fun k hk=>h k (aq _ hk)) (i - 1) (by omega)
  omega
theorem jNT {w:Int}{ts:List Int}(h:ts.Pairwise (· < ·))(b:∀ z∈ts,0<=z/\z<w)(hw:w<=16):ts.length<=16:=by
 have:=jBF ts 0 w h b
 omega
theorem jHG {w:Int}{ms:List Int}{pcs:List (List Int×Int)}(g:Good 16 32 w ms pcs){k:Int}(h0:0<=k)(h1:k<pcs.length):(j5 pcs k).length<=16:=by
 have:=g.at (k:=k.toNat) (by omega)
 exact jNT this.lot.ris this.lot.bnd g.w1
section
variable {P:Program}{w:World}{K:W.Frag}{mg:Str->Option Value}{base:Heap}
variable {f fF fA:Addr}{fdF fdA:FuncData}{cdv:Value}{A:Around}{outer:List Env}{s:Shared}{H0:Hp}{E:XK}
theorem jO2 {n j:Nat}(h:j<n):ixN n (j:Int)=some j:=by
 unfold ixN
 simp
 omega
noncomputable abbrev nRank:List Str:=["box","covering","rank","number","thing"]
theorem scRank:FnScope nRank ["box","covering"] (j7 sRank):=⟨rfl,rfl,rfl,by decide+kernel,rfl,by decide+kernel,by decide+kernel⟩
def jGG:Sp:=fun vs H Q _=>∃ (b a:Addr) (w:Int) (ms:List Int) (pcs:List (List Int×Int)) (c:List Int),vs=[.ref b, .ref a]/\BoxAt H b w ms pcs/\Good 16 32 w ms pcs/\H a=some (.tup (c.map V.int))/\IsCov w ms pcs c/\∀ q H',H' q=some (.tup ((rkL w.toNat pcs c).map V.int))->Ext H H'->Q (.ref q) H'
def rankA (T:Txt mg)(hr:Room 1 (XOf nRank "rank_of" sRank P w K mg base f cdv A outer s H0 E).A): { t:TS // JSs (XOf nRank "rank_of" sRank P w K mg base f cdv A outer s H0 E) (jB sRank) t} :=
 have nd:=scRank.nd
 ⟨_,(j9 (jE (i:=2) nd rfl lL (jL jGP (kL (j3 (je_un jI1 (je_int)) j6 se_un)) (kE kQ (jv 0 rfl vL) (je_int) jP)) jBN)
   (j9 (yB bB rfl (jDC (jv 1 rfl vL)) (jG (i:=3) nd rfl lL) (jC (yB bB rfl (jDC (kE kQ (kE kQ (kE kQ (jv 0 rfl vL) (je_int) jP) (jv 3 rfl vL) jAP) (je_int) jP)) (jG (i:=4) nd rfl lL) (jC (jM3 (jv 3 rfl vL) (jPV (jv 2 rfl vL) (jv 4 rfl vL) jGJ))) jM7)) yE)
   (jC (jV (jA7 jA3 gD T.tuple (by decide+kernel) (j3 (jv 2 rfl vL) j6 j4) j4)))))⟩
theorem jNG {fd:FuncData}(F:Fun K "rank_of" "rank_of" sRank f fd)(T:Txt mg):FnOk P w K mg base CX0 2 f fd ["box","covering"] jGG:=by
 refine F.ok scRank (fun vs H Q E h=>?_) (fun cdv A outer s H vs Q E hr h=>?_)
 ·obtain⟨_,_,_,_,_,_,rfl,_⟩:=h
  rfl
 ·obtain⟨b,a,wi,ms,pcs,c,rfl,hB,g,ha,C,q⟩:=h
  refine⟨_,(rankA T hr).2.h,?_⟩
  obtain⟨qm,qp,ps,b1,b2,b3,b4⟩:=id hB.ex
  have w0:=g.w0
  have w1:=g.w1
  have cl:=jBF c 0 _ C.ris.ris C.ris.bnd
  have gl:=g.pl
  refine⟨1,rfl,by show (1:Nat)<=_; decide,fun l0 H1 d1 e1 n1=>?_⟩
  refine⟨_,rfl,b,_,0,_,rfl,rfl,SqT.of (e1 _ _ b1),rfl,l0,wi,_,rfl,rfl,d1,by omega,by omega,by rw[aI]; show 1*_<=_; omega,fun l nl=>?_⟩
  have e2:Ext H1 (L2.upd H1 l (.lst (replicate wi.toNat [V.int (-1)]).flatten)):=(Ext.refl _).new nl _
  have hl0:(L2.upd H1 l (.lst (replicate wi.toNat [V.int (-1)]).flatten)) l=some (.lst ((rkL wi.toNat pcs []).map V.int)):=by
   rw[j8]
   congr 2
   unfold rkL
   have:∀ n:Nat,(replicate n [V.int (-1)]).flatten=((upto n).map (rkP pcs [])).map V.int:=fun n=>by
    refine dI fun i=>?_
    rw[aA,aA]
    rw[show (replicate n [V.int (-1)]).flatten=replicate n (V.int (-1)) by
     induction n with
     | zero=>rfl
     | succ n ih=>rw[cj,dF,ih,cj]; rfl,ev]
    by_cases hi:i<n
    ·rw[ag hi,kN hi]
     rfl
    ·rw[af hi,cq (by rw[jT]; omega)]
     rfl
   exact this _
  generalize L2.upd H1 l (.lst (replicate wi.toNat [V.int (-1)]).flatten)=H2 at e2 hl0
  have E2:=e1.trans e2
  have nH:H l=none:=jM0 e1 nl
  refine⟨_,rfl,a,rfl,⟨_,SqT.of (E2 _ _ ha)⟩,jG3 (xs:=c.map V.int) (fun i σ H'=>(∃ v3 v4,σ=[some (.ref b),some (.ref a),some (.ref l),v3,v4])/\Ext H H'/\H' l=some (.lst ((rkL wi.toNat pcs (c.take i)).map V.int))) ⟨⟨_,_,rfl⟩,E2,hl0⟩ (fun i σ H' _ ⟨_,e,_⟩=>SqT.of (e _ _ ha)) ?_ ?_⟩
  ·rintro i v σ H3 hv ⟨⟨v3,v4,rfl⟩,e3,hl3⟩
   obtain⟨k,hk,rfl⟩:=jH0 hv
   have km:=ao hk
   have kb:=C.ris.bnd k km
   obtain⟨pa,pq,g1,g2,g3⟩:=jET b4 kb.1 kb.2
   have kg:=y4 g kb.1 kb.2
   have tk:c.take (i+1)=c.take i++[k]:=by rw[bo,hk]; rfl
   have stp:∀ t:Int,rkP pcs (c.take (i+1)) t=if t∈j5 pcs k then k else rkP pcs (c.take i) t:=fun t=>by
    have il:=(ae.mp hk).1
    have cn:c.Nodup:=C.ris.ris.imp fun {a b} h=>by omega
    have sub:∀ z∈c.take (i+1),z∈c:=fun z hz=>bR hz
    have dj:∀ k∈c.take (i+1),∀ k'∈c.take (i+1),k≠k'->∀ t∈j5 pcs k,t∉j5 pcs k':=fun x hx y hy=>C.dis x (sub x hx) y (sub y hy)
    rw[jIH (y:=k::c.take i) (fun z=>by rw[tk,ax,ay,aR,or_comm]) dj]
    by_cases h:t∈j5 pcs k
    ·rw[ag h,jIG h]
    ·rw[af h,rk_no h]
   refine⟨_,rfl,b,_,2,_,rfl,rfl,SqT.of (e3 _ _ b1),rfl,_,rfl,qp,_,k,_,rfl,rfl,SqT.of (e3 _ _ b3),g1,pa,_,0,_,rfl,rfl,SqT.of (e3 _ _ g2),rfl,pq,rfl,⟨_,SqT.of (e3 _ _ g3)⟩,jG3 (xs:=(j5 pcs k).map V.int) (fun j σ H'=>(∃ v4,σ=[some (.ref b),some (.ref a),some (.ref l),some (.int k),v4])/\Ext H H'/\H' l=some (.lst (((upto wi.toNat).map fun t=>if t∈(j5 pcs k).take j then k else rkP pcs (c.take i) t).map V.int))) ⟨⟨_,rfl⟩,e3,by rw[hl3]; rfl⟩ (fun i σ H' _ ⟨_,e,_⟩=>SqT.of (e _ _ g3)) ?_ ?_⟩
   ·rintro j v σ H4 hv ⟨⟨v4,rfl⟩,e4,hl4⟩
    obtain⟨t,ht,rfl⟩:=jH0 hv
    have tm:=ao ht
    have tb:=kg.bnd t tm
    refine⟨_,rfl,_,rfl,_,rfl,l,_,t,t.toNat,rfl,rfl,hl4,?_,⟨_,rfl⟩,e4.updNew nH _,?_⟩
    ·rw[aa,aa,jT]
     have:=jO2 (n:=wi.toNat) (j:=t.toNat) (by omega)
     rwa [show ((t.toNat:Nat):Int)=t by omega] at this
    ·rw[j8]
     congr 2
     have tk2:(j5 pcs k).take (j+1)=(j5 pcs k).take j++[t]:=by rw[bo,ht]; rfl
     rw[tk2]
     refine dI fun i'=>?_
     rw[fQ,aA,aA,aA,aA,aa,aa,jT]
     by_cases hi:t.toNat=i'
     ·subst hi
      rw[ag rfl,ag (by omega),kN (by omega)]
      show _=some (V.int (if ((t.toNat:Nat):Int)∈_ then k else _))
      rw[show ((t.toNat:Nat):Int)=t by omega,ag (aJ _ (ay.mpr rfl))]
     ·rw[af hi]
      cases hu:(upto wi.toNat)[i']? with
      | none=>rfl
      | some u=>
       have hu2:u≠t:=fun z=>by
        have il:i'<wi.toNat:=by have:=(ae.mp hu).1; rwa [jT] at this
        rw[kN il] at hu
        have:=aW hu
        omega
       show some (V.int (if u∈(j5 pcs k).take j then k else _))=some (V.int (if u∈(j5 pcs k).take j++[t] then k else _))
       have hm:u∈(j5 pcs k).take j++[t]↔u∈(j5 pcs k).take j:=by
        rw[ax,ay]
        exact⟨fun z=>z.resolve_right hu2,fun z=> .inl z⟩
       by_cases h:u∈(j5 pcs k).take j
       ·rw[ag h,ag (hm.mpr h)]
       ·rw[af h,af fun z=>h (hm.mp z)]
   ·rintro σ H4 ⟨⟨v4,rfl⟩,e4,hl4⟩
    refine⟨⟨_,_,rfl⟩,e4,?_⟩
    rw[hl4,aa,bI]
    congr 3
    unfold rkL
    exact bx fun t _=>(stp t).symm
  ·rintro σ H3 ⟨⟨v3,v4,rfl⟩,e3,hl3⟩
   rw[aa,bI] at hl3
   refine⟨_,rfl,l,_,rfl, .inl ⟨SqL.of hl3,fun q5 hq5=>?_⟩⟩
   exact q q5 _ j8 (e3.trans ((Ext.refl _).new hq5 _))
abbrev jIY:List Str:=["choices","ways","rank","place","mask","thing","number","more"]
theorem scPlace:FnScope jIY ["choices","ways","rank"] (j7 jB9):=⟨rfl,rfl,rfl,by decide+kernel,rfl,by decide+kernel,by decide+kernel⟩
def jDY:Sp:=fun vs H Q _=>∃ (L r a:Addr) (w:Int) (ms:List Int) (pcs:List (List Int×Int)) (ns:List Nat) (n:Nat) (x:List Int),vs=[.ref L, .ref r, .ref a]/\Good 16 32 w ms pcs/\ChAt H L (chs w.toNat ms pcs)/\GotAt H r (chs w.toNat ms pcs) (RWay (chs w.toNat ms pcs)) ns/\ns.Pairwise (· > ·)/\MetOk (chs w.toNat ms pcs) ns/\H a=some (.tup ((rkL w.toNat pcs x).map V.int))/\(wk (chs w.toNat ms pcs) 0)[n]?=some x/\∀ H',Ext H H'->Q (natV n) H'
def jP3 (T:Txt mg)(CA:Can P w K mg base "choices_at" 1 fA fdA ["choices","mask"] spAt)(hr:Room 1 (XOf jIY "place_of" jB9 P w K mg base f cdv A outer s H0 E).A): { t:TS // JSs (XOf jIY "place_of" jB9 P w K mg base f cdv A outer s H0 E) (jB jB9) t} :=
 have nd:=scPlace.nd
 ⟨_,(j9 (jE (i:=3) nd rfl lL (je_int) jAX)
   (j9 (jE (i:=4) nd rfl lL (je_int) jAX)
   (j9 (yB bB rfl (jA6 gD T.range (j3 (jI jA0 gD T.len (by decide+kernel) (j3 (jv 2 rfl vL) j6 j4) j4) j6 jJ) jJ) (jG (i:=5) nd rfl lL) (jC (yI (jW op_eq (jL jIS (jL jPC (jv 4 rfl vL) (jv 5 rfl vL)) (je_int)) (je_int) (jQ _)) (jC (yB bB rfl (yC (CA.je hr gD (j3 (jv 0 rfl vL) (j3 (jv 4 rfl vL) j6 j4) j4) j4)) (jCR (i:=6) (j:=7) nd rfl rfl (by decide+kernel) (by decide+kernel)) (j9 (yI (jW op_eq (jv 6 rfl vL) (kE kQ (jv 2 rfl vL) (jv 5 rfl vL) jAP) (jQ _)) (j9 (jGZ (i:=4) nd rfl lL (jv 7 rfl vL) ip_or)
   (jC (⟨jGN⟩))) kG)
   (jC (jGZ (i:=3) nd rfl lL (jC4 (hu_of hr) (jv 1 rfl vL) (jL op_or (jv 4 rfl vL) (jv 7 rfl vL)) jD2) jQ1))) kI)) kG)) kI)
   (jC (jV (jv 3 rfl vL))))))⟩
theorem jKO {fd:FuncData}(F:Fun K "place_of" "place_of" jB9 f fd)(T:Txt mg)(CA:Can P w K mg base "choices_at" 1 fA fdA ["choices","mask"] spAt):FnOk P w K mg base CX0 2 f fd ["choices","ways","rank"] jDY:=by
 refine F.ok scPlace (fun vs H Q E h=>?_) (fun cdv A outer s H vs Q E hr h=>?_)
 ·obtain⟨_,_,_,_,_,_,_,_,_,rfl,_⟩:=h
  rfl
 ·obtain⟨L,r,a,wi,ms,pcs,ns,n,x,rfl,g,hL,got,srt',mt,ha,hx,q⟩:=h
  refine⟨_,(jP3 T CA hr).2.h,?_⟩
  have o:ChOk (chs wi.toNat ms pcs):=jBV g
  have w0:=g.w0
  have w1:=g.w1
  have cl:(chs wi.toNat ms pcs).length=wi.toNat:=kP _ _ _ _
  have rl:=jMN wi.toNat pcs x
  refine⟨_,rfl,a,_,rfl, .inr (SqT.of ha),?_⟩
  rw[aa,rl]
  refine⟨(wi.toNat:Int),rfl,by omega,by omega,jAJ (n:=wi.toNat) (fun t σ H'=>Ext H H'/\∃ (m k p:Nat) (y:List Int) (v5 v6 v7:Option V),σ=[some (.ref L),some (.ref r),some (.ref a),some (natV k),some (natV m),v5,v6,v7]/\m∈ns/\(wk (chs wi.toNat ms pcs) m)[p]?=some y/\k+p=n/\(∀ j,j<t->m.testBit j=true)/\∀ j:Nat,m.testBit j=false->rkP pcs x j=rkP pcs y j) ⟨Ext.refl _,0,0,n,x,_,_,_,rfl,mt.zero,hx,by omega,fun j hj=>absurd hj (ed _),fun j _=>rfl⟩ ?_ ?_⟩
  ·rintro t σ H2 ht ⟨e2,m,k,p,y,v5,v6,v7,rfl,hm,hy,hkp,hb,hrk⟩
   have e0:(0+(t:Int))=(t:Int):=by omega
   have hm2:=mt.bnd m hm
   rw[e0]
   refine⟨_,rfl,_,rfl,_,_,rfl,rfl,by omega,_,_,rfl,rfl,rfl,_,rfl,?_⟩
   rw[jK7]
   refine ite2 (fun h=>?_) (fun h=>?_)
   ·have bt:m.testBit t=false:=by simpa using h
    have hlow:=jJ3 bt hb
    have hn:m≠fullN (chs wi.toNat ms pcs):=fun z=>by
     rw[z] at bt
     unfold fullN at bt
     rw[bA,cl,aG ht] at bt
     cases bt
    refine⟨_,rfl,_,rfl,L,_,m,rfl,hL.ext e2,o,hm2,hn,fun r3 H3 ⟨vs,hr3,av⟩ e3 n3=>?_⟩
    have E3:=e2.trans e3
    have pl:=(ae.mp hy).1
    obtain⟨j,c,hc,b1,b2⟩:=jK8 o hm2 hn pl
    have hcm:=ao hc
    have g1:=jLO o hm2 hn hc b2
    rw[show befW (chs wi.toNat ms pcs) m j+(p - befW (chs wi.toNat ms pcs) m j)=p by omega,hy] at g1
    obtain⟨y',hy'⟩:∃ y',(wk (chs wi.toNat ms pcs) (m|||c.2))[p - befW (chs wi.toNat ms pcs) m j]?=some y':=⟨_,aj b2⟩
    rw[hy'] at g1
    have g1:y=if c.1<0 then y' else c.1::y':=aW g1
    obtain⟨r1,r2⟩:=wk_rk g hm2 hn hcm (ao hy')
    rw[<- g1] at r1 r2
    obtain⟨cb,_,_,_,_⟩:=o.mem hm2 hn hcm
    rw[hlow] at cb
    have rt:rkP pcs x (t:Int)=c.1:=(hrk t bt).trans (r1 t cb)
    have clt:=jOE (w:=wi) (ms:=ms) (pcs:=pcs) (m:=m) (by rw[hlow]; exact ht)
    refine⟨r3,rfl,⟨_,SqL.of hr3⟩,jBU (xs:=vs) (fun i σ H'=>H'=H3/\i<=j/\∃ v6 v7,σ=[some (.ref L),some (.ref r),some (.ref a),some (natV (k+befW (chs wi.toNat ms pcs) m i)),some (natV m),some (natV t),v6,v7]) ⟨rfl,bH _,_,_,rfl⟩ (fun i σ H' _ ⟨e,_⟩=>by rw[e]; exact SqL.of hr3) ?_ ?_⟩
    ·rintro i z σ H' hz ⟨rfl,hij,v6,v7,rfl⟩
     obtain⟨d,hd,qa,rfl,hq⟩:=av.get' hz
     have hdm:=ao hd
     have un:=mt.up m hm hn d hdm
     have dg:=jM6 (got.ext E3) srt' un
     have same:d.1=c.1↔i=j:=by
      constructor
      ·intro z
       refine bF fun ne=>?_
       have lt:i<j:=by omega
       obtain⟨i1,i2⟩:=ae.mp hd
       obtain⟨j1,j2⟩:=ae.mp hc
       have:=bU.mp clt i j i1 j1 lt
       rw[i2,j2] at this
       omega
      ·intro z
       rw[z,hc] at hd
       rw[aW hd]
     have hat:atI ((rkL wi.toNat pcs x).map V.int) (t:Int)=some (.int (rkP pcs x (t:Int))):=kU (by rw[aA,jMO ht]; rfl)
     refine⟨qa,_,rfl,SqT.of hq,rfl,_,_,rfl,_,_,rfl,rfl,?_⟩
     refine⟨_,rfl,_,rfl,_,rfl,a,_,_,_,rfl,rfl,SqT.of (E3 _ _ ha),hat,rfl,_,rfl,?_⟩
     rw[jE9,rt]
     refine ite2 (fun h'=>?_) (fun h'=>?_)
     ·have ij:=same.mp (aO h')
      subst ij
      have:d=c:=aW (hd.symm.trans hc)
      subst this
      refine⟨_,rfl,_,rfl,_,_,rfl,rfl,?_⟩
      rw[jAE]
      refine⟨E3,m|||d.2,_,p - befW (chs wi.toNat ms pcs) m i,y',_,_,_,rfl,un,hy',by omega,fun j' hj'=>?_,fun j' hj'=>?_⟩
      ·rw[bC]
       rcases eL j' t with z | z
       ·rw[hb j' z,ie]
       ·rw[show j'=t by omega,cb,fi]
      ·rw[bC,di] at hj'
       rw[hrk j' hj'.1,r2 j' hj'.2]
     ·have ij:i≠j:=fun z=>h' (aG (same.mpr z))
      refine⟨_,rfl,_,rfl,_,rfl,_,rfl,_,_,rfl,rfl,r,_,rfl,dg,_,_,rfl,rfl,rfl,by omega,some (.int d.1),some (natV d.2),?_⟩
      rw[jBW hd]
      show [_,_,_,some (V.int (((k+befW (chs wi.toNat ms pcs) m i:Nat):Int)+((wk (chs wi.toNat ms pcs) (m|||d.2)).length:Int))),_,_,_,_]=_
      rw[show ((k+befW (chs wi.toNat ms pcs) m i:Nat):Int)+((wk (chs wi.toNat ms pcs) (m|||d.2)).length:Int)=((k+(befW (chs wi.toNat ms pcs) m i+(wk (chs wi.toNat ms pcs) (m|||d.2)).length):Nat):Int) by omega]
    ·rintro σ H' ⟨rfl,hij,v6,v7,rfl⟩
     rw[av.len] at hij
     have:=(ae.mp hc).1
     omega
   ·have bt:m.testBit t=true:=by simpa using h
    refine⟨e2,m,k,p,y,_,_,_,rfl,hm,hy,hkp,fun j hj=>?_,hrk⟩
    rcases eL j t with z | z
    ·exact hb j z
    ·rw[show j=t by omega]
     exact bt
  ·rintro σ H2 ⟨e2,m,k,p,y,v5,v6,v7,rfl,hm,hy,hkp,hb,hrk⟩
   have hm2:=mt.bnd m hm
   have mf:m=fullN (chs wi.toNat ms pcs):=jJN hm2 fun j hj=>hb j (by rwa [cl] at hj)
   subst mf
   rw[jBE] at hy
   have p0:p=0:=by
    cases p with
    | zero=>rfl
    | succ p=>cases hy
   refine⟨_,rfl,?_⟩
   rw[show k=n by omega]
   exact q H2 e2
end
theorem jFA {pcs:List (List Int×Int)}{t:Int} :∀ {c:List Int},c.Nodup->(∀ k∈c,(j5 pcs k).Nodup)->(∀ k∈c,∀ k'∈c,k≠k'->∀ t∈j5 pcs k,t∉j5 pcs k')->(c.flatMap (j5 pcs)).count t=if ∃ k∈c,t∈j5 pcs k then 1 else 0
 | [],_,_,_=>by simp
 | k::c,nd,hn,dj=>by
  obtain⟨n1,n2⟩:=cr.mp nd
  have ih:=jFA (t:=t) n2 (fun k hk=>hn k (aq _ hk)) fun k hk k' hk'=>dj k (aq _ hk) k' (aq _ hk')
  rw[fS,List.count_append,ih]
  have e1:(j5 pcs k).count t=if t∈j5 pcs k then 1 else 0:=(hn k (aH ..)).count
  rw[e1]
  by_cases h:t∈j5 pcs k
  ·have no:¬ ∃ k'∈c,t∈j5 pcs k':=fun ⟨k',h1,h2⟩=>dj k (aH ..) k' (aq _ h1) (fun e=>n1 (e ▸ h1)) t h h2
   rw[ag h,af no,ag ⟨k,aH .., h⟩]
  ·rw[af h,gG]
   by_cases q:∃ k'∈c,t∈j5 pcs k'
   ·rw[ag q,ag (let ⟨k',h1,h2⟩:=q; ⟨k',aq _ h1,h2⟩)]
   ·have nq:¬ ∃ k'∈k::c,t∈j5 pcs k':=fun ⟨k',h1,h2⟩=>by
     rcases aR.mp h1 with rfl | h1
     ·exact h h2
     ·exact q ⟨k',h1,h2⟩
    rw[af q,af nq]
section
variable {P:Program}{w:World}{K:W.Frag}{mg:Str->Option Value}{base:Heap}
variable {f fL:Addr}{fdL:FuncData}{cdv:Value}{A:Around}{outer:List Env}{s:Shared}{H0:Hp}{E:XK}
noncomputable abbrev nCov:List Str:=["box","thing","held","number"]
theorem scCov:FnScope nCov ["box","thing"] (j7 sCov):=⟨rfl,rfl,rfl,by decide+kernel,rfl,by decide+kernel,by decide+kernel⟩
def jGI:Sp:=fun vs H Q _=>∃ (b a:Addr) (w:Int) (ms:List Int) (pcs:List (List Int×Int)) (c:List Int),vs=[.ref b, .ref a]/\BoxAt H b w ms pcs/\Good 16 32 w ms pcs/\H a=some (.tup (c.map V.int))/\IsCov w ms pcs c/\∀ H',Ext H H'->Q (.bl true) H'
def covA (T:Txt mg)(CL:Can P w K mg base "is_lot" 3 fL fdL ["thing","many"] (spB2 lotB))(hr:Room 3 (XOf nCov "is_covering" sCov P w K mg base f cdv A outer s H0 E).A): { t:TS // JSs (XOf nCov "is_covering" sCov P w K mg base f cdv A outer s H0 E) (jB sCov) t} :=
 have nd:=scCov.nd
 ⟨_,(j9 (yI (jF4 (jF3 (CL.je hr gD (j3 (jv 1 rfl vL) (j3 (jI jA0 gD T.len (by decide+kernel) (j3 (kE kQ (jv 0 rfl vC) (je_int) jP) j6 kW) kW) j6 jJ) j4) j4) jCY)) (jC (jV (je_bl))) kG)
   (j9 (jE (i:=2) nd rfl (loc_c (by decide+kernel)) (kL j6) jBM)
   (j9 (yB bB rfl (jDC (jv 1 rfl vL)) (jG (i:=3) nd rfl lL) (jC (jAN (je_bm bb dX dY jHL (jv 2 rfl vC) (j3 (kE kQ (kE kQ (kE kQ (jv 0 rfl vC) (je_int) jP) (jv 3 rfl vL) jAP) (je_int) jP) j6 kW) kW) jN)) yE)
   (jC (jV (jI (jDG rfl) gD T.all (by decide+kernel) (j3 (kR (m:=[none,some 2,some 0]) (Nc:=["one","held","box"]) rfl (jA6 gD T.range (j3 (kE kQ (jv 0 rfl vC) (je_int) jP) j6 kW) kW) rfl (by decide+kernel) (by decide+kernel) (kT (psc:=j7 sCov) (by decide+kernel)) (jR (N:=nCov) rfl rfl (by decide+kernel)) (fun cl C fp s H=>jG (i:=0) (show (["one","held","box"]:List Str).Nodup by decide+kernel) rfl (yM (by decide+kernel))) (fun cl C fp s H=>kS) (fun cl C fp s H=>((jJD (jAO op_le (jE7 bb gu gw jEZ (jv 1 rfl (y6 (by decide+kernel))) (j3 (jv 0 rfl (jX (by decide+kernel))) j6 j4) j4) (je_int) (jQ _)) (jF6 ((je_or (jAO op_eq (jE7 bb gu gw jEZ (jv 1 rfl (y6 (by decide+kernel))) (j3 (jv 0 rfl (jX (by decide+kernel))) j6 j4) j4) (je_int) (jQ _)) (jF6 (jAO jIR (jv 0 rfl (jX (by decide+kernel))) (kE jBT (jv 2 rfl (y6 (by decide+kernel))) (je_int) jP) jLZ)))))))) kI) j6 jO) jO))))))⟩
theorem jNL {fd:FuncData}(F:Fun K "is_covering" "is_covering" sCov f fd)(T:Txt mg)(CL:Can P w K mg base "is_lot" 3 fL fdL ["thing","many"] (spB2 lotB)):FnOk P w K mg base CX0 4 f fd ["box","thing"] jGI:=by
 refine F.ok scCov (fun vs H Q E h=>?_) (fun cdv A outer s H vs Q E hr h=>?_)
 ·obtain⟨_,_,_,_,_,_,rfl,_⟩:=h
  rfl
 ·obtain⟨b,a,w,ms,pcs,c,rfl,hB,g,ha,C,q⟩:=h
  obtain⟨qm,qp,ps,b1,b2,b3,b4⟩:=id hB.ex
  have pl:=b4.len
  have gl:=g.pl
  have w0:=g.w0
  have w1:=g.w1
  have cl:=jBF c 0 _ C.ris.ris C.ris.bnd
  have c32:c.length<=32:=by omega
  refine⟨_,(covA T CL hr).2.h,?_⟩
  have hA:At H (.tup (c.map Ob.int)) (.ref a):=jQA ha (by rw[aa]; omega) (Ats.ints c)
  refine⟨_,rfl,_,rfl,b,_,2,_,rfl,rfl,SqT.of b1,rfl,qp,_,rfl, .inr (SqT.of b3), .ref a,_,_,rfl,hA,fun H1 e1=>⟨_,rfl,?_⟩⟩
  rw[pl,jFX C.ris.ris C.ris.bnd]
  refine iteF ?_
  refine⟨by show (0:Nat)<=_; decide,fun l H2 d2 e2 n2=>?_⟩
  have E2:=e1.trans e2
  have n16:∀ k∈c,(j5 pcs k).length<=16:=fun k hk=>jHG g (C.ris.bnd k hk).1 (C.ris.bnd k hk).2
  refine⟨_,rfl,a,rfl,⟨_,SqT.of (E2 _ _ ha)⟩,jG3 (xs:=c.map V.int) (fun i σ H'=>(∃ v3,σ=[some (.ref b),some (.ref a),some (.ref l),v3])/\Ext H1 H'/\H' l=some (.lst (((c.take i).flatMap (j5 pcs)).map V.int))) ⟨⟨_,rfl⟩,e2,d2⟩ (fun i σ H' _ ⟨_,e,_⟩=>SqT.of (e _ _ (e1 _ _ ha))) ?_ ?_⟩
  ·rintro i v σ H3 hv ⟨⟨v3,rfl⟩,e3,hl3⟩
   obtain⟨k,hk,rfl⟩:=jH0 hv
   have km:=ao hk
   have kb:=C.ris.bnd k km
   have E3:=e1.trans e3
   obtain⟨pa,pq,g1,g2,g3⟩:=jET b4 kb.1 kb.2
   have hn:=jH4 (f:=j5 pcs) (ks:=c.take i) (fun k hk=>n16 k (bR hk)) 32 (by rw[aY]; omega)
   have hn2:=n16 k km
   refine⟨_,rfl, .inl ⟨rfl,_,SqL.of hl3⟩,_,rfl,b,_,2,_,rfl,rfl,SqT.of (E3 _ _ b1),rfl,_,rfl,qp,_,k,_,rfl,rfl,SqT.of (E3 _ _ b3),g1,pa,_,0,_,rfl,rfl,SqT.of (E3 _ _ g2),rfl,l,pq,_,_,rfl,rfl,hl3,E3 _ _ g3,?_,⟨_,rfl⟩,e3.updNew n2 _,?_⟩
   ·rw[aa,aa,aI]
    omega
   ·rw[j8]
    have:c.take (i+1)=c.take i++[k]:=by rw[bo,hk]; rfl
    rw[this,g5,aK]
    simp
  ·rintro σ H3 ⟨⟨v3,rfl⟩,e3,hl3⟩
   rw[aa,bI] at hl3
   have E3:=e1.trans e3
   have cnt:∀ t:Int,((c.flatMap (j5 pcs)).map V.int).countP (fun z=>eqV z (.int t))=if ∃ k∈c,t∈j5 pcs k then 1 else 0:=fun t=>by
    rw[jJX]
    refine jFA (C.ris.ris.imp fun {a b} h=>by omega) (fun k hk=>?_) C.dis
    have kb:=C.ris.bnd k hk
    exact(y4 g kb.1 kb.2).ris.imp fun {a b} h=>by omega
   refine⟨_,rfl,b,_,0,_,rfl,rfl,SqT.of (E3 _ _ b1),rfl,w,rfl,by omega,by omega,jEC (n:=w.toNat) (fun σ=>∃ v,σ=[v,some (.ref l),some (.ref b)]) (mapZ (upto w.toNat) fun _=>V.bl true) (mapZ.ok _ _) (by rw[aI]; omega) ⟨_,rfl⟩ ?_ ?_⟩
   ·rintro j σ' H4 zs hj ⟨v,rfl⟩ e hz S1 S2 yes no
    have e0:(0+(j:Int))=(j:Int):=by omega
    dsimp only [kO,yJ]
    rw[ag rfl]
    have hl4:=e _ _ hl3
    have E4:=E3.trans e
    refine⟨_,rfl, .inl ⟨rfl,_,SqL.of hl4⟩,_,rfl,l,_,_,rfl,rfl,hl4,rfl,jAS _,_,_,rfl,rfl,_,rfl,?_⟩
    rw[e0,cnt]
    by_cases hh:∃ k∈c,(j:Int)∈j5 pcs k
    ·rw[ag hh]
     refine iteT ⟨_,rfl, .inl ⟨rfl,_,SqL.of hl4⟩,_,rfl,l,_,_,rfl,rfl,hl4,rfl,jAS _,rfl,_,rfl,?_⟩
     rw[cnt,ag hh]
     exact iteT (yes _ _ _ ⟨_,rfl⟩ (Ext.refl _) (hz.yes (kN hj)))
    ·rw[af hh]
     refine iteT ⟨_,rfl, .inl ⟨rfl,_,SqL.of hl4⟩,_,rfl,l,_,_,rfl,rfl,hl4,rfl,jAS _,rfl,_,rfl,?_⟩
     rw[cnt,af hh]
     refine iteF ⟨_,rfl,_,rfl,b,_,1,_,rfl,rfl,SqT.of (E4 _ _ b1),rfl,qm,_,rfl, .inr (SqT.of (E4 _ _ b2)),rfl,jAS _,?_⟩
     rw[jH1,aG (bF fun z=>hh (C.cov j (by omega) (by omega) z))]
     exact yes _ _ _ ⟨_,rfl⟩ (Ext.refl _) (hz.yes (kN hj))
   ·rintro D H4 zs h4 e4 n4 hz
    have hz:=hz.all (by rw[jT]; exact az _)
    have hz2:zs=((upto w.toNat).map fun _=>true).map V.bl:=by rw[hz,bv]; rfl
    rw[hz2] at h4
    refine⟨D,_,rfl,SqL.of h4,?_⟩
    have:((upto w.toNat).map fun _=>true).all id=true:=by
     rw[all_map]
     exact bE.mpr fun _ _=>rfl
    rw[this]
    exact q H4 (E3.trans e4)
end
theorem jJW {w:Int}{ms:List Int}{pcs:List (List Int×Int)}{n:Nat}{c:List Int}(h:(cvs w ms pcs)[n]?=some c):∃ x,(wk (chs w.toNat ms pcs) 0)[n]?=some x/\srt x=c:=by
 unfold cvs at h
 rw[aA] at h
 cases z:(wk (chs w.toNat ms pcs) 0)[n]? with
 | none=>rw[z] at h; cases h
 | some x=>rw[z] at h; exact⟨x,rfl,aW h⟩
section
variable {P:Program}{w:World}{K:W.Frag}{mg:Str->Option Value}{base:Heap}
variable {f fC fW fG fV fP fR tb:Addr}{fdC fdW fdG fdV fdP fdR:FuncData}{cdv:Value}{A:Around}{outer:List Env}{s:Shared}{H0:Hp}{E:XK}
abbrev jJ1:List Str:=["box","number","choices","ways"]
theorem scCovAt:FnScope jJ1 ["box","number"] (j7 jBC):=⟨rfl,rfl,rfl,by decide+kernel,rfl,by decide+kernel,by decide+kernel⟩
def jFP (tb:Addr):Sp:=fun vs H Q _=>∃ (b:Addr) (n:Nat) (w:Int) (ms:List Int) (pcs:List (List Int×Int)) (c:List Int),vs=[.ref b,natV n]/\BoxAt H b w ms pcs/\Good 16 32 w ms pcs/\TabW H tb/\(cvs w ms pcs)[n]?=some c/\∀ q H',H' q=some (.tup (c.map V.int))->ExtT tb H H'->TabW H' tb->Q (.ref q) H'
def jQ5 (T:Txt mg)(CC:Can P w K mg base "choices_of" 2 fC fdC ["box"] jA9)(CW:Can P w K mg base "ways_of" 5 fW fdW ["choices"] (jCC tb))(CG:Can P w K mg base "covering_along" 2 fG fdG ["choices","ways","place"] jDZ)(hr:Room 5 (XOf jJ1 "covering_at" jBC P w K mg base f cdv A outer s H0 E).A): { t:TS // JSs (XOf jJ1 "covering_at" jBC P w K mg base f cdv A outer s H0 E) (jB jBC) t} :=
 have nd:=scCovAt.nd
 ⟨_,(j9 (jE (i:=2) nd rfl lL (CC.je (hr.mono (by decide)) gD (j3 (jv 0 rfl vL) j6 j4) j4) jN)
   (j9 (jE (i:=3) nd rfl lL (CW.je hr gD (j3 (jv 2 rfl vL) j6 j4) j4) jN)
   (j9 (yI (jt_w (jw_or (jW op_lt (jv 1 rfl vL) (je_int) (jQ _)) (jPS (jW op_ge (jv 1 rfl vL) (jC4 (hu_of hr) (jv 3 rfl vL) je_int jP) (jQ _))))) (jC (jM2)) kG)
   (jC (jV (CG.je (hr.mono (by decide)) gD (j3 (jv 2 rfl vL) (j3 (jv 3 rfl vL) (j3 (jv 1 rfl vL) j6 j4) j4) j4) j4))))))⟩
theorem jKR {fd:FuncData}(F:Fun K "covering_at" "covering_at" jBC f fd)(T:Txt mg)(CC:Can P w K mg base "choices_of" 2 fC fdC ["box"] jA9)(CW:Can P w K mg base "ways_of" 5 fW fdW ["choices"] (jCC tb))(CG:Can P w K mg base "covering_along" 2 fG fdG ["choices","ways","place"] jDZ):FnOk P w K mg base CX0 6 f fd ["box","number"] (jFP tb):=by
 refine F.ok scCovAt (fun vs H Q E h=>?_) (fun cdv A outer s H vs Q E hr h=>?_)
 ·obtain⟨_,_,_,_,_,_,rfl,_⟩:=h
  rfl
 ·obtain⟨b,n,wi,ms,pcs,c,rfl,hB,g,tab,hc,q⟩:=h
  obtain⟨x,hx,rfl⟩:=jJW hc
  refine⟨_,(jQ5 T CC CW CG hr).2.h,?_⟩
  have o:ChOk (chs wi.toNat ms pcs):=jBV g
  refine⟨_,rfl,b,wi,ms,pcs,rfl,hB,g,fun L H1 hL1 e1=>?_⟩
  refine⟨_,rfl,L,_,rfl,hL1,o,tab.ext e1,fun r ns H2 got srt' mt e2 t2 n2=>?_⟩
  have hL2:ChAt H2 L (chs wi.toNat ms pcs):=hL1.keep (fun b xs h=>e2.at (tab.ext e1) h) fun b xs h=>e2.at (tab.ext e1) h
  obtain⟨u,dg,ru⟩:=got0 got srt' mt
  have ru:u=natV _:=ru
  subst ru
  have nl:=(ae.mp hx).1
  refine⟨_,rfl,_,_,rfl,rfl,_,rfl,iteN (by simp) ?_⟩
  refine⟨_,rfl,_,rfl,r,_,rfl,dg,_,_,rfl,rfl,_,rfl,iteN (by simp; omega) ?_⟩
  refine⟨_,rfl,_,rfl,_,rfl,L,r,_,ns,n,x,rfl,hL2,o,o.w,got,srt',mt,hx,fun q5 H3 d3 e3 n3=>?_⟩
  exact q q5 H3 d3 (((ExtT.of e1).trans e2).trans (ExtT.of e3)) (t2.ext e3)
abbrev jIZ:List Str:=["box","covering","choices"]
theorem scNumOf:FnScope jIZ ["box","covering"] (j7 jBA):=⟨rfl,rfl,rfl,by decide+kernel,rfl,by decide+kernel,by decide+kernel⟩
def jFN (tb:Addr):Sp:=fun vs H Q _=>∃ (b a:Addr) (n:Nat) (w:Int) (ms:List Int) (pcs:List (List Int×Int)) (c:List Int),vs=[.ref b, .ref a]/\BoxAt H b w ms pcs/\Good 16 32 w ms pcs/\TabW H tb/\H a=some (.tup (c.map V.int))/\(cvs w ms pcs)[n]?=some c/\∀ H',ExtT tb H H'->TabW H' tb->Q (natV n) H'
def jPI (T:Txt mg)(CV:Can P w K mg base "is_covering" 4 fV fdV ["box","thing"] jGI)(CC:Can P w K mg base "choices_of" 2 fC fdC ["box"] jA9)(CW:Can P w K mg base "ways_of" 5 fW fdW ["choices"] (jCC tb))(CP:Can P w K mg base "place_of" 2 fP fdP ["choices","ways","rank"] jDY)(CR:Can P w K mg base "rank_of" 2 fR fdR ["box","covering"] jGG)(hr:Room 5 (XOf jIZ "number_of" jBA P w K mg base f cdv A outer s H0 E).A): { t:TS // JSs (XOf jIZ "number_of" jBA P w K mg base f cdv A outer s H0 E) (jB jBA) t} :=
 have nd:=scNumOf.nd
 ⟨_,(j9 (yI (jF4 (jF3 (CV.je (hr.mono (by decide)) gD (j3 (jv 0 rfl vL) (j3 (jv 1 rfl vL) j6 j4) j4) j4) jCY)) (jC (jM2)) kG)
   (j9 (jE (i:=2) nd rfl lL (CC.je (hr.mono (by decide)) gD (j3 (jv 0 rfl vL) j6 j4) j4) jN)
   (jC (jV (CP.je (hr.mono (by decide)) gD (j3 (jv 2 rfl vL) (j3 (CW.je hr gD (j3 (jv 2 rfl vL) j6 j4) j4) (j3 (CR.je (hr.mono (by decide)) gD (j3 (jv 0 rfl vL) (j3 (jv 1 rfl vL) j6 j4) j4) j4) j6 jJ) jJ) j4) j4)))))⟩
theorem jMM {w:Int}{ms:List Int}{pcs:List (List Int×Int)}(g:Good 16 32 w ms pcs){n:Nat}{x:List Int}(h:(wk (chs w.toNat ms pcs) 0)[n]?=some x):rkL w.toNat pcs (srt x)=rkL w.toNat pcs x:=by
 have S:=jCJ g 0 (cQ _) x (ao h)
 unfold rkL
 exact bx fun t _=>(jIH (fun k=>(jU x).mem_iff.symm) S.dis).symm
theorem jKP {fd:FuncData}(F:Fun K "number_of" "number_of" jBA f fd)(T:Txt mg)(CV:Can P w K mg base "is_covering" 4 fV fdV ["box","thing"] jGI)(CC:Can P w K mg base "choices_of" 2 fC fdC ["box"] jA9)(CW:Can P w K mg base "ways_of" 5 fW fdW ["choices"] (jCC tb))(CP:Can P w K mg base "place_of" 2 fP fdP ["choices","ways","rank"] jDY)(CR:Can P w K mg base "rank_of" 2 fR fdR ["box","covering"] jGG):FnOk P w K mg base CX0 6 f fd ["box","covering"] (jFN tb):=by
 refine F.ok scNumOf (fun vs H Q E h=>?_) (fun cdv A outer s H vs Q E hr h=>?_)
 ·obtain⟨_,_,_,_,_,_,_,rfl,_⟩:=h
  rfl
 ·obtain⟨b,a,n,wi,ms,pcs,c,rfl,hB,g,tab,ha,hc,q⟩:=h
  have C:IsCov wi ms pcs c:=(jNR g).mp (ao hc)
  obtain⟨x,hx,rfl⟩:=jJW hc
  refine⟨_,(jPI T CV CC CW CP CR hr).2.h,?_⟩
  have o:ChOk (chs wi.toNat ms pcs):=jBV g
  refine⟨_,rfl,_,rfl,b,a,wi,ms,pcs,_,rfl,hB,g,ha,C,fun H1 e1=>⟨_,rfl,iteF ?_⟩⟩
  refine⟨_,rfl,b,wi,ms,pcs,rfl,hB.mono e1.tups,g,fun L H2 hL2 e2=>?_⟩
  have E2:=e1.trans e2
  refine⟨_,rfl,_,rfl,L,_,rfl,hL2,o,tab.ext E2,fun r ns H3 got srt' mt e3 t3 n3=>?_⟩
  have tab2:=tab.ext E2
  have T3:Tups H2 H3:=fun b xs h=>e3.at tab2 h
  have hL3:ChAt H3 L (chs wi.toNat ms pcs):=hL2.keep (fun b xs h=>e3.at tab2 h) T3
  refine⟨_,rfl,_,rfl,b,a,wi,ms,pcs,_,rfl,(hB.mono E2.tups).mono T3,g,T3 _ _ (E2 _ _ ha),C,fun qa H4 d4 e4=>?_⟩
  rw[jMM g hx] at d4
  refine⟨L,r,qa,wi,ms,pcs,ns,n,x,rfl,g,hL3.ext e4,got.ext e4,srt',mt,d4,hx,fun H5 e5=>?_⟩
  exact q H5 (((ExtT.of E2).trans e3).trans (ExtT.of (e4.trans e5))) (t3.ext (e4.trans e5))
end
theorem jQ9 {n x i:Nat}(hx:x<2 ^ n)(hi:n<=i):x.testBit i=false:=gF (be hx (bS (by decide) hi))
def popN (n u:Nat):Nat:=(List.range n).countP fun t=>u.testBit t
structure PcOk (n:Nat)(p:Nat×Nat):Prop where
 lt:p.1<2 ^ n
 pop:popN n p.1=p.2
 ne:p.1≠0
def ecM (n:Nat):List (Nat×Nat)->Nat->Nat
 | [],u=>if u=2 ^ n - 1 then 1 else 0
 | p::ps,u=>ecM n ps u+if p.1&&&u=0 then ecM n ps (u|||p.1) else 0
theorem jGF {α:Type}(f g:α->Nat):∀ l:List α,(l.map fun x=>f x+g x).sum=(l.map f).sum+(l.map g).sum
 | []=>rfl
 | a::l=>by
  rw[ba,cA,jGF f g l,ba,cA,ba,cA]
  omega
abbrev okP (u:Nat)(p:Nat×Nat):Prop:=p.1.testBit (lowN u)=true/\p.1&&&u=0
theorem jAF {p u v:Nat} :p&&&(u|||v)=0↔p&&&u=0/\p&&&v=0:=by
 rw[Nat.and_or_distrib_left,Nat.or_eq_zero_iff]
theorem jM8 {n:Nat} :∀ {ps:List (Nat×Nat)},(∀ p∈ps,PcOk n p)->∀ {u:Nat},u<2 ^ n->u≠2 ^ n - 1->ecM n ps u=(ps.map fun p=>if okP u p then ecM n ps (u|||p.1) else 0).sum
 | [],_,u,hu,hn=>af hn
 | q::ps,hp,u,hu,hn=>by
  have q1:=hp q (aH ..)
  have hp':=fun r hr=>hp r (aq _ hr)
  have ih:=fun {u:Nat}(hu:u<2 ^ n) (hn:u≠2 ^ n - 1)=>jM8 (n:=n) hp' hu hn
  rw[ba,cA]
  show ecM n ps u+(if q.1&&&u=0 then ecM n ps (u|||q.1) else 0)=_
  have un:∀ x,ecM n (q::ps) x=ecM n ps x+if q.1&&&x=0 then ecM n ps (x|||q.1) else 0:=fun _=>rfl
  by_cases h0:q.1&&&u=0
  ·by_cases hb:q.1.testBit (lowN u)=true
   ·-- q is taken here,or none of those that hold the same
    have e1:ecM n (q::ps) (u|||q.1)=ecM n ps (u|||q.1):=by
     rw[un,af,cK]
     rw[jAF]
     rintro ⟨_,z⟩
     rw[Nat.and_self] at z
     exact q1.ne z
    have e2:(ps.map fun p=>if okP u p then ecM n (q::ps) (u|||p.1) else 0)=ps.map fun p=>if okP u p then ecM n ps (u|||p.1) else 0:=bx fun p hpm=>by
     by_cases y:okP u p
     ·rw[ag y,ag y,un,af,cK]
      rw[jAF]
      rintro ⟨_,z⟩
      have:=bQ (fun z=>z.testBit (lowN u)) z
      simp only [cH,hb,y.1,bP] at this
      cases this
     ·rw[af y,af y]
    rw[ag h0,ag ⟨hb,h0⟩,e1,e2,<- ih hu hn]
    omega
   ·have hb:q.1.testBit (lowN u)=false:=by simpa using hb
    have hlow:lowN (u|||q.1)=lowN u:=jJ3 (by rw[bC,jAM,hb]; rfl) fun j hj=>by rw[bC,jC2 u j hj,ie]
    have hor:=fK hu q1.lt
    have hll:=jBR hu hn
    have hnq:u|||q.1≠2 ^ n - 1:=fun z=>by
     have:=bQ (fun z=>z.testBit (lowN u)) z
     simp only [bC,jAM,hb,bA,aG hll] at this
     cases this
    rw[ag h0,af (fun z=>by have y:=z.1; rw[hb] at y; cases y),gG,ih hu hn,ih hor hnq,<- jGF]
    congr 1
    refine bx fun p hpm=>?_
    have sw:okP (u|||q.1) p↔okP u p/\q.1&&&(u|||p.1)=0:=by
     show (p.1.testBit (lowN (u|||q.1))=true/\p.1&&&(u|||q.1)=0)↔(p.1.testBit (lowN u)=true/\p.1&&&u=0)/\_
     rw[hlow,jAF,jAF,Nat.and_comm q.1 p.1]
     exact⟨fun ⟨a,b,c⟩=>⟨⟨a,b⟩,h0,c⟩,fun ⟨⟨a,b⟩,_,c⟩=>⟨a,b,c⟩⟩
    by_cases y:okP u p
    ·rw[ag y,ag y,un]
     congr 1
     by_cases z:q.1&&&(u|||p.1)=0
     ·rw[ag z,ag (sw.mpr ⟨y,z⟩),Nat.or_assoc,Nat.or_comm q.1,<- Nat.or_assoc]
     ·rw[af z,af fun x=>z (sw.mp x).2]
    ·rw[af y,af y,af fun x=>y (sw.mp x).1]
  ·have e2:(ps.map fun p=>if okP u p then ecM n (q::ps) (u|||p.1) else 0)=ps.map fun p=>if okP u p then ecM n ps (u|||p.1) else 0:=bx fun p hpm=>by
    by_cases y:okP u p
    ·rw[ag y,ag y,un,af,cK]
     rw[jAF]
     exact fun z=>h0 z.1
    ·rw[af y,af y]
   rw[af h0,af (fun z=>h0 z.2),e2,<- ih hu hn]
   omega
theorem jJR {n:Nat} :∀ {ps:List (Nat×Nat)},(∀ p∈ps,PcOk n p)->ecM n ps (2 ^ n - 1)=1
 | [],_=>ag rfl
 | q::ps,hp=>by
  have q1:=hp q (aH ..)
  show ecM n ps _+(if q.1&&&(2 ^ n - 1)=0 then _ else 0)=1
  rw[jJR fun r hr=>hp r (aq _ hr),af]
  rw[Nat.and_two_pow_sub_one_of_lt_two_pow q1.lt]
  exact q1.ne
def prs (p:List Int):Nat×Nat:=(maskN p,p.length)
def tls (ms:List Int)(pcs:List (List Int×Int)):List (List Int):=pcs.map (·.1)++ms.map fun t=> [t]
def PS (ms:List Int)(pcs:List (List Int×Int)):List (Nat×Nat):=(tls ms pcs).map prs
theorem jDV {α:Type}(p:α->Bool)(f:α->Nat):∀ l:List α,((l.filter p).map f).sum=(l.map fun x=>if p x=true then f x else 0).sum
 | []=>rfl
 | a::l=>by
  rw[ba,cA,<- jDV p f l]
  by_cases h:p a=true
  ·rw[eC h,ag h,ba,cA]
  ·rw[eB h,af h,gG]
theorem jIA (a:Int)(x:Nat):∀ {l:List Int},l.Nodup->(l.map fun t=>if t=a then x else 0).sum=if a∈l then x else 0
 | [],_=>rfl
 | b::l,nd=>by
  obtain⟨n1,n2⟩:=cr.mp nd
  rw[ba,cA,jIA a x n2]
  by_cases h:b=a
  ·subst h
   rw[ag rfl,af n1,ag (aH ..)]
   omega
  ·rw[af h,gG]
   by_cases y:a∈l
   ·rw[ag y,ag (aq _ y)]
   ·rw[af y,af fun z=>(aR.mp z).elim (fun z=>h z.symm) y]
theorem jCQ (t:Int):maskN [t]=2 ^ t.toNat:=by
 unfold maskN
 rw[ba,gB,cA,List.sum_nil,cK]
theorem jKJ {n:Nat}{p:List Int}(hp:p.Pairwise (· < ·))(hb:∀ t∈p,0<=t/\t<(n:Int)):popN n (maskN p)=p.length:=by
 have e:popN n (maskN p)=((upto n).filter fun t=>decide (t∈p)).length:=by
  unfold popN upto
  rw[List.filter_map,aa,List.countP_eq_length_filter]
  rw[List.filter_congr fun i hi=>by rw[jAD p i hp fun x hx=>(hb x hx).1]]
  rfl
 rw[e]
 refine List.Perm.length_eq ((fz (((jAW n).ris.imp fun {a b} h=>by omega:(upto n).Nodup).sublist List.filter_sublist) (hp.imp fun {a b} h=>by omega)).mpr fun t=>?_)
 rw[ce,bf]
 refine⟨fun h=>h.2,fun h=>⟨?_,h⟩⟩
 have:=hb t h
 have:=kN (n:=n) (i:=t.toNat) (by omega)
 rw[show ((t.toNat:Nat):Int)=t by omega] at this
 exact ao this
theorem pc_of {n:Nat}{p:List Int}(hp:p.Pairwise (· < ·))(hb:∀ t∈p,0<=t/\t<(n:Int))(ne:p≠ []):PcOk n (prs p):=by
 refine⟨jD8 hp hb,jKJ hp hb,fun z=>?_⟩
 have hm:=jE8 ne
 have b:=hb _ hm
 have:=jCF (t:=(p.headD 0).toNat) hp (fun x hx=>(hb x hx).1) (by rw[show (((p.headD 0).toNat:Nat):Int)=p.headD 0 by omega]; exact hm)
 rw[show maskN p=0 from z,bP] at this
 cases this
theorem jHH (pcs:List (List Int×Int)):pcs.map (·.1)=(upto pcs.length).map (j5 pcs):=by
 refine dI fun i=>?_
 rw[aA,aA]
 by_cases hi:i<pcs.length
 ·rw[kN hi,aj hi]
  show some _=some (j5 pcs (i:Int))
  unfold j5
  rw[aS,aB,aj hi]
  rfl
 ·rw[cq (by omega),cq (by rw[jT]; omega)]
  rfl
section
variable {w:Int}{ms:List Int}{pcs:List (List Int×Int)}(g:Good 16 32 w ms pcs)
include g
theorem PS_ok:∀ p∈PS ms pcs,PcOk w.toNat p:=fun p hp=>by
 have w0:=g.w0
 obtain⟨l,hl,rfl⟩:=aN.mp hp
 rcases ax.mp hl with z | z
 ·obtain⟨pc,hpc,rfl⟩:=aN.mp z
  have gp:=(g.pg pc hpc).lot
  exact pc_of gp.ris (fun t ht=>by have:=gp.bnd t ht; omega) gp.ne
 ·obtain⟨t,ht,rfl⟩:=aN.mp z
  have:=g.mr.bnd t ht
  exact pc_of (cP _ _) (fun x hx=>by rw[ay.mp hx]; omega) (by simp)
theorem wk_ec:∀ m,m<2 ^ (chs w.toNat ms pcs).length->(wk (chs w.toNat ms pcs) m).length=ecM w.toNat (PS ms pcs) m:=by
 have o:ChOk (chs w.toNat ms pcs):=jBV g
 have cl:(chs w.toNat ms pcs).length=w.toNat:=kP _ _ _ _
 have w0:=g.w0
 have ok:=PS_ok g
 refine jCK o ?_ ?_
 ·rw[jBE]
  unfold fullN
  rw[cl,jJR ok]
  rfl
 ·intro m hm hn ih
  have hm':m<2 ^ w.toNat:=by rwa [cl] at hm
  have hn':m≠2 ^ w.toNat - 1:=by unfold fullN at hn; rwa [cl] at hn
  have hl:lowN m<w.toNat:=jBR hm' hn'
  rw[jBD o hm hn,jLQ,bv,jM8 ok hm' hn']
  have e1:((chAt (chs w.toNat ms pcs) m).map ((fun p:Int×List (List Int)=>p.2.length) ∘ fun c=>(c.1,wk (chs w.toNat ms pcs) (m|||c.2))))=(chAt (chs w.toNat ms pcs) m).map fun c=>ecM w.toNat (PS ms pcs) (m|||c.2):=bx fun c hc=>ih c hc
  rw[e1]
  generalize hF:(fun v=>ecM w.toNat (PS ms pcs) (m|||v))=F
  have hF':∀ v,ecM w.toNat (PS ms pcs) (m|||v)=F v:=fun v=>by rw[<- hF]
  simp only [hF']
  unfold chAt
  rw[jDV]
  unfold chs
  rw[aB,jA8 hl]
  show ((yF ms pcs pcs.length (lowN m)).map _).sum=_
  unfold yF
  rw[aK,gI,bv,bG (by rw[jT]; exact az _),jDV]
  unfold PS tls
  rw[aK,aK,gI,ic,jHH,bv,bv,bv,bv]
  congr 1
  ·congr 1
   refine bx fun k hk=>?_
   have kb:=(jAW pcs.length).bnd k hk
   have hd:=jB2 g kb.1 kb.2
   have lt:=y4 g kb.1 kb.2
   show (if decide ((j5 pcs k).headD 0=(lowN m:Int))=true then (if (maskN (j5 pcs k)&&&m==0)=true then F (maskN (j5 pcs k)) else 0) else 0)=if okP m (prs (j5 pcs k)) then F (maskN (j5 pcs k)) else 0
   have bt:(maskN (j5 pcs k)).testBit (lowN m)=decide ((lowN m:Int)∈j5 pcs k):=jBP g kb.1 kb.2 _
   by_cases h0:maskN (j5 pcs k)&&&m=0
   ·rw[ag (show (maskN (j5 pcs k)&&&m==0)=true by rw[h0]; rfl)]
    by_cases h1:(j5 pcs k).headD 0=(lowN m:Int)
    ·rw[ag (aG h1),ag ⟨by show (maskN (j5 pcs k)).testBit (lowN m)=true; rw[bt,<- h1]; exact aG hd.1,h0⟩]
    ·rw[af (fun z=>h1 (aO z)),af]
     rintro ⟨z,_⟩
     have z:(maskN (j5 pcs k)).testBit (lowN m)=true:=z
     rw[bt] at z
     have le:=hd.2 _ (aO z)
     have fit:=(jIN g kb.1 kb.2).mp h0 _ hd.1
     have hb:=lt.bnd _ hd.1
     have:=jC2 m ((j5 pcs k).headD 0).toNat (by omega)
     rw[fit] at this
     cases this
   ·have z1:¬ okP m (prs (j5 pcs k)):=fun z=>h0 z.2
    rw[af (show ¬ (maskN (j5 pcs k)&&&m==0)=true by simpa using h0),af z1]
    split <;> rfl
  ·have e2:(ms.map (((fun p=>if okP m p then F p.1 else 0) ∘ prs) ∘ fun t=> [t]))=ms.map fun t=>if t=(lowN m:Int) then F (2 ^ lowN m) else 0:=bx fun t ht=>by
    have tb:=g.mr.bnd t ht
    show (if okP m (prs [t]) then F (maskN [t]) else 0)=_
    by_cases h:t=(lowN m:Int)
    ·subst h
     rw[ag rfl,jCQ,aS,ag]
     refine⟨?_,?_⟩
     ·show (maskN [(lowN m:Int)]).testBit (lowN m)=true
      rw[jCQ,aS,Nat.testBit_two_pow_self]
     ·show maskN [(lowN m:Int)]&&&m=0
      rw[jCQ,aS]
      refine cy fun i=>?_
      rw[cH,bP,ck]
      by_cases hi:lowN m=i
      ·rw[<- hi,jAM,dM]
      ·rw[aM hi,fk]
    ·rw[af h,af]
     rintro ⟨z,_⟩
     have z:(maskN [t]).testBit (lowN m)=true:=z
     rw[jCQ,ck] at z
     have:=aO z
     omega
   rw[e2,jIA _ _ (show ms.Nodup from g.mr.ris.imp fun {a b} h=>by omega)]
   have z0:2 ^ lowN m&&&m=0:=by
    refine cy fun i=>?_
    rw[cH,bP,ck]
    by_cases hi:lowN m=i
    ·rw[<- hi,jAM,dM]
    ·rw[aM hi,fk]
   by_cases h:(lowN m:Int)∈ms
   ·rw[ag h,ag h]
    show (if (2 ^ lowN m&&&m==0)=true then F (2 ^ lowN m) else 0)+0=_
    rw[ag (by rw[z0]; rfl),cK]
   ·rw[af h,af h]
    rfl
end
end Eo
end
section
namespace Eo
open L2
def offL (L p:List Int):List Int:=L.filter fun t=>decide (t∉p)
def xc:List (List Int)->List Int->Nat
 | [],L=>if L=[] then 1 else 0
 | p::ps,L=>xc ps L+if p.all (fun t=>decide (t∈L))=true then xc ps (offL L p) else 0
theorem jHX (p:List Int)(ps:List (List Int))(L:List Int):xc (p::ps) L=xc ps L+if p.all (fun t=>decide (t∈L))=true then xc ps (offL L p) else 0:=rfl
theorem mem_offL {L p:List Int}{t:Int} :t∈offL L p↔t∈L/\t∉p:=by
 unfold offL
 rw[ce,bf]
theorem all_sub {L p:List Int} :p.all (fun t=>decide (t∈L))=true↔∀ t∈p,t∈L:=by
 rw[bE]
 constructor
 ·intro h t ht
  exact aO (h t ht)
 ·intro h t ht
  exact aG (h t ht)
theorem jFU {L:List Int} :L=[]↔∀ t,t∉L:=by
 constructor
 ·rintro rfl t ht
  cases ht
 ·exact List.eq_nil_iff_forall_not_mem.mpr
theorem jCI:∀ {ps qs:List (List Int)}{L L':List Int},All2 (fun p q=>∀ t:Int,t∈p↔t∈q) ps qs->(∀ t,t∈L↔t∈L')->xc ps L=xc qs L'
 | [],[],L,L',_,h=>by
  have e:L=[]↔L'=[]:=by rw[jFU,jFU]; exact forall_congr' fun t=>not_congr (h t)
  unfold xc
  by_cases z:L=[]
  ·rw[ag z,ag (e.mp z)]
  ·rw[af z,af fun y=>z (e.mpr y)]
 | p::ps,q::qs,L,L',⟨hp,hs⟩,h=>by
  have e:(p.all fun t=>decide (t∈L))=(q.all fun t=>decide (t∈L')):=by
   rw[bJ,all_sub,all_sub]
   exact⟨fun z t ht=>(h t).mp (z t ((hp t).mpr ht)),fun z t ht=>(h t).mpr (z t ((hp t).mp ht))⟩
  show xc ps L+_=xc qs L'+_
  rw[jCI hs h,e,jCI hs (L:=offL L p) (L':=offL L' q) fun t=>by rw[mem_offL,mem_offL,h t,hp t]]
theorem jKA {ps:List (List Int)} :All2 (fun p q=>∀ t:Int,t∈p↔t∈q) ps ps:=by
 induction ps with
 | nil=>trivial
 | cons p ps ih=>exact⟨fun _=>Iff.rfl,ih⟩
theorem jCB {ps:List (List Int)}{L L':List Int}(h:∀ t,t∈L↔t∈L'):xc ps L=xc ps L':=jCI jKA h
theorem jME (p q:List Int)(ps:List (List Int))(L:List Int):xc (p::q::ps) L=xc (q::p::ps) L:=by
 simp only [jHX]
 have c:xc ps (offL (offL L p) q)=xc ps (offL (offL L q) p):=jCB fun t=>by
  rw[mem_offL,mem_offL,mem_offL,mem_offL]
  exact⟨fun ⟨⟨a,b⟩,c⟩=>⟨⟨a,c⟩,b⟩,fun ⟨⟨a,b⟩,c⟩=>⟨⟨a,c⟩,b⟩⟩
 by_cases hp:p.all (fun t=>decide (t∈L))=true
 ·by_cases hq:q.all (fun t=>decide (t∈L))=true
  ·simp only [ag hp,ag hq]
   have e:(q.all fun t=>decide (t∈offL L p))=(p.all fun t=>decide (t∈offL L q)):=by
    rw[bJ,all_sub,all_sub]
    rw[all_sub] at hp hq
    constructor
    ·intro z t ht
     exact mem_offL.mpr ⟨hp t ht,fun y=>(mem_offL.mp (z t y)).2 ht⟩
    ·intro z t ht
     exact mem_offL.mpr ⟨hq t ht,fun y=>(mem_offL.mp (z t y)).2 ht⟩
   rw[e,c]
   omega
  ·simp only [ag hp,af hq]
   have:¬ q.all (fun t=>decide (t∈offL L p))=true:=fun z=>hq (all_sub.mpr fun t ht=>(mem_offL.mp (all_sub.mp z t ht)).1)
   rw[af this]
   omega
 ·by_cases hq:q.all (fun t=>decide (t∈L))=true
  ·simp only [af hp,ag hq]
   have:¬ p.all (fun t=>decide (t∈offL L q))=true:=fun z=>hp (all_sub.mpr fun t ht=>(mem_offL.mp (all_sub.mp z t ht)).1)
   rw[af this]
   omega
  ·simp only [af hp,af hq]
theorem jCS {ps qs:List (List Int)}(h:ps.Perm qs):∀ L,xc ps L=xc qs L:=by
 induction h with
 | nil=>exact fun _=>rfl
 | cons p _ ih=>exact fun L=>by show xc _ L+_=xc _ L+_; rw[ih L,ih (offL L p)]
 | swap p q ps=>exact fun L=>jME q p ps L
 | trans _ _ h1 h2=>exact fun L=>(h1 L).trans (h2 L)
theorem jGC:∀ {ps:List (List Int)}{L:List Int}{t:Int},t∈L->(∀ p∈ps,t∉p)->xc ps L=0
 | [],L,t,ht,_=>af fun z=>by rw[z] at ht; cases ht
 | p::ps,L,t,ht,h=>by
  have h1:=jGC ht fun p hp=>h p (aq _ hp)
  have h2:=jGC (mem_offL.mpr ⟨ht,h p (aH ..)⟩) fun p hp=>h p (aq _ hp)
  show xc ps L+_=0
  rw[h1,h2]
  split <;> rfl
theorem jDQ:∀ {A B:List (List Int)}{L:List Int},(∀ p∈A,∃ t∈p,t∉L)->xc (A++B) L=xc B L
 | [],_,_,_=>rfl
 | p::A,B,L,h=>by
  have n:¬ p.all (fun t=>decide (t∈L))=true:=fun z=>by
   obtain⟨t,ht,hn⟩:=h p (aH ..)
   exact hn (all_sub.mp z t ht)
  show xc (A++B) L+_=_
  rw[af n,cK]
  exact jDQ fun p hp=>h p (aq _ hp)
theorem jHW:∀ {A B:List (List Int)}{L M:List Int},(∀ p∈A,∀ t∈p,t∉M)->(∀ p∈B,p≠ []/\∀ t∈p,t∉L)->(∀ t∈L,t∉M)->xc (A++B) (L++M)=xc A L*xc B M
 | [],B,L,M,_,hB,d=>by
  show xc B (L++M)=(if L=[] then 1 else 0)*xc B M
  by_cases z:L=[]
  ·subst z
   rw[ag rfl,Nat.one_mul]
   rfl
  ·rw[af z,ik]
   obtain⟨t,ht⟩:=fH L z
   exact jGC (aP _ ht) fun p hp y=>(hB p hp).2 t y ht
 | p::A,B,L,M,hA,hB,d=>by
  have h1:=jHW (fun p hp=>hA p (aq _ hp)) hB d
  have hp:=hA p (aH ..)
  have e:(p.all fun t=>decide (t∈L++M))=(p.all fun t=>decide (t∈L)):=by
   rw[bJ,all_sub,all_sub]
   exact⟨fun z t ht=>(ax.mp (z t ht)).elim id fun y=>absurd y (hp t ht),fun z t ht=>aP _ (z t ht)⟩
  have h2:=jHW (A:=A) (B:=B) (L:=offL L p) (M:=M) (fun p hp=>hA p (aq _ hp)) (fun q hq=>⟨(hB q hq).1,fun t ht y=>(hB q hq).2 t ht (mem_offL.mp y).1⟩) fun t ht=>d t (mem_offL.mp ht).1
  have h3:xc (A++B) (offL (L++M) p)=xc (A++B) (offL L p++M):=jCB fun t=>by
   rw[mem_offL,ax,ax,mem_offL]
   constructor
   ·rintro ⟨a | a,b⟩
    ·exact .inl ⟨a,b⟩
    ·exact .inr a
   ·rintro (⟨a,b⟩ | a)
    ·exact⟨.inl a,b⟩
    ·exact⟨.inr a,fun y=>hp t y a⟩
  show xc (A++B) (L++M)+(if _ then xc (A++B) (offL (L++M) p) else 0)=(xc A L+if _ then xc A (offL L p) else 0)*xc B M
  rw[h1,h3,h2,e,Nat.add_mul]
  split
  ·rfl
  ·rw[ik]
theorem jGB {p:List Int}{A:List (List Int)}{L:List Int}(hp:∀ t∈p,t∈L)(ne:p≠ []):∀ k,xc (replicate k p++A) L=xc A L+k*xc A (offL L p)
 | 0=>by rw[ik]; rfl
 | k+1=>by
  have ih:=jGB (A:=A) hp ne k
  obtain⟨t,ht⟩:=fH p ne
  have s:xc (replicate k p++A) (offL L p)=xc A (offL L p):=jDQ fun q hq=>by
   rw[(cX.mp hq).2]
   exact⟨t,ht,fun y=>(mem_offL.mp y).2 ht⟩
  rw[cj]
  show xc (replicate k p++A) L+(if _ then xc (replicate k p++A) (offL L p) else 0)=_
  rw[ag (all_sub.mpr hp),ih,s,Nat.add_mul,Nat.one_mul]
  omega
end Eo
end
section
namespace Eo
open PySem L2
def restL (n u:Nat):List Int:=(upto n).filter fun t=>!u.testBit t.toNat
theorem mem_rest {n u:Nat}{t:Int} :t∈restL n u↔(0<=t/\t<n)/\u.testBit t.toNat=false:=by
 unfold restL upto
 rw[ce,aN]
 constructor
 ·rintro ⟨⟨i,hi,rfl⟩,h⟩
  have:=bN.mp hi
  exact⟨⟨by omega,by omega⟩,by simpa using h⟩
 ·rintro ⟨⟨a,b⟩,h⟩
  exact⟨⟨t.toNat,bN.mpr (by omega),by omega⟩,by rw[h]; rfl⟩
theorem ec_xc {n:Nat} :∀ {ps:List (List Int)},(∀ p∈ps,p.Pairwise (· < ·)/\∀ t∈p,0<=t/\t<(n:Int))->∀ {u:Nat},u<2 ^ n->ecM n (ps.map prs) u=xc ps (restL n u)
 | [],_,u,hu=>by
  show (if u=2 ^ n - 1 then 1 else 0)=if restL n u=[] then 1 else 0
  have e:u=2 ^ n - 1↔restL n u=[]:=by
   rw[jFU]
   constructor
   ·rintro rfl t ht
    obtain⟨⟨a,b⟩,h⟩:=mem_rest.mp ht
    rw[bA] at h
    exact absurd (ek h) (by omega)
   ·intro h
    refine cy fun i=>?_
    rw[bA]
    by_cases hi:i<n
    ·rw[aG hi]
     cases hb:u.testBit i with
     | true=>rfl
     | false=>exact absurd (mem_rest.mpr ⟨⟨by omega,by omega⟩,by rw[aS]; exact hb⟩) (h (i:Int))
    ·rw[aM hi]
     exact jQ9 hu (by omega)
  by_cases z:u=2 ^ n - 1
  ·rw[ag z,ag (e.mp z)]
  ·rw[af z,af fun y=>z (e.mpr y)]
 | p::ps,h,u,hu=>by
  obtain⟨hp,hb⟩:=h p (aH ..)
  have hs:=fun q hq=>h q (aq p hq)
  have ml:maskN p<2 ^ n:=fE _ fun i hi=>by
   rw[jAD p i hp fun x hx=>(hb x hx).1]
   exact aM fun z=>by have:=hb _ z; omega
  have hbit:∀ i,(maskN p).testBit i=true↔(i:Int)∈p:=fun i=>by rw[jAD p i hp fun x hx=>(hb x hx).1,bf]
  have h1:=ec_xc hs hu
  have h2:=ec_xc hs (fK hu ml)
  have e3:xc ps (restL n (u|||maskN p))=xc ps (offL (restL n u) p):=jCB fun t=>by
   rw[mem_offL,mem_rest,mem_rest,bC,di]
   constructor
   ·rintro ⟨⟨a,b⟩,c,d⟩
    refine⟨⟨⟨a,b⟩,c⟩,fun y=>?_⟩
    have:=(hbit t.toNat).mpr (by rw[show ((t.toNat:Nat):Int)=t by omega]; exact y)
    rw[d] at this
    cases this
   ·rintro ⟨⟨⟨a,b⟩,c⟩,d⟩
    refine⟨⟨a,b⟩,c,?_⟩
    cases z:(maskN p).testBit t.toNat with
    | false=>rfl
    | true=>
     have:=(hbit _).mp z
     rw[show ((t.toNat:Nat):Int)=t by omega] at this
     exact absurd this d
  have e4:(maskN p&&&u=0)↔p.all (fun t=>decide (t∈restL n u))=true:=by
   rw[all_sub]
   constructor
   ·intro z t ht
    obtain⟨a,b⟩:=hb t ht
    refine mem_rest.mpr ⟨⟨a,b⟩,?_⟩
    have z1:=bQ (fun x=>Nat.testBit x t.toNat) z
    simp only [cH,bP] at z1
    rw[(hbit t.toNat).mpr (by rw[show ((t.toNat:Nat):Int)=t by omega]; exact ht),fY] at z1
    exact z1
   ·intro z
    refine cy fun i=>?_
    rw[cH,bP]
    cases y:(maskN p).testBit i with
    | false=>rfl
    | true=>
     have:=(mem_rest.mp (z _ ((hbit i).mp y))).2
     rw[aS] at this
     rw[this]
     rfl
  show ecM n (ps.map prs) u+(if maskN p&&&u=0 then ecM n (ps.map prs) (u|||maskN p) else 0)=_
  rw[jHX,h1,h2,e3]
  by_cases z:maskN p&&&u=0
  ·rw[ag z,ag (e4.mp z)]
  ·rw[af z,af fun y=>z (e4.mpr y)]
def bpN (s m:Nat->Nat)(i:Nat):List (List Int):=replicate (s i) [(i:Int)]++if i=0 then [] else replicate (m i) [(i:Int) - 1,(i:Int)]
def bp (s m:Nat->Nat):Nat->List (List Int)
 | 0=> []
 | i+1=>bp s m i++bpN s m i
def wy (s m:Nat->Nat):Nat->Nat
 | 0=>1
 | 1=>s 0
 | i+2=>s (i+1)*wy s m (i+1)+m (i+1)*wy s m i
theorem mem_upto' {n:Nat}{t:Int} :t∈upto n↔0<=t/\t<n:=by
 unfold upto
 rw[aN]
 constructor
 ·rintro ⟨i,hi,rfl⟩
  have:=bN.mp hi
  omega
 ·rintro ⟨a,b⟩
  exact⟨t.toNat,bN.mpr (by omega),by omega⟩
section
variable {s m:Nat->Nat}
theorem jK4 {i:Nat}{p:List Int}(h:p∈bpN s m i):(i:Int)∈p/\∀ t∈p,0<=t/\t<=i:=by
 unfold bpN at h
 rcases ax.mp h with z | z
 ·rw[(cX.mp z).2]
  exact⟨dw _,fun t ht=>by rw[ay.mp ht]; omega⟩
 ·by_cases h0:i=0
  ·rw[ag h0] at z
   cases z
  ·rw[af h0] at z
   rw[(cX.mp z).2]
   refine⟨aq _ (dw _),fun t ht=>?_⟩
   simp only [aR,cg,eI] at ht
   rcases ht with rfl | rfl <;> omega
theorem jDH:∀ {i:Nat}{p:List Int},p∈bp s m i->p≠ []/\∀ t∈p,0<=t/\t<i
 | 0,p,h=>by cases h
 | i+1,p,h=>by
  rcases ax.mp h with z | z
  ·obtain⟨a,b⟩:=jDH z
   exact⟨a,fun t ht=>by have:=b t ht; omega⟩
  ·obtain⟨a,b⟩:=jK4 z
   exact⟨fun y=>(by rw[y] at a; cases a),fun t ht=>by have:=b t ht; omega⟩
theorem jQ7 (i:Nat):xc (bp s m (i+1)) (upto i)=xc (bp s m i) (upto i):=by
 show xc (bp s m i++bpN s m i) (upto i)=_
 rw[jCS bM]
 exact jDQ fun p hp=>⟨i,(jK4 hp).1,fun y=>by have:=mem_upto'.mp y; omega⟩
theorem bp_wy:∀ i,xc (bp s m i) (upto i)=wy s m i/\xc (bp s m (i+1)) (upto (i+1))=wy s m (i+1)
 | 0=>by
  refine⟨rfl,?_⟩
  show xc ([]++bpN s m 0) (upto 1)=s 0
  have e:bpN s m 0=replicate (s 0) [(0:Int)]++[]:=rfl
  rw[gH,e,jGB (fun t ht=>by rw[ay.mp ht]; exact mem_upto'.mpr (by omega)) (by simp)]
  have e1:xc [] (upto 1)=0:=rfl
  have e2:xc [] (offL (upto 1) [0])=1:=rfl
  rw[e1,e2]
  omega
 | i+1=>by
  obtain⟨h1,h2⟩:=bp_wy i
  refine⟨h2,?_⟩
  have eN:bpN s m (i+1)=replicate (s (i+1)) [((i+1:Nat):Int)]++replicate (m (i+1)) [((i+1:Nat):Int) - 1,((i+1:Nat):Int)]:=rfl
  show xc (bp s m (i+1)++bpN s m (i+1)) (upto (i+2))=s (i+1)*wy s m (i+1)+m (i+1)*wy s m i
  have big:∀ {p:List Int},(∀ t∈p,0<=t/\t<=((i+1:Nat):Int))->∀ t∈p,t∈upto (i+2):=fun h t ht=>mem_upto'.mpr (by have:=h t ht; omega)
  rw[jCS bM,eN,aE,jGB (big fun t ht=>by rw[ay.mp ht]; omega) (by simp),jGB (big fun t ht=>by
   simp only [aR,cg,eI] at ht
   rcases ht with rfl | rfl <;> omega) (by simp)]
  have z0:xc (bp s m (i+1)) (upto (i+2))=0:=jGC (t:=((i+1:Nat):Int)) (mem_upto'.mpr (by omega)) fun p hp y=>by have:=(jDH hp).2 _ y; omega
  have z1:xc (bp s m (i+1)) (offL (upto (i+2)) [((i+1:Nat):Int) - 1,((i+1:Nat):Int)])=wy s m i:=by
   rw[<- h1,<- jQ7]
   refine jCB fun t=>?_
   rw[mem_offL,mem_upto',mem_upto']
   simp only [aR,cg,eI]
   omega
  have z2:xc (replicate (m (i+1)) [((i+1:Nat):Int) - 1,((i+1:Nat):Int)]++bp s m (i+1)) (offL (upto (i+2)) [((i+1:Nat):Int)])=wy s m (i+1):=by
   rw[jDQ fun p hp=>⟨((i+1:Nat):Int),by rw[(cX.mp hp).2]; exact aq _ (dw _),fun y=>(mem_offL.mp y).2 (dw _)⟩,<- h2]
   refine jCB fun t=>?_
   rw[mem_offL,mem_upto',mem_upto',ay]
   omega
  rw[z0,z1,z2]
  omega
theorem jMB:∀ i,(bp (fun j=>s j+1) m i).Perm (bp s m i++(upto i).map fun t=> [t])
 | 0=>eQ _
 | i+1=>by
  have us:upto (i+1)=upto i++[(i:Int)]:=by unfold upto; rw[eg,aK]; rfl
  have eN:(bpN (fun j=>s j+1) m i).Perm (bpN s m i++[[(i:Int)]]):=by
   show ([(i:Int)]::(replicate (s i) [(i:Int)])++_).Perm _
   exact(dP _ _).symm
  show (bp (fun j=>s j+1) m i++bpN (fun j=>s j+1) m i).Perm (bp s m i++bpN s m i++_)
  rw[us,aK]
  refine((jMB i).append eN).trans ?_
  rw[aE,aE]
  refine cm _ ?_
  rw[<- aE,<- aE]
  exact(bM).append_right _
end
theorem jHB {s m s' m':Nat->Nat} :∀ {i:Nat},(∀ j,j<i->s j=s' j/\m j=m' j)->bp s m i=bp s' m' i
 | 0,_=>rfl
 | i+1,h=>by
  show bp s m i++bpN s m i=bp s' m' i++bpN s' m' i
  rw[jHB fun j hj=>h j (by omega)]
  unfold bpN
  rw[(h i (by omega)).1,(h i (by omega)).2]
theorem jDS {s m s' m':Nat->Nat} :∀ {i:Nat},(∀ j,j<i->s j=s' j/\m j=m' j)->wy s m i=wy s' m' i
 | 0,_=>rfl
 | 1,h=>(h 0 (by omega)).1
 | i+2,h=>by
  show s (i+1)*wy s m (i+1)+m (i+1)*wy s m i=s' (i+1)*wy s' m' (i+1)+m' (i+1)*wy s' m' i
  rw[jDS (i:=i+1) fun j hj=>h j (by omega),jDS (i:=i) fun j hj=>h j (by omega),(h (i+1) (by omega)).1,(h (i+1) (by omega)).2]
def TsL (H:Hp)(us:List V)(ws:List (List Int)):Prop:=All2 (fun u l=>∃ a,u=V.ref a/\H a=some (.tup (l.map V.int))) us ws
theorem TsL.mono {H H':Hp}(t:Tups H H'):∀ {us:List V}{ws:List (List Int)},TsL H us ws->TsL H' us ws
 | [],[],_=>trivial
 | _::_,_::_,⟨h,r⟩=>⟨let ⟨a,e,q⟩:=h; ⟨a,e,t _ _ q⟩,TsL.mono t r⟩
theorem TsL.app {H:Hp}{us vs:List V}{ws zs:List (List Int)}(h:TsL H us ws)(k:TsL H vs zs):TsL H (us++vs) (ws++zs):=by
 induction us generalizing ws with
 | nil=>cases ws with
  | nil=>exact k
  | cons _ _=>exact h.elim
 | cons u us ih=>cases ws with
  | nil=>exact h.elim
  | cons w ws=>exact⟨h.1,ih h.2⟩
theorem TsL.rep {H:Hp}{a:Addr}{l:List Int}(h:H a=some (.tup (l.map V.int))):∀ k:Nat,TsL H (replicate k [V.ref a]).flatten (replicate k l)
 | 0=>trivial
 | k+1=>⟨⟨a,rfl,h⟩,TsL.rep h k⟩
section
variable {P:Program}{w:World}{K:W.Frag}{mg:Str->Option Value}{base:Heap}
variable {f fT:Addr}{fdT:FuncData}{cdv:Value}{A:Around}{outer:List Env}{s:Shared}{H0:Hp}{E:XK}
abbrev jDL:List Str:=["pot","size","may","pieces","ways","place","single","pair","more"]
theorem scBlock:FnScope jDL ["pot","size","may"] (j7 y9):=⟨rfl,rfl,rfl,by decide+kernel,rfl,by decide+kernel,by decide+kernel⟩
def b2n (a:Bool):Nat:=if a then 1 else 0
def jFQ:Sp:=fun vs H Q _=>∃ (p:Addr) (N:Int) (z:Nat) (a:Bool),vs=[.ref p,natV z, .bl a]/\H p=some (.lst [.int N])/\0<=N/\z<=4/\
 ∀ (r L:Addr) (us:List V) (N':Int) (si pa:Nat->Nat) (H':Hp),(∀ j,si j<=2/\pa j<=1)->(∀ j,j<z->1<=si j)->H' r=some (.lst [.ref L,natV (wy (fun j=>si j+b2n a) pa z)])->H' L=some (.lst us)->TsL H' us (bp si pa z)->0<=N'->H' p=some (.lst [.int N'])->Keep H H' p->Q (.ref r) H'
def jEF (T:Txt mg)(CT:Can P w K mg base "_law_take" 1 fT fdT ["pot","wide"] jD1)(hr:Room 1 (XOf jDL "_law_block" y9 P w K mg base f cdv A outer s H0 E).A): { t:TS // JSs (XOf jDL "_law_block" y9 P w K mg base f cdv A outer s H0 E) (jCG ((jB y9).getD 2 (.Pass ⟨0,0,0,0⟩))) t} :=
 have nd:=scBlock.nd
 ⟨_,(j9 (jE (i:=6) nd rfl lL (jL kY (je_int) (CT.je hr gD (j3 (jv 0 rfl vL) (j3 (je_int) j6 jK) j4) j4)) jBN)
   (j9 (jAN (je_bm bb dX dY jEY (jv 3 rfl vL) (j3 (jL jGP (kL (j3 (yD (j3 (jv 5 rfl vL) j6 j4)) j6 jB8)) (jv 6 rfl vL)) j6 kX) kX) jN)
   (j9 (jE (i:=7) nd rfl lL (CT.je hr gD (j3 (jv 0 rfl vL) (j3 (je_int) j6 jK) j4) j4) jN)
   (j9 (yI (jW op_gt (jv 5 rfl vL) (je_int) (jQ _)) (jC (jAN (je_bm bb dX dY jEY (jv 3 rfl vL) (j3 (jL jGP (kL (j3 (yD (j3 (jL jD6 (jv 5 rfl vL) (je_int)) (j3 (jv 5 rfl vL) j6 j4) kX)) j6 jB8)) (jv 7 rfl vL)) j6 kX) kX) jN)) kG)
   (j9 (jE (i:=8) nd rfl lL (jL jCE (jL kY (jv 6 rfl vL) (jA7 jFC gD T.int (by decide+kernel) (j3 (jv 2 rfl vL) j6 j4) j4)) (kE jAH (jv 4 rfl vL) (jv 5 rfl vL) jAP)) jBN)
   (j9 (yI (jW op_gt (jv 5 rfl vL) (je_int) (jQ _)) (jC (jE (i:=8) nd rfl lL (jL kY (jv 8 rfl vL) (jL jCE (jv 7 rfl vL) (kE jAH (jv 4 rfl vL) (jL jD6 (jv 5 rfl vL) (je_int)) jD2))) jBN)) kG)
   (jC (jAN (je_bm bb dm dn jAQ (jv 4 rfl vL) (j3 (jv 8 rfl vL) j6 j4) j4) jN))))))))⟩
def jQ8 (T:Txt mg)(CT:Can P w K mg base "_law_take" 1 fT fdT ["pot","wide"] jD1)(hr:Room 1 (XOf jDL "_law_block" y9 P w K mg base f cdv A outer s H0 E).A): { t:TS // JSs (XOf jDL "_law_block" y9 P w K mg base f cdv A outer s H0 E) (jB y9) t} :=
 have nd:=scBlock.nd
 ⟨_,(j9 (jE (i:=3) nd rfl lL (kL j6) jBM) (j9 (jE (i:=4) nd rfl lL (kL (j3 (je_int) j6 jK)) jBM) (j9 (yB bB rfl (jA6 gD T.range (j3 (jv 1 rfl vL) j6 j4) j4) (jG (i:=5) nd rfl lL) (jEF T CT hr).2 kI) (jC (jV (kL (j3 (jv 3 rfl vL) (j3 (kE jAH (jv 4 rfl vL) (jv 1 rfl vL) jAP) j6 kW) j4)))))))⟩
theorem jJ4 (T:Txt mg)(CT:Can P w K mg base "_law_take" 1 fT fdT ["pot","wide"] jD1)(hr:Room 1 (XOf jDL "_law_block" y9 P w K mg base f cdv A outer s H0 E).A)
  {D:Ends}{H:Hp}{p L W:Addr}{N:Int}{us:List V}{ws:List Nat}{i:Nat}{a:Bool}{v1 v6 v7 v8:Option V}(hp:H p=some (.lst [.int N])) (hN:0<=N) (hL:H L=some (.lst us)) (hW:H W=some (.lst (ws.map natV))) (ul:us.length<=100) (wl:ws.length=i+1) (i4:i<4) (Lp:L≠p) (Wp:W≠p) (LW:L≠W)
  (nx:∀ (H':Hp) (N':Int) (s1 m1:Nat) (zs:List V) v6 v7 v8,s1<=2->1<=s1->m1<=1->0<=N'->H' p=some (.lst [.int N'])->H' L=some (.lst (us++zs))->TsL H' zs (replicate s1 [(i:Int)]++if i=0 then [] else replicate m1 [(i:Int) - 1,(i:Int)])->zs.length<=3->
   H' W=some (.lst ((ws++[(s1+b2n a)*ws.getD i 0+if i=0 then 0 else m1*ws.getD (i - 1) 0]).map natV))->(∀ c o,H c=some o->c≠p->c≠L->c≠W->H' c=some o)->D.nx [some (.ref p),v1,some (.bl a),some (.ref L),some (.ref W),some (natV i),v6,v7,v8] H'):
  (jEF T CT hr).1 D [some (.ref p),v1,some (.bl a),some (.ref L),some (.ref W),some (natV i),v6,v7,v8] H:=by
 refine⟨_,rfl,p,N,2,rfl,hp,hN,by decide,by decide,fun N1 r1 a1 a2 a3=>⟨_,_,rfl,rfl,?_⟩⟩
 have k1:∀ c o,H c=some o->c≠p->(L2.upd H p (.lst [.int N1])) c=some o:=fun c o h n=>by rw[jA n]; exact h
 have p1:(L2.upd H p (.lst [.int N1])) p=some (.lst [.int N1]):=j8
 generalize L2.upd H p (.lst [.int N1])=H1 at k1 p1
 refine⟨_,rfl, .inl ⟨rfl,_,SqL.of (k1 _ _ hL Lp)⟩,_,rfl,by show (1:Nat)<=_; decide,fun t H2 d2 e2=>?_⟩
 refine⟨by show (1:Nat)<=_; decide,fun l H3 d3 e3 n3=>?_⟩
 have E3:=e2.trans e3
 have L3:H3 L=some (.lst us):=E3 _ _ (k1 _ _ hL Lp)
 have W3:H3 W=some (.lst (ws.map natV)):=E3 _ _ (k1 _ _ hW Wp)
 have p3:=E3 _ _ p1
 have t3:=e3 _ _ d2
 obtain⟨s1,hs1,s10,s12⟩:∃ s1:Nat,(1:Int)+r1=(s1:Int)/\1<=s1/\s1<=2:=⟨(1+r1).toNat,by omega,by omega,by omega⟩
 refine⟨_,rfl,l,_,_,rfl,rfl,d3,by show -(2 ^ 63:Int)<=1+r1; omega,by show 1+r1<(2 ^ 63:Int); omega,by show 1*(1+r1).toNat<=_; rw[aI]; omega,fun q hq=>?_⟩
 have q3:(1+r1).toNat=s1:=by omega
 have qL:q≠L:=fun z=>by rw[z,L3] at hq; cases hq
 refine⟨L,q,us,_,rfl,rfl,by rw[jA (bV qL)]; exact L3,j8,by
  show us.length+(replicate (1+r1).toNat [V.ref t]).flatten.length<=_
  rw[jDA,aI,cI]
  omega,?_⟩
 have zs1:TsL H3 (replicate (1+r1).toNat [V.ref t]).flatten (replicate s1 [(i:Int)]):=by rw[q3]; exact TsL.rep (l:=[(i:Int)]) t3 s1
 have zl1:(replicate (1+r1).toNat [V.ref t]).flatten.length=s1:=by rw[jDA,cI]; omega
 generalize (replicate (1+r1).toNat [V.ref t]).flatten=z1 at zs1 zl1
 have k4:∀ c o,H3 c=some o->c≠L->(L2.upd (L2.upd H3 q (.lst z1)) L (.lst (us++z1))) c=some o:=fun c o h n=>by rw[jA n,jA (fun z=>by rw[z,hq] at h; cases h)]; exact h
 have L4:(L2.upd (L2.upd H3 q (.lst z1)) L (.lst (us++z1))) L=some (.lst (us++z1)):=j8
 generalize L2.upd (L2.upd H3 q (.lst z1)) L (.lst (us++z1))=H4 at k4 L4
 have p4:=k4 _ _ p3 (bV Lp)
 have W4:=k4 _ _ W3 (bV LW)
 refine⟨_,rfl,p,N1,2,rfl,p4,a1,by decide,by decide,fun N5 r5 b1 b2 b3=>?_⟩
 have k5:∀ c o,H4 c=some o->c≠p->(L2.upd H4 p (.lst [.int N5])) c=some o:=fun c o h n=>by rw[jA n]; exact h
 have p5:(L2.upd H4 p (.lst [.int N5])) p=some (.lst [.int N5]):=j8
 generalize L2.upd H4 p (.lst [.int N5])=H5 at k5 p5
 have L5:=k5 _ _ L4 Lp
 have W5:=k5 _ _ W4 Wp
 have K5:∀ c o,H c=some o->c≠p->c≠L->H5 c=some o:=fun c o h n1 n2=>k5 _ _ (k4 _ _ (E3 _ _ (k1 _ _ h n1)) n2) n1
 have T5:Tups H3 H5:=fun c xs h=>k5 _ _ (k4 _ _ h fun z=>by rw[z,L3] at h; cases h) fun z=>by rw[z,p3] at h; cases h
 have zs5:=zs1.mono T5
 obtain⟨m1,hm1,m11⟩:∃ m1:Nat,r5=(m1:Int)/\m1<=1:=⟨r5.toNat,by omega,by omega⟩
 subst hm1
 have wget:∀ j,j<ws.length->atI (ws.map natV) (j:Int)=some (natV (ws.getD j 0)):=fun j hj=>kU (by rw[aA,aj hj,aB,aj hj]; rfl)
 have ab:∃ ai:Nat,(if a=true then (1:Int) else 0)=(ai:Int)/\ai=b2n a:=⟨b2n a,by cases a <;> rfl,rfl⟩
 obtain⟨ai,hai,hai2⟩:=ab
 cases i with
 | zero=>
  refine⟨_,rfl,_,_,rfl,rfl,_,rfl,iteN (by show decide _=false; exact aM (by show ¬ (0:Int)<((0:Nat):Int); omega)) ?_⟩
  refine⟨_,rfl,_,rfl, .inr ⟨_,rfl,?_⟩⟩
  rw[hai]
  refine⟨_,_,rfl,rfl,_,rfl,_,rfl,W,_,((0:Nat):Int),_,rfl,rfl,SqL.of W5,wget 0 (by omega),_,_,rfl,rfl, .inl ⟨by show -(2 ^ 64:Int)<1+r1+(ai:Int); unfold b2n at hai2; split at hai2 <;> omega,by show 1+r1+(ai:Int)<(2 ^ 64:Int); unfold b2n at hai2; split at hai2 <;> omega⟩,?_⟩
  refine⟨_,rfl,_,_,rfl,rfl,_,rfl,iteN (by show decide _=false; exact aM (by show ¬ (0:Int)<((0:Nat):Int); omega)) ?_⟩
  refine⟨_,rfl, .inl ⟨rfl,_,SqL.of W5⟩,_,rfl,W,_,_,rfl,rfl,W5,by rw[aa,aI]; omega,?_⟩
  have vv:(1+r1+(ai:Int))*((ws.getD 0 0:Nat):Int)=(((s1+b2n a)*ws.getD 0 0+0:Nat):Int):=by
   rw[hs1,hai2,cK,fb,gL]
  have TW:Tups H5 (L2.upd H5 W (.lst (ws.map natV++[.int ((1+r1+(ai:Int))*((ws.getD 0 0:Nat):Int))]))):=fun c xs h=>by rw[jA (fun z=>by rw[z,W5] at h; cases h)]; exact h
  refine nx _ N5 s1 m1 z1 _ _ _ s12 s10 m11 b1 (by rw[jA (bV Wp)]; exact p5) (by rw[jA LW]; exact L5) ?_ (by omega) ?_ (fun c o h n1 n2 n3=>by rw[jA n3]; exact K5 c o h n1 n2)
  ·rw[ag rfl,bg]
   exact zs5.mono TW
  ·rw[ag rfl,aK]
   show L2.upd H5 W (.lst (ws.map natV++[V.int ((1+r1+(ai:Int))*((ws.getD 0 0:Nat):Int))])) W=some (.lst (ws.map natV++[V.int (((s1+b2n a)*ws.getD 0 0+0:Nat):Int)]))
   rw[<- vv]
   exact j8
 | succ i'=>
  refine⟨_,rfl,_,_,rfl,rfl,_,rfl,iteT' (aG (by show (0:Int)<((i'+1:Nat):Int); omega)) ?_⟩
  refine⟨_,rfl, .inl ⟨rfl,_,SqL.of L5⟩,_,rfl,_,_,rfl,rfl,_,rfl,by show (2:Nat)<=_; decide,fun t6 H6 d6 e6=>?_⟩
  refine⟨by show (1:Nat)<=_; decide,fun l7 H7 d7 e7 n7=>?_⟩
  have E7:=e6.trans e7
  have L7:=E7 _ _ L5
  have t7:=e7 _ _ d6
  refine⟨_,rfl,l7,_,_,rfl,rfl,d7,by show -(2 ^ 63:Int)<=(m1:Int); omega,by show (m1:Int)<(2 ^ 63:Int); omega,by show 1*((m1:Int)).toNat<=_; rw[aI,aS]; omega,fun q8 hq8=>?_⟩
  have qL8:q8≠L:=fun z=>by rw[z,L7] at hq8; cases hq8
  refine⟨L,q8,_,_,rfl,rfl,by rw[jA (bV qL8)]; exact L7,j8,by
   show (us++z1).length+(replicate ((m1:Int)).toNat [V.ref t6]).flatten.length<=_
   rw[jDA,aI,cI,ar,aS]
   omega,?_⟩
  have zs8:TsL H7 (replicate ((m1:Int)).toNat [V.ref t6]).flatten (replicate m1 [((i'+1:Nat):Int) - 1,((i'+1:Nat):Int)]):=by rw[aS]; exact TsL.rep (l:=[((i'+1:Nat):Int) - 1,((i'+1:Nat):Int)]) t7 m1
  have zl8:(replicate ((m1:Int)).toNat [V.ref t6]).flatten.length=m1:=by rw[jDA,cI,aS]; omega
  generalize (replicate ((m1:Int)).toNat [V.ref t6]).flatten=z8 at zs8 zl8
  have k9:∀ c o,H7 c=some o->c≠L->(L2.upd (L2.upd H7 q8 (.lst z8)) L (.lst (us++z1++z8))) c=some o:=fun c o h n=>by rw[jA n,jA (fun z=>by rw[z,hq8] at h; cases h)]; exact h
  have L9:(L2.upd (L2.upd H7 q8 (.lst z8)) L (.lst (us++z1++z8))) L=some (.lst (us++z1++z8)):=j8
  generalize L2.upd (L2.upd H7 q8 (.lst z8)) L (.lst (us++z1++z8))=H9 at k9 L9
  have T9:Tups H7 H9:=fun c xs h=>k9 _ _ h fun z=>by rw[z,L7] at h; cases h
  have p9:=k9 _ _ (E7 _ _ p5) (bV Lp)
  have W9:=k9 _ _ (E7 _ _ W5) (bV LW)
  refine⟨_,rfl,_,rfl, .inr ⟨_,rfl,?_⟩⟩
  rw[hai]
  refine⟨_,_,rfl,rfl,_,rfl,_,rfl,W,_,((i'+1:Nat):Int),_,rfl,rfl,SqL.of W9,wget (i'+1) (by omega),_,_,rfl,rfl, .inl ⟨by show -(2 ^ 64:Int)<1+r1+(ai:Int); unfold b2n at hai2; split at hai2 <;> omega,by show 1+r1+(ai:Int)<(2 ^ 64:Int); unfold b2n at hai2; split at hai2 <;> omega⟩,?_⟩
  refine⟨_,rfl,_,_,rfl,rfl,_,rfl,iteT' (aG (by show (0:Int)<((i'+1:Nat):Int); omega)) ?_⟩
  have ix:atI (ws.map natV) (((i'+1:Nat):Int) - 1)=some (natV (ws.getD i' 0)):=by
   rw[show (((i'+1:Nat):Int) - 1)=(i':Int) by omega]
   exact wget i' (by omega)
  refine⟨_,rfl,_,rfl,_,rfl,_,rfl,_,_,rfl,rfl,W,_,_,_,rfl,rfl,SqL.of W9,ix,_,_,rfl,rfl, .inl ⟨by show -(2 ^ 64:Int)<(m1:Int); omega,by show (m1:Int)<(2 ^ 64:Int); omega⟩,_,_,rfl,rfl,?_⟩
  refine⟨_,rfl, .inl ⟨rfl,_,SqL.of W9⟩,_,rfl,W,_,_,rfl,rfl,W9,by rw[aa,aI]; omega,?_⟩
  have vv:(1+r1+(ai:Int))*((ws.getD (i'+1) 0:Nat):Int)+(m1:Int)*((ws.getD i' 0:Nat):Int)=(((s1+b2n a)*ws.getD (i'+1) 0+m1*ws.getD i' 0:Nat):Int):=by
   rw[hs1,hai2,gL,fb,fb,gL]
  have TW:Tups H9 (L2.upd H9 W (.lst (ws.map natV++[.int ((1+r1+(ai:Int))*((ws.getD (i'+1) 0:Nat):Int)+(m1:Int)*((ws.getD i' 0:Nat):Int))]))):=fun c xs h=>by rw[jA (fun z=>by rw[z,W9] at h; cases h)]; exact h
  have T57:Tups H5 H7:=fun c xs h=>E7 _ _ h
  refine nx _ N5 s1 m1 (z1++z8) _ _ _ s12 s10 m11 b1 (by rw[jA (bV Wp)]; exact p9) (by rw[jA LW,<- aE]; exact L9) ?_ (by rw[ar]; omega) ?_ (fun c o h n1 n2 n3=>by rw[jA n3]; exact k9 _ _ (E7 _ _ (K5 c o h n1 n2)) n2)
  ·rw[af (gx _)]
   exact(TsL.app ((zs5.mono T57).mono T9) (zs8.mono T9)).mono TW
  ·rw[af (gx _),aK]
   show L2.upd H9 W (.lst (ws.map natV++[V.int ((1+r1+(ai:Int))*((ws.getD (i'+1) 0:Nat):Int)+(m1:Int)*((ws.getD i' 0:Nat):Int))])) W=some (.lst (ws.map natV++[V.int (((s1+b2n a)*ws.getD (i'+1) 0+m1*ws.getD i' 0:Nat):Int)]))
   rw[<- vv]
   exact j8
theorem jQ6 {s m:Nat->Nat}(i s1 m1:Nat):bp (fun j=>if j=i then s1 else s j) (fun j=>if j=i then m1 else m j) (i+1)=bp s m i++(replicate s1 [(i:Int)]++if i=0 then [] else replicate m1 [(i:Int) - 1,(i:Int)]):=by
 show bp _ _ i++bpN _ _ i=_
 rw[jHB (s':=s) (m':=m) fun j hj=>⟨af (by omega),af (by omega)⟩]
 unfold bpN
 show _++(replicate (if i=i then s1 else s i) [(i:Int)]++if i=0 then [] else replicate (if i=i then m1 else m i) [(i:Int) - 1,(i:Int)])=_
 rw[ag rfl,ag rfl]
theorem jHY {s m:Nat->Nat}{i j s1 m1 c:Nat}(h:j<=i):wy (fun j=>(if j=i then s1 else s j)+c) (fun j=>if j=i then m1 else m j) j=wy (fun j=>s j+c) m j:=jDS fun l hl=>⟨by show (if l=i then s1 else s l)+c=_; rw[af (by omega)],af (by omega)⟩
theorem jOK {s m:Nat->Nat}(i s1 m1 c:Nat):wy (fun j=>(if j=i then s1 else s j)+c) (fun j=>if j=i then m1 else m j) (i+1)=(s1+c)*wy (fun j=>s j+c) m i+if i=0 then 0 else m1*wy (fun j=>s j+c) m (i - 1):=by
 cases i with
 | zero=>
  show (if 0=0 then s1 else s 0)+c=(s1+c)*1+0
  rw[ag rfl,Nat.mul_one,cK]
 | succ i=>
  show ((if i+1=i+1 then s1 else s (i+1))+c)*wy _ _ (i+1)+(if i+1=i+1 then m1 else m (i+1))*wy _ _ i=_
  rw[ag rfl,ag rfl,jHY (az _),jHY (gR _),af (gx _)]
  rfl
theorem jKS {fd:FuncData}(F:Fun K "_law_block" "_law_block" y9 f fd)(T:Txt mg)(CT:Can P w K mg base "_law_take" 1 fT fdT ["pot","wide"] jD1):FnOk P w K mg base CX0 2 f fd ["pot","size","may"] jFQ:=by
 refine F.ok scBlock (fun vs H Q E h=>?_) (fun cdv A outer s H vs Q E hr h=>?_)
 ·obtain⟨_,_,_,_,rfl,_⟩:=h
  rfl
 ·obtain⟨p,N,z,a,rfl,hp,hN,z4,q⟩:=h
  refine⟨_,(jQ8 T CT hr).2.h,?_⟩
  refine⟨by show (0:Nat)<=_; decide,fun L H1 d1 e1 n1=>?_⟩
  refine⟨by show (1:Nat)<=_; decide,fun W H2 d2 e2 n2=>?_⟩
  have E2:=e1.trans e2
  have p2:=E2 _ _ hp
  have L2':=e2 _ _ d1
  have Lp:L≠p:=fun y=>by rw[y,hp] at n1; cases n1
  have Wp:W≠p:=fun y=>by rw[y,e1 _ _ hp] at n2; cases n2
  have LW:L≠W:=fun y=>by rw[<- y,d1] at n2; cases n2
  refine⟨_,rfl,(z:Int),rfl,by omega,by omega,jAJ (lo:=0) (n:=z) (fun i σ H'=>(∃ v5 v6 v7 v8,σ=[some (.ref p),some (natV z),some (.bl a),some (.ref L),some (.ref W),v5,v6,v7,v8])/\(∀ c o,H2 c=some o->c≠p->c≠L->c≠W->H' c=some o)/\(∃ N',H' p=some (.lst [.int N'])/\0<=N')/\∃ (si pa:Nat->Nat) (us:List V),((∀ j,si j<=2/\pa j<=1)/\∀ j,j<i->1<=si j)/\H' L=some (.lst us)/\TsL H' us (bp si pa i)/\us.length<=3*i/\H' W=some (.lst (((List.range (i+1)).map (wy (fun j=>si j+b2n a) pa)).map natV))) ⟨⟨_,_,_,_,rfl⟩,fun _ _ h _ _ _=>h,⟨N,p2,hN⟩,fun _=>0,fun _=>0,[],⟨fun _=>⟨bH _,bH _⟩,fun _ h=>absurd h (ed _)⟩,L2',trivial,by decide,d2⟩ ?_ ?_⟩
  ·rintro i σ H3 hi ⟨⟨v5,v6,v7,v8,rfl⟩,k3,⟨N3,p3,n3⟩,si,pa,us,⟨hb,hb0⟩,L3,ts3,ul3,W3⟩
   have e0:(0+(i:Int))=(i:Int):=by omega
   show (jEF T CT hr).1 _ [some (.ref p),some (natV z),some (.bl a),some (.ref L),some (.ref W),some (.int (0+(i:Int))),v6,v7,v8] H3
   rw[e0]
   have gd:∀ j,j<=i->((List.range (i+1)).map (wy (fun j=>si j+b2n a) pa)).getD j 0=wy (fun j=>si j+b2n a) pa j:=fun j hj=>by
    rw[aB,aA,dq (by omega)]
    rfl
   refine jJ4 T CT hr p3 n3 L3 W3 (by omega) (by rw[aa,dh]) (by omega) Lp Wp LW fun H4 N4 s1 m1 zs v6 v7 v8 hs hs0 hm n4 p4 L4 ts4 zl W4 k4=>⟨⟨_,_,_,_,rfl⟩,fun c o h a b d=>k4 _ _ (k3 _ _ h a b d) a b d,⟨N4,p4,n4⟩,fun j=>if j=i then s1 else si j,fun j=>if j=i then m1 else pa j,us++zs,⟨fun j=>?_,fun j hj=>?_⟩,L4,?_,by rw[ar]; omega,?_⟩
   ·show (if j=i then s1 else si j)<=2/\(if j=i then m1 else pa j)<=1
    have:=hb j
    split <;> omega
   ·show 1<=if j=i then s1 else si j
    split
    ·exact hs0
    ·exact hb0 j (by omega)
   ·rw[jQ6]
    refine TsL.app (ts3.mono fun c xs h=>k4 _ _ h (fun y=>by rw[y,p3] at h; cases h) (fun y=>by rw[y,L3] at h; cases h) fun y=>by rw[y,W3] at h; cases h) ts4
   ·rw[W4,gd i (az _),gd (i - 1) (by omega)]
    refine bQ (fun x=>some (HO.lst (List.map natV x))) ?_
    rw[eg (n:=i+1),aK]
    have h1:(List.range (i+1)).map (wy (fun j=>(if j=i then s1 else si j)+b2n a) fun j=>if j=i then m1 else pa j)=(List.range (i+1)).map (wy (fun j=>si j+b2n a) pa):=bx fun j hj=>jHY (by have:=bN.mp hj; omega)
    have h2:=jOK (s:=si) (m:=pa) i s1 m1 (b2n a)
    show _=(List.range (i+1)).map (wy (fun j=>(if j=i then s1 else si j)+b2n a) fun j=>if j=i then m1 else pa j)++[wy (fun j=>(if j=i then s1 else si j)+b2n a) (fun j=>if j=i then m1 else pa j) (i+1)]
    rw[h1,h2]
  ·rintro σ H3 ⟨⟨v5,v6,v7,v8,rfl⟩,k3,⟨N3,p3,n3⟩,si,pa,us,⟨hb,hb0⟩,L3,ts3,ul3,W3⟩
   have at3:atI (((List.range (z+1)).map (wy (fun j=>si j+b2n a) pa)).map natV) (z:Int)=some (natV (wy (fun j=>si j+b2n a) pa z)):=kU (by rw[aA,aA,dq (by omega)]; rfl)
   refine⟨_,rfl,_,rfl,_,rfl,W,_,_,_,rfl,rfl,SqL.of W3,at3,by show (2:Nat)<=_; decide,fun r H4 d4 e4 n4=>?_⟩
   exact q r L us N3 si pa H4 hb hb0 d4 (e4 _ _ L3) (ts3.mono fun c xs h=>e4 _ _ h) n3 (e4 _ _ p3) fun c o h n=>e4 _ _ (k3 _ _ (E2 _ _ h) n (fun y=>by rw[y] at h; rw[h] at n1; cases n1) fun y=>by rw[y] at h; rw[e1 _ _ h] at n2; cases n2)
end
theorem jDR {f:Int->Int}{U:Int->Prop}(hf:∀ a b,U a->U b->f a=f b->a=b):∀ {ps:List (List Int)}{L:List Int},(∀ p∈ps,∀ t∈p,U t)->(∀ t∈L,U t)->xc (ps.map fun p=>p.map f) (L.map f)=xc ps L
 | [],L,_,_=>by
  show (if L.map f=[] then 1 else 0)=if L=[] then 1 else 0
  by_cases z:L=[]
  ·rw[ag z,z]; rfl
  ·rw[af z,af (fun y=>z (g6.mp y))]
 | p::ps,L,hp,hL=>by
  have hp0:=hp p (aH ..)
  have hps:=fun q hq=>hp q (aq p hq)
  have e:((p.map f).all fun t=>decide (t∈L.map f))=(p.all fun t=>decide (t∈L)):=by
   rw[bJ,all_sub,all_sub]
   constructor
   ·intro z t ht
    obtain⟨s,hs,he⟩:=aN.mp (z (f t) (bX ht))
    rw[<- hf _ _ (hL s hs) (hp0 t ht) he]
    exact hs
   ·intro z t ht
    obtain⟨s,hs,rfl⟩:=aN.mp ht
    exact bX (z s hs)
  have e2:xc (ps.map fun p=>p.map f) (offL (L.map f) (p.map f))=xc (ps.map fun p=>p.map f) ((offL L p).map f):=jCB fun t=>by
   rw[mem_offL]
   constructor
   ·rintro ⟨a,b⟩
    obtain⟨s,hs,rfl⟩:=aN.mp a
    exact bX (mem_offL.mpr ⟨hs,fun y=>b (bX y)⟩)
   ·intro a
    obtain⟨s,hs,rfl⟩:=aN.mp a
    obtain⟨h1,h2⟩:=mem_offL.mp hs
    exact⟨bX h1,fun y=>by
     obtain⟨u,hu,he⟩:=aN.mp y
     rw[hf _ _ (hp0 u hu) (hL s h1) he] at hu
     exact h2 hu⟩
  show xc (ps.map _) (L.map f)+_=xc ps L+_
  rw[jDR hf hps hL,e,e2,jDR hf hps fun t ht=>hL t (mem_offL.mp ht).1]
theorem jEG {α:Type}{f g:α->List Int} :∀ {l:List α},(∀ x∈l,∀ t,t∈f x↔t∈g x)->All2 (fun p q=>∀ t:Int,t∈p↔t∈q) (l.map f) (l.map g)
 | [],_=>trivial
 | a::r,h=>⟨h a (aH ..),jEG fun x hx=>h x (aq _ hx)⟩
theorem jLL {ps qs ps' qs':List (List Int)} :All2 (fun p q=>∀ t:Int,t∈p↔t∈q) ps qs->All2 (fun p q=>∀ t:Int,t∈p↔t∈q) ps' qs'->All2 (fun p q=>∀ t:Int,t∈p↔t∈q) (ps++ps') (qs++qs'):=by
 intro h k
 induction ps generalizing qs with
 | nil=>cases qs with
  | nil=>exact k
  | cons _ _=>exact h.elim
 | cons p ps ih=>cases qs with
  | nil=>exact h.elim
  | cons q qs=>exact⟨h.1,ih h.2⟩
def sgl (ms:List Int):List (List Int):=ms.map fun t=> [t]
theorem jK6 {si pa:Nat->Nat}{z:Nat}{a:Bool}{f:Int->Int}(hf:∀ i j:Int,0<=i/\i<z->0<=j/\j<z->f i=f j->i=j):xc ((bp si pa z).map (fun p=>srt (p.map f))++sgl (if a=true then (upto z).map f else [])) ((upto z).map f)=wy (fun j=>si j+b2n a) pa z:=by
 have h1:xc ((bp si pa z).map (fun p=>srt (p.map f))++sgl (if a=true then (upto z).map f else [])) ((upto z).map f)=xc ((bp si pa z++sgl (if a=true then upto z else [])).map fun p=>p.map f) ((upto z).map f):=by
  refine jCI ?_ fun _=>Iff.rfl
  rw[aK]
  refine jLL (jEG fun p _ t=>(jU _).mem_iff) ?_
  cases a with
  | true=>
   rw[ag rfl,ag rfl]
   unfold sgl
   rw[bv,bv]
   exact jEG fun x _ t=>Iff.rfl
  | false=>trivial
 rw[h1,jDR (U:=fun t=>0<=t/\t<z) hf (fun p hp t ht=>?_) fun t ht=>mem_upto'.mp ht]
 ·cases a with
  | true=>
   rw[ag rfl]
   have:=jCS (jMB (s:=si) (m:=pa) z) (upto z)
   exact this.symm.trans (bp_wy z).1
  | false=>
   have:bp si pa z++sgl (if false=true then upto z else [])=bp si pa z:=bg _
   rw[this]
   exact(bp_wy z).1
 ·rcases ax.mp hp with y | y
  ·exact(jDH y).2 t ht
  ·cases a with
   | true=>
    obtain⟨x,hx,rfl⟩:=aN.mp y
    rw[ay.mp ht]
    exact mem_upto'.mp hx
   | false=>cases y
theorem jLI {ps B:List (List Int)}{ms bs:List Int}{L M:List Int}{d e:Nat}(h1:xc (ps++sgl ms) L=d)(h2:xc (B++sgl bs) M=e)(pa:∀ p∈ps,∀ t∈p,t∈L)(ma:∀ t∈ms,t∈L)(pb:∀ p∈B,p≠ []/\∀ t∈p,t∈M)(mb:∀ t∈bs,t∈M)(dj:∀ t∈L,t∉M):xc ((ps++B)++sgl (ms++bs)) (L++M)=d*e:=by
 have pm:((ps++B)++sgl (ms++bs)).Perm ((ps++sgl ms)++(B++sgl bs)):=by
  have:sgl (ms++bs)=sgl ms++sgl bs:=aK ..
  rw[this,aE,aE]
  refine cm _ ?_
  rw[<- aE,<- aE]
  exact bM.append_right _
 rw[jCS pm,jHW (fun p hp t ht y=>?_) (fun p hp=>?_) dj,h1,h2]
 ·rcases ax.mp hp with z | z
  ·exact dj t (pa p z t ht) y
  ·obtain⟨x,hx,rfl⟩:=aN.mp z
   rw[ay.mp ht] at y
   exact dj x (ma x hx) y
 ·rcases ax.mp hp with z | z
  ·exact⟨(pb p z).1,fun t ht y=>dj t y ((pb p z).2 t ht)⟩
  ·obtain⟨x,hx,rfl⟩:=aN.mp z
   exact⟨by simp,fun t ht y=>by rw[ay.mp ht] at y; exact dj x y (mb x hx)⟩
theorem jKG (l:List Int)(j:Nat)(x:Int):(l.take j++x::l.drop j).Perm (l++[x]):=by
 have h:(l.take j++x::l.drop j).Perm (x::(l.take j++l.drop j)):=List.perm_middle
 rw[br] at h
 exact h.trans (dP x l).symm
section
variable {P:Program}{w:World}{K:W.Frag}{mg:Str->Option Value}{base:Heap}
variable {f fC fP fT fB fM fA fN tb:Addr}{fdC fdP fdT fdB fdM fdA fdN:FuncData}{cdv:Value}{A:Around}{outer:List Env}{s:Shared}{H0:Hp}{E:XK}
noncomputable abbrev nLaw:List Str:=["script","pot","many_things","mays","pieces","due","order","k","size","may","some","ways","names","left","rows","piece","things","box","turn","number"]
theorem scLaw:FnScope nLaw ["script"] (j7 sLaw):=⟨rfl,rfl,rfl,by decide+kernel,rfl,by decide+kernel,by decide+kernel⟩
abbrev XLaw (P:Program)(w:World)(K:W.Frag)(mg:Str->Option Value)(base:Heap)(f:Addr)(cdv:Value)(A:Around)(outer:List Env)(s:Shared)(H:Hp)(E:XK):Cx:=XOf nLaw "law" sLaw P w K mg base f cdv A outer s H E
structure LW (P:Program)(w:World)(K:W.Frag)(mg:Str->Option Value)(base:Heap)(fC fP fT fB fM fA fN tb:Addr)(fdC fdP fdT fdB fdM fdA fdN:FuncData):Prop where
 T:Txt mg
 CC:Can P w K mg base "_law_cell_at" 1 fC fdC ["script","k"] (jIC K)
 CP:Can P w K mg base "_law_pot" 1 fP fdP ["cell"] spPot
 CT:Can P w K mg base "_law_take" 1 fT fdT ["pot","wide"] jD1
 CB:Can P w K mg base "_law_block" 2 fB fdB ["pot","size","may"] jFQ
 CM:Can P w K mg base "many" 6 fM fdM ["box"] (jIB tb)
 CA:Can P w K mg base "covering_at" 6 fA fdA ["box","number"] (jFP tb)
 CN:Can P w K mg base "number_of" 6 fN fdN ["box","covering"] (jFN tb)
section
variable (G:LW P w K mg base fC fP fT fB fM fA fN tb fdC fdP fdT fdB fdM fdA fdN)(hr:Room 6 (XLaw P w K mg base f cdv A outer s H0 E).A)
def ordA: { t:TS // JSs (XLaw P w K mg base f cdv A outer s H0 E) (jCG ((jB sLaw).getD 6 (.Pass ⟨0,0,0,0⟩))) t} :=
 have nd:=scLaw.nd
 ⟨_,(jC (jAN (je_bm bb ga gc jEW (jv 6 rfl vC) (j3 (G.CT.je (hr.mono (by decide)) gD (j3 (jv 1 rfl vL) (j3 (jL kY (jv 7 rfl vL) (je_int)) j6 kX) j4) j4) (j3 (jv 7 rfl vL) j6 j4) jJ) jJ) jN))⟩
theorem jKN {D:Ends}{H:Hp}{p o:Addr}{N:Int}{k:Nat}{os:List Int}{v0 v2 v3 v4 v5:Option V}{vr:List (Option V)}(hp:H p=some (.lst [.int N]))(hN:0<=N)(ho:H o=some (.lst (os.map V.int)))(pm:os.Perm (upto k))(k16:k<16)(op:o≠p)
  (nx:∀ (H':Hp) (N':Int) (os':List Int),os'.Perm (upto (k+1))->H' o=some (.lst (os'.map V.int))->H' p=some (.lst [.int N'])->0<=N'->(∀ c u,H c=some u->c≠p->c≠o->H' c=some u)->D.nx (v0::some (.ref p)::v2::v3::v4::v5::some (.ref o)::some (natV k)::vr) H'):
  (ordA G hr).1 D (v0::some (.ref p)::v2::v3::v4::v5::some (.ref o)::some (natV k)::vr) H:=by
 have ol:os.length=k:=by rw[pm.length_eq,jT]
 refine⟨_,rfl, .inl ⟨rfl,_,SqL.of ho⟩,_,rfl,_,rfl,_,_,rfl,rfl,p,N,_,rfl,hp,hN,by show (0:Int)<(k:Int)+1; omega,by show (k:Int)+1<(2 ^ 64:Int); omega,fun N1 r a1 a2 a3=>?_⟩
 have a3:r<(k:Int)+1:=a3
 have o1:(L2.upd H p (.lst [.int N1])) o=some (.lst (os.map V.int)):=by rw[jA op]; exact ho
 refine⟨_,rfl,o,_,r,_,rfl,rfl,o1,a2,by rw[aa]; omega,by rw[aa,aI]; omega,?_⟩
 refine nx _ N1 (os.take r.toNat++(k:Int)::os.drop r.toNat) ?_ ?_ ?_ a1 fun c u h n1 n2=>?_
 ·have us:upto (k+1)=upto k++[(k:Int)]:=by unfold upto; rw[eg,aK]; rfl
  rw[us]
  exact(jKG os r.toNat k).trans (pm.append_right _)
 ·have e:(os.take r.toNat++(k:Int)::os.drop r.toNat).map V.int=(os.map V.int).take r.toNat++V.int (k:Int)::(os.map V.int).drop r.toNat:=by
   rw[aK,ba,fZ,List.map_drop]
  rw[e]
  exact j8
 ·rw[jA (bV op)]
  exact j8
 ·rw[jA n2,jA n1]
  exact h
end
end
end Eo
end
section
namespace L2
open PySem
theorem jED {X:Cx}{sc:Scope}{cl:List (Str×Addr)}{C:Addr}{Nc:List Str}{fp:List Addr}{s:Shared}{H:Hp} :yP (blk X sc cl C Nc fp s H) (.builtin "sorted") (fun xs H Q=>∃ (p:Addr) (ks:List Int),xs=[.ref p]/\SqL X.K H p (ks.map V.int)/\ks.length<64/\∀ (l:Addr) (ns:List Int),H l=none->ns.Pairwise (· <= ·)->ns.Perm ks->Q (.ref l) (upd H l (.lst (ns.map V.int)))):=jAG
end L2
namespace Eo
open PySem L2
def ifOf:Stmt->List Stmt
 | .If _ a _ _=>a
 | _=> []
section
variable {P:Program}{w:World}{K:W.Frag}{mg:Str->Option Value}{base:Heap}
variable {f fC fP fT fB fM fA fN tb:Addr}{fdC fdP fdT fdB fdM fdA fdN:FuncData}{cdv:Value}{A:Around}{outer:List Env}{s:Shared}{H0:Hp}{E:XK}
section
variable (G:LW P w K mg base fC fP fT fB fM fA fN tb fdC fdP fdT fdB fdM fdA fdN)(hr:Room 6 (XLaw P w K mg base f cdv A outer s H0 E).A)
def bifA: { t:TS // JSs (XLaw P w K mg base f cdv A outer s H0 E) (ifOf ((jCG ((jB sLaw).getD 7 (.Pass ⟨0,0,0,0⟩))).getD 3 (.Pass ⟨0,0,0,0⟩))) t} :=
 have nd:=scLaw.nd
 have _h:=hr
 ⟨_,(j9 (jNW (i:=12) nd rfl (loc_c (by decide+kernel)) (kR (m:=[none,some 6,some 2]) (Nc:=["place","order","many_things"]) rfl (jA6 gD G.T.range (j3 (jv 8 rfl vL) j6 j4) j4) rfl (by decide+kernel) (by decide+kernel) (kT (psc:=j7 sLaw) (by decide+kernel)) (jR (N:=nLaw) rfl rfl (by decide+kernel)) (fun cl C fp s H=>jG (i:=0) (show (["place","order","many_things"]:List Str).Nodup by decide+kernel) rfl (yM (by decide+kernel))) (fun cl C fp s H=>kS) (fun cl C fp s H=>(kE jJE (jv 1 rfl (y6 (by decide+kernel))) (jL kY (jv 2 rfl (y6 (by decide+kernel))) (jv 0 rfl (jX (by decide+kernel)))) jD2)) kI) (by rfl))
   (j9 (jE (i:=3) nd rfl lL (jL jGS (jv 3 rfl vL) (jL jGP (jv 12 rfl vC) (jA7 jFC gD G.T.int (by decide+kernel) (j3 (jv 9 rfl vL) j6 j4) j4))) jBN)
   (j9 (jE (i:=4) nd rfl lL (jL jGS (jv 4 rfl vL) (kR (m:=[none,some 12]) (Nc:=["piece","names"]) rfl (yC (jv 10 rfl vL)) rfl (by decide+kernel) (by decide+kernel) (kT (psc:=j7 sLaw) (by decide+kernel)) (jR (N:=nLaw) rfl rfl (by decide+kernel)) (fun cl C fp s H=>jG (i:=0) (show (["piece","names"]:List Str).Nodup by decide+kernel) rfl (yM (by decide+kernel))) (fun cl C fp s H=>kS) (fun cl C fp s H=>(jA7 jG9 (gl_b (by decide+kernel)) G.T.tuple (by decide+kernel) (j3 (jI jED (gl_b (by decide+kernel)) G.T.sorted (by decide+kernel) (j3 (kR (m:=[none,some 1]) (Nc:=["place","names"]) rfl (jL0 (jv 0 rfl (jX (by decide+kernel)))) rfl (by decide+kernel) (by decide+kernel) (jL8 (by decide+kernel)) (jR (N:=["piece","names"]) rfl rfl (by decide+kernel)) (fun cl C fp s H=>jG (i:=0) (show (["place","names"]:List Str).Nodup by decide+kernel) rfl (yM (by decide+kernel))) (fun cl C fp s H=>kS) (fun cl C fp s H=>(kE jHQ (jv 1 rfl (y6 (by decide+kernel))) (jv 0 rfl (jX (by decide+kernel))) jAP)) yE) j6 jO) jO) j6 jJ) jJ)) yE)) jBN)
   (j9 (jE (i:=5) nd rfl lL (jL jCE (jv 5 rfl vL) (jv 11 rfl vL)) jBN)
   (jC (jE (i:=2) nd rfl (loc_c (by decide+kernel)) (jL kY (jv 2 rfl vC) (jv 8 rfl vL)) jBN))))))⟩
theorem _root_.L2.Ext.noneB {H H':Hp}(e:Ext H H'){c:Addr}(h:H' c=none):H c=none:=by
 cases z:H c with
 | none=>rfl
 | some o=>rw[e _ _ z] at h; cases h
def nmF (os:List Int)(t:Nat)(j:Int):Int:=os.getD (t+j.toNat) 0
theorem jLK {D:Ends}{H:Hp}{mA pA o sA:Addr}{t z d wv:Nat}{a:Bool}{ms os:List Int}{us uz:List V}{ps B:List (List Int)}{v0 v1 v7 v12:Option V}{vr:List (Option V)}(hm:H mA=some (.lst (ms.map V.int)))(hp:H pA=some (.lst us))(tp:TsL H us ps)(ho:H o=some (.lst (os.map V.int)))(ol:os.length=16)(hs:H sA=some (.lst uz))(tz:TsL H uz B)(z4:z<=4)(tz16:t+z<=16)(bz:∀ p∈B,p.length<=4/\∀ x∈p,0<=x/\x<z)(ul:us.length<=32)(zl:uz.length<=32)(ml:ms.length<=16)(db:d<2 ^ 64)
  (nx:∀ (H':Hp) (mA' pA' nA:Addr) (us':List V),H' mA'=some (.lst ((ms++if a=true then (upto z).map (nmF os t) else []).map V.int))->H' pA'=some (.lst us')->TsL H' us' (ps++B.map fun p=>srt (p.map (nmF os t)))->Ext H H'->H mA'=none->H pA'=none->D.nx (v0::v1::some (natV (t+z))::some (.ref mA')::some (.ref pA')::some (natV (d*wv))::some (.ref o)::v7::some (natV z)::some (.bl a)::some (.ref sA)::some (natV wv)::some (.ref nA)::vr) H'):
  (bifA G hr).1 D (v0::v1::some (natV t)::some (.ref mA)::some (.ref pA)::some (natV d)::some (.ref o)::v7::some (natV z)::some (.bl a)::some (.ref sA)::some (natV wv)::v12::vr) H:=by
 have db':(d:Int)<(2 ^ 64:Int):=by
  have:((2:Nat) ^ 64:Nat)=((2:Int) ^ 64).toNat:=by decide
  omega
 refine⟨_,rfl,(z:Int),rfl,by omega,by omega,jEC (n:=z) (fun σ=>∃ v,σ=[v,some (.ref o),some (natV t)]) (mapZ (upto z) fun j=>V.int (nmF os t j)) (mapZ.ok _ _) (by rw[aI]; omega) ⟨_,rfl⟩ ?_ ?_⟩
 ·rintro j σ' H1 zs hj ⟨v,rfl⟩ e1 hz S1 S2 yes no
  have e0:(0+(j:Int))=(j:Int):=by omega
  dsimp only [kO,yJ]
  rw[ag rfl,e0]
  have at1:atI (os.map V.int) ((t:Int)+(j:Int))=some (V.int (nmF os t j)):=by
   rw[show (t:Int)+(j:Int)=((t+j:Nat):Int) by omega]
   refine kU ?_
   unfold nmF
   rw[aS,aA,aB,aj (by omega)]
   rfl
  exact⟨_,rfl,_,rfl,_,rfl,_,_,rfl,rfl,o,_,_,_,rfl,rfl,SqL.of (e1 _ _ ho),at1,yes _ _ _ ⟨_,rfl⟩ (Ext.refl _) (mapZ.yes hz (kN hj))⟩
 ·intro nA H1 zs d1 e1 n1 hz
  have hz:=hz.all (by rw[jT]; exact az _)
  subst hz
  have d1:H1 nA=some (.lst (((upto z).map (nmF os t)).map V.int)):=by rw[bv]; exact d1
  refine⟨_,rfl,_,rfl,_,rfl, .inr ⟨_,rfl,?_⟩⟩
  have rk:∀ a:Bool,(replicate ((if a=true then (1:Int) else 0)).toNat (((upto z).map (nmF os t)).map V.int)).flatten=(if a=true then (upto z).map (nmF os t) else []).map V.int:=fun a=>by
   cases a with
   | true=>show ((((upto z).map (nmF os t)).map V.int)++[])=_; rw[bg]; rfl
   | false=>rfl
  have nl:(((upto z).map (nmF os t)).map V.int).length=z:=by rw[aa,aa,jT]
  have hsz:(((upto z).map (nmF os t)).map V.int).length*((if a=true then (1:Int) else 0)).toNat<=sizeLine:=by
   rw[nl,aI]
   cases a with
   | true=>show z*1<=_; omega
   | false=>show z*0<=_; omega
  refine⟨nA,_,_,rfl,rfl,d1,by split <;> decide,by split <;> decide,hsz,fun q hq=>?_⟩
  rw[rk]
  have e2:Ext H1 (L2.upd H1 q (.lst ((if a=true then (upto z).map (nmF os t) else []).map V.int))):=(Ext.refl _).new hq _
  have d2:(L2.upd H1 q (.lst ((if a=true then (upto z).map (nmF os t) else []).map V.int))) q=some (.lst ((if a=true then (upto z).map (nmF os t) else []).map V.int)):=j8
  generalize L2.upd H1 q (.lst ((if a=true then (upto z).map (nmF os t) else []).map V.int))=H2 at e2 d2
  have E2:=e1.trans e2
  have al:((if a=true then (upto z).map (nmF os t) else []).map V.int).length<=4:=by
   rw[aa]
   split
   ·rw[aa,jT]; exact z4
   ·exact bH _
  refine⟨mA,q,_,_,rfl,rfl,E2 _ _ hm,d2,by rw[aa,aI]; omega,fun m3 H3 d3 e3 n3=>?_⟩
  rw[<- aK] at d3
  have E3:=E2.trans e3
  refine⟨_,rfl,_,rfl,sA,rfl,⟨_,SqL.of (E3 _ _ hs)⟩,jB5 (fun σ=>∃ v,σ=[v,some (.ref nA)]) (fun (H':Hp) (zs:List V) (j:Nat)=>TsL H' zs ((B.take j).map (fun p:List Int=>srt (List.map (nmF os t) p)))) ⟨fun _=>trivial,fun H H' zs j tu h=>TsL.mono tu h,fun H zs j h=>by
   rw[All2.len h,aa]
   exact cF _ _⟩ (E3 _ _ hs) (by rw[aI]; omega) ⟨_,rfl⟩ ?_ ?_⟩
  ·rintro j x σ' H4 zs hx ⟨v,rfl⟩ e4 hz S1 S2 yes no
   obtain⟨pp,hpp,qa,rfl,hqa⟩:=All2.get' tz hx
   obtain⟨pl,pb⟩:=bz pp (ao hpp)
   have q4:=e4 _ _ (E3 _ _ hqa)
   have n4:=e4 _ _ (e3 _ _ (e2 _ _ d1))
   dsimp only [kO,yJ]
   rw[ag rfl]
   refine⟨_,rfl,qa,rfl,⟨_,SqT.of q4⟩,jH7 (fun σ=>∃ v,σ=[v,some (.ref nA)]) (mapZ pp fun y=>V.int (nmF os t y)) (mapZ.ok _ _) q4 (by rw[aI,aa]; omega) ⟨_,rfl⟩ ?_ ?_⟩
   ·rintro i y σ2 H5 zs5 hy ⟨v5,rfl⟩ e5 hz5 R1 R2 yes5 no5
    obtain⟨g,hg,rfl⟩:∃ g,pp[i]?=some g/\V.int g=y:=by simpa using hy
    have gb:=pb g (ao hg)
    have at5:atI (((upto z).map (nmF os t)).map V.int) g=some (V.int (nmF os t g)):=by
     obtain⟨gn,rfl⟩:∃ gn:Nat,g=(gn:Int):=⟨g.toNat,by omega⟩
     refine kU ?_
     rw[aA,aA,kN (by omega)]
     rfl
    dsimp only [kO,yJ]
    rw[ag rfl]
    exact⟨_,rfl,_,rfl,nA,_,g,_,rfl,rfl,SqL.of (e5 _ _ n4),at5,yes5 _ _ _ ⟨_,rfl⟩ (Ext.refl _) (mapZ.yes hz5 hg)⟩
   ·intro D5 H5 zs5 d5 e5 nD5 hz5
    have hz5:=hz5.all (by rw[aa]; exact az _)
    subst hz5
    have d5:H5 D5=some (.lst ((pp.map (nmF os t)).map V.int)):=by rw[bv]; exact d5
    refine⟨D5,pp.map (nmF os t),rfl,SqL.of d5,by rw[aa]; omega,fun l ns hl ple pm=>?_⟩
    have en:ns=srt (pp.map (nmF os t)):=jD0 ple pm
    subst en
    refine⟨l,_,rfl, .inl ⟨SqL.of j8,fun r hr'=>?_⟩⟩
    have e6:Ext H5 (L2.upd (L2.upd H5 l (.lst ((srt (pp.map (nmF os t))).map V.int))) r (.tup ((srt (pp.map (nmF os t))).map V.int))):=((Ext.refl _).new hl _).new hr' _
    refine yes _ _ _ ⟨_,rfl⟩ (e5.trans e6) ?_
    show TsL _ _ ((B.take (j+1)).map (fun p:List Int=>srt (List.map (nmF os t) p)))
    rw[bo,hpp,aK]
    exact All2.snoc (TsL.mono (e5.trans e6).tups hz) ⟨r,rfl,j8⟩
  ·intro L H4 zs d4 e4 n4 hz
   have hz:TsL H4 zs ((B.take uz.length).map fun p=>srt (p.map (nmF os t))):=hz
   rw[All2.len tz,bI] at hz
   have E4:=E3.trans e4
   have zsl:=All2.len hz
   rw[aa,<- All2.len tz] at zsl
   refine⟨pA,L,_,_,rfl,rfl,E4 _ _ hp,d4,by rw[aI]; omega,fun p5 H5 d5 e5 n5=>?_⟩
   have E5:=E4.trans e5
   refine⟨_,rfl,_,rfl,_,_,rfl,rfl, .inl ⟨by show -(2 ^ 64:Int)<(d:Int); omega,db'⟩,?_⟩
   refine⟨_,rfl,_,rfl,_,_,rfl,rfl,?_⟩
   have fin:=nx H5 m3 p5 nA _ (e5 _ _ (e4 _ _ d3)) d5 (TsL.app (tp.mono E5.tups) (hz.mono e5.tups)) E5 (E2.noneB n3) (E4.noneB n5)
   have c1:((t+z:Nat):Int)=(t:Int)+(z:Int):=by omega
   have c2:((d*wv:Nat):Int)=(d:Int)*(wv:Int):=fb ..
   unfold natV at fin ⊢
   rw[c1,c2] at fin
   exact fin
end
end
structure BI (os:List Int)(t k:Nat)(ms:List Int)(ps:List (List Int))(d:Nat):Prop where
 t16:t<=16
 cov:xc (ps++sgl ms) (os.take t)=d
 pin:∀ p∈ps,p.Pairwise (· < ·)/\p≠ []/\∀ x∈p,x∈os.take t
 min:∀ x∈ms,x∈os.take t
 mnd:ms.Nodup
 pl:ps.length<=32
 db:d<=128 ^ k
 ml:ms.length<=t
 d0:0<d
theorem BI.zero (os:List Int):BI os 0 0 [] [] 1:=⟨by decide,rfl,fun p h=>(by cases h),fun p h=>(by cases h),eM,by decide,by decide,az 0,by decide⟩
theorem BI.more {os:List Int}{t k:Nat}{ms:List Int}{ps:List (List Int)}{d:Nat}(b:BI os t k ms ps d):BI os t (k+1) ms ps d:=⟨b.t16,b.cov,b.pin,b.min,b.mnd,b.pl,bD b.db (bS (by decide) (gR k)),b.ml,b.d0⟩
theorem jLN {s m:Nat->Nat} :∀ {z:Nat},(∀ j,j<z->1<=s j)->0<wy s m z
 | 0,_=>Nat.one_pos
 | 1,h=>h 0 (by omega)
 | i+2,h=>by
  show 0<s (i+1)*wy s m (i+1)+m (i+1)*wy s m i
  exact Nat.add_pos_left (Nat.mul_pos (h _ (by omega)) (jLN fun j hj=>h j (by omega))) _
theorem jC1 {a b c d:Nat}(h:a<=c)(k:b<=d):a*b<=c*d:=Nat.mul_le_mul h k
theorem wy_le {s m:Nat->Nat}(hs:∀ j,s j<=3)(hm:∀ j,m j<=1){z:Nat}(z4:z<=4):wy s m z<=128:=by
 have w1:wy s m 1<=3:=hs 0
 have w2:wy s m 2<=10:=gZ (jC1 (hs 1) w1) (jC1 (hm 1) (az 1))
 have w3:wy s m 3<=33:=gZ (jC1 (hs 2) w2) (jC1 (hm 2) w1)
 have w4:wy s m 4<=109:=gZ (jC1 (hs 3) w3) (jC1 (hm 3) w2)
 match z,z4 with
 | 0,_=>show (1:Nat)<=128; decide
 | 1,_=>exact bD w1 (by decide)
 | 2,_=>exact bD w2 (by decide)
 | 3,_=>exact bD w3 (by decide)
 | 4,_=>exact bD w4 (by decide)
section
variable {os:List Int}
theorem jNO {t z:Nat}(h:t+z<=os.length):os.take (t+z)=os.take t++(upto z).map (nmF os t):=by
 have e:(upto z).map (nmF os t)=(os.drop t).take z:=by
  refine dI fun i=>?_
  by_cases hi:i<z
  ·rw[aA,kN hi,List.getElem?_take,ag hi,eh,aj (by omega)]
   show some (os.getD (t+((i:Int)).toNat) 0)=_
   rw[aS,aB,aj (by omega)]
   rfl
  ·rw[cq (by rw[aa,jT]; omega),cq (by rw[aY]; omega)]
 rw[e,List.take_add]
theorem jPJ {t z:Nat}(nd:os.Nodup)(h:t+z<=os.length):∀ i j:Int,0<=i/\i<z->0<=j/\j<z->nmF os t i=nmF os t j->i=j:=fun i j hi hj e=>by
 unfold nmF at e
 rw[aB,aB,aj (by omega),aj (by omega)] at e
 have ne:∀ x y:Nat,x<y->(hx:x<os.length)->(hy:y<os.length)->os[x]≠os[y]:=fun x y h hx hy=>bU.mp nd x y hx hy h
 have e:os[t+i.toNat]'(by omega)=os[t+j.toNat]'(by omega):=e
 rcases Int.lt_trichotomy i j with z | z | z
 ·exact absurd e (ne _ _ (by omega) (by omega) (by omega))
 ·exact z
 ·exact absurd e.symm (ne _ _ (by omega) (by omega) (by omega))
theorem jHA {si pa:Nat->Nat} :∀ {z:Nat}{p:List Int},p∈bp si pa z->p.Pairwise (· < ·)
 | 0,p,h=>by cases h
 | i+1,p,h=>by
  rcases ax.mp h with z | z
  ·exact jHA z
  ·unfold bpN at z
   rcases ax.mp z with y | y
   ·rw[(cX.mp y).2]
    exact cP _ _
   ·by_cases h0:i=0
    ·rw[ag h0] at y
     cases y
    ·rw[af h0] at y
     rw[(cX.mp y).2]
     refine dz.mpr ⟨fun a ha=>?_,cP _ _⟩
     rw[ay.mp ha]
     omega
theorem BI.step {t k z:Nat}{ms:List Int}{ps:List (List Int)}{d:Nat}{si pa:Nat->Nat}{a:Bool}(b:BI os t k ms ps d)(nd:os.Nodup)(ol:os.length=16)(hsz:t+z<=16)(z4:z<=4)(hb:∀ j,si j<=2/\pa j<=1)(hb0:∀ j,j<z->1<=si j)(hl:ps.length+(bp si pa z).length<=32):BI os (t+z) (k+1) (ms++if a=true then (upto z).map (nmF os t) else []) (ps++(bp si pa z).map fun p=>srt (p.map (nmF os t))) (d*wy (fun j=>si j+b2n a) pa z):=by
 have tk:=jNO (os:=os) (t:=t) (z:=z) (by omega)
 have inj:=jPJ (os:=os) (t:=t) (z:=z) nd (by omega)
 have dj:∀ x∈os.take t,x∉(upto z).map (nmF os t):=by
  have:=nd.sublist (cB (t+z) os)
  rw[tk] at this
  exact fun x hx hy=>(df.mp this).2.2 x hx x hy rfl
 have ndb:((upto z).map (nmF os t)).Nodup:=by
  have:=nd.sublist (cB (t+z) os)
  rw[tk] at this
  exact(df.mp this).2.1
 have inB:∀ p∈(bp si pa z).map (fun p=>srt (p.map (nmF os t))),p.Pairwise (· < ·)/\p≠ []/\∀ x∈p,x∈(upto z).map (nmF os t):=fun p hp=>by
  obtain⟨q,hq,rfl⟩:=aN.mp hp
  obtain⟨h1,h2⟩:=jDH hq
  refine⟨?_,fun e=>?_,fun x hx=>?_⟩
  ·have nq:(q.map (nmF os t)).Nodup:=cC.mpr (dk (fun {x y} hx hy hlt e=>by have:=inj x y (h2 x hx) (h2 y hy) e; omega) (jHA hq))
   have ns:(srt (q.map (nmF os t))).Nodup:=(jU _).nodup_iff.mpr nq
   exact(eO (jEM _) ns).imp fun {x y} ⟨u,v⟩=>by omega
  ·have:=jDX (q.map (nmF os t))
   rw[e,aa] at this
   exact h1 (gq.mp this.symm)
  ·obtain⟨y,hy,rfl⟩:=aN.mp ((jU _).mem_iff.mp hx)
   exact bX (mem_upto'.mpr (h2 y hy))
 have inM:∀ x∈(if a=true then (upto z).map (nmF os t) else []),x∈(upto z).map (nmF os t):=fun x hx=>by
  cases a with
  | true=>exact hx
  | false=>cases hx
 refine⟨hsz,?_,fun p hp=>?_,fun x hx=>?_,?_,by rw[ar,aa]; exact hl,?_,?_,Nat.mul_pos b.d0 (jLN fun j hj=>bD (hb0 j hj) (Nat.le_add_right _ _))⟩
 ·rw[tk]
  exact jLI b.cov (jK6 inj) (fun p hp=>(b.pin p hp).2.2) b.min (fun p hp=>(inB p hp).2) inM dj
 ·rw[tk]
  rcases ax.mp hp with y | y
  ·exact⟨(b.pin p y).1,(b.pin p y).2.1,fun x hx=>aP _ ((b.pin p y).2.2 x hx)⟩
  ·exact⟨(inB p y).1,(inB p y).2.1,fun x hx=>aJ _ ((inB p y).2.2 x hx)⟩
 ·rw[tk]
  rcases ax.mp hx with y | y
  ·exact aP _ (b.min x y)
  ·exact aJ _ (inM x y)
 ·refine df.mpr ⟨b.mnd,?_,fun x hx y hy e=>?_⟩
  ·cases a with
   | true=>exact ndb
   | false=>exact eM
  ·rw[e] at hx
   exact dj y (b.min y hx) (inM y hy)
 ·rw[Nat.pow_succ]
  refine Nat.mul_le_mul b.db (wy_le (fun j=>?_) (fun j=>(hb j).2) z4)
  have:=(hb j).1
  show si j+b2n a<=3
  unfold b2n
  split <;> omega
 ·rw[ar]
  have:=b.ml
  split
  ·rw[aa,jT]; omega
  ·show _+0<=_; omega
end
section
variable {P:Program}{w:World}{K:W.Frag}{mg:Str->Option Value}{base:Heap}
variable {f fC fP fT fB fM fA fN tb:Addr}{fdC fdP fdT fdB fdM fdA fdN:FuncData}{cdv:Value}{A:Around}{outer:List Env}{s:Shared}{H0:Hp}{E:XK}
section
variable (G:LW P w K mg base fC fP fT fB fM fA fN tb fdC fdP fdT fdB fdM fdA fdN)(hr:Room 6 (XLaw P w K mg base f cdv A outer s H0 E).A)
def jMC: { t:TS // JSs (XLaw P w K mg base f cdv A outer s H0 E) (jCG ((jB sLaw).getD 7 (.Pass ⟨0,0,0,0⟩))) t} :=
 have nd:=scLaw.nd
 ⟨_,(j9 (jE (i:=8) nd rfl lL (jI (jK3 rfl) gD G.T.min (by decide+kernel) (j3 (jL kY (je_int) (G.CT.je (hr.mono (by decide)) gD (j3 (jv 1 rfl vL) (j3 (je_int) j6 jK) j4) j4)) (j3 (jL jD6 (je_int) (jv 2 rfl vC)) j6 kX) kX) kX) jN) (j9 (jE (i:=9) nd rfl lL (jAO op_eq (G.CT.je (hr.mono (by decide)) gD (j3 (jv 1 rfl vL) (j3 (je_int) j6 jK) j4) j4) (je_int) (jQ _)) jOS) (j9 (jM3 (G.CB.je (hr.mono (by decide)) gD (j3 (jv 1 rfl vL) (j3 (jv 8 rfl vL) (j3 (jv 9 rfl vL) j6 j4) j4) j4) j4) (jJA (i:=10) (j:=11) nd rfl rfl (by decide+kernel) (by decide+kernel))) (jC (yI (jt_w (jPT (jW op_le (jL kY (jI jA0 gD G.T.len (by decide+kernel) (j3 (jv 4 rfl vL) j6 j4) j4) (jI jA0 gD G.T.len (by decide+kernel) (j3 (jv 10 rfl vL) j6 j4) j4)) (je_int) (jQ _)) (jNV (jW op_gt (jv 8 rfl vL) (je_int) (jQ _))))) (bifA G hr).2 kG)))))⟩
theorem jHV {D:Ends}{H:Hp}{p mA pA o:Addr}{N:Int}{t k d:Nat}{ms os:List Int}{us:List V}{ps:List (List Int)}{v0 v7 v8 v9 v10 v11 v12:Option V}{vr:List (Option V)}(hp:H p=some (.lst [.int N]))(hN:0<=N)(hm:H mA=some (.lst (ms.map V.int)))(hpA:H pA=some (.lst us))(tp:TsL H us ps)(ho:H o=some (.lst (os.map V.int)))(nd:os.Nodup)(ol:os.length=16)(b:BI os t k ms ps d)(k5:k<=5)(mp:mA≠p)(pp:pA≠p)(op:o≠p)
  (nx:∀ (H':Hp) (N':Int) (mA' pA':Addr) (t' d':Nat) (ms':List Int) (us':List V) (ps':List (List Int)) v8 v9 v10 v11 v12,0<=N'->H' p=some (.lst [.int N'])->H' mA'=some (.lst (ms'.map V.int))->H' pA'=some (.lst us')->TsL H' us' ps'->mA'≠p->pA'≠p->BI os t' (k+1) ms' ps' d'->Keep H H' p->D.nx (v0::some (.ref p)::some (natV t')::some (.ref mA')::some (.ref pA')::some (natV d')::some (.ref o)::v7::v8::v9::v10::v11::v12::vr) H'):
  (jMC G hr).1 D (v0::some (.ref p)::some (natV t)::some (.ref mA)::some (.ref pA)::some (natV d)::some (.ref o)::v7::v8::v9::v10::v11::v12::vr) H:=by
 refine⟨_,rfl,p,N,4,rfl,hp,hN,by decide,by decide,fun N1 r1 a1 a2 a3=>⟨_,_,rfl,rfl,_,rfl,_,_,rfl,rfl,_,_,rfl,?_⟩⟩
 have t16:=b.t16
 obtain⟨z,hz,z4,tz⟩:∃ z:Nat,(if (16:Int) - (t:Int)<1+r1 then (16:Int) - (t:Int) else 1+r1)=(z:Int)/\z<=4/\t+z<=16:=by
  split
  ·exact⟨16 - t,by omega,by omega,by omega⟩
  ·exact⟨(1+r1).toNat,by omega,by omega,by omega⟩
 rw[hz]
 refine⟨_,rfl,p,N1,3,rfl,j8,a1,by decide,by decide,fun N2 r2 b1 b2 b3=>⟨rfl,?_⟩⟩
 generalize decide (V.int r2=V.int 1)=a
 have k2:∀ c u,H c=some u->c≠p->(L2.upd (L2.upd H p (.lst [.int N1])) p (.lst [.int N2])) c=some u:=fun c u h n=>by rw[jA n,jA n]; exact h
 have p2:(L2.upd (L2.upd H p (.lst [.int N1])) p (.lst [.int N2])) p=some (.lst [.int N2]):=j8
 generalize L2.upd (L2.upd H p (.lst [.int N1])) p (.lst [.int N2])=H2 at k2 p2
 refine⟨_,rfl,_,rfl,_,rfl,p,N2,z,a,rfl,p2,b1,z4,fun r L uz N3 si pa H3 hb hb0 dr dL ts n3 p3 k3=>?_⟩
 have K3:Keep H H3 p:=fun c u h n=>k3 c u (k2 c u h n) n
 have T3:Tups H H3:=fun c xs h=>K3 _ _ h fun y=>by rw[y,hp] at h; cases h
 refine⟨r,_,rfl,SqL.of dr,rfl,_,_,rfl,_,_,rfl,rfl,?_⟩
 have m3:H3 mA=some (.lst (ms.map V.int)):=K3 _ _ hm mp
 have pA3:H3 pA=some (.lst us):=K3 _ _ hpA pp
 have o3:H3 o=some (.lst (os.map V.int)):=K3 _ _ ho op
 have ul:=All2.len tp
 have zl:=All2.len ts
 have bpl:=b.pl
 have bml:=b.ml
 refine⟨_,rfl,pA,_,rfl, .inl (SqL.of pA3),_,rfl,L,_,rfl, .inl (SqL.of dL),_,_,rfl,rfl,_,_,rfl,rfl,_,rfl,ite2 (fun h=>?_) (fun h=>?_)⟩
 ·have h:((us.length:Nat):Int)+((uz.length:Nat):Int)<=32:=aO h
  refine⟨_,rfl,_,_,rfl,rfl,_,rfl,ite2 (fun h2=>?_) (fun h2=>?_)⟩
  ·have bs:=b.step (a:=a) (si:=si) (pa:=pa) (z:=z) nd ol tz z4 hb hb0 (by omega)
   refine jLK G hr m3 pA3 (tp.mono T3) o3 ol dL ts z4 tz (fun q hq=>?_) (by omega) (by omega) (by omega) ?_ fun H4 mA' pA' nA us' m4 p4 ts4 e4 nm np=>?_
   ·obtain⟨h1,h2⟩:=jDH hq
    have:=jBF q 0 z (jHA hq) h2
    exact⟨by omega,h2⟩
   ·have:=b.db
    have:=bS (n:=128) (by decide) k5
    have:(128:Nat) ^ 5<2 ^ 64:=by decide
    omega
   ·exact nx H4 N3 mA' pA' (t+z) _ _ us' _ _ _ _ _ _ n3 (e4 _ _ p3) m4 p4 ts4 (fun y=>by rw[y,p3] at nm; cases nm) (fun y=>by rw[y,p3] at np; cases np) bs fun c u h n=>e4 _ _ (K3 c u h n)
  ·exact nx H3 N3 mA pA t d ms us ps _ _ _ _ _ n3 p3 m3 pA3 (tp.mono T3) mp pp b.more K3
 ·exact nx H3 N3 mA pA t d ms us ps _ _ _ _ _ n3 p3 m3 pA3 (tp.mono T3) mp pp b.more K3
end
end
def ixF (left:List Int)(x:Int):Int:=((left.idxOf x:Nat):Int)
section
variable {left:List Int}(ris:left.Pairwise (· < ·))
theorem jG1 {x:Int}(h:x∈left):0<=ixF left x/\ixF left x<left.length:=by
 have:=cz h
 unfold ixF
 omega
include ris
theorem jJG {x y:Int}(hx:x∈left)(hy:y∈left)(h:x<y):ixF left x<ixF left y:=by
 have a:=cz hx
 have b:=cz hy
 have ex:left[left.idxOf x]=x:=em a
 have ey:left[left.idxOf y]=y:=em b
 unfold ixF
 rcases Nat.lt_trichotomy (left.idxOf x) (left.idxOf y) with z | z | z
 ·omega
 ·have:x=y:=by rw[<- ex,<- ey]; simp only [z]
  omega
 ·have:=bU.mp ris _ _ b a z
  rw[ex,ey] at this
  omega
theorem jJH (x y:Int)(hx:x∈left)(hy:y∈left)(e:ixF left x=ixF left y):x=y:=by
 rcases Int.lt_trichotomy x y with z | z | z
 ·have:=jJG ris hx hy z
  omega
 ·exact z
 ·have:=jJG ris hy hx z
  omega
theorem jO3 {t:Int} :t∈left.map (ixF left)↔t∈upto left.length:=by
 rw[mem_upto',aN]
 constructor
 ·rintro ⟨x,hx,rfl⟩
  exact jG1 hx
 ·rintro ⟨a,b⟩
  have hl:t.toNat<left.length:=by omega
  refine⟨left[t.toNat],dQ hl,?_⟩
  have nd:left.Nodup:=ris.imp fun {a b} h=>by omega
  unfold ixF
  rw[nd.idxOf_getElem _ hl]
  omega
end
theorem BI.box {os:List Int}{t k:Nat}{ms:List Int}{ps:List (List Int)}{d:Nat}(b:BI os t k ms ps d)(nd:os.Nodup)(ol:os.length=16){rows:List (List Int×Int)}(pm:(rows.map (·.1)).Perm (ps.map fun p=>p.map (ixF (srt (os.take t)))))(z0:∀ r∈rows,r.2=0):Good 16 32 t (srt (ms.map (ixF (srt (os.take t))))) rows/\(cvs t (srt (ms.map (ixF (srt (os.take t))))) rows).length=d:=by
 have t16:=b.t16
 have ndt:(os.take t).Nodup:=nd.sublist (cB _ _)
 have tl:(srt (os.take t)).length=t:=by rw[jDX,aY]; omega
 have ris:(srt (os.take t)).Pairwise (· < ·):=(eO (jEM _) ((jU _).nodup_iff.mpr ndt)).imp fun {x y} ⟨u,v⟩=>by omega
 have mem:∀ {x:Int},x∈os.take t->x∈srt (os.take t):=fun h=>(jU _).mem_iff.mpr h
 have cov:=b.cov
 have pin:=b.pin
 have min:=b.min
 have pl:=b.pl
 have mnd:=b.mnd
 have cov2:xc (ps++sgl ms) (srt (os.take t))=d:=by rw[<- cov]; exact jCB fun x=>(jU _).mem_iff
 generalize srt (os.take t)=left at pm tl ris mem cov2 ⊢
 have mb:∀ x∈ms.map (ixF left),0<=x/\x<(t:Int):=fun x hx=>by
  obtain⟨y,hy,rfl⟩:=aN.mp hx
  have:=jG1 (mem (min y hy))
  omega
 have mris:(srt (ms.map (ixF left))).Pairwise (· < ·):=by
  have nq:(ms.map (ixF left)).Nodup:=cC.mpr (dk (fun {x y} hx hy hlt e=>hlt (jJH ris x y (mem (min x hx)) (mem (min y hy)) e)) mnd)
  exact(eO (jEM _) ((jU _).nodup_iff.mpr nq)).imp fun {x y} ⟨u,v⟩=>by omega
 have rowsOk:∀ r∈rows,r.1.Pairwise (· < ·)/\r.1≠ []/\∀ x∈r.1,0<=x/\x<(t:Int):=fun r hr=>by
  obtain⟨q,hq,e⟩:=aN.mp (pm.mem_iff.mp (bX hr))
  obtain⟨h1,h2,h3⟩:=pin q hq
  rw[<- e]
  refine⟨cC.mpr (dk (fun {x y} hx hy hlt=>jJG ris (mem (h3 x hx)) (mem (h3 y hy)) hlt) h1),fun y=>h2 (g6.mp y),fun x hx=>?_⟩
  obtain⟨y,hy,rfl⟩:=aN.mp hx
  have:=jG1 (mem (h3 y hy))
  omega
 have g:Good 16 32 t (srt (ms.map (ixF left))) rows:=by
  have rl:=pm.length_eq
  rw[aa,aa] at rl
  refine⟨by omega,by omega,⟨mris,fun x hx=>mb x ((jU _).mem_iff.mp hx)⟩,by omega,fun r hr=>?_⟩
  obtain⟨h1,h2,h3⟩:=rowsOk r hr
  have:=z0 r hr
  exact⟨⟨h1,h3,h2⟩,by rw[this]; decide,by rw[this]; decide⟩
 refine⟨g,?_⟩
 have tn:((t:Nat):Int).toNat=t:=aS t
 rw[jG6,wk_ec g 0 (cQ _)]
 unfold PS
 rw[tn,ec_xc (n:=t) (fun p hp=>?_) (cQ _)]
 ·have pmm:(tls (srt (ms.map (ixF left))) rows).Perm ((ps++sgl ms).map fun p=>p.map (ixF left)):=by
   unfold tls
   rw[aK]
   refine pm.append ?_
   unfold sgl
   rw[bv]
   have e:(ms.map ((fun p=>p.map (ixF left)) ∘ fun t=> [t]))=(ms.map (ixF left)).map fun t=> [t]:=by rw[bv]; rfl
   rw[e]
   exact(jU _).map _
  rw[jCS pmm,jCB (L':=left.map (ixF left)) fun x=>?_,jDR (U:=fun x=>x∈left) (fun x y hx hy e=>jJH ris x y hx hy e) (fun p hp x hx=>?_) fun x hx=>hx]
  ·exact cov2
  ·rcases ax.mp hp with y | y
   ·exact mem ((pin p y).2.2 x hx)
   ·obtain⟨u,hu,rfl⟩:=aN.mp y
    rw[ay.mp hx]
    exact mem (min u hu)
  ·rw[jO3 ris,tl,mem_upto',mem_rest]
   exact⟨fun h=>h.1,fun h=>⟨h,bP _⟩⟩
 ·rcases ax.mp hp with y | y
  ·obtain⟨r,hr,rfl⟩:=aN.mp y
   exact⟨(rowsOk r hr).1,(rowsOk r hr).2.2⟩
  ·obtain⟨u,hu,rfl⟩:=aN.mp y
   exact⟨cP _ _,fun x hx=>by rw[ay.mp hx]; exact mb u ((jU _).mem_iff.mp hu)⟩
theorem jJJ:∀ {l:List Int}{m:Nat}{g:Int},l[m]?=some g->l.idxOf g<=m
 | [],m,g,h=>by cases h
 | a::l,0,g,h=>by
  have e:a=g:=by simpa using h
  rw[e,List.idxOf_cons_self]
  exact az _
 | a::l,m+1,g,h=>by
  have ih:=jJJ (l:=l) (m:=m) (g:=g) (by simpa using h)
  rw[List.idxOf_cons]
  cases (a==g) with
  | true=>exact bH _
  | false=>exact Nat.succ_le_succ ih
theorem jL5 {α:Type}(l:List α)(j:Nat)(x:α):(l.take j++x::l.drop j).Perm (l++[x]):=by
 have h:(l.take j++x::l.drop j).Perm (x::(l.take j++l.drop j)):=List.perm_middle
 rw[br] at h
 exact h.trans (dP x l).symm
section
variable {P:Program}{w:World}{K:W.Frag}{mg:Str->Option Value}{base:Heap}
variable {f fC fP fT fB fM fA fN tb:Addr}{fdC fdP fdT fdB fdM fdA fdN:FuncData}{cdv:Value}{A:Around}{outer:List Env}{s:Shared}{H0:Hp}{E:XK}
section
variable (G:LW P w K mg base fC fP fT fB fM fA fN tb fdC fdP fdT fdB fdM fdA fdN)(hr:Room 6 (XLaw P w K mg base f cdv A outer s H0 E).A)
def rowsA: { t:TS // JSs (XLaw P w K mg base f cdv A outer s H0 E) (jCG ((jB sLaw).getD 10 (.Pass ⟨0,0,0,0⟩))) t} :=
 have nd:=scLaw.nd
 ⟨_,(j9 (jE (i:=16) nd rfl lL (jA7 jA3 gD G.T.tuple (by decide+kernel) (j3 (kR (m:=[none,some 13]) (Nc:=["thing","left"]) rfl (jDC (jv 15 rfl vL)) rfl (by decide+kernel) (by decide+kernel) (kT (psc:=j7 sLaw) (by decide+kernel)) (jR (N:=nLaw) rfl rfl (by decide+kernel)) (fun cl C fp s H=>jG (i:=0) (show (["thing","left"]:List Str).Nodup by decide+kernel) rfl (yM (by decide+kernel))) (fun cl C fp s H=>kS) (fun cl C fp s H=>(jE7 bb gy gz jEX (jv 1 rfl (y6 (by decide+kernel))) (j3 (jv 0 rfl (jX (by decide+kernel))) j6 j4) j4)) yE) j6 jO) jO) jN)
   (jC (jAN (je_bm bb ga gc jEW (jv 14 rfl vL) (j3 (G.CT.je (hr.mono (by decide)) gD (j3 (jv 1 rfl vL) (j3 (jL kY (jI jA0 gD G.T.len (by decide+kernel) (j3 (jv 14 rfl vL) j6 j4) j4) (je_int)) j6 kX) j4) j4) (j3 (yD (j3 (jv 16 rfl vL) (j3 (je_int) j6 jK) j4)) j6 jB8) jJ) jJ) jN)))⟩
theorem jIF {D:Ends}{H:Hp}{p l r q:Addr}{N:Int}{left pc:List Int}{vs:List V}{rows:List (List Int×Int)}{v0 v2 v3 v4 v5 v6 v7 v8 v9 v10 v11 v12 v16:Option V}{vr:List (Option V)}(hp:H p=some (.lst [.int N]))(hN:0<=N)(hl:H l=some (.lst (left.map V.int)))(ll:left.length<=16)(hr0:H r=some (.lst vs))(hv:PcsAt H vs rows)(vl:vs.length<=32)(hq:H q=some (.tup (pc.map V.int)))(pin:∀ x∈pc,x∈left)(pl:pc.length<=16)(rp:r≠p)
  (nx:∀ (H':Hp) (N':Int) (vs':List V) (rows':List (List Int×Int)) (vt:Option V),rows'.Perm (rows++[(pc.map (ixF left),0)])->H' r=some (.lst vs')->PcsAt H' vs' rows'->H' p=some (.lst [.int N'])->0<=N'->(∀ c u,H c=some u->c≠p->c≠r->H' c=some u)->D.nx (v0::some (.ref p)::v2::v3::v4::v5::v6::v7::v8::v9::v10::v11::v12::some (.ref l)::some (.ref r)::some (.ref q)::vt::vr) H'):
  (rowsA G hr).1 D (v0::some (.ref p)::v2::v3::v4::v5::v6::v7::v8::v9::v10::v11::v12::some (.ref l)::some (.ref r)::some (.ref q)::v16::vr) H:=by
 refine⟨_,rfl,q,rfl,⟨_,SqT.of hq⟩,jH7 (fun σ=>∃ v,σ=[v,some (.ref l)]) (mapZ pc fun y=>V.int (ixF left y)) (mapZ.ok _ _) hq (by rw[aI,aa]; omega) ⟨_,rfl⟩ ?_ ?_⟩
 ·rintro i y σ2 H5 zs5 hy ⟨v5,rfl⟩ e5 hz5 R1 R2 yes5 no5
  obtain⟨g,hg,rfl⟩:∃ g,pc[i]?=some g/\V.int g=y:=by simpa using hy
  have gm:=pin g (ao hg)
  have gi:=cz gm
  dsimp only [kO,yJ]
  rw[ag rfl]
  refine⟨_,rfl, .inl ⟨rfl,_,SqL.of (e5 _ _ hl)⟩,_,rfl,l,left,g,left.idxOf g,rfl,rfl,e5 _ _ hl,by omega,by rw[aj gi,em gi],fun m hm e=>absurd (jJJ e) (by omega),yes5 _ _ _ ⟨_,rfl⟩ (Ext.refl _) (mapZ.yes hz5 hg)⟩
 ·intro D5 H5 zs5 d5 e5 nD5 hz5
  have hz5:=hz5.all (by rw[aa]; exact az _)
  subst hz5
  have d5:H5 D5=some (.lst ((pc.map (ixF left)).map V.int)):=by rw[bv]; exact d5
  refine⟨D5,_,rfl, .inl ⟨SqL.of d5,fun a6 h6=>?_⟩⟩
  have e6:Ext H5 (L2.upd H5 a6 (.tup ((pc.map (ixF left)).map V.int))):=(Ext.refl _).new h6 _
  have d6:(L2.upd H5 a6 (.tup ((pc.map (ixF left)).map V.int))) a6=some (.tup ((pc.map (ixF left)).map V.int)):=j8
  generalize L2.upd H5 a6 (.tup ((pc.map (ixF left)).map V.int))=H6 at e6 d6
  have E6:=e5.trans e6
  have r6:=E6 _ _ hr0
  have p6:=E6 _ _ hp
  refine⟨_,rfl, .inl ⟨rfl,_,SqL.of r6⟩,_,rfl,_,rfl,r,_,rfl, .inl (SqL.of r6),_,_,rfl,rfl,p,N,_,rfl,p6,hN,by show (0:Int)<(vs.length:Int)+1; omega,by show (vs.length:Int)+1<(2 ^ 64:Int); omega,fun N7 i a1 a2 a3=>?_⟩
  have a3:i<(vs.length:Int)+1:=a3
  have k7:∀ c u,H6 c=some u->c≠p->(L2.upd H6 p (.lst [.int N7])) c=some u:=fun c u h n=>by rw[jA n]; exact h
  have p7:(L2.upd H6 p (.lst [.int N7])) p=some (.lst [.int N7]):=j8
  generalize L2.upd H6 p (.lst [.int N7])=H7 at k7 p7
  have T7:Tups H6 H7:=fun c xs h=>k7 _ _ h fun y=>by rw[y,p6] at h; cases h
  refine⟨_,rfl,by show (2:Nat)<=_; decide,fun b H8 d8 e8=>?_⟩
  have r8:=e8 _ _ (k7 _ _ r6 rp)
  have K8:∀ c u,H c=some u->c≠p->H8 c=some u:=fun c u h n=>e8 _ _ (k7 _ _ (E6 _ _ h) n)
  have pcb:PcAt H8 (.ref b) (pc.map (ixF left),0):=⟨b,a6,rfl,d8,e8 _ _ (T7 _ _ d6)⟩
  have hv8:PcsAt H8 vs rows:=hv.mono fun c xs h=>e8 _ _ (T7 _ _ (E6 _ _ h))
  refine⟨r,_,i,_,rfl,rfl,r8,a2,by omega,by rw[aI]; omega,?_⟩
  have TR:Tups H8 (L2.upd H8 r (.lst (vs.take i.toNat++V.ref b::vs.drop i.toNat))):=fun c xs h=>by rw[jA (fun y=>by rw[y,r8] at h; cases h)]; exact h
  exact nx _ N7 _ (rows.take i.toNat++(pc.map (ixF left),0)::rows.drop i.toNat) _ (jL5 _ _ _) j8 ((hv8.put pcb i.toNat).mono TR) (by rw[jA (bV rp)]; exact e8 _ _ p7) a1 fun c u h n1 n2=>by rw[jA n2]; exact K8 c u h n1
end
end
def two16:List (List Int×Int):=(upto 32).map fun i=>([i / 2],0)
theorem two_good:Good 16 32 16 [] two16/\(cvs 16 [] two16).length=65536:=by
 have b:BI (upto 16) 16 3 [] (bp (fun _=>2) (fun _=>0) 16) 65536:=by
  refine⟨by decide,?_,fun p hp=>⟨jHA hp,(jDH hp).1,fun x hx=>?_⟩,fun p h=>(by cases h),eM,by decide,by decide,by decide,by decide⟩
  ·have h:=(bp_wy (s:=fun _=>2) (m:=fun _=>0) 16).1
   have e:wy (fun _=>2) (fun _=>0) 16=65536:=by decide+kernel
   rw[e] at h
   exact h
  ·exact mem_upto'.mpr ((jDH hp).2 x hx)
 have e1:upto 16=srt ((upto 16).take 16):=jD0 (by decide) (eQ _)
 have e2: []=srt (([]:List Int).map (ixF (srt ((upto 16).take 16)))):=jD0 List.Pairwise.nil (eQ _)
 have h:=b.box (rows:=two16) (by decide+kernel) (by decide) (eZ (by rw[<- e1]; decide+kernel)) (by decide+kernel)
 rw[<- e2] at h
 exact h
theorem jLE {xs:List V}{k:Nat}(h:k<=xs.length):cutV xs none (some (k:Int))=xs.take k:=by
 unfold cutV
 rw[HT.sIx_none,HT.sIx_nat,eG,ig,Nat.min_eq_left h]
section
variable {P:Program}{w:World}{K:W.Frag}{mg:Str->Option Value}{base:Heap}
variable {f fC fP fT fB fM fA fN tb:Addr}{fdC fdP fdT fdB fdM fdA fdN:FuncData}{cdv:Value}{A:Around}{outer:List Env}{s:Shared}{H0:Hp}{E:XK}
section
variable (G:LW P w K mg base fC fP fT fB fM fA fN tb fdC fdP fdT fdB fdM fdA fdN)(hr:Room 6 (XLaw P w K mg base f cdv A outer s H0 E).A)
def turnA: { t:TS // JSs (XLaw P w K mg base f cdv A outer s H0 E) (jCG ((jB sLaw).getD 13 (.Pass ⟨0,0,0,0⟩))) t} :=
 have nd:=scLaw.nd
 ⟨_,(j9 (jE (i:=19) nd rfl lL (G.CT.je (hr.mono (by decide)) gD (j3 (jv 1 rfl vL) (j3 (jv 5 rfl vL) j6 j4) j4) j4) jN)
   (jC (yI (jW op_ne (G.CN.je hr gD (j3 (jv 17 rfl vL) (j3 (G.CA.je hr gD (j3 (jv 17 rfl vL) (j3 (jv 19 rfl vL) j6 j4) j4) j4) j6 jJ) j4) j4) (jv 19 rfl vL) (jQ _)) (jC (jV (je_bl))) kG)))⟩
def endA: { t:TS // JSs (XLaw P w K mg base f cdv A outer s H0 E) ((jB sLaw).drop 11) t} :=
 have nd:=scLaw.nd
 ⟨_,(j9 (jE (i:=17) nd rfl lL (yD (j3 (jv 2 rfl vC) (j3 (jA7 jA3 gD G.T.tuple (by decide+kernel) (j3 (jI jAG gD G.T.sorted (by decide+kernel) (j3 (kR (m:=[none,some 13]) (Nc:=["thing","left"]) rfl (yC (jv 3 rfl vL)) rfl (by decide+kernel) (by decide+kernel) (kT (psc:=j7 sLaw) (by decide+kernel)) (jR (N:=nLaw) rfl rfl (by decide+kernel)) (fun cl C fp s H=>jG (i:=0) (show (["thing","left"]:List Str).Nodup by decide+kernel) rfl (yM (by decide+kernel))) (fun cl C fp s H=>kS) (fun cl C fp s H=>(jE7 bb gy gz jEX (jv 1 rfl (y6 (by decide+kernel))) (j3 (jv 0 rfl (jX (by decide+kernel))) j6 j4) j4)) yE) j6 jO) jO) j6 jJ) jJ) (j3 (jA7 jA3 gD G.T.tuple (by decide+kernel) (j3 (jv 14 rfl vL) j6 j4) j4) j6 jJ) jJ) j4)) jOR) (j9 (yI (jW op_ne (G.CM.je hr gD (j3 (jv 17 rfl vL) j6 j4) j4) (jv 5 rfl vL) (jQ _)) (jC (jV (je_bl))) kG) (j9 (yB bB rfl (jA6 gD G.T.range (j3 (je_int) j6 jK) jK) (jG (i:=18) nd rfl lL) (turnA G hr).2 kI) (jC (jV (jAO op_eq (G.CM.je hr gD (j3 (yD (j3 (je_int) (j3 (yD j6) (j3 (jA7 jA3 gD G.T.tuple (by decide+kernel) (j3 (kR (m:=[none]) (Nc:=["thing"]) rfl (jA6 gD G.T.range (j3 (je_int) j6 jK) jK) rfl (by decide+kernel) (by decide+kernel) (kT (psc:=j7 sLaw) (by decide+kernel)) (jR (N:=nLaw) rfl rfl (by decide+kernel)) (fun cl C fp s H=>jG (i:=0) (show (["thing"]:List Str).Nodup by decide+kernel) rfl (yM (by decide+kernel))) (fun cl C fp s H=>kS) (fun cl C fp s H=>(yD (j3 (yD (j3 (jL jGR (jv 0 rfl (jX (by decide+kernel))) (je_int)) j6 kX)) (j3 (je_int) j6 jK) jB8))) kI) j6 jO) jO) j6 jJ) jB8) jK)) j6 jB8) jB8) (je_int) (jQ _)))))))⟩
def lawA: { t:TS // JSs (XLaw P w K mg base f cdv A outer s H0 E) (jB sLaw) t} :=
 have nd:=scLaw.nd
 ⟨_,(j9 (jE (i:=1) nd rfl lL (G.CP.je (hr.mono (by decide)) gD (j3 (G.CC.je (hr.mono (by decide)) gD (j3 (jv 0 rfl vL) (j3 (je_int) j6 jK) j4) j4) j6 jJ) jJ) jN) (j9 (jE (i:=2) nd rfl (loc_c (by decide+kernel)) (je_int) jAX) (j9 (jE (i:=3) nd rfl lL (kL j6) jBM) (j9 (jE (i:=4) nd rfl lL (kL j6) jBM) (j9 (jE (i:=5) nd rfl lL (je_int) jAX) (j9 (jE (i:=6) nd rfl (loc_c (by decide+kernel)) (kL j6) jBM) (j9 (yB bB rfl (jA6 gD G.T.range (j3 (je_int) j6 jK) jK) (jG (i:=7) nd rfl lL) (ordA G hr).2 kI) (j9 (yB bB rfl (jA6 gD G.T.range (j3 (jL kY (je_int) (G.CT.je (hr.mono (by decide)) gD (j3 (jv 1 rfl vL) (j3 (je_int) j6 jK) j4) j4)) j6 kX) kX) (jG (i:=7) nd rfl lL) (jMC G hr).2 kI) (j9 (jE (i:=13) nd rfl (loc_c (by decide+kernel)) (jI jAG gD G.T.sorted (by decide+kernel) (j3 (jL1 jML (jv 6 rfl vC) jNZ (jNY (jv 2 rfl vC))) j6 kW) kW) jN) (j9 (jE (i:=14) nd rfl lL (kL j6) jBM) (j9 (yB bB rfl (yC (jv 4 rfl vL)) (jG (i:=15) nd rfl lL) (rowsA G hr).2 yE) (endA G hr).2)))))))))))⟩
theorem jI2 {D:Ends}{H:Hp}{p b:Addr}{N wi:Int}{d:Nat}{ms:List Int}{pcs:List (List Int×Int)}{v0 v2 v3 v4 v6 v7 v8 v9 v10 v11 v12 v13 v14 v15 v16 v18 v19:Option V}(hp:H p=some (.lst [.int N]))(hN:0<=N)(hB:BoxAt H b wi ms pcs)(g:Good 16 32 wi ms pcs)(hd:(cvs wi ms pcs).length=d)(d0:0<d)(d1:d<=128 ^ 6)(tab:TabW H tb)
  (nx:∀ (H':Hp) (N':Int) v19,H' p=some (.lst [.int N'])->0<=N'->TabW H' tb->Tups H H'->D.nx [v0,some (.ref p),v2,v3,v4,some (natV d),v6,v7,v8,v9,v10,v11,v12,v13,v14,v15,v16,some (.ref b),v18,v19] H'):
  (turnA G hr).1 D [v0,some (.ref p),v2,v3,v4,some (natV d),v6,v7,v8,v9,v10,v11,v12,v13,v14,v15,v16,some (.ref b),v18,v19] H:=by
 have pt:p≠tb:=tab.ne hp (by intro _ z; cases z)
 have D1:(d:Int)<2 ^ 64:=by
  have:(128:Nat) ^ 6<2 ^ 64:=by decide
  have:((2:Nat) ^ 64:Nat)=((2:Int) ^ 64).toNat:=by decide
  omega
 refine⟨_,rfl,_,rfl,p,N,_,rfl,hp,hN,by show (0:Int)<(d:Int); omega,D1,fun N1 r a1 a2 a3=>?_⟩
 have k1:∀ c o,H c=some o->c≠p->(L2.upd H p (.lst [.int N1])) c=some o:=fun c o h n=>by rw[jA n]; exact h
 have p1:(L2.upd H p (.lst [.int N1])) p=some (.lst [.int N1]):=j8
 generalize L2.upd H p (.lst [.int N1])=H1 at k1 p1
 have T1:Tups H H1:=fun c xs h=>k1 _ _ h fun z=>by rw[z,hp] at h; cases h
 have t1:TabW H1 tb:=by
  rcases tab with h | ⟨c,h,h2⟩
  ·exact .inl (k1 _ _ h (bV pt))
  ·exact .inr ⟨c,k1 _ _ h (bV pt),k1 _ _ h2 fun z=>by rw[z,hp] at h2; cases h2⟩
 have a3:r<(d:Int):=a3
 obtain⟨n,rfl⟩:∃ n:Nat,r=(n:Int):=⟨r.toNat,by omega⟩
 have hn:n<(cvs wi ms pcs).length:=by omega
 have hc:(cvs wi ms pcs)[n]?=some (cvs wi ms pcs)[n]:=aj hn
 refine⟨_,rfl,_,rfl,_,rfl,b,n,wi,ms,pcs,_,rfl,hB.mono T1,g,t1,hc,fun q H2 d2 e2 t2=>?_⟩
 have T2:Tups H1 H2:=fun c xs h=>e2.at t1 h
 refine⟨b,q,n,wi,ms,pcs,_,rfl,(hB.mono T1).mono T2,g,t2,d2,hc,fun H3 e3 t3=>?_⟩
 have T3:Tups H2 H3:=fun c xs h=>e3.at t2 h
 have p3:H3 p=some (.lst [.int N1]):=e3.at t2 (e2.at t1 p1)
 refine⟨_,rfl,rfl,_,rfl,iteN (by show (!decide (natV n=natV n))=false; simp) ?_⟩
 exact nx H3 N1 _ p3 a1 t3 fun c xs h=>T3 _ _ (T2 _ _ (T1 _ _ h))
theorem jLB {D:Ends}{H:Hp}{p l r mA:Addr}{N:Int}{t k d:Nat}{os ms:List Int}{ps:List (List Int)}{vs:List V}{rows:List (List Int×Int)}{v0 v4 v6 v7 v8 v9 v10 v11 v12 v15 v16 v17 v18 v19:Option V}(hp:H p=some (.lst [.int N]))(hN:0<=N)(hl:H l=some (.lst ((srt (os.take t)).map V.int)))(hm:H mA=some (.lst (ms.map V.int)))(hr0:H r=some (.lst vs))(hv:PcsAt H vs rows)(bi:BI os t k ms ps d)(nd:os.Nodup)(ol:os.length=16)(k6:k<=6)(pm:(rows.map (·.1)).Perm (ps.map fun p=>p.map (ixF (srt (os.take t)))))(z0:∀ r∈rows,r.2=0)(tab:TabW H tb)
  (q:∀ H',D.rt (.bl true) H'):
  (endA G hr).1 D [v0,some (.ref p),some (natV t),some (.ref mA),v4,some (natV d),v6,v7,v8,v9,v10,v11,v12,some (.ref l),some (.ref r),v15,v16,v17,v18,v19] H:=by
 obtain⟨g,hd⟩:=bi.box nd ol pm z0
 have ml:=bi.ml
 have t16:=bi.t16
 have tl:(srt (os.take t)).length<=16:=by rw[jDX,aY]; omega
 have mem:∀ x∈ms,x∈srt (os.take t):=fun x h=>(jU _).mem_iff.mpr (bi.min x h)
 generalize srt (os.take t)=left at*
 refine⟨_,rfl,_,rfl,mA,rfl,⟨_,SqL.of hm⟩,jB5 (fun σ=>∃ v,σ=[v,some (.ref l)]) (mapZ ms fun y=>V.int (ixF left y)) (mapZ.ok _ _) hm (by rw[aI,aa]; omega) ⟨_,rfl⟩ ?_ ?_⟩
 ·rintro i y σ2 H5 zs5 hy ⟨v5,rfl⟩ e5 hz5 R1 R2 yes5 no5
  obtain⟨g,hg,rfl⟩:∃ g,ms[i]?=some g/\V.int g=y:=by simpa using hy
  have gm:=mem g (ao hg)
  have gi:=cz gm
  dsimp only [kO,yJ]
  rw[ag rfl]
  refine⟨_,rfl, .inl ⟨rfl,_,SqL.of (e5 _ _ hl)⟩,_,rfl,l,left,g,left.idxOf g,rfl,rfl,e5 _ _ hl,by omega,by rw[aj gi,em gi],fun m hm e=>absurd (jJJ e) (by omega),yes5 _ _ _ ⟨_,rfl⟩ (Ext.refl _) (mapZ.yes hz5 hg)⟩
 ·intro D5 H5 zs5 d5 e5 nD5 hz5
  have hz5:=hz5.all (by rw[aa]; exact az _)
  subst hz5
  have d5:H5 D5=some (.lst ((ms.map (ixF left)).map V.int)):=by rw[bv]; exact d5
  refine⟨D5,ms.map (ixF left),rfl,SqL.of d5,by rw[aa]; omega,fun l6 ns hl6 ple pm6=>?_⟩
  have en:ns=srt (ms.map (ixF left)):=jD0 ple pm6
  subst en
  refine⟨l6,_,rfl, .inl ⟨SqL.of j8,fun a6 h6=>?_⟩⟩
  have e6:Ext H5 (L2.upd (L2.upd H5 l6 (.lst ((srt (ms.map (ixF left))).map V.int))) a6 (.tup ((srt (ms.map (ixF left))).map V.int))):=((Ext.refl _).new hl6 _).new h6 _
  have d6:(L2.upd (L2.upd H5 l6 (.lst ((srt (ms.map (ixF left))).map V.int))) a6 (.tup ((srt (ms.map (ixF left))).map V.int))) a6=some (.tup ((srt (ms.map (ixF left))).map V.int)):=j8
  generalize L2.upd (L2.upd H5 l6 (.lst ((srt (ms.map (ixF left))).map V.int))) a6 (.tup ((srt (ms.map (ixF left))).map V.int))=H6 at e6 d6
  have E6:=e5.trans e6
  refine⟨_,rfl,r,_,rfl, .inl ⟨SqL.of (E6 _ _ hr0),fun a7 h7=>?_⟩⟩
  have e7:Ext H6 (L2.upd H6 a7 (.tup vs)):=(Ext.refl _).new h7 _
  have d7:(L2.upd H6 a7 (.tup vs)) a7=some (.tup vs):=j8
  generalize L2.upd H6 a7 (.tup vs)=H7 at e7 d7
  refine⟨by show (3:Nat)<=_; decide,fun b H8 d8 e8=>?_⟩
  have E8:=(E6.trans e7).trans e8
  have hB:BoxAt H8 b t (srt (ms.map (ixF left))) rows:=⟨a6,a7,vs,d8,e8 _ _ (e7 _ _ d6),e8 _ _ d7,hv.mono E8.tups⟩
  have tab8:=tab.ext E8
  have p8:=E8 _ _ hp
  refine⟨_,rfl,b,_,_,rows,rfl,hB,g,tab8,fun H9 e9 t9=>?_⟩
  rw[<- jG6,hd]
  refine⟨_,rfl,rfl,_,rfl,iteN (by show (!decide (natV d=natV d))=false; simp) ?_⟩
  have T9:Tups H8 H9:=fun c xs h=>e9.at tab8 h
  have hB9:=hB.mono T9
  have p9:=e9.at tab8 p8
  have dl:d<=128 ^ 6:=bD bi.db (bS (by decide) k6)
  refine⟨6,rfl,by decide,by decide,jAJ (lo:=0) (n:=6) (fun i σ H'=>(∃ v18 v19,σ=[v0,some (.ref p),some (natV t),some (.ref mA),v4,some (natV d),v6,v7,v8,v9,v10,v11,v12,some (.ref l),some (.ref r),v15,v16,some (.ref b),v18,v19])/\BoxAt H' b t (srt (ms.map (ixF left))) rows/\(∃ N',H' p=some (.lst [.int N'])/\0<=N')/\TabW H' tb) ⟨⟨_,_,rfl⟩,hB9,⟨N,p9,hN⟩,t9⟩ ?_ ?_⟩
  ·rintro i σ HA hi ⟨⟨v18,v19,rfl⟩,hBA,⟨NA,pA,nA⟩,tA⟩
   exact jI2 G hr pA nA hBA g hd bi.d0 dl tA fun HB NB v19 pB nB tB TB=>⟨⟨_,_,rfl⟩,hBA.mono TB,⟨NB,pB,nB⟩,tB⟩
  ·rintro σ HA ⟨⟨v18,v19,rfl⟩,hBA,⟨NA,pA,nA⟩,tA⟩
   refine⟨by show (0:Nat)<=_; decide,fun a1 H1 d1 e1=>?_⟩
   refine⟨(32:Int),rfl,by decide,by decide,jEC (n:=32) (fun σ=>∃ v,σ=[v]) (fun (H':Hp) (zs:List V) (j:Nat)=>PcsAt H' zs (two16.take j)) ⟨fun _=>trivial,fun H H' zs j tu h=>PcsAt.mono tu h,fun H zs j h=>by
    rw[PcsAt.len h]
    exact cF _ _⟩ (by decide) ⟨_,rfl⟩ ?_ ?_⟩
   ·rintro j σ' H2 zs hj ⟨v,rfl⟩ e2 hz S1 S2 yes no
    dsimp only [kO,yJ]
    rw[ag rfl]
    have e0:(0+(j:Int))=(j:Int):=by omega
    have hj2:two16[j]?=some ([(j:Int) / 2],0):=by
     unfold two16
     rw[aA,kN hj]
     rfl
    rw[e0]
    refine⟨_,rfl,_,_,rfl,rfl,⟨by decide,by decide⟩,by show (1:Nat)<=_; decide,fun a3 H3 d3 e3=>⟨by show (2:Nat)<=_; decide,fun a4 H4 d4 e4=>yes _ _ _ ⟨_,rfl⟩ (e3.trans e4) ?_⟩⟩
    show PcsAt H4 _ (two16.take (j+1))
    rw[bo,hj2]
    exact PcsAt.snoc (p:=([(j:Int) / 2],0)) ⟨a4,a3,rfl,d4,e4 _ _ d3⟩ (PcsAt.mono (e3.trans e4).tups hz)
   ·intro L H2 zs d2 e2 n2 hz
    have hz:PcsAt H2 zs (two16.take 32):=hz
    have tk:two16.take 32=two16:=bG (by decide)
    rw[tk] at hz
    refine⟨L,_,rfl, .inl ⟨SqL.of d2,fun a3 h3=>?_⟩⟩
    have e3:Ext H2 (L2.upd H2 a3 (.tup zs)):=(Ext.refl _).new h3 _
    have d3:(L2.upd H2 a3 (.tup zs)) a3=some (.tup zs):=j8
    generalize L2.upd H2 a3 (.tup zs)=H3 at e3 d3
    refine⟨by show (3:Nat)<=_; decide,fun b4 H4 d4 e4=>?_⟩
    have E4:=(e2.trans e3).trans e4
    have hB4:BoxAt H4 b4 16 [] two16:=⟨a1,a3,zs,d4,E4 _ _ d1,e4 _ _ d3,PcsAt.mono (e3.trans e4).tups hz⟩
    refine⟨b4,_,_,_,rfl,hB4,two_good.1,(tA.ext e1).ext E4,fun H5 e5 t5=>?_⟩
    rw[<- jG6,two_good.2]
    exact⟨rfl,q H5⟩
theorem ExtK {H H':Hp}{p:Addr}(tab:TabW H tb)(k:Keep H H' p)(pt:p≠tb)(hp:∃ x,H p=some (.lst x)):TabW H' tb:=by
 obtain⟨x,hp⟩:=hp
 rcases tab with h | ⟨c,h,h2⟩
 ·exact .inl (k _ _ h (bV pt))
 ·exact .inr ⟨c,k _ _ h (bV pt),k _ _ h2 fun z=>by rw[z,hp] at h2; cases h2⟩
end
def spLaw (K:W.Frag)(tb:Addr):Sp:=fun vs H Q _=>∃ (a:Addr) (ns:List Int),vs=[.ref a]/\SqL K H a (ns.map V.int)/\ns.length<=63/\TabW H tb/\∀ H',Q (.bl true) H'
theorem jPG {fd:FuncData}(F:Fun K "law" "law" sLaw f fd)(G:LW P w K mg base fC fP fT fB fM fA fN tb fdC fdP fdT fdB fdM fdA fdN):FnOk P w K mg base CX0 7 f fd ["script"] (spLaw K tb):=by
 refine F.ok scLaw (fun vs H Q E h=>?_) (fun cdv A outer s H vs Q E hr h=>?_)
 ·obtain⟨_,_,rfl,_⟩:=h
  rfl
 ·obtain⟨a,ns,rfl,hS,hlen,tab,q⟩:=h
  refine⟨_,(lawA G hr).2.h,?_⟩
  refine⟨_,rfl,a,ns,0,rfl,hS,by decide,fun c=>⟨c,rfl,fun p N hp hN=>?_⟩⟩
  have e1:Ext H (L2.upd H p (.lst [.int N])):=(Ext.refl _).new hp _
  have p1:(L2.upd H p (.lst [.int N])) p=some (.lst [.int N]):=j8
  generalize L2.upd H p (.lst [.int N])=H1 at e1 p1
  refine⟨by show (0:Nat)<=_; decide,fun mA H2 d2 e2 n2=>?_⟩
  refine⟨by show (0:Nat)<=_; decide,fun pA H3 d3 e3 n3=>?_⟩
  refine⟨by show (0:Nat)<=_; decide,fun o H4 d4 e4 n4=>?_⟩
  have mp:mA≠p:=fun z=>by rw[z,p1] at n2; cases n2
  have pp:pA≠p:=fun z=>by rw[z,e2 _ _ p1] at n3; cases n3
  have op:o≠p:=fun z=>by rw[z,e3 _ _ (e2 _ _ p1)] at n4; cases n4
  have mo:mA≠o:=fun z=>by rw[<- z,e3 _ _ d2] at n4; cases n4
  have po:pA≠o:=fun z=>by rw[<- z,d3] at n4; cases n4
  have p4:=e4 _ _ (e3 _ _ (e2 _ _ p1))
  have m4:=e4 _ _ (e3 _ _ d2)
  have pA4:=e4 _ _ d3
  have tab4:TabW H4 tb:=tab.ext (((e1.trans e2).trans e3).trans e4)
  have pt:p≠tb:=tab4.ne p4 (by intro _ z; cases z)
  have ot:o≠tb:=tab4.ne d4 (by intro _ z; cases z)
  refine⟨16,rfl,by decide,by decide,jAJ (lo:=0) (n:=16) (fun i σ H'=>(∃ v7,σ=some (.ref a)::some (.ref p)::some (natV 0)::some (.ref mA)::some (.ref pA)::some (natV 1)::some (.ref o)::v7::replicate 12 none)/\(∀ c u,H4 c=some u->c≠p->c≠o->H' c=some u)/\(∃ N',H' p=some (.lst [.int N'])/\0<=N')/\∃ os:List Int,os.Perm (upto i)/\H' o=some (.lst (os.map V.int))) ⟨⟨_,rfl⟩,fun _ _ h _ _=>h,⟨N,p4,hN⟩,[],eQ _,d4⟩ ?_ ?_⟩
  ·rintro i σ H5 hi ⟨⟨v7,rfl⟩,k5,⟨N5,p5,n5⟩,os,pm,o5⟩
   have e0:(0+(i:Int))=(i:Int):=by omega
   show (ordA G hr).1 _ (some (.ref a)::some (.ref p)::some (natV 0)::some (.ref mA)::some (.ref pA)::some (natV 1)::some (.ref o)::some (.int (0+(i:Int)))::replicate 12 none) H5
   rw[e0]
   exact jKN G hr p5 n5 o5 pm hi op fun H6 N6 os6 pm6 o6 p6 n6 k6=>⟨⟨_,rfl⟩,fun c u h x y=>k6 _ _ (k5 _ _ h x y) x y,⟨N6,p6,n6⟩,os6,pm6,o6⟩
  ·rintro σ H5 ⟨⟨v7,rfl⟩,k5,⟨N5,p5,n5⟩,os,pm,o5⟩
   have ol:os.length=16:=by rw[pm.length_eq,jT]
   have nd:os.Nodup:=pm.nodup_iff.mpr (by decide+kernel)
   have m5:=k5 _ _ m4 mp mo
   have pA5:=k5 _ _ pA4 pp po
   have tab5:TabW H5 tb:=by
    rcases tab4 with h | ⟨c,h,h2⟩
    ·exact .inl (k5 _ _ h (bV pt) (bV ot))
    ·exact .inr ⟨c,k5 _ _ h (bV pt) (bV ot),k5 _ _ h2 (fun z=>by rw[z,p4] at h2; cases h2) fun z=>by rw[z,d4] at h2; cases h2⟩
   refine⟨_,rfl,p,N5,5,rfl,p5,n5,by decide,by decide,fun N6 r6 a1 a2 a3=>⟨_,_,rfl,rfl,?_⟩⟩
   have k6:Keep H5 (L2.upd H5 p (.lst [.int N6])) p:=fun c u h n=>by rw[jA n]; exact h
   have p6:(L2.upd H5 p (.lst [.int N6])) p=some (.lst [.int N6]):=j8
   generalize L2.upd H5 p (.lst [.int N6])=H6 at k6 p6
   have tab6:=ExtK tab5 k6 pt ⟨_,p5⟩
   obtain⟨m,hm,m5'⟩:∃ m:Nat,(1:Int)+r6=(m:Int)/\m<=5:=⟨(1+r6).toNat,by omega,by omega⟩
   refine⟨(m:Int),by show [V.int (1+r6)]=_; rw[hm],by omega,by omega,jAJ (lo:=0) (n:=m) (fun i σ H'=>Keep H6 H' p/\∃ (N':Int) (mA pA:Addr) (t d:Nat) (ms:List Int) (us:List V) (ps:List (List Int)) (v7 v8 v9 v10 v11 v12:Option V),σ=some (.ref a)::some (.ref p)::some (natV t)::some (.ref mA)::some (.ref pA)::some (natV d)::some (.ref o)::v7::v8::v9::v10::v11::v12::replicate 7 none/\0<=N'/\H' p=some (.lst [.int N'])/\H' mA=some (.lst (ms.map V.int))/\H' pA=some (.lst us)/\TsL H' us ps/\mA≠p/\pA≠p/\BI os t i ms ps d) ⟨fun _ _ h _=>h,N6,mA,pA,0,1,[],[],[],_,_,_,_,_,_,rfl,a1,p6,k6 _ _ m5 mp,k6 _ _ pA5 pp,trivial,mp,pp,BI.zero os⟩ ?_ ?_⟩
   ·rintro i σ H7 hi ⟨k7,N7,mA7,pA7,t7,d7,ms7,us7,ps7,v7,v8,v9,v10,v11,v12,rfl,n7,p7,m7,q7,ts7,mp7,pp7,b7⟩
    exact jHV G hr p7 n7 m7 q7 ts7 (k7 _ _ (k6 _ _ o5 op) op) nd ol b7 (by omega) mp7 pp7 op fun H8 N8 mA8 pA8 t8 d8 ms8 us8 ps8 v8 v9 v10 v11 v12 n8 p8 m8 q8 ts8 mp8 pp8 b8 k8=>⟨fun c u h n=>k8 _ _ (k7 _ _ h n) n,N8,mA8,pA8,t8,d8,ms8,us8,ps8,_,v8,v9,v10,v11,v12,rfl,n8,p8,m8,q8,ts8,mp8,pp8,b8⟩
   ·rintro σ H7 ⟨k7,N7,mA7,pA7,t7,d7,ms7,us7,ps7,v7,v8,v9,v10,v11,v12,rfl,n7,p7,m7,q7,ts7,mp7,pp7,b7⟩
    have tab7:=ExtK tab6 k7 pt ⟨_,p6⟩
    have t16:=b7.t16
    have o7:=k7 _ _ (k6 _ _ o5 op) op
    refine⟨_,rfl,_,rfl,_,rfl,o,_,rfl,SqL.of o7,fun c8 h8=>?_⟩
    rw[jLE (by rw[aa]; omega),<- fZ]
    refine⟨c8,os.take t7,rfl,SqL.of j8,by rw[aY]; omega,fun l ns hl ple pm8=>?_⟩
    have en:ns=srt (os.take t7):=jD0 ple pm8
    subst en
    have e8:Ext H7 (L2.upd (L2.upd H7 c8 (.lst ((os.take t7).map V.int))) l (.lst ((srt (os.take t7)).map V.int))):=((Ext.refl _).new h8 _).new hl _
    have d8:(L2.upd (L2.upd H7 c8 (.lst ((os.take t7).map V.int))) l (.lst ((srt (os.take t7)).map V.int))) l=some (.lst ((srt (os.take t7)).map V.int)):=j8
    generalize L2.upd (L2.upd H7 c8 (.lst ((os.take t7).map V.int))) l (.lst ((srt (os.take t7)).map V.int))=H8 at e8 d8
    refine⟨by show (0:Nat)<=_; decide,fun r H9 d9 e9 n9=>?_⟩
    have E9:=e8.trans e9
    have rp:r≠p:=fun z=>by rw[z,e8 _ _ p7] at n9; cases n9
    have lp:l≠p:=fun z=>by rw[z,(Ext.new (Ext.refl _) h8 _) _ _ p7] at hl; cases hl
    have lr:l≠r:=fun z=>by rw[<- z,d8] at n9; cases n9
    have mr:mA7≠r:=fun z=>by rw[<- z,e8 _ _ m7] at n9; cases n9
    have pr:pA7≠r:=fun z=>by rw[<- z,e8 _ _ q7] at n9; cases n9
    have tab9:=tab7.ext E9
    have rt:r≠tb:=tab9.ne d9 (by intro _ z; cases z)
    have ul:=All2.len ts7
    have ts9:TsL H9 us7 ps7:=ts7.mono E9.tups
    have tl:(srt (os.take t7)).length<=16:=by rw[jDX,aY]; omega
    refine⟨_,rfl,pA7,rfl,⟨_,SqL.of (E9 _ _ q7)⟩,jBU (xs:=us7) (fun i σ H'=>(∃ v15 v16,σ=[some (.ref a),some (.ref p),some (natV t7),some (.ref mA7),some (.ref pA7),some (natV d7),some (.ref o),v7,v8,v9,v10,v11,v12,some (.ref l),some (.ref r),v15,v16,none,none,none])/\(∀ c u,H9 c=some u->c≠p->c≠r->H' c=some u)/\(∃ N',H' p=some (.lst [.int N'])/\0<=N')/\∃ (vs:List V) (rows:List (List Int×Int)),H' r=some (.lst vs)/\PcsAt H' vs rows/\(rows.map (·.1)).Perm ((ps7.take i).map fun q=>q.map (ixF (srt (os.take t7))))/\∀ x∈rows,x.2=0) ⟨⟨_,_,rfl⟩,fun _ _ h _ _=>h,⟨N7,E9 _ _ p7,n7⟩,[],[],d9,trivial,eQ _,fun _ h=>by cases h⟩ (fun i σ H' _ ⟨_,k',_⟩=>SqL.of (k' _ _ (E9 _ _ q7) pp7 pr)) ?_ ?_⟩
    ·rintro i x σ HA hx ⟨⟨v15,v16,rfl⟩,kA,⟨NA,pA',nA⟩,vs,rows,rA,pvA,pmA,zA⟩
     obtain⟨pc,hpc,qa,rfl,hqa⟩:=All2.get' ts9 hx
     have pin:=b7.pin pc (ao hpc)
     have il:i<us7.length:=(ae.mp hx).1
     have bpl:=b7.pl
     have vl:=PcsAt.len pvA
     have rl:=pmA.length_eq
     rw[aa,aa,aY] at rl
     refine jIF G hr pA' nA (kA _ _ (e9 _ _ d8) lp lr) tl rA pvA (by omega) (kA _ _ hqa (fun z=>by rw[z,E9 _ _ p7] at hqa; cases hqa) fun z=>by rw[z,d9] at hqa; cases hqa) (fun y hy=>(jU _).mem_iff.mpr (pin.2.2 y hy)) ?_ rp fun HB NB vs' rows' vt pmB rB pvB pB nB kB=>⟨⟨_,_,rfl⟩,fun c u h x y=>kB _ _ (kA _ _ h x y) x y,⟨NB,pB,nB⟩,vs',rows',rB,pvB,?_,fun y hy=>?_⟩
     ·have h:=jBF pc 0 16 pin.1 fun y hy=>mem_upto'.mp (pm.mem_iff.mp (bR (pin.2.2 y hy)))
      omega
     ·have h1:=pmB.map (·.1)
      rw[aK] at h1
      rw[bo,hpc,aK]
      exact h1.trans (pmA.append_right _)
     ·rcases ax.mp (pmB.mem_iff.mp hy) with z | z
      ·exact zA y z
      ·rw[ay.mp z]
    ·rintro σ HA ⟨⟨v15,v16,rfl⟩,kA,⟨NA,pA',nA⟩,vs,rows,rA,pvA,pmA,zA⟩
     rw[ul,bI] at pmA
     have tabA:TabW HA tb:=by
      rcases tab9 with h | ⟨c,h,h2⟩
      ·exact .inl (kA _ _ h (bV pt) (bV rt))
      ·exact .inr ⟨c,kA _ _ h (bV pt) (bV rt),kA _ _ h2 (fun z=>by rw[z,E9 _ _ p7] at h2; cases h2) fun z=>by rw[z,d9] at h2; cases h2⟩
     exact jLB G hr pA' nA (kA _ _ (e9 _ _ d8) lp lr) (kA _ _ (E9 _ _ m7) mp7 mr) rA pvA b7 nd ol (by omega) pmA zA tabA q
end
theorem lenU1 {P:List Value->Prop} :∀ {us:List Value},us.length=1->(∀ a,P [a])->P us
 | [a],_,h=>h a
theorem lenU2 {P:List Value->Prop} :∀ {us:List Value},us.length=2->(∀ a b,P [a,b])->P us
 | [a,b],_,h=>h a b
theorem lenU3 {P:List Value->Prop} :∀ {us:List Value},us.length=3->(∀ a b c,P [a,b,c])->P us
 | [a,b,c],_,h=>h a b c
set_option maxHeartbeats 8000000 in
theorem all_mk {l:PySem.W.OpenLaw}{w:World}{K:W.Frag}{h:Heap}{mg:Str->Option Value}{fa f1 f2 f3 f4 f5 f6 f7 f8 f9 f10 f11 f12 f13 f14 f15 f16 f17 f18 f19 f20 f21 f22:Addr}(X:K.In h)(G:h.Ns mainGlobals mg)(hfa:mg "law" =some (.ref fa))
  {od1 an1 od2 an2 od3 an3 od4 an4 od5 an5 od6 an6 od7 an7 od8 an8 od9 an9 od10 an10 od11 an11 od12 an12 od13 an13 od14 an14 od15 an15 od16 an16 od17 an17 od18 an18 od19 an19 od20 an20 od21 an21 od22 an22:Option Addr}{sl1 sl2 sl3 sl4 sl5 sl6 sl7 sl8 sl9 sl10 sl11 sl12 sl13 sl14 sl15 sl16 sl17 sl18 sl19 sl20 sl21 sl22:Array (Option Value)}{oc1 kV1 dc1 pm1 cd1 ct1 oc2 kV2 dc2 pm2 cd2 ct2 oc3 kV3 dc3 pm3 cd3 ct3 oc4 kV4 dc4 pm4 cd4 ct4 oc5 kV5 dc5 pm5 cd5 ct5 oc6 kV6 dc6 pm6 cd6 ct6 oc7 kV7 dc7 pm7 cd7 ct7 oc8 kV8 dc8 pm8 cd8 ct8 oc9 kV9 dc9 pm9 cd9 ct9 oc10 kV10 dc10 pm10 cd10 ct10 oc11 kV11 dc11 pm11 cd11 ct11 oc12 kV12 dc12 pm12 cd12 ct12 oc13 kV13 dc13 pm13 cd13 ct13 oc14 kV14 dc14 pm14 cd14 ct14 oc15 kV15 dc15 pm15 cd15 ct15 oc16 kV16 dc16 pm16 cd16 ct16 oc17 kV17 dc17 pm17 cd17 ct17 oc18 kV18 dc18 pm18 cd18 ct18 oc19 kV19 dc19 pm19 cd19 ct19 oc20 kV20 dc20 pm20 cd20 ct20 oc21 kV21 dc21 pm21 cd21 ct21 oc22 kV22 dc22 pm22 cd22 ct22:Value}
  (a1:PySem.W.nsIn K mainGlobals "is_whole" =some (some (.ref f1))) (l1:K.lookup f1=some ⟨oc1,od1, .func (PySem.W.fnOf "is_whole" "is_whole" (jF jAK) (jB jAK) (j7 jAK) .none kV1 dc1 pm1 an1 cd1 ct1),sl1⟩) (c1:PySem.W.codeIn K cd1 "is_whole" =true) (k1:keepIn K (.ref f1)=true)
  (a2:PySem.W.nsIn K mainGlobals "is_rising" =some (some (.ref f2))) (l2:K.lookup f2=some ⟨oc2,od2, .func (PySem.W.fnOf "is_rising" "is_rising" (jF y3) (jB y3) (j7 y3) .none kV2 dc2 pm2 an2 cd2 ct2),sl2⟩) (c2:PySem.W.codeIn K cd2 "is_rising" =true) (k2:keepIn K (.ref f2)=true)
  (a3:PySem.W.nsIn K mainGlobals "is_lot" =some (some (.ref f3))) (l3:K.lookup f3=some ⟨oc3,od3, .func (PySem.W.fnOf "is_lot" "is_lot" (jF jBB) (jB jBB) (j7 jBB) .none kV3 dc3 pm3 an3 cd3 ct3),sl3⟩) (c3:PySem.W.codeIn K cd3 "is_lot" =true) (k3:keepIn K (.ref f3)=true)
  (a4:PySem.W.nsIn K mainGlobals "mask_of" =some (some (.ref f4))) (l4:K.lookup f4=some ⟨oc4,od4, .func (PySem.W.fnOf "mask_of" "mask_of" (jF sMask) (jB sMask) (j7 sMask) .none kV4 dc4 pm4 an4 cd4 ct4),sl4⟩) (c4:PySem.W.codeIn K cd4 "mask_of" =true) (k4:keepIn K (.ref f4)=true)
  (a5:PySem.W.nsIn K mainGlobals "is_covering" =some (some (.ref f5))) (l5:K.lookup f5=some ⟨oc5,od5, .func (PySem.W.fnOf "is_covering" "is_covering" (jF sCov) (jB sCov) (j7 sCov) .none kV5 dc5 pm5 an5 cd5 ct5),sl5⟩) (c5:PySem.W.codeIn K cd5 "is_covering" =true) (k5:keepIn K (.ref f5)=true)
  (a6:PySem.W.nsIn K mainGlobals "rank_of" =some (some (.ref f6))) (l6:K.lookup f6=some ⟨oc6,od6, .func (PySem.W.fnOf "rank_of" "rank_of" (jF sRank) (jB sRank) (j7 sRank) .none kV6 dc6 pm6 an6 cd6 ct6),sl6⟩) (c6:PySem.W.codeIn K cd6 "rank_of" =true) (k6:keepIn K (.ref f6)=true)
  (a7:PySem.W.nsIn K mainGlobals "choices_of" =some (some (.ref f7))) (l7:K.lookup f7=some ⟨oc7,od7, .func (PySem.W.fnOf "choices_of" "choices_of" (jF jZ) (jB jZ) (j7 jZ) .none kV7 dc7 pm7 an7 cd7 ct7),sl7⟩) (c7:PySem.W.codeIn K cd7 "choices_of" =true) (k7:keepIn K (.ref f7)=true)
  (a8:PySem.W.nsIn K mainGlobals "full_mask" =some (some (.ref f8))) (l8:K.lookup f8=some ⟨oc8,od8, .func (PySem.W.fnOf "full_mask" "full_mask" (jF sFull) (jB sFull) (j7 sFull) .none kV8 dc8 pm8 an8 cd8 ct8),sl8⟩) (c8:PySem.W.codeIn K cd8 "full_mask" =true) (k8:keepIn K (.ref f8)=true)
  (a9:PySem.W.nsIn K mainGlobals "choices_at" =some (some (.ref f9))) (l9:K.lookup f9=some ⟨oc9,od9, .func (PySem.W.fnOf "choices_at" "choices_at" (jF sAt) (jB sAt) (j7 sAt) .none kV9 dc9 pm9 an9 cd9 ct9),sl9⟩) (c9:PySem.W.codeIn K cd9 "choices_at" =true) (k9:keepIn K (.ref f9)=true)
  (a10:PySem.W.nsIn K mainGlobals "masks_met" =some (some (.ref f10))) (l10:K.lookup f10=some ⟨oc10,od10, .func (PySem.W.fnOf "masks_met" "masks_met" (jF sMet) (jB sMet) (j7 sMet) .none kV10 dc10 pm10 an10 cd10 ct10),sl10⟩) (c10:PySem.W.codeIn K cd10 "masks_met" =true) (k10:keepIn K (.ref f10)=true)
  (a11:PySem.W.nsIn K mainGlobals "gathered" =some (some (.ref f11))) (l11:K.lookup f11=some ⟨oc11,od11, .func (PySem.W.fnOf "gathered" "gathered" (jF yO) (jB yO) (j7 yO) .none kV11 dc11 pm11 an11 cd11 ct11),sl11⟩) (c11:PySem.W.codeIn K cd11 "gathered" =true) (k11:keepIn K (.ref f11)=true)
  (a12:PySem.W.nsIn K mainGlobals "ways_of" =some (some (.ref f12))) (l12:K.lookup f12=some ⟨oc12,od12, .func (PySem.W.fnOf "ways_of" "ways_of" (jF yK) (jB yK) (j7 yK) .none kV12 dc12 pm12 an12 cd12 ct12),sl12⟩) (c12:PySem.W.codeIn K cd12 "ways_of" =true) (k12:keepIn K (.ref f12)=true)
  (a13:PySem.W.nsIn K mainGlobals "many" =some (some (.ref f13))) (l13:K.lookup f13=some ⟨oc13,od13, .func (PySem.W.fnOf "many" "many" (jF sMany) (jB sMany) (j7 sMany) .none kV13 dc13 pm13 an13 cd13 ct13),sl13⟩) (c13:PySem.W.codeIn K cd13 "many" =true) (k13:keepIn K (.ref f13)=true)
  (a14:PySem.W.nsIn K mainGlobals "covering_along" =some (some (.ref f14))) (l14:K.lookup f14=some ⟨oc14,od14, .func (PySem.W.fnOf "covering_along" "covering_along" (jF yL) (jB yL) (j7 yL) .none kV14 dc14 pm14 an14 cd14 ct14),sl14⟩) (c14:PySem.W.codeIn K cd14 "covering_along" =true) (k14:keepIn K (.ref f14)=true)
  (a15:PySem.W.nsIn K mainGlobals "covering_at" =some (some (.ref f15))) (l15:K.lookup f15=some ⟨oc15,od15, .func (PySem.W.fnOf "covering_at" "covering_at" (jF jBC) (jB jBC) (j7 jBC) .none kV15 dc15 pm15 an15 cd15 ct15),sl15⟩) (c15:PySem.W.codeIn K cd15 "covering_at" =true) (k15:keepIn K (.ref f15)=true)
  (a16:PySem.W.nsIn K mainGlobals "place_of" =some (some (.ref f16))) (l16:K.lookup f16=some ⟨oc16,od16, .func (PySem.W.fnOf "place_of" "place_of" (jF jB9) (jB jB9) (j7 jB9) .none kV16 dc16 pm16 an16 cd16 ct16),sl16⟩) (c16:PySem.W.codeIn K cd16 "place_of" =true) (k16:keepIn K (.ref f16)=true)
  (a17:PySem.W.nsIn K mainGlobals "number_of" =some (some (.ref f17))) (l17:K.lookup f17=some ⟨oc17,od17, .func (PySem.W.fnOf "number_of" "number_of" (jF jBA) (jB jBA) (j7 jBA) .none kV17 dc17 pm17 an17 cd17 ct17),sl17⟩) (c17:PySem.W.codeIn K cd17 "number_of" =true) (k17:keepIn K (.ref f17)=true)
  (a18:PySem.W.nsIn K mainGlobals "_law_cell_at" =some (some (.ref f18))) (l18:K.lookup f18=some ⟨oc18,od18, .func (PySem.W.fnOf "_law_cell_at" "_law_cell_at" (jF sCell) (jB sCell) (j7 sCell) .none kV18 dc18 pm18 an18 cd18 ct18),sl18⟩) (c18:PySem.W.codeIn K cd18 "_law_cell_at" =true) (k18:keepIn K (.ref f18)=true)
  (a19:PySem.W.nsIn K mainGlobals "_law_pot" =some (some (.ref f19))) (l19:K.lookup f19=some ⟨oc19,od19, .func (PySem.W.fnOf "_law_pot" "_law_pot" (jF sPot) (jB sPot) (j7 sPot) .none kV19 dc19 pm19 an19 cd19 ct19),sl19⟩) (c19:PySem.W.codeIn K cd19 "_law_pot" =true) (k19:keepIn K (.ref f19)=true)
  (a20:PySem.W.nsIn K mainGlobals "_law_take" =some (some (.ref f20))) (l20:K.lookup f20=some ⟨oc20,od20, .func (PySem.W.fnOf "_law_take" "_law_take" (jF sTake) (jB sTake) (j7 sTake) .none kV20 dc20 pm20 an20 cd20 ct20),sl20⟩) (c20:PySem.W.codeIn K cd20 "_law_take" =true) (k20:keepIn K (.ref f20)=true)
  (a21:PySem.W.nsIn K mainGlobals "_law_block" =some (some (.ref f21))) (l21:K.lookup f21=some ⟨oc21,od21, .func (PySem.W.fnOf "_law_block" "_law_block" (jF y9) (jB y9) (j7 y9) .none kV21 dc21 pm21 an21 cd21 ct21),sl21⟩) (c21:PySem.W.codeIn K cd21 "_law_block" =true) (k21:keepIn K (.ref f21)=true)
  (a22:PySem.W.nsIn K mainGlobals "law" =some (some (.ref f22))) (l22:K.lookup f22=some ⟨oc22,od22, .func (PySem.W.fnOf "law" "law" (jF sLaw) (jB sLaw) (j7 sLaw) .none kV22 dc22 pm22 an22 cd22 ct22),sl22⟩) (c22:PySem.W.codeIn K cd22 "law" =true) (k22:keepIn K (.ref f22)=true)
   (z1:PySem.W.nsIn K mainGlobals "len" =some none) (z2:PySem.W.nsIn K mainGlobals "range" =some none) (z3:PySem.W.nsIn K mainGlobals "tuple" =some none) (z4:PySem.W.nsIn K mainGlobals "sorted" =some none) (z5:PySem.W.nsIn K mainGlobals "set" =some none) (z6:PySem.W.nsIn K mainGlobals "list" =some none) (z7:PySem.W.nsIn K mainGlobals "int" =some none) (z8:PySem.W.nsIn K mainGlobals "isinstance" =some none) (z9:PySem.W.nsIn K mainGlobals "bool" =some none) (z10:PySem.W.nsIn K mainGlobals "str" =some none) (z11:PySem.W.nsIn K mainGlobals "all" =some none) (z12:PySem.W.nsIn K mainGlobals "zip" =some none) (z13:PySem.W.nsIn K mainGlobals "max" =some none) (z14:PySem.W.nsIn K mainGlobals "min" =some none) (z15:PySem.W.nsIn K mainGlobals "any" =some none) (z16:PySem.W.nsIn K mainGlobals "abs" =some none) (z17:PySem.W.nsIn K mainGlobals "sum" =some none) (z18:PySem.W.nsIn K mainGlobals "enumerate" =some none) (z19:PySem.W.nsIn K mainGlobals "dict" =some none) {tb1 cc1:Addr}(cde1:cd12= .ref cc1) (hcd1:codeHdIn K cc1 tb1=true) {bmA:Addr}(xb1:PySem.W.nsIn K mainGlobals "__builtins__" =some (some (.ref bmA))) (xb2:K.lookup bmA=some ⟨.type "module",some builtinsNs, .plain,#[]⟩) (xb3:bmA≠builtinsNs) (xb4:bmA≠mainGlobals):
  ∃ fd:FuncData,(∀ (s:Shared) (v:Value),BindsTo s fd ⟨[v],[]⟩ [("script",v)])/\∀ base:Heap,K.In base->base.Ns mainGlobals mg->FnOk l.prog w K mg base CX0 7 fa fd ["script"] (spLaw K tb1):=by
 have e:=hfa.symm.trans (eU X G a22)
 cases e
 have T:Txt mg:=⟨aZ X G z1,aZ X G z2,aZ X G z3,aZ X G z4,aZ X G z5,aZ X G z6,aZ X G z7,aZ X G z8,aZ X G z9,aZ X G z10,aZ X G z11,aZ X G z12,aZ X G z13,aZ X G z14,aZ X G z15,aZ X G z16,aZ X G z17,aZ X G z18,aZ X G z19⟩
 have F1:=jY (st:=jAK) l1 c1 k1
 have b1:=F1.binds (ps:=["thing"]) fun _ _ _ _ _ _ us hl=>lenU1 (P:=fun us=>bindArgs _ ⟨us,[]⟩=pure (List.zip _ us)) hl fun _=>rfl
 have F2:=jY (st:=y3) l2 c2 k2
 have b2:=F2.binds (ps:=["thing"]) fun _ _ _ _ _ _ us hl=>lenU1 (P:=fun us=>bindArgs _ ⟨us,[]⟩=pure (List.zip _ us)) hl fun _=>rfl
 have F3:=jY (st:=jBB) l3 c3 k3
 have b3:=F3.binds (ps:=["thing","many"]) fun _ _ _ _ _ _ us hl=>lenU2 (P:=fun us=>bindArgs _ ⟨us,[]⟩=pure (List.zip _ us)) hl fun _ _=>rfl
 have F4:=jY (st:=sMask) l4 c4 k4
 have b4:=F4.binds (ps:=["lot"]) fun _ _ _ _ _ _ us hl=>lenU1 (P:=fun us=>bindArgs _ ⟨us,[]⟩=pure (List.zip _ us)) hl fun _=>rfl
 have F5:=jY (st:=sCov) l5 c5 k5
 have b5:=F5.binds (ps:=["box","thing"]) fun _ _ _ _ _ _ us hl=>lenU2 (P:=fun us=>bindArgs _ ⟨us,[]⟩=pure (List.zip _ us)) hl fun _ _=>rfl
 have F6:=jY (st:=sRank) l6 c6 k6
 have b6:=F6.binds (ps:=["box","covering"]) fun _ _ _ _ _ _ us hl=>lenU2 (P:=fun us=>bindArgs _ ⟨us,[]⟩=pure (List.zip _ us)) hl fun _ _=>rfl
 have F7:=jY (st:=jZ) l7 c7 k7
 have b7:=F7.binds (ps:=["box"]) fun _ _ _ _ _ _ us hl=>lenU1 (P:=fun us=>bindArgs _ ⟨us,[]⟩=pure (List.zip _ us)) hl fun _=>rfl
 have F8:=jY (st:=sFull) l8 c8 k8
 have b8:=F8.binds (ps:=["choices"]) fun _ _ _ _ _ _ us hl=>lenU1 (P:=fun us=>bindArgs _ ⟨us,[]⟩=pure (List.zip _ us)) hl fun _=>rfl
 have F9:=jY (st:=sAt) l9 c9 k9
 have b9:=F9.binds (ps:=["choices","mask"]) fun _ _ _ _ _ _ us hl=>lenU2 (P:=fun us=>bindArgs _ ⟨us,[]⟩=pure (List.zip _ us)) hl fun _ _=>rfl
 have F10:=jY (st:=sMet) l10 c10 k10
 have b10:=F10.binds (ps:=["choices"]) fun _ _ _ _ _ _ us hl=>lenU1 (P:=fun us=>bindArgs _ ⟨us,[]⟩=pure (List.zip _ us)) hl fun _=>rfl
 have F11:=jY (st:=yO) l11 c11 k11
 have b11:=F11.binds (ps:=["choices","at_end","join"]) fun _ _ _ _ _ _ us hl=>lenU3 (P:=fun us=>bindArgs _ ⟨us,[]⟩=pure (List.zip _ us)) hl fun _ _ _=>rfl
 have F12:=jY (st:=yK) l12 c12 k12
 have b12:=F12.binds (ps:=["choices"]) fun _ _ _ _ _ _ us hl=>lenU1 (P:=fun us=>bindArgs _ ⟨us,[]⟩=pure (List.zip _ us)) hl fun _=>rfl
 have F13:=jY (st:=sMany) l13 c13 k13
 have b13:=F13.binds (ps:=["box"]) fun _ _ _ _ _ _ us hl=>lenU1 (P:=fun us=>bindArgs _ ⟨us,[]⟩=pure (List.zip _ us)) hl fun _=>rfl
 have F14:=jY (st:=yL) l14 c14 k14
 have b14:=F14.binds (ps:=["choices","ways","place"]) fun _ _ _ _ _ _ us hl=>lenU3 (P:=fun us=>bindArgs _ ⟨us,[]⟩=pure (List.zip _ us)) hl fun _ _ _=>rfl
 have F15:=jY (st:=jBC) l15 c15 k15
 have b15:=F15.binds (ps:=["box","number"]) fun _ _ _ _ _ _ us hl=>lenU2 (P:=fun us=>bindArgs _ ⟨us,[]⟩=pure (List.zip _ us)) hl fun _ _=>rfl
 have F16:=jY (st:=jB9) l16 c16 k16
 have b16:=F16.binds (ps:=["choices","ways","rank"]) fun _ _ _ _ _ _ us hl=>lenU3 (P:=fun us=>bindArgs _ ⟨us,[]⟩=pure (List.zip _ us)) hl fun _ _ _=>rfl
 have F17:=jY (st:=jBA) l17 c17 k17
 have b17:=F17.binds (ps:=["box","covering"]) fun _ _ _ _ _ _ us hl=>lenU2 (P:=fun us=>bindArgs _ ⟨us,[]⟩=pure (List.zip _ us)) hl fun _ _=>rfl
 have F18:=jY (st:=sCell) l18 c18 k18
 have b18:=F18.binds (ps:=["script","k"]) fun _ _ _ _ _ _ us hl=>lenU2 (P:=fun us=>bindArgs _ ⟨us,[]⟩=pure (List.zip _ us)) hl fun _ _=>rfl
 have F19:=jY (st:=sPot) l19 c19 k19
 have b19:=F19.binds (ps:=["cell"]) fun _ _ _ _ _ _ us hl=>lenU1 (P:=fun us=>bindArgs _ ⟨us,[]⟩=pure (List.zip _ us)) hl fun _=>rfl
 have F20:=jY (st:=sTake) l20 c20 k20
 have b20:=F20.binds (ps:=["pot","wide"]) fun _ _ _ _ _ _ us hl=>lenU2 (P:=fun us=>bindArgs _ ⟨us,[]⟩=pure (List.zip _ us)) hl fun _ _=>rfl
 have F21:=jY (st:=y9) l21 c21 k21
 have b21:=F21.binds (ps:=["pot","size","may"]) fun _ _ _ _ _ _ us hl=>lenU3 (P:=fun us=>bindArgs _ ⟨us,[]⟩=pure (List.zip _ us)) hl fun _ _ _=>rfl
 have F22:=jY (st:=sLaw) l22 c22 k22
 refine⟨PySem.W.fnOf "law" "law" (jF sLaw) (jB sLaw) (j7 sLaw) .none kV22 dc22 pm22 an22 cd22 ct22,fun s v=> .of_eq rfl,fun base KB _=>?_⟩
 have M:=fun {x:Str}{f:Addr}(a:PySem.W.nsIn K mainGlobals x=some (some (.ref f)))=>eU X G a
 have M':=fun {x:Str}{v:Value}(a:PySem.W.nsIn K mainGlobals x=some (some v))=>eU X G a
 have CD1:PySem.W.CodeHd base cc1 tb1:=g4 KB hcd1
 have FC1:FunC K "ways_of" "ways_of" yK f12 _ cc1:=⟨_,_,_,_,_,_,_,_,rfl,cde1 ▸ l12,cde1 ▸ c12⟩
 have BM:BltAt base mg:=⟨bmA,_,eU X G xb1,xb3,xb4,KB _ _ xb2,rfl,rfl,rfl⟩
 have C1:Can l.prog w K mg base "is_whole" 1 f1 _ ["thing"] spWh:=⟨jIT F1 T,M a1,k1,b1⟩
 have C2:Can l.prog w K mg base "is_rising" 2 f2 _ ["thing"] (spB risB):=⟨jIU F2 T C1,M a2,k2,b2⟩
 have C3:Can l.prog w K mg base "is_lot" 3 f3 _ ["thing","many"] (spB2 lotB):=⟨jKQ F3 T C2,M a3,k3,b3⟩
 have C4:Can l.prog w K mg base "mask_of" 1 f4 _ ["lot"] jEO:=⟨jNH F4 T,M a4,k4,b4⟩
 have C5:Can l.prog w K mg base "is_covering" 4 f5 _ ["box","thing"] jGI:=⟨jNL F5 T C3,M a5,k5,b5⟩
 have C6:Can l.prog w K mg base "rank_of" 2 f6 _ ["box","covering"] jGG:=⟨jNG F6 T,M a6,k6,b6⟩
 have C7:Can l.prog w K mg base "choices_of" 2 f7 _ ["box"] jA9:=⟨jHK F7 T C4,M a7,k7,b7⟩
 have C8:Can l.prog w K mg base "full_mask" 1 f8 _ ["choices"] jCD:=⟨jNK F8 T,M a8,k8,b8⟩
 have C9:Can l.prog w K mg base "choices_at" 1 f9 _ ["choices","mask"] spAt:=⟨ok_at F9 T,M a9,k9,b9⟩
 have C10:Can l.prog w K mg base "masks_met" 2 f10 _ ["choices"] spMet:=⟨jPF F10 T C8 C9,M a10,k10,b10⟩
 have C11:Can l.prog w K mg base "gathered" 4 f11 _ ["choices","at_end","join"] jFO:=⟨FnOk.ex fun x o=>(jNJ F11 T C8 C10 C9 ((jPH o T).mono (by decide)) ZT.st (zhW.ok _ _) (RWay.ok _) o).ok,M a11,k11,b11⟩
 have C12:Can l.prog w K mg base "ways_of" 5 f12 _ ["choices"] (jCC tb1):=⟨jNE FC1 T CD1 BM C11,M a12,k12,b12⟩
 have C13:Can l.prog w K mg base "many" 6 f13 _ ["box"] (jIB tb1):=⟨jNI F13 T C7 C12,M a13,k13,b13⟩
 have C14:Can l.prog w K mg base "covering_along" 2 f14 _ ["choices","ways","place"] jDZ:=⟨jKT F14 T C8 C9,M a14,k14,b14⟩
 have C15:Can l.prog w K mg base "covering_at" 6 f15 _ ["box","number"] (jFP tb1):=⟨jKR F15 T C7 C12 C14,M a15,k15,b15⟩
 have C16:Can l.prog w K mg base "place_of" 2 f16 _ ["choices","ways","rank"] jDY:=⟨jKO F16 T C9,M a16,k16,b16⟩
 have C17:Can l.prog w K mg base "number_of" 6 f17 _ ["box","covering"] (jFN tb1):=⟨jKP F17 T C5 C7 C12 C16 C6,M a17,k17,b17⟩
 have C18:Can l.prog w K mg base "_law_cell_at" 1 f18 _ ["script","k"] (jIC K):=⟨jNM F18 T,M a18,k18,b18⟩
 have C19:Can l.prog w K mg base "_law_pot" 1 f19 _ ["cell"] spPot:=⟨jPE F19 T,M a19,k19,b19⟩
 have C20:Can l.prog w K mg base "_law_take" 1 f20 _ ["pot","wide"] jD1:=⟨jNF F20,M a20,k20,b20⟩
 have C21:Can l.prog w K mg base "_law_block" 2 f21 _ ["pot","size","may"] jFQ:=⟨jKS F21 T C20,M a21,k21,b21⟩
 exact jPG F22 ⟨T,C18,C19,C20,C21,C13,C15,C17⟩
theorem walk {l:PySem.W.OpenLaw}{q:Program}{loose:List Str}{XP:(Str->Option Value)->Heap->Prop}{YP:World->Heap->Prop}{d:DefRec}{K:Params->W.Frag}(hn:l.most=some 63)(hdf:d.params.defaults=[]){tb1:Addr}{cc1:Addr}
  (hY:∀ (w:World) (h:Heap),YP w h->(K w.params).In h/\∀ T∈[tb1],h.get? T=some (tabObj #[])) (hcd:∀ w:World,codeHdIn (K w.params) cc1 tb1=true) (hKT:∀ w:World,∀ T∈[tb1],(K w.params).lookup T=none) (hnd:([tb1]:List Addr).Nodup)
  (F:∀ (w:World) (mg:Str->Option Value) (fa:Addr) (h:Heap),(K w.params).In h->h.Ns mainGlobals mg->mg d.name=some (.ref fa)->
   ∃ fd:FuncData,(∀ (s:Shared) (u:Value),BindsTo s fd ⟨[u],[]⟩ [("script",u)])/\∀ base:Heap,(K w.params).In base->base.Ns mainGlobals mg->FnOk l.prog w (K w.params) mg base CX0 7 fa fd ["script"] (spLaw (K w.params) tb1)):
  PySem.W.WalkO q loose XP YP l.row.toRowW d [] (fun f vs=>PySem.call f vs):=
 L2.walk_ofTs (cts:=[(cc1,tb1)]) (n:=63) (k:=7) (x:= "script") (CX:=fun _=>CX0) (sp:=fun w=>spLaw (K w.params) tb1) hn (by decide) hdf ⟨rfl,by decide,by decide⟩ hY (fun w p hp=>by
  obtain _h0:=hcd w
  simp only [aR,cg,eI] at hp
  rcases hp with rfl <;> assumption) hKT F (fun _ H a ns hl hT hS=>⟨a,ns,rfl,hS,hl, .inl (hT _ aH),fun _=>rfl⟩) fun _ _ _ _ _ z=>z
end Eo
open PySem PySem.W PyProof.Rows
set_option maxRecDepth 100000 in
set_option maxHeartbeats 0 in
theorem PySem.Challenge.cw_eachonce_k16_whole_great_counts_holds : PySem.Challenge.rw_eachonce_k16_whole_great_counts.Holds := by
 w_on
 refine holds_law (by decide+kernel) fun said=>?_
 refine holds_open (q:=Eo.vw) (loose:=[]) (Xt:=fun s=>xlAt Eo.vw [] s&&recOk (RowW.records (OpenRow.toRowW PySem.Challenge.rw_eachonce_k16_whole_great_counts.row)) s) (XP:=XL Eo.vw []) (Yf:=Hook.obs Eo.kH) (Ya:=Hook.val Eo.kH) (YP:=Hook.says Eo.kH) (N:=2500) Eo.left (Hook.of Eo.kH) (Hook.keeps Eo.kH) (fun s e=>xl_of s (eX.mp e).1) XL.keeps (by rfl) (by rfl) (by rfl) (fun s e=>recFacts_of (eX.mp e).2) rfl said (by decide+kernel) ⟨rfl,rfl,rfl,rfl,rfl,by decide+kernel⟩ ?hw ?hc
 case hw=>w_witness2
 refine Eo.walk (l:=PySem.Challenge.rw_eachonce_k16_whole_great_counts) (K:=Eo.kK) rfl rfl (tb1:=106) (cc1:=110) (fun w h Y=>⟨PySem.W.km_in_of Y,PySem.W.km_tabs_of Y⟩) (fun w=>by kernel_rfl) (fun w T hm=>by
   simp only [aR,cg,eI] at hm
   rcases hm with rfl <;> kernel_rfl) (by decide) ?F
 case F=>
  intro w mg fa h KX G hmg
  k_fill
  refine' Eo.all_mk KX G hmg _ _ _ _ _ _ _ _ _ _ _ _ _ _ _ _ _ _ _ _ _ _ _ _ _ _ _ _ _ _ _ _ _ _ _ _ _ _ _ _ _ _ _ _ _ _ _ _ _ _ _ _ _ _ _ _ _ _ _ _ _ _ _ _ _ _ _ _ _ _ _ _ _ _ _ _ _ _ _ _ _ _ _ _ _ _ _ _ _ _ _ _ _ _ _ _ _ _ _ _ _ _ _ _ _ _ _ (tb1:=106) rfl (by kernel_rfl) (bmA:=4) (by kernel_rfl) (by kernel_rfl) (by decide) (by decide)
  all_goals try k_is
end
