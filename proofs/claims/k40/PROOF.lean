import PyProof.Rows.All
import KE.KDictList
import KE.KDictOf
import KE.KFromBytes
import KE.KIsAll
import KE.KItem
import KE.KLam
import KE.KNestM
import PySem.Challenge.RW_eachonce_k40_whole_great_lightest
noncomputable section
set_option Elab.async false
set_option linter.all false
set_option maxRecDepth 100000
def aa:=@PySem.wpAny_bind
def ab:=@List.length_map
def ae:=@PySem.Heap.get?_push_of_some
def af:=@List.getElem?_eq_some_iff
def ag:=@Bool.false_ne_true
def ah:=@List.mem_singleton
def ai:=@List.getElem?_eq_getElem
def aj:=@List.length_append
def ak:=@List.mem_of_getElem?
def am:=@PySem.wpAny_pure
def ao:=@if_pos
def aq:=@List.mem_append
def ar:=@List.getD_eq_getElem?_getD
def aw:=@PyProof.Rows.wpS_bind
def ax:=@if_neg
def ay:=@List.mem_cons_of_mem
def az:=@Nat.le_refl
def aA:=@List.size_toArray
def aB:=@PySem.Heap.lt_size
def aC:=@PyProof.Rows.wpS_pure
def aE:=@PySem.Heap.get?_push_size
def aF:=@List.mem_append_right
def aG:=@List.mem_cons_self
def aH:=@List.mem_cons
def aI:=@List.append_assoc
def aJ:=@List.mem_append_left
def aK:=@decide_eq_true
def aL:=@PySem.sizeLine_eq
def aM:=@decide_eq_false
def aN:=@List.mem_map
def aO:=@List.getElem?_map
def aP:=@Array.length_toList
def aQ:=@List.map_append
def aR:=@of_decide_eq_true
def aS:=@List.getElem?_append_right
def aU:=@List.length_take
def aV:=@PySem.W.mg_none_of
def aW:=@List.append_nil
def aX:=@Nat.lt_of_lt_of_le
def aY:=@Array.toList_append
def aZ:=@List.length_cons
def ba:=@Nat.ne_of_lt
def be:=@List.lookup_cons
def bf:=@List.not_mem_nil
def bg:=@Option.some.inj
def bh:=@List.take_append_drop
def bi:=@PySem.F.plainAttrs_list
def bo:=@decide_eq_true_iff
def bq:=@List.map_cons
def br:=@List.take_add_one
def bu:=@PySem.wpAny_field
def bv:=@List.mem_map_of_mem
def bw:=@List.getElem?_append_left
def bB:=@congrArg
def bC:=@List.take_of_length_le
def bD:=@PyProof.Rows.wpS_forRange
def bE:=@PySem.wpAny_holding
def bF:=@PySem.wpAny_setField_rec
def bG:=@PyProof.Rows.slot_tuple_getitem
def bH:=@Nat.zero_le
def bI:=@List.perm_append_comm
def bJ:=@PySem.wpAny_callSpecial?_slot
def bK:=@List.take_length
def bL:=@Int.toNat_natCast
def bM:=@Classical.byContradiction
def bN:=@PySem.PassesOwn.never
def bO:=@List.getElem?_take_of_lt
def bP:=@List.all_eq_true
def bQ:=@Array.getElem?_toList
def bR:=@List.Perm.append_left
def bS:=@PySem.wpAny_mono
def bU:=@List.mem_filter
def bV:=@PySem.W.kia_one
def bW:=@Nat.le_trans
def bX:=@Int.le_of_lt
def bY:=@List.map_map
def bZ:=@List.pairwise_iff_getElem
def b0:=@Nat.testBit_or
def cb:=@List.pairwise_cons
def cc:=@PySem.wpAny_call_entry
def ce:=@List.getElem?_of_mem
def cf:=@Int.le_refl
def cg:=@Nat.add_sub_cancel_left
def ci:=@Nat.testBit_two_pow_sub_one
def cj:=@List.idxOf_lt_length_of_mem
def ck:=@Nat.lt_irrefl
def cm:=@List.mem_range
def cq:=@PySem.wpAny_newObj_type
def cr:=@PySem.Heap.size_push
def cw:=@Nat.mod_two_eq_zero_or_one
def cy:=@beq_eq_false_iff_ne
def cz:=@PySem.mem_of_lookup
def cA:=@List.nodup_cons
def cB:=@PySem.wpAny_loadPart'
def cC:=@List.getElem?_eq_none
def cD:=@PyProof.Rows.wpS_mono
def cE:=@List.mem_of_mem_take
def cF:=@Array.toList_reverse
def cG:=@List.take_sublist
def cH:=@List.mem_singleton_self
def cI:=@List.replicate_succ
def cJ:=@or_false
def cK:=@List.length_take_le
def cL:=@Ne.symm
def cM:=@PyProof.Rows.callWith_type1
def cN:=@Int.le_trans
def cO:=@List.length_drop
def cP:=@Bool.and_eq_true
def cQ:=@PySem.wpAny_Call_Name_kw
def cR:=@PySem.wpAny_seqItems
def cS:=@PySem.wpAny_rule
def cU:=@List.getElem?_drop
def cV:=@Array.perm_iff_toList_perm
def cW:=@List.extract_eq_take_drop
def cX:=@PySem.wpAny_passesOwn
def cY:=@Bool.eq_iff_iff
def cZ:=@PySem.wpAny_truthy_bool
def da:=@PySem.wpAny_pyIter_list
def db:=@List.nodup_append
def dc:=@List.pairwise_append
def de:=@List.pairwise_map
def df:=@PySem.wpAny_standAt
def dh:=@List.sum_cons
def di:=@PySem.F.slot_list_append
def dk:=@PySem.F.type_list_append
def dm:=@Nat.testBit_two_pow
def dn:=@List.getElem_mem
def dq:=@decide_eq_false_iff_not
def dv:=@Nat.ne_of_gt
def dw:=@PyProof.Rows.wpS_modify
def dy:=@List.filter_append
def dz:=@List.of_mem_zip
def dB:=@List.length_nil
def dC:=@List.find?_cons
def dD:=@List.length_filter_le
def dE:=@Array.toList_push
def dF:=@List.length_range
def dG:=@PySem.sizeLine_eq
def dH:=@List.drop_zero
def dI:=@List.mem_of_mem_drop
def dJ:=@Nat.pow_le_pow_right
def dM:=@Nat.le_add_right
def dN:=@Nat.testBit_zero
def dO:=@List.filter_cons
def dP:=@Nat.zero_testBit
def dQ:=@List.reverse_append
def dR:=@List.map_congr_left
def dS:=@PySem.F.args_tuple_add_2
def dU:=@List.Pairwise.imp_of_mem
def dW:=@Nat.two_pow_pos
def dX:=@List.getElem_idxOf
def dY:=@PySem.F.entry_tuple_add
def dZ:=@PySem.codeAny_mono
def d0:=@PySem.W.cellsFrom_some
def ed:=@PySem.F.slot_tuple_add
def eg:=@PySem.Heap.get?_update_other
def eh:=@List.flatten_cons
def ek:=@Nat.lt_succ_of_lt
def em:=@List.drop_eq_nil_of_le
def ev:=@List.Perm.append_right
def eB:=@PySem.call_meets
def eC:=@List.any_cons
def eE:=@PySem.W.mg_of
def eF:=@PySem.wpAny_attempt
def eG:=@List.map_take
def eJ:=@PySem.wpAny_updateSeq_pair
def eL:=@Array.toArray_toList
def eN:=@Array.toList_extract
def eQ:=@List.eq_nil_of_length_eq_zero
def eR:=@Bool.and_eq_true_iff
def eS:=@Nat.eq_of_testBit_eq
def eU:=@Bool.or_eq_false_iff
def eV:=@PySem.wpAny_execs_nil
def eW:=@PySem.codeAny_builtin
def eX:=@Nat.testBit_and
def eY:=@List.countP_eq_length_filter
def eZ:=@List.filterMap_cons
def fb:=@List.getElem?_range
def fc:=@Nat.le_of_lt
def fe:=@if_true
def ff:=@Bool.or_true
def fg:=@PyProof.Rows.wpS_get
def fh:=@Nat.sub_self
def fi:=@PySem.Calls.Name_function_global
def fj:=@PySem.wpAny_newFunctionEnv_cells
def fk:=@PySem.tupleKind_room_in1
def fm:=@List.drop_drop
def fo:=@List.take_zero
def fq:=@Array.toList_setIfInBounds
def ft:=@List.nodup_nil
def fu:=@List.perm_append_singleton
def fw:=@List.drop_eq_getElem_cons
def fz:=@Bool.not_eq_true'
def fD:=@List.ext_getElem?
def fE:=@List.Pairwise.and
def fH:=@PySem.wpAny_onRaise
def fJ:=@PySem.wpAny_newList
def fK:=@PyProof.Rows.listUpdate_at
def fN:=@PySem.F.slot_list_insert
def fO:=@PySem.F.type_list_insert
def fQ:=@List.getElem?_replicate
def fS:=@PySem.noFill_tuple_add
def fX:=@if_false
def fY:=@List.zipIdx_cons
def fZ:=@List.cons_append
def ga:=@PySem.F.plain_list_iadd
def gc:=@PyProof.Rows.wpS_lift
def gd:=@List.length_eq_zero_iff
def ge:=@List.pairwise_singleton
def gf:=@PySem.F.slot_list_index
def gh:=@PySem.F.type_list_index
def gj:=@List.getElem?_set_self
def gk:=@PySem.wpAny_typeOf
def gq:=@List.map_nil
def gt:=@List.nil_append
def gu:=@List.forIn_cons
def gw:=@List.Perm.of_eq
def gx:=@List.range_succ
def gy:=@and_congr_right
def gz:=@Nat.min_eq_left
def gA:=@List.length_replicate
def gB:=@List.length_singleton
def gC:=@List.set_append_right
def gE:=@Sum.inl.inj
def gF:=@List.getElem?_set_ne
def gG:=@Bool.and_false
def gH:=@PySem.wpAny_letGo
def gI:=@PySem.wpAny_newTuple
def gJ:=@Nat.le_succ
def gK:=@Nat.pow_lt_pow_right
def gL:=@List.reverse_reverse
def gM:=@PySem.W.codeHd_of_K
def gN:=@List.map_eq_nil_iff
def gO:=@List.all_cons
def gP:=@Bool.false_or
def gQ:=@PySem.wpAny_load
def gR:=@List.mem_filterMap
def gS:=@PySem.W.callWith_K
def gU:=@PySem.W.codeRec_of
def gW:=@Nat.lt_of_le_of_lt
def gX:=@Int.natCast_nonneg
def gY:=@Bool.false_eq_true
def gZ:=@List.zip_cons_cons
def g4:=@of_decide_eq_false
def g5:=@beq_iff_eq
def g6:=@Nat.add_sub_cancel
def g7:=@Nat.pos_of_ne_zero
def g8:=@List.getElem?_take
def g9:=@Nat.add_comm
def hG:=@Nat.add_zero
def hV:=@Nat.sub_zero
def h9:=@Int.sub_zero
open PySem.W (codeHdIn envX findIn fnMade instObj keepIn kitOne kitx_dict kitx_list lookIn methodObj mg_of mroIn plainGet tabObj)
open List (map_id replicate)
open Nat (strongRecOn)
open Option (getD_none isSome_map)
section
namespace L2
open PySem PySem.Spec PyProof.Rows
def jI (s:Stmt):Arguments:=match s with
 | .FunctionDef _ a _ _ _ _ _ _ _ _=>a
 | _=> { posonlyargs:=[],args:=[],vararg:=none,kwonlyargs:=[],kw_defaults:=[],kwarg:=none,defaults:=[]}
def jB (s:Stmt):List Stmt:=match s with
 | .FunctionDef _ _ b _ _ _ _ _ _ _=>b
 | _=> []
def j5 (s:Stmt):Scope:=match s with
 | .FunctionDef _ _ _ _ _ _ sc _ _ _=>sc
 | _=> { kind:= .function,names:=[],isGenerator:=false,isCoroutine:=false}
end L2
end
section
namespace Eo
open PySem L2
noncomputable def top (i:Nat):Stmt:=PySem.Challenge.pw_eachonce_k40_whole_great_lightest.main.body.getD i (.Pass ⟨0,0,0,0⟩)
abbrev sMask:Stmt:=top 1
abbrev jW:Stmt:=top 3
abbrev sFull:Stmt:=top 4
abbrev sAt:Stmt:=top 5
abbrev sMet:Stmt:=top 6
abbrev yT:Stmt:=top 7
abbrev kS:Stmt:=top 9
abbrev sCell:Stmt:=top 11
abbrev sPot:Stmt:=top 12
abbrev sTake:Stmt:=top 13
abbrev y9:Stmt:=top 14
abbrev jBF:Stmt:=top 15
abbrev sUpto:Stmt:=top 16
abbrev kY:Stmt:=top 17
abbrev kE:Stmt:=top 18
abbrev jX:Stmt:=top 19
abbrev sLaw:Stmt:=top 20
noncomputable def kC (x:Str)(t:Nat)(l n:Int)(a:Nat)(X Y:Value)(z:Nat)(u:Int)(v:Nat):Obj:=⟨.type "code",none, .fields #[.str x t, .str x (t+1), .str "/claim/cut.py" (t+2), .int l 0, .int n 0, .int 0 0, .int 0 0, .int 3 0, .ref a, .bool true, .int 181 0, .ref (a+1), .none,X,Y, .ref z, .int u 0, .int l 0, .str "/claim/cut.py" v],#[]⟩
noncomputable def kF (x:Str)(s:Stmt)(m:Str)(t c:Nat):Obj:=⟨.type "function",none, .func (PySem.W.fnOf x x (jI s) (jB s) (j5 s) .none .none .none (.str m t) none (.ref c) .none),#[]⟩
noncomputable def kM (P:Params):Obj:=
 let e (x:Str) (t:Nat) (v:Value):DictEntry:=⟨PyData.keyHash P x, .str x t,v⟩
 ⟨.type "dict",none, .dict #[e "__name__" 165 (.str "law_eachonce_k40_whole_great_lightest" 247),e "__doc__" 166 (.none),e "__package__" 167 (.none),e "__loader__" 168 (.builtin "__main__.__loader__#opaque"),e "__spec__" 169 (.none),e "__annotations__" 170 (.ref 6),e "__builtins__" 171 (.ref 4),e "__file__" 173 (.str "/claim/cut.py" 172),e "__cached__" 174 (.none),e "mask_of" 194 (.ref 19),e "choices_of" 202 (.ref 24),e "full_mask" 209 (.ref 31),e "choices_at" 215 (.ref 36),e "masks_met" 228 (.ref 43),e "gathered" 234 (.ref 48),e "lightest" 246 (.ref 55),e "_law_cell_at" 256 (.ref 62),e "_law_pot" 266 (.ref 69),e "_law_take" 275 (.ref 76),e "_law_covers" 281 (.ref 81),e "_law_whole" 288 (.ref 88),e "_law_upto" 297 (.ref 95),e "_law_right_covering" 303 (.ref 100),e "_law_block" 309 (.ref 105),e "_law_blocks" 315 (.ref 110),e "law" 321 (.ref 115)] 26,#[]⟩
noncomputable def kK (P:Params):W.Frag:=(nat_lit 3,kM P)::(nat_lit 4,⟨.type "module",some 0, .plain,#[]⟩)::(nat_lit 18,kC "mask_of" 189 2 1 15 (.none) (.none) 17 192 193)::(nat_lit 19,kF "mask_of" sMask "eachonce.kinds" 187 18)::(nat_lit 23,kC "choices_of" 197 5 1 20 (.none) (.none) 22 200 201)::(nat_lit 24,kF "choices_of" jW "eachonce.coverings" 195 23)::(nat_lit 30,kC "full_mask" 203 10 1 25 (.ref 27) (.ref 28) 29 207 208)::(nat_lit 31,kF "full_mask" sFull "eachonce.coverings" 195 30)::(nat_lit 35,kC "choices_at" 210 12 2 32 (.none) (.none) 34 213 214)::(nat_lit 36,kF "choices_at" sAt "eachonce.coverings" 195 35)::(nat_lit 42,kC "masks_met" 216 15 1 37 (.ref 39) (.ref 40) 41 226 227)::(nat_lit 43,kF "masks_met" sMet "eachonce.coverings" 195 42)::(nat_lit 47,kC "gathered" 229 27 3 44 (.none) (.none) 46 232 233)::(nat_lit 48,kF "gathered" yT "eachonce.coverings" 195 47)::(nat_lit 54,kC "lightest" 237 37 1 49 (.ref 51) (.ref 52) 53 244 245)::(nat_lit 55,kF "lightest" kS "eachonce.lightest" 235 54)::(nat_lit 61,kC "_law_cell_at" 249 52 2 56 (.ref 58) (.ref 59) 60 254 255)::(nat_lit 62,kF "_law_cell_at" sCell "law_eachonce_k40_whole_great_lightest" 247 61)::(nat_lit 68,kC "_law_pot" 257 56 1 63 (.ref 65) (.ref 66) 67 264 265)::(nat_lit 69,kF "_law_pot" sPot "law_eachonce_k40_whole_great_lightest" 247 68)::(nat_lit 75,kC "_law_take" 267 65 2 70 (.ref 72) (.ref 73) 74 273 274)::(nat_lit 76,kF "_law_take" sTake "law_eachonce_k40_whole_great_lightest" 247 75)::(nat_lit 80,kC "_law_covers" 276 69 2 77 (.none) (.none) 79 279 280)::(nat_lit 81,kF "_law_covers" y9 "law_eachonce_k40_whole_great_lightest" 247 80)::(nat_lit 87,kC "_law_whole" 282 75 1 82 (.ref 84) (.ref 85) 86 286 287)::(nat_lit 88,kF "_law_whole" jBF "law_eachonce_k40_whole_great_lightest" 247 87)::(nat_lit 94,kC "_law_upto" 289 77 3 89 (.ref 91) (.ref 92) 93 295 296)::(nat_lit 95,kF "_law_upto" sUpto "law_eachonce_k40_whole_great_lightest" 247 94)::(nat_lit 99,kC "_law_right_covering" 298 79 2 96 (.none) (.none) 98 301 302)::(nat_lit 100,kF "_law_right_covering" kY "law_eachonce_k40_whole_great_lightest" 247 99)::(nat_lit 104,kC "_law_block" 304 83 4 101 (.none) (.none) 103 307 308)::(nat_lit 105,kF "_law_block" kE "law_eachonce_k40_whole_great_lightest" 247 104)::(nat_lit 109,kC "_law_blocks" 310 96 1 106 (.none) (.none) 108 313 314)::(nat_lit 110,kF "_law_blocks" jX "law_eachonce_k40_whole_great_lightest" 247 109)::(nat_lit 114,kC "law" 316 119 1 111 (.none) (.none) 113 319 320)::(nat_lit 115,kF "law" sLaw "law_eachonce_k40_whole_great_lightest" 247 114)::[]
noncomputable def kA:List Addr:=[3,4,18,19,23,24,30,31,35,36,42,43,47,48,54,55,61,62,68,69,75,76,80,81,87,88,94,95,99,100,104,105,109,110,114,115]
noncomputable def vw:Program:= { PySem.Challenge.pw_eachonce_k40_whole_great_lightest with main:= { PySem.Challenge.pw_eachonce_k40_whole_great_lightest.main with body:=[top 1,top 3,top 4,top 5,top 6,top 7,top 9,top 11,top 12,top 13,top 14,top 15,top 16,top 17,top 18,top 19,top 20]}}
theorem kA_eq:∀ P,kA=(kK P).map (·.1):=fun _=>by kernel_rfl
noncomputable abbrev kH:PySem.W.Hook:=PySem.W.kmHook kK kA kA_eq [50]
set_option maxHeartbeats 0 in
theorem left:PySem.W.LeftO PySem.Challenge.rw_eachonce_k40_whole_great_lightest.prog vw [] (fun s=>PySem.W.xlAt vw [] s&&PySem.W.recOk (PySem.W.RowW.records (PySem.W.OpenRow.toRowW PySem.Challenge.rw_eachonce_k40_whole_great_lightest.row)) s) (PySem.W.Hook.obs kH) (PySem.W.Hook.val kH) 2900:=fun w=>by kernel_rfl
end Eo
end
section
namespace L2
open PySem PySem.Spec PyProof.Rows
abbrev Key:=Sum Int Str
def keyIs:Key->Value->Bool
 | .inl k,v=>Value.isInt k v
 | .inr x,v=>Value.isStrOf x v
def keyH (w:World):Key->Int
 | .inl k=>hashInt k
 | .inr x=>hashStr w x
theorem jA1:∀ {k:Key}{v:Value},keyIs k v=true->(∃ i t,k=Sum.inl i/\v=Value.int i t)\/(∃ x t,k=Sum.inr x/\v=Value.str x t)
 | .inl i,v,h=>by
  obtain⟨t,e⟩:=Value.isInt_shape (k:=i) (v:=v) h
  exact .inl ⟨i,t,rfl,e⟩
 | .inr x,v,h=>by
  obtain⟨t,e⟩:=Value.isStrOf_shape (x:=x) (v:=v) h
  exact .inr ⟨x,t,rfl,e⟩
theorem jIP (i:Int)(t:Tok):keyIs (.inl i) (.int i t)=true:=by simp [keyIs,Value.isInt]
theorem jIO (x:Str)(t:Tok):keyIs (.inr x) (.str x t)=true:=by simp [keyIs,Value.isStrOf]
theorem jPF (a b:Int):decide ((Sum.inl a:Key)=Sum.inl b)=(a==b):=by
 by_cases e:a=b
 ·subst e; simp
 ·have h:¬ (Sum.inl a:Key)=Sum.inl b:=fun q=>e (gE q)
  rw[aM h]
  exact(cy.mpr e).symm
theorem jPC (a b:Str):decide ((Sum.inr a:Key)=Sum.inr b)=decide (a=b):=by
 by_cases e:a=b
 ·subst e; simp
 ·have h:¬ (Sum.inr a:Key)=Sum.inr b:=fun q=>e (Sum.inr.inj q)
  rw[aM h,aM e]
theorem jPE (a:Int)(b:Str):decide ((Sum.inl a:Key)=Sum.inr b)=false:=aM (fun q=>nomatch q)
theorem jPD (a:Str)(b:Int):decide ((Sum.inr a:Key)=Sum.inl b)=false:=aM (fun q=>nomatch q)
def jY (prog:Program)(w:World):PySem.KeyKind prog w Key where
 is:=keyIs
 hash:=keyH w
 inj:=fun v a b ha hb=>by
  rcases jA1 ha with ⟨i,t,rfl,rfl⟩ | ⟨x,t,rfl,rfl⟩
  ·rcases jA1 hb with ⟨j,u,rfl,e⟩ | ⟨y,u,rfl,e⟩
   ·injection e with e1 _; rw[e1]
   ·exact nomatch e
  ·rcases jA1 hb with ⟨j,u,rfl,e⟩ | ⟨y,u,rfl,e⟩
   ·exact nomatch e
   ·injection e with e1 _; rw[e1]
 byValue:=fun k v h=>by
  rcases jA1 h with ⟨i,t,rfl,rfl⟩ | ⟨x,t,rfl,rfl⟩ <;> rfl
 pyHash:=fun hv h=>by
  rcases jA1 hv with ⟨i,t,rfl,rfl⟩ | ⟨x,t,rfl,rfl⟩
  ·exact wpAny_pyHash_int h
  ·exact wpAny_pyHash_str h
 eqBool:=fun hu hv h=>by
  rcases jA1 hu with ⟨i,t,rfl,rfl⟩ | ⟨x,t,rfl,rfl⟩
  ·rcases jA1 hv with ⟨j,u,rfl,rfl⟩ | ⟨y,u,rfl,rfl⟩
   ·rw[jPF] at h; exact wpAny_eqBool_int h
   ·rw[jPE] at h; exact SeqAt.EqAt.int_str i t y u _ _ _ _ h
  ·rcases jA1 hv with ⟨j,u,rfl,rfl⟩ | ⟨y,u,rfl,rfl⟩
   ·rw[jPD] at h; exact SeqAt.EqAt.str_int x t j u _ _ _ _ h
   ·rw[jPC] at h; exact wpAny_eqBool_str h
 «strs»:=fun k x t v h=>by
  rcases jA1 h with ⟨i,u,rfl,e⟩ | ⟨y,u,rfl,e⟩
  ·exact nomatch e
  ·injection e with e1 _
   subst e1
   cases v <;> rfl
theorem jFT (prog:Program)(w:World)(i:Int)(t:Tok):(jY prog w).is (.inl i) (.int i t)=true:=jIP i t
theorem jFS (prog:Program)(w:World)(x:Str)(t:Tok):(jY prog w).is (.inr x) (.str x t)=true:=jIO x t
end L2
namespace L2
open PySem PySem.Spec PyProof.Rows
inductive V where
 | non | bl (b:Bool) | int (i:Int) | str (x:Str) | byt (b:Array UInt8) | flt (b:UInt64) | ref (a:Addr) | ty (n:String)
 deriving DecidableEq
def RelV:V->Value->Prop
 | .non,u=>u=Value.none
 | .bl b,u=>u=Value.bool b
 | .int i,u=>∃ t,u=Value.int i t
 | .str x,u=>∃ t,u=Value.str x t
 | .byt b,u=>∃ t,u=Value.bytes b t
 | .flt b,u=>∃ t,u=Value.float b t
 | .ref a,u=>u=Value.ref a
 | .ty n,u=>u=Value.type n
abbrev Vals:List V->List Value->Prop:=Paired RelV
theorem Vals.length {xs:List V}{us:List Value}(r:Vals xs us):xs.length=us.length:=Paired.length r
theorem Vals.get:∀ {xs:List V}{us:List Value}{i:Nat}{x:V},Vals xs us->xs[i]?=some x->∃ u,us[i]?=some u/\RelV x u
 | _,_,_,_, .nil,e=>by simp at e
 | _,_,0,_, .cons r _,e=>by simp at e; subst e; exact⟨_,rfl,r⟩
 | _,_,i+1,x, .cons _ t,e=>by
  obtain⟨u,h1,h2⟩:=Vals.get (i:=i) (x:=x) t (by simpa using e)
  exact⟨u,by simpa using h1,h2⟩
theorem Vals.set {x:V}{u:Value}(r:RelV x u):∀ {xs:List V}{us:List Value}(i:Nat),Vals xs us->Vals (xs.set i x) (us.set i u)
 | _,_,_, .nil=> .nil
 | _,_,0, .cons _ t=> .cons r t
 | _,_,i+1, .cons q t=> .cons q (Vals.set r i t)
theorem Vals.append:∀ {xs ys:List V}{us ws:List Value},Vals xs us->Vals ys ws->Vals (xs++ys) (us++ws)
 | _,_,_,_, .nil,s=>s
 | _,_,_,_, .cons r t,s=> .cons r (Vals.append t s)
theorem Vals.take:∀ {xs:List V}{us:List Value}(n:Nat),Vals xs us->Vals (xs.take n) (us.take n)
 | _,_,0,_=> .nil
 | _,_,_+1, .nil=> .nil
 | _,_,n+1, .cons r t=> .cons r (Vals.take n t)
theorem Vals.drop:∀ {xs:List V}{us:List Value}(n:Nat),Vals xs us->Vals (xs.drop n) (us.drop n)
 | _,_,0,r=>r
 | _,_,_+1, .nil=> .nil
 | _,_,n+1, .cons _ t=>Vals.drop n t
def RelO:Option V->Option Value->Prop
 | some v,some u=>RelV v u
 | none,none=>True
 | _,_=>False
def KV {κ:Type} :List (κ×V)->List (κ×Value)->Prop:=Paired fun (p:κ×V) (q:κ×Value)=>p.1=q.1/\RelV p.2 q.2
noncomputable def kV:Key->V
 | .inl i=> .int i
 | .inr x=> .str x
def TupO (h:Heap)(a:Addr)(items:Array Value):Prop:=∃ n,h.get? a=some { cls:= .type "tuple",data:= .seq items n}
theorem TupO.isTup {h:Heap}{a:Addr}{items:Array Value}(x:TupO h a items):IsTup h a items:=let ⟨n,e⟩:=x; ⟨_,e,rfl,n,rfl⟩
theorem TupO.new (h:Heap)(items:Array Value):TupO (h.push { cls:= .type "tuple",data:= .seq items}) h.objs.size items:=⟨0,aE _ rfl⟩
inductive HO where
  | lst (xs:List V)
  | tup (xs:List V)
  | dK (kvs:List (Key×V)) | dT (kvs:List (List Key×V))
  | set (S:Int->Bool) (n:Nat)
  | ins (C dx:Addr) (fs:List (Str×V))
  | own (x:Addr)
  | xd (fs:List (Str×V))
  | met (f x:Addr)
  | rng (lo hi:Int)
  | frz (o:Obj) (u:HO)
  | tbl (ps:Array Value)
  | ext (φ:Heap->Prop)
abbrev Hp:=Addr->Option HO
def upd (H:Hp)(a:Addr)(o:HO):Hp:=fun b=>if b=a then some o else H b
theorem j6 {H:Hp}{a:Addr}{o:HO} :upd H a o a=some o:=by unfold upd; rw[ao rfl]
theorem j8 {H:Hp}{a b:Addr}{o:HO}(h:b≠a):upd H a o b=H b:=by unfold upd; rw[ax h]
theorem ne_of {H:Hp}{a b:Addr}{o u:HO}(h:H a=some o)(h':H b=some u)(d:o≠u):a≠b:=by
 intro e; subst e; rw[h] at h'; exact d (bg h')
theorem jC {H:Hp}{a b:Addr}{o:HO}(h:H a=some o)(h':H b=none):a≠b:=by
 intro e; subst e; rw[h] at h'; cases h'
section
variable (P:Program)(w:World)
def ObjOk (H:Hp)(h:Heap)(a:Addr):HO->Prop
 | .lst xs=>xs.length<=sizeLine/\∃ (its:List Value) (n:Nat),Vals xs its/\h.get? a=some { cls:= .type "list",data:= .seq its.toArray n}
 | .tup xs=>xs.length<=sizeLine/\∃ its:List Value,Vals xs its/\TupO h a its.toArray
 | .dK kvs=>kvs.length<=sizeLine/\(a==sysModules)=false/\∃ vs,KV kvs vs/\h.DictOf (jY P w) a vs
 | .dT kvs=>kvs.length<=sizeLine/\(a==sysModules)=false/\∃ xs:List (List Key×Addr×Value),
   Paired (fun (p:List Key×V) (q:List Key×Addr×Value)=>p.1=q.1/\H q.2.1=some (.tup (p.1.map kV))/\RelV p.2 q.2.2) kvs xs/\
   ∃ o es ep,h.get? a=some o/\o.ExactDict/\o.data= .dict es ep/\es.toList=xs.map (entryOfKey (tupleKind (jY P w)))/\(xs.map (·.1)).Nodup
 | .set S n=>h.SetOf (intKind P w) a S n
 | .ins C dx fs=>H dx=some (.own a)/\fs.length<=1000/\dx≠a/\h.get? a=some (instObj C dx)/\
   ∃ mA,h.Ns1 dx mA/\(∀ f,RelO (fs.lookup f) (mA f))/\PySem.Within mA (fs.map (·.1))
 | .own _=>∃ o,h.get? a=some o
 | .xd fs=>∃ mA,h.Ns1 a mA/\∀ f,RelO (fs.lookup f) (mA f)
 | .rng lo hi=>∃ t u v,h.get? a=some { cls:= .type "range",data:= .fields #[.int lo t, .int hi u, .int 1 v]}
 | .frz o u=>h.get? a=some o/\ObjOk H h a u
 | .tbl ps=>h.get? a=some { cls:= .none,data:= .fields ps}
 | .met f x=>h.get? a=some (methodObj (.ref f) (.ref x))
 | .ext φ=>φ h/\(∃ o,h.get? a=some o)/\∀ h1 h2:Heap,φ h1->(∀ o,h1.get? a=some o->h2.get? a=some o)->φ h2
def HOk (H:Hp)(h:Heap):Prop:=∀ a o,H a=some o->ObjOk P w H h a o
end
section
variable {P:Program}{w:World}{H H':Hp}{h h':Heap}{a:Addr}{o:HO}
theorem ObjOk.lt (x:ObjOk P w H h a o):a<h.objs.size:=by
 cases o with
 | lst xs=>obtain⟨_,_,_,_,e⟩:=x; exact aB e
 | tup xs=>obtain⟨_,_,_,_,e⟩:=x; exact aB e
 | dK kvs=>obtain⟨_,_,_,_,o,_,_,e,_⟩:=x; exact aB e
 | dT kvs=>obtain⟨_,_,_,_,o,_,_,e,_⟩:=x; exact aB e
 | set S n=>obtain⟨o,_,_,_,e,_⟩:=x; exact aB e
 | ins C dx fs=>obtain⟨_,_,_,e,_⟩:=x; exact aB e
 | own y=>obtain⟨_,e⟩:=x; exact aB e
 | xd fs=>obtain⟨_,⟨_,_,_,e,_⟩,_⟩:=x; exact aB e
 | rng lo hi=>obtain⟨_,_,_,e⟩:=x; exact aB e
 | frz ob u=>obtain⟨e,_⟩:=x; exact aB e
 | tbl ps=>exact aB (show h.get? a=some _ from x)
 | met f y=>exact aB (show h.get? a=some _ from x)
 | ext φ=>obtain⟨_,⟨_,e⟩,_⟩:=x; exact aB e
theorem Paired.mapP {α β:Type}{F G:α->β->Prop} :∀ {l₁:List α}{l₂:List β},Paired F l₁ l₂->(∀ a b,F a b->G a b)->Paired G l₁ l₂
 | _,_, .nil,_=> .nil
 | _,_, .cons r t,f=> .cons (f _ _ r) (Paired.mapP t f)
theorem ObjOk.stay (x:ObjOk P w H h a o)(k:∀ b u,(b=a\/H b=some (.own a))->h.get? b=some u->h'.get? b=some u)
  (ho:∀ b,H b=some (.own a)->H' b=some (.own a)) (ht:∀ b xs,H b=some (.tup xs)->H' b=some (.tup xs)):ObjOk P w H' h' a o:=by
 induction o with
 | lst xs=>obtain⟨z,its,n,r,e⟩:=x; exact⟨z,its,n,r,k _ _ (.inl rfl) e⟩
 | tup xs=>obtain⟨z,its,r,n,e⟩:=x; exact⟨z,its,r,n,k _ _ (.inl rfl) e⟩
 | dK kvs=>obtain⟨z,y,vs,r,ob,es,ep,e,c⟩:=x; exact⟨z,y,vs,r,ob,es,ep,k _ _ (.inl rfl) e,c⟩
 | dT kvs=>
  obtain⟨z,y,xs,r,ob,es,ep,e,c⟩:=x
  exact⟨z,y,xs,Paired.mapP r fun p q z=>⟨z.1,ht _ _ z.2.1,z.2.2⟩,ob,es,ep,k _ _ (.inl rfl) e,c⟩
 | set S n=>obtain⟨ob,es,ep,t,e,c⟩:=x; exact⟨ob,es,ep,t,k _ _ (.inl rfl) e,c⟩
 | ins C dx fs=>
  obtain⟨d,z,ne,e,mA,⟨od,es,ep,e2,c⟩,r⟩:=x
  exact⟨ho _ d,z,ne,k _ _ (.inl rfl) e,mA,⟨od,es,ep,k _ _ (.inr d) e2,c⟩,r⟩
 | own y=>obtain⟨ob,e⟩:=x; exact⟨ob,k _ _ (.inl rfl) e⟩
 | xd fs=>obtain⟨mA,⟨od,es,ep,e,c⟩,r⟩:=x; exact⟨mA,⟨od,es,ep,k _ _ (.inl rfl) e,c⟩,r⟩
 | rng lo hi=>obtain⟨t,u,v,e⟩:=x; exact⟨t,u,v,k _ _ (.inl rfl) e⟩
 | frz ob u ih=>obtain⟨e,q⟩:=x; exact⟨k _ _ (.inl rfl) e,ih q⟩
 | tbl ps=>
  have e:h.get? a=some { cls:= .none,data:= .fields ps} :=x
  show h'.get? a=some { cls:= .none,data:= .fields ps}
  exact k a _ (.inl rfl) e
 | met f y=>
  have e:h.get? a=some (methodObj (.ref f) (.ref y)):=x
  show h'.get? a=some (methodObj (.ref f) (.ref y))
  exact k a _ (.inl rfl) e
 | ext φ=>obtain⟨p,⟨o,e⟩,st⟩:=x; exact⟨st _ _ p fun o q=>k _ _ (.inl rfl) q,⟨o,k _ _ (.inl rfl) e⟩,st⟩
theorem HOk.lt (x:HOk P w H h)(e:H a=some o):a<h.objs.size:=(x a o e).lt
theorem HOk.fresh (x:HOk P w H h)(e:h.objs.size<=a):H a=none:=by
 cases q:H a with
 | none=>rfl
 | some u=>exact absurd (aX (x.lt q) e) (ck _)
theorem HOk.kept (x:HOk P w H h)(k:∀ b u,h.get? b=some u->h'.get? b=some u):HOk P w H h':=fun a o e=>
 (x a o e).stay (fun b u _ q=>k b u q) (fun _ q=>q) fun _ _ q=>q
theorem HOk.laid (x:HOk P w H h)(k:∀ b u,h.get? b=some u->h'.get? b=some u)(hp:h.objs.size<=a)(new:ObjOk P w (upd H a o) h' a o):HOk P w (upd H a o) h':=fun b u e=>by
 have hn:=x.fresh hp
 by_cases hb:b=a
 ·subst hb; rw[j6] at e; cases e; exact new
 ·rw[j8 hb] at e
  exact(x b u e).stay (fun c v _ q=>k c v q) (fun c q=>by rw[j8 (jC q hn)]; exact q) fun c xs q=>by rw[j8 (jC q hn)]; exact q
end
def Rd (H:Hp)(a:Addr)(u:HO):Prop:=H a=some u\/∃ o,H a=some (.frz o u)
theorem Rd.ok {P:Program}{w:World}{H:Hp}{h:Heap}{a:Addr}{u:HO}(r:Rd H a u)(x:HOk P w H h):ObjOk P w H h a u:=by
 rcases r with r | ⟨o,r⟩
 ·exact x a u r
 ·obtain⟨_,q⟩:=x a _ r
  exact q
def Mut:Option HO->Prop
 | some (.lst _)=>True
 | some (.dK _)=>True
 | some (.dT _)=>True
 | some (.set _ _)=>True
 | some (.ins _ _ _)=>True
 | some (.ext _)=>True
 | _=>False
section
variable {P:Program}{w:World}{H:Hp}{h h':Heap}{x e:Addr}{o':HO}
theorem HOk.write (ok:HOk P w H h)(mu:Mut (H x))(he:e=x\/H e=some (.own x))(k:∀ b u,b≠e->h.get? b=some u->h'.get? b=some u)(heo:∃ u,h'.get? e=some u)
  (new:ObjOk P w (upd H x o') h' x o'):HOk P w (upd H x o') h':=fun b u q=>by
 have nown:∀ c y,H c=some (.own y)->c≠x:=fun c y r z=>by subst z; rw[r] at mu; exact mu
 have ntup:∀ c xs,H c=some (.tup xs)->c≠x:=fun c xs r z=>by subst z; rw[r] at mu; exact mu
 by_cases hb:b=x
 ·subst hb; rw[j6] at q; cases q; exact new
 ·rw[j8 hb] at q
  by_cases hbe:b=e
  ·have q':H b=some (.own x):=by
    rcases he with z | z
    ·exact absurd (hbe.trans z) hb
    ·rw[hbe]; exact z
   rw[q] at q'; cases q'
   obtain⟨v,hv⟩:=heo
   exact⟨v,by rw[hbe]; exact hv⟩
  ·refine(ok b u q).stay (fun c v hc r=>k c v ?_ r) (fun c r=>by rw[j8 (nown c b r)]; exact r) fun c xs r=>by rw[j8 (ntup c xs r)]; exact r
   rcases hc with rfl | hc
   ·exact hbe
   ·rintro rfl
    rcases he with z | z
    ·exact nown c b hc z
    ·rw[hc] at z; cases z; exact hb rfl
end
structure Un (fs ex:List Addr)(H H':Hp)(h h':Heap):Prop where
 keep:∀ b o,h.get? b=some o->H b=none->b∉fs->b∉ex->h'.get? b=some o
 slot:∀ b o,h.get? b=some o->H b=none->b∈fs->b∉ex->∃ sl,h'.get? b=some { o with slots:=sl}
 free:∀ b o,h.get? b=some o->H b=none->b∉ex->H' b=none
 there:∀ b o,h.get? b=some o->b∉ex->∃ o',h'.get? b=some o'
 tups:∀ b xs,H b=some (.tup xs)->H' b=some (.tup xs)
 frzs:∀ b o u,H b=some (.frz o u)->H' b=some (.frz o u)
 tbls:∀ b ps,H b=some (.tbl ps)->∃ more,H' b=some (.tbl (ps++more))
section
variable {fs fs' ex ex':List Addr}{H H1 H2:Hp}{h h1 h2 h':Heap}{a x e:Addr}{o:HO}
theorem Un.any (u:Un fs ex H H1 h h1){b:Addr}{ob:Obj}(q:h.get? b=some ob)(n:H b=none)(hx:b∉ex):∃ sl,h1.get? b=some { ob with slots:=sl} :=by
 by_cases hb:b∈fs
 ·exact u.slot b ob q n hb hx
 ·exact⟨ob.slots,u.keep b ob q n hb hx⟩
theorem Un.kept (k:∀ b u,h.get? b=some u->h'.get? b=some u):Un fs ex H H h h':=
 ⟨fun b ob q _ _ _=>k b ob q,fun b ob q _ _ _=>⟨ob.slots,k b ob q⟩,fun _ _ _ n _=>n,fun b ob q _=>⟨ob,k b ob q⟩,fun _ _ q=>q,fun _ _ _ q=>q,fun _ ps q=>⟨#[],by rw[q]; simp⟩⟩
theorem Un.refl:Un fs ex H H h h:=Un.kept fun _ _ q=>q
theorem Un.laid (k:∀ b u,h.get? b=some u->h'.get? b=some u)(hp:h.objs.size<=a)(hn:H a=none):Un fs ex H (upd H a o) h h' where
 keep:=fun b u q _ _ _=>k b u q
 slot:=fun b u q _ _ _=>⟨u.slots,k b u q⟩
 free:=fun b u q n _=>by rw[j8 (ba (aX (aB q) hp))]; exact n
 there:=fun b u q _=>⟨u,k b u q⟩
 tups:=fun b xs q=>by rw[j8 (jC q hn)]; exact q
 frzs:=fun b u xs q=>by rw[j8 (jC q hn)]; exact q
 tbls:=fun b ps q=>⟨#[],by rw[j8 (jC q hn),q]; simp⟩
theorem Un.write (mu:Mut (H x))(he:e=x\/H e=some (.own x))(k:∀ b u,b≠e->h.get? b=some u->h'.get? b=some u)(heo:∃ u,h'.get? e=some u):Un fs ex H (upd H x o) h h':=by
 have hx:∀ b,H b=none->b≠x:=fun b n z=>by subst z; rw[n] at mu; exact mu
 have hb:∀ b,H b=none->b≠e:=fun b n z=>by
  subst z
  rcases he with r | r
  ·exact hx b n r
  ·rw[n] at r; cases r
 have hm:∀ b u,H b=some u->¬ Mut (some u)->b≠x:=fun b u q nm z=>by subst z; rw[q] at mu; exact nm mu
 refine⟨fun b u q n _ _=>k b u (hb b n) q,fun b u q n _ _=>⟨u.slots,k b u (hb b n) q⟩,fun b u q n _=>by rw[j8 (hx b n)]; exact n,fun b u q _=>?_,
  fun b xs q=>by rw[j8 (hm b _ q fun z=>z)]; exact q,fun b u xs q=>by rw[j8 (hm b _ q fun z=>z)]; exact q,fun b ps q=>⟨#[],by rw[j8 (hm b _ q fun z=>z),q]; simp⟩⟩
 by_cases hbe:b=e
 ·subst hbe; exact heo
 ·exact⟨u,k b u hbe q⟩
end
def trk (h:Heap)(H:Hp):List Addr:=(List.range h.objs.size).filter fun a=>(H a).isSome
def hidT (h:Heap)(H:Hp):Heap:=PySem.W.hideAll h (trk h H)
theorem jJ9 (h:Heap)(H:Hp):(hidT h H).objs.size=h.objs.size:=PySem.W.hideAll_size _ _
theorem jKU {h:Heap}{H:Hp}{b:Addr}{o:Obj}(e:h.get? b=some o)(n:H b=none):(hidT h H).get? b=some o:=
 PySem.W.hideAll_get _ e fun hm=>by
  have q:(H b).isSome=true:=(bU.mp hm).2
  rw[n] at q; simp at q
theorem jN9 {h:Heap}{H:Hp}{b:Addr}{o:Obj}(e:(hidT h H).get? b=some o):h.get? b=some o/\H b=none:=by
 have e':h.get? b=some o:=PySem.W.of_hideAll (trk h H) e
 refine⟨e',?_⟩
 cases q:H b with
 | none=>rfl
 | some x=>
  have hm:b∈trk h H:=bU.mpr ⟨cm.mpr (aB e'),by simp [q]⟩
  have z:(hidT h H).get? b=none:=PySem.W.hideAll_none (trk h H) hm
  rw[z] at e; cases e
end L2
namespace L2
open PySem PySem.Spec PyProof.Rows
structure Mod (K:W.Frag)(mg:Str->Option Value)(base:Heap):Prop where
 kin:K.In base
 glob:base.Ns mainGlobals mg
 blt:∃ mb,base.Ns builtinsNs mb/\∀ x:Str,x≠ "__name__" ->mb x=bootBuiltins x
 nolimit:base.NoLimit
structure Cx where
 prog:Program
 w:World
 K:W.Frag
 mg:Str->Option Value
 base:Heap
 A:Around
 N:List Str
 s₀:Shared
 H₀:Hp
 env:Env
 outer:List Env
 stack:List Env
 ex:List Addr
 fn:Str->Bool
 calm:Bool
 pn:List (Addr×Obj)
 xe:Value->Shared->Prop
def frs (l:List Env):List Addr:=l.filterMap (·.frame)
abbrev Cx.fs (X:Cx):List Addr:=frs X.outer
def Vis (sc:Scope)(x:Str):Prop:=sc.names.lookup x=some .local\/sc.names.lookup x=some .cell\/sc.names.lookup x=some .free
def Loc (sc:Scope)(x:Str):Prop:=sc.names.lookup x=some .local\/sc.names.lookup x=some .cell
def Look (env:Env)(h:Heap)(m:Str->Option Value)(x:Str)(u:Value):Prop:=
 (env.kindOf x=some .local/\m x=some u)\/((env.kindOf x=some .cell\/env.kindOf x=some .free)/\∃ c,env.cells.lookup x=some c/\h.IsCell c (some u))
structure Cx.Ok (X:Cx):Prop where
 mod:Mod X.K X.mg X.base
 kind:X.env.scope.kind= .function
 glob:X.env.globals=mainGlobals
 blt:X.env.builtins=builtinsNs
 above:X.s₀.heap.objs.size<=X.env.locals
 inj:∀ x y c,X.env.cells.lookup x=some c->X.env.cells.lookup y=some c->x=y
 has:∀ x,(X.env.kindOf x=some .cell\/X.env.kindOf x=some .free)->∃ c,X.env.cells.lookup x=some c
 cab:∀ x c,X.fn x=true->X.env.cells.lookup x=some c->X.s₀.heap.objs.size<=c
 hd:X.calm=true->X.A.handled=none
 frames:X.A.frames=some X.stack
 stk:X.stack=X.outer\/(X.stack=X.env::X.outer/\X.env.frame=some X.env.locals)
 exf:∀ b∈X.ex,b≠X.env.locals/\∀ x c,X.env.cells.lookup x=some c->c≠b
 bs:∀ b o,X.base.get? b=some o->X.s₀.heap.get? b=some o/\X.H₀ b=none
 bsz:X.base.objs.size<=X.s₀.heap.objs.size
 noex:∀ b o,X.base.get? b=some o->b∉X.ex
 exfs:∀ b∈X.ex,b∉X.fs
 funs:X.s₀.heap.FunFrames X.base X.outer
 frf:∀ b∈X.fs,X.H₀ b=none
structure Inv (X:Cx)(pins:List (Addr×Obj))(σ:List (Option V))(H:Hp)(s:Shared):Prop where
 ok:X.Ok
 os:s.os=X.s₀.os
 bare:AllBare s.gens
 base:Un X.fs X.ex X.H₀ H X.s₀.heap s.heap
 loc:∃ m,s.heap.Ns X.env.locals m/\∀ (i:Nat) (x:Str) (v:V),X.N[i]?=some x->σ[i]?=some (some v)->Vis X.env.scope x->∃ u,RelV v u/\Look X.env s.heap m x u
 cell:∀ x c,X.env.cells.lookup x=some c->∃ v,s.heap.IsCell c v
 free:H X.env.locals=none
 freeC:∀ x c,X.env.cells.lookup x=some c->H c=none
 pin:∀ p∈X.pn++pins,s.heap.get? p.1=some p.2/\H p.1=none/\p.1≠X.env.locals/\p.1∉X.fs/\∀ v,p.2.data≠ .cell v
 hok:HOk X.prog X.w H s.heap
 len:σ.length=X.N.length
section
variable {X:Cx}{pins:List (Addr×Obj)}{σ:List (Option V)}{H H':Hp}{s:Shared}{h':Heap}
theorem Cx.Ok.nofr (ok:X.Ok){b:Addr}{o:Obj}(e:X.base.get? b=some o):b∉X.fs:=fun hb=>by
 have:=(ok.funs.mem hb).1
 rw[e] at this; cases this
theorem Inv.bs (I:Inv X pins σ H s):∀ b o,X.base.get? b=some o->s.heap.get? b=some o/\H b=none:=fun b o e=>
 ⟨I.base.keep b o (I.ok.bs b o e).1 (I.ok.bs b o e).2 (I.ok.nofr e) (I.ok.noex b o e),I.base.free b o (I.ok.bs b o e).1 (I.ok.bs b o e).2 (I.ok.noex b o e)⟩
theorem Inv.bk (I:Inv X pins σ H s):∀ b o,X.base.get? b=some o->s.heap.get? b=some o:=fun b o e=>(I.bs b o e).1
theorem Inv.mod (I:Inv X pins σ H s):Mod X.K X.mg X.base:=I.ok.mod
theorem Inv.kIn (I:Inv X pins σ H s):X.K.In s.heap:=I.ok.mod.kin.keeps I.bk
theorem Inv.lt (I:Inv X pins σ H s):X.env.locals<s.heap.objs.size:=let ⟨_,hn,_⟩:=I.loc; hn.lt
theorem Inv.sz (I:Inv X pins σ H s):X.s₀.heap.objs.size<=s.heap.objs.size:=bW I.ok.above (fc I.lt)
theorem Inv.nofs (I:Inv X pins σ H s){a:Addr}(h:s.heap.objs.size<=a):a∉X.fs:=fun hb=>by
 obtain⟨_,o,ho,_⟩:=I.ok.funs.mem hb
 exact absurd (aX (aB ho) (bW I.sz h)) (ck _)
theorem Inv.cne (I:Inv X pins σ H s):∀ x c,X.env.cells.lookup x=some c->c≠X.env.locals:=fun x c e z=>by
 obtain⟨v,o,ho,hd⟩:=I.cell x c e
 obtain⟨m,⟨o',es,ep,ho',hd',_⟩,_⟩:=I.loc
 rw[z,ho'] at ho; cases ho; rw[hd'] at hd; cases hd
theorem Inv.funs (I:Inv X pins σ H s):s.heap.FunFrames X.base X.outer:=by
 have all:∀ (l:List Env),(∀ b∈frs l,b∈X.fs)->X.s₀.heap.FunFrames X.base l->s.heap.FunFrames X.base l:=by
  intro l
  induction l with
  | nil=>intro _ _; trivial
  | cons env r ih=>
   intro hs hl
   obtain⟨hk,⟨L,o,hf,hn,ho,hd⟩,hr⟩:=hl
   have hL:L∈X.fs:=hs L (by unfold frs; rw[eZ,hf]; exact aG)
   obtain⟨sl,e⟩:=I.base.slot L o ho (I.ok.frf L hL) hL fun z=>I.ok.exfs L z hL
   exact⟨hk,⟨L,_,hf,hn,e,hd⟩,ih (fun b hb=>hs b (by unfold frs; rw[eZ,hf]; exact ay _ hb)) hr⟩
 exact all X.outer (fun _ hb=>hb) I.ok.funs
theorem Inv.stack (I:Inv X pins σ H s):s.heap.FunFrames X.base X.stack:=by
 rcases I.ok.stk with e | ⟨e,hf⟩
 ·rw[e]; exact I.funs
 ·rw[e]
  obtain⟨m,hn,_⟩:=I.loc
  refine .cons (by rw[I.ok.kind]; decide) hf hn ?_ I.funs
  exact Heap.get?_none_of_le (bW I.ok.bsz I.ok.above)
theorem Inv.stkSub (I:Inv X pins σ H s):∀ b∈frs X.stack,b∈X.env.locals::X.fs:=fun b hb=>by
 rcases I.ok.stk with e | ⟨e,hf⟩
 ·rw[e] at hb; exact ay _ hb
 ·rw[e] at hb
  unfold frs at hb
  rw[eZ,hf] at hb
  exact hb
theorem Inv.stkFree (I:Inv X pins σ H s):∀ b∈frs X.stack,H b=none:=fun b hb=>by
 rcases aH.mp (I.stkSub b hb) with e | hb
 ·rw[e]; exact I.free
 ·obtain⟨_,o,ho,_⟩:=I.ok.funs.mem hb
  exact I.base.free b o ho (I.ok.frf b hb) fun z=>I.ok.exfs b z hb
theorem Inv.step {g':Array GenState}{t':Nat}{d':Drawn}{ch:List Addr}(I:Inv X pins σ H s)
  (hch:∀ b∈ch,(b∈X.ex\/X.s₀.heap.objs.size<=b)/\b≠X.env.locals/\(∀ x c,X.env.cells.lookup x=some c->c≠b)/\∀ p∈X.pn++pins,p.1≠b)
  (keep:∀ b o,b≠X.env.locals->b∉X.fs->b∉ch->s.heap.get? b=some o->H b=none->h'.get? b=some o)
  (slot:∀ b o,b≠X.env.locals->b∈X.fs->b∉ch->s.heap.get? b=some o->H b=none->∃ sl,h'.get? b=some { o with slots:=sl}) (free:∀ b o,b∉ch->s.heap.get? b=some o->H b=none->H' b=none)
  (there:∀ b o,b∉ch->s.heap.get? b=some o->∃ o',h'.get? b=some o')
  (tups:∀ b xs,H b=some (.tup xs)->H' b=some (.tup xs)) (frzs:∀ b o u,H b=some (.frz o u)->H' b=some (.frz o u)) (tbls:∀ b ps,H b=some (.tbl ps)->∃ more,H' b=some (.tbl (ps++more)))
  (ns:∀ m,s.heap.Ns X.env.locals m->h'.Ns X.env.locals m) (hok:HOk X.prog X.w H' h') (hg:AllBare g'):
  Inv X pins σ H' { s with heap:=h',gens:=g',drawn:=d',toks:=t'} :=by
 have neL:∀ b o,X.s₀.heap.get? b=some o->b≠X.env.locals:=fun b o e=>ba (aX (aB e) I.ok.above)
 have neC:∀ b o,X.s₀.heap.get? b=some o->b∉X.ex->b∉ch:=fun b o e hx hb=>by
  rcases (hch b hb).1 with z | z
  ·exact hx z
  ·exact absurd (aX (aB e) z) (ck _)
 have cellK:∀ x c,X.env.cells.lookup x=some c->∀ v,s.heap.IsCell c v->h'.IsCell c v:=fun x c e v ⟨o,ho,hd⟩=>by
  have nch:c∉ch:=fun z=>(hch c z).2.2.1 x c e rfl
  by_cases hc:c∈X.fs
  ·obtain⟨sl,q⟩:=slot c o (I.cne x c e) hc nch ho (I.freeC x c e)
   exact⟨_,q,hd⟩
  ·exact⟨o,keep c o (I.cne x c e) hc nch ho (I.freeC x c e),hd⟩
 refine⟨I.ok,I.os,hg,⟨fun b o e n hb hx=>?_,fun b o e n hb hx=>?_,fun b o e n hx=>?_,fun b o e hx=>?_,fun b xs e=>tups b xs (I.base.tups b xs e),fun b o xs e=>frzs b o xs (I.base.frzs b o xs e),fun b ps e=>?_⟩,?_,fun x c e=>?_,?_,fun x c e=>?_,fun p hp=>?_,hok,I.len⟩
 ·exact keep b o (neL b o e) hb (neC b o e hx) (I.base.keep b o e n hb hx) (I.base.free b o e n hx)
 ·obtain⟨sl,e1⟩:=I.base.slot b o e n hb hx
  obtain⟨sl',e2⟩:=slot b _ (neL b o e) hb (neC b o e hx) e1 (I.base.free b o e n hx)
  exact⟨sl',e2⟩
 ·obtain⟨o',e1⟩:=I.base.there b o e hx
  exact free b o' (neC b o e hx) e1 (I.base.free b o e n hx)
 ·obtain⟨o',e1⟩:=I.base.there b o e hx
  exact there b o' (neC b o e hx) e1
 ·obtain⟨m1,e1⟩:=I.base.tbls b ps e
  obtain⟨m2,e2⟩:=tbls b _ e1
  exact⟨m1++m2,by rw[e2,Array.append_assoc]⟩
 ·obtain⟨m,hn,hl⟩:=I.loc
  refine⟨m,ns m hn,fun i x v e1 e2 e3=>?_⟩
  obtain⟨u,r,l⟩:=hl i x v e1 e2 e3
  refine⟨u,r,?_⟩
  rcases l with l | ⟨k,c,e,z⟩
  ·exact .inl l
  ·exact .inr ⟨k,c,e,cellK x c e _ z⟩
 ·obtain⟨v,z⟩:=I.cell x c e
  exact⟨v,cellK x c e v z⟩
 ·obtain⟨m,⟨o,_,_,ho,_⟩,_⟩:=I.loc
  exact free _ o (fun z=>(hch _ z).2.1 rfl) ho I.free
 ·obtain⟨v,o,ho,hd⟩:=I.cell x c e
  exact free c o (fun z=>(hch c z).2.2.1 x c e rfl) ho (I.freeC x c e)
 ·obtain⟨e,n,ne,nf,d⟩:=I.pin p hp
  have nch:p.1∉ch:=fun z=>(hch p.1 z).2.2.2 p hp rfl
  exact⟨keep p.1 p.2 ne nf nch e n,free p.1 p.2 nch e n,ne,nf,d⟩
theorem Inv.un {t':Nat}(I:Inv X pins σ H s)(u:Un X.fs [] H H' s.heap h')(hok:HOk X.prog X.w H' h'):Inv X pins σ H' { s with heap:=h',toks:=t'} :=by
 obtain⟨m,⟨o,es,ep,ho,r⟩,_⟩:=id I.loc
 obtain⟨sl,hL⟩:=u.any ho I.free (by simp)
 exact I.step (g':=s.gens) (d':=s.drawn) (ch:=[]) (fun _ z=>nomatch z) (fun b o _ hb _ e n=>u.keep b o e n hb (by simp)) (fun b o _ hb _ e n=>u.slot b o e n hb (by simp)) (fun b o _ e n=>u.free b o e n (by simp)) (fun b o _ e=>u.there b o e (by simp)) u.tups u.frzs u.tbls (fun m' hm=>by
  obtain⟨o',es',ep',ho',r'⟩:=hm
  rw[ho] at ho'; cases ho'
  exact⟨_,es',ep',hL,r'⟩) hok I.bare
theorem Inv.call {g':Array GenState}{t':Nat}{d':Drawn}{ch:List Addr}(I:Inv X pins σ H s)(u:Un (frs X.stack) ch H H' s.heap h')(hok:HOk X.prog X.w H' h')(hg:AllBare g')
  (hch:∀ b∈ch,(b∈X.ex\/X.s₀.heap.objs.size<=b)/\b≠X.env.locals/\(∀ x c,X.env.cells.lookup x=some c->c≠b)/\∀ p∈X.pn++pins,p.1≠b):
  Inv X pins σ H' { s with heap:=h',gens:=g',drawn:=d',toks:=t'} :=by
 obtain⟨m,⟨o,es,ep,ho,r⟩,_⟩:=id I.loc
 obtain⟨sl,hL⟩:=u.any ho I.free fun z=>(hch _ z).2.1 rfl
 exact I.step (ch:=ch) hch (fun b o hL hb hc e n=>u.keep b o e n (fun z=>(aH.mp (I.stkSub b z)).elim hL hb) hc) (fun b o _ _ hc e n=>u.any e n hc) (fun b o hc e n=>u.free b o e n hc) (fun b o hc e=>u.there b o e hc) u.tups u.frzs u.tbls (fun m' hm=>by
  obtain⟨o',es',ep',ho',r'⟩:=hm
  rw[ho] at ho'; cases ho'
  exact⟨_,es',ep',hL,r'⟩) hok hg
theorem Inv.turned {t':Nat}{it:Addr}(I:Inv X pins σ H s)(k:∀ b o,b≠it->s.heap.get? b=some o->h'.get? b=some o)(hn:H it=none)(hL:it≠X.env.locals)
  (h1:it∈X.ex\/X.s₀.heap.objs.size<=it) (h2:∀ x c,X.env.cells.lookup x=some c->c≠it) (h3:∀ p∈X.pn++pins,p.1≠it):Inv X pins σ H { s with heap:=h',toks:=t'} :=by
 have nit:∀ b u,H b=some u->b≠it:=fun b u e z=>by rw[z,hn] at e; cases e
 refine I.step (g':=s.gens) (d':=s.drawn) (ch:=[it]) (fun b hb=>?_) (fun b o _ _ hc e _=>k b o (fun z=>hc (by simp [z])) e) (fun b o _ _ hc e _=>⟨o.slots,k b o (fun z=>hc (by simp [z])) e⟩) (fun _ _ _ _ n=>n)
  (fun b o hc e=>⟨o,k b o (fun z=>hc (by simp [z])) e⟩) (fun _ _ e=>e) (fun _ _ _ e=>e) (fun b ps e=>⟨#[],by rw[e]; simp⟩) (fun m hm=>?_) (fun b u e=>?_) I.bare
 ·have e:b=it:=by simpa using hb
  subst e
  exact⟨h1,hL,h2,h3⟩
 ·obtain⟨o,es,ep,ho,r⟩:=hm
  exact⟨o,es,ep,k _ o (cL hL) ho,r⟩
 ·refine(I.hok b u e).stay (fun c v hc q=>k c v ?_ q) (fun _ q=>q) fun _ _ q=>q
  rcases hc with z | z
  ·rw[z]; exact nit b u e
  ·exact nit c _ z
theorem Inv.tok (I:Inv X pins σ H s)(t:Nat):Inv X pins σ H { s with toks:=t} :=I.un (h':=s.heap) (t':=t) Un.refl I.hok
theorem Inv.kept {t':Nat}(I:Inv X pins σ H s)(k:∀ b u,s.heap.get? b=some u->h'.get? b=some u):Inv X pins σ H { s with heap:=h',toks:=t'} :=I.un (Un.kept k) (I.hok.kept k)
theorem Inv.laid {a:Addr}{o:HO}{t':Nat}(I:Inv X pins σ H s)(k:∀ b u,s.heap.get? b=some u->h'.get? b=some u)(hp:s.heap.objs.size<=a)(new:ObjOk X.prog X.w (upd H a o) h' a o):
  Inv X pins σ (upd H a o) { s with heap:=h',toks:=t'} :=I.un (Un.laid k hp (I.hok.fresh hp)) (I.hok.laid k hp new)
theorem Inv.write {x e:Addr}{o:HO}{t':Nat}(I:Inv X pins σ H s)(mu:Mut (H x))(he:e=x\/H e=some (.own x))(k:∀ b u,b≠e->s.heap.get? b=some u->h'.get? b=some u)(heo:∃ u,h'.get? e=some u)
  (new:ObjOk X.prog X.w (upd H x o) h' x o):Inv X pins σ (upd H x o) { s with heap:=h',toks:=t'} :=I.un (Un.write mu he k heo) (I.hok.write mu he k heo new)
theorem Inv.pins_of {pins':List (Addr×Obj)}(I:Inv X pins σ H s)(h:∀ p∈pins',s.heap.get? p.1=some p.2/\H p.1=none/\p.1≠X.env.locals/\p.1∉X.fs/\∀ v,p.2.data≠ .cell v):Inv X pins' σ H s:=
 ⟨I.ok,I.os,I.bare,I.base,I.loc,I.cell,I.free,I.freeC,fun p hp=>(aq.mp hp).elim (fun z=>I.pin p (aJ _ z)) (h p),I.hok,I.len⟩
theorem jGI {N:List Str}(hN:N.Nodup){i j:Nat}{x:Str}(a:N[i]?=some x)(b:N[j]?=some x):i=j:=by
 obtain⟨h1,e1⟩:=af.mp a
 obtain⟨h2,e2⟩:=af.mp b
 exact(List.getElem_inj hN).mp (e1.trans e2.symm)
theorem jEG {M:Model}{A:Around}{E:Value->Shared->Prop}{i:Nat}{x:Str}{v:V}{u:Value}{Q:Unit->Shared->Prop}(I:Inv X pins σ H s)(hN:X.N.Nodup)(hi:X.N[i]?=some x)(hx:Loc X.env.scope x)(r:RelV v u)
  (h:∀ s',Inv X pins (σ.set i (some v)) H s'->(∃ a,Heap.SameBut a s.heap s'.heap/\(a=X.env.locals\/X.env.cells.lookup x=some a))->Q () s') (hf:X.fn x=true\/X.env.scope.names.lookup x=some .local:=by first | exact .inl rfl | exact .inr rfl | assumption):wpAny M A (storeName X.env x u) Q E s:=by
 obtain⟨m,hn,hl⟩:=id I.loc
 have hcls:(X.env.scope.kind== .class || (X.env.scope.kind== .module&&X.env.locals != X.env.globals))=false:=by rw[I.ok.kind]; rfl
 have hiσ:i<σ.length:=by rw[I.len]; exact(af.mp hi).1
 have cne:=I.cne
 have tracked:∀ {a:Addr}{h':Heap},(∃ o,s.heap.get? a=some o/\H a=none)->Heap.SameBut a s.heap h'->HOk X.prog X.w H h':=fun {a h'} ha hs b ob e=>by
  obtain⟨_,_,hfree⟩:=ha
  refine(I.hok b ob e).stay (fun c w' hc q=>(hs.2 c ?_).trans q) (fun _ q=>q) fun _ _ q=>q
  rintro rfl
  rcases hc with rfl | hc
  ·rw[hfree] at e; cases e
  ·rw[hfree] at hc; cases hc
 rcases hx with hk | hk
 ·refine wpAny_storeName_local hk hn (fun h' hn' hs=>?_) hcls
  obtain⟨oL,_,_,hoL,_⟩:=id hn
  refine h _ ⟨I.ok,I.os,I.bare,⟨fun b o e n hb hx=>?_,fun b o e n hb hx=>?_,I.base.free,fun b o e hx=>?_,I.base.tups,I.base.frzs,I.base.tbls⟩,⟨_,hn',fun j y v' e1 e2 e3=>?_⟩,fun y c e=>?_,I.free,I.freeC,fun p hp=>?_,tracked ⟨oL,hoL,I.free⟩ hs,by simpa using I.len⟩ ⟨_,hs, .inl rfl⟩
  ·exact(hs.2 b (ba (aX (aB e) I.ok.above))).trans (I.base.keep b o e n hb hx)
  ·obtain⟨sl,e1⟩:=I.base.slot b o e n hb hx
   exact⟨sl,(hs.2 b (ba (aX (aB e) I.ok.above))).trans e1⟩
  ·obtain⟨o',e1⟩:=I.base.there b o e hx
   exact⟨o',(hs.2 b (ba (aX (aB e) I.ok.above))).trans e1⟩
  ·by_cases hj:j=i
   ·subst hj
    rw[hi] at e1; cases e1
    rw[gj hiσ] at e2
    cases e2
    exact⟨u,r, .inl ⟨hk,by simp⟩⟩
   ·rw[gF (cL hj)] at e2
    obtain⟨u',r',q⟩:=hl j y v' e1 e2 e3
    refine⟨u',r',?_⟩
    rcases q with ⟨k,e⟩ | ⟨k,c,e,z⟩
    ·refine .inl ⟨k,?_⟩
     have:y≠x:=fun e=>hj (jGI hN e1 (e ▸ hi))
     simp [this,e]
    ·exact .inr ⟨k,c,e,z.sameBut hs (cne y c e)⟩
  ·obtain⟨w',z⟩:=I.cell y c e
   exact⟨w',z.sameBut hs (cne y c e)⟩
  ·obtain⟨e,n,ne,nf,d⟩:=I.pin p hp
   exact⟨(hs.2 p.1 ne).trans e,n,ne,nf,d⟩
 ·have hfn:X.fn x=true:=by
   rcases hf with z | z
   ·exact z
   ·rw[z] at hk; cases hk
  obtain⟨c,hc⟩:=I.ok.has x (.inl hk)
  obtain⟨w',z⟩:=I.cell x c hc
  refine wpAny_storeName_cell I.ok.kind hk hc z (fun h' hc' hs=>?_)
  obtain⟨oc,hoc,hocd⟩:=id z
  refine h { s with heap:=h'} ⟨I.ok,I.os,I.bare,⟨fun b o e n hb hx=>?_,fun b o e n hb hx=>?_,I.base.free,fun b o e hx=>?_,I.base.tups,I.base.frzs,I.base.tbls⟩,⟨m,hn.sameBut hs (cL (cne x c hc)),fun j y v' e1 e2 e3=>?_⟩,fun y c' e=>?_,I.free,I.freeC,fun p hp=>?_,tracked ⟨oc,hoc,I.freeC x c hc⟩ hs,by simpa using I.len⟩ ⟨c,hs, .inr hc⟩
  ·exact(hs.2 b (ba (aX (aB e) (I.ok.cab x c hfn hc)))).trans (I.base.keep b o e n hb hx)
  ·obtain⟨sl,e1⟩:=I.base.slot b o e n hb hx
   exact⟨sl,(hs.2 b (ba (aX (aB e) (I.ok.cab x c hfn hc)))).trans e1⟩
  ·obtain⟨o',e1⟩:=I.base.there b o e hx
   exact⟨o',(hs.2 b (ba (aX (aB e) (I.ok.cab x c hfn hc)))).trans e1⟩
  ·by_cases hj:j=i
   ·subst hj
    rw[hi] at e1; cases e1
    rw[gj hiσ] at e2
    cases e2
    exact⟨u,r, .inr ⟨.inl hk,c,hc,hc'⟩⟩
   ·rw[gF (cL hj)] at e2
    obtain⟨u',r',q⟩:=hl j y v' e1 e2 e3
    refine⟨u',r',?_⟩
    rcases q with q | ⟨k,c',e,z'⟩
    ·exact .inl q
    ·refine .inr ⟨k,c',e,z'.sameBut hs ?_⟩
     rintro rfl
     exact hj (jGI hN e1 (I.ok.inj _ _ _ e hc ▸ hi))
  ·by_cases hcc:c'=c
   ·subst hcc; exact⟨_,hc'⟩
   ·obtain⟨w2,z2⟩:=I.cell y c' e
    exact⟨w2,z2.sameBut hs hcc⟩
  ·obtain⟨e,n,ne,nf,d⟩:=I.pin p hp
   refine⟨(hs.2 p.1 ?_).trans e,n,ne,nf,d⟩
   intro q
   rw[q,hoc] at e
   have q':oc=p.2:=bg e
   exact d w' (by rw[<- q']; exact hocd)
theorem jC4 {M:Model}{A:Around}{E:Value->Shared->Prop}{i:Nat}{x:Str}{v:V}{u:Value}{Q:Unit->Shared->Prop}(I:Inv X pins σ H s)(hN:X.N.Nodup)(hi:X.N[i]?=some x)(hx:Loc X.env.scope x)(r:RelV v u)
  (h:∀ s',Inv X pins (σ.set i (some v)) H s'->Q () s') (hf:X.fn x=true\/X.env.scope.names.lookup x=some .local:=by first | exact .inl rfl | exact .inr rfl | assumption):wpAny M A (storeName X.env x u) Q E s:=
 jEG I hN hi hx r (fun s' I' _=>h s' I') hf
theorem Inv.call' {s':Shared}{ch:List Addr}(I:Inv X pins σ H s)(ho:s'.os=s.os)(u:Un (frs X.stack) ch H H' s.heap s'.heap)(hok:HOk X.prog X.w H' s'.heap)(hg:AllBare s'.gens)
  (hch:∀ b∈ch,(b∈X.ex\/X.s₀.heap.objs.size<=b)/\b≠X.env.locals/\(∀ x c,X.env.cells.lookup x=some c->c≠b)/\∀ p∈X.pn++pins,p.1≠b):Inv X pins σ H' s':=by
 obtain⟨h',g',d',t',o'⟩:=s'
 have e:o'=s.os:=ho
 subst e
 exact I.call (g':=g') (t':=t') (d':=d') u hok hg hch
end
abbrev XK:=Value->Option Addr->Hp->Prop
abbrev St:=List (Option V)
abbrev VK:=V->Hp->Prop
abbrev TE:=St->Hp->VK->Prop
abbrev TT:=St->Hp->(Bool->Hp->Prop)->Prop
abbrev TA:=St->Hp->(List V->Hp->Prop)->Prop
structure Ends where
 nx:St->Hp->Prop
 rt:VK
 bk:St->Hp->Prop:=fun _ _=>False
 ct:St->Hp->Prop:=fun _ _=>False
abbrev TS:=Ends->St->Hp->Prop
def EP (X:Cx)(pins:List (Addr×Obj))(σ:St)(Q:VK)(u:Value)(s':Shared):Prop:=∃ v H',Inv X pins σ H' s'/\RelV v u/\Q v H'
def TP (X:Cx)(pins:List (Addr×Obj))(σ:St)(Q:Bool->Hp->Prop)(b:Bool)(s':Shared):Prop:=∃ H',Inv X pins σ H' s'/\Q b H'
def AP (X:Cx)(pins:List (Addr×Obj))(σ:St)(Q:List V->Hp->Prop)(us:List Value)(s':Shared):Prop:=∃ vs H',Inv X pins σ H' s'/\Vals vs us/\Q vs H'
def SP (X:Cx)(pins:List (Addr×Obj))(D:Ends)(f:Flow)(s':Shared):Prop:=
 match f with
 | .next=>∃ σ' H',Inv X pins σ' H' s'/\D.nx σ' H'
 | .brk=>∃ σ' H',Inv X pins σ' H' s'/\D.bk σ' H'
 | .cont=>∃ σ' H',Inv X pins σ' H' s'/\D.ct σ' H'
 | .ret u=>∃ v σ' H',Inv X pins σ' H' s'/\RelV v u/\D.rt v H'
def PE (X:Cx)(e:Expr)(t:TE):Prop:=
 ∀ (pins:List (Addr×Obj)) (s:Shared) (σ:St) (H:Hp) (Q:VK),Inv X pins σ H s->t σ H Q->wpAny (model X.prog X.w) X.A (eval e X.env) (EP X pins σ Q) X.xe s
def PT (X:Cx)(e:Expr)(t:TT):Prop:=
 ∀ (pins:List (Addr×Obj)) (s:Shared) (σ:St) (H:Hp) (Q:Bool->Hp->Prop),Inv X pins σ H s->t σ H Q->wpAny (model X.prog X.w) X.A (isTrue e X.env (eval e X.env)) (TP X pins σ Q) X.xe s
def PW (X:Cx)(e:Expr)(t:TT):Prop:=
 ∀ (whole:Sem Value) (pins:List (Addr×Obj)) (s:Shared) (σ:St) (H:Hp) (Q:Bool->Hp->Prop),Inv X pins σ H s->t σ H Q->wpAny (model X.prog X.w) X.A (isTrue e X.env whole) (TP X pins σ Q) X.xe s
theorem PW.pt {X:Cx}{e:Expr}{t:TT}(h:PW X e t):PT X e t:=h _
def PA (X:Cx)(es:List Expr)(t:TA):Prop:=
 ∀ (pos:Pos) (pins:List (Addr×Obj)) (s:Shared) (σ:St) (H:Hp) (Q:List V->Hp->Prop),Inv X pins σ H s->t σ H Q->wpAny (model X.prog X.w) X.A (spliced (backTo pos (starEach es X.env))) (AP X pins σ Q) X.xe s
def PS (X:Cx)(st:Stmt)(t:TS):Prop:=
 ∀ (pins:List (Addr×Obj)) (s:Shared) (σ:St) (H:Hp) (D:Ends),Inv X pins σ H s->t D σ H->wpAny (model X.prog X.w) X.A (exec st X.env) (SP X pins D) X.xe s
def PSs (X:Cx)(st:List Stmt)(t:TS):Prop:=
 ∀ (pins:List (Addr×Obj)) (s:Shared) (σ:St) (H:Hp) (D:Ends),Inv X pins σ H s->t D σ H->wpAny (model X.prog X.w) X.A (execs st X.env) (SP X pins D) X.xe s
theorem thn {α:Type}{t:Sem α}{Q Q':α->Shared->Prop}{M:Model}{A:Around}{E:Value->Shared->Prop}{s:Shared}(h:wpAny M A t Q E s)(hQ:∀ a s,Q a s->Q' a s):wpAny M A t Q' E s:=bS h hQ fun _ _ x=>x
end L2
namespace L2
open PySem PySem.Spec PyProof.Rows
section
variable {X:Cx}
def tVar (i:Nat):TE:=fun σ H Q=>∃ v,σ[i]?=some (some v)/\Q v H
def tC (v:V):TE:=fun _ H Q=>Q v H
theorem jI5 {i:Nat}{x:Str}{pos:Pos}(hN:X.N[i]?=some x)(hv:Vis X.env.scope x)(hd:(x==("__debug__" :Str))=false:=by decide)(hcd:(x==("__classdict__" :Str))=false:=by decide):PE X (.Name x pos) (tVar i):=by
 intro pins s σ H Q I h
 obtain⟨v,e,h⟩:=h
 obtain⟨m,hn,hl⟩:=I.loc
 obtain⟨u,r,l⟩:=hl i x v hN e hv
 have fin:EP X pins σ Q u s:=⟨v,H,I,r,h⟩
 rcases l with ⟨hk,hm⟩ | ⟨hk,c,hc,hcell⟩
 ·exact wpAny_Name (wpAny_loadName_local I.ok.kind hk hn hm fin) hd
 ·rcases hk with hk | hk
  ·exact wpAny_Name (wpAny_loadName_cell I.ok.kind hk hc hcell fin) hd
  ·exact wpAny_Name (wpAny_loadName_free I.ok.kind hk hc hcell fin hcd) hd
theorem kO {i j pos} :PE X (.Constant (.int i) j pos) (tC (.int i)):=fun _ _ _ H _ I h=>wpAny_Constant_int ⟨.int i,H,I.tok _,⟨_,rfl⟩,h⟩
theorem pe_bl {b j pos} :PE X (.Constant (.bool b) j pos) (tC (.bl b)):=fun _ _ _ H _ I h=>Constant_bool ⟨.bl b,H,I,rfl,h⟩
theorem jOY {j pos} :PE X (.Constant .none j pos) (tC .non):=fun _ _ _ H _ I h=>Constant_none ⟨.non,H,I,rfl,h⟩
def Gl (X:Cx)(x:Str):Prop:=X.env.kindOf x=some .globalImplicit
theorem jIN {E:Value->Shared->Prop}{pins:List (Addr×Obj)}{s:Shared}{σ:St}{H:Hp}{x:Str}{u:Value}{pos:Pos}{Q:Value->Shared->Prop}(I:Inv X pins σ H s)(hg:Gl X x)(hm:X.mg x=some u)(h:Q u s)
  (hd:(x==("__debug__" :Str))=false:=by decide):wpAny (model X.prog X.w) X.A (eval (.Name x pos) X.env) Q E s:=
 fi I.ok.kind hg (Calls.loadGlobal_global (by rw[I.ok.glob]; exact I.mod.glob.keeps I.bk) hm h) hd
theorem jCR {E:Value->Shared->Prop}{pins:List (Addr×Obj)}{s:Shared}{σ:St}{H:Hp}{x:Str}{u:Value}{pos:Pos}{Q:Value->Shared->Prop}(I:Inv X pins σ H s)(hg:Gl X x)(hm:X.mg x=none)(hv:bootBuiltins x=some u)(h:Q u s)
  (hn:x≠ "__name__" :=by decide) (hd:(x==("__debug__" :Str))=false:=by decide):wpAny (model X.prog X.w) X.A (eval (.Name x pos) X.env) Q E s:=by
 obtain⟨mb,h1,h2⟩:=I.mod.blt
 exact fi I.ok.kind hg (Calls.loadGlobal_builtin (by rw[I.ok.glob]; exact I.mod.glob.keeps I.bk) hm (by rw[I.ok.blt]; exact h1.keeps I.bk) ((h2 x hn).trans hv) h) hd
theorem jMX {x:Str}{v:V}{u:Value}{pos:Pos}(hg:Gl X x)(hm:X.mg x=none)(hv:bootBuiltins x=some u)(r:RelV v u)(hn:x≠ "__name__" :=by decide)(hd:(x==("__debug__" :Str))=false:=by decide):PE X (.Name x pos) (tC v):=
 fun _ _ _ H _ I h=>jCR I hg hm hv ⟨v,H,I,r,h⟩ hn hd
variable {a b:Expr}{ta tb:TE}{pos:Pos}
def PC (X:Cx)(op:CmpOp)(a b:Expr)(t:TE):Prop:=
 ∀ (pins:List (Addr×Obj)) (s:Shared) (σ:St) (H:Hp) (Q:VK),Inv X pins σ H s->t σ H Q->
  wpAny (model X.prog X.w) X.A (eval a X.env) (fun v s₁=>wpAny (model X.prog X.w) X.A (eval b X.env) (fun u s₂=>wpAny (model X.prog X.w) X.A (compareOp op v u) (EP X pins σ Q) X.xe s₂) X.xe s₁) X.xe s
def tB (t:TE):TT:=fun σ H Q=>t σ H fun x H1=>∃ c,x= .bl c/\Q c H1
theorem jOP {op:CmpOp}{t:TE}(h:PC X op a b t)(h1:behindInMarks op b=false:=by first | exact nobehind _ (by decide) (by decide) | rfl):PT X (.Compare a [op] [b] pos) (tB t):=by
 intro pins s σ H Q I hw
 refine wpAny_isTrue_Compare1 (thn (h pins s σ H _ I hw) fun v s1 h1=>thn h1 fun u s2 h2=>thn h2 fun c s3 ⟨x,H1,I1,r1,q1⟩=>?_) h1
 obtain⟨d,rfl,q⟩:=q1
 cases r1
 exact cZ ⟨H1,I1,q⟩
theorem jON {e:Expr}{t:TE}(h:PE X e t)(he:∀ whole,isTrue e X.env whole=(do let v <- whole; standAt e.pos; holding [v] (truthy v)):=by intro _; rfl):PT X e (tB t):=by
 intro pins s σ H Q I hw
 refine isTrue_plain (thn (h pins s σ H _ I hw) fun v s1 ⟨x,H1,I1,r1,q1⟩=>?_) (he _)
 obtain⟨d,rfl,q⟩:=q1
 cases r1
 exact cZ ⟨H1,I1,q⟩
variable {tA tB':TT}{rest:List Expr}
def tAnd (t u:TT):TT:=fun σ H Q=>t σ H fun c H1=>if c=true then u σ H1 Q else Q false H1
def tOr (t u:TT):TT:=fun σ H Q=>t σ H fun c H1=>if c=true then Q true H1 else u σ H1 Q
def tNot (t:TT):TT:=fun σ H Q=>t σ H fun c H1=>Q (!c) H1
theorem jMF (ha:PT X a tA):PW X (.BoolOp .And [a] pos) tA:=by
 intro wh pins s σ H Q I h
 refine isTrue_and (thn (ha pins s σ H Q I h) fun c s1 e=>?_)
 cases c with
 | true=>exact isTrue_and_nil e
 | false=>exact e
theorem jOL (ha:PT X a tA):PW X (.BoolOp .Or [a] pos) tA:=by
 intro wh pins s σ H Q I h
 refine isTrue_or (thn (ha pins s σ H Q I h) fun c s1 e=>?_)
 cases c with
 | false=>exact isTrue_or_nil e
 | true=>exact e
theorem jOM (ha:PT X a tA)(hb:PW X (.BoolOp .And (b::rest) pos) tB'):PW X (.BoolOp .And (a::b::rest) pos) (tAnd tA tB'):=by
 intro wh pins s σ H Q I h
 refine isTrue_and (thn (ha pins s σ H _ I h) fun c s1 ⟨H1,I1,q1⟩=>?_)
 cases c with
 | true=>exact hb wh pins s1 σ H1 Q I1 q1
 | false=>exact⟨H1,I1,q1⟩
theorem pw_or (ha:PT X a tA)(hb:PW X (.BoolOp .Or (b::rest) pos) tB'):PW X (.BoolOp .Or (a::b::rest) pos) (tOr tA tB'):=by
 intro wh pins s σ H Q I h
 refine isTrue_or (thn (ha pins s σ H _ I h) fun c s1 ⟨H1,I1,q1⟩=>?_)
 cases c with
 | true=>exact⟨H1,I1,q1⟩
 | false=>exact hb wh pins s1 σ H1 Q I1 q1
theorem jOO (ha:PT X a tA):PT X (.UnaryOp .Not a pos) (tNot tA):=by
 intro pins s σ H Q I h
 exact isTrue_not (ha pins s σ H (fun c H1=>Q (!c) H1) I h)
def tAndV (ta tb:TE):TE:=fun σ H Q=>ta σ H fun x H1=>∃ c,x= .bl c/\if c=true then tb σ H1 Q else Q (.bl false) H1
def tNotV (ta:TE):TE:=fun σ H Q=>ta σ H fun x H1=>∃ c,x= .bl c/\Q (.bl (!c)) H1
theorem jOW {op}{t:TE}(h:PE X a t):PE X (.BoolOp op [a] pos) t:=fun pins s σ H Q I hw=>BoolOp_one (h pins s σ H Q I hw)
theorem jP0 (ha:PE X a ta)(hb:PE X (.BoolOp .And (b::rest) pos) tb):PE X (.BoolOp .And (a::b::rest) pos) (tAndV ta tb):=by
 intro pins s σ H Q I h
 refine BoolOp_and (thn (ha pins s σ H _ I h) fun v s1 ⟨x,H1,I1,r1,q1⟩=>?_)
 obtain⟨c,rfl,q1⟩:=q1
 cases r1
 refine cZ ?_
 cases c with
 | true=>exact hb pins s1 σ H1 Q I1 q1
 | false=>exact⟨.bl false,H1,I1,rfl,q1⟩
theorem jOX (ha:PE X a ta):PE X (.UnaryOp .Not a pos) (tNotV ta):=by
 intro pins s σ H Q I h
 refine UnaryOp_ (thn (ha pins s σ H _ I h) fun v s1 ⟨x,H1,I1,r1,q1⟩=>?_)
 obtain⟨c,rfl,q1⟩:=q1
 cases r1
 exact not_of (cZ ⟨.bl (!c),H1,I1,rfl,q1⟩)
def tIf (t:TT)(ta tb:TE):TE:=fun σ H Q=>t σ H fun c H1=>if c=true then ta σ H1 Q else tb σ H1 Q
theorem jK9 {c:Expr}(hc:PT X c tA)(ha:PE X a ta)(hb:PE X b tb):PE X (.IfExp c a b pos) (tIf tA ta tb):=by
 intro pins s σ H Q I h
 refine wpAny_IfExp (thn (hc pins s σ H _ I h) fun d s1 ⟨H1,I1,q1⟩=>?_)
 cases d with
 | true=>exact ha pins s1 σ H1 Q I1 q1
 | false=>exact hb pins s1 σ H1 Q I1 q1
end
end L2
namespace L2
open PySem PySem.Spec PyProof.Rows
def SqL (K:W.Frag)(H:Hp)(a:Addr)(xs:List V):Prop:=
 Rd H a (.lst xs)\/
  ∃ (o:Obj) (its:Array Value) (n:Nat),K.lookup a=some o/\o.cls= .type "list" /\o.dict=none/\o.data= .seq its n/\its.size<=sizeLine/\Vals xs its.toList
def SqT (K:W.Frag)(H:Hp)(a:Addr)(xs:List V):Prop:=
 Rd H a (.tup xs)\/
  ∃ (o:Obj) (its:Array Value) (n:Nat),K.lookup a=some o/\o.cls= .type "tuple" /\o.data= .seq its n/\its.size<=sizeLine/\Vals xs its.toList
noncomputable def absV:Value->Option V
 | .none=>some .non
 | .bool b=>some (.bl b)
 | .int i _=>some (.int i)
 | .str x _=>some (.str x)
 | .bytes b _=>some (.byt b)
 | .float b _=>some (.flt b)
 | .ref a=>some (.ref a)
 | .type n=>some (.ty n)
 | _=>none
theorem RelV.abs {x:V}{u:Value}(r:RelV x u):absV u=some x:=by
 cases x with
 | non=>cases r; rfl
 | bl _=>cases r; rfl
 | int _=>obtain⟨t,rfl⟩:=r; rfl
 | str _=>obtain⟨t,rfl⟩:=r; rfl
 | byt _=>obtain⟨t,rfl⟩:=r; rfl
 | flt _=>obtain⟨t,rfl⟩:=r; rfl
 | ref _=>cases r; rfl
 | ty _=>cases r; rfl
theorem RelV.inj {x y:V}{u:Value}(r:RelV x u)(q:RelV y u):x=y:=bg (r.abs.symm.trans q.abs)
theorem Vals.inj:∀ {xs ys:List V}{us:List Value},Vals xs us->Vals ys us->xs=ys
 | _,_,_, .nil, .nil=>rfl
 | _,_,_, .cons r t, .cons r' t'=>by rw[r.inj r',Vals.inj t t']
section
variable {X:Cx}{pins:List (Addr×Obj)}{σ:St}{H:Hp}{s:Shared}{a:Addr}{xs ys:List V}
theorem SqL.of {K:W.Frag}(h:H a=some (.lst xs)):SqL K H a xs:= .inl (.inl h)
theorem SqT.of {K:W.Frag}(h:H a=some (.tup xs)):SqT K H a xs:= .inl (.inl h)
theorem Inv.list (I:Inv X pins σ H s)(h:SqL X.K H a xs):∃ its:List Value,Vals xs its/\PlainL s.heap a its.toArray/\xs.length<=sizeLine:=by
 rcases h with h | ⟨o,its,n,hk,hc,hd,hs,hz,r⟩
 ·obtain⟨z,its,n,r,e⟩:=h.ok I.hok
  exact⟨its,r,⟨_,n,e,rfl,rfl,rfl⟩,z⟩
 ·refine⟨its.toList,r,⟨o,n,I.kIn a o hk,hc,hd,by simpa using hs⟩,?_⟩
  have e:=r.length
  simp only [aP] at e
  omega
theorem Inv.tuple (I:Inv X pins σ H s)(h:SqT X.K H a xs):∃ its:List Value,Vals xs its/\IsTup s.heap a its.toArray/\xs.length<=sizeLine:=by
 rcases h with h | ⟨o,its,n,hk,hc,hs,hz,r⟩
 ·obtain⟨z,its,r,p⟩:=h.ok I.hok
  exact⟨its,r,p.isTup,z⟩
 ·refine⟨its.toList,r,⟨o,I.kIn a o hk,hc,n,by simpa using hs⟩,?_⟩
  have e:=r.length
  simp only [aP] at e
  omega
theorem Inv.list_inj (I:Inv X pins σ H s)(h:SqL X.K H a xs)(h':SqL X.K H a ys):xs=ys:=by
 obtain⟨its,r,⟨o,n,e,_,_,d⟩,_⟩:=I.list h
 obtain⟨its',r',⟨o',n',e',_,_,d'⟩,_⟩:=I.list h'
 rw[e] at e'; cases e'
 rw[d] at d'
 injection d' with d1 _
 have:its=its':=by simpa using bB Array.toList d1
 subst this
 exact r.inj r'
theorem Inv.tuple_inj (I:Inv X pins σ H s)(h:SqT X.K H a xs)(h':SqT X.K H a ys):xs=ys:=by
 obtain⟨its,r,⟨o,e,_,n,d⟩,_⟩:=I.tuple h
 obtain⟨its',r',⟨o',e',_,n',d'⟩,_⟩:=I.tuple h'
 rw[e] at e'; cases e'
 rw[d] at d'
 injection d' with d1 _
 have:its=its':=by simpa using bB Array.toList d1
 subst this
 exact r.inj r'
end
abbrev Cx.wish (X:Cx)(E:Value->Shared->Prop):Cx:= { X with xe:=E}
abbrev Cx.nox (X:Cx):Cx:=X.wish fun _ _=>False
theorem Cx.Ok.wish {X:Cx}(ok:X.Ok)(E:Value->Shared->Prop):(X.wish E).Ok:=
 ⟨ok.mod,ok.kind,ok.glob,ok.blt,ok.above,ok.inj,ok.has,ok.cab,ok.hd,ok.frames,ok.stk,ok.exf,ok.bs,ok.bsz,ok.noex,ok.exfs,ok.funs,ok.frf⟩
theorem Cx.Ok.unwish {X:Cx}{E:Value->Shared->Prop}(ok:(X.wish E).Ok):X.Ok:=
 ⟨ok.mod,ok.kind,ok.glob,ok.blt,ok.above,ok.inj,ok.has,ok.cab,ok.hd,ok.frames,ok.stk,ok.exf,ok.bs,ok.bsz,ok.noex,ok.exfs,ok.funs,ok.frf⟩
section
variable {X:Cx}{pins:List (Addr×Obj)}{σ:St}{H:Hp}{s:Shared}{E:Value->Shared->Prop}
theorem Inv.wish (I:Inv X pins σ H s)(E:Value->Shared->Prop):Inv (X.wish E) pins σ H s:=⟨I.ok.wish E,I.os,I.bare,I.base,I.loc,I.cell,I.free,I.freeC,I.pin,I.hok,I.len⟩
theorem Inv.unwish (I:Inv (X.wish E) pins σ H s):Inv X pins σ H s:=⟨I.ok.unwish,I.os,I.bare,I.base,I.loc,I.cell,I.free,I.freeC,I.pin,I.hok,I.len⟩
theorem SP.unwish {D:Ends}{f:Flow}{s':Shared}(h:SP (X.wish E) pins D f s'):SP X pins D f s':=by
 cases f with
 | next=>obtain⟨σ',H',I,q⟩:=h; exact⟨σ',H',I.unwish,q⟩
 | brk=>obtain⟨σ',H',I,q⟩:=h; exact⟨σ',H',I.unwish,q⟩
 | cont=>obtain⟨σ',H',I,q⟩:=h; exact⟨σ',H',I.unwish,q⟩
 | ret u=>obtain⟨v,σ',H',I,r,q⟩:=h; exact⟨v,σ',H',I.unwish,r,q⟩
theorem PSs.nox {st:List Stmt}{t:TS}(h:PSs X.nox st t):PSs X st t:=fun pins s σ H D I hw=>
 bS (h pins s σ H D (I.wish _) hw) (fun _ _ q=>q.unwish) fun _ _ z=>False.elim z
end
section
variable {X:Cx}{st:Stmt}{rest:List Stmt}{t u:TS}{e:Expr}{te:TE}{pos:Pos}
def tNext:TS:=fun D σ H=>D.nx σ H
def tSeq (t u:TS):TS:=fun D σ H=>t { D with nx:=u D} σ H
theorem jFQ:PSs X [] tNext:=fun _ _ σ H _ I h=>eV ⟨σ,H,I,h⟩
theorem jA8 (h1:PS X st t)(h2:PSs X rest u):PSs X (st::rest) (tSeq t u):=by
 intro pins s σ H D I h
 refine wpAny_execs_cons (thn (h1 pins s σ H { D with nx:=u D} I h) fun f s1 q=>?_)
 cases f with
 | next=>
  obtain⟨σ',H',I',q⟩:=q
  exact h2 pins s1 σ' H' D I' q
 | ret v=>exact q
 | brk=>exact q
 | cont=>exact q
theorem jB6 (h1:PS X st t):PSs X [st] t:=by
 intro pins s σ H D I h
 refine wpAny_execs_cons (thn (h1 pins s σ H D I h) fun f s1 q=>?_)
 cases f with
 | next=>exact eV q
 | ret v=>exact q
 | brk=>exact q
 | cont=>exact q
theorem Inv.quiet {pins:List (Addr×Obj)}{σ:St}{H:Hp}{s:Shared}(I:Inv X pins σ H s):interactive X.env=false:=by simp [interactive,I.ok.kind]
def tDrop (te:TE):TS:=fun D σ H=>te σ H fun _ H1=>D.nx σ H1
theorem jMJ (he:PE X e te)(hs:swapsWith e none pos.line X.env=pure false:=by rfl):PS X (.Expr e pos) (tDrop te):=by
 intro pins s σ H D I h
 exact wpAny_Expr_any (thn (he pins s σ H _ I h) fun v s1 ⟨x,H1,I1,r1,q1⟩=>⟨σ,H1,I1,q1⟩) I.quiet hs
def tRet (te:TE):TS:=fun D σ H=>te σ H D.rt
theorem jD7 (he:PE X e te):PS X (.Return (some e) pos) (tRet te):=by
 intro pins s σ H D I h
 exact wpAny_Return_some (thn (he pins s σ H _ I h) fun v s1 ⟨x,H1,I1,r1,q1⟩=>⟨x,σ,H1,I1,r1,q1⟩)
def tIfS (c:TT)(t u:TS):TS:=fun D σ H=>c σ H fun b H1=>if b=true then t D σ H1 else u D σ H1
theorem ps_if {c:Expr}{a b:List Stmt}{tc:TT}(hc:PT X c tc)(ha:PSs X a t)(hb:PSs X b u):PS X (.If c a b pos) (tIfS tc t u):=by
 intro pins s σ H D I h
 refine wpAny_If (thn (hc pins s σ H _ I h) fun d s1 ⟨H1,I1,q1⟩=>?_)
 cases d with
 | true=>exact ha pins s1 σ H1 D I1 q1
 | false=>exact hb pins s1 σ H1 D I1 q1
end
abbrev TG:=V->St->Hp->(St->Hp->Prop)->Prop
abbrev TGs:=List V->St->Hp->(St->Hp->Prop)->Prop
def PG (X:Cx)(target:Expr)(t:TG):Prop:=
 ∀ (pins:List (Addr×Obj)) (s:Shared) (σ:St) (H:Hp) (v:V) (u:Value) (Q:St->Hp->Prop),Inv X pins σ H s->RelV v u->t v σ H Q->
  wpAny (model X.prog X.w) X.A (assign target X.env u) (fun _ s'=>∃ σ' H',Inv X pins σ' H' s'/\Q σ' H') X.xe s
def PGs (X:Cx)(ts:List Expr)(t:TGs):Prop:=
 ∀ (pins:List (Addr×Obj)) (s:Shared) (σ:St) (H:Hp) (vs:List V) (us:List Value) (Q:St->Hp->Prop),Inv X pins σ H s->Vals vs us->t vs σ H Q->
  wpAny (model X.prog X.w) X.A (assignInOrder ((assignEach ts X.env).map (·.2)) us) (fun _ s'=>∃ σ' H',Inv X pins σ' H' s'/\Q σ' H') X.xe s
abbrev TSet:=V->V->V->Hp->(Hp->Prop)->Prop
def PSet (X:Cx)(t:TSet):Prop:=
 ∀ (pins:List (Addr×Obj)) (s:Shared) (σ:St) (H:Hp) (o i v:V) (ov iv u:Value) (Q:Hp->Prop),Inv X pins σ H s->RelV o ov->RelV i iv->RelV v u->t o i v H Q->
  wpAny (model X.prog X.w) X.A (setItem ov iv u) (fun _ s'=>∃ H',Inv X pins σ H' s'/\Q H') X.xe s
section
variable {X:Cx}{pos:Pos}
def jV (i:Nat):TG:=fun v σ H Q=>Q (σ.set i (some v)) H
theorem jI4 {i:Nat}{x:Str}(hN:X.N.Nodup)(hi:X.N[i]?=some x)(hx:Loc X.env.scope x)(hf:X.fn x=true\/X.env.scope.names.lookup x=some .local:=by first | exact .inl rfl | exact .inr rfl | assumption):PG X (.Name x pos) (jV i):=by
 intro pins s σ H v u Q I r h
 exact wpAny_assign_Name (jC4 I hN hi hx r (fun s' I'=>⟨_,H,I',h⟩) hf)
def gNil:TGs:=fun vs σ H Q=>vs=[]/\Q σ H
def yY (t:TG)(u:TGs):TGs:=fun vs σ H Q=>∃ v r,vs=v::r/\t v σ H fun σ' H'=>u r σ' H' Q
theorem jMR:PGs X [] gNil:=by
 intro pins s σ H vs us Q I r h
 obtain⟨e,h⟩:=h
 subst e
 cases r
 exact assignInOrder_nil ⟨σ,H,I,h⟩
theorem jK7 {e:Expr}{es:List Expr}{t:TG}{u:TGs}(h1:PG X e t)(h2:PGs X es u)
  (hs:(assignEach (e::es) X.env).map (·.2)=assign e X.env::(assignEach es X.env).map (·.2):=by rfl):PGs X (e::es) (yY t u):=by
 intro pins s σ H vs us Q I r h
 obtain⟨v,vr,e1,h⟩:=h
 subst e1
 cases r with
 | cons r rr=>
  rw[hs]
  refine assignInOrder_cons (thn (h1 pins s σ H _ _ _ I r h) fun _ s1 ⟨σ1,H1,I1,q1⟩=>?_)
  exact h2 pins s1 σ1 H1 _ _ Q I1 rr q1
def gTup (K:W.Frag)(n:Nat)(t:TGs):TG:=fun v σ H Q=>∃ a xs,v= .ref a/\SqT K H a xs/\xs.length=n/\t xs σ H Q
theorem jOU {es:List Expr}{k:Nat}{t:TGs}{n:Nat}(hc:X.calm=true)(h:PGs X es t)
  (hn:(assignEach es X.env).length=n:=by rfl) (hst:(assignEach es X.env).findIdx? (·.1)=none:=by rfl):PG X (.Tuple es k pos) (gTup X.K n t):=by
 intro pins s σ H v u Q I r hw
 obtain⟨a,xs,e1,hq,hl,hw⟩:=hw
 subst e1
 cases r
 obtain⟨its,rv,ht,hz⟩:=I.tuple hq
 refine assign_Tuple_tuple (I.ok.hd hc) ht (by simp [hn,<- hl,rv.length]) hst fun h' hx=>?_
 have I1:Inv X pins σ H { s with heap:=h'} :=I.kept (t':=s.toks) fun b o e=>hx b o (ba (aB e)) e
 exact h pins _ σ H xs _ Q I1 (by simpa using rv) hw
def gSub (to ti:TE)(t:TSet):TG:=fun v σ H Q=>to σ H fun o H1=>ti σ H1 fun i H2=>t o i v H2 fun H3=>Q σ H3
theorem jOV {o i:Expr}{to ti:TE}{t:TSet}(ho:PE X o to)(hi:PE X i ti)(hs:PSet X t)
  (ha:∀ v,assign (.Subscript o i pos) X.env v=(do
   let ov <- holding [v] (eval o X.env)
   let iv <- holding [v,ov] (eval i X.env)
   standAt pos
   holding [v,ov,iv] (setItem ov iv v)
   release [v,ov,iv] []):=by intro _; rfl):PG X (.Subscript o i pos) (gSub to ti t):=by
 intro pins s σ H v u Q I r h
 rw[ha]
 refine aa (bE (thn (ho pins s σ H _ I h) fun ov s1 ⟨x,H1,I1,r1,q1⟩=>?_))
 refine aa (bE (thn (hi pins s1 σ H1 _ I1 q1) fun iv s2 ⟨y,H2,I2,r2,q2⟩=>?_))
 refine aa (df (aa (bE (thn (hs pins s2 σ H2 x y v ov iv u _ I2 r1 r2 r q2) fun _ s3 ⟨H3,I3,q3⟩=>?_))))
 exact wpAny_release ⟨σ,H3,I3,q3⟩
def tAsg (te:TE)(g:TG):TS:=fun D σ H=>te σ H fun x H1=>g x σ H1 D.nx
theorem jLI {tg e:Expr}{te:TE}{g:TG}(he:PE X e te)(hg:PG X tg g)(hs:swapsWithSole [tg] e pos.line X.env=pure false:=by rfl)(hw:swappedStores [tg] e X.env=pure none:=by rfl)
  (h1:(assignEach [tg] X.env).map (·.2)=[assign tg X.env]:=by rfl):PS X (.Assign [tg] e pos) (tAsg te g):=by
 intro pins s σ H D I h
 refine wpAny_Assign_stores (thn (he pins s σ H _ I h) fun v s1 ⟨x,H1,I1,r1,q1⟩=>?_) hs hw
 rw[h1]
 exact thn (hg pins s1 σ H1 x v _ I1 r1 q1) fun _ s2 q=>q
theorem jD6 {i:Nat}{x:Str}{e:Expr}{te:TE}{pos':Pos}(hN:X.N.Nodup)(hi:X.N[i]?=some x)(hx:Loc X.env.scope x)(he:PE X e te)(hs:swapsWith e (some (.Name x pos')) pos.line X.env=pure false:=by rfl)(hf:X.fn x=true\/X.env.scope.names.lookup x=some .local:=by first | exact .inl rfl | exact .inr rfl | assumption):
  PS X (.Assign [.Name x pos'] e pos) (tAsg te (jV i)):=by
 intro pins s σ H D I h
 refine wpAny_Assign_Name (thn (he pins s σ H _ I h) fun v s1 ⟨y,H1,I1,r1,q1⟩=>?_) hs
 exact jC4 I1 hN hi hx r1 (fun s2 I2=>⟨_,H1,I2,q1⟩) hf
end
section
variable {X:Cx}{pos:Pos}
def jLD (c:TT)(tb:TS):TS:=fun D σ H=>∃ W:Nat->St->Hp->Prop,(∃ m,W m σ H)/\∀ m σ H,W m σ H->
 c σ H fun b H1=>if b=true then ∃ N:St->Hp->Prop,(∀ σ' H',N σ' H'->∃ m',m'<m/\W m' σ' H')/\tb { D with nx:=N,ct:=N,bk:=D.nx} σ H1 else D.nx σ H1
theorem jK2 {c:Expr}{body:List Stmt}{tc:TT}{tb:TS}(hp:PassesOwn (model X.prog X.w) X.A X.env X.xe)(hc:PT X c tc)(hb:PSs X body tb):PS X (.While c body [] pos) (jLD tc tb):=by
 intro pins s σ H D I h
 obtain⟨W,⟨m0,w0⟩,turn⟩:=h
 refine wpAny_While (codeAny_whileLoop (fun n s'=>∃ σ' H',Inv X pins σ' H' s'/\W n σ' H') ?_ m0 ⟨σ,H,I,w0⟩)
 rintro n s1 ⟨σ1,H1,I1,w1⟩
 refine cX hp (thn (hc pins s1 σ1 H1 _ I1 (turn n σ1 H1 w1)) fun b s2 ⟨H2,I2,q2⟩=>?_)
 cases b with
 | true=>
  obtain⟨N,hN,q2⟩:=q2
  rw[ao rfl]
  refine cX hp (thn (hb pins s2 σ1 H2 _ I2 q2) fun f s3 q3=>?_)
  cases f with
  | next=>
   obtain⟨σ3,H3,I3,n3⟩:=q3
   obtain⟨m',hm,w3⟩:=hN σ3 H3 n3
   exact⟨m',hm,σ3,H3,I3,w3⟩
  | cont=>
   obtain⟨σ3,H3,I3,n3⟩:=q3
   obtain⟨m',hm,w3⟩:=hN σ3 H3 n3
   exact⟨m',hm,σ3,H3,I3,w3⟩
  | brk=>exact q3
  | ret v=>exact q3
 | false=>
  rw[ax ag]
  exact eV ⟨σ1,H2,I2,q2⟩
end
structure It where
 go:Nat->Hp->Prop
 yld:Nat->Hp->V->Hp->Prop
 stop:Nat->Hp->Prop
def FpOk (X:Cx)(pins:List (Addr×Obj))(H:Hp)(b:Addr):Prop:=
 H b=none/\b≠X.env.locals/\b∉X.fs/\(b∈X.ex\/X.s₀.heap.objs.size<=b)/\(∀ x c,X.env.cells.lookup x=some c->c≠b)/\∀ p∈X.pn++pins,p.1≠b
theorem Inv.fpOk {X:Cx}{pins:List (Addr×Obj)}{σ:St}{H H':Hp}{s:Shared}{b:Addr}(I:Inv X pins σ H s)(hb:s.heap.objs.size<=b)(hn:H' b=none):FpOk X pins H' b:=by
 refine⟨hn,dv (aX I.lt hb),I.nofs hb, .inr (bW I.sz hb),fun x c e z=>?_,fun p hp z=>?_⟩
 ·obtain⟨v,q⟩:=I.cell x c e
  exact absurd (aX q.lt (by rw[z]; exact hb)) (ck _)
 ·exact absurd (aX (aB (I.pin p hp).1) (by rw[z]; exact hb)) (ck _)
structure Turn (P:Program)(w:World)(K:W.Frag)(tg:Expr)(J:It)(fp:List Addr)(it:Addr)(tn:Nat->Heap->Prop):Prop where
 mem:it∈fp
 obj:∀ i h,tn i h->∀ b∈fp,∃ o,h.get? b=some o/\∀ v,o.data≠ .cell v
 keep:∀ i h h',tn i h->(∀ b∈fp,∀ o,h.get? b=some o->h'.get? b=some o)->tn i h'
 item:∀ (X:Cx),X.prog=P->X.w=w->X.K=K->X.calm=true->∀ (i:Nat) (pins:List (Addr×Obj)) (s:Shared) (σ:St) (H:Hp) (E:Value->Shared->Prop),Inv X pins σ H s->(∀ b∈fp,FpOk X pins H b)->tn i s.heap->J.go i H->
  wpAny (model P w) X.A (pyNext (.ref it)) (fun r s1=>∃ u,r=some u/\
   wpAny (model P w) X.A (letOwnedTupleGo tg (.ref it) u) (fun _ s2=>∃ x H',Inv X pins σ H' s2/\RelV x u/\J.yld i H x H'/\tn (i+1) s2.heap/\∀ b∈fp,H' b=none) E s1) E s
 done:∀ (X:Cx),X.prog=P->X.w=w->X.K=K->X.calm=true->∀ (i:Nat) (pins:List (Addr×Obj)) (s:Shared) (σ:St) (H:Hp) (E:Value->Shared->Prop),Inv X pins σ H s->(∀ b∈fp,FpOk X pins H b)->tn i s.heap->J.stop i H->
  wpAny (model P w) X.A (pyNext (.ref it)) (fun r s1=>r=none/\Inv X pins σ H s1) E s
 self:∀ (A:Around) (i:Nat) (s:Shared) (Q:Value->Shared->Prop) (E:Value->Shared->Prop),tn i s.heap->Q (.ref it) s->wpAny (model P w) A (pyIter (.ref it)) Q E s
abbrev TI:=St->Hp->(It->Hp->Prop)->Prop
def PIE (X:Cx)(pins:List (Addr×Obj))(σ:St)(tg:Expr)(R:It->Hp->Prop)(itv:Value)(s2:Shared):Prop:=
 ∃ (it:Addr) (fp:List Addr) (tn:Nat->Heap->Prop) (J:It) (H':Hp),itv= .ref it/\Inv X pins σ H' s2/\Turn X.prog X.w X.K tg J fp it tn/\tn 0 s2.heap/\(∀ b∈fp,FpOk X pins H' b)/\R J H'
def PI (X:Cx)(tg iter:Expr)(wi:TI):Prop:=
 ∀ (pins:List (Addr×Obj)) (s:Shared) (σ:St) (H:Hp) (R:It->Hp->Prop),Inv X pins σ H s->wi σ H R->
  wpAny (model X.prog X.w) X.A (eval iter X.env) (fun v s1=>wpAny (model X.prog X.w) X.A (pyIter v) (PIE X pins σ tg R) X.xe s1) X.xe s
theorem go_of {M:Model}{A:Around}{E:Value->Shared->Prop}{s:Shared}{tg:Expr}{it:Addr}{u:Value}{o:Obj}{n:String}{vs:Array Value}{Q:Unit->Shared->Prop}(ho:s.heap.get? it=some o)(hc:o.cls= .type n)(hd:o.data= .fields vs)
  (hn: ["enumerate","zip","dict_itemiterator","dict_reverseitemiterator","odict_iterator","itertools.zip_longest","itertools.pairwise"].contains n=false) (hQ:Q () s):wpAny M A (letOwnedTupleGo tg (.ref it) u) Q E s:=by
 unfold letOwnedTupleGo
 cases tg <;> first
  | exact am hQ
  | (cases u <;> first
    | exact am hQ
    | (refine aa (gQ ho ?_)
       rw [hc, hd]
       show wpAny M A (if (["enumerate", "zip", "dict_itemiterator", "dict_reverseitemiterator", "odict_iterator", "itertools.zip_longest", "itertools.pairwise"].contains n && vs[0]? == some (rawInt _)) = true then _ else _) Q E s
       rw [ax (by intro h; rw [hn, Bool.false_and] at h; cases h)]
       exact am hQ))
def Itl (K:W.Frag)(a:Addr):It:=
 ⟨fun i H=>∃ xs x,SqL K H a xs/\xs[i]?=some x,fun i H x H'=>H'=H/\∀ xs,SqL K H a xs->xs[i]?=some x,fun i H=>∃ xs,SqL K H a xs/\xs.length<=i⟩
def Itt (K:W.Frag)(a:Addr):It:=
 ⟨fun i H=>∃ xs x,SqT K H a xs/\xs[i]?=some x,fun i H x H'=>H'=H/\∀ xs,SqT K H a xs->xs[i]?=some x,fun i H=>∃ xs,SqT K H a xs/\xs.length<=i⟩
def Itr (lo:Int)(n:Nat):It:=⟨fun i _=>i<n,fun i H x H'=>H'=H/\x= .int (lo+i),fun i _=>n<=i⟩
theorem jHM {P:Program}{w:World}{K:W.Frag}{tg:Expr}(a it:Addr):Turn P w K tg (Itl K a) [it] it (fun i h=>h.IsListIter it a i) where
 mem:=by simp
 obj:=fun i h st b hb=>by
  have e:b=it:=by simpa using hb
  subst e
  obtain⟨o,e,c,d⟩:=st
  exact⟨o,e,fun v z=>by rw[d] at z; cases z⟩
 keep:=fun i h h' st k=>st.at fun o e=>k it (by simp) o e
 item:=by
  intro X hP hw hK hc i pins s σ H E I hf st hg
  subst hP hw hK
  obtain⟨xs,x,hq,hx⟩:=hg
  obtain⟨its,rv,p,hz⟩:=I.list hq
  obtain⟨u,hu,ru⟩:=rv.get hx
  obtain⟨f0,f1,f2,f3,f4,f5⟩:=hf it (by simp)
  refine wpAny_pyNext_list_item st p.isList (x:=u) (by simpa using hu) fun h' st' sb=>?_
  have I1:Inv X pins σ H { s with heap:=h'} :=I.turned (t':=s.toks) (fun b o hb e=>(sb.2 b hb).trans e) f0 f1 f3 f4 f5
  obtain⟨o,e,c,d⟩:=id st'
  exact⟨u,rfl,go_of (s:= { s with heap:=h'}) e c d (by decide) ⟨x,H,I1,ru,⟨rfl,fun ys hy=>by rw[I.list_inj hy hq]; exact hx⟩,st',fun b hb=>(hf b hb).1⟩⟩
 done:=by
  intro X hP hw hK hc i pins s σ H E I hf st hg
  subst hP hw hK
  obtain⟨xs,hq,hx⟩:=hg
  obtain⟨its,rv,p,hz⟩:=I.list hq
  obtain⟨f0,f1,f2,f3,f4,f5⟩:=hf it (by simp)
  have hl:=rv.length
  exact wpAny_pyNext_list_end (I.ok.hd hc) st p.isList (by simp; omega) fun h' eb=>⟨rfl,I.turned (t':=s.toks) (fun b o hb e=>eb b o hb e) f0 f1 f3 f4 f5⟩
 self:=fun _ _ _ _ _ st h=>wpAny_pyIter_listiter st h
theorem jGV {P:Program}{w:World}{K:W.Frag}{tg:Expr}(a it:Addr):Turn P w K tg (Itt K a) [it] it (fun i h=>h.IsTupleIter it a i) where
 mem:=by simp
 obj:=fun i h st b hb=>by
  have e:b=it:=by simpa using hb
  subst e
  obtain⟨o,e,c,d⟩:=st
  exact⟨o,e,fun v z=>by rw[d] at z; cases z⟩
 keep:=fun i h h' st k=>st.at fun o e=>k it (by simp) o e
 item:=by
  intro X hP hw hK hc i pins s σ H E I hf st hg
  subst hP hw hK
  obtain⟨xs,x,hq,hx⟩:=hg
  obtain⟨its,rv,p,hz⟩:=I.tuple hq
  obtain⟨u,hu,ru⟩:=rv.get hx
  obtain⟨f0,f1,f2,f3,f4,f5⟩:=hf it (by simp)
  refine wpAny_pyNext_tuple_item st (show s.heap.IsTuple a its.toArray from p) (x:=u) (by simpa using hu) fun h' st' sb=>?_
  have I1:Inv X pins σ H { s with heap:=h'} :=I.turned (t':=s.toks) (fun b o hb e=>(sb.2 b hb).trans e) f0 f1 f3 f4 f5
  obtain⟨o,e,c,d⟩:=id st'
  exact⟨u,rfl,go_of (s:= { s with heap:=h'}) e c d (by decide) ⟨x,H,I1,ru,⟨rfl,fun ys hy=>by rw[I.tuple_inj hy hq]; exact hx⟩,st',fun b hb=>(hf b hb).1⟩⟩
 done:=by
  intro X hP hw hK hc i pins s σ H E I hf st hg
  subst hP hw hK
  obtain⟨xs,hq,hx⟩:=hg
  obtain⟨its,rv,p,hz⟩:=I.tuple hq
  obtain⟨f0,f1,f2,f3,f4,f5⟩:=hf it (by simp)
  have hl:=rv.length
  exact wpAny_pyNext_tuple_end (I.ok.hd hc) st (show s.heap.IsTuple a its.toArray from p) (by simp; omega) fun h' eb=>⟨rfl,I.turned (t':=s.toks) (fun b o hb e=>eb b o hb e) f0 f1 f3 f4 f5⟩
 self:=fun _ _ _ _ _ st h=>wpAny_pyIter_tupleiter st h
theorem jGW {P:Program}{w:World}{K:W.Frag}{tg:Expr}(it:Addr)(lo:Int)(n:Nat):Turn P w K tg (Itr lo n) [it] it (fun i h=>IsRangeIter h it (lo+(i:Nat)*1) ((n:Int) - (i:Nat)) 1) where
 mem:=by simp
 obj:=fun i h st b hb=>by
  have e:b=it:=by simpa using hb
  subst e
  exact⟨_,st,fun v z=>by
   have z':Data.fields _=Data.cell v:=z
   cases z'⟩
 keep:=fun i h h' st k=>k it (by simp) _ st
 item:=by
  intro X hP hw hK hc i pins s σ H E I hf st hg
  subst hP hw hK
  obtain⟨f0,f1,f2,f3,f4,f5⟩:=hf it (by simp)
  have W:=Walks.range (prog:=X.prog) (w:=X.w) (I.ok.hd hc) it lo 1 n
  refine W.item i s _ _ hg st fun v h' tk hv st' kk=>?_
  obtain⟨t,rfl⟩:=hv
  have I1:Inv X pins σ H { s with heap:=h',toks:=tk} :=I.turned (fun b o hb e=>kk b o (by simpa using hb) e) f0 f1 f3 f4 f5
  refine⟨_,rfl,go_of (s:= { s with heap:=h',toks:=tk}) (n:= "range_iterator") st' rfl rfl (by decide) ⟨.int (lo+i),H,I1,⟨t,?_⟩,⟨rfl,rfl⟩,st',fun b hb=>(hf b hb).1⟩⟩
  rw[Int.mul_one]
 done:=by
  intro X hP hw hK hc i pins s σ H E I hf st hg
  subst hP hw hK
  obtain⟨f0,f1,f2,f3,f4,f5⟩:=hf it (by simp)
  exact wpAny_pyNext_range_end (I.ok.hd hc) st (by have:n<=i:=hg; omega) fun h' eb=>⟨rfl,I.turned (t':=s.toks) (fun b o hb e=>eb b o hb e) f0 f1 f3 f4 f5⟩
 self:=fun _ _ _ _ _ st h=>wpAny_pyIter_rangeiter st h
end L2
namespace L2
open PySem PySem.Spec PyProof.Rows
section
variable {X:Cx}{tg:Expr}
def iList (K:W.Frag)(tl:TE):TI:=fun σ H R=>tl σ H fun x H1=>∃ a,x= .ref a/\(∃ xs,SqL K H1 a xs)/\R (Itl K a) H1
def iTup (K:W.Frag)(tl:TE):TI:=fun σ H R=>tl σ H fun x H1=>∃ a,x= .ref a/\(∃ xs,SqT K H1 a xs)/\R (Itt K a) H1
theorem jMP {l:Expr}{tl:TE}(hl:PE X l tl):PI X tg l (iList X.K tl):=by
 intro pins s σ H R I h
 refine thn (hl pins s σ H _ I h) fun v s1 ⟨x,H1,I1,r1,q1⟩=>?_
 obtain⟨a,e,⟨xs,hq⟩,q⟩:=q1
 subst e
 cases r1
 obtain⟨its,rv,p,hz⟩:=I1.list hq
 refine da p.isList ?_
 refine⟨s1.heap.objs.size,[s1.heap.objs.size],_,_,H1,rfl,I1.kept (t':=s1.toks) fun b o e=>ae _ e,jHM a _,⟨_,aE _ rfl,rfl,rfl⟩,fun b hb=>?_,q⟩
 have e:b=s1.heap.objs.size:=by simpa using hb
 subst e
 exact I1.fpOk (az _) (I1.hok.fresh (az _))
theorem jOT {l:Expr}{tl:TE}(hl:PE X l tl):PI X tg l (iTup X.K tl):=by
 intro pins s σ H R I h
 refine thn (hl pins s σ H _ I h) fun v s1 ⟨x,H1,I1,r1,q1⟩=>?_
 obtain⟨a,e,⟨xs,hq⟩,q⟩:=q1
 subst e
 cases r1
 obtain⟨its,rv,p,hz⟩:=I1.tuple hq
 refine wpAny_pyIter_tuple (show s1.heap.IsTuple a its.toArray from p) ?_
 refine⟨s1.heap.objs.size,[s1.heap.objs.size],_,_,H1,rfl,I1.kept (t':=s1.toks) fun b o e=>ae _ e,jGV a _,⟨_,aE _ rfl,rfl,rfl⟩,fun b hb=>?_,q⟩
 have e:b=s1.heap.objs.size:=by simpa using hb
 subst e
 exact I1.fpOk (az _) (I1.hok.fresh (az _))
theorem jK0 {pins:List (Addr×Obj)}{σ:St}{H:Hp}{s:Shared}{R:It->Hp->Prop}{E:Value->Shared->Prop}{lo hi:Int}{t u v:Tok}{tk:Nat}(I:Inv X pins σ H s)(h1: -(2 ^ 62)<=lo)(h2:lo<2 ^ 62)(h3: -(2 ^ 62)<=hi)(h4:hi<2 ^ 62)
  (q:R (Itr lo (hi - lo).toNat) H):wpAny (model X.prog X.w) X.A (pyIter (.ref s.heap.objs.size)) (PIE X pins σ tg R) E { s with heap:=s.heap.push { cls:= .type "range",data:= .fields #[.int lo t, .int hi u, .int 1 v]},toks:=tk} :=by
 refine wpAny_pyIter_range (IsRange.new ..) (small_one h1 h2 h3 h4) ?_
 have I1:Inv X pins σ H { s with heap:=s.heap.push { cls:= .type "range",data:= .fields #[.int lo t, .int hi u, .int 1 v]},toks:=tk} :=I.kept fun b o e=>ae _ e
 refine⟨(s.heap.push { cls:= .type "range",data:= .fields #[.int lo t, .int hi u, .int 1 v]}).objs.size,[(s.heap.push { cls:= .type "range",data:= .fields #[.int lo t, .int hi u, .int 1 v]}).objs.size],_,_,H,rfl,
  I1.kept (t':=tk) fun b o e=>ae _ e,jGW _ lo (hi - lo).toNat,?_,fun b hb=>?_,q⟩
 ·have e1:lo+((0:Nat):Int)*1=lo:=by simp
  have e2:(((hi - lo).toNat:Nat):Int) - ((0:Nat):Int)=Builtin.Range.rangeSize lo hi 1:=by rw[rangeSize_one]; split <;> omega
  show IsRangeIter _ _ (lo+((0:Nat):Int)*1) ((((hi - lo).toNat:Nat):Int) - ((0:Nat):Int)) 1
  rw[e1,e2]
  exact aE _ rfl
 ·have e:b=(s.heap.push { cls:= .type "range",data:= .fields #[.int lo t, .int hi u, .int 1 v]}).objs.size:=by simpa using hb
  subst e
  exact I1.fpOk (az _) (I1.hok.fresh (az _))
def iRng1 (ta:TA):TI:=fun σ H R=>ta σ H fun vs H1=>∃ j:Int,vs=[.int j]/\ -(2 ^ 62)<=j/\j<2 ^ 62/\R (Itr 0 j.toNat) H1
theorem jEP {a:Expr}{ta:TA}{p pos:Pos}(hg:Gl X "range")(hm:X.mg "range" =none)(ha:PA X [a] ta)(hs:starEach [a] X.env=[(false,eval a X.env)]:=by rfl):PI X tg (.Call (.Name "range" p) [a] [] pos) (iRng1 ta):=by
 intro pins s σ H R I h
 refine Call_ (jCR I hg hm boot_range (cM (thn (ha pos pins s σ H _ I h) fun us s1 ⟨vs,H1,I1,r1,q1⟩=>?_) hs rfl))
 obtain⟨j,e,q1,q2,q⟩:=q1
 subst e
 cases r1 with
 | cons r rr=>
  cases rr
  obtain⟨t,rfl⟩:=r
  exact call_range_1 (jK0 I1 (by omega) (by omega) q1 q2 (by simpa using q))
def tFor (wi:TI)(g:TG)(tb:TS):TS:=fun D σ H=>wi σ H fun J H1=>∃ W:Nat->Nat->St->Hp->Prop,(∃ m,W 0 m σ H1)/\∀ i m σ H,W i m σ H->
 (J.stop i H/\D.nx σ H)\/(J.go i H/\∃ N:St->Hp->Prop,(∀ σ' H',N σ' H'->∃ m',m'<m/\W (i+1) m' σ' H')/\∀ x H',J.yld i H x H'->g x σ H' fun σ2 H2=>tb { D with nx:=N,ct:=N,bk:=D.nx} σ2 H2)
def jEO (fp:List Addr)(h:Heap):List (Addr×Obj):=fp.filterMap fun b=>(h.get? b).map fun o=>(b,o)
theorem jAY {fp:List Addr}{h:Heap}{b:Addr}{o:Obj}(hb:b∈fp)(e:h.get? b=some o):(b,o)∈jEO fp h:=gR.mpr ⟨b,hb,by rw[e]; rfl⟩
theorem jIF {fp:List Addr}{h:Heap}{p:Addr×Obj}(hp:p∈jEO fp h):p.1∈fp/\h.get? p.1=some p.2:=by
 obtain⟨b,hb,e⟩:=gR.mp hp
 cases q:h.get? b with
 | none=>rw[q] at e; cases e
 | some o=>
  rw[q] at e
  have e':(b,o)=p:=bg e
  subst e'
  exact⟨hb,q⟩
theorem Inv.pinned {pins:List (Addr×Obj)}{σ:St}{H:Hp}{s:Shared}{fp:List Addr}(I:Inv X pins σ H s)(hf:∀ b∈fp,FpOk X pins H b)(ho:∀ b∈fp,∃ o,s.heap.get? b=some o/\∀ v,o.data≠ .cell v):Inv X (pins++jEO fp s.heap) σ H s:=
 I.pins_of fun p hp=>(aq.mp hp).elim (fun z=>I.pin p (aF _ z)) fun z=>by
  obtain⟨hb,e⟩:=jIF z
  obtain⟨f0,f1,f2,_⟩:=hf p.1 hb
  obtain⟨o,e',d⟩:=ho p.1 hb
  rw[e] at e'; cases e'
  exact⟨e,f0,f1,f2,d⟩
theorem Inv.unpinned {pins pl:List (Addr×Obj)}{σ:St}{H:Hp}{s:Shared}(I:Inv X (pins++pl) σ H s):Inv X pins σ H s:=I.pins_of fun p hp=>I.pin p (aF _ (aJ _ hp))
theorem jLH {iter:Expr}{body:List Stmt}{wi:TI}{g:TG}{tb:TS}{pos:Pos}(hp:PassesOwn (model X.prog X.w) X.A X.env X.xe)(hc:X.calm=true)(hi:PI X tg iter wi)(hg:PG X tg g)(hb:PSs X body tb)
  (hs:∀ x,foldedSetIterable iter X.env x=pure x:=by intro _; rfl):PS X (.For tg iter body [] pos) (tFor wi g tb):=by
 intro pins s σ H D I h
 refine wpAny_For (thn (hi pins s σ H _ I h) fun v s1 h1=>thn h1 fun itv s2 h2=>?_) hs
 obtain⟨it,fp,tn,J,H2,e,I2,T,st2,f2,W,⟨m0,w0⟩,turn⟩:=h2
 subst e
 have stat:∀ {H':Hp},(∀ b∈fp,H' b=none)->∀ b∈fp,FpOk X pins H' b:=fun hn b hb=>⟨hn b hb,(f2 b hb).2⟩
 refine codeAny_forLoop_any (fun n s'=>∃ i σ' H',Inv X pins σ' H' s'/\tn i s'.heap/\(∀ b∈fp,H' b=none)/\W i n σ' H') ?_ m0 ⟨0,σ,H2,I2,st2,fun b hb=>(f2 b hb).1,w0⟩
 rintro n s3 ⟨i,σ3,H3,I3,st3,fr3,w3⟩
 rcases turn i n σ3 H3 w3 with ⟨stop,qn⟩ | ⟨go,N,hN,step⟩
 ·refine cX hp (thn (T.done X rfl rfl rfl hc i pins s3 σ3 H3 X.xe I3 (stat fr3) st3 stop) fun r s4 ⟨hr,I4⟩=>?_)
  subst hr
  exact eV ⟨σ3,H3,I4,qn⟩
 ·refine cX hp (thn (T.item X rfl rfl rfl hc i pins s3 σ3 H3 X.xe I3 (stat fr3) st3 go) fun r s4 ⟨u,hr,h4⟩=>?_)
  subst hr
  refine cX hp (thn h4 fun _ s5 ⟨x,H5,I5,r5,y5,st5,fr5⟩=>?_)
  have I5':=I5.pinned (stat fr5) (T.obj _ _ st5)
  refine cX hp (thn (hg _ s5 σ3 H5 x u _ I5' r5 (step x H5 y5)) fun _ s6 ⟨σ6,H6,I6,q6⟩=>?_)
  refine cX hp (thn (hb _ s6 σ6 H6 _ I6 q6) fun f s7 q7=>?_)
  have again:∀ {σ7:St}{H7:Hp},Inv X (pins++jEO fp s5.heap) σ7 H7 s7->N σ7 H7->∃ m,m<n/\∃ i σ' H',Inv X pins σ' H' s7/\tn i s7.heap/\(∀ b∈fp,H' b=none)/\W i m σ' H':=fun {σ7 H7} I7 n7=>by
   obtain⟨m',hm,w7⟩:=hN σ7 H7 n7
   refine⟨m',hm,i+1,σ7,H7,I7.unpinned,T.keep _ _ _ st5 fun b hb o e=>(I7.pin (b,o) (aF _ (aF _ (jAY hb e)))).1,fun b hb=>?_,w7⟩
   obtain⟨o,e,d⟩:=T.obj _ _ st5 b hb
   exact(I7.pin (b,o) (aF _ (aF _ (jAY hb e)))).2.1
  cases f with
  | next=>obtain⟨σ7,H7,I7,n7⟩:=q7; exact again I7 n7
  | cont=>obtain⟨σ7,H7,I7,n7⟩:=q7; exact again I7 n7
  | brk=>obtain⟨σ7,H7,I7,q7⟩:=q7; exact⟨σ7,H7,I7.unpinned,q7⟩
  | ret v=>obtain⟨x7,σ7,H7,I7,r7,q7⟩:=q7; exact⟨x7,σ7,H7,I7.unpinned,r7,q7⟩
end
theorem jBJ {K:W.Frag}{a:Addr}{xs:List V}{g:TG}{tb:TS}{D:Ends}{σ:St}{H:Hp}(Pv:Nat->St->Hp->Prop)(h0:Pv 0 σ H)(hl:∀ i σ H,i<=xs.length->Pv i σ H->SqL K H a xs)
  (hs:∀ i x σ H,xs[i]?=some x->Pv i σ H->g x σ H fun σ2 H2=>tb { D with nx:=Pv (i+1),ct:=Pv (i+1),bk:=D.nx} σ2 H2) (hd:∀ σ H,Pv xs.length σ H->D.nx σ H):
  ∃ W:Nat->Nat->St->Hp->Prop,(∃ m,W 0 m σ H)/\∀ i m σ H,W i m σ H->
   ((Itl K a).stop i H/\D.nx σ H)\/((Itl K a).go i H/\∃ N:St->Hp->Prop,(∀ σ' H',N σ' H'->∃ m',m'<m/\W (i+1) m' σ' H')/\∀ x H',(Itl K a).yld i H x H'->g x σ H' fun σ2 H2=>tb { D with nx:=N,ct:=N,bk:=D.nx} σ2 H2):=by
 refine⟨fun i m σ H=>m=xs.length - i/\i<=xs.length/\Pv i σ H,⟨xs.length,by simp,bH _,h0⟩,?_⟩
 rintro i m σ H ⟨rfl,hi,p⟩
 have q:=hl i σ H hi p
 by_cases hlt:i<xs.length
 ·refine .inr ⟨⟨xs,xs[i],q,by simp [hlt]⟩,Pv (i+1),fun σ' H' p'=>⟨xs.length - (i+1),by omega,rfl,hlt,p'⟩,fun x H' y=>?_⟩
  obtain⟨e,y⟩:=y
  subst e
  exact hs i x σ _ (y xs q) p
 ·have e:i=xs.length:=by omega
  subst e
  exact .inl ⟨⟨xs,q,az _⟩,hd σ H p⟩
theorem jAS {lo:Int}{n:Nat}{g:TG}{tb:TS}{D:Ends}{σ:St}{H:Hp}(Pv:Nat->St->Hp->Prop)(h0:Pv 0 σ H)
  (hs:∀ i σ H,i<n->Pv i σ H->g (.int (lo+i)) σ H fun σ2 H2=>tb { D with nx:=Pv (i+1),ct:=Pv (i+1),bk:=D.nx} σ2 H2) (hd:∀ σ H,Pv n σ H->D.nx σ H):
  ∃ W:Nat->Nat->St->Hp->Prop,(∃ m,W 0 m σ H)/\∀ i m σ H,W i m σ H->
   ((Itr lo n).stop i H/\D.nx σ H)\/((Itr lo n).go i H/\∃ N:St->Hp->Prop,(∀ σ' H',N σ' H'->∃ m',m'<m/\W (i+1) m' σ' H')/\∀ x H',(Itr lo n).yld i H x H'->g x σ H' fun σ2 H2=>tb { D with nx:=N,ct:=N,bk:=D.nx} σ2 H2):=by
 refine⟨fun i m σ H=>m=n - i/\i<=n/\Pv i σ H,⟨n,by simp,bH _,h0⟩,?_⟩
 rintro i m σ H ⟨rfl,hi,p⟩
 by_cases hlt:i<n
 ·refine .inr ⟨hlt,Pv (i+1),fun σ' H' p'=>⟨n - (i+1),by omega,rfl,hlt,p'⟩,fun x H' y=>?_⟩
  obtain⟨e,y⟩:=y
  subst e y
  exact hs i σ _ hlt p
 ·have e:i=n:=by omega
  subst e
  exact .inl ⟨az _,hd σ H p⟩
end L2
namespace L2
open PySem PySem.Spec PyProof.Rows
abbrev R2:=V->V->Hp->VK->Prop
def OpR (X:Cx)(f:Value->Value->Sem Value)(r:R2):Prop:=
 ∀ (pins:List (Addr×Obj)) (s:Shared) (σ:St) (H:Hp) (x y:V) (v u:Value) (Q:VK),Inv X pins σ H s->RelV x v->RelV y u->r x y H Q->
  wpAny (model X.prog X.w) X.A (f v u) (EP X pins σ Q) X.xe s
def UnR (X:Cx)(f:Value->Sem Value)(r:V->Hp->VK->Prop):Prop:=
 ∀ (pins:List (Addr×Obj)) (s:Shared) (σ:St) (H:Hp) (x:V) (v:Value) (Q:VK),Inv X pins σ H s->RelV x v->r x H Q->
  wpAny (model X.prog X.w) X.A (f v) (EP X pins σ Q) X.xe s
def yJ (X:Cx)(f:Value)(r:List V->Hp->VK->Prop):Prop:=
 ∀ (pins:List (Addr×Obj)) (s:Shared) (σ:St) (H:Hp) (xs:List V) (us:List Value) (Q:VK),Inv X pins σ H s->Vals xs us->r xs H Q->
  wpAny (model X.prog X.w) X.A (call f us) (EP X pins σ Q) X.xe s
def tOp (r:R2)(ta tb:TE):TE:=fun σ H Q=>ta σ H fun x H1=>tb σ H1 fun y H2=>r x y H2 Q
def tUn (r:V->Hp->VK->Prop)(ta:TE):TE:=fun σ H Q=>ta σ H fun x H1=>r x H1 Q
def rI (C:Int->Int->Prop)(g:Int->Int->V):R2:=fun x y H Q=>∃ i j,x= .int i/\y= .int j/\C i j/\Q (g i j) H
def rI0 (g:Int->Int->V):R2:=fun x y H Q=>∃ i j,x= .int i/\y= .int j/\Q (g i j) H
def rU (g:Int->V):V->Hp->VK->Prop:=fun x H Q=>∃ i,x= .int i/\Q (g i) H
section
variable {X:Cx}{a b c:Expr}{ta tb tc:TE}{pos:Pos}
theorem binT (ha:PE X a ta)(hb:PE X b tb){pins:List (Addr×Obj)}{s:Shared}{σ:St}{H:Hp}{R:V->V->Hp->Prop}(I:Inv X pins σ H s)
  (h:ta σ H fun x H1=>tb σ H1 fun y H2=>R x y H2) {Q:Value->Shared->Prop}{f:Value->Value->Sem Value}
  (hf:∀ v u s2 x y H2,Inv X pins σ H2 s2->RelV x v->RelV y u->R x y H2->wpAny (model X.prog X.w) X.A (f v u) Q X.xe s2):
  wpAny (model X.prog X.w) X.A (eval a X.env) (fun v s₁=>wpAny (model X.prog X.w) X.A (eval b X.env) (fun u s₂=>wpAny (model X.prog X.w) X.A (f v u) Q X.xe s₂) X.xe s₁) X.xe s:=by
 refine thn (ha pins s σ H _ I h) fun v s1 ⟨x,H1,I1,r1,q1⟩=>?_
 refine thn (hb pins s1 σ H1 _ I1 q1) fun u s2 ⟨y,H2,I2,r2,q2⟩=>?_
 exact hf v u s2 x y H2 I2 r1 r2 q2
theorem yA {op:Operator}{r:R2}(ho:OpR X (binaryOp op) r)(ha:PE X a ta)(hb:PE X b tb):PE X (.BinOp a op b pos) (tOp r ta tb):=by
 intro pins s σ H Q I h
 exact wpAny_BinOp (binT ha hb I h fun v u s2 x y H2 I2 rx ry q=>ho pins s2 σ H2 x y v u Q I2 rx ry q)
theorem pe_un {op:UnaryOp}{r:V->Hp->VK->Prop}(ho:UnR X (unaryOp op) r)(ha:PE X a ta):PE X (.UnaryOp op a pos) (tUn r ta):=by
 intro pins s σ H Q I h
 exact UnaryOp_ (thn (ha pins s σ H _ I h) fun v s1 ⟨x,H1,I1,r1,q1⟩=>ho pins s1 σ H1 x v Q I1 r1 q1)
theorem opI {f:Value->Value->Sem Value}{C:Int->Int->Prop}{g:Int->Int->Int}
  (rule:∀ (i j:Int) (t u:Tok) (s:Shared) (Q:Value->Shared->Prop) (E:Value->Shared->Prop),C i j->Q (.int (g i j) s.toks) { s with toks:=s.toks+1} ->wpAny (model X.prog X.w) X.A (f (.int i t) (.int j u)) Q E s):
  OpR X f (rI C fun i j=> .int (g i j)):=by
 intro pins s σ H x y v u Q I rx ry h
 obtain⟨i,j,rfl,rfl,hc,q⟩:=h
 obtain⟨t,rfl⟩:=rx
 obtain⟨t',rfl⟩:=ry
 exact rule i j t t' s _ _ hc ⟨.int (g i j),H,I.tok _,⟨_,rfl⟩,q⟩
theorem opI0 {f:Value->Value->Sem Value}{g:Int->Int->Int}
  (rule:∀ (i j:Int) (t u:Tok) (s:Shared) (Q:Value->Shared->Prop) (E:Value->Shared->Prop),Q (.int (g i j) s.toks) { s with toks:=s.toks+1} ->wpAny (model X.prog X.w) X.A (f (.int i t) (.int j u)) Q E s):
  OpR X f (rI0 fun i j=> .int (g i j)):=by
 intro pins s σ H x y v u Q I rx ry h
 obtain⟨i,j,rfl,rfl,q⟩:=h
 obtain⟨t,rfl⟩:=rx
 obtain⟨t',rfl⟩:=ry
 exact rule i j t t' s _ _ ⟨.int (g i j),H,I.tok _,⟨_,rfl⟩,q⟩
theorem opB0 {f:Value->Value->Sem Value}{g:Int->Int->Bool}
  (rule:∀ (i j:Int) (t u:Tok) (s:Shared) (Q:Value->Shared->Prop) (E:Value->Shared->Prop),Q (.bool (g i j)) s->wpAny (model X.prog X.w) X.A (f (.int i t) (.int j u)) Q E s):
  OpR X f (rI0 fun i j=> .bl (g i j)):=by
 intro pins s σ H x y v u Q I rx ry h
 obtain⟨i,j,rfl,rfl,q⟩:=h
 obtain⟨t,rfl⟩:=rx
 obtain⟨t',rfl⟩:=ry
 exact rule i j t t' s _ _ ⟨.bl (g i j),H,I,rfl,q⟩
def CPow (i j:Int):Prop:=0<=j/\j<=1000000/\i.natAbs<2 ^ 64
def CMul (i j:Int):Prop:=(-(2 ^ 64)<i/\i<2 ^ 64)\/(-(2 ^ 64)<j/\j<2 ^ 64)
theorem CMul.ok {i j:Int}(h:CMul i j):IntMulOk i j:=by
 rcases h with ⟨h1,h2⟩ | ⟨h1,h2⟩
 ·exact .of_left (intBits_le_64 h1 h2)
 ·exact .of_right (intBits_le_64 h1 h2)
theorem kP:OpR X (binaryOp .Add) (rI0 fun i j=> .int (i+j)):=opI0 fun _ _ _ _ _ _ _ q=>add_int q
theorem jBG:OpR X (binaryOp .Sub) (rI0 fun i j=> .int (i - j)):=opI0 fun _ _ _ _ _ _ _ q=>sub_int q
theorem jBZ:OpR X (binaryOp .Mult) (rI CMul fun i j=> .int (i*j)):=opI fun _ _ _ _ _ _ _ hc q=>mul_int q hc.ok
theorem jGG:OpR X (binaryOp .Mod) (rI (fun _ j=>0<j) fun i j=> .int (i % j)):=opI fun i j _ _ _ _ _ hc q=>by
 have h1:(0:Int)<j:=hc
 exact mod_int' (by omega) (by rw[Int.fmod_eq_emod_of_nonneg i (by omega)]; exact q)
theorem jI9:OpR X (binaryOp .Pow) (rI CPow fun i j=> .int (i ^ j.toNat)):=opI fun _ _ _ _ _ _ _ hc q=>pow_int_small hc.1 hc.2.1 hc.2.2 q
theorem jI8:OpR X (binaryOp .LShift) (rI CPow fun i j=> .int (i*2 ^ j.toNat)):=opI fun _ _ _ _ _ _ _ hc q=>lshift_int_small hc.1 hc.2.1 hc.2.2 q
theorem jLO:OpR X (binaryOp .BitAnd) (rI0 fun i j=> .int (Builtin.bitAnd i j)):=opI0 fun _ _ _ _ _ _ _ q=>and_int q
theorem op_or:OpR X (binaryOp .BitOr) (rI0 fun i j=> .int (Builtin.bitOr i j)):=opI0 fun _ _ _ _ _ _ _ q=>or_int q
theorem unI {f:Value->Sem Value}{g:Int->Int}
  (rule:∀ (i:Int) (t:Tok) (s:Shared) (Q:Value->Shared->Prop) (E:Value->Shared->Prop),Q (.int (g i) s.toks) { s with toks:=s.toks+1} ->wpAny (model X.prog X.w) X.A (f (.int i t)) Q E s):
  UnR X f (rU fun i=> .int (g i)):=by
 intro pins s σ H x v Q I rx h
 obtain⟨i,rfl,q⟩:=h
 obtain⟨t,rfl⟩:=rx
 exact rule i t s _ _ ⟨.int (g i),H,I.tok _,⟨_,rfl⟩,q⟩
theorem jO7:UnR X (unaryOp .USub) (rU fun i=> .int (-i)):=unI fun _ _ _ _ _ q=>neg_int q
theorem jO8:UnR X (unaryOp .Invert) (rU fun i=> .int (Builtin.bitNot i)):=unI fun _ _ _ _ _ q=>invert_int q
end
noncomputable def scal:V->V->Bool
 | .non, .non=>true | .non, .int _=>true | .int _, .non=>true | .non, .bl _=>true | .bl _, .non=>true | .non, .str _=>true | .str _, .non=>true
 | .int _, .int _=>true | .bl _, .bl _=>true | .str _, .str _=>true | .byt _, .byt _=>true
 | .int _, .str _=>true | .str _, .int _=>true | .bl _, .str _=>true | .str _, .bl _=>true
 | _,_=>false
def rEq:R2:=fun x y H Q=>scal x y=true/\Q (.bl (decide (x=y))) H
def rNe:R2:=fun x y H Q=>scal x y=true/\Q (.bl (!decide (x=y))) H
theorem jJF {i j:Int} :decide (V.int i=V.int j)=(i==j):=by
 rw[cY]
 simp
theorem jLX {i j:Bool} :decide (V.bl i=V.bl j)=(i==j):=by
 rw[cY]
 simp
theorem jJE {i j:Str} :decide (V.str i=V.str j)=(i==j):=by
 rw[cY]
 simp
theorem jJG {i j:Array UInt8} :decide (V.byt i=V.byt j)=(i.toList==j.toList):=by
 rw[cY]
 cases i
 cases j
 simp
section
variable {X:Cx}{a b c:Expr}{ta tb tc:TE}{pos:Pos}
theorem jJ {pins:List (Addr×Obj)}{σ:St}{H:Hp}{s:Shared}{Q:VK}{k k':Bool}(I:Inv X pins σ H s)(q:Q (.bl k) H)(e:k=k'):EP X pins σ Q (.bool k') s:=by
 subst e
 exact⟨.bl k,H,I,rfl,q⟩
theorem op_eq:OpR X (compareOp .Eq) rEq:=by
 intro pins s σ H x y v u Q I rx ry h
 obtain⟨hs,q⟩:=h
 cases x with
 | non=>
  cases rx
  cases y with
  | non=>cases ry; exact PySem.EqNone.eq_none_none (jJ I q (by simp))
  | bl j=>cases ry; exact PySem.EqNone.eq_none_bool (jJ I q (by simp))
  | int j=>obtain⟨t',rfl⟩:=ry; exact PySem.EqNone.eq_none_int (jJ I q (by simp))
  | str j=>obtain⟨t',rfl⟩:=ry; exact PySem.EqNone.eq_none_str (jJ I q (by simp))
  | _=>exact absurd (show false=true from hs) ag
 | bl i=>
  cases rx
  cases y with
  | non=>cases ry; exact PySem.EqNone.eq_bool_none (jJ I q (by simp))
  | bl j=>cases ry; exact eq_bool (jJ I q jLX)
  | str j=>obtain⟨t',rfl⟩:=ry; exact PySem.EqMixed.eq_bool_str (jJ I q (by simp))
  | _=>exact absurd (show false=true from hs) ag
 | int i=>
  obtain⟨t,rfl⟩:=rx
  cases y with
  | non=>cases ry; exact PySem.EqNone.eq_int_none (jJ I q (by simp))
  | int j=>obtain⟨t',rfl⟩:=ry; exact eq_int (jJ I q jJF)
  | str j=>obtain⟨t',rfl⟩:=ry; exact PySem.EqMixed.eq_int_str (jJ I q (by simp))
  | _=>exact absurd (show false=true from hs) ag
 | str i=>
  obtain⟨t,rfl⟩:=rx
  cases y with
  | non=>cases ry; exact PySem.EqNone.eq_str_none (jJ I q (by simp))
  | bl j=>cases ry; exact PySem.EqMixed.eq_str_bool (jJ I q (by simp))
  | int j=>obtain⟨t',rfl⟩:=ry; exact PySem.EqMixed.eq_str_int (jJ I q (by simp))
  | str j=>obtain⟨t',rfl⟩:=ry; exact eq_str (jJ I q jJE)
  | _=>exact absurd (show false=true from hs) ag
 | byt i=>
  obtain⟨t,rfl⟩:=rx
  cases y with
  | byt j=>obtain⟨t',rfl⟩:=ry; exact PySem.W.eq_bytes (jJ I q jJG)
  | _=>exact absurd (show false=true from hs) ag
 | _=>cases y <;> exact absurd (show false=true from hs) ag
theorem op_ne:OpR X (compareOp .NotEq) rNe:=by
 intro pins s σ H x y v u Q I rx ry h
 obtain⟨hs,q⟩:=h
 cases x with
 | non=>
  cases rx
  cases y with
  | non=>cases ry; exact PySem.EqNone.ne_none_none (jJ I q (by simp))
  | bl j=>cases ry; exact PySem.EqNone.ne_none_bool (jJ I q (by simp))
  | int j=>obtain⟨t',rfl⟩:=ry; exact PySem.EqNone.ne_none_int (jJ I q (by simp))
  | str j=>obtain⟨t',rfl⟩:=ry; exact PySem.EqNone.ne_none_str (jJ I q (by simp))
  | _=>exact absurd (show false=true from hs) ag
 | bl i=>
  cases rx
  cases y with
  | non=>cases ry; exact PySem.EqNone.ne_bool_none (jJ I q (by simp))
  | bl j=>cases ry; exact ne_bool (jJ I q (bB not jLX))
  | str j=>obtain⟨t',rfl⟩:=ry; exact PySem.EqMixed.ne_bool_str (jJ I q (by simp))
  | _=>exact absurd (show false=true from hs) ag
 | int i=>
  obtain⟨t,rfl⟩:=rx
  cases y with
  | non=>cases ry; exact PySem.EqNone.ne_int_none (jJ I q (by simp))
  | int j=>obtain⟨t',rfl⟩:=ry; exact ne_int (jJ I q (bB not jJF))
  | str j=>obtain⟨t',rfl⟩:=ry; exact PySem.EqMixed.ne_int_str (jJ I q (by simp))
  | _=>exact absurd (show false=true from hs) ag
 | str i=>
  obtain⟨t,rfl⟩:=rx
  cases y with
  | non=>cases ry; exact PySem.EqNone.ne_str_none (jJ I q (by simp))
  | bl j=>cases ry; exact PySem.EqMixed.ne_str_bool (jJ I q (by simp))
  | int j=>obtain⟨t',rfl⟩:=ry; exact PySem.EqMixed.ne_str_int (jJ I q (by simp))
  | str j=>obtain⟨t',rfl⟩:=ry; exact ne_str (jJ I q (bB not jJE))
  | _=>exact absurd (show false=true from hs) ag
 | byt i=>
  obtain⟨t,rfl⟩:=rx
  cases y with
  | byt j=>obtain⟨t',rfl⟩:=ry; exact PySem.W.ne_bytes (jJ I q (bB not jJG))
  | _=>exact absurd (show false=true from hs) ag
 | _=>cases y <;> exact absurd (show false=true from hs) ag
theorem op_lt:OpR X (compareOp .Lt) (rI0 fun i j=> .bl (decide (i<j))):=opB0 fun _ _ _ _ _ _ _ q=>lt_int q
theorem op_le:OpR X (compareOp .LtE) (rI0 fun i j=> .bl (decide (i<=j))):=opB0 fun _ _ _ _ _ _ _ q=>le_int q
theorem op_gt:OpR X (compareOp .Gt) (rI0 fun i j=> .bl (decide (j<i))):=opB0 fun _ _ _ _ _ _ _ q=>gt_int q
theorem op_ge:OpR X (compareOp .GtE) (rI0 fun i j=> .bl (decide (j<=i))):=opB0 fun _ _ _ _ _ _ _ q=>ge_int q
theorem jLN:OpR X (compareOp .Is) (fun x y H Q=>y= .non/\Q (.bl (decide (x= .non))) H):=by
 intro pins s σ H x y v u Q I rx ry h
 obtain⟨rfl,q⟩:=h
 cases ry
 refine is_none_gen (jJ I q ?_)
 cases x <;> first
  | (cases rx; rfl)
  | (obtain⟨t,rfl⟩:=rx; rfl)
theorem jMY:OpR X (compareOp .IsNot) (fun x y H Q=>y= .non/\Q (.bl (!decide (x= .non))) H):=by
 intro pins s σ H x y v u Q I rx ry h
 obtain⟨rfl,q⟩:=h
 cases ry
 refine isnot_none_gen (jJ I q ?_)
 cases x <;> first
  | (cases rx; rfl)
  | (obtain⟨t,rfl⟩:=rx; rfl)
theorem jU (b:Expr){op:CmpOp}(h:op≠ .In:=by decide)(h2:op≠ .NotIn:=by decide):behindInMarks op b=false:=by
 have e1:(op==CmpOp.In)=false:=by cases op <;> first | rfl | exact absurd rfl h
 have e2:(op==CmpOp.NotIn)=false:=by cases op <;> first | rfl | exact absurd rfl h2
 cases b <;> simp [behindInMarks,e1,e2]
theorem jMV {op:CmpOp}{r:R2}(ho:OpR X (compareOp op) r)(ha:PE X a ta)(hb:PE X b tb)(hm:behindInMarks op b=false):PE X (.Compare a [op] [b] pos) (tOp r ta tb):=by
 intro pins s σ H Q I h
 exact wpAny_Compare1 (binT ha hb I h fun v u s2 x y H2 I2 rx ry q=>ho pins s2 σ H2 x y v u Q I2 rx ry q) hm
def tTest (t:TE):TT:=fun σ H Q=>t σ H fun x H'=>∃ k,x= .bl k/\Q k H'
theorem jFP {op:CmpOp}{r:R2}(ho:OpR X (compareOp op) r)(ha:PE X a ta)(hb:PE X b tb)(hm:behindInMarks op b=false):PT X (.Compare a [op] [b] pos) (tTest (tOp r ta tb)):=by
 intro pins s σ H Q I h
 refine wpAny_isTrue_Compare1 (thn (ha pins s σ H _ I h) fun v s1 ⟨x,H1,I1,r1,q1⟩=>thn (hb pins s1 σ H1 _ I1 q1) fun u s2 ⟨y,H2,I2,r2,q2⟩=>
  thn (ho pins s2 σ H2 x y v u _ I2 r1 r2 q2) fun c s3 ⟨z,H3,I3,r3,k,e,q3⟩=>?_) hm
 subst e
 cases r3
 exact cZ ⟨H3,I3,q3⟩
def jLE (r r':R2)(ta tb tc:TE):TE:=fun σ H Q=>ta σ H fun x H1=>tb σ H1 fun y H2=>r x y H2 fun z H3=>∃ k,z= .bl k/\
 (if k=true then tc σ H3 fun w' H4=>r' y w' H4 Q else Q (.bl false) H3)
theorem jKA {op op':CmpOp}{r r':R2}(ho:OpR X (compareOp op) r)(ho':OpR X (compareOp op') r')(ha:PE X a ta)(hb:PE X b tb)(hc:PE X c tc)
  (hm:lastMarks [op,op'] [b,c]=false:=by with_unfolding_all rfl):PE X (.Compare a [op,op'] [b,c] pos) (jLE r r' ta tb tc):=by
 intro pins s σ H Q I h
 refine Compare_chain (thn (ha pins s σ H _ I h) fun v s1 ⟨x,H1,I1,r1,q1⟩=>chain_link (thn (hb pins s1 σ H1 _ I1 q1) fun u s2 ⟨y,H2,I2,r2,q2⟩=>
  thn (ho pins s2 σ H2 x y v u _ I2 r1 r2 q2) fun d s3 ⟨z,H3,I3,r3,k,e,q3⟩=>?_)) hm
 subst e
 cases r3
 refine cZ ?_
 cases k with
 | false=>exact ite_ff ⟨.bl false,H3,I3,rfl,q3⟩
 | true=>exact ite_tt (chain_last (thn (hc pins s3 σ H3 _ I3 q3) fun w' s4 ⟨z',H4,I4,r4,q4⟩=>ho' pins s4 σ H4 y z' u w' Q I4 r2 r4 q4))
theorem jEX:(sizeLine:Nat)<2 ^ 63:=by rw[dG]; decide
theorem vals1 {x:V}{us:List Value}(r:Vals [x] us):∃ u,us=[u]/\RelV x u:=by
 cases r with
 | cons r1 r2=>cases r2; exact⟨_,rfl,r1⟩
theorem vals2 {x y:V}{us:List Value}(r:Vals [x,y] us):∃ u w',us=[u,w']/\RelV x u/\RelV y w':=by
 cases r with
 | cons r1 r2=>
  cases r2 with
  | cons r3 r4=>cases r4; exact⟨_,_,rfl,r1,r3⟩
theorem jF8 (hc:X.calm=true):yJ X (.builtin "min") (fun xs H Q=>∃ i j,xs=[.int i, .int j]/\Q (.int (if j<i then j else i)) H):=by
 intro pins s σ H xs us Q I r h
 obtain⟨i,j,rfl,q⟩:=h
 obtain⟨u,w',rfl,⟨t,rfl⟩,⟨t',rfl⟩⟩:=vals2 r
 refine min_two_ints (I.ok.hd hc) fun h' tk k=>⟨_,H,I.kept k,?_,q⟩
 by_cases hj:j<i
 ·rw[ao hj,ao hj]; exact⟨_,rfl⟩
 ·rw[ax hj,ax hj]; exact⟨_,rfl⟩
theorem jF9:yJ X (.type "int") (fun xs H Q=>(∃ i,xs=[.int i]/\Q (.int i) H)\/∃ k,xs=[.bl k]/\Q (.int (if k then 1 else 0)) H):=by
 intro pins s σ H xs us Q I r h
 rcases h with ⟨i,rfl,q⟩ | ⟨k,rfl,q⟩
 ·obtain⟨u,rfl,t,rfl⟩:=vals1 r
  exact call_int_int ⟨.int i,H,I,⟨_,rfl⟩,q⟩
 ·obtain⟨u,rfl,r1⟩:=vals1 r
  cases r1
  exact call_int_bool ⟨.int (if k then 1 else 0),H,I.tok _,⟨_,rfl⟩,q⟩
end
end L2
namespace L2
open PySem PySem.Spec PyProof.Rows
structure ObjM (h:Heap)(x dx C:Addr)(mA:Str->Option Value):Prop where
 obj:h.get? x=some (instObj C dx)
 ns:h.Ns1 dx mA
 ne:dx≠x
theorem jIM {h:Heap}{dx:Addr}{mA:Str->Option Value}(n:h.Ns1 dx mA):∃ od,h.get? dx=some od/\∀ name,lookIn name od=some (mA name):=by
 obtain⟨o,es,ep,ho,hd,hk,_,hm⟩:=n
 refine⟨o,ho,fun name=>?_⟩
 have e:=hm name
 unfold nsFind findBy at e
 rw[<- Array.find?_toList] at e
 unfold lookIn
 rw[hd]
 dsimp only
 split
 ·rename_i y q
  rw[q] at e
  exact bB some e
 ·rename_i q
  rw[q] at e
  have a:es.toList.any (·.refKey)=false:=by
   rw[List.any_eq_false]
   intro y hy
   obtain⟨z,t,hkey⟩:=hk y (Array.mem_toList_iff.mp hy)
   simp [DictEntry.refKey,hkey]
  have a':¬ es.toList.any (·.refKey)=true:=by rw[a]; exact ag
  rw[ax a']
  exact bB some e
theorem ObjM.look {h:Heap}{x dx C:Addr}{mA:Str->Option Value}(I:ObjM h x dx C mA):∃ od,PySem.W.InstAt h x (instObj C dx) C (some od)/\∀ name,lookIn name od=some (mA name):=
 let ⟨od,ho,hl⟩:=jIM I.ns
 ⟨od,⟨I.obj,rfl,rfl,ho⟩,hl⟩
section
variable {prog:Program}{w:World}{A:Around}{E:Value->Shared->Prop}{s:Shared}{K:W.Frag}{x dx C f:Addr}{mA:Str->Option Value}{name:Str}{v:Value}
end
theorem RelO.some_of {v:V}{o:Option Value}(r:RelO (some v) o):∃ u,o=some u/\RelV v u:=by
 cases o with
 | none=>exact(show False from r).elim
 | some u=>exact⟨u,rfl,r⟩
section
variable {P:Program}{w:World}{H H':Hp}{h h':Heap}{a C dx:Addr}{fs fs':List (Str×V)}
theorem jNL (hok:HOk P w H h)(e:H a=some (.ins C dx fs)):∃ mA,ObjM h a dx C mA/\(∀ f,RelO (fs.lookup f) (mA f))/\PySem.Within mA (fs.map (·.1))/\fs.length<=1000/\H dx=some (.own a):=by
 obtain⟨d,z,ne,ob,mA,n,r,q⟩:=(show ObjOk P w H h a (.ins C dx fs) from hok a _ e)
 exact⟨mA,⟨ob,n,ne⟩,r,q,z,d⟩
end
structure Cls (K:W.Frag)(C:Addr):Prop where
 pg:plainGet K C Str.empty=true
 hd:PySem.W.hasDictIn K C=true
 po:PySem.W.plainOver K C=true
 sa:findIn K (.ref C) "__setattr__" =some (some (.builtin "object.__setattr__"))
theorem Cls.get {K:W.Frag}{C:Addr}(c:Cls K C)(f:Str):plainGet K C f=true:=c.pg
section
variable {X:Cx}{pins:List (Addr×Obj)}{σ:St}{H:Hp}{s:Shared}{a C dx:Addr}{fs:List (Str×V)}{f:Str}{v:V}{A:Around}{E:Value->Shared->Prop}
end
section
variable {X:Cx}{o e value:Expr}{f:Str}{pos pos' tpos:Pos}{ta tv:TE}
end
section
variable {X:Cx}{pins:List (Addr×Obj)}{σ:St}{H:Hp}{s:Shared}{A:Around}{E:Value->Shared->Prop}{Q:Value->Shared->Prop}{c:Value}{b:Bool}
inductive TyOf (K:W.Frag) (H:Hp):V->Value->Prop where
 | non:TyOf K H .non (.type "NoneType")
 | bl (x:Bool):TyOf K H (.bl x) (.type "bool")
 | int (i:Int):TyOf K H (.int i) (.type "int")
 | str (x:Str):TyOf K H (.str x) (.type "str")
 | flt (x:UInt64):TyOf K H (.flt x) (.type "float")
 | lst {a:Addr}{xs:List V}(e:H a=some (.lst xs)):TyOf K H (.ref a) (.type "list")
 | frz {a:Addr}{o:Obj}{xs:List V}(e:H a=some (.frz o (.lst xs))):TyOf K H (.ref a) (.type "list")
 | tup {a:Addr}{xs:List V}(e:H a=some (.tup xs)):TyOf K H (.ref a) (.type "tuple")
 | dK {a:Addr}{kvs:List (Key×V)}(e:H a=some (.dK kvs)):TyOf K H (.ref a) (.type "dict")
 | dT {a:Addr}{kvs:List (List Key×V)}(e:H a=some (.dT kvs)):TyOf K H (.ref a) (.type "dict")
 | ins {a C dx:Addr}{fs:List (Str×V)}(e:H a=some (.ins C dx fs)) (cl:Cls K C) (ha:findIn K (.ref C) "__class__" =some (some (.builtin "object.__class__")))
   (hn:PySem.W.specialIn K (.builtin "object.__class__") "__get__" =some (some (.builtin "getset_descriptor.__get__"))) (htk:PySem.W.takesIn K (.builtin "object.__class__")=some true)
   (hm:mroIn K C (.type "object")=some true):TyOf K H (.ref a) (.ref C)
theorem jJ7 {x:V}{u t:Value}(I:Inv X pins σ H s)(rx:RelV x u)(ty:TyOf X.K H x t)(e:kitOne X.K t c=some b)(h:∀ tk,Q (.bool b) { s with toks:=tk}):
  wpAny (model X.prog X.w) A (call (.builtin "isinstance") [u,c]) Q E s:=by
 cases ty with
 | non=>cases (show u=Value.none from rx); exact bV PySem.W.kitx_none I.kIn True.intro e (fun z=>nomatch z) h
 | bl y=>cases (show u=Value.bool y from rx); exact bV PySem.W.kitx_bool I.kIn True.intro e (fun z=>nomatch z) h
 | int i=>obtain⟨t,q⟩:=(show ∃ t,u=Value.int i t from rx); cases q; exact bV PySem.W.kitx_int I.kIn True.intro e (fun z=>nomatch z) h
 | str y=>obtain⟨t,q⟩:=(show ∃ t,u=Value.str y t from rx); cases q; exact bV PySem.W.kitx_str I.kIn True.intro e (fun z=>nomatch z) h
 | flt y=>obtain⟨t,q⟩:=(show ∃ t,u=Value.float y t from rx); cases q; exact bV PySem.W.kitx_float I.kIn True.intro e (fun z=>nomatch z) h
 | @lst a xs ea=>
  cases (show u=Value.ref a from rx)
  obtain⟨_,_,n,_,h1⟩:=(show ObjOk X.prog X.w H s.heap a (.lst xs) from I.hok a _ ea)
  exact bV kitx_list I.kIn ⟨_,h1,rfl⟩ e (fun z=>nomatch z) h
 | @frz a ob xs ea=>
  cases (show u=Value.ref a from rx)
  obtain⟨_,_,_,n,_,h1⟩:=(show ObjOk X.prog X.w H s.heap a (.frz ob (.lst xs)) from I.hok a _ ea)
  exact bV kitx_list I.kIn ⟨_,h1,rfl⟩ e (fun z=>nomatch z) h
 | @tup a xs ea=>
  cases (show u=Value.ref a from rx)
  obtain⟨_,_,_,p⟩:=(show ObjOk X.prog X.w H s.heap a (.tup xs) from I.hok a _ ea)
  obtain⟨o,h1,h2,_⟩:=p.isTup
  exact bV PySem.W.kitx_tuple I.kIn ⟨o,h1,h2⟩ e (fun z=>nomatch z) h
 | @dK a kvs ea=>
  cases (show u=Value.ref a from rx)
  obtain⟨_,_,vs,_,p⟩:=(show ObjOk X.prog X.w H s.heap a (.dK kvs) from I.hok a _ ea)
  obtain⟨o,es,ep,h1,h2,_⟩:=p
  exact bV kitx_dict I.kIn ⟨o,h1,h2.1⟩ e (fun z=>nomatch z) h
 | @dT a kvs ea=>
  cases (show u=Value.ref a from rx)
  obtain⟨_,_,xs,_,o,es,ep,h1,h2,_⟩:=(show ObjOk X.prog X.w H s.heap a (.dT kvs) from I.hok a _ ea)
  exact bV kitx_dict I.kIn ⟨o,h1,h2.1⟩ e (fun z=>nomatch z) h
 | @ins a C dx fs ea cl ha hn htk hm=>
  cases (show u=Value.ref a from rx)
  obtain⟨mA,O,_⟩:=jNL I.hok ea
  obtain⟨od,J,_⟩:=O.look
  exact bV (PySem.W.kitx_own (cl.get _) cl.hd ha hn htk hm) I.kIn J e (fun z=>nomatch z) h
end
end L2
namespace L2
open PySem PySem.Spec PyProof.Rows
structure Room (k:Nat)(A:Around):Prop where
 hd:A.handled=none
 dp:A.depth+3*k+5<recursionLimit
 un:A.units+16*k+200<cLine
theorem Room.mono {j k:Nat}{A:Around}(r:Room k A)(h:j<=k):Room j A:=⟨r.hd,by have:=r.dp; omega,by have:=r.un; omega⟩
theorem Room.deeper {k:Nat}{A:Around}(r:Room (k+1) A)(env:Env):Room k (A.deeper env):=
 ⟨r.hd,by have:=r.dp; show A.depth+1+3*k+5<_; omega,by have:=r.un; show A.units+3+16*k+200<_; omega⟩
theorem Room.depth {k:Nat}{A:Around}(r:Room k A):A.depth<recursionLimit:=by have:=r.dp; omega
theorem Room.units {k:Nat}{A:Around}(r:Room k A):A.units+64<cLine:=by have:=r.un; omega
def tNil:TA:=fun _ H Q=>Q [] H
def tCons (ta:TE)(tr:TA):TA:=fun σ H Q=>ta σ H fun x H1=>tr σ H1 fun xs H2=>Q (x::xs) H2
section
variable {X:Cx}{e:Expr}{es:List Expr}{te:TE}{t:TA}{pos:Pos}
theorem jEQ:PA X [] tNil:=fun _ _ _ _ H Q I h=>Calls.spliced_nil ⟨[],H,I, .nil,h⟩
theorem jCL (ha:PE X e te)(hr:PA X es t)(hs:starEach (e::es) X.env=(false,eval e X.env)::starEach es X.env:=by rfl):PA X (e::es) (tCons te t):=by
 intro pos pins s σ H Q I h
 rw[hs]
 show wpAny _ _ (spliced ((false,eval e X.env)::backTo pos (starEach es X.env))) _ _ s
 refine Calls.spliced_cons (thn (ha pins s σ H _ I h) fun u s1 ⟨x,H1,I1,r1,q1⟩=>?_)
 exact thn (hr pos pins s1 σ H1 _ I1 q1) fun us s2 ⟨xs,H2,I2,r2,q2⟩=>⟨x::xs,H2,I2, .cons r1 r2,q2⟩
def tLst (t:TA):TE:=fun σ H Q=>t σ H fun xs H1=>xs.length<=sizeLine/\∀ p,H1 p=none->Q (.ref p) (upd H1 p (.lst xs))
theorem jLK (h:PA X es t):PE X (.List es pos) (tLst t):=by
 intro pins s σ H Q I hq
 refine wpAny_List_spliced (thn (h pos pins s σ H _ I hq) fun us s1 ⟨xs,H1,I1,r,z,q⟩=>⟨by rw[<- r.length]; exact z,?_⟩)
 have hf:H1 s1.heap.objs.size=none:=I1.hok.fresh (az _)
 refine⟨.ref s1.heap.objs.size,upd H1 s1.heap.objs.size (.lst xs),I1.laid (t':=s1.toks) (fun b u e=>ae _ e) (az _) ?_,rfl,q _ hf⟩
 exact⟨z,us,0,r,aE _ rfl⟩
end
abbrev Sp:=List V->Hp->VK->XK->Prop
abbrev CXT:=List Env->Hp->Shared->XK->Value->Shared->Prop
structure Env0 (P:Program)(w:World)(K:W.Frag)(mg:Str->Option Value)(base:Heap)(A:Around)(outer:List Env)(s:Shared)(H:Hp):Prop where
 frames:A.frames=some outer
 mod:Mod K mg base
 bs:∀ b o,base.get? b=some o->s.heap.get? b=some o/\H b=none
 bsz:base.objs.size<=s.heap.objs.size
 funs:s.heap.FunFrames base outer
 frf:∀ b∈frs outer,H b=none
 hok:HOk P w H s.heap
 bare:AllBare s.gens
def CE (outer:List Env)(P:Program)(w:World)(H:Hp)(s:Shared)(Q:VK)(u:Value)(s':Shared):Prop:=
 ∃ v H',s'.os=s.os/\AllBare s'.gens/\Un (frs outer) [] H H' s.heap s'.heap/\HOk P w H' s'.heap/\RelV v u/\Q v H'
def CR (CX:CXT)(outer:List Env)(P:Program)(w:World)(H:Hp)(s:Shared)(Q:VK)(E:XK)(r:Result)(s':Shared):Prop:=
 match r with
 | .ok (.ret u)=>CE outer P w H s Q u s'
 | .ok _=>False
 | .error e=>CX outer H s E e s'
structure FnOk (P:Program)(w:World)(K:W.Frag)(mg:Str->Option Value)(base:Heap)(CX:CXT)(k:Nat)(f:Addr)(fd:FuncData)(ps:List Str)(sp:Sp):Prop where
 len:∀ vs H Q E,sp vs H Q E->vs.length=ps.length
 run:∀ (A:Around) (outer:List Env) (s:Shared) (H:Hp) (args:Args) (us:List Value) (vs:List V) (Q:VK) (E:XK),Room k A->Env0 P w K mg base A outer s H->BindsTo s fd args (ps.zip us)->Vals vs us->sp vs H Q E->
  codeAny (model P w) A (.call (.ref f) args) (CR CX outer P w H s Q E) s
section
variable {X:Cx}{pins:List (Addr×Obj)}{σ:St}{H:Hp}{s s':Shared}
theorem Inv.env0 (I:Inv X pins σ H s):Env0 X.prog X.w X.K X.mg X.base X.A X.stack s H:=
 ⟨I.ok.frames,I.ok.mod,I.bs,bW I.ok.bsz I.sz,I.stack,I.stkFree,I.hok,I.bare⟩
theorem Inv.after {Q:VK}{u:Value}(I:Inv X pins σ H s)(h:CE X.stack X.prog X.w H s Q u s'):EP X pins σ Q u s':=by
 obtain⟨v,H',os,bare,un,hok,r,q⟩:=h
 obtain⟨hh,g,d,t,os'⟩:=s'
 obtain rfl:os'=s.os:=os
 exact⟨v,H',I.call (h':=hh) (g':=g) (d':=d) (t':=t) (ch:=[]) un hok bare (fun b z=>absurd z (by simp)),r,q⟩
end
def tCall (sp:Sp)(dvs:List V)(E:XK)(t:TA):TE:=fun σ H Q=>t σ H fun vs H1=>sp (vs++dvs) H1 Q E
def Binds (K:W.Frag)(fd:FuncData)(ps:List Str)(ds:List Value):Prop:=
 ∀ (s:Shared) (us:List Value),K.In s.heap->(us++ds).length=ps.length->BindsTo s fd ⟨us,[]⟩ (ps.zip (us++ds))
theorem Binds.all {K:W.Frag}{fd:FuncData}{ps:List Str}(h:∀ us:List Value,us.length=ps.length->bindArgs fd ⟨us,[]⟩=pure (ps.zip us)):Binds K fd ps []:=fun s us _ hl=>by
 rw[aW] at hl ⊢
 exact .of_eq (h us hl)
def jJU (CX:CXT)(X:Cx)(E:XK):Prop:=∀ (pins:List (Addr×Obj)) (σ:St) (H:Hp) (s:Shared) (e:Value) (s':Shared),Inv X pins σ H s->CX X.stack H s E e s'->X.xe e s'
section
variable {X:Cx}{CX:CXT}{k:Nat}{f C:Addr}{fd:FuncData}{ps:List Str}{sp:Sp}{dvs:List V}{ds:List Value}{E:XK}{x m:Str}{p pos apos:Pos}{e o:Expr}{es:List Expr}{ta:TE}{t:TA}
theorem jOJ {pins:List (Addr×Obj)}{σ:St}{H:Hp}{s:Shared}{Q:VK}{us:List Value}{vs:List V}(F:FnOk X.prog X.w X.K X.mg X.base CX k f fd ps sp)(hr:Room k X.A)(hb:Binds X.K fd ps ds)(hd:Vals dvs ds)(hx:jJU CX X E)
  (I:Inv X pins σ H s) (r:Vals vs us) (h:sp (vs++dvs) H Q E):wpAny (model X.prog X.w) X.A (call (.ref f) us) (EP X pins σ Q) X.xe s:=by
 have r2:Vals (vs++dvs) (us++ds):=r.append hd
 have hl:(us++ds).length=ps.length:=by rw[<- r2.length]; exact F.len _ _ _ _ h
 refine wpAny_call (dZ (F.run X.A X.stack s H ⟨us,[]⟩ (us++ds) (vs++dvs) Q E hr I.env0 (hb s us I.kIn hl) r2 h) fun r s' hq=>?_)
 cases r with
 | error e=>exact hx pins σ H s e s' I hq
 | ok fl=>
  cases fl with
  | ret u=>exact I.after hq
  | next=>exact False.elim hq
  | brk=>exact False.elim hq
  | cont=>exact False.elim hq
theorem jMW (F:FnOk X.prog X.w X.K X.mg X.base CX k f fd ps sp)(hr:Room k X.A)(hg:Gl X x)(hm:X.mg x=some (.ref f))(hk:keepIn X.K (.ref f)=true)(hb:Binds X.K fd ps ds)(hd:Vals dvs ds)(hx:jJU CX X E)
  (ha:PA X (e::es) t) (hdb:(x==("__debug__" :Str))=false:=by decide) (he:starEach (e::es) X.env=(false,eval e X.env)::starEach es X.env:=by rfl) (hpl:(backTo pos (starEach es X.env)).any (·.1)=false:=by rfl):
  PE X (.Call (.Name x p) (e::es) [] pos) (tCall sp dvs E t):=by
 intro pins s σ H Q I h
 refine cQ (jIN I hg hm ?_ hdb)
 refine gS (h₀:=X.base) I.ok.mod.kin hk (thn (ha pos pins s σ H _ I h) fun us s1 ⟨vs,H1,I1,r,q⟩=>⟨I1.kIn,?_⟩) he hpl
 exact jOJ F hr hb hd hx I1 r q
end
def PK (X:Cx)(kws:List Keyword)(t:TA):Prop:=
 ∀ (pos:Pos) (pins:List (Addr×Obj)) (s:Shared) (σ:St) (H:Hp) (Q:List V->Hp->Prop),Inv X pins σ H s->t σ H Q->wpAny (model X.prog X.w) X.A (evalAll ((backToKw pos (keywordEach kws X.env)).map (·.2))) (AP X pins σ Q) X.xe s
section
variable {X:Cx}{CX:CXT}{k:Nat}{f C:Addr}{fd:FuncData}{ps ks:List Str}{sp:Sp}{E:XK}{x m:Str}{p pos apos kpos:Pos}{e o:Expr}{es:List Expr}{kws:List Keyword}{te ta:TE}{t tk:TA}{nm:Option Str}
theorem jOR:PK X [] tNil:=fun _ _ _ _ H Q I h=>wpAny_evalAll_nil ⟨[],H,I, .nil,h⟩
theorem jMO (ha:PE X e te)(hr:PK X kws t):PK X (⟨nm,e,kpos⟩::kws) (tCons te t):=by
 intro pos pins s σ H Q I h
 show wpAny _ _ (evalAll ((do let v <- eval e X.env; standAt pos; pure v)::(backToKw pos (keywordEach kws X.env)).map (·.2))) _ _ s
 refine wpAny_evalAll_cons (aa (thn (ha pins s σ H _ I h) fun u s1 ⟨x,H1,I1,r1,q1⟩=>aa (df (am ?_))))
 exact thn (hr pos pins s1 σ H1 _ I1 q1) fun us s2 ⟨xs,H2,I2,r2,q2⟩=>⟨x::xs,H2,I2, .cons r1 r2,q2⟩
variable {g:List Value->List Value->List Value}{gV:List V->List V->List V}
end
structure FnScope (N P:List Str)(sc:Scope):Prop where
 kind:sc.kind= .function
 co:sc.isCoroutine=false
 gen:sc.isGenerator=false
 nd:N.Nodup
 pre:N.take P.length=P
 par:∀ x∈P,sc.names.lookup x=some .local\/sc.names.lookup x=some .cell
 nofree:∀ y∈sc.names,y.2≠ .free
theorem jFB {kindOf:Str->Option NameKind}{x:Str} :∀ {binds:List (Str×Value)}{m:Str->Option Value},(∀ v,(x,v)∉binds)->bindL kindOf binds m x=m x
 | [],_,_=>rfl
 | (n,v)::r,m,h=>by
  unfold bindL
  rw[jFB fun w hw=>h w (ay _ hw)]
  split
  ·have:x≠n:=by rintro rfl; exact h v aG
   simp [this]
  ·rfl
theorem jFD {kindOf:Str->Option NameKind}{x:Str} :∀ {binds:List (Str×Value)}{m:Str->Option Value},(∀ v,(x,v)∉binds)->bindC kindOf binds m x=m x
 | [],_,_=>rfl
 | (n,v)::r,m,h=>by
  unfold bindC
  rw[jFD fun w hw=>h w (ay _ hw)]
  split
  ·rfl
  ·have:x≠n:=by rintro rfl; exact h v aG
   simp [this]
theorem jFC {kindOf:Str->Option NameKind}{x:Str}{v:Value} :∀ {P:List Str}{vs:List Value}{i:Nat}{m:Str->Option Value},P.Nodup->P[i]?=some x->vs[i]?=some v->kindOf x=some .local->
  bindL kindOf (P.zip vs) m x=some v
 | [],_,_,_,_,h,_,_=>by simp at h
 | _::_,[],_,_,_,_,h,_=>by simp at h
 | p::P,w::vs,0,m,nd,h1,h2,hk=>by
  simp at h1 h2; subst h1; subst h2
  show bindL kindOf ((p,w)::P.zip vs) m p=_
  unfold bindL
  rw[jFB fun v hv=>(cA.mp nd).1 (dz hv).1,ao hk]
  simp
 | p::P,w::vs,i+1,m,nd,h1,h2,hk=>by
  show bindL kindOf ((p,w)::P.zip vs) m x=_
  unfold bindL
  exact jFC (i:=i) (cA.mp nd).2 (by simpa using h1) (by simpa using h2) hk
theorem jFE {kindOf:Str->Option NameKind}{x:Str}{v:Value} :∀ {P:List Str}{vs:List Value}{i:Nat}{m:Str->Option Value},P.Nodup->P[i]?=some x->vs[i]?=some v->kindOf x≠some .local->
  bindC kindOf (P.zip vs) m x=some v
 | [],_,_,_,_,h,_,_=>by simp at h
 | _::_,[],_,_,_,_,h,_=>by simp at h
 | p::P,w::vs,0,m,nd,h1,h2,hk=>by
  simp at h1 h2; subst h1; subst h2
  show bindC kindOf ((p,w)::P.zip vs) m p=_
  unfold bindC
  rw[jFD fun v hv=>(cA.mp nd).1 (dz hv).1,ax hk]
  simp
 | p::P,w::vs,i+1,m,nd,h1,h2,hk=>by
  show bindC kindOf ((p,w)::P.zip vs) m x=_
  unfold bindC
  exact jFE (i:=i) (cA.mp nd).2 (by simpa using h1) (by simpa using h2) hk
def yH (N:List Str)(vs:List V):St:=vs.map some++replicate (N.length - vs.length) none
def cxOf (CX:CXT)(P:Program)(w:World)(K:W.Frag)(mg:Str->Option Value)(base:Heap)(N:List Str)(qual:Str)(scope:Scope)(f:Addr)(cd:Value)(A:Around)(outer:List Env)(s:Shared)(H:Hp)(E:XK):Cx where
 prog:=P
 w:=w
 K:=K
 mg:=mg
 base:=base
 A:=A.deeper (envOfC qual scope s.heap.objs.size f cd)
 N:=N
 s₀:=s
 H₀:=H
 env:=envOfC qual scope s.heap.objs.size f cd
 outer:=outer
 stack:=envOfC qual scope s.heap.objs.size f cd::outer
 ex:=[]
 calm:=true
 fn:=fun _=>true
 pn:=[]
 xe:=fun e s'=>wpAny (model P w) (A.deeper (envOfC qual scope s.heap.objs.size f cd)) (leaving (envOfC qual scope s.heap.objs.size f cd) e) (fun _ s''=>CX outer H s E e s'') (fun e' s''=>CX outer H s E e' s'') s'
theorem jGU {sc:Scope}{n:Nat}{x:Str}(h:sc.names.lookup x=some .cell):∃ c,(cellsFrom n sc.names []).lookup x=some c:=by
 have q:=d0 sc.names n [] (.inl h)
 exact Option.isSome_iff_exists.mp q
theorem jF4 {CX:CXT}{P:Program}{w:World}{K:W.Frag}{mg:Str->Option Value}{base:Heap}{N ps:List Str}{qual:Str}{scope:Scope}{f:Addr}{cd:Value}{A:Around}{outer:List Env}{s s1:Shared}{H:Hp}{E:XK}{us:List Value}{vs:List V}
  (S:FnScope N ps scope) (hd:A.handled=none) (e0:Env0 P w K mg base A outer s H) (hl:vs.length=ps.length) (r:Vals vs us)
  (x:InCallC s s.heap.objs.size (bindL (envOfC qual scope s.heap.objs.size f cd).kindOf (ps.zip us) fun _=>none) (cellsFrom (s.heap.objs.size+1) scope.names []) (bindC (envOfC qual scope s.heap.objs.size f cd).kindOf (ps.zip us) fun _=>none) s1):
  Inv (cxOf CX P w K mg base N qual scope f cd A outer s H E) [] (yH N vs) H s1:=by
 have hpl:ps.length<=N.length:=by have:=bB List.length S.pre; rw[aU] at this; omega
 obtain⟨h1,tk,rfl,hk⟩:=x.done
 have noA:∀ b:Addr,b∉(cxOf CX P w K mg base N qual scope f cd A outer s H E).ex:=fun b z=>absurd (show b∈([]:List Addr) from z) (by simp)
 refine⟨⟨e0.mod,S.kind,rfl,rfl,az _,fun y z c h1 h2=>?_,fun y hy=>?_,fun y c _ h=>?_,fun _=>hd,Around.frames_deeper e0.frames, .inr ⟨rfl,rfl⟩,fun b z=>absurd z (noA b),e0.bs,e0.bsz,fun b _ _=>noA b,fun b z=>absurd z (noA b),e0.funs,e0.frf⟩,
  rfl,e0.bare,Un.kept hk,⟨_,x.toInCall.ns,fun i y v h1 h2 h3=>?_⟩,fun y c h=>⟨_,x.cell y c h⟩,e0.hok.fresh (az _),fun y c h=>?_,fun p hp=>absurd (show p∈([]:List (Addr×Obj)) from hp) (by simp),e0.hok.kept hk,?_⟩
 ·exact name_of_addr x.apart (cz h1) (cz h2)
 ·have hy:scope.names.lookup y=some .cell\/scope.names.lookup y=some .free:=hy
  rcases hy with hy | hy
  ·exact jGU hy
  ·exact absurd rfl (S.nofree _ (cz hy))
 ·exact fc (x.above y c (cz h))
 ·have hi:i<vs.length:=by
   unfold yH at h2
   by_cases hi:i<vs.length
   ·exact hi
   ·rw[aS (by simpa using hi)] at h2
    rw[fQ] at h2
    split at h2 <;> cases h2
  have ha:vs[i]?=some v:=by
   unfold yH at h2
   rw[bw (by simpa using hi),aO] at h2
   cases e:vs[i]? with
   | none=>rw[e] at h2; cases h2
   | some a=>rw[e] at h2; cases h2; rfl
  obtain⟨u,hu,rv⟩:=r.get ha
  have hp:ps[i]?=some y:=by
   rw[<- S.pre,bO (by omega)]; exact h1
  have ndP:ps.Nodup:=by rw[<- S.pre]; exact S.nd.sublist (cG _ _)
  refine⟨u,rv,?_⟩
  rcases S.par y (ak hp) with k | k
  ·exact .inl ⟨k,jFC ndP hp hu k⟩
  ·obtain⟨c,e⟩:=jGU (n:=s.heap.objs.size+1) k
   refine .inr ⟨.inl k,c,e,?_⟩
   have q:=x.cell y c e
   rw[jFE ndP hp hu (by show scope.names.lookup y≠_; rw[k]; decide)] at q
   exact q
 ·exact e0.hok.fresh (fc (x.above y c (cz h)))
 ·unfold yH
  show _=N.length
  rw[aj,ab,gA]
  omega
theorem fn_of {CX:CXT}{P:Program}{w:World}{K:W.Frag}{mg:Str->Option Value}{base:Heap}{k:Nat}{f:Addr}{name qual:Str}{params:Arguments}{body:List Stmt}{scope:Scope}{dV kV doc pm cdv ct oc:Value}{an od:Option Addr}
  {osl:Array (Option Value)}{N ps:List Str}{sp:Sp}(lk:K.lookup f=some ⟨oc,od, .func (PySem.W.fnOf name qual params body scope dV kV doc pm an cdv ct),osl⟩) (hcd:PySem.W.codeIn K cdv qual=true) (S:FnScope N ps scope)
  (len:∀ vs H Q E,sp vs H Q E->vs.length=ps.length)
  (hbody:∀ (A:Around) (outer:List Env) (s:Shared) (H:Hp) (vs:List V) (Q:VK) (E:XK),Room k (A.deeper (envOfC qual scope s.heap.objs.size f cdv))->sp vs H Q E->
   ∃ t,PSs (cxOf CX P w K mg base N qual scope f cdv A outer s H E) body t/\t { nx:=fun _ H'=>Q .non H',rt:=Q} (yH N vs) H):
  FnOk P w K mg base CX (k+1) f (PySem.W.fnOf name qual params body scope dV kV doc pm an cdv ct) ps sp:=by
 refine⟨len,fun A outer s H args us vs Q E hr e0 hb r hsp=>?_⟩
 have hl:=len _ _ _ _ hsp
 have KX:K.In s.heap:=e0.mod.kin.keeps fun b o e=>(e0.bs b o e).1
 have lim:s.heap.NoLimit:=e0.mod.nolimit.keeps fun b o e=>(e0.bs b o e).1
 have hkind:∀ y∈ps.zip us,scope.names.lookup y.1=some .local\/(scope.names.lookup y.1=some .cell/\((cellsFrom (s.heap.objs.size+1) scope.names []).lookup y.1).isSome=true):=fun ⟨n,v⟩ hy=>by
  rcases S.par n (dz hy).1 with q | q
  ·exact .inl q
  ·exact .inr ⟨q,d0 _ _ _ (.inl q)⟩
 refine codeAny_call_function hr.depth (KX _ _ lk) rfl S.co S.gen rfl (gU KX hcd) (hb _ _ _ _ ?_)
 refine fj S.kind hkind fun env he s1 x=>?_
 subst he
 refine⟨lim.keeps x.toInCall.keep,codeAny_func ?_⟩
 obtain⟨t,ht,hq⟩:=hbody A outer s H vs Q E (hr.deeper _) hsp
 have I:Inv (cxOf CX P w K mg base N qual scope f cdv A outer s H E) [] (yH N vs) H s1:=jF4 S hr.hd e0 hl r x
 refine bS (ht [] s1 (yH N vs) H _ I hq) (fun fl s' hs=>?_) fun e s' hs=>hs
 have fin:∀ {σ':St}{H':Hp}{v:V}{u:Value},Inv (cxOf CX P w K mg base N qual scope f cdv A outer s H E) [] σ' H' s'->RelV v u->Q v H'->CE outer P w H s Q u s':=
  fun {σ' H' v u} J rv q=>⟨v,H',J.os,J.bare,J.base,J.hok,rv,q⟩
 cases fl with
 | ret u=>
  obtain⟨v,σ',H',J,rv,q⟩:=hs
  exact fin J rv q
 | next=>
  obtain⟨σ',H',J,q⟩:=hs
  exact fin (v:=V.non) (u:=Value.none) J rfl q
 | brk=>
  obtain⟨_,_,_,q⟩:=hs
  exact False.elim q
 | cont=>
  obtain⟨_,_,_,q⟩:=hs
  exact False.elim q
end L2
namespace L2
open PySem PySem.Spec PyProof.Rows
section
variable {X:Cx}{x:Str}{p pos:Pos}{e:Expr}{es:List Expr}{t:TA}{id T:String}{r:List V->Hp->VK->Prop}
def tCB (r:List V->Hp->VK->Prop)(t:TA):TE:=fun σ H Q=>t σ H fun vs H1=>r vs H1 Q
theorem jGF (hc:yJ X (.builtin id) r)(hg:Gl X x)(hm:X.mg x=none)(hv:bootBuiltins x=some (.builtin id))(ha:PA X (e::es) t)(hn:x≠ "__name__" :=by decide)(hdb:(x==("__debug__" :Str))=false:=by decide)
  (he:starEach (e::es) X.env=(false,eval e X.env)::starEach es X.env:=by rfl) (hpl:(backTo pos (starEach es X.env)).any (·.1)=false:=by rfl):PE X (.Call (.Name x p) (e::es) [] pos) (tCB r t):=by
 intro pins s σ H Q I h
 refine cQ (jCR I hg hm hv ?_ hn hdb)
 exact PyProof.Rows.callWith_builtin1 (thn (ha pos pins s σ H _ I h) fun us s1 ⟨vs,H1,I1,r1,q1⟩=>hc pins s1 σ H1 vs us Q I1 r1 q1) he hpl
theorem jI6 (hc:yJ X (.type T) r)(hg:Gl X x)(hm:X.mg x=none)(hv:bootBuiltins x=some (.type T))(ha:PA X (e::es) t)(hn:x≠ "__name__" :=by decide)(hdb:(x==("__debug__" :Str))=false:=by decide)
  (he:starEach (e::es) X.env=(false,eval e X.env)::starEach es X.env:=by rfl) (hpl:(backTo pos (starEach es X.env)).any (·.1)=false:=by rfl):PE X (.Call (.Name x p) (e::es) [] pos) (tCB r t):=by
 intro pins s σ H Q I h
 refine cQ (jCR I hg hm hv ?_ hn hdb)
 exact cM (thn (ha pos pins s σ H _ I h) fun us s1 ⟨vs,H1,I1,r1,q1⟩=>hc pins s1 σ H1 vs us Q I1 r1 q1) he hpl
end
end L2
namespace HT
open PySem PyProof.Rows
section
open PySem.SeqAt
open PySem.AutoSeq1 (wpAny_loadPart')
open PySem.MeetsSeq PySem.MeetsSeq2 PySem.MeetsSeq3
end
section
variable {prog:Program}{w:World}{A:Around}{E:Value->Shared->Prop}{s:Shared}
theorem cat_tup {t b:Addr}{vs ws:List Value}{Q:Value->Shared->Prop}(ht:IsTup s.heap t vs.toArray)(hb:IsTup s.heap b ws.toArray)(hv:vs≠ [])
  (h1:ws=[]->Q (.ref t) s) (h2:ws≠ []->Q (.ref s.heap.objs.size) { s with heap:=s.heap.push { cls:= .type "tuple",data:= .seq (vs++ws).toArray}})
  (hsz:vs.length+ws.length<=sizeLine):wpAny (model prog w) A (binaryOp .Add (.ref t) (.ref b)) Q E s:=by
 obtain⟨⟨cls,dd,data,sl⟩,ho,hc,n,hd⟩:=id ht
 obtain⟨⟨cls2,dd2,data2,sl2⟩,ho2,hc2,n2,hd2⟩:=id hb
 simp only at hc hd hc2 hd2
 subst hc hd hc2 hd2
 have e:vs.toArray++ws.toArray=(vs++ws).toArray:=by simp
 by_cases hw:ws=[]
 ·exact concat_meets ⟨_,ho,rfl⟩ ⟨_,ho2,rfl⟩ fS seq_tuple_add ed dY (dS _ _)
   (tuple_addW1 t b vs.toArray ws.toArray n n2 dd dd2 sl sl2 (by simpa using hv) (by simp [hw])) ⟨ho,ho2,h1 hw⟩
 ·refine concat_meets ⟨_,ho,rfl⟩ ⟨_,ho2,rfl⟩ fS seq_tuple_add ed dY (dS _ _)
   (tuple_addW2 t b vs.toArray ws.toArray n n2 dd dd2 sl sl2 (by simpa using hv) (by simpa using hw) (by rw[aA,aA]; exact hsz)) ⟨ho,ho2,?_⟩
  rw[e]
  exact h2 hw
noncomputable def sIx (n d:Nat):Option Int->Nat
 | none=>d
 | some v=>if v<0 then (v+(n:Int)).toNat else min v.toNat n
theorem sIx_none (n d:Nat):sIx n d none=d:=rfl
theorem sIx_nat (n d k:Nat):sIx n d (some (k:Int))=min k n:=by
 show (if (k:Int)<0 then ((k:Int)+(n:Int)).toNat else min (k:Int).toNat n)=min k n
 rw[ax (by omega),bL]
theorem jOI (n d:Nat)(hd:d<=n)(o:Option Int):sIx n d o<=n:=by
 cases o with
 | none=>exact hd
 | some v=>
  show (if v<0 then (v+(n:Int)).toNat else min v.toNat n)<=n
  by_cases hv:v<0
  ·rw[ao hv]; omega
  ·rw[ax hv]; exact Nat.min_le_right _ _
theorem jJM (v:Int)(n d:Nat):(if v<0 then max (v+(n:Int)) 0 else min v (n:Int))=((sIx n d (some v):Nat):Int):=by
 show (if v<0 then max (v+(n:Int)) 0 else min v (n:Int))=(((if v<0 then (v+(n:Int)).toNat else min v.toNat n):Nat):Int)
 by_cases hv:v<0
 ·simp only [ao hv]; omega
 ·simp only [ax hv]; omega
theorem jHF (lo hi:Option Int)(n:Nat):Builtin.Slice.sliceAdjust lo hi 1 (n:Int)=(((sIx n 0 lo:Nat):Int),((sIx n n hi:Nat):Int)):=by
 have h1:¬ ((1:Int)<0):=by omega
 unfold Builtin.Slice.sliceAdjust
 simp only [h1,fX]
 refine Prod.ext ?_ ?_
 ·cases lo with
  | none=>rfl
  | some v=>exact jJM v n 0
 ·cases hi with
  | none=>rfl
  | some v=>exact jJM v n n
theorem jH0 (i j:Nat):Builtin.Slice.slicePlaces (i:Int) (j:Int) 1=j - i:=by
 unfold Builtin.Slice.slicePlaces
 have h1:(1:Int)>0:=by omega
 simp only [h1,fe,Int.ediv_one]
 split <;> omega
theorem jD4 {v:Value}{o:Option Int}{Q:Option Int->Shared->Prop}(p:IsPart v o)(h:Q o s):wpAny (model prog w) A (Builtin.Slice.slicePartIndex v) Q E s:=by
 cases p with
 | none=>exact slicePart_none h
 | int i t=>exact slicePart_int h
theorem sliceApplied_gen {sl:Addr}{vl vu:Value}{lo hi:Option Int}{n:Nat}{Q:Int×Int×Nat->Shared->Prop}(hs:s.heap.IsSliceOf sl vl vu .none)(pl:IsPart vl lo)(pu:IsPart vu hi)
  (h:Q (((sIx n 0 lo:Nat):Int),1,sIx n n hi - sIx n 0 lo) s):wpAny (model prog w) A (Builtin.Slice.sliceApplied (.ref sl) (pure (n:Int))) Q E s:=by
 obtain⟨os,hos,hcs,hds⟩:=id hs
 unfold Builtin.Slice.sliceApplied Builtin.Slice.sliceFields
 refine aa (aa (bu hos hds (x:=vl) rfl (aa (bu hos hds (x:=vu) rfl (aa (bu hos hds (x:= .none) rfl (am ?_)))))))
 refine aa (slicePart_none ?_)
 show wpAny _ _ (if ((1:Int)==0)=true then _ else _) _ _ s
 rw[ax (by decide)]
 refine aa (jD4 pl (aa (jD4 pu (aa (am ?_)))))
 show wpAny _ _ (match Builtin.Slice.sliceAdjust lo hi 1 (n:Int) with | (lo,hi)=>pure (lo,(1:Int),Builtin.Slice.slicePlaces lo hi 1)) _ _ s
 rw[jHF lo hi n]
 show wpAny _ _ (pure (((sIx n 0 lo:Nat):Int),(1:Int),Builtin.Slice.slicePlaces ((sIx n 0 lo:Nat):Int) ((sIx n n hi:Nat):Int) 1)) _ _ s
 rw[jH0]
 exact am h
theorem jK6 (xs:Array Value)(i k:Nat):((List.range k).filterMap fun (m:Nat)=>xs[((i:Int)+(m:Int)*1).toNat]?).toArray=((xs.toList.drop i).take k).toArray:=by
 have e:(fun (m:Nat)=>xs[((i:Int)+(m:Int)*1).toNat]?)=fun m=>xs[i+m]?:=by
  funext m
  have:((i:Int)+(m:Int)*1).toNat=i+m:=by omega
  rw[this]
 rw[e]
 have:=pick_run xs i k
 rw[List.filterMap_map] at this
 have e2:((fun x=>xs[x]?) ∘ fun x=>i+x)=fun m=>xs[i+m]?:=rfl
 rw[e2] at this
 rw[this]
theorem getItem_tuple_cut {t sl:Addr}{items:Array Value}{vl vu:Value}{lo hi:Option Int}{Q:Value->Shared->Prop}(ht:IsTup s.heap t items)(hs:s.heap.IsSliceOf sl vl vu .none)(pl:IsPart vl lo)(pu:IsPart vu hi)
  (hw:¬ (sIx items.size 0 lo=0/\sIx items.size items.size hi=items.size))
  (h:Q (.ref s.heap.objs.size) { s with heap:=s.heap.push { cls:= .type "tuple",data:= .seq ((items.toList.drop (sIx items.size 0 lo)).take (sIx items.size items.size hi - sIx items.size 0 lo)).toArray}})
  (hsz:items.size<=sizeLine):wpAny (model prog w) A (getItem (.ref t) (.ref sl)) Q E s:=by
 have htake:sizeOk (.seq ((items.toList.drop (sIx items.size 0 lo)).take (sIx items.size items.size hi - sIx items.size 0 lo)).toArray):=by
  show ((items.toList.drop (sIx items.size 0 lo)).take (sIx items.size items.size hi - sIx items.size 0 lo)).toArray.size<=sizeLine
  rw[aA,aU,cO,aP]
  omega
 have hj:sIx items.size items.size hi<=items.size:=jOI _ _ (az _) hi
 obtain⟨os,hos,hcs,hds⟩:=id hs
 have hTs:s.TypeIs (.ref sl) "slice" :=⟨os,hos,hcs⟩
 unfold getItem
 try with_reducible refine bE ?_
 first | refine aa (am ?_) | skip
 refine aa (wpAny_sequenceKey ht.typeIs (by decide) ?_)
 refine aa (bJ (name:=Str.ofString "__getitem__") ht.typeIs bG
  (cc bG ht.typeIs entry_tuple_getitem ?_ (args_tuple_getitem _ _)))
 show wpAny _ _ (Builtin.Tuple.tupleItemsOf (.ref t) >>= _) _ _ s
 refine aa (tupleItemsOf_ ht ?_)
 refine aa (gk hTs ?_)
 rw[ao (by decide)]
 refine aa (sliceApplied_gen hs pl pu ?_)
 have hno:¬ ((((sIx items.size 0 lo:Nat):Int)==0&&(1:Int)==1&&(sIx items.size items.size hi - sIx items.size 0 lo)==items.size)=true):=by
  intro q
  rw[cP,cP] at q
  have q1:((sIx items.size 0 lo:Nat):Int)=0:=eq_of_beq q.1.1
  have q2:sIx items.size items.size hi - sIx items.size 0 lo=items.size:=eq_of_beq q.2
  exact hw ⟨by omega,by omega⟩
 show wpAny _ _ (if (((sIx items.size 0 lo:Nat):Int)==0&&(1:Int)==1&&(sIx items.size items.size hi - sIx items.size 0 lo)==items.size)=true then _ else _) _ _ s
 rw[ax hno,jK6]
 first
  | exact aa (m:=Builtin.Tuple.tupleExact _) (cq (am ⟨_,rfl,am h⟩) htake)
  | exact aa (m:=Builtin.Tuple.tupleExact _) (cq (aa (am (am ⟨_,rfl,am h⟩))) htake)
  | exact aa (aa (m:=Builtin.Tuple.tupleExact _) (cq (am (am ⟨_,rfl,am h⟩)) htake))
  | exact aa (aa (m:=Builtin.Tuple.tupleExact _) (cq (am ⟨_,rfl,am h⟩) htake))
end
end HT
namespace L2
open PySem PySem.Spec PyProof.Rows
abbrev TO:=St->Hp->(Option Int->Hp->Prop)->Prop
def PO (X:Cx)(e:Option Expr)(t:TO):Prop:=
 ∀ (pins:List (Addr×Obj)) (s:Shared) (σ:St) (H:Hp) (Q:Option Int->Hp->Prop),Inv X pins σ H s->t σ H Q->
  wpAny (model X.prog X.w) X.A (evalPart e X.env) (fun u s'=>∃ o H',Inv X pins σ H' s'/\IsPart u o/\Q o H') X.xe s
def jHR:TO:=fun _ H Q=>Q none H
def tPart (t:TE):TO:=fun σ H Q=>t σ H fun x H1=>∃ i,x= .int i/\Q (some i) H1
section
variable {X:Cx}{e:Expr}{te:TE}{lo hi:Option Expr}{tl th:TO}{pos p2:Pos}
theorem jMN:PO X none jHR:=by
 intro pins s σ H Q I h
 rw[evalPart_none]
 exact am ⟨none,H,I, .none,h⟩
theorem jMM (h:PE X e te):PO X (some e) (tPart te):=by
 intro pins s σ H Q I hw
 rw[evalPart_some]
 refine thn (h pins s σ H _ I hw) fun u s1 ⟨x,H1,I1,r1,q1⟩=>?_
 obtain⟨i,rfl,q⟩:=q1
 obtain⟨t,rfl⟩:=r1
 exact⟨some i,H1,I1, .int i t,q⟩
def SlR (X:Cx)(r:V->Option Int->Option Int->Hp->VK->Prop):Prop:=
 ∀ (pins:List (Addr×Obj)) (s:Shared) (σ:St) (H:Hp) (x:V) (v vl vu:Value) (lo hi:Option Int) (sl:Addr) (Q:VK),Inv X pins σ H s->RelV x v->s.heap.IsSliceOf sl vl vu .none->IsPart vl lo->IsPart vu hi->r x lo hi H Q->
  ∃ T id,typeLookup (.type T) "__getitem__" =pure (some (.builtin id))/\s.TypeIs v T/\wpAny (model X.prog X.w) X.A (getItem v (.ref sl)) (EP X pins σ Q) X.xe s
def tSl (r:V->Option Int->Option Int->Hp->VK->Prop)(te:TE)(tl th:TO):TE:=fun σ H Q=>te σ H fun x H1=>tl σ H1 fun l H2=>th σ H2 fun u H3=>r x l u H3 Q
theorem jK8 {r:V->Option Int->Option Int->Hp->VK->Prop}(hr:SlR X r)(he:PE X e te)(hl:PO X lo tl)(hu:PO X hi th):PE X (.Subscript e (.Slice lo hi none p2) pos) (tSl r te tl th):=by
 intro pins s σ H Q I h
 refine Subscript_ (thn (he pins s σ H _ I h) fun v s1 ⟨x,H1,I1,r1,q1⟩=>?_)
 refine wpAny_Slice (thn (hl pins s1 σ H1 _ I1 q1) fun vl s2 ⟨l,H2,I2,pl,q2⟩=>thn (hu pins s2 σ H2 _ I2 q2) fun vu s3 ⟨u,H3,I3,pu,q3⟩=>?_)
 rw[evalPart_none]
 refine am ?_
 have I4:Inv X pins σ H3 { s3 with heap:=s3.heap.push { cls:= .type "slice",data:= .fields #[vl,vu, .none]}} :=I3.kept (t':=s3.toks) fun b ob q=>ae _ q
 obtain⟨T,id,hT,ht,hg⟩:=hr pins { s3 with heap:=s3.heap.push { cls:= .type "slice",data:= .fields #[vl,vu, .none]}} σ H3 x v vl vu l u s3.heap.objs.size Q I4 r1 (Heap.IsSliceOf.new ..) pl pu q3
 show wpAny (model X.prog X.w) X.A (subscriptTail e (.Slice lo hi none p2) v (.ref s3.heap.objs.size)) (EP X pins σ Q) X.xe { s3 with heap:=s3.heap.push { cls:= .type "slice",data:= .fields #[vl,vu, .none]}}
 exact tail_any (ops:=[.ref s3.heap.objs.size,v]) ht hT hg (by with_unfolding_all rfl)
def cutV (xs:List V)(lo hi:Option Int):List V:=(xs.drop (HT.sIx xs.length 0 lo)).take (HT.sIx xs.length xs.length hi - HT.sIx xs.length 0 lo)
theorem jCY (xs:List V)(lo hi:Option Int):(cutV xs lo hi).length<=xs.length:=by
 unfold cutV
 rw[aU,cO]
 omega
def rSlT (K:W.Frag):V->Option Int->Option Int->Hp->VK->Prop:=fun x lo hi H Q=>∃ a xs,x= .ref a/\SqT K H a xs/\
 ¬ (HT.sIx xs.length 0 lo=0/\HT.sIx xs.length xs.length hi=xs.length)/\∀ p,H p=none->Q (.ref p) (upd H p (.tup (cutV xs lo hi)))
theorem jOF:SlR X (rSlT X.K):=by
 intro pins s σ H x v vl vu lo hi sl Q I rx hs pl pu h
 obtain⟨a,xs,rfl,hx,hw,q⟩:=h
 cases rx
 obtain⟨its,r,ht,hz⟩:=I.tuple hx
 have hlen:its.toArray.size=xs.length:=by rw[aA]; exact r.length.symm
 refine⟨"tuple",_,bG.lookup,ht.typeIs,?_⟩
 refine HT.getItem_tuple_cut ht hs pl pu (by rw[hlen]; exact hw) ?_ (by rw[hlen]; exact hz)
 rw[hlen]
 refine⟨.ref s.heap.objs.size,_,I.laid (t':=s.toks) (o:= .tup (cutV xs lo hi)) (fun b ob q=>ae _ q) (az _) ?_,rfl,q _ (I.hok.fresh (az _))⟩
 exact⟨bW (jCY xs lo hi) hz,_,(r.drop (HT.sIx xs.length 0 lo)).take (HT.sIx xs.length xs.length hi - HT.sIx xs.length 0 lo),TupO.new _ _⟩
def rCatT (K:W.Frag):R2:=fun x y H Q=>∃ a b xs ys,x= .ref a/\y= .ref b/\SqT K H a xs/\SqT K H b ys/\xs≠ []/\xs.length+ys.length<=sizeLine/\
 (ys=[]->Q (.ref a) H)/\(ys≠ []->∀ p,H p=none->Q (.ref p) (upd H p (.tup (xs++ys))))
theorem Vals.nil_iff {xs:List V}{us:List Value}(r:Vals xs us):us=[]↔xs=[]:=by
 cases r with
 | nil=>simp
 | cons _ _=>simp
theorem jN0:OpR X (binaryOp .Add) (rCatT X.K):=by
 intro pins s σ H x y v u Q I rx ry h
 obtain⟨a,b,xs,ys,rfl,rfl,ha,hb,hx,hz,q1,q2⟩:=h
 cases rx
 cases ry
 obtain⟨its,r1,p1,_⟩:=I.tuple ha
 obtain⟨its2,r2,p2,_⟩:=I.tuple hb
 refine HT.cat_tup p1 p2 (fun z=>hx (r1.nil_iff.mp z)) (fun z=>⟨.ref a,H,I,rfl,q1 (r2.nil_iff.mp z)⟩) (fun z=>?_) (by rw[<- r1.length,<- r2.length]; exact hz)
 refine⟨.ref s.heap.objs.size,_,I.laid (t':=s.toks) (o:= .tup (xs++ys)) (fun b ob q=>ae _ q) (az _) ?_,rfl,q2 (fun w=>z (r2.nil_iff.mpr w)) _ (I.hok.fresh (az _))⟩
 exact⟨by rw[aj]; exact hz,_,r1.append r2,TupO.new _ _⟩
end
end L2
namespace L2
open PySem PySem.Spec PyProof.Rows
noncomputable def ixN (n:Nat)(i:Int):Option Nat:=if 0<=i then (if i<n then some i.toNat else none) else if -(n:Int)<=i then some (i+n).toNat else none
def atI {α:Type}(xs:List α)(i:Int):Option α:=(ixN xs.length i).bind fun j=>xs[j]?
theorem jJ5 {n:Nat}{i:Int}{j:Nat}(h:ixN n i=some j):seqIndex? i n=some j/\j<n/\ -(n:Int)<=i/\i<n:=by
 unfold ixN at h
 by_cases h0:0<=i
 ·rw[ao h0] at h
  by_cases h1:i<n
  ·rw[ao h1] at h
   have e:i.toNat=j:=bg h
   exact⟨by rw[seqIndex_of h0 h1,e],by omega,by omega,h1⟩
  ·rw[ax h1] at h; cases h
 ·rw[ax h0] at h
  by_cases h1: -(n:Int)<=i
  ·rw[ao h1] at h
   have e:(i+n).toNat=j:=bg h
   exact⟨by rw[seqIndex_neg (by omega) h1,e],by omega,h1,by omega⟩
  ·rw[ax h1] at h; cases h
theorem jJT {α:Type}{xs:List α}{i:Int}{v:α}(h:atI xs i=some v):∃ j,seqIndex? i xs.length=some j/\xs[j]?=some v/\j<xs.length/\ -(xs.length:Int)<=i/\i<xs.length:=by
 unfold atI at h
 cases e:ixN xs.length i with
 | none=>rw[e] at h; cases h
 | some j=>
  rw[e] at h
  obtain⟨h1,h2,h3,h4⟩:=jJ5 e
  exact⟨j,h1,h,h2,h3,h4⟩
theorem yF {α:Type}{xs:List α}{j:Nat}{v:α}(h:xs[j]?=some v):atI xs (j:Int)=some v:=by
 have hj:j<xs.length:=(af.mp h).1
 have e:ixN xs.length (j:Int)=some j:=by
  unfold ixN
  rw[ao (by omega),ao (by omega)]; simp
 unfold atI; rw[e]; exact h
def jAU (b:Expr):Prop:=∀ o i,subscripted b false o i=operate [o,i] (getItem o i)
def IxR (X:Cx)(r:R2):Prop:=
 ∀ (value slice:Expr) (pins:List (Addr×Obj)) (s:Shared) (σ:St) (H:Hp) (x y:V) (v u:Value) (Q:VK),Inv X pins σ H s->RelV x v->RelV y u->r x y H Q->
  subscripted slice false v u=operate [v,u] (getItem v u)->wpAny (model X.prog X.w) X.A (subscriptTail value slice v u) (EP X pins σ Q) X.xe s
def MtR (X:Cx)(id:String)(r:V->List V->Hp->VK->Prop):Prop:=
 ∀ (pins:List (Addr×Obj)) (s:Shared) (σ:St) (H:Hp) (x:V) (xs:List V) (v:Value) (us:List Value) (Q:VK),Inv X pins σ H s->RelV x v->Vals xs us->r x xs H Q->
  wpAny (model X.prog X.w) X.A (call (.builtin id) (v::us)) (EP X pins σ Q) X.xe s
section
variable {X:Cx}{a b:Expr}{ta tb:TE}{pos:Pos}
theorem pe_ix {r:R2}(hr:IxR X r)(ha:PE X a ta)(hb:PE X b tb)(hs:jAU b):PE X (.Subscript a b pos) (tOp r ta tb):=by
 intro pins s σ H Q I h
 exact Subscript_ (binT ha hb I h fun v u s2 x y H2 I2 rx ry q=>hr a b pins s2 σ H2 x y v u Q I2 rx ry q (hs _ _))
def rIxL (K:W.Frag):R2:=fun x y H Q=>∃ p xs i v,x= .ref p/\y= .int i/\SqL K H p xs/\atI xs i=some v/\Q v H
def rIxT (K:W.Frag):R2:=fun x y H Q=>∃ p xs i v,x= .ref p/\y= .int i/\SqT K H p xs/\atI xs i=some v/\Q v H
theorem jAG:IxR X (rIxL X.K):=by
 intro value slice pins s σ H x y v u Q I rx ry h hs
 obtain⟨p,xs,i,z,rfl,rfl,hq,he,q⟩:=h
 cases rx
 obtain⟨t,rfl⟩:=ry
 obtain⟨its,r,pl,hz⟩:=I.list hq
 obtain⟨j,h1,h2,h3,h4,h5⟩:=jJT he
 obtain⟨w,ew,rw'⟩:=r.get h2
 have hl:=r.length
 have hn:=jEX
 have fin:EP X pins σ Q w s:=⟨z,H,I,rw',q⟩
 by_cases h0:0<=i
 ·have hj:i.toNat=j:=by
   rw[seqIndex_of h0 h5] at h1
   exact bg h1
  exact item_listR pl.isList h0 (by omega) (by rw[hj]; simpa using ew) fin hs
 ·have hj:(i+(its.toArray.size:Int)).toNat=j:=by
   rw[seqIndex_neg (by omega) h4] at h1
   rw[aA,<- hl]
   exact bg h1
  exact subscriptTail_builtinR (x:=w) pl.isList.typeIs slot_list_getitem.lookup
   (wpAny_getItem_list_neg (Q:=fun r s'=>r=w/\EP X pins σ Q r s') pl.isList (by omega) (by rw[aA] <;> omega) (by omega) (by rw[hj]; simpa using ew) ⟨rfl,fin⟩) hs
theorem kG:IxR X (rIxT X.K):=by
 intro value slice pins s σ H x y v u Q I rx ry h hs
 obtain⟨p,xs,i,z,rfl,rfl,hq,he,q⟩:=h
 cases rx
 obtain⟨t,rfl⟩:=ry
 obtain⟨its,r,pl,hz⟩:=I.tuple hq
 obtain⟨j,h1,h2,h3,h4,h5⟩:=jJT he
 obtain⟨w,ew,rw'⟩:=r.get h2
 have hl:=r.length
 have hn:=jEX
 have fin:EP X pins σ Q w s:=⟨z,H,I,rw',q⟩
 exact subscriptTail_builtinR (x:=w) pl.typeIs slot_tuple_getitem.lookup
  (getItem_tuple (j:=j) (Q:=fun r s'=>r=w/\EP X pins σ Q r s') pl (by omega) (by omega) (by rw[aA,<- hl]; exact h1) (by simpa using ew) ⟨rfl,fin⟩) hs
theorem jH5 (its:List Value)(n j:Nat)(u:Value):Obj.mapSeq (·.setIfInBounds j u) { cls:= .type "list",data:= .seq its.toArray n} = { cls:= .type "list",data:= .seq (its.set j u).toArray n} :=by
 simp [Obj.mapSeq]
theorem Inv.lst {pins:List (Addr×Obj)}{σ:St}{H:Hp}{s:Shared}{p:Addr}{xs:List V}(I:Inv X pins σ H s)(h:H p=some (.lst xs)):
  ∃ (its:List Value) (n:Nat),Vals xs its/\s.heap.get? p=some { cls:= .type "list",data:= .seq its.toArray n} /\xs.length<=sizeLine:=by
 obtain⟨z,its,n,r,e⟩:=I.hok p _ h
 exact⟨its,n,r,e,z⟩
theorem Inv.lstUpd {pins:List (Addr×Obj)}{σ:St}{H:Hp}{s:Shared}{p:Addr}{xs ys:List V}{its its':List Value}{n n':Nat}{f:Obj->Obj}(I:Inv X pins σ H s)(h:H p=some (.lst xs))
  (ho:s.heap.get? p=some { cls:= .type "list",data:= .seq its.toArray n}) (hf:f { cls:= .type "list",data:= .seq its.toArray n} = { cls:= .type "list",data:= .seq its'.toArray n'}) (r:Vals ys its') (hz:ys.length<=sizeLine) (t:Nat):
  Inv X pins σ (upd H p (.lst ys)) { s with heap:=s.heap.update p f,toks:=t} :=by
 have e:(s.heap.update p f).get? p=some { cls:= .type "list",data:= .seq its'.toArray n'} :=by
  rw[Heap.get?_update_self f ho (by rw[hf] <;> rfl),hf]
 refine I.write (x:=p) (e:=p) (by rw[h]; trivial) (.inl rfl) (fun b u hb q=>(eg _ _ (cL hb)).trans q) ⟨_,e⟩ ?_
 exact⟨hz,its',n',r,e⟩
def rSetL:V->V->V->Hp->(Hp->Prop)->Prop:=fun o i v H Q=>∃ p xs k j,o= .ref p/\i= .int k/\H p=some (.lst xs)/\ixN xs.length k=some j/\Q (upd H p (.lst (xs.set j v)))
theorem jJZ:PSet X rSetL:=by
 intro pins s σ H o i v ov iv u Q I ro ri rv h
 obtain⟨p,xs,k,j,rfl,rfl,hp,hj,q⟩:=h
 cases ro
 obtain⟨t,rfl⟩:=ri
 obtain⟨its,n,r,ho,hz⟩:=I.lst hp
 obtain⟨h1,h2,h3,h4⟩:=jJ5 hj
 have hl:=r.length
 have hn:=jEX
 have I':Inv X pins σ (upd H p (.lst (xs.set j v))) { s with heap:=s.heap.update p (Obj.mapSeq (·.setIfInBounds j u))} :=
  I.lstUpd hp ho (jH5 its n j u) (r.set rv j) (by rw[List.length_set]; exact hz) s.toks
 by_cases h0:0<=k
 ·have hk:k.toNat=j:=by
   rw[seqIndex_of h0 h4] at h1
   exact bg h1
  exact PySem.W.ki_setAt ho h0 (by omega) (by rw[aA,<- hl]; exact h4) (by rw[hk]; exact⟨_,I',q⟩)
 ·have hk:(k+(its.toArray.size:Int)).toNat=j:=by
   rw[seqIndex_neg (by omega) h3] at h1
   rw[aA,<- hl]
   exact bg h1
  exact PySem.W.ki_setBack ho (by omega) (by rw[aA,<- hl]; exact h3) (by omega) (by rw[hk]; exact⟨_,I',q⟩)
theorem jEM (lo hi:Option Int)(n:Nat):(sliceBounds lo hi none n).1=((HT.sIx n 0 lo:Nat):Int)/\(sliceBounds lo hi none n).2.1=((HT.sIx n n hi:Nat):Int)/\(sliceBounds lo hi none n).2.2=1:=by
 refine⟨?_,?_,rfl⟩
 ·cases lo with
  | none=>simp [sliceBounds,HT.sIx]
  | some i=>
   simp only [sliceBounds,HT.sIx,getD_none,show (1:Int)>0 by decide,fe]
   by_cases h:i<0
   ·simp only [h,fe] <;> omega
   ·simp only [h,fX] <;> omega
 ·cases hi with
  | none=>simp [sliceBounds,HT.sIx]
  | some i=>
   simp only [sliceBounds,HT.sIx,getD_none,show (1:Int)>0 by decide,fe]
   by_cases h:i<0
   ·simp only [h,fe] <;> omega
   ·simp only [h,fX] <;> omega
theorem jDR (its:List Value)(lo hi:Option Int):slicePick its.toArray lo hi none=((its.drop (HT.sIx its.length 0 lo)).take (HT.sIx its.length its.length hi - HT.sIx its.length 0 lo)).toArray:=by
 obtain⟨h1,h2,h3⟩:=jEM lo hi its.toArray.size
 unfold slicePick
 rw[h1,h2,h3]
 simp only [sliceRange_one,pick_run,aA] <;> rfl
def rSlL (K:W.Frag):V->Option Int->Option Int->Hp->VK->Prop:=fun x lo hi H Q=>∃ a xs,x= .ref a/\SqL K H a xs/\∀ p,H p=none->Q (.ref p) (upd H p (.lst (cutV xs lo hi)))
theorem jHX:SlR X (rSlL X.K):=by
 intro pins s σ H x v vl vu lo hi sl Q I rx hs pl pu h
 obtain⟨a,xs,rfl,hx,q⟩:=h
 cases rx
 obtain⟨its,r,ht,hz⟩:=I.list hx
 have hlen:=r.length
 refine⟨"list",_,slot_list_getitem.lookup,ht.isList.typeIs,?_⟩
 refine wpAny_getItem_list_slice ht.isList hs pl pu .none (by simp) ?_ (by rw[aA] <;> omega)
 rw[jDR,<- hlen]
 refine⟨.ref s.heap.objs.size,_,I.laid (t':=s.toks) (o:= .lst (cutV xs lo hi)) (fun b ob q=>ae _ q) (az _) ?_,rfl,q _ (I.hok.fresh (az _))⟩
 exact⟨bW (jCY xs lo hi) hz,_,0,(r.drop (HT.sIx xs.length 0 lo)).take (HT.sIx xs.length xs.length hi - HT.sIx xs.length 0 lo),aE _ rfl⟩
def flatV:V->Bool
 | .non=>true
 | .bl _=>true
 | .int _=>true
 | .str _=>true
 | _=>false
noncomputable def eqV:V->V->Bool
 | .non, .non=>true
 | .bl a, .bl b=>a==b
 | .bl a, .int b=>(if a then 1 else 0)==b
 | .int a, .bl b=>a==(if b then 1 else 0)
 | .int a, .int b=>a==b
 | .str a, .str b=>a==b
 | _,_=>false
theorem jPP {A:Around}{s:Shared}{y x:V}{u v:Value}(ry:RelV y u)(rx:RelV x v)(fy:flatV y=true)(fx:flatV x=true):SeqAt.EqAt A s u v (eqV y x):=by
 cases y with
 | non=>
  cases ry
  cases x with
  | non=>cases rx; exact SeqAt.EqAt.same _
  | bl b=>cases rx; exact SeqAt.EqAt.none_bool b
  | int b=>obtain⟨t,rfl⟩:=rx; exact SeqAt.EqAt.none_int b t
  | str b=>obtain⟨t,rfl⟩:=rx; exact SeqAt.EqAt.none_str b t
  | _=>exact absurd (show false=true from fx) ag
 | bl a=>
  cases ry
  cases x with
  | non=>cases rx; exact SeqAt.EqAt.bool_none a
  | bl b=>cases rx; exact SeqAt.EqAt.bool_bool a b
  | int b=>obtain⟨t,rfl⟩:=rx; exact SeqAt.EqAt.bool_int a b t
  | str b=>obtain⟨t,rfl⟩:=rx; exact SeqAt.EqAt.bool_str a b t
  | _=>exact absurd (show false=true from fx) ag
 | int a=>
  obtain⟨t',rfl⟩:=ry
  cases x with
  | non=>cases rx; exact SeqAt.EqAt.int_none a t'
  | bl b=>cases rx; exact SeqAt.EqAt.int_bool a t' b
  | int b=>obtain⟨t,rfl⟩:=rx; exact SeqAt.EqAt.int_int a t' b t
  | str b=>obtain⟨t,rfl⟩:=rx; exact SeqAt.EqAt.int_str a t' b t
  | _=>exact absurd (show false=true from fx) ag
 | str a=>
  obtain⟨t',rfl⟩:=ry
  cases x with
  | non=>cases rx; exact SeqAt.EqAt.str_none a t'
  | bl b=>cases rx; exact SeqAt.EqAt.str_bool a t' b
  | int b=>obtain⟨t,rfl⟩:=rx; exact SeqAt.EqAt.str_int a t' b t
  | str b=>obtain⟨t,rfl⟩:=rx; exact SeqAt.EqAt.str_str a t' b t
  | _=>exact absurd (show false=true from fx) ag
 | _=>exact absurd (show false=true from fy) ag
noncomputable def eqU (x:V)(u:Value):Bool:=match u with
 | .none=>eqV .non x
 | .bool b=>eqV (.bl b) x
 | .int i _=>eqV (.int i) x
 | .str z _=>eqV (.str z) x
 | _=>false
theorem jLV {x y:V}{u:Value}(r:RelV y u)(f:flatV y=true):eqU x u=eqV y x:=by
 cases y with
 | non=>cases r; rfl
 | bl b=>cases r; rfl
 | int i=>obtain⟨t,rfl⟩:=r; rfl
 | str z=>obtain⟨t,rfl⟩:=r; rfl
 | _=>exact absurd (show false=true from f) ag
theorem jCZ {x:V} :∀ {xs:List V}{us:List Value},Vals xs us->xs.all flatV=true->us.any (eqU x)=xs.any fun y=>eqV y x
 | _,_, .nil,_=>rfl
 | y::xs,u::us, .cons r t,f=>by
  rw[gO,cP] at f
  rw[eC,eC,jLV r f.1,jCZ t f.2]
theorem jAZ {A:Around}{s:Shared}{x:V}{v:Value}(rx:RelV x v)(fx:flatV x=true):∀ {xs:List V}{us:List Value},Vals xs us->xs.all flatV=true->∀ u∈us,SeqAt.EqAt A s u v (eqU x u)
 | _,_, .nil,_=>fun u hu=>by cases hu
 | y::xs,u::us, .cons r t,f=>fun u' hu=>by
  rw[gO,cP] at f
  rcases aH.mp hu with rfl | hu
  ·rw[jLV r f.1]; exact jPP r rx f.1 fx
  ·exact jAZ rx fx t f.2 u' hu
def inV (x:V)(xs:List V):Bool:=xs.any fun y=>eqV y x
def rIn (K:W.Frag)(neg:Bool):R2:=fun x y H Q=>∃ p xs,y= .ref p/\(SqL K H p xs\/SqT K H p xs)/\flatV x=true/\xs.all flatV=true/\Q (.bl (if neg then !inV x xs else inV x xs)) H
theorem jIA:OpR X (compareOp .In) (rIn X.K false):=by
 intro pins s σ H x y v u Q I rx ry h
 obtain⟨p,xs,rfl,hq,fx,fs,q⟩:=h
 cases ry
 rcases hq with hq | hq
 ·obtain⟨its,r,pl,hz⟩:=I.list hq
  refine SeqAt.in_listAt (eqU x) pl.isList (fun w hw=>jAZ rx fx r fs w (by simpa using hw)) ⟨.bl _,H,I,rfl,?_⟩
  rw[show its.toArray.any (eqU x)=its.any (eqU x) by simp,jCZ r fs]
  exact q
 ·obtain⟨its,r,pl,hz⟩:=I.tuple hq
  refine SeqAt.in_tupleAt (eqU x) pl (fun w hw=>jAZ rx fx r fs w (by simpa using hw)) ⟨.bl _,H,I,rfl,?_⟩
  rw[show its.toArray.any (eqU x)=its.any (eqU x) by simp,jCZ r fs]
  exact q
theorem jER:OpR X (compareOp .NotIn) (rIn X.K true):=by
 intro pins s σ H x y v u Q I rx ry h
 obtain⟨p,xs,rfl,hq,fx,fs,q⟩:=h
 cases ry
 rcases hq with hq | hq
 ·obtain⟨its,r,pl,hz⟩:=I.list hq
  refine SeqAt.notIn_listAt (eqU x) pl.isList (fun w hw=>jAZ rx fx r fs w (by simpa using hw)) ⟨.bl _,H,I,rfl,?_⟩
  rw[show its.toArray.any (eqU x)=its.any (eqU x) by simp,jCZ r fs]
  exact q
 ·obtain⟨its,r,pl,hz⟩:=I.tuple hq
  refine SeqAt.notIn_tupleAt (eqU x) pl (fun w hw=>jAZ rx fx r fs w (by simpa using hw)) ⟨.bl _,H,I,rfl,?_⟩
  rw[show its.toArray.any (eqU x)=its.any (eqU x) by simp,jCZ r fs]
  exact q
theorem jA0:yJ X (.builtin "len") (fun xs H Q=>∃ p ys,xs=[.ref p]/\(SqL X.K H p ys\/SqT X.K H p ys)/\Q (.int ys.length) H):=by
 intro pins s σ H xs us Q I r h
 obtain⟨p,ys,rfl,hq,q⟩:=h
 obtain⟨u,rfl,rx⟩:=vals1 r
 cases rx
 have hn:=jEX
 rcases hq with hq | hq
 ·obtain⟨its,r',pl,hz⟩:=I.list hq
  have hlen:=r'.length
  exact Calls.call_len_list pl.isList (by simp only [aA] <;> omega) ⟨.int ys.length,H,I.tok _,⟨s.toks+1,by rw[aA,hlen]⟩,q⟩
 ·obtain⟨its,r',pl,hz⟩:=I.tuple hq
  have hlen:=r'.length
  exact len_tuple pl (by simp only [aA] <;> omega) ⟨.int ys.length,H,I.tok _,⟨s.toks+1,by rw[aA,hlen]⟩,q⟩
theorem jAC:yJ X (.type "tuple") (fun xs H Q=>∃ p ys,xs=[.ref p]/\((SqL X.K H p ys/\∀ l,H l=none->Q (.ref l) (upd H l (.tup ys)))\/(SqT X.K H p ys/\Q (.ref p) H))):=by
 intro pins s σ H xs us Q I r h
 obtain⟨p,ys,rfl,h⟩:=h
 obtain⟨u,rfl,rx⟩:=vals1 r
 cases rx
 rcases h with ⟨hq,q⟩ | ⟨hq,q⟩
 ·obtain⟨its,r',pl,hz⟩:=I.list hq
  have hlen:=r'.length
  refine call_tuple_list pl.isList (fun h' kp=>?_) (by simp only [aA] <;> omega)
  have I1:Inv X pins σ H { s with heap:=h'} :=I.kept (t':=s.toks) kp
  have I2:Inv X pins σ (upd H h'.objs.size (.tup ys)) { s with heap:=h'.push { cls:= .type "tuple",data:= .seq its.toArray}} :=
   I1.laid (t':=s.toks) (fun b o e=>ae _ e) (az _) (show ObjOk X.prog X.w _ _ _ (.tup ys) from ⟨hz,its,r',TupO.new _ _⟩)
  exact⟨.ref h'.objs.size,_,I2,rfl,q _ (I1.hok.fresh (az _))⟩
 ·obtain⟨its,r',pl,hz⟩:=I.tuple hq
  exact call_tuple_same pl ⟨.ref p,H,I,rfl,q⟩
def tyV (K:W.Frag)(T:String)(x:V)(H:Hp):Prop:=match x with
 | .str _=>T= "str"
 | .int _=>T= "int"
 | .ref p=>(T= "list" /\∃ xs,SqL K H p xs)\/(T= "tuple" /\∃ o,K.lookup p=some o/\o.cls= .type "tuple" /\o.dict=none)\/
   (T= "dict" /\((∃ kvs,H p=some (.dK kvs))\/∃ kvs,H p=some (.dT kvs)))\/(T= "set" /\∃ S n,H p=some (.set S n))
 | _=>False
theorem jLC {pins:List (Addr×Obj)}{σ:St}{H:Hp}{s:Shared}{T:String}{x:V}{v:Value}(I:Inv X pins σ H s)(r:RelV x v)(ty:tyV X.K T x H):
  s.TypeIs v T/\∀ a,v= .ref a->∃ ob,s.heap.get? a=some ob/\ob.dict=none:=by
 cases x with
 | str z=>
  obtain⟨t,rfl⟩:=r
  cases (show T= "str" from ty)
  exact⟨typeIs_str s z t,fun _ e=>nomatch e⟩
 | int i=>
  obtain⟨t,rfl⟩:=r
  cases (show T= "int" from ty)
  exact⟨typeIs_int s i t,fun _ e=>nomatch e⟩
 | ref p=>
  cases r
  rcases ty with ⟨rfl,xs,hq⟩ | ⟨rfl,o,hk,hc,hd⟩ | ⟨rfl,hk⟩ | ⟨rfl,S,n,hk⟩
  ·obtain⟨its,_,pl,_⟩:=I.list hq
   refine⟨pl.isList.typeIs,fun a e=>?_⟩
   cases e
   obtain⟨o,n,e,c,hd,_⟩:=pl
   exact⟨o,e,hd⟩
  ·refine⟨⟨o,I.kIn p o hk,hc⟩,fun a e=>?_⟩
   cases e
   exact⟨o,I.kIn _ o hk,hd⟩
  ·have z:∃ o,s.heap.get? p=some o/\o.ExactDict:=by
    rcases hk with ⟨kvs,hk⟩ | ⟨kvs,hk⟩
    ·obtain⟨_,_,_,_,o,_,_,e,ex,_⟩:=I.hok p _ hk
     exact⟨o,e,ex⟩
    ·obtain⟨_,_,_,_,o,_,_,e,ex,_⟩:=I.hok p _ hk
     exact⟨o,e,ex⟩
   obtain⟨o,e,ex⟩:=z
   refine⟨⟨o,e,ex.1⟩,fun a e2=>?_⟩
   cases e2
   exact⟨o,e,ex.2.1⟩
  ·obtain⟨o,_,_,_,e,ex,_⟩:=I.hok p _ hk
   refine⟨⟨o,e,ex.1⟩,fun a e2=>?_⟩
   cases e2
   exact⟨o,e,ex.2.1⟩
 | _=>exact False.elim ty
def tBM0 (K:W.Frag)(T:String)(r:V->List V->Hp->VK->Prop)(to:TE):TE:=fun σ H Q=>to σ H fun x H1=>tyV K T x H1/\r x [] H1 Q
def tBM (K:W.Frag)(T:String)(r:V->List V->Hp->VK->Prop)(to:TE)(t:TA):TE:=fun σ H Q=>to σ H fun x H1=>tyV K T x H1/\t σ H1 fun xs H2=>r x xs H2 Q
variable {o e:Expr}{es:List Expr}{to:TE}{t:TA}{name:Str}{apos cpos:Pos}{T id:String}{r:V->List V->Hp->VK->Prop}
theorem jOZ (pa:PlainAttrs T)(slot:Slot T name id)(hty:typeOf (.builtin id)=pure (.type "method_descriptor"))(hm:MtR X id r)(ho:PE X o to)
  (hbase:attributeBase o name X.env (eval o X.env)=eval o X.env:=by rfl) (hline:(apos.endLine==cpos.line)=true:=by rfl):PE X (.Call (.Attribute o name apos) [] [] cpos) (tBM0 X.K T r to):=by
 intro pins s σ H Q I h
 refine wpAny_Call_method0_late hbase hline (thn (ho pins s σ H _ I h) fun v s1 ⟨x,H1,I1,r1,ty,q1⟩=>?_)
 obtain⟨h1,h2⟩:=jLC I1 r1 ty
 exact⟨T,id,pa,slot,hty,h1,h2,Calls.callWith_builtin rfl (PySem.evalArgs_none (hm pins s1 σ H1 x [] v [] Q I1 r1 .nil q1))⟩
theorem pe_bm (pa:PlainAttrs T)(slot:Slot T name id)(hty:typeOf (.builtin id)=pure (.type "method_descriptor"))(hm:MtR X id r)(ho:PE X o to)(ha:PA X (e::es) t)
  (hbase:attributeBase o name X.env (eval o X.env)=eval o X.env:=by rfl)
  (hfew:((backTo cpos (starEach (e::es) X.env)).all (fun x=>!x.1)&&(backToKw cpos (keywordEach [] X.env)).all (fun x=>x.1.isSome)
   &&decide ((e::es).length+([]:List Keyword).length+(if ([]:List Keyword).isEmpty then 0 else 1)<30))=true:=by rfl)
  (hline:(apos.endLine==cpos.line)=true:=by rfl) (hs:starEach (e::es) X.env=(false,eval e X.env)::starEach es X.env:=by rfl) (hplain:(backTo cpos (starEach es X.env)).any (·.1)=false:=by rfl):
  PE X (.Call (.Attribute o name apos) (e::es) [] cpos) (tBM X.K T r to t):=by
 intro pins s σ H Q I h
 refine wpAny_Call_method_late hbase hfew hline rfl (thn (ho pins s σ H _ I h) fun v s1 ⟨x,H1,I1,r1,ty,q1⟩=>?_)
 obtain⟨h1,h2⟩:=jLC I1 r1 ty
 refine⟨T,id,pa,slot,hty,h1,h2,?_⟩
 have hA:=ha cpos pins s1 σ H1 _ I1 q1
 rw[hs] at hA ⊢
 refine Calls.callWith_builtin (by show (false || (backTo cpos (starEach es X.env)).any (·.1))=false; rw[hplain] <;> rfl) (Calls.evalArgs_plain ?_)
 exact thn hA fun us s2 ⟨vs,H2,I2,r2,q2⟩=>hm pins s2 σ H2 x vs v us Q I2 r1 r2 q2
/- xs.append(e),list.index on a module's tuple .. are MtR facts of 06m -/
end
end L2
namespace L2
open PySem PySem.Spec PyProof.Rows
def MtM (X:Cx)(id:String)(r:V->List V->Hp->VK->Prop):Prop:=
 ∀ (pins:List (Addr×Obj)) (s:Shared) (σ:St) (H:Hp) (x:V) (xs:List V) (v:Value) (us:List Value) (Q:VK),Inv X pins σ H s->RelV x v->Vals xs us->r x xs H Q->
  wpAny (model X.prog X.w) X.A (call (.builtin id) (v::us)) (EP X pins σ Q) X.xe s
theorem Vals.one:∀ {x:V}{us:List Value},Vals [x] us->∃ u,us=[u]/\RelV x u
 | _,_, .cons r .nil=>⟨_,rfl,r⟩
theorem Vals.two:∀ {x y:V}{us:List Value},Vals [x,y] us->∃ u v,us=[u,v]/\RelV x u/\RelV y v
 | _,_,_, .cons r (.cons q .nil)=>⟨_,_,rfl,r,q⟩
theorem Vals.zero:∀ {us:List Value},Vals [] us->us=[]
 | _, .nil=>rfl
theorem Vals.dropLast {xs:List V}{us:List Value}(h:Vals xs us):Vals xs.dropLast us.dropLast:=by
 induction h with
 | nil=>exact .nil
 | cons r t ih=>
  cases t with
  | nil=>exact .nil
  | cons q t'=>exact .cons r ih
theorem Vals.rep {xs:List V}{us:List Value}(h:Vals xs us):∀ k:Nat,Vals (replicate k xs).flatten (replicate k us).flatten
 | 0=> .nil
 | k+1=>by
  rw[cI,cI,eh,eh]
  exact Vals.append h (Vals.rep h k)
theorem jH9 {α:Type}(l:List α):l.eraseIdx (l.length - 1)=l.dropLast:=by
 induction l with
 | nil=>rfl
 | cons a r ih=>
  cases r with
  | nil=>rfl
  | cons b r=>
   have e:(a::b::r).length - 1=((b::r).length - 1)+1:=by
    have h1:(a::b::r).length=r.length+2:=rfl
    have h2:(b::r).length=r.length+1:=rfl
    omega
   rw[e,List.eraseIdx_cons_succ,ih]
   all_goals rfl
theorem jF5 (its:List Value):∀ (k:Nat) (acc:List Value),
  List.foldl (fun x1 x2=>x1++x2) acc.toArray (replicate k its.toArray)=(acc++(replicate k its).flatten).toArray
 | 0,acc=>by simp
 | k+1,acc=>by
  have e:acc.toArray++its.toArray=(acc++its).toArray:=by simp
  have e2:(acc++its)++(replicate k its).flatten=acc++(replicate (k+1) its).flatten:=by
   rw[cI,eh,aI]
  rw[<- e2,<- jF5 its k (acc++its),<- e,cI,List.foldl_cons]
section
variable {X:Cx}{pins:List (Addr×Obj)}{σ:St}{H:Hp}{s:Shared}{l b:Addr}{xs ys zs:List V}
theorem Inv.lset {its its':List Value}{n:Nat}{f:Array Value->Array Value}{t':Nat}(I:Inv X pins σ H s)(hH:H l=some (.lst xs))
  (e:s.heap.get? l=some { cls:= .type "list",data:= .seq its.toArray n}) (hf:f its.toArray=its'.toArray) (hv:Vals ys its') (hz:ys.length<=sizeLine):
  Inv X pins σ (upd H l (.lst ys)) { s with heap:=s.heap.update l (Obj.mapSeq f),toks:=t'} :=by
 have q:=PySem.IsL.update e f
 rw[hf] at q
 refine I.write (x:=l) (e:=l) (by rw[hH]; exact trivial) (.inl rfl) (fun b' u hb hu=>(eg s.heap (Obj.mapSeq f) (cL hb)).trans hu) ⟨_,q⟩ ?_
 exact⟨hz,its',_,hv,q⟩
theorem Inv.lnew {its:List Value}{t':Nat}(I:Inv X pins σ H s)(hv:Vals ys its)(hz:ys.length<=sizeLine):
  Inv X pins σ (upd H s.heap.objs.size (.lst ys)) { s with heap:=s.heap.push { cls:= .type "list",data:= .seq its.toArray},toks:=t'} :=
 I.laid (fun _ _ q=>ae _ q) (az _) ⟨hz,its,0,hv,aE _ rfl⟩
theorem Inv.fresh (I:Inv X pins σ H s):H s.heap.objs.size=none:=I.hok.fresh (az _)
theorem Inv.lstM (I:Inv X pins σ H s)(hH:H l=some (.lst xs)):xs.length<=sizeLine/\∃ (its:List Value) (n:Nat),Vals xs its/\xs.length=its.length/\s.heap.get? l=some { cls:= .type "list",data:= .seq its.toArray n} :=by
 obtain⟨z,its,n,r,e⟩:=I.hok l _ hH
 exact⟨z,its,n,r,r.length,e⟩
theorem jGH {n:Nat}(h:n<=sizeLine):Builtin.List.listTooLong n=false:=by
 unfold Builtin.List.listTooLong
 exact aM (by omega)
end
section
variable {X:Cx}
def jI1:V->List V->Hp->VK->Prop:=fun x vs H Q=>∃ l xs y,x= .ref l/\vs=[y]/\H l=some (.lst xs)/\xs.length<sizeLine/\Q .non (upd H l (.lst (xs++[y])))
theorem jAQ:MtM X "list.append" jI1:=by
 intro pins s σ H x vs v us Q I rx rv h
 obtain⟨l,xs,y,rfl,rfl,hH,hz,q⟩:=h
 cases rx
 obtain⟨u,rfl,ru⟩:=rv.one
 obtain⟨z,its,n,r,hl,e⟩:=I.lstM hH
 refine eB F.slot_list_append ⟨_,e,rfl⟩ F.entry_list_append (F.args_list_append_2 _ _) (PySem.list_append l its.toArray n u (by rw[aA]; omega)) ⟨e,?_⟩
 refine⟨.non,_,I.lset (its':=its++[u]) hH e (by simp) (r.append (.cons ru .nil)) ?_,rfl,q⟩
 rw[aj,gB]
 omega
def jMD:V->List V->Hp->VK->Prop:=fun x vs H Q=>∃ l b xs zs,x= .ref l/\vs=[.ref b]/\H l=some (.lst xs)/\H b=some (.lst zs)/\xs.length+zs.length<=sizeLine/\Q .non (upd H l (.lst (xs++zs)))
theorem jII:MtM X "list.extend" jMD:=by
 intro pins s σ H x vs v us Q I rx rv h
 obtain⟨l,b,xs,zs,rfl,rfl,hH,hB,hz,q⟩:=h
 cases rx
 obtain⟨u,rfl,ru⟩:=rv.one
 cases ru
 obtain⟨z,its,n,r,hl,e⟩:=I.lstM hH
 obtain⟨z2,its2,n2,r2,hl2,e2⟩:=I.lstM hB
 have hsz:its.toArray.size+its2.toArray.size<=sizeLine:=by rw[aA,aA]; omega
 have hlong:¬ (!its.toArray.isEmpty&&Builtin.List.listTooLong (its.toArray.size+its2.toArray.size))=true:=by
  rw[jGH hsz,gG]
  exact ag
 refine eB F.slot_list_extend ⟨_,e,rfl⟩ F.entry_list_extend (F.args_list_extend_2 _ _)
  (AutoSeq1.list_extend_list_list_0 l its.toArray n b its2.toArray n2 hlong (by rw[aA]; omega) (by omega)) ⟨e,e2,?_⟩
 refine⟨.non,_,I.lset (its':=its++its2) hH e (by simp) (r.append r2) ?_,rfl,q⟩
 rw[aj]
 omega
def rPop:V->List V->Hp->VK->Prop:=fun x vs H Q=>∃ l xs y,x= .ref l/\vs=[]/\H l=some (.lst xs)/\xs[xs.length - 1]?=some y/\Q y (upd H l (.lst xs.dropLast))
theorem jP7:MtM X "list.pop" rPop:=by
 intro pins s σ H x vs v us Q I rx rv h
 obtain⟨l,xs,y,rfl,rfl,hH,hy,q⟩:=h
 cases rx
 have hus:=rv.zero
 subst hus
 obtain⟨z,its,n,r,hl,e⟩:=I.lstM hH
 obtain⟨u,hu,ru⟩:=r.get hy
 have hy':its.toArray[its.toArray.size - 1]?=some u:=by
  show its.toArray[its.length - 1]?=some u
  rw[<- bQ,<- hl]
  exact hu
 refine eB F.slot_list_pop ⟨_,e,rfl⟩ F.entry_list_pop (F.args_list_pop_1 _) (MeetsSeq.list_pop_last l its.toArray n u hy' (by rw[aA]; omega)) ⟨e,?_⟩
 refine⟨y,_,I.lset (its':=its.dropLast) hH e ?_ r.dropLast ?_,ru,q⟩
 ·show its.toArray.eraseIdxIfInBounds (its.toArray.size - 1)=its.dropLast.toArray
  rw[aA,List.eraseIdxIfInBounds_toArray,jH9]
 ·rw[List.length_dropLast]
  omega
def rCat:R2:=fun x y H Q=>∃ l b xs zs,x= .ref l/\y= .ref b/\H l=some (.lst xs)/\H b=some (.lst zs)/\xs.length+zs.length<=sizeLine/\∀ p,H p=none->Q (.ref p) (upd H p (.lst (xs++zs)))
theorem jP1:OpR X (binaryOp .Add) rCat:=by
 intro pins s σ H x y v u Q I rx ry h
 obtain⟨l,b,xs,zs,rfl,rfl,hH,hB,hz,q⟩:=h
 cases rx
 cases ry
 obtain⟨z,its,n,r,hl,e⟩:=I.lstM hH
 obtain⟨z2,its2,n2,r2,hl2,e2⟩:=I.lstM hB
 refine PySem.P.add_list e e2 ?_ (by rw[aA,aA]; omega)
 have ea:its.toArray++its2.toArray=(its++its2).toArray:=by simp
 rw[ea]
 exact⟨.ref _,_,I.lnew (t':=s.toks) (r.append r2) (by rw[aj]; omega),rfl,q _ I.fresh⟩
def rRep:R2:=fun x y H Q=>∃ l k xs,x= .ref l/\y= .int k/\H l=some (.lst xs)/\ -(2 ^ 63)<=k/\k<2 ^ 63/\xs.length*k.toNat<=sizeLine/\
 ∀ p,H p=none->Q (.ref p) (upd H p (.lst (replicate k.toNat xs).flatten))
theorem jNF {α:Type}(xs:List α)(k:Nat):(replicate k xs).flatten.length=k*xs.length:=by
 induction k with
 | zero=>simp
 | succ k ih=>rw[cI,eh,aj,ih,Nat.succ_mul,g9]
theorem jLM:OpR X (binaryOp .Mult) rRep:=by
 intro pins s σ H x y v u Q I rx ry h
 obtain⟨l,k,xs,rfl,rfl,hH,h1,h2,hz,q⟩:=h
 cases rx
 obtain⟨t,rfl⟩:=ry
 obtain⟨z,its,n,r,hl,e⟩:=I.lstM hH
 have hlen:its.toArray.size*k.toNat<=sizeLine:=by rw[aA,<- hl]; exact hz
 have hcap:¬ its.toArray.size*k.toNat>(2 ^ 63 - 1) / 8:=by
  have:(sizeLine:Nat)<=(2 ^ 63 - 1) / 8:=by decide
  omega
 have hfit:¬ (!Builtin.List.listFitsIndex k)=true:=by
  rw[fitsIndex_both h1 h2]
  exact ag
 have hlong:¬ Builtin.List.listTooLong (its.toArray.size*k.toNat)=true:=by
  rw[jGH hlen]
  exact ag
 have hnew:List.foldl (fun x1 x2=>x1++x2) #[] (replicate (if its.toArray.isEmpty=true then 0 else k.toNat) its.toArray)=(replicate k.toNat its).flatten.toArray:=by
  have f0:∀ m:Nat,List.foldl (fun x1 x2=>x1++x2) #[] (replicate m its.toArray)=(replicate m its).flatten.toArray:=fun m=>by
   have:=jF5 its m []
   rw[gt] at this
   exact this
  rw[f0]
  cases its with
  | nil=>simp
  | cons a r'=>rw[ax (by simp)]
 refine wpAny_binaryOp_repeat_ref (T:= "list") (U:= "int") (by decide) ⟨_,e,rfl⟩ (fun s'=>typeIs_int s' k t) noFill_list_mul F.fills_int_mul F.slot_int_rmul repeat_list F.slot_int_index.lookup
  (eB F.slot_int_rmul (typeIs_int s k t) F.entry_int_rmul (F.args_int_rmul_2 _ _) (int___rmul___int_list k t l its.toArray n)
   ⟨e,rfl,⟨_,e,rfl⟩,eB F.slot_list_mul ⟨_,e,rfl⟩ F.entry_list_mul (F.args_list_mul_2 _ _) (AutoListH.list___mul___list_int_3 l its.toArray n k t hfit hcap hlong) ⟨e,?_⟩⟩)
 rw[hnew]
 exact⟨.ref _,_,I.lnew (t':=s.toks) (r.rep k.toNat) (by rw[jNF,Nat.mul_comm]; exact hz),rfl,q _ I.fresh⟩
end
section
variable {prog:Program}{w:World}{A:Around}{E:Value->Shared->Prop}{s:Shared}
set_option maxRecDepth 100000 in
end
section
variable {X:Cx}
end
end L2
namespace Att
open PySem PySem.W PySem.Calls PyProof.Rows
theorem jCU {P:Params}{h:Heap} :∀ (ns:List Int) (vs:List Value),WellAll P h vs (ns.map WData.int)->IntsAre vs ns:=by
 intro ns
 induction ns with
 | nil=>
  intro vs w
  rw[gq] at w
  cases w
  exact .nil
 | cons n ns ih=>
  intro vs w
  rw[bq] at w
  cases w with
  | cons a b=>
   cases a
   exact .cons _ _ (ih _ b)
theorem jHZ {l:OpenLaw}{n:Nat}(hn:l.most=some n){P:Params}{h:Heap}{args:List WData}{vals:List Value}
  (hpre:l.row.toRowW.claim.pre args=true) (hwl:WellAll P h vals args):
  ∃ a vs ns,vals=[Value.ref a]/\args=[WData.list (ns.map WData.int)]/\h.get? a=some { cls:= .type "list",data:= .seq vs.toArray} /\IntsAre vs ns/\ns.length<=n:=by
 have hsh:WShape.hasAll [] args [.list .int]=true:=(pre_splitW hpre).1
 have hc:l.pre.holds [] { args:=args} =true:=(pre_splitW hpre).2
 obtain⟨d,r,rfl,h1,h2⟩:=hasAllW_cons hsh
 obtain rfl:=hasAllW_nil h2
 obtain⟨xs,rfl,h3⟩:=hasW_list h1
 obtain⟨ns,rfl⟩:=items_int h3
 have hlen:ns.length<=n:=by
  unfold OpenLaw.pre at hc
  have h4:(WTm.not (.lt (.lit (.int (n:Int))) (.len (.arg 0)))).holds [] { args:=[.list (ns.map .int)]} =true:=by
   have h4:=(holds_andW hc).1
   rw[hn] at h4
   exact h4
  have h5:=condW_of h4 (w_not (w_lt w_lit (w_len_list (w_arg rfl))))
  rw[ab] at h5
  refine Nat.le_of_not_lt fun q=>?_
  have q':(n:Int)<((ns.length:Nat):Int):=by omega
  first
   | (rw[aK q'] at h5; exact absurd h5 (by decide))
   | (simp at h5; omega)
 cases hwl with
 | cons w1 w2=>
  cases w2
  cases w1 with
  | list ho hall=>exact⟨_,_,ns,rfl,rfl,ho,jCU ns _ hall,hlen⟩
theorem jI3 (l:OpenLaw)(args:List WData):l.row.toRowW.claim.post args (.bool true) args=true:=
 postW_of (r:=l.row.toRowW) (X:=(true==true))
  (show WShape.has [] (.bool true) .bool=true by first | rfl | decide | simp [WShape.has,WShape.arms,WShape.armsAll])
  (show (WTm.eq .res (.lit (.bool true))).value [] { args:=args,res:=some (.bool true),after:=args} =some (.bool (true==true)) from w_eq_bool (w_res rfl) w_lit) rfl
theorem attach_call {l:OpenLaw}{n:Nat}{q:Program}{loose:List Str}{XP:(Str->Option Value)->Heap->Prop}{YP:World->Heap->Prop}{d:DefRec}
  (hn:l.most=some n) (hdf:d.params.defaults=[])
  (call:∀ (w:World) (s₀ s₁:Shared) (mg mb:Str->Option Value) (fa:Addr) (o:Obj) (pm cd doc:Value) (a:Addr) (vs:List Value) (ns:List Int),
   Ground q loose [] XP w s₀ mg mb s₁.heap->YP w s₁.heap->
   s₁.heap.get? fa=some o->o.data= .func (docDef d.name d.params d.body d.scope pm cd doc)->s₁.heap.CodeRec cd d.name->mg d.name=some (.ref fa)->
   s₁.heap.get? a=some { cls:= .type "list",data:= .seq vs.toArray} ->IntsAre vs ns->ns.length<=n->s₁.gens=#[]->
   codeAny (model l.prog w) callerA (.call (.ref fa) ⟨[.ref a],[]⟩) (fun r s'=>r= .ok (.ret (.bool true))/\OldK s₁.heap s'.heap/\s'.os=s₁.os/\AllBare s'.gens) s₁):
  WalkO q loose XP YP l.row.toRowW d [] (fun f vs=>PySem.call f vs):=by
 intro w s₀ s₁ mg mb G Y fa o pm cd doc dV kV ho hd hcd hD hmg hg args vals as hpre hlay hrd hwl hlo
 obtain rfl:dV= .none:=Dflts.none hD hdf
 obtain rfl:kV= .none:=Dflts.noKw hD
 obtain⟨a,vs,ns,rfl,rfl,hobj,hints,hlen⟩:=jHZ hn hpre hwl
 refine enter_call (dZ (call w s₀ s₁ mg mb fa o pm cd doc a vs ns G Y ho (fd_plain hd) hcd hmg hobj hints hlen hg) fun r s' hq=>?_)
 obtain⟨rfl,h2,h3,h4⟩:=hq
 exact⟨.inl ⟨.bool true, .bool true,[],rfl,fun _=>rfl, .bool true,jI3 l _,fun _=>⟨List.Pairwise.nil,fun _ hm=>(nomatch hm)⟩⟩,h2,h3,h4⟩
section
variable {prog:Program}{w:World}{A:Around}{E:Value->Shared->Prop}{s:Shared}{K:Frag}
end
end Att
namespace L2
open PySem PySem.Spec PyProof.Rows
theorem jED:∀ {vs:List Value}{ns:List Int},IntsAre vs ns->Vals (ns.map V.int) vs
 | _,_, .nil=> .nil
 | _,_, .cons n t h=> .cons ⟨t,rfl⟩ (jED h)
end L2
namespace L2
open PySem PySem.Spec PyProof.Rows
end L2
/- THE LAST THEOREM (shape; LID,My.* are yours):
  My.Adr:a structure of the addresses that your layer names (classes,functions); My.Txt K t:a structure (Prop) of the equations over K;
  My.txt_mk: {K} {implicit addresses ..} (e1:nsIn K mainGlobals "law" =some (some (.ref f))) (e2:K.lookup f=some ⟨oc,od, .func (fnOf "law" "law" params body scope dV kV doc pm an cdv ct),sl⟩) (e3:codeIn K cdv "law" =true) .. :∃ t,My.Txt K t
set_option maxRecDepth 100000 in
set_option maxHeartbeats 0 in
theorem PySem.Challenge.cw_LID_holds : PySem.Challenge.rw_LID.Holds := by
 w_on; o_law; k_head; (case hw=>w_witness2)
 k_fill
 refine L2.walk_of (l:=PySem.Challenge.rw_LID) (n:=63) (k:=40) (x:= "script") (CX:=fun w=> ..) (sp:=fun _=>My.sp_law) rfl (by decide) rfl ⟨rfl,by decide,by decide⟩ (fun w h Y=>PySem.W.kIn_of Y) ?F ?S ?C
 case F=>
  intro w mg fa h KX G hmg
  have T:∃ t,My.Txt (L2.KOf KX) t:=by
   dsimp only [L2.KOf] -- K must stand as «<heap const>w.params» for k_is
   refine' My.txt_mk ?e1 ?e2 ?e3 ..
   (case e1=>PySem.W.k_is) -- in the order:a name->its address->its object->its parts
   (case e2=>PySem.W.k_is)
   ..
  obtain⟨t,T⟩:=T
  have e0:=hmg.symm.trans (eE KX G T.law)
  cases e0 -- fa is the law's own address
  exact⟨_,fun s u=> .of_eq rfl,fun base kb nb=>My.law_fn T kb nb⟩ -- if «.of_eq rfl» comes too early:refine' ⟨_,?b,fun base kb nb=>My.law_fn T kb nb⟩; exact fun s u=> .of_eq rfl
 case S=>exact fun w H a ns hl hO hS=> ..
 case C=>exact ..
(the tactic k_is has no namespace:write k_is) -/
namespace L2
open PySem PySem.Spec PyProof.Rows
abbrev CX0:CXT:=fun _ _ _ _ _ _=>False
abbrev E0:XK:=fun _ _ _=>False
theorem pass0 {X:Cx} :jJU CX0 X E0:=fun _ _ _ _ _ _ _ h=>h.elim
structure Fun (K:W.Frag)(x qual:Str)(st:Stmt)(f:Addr)(fd:FuncData):Prop where
 ex:∃ (oc:Value) (od:Option Addr) (kV doc pm:Value) (an:Option Addr) (cdv ct:Value) (osl:Array (Option Value)),
  fd=PySem.W.fnOf x qual (jI st) (jB st) (j5 st) .none kV doc pm an cdv ct/\K.lookup f=some ⟨oc,od, .func fd,osl⟩/\PySem.W.codeIn K cdv qual=true
 kp:keepIn K (.ref f)=true
section
variable {P:Program}{w:World}{K:W.Frag}{mg:Str->Option Value}{base:Heap}
theorem Fun.ok {x qual:Str}{st:Stmt}{f:Addr}{fd:FuncData}{N ps:List Str}{k:Nat}{sp:Sp}(F:Fun K x qual st f fd)(S:FnScope N ps (j5 st))(len:∀ vs H Q E,sp vs H Q E->vs.length=ps.length)
  (hbody:∀ (cdv:Value) (A:Around) (outer:List Env) (s:Shared) (H:Hp) (vs:List V) (Q:VK) (E:XK),Room k (A.deeper (envOfC qual (j5 st) s.heap.objs.size f cdv))->sp vs H Q E->
   ∃ t,PSs (cxOf CX0 P w K mg base N qual (j5 st) f cdv A outer s H E).nox (jB st) t/\t { nx:=fun _ H'=>Q .non H',rt:=Q} (yH N vs) H):FnOk P w K mg base CX0 (k+1) f fd ps sp:=by
 obtain⟨oc,od,kV,doc,pm,an,cdv,ct,osl,rfl,lk,hcd⟩:=F.ex
 refine fn_of lk hcd S len fun A outer s H vs Q E hr hsp=>?_
 obtain⟨t,h,q⟩:=hbody cdv A outer s H vs Q E hr hsp
 exact⟨t,h.nox,q⟩
theorem Fun.binds {x qual:Str}{st:Stmt}{f:Addr}{fd:FuncData}{ps:List Str}(F:Fun K x qual st f fd)
  (h:∀ (kV doc pm:Value) (an:Option Addr) (cdv ct:Value) (us:List Value),us.length=ps.length->bindArgs (PySem.W.fnOf x qual (jI st) (jB st) (j5 st) .none kV doc pm an cdv ct) ⟨us,[]⟩=pure (ps.zip us)):Binds K fd ps []:=by
 obtain⟨oc,od,kV,doc,pm,an,cdv,ct,osl,rfl,lk,hcd⟩:=F.ex
 exact .all (h kV doc pm an cdv ct)
theorem kT {x qual:Str}{st:Stmt}{f:Addr}{oc:Value}{od an:Option Addr}{osl:Array (Option Value)}{kV doc pm cdv ct:Value}(l:K.lookup f=some ⟨oc,od, .func (PySem.W.fnOf x qual (jI st) (jB st) (j5 st) .none kV doc pm an cdv ct),osl⟩)
  (c:PySem.W.codeIn K cdv qual=true) (k:keepIn K (.ref f)=true):Fun K x qual st f (PySem.W.fnOf x qual (jI st) (jB st) (j5 st) .none kV doc pm an cdv ct):=⟨⟨oc,od,kV,doc,pm,an,cdv,ct,osl,rfl,l,c⟩,k⟩
end
theorem hu_of {A:Around}{k:Nat}(hr:Room k A):A.units+1<cLine:=gW (Nat.add_le_add_left (by decide:1<=64) _) hr.units
section
variable {X:Cx}
theorem pv (i:Nat){x:Str}{pos:Pos}(hN:X.N[i]?=some x:=by rfl)(hv:Vis X.env.scope x:=by first | exact Or.inl rfl | exact Or.inr (Or.inl rfl) | exact Or.inr (Or.inr rfl))(hd:(x==("__debug__" :Str))=false:=by decide)
  (hcd:(x==("__classdict__" :Str))=false:=by decide):PE X (.Name x pos) (tVar i):=jI5 hN hv hd hcd
end
theorem iteF {A B:Prop}(h:B):if false=true then A else B:=by
 rw[ax ag]
 exact h
theorem iteT {A B:Prop}(h:A):if true=true then A else B:=by
 rw[ao rfl]
 exact h
theorem ite2 {c A B:Prop} [Decidable c](h1:c->A)(h2:¬ c->B):if c then A else B:=by
 by_cases h:c
 ·rw[ao h]
  exact h1 h
 ·rw[ax h]
  exact h2 h
def jM (cells:List (Str×Addr)):List (Str×NameKind)->List (Str×Addr)->List (Str×Addr)
 | [],acc=>acc
 | (n,k)::r,acc=>if k= .free then jM cells r ((n,(cells.lookup n).getD 0)::acc) else jM cells r acc
theorem jBX {env:Env} :∀ (l:List (Str×NameKind)) (acc:List (Str×Addr)),(∀ y∈l,y.2= .free->∃ c,env.cells.lookup y.1=some c)->
  (forIn l acc fun (x:Str×NameKind) (cs:List (Str×Addr))=>(if (x.2==NameKind.free)=true then (do let a <- cellOf env x.1; pure (ForInStep.yield ((x.1,a)::cs))) else pure (ForInStep.yield cs):Sem (ForInStep (List (Str×Addr)))))=pure (jM env.cells l acc)
 | [],acc,_=>rfl
 | (n,k)::r,acc,h=>by
  have hr:∀ y∈r,y.2= .free->∃ c,env.cells.lookup y.1=some c:=fun y hy=>h y (ay _ hy)
  rw[gu]
  by_cases hk:k= .free
  ·subst hk
   obtain⟨c,hc⟩:=h (n, .free) aG rfl
   have e:cellOf env n=pure c:=by unfold cellOf; rw[hc]
   have e2:jM env.cells ((n,NameKind.free)::r) acc=jM env.cells r ((n,c)::acc):=by
    show (if NameKind.free=NameKind.free then jM env.cells r ((n,(env.cells.lookup n).getD 0)::acc) else _)=_
    rw[ao rfl,hc]; rfl
   rw[e2,<- jBX r ((n,c)::acc) hr]
   show ((do let a <- cellOf env n; pure (ForInStep.yield ((n,a)::acc))) >>= _)=_
   rw[e]; rfl
  ·have hb:(k==NameKind.free)=false:=by cases k <;> first | rfl | exact absurd rfl hk
   have e2:jM env.cells ((n,k)::r) acc=jM env.cells r acc:=by
    show (if k=NameKind.free then _ else jM env.cells r acc)=_
    rw[ax hk]
   rw[e2,<- jBX r acc hr]
   show ((if (k==NameKind.free)=true then _ else pure (ForInStep.yield acc)) >>= _)=_
   rw[hb]; rfl
theorem jJL {env:Env}{sc:Scope}(h:∀ y∈sc.names,y.2= .free->∃ c,env.cells.lookup y.1=some c):closureFor sc env=pure (jM env.cells sc.names []):=by
 unfold closureFor
 show (forIn sc.names [] _ >>= fun cs=>pure cs)=_
 rw[show (forIn sc.names ([]:List (Str×Addr)) _:Sem _)=_ from jBX sc.names [] h]
 rfl
theorem jAM {cells:List (Str×Addr)} :∀ (l:List (Str×NameKind)) (acc:List (Str×Addr)),(∀ y∈l,y.2= .free->∃ c,cells.lookup y.1=some c)->
  (∀ x c,acc.lookup x=some c->cells.lookup x=some c)->∀ x c,(jM cells l acc).lookup x=some c->cells.lookup x=some c
 | [],acc,_,ha=>ha
 | (n,k)::r,acc,h,ha=>by
  have hr:∀ y∈r,y.2= .free->∃ c,cells.lookup y.1=some c:=fun y hy=>h y (ay _ hy)
  unfold jM
  by_cases hk:k= .free
  ·rw[ao hk]
   obtain⟨c0,hc⟩:=h (n,k) aG hk
   refine jAM r _ hr fun x c e=>?_
   rw[be] at e
   cases hx:x==n with
   | true=>
    rw[hx] at e
    have exn:x=n:=eq_of_beq hx
    subst exn
    have hc':cells.lookup x=some c0:=hc
    rw[hc'] at e ⊢
    exact e
   | false=>rw[hx] at e; exact ha x c e
  ·rw[ax hk]; exact jAM r acc hr ha
theorem jAN {cells:List (Str×Addr)}{x:Str} :∀ (l:List (Str×NameKind)) (acc:List (Str×Addr)),((x,NameKind.free)∈l\/∃ c,acc.lookup x=some c)->∃ c,(jM cells l acc).lookup x=some c
 | [],acc,h=>by
  rcases h with h | h
  ·cases h
  ·exact h
 | (n,k)::r,acc,h=>by
  unfold jM
  by_cases hk:k= .free
  ·rw[ao hk]
   refine jAN r _ ?_
   by_cases e:x=n
   ·subst e
    exact .inr ⟨_,by rw[be,beq_self_eq_true]⟩
   ·rcases h with h | ⟨c,h⟩
    ·rcases aH.mp h with q | q
     ·cases q; exact absurd rfl e
     ·exact .inl q
    ·refine .inr ⟨c,?_⟩
     rw[be,cy.mpr e]
     exact h
  ·rw[ax hk]
   refine jAN r _ ?_
   rcases h with h | h
   ·rcases aH.mp h with q | q
    ·cases q; exact absurd rfl hk
    ·exact .inl q
   ·exact .inr h
theorem jAK {x:Str}{k:NameKind} :∀ {l:List (Str×NameKind)},l.lookup x=some k->(x,k)∈l
 | [],h=>by cases h
 | (n,k')::r,h=>by
  rw[be] at h
  cases hx:x==n with
  | true=>rw[hx] at h; cases h; rw[eq_of_beq hx]; exact aG
  | false=>rw[hx] at h; exact ay _ (jAK h)
theorem jBP {env:Env}{x:Str}{k:NameKind}(hk:k= .cell\/k= .free):∀ {l:List (Str×NameKind)},(∀ y∈l,y.2≠ .cell)->
  (l.map fun (n,k)=>if (k==NameKind.free&&env.scope.kind== .function&&env.kindOf n==some .cell) then (n,NameKind.cell) else (n,k)).lookup x=some k->l.lookup x=some .free
 | [],_,h=>by simp at h
 | (n,k')::r,hc,h=>by
  have ih:= @jBP env x k hk r (fun y hy=>hc y (ay _ hy))
  have hc0:k'≠ .cell:=hc (n,k') aG
  rw[be]
  rw[bq] at h
  dsimp only at h
  by_cases hb:(k'==NameKind.free&&env.scope.kind== .function&&env.kindOf n==some .cell)=true
  ·rw[ao hb,be] at h
   cases hx:x==n with
   | true=>
    have:k'= .free:=by
     simp only [cP] at hb
     exact eq_of_beq hb.1.1
    rw[this]
   | false=>rw[hx] at h; exact ih h
  ·rw[ax hb,be] at h
   cases hx:x==n with
   | true=>
    rw[hx] at h
    have e:k'=k:=bg h
    rcases hk with q | q
    ·exact absurd (e.trans q) hc0
    ·rw[e,q]
   | false=>rw[hx] at h; exact ih h
theorem jB0 {env:Env}{x:Str} :∀ {l:List (Str×NameKind)},l.lookup x=some .free->
  (l.map fun (n,k)=>if (k==NameKind.free&&env.scope.kind== .function&&env.kindOf n==some .cell) then (n,NameKind.cell) else (n,k)).lookup x=some .cell\/
  (l.map fun (n,k)=>if (k==NameKind.free&&env.scope.kind== .function&&env.kindOf n==some .cell) then (n,NameKind.cell) else (n,k)).lookup x=some .free
 | [],h=>by cases h
 | (n,k')::r,h=>by
  have ih:= @jB0 env x r
  rw[be] at h
  rw[bq]
  dsimp only
  by_cases hb:(k'==NameKind.free&&env.scope.kind== .function&&env.kindOf n==some .cell)=true
  ·rw[ao hb,be]
   cases hx:x==n with
   | true=>exact .inl rfl
   | false=>rw[hx] at h; exact ih h
  ·rw[ax hb,be]
   cases hx:x==n with
   | true=>rw[hx] at h; exact .inr h
   | false=>rw[hx] at h; exact ih h
section
variable {prog:Program}{w:World}{A:Around}{R:Result->Shared->Prop}{s:Shared}
abbrev jHP (ifs:List Expr)(env:Env):Sem Bool:=forIn ifs true fun c r=>if r=true then do let ok <- isTrue c env (eval c env); pure (ForInStep.yield ok) else pure (ForInStep.yield r)
theorem jHA {elt tg iter:Expr}{ifs:List Expr}{sc:Scope}{pos:Pos}{it acc:Value}{env:Env}(J:Nat->Shared->Prop)
  (turn:∀ n z,J n z->wpAny (model prog w) A (pyNext it) (fun r z1=>match r with
   | none=>R (.ok .next) z1
   | some v=>wpAny (model prog w) A (letOwnedTupleGo tg it v) (fun _ z2=>wpAny (model prog w) A (assign tg env v) (fun _ z3=>wpAny (model prog w) A (jHP ifs env) (fun ok z4=>
     if ok=true then wpAny (model prog w) A (eval elt env) (fun x z5=>wpAny (model prog w) A (call (.builtin "list.append") [acc,x]) (fun _ z6=>∃ k,k<n/\J k z6) (fun _ _=>False) z5) (fun _ _=>False) z4
     else ∃ k,k<n/\J k z4) (fun _ _=>False) z3) (fun _ _=>False) z2) (fun _ _=>False) z1) (fun _ _=>False) z)
  (n:Nat) (h:J n s):codeAny (model prog w) A (.compLoop (.ListComp elt [⟨tg,iter,ifs,0⟩] sc pos) 0 it acc env) R s:=by
 refine codeAny_loop rfl J (fun k z hJ=>?_) n h
 have noE:∀ {α:Type}{t:Sem α}{Q:α->Shared->Prop}{E:Value->Shared->Prop}{z:Shared},wpAny (model prog w) A t Q (fun _ _=>False) z->wpAny (model prog w) A t Q E z:=
  fun q=>bS q (fun _ _ a=>a) fun _ _ f=>f.elim
 show wpAny _ A ((compTurn (.ListComp elt [⟨tg,iter,ifs,0⟩] sc pos) 0 it acc env).onRaise (fun x=>do noteFrame x env; theTreesLotGoes x)) _ _ z
 refine wpAny_noted ?_
 rw[compTurn_list]
 refine aa (df (aa (bS (turn k z hJ) (fun r z1 q1=>?_) fun _ _ f=>f.elim)))
 cases r with
 | none=>exact am q1
 | some v=>
  refine aa (bS q1 (fun _ z2 q2=>?_) fun _ _ f=>f.elim)
  refine aa (bS q2 (fun _ z3 q3=>?_) fun _ _ f=>f.elim)
  refine aa (bS q3 (fun ok z4 q4=>?_) fun _ _ f=>f.elim)
  cases ok with
  | false=>exact am ⟨rfl,q4⟩
  | true=>
   refine aa (aa (bS q4 (fun x z5 q5=>?_) fun _ _ f=>f.elim))
   exact aa (bS q5 (fun _ z6 q6=>am (am ⟨rfl,q6⟩)) fun _ _ f=>f.elim)
end
noncomputable def blk (X:Cx)(sc:Scope)(cl:List (Str×Addr))(C:Addr)(Nc:List Str)(fp:List Addr)(s:Shared)(H:Hp):Cx where
 prog:=X.prog
 w:=X.w
 K:=X.K
 mg:=X.mg
 base:=X.base
 A:=X.A
 N:=Nc
 s₀:=s
 H₀:=H
 env:=compEnvC sc cl C X.env
 outer:=X.stack
 stack:=X.stack
 ex:=fp
 fn:=fun _=>false
 calm:=X.calm
 pn:=[]
 xe:=fun _ _=>False
def blkσ (m:List (Option Nat))(σ:St):St:=m.map fun o=>match o with
 | none=>none
 | some i=>(σ[i]?).getD none
def PTs (X:Cx)(ifs:List Expr)(t:TT):Prop:=
 ∀ (pins:List (Addr×Obj)) (s:Shared) (σ:St) (H:Hp) (Q:Bool->Hp->Prop),Inv X pins σ H s->t σ H Q->wpAny (model X.prog X.w) X.A (jHP ifs X.env) (TP X pins σ Q) X.xe s
def yN:TT:=fun _ H Q=>Q true H
theorem jMH {X:Cx} :PTs X [] yN:=fun _ _ _ H _ I h=>wpAny_tests_nil ⟨H,I,h⟩
theorem jMG {X:Cx}{c:Expr}{t:TT}(h:PT X c t):PTs X [c] t:=fun pins s σ H Q I q=>wpAny_tests_one (h pins s σ H Q I q)
def CompW (m:List (Option Nat))(g:TG)(tt:TT)(te:TE)(σ:St)(Q:VK)(J:It)(H1:Hp):Prop:=∀ D,H1 D=none->∃ W:Nat->Nat->St->Hp->List V->Prop,
  (∃ n,W 0 n (blkσ m σ) (upd H1 D (.lst [])) [])/\∀ i n σ' H' ys,W i n σ' H' ys->H' D=some (.lst ys)/\ys.length<sizeLine/\
   ((J.stop i H'/\Q (.ref D) H')\/(J.go i H'/\∃ N:St->Hp->List V->Prop,(∀ σ2 H2 zs,N σ2 H2 zs->∃ n',n'<n/\W (i+1) n' σ2 H2 zs)/\∀ x H'',J.yld i H' x H''->g x σ' H'' fun σ2 H2=>tt σ2 H2 fun b H3=>
    if b=true then te σ2 H3 fun v H4=>H4 D=some (.lst ys)/\N σ2 (upd H4 D (.lst (ys++[v]))) (ys++[v])
    else N σ2 H3 ys))
def tComp (m:List (Option Nat))(wi:TI)(g:TG)(tt:TT)(te:TE):TE:=fun σ H Q=>wi σ H (CompW m g tt te σ Q)
theorem Un.sameBut {fs ex:List Addr}{H H':Hp}{h h1 h2:Heap}{C:Addr}(u:Un fs ex H H' h h1)(sb:Heap.SameBut C h1 h2)(hC:h.objs.size<=C):Un fs ex H H' h h2:=by
 have ne:∀ {b:Addr}{o:Obj},h.get? b=some o->b≠C:=fun e=>ba (aX (aB e) hC)
 refine⟨fun b o e n hf hx=>(sb.2 b (ne e)).trans (u.keep b o e n hf hx),fun b o e n hf hx=>?_,u.free,fun b o e hx=>?_,u.tups,u.frzs,u.tbls⟩
 ·obtain⟨sl,q⟩:=u.slot b o e n hf hx
  exact⟨sl,(sb.2 b (ne e)).trans q⟩
 ·obtain⟨o',q⟩:=u.there b o e hx
  exact⟨o',(sb.2 b (ne e)).trans q⟩
theorem HOk.sameBut {P:Program}{w:World}{H:Hp}{h1 h2:Heap}{C:Addr}(x:HOk P w H h1)(sb:Heap.SameBut C h1 h2)(hC:H C=none):HOk P w H h2:=fun a o e=>
 (x a o e).stay (fun b u hb q=>(sb.2 b (by
  rintro rfl
  rcases hb with rfl | hb
  ·rw[hC] at e; cases e
  ·rw[hC] at hb; cases hb)).trans q) (fun _ q=>q) fun _ _ q=>q
section
variable {X:Cx}{tg iter elt:Expr}{ifs:List Expr}{sc:Scope}{pos:Pos}{wi:TI}{g:TG}{tt:TT}{te:TE}{m:List (Option Nat)}{Nc:List Str}
def jC0 (X:Cx)(sc:Scope)(Nc:List Str)(m:List (Option Nat)):Prop:=
 m.length=Nc.length/\∀ (k i:Nat),m[k]?=some (some i)->∃ x,Nc[k]?=some x/\X.N[i]?=some x/\sc.names.lookup x=some .free
theorem jJQ {pins:List (Addr×Obj)}{s:Shared}{σ:St}{H:Hp}{fp:List Addr}(I:Inv X pins σ H s)(hkind:sc.kind= .function)(hcell:∀ y∈sc.names,y.2≠ .cell)
  (hfree:∀ y∈sc.names,y.2= .free->X.env.scope.names.lookup y.1=some .cell\/X.env.scope.names.lookup y.1=some .free) (hm:jC0 X sc Nc m) (hfp:∀ b∈fp,FpOk X pins H b) (hlt:∀ b∈fp,b<s.heap.objs.size)
  {h1:Heap}{tk:Nat}{md:Str->Option Value}(hns:h1.Ns s.heap.objs.size md) (old:∀ b o,s.heap.get? b=some o->h1.get? b=some o):
  Inv (blk X sc (jM X.env.cells sc.names []) s.heap.objs.size Nc fp s H) [] (blkσ m σ) H { s with heap:=h1,toks:=tk} :=by
 have hcl:∀ y∈sc.names,y.2= .free->∃ c,X.env.cells.lookup y.1=some c:=fun y hy hf=>I.ok.has y.1 (hfree y hy hf)
 have sub:∀ x c,(jM X.env.cells sc.names []).lookup x=some c->X.env.cells.lookup x=some c:=jAM sc.names [] hcl (fun x c e=>by cases e)
 have isfree:∀ x,(compEnvC sc (jM X.env.cells sc.names []) s.heap.objs.size X.env).kindOf x=some .cell\/(compEnvC sc (jM X.env.cells sc.names []) s.heap.objs.size X.env).kindOf x=some .free->sc.names.lookup x=some .free:=fun x h=>by
  rcases h with h | h
  ·exact jBP (.inl rfl) hcell h
  ·exact jBP (.inr rfl) hcell h
 refine⟨⟨I.ok.mod,hkind,I.ok.glob,I.ok.blt,az _,fun x y c h1 h2=>I.ok.inj x y c (sub x c h1) (sub y c h2),fun x hx=>?_,fun x c hf _=>?_,I.ok.hd,I.ok.frames, .inl rfl,fun b hb=>?_,I.bs,bW I.ok.bsz I.sz,fun b o e hb=>?_,fun b hb hz=>?_,I.stack,I.stkFree⟩,
  rfl,I.bare,Un.kept old,⟨md,hns,fun k x v e1 e2 e3=>?_⟩,fun x c e=>?_,I.hok.fresh (az _),fun x c e=>I.freeC x c (sub x c e),fun p hp=>absurd (show p∈([]:List (Addr×Obj)) from hp) (by simp),I.hok.kept old,?_⟩
 ·exact jAN sc.names [] (.inl (jAK (isfree x hx)))
 ·exact absurd (show false=true from hf) ag
 ·obtain⟨f0,f1,f2,f3,f4,f5⟩:=hfp b hb
  exact⟨ba (hlt b hb),fun x c e=>f4 x c (sub x c e)⟩
 ·obtain⟨f0,f1,f2,f3,f4,f5⟩:=hfp b hb
  rcases f3 with q | q
  ·exact I.ok.noex b o e q
  ·exact absurd (aX (aB (I.ok.bs b o e).1) q) (ck _)
 ·obtain⟨f0,f1,f2,f3,f4,f5⟩:=hfp b hb
  rcases aH.mp (I.stkSub b hz) with q | q
  ·exact f1 q
  ·exact f2 q
 ·have e2':∃ i,m[k]?=some (some i)/\σ[i]?=some (some v):=by
   unfold blkσ at e2
   rw[aO] at e2
   cases q:m[k]? with
   | none=>rw[q] at e2; cases e2
   | some o=>
    rw[q] at e2
    cases o with
    | none=>cases e2
    | some i=>
     refine⟨i,rfl,?_⟩
     have e2:(σ[i]?).getD none=some v:=bg e2
     cases r:σ[i]? with
     | none=>rw[r] at e2; cases e2
     | some z=>rw[r] at e2; exact bB some e2
  obtain⟨i,q1,q2⟩:=e2'
  obtain⟨x',a1,a2,a3⟩:=hm.2 k i q1
  have e1':Nc[k]?=some x:=e1
  rw[e1'] at a1
  cases a1
  have vis:=hfree (x, .free) (jAK a3) rfl
  obtain⟨m0,hn0,hl0⟩:=I.loc
  obtain⟨u,r,l⟩:=hl0 i x v a2 q2 (.inr vis)
  refine⟨u,r, .inr ⟨jB0 a3,?_⟩⟩
  obtain⟨c,hc⟩:=jAN (cells:=X.env.cells) (x:=x) sc.names [] (.inl (jAK a3))
  rcases l with ⟨lk,_⟩ | ⟨_,c',hc',o,ho,hd⟩
  ·have lk':X.env.scope.names.lookup x=some .local:=lk
   rcases vis with z | z
   ·rw[lk'] at z; cases z
   ·rw[lk'] at z; cases z
  ·have:=sub x c hc
   rw[hc'] at this
   cases this
   exact⟨c,hc,o,old _ _ ho,hd⟩
 ·obtain⟨v,o,ho,hd⟩:=I.cell x c (sub x c e)
  exact⟨v,o,old _ _ ho,hd⟩
 ·show (blkσ m σ).length=Nc.length
  unfold blkσ
  rw[ab]
  exact hm.1
theorem jGT {tf:St->TE}(hc:X.calm=true)(hi:PI X tg iter wi)(hkind:sc.kind= .function)(hcell:∀ y∈sc.names,y.2≠ .cell)(hnames:∀ y∈sc.names,y.2= .local->sc.names.lookup y.1=some .local)
  (hfree:∀ y∈sc.names,y.2= .free->X.env.scope.names.lookup y.1=some .cell\/X.env.scope.names.lookup y.1=some .free) (hm:jC0 X sc Nc m)
  (hg:∀ cl C fp s H,PG (blk X sc cl C Nc fp s H) tg g) (ht:∀ cl C fp s H,PTs (blk X sc cl C Nc fp s H) ifs tt) (he:∀ cl C fp s H pins σ,Inv X pins σ H s->(∀ b∈fp,FpOk X pins H b)->PE (blk X sc cl C Nc fp s H) elt (tf σ))
  (hs:∀ x,foldedSetIterable iter X.env x=pure x) {fpos:Pos}{use:Option (Value->Sem Unit)}{R:Value->Shared->Prop}{pins:List (Addr×Obj)}{s:Shared}{σ:St}{H:Hp}{Q:VK}(I:Inv X pins σ H s) (h:tComp m wi g tt (tf σ) σ H Q)
  (fin:∀ (D C:Addr) (H5:Hp) (z1:Shared) (r:Flow),(∃ mm,z1.heap.Ns C mm)->FpOk X pins H5 C->(∀ h',Heap.SameBut C z1.heap h'->Inv X pins σ H5 { z1 with heap:=h'})->Q (.ref D) H5->compPost (model X.prog X.w) X.A X.xe use R (.ref D) C (.ok r) z1):
  wpAny (model X.prog X.w) X.A (comprehension (.ListComp elt [⟨tg,iter,ifs,0⟩] sc pos) sc X.env fpos (newList []) false (eval iter X.env) use) R X.xe s:=by
 have hcl:∀ y∈sc.names,y.2= .free->∃ c,X.env.cells.lookup y.1=some c:=fun y hy hf=>I.ok.has y.1 (hfree y hy hf)
 refine wpAny_comprehension_free (use:=use) rfl hs (jJL hcl) hkind hnames (thn (hi pins s σ H _ I h) fun v s1 h1=>thn h1 fun itv s2 h2=>?_)
 obtain⟨it,fp,tn,J,H2,e,I2,T,st2,f2,hQ⟩:=h2
 subst e
 have hlt:∀ b∈fp,b<s2.heap.objs.size:=fun b hb=>by
  obtain⟨o,e,_⟩:=T.obj 0 _ st2 b hb
  exact aB e
 refine cq (wpAny_newFunctionEnv hcell (by intro y hy; simp at hy) (fun h₁ hns₁ hsb₁=>?_) hkind)
 have I3:Inv X pins σ (upd H2 s2.heap.objs.size (.lst [])) { s2 with heap:=s2.heap.push { cls:= .type "list",data:= .seq ([]:List Value).toArray}} :=I2.lnew (t':=s2.toks) .nil (bH _)
 obtain⟨W,⟨n0,w0⟩,turn⟩:=hQ s2.heap.objs.size I2.fresh
 have hD3:∀ b∈fp,b≠s2.heap.objs.size:=fun b hb=>ba (hlt b hb)
 have f3:∀ b∈fp,FpOk X pins (upd H2 s2.heap.objs.size (.lst [])) b:=fun b hb=>by
  obtain⟨a0,a1⟩:=f2 b hb
  exact⟨by rw[j8 (hD3 b hb)]; exact a0,a1⟩
 generalize hE:({ s2 with heap:=s2.heap.push { cls:= .type "list",data:= .seq ([]:List Value).toArray}} :Shared)=s3 at I3 hns₁ hsb₁ ⊢
 generalize hH3:upd H2 s2.heap.objs.size (.lst [])=H3 at I3 f3 w0
 have hsz3:s3.heap.objs.size=s2.heap.objs.size+1:=by rw[<- hE]; exact cr _ _
 have old:∀ b o,s3.heap.get? b=some o->h₁.get? b=some o:=fun b o e=>hsb₁.extBut b o (ba (aB e)) (ae _ e)
 have old2:∀ b o,s2.heap.get? b=some o->h₁.get? b=some o:=fun b o e=>old b o (by rw[<- hE]; exact ae _ e)
 have I4:=jJQ (fp:=fp) (tk:=s3.toks+([]:List (Str×Value)).length) I3 hkind hcell hfree hm f3 (fun b hb=>show b<s3.heap.objs.size by rw[hsz3]; exact ek (hlt b hb)) hns₁ old
 have st4:tn 0 h₁:=T.keep _ _ _ st2 fun b hb o e=>old2 b o e
 have loop:codeAny (model X.prog X.w) X.A (.compLoop (.ListComp elt [⟨tg,iter,ifs,0⟩] sc pos) 0 (.ref it) (.ref s2.heap.objs.size) (compEnvC sc (jM X.env.cells sc.names []) s3.heap.objs.size X.env))
   (compPost (model X.prog X.w) X.A X.xe use R (.ref s2.heap.objs.size) s3.heap.objs.size) { s3 with heap:=h₁,toks:=s3.toks+([]:List (Str×Value)).length} :=by
  generalize hX:blk X sc (jM X.env.cells sc.names []) s3.heap.objs.size Nc fp s3 H3=Xb at I4
  have eP:Xb.prog=X.prog:=by rw[<- hX]; rfl
  have ew:Xb.w=X.w:=by rw[<- hX]; rfl
  have eK:Xb.K=X.K:=by rw[<- hX]; rfl
  have eA:Xb.A=X.A:=by rw[<- hX]; rfl
  have ec:Xb.calm=true:=by rw[<- hX]; exact hc
  have ee:Xb.env=compEnvC sc (jM X.env.cells sc.names []) s3.heap.objs.size X.env:=by rw[<- hX]; rfl
  have ex:Xb.xe=fun _ _=>False:=by rw[<- hX]; rfl
  have hgb:PG Xb tg g:=by rw[<- hX]; exact hg _ _ _ _ _
  have htb:PTs Xb ifs tt:=by rw[<- hX]; exact ht _ _ _ _ _
  have heb:PE Xb elt (tf σ):=by rw[<- hX]; exact he _ _ _ _ _ _ _ I3 f3
  have stat:∀ {H':Hp},(∀ b∈fp,H' b=none)->∀ b∈fp,FpOk Xb [] H' b:=fun {H'} hn b hb=>by
   obtain⟨o,eo,_⟩:=T.obj _ _ st4 b hb
   have q:=I4.ok.exf b (by rw[<- hX]; exact hb)
   exact⟨hn b hb,q.1,I4.ok.exfs b (by rw[<- hX]; exact hb), .inl (by rw[<- hX]; exact hb),q.2,fun p hp=>absurd hp (by rw[<- hX]; simp [blk])⟩
  have fr4:∀ b∈fp,H3 b=none:=fun b hb=>(f3 b hb).1
  unfold PG at hgb
  unfold PTs at htb
  unfold PE at heb
  rw[eP,ew,eA,ee,ex] at hgb htb heb
  refine jHA (fun n z=>∃ i σ' H' ys,Inv Xb [] σ' H' z/\tn i z.heap/\(∀ b∈fp,H' b=none)/\W i n σ' H' ys) ?_ n0 ⟨0,_,H3,[],I4,st4,fr4,w0⟩
  rintro n z ⟨i,σ5,H5,ys,I5,st5,fr5,w5⟩
  obtain⟨hD,hlen,way⟩:=turn i n σ5 H5 ys w5
  rcases way with ⟨stop,q⟩ | ⟨go,N,hN,step⟩
  ·have RR:=T.done Xb eP ew eK ec i [] z σ5 H5 (fun _ _=>False) I5 (stat fr5) st5 stop
   rw[eA] at RR
   refine thn RR fun r z1 ⟨hr,I6⟩=>?_
   subst hr
   obtain⟨mm,hn6,_⟩:=I6.loc
   rw[ee] at hn6
   have u6:Un (frs X.stack) fp H3 H5 s3.heap z1.heap:=by
    have:=I6.base
    rw[<- hX] at this
    exact this
   have fC:H5 s3.heap.objs.size=none:=by
    have:=I6.free
    rw[ee] at this
    exact this
   have hok6:HOk X.prog X.w H5 z1.heap:=by
    have:=I6.hok
    rw[eP,ew] at this
    exact this
   have os6:z1.os=s3.os:=by
    have:=I6.os
    rw[<- hX] at this
    exact this
   refine fin s2.heap.objs.size s3.heap.objs.size H5 z1 .next ⟨mm,hn6⟩ (I3.fpOk (az _) fC) (fun h' sb=>?_) q
   refine I3.call' (s':= { z1 with heap:=h'}) (ch:=fp) os6 (u6.sameBut sb (az _)) (hok6.sameBut sb fC) I6.bare (fun b hb=>?_)
   obtain⟨a0,a1,a2,a3,a4,a5⟩:=f3 b hb
   exact⟨a3,a1,a4,a5⟩
  ·have RR:=T.item Xb eP ew eK ec i [] z σ5 H5 (fun _ _=>False) I5 (stat fr5) st5 go
   rw[eA] at RR
   refine thn RR fun r z1 ⟨u,hr,h6⟩=>?_
   subst hr
   refine thn h6 fun _ z2 ⟨x,H7,I7,r7,y7,st7,fr7⟩=>?_
   have I7':=I7.pinned (stat fr7) (T.obj _ _ st7)
   refine thn (hgb _ z2 σ5 H7 x u _ I7' r7 (step x H7 y7)) fun _ z3 ⟨σ8,H8,I8,q8⟩=>?_
   refine thn (htb _ z3 σ8 H8 _ I8 q8) fun ok z4 ⟨H9,I9,q9⟩=>?_
   have again:∀ {σ7:St}{Hz:Hp}{zz:Shared}{yy:List V}{n':Nat},Inv Xb ([]++jEO fp z2.heap) σ7 Hz zz->n'<n->W (i+1) n' σ7 Hz yy->∃ k,k<n/\∃ i σ' H' ys,Inv Xb [] σ' H' zz/\tn i zz.heap/\(∀ b∈fp,H' b=none)/\W i k σ' H' ys:=fun {σ7 Hz zz yy n'} Iz hn wz=>by
    refine⟨n',hn,i+1,σ7,Hz,yy,Iz.unpinned,T.keep _ _ _ st7 fun b hb o e=>(Iz.pin (b,o) (aF _ (aF _ (jAY hb e)))).1,fun b hb=>?_,wz⟩
    obtain⟨o,e,d⟩:=T.obj _ _ st7 b hb
    exact(Iz.pin (b,o) (aF _ (aF _ (jAY hb e)))).2.1
   cases ok with
   | false=>
    obtain⟨n',hn,w9⟩:=hN _ _ _ (show N σ8 H9 ys from q9)
    exact again I9 hn w9
   | true=>
    refine thn (heb _ z4 σ8 H9 _ I9 q9) fun xv z5 ⟨vv,H10,I10,r10,hD10,n10⟩=>?_
    obtain⟨n',hn,w10⟩:=hN _ _ _ n10
    have RR:=jAQ (X:=Xb) _ z5 σ8 H10 (.ref s2.heap.objs.size) [vv] (.ref s2.heap.objs.size) [xv] (fun _ H'=>H'=upd H10 s2.heap.objs.size (.lst (ys++[vv]))) I10 rfl (.cons r10 .nil) ⟨_,ys,vv,rfl,rfl,hD10,hlen,rfl⟩
    rw[eP,ew,eA,ex] at RR
    refine thn RR fun _ z6 ⟨_,H11,I11,_,e11⟩=>?_
    subst e11
    exact again I11 hn w10
 exact codeAny_compStart_list loop (T.self _ 0 _ _ _ st4 loop)
theorem jMU (hc:X.calm=true)(hi:PI X tg iter wi)(hkind:sc.kind= .function)(hcell:∀ y∈sc.names,y.2≠ .cell)(hnames:∀ y∈sc.names,y.2= .local->sc.names.lookup y.1=some .local)
  (hfree:∀ y∈sc.names,y.2= .free->X.env.scope.names.lookup y.1=some .cell\/X.env.scope.names.lookup y.1=some .free) (hm:jC0 X sc Nc m)
  (hg:∀ cl C fp s H,PG (blk X sc cl C Nc fp s H) tg g) (ht:∀ cl C fp s H,PTs (blk X sc cl C Nc fp s H) ifs tt) (he:∀ cl C fp s H,PE (blk X sc cl C Nc fp s H) elt te)
  (hs:∀ x,foldedSetIterable iter X.env x=pure x:=by intro _; rfl):PE X (.ListComp elt [⟨tg,iter,ifs,0⟩] sc pos) (tComp m wi g tt te):=by
 intro pins s σ H Q I h
 rw[eval_ListComp]
 exact jGT (tf:=fun _=>te) (use:=none) hc hi hkind hcell hnames hfree hm hg ht (fun cl C fp s H _ _ _ _=>he cl C fp s H) hs I h (fun D C H5 z1 r ⟨mm,hn⟩ fC sb q=>⟨mm,hn,fun h' s2=>⟨.ref D,H5,sb h' s2,rfl,q⟩⟩)
end
theorem jZ {X:Cx}{sc psc:Scope}(h:(sc.names.all fun y=>decide (y.2= .free->psc.names.lookup y.1=some .cell\/psc.names.lookup y.1=some .free))=true)(e:X.env.scope=psc:=by rfl):
  ∀ y∈sc.names,y.2= .free->X.env.scope.names.lookup y.1=some .cell\/X.env.scope.names.lookup y.1=some .free:=by
 rw[e]
 intro y hy
 exact aR (bP.mp h y hy)
def jJC (sc:Scope)(N Nc:List Str)(m:List (Option Nat))(k:Nat):Bool:=match m[k]? with
 | some (some i)=>match Nc[k]? with
  | some x=>decide (N[i]?=some x)&&decide (sc.names.lookup x=some .free)
  | none=>false
 | _=>true
theorem jO {X:Cx}{sc:Scope}{N Nc:List Str}{m:List (Option Nat)}(e:X.N=N)(hl:m.length=Nc.length)(h:((List.range m.length).all (jJC sc N Nc m))=true):jC0 X sc Nc m:=by
 refine⟨hl,fun k i hk=>?_⟩
 have hlt:k<m.length:=(af.mp hk).1
 have q:=bP.mp h k (cm.mpr hlt)
 unfold jJC at q
 rw[hk] at q
 cases e2:Nc[k]? with
 | none=>rw[e2] at q; cases q
 | some x=>
  rw[e2] at q
  have q:(decide (N[i]?=some x)&&decide (sc.names.lookup x=some .free))=true:=q
  rw[cP] at q
  exact⟨x,rfl,by rw[e]; exact aR q.1,aR q.2⟩
section
variable {m:List (Option Nat)}{g:TG}{tt:TT}{te:TE}{σ:St}{H1:Hp}{Q:VK}
theorem jE7 {lo:Int}{n:Nat}(hn:n<sizeLine)(Pv:Addr->Nat->St->Hp->List V->Prop)(h0:∀ D,H1 D=none->Pv D 0 (blkσ m σ) (upd H1 D (.lst [])) [])
  (hD:∀ D i σ' H' ys,H1 D=none->i<=n->Pv D i σ' H' ys->H' D=some (.lst ys)/\ys.length<=i)
  (hs:∀ D i σ' H' ys,H1 D=none->i<n->Pv D i σ' H' ys->g (.int (lo+i)) σ' H' fun σ2 H2=>tt σ2 H2 fun b H3=>if b=true then te σ2 H3 fun v H4=>H4 D=some (.lst ys)/\Pv D (i+1) σ2 (upd H4 D (.lst (ys++[v]))) (ys++[v]) else Pv D (i+1) σ2 H3 ys)
  (hd:∀ D σ' H' ys,H1 D=none->Pv D n σ' H' ys->Q (.ref D) H'):CompW m g tt te σ Q (Itr lo n) H1:=by
 intro D hDn
 refine⟨fun i k σ' H' ys=>k=n - i/\i<=n/\Pv D i σ' H' ys,⟨n,rfl,bH _,h0 D hDn⟩,?_⟩
 rintro i k σ' H' ys ⟨rfl,hi,p⟩
 obtain⟨q1,q2⟩:=hD D i σ' H' ys hDn hi p
 refine⟨q1,by omega,?_⟩
 by_cases hlt:i<n
 ·refine .inr ⟨hlt,Pv D (i+1),fun σ2 H2 zs z=>⟨n - (i+1),by omega,rfl,hlt,z⟩,fun x H'' y=>?_⟩
  obtain⟨e1,e2⟩:=y
  subst e1 e2
  exact hs D i σ' _ ys hDn hlt p
 ·have e:i=n:=by omega
  subst e
  exact .inl ⟨az _,hd D σ' H' ys hDn p⟩
end
end L2
end
section
namespace SS
open PySem PySem.SetTable
end SS
end
section
namespace SS
open PySem
section
variable {prog:Program}{w:World}{A:Around}{E:Value->Shared->Prop}{s:Shared}{a:Addr}{ks:List Int}{k:Int}{tk:Tok}
end
section
variable {prog:Program}{w:World}{A:Around}{R:Result->Shared->Prop}{I:Addr}{fp wr:List Addr}{n:Nat}{P:Nat->Value->Prop}{St:Nat->Shared->Prop}
end
section
variable {prog:Program}{w:World}{A:Around}{E:Value->Shared->Prop}{s:Shared}
set_option maxHeartbeats 3200000 in
end
section
variable {prog:Program}{w:World}{A:Around}{E:Value->Shared->Prop}{s:Shared}{a I:Addr}{o:Obj}{es:Array (Int×Value)}{ep:Nat}{t:SetTable}
end
section
variable {prog:Program}{w:World}{A:Around}{E:Value->Shared->Prop}{s:Shared}{a:Addr}{o:Obj}{es:Array (Int×Value)}{ep:Nat}{t:SetTable}
end
end SS
end
section
namespace SS
open PySem PyProof.Rows
section
variable {prog:Program}{w:World}{A:Around}{E:Value->Shared->Prop}{s:Shared}{a:Addr}{ks:List Int}
end
end SS
end
section
namespace L2
open PySem PySem.Spec PyProof.Rows
section
variable {es:List Expr}{env:Env}{a b:Expr}{pos:Pos}{xs ys:List Expr}
theorem kN {op:Operator} :starEach (.BinOp a op b pos::es) env=(false,eval (.BinOp a op b pos) env)::starEach es env:=rfl
theorem se_un {op:UnaryOp} :starEach (.UnaryOp op a pos::es) env=(false,eval (.UnaryOp op a pos) env)::starEach es env:=rfl
theorem jQ {kw:List Keyword} :starEach (.Call a xs kw pos::es) env=(false,eval (.Call a xs kw pos) env)::starEach es env:=rfl
theorem kB:starEach (.Subscript a b pos::es) env=(false,eval (.Subscript a b pos) env)::starEach es env:=rfl
theorem jS {gs sc} :starEach (.ListComp a gs sc pos::es) env=(false,eval (.ListComp a gs sc pos) env)::starEach es env:=rfl
theorem yP {x1} :starEach (.Tuple xs x1 pos::es) env=(false,eval (.Tuple xs x1 pos) env)::starEach es env:=rfl
theorem jR {c k} :starEach (.Constant c k pos::es) env=(false,eval (.Constant c k pos) env)::starEach es env:=rfl
theorem j4 {x:Str} :starEach (.Name x pos::es) env=(false,eval (.Name x pos) env)::starEach es env:=rfl
end
section
variable {X:Cx}
def CDivL (i j:Int):Prop:=0<j/\j<2 ^ 64
theorem jKC:OpR X (binaryOp .FloorDiv) (rI CDivL fun i j=> .int (i / j)):=opI fun i j _ _ _ _ _ hc q=>by
 have h1:(0:Int)<j:=hc.1
 have h2:j<2 ^ 64:=hc.2
 refine floordiv_int (by omega) (by rw[Int.fdiv_eq_ediv_of_nonneg i (by omega)]; exact q) (.inl (PyProof.noPylong_of_log2 ?_))
 have h3:j.natAbs<2 ^ 64:=by omega
 have h4:j.natAbs≠0:=by omega
 have:=(Nat.log2_lt h4).mpr h3
 omega
theorem jAP:yJ X (.builtin "isinstance") (fun xs H Q=>∃ x T t b,xs=[x, .ty T]/\TyOf X.K H x t/\kitOne X.K t (.type T)=some b/\Q (.bl b) H):=by
 intro pins s σ H xs us Q I r h
 obtain⟨x,T,t,b,rfl,ty,e,q⟩:=h
 obtain⟨u,v,rfl,ru,rv⟩:=r.two
 cases rv
 exact jJ7 I ru ty e fun tk=>⟨.bl b,H,I.tok tk,rfl,q⟩
def jMB:V->List V->Hp->VK->Prop:=fun x vs H Q=>∃ l xs i y,x= .ref l/\vs=[.int i,y]/\H l=some (.lst xs)/\0<=i/\i<=xs.length/\xs.length<sizeLine/\Q .non (upd H l (.lst (xs.take i.toNat++y::xs.drop i.toNat)))
theorem Vals.put {y:V}{v:Value}(r:RelV y v){xs:List V}{us:List Value}(h:Vals xs us)(k:Nat):Vals (xs.take k++y::xs.drop k) (us.take k++v::us.drop k):=(h.take k).append (.cons r (h.drop k))
theorem jES:MtM X "list.insert" jMB:=by
 intro pins s σ H x vs v us Q I rx rv h
 obtain⟨l,xs,i,y,rfl,rfl,hH,h0,h1,hz,q⟩:=h
 cases rx
 obtain⟨a,b,rfl,ra,rb⟩:=rv.two
 obtain⟨t,rfl⟩:=ra
 obtain⟨z,its,n,r,hl,e⟩:=I.lstM hH
 have line:=jEX
 have hf:Builtin.List.listFitsIndex i=true:=fitsIndex_both (by omega) (by omega)
 refine eB F.slot_list_insert ⟨_,e,rfl⟩ F.entry_list_insert (F.args_list_insert_3 _ _ _) (AutoSeq1.list_insert_list_int_val_1 l its.toArray n i t b (by simp [hf]) (by rw[aA]; omega)) ⟨e,?_⟩
 refine⟨.non,_,I.lset (its':=its.take i.toNat++b::its.drop i.toNat) hH e ?_ (Vals.put rb r i.toNat) ?_,rfl,q⟩
 ·have hk:(if i<0 then (i+(its.toArray.size:Int)).toNat else min i.toNat its.toArray.size)=i.toNat:=by
   rw[ax (by omega),aA]
   omega
  show (its.toArray.extract 0 (if i<0 then (i+(its.toArray.size:Int)).toNat else min i.toNat its.toArray.size)).push b++its.toArray.extract (if i<0 then (i+(its.toArray.size:Int)).toNat else min i.toNat its.toArray.size)=_
  rw[hk]
  apply Array.ext'
  simp [cW,bC]
 ·rw[aj,aZ,aU,cO]
  omega
theorem jFA (hc:X.calm=true):yJ X (.builtin "all") (fun xs H Q=>∃ (p:Addr) (bs:List Bool),xs=[.ref p]/\SqL X.K H p (bs.map V.bl)/\Q (.bl (bs.all id)) H):=by
 intro pins s σ H xs us Q I r h
 obtain⟨p,bs,rfl,hq,q⟩:=h
 obtain⟨u,rfl,rx⟩:=r.one
 cases rx
 obtain⟨its,r',pl,hz⟩:=I.list hq
 have hlen:=r'.length
 rw[ab] at hlen
 refine call_all_walk (da pl.isList ?_)
 have hne:p≠s.heap.objs.size:=by
  obtain⟨o,ho,_⟩:=pl.isList
  exact ba (aB ho)
 refine⟨s.heap.objs.size,_,_,_,_,_,fun i=>bs.getD i true,rfl,Walks.list (by simpa using I.ok.hd hc) _ p hne its.toArray,⟨⟨_,aE _ rfl,rfl,rfl⟩,pl.isList.push _⟩,fun i v z Q' E' hP hQ'=>?_,fun h' tk hk=>?_⟩
 ·have hi:its[i]?=some v:=by simpa using hP
  have hb:i<bs.length:=by
   rw[hlen]
   exact(af.mp hi).1
  obtain⟨u,hu,ru⟩:=r'.get (i:=i) (x:= .bl (bs[i])) (by simp [hb])
  rw[hi] at hu
  cases hu
  cases ru
  have e:bs.getD i true=bs[i]:=by simp [List.getD,hb]
  have hQ2:Q' (bs.getD i true) z:=hQ'
  rw[e] at hQ2
  exact am hQ2
 ·have e:(List.range its.toArray.size).all (fun i=>bs.getD i true)=bs.all id:=by
   rw[aA,<- hlen]
   rw[cY,bP,bP]
   constructor
   ·intro a b hb
    obtain⟨i,hi,rfl⟩:=List.getElem_of_mem hb
    have:=a i (cm.mpr hi)
    simpa [List.getD,hi] using this
   ·intro a i hi
    have hi:=cm.mp hi
    have:=a bs[i] (dn hi)
    simpa [List.getD,hi] using this
  rw[e]
  exact⟨.bl _,H,I.kept (t':=tk) fun b o e=>hk b o (by
   intro z
   have z:b=s.heap.objs.size:=by simpa using z
   exact absurd (aB e) (by rw[z]; exact ck _)) (ae _ e),rfl,q⟩
theorem jBY {ns:List Int} :∀ {us:List Value},Vals (ns.map V.int) us->IntsAre us ns:=by
 induction ns with
 | nil=>intro us h; cases h; exact .nil
 | cons n ns ih=>
  intro us h
  cases h with
  | cons r t=>
   obtain⟨k,rfl⟩:=r
   exact .cons n k (ih t)
theorem jAF:∀ {us:List Value}{ns:List Int},IntsAre us ns->Vals (ns.map V.int) us
 | _,_, .nil=> .nil
 | _,_, .cons n t r=> .cons ⟨t,rfl⟩ (jAF r)
end
section
variable {X:Cx}{p1 p2 p3 p4 p5 p6 p7:Pos}{k1 k2 k3 k4:Nat}
end
def ItAt (tp:Bool)(h:Heap)(it a:Addr)(i:Nat):Prop:=match tp with
 | false=>h.IsListIter it a i
 | true=>h.IsTupleIter it a i
def ObAt (tp:Bool)(h:Heap)(a:Addr)(xs:Array Value):Prop:=match tp with
 | false=>h.IsList a xs
 | true=>h.IsTuple a xs
theorem ItAt.but {tp:Bool}{h h':Heap}{it a b:Addr}{i:Nat}(x:ItAt tp h it a i)(e:Heap.ExtBut b h h')(n:it≠b):ItAt tp h' it a i:=by
 cases tp with
 | false=>exact Heap.IsListIter.extBut x e n
 | true=>exact Heap.IsTupleIter.extBut x e n
theorem ObAt.but {tp:Bool}{h h':Heap}{a b:Addr}{xs:Array Value}(x:ObAt tp h a xs)(e:Heap.ExtBut b h h')(n:a≠b):ObAt tp h' a xs:=by
 cases tp with
 | false=>exact Heap.IsList.extBut x e n
 | true=>exact Heap.IsTuple.extBut x e n
theorem ItAt.at {tp:Bool}{h h':Heap}{it a:Addr}{i:Nat}(x:ItAt tp h it a i)(e:∀ o,h.get? it=some o->h'.get? it=some o):ItAt tp h' it a i:=by
 cases tp with
 | false=>exact Heap.IsListIter.at x e
 | true=>exact Heap.IsTupleIter.at x e
theorem ItAt.obj {tp:Bool}{h:Heap}{it a:Addr}{i:Nat}(x:ItAt tp h it a i):∃ o,h.get? it=some o/\∀ v,o.data≠ .cell v:=by
 cases tp with
 | false=>obtain⟨o,e,_,d⟩:=x; exact⟨o,e,fun v q=>by rw[d] at q; cases q⟩
 | true=>obtain⟨o,e,_,d⟩:=x; exact⟨o,e,fun v q=>by rw[d] at q; cases q⟩
theorem ObAt.lt {tp:Bool}{h:Heap}{a:Addr}{xs:Array Value}(x:ObAt tp h a xs):a<h.objs.size:=by
 cases tp with
 | false=>obtain⟨o,e,_⟩:=x; exact aB e
 | true=>obtain⟨o,e,_⟩:=x; exact aB e
section
variable {prog:Program}{w:World}{A:Around}{E:Value->Shared->Prop}{s:Shared}
theorem next1 {tp:Bool}{it a:Addr}{i:Nat}{xs:Array Value}{x:Value}{Q:Value->Shared->Prop}(hi:ItAt tp s.heap it a i)(ha:ObAt tp s.heap a xs)(hx:xs[i]?=some x)
  (k:∀ h',ItAt tp h' it a (i+1)->Heap.SameBut it s.heap h'->Q x { s with heap:=h'}):wpAny (model prog w) A (Builtin.SmallTypes.nextOf (.ref it)) Q E s:=by
 cases tp with
 | false=>exact wpAny_nextOf_list_item hi ha hx k
 | true=>
  obtain⟨o,e,c,d⟩:=id (show s.heap.IsTupleIter it a i from hi)
  obtain⟨u,eu,_,n,du⟩:=(show s.heap.IsTuple a xs from ha)
  have ty:=Heap.IsTupleIter.typeIs (show s.heap.IsTupleIter it a i from hi)
  unfold Builtin.SmallTypes.nextOf
  refine aa (bJ (name:=Str.ofString "__next__") ty F.slot_tuple_iterator_next (cc F.slot_tuple_iterator_next ty F.entry_tuple_iterator_next (?_:wpAny (model prog w) _ (field (.ref it) 0 >>= _) _ _ s) (F.args_tuple_iterator_next_1 _)))
  refine aa (bu e d (x:= .ref a) rfl (?_:wpAny (model prog w) _ (if (Value.ref a==Value.none)=true then _ else _) _ _ s))
  rw[ax (by exact ag)]
  show wpAny (model prog w) _ (field (.ref it) 1 >>= _) _ _ s
  refine aa (bu e d (x:= .int i 0) rfl ?_)
  show wpAny (model prog w) _ (seqItems? (.ref a) >>= _) _ _ s
  refine aa (cR eu du ?_)
  simp only [bL,hx]
  refine aa (wpAny_setField e d (by simp) (am ⟨x,rfl,am (k _ ⟨_,Heap.get?_update_self _ e (Obj.isFreed_of_fields (Obj.data_mapFields d _)),(Obj.cls_mapFields ..).trans c,?_⟩ (Heap.SameBut.update ..))⟩))
  rw[Obj.data_mapFields d]
  simp [rawInt]
theorem next0 {tp:Bool}{it a:Addr}{i:Nat}{xs:Array Value}{Q:Value->Shared->Prop}(hh:A.handled=none)(hi:ItAt tp s.heap it a i)(ha:ObAt tp s.heap a xs)(hx:xs[i]?=none)
  (k:∀ h' e,Heap.ExtBut it s.heap h'->(∃ o,h'.get? e=some o/\o.cls= .type "StopIteration")->E (.ref e) { s with heap:=h'}):wpAny (model prog w) A (Builtin.SmallTypes.nextOf (.ref it)) Q E s:=by
 cases tp with
 | false=>exact wpAny_nextOf_list_end hh hi ha hx k
 | true=>
  obtain⟨o,e,c,d⟩:=id (show s.heap.IsTupleIter it a i from hi)
  obtain⟨u,eu,_,n,du⟩:=(show s.heap.IsTuple a xs from ha)
  have ty:=Heap.IsTupleIter.typeIs (show s.heap.IsTupleIter it a i from hi)
  unfold Builtin.SmallTypes.nextOf
  refine aa (bJ (name:=Str.ofString "__next__") ty F.slot_tuple_iterator_next (cc F.slot_tuple_iterator_next ty F.entry_tuple_iterator_next (?_:wpAny (model prog w) _ (field (.ref it) 0 >>= _) _ _ s) (F.args_tuple_iterator_next_1 _)))
  refine aa (bu e d (x:= .ref a) rfl (?_:wpAny (model prog w) _ (if (Value.ref a==Value.none)=true then _ else _) _ _ s))
  rw[ax (by exact ag)]
  show wpAny (model prog w) _ (field (.ref it) 1 >>= _) _ _ s
  refine aa (bu e d (x:= .int i 0) rfl ?_)
  show wpAny (model prog w) _ (seqItems? (.ref a) >>= _) _ _ s
  refine aa (cR eu du ?_)
  simp only [bL,hx]
  refine aa (cS (aa (wpAny_setField e d (by simp) (?_:wpAny (model prog w) _ (newExc (.type "StopIteration") [] >>= _) _ _ _))))
  refine aa (by
   simp only [newExc,newTuple]
   refine aa (cq (aa (m:=firstArgMember _ _) (wpAny_of_eq (a:=Value.none) (by first | rfl | (simp only [firstArgMember]; rfl)) (cq ?_ (by size_fits)))) (by size_fits))
   simp only [raiseNew]
   refine aa (wpAny_handled ?_)
   first | rw[show A.in1.handled=none from hh] | rw[hh]
   exact aa (am (wpAny_throw (k _ _ (((Heap.SameBut.update ..).extBut.push _).push _) ⟨_,aE _ rfl,rfl⟩))))
theorem jHG {t1 t2:Bool}{z TI TO i1 i2 l1 l2:Addr}{k1 k2:Nat}{xs ys:Array Value}{x y a b:Value}{Q:Value->Shared->Prop}(D:ZipApart z TI TO i1 i2 l1 l2)
  (ez:IsZip s.heap z TI TO .none) (eI:IsPair s.heap TI (.ref i1) (.ref i2)) (eO:IsPair s.heap TO a b) (g1:ItAt t1 s.heap i1 l1 k1) (g2:ItAt t2 s.heap i2 l2 k2) (o1:ObAt t1 s.heap l1 xs) (o2:ObAt t2 s.heap l2 ys) (hx:xs[k1]?=some x) (hy:ys[k2]?=some y)
  (k:∀ h',IsZip h' z TI TO (rawInt s.heap.objs.size)->IsPair h' TO x y->ItAt t1 h' i1 l1 (k1+1)->ItAt t2 h' i2 l2 (k2+1)->IsPair h' s.heap.objs.size x y->h'.objs.size=s.heap.objs.size+1->
   (∀ c o,c≠z->c≠TO->c≠i1->c≠i2->s.heap.get? c=some o->h'.get? c=some o)->Q (.ref s.heap.objs.size) { s with heap:=h'}):
  wpAny (model prog w) A (Builtin.«zip.__next__» ⟨[.ref z],[]⟩) (fun fin s'=>∃ v,fin= .done (.ret v)/\Q v s') E s:=by
 show wpAny (model prog w) A (field (.ref z) 2 >>= _) _ _ _
 refine aa (bu ez rfl (x:= .bool false) rfl (?_:wpAny (model prog w) A (field (.ref z) 3 >>= _) _ _ _))
 refine aa (bu ez rfl (x:= .ref TI) rfl (aa (cR eI rfl (?_:wpAny (model prog w) A (Builtin.SmallTypes.ownedTupleIsFree (.ref z) >>= _) _ _ _))))
 refine aa (by
  unfold Builtin.SmallTypes.ownedTupleIsFree
  refine aa (bu ez rfl (x:= .none) rfl (am ?_))
  simp only [fe]
  refine aa (cS (aa (bu ez rfl (x:= .ref TO) rfl (aa (bF ez (by simp) fun p1 f1 q1=>?_)))))
  have f1:IsZip p1 z TI TO .ellipsis:=f1
  refine aa (by
   simp only [fY,List.zipIdx_nil,gu,List.forIn_nil]
   refine aa (aa (fH (?_:wpAny (model prog w) A (Builtin.SmallTypes.nextOf (.ref i1) >>= _) _ _ _)))
   refine aa (next1 (g1.but q1.extBut D.i1z) (o1.but q1.extBut D.l1z) hx fun p2 r2 q2=>am ?_)
   have eO2:IsPair p2 TO a b:=q2.extBut _ _ D.TOi1 (q1.extBut _ _ D.TOz eO)
   refine aa (cR eO2 rfl (aa (eJ eO2 fun p3 eO3 q3=>aa (gH (am ?_)))))
   have eO3:IsPair p3 TO x b:=eO3
   refine aa (aa (fH (?_:wpAny (model prog w) A (Builtin.SmallTypes.nextOf (.ref i2) >>= _) _ _ _)))
   refine aa (next1 (((g2.but q1.extBut D.i2z).but q2.extBut D.i12.symm).but q3.extBut D.TOi2.symm) (((o2.but q1.extBut D.l2z).but q2.extBut D.l2i1).but q3.extBut D.l2TO) hy fun p4 r4 q4=>am ?_)
   have eO4:IsPair p4 TO x b:=q4.extBut _ _ D.TOi2 eO3
   refine aa (cR eO4 rfl (aa (eJ eO4 fun p5 eO5 q5=>aa (gH (am (am ?_))))))
   have eO5:IsPair p5 TO x y:=eO5
   refine aa (cR eO5 rfl (aa (gI ?_)))
   have sz:p5.objs.size=s.heap.objs.size:=by rw[q5.1,q4.1,q3.1,q2.1,q1.1]
   have ez5:IsZip p5 z TI TO .ellipsis:=q5.extBut _ _ D.TOz.symm (q4.extBut _ _ D.i2z.symm (q3.extBut _ _ D.TOz.symm (q2.extBut _ _ D.i1z.symm f1)))
   have kp5:∀ c o,c≠z->c≠TO->c≠i1->c≠i2->s.heap.get? c=some o->p5.get? c=some o:=fun c o n1 n2 n3 n4 e=>q5.extBut _ _ n2 (q4.extBut _ _ n4 (q3.extBut _ _ n2 (q2.extBut _ _ n3 (q1.extBut _ _ n1 e))))
   have r15:ItAt t1 p5 i1 l1 (k1+1):=((r2.but q3.extBut D.TOi1.symm).but q4.extBut D.i12).but q5.extBut D.TOi1.symm
   have r25:ItAt t2 p5 i2 l2 (k2+1):=r4.but q5.extBut D.TOi2.symm
   have zlt:z<p5.objs.size:=aB ez5
   show wpAny (model prog w) A (Builtin.SmallTypes.ownedTupleHandOut (.ref z) (.ref p5.objs.size) >>= _) _ _ _
   refine aa ?_
   unfold Builtin.SmallTypes.ownedTupleHandOut
   have f6:IsZip (p5.push { cls:= .type "tuple",data:= .seq #[x,y]}) z TI TO .ellipsis:=ae _ ez5
   refine aa (bF f6 (by simp) fun p7 f7 q7=>?_)
   have f7:IsZip p7 z TI TO (rawInt p5.objs.size):=f7
   refine bF f7 (by simp) fun p8 f8 q8=>?_
   have f8:IsZip p8 z TI TO (rawInt p5.objs.size):=f8
   have up:∀ c o,c≠z->p5.get? c=some o->p8.get? c=some o:=fun c o n1 e=>q8.extBut _ _ n1 (q7.extBut _ _ n1 (ae _ e))
   have eT:IsPair p8 p5.objs.size x y:=q8.extBut _ _ (dv zlt) (q7.extBut _ _ (dv zlt) (aE _ rfl))
   have sz8:p8.objs.size=p5.objs.size+1:=by rw[q8.1,q7.1,cr]
   rw[sz] at f8 eT sz8
   refine am ⟨_,rfl,(?_:Q (.ref p5.objs.size) _)⟩
   rw[sz]
   exact k p8 f8 (up _ _ D.TOz eO5) (r15.at fun o e=>up _ o D.i1z e) (r25.at fun o e=>up _ o D.i2z e) eT sz8 fun c o n1 n2 n3 n4 e=>up c o n1 (kp5 c o n1 n2 n3 n4 e)))
theorem jJW {t1 t2:Bool}{z TI TO i1 i2 l1 l2:Addr}{k1 k2:Nat}{xs ys:Array Value}{a b:Value}{Q:Fin->Shared->Prop}(hh:A.handled=none)(D:ZipApart z TI TO i1 i2 l1 l2)
  (ez:IsZip s.heap z TI TO .none) (eI:IsPair s.heap TI (.ref i1) (.ref i2)) (eO:IsPair s.heap TO a b) (g1:ItAt t1 s.heap i1 l1 k1) (g2:ItAt t2 s.heap i2 l2 k2) (o1:ObAt t1 s.heap l1 xs) (o2:ObAt t2 s.heap l2 ys) (hend:xs[k1]?=none\/ys[k2]?=none)
  (k:∀ h' e,(∀ c o,c≠z->c≠TO->c≠i1->c≠i2->s.heap.get? c=some o->h'.get? c=some o)->(∃ o,h'.get? e=some o/\o.cls= .type "StopIteration")->E (.ref e) { s with heap:=h'}):
  wpAny (model prog w) A (Builtin.«zip.__next__» ⟨[.ref z],[]⟩) Q E s:=by
 show wpAny (model prog w) A (field (.ref z) 2 >>= _) _ _ _
 refine aa (bu ez rfl (x:= .bool false) rfl (?_:wpAny (model prog w) A (field (.ref z) 3 >>= _) _ _ _))
 refine aa (bu ez rfl (x:= .ref TI) rfl (aa (cR eI rfl (?_:wpAny (model prog w) A (Builtin.SmallTypes.ownedTupleIsFree (.ref z) >>= _) _ _ _))))
 refine aa (by
  unfold Builtin.SmallTypes.ownedTupleIsFree
  refine aa (bu ez rfl (x:= .none) rfl (am ?_))
  simp only [fe]
  refine aa (cS (aa (bu ez rfl (x:= .ref TO) rfl (aa (bF ez (by simp) fun p1 f1 q1=>?_)))))
  have f1:IsZip p1 z TI TO .ellipsis:=f1
  refine aa (by
   simp only [fY,List.zipIdx_nil,gu,List.forIn_nil]
   refine aa (aa (fH (?_:wpAny (model prog w) A (Builtin.SmallTypes.nextOf (.ref i1) >>= _) _ _ _)))
   cases hx:xs[k1]? with
   | none=>
    refine aa (next0 hh (g1.but q1.extBut D.i1z) (o1.but q1.extBut D.l1z) hx fun p2 e q2 ⟨u,eu,cu⟩=>?_)
    have f2:IsZip p2 z TI TO .ellipsis:=q2 _ _ D.i1z.symm f1
    have nz:e≠z:=fun v=>by subst v; rw[f2] at eu; cases eu; simp at cu
    exact bF f2 (by simp) fun p3 _ q3=>k p3 e (fun c o n1 _ n3 _ v=>q3.extBut _ _ n1 (q2 _ _ n3 (q1.extBut _ _ n1 v))) ⟨u,q3.extBut _ _ nz eu,cu⟩
   | some x=>
    have hy:ys[k2]?=none:=by
     rcases hend with v | v
     ·rw[hx] at v; cases v
     ·exact v
    refine aa (next1 (g1.but q1.extBut D.i1z) (o1.but q1.extBut D.l1z) hx fun p2 r2 q2=>am ?_)
    have eO2:IsPair p2 TO a b:=q2.extBut _ _ D.TOi1 (q1.extBut _ _ D.TOz eO)
    refine aa (cR eO2 rfl (aa (eJ eO2 fun p3 eO3 q3=>aa (gH (am ?_)))))
    refine aa (aa (fH (?_:wpAny (model prog w) A (Builtin.SmallTypes.nextOf (.ref i2) >>= _) _ _ _)))
    refine aa (next0 hh (((g2.but q1.extBut D.i2z).but q2.extBut D.i12.symm).but q3.extBut D.TOi2.symm) (((o2.but q1.extBut D.l2z).but q2.extBut D.l2i1).but q3.extBut D.l2TO) hy fun p4 e q4 ⟨u,eu,cu⟩=>?_)
    have f4:IsZip p4 z TI TO .ellipsis:=q4 _ _ D.i2z.symm (q3.extBut _ _ D.TOz.symm (q2.extBut _ _ D.i1z.symm f1))
    have nz:e≠z:=fun v=>by subst v; rw[f4] at eu; cases eu; simp at cu
    exact bF f4 (by simp) fun p5 _ q5=>k p5 e (fun c o n1 n2 n3 n4 v=>q5.extBut _ _ n1 (q4 _ _ n4 (q3.extBut _ _ n2 (q2.extBut _ _ n3 (q1.extBut _ _ n1 v))))) ⟨u,q5.extBut _ _ nz eu,cu⟩))
theorem jFN {t1 t2:Bool}{z TI TO i1 i2 l1 l2:Addr}{k1 k2:Nat}{xs ys:Array Value}{x y a b:Value}{Q:Option Value->Shared->Prop}(D:ZipApart z TI TO i1 i2 l1 l2)
  (ez:IsZip s.heap z TI TO .none) (eI:IsPair s.heap TI (.ref i1) (.ref i2)) (eO:IsPair s.heap TO a b) (g1:ItAt t1 s.heap i1 l1 k1) (g2:ItAt t2 s.heap i2 l2 k2) (o1:ObAt t1 s.heap l1 xs) (o2:ObAt t2 s.heap l2 ys) (hx:xs[k1]?=some x) (hy:ys[k2]?=some y)
  (k:∀ h',IsZip h' z TI TO (rawInt s.heap.objs.size)->IsPair h' TO x y->ItAt t1 h' i1 l1 (k1+1)->ItAt t2 h' i2 l2 (k2+1)->IsPair h' s.heap.objs.size x y->h'.objs.size=s.heap.objs.size+1->
   (∀ c o,c≠z->c≠TO->c≠i1->c≠i2->s.heap.get? c=some o->h'.get? c=some o)->Q (some (.ref s.heap.objs.size)) { s with heap:=h'}):
  wpAny (model prog w) A (pyNext (.ref z)) Q E s:=by
 have ty:s.TypeIs (.ref z) "zip" :=⟨_,ez,rfl⟩
 unfold pyNext
 exact aa (eF (bJ (name:=Str.ofString "__next__") ty F.slot_zip_next (cc F.slot_zip_next ty F.entry_zip_next (jHG D ez eI eO g1 g2 o1 o2 hx hy fun h' b1 b2 b3 b4 b5 b6 b7=>am (k h' b1 b2 b3 b4 b5 b6 b7)) (F.args_zip_next_1 _))))
theorem jFO {t1 t2:Bool}{z TI TO i1 i2 l1 l2:Addr}{k1 k2:Nat}{xs ys:Array Value}{a b:Value}{Q:Option Value->Shared->Prop}(hh:A.handled=none)(D:ZipApart z TI TO i1 i2 l1 l2)
  (ez:IsZip s.heap z TI TO .none) (eI:IsPair s.heap TI (.ref i1) (.ref i2)) (eO:IsPair s.heap TO a b) (g1:ItAt t1 s.heap i1 l1 k1) (g2:ItAt t2 s.heap i2 l2 k2) (o1:ObAt t1 s.heap l1 xs) (o2:ObAt t2 s.heap l2 ys) (hend:xs[k1]?=none\/ys[k2]?=none)
  (k:∀ h',(∀ c o,c≠z->c≠TO->c≠i1->c≠i2->s.heap.get? c=some o->h'.get? c=some o)->Q none { s with heap:=h'}):wpAny (model prog w) A (pyNext (.ref z)) Q E s:=by
 have ty:s.TypeIs (.ref z) "zip" :=⟨_,ez,rfl⟩
 unfold pyNext
 refine aa (eF (bJ (name:=Str.ofString "__next__") ty F.slot_zip_next (cc F.slot_zip_next ty F.entry_zip_next (jJW hh D ez eI eO g1 g2 o1 o2 hend fun h' e kp ⟨u,eu,cu⟩=>?_) (F.args_zip_next_1 _))))
 exact aa (wpAny_isInstance (T:= "StopIteration") (b:=true) ⟨u,eu,cu⟩ isSubtype_stop (am (k _ kp)))
end
def yQ (tp:Bool)(a:Addr):Obj:=match tp with
 | false=> { cls:= .type "list_iterator",data:= .fields #[.ref a, .int 0 0]}
 | true=> { cls:= .type "tuple_iterator",data:= .fields #[.ref a, .int 0 0]}
theorem jBS (tp:Bool)(a:Addr):(yQ tp a).isFreed=false:=by cases tp <;> rfl
theorem ObAt.push {tp:Bool}{h:Heap}{a:Addr}{xs:Array Value}(x:ObAt tp h a xs)(o:Obj):ObAt tp (h.push o) a xs:=by
 cases tp with
 | false=>exact Heap.IsList.push x o
 | true=>exact Heap.IsTuple.push x o
theorem jBQ {prog:Program}{w:World}{A:Around}{E:Value->Shared->Prop}{s:Shared}{tp:Bool}{a:Addr}{xs:Array Value}{Q:Value->Shared->Prop}(h:ObAt tp s.heap a xs)(q:Q (.ref s.heap.objs.size) { s with heap:=s.heap.push (yQ tp a)}):
  wpAny (model prog w) A (pyIter (.ref a)) Q E s:=by
 cases tp with
 | false=>exact da h q
 | true=>exact wpAny_pyIter_tuple h q
def zp1 (t1:Bool)(h:Heap)(l1:Addr):Heap:=h.push (yQ t1 l1)
def zp2 (t1 t2:Bool)(h:Heap)(l1 l2:Addr):Heap:=(zp1 t1 h l1).push (yQ t2 l2)
def zp3 (t1 t2:Bool)(h:Heap)(l1 l2:Addr):Heap:=(zp2 t1 t2 h l1 l2).push { cls:= .type "tuple",data:= .seq #[.ref h.objs.size, .ref (zp1 t1 h l1).objs.size]}
def zp4 (t1 t2:Bool)(h:Heap)(l1 l2:Addr):Heap:=(zp3 t1 t2 h l1 l2).push { cls:= .type "tuple",data:= .seq #[.none, .none]}
def zp5 (t1 t2:Bool)(h:Heap)(l1 l2:Addr):Heap:=(zp4 t1 t2 h l1 l2).push { cls:= .type "zip",data:= .fields #[.none, .bool false, .bool false, .ref (zp2 t1 t2 h l1 l2).objs.size, .ref (zp3 t1 t2 h l1 l2).objs.size]}
theorem jH3 (t1 t2:Bool)(l1 l2:Addr)(xs ys:Array Value):
  Meets (Builtin.«zip.__new__» ⟨[.type "zip", .ref l1, .ref l2],[]⟩) (fun _ R s=>ObAt t1 s.heap l1 xs/\ObAt t2 s.heap l2 ys/\R (.ok (.ret (.ref (zp4 t1 t2 s.heap l1 l2).objs.size))) { s with heap:=zp5 t1 t2 s.heap l1 l2}):=
 .of_wp fun prog w A R s h=>by
  obtain⟨hp,g,d,tk,os⟩:=s
  obtain⟨a1,a2,q⟩:=h
  have sub:=sub_zip
  have e1:ObAt t1 (Shared.heap ⟨hp,g,d,tk,os⟩) l1 xs:=a1
  have e2:ObAt t2 (Shared.heap ⟨hp.push (yQ t1 l1),g,d,tk,os⟩) l2 ys:=ObAt.push a2 _
  wp_walk using jBQ e1,jBQ e2
  exact⟨_,rfl,q⟩
theorem ItAt.new (tp:Bool){h:Heap}{it a:Addr}(e:h.get? it=some (yQ tp a)):ItAt tp h it a 0:=by
 cases tp with
 | false=>exact⟨_,e,rfl,rfl⟩
 | true=>exact⟨_,e,rfl,rfl⟩
theorem jJO {prog:Program}{w:World}{A:Around}{E:Value->Shared->Prop}{s:Shared}{t1 t2:Bool}{l1 l2:Addr}{xs ys:Array Value}{Q:Value->Shared->Prop}(a1:ObAt t1 s.heap l1 xs)(a2:ObAt t2 s.heap l2 ys)
  (k:∀ h',IsZip h' (s.heap.objs.size+4) (s.heap.objs.size+2) (s.heap.objs.size+3) .none->IsPair h' (s.heap.objs.size+2) (.ref s.heap.objs.size) (.ref (s.heap.objs.size+1))->
   IsPair h' (s.heap.objs.size+3) .none .none->ItAt t1 h' s.heap.objs.size l1 0->ItAt t2 h' (s.heap.objs.size+1) l2 0->(∀ c o,s.heap.get? c=some o->h'.get? c=some o)->Q (.ref (s.heap.objs.size+4)) { s with heap:=h'}):
  wpAny (model prog w) A (call (.type "zip") [.ref l1, .ref l2]) Q E s:=by
 refine callType_new F.called_zip (by decide) (F.typeCall_zip_2 _ _) (F.newCall_zip_2 _ _) (fun obj=>F.args_object_init_3 obj _ _) F.entry_zip_new (jH3 t1 t2 l1 l2 xs ys) ⟨a1,a2,?_⟩
 have z1:(zp1 t1 s.heap l1).objs.size=s.heap.objs.size+1:=cr ..
 have z2:(zp2 t1 t2 s.heap l1 l2).objs.size=s.heap.objs.size+2:=(cr ..).trans (bB (· +1) z1)
 have z3:(zp3 t1 t2 s.heap l1 l2).objs.size=s.heap.objs.size+3:=(cr ..).trans (bB (· +1) z2)
 have z4:(zp4 t1 t2 s.heap l1 l2).objs.size=s.heap.objs.size+4:=(cr ..).trans (bB (· +1) z3)
 have y5:(zp5 t1 t2 s.heap l1 l2).get? (zp4 t1 t2 s.heap l1 l2).objs.size=some { cls:= .type "zip",data:= .fields #[.none, .bool false, .bool false, .ref (zp2 t1 t2 s.heap l1 l2).objs.size, .ref (zp3 t1 t2 s.heap l1 l2).objs.size]} :=aE _ rfl
 have y4:(zp5 t1 t2 s.heap l1 l2).get? (zp3 t1 t2 s.heap l1 l2).objs.size=some { cls:= .type "tuple",data:= .seq #[.none, .none]} :=ae _ (aE _ rfl)
 have y3:(zp5 t1 t2 s.heap l1 l2).get? (zp2 t1 t2 s.heap l1 l2).objs.size=some { cls:= .type "tuple",data:= .seq #[.ref s.heap.objs.size, .ref (zp1 t1 s.heap l1).objs.size]} :=ae _ (ae _ (aE _ rfl))
 have y2:(zp5 t1 t2 s.heap l1 l2).get? (zp1 t1 s.heap l1).objs.size=some (yQ t2 l2):=ae _ (ae _ (ae _ (aE _ (jBS _ _))))
 have y1:(zp5 t1 t2 s.heap l1 l2).get? s.heap.objs.size=some (yQ t1 l1):=ae _ (ae _ (ae _ (ae _ (aE _ (jBS _ _)))))
 have up:∀ c o,s.heap.get? c=some o->(zp5 t1 t2 s.heap l1 l2).get? c=some o:=fun c o e=>ae _ (ae _ (ae _ (ae _ (ae _ e))))
 rw[z2,z3,z4] at y5
 rw[z1,z2] at y3
 rw[z3] at y4
 rw[z1] at y2
 show _/\_
 rw[z4]
 exact⟨⟨_,y5,rfl⟩,k _ y5 y3 y4 (.new t1 y1) (.new t2 y2) up⟩
section
variable {X:Cx}
def Sq (tp:Bool)(K:W.Frag)(H:Hp)(a:Addr)(xs:List V):Prop:=match tp with
 | false=>SqL K H a xs
 | true=>SqT K H a xs
theorem Inv.sq {X:Cx}{pins:List (Addr×Obj)}{σ:St}{H:Hp}{s:Shared}{tp:Bool}{a:Addr}{xs:List V}(I:Inv X pins σ H s)(h:Sq tp X.K H a xs):∃ its:List Value,Vals xs its/\ObAt tp s.heap a its.toArray/\xs.length<=sizeLine:=by
 cases tp with
 | false=>
  obtain⟨its,r,p,z⟩:=I.list h
  exact⟨its,r,p.isList,z⟩
 | true=>exact I.tuple h
theorem Inv.sq_inj {X:Cx}{pins:List (Addr×Obj)}{σ:St}{H:Hp}{s:Shared}{tp:Bool}{a:Addr}{xs ys:List V}(I:Inv X pins σ H s)(h:Sq tp X.K H a xs)(h':Sq tp X.K H a ys):xs=ys:=by
 cases tp with
 | false=>exact I.list_inj h h'
 | true=>exact I.tuple_inj h h'
def Itz (t1 t2:Bool)(K:W.Frag)(l1 l2:Addr):It:=
 ⟨fun i H=>∃ xs ys x y,Sq t1 K H l1 xs/\Sq t2 K H l2 ys/\xs[i]?=some x/\ys[i]?=some y,
  fun i H v H'=>∃ T x y,H T=none/\v= .ref T/\H'=upd H T (.tup [x,y])/\∀ xs ys,Sq t1 K H l1 xs->Sq t2 K H l2 ys->xs[i]?=some x/\ys[i]?=some y,
  fun i H=>∃ xs ys,Sq t1 K H l1 xs/\Sq t2 K H l2 ys/\(xs.length<=i\/ys.length<=i)⟩
theorem jJX {P:Program}{w:World}{K:W.Frag}{elts:List Expr}{x1:Nat}{tp:Pos}(t1 t2:Bool)(l1 l2 z TI TO i1 i2:Addr)(D:ZipApart z TI TO i1 i2 l1 l2):
  Turn P w K (.Tuple elts x1 tp) (Itz t1 t2 K l1 l2) [z,TO,i1,i2,TI] z (fun i h=>IsZip h z TI TO .none/\IsPair h TI (.ref i1) (.ref i2)/\(∃ a b,IsPair h TO a b)/\ItAt t1 h i1 l1 i/\ItAt t2 h i2 l2 i) where
 mem:=by simp
 obj:=fun i h st b hb=>by
  obtain⟨hz,hTI,⟨a,c,hTO⟩,y1,y2⟩:=st
  simp only [aH,bf,cJ] at hb
  rcases hb with rfl | rfl | rfl | rfl | rfl
  ·exact⟨_,hz,fun v q=>by cases q⟩
  ·exact⟨_,hTO,fun v q=>by cases q⟩
  ·exact y1.obj
  ·exact y2.obj
  ·exact⟨_,hTI,fun v q=>by cases q⟩
 keep:=fun i h h' st k=>by
  obtain⟨hz,hTI,⟨a,c,hTO⟩,h1,h2⟩:=st
  exact⟨k z (by simp) _ hz,k TI (by simp) _ hTI,⟨a,c,k TO (by simp) _ hTO⟩,h1.at fun o e=>k i1 (by simp) o e,h2.at fun o e=>k i2 (by simp) o e⟩
 item:=by
  intro X hP hw hK hc i pins s σ H E I hf st hg
  subst hP hw hK
  obtain⟨xs,ys,x,y,hq1,hq2,hx,hy⟩:=hg
  obtain⟨hz,hTI,⟨a,c,hTO⟩,h1,h2⟩:=st
  obtain⟨its1,r1,p1,_⟩:=I.sq hq1
  obtain⟨its2,r2,p2,_⟩:=I.sq hq2
  obtain⟨u,hu,ru⟩:=r1.get hx
  obtain⟨v,hv,rv⟩:=r2.get hy
  refine jFN D hz hTI hTO h1 h2 p1 p2 (x:=u) (y:=v) (by simpa using hu) (by simpa using hv) fun h' a1 a2 a3 a4 a5 a6 a7=>?_
  refine⟨_,rfl,wpAny_letOwnedTupleGo_zip (s:= { s with heap:=h'}) a1 fun h'' b1 sb=>?_⟩
  have fresh:H s.heap.objs.size=none:=I.fresh
  have nch:∀ b∈([z,TO,i1,i2]:List Addr),FpOk X pins H b:=fun b hb=>hf b (by
   simp only [aH,bf,cJ] at hb ⊢
   rcases hb with q | q | q | q
   ·exact .inl q
   ·exact .inr (.inl q)
   ·exact .inr (.inr (.inl q))
   ·exact .inr (.inr (.inr (.inl q))))
  have ntr:∀ b o,H b=some o->b∉([z,TO,i1,i2]:List Addr):=fun b o e hb=>by
   have:=(nch b hb).1
   rw[e] at this; cases this
  have kp:∀ b o,b∉([z,TO,i1,i2]:List Addr)->s.heap.get? b=some o->h''.get? b=some o:=fun b o hb e=>by
   simp only [aH,bf,cJ,not_or] at hb
   exact(sb.2 b hb.1).trans (a7 b o hb.1 hb.2.1 hb.2.2.1 hb.2.2.2 e)
  have nz:s.heap.objs.size≠z:=dv (aB hz)
  have hT2:h''.get? s.heap.objs.size=some { cls:= .type "tuple",data:= .seq #[u,v]} :=(sb.2 _ nz).trans a5
  have I2:Inv X pins σ (upd H s.heap.objs.size (.tup [x,y])) { s with heap:=h''} :=by
   refine I.step (g':=s.gens) (d':=s.drawn) (t':=s.toks) (ch:=[z,TO,i1,i2]) (fun b hb=>?_) (fun b o _ _ hb e _=>kp b o hb e) (fun b o _ _ hb e _=>⟨o.slots,kp b o hb e⟩)
    (fun b o _ e n=>by rw[j8 (ba (aB e))]; exact n) (fun b o hb e=>⟨o,kp b o hb e⟩) (fun b ws e=>by rw[j8 (jC e fresh)]; exact e) (fun b o ws e=>by rw[j8 (jC e fresh)]; exact e)
    (fun b ps e=>⟨#[],by rw[j8 (jC e fresh),e]; simp⟩) (fun m hm=>?_) (fun b o e=>?_) I.bare
   ·obtain⟨f0,f1,f2,f3,f4,f5⟩:=nch b hb
    exact⟨f3,f1,f4,f5⟩
   ·obtain⟨o,es,ep,ho,r⟩:=hm
    exact⟨o,es,ep,kp _ o (fun hb=>(nch _ hb).2.1 rfl) ho,r⟩
   ·by_cases hb:b=s.heap.objs.size
    ·subst hb
     rw[j6] at e
     cases e
     exact⟨by rw[dG]; show 2<=_; decide,[u,v], .cons ru (.cons rv .nil),0,hT2⟩
    ·rw[j8 hb] at e
     refine(I.hok b o e).stay (fun c w hc q=>kp c w ?_ q) (fun c q=>by rw[j8 (jC q fresh)]; exact q) (fun c ws q=>by rw[j8 (jC q fresh)]; exact q)
     rcases hc with rfl | hc
     ·exact ntr _ _ e
     ·exact ntr _ _ hc
  refine⟨.ref s.heap.objs.size,_,I2,rfl,⟨_,x,y,fresh,rfl,rfl,fun xs' ys' q1 q2=>⟨by rw[I.sq_inj q1 hq1]; exact hx,by rw[I.sq_inj q2 hq2]; exact hy⟩⟩,⟨b1,?_,⟨u,v,?_⟩,?_,?_⟩,fun b hb=>?_⟩
  ·exact kp TI _ (by simp [D.TIz,D.TITO,D.TIi1,D.TIi2]) hTI
  ·exact(sb.2 TO D.TOz).trans a2
  ·exact a3.at fun o e=>(sb.2 i1 D.i1z).trans e
  ·exact a4.at fun o e=>(sb.2 i2 D.i2z).trans e
  ·rw[j8 (fun q=>by
    obtain⟨o,eo⟩:∃ o,s.heap.get? b=some o:=by
     simp only [aH,bf,cJ] at hb
     rcases hb with rfl | rfl | rfl | rfl | rfl
     ·exact⟨_,hz⟩
     ·exact⟨_,hTO⟩
     ·obtain⟨o,e,_⟩:=h1.obj; exact⟨o,e⟩
     ·obtain⟨o,e,_⟩:=h2.obj; exact⟨o,e⟩
     ·exact⟨_,hTI⟩
    exact absurd (aB eo) (by rw[q]; exact ck _))]
   exact(hf b hb).1
 done:=by
  intro X hP hw hK hc i pins s σ H E I hf st hg
  subst hP hw hK
  obtain⟨xs,ys,hq1,hq2,hend⟩:=hg
  obtain⟨hz,hTI,⟨a,c,hTO⟩,h1,h2⟩:=st
  obtain⟨its1,r1,p1,_⟩:=I.sq hq1
  obtain⟨its2,r2,p2,_⟩:=I.sq hq2
  have e1:=r1.length
  have e2:=r2.length
  refine jFO (I.ok.hd hc) D hz hTI hTO h1 h2 p1 p2 (by
   rcases hend with q | q
   ·exact .inl (by simp; omega)
   ·exact .inr (by simp; omega)) fun h' kp=>⟨rfl,?_⟩
  have nch:∀ b∈([z,TO,i1,i2]:List Addr),FpOk X pins H b:=fun b hb=>hf b (by
   simp only [aH,bf,cJ] at hb ⊢
   rcases hb with q | q | q | q
   ·exact .inl q
   ·exact .inr (.inl q)
   ·exact .inr (.inr (.inl q))
   ·exact .inr (.inr (.inr (.inl q))))
  have kp2:∀ b o,b∉([z,TO,i1,i2]:List Addr)->s.heap.get? b=some o->h'.get? b=some o:=fun b o hb e=>by
   simp only [aH,bf,cJ,not_or] at hb
   exact kp b o hb.1 hb.2.1 hb.2.2.1 hb.2.2.2 e
  have ntr:∀ b o,H b=some o->b∉([z,TO,i1,i2]:List Addr):=fun b o e hb=>by
   have:=(nch b hb).1
   rw[e] at this; cases this
  refine I.step (g':=s.gens) (d':=s.drawn) (t':=s.toks) (ch:=[z,TO,i1,i2]) (fun b hb=>?_) (fun b o _ _ hb e _=>kp2 b o hb e) (fun b o _ _ hb e _=>⟨o.slots,kp2 b o hb e⟩)
   (fun b o _ e n=>n) (fun b o hb e=>⟨o,kp2 b o hb e⟩) (fun b ws e=>e) (fun b o ws e=>e) (fun b ps e=>⟨#[],by rw[e]; simp⟩) (fun m hm=>?_) (fun b o e=>?_) I.bare
  ·obtain⟨f0,f1,f2,f3,f4,f5⟩:=nch b hb
   exact⟨f3,f1,f4,f5⟩
  ·obtain⟨o,es,ep,ho,r⟩:=hm
   exact⟨o,es,ep,kp2 _ o (fun hb=>(nch _ hb).2.1 rfl) ho,r⟩
  ·refine(I.hok b o e).stay (fun c w hc q=>kp2 c w ?_ q) (fun _ q=>q) fun _ _ q=>q
   rcases hc with rfl | hc
   ·exact ntr _ _ e
   ·exact ntr _ _ hc
 self:=fun _ _ _ _ _ st h=>wpAny_pyIter_zip st.1 h
def iZip (K:W.Frag)(ta:TA):TI:=fun σ H R=>ta σ H fun vs H1=>∃ t1 t2 l1 l2,vs=[.ref l1, .ref l2]/\(∃ xs,Sq t1 K H1 l1 xs)/\(∃ ys,Sq t2 K H1 l2 ys)/\R (Itz t1 t2 K l1 l2) H1
theorem jOS {a b:Expr}{ta:TA}{p pos:Pos}{elts:List Expr}{x1:Nat}{tp:Pos}(hg:Gl X "zip")(hm:X.mg "zip" =none)(ha:PA X [a,b] ta)(hv:bootBuiltins "zip" =some (.type "zip"):=by decide+kernel)
  (he:starEach [a,b] X.env=(false,eval a X.env)::starEach [b] X.env:=by rfl) (hpl:(backTo pos (starEach [b] X.env)).any (·.1)=false:=by rfl):
  PI X (.Tuple elts x1 tp) (.Call (.Name "zip" p) [a,b] [] pos) (iZip X.K ta):=by
 intro pins s σ H R I h
 refine Call_ (jCR I hg hm hv (cM (thn (ha pos pins s σ H _ I h) fun us s1 ⟨vs,H1,I1,r1,q1⟩=>?_) he hpl))
 obtain⟨t1,t2,l1,l2,rfl,⟨xs,hq1⟩,⟨ys,hq2⟩,q⟩:=q1
 obtain⟨u,v,rfl,ru,rv⟩:=r1.two
 cases ru
 cases rv
 obtain⟨its1,_,p1,_⟩:=I1.sq hq1
 obtain⟨its2,_,p2,_⟩:=I1.sq hq2
 have lt1:l1<s1.heap.objs.size:=p1.lt
 have lt2:l2<s1.heap.objs.size:=p2.lt
 refine jJO p1 p2 fun h' a1 a2 a3 a4 a5 kp=>?_
 have I2:Inv X pins σ H1 { s1 with heap:=h'} :=I1.kept (t':=s1.toks) kp
 have D:ZipApart (s1.heap.objs.size+4) (s1.heap.objs.size+2) (s1.heap.objs.size+3) s1.heap.objs.size (s1.heap.objs.size+1) l1 l2:=zipApart_new lt1 lt2
 refine wpAny_pyIter_zip a1 ⟨s1.heap.objs.size+4,[s1.heap.objs.size+4,s1.heap.objs.size+3,s1.heap.objs.size,s1.heap.objs.size+1,s1.heap.objs.size+2],_,Itz t1 t2 X.K l1 l2,H1,rfl,I2,jJX t1 t2 l1 l2 _ _ _ _ _ D,⟨a1,a2,⟨_,_,a3⟩,a4,a5⟩,fun b hb=>?_,q⟩
 have hge:s1.heap.objs.size<=b:=by
  simp only [aH,bf,cJ] at hb
  rcases hb with rfl | rfl | rfl | rfl | rfl
  ·exact dM _ 4
  ·exact dM _ 3
  ·exact az _
  ·exact dM _ 1
  ·exact dM _ 2
 exact I1.fpOk hge (I1.hok.fresh hge)
end
structure JE (X:Cx)(e:Expr)(t:TE):Prop where
 h:PE X e t
structure JA (X:Cx)(es:List Expr)(t:TA):Prop where
 h:PA X es t
structure JT (X:Cx)(e:Expr)(t:TT):Prop where
 h:PT X e t
structure JTs (X:Cx)(e:List Expr)(t:TT):Prop where
 h:PTs X e t
structure JS (X:Cx)(e:Stmt)(t:TS):Prop where
 h:PS X e t
structure JSs (X:Cx)(e:List Stmt)(t:TS):Prop where
 h:PSs X e t
structure JG (X:Cx)(e:Expr)(t:TG):Prop where
 h:PG X e t
structure JGs (X:Cx)(e:List Expr)(t:TGs):Prop where
 h:PGs X e t
structure JI (X:Cx)(tg e:Expr)(t:TI):Prop where
 h:PI X tg e t
structure JO (X:Cx)(e:Option Expr)(t:TO):Prop where
 h:PO X e t
structure Loc1 (X:Cx)(x:Str):Prop where
 a:Loc X.env.scope x
 b:X.fn x=true\/X.env.scope.names.lookup x=some .local
structure Vis1 (X:Cx)(x:Str):Prop where
 a:Vis X.env.scope x
structure Gl1 (X:Cx)(x:Str):Prop where
 a:Gl X x
section
variable {a b:Expr}{pos:Pos}{xs:List Expr}{o:Option Expr}{l:Nat}{env:Env}
structure SwOk (e:Expr)(o:Option Expr):Prop where
 h:∀ l env,swapsWith e o l env=pure false
theorem jCG {op:Operator} :SwOk (.BinOp a op b pos) o:=⟨fun _ _=>rfl⟩
theorem jOE {ops:List CmpOp} :SwOk (.Compare a ops xs pos) o:=⟨fun _ _=>rfl⟩
theorem kI {kw:List Keyword} :SwOk (.Call a xs kw pos) o:=⟨fun _ _=>rfl⟩
theorem jHT:SwOk (.Subscript a b pos) o:=⟨fun _ _=>rfl⟩
theorem jOD {x1} :SwOk (.Tuple xs x1 pos) o:=⟨fun _ _=>rfl⟩
theorem jD0:SwOk (.List xs pos) o:=⟨fun _ _=>rfl⟩
theorem jC3 {c k} :SwOk (.Constant c k pos) o:=⟨fun _ _=>rfl⟩
theorem jLG {op:Operator} :jAU (.BinOp a op b pos):=fun _ _=>rfl
theorem jME {kw:List Keyword} :jAU (.Call a xs kw pos):=fun _ _=>rfl
theorem jE {i:Int}{k} :jAU (.Constant (.int i) k pos):=fun _ _=>rfl
theorem jB5 {x:Str} :jAU (.Name x pos):=fun _ _=>rfl
theorem jOK:jAU (.Subscript a b pos):=fun _ _=>rfl
structure FoOk (iter:Expr):Prop where
 h:∀ env x,foldedSetIterable iter env x=pure x
theorem y6 {kw:List Keyword} :FoOk (.Call a xs kw pos):=⟨fun _ _=>rfl⟩
theorem jAH {x:Str} :FoOk (.Name x pos):=⟨fun _ _=>rfl⟩
theorem jLU:FoOk (.Subscript a b pos):=⟨fun _ _=>rfl⟩
structure TvOk (e:Expr):Prop where
 h:∀ env whole,isTrue e env whole=(do let v <- whole; standAt e.pos; holding [v] (truthy v))
theorem jCF {kw:List Keyword} :TvOk (.Call a xs kw pos):=⟨fun _ _=>rfl⟩
end
section
variable {X:Cx}{a b e o:Expr}{ta tb te to:TE}{es:List Expr}{t:TA}{pos p p2 cpos apos:Pos}{x:Str}{T:String}{id:String}
theorem jv (i:Nat)(hN:X.N[i]?=some x)(hv:Vis1 X x)(hd:(x==("__debug__" :Str))=false:=by decide)(hcd:(x==("__classdict__" :Str))=false:=by decide):JE X (.Name x pos) (tVar i):=⟨jI5 hN hv.a hd hcd⟩
theorem je_int {i j} :JE X (.Constant (.int i) j pos) (tC (.int i)):=⟨kO⟩
theorem je_bl {i j} :JE X (.Constant (.bool i) j pos) (tC (.bl i)):=⟨pe_bl⟩
theorem jF2 {j} :JE X (.Constant .none j pos) (tC .non):=⟨jOY⟩
theorem jE4 {v:V}{u:Value}(hg:Gl1 X x)(hm:X.mg x=none)(hv:bootBuiltins x=some u)(r:RelV v u)(hn:x≠ "__name__" :=by decide)(hd:(x==("__debug__" :Str))=false:=by decide):JE X (.Name x pos) (tC v):=⟨jMX hg.a hm hv r hn hd⟩
theorem jK {op:Operator}{r:R2}(ho:OpR X (binaryOp op) r)(ha:JE X a ta)(hb:JE X b tb):JE X (.BinOp a op b pos) (tOp r ta tb):=⟨yA ho ha.h hb.h⟩
theorem je_un {op:UnaryOp}{r:V->Hp->VK->Prop}(ho:UnR X (unaryOp op) r)(ha:JE X a ta):JE X (.UnaryOp op a pos) (tUn r ta):=⟨pe_un ho ha.h⟩
theorem jPK (ha:JE X a ta):JE X (.UnaryOp .Not a pos) (tNotV ta):=⟨jOX ha.h⟩
theorem jJ1 {op:CmpOp}{r:R2}(ho:OpR X (compareOp op) r)(ha:JE X a ta)(hb:JE X b tb)(hm:behindInMarks op b=false):JE X (.Compare a [op] [b] pos) (tOp r ta tb):=⟨jMV ho ha.h hb.h hm⟩
theorem jJ3 {rest:List Expr}(ha:JE X a ta)(hb:JE X (.BoolOp .And (b::rest) pos) tb):JE X (.BoolOp .And (a::b::rest) pos) (tAndV ta tb):=⟨jP0 ha.h hb.h⟩
theorem jIX {op}(ha:JE X a ta):JE X (.BoolOp op [a] pos) ta:=⟨jOW ha.h⟩
theorem jE3 {lo hi:Option Expr}{tl th:TO}{r:V->Option Int->Option Int->Hp->VK->Prop}(hr:SlR X r)(he:JE X e te)(hl:JO X lo tl)(hu:JO X hi th):JE X (.Subscript e (.Slice lo hi none p2) pos) (tSl r te tl th):=⟨jK8 hr he.h hl.h hu.h⟩
theorem jP {r:R2}(hr:IxR X r)(ha:JE X a ta)(hb:JE X b tb)(hs:jAU b):JE X (.Subscript a b pos) (tOp r ta tb):=⟨pe_ix hr ha.h hb.h hs⟩
theorem jAL {T}{r:List V->Hp->VK->Prop}(hc:yJ X (.type T) r)(hg:Gl1 X x)(hm:X.mg x=none)(hv:bootBuiltins x=some (.type T))(ha:JA X (e::es) t)(he:starEach (e::es) X.env=(false,eval e X.env)::starEach es X.env)(hn:x≠ "__name__" :=by decide)(hdb:(x==("__debug__" :Str))=false:=by decide)
  (hpl:(backTo pos (starEach es X.env)).any (·.1)=false:=by rfl):JE X (.Call (.Name x p) (e::es) [] pos) (tCB r t):=⟨jI6 hc hg.a hm hv ha.h hn hdb he hpl⟩
theorem jG {id}{r:List V->Hp->VK->Prop}(hc:yJ X (.builtin id) r)(hg:Gl1 X x)(hm:X.mg x=none)(hv:bootBuiltins x=some (.builtin id))(ha:JA X (e::es) t)(he:starEach (e::es) X.env=(false,eval e X.env)::starEach es X.env)(hn:x≠ "__name__" :=by decide)(hdb:(x==("__debug__" :Str))=false:=by decide)
  (hpl:(backTo pos (starEach es X.env)).any (·.1)=false:=by rfl):JE X (.Call (.Name x p) (e::es) [] pos) (tCB r t):=⟨jGF hc hg.a hm hv ha.h hn hdb he hpl⟩
theorem j7:JA X [] tNil:=⟨jEQ⟩
theorem j3 (ha:JE X e te)(hr:JA X es t)(hs:starEach (e::es) X.env=(false,eval e X.env)::starEach es X.env):JA X (e::es) (tCons te t):=⟨jCL ha.h hr.h hs⟩
theorem jN {op:CmpOp}{r:R2}(ho:OpR X (compareOp op) r)(ha:JE X a ta)(hb:JE X b tb)(hm:behindInMarks op b=false):JT X (.Compare a [op] [b] pos) (tTest (tOp r ta tb)):=⟨jFP ho ha.h hb.h hm⟩
theorem jEZ (h:JE X e te)(he:TvOk e):JT X e (tB te):=⟨jON h.h (he.h _)⟩
theorem jF0 {tA:TT}(ha:JT X a tA):JT X (.UnaryOp .Not a pos) (tNot tA):=⟨jOO ha.h⟩
theorem kU:JTs X [] yN:=⟨jMH⟩
theorem jIR {t:TT}(h:JT X e t):JTs X [e] t:=⟨jMG h.h⟩
theorem jH {i:Nat}(hN:X.N.Nodup)(hi:X.N[i]?=some x)(hx:Loc1 X x):JG X (.Name x pos) (jV i):=⟨jI4 hN hi hx.a hx.b⟩
theorem jAE {tg:Expr}(hg:Gl1 X "range")(hm:X.mg "range" =none)(ha:JA X [a] t)(hs:starEach [a] X.env=(false,eval a X.env)::starEach [] X.env):JI X tg (.Call (.Name "range" p) [a] [] pos) (iRng1 t):=⟨jEP hg.a hm ha.h hs⟩
theorem yD {tg:Expr}(hl:JE X a ta):JI X tg a (iList X.K ta):=⟨jMP hl.h⟩
theorem jF1 {tg:Expr}(hl:JE X a ta):JI X tg a (iTup X.K ta):=⟨jOT hl.h⟩
theorem jPJ {elts:List Expr}{x1:Nat}{tp:Pos}(hg:Gl1 X "zip")(hm:X.mg "zip" =none)(ha:JA X [a,b] t)(he:starEach [a,b] X.env=(false,eval a X.env)::starEach [b] X.env)(hv:bootBuiltins "zip" =some (.type "zip"):=by decide+kernel)
  (hpl:(backTo pos (starEach [b] X.env)).any (·.1)=false:=by rfl):JI X (.Tuple elts x1 tp) (.Call (.Name "zip" p) [a,b] [] pos) (iZip X.K t):=⟨jOS hg.a hm ha.h hv he hpl⟩
theorem jIS:JO X none jHR:=⟨jMN⟩
theorem jE1 (h:JE X e te):JO X (some e) (tPart te):=⟨jMM h.h⟩
theorem jL {i:Nat}{pos':Pos}(hN:X.N.Nodup)(hi:X.N[i]?=some x)(hx:Loc1 X x)(he:JE X e te)(hs:SwOk e (some (.Name x pos'))):JS X (.Assign [.Name x pos'] e pos) (tAsg te (jV i)):=⟨jD6 hN hi hx.a he.h (hs.h _ _) hx.b⟩
theorem kQ (he:JE X e te):JS X (.Return (some e) pos) (tRet te):=⟨jD7 he.h⟩
theorem jB8 (he:JE X e te)(hs:SwOk e none):JS X (.Expr e pos) (tDrop te):=⟨jMJ he.h (hs.h _ _)⟩
theorem yC:JSs X [] tNext:=⟨jFQ⟩
theorem jD {st:Stmt}{t:TS}(h1:JS X st t):JSs X [st] t:=⟨jB6 h1.h⟩
theorem jA {st:Stmt}{rest:List Stmt}{t u:TS}(h1:JS X st t)(h2:JSs X rest u):JSs X (st::rest) (tSeq t u):=⟨jA8 h1.h h2.h⟩
theorem yX {c:Expr}{a b:List Stmt}{tc:TT}{t u:TS}(hc:JT X c tc)(ha:JSs X a t)(hb:JSs X b u):JS X (.If c a b pos) (tIfS tc t u):=⟨ps_if hc.h ha.h hb.h⟩
theorem jB4 {tg iter:Expr}{body:List Stmt}{wi:TI}{g:TG}{tb:TS}(hp:PassesOwn (model X.prog X.w) X.A X.env X.xe)(hc:X.calm=true)(hi:JI X tg iter wi)(hg:JG X tg g)(hb:JSs X body tb)(hs:FoOk iter):JS X (.For tg iter body [] pos) (tFor wi g tb):=⟨jLH hp hc hi.h hg.h hb.h (hs.h _)⟩
theorem je_bm {T:String}{name:Str}{r}(pa:PlainAttrs T)(slot:Slot T name id)(hty:typeOf (.builtin id)=pure (.type "method_descriptor"))(hm:MtR X id r)(ho:JE X o to)(ha:JA X (e::es) t)
  (hs:starEach (e::es) X.env=(false,eval e X.env)::starEach es X.env)
  (hbase:attributeBase o name X.env (eval o X.env)=eval o X.env:=by rfl)
  (hfew:((backTo cpos (starEach (e::es) X.env)).all (fun x=>!x.1)&&(backToKw cpos (keywordEach [] X.env)).all (fun x=>x.1.isSome)
   &&decide ((e::es).length+([]:List Keyword).length+(if ([]:List Keyword).isEmpty then 0 else 1)<30))=true:=by rfl)
  (hline:(apos.endLine==cpos.line)=true:=by rfl) (hplain:(backTo cpos (starEach es X.env)).any (·.1)=false:=by rfl):
  JE X (.Call (.Attribute o name apos) (e::es) [] cpos) (tBM X.K T r to t):=⟨pe_bm pa slot hty hm ho.h ha.h hbase hfew hline hs hplain⟩
theorem yE {tg iter elt:Expr}{ifs:List Expr}{sc:Scope}{wi:TI}{g:TG}{tt:TT}{m:List (Option Nat)}{Nc:List Str}(hc:X.calm=true)(hi:JI X tg iter wi)(hkind:sc.kind= .function)(hcell:∀ y∈sc.names,y.2≠ .cell)(hnames:∀ y∈sc.names,y.2= .local->sc.names.lookup y.1=some .local)
  (hfree:∀ y∈sc.names,y.2= .free->X.env.scope.names.lookup y.1=some .cell\/X.env.scope.names.lookup y.1=some .free) (hm:jC0 X sc Nc m)
  (hg:∀ cl C fp s H,JG (blk X sc cl C Nc fp s H) tg g) (ht:∀ cl C fp s H,JTs (blk X sc cl C Nc fp s H) ifs tt) (he:∀ cl C fp s H,JE (blk X sc cl C Nc fp s H) elt te)
  (hs:FoOk iter):JE X (.ListComp elt [⟨tg,iter,ifs,0⟩] sc pos) (tComp m wi g tt te):=⟨jMU hc hi.h hkind hcell hnames hfree hm (fun cl C fp s H=>(hg cl C fp s H).h) (fun cl C fp s H=>(ht cl C fp s H).h) (fun cl C fp s H=>(he cl C fp s H).h) (hs.h _)⟩
end
section
variable {P:Program}{w:World}{K:W.Frag}{mg:Str->Option Value}{base:Heap}{N:List Str}{qual:Str}{sc:Scope}{f:Addr}{cdv:Value}{A:Around}{outer:List Env}{s:Shared}{H:Hp}{E:XK}{x:Str}
theorem gl_d (h:sc.names.lookup x=some .globalImplicit):Gl1 (cxOf CX0 P w K mg base N qual sc f cdv A outer s H E).nox x:=⟨h⟩
theorem gD (h:sc.names.lookup x=some .globalImplicit:=by decide+kernel):Gl1 (cxOf CX0 P w K mg base N qual sc f cdv A outer s H E).nox x:=gl_d h
theorem vis_l (h:sc.names.lookup x=some .local):Vis1 (cxOf CX0 P w K mg base N qual sc f cdv A outer s H E).nox x:=⟨.inl h⟩
theorem vL (h:sc.names.lookup x=some .local:=by decide+kernel):Vis1 (cxOf CX0 P w K mg base N qual sc f cdv A outer s H E).nox x:=vis_l h
theorem vis_c (h:sc.names.lookup x=some .cell):Vis1 (cxOf CX0 P w K mg base N qual sc f cdv A outer s H E).nox x:=⟨.inr (.inl h)⟩
theorem vC (h:sc.names.lookup x=some .cell:=by decide+kernel):Vis1 (cxOf CX0 P w K mg base N qual sc f cdv A outer s H E).nox x:=vis_c h
end
theorem jAD {env:Env}{x:Str}{k:NameKind}(hk:k≠ .free):∀ {l:List (Str×NameKind)},l.lookup x=some k->
  (l.map fun (n,k)=>if (k==NameKind.free&&env.scope.kind== .function&&env.kindOf n==some .cell) then (n,NameKind.cell) else (n,k)).lookup x=some k
 | [],h=>by cases h
 | (n,k')::r,h=>by
  have ih:= @jAD env x k hk r
  rw[be] at h
  rw[bq]
  dsimp only
  by_cases hb:(k'==NameKind.free&&env.scope.kind== .function&&env.kindOf n==some .cell)=true
  ·rw[ao hb,be]
   cases hx:x==n with
   | true=>
    rw[hx] at h
    have e:k'=k:=bg h
    simp only [cP] at hb
    exact absurd (e.symm.trans (eq_of_beq hb.1.1)) hk
   | false=>rw[hx] at h; exact ih h
  ·rw[ax hb,be]
   cases hx:x==n with
   | true=>rw[hx] at h; exact h
   | false=>rw[hx] at h; exact ih h
section
variable {X:Cx}{sc:Scope}{cl:List (Str×Addr)}{C:Addr}{Nc:List Str}{fp:List Addr}{s:Shared}{H:Hp}{x:Str}
theorem gl_b (h:sc.names.lookup x=some .globalImplicit):Gl1 (blk X sc cl C Nc fp s H) x:=⟨jAD (by decide) h⟩
theorem kJ (h:sc.names.lookup x=some .local):Vis1 (blk X sc cl C Nc fp s H) x:=⟨.inl (jAD (by decide) h)⟩
theorem kW (h:sc.names.lookup x=some .free):Vis1 (blk X sc cl C Nc fp s H) x:=⟨.inr (jB0 h)⟩
theorem yU (h:sc.names.lookup x=some .local):Loc1 (blk X sc cl C Nc fp s H) x:=⟨.inl (jAD (by decide) h), .inr (jAD (by decide) h)⟩
end
section
variable {P:Program}{w:World}{K:W.Frag}{mg:Str->Option Value}{base:Heap}{N:List Str}{qual:Str}{sc:Scope}{f:Addr}{cdv:Value}{A:Around}{outer:List Env}{s:Shared}{H:Hp}{E:XK}{x:Str}
theorem loc_l (h:sc.names.lookup x=some .local):Loc1 (cxOf CX0 P w K mg base N qual sc f cdv A outer s H E).nox x:=⟨.inl h, .inl rfl⟩
theorem lL (h:sc.names.lookup x=some .local:=by decide+kernel):Loc1 (cxOf CX0 P w K mg base N qual sc f cdv A outer s H E).nox x:=loc_l h
theorem loc_c (h:sc.names.lookup x=some .cell):Loc1 (cxOf CX0 P w K mg base N qual sc f cdv A outer s H E).nox x:=⟨.inr h, .inl rfl⟩
end
structure JW (X:Cx)(e:Expr)(t:TT):Prop where
 h:PW X e t
section
variable {X:Cx}{a b:Expr}{rest:List Expr}{pos:Pos}{tA tB':TT}
theorem jFV (ha:JT X a tA):JW X (.BoolOp .And [a] pos) tA:=⟨jMF ha.h⟩
theorem jEY (ha:JT X a tA):JW X (.BoolOp .Or [a] pos) tA:=⟨jOL ha.h⟩
theorem jIQ (ha:JT X a tA)(hb:JW X (.BoolOp .And (b::rest) pos) tB'):JW X (.BoolOp .And (a::b::rest) pos) (tAnd tA tB'):=⟨jOM ha.h hb.h⟩
theorem jw_or (ha:JT X a tA)(hb:JW X (.BoolOp .Or (b::rest) pos) tB'):JW X (.BoolOp .Or (a::b::rest) pos) (tOr tA tB'):=⟨pw_or ha.h hb.h⟩
theorem jt_w (h:JW X a tA):JT X a tA:=⟨h.h.pt⟩
theorem jCS:JGs X [] gNil:=⟨jMR⟩
structure AsOk (e:Expr):Prop where
 h:∀ es env,assignEach (e::es) env=(false,assign e env)::assignEach es env
theorem jAJ {x:Str} :AsOk (.Name x pos):=⟨fun _ _=>rfl⟩
theorem jA6 {e:Expr}{es:List Expr}{t:TG}{u:TGs}(h1:JG X e t)(h2:JGs X es u)(hs:AsOk e):JGs X (e::es) (yY t u):=⟨jK7 h1.h h2.h (by rw[hs.h]; rfl)⟩
theorem jIW {es:List Expr}{k:Nat}{t:TGs}{n:Nat}(hc:X.calm=true)(h:JGs X es t)(hn:(assignEach es X.env).length=n:=by rfl)(hst:(assignEach es X.env).findIdx? (·.1)=none:=by rfl):JG X (.Tuple es k pos) (gTup X.K n t):=⟨jOU hc h.h hn hst⟩
end
theorem jCT {X:Cx}{sc:Scope}{cl:List (Str×Addr)}{C:Addr}{Nc:List Str}{fp:List Addr}{s:Shared}{H:Hp}{x y:Str}{p1 p2 pos:Pos}{k:Nat}{i j:Nat}(hc:X.calm=true)(hN:Nc.Nodup)(hi:Nc[i]?=some x)(hj:Nc[j]?=some y)(hx:sc.names.lookup x=some .local)(hy:sc.names.lookup y=some .local):
  JG (blk X sc cl C Nc fp s H) (.Tuple [.Name x p1, .Name y p2] k pos) (gTup X.K 2 (yY (jV i) (yY (jV j) gNil))):=
 jIW (X:=blk X sc cl C Nc fp s H) hc (jA6 (jH hN hi (yU hx)) (jA6 (jH hN hj (yU hy)) jCS jAJ) jAJ)
section
variable {K:W.Frag}{m:List (Option Nat)}{g:TG}{tt:TT}{te:TE}{σ:St}{H1:Hp}{Q:VK}
theorem jL3 {t1 t2:Bool}{l1 l2:Addr}{xs ys:List V}(hn:xs.length<sizeLine)(Pv:Addr->Nat->St->Hp->List V->Prop)(h0:∀ D,H1 D=none->Pv D 0 (blkσ m σ) (upd H1 D (.lst [])) [])
  (hD:∀ D i σ' H' zs,H1 D=none->Pv D i σ' H' zs->Sq t1 K H' l1 xs/\Sq t2 K H' l2 ys/\H' D=some (.lst zs)/\zs.length<=i)
  (hs:∀ D i σ' H' zs x y T,H1 D=none->xs[i]?=some x->ys[i]?=some y->H' T=none->Pv D i σ' H' zs->g (.ref T) σ' (upd H' T (.tup [x,y])) fun σ2 H2=>tt σ2 H2 fun b H3=>if b=true then te σ2 H3 fun v H4=>H4 D=some (.lst zs)/\Pv D (i+1) σ2 (upd H4 D (.lst (zs++[v]))) (zs++[v]) else Pv D (i+1) σ2 H3 zs)
  (hd:∀ D σ' H' zs,H1 D=none->Pv D (min xs.length ys.length) σ' H' zs->Q (.ref D) H'):CompW m g tt te σ Q (Itz t1 t2 K l1 l2) H1:=by
 intro D hDn
 refine⟨fun i k σ' H' zs=>k=min xs.length ys.length - i/\i<=min xs.length ys.length/\Pv D i σ' H' zs,⟨_,rfl,bH _,h0 D hDn⟩,?_⟩
 rintro i k σ' H' zs ⟨rfl,hi,p⟩
 obtain⟨s1,s2,q1,q2⟩:=hD D i σ' H' zs hDn p
 refine⟨q1,by omega,?_⟩
 by_cases hlt:i<min xs.length ys.length
 ·have a1:i<xs.length:=by omega
  have a2:i<ys.length:=by omega
  refine .inr ⟨⟨xs,ys,xs[i],ys[i],s1,s2,by simp [a1],by simp [a2]⟩,Pv D (i+1),fun σ2 H2 zs z=>⟨min xs.length ys.length - (i+1),by omega,rfl,hlt,z⟩,fun v H'' y=>?_⟩
  obtain⟨T,x,y,e1,e2,e3,e4⟩:=y
  subst e2 e3
  obtain⟨z1,z2⟩:=e4 xs ys s1 s2
  exact hs D i σ' _ zs x y T hDn z1 z2 e1 p
 ·have e:i=min xs.length ys.length:=by omega
  subst e
  exact .inl ⟨⟨xs,ys,s1,s2,by omega⟩,hd D σ' H' zs hDn p⟩
end
section
variable {X:Cx}{sc:Scope}{cl:List (Str×Addr)}{C:Addr}{Nc:List Str}{fp:List Addr}{s:Shared}{H:Hp}
theorem jIB:OpR (blk X sc cl C Nc fp s H) (compareOp .In) (rIn X.K false):=jIA
theorem jJ4:IxR (blk X sc cl C Nc fp s H) (rIxL X.K):=jAG
theorem jA9:IxR (blk X sc cl C Nc fp s H) (rIxT X.K):=kG
theorem jHB:yJ (blk X sc cl C Nc fp s H) (.builtin "len") (fun xs H Q=>∃ p ys,xs=[.ref p]/\(SqL X.K H p ys\/SqT X.K H p ys)/\Q (.int ys.length) H):=jA0
end
def Ext (H H':Hp):Prop:=∀ b o,H b=some o->H' b=some o
theorem Ext.refl (H:Hp):Ext H H:=fun _ _ h=>h
theorem Ext.trans {H H1 H2:Hp}(a:Ext H H1)(b:Ext H1 H2):Ext H H2:=fun c o h=>b c o (a c o h)
theorem Ext.new {H H1:Hp}{l:Addr}(a:Ext H H1)(hl:H1 l=none)(o:HO):Ext H (upd H1 l o):=fun c u h=>by
 have:=a c u h
 rw[j8 (jC this hl)]
 exact this
theorem Ext.updNew {H H1:Hp}{l:Addr}(a:Ext H H1)(hl:H l=none)(o:HO):Ext H (upd H1 l o):=fun c u h=>by
 rw[j8 (jC h hl)]
 exact a c u h
def TupR (H:Hp)(xs:List V)(Q:VK):Prop:=∀ r H',H' r=some (.tup xs)->Ext H H'->Q (.ref r) H'
theorem TupR.new {H:Hp}{xs:List V}{Q:VK}(q:TupR H xs Q){p:Addr}(hp:H p=none):Q (.ref p) (upd H p (.tup xs)):=q p _ j6 ((Ext.refl H).new hp _)
theorem TupR.old {H:Hp}{xs:List V}{Q:VK}(q:TupR H xs Q){p:Addr}(hp:H p=some (.tup xs)):Q (.ref p) H:=q p H hp (Ext.refl H)
section
variable {X:Cx}
def rCatU:R2:=fun x y H Q=>∃ a b xs ys,x= .ref a/\y= .ref b/\H a=some (.tup xs)/\H b=some (.tup ys)/\xs.length+ys.length<=sizeLine/\TupR H (xs++ys) Q
theorem jMZ:OpR X (binaryOp .Add) rCatU:=by
 intro pins s σ H x y v u Q I rx ry h
 obtain⟨a,b,xs,ys,rfl,rfl,ha,hb,hz,q⟩:=h
 by_cases hx:xs=[]
 ·subst hx
  cases rx
  cases ry
  obtain⟨_,its,r1,n1,e1⟩:=I.hok a _ ha
  obtain⟨_,its2,r2,n2,e2⟩:=I.hok b _ hb
  cases r1
  exact concat_meets ⟨_,e1,rfl⟩ ⟨_,e2,rfl⟩ fS seq_tuple_add ed dY (dS _ _) (AutoSeq1.tuple___add___tuple_tuple_0 a _ n1 b its2.toArray n2 (by simp)) ⟨e1,e2, .ref b,H,I,rfl,q.old hb⟩
 ·refine jN0 pins s σ H _ _ v u Q I rx ry ⟨a,b,xs,ys,rfl,rfl,SqT.of ha,SqT.of hb,hx,hz,fun e=>?_,fun _ p hp=>q.new hp⟩
  subst e
  rw[aW] at q
  exact q.old ha
section
variable (l:Addr)(items:Array Value)(n:Nat)(x:Int)(u:Tok)(h1:¬ (decide (x< -(2 ^ 63)) || decide (x ≥ 2 ^ 63))=true)
include h1
end
theorem jBU {prog:Program}{w:World}{A:Around}{E:Value->Shared->Prop}{s:Shared}{t sl:Addr}{items:Array Value}{n:Nat}{vl vu:Value}{lo hi:Option Int}{Q:Value->Shared->Prop}
  (e0:s.heap.get? t=some { cls:= .type "tuple",data:= .seq items n}) (hs:s.heap.IsSliceOf sl vl vu .none) (pl:IsPart vl lo) (pu:IsPart vu hi)
  (hw:HT.sIx items.size 0 lo=0/\HT.sIx items.size items.size hi=items.size) (h:Q (.ref t) s):wpAny (model prog w) A (getItem (.ref t) (.ref sl)) Q E s:=by
 have ht:IsTup s.heap t items:=⟨_,e0,rfl,n,rfl⟩
 obtain⟨os,hos,hcs,hds⟩:=id hs
 have hTs:s.TypeIs (.ref sl) "slice" :=⟨os,hos,hcs⟩
 unfold getItem
 try with_reducible refine bE ?_
 first | refine aa (am ?_) | skip
 refine aa (wpAny_sequenceKey ht.typeIs (by decide) (aa (bJ (name:=Str.ofString "__getitem__") ht.typeIs bG
  (cc bG ht.typeIs entry_tuple_getitem (?_:wpAny (model prog w) _ (Builtin.Tuple.tupleItemsOf (.ref t) >>= _) _ _ s) (args_tuple_getitem _ _)))))
 refine aa (tupleItemsOf_ ht (aa (gk hTs ?_)))
 rw[ao (by decide)]
 refine aa (HT.sliceApplied_gen hs pl pu ?_)
 have yes:(((HT.sIx items.size 0 lo:Nat):Int)==0&&(1:Int)==1&&(HT.sIx items.size items.size hi - HT.sIx items.size 0 lo)==items.size)=true:=by
  rw[hw.1,hw.2]
  simp
 show wpAny (model prog w) _ (if (((HT.sIx items.size 0 lo:Nat):Int)==0&&(1:Int)==1&&(HT.sIx items.size items.size hi - HT.sIx items.size 0 lo)==items.size)=true then _ else _) _ _ s
 rw[ao yes]
 have ex:∀ {A:Around}{Q:Bool->Shared->Prop},Q true s->wpAny (model prog w) A (Builtin.Tuple.tupleIsExact (.ref t)) Q E s:=fun q=>by
  unfold Builtin.Tuple.tupleIsExact
  exact aa (gk ⟨_,e0,rfl⟩ (am q))
 refine aa (ex ?_)
 rw[ao rfl]
 exact aa (cS (am ⟨_,rfl,am h⟩))
def rSlU:V->Option Int->Option Int->Hp->VK->Prop:=fun x lo hi H Q=>∃ a xs,x= .ref a/\H a=some (.tup xs)/\TupR H (cutV xs lo hi) Q
theorem jM8:SlR X rSlU:=by
 intro pins s σ H x v vl vu lo hi sl Q I rx hs pl pu h
 obtain⟨a,xs,rfl,hx,q⟩:=h
 by_cases hw:HT.sIx xs.length 0 lo=0/\HT.sIx xs.length xs.length hi=xs.length
 ·cases rx
  obtain⟨_,its,r,n,e⟩:=I.hok a _ hx
  have hlen:its.toArray.size=xs.length:=by rw[aA]; exact r.length.symm
  refine⟨"tuple",_,bG.lookup,⟨_,e,rfl⟩,jBU e hs pl pu (by rw[hlen]; exact hw) ⟨.ref a,H,I,rfl,q.old ?_⟩⟩
  rw[hx]
  congr 2
  unfold cutV
  rw[hw.1,hw.2]
  simp
 ·exact jOF pins s σ H _ v vl vu lo hi sl Q I rx hs pl pu ⟨a,xs,rfl,SqT.of hx,hw,fun p hp=>q.new hp⟩
theorem Inv.big' {pins:List (Addr×Obj)}{σ:St}{H:Hp}{s:Shared}(I:Inv X pins σ H s):sysModules<s.heap.objs.size:=Nat.lt_trans (by decide) (I.mod.glob.keeps I.bk).lt
def jOA:TE:=fun _ H Q=>∀ p,H p=none->Q (.ref p) (upd H p (.dK []))
theorem jKO {pos:Pos} :JE X (.Dict [] [] pos) jOA:=⟨fun pins s σ H Q I h=>
 wpAny_Dict_empty ⟨.ref s.heap.objs.size,_,I.laid (a:=s.heap.objs.size) (o:= .dK []) (t':=s.toks) (fun _ _ q=>ae _ q) (az _)
  ⟨bH _,cy.mpr (cL (ba I.big')),[], .nil,Heap.DictOf.new s.heap⟩,rfl,h _ (I.hok.fresh (az _))⟩⟩
theorem jKP {a b c:Expr}{ta tb tc:TE}{pos:Pos}{op op':CmpOp}{r r':R2}(ho:OpR X (compareOp op) r)(ho':OpR X (compareOp op') r')(ha:JE X a ta)(hb:JE X b tb)(hc:JE X c tc)
  (hm:lastMarks [op,op'] [b,c]=false:=by with_unfolding_all rfl):JE X (.Compare a [op,op'] [b,c] pos) (jLE r r' ta tb tc):=⟨jKA ho ho' ha.h hb.h hc.h hm⟩
theorem jPH {tg e:Expr}{te:TE}{g:TG}{pos:Pos}(he:JE X e te)(hg:JG X tg g)(hs:swapsWithSole [tg] e pos.line X.env=pure false:=by rfl)(hw:swappedStores [tg] e X.env=pure none:=by rfl)
  (h1:(assignEach [tg] X.env).map (·.2)=[assign tg X.env]:=by rfl):JS X (.Assign [tg] e pos) (tAsg te g):=⟨jLI he.h hg.h hs hw h1⟩
end
section
variable {K:W.Frag}{m:List (Option Nat)}{g:TG}{tt:TT}{te:TE}{σ:St}{H1:Hp}{Q:VK}
theorem jE6 {a:Addr}{xs:List V}(hn:xs.length<sizeLine)(Pv:Addr->Nat->St->Hp->List V->Prop)(h0:∀ D,H1 D=none->Pv D 0 (blkσ m σ) (upd H1 D (.lst [])) [])
  (hD:∀ D i σ' H' zs,H1 D=none->Pv D i σ' H' zs->H' a=some (.tup xs)/\H' D=some (.lst zs)/\zs.length<=i)
  (hs:∀ D i σ' H' zs x,H1 D=none->xs[i]?=some x->Pv D i σ' H' zs->g x σ' H' fun σ2 H2=>tt σ2 H2 fun b H3=>if b=true then te σ2 H3 fun v H4=>H4 D=some (.lst zs)/\Pv D (i+1) σ2 (upd H4 D (.lst (zs++[v]))) (zs++[v]) else Pv D (i+1) σ2 H3 zs)
  (hd:∀ D σ' H' zs,H1 D=none->Pv D xs.length σ' H' zs->Q (.ref D) H'):CompW m g tt te σ Q (Itt K a) H1:=by
 intro D hDn
 refine⟨fun i k σ' H' zs=>k=xs.length - i/\i<=xs.length/\Pv D i σ' H' zs,⟨_,rfl,bH _,h0 D hDn⟩,?_⟩
 rintro i k σ' H' zs ⟨rfl,hi,p⟩
 obtain⟨s1,q1,q2⟩:=hD D i σ' H' zs hDn p
 refine⟨q1,by omega,?_⟩
 by_cases hlt:i<xs.length
 ·refine .inr ⟨⟨xs,xs[i],SqT.of s1,by simp [hlt]⟩,Pv D (i+1),fun σ2 H2 zs z=>⟨xs.length - (i+1),by omega,rfl,hlt,z⟩,fun v H'' y=>?_⟩
  obtain⟨e1,e2⟩:=y
  subst e1
  exact hs D i σ' _ zs v hDn (e2 xs (SqT.of s1)) p
 ·have e:i=xs.length:=by omega
  subst e
  exact .inl ⟨⟨xs,SqT.of s1,az _⟩,hd D σ' H' zs hDn p⟩
end
inductive Tr where
 | non
 | bl (b:Bool)
 | int (i:Int)
 | str (x:Str)
 | lst (ts:List Tr)
 | tup (ts:List Tr)
mutual
def TAt (H:Hp):Tr->V->Prop
 | .non,v=>v= .non
 | .bl b,v=>v= .bl b
 | .int i,v=>v= .int i
 | .str x,v=>v= .str x
 | .lst ts,v=>∃ a vs,v= .ref a/\H a=some (.lst vs)/\TsAt H ts vs
 | .tup ts,v=>∃ a vs,v= .ref a/\H a=some (.tup vs)/\TsAt H ts vs
def TsAt (H:Hp):List Tr->List V->Prop
 | [],vs=>vs=[]
 | t::ts,vs=>∃ v r,vs=v::r/\TAt H t v/\TsAt H ts r
end
mutual
def dep:Tr->Nat
 | .lst ts=>deps ts+1
 | .tup ts=>deps ts+1
 | _=>0
def deps:List Tr->Nat
 | []=>0
 | t::ts=>max (dep t) (deps ts)
end
mutual
def eqT:Tr->Tr->Bool
 | .non, .non=>true
 | .bl a, .bl b=>a==b
 | .bl a, .int b=>(if a then 1 else 0)==b
 | .int a, .bl b=>a==(if b then 1 else 0)
 | .int a, .int b=>a==b
 | .str a, .str b=>a==b
 | .lst a, .lst b=>eqTs a b
 | .tup a, .tup b=>eqTs a b
 | _,_=>false
def eqTs:List Tr->List Tr->Bool
 | [],[]=>true
 | a::as,b::bs=>eqT a b&&eqTs as bs
 | _,_=>false
end
mutual
theorem jKY:∀ t:Tr,eqT t t=true
 | .non=>by simp [eqT]
 | .bl b=>by simp [eqT]
 | .int i=>by simp [eqT]
 | .str x=>by simp [eqT]
 | .lst ts=>by rw[eqT]; exact jCX ts
 | .tup ts=>by rw[eqT]; exact jCX ts
theorem jCX:∀ ts:List Tr,eqTs ts ts=true
 | []=>by simp [eqTs]
 | t::ts=>by rw[eqTs,jKY t,jCX ts]; rfl
end
mutual
theorem TAt.ext {H H':Hp}(e:Ext H H'):∀ {t:Tr}{v:V},TAt H t v->TAt H' t v
 | .non,_,h=>h
 | .bl _,_,h=>h
 | .int _,_,h=>h
 | .str _,_,h=>h
 | .lst ts,_,⟨a,vs,q,h,r⟩=>⟨a,vs,q,e _ _ h,TsAt.ext e r⟩
 | .tup ts,_,⟨a,vs,q,h,r⟩=>⟨a,vs,q,e _ _ h,TsAt.ext e r⟩
theorem TsAt.ext {H H':Hp}(e:Ext H H'):∀ {ts:List Tr}{vs:List V},TsAt H ts vs->TsAt H' ts vs
 | [],_,h=>h
 | t::ts,_,⟨v,r,q,h,s⟩=>⟨v,r,q,TAt.ext e h,TsAt.ext e s⟩
end
mutual
theorem TAt.inj {H:Hp} :∀ {t u:Tr}{v:V},TAt H t v->TAt H u v->t=u
 | .non,u,_,h,h'=>by
  cases (show _=V.non from h)
  cases u with
  | non=>rfl
  | bl b=>cases (show V.non=_ from h')
  | int b=>cases (show V.non=_ from h')
  | str b=>cases (show V.non=_ from h')
  | lst ts=>obtain⟨_,_,q,_⟩:=h'; cases q
  | tup ts=>obtain⟨_,_,q,_⟩:=h'; cases q
 | .bl b,u,_,h,h'=>by
  cases (show _=V.bl b from h)
  cases u with
  | non=>cases (show V.bl b=_ from h')
  | bl b=>cases (show V.bl _=V.bl b from h'); rfl
  | int i=>cases (show V.bl b=V.int i from h')
  | str i=>cases (show V.bl b=V.str i from h')
  | lst ts=>obtain⟨_,_,q,_⟩:=h'; cases q
  | tup ts=>obtain⟨_,_,q,_⟩:=h'; cases q
 | .int b,u,_,h,h'=>by
  cases (show _=V.int b from h)
  cases u with
  | non=>cases (show V.int b=_ from h')
  | bl i=>cases (show V.int b=V.bl i from h')
  | int b=>cases (show V.int _=V.int b from h'); rfl
  | str i=>cases (show V.int b=V.str i from h')
  | lst ts=>obtain⟨_,_,q,_⟩:=h'; cases q
  | tup ts=>obtain⟨_,_,q,_⟩:=h'; cases q
 | .str b,u,_,h,h'=>by
  cases (show _=V.str b from h)
  cases u with
  | non=>cases (show V.str b=_ from h')
  | bl i=>cases (show V.str b=V.bl i from h')
  | int i=>cases (show V.str b=V.int i from h')
  | str b=>cases (show V.str _=V.str b from h'); rfl
  | lst ts=>obtain⟨_,_,q,_⟩:=h'; cases q
  | tup ts=>obtain⟨_,_,q,_⟩:=h'; cases q
 | .lst ts,u,_,⟨a,vs,q,h,r⟩,h'=>by
  subst q
  cases u with
  | non=>cases (show V.ref a=_ from h')
  | bl i=>cases (show V.ref a=V.bl i from h')
  | int i=>cases (show V.ref a=V.int i from h')
  | str i=>cases (show V.ref a=V.str i from h')
  | lst us=>
   obtain⟨a',vs',q',h2,r'⟩:=h'
   cases q'
   rw[h] at h2
   cases h2
   rw[TsAt.inj r r']
  | tup us=>
   obtain⟨a',vs',q',h2,r'⟩:=h'
   cases q'
   rw[h] at h2
   cases h2
 | .tup ts,u,_,⟨a,vs,q,h,r⟩,h'=>by
  subst q
  cases u with
  | non=>cases (show V.ref a=_ from h')
  | bl i=>cases (show V.ref a=V.bl i from h')
  | int i=>cases (show V.ref a=V.int i from h')
  | str i=>cases (show V.ref a=V.str i from h')
  | lst us=>
   obtain⟨a',vs',q',h2,r'⟩:=h'
   cases q'
   rw[h] at h2
   cases h2
  | tup us=>
   obtain⟨a',vs',q',h2,r'⟩:=h'
   cases q'
   rw[h] at h2
   cases h2
   rw[TsAt.inj r r']
theorem TsAt.inj {H:Hp} :∀ {ts us:List Tr}{vs:List V},TsAt H ts vs->TsAt H us vs->ts=us
 | [],us,_,h,h'=>by
  cases (show _=[] from h)
  cases us with
  | nil=>rfl
  | cons u us=>obtain⟨_,_,q,_⟩:=h'; cases q
 | t::ts,us,_,⟨v,r,q,h,s⟩,h'=>by
  subst q
  cases us with
  | nil=>cases (show v::r=[] from h')
  | cons u us=>
   obtain⟨v',r',q,h2,s2⟩:=h'
   cases q
   rw[TAt.inj h h2,TsAt.inj s s2]
end
section
variable {X:Cx}{pins:List (Addr×Obj)}{σ:St}{H:Hp}{s:Shared}
end
section
variable {X:Cx}{tg iter elt:Expr}{ifs:List Expr}{sc:Scope}{pos:Pos}{wi:TI}{g:TG}{tt:TT}{te:TE}{m:List (Option Nat)}{Nc:List Str}
end
section
variable {X:Cx}{sc:Scope}{cl:List (Str×Addr)}{C:Addr}{Nc:List Str}{fp:List Addr}{s:Shared}{H:Hp}{x:Str}
variable {sc2:Scope}{cl2:List (Str×Addr)}{C2:Addr}{Nc2:List Str}{fp2:List Addr}{s2:Shared}{H2:Hp}
end
section
variable {X:Cx}
theorem jAT:yJ X (.builtin "sorted") (fun xs H Q=>∃ (p:Addr) (ks:List Int),xs=[.ref p]/\SqL X.K H p (ks.map V.int)/\ks.length<64/\
  ∀ (l:Addr) (ns:List Int),H l=none->ns.Pairwise (· <= ·)->ns.Perm ks->Q (.ref l) (upd H l (.lst (ns.map V.int)))):=by
 intro pins s σ H xs us Q I r h
 obtain⟨p,ks,rfl,hp,hn,q⟩:=h
 obtain⟨u,rfl,rx⟩:=r.one
 cases rx
 obtain⟨its,r',pl,hz⟩:=I.list hp
 have hlen:=r'.length
 rw[ab] at hlen
 refine sorted_ints pl.isList (jBY r') (by omega) fun out ns' a1 a2 a3=>?_
 obtain⟨e,he⟩:=sortedAll_at s.heap its out
 have hz:(ns'.map V.int).length<=sizeLine:=by
  rw[ab,a2.length_eq,dG]
  omega
 have I2:Inv X pins σ (upd H (s.heap.objs.size+1) (.lst (ns'.map V.int))) { s with heap:=sortedAll s.heap its out} :=I.laid (t':=s.toks) (fun b o e=>sortedAll_old e) (gJ _) ⟨hz,out.toList,e,jAF a1,by rw[eL]; exact he⟩
 exact⟨.ref _,_,I2,rfl,q _ ns' (I.hok.fresh (gJ _)) a3 a2⟩
theorem jKL {c:Expr}{body:List Stmt}{tc:TT}{tb:TS}{pos:Pos}(hp:PassesOwn (model X.prog X.w) X.A X.env X.xe)(hc:JT X c tc)(hb:JSs X body tb):JS X (.While c body [] pos) (jLD tc tb):=⟨jK2 hp hc.h hb.h⟩
theorem jIH {op:CmpOp}{a b:Expr}{pos:Pos} :behindInMarks op (.Subscript a b pos)=false:=by cases op <;> rfl
end
section
variable {X:Cx}{sc:Scope}{cl:List (Str×Addr)}{C:Addr}{Nc:List Str}{fp:List Addr}{s:Shared}{H:Hp}
theorem jNJ {o e:Expr}{es:List Expr}{to:TE}{t:TA}{cpos apos:Pos}{id:String}{T:String}{name:Str}{r}(pa:PlainAttrs T)(slot:Slot T name id)(hty:typeOf (.builtin id)=pure (.type "method_descriptor"))(hm:MtR (blk X sc cl C Nc fp s H) id r)(ho:JE (blk X sc cl C Nc fp s H) o to)(ha:JA (blk X sc cl C Nc fp s H) (e::es) t)
  (hs:starEach (e::es) (blk X sc cl C Nc fp s H).env=(false,eval e (blk X sc cl C Nc fp s H).env)::starEach es (blk X sc cl C Nc fp s H).env)
  (hbase:attributeBase o name (blk X sc cl C Nc fp s H).env (eval o (blk X sc cl C Nc fp s H).env)=eval o (blk X sc cl C Nc fp s H).env:=by rfl)
  (hfew:((backTo cpos (starEach (e::es) (blk X sc cl C Nc fp s H).env)).all (fun x=>!x.1)&&(backToKw cpos (keywordEach [] (blk X sc cl C Nc fp s H).env)).all (fun x=>x.1.isSome)
   &&decide ((e::es).length+([]:List Keyword).length+(if ([]:List Keyword).isEmpty then 0 else 1)<30))=true:=by rfl)
  (hline:(apos.endLine==cpos.line)=true:=by rfl) (hplain:(backTo cpos (starEach es (blk X sc cl C Nc fp s H).env)).any (·.1)=false:=by rfl):
  JE (blk X sc cl C Nc fp s H) (.Call (.Attribute o name apos) (e::es) [] cpos) (tBM X.K T r to t):=je_bm pa slot hty hm ho ha hs hbase hfew hline hplain
end
end L2
end
section
namespace L2
open PySem
def LstR (H:Hp)(xs:List V)(Q:VK):Prop:=∀ r H',H' r=some (.lst xs)->Ext H H'->H r=none->Q (.ref r) H'
theorem LstR.new {H:Hp}{xs:List V}{Q:VK}(q:LstR H xs Q){p:Addr}(hp:H p=none):Q (.ref p) (upd H p (.lst xs)):=q p _ j6 ((Ext.refl H).new hp _) hp
def tTupU (t:TA):TE:=fun σ H Q=>t σ H fun xs H1=>xs.length<=sizeLine/\TupR H1 xs Q
def tLstU (t:TA):TE:=fun σ H Q=>t σ H fun xs H1=>xs.length<=sizeLine/\LstR H1 xs Q
section
variable {X:Cx}{es:List Expr}{t:TA}{pos:Pos}
theorem kR {x1}(h:JA X es t):JE X (.Tuple es x1 pos) (tTupU t):=⟨fun pins s σ H Q I hq=>by
 refine wpAny_Tuple_spliced (thn (h.h pos pins s σ H _ I hq) fun us s1 ⟨xs,H1,I1,r,z,q⟩=>⟨by rw[<- r.length]; exact z,?_⟩)
 have hf:H1 s1.heap.objs.size=none:=I1.hok.fresh (az _)
 exact⟨.ref s1.heap.objs.size,upd H1 s1.heap.objs.size (.tup xs),I1.laid (t':=s1.toks) (fun b u e=>ae _ e) (az _) ⟨z,us,r,TupO.new _ _⟩,rfl,q.new hf⟩⟩
theorem kZ (h:JA X es t):JE X (.List es pos) (tLstU t):=⟨fun pins s σ H Q I hq=>by
 refine wpAny_List_spliced (thn (h.h pos pins s σ H _ I hq) fun us s1 ⟨xs,H1,I1,r,z,q⟩=>⟨by rw[<- r.length]; exact z,?_⟩)
 have hf:H1 s1.heap.objs.size=none:=I1.hok.fresh (az _)
 exact⟨.ref s1.heap.objs.size,upd H1 s1.heap.objs.size (.lst xs),I1.laid (t':=s1.toks) (fun b u e=>ae _ e) (az _) ⟨z,us,0,r,aE _ rfl⟩,rfl,q.new hf⟩⟩
theorem jDS:OpR X (binaryOp .Add) (fun x y H Q=>∃ l b xs zs,x= .ref l/\y= .ref b/\H l=some (.lst xs)/\H b=some (.lst zs)/\xs.length+zs.length<=sizeLine/\LstR H (xs++zs) Q):=by
 intro pins s σ H x y v u Q I rx ry h
 obtain⟨l,b,xs,zs,rfl,rfl,h1,h2,h3,q⟩:=h
 exact jP1 pins s σ H _ _ v u Q I rx ry ⟨l,b,xs,zs,rfl,rfl,h1,h2,h3,fun p hp=>q.new hp⟩
end
end L2
end
section
namespace L2
open PySem PySem.Spec PyProof.Rows
section
variable {X:Cx}
theorem jG2 {prog:Program}{w:World}{A:Around}{E:Value->Shared->Prop}{s:Shared}{l:Addr}{vs:List Value}{n:Nat}{Q:List Value->Shared->Prop}(ho:s.heap.get? l=some { cls:= .type "tuple",data:= .seq vs.toArray n})
  (h:Q vs { s with heap:=(s.heap.push (seqObj "list" #[] 0)).update s.heap.objs.size (Obj.mapSeq (· ++vs.toArray))}) (hsz:vs.length<=sizeLine):
  wpAny (model prog w) A (collect (.ref l)) Q E s:=by
 unfold collect
 refine aa (wpAny_runValue (eW entry_proto_collect' ?_))
 show wpAny _ _ (do again (.builtin "list.__iadd__" ⟨[<- newList [], .ref l],[]⟩)) _ _ s
 refine aa (fJ (am ⟨Code.quiet_builtin _ (by decide+kernel),eW entry_list_iadd' ?_⟩))
 show wpAny _ _ (Builtin.List.listExtendWith (.ref s.heap.objs.size) (.ref l) (.ref s.heap.objs.size)) _ _ { s with heap:=s.heap.push (seqObj "list" #[] 0)}
 unfold Builtin.List.listExtendWith
 have ho':(s.heap.push (seqObj "list" #[] 0)).get? l=some { cls:= .type "tuple",data:= .seq vs.toArray n} :=ae _ ho
 refine aa (gk (T:= "tuple") ⟨_,ho',rfl⟩ ?_)
 have ht:(Value.type "tuple" ==Value.type "tuple")=true:=by rfl
 rw[ao (by rw[ht,ff])]
 refine aa (listItems_at ho' rfl ?_)
 refine aa (listItems_at (xs:=#[]) (n:=0) (aE _ rfl) rfl ?_)
 rw[ax (by simp)]
 refine aa (fK (xs:=#[]) (n:=0) (aE _ rfl) rfl ?_ (bH _) (by show (#[]++vs.toArray).size<=sizeLine+1; simp only [Array.size_append,aA,dB]; omega))
 refine am ?_
 show wpAny (model prog w) A (do
   let o <- load s.heap.objs.size
   match o.data with
   | .seq xs _=>pure xs.toList
   | _=>unsupported "internal:collect") Q E { s with heap:=(s.heap.push (seqObj "list" #[] 0)).update s.heap.objs.size (Obj.mapSeq (· ++vs.toArray))}
 refine aa (gQ (get?_update_seq (aE _ rfl) _) ?_)
 show wpAny _ _ (pure ((#[]:Array Value)++vs.toArray).toList) Q E _
 rw[show ((#[]:Array Value)++vs.toArray).toList=vs by simp]
 exact am h
theorem jGX {prog:Program}{w:World}{A:Around}{E:Value->Shared->Prop}{s:Shared}{l:Addr}{vs:List Value}{ns:List Int}{n:Nat}{Q:Value->Shared->Prop}(ho:s.heap.get? l=some { cls:= .type "tuple",data:= .seq vs.toArray n})(hI:IntsAre vs ns)(h64:vs.length<64)
  (h:∀ (out:Array Value) (ns':List Int),IntsAre out.toList ns'->ns'.Perm ns->ns'.Pairwise (· <= ·)->Q (.ref (s.heap.objs.size+1)) { s with heap:=sortedAll s.heap vs out}):
  wpAny (model prog w) A (call (.builtin "sorted") [.ref l]) Q E s:=by
 refine Calls.call_function_entry kind_sorted plain_sorted entry_sorted (args_sorted1 _) ?_
 unfold Builtin.«sorted»
 refine aa (m:=checkCount "sorted" 1 1 _) (am ?_)
 refine aa (jG2 ho ?_ (by rw[dG]; omega))
 refine aa (fJ ?_ (by rw[dG]; omega))
 have hsz:((s.heap.push (seqObj "list" #[] 0)).update s.heap.objs.size (Obj.mapSeq (· ++vs.toArray))).objs.size=s.heap.objs.size+1:=by
  rw[Heap.size_update,size_push']
 have hoL:(((s.heap.push (seqObj "list" #[] 0)).update s.heap.objs.size (Obj.mapSeq (· ++vs.toArray))).push (seqObj "list" vs.toArray 0)).get? (s.heap.objs.size+1)=some (seqObj "list" vs.toArray 0):=by
  rw[<- hsz]; exact aE _ rfl
 show wpAny _ _ _ _ _ { s with heap:=((s.heap.push (seqObj "list" #[] 0)).update s.heap.objs.size (Obj.mapSeq (· ++vs.toArray))).push (seqObj "list" vs.toArray 0)}
 rw[hsz]
 refine aa (bE (cc slot_list_sort ⟨_,hoL,rfl⟩ entry_list_sort (list_sort_tree hoL hI h64 fun out ns' a1 a2 a3=>⟨_,rfl,?_⟩) (args_list_sort _)))
 exact am ⟨_,rfl,h out ns' a1 a2 a3⟩
theorem jF7:yJ X (.builtin "sorted") (fun xs H Q=>∃ (p:Addr) (ks:List Int),xs=[.ref p]/\H p=some (.tup (ks.map V.int))/\ks.length<64/\
  ∀ (l:Addr) (ns:List Int),H l=none->ns.Pairwise (· <= ·)->ns.Perm ks->Q (.ref l) (upd H l (.lst (ns.map V.int)))):=by
 intro pins s σ H xs us Q I r h
 obtain⟨p,ks,rfl,hp,hn,q⟩:=h
 obtain⟨u,rfl,rx⟩:=r.one
 cases rx
 obtain⟨_,its,r',n,e0⟩:=I.hok p _ hp
 have hlen:=r'.length
 rw[ab] at hlen
 refine jGX e0 (jBY r') (by omega) fun out ns' a1 a2 a3=>?_
 obtain⟨e,he⟩:=sortedAll_at s.heap its out
 have hz:(ns'.map V.int).length<=sizeLine:=by
  rw[ab,a2.length_eq,dG]
  omega
 have I2:Inv X pins σ (upd H (s.heap.objs.size+1) (.lst (ns'.map V.int))) { s with heap:=sortedAll s.heap its out} :=I.laid (t':=s.toks) (fun b o e=>sortedAll_old e) (gJ _) ⟨hz,out.toList,e,jAF a1,by rw[eL]; exact he⟩
 exact⟨.ref _,_,I2,rfl,q _ ns' (I.hok.fresh (gJ _)) a3 a2⟩
end
theorem jCK (ns:List Int):∀ j,preSum (fun i=>ns.getD i 0) j=(ns.take j).sum
 | 0=>rfl
 | j+1=>by
  rw[preSum,jCK ns j,br,List.sum_append]
  congr 1
  rw[ar]
  cases ns[j]? with
  | none=>rfl
  | some z=>simp
section
variable {X:Cx}
def rSum (K:W.Frag):List V->Hp->VK->Prop:=fun xs H Q=>∃ (p:Addr) (ns:List Int),xs=[.ref p]/\(SqL K H p (ns.map V.int))/\Q (.int ns.sum) H
theorem jF6 (hc:X.calm=true):yJ X (.builtin "sum") (rSum X.K):=by
 intro pins s σ H xs us Q I r h
 obtain⟨p,ns,rfl,hq,q⟩:=h
 obtain⟨u,rfl,rx⟩:=r.one
 cases rx
 obtain⟨its,r',pl,hz⟩:=I.list hq
 have hlen:=r'.length
 rw[ab] at hlen
 refine call_sum_walkG (da pl.isList ?_)
 have hne:p≠s.heap.objs.size:=by
  obtain⟨o,ho,_⟩:=pl.isList
  exact ba (aB ho)
 refine⟨s.heap.objs.size,_,_,_,_,_,fun i=>ns.getD i 0,rfl,Walks.list (by simpa using I.ok.hd hc) _ p hne its.toArray,⟨⟨_,aE _ rfl,rfl,rfl⟩,pl.isList.push _⟩,(fun b hb=>?_),(fun i v hP=>?_),fun h' tk t' hk=>?_⟩
 ·show b<(s.heap.push _).objs.size
  rw[cr]
  obtain⟨o,ho,_⟩:=pl.isList
  have:=aB ho
  rcases aH.mp hb with rfl | hb
  ·exact Nat.lt_succ_self _
  ·rcases aH.mp hb with rfl | hb
   ·exact ek this
   ·cases hb
 ·have hi:its[i]?=some v:=by simpa using hP
  have hb:i<ns.length:=by
   rw[hlen]
   exact(af.mp hi).1
  obtain⟨u,hu,ru⟩:=r'.get (i:=i) (x:= .int (ns[i])) (by simp [hb])
  rw[hi] at hu
  cases hu
  obtain⟨t,rfl⟩:=ru
  exact⟨t,by simp [List.getD,hb]⟩
 ·have e:preSum (fun i=>ns.getD i 0) its.toArray.size=ns.sum:=by
   rw[jCK,aA,<- hlen,bK]
  rw[e]
  exact⟨.int _,H,I.kept (t':=tk) fun b o e=>hk b o (by
   intro z
   have z:b=s.heap.objs.size:=by simpa using z
   exact absurd (aB e) (by rw[z]; exact ck _)) (ae _ e),⟨_,rfl⟩,q⟩
variable {sc:Scope}{cl:List (Str×Addr)}{C:Addr}{Nc:List Str}{fp:List Addr}{s:Shared}{H:Hp}
end
theorem jHD (a b:Nat):Builtin.bitAnd (a:Int) (b:Int)=((a&&&b:Nat):Int):=by
 unfold Builtin.bitAnd
 rw[aK (gX a),aK (gX b)]
 rfl
theorem jBK (a b:Nat):Builtin.bitOr (a:Int) (b:Int)=((a|||b:Nat):Int):=by
 unfold Builtin.bitOr
 have ha:Builtin.bitNot (a:Int)= -(a:Int) - 1:=by unfold Builtin.bitNot; omega
 have hb:Builtin.bitNot (b:Int)= -(b:Int) - 1:=by unfold Builtin.bitNot; omega
 have na:¬ (0<=Builtin.bitNot (a:Int)):=by rw[ha]; omega
 have nb:¬ (0<=Builtin.bitNot (b:Int)):=by rw[hb]; omega
 unfold Builtin.bitAnd
 rw[aM na,aM nb]
 have ea:Builtin.bitNot (Builtin.bitNot (a:Int))=(a:Int):=by rw[ha]; unfold Builtin.bitNot; omega
 have eb:Builtin.bitNot (Builtin.bitNot (b:Int))=(b:Int):=by rw[hb]; unfold Builtin.bitNot; omega
 show Builtin.bitNot (Builtin.bitNot _)=_
 rw[ea,eb]
 unfold Builtin.bitNot
 simp
 omega
def maskN (ts:List Int):Nat:=(ts.map fun t=>2 ^ t.toNat).sum
theorem jGM:∀ (ts:List Int) (lo:Nat),ts.Pairwise (· < ·)->(∀ t∈ts,(lo:Int)<=t)->maskN ts % 2 ^ lo=0
 | [],_,_,_=>by simp [maskN]
 | t::r,lo,hp,hl=>by
  have ih:=jGM r lo (cb.mp hp).2 fun x hx=>hl x (ay _ hx)
  have h0:=hl t (aG ..)
  have e:maskN (t::r)=2 ^ t.toNat+maskN r:=by simp [maskN]
  have d:2 ^ t.toNat % 2 ^ lo=0:=Nat.mod_eq_zero_of_dvd (Nat.pow_dvd_pow 2 (by omega))
  rw[e,Nat.add_mod,ih,d]
  simp
theorem jBH:∀ (ts:List Int) (n:Nat),ts.Pairwise (· < ·)->(∀ t∈ts,0<=t)->(maskN ts).testBit n=decide ((n:Int)∈ts)
 | [],n,_,_=>by simp [maskN]
 | t::r,n,hp,h0=>by
  obtain⟨h1,h2⟩:=cb.mp hp
  have ih:=jBH r n h2 fun x hx=>h0 x (ay _ hx)
  have ht:=h0 t (aG ..)
  obtain⟨k,rfl⟩:∃ k:Nat,t=(k:Int):=⟨t.toNat,by omega⟩
  have e:maskN ((k:Int)::r)=2 ^ k+maskN r:=by simp [maskN]
  have m0:maskN r % 2 ^ (k+1)=0:=jGM r (k+1) h2 fun x hx=>by have:=h1 x hx; omega
  obtain⟨c,hc⟩:∃ c,maskN r=2 ^ (k+1)*c:=(Nat.dvd_of_mod_eq_zero m0)
  have hor:2 ^ k+maskN r=maskN r|||2 ^ k:=by
   rw[hc,Nat.mul_comm,<- Nat.shiftLeft_eq,Nat.shiftLeft_add_eq_or_of_lt (b:=2 ^ k) (i:=k+1) (gK (by decide) (by omega)) c |>.symm,g9]
  rw[e,hor,b0,ih,dm]
  by_cases hk:k=n
  ·subst hk
   simp
  ·have:¬ ((n:Int)=(k:Int)):=by omega
   simp [hk,this]
end L2
end
section
namespace L2
open PySem
section
variable {X:Cx}{tg iter elt:Expr}{ifs:List Expr}{sc:Scope}{pos:Pos}{wi:TI}{g:TG}{tt:TT}{te:TE}{m:List (Option Nat)}{Nc:List Str}
theorem jL4 (hc:X.calm=true)(hi:PI X tg iter wi)(hkind:sc.kind= .function)(hcell:∀ y∈sc.names,y.2≠ .cell)(hnames:∀ y∈sc.names,y.2= .local->sc.names.lookup y.1=some .local)
  (hfree:∀ y∈sc.names,y.2= .free->X.env.scope.names.lookup y.1=some .cell\/X.env.scope.names.lookup y.1=some .free) (hm:jC0 X sc Nc m)
  (hg:∀ cl C fp s H,PG (blk X sc cl C Nc fp s H) tg g) (ht:∀ cl C fp s H,PTs (blk X sc cl C Nc fp s H) ifs tt) (he:∀ cl C fp s H,PE (blk X sc cl C Nc fp s H) elt te)
  (hs:∀ x,foldedSetIterable iter X.env x=pure x) {fpos:Pos}{use:Option (Value->Sem Unit)}{R:Value->Shared->Prop}{pins:List (Addr×Obj)}{s:Shared}{σ:St}{H:Hp}{Q:VK}(I:Inv X pins σ H s) (h:tComp m wi g tt te σ H Q)
  (fin:∀ (D C:Addr) (H5:Hp) (z1:Shared) (r:Flow),(∃ mm,z1.heap.Ns C mm)->FpOk X pins H5 C->(∀ h',Heap.SameBut C z1.heap h'->Inv X pins σ H5 { z1 with heap:=h'})->Q (.ref D) H5->compPost (model X.prog X.w) X.A X.xe use R (.ref D) C (.ok r) z1):
  wpAny (model X.prog X.w) X.A (comprehension (.ListComp elt [⟨tg,iter,ifs,0⟩] sc pos) sc X.env fpos (newList []) false (eval iter X.env) use) R X.xe s:=
 jGT (tf:=fun _=>te) hc hi hkind hcell hnames hfree hm hg ht (fun cl C fp s H _ _ _ _=>he cl C fp s H) hs I h fin
theorem jMI {i:Nat}{x:Str}{pos' spos:Pos}(hN:X.N.Nodup)(hi':X.N[i]?=some x)(hx:Loc X.env.scope x)(hf:X.fn x=true\/X.env.scope.names.lookup x=some .local)(hsw:swapsWith (.ListComp elt [⟨tg,iter,ifs,0⟩] sc pos) (some (.Name x pos')) spos.line X.env=pure true)
  (hc:X.calm=true) (hi:PI X tg iter wi) (hkind:sc.kind= .function) (hcell:∀ y∈sc.names,y.2≠ .cell) (hnames:∀ y∈sc.names,y.2= .local->sc.names.lookup y.1=some .local)
  (hfree:∀ y∈sc.names,y.2= .free->X.env.scope.names.lookup y.1=some .cell\/X.env.scope.names.lookup y.1=some .free) (hm:jC0 X sc Nc m)
  (hg:∀ cl C fp s H,PG (blk X sc cl C Nc fp s H) tg g) (ht:∀ cl C fp s H,PTs (blk X sc cl C Nc fp s H) ifs tt) (he:∀ cl C fp s H,PE (blk X sc cl C Nc fp s H) elt te)
  (hs:∀ x,foldedSetIterable iter X.env x=pure x):PS X (.Assign [.Name x pos'] (.ListComp elt [⟨tg,iter,ifs,0⟩] sc pos) spos) (tAsg (tComp m wi g tt te) (jV i)):=by
 intro pins s σ H D I h
 rw[exec_Assign_Name_used _ _ _ _ hsw]
 refine aa (df (aa ?_))
 show wpAny _ _ (do let _ <- comprehension (.ListComp elt [⟨tg,iter,ifs,0⟩] sc pos) sc X.env _ (newList []) false (eval iter X.env) (some (assign (.Name x pos') X.env))) _ _ _
 refine aa (bS (jL4 (R:=fun _ s'=>SP X pins D .next s') hc hi hkind hcell hnames hfree hm hg ht he hs ⟨I.ok,I.os,I.bare,I.base,I.loc,I.cell,I.free,I.freeC,I.pin,I.hok,I.len⟩ h ?_) (fun _ s' hq=>am (am hq)) fun _ _ e=>e)
 intro D' C H5 z1 r ⟨mm,hn⟩ fC sb q
 have I1:=sb _ (Heap.SameBut.refl C z1.heap)
 refine wpAny_assign_Name (jEG (v:= .ref D') I1 hN hi' hx rfl (fun s2 I2 ⟨a,sa,ha⟩=>?_) hf)
 obtain⟨f0,f1,f2,f3,f4,f5⟩:=fC
 have hCa:C≠a:=by
  rcases ha with rfl | ha
  ·exact f1
  ·exact(f4 _ _ ha).symm
 refine⟨mm,hn.sameBut sa hCa,fun h' sb2=>⟨_,H5,?_,q⟩⟩
 refine I2.call' (s':= { s2 with heap:=h'}) (ch:=[C]) rfl ?_ (I2.hok.sameBut sb2 f0) I2.bare (fun b hb=>?_)
 ·have ne:∀ {b:Addr},b∉ [C]->b≠C:=fun h e=>h (by rw[e]; exact ah.mpr rfl)
  refine⟨fun b o e n hf hx=>(sb2.2 b (ne hx)).trans e,fun b o e n hf hx=>⟨o.slots,(sb2.2 b (ne hx)).trans e⟩,fun b o e n hx=>n,fun b o e hx=>⟨o,(sb2.2 b (ne hx)).trans e⟩,fun b xs e=>e,fun b o u e=>e,fun b ps e=>⟨#[],by rw[Array.append_empty]; exact e⟩⟩
 ·cases ah.mp hb
  exact⟨f3,f1,f4,f5⟩
end
section
variable {X:Cx}
structure SwC (e:Expr)(x:Str)(pos' spos:Pos)(X:Cx):Prop where
 h:swapsWith e (some (.Name x pos')) spos.line X.env=pure true
theorem jE0 {i:Nat}{x:Str}{pos' spos pos:Pos}{tg iter elt:Expr}{ifs:List Expr}{sc:Scope}{wi:TI}{g:TG}{tt:TT}{te:TE}{m:List (Option Nat)}{Nc:List Str}(hN:X.N.Nodup)(hi':X.N[i]?=some x)(hx:Loc1 X x)(hsw:SwC (.ListComp elt [⟨tg,iter,ifs,0⟩] sc pos) x pos' spos X)
  (hc:X.calm=true) (hi:JI X tg iter wi) (hkind:sc.kind= .function) (hcell:∀ y∈sc.names,y.2≠ .cell) (hnames:∀ y∈sc.names,y.2= .local->sc.names.lookup y.1=some .local)
  (hfree:∀ y∈sc.names,y.2= .free->X.env.scope.names.lookup y.1=some .cell\/X.env.scope.names.lookup y.1=some .free) (hm:jC0 X sc Nc m)
  (hg:∀ cl C fp s H,JG (blk X sc cl C Nc fp s H) tg g) (ht:∀ cl C fp s H,JTs (blk X sc cl C Nc fp s H) ifs tt) (he:∀ cl C fp s H,JE (blk X sc cl C Nc fp s H) elt te)
  (hs:FoOk iter):JS X (.Assign [.Name x pos'] (.ListComp elt [⟨tg,iter,ifs,0⟩] sc pos) spos) (tAsg (tComp m wi g tt te) (jV i)):=
 ⟨jMI hN hi' hx.a hx.b hsw.h hc hi.h hkind hcell hnames hfree hm (fun cl C fp s H=>(hg cl C fp s H).h) (fun cl C fp s H=>(ht cl C fp s H).h) (fun cl C fp s H=>(he cl C fp s H).h) (hs.h _)⟩
end
end L2
end
section
namespace L2
open PySem PySem.Spec PyProof.Rows
section
variable {prog:Program}{w:World}{A:Around}{E:Value->Shared->Prop}
theorem jGS {it l:Addr}{xs:Array Value}(ne:l≠it):∀ (n i:Nat) (s:Shared) (Q:List Value->Shared->Prop),s.heap.IsListIter it l i->s.heap.IsList l xs->i+n<=xs.size->
  (∀ h',h'.IsListIter it l (i+n)->Heap.SameBut it s.heap h'->Q ((xs.toList.drop i).take n) { s with heap:=h'})->wpAny (model prog w) A (draw (.ref it) n) Q E s
 | 0,i,s,Q,g,_,_,k=>by
  refine(?_:wpAny _ _ (pure []) Q E s)
  exact am (by simpa using k s.heap g (Heap.SameBut.refl ..))
 | n+1,i,s,Q,g,o,le,k=>by
  have lt:i<xs.size:=by omega
  refine(?_:wpAny _ _ (pyNext (.ref it) >>= _) Q E s)
  refine aa (wpAny_pyNext_list_item g o (x:=xs[i]) (by simp [lt]) fun p1 g1 q1=>?_)
  refine aa (bE (jGS ne n (i+1) _ _ g1 (o.extBut q1.extBut ne) (by omega) fun p2 g2 q2=>am ?_))
  have hd:xs.toList.drop i=xs[i]::xs.toList.drop (i+1):=by simp [fw,lt]
  have:=k p2 (by rw[show i+(n+1)=i+1+n by omega]; exact g2) (q1.trans q2)
  rw[hd,List.take_succ_cons] at this
  exact this
theorem jCE {s:Shared}{l:Addr}{xs:Array Value}{Q:List Value->Shared->Prop}(hh:A.handled=none)(o:s.heap.IsList l xs)
  (k:∀ h',Heap.ExtBut s.heap.objs.size s.heap h'->Q xs.toList { s with heap:=h'}):wpAny (model prog w) A (unpackItems (.ref l) xs.size none) Q E s:=by
 have ne:l≠s.heap.objs.size:=by obtain⟨u,hu,_⟩:=o; exact ba (aB hu)
 unfold unpackItems
 refine aa (by
  unfold notIterableAtAll
  refine aa (wpAny_specialOf o.typeIs slot_list_iter.lookup (am ?_))
  simp only [gY,fX]
  refine aa (bE (da o ?_))
  refine aa (bE (jGS ne xs.size 0 _ _ ⟨_,aE _ rfl,rfl,rfl⟩ (o.push _) (by omega) fun p1 g1 q1=>?_))
  have hall:List.take xs.size (List.drop 0 xs.toList)=xs.toList:=by rw[dH]; exact bC (by simp)
  rw[hall,ax (by simp)]
  have o1:p1.IsList l xs:=(o.push _).extBut q1.extBut ne
  refine aa (bE (wpAny_pyNext_list_end hh g1 o1 (by simp) fun p2 e2=>?_))
  simp only [Option.isSome_none,gY,fX]
  exact am (k p2 fun b u hb e=>e2 b u hb (q1.extBut b u hb (ae _ e))))
end
section
variable {X:Cx}
def gLst (K:W.Frag)(n:Nat)(t:TGs):TG:=fun v σ H Q=>∃ a xs,v= .ref a/\SqL K H a xs/\xs.length=n/\t xs σ H Q
theorem jLJ {es:List Expr}{k:Nat}{t:TGs}{n:Nat}{pos:Pos}(hc:X.calm=true)(h:PGs X es t)
  (hn:(assignEach es X.env).length=n:=by rfl) (hst:(assignEach es X.env).findIdx? (·.1)=none:=by rfl):PG X (.Tuple es k pos) (gLst X.K n t):=by
 intro pins s σ H v u Q I r hw
 obtain⟨a,xs,e1,hq,hl,hw⟩:=hw
 subst e1
 cases r
 obtain⟨its,rv,ht,hz⟩:=I.list hq
 rw[assign_Tuple]
 refine aa (df ?_)
 unfold unpack
 rw[hn,hst,show n=its.toArray.size by rw[aA,<- rv.length,hl]]
 refine aa (bE (jCE (I.ok.hd hc) ht.isList fun h' hx=>?_))
 have I1:Inv X pins σ H { s with heap:=h'} :=I.kept (t':=s.toks) fun b o e=>hx b o (ba (aB e)) e
 exact h pins _ σ H xs _ Q I1 (by simpa using rv) hw
end
theorem jIU {P:Program}{w:World}{K:W.Frag}{mg:Str->Option Value}{base:Heap}{N:List Str}{qual:Str}{sc:Scope}{f:Addr}{cdv:Value}{A:Around}{outer:List Env}{s:Shared}{H:Hp}{E:XK}{x y:Str}{p1 p2 pos:Pos}{k i j:Nat}(hN:N.Nodup)(hi:N[i]?=some x)(hj:N[j]?=some y)(hx:sc.names.lookup x=some .local)(hy:sc.names.lookup y=some .local):
  JG (cxOf CX0 P w K mg base N qual sc f cdv A outer s H E).nox (.Tuple [.Name x p1, .Name y p2] k pos) (gLst K 2 (yY (jV i) (yY (jV j) gNil))):=
 ⟨jLJ (X:=(cxOf CX0 P w K mg base N qual sc f cdv A outer s H E).nox) rfl (jA6 (jH hN hi (loc_l hx)) (jA6 (jH hN hj (loc_l hy)) jCS jAJ) jAJ).h⟩
section
variable {prog:Program}{w:World}{A:Around}{E:Value->Shared->Prop}{s:Shared}
end
end L2
namespace L2
open PySem PySem.Spec PyProof.Rows
section
variable {X:Cx}{x:Str}{C:Addr}{W:Hp->Prop}{e:Expr}{t:TA}{np cpos pos:Pos}
end
end L2
namespace L2
open PySem PySem.Spec PyProof.Rows
end L2
namespace L2
open PySem PySem.Spec PyProof.Rows
section
variable {M:Model}{A:Around}{E:Value->Shared->Prop}{h:Heap}{g:Array GenState}{d:Drawn}{tk:Nat}{os:OsState}
end
end L2
namespace L2
open PySem PySem.Spec PyProof.Rows
end L2
namespace L2
open PySem PySem.Spec PyProof.Rows
section
variable {X:Cx}{pins:List (Addr×Obj)}{σ:List (Option V)}{H H':Hp}{s:Shared}{h':Heap}
end
end L2
namespace L2
open PySem PySem.Spec PyProof.Rows
section
variable {X:Cx}{pins:List (Addr×Obj)}{σ:St}{H H':Hp}{s:Shared}{h2:Heap}{x C T T':Addr}
end
section
variable {X:Cx}{pins:List (Addr×Obj)}{σ:St}{H:Hp}{s:Shared}{x:Addr}
end
section
variable {M:Model}{A:Around}{E:Value->Shared->Prop}{s:Shared}{x C T:Addr}{Q:Unit->Shared->Prop}
end
section
variable {X:Cx}{y n g c:Str}{i j k:Nat}{f B C:Addr}{fd:FuncData}{ps:List Str}{sp:Sp}{e r:Expr}{es:List Expr}{t:TA}{te:Addr->TE}{yp gp cp ap np rp hp tp:Pos}
end
section
variable {prog:Program}{w:World}{A:Around}{E:Value->Shared->Prop}{s:Shared}
end
section
variable {X:Cx}{tg:Expr}
end
section
variable {X:Cx}{tg iter elt:Expr}{ifs:List Expr}{sc:Scope}{pos:Pos}{wi:TI}{g:TG}{tt:TT}{te:TE}{m:List (Option Nat)}{Nc:List Str}
end
section
variable {X:Cx}{k:Nat}{f a:Addr}{fd:FuncData}{ps:List Str}{sp:Addr->Sp}{x:Str}{p pos:Pos}{e:Expr}{es:List Expr}{t:TA}
end
section
variable {CX:CXT}{P:Program}{w:World}{K:W.Frag}{mg:Str->Option Value}{base:Heap}{N:List Str}{qual:Str}{sc:Scope}{f:Addr}{cdv:Value}{A:Around}{outer:List Env}{s:Shared}{H:Hp}{E:XK}{x:Str}
end
section
variable {X:Cx}{e:Expr}{es:List Expr}{t:TA}{a:Addr}{p pos:Pos}
end
section
variable {X:Cx}{y n g c:Str}{i j k:Nat}{f B C:Addr}{fd:FuncData}{ps:List Str}{sp:Sp}{e:Expr}{es:List Expr}{t:TA}{te t1:TEX}{yp gp cp ap np rp hp tp pos:Pos}
end
def nfP (x q:Str)(args:Arguments)(body:List Stmt)(scope:Scope)(cl:List (Str×Addr))(a c:Addr):Heap->Prop:=fun h=>∃ doc pm ctv,h.get? a=some (fnMade x q args body scope cl doc pm c ctv)
def ncP (q:Str)(c:Addr):Heap->Prop:=fun h=>h.CodeRec (.ref c) q
noncomputable abbrev onePs (pos:Pos)(c:Addr):Array Value:=#[rawInt pos.line,rawInt pos.col, .ref c]
def TabOk (H:Hp)(T:Addr)(pos:Pos)(q:Str):Prop:=H T=some (.tbl #[])\/∃ c,H T=some (.tbl (onePs pos c))/\H c=some (.ext (ncP q c))
def ExtT (T:Addr)(H H':Hp):Prop:=∀ b o,H b=some o->b≠T->H' b=some o
def BltAt (base:Heap)(mg:Str->Option Value):Prop:=∃ bm o,mg "__builtins__" =some (.ref bm)/\bm≠builtinsNs/\bm≠mainGlobals/\base.get? bm=some o/\o.cls= .type "module" /\o.dict=some builtinsNs/\o.data= .plain
theorem nfP.stay {x q:Str}{args:Arguments}{body:List Stmt}{scope:Scope}{cl:List (Str×Addr)}{a c:Addr}(h1 h2:Heap)(p:nfP x q args body scope cl a c h1)(k:∀ o,h1.get? a=some o->h2.get? a=some o):nfP x q args body scope cl a c h2:=by
 obtain⟨d,m,t,e⟩:=p
 exact⟨d,m,t,k _ e⟩
theorem ncP.stay {q:Str}{c:Addr}(h1 h2:Heap)(p:ncP q c h1)(k:∀ o,h1.get? c=some o->h2.get? c=some o):ncP q c h2:=by
 obtain⟨c',o,vs,t,e,g,r⟩:=p
 cases e
 exact⟨c,o,vs,t,rfl,k _ g,r⟩
theorem ncP.is {q:Str}{c:Addr}{h:Heap}(p:ncP q c h):∃ o,h.get? c=some o:=by
 obtain⟨c',o,vs,t,e,g,r⟩:=p
 cases e
 exact⟨o,g⟩
def tDef (x q:Str)(args:Arguments)(body:List Stmt)(scope:Scope)(cl:List (Str×Addr))(T:Addr)(pos:Pos)(j:Nat):TS:=fun D σ H=>TabOk H T pos q/\∀ a c H',H' a=some (.ext (nfP x q args body scope cl a c))->H' c=some (.ext (ncP q c))->H' T=some (.tbl (onePs pos c))->ExtT T H H'->H a=none->D.nx (σ.set j (some (.ref a))) H'
section
variable {X:Cx}{pins:List (Addr×Obj)}{σ:St}{H:Hp}{s:Shared}
theorem Inv.laidX {h':Heap}{t':Nat}{φ:Heap->Prop}{a:Addr}(I:Inv X pins σ H s)(k:∀ b u,s.heap.get? b=some u->h'.get? b=some u)(hp:s.heap.objs.size<=a)(p:φ h')(ho:∃ o,h'.get? a=some o)(st:∀ h1 h2:Heap,φ h1->(∀ o,h1.get? a=some o->h2.get? a=some o)->φ h2):Inv X pins σ (upd H a (.ext φ)) { s with heap:=h',toks:=t'} :=
 I.laid k hp ⟨p,ho,st⟩
theorem Inv.grown {h':Heap}{t':Nat}{T c:Addr}{ps more:Array Value}{φ:Heap->Prop}(I:Inv X pins σ H s)(hT:H T=some (.tbl ps))(k:Heap.ExtBut T s.heap h')(e:h'.get? T=some { cls:= .none,data:= .fields (ps++more)})
  (hc:s.heap.objs.size<=c) (p:φ h') (ho:∃ o,h'.get? c=some o) (st:∀ h1 h2:Heap,φ h1->(∀ o,h1.get? c=some o->h2.get? c=some o)->φ h2):Inv X pins σ (upd (upd H T (.tbl (ps++more))) c (.ext φ)) { s with heap:=h',toks:=t'} :=by
 have hcn:H c=none:=I.hok.fresh hc
 have nT:∀ {b:Addr},H b=none->b≠T:=fun n z=>by rw[z,hT] at n; cases n
 have cT:T≠c:=fun z=>by rw[z,hcn] at hT; cases hT
 have nc:∀ {b:Addr}{o:Obj},s.heap.get? b=some o->b≠c:=fun q z=>absurd (aB q) (by rw[z]; exact Nat.not_lt.mpr hc)
 have mc:∀ {b:Addr}{o:HO},H b=some o->b≠c:=fun q=>jC q hcn
 refine I.un ⟨fun b o q n _ _=>k b o (nT n) q,fun b o q n _ _=>⟨o.slots,k b o (nT n) q⟩,fun b o q n _=>by rw[j8 (nc q),j8 (nT n)]; exact n,fun b o q _=>?_,fun b xs q=>?_,fun b o u q=>?_,fun b qs q=>?_⟩ fun b o q=>?_
 ·by_cases hb:b=T
  ·rw[hb]; exact⟨_,e⟩
  ·exact⟨o,k b o hb q⟩
 ·rw[j8 (mc q),j8 (fun z=>by rw[z,hT] at q; cases q)]; exact q
 ·rw[j8 (mc q),j8 (fun z=>by rw[z,hT] at q; cases q)]; exact q
 ·by_cases hb:b=T
  ·subst hb
   rw[hT] at q
   cases q
   exact⟨more,by rw[j8 cT,j6]⟩
  ·exact⟨#[],by rw[j8 (mc q),j8 hb,q]; simp⟩
 ·by_cases hb1:b=c
  ·subst hb1
   rw[j6] at q
   cases q
   exact⟨p,ho,st⟩
  rw[j8 hb1] at q
  by_cases hb:b=T
  ·subst hb
   rw[j6] at q
   cases q
   exact e
  ·rw[j8 hb] at q
   refine(I.hok b o q).stay (fun d u hd z=>k d u ?_ z) (fun d z=>?_) fun d xs z=>?_
   ·rcases hd with rfl | hd
    ·exact hb
    ·exact fun y=>by rw[y,hT] at hd; cases hd
   ·rw[j8 (mc z),j8 (fun y=>by rw[y,hT] at z; cases z)]; exact z
   ·rw[j8 (mc z),j8 (fun y=>by rw[y,hT] at z; cases z)]; exact z
theorem jOQ {x:Str}{args:Arguments}{body:List Stmt}{scope:Scope}{pos:Pos}{c0 T:Addr}{j:Nat}(hN:X.N.Nodup)(hj:X.N[j]?=some x)(lx:Loc X.env.scope x)(hcode:X.env.code= .ref c0)(CH:PySem.W.CodeHd X.base c0 T)(hbm:BltAt X.base X.mg)
  (hfree:∀ y∈scope.names,y.2= .free->X.env.scope.names.lookup y.1=some .cell\/X.env.scope.names.lookup y.1=some .free) (hdf:defaultsOf args X.env=([],[])) (han:annTrees args none X.env=[])
  (hf:X.fn x=true\/X.env.scope.names.lookup x=some .local:=by first | exact .inl rfl | exact .inr rfl | assumption):
  PS X (.FunctionDef x args body [] none [] scope none x pos) (tDef x (qualnameIn X.env x x) args body scope (jM X.env.cells scope.names []) T pos j):=by
 intro pins s σ H D I h
 obtain⟨tab,h⟩:=h
 rw[exec_def,hdf,han]
 refine aa (df (aa (bE ?_)))
 refine aa (am (aa (bE (am (bE (aa (am ?_)))))))
 have hcl:closureFor scope X.env=pure (jM X.env.cells scope.names []):=jJL fun y hy hz=>I.ok.has y.1 (hfree y hy hz)
 have hg:s.heap.Ns mainGlobals X.mg:=I.mod.glob.keeps I.bk
 have C:=CH.keeps I.bk
 have gT:∀ {ps:Array Value},H T=some (.tbl ps)->mainGlobals≠T:=fun hT z=>by
  obtain⟨o,es,ep,e,_⟩:=I.mod.glob
  have:=(I.bs _ _ e).2
  rw[z,hT] at this
  cases this
 have bT:∀ {ps:Array Value},H T=some (.tbl ps)->s.heap.BuiltinsAt X.mg T:=fun hT=>by
  obtain⟨bm,o,h1,h2,h3,h4,h5,h6,h7⟩:=hbm
  refine⟨bm,o,h1,h2,h3,fun z=>?_,(I.bs _ _ h4).1,h5,h6,h7⟩
  have:=(I.bs _ _ h4).2
  rw[z,hT] at this
  cases this
 rcases tab with hT | ⟨c,hT,hc⟩
 ·refine PySem.W.makeFunction_K hcl I.ok.glob hg hcode C (I.hok T _ hT) trivial rfl (gT hT) (bT hT) fun c ctv doc h' tk k1 k2 k3 k4 k5=>?_
  obtain⟨oc,hoc⟩:=ncP.is (q:=qualnameIn X.env x x) k4
  have I1:Inv X pins σ (upd (upd H T (.tbl (#[]++onePs pos c))) c (.ext (ncP (qualnameIn X.env x x) c))) { s with heap:=h',toks:=tk} :=I.grown hT k1 k5 k2 k4 ⟨oc,hoc⟩ ncP.stay
  have I2:=I1.laidX (t':=tk) (a:=h'.objs.size) (φ:=nfP x (qualnameIn X.env x x) args body scope (jM X.env.cells scope.names []) h'.objs.size c) (h':=h'.push (fnMade x (qualnameIn X.env x x) args body scope (jM X.env.cells scope.names []) doc ((X.mg "__name__").getD .none) c ctv)) (fun b u q=>ae _ q) (az _) ⟨doc,_,ctv,aE _ rfl⟩ ⟨_,aE _ rfl⟩ nfP.stay
  have hcn:H c=none:=I.hok.fresh k2
  have han:H h'.objs.size=none:=I.hok.fresh (bW k2 (fc k3))
  have ca:c≠h'.objs.size:=ba k3
  have Tc:T≠c:=fun z=>by rw[z,hcn] at hT; cases hT
  have Ta:T≠h'.objs.size:=fun z=>by rw[z,han] at hT; cases hT
  refine aa (df (aa (wpAny_bindName (jC4 (v:= .ref h'.objs.size) I2 hN hj lx rfl (fun s' I'=>am ⟨_,_,I',?_⟩) hf))))
  refine h _ c _ j6 (by rw[j8 ca,j6]) (by rw[j8 Ta,j8 Tc,j6,Array.empty_append]) (fun b o e n=>?_) han
  rw[j8 (jC e han),j8 (jC e hcn),j8 n]
  exact e
 ·refine PySem.W.makeFunction_hit (cv:= .ref c) hcl I.ok.glob hg hcode C (I.hok T _ hT) (by exact trivial) (by simp [codeAmong,rawInt]) (bT hT) fun ctv doc h' tk k1 k2=>?_
  have I2:=I.laidX (t':=tk) (a:=h'.objs.size) (φ:=nfP x (qualnameIn X.env x x) args body scope (jM X.env.cells scope.names []) h'.objs.size c) (h':=h'.push (fnMade x (qualnameIn X.env x x) args body scope (jM X.env.cells scope.names []) doc ((X.mg "__name__").getD .none) c ctv)) (fun b u q=>ae _ (k1 b u q)) k2 ⟨doc,_,ctv,aE _ rfl⟩ ⟨_,aE _ rfl⟩ nfP.stay
  have han:H h'.objs.size=none:=I.hok.fresh k2
  refine aa (df (aa (wpAny_bindName (jC4 (v:= .ref h'.objs.size) I2 hN hj lx rfl (fun s' I'=>am ⟨_,_,I',?_⟩) hf))))
  refine h _ c _ j6 (by rw[j8 (jC hc han)]; exact hc) (by rw[j8 (jC hT han)]; exact hT) (fun b o e n=>?_) han
  rw[j8 (jC e han)]
  exact e
end
theorem jEW {β:Type}{x:Str} :∀ {l:List (Str×β)},(∀ v,(x,v)∉l)->l.lookup x=none
 | [],_=>rfl
 | (y,v)::r,h=>by
  rw[be,cy.mpr (fun e=>h v (by rw[e]; exact aG))]
  exact jEW fun w hw=>h w (ay _ hw)
theorem jBR {β:Type}{x:Str} :∀ {l m:List (Str×β)},(l++m).lookup x=(l.lookup x).or (m.lookup x)
 | [],_=>rfl
 | (y,v)::r,m=>by
  rw[fZ,be,be,jBR]
  cases x==y <;> rfl
theorem jD5:∀ {ps:List Str}{us:List Value}{i:Nat}{x:Str}{u:Value},ps.Nodup->ps[i]?=some x->us[i]?=some u->(ps.zip us).reverse.lookup x=some u
 | [],_,_,_,_,_,h,_=>by simp at h
 | _::_,[],_,_,_,_,_,h=>by simp at h
 | p::ps,w::us,0,x,u,nd,h1,h2=>by
  simp at h1 h2
  subst h1 h2
  rw[gZ,List.reverse_cons,jBR,jEW fun v hv=>(cA.mp nd).1 (dz (List.mem_reverse.mp hv)).1,be,beq_self_eq_true]
  rfl
 | p::ps,w::us,i+1,x,u,nd,h1,h2=>by
  rw[gZ,List.reverse_cons,jBR,jD5 (i:=i) (cA.mp nd).2 (by simpa using h1) (by simpa using h2)]
  rfl
noncomputable def cxN (P:Program)(w:World)(K:W.Frag)(mg:Str->Option Value)(base:Heap)(N:List Str)(qual:Str)(scope:Scope)(f:Addr)(cd:Value)(cl:List (Str×Addr))(A:Around)(outer:List Env)(s:Shared)(H:Hp):Cx where
 prog:=P
 w:=w
 K:=K
 mg:=mg
 base:=base
 A:=A.deeper (envX qual scope s.heap.objs.size f cd cl)
 N:=N
 s₀:=s
 H₀:=H
 env:=envX qual scope s.heap.objs.size f cd cl
 outer:=outer
 stack:=envX qual scope s.heap.objs.size f cd cl::outer
 ex:=[]
 calm:=true
 fn:=fun _=>false
 pn:=[]
 xe:=fun _ _=>False
structure ClOk (cl:List (Str×Addr))(s:Shared)(H:Hp):Prop where
 inj:∀ x y c,cl.lookup x=some c->cl.lookup y=some c->x=y
 cell:∀ x c,cl.lookup x=some c->(∃ v,s.heap.IsCell c v)/\H c=none
def FvOk (fs:List Str)(fv:List V)(cl:List (Str×Addr))(s:Shared):Prop:=fv.length=fs.length/\∀ (i:Nat) (x:Str) (v:V),fs[i]?=some x->fv[i]?=some v->∃ c u,cl.lookup x=some c/\RelV v u/\s.heap.IsCell c (some u)
structure NScope (N ps fs:List Str)(sc:Scope):Prop where
 kind:sc.kind= .function
 co:sc.isCoroutine=false
 gen:sc.isGenerator=false
 nd:N.Nodup
 pre:N.take (ps.length+fs.length)=ps++fs
 par:∀ x∈ps,sc.names.lookup x=some .local
 fre:∀ x∈fs,sc.names.lookup x=some .free
 all:∀ x,sc.names.lookup x=some .free->x∈fs
 nocell:∀ y∈sc.names,y.2≠ .cell
def jCH (N:List Str)(vs fv:List V):St:=yH N (vs++fv)
section
variable {P:Program}{w:World}{K:W.Frag}{mg:Str->Option Value}{base:Heap}{N ps fs:List Str}{qual:Str}{scope:Scope}{f:Addr}{cd:Value}{cl:List (Str×Addr)}{A:Around}{outer:List Env}{s:Shared}{H:Hp}{us:List Value}{vs fv:List V}
theorem jH7 {h1:Heap}{tk:Nat}(S:NScope N ps fs scope)(hd:A.handled=none)(e0:Env0 P w K mg base A outer s H)(hl:us.length=ps.length)(r:Vals vs us)(C:ClOk cl s H)(Fv:FvOk fs fv cl s)
  (ns:h1.Ns s.heap.objs.size fun x=>(ps.zip us).reverse.lookup x) (hk:∀ b o,s.heap.get? b=some o->h1.get? b=some o):
  Inv (cxN P w K mg base N qual scope f cd cl A outer s H) [] (jCH N vs fv) H { s with heap:=h1,toks:=tk} :=by
 have hpl:ps.length+fs.length<=N.length:=by have:=bB List.length S.pre; rw[aU,aj] at this; omega
 have noA:∀ b:Addr,b∉(cxN P w K mg base N qual scope f cd cl A outer s H).ex:=fun b z=>absurd (show b∈([]:List Addr) from z) (by simp)
 have vl:vs.length=ps.length:=r.length.trans hl
 refine⟨⟨e0.mod,S.kind,rfl,rfl,az _,C.inj,fun y hy=>?_,fun y c z=>(nomatch z),fun _=>hd,Around.frames_deeper e0.frames, .inr ⟨rfl,rfl⟩,fun b z=>absurd z (noA b),e0.bs,e0.bsz,fun b _ _=>noA b,fun b z=>absurd z (noA b),e0.funs,e0.frf⟩,
  rfl,e0.bare,Un.kept hk,⟨_,ns,fun i y v h1' h2 h3=>?_⟩,fun y c h=>?_,e0.hok.fresh (az _),fun y c h=>(C.cell y c h).2,fun p hp=>absurd (show p∈([]:List (Addr×Obj)) from hp) (by simp),e0.hok.kept hk,?_⟩
 ·have hy:scope.names.lookup y=some .cell\/scope.names.lookup y=some .free:=hy
  rcases hy with hy | hy
  ·exact absurd rfl (S.nocell _ (cz hy))
  ·have m:=S.all y hy
   obtain⟨i,hi⟩:=ce m
   have hi2:i<fv.length:=by rw[Fv.1]; exact(af.mp hi).1
   obtain⟨c,u,e,_⟩:=Fv.2 i y fv[i] hi (by simp [hi2])
   exact⟨c,e⟩
 ·have h1':N[i]?=some y:=h1'
  have hlen:(vs++fv).length=ps.length+fs.length:=by rw[aj,vl,Fv.1]
  have hi:i<(vs++fv).length:=by
   unfold jCH yH at h2
   by_cases hi:i<(vs++fv).length
   ·exact hi
   ·rw[aS (by simpa using hi)] at h2
    rw[fQ] at h2
    split at h2 <;> cases h2
  have hv:(vs++fv)[i]?=some v:=by
   unfold jCH yH at h2
   rw[bw (by simpa using hi),aO] at h2
   cases e:(vs++fv)[i]? with
   | none=>rw[e] at h2; cases h2
   | some a=>rw[e] at h2; cases h2; rfl
  have hy:(ps++fs)[i]?=some y:=by
   rw[<- S.pre,bO (by omega)]
   exact h1'
  by_cases hi1:i<ps.length
  ·rw[bw hi1] at hy
   rw[bw (by omega)] at hv
   obtain⟨u,hu,rv⟩:=r.get hv
   have ndP:ps.Nodup:=by
    have:(ps++fs).Nodup:=by rw[<- S.pre]; exact S.nd.sublist (cG _ _)
    exact(db.mp this).1
   exact⟨u,rv, .inl ⟨S.par y (ak hy),jD5 ndP hy hu⟩⟩
  ·rw[aS (by omega)] at hy
   rw[aS (by omega),vl] at hv
   obtain⟨c,u,e,rv,o,ho,hd⟩:=Fv.2 _ y v hy hv
   exact⟨u,rv, .inr ⟨.inr (S.fre y (ak hy)),c,e,o,hk _ _ ho,hd⟩⟩
 ·obtain⟨⟨v,o,ho,hd⟩,_⟩:=C.cell y c h
  exact⟨v,o,hk _ _ ho,hd⟩
 ·unfold jCH yH
  show _=N.length
  rw[aj,ab,gA,aj,vl,Fv.1]
  omega
end
structure FnN (P:Program)(w:World)(K:W.Frag)(mg:Str->Option Value)(base:Heap)(k:Nat)(x q:Str)(args:Arguments)(body:List Stmt)(scope:Scope)(ps fs:List Str)(sp:List V->Sp):Prop where
 len:∀ fv vs H Q E,sp fv vs H Q E->vs.length=ps.length
 run:∀ (A:Around) (outer:List Env) (s:Shared) (H:Hp) (a c:Addr) (cl:List (Str×Addr)) (us:List Value) (vs fv:List V) (Q:VK) (E:XK),Room k A->Env0 P w K mg base A outer s H->nfP x q args body scope cl a c s.heap->ncP q c s.heap->ClOk cl s H->FvOk fs fv cl s->Vals vs us->sp fv vs H Q E->
  codeAny (model P w) A (.call (.ref a) ⟨us,[]⟩) (CR CX0 outer P w H s Q E) s
theorem jPO {P:Program}{w:World}{K:W.Frag}{mg:Str->Option Value}{base:Heap}{k:Nat}{x q:Str}{args:Arguments}{body:List Stmt}{scope:Scope}{N ps fs:List Str}{sp:List V->Sp}(S:NScope N ps fs scope)(len:∀ fv vs H Q E,sp fv vs H Q E->vs.length=ps.length)
  (hb:∀ cl doc pm c ctv (us:List Value),us.length=ps.length->bindArgs (PySem.W.fnX x q args body scope cl .none .none doc pm none (.ref c) ctv) ⟨us,[]⟩=pure (ps.zip us))
  (hbody:∀ (A:Around) (outer:List Env) (s:Shared) (H:Hp) (a c:Addr) (cl:List (Str×Addr)) (vs fv:List V) (Q:VK) (E:XK),Room k (A.deeper (envX q scope s.heap.objs.size a (.ref c) cl))->sp fv vs H Q E->
   ∃ t,PSs (cxN P w K mg base N q scope a (.ref c) cl A outer s H) body t/\t { nx:=fun _ H'=>Q .non H',rt:=Q} (jCH N vs fv) H):
  FnN P w K mg base (k+1) x q args body scope ps fs sp:=by
 refine⟨len,fun A outer s H a c cl us vs fv Q E hr e0 hf hc C Fv r hsp=>?_⟩
 have hl:us.length=ps.length:=r.length.symm.trans (len _ _ _ _ _ hsp)
 obtain⟨doc,pm,ctv,ho⟩:=hf
 have lim:s.heap.NoLimit:=e0.mod.nolimit.keeps fun b o e=>(e0.bs b o e).1
 refine codeAny_call_def (body:=body) (binds:=ps.zip us) hr.depth ho rfl lim hc rfl (.of_eq (hb cl doc pm c ctv us hl)) S.nocell (fun y hy=>S.par y.1 (dz hy).1) (fun h1 ns hk=>?_) S.co S.gen S.kind
 obtain⟨t,ht,hq⟩:=hbody A outer s H a c cl vs fv Q E (hr.deeper _) hsp
 have I:Inv (cxN P w K mg base N q scope a (.ref c) cl A outer s H) [] (jCH N vs fv) H { s with heap:=h1,toks:=s.toks+(ps.zip us).length} :=jH7 S hr.hd e0 hl r C Fv ns hk
 refine bS (ht [] _ (jCH N vs fv) H _ I hq) (fun fl s' hs=>?_) fun e s' hs=>False.elim hs
 have fin:∀ {σ':St}{H':Hp}{v:V}{u:Value},Inv (cxN P w K mg base N q scope a (.ref c) cl A outer s H) [] σ' H' s'->RelV v u->Q v H'->CE outer P w H s Q u s':=
  fun {σ' H' v u} J rv q=>⟨v,H',J.os,J.bare,J.base,J.hok,rv,q⟩
 cases fl with
 | ret u=>
  obtain⟨v,σ',H',J,rv,q⟩:=hs
  exact fin J rv q
 | next=>
  obtain⟨σ',H',J,q⟩:=hs
  exact fin (v:=V.non) (u:=Value.none) J rfl q
 | brk=>
  obtain⟨_,_,_,q⟩:=hs
  exact False.elim q
 | cont=>
  obtain⟨_,_,_,q⟩:=hs
  exact False.elim q
def jGC (σ:St)(is:List Nat)(fv:List V):Prop:=is.map (fun i=>(σ[i]?).getD none)=fv.map some
section
variable {X:Cx}{pins:List (Addr×Obj)}{σ:St}{H:Hp}{s:Shared}{fs:List Str}{fv:List V}{is:List Nat}{scope:Scope}
def FsAt (X:Cx)(fs:List Str)(is:List Nat):Prop:=is.length=fs.length/\∀ (k:Nat) (x:Str),fs[k]?=some x->∃ i,is[k]?=some i/\X.N[i]?=some x/\(X.env.scope.names.lookup x=some .cell\/X.env.scope.names.lookup x=some .free)
theorem Inv.clOk (I:Inv X pins σ H s)(hfree:∀ y∈scope.names,y.2= .free->X.env.scope.names.lookup y.1=some .cell\/X.env.scope.names.lookup y.1=some .free):ClOk (jM X.env.cells scope.names []) s H:=by
 have sub:∀ x c,(jM X.env.cells scope.names []).lookup x=some c->X.env.cells.lookup x=some c:=jAM scope.names [] (fun y hy hf=>I.ok.has y.1 (hfree y hy hf)) (fun x c e=>by cases e)
 exact⟨fun x y c h1 h2=>I.ok.inj x y c (sub x c h1) (sub y c h2),fun x c h=>⟨I.cell x c (sub x c h),I.freeC x c (sub x c h)⟩⟩
theorem Inv.fvOk (I:Inv X pins σ H s)(hfree:∀ y∈scope.names,y.2= .free->X.env.scope.names.lookup y.1=some .cell\/X.env.scope.names.lookup y.1=some .free)(hfs:∀ x∈fs,scope.names.lookup x=some .free)(ha:FsAt X fs is)(hs:jGC σ is fv):FvOk fs fv (jM X.env.cells scope.names []) s:=by
 have hl:fv.length=fs.length:=by
  have:=bB List.length hs
  rw[ab,ab] at this
  rw[<- this,ha.1]
 refine⟨hl,fun k x v h1 h2=>?_⟩
 obtain⟨i,hi,hN,hk⟩:=ha.2 k x h1
 have e:(σ[i]?).getD none=some v:=by
  have:=bB (fun l=>l[k]?) hs
  simp only [aO,hi,h2,Option.map_some] at this
  exact bg this
 have e2:σ[i]?=some (some v):=by
  cases q:σ[i]? with
  | none=>rw[q] at e; cases e
  | some z=>rw[q] at e; exact bB some e
 obtain⟨m,hn,hl⟩:=I.loc
 obtain⟨u,r,l⟩:=hl i x v hN e2 (.inr hk)
 obtain⟨c,hc⟩:=jAN (cells:=X.env.cells) (x:=x) scope.names [] (.inl (jAK (hfs x (ak h1))))
 have sub:=jAM (cells:=X.env.cells) scope.names [] (fun y hy hf=>I.ok.has y.1 (hfree y hy hf)) (fun x c e=>by cases e) x c hc
 rcases l with ⟨lk,_⟩ | ⟨_,c',hc',z⟩
 ·have lk':X.env.scope.names.lookup x=some .local:=lk
  rcases hk with z | z <;> rw[lk'] at z <;> cases z
 ·rw[sub] at hc'
  cases hc'
  exact⟨c,u,hc,r,z⟩
end
section
variable {X:Cx}{k:Nat}{x q:Str}{args:Arguments}{body:List Stmt}{scope:Scope}{ps fs:List Str}{is:List Nat}{sp:List V->Sp}{p pos:Pos}{e:Expr}{es:List Expr}{t:TA}{j:Nat}
end
section
variable {X:Cx}{tg iter elt:Expr}{ifs:List Expr}{sc:Scope}{pos:Pos}{wi:TI}{g:TG}{tt:TT}{te:St->TE}{m:List (Option Nat)}{Nc:List Str}
end
def jPT (Ts:List Addr)(H:Hp):Prop:=∀ b,H b=none\/(∃ o xs,H b=some (.frz o (.lst xs)))\/b∈Ts
theorem jH6 {cts:List (Addr×Addr)}{P:Program}{w:World}{K:W.Frag}{mg mb:Str->Option Value}{CX:CXT}{k:Nat}{fa a:Addr}{fd:FuncData}{x:Str}{sp:Sp}{s₁:Shared}{vs:List Value}{ns:List Int}
  (KX:K.In s₁.heap) (hns:s₁.heap.Ns mainGlobals mg) (hb:s₁.heap.Ns builtinsNs mb) (hbb:∀ x:Str,x≠ "__name__" ->mb x=bootBuiltins x) (hlim:s₁.heap.NoLimit) (hg:s₁.gens=#[])
  (ha:s₁.heap.get? a=some { cls:= .type "list",data:= .seq vs.toArray}) (hi:IntsAre vs ns) (hl:ns.length<=sizeLine) (hr:Room k callerA) (hT:∀ T∈cts.map (·.2),s₁.heap.get? T=some (tabObj #[])) (CH:∀ p∈cts,PySem.W.CodeHd s₁.heap p.1 p.2) (hKT:∀ T∈cts.map (·.2),K.lookup T=none)
  (F:∀ base:Heap,K.In base->base.Ns mainGlobals mg->FnOk P w K mg base CX k fa fd [x] sp) (hbind:∀ (s:Shared) (u:Value),BindsTo s fd ⟨[u],[]⟩ [(x,u)])
  (hsp:∀ H:Hp,(∀ T∈cts.map (·.2),H T=some (.tbl #[]))->SqL K H a (ns.map V.int)->sp [.ref a] H (fun v _=>v= .bl true) fun _ _ _=>False)
  (hCX:∀ H e s',CX [] H s₁ (fun _ _ _=>False) e s'->False):
  codeAny (model P w) callerA (.call (.ref fa) ⟨[.ref a],[]⟩) (fun r s'=>r= .ok (.ret (.bool true))/\OldK s₁.heap s'.heap/\s'.os=s₁.os/\AllBare s'.gens) s₁:=by
 have rv:=jED hi
 have lenV:=hi.length
 have core:∀ H:Hp,jPT (cts.map (·.2)) H->(∀ T∈cts.map (·.2),H T=some (.tbl #[]))->SqL K H a (ns.map V.int)->HOk P w H s₁.heap->(∀ b,H b≠none->b=a\/b∈cts.map (·.2))->(H a≠none->K.lookup a=none)->
   codeAny (model P w) callerA (.call (.ref fa) ⟨[.ref a],[]⟩) (fun r s'=>r= .ok (.ret (.bool true))/\OldK s₁.heap s'.heap/\s'.os=s₁.os/\AllBare s'.gens) s₁:=by
  intro H hO hHT hS hok hA hK
  have base_of:∀ {b:Addr}{o:Obj},s₁.heap.get? b=some o->H b=none->(hidT s₁.heap H).get? b=some o:=fun e n=>jKU e n
  have noA:∀ {b:Addr}{o:Obj}{es:Array DictEntry}{ep:Nat},s₁.heap.get? b=some o->o.data= .dict es ep->H b=none:=fun {b o es ep} e d=>by
   cases q:H b with
   | none=>rfl
   | some u=>
    rcases hA b (by rw[q]; simp) with e' | e'
    ·subst e'
     rw[ha] at e; cases e
     have d':Data.seq vs.toArray _=Data.dict es ep:=d
     cases d'
    ·rw[hT b e'] at e; cases e
     have d':Data.fields _=Data.dict es ep:=d
     cases d'
  have nsK:∀ {b:Addr}{m:Str->Option Value},s₁.heap.Ns b m->(hidT s₁.heap H).Ns b m:=fun {b m} ⟨o,es,ep,e,d,r⟩=>⟨o,es,ep,base_of e (noA e d),d,r⟩
  have hKb:K.In (hidT s₁.heap H):=fun b o e=>base_of (KX b o e) (by
   cases q:H b with
   | none=>rfl
   | some u=>
    rcases hA b (by rw[q]; simp) with e' | e'
    ·subst e'
     rw[hK (by rw[q]; simp)] at e; cases e
    ·rw[hKT b e'] at e; cases e)
  have hM:Mod K mg (hidT s₁.heap H):=⟨hKb,nsK hns,⟨mb,nsK hb,hbb⟩,let ⟨mc,h1,h2⟩:=hlim; ⟨mc,nsK h1,h2⟩⟩
  have e0:Env0 P w K mg (hidT s₁.heap H) callerA [] s₁ H:=⟨rfl,hM,fun b o e=>jN9 e,Nat.le_of_eq (jJ9 _ _),trivial,fun b hb=>absurd (show b∈([]:List Addr) from hb) (by simp),hok, .of_eq hg⟩
  refine dZ ((F _ hKb (nsK hns)).run callerA [] s₁ H ⟨[.ref a],[]⟩ [.ref a] [.ref a] _ _ hr e0 (hbind s₁ (.ref a)) (.cons rfl .nil) (hsp H hHT hS)) fun r s' h=>?_
  cases r with
  | error e=>exact(hCX H e s' h).elim
  | ok fl=>
   cases fl with
   | next=>exact False.elim h
   | brk=>exact False.elim h
   | cont=>exact False.elim h
   | ret u=>
    obtain⟨v,H',os,bare,un,hok',r',q⟩:=h
    have q':v= .bl true:=q
    subst q'
    obtain rfl:u=Value.bool true:=r'
    have gr:∀ T∈cts.map (·.2),∃ more,s'.heap.get? T=some (tabObj (#[]++more)):=fun T hTm=>by
     obtain⟨more,z⟩:=un.tbls T _ (hHT T hTm)
     exact⟨more,hok' T _ z⟩
    have kp:∀ b o,b∉cts.map (·.2)->s₁.heap.get? b=some o->s'.heap.get? b=some o:=fun b o hbT e=>?_
    ·refine⟨rfl,⟨fun b o e=>?_,fun b o e=>?_⟩,os,bare⟩
     ·by_cases hb:b∈cts.map (·.2)
      ·obtain⟨p,hp,rfl⟩:=aN.mp hb
       have q:=hT _ hb
       rw[q] at e
       cases e
       obtain⟨more,z⟩:=gr _ hb
       exact .inr (.inl ⟨((CH p hp).tab q).isCodeTable,rfl,#[],more,rfl,z⟩)
      ·exact .inl (kp b o hb e)
     ·by_cases hb:b∈cts.map (·.2)
      ·obtain⟨more,z⟩:=gr _ hb
       exact⟨_,z⟩
      ·exact⟨o,kp b o hb e⟩
    cases q:H b with
    | none=>exact un.keep b o e q (by intro z; exact absurd (show b∈([]:List Addr) from z) (by simp)) (by simp)
    | some u=>
     rcases hO b with z | ⟨ob,xs,z⟩ | z
     ·rw[q] at z; cases z
     ·have z2:=un.frzs b ob _ z
      obtain⟨e1,_⟩:=hok b _ z
      obtain⟨e2,_⟩:=hok' b _ z2
      rw[e] at e1; cases e1
      exact e2
     ·exact absurd z hbT
 have aT:a∉cts.map (·.2):=fun z=>by rw[hT a z] at ha; cases ha
 cases hk:K.lookup a with
 | some o=>
  have e:=KX a o hk
  rw[ha] at e
  cases e
  refine core (fun b=>if b∈cts.map (·.2) then some (.tbl #[]) else none) (fun b=>?_) (fun T hm=>ao hm) (.inr ⟨_,vs.toArray,_,hk,rfl,rfl,rfl,by rw[aA,lenV]; exact hl,by simpa using rv⟩) (fun b u z=>?_) (fun b z=>?_) fun z=>absurd (ax aT) z
  ·by_cases hb:b∈cts.map (·.2)
   ·exact .inr (.inr hb)
   ·exact .inl (ax hb)
  ·by_cases hb:b∈cts.map (·.2)
   ·have z':=(ao hb).symm.trans z
    cases z'
    exact hT b hb
   ·have z':=(ax hb).symm.trans z
    cases z'
  ·by_cases hb:b∈cts.map (·.2)
   ·exact .inr hb
   ·exact absurd (ax hb) z
 | none=>
  refine core (fun b=>if b∈cts.map (·.2) then some (.tbl #[]) else if b=a then some (.frz { cls:= .type "list",data:= .seq vs.toArray} (.lst (ns.map V.int))) else none) (fun b=>?_) (fun T hm=>ao hm) (.inl (.inr ⟨{ cls:= .type "list",data:= .seq vs.toArray},by dsimp only; rw[ax aT,ao rfl]⟩)) (fun b u z=>?_) (fun b z=>?_) fun _=>hk
  ·by_cases hT':b∈cts.map (·.2)
   ·exact .inr (.inr hT')
   ·by_cases hb:b=a
    ·exact .inr (.inl ⟨_,_,by dsimp only; rw[ax hT',ao hb]⟩)
    ·exact .inl (by dsimp only; rw[ax hT',ax hb])
  ·dsimp only at z
   by_cases hT':b∈cts.map (·.2)
   ·rw[ao hT'] at z
    cases z
    exact hT b hT'
   ·rw[ax hT'] at z
    by_cases hb:b=a
    ·rw[ao hb] at z
     cases z
     subst hb
     exact⟨ha,by rw[ab]; exact hl,vs,_,rv,ha⟩
    ·rw[ax hb] at z
     cases z
  ·replace z:(if b∈cts.map (·.2) then some (HO.tbl #[]) else if b=a then some (HO.frz { cls:= .type "list",data:= .seq vs.toArray} (.lst (ns.map V.int))) else none)≠none:=z
   by_cases hT':b∈cts.map (·.2)
   ·exact .inr hT'
   ·by_cases hb:b=a
    ·exact .inl hb
    ·rw[ax hT',ax hb] at z
     exact absurd rfl z
theorem walk_ofTs {cts:List (Addr×Addr)}{l:PySem.W.OpenLaw}{n k:Nat}{q:Program}{loose:List Str}{XP:(Str->Option Value)->Heap->Prop}{YP:World->Heap->Prop}{d:DefRec}{K:Params->W.Frag}{CX:World->CXT}{sp:World->Sp}{x:Str}
  (hn:l.most=some n) (hn2:n<=sizeLine) (hdf:d.params.defaults=[]) (hr:Room k callerA)
  (hY:∀ (w:World) (h:Heap),YP w h->(K w.params).In h/\∀ T∈cts.map (·.2),h.get? T=some (tabObj #[])) (hcd:∀ w:World,∀ p∈cts,codeHdIn (K w.params) p.1 p.2=true) (hKT:∀ w:World,∀ T∈cts.map (·.2),(K w.params).lookup T=none)
  (F:∀ (w:World) (mg:Str->Option Value) (fa:Addr) (h:Heap),(K w.params).In h->h.Ns mainGlobals mg->mg d.name=some (.ref fa)->
   ∃ fd:FuncData,(∀ (s:Shared) (u:Value),BindsTo s fd ⟨[u],[]⟩ [(x,u)])/\
    ∀ base:Heap,(K w.params).In base->base.Ns mainGlobals mg->FnOk l.prog w (K w.params) mg base (CX w) k fa fd [x] (sp w))
  (hsp:∀ (w:World) (H:Hp) (a:Addr) (ns:List Int),ns.length<=n->(∀ T∈cts.map (·.2),H T=some (.tbl #[]))->SqL (K w.params) H a (ns.map V.int)->sp w [.ref a] H (fun v _=>v= .bl true) fun _ _ _=>False)
  (hCX:∀ (w:World) (H:Hp) (s:Shared) (e:Value) (s':Shared),CX w [] H s (fun _ _ _=>False) e s'->False):
  PySem.W.WalkO q loose XP YP l.row.toRowW d [] (fun f vs=>PySem.call f vs):=by
 refine Att.attach_call hn hdf fun w s₀ s₁ mg mb fa o pm cd doc a vs ns G Y ho hd _ hmg hobj hints hlen hg=>?_
 obtain⟨KX,hT⟩:=hY w _ Y
 obtain⟨fd,hb,hF⟩:=F w mg fa _ KX G.T.g hmg
 exact jH6 KX G.T.g G.T.b G.T.builtins G.T.nolimit hg hobj hints (bW hlen hn2) hr hT (fun p hp=>gM KX (hcd w p hp)) (hKT w) hF hb (fun H hO hS=>hsp w H a ns hlen hO hS) fun H e s'=>hCX w H s₁ e s'
open PySem.AutoSeq1 (wpAny_loadPart')
section
variable {prog:Program}{w:World}{A:Around}{E:Value->Shared->Prop}{s:Shared}
theorem jKZ {tp:Bool}{e it l:Addr}{i:Nat}{xs:Array Value}{x old:Value}{Q:Value->Shared->Prop}(ee:IsEnum s.heap e it i old)(g1:ItAt tp s.heap it l i)(o1:ObAt tp s.heap l xs)(hx:xs[i]?=some x)(ne:e≠it)
  (k:∀ h',IsEnumOut h' e it ((i:Int)+1) x s.heap.objs.size->ItAt tp h' it l (i+1)->h'.get? s.heap.objs.size=some { cls:= .type "tuple",data:= .seq #[.int i s.toks,x]} ->h'.objs.size=s.heap.objs.size+1->
   (∀ c o,c≠e->c≠it->s.heap.get? c=some o->h'.get? c=some o)->Q (.ref s.heap.objs.size) { s with heap:=h',toks:=s.toks+1}):
  wpAny (model prog w) A (Builtin.«enumerate.__next__» ⟨[.ref e],[]⟩) (fun fin s'=>∃ v,fin= .done (.ret v)/\Q v s') E s:=by
 obtain⟨hp,g,d,tk,os⟩:=s
 show wpAny (model prog w) A (field (.ref e) 2 >>= _) _ _ _
 refine aa (bu ee rfl (x:= .ref it) rfl (aa (next1 g1 o1 hx fun p1 r1 q1=>?_)))
 have q1:Heap.SameBut it hp p1:=q1
 have e1:IsEnum p1 e it i old:=(q1.2 e ne).trans ee
 show wpAny (model prog w) A (field (.ref e) 3 >>= _) _ _ ⟨p1,g,d,tk,os⟩
 refine aa (bu e1 rfl (x:=rawInt i) rfl (?_:wpAny (model prog w) A (field (.ref e) 4 >>= _) _ _ ⟨p1,g,d,tk,os⟩))
 refine aa (bu e1 rfl (x:= .none) rfl (?_:wpAny (model prog w) A (mkInt i >>= _) _ _ ⟨p1,g,d,tk,os⟩))
 refine aa (wpAny_mkInt (?_:wpAny (model prog w) A (setField (.ref e) 3 (rawInt ((i:Int)+1)) >>= _) _ _ ⟨p1,g,d,tk+1,os⟩))
 refine aa (bF e1 (by simp) fun p2 e2 q2=>?_)
 have q2:Heap.SameBut e p1 p2:=q2
 have e2:IsEnum p2 e it ((i:Int)+1) old:=e2
 show wpAny (model prog w) A (setField (.ref e) 4 .none >>= _) _ _ ⟨p2,g,d,tk+1,os⟩
 refine aa (bF e2 (by simp) fun p3 e3 q3=>?_)
 have q3:Heap.SameBut e p2 p3:=q3
 have e3:IsEnum p3 e it ((i:Int)+1) old:=e3
 show wpAny (model prog w) A (newTuple [.int i tk,x] >>= _) _ _ ⟨p3,g,d,tk+1,os⟩
 refine aa (gI ?_)
 have e4:IsEnum (p3.push { cls:= .type "tuple",data:= .seq #[.int i tk,x]}) e it ((i:Int)+1) old:=ae _ e3
 have sz:p3.objs.size=hp.objs.size:=by rw[q3.1,q2.1,q1.1]
 have lt:e<hp.objs.size:=aB ee
 have t4:(p3.push { cls:= .type "tuple",data:= .seq #[.int i tk,x]}).get? hp.objs.size=some { cls:= .type "tuple",data:= .seq #[.int i tk,x]} :=by rw[<- sz]; exact aE _ rfl
 have z4:(p3.push { cls:= .type "tuple",data:= .seq #[.int i tk,x]}).objs.size=hp.objs.size+1:=by rw[cr,sz]
 have k4:∀ c o,c≠e->c≠it->hp.get? c=some o->(p3.push { cls:= .type "tuple",data:= .seq #[.int i tk,x]}).get? c=some o:=fun c o n1 n2 v=>ae _ (q3.extBut c o n1 (q2.extBut c o n1 (q1.extBut c o n2 v)))
 have r4:ItAt tp (p3.push { cls:= .type "tuple",data:= .seq #[.int i tk,x]}) it l (i+1):=((r1.but q2.extBut ne.symm).but q3.extBut ne.symm).at fun o v=>ae _ v
 generalize p3.push { cls:= .type "tuple",data:= .seq #[.int i tk,x]} =p4 at e4 t4 z4 k4 r4 ⊢
 show wpAny (model prog w) A (Builtin.SmallTypes.ownedTupleIsFree (.ref e) >>= _) _ _ ⟨p4,g,d,tk+1,os⟩
 rw[sz]
 refine aa (by
  unfold Builtin.SmallTypes.ownedTupleIsFree
  refine aa (bu e4 rfl (x:= .none) rfl (am ?_))
  simp only [fe]
  refine aa (cS (aa (bu e4 rfl (x:=old) rfl (aa (bF e4 (by simp) fun p5 e5 q5=>?_)))))
  have q5:Heap.SameBut e p4 p5:=q5
  have e5:IsEnum p5 e it ((i:Int)+1) x:=e5
  refine aa (m:=Builtin.SmallTypes.ownedTupleHandOut (.ref e) (.ref hp.objs.size)) ?_
  unfold Builtin.SmallTypes.ownedTupleHandOut
  refine aa (bF e5 (by simp) fun p6 e6 q6=>?_)
  have q6:Heap.SameBut e p5 p6:=q6
  have e6:IsEnumOut p6 e it ((i:Int)+1) x hp.objs.size:=e6
  refine bF e6 (by simp) fun p7 e7 q7=>?_
  have q7:Heap.SameBut e p6 p7:=q7
  have e7:IsEnumOut p7 e it ((i:Int)+1) x hp.objs.size:=e7
  have up:∀ c o,c≠e->p4.get? c=some o->p7.get? c=some o:=fun c o n v=>q7.extBut _ _ n (q6.extBut _ _ n (q5.extBut _ _ n v))
  exact aa (gH (am ⟨_,rfl,k p7 e7 (r4.at fun o v=>up _ o ne.symm v) (up _ _ (dv lt) t4) (by rw[q7.1,q6.1,q5.1,z4]) fun c o n1 n2 v=>up c o n1 (k4 c o n1 n2 v)⟩)))
theorem jGY {tp:Bool}{e it l:Addr}{i:Nat}{xs:Array Value}{x old:Value}{Q:Option Value->Shared->Prop}(ee:IsEnum s.heap e it i old)(g1:ItAt tp s.heap it l i)(o1:ObAt tp s.heap l xs)(hx:xs[i]?=some x)(ne:e≠it)
  (k:∀ h',IsEnumOut h' e it ((i:Int)+1) x s.heap.objs.size->ItAt tp h' it l (i+1)->h'.get? s.heap.objs.size=some { cls:= .type "tuple",data:= .seq #[.int i s.toks,x]} ->h'.objs.size=s.heap.objs.size+1->
   (∀ c o,c≠e->c≠it->s.heap.get? c=some o->h'.get? c=some o)->Q (some (.ref s.heap.objs.size)) { s with heap:=h',toks:=s.toks+1}):
  wpAny (model prog w) A (pyNext (.ref e)) Q E s:=by
 have ty:s.TypeIs (.ref e) "enumerate" :=⟨_,ee,rfl⟩
 unfold pyNext
 exact aa (eF (bJ (name:=Str.ofString "__next__") ty F.slot_enumerate_next (cc F.slot_enumerate_next ty F.entry_enumerate_next (jKZ ee g1 o1 hx ne fun h' b1 b2 b3 b4 b5=>am (k h' b1 b2 b3 b4 b5)) (F.args_enumerate_next_1 _))))
theorem jGZ {tp:Bool}{e it l:Addr}{i:Nat}{xs:Array Value}{old:Value}{Q:Option Value->Shared->Prop}(hh:A.handled=none)(ee:IsEnum s.heap e it i old)(g1:ItAt tp s.heap it l i)(o1:ObAt tp s.heap l xs)(hx:xs[i]?=none)
  (k:∀ h',(∀ c o,c≠e->c≠it->s.heap.get? c=some o->h'.get? c=some o)->Q none { s with heap:=h'}):wpAny (model prog w) A (pyNext (.ref e)) Q E s:=by
 have ty:s.TypeIs (.ref e) "enumerate" :=⟨_,ee,rfl⟩
 unfold pyNext
 refine aa (eF (bJ (name:=Str.ofString "__next__") ty F.slot_enumerate_next (cc F.slot_enumerate_next ty F.entry_enumerate_next (?_:wpAny (model prog w) _ (field (.ref e) 2 >>= _) _ _ _) (F.args_enumerate_next_1 _))))
 refine aa (bu ee rfl (x:= .ref it) rfl (aa (next0 hh g1 o1 hx fun h' x kp ⟨u,eu,cu⟩=>?_)))
 exact aa (wpAny_isInstance (T:= "StopIteration") (b:=true) ⟨u,eu,cu⟩ isSubtype_stop (am (k _ fun c o _ n v=>kp c o n v)))
end
set_option maxHeartbeats 2000000 in
theorem jIK (tp:Bool)(l:Addr)(xs:Array Value)(u:Obj):
  Meets (Builtin.«enumerate.__new__» ⟨[.type "enumerate", .ref l],[]⟩) (fun _ R s=>s.heap.get? l=some u/\ObAt tp s.heap l xs/\
   R (.ok (.ret (.ref (s.heap.push (yQ tp l)).objs.size))) { s with heap:=(s.heap.push (yQ tp l)).push { cls:= .type "enumerate",data:= .fields #[.none, .bool false, .ref s.heap.objs.size,rawInt 0, .none, .none]}}):=
 .of_wp fun prog w A R s h=>by
  obtain⟨hp,g,d,tk,os⟩:=s
  obtain⟨a0,a1,q⟩:=h
  have sub:=sub_enumerate
  have e1:ObAt tp (Shared.heap ⟨hp,g,d,tk,os⟩) l xs:=a1
  obtain⟨c,dct,dt,sl⟩:=u
  obtain⟨n,hc,hd⟩:∃ n,c=(if tp then .type "tuple" else .type "list")/\dt= .seq xs n:=by
   cases tp with
   | false=>obtain⟨o,e,hc,n,hd⟩:=a1; cases (a0.symm.trans e); exact⟨n,hc,hd⟩
   | true=>obtain⟨o,e,hc,n,hd⟩:=a1; cases (a0.symm.trans e); exact⟨n,hc,hd⟩
  subst hd
  cases tp with
  | false=>
   subst hc
   wp_walk using cB a0
   refine wpAny_stack_any fun _=>am ?_
   split
   ·rename_i c _ _ _ _ _
    cases hcc:(c==Value.type "enumerate")
    all_goals (wp_walk using cB a0,jBQ e1; exact⟨_,rfl,q⟩)
   ·wp_walk using cB a0,jBQ e1
    exact⟨_,rfl,q⟩
  | true=>
   subst hc
   wp_walk using cB a0
   refine wpAny_stack_any fun _=>am ?_
   split
   ·rename_i c _ _ _ _ _
    cases hcc:(c==Value.type "enumerate")
    all_goals (wp_walk using cB a0,jBQ e1; exact⟨_,rfl,q⟩)
   ·wp_walk using cB a0,jBQ e1
    exact⟨_,rfl,q⟩
theorem jL6 {prog:Program}{w:World}{A:Around}{E:Value->Shared->Prop}{s:Shared}{tp:Bool}{l:Addr}{xs:Array Value}{Q:Value->Shared->Prop}(a1:ObAt tp s.heap l xs)
  (k:∀ h',IsEnum h' (s.heap.objs.size+1) s.heap.objs.size 0 .none->ItAt tp h' s.heap.objs.size l 0->(∀ c o,s.heap.get? c=some o->h'.get? c=some o)->Q (.ref (s.heap.objs.size+1)) { s with heap:=h'}):
  wpAny (model prog w) A (call (.type "enumerate") [.ref l]) Q E s:=by
 obtain⟨u,eu⟩:∃ u,s.heap.get? l=some u:=by
  cases tp with
  | false=>obtain⟨o,e,_⟩:=a1; exact⟨o,e⟩
  | true=>obtain⟨o,e,_⟩:=a1; exact⟨o,e⟩
 refine callType_new F.called_enumerate (by decide) (F.typeCall_enumerate_1 _) (F.newCall_enumerate_1 _) (fun obj=>F.args_object_init_2 obj _) F.entry_enumerate_new (jIK tp l xs u) ⟨eu,a1,?_⟩
 have z1:(s.heap.push (yQ tp l)).objs.size=s.heap.objs.size+1:=cr ..
 have y2:IsEnum ((s.heap.push (yQ tp l)).push { cls:= .type "enumerate",data:= .fields #[.none, .bool false, .ref s.heap.objs.size,rawInt 0, .none, .none]}) (s.heap.push (yQ tp l)).objs.size s.heap.objs.size 0 .none:=aE _ rfl
 have y1:((s.heap.push (yQ tp l)).push { cls:= .type "enumerate",data:= .fields #[.none, .bool false, .ref s.heap.objs.size,rawInt 0, .none, .none]}).get? s.heap.objs.size=some (yQ tp l):=ae _ (aE _ (jBS _ _))
 show _/\_
 rw[z1] at y2 ⊢
 exact⟨⟨_,y2,rfl⟩,k _ y2 (.new tp y1) fun c o e=>ae _ (ae _ e)⟩
section
variable {X:Cx}
def Ite (tp:Bool)(K:W.Frag)(l:Addr):It:=
 ⟨fun i H=>∃ xs x,Sq tp K H l xs/\xs[i]?=some x,
  fun i H v H'=>∃ T x,H T=none/\v= .ref T/\H'=upd H T (.tup [.int (i:Int),x])/\∀ xs,Sq tp K H l xs->xs[i]?=some x,
  fun i H=>∃ xs,Sq tp K H l xs/\xs.length<=i⟩
theorem jHN {P:Program}{w:World}{K:W.Frag}{elts:List Expr}{x1:Nat}{tps:Pos}(tp:Bool)(l e it:Addr)(ne:e≠it):
  Turn P w K (.Tuple elts x1 tps) (Ite tp K l) [e,it] e (fun i h=>(∃ old,IsEnum h e it ((i:Nat):Int) old)/\ItAt tp h it l i) where
 mem:=by simp
 obj:=fun i h st b hb=>by
  obtain⟨⟨old,he⟩,y1⟩:=st
  simp only [aH,bf,cJ] at hb
  rcases hb with rfl | rfl
  ·exact⟨_,he,fun v q=>by cases q⟩
  ·exact y1.obj
 keep:=fun i h h' st k=>by
  obtain⟨⟨old,he⟩,h1⟩:=st
  exact⟨⟨old,k e (by simp) _ he⟩,h1.at fun o z=>k it (by simp) o z⟩
 item:=by
  intro X hP hw hK hc i pins s σ H E I hf st hg
  subst hP hw hK
  obtain⟨xs,x,hq1,hx⟩:=hg
  obtain⟨⟨old,he⟩,h1⟩:=st
  obtain⟨its1,r1,p1,_⟩:=I.sq hq1
  obtain⟨u,hu,ru⟩:=r1.get hx
  refine jGY he h1 p1 (x:=u) (by simpa using hu) ne fun h' a1 a2 a3 a4 a5=>?_
  refine⟨_,rfl,wpAny_letOwnedTupleGo_enum (s:= { s with heap:=h',toks:=s.toks+1}) a1 fun h'' b1 sb=>?_⟩
  have fresh:H s.heap.objs.size=none:=I.fresh
  have ntr:∀ b o,H b=some o->b∉([e,it]:List Addr):=fun b o z hb=>by
   have:=(hf b hb).1
   rw[z] at this; cases this
  have kp:∀ b o,b∉([e,it]:List Addr)->s.heap.get? b=some o->h''.get? b=some o:=fun b o hb z=>by
   simp only [aH,bf,cJ,not_or] at hb
   exact(sb.2 b hb.1).trans (a5 b o hb.1 hb.2 z)
  have nz:s.heap.objs.size≠e:=dv (aB he)
  have hT2:h''.get? s.heap.objs.size=some { cls:= .type "tuple",data:= .seq #[.int i s.toks,u]} :=(sb.2 _ nz).trans a3
  have I2:Inv X pins σ (upd H s.heap.objs.size (.tup [.int (i:Int),x])) { s with heap:=h'',toks:=s.toks+1} :=by
   refine I.step (g':=s.gens) (d':=s.drawn) (t':=s.toks+1) (ch:=[e,it]) (fun b hb=>?_) (fun b o _ _ hb z _=>kp b o hb z) (fun b o _ _ hb z _=>⟨o.slots,kp b o hb z⟩)
    (fun b o _ z n=>by rw[j8 (ba (aB z))]; exact n) (fun b o hb z=>⟨o,kp b o hb z⟩) (fun b ws z=>by rw[j8 (jC z fresh)]; exact z) (fun b o ws z=>by rw[j8 (jC z fresh)]; exact z)
    (fun b ps z=>⟨#[],by rw[j8 (jC z fresh),z]; simp⟩) (fun m hm=>?_) (fun b o z=>?_) I.bare
   ·obtain⟨f0,f1,f2,f3,f4,f5⟩:=hf b hb
    exact⟨f3,f1,f4,f5⟩
   ·obtain⟨o,es,ep,ho,r⟩:=hm
    exact⟨o,es,ep,kp _ o (fun hb=>(hf _ hb).2.1 rfl) ho,r⟩
   ·by_cases hb:b=s.heap.objs.size
    ·subst hb
     rw[j6] at z
     cases z
     exact⟨by rw[dG]; show 2<=_; decide,[.int i s.toks,u], .cons ⟨_,rfl⟩ (.cons ru .nil),0,hT2⟩
    ·rw[j8 hb] at z
     refine(I.hok b o z).stay (fun c w hc q=>kp c w ?_ q) (fun c q=>by rw[j8 (jC q fresh)]; exact q) (fun c ws q=>by rw[j8 (jC q fresh)]; exact q)
     rcases hc with rfl | hc
     ·exact ntr _ _ z
     ·exact ntr _ _ hc
  refine⟨.ref s.heap.objs.size,_,I2,rfl,⟨_,x,fresh,rfl,rfl,fun xs' q1=>by rw[I.sq_inj q1 hq1]; exact hx⟩,⟨⟨_,b1⟩,?_⟩,fun b hb=>?_⟩
  ·exact a2.at fun o z=>(sb.2 it ne.symm).trans z
  ·rw[j8 (fun q=>by
    obtain⟨o,eo⟩:∃ o,s.heap.get? b=some o:=by
     simp only [aH,bf,cJ] at hb
     rcases hb with rfl | rfl
     ·exact⟨_,he⟩
     ·obtain⟨o,z,_⟩:=h1.obj; exact⟨o,z⟩
    exact absurd (aB eo) (by rw[q]; exact ck _))]
   exact(hf b hb).1
 done:=by
  intro X hP hw hK hc i pins s σ H E I hf st hg
  subst hP hw hK
  obtain⟨xs,hq1,hend⟩:=hg
  obtain⟨⟨old,he⟩,h1⟩:=st
  obtain⟨its1,r1,p1,_⟩:=I.sq hq1
  have e1:=r1.length
  refine jGZ (I.ok.hd hc) he h1 p1 (by simp; omega) fun h' kp=>⟨rfl,?_⟩
  have kp2:∀ b o,b∉([e,it]:List Addr)->s.heap.get? b=some o->h'.get? b=some o:=fun b o hb z=>by
   simp only [aH,bf,cJ,not_or] at hb
   exact kp b o hb.1 hb.2 z
  have ntr:∀ b o,H b=some o->b∉([e,it]:List Addr):=fun b o z hb=>by
   have:=(hf b hb).1
   rw[z] at this; cases this
  refine I.step (g':=s.gens) (d':=s.drawn) (t':=s.toks) (ch:=[e,it]) (fun b hb=>?_) (fun b o _ _ hb z _=>kp2 b o hb z) (fun b o _ _ hb z _=>⟨o.slots,kp2 b o hb z⟩)
   (fun b o _ z n=>n) (fun b o hb z=>⟨o,kp2 b o hb z⟩) (fun b ws z=>z) (fun b o ws z=>z) (fun b ps z=>⟨#[],by rw[z]; simp⟩) (fun m hm=>?_) (fun b o z=>?_) I.bare
  ·obtain⟨f0,f1,f2,f3,f4,f5⟩:=hf b hb
   exact⟨f3,f1,f4,f5⟩
  ·obtain⟨o,es,ep,ho,r⟩:=hm
   exact⟨o,es,ep,kp2 _ o (fun hb=>(hf _ hb).2.1 rfl) ho,r⟩
  ·refine(I.hok b o z).stay (fun c w hc q=>kp2 c w ?_ q) (fun _ q=>q) fun _ _ q=>q
   rcases hc with rfl | hc
   ·exact ntr _ _ z
   ·exact ntr _ _ hc
 self:=fun _ _ _ _ _ st h=>wpAny_pyIter_enum st.1.choose_spec h
def iEnum (K:W.Frag)(ta:TA):TI:=fun σ H R=>ta σ H fun vs H1=>∃ tp l,vs=[.ref l]/\(∃ xs,Sq tp K H1 l xs)/\R (Ite tp K l) H1
theorem jMQ {a:Expr}{ta:TA}{p pos:Pos}{elts:List Expr}{x1:Nat}{tp:Pos}(hg:Gl X "enumerate")(hm:X.mg "enumerate" =none)(ha:PA X [a] ta)(hv:bootBuiltins "enumerate" =some (.type "enumerate"):=by decide+kernel)
  (he:starEach [a] X.env=(false,eval a X.env)::starEach [] X.env:=by rfl) (hpl:(backTo pos (starEach [] X.env)).any (·.1)=false:=by rfl):
  PI X (.Tuple elts x1 tp) (.Call (.Name "enumerate" p) [a] [] pos) (iEnum X.K ta):=by
 intro pins s σ H R I h
 refine Call_ (jCR I hg hm hv (cM (thn (ha pos pins s σ H _ I h) fun us s1 ⟨vs,H1,I1,r1,q1⟩=>?_) he hpl))
 obtain⟨t1,l1,rfl,⟨xs,hq1⟩,q⟩:=q1
 obtain⟨u,rfl,ru⟩:=r1.one
 cases ru
 obtain⟨its1,_,p1,_⟩:=I1.sq hq1
 refine jL6 p1 fun h' a1 a2 kp=>?_
 have I2:Inv X pins σ H1 { s1 with heap:=h'} :=I1.kept (t':=s1.toks) kp
 refine wpAny_pyIter_enum a1 ⟨s1.heap.objs.size+1,[s1.heap.objs.size+1,s1.heap.objs.size],_,Ite t1 X.K l1,H1,rfl,I2,jHN t1 l1 _ _ (Nat.succ_ne_self _),⟨⟨_,a1⟩,a2⟩,fun b hb=>?_,q⟩
 have hge:s1.heap.objs.size<=b:=by
  simp only [aH,bf,cJ] at hb
  rcases hb with rfl | rfl
  ·exact dM _ 1
  ·exact az _
 exact I1.fpOk hge (I1.hok.fresh hge)
theorem jNI {a:Expr}{t:TA}{p pos:Pos}{elts:List Expr}{x1:Nat}{tp:Pos}(hg:Gl1 X "enumerate")(hm:X.mg "enumerate" =none)(ha:JA X [a] t)(he:starEach [a] X.env=(false,eval a X.env)::starEach [] X.env)(hv:bootBuiltins "enumerate" =some (.type "enumerate"):=by decide+kernel)
  (hpl:(backTo pos (starEach [] X.env)).any (·.1)=false:=by rfl):JI X (.Tuple elts x1 tp) (.Call (.Name "enumerate" p) [a] [] pos) (iEnum X.K t):=⟨jMQ hg.a hm ha.h hv he hpl⟩
end
section
variable {K:W.Frag}{m:List (Option Nat)}{g:TG}{tt:TT}{te:TE}{σ:St}{H1:Hp}{Q:VK}
end
section
variable {κ:Type} [DecidableEq κ]
def valV (kvs:List (κ×V))(k:κ):Option V:=(kvs.find? fun kv=>decide (kv.1=k)).map (·.2)
def putK (kvs:List (κ×V))(k:κ)(v:V):List (κ×V):=
 if (kvs.any fun kv=>decide (kv.1=k))=true then kvs.map (fun kv=>if kv.1=k then (kv.1,v) else kv) else kvs++[(k,v)]
theorem jBA {p:κ×V}{r:List (κ×V)}{k:κ}(e:p.1=k):valV (p::r) k=some p.2:=by simp [valV,dC,e]
theorem jAW {p:κ×V}{r:List (κ×V)}{k:κ}(e:¬ p.1=k):valV (p::r) k=valV r k:=by simp [valV,dC,e]
theorem jDN (k:κ):∀ kvs:List (κ×V),(kvs.any fun kv=>decide (kv.1=k))=(valV kvs k).isSome
 | []=>rfl
 | p::r=>by
  rw[eC]
  by_cases e:p.1=k
  ·simp only [jBA e,aK e,Bool.true_or,Option.isSome_some]
  ·rw[jAW e,aM e,gP]; exact jDN k r
theorem jB7 (kvs:List (κ×V))(k:κ)(v:V):(putK kvs k v).length<=kvs.length+1:=by
 unfold putK
 split
 ·rw[ab]; omega
 ·rw[aj,aZ,dB]; omega
theorem jGE {kvs:List (κ×V)}{k:κ}(v:V)(h:valV kvs k=none):putK kvs k v=kvs++[(k,v)]:=by
 unfold putK
 rw[jDN,h]
 exact ax (by decide)
theorem RelO.isSome_eq {o:Option V}{u:Option Value}(r:RelO o u):o.isSome=u.isSome:=by
 cases o with
 | none=>cases u with
  | none=>rfl
  | some _=>exact(show False from r).elim
 | some _=>cases u with
  | none=>exact(show False from r).elim
  | some _=>rfl
theorem KV.val {kvs:List (κ×V)}{vs:List (κ×Value)}(r:KV kvs vs)(k:κ):RelO (valV kvs k) (valueAt vs k):=by
 unfold KV at r
 induction r with
 | nil=>exact True.intro
 | @cons p q ps qs h t ih=>
  obtain⟨h1,h2⟩:=h
  by_cases e:p.1=k
  ·have e':q.1=k:=h1.symm.trans e
   have b:valueAt (q::qs) k=some q.2:=by simp [valueAt,dC,e']
   rw[jBA e,b]; exact h2
  ·have e':¬ q.1=k:=fun z=>e (h1.trans z)
   have b:valueAt (q::qs) k=valueAt qs k:=by simp [valueAt,dC,e']
   rw[jAW e,b]; exact ih
theorem KV.any {kvs:List (κ×V)}{vs:List (κ×Value)}(r:KV kvs vs)(k:κ):(kvs.any fun kv=>decide (kv.1=k))=vs.any fun kv=>decide (kv.1=k):=by
 unfold KV at r
 induction r with
 | nil=>rfl
 | cons h t ih=>rw[eC,eC,ih,h.1]
theorem KV.repl {kvs:List (κ×V)}{vs:List (κ×Value)}(r:KV kvs vs)(k:κ){y:V}{u:Value}(ry:RelV y u):
  KV (kvs.map fun kv=>if kv.1=k then (kv.1,y) else kv) (vs.map fun kv=>if kv.1=k then (kv.1,u) else kv):=by
 unfold KV at r ⊢
 induction r with
 | nil=>exact .nil
 | @cons p q ps qs h t ih=>
  rw[bq,bq]
  refine .cons ?_ ih
  obtain⟨h1,h2⟩:=h
  by_cases e:p.1=k
  ·rw[ao e,ao (h1.symm.trans e)]; exact⟨h1,ry⟩
  ·rw[ax e,ax (fun z=>e (h1.trans z))]; exact⟨h1,h2⟩
theorem KV.put {kvs:List (κ×V)}{vs:List (κ×Value)}(r:KV kvs vs)(k:κ){y:V}{u:Value}(ry:RelV y u):KV (putK kvs k y) (stored vs k u):=by
 unfold putK stored
 rw[r.any k]
 by_cases e:(vs.any fun kv=>decide (kv.1=k))=true
 ·rw[ao e,ao e]; exact r.repl k ry
 ·rw[ax e,ax e]; exact Paired.snoc r ⟨rfl,ry⟩
theorem KV.keys {kvs:List (κ×V)}{vs:List (κ×Value)}(r:KV kvs vs):kvs.map (·.1)=vs.map (·.1):=by
 unfold KV at r
 induction r with
 | nil=>rfl
 | cons h t ih=>rw[bq,bq,ih,h.1]
theorem KV.length {kvs:List (κ×V)}{vs:List (κ×Value)}(r:KV kvs vs):kvs.length=vs.length:=Paired.length r
end
theorem kV_is {P:Program}{w:World}{k:Key}{u:Value}(r:RelV (kV k) u):(jY P w).is k u=true:=by
 cases k with
 | inl i=>obtain⟨t,e⟩:=(show ∃ t,u=Value.int i t from r); subst e; exact jFT P w i t
 | inr x=>obtain⟨t,e⟩:=(show ∃ t,u=Value.str x t from r); subst e; exact jFS P w x t
theorem jF3 {P:Program}{w:World} :∀ {ks:List Key}{us:List Value},Vals (ks.map kV) us->ItemsAre (jY P w) ks us
 | [],_,r=>by rw[gq] at r; cases r; exact .nil
 | k::ks,_,r=>by
  rw[bq] at r
  cases r with
  | cons h t=>exact .cons (kV_is h) (jF3 t)
abbrev KT (H:Hp):List (List Key×V)->List (List Key×Addr×Value)->Prop:=Paired fun p q=>p.1=q.1/\H q.2.1=some (.tup (p.1.map kV))/\RelV p.2 q.2.2
theorem KT.val {H:Hp}{kvs:List (List Key×V)}{xs:List (List Key×Addr×Value)}(r:KT H kvs xs)(k:List Key):RelO (valV kvs k) ((atKey xs k).map (·.2)):=by
 induction r with
 | nil=>exact True.intro
 | @cons p q ps qs h t ih=>
  obtain⟨h1,_,h2⟩:=h
  by_cases e:p.1=k
  ·have e':q.1=k:=h1.symm.trans e
   have b:atKey (q::qs) k=some q.2:=by simp [atKey,dC,e']
   rw[jBA e,b]; exact h2
  ·have e':¬ q.1=k:=fun z=>e (h1.trans z)
   have b:atKey (q::qs) k=atKey qs k:=by simp [atKey,dC,e']
   rw[jAW e,b]; exact ih
theorem KT.repl {H:Hp}{kvs:List (List Key×V)}{xs:List (List Key×Addr×Value)}(r:KT H kvs xs)(k:List Key){y:V}{u:Value}(ry:RelV y u):
  KT H (kvs.map fun kv=>if kv.1=k then (kv.1,y) else kv) (xs.map (putAt k u)):=by
 induction r with
 | nil=>exact .nil
 | @cons p q ps qs h t ih=>
  rw[bq,bq]
  refine .cons ?_ ih
  obtain⟨h1,h2,h3⟩:=h
  unfold putAt
  by_cases e:p.1=k
  ·rw[ao e,ao (h1.symm.trans e)]; exact⟨h1,h2,ry⟩
  ·rw[ax e,ax (fun z=>e (h1.trans z))]; exact⟨h1,h2,h3⟩
theorem KT.put {H:Hp}{kvs:List (List Key×V)}{xs:List (List Key×Addr×Value)}(r:KT H kvs xs)(k:List Key){b:Addr}{y:V}{u:Value}(hb:H b=some (.tup (k.map kV)))(ry:RelV y u):
  KT H (putK kvs k y) (storedH xs k b u):=by
 have e:(kvs.any fun kv=>decide (kv.1=k))=(atKey xs k).isSome:=by
  rw[jDN,(r.val k).isSome_eq,isSome_map]
 unfold putK storedH
 rw[e]
 by_cases q:(atKey xs k).isSome=true
 ·rw[ao q,ao q]; exact r.repl k ry
 ·rw[ax q,ax q]; exact Paired.snoc r ⟨rfl,hb,ry⟩
theorem KT.keeps {H H':Hp}{kvs:List (List Key×V)}{xs:List (List Key×Addr×Value)}(r:KT H kvs xs)(ht:∀ b ys,H b=some (.tup ys)->H' b=some (.tup ys)):KT H' kvs xs:=
 Paired.mapP r fun _ _ z=>⟨z.1,ht _ _ z.2.1,z.2.2⟩
section
variable {P:Program}{w:World}{H:Hp}{h:Heap}{a:Addr}
theorem rd_of {u:HO}(ok:HOk P w H h)(e:Rd H a u):ObjOk P w H h a u:=e.ok ok
theorem dk_rd {kvs:List (Key×V)}(ok:HOk P w H h)(e:Rd H a (.dK kvs)):kvs.length<=sizeLine/\(a==sysModules)=false/\∃ vs,KV kvs vs/\h.DictOf (jY P w) a vs:=
 show ObjOk P w H h a (.dK kvs) from rd_of ok e
theorem dk_of {kvs:List (Key×V)}(ok:HOk P w H h)(e:H a=some (.dK kvs)):kvs.length<=sizeLine/\(a==sysModules)=false/\∃ vs,KV kvs vs/\h.DictOf (jY P w) a vs:=dk_rd ok (.inl e)
theorem jGN {ks:List Key}(ok:HOk P w H h)(e:H a=some (.tup (ks.map kV))):(tupleKind (jY P w)).is h ks a:=by
 obtain⟨_,its,r,p⟩:=(show ObjOk P w H h a (.tup (ks.map kV)) from ok a _ e)
 obtain⟨o,h1,h2,n,h3⟩:=p.isTup
 exact⟨o,its.toArray,n,h1,h2,h3,by simpa using jF3 r⟩
theorem dt_rd {kvs:List (List Key×V)}(ok:HOk P w H h)(e:Rd H a (.dT kvs)):kvs.length<=sizeLine/\(a==sysModules)=false/\
  ∃ xs,KT H kvs xs/\h.DictOfH (tupleKind (jY P w)) a xs:=by
 obtain⟨z,y,xs,r,o,es,ep,h1,h2,h3,h4,h5⟩:=(show ObjOk P w H h a (.dT kvs) from rd_of ok e)
 refine⟨z,y,xs,r,o,es,ep,h1,h2,h3,h4,fun x hx=>?_,h5⟩
 have all:∀ {l:List (List Key×V)}{m:List (List Key×Addr×Value)},KT H l m->∀ x∈m,(tupleKind (jY P w)).is h x.1 x.2.1:=by
  intro l m q
  induction q with
  | nil=>intro x hx; exact nomatch hx
  | @cons p q ps qs hq t ih=>
   intro x hx
   rcases aH.mp hx with e | hx
   ·subst e
    exact jGN ok (by rw[<- hq.1]; exact hq.2.1)
   ·exact ih x hx
 exact all r x hx
theorem dt_of {kvs:List (List Key×V)}(ok:HOk P w H h)(e:H a=some (.dT kvs)):kvs.length<=sizeLine/\(a==sysModules)=false/\
  ∃ xs,KT H kvs xs/\h.DictOfH (tupleKind (jY P w)) a xs:=dt_rd ok (.inl e)
end
def DGet (H:Hp)(a:Addr)(y:V)(r:Option V):Prop:=
 (∃ kvs k,Rd H a (.dK kvs)/\y=kV k/\r=valV kvs k)\/∃ kvs k b,Rd H a (.dT kvs)/\y= .ref b/\H b=some (.tup (k.map kV))/\r=valV kvs k
def DPut (H:Hp)(a:Addr)(y v:V)(H':Hp):Prop:=
 (∃ kvs k,H a=some (.dK kvs)/\y=kV k/\kvs.length<sizeLine/\H'=upd H a (.dK (putK kvs k v)))\/
 ∃ kvs k b,H a=some (.dT kvs)/\y= .ref b/\H b=some (.tup (k.map kV))/\kvs.length<sizeLine/\H'=upd H a (.dT (putK kvs k v))
theorem DGet.k {H:Hp}{a:Addr}{kvs:List (Key×V)}{k:Key}(e:H a=some (.dK kvs)):DGet H a (kV k) (valV kvs k):= .inl ⟨kvs,k, .inl e,rfl,rfl⟩
theorem DPut.k {H:Hp}{a:Addr}{kvs:List (Key×V)}{k:Key}{v:V}(e:H a=some (.dK kvs))(hl:kvs.length<sizeLine):DPut H a (kV k) v (upd H a (.dK (putK kvs k v))):= .inl ⟨kvs,k,e,rfl,hl,rfl⟩
section
variable {X:Cx}{pins:List (Addr×Obj)}{σ:St}{H:Hp}{s:Shared}{a:Addr}{y v:V}{u r:Value}{o:Option V}{A:Around}{E:Value->Shared->Prop}
theorem Inv.big (I:Inv X pins σ H s):sysModules<s.heap.objs.size:=by
 have h:mainGlobals<s.heap.objs.size:=(I.mod.glob.keeps I.bk).lt
 exact Nat.lt_trans (by decide) h
theorem jJI {Q:Value->Shared->Prop}(hu:A.units+1<cLine)(I:Inv X pins σ H s)(g:DGet H a y (some v))(ry:RelV y u)(h:∀ w' s',Inv X pins σ H s'->RelV v w'->Q w' s'):
  wpAny (model X.prog X.w) A (getItem (.ref a) u) Q E s:=by
 rcases g with ⟨kvs,k,e,ey,l⟩ | ⟨kvs,k,b,e,ey,eb,l⟩
 ·subst ey
  obtain⟨z,hd,vs,rel,dd⟩:=dk_rd I.hok e
  obtain⟨w',hw,rw'⟩:=RelO.some_of (v:=v) (o:=valueAt vs k) (by rw[l]; exact rel.val k)
  exact wpAny_getItem_of (kV_is ry) dd.mapOf hw (h w' _ (I.tok _) rw')
 ·subst ey
  cases (show u=Value.ref b from ry)
  obtain⟨z,hd,xs,rel,dd⟩:=dt_rd I.hok e
  obtain⟨w',hw,rw'⟩:=RelO.some_of (v:=v) (o:=(atKey xs k).map (·.2)) (by rw[l]; exact rel.val k)
  obtain⟨p,hp,hp2⟩:=Option.map_eq_some_iff.mp hw
  refine wpAny_getItem_heap (fk hu) (jGN I.hok eb) dd hp ?_
  rw[hp2]
  exact h w' _ (I.tok _) rw'
theorem jNV {Q:Value->Shared->Prop}(hu:A.units+1<cLine)(I:Inv X pins σ H s)(g:DGet H a y o)(ry:RelV y u)(h:∀ s',Inv X pins σ H s'->Q (.bool (!o.isSome)) s'):
  wpAny (model X.prog X.w) A (compareOp .NotIn u (.ref a)) Q E s:=by
 rcases g with ⟨kvs,k,e,ey,l⟩ | ⟨kvs,k,b,e,ey,eb,l⟩
 ·subst ey
  obtain⟨z,hd,vs,rel,dd⟩:=dk_rd I.hok e
  refine wpAny_notIn_of (kV_is ry) hd dd.mapOf ?_
  rw[<- (rel.val k).isSome_eq,<- l]
  exact h _ (I.tok _)
 ·subst ey
  cases (show u=Value.ref b from ry)
  obtain⟨z,hd,xs,rel,dd⟩:=dt_rd I.hok e
  refine wpAny_notIn_heap (fk hu) (jGN I.hok eb) hd dd ?_
  have q:=(rel.val k).isSome_eq
  rw[isSome_map] at q
  rw[<- q,<- l]
  exact h _ (I.tok _)
theorem jG1 {h':Heap}{t':Nat}{ob:HO}(I:Inv X pins σ H s)(mu:Mut (H a))(hs:Heap.SameBut a s.heap h')(he:∃ q,h'.get? a=some q)(new:ObjOk X.prog X.w (upd H a ob) h' a ob):
  Inv X pins σ (upd H a ob) { s with heap:=h',toks:=t'} :=
 I.write (x:=a) (e:=a) mu (.inl rfl) (fun b q hb z=>(hs.2 b hb).trans z) he new
theorem jLW {P:Program}{w:World}{H':Hp}{h':Heap}{kvs:List (Key×V)}{vs:List (Key×Value)}(z:kvs.length<=sizeLine)(hd:(a==sysModules)=false)(rel:KV kvs vs)(dd:h'.DictOf (jY P w) a vs):
  ObjOk P w H' h' a (.dK kvs):=⟨z,hd,vs,rel,dd⟩
theorem jJH {H':Hp}{Q:Unit->Shared->Prop}(hu:A.units+1<cLine)(I:Inv X pins σ H s)(g:DPut H a y v H')(ry:RelV y u)(rv:RelV v r)(h:∀ s',Inv X pins σ H' s'->Q () s'):
  wpAny (model X.prog X.w) A (setItem (.ref a) u r) Q E s:=by
 rcases g with ⟨kvs,k,e,ey,l,eH⟩ | ⟨kvs,k,b,e,ey,eb,l,eH⟩
 ·subst ey eH
  obtain⟨z,hd,vs,rel,dd⟩:=dk_of I.hok e
  have hz:vs.length<=sizeLine:=by rw[<- rel.length]; exact z
  have hl:(putK kvs k v).length<=sizeLine:=by have:=jB7 kvs k v; omega
  refine wpAny_setItem_pairs (hsz:=hz) (kV_is ry) dd fun h' dd' hs=>h _ ?_
  have he:∃ q,h'.get? a=some q:=let ⟨q,_,_,hq,_⟩:=dd'; ⟨q,hq⟩
  exact jG1 I (by rw[e]; exact True.intro) hs he (jLW hl hd (rel.put k rv) dd')
 ·subst ey eH
  cases (show u=Value.ref b from ry)
  obtain⟨z,hd,xs,rel,dd⟩:=dt_of I.hok e
  have hz:xs.length<=sizeLine:=by rw[<- Paired.length rel]; exact z
  have hl:(putK kvs k v).length<=sizeLine:=by have:=jB7 kvs k v; omega
  refine wpAny_setItem_heap (hsz:=hz) (fk hu) (jGN I.hok eb) dd fun h' dd' hs=>h _ ?_
  obtain⟨q,es,ep,hq,h2,h3,h4,_,h5⟩:=dd'
  refine jG1 I (by rw[e]; exact True.intro) hs ⟨q,hq⟩ ⟨hl,hd,_,(rel.put k eb rv).keeps fun c ys ec=>?_,q,es,ep,hq,h2,h3,h4,h5⟩
  rw[j8 (ne_of ec e (fun z=>nomatch z))]
  exact ec
end
section
variable {X:Cx}{pins:List (Addr×Obj)}{σ:St}{H:Hp}{s:Shared}{a:Addr}{kvs:List (Key×V)}{k:Key}{u:Value}{A:Around}{E:Value->Shared->Prop}
end
def NoSl (i:Expr):Prop:=∀ ov iv,subscripted i false ov iv=operate [ov,iv] (getItem ov iv)
theorem jM7 {prog:Program}{w:World}{A:Around}{E:Value->Shared->Prop}{s:Shared}{env:Env}{value slice:Expr}{pos:Pos}{T id:String}{Q:Value->Shared->Prop}
  (hl:typeLookup (.type T) "__getitem__" =pure (some (.builtin id))) (hs:NoSl slice)
  (h:wpAny (model prog w) A (eval value env) (fun o s₁=>wpAny (model prog w) A (eval slice env) (fun i s₂=>s₂.TypeIs o T/\wpAny (model prog w) A (getItem o i) Q E s₂) E s₁) E s):
  wpAny (model prog w) A (eval (.Subscript value slice pos) env) Q E s:=by
 refine Subscript_ (bS h (fun o s₁ h₁=>bS h₁ (fun i s₂ h₂=>?_) fun _ _ x=>x) fun _ _ x=>x)
 obtain⟨hT,h₂⟩:=h₂
 unfold subscriptTail
 refine aa ?_
 rw[getitemInPython_of_ne hT.not_modules]
 refine aa (wpAny_specialOf hT hl ?_)
 have fin:wpAny (model prog w) A (subscripted slice false o i) (fun r s₃=>wpAny (model prog w) A (letTemporaryGo value o r >>= fun _=>pure r) Q E s₃) E s₂:=by
  rw[hs o i]
  exact wpAny_operating (bS h₂ (fun r s₃ h₃=>aa (wpAny_letTemporaryGo (am h₃))) fun _ _ x=>x)
 first
  | exact am (aa fin)
  | exact aa (am (aa fin))
  | exact aa fin
theorem jG0 {X:Cx}{pins:List (Addr×Obj)}{σ:St}{H:Hp}{s:Shared}{a:Addr}{y:V}{o:Option V}(I:Inv X pins σ H s)(g:DGet H a y o):s.TypeIs (.ref a) "dict" :=by
 rcases g with ⟨kvs,k,e,_,_⟩ | ⟨kvs,k,b,e,_,_,_⟩
 ·obtain⟨_,_,vs,_,dd⟩:=dk_rd I.hok e
  exact dd.typeIs
 ·obtain⟨_,_,xs,_,dd⟩:=dt_rd I.hok e
  exact dd.typeIs
def tDGet (td ty:TE):TE:=fun σ H Q=>td σ H fun x H1=>ty σ H1 fun y H2=>∃ a v,x= .ref a/\DGet H2 a y (some v)/\Q v H2
def jHS (ty td:TE):TE:=fun σ H Q=>ty σ H fun y H1=>td σ H1 fun x H2=>∃ a o,x= .ref a/\DGet H2 a y o/\Q (.bl (!o.isSome)) H2
def sDPut (td ty tv:TE):TS:=fun D σ H=>tv σ H fun v H1=>td σ H1 fun x H2=>ty σ H2 fun y H3=>∃ a H4,x= .ref a/\DPut H3 a y v H4/\D.nx σ H4
section
variable {X:Cx}{o i e value:Expr}{pos pos' tpos:Pos}{td ty tv:TE}
theorem jMT (hu:X.A.units+1<cLine)(ho:PE X o td)(hi:PE X i ty)(hs:NoSl i):PE X (.Subscript o i pos) (tDGet td ty):=by
 intro pins s σ H Q I h
 refine jM7 PySem.F.slot_dict_getitem.lookup hs (thn (ho pins s σ H _ I h) fun u s1 ⟨x,H1,I1,rx,q1⟩=>thn (hi pins s1 σ H1 _ I1 q1) fun iv s2 ⟨y,H2,I2,ry,a,v,ex,g,q2⟩=>?_)
 subst ex
 obtain rfl:u=Value.ref a:=rx
 exact⟨jG0 I2 g,jJI hu I2 g ry fun w' s3 I3 rw'=>⟨v,H2,I3,rw',q2⟩⟩
theorem jI7 (hu:X.A.units+1<cLine)(hi:PE X i ty)(ho:PE X o td):PC X .NotIn i o (jHS ty td):=by
 intro pins s σ H Q I h
 refine thn (hi pins s σ H _ I h) fun iv s1 ⟨y,H1,I1,ry,q1⟩=>thn (ho pins s1 σ H1 _ I1 q1) fun u s2 ⟨x,H2,I2,rx,a,ov,ex,g,q2⟩=>?_
 subst ex
 obtain rfl:u=Value.ref a:=rx
 exact jNV hu I2 g ry fun s3 I3=>⟨.bl (!ov.isSome),H2,I3,rfl,q2⟩
theorem jMK (hu:X.A.units+1<cLine)(ho:PE X o td)(hi:PE X i ty)(hv:PE X value tv)(hs:swapsWith value (some (.Subscript o i pos')) pos.line X.env=pure false):
  PS X (.Assign [.Subscript o i pos'] value pos) (sDPut td ty tv):=by
 intro pins s σ H D I h
 refine wpAny_Assign_Subscript (thn (hv pins s σ H _ I h) fun r s1 ⟨v,H1,I1,rv,q1⟩=>thn (ho pins s1 σ H1 _ I1 q1) fun u s2 ⟨x,H2,I2,rx,q2⟩=>thn (hi pins s2 σ H2 _ I2 q2) fun iv s3 ⟨y,H3,I3,ry,a,H4,ex,g,q3⟩=>?_) hs
 subst ex
 obtain rfl:u=Value.ref a:=rx
 exact jJH hu I3 g ry rv fun s4 I4=>⟨σ,H4,I4,q3⟩
end
theorem jL0 {P:Program}{w:World}{H:Hp}(h:Heap)(hb:sysModules<h.objs.size):ObjOk P w H (h.push { cls:= .type "dict",data:= .dict #[]}) h.objs.size (.dK []):=
 ⟨bH _,cy.mpr (cL (ba hb)),[], .nil,Heap.DictOf.new h⟩
section
variable {X:Cx}{pos:Pos}
end
def jHQ:List (TE×TE)->St->Hp->(List (V×V)->Hp->Prop)->Prop
 | [],_,H,Q=>Q [] H
 | (tk,tv)::r,σ,H,Q=>tk σ H fun x H1=>tv σ H1 fun y H2=>jHQ r σ H2 fun ps H3=>Q ((x,y)::ps) H3
abbrev VV:List (V×V)->List (Value×Value)->Prop:=Paired fun p q=>RelV p.1 q.1/\RelV p.2 q.2
def PPs (X:Cx)(pos:Pos)(keys:List (Option Expr))(values:List Expr)(trs:List (TE×TE)):Prop:=
 ∀ (pins:List (Addr×Obj)) (s:Shared) (σ:St) (H:Hp) (Q:List (V×V)->Hp->Prop),Inv X pins σ H s->jHQ trs σ H Q->
  wpAny (model X.prog X.w) X.A (evalPairs (pairTrees keys values X.env pos)) (fun vs s'=>∃ ps H',Inv X pins σ H' s'/\VV ps vs/\Q ps H') X.xe s
theorem jML {X:Cx}{pos:Pos} :PPs X pos [] [] []:=fun pins s σ H Q I h=>pairTrees_nil_walk ⟨[],H,I, .nil,h⟩
theorem jK4 {X:Cx}{pos:Pos}{k v:Expr}{ks:List (Option Expr)}{vs:List Expr}{tk tv:TE}{trs:List (TE×TE)}(hk:PE X k tk)(hv:PE X v tv)(hr:PPs X pos ks vs trs):
  PPs X pos (some k::ks) (v::vs) ((tk,tv)::trs):=fun pins s σ H Q I h=>
 pairTrees_cons_walk (thn (hk pins s σ H _ I h) fun u s1 ⟨x,H1,I1,rx,q1⟩=>thn (hv pins s1 σ H1 _ I1 q1) fun w2 s2 ⟨y,H2,I2,ry,q2⟩=>
  thn (hr pins s2 σ H2 _ I2 q2) fun ws s3 ⟨ps,H3,I3,rel,q3⟩=>⟨(x,y)::ps,H3,I3, .cons ⟨rx,ry⟩ rel,q3⟩)
def jEU (kvs more:List (Key×V)):List (Key×V):=more.foldl (fun acc kv=>putK acc kv.1 kv.2) kvs
theorem KV.merge:∀ {more:List (Key×V)}{rs:List (Key×Value)}{kvs:List (Key×V)}{vs:List (Key×Value)},KV more rs->KV kvs vs->KV (jEU kvs more) (merged vs rs):=by
 intro more rs kvs vs r
 unfold KV at r
 induction r generalizing kvs vs with
 | nil=>intro q; exact q
 | @cons p q ps qs h t ih=>
  intro r0
  have e:KV (putK kvs p.1 p.2) (stored vs q.1 q.2):=by
   have:=r0.put p.1 h.2
   rw[<- h.1]; exact this
  exact ih e
theorem jBI:∀ (more kvs:List (Key×V)),(jEU kvs more).length<=kvs.length+more.length
 | [],kvs=>by show kvs.length<=kvs.length+0; omega
 | p::r,kvs=>by
  have h1:=jBI r (putK kvs p.1 p.2)
  have h2:=jB7 kvs p.1 p.2
  show (jEU (putK kvs p.1 p.2) r).length<=_
  rw[aZ]; omega
theorem jDD {P:Program}{w:World} :∀ {kvs:List (Key×V)}{ws:List (Value×Value)},VV (kvs.map fun kv=>(kV kv.1,kv.2)) ws->∃ rs,Carries (jY P w) ws rs/\KV kvs rs
 | [],_,r=>by rw[gq] at r; cases r; exact⟨[],True.intro, .nil⟩
 | p::kvs,_,r=>by
  rw[bq] at r
  cases r with
  | @cons a b as bs h t=>
   obtain⟨rs,c,q⟩:=jDD (P:=P) (w:=w) t
   obtain⟨b1,b2⟩:=b
   exact⟨(p.1,b2)::rs,⟨kV_is h.1,rfl,c⟩, .cons ⟨rfl,h.2⟩ q⟩
def tDisp (trs:List (TE×TE)):TE:=fun σ H Q=>∀ p,H p=none->jHQ trs σ (upd H p (.dK [])) fun ps H2=>H2 p=some (.dK [])/\∃ kvs:List (Key×V),ps=kvs.map (fun kv=>(kV kv.1,kv.2))/\kvs.length<=15/\Q (.ref p) (upd H2 p (.dK (jEU [] kvs)))
theorem jMS {X:Cx}{pos:Pos}{keys:List (Option Expr)}{values:List Expr}{trs:List (TE×TE)}(h:PPs X pos keys values trs)(hall:keys.all (·.isSome)=true)(hl:keys.length=values.length)(h0:keys≠ [])
  (h15:keys.length<=15):PE X (.Dict keys values pos) (tDisp trs):=by
 intro pins s σ H Q I q
 have hn:=I.hok.fresh (az s.heap.objs.size)
 have I1:=I.laid (a:=s.heap.objs.size) (o:= .dK []) (h':=s.heap.push { cls:= .type "dict",data:= .dict #[]}) (t':=s.toks) (fun _ _ q=>ae _ q) (az _) (jL0 s.heap I.big)
 refine wpAny_Dict_walk (knd:=jY X.prog X.w) hall hl h0 h15 (thn (h pins _ σ _ _ I1 (q _ hn)) fun ws s2 ⟨ps,H2,I2,rel,e,kvs,ep,lk,q2⟩=>?_)
 subst ep
 obtain⟨rs,c,rk⟩:=jDD (P:=X.prog) (w:=X.w) rel
 obtain⟨z,hd,vs0,r0,dd⟩:=dk_of I2.hok e
 cases r0
 refine⟨rs,c,dd,fun h' dd' hs=>⟨.ref s.heap.objs.size,_,?_,rfl,q2⟩⟩
 have hz:(jEU [] kvs).length<=sizeLine:=by
  have h1:=jBI kvs []
  rw[dB] at h1
  rw[dG]; omega
 have he:∃ q,h'.get? s.heap.objs.size=some q:=let ⟨q,_,_,hq,_⟩:=dd'; ⟨q,hq⟩
 exact jG1 I2 (by rw[e]; exact True.intro) hs he (jLW hz hd (rk.merge .nil) dd')
section
variable {X:Cx}{pins:List (Addr×Obj)}{σ:St}{H:Hp}{s:Shared}{a:Addr}{y d:V}{u r:Value}{o:Option V}{A:Around}{E:Value->Shared->Prop}
end
section
variable {X:Cx}{o e f:Expr}{apos cpos:Pos}{td ty tx:TE}
end
section
variable {X:Cx}{pins:List (Addr×Obj)}{σ:St}{H:Hp}{s:Shared}{a:Addr}{kvs:List (Key×V)}{A:Around}{E:Value->Shared->Prop}
end
section
variable {X:Cx}{pins:List (Addr×Obj)}{σ:St}{H:Hp}{s:Shared}{a:Addr}{y:V}{u:Value}{A:Around}{E:Value->Shared->Prop}
end
section
variable {κ:Type} [DecidableEq κ]
end
section
variable {prog:Program}{w:World}{A:Around}{E:Value->Shared->Prop}{s:Shared}{d:Addr}{kvs:List (Key×Value)}
theorem jG3 {T:String}{r d:Addr}{n:Nat}{P:Nat->Value->Prop}{OK:Heap->Prop}{R:List Value->Shared->Prop}(K:PySem.W.KdlSrc prog w T r d n P OK)(hh:A.handled=none)(hok:OK s.heap)(hn:n<=sizeLine)
  (h:∀ (h':Heap) (tk:Nat) (acc:Array Value),(∀ b o,s.heap.get? b=some o->h'.get? b=some o)->s.heap.objs.size<h'.objs.size->ItemsOf P acc n->R acc.toList { s with heap:=h',toks:=tk}):
  wpAny (model prog w) A (collect (.ref r)) R E s:=by
 have hlt:=K.there _ hok
 unfold collect
 refine aa (wpAny_runValue (eW entry_proto_collect' ?_))
 rw[Around.under_plainId PySem.F.plain_proto_collect _]
 show wpAny _ A.in1 (newList [] >>= fun l=>again (.builtin "list.__iadd__" ⟨[l, .ref r],[]⟩)) _ _ s
 refine aa (cq ?_)
 refine am ⟨plainId_quiet ga _,eW entry_list_iadd' ?_⟩
 rw[Around.under_plainId ga _]
 have hS:(s.heap.push { cls:= .type "list",data:= .seq ([]:List Value).toArray}).get? s.heap.objs.size=some { cls:= .type "list",data:= .seq #[]} :=aE _ rfl
 show wpAny _ A.in1 (Builtin.List.listExtendWith (.ref s.heap.objs.size) (.ref r) (.ref s.heap.objs.size)) _ _ _
 refine bS (PySem.W.kdl_extend (A:=A) (s:= { s with heap:=s.heap.push { cls:= .type "list",data:= .seq ([]:List Value).toArray}})
  (R:=fun (q:Result) (s':Shared)=>∃ (h':Heap) (tk:Nat) (acc:Array Value) (c:Nat),q= .ok (.ret (.ref s.heap.objs.size))/\s'= { s with heap:=h',toks:=tk} /\
   (∀ b o,s.heap.get? b=some o->h'.get? b=some o)/\h'.get? s.heap.objs.size=some { cls:= .type "list",dict:=none,data:= .seq acc c,slots:=#[]} /\ItemsOf P acc n)
  K hh (K.keep _ _ hok fun b _ o e=>ae _ e) s.heap.objs.size (dv hlt.1) (dv hlt.2) (.ref s.heap.objs.size) 0 hS
  (fun h' tk acc c hk hS' hacc=>⟨h',tk,acc,c,rfl,rfl,fun b o e=>hk b o (ba (aB e)) (ae _ e),hS',hacc⟩) hn) (fun fin s' x=>?_) fun e s' x=>?_
 ·cases fin with
  | done f=>
   obtain⟨h',tk,acc,c,e,rfl,hk,hS',hacc⟩:=x
   cases e
   show wpAny _ A (load s.heap.objs.size >>= _) _ _ _
   exact aa (gQ hS' (am (h h' tk acc hk (aB hS') hacc)))
  | again c1=>
   refine⟨x.1,dZ x.2 fun q s2 y=>?_⟩
   obtain⟨h',tk,acc,c,rfl,rfl,hk,hS',hacc⟩:=y
   show wpAny _ A (load s.heap.objs.size >>= _) _ _ _
   exact aa (gQ hS' (am (h h' tk acc hk (aB hS') hacc)))
 ·obtain⟨_,_,_,_,e',_⟩:=x
  cases e'
end
section
variable {X:Cx}{o i e f value:Expr}{td ty tv tx:TE}{pos pos' apos cpos:Pos}
theorem jJ0 (hu:X.A.units+1<cLine)(ho:JE X o td)(hi:JE X i ty)(hs:jAU i):JE X (.Subscript o i pos) (tDGet td ty):=⟨jMT hu ho.h hi.h hs⟩
theorem jFW (hu:X.A.units+1<cLine)(ho:JE X o td)(hi:JE X i ty)(hv:JE X value tv)(hs:SwOk value (some (.Subscript o i pos'))):JS X (.Assign [.Subscript o i pos'] value pos) (sDPut td ty tv):=⟨jMK hu ho.h hi.h hv.h (hs.h _ _)⟩
end
section
variable {prog:Program}{w:World}{A:Around}{E:Value->Shared->Prop}{s:Shared}
end
section
variable {prog:Program}{w:World}{K:Type} [DecidableEq K]{knd:KeyKind prog w K}{A:Around}{R:Result->Shared->Prop}{I:Addr}{fp wr:List Addr}{n:Nat}{P:Nat->Value->Prop}{St:Nat->Shared->Prop}
end
section
variable {prog:Program}{w:World}{K:Type} [DecidableEq K]{knd:KeyKind prog w K}{A:Around}{E:Value->Shared->Prop}{s:Shared}
end
section
variable {X:Cx}
end
section
variable {X:Cx}
end
section
variable {P:Program}{w:World}{K:W.Frag}{mg:Str->Option Value}{base:Heap}{N:List Str}{qual:Str}{sc:Scope}{f:Addr}{cd:Value}{cl:List (Str×Addr)}{A:Around}{outer:List Env}{s:Shared}{H:Hp}{x:Str}
theorem yS (h:sc.names.lookup x=some .local):Vis1 (cxN P w K mg base N qual sc f cd cl A outer s H) x:=⟨.inl h⟩
theorem jO6 (h:sc.names.lookup x=some .free):Vis1 (cxN P w K mg base N qual sc f cd cl A outer s H) x:=⟨.inr (.inr h)⟩
theorem loc_n (h:sc.names.lookup x=some .local):Loc1 (cxN P w K mg base N qual sc f cd cl A outer s H) x:=⟨.inl h, .inr h⟩
end
section
variable {X:Cx}
theorem jPG {x:Str}{args:Arguments}{body:List Stmt}{scope:Scope}{pos:Pos}{c0 T:Addr}{j:Nat}(hN:X.N.Nodup)(hj:X.N[j]?=some x)(lx:Loc1 X x)(hcode:X.env.code= .ref c0)(CH:PySem.W.CodeHd X.base c0 T)(hbm:BltAt X.base X.mg)
  (hfree:∀ y∈scope.names,y.2= .free->X.env.scope.names.lookup y.1=some .cell\/X.env.scope.names.lookup y.1=some .free) (hdf:defaultsOf args X.env=([],[])) (han:annTrees args none X.env=[]):
  JS X (.FunctionDef x args body [] none [] scope none x pos) (tDef x (qualnameIn X.env x x) args body scope (jM X.env.cells scope.names []) T pos j):=⟨jOQ hN hj lx.a hcode CH hbm hfree hdf han lx.b⟩
def AtS (tp:Bool)(H:Hp)(a:Addr)(xs:List V):Prop:=match tp with
 | false=>H a=some (.lst xs)
 | true=>H a=some (.tup xs)
end
section
variable {K:W.Frag}{m:List (Option Nat)}{g:TG}{tt:TT}{te:TE}{σ:St}{H1:Hp}{Q:VK}
theorem jJJ {a:Addr}{xs:List V}(hn:xs.length<sizeLine)(Pv:Addr->Nat->St->Hp->List V->Prop)(h0:∀ D,H1 D=none->Pv D 0 (blkσ m σ) (upd H1 D (.lst [])) [])
  (hD:∀ D i σ' H' zs,H1 D=none->Pv D i σ' H' zs->H' a=some (.lst xs)/\H' D=some (.lst zs)/\zs.length<=i)
  (hs:∀ D i σ' H' zs x,H1 D=none->xs[i]?=some x->Pv D i σ' H' zs->g x σ' H' fun σ2 H2=>tt σ2 H2 fun b H3=>if b=true then te σ2 H3 fun v H4=>H4 D=some (.lst zs)/\Pv D (i+1) σ2 (upd H4 D (.lst (zs++[v]))) (zs++[v]) else Pv D (i+1) σ2 H3 zs)
  (hd:∀ D σ' H' zs,H1 D=none->Pv D xs.length σ' H' zs->Q (.ref D) H'):CompW m g tt te σ Q (Itl K a) H1:=by
 intro D hDn
 refine⟨fun i k σ' H' zs=>k=xs.length - i/\i<=xs.length/\Pv D i σ' H' zs,⟨_,rfl,bH _,h0 D hDn⟩,?_⟩
 rintro i k σ' H' zs ⟨rfl,hi,p⟩
 obtain⟨s1,q1,q2⟩:=hD D i σ' H' zs hDn p
 refine⟨q1,by omega,?_⟩
 by_cases hlt:i<xs.length
 ·refine .inr ⟨⟨xs,xs[i],SqL.of s1,by simp [hlt]⟩,Pv D (i+1),fun σ2 H2 zs z=>⟨xs.length - (i+1),by omega,rfl,hlt,z⟩,fun v H'' y=>?_⟩
  obtain⟨e1,e2⟩:=y
  subst e1
  exact hs D i σ' _ zs v hDn (e2 xs (SqL.of s1)) p
 ·have e:i=xs.length:=by omega
  subst e
  exact .inl ⟨⟨xs,SqL.of s1,az _⟩,hd D σ' H' zs hDn p⟩
end
theorem ExtT.of {T:Addr}{H H':Hp}(e:Ext H H'):ExtT T H H':=fun b o h _=>e b o h
theorem ExtT.refl {T:Addr}(H:Hp):ExtT T H H:=fun b o h _=>h
theorem ExtT.trans {T:Addr}{H H' H'':Hp}(a:ExtT T H H')(b:ExtT T H' H''):ExtT T H H'':=fun c o h n=>b c o (a c o h n) n
theorem TabOk.is {H:Hp}{T:Addr}{pos:Pos}{q:Str}(t:TabOk H T pos q):∃ ps,H T=some (.tbl ps):=by
 rcases t with h | ⟨c,h,_⟩
 ·exact⟨_,h⟩
 ·exact⟨_,h⟩
theorem TabOk.ne {H:Hp}{T:Addr}{pos:Pos}{q:Str}(t:TabOk H T pos q){b:Addr}{o:HO}(h:H b=some o)(ho:∀ ps,o≠ .tbl ps):b≠T:=fun e=>by
 obtain⟨ps,z⟩:=t.is
 rw[e,z] at h
 cases h
 exact ho ps rfl
theorem TabOk.ext {H H':Hp}{T:Addr}{pos:Pos}{q:Str}(t:TabOk H T pos q)(e:Ext H H'):TabOk H' T pos q:=by
 rcases t with h | ⟨c,h,h2⟩
 ·exact .inl (e _ _ h)
 ·exact .inr ⟨c,e _ _ h,e _ _ h2⟩
theorem ExtT.at {T:Addr}{H H':Hp}(e:ExtT T H H'){pos:Pos}{q:Str}(t:TabOk H T pos q){b:Addr}{o:HO}(h:H b=some o)(ho:∀ ps,o≠ .tbl ps:=by intro _ z; cases z):H' b=some o:=e b o h (t.ne h ho)
structure FunC (K:W.Frag)(x qual:Str)(st:Stmt)(f:Addr)(fd:FuncData)(c0:Addr):Prop where
 ex:∃ (oc:Value) (od:Option Addr) (kV doc pm:Value) (an:Option Addr) (ct:Value) (osl:Array (Option Value)),fd=PySem.W.fnOf x qual (jI st) (jB st) (j5 st) .none kV doc pm an (.ref c0) ct/\K.lookup f=some ⟨oc,od, .func fd,osl⟩/\PySem.W.codeIn K (.ref c0) qual=true
theorem FunC.ok {P:Program}{w:World}{K:W.Frag}{mg:Str->Option Value}{base:Heap}{x qual:Str}{st:Stmt}{f c0:Addr}{fd:FuncData}{N ps:List Str}{k:Nat}{sp:Sp}(F:FunC K x qual st f fd c0)(S:FnScope N ps (j5 st))(len:∀ vs H Q E,sp vs H Q E->vs.length=ps.length)
  (hbody:∀ (A:Around) (outer:List Env) (s:Shared) (H:Hp) (vs:List V) (Q:VK) (E:XK),Room k (A.deeper (envOfC qual (j5 st) s.heap.objs.size f (.ref c0)))->sp vs H Q E->
   ∃ t,PSs (cxOf CX0 P w K mg base N qual (j5 st) f (.ref c0) A outer s H E).nox (jB st) t/\t { nx:=fun _ H'=>Q .non H',rt:=Q} (yH N vs) H):FnOk P w K mg base CX0 (k+1) f fd ps sp:=by
 obtain⟨oc,od,kV,doc,pm,an,ct,osl,rfl,lk,hcd⟩:=F.ex
 refine fn_of lk hcd S len fun A outer s H vs Q E hr hsp=>?_
 obtain⟨t,ht,hq⟩:=hbody A outer s H vs Q E hr hsp
 exact⟨t,ht.nox,hq⟩
section
variable {X:Cx}{sc:Scope}{cl:List (Str×Addr)}{C:Addr}{Nc:List Str}{fp:List Addr}{s:Shared}{H:Hp}
theorem jKW {sc2:Scope}(h:(sc2.names.all fun y=>decide (y.2= .free->sc.names.lookup y.1=some .cell\/sc.names.lookup y.1=some .free))=true):
  ∀ y∈sc2.names,y.2= .free->(blk X sc cl C Nc fp s H).env.scope.names.lookup y.1=some .cell\/(blk X sc cl C Nc fp s H).env.scope.names.lookup y.1=some .free:=fun y hy hf=>by
 rcases aR (bP.mp h y hy) hf with q | q
 ·exact .inl (jAD (by decide) q)
 ·exact jB0 q
theorem jIT {tg a:Expr}{ta:TE}(hl:JE (blk X sc cl C Nc fp s H) a ta):JI (blk X sc cl C Nc fp s H) tg a (iList X.K ta):=yD hl
variable {sc2:Scope}{cl2:List (Str×Addr)}{C2:Addr}{Nc2:List Str}{fp2:List Addr}{s2:Shared}{H2:Hp}
theorem jG4:yJ (blk X sc cl C Nc fp s H) (.type "tuple") (fun xs H Q=>∃ p ys,xs=[.ref p]/\((SqL X.K H p ys/\∀ l,H l=none->Q (.ref l) (upd H l (.tup ys)))\/(SqT X.K H p ys/\Q (.ref p) H))):=jAC
end
section
variable {K:W.Frag}{m:List (Option Nat)}{g:TG}{tt:TT}{te:TE}{σ:St}{H:Hp}{Q:VK}
abbrev TupsK (H H':Hp):Prop:=∀ b xs,H b=some (.tup xs)->H' b=some (.tup xs)
structure ZOk (Z:Hp->List V->Nat->Prop):Prop where
 z0:∀ H,Z H [] 0
 mono:∀ H H' zs j,TupsK H H'->Z H zs j->Z H' zs j
 len:∀ H zs j,Z H zs j->zs.length<=j
theorem jHO {H:Hp}{D:Addr}{zs:List V}(h:H D=some (.lst zs))(o:HO):TupsK H (upd H D o):=fun b xs hb=>by
 rw[j8 (fun e=>by rw[e,h] at hb; cases hb)]
 exact hb
def TurnZ (g:TG)(tt:TT)(te:TE)(σP:St->Prop)(Z:Hp->List V->Nat->Prop)(x:V)(j:Nat)(σ':St)(H':Hp)(zs:List V):Prop:=
 ∀ (R:St->V->Hp->Prop) (S:St->Hp->Prop),(∀ σ2 v H2,σP σ2->Ext H' H2->Z H2 (zs++[v]) (j+1)->R σ2 v H2)->(∀ σ2 H2,σP σ2->Ext H' H2->Z H2 zs (j+1)->S σ2 H2)->
  g x σ' H' fun σ2 H2=>tt σ2 H2 fun b H3=>if b=true then te σ2 H3 (R σ2) else S σ2 H3
theorem jJK {tp:Bool}{a:Addr}{xs:List V}(σP:St->Prop)(Z:Hp->List V->Nat->Prop)(zo:ZOk Z)(ha:AtS tp H a xs)(hn:xs.length<sizeLine)(h0:σP (blkσ m σ))
  (step:∀ j x σ' H' zs,xs[j]?=some x->σP σ'->Ext H H'->Z H' zs j->TurnZ g tt te σP Z x j σ' H' zs)
  (hd:∀ D H' zs,H' D=some (.lst zs)->Ext H H'->H D=none->Z H' zs xs.length->Q (.ref D) H'):CompW m g tt te σ Q (match tp with | false=>Itl K a | true=>Itt K a) H:=by
 have turn:∀ D j σ' H' zs x,H D=none->xs[j]?=some x->(σP σ'/\Ext H H'/\H' D=some (.lst zs)/\H D=none/\Z H' zs j)->g x σ' H' fun σ2 H2=>tt σ2 H2 fun b H3=>if b=true then te σ2 H3 fun v H4=>H4 D=some (.lst zs)/\(σP σ2/\Ext H (upd H4 D (.lst (zs++[v])))/\(upd H4 D (.lst (zs++[v]))) D=some (.lst (zs++[v]))/\H D=none/\Z (upd H4 D (.lst (zs++[v]))) (zs++[v]) (j+1)) else (σP σ2/\Ext H H3/\H3 D=some (.lst zs)/\H D=none/\Z H3 zs (j+1)):=by
  rintro D j σ' H' zs x hD hx ⟨p,e,h2,hn,hz⟩
  exact step j x σ' H' zs hx p e hz _ _ (fun σ2 v H2 p2 e2 z2=>⟨e2 _ _ h2,p2,(e.trans e2).updNew hn _,j6,hn,zo.mono _ _ _ _ (jHO (e2 _ _ h2) _) z2⟩) fun σ2 H2 p2 e2 z2=>⟨p2,e.trans e2,e2 _ _ h2,hn,z2⟩
 cases tp with
 | false=>exact jJJ (xs:=xs) hn (fun D j σ' H' zs=>σP σ'/\Ext H H'/\H' D=some (.lst zs)/\H D=none/\Z H' zs j) (fun D hD=>⟨h0,(Ext.refl _).new hD _,j6,hD,zo.z0 _⟩) (fun D j σ' H' zs hD ⟨_,e,h2,_,hz⟩=>⟨e _ _ ha,h2,zo.len _ _ _ hz⟩) turn fun D σ' H' zs hD ⟨_,e,h2,hn,hz⟩=>hd D H' zs h2 e hn hz
 | true=>exact jE6 (xs:=xs) hn (fun D j σ' H' zs=>σP σ'/\Ext H H'/\H' D=some (.lst zs)/\H D=none/\Z H' zs j) (fun D hD=>⟨h0,(Ext.refl _).new hD _,j6,hD,zo.z0 _⟩) (fun D j σ' H' zs hD ⟨_,e,h2,_,hz⟩=>⟨e _ _ ha,h2,zo.len _ _ _ hz⟩) turn fun D σ' H' zs hD ⟨_,e,h2,hn,hz⟩=>hd D H' zs h2 e hn hz
theorem jE8 {a:Addr}{xs:List V}(σP:St->Prop)(Z:Hp->List V->Nat->Prop)(zo:ZOk Z)(ha:H a=some (.tup xs))(hn:xs.length<sizeLine)(h0:σP (blkσ m σ))
  (step:∀ j x σ' H' zs,xs[j]?=some x->σP σ'->Ext H H'->Z H' zs j->TurnZ g tt te σP Z x j σ' H' zs)
  (hd:∀ D H' zs,H' D=some (.lst zs)->Ext H H'->H D=none->Z H' zs xs.length->Q (.ref D) H'):CompW m g tt te σ Q (Itt K a) H:=jJK (tp:=true) σP Z zo ha hn h0 step hd
theorem jB2 {a:Addr}{xs:List V}(σP:St->Prop)(Z:Hp->List V->Nat->Prop)(zo:ZOk Z)(ha:H a=some (.lst xs))(hn:xs.length<sizeLine)(h0:σP (blkσ m σ))
  (step:∀ j x σ' H' zs,xs[j]?=some x->σP σ'->Ext H H'->Z H' zs j->TurnZ g tt te σP Z x j σ' H' zs)
  (hd:∀ D H' zs,H' D=some (.lst zs)->Ext H H'->H D=none->Z H' zs xs.length->Q (.ref D) H'):CompW m g tt te σ Q (Itl K a) H:=jJK (tp:=false) σP Z zo ha hn h0 step hd
end
def mapZ {α:Type}(l:List α)(f:α->V):Hp->List V->Nat->Prop:=fun _ zs j=>zs=(l.take j).map f
theorem mapZ.ok {α:Type}(l:List α)(f:α->V):ZOk (mapZ l f):=⟨fun _=>rfl,fun _ _ _ _ _ h=>h,fun _ zs j h=>by
 rw[show zs=_ from h,ab]
 exact cK _ _⟩
theorem mapZ.yes {α:Type}{l:List α}{f:α->V}{H H':Hp}{zs:List V}{j:Nat}{x:α}(h:mapZ l f H zs j)(hx:l[j]?=some x):mapZ l f H' (zs++[f x]) (j+1):=by
 show _=_
 rw[br,hx,aQ,<- show zs=_ from h]
 rfl
theorem mapZ.all {α:Type}{l:List α}{f:α->V}{H:Hp}{zs:List V}{n:Nat}(h:mapZ l f H zs n)(hn:l.length<=n):zs=l.map f:=by
 rw[show zs=_ from h,bC hn]
section
variable {X:Cx}{sc:Scope}{cl:List (Str×Addr)}{C:Addr}{Nc:List Str}{fp:List Addr}{s:Shared}{H:Hp}
end
section
variable {X:Cx}{st:Stmt}{sts:List Stmt}{t:TS}{e:Expr}{tt:TT}
end
end L2
namespace L2
open PySem PySem.Spec PyProof.Rows
end L2
namespace L2
open PySem
end L2
namespace L2
open PySem PySem.Spec PyProof.Rows
section
variable {m:List (Option Nat)}{g:TG}{tt:TT}{te:TE}{σ:St}{H1:Hp}{Q:VK}
end
open PySem.AutoSeq1 (wpAny_loadPart')
section
variable {prog:Program}{w:World}{A:Around}{E:Value->Shared->Prop}{s:Shared}
end
section
variable {X:Cx}
variable {sc:Scope}{cl:List (Str×Addr)}{C:Addr}{Nc:List Str}{fp:List Addr}{s:Shared}{H:Hp}
end
section
variable {X:Cx}
def rMinL (K:W.Frag):List V->Hp->VK->Prop:=fun xs H Q=>∃ (p:Addr) (ns:List Int),xs=[.ref p]/\(SqL K H p (ns.map V.int))/\0<ns.length/\∀ m,m∈ns->(∀ a∈ns,m<=a)->Q (.int m) H
theorem jJP (hc:X.calm=true):yJ X (.builtin "min") (rMinL X.K):=by
 intro pins s σ H xs us Q I r h
 obtain⟨p,ns,rfl,hq,hn,q⟩:=h
 obtain⟨u,rfl,rx⟩:=r.one
 cases rx
 obtain⟨its,r',pl,hz⟩:=I.list hq
 have hlen:=r'.length
 rw[ab] at hlen
 have val:∀ (i:Nat) (v:Value),its[i]?=some v->∃ t,v=Value.int (ns.getD i 0) t:=fun i v hi=>by
  have hb:i<ns.length:=by
   rw[hlen]
   exact(af.mp hi).1
  obtain⟨u,hu,ru⟩:=r'.get (i:=i) (x:= .int (ns[i])) (by simp [hb])
  rw[hi] at hu
  cases hu
  obtain⟨t,rfl⟩:=ru
  exact⟨t,by simp [List.getD,hb]⟩
 refine call_min_walk (da pl.isList ?_)
 have hne:p≠s.heap.objs.size:=by
  obtain⟨o,ho,_⟩:=pl.isList
  exact ba (aB ho)
 refine⟨s.heap.objs.size,_,_,_,_,_,_,rfl,Walks.list (by simpa using I.ok.hd hc) _ p hne its.toArray,⟨⟨_,aE _ rfl,rfl,rfl⟩,pl.isList.push _⟩,(fun b hb=>?_),by rw[aA]; omega,CmpOf.ints_lt (fun i=>ns.getD i 0) (fun i v hP=>val i v (by simpa using hP)),fun v h' tk hP hk=>?_⟩
 ·show b<(s.heap.push _).objs.size
  rw[cr]
  obtain⟨o,ho,_⟩:=pl.isList
  have:=aB ho
  rcases aH.mp hb with rfl | hb
  ·exact Nat.lt_succ_self _
  ·rcases aH.mp hb with rfl | hb
   ·exact ek this
   ·cases hb
 ·obtain⟨h1,h2⟩:=argBest_lt (fun i=>ns.getD i 0) (its.toArray.size - 1)
  rw[aA] at h1 h2 hP
  rw[List.getElem?_toArray] at hP
  obtain⟨t,rfl⟩:=val _ v hP
  refine⟨.int _,H,I.kept (t':=tk) fun b o e=>hk b o (by
   intro z
   have z:b=s.heap.objs.size:=by simpa using z
   exact absurd (aB e) (by rw[z]; exact ck _)) (ae _ e),⟨_,rfl⟩,q _ ?_ fun a ha=>?_⟩
  ·generalize argBest _ _=j at h1
   have hj:j<ns.length:=by omega
   rw[ar,ai hj]
   exact dn hj
  ·obtain⟨j,hj⟩:=List.mem_iff_getElem?.mp ha
   have hjl:=(af.mp hj).1
   have:=h2 j (by omega)
   have e:ns.getD j 0=a:=by rw[ar,hj]; rfl
   rw[e] at this
   exact this
end
structure FnZ (P:Program)(w:World)(K:W.Frag)(mg:Str->Option Value)(base:Heap)(CX:CXT)(Z:Shared->Hp->Prop)(k:Nat)(f:Addr)(fd:FuncData)(ps:List Str)(sp:Sp):Prop where
 len:∀ vs H Q E,sp vs H Q E->vs.length=ps.length
 run:∀ (A:Around) (outer:List Env) (s:Shared) (H:Hp) (args:Args) (us:List Value) (vs:List V) (Q:VK) (E:XK),Room k A->Env0 P w K mg base A outer s H->BindsTo s fd args (ps.zip us)->Vals vs us->Z s H->sp vs H Q E->
  codeAny (model P w) A (.call (.ref f) args) (CR CX outer P w H s Q E) s
theorem jPN {Z:Shared->Hp->Prop}{CX:CXT}{P:Program}{w:World}{K:W.Frag}{mg:Str->Option Value}{base:Heap}{k:Nat}{f:Addr}{name qual:Str}{params:Arguments}{body:List Stmt}{scope:Scope}{dV kV doc pm cdv ct oc:Value}{an od:Option Addr}
  {osl:Array (Option Value)}{N ps:List Str}{sp:Sp}(lk:K.lookup f=some ⟨oc,od, .func (PySem.W.fnOf name qual params body scope dV kV doc pm an cdv ct),osl⟩) (hcd:PySem.W.codeIn K cdv qual=true) (S:FnScope N ps scope)
  (len:∀ vs H Q E,sp vs H Q E->vs.length=ps.length)
  (hbody:∀ (A:Around) (outer:List Env) (s:Shared) (H:Hp) (vs:List V) (Q:VK) (E:XK),Room k (A.deeper (envOfC qual scope s.heap.objs.size f cdv))->Z s H->sp vs H Q E->
   ∃ t,PSs (cxOf CX P w K mg base N qual scope f cdv A outer s H E) body t/\t { nx:=fun _ H'=>Q .non H',rt:=Q} (yH N vs) H):
  FnZ P w K mg base CX Z (k+1) f (PySem.W.fnOf name qual params body scope dV kV doc pm an cdv ct) ps sp:=by
 refine⟨len,fun A outer s H args us vs Q E hr e0 hb r hz hsp=>?_⟩
 have hl:=len _ _ _ _ hsp
 have KX:K.In s.heap:=e0.mod.kin.keeps fun b o e=>(e0.bs b o e).1
 have lim:s.heap.NoLimit:=e0.mod.nolimit.keeps fun b o e=>(e0.bs b o e).1
 have hkind:∀ y∈ps.zip us,scope.names.lookup y.1=some .local\/(scope.names.lookup y.1=some .cell/\((cellsFrom (s.heap.objs.size+1) scope.names []).lookup y.1).isSome=true):=fun ⟨n,v⟩ hy=>by
  rcases S.par n (dz hy).1 with q | q
  ·exact .inl q
  ·exact .inr ⟨q,d0 _ _ _ (.inl q)⟩
 refine codeAny_call_function hr.depth (KX _ _ lk) rfl S.co S.gen rfl (gU KX hcd) (hb _ _ _ _ ?_)
 refine fj S.kind hkind fun env he s1 x=>?_
 subst he
 refine⟨lim.keeps x.toInCall.keep,codeAny_func ?_⟩
 obtain⟨t,ht,hq⟩:=hbody A outer s H vs Q E (hr.deeper _) hz hsp
 have I:Inv (cxOf CX P w K mg base N qual scope f cdv A outer s H E) [] (yH N vs) H s1:=jF4 S hr.hd e0 hl r x
 refine bS (ht [] s1 (yH N vs) H _ I hq) (fun fl s' hs=>?_) fun e s' hs=>hs
 have fin:∀ {σ':St}{H':Hp}{v:V}{u:Value},Inv (cxOf CX P w K mg base N qual scope f cdv A outer s H E) [] σ' H' s'->RelV v u->Q v H'->CE outer P w H s Q u s':=
  fun {σ' H' v u} J rv q=>⟨v,H',J.os,J.bare,J.base,J.hok,rv,q⟩
 cases fl with
 | ret u=>
  obtain⟨v,σ',H',J,rv,q⟩:=hs
  exact fin J rv q
 | next=>
  obtain⟨σ',H',J,q⟩:=hs
  exact fin (v:=V.non) (u:=Value.none) J rfl q
 | brk=>
  obtain⟨_,_,_,q⟩:=hs
  exact False.elim q
 | cont=>
  obtain⟨_,_,_,q⟩:=hs
  exact False.elim q
def ZSt (Z:Shared->Hp->Prop):Prop:=∀ (fs:List Addr) (s s':Shared) (H H':Hp),Un fs [] H H' s.heap s'.heap->Z s H->Z s' H'
section
variable {P:Program}{w:World}{K:W.Frag}{mg:Str->Option Value}{base:Heap}
theorem Fun.okZ {Z:Shared->Hp->Prop}{x qual:Str}{st:Stmt}{f:Addr}{fd:FuncData}{N ps:List Str}{k:Nat}{sp:Sp}(F:Fun K x qual st f fd)(S:FnScope N ps (j5 st))(len:∀ vs H Q E,sp vs H Q E->vs.length=ps.length)
  (hbody:∀ (cdv:Value) (A:Around) (outer:List Env) (s:Shared) (H:Hp) (vs:List V) (Q:VK) (E:XK),Room k (A.deeper (envOfC qual (j5 st) s.heap.objs.size f cdv))->Z s H->sp vs H Q E->
   ∃ t,PSs (cxOf CX0 P w K mg base N qual (j5 st) f cdv A outer s H E).nox (jB st) t/\t { nx:=fun _ H'=>Q .non H',rt:=Q} (yH N vs) H):FnZ P w K mg base CX0 Z (k+1) f fd ps sp:=by
 obtain⟨_,_,_,_,_,_,cdv,_,_,rfl,lk,hcd⟩:=F.ex
 refine jPN lk hcd S len fun A outer s H vs Q E hr hz hsp=>?_
 obtain⟨t,h,q⟩:=hbody cdv A outer s H vs Q E hr hz hsp
 exact⟨t,h.nox,q⟩
end
structure Callee (P:Program)(w:World)(K:W.Frag)(mg:Str->Option Value)(base:Heap)(Z:Shared->Hp->Prop)(zh:Hp->Prop)(k:Nat)(a:Addr)(sp:Sp):Prop where
 fn:∀ (A:Around) (outer:List Env) (s:Shared) (H:Hp),Env0 P w K mg base A outer s H->zh H->PySem.W.FnAt a s.heap
 run:∀ (A:Around) (outer:List Env) (s:Shared) (H:Hp) (us:List Value) (vs:List V) (Q:VK) (E:XK),Room k A->Env0 P w K mg base A outer s H->Z s H->zh H->Vals vs us->sp vs H Q E->codeAny (model P w) A (.call (.ref a) ⟨us,[]⟩) (CR CX0 outer P w H s Q E) s
def jOC (a:Addr)(zh:Hp->Prop)(sp:Sp)(j:Nat)(t:TA):TE:=fun σ H Q=>σ[j]?=some (some (.ref a))/\t σ H fun vs H1=>zh H1/\sp vs H1 Q E0
section
variable {X:Cx}{Z:Shared->Hp->Prop}{zh:Hp->Prop}{k:Nat}{a:Addr}{sp:Sp}{x:Str}{p pos:Pos}{e:Expr}{es:List Expr}{t:TA}{j:Nat}
theorem jKR (F:Callee X.prog X.w X.K X.mg X.base Z zh k a sp)(hr:Room k X.A)(st:ZSt Z)(hz:Z X.s₀ X.H₀)(hex:X.ex=[])(hN:X.N[j]?=some x)(hv:Vis1 X x)
  (ha:JA X (e::es) t) (he:starEach (e::es) X.env=(false,eval e X.env)::starEach es X.env) (hdb:(x==("__debug__" :Str))=false:=by decide) (hcd:(x==("__classdict__" :Str))=false:=by decide) (hpl:(backTo pos (starEach es X.env)).any (·.1)=false:=by rfl):
  JE X (.Call (.Name x p) (e::es) [] pos) (jOC a zh sp j t):=by
 refine⟨fun pins s σ H Q I h=>?_⟩
 obtain⟨hj,h⟩:=h
 refine cQ (thn (jI5 (pos:=p) hN hv.a hdb hcd pins s σ H (fun v H'=>v= .ref a/\H'=H) I ⟨_,hj,rfl,rfl⟩) fun v s1 ⟨v',H1,I1,r1,q1,q2⟩=>?_)
 subst q1 q2
 cases (show v=Value.ref a from r1)
 have hX:=thn (ha.h pos pins s1 σ H1 _ I1 h) fun us s2 (z:AP X pins σ _ us s2)=>show PySem.W.FnAt a s2.heap/\wpAny (model X.prog X.w) X.A (call (.ref a) ([]++us)) (EP X pins σ Q) X.xe s2 from by
  obtain⟨vs,H2,I2,r,h1,h2⟩:=z
  have un:=I2.base
  rw[hex] at un
  refine⟨F.fn _ _ _ _ I2.env0 h1,wpAny_call (dZ (F.run X.A X.stack s2 H2 us vs Q E0 hr I2.env0 (st _ _ _ _ _ un hz) h1 r h2) fun r s' hq=>?_)⟩
  cases r with
  | error e=>exact hq.elim
  | ok fl=>
   cases fl with
   | ret u=>exact I2.after hq
   | next=>exact False.elim hq
   | brk=>exact False.elim hq
   | cont=>exact False.elim hq
 rw[he] at hX ⊢
 exact PySem.W.callWith_of (by show ((false || (backTo pos (starEach es X.env)).any (·.1)) || false)=false; rw[hpl]; rfl) PySem.W.keeps_F (Calls.evalArgs_plain hX)
end
end L2
end
section
namespace TM
open PySem PyProof.Rows
class Od where
 kd:SortKind
 ky:Keyed->Int
 is:Keyed->Prop
abbrev key [Od]:Keyed->Int:=Od.ky
abbrev IsI [Od]:Keyed->Prop:=Od.is
class LtOk (prog:Program) (w:World) (A:Around) (s:Shared) [Od]:Prop where
 lt:∀ {E:Value->Shared->Prop}{st:SortSt}{x y:Keyed}{Q:Option Bool->SortSt->Prop},kindOf st=Od.kd->IsI x->IsI y->Q (some (decide (key x<key y))) st->wpS (model prog w) A E s (lt' x y) Q st
variable [Od]
abbrev AllI (l:List Keyed):Prop:=∀ p∈l,IsI p
abbrev LE (x y:Keyed):Prop:=key x<=key y
def jB9:Bool->Keyed->Array Keyed->Nat->Nat->Nat->StateT SortSt Sem (Option Nat):=sortPriv% PySem.Builtin.gallop
def gallopB: { g:Bool->Keyed->Array Keyed->Nat->Nat->Nat->StateT SortSt Sem (Option Nat) // jB9=g} :=⟨fun _ _ _ _ _ _=>bind _ _,rfl⟩
theorem elP:(sortPriv% PySem.Builtin.elem)=elem':=rfl
theorem ltP:(sortPriv% PySem.Builtin.lt)=lt':=rfl
theorem ltAtP:(sortPriv% PySem.Builtin.ltAt)=ltAt':=rfl
theorem jFZ:(sortPriv% PySem.Builtin.gallop)=jB9:=rfl
section
variable {prog:Program}{w:World}{A:Around}{E:Value->Shared->Prop}{s:Shared}
theorem jEC [LtOk prog w A s]{st:SortSt}{x y:Keyed}{Q:Option Bool->SortSt->Prop}(hk:kindOf st=Od.kd)(hx:IsI x)(hy:IsI y)(h:Q (some (decide (key x<key y))) st):wpS (model prog w) A E s (lt' x y) Q st:=LtOk.lt hk hx hy h
theorem jF {st:SortSt}{arr:Array Keyed}{i:Nat}{p:Keyed}{Q:Keyed->SortSt->Prop}(hi:arr[i]?=some p)(h:Q p st):wpS (model prog w) A E s (elem' arr i) Q st:=by
 rw[elem'_eq,hi]
 exact aC h
end
section
variable {prog:Program}{w:World}{A:Around}{E:Value->Shared->Prop}{s:Shared} [LtOk prog w A s]
theorem jAV {left:Bool}{ky:Keyed}{arr:Array Keyed}{base n hint:Nat}{st:SortSt}{Q:Option Nat->SortSt->Prop}(hk:kindOf st=Od.kd)(hky:IsI ky)(hI:∀ i,i<n->∃ p,arr[base+i]?=some p/\IsI p)(hh:hint<n)(B:Nat->Bool)
  (hB:∀ i p,i<n->arr[base+i]?=some p->B i=(if left=true then decide (key p<key ky) else !decide (key ky<key p))) (mono:∀ i j,i<=j->j<n->B j=true->B i=true)
  (h:∀ k,k<=n->(∀ i,i<k->B i=true)->(∀ i,k<=i->i<n->B i=false)->Q (some k) st):wpS (model prog w) A E s (jB9 left ky arr base n hint) Q st:=by
 rw[gallopB.2]
 delta gallopB
 dsimp only
 simp only [elP,ltP]
 have bey:∀ i (R:Option Bool->SortSt->Prop),i<n->R (some (B i)) st->wpS (model prog w) A E s (do
   let x <- elem' arr (base+i)
   if left=true then lt' x ky else do
    let r <- lt' ky x
    pure (r.map (!·))) R st:=fun i R hi hR=>by
  obtain⟨p,hp,ip⟩:=hI i hi
  refine aw (jF hp ?_)
  have e:=hB i p hi hp
  cases left with
  | true=>
   rw[ao rfl] at e ⊢
   rw[e] at hR
   exact jEC hk ip hky hR
  | false=>
   rw[ax ag] at e ⊢
   rw[e] at hR
   exact aw (jEC hk hky ip (aC hR))
 have down:∀ i j,i<=j->j<n->B i=false->B j=false:=fun i j hij hj hi=>by
  cases hb:B j with
  | false=>rfl
  | true=>rw[mono i j hij hj hb] at hi; cases hi
 refine aw (bey hint _ hh ?_)
 dsimp only
 cases hb:B hint with
 | true=>
  rw[ao rfl]
  refine aw (cD (bD (I:=fun x c st'=>st'=st/\∃ l o,c=(none,l,o)/\l<o/\x+1<=o/\hint+l<n/\B (hint+l)=true)
   (Q:=fun c st'=>st'=st/\∃ l o,c=(none,l,o)/\l<o/\hint+l<n/\B (hint+l)=true/\(n - hint<=o\/(hint+o<n/\B (hint+o)=false))) ?step ?fin ⟨rfl,0,1,rfl,by omega,by omega,by omega,by rw[hG]; exact hb⟩) ?post)
  case post=>
   rintro c st' ⟨rfl,l,o,rfl,a1,a2,a3,a4⟩
   dsimp only
   have p3:∀ i,i<hint+l+1->B i=true:=fun i hi=>mono i (hint+l) (by omega) a2 a3
   have p4:∀ i,hint+min o (n - hint)<=i->i<n->B i=false:=fun i h1 h2=>by
    rcases a4 with a4 | ⟨a4,a5⟩
    ·omega
    ·exact down (hint+o) i (by omega) h2 a5
   refine aw (cD (bD (I:=fun x c st''=>st''=st'/\∃ lo hi,c=(none,lo,hi)/\lo<=hi/\hi<=n/\hi - lo<=n - x/\(∀ i,i<lo->B i=true)/\(∀ i,hi<=i->i<n->B i=false))
    (Q:=fun c st''=>st''=st'/\∃ k,c=(none,k,k)/\k<=n/\(∀ i,i<k->B i=true)/\(∀ i,k<=i->i<n->B i=false)) ?step2 ?fin2 ⟨rfl,hint+l+1,hint+min o (n - hint),rfl,by omega,by omega,by omega,p3,p4⟩) ?post2)
   case post2=>
    rintro c st'' ⟨rfl,k,rfl,k1,k2,k3⟩
    exact aC (h k k1 k2 k3)
   case fin2=>
    rintro c st'' ⟨rfl,lo,hi,rfl,a1,a2,a3,a4,a5⟩
    have:lo=hi:=by omega
    subst this
    exact⟨rfl,lo,rfl,a2,a4,a5⟩
   case step2=>
    rintro x c st'' _ hx ⟨rfl,lo,hi,rfl,a1,a2,a3,a4,a5⟩
    dsimp only
    by_cases hge:lo ≥ hi
    ·rw[ao hge]
     have:lo=hi:=by omega
     subst this
     exact aC ⟨rfl,lo,rfl,a2,a4,a5⟩
    ·rw[ax hge]
     refine aw (bey _ _ (by omega) ?_)
     dsimp only
     cases hb:B (lo+(hi - lo) / 2) with
     | true=>
      rw[ao rfl]
      exact aC ⟨rfl,lo+(hi - lo) / 2+1,hi,rfl,by omega,a2,by omega,fun i hi'=>mono i _ (by omega) (by omega) hb,a5⟩
     | false=>
      rw[ax ag]
      exact aC ⟨rfl,lo,lo+(hi - lo) / 2,rfl,by omega,by omega,by omega,a4,fun i h1 h2=>down _ i h1 h2 hb⟩
  case fin=>
   rintro c st' ⟨rfl,l,o,rfl,a1,a2,a3,a4⟩
   exact⟨rfl,l,o,rfl,a1,a3,a4, .inl (by omega)⟩
  case step=>
   rintro x c st' _ hx ⟨rfl,l,o,rfl,a1,a2,a3,a4⟩
   dsimp only
   by_cases hge:o ≥ n - hint
   ·rw[ao hge]
    exact aC ⟨rfl,l,o,rfl,a1,a3,a4, .inl hge⟩
   ·rw[ax hge]
    refine aw (bey _ _ (by omega) ?_)
    dsimp only
    cases hb2:B (hint+o) with
    | true=>
     rw[ax (by decide)]
     exact aC ⟨rfl,o,2*o+1,rfl,by omega,by omega,by omega,hb2⟩
    | false=>
     rw[ao (by decide)]
     exact aC ⟨rfl,l,o,rfl,a1,a3,a4, .inr ⟨by omega,hb2⟩⟩
 | false=>
  rw[ax ag]
  refine aw (cD (bD (I:=fun x c st'=>st'=st/\∃ l o,c=(none,l,o)/\l<o/\x+1<=o/\l<=hint/\B (hint - l)=false)
   (Q:=fun c st'=>st'=st/\∃ l o,c=(none,l,o)/\l<o/\l<=hint/\B (hint - l)=false/\(hint+1<=o\/(o<=hint/\B (hint - o)=true))) ?step ?fin ⟨rfl,0,1,rfl,by omega,by omega,by omega,by rw[hV]; exact hb⟩) ?post)
  case post=>
   rintro c st' ⟨rfl,l,o,rfl,a1,a2,a3,a4⟩
   dsimp only
   have p3:∀ i,i<hint+1 - min o (hint+1)->B i=true:=fun i hi=>by
    rcases a4 with a4 | ⟨a4,a5⟩
    ·omega
    ·exact mono i (hint - o) (by omega) (by omega) a5
   have p4:∀ i,hint - l<=i->i<n->B i=false:=fun i h1 h2=>down (hint - l) i (by omega) h2 a3
   refine aw (cD (bD (I:=fun x c st''=>st''=st'/\∃ lo hi,c=(none,lo,hi)/\lo<=hi/\hi<=n/\hi - lo<=n - x/\(∀ i,i<lo->B i=true)/\(∀ i,hi<=i->i<n->B i=false))
    (Q:=fun c st''=>st''=st'/\∃ k,c=(none,k,k)/\k<=n/\(∀ i,i<k->B i=true)/\(∀ i,k<=i->i<n->B i=false)) ?step2 ?fin2 ⟨rfl,hint+1 - min o (hint+1),hint - l,rfl,by omega,by omega,by omega,p3,p4⟩) ?post2)
   case post2=>
    rintro c st'' ⟨rfl,k,rfl,k1,k2,k3⟩
    exact aC (h k k1 k2 k3)
   case fin2=>
    rintro c st'' ⟨rfl,lo,hi,rfl,a1,a2,a3,a4,a5⟩
    have:lo=hi:=by omega
    subst this
    exact⟨rfl,lo,rfl,a2,a4,a5⟩
   case step2=>
    rintro x c st'' _ hx ⟨rfl,lo,hi,rfl,a1,a2,a3,a4,a5⟩
    dsimp only
    by_cases hge:lo ≥ hi
    ·rw[ao hge]
     have:lo=hi:=by omega
     subst this
     exact aC ⟨rfl,lo,rfl,a2,a4,a5⟩
    ·rw[ax hge]
     refine aw (bey _ _ (by omega) ?_)
     dsimp only
     cases hb:B (lo+(hi - lo) / 2) with
     | true=>
      rw[ao rfl]
      exact aC ⟨rfl,lo+(hi - lo) / 2+1,hi,rfl,by omega,a2,by omega,fun i hi'=>mono i _ (by omega) (by omega) hb,a5⟩
     | false=>
      rw[ax ag]
      exact aC ⟨rfl,lo,lo+(hi - lo) / 2,rfl,by omega,by omega,by omega,a4,fun i h1 h2=>down _ i h1 h2 hb⟩
  case fin=>
   rintro c st' ⟨rfl,l,o,rfl,a1,a2,a3,a4⟩
   exact⟨rfl,l,o,rfl,a1,a3,a4, .inl (by omega)⟩
  case step=>
   rintro x c st' _ hx ⟨rfl,l,o,rfl,a1,a2,a3,a4⟩
   dsimp only
   by_cases hge:o ≥ hint+1
   ·rw[ao hge]
    exact aC ⟨rfl,l,o,rfl,a1,a3,a4, .inl hge⟩
   ·rw[ax hge]
    refine aw (bey _ _ (by omega) ?_)
    dsimp only
    cases hb2:B (hint - o) with
    | true=>
     rw[ao rfl]
     exact aC ⟨rfl,l,o,rfl,a1,a3,a4, .inr ⟨by omega,hb2⟩⟩
    | false=>
     rw[ax ag]
     exact aC ⟨rfl,o,2*o+1,rfl,by omega,by omega,by omega,hb2⟩
end
abbrev jEN (st:SortSt)(g:Nat):SortSt:=SortSt.mk' (kindOf st) (arrOf st) (pendingOf st) g (failedOf st)
def jBE:Nat->StateT SortSt Sem Unit:=sortPriv% PySem.Builtin.setMinGallop
theorem jHY:(sortPriv% PySem.Builtin.setMinGallop)=jBE:=rfl
theorem jA3 (g:Nat):jBE g=modify fun s=>jEN s g:=rfl
def jDU:Array Keyed->Array Keyed->StateT SortSt Sem (Array Keyed):=sortPriv% PySem.Builtin.mergeLo
def mergeLoB: { g:Array Keyed->Array Keyed->StateT SortSt Sem (Array Keyed) // jDU=g} :=⟨fun _ _=>bind _ _,rfl⟩
theorem jKH:(sortPriv% PySem.Builtin.mergeLo)=jDU:=rfl
def jDV:Array Keyed->Array Keyed->StateT SortSt Sem (Array Keyed):=sortPriv% PySem.Builtin.mergeHi
def mergeHiB: { g:Array Keyed->Array Keyed->StateT SortSt Sem (Array Keyed) // jDV=g} :=⟨fun _ _=>bind _ _,rfl⟩
theorem jKI:(sortPriv% PySem.Builtin.mergeHi)=jDV:=rfl
abbrev Srt (l:List Keyed):Prop:=l.Pairwise LE
structure ML (a b out:List Keyed)(ia ib:Nat):Prop where
 perm:(out++(a.drop ia++b.drop ib)).Perm (a++b)
 srt:Srt out
 le:∀ x∈out,∀ y∈a.drop ia++b.drop ib,LE x y
theorem Srt.drop {l:List Keyed}(h:Srt l)(i:Nat):Srt (l.drop i):=h.sublist (List.drop_sublist _ _)
theorem Srt.take {l:List Keyed}(h:Srt l)(i:Nat):Srt (l.take i):=h.sublist (cG _ _)
theorem y8 {l m:List Keyed}(h1:Srt l)(h2:Srt m)(h:∀ x∈l,∀ y∈m,LE x y):Srt (l++m):=dc.mpr ⟨h1,h2,h⟩
theorem ML.takeA {a b out:List Keyed}{ia ib:Nat}(h:ML a b out ia ib)(sa:Srt a)(k:Nat)(hc:∀ x∈(a.drop ia).take k,∀ y∈b.drop ib,LE x y):ML a b (out++(a.drop ia).take k) (ia+k) ib:=by
 have e:a.drop (ia+k)=(a.drop ia).drop k:=by rw[fm]
 refine⟨?_,y8 h.srt ((sa.drop ia).take k) fun x hx y hy=>h.le x hx y (aJ _ (cE hy)),fun x hx y hy=>?_⟩
 ·refine List.Perm.trans ?_ h.perm
  rw[e]
  refine gw ?_
  rw[aI,<- aI ((a.drop ia).take k),bh]
 ·rcases aq.mp hx with q | q
  ·refine h.le x q y ?_
   rcases aq.mp hy with z | z
   ·rw[e] at z
    exact aJ _ (dI z)
   ·exact aF _ z
  ·rcases aq.mp hy with z | z
   ·rw[e] at z
    have s:=sa.drop ia
    rw[<- bh k (a.drop ia)] at s
    exact(dc.mp s).2.2 x q y z
   ·exact hc x q y z
theorem ML.takeB {a b out:List Keyed}{ia ib:Nat}(h:ML a b out ia ib)(sb:Srt b)(k:Nat)(hc:∀ x∈(b.drop ib).take k,∀ y∈a.drop ia,LE x y):ML a b (out++(b.drop ib).take k) ia (ib+k):=by
 have e:b.drop (ib+k)=(b.drop ib).drop k:=by rw[fm]
 refine⟨?_,y8 h.srt ((sb.drop ib).take k) fun x hx y hy=>h.le x hx y (aF _ (cE hy)),fun x hx y hy=>?_⟩
 ·refine List.Perm.trans ?_ h.perm
  rw[e,aI]
  refine bR out ?_
  refine bI.trans ?_
  rw[aI]
  refine bR _ ?_
  refine bI.trans ?_
  rw[bh]
 ·rcases aq.mp hx with q | q
  ·refine h.le x q y ?_
   rcases aq.mp hy with z | z
   ·exact aJ _ z
   ·rw[e] at z
    exact aF _ (dI z)
  ·rcases aq.mp hy with z | z
   ·exact hc x q y z
   ·rw[e] at z
    have s:=sb.drop ib
    rw[<- bh k (b.drop ib)] at s
    exact(dc.mp s).2.2 x q y z
theorem ML.outA {a b out:List Keyed}{ia ib:Nat}(h:ML a b out ia ib)(sa:Srt a)(hb:b.length<=ib):(out++a.drop ia++b.drop ib).Perm (a++b)/\Srt (out++a.drop ia++b.drop ib):=by
 refine⟨by rw[aI]; exact h.perm,?_⟩
 rw[em hb,aW]
 exact y8 h.srt (sa.drop ia) fun x hx y hy=>h.le x hx y (aJ _ hy)
theorem ML.outB {a b out:List Keyed}{ia ib:Nat}(h:ML a b out ia ib)(sb:Srt b)(ha:a.length<=ia):(out++a.drop ia++b.drop ib).Perm (a++b)/\Srt (out++a.drop ia++b.drop ib):=by
 refine⟨by rw[aI]; exact h.perm,?_⟩
 rw[em ha,aW]
 exact y8 h.srt (sb.drop ib) fun x hx y hy=>h.le x hx y (aF _ hy)
theorem ML.last {a b out:List Keyed}{ia ib:Nat}(h:ML a b out ia ib)(sa:Srt a)(sb:Srt b)(ha:∀ x∈b,∀ y∈a.drop ia,LE x y):(out++b.drop ib++a.drop ia).Perm (a++b)/\Srt (out++b.drop ib++a.drop ia):=by
 refine⟨?_,?_⟩
 ·rw[aI]
  exact(bR out bI).trans h.perm
 ·refine y8 (y8 h.srt (sb.drop ib) fun x hx y hy=>h.le x hx y (aF _ hy)) (sa.drop ia) fun x hx y hy=>?_
  rcases aq.mp hx with q | q
  ·exact h.le x q y (aJ _ hy)
  ·exact ha x (dI q) y hy
theorem jAA {l:List Keyed}{i:Nat}{p:Keyed}(h:l[i]?=some p):(l.drop i).take 1=[p]:=by
 obtain⟨hi,e⟩:=af.mp h
 rw[<- List.getElem_cons_drop (h:=hi),e]
 rfl
theorem jD2 {l:List Keyed}(h:Srt l){i j:Nat}{x y:Keyed}(hx:l[i]?=some x)(hy:l[j]?=some y)(hij:i<=j):LE x y:=by
 obtain⟨h1,rfl⟩:=af.mp hx
 obtain⟨h2,rfl⟩:=af.mp hy
 by_cases e:i=j
 ·subst e; exact cf _
 ·exact bZ.mp h i j h1 h2 (by omega)
theorem jC9 {l:List Keyed}{i:Nat}{y:Keyed}(h:y∈l.drop i):∃ j,i<=j/\l[j]?=some y:=by
 obtain⟨k,hk⟩:=ce h
 rw[cU] at hk
 exact⟨i+k,by omega,hk⟩
theorem jA4 {l:List Keyed}{i k:Nat}{y:Keyed}(h:y∈(l.drop i).take k):∃ j,i<=j/\j<i+k/\l[j]?=some y:=by
 obtain⟨n,hn⟩:=ce h
 have hlt:n<k:=by
  have:=(af.mp hn).1
  rw[aU] at this
  omega
 rw[bO hlt,cU] at hn
 exact⟨i+n,by omega,by omega,hn⟩
theorem jBW {a:Array Keyed}{i:Nat} :(a.extract i a.size).toList=a.toList.drop i:=by
 rw[eN,cW]
 exact bC (by rw[cO,aP]; exact az _)
theorem ext_k {a:Array Keyed}{i k:Nat} :(a.extract i (i+k)).toList=(a.toList.drop i).take k:=by
 rw[eN,cW,cg]
structure Two (a b:Array Keyed):Prop where
 ia:AllI a.toList
 ib:AllI b.toList
 sa:Srt a.toList
 sb:Srt b.toList
 na:0<a.size
 nb:0<b.size
 last:∀ x∈b.toList,∀ y,a.toList[a.size - 1]?=some y->key x<key y
 first:∀ y∈a.toList,∀ p,b.toList[0]?=some p->key p<key y
def kX (a b r:Array Keyed):Prop:=r.toList.Perm (a.toList++b.toList)/\Srt r.toList
structure SG (st st':SortSt):Prop where
 k:kindOf st'=kindOf st
 a:arrOf st'=arrOf st
 p:pendingOf st'=pendingOf st
 f:failedOf st'=failedOf st
theorem SG.refl (st:SortSt):SG st st:=⟨rfl,rfl,rfl,rfl⟩
theorem SG.gal {st st':SortSt}(h:SG st st')(g:Nat):SG st (jEN st' g):=⟨h.k,h.a,h.p,h.f⟩
abbrev MA (a b out:Array Keyed)(ia ib:Nat):Prop:=ML a.toList b.toList out.toList ia ib
section
variable {a b out:Array Keyed}{i j k:Nat}
theorem at_list {p:Keyed} :a[i]?=some p↔a.toList[i]?=some p:=by rw[bQ]
theorem yR (h:i<a.size):∃ p,a[i]?=some p/\a.toList[i]?=some p:=⟨a[i],by simp [h],by simp [h]⟩
theorem MA.doneA (T:Two a b)(h:MA a b out i j)(hj:b.size<=j):kX a b (out++a.extract i a.size++b.extract j b.size):=by
 unfold kX
 rw[aY,aY,jBW,jBW]
 exact ML.outA h T.sa (by rw[aP]; exact hj)
theorem MA.doneB (T:Two a b)(h:MA a b out i j)(hi:a.size<=i):kX a b (out++a.extract i a.size++b.extract j b.size):=by
 unfold kX
 rw[aY,aY,jBW,jBW]
 exact ML.outB h T.sb (by rw[aP]; exact hi)
theorem MA.doneL (T:Two a b)(h:MA a b out i j)(hi:i+1=a.size):kX a b (out++b.extract j b.size++a.extract i a.size):=by
 unfold kX
 rw[aY,aY,jBW,jBW]
 refine ML.last h T.sa T.sb fun x hx y hy=>?_
 obtain⟨n,h1,h2⟩:=jC9 hy
 have:n=a.size - 1:=by
  have:=(af.mp h2).1
  rw[aP] at this
  omega
 subst this
 exact bX (T.last x hx y h2)
theorem MA.pushB (T:Two a b)(h:MA a b out i j){p q:Keyed}(hp:b[j]?=some p)(hc:∀ y∈a.toList.drop i,LE p y):MA a b (out.push p) i (j+1):=by
 have:=ML.takeB h T.sb 1 (by
  rw[jAA (at_list.mp hp)]
  intro x hx
  rw[ah.mp hx]
  exact hc)
 rw[jAA (at_list.mp hp)] at this
 unfold MA
 rw[dE]
 exact this
theorem MA.pushA (T:Two a b)(h:MA a b out i j){p q:Keyed}(hp:a[i]?=some p)(hc:∀ y∈b.toList.drop j,LE p y):MA a b (out.push p) (i+1) j:=by
 have:=ML.takeA h T.sa 1 (by
  rw[jAA (at_list.mp hp)]
  intro x hx
  rw[ah.mp hx]
  exact hc)
 rw[jAA (at_list.mp hp)] at this
 unfold MA
 rw[dE]
 exact this
theorem MA.appA (T:Two a b)(h:MA a b out i j)(k:Nat)(hc:∀ n x,i<=n->n<i+k->a.toList[n]?=some x->∀ y∈b.toList.drop j,LE x y):MA a b (out++a.extract i (i+k)) (i+k) j:=by
 unfold MA
 rw[aY,ext_k]
 exact ML.takeA h T.sa k fun x hx y hy=>by
  obtain⟨n,h1,h2,h3⟩:=jA4 hx
  exact hc n x h1 h2 h3 y hy
theorem MA.appB (T:Two a b)(h:MA a b out i j)(k:Nat)(hc:∀ n x,j<=n->n<j+k->b.toList[n]?=some x->∀ y∈a.toList.drop i,LE x y):MA a b (out++b.extract j (j+k)) i (j+k):=by
 unfold MA
 rw[aY,ext_k]
 exact ML.takeB h T.sb k fun x hx y hy=>by
  obtain⟨n,h1,h2,h3⟩:=jA4 hx
  exact hc n x h1 h2 h3 y hy
theorem Two.atA (T:Two a b)(h:i<a.size):∃ p,a[i]?=some p/\IsI p:=by
 obtain⟨p,h1,h2⟩:=yR h
 exact⟨p,h1,T.ia p (ak h2)⟩
theorem Two.atB (T:Two a b)(h:i<b.size):∃ p,b[i]?=some p/\IsI p:=by
 obtain⟨p,h1,h2⟩:=yR h
 exact⟨p,h1,T.ib p (ak h2)⟩
theorem jDZ (s:Srt a.toList){p q:Keyed}(hp:a[i]?=some p)(h:LE q p):∀ y∈a.toList.drop i,LE q y:=fun y hy=>by
 obtain⟨n,h1,h2⟩:=jC9 hy
 exact cN h (jD2 s (at_list.mp hp) h2 h1)
end
section
variable {prog:Program}{w:World}{A:Around}{E:Value->Shared->Prop}{s:Shared} [LtOk prog w A s]
theorem jNQ {st:SortSt}{a:Array Keyed}{i:Nat}{p:Keyed}{Q:Option Nat->SortSt->Prop}(hk:kindOf st=Od.kd)(hp:IsI p)(ha:AllI a.toList)(sa:Srt a.toList)(hi:i<a.size)
  (h:∀ k,i+k<=a.size->(∀ n x,i<=n->n<i+k->a.toList[n]?=some x->LE x p)->(∀ n x,i+k<=n->a.toList[n]?=some x->key p<key x)->Q (some k) st):
  wpS (model prog w) A E s (jB9 false p a i (a.size - i) 0) Q st:=by
 refine jAV hk hp (fun n hn=>?_) (by omega) (fun n=>match a[i+n]? with | some x=>!decide (key p<key x) | none=>false) (fun n x hn hx=>?_) (fun n m hnm hm hb=>?_) fun k hk1 hk2 hk3=>h k (by omega) (fun n x h1 h2 h3=>?_) fun n x h1 h2=>?_
 ·obtain⟨q,q1,q2⟩:=yR (a:=a) (i:=i+n) (by omega)
  exact⟨q,q1,ha q (ak q2)⟩
 ·rw[hx,ax ag]
 ·obtain⟨x,x1,x2⟩:=yR (a:=a) (i:=i+n) (by omega)
  obtain⟨y,y1,y2⟩:=yR (a:=a) (i:=i+m) (by omega)
  rw[y1] at hb
  rw[x1]
  have:=jD2 sa x2 y2 (by omega)
  have hb:¬ key p<key y:=by simpa using hb
  show (!decide (key p<key x))=true
  rw[fz,dq]
  have:key x<=key y:=this
  omega
 ·have:=hk2 (n - i) (by omega)
  rw[show i+(n - i)=n by omega,at_list.mpr h3] at this
  have this:¬ key p<key x:=by simpa using this
  show key x<=key p
  omega
 ·have hn:=(af.mp h2).1
  rw[aP] at hn
  have:=hk3 (n - i) (by omega) (by omega)
  rw[show i+(n - i)=n by omega,at_list.mpr h2] at this
  simpa using this
theorem jNR {st:SortSt}{a:Array Keyed}{i:Nat}{p:Keyed}{Q:Option Nat->SortSt->Prop}(hk:kindOf st=Od.kd)(hp:IsI p)(ha:AllI a.toList)(sa:Srt a.toList)(hi:i<a.size)
  (h:∀ k,i+k<=a.size->(∀ n x,i<=n->n<i+k->a.toList[n]?=some x->key x<key p)->(∀ n x,i+k<=n->a.toList[n]?=some x->LE p x)->Q (some k) st):
  wpS (model prog w) A E s (jB9 true p a i (a.size - i) 0) Q st:=by
 refine jAV hk hp (fun n hn=>?_) (by omega) (fun n=>match a[i+n]? with | some x=>decide (key x<key p) | none=>false) (fun n x hn hx=>?_) (fun n m hnm hm hb=>?_) fun k hk1 hk2 hk3=>h k (by omega) (fun n x h1 h2 h3=>?_) fun n x h1 h2=>?_
 ·obtain⟨q,q1,q2⟩:=yR (a:=a) (i:=i+n) (by omega)
  exact⟨q,q1,ha q (ak q2)⟩
 ·rw[hx,ao rfl]
 ·obtain⟨x,x1,x2⟩:=yR (a:=a) (i:=i+n) (by omega)
  obtain⟨y,y1,y2⟩:=yR (a:=a) (i:=i+m) (by omega)
  rw[y1] at hb
  rw[x1]
  have:=jD2 sa x2 y2 (by omega)
  have hb:key y<key p:=aR hb
  show decide (key x<key p)=true
  rw[bo]
  have:key x<=key y:=this
  omega
 ·have:=hk2 (n - i) (by omega)
  rw[show i+(n - i)=n by omega,at_list.mpr h3] at this
  exact aR this
 ·have hn:=(af.mp h2).1
  rw[aP] at hn
  have:=hk3 (n - i) (by omega) (by omega)
  rw[show i+(n - i)=n by omega,at_list.mpr h2] at this
  have this:¬ key x<key p:=g4 this
  show key p<=key x
  omega
end
section
variable {prog:Program}{w:World}{A:Around}{E:Value->Shared->Prop}{s:Shared} [LtOk prog w A s]
theorem bp {a b:Nat}(h:a=b):(a==b)=true:=g5.mpr h
theorem bn {a b:Nat}(h:¬ a=b):¬ (a==b)=true:=fun z=>h (g5.mp z)
structure LoI (a b:Array Keyed)(st:SortSt)(out:Array Keyed)(ia ib:Nat)(st':SortSt):Prop where
 m:MA a b out ia ib
 i:ia+1<a.size
 j:ib<b.size
 s:SG st st'
theorem jFG {a b:Array Keyed}{st:SortSt}{Q:Array Keyed->SortSt->Prop}(hk:kindOf st=Od.kd)(T:Two a b)(h:∀ r st',kX a b r->SG st st'->Q r st'):wpS (model prog w) A E s (jDU a b) Q st:=by
 rw[mergeLoB.2]
 delta mergeLoB
 dsimp only
 simp only [elP,ltP,jFZ,jHY]
 have na:=T.na
 have nb:=T.nb
 refine aw (gc (cS ⟨rfl,?_⟩))
 obtain⟨p0,hp0,ip0⟩:=T.atB nb
 refine aw (jF hp0 ?_)
 have M0:MA a b #[p0] 0 1:=by
  have z:MA a b #[] 0 0:=⟨by show (([]:List Keyed)++(a.toList.drop 0++b.toList.drop 0)).Perm _; rw[gt,dH,dH],List.Pairwise.nil,fun x hx=>by cases hx⟩
  have:=MA.pushB (q:=p0) T z hp0 fun y hy=>bX (T.first y (dI hy) p0 (at_list.mp hp0))
  exact this
 by_cases e1:1=b.size
 ·rw[ao (bp e1)]
  exact aC (h _ _ (MA.doneA T M0 (by omega)) (SG.refl _))
 rw[ax (bn e1)]
 by_cases e2:0+1=a.size
 ·rw[ao (bp e2)]
  exact aC (h _ _ (MA.doneL T M0 e2) (SG.refl _))
 rw[ax (bn e2)]
 refine aw (fg ?_)
 refine aw (cD (bD (I:=fun x c st'=>∃ out ia ib mg,c=(none,out,ia,ib,mg)/\LoI a b st out ia ib st'/\x+1<=ia+ib)
  (Q:=fun c st'=>∃ r,c.1=some r/\kX a b r/\SG st st') ?step ?fin ⟨_,0,1,_,rfl,⟨M0,by omega,by omega,SG.refl _⟩,by omega⟩) ?post)
 case post=>
  rintro ⟨r0,c⟩ st' ⟨r,hr,d,g⟩
  have hr:r0=some r:=hr
  subst hr
  exact aC (h r st' d g)
 case fin=>
  rintro c st' ⟨out,ia,ib,mg,rfl,I0,hx⟩
  have:=I0.i
  have:=I0.j
  omega
 case step=>
  rintro x c st1 _ hx ⟨out,ia,ib,mg,rfl,I0,hxx⟩
  dsimp only
  refine aw (cD (bD (I:=fun y c st'=>∃ out' ia' ib' ac bc,c=(none,out',ia',ib',ac,bc)/\LoI a b st out' ia' ib' st'/\ia+ib<=ia'+ib'/\(y=0\/ia+ib<ia'+ib'))
   (Q:=fun c st'=>(∃ r,c.1=some r/\kX a b r/\SG st st')\/∃ out' ia' ib' ac bc,c=(none,out',ia',ib',ac,bc)/\LoI a b st out' ia' ib' st'/\ia+ib<ia'+ib') ?step1 ?fin1 ⟨_,_,_,_,_,rfl,I0,by omega, .inl rfl⟩) ?post1)
  case fin1=>
   rintro c st' ⟨out',ia',ib',ac,bc,rfl,I1,h1,h2⟩
   exact .inr ⟨_,_,_,_,_,rfl,I1,by omega⟩
  case step1=>
   rintro y c st2 _ hy ⟨out',ia',ib',ac,bc,rfl,I1,h1,h2⟩
   dsimp only
   obtain⟨pb,hpb,ipb⟩:=T.atB I1.j
   obtain⟨pa,hpa,ipa⟩:=T.atA (i:=ia') (by have:=I1.i; omega)
   have ii:=I1.i
   have jj:=I1.j
   refine aw (jF hpb (aw (jF hpa (aw (jEC (I1.s.k.trans hk) ipb ipa ?_)))))
   dsimp only
   by_cases hlt:key pb<key pa
   ·rw[aK hlt,ao rfl]
    refine aw (jF hpb ?_)
    have M2:=MA.pushB (q:=pb) T I1.m hpb (jDZ T.sa hpa (bX hlt))
    by_cases f1:ib'+1=b.size
    ·rw[ao (bp f1)]
     exact aC (.inl ⟨_,rfl,MA.doneA T M2 (by omega),I1.s⟩)
    rw[ax (bn f1)]
    split
    ·exact aC (.inr ⟨_,_,_,_,_,rfl,⟨M2,ii,by omega,I1.s⟩,by omega⟩)
    ·exact aC ⟨_,_,_,_,_,rfl,⟨M2,ii,by omega,I1.s⟩,by omega, .inr (by omega)⟩
   ·rw[aM hlt,ax ag]
    refine aw (jF hpa ?_)
    have M2:=MA.pushA (q:=pa) T I1.m hpa (jDZ T.sb hpb (by show key pa<=key pb; omega))
    by_cases f1:ia'+1+1=a.size
    ·rw[ao (bp f1)]
     exact aC (.inl ⟨_,rfl,MA.doneL T M2 f1,I1.s⟩)
    rw[ax (bn f1)]
    split
    ·exact aC (.inr ⟨_,_,_,_,_,rfl,⟨M2,by omega,jj,I1.s⟩,by omega⟩)
    ·exact aC ⟨_,_,_,_,_,rfl,⟨M2,by omega,jj,I1.s⟩,by omega, .inr (by omega)⟩
  case post1=>
   rintro c st2 (⟨r,hr,d,g⟩ | ⟨out1,ia1,ib1,ac,bc,rfl,I1,h1⟩)
   ·obtain⟨r0,c⟩:=c
    have hr:r0=some r:=hr
    subst hr
    exact aC ⟨r,rfl,d,g⟩
   dsimp only
   refine aw (gc (cS ⟨rfl,?_⟩))
   refine aw (cD (bD (I:=fun y c st'=>∃ out' ia' ib' mg' ac bc,c=(none,out',ia',ib',mg',ac,bc)/\LoI a b st out' ia' ib' st'/\ia+ib<ia'+ib')
    (Q:=fun c st'=>(∃ r,c.1=some r/\kX a b r/\SG st st')\/∃ out' ia' ib' mg' ac bc,c=(none,out',ia',ib',mg',ac,bc)/\LoI a b st out' ia' ib' st'/\ia+ib<ia'+ib') ?step2 ?fin2 ⟨_,_,_,_,_,_,rfl,I1,h1⟩) ?post2)
   case fin2=>
    rintro c st' ⟨out',ia',ib',mg',ac,bc,rfl,I2,h2⟩
    exact .inr ⟨_,_,_,_,_,_,rfl,I2,h2⟩
   case post2=>
    rintro c st3 (⟨r,hr,d,g⟩ | ⟨out2,ia2,ib2,mg2,ac,bc,rfl,I2,h2⟩)
    ·obtain⟨r0,c⟩:=c
     have hr:r0=some r:=hr
     subst hr
     exact aC ⟨r,rfl,d,g⟩
    dsimp only
    rw[jA3]
    exact aw (dw (aC ⟨_,_,_,_,rfl,⟨I2.m,I2.i,I2.j,I2.s.gal _⟩,by omega⟩))
   case step2=>
    clear I0 I1
    rintro y c st2 _ hy ⟨out,ia,ib,mg',ac,bc,rfl,I0,h2⟩
    dsimp only
    obtain⟨pb,hpb,ipb⟩:=T.atB I0.j
    by_cases hg:mg'>1
    case' pos=>
     rw[ao hg]
     generalize hgg:mg' - 1=gg
    case' neg=>
     rw[ax hg]
     generalize hgg:mg'=gg
    all_goals
     rw[jA3]
     refine aw (dw ?_)
     have G1:=I0.s.gal gg
     refine aw (jF hpb ?_)
     refine aw (jNQ (G1.k.trans hk) ipb T.ia T.sa (by have:=I0.i; omega) fun k1 g1 g2 g3=>?_)
     dsimp only
     have M1:=MA.appA T I0.m k1 (fun n x h1 h2 h3=>jDZ T.sb hpb (g2 n x h1 h2 h3))
     have hgt:∀ y∈a.toList.drop (ia+k1),LE pb y:=fun y hy=>by
      obtain⟨n,h1,h2⟩:=jC9 hy
      exact bX (g3 n y h1 h2)
     have jb:=I0.j
     by_cases e0:k1>0
     case' pos=>
      rw[ao e0]
      by_cases f1:ia+k1+1=a.size
      ·rw[ao (bp f1)]
       exact aC (.inl ⟨_,rfl,MA.doneL T M1 f1,G1⟩)
      rw[ax (bn f1)]
      by_cases f2:ia+k1=a.size
      ·rw[ao (bp f2)]
       exact aC (.inl ⟨_,rfl,MA.doneB T M1 (by omega),G1⟩)
      rw[ax (bn f2)]
      obtain⟨pa,hpa,ipa⟩:=T.atA (i:=ia+k1) (by omega)
      have hz:ia+k1<a.size:=by omega
      generalize hiz:ia+k1=iz at*
     case' neg=>
      rw[ax e0]
      have e0':k1=0:=by omega
      subst e0'
      have M1:=I0.m
      obtain⟨pa,hpa,ipa⟩:=T.atA (i:=ia) (by have:=I0.i; omega)
      have hz:ia<a.size:=by have:=I0.i; omega
      rw[hG] at hgt
      have hia:=I0.i
      generalize hiz:ia=iz at*
     all_goals
      refine aw (jF hpb ?_)
      have M2:=MA.pushB (q:=pb) T M1 hpb hgt
      by_cases e1:ib+1=b.size
      ·rw[ao (bp e1)]
       exact aC (.inl ⟨_,rfl,MA.doneA T M2 (by omega),G1⟩)
      rw[ax (bn e1)]
      refine aw (jF hpa ?_)
      refine aw (jNR (G1.k.trans hk) ipa T.ib T.sb (by omega) fun k2 l1 l2 l3=>?_)
      dsimp only
      have M3:=MA.appB T M2 k2 (fun n x h1 h2 h3=>jDZ T.sa hpa (bX (l2 n x h1 h2 h3)))
      have fin3:∀ y∈b.toList.drop (ib+1+k2),LE pa y:=fun y hy=>by
       obtain⟨n,h1,h2⟩:=jC9 hy
       exact l3 n y h1 h2
      by_cases e2:k2>0
      ·rw[ao e2]
       by_cases e3:ib+1+k2=b.size
       ·rw[ao (bp e3)]
        exact aC (.inl ⟨_,rfl,MA.doneA T M3 (by omega),G1⟩)
       rw[ax (bn e3)]
       refine aw (jF hpa ?_)
       have M4:=MA.pushA (q:=pa) T M3 hpa fin3
       by_cases e4:iz+1+1=a.size
       ·rw[ao (bp e4)]
        exact aC (.inl ⟨_,rfl,MA.doneL T M4 e4,G1⟩)
       rw[ax (bn e4)]
       split
       ·exact aC (.inr ⟨_,_,_,_,_,_,rfl,⟨M4,by omega,by omega,G1⟩,by omega⟩)
       ·exact aC ⟨_,_,_,_,_,_,rfl,⟨M4,by omega,by omega,G1⟩,by omega⟩
      ·rw[ax e2]
       have e0:k2=0:=by omega
       subst e0
       refine aw (jF hpa ?_)
       have M4:=MA.pushA (q:=pa) T M2 hpa fin3
       by_cases e4:iz+1+1=a.size
       ·rw[ao (bp e4)]
        exact aC (.inl ⟨_,rfl,MA.doneL T M4 e4,G1⟩)
       rw[ax (bn e4)]
       split
       ·exact aC (.inr ⟨_,_,_,_,_,_,rfl,⟨M4,by omega,by omega,G1⟩,by omega⟩)
       ·exact aC ⟨_,_,_,_,_,_,rfl,⟨M4,by omega,by omega,G1⟩,by omega⟩
end
structure MHL (tot xa xb o:List Keyed):Prop where
 perm:(xa++xb++o).Perm tot
 srt:Srt o
 le:∀ x∈o,∀ y∈xa++xb,LE y x
theorem MHL.takeA {tot u v xb o:List Keyed}(h:MHL tot (u++v) xb o)(s:Srt (u++v))(hc:∀ x∈v,∀ y∈xb,LE y x):MHL tot u xb (v++o):=by
 have sp:=dc.mp s
 refine⟨?_,y8 sp.2.1 h.srt fun x hx y hy=>h.le y hy x (aJ _ (aF _ hx)),fun x hx y hy=>?_⟩
 ·refine List.Perm.trans ?_ h.perm
  rw[aI,aI,aI]
  refine bR u ?_
  rw[<- aI,<- aI]
  exact ev o bI
 ·rcases aq.mp hx with q | q
  ·rcases aq.mp hy with z | z
   ·exact sp.2.2 y z x q
   ·exact hc x q y z
  ·refine h.le x q y ?_
   rcases aq.mp hy with z | z
   ·exact aJ _ (aJ _ z)
   ·exact aF _ z
theorem MHL.takeB {tot u v xa o:List Keyed}(h:MHL tot xa (u++v) o)(s:Srt (u++v))(hc:∀ x∈v,∀ y∈xa,LE y x):MHL tot xa u (v++o):=by
 have sp:=dc.mp s
 refine⟨?_,y8 sp.2.1 h.srt fun x hx y hy=>h.le y hy x (aF _ (aF _ hx)),fun x hx y hy=>?_⟩
 ·refine List.Perm.trans (gw ?_) h.perm
  simp only [aI]
 ·rcases aq.mp hx with q | q
  ·rcases aq.mp hy with z | z
   ·exact hc x q y z
   ·exact sp.2.2 y z x q
  ·refine h.le x q y ?_
   rcases aq.mp hy with z | z
   ·exact aJ _ z
   ·exact aF _ (aJ _ z)
theorem MHL.out {tot xa xb o:List Keyed}(h:MHL tot xa xb o)(s:Srt (xa++xb)):(xa++xb++o).Perm tot/\Srt (xa++xb++o):=
 ⟨h.perm,y8 s h.srt fun x hx y hy=>h.le y hy x hx⟩
theorem MHL.outF {tot xa xb o:List Keyed}(h:MHL tot xa xb o)(s:Srt (xb++xa)):(xb++xa++o).Perm tot/\Srt (xb++xa++o):=
 ⟨(ev o bI).trans h.perm,y8 s h.srt fun x hx y hy=>h.le y hy x (by
  rcases aq.mp hx with z | z
  ·exact aF _ z
  ·exact aJ _ z)⟩
theorem jGA {l:List Keyed}{n:Nat}{p:Keyed}(hn:0<n)(h:l[n - 1]?=some p):l.take n=l.take (n - 1)++[p]:=by
 obtain⟨m,rfl⟩:∃ m,n=m+1:=⟨n - 1,by omega⟩
 rw[g6] at h ⊢
 rw[List.take_succ,h]
 rfl
theorem jG9 {l:List Keyed}{k n:Nat}(hk:k<=n):l.take n=l.take k++(l.drop k).take (n - k):=by
 obtain⟨m,rfl⟩:∃ m,n=k+m:=⟨n - k,by omega⟩
 rw[cg,List.take_add]
theorem jAI {a:Array Keyed}{k n:Nat} :(a.extract k n).toList=(a.toList.drop k).take (n - k):=by
 rw[eN,cW]
theorem jB1 {a:Array Keyed}{n:Nat} :(a.extract 0 n).toList=a.toList.take n:=by
 rw[jAI,dH,hV]
abbrev MH (a b out:Array Keyed)(na nb:Nat):Prop:=MHL (a.toList++b.toList) (a.toList.take na) (b.toList.take nb) out.toList.reverse
theorem jC8 {l:List Keyed}{n:Nat}{y:Keyed}(h:y∈l.take n):∃ j,j<n/\l[j]?=some y:=by
 obtain⟨k,hk⟩:=ce h
 have hlt:k<n:=by
  have:=(af.mp hk).1
  rw[aU] at this
  omega
 rw[bO hlt] at hk
 exact⟨k,hlt,hk⟩
section
variable {a b out:Array Keyed}{i j k:Nat}
theorem jC6 (s:Srt a.toList){p q:Keyed}(hp:a[i - 1]?=some p)(h:LE p q):∀ y∈a.toList.take i,LE y q:=fun y hy=>by
 obtain⟨n,h1,h2⟩:=jC8 hy
 exact cN (jD2 s h2 (at_list.mp hp) (by omega)) h
theorem MH.pushA (T:Two a b)(h:MH a b out i j){p:Keyed}(hi:0<i)(hp:a[i - 1]?=some p)(hc:∀ y∈b.toList.take j,LE y p):MH a b (out.push p) (i - 1) j:=by
 have e:=jGA hi (at_list.mp hp)
 have s:=T.sa.take i
 unfold MH at h ⊢
 rw[e] at h s
 rw[dE,dQ]
 exact h.takeA s fun x hx=>by rw[ah.mp hx]; exact hc
theorem MH.pushB (T:Two a b)(h:MH a b out i j){p:Keyed}(hj:0<j)(hp:b[j - 1]?=some p)(hc:∀ y∈a.toList.take i,LE y p):MH a b (out.push p) i (j - 1):=by
 have e:=jGA hj (at_list.mp hp)
 have s:=T.sb.take j
 unfold MH at h ⊢
 rw[e] at h s
 rw[dE,dQ]
 exact h.takeB s fun x hx=>by rw[ah.mp hx]; exact hc
theorem MH.appA (T:Two a b)(h:MH a b out i j)(hk:k<=i)(hc:∀ n x,k<=n->n<i->a.toList[n]?=some x->∀ y∈b.toList.take j,LE y x):MH a b (out++(a.extract k i).reverse) k j:=by
 have e:=jG9 (l:=a.toList) hk
 have s:=T.sa.take i
 unfold MH at h ⊢
 rw[e] at h s
 rw[aY,cF,dQ,gL,jAI]
 exact h.takeA s fun x hx y hy=>by
  obtain⟨n,h1,h2,h3⟩:=jA4 hx
  exact hc n x h1 (by omega) h3 y hy
theorem MH.appB (T:Two a b)(h:MH a b out i j)(hk:k<=j)(hc:∀ n x,k<=n->n<j->b.toList[n]?=some x->∀ y∈a.toList.take i,LE y x):MH a b (out++(b.extract k j).reverse) i k:=by
 have e:=jG9 (l:=b.toList) hk
 have s:=T.sb.take j
 unfold MH at h ⊢
 rw[e] at h s
 rw[aY,cF,dQ,gL,jAI]
 exact h.takeB s fun x hx y hy=>by
  obtain⟨n,h1,h2,h3⟩:=jA4 hx
  exact hc n x h1 (by omega) h3 y hy
theorem MH.doneA (T:Two a b)(h:MH a b out 0 j):kX a b (a.extract 0 0++b.extract 0 j++out.reverse):=by
 unfold kX
 rw[aY,aY,jB1,jB1,cF]
 exact h.out (by rw[fo]; exact T.sb.take j)
theorem MH.doneB (T:Two a b)(h:MH a b out i 0):kX a b (a.extract 0 i++b.extract 0 0++out.reverse):=by
 unfold kX
 rw[aY,aY,jB1,jB1,cF]
 exact h.out (by rw[fo,aW]; exact T.sa.take i)
theorem MH.doneF (T:Two a b)(h:MH a b out i 1):kX a b (b.extract 0 1++a.extract 0 i++out.reverse):=by
 unfold kX
 rw[aY,aY,jB1,jB1,cF]
 refine h.outF (y8 (T.sb.take 1) (T.sa.take i) fun x hx y hy=>?_)
 obtain⟨n,h1,h2⟩:=jC8 hx
 have:n=0:=by omega
 subst this
 exact bX (T.first y (cE hy) x h2)
end
section
variable {prog:Program}{w:World}{A:Around}{E:Value->Shared->Prop}{s:Shared} [LtOk prog w A s]
theorem jGP {st:SortSt}{a:Array Keyed}{i len hint:Nat}{p:Keyed}{Q:Option Nat->SortSt->Prop}(hk:kindOf st=Od.kd)(hp:IsI p)(ha:AllI a.toList)
  (sa:∀ n m x y,i<=n->n<=m->m<i+len->a[n]?=some x->a[m]?=some y->LE x y) (hh:hint<len) (hl:i+len<=a.size)
  (h:∀ k,k<=len->(∀ n x,i<=n->n<i+k->a[n]?=some x->LE x p)->(∀ n x,i+k<=n->n<i+len->a[n]?=some x->key p<key x)->Q (some k) st):
  wpS (model prog w) A E s (jB9 false p a i len hint) Q st:=by
 refine jAV hk hp (fun n hn=>?_) hh (fun n=>match a[i+n]? with | some x=>!decide (key p<key x) | none=>false) (fun n x hn hx=>?_) (fun n m hnm hm hb=>?_) fun k hk1 hk2 hk3=>h k (by omega) (fun n x h1 h2 h3=>?_) fun n x h1 h2 h3=>?_
 ·obtain⟨q,q1,q2⟩:=yR (a:=a) (i:=i+n) (by omega)
  exact⟨q,q1,ha q (ak q2)⟩
 ·rw[hx,ax ag]
 ·obtain⟨x,x1,x2⟩:=yR (a:=a) (i:=i+n) (by omega)
  obtain⟨y,y1,y2⟩:=yR (a:=a) (i:=i+m) (by omega)
  rw[y1] at hb
  rw[x1]
  have:=sa (i+n) (i+m) x y (by omega) (by omega) (by omega) x1 y1
  have hb:¬ key p<key y:=by simpa using hb
  show (!decide (key p<key x))=true
  rw[fz,dq]
  have:key x<=key y:=this
  omega
 ·have:=hk2 (n - i) (by omega)
  rw[show i+(n - i)=n by omega,h3] at this
  have this:¬ key p<key x:=by simpa using this
  show key x<=key p
  omega
 ·have:=hk3 (n - i) (by omega) (by omega)
  rw[show i+(n - i)=n by omega,h3] at this
  simpa using this
theorem jGQ {st:SortSt}{a:Array Keyed}{i len hint:Nat}{p:Keyed}{Q:Option Nat->SortSt->Prop}(hk:kindOf st=Od.kd)(hp:IsI p)(ha:AllI a.toList)
  (sa:∀ n m x y,i<=n->n<=m->m<i+len->a[n]?=some x->a[m]?=some y->LE x y) (hh:hint<len) (hl:i+len<=a.size)
  (h:∀ k,k<=len->(∀ n x,i<=n->n<i+k->a[n]?=some x->key x<key p)->(∀ n x,i+k<=n->n<i+len->a[n]?=some x->LE p x)->Q (some k) st):
  wpS (model prog w) A E s (jB9 true p a i len hint) Q st:=by
 refine jAV hk hp (fun n hn=>?_) hh (fun n=>match a[i+n]? with | some x=>decide (key x<key p) | none=>false) (fun n x hn hx=>?_) (fun n m hnm hm hb=>?_) fun k hk1 hk2 hk3=>h k (by omega) (fun n x h1 h2 h3=>?_) fun n x h1 h2 h3=>?_
 ·obtain⟨q,q1,q2⟩:=yR (a:=a) (i:=i+n) (by omega)
  exact⟨q,q1,ha q (ak q2)⟩
 ·rw[hx,ao rfl]
 ·obtain⟨x,x1,x2⟩:=yR (a:=a) (i:=i+n) (by omega)
  obtain⟨y,y1,y2⟩:=yR (a:=a) (i:=i+m) (by omega)
  rw[y1] at hb
  rw[x1]
  have:=sa (i+n) (i+m) x y (by omega) (by omega) (by omega) x1 y1
  have hb:key y<key p:=aR hb
  show decide (key x<key p)=true
  rw[bo]
  have:key x<=key y:=this
  omega
 ·have:=hk2 (n - i) (by omega)
  rw[show i+(n - i)=n by omega,h3] at this
  exact aR this
 ·have:=hk3 (n - i) (by omega) (by omega)
  rw[show i+(n - i)=n by omega,h3] at this
  have this:¬ key x<key p:=g4 this
  show key p<=key x
  omega
end
section
variable {prog:Program}{w:World}{A:Around}{E:Value->Shared->Prop}{s:Shared} [LtOk prog w A s]
structure HiI (a b:Array Keyed)(st:SortSt)(out:Array Keyed)(na nb:Nat)(st':SortSt):Prop where
 m:MH a b out na nb
 i:0<na
 ia:na<=a.size
 j:1<nb
 jb:nb<=b.size
 s:SG st st'
theorem whole {a:Array Keyed}(s:Srt a.toList){len:Nat} :∀ n m x y,0<=n->n<=m->m<0+len->a[n]?=some x->a[m]?=some y->LE x y:=fun n m x y _ h _ hx hy=>jD2 s (at_list.mp hx) (at_list.mp hy) h
theorem jFH {a b:Array Keyed}{st:SortSt}{Q:Array Keyed->SortSt->Prop}(hk:kindOf st=Od.kd)(T:Two a b)(h:∀ r st',kX a b r->SG st st'->Q r st'):wpS (model prog w) A E s (jDV a b) Q st:=by
 rw[mergeHiB.2]
 delta mergeHiB
 dsimp only
 simp only [elP,ltP,jFZ,jHY]
 have na:=T.na
 have nb:=T.nb
 refine aw (gc (cS ⟨rfl,?_⟩))
 obtain⟨p0,hp0,ip0⟩:=T.atA (i:=a.size - 1) (by omega)
 refine aw (jF hp0 ?_)
 have M0:MH a b #[p0] (a.size - 1) b.size:=by
  have z:MH a b #[] a.size b.size:=⟨by
   rw[show a.toList.take a.size=a.toList from bC (by simp),show b.toList.take b.size=b.toList from bC (by simp)]
   show ((a.toList++b.toList)++([]:List Keyed)).Perm _
   rw[aW],List.Pairwise.nil,fun x hx=>by cases hx⟩
  have:=MH.pushA T z (by omega) hp0 fun y hy=>bX (T.last y (cE hy) p0 (at_list.mp hp0))
  exact this
 by_cases e1:a.size - 1=0
 ·rw[ao (bp e1)]
  rw[e1] at M0 ⊢
  exact aC (h _ _ (MH.doneA T M0) (SG.refl _))
 rw[ax (bn e1)]
 by_cases e2:b.size=1
 ·rw[ao (bp e2)]
  rw[e2] at M0 ⊢
  exact aC (h _ _ (MH.doneF T M0) (SG.refl _))
 rw[ax (bn e2)]
 refine aw (fg ?_)
 refine aw (cD (bD (I:=fun x c st'=>∃ out na nb mg,c=(none,na,nb,out,mg)/\HiI a b st out na nb st'/\x+1<=a.size - na+(b.size - nb))
  (Q:=fun c st'=>∃ r,c.1=some r/\kX a b r/\SG st st') ?step ?fin ⟨_,_,_,_,rfl,⟨M0,by omega,by omega,by omega,by omega,SG.refl _⟩,by omega⟩) ?post)
 case post=>
  rintro ⟨r0,c⟩ st' ⟨r,hr,d,g⟩
  have hr:r0=some r:=hr
  subst hr
  exact aC (h r st' d g)
 case fin=>
  rintro c st' ⟨out,na,nb,mg,rfl,I0,hx⟩
  have:=I0.i
  have:=I0.j
  omega
 case step=>
  rintro x c st1 _ hx ⟨out,na,nb,mg,rfl,I0,hxx⟩
  dsimp only
  refine aw (cD (bD (I:=fun y c st'=>∃ out' na' nb' ac bc,c=(none,na',nb',out',ac,bc)/\HiI a b st out' na' nb' st'/\na'+nb'<=na+nb/\(y=0\/na'+nb'<na+nb))
   (Q:=fun c st'=>(∃ r,c.1=some r/\kX a b r/\SG st st')\/∃ out' na' nb' ac bc,c=(none,na',nb',out',ac,bc)/\HiI a b st out' na' nb' st'/\na'+nb'<na+nb) ?step1 ?fin1 ⟨_,_,_,_,_,rfl,I0,by omega, .inl rfl⟩) ?post1)
  case fin1=>
   rintro c st' ⟨out',na',nb',ac,bc,rfl,I1,h1,h2⟩
   exact .inr ⟨_,_,_,_,_,rfl,I1,by omega⟩
  case step1=>
   rintro y c st2 _ hy ⟨out',na',nb',ac,bc,rfl,I1,h1,h2⟩
   dsimp only
   have i0:=I1.i
   have i1:=I1.ia
   have j0:=I1.j
   have j1:=I1.jb
   obtain⟨pb,hpb,ipb⟩:=T.atB (i:=nb' - 1) (by omega)
   obtain⟨pa,hpa,ipa⟩:=T.atA (i:=na' - 1) (by omega)
   refine aw (jF hpb (aw (jF hpa (aw (jEC (I1.s.k.trans hk) ipb ipa ?_)))))
   dsimp only
   by_cases hlt:key pb<key pa
   ·rw[aK hlt,ao rfl]
    refine aw (jF hpa ?_)
    have M2:=MH.pushA T I1.m i0 hpa (jC6 T.sb hpb (bX hlt))
    by_cases f1:na' - 1=0
    ·rw[ao (bp f1)]
     rw[f1] at M2 ⊢
     exact aC (.inl ⟨_,rfl,MH.doneA T M2,I1.s⟩)
    rw[ax (bn f1)]
    split
    ·exact aC (.inr ⟨_,_,_,_,_,rfl,⟨M2,by omega,by omega,j0,j1,I1.s⟩,by omega⟩)
    ·exact aC ⟨_,_,_,_,_,rfl,⟨M2,by omega,by omega,j0,j1,I1.s⟩,by omega, .inr (by omega)⟩
   ·rw[aM hlt,ax ag]
    refine aw (jF hpb ?_)
    have M2:=MH.pushB T I1.m (by omega) hpb (jC6 T.sa hpa (by show key pa<=key pb; omega))
    by_cases f1:nb' - 1=1
    ·rw[ao (bp f1)]
     rw[f1] at M2 ⊢
     exact aC (.inl ⟨_,rfl,MH.doneF T M2,I1.s⟩)
    rw[ax (bn f1)]
    split
    ·exact aC (.inr ⟨_,_,_,_,_,rfl,⟨M2,i0,i1,by omega,by omega,I1.s⟩,by omega⟩)
    ·exact aC ⟨_,_,_,_,_,rfl,⟨M2,i0,i1,by omega,by omega,I1.s⟩,by omega, .inr (by omega)⟩
  case post1=>
   rintro c st2 (⟨r,hr,d,g⟩ | ⟨out1,na1,nb1,ac,bc,rfl,I1,h1⟩)
   ·obtain⟨r0,c⟩:=c
    have hr:r0=some r:=hr
    subst hr
    exact aC ⟨r,rfl,d,g⟩
   dsimp only
   refine aw (gc (cS ⟨rfl,?_⟩))
   refine aw (cD (bD (I:=fun y c st'=>∃ out' na' nb' mg' ac bc,c=(none,na',nb',out',mg',ac,bc)/\HiI a b st out' na' nb' st'/\na'+nb'<na+nb)
    (Q:=fun c st'=>(∃ r,c.1=some r/\kX a b r/\SG st st')\/∃ out' na' nb' mg' ac bc,c=(none,na',nb',out',mg',ac,bc)/\HiI a b st out' na' nb' st'/\na'+nb'<na+nb) ?step2 ?fin2 ⟨_,_,_,_,_,_,rfl,I1,h1⟩) ?post2)
   case fin2=>
    rintro c st' ⟨out',na',nb',mg',ac,bc,rfl,I2,h2⟩
    exact .inr ⟨_,_,_,_,_,_,rfl,I2,h2⟩
   case post2=>
    have q1:=I0.ia
    have q2:=I0.jb
    rintro c st3 (⟨r,hr,d,g⟩ | ⟨out2,na2,nb2,mg2,ac,bc,rfl,I2,h2⟩)
    ·obtain⟨r0,c⟩:=c
     have hr:r0=some r:=hr
     subst hr
     exact aC ⟨r,rfl,d,g⟩
    dsimp only
    rw[jA3]
    have q3:=I2.ia
    have q4:=I2.jb
    exact aw (dw (aC ⟨_,_,_,_,rfl,⟨I2.m,I2.i,I2.ia,I2.j,I2.jb,I2.s.gal _⟩,by omega⟩))
   case step2=>
    clear I0 I1
    rename_i na00 nb00
    generalize hbd:na+nb=bd
    clear hxx h1
    rintro y c st2 _ hy ⟨out,na,nb,mg',ac,bc,rfl,I0,h2⟩
    dsimp only
    obtain⟨pb,hpb,ipb⟩:=T.atB (i:=nb - 1) (by have:=I0.j; have:=I0.jb; omega)
    by_cases hg:mg'>1
    case' pos=>
     rw[ao hg]
     generalize hgg:mg' - 1=gg
    case' neg=>
     rw[ax hg]
     generalize hgg:mg'=gg
    all_goals
     rw[jA3]
     refine aw (dw ?_)
     have G1:=I0.s.gal gg
     have na0:=I0.i
     have na1:=I0.ia
     have nb0:=I0.j
     have nb1:=I0.jb
     refine aw (jF hpb ?_)
     refine aw (jGP (G1.k.trans hk) ipb T.ia (whole T.sa) (by omega) (by omega) fun k1 g1 g2 g3=>?_)
     dsimp only
     have M1:=MH.appA T I0.m g1 (fun n x h1 h2 h3=>jC6 T.sb hpb (bX (g3 n x (by omega) (by omega) (at_list.mpr h3))))
     have hle:∀ y∈a.toList.take k1,LE y pb:=fun y hy=>by
      obtain⟨n,h1,h2⟩:=jC8 hy
      exact g2 n y (by omega) (by omega) (at_list.mpr h2)
     by_cases e0:na - k1>0
     case' pos=>
      rw[ao e0]
      by_cases f1:k1=0
      ·rw[ao (bp f1)]
       rw[f1] at M1 ⊢
       exact aC (.inl ⟨_,rfl,MH.doneA T M1,G1⟩)
      rw[ax (bn f1)]
      obtain⟨pa,hpa,ipa⟩:=T.atA (i:=k1 - 1) (by omega)
      have hz:0<k1:=by omega
      generalize hiz:k1=iz at*
     case' neg=>
      rw[ax e0]
      have e0':k1=na:=by omega
      subst e0'
      have M1:=I0.m
      obtain⟨pa,hpa,ipa⟩:=T.atA (i:=k1 - 1) (by omega)
      have hz:0<k1:=by omega
      generalize hiz:k1=iz at*
     all_goals
      refine aw (jF hpb ?_)
      have M2:=MH.pushB T M1 (by omega) hpb hle
      by_cases e1:nb - 1=1
      ·rw[ao (bp e1)]
       rw[e1] at M2 ⊢
       exact aC (.inl ⟨_,rfl,MH.doneF T M2,G1⟩)
      rw[ax (bn e1)]
      refine aw (jF hpa ?_)
      refine aw (jGQ (G1.k.trans hk) ipa T.ib (whole T.sb) (by omega) (by omega) fun k2 l1 l2 l3=>?_)
      dsimp only
      have M3:=MH.appB T M2 l1 (fun n x h1 h2 h3=>jC6 T.sa hpa (l3 n x (by omega) (by omega) (at_list.mpr h3)))
      have fin3:∀ y∈b.toList.take k2,LE y pa:=fun y hy=>by
       obtain⟨n,h1,h2⟩:=jC8 hy
       exact bX (l2 n y (by omega) (by omega) (at_list.mpr h2))
      by_cases e2:nb - 1 - k2>0
      ·rw[ao e2]
       by_cases e3:k2=1
       ·rw[ao (bp e3)]
        rw[e3] at M3 ⊢
        exact aC (.inl ⟨_,rfl,MH.doneF T M3,G1⟩)
       rw[ax (bn e3)]
       by_cases e5:k2=0
       ·rw[ao (bp e5)]
        rw[e5] at M3 ⊢
        exact aC (.inl ⟨_,rfl,MH.doneB T M3,G1⟩)
       rw[ax (bn e5)]
       refine aw (jF hpa ?_)
       have M4:=MH.pushA T M3 hz hpa fin3
       by_cases e4:iz - 1=0
       ·rw[ao (bp e4)]
        rw[e4] at M4 ⊢
        exact aC (.inl ⟨_,rfl,MH.doneA T M4,G1⟩)
       rw[ax (bn e4)]
       split
       ·exact aC (.inr ⟨_,_,_,_,_,_,rfl,⟨M4,by omega,by omega,by omega,by omega,G1⟩,by omega⟩)
       ·exact aC ⟨_,_,_,_,_,_,rfl,⟨M4,by omega,by omega,by omega,by omega,G1⟩,by omega⟩
      ·rw[ax e2]
       have e0:k2=nb - 1:=by omega
       subst e0
       refine aw (jF hpa ?_)
       have M4:=MH.pushA T M2 hz hpa fin3
       by_cases e4:iz - 1=0
       ·rw[ao (bp e4)]
        rw[e4] at M4 ⊢
        exact aC (.inl ⟨_,rfl,MH.doneA T M4,G1⟩)
       rw[ax (bn e4)]
       split
       ·exact aC (.inr ⟨_,_,_,_,_,_,rfl,⟨M4,by omega,by omega,by omega,by omega,G1⟩,by omega⟩)
       ·exact aC ⟨_,_,_,_,_,_,rfl,⟨M4,by omega,by omega,by omega,by omega,G1⟩,by omega⟩
end
def KI (xs:Array Keyed)(i:Nat):Int:=match xs[i]? with
 | some p=>key p
 | none=>0
def STo (xs:Array Keyed)(k:Nat):Prop:=∀ i j,i<=j->j<k->KI xs i<=KI xs j
structure SB (a₀:Array Keyed)(st:SortSt):Prop where
 perm:(arrOf st).Perm a₀
 kind:kindOf st=Od.kd
 failed:failedOf st=none
 pend:pendingOf st=#[]
theorem SB.size {a₀:Array Keyed}{st:SortSt}(h:SB a₀ st):(arrOf st).size=a₀.size:=h.perm.size_eq
theorem jB3 {xs ys:Array Keyed}{i j:Nat}(h:xs[i]?=ys[j]?):KI xs i=KI ys j:=by unfold KI; rw[h]
theorem jJV {xs:Array Keyed}{src d:Nat}(hs:src<xs.size)(hd:d<=src)(k:Nat):
  KI (bubble xs src d) k=if k=src - d then KI xs src else if src - d<k/\k<=src then KI xs (k - 1) else KI xs k:=by
 have e:=getElem?_bubble hs d hd k
 by_cases h1:k=src - d
 ·rw[ao h1] at e ⊢; exact jB3 e
 ·rw[ax h1] at e ⊢
  by_cases h2:src - d<k/\k<=src
  ·rw[ao h2] at e ⊢; exact jB3 e
  ·rw[ax h2] at e ⊢; exact jB3 e
theorem jBL {xs:Array Keyed}{i j:Nat}(hj:j<=xs.size)(k:Nat):
  KI (mirror xs i j ((j - i) / 2)) k=if i<=k/\k<j then KI xs (i+j - 1 - k) else KI xs k:=by
 have e:=getElem?_mirror_all (i:=i) hj k
 by_cases h1:i<=k/\k<j
 ·rw[ao h1] at e
  rw[ao h1]
  exact jB3 e
 ·rw[ax h1] at e
  rw[ax h1]
  exact jB3 e
theorem jA2 {xs:Array Keyed}{i j:Nat}(hj:j<=xs.size)(heq:∀ k,i<=k->k<j->KI xs k=KI xs (j - 1))(k:Nat):
  KI (mirror xs i j ((j - i) / 2)) k=KI xs k:=by
 rw[jBL hj]
 split
 ·rename_i h
  rw[heq _ (by omega) (by omega),heq k h.1 h.2]
 ·rfl
def Up (xs:Array Keyed)(lo n:Nat):Prop:=∀ i j,lo<=i->i<=j->j<lo+n->KI xs i<=KI xs j
def Dn (xs:Array Keyed)(lo n:Nat):Prop:=∀ i j,lo<=i->i<=j->j<lo+n->KI xs j<=KI xs i
structure BB (a₀:Array Keyed)(p:Array (Nat×Nat×Nat))(F:Nat->Int)(lo:Nat)(st:SortSt):Prop where
 perm:(arrOf st).Perm a₀
 kind:kindOf st=Od.kd
 failed:failedOf st=none
 pend:pendingOf st=p
 low:∀ k,k<lo->KI (arrOf st) k=F k
theorem jLR {a₀ xs:Array Keyed}(hp:xs.Perm a₀)(h0:AllI a₀.toList){i:Nat}(hi:i<a₀.size):∃ q,xs[i]?=some q/\IsI q/\key q=KI xs i:=by
 have hi':i<xs.size:=by rw[hp.size_eq]; exact hi
 have hm:xs[i]∈a₀.toList:=(cV.mp hp).mem_iff.mp (by simp)
 have e:xs[i]?=some xs[i]:=getElem?_pos _ i hi'
 exact⟨xs[i],e,h0 _ hm,by unfold KI; rw[e]⟩
section
variable {prog:Program}{w:World}{A:Around}{E:Value->Shared->Prop}{s:Shared} [LtOk prog w A s]{a₀:Array Keyed}{p:Array (Nat×Nat×Nat)}{F:Nat->Int}{lo:Nat}
theorem BB.sz {st:SortSt}(h:BB a₀ p F lo st):(arrOf st).size=a₀.size:=h.perm.size_eq
theorem BB.arr {st:SortSt}(h:BB a₀ p F lo st){xs:Array Keyed}(hp:xs.Perm (arrOf st))(hl:∀ k,k<lo->KI xs k=KI (arrOf st) k):BB a₀ p F lo (setArr st xs):=
 ⟨hp.trans h.perm,h.kind,h.failed,h.pend,fun k hk=>(hl k hk).trans (h.low k hk)⟩
theorem jBM {st:SortSt}{i j:Nat}{Q:Option Bool->SortSt->Prop}(hB:BB a₀ p F lo st)(h0:AllI a₀.toList)(hi:i<a₀.size)(hj:j<a₀.size)
  (h:Q (some (decide (KI (arrOf st) i<KI (arrOf st) j))) st):wpS (model prog w) A E s (ltAt' i j) Q st:=by
 obtain⟨x,e1,i1,k1⟩:=jLR hB.perm h0 hi
 obtain⟨y,e2,i2,k2⟩:=jLR hB.perm h0 hj
 rw[ltAt'_eq]
 refine aw (fg ?_)
 show wpS _ _ _ _ (do let x <- elem' (arrOf st) i; let y <- elem' (arrOf st) j; lt' x y) Q st
 rw[elem'_eq,elem'_eq,e1,e2]
 refine aw (aC (aw (aC (jEC hB.kind i1 i2 ?_))))
 rw[k1,k2]
 exact h
theorem Up.one {xs:Array Keyed} :Up xs lo 1:=fun i j h1 h2 h3=>by
 have:i=j:=by omega
 rw[this]
 exact cf _
theorem Dn.one {xs:Array Keyed} :Dn xs lo 1:=fun i j h1 h2 h3=>by
 have:i=j:=by omega
 rw[this]
 exact cf _
theorem Up.more {xs:Array Keyed}{n:Nat}(h:Up xs lo n)(hn:0<n)(hc:KI xs (lo+n - 1)<=KI xs (lo+n)):Up xs lo (n+1):=fun i j h1 h2 h3=>by
 by_cases e:j<lo+n
 ·exact h i j h1 h2 e
 ·have ej:j=lo+n:=by omega
  subst ej
  by_cases ei:i=lo+n
  ·rw[ei]
   exact cf _
  ·exact cN (h i (lo+n - 1) h1 (by omega) (by omega)) hc
theorem Dn.more {xs:Array Keyed}{n:Nat}(h:Dn xs lo n)(hn:0<n)(hc:KI xs (lo+n)<=KI xs (lo+n - 1)):Dn xs lo (n+1):=fun i j h1 h2 h3=>by
 by_cases e:j<lo+n
 ·exact h i j h1 h2 e
 ·have ej:j=lo+n:=by omega
  subst ej
  by_cases ei:i=lo+n
  ·rw[ei]
   exact cf _
  ·exact cN hc (h i (lo+n - 1) h1 (by omega) (by omega))
theorem Dn.congr {xs ys:Array Keyed}{n:Nat}(h:Dn xs lo n)(e:∀ k,KI ys k=KI xs k):Dn ys lo n:=fun i j h1 h2 h3=>by
 rw[e i,e j]
 exact h i j h1 h2 h3
theorem jDI {st:SortSt}{nrem:Nat}{Q:Option Nat->SortSt->Prop}(h0:AllI a₀.toList)(hn:lo+nrem<=a₀.size)(hn1:1<=nrem)(hB:BB a₀ p F lo st)
  (h:∀ m st',BB a₀ p F lo st'->1<=m->m<=nrem->Up (arrOf st') lo m->Q (some m) st'):wpS (model prog w) A E s (countRun' lo nrem) Q st:=by
 rw[countRun'_eq]
 dsimp only
 refine aw (cD (bD (I:=fun x c st'=>st'=st/\c=(none,x)/\Up (arrOf st) lo x)
  (Q:=fun c st'=>st'=st/\∃ n,c=(none,n)/\1<=n/\n<=nrem/\Up (arrOf st) lo n/\(n=nrem\/KI (arrOf st) (lo+n)<KI (arrOf st) (lo+n - 1))) ?step ?fin ⟨rfl,rfl,Up.one⟩) ?post)
 case fin=>
  rintro c st' ⟨rfl,rfl,hu⟩
  rw[show max 1 nrem=nrem by omega] at hu ⊢
  exact⟨rfl,nrem,rfl,hn1,az _,hu, .inl rfl⟩
 case step=>
  rintro x c st' h1 h2 ⟨rfl,rfl,hu⟩
  dsimp only
  refine aw (jBM hB h0 (by omega) (by omega) ?_)
  dsimp only
  by_cases hl:KI (arrOf st') (lo+x)<KI (arrOf st') (lo+x - 1)
  ·rw[aK hl,ao rfl]
   exact aC ⟨rfl,x,rfl,by omega,by omega,hu, .inr hl⟩
  ·rw[aM hl,ax ag]
   exact aC ⟨rfl,rfl,hu.more (by omega) (by omega)⟩
 case post=>
  rintro c st' ⟨rfl,n,rfl,n1,n2,hu,hor⟩
  dsimp only
  by_cases hnn:n=nrem
  ·rw[ao (bp hnn)]
   exact aC (h n st' hB n1 n2 hu)
  rw[ax (bn hnn)]
  have hlt:=hor.resolve_left hnn
  have hz:lo+n<=(arrOf st').size:=by rw[hB.sz]; omega
  by_cases hgt:n>1
  case' pos=>
   rw[ao hgt]
   refine aw (jBM hB h0 (by omega) (by omega) ?_)
   dsimp only
   by_cases hr:KI (arrOf st') lo<KI (arrOf st') (lo+n - 1)
   ·rw[aK hr,ao rfl]
    exact aC (h n st' hB n1 n2 hu)
   rw[aM hr,ax ag]
   have hall:∀ k,lo<=k->k<lo+n->KI (arrOf st') k=KI (arrOf st') (lo+n - 1):=fun k h1 h2=>by
    have a1:=hu lo k (by omega) h1 h2
    have a2:=hu k (lo+n - 1) h1 (by omega) (by omega)
    omega
   refine aw (wpS_reverse ?_)
   have hB1:=hB.arr (xs:=mirror (arrOf st') lo (lo+n) ((lo+n - lo) / 2)) (mirror_perm _ _ _ _) fun k _=>jA2 hz hall k
   have hs0:Dn (arrOf st') lo n:=fun i j h1 h2 h3=>by
    rw[hall i h1 (by omega),hall j (by omega) h3]
    exact cf _
   have hs1:Dn (arrOf (setArr st' (mirror (arrOf st') lo (lo+n) ((lo+n - lo) / 2)))) lo (n+1):=(hs0.more (by omega) (bX hlt)).congr (jA2 hz hall)
   generalize setArr st' (mirror (arrOf st') lo (lo+n) ((lo+n - lo) / 2))=st1 at*
  case' neg=>
   rw[ax hgt]
   have en:n=1:=by omega
   have hB1:=hB
   have hs1:Dn (arrOf st') lo (n+1):=by
    rw[en] at hlt ⊢
    exact Dn.one.more (by omega) (bX hlt)
  all_goals
   refine aw (gc (cS ⟨rfl,?_⟩))
   refine aw (cD (bD (I:=fun x c st'=>∃ q,c=(none,x,q)/\BB a₀ p F lo st'/\Dn (arrOf st') lo x/\q+1<=x/\∀ i,lo+x - (q+1)<=i->i<lo+x->KI (arrOf st') i=KI (arrOf st') (lo+x - 1))
    (Q:=fun c st'=>∃ m q,c=(none,m,q)/\1<=m/\m<=nrem/\BB a₀ p F lo st'/\Dn (arrOf st') lo m/\q+1<=m/\∀ i,lo+m - (q+1)<=i->i<lo+m->KI (arrOf st') i=KI (arrOf st') (lo+m - 1)) ?dstep ?dfin ⟨0,rfl,hB1,hs1,by omega,fun i h1 h2=>by congr 1; omega⟩) ?dpost)
   case dfin=>
    rintro c st' ⟨q,rfl,hb,hd,hq,he⟩
    rw[show max (n+1) nrem=nrem by omega] at hd hq he ⊢
    exact⟨nrem,q,rfl,by omega,by omega,hb,hd,hq,he⟩
   case dstep=>
    rintro x c st' h1 h2 ⟨q,rfl,hb,hd,hq,he⟩
    dsimp only
    have hz:lo+x<=(arrOf st').size:=by rw[hb.sz]; omega
    refine aw (jBM hb h0 (by omega) (by omega) ?_)
    dsimp only
    by_cases hl:KI (arrOf st') (lo+x)<KI (arrOf st') (lo+x - 1)
    ·rw[aK hl,ao rfl]
     have d1:=hd.more (by omega) (bX hl)
     by_cases hq0:q>0
     ·rw[ao hq0]
      refine aw (wpS_reverse (aC ⟨0,rfl,hb.arr (mirror_perm _ _ _ _) fun k _=>jA2 hz he k,d1.congr (jA2 hz he),by omega,fun i h1 h2=>by congr 1; omega⟩))
     ·rw[ax hq0]
      exact aC ⟨0,rfl,hb,d1,by omega,fun i h1 h2=>by congr 1; omega⟩
    ·rw[aM hl,ax ag]
     refine aw (jBM hb h0 (by omega) (by omega) ?_)
     dsimp only
     by_cases hg:KI (arrOf st') (lo+x - 1)<KI (arrOf st') (lo+x)
     ·rw[aK hg,ao rfl]
      exact aC ⟨x,q,rfl,by omega,by omega,hb,hd,hq,he⟩
     ·rw[aM hg,ax ag]
      have ex:KI (arrOf st') (lo+x)=KI (arrOf st') (lo+x - 1):=by omega
      refine aC ⟨q+1,rfl,hb,hd.more (by omega) (by omega),by omega,fun i h1 h2=>?_⟩
      rw[show lo+(x+1) - 1=lo+x by omega]
      by_cases hix:i=lo+x
      ·rw[hix]
      ·rw[ex]
       exact he i (by omega) (by omega)
   case dpost=>
    rintro c st2 ⟨m,q,rfl,m1,m2,hB2,hs2,hq,he⟩
    dsimp only
    have hz2:lo+m<=(arrOf st2).size:=by rw[hB2.sz]; omega
    by_cases hq0:q>0
    case' pos=>
     rw[ao hq0]
     refine aw (wpS_reverse ?_)
     have hB3:=hB2.arr (xs:=mirror (arrOf st2) (lo+m - (q+1)) (lo+m) ((lo+m - (lo+m - (q+1))) / 2)) (mirror_perm _ _ _ _) fun k _=>jA2 hz2 he k
     have hs3:Dn (arrOf (setArr st2 (mirror (arrOf st2) (lo+m - (q+1)) (lo+m) ((lo+m - (lo+m - (q+1))) / 2)))) lo m:=hs2.congr (jA2 hz2 he)
     generalize setArr st2 (mirror (arrOf st2) (lo+m - (q+1)) (lo+m) ((lo+m - (lo+m - (q+1))) / 2))=st3 at*
    case' neg=>
     rw[ax hq0]
     have hB3:=hB2
     have hs3:=hs2
     generalize st2=st3 at*
    all_goals
     have hz3:lo+m<=(arrOf st3).size:=by rw[hB3.sz]; omega
     refine aw (wpS_reverse ?_)
     have hB4:=hB3.arr (xs:=mirror (arrOf st3) lo (lo+m) ((lo+m - lo) / 2)) (mirror_perm _ _ _ _) fun k hk=>by
      rw[jBL hz3,ax (by omega)]
     have hU:Up (mirror (arrOf st3) lo (lo+m) ((lo+m - lo) / 2)) lo m:=fun i j h1 h2 h3=>by
      rw[jBL hz3,jBL hz3,ao ⟨h1,by omega⟩,ao ⟨by omega,h3⟩]
      exact hs3 _ _ (by omega) (by omega) (by omega)
     generalize mirror (arrOf st3) lo (lo+m) ((lo+m - lo) / 2)=xs4 at*
     refine aw (cD (bD (I:=fun x c st'=>st'=setArr st3 xs4/\c=(none,x)/\Up xs4 lo x)
      (Q:=fun c st'=>st'=setArr st3 xs4/\∃ n,c=(none,n)/\1<=n/\n<=nrem/\Up xs4 lo n) ?tstep ?tfin ⟨rfl,rfl,hU⟩) ?tpost)
     case tfin=>
      rintro c st' ⟨rfl,rfl,hu⟩
      rw[show max m nrem=nrem by omega] at hu ⊢
      exact⟨rfl,nrem,rfl,by omega,by omega,hu⟩
     case tstep=>
      rintro x c st' h1 h2 ⟨rfl,rfl,hu⟩
      dsimp only
      refine aw (jBM hB4 h0 (by omega) (by omega) ?_)
      dsimp only
      by_cases hl:KI xs4 (lo+x)<KI xs4 (lo+x - 1)
      ·rw[aK hl,ao rfl]
       exact aC ⟨rfl,x,rfl,by omega,by omega,hu⟩
      ·rw[aM hl,ax ag]
       exact aC ⟨rfl,rfl,hu.more (by omega) (by omega)⟩
     case tpost=>
      rintro c st' ⟨rfl,n,rfl,n1,n2,hu⟩
      exact aC (h n _ hB4 n1 n2 hu)
theorem jCD {st:SortSt}{n ok:Nat}{Q:Bool->SortSt->Prop}(h0:AllI a₀.toList)(hn:lo+n<=a₀.size)(hok:ok<=n)(hB:BB a₀ p F lo st)(hs:Up (arrOf st) lo ok)
  (h:∀ st',BB a₀ p F lo st'->Up (arrOf st') lo n->Q true st'):wpS (model prog w) A E s (binarySort' lo n ok) Q st:=by
 rw[binarySort'_eq]
 dsimp only
 refine aw (cD (bD (I:=fun k c st'=>c=(none,())/\BB a₀ p F lo st'/\Up (arrOf st') lo (min k n))
  (Q:=fun c st'=>c=(none,())/\BB a₀ p F lo st'/\Up (arrOf st') lo n) ?step ?fin ⟨rfl,hB,?init⟩) ?post)
 case post=>
  rintro c st' ⟨rfl,hb,hu⟩
  exact aC (h st' hb hu)
 case init=>
  by_cases e:ok=0
  ·intro i j h1 h2 h3
   have:i=j:=by omega
   rw[this]
   exact cf _
  ·exact fun i j h1 h2 h3=>hs i j h1 h2 (by omega)
 case fin=>
  rintro c st' ⟨hc,hb,hu⟩
  rw[show min (max (max ok 1) n) n=n by omega] at hu
  exact⟨hc,hb,hu⟩
 case step=>
  rintro k c st1 hk1 hk2 ⟨rfl,hb,hu⟩
  rw[show min k n=k by omega] at hu
  refine aw (cD (bD (I:=fun x c st'=>st'=st1/\∃ l r,c=(none,l,r)/\l<=r/\r<=k/\r - l<=k - x/\
    (∀ i,i<l->KI (arrOf st1) (lo+i)<=KI (arrOf st1) (lo+k))/\∀ i,r<=i->i<k->KI (arrOf st1) (lo+k)<KI (arrOf st1) (lo+i))
   (Q:=fun c st'=>st'=st1/\∃ l r,c=(none,l,r)/\l<=k/\
    (∀ i,i<l->KI (arrOf st1) (lo+i)<=KI (arrOf st1) (lo+k))/\∀ i,l<=i->i<k->KI (arrOf st1) (lo+k)<KI (arrOf st1) (lo+i)) ?step1 ?fin1 ⟨rfl,0,k,rfl,by omega,by omega,by omega,fun i hi=>by omega,fun i h1 h2=>by omega⟩) ?post1)
  case fin1=>
   rintro c st' ⟨rfl,l,r,rfl,b1,b2,b3,b4,b5⟩
   have:l=r:=by omega
   subst this
   exact⟨rfl,l,l,rfl,b2,b4,b5⟩
  case step1=>
   rintro x c st' _ hx ⟨rfl,l,r,rfl,b1,b2,b3,b4,b5⟩
   dsimp only
   by_cases hge:l ≥ r
   ·rw[ao hge]
    have:l=r:=by omega
    subst this
    exact aC ⟨rfl,l,l,rfl,b2,b4,b5⟩
   rw[ax hge]
   refine aw (jBM hb h0 (by omega) (by omega) ?_)
   dsimp only
   by_cases hl:KI (arrOf st') (lo+k)<KI (arrOf st') (lo+(l+r) / 2)
   ·rw[aK hl,ao rfl]
    exact aC ⟨rfl,l,(l+r) / 2,rfl,by omega,by omega,by omega,b4,fun i h1 h2=>Int.lt_of_lt_of_le hl (hu _ _ (by omega) (by omega) (by omega))⟩
   ·rw[aM hl,ax ag]
    exact aC ⟨rfl,(l+r) / 2+1,r,rfl,by omega,by omega,by omega,fun i h1=>cN (hu (lo+i) (lo+(l+r) / 2) (by omega) (by omega) (by omega)) (Int.not_lt.mp hl),b5⟩
  case post1=>
   rintro c st' ⟨rfl,l,r,rfl,hlk,b4,b5⟩
   dsimp only
   rw[moveDown'_eq]
   have hks:lo+k<(arrOf st').size:=by rw[hb.sz]; omega
   have kb:∀ x,KI (bubble (arrOf st') (lo+k) (lo+k - (lo+l))) x=if x=lo+l then KI (arrOf st') (lo+k) else if lo+l<x/\x<=lo+k then KI (arrOf st') (x - 1) else KI (arrOf st') x:=fun x=>by
    have:=jJV hks (d:=lo+k - (lo+l)) (by omega) x
    rw[show lo+k - (lo+k - (lo+l))=lo+l by omega] at this
    exact this
   refine aw (dw (aC ⟨rfl,hb.arr (bubble_perm _ _ _) fun x hx=>?_,?_⟩))
   ·rw[kb,ax (by omega),ax (by omega)]
   rw[show min (k+1) n=k+1 by omega]
   intro i j h1 h2 h3
   show KI (bubble _ _ _) i<=KI (bubble _ _ _) j
   rw[kb,kb]
   have lo1:∀ i,lo<=i->i<lo+l->KI (arrOf st') i<=KI (arrOf st') (lo+k):=fun i h1 h2=>by
    have:=b4 (i - lo) (by omega)
    rw[show lo+(i - lo)=i by omega] at this
    exact this
   have hi1:∀ i,lo+l<=i->i<lo+k->KI (arrOf st') (lo+k)<=KI (arrOf st') i:=fun i h1 h2=>by
    have:=b5 (i - lo) (by omega) (by omega)
    rw[show lo+(i - lo)=i by omega] at this
    exact bX this
   repeat' split
   all_goals first
    | (exfalso; omega)
    | exact cf _
    | exact lo1 _ (by omega) (by omega)
    | exact hi1 _ (by omega) (by omega)
    | exact hu _ _ (by omega) (by omega) (by omega)
end
def mergeAtB: { g:Nat->StateT SortSt Sem Bool // mergeAt'=g} :=⟨fun _=>bind _ _,rfl⟩
theorem yG {xs:Array Keyed}{i:Nat}{p:Keyed}(h:xs[i]?=some p):KI xs i=key p:=by
 unfold KI
 rw[h]
theorem jGD (s1:Nat):∀ (l:List Keyed) (j0:Nat) (a:Array Keyed) (P M S:List Keyed),P.length=s1+j0->M.length=l.length->a.toList=P++(M++S)->
  ((l.zipIdx j0).foldl (fun (a:Array Keyed) (x:Keyed×Nat)=>a.setIfInBounds (s1+x.2) x.1) a).toList=P++(l++S)
 | [],j0,a,P,M,S,h1,h2,h3=>by
  rw[eQ h2] at h3
  exact h3
 | q::l,j0,a,P,[],S,h1,h2,h3=>by cases h2
 | q::l,j0,a,P,m::M,S,h1,h2,h3=>by
  rw[fY,List.foldl_cons]
  have:=jGD s1 l (j0+1) (a.setIfInBounds (s1+j0) q) (P++[q]) M S (by rw[aj,h1]; rfl) (Nat.succ.inj h2) (by
   rw[fq,h3,<- h1,gC _ _ (az _),fh,aI]
   rfl)
  rw[this,aI]
  rfl
theorem jND {P m1 m2 S:List Keyed}(e:m1.length=m2.length){k:Nat}(h:k<P.length\/P.length+m1.length<=k):(P++(m1++S))[k]?=(P++(m2++S))[k]?:=by
 rcases h with h | h
 ·rw[bw h,bw h]
 ·rw[aS (by omega),aS (by omega),aS (by omega),aS (by omega),e]
theorem jP8 {P m S:List Keyed}{k:Nat}(h1:P.length<=k)(h2:k<P.length+m.length):(P++(m++S))[k]?=m[k - P.length]?:=by
 rw[aS h1,bw (by omega)]
theorem jGR {xs:Array Keyed}{i j t:Nat}(h:t<j - i):(xs.extract i j).toList[t]?=xs[i+t]?:=by
 rw[jAI,bO h,cU,bQ]
theorem jBV {xs:Array Keyed}{i j:Nat}{p:Keyed}(h:p∈(xs.extract i j).toList):∃ t,i<=t/\t<j/\xs[t]?=some p:=by
 rw[jAI] at h
 obtain⟨t,h1,h2,h3⟩:=jA4 h
 exact⟨t,h1,by omega,at_list.mpr h3⟩
theorem jCW {xs:Array Keyed}{i j:Nat}(h:j<=xs.size):(xs.extract i j).size=j - i:=by
 rw[Array.size_extract]
 omega
theorem jJD {xs:Array Keyed}{i j:Nat}(h:∀ n m x y,i<=n->n<=m->m<j->xs[n]?=some x->xs[m]?=some y->LE x y):Srt (xs.extract i j).toList:=by
 refine bZ.mpr fun a b ha hb hab=>?_
 have hl:(xs.extract i j).toList.length<=j - i:=by rw[jAI,aU]; omega
 have e1:=jGR (xs:=xs) (i:=i) (j:=j) (t:=a) (by omega)
 have e2:=jGR (xs:=xs) (i:=i) (j:=j) (t:=b) (by omega)
 rw[ai ha] at e1
 rw[ai hb] at e2
 exact h (i+a) (i+b) _ _ (by omega) (by omega) (by omega) e1.symm e2.symm
theorem KI_at {xs ys:Array Keyed}{i j:Nat}(h:xs.toList[i]?=ys.toList[j]?):KI xs i=KI ys j:=jB3 (by rw[<- bQ,<- bQ]; exact h)
theorem jH2 {xs r R:Array Keyed}{sa na sb nb k1 k2:Nat}(hsb:sb=sa+na)(hk1:k1<na)(hk2:0<k2)(hk2':k2<=nb)(hz:sb+nb<=xs.size)
  (u1:Up xs sa na) (u2:Up xs sb nb) (g2:∀ t,sa<=t->t<sa+k1->KI xs t<=KI xs sb) (l3:∀ t,sb+k2<=t->t<sb+nb->KI xs (sb - 1)<=KI xs t)
  (D:kX (xs.extract (sa+k1) sb) (xs.extract sb (sb+k2)) r)
  (hR:R.toList=xs.toList.take (sa+k1)++(r.toList++xs.toList.drop (sb+k2))):
  R.Perm xs/\(∀ k,k<sa\/sa+(na+nb)<=k->KI R k=KI xs k)/\Up R sa (na+nb):=by
 have lr:r.toList.length=sb+k2 - (sa+k1):=by
  rw[D.1.length_eq,aj,aP,aP,jCW (by omega),jCW (by omega)]
  omega
 have lP:(xs.toList.take (sa+k1)).length=sa+k1:=by rw[aU,aP]; omega
 have hX:xs.toList=xs.toList.take (sa+k1)++(((xs.extract (sa+k1) sb).toList++(xs.extract sb (sb+k2)).toList)++xs.toList.drop (sb+k2)):=by
  have a1:=bh (sa+k1) xs.toList
  have a2:=bh (sb - (sa+k1)) (xs.toList.drop (sa+k1))
  have a3:=bh k2 (xs.toList.drop sb)
  rw[fm] at a2 a3
  rw[show sa+k1+(sb - (sa+k1))=sb by omega] at a2
  rw[jAI,jAI,cg,aI,a3,a2,a1]
 have lm:((xs.extract (sa+k1) sb).toList++(xs.extract sb (sb+k2)).toList).length=r.toList.length:=D.1.length_eq.symm
 have out:∀ k,k<sa+k1\/sb+k2<=k->KI R k=KI xs k:=fun k hk=>KI_at (by
  have:=jND (P:=xs.toList.take (sa+k1)) (S:=xs.toList.drop (sb+k2)) lm.symm (k:=k) (by rw[lP,lr]; omega)
  exact(bB (·[k]?) hR).trans (this.trans (bB (·[k]?) hX).symm))
 have inn:∀ k,sa+k1<=k->k<sb+k2->R.toList[k]?=r.toList[k - (sa+k1)]?:=fun k h1 h2=>by
  rw[hR,jP8 (by rw[lP]; exact h1) (by rw[lP,lr]; omega),lP]
 have mem:∀ k,sa+k1<=k->k<sb+k2->∃ t,sa+k1<=t/\t<sb+k2/\KI R k=KI xs t:=fun k h1 h2=>by
  have hk:k - (sa+k1)<r.toList.length:=by omega
  have e:=inn k h1 h2
  rw[ai hk] at e
  have hm:=D.1.mem_iff.mp (dn hk)
  rcases aq.mp hm with q | q
  ·obtain⟨t,t1,t2,t3⟩:=jBV q
   exact⟨t,t1,by omega,(yG (at_list.mpr e)).trans (yG t3).symm⟩
  ·obtain⟨t,t1,t2,t3⟩:=jBV q
   exact⟨t,by omega,t2,(yG (at_list.mpr e)).trans (yG t3).symm⟩
 have srt:∀ i j,sa+k1<=i->i<=j->j<sb+k2->KI R i<=KI R j:=fun i j h1 h2 h3=>by
  have hi:i - (sa+k1)<r.toList.length:=by omega
  have hj:j - (sa+k1)<r.toList.length:=by omega
  have e1:=inn i h1 (by omega)
  have e2:=inn j (by omega) h3
  rw[ai hi] at e1
  rw[ai hj] at e2
  rw[yG (at_list.mpr e1),yG (at_list.mpr e2)]
  exact jD2 D.2 (ai hi) (ai hj) (by omega)
 have low:∀ t u,sa<=t->t<sa+k1->t<=u->u<sb+nb->KI xs t<=KI xs u:=fun t u h1 h2 h3 h4=>by
  by_cases e:u<sb
  ·exact u1 t u h1 h3 (by omega)
  ·exact cN (g2 t h1 h2) (u2 sb u (az _) (by omega) h4)
 have high:∀ t u,sa<=t->t<=u->sb+k2<=u->u<sb+nb->KI xs t<=KI xs u:=fun t u h1 h2 h3 h4=>by
  by_cases e:t<sb
  ·exact cN (u1 t (sb - 1) h1 (by omega) (by omega)) (l3 u h3 h4)
  ·exact u2 t u (by omega) h2 h4
 refine⟨?_,fun k hk=>out k (by omega),fun i j h1 h2 h3=>?_⟩
 ·refine cV.mpr ?_
  rw[hR]
  refine List.Perm.trans ?_ (gw hX.symm)
  exact bR _ (ev _ D.1)
 ·have h3:j<sb+nb:=by omega
  by_cases i1:i<sa+k1
  ·rw[out i (.inl i1)]
   by_cases j1:j<sa+k1
   ·rw[out j (.inl j1)]
    exact low i j h1 i1 h2 h3
   by_cases j2:j<sb+k2
   ·obtain⟨t,t1,t2,t3⟩:=mem j (by omega) j2
    rw[t3]
    exact low i t h1 i1 (by omega) (by omega)
   ·rw[out j (.inr (by omega))]
    exact low i j h1 i1 h2 h3
  by_cases i2:i<sb+k2
  ·by_cases j2:j<sb+k2
   ·exact srt i j (by omega) h2 j2
   ·obtain⟨t,t1,t2,t3⟩:=mem i (by omega) i2
    rw[t3,out j (.inr (by omega))]
    exact high t j (by omega) (by omega) (by omega) h3
  ·rw[out i (.inr (by omega)),out j (.inr (by omega))]
   exact high i j h1 h2 (by omega) h3
section
variable {prog:Program}{w:World}{A:Around}{E:Value->Shared->Prop}{s:Shared} [LtOk prog w A s]
theorem jM2 {st st':SortSt}{Q:PUnit->SortSt->Prop}(h:Q ⟨⟩ st'):wpS (model prog w) A E s (set st':StateT SortSt Sem PUnit) Q st:=dw (f:=fun _=>st') h
theorem jHJ {α:Type}{a b:α}{Q:α->SortSt->Prop}{st:SortSt}(e:a=b)(h:Q b st):wpS (model prog w) A E s (pure a:StateT SortSt Sem α) Q st:=aC (e ▸ h)
structure Merged (st st':SortSt)(i sa na sb nb pw:Nat):Prop where
 perm:(arrOf st').Perm (arrOf st)
 kind:kindOf st'=Od.kd
 failed:failedOf st'=none
 pend:pendingOf st'=((pendingOf st).setIfInBounds i (sa,na+nb,pw)).eraseIdxIfInBounds (i+1)
 out:∀ k,k<sa\/sa+(na+nb)<=k->KI (arrOf st') k=KI (arrOf st) k
 up:Up (arrOf st') sa (na+nb)
theorem jFI {st:SortSt}{i sa na pw sb nb w2:Nat}{Q:Bool->SortSt->Prop}(hk:kindOf st=Od.kd)(hf:failedOf st=none)(hI:AllI (arrOf st).toList)
  (h1:(pendingOf st)[i]?=some (sa,na,pw)) (h2:(pendingOf st)[i+1]?=some (sb,nb,w2)) (hsb:sb=sa+na) (hna:0<na) (hnb:0<nb) (hz:sb+nb<=(arrOf st).size)
  (u1:Up (arrOf st) sa na) (u2:Up (arrOf st) sb nb) (h:∀ st',Merged st st' i sa na sb nb pw->Q true st'):wpS (model prog w) A E s (mergeAt' i) Q st:=by
 rw[mergeAtB.2]
 delta mergeAtB
 dsimp only
 simp only [elP,ltP,ltAtP,jFZ,jKH,jKI]
 refine aw (fg ?_)
 rw[h1,h2]
 dsimp only
 refine aw (jM2 ?_)
 generalize hpp:((pendingOf st).setIfInBounds i (sa,na+nb,pw)).eraseIdxIfInBounds (i+1)=pp
 show wpS _ _ _ _ _ _ (SortSt.mk' (kindOf st) (arrOf st) pp (gallopOf st) (failedOf st))
 generalize hst1:SortSt.mk' (kindOf st) (arrOf st) pp (gallopOf st) (failedOf st)=st1
 have G1:kindOf st1=kindOf st/\arrOf st1=arrOf st/\pendingOf st1=pp/\failedOf st1=failedOf st:=by rw[<- hst1]; exact⟨rfl,rfl,rfl,rfl⟩
 have at_:∀ t,t<(arrOf st).size->∃ q,(arrOf st)[t]?=some q/\IsI q:=fun t ht=>by
  obtain⟨q,q1,q2⟩:=yR ht
  exact⟨q,q1,hI q (ak q2)⟩
 have m1:∀ n m x y,sa<=n->n<=m->m<sa+na->(arrOf st)[n]?=some x->(arrOf st)[m]?=some y->LE x y:=fun n m x y a1 a2 a3 hx hy=>by
  have:=u1 n m a1 a2 a3
  rw[yG hx,yG hy] at this
  exact this
 have m2:∀ n m x y,sb<=n->n<=m->m<sb+nb->(arrOf st)[n]?=some x->(arrOf st)[m]?=some y->LE x y:=fun n m x y a1 a2 a3 hx hy=>by
  have:=u2 n m a1 a2 a3
  rw[yG hx,yG hy] at this
  exact this
 obtain⟨pb,hpb,ipb⟩:=at_ sb (by omega)
 refine aw (jF hpb ?_)
 refine aw (jGP (G1.1.trans hk) ipb hI m1 hna (show sa+na<=(arrOf st).size by omega) fun k1 g1 g2 g3=>?_)
 dsimp only
 have g2:∀ t,sa<=t->t<sa+k1->KI (arrOf st) t<=KI (arrOf st) sb:=fun t t1 t2=>by
  obtain⟨q,hq,_⟩:=at_ t (by omega)
  rw[yG hq,yG hpb]
  exact g2 t q t1 t2 hq
 by_cases e1:na - k1=0
 ·rw[ao (bp e1)]
  refine aC (h _ ⟨?_,G1.1.trans hk,G1.2.2.2.trans hf,G1.2.2.1.trans hpp.symm,fun k _=>?_,?_⟩)
  ·rw[G1.2.1]
  ·rw[G1.2.1]
  ·rw[G1.2.1]
   intro i j i1 i2 i3
   by_cases a:i<sb
   ·by_cases b:j<sb
    ·exact u1 i j i1 i2 (by omega)
    ·exact cN (g2 i i1 (by omega)) (u2 sb j (az _) (by omega) (by omega))
   ·exact u2 i j (by omega) i2 (by omega)
 rw[ax (bn e1)]
 obtain⟨pa,hpa,ipa⟩:=at_ (sa+k1+(na - k1) - 1) (by omega)
 refine aw (jF hpa ?_)
 refine aw (jGQ (G1.1.trans hk) ipa hI m2 (by omega) (show sb+nb<=(arrOf st).size by omega) fun k2 l1 l2 l3=>?_)
 dsimp only
 have epa:sa+k1+(na - k1) - 1=sb - 1:=by omega
 rw[epa] at hpa
 have l3':∀ t,sb+k2<=t->t<sb+nb->KI (arrOf st) (sb - 1)<=KI (arrOf st) t:=fun t t1 t2=>by
  obtain⟨q,hq,_⟩:=at_ t (by omega)
  rw[yG hq,yG hpa]
  exact l3 t q t1 t2 hq
 by_cases e2:k2=0
 ·rw[ao (bp e2)]
  refine aC (h _ ⟨?_,G1.1.trans hk,G1.2.2.2.trans hf,G1.2.2.1.trans hpp.symm,fun k _=>?_,?_⟩)
  ·rw[G1.2.1]
  ·rw[G1.2.1]
  ·rw[G1.2.1]
   intro i j i1 i2 i3
   by_cases a:i<sb
   ·by_cases b:j<sb
    ·exact u1 i j i1 i2 (by omega)
    ·exact cN (u1 i (sb - 1) i1 (by omega) (by omega)) (l3' j (by omega) (by omega))
   ·exact u2 i j (by omega) i2 (by omega)
 rw[ax (bn e2)]
 have T:Two ((arrOf st).extract (sa+k1) sb) ((arrOf st).extract sb (sb+k2)):=by
  refine⟨fun q hq=>?_,fun q hq=>?_,jJD fun n m x y a1 a2 a3=>m1 n m x y (by omega) a2 (by omega),jJD fun n m x y a1 a2 a3=>m2 n m x y (by omega) a2 (by omega),?_,?_,fun x hx y hy=>?_,fun y hy q hq=>?_⟩
  ·obtain⟨t,_,_,t3⟩:=jBV hq
   exact hI q (ak (at_list.mp t3))
  ·obtain⟨t,_,_,t3⟩:=jBV hq
   exact hI q (ak (at_list.mp t3))
  ·rw[jCW (by omega)]; omega
  ·rw[jCW (by omega)]; omega
  ·obtain⟨t,t1,t2,t3⟩:=jBV hx
   rw[jCW (by omega),jGR (by omega),show sa+k1+(sb - (sa+k1) - 1)=sb - 1 by omega,hpa] at hy
   cases hy
   exact l2 t x t1 t2 t3
  ·obtain⟨t,t1,t2,t3⟩:=jBV hy
   rw[jGR (by omega),hG,hpb] at hq
   cases hq
   exact g3 t y t1 (by omega) t3
 by_cases e3:na - k1<=k2
 case' pos=>
  rw[ao e3]
  refine aw (jFG (G1.1.trans hk) T fun r st2 D G0=>?_)
  have G:SG (SortSt.mk' (kindOf st) (arrOf st) pp (gallopOf st) (failedOf st)) st2:=by rw[hst1]; exact G0
  subst hpp
 case' neg=>
  rw[ax e3]
  refine aw (jFH (G1.1.trans hk) T fun r st2 D G0=>?_)
  have G:SG (SortSt.mk' (kindOf st) (arrOf st) pp (gallopOf st) (failedOf st)) st2:=by rw[hst1]; exact G0
  subst hpp
 all_goals
  refine aw (dw (aw (fg ?_)))
  have ea:arrOf st2=arrOf st:=G.a
  have W:=jH2 (R:=((r.toList.zipIdx 0).foldl (fun (a:Array Keyed) (x:Keyed×Nat)=>a.setIfInBounds (sa+k1+x.2) x.1) (arrOf st))) hsb (by omega) (by omega) l1 hz u1 u2 g2 l3' D (jGD (sa+k1) r.toList 0 (arrOf st) ((arrOf st).toList.take (sa+k1)) (((arrOf st).extract (sa+k1) sb).toList++((arrOf st).extract sb (sb+k2)).toList) ((arrOf st).toList.drop (sb+k2)) (by rw[aU,aP]; omega) D.1.length_eq.symm (by
   have a1:=bh (sa+k1) (arrOf st).toList
   have a2:=bh (sb - (sa+k1)) ((arrOf st).toList.drop (sa+k1))
   have a3:=bh k2 ((arrOf st).toList.drop sb)
   rw[fm] at a2 a3
   rw[show sa+k1+(sb - (sa+k1))=sb by omega] at a2
   rw[jAI,jAI,cg,aI,a3,a2,a1]))
  rw[<- ea] at W
  refine jHJ (by show (failedOf st2).isNone=true; rw[G.f]; show (failedOf st).isNone=true; rw[hf]; rfl) (h _ ⟨?_,G.k.trans hk,G.f.trans hf,G.p,?_,?_⟩)
  ·rw[<- ea]
   exact W.1
  ·rw[<- ea]
   exact W.2.1
  ·exact W.2.2
end
def Runs (xs:Array Keyed):List (Nat×Nat×Nat)->Nat->Nat->Prop
 | [],a,b=>a=b
 | (s,n,_)::t,a,b=>s=a/\0<n/\Up xs s n/\Runs xs t (a+n) b
section
variable {xs ys:Array Keyed}
theorem Runs.le:∀ {l:List (Nat×Nat×Nat)}{a b:Nat},Runs xs l a b->a+l.length<=b
 | [],a,b,h=>by have:a=b:=h; rw[dB]; omega
 | (s,n,_)::t,a,b,⟨_,h2,_,h4⟩=>by
  have:=Runs.le h4
  rw[aZ]
  omega
theorem Runs.app:∀ {l m:List (Nat×Nat×Nat)}{a b:Nat},Runs xs (l++m) a b->∃ c,Runs xs l a c/\Runs xs m c b
 | [],m,a,b,h=>⟨a,rfl,h⟩
 | (s,n,_)::t,m,a,b,⟨h1,h2,h3,h4⟩=>by
  obtain⟨c,c1,c2⟩:=Runs.app h4
  exact⟨c,⟨h1,h2,h3,c1⟩,c2⟩
theorem Runs.put:∀ {l m:List (Nat×Nat×Nat)}{a b c:Nat},Runs xs l a c->Runs xs m c b->Runs xs (l++m) a b
 | [],m,a,b,c,h,g=>by have:a=c:=h; subst this; exact g
 | (s,n,_)::t,m,a,b,c,⟨h1,h2,h3,h4⟩,g=>⟨h1,h2,h3,Runs.put h4 g⟩
theorem Up.same {lo n:Nat}(h:Up xs lo n)(e:∀ k,lo<=k->k<lo+n->KI ys k=KI xs k):Up ys lo n:=fun i j h1 h2 h3=>by
 rw[e i h1 (by omega),e j (by omega) h3]
 exact h i j h1 h2 h3
theorem Runs.same:∀ {l:List (Nat×Nat×Nat)}{a b:Nat},Runs xs l a b->(∀ k,a<=k->k<b->KI ys k=KI xs k)->Runs ys l a b
 | [],a,b,h,_=>h
 | (s,n,_)::t,a,b,⟨h1,h2,h3,h4⟩,e=>by
  have:=Runs.le h4
  exact⟨h1,h2,h3.same fun k k1 k2=>e k (by omega) (by omega),Runs.same h4 fun k k1 k2=>e k (by omega) k2⟩
theorem Runs.mod {f:Nat×Nat×Nat->Nat×Nat×Nat}(hf:∀ x,(f x).1=x.1/\(f x).2.1=x.2.1):∀ {l:List (Nat×Nat×Nat)}{i a b:Nat},Runs xs l a b->Runs xs (l.modify i f) a b
 | [],i,a,b,h=>by rw[List.modify_nil]; exact h
 | (s,n,w)::t,0,a,b,⟨h1,h2,h3,h4⟩=>by
  rw[List.modify_zero_cons]
  obtain⟨e1,e2⟩:=hf (s,n,w)
  generalize f (s,n,w)=v at e1 e2 ⊢
  obtain⟨s',n',w'⟩:=v
  have e1:s'=s:=e1
  have e2:n'=n:=e2
  subst e1 e2
  exact⟨h1,h2,h3,h4⟩
 | (s,n,w)::t,i+1,a,b,⟨h1,h2,h3,h4⟩=>by
  rw[List.modify_succ_cons]
  exact⟨h1,h2,h3,Runs.mod hf h4⟩
end
structure RI (a₀:Array Keyed)(lo:Nat)(st:SortSt):Prop where
 perm:(arrOf st).Perm a₀
 kind:kindOf st=Od.kd
 failed:failedOf st=none
 runs:Runs (arrOf st) (pendingOf st).toList 0 lo
theorem jEI:∀ (l:List (Nat×Nat×Nat)) (i:Nat),i+1<l.length->∃ u x y t,l=u++x::y::t/\u.length=i
 | [],i,h=>absurd h (Nat.not_lt_zero _)
 | [x],i,h=>by rw[gB] at h; omega
 | x::y::t,0,h=>⟨[],x,y,t,rfl,rfl⟩
 | x::y::t,i+1,h=>by
  obtain⟨u,x',y',t',e,hu⟩:=jEI (y::t) i (by rw[aZ] at h; omega)
  exact⟨x::u,x',y',t',by rw[e]; rfl,by rw[aZ,hu]⟩
theorem jO2 {a₀ xs:Array Keyed}(h0:AllI a₀.toList)(hp:xs.Perm a₀):AllI xs.toList:=fun p hp'=>h0 p ((cV.mp hp).mem_iff.mp hp')
section
variable {prog:Program}{w:World}{A:Around}{E:Value->Shared->Prop}{s:Shared} [LtOk prog w A s]{a₀:Array Keyed}
theorem jCC {st:SortSt}{i lo:Nat}{Q:Bool->SortSt->Prop}(h0:AllI a₀.toList)(R:RI a₀ lo st)(hlo:lo<=a₀.size)(hi:i+1<(pendingOf st).size)
  (h:∀ st',RI a₀ lo st'->(pendingOf st').size+1=(pendingOf st).size->(∀ k,lo<=k->KI (arrOf st') k=KI (arrOf st) k)->Q true st'):wpS (model prog w) A E s (mergeAt' i) Q st:=by
 obtain⟨u,⟨sa,na,pw⟩,⟨sb,nb,w2⟩,t,e,hu⟩:=jEI (pendingOf st).toList i (by rw[aP]; exact hi)
 have rr:=R.runs
 rw[e] at rr
 obtain⟨c,r1,a1,a2,a3,a4,a5,a6,a7⟩:=Runs.app rr
 have r2:=Runs.le a7
 have r3:=Runs.le r1
 subst a1
 have e1:(pendingOf st)[i]?=some (sa,na,pw):=by
  rw[<- bQ,e,aS (by omega),hu,fh]
  rfl
 have e2:(pendingOf st)[i+1]?=some (sb,nb,w2):=by
  rw[<- bQ,e,aS (by omega),hu,cg]
  rfl
 have z:=R.perm.size_eq
 refine jFI R.kind R.failed (jO2 h0 R.perm) e1 e2 a4 a2 a5 (by omega) a3 a6 fun st' M=>?_
 have ep:(pendingOf st').toList=u++(sa,na+nb,pw)::t:=by
  rw[M.pend,Array.toList_eraseIdxIfInBounds,fq,e,gC _ _ (by omega),hu,fh,List.set_cons_zero,List.eraseIdx_append_of_length_le (by omega),hu,cg]
  rfl
 refine h st' ⟨M.perm.trans R.perm,M.kind,M.failed,?_⟩ ?_ fun k hk=>M.out k (by omega)
 ·rw[ep]
  refine Runs.put (Runs.same r1 fun k k1 k2=>M.out k (by omega)) ⟨rfl,by omega,M.up,?_⟩
  have:=Runs.same (ys:=arrOf st') a7 fun k k1 k2=>M.out k (by omega)
  rw[Nat.add_assoc] at this
  exact this
 ·have q1:=bB List.length ep
  have q2:=bB List.length e
  rw[aP,aj,aZ] at q1
  rw[aP,aj,aZ,aZ] at q2
  omega
theorem RI.of {st:SortSt}{F:Nat->Int}{lo:Nat}{p:Array (Nat×Nat×Nat)}{xs:Array Keyed}(h:BB a₀ p F lo st)(hr:Runs xs p.toList 0 lo)(hF:∀ k,F k=KI xs k):RI a₀ lo st:=
 ⟨h.perm,h.kind,h.failed,by rw[h.pend]; exact hr.same fun k _ hk=>(h.low k hk).trans (hF k)⟩
theorem jCB {st:SortSt}{Q:Unit->SortSt->Prop}(h0:AllI a₀.toList)(hB:SB a₀ st)(h1:1<=a₀.size)
  (h:∀ st',(arrOf st').Perm a₀->failedOf st'=none->STo (arrOf st') a₀.size->Q () st'):wpS (model prog w) A E s sortRuns' Q st:=by
 rw[sortRuns'_eq]
 refine aw (fg ?_)
 try dsimp only
 have hz:=hB.size
 rw[hz]
 generalize minRun' a₀.size a₀.size 0=mr
 refine aw (cD (bD (I:=fun x c st'=>∃ lo,c=(none,lo)/\x<=lo/\lo<=a₀.size/\RI a₀ lo st')
  (Q:=fun c st'=>c=(none,a₀.size)/\RI a₀ a₀.size st') ?step ?fin ⟨0,rfl,az _,bH _,hB.perm,hB.kind,hB.failed,by rw[hB.pend]; rfl⟩) ?post)
 case fin=>
  rintro c st' ⟨lo,rfl,l1,l2,R⟩
  have:lo=a₀.size:=by omega
  subst this
  exact⟨rfl,R⟩
 case step=>
  rintro x c st1 _ hx ⟨lo,rfl,l1,l2,R1⟩
  try dsimp only
  by_cases hl:lo ≥ a₀.size
  ·rw[ao hl]
   have:lo=a₀.size:=by omega
   subst this
   exact aC ⟨rfl,R1⟩
  rw[ax hl]
  refine aw (jDI (F:=fun k=>KI (arrOf st1) k) (p:=pendingOf st1) h0 (by omega) (by omega) ⟨R1.perm,R1.kind,R1.failed,rfl,fun _ _=>rfl⟩ fun m st2 B2 m1 m2 U2=>?_)
  try dsimp only
  by_cases hm:m<mr
  case' pos=>
   rw[ao hm]
   refine aw (gc (cS ⟨rfl,?_⟩))
   refine aw (jCD h0 (by omega) (by omega) B2 U2 fun st4 B4 U4=>?_)
   have R4:=RI.of B4 R1.runs fun _=>rfl
   have n0:0<min (a₀.size - lo) mr:=by omega
   have n9:min (a₀.size - lo) mr<=a₀.size - lo:=by omega
   generalize min (a₀.size - lo) mr=n at*
  case' neg=>
   rw[ax hm]
   have R4:=RI.of B2 R1.runs fun _=>rfl
   have U4:=U2
   generalize st2=st4 at*
   generalize m=n at*
  all_goals
   refine aw (fg ?_)
   have last:∀ st5:SortSt,RI a₀ lo st5->Up (arrOf st5) lo n->∃ lo',(none,lo+n)=((none:Option PUnit),lo')/\x+1<=lo'/\lo'<=a₀.size/\RI a₀ lo' (setPending st5 ((pendingOf st5).push (lo,n,0))):=fun st5 R5 U5=>
    ⟨lo+n,rfl,by omega,by omega,R5.perm,R5.kind,R5.failed,by
     show Runs (arrOf st5) ((pendingOf st5).push (lo,n,0)).toList 0 (lo+n)
     rw[dE]
     exact R5.runs.put ⟨rfl,by omega,U5,rfl⟩⟩
   cases hb:(pendingOf st4).back? with
   | none=>
    try dsimp only
    exact aw (dw (aC (last st4 R4 U4)))
   | some v=>
    obtain⟨s1,n1,w1⟩:=v
    try dsimp only
    refine aw (cD (bD (I:=fun _ c st'=>c=(none,())/\RI a₀ lo st'/\Up (arrOf st') lo n) (Q:=fun c st'=>c=(none,())/\RI a₀ lo st'/\Up (arrOf st') lo n) ?mstep (fun _ _ z=>z) ⟨rfl,R4,U4⟩) ?mpost)
    case mstep=>
     rintro y c st5 _ _ ⟨rfl,R5,U5⟩
     try dsimp only
     refine aw (fg ?_)
     by_cases hs:(pendingOf st5).size>1
     ·rw[ao hs]
      obtain⟨v,hv⟩:∃ v,(pendingOf st5)[(pendingOf st5).size - 2]?=some v:=⟨_,Array.getElem?_eq_getElem (by omega)⟩
      rw[hv]
      obtain⟨v1,v2,older⟩:=v
      try dsimp only
      by_cases ho:older<=power' a₀.size (2*s1+n1) (2*s1+n1+n1+n) a₀.size
      ·rw[ao ho]
       exact aC ⟨rfl,R5,U5⟩
      rw[ax ho]
      refine aw (jCC h0 R5 (by omega) (by omega) fun st6 R6 _ E6=>?_)
      exact aC ⟨rfl,R6,U5.same fun k k1 _=>E6 k k1⟩
     ·rw[ax hs]
      exact aC ⟨rfl,R5,U5⟩
    case mpost=>
     rintro c st5 ⟨rfl,R5,U5⟩
     try dsimp only
     refine aw (dw (aw (dw (aC (last (setPending st5 ((pendingOf st5).modify ((pendingOf st5).size - 1) fun x=>(x.1,x.2.1,power' a₀.size (2*s1+n1) (2*s1+n1+n1+n) a₀.size))) ⟨R5.perm,R5.kind,R5.failed,?_⟩ U5)))))
     show Runs (arrOf st5) (Array.modify _ _ _).toList 0 lo
     rw[Array.toList_modify]
     exact Runs.mod (f:=fun x=>(x.1,x.2.1,power' a₀.size (2*s1+n1) (2*s1+n1+n1+n) a₀.size)) (fun _=>⟨rfl,rfl⟩) R5.runs
 case post=>
  rintro c st1 ⟨rfl,R1⟩
  try dsimp only
  refine aw (cD (bD (I:=fun x c st'=>c=(none,())/\RI a₀ a₀.size st'/\1<=(pendingOf st').size/\(pendingOf st').size+x<=a₀.size)
   (Q:=fun c st'=>c=(none,())/\RI a₀ a₀.size st'/\(pendingOf st').size=1) ?step2 ?fin2 ⟨rfl,R1,?a1,?a2⟩) ?post2)
  case a1=>
   have:=R1.runs
   cases hp:(pendingOf st1).toList with
   | nil=>
    rw[hp] at this
    have:0=a₀.size:=this
    omega
   | cons v t=>
    have:=bB List.length hp
    rw[aP,aZ] at this
    omega
  case a2=>
   have:=R1.runs.le
   rw[aP] at this
   omega
  case fin2=>
   rintro c st2 ⟨_,_,h2,h3⟩
   omega
  case post2=>
   rintro c st2 ⟨rfl,R2,h2⟩
   try dsimp only
   refine aC (h st2 R2.perm R2.failed ?_)
   have rr:=R2.runs
   cases hp:(pendingOf st2).toList with
   | nil=>
    rw[<- aP,hp] at h2
    cases h2
   | cons v t=>
    have:=bB List.length hp
    rw[aP,h2,aZ] at this
    have:t=[]:=eQ (by omega)
    subst this
    rw[hp] at rr
    obtain⟨v1,v2,v3⟩:=v
    obtain⟨q1,q2,q3,q4⟩:=rr
    have q4:0+v2=a₀.size:=q4
    subst q1
    exact fun i j hij hj=>q3 i j (bH _) hij (by omega)
  case step2=>
   rintro x c st2 _ hx ⟨rfl,R2,h2,h3⟩
   try dsimp only
   refine aw (fg ?_)
   by_cases hs:(pendingOf st2).size<=1
   ·rw[ao hs]
    exact aC ⟨rfl,R2,by omega⟩
   rw[ax hs]
   refine aw (jCC h0 R2 (az _) ?_ fun st3 R3 e3 _=>?_)
   ·have ite_le:∀ (c:Prop) [Decidable c] (a b:Nat),(if c then a else b)<=max a b:=fun c _ a b=>by
     by_cases z:c
     ·rw[ao z]; omega
     ·rw[ax z]; omega
    refine gW (Nat.add_le_add_right (ite_le _ _ _) 1) ?_
    omega
   ·exact aC ⟨rfl,R3,by omega,by omega⟩
end
end TM
end
section
namespace TM
open PySem PySem.Spec PyProof.Rows
section
variable {prog:Program}{w:World}{A:Around}{E:Value->Shared->Prop}{s:Shared}
abbrev turned (b:Bool)(xs:Array Value):Array Value:=if b then xs.reverse else xs
theorem jFL {b:Bool}{xs:Array Value} :(turned b xs).size=xs.size:=by
 cases b
 ·rfl
 ·exact Array.size_reverse
theorem jBN (b:Bool)(vs:List Value):(if b=true then (vs.toArray.zip vs.toArray).reverse else vs.toArray.zip vs.toArray).Perm (pairsOf vs):=by
 cases b with
 | false=>exact Array.Perm.refl _
 | true=>exact cV.mpr (by show ((vs.toArray.zip vs.toArray).reverse).toList.Perm _; rw[cF]; exact List.reverse_perm _)
def AskOk [Od](prog:Program)(w:World)(A:Around)(s:Shared)(a:Addr)(vs:List Value):Prop:=
 ∀ h6:Heap,(∀ c o,s.heap.get? c=some o->c≠a->h6.get? c=some o)->
  (∀ (Q:SortKind->Shared->Prop) (E:Value->Shared->Prop),Q Od.kd { s with heap:=h6} ->wpAny (model prog w) A (keyKind' vs.toArray) Q E { s with heap:=h6})/\LtOk prog w A { s with heap:=h6}
theorem jJY [Od]{a:Addr}{vs:List Value}{n:Nat}{b:Bool}{P:Fin->Shared->Prop}(ho:s.heap.get? a=some (seqObj "list" vs.toArray n))(hz:vs.length<=sizeLine)(hI:AllI (pairsOf vs).toList)(hk:2<=vs.length->AskOk prog w A s a vs)
  (h:∀ xs:Array Keyed,xs.Perm (pairsOf vs)->STo xs (pairsOf vs).size->P (.done (.ret .none)) { s with heap:=sortedHeap s.heap a vs (turned b (xs.map (·.2)))}):
  wpAny (model prog w) A (Builtin.«list.sort» ⟨[.ref a],[(Str.ofString "reverse", .bool b)]⟩) P E s:=by
 rw[list_sort_rev]
 have ha:=aB ho
 have hz':vs.toArray.size<=sizeLine:=by rw[aA]; exact hz
 refine aa (listItems_at ho rfl (aa (fK ho rfl ?_ hz' (bH _))))
 obtain⟨e1,ho1⟩:∃ e1,(s.heap.update a (Obj.mapSeq fun _=>#[])).get? a=some (seqObj "list" #[] e1):=⟨_,get?_update_seq ho _⟩
 refine aa (seqEpoch_at ho1 rfl (aa (gI ?_ hz)))
 refine aa (fJ (bE ?_))
 generalize hh6:((s.heap.update a (Obj.mapSeq fun _=>#[])).push (seqObj "tuple" vs.toArray 0)).push (seqObj "list" #[] 0)=h6
 have ho6:h6.get? a=some (seqObj "list" #[] e1):=by
  rw[<- hh6]
  exact ae _ (ae _ ho1)
 have k6:∀ c o,s.heap.get? c=some o->c≠a->h6.get? c=some o:=fun c o q ne=>by
  rw[<- hh6]
  exact ae _ (ae _ ((eg _ _ (cL ne)).trans q))
 have sh:∀ out,sortedHeap s.heap a vs out=h6.update a (Obj.mapSeq fun _=>out):=fun out=>by rw[<- hh6]; rfl
 have go:∀ X:Sem Fin,wpAny (model prog w) A X P E { s with heap:=h6} ->wpAny (model prog w) A (if b=true then (do let _ <- rule "list.sort.reverse"; X) else X) P E { s with heap:=h6} :=fun X hX=>by
  cases b with
  | false=>exact hX
  | true=>exact aa (cS hX)
 have hend:∀ st':SortSt,(arrOf st').Perm (pairsOf vs)->STo (arrOf st') (pairsOf vs).size->P (.done (.ret .none)) { s with heap:=h6.update a (Obj.mapSeq fun _=>turned b ((arrOf st').map (·.2)))} :=fun st' p1 p2=>by
  rw[<- sh]
  exact h _ p1 p2
 have hfit:∀ st':SortSt,(arrOf st').Perm (pairsOf vs)->(turned b ((arrOf st').map (·.2))).size<=sizeLine+1:=fun st' p1=>by
  rw[jFL,Array.size_map,p1.size_eq,pairsOf_size]
  omega
 dsimp only
 refine go _ ?_
 by_cases few:vs.toArray.size<2
 ·rw[ao few,ao few]
  refine aa (am ?_)
  rw[StateT.run_pure]
  refine aa (am ?_)
  dsimp only
  refine aa (seqEpoch_at ho6 rfl (aa (fK ho6 rfl ?_ (bH _) (hfit (SortSt.mk' general' _ #[] 7 none) (jBN b vs)))))
  rw[bne_self_eq_false,ax ag]
  refine am (hend (SortSt.mk' general' _ #[] 7 none) (jBN b vs) fun i j hij hj=>?_)
  have:i=j:=by
   rw[pairsOf_size] at hj
   rw[aA] at few
   omega
  rw[this]
  exact cf _
 ·rw[ax few,ax few]
  rw[aA] at few
  obtain⟨kk,ll⟩:=hk (by omega) h6 k6
  refine aa (kk _ _ (aa (bS (jCB (a₀:=pairsOf vs) (st:=SortSt.mk' Od.kd _ #[] 7 none)
   (Q:=fun _ st'=>(arrOf st').Perm (pairsOf vs)/\failedOf st'=none/\STo (arrOf st') (pairsOf vs).size)
   hI ⟨jBN b _,rfl,rfl,rfl⟩ (by rw[pairsOf_size]; omega) fun st' a1 a2 a3=>⟨a1,a2,a3⟩) ?_ fun _ _ e=>e)))
  rintro ⟨⟨⟩,st'⟩ s' ⟨rfl,p1,p2,p3⟩
  dsimp only
  refine aa (seqEpoch_at ho6 rfl (aa (fK ho6 rfl ?_ (bH _) (hfit st' p1))))
  rw[p2]
  dsimp only
  rw[bne_self_eq_false,ax ag]
  exact am (hend st' p1 p3)
abbrev odI:Od:=⟨oneType',fun p=>numOf p.1,fun p=>∃ n t,p.1=Value.int n t⟩
theorem ltI: @LtOk prog w A s odI:= @LtOk.mk prog w A s odI fun {E st x y Q} hk hx hy h=>by
 obtain⟨a,t,ha⟩:=hx
 obtain⟨b,u,hb⟩:=hy
 have e1: @key odI x=a:=by show numOf x.1=a; rw[ha]; rfl
 have e2: @key odI y=b:=by show numOf y.1=b; rw[hb]; rfl
 rw[e1,e2] at h
 rw[lt'_eq]
 refine aw (fg ?_)
 rw[show kindOf st=oneType' from hk,keyLt'_oneType,ha,hb]
 exact aw (gc (eF (oneLt_int ⟨rfl,aC h⟩)))
theorem stoI {xs:Array Keyed}{k:Nat}(h: @STo odI xs k):SortedTo xs k:=h
theorem askI {a:Addr}{vs:List Value}{ns:List Int}(hI:IntsAre vs ns)(h2:2<=vs.length): @AskOk odI prog w A s a vs:=fun h6 _=>⟨fun Q E h=>by
 obtain⟨u,v,r,rfl⟩:∃ u v r,vs=u::v::r:=by
  match vs,h2 with
  | [_],few=>exact absurd few (show ¬ 2<=1 by decide)
  | u::v::r,_=>exact⟨u,v,r,rfl⟩
 rw[keyKind_ints hI]
 exact am h,ltI⟩
theorem sort_rev_any {a:Addr}{vs:List Value}{ns:List Int}{n:Nat}{b:Bool}{P:Fin->Shared->Prop}(ho:s.heap.get? a=some (seqObj "list" vs.toArray n))(hI:IntsAre vs ns)(hz:vs.length<=sizeLine)
  (h:∀ (out:Array Value) (ns':List Int),IntsAre out.toList ns'->ns'.Perm ns->Ordered b ns'->P (.done (.ret .none)) { s with heap:=sortedHeap s.heap a vs out}):
  wpAny (model prog w) A (Builtin.«list.sort» ⟨[.ref a],[(Str.ofString "reverse", .bool b)]⟩) P E s:=
 @jJY prog w A E s odI a vs n b P ho hz hI.intKeys (fun h2=>askI hI h2) fun xs p1 p2=>by
  obtain⟨ns',q1,q2,q3⟩:=sorted_out_rev hI p1 (stoI p2) b
  exact h _ ns' q1 q2 q3
end
end TM
end
section
namespace L2
open PySem PySem.Spec PyProof.Rows
section
variable {prog:Program}{w:World}{A:Around}{E:Value->Shared->Prop}{s:Shared}{d:Addr}{kvs:List (Key×Value)}
theorem jDA:∀ {vs:List Value}{ks:List Int},vs.length=ks.length->(∀ (j:Nat) (v:Value),vs[j]?=some v->∃ i t,ks[j]?=some i/\v=Value.int i t)->IntsAre vs ks
 | [],[],_,_=> .nil
 | [],_::_,h,_=>by cases h
 | _::_,[],h,_=>by cases h
 | v::vs,a::r,h,hat=>by
  obtain⟨i,t,e1,rfl⟩:=hat 0 v rfl
  cases e1
  exact .cons _ t (jDA (Nat.succ.inj h) fun j v e=>hat (j+1) v e)
theorem jEL {Q:Value->Shared->Prop}{ks:List Int}{b:Bool}(hh:A.handled=none)(lo:(d==sysModules)=false)(D:s.heap.DictOf (jY prog w) d kvs)(hk:kvs.map (·.1)=ks.map Sum.inl)(hz:ks.length<=sizeLine)
  (h:∀ (hf:Heap) (tk:Nat) (l:Addr) (vs:List Value) (ns:List Int) (e:Nat),s.heap.objs.size<=l->(∀ b u,s.heap.get? b=some u->hf.get? b=some u)->
   hf.get? l=some { cls:= .type "list",data:= .seq vs.toArray e} ->IntsAre vs ns->ns.Perm ks->Ordered b ns->Q (.ref l) { s with heap:=hf,toks:=tk}):
  wpAny (model prog w) A (call (.builtin "sorted") [.ref d] [(Str.ofString "reverse", .bool b)]) Q E s:=by
 obtain⟨ep,hat⟩:=D.dictAt
 have hlen:kvs.length=ks.length:=by
  have:=bB List.length hk
  rwa [ab,ab] at this
 refine call_function_entry_kw kind_sorted plain_sorted entry_sorted (args_sorted_rev _ _) ?_
 unfold Builtin.«sorted»
 refine aa (m:=checkCount "sorted" 1 1 _) (am ?_)
 refine aa (jG3 (A:=A.in1) (PySem.W.kdl_dict (knd:=jY prog w) (kvs:=kvs) (ep:=ep) lo) hh hat (by omega) fun h1 tk acc hk1 hlt1 hacc=>?_)
 have hal:acc.toList.length=ks.length:=by rw[aP,hacc.1,hlen]
 have hI:IntsAre acc.toList ks:=jDA hal fun j v e=>by
  obtain⟨k,x,hx,hv⟩:=hacc.2 j v (by rw[<- bQ]; exact e)
  have e2:(kvs.map (·.1))[j]?=some k:=by rw[aO,hx]; rfl
  rw[hk,aO] at e2
  cases hq:ks[j]? with
  | none=>rw[hq] at e2; cases e2
  | some i=>
   rw[hq] at e2
   cases e2
   rcases jA1 (show keyIs (Sum.inl i) v=true from hv) with ⟨i',t,q1,q2⟩ | ⟨x,t,q1,q2⟩
   ·cases q1
    exact⟨i,t,rfl,q2⟩
   ·cases q1
 refine aa (fJ ?_ (by omega))
 have hL:(h1.push (seqObj "list" acc.toList.toArray 0)).get? h1.objs.size=some (seqObj "list" acc.toList.toArray 0):=aE _ rfl
 show wpAny _ _ _ _ _ { s with heap:=h1.push (seqObj "list" acc.toList.toArray 0),toks:=tk}
 refine aa (bE (wpAny_call_entry_kw slot_list_sort ⟨_,hL,rfl⟩ entry_list_sort (TM.sort_rev_any hL hI (by omega) fun out ns' a1 a2 a3=>⟨_,rfl,?_⟩) (args_list_sort_rev _ _)))
 obtain⟨e,he⟩:=sortedHeap_at (out:=out) hL
 have kept:∀ b u,s.heap.get? b=some u->(sortedHeap (h1.push (seqObj "list" acc.toList.toArray 0)) h1.objs.size acc.toList out).get? b=some u:=fun b u q=>by
  have q1:=hk1 b u q
  have hb:b<h1.objs.size:=aB q1
  rw[sortedHeap_old (ba hb) (by rw[size_push']; exact ek hb)]
  exact ae _ q1
 generalize sortedHeap (h1.push (seqObj "list" acc.toList.toArray 0)) h1.objs.size acc.toList out=hf at he kept ⊢
 exact am ⟨_,rfl,h hf tk h1.objs.size out.toList ns' e (fc hlt1) kept (by rw[eL]; exact he) a1 a2 a3⟩
end
def jM0 (X:Cx)(f:Value)(ks:List Str)(r:List V->List V->Hp->VK->Prop):Prop:=
 ∀ (pins:List (Addr×Obj)) (s:Shared) (σ:St) (H:Hp) (xs zs:List V) (us ws:List Value) (Q:VK),Inv X pins σ H s->Vals xs us->Vals zs ws->r xs zs H Q->
  wpAny (model X.prog X.w) X.A (call f us (ks.zip ws)) (EP X pins σ Q) X.xe s
def tCBK (r:List V->List V->Hp->VK->Prop)(t tk:TA):TE:=fun σ H Q=>t σ H fun vs H1=>tk σ H1 fun zs H2=>r vs zs H2 Q
structure JK (X:Cx)(kws:List Keyword)(t:TA):Prop where
 h:PK X kws t
section
variable {X:Cx}{x:Str}{p pos kpos:Pos}{e:Expr}{es:List Expr}{kws:List Keyword}{t tk:TA}{te:TE}{nm:Option Str}{ks:List Str}{id:String}{r:List V->List V->Hp->VK->Prop}
theorem jPI:JK X [] tNil:=⟨jOR⟩
theorem jNH (ha:JE X e te)(hr:JK X kws t):JK X (⟨nm,e,kpos⟩::kws) (tCons te t):=⟨jMO ha.h hr.h⟩
theorem jJ2 (hc:jM0 X (.builtin id) ks r)(hg:Gl1 X x)(hm:X.mg x=none)(hv:bootBuiltins x=some (.builtin id))(ha:JA X (e::es) t)(hkw:JK X kws tk)(he:starEach (e::es) X.env=(false,eval e X.env)::starEach es X.env)
  (hn:x≠ "__name__" :=by decide) (hdb:(x==("__debug__" :Str))=false:=by decide) (hall:(backToKw pos (keywordEach kws X.env)).all (·.1.isSome)=true:=by rfl) (hks:(backToKw pos (keywordEach kws X.env)).filterMap (·.1)=ks:=by rfl)
  (hpl:(backTo pos (starEach es X.env)).any (·.1)=false:=by rfl) (hkn:(backToKw pos (keywordEach kws X.env)).any (·.1.isNone)=false:=by rfl):JE X (.Call (.Name x p) (e::es) kws pos) (tCBK r t tk):=by
 refine⟨fun pins s σ H Q I h=>?_⟩
 refine cQ (jCR I hg.a hm hv ?_ hn hdb)
 refine callWith_kw (thn (ha.h pos pins s σ H _ I h) fun us s1 ⟨vs,H1,I1,r1,q1⟩=>thn (hkw.h pos pins s1 σ H1 _ I1 q1) fun ws s2 ⟨zs,H2,I2,rz,q2⟩=>?_) (by rw[he]; rfl) (by rw[he]; exact hpl) hall hkn
 rw[hks]
 exact hc pins s2 σ H2 vs zs us ws Q I2 r1 rz q2
theorem jEA (hc:X.calm=true):jM0 X (.builtin "sorted") [Str.ofString "reverse"] (fun xs zs H Q=>∃ (p:Addr) (kvs:List (Key×V)) (ks:List Int) (b:Bool),xs=[.ref p]/\zs=[.bl b]/\H p=some (.dK kvs)/\kvs.map (·.1)=ks.map Sum.inl/\ks.length<=sizeLine/\
  ∀ (l:Addr) (ns:List Int),H l=none->Ordered b ns->ns.Perm ks->Q (.ref l) (upd H l (.lst (ns.map V.int)))):=by
 intro pins s σ H xs zs us ws Q I r rz h
 obtain⟨p,kvs,ks,b,rfl,rfl,hp,hk,hn,q⟩:=h
 obtain⟨u,rfl,rx⟩:=r.one
 obtain⟨v,rfl,ry⟩:=rz.one
 cases rx
 cases ry
 obtain⟨z,lo,vs,rel,dd⟩:=dk_of I.hok hp
 refine jEL (I.ok.hd hc) lo dd (by rw[<- rel.keys]; exact hk) hn fun hf tk l vs ns e hl kp he hi pm srt=>?_
 have hz:(ns.map V.int).length<=sizeLine:=by rw[ab,pm.length_eq]; exact hn
 have I2:Inv X pins σ (upd H l (.lst (ns.map V.int))) { s with heap:=hf,toks:=tk} :=I.laid (t':=tk) kp hl ⟨hz,vs,e,jAF hi,he⟩
 exact⟨.ref l,_,I2,rfl,q l ns (I.hok.fresh hl) srt pm⟩
end
section
variable {X:Cx}
theorem jLS {o:Expr}{to:TE}{name:Str}{apos cpos:Pos}{T id:String}{r:V->List V->Hp->VK->Prop}(pa:PlainAttrs T)(slot:Slot T name id)(hty:typeOf (.builtin id)=pure (.type "method_descriptor"))(hm:MtR X id r)(ho:JE X o to)
  (hbase:attributeBase o name X.env (eval o X.env)=eval o X.env:=by rfl) (hline:(apos.endLine==cpos.line)=true:=by rfl):JE X (.Call (.Attribute o name apos) [] [] cpos) (tBM0 X.K T r to):=⟨jOZ pa slot hty hm ho.h hbase hline⟩
def rBits:V->List V->Hp->VK->Prop:=fun x vs H Q=>∃ i,x= .int i/\vs=[]/\Q (.int (Builtin.Int.intBits i)) H
theorem jNB:MtR X "int.bit_length" rBits:=by
 intro pins s σ H x vs v us Q I rx rv h
 obtain⟨i,rfl,rfl,q⟩:=h
 obtain⟨t,rfl⟩:=rx
 have hus:=rv.zero
 subst hus
 exact call_int_bit_length ⟨.int _,H,I.tok _,⟨_,rfl⟩,q⟩
theorem jIZ {i o:Expr}{ty td:TE}{pos:Pos}(hu:X.A.units+1<cLine)(hi:JE X i ty)(ho:JE X o td)(h1:behindInMarks .NotIn o=false):JT X (.Compare i [.NotIn] [o] pos) (tB (jHS ty td)):=⟨jOP (jI7 hu hi.h ho.h) h1⟩
def jO9 (i:Int)(b:Bool):TE:=fun _ H Q=>∀ p H',H' p=some (.dK [(.inl i, .bl b)])->Ext H H'->H p=none->Q (.ref p) H'
theorem jKN {i:Int}{b:Bool}{k1 k2:Nat}{p1 p2 pos:Pos} :JE X (.Dict [some (.Constant (.int i) k1 p1)] [.Constant (.bool b) k2 p2] pos) (jO9 i b):=
 ⟨fun pins s σ H Q I h=>jMS (jK4 je_int.h je_bl.h jML) rfl rfl (by intro z; cases z) (by show 1<=15; decide) pins s σ H Q I fun p hp=>⟨j6,[(.inl i, .bl b)],rfl,by show 1<=15; decide,h p _ j6 (((Ext.refl H).new hp _).updNew hp _) hp⟩⟩
theorem jKX {K:W.Frag}{tp:Bool}{l:Addr}{xs:List V}{g:TG}{tb:TS}{D:Ends}{σ:St}{H:Hp}(Pv:Nat->St->Hp->Prop)(h0:Pv 0 σ H)(hl:∀ i σ H,Pv i σ H->Sq tp K H l xs)
  (hs:∀ i x T σ H,xs[i]?=some x->H T=none->Pv i σ H->g (.ref T) σ (upd H T (.tup [.int (i:Int),x])) fun σ2 H2=>tb { D with nx:=Pv (i+1),ct:=Pv (i+1),bk:=D.nx} σ2 H2) (hd:∀ σ H,Pv xs.length σ H->D.nx σ H):
  ∃ W:Nat->Nat->St->Hp->Prop,(∃ m,W 0 m σ H)/\∀ i m σ H,W i m σ H->
   ((Ite tp K l).stop i H/\D.nx σ H)\/((Ite tp K l).go i H/\∃ N:St->Hp->Prop,(∀ σ' H',N σ' H'->∃ m',m'<m/\W (i+1) m' σ' H')/\∀ x H',(Ite tp K l).yld i H x H'->g x σ H' fun σ2 H2=>tb { D with nx:=N,ct:=N,bk:=D.nx} σ2 H2):=by
 refine⟨fun i m σ H=>m=xs.length - i/\i<=xs.length/\Pv i σ H,⟨_,rfl,bH _,h0⟩,?_⟩
 rintro i m σ H ⟨rfl,hi,p⟩
 have s1:=hl i σ H p
 by_cases hlt:i<xs.length
 ·refine .inr ⟨⟨xs,xs[i],s1,by simp [hlt]⟩,Pv (i+1),fun σ' H' p'=>⟨xs.length - (i+1),by omega,rfl,hlt,p'⟩,fun v H'' y=>?_⟩
  obtain⟨T,x,e1,e2,e3,e4⟩:=y
  subst e2 e3
  exact hs i x T σ _ (e4 xs s1) e1 p
 ·have e:i=xs.length:=by omega
  subst e
  exact .inl ⟨⟨xs,s1,az _⟩,hd σ H p⟩
end
def All2 {α β:Type}(R:α->β->Prop):List α->List β->Prop
 | [],[]=>True
 | a::as,b::bs=>R a b/\All2 R as bs
 | _,_=>False
section
variable {α β:Type}{R S:α->β->Prop}
theorem All2.len:∀ {as:List α}{bs:List β},All2 R as bs->as.length=bs.length
 | [],[],_=>rfl
 | _::_,_::_,h=>bB (· +1) (All2.len h.2)
theorem All2.imp (f:∀ a b,R a b->S a b):∀ {as:List α}{bs:List β},All2 R as bs->All2 S as bs
 | [],[],_=>trivial
 | _::_,_::_,h=>⟨f _ _ h.1,All2.imp f h.2⟩
theorem All2.snoc {a:α}{b:β} :∀ {as:List α}{bs:List β},All2 R as bs->R a b->All2 R (as++[a]) (bs++[b])
 | [],[],_,h=>⟨h,trivial⟩
 | _::_,_::_,h,k=>⟨h.1,All2.snoc h.2 k⟩
theorem All2.get:∀ {as:List α}{bs:List β}{i:Nat}{b:β},All2 R as bs->bs[i]?=some b->∃ a,as[i]?=some a/\R a b
 | [],[],i,b,_,h=>by simp at h
 | a::_,_::_,0,b,h,e=>by
  simp at e
  subst e
  exact⟨a,rfl,h.1⟩
 | _::_,_::_,i+1,b,h,e=>by
  obtain⟨a,h1,h2⟩:=All2.get h.2 (i:=i) (b:=b) (by simpa using e)
  exact⟨a,by simpa using h1,h2⟩
theorem All2.get':∀ {as:List α}{bs:List β}{i:Nat}{a:α},All2 R as bs->as[i]?=some a->∃ b,bs[i]?=some b/\R a b
 | [],[],i,b,_,h=>by simp at h
 | a::_,b::_,0,x,h,e=>by
  simp at e
  subst e
  exact⟨b,rfl,h.1⟩
 | _::_,_::_,i+1,x,h,e=>by
  obtain⟨b,h1,h2⟩:=All2.get' h.2 (i:=i) (a:=x) (by simpa using e)
  exact⟨b,by simpa using h1,h2⟩
theorem All2.of_get {as:List α}{bs:List β}(hl:as.length=bs.length)(h:∀ (i:Nat) a b,as[i]?=some a->bs[i]?=some b->R a b):All2 R as bs:=by
 induction as generalizing bs with
 | nil=>cases bs with
  | nil=>trivial
  | cons b bs=>cases hl
 | cons a as ih=>cases bs with
  | nil=>cases hl
  | cons b bs=>exact⟨h 0 a b rfl rfl,ih (by simpa using hl) fun i a b h1 h2=>h (i+1) a b (by simpa using h1) (by simpa using h2)⟩
end
def lowN (m:Nat):Nat:=if m % 2=1 then lowN (m / 2)+1 else 0
theorem jCQ {m:Nat}(h:m % 2=0):lowN m=0:=by
 unfold lowN
 rw[ax (by omega)]
theorem jDY {m:Nat}(h:m % 2=1):lowN m=lowN (m / 2)+1:=by
 rw[lowN,ao h]
theorem jO0 (a b:Nat):a&&&b=2*((a / 2)&&&(b / 2))+(a % 2)*(b % 2):=by
 have h1:(a&&&b) / 2=(a / 2)&&&(b / 2):=Nat.and_div_two
 have h2:(a&&&b) % 2=(a % 2)*(b % 2):=by
  have t:=eX a b 0
  rw[dN,dN,dN] at t
  have t':((a&&&b) % 2=1)↔(a % 2=1/\b % 2=1):=by
   rw[<- eR.trans (and_congr bo bo),<- t,bo]
  rcases cw a with ha | ha <;> rcases cw b with hb | hb <;> rw[ha,hb] at t' ⊢ <;> omega
 omega
theorem jNE (m:Nat):(m+1) - ((m+1)&&&m)=2 ^ lowN m:=by
 induction m using strongRecOn with
 | _ m ih=>
  rw[jO0]
  rcases cw m with h | h
  ·rw[jCQ h,show (m+1) / 2=m / 2 by omega,Nat.and_self,h]
   omega
  ·have:=ih (m / 2) (by omega)
   rw[jDY h,Nat.pow_succ,show (m+1) / 2=m / 2+1 by omega,show (m+1) % 2=0 by omega]
   omega
theorem jKK (m:Nat):Builtin.Int.intBits (Builtin.bitAnd (Builtin.bitNot (m:Int)) ((m:Int)+1))=lowN m+1:=by
 have e:Builtin.bitAnd (Builtin.bitNot (m:Int)) ((m:Int)+1)=((2 ^ lowN m:Nat):Int):=by
  unfold Builtin.bitAnd
  have h1:¬ (0<=Builtin.bitNot (m:Int)):=by unfold Builtin.bitNot; omega
  have h2:(0:Int)<=(m:Int)+1:=by omega
  have h3:(Builtin.bitNot (Builtin.bitNot (m:Int))).toNat=m:=by unfold Builtin.bitNot; omega
  rw[aM h1,aK h2]
  show ((m:Int)+1) - ((((m:Int)+1).toNat&&&(Builtin.bitNot (Builtin.bitNot (m:Int))).toNat:Nat):Int)=_
  rw[h3,show ((m:Int)+1).toNat=m+1 by omega,<- jNE m]
  have:(m+1)&&&m<=m+1:=Nat.and_le_left
  omega
 rw[e]
 unfold Builtin.Int.intBits
 have hp:0<2 ^ lowN m:=dW _
 have h0:((((2 ^ lowN m:Nat):Int))==0)=false:=by
  rw[cy]
  omega
 rw[h0]
 simp [Nat.log2_two_pow]
theorem jCP (m:Nat):m.testBit (lowN m)=false:=by
 induction m using strongRecOn with
 | _ m ih=>
  rcases cw m with h | h
  ·rw[jCQ h,dN,h]
   rfl
  ·rw[jDY h,Nat.testBit_succ]
   exact ih _ (by omega)
theorem jDX (m:Nat):∀ j,j<lowN m->m.testBit j=true:=by
 induction m using strongRecOn with
 | _ m ih=>
  intro j hj
  rcases cw m with h | h
  ·rw[jCQ h] at hj
   omega
  ·rw[jDY h] at hj
   cases j with
   | zero=>rw[dN,h]; rfl
   | succ j=>
    rw[Nat.testBit_succ]
    exact ih _ (by omega) j (by omega)
theorem jPA {m t:Nat}(h1:m.testBit t=false)(h2:∀ j,j<t->m.testBit j=true):lowN m=t:=by
 rcases Nat.lt_trichotomy (lowN m) t with h | h | h
 ·have:=h2 _ h
  rw[jCP] at this
  cases this
 ·exact h
 ·have:=jDX m t h
  rw[h1] at this
  cases this
theorem jNS {m w:Nat}(h:m<2 ^ w)(a:∀ j,j<w->m.testBit j=true):m=2 ^ w - 1:=by
 apply eS
 intro i
 rw[ci]
 by_cases hi:i<w
 ·rw[a i hi,aK hi]
 ·rw[aM hi]
  exact Nat.testBit_lt_two_pow (aX h (dJ (by decide) (by omega)))
theorem jD9 {m w:Nat}(h:m<2 ^ w)(hn:m≠2 ^ w - 1):lowN m<w:=by
 refine bM fun z=>hn (jNS h fun j hj=>jDX m j (by omega))
abbrev Ch:=List (List (Int×Nat))
def fullN (ch:Ch):Nat:=2 ^ ch.length - 1
def chAt (ch:Ch)(m:Nat):List (Int×Nat):=(ch.getD (lowN m) []).filter fun c=>c.2&&&m==0
structure ChOk (ch:Ch):Prop where
 w:ch.length<=16
 len:∀ (t:Nat) (cs:List (Int×Nat)),ch[t]?=some cs->cs.length<=33
 it:∀ (t:Nat) (cs:List (Int×Nat)),ch[t]?=some cs->∀ c∈cs,c.2.testBit t=true/\c.2<2 ^ ch.length/\ -1<=c.1/\c.1<32
theorem ChOk.mem {ch:Ch}{m:Nat}{c:Int×Nat}(o:ChOk ch)(h:m<2 ^ ch.length)(hn:m≠fullN ch)(hc:c∈chAt ch m):c.2.testBit (lowN m)=true/\c.2<2 ^ ch.length/\c.2&&&m=0/\ -1<=c.1/\c.1<32:=by
 obtain⟨h1,h2⟩:=bU.mp hc
 have hl:=jD9 h hn
 rw[ar,ai hl] at h1
 obtain⟨a,b,c1,c2⟩:=o.it _ _ (ai hl) c h1
 exact⟨a,b,by simpa using h2,c1,c2⟩
theorem ChOk.up {ch:Ch}{m:Nat}{c:Int×Nat}(o:ChOk ch)(h:m<2 ^ ch.length)(hn:m≠fullN ch)(hc:c∈chAt ch m):m<m|||c.2/\m|||c.2<2 ^ ch.length:=by
 obtain⟨a,b,z,_⟩:=o.mem h hn hc
 refine⟨?_,Nat.or_lt_two_pow h b⟩
 refine Nat.lt_of_le_of_ne Nat.left_le_or fun e=>?_
 have t:m.testBit (lowN m)=(m|||c.2).testBit (lowN m):=bB (fun z=>z.testBit (lowN m)) e
 rw[b0,a,ff,jCP] at t
 cases t
def gvN {α:Type}(ch:Ch)(e:α)(J:List (Int×α)->α):Nat->Nat->α
 | 0,_=>e
 | n+1,m=>if m=fullN ch then e else J ((chAt ch m).map fun c=>(c.1,gvN ch e J n (m|||c.2)))
def gv {α:Type}(ch:Ch)(e:α)(J:List (Int×α)->α)(m:Nat):α:=gvN ch e J (fullN ch - m) m
theorem jNP {α:Type}{ch:Ch}{e:α}{J:List (Int×α)->α}(o:ChOk ch):∀ (k n m:Nat),fullN ch - m<=k->fullN ch - m<=n->m<2 ^ ch.length->gvN ch e J n m=gvN ch e J k m:=by
 intro k
 induction k with
 | zero=>
  intro n m h1 h2 h3
  have:m=fullN ch:=by
   unfold fullN at h1 ⊢
   omega
  subst this
  cases n with
  | zero=>rfl
  | succ n=>show gvN ch e J (n+1) (fullN ch)=e; rw[gvN,ao rfl]
 | succ k ih=>
  intro n m h1 h2 h3
  by_cases hm:m=fullN ch
  ·subst hm
   cases n with
   | zero=>show e=gvN ch e J (k+1) (fullN ch); rw[gvN,ao rfl]
   | succ n=>
    have q:∀ i,gvN ch e J (i+1) (fullN ch)=e:=fun i=>by rw[gvN,ao rfl]
    rw[q,q]
  ·have hlt:m<fullN ch:=by
    unfold fullN at hm ⊢
    omega
   cases n with
   | zero=>omega
   | succ n=>
    rw[gvN,ax hm,gvN,ax hm]
    congr 1
    refine dR fun c hc=>?_
    obtain⟨u1,u2⟩:=o.up h3 hm hc
    rw[ih n (m|||c.2) (by omega) (by omega) u2]
theorem jNO {α:Type}{ch:Ch}{e:α}{J:List (Int×α)->α} :gv ch e J (fullN ch)=e:=by
 unfold gv
 rw[fh,gvN]
theorem jNN {α:Type}{ch:Ch}{e:α}{J:List (Int×α)->α}{m:Nat}(o:ChOk ch)(h:m<2 ^ ch.length)(hn:m≠fullN ch):gv ch e J m=J ((chAt ch m).map fun c=>(c.1,gv ch e J (m|||c.2))):=by
 have hlt:m<fullN ch:=by
  unfold fullN at hn ⊢
  omega
 have:gv ch e J m=gvN ch e J ((fullN ch - m - 1)+1) m:=by
  unfold gv
  rw[show fullN ch - m - 1+1=fullN ch - m by omega]
 rw[this,gvN,ax hn]
 congr 1
 refine dR fun c hc=>?_
 obtain⟨u1,u2⟩:=o.up h hn hc
 unfold gv
 rw[jNP o (fullN ch - (m|||c.2)) _ _ (az _) (by omega) u2]
end L2
end
section
namespace L2
open PySem
section
variable {X:Cx}{tg iter elt:Expr}{ifs:List Expr}{sc:Scope}{pos:Pos}{wi:TI}{g:TG}{tt:TT}{te:TE}{m:List (Option Nat)}{Nc:List Str}
end
section
variable {X:Cx}
end
end L2
end
section
namespace L2
open PySem PySem.Spec PyProof.Rows
def ZC (cl:List (Str×Addr))(fs:List Str)(fv:List V):Shared->Hp->Prop:=fun s H=>ClOk cl s H/\FvOk fs fv cl s
theorem ZC.st (cl:List (Str×Addr))(fs:List Str)(fv:List V):ZSt (ZC cl fs fv):=by
 rintro fr s s' H H' u ⟨C,F1,F2⟩
 have kc:∀ {x c v},cl.lookup x=some c->s.heap.IsCell c v->s'.heap.IsCell c v:=fun {x c v} hc ⟨o,ho,hd⟩=>by
  obtain⟨sl,e⟩:=u.any ho (C.cell x c hc).2 (by simp)
  exact⟨_,e,hd⟩
 refine⟨⟨C.inj,fun x c hc=>?_⟩,F1,fun i x v h1 h2=>?_⟩
 ·obtain⟨⟨v,o,ho,hd⟩,n⟩:=C.cell x c hc
  exact⟨⟨v,kc hc ⟨o,ho,hd⟩⟩,u.free c o ho n (by simp)⟩
 ·obtain⟨c,w,a1,a2,a3⟩:=F2 i x v h1 h2
  exact⟨c,w,a1,a2,kc a1 a3⟩
theorem Callee.ofN {P:Program}{w:World}{K:W.Frag}{mg:Str->Option Value}{base:Heap}{k:Nat}{x q:Str}{args:Arguments}{body:List Stmt}{scope:Scope}{ps fs:List Str}{sp:List V->Sp}{cl:List (Str×Addr)}{fv:List V}{a c:Addr}(F:FnN P w K mg base k x q args body scope ps fs sp):
  Callee P w K mg base (ZC cl fs fv) (fun H=>H a=some (.ext (nfP x q args body scope cl a c))/\H c=some (.ext (ncP q c))) k a (sp fv):=by
 refine⟨fun A outer s H e z=>?_,fun A outer s H us vs Q E hr e0 hz zh r hsp=>?_⟩
 ·obtain⟨⟨d,m,t,g⟩,_,_⟩:=(show ObjOk P w H s.heap a (.ext _) from e.hok a _ z.1)
  exact⟨_,_,_,_,g⟩
 ·obtain⟨p1,_,_⟩:=(show ObjOk P w H s.heap a (.ext _) from e0.hok a _ zh.1)
  obtain⟨p2,_,_⟩:=(show ObjOk P w H s.heap c (.ext _) from e0.hok c _ zh.2)
  exact F.run A outer s H a c cl us vs fv Q E hr e0 p1 p2 hz.1 hz.2 r hsp
def jOB {ι:Type}(G:ι->St->Prop)(sp:ι->Sp)(t:TA):TE:=fun σ H Q=>t σ H fun vs H1=>∃ i,G i σ/\sp i vs H1 Q E0
theorem jKQ {ι:Type}{X:Cx}{Z:ι->Shared->Hp->Prop}{G:ι->St->Prop}{k:Nat}{f:Addr}{fd:FuncData}{ps:List Str}{sp:ι->Sp}{x:Str}{p pos:Pos}{e:Expr}{es:List Expr}{t:TA}(F:∀ i,FnZ X.prog X.w X.K X.mg X.base CX0 (Z i) k f fd ps (sp i))(hr:Room k X.A)(hg:Gl1 X x)(hm:X.mg x=some (.ref f))(hk:keepIn X.K (.ref f)=true)(hb:Binds X.K fd ps [])
  (hZ:∀ i pins s σ H,Inv X pins σ H s->G i σ->Z i s H) (ha:JA X (e::es) t) (he:starEach (e::es) X.env=(false,eval e X.env)::starEach es X.env) (hdb:(x==("__debug__" :Str))=false:=by decide) (hpl:(backTo pos (starEach es X.env)).any (·.1)=false:=by rfl):
  JE X (.Call (.Name x p) (e::es) [] pos) (jOB G sp t):=by
 refine⟨fun pins s σ H Q I h=>?_⟩
 refine cQ (jIN I hg.a hm ?_ hdb)
 refine gS (h₀:=X.base) I.ok.mod.kin hk (thn (ha.h pos pins s σ H _ I h) fun us s1 ⟨vs,H1,I1,r,i,gi,q⟩=>⟨I1.kIn,?_⟩) he hpl
 have hl:(us++[]).length=ps.length:=by rw[aW,<- r.length]; exact(F i).len _ _ _ _ q
 have b:=hb s1 us I1.kIn hl
 rw[aW] at b
 refine wpAny_call (dZ ((F i).run X.A X.stack s1 H1 ⟨us,[]⟩ us vs Q E0 hr I1.env0 b r (hZ i _ _ _ _ I1 gi) q) fun r s' hq=>?_)
 cases r with
 | error e=>exact hq.elim
 | ok fl=>
  cases fl with
  | ret u=>exact I1.after hq
  | next=>exact False.elim hq
  | brk=>exact False.elim hq
  | cont=>exact False.elim hq
theorem jKM {P:Program}{w:World}{K:W.Frag}{mg:Str->Option Value}{base:Heap}{N:List Str}{qual:Str}{sc:Scope}{f:Addr}{cd:Value}{cl:List (Str×Addr)}{A:Around}{outer:List Env}{s:Shared}{H:Hp}{x y:Str}{p1 p2 pos:Pos}{k i j:Nat}(hN:N.Nodup)(hi:N[i]?=some x)(hj:N[j]?=some y)(hx:sc.names.lookup x=some .local)(hy:sc.names.lookup y=some .local):
  JG (cxN P w K mg base N qual sc f cd cl A outer s H) (.Tuple [.Name x p1, .Name y p2] k pos) (gTup K 2 (yY (jV i) (yY (jV j) gNil))):=
 jIW (X:=cxN P w K mg base N qual sc f cd cl A outer s H) rfl (jA6 (jH hN hi (loc_n hx)) (jA6 (jH hN hj (loc_n hy)) jCS jAJ) jAJ)
section
variable {X:Cx}
def jMC:V->List V->Hp->VK->Prop:=fun x vs H Q=>∃ (p:Addr) (ns:List Int) (i:Int) (k:Nat),x= .ref p/\vs=[.int i]/\H p=some (.lst (ns.map V.int))/\ns.length<=1000/\ns[k]?=some i/\(∀ m,m<k->ns[m]?≠some i)/\Q (.int (k:Int)) H
theorem jET:MtM X "list.index" jMC:=by
 intro pins s σ H x vs v us Q I rx rv h
 obtain⟨p,ns,i,k,rfl,rfl,hp,hs,hk,hno,q⟩:=h
 cases rx
 obtain⟨u,rfl,ru⟩:=rv.one
 obtain⟨z,its,n,r,_,e0⟩:=I.lstM hp
 have hl:=r.length
 rw[ab] at hl
 have hkl:k<its.length:=by rw[<- hl]; exact(af.mp hk).1
 have at_:∀ m (hm:m<its.length),∃ (z:Int) (t:Tok),ns[m]?=some z/\its[m]= .int z t:=fun m hm=>by
  have hz:(ns.map V.int)[m]?=some (.int ns[m]):=by simp [show m<ns.length by omega]
  obtain⟨w,hw,t,rw'⟩:=r.get hz
  refine⟨ns[m],t,by simp [show m<ns.length by omega],?_⟩
  rw[ai hm] at hw
  rw[bg hw]
  exact rw'
 refine eB F.slot_list_index ⟨_,e0,rfl⟩ F.entry_list_index (F.args_list_index_2 _ _) (SeqAt.list_indexAt p its.toArray n none #[] u (eqU (.int i)) k (by simpa using hkl) (by omega) ?_ fun m hm hmk=>?_) ⟨e0,fun w hw=>jAZ ru rfl r ?_ w (by simpa using hw),?_⟩
 ·obtain⟨z,t,h1,h2⟩:=at_ k hkl
  rw[hk] at h1
  cases h1
  show eqU (.int i) its[k]=true
  rw[h2]
  show (i==i)=true
  simp
 ·have hm':m<its.length:=by simpa using hm
  obtain⟨z,t,h1,h2⟩:=at_ m hm'
  show eqU (.int i) its[m]=false
  rw[h2]
  show (z==i)=false
  rw[cy]
  exact fun e=>hno m hmk (by rw[h1,e])
 ·rw[bP]
  intro x hx
  obtain⟨z,_,rfl⟩:=aN.mp hx
  rfl
 ·exact⟨.int _,H,I.tok _,⟨s.toks,rfl⟩,q⟩
end
end L2
end
section
end
section
namespace Eo
open PySem L2
def Keep (H H':Hp)(p:Addr):Prop:=∀ b o,H b=some o->b≠p->H' b=some o
structure Txt (mg:Str->Option Value):Prop where
 len:mg "len" =none
 range:mg "range" =none
 tuple:mg "tuple" =none
 sorted:mg "sorted" =none
 set:mg "set" =none
 list:mg "list" =none
 int:mg "int" =none
 isinstance:mg "isinstance" =none
 bool:mg "bool" =none
 str:mg "str" =none
 all:mg "all" =none
 zip:mg "zip" =none
 max:mg "max" =none
 min:mg "min" =none
 any:mg "any" =none
 abs:mg "abs" =none
 sum:mg "sum" =none
 enumerate:mg "enumerate" =none
 dict:mg "dict" =none
structure Can (P:Program)(w:World)(K:W.Frag)(mg:Str->Option Value)(base:Heap)(x:Str)(k:Nat)(f:Addr)(fd:FuncData)(ps:List Str)(sp:Sp):Prop where
 G:FnOk P w K mg base CX0 k f fd ps sp
 m:mg x=some (.ref f)
 kp:keepIn K (.ref f)=true
 b:Binds K fd ps []
theorem Can.pe {X:Cx}{x:Str}{k:Nat}{f:Addr}{fd:FuncData}{ps:List Str}{sp:Sp}{e:Expr}{es:List Expr}{t:TA}{p pos:Pos}(C:Can X.prog X.w X.K X.mg X.base x k f fd ps sp)(hr:Room k X.A)(hg:Gl X x)(ha:PA X (e::es) t)(hdb:(x==("__debug__" :Str))=false:=by decide)
  (he:starEach (e::es) X.env=(false,eval e X.env)::starEach es X.env:=by rfl) (hpl:(backTo pos (starEach es X.env)).any (·.1)=false:=by rfl):PE X (.Call (.Name x p) (e::es) [] pos) (tCall sp [] E0 t):=
 jMW C.G hr hg C.m C.kp C.b .nil pass0 ha hdb he hpl
theorem Can.je {X:Cx}{x:Str}{k:Nat}{f:Addr}{fd:FuncData}{ps:List Str}{sp:Sp}{e:Expr}{es:List Expr}{t:TA}{p pos:Pos}(C:Can X.prog X.w X.K X.mg X.base x k f fd ps sp)(hr:Room k X.A)(hg:Gl1 X x)(ha:JA X (e::es) t)(he:starEach (e::es) X.env=(false,eval e X.env)::starEach es X.env)
  (hdb:(x==("__debug__" :Str))=false:=by decide) (hpl:(backTo pos (starEach es X.env)).any (·.1)=false:=by rfl):JE X (.Call (.Name x p) (e::es) [] pos) (tCall sp [] E0 t):=
 ⟨C.pe hr hg.a ha.h hdb he hpl⟩
section
variable {P:Program}{w:World}{K:W.Frag}{mg:Str->Option Value}{base:Heap}
def jHW (K:W.Frag):Sp:=fun vs H Q _=>∃ (a:Addr) (ns:List Int) (k:Int),vs=[.ref a, .int k]/\SqL K H a (ns.map V.int)/\0<=k/\∀ c:Int,Q (.int c) H
theorem jOH:FnScope ["script","k"] ["script","k"] (j5 sCell):=⟨rfl,rfl,rfl,by decide+kernel,rfl,by decide+kernel,by decide+kernel⟩
theorem jN8 {f:Addr}{fd:FuncData}(F:Fun K "_law_cell_at" "_law_cell_at" sCell f fd)(T:Txt mg):FnOk P w K mg base CX0 1 f fd ["script","k"] (jHW K):=by
 refine F.ok jOH (fun vs H Q E h=>?_) (fun cdv A outer s H vs Q E hr h=>?_)
 ·obtain⟨a,ns,k,rfl,_⟩:=h
  rfl
 ·obtain⟨a,ns,k,rfl,hS,h0,q⟩:=h
  refine⟨_,jA8 (ps_if (jFP op_lt (pv 1) (jGF jA0 (by rfl) T.len PySem.boot_len (jCL (pv 0) jEQ)) (jU _)) (jB6 (jD7 (pe_ix jAG (pv 0) (pv 1) (fun _ _=>rfl)))) jFQ) (jB6 (jD7 kO)),?_⟩
  refine⟨_,rfl,_,rfl,a,_,rfl, .inl hS,_,_,rfl,rfl,_,rfl,?_⟩
  refine ite2 (fun hlt=>?_) (fun _=>?_)
  ·have hlt:k<((ns.map V.int).length:Int):=aR hlt
   have hk:k.toNat<ns.length:=by rw[ab] at hlt; omega
   refine⟨_,rfl,_,rfl,a,_,k, .int (ns[k.toNat]),rfl,rfl,hS,?_,q _⟩
   have e:(k.toNat:Int)=k:=by omega
   have q2:=yF (xs:=ns.map V.int) (j:=k.toNat) (v:=V.int ns[k.toNat]) (by simp [hk])
   rw[e] at q2
   exact q2
  ·exact q 0
def yO:Sp:=fun vs H Q _=>∃ (p:Addr) (N w:Int),vs=[.ref p, .int w]/\H p=some (.lst [.int N])/\0<=N/\0<w/\w<2 ^ 64/\∀ N' r:Int,0<=N'->0<=r->r<w->Q (.int r) (upd H p (.lst [.int N']))
theorem scTake:FnScope ["pot","wide","found"] ["pot","wide"] (j5 sTake):=⟨rfl,rfl,rfl,by decide+kernel,rfl,by decide+kernel,by decide+kernel⟩
theorem jN3 {f:Addr}{fd:FuncData}(F:Fun K "_law_take" "_law_take" sTake f fd):FnOk P w K mg base CX0 1 f fd ["pot","wide"] yO:=by
 refine F.ok scTake (fun vs H Q E h=>?_) (fun cdv A outer s H vs Q E hr h=>?_)
 ·obtain⟨a,ns,k,rfl,_⟩:=h
  rfl
 ·obtain⟨p,N,w,rfl,hp,h0,h1,h2,q⟩:=h
  refine⟨_,jA8 (jD6 (i:=2) scTake.nd rfl (Or.inl rfl) (yA jGG (pe_ix jAG (pv 0) kO (fun _ _=>rfl)) (pv 1)))
   (jA8 (jLI (yA jKC (pe_ix jAG (pv 0) kO (fun _ _=>rfl)) (pv 1)) (jOV (pv 0) kO jJZ))
   (jB6 (jD7 (pv 2)))),?_⟩
  refine⟨_,rfl,p,_,0, .int N,rfl,rfl,SqL.of hp,rfl,_,rfl,_,_,rfl,rfl,h1,?_⟩
  refine⟨_,rfl,p,_,0, .int N,rfl,rfl,SqL.of hp,rfl,_,rfl,_,_,rfl,rfl,⟨h1,h2⟩,?_⟩
  refine⟨_,rfl,p,_,0,0,rfl,rfl,hp,rfl,_,rfl,?_⟩
  exact q _ _ (Int.ediv_nonneg h0 (by omega)) (Int.emod_nonneg _ (by omega)) (Int.emod_lt_of_pos _ h1)
def spPot:Sp:=fun vs H Q _=>∃ c:Int,vs=[.int c]/\∀ (p:Addr) (N:Int),H p=none->0<=N->Q (.ref p) (upd H p (.lst [.int N]))
theorem scPot:FnScope ["cell","number","j","more"] ["cell"] (j5 sPot):=⟨rfl,rfl,rfl,by decide+kernel,rfl,by decide+kernel,by decide+kernel⟩
theorem jP2 {f:Addr}{fd:FuncData}(F:Fun K "_law_pot" "_law_pot" sPot f fd)(T:Txt mg):FnOk P w K mg base CX0 1 f fd ["cell"] spPot:=by
 refine F.ok scPot (fun vs H Q E h=>?_) (fun cdv A outer s H vs Q E hr h=>?_)
 ·obtain⟨c,rfl,_⟩:=h
  rfl
 ·obtain⟨c,rfl,q⟩:=h
  have one: [V.int 0].length<=sizeLine:=by show 1<=sizeLine; decide
  refine⟨_,jA8 (ps_if (jFP op_ge (pv 0) (yA jI9 kO kO) (jU _)) (jB6 (jD7 (jLK (jCL (yA jBG (pv 0) (yA jI9 kO kO)) jEQ)))) jFQ)
   (jA8 (jD6 (i:=1) scPot.nd rfl (Or.inl rfl) kO)
   (jA8 (jLH bN rfl (jEP rfl T.range (jCL kO jEQ)) (jI4 (i:=2) scPot.nd rfl (Or.inl rfl))
    (jA8 (jD6 (i:=3) scPot.nd rfl (Or.inl rfl) (yA jGG (yA jBZ (yA kP (yA kP (yA jGG (pv 0) kO) (yA jBZ kO (pv 2))) kO) kO) kO))
    (jA8 (jD6 (i:=3) scPot.nd rfl (Or.inl rfl) (yA jGG (yA kP (yA kP (yA jBZ (pv 3) (pv 3)) (yA jBZ kO (pv 2))) kO) kO))
    (jB6 (jD6 (i:=1) scPot.nd rfl (Or.inl rfl) (yA kP (yA jBZ (pv 1) kO) (pv 3)))))))
   (jB6 (jD7 (jLK (jCL (pv 1) jEQ)))))),?_⟩
  refine⟨_,rfl,_,_,rfl,rfl,⟨by decide,by decide,by decide⟩,_,_,rfl,rfl,_,rfl,?_⟩
  refine ite2 (fun hge=>?_) (fun _=>?_)
  ·refine⟨_,rfl,_,_,rfl,rfl,⟨by decide,by decide,by decide⟩,_,_,rfl,rfl,one,fun p hp=>q p _ hp ?_⟩
   exact Int.sub_nonneg_of_le (aR hge)
  ·refine⟨64,rfl,by decide,by decide,jAS (n:=64) (fun i σ H2=>∃ (num:Int) (v1 v2:Option V),σ=[some (.int c),some (.int num),v1,v2]/\0<=num/\H2=H) ⟨0,none,none,rfl,cf _,rfl⟩ ?_ ?_⟩
   ·rintro i σ H2 hi ⟨num,v1,v2,rfl,hn,rfl⟩
    refine⟨_,rfl,_,_,rfl,rfl,(by show (0:Int)<2147483629; decide),_,rfl,_,_,rfl,rfl, .inl ⟨by decide,by decide⟩,_,_,rfl,rfl,_,_,rfl,rfl,_,_,rfl,rfl, .inr ⟨by decide,by decide⟩,_,_,rfl,rfl,(by show (0:Int)<2147483647; decide),?_⟩
    refine⟨_,rfl,_,rfl,_,_,rfl,rfl, .inl ⟨?_,?_⟩,_,rfl,_,_,rfl,rfl, .inl ⟨by decide,by decide⟩,_,_,rfl,rfl,_,_,rfl,rfl,_,_,rfl,rfl,(by show (0:Int)<2147483587; decide),?_⟩
    ·omega
    ·omega
    ·refine⟨_,rfl,_,_,rfl,rfl, .inr ⟨by decide,by decide⟩,_,rfl,_,_,rfl,rfl,?_⟩
     refine⟨_,_,_,rfl,?_,rfl⟩
     omega
   ·rintro σ H2 ⟨num,v1,v2,rfl,hn,rfl⟩
    exact⟨_,rfl,one,fun p hp=>q p num hp hn⟩
end
theorem jM4 {H:Hp}{a:Addr}{o o':HO} :upd (upd H a o) a o'=upd H a o':=by
 funext b
 unfold upd
 by_cases h:b=a
 ·rw[ao h,ao h]
 ·rw[ax h,ax h,ax h]
structure Lot (w:Int)(ts:List Int):Prop where
 ris:ts.Pairwise (· < ·)
 bnd:∀ z∈ts,0<=z/\z<w
 ne:ts≠ []
structure Ris (w:Int)(ts:List Int):Prop where
 ris:ts.Pairwise (· < ·)
 bnd:∀ z∈ts,0<=z/\z<w
def upto (n:Nat):List Int:=(List.range n).map fun (i:Nat)=>(i:Int)
theorem jC2 (n:Nat):Ris n (upto n):=by
 refine⟨?_,fun z hz=>?_⟩
 ·unfold upto
  rw[de]
  exact List.pairwise_lt_range.imp fun h=>by omega
 ·unfold upto at hz
  obtain⟨t,ht,rfl⟩:=aN.mp hz
  have:=cm.mp ht
  omega
def Tups (H H':Hp):Prop:=∀ b xs,H b=some (.tup xs)->H' b=some (.tup xs)
theorem Tups.trans {H H1 H2:Hp}(a:Tups H H1)(b:Tups H1 H2):Tups H H2:=fun c o h=>b c o (a c o h)
theorem Tups.upd {H:Hp}{p:Addr}{xs:List V}(hp:H p=some (.lst xs))(o:HO):Tups H (upd H p o):=fun b ys hb=>by
 rw[j8 (fun e=>by subst e; rw[hb] at hp; cases hp)]
 exact hb
def PcAt (H:Hp)(v:V)(pc:List Int×Int):Prop:=∃ a q,v= .ref a/\H a=some (.tup [.ref q, .int pc.2])/\H q=some (.tup (pc.1.map V.int))
def PcsAt (H:Hp):List V->List (List Int×Int)->Prop
 | [],[]=>True
 | v::vs,p::ps=>PcAt H v p/\PcsAt H vs ps
 | _,_=>False
theorem PcAt.mono {H H':Hp}{v:V}{pc:List Int×Int}(h:PcAt H v pc)(t:Tups H H'):PcAt H' v pc:=by
 obtain⟨a,q,rfl,h1,h2⟩:=h
 exact⟨a,q,rfl,t _ _ h1,t _ _ h2⟩
theorem PcsAt.mono {H H':Hp}(t:Tups H H'):∀ {vs:List V}{ps:List (List Int×Int)},PcsAt H vs ps->PcsAt H' vs ps
 | [],[],_=>trivial
 | _::_,_::_,h=>⟨h.1.mono t,PcsAt.mono t h.2⟩
 | [],_::_,h=>h.elim
 | _::_,[],h=>h.elim
theorem PcsAt.len {H:Hp} :∀ {vs:List V}{ps:List (List Int×Int)},PcsAt H vs ps->vs.length=ps.length
 | [],[],_=>rfl
 | _::_,_::_,h=>bB (· +1) (PcsAt.len h.2)
 | [],_::_,h=>h.elim
 | _::_,[],h=>h.elim
structure GoodPc (w:Int)(pc:List Int×Int):Prop where
 lot:Lot w pc.1
 lo: -1000000000000<=pc.2
 hi:pc.2<=1000000000000
structure BoxAt (H:Hp)(b:Addr)(w:Int)(mays:List Int)(pcs:List (List Int×Int)):Prop where
 ex:∃ qm qp vs,H b=some (.tup [.int w, .ref qm, .ref qp])/\H qm=some (.tup (mays.map V.int))/\H qp=some (.tup vs)/\PcsAt H vs pcs
theorem BoxAt.mono {H H':Hp}{b:Addr}{w:Int}{mays:List Int}{pcs:List (List Int×Int)}(h:BoxAt H b w mays pcs)(t:Tups H H'):BoxAt H' b w mays pcs:=by
 obtain⟨qm,qp,vs,h1,h2,h3,h4⟩:=h.ex
 exact⟨qm,qp,vs,t _ _ h1,t _ _ h2,t _ _ h3,h4.mono t⟩
structure Good (mt mp:Int)(w:Int)(mays:List Int)(pcs:List (List Int×Int)):Prop where
 w0:0<=w
 w1:w<=mt
 mr:Ris w mays
 pl:(pcs.length:Int)<=mp
 pg:∀ pc∈pcs,GoodPc w pc
def yL:Stmt->List Stmt
 | .For _ _ b _ _=>b
 | _=> []
inductive Ob where
 | int (i:Int)
 | oth
 | tup (os:List Ob)
def OthAt (H:Hp)(v:V):Prop:=v= .non\/(∃ b,v= .bl b)\/(∃ x,v= .str x)\/∃ a,v= .ref a/\((∃ xs,H a=some (.lst xs))\/∃ kvs,H a=some (.dK kvs))
mutual
def At (H:Hp):Ob->V->Prop
 | .int i,v=>v= .int i
 | .oth,v=>OthAt H v
 | .tup os,v=>∃ a vs,v= .ref a/\H a=some (.tup vs)/\vs.length<=100/\Ats H os vs
def Ats (H:Hp):List Ob->List V->Prop
 | [],vs=>vs=[]
 | o::os,vs=>∃ v r,vs=v::r/\At H o v/\Ats H os r
end
structure Kp (H H':Hp):Prop where
 t:Tups H H'
 l:∀ a xs,H a=some (.lst xs)->∃ ys,H' a=some (.lst ys)
 d:∀ a xs,H a=some (.dK xs)->∃ ys,H' a=some (.dK ys)
theorem OthAt.mono {H H':Hp}(k:Kp H H'){v:V}(h:OthAt H v):OthAt H' v:=by
 rcases h with h | h | h | ⟨a,rfl,⟨xs,h⟩ | ⟨xs,h⟩⟩
 ·exact .inl h
 ·exact .inr (.inl h)
 ·exact .inr (.inr (.inl h))
 ·exact .inr (.inr (.inr ⟨a,rfl, .inl (k.l _ _ h)⟩))
 ·exact .inr (.inr (.inr ⟨a,rfl, .inr (k.d _ _ h)⟩))
mutual
theorem At.mono {H H':Hp}(k:Kp H H'):∀ (o:Ob) (v:V),At H o v->At H' o v
 | .int _,_,h=>h
 | .oth,_,h=>OthAt.mono k h
 | .tup os,_,⟨a,vs,e,h,n,r⟩=>⟨a,vs,e,k.t _ _ h,n,Ats.mono k os vs r⟩
theorem Ats.mono {H H':Hp}(k:Kp H H'):∀ (os:List Ob) (vs:List V),Ats H os vs->Ats H' os vs
 | [],_,h=>h
 | o::os,_,⟨v,r,e,h,t⟩=>⟨v,r,e,At.mono k o v h,Ats.mono k os r t⟩
end
def adj (is:List Int):List Bool:=(List.range (is.length - 1)).map fun k=>decide (is.getD k 0<is.getD (k+1) 0)
theorem jO3 (is:List Int):(adj is).length=is.length - 1:=by
 unfold adj
 rw[ab,dF]
theorem jPS {is:List Int}{k:Nat}(h:k<is.length - 1):(adj is)[k]?=some (decide (is.getD k 0<is.getD (k+1) 0)):=by
 unfold adj
 rw[aO,fb h]
 rfl
theorem jL8 {is:List Int}{k:Nat}(h:k<is.length - 1):(adj is).take (k+1)=(adj is).take k++[decide (is.getD k 0<is.getD (k+1) 0)]:=by
 rw[br,jPS h]
 rfl
theorem getI {is:List Int}{k:Nat}(h:k<is.length):(is.map V.int)[k]?=some (.int (is.getD k 0)):=by
 rw[aO,ar]
 simp [h]
section
variable {P:Program}{w:World}{K:W.Frag}{mg:Str->Option Value}{base:Heap}
noncomputable abbrev XOf (N:List Str)(q:Str)(st:Stmt)(P:Program)(w:World)(K:W.Frag)(mg:Str->Option Value)(base:Heap)(f:Addr)(cdv:Value)(A:Around)(outer:List Env)(s:Shared)(H:Hp)(E:XK):Cx:=(cxOf CX0 P w K mg base N q (j5 st) f cdv A outer s H E).nox
variable {f fW fR:Addr}{fdW fdR:FuncData}{cdv:Value}{A:Around}{outer:List Env}{s:Shared}{H0:Hp}{E:XK}
end
end Eo
end
section
namespace L2
open PySem
theorem qb {Q:VK}{H:Hp}{a b:Bool}(q:Q (.bl a) H)(e:a=b):Q (.bl b) H:=e ▸ q
end L2
namespace Eo
open PySem L2
section
variable {P:Program}{w:World}{K:W.Frag}{mg:Str->Option Value}{base:Heap}
variable {f fW fR fL fG fI fPs:Addr}{fdW fdR fdL fdG fdI fdPs:FuncData}{cdv:Value}{A:Around}{outer:List Env}{s:Shared}{H0:Hp}{E:XK}
end
end Eo
end
section
namespace L2
open PySem
section
variable {P:Program}{w:World}{K:W.Frag}{mg:Str->Option Value}{base:Heap}{N:List Str}{qual:Str}{sc:Scope}{f:Addr}{cdv:Value}{A:Around}{outer:List Env}{s:Shared}{H:Hp}{E:XK}{x y z:Str}{p1 p2 p3 pos:Pos}{k i j l:Nat}
theorem jE2 (hN:N.Nodup)(hi:N[i]?=some x)(hj:N[j]?=some y)(hx:sc.names.lookup x=some .local)(hy:sc.names.lookup y=some .local):
  JG (cxOf CX0 P w K mg base N qual sc f cdv A outer s H E).nox (.Tuple [.Name x p1, .Name y p2] k pos) (gTup K 2 (yY (jV i) (yY (jV j) gNil))):=
 jIW (X:=(cxOf CX0 P w K mg base N qual sc f cdv A outer s H E).nox) rfl (jA6 (jH hN hi (loc_l hx)) (jA6 (jH hN hj (loc_l hy)) jCS jAJ) jAJ)
end
end L2
namespace L2
open PySem
section
variable {K:W.Frag}{m:List (Option Nat)}{g:TG}{tt:TT}{te:TE}{σ:St}{H1:Hp}{Q:VK}
end
end L2
namespace Eo
open PySem L2
theorem jCV (l:List Int):(l.map V.int).all flatV=true:=by
 rw[bP]
 intro x hx
 obtain⟨i,_,rfl⟩:=aN.mp hx
 rfl
theorem jE5 (i:Int)(l:List Int):inV (.int i) (l.map V.int)=decide (i∈l):=by
 unfold inV
 rw[cY,List.any_eq_true,bo]
 constructor
 ·rintro ⟨x,hx,e⟩
  obtain⟨j,hj,rfl⟩:=aN.mp hx
  have:j=i:=eq_of_beq e
  rw[<- this]
  exact hj
 ·intro h
  exact⟨.int i,aN.mpr ⟨i,h,rfl⟩,by simp [eqV]⟩
theorem jBO:∀ (ts:List Int) (lo w:Int),ts.Pairwise (· < ·)->(∀ z∈ts,lo<=z/\z<w)->(ts.length:Int)<=max (w - lo) 0
 | [],lo,w,_,_=>by show (0:Int)<=_; omega
 | a::r,lo,w,hp,hb=>by
  have h1:=hb a aG
  have hp':=cb.mp hp
  have:=jBO r (a+1) w hp'.2 fun z hz=>⟨by have:=hp'.1 z hz; omega,(hb z (ay _ hz)).2⟩
  rw[aZ]
  omega
def j9 (pcs:List (List Int×Int))(k:Int):List Int:=(pcs.getD k.toNat ([],0)).1
theorem PcsAt.get {H:Hp} :∀ {vs:List V}{ps:List (List Int×Int)},PcsAt H vs ps->∀ {k:Nat},k<ps.length->∃ v,vs[k]?=some v/\PcAt H v (ps.getD k ([],0))
 | v::vs,p::ps,h,0,_=>⟨v,rfl,h.1⟩
 | v::vs,p::ps,h,k+1,hk=>PcsAt.get h.2 (k:=k) (by simpa using hk)
 | [],[],_,k,hk=>absurd hk (Nat.not_lt_zero _)
 | [],_::_,h,_,_=>h.elim
 | _::_,[],h,_,_=>h.elim
theorem Good.at {mt mp w:Int}{ms:List Int}{pcs:List (List Int×Int)}(g:Good mt mp w ms pcs){k:Nat}(hk:k<pcs.length):GoodPc w (pcs.getD k ([],0)):=by
 have e:pcs.getD k ([],0)=pcs[k]:=by simp [List.getD,hk]
 rw[e]
 exact g.pg _ (dn hk)
theorem jK5 {H:Hp}{vs:List V}{pcs:List (List Int×Int)}(h:PcsAt H vs pcs){k:Int}(h0:0<=k)(h1:k<pcs.length):∃ a q wt,atI vs k=some (.ref a)/\H a=some (.tup [.ref q, .int wt])/\H q=some (.tup ((j9 pcs k).map V.int)):=by
 obtain⟨v,hv,a,q,rfl,b1,b2⟩:=h.get (k:=k.toNat) (by omega)
 refine⟨a,q,_,?_,b1,b2⟩
 have e:((k.toNat:Nat):Int)=k:=by omega
 have:=yF hv
 rw[e] at this
 exact this
theorem jEE {n i:Nat}(h:i<n):(upto n).take (i+1)=(upto n).take i++[(i:Int)]:=by
 unfold upto
 rw[<- eG,<- eG,List.take_range,List.take_range,show min (i+1) n=i+1 by omega,show min i n=i by omega,gx,aQ]
 rfl
theorem jA5 (n:Nat):(upto n).length=n:=by
 unfold upto
 rw[ab,dF]
theorem jBC {n i:Nat}(h:i<n):(upto n)[i]?=some (i:Int):=by
 unfold upto
 rw[aO,fb h]
 rfl
theorem iteT' {A B:Prop}{c:Bool}(hc:c=true)(h:A):if c=true then A else B:=by
 rw[ao hc]
 exact h
theorem _root_.L2.Ext.tups {H H':Hp}(e:Ext H H'):Tups H H':=fun b xs h=>e b _ h
theorem PcsAt.at {H:Hp} :∀ {vs:List V}{ps:List (List Int×Int)},PcsAt H vs ps->∀ {i:Nat}{v:V},vs[i]?=some v->∃ pc,ps[i]?=some pc/\PcAt H v pc
 | [],[],_,i,v,e=>by cases e
 | x::vs,p::ps,h,0,v,e=>by cases e; exact⟨p,rfl,h.1⟩
 | x::vs,p::ps,h,i+1,v,e=>PcsAt.at h.2 (i:=i) e
 | [],_::_,h,_,_,_=>h.elim
 | _::_,[],h,_,_,_=>h.elim
theorem PcsAt.snoc {H:Hp}{v:V}{p:List Int×Int}(hv:PcAt H v p):∀ {vs:List V}{ps:List (List Int×Int)},PcsAt H vs ps->PcsAt H (vs++[v]) (ps++[p])
 | [],[],_=>⟨hv,trivial⟩
 | x::vs,q::ps,h=>⟨h.1,PcsAt.snoc hv h.2⟩
 | [],_::_,h=>h.elim
 | _::_,[],h=>h.elim
theorem jIG (n:Nat):∀ (ds:List Int),ds.Nodup->(∀ t∈ds,0<=t/\t<(n:Int))->ds.length<=n:=by
 intro ds h1 h2
 have h3:(ds.map Int.toNat).Nodup:=by
  rw[List.Nodup,de]
  refine dU (R:=(· ≠ ·)) (fun {a b} ha hb hne e=>hne ?_) h1
  have:=h2 a ha
  have:=h2 b hb
  omega
 have h4:(ds.map Int.toNat).length<=(List.range n).length:=h3.length_le_of_subset fun x hx=>by
  obtain⟨t,ht,rfl⟩:=aN.mp hx
  have:=h2 t ht
  exact cm.mpr (by omega)
 rw[ab,dF] at h4
 exact h4
theorem iteN {A B:Prop}{c:Bool}(hc:c=false)(h:B):if c=true then A else B:=by
 rw[hc]
 exact iteF h
abbrev leI:Int->Int->Bool:=fun a b=>decide (a<=b)
def srt (l:List Int):List Int:=l.mergeSort leI
theorem jT (l:List Int):(srt l).Perm l:=List.mergeSort_perm _ _
theorem jGB (l:List Int):(srt l).Pairwise (· <= ·):=by
 have:=List.pairwise_mergeSort (le:=leI) (fun a b c h1 h2=>aK (cN (aR h1) (aR h2))) (fun a b=>by
  rw[Bool.or_eq_true]
  rcases Int.le_total a b with h | h
  ·exact .inl (aK h)
  ·exact .inr (aK h)) l
 exact this.imp fun h=>aR h
theorem jEH {l m:List Int}(h1:m.Pairwise (· <= ·))(h2:m.Perm l):m=srt l:=
 List.Perm.eq_of_pairwise (fun a b _ _ h1 h2=>Int.le_antisymm h1 h2) h1 (jGB l) (h2.trans (jT l).symm)
theorem jDO (l:List Int):(srt l).length=l.length:=(jT l).length_eq
section
variable {P:Program}{w:World}{K:W.Frag}{mg:Str->Option Value}{base:Heap}
variable {f fM:Addr}{fdM:FuncData}{cdv:Value}{A:Around}{outer:List Env}{s:Shared}{H0:Hp}{E:XK}
noncomputable abbrev nMask:List Str:=["lot"]
theorem scMask:FnScope nMask ["lot"] (j5 sMask):=⟨rfl,rfl,rfl,by decide+kernel,rfl,by decide+kernel,by decide+kernel⟩
def jEJ:Sp:=fun vs H Q _=>∃ (q:Addr) (ts:List Int),vs=[.ref q]/\H q=some (.tup (ts.map V.int))/\(∀ t∈ts,0<=t/\t<64)/\ts.length<=64/\∀ H',Ext H H'->Q (.int ((maskN ts:Nat):Int)) H'
def maskA (T:Txt mg): { t:TS // JSs (XOf nMask "mask_of" sMask P w K mg base f cdv A outer s H0 E) (jB sMask) t} :=
 have nd:=scMask.nd
 ⟨_,(jD (kQ (jG (jF6 rfl) gD T.sum (by decide+kernel) (j3 (yE (m:=[none]) (Nc:=["thing"]) rfl (jF1 (jv 0 rfl vL)) rfl (by decide+kernel) (by decide+kernel) (jZ (psc:=j5 sMask) (by decide+kernel)) (jO (N:=nMask) rfl rfl (by decide+kernel)) (fun cl C fp s H=>jH (i:=0) (show (["thing"]:List Str).Nodup by decide+kernel) rfl (yU (by decide+kernel))) (fun cl C fp s H=>kU) (fun cl C fp s H=>(jK jI8 (je_int) (jv 0 rfl (kJ (by decide+kernel))))) jAH) j7 jS) jS)))⟩
theorem jH4 (ts:List Int)(h:∀ t∈ts,0<=t):(ts.map fun t=>(1:Int)*2 ^ t.toNat).sum=((maskN ts:Nat):Int):=by
 induction ts with
 | nil=>rfl
 | cons t r ih=>
  have e:maskN (t::r)=2 ^ t.toNat+maskN r:=by simp [maskN]
  rw[bq,dh,ih fun x hx=>h x (ay _ hx),e]
  push_cast
  omega
theorem jN4 {fd:FuncData}(F:Fun K "mask_of" "mask_of" sMask f fd)(T:Txt mg):FnOk P w K mg base CX0 1 f fd ["lot"] jEJ:=by
 refine F.ok scMask (fun vs H Q E h=>?_) (fun cdv A outer s H vs Q E hr h=>?_)
 ·obtain⟨_,_,rfl,_⟩:=h
  rfl
 ·obtain⟨q,ts,rfl,hq,hb,hl,k⟩:=h
  refine⟨_,(maskA T).2.h,?_⟩
  refine⟨_,rfl,q,rfl,⟨_,SqT.of hq⟩,jE6 (xs:=ts.map V.int) (by rw[ab,aL]; omega) (fun D i σ' H' zs=>(∃ v,σ'=[v])/\Ext H H'/\H' D=some (.lst zs)/\H D=none/\zs=((ts.take i).map fun t=>(1:Int)*2 ^ t.toNat).map V.int) ?_ ?_ ?_ ?_⟩
  ·intro D hD
   exact⟨⟨_,rfl⟩,(Ext.refl _).new hD _,j6,hD,rfl⟩
  ·rintro D i σ' H' zs hD ⟨_,e,h2,_,rfl⟩
   refine⟨e _ _ hq,h2,?_⟩
   rw[ab,ab,aU]
   omega
  ·rintro D i σ' H' zs x hD hx ⟨⟨v,rfl⟩,e,h2,hn,rfl⟩
   obtain⟨z,hz,rfl⟩:∃ z:Int,ts[i]?=some z/\V.int z=x:=by
    rw[aO] at hx
    cases hq:ts[i]? with
    | none=>rw[hq] at hx; cases hx
    | some z=>rw[hq] at hx; cases hx; exact⟨z,rfl,rfl⟩
   have hzb:=hb z (ak hz)
   dsimp only [jV,yN]
   rw[ao rfl]
   refine⟨_,rfl,_,_,rfl,rfl,⟨?_,?_,?_⟩,h2,⟨_,rfl⟩,e.updNew hn _,j6,hn,?_⟩
   ·first | omega | decide
   ·first | omega | decide
   ·first | omega | decide
   ·have:ts.take (i+1)=ts.take i++[z]:=by
     rw[br,hz]
     rfl
    rw[this,aQ,aQ]
    rfl
  ·rintro D σ' H' zs hD ⟨_,e,h2,hn,rfl⟩
   refine⟨D,_,rfl,SqL.of h2,?_⟩
   rw[ab,bK,jH4 ts fun t ht=>(hb t ht).1]
   exact k H' e
end
end Eo
end
section
namespace L2
open PySem
theorem jIY {X:Cx}{a b c:Expr}{pos:Pos}{ta tb:TE}{tc:TT}(hc:JT X c tc)(ha:JE X a ta)(hb:JE X b tb):JE X (.IfExp c a b pos) (tIf tc ta tb):=⟨jK9 hc.h ha.h hb.h⟩
theorem jOG {a b c:Expr}{pos:Pos}{es:List Expr}{env:Env} :starEach (.IfExp c a b pos::es) env=(false,eval (.IfExp c a b pos) env)::starEach es env:=rfl
end L2
namespace Eo
open PySem L2
def PrAt (H:Hp)(v:V)(c:Int×Nat):Prop:=∃ q,v= .ref q/\H q=some (.tup [.int c.1, .int ((c.2:Nat):Int)])
theorem PrAt.mono {H H':Hp}(t:Tups H H'){v:V}{c:Int×Nat}(h:PrAt H v c):PrAt H' v c:=let ⟨q,e,z⟩:=h; ⟨q,e,t _ _ z⟩
def RowAt (H:Hp)(l:Addr)(cs:List (Int×Nat)):Prop:=∃ vs,H l=some (.lst vs)/\All2 (PrAt H) vs cs
structure ChAt (H:Hp)(L:Addr)(ch:Ch):Prop where
 ex:∃ ls:List Addr,H L=some (.lst (ls.map V.ref))/\ls.Nodup/\All2 (RowAt H) ls ch
theorem RowAt.keep {H H':Hp}{l:Addr}{cs:List (Int×Nat)}(h:RowAt H l cs)(k:∀ xs,H l=some (.lst xs)->H' l=some (.lst xs))(t:Tups H H'):RowAt H' l cs:=let ⟨vs,a,b⟩:=h; ⟨vs,k _ a,b.imp fun _ _=>PrAt.mono t⟩
theorem ChAt.keep {H H':Hp}{L:Addr}{ch:Ch}(h:ChAt H L ch)(k:∀ b xs,H b=some (.lst xs)->H' b=some (.lst xs))(t:Tups H H'):ChAt H' L ch:=by
 obtain⟨ls,a,b,c⟩:=h.ex
 exact⟨ls,k _ _ a,b,c.imp fun l cs r=>r.keep (k l) t⟩
theorem ChAt.ext {H H':Hp}{L:Addr}{ch:Ch}(h:ChAt H L ch)(e:Ext H H'):ChAt H' L ch:=h.keep (fun b xs z=>e _ _ z) e.tups
theorem ChAt.len {H:Hp}{L:Addr}{ch:Ch}(h:ChAt H L ch):∃ ls:List Addr,H L=some (.lst (ls.map V.ref))/\ls.length=ch.length:=by
 obtain⟨ls,a,b,c⟩:=h.ex
 exact⟨ls,a,c.len⟩
def yI (ms:List Int)(pcs:List (List Int×Int))(n t:Nat):List (Int×Nat):=
 (if (t:Int)∈ms then [(-1,2 ^ t)] else [])++(((upto pcs.length).take n).filter fun k=>decide ((j9 pcs k).headD 0=(t:Int))).map fun k=>(k,maskN (j9 pcs k))
def chsN (w:Nat)(ms:List Int)(pcs:List (List Int×Int))(n:Nat):Ch:=(List.range w).map (yI ms pcs n)
def chs (w:Nat)(ms:List Int)(pcs:List (List Int×Int)):Ch:=chsN w ms pcs pcs.length
theorem jA7 (w:Nat)(ms:List Int)(pcs:List (List Int×Int))(n:Nat):(chsN w ms pcs n).length=w:=by
 unfold chsN
 rw[ab,dF]
theorem jAB {w:Nat}{ms:List Int}{pcs:List (List Int×Int)}{n t:Nat}(h:t<w):(chsN w ms pcs n)[t]?=some (yI ms pcs n t):=by
 unfold chsN
 rw[aO,fb h]
 rfl
theorem jEV {ts:List Int}{t:Nat}(hp:ts.Pairwise (· < ·))(h0:∀ x∈ts,0<=x)(h:(t:Int)∈ts):(maskN ts).testBit t=true:=by
 rw[jBH ts t hp h0,aK h]
theorem jFU {ts:List Int}{w:Nat}(hp:ts.Pairwise (· < ·))(h0:∀ x∈ts,0<=x/\x<(w:Int)):maskN ts<2 ^ w:=by
 refine Nat.lt_pow_two_of_testBit _ fun i hi=>?_
 rw[jBH ts i hp fun x hx=>(h0 x hx).1,aM]
 intro z
 have:=(h0 _ z).2
 omega
theorem jGO {l:List Int}(h:l≠ []):l.headD 0∈l:=by
 cases l with
 | nil=>exact absurd rfl h
 | cons a r=>exact aG ..
theorem jDB {w:Int}{ms:List Int}{pcs:List (List Int×Int)}{n:Nat}(g:Good 16 32 w ms pcs):ChOk (chsN w.toNat ms pcs n):=by
 have w0:=g.w0
 have w1:=g.w1
 have gpl:=g.pl
 refine⟨by rw[jA7]; omega,fun t cs h=>?_,fun t cs h c hc=>?_⟩
 ·have ht:t<w.toNat:=by
   have:=(af.mp h).1
   rwa [jA7] at this
  rw[jAB ht] at h
  cases h
  unfold yI
  rw[aj,ab]
  have:=dD (fun k=>decide ((j9 pcs k).headD 0=(t:Int))) ((upto pcs.length).take n)
  have:=cK n (upto pcs.length)
  have:=jA5 pcs.length
  have:((upto pcs.length).take n).length<=(upto pcs.length).length:=by rw[aU]; omega
  split <;> simp only [aZ,dB] <;> omega
 ·have ht:t<w.toNat:=by
   have:=(af.mp h).1
   rwa [jA7] at this
  rw[jAB ht] at h
  cases h
  unfold yI at hc
  rw[jA7]
  rcases aq.mp hc with hc | hc
  ·split at hc
   ·rw[ah] at hc
    subst hc
    exact⟨by simp [dm],gK (by decide) ht,by show (-1:Int)<= -1; decide,by show (-1:Int)<32; decide⟩
   ·cases hc
  ·obtain⟨k,hk,rfl⟩:=aN.mp hc
   obtain⟨hk1,hk2⟩:=bU.mp hk
   have kb:=(jC2 pcs.length).bnd k (cE hk1)
   have gp:=g.at (k:=k.toNat) (by omega)
   have hk2:=aR hk2
   have hne:j9 pcs k≠ []:=gp.lot.ne
   have hm:(t:Int)∈j9 pcs k:=by
    rw[<- hk2]
    exact jGO hne
   exact⟨jEV gp.lot.ris (fun x hx=>(gp.lot.bnd x hx).1) hm,jFU gp.lot.ris fun x hx=>⟨(gp.lot.bnd x hx).1,by have:=(gp.lot.bnd x hx).2; omega⟩,by omega,by omega⟩
section
variable {P:Program}{w:World}{K:W.Frag}{mg:Str->Option Value}{base:Heap}
variable {f fM:Addr}{fdM:FuncData}{cdv:Value}{A:Around}{outer:List Env}{s:Shared}{H0:Hp}{E:XK}
abbrev jAX:List Str:=["box","choices","number","piece"]
theorem scChoices:FnScope jAX ["box"] (j5 jW):=⟨rfl,rfl,rfl,by decide+kernel,rfl,by decide+kernel,by decide+kernel⟩
def jBD:Sp:=fun vs H Q _=>∃ (b:Addr) (w:Int) (ms:List Int) (pcs:List (List Int×Int)),vs=[.ref b]/\BoxAt H b w ms pcs/\Good 16 32 w ms pcs/\∀ r H',ChAt H' r (chs w.toNat ms pcs)->Ext H H'->Q (.ref r) H'
def jNY (T:Txt mg)(CM:Can P w K mg base "mask_of" 1 fM fdM ["lot"] jEJ)(hr:Room 1 (XOf jAX "choices_of" jW P w K mg base f cdv A outer s H0 E).A): { t:TS // JSs (XOf jAX "choices_of" jW P w K mg base f cdv A outer s H0 E) (yL ((jB jW).getD 1 (.Pass ⟨0,0,0,0⟩))) t} :=
 have nd:=scChoices.nd
 ⟨_,(jD (jB8 (je_bm bi di dk jAQ (jP jAG (jv 1 rfl vL) (jP kG (jP kG (jv 3 rfl vL) (je_int) jE) (je_int) jE) jOK) (j3 (kR (j3 (jv 2 rfl vL) (j3 (CM.je hr gD (j3 (jP kG (jv 3 rfl vL) (je_int) jE) j7 kB) kB) j7 jQ) j4)) j7 yP) yP) kI))⟩
def jL5 (T:Txt mg)(CM:Can P w K mg base "mask_of" 1 fM fdM ["lot"] jEJ)(hr:Room 1 (XOf jAX "choices_of" jW P w K mg base f cdv A outer s H0 E).A): { t:TS // JSs (XOf jAX "choices_of" jW P w K mg base f cdv A outer s H0 E) (jB jW) t} :=
 have nd:=scChoices.nd
 ⟨_,(jA (jE0 (i:=1) nd rfl lL ⟨by rfl⟩ (m:=[none,some 0]) (Nc:=["thing","box"]) rfl (jAE gD T.range (j3 (jP kG (jv 0 rfl vC) (je_int) jE) j7 kB) kB) rfl (by decide+kernel) (by decide+kernel) (jZ (psc:=j5 jW) (by decide+kernel)) (jO (N:=jAX) rfl rfl (by decide+kernel)) (fun cl C fp s H=>jH (i:=0) (show (["thing","box"]:List Str).Nodup by decide+kernel) rfl (yU (by decide+kernel))) (fun cl C fp s H=>kU) (fun cl C fp s H=>(jIY (jN jIB (jv 0 rfl (kJ (by decide+kernel))) (jP jA9 (jv 1 rfl (kW (by decide+kernel))) (je_int) jE) jIH) (kZ (j3 (kR (j3 (je_un jO7 (je_int)) (j3 (jK jI8 (je_int) (jv 0 rfl (kJ (by decide+kernel)))) j7 kN) se_un)) j7 yP)) (kZ j7))) y6) (jA (jB4 bN rfl (jNI gD T.enumerate (j3 (jP kG (jv 0 rfl vC) (je_int) jE) j7 kB) kB) (jE2 (i:=2) (j:=3) nd rfl rfl (by decide+kernel) (by decide+kernel)) (jNY T CM hr).2 y6) (jD (kQ (jv 1 rfl vL)))))⟩
noncomputable abbrev nFull:List Str:=["choices"]
theorem scFull:FnScope nFull ["choices"] (j5 sFull):=⟨rfl,rfl,rfl,by decide+kernel,rfl,by decide+kernel,by decide+kernel⟩
def jD3:Sp:=fun vs H Q _=>∃ (L:Addr) (ch:Ch),vs=[.ref L]/\ChAt H L ch/\ch.length<=16/\Q (.int ((fullN ch:Nat):Int)) H
def fullA (T:Txt mg): { t:TS // JSs (XOf nFull "full_mask" sFull P w K mg base f cdv A outer s H0 E) (jB sFull) t} :=
 have nd:=scFull.nd
 ⟨_,(jD (kQ (jK jBG (jK jI8 (je_int) (jG jA0 gD T.len (by decide+kernel) (j3 (jv 0 rfl vL) j7 j4) j4)) (je_int))))⟩
noncomputable abbrev nAt:List Str:=["choices","mask","least_lacked"]
theorem scAt:FnScope nAt ["choices","mask"] (j5 sAt):=⟨rfl,rfl,rfl,by decide+kernel,rfl,by decide+kernel,by decide+kernel⟩
def spAt:Sp:=fun vs H Q _=>∃ (L:Addr) (ch:Ch) (m:Nat),vs=[.ref L, .int (m:Int)]/\ChAt H L ch/\ChOk ch/\m<2 ^ ch.length/\m≠fullN ch/\∀ r H',RowAt H' r (chAt ch m)->Ext H H'->H r=none->Q (.ref r) H'
def atA (T:Txt mg): { t:TS // JSs (XOf nAt "choices_at" sAt P w K mg base f cdv A outer s H0 E) (jB sAt) t} :=
 have nd:=scAt.nd
 ⟨_,(jA (jL (i:=2) nd rfl lL (jK jBG (jLS PySem.F.plainAttrs_int PySem.F.slot_int_bit_length PySem.F.type_int_bit_length jNB (jK jLO (je_un jO8 (jv 1 rfl vC)) (jK kP (jv 1 rfl vC) (je_int)))) (je_int)) jCG)
   (jD (kQ (yE (m:=[none,some 1]) (Nc:=["choice","mask"]) rfl (yD (jP jAG (jv 0 rfl vL) (jv 2 rfl vL) jB5)) rfl (by decide+kernel) (by decide+kernel) (jZ (psc:=j5 sAt) (by decide+kernel)) (jO (N:=nAt) rfl rfl (by decide+kernel)) (fun cl C fp s H=>jH (i:=0) (show (["choice","mask"]:List Str).Nodup by decide+kernel) rfl (yU (by decide+kernel))) (fun cl C fp s H=>jIR (jN op_eq (jK jLO (jP jA9 (jv 0 rfl (kJ (by decide+kernel))) (je_int) jE) (jv 1 rfl (kW (by decide+kernel)))) (je_int) (jU _))) (fun cl C fp s H=>(jv 0 rfl (kJ (by decide+kernel)))) jLU))))⟩
theorem jDC (ms:List Int)(pcs:List (List Int×Int))(t:Nat):yI ms pcs 0 t=if (t:Int)∈ms then [(-1,2 ^ t)] else []:=by
 unfold yI
 rw[fo]
 simp
theorem jJN {w n:Nat}{ms:List Int}{pcs:List (List Int×Int)}(hn:n<pcs.length)(t:Nat)(ht:(j9 pcs (n:Int)).headD 0=(t:Int)):chsN w ms pcs (n+1)=(chsN w ms pcs n).set t (yI ms pcs n t++[((n:Int),maskN (j9 pcs n))]):=by
 have key:∀ u,yI ms pcs (n+1) u=yI ms pcs n u++if u=t then [((n:Int),maskN (j9 pcs n))] else []:=fun u=>by
  unfold yI
  rw[jEE hn,dy,aQ,aI]
  congr 2
  rw[dO,ht]
  by_cases hu:u=t
  ·subst hu
   rw[ao (aK rfl),ao rfl]
   rfl
  ·rw[ax (by rw[bo]; omega),ax hu]
   rfl
 refine fD fun i=>?_
 rw[List.getElem?_set,jA7]
 by_cases hi:i<w
 ·rw[jAB hi,jAB hi,key]
  by_cases h:t=i
  ·subst h
   rw[ao rfl,ao rfl,ao hi]
  ·rw[ax h,ax (fun z=>h z.symm),aW]
 ·rw[cC (by rw[jA7]; omega),cC (by rw[jA7]; omega)]
  split
  ·rw[ax (by omega)]
  ·rfl
theorem ChAt.app {H:Hp}{L:Addr}{ch:Ch}{t:Nat}{l:Addr}{ls:List Addr}{vs:List V}{cs:List (Int×Nat)}{v:V}{c:Int×Nat}(hL:H L=some (.lst (ls.map V.ref)))(nd:ls.Nodup)(al:All2 (RowAt H) ls ch)(hl:ls[t]?=some l)(hc:ch[t]?=some cs)(hv:H l=some (.lst vs))(av:All2 (PrAt H) vs cs)(pv:PrAt H v c)(ne:l≠L):
  (L2.upd H l (.lst (vs++[v]))) L=some (.lst (ls.map V.ref))/\All2 (RowAt (L2.upd H l (.lst (vs++[v])))) ls (ch.set t (cs++[c])):=by
 have tu:Tups H (L2.upd H l (.lst (vs++[v]))):=Tups.upd hv _
 refine⟨by rw[j8 ne.symm]; exact hL,?_⟩
 refine All2.of_get (by rw[List.length_set]; exact al.len) fun i a b h1 h2=>?_
 rw[List.getElem?_set] at h2
 by_cases hi:t=i
 ·subst hi
  rw[ao rfl,ao (af.mp hc).1] at h2
  cases h2
  rw[hl] at h1
  cases h1
  exact⟨_,j6,(av.imp fun _ _=>PrAt.mono tu).snoc (pv.mono tu)⟩
 ·rw[ax hi] at h2
  obtain⟨b',hb',r⟩:=al.get' h1
  rw[h2] at hb'
  cases hb'
  refine r.keep (fun xs hx=>?_) tu
  rw[j8 fun z=>hi ?_]
  ·exact hx
  ·exact(List.getElem?_inj (af.mp hl).1 nd).mp (by rw[hl,h1,z])
theorem jH1 {fd:FuncData}(F:Fun K "choices_of" "choices_of" jW f fd)(T:Txt mg)(CM:Can P w K mg base "mask_of" 1 fM fdM ["lot"] jEJ):FnOk P w K mg base CX0 2 f fd ["box"] jBD:=by
 refine F.ok scChoices (fun vs H Q E h=>?_) (fun cdv A outer s H vs Q E hr h=>?_)
 ·obtain⟨_,_,_,_,rfl,_⟩:=h
  rfl
 ·obtain⟨b,w,ms,pcs,rfl,hB,g,q⟩:=h
  refine⟨_,(jL5 T CM hr).2.h,?_⟩
  obtain⟨qm,qp,ps,b1,b2,b3,b4⟩:=id hB.ex
  have pl:=b4.len
  have w0:=g.w0
  have w1:=g.w1
  have gpl:=g.pl
  refine⟨_,rfl,b,_,0,_,rfl,rfl,SqT.of b1,rfl,w,rfl,by omega,by omega,jE7 (n:=w.toNat) (by rw[aL]; omega) (fun D i σ' H' zs=>(∃ v,σ'=[v,some (.ref b)])/\Ext H H'/\H' D=some (.lst zs)/\H D=none/\∃ ls:List Addr,zs=ls.map V.ref/\ls.Nodup/\D∉ls/\(∀ a∈ls,H a=none)/\All2 (RowAt H') ls ((List.range i).map (yI ms pcs 0))) ?_ ?_ ?_ ?_⟩
  ·intro D hD
   exact⟨⟨_,rfl⟩,(Ext.refl _).new hD _,j6,hD,[],rfl,ft,by simp,by simp,trivial⟩
  ·rintro D i σ' H' zs hD hi ⟨_,e,h2,_,ls,rfl,_,_,_,al⟩
   refine⟨h2,?_⟩
   rw[ab,al.len,ab,dF]
   omega
  ·rintro D i σ' H' zs hD hi ⟨⟨v,rfl⟩,e,h2,hn,ls,rfl,nd,hDl,nol,al⟩
   dsimp only [jV,yN]
   rw[ao rfl]
   have e0:(0+(i:Int))=(i:Int):=by omega
   have key:∀ (l:Addr) (H2:Hp),Ext H' H2->H' l=none->RowAt H2 l (yI ms pcs 0 i)->H2 D=some (.lst (ls.map V.ref))/\((∃ v,[some (V.int (i:Int)),some (.ref b)]=[v,some (.ref b)])/\Ext H (L2.upd H2 D (.lst (ls.map V.ref++[.ref l])))/\(L2.upd H2 D (.lst (ls.map V.ref++[.ref l]))) D=some (.lst (ls.map V.ref++[.ref l]))/\H D=none/\∃ ls':List Addr,ls.map V.ref++[.ref l]=ls'.map V.ref/\ls'.Nodup/\D∉ls'/\(∀ a∈ls',H a=none)/\All2 (RowAt (L2.upd H2 D (.lst (ls.map V.ref++[.ref l])))) ls' ((List.range (i+1)).map (yI ms pcs 0))):=fun l H2 e2 nl rl=>by
    have hD2:=e2 _ _ h2
    have lD:l≠D:=fun z=>by rw[z,h2] at nl; cases nl
    have tu:Tups H2 (L2.upd H2 D (.lst (ls.map V.ref++[.ref l]))):=Tups.upd hD2 _
    have kp:∀ a xs,a≠D->H2 a=some (.lst xs)->(L2.upd H2 D (.lst (ls.map V.ref++[.ref l]))) a=some (.lst xs):=fun a xs ha h=>by rw[j8 ha]; exact h
    refine⟨hD2,⟨_,rfl⟩,(e.trans e2).updNew hn _,j6,hn,ls++[l],by rw[aQ]; rfl,?_,?_,?_,?_⟩
    ·rw[db]
     refine⟨nd,by simp,fun a ha b hb z=>?_⟩
     rw[ah] at hb
     subst hb z
     obtain⟨j,hj⟩:=ce ha
     obtain⟨cs,_,vs,r,_⟩:=al.get' hj
     rw[nl] at r
     cases r
    ·rw[aq,ah]
     rintro (z | z)
     ·exact hDl z
     ·exact lD z.symm
    ·intro a ha
     rcases aq.mp ha with z | z
     ·exact nol a z
     ·rw[ah] at z
      subst z
      cases y:H a with
      | none=>rfl
      | some o=>rw[e _ _ y] at nl; cases nl
    ·rw[gx,aQ]
     refine(All2.of_get al.len fun j a c h1 h2'=>?_).snoc (rl.keep (fun xs=>kp l xs lD) tu)
     obtain⟨c',hc',r⟩:=al.get' h1
     rw[h2'] at hc'
     cases hc'
     have aD:a≠D:=fun z=>hDl (z ▸ ak h1)
     exact r.keep (fun xs hx=>kp a xs aD (e2 _ _ hx)) (e2.tups.trans tu)
   refine⟨_,rfl,_,rfl,b,_,1,_,rfl,rfl,SqT.of (e _ _ b1),rfl,qm,_,rfl, .inr (SqT.of (e _ _ b2)),rfl,jCV ms,_,rfl,?_⟩
   rw[e0,jE5]
   refine ite2 (fun hz=>?_) (fun hz=>?_)
   ·have hz:=aR hz
    refine⟨_,rfl,_,rfl,_,_,rfl,rfl,⟨by omega,by omega,by decide⟩,by show (2:Nat)<=_; decide,fun r H2 d2 e2=>⟨by show (1:Nat)<=_; decide,fun l H3 d3 e3 n3=>?_⟩⟩
    have nl:H' l=none:=by
     cases z:H' l with
     | none=>rfl
     | some o=>rw[e2 _ _ z] at n3; cases n3
    refine key l H3 (e2.trans e3) nl ⟨_,d3,?_⟩
    rw[jDC,ao hz]
    refine⟨⟨r,rfl,?_⟩,trivial⟩
    have:(1:Int)*2 ^ (i:Int).toNat=((2 ^ i:Nat):Int):=by
     rw[bL]
     push_cast
     omega
    rw[e3 _ _ d2]
    show some (HO.tup [V.int (-1),V.int ((1:Int)*2 ^ (i:Int).toNat)])=_
    rw[this]
   ·refine⟨by show (0:Nat)<=_; decide,fun l H3 d3 e3 n3=>?_⟩
    refine key l H3 e3 n3 ⟨_,d3,?_⟩
    rw[jDC,ax (fun z=>hz (aK z))]
    trivial
  ·rintro D σ' H1 zs hD ⟨_,e1,h2,hn,ls,rfl,nd,hDl,nol,al⟩
   refine⟨_,rfl,b,_,2,_,rfl,rfl,SqT.of (e1 _ _ b1),rfl,true,qp,rfl,⟨_,SqT.of (e1 _ _ b3)⟩,jKX (tp:=true) (xs:=ps) (fun i σ H'=>(∃ v2 v3,σ=[some (.ref b),some (.ref D),v2,v3])/\Ext H H'/\H' D=some (.lst (ls.map V.ref))/\All2 (RowAt H') ls (chsN w.toNat ms pcs i)) ⟨⟨_,_,rfl⟩,e1,h2,al⟩ (fun i σ H' ⟨_,e,_⟩=>SqT.of (e _ _ b3)) ?_ ?_⟩
   ·rintro i x t σ H' hx ht ⟨⟨v2,v3,rfl⟩,e,h3,al3⟩
    obtain⟨pc,hpc,hPc⟩:=b4.at hx
    obtain⟨pa,pq,rfl,c1,c2⟩:=id hPc
    have hi:i<pcs.length:=(af.mp hpc).1
    have gp:=g.pg pc (ak hpc)
    have et:j9 pcs (i:Int)=pc.1:=by
     unfold j9
     rw[bL,ar,hpc]
     rfl
    have lt:=jBO _ 0 w gp.lot.ris gp.lot.bnd
    have e':=e.new ht (.tup [.int (i:Int), .ref pa])
    have k':Ext H' (L2.upd H' t (.tup [.int (i:Int), .ref pa])):=(Ext.refl _).new ht _
    refine⟨t,_,rfl,SqT.of j6,rfl,_,_,rfl,_,_,rfl,rfl,?_⟩
    have h5:=k' _ _ h3
    have al5:=al3.imp fun l cs r=>r.keep (fun xs z=>k' _ _ z) k'.tups
    generalize L2.upd H' t (.tup [.int (i:Int), .ref pa])=H5 at e' h5 al5 ⊢
    obtain⟨hd,tl,hp1⟩:∃ hd tl,pc.1=hd::tl:=by
     cases z:pc.1 with
     | nil=>exact absurd z gp.lot.ne
     | cons a r=>exact⟨a,r,rfl⟩
    have hb:=gp.lot.bnd hd (by rw[hp1]; exact aG ..)
    have hdl:(j9 pcs (i:Int)).headD 0=((hd.toNat:Nat):Int):=by
     rw[et,hp1]
     show hd=_
     omega
    have hw:hd.toNat<w.toNat:=by omega
    obtain⟨l,hl,vs,hv,av⟩:=al5.get (jAB hw)
    have lne:l≠D:=fun z=>hDl (z ▸ ak hl)
    have iD:atI (ls.map V.ref) hd=some (.ref l):=by
     have:=yF (xs:=ls.map V.ref) (j:=hd.toNat) (v:= .ref l) (by rw[aO,hl]; rfl)
     rwa [show ((hd.toNat:Nat):Int)=hd by omega] at this
    have c2':H5 pq=some (.tup (pc.1.map V.int)):=e' _ _ c2
    refine⟨_,rfl,_,rfl,pa,_,0,_,rfl,rfl,SqT.of (e' _ _ c1),rfl,pq,_,0, .int hd,rfl,rfl,SqT.of c2',by rw[hp1]; exact yF (j:=0) rfl,D,_,_,_,rfl,rfl,SqL.of h5,iD, .inl ⟨rfl,_,SqL.of hv⟩,_,rfl,_,rfl,pa,_,0,_,rfl,rfl,SqT.of (e' _ _ c1),rfl,pq,pc.1,rfl,c2',fun x hx=>?_,by omega,fun H6 e6=>?_⟩
    ·have:=gp.lot.bnd x hx
     omega
    refine⟨by show (2:Nat)<=_; decide,fun r H7 d7 e7=>?_⟩
    have E7:=e6.trans e7
    have hv7:=E7 _ _ hv
    have vl:vs.length<=33:=by
     rw[av.len]
     exact(jDB g).len _ _ (jAB hw)
    have ap:=ChAt.app (v:= .ref r) (c:=((i:Int),maskN (j9 pcs (i:Int)))) (E7 _ _ h5) nd (al5.imp fun l cs r=>r.keep (fun xs z=>E7 _ _ z) E7.tups) hl (jAB hw) hv7 (av.imp fun _ _=>PrAt.mono E7.tups) ⟨r,rfl,by rw[et]; exact d7⟩ lne
    have nH:H l=none:=by
     cases z:H l with
     | none=>rfl
     | some o=>
      exfalso
      rw[nol l (ak hl)] at z
      cases z
    refine⟨l,_,_,rfl,rfl,hv7,by rw[aL]; omega,⟨_,_,rfl⟩,?_,ap.1,?_⟩
    ·exact(e'.trans E7).updNew nH _
    ·rw[jJN hi hd.toNat hdl]
     exact ap.2
   ·rintro σ H' ⟨⟨v2,v3,rfl⟩,e,h3,al3⟩
    refine⟨_,rfl,q D H' ⟨ls,h3,nd,?_⟩ e⟩
    rw[pl] at al3
    exact al3
theorem jN7 {fd:FuncData}(F:Fun K "full_mask" "full_mask" sFull f fd)(T:Txt mg):FnOk P w K mg base CX0 1 f fd ["choices"] jD3:=by
 refine F.ok scFull (fun vs H Q E h=>?_) (fun cdv A outer s H vs Q E hr h=>?_)
 ·obtain⟨_,_,rfl,_⟩:=h
  rfl
 ·obtain⟨L,ch,rfl,hL,hw,q⟩:=h
  refine⟨_,(fullA T).2.h,?_⟩
  obtain⟨ls,h1,h2⟩:=hL.len
  refine⟨_,rfl,L,_,rfl, .inl (SqL.of h1),_,_,rfl,rfl,⟨?_,?_,?_⟩,_,_,rfl,rfl,?_⟩
  ·first | omega | decide
  ·rw[ab]; omega
  ·first | omega | decide
  ·have e:(1:Int)*2 ^ (((ls.map V.ref).length:Nat):Int).toNat - 1=((fullN ch:Nat):Int):=by
    rw[ab,h2,bL]
    unfold fullN
    have:=dW ch.length
    have e2:((2 ^ ch.length:Nat):Int)=(2:Int) ^ ch.length:=by push_cast; rfl
    omega
   show Q (V.int ((1:Int)*2 ^ (((ls.map V.ref).length:Nat):Int).toNat - 1)) H
   rw[e]
   exact q
theorem ok_at {fd:FuncData}(F:Fun K "choices_at" "choices_at" sAt f fd)(T:Txt mg):FnOk P w K mg base CX0 1 f fd ["choices","mask"] spAt:=by
 refine F.ok scAt (fun vs H Q E h=>?_) (fun cdv A outer s H vs Q E hr h=>?_)
 ·obtain⟨_,_,_,rfl,_⟩:=h
  rfl
 ·obtain⟨L,ch,m,rfl,hL,ok,hm,hf,q⟩:=h
  refine⟨_,(atA T).2.h,?_⟩
  obtain⟨ls,h1,nd,al⟩:=hL.ex
  have hlow:=jD9 hm hf
  have w16:=ok.w
  refine⟨_,rfl,_,rfl,_,rfl,_,_,rfl,rfl,_,_,rfl,rfl,rfl,_,rfl,rfl,_,_,rfl,rfl,?_⟩
  have el:(Builtin.Int.intBits (Builtin.bitAnd (Builtin.bitNot (m:Int)) ((m:Int)+1)):Int) - 1=((lowN m:Nat):Int):=by
   rw[jKK]
   omega
  show jV 2 (V.int ((Builtin.Int.intBits (Builtin.bitAnd (Builtin.bitNot (m:Int)) ((m:Int)+1)):Int) - 1)) _ _ _
  rw[el]
  obtain⟨l,hl,vs,hv,av⟩:=al.get (ai hlow)
  have vl:vs.length<=33:=by
   rw[av.len]
   exact ok.len _ _ (ai hlow)
  have er:ch.getD (lowN m) []=ch[lowN m]:=by
   rw[ar,ai hlow]
   rfl
  refine⟨_,rfl,_,rfl,L,_,_,_,rfl,rfl,SqL.of h1,yF (by rw[aO,hl]; rfl),l,rfl,⟨_,SqL.of hv⟩,jB2 (xs:=vs) (fun σ=>∃ v,σ=[v,some (.int (m:Int))]) (fun H' zs j=>All2 (PrAt H') zs (((ch[lowN m]).take j).filter fun c=>c.2&&&m==0)) ⟨fun H=>trivial,fun H H' zs j t h=>h.imp fun _ _=>PrAt.mono t,fun H zs j h=>?_⟩ hv (by rw[aL]; omega) ⟨_,rfl⟩ ?_ ?_⟩
  ·rw[h.len]
   exact bW (dD _ _) (cK _ _)
  ·rintro j x σ' H' zs hx ⟨v,rfl⟩ e hz R S yes no
   obtain⟨c,hc,qa,rfl,hq⟩:=av.get' hx
   have hq':=e _ _ hq
   have et:(ch[lowN m]).take (j+1)=(ch[lowN m]).take j++[c]:=by
    rw[br,hc]
    rfl
   refine⟨_,rfl,qa,_,1,_,rfl,rfl,SqT.of hq',rfl,_,rfl,_,_,rfl,rfl,rfl,_,rfl,?_⟩
   have ez:decide (V.int (Builtin.bitAnd ((c.2:Nat):Int) (m:Int))=V.int 0)=(c.2&&&m==0):=by
    rw[jHD,cY,bo,g5]
    exact⟨fun h=>by have:=V.int.inj h; omega,fun h=>by rw[h]; rfl⟩
   show if decide (V.int (Builtin.bitAnd ((c.2:Nat):Int) (m:Int))=V.int 0)=true then _ else _
   rw[ez]
   refine ite2 (fun h=>?_) (fun h=>?_)
   ·refine⟨_,rfl,yes _ _ _ ⟨_,rfl⟩ (Ext.refl _) ?_⟩
    show All2 _ _ (((ch[lowN m]).take (j+1)).filter _)
    rw[et,dy,dO,ao h]
    exact hz.snoc ⟨qa,rfl,hq'⟩
   ·refine no _ _ ⟨_,rfl⟩ (Ext.refl _) ?_
    show All2 _ _ (((ch[lowN m]).take (j+1)).filter _)
    rw[et,dy,dO,ax h,List.filter_nil,aW]
    exact hz
  ·rintro D H' zs hD e hn hz
   rw[av.len,bK] at hz
   refine q D H' ⟨zs,hD,?_⟩ e hn
   unfold chAt
   rw[er]
   exact hz
end
end Eo
end
section
namespace L2
open PySem
theorem jHU {ks:List (Option Expr)}{vs:List Expr}{pos:Pos}{o:Option Expr} :SwOk (.Dict ks vs pos) o:=⟨fun _ _=>rfl⟩
end L2
namespace Eo
open PySem L2
abbrev natV (n:Nat):V:= .int (n:Int)
structure MetOk (ch:Ch)(ns:List Nat):Prop where
 zero:0∈ns
 bnd:∀ m∈ns,m<2 ^ ch.length
 up:∀ m∈ns,m≠fullN ch->∀ c∈chAt ch m,(m|||c.2)∈ns
def trK (ks:List Nat):List (Key×V):=ks.map fun (k:Nat)=>(Sum.inl (k:Int),V.bl true)
def jM3:Stmt->List Stmt
 | .While _ b _ _=>b
 | _=> []
theorem jFK (n:Nat):∀ ks:List Nat,valV (trK ks) (.inl (n:Int))=if n∈ks then some (.bl true) else none
 | []=>rfl
 | k::ks=>by
  show valV ((Sum.inl (k:Int),V.bl true)::trK ks) _=_
  by_cases h:k=n
  ·subst h
   rw[jBA rfl,ao (aG ..)]
  ·rw[jAW (by intro z; have:=gE z; omega),jFK n ks]
   by_cases h2:n∈ks
   ·rw[ao h2,ao (ay _ h2)]
   ·rw[ax h2,ax]
    intro z
    rcases aH.mp z with z | z
    ·exact h z.symm
    ·exact h2 z
theorem jNU {H:Hp}{M:Addr}{ks:List Nat}{m c:Nat}(h:H M=some (.dK (trK ks))):DGet H M (.int (Builtin.bitOr (m:Int) (c:Int))) (if (m|||c)∈ks then some (.bl true) else none):=by
 rw[jBK,<- jFK]
 exact DGet.k (k:=Sum.inl (((m|||c:Nat):Nat):Int)) h
theorem jNT {H:Hp}{M:Addr}{ks:List Nat}{m c:Nat}(h:H M=some (.dK (trK ks)))(hn:¬ (m|||c)∈ks)(hl:(trK ks).length<sizeLine):DPut H M (.int (Builtin.bitOr (m:Int) (c:Int))) (.bl true) (L2.upd H M (.dK (trK (ks++[m|||c])))):=by
 rw[jBK]
 have:=DPut.k (k:=Sum.inl (((m|||c:Nat):Nat):Int)) (v:= .bl true) h hl
 rw[jGE _ (by rw[jFK,ax hn])] at this
 unfold trK
 rw[aQ]
 exact this
theorem jAO {n:Nat}{ks:List Nat}(nd:ks.Nodup)(hb:∀ k∈ks,k<n):ks.length<=n:=by
 have:(ks.map fun k:Nat=>(k:Int)).length<=n:=jIG n _ (de.mpr (nd.imp fun h=>by omega)) fun t ht=>by
  obtain⟨k,hk,rfl⟩:=aN.mp ht
  have:=hb k hk
  omega
 rwa [ab] at this
section
variable {P:Program}{w:World}{K:W.Frag}{mg:Str->Option Value}{base:Heap}
variable {f fF fA:Addr}{fdF fdA:FuncData}{cdv:Value}{A:Around}{outer:List Env}{s:Shared}{H0:Hp}{E:XK}
noncomputable abbrev nMet:List Str:=["choices","full","met","waiting","mask","number","more"]
theorem scMet:FnScope nMet ["choices"] (j5 sMet):=⟨rfl,rfl,rfl,by decide+kernel,rfl,by decide+kernel,by decide+kernel⟩
def spMet:Sp:=fun vs H Q _=>∃ (L:Addr) (ch:Ch),vs=[.ref L]/\ChAt H L ch/\ChOk ch/\∀ (r:Addr) (ns:List Nat) (H':Hp),H' r=some (.lst (ns.map natV))->ns.Pairwise (· > ·)->MetOk ch ns->Ext H H'->H r=none->Q (.ref r) H'
def jGL (T:Txt mg)(CA:Can P w K mg base "choices_at" 1 fA fdA ["choices","mask"] spAt)(hr:Room 1 (XOf nMet "masks_met" sMet P w K mg base f cdv A outer s H0 E).A): { t:TS // JSs (XOf nMet "masks_met" sMet P w K mg base f cdv A outer s H0 E) (jM3 ((jB sMet).getD 3 (.Pass ⟨0,0,0,0⟩))) t} :=
 have nd:=scMet.nd
 ⟨_,(jA (jL (i:=4) nd rfl lL (jLS bi PySem.F.slot_list_pop PySem.F.type_list_pop jP7 (jv 3 rfl vL)) kI)
   (jD (yX (jN op_ne (jv 4 rfl vL) (jv 1 rfl vL) (jU _)) (jD (jB4 bN rfl (yD (CA.je hr gD (j3 (jv 0 rfl vL) (j3 (jv 4 rfl vL) j7 j4) j4) j4)) (jE2 (i:=5) (j:=6) nd rfl rfl (by decide+kernel) (by decide+kernel)) (jD (yX (jIZ (hu_of hr) (jK op_or (jv 4 rfl vL) (jv 6 rfl vL)) (jv 2 rfl vL) rfl) (jA (jFW (hu_of hr) (jv 2 rfl vL) (jK op_or (jv 4 rfl vL) (jv 6 rfl vL)) (je_bl) jC3)
   (jD (jB8 (je_bm bi di dk jAQ (jv 3 rfl vL) (j3 (jK op_or (jv 4 rfl vL) (jv 6 rfl vL)) j7 kN) kN) kI))) yC)) y6)) yC)))⟩
def metA (T:Txt mg)(CF:Can P w K mg base "full_mask" 1 fF fdF ["choices"] jD3)(CA:Can P w K mg base "choices_at" 1 fA fdA ["choices","mask"] spAt)(hr:Room 1 (XOf nMet "masks_met" sMet P w K mg base f cdv A outer s H0 E).A): { t:TS // JSs (XOf nMet "masks_met" sMet P w K mg base f cdv A outer s H0 E) (jB sMet) t} :=
 have nd:=scMet.nd
 ⟨_,(jA (jL (i:=1) nd rfl lL (CF.je (hr.mono (by decide)) gD (j3 (jv 0 rfl vL) j7 j4) j4) kI) (jA (jL (i:=2) nd rfl lL (jKN) jHU) (jA (jL (i:=3) nd rfl lL (kZ (j3 (je_int) j7 jR)) jD0) (jA (jKL bN (jN op_gt (jG jA0 gD T.len (by decide+kernel) (j3 (jv 3 rfl vL) j7 j4) j4) (je_int) (jU _)) (jGL T CA hr).2) (jD (kQ (jJ2 (jEA rfl) gD T.sorted (by decide+kernel) (j3 (jv 2 rfl vL) j7 j4) (jNH je_bl jPI) j4)))))))⟩
theorem jKG (T:Txt mg)(CA:Can P w K mg base "choices_at" 1 fA fdA ["choices","mask"] spAt)(hr:Room 1 (XOf nMet "masks_met" sMet P w K mg base f cdv A outer s H0 E).A)
  {D:Ends}{H:Hp}{L M W:Addr}{ch:Ch}{ks ws:List Nat}{m:Nat}{v4 v5 v6:Option V}(hL:ChAt H L ch) (ok:ChOk ch) (hM:H M=some (.dK (trK ks))) (hW:H W=some (.lst ((ws++[m]).map natV))) (nd:ks.Nodup) (hb:∀ k∈ks,k<2 ^ ch.length) (hm:m∈ks) (wln:ws.length<=ks.length)
  (nx:∀ (H':Hp) (new:List Nat) (v4 v5 v6:Option V),(∀ b o,H b=some o->b≠M->b≠W->H' b=some o)->H' M=some (.dK (trK (ks++new)))->H' W=some (.lst ((ws++new).map natV))->(ks++new).Nodup->(∀ k∈ks++new,k<2 ^ ch.length)->(m≠fullN ch->∀ c∈chAt ch m,(m|||c.2)∈ks++new)->D.nx [some (.ref L),some (natV (fullN ch)),some (.ref M),some (.ref W),v4,v5,v6] H'):
  (jGL T CA hr).1 D [some (.ref L),some (natV (fullN ch)),some (.ref M),some (.ref W),v4,v5,v6] H:=by
 have MW:M≠W:=fun z=>by rw[z,hW] at hM; cases hM
 have LW:∀ ls:List Addr,H L=some (.lst (ls.map V.ref))->L≠W:=fun ls h z=>by
  rw[z,hW] at h
  have h:=HO.lst.inj (bg h)
  have h2:natV m∈ls.map V.ref:=by rw[<- h]; simp
  obtain⟨a,_,ha⟩:=aN.mp h2
  cases ha
 have rw':∀ l cs,RowAt H l cs->l≠W:=fun l cs ⟨vs,h1,h2⟩ z=>by
  rw[z,hW] at h1
  have h1:=HO.lst.inj (bg h1)
  have h3:vs[ws.length]?=some (natV m):=by rw[<- h1]; simp
  obtain⟨_,_,q,e,_⟩:=h2.get' h3
  cases e
 have w16:=ok.w
 have hm2:=hb m hm
 have wl:((ws++[m]).map natV)[((ws++[m]).map natV).length - 1]?=some (natV m):=by
  rw[ab,aj,aO,aS (by simp)]
  simp
 have dl:((ws++[m]).map natV).dropLast=ws.map natV:=by
  rw[aQ]
  simp
 refine⟨_,rfl, .inl ⟨rfl,_,SqL.of hW⟩,W,_,_,rfl,rfl,hW,wl,?_⟩
 rw[dl]
 have hM1:(L2.upd H W (.lst (ws.map natV))) M=some (.dK (trK ks)):=by rw[j8 MW]; exact hM
 have hW1:(L2.upd H W (.lst (ws.map natV))) W=some (.lst (ws.map natV)):=j6
 have k1:∀ b o,H b=some o->b≠W->(L2.upd H W (.lst (ws.map natV))) b=some o:=fun b o h n=>by rw[j8 n]; exact h
 have hL1:ChAt (L2.upd H W (.lst (ws.map natV))) L ch:=by
  obtain⟨ls,a1,a2,a3⟩:=hL.ex
  exact⟨ls,k1 _ _ a1 (LW _ a1),a2,a3.imp fun l cs r=>r.keep (fun xs z=>k1 _ _ z (rw' _ _ r)) (Tups.upd hW _)⟩
 generalize L2.upd H W (.lst (ws.map natV))=H1 at hM1 hW1 k1 hL1
 refine⟨_,rfl,_,rfl,rfl,_,rfl,?_⟩
 have nf:(!decide (natV m=natV (fullN ch)))=true↔m≠fullN ch:=by
  rw[fz,dq]
  refine not_congr ⟨fun h=>?_,fun h=>by rw[h]⟩
  have:=V.int.inj h
  omega
 refine ite2 (fun h=>?_) (fun h=>?_)
 ·have h:=nf.mp h
  refine⟨_,rfl,_,rfl,L,ch,m,rfl,hL1,ok,hm2,h,fun r H2 ⟨vs,hr2,av⟩ e2 nr=>?_⟩
  have hM2:=e2 _ _ hM1
  have hW2:=e2 _ _ hW1
  have rW:r≠W:=fun z=>by rw[z,hW1] at nr; cases nr
  have rM:r≠M:=fun z=>by rw[z,hM1] at nr; cases nr
  refine⟨r,rfl,⟨_,SqL.of hr2⟩,jBJ (xs:=vs) (fun i σ H'=>(∃ v5 v6,σ=[some (.ref L),some (natV (fullN ch)),some (.ref M),some (.ref W),some (natV m),v5,v6])/\(∀ b o,H2 b=some o->b≠M->b≠W->H' b=some o)/\∃ new:List Nat,H' M=some (.dK (trK (ks++new)))/\H' W=some (.lst ((ws++new).map natV))/\(ks++new).Nodup/\(∀ k∈ks++new,k<2 ^ ch.length)/\∀ c∈(chAt ch m).take i,(m|||c.2)∈ks++new) ⟨⟨_,_,rfl⟩,fun b o h _ _=>h,[],by rw[aW]; exact hM2,by rw[aW]; exact hW2,by rw[aW]; exact nd,by rw[aW]; exact hb,fun c hc=>by cases hc⟩ (fun i σ H' _ ⟨_,k,_⟩=>SqL.of (k _ _ hr2 rM rW)) ?_ ?_⟩
  ·rintro i x σ H' hx ⟨⟨v5,v6,rfl⟩,k,new,hM',hW',nd',hb',cl⟩
   obtain⟨c,hc,q,rfl,hq⟩:=av.get' hx
   have qM:q≠M:=fun z=>by rw[z,hM2] at hq; cases hq
   have qW:q≠W:=fun z=>by rw[z,hW2] at hq; cases hq
   have hcm:=ak hc
   obtain⟨u1,u2⟩:=ok.up hm2 h hcm
   have tk:(chAt ch m).take (i+1)=(chAt ch m).take i++[c]:=by rw[br,hc]; rfl
   refine⟨q,_,rfl,SqT.of (k _ _ hq qM qW),rfl,_,_,rfl,_,_,rfl,rfl,?_⟩
   refine⟨_,rfl,_,rfl,_,_,rfl,rfl,_,rfl,M,_,rfl,jNU hM',_,rfl,?_⟩
   by_cases hin:(m|||c.2)∈ks++new
   ·rw[ao hin]
    refine iteF ⟨⟨_,_,rfl⟩,k,new,hM',hW',nd',hb',fun c' hc'=>?_⟩
    rw[tk] at hc'
    rcases aq.mp hc' with z | z
    ·exact cl c' z
    ·rw[ah] at z
     rw[z]
     exact hin
   ·rw[ax hin]
    have ndn:(ks++(new++[m|||c.2])).Nodup:=by
     rw[<- aI,db]
     refine⟨nd',by simp,fun a ha b hb z=>?_⟩
     rw[ah] at hb
     exact hin (hb ▸ z ▸ ha)
    have bdn:∀ k∈ks++(new++[m|||c.2]),k<2 ^ ch.length:=fun k hk=>by
     rw[<- aI] at hk
     rcases aq.mp hk with z | z
     ·exact hb' k z
     ·rw[ah] at z
      rw[z]
      exact u2
    have sz:(ks++(new++[m|||c.2])).length<=2 ^ 16:=bW (jAO ndn bdn) (dJ (by decide) w16)
    rw[aj,aj] at sz
    have kl:(trK (ks++new)).length<sizeLine:=by
     unfold trK
     rw[ab,aj,aL]
     simp at sz
     omega
    refine iteT ⟨_,rfl,_,rfl,_,rfl,_,_,rfl,rfl,M,_,rfl,jNT hM' hin kl,?_⟩
    have hW3:(L2.upd H' M (.dK (trK (ks++new++[m|||c.2])))) W=some (.lst ((ws++new).map natV)):=by rw[j8 MW.symm]; exact hW'
    have hM3:(L2.upd H' M (.dK (trK (ks++new++[m|||c.2])))) M=some (.dK (trK (ks++(new++[m|||c.2])))):=by rw[j6,aI]
    have k3:∀ b o,H2 b=some o->b≠M->b≠W->(L2.upd H' M (.dK (trK (ks++new++[m|||c.2])))) b=some o:=fun b o hbo n1 n2=>by rw[j8 n1]; exact k b o hbo n1 n2
    generalize L2.upd H' M (.dK (trK (ks++new++[m|||c.2])))=H3 at hW3 hM3 k3
    refine⟨_,rfl, .inl ⟨rfl,_,SqL.of hW3⟩,_,rfl,_,rfl,_,_,rfl,rfl,W,_,_,rfl,rfl,hW3,?_,⟨_,_,rfl⟩,fun b o hbo n1 n2=>by rw[j8 n2]; exact k3 b o hbo n1 n2,new++[m|||c.2],by rw[j8 MW]; exact hM3,?_,ndn,bdn,fun c' hc'=>?_⟩
    ·skip
     rw[ab,aj,aL]
     simp at sz
     omega
    ·rw[j6]
     show some (HO.lst ((ws++new).map natV++[V.int (Builtin.bitOr (m:Int) (c.2:Int))]))=_
     rw[jBK,<- aI]
     exact bB (fun z=>some (HO.lst z)) (aQ (f:=natV) (l₁:=ws++new) (l₂:=[m|||c.2])).symm
    ·rw[<- aI,aq]
     rw[tk] at hc'
     rcases aq.mp hc' with z | z
     ·exact .inl (cl c' z)
     ·rw[ah] at z
      rw[z]
      exact .inr (ah.mpr rfl)
  ·rintro σ H' ⟨⟨v5,v6,rfl⟩,k,new,hM',hW',nd',hb',cl⟩
   have:(chAt ch m).take vs.length=chAt ch m:=by rw[av.len,bK]
   rw[this] at cl
   exact nx H' new _ _ _ (fun b o hbo n1 n2=>k _ _ (e2 _ _ (k1 _ _ hbo n2)) n1 n2) hM' hW' nd' hb' fun _=>cl
 ·have h:m=fullN ch:=bM fun z=>h (nf.mpr z)
  exact nx H1 [] _ _ _ (fun b o hbo n1 n2=>k1 _ _ hbo n2) (by rw[aW]; exact hM1) (by rw[aW]; exact hW1) (by rw[aW]; exact nd) (by rw[aW]; exact hb) fun z=>absurd h z
theorem jP3 {fd:FuncData}(F:Fun K "masks_met" "masks_met" sMet f fd)(T:Txt mg)(CF:Can P w K mg base "full_mask" 1 fF fdF ["choices"] jD3)(CA:Can P w K mg base "choices_at" 1 fA fdA ["choices","mask"] spAt):FnOk P w K mg base CX0 2 f fd ["choices"] spMet:=by
 refine F.ok scMet (fun vs H Q E h=>?_) (fun cdv A outer s H vs Q E hr h=>?_)
 ·obtain⟨_,_,rfl,_⟩:=h
  rfl
 ·obtain⟨L,ch,rfl,hL,ok,q⟩:=h
  refine⟨_,(metA T CF CA hr).2.h,?_⟩
  have w16:=ok.w
  refine⟨_,rfl,L,ch,rfl,hL,w16,?_⟩
  refine fun M H1 hM1 e1 nM=>?_
  refine⟨by show (1:Nat)<=_; decide,fun W H2 hW2 e2 nW=>?_⟩
  have hM2:=e2 _ _ hM1
  have nW0:H W=none:=by
   cases z:H W with
   | none=>rfl
   | some o=>rw[e1 _ _ z] at nW; cases nW
  have E2:=e1.trans e2
  have pz:(0:Nat)<2 ^ ch.length:=dW _
  refine⟨fun n σ H'=>(∃ v4 v5 v6,σ=[some (.ref L),some (natV (fullN ch)),some (.ref M),some (.ref W),v4,v5,v6])/\Ext H H'/\∃ ks ws:List Nat,n=2*(2 ^ ch.length - ks.length)+ws.length/\H' M=some (.dK (trK ks))/\H' W=some (.lst (ws.map natV))/\ks.Nodup/\(∀ k∈ks,k<2 ^ ch.length)/\(∀ k∈ws,k∈ks)/\ws.length<=ks.length/\0∈ks/\∀ k∈ks,k∉ws->k≠fullN ch->∀ c∈chAt ch k,(k|||c.2)∈ks,⟨_,⟨_,_,_,rfl⟩,E2,[0],[0],rfl,hM2,hW2,by simp,fun k hk=>by rw[ah] at hk; omega,fun k hk=>hk,az _,by simp,fun k h1 h2=>absurd h1 h2⟩,?_⟩
  rintro n σ H' ⟨⟨v4,v5,v6,rfl⟩,e,ks,ws,rfl,hM',hW',nd,hb,sub,wl,z0,cl⟩
  refine⟨_,rfl,W,_,rfl, .inl (SqL.of hW'),_,_,rfl,rfl,_,rfl,?_⟩
  rcases List.eq_nil_or_concat ws with hws | ⟨ws',m,hws⟩
  ·subst hws
   refine iteF ?_
   have ksl:=jAO nd hb
   have p16:2 ^ ch.length<=2 ^ 16:=dJ (by decide) w16
   refine⟨_,rfl,M,trK ks,ks.map fun k:Nat=>(k:Int),true,rfl,rfl,hM',by unfold trK; rw[bY,bY]; rfl,by rw[ab,aL]; omega,fun l ns hl ord pm=>?_⟩
   obtain⟨js,rfl⟩:∃ js:List Nat,ns=js.map fun k:Nat=>(k:Int):=by
    refine⟨ns.map Int.toNat,?_⟩
    rw[bY]
    refine(map_id ns).symm.trans (dR fun x hx=>?_)
    obtain⟨k,_,rfl⟩:=aN.mp (pm.mem_iff.mp hx)
    show ((k:Nat):Int)=(((k:Nat):Int).toNat:Int)
    omega
   have pm':js.Perm ks:=by
    have:=pm.map Int.toNat
    rw[bY,bY] at this
    have e:∀ l:List Nat,l.map (Int.toNat ∘ fun k:Nat=>(k:Int))=l:=fun l=>(dR fun x _=>by show ((x:Nat):Int).toNat=x; omega).trans (map_id l)
    rwa [e,e] at this
   refine q l js _ ?_ ?_ ⟨pm'.mem_iff.mpr z0,fun m hm=>hb m (pm'.mem_iff.mp hm),fun m hm hf c hc=>pm'.mem_iff.mpr (cl m (pm'.mem_iff.mp hm) (by simp) hf c hc)⟩ ((Ext.refl _).trans (e.new hl _)) ?_
   ·rw[j6,bY]
    rfl
   ·have nj:js.Nodup:=pm'.nodup_iff.mpr nd
    have:js.Pairwise (fun (a b:Nat)=>(b:Int)<=(a:Int)):=de.mp ord
    exact(this.and nj).imp fun {a b} h=>by omega
   ·cases z:H l with
    | none=>rfl
    | some o=>rw[e _ _ z] at hl; cases hl
  ·have hws:ws=ws'++[m]:=by rw[hws,List.concat_eq_append]
   subst hws
   have lp:decide ((0:Int)<(((ws'++[m]).map natV).length:Int))=true:=by
    rw[bo,ab,aj]
    show (0:Int)<((ws'.length+1:Nat):Int)
    omega
   show if decide ((0:Int)<(((ws'++[m]).map natV).length:Int))=true then _ else _
   rw[ao lp]
   rw[aj] at wl
   refine⟨fun σ' H''=>(∃ v4 v5 v6,σ'=[some (.ref L),some (natV (fullN ch)),some (.ref M),some (.ref W),v4,v5,v6])/\Ext H H''/\∃ new:List Nat,H'' M=some (.dK (trK (ks++new)))/\H'' W=some (.lst ((ws'++new).map natV))/\(ks++new).Nodup/\(∀ k∈ks++new,k<2 ^ ch.length)/\(m≠fullN ch->∀ c∈chAt ch m,(m|||c.2)∈ks++new),?_,jKG T CA hr (ks:=ks) (ws:=ws') (m:=m) (hL.ext e) ok hM' hW' nd hb (sub m (by simp)) (by omega) ?_⟩
   ·rintro σ' H'' ⟨hσ,e',new,a1,a2,a3,a4,a5⟩
    have sl:=jAO a3 a4
    rw[aj] at sl
    refine⟨_,?_,hσ,e',ks++new,ws'++new,rfl,a1,a2,a3,a4,fun k hk=>?_,?_,aJ _ z0,fun k hk hkw hf c hc=>?_⟩
    ·rw[aj,aj,aj]
     simp only [aZ,dB]
     omega
    ·rcases aq.mp hk with z | z
     ·exact aJ _ (sub k (aJ _ z))
     ·exact aF _ z
    ·rw[aj,aj]
     omega
    ·by_cases hkm:k=m
     ·subst hkm
      exact a5 hf c hc
     ·rcases aq.mp hk with z | z
      ·refine aJ _ (cl k z (fun y=>?_) hf c hc)
       rcases aq.mp y with y | y
       ·exact hkw (aJ _ y)
       ·exact hkm (ah.mp y)
      ·exact absurd (aF _ z) hkw
   ·intro H'' new v4 v5 v6 kp a1 a2 a3 a4 a5
    refine⟨⟨_,_,_,rfl⟩,fun b o hbo=>?_,new,a1,a2,a3,a4,a5⟩
    refine kp b o (e b o hbo) (fun z=>?_) fun z=>?_
    ·rw[z,nM] at hbo; cases hbo
    ·rw[z,nW0] at hbo; cases hbo
end
end Eo
end
section
namespace L2
open PySem
theorem jM6 {x:Str}{pos:Pos}{o:Option Expr} :SwOk (.Name x pos) o:=⟨fun _ _=>rfl⟩
end L2
namespace Eo
open PySem L2
structure HpOk (φ:Hp->Prop):Prop where
 keep:∀ (H H':Hp) (D:Addr) (kvs:List (Key×V)),H D=some (.dK kvs)->(∀ b o,H b=some o->b≠D->H' b=some o)->φ H->φ H'
 ext:∀ H H',Ext H H'->φ H->φ H'
abbrev RepT:=Nat->Hp->V->Prop
def RepOk (R:RepT):Prop:=∀ m v,HpOk fun H=>R m H v
def ItAt (R:RepT)(m:Nat)(H:Hp)(v:V)(c:Int×Nat):Prop:=∃ q u,v= .ref q/\H q=some (.tup [.int c.1,u])/\R (m|||c.2) H u
def jEK (ch:Ch)(R:RepT):Sp:=fun vs H Q _=>∃ (l:Addr) (us:List V) (m:Nat),vs=[.ref l]/\H l=some (.lst us)/\m<2 ^ ch.length/\m≠fullN ch/\All2 (ItAt R m H) us (chAt ch m)/\∀ r H',R m H' r->Ext H H'->Q r H'
def gvs (ns:List Nat)(us:List V):List (Key×V):=(ns.zip us).map fun p:Nat×V=>(Sum.inl (p.1:Int),p.2)
structure GotAt (H:Hp)(r:Addr)(ch:Ch)(R:RepT)(ns:List Nat):Prop where
 ex:∃ us,H r=some (.dK (gvs ns us))/\All2 (fun n u=>R n H u) ns us
theorem jDM {R:Nat->V->Prop} :∀ {ns:List Nat}{us:List V}{n:Nat},All2 R ns us->ns.Nodup->n∈ns->∃ u,valV (gvs ns us) (.inl (n:Int))=some u/\R n u
 | [],_,_,_,_,h=>by cases h
 | k::ns,[],_,h,_,_=>h.elim
 | k::ns,u::us,n,h,nd,hm=>by
  show ∃ x,valV ((Sum.inl (k:Int),u)::gvs ns us) _=_/\_
  by_cases hk:k=n
  ·subst hk
   exact⟨u,jBA rfl,h.1⟩
  ·rw[jAW (by intro z; have:=gE z; omega)]
   rcases aH.mp hm with z | z
   ·exact absurd z.symm hk
   ·exact jDM h.2 (cA.mp nd).2 z
theorem jBB:∀ {ns:List Nat}{us:List V}{n:Nat},n∉ns->valV (gvs ns us) (.inl (n:Int))=none
 | [],_,_,_=>by
  unfold gvs
  rw[List.zip_nil_left]
  rfl
 | k::ns,[],_,_=>rfl
 | k::ns,u::us,n,h=>by
  show valV ((Sum.inl (k:Int),u)::gvs ns us) _=_
  rw[jAW (by intro z; have:=gE z; exact h (by rw[show n=k by omega]; exact aG ..))]
  exact jBB fun z=>h (ay _ z)
theorem jKV {ns:List Nat}{us:List V}{n:Nat}{u:V}(h:ns.length=us.length):gvs (ns++[n]) (us++[u])=gvs ns us++[(Sum.inl (n:Int),u)]:=by
 unfold gvs
 rw[List.zip_append h,aQ]
 rfl
section
variable {P:Program}{w:World}{K:W.Frag}{mg:Str->Option Value}{base:Heap}
variable {f fF fA fM j:Addr}{fdF fdA fdM:FuncData}{cdv:Value}{A:Around}{outer:List Env}{s:Shared}{H0:Hp}{E:XK}{Z:Shared->Hp->Prop}{zh:Hp->Prop}{ch:Ch}{R:RepT}
noncomputable abbrev nGath:List Str:=["choices","at_end","join","full","values","mask"]
theorem scGath:FnScope nGath ["choices","at_end","join"] (j5 yT):=⟨rfl,rfl,rfl,by decide+kernel,rfl,by decide+kernel,by decide+kernel⟩
def jLF (j:Addr)(zh:Hp->Prop)(ch:Ch)(R:RepT):Sp:=fun vs H Q _=>∃ (L:Addr) (ve:V),vs=[.ref L,ve, .ref j]/\ChAt H L ch/\R (fullN ch) H ve/\zh H/\∀ (r:Addr) (ns:List Nat) (H':Hp),GotAt H' r ch R ns->ns.Pairwise (· > ·)->MetOk ch ns->Ext H H'->H r=none->Q (.ref r) H'
def jJB (T:Txt mg)(CA:Can P w K mg base "choices_at" 1 fA fdA ["choices","mask"] spAt)(CJ:Callee P w K mg base Z zh 3 j (jEK ch R))(zs:ZSt Z)(hz:Z s H0)(hr:Room 3 (XOf nGath "gathered" yT P w K mg base f cdv A outer s H0 E).A): { t:TS // JSs (XOf nGath "gathered" yT P w K mg base f cdv A outer s H0 E) (yL ((jB yT).getD 2 (.Pass ⟨0,0,0,0⟩))) t} :=
 have nd:=scGath.nd
 ⟨_,(jD (yX (jN op_eq (jv 5 rfl vC) (jv 3 rfl vL) (jU _)) (jD (jFW (hu_of hr) (jv 4 rfl vC) (jv 5 rfl vC) (jv 1 rfl vL) jM6)) (jD (jFW (hu_of hr) (jv 4 rfl vC) (jv 5 rfl vC) (jKR (j:=2) CJ (hr.mono (by decide)) zs hz rfl rfl vL (j3 (yE (m:=[none,none,some 4,some 5]) (Nc:=["number","more","values","mask"]) rfl (yD (CA.je (hr.mono (by decide)) gD (j3 (jv 0 rfl vL) (j3 (jv 5 rfl vC) j7 j4) j4) j4)) rfl (by decide+kernel) (by decide+kernel) (jZ (psc:=j5 yT) (by decide+kernel)) (jO (N:=nGath) rfl rfl (by decide+kernel)) (fun cl C fp s H=>jCT (i:=0) (j:=1) rfl (show (["number","more","values","mask"]:List Str).Nodup by decide+kernel) rfl rfl (by decide+kernel) (by decide+kernel)) (fun cl C fp s H=>kU) (fun cl C fp s H=>(kR (j3 (jv 0 rfl (kJ (by decide+kernel))) (j3 (jJ0 (hu_of hr) (jv 2 rfl (kW (by decide+kernel))) (jK op_or (jv 3 rfl (kW (by decide+kernel))) (jv 1 rfl (kJ (by decide+kernel)))) jLG) j7 kB) j4))) y6) j7 jS) jS) kI))))⟩
def gathA (T:Txt mg)(CF:Can P w K mg base "full_mask" 1 fF fdF ["choices"] jD3)(CM:Can P w K mg base "masks_met" 2 fM fdM ["choices"] spMet)(CA:Can P w K mg base "choices_at" 1 fA fdA ["choices","mask"] spAt)(CJ:Callee P w K mg base Z zh 3 j (jEK ch R))(zs:ZSt Z)(hz:Z s H0)(hr:Room 3 (XOf nGath "gathered" yT P w K mg base f cdv A outer s H0 E).A): { t:TS // JSs (XOf nGath "gathered" yT P w K mg base f cdv A outer s H0 E) (jB yT) t} :=
 have nd:=scGath.nd
 ⟨_,(jA (jL (i:=3) nd rfl lL (CF.je (hr.mono (by decide)) gD (j3 (jv 0 rfl vL) j7 j4) j4) kI) (jA (jL (i:=4) nd rfl (loc_c (by decide+kernel)) (jKO) jHU) (jA (jB4 bN rfl (yD (CM.je (hr.mono (by decide)) gD (j3 (jv 0 rfl vL) j7 j4) j4)) (jH (i:=5) nd rfl (loc_c (by decide+kernel))) (jJB T CA CJ zs hz hr).2 y6) (jD (kQ (jv 4 rfl vC))))))⟩
theorem jN6 {fd:FuncData}(F:Fun K "gathered" "gathered" yT f fd)(T:Txt mg)(CF:Can P w K mg base "full_mask" 1 fF fdF ["choices"] jD3)(CM:Can P w K mg base "masks_met" 2 fM fdM ["choices"] spMet)(CA:Can P w K mg base "choices_at" 1 fA fdA ["choices","mask"] spAt)(CJ:Callee P w K mg base Z zh 3 j (jEK ch R))(zs:ZSt Z)(zo:HpOk zh)(ro:RepOk R)(ok:ChOk ch):FnZ P w K mg base CX0 Z 4 f fd ["choices","at_end","join"] (jLF j zh ch R):=by
 refine F.okZ scGath (fun vs H Q E h=>?_) (fun cdv A outer s H vs Q E hr hz h=>?_)
 ·obtain⟨_,_,rfl,_⟩:=h
  rfl
 ·obtain⟨L,ve,rfl,hL,he,hzh,q⟩:=h
  refine⟨_,(gathA T CF CM CA CJ zs hz hr).2.h,?_⟩
  have w16:=ok.w
  have p16:2 ^ ch.length<=2 ^ 16:=dJ (by decide) w16
  refine⟨_,rfl,L,ch,rfl,hL,w16,?_⟩
  refine fun D nD=>?_
  have e1:Ext H (L2.upd H D (.dK [])):=(Ext.refl _).new nD _
  have hD1:(L2.upd H D (.dK [])) D=some (.dK []):=j6
  generalize L2.upd H D (.dK [])=H1 at e1 hD1
  refine⟨_,rfl,L,ch,rfl,hL.ext e1,ok,fun r ns H2 hr2 srt mt e2 nr=>?_⟩
  have hD2:=e2 _ _ hD1
  have rD:r≠D:=fun z=>by rw[z,hD1] at nr; cases nr
  have E2:=e1.trans e2
  have nsn:ns.Nodup:=srt.imp fun {a b} h=>by omega
  have nsl:=jAO nsn mt.bnd
  refine⟨r,rfl,⟨_,SqL.of hr2⟩,jBJ (xs:=ns.map natV) (fun i σ H'=>(∃ v5,σ=[some (.ref L),some ve,some (.ref j),some (natV (fullN ch)),some (.ref D),v5])/\(∀ b o,H2 b=some o->b≠D->H' b=some o)/\GotAt H' D ch R (ns.take i)) ⟨⟨_,rfl⟩,fun b o h _=>h,[],hD2,trivial⟩ (fun i σ H' _ ⟨_,k,_⟩=>SqL.of (k _ _ hr2 rD)) ?_ ?_⟩
  ·rintro i x σ H' hx ⟨⟨v5,rfl⟩,k,us,hD',au⟩
   obtain⟨m,hm,rfl⟩:∃ m,ns[i]?=some m/\natV m=x:=by
    rw[aO] at hx
    cases hq:ns[i]? with
    | none=>rw[hq] at hx; cases hx
    | some z=>rw[hq] at hx; cases hx; exact⟨z,rfl,rfl⟩
   have hmn:=ak hm
   have hm2:=mt.bnd m hmn
   have il:i<ns.length:=(af.mp hm).1
   have tk:ns.take (i+1)=ns.take i++[m]:=by rw[br,hm]; rfl
   have kl:(gvs (ns.take i) us).length<sizeLine:=by
    unfold gvs
    rw[ab,List.length_zip,aU,aL]
    omega
   have kH:∀ b o,H b=some o->H' b=some o:=fun b o h=>k _ _ (E2 _ _ h) fun z=>by rw[z,nD] at h; cases h
   have mi:m∉ns.take i:=fun z=>by
    obtain⟨a,ha⟩:=ce z
    have al:a<i:=by have:=(af.mp ha).1; rw[aU] at this; omega
    rw[bO al] at ha
    have:=(List.getElem?_inj (by omega) nsn).mp (ha.trans hm.symm)
    omega
   have fin:∀ (u:V) (H3:Hp),(∀ b o,H' b=some o->H3 b=some o)->R m H3 u->DPut H3 D (natV m) u (L2.upd H3 D (.dK (gvs (ns.take (i+1)) (us++[u]))))/\((∃ v5,[some (V.ref L),some ve,some (.ref j),some (natV (fullN ch)),some (.ref D),some (natV m)]=[some (V.ref L),some ve,some (.ref j),some (natV (fullN ch)),some (.ref D),v5])/\(∀ b o,H2 b=some o->b≠D->(L2.upd H3 D (.dK (gvs (ns.take (i+1)) (us++[u])))) b=some o)/\GotAt (L2.upd H3 D (.dK (gvs (ns.take (i+1)) (us++[u])))) D ch R (ns.take (i+1))):=fun u H3 e3 ru=>by
    have hD3:=e3 _ _ hD'
    have up:∀ b o,H3 b=some o->b≠D->(L2.upd H3 D (.dK (gvs (ns.take (i+1)) (us++[u])))) b=some o:=fun b o h n=>by rw[j8 n]; exact h
    refine⟨?_,⟨_,rfl⟩,fun b o h n=>up b o (e3 _ _ (k b o h n)) n,us++[u],j6,?_⟩
    ·have:=DPut.k (k:=Sum.inl ((m:Nat):Int)) (v:=u) hD3 kl
     rw[jGE _ (jBB mi),<- jKV au.len,<- tk] at this
     exact this
    ·rw[tk]
     refine All2.snoc ?_ ((ro m u).keep _ _ D _ hD3 (by rw[<- tk]; exact up) ru)
     rw[<- tk]
     exact au.imp fun n u h=>(ro n u).keep _ _ D _ hD3 up ((ro n u).ext _ _ e3 h)
   refine⟨_,rfl,_,rfl,rfl,_,rfl,?_⟩
   have ef:decide (natV m=natV (fullN ch))=true↔m=fullN ch:=by
    rw[bo]
    exact⟨fun h=>by have:=V.int.inj h; omega,fun h=>by rw[h]⟩
   refine ite2 (fun h=>?_) (fun h=>?_)
   ·have h:=ef.mp h
    obtain⟨f1,f2⟩:=fin ve H' (fun b o h=>h) (by rw[h]; exact(ro _ _).ext _ _ kH he)
    exact⟨_,rfl,_,rfl,_,rfl,D,_,rfl,f1,f2⟩
   ·have h:m≠fullN ch:=fun z=>h (ef.mpr z)
    refine⟨rfl,_,rfl,_,rfl,L,ch,m,rfl,hL.ext kH,ok,hm2,h,fun r4 H4 ⟨vs4,hr4,av4⟩ e4 n4=>?_⟩
    have hD4:=e4 _ _ hD'
    have vl4:vs4.length<=33:=by
     rw[av4.len]
     have hlow:=jD9 hm2 h
     refine bW (dD _ _) ?_
     rw[ar,ai hlow]
     exact ok.len _ _ (ai hlow)
    refine⟨r4,rfl,⟨_,SqL.of hr4⟩,jB2 (xs:=vs4) (fun σ=>∃ v1 v2,σ=[v1,v2,some (.ref D),some (natV m)]) (fun H' zs t=>All2 (fun v c=>∃ q u,v= .ref q/\H' q=some (.tup [.int c.1,u])/\R (m|||c.2) H4 u) zs ((chAt ch m).take t)) ⟨fun H=>trivial,fun H H' zs t tu hz=>hz.imp fun v c ⟨q,u,a1,a2,a3⟩=>⟨q,u,a1,tu _ _ a2,a3⟩,fun H zs t hz=>?_⟩ hr4 (by rw[aL]; omega) ⟨_,_,rfl⟩ ?_ ?_⟩
    ·rw[hz.len]
     exact cK _ _
    ·rintro t x σ' H5 zs hx ⟨v1,v2,rfl⟩ e5 hz5 S1 S2 yes no
     obtain⟨c,hc,qa,rfl,hq⟩:=av4.get' hx
     have hcm:=ak hc
     obtain⟨u1,u2⟩:=ok.up hm2 h hcm
     have ut:=mt.up m hmn h c hcm
     have up:(m|||c.2)∈ns.take i:=by
      obtain⟨a,ha⟩:=ce ut
      have al:a<i:=by
       refine bM fun z=>?_
       have a1:=(af.mp ha)
       have m1:=(af.mp hm)
       rcases Nat.lt_or_ge i a with y | y
       ·have:=bZ.mp srt i a il a1.1 y
        rw[a1.2,m1.2] at this
        omega
       ·have:a=i:=by omega
        subst this
        rw[hm] at ha
        have:=bg ha
        omega
      exact ak (i:=a) (by rw[bO al]; exact ha)
     obtain⟨u,hu,ru⟩:=jDM au (nsn.sublist (cG _ _)) up
     have et:(chAt ch m).take (t+1)=(chAt ch m).take t++[c]:=by rw[br,hc]; rfl
     have dg:DGet H5 D (.int (Builtin.bitOr (m:Int) (c.2:Int))) (some u):=by
      rw[jBK,<- hu]
      exact DGet.k (k:=Sum.inl (((m|||c.2:Nat):Nat):Int)) (e5 _ _ hD4)
     refine⟨qa,_,rfl,SqT.of (e5 _ _ hq),rfl,_,_,rfl,_,_,rfl,rfl,?_⟩
     dsimp only [yN]
     rw[ao rfl]
     refine⟨_,rfl,_,rfl,_,rfl,_,rfl,_,_,rfl,rfl,D,u,rfl,dg,by show (2:Nat)<=_; decide,fun r6 H6 d6 e6=>yes _ _ _ ⟨_,_,rfl⟩ e6 ?_⟩
     show All2 _ _ ((chAt ch m).take (t+1))
     rw[et]
     exact(hz5.imp fun v c ⟨q,u,a1,a2,a3⟩=>⟨q,u,a1,e6 _ _ a2,a3⟩).snoc ⟨r6,u,rfl,d6,(ro _ _).ext _ _ e4 ru⟩
    ·rintro D7 H7 zs hD7 e7 n7 hz7
     rw[av4.len,bK] at hz7
     refine⟨zo.ext _ _ (fun b o h=>e7 _ _ (e4 _ _ (kH b o h))) hzh,D7,zs,m,rfl,hD7,hm2,h,hz7.imp fun v c ⟨q,u,a1,a2,a3⟩=>⟨q,u,a1,a2,(ro _ _).ext _ _ e7 a3⟩,fun rr H8 r8 e8=>?_⟩
     obtain⟨f1,f2⟩:=fin rr H8 (fun b o h=>e8 _ _ (e7 _ _ (e4 _ _ h))) r8
     exact⟨_,rfl,_,rfl,D,_,rfl,f1,f2⟩
  ·rintro σ H' ⟨⟨v5,rfl⟩,k,got⟩
   rw[ab,bK] at got
   exact⟨_,rfl,q D ns H' got srt mt (fun b o h=>k _ _ (E2 _ _ h) fun z=>by rw[z,nD] at h; cases h) nD⟩
end
end Eo
end
section
namespace L2
open PySem
theorem Callee.mono {P:Program}{w:World}{K:W.Frag}{mg:Str->Option Value}{base:Heap}{Z:Shared->Hp->Prop}{zh:Hp->Prop}{i k:Nat}{a:Addr}{sp:Sp}(C:Callee P w K mg base Z zh i a sp)(h:i<=k):Callee P w K mg base Z zh k a sp:=
 ⟨C.fn,fun A outer s H us vs Q E hr=>C.run A outer s H us vs Q E (hr.mono h)⟩
theorem FnOk.never {P:Program}{w:World}{K:W.Frag}{mg:Str->Option Value}{base:Heap}{CX:CXT}{k:Nat}{f:Addr}{fd:FuncData}{ps:List Str} :FnOk P w K mg base CX k f fd ps (fun _ _ _ _=>False):=
 ⟨fun _ _ _ _ h=>h.elim,fun _ _ _ _ _ _ _ _ _ _ _ _ _ h=>h.elim⟩
end L2
namespace Eo
open PySem L2
theorem got0 {H:Hp}{r:Addr}{ch:Ch}{R:RepT}{ns:List Nat}(g:GotAt H r ch R ns)(nd:ns.Pairwise (· > ·))(m:MetOk ch ns):∃ u,DGet H r (.int 0) (some u)/\R 0 H u:=by
 obtain⟨us,h1,h2⟩:=g.ex
 obtain⟨u,hu,ru⟩:=jDM h2 (nd.imp fun {a b} h=>by omega) m.zero
 refine⟨u,?_,ru⟩
 have:=DGet.k (k:=Sum.inl (0:Int)) h1
 rw[show valV (gvs ns us) (Sum.inl (0:Int))=some u from hu] at this
 exact this
end Eo
end
section
namespace L2
open PySem PySem.Spec PyProof.Rows
end L2
end
section
namespace Eo
open PySem L2
def wJ (l:List (Int×List (List Int))):List (List Int):=l.flatMap fun p=>p.2.map fun x=>if p.1<0 then x else p.1::x
def wk (ch:Ch)(m:Nat):List (List Int):=gv ch [[]] wJ m
theorem jHK (a b:List (Int×List (List Int))):wJ (a++b)=wJ a++wJ b:=List.flatMap_append
theorem jDK (ch:Ch):wk ch (fullN ch)=[[]]:=jNO
theorem jDJ {ch:Ch}{m:Nat}(o:ChOk ch)(h:m<2 ^ ch.length)(hn:m≠fullN ch):wk ch m=wJ ((chAt ch m).map fun c=>(c.1,wk ch (m|||c.2))):=jNN o h hn
theorem jKJ (w:Nat):lowN (2 ^ w - 1)=w:=by
 refine jPA ?_ fun j hj=>?_
 ·rw[ci,aM (by omega)]
 ·rw[ci,aK hj]
theorem jP9 {m c:Nat}(h:c.testBit (lowN m)=true):lowN m<lowN (m|||c):=by
 refine bM fun z=>?_
 have n1:=jCP (m|||c)
 rw[b0] at n1
 rcases Nat.lt_or_ge (lowN (m|||c)) (lowN m) with y | y
 ·rw[jDX m _ y] at n1
  cases n1
 ·rw[show lowN (m|||c)=lowN m by omega,h,ff] at n1
  cases n1
theorem jDL {ch:Ch}(o:ChOk ch){P:Nat->Prop}(h0:P (fullN ch))(hs:∀ m,m<2 ^ ch.length->m≠fullN ch->(∀ c∈chAt ch m,P (m|||c.2))->P m):∀ m,m<2 ^ ch.length->P m:=by
 intro m hm
 generalize hk:fullN ch - m=k
 induction k using strongRecOn generalizing m with
 | _ k ih=>
  by_cases hf:m=fullN ch
  ·rw[hf]
   exact h0
  ·have hlt:m<fullN ch:=by
    unfold fullN at hf ⊢
    omega
   refine hs m hm hf fun c hc=>?_
   obtain⟨u1,u2⟩:=o.up hm hf hc
   exact ih (fullN ch - (m|||c.2)) (by omega) _ u2 rfl
theorem mem_wJ {l:List (Int×List (List Int))}{x:List Int} :x∈wJ l↔∃ p∈l,∃ y∈p.2,x=if p.1<0 then y else p.1::y:=by
 unfold wJ
 rw[List.mem_flatMap]
 refine exists_congr fun p=>gy fun _=>?_
 rw[aN]
 exact exists_congr fun y=>gy fun _=>eq_comm
theorem jLB {ch:Ch}(o:ChOk ch):∀ m,m<2 ^ ch.length->∀ x∈wk ch m,(∀ k∈x,0<=k/\k<32)/\x.length+lowN m<=ch.length:=by
 refine jDL o ?_ ?_
 ·intro x hx
  rw[jDK,ah] at hx
  subst hx
  refine⟨fun k hk=>(by cases hk),?_⟩
  unfold fullN
  rw[jKJ]
  simp
 ·intro m hm hf ih x hx
  rw[jDJ o hm hf] at hx
  obtain⟨p,hp,y,hy,rfl⟩:=mem_wJ.mp hx
  obtain⟨c,hc,rfl⟩:=aN.mp hp
  obtain⟨i1,i2⟩:=ih c hc y hy
  obtain⟨m1,m2,m3,m4,m5⟩:=o.mem hm hf hc
  have lo:=jP9 m1
  dsimp only
  split
  ·exact⟨i1,by omega⟩
  ·refine⟨fun k hk=>?_,by rw[aZ]; omega⟩
   rcases aH.mp hk with z | z
   ·subst z
    omega
   ·exact i1 k z
def cvs (w:Int)(ms:List Int)(pcs:List (List Int×Int)):List (List Int):=(wk (chs w.toNat ms pcs) 0).map srt
theorem jPQ {w:Int}{ms:List Int}{pcs:List (List Int×Int)}{m:Nat}{c:Int×Nat}(hm:m<2 ^ (chs w.toNat ms pcs).length)(hf:m≠fullN (chs w.toNat ms pcs))(hc:c∈chAt (chs w.toNat ms pcs) m):c.1<pcs.length:=by
 have hl:lowN m<w.toNat:=by
  have:=jD9 hm hf
  unfold chs at this
  rwa [jA7] at this
 obtain⟨h1,_⟩:=bU.mp hc
 unfold chs at h1
 rw[ar,jAB hl] at h1
 have h1:c∈yI ms pcs pcs.length (lowN m):=h1
 unfold yI at h1
 rcases aq.mp h1 with z | z
 ·split at z
  ·rw[ah] at z
   rw[z]
   show (-1:Int)<_
   omega
  ·cases z
 ·obtain⟨k,hk,rfl⟩:=aN.mp z
  exact((jC2 pcs.length).bnd k (cE (bU.mp hk).1)).2
end Eo
end
section
namespace L2
open PySem
theorem Callee.imp2 {P:Program}{w:World}{K:W.Frag}{mg:Str->Option Value}{base:Heap}{Z:Shared->Hp->Prop}{zh zh':Hp->Prop}{k:Nat}{a:Addr}{sp sp':Sp}(C:Callee P w K mg base Z zh k a sp)(h1:∀ H,zh' H->zh H)(h2:∀ vs H Q E,zh' H->sp' vs H Q E->sp vs H Q E):Callee P w K mg base Z zh' k a sp':=
 ⟨fun A outer s H e z=>C.fn A outer s H e (h1 H z),fun A outer s H us vs Q E hr he hz zh r q=>C.run A outer s H us vs Q E hr he hz (h1 H zh) r (h2 _ _ _ _ zh q)⟩
end L2
namespace Eo
open PySem L2
def wgt (pcs:List (List Int×Int))(k:Int):Int:=(pcs.getD k.toNat ([],0)).2
def wt (pcs:List (List Int×Int))(x:List Int):Int:=(x.map (wgt pcs)).sum
def minW (pcs:List (List Int×Int)):List (List Int)->Option (List Int)
 | []=>none
 | x::r=>match minW pcs r with
  | none=>some x
  | some y=>if wt pcs y<wt pcs x then some y else some x
def yV (pcs:List (List Int×Int)):Option (List Int)->Option (List Int)->Option (List Int)
 | none,b=>b
 | some x,none=>some x
 | some x,some y=>if wt pcs y<wt pcs x then some y else some x
theorem minW_none {pcs:List (List Int×Int)}{l:List (List Int)} :minW pcs l=none↔l=[]:=by
 cases l with
 | nil=>exact⟨fun _=>rfl,fun _=>rfl⟩
 | cons x r=>
  refine⟨fun h=>?_,fun h=>(by cases h)⟩
  unfold minW at h
  split at h
  ·cases h
  ·split at h <;> cases h
theorem jFX (pcs:List (List Int×Int))(a b c:Option (List Int)):yV pcs (yV pcs a b) c=yV pcs a (yV pcs b c):=by
 cases a with
 | none=>rfl
 | some x=>cases b with
  | none=>rfl
  | some y=>cases c with
   | none=>
    show yV pcs (if wt pcs y<wt pcs x then some y else some x) none=if wt pcs y<wt pcs x then some y else some x
    split <;> rfl
   | some z=>
    show yV pcs (if wt pcs y<wt pcs x then some y else some x) (some z)=yV pcs (some x) (if wt pcs z<wt pcs y then some z else some y)
    by_cases h1:wt pcs y<wt pcs x <;> by_cases h2:wt pcs z<wt pcs y <;> by_cases h3:wt pcs z<wt pcs x <;> simp only [h1,h2,h3,fe,fX,yV] <;> first | rfl | omega
theorem jAR (pcs:List (List Int×Int))(x:List Int)(r:List (List Int)):minW pcs (x::r)=yV pcs (some x) (minW pcs r):=by
 rw[minW]
 cases minW pcs r <;> rfl
theorem jCO (pcs:List (List Int×Int)):∀ (a b:List (List Int)),minW pcs (a++b)=yV pcs (minW pcs a) (minW pcs b)
 | [],b=>rfl
 | x::r,b=>by rw[fZ,jAR,jCO pcs r b,jAR,jFX]
theorem jDH (pcs:List (List Int×Int))(c:Int)(x:List Int):wt pcs (c::x)=wgt pcs c+wt pcs x:=by
 unfold wt
 rw[bq,dh]
theorem jGK (pcs:List (List Int×Int))(c:Int):∀ (l:List (List Int)),minW pcs (l.map fun x=>if c<0 then x else c::x)=(minW pcs l).map fun x=>if c<0 then x else c::x
 | []=>rfl
 | x::r=>by
  rw[bq,jAR,jAR,jGK pcs c r]
  cases minW pcs r with
  | none=>rfl
  | some y=>
   show (if wt pcs (if c<0 then y else c::y)<wt pcs (if c<0 then x else c::x) then _ else _)=Option.map _ (if wt pcs y<wt pcs x then some y else some x)
   by_cases hc:c<0
   ·simp only [hc,fe]
    split <;> rfl
   ·simp only [hc,fX,jDH]
    by_cases h:wt pcs y<wt pcs x
    ·rw[ao (by omega),ao h]
     rfl
    ·rw[ax (by omega),ax h]
     rfl
theorem jC7 {pcs:List (List Int×Int)}{x:List Int} :∀ {l:List (List Int)},minW pcs l=some x->x∈l/\∀ y∈l,wt pcs x<=wt pcs y
 | [],h=>by cases h
 | z::r,h=>by
  rw[jAR] at h
  cases hr:minW pcs r with
  | none=>
   rw[hr] at h
   have h:some z=some x:=h
   cases h
   rw[minW_none.mp hr]
   exact⟨aG .., fun y hy=>by rw[ah] at hy; rw[hy]; exact cf _⟩
  | some y=>
   rw[hr] at h
   obtain⟨i1,i2⟩:=jC7 hr
   have h:(if wt pcs y<wt pcs z then some y else some z)=some x:=h
   split at h
   ·cases h
    refine⟨ay _ i1,fun u hu=>?_⟩
    rcases aH.mp hu with q | q
    ·rw[q]; omega
    ·exact i2 u q
   ·cases h
    refine⟨aG .., fun u hu=>?_⟩
    rcases aH.mp hu with q | q
    ·rw[q]; exact cf _
    ·have:=i2 u q
     omega
def LtAt (pcs:List (List Int×Int))(H:Hp)(v:V)(o:Option (List Int)):Prop:=match o with
 | none=>v= .non
 | some x=>∃ q r,v= .ref q/\H q=some (.tup [.int (wt pcs x), .ref r])/\H r=some (.tup (x.map V.int))
theorem LtAt.mono {pcs:List (List Int×Int)}{H H':Hp}{v:V}{o:Option (List Int)}(t:Tups H H')(h:LtAt pcs H v o):LtAt pcs H' v o:=by
 cases o with
 | none=>exact h
 | some x=>obtain⟨q,r,e,h1,h2⟩:=h; exact⟨q,r,e,t _ _ h1,t _ _ h2⟩
def RLt (pcs:List (List Int×Int))(ch:Ch):RepT:=fun m H v=>LtAt pcs H v (minW pcs (wk ch m))
theorem RLt.ok (pcs:List (List Int×Int))(ch:Ch):RepOk (RLt pcs ch):=fun m v=>⟨fun H H' D kvs hD k h=>h.mono fun q xs hq=>k _ _ hq fun z=>(by rw[z,hD] at hq; cases hq),fun H H' e h=>h.mono e.tups⟩
def preW (ch:Ch)(m i:Nat):List (List Int):=wJ (((chAt ch m).take i).map fun c=>(c.1,wk ch (m|||c.2)))
theorem jI2 {ch:Ch}{m i:Nat}{c:Int×Nat}(h:(chAt ch m)[i]?=some c):preW ch m (i+1)=preW ch m i++(wk ch (m|||c.2)).map fun x=>if c.1<0 then x else c.1::x:=by
 unfold preW
 rw[br,h,aQ,jHK]
 congr 1
 unfold wJ
 exact List.flatMap_singleton _ _
theorem jK3 {ch:Ch}{m:Nat}(o:ChOk ch)(h:m<2 ^ ch.length)(hn:m≠fullN ch):preW ch m (chAt ch m).length=wk ch m:=by
 unfold preW
 rw[bK,jDJ o h hn]
def ifOf:Stmt->List Stmt
 | .If _ b _ _=>b
 | _=> []
structure LI where
 a:Addr
 c:Addr
 b:Addr
 w:Int
 ms:List Int
 pcs:List (List Int×Int)
 g:Good 16 32 w ms pcs
abbrev LI.ch (i:LI):Ch:=chs i.w.toNat i.ms i.pcs
abbrev yM:Stmt:=(jB kS).getD 0 (.Pass ⟨0,0,0,0⟩)
abbrev pLBeh:Pos:=match yM with
 | .FunctionDef _ _ _ _ _ _ _ _ _ p=>p
 | _=>⟨0,0,0,0⟩
abbrev qLB:Str:= "lightest.<locals>.lightest_behind"
noncomputable abbrev nLBeh:List Str:=["behind","box","best","number","found","weight"]
theorem scLBeh:NScope nLBeh ["behind"] ["box"] (j5 yM):=⟨rfl,rfl,rfl,by decide+kernel,rfl,by decide+kernel,by decide+kernel,fun x h=>by
  have hl:∀ y∈(j5 yM).names,y.2= .free->y.1= "box" :=by decide+kernel
  rw[ah]
  exact hl _ (cz h) rfl,by decide+kernel⟩
def spLB:List V->Sp:=fun fv vs H Q E=>∃ i:LI,fv=[.ref i.b]/\BoxAt H i.b i.w i.ms i.pcs/\jEK i.ch (RLt i.pcs i.ch) vs H Q E
section
variable {P:Program}{w:World}{K:W.Frag}{mg:Str->Option Value}{base:Heap}
variable {f fG fC a c c0 tb:Addr}{fdG fdC:FuncData}{cd:Value}{cl:List (Str×Addr)}{A:Around}{outer:List Env}{s:Shared}{H0:Hp}{E:XK}
def lbInA (T:Txt mg): { t:TS // JSs (cxN P w K mg base nLBeh qLB (j5 yM) f cd cl A outer s H0) ((ifOf ((yL ((jB yM).getD 1 (.Pass ⟨0,0,0,0⟩))).getD 0 (.Pass ⟨0,0,0,0⟩))).drop 1) t} :=
 have nd:=scLBeh.nd
 ⟨_,(jD (yX (jt_w (jw_or (jN jLN (jv 2 rfl (yS (by decide+kernel))) (jF2) (jU _)) (jEY (jN op_lt (jv 5 rfl (yS (by decide+kernel))) (jP kG (jv 2 rfl (yS (by decide+kernel))) (je_int) jE) (jU _))))) (jD (jL (i:=2) nd rfl (loc_n (by decide+kernel)) (kR (j3 (jv 5 rfl (yS (by decide+kernel))) (j3 (jIY (jN op_ge (jv 3 rfl (yS (by decide+kernel))) (je_int) (jU _)) (jK jMZ (kR (j3 (jv 3 rfl (yS (by decide+kernel))) j7 j4)) (jP kG (jv 4 rfl (yS (by decide+kernel))) (je_int) jE)) (jP kG (jv 4 rfl (yS (by decide+kernel))) (je_int) jE)) j7 jOG) j4)) jOD)) yC))⟩
def jNG (T:Txt mg): { t:TS // JSs (cxN P w K mg base nLBeh qLB (j5 yM) f cd cl A outer s H0) (yL ((jB yM).getD 1 (.Pass ⟨0,0,0,0⟩))) t} :=
 have nd:=scLBeh.nd
 ⟨_,(jD (yX (jN jMY (jv 4 rfl (yS (by decide+kernel))) (jF2) (jU _)) (jA (jL (i:=5) nd rfl (loc_n (by decide+kernel)) (jK kP (jP kG (jv 4 rfl (yS (by decide+kernel))) (je_int) jE) (jIY (jN op_ge (jv 3 rfl (yS (by decide+kernel))) (je_int) (jU _)) (jP kG (jP kG (jP kG (jv 1 rfl (jO6 (by decide+kernel))) (je_int) jE) (jv 3 rfl (yS (by decide+kernel))) jB5) (je_int) jE) (je_int))) jCG) (lbInA T).2) yC))⟩
def lbehA (T:Txt mg): { t:TS // JSs (cxN P w K mg base nLBeh qLB (j5 yM) f cd cl A outer s H0) (jB yM) t} :=
 have nd:=scLBeh.nd
 ⟨_,(jA (jL (i:=2) nd rfl (loc_n (by decide+kernel)) (jF2) jC3) (jA (jB4 bN rfl (yD (jv 0 rfl (yS (by decide+kernel)))) (jKM (i:=3) (j:=4) nd rfl rfl (by decide+kernel) (by decide+kernel)) (jNG T).2 jAH) (jD (kQ (jv 2 rfl (yS (by decide+kernel)))))))⟩
theorem lb_in (T:Txt mg){D:Ends}{H:Hp}{l b pq pr:Addr}{ve:V}{c:Int}{pcs:List (List Int×Int)}{y:List Int}{ob:Option (List Int)}(hpq:H pq=some (.tup [.int (wt pcs y), .ref pr]))(hpr:H pr=some (.tup (y.map V.int)))(yl:y.length<=16)(hve:LtAt pcs H ve ob)
  (nx:∀ H' ve',Ext H H'->LtAt pcs H' ve' (yV pcs ob (some (if c<0 then y else c::y)))->D.nx [some (.ref l),some (.ref b),some ve',some (.int c),some (.ref pq),some (.int (wt pcs (if c<0 then y else c::y)))] H'):
  (lbInA (P:=P) (w:=w) (K:=K) (mg:=mg) (base:=base) (f:=f) (cd:=cd) (cl:=cl) (A:=A) (outer:=outer) (s:=s) (H0:=H0) T).1 D [some (.ref l),some (.ref b),some ve,some (.int c),some (.ref pq),some (.int (wt pcs (if c<0 then y else c::y)))] H:=by
 refine⟨_,rfl,rfl,_,rfl,?_⟩
 rcases ob with _ | z
 case' none=>
  have hve:ve= .non:=hve
  subst hve
  have ej:yV pcs none (some (if c<0 then y else c::y))=some (if c<0 then y else c::y):=rfl
  refine iteT (iteT ?_)
 case' some=>
  obtain⟨zq,zr,rfl,hz1,hz2⟩:=hve
  refine iteF ⟨_,rfl,_,rfl,zq,_,0,_,rfl,rfl,SqT.of hz1,rfl,_,_,rfl,rfl,_,rfl,?_⟩
  by_cases hlt:wt pcs (if c<0 then y else c::y)<wt pcs z
  case' neg=>
   rw[aM hlt]
   exact iteF (nx H (.ref zq) (Ext.refl _) (by
    show LtAt pcs H (.ref zq) (if _ then _ else _)
    rw[ax hlt]
    exact⟨zq,zr,rfl,hz1,hz2⟩))
  rw[aK hlt]
  have ej:yV pcs (some z) (some (if c<0 then y else c::y))=some (if c<0 then y else c::y):=ao hlt
  refine iteT ?_
 all_goals
  rw[ej] at nx
  refine⟨_,rfl,_,rfl,_,_,rfl,rfl,_,rfl,?_⟩
  by_cases hc:c<0
  ·have h0:decide ((0:Int)<=c)=false:=aM (by omega)
   rw[h0]
   refine iteF ⟨_,rfl,pq,_,1,_,rfl,rfl,SqT.of hpq,rfl,by show (2:Nat)<=_; decide,fun r4 H4 d4 e4=>nx H4 (.ref r4) e4 ⟨r4,pr,rfl,d4,?_⟩⟩
   rw[ao hc]
   exact e4 _ _ hpr
  ·have h0:decide ((0:Int)<=c)=true:=aK (by omega)
   rw[h0]
   refine iteT ⟨_,rfl,by show (1:Nat)<=_; decide,fun r2 H2 d2 e2=>⟨_,rfl,pq,_,1,_,rfl,rfl,SqT.of (e2 _ _ hpq),rfl,r2,pr,_,_,rfl,rfl,d2,e2 _ _ hpr,by rw[ab,aL]; show 1+_<=_; omega,fun r3 H3 d3 e3=>⟨by show (2:Nat)<=_; decide,fun r4 H4 d4 e4=>nx H4 (.ref r4) ((e2.trans e3).trans e4) ⟨r4,r3,rfl,d4,?_⟩⟩⟩⟩
   rw[ax hc]
   exact e4 _ _ d3
theorem jN5 (T:Txt mg):FnN P w K mg base 1 "lightest_behind" qLB (jI yM) (jB yM) (j5 yM) ["behind"] ["box"] spLB:=by
 refine jPO scLBeh (fun fv vs H Q E h=>?_) (fun cl doc pm c ctv us hl=>?_) fun A outer s H a c cl vs fv Q E hr h=>?_
 ·obtain⟨i,rfl,_,_,_,_,rfl,_⟩:=h
  rfl
 ·match us,hl with
  | [_],_=>rfl
 ·obtain⟨⟨_,_,b,w,ms,pcs,g⟩,rfl,hB,l,us,m,rfl,hl,hm,hf,av,q⟩:=h
  refine⟨_,(lbehA T).2.h,?_⟩
  have o:ChOk (chs w.toNat ms pcs):=jDB g
  obtain⟨qm,qp,ps,b1,b2,b3,b4⟩:=id hB.ex
  have gpl:=g.pl
  refine⟨_,rfl,l,rfl,⟨_,SqL.of hl⟩,jBJ (xs:=us) (fun i σ H'=>Ext H H'/\∃ ve:V,(∃ v3 v4 v5,σ=[some (.ref l),some (.ref b),some ve,v3,v4,v5])/\LtAt pcs H' ve (minW pcs (preW (chs w.toNat ms pcs) m i))) ⟨Ext.refl _, .non,⟨_,_,_,rfl⟩,rfl⟩ (fun i σ H' _ ⟨e,_⟩=>SqL.of (e _ _ hl)) ?_ ?_⟩
  ·rintro i x σ H' hx ⟨e,ve,⟨v3,v4,v5,rfl⟩,hve⟩
   obtain⟨c,hc,p,u,rfl,hp,hR⟩:=av.get' hx
   obtain⟨m1,m2,m3,m4,m5⟩:=o.mem hm hf (ak hc)
   have hsu:=jI2 hc
   have hR:LtAt pcs H' u (minW pcs (wk (chs w.toNat ms pcs) (m|||c.2))):=LtAt.mono e.tups hR
   have mup:=(o.up hm hf (ak hc)).2
   have hmin:minW pcs (preW (chs w.toNat ms pcs) m (i+1))=yV pcs (minW pcs (preW (chs w.toNat ms pcs) m i)) ((minW pcs (wk (chs w.toNat ms pcs) (m|||c.2))).map fun x=>if c.1<0 then x else c.1::x):=by
    rw[hsu,jCO,jGK]
   refine⟨p,_,rfl,SqT.of (e _ _ hp),rfl,_,_,rfl,_,_,rfl,rfl,?_⟩
   refine⟨_,rfl,rfl,_,rfl,?_⟩
   cases hW:minW pcs (wk (chs w.toNat ms pcs) (m|||c.2)) with
   | none=>
    rw[hW] at hR hmin
    have hR:u= .non:=hR
    subst hR
    refine iteF ⟨e,ve,⟨_,_,_,rfl⟩,?_⟩
    rw[hmin]
    revert hve
    cases minW pcs (preW (chs w.toNat ms pcs) m i) with
    | none=>exact id
    | some z=>exact id
   | some y=>
    rw[hW] at hR hmin
    obtain⟨pq,pr,rfl,hpq,hpr⟩:=hR
    obtain⟨yb,yl⟩:=jLB o _ mup y (jC7 hW).1
    have w16:=o.w
    refine iteT ⟨_,rfl,pq,_,0,_,rfl,rfl,SqT.of hpq,rfl,_,rfl,_,_,rfl,rfl,_,rfl,?_⟩
    have y16:y.length<=16:=by omega
    refine ite2 (fun h0=>?_) (fun h0=>?_)
    ·have h0:0<=c.1:=aR h0
     have hlt:=jPQ hm hf (ak hc)
     obtain⟨pv,hpv,pa,pw,rfl,ha1,ha2⟩:=b4.get (k:=c.1.toNat) (by omega)
     have at1:atI ps c.1=some (.ref pa):=by
      have:=yF hpv
      rwa [show ((c.1.toNat:Nat):Int)=c.1 by omega] at this
     refine⟨_,rfl,b,_,2,_,rfl,rfl,SqT.of (e _ _ b1),rfl,_,rfl,qp,_,c.1,_,rfl,rfl,SqT.of (e _ _ b3),at1,pa,_,1,_,rfl,rfl,SqT.of (e _ _ ha1),rfl,_,_,rfl,rfl,?_⟩
     have ew:wt pcs y+(pcs.getD c.1.toNat ([],0)).2=wt pcs (if c.1<0 then y else c.1::y):=by
      rw[ax (by omega),jDH]
      unfold wgt
      omega
     show jV 5 (V.int (wt pcs y+(pcs.getD c.1.toNat ([],0)).2)) _ _ _
     rw[ew]
     exact lb_in T hpq hpr y16 hve fun H2 ve' e2 h2=>⟨e.trans e2,ve',⟨_,_,_,rfl⟩,by rw[hmin]; exact h2⟩
    ·have h0:c.1<0:=Int.not_le.mp fun z=>h0 (aK z)
     refine⟨_,_,rfl,rfl,?_⟩
     have ew:wt pcs y+0=wt pcs (if c.1<0 then y else c.1::y):=by
      rw[ao h0]
      omega
     show jV 5 (V.int (wt pcs y+0)) _ _ _
     rw[ew]
     exact lb_in T hpq hpr y16 hve fun H2 ve' e2 h2=>⟨e.trans e2,ve',⟨_,_,_,rfl⟩,by rw[hmin]; exact h2⟩
  ·rintro σ H' ⟨e,ve,⟨v3,v4,v5,rfl⟩,hve⟩
   rw[av.len,jK3 o hm hf] at hve
   exact⟨_,rfl,q ve H' hve e⟩
def zhL (cl:List (Str×Addr))(i:LI):Hp->Prop:=fun H=>(H i.a=some (.ext (nfP "lightest_behind" qLB (jI yM) (jB yM) (j5 yM) cl i.a i.c))/\H i.c=some (.ext (ncP qLB i.c)))/\BoxAt H i.b i.w i.ms i.pcs
theorem zhL.ok (cl:List (Str×Addr))(i:LI):HpOk (zhL cl i):=⟨fun H H' D kvs hD k h=>⟨⟨k _ _ h.1.1 fun z=>(by rw[<- z,h.1.1] at hD; cases hD),k _ _ h.1.2 fun z=>(by rw[<- z,h.1.2] at hD; cases hD)⟩,h.2.mono fun b xs hb=>k _ _ hb fun z=>(by rw[z,hD] at hb; cases hb)⟩,fun H H' e h=>⟨⟨e _ _ h.1.1,e _ _ h.1.2⟩,h.2.mono e.tups⟩⟩
theorem jFR (T:Txt mg)(cl:List (Str×Addr))(i:LI):Callee P w K mg base (ZC cl ["box"] [.ref i.b]) (zhL cl i) 1 i.a (jEK i.ch (RLt i.pcs i.ch)):=
 Callee.imp2 (Callee.ofN (jN5 T)) (fun H h=>h.1) fun vs H Q E zh q=>⟨i,rfl,zh.2,q⟩
abbrev jGJ:List Str:=["box","lightest_behind","told"]
theorem scLight:FnScope jGJ ["box"] (j5 kS):=⟨rfl,rfl,rfl,by decide+kernel,rfl,by decide+kernel,by decide+kernel⟩
abbrev TabL (H:Hp)(tb:Addr):Prop:=TabOk H tb pLBeh qLB
def jHV (cl:List (Str×Addr))(i:LI):Sp:=jLF i.a (zhL cl i) i.ch (RLt i.pcs i.ch)
theorem fsLB:∀ x∈(["box"]:List Str),(j5 yM).names.lookup x=some .free:=by decide+kernel
theorem jPL:FsAt (XOf jGJ "lightest" kS P w K mg base f (.ref c0) A outer s H0 E) ["box"] [0]:=⟨rfl,fun k x h=>by
 match k,h with
 | 0,h=>
  cases h
  exact⟨0,rfl,rfl, .inl (show (j5 kS).names.lookup (("box" :String):Str)=some .cell by decide+kernel)⟩
 | k+1,h=>cases h⟩
def jFM (tb:Addr):Sp:=fun vs H Q _=>∃ (b:Addr) (w:Int) (ms:List Int) (pcs:List (List Int×Int)),vs=[.ref b]/\BoxAt H b w ms pcs/\Good 16 32 w ms pcs/\TabL H tb/\
 (minW pcs (wk (chs w.toNat ms pcs) 0)=none->∀ H',ExtT tb H H'->TabL H' tb->Q .non H')/\∀ x,minW pcs (wk (chs w.toNat ms pcs) 0)=some x->∀ r q H',H' r=some (.tup [.int (wt pcs x), .ref q])->H' q=some (.tup ((srt x).map V.int))->ExtT tb H H'->TabL H' tb->Q (.ref r) H'
def jPB (T:Txt mg)(CH:PySem.W.CodeHd base c0 tb)(BM:BltAt base mg)(CC:Can P w K mg base "choices_of" 2 fC fdC ["box"] jBD)(FG:∀ cl i,FnZ P w K mg base CX0 (ZC cl ["box"] [.ref i.b]) 4 fG fdG ["choices","at_end","join"] (jHV cl i))(MG:mg "gathered" =some (.ref fG))(KG:keepIn K (.ref fG)=true)(BG:Binds K fdG ["choices","at_end","join"] [])(hr:Room 4 (XOf jGJ "lightest" kS P w K mg base f (.ref c0) A outer s H0 E).A): { t:TS // JSs (XOf jGJ "lightest" kS P w K mg base f (.ref c0) A outer s H0 E) (jB kS) t} :=
 have nd:=scLight.nd
 ⟨_,(jA (jPG (j:=1) nd rfl lL rfl CH BM (jZ (psc:=j5 kS) (by decide+kernel)) rfl rfl) (jA (jL (i:=2) nd rfl lL (jJ0 (hu_of hr) (jKQ (G:=fun (i:LI) σ=>jGC σ [0] [.ref i.b]) (FG _) hr gD MG KG BG (fun i pins s σ H I q=>⟨I.clOk (jZ (psc:=j5 kS) (by decide+kernel)),I.fvOk (jZ (psc:=j5 kS) (by decide+kernel)) fsLB jPL q⟩) (j3 (CC.je (hr.mono (by decide)) gD (j3 (jv 0 rfl vC) j7 j4) j4) (j3 (kR (j3 (je_int) (j3 (kR j7) j7 yP) jR)) (j3 (jv 1 rfl vL) j7 j4) yP) jQ) jQ) je_int jE) jHT) (jA (yX (jN jLN (jv 2 rfl vL) (jF2) (jU _)) (jD (kQ (jF2))) yC) (jD (kQ (kR (j3 (jP kG (jv 2 rfl vL) (je_int) jE) (j3 (jAL jAC gD T.tuple (by decide+kernel) (j3 (jG jF7 gD T.sorted (by decide+kernel) (j3 (jP kG (jv 2 rfl vL) (je_int) jE) j7 kB) kB) j7 jQ) jQ) j7 jQ) kB)))))))⟩
set_option maxHeartbeats 4000000 in
theorem jKE {fd:FuncData}(F:FunC K "lightest" "lightest" kS f fd c0)(T:Txt mg)(CH:PySem.W.CodeHd base c0 tb)(BM:BltAt base mg)(CC:Can P w K mg base "choices_of" 2 fC fdC ["box"] jBD)(FG:∀ cl i,FnZ P w K mg base CX0 (ZC cl ["box"] [.ref i.b]) 4 fG fdG ["choices","at_end","join"] (jHV cl i))(MG:mg "gathered" =some (.ref fG))(KG:keepIn K (.ref fG)=true)(BG:Binds K fdG ["choices","at_end","join"] []):FnOk P w K mg base CX0 5 f fd ["box"] (jFM tb):=by
 refine F.ok scLight (fun vs H Q E h=>?_) (fun A outer s H vs Q E hr h=>?_)
 ·obtain⟨_,_,_,_,rfl,_⟩:=h
  rfl
 ·obtain⟨b,wi,ms,pcs,rfl,hB,g,tab,q0,q1⟩:=h
  refine⟨_,(jPB T CH BM CC FG MG KG BG hr).2.h,?_⟩
  refine⟨tab,fun a c H1 k1 k2 k3 e1 na=>?_⟩
  have tu1:Tups H H1:=fun b xs h=>e1.at tab h
  have hB1:=hB.mono tu1
  have tab1:TabL H1 tb:= .inr ⟨c,k3,k2⟩
  refine⟨_,rfl,b,wi,ms,pcs,rfl,hB1,g,fun L H2 hL2 e2=>?_⟩
  refine⟨by show (0:Nat)<=_; decide,fun t0 H3 d3 e3=>⟨by show (2:Nat)<=_; decide,fun t1 H4 d4 e4=>?_⟩⟩
  have E24:=(e2.trans e3).trans e4
  refine⟨_,rfl,⟨a,c,b,wi,ms,pcs,g⟩,rfl,L, .ref t1,rfl,hL2.ext (e3.trans e4),?_,⟨⟨E24 _ _ k1,E24 _ _ k2⟩,hB1.mono E24.tups⟩,fun r ns H5 got srt' mt e5 n5=>?_⟩
  ·show LtAt pcs H4 (.ref t1) (minW pcs (wk _ (fullN _)))
   rw[jDK]
   exact⟨t1,t0,rfl,d4,e4 _ _ d3⟩
  obtain⟨u,dg,ru⟩:=got0 got srt' mt
  refine⟨r,u,rfl,dg,?_⟩
  have E25:=E24.trans e5
  have x5:ExtT tb H H5:=fun b o hb hn=>E25 _ _ (e1 b o hb hn)
  have tab5:TabL H5 tb:=tab1.ext E25
  refine⟨_,rfl,rfl,_,rfl,?_⟩
  have ru:LtAt pcs H5 u (minW pcs (wk (chs wi.toNat ms pcs) 0)):=ru
  cases hW:minW pcs (wk (chs wi.toNat ms pcs) 0) with
  | none=>
   rw[hW] at ru
   have ru:u= .non:=ru
   subst ru
   exact iteT (q0 hW H5 x5 tab5)
  | some x=>
   rw[hW] at ru
   obtain⟨p,pr,rfl,hp,hpr⟩:=ru
   have o:ChOk (chs wi.toNat ms pcs):=jDB g
   have xl:=(jLB o 0 (dW _) x (jC7 hW).1).2
   have w16:=o.w
   refine iteF ⟨_,rfl,p,_,0,_,rfl,rfl,SqT.of hp,rfl,_,rfl,p,_,1,_,rfl,rfl,SqT.of hp,rfl,pr,x,rfl,hpr,by omega,fun l6 ns6 hl6 sr pm=>⟨l6,_,rfl, .inl ⟨SqL.of j6,fun l7 hl7=>?_⟩⟩⟩
   have e6:Ext H5 (L2.upd H5 l6 (.lst (ns6.map V.int))):=(Ext.refl _).new hl6 _
   have e7:Ext H5 (L2.upd (L2.upd H5 l6 (.lst (ns6.map V.int))) l7 (.tup (ns6.map V.int))):=e6.new hl7 _
   have d7:(L2.upd (L2.upd H5 l6 (.lst (ns6.map V.int))) l7 (.tup (ns6.map V.int))) l7=some (.tup (ns6.map V.int)):=j6
   generalize L2.upd (L2.upd H5 l6 (.lst (ns6.map V.int))) l7 (.tup (ns6.map V.int))=H7 at e7 d7
   refine⟨by show (2:Nat)<=_; decide,fun r8 H8 d8 e8=>q1 x hW r8 l7 H8 d8 (by rw[e8 _ _ d7,jEH sr pm]) (fun b o hb hn=>e8 _ _ (e7 _ _ (x5 b o hb hn))) ((tab5.ext e7).ext e8)⟩
end
theorem jDW {w:Int}{ms:List Int}{pcs:List (List Int×Int)}{m:Nat}{c:Int×Nat}(hl:lowN m<w.toNat):c∈chAt (chs w.toNat ms pcs) m↔c.2&&&m=0/\((c=(-1,2 ^ lowN m)/\(lowN m:Int)∈ms)\/∃ k:Int,c=(k,maskN (j9 pcs k))/\0<=k/\k<pcs.length/\(j9 pcs k).headD 0=(lowN m:Int)):=by
 unfold chAt
 rw[bU,g5,and_comm]
 refine gy fun _=>?_
 unfold chs
 rw[ar,jAB hl]
 show c∈yI ms pcs pcs.length (lowN m)↔_
 unfold yI
 rw[aq]
 refine or_congr ?_ ?_
 ·by_cases h:(lowN m:Int)∈ms
  ·rw[ao h,ah]
   exact⟨fun z=>⟨z,h⟩,fun z=>z.1⟩
  ·rw[ax h]
   exact⟨fun z=>(by cases z),fun z=>absurd z.2 h⟩
 ·rw[bC (by rw[jA5]; exact az _),aN]
  constructor
  ·rintro ⟨k,hk,rfl⟩
   obtain⟨h1,h2⟩:=bU.mp hk
   have b:=(jC2 pcs.length).bnd k h1
   exact⟨k,rfl,b.1,b.2,aR h2⟩
  ·rintro ⟨k,rfl,h1,h2,h3⟩
   refine⟨k,bU.mpr ⟨?_,aK h3⟩,rfl⟩
   unfold upto
   exact aN.mpr ⟨k.toNat,cm.mpr (by omega),by omega⟩
structure CovM (w:Int)(ms:List Int)(pcs:List (List Int×Int))(m:Nat)(x:List Int):Prop where
 nd:x.Nodup
 bnd:∀ k∈x,0<=k/\k<pcs.length
 off:∀ k∈x,∀ t∈j9 pcs k,m.testBit t.toNat=false
 dis:∀ k∈x,∀ k'∈x,k≠k'->∀ t∈j9 pcs k,t∉j9 pcs k'
 cov:∀ t:Nat,t<w.toNat->m.testBit t=false->(t:Int)∉ms->∃ k∈x,(t:Int)∈j9 pcs k
section
variable {w:Int}{ms:List Int}{pcs:List (List Int×Int)}(g:Good 16 32 w ms pcs)
include g
theorem yB {k:Int}(h0:0<=k)(h1:k<pcs.length):Lot w (j9 pcs k):=(g.at (k:=k.toNat) (by omega)).lot
theorem jD8 {k:Int}(h0:0<=k)(h1:k<pcs.length)(t:Nat):(maskN (j9 pcs k)).testBit t=decide ((t:Int)∈j9 pcs k):=jBH _ t (yB g h0 h1).ris fun x hx=>((yB g h0 h1).bnd x hx).1
theorem jLL {k:Int}(h0:0<=k)(h1:k<pcs.length){m:Nat} :maskN (j9 pcs k)&&&m=0↔∀ t∈j9 pcs k,m.testBit t.toNat=false:=by
 have l:=yB g h0 h1
 constructor
 ·intro h t ht
  have bt:=l.bnd t ht
  have q:=bB (fun z=>z.testBit t.toNat) h
  simp only [eX,dP,jD8 g h0 h1] at q
  rw[show ((t.toNat:Nat):Int)=t by omega,aK ht,Bool.true_and] at q
  exact q
 ·intro h
  apply eS
  intro i
  rw[eX,dP,jD8 g h0 h1]
  by_cases hi:(i:Int)∈j9 pcs k
  ·have:=h _ hi
   rw[bL] at this
   rw[this,gG]
  ·rw[aM hi]
   rfl
theorem jBT {k:Int}(h0:0<=k)(h1:k<pcs.length):(j9 pcs k).headD 0∈j9 pcs k/\∀ t∈j9 pcs k,(j9 pcs k).headD 0<=t:=by
 have l:=yB g h0 h1
 refine⟨jGO l.ne,fun t ht=>?_⟩
 have r:=l.ris
 cases z:j9 pcs k with
 | nil=>rw[z] at ht; cases ht
 | cons a q=>
  rw[z] at ht r
  show a<=t
  rcases aH.mp ht with y | y
  ·omega
  ·have:=(cb.mp r).1 t y
   omega
theorem jG8:∀ m,m<2 ^ (chs w.toNat ms pcs).length->∀ x∈wk (chs w.toNat ms pcs) m,CovM w ms pcs m x:=by
 have o:ChOk (chs w.toNat ms pcs):=jDB g
 have el:(chs w.toNat ms pcs).length=w.toNat:=jA7 _ _ _ _
 refine jDL o ?_ ?_
 ·intro x hx
  rw[jDK,ah] at hx
  subst hx
  refine⟨ft,fun k hk=>(by cases hk),fun k hk=>(by cases hk),fun k hk=>(by cases hk),fun t ht hb _=>?_⟩
  unfold fullN at hb
  rw[el,ci,aK ht] at hb
  cases hb
 ·intro m hm hf ih x hx
  have hl:lowN m<w.toNat:=by have:=jD9 hm hf; rwa [el] at this
  rw[jDJ o hm hf] at hx
  obtain⟨p,hp,y,hy,rfl⟩:=mem_wJ.mp hx
  obtain⟨c,hc,rfl⟩:=aN.mp hp
  have I:=ih c hc y hy
  have offm:∀ k∈y,∀ t∈j9 pcs k,m.testBit t.toNat=false:=fun k hk t ht=>by
   have:=I.off k hk t ht
   rw[b0,eU] at this
   exact this.1
  obtain⟨hz,hcase⟩:=(jDW hl).mp hc
  rcases hcase with ⟨rfl,hms⟩ | ⟨k,rfl,k0,k1,hd⟩
  ·dsimp only
   rw[ao (show (-1:Int)<0 by decide)]
   refine⟨I.nd,I.bnd,offm,I.dis,fun t ht hb hn=>?_⟩
   refine I.cov t ht ?_ hn
   rw[b0,hb,gP,dm,aM]
   intro z
   subst z
   exact hn hms
  ·dsimp only at I hz ⊢
   rw[ax (by omega)]
   have ky:∀ t∈j9 pcs k,∀ k'∈y,t∉j9 pcs k':=fun t ht k' hk' ht'=>by
    have:=I.off k' hk' t ht'
    have bt:=(yB g k0 k1).bnd t ht
    rw[b0,jD8 g k0 k1,show ((t.toNat:Nat):Int)=t by omega,aK ht,ff] at this
    cases this
   have hhd:=(jBT g k0 k1).1
   refine⟨cA.mpr ⟨fun z=>ky _ hhd k z hhd,I.nd⟩,fun k' hk'=>?_,fun k' hk' t ht=>?_,fun k1' h1' k2' h2' ne t ht=>?_,fun t ht hb hn=>?_⟩
   ·rcases aH.mp hk' with z | z
    ·rw[z]; exact⟨k0,k1⟩
    ·exact I.bnd k' z
   ·rcases aH.mp hk' with z | z
    ·rw[z] at ht
     exact(jLL g k0 k1).mp hz t ht
    ·exact offm k' z t ht
   ·rcases aH.mp h1' with z | z <;> rcases aH.mp h2' with u | u
    ·exact absurd (z.trans u.symm) ne
    ·rw[z] at ht
     exact ky t ht _ u
    ·rw[u]
     intro q
     exact ky t q _ z ht
    ·exact I.dis _ z _ u ne t ht
   ·by_cases hk:(t:Int)∈j9 pcs k
    ·exact⟨k,aG .., hk⟩
    ·obtain⟨k',h1,h2⟩:=I.cov t ht (by rw[b0,hb,jD8 g k0 k1,aM hk]; rfl) hn
     exact⟨k',ay _ h1,h2⟩
theorem jFJ:∀ m,m<2 ^ (chs w.toNat ms pcs).length->∀ x,CovM w ms pcs m x->∃ y∈wk (chs w.toNat ms pcs) m,∀ k,k∈y↔k∈x:=by
 have o:ChOk (chs w.toNat ms pcs):=jDB g
 have el:(chs w.toNat ms pcs).length=w.toNat:=jA7 _ _ _ _
 have w0:=g.w0
 refine jDL o ?_ ?_
 ·intro x C
  refine⟨[],by rw[jDK]; exact ah.mpr rfl,fun k=>⟨fun z=>(by cases z),fun hk=>?_⟩⟩
  exfalso
  have b:=C.bnd k hk
  have hh:=(jBT g b.1 b.2).1
  have hb:=(yB g b.1 b.2).bnd _ hh
  have:=C.off k hk _ hh
  unfold fullN at this
  rw[el,ci,aK (by omega)] at this
  cases this
 ·intro m hm hf ih x C
  have hl:lowN m<w.toNat:=by have:=jD9 hm hf; rwa [el] at this
  have hstep:=jDJ o hm hf
  by_cases hx:∃ k∈x,(lowN m:Int)∈j9 pcs k
  ·obtain⟨k,hk,ht⟩:=hx
   have b:=C.bnd k hk
   have hd:(j9 pcs k).headD 0=(lowN m:Int):=by
    obtain⟨h1,h2⟩:=jBT g b.1 b.2
    have h3:=h2 _ ht
    have hb:=(yB g b.1 b.2).bnd _ h1
    have h4:=C.off k hk _ h1
    rcases Int.lt_or_eq_of_le h3 with z | z
    ·have:=jDX m ((j9 pcs k).headD 0).toNat (by omega)
     rw[this] at h4
     cases h4
    ·exact z
   have fit:maskN (j9 pcs k)&&&m=0:=(jLL g b.1 b.2).mpr (C.off k hk)
   have hc:((k,maskN (j9 pcs k)):Int×Nat)∈chAt (chs w.toNat ms pcs) m:=(jDW hl).mpr ⟨fit, .inr ⟨k,rfl,b.1,b.2,hd⟩⟩
   have memE:∀ j,j∈x.erase k↔j≠k/\j∈x:=fun j=>C.nd.mem_erase_iff
   obtain⟨y,hy,hye⟩:=ih _ hc (x.erase k) ⟨C.nd.erase k,fun j hj=>C.bnd j ((memE j).mp hj).2,fun j hj t ht'=>by
     obtain⟨n1,n2⟩:=(memE j).mp hj
     have bj:=C.bnd j n2
     have bt:=(yB g bj.1 bj.2).bnd t ht'
     have:=C.dis j n2 k hk n1 t ht'
     rw[b0,C.off j n2 t ht',jD8 g b.1 b.2,show ((t.toNat:Nat):Int)=t by omega,aM this]
     rfl,fun j1 h1 j2 h2=>C.dis j1 ((memE j1).mp h1).2 j2 ((memE j2).mp h2).2,fun t ht' hb hn=>by
     rw[b0,eU,jD8 g b.1 b.2,dq] at hb
     obtain⟨j,hj,hjt⟩:=C.cov t ht' hb.1 hn
     exact⟨j,(memE j).mpr ⟨fun z=>hb.2 (z ▸ hjt),hj⟩,hjt⟩⟩
   refine⟨k::y,?_,fun j=>?_⟩
   ·rw[hstep,mem_wJ]
    exact⟨_,bv hc,y,hy,by dsimp only; rw[ax (by omega)]⟩
   ·rw[aH,hye,memE]
    constructor
    ·rintro (z | z)
     ·rw[z]; exact hk
     ·exact z.2
    ·intro z
     by_cases hj:j=k
     ·exact .inl hj
     ·exact .inr ⟨hj,z⟩
  ·have hms:(lowN m:Int)∈ms:=bM fun z=>hx (C.cov (lowN m) hl (jCP m) z)
   have fit:2 ^ lowN m&&&m=0:=by
    apply eS
    intro i
    rw[eX,dP,dm]
    by_cases hi:lowN m=i
    ·rw[<- hi,jCP,gG]
    ·rw[aM hi]
     rfl
   have hc:((-1,2 ^ lowN m):Int×Nat)∈chAt (chs w.toNat ms pcs) m:=(jDW hl).mpr ⟨fit, .inl ⟨rfl,hms⟩⟩
   obtain⟨y,hy,hye⟩:=ih _ hc x ⟨C.nd,C.bnd,fun j hj t ht'=>by
     have bj:=C.bnd j hj
     have bt:=(yB g bj.1 bj.2).bnd t ht'
     rw[b0,C.off j hj t ht',gP,dm,aM]
     intro z
     refine hx ⟨j,hj,?_⟩
     rw[z,show ((t.toNat:Nat):Int)=t by omega]
     exact ht',C.dis,fun t ht' hb hn=>by
     rw[b0,eU] at hb
     exact C.cov t ht' hb.1 hn⟩
   refine⟨y,?_,hye⟩
   rw[hstep,mem_wJ]
   exact⟨_,bv hc,y,hy,by dsimp only; rw[ao (by decide)]⟩
end
structure IsCov (w:Int)(ms:List Int)(pcs:List (List Int×Int))(c:List Int):Prop where
 ris:Ris pcs.length c
 dis:∀ k∈c,∀ k'∈c,k≠k'->∀ t∈j9 pcs k,t∉j9 pcs k'
 cov:∀ t:Int,0<=t->t<w->t∉ms->∃ k∈c,t∈j9 pcs k
section
variable {w:Int}{ms:List Int}{pcs:List (List Int×Int)}(g:Good 16 32 w ms pcs)
include g
theorem jIJ {c:List Int} :c∈cvs w ms pcs↔IsCov w ms pcs c:=by
 have z0:0<2 ^ (chs w.toNat ms pcs).length:=dW _
 have w0:=g.w0
 unfold cvs
 rw[aN]
 constructor
 ·rintro ⟨x,hx,rfl⟩
  have C:=jG8 g 0 z0 x hx
  have me:∀ k,k∈srt x↔k∈x:=fun k=>(jT x).mem_iff
  refine⟨⟨?_,fun k hk=>C.bnd k ((me k).mp hk)⟩,fun k hk k' hk'=>C.dis k ((me k).mp hk) k' ((me k').mp hk'),fun t t0 t1 hn=>?_⟩
  ·exact(fE (jGB x) ((jT x).nodup_iff.mpr C.nd)).imp fun {a b} h=>by omega
  ·obtain⟨k,hk,hkt⟩:=C.cov t.toNat (by omega) (dP _) (by rw[show ((t.toNat:Nat):Int)=t by omega]; exact hn)
   exact⟨k,(me k).mpr hk,by rwa [show ((t.toNat:Nat):Int)=t by omega] at hkt⟩
 ·intro C
  obtain⟨y,hy,hye⟩:=jFJ g 0 z0 c ⟨C.ris.ris.imp fun {a b} h=>by omega,C.ris.bnd,fun k hk t ht=>dP _,C.dis,fun t ht _ hn=>C.cov t (by omega) (by omega) hn⟩
  refine⟨y,hy,?_⟩
  have ny:=(jG8 g 0 z0 y hy).nd
  have nc:c.Nodup:=C.ris.ris.imp fun {a b} h=>by omega
  have pm:c.Perm y:=(List.perm_ext_iff_of_nodup nc ny).mpr fun k=>(hye k).symm
  exact(jEH (C.ris.ris.imp fun {a b} h=>by omega) pm).symm
end
def heldBy (pcs:List (List Int×Int))(ks:List Int)(t:Int):Nat:=ks.countP fun k=>decide (t∈j9 pcs k)
def okT (ms:List Int)(n:Nat)(t:Int):Bool:=decide (n<=1)&&(decide (n=1) || decide (t∈ms))
def covI (w:Int)(ms:List Int)(pcs:List (List Int×Int))(ks:List Int):Bool:=(upto w.toNat).all fun t=>okT ms (heldBy pcs ks t) t
theorem jM5 {l:List Int}{a b:Int}(ha:a∈l)(hb:b∈l)(ne:a≠b):2<=l.length:=by
 match l,ha,hb with
 | [x],ha,hb=>exact absurd ((ah.mp ha).trans (ah.mp hb).symm) ne
 | x::y::r,_,_=>rw[aZ,aZ]; omega
theorem jN1 {l:List Int}(nd:l.Nodup)(h:∀ a∈l,∀ b∈l,a=b):l.length<=1:=by
 match l,nd,h with
 | [],_,_=>exact bH _
 | [x],_,_=>exact az _
 | x::y::r,nd,h=>
  have:=h x (aG ..) y (ay _ (aG ..))
  subst this
  exact absurd (aG ..) (cA.mp nd).1
theorem jL2 {w:Int}{ms:List Int}{pcs:List (List Int×Int)}(g:Good 16 32 w ms pcs){c:List Int}(r:Ris pcs.length c):covI w ms pcs c=true↔IsCov w ms pcs c:=by
 have cn:c.Nodup:=r.ris.imp fun {a b} h=>by omega
 have hl:∀ t,heldBy pcs c t=(c.filter fun k=>decide (t∈j9 pcs k)).length:=fun t=>by
  unfold heldBy
  rw[eY]
 have mem:∀ t k,k∈(c.filter fun k=>decide (t∈j9 pcs k))↔k∈c/\t∈j9 pcs k:=fun t k=>by rw[bU,bo]
 have w0:=g.w0
 unfold covI
 rw[bP]
 constructor
 ·intro h
  have h':∀ t:Int,0<=t->t<w->heldBy pcs c t<=1/\(heldBy pcs c t=1\/t∈ms):=fun t t0 t1=>by
   have:=h t (ak (by have:=jBC (n:=w.toNat) (i:=t.toNat) (by omega); rwa [show ((t.toNat:Nat):Int)=t by omega] at this))
   unfold okT at this
   simpa using this
  refine⟨r,fun k hk k' hk' ne t ht ht'=>?_,fun t t0 t1 hm=>?_⟩
  ·have kb:=(yB g (r.bnd k hk).1 (r.bnd k hk).2).bnd t ht
   have:=(h' t kb.1 kb.2).1
   rw[hl] at this
   have:=jM5 ((mem t k).mpr ⟨hk,ht⟩) ((mem t k').mpr ⟨hk',ht'⟩) ne
   omega
  ·have:=(h' t t0 t1).2.resolve_right hm
   rw[hl] at this
   obtain⟨k,hk⟩:=List.exists_mem_of_length_pos (l:=c.filter fun k=>decide (t∈j9 pcs k)) (by omega)
   exact⟨k,(mem t k).mp hk⟩
 ·intro C t ht
  have tb:=(jC2 w.toNat).bnd t ht
  have l1:heldBy pcs c t<=1:=by
   rw[hl]
   refine jN1 (cn.sublist List.filter_sublist) fun a ha b hb=>bM fun ne=>?_
   have ha:=(mem t a).mp ha
   have hb:=(mem t b).mp hb
   exact C.dis a ha.1 b hb.1 ne t ha.2 hb.2
  unfold okT
  rw[aK l1,Bool.true_and]
  by_cases hm:t∈ms
  ·rw[aK hm,ff]
  ·obtain⟨k,hk,hkt⟩:=C.cov t tb.1 (by omega) hm
   have:=List.length_pos_of_mem ((mem t k).mpr ⟨hk,hkt⟩)
   rw[<- hl] at this
   rw[aK (show heldBy pcs c t=1 by omega),Bool.true_or]
theorem jO1 {α:Type}{l:List α}{F:α->Bool}{i:Nat}{x:α}(h:l[i]?=some x)(e:F x=false):l.all F=false:=by
 rw[Bool.eq_false_iff]
 intro q
 rw[bP] at q
 have:=q x (ak h)
 rw[e] at this
 cases this
theorem jH8 (pcs:List (List Int×Int))(ks:List Int)(t:Int):(((ks.filter fun k=>decide (t∈j9 pcs k)).map V.int).length)=heldBy pcs ks t:=by
 rw[ab]
 unfold heldBy
 rw[eY]
section
variable {P:Program}{w:World}{K:W.Frag}{mg:Str->Option Value}{base:Heap}
variable {f fU fV:Addr}{fdU fdV:FuncData}{cdv:Value}{A:Around}{outer:List Env}{s:Shared}{H0:Hp}{E:XK}
abbrev jDT:List Str:=["box","some","thing","holders"]
theorem scCovers:FnScope jDT ["box","some"] (j5 y9):=⟨rfl,rfl,rfl,by decide+kernel,rfl,by decide+kernel,by decide+kernel⟩
def jC5:Sp:=fun vs H Q _=>∃ (b a:Addr) (w:Int) (ms:List Int) (pcs:List (List Int×Int)) (ks:List Int),vs=[.ref b, .ref a]/\BoxAt H b w ms pcs/\Good 16 32 w ms pcs/\H a=some (.tup (ks.map V.int))/\(∀ k∈ks,0<=k/\k<pcs.length)/\ks.length<=100/\∀ H',Ext H H'->Q (.bl (covI w ms pcs ks)) H'
def jNX (T:Txt mg)(hr:Room 0 (XOf jDT "_law_covers" y9 P w K mg base f cdv A outer s H0 E).A): { t:TS // JSs (XOf jDT "_law_covers" y9 P w K mg base f cdv A outer s H0 E) (jB y9) t} :=
 have nd:=scCovers.nd
 ⟨_,(jA (jB4 bN rfl (jAE gD T.range (j3 (jP kG (jv 0 rfl vC) (je_int) jE) j7 kB) kB) (jH (i:=2) nd rfl (loc_c (by decide+kernel))) (jA (jL (i:=3) nd rfl lL (jG jA0 gD T.len (by decide+kernel) (j3 (yE (m:=[none,some 2,some 0]) (Nc:=["k","thing","box"]) rfl (jF1 (jv 1 rfl vL)) rfl (by decide+kernel) (by decide+kernel) (jZ (psc:=j5 y9) (by decide+kernel)) (jO (N:=jDT) rfl rfl (by decide+kernel)) (fun cl C fp s H=>jH (i:=0) (show (["k","thing","box"]:List Str).Nodup by decide+kernel) rfl (yU (by decide+kernel))) (fun cl C fp s H=>jIR (jN jIB (jv 1 rfl (kW (by decide+kernel))) (jP jA9 (jP jA9 (jP jA9 (jv 2 rfl (kW (by decide+kernel))) (je_int) jE) (jv 0 rfl (kJ (by decide+kernel))) jB5) (je_int) jE) jIH)) (fun cl C fp s H=>(jv 0 rfl (kJ (by decide+kernel)))) jAH) j7 jS) jS) kI)
   (jD (yX (jt_w (jw_or (jN op_gt (jv 3 rfl vL) (je_int) (jU _)) (jEY (jt_w (jIQ (jN op_eq (jv 3 rfl vL) (je_int) (jU _)) (jFV (jN jER (jv 2 rfl vC) (jP kG (jv 0 rfl vC) (je_int) jE) jIH))))))) (jD (kQ (je_bl))) yC))) y6)
   (jD (kQ (je_bl))))⟩
theorem jID {fd:FuncData}(F:Fun K "_law_covers" "_law_covers" y9 f fd)(T:Txt mg):FnOk P w K mg base CX0 1 f fd ["box","some"] jC5:=by
 refine F.ok scCovers (fun vs H Q E h=>?_) (fun cdv A outer s H vs Q E hr h=>?_)
 ·obtain⟨_,_,_,_,_,_,rfl,_⟩:=h
  rfl
 ·obtain⟨b,a,w,ms,pcs,ks,rfl,hB,g,ha,hbnd,hlen,q⟩:=h
  obtain⟨qm,qp,ps,b1,b2,b3,b4⟩:=hB.ex
  have w0:=g.w0
  have w1:=g.w1
  refine⟨_,(jNX T hr).2.h,?_⟩
  refine⟨_,rfl,b,_,0,_,rfl,rfl,SqT.of b1,rfl,w,rfl,by omega,by omega,jAS (fun i σ H'=>(∃ v2 v3,σ=[some (.ref b),some (.ref a),v2,v3])/\Ext H H'/\((upto w.toNat).take i).all (fun t=>okT ms (heldBy pcs ks t) t)=true) ⟨⟨_,_,rfl⟩,Ext.refl _,rfl⟩ ?_ ?_⟩
  ·rintro i σ H2 hi ⟨⟨v2,v3,rfl⟩,e2,hp⟩
   have no:∀ H',Ext H2 H'->okT ms (heldBy pcs ks i) i=false->Q (.bl false) H':=fun H' e' z=>qb (q H' (e2.trans e')) (jO1 (jBC hi) z)
   refine⟨_,rfl,a,rfl,⟨_,SqT.of (e2 _ _ ha)⟩,jE6 (xs:=ks.map V.int) (by rw[ab,aL]; omega) (fun D j σ' H' zs=>(∃ v,σ'=[v,some (.int (0+(i:Int))),some (.ref b)])/\zs=((ks.take j).filter (fun k=>decide ((i:Int)∈j9 pcs k))).map V.int/\H'=upd H2 D (.lst zs)) ?_ ?_ ?_ ?_⟩
   ·intro D hD
    exact⟨⟨_,rfl⟩,rfl,rfl⟩
   ·rintro D j σ' H' zs hD ⟨_,rfl,rfl⟩
    refine⟨?_,j6,?_⟩
    ·rw[j8 (jC (e2 _ _ ha) hD)]
     exact e2 _ _ ha
    ·rw[ab]
     exact bW (dD _ _) (by rw[aU]; omega)
   ·rintro D j σ' H' zs x hD hj ⟨⟨v,rfl⟩,rfl,rfl⟩
    have hj':j<ks.length:=by
     have:=(af.mp hj).1
     rwa [ab] at this
    rw[getI hj'] at hj
    cases hj
    have hmem:ks.getD j 0∈ks:=by
     have:ks.getD j 0=ks[j]:=by simp [List.getD,hj']
     rw[this]
     exact dn hj'
    have hb:=hbnd _ hmem
    have eD:Ext H (upd H2 D (.lst (((ks.take j).filter (fun k=>decide ((i:Int)∈j9 pcs k))).map V.int))):=e2.new hD _
    obtain⟨pa,pq,wt,c1,c2,c3⟩:=jK5 (b4.mono fun b xs h=>eD b _ h) hb.1 hb.2
    have htk:ks.take (j+1)=ks.take j++[ks.getD j 0]:=by
     rw[br,ar]
     simp [hj']
    refine⟨_,rfl,_,rfl,b,_,2,_,rfl,rfl,SqT.of (eD _ _ b1),rfl,_,rfl,qp,_,_,_,rfl,rfl,SqT.of (eD _ _ b3),c1,pa,_,0,_,rfl,rfl,SqT.of c2,rfl,pq,_,rfl, .inr (SqT.of c3),rfl,jCV _,_,rfl,?_⟩
    have ein:inV (.int (0+(i:Int))) ((j9 pcs (ks.getD j 0)).map V.int)=decide ((i:Int)∈j9 pcs (ks.getD j 0)):=by rw[jE5,Int.zero_add]
    show if inV (.int (0+(i:Int))) ((j9 pcs (ks.getD j 0)).map V.int)=true then _ else _
    rw[ein]
    refine ite2 (fun hy=>?_) (fun hy=>?_)
    ·refine⟨_,rfl,j6,⟨_,rfl⟩,?_,jM4⟩
     rw[htk,dy,aQ,dO,ao hy]
     rfl
    ·refine⟨⟨_,rfl⟩,?_,?_⟩
     ·rw[htk,dy,aQ,dO,ax hy]
      simp
     ·rfl
   ·rintro D σ' H' zs hD ⟨_,rfl,rfl⟩
    refine⟨D,_,rfl, .inl (SqL.of j6),?_⟩
    have e3:Ext H2 (upd H2 D (.lst (((ks.take (ks.map V.int).length).filter (fun k=>decide ((i:Int)∈j9 pcs k))).map V.int))):=(Ext.refl _).new hD _
    generalize upd H2 D (.lst (((ks.take (ks.map V.int).length).filter (fun k=>decide ((i:Int)∈j9 pcs k))).map V.int))=H3 at e3 ⊢
    have hcn:(((ks.take (ks.map V.int).length).filter (fun k=>decide ((i:Int)∈j9 pcs k))).map V.int).length=heldBy pcs ks i:=by
     rw[show (ks.map V.int).length=ks.length from ab _,bK]
     exact jH8 pcs ks i
    rw[hcn]
    have E3:=e2.trans e3
    refine⟨_,rfl,_,_,rfl,rfl,_,rfl,ite2 (fun h1=>?_) (fun h1=>?_)⟩
    ·have h1:(1:Int)<((heldBy pcs ks i:Nat):Int):=aR h1
     refine iteT (no H3 e3 ?_)
     unfold okT
     rw[aM (show ¬ heldBy pcs ks i<=1 by omega)]
     rfl
    ·have h1:¬ (1:Int)<((heldBy pcs ks i:Nat):Int):=fun h=>h1 (aK h)
     have nx:okT ms (heldBy pcs ks i) i=true->(∃ v2' v3',([some (.ref b),some (.ref a),some (.int (0+(i:Int))),some (.int ((heldBy pcs ks i:Nat):Int))]:St)=[some (.ref b),some (.ref a),v2',v3'])/\Ext H H3/\((upto w.toNat).take (i+1)).all (fun t=>okT ms (heldBy pcs ks t) t)=true:=fun z=>by
      refine⟨⟨_,_,rfl⟩,E3,?_⟩
      rw[jEE hi,List.all_append,hp,gO,z]
      rfl
     refine⟨_,rfl,rfl,_,rfl,ite2 (fun h2=>?_) (fun h2=>?_)⟩
     ·have h2:=V.int.inj (aR h2)
      refine⟨_,rfl,_,rfl,b,_,1,_,rfl,rfl,SqT.of (E3 _ _ b1),rfl,qm,_,rfl, .inr (SqT.of (E3 _ _ b2)),rfl,jCV _,_,rfl,?_⟩
      have ein:inV (.int (0+(i:Int))) (ms.map V.int)=decide ((i:Int)∈ms):=by rw[jE5,Int.zero_add]
      show if (!inV (.int (0+(i:Int))) (ms.map V.int))=true then _ else _
      rw[ein]
      refine ite2 (fun h3=>?_) (fun h3=>?_)
      ·refine no H3 e3 ?_
       unfold okT
       rw[aM (show ¬ heldBy pcs ks i=1 by omega)]
       have h3:decide ((i:Int)∈ms)=false:=by simpa using h3
       rw[h3]
       simp
      ·refine nx ?_
       unfold okT
       have h3:decide ((i:Int)∈ms)=true:=by simpa using h3
       rw[h3,aK (show heldBy pcs ks i<=1 by omega)]
       simp
     ·have h2:¬ heldBy pcs ks i=0:=fun h=>h2 (aK (by rw[h]; rfl))
      refine iteF (nx ?_)
      unfold okT
      rw[aK (show heldBy pcs ks i<=1 by omega),aK (show heldBy pcs ks i=1 by omega)]
      rfl
  ·rintro σ H2 ⟨⟨v2,v3,rfl⟩,e2,hp⟩
   refine qb (q H2 e2) ?_
   have:(upto w.toNat).take w.toNat=upto w.toNat:=by
    have:=bK (l:=upto w.toNat)
    rw[jA5] at this
    exact this
   rw[this] at hp
   exact hp
end
abbrev jLP:List Str:=["found"]
theorem scWhole:FnScope jLP ["found"] (j5 jBF):=⟨rfl,rfl,rfl,by decide+kernel,rfl,by decide+kernel,by decide+kernel⟩
section
variable {P:Program}{w:World}{K:W.Frag}{mg:Str->Option Value}{base:Heap}
def jCI:Sp:=fun vs H Q _=>∃ i:Int,vs=[.int i]/\Q (.bl true) H
def jO5 {f:Addr}{cdv:Value}{A:Around}{outer:List Env}{s:Shared}{H:Hp}{E:XK}(T:Txt mg): { t:TS // JSs (XOf jLP "_law_whole" jBF P w K mg base f cdv A outer s H E) (jB jBF) t} :=
 have nd:=scWhole.nd
 ⟨_,(jD (kQ ((jJ3 (jG jAP gD T.isinstance (by decide+kernel) (j3 (jv 0 rfl vL) (j3 (jE4 (v:= .ty "int") gD T.int (by decide+kernel) rfl) j7 j4) j4) j4) (jIX (jPK (jG jAP gD T.isinstance (by decide+kernel) (j3 (jv 0 rfl vL) (j3 (jE4 (v:= .ty "bool") gD T.bool (by decide+kernel) rfl) j7 j4) j4) j4)))))))⟩
theorem jKD {f:Addr}{fd:FuncData}(F:Fun K "_law_whole" "_law_whole" jBF f fd)(T:Txt mg):FnOk P w K mg base CX0 1 f fd ["found"] jCI:=by
 refine F.ok scWhole (fun vs H Q E h=>?_) (fun cdv A outer s H vs Q E hr h=>?_)
 ·obtain⟨_,rfl,_⟩:=h
  rfl
 ·obtain⟨i,rfl,q⟩:=h
  refine⟨_,(jO5 T).2.h,?_⟩
  refine⟨_,rfl,_,_,_,true,rfl, .int i,rfl,true,rfl,?_⟩
  rw[ao rfl]
  exact⟨_,rfl,_,_,_,false,rfl, .int i,rfl,false,rfl,q⟩
end
theorem jO4 {c:List Int}(h:c.Pairwise (· < ·)):(adj c).all id=true:=by
 rw[bP]
 intro x hx
 obtain⟨k,hk,rfl⟩:=aN.mp hx
 have hk:=cm.mp hk
 have:=bZ.mp h k (k+1) (by omega) (by omega) (by omega)
 show decide _=true
 rw[bo]
 rw[ar,ar,ai (by omega),ai (by omega)]
 exact this
theorem cut1 (vs:List V):cutV vs (some 1) none=vs.drop 1:=by
 unfold cutV
 have s1:HT.sIx vs.length 0 (some 1)=min 1 vs.length:=HT.sIx_nat _ _ 1
 rw[s1,HT.sIx_none]
 by_cases h1:vs.length=0
 ·have:vs=[]:=gd.mp h1
  subst this
  rfl
 ·rw[show min 1 vs.length=1 by omega]
  exact bC (by rw[cO]; omega)
theorem jI0:∀ c:List Int,(replicate c.length true).map V.bl=c.map fun _=>V.bl true
 | []=>rfl
 | a::r=>by rw[aZ,cI,bq,bq,jI0 r]
theorem jMA (n:Nat):((replicate n true)).all id=true:=by
 rw[bP]
 intro x hx
 rw[(List.mem_replicate.mp hx).2]
 rfl
section
variable {P:Program}{w:World}{K:W.Frag}{mg:Str->Option Value}{base:Heap}
variable {f fW fU fV:Addr}{fdW fdU fdV:FuncData}{cdv:Value}{A:Around}{outer:List Env}{s:Shared}{H0:Hp}{E:XK}
noncomputable abbrev nUpto:List Str:=["thing","least","most"]
theorem scUpto:FnScope nUpto ["thing","least","most"] (j5 sUpto):=⟨rfl,rfl,rfl,by decide+kernel,rfl,by decide+kernel,by decide+kernel⟩
def spUpI:Sp:=fun vs H Q _=>∃ i lo hi:Int,vs=[.int i, .int lo, .int hi]/\lo<=i/\i<=hi/\Q (.bl true) H
def uptoA (T:Txt mg)(CW:Can P w K mg base "_law_whole" 1 fW fdW ["found"] jCI)(hr:Room 1 (XOf nUpto "_law_upto" sUpto P w K mg base f cdv A outer s H0 E).A): { t:TS // JSs (XOf nUpto "_law_upto" sUpto P w K mg base f cdv A outer s H0 E) (jB sUpto) t} :=
 have nd:=scUpto.nd
 ⟨_,(jD (kQ ((jJ3 (CW.je hr gD (j3 (jv 0 rfl vL) j7 j4) j4) (jIX (jKP op_le op_le (jv 1 rfl vL) (jv 0 rfl vL) (jv 2 rfl vL)))))))⟩
theorem jN2 {fd:FuncData}(F:Fun K "_law_upto" "_law_upto" sUpto f fd)(T:Txt mg)(CW:Can P w K mg base "_law_whole" 1 fW fdW ["found"] jCI):FnOk P w K mg base CX0 2 f fd ["thing","least","most"] spUpI:=by
 refine F.ok scUpto (fun vs H Q E h=>?_) (fun cdv A outer s H vs Q E hr h=>?_)
 ·obtain⟨_,_,_,rfl,_⟩:=h
  rfl
 ·obtain⟨i,lo,hi,rfl,h1,h2,q⟩:=h
  refine⟨_,(uptoA T CW hr).2.h,?_⟩
  refine⟨_,rfl,i,rfl,_,rfl,iteT ⟨_,rfl,_,rfl,_,_,rfl,rfl,_,rfl,iteT' (aK h1) ?_⟩⟩
  exact⟨_,rfl,_,_,rfl,rfl,qb q (aK h2).symm⟩
abbrev jCM:List Str:=["box","thing"]
theorem scRightC:FnScope jCM ["box","thing"] (j5 kY):=⟨rfl,rfl,rfl,by decide+kernel,rfl,by decide+kernel,by decide+kernel⟩
def jDP:Sp:=fun vs H Q _=>∃ (b a:Addr) (w:Int) (ms:List Int) (pcs:List (List Int×Int)) (c:List Int),vs=[.ref b, .ref a]/\BoxAt H b w ms pcs/\Good 16 32 w ms pcs/\H a=some (.tup (c.map V.int))/\IsCov w ms pcs c/\∀ H',Ext H H'->Q (.bl true) H'
def jM9 (T:Txt mg)(CU:Can P w K mg base "_law_upto" 2 fU fdU ["thing","least","most"] spUpI)(CV:Can P w K mg base "_law_covers" 1 fV fdV ["box","some"] jC5)(hr:Room 2 (XOf jCM "_law_right_covering" kY P w K mg base f cdv A outer s H0 E).A): { t:TS // JSs (XOf jCM "_law_right_covering" kY P w K mg base f cdv A outer s H0 E) (jB kY) t} :=
 have nd:=scRightC.nd
 ⟨_,(jA (yX (jt_w (jw_or (jF0 (jEZ (jG jAP gD T.isinstance (by decide+kernel) (j3 (jv 1 rfl vL) (j3 (jE4 (v:= .ty "tuple") gD T.tuple (by decide+kernel) rfl) j7 j4) j4) j4) jCF)) (jEY (jF0 (jEZ (jG (jFA rfl) gD T.all (by decide+kernel) (j3 (yE (m:=[none,some 0]) (Nc:=["one","box"]) rfl (jF1 (jv 1 rfl vL)) rfl (by decide+kernel) (by decide+kernel) (jZ (psc:=j5 kY) (by decide+kernel)) (jO (N:=jCM) rfl rfl (by decide+kernel)) (fun cl C fp s H=>jH (i:=0) (show (["one","box"]:List Str).Nodup by decide+kernel) rfl (yU (by decide+kernel))) (fun cl C fp s H=>kU) (fun cl C fp s H=>(CU.je (hr.mono (by decide)) (gl_b (by decide+kernel)) (j3 (jv 0 rfl (kJ (by decide+kernel))) (j3 (je_int) (j3 (jK jBG (jG jHB (gl_b (by decide+kernel)) T.len (by decide+kernel) (j3 (jP jA9 (jv 1 rfl (kW (by decide+kernel))) (je_int) jE) j7 kB) kB) (je_int)) j7 kN) jR) j4) j4)) jAH) j7 jS) jS) jCF))))) (jD (kQ (je_bl))) yC)
   (jD (kQ ((jJ3 (jG (jFA rfl) gD T.all (by decide+kernel) (j3 (yE (m:=[none,none]) (Nc:=["one","other"]) rfl (jPJ gD T.zip (j3 (jv 1 rfl vL) (j3 (jE3 jM8 (jv 1 rfl vL) (jE1 (je_int)) jIS) j7 kB) j4) j4) rfl (by decide+kernel) (by decide+kernel) (jZ (psc:=j5 kY) (by decide+kernel)) (jO (N:=jCM) rfl rfl (by decide+kernel)) (fun cl C fp s H=>jCT (i:=0) (j:=1) rfl (show (["one","other"]:List Str).Nodup by decide+kernel) rfl rfl (by decide+kernel) (by decide+kernel)) (fun cl C fp s H=>kU) (fun cl C fp s H=>(jJ1 op_lt (jv 0 rfl (kJ (by decide+kernel))) (jv 1 rfl (kJ (by decide+kernel))) (jU _))) y6) j7 jS) jS) (jIX (CV.je (hr.mono (by decide)) gD (j3 (jv 0 rfl vC) (j3 (jv 1 rfl vL) j7 j4) j4) j4)))))))⟩
theorem jIC {fd:FuncData}(F:Fun K "_law_right_covering" "_law_right_covering" kY f fd)(T:Txt mg)(CU:Can P w K mg base "_law_upto" 2 fU fdU ["thing","least","most"] spUpI)(CV:Can P w K mg base "_law_covers" 1 fV fdV ["box","some"] jC5):FnOk P w K mg base CX0 3 f fd ["box","thing"] jDP:=by
 refine F.ok scRightC (fun vs H Q E h=>?_) (fun cdv A outer s H vs Q E hr h=>?_)
 ·obtain⟨_,_,_,_,_,_,rfl,_⟩:=h
  rfl
 ·obtain⟨b,a,w,ms,pcs,c,rfl,hB,g,ha,C,q⟩:=h
  obtain⟨qm,qp,ps,b1,b2,b3,b4⟩:=id hB.ex
  have pl:=b4.len
  have gpl:=g.pl
  have cl:=jBO c 0 _ C.ris.ris C.ris.bnd
  have hn:(c.map V.int).length<sizeLine:=by rw[aL,ab]; omega
  refine⟨_,(jM9 T CU CV hr).2.h,?_⟩
  refine⟨_,rfl,_,_,_,true,rfl, .tup ha,rfl,true,rfl,iteF ?_⟩
  refine⟨_,rfl,a,rfl,⟨_,SqT.of ha⟩,jE8 (fun σ=>∃ v,σ=[v,some (.ref b)]) (mapZ c fun _=>V.bl true) (mapZ.ok _ _) ha hn ⟨_,rfl⟩ ?_ ?_⟩
  ·rintro j x σ' H1 zs hx ⟨v,rfl⟩ e1 hz S1 S2 yes no
   obtain⟨z,hz1,rfl⟩:=aO .. ▸ hx |> fun h=>by simpa using h
   have zb:=C.ris.bnd z (ak hz1)
   dsimp only [jV,yN]
   rw[ao rfl]
   exact⟨_,rfl,_,rfl,b,_,2,_,rfl,rfl,SqT.of (e1 _ _ b1),rfl,qp,_,rfl, .inr (SqT.of (e1 _ _ b3)),_,_,rfl,rfl,z,0,_,rfl,zb.1,by rw[pl]; omega,yes _ _ _ ⟨_,rfl⟩ (Ext.refl _) (mapZ.yes hz hz1)⟩
  ·intro D H1 zs hD e1 nD hz
   have hz:=hz.all (by rw[ab]; exact az _)
   subst hz
   refine⟨D,replicate c.length true,rfl,?_,_,rfl,?_⟩
   ·have:(replicate c.length true).map V.bl=c.map fun _=>V.bl true:=jI0 c
    rw[this]
    exact SqL.of hD
   rw[jMA]
   refine iteF ?_
   have ha1:=e1 _ _ ha
   refine⟨_,rfl,_,rfl,1,rfl,a,_,rfl,ha1,fun r H2 hr2 e2=>?_⟩
   rw[cut1] at hr2
   refine⟨true,true,a,r,rfl,⟨_,SqT.of (e2 _ _ ha1)⟩,⟨_,SqT.of hr2⟩,jL3 (xs:=c.map V.int) (ys:=(c.map V.int).drop 1) hn (fun D i σ' H' zs=>(∃ v1 v2,σ'=[v1,v2])/\zs=((adj c).take i).map V.bl/\Ext H2 H'/\H' D=some (.lst zs)/\H2 D=none) ?_ ?_ ?_ ?_⟩
   ·intro D hD
    exact⟨⟨_,_,rfl⟩,rfl,(Ext.refl _).new hD _,j6,hD⟩
   ·rintro D i σ' H' zs hD ⟨_,rfl,ex,h2,_⟩
    refine⟨SqT.of (ex _ _ (e2 _ _ ha1)),SqT.of (ex _ _ hr2),h2,?_⟩
    rw[ab,aU]
    omega
   ·rintro D i σ' H' zs x y t hD hx1 hy1 ht1 ⟨⟨v1,v2,rfl⟩,rfl,ex,h2,hn2⟩
    rw[cU,g9] at hy1
    have hlt:i+1<(c.map V.int).length:=(af.mp hy1).1
    rw[ab] at hlt
    rw[getI (by omega)] at hx1 hy1
    cases hx1
    cases hy1
    have tD:D≠t:=jC h2 ht1
    refine⟨t,_,rfl,SqT.of j6,rfl,_,_,rfl,_,_,rfl,rfl,?_⟩
    dsimp only [jV,yN]
    rw[ao rfl]
    refine⟨_,rfl,_,rfl,_,_,rfl,rfl,by rw[j8 tD]; exact h2,⟨_,_,rfl⟩,?_,(ex.new ht1 _).updNew hn2 _,j6,hn2⟩
    rw[jL8 (by omega),aQ]
    rfl
   ·rintro D2 σ' H' zs hD2 ⟨_,rfl,ex,h2,_⟩
    have hlen:min (c.map V.int).length ((c.map V.int).drop 1).length=(adj c).length:=by
     rw[jO3,cO,ab]
     omega
    rw[hlen,bK] at h2
    have EE:=(e1.trans e2).trans ex
    refine⟨D2,_,rfl,SqL.of h2,_,rfl,?_⟩
    rw[jO4 C.ris.ris]
    refine iteT ⟨_,rfl,_,rfl,b,a,w,ms,pcs,c,rfl,hB.mono fun b xs h=>EE b _ h,g,EE _ _ ha,C.ris.bnd,by omega,fun H4 e4=>qb (q H4 (EE.trans e4)) ?_⟩
    exact((jL2 g C.ris).mpr C).symm
end
end Eo
end
section
namespace Eo
open L2
def offL (L p:List Int):List Int:=L.filter fun t=>decide (t∉p)
theorem mem_offL {L p:List Int}{t:Int} :t∈offL L p↔t∈L/\t∉p:=by
 unfold offL
 rw[bU,bo]
theorem nil_iff {L:List Int} :L=[]↔∀ t,t∉L:=by
 constructor
 ·rintro rfl t ht
  cases ht
 ·exact List.eq_nil_iff_forall_not_mem.mpr
end Eo
end
section
namespace Eo
open PySem L2
theorem mem_upto' {n:Nat}{t:Int} :t∈upto n↔0<=t/\t<n:=by
 unfold upto
 rw[aN]
 constructor
 ·rintro ⟨i,hi,rfl⟩
  have:=cm.mp hi
  omega
 ·rintro ⟨a,b⟩
  exact⟨t.toNat,cm.mpr (by omega),by omega⟩
section
variable {s m:Nat->Nat}
end
def xw:List (List Int×Int)->List Int->Int->Prop
 | [],L,W=>L=[]/\W=0
 | p::ps,L,W=>xw ps L W\/((∀ t∈p.1,t∈L)/\xw ps (offL L p.1) (W - p.2))
theorem jC1:∀ {ps qs:List (List Int×Int)}{L L':List Int}{W:Int},All2 (fun p q=>(∀ t:Int,t∈p.1↔t∈q.1)/\p.2=q.2) ps qs->(∀ t,t∈L↔t∈L')->(xw ps L W↔xw qs L' W)
 | [],[],L,L',W,_,h=>by
  have e:L=[]↔L'=[]:=by rw[nil_iff,nil_iff]; exact forall_congr' fun t=>not_congr (h t)
  show (L=[]/\W=0)↔(L'=[]/\W=0)
  rw[e]
 | p::ps,q::qs,L,L',W,⟨⟨hp,hw⟩,hs⟩,h=>by
  have e:(∀ t∈p.1,t∈L)↔(∀ t∈q.1,t∈L'):=⟨fun z t ht=>(h t).mp (z t ((hp t).mpr ht)),fun z t ht=>(h t).mpr (z t ((hp t).mp ht))⟩
  show (xw ps L W\/_/\xw ps (offL L p.1) (W - p.2))↔(xw qs L' W\/_/\xw qs (offL L' q.1) (W - q.2))
  rw[jC1 hs h,e,jC1 hs (L:=offL L p.1) (L':=offL L' q.1) fun t=>by rw[mem_offL,mem_offL,h t,hp t],hw]
theorem jDE {ps:List (List Int×Int)} :All2 (fun p q=>(∀ t:Int,t∈p.1↔t∈q.1)/\p.2=q.2) ps ps:=by
 induction ps with
 | nil=>trivial
 | cons p ps ih=>exact⟨⟨fun _=>Iff.rfl,rfl⟩,ih⟩
theorem jCA {ps:List (List Int×Int)}{L L':List Int}{W:Int}(h:∀ t,t∈L↔t∈L'):xw ps L W↔xw ps L' W:=jC1 jDE h
theorem jM1 (p q:List Int×Int)(ps:List (List Int×Int))(L:List Int)(W:Int)(h:xw (p::q::ps) L W):xw (q::p::ps) L W:=by
 have c:∀ U,xw ps (offL (offL L p.1) q.1) U↔xw ps (offL (offL L q.1) p.1) U:=fun U=>jCA fun t=>by
  rw[mem_offL,mem_offL,mem_offL,mem_offL]
  exact⟨fun ⟨⟨a,b⟩,c⟩=>⟨⟨a,c⟩,b⟩,fun ⟨⟨a,b⟩,c⟩=>⟨⟨a,c⟩,b⟩⟩
 rcases h with (h | ⟨h1,h2⟩) | ⟨h1,h2 | ⟨h3,h4⟩⟩
 ·exact .inl (.inl h)
 ·exact .inr ⟨h1, .inl h2⟩
 ·exact .inl (.inr ⟨h1,h2⟩)
 ·refine .inr ⟨fun t ht=>(mem_offL.mp (h3 t ht)).1, .inr ⟨fun t ht=>mem_offL.mpr ⟨h1 t ht,fun y=>(mem_offL.mp (h3 t y)).2 ht⟩,?_⟩⟩
  rw[<- c,show W - q.2 - p.2=W - p.2 - q.2 by omega]
  exact h4
theorem jG5 {ps qs:List (List Int×Int)}(h:ps.Perm qs):∀ L W,xw ps L W->xw qs L W:=by
 induction h with
 | nil=>exact fun _ _ h=>h
 | cons p _ ih=>exact fun L W h=>h.elim (fun h=> .inl (ih L W h)) fun ⟨a,b⟩=> .inr ⟨a,ih _ _ b⟩
 | swap p q ps=>exact fun L W=>jM1 q p ps L W
 | trans _ _ h1 h2=>exact fun L W h=>h2 L W (h1 L W h)
theorem jDF {ps qs:List (List Int×Int)}(h:ps.Perm qs){L:List Int}{W:Int} :xw ps L W↔xw qs L W:=⟨jG5 h L W,jG5 h.symm L W⟩
theorem jG6:∀ {ps:List (List Int×Int)}{L:List Int}{W t:Int},t∈L->(∀ p∈ps,t∉p.1)->¬ xw ps L W
 | [],L,W,t,ht,_,h=>by rw[h.1] at ht; cases ht
 | p::ps,L,W,t,ht,hn,h=>by
  have hn':=fun q hq=>hn q (ay p hq)
  rcases h with h | ⟨_,h⟩
  ·exact jG6 ht hn' h
  ·exact jG6 (mem_offL.mpr ⟨ht,hn p (aG ..)⟩) hn' h
theorem jFF:∀ {A B:List (List Int×Int)}{L:List Int}{W:Int},(∀ p∈A,∃ t∈p.1,t∉L)->(xw (A++B) L W↔xw B L W)
 | [],_,_,_,_=>Iff.rfl
 | p::A,B,L,W,h=>by
  have ih:=jFF (A:=A) (B:=B) (L:=L) (W:=W) fun q hq=>h q (ay p hq)
  refine⟨fun z=>?_,fun z=> .inl (ih.mpr z)⟩
  rcases z with z | ⟨a,_⟩
  ·exact ih.mp z
  ·obtain⟨t,ht,hn⟩:=h p (aG ..)
   exact absurd (a t ht) hn
theorem jL9 {t:Int} :∀ {A B:List (List Int×Int)}{L:List Int}{W:Int},(∀ p∈A,t∈p.1)->(∀ p∈B,t∉p.1)->t∈L->(xw (A++B) L W↔∃ p∈A,(∀ s∈p.1,s∈L)/\xw B (offL L p.1) (W - p.2))
 | [],B,L,W,_,hB,ht=>⟨fun h=>absurd h (jG6 ht hB),fun ⟨_,h,_⟩=>by cases h⟩
 | p::A,B,L,W,hA,hB,ht=>by
  have hA':=fun q hq=>hA q (ay p hq)
  have ih:=jL9 (A:=A) (B:=B) (L:=L) (W:=W) hA' hB ht
  have sk:=jFF (A:=A) (B:=B) (L:=offL L p.1) (W:=W - p.2) fun q hq=>⟨t,hA' q hq,fun y=>(mem_offL.mp y).2 (hA p (aG ..))⟩
  show (xw (A++B) L W\/_/\xw (A++B) (offL L p.1) (W - p.2))↔_
  rw[ih,sk]
  constructor
  ·rintro (⟨q,hq,h⟩ | h)
   ·exact⟨q,ay _ hq,h⟩
   ·exact⟨p,aG .., h⟩
  ·rintro ⟨q,hq,h⟩
   rcases aH.mp hq with rfl | z
   ·exact .inr h
   ·exact .inl ⟨q,z,h⟩
theorem jG7:∀ {A B:List (List Int×Int)}{L M:List Int}{W:Int},(∀ p∈A,∀ t∈p.1,t∉M)->(∀ p∈B,∀ t∈p.1,t∉L)->(∀ t∈L,t∉M)->(xw (A++B) (L++M) W↔∃ U,xw A L U/\xw B M (W - U))
 | [],B,L,M,W,_,hB,d=>by
  show xw B (L++M) W↔∃ U,(L=[]/\U=0)/\xw B M (W - U)
  constructor
  ·intro h
   by_cases z:L=[]
   ·subst z
    exact⟨0,⟨rfl,rfl⟩,by rw[h9]; exact h⟩
   ·obtain⟨t,ht⟩:=List.exists_mem_of_ne_nil L z
    exact absurd h (jG6 (aJ _ ht) fun p hp y=>hB p hp t y ht)
  ·rintro ⟨U,⟨rfl,rfl⟩,h⟩
   rw[h9] at h
   exact h
 | p::A,B,L,M,W,hA,hB,d=>by
  have hA':=fun q hq=>hA q (ay p hq)
  have h1:=jG7 (W:=W) hA' hB d
  have hp:=hA p (aG ..)
  have e:(∀ t∈p.1,t∈L++M)↔(∀ t∈p.1,t∈L):=⟨fun z t ht=>(aq.mp (z t ht)).elim id fun y=>absurd y (hp t ht),fun z t ht=>aJ _ (z t ht)⟩
  have h2:=jG7 (A:=A) (B:=B) (L:=offL L p.1) (M:=M) (W:=W - p.2) hA' (fun q hq t ht y=>hB q hq t ht (mem_offL.mp y).1) fun t ht=>d t (mem_offL.mp ht).1
  have h3:xw (A++B) (offL (L++M) p.1) (W - p.2)↔xw (A++B) (offL L p.1++M) (W - p.2):=jCA fun t=>by
   rw[mem_offL,aq,aq,mem_offL]
   constructor
   ·rintro ⟨a | a,b⟩
    ·exact .inl ⟨a,b⟩
    ·exact .inr a
   ·rintro (⟨a,b⟩ | a)
    ·exact⟨.inl a,b⟩
    ·exact⟨.inr a,fun y=>hp t y a⟩
  show (xw (A++B) (L++M) W\/_/\xw (A++B) (offL (L++M) p.1) (W - p.2))↔∃ U,(xw A L U\/_/\xw A (offL L p.1) (U - p.2))/\_
  rw[h1,h3,h2,e]
  constructor
  ·rintro (⟨U,a,b⟩ | ⟨a,U,b,c⟩)
   ·exact⟨U, .inl a,b⟩
   ·exact⟨U+p.2, .inr ⟨a,by rw[show U+p.2 - p.2=U by omega]; exact b⟩,by rw[show W - (U+p.2)=W - p.2 - U by omega]; exact c⟩
  ·rintro ⟨U,a | ⟨a,b⟩,c⟩
   ·exact .inl ⟨U,a,c⟩
   ·exact .inr ⟨a,U - p.2,b,by rw[show W - p.2 - (U - p.2)=W - U by omega]; exact c⟩
theorem jDG {f:Int->Int}{U:Int->Prop}(hf:∀ a b,U a->U b->f a=f b->a=b):∀ {ps:List (List Int×Int)}{L:List Int}{W:Int},(∀ p∈ps,∀ t∈p.1,U t)->(∀ t∈L,U t)->(xw (ps.map fun p=>(p.1.map f,p.2)) (L.map f) W↔xw ps L W)
 | [],L,W,_,_=>by
  show (L.map f=[]/\W=0)↔(L=[]/\W=0)
  rw[gN]
 | p::ps,L,W,hp,hL=>by
  have hp0:=hp p (aG ..)
  have hps:=fun q hq=>hp q (ay p hq)
  have e:(∀ t∈p.1.map f,t∈L.map f)↔(∀ t∈p.1,t∈L):=by
   constructor
   ·intro z t ht
    obtain⟨s,hs,he⟩:=aN.mp (z (f t) (bv ht))
    rw[<- hf _ _ (hL s hs) (hp0 t ht) he]
    exact hs
   ·intro z t ht
    obtain⟨s,hs,rfl⟩:=aN.mp ht
    exact bv (z s hs)
  have e2:xw (ps.map fun p=>(p.1.map f,p.2)) (offL (L.map f) (p.1.map f)) (W - p.2)↔xw (ps.map fun p=>(p.1.map f,p.2)) ((offL L p.1).map f) (W - p.2):=jCA fun t=>by
   rw[mem_offL]
   constructor
   ·rintro ⟨a,b⟩
    obtain⟨s,hs,rfl⟩:=aN.mp a
    exact bv (mem_offL.mpr ⟨hs,fun y=>b (bv y)⟩)
   ·intro a
    obtain⟨s,hs,rfl⟩:=aN.mp a
    obtain⟨h1,h2⟩:=mem_offL.mp hs
    exact⟨bv h1,fun y=>by
     obtain⟨u,hu,he⟩:=aN.mp y
     rw[hf _ _ (hp0 u hu) (hL s h1) he] at hu
     exact h2 hu⟩
  show (xw (ps.map _) (L.map f) W\/_/\xw (ps.map _) (offL (L.map f) (p.1.map f)) (W - p.2))↔(xw ps L W\/_/\xw ps (offL L p.1) (W - p.2))
  rw[jDG hf hps hL,e,e2,jDG hf hps fun t ht=>hL t (mem_offL.mp ht).1]
def Lst (ps:List (List Int×Int))(L:List Int)(d:Int):Prop:=xw ps L d/\∀ W,xw ps L W->d<=W
theorem Lst.of {ps qs:List (List Int×Int)}{L L':List Int}{d:Int}(h:Lst ps L d)(e:∀ W,xw qs L' W↔xw ps L W):Lst qs L' d:=⟨(e d).mpr h.1,fun W z=>h.2 W ((e W).mp z)⟩
theorem Lst.mul {A B:List (List Int×Int)}{L M:List Int}{d e:Int}(h:Lst A L d)(k:Lst B M e)(hA:∀ p∈A,∀ t∈p.1,t∉M)(hB:∀ p∈B,∀ t∈p.1,t∉L)(dj:∀ t∈L,t∉M):Lst (A++B) (L++M) (d+e):=by
 refine⟨(jG7 hA hB dj).mpr ⟨d,h.1,by rw[show d+e - d=e by omega]; exact k.1⟩,fun W z=>?_⟩
 obtain⟨U,a,b⟩:=(jG7 hA hB dj).mp z
 have:=h.2 _ a
 have:=k.2 _ b
 omega
def sg0 (ms:List Int):List (List Int×Int):=ms.map fun t=>([t],0)
theorem jHH:∀ {ms L:List Int}{W:Int},xw (sg0 ms) L W↔(∀ t∈L,t∈ms)/\W=0
 | [],L,W=>by
  show (L=[]/\W=0)↔_
  rw[nil_iff]
  exact⟨fun ⟨a,b⟩=>⟨fun t ht=>absurd ht (a t),b⟩,fun ⟨a,b⟩=>⟨fun t ht=>(by cases a t ht),b⟩⟩
 | m::ms,L,W=>by
  show (xw (sg0 ms) L W\/(∀ t∈[m],t∈L)/\xw (sg0 ms) (offL L [m]) (W - 0))↔_
  rw[jHH,jHH,h9]
  constructor
  ·rintro (⟨a,b⟩ | ⟨a,b,c⟩)
   ·exact⟨fun t ht=>ay _ (a t ht),b⟩
   ·refine⟨fun t ht=>?_,c⟩
    by_cases z:t=m
    ·rw[z]; exact aG ..
    ·exact ay _ (b t (mem_offL.mpr ⟨ht,fun y=>z (ah.mp y)⟩))
  ·rintro ⟨a,b⟩
   by_cases z:m∈L
   ·refine .inr ⟨fun t ht=>by rw[ah.mp ht]; exact z,fun t ht=>?_,b⟩
    obtain⟨h1,h2⟩:=mem_offL.mp ht
    rcases aH.mp (a t h1) with y | y
    ·exact absurd (ah.mpr y) h2
    ·exact y
   ·refine .inl ⟨fun t ht=>?_,b⟩
    rcases aH.mp (a t ht) with y | y
    ·rw[y] at ht; exact absurd ht z
    ·exact y
structure Sel (pcs:List (List Int×Int))(ms:List Int)(k:Nat)(L c:List Int):Prop where
 ris:c.Pairwise (· < ·)
 bnd:∀ j∈c,(k:Int)<=j/\j<pcs.length
 dis:∀ i∈c,∀ j∈c,i≠j->∀ t∈j9 pcs i,t∉j9 pcs j
 sub:∀ j∈c,∀ t∈j9 pcs j,t∈L
 cov:∀ t∈L,t∉ms->∃ j∈c,t∈j9 pcs j
theorem jHI {pcs:List (List Int×Int)}{ms:List Int} :∀ (n k:Nat),k+n=pcs.length->∀ {L:List Int}{W:Int},xw (pcs.drop k++sg0 ms) L W↔∃ c,Sel pcs ms k L c/\wt pcs c=W
 | 0,k,hk,L,W=>by
  rw[em (by omega),gt,jHH]
  constructor
  ·rintro ⟨a,b⟩
   exact⟨[],⟨List.Pairwise.nil,fun _ h=>(by cases h),fun _ h=>(by cases h),fun _ h=>(by cases h),fun t ht z=>absurd (a t ht) z⟩,b.symm⟩
  ·rintro ⟨c,s,rfl⟩
   have e:c=[]:=nil_iff.mpr fun j hj=>by have:=s.bnd j hj; omega
   subst e
   exact⟨fun t ht=>bM fun z=>(by obtain⟨j,hj,_⟩:=s.cov t ht z; cases hj),rfl⟩
 | n+1,k,hk,L,W=>by
  have hl:k<pcs.length:=by omega
  rw[fw hl,fZ]
  have et:j9 pcs (k:Int)=pcs[k].1:=by
   unfold j9
   rw[bL,ar,ai hl]
   rfl
  have ew:wgt pcs (k:Int)=pcs[k].2:=by
   unfold wgt
   rw[bL,ar,ai hl]
   rfl
  show (xw (pcs.drop (k+1)++sg0 ms) L W\/(∀ t∈pcs[k].1,t∈L)/\xw (pcs.drop (k+1)++sg0 ms) (offL L pcs[k].1) (W - pcs[k].2))↔_
  rw[jHI n (k+1) (by omega),jHI n (k+1) (by omega),<- et,<- ew]
  constructor
  ·rintro (⟨c,s,e⟩ | ⟨a,c,s,e⟩)
   ·exact⟨c,⟨s.ris,fun j hj=>by have:=s.bnd j hj; omega,s.dis,s.sub,s.cov⟩,e⟩
   ·refine⟨(k:Int)::c,⟨cb.mpr ⟨fun j hj=>by have:=s.bnd j hj; omega,s.ris⟩,fun j hj=>?_,fun i hi j hj ne t ht=>?_,fun j hj t ht=>?_,fun t ht z=>?_⟩,by rw[jDH]; omega⟩
    ·rcases aH.mp hj with rfl | y
     ·omega
     ·have:=s.bnd j y; omega
    ·rcases aH.mp hi with rfl | y <;> rcases aH.mp hj with rfl | x
     ·exact absurd rfl ne
     ·exact fun q=>(mem_offL.mp (s.sub j x t q)).2 ht
     ·exact(mem_offL.mp (s.sub i y t ht)).2
     ·exact s.dis i y j x ne t ht
    ·rcases aH.mp hj with rfl | y
     ·exact a t ht
     ·exact(mem_offL.mp (s.sub j y t ht)).1
    ·by_cases y:t∈j9 pcs (k:Int)
     ·exact⟨k,aG .., y⟩
     ·obtain⟨j,hj,h⟩:=s.cov t (mem_offL.mpr ⟨ht,y⟩) z
      exact⟨j,ay _ hj,h⟩
  ·rintro ⟨c,s,e⟩
   by_cases hc:(k:Int)∈c
   ·right
    obtain⟨c',rfl⟩:∃ c',c=(k:Int)::c':=by
     cases c with
     | nil=>cases hc
     | cons x c'=>
      rcases aH.mp hc with y | y
      ·exact⟨c',by rw[y]⟩
      ·have h1:=(cb.mp s.ris).1 _ y
       have h2:=(s.bnd x (aG ..)).1
       omega
    obtain⟨r1,r2⟩:=cb.mp s.ris
    have ne:∀ j∈c',(k:Int)≠j:=fun j hj=>by have:=r1 j hj; omega
    refine⟨fun t ht=>s.sub _ (aG ..) t ht,c',⟨r2,fun j hj=>?_,fun i hi j hj=>s.dis i (ay _ hi) j (ay _ hj),fun j hj t ht=>mem_offL.mpr ⟨s.sub j (ay _ hj) t ht,fun y=>s.dis _ (aG ..) j (ay _ hj) (ne j hj) t y ht⟩,fun t ht z=>?_⟩,by rw[jDH] at e; omega⟩
    ·have:=r1 j hj
     have:=s.bnd j (ay _ hj)
     omega
    ·obtain⟨h1,h2⟩:=mem_offL.mp ht
     obtain⟨j,hj,h⟩:=s.cov t h1 z
     rcases aH.mp hj with rfl | y
     ·exact absurd h h2
     ·exact⟨j,y,h⟩
   ·left
    refine⟨c,⟨s.ris,fun j hj=>?_,s.dis,s.sub,s.cov⟩,e⟩
    have:=s.bnd j hj
    by_cases z:(k:Int)=j
    ·rw[z] at hc; exact absurd hj hc
    ·omega
theorem jLA {w:Int}{ms:List Int}{pcs:List (List Int×Int)}(g:Good 16 32 w ms pcs){W:Int} :xw (pcs++sg0 ms) (upto w.toNat) W↔∃ c,IsCov w ms pcs c/\wt pcs c=W:=by
 have w0:=g.w0
 have h:=jHI (pcs:=pcs) (ms:=ms) pcs.length 0 (by omega) (L:=upto w.toNat) (W:=W)
 rw[dH] at h
 rw[h]
 have mu:∀ t:Int,t∈upto w.toNat↔0<=t/\t<w:=fun t=>by rw[mem_upto']; omega
 constructor
 ·rintro ⟨c,s,e⟩
  exact⟨c,⟨⟨s.ris,fun j hj=>by have:=s.bnd j hj; omega⟩,s.dis,fun t a b z=>s.cov t ((mu t).mpr ⟨a,b⟩) z⟩,e⟩
 ·rintro ⟨c,s,e⟩
  exact⟨c,⟨s.ris.ris,fun j hj=>by have:=s.ris.bnd j hj; omega,s.dis,fun j hj t ht=>by
   have:=s.ris.bnd j hj
   have:=(yB g this.1 this.2).bnd t ht
   exact(mu t).mpr this,fun t ht z=>by have:=(mu t).mp ht; exact s.cov t this.1 this.2 z⟩,e⟩
theorem jD1 {a b:List Int}(h:a.Perm b):a.sum=b.sum:=by
 induction h with
 | nil=>rfl
 | cons x _ ih=>rw[dh,dh,ih]
 | swap x y l=>rw[dh,dh,dh,dh]; omega
 | trans _ _ h1 h2=>exact h1.trans h2
theorem jNC {w:Int}{ms:List Int}{pcs:List (List Int×Int)}(g:Good 16 32 w ms pcs){d:Int}(h:Lst (pcs++sg0 ms) (upto w.toNat) d):∃ x,minW pcs (wk (chs w.toNat ms pcs) 0)=some x/\wt pcs x=d/\IsCov w ms pcs (srt x):=by
 have wp:∀ x:List Int,wt pcs (srt x)=wt pcs x:=fun x=>by
  unfold wt
  exact jD1 ((jT x).map _)
 obtain⟨c,hc,ec⟩:=(jLA g).mp h.1
 have hm:c∈cvs w ms pcs:=(jIJ g).mpr hc
 obtain⟨x0,hx0,e0⟩:=aN.mp hm
 cases hmin:minW pcs (wk (chs w.toNat ms pcs) 0) with
 | none=>rw[minW_none.mp hmin] at hx0; cases hx0
 | some x=>
  obtain⟨m1,m2⟩:=jC7 hmin
  have cx:IsCov w ms pcs (srt x):=(jIJ g).mp (bv m1)
  refine⟨x,rfl,?_,cx⟩
  have a:=m2 x0 hx0
  have b:=h.2 _ ((jLA g).mpr ⟨_,cx,rfl⟩)
  rw[wp] at b
  have:wt pcs x0=d:=by rw[<- wp,e0,ec]
  omega
def mayL (a:Bool)(i:Nat):List Int:=if a=true then upto i else []
def prL (i:Nat):Option Int->List (List Int×Int)
 | none=> []
 | some y=> [([(i:Int) - 1,(i:Int)],y)]
def swL (i:Nat)(sw:List Int):List (List Int×Int):=sw.map fun x=>([(i:Int)],x)
structure BK (i:Nat)(a:Bool)(A:List (List Int×Int))(bs:List Int):Prop where
 len:bs.length=i+1
 pin:∀ p∈A,p.1.Pairwise (· < ·)/\p.1≠ []/\(∀ t∈p.1,0<=t/\t<(i:Int))/\ -1000000000000<=p.2/\p.2<=1000000000000
 l1:Lst (A++sg0 (mayL a i)) (upto i) (bs.getD i 0)
 l0:1<=i->Lst (A++sg0 (mayL a i)) (upto (i - 1)) (bs.getD (i - 1) 0)
 pl:A.length<=3*i
theorem BK.zero (a:Bool):BK 0 a [] [0]:=by
 have e:sg0 (mayL a 0)=[]:=by cases a <;> rfl
 refine⟨rfl,fun p h=>(by cases h),?_,fun h=>absurd h (by decide),az _⟩
 rw[e]
 exact⟨⟨rfl,rfl⟩,fun W h=>by rw[h.2]; exact cf _⟩
theorem jJA {bs:List Int}{x:Int}{i:Nat}(h:bs.length=i+1):(bs++[x]).getD (i+1) 0=x/\(bs++[x]).getD i 0=bs.getD i 0:=by
 constructor
 ·rw[ar,aS (by omega),h,fh]
  rfl
 ·rw[ar,bw (by omega),<- ar]
theorem jEF (i:Nat):upto (i+1)=upto i++[(i:Int)]:=by unfold upto; rw[gx,aQ]; rfl
theorem BK.step {i:Nat}{a:Bool}{A:List (List Int×Int)}{bs sw:List Int}{pr:Option Int}{m res:Int}(h:BK i a A bs)(sl:sw.length<=2)(sb:∀ x∈sw, -1000000000000<=x/\x<=1000000000000)(pb:∀ y,pr=some y-> -1000000000000<=y/\y<=1000000000000)(p0:i=0->pr=none)(mm:m∈sw++(if a=true then [0] else []))(ml:∀ x∈sw++(if a=true then [0] else []),m<=x)
  (r1:pr=none->res=bs.getD i 0+m) (r2:∀ y,pr=some y->res=bs.getD i 0+m/\bs.getD i 0+m<=bs.getD (i - 1) 0+y\/res=bs.getD (i - 1) 0+y/\bs.getD (i - 1) 0+y<=bs.getD i 0+m):BK (i+1) a (A++(swL i sw++prL i pr)) (bs++[res]):=by
 obtain⟨g1,g0⟩:=jJA (x:=res) h.len
 have eM:mayL a (i+1)=mayL a i++(if a=true then [(i:Int)] else []):=by
  cases a with
  | true=>exact jEF i
  | false=>rfl
 have pm:((A++(swL i sw++prL i pr))++sg0 (mayL a (i+1))).Perm (((swL i sw++prL i pr)++sg0 (if a=true then [(i:Int)] else []))++(A++sg0 (mayL a i))):=by
  have:sg0 (mayL a (i+1))=sg0 (mayL a i)++sg0 (if a=true then [(i:Int)] else []):=by rw[eM]; exact aQ ..
  rw[this]
  generalize swL i sw++prL i pr=N
  refine(List.Perm.append (bI) (bI)).trans ?_
  rw[aI,aI]
  refine bR _ ?_
  rw[<- aI,<- aI]
  exact bI.append_right _
 have inS:∀ p∈sg0 (if a=true then [(i:Int)] else []),a=true/\p=([(i:Int)],0):=fun p hp=>by
  cases a with
  | true=>exact⟨rfl,ah.mp hp⟩
  | false=>cases hp
 have inP:∀ p∈prL i pr,∃ y,pr=some y/\p=([(i:Int) - 1,(i:Int)],y):=fun p hp=>by
  cases pr with
  | none=>cases hp
  | some y=>exact⟨y,rfl,ah.mp hp⟩
 have inC:∀ p∈(swL i sw++prL i pr)++sg0 (if a=true then [(i:Int)] else []),(∃ x∈sw++(if a=true then [0] else []),p=([(i:Int)],x))\/∃ y,pr=some y/\p=([(i:Int) - 1,(i:Int)],y):=fun p hp=>by
  rcases aq.mp hp with z | z
  ·rcases aq.mp z with y | y
   ·obtain⟨x,hx,rfl⟩:=aN.mp y
    exact .inl ⟨x,aJ _ hx,rfl⟩
   ·exact .inr (inP p y)
  ·obtain⟨ha,rfl⟩:=inS p z
   exact .inl ⟨0,aF _ (by rw[ao ha]; exact cH _),rfl⟩
 have iC:∀ p∈(swL i sw++prL i pr)++sg0 (if a=true then [(i:Int)] else []),(i:Int)∈p.1:=fun p hp=>by
  rcases inC p hp with ⟨x,_,rfl⟩ | ⟨y,_,rfl⟩
  ·exact cH _
  ·exact ay _ (cH _)
 have iB:∀ p∈A++sg0 (mayL a i),(i:Int)∉p.1:=fun p hp y=>by
  rcases aq.mp hp with z | z
  ·have:=(h.pin p z).2.2.1 _ y
   omega
  ·obtain⟨t,ht,rfl⟩:=aN.mp z
   rw[<- ah.mp y] at ht
   cases a with
   | true=>have:=mem_upto'.mp ht; omega
   | false=>cases ht
 have iU:(i:Int)∈upto (i+1):=mem_upto'.mpr (by omega)
 have xo:∀ W,xw ((A++(swL i sw++prL i pr))++sg0 (mayL a (i+1))) (upto (i+1)) W↔_:=fun W=>(jDF pm).trans (jL9 iC iB iU)
 have s1:∀ U,xw (A++sg0 (mayL a i)) (offL (upto (i+1)) [(i:Int)]) U↔xw (A++sg0 (mayL a i)) (upto i) U:=fun U=>jCA fun t=>by
  rw[mem_offL,mem_upto',mem_upto',ah]
  omega
 have s2:1<=i->∀ U,xw (A++sg0 (mayL a i)) (offL (upto (i+1)) [(i:Int) - 1,(i:Int)]) U↔xw (A++sg0 (mayL a i)) (upto (i - 1)) U:=fun i1 U=>jCA fun t=>by
  rw[mem_offL,mem_upto',mem_upto']
  simp only [aH,bf,cJ]
  omega
 have memN:∀ x∈sw++(if a=true then [0] else []),(([(i:Int)],x):List Int×Int)∈(swL i sw++prL i pr)++sg0 (if a=true then [(i:Int)] else []):=fun x hx=>by
  rcases aq.mp hx with z | z
  ·exact aJ _ (aJ _ (bv (f:=fun x=>(([(i:Int)],x):List Int×Int)) z))
  ·cases a with
   | true=>
    rw[ao rfl,ah] at z
    rw[z]
    exact aF _ (cH _)
   | false=>cases z
 have sub1:∀ s∈[(i:Int)],s∈upto (i+1):=fun s hs=>by rw[ah.mp hs]; exact iU
 have t1:xw ((A++(swL i sw++prL i pr))++sg0 (mayL a (i+1))) (upto (i+1)) (bs.getD i 0+m):=(xo _).mpr ⟨_,memN m mm,sub1,(s1 _).mpr (by rw[show bs.getD i 0+m - m=bs.getD i 0 by omega]; exact h.l1.1)⟩
 refine⟨by rw[aj,h.len]; rfl,fun p hp=>?_,?_,fun _=>?_,?_⟩
 ·rcases aq.mp hp with z | z
  ·obtain⟨a1,a2,a3,a4⟩:=h.pin p z
   exact⟨a1,a2,fun t ht=>by have:=a3 t ht; omega,a4⟩
  ·rcases aq.mp z with y | y
   ·obtain⟨x,hx,rfl⟩:=aN.mp y
    exact⟨ge _ _,by simp,fun t ht=>by rw[ah.mp ht]; omega,sb x hx⟩
   ·obtain⟨yy,hy,rfl⟩:=inP p y
    have i1:1<=i:=g7 fun z=>by rw[p0 z] at hy; cases hy
    refine⟨cb.mpr ⟨fun t ht=>(by rw[ah.mp ht]; omega),ge _ _⟩,by simp,fun t ht=>?_,pb yy hy⟩
    simp only [aH,bf,cJ] at ht
    omega
 ·rw[g1]
  have low1:∀ x∈sw++(if a=true then [0] else []),∀ W,xw (A++sg0 (mayL a i)) (offL (upto (i+1)) [(i:Int)]) (W - x)->bs.getD i 0+m<=W:=fun x hx W z=>by
   have:=h.l1.2 _ ((s1 _).mp z)
   have:=ml x hx
   omega
  cases hpr:pr with
  | none=>
   have e:=r1 hpr
   subst hpr
   refine⟨by rw[e]; exact t1,fun W z=>?_⟩
   obtain⟨p,hp,_,hx⟩:=(xo W).mp z
   rcases inC p hp with ⟨x,hx',rfl⟩ | ⟨y,hy,_⟩
   ·rw[e]
    exact low1 x hx' W hx
   ·cases hy
  | some y=>
   have e:=r2 y hpr
   have i1:1<=i:=g7 fun z=>by rw[p0 z] at hpr; cases hpr
   have l0:=h.l0 i1
   have pmem:(([(i:Int) - 1,(i:Int)],y):List Int×Int)∈(swL i sw++prL i pr)++sg0 (if a=true then [(i:Int)] else []):=aJ _ (aF _ (by rw[hpr]; exact cH _))
   have t2:xw ((A++(swL i sw++prL i pr))++sg0 (mayL a (i+1))) (upto (i+1)) (bs.getD (i - 1) 0+y):=(xo _).mpr ⟨_,pmem,fun s hs=>by
    simp only [aH,bf,cJ] at hs
    exact mem_upto'.mpr (by omega),(s2 i1 _).mpr (by rw[show bs.getD (i - 1) 0+y - y=bs.getD (i - 1) 0 by omega]; exact l0.1)⟩
   rw[<- hpr]
   refine⟨by rcases e with ⟨e,_⟩ | ⟨e,_⟩ <;> rw[e] <;> assumption,fun W z=>?_⟩
   obtain⟨p,hp,_,hx⟩:=(xo W).mp z
   rcases inC p hp with ⟨x,hx',rfl⟩ | ⟨y',hy,rfl⟩
   ·have:=low1 x hx' W hx
    omega
   ·rw[hpr] at hy
    cases hy
    have:=l0.2 _ ((s2 i1 _).mp hx)
    omega
 ·rw[g6,g0]
  refine h.l1.of fun W=>(jDF pm).trans (jFF fun p hp=>⟨(i:Int),iC p hp,fun y=>?_⟩)
  have:=mem_upto'.mp y
  omega
 ·have:=h.pl
  have e1:(swL i sw).length=sw.length:=ab ..
  have e2:(prL i pr).length<=1:=by cases pr <;> (unfold prL; simp)
  rw[aj,aj]
  omega
theorem PcsAt.app {H:Hp} :∀ {vs:List V}{ps:List (List Int×Int)}{us:List V}{qs:List (List Int×Int)},PcsAt H vs ps->PcsAt H us qs->PcsAt H (vs++us) (ps++qs)
 | [],[],_,_,_,h=>h
 | _::_,_::_,_,_,h,r=>⟨h.1,h.2.app r⟩
 | [],_::_,_,_,h,_=>h.elim
 | _::_,[],_,_,h,_=>h.elim
section
variable {P:Program}{w:World}{K:W.Frag}{mg:Str->Option Value}{base:Heap}
variable {f fT:Addr}{fdT:FuncData}{cdv:Value}{A:Around}{outer:List Env}{s:Shared}{H0:Hp}{E:XK}
abbrev yK:List Str:=["pot","size","may","far","pieces","best","place","some","least","weight"]
theorem scBlock:FnScope yK ["pot","size","may","far"] (j5 kE):=⟨rfl,rfl,rfl,by decide+kernel,rfl,by decide+kernel,by decide+kernel⟩
def jCJ:Sp:=fun vs H Q _=>∃ (p:Addr) (N F:Int) (z:Nat) (a:Bool),vs=[.ref p,natV z, .bl a, .int F]/\H p=some (.lst [.int N])/\0<=N/\z<=4/\0<=F/\F<=100000000000/\
 ∀ (r L:Addr) (us:List V) (N':Int) (A:List (List Int×Int)) (bs:List Int) (H':Hp),BK z a A bs->H' r=some (.lst [.ref L, .int (bs.getD z 0)])->H' L=some (.lst us)->PcsAt H' us A->0<=N'->H' p=some (.lst [.int N'])->Keep H H' p->H L=none->Q (.ref r) H'
def jLY (T:Txt mg)(CT:Can P w K mg base "_law_take" 1 fT fdT ["pot","wide"] yO)(hr:Room 1 (XOf yK "_law_block" kE P w K mg base f cdv A outer s H0 E).A): { t:TS // JSs (XOf yK "_law_block" kE P w K mg base f cdv A outer s H0 E) (ifOf ((yL ((jB kE).getD 2 (.Pass ⟨0,0,0,0⟩))).getD 3 (.Pass ⟨0,0,0,0⟩))) t} :=
 have nd:=scBlock.nd
 ⟨_,(jA (jL (i:=9) nd rfl lL (jK jBG (CT.je hr gD (j3 (jv 0 rfl vC) (j3 (jK kP (jK jBZ (je_int) (jv 3 rfl vC)) (je_int)) j7 kN) j4) j4) (jK jBZ (je_int) (jv 3 rfl vC))) jCG)
   (jA (jB8 (je_bm bi di dk jAQ (jv 4 rfl vL) (j3 (kR (j3 (kR (j3 (jK jBG (jv 6 rfl vC) (je_int)) (j3 (jv 6 rfl vC) j7 j4) kN)) (j3 (jv 9 rfl vL) j7 j4) yP)) j7 yP) yP) kI)
   (jD (jL (i:=8) nd rfl lL (jG (jF8 rfl) gD T.min (by decide+kernel) (j3 (jv 8 rfl vL) (j3 (jK kP (jP jAG (jv 5 rfl vL) (jK jBG (jv 6 rfl vC) (je_int)) jLG) (jv 9 rfl vL)) j7 kN) j4) j4) kI))))⟩
def jEB (T:Txt mg)(CT:Can P w K mg base "_law_take" 1 fT fdT ["pot","wide"] yO)(hr:Room 1 (XOf yK "_law_block" kE P w K mg base f cdv A outer s H0 E).A): { t:TS // JSs (XOf yK "_law_block" kE P w K mg base f cdv A outer s H0 E) (yL ((jB kE).getD 2 (.Pass ⟨0,0,0,0⟩))) t} :=
 have nd:=scBlock.nd
 ⟨_,(jA (jE0 (i:=7) nd rfl lL ⟨by rfl⟩ (m:=[none,some 0,some 3]) (Nc:=["turn","pot","far"]) rfl (jAE gD T.range (j3 (jK kP (je_int) (CT.je hr gD (j3 (jv 0 rfl vC) (j3 (je_int) j7 jR) j4) j4)) j7 kN) kN) rfl (by decide+kernel) (by decide+kernel) (jZ (psc:=j5 kE) (by decide+kernel)) (jO (N:=yK) rfl rfl (by decide+kernel)) (fun cl C fp s H=>jH (i:=0) (show (["turn","pot","far"]:List Str).Nodup by decide+kernel) rfl (yU (by decide+kernel))) (fun cl C fp s H=>kU) (fun cl C fp s H=>(jK jBG (CT.je hr (gl_b (by decide+kernel)) (j3 (jv 1 rfl (kW (by decide+kernel))) (j3 (jK kP (jK jBZ (je_int) (jv 2 rfl (kW (by decide+kernel)))) (je_int)) j7 kN) j4) j4) (jv 2 rfl (kW (by decide+kernel))))) y6) (jA (jB8 (je_bm bi PySem.F.slot_list_extend PySem.F.type_list_extend jII (jv 4 rfl vL) (j3 (yE (m:=[none,some 6]) (Nc:=["weight","place"]) rfl (yD (jv 7 rfl vL)) rfl (by decide+kernel) (by decide+kernel) (jZ (psc:=j5 kE) (by decide+kernel)) (jO (N:=yK) rfl rfl (by decide+kernel)) (fun cl C fp s H=>jH (i:=0) (show (["weight","place"]:List Str).Nodup by decide+kernel) rfl (yU (by decide+kernel))) (fun cl C fp s H=>kU) (fun cl C fp s H=>(kR (j3 (kR (j3 (jv 1 rfl (kW (by decide+kernel))) j7 j4)) (j3 (jv 0 rfl (kJ (by decide+kernel))) j7 j4) yP))) jAH) j7 jS) jS) kI) (jA (jL (i:=8) nd rfl lL (jK kP (jP jAG (jv 5 rfl vL) (jv 6 rfl vC) jB5) (jG (jJP rfl) gD T.min (by decide+kernel) (j3 (jK jDS (jv 7 rfl vL) (jK jLM (kZ (j3 (je_int) j7 jR)) (jAL jF9 gD T.int (by decide+kernel) (j3 (jv 2 rfl vL) j7 j4) j4))) j7 kN) kN)) jCG) (jA (yX (jt_w (jIQ (jN op_gt (jv 6 rfl vC) (je_int) (jU _)) (jFV (jN op_eq (CT.je hr gD (j3 (jv 0 rfl vC) (j3 (je_int) j7 jR) j4) j4) (je_int) (jU _))))) (jLY T CT hr).2 yC) (jD (jB8 (je_bm bi di dk jAQ (jv 5 rfl vL) (j3 (jv 8 rfl vL) j7 j4) j4) kI))))))⟩
def jPR (T:Txt mg)(CT:Can P w K mg base "_law_take" 1 fT fdT ["pot","wide"] yO)(hr:Room 1 (XOf yK "_law_block" kE P w K mg base f cdv A outer s H0 E).A): { t:TS // JSs (XOf yK "_law_block" kE P w K mg base f cdv A outer s H0 E) (jB kE) t} :=
 have nd:=scBlock.nd
 ⟨_,(jA (jL (i:=4) nd rfl lL (kZ j7) jD0) (jA (jL (i:=5) nd rfl lL (kZ (j3 (je_int) j7 jR)) jD0) (jA (jB4 bN rfl (jAE gD T.range (j3 (jv 1 rfl vL) j7 j4) j4) (jH (i:=6) nd rfl (loc_c (by decide+kernel))) (jEB T CT hr).2 y6) (jD (kQ (kZ (j3 (jv 4 rfl vL) (j3 (jP jAG (jv 5 rfl vL) (jv 1 rfl vL) jB5) j7 kB) j4)))))))⟩
theorem keepT {H H':Hp}{p:Addr}{x:List V}(k:Keep H H' p)(hp:H p=some (.lst x)):Tups H H':=fun c xs h=>k _ _ h fun z=>by rw[z,hp] at h; cases h
theorem jNM (T:Txt mg)(CT:Can P w K mg base "_law_take" 1 fT fdT ["pot","wide"] yO)(hr:Room 1 (XOf yK "_law_block" kE P w K mg base f cdv A outer s H0 E).A)
  {D:Ends}{H:Hp}{p L W:Addr}{N F le:Int}{us:List V}{A0:List (List Int×Int)}{bs:List Int}{i:Nat}{v1 v2 v7 v9:Option V}(hp:H p=some (.lst [.int N])) (hN:0<=N) (hL:H L=some (.lst us)) (hA:PcsAt H us A0) (hW:H W=some (.lst (bs.map V.int))) (ul:us.length<=100) (bl:bs.length=i+1) (i1:1<=i) (F0:0<=F) (F1:F<=100000000000) (Lp:L≠p) (Wp:W≠p) (LW:L≠W)
  (nx:∀ (H':Hp) (N' y:Int) (us':List V) v9, -1000000000000<=y->y<=1000000000000->0<=N'->H' p=some (.lst [.int N'])->H' L=some (.lst us')->PcsAt H' us' (A0++[([(i:Int) - 1,(i:Int)],y)])->us'.length=us.length+1->(∀ c o,H c=some o->c≠p->c≠L->H' c=some o)->D.nx [some (.ref p),v1,v2,some (.int F),some (.ref L),some (.ref W),some (natV i),v7,some (.int (if bs.getD (i - 1) 0+y<le then bs.getD (i - 1) 0+y else le)),v9] H'):
  (jLY T CT hr).1 D [some (.ref p),v1,v2,some (.int F),some (.ref L),some (.ref W),some (natV i),v7,some (.int le),v9] H:=by
 refine⟨_,rfl,_,rfl,_,_,rfl,rfl, .inl ⟨by decide,by decide⟩,_,_,rfl,rfl,p,N,_,rfl,hp,hN,by show (0:Int)<4*F+1; omega,by show 4*F+1<(2 ^ 64:Int); omega,fun N1 r1 a1 a2 a3=>?_⟩
 have a3:r1<4*F+1:=a3
 refine⟨_,rfl,_,_,rfl,rfl, .inl ⟨by decide,by decide⟩,_,_,rfl,rfl,?_⟩
 have k1:Keep H (L2.upd H p (.lst [.int N1])) p:=fun c o h n=>by rw[j8 n]; exact h
 have p1:(L2.upd H p (.lst [.int N1])) p=some (.lst [.int N1]):=j6
 generalize L2.upd H p (.lst [.int N1])=H1 at k1 p1
 have L1:=k1 _ _ hL Lp
 refine⟨_,rfl, .inl ⟨rfl,_,SqL.of L1⟩,_,rfl,_,_,rfl,rfl,_,rfl,by show (2:Nat)<=_; decide,fun t H2 d2 e2=>⟨_,rfl,by show (2:Nat)<=_; decide,fun u H3 d3 e3=>?_⟩⟩
 have E3:=e2.trans e3
 refine⟨L,_,_,rfl,rfl,E3 _ _ L1,by rw[aL]; omega,?_⟩
 have kL:∀ c o,H3 c=some o->c≠L->(L2.upd H3 L (.lst (us++[V.ref u]))) c=some o:=fun c o h n=>by rw[j8 n]; exact h
 have dL:(L2.upd H3 L (.lst (us++[V.ref u]))) L=some (.lst (us++[V.ref u])):=j6
 generalize L2.upd H3 L (.lst (us++[V.ref u]))=H4 at kL dL
 have K4:∀ c o,H c=some o->c≠p->c≠L->H4 c=some o:=fun c o h n1 n2=>kL _ _ (E3 _ _ (k1 _ _ h n1)) n2
 have W4:=K4 _ _ hW Wp (cL LW)
 have ix:atI (bs.map V.int) ((i:Int) - 1)=some (.int (bs.getD (i - 1) 0)):=by
  rw[show (i:Int) - 1=((i - 1:Nat):Int) by omega]
  refine yF ?_
  rw[aO,ar,ai (by omega)]
  rfl
 have TA:Tups H H4:=fun c xs h=>K4 _ _ h (fun z=>by rw[z,hp] at h; cases h) fun z=>by rw[z,hL] at h; cases h
 refine⟨_,rfl,_,rfl,_,rfl,_,_,rfl,rfl,W,_,_,_,rfl,rfl,SqL.of W4,ix,_,rfl,_,_,rfl,rfl,_,_,rfl,?_⟩
 refine nx H4 N1 (r1 - 2*F) _ _ (by omega) (by omega) a1 (kL _ _ (E3 _ _ p1) (cL Lp)) dL (PcsAt.snoc (p:=([(i:Int) - 1,(i:Int)],r1 - 2*F)) ⟨u,t,rfl,kL _ _ d3 fun z=>?_,kL _ _ (e3 _ _ d2) fun z=>?_⟩ (hA.mono TA)) (by rw[aj]; rfl) K4
 ·rw[z,E3 _ _ L1] at d3
  cases d3
 ·rw[z,e2 _ _ L1] at d2
  cases d2
theorem jIL (T:Txt mg)(CT:Can P w K mg base "_law_take" 1 fT fdT ["pot","wide"] yO)(hr:Room 1 (XOf yK "_law_block" kE P w K mg base f cdv A outer s H0 E).A)
  {D:Ends}{H:Hp}{p L W:Addr}{N F:Int}{us:List V}{A0:List (List Int×Int)}{bs:List Int}{i:Nat}{a:Bool}{v1 v7 v8 v9:Option V}(hp:H p=some (.lst [.int N])) (hN:0<=N) (hL:H L=some (.lst us)) (hA:PcsAt H us A0) (hW:H W=some (.lst (bs.map V.int))) (b:BK i a A0 bs) (i4:i<4) (F0:0<=F) (F1:F<=100000000000) (Lp:L≠p) (Wp:W≠p) (LW:L≠W)
  (nx:∀ (H':Hp) (N':Int) (us':List V) (A':List (List Int×Int)) (bs':List Int) v7 v8 v9,BK (i+1) a A' bs'->0<=N'->H' p=some (.lst [.int N'])->H' L=some (.lst us')->PcsAt H' us' A'->H' W=some (.lst (bs'.map V.int))->(∀ c o,H c=some o->c≠p->c≠L->c≠W->H' c=some o)->D.nx [some (.ref p),v1,some (.bl a),some (.int F),some (.ref L),some (.ref W),some (natV i),v7,v8,v9] H'):
  (jEB T CT hr).1 D [some (.ref p),v1,some (.bl a),some (.int F),some (.ref L),some (.ref W),some (natV i),v7,v8,v9] H:=by
 refine⟨_,rfl,p,N,2,rfl,hp,hN,by decide,by decide,fun N1 r1 a1 a2 a3=>⟨_,_,rfl,rfl,?_⟩⟩
 have k1:Keep H (L2.upd H p (.lst [.int N1])) p:=fun c o h n=>by rw[j8 n]; exact h
 have p1:(L2.upd H p (.lst [.int N1])) p=some (.lst [.int N1]):=j6
 generalize L2.upd H p (.lst [.int N1])=H1 at k1 p1
 obtain⟨m,hm,m0,m2⟩:∃ m:Nat,(1:Int)+r1=(m:Int)/\1<=m/\m<=2:=⟨(1+r1).toNat,by omega,by omega,by omega⟩
 refine⟨(m:Int),by show [V.int (1+r1)]=_; rw[hm],by omega,by omega,jE7 (n:=m) (by rw[aL]; omega) (fun D j σ' H' zs=>(∃ v,σ'=[v,some (.ref p),some (.int F)])/\Keep H1 H' p/\(∃ N',H' p=some (.lst [.int N'])/\0<=N')/\H' D=some (.lst zs)/\∃ sw:List Int,zs=sw.map V.int/\sw.length=j/\∀ x∈sw, -F<=x/\x<=F) (fun D hD=>⟨⟨_,rfl⟩,fun c o h n=>by rw[j8 (fun z=>by rw[z,hD] at h; cases h)]; exact h,⟨N1,by rw[j8 (fun z=>by rw[<- z,p1] at hD; cases hD)]; exact p1,a1⟩,j6,[],rfl,rfl,fun _ h=>by cases h⟩) (fun D j σ' H' zs hD hj ⟨_,_,_,h,sw,hs,hl,_⟩=>⟨h,by rw[hs,ab,hl]; exact az _⟩) ?_ ?_⟩
 ·rintro D5 j σ' H2 zs hD hj ⟨⟨v,rfl⟩,k2,⟨N2,p2,n2⟩,d2,sw,rfl,sl,sb⟩
  have Dp:D5≠p:=fun z=>by rw[z,p1] at hD; cases hD
  dsimp only [jV,yN]
  rw[ao rfl]
  refine⟨_,rfl,_,rfl,_,_,rfl,rfl, .inl ⟨by decide,by decide⟩,_,_,rfl,rfl,p,N2,_,rfl,p2,n2,by show (0:Int)<2*F+1; omega,by show 2*F+1<(2 ^ 64:Int); omega,fun N3 r3 b1 b2 b3=>?_⟩
  have b3:r3<2*F+1:=b3
  refine⟨_,rfl,_,_,rfl,rfl,?_⟩
  refine⟨by rw[j8 Dp]; exact d2,⟨_,rfl⟩,fun c o h n=>?_,⟨N3,by rw[j8 (cL Dp)]; exact j6,b1⟩,j6,sw++[r3 - F],by rw[aQ]; rfl,by rw[aj,sl]; rfl,fun x hx=>?_⟩
  ·rw[j8 (fun z=>by rw[z,hD] at h; cases h),j8 n]
   exact k2 _ _ h n
  ·rcases aq.mp hx with z | z
   ·exact sb x z
   ·rw[ah.mp z]
    omega
 ·rintro D5 σ' H2 zs hD ⟨_,k2,⟨N2,p2,n2⟩,d2,sw,rfl,sl,sb⟩
  have K2:Keep H H2 p:=fun c o h n=>k2 _ _ (k1 _ _ h n) n
  have L2':=K2 _ _ hL Lp
  have W2:=K2 _ _ hW Wp
  have D5L:D5≠L:=fun z=>by rw[z,k1 _ _ hL Lp] at hD; cases hD
  have D5p:D5≠p:=fun z=>by rw[z,p1] at hD; cases hD
  refine⟨_,rfl, .inl ⟨rfl,_,SqL.of L2'⟩,_,rfl,D5,rfl,⟨_,SqL.of d2⟩,jB2 (fun σ=>∃ v,σ=[v,some (natV i)]) (fun (H':Hp) (zs:List V) (j:Nat)=>PcsAt H' zs ((swL i sw).take j)) ⟨fun _=>trivial,fun H H' zs j tu h=>PcsAt.mono tu h,fun H zs j h=>by
   rw[PcsAt.len h]
   exact cK _ _⟩ d2 (by rw[aL,ab]; omega) ⟨_,rfl⟩ ?_ ?_⟩
  ·rintro j x σ2 H3 zs hx ⟨v,rfl⟩ e3 hz S1 S2 yes no
   obtain⟨g,hg,rfl⟩:∃ g,sw[j]?=some g/\V.int g=x:=by simpa using hx
   dsimp only [jV,yN]
   rw[ao rfl]
   refine⟨_,rfl,by show (1:Nat)<=_; decide,fun a4 H4 d4 e4=>⟨_,rfl,by show (2:Nat)<=_; decide,fun a5 H5 d5 e5=>yes _ _ _ ⟨_,rfl⟩ (e4.trans e5) ?_⟩⟩
   show PcsAt H5 _ ((swL i sw).take (j+1))
   have hg2:(swL i sw)[j]?=some ([(i:Int)],g):=by
    unfold swL
    rw[aO,hg]
    rfl
   rw[br,hg2]
   exact PcsAt.snoc (p:=([(i:Int)],g)) ⟨a5,a4,rfl,d5,e5 _ _ d4⟩ (PcsAt.mono (e4.trans e5).tups hz)
  ·intro M H3 zs d3 e3 n3 hz
   have hz:PcsAt H3 zs ((swL i sw).take (sw.map V.int).length):=hz
   have swl:(swL i sw).length=sw.length:=ab ..
   rw[ab,<- swl,bK] at hz
   have zl:=PcsAt.len hz
   have ul:=PcsAt.len hA
   have apl:=b.pl
   have L3:=e3 _ _ L2'
   have ML:M≠L:=fun z=>by rw[z,L2'] at n3; cases n3
   refine⟨L,M,_,_,rfl,rfl,L3,d3,by rw[aL]; omega,?_⟩
   have k4:∀ c o,H3 c=some o->c≠L->(L2.upd H3 L (.lst (us++zs))) c=some o:=fun c o h n=>by rw[j8 n]; exact h
   have L4:(L2.upd H3 L (.lst (us++zs))) L=some (.lst (us++zs)):=j6
   generalize L2.upd H3 L (.lst (us++zs))=H4 at k4 L4
   have T4:Tups H3 H4:=fun c xs h=>k4 _ _ h fun z=>by rw[z,L3] at h; cases h
   have pc4:PcsAt H4 (us++zs) (A0++swL i sw):=PcsAt.app ((hA.mono (keepT K2 hp)).mono fun c xs h=>T4 _ _ (e3 _ _ h)) (hz.mono T4)
   have p4:=k4 _ _ (e3 _ _ p2) (cL Lp)
   have W4:=k4 _ _ (e3 _ _ W2) (cL LW)
   have D4:=k4 _ _ (e3 _ _ d2) D5L
   have wget:atI (bs.map V.int) (i:Int)=some (.int (bs.getD i 0)):=yF (by rw[aO,ar,ai (by have:=b.len; omega)]; rfl)
   refine⟨_,rfl,_,rfl,W,_,_,_,rfl,rfl,SqL.of W4,wget,_,rfl,by show (1:Nat)<=_; decide,fun l5 H5 d5 e5 n5=>⟨_,rfl, .inr ⟨_,rfl,?_⟩⟩⟩
   have rk:(replicate ((if a=true then (1:Int) else 0)).toNat [V.int 0]).flatten=(if a=true then [(0:Int)] else []).map V.int:=by cases a <;> rfl
   refine⟨l5,_,_,rfl,rfl,d5,by split <;> decide,by split <;> decide,by show 1*_<=_; rw[aL]; split <;> decide,fun q6 h6=>?_⟩
   rw[rk]
   have e6:Ext H5 (L2.upd H5 q6 (.lst ((if a=true then [(0:Int)] else []).map V.int))):=(Ext.refl _).new h6 _
   have d6:(L2.upd H5 q6 (.lst ((if a=true then [(0:Int)] else []).map V.int))) q6=some (.lst ((if a=true then [(0:Int)] else []).map V.int)):=j6
   generalize L2.upd H5 q6 (.lst ((if a=true then [(0:Int)] else []).map V.int))=H6 at e6 d6
   have E6:=e5.trans e6
   have zl6:((if a=true then [(0:Int)] else []).map V.int).length<=1:=by cases a <;> decide
   refine⟨D5,q6,_,_,rfl,rfl,E6 _ _ D4,d6,by rw[aL,ab]; omega,fun c7 H7 d7 e7 n7=>?_⟩
   rw[<- aQ] at d7
   refine⟨c7,_,rfl,SqL.of d7,by rw[aj]; omega,fun mn mm ml=>⟨_,_,rfl,rfl,?_⟩⟩
   have E7:=E6.trans e7
   have K7:∀ c o,H c=some o->c≠p->c≠L->H7 c=some o:=fun c o h n1 n2=>E7 _ _ (k4 _ _ (e3 _ _ (K2 _ _ h n1)) n2)
   have p7:=E7 _ _ p4
   have L7:=E7 _ _ L4
   have W7:=E7 _ _ W4
   have pc7:=pc4.mono E7.tups
   have sb12:∀ x∈sw, -1000000000000<=x/\x<=1000000000000:=fun x hx=>by have:=sb x hx; omega
   have fin:∀ (H8:Hp) (N8:Int) (us8:List V) (pr:Option Int) (le:Int) (v9':Option V),0<=N8->H8 p=some (.lst [.int N8])->H8 L=some (.lst us8)->PcsAt H8 us8 (A0++(swL i sw++prL i pr))->(∀ c o,H c=some o->c≠p->c≠L->H8 c=some o)->(∀ y,pr=some y-> -1000000000000<=y/\y<=1000000000000)->(i=0->pr=none)->(pr=none->le=bs.getD i 0+mn)->(∀ y,pr=some y->le=bs.getD i 0+mn/\bs.getD i 0+mn<=bs.getD (i - 1) 0+y\/le=bs.getD (i - 1) 0+y/\bs.getD (i - 1) 0+y<=bs.getD i 0+mn)->
     tDrop (tBM (XOf yK "_law_block" kE P w K mg base f cdv A outer s H0 E).K "list" jI1 (tVar 5) (tCons (tVar 8) tNil)) D [some (.ref p),v1,some (.bl a),some (.int F),some (.ref L),some (.ref W),some (natV i),some (.ref D5),some (.int le),v9'] H8:=fun H8 N8 us8 pr le v9' n8 p8 L8 pc8 K8 pb p0 r1 r2=>by
    have W8:=K8 _ _ hW Wp (cL LW)
    refine⟨_,rfl, .inl ⟨rfl,_,SqL.of W8⟩,_,rfl,W,_,_,rfl,rfl,W8,by have:=b.len; rw[aL,ab]; omega,?_⟩
    have TW:Tups H8 (L2.upd H8 W (.lst (bs.map V.int++[.int le]))):=fun c xs h=>by rw[j8 (fun z=>by rw[z,W8] at h; cases h)]; exact h
    refine nx _ N8 us8 _ (bs++[le]) _ _ _ (b.step (by omega) sb12 pb p0 mm ml r1 r2) n8 (by rw[j8 (cL Wp)]; exact p8) (by rw[j8 LW]; exact L8) (pc8.mono TW) (by rw[aQ]; exact j6) fun c o h n1 n2 n3=>by rw[j8 n3]; exact K8 _ _ h n1 n2
   have none7:PcsAt H7 (us++zs) (A0++(swL i sw++prL i none)):=by
    have e:swL i sw++prL i none=swL i sw:=aW _
    rw[e]
    exact pc7
   refine⟨_,rfl,_,_,rfl,rfl,_,rfl,ite2 (fun h=>?_) (fun h=>?_)⟩
   ·have h:(0:Int)<(i:Int):=aR h
    refine⟨_,rfl,p,N2,2,rfl,p7,n2,by decide,by decide,fun N8 r8 c1 c2 c3=>⟨rfl,_,rfl,ite2 (fun h2=>?_) (fun h2=>?_)⟩⟩
    ·have k8:Keep H7 (L2.upd H7 p (.lst [.int N8])) p:=fun c o h n=>by rw[j8 n]; exact h
     have p8:(L2.upd H7 p (.lst [.int N8])) p=some (.lst [.int N8]):=j6
     generalize L2.upd H7 p (.lst [.int N8])=H8 at k8 p8
     refine jNM T CT hr p8 c1 (k8 _ _ L7 Lp) (pc7.mono (keepT k8 p7)) (k8 _ _ W7 Wp) (by rw[aj]; omega) b.len (by omega) F0 F1 Lp Wp LW fun H9 N9 y us9 v9 y0 y1 n9 p9 L9 pc9 ul9 k9=>?_
     refine fin H9 N9 us9 (some y) _ _ n9 p9 L9 (by rw[<- aI]; exact pc9) (fun c o h n1 n2=>k9 _ _ (k8 _ _ (K7 _ _ h n1 n2) n1) n1 n2) (fun z hz=>by cases hz; exact⟨y0,y1⟩) (fun z=>by omega) (fun z=>by cases z) fun z hz=>?_
     cases hz
     show (if bs.getD (i - 1) 0+y<bs.getD i 0+mn then bs.getD (i - 1) 0+y else bs.getD i 0+mn)=_/\_\/(if bs.getD (i - 1) 0+y<bs.getD i 0+mn then bs.getD (i - 1) 0+y else bs.getD i 0+mn)=_/\_
     split <;> omega
    ·have k8:Keep H7 (L2.upd H7 p (.lst [.int N8])) p:=fun c o h n=>by rw[j8 n]; exact h
     have p8:(L2.upd H7 p (.lst [.int N8])) p=some (.lst [.int N8]):=j6
     generalize L2.upd H7 p (.lst [.int N8])=H8 at k8 p8
     exact fin H8 N8 _ none _ _ c1 p8 (k8 _ _ L7 Lp) (none7.mono (keepT k8 p7)) (fun c o h n1 n2=>k8 _ _ (K7 _ _ h n1 n2) n1) (fun z hz=>by cases hz) (fun _=>rfl) (fun _=>rfl) fun z hz=>by cases hz
   ·exact fin H7 N2 _ none _ _ n2 p7 L7 none7 K7 (fun z hz=>by cases hz) (fun _=>rfl) (fun _=>rfl) fun z hz=>by cases hz
theorem jKF {fd:FuncData}(F:Fun K "_law_block" "_law_block" kE f fd)(T:Txt mg)(CT:Can P w K mg base "_law_take" 1 fT fdT ["pot","wide"] yO):FnOk P w K mg base CX0 2 f fd ["pot","size","may","far"] jCJ:=by
 refine F.ok scBlock (fun vs H Q E h=>?_) (fun cdv A outer s H vs Q E hr h=>?_)
 ·obtain⟨_,_,_,_,_,rfl,_⟩:=h
  rfl
 ·obtain⟨p,N,F,z,a,rfl,hp,hN,z4,F0,F1,q⟩:=h
  refine⟨_,(jPR T CT hr).2.h,?_⟩
  refine⟨by show (0:Nat)<=_; decide,fun L H1 d1 e1 n1=>?_⟩
  refine⟨by show (1:Nat)<=_; decide,fun W H2 d2 e2 n2=>?_⟩
  have E2:=e1.trans e2
  have p2:=E2 _ _ hp
  have L2':=e2 _ _ d1
  have Lp:L≠p:=fun y=>by rw[y,hp] at n1; cases n1
  have Wp:W≠p:=fun y=>by rw[y,e1 _ _ hp] at n2; cases n2
  have LW:L≠W:=fun y=>by rw[<- y,d1] at n2; cases n2
  refine⟨_,rfl,(z:Int),rfl,by omega,by omega,jAS (lo:=0) (n:=z) (fun i σ H'=>(∃ v6 v7 v8 v9,σ=[some (.ref p),some (natV z),some (.bl a),some (.int F),some (.ref L),some (.ref W),v6,v7,v8,v9])/\(∀ c o,H2 c=some o->c≠p->c≠L->c≠W->H' c=some o)/\(∃ N',H' p=some (.lst [.int N'])/\0<=N')/\∃ (us:List V) (A:List (List Int×Int)) (bs:List Int),BK i a A bs/\H' L=some (.lst us)/\PcsAt H' us A/\H' W=some (.lst (bs.map V.int))) ⟨⟨_,_,_,_,rfl⟩,fun _ _ h _ _ _=>h,⟨N,p2,hN⟩,[],[],[0],BK.zero a,L2',trivial,d2⟩ ?_ ?_⟩
  ·rintro i σ H3 hi ⟨⟨v6,v7,v8,v9,rfl⟩,k3,⟨N3,p3,n3⟩,us,A,bs,b,L3,pc3,W3⟩
   have e0:(0+(i:Int))=(i:Int):=by omega
   show (jEB T CT hr).1 _ [some (.ref p),some (natV z),some (.bl a),some (.int F),some (.ref L),some (.ref W),some (.int (0+(i:Int))),v7,v8,v9] H3
   rw[e0]
   exact jIL T CT hr p3 n3 L3 pc3 W3 b (by omega) F0 F1 Lp Wp LW fun H4 N4 us4 A4 bs4 v7 v8 v9 b4 n4 p4 L4 pc4 W4 k4=>⟨⟨_,_,_,_,rfl⟩,fun c o h x y z=>k4 _ _ (k3 _ _ h x y z) x y z,⟨N4,p4,n4⟩,us4,A4,bs4,b4,L4,pc4,W4⟩
  ·rintro σ H3 ⟨⟨v6,v7,v8,v9,rfl⟩,k3,⟨N3,p3,n3⟩,us,A,bs,b,L3,pc3,W3⟩
   have at3:atI (bs.map V.int) (z:Int)=some (.int (bs.getD z 0)):=yF (by rw[aO,ar,ai (by have:=b.len; omega)]; rfl)
   refine⟨_,rfl,_,rfl,_,rfl,W,_,_,_,rfl,rfl,SqL.of W3,at3,by show (2:Nat)<=_; decide,fun r H4 d4 e4 n4=>?_⟩
   exact q r L us N3 A bs H4 b d4 (e4 _ _ L3) (pc3.mono e4.tups) n3 (e4 _ _ p3) (fun c o h n=>e4 _ _ (k3 _ _ (E2 _ _ h) n (fun y=>by rw[y] at h; rw[h] at n1; cases n1) fun y=>by rw[y] at h; rw[e1 _ _ h] at n2; cases n2)) n1
end
def nmF (os:List Int)(t:Nat)(j:Int):Int:=os.getD (t+j.toNat) 0
section
variable {os:List Int}
theorem jNA {t z:Nat}(h:t+z<=os.length):os.take (t+z)=os.take t++(upto z).map (nmF os t):=by
 have e:(upto z).map (nmF os t)=(os.drop t).take z:=by
  refine fD fun i=>?_
  by_cases hi:i<z
  ·rw[aO,jBC hi,g8,ao hi,cU,ai (by omega)]
   show some (os.getD (t+((i:Int)).toNat) 0)=_
   rw[bL,ar,ai (by omega)]
   rfl
  ·rw[cC (by rw[ab,jA5]; omega),cC (by rw[aU]; omega)]
 rw[e,List.take_add]
theorem jP5 {t z:Nat}(nd:os.Nodup)(h:t+z<=os.length):∀ i j:Int,0<=i/\i<z->0<=j/\j<z->nmF os t i=nmF os t j->i=j:=fun i j hi hj e=>by
 unfold nmF at e
 rw[ar,ar,ai (by omega),ai (by omega)] at e
 have ne:∀ x y:Nat,x<y->(hx:x<os.length)->(hy:y<os.length)->os[x]≠os[y]:=fun x y h hx hy=>bZ.mp nd x y hx hy h
 have e:os[t+i.toNat]'(by omega)=os[t+j.toNat]'(by omega):=e
 rcases Int.lt_trichotomy i j with z | z | z
 ·exact absurd e (ne _ _ (by omega) (by omega) (by omega))
 ·exact z
 ·exact absurd e.symm (ne _ _ (by omega) (by omega) (by omega))
end
theorem jK1 (l:List Int)(j:Nat)(x:Int):(l.take j++x::l.drop j).Perm (l++[x]):=by
 have h:(l.take j++x::l.drop j).Perm (x::(l.take j++l.drop j)):=List.perm_middle
 rw[bh] at h
 exact h.trans (fu x l).symm
theorem jJ8:∀ {l:List Int}{m:Nat}{g:Int},l[m]?=some g->l.idxOf g<=m
 | [],m,g,h=>by cases h
 | a::l,0,g,h=>by
  have e:a=g:=by simpa using h
  rw[e,List.idxOf_cons_self]
  exact az _
 | a::l,m+1,g,h=>by
  have ih:=jJ8 (l:=l) (m:=m) (g:=g) (by simpa using h)
  rw[List.idxOf_cons]
  cases (a==g) with
  | true=>exact bH _
  | false=>exact Nat.succ_le_succ ih
theorem jKT {α:Type}(l:List α)(j:Nat)(x:α):(l.take j++x::l.drop j).Perm (l++[x]):=by
 have h:(l.take j++x::l.drop j).Perm (x::(l.take j++l.drop j)):=List.perm_middle
 rw[bh] at h
 exact h.trans (fu x l).symm
def ixF (left:List Int)(x:Int):Int:=((left.idxOf x:Nat):Int)
section
variable {left:List Int}(ris:left.Pairwise (· < ·))
theorem jFY {x:Int}(h:x∈left):0<=ixF left x/\ixF left x<left.length:=by
 have:=cj h
 unfold ixF
 omega
include ris
theorem jLT {x y:Int}(hx:x∈left)(hy:y∈left)(h:x<y):ixF left x<ixF left y:=by
 have a:=cj hx
 have b:=cj hy
 have ex:left[left.idxOf x]=x:=dX a
 have ey:left[left.idxOf y]=y:=dX b
 unfold ixF
 rcases Nat.lt_trichotomy (left.idxOf x) (left.idxOf y) with z | z | z
 ·omega
 ·have:x=y:=by rw[<- ex,<- ey]; simp only [z]
  omega
 ·have:=bZ.mp ris _ _ b a z
  rw[ex,ey] at this
  omega
theorem jJ6 (x y:Int)(hx:x∈left)(hy:y∈left)(e:ixF left x=ixF left y):x=y:=by
 rcases Int.lt_trichotomy x y with z | z | z
 ·have:=jLT ris hx hy z
  omega
 ·exact z
 ·have:=jLT ris hy hx z
  omega
theorem jNK {t:Int} :t∈left.map (ixF left)↔t∈upto left.length:=by
 rw[mem_upto',aN]
 constructor
 ·rintro ⟨x,hx,rfl⟩
  exact jFY hx
 ·rintro ⟨a,b⟩
  have hl:t.toNat<left.length:=by omega
  refine⟨left[t.toNat],dn hl,?_⟩
  have nd:left.Nodup:=ris.imp fun {a b} h=>by omega
  unfold ixF
  rw[nd.idxOf_getElem _ hl]
  omega
end
structure BJ (os:List Int)(t:Nat)(ms:List Int)(fs:List (List Int×Int))(d:Int):Prop where
 t16:t<=16
 cov:Lst (fs++sg0 ms) (os.take t) d
 pin:∀ p∈fs,p.1.Nodup/\p.1≠ []/\(∀ x∈p.1,x∈os.take t)/\ -1000000000000<=p.2/\p.2<=1000000000000
 min:∀ x∈ms,x∈os.take t
 mnd:ms.Nodup
 pl:fs.length<=32
 ml:ms.length<=t
theorem BJ.zero (os:List Int):BJ os 0 [] [] 0:=⟨by decide,⟨⟨rfl,rfl⟩,fun W h=>by rw[h.2]; exact cf _⟩,fun p h=>(by cases h),fun p h=>(by cases h),ft,by decide,az 0⟩
def yW (f:Int->Int)(p:List Int×Int):List Int×Int:=(p.1.map f,p.2)
theorem jHC {z:Nat}{a:Bool}{A:List (List Int×Int)}{bs:List Int}{f:Int->Int}(h:BK z a A bs)(hf:∀ i j:Int,0<=i/\i<z->0<=j/\j<z->f i=f j->i=j):Lst (A.map (yW f)++sg0 (if a=true then (upto z).map f else [])) ((upto z).map f) (bs.getD z 0):=by
 refine h.l1.of fun W=>?_
 have e:A.map (yW f)++sg0 (if a=true then (upto z).map f else [])=(A++sg0 (mayL a z)).map fun p=>(p.1.map f,p.2):=by
  rw[aQ]
  refine bB (A.map (yW f)++ ·) ?_
  cases a with
  | true=>
   show List.map _ (List.map f (upto z))=List.map _ (List.map _ (upto z))
   rw[bY,bY]
   rfl
  | false=>rfl
 rw[e]
 refine jDG (U:=fun t=>0<=t/\t<(z:Int)) hf (fun p hp t ht=>?_) fun t ht=>mem_upto'.mp ht
 rcases aq.mp hp with y | y
 ·exact(h.pin p y).2.2.1 t ht
 ·obtain⟨x,hx,rfl⟩:=aN.mp y
  rw[ah.mp ht]
  cases a with
  | true=>exact mem_upto'.mp hx
  | false=>cases hx
theorem BJ.step {os:List Int}{t z:Nat}{ms:List Int}{fs fs' A:List (List Int×Int)}{d:Int}{bs:List Int}{a:Bool}(b:BJ os t ms fs d)(nd:os.Nodup)(ol:os.length=16)(hsz:t+z<=16)(hb:BK z a A bs)(hl:fs.length+A.length<=32)(pm:fs'.Perm (fs++A.map (yW (nmF os t)))):BJ os (t+z) (ms++if a=true then (upto z).map (nmF os t) else []) fs' (d+bs.getD z 0):=by
 have tk:=jNA (os:=os) (t:=t) (z:=z) (by omega)
 have inj:=jP5 (os:=os) (t:=t) (z:=z) nd (by omega)
 have dj:∀ x∈os.take t,x∉(upto z).map (nmF os t):=by
  have:=nd.sublist (cG (t+z) os)
  rw[tk] at this
  exact fun x hx hy=>(db.mp this).2.2 x hx x hy rfl
 have ndb:((upto z).map (nmF os t)).Nodup:=by
  have:=nd.sublist (cG (t+z) os)
  rw[tk] at this
  exact(db.mp this).2.1
 have inB:∀ p∈A.map (yW (nmF os t)),p.1.Nodup/\p.1≠ []/\(∀ x∈p.1,x∈(upto z).map (nmF os t))/\ -1000000000000<=p.2/\p.2<=1000000000000:=fun p hp=>by
  obtain⟨q,hq,rfl⟩:=aN.mp hp
  obtain⟨h1,h2,h3,h4⟩:=hb.pin q hq
  refine⟨de.mpr (dU (fun {x y} hx hy hlt e=>by have:=inj x y (h3 x hx) (h3 y hy) e; omega) h1),fun e=>h2 (gN.mp e),fun x hx=>?_,h4⟩
  obtain⟨y,hy,rfl⟩:=aN.mp hx
  exact bv (mem_upto'.mpr (h3 y hy))
 have inM:∀ x∈(if a=true then (upto z).map (nmF os t) else []),x∈(upto z).map (nmF os t):=fun x hx=>by
  cases a with
  | true=>exact hx
  | false=>cases hx
 refine⟨hsz,?_,fun p hp=>?_,fun x hx=>?_,?_,?_,?_⟩
 ·rw[tk]
  have pmm:(fs'++sg0 (ms++if a=true then (upto z).map (nmF os t) else [])).Perm ((fs++sg0 ms)++(A.map (yW (nmF os t))++sg0 (if a=true then (upto z).map (nmF os t) else []))):=by
   have e:sg0 (ms++if a=true then (upto z).map (nmF os t) else [])=sg0 ms++sg0 (if a=true then (upto z).map (nmF os t) else []):=aQ ..
   rw[e]
   refine(pm.append_right _).trans ?_
   generalize A.map (yW (nmF os t))=B
   rw[aI,aI]
   refine bR _ ?_
   rw[<- aI,<- aI]
   exact bI.append_right _
  refine(Lst.mul b.cov (jHC hb inj) (fun p hp x hx y=>?_) (fun p hp x hx y=>?_) dj).of fun W=>jDF pmm
  ·rcases aq.mp hp with u | u
   ·exact dj x ((b.pin p u).2.2.1 x hx) y
   ·obtain⟨v,hv,rfl⟩:=aN.mp u
    rw[ah.mp hx] at y
    exact dj v (b.min v hv) y
  ·rcases aq.mp hp with u | u
   ·exact dj x y ((inB p u).2.2.1 x hx)
   ·obtain⟨v,hv,rfl⟩:=aN.mp u
    rw[ah.mp hx] at y
    exact dj v y (inM v hv)
 ·rw[tk]
  rcases aq.mp (pm.mem_iff.mp hp) with y | y
  ·exact⟨(b.pin p y).1,(b.pin p y).2.1,fun x hx=>aJ _ ((b.pin p y).2.2.1 x hx),(b.pin p y).2.2.2⟩
  ·exact⟨(inB p y).1,(inB p y).2.1,fun x hx=>aF _ ((inB p y).2.2.1 x hx),(inB p y).2.2.2⟩
 ·rw[tk]
  rcases aq.mp hx with y | y
  ·exact aJ _ (b.min x y)
  ·exact aF _ (inM x y)
 ·refine db.mpr ⟨b.mnd,?_,fun x hx y hy e=>?_⟩
  ·cases a with
   | true=>exact ndb
   | false=>exact ft
  ·rw[e] at hx
   exact dj y (b.min y hx) (inM y hy)
 ·rw[pm.length_eq,aj,ab]
  exact hl
 ·rw[aj]
  have:=b.ml
  split
  ·rw[ab,jA5]; omega
  ·show _+0<=_; omega
def rowF (left:List Int)(p:List Int×Int):List Int×Int:=(srt (p.1.map (ixF left)),p.2)
theorem BJ.box {os:List Int}{t:Nat}{ms:List Int}{fs:List (List Int×Int)}{d:Int}(b:BJ os t ms fs d)(nd:os.Nodup)(ol:os.length=16):Good 16 32 t (srt (ms.map (ixF (srt (os.take t))))) (fs.map (rowF (srt (os.take t))))/\Lst (fs.map (rowF (srt (os.take t)))++sg0 (srt (ms.map (ixF (srt (os.take t)))))) (upto t) d:=by
 have t16:=b.t16
 have ndt:(os.take t).Nodup:=nd.sublist (cG _ _)
 have tl:(srt (os.take t)).length=t:=by rw[jDO,aU]; omega
 have ris:(srt (os.take t)).Pairwise (· < ·):=(fE (jGB _) ((jT _).nodup_iff.mpr ndt)).imp fun {x y} ⟨u,v⟩=>by omega
 have mem:∀ {x:Int},x∈os.take t->x∈srt (os.take t):=fun h=>(jT _).mem_iff.mpr h
 have pin:=b.pin
 have min:=b.min
 have pl:=b.pl
 have mnd:=b.mnd
 have cov2:Lst (fs++sg0 ms) (srt (os.take t)) d:=b.cov.of fun W=>jCA fun x=>(jT _).mem_iff
 generalize srt (os.take t)=left at tl ris mem cov2 ⊢
 have mb:∀ x∈ms.map (ixF left),0<=x/\x<(t:Int):=fun x hx=>by
  obtain⟨y,hy,rfl⟩:=aN.mp hx
  have:=jFY (mem (min y hy))
  omega
 have strict:∀ {l:List Int},l.Nodup->(∀ x∈l,x∈left)->(srt (l.map (ixF left))).Pairwise (· < ·):=fun {l} n h=>by
  have nq:(l.map (ixF left)).Nodup:=de.mpr (dU (fun {x y} hx hy hlt e=>hlt (jJ6 ris x y (h x hx) (h y hy) e)) n)
  exact(fE (jGB _) ((jT _).nodup_iff.mpr nq)).imp fun {x y} ⟨u,v⟩=>by omega
 refine⟨⟨by omega,by omega,⟨strict mnd fun x hx=>mem (min x hx),fun x hx=>mb x ((jT _).mem_iff.mp hx)⟩,by rw[ab]; omega,fun r hr=>?_⟩,?_⟩
 ·obtain⟨p,hp,rfl⟩:=aN.mp hr
  obtain⟨h1,h2,h3,h4⟩:=pin p hp
  refine⟨⟨strict h1 fun x hx=>mem (h3 x hx),fun x hx=>?_,fun e=>?_⟩,h4.1,h4.2⟩
  ·obtain⟨y,hy,rfl⟩:=aN.mp ((jT _).mem_iff.mp hx)
   have:=jFY (mem (h3 y hy))
   omega
  ·have e:srt (p.1.map (ixF left))=[]:=e
   have:=jDO (p.1.map (ixF left))
   rw[e,ab] at this
   exact h2 (gd.mp this.symm)
 ·refine cov2.of fun W=>?_
  have U:∀ p∈fs++sg0 ms,∀ x∈p.1,x∈left:=fun p hp x hx=>by
   rcases aq.mp hp with y | y
   ·exact mem ((pin p y).2.2.1 x hx)
   ·obtain⟨v,hv,rfl⟩:=aN.mp y
    rw[ah.mp hx]
    exact mem (min v hv)
  have h1:xw (fs.map (rowF left)++sg0 (srt (ms.map (ixF left)))) (upto t) W↔xw (fs.map (rowF left)++sg0 (ms.map (ixF left))) (left.map (ixF left)) W:=by
   refine(jDF (bR _ ((jT _).map _))).trans (jCA fun x=>?_)
   rw[jNK ris,tl]
  refine h1.trans (Iff.trans ?_ (jDG (f:=ixF left) (U:=fun x=>x∈left) (fun x y hx hy e=>jJ6 ris x y hx hy e) U fun x hx=>hx))
  refine jC1 ?_ fun _=>Iff.rfl
  rw[aQ]
  have e:sg0 (ms.map (ixF left))=(sg0 ms).map fun p=>(p.1.map (ixF left),p.2):=by
   show List.map _ (List.map _ ms)=List.map _ (List.map _ ms)
   rw[bY,bY]
   rfl
  rw[e]
  generalize (sg0 ms).map (fun p=>(p.1.map (ixF left),p.2))=B
  clear cov2 pin pl U h1 b
  induction fs with
  | nil=>exact jDE
  | cons p fs ih=>exact⟨⟨fun x=>(jT _).mem_iff,rfl⟩,ih⟩
end Eo
end
section
namespace L2
open PySem
theorem jE9 {X:Cx}{sc:Scope}{cl:List (Str×Addr)}{C:Addr}{Nc:List Str}{fp:List Addr}{s:Shared}{H:Hp} :yJ (blk X sc cl C Nc fp s H) (.builtin "sorted") (fun xs H Q=>∃ (p:Addr) (ks:List Int),xs=[.ref p]/\SqL X.K H p (ks.map V.int)/\ks.length<64/\∀ (l:Addr) (ns:List Int),H l=none->ns.Pairwise (· <= ·)->ns.Perm ks->Q (.ref l) (upd H l (.lst (ns.map V.int)))):=jAT
section
variable {X:Cx}{sc sc2:Scope}{cl cl2:List (Str×Addr)}{C C2:Addr}{Nc Nc2:List Str}{fp fp2:List Addr}{s s2:Shared}{H H2:Hp}
theorem jKS {o e:Expr}{es:List Expr}{to:TE}{t:TA}{cpos apos:Pos}{id:String}{T:String}{name:Str}{r}(pa:PlainAttrs T)(slot:Slot T name id)(hty:typeOf (.builtin id)=pure (.type "method_descriptor"))(hm:MtR (blk (blk X sc cl C Nc fp s H) sc2 cl2 C2 Nc2 fp2 s2 H2) id r)(ho:JE (blk (blk X sc cl C Nc fp s H) sc2 cl2 C2 Nc2 fp2 s2 H2) o to)(ha:JA (blk (blk X sc cl C Nc fp s H) sc2 cl2 C2 Nc2 fp2 s2 H2) (e::es) t)
  (hs:starEach (e::es) (blk (blk X sc cl C Nc fp s H) sc2 cl2 C2 Nc2 fp2 s2 H2).env=(false,eval e (blk (blk X sc cl C Nc fp s H) sc2 cl2 C2 Nc2 fp2 s2 H2).env)::starEach es (blk (blk X sc cl C Nc fp s H) sc2 cl2 C2 Nc2 fp2 s2 H2).env)
  (hbase:attributeBase o name (blk (blk X sc cl C Nc fp s H) sc2 cl2 C2 Nc2 fp2 s2 H2).env (eval o (blk (blk X sc cl C Nc fp s H) sc2 cl2 C2 Nc2 fp2 s2 H2).env)=eval o (blk (blk X sc cl C Nc fp s H) sc2 cl2 C2 Nc2 fp2 s2 H2).env:=by rfl)
  (hfew:((backTo cpos (starEach (e::es) (blk (blk X sc cl C Nc fp s H) sc2 cl2 C2 Nc2 fp2 s2 H2).env)).all (fun x=>!x.1)&&(backToKw cpos (keywordEach [] (blk (blk X sc cl C Nc fp s H) sc2 cl2 C2 Nc2 fp2 s2 H2).env)).all (fun x=>x.1.isSome)
   &&decide ((e::es).length+([]:List Keyword).length+(if ([]:List Keyword).isEmpty then 0 else 1)<30))=true:=by rfl)
  (hline:(apos.endLine==cpos.line)=true:=by rfl) (hplain:(backTo cpos (starEach es (blk (blk X sc cl C Nc fp s H) sc2 cl2 C2 Nc2 fp2 s2 H2).env)).any (·.1)=false:=by rfl):
  JE (blk (blk X sc cl C Nc fp s H) sc2 cl2 C2 Nc2 fp2 s2 H2) (.Call (.Attribute o name apos) (e::es) [] cpos) (tBM X.K T r to t):=je_bm pa slot hty hm ho ha hs hbase hfew hline hplain
end
end L2
namespace Eo
open PySem L2
theorem All2.put {α β:Type}{R:α->β->Prop}{v:α}{p:β}(hv:R v p):∀ (k:Nat) {vs:List α}{ps:List β},All2 R vs ps->All2 R (vs.take k++v::vs.drop k) (ps.take k++p::ps.drop k)
 | 0,_,_,h=>⟨hv,h⟩
 | _+1,[],[],_=>⟨hv,trivial⟩
 | k+1,_::_,_::_,h=>⟨h.1,All2.put hv k h.2⟩
 | _+1,[],_::_,h=>h.elim
 | _+1,_::_,[],h=>h.elim
def FdAt (p F:Addr)(H:Hp)(us:List V)(fs:List (List Int×Int)):Prop:=All2 (fun u x=>∃ b a,u=V.ref b/\H b=some (.tup [.ref a, .int x.2])/\H a=some (.lst (x.1.map V.int))/\a≠p/\a≠F) us fs
theorem FdAt.mono {p F:Addr}{H H':Hp}{us:List V}{fs:List (List Int×Int)}{x y:List V}(h:FdAt p F H us fs)(k:∀ c o,H c=some o->c≠p->c≠F->H' c=some o)(hp:H p=some (.lst x))(hF:H F=some (.lst y)):FdAt p F H' us fs:=All2.imp (fun u x ⟨b,a,e,hb,ha,n1,n2⟩=>⟨b,a,e,k _ _ hb (fun z=>by rw[z,hp] at hb; cases hb) (fun z=>by rw[z,hF] at hb; cases hb),k _ _ ha n1 n2,n1,n2⟩) h
theorem jNW {xs:List V}{k n:Nat}(h:k+n<=xs.length):cutV xs (some (k:Int)) (some ((k:Int)+(n:Int)))=(xs.drop k).take n:=by
 unfold cutV
 rw[show (k:Int)+(n:Int)=((k+n:Nat):Int) by omega,HT.sIx_nat,HT.sIx_nat,gz h,gz (show k<=xs.length by omega)]
 congr 1
 omega
section
variable {P:Program}{w:World}{K:W.Frag}{mg:Str->Option Value}{base:Heap}
variable {f fT fB:Addr}{fdT fdB:FuncData}{cdv:Value}{A:Around}{outer:List Env}{s:Shared}{H0:Hp}{E:XK}
abbrev jCN:List Str:=["pot","far","order","k","found","mays","due","count","size","may","some","least","names","places","weight","left","pieces"]
theorem scBlocks:FnScope jCN ["pot"] (j5 jX):=⟨rfl,rfl,rfl,by decide+kernel,rfl,by decide+kernel,by decide+kernel⟩
abbrev XBls (P:Program)(w:World)(K:W.Frag)(mg:Str->Option Value)(base:Heap)(f:Addr)(cdv:Value)(A:Around)(outer:List Env)(s:Shared)(H:Hp)(E:XK):Cx:=XOf jCN "_law_blocks" jX P w K mg base f cdv A outer s H E
section
variable (T:Txt mg)(CT:Can P w K mg base "_law_take" 1 fT fdT ["pot","wide"] yO)(CB:Can P w K mg base "_law_block" 2 fB fdB ["pot","size","may","far"] jCJ)(hr:Room 2 (XBls P w K mg base f cdv A outer s H0 E).A)
def bordA: { t:TS // JSs (XBls P w K mg base f cdv A outer s H0 E) (yL ((jB jX).getD 2 (.Pass ⟨0,0,0,0⟩))) t} :=
 have nd:=scBlocks.nd
 have _h:=CB
 have _h:=T
 ⟨_,(jD (jB8 (je_bm bi fN fO jES (jv 2 rfl vL) (j3 (CT.je (hr.mono (by decide)) gD (j3 (jv 0 rfl vL) (j3 (jK kP (jv 3 rfl vL) (je_int)) j7 kN) j4) j4) (j3 (jv 3 rfl vL) j7 j4) jQ) jQ) kI))⟩
def binsA: { t:TS // JSs (XBls P w K mg base f cdv A outer s H0 E) (yL ((ifOf ((yL ((jB jX).getD 7 (.Pass ⟨0,0,0,0⟩))).getD 3 (.Pass ⟨0,0,0,0⟩))).getD 2 (.Pass ⟨0,0,0,0⟩))) t} :=
 have nd:=scBlocks.nd
 have _h:=CB
 ⟨_,(jD (jB8 (je_bm bi fN fO jES (jv 4 rfl vL) (j3 (CT.je (hr.mono (by decide)) gD (j3 (jv 0 rfl vL) (j3 (jK kP (jG jA0 gD T.len (by decide+kernel) (j3 (jv 4 rfl vL) j7 j4) j4) (je_int)) j7 kN) j4) j4) (j3 (kR (j3 (yE (m:=[none,some 12]) (Nc:=["place","names"]) rfl (jF1 (jv 13 rfl vL)) rfl (by decide+kernel) (by decide+kernel) (jZ (psc:=j5 jX) (by decide+kernel)) (jO (N:=jCN) rfl rfl (by decide+kernel)) (fun cl C fp s H=>jH (i:=0) (show (["place","names"]:List Str).Nodup by decide+kernel) rfl (yU (by decide+kernel))) (fun cl C fp s H=>kU) (fun cl C fp s H=>(jP jJ4 (jv 1 rfl (kW (by decide+kernel))) (jv 0 rfl (kJ (by decide+kernel))) jB5)) jAH) (j3 (jv 14 rfl vL) j7 j4) jS)) j7 yP) jQ) jQ) kI))⟩
def bifA: { t:TS // JSs (XBls P w K mg base f cdv A outer s H0 E) (ifOf ((yL ((jB jX).getD 7 (.Pass ⟨0,0,0,0⟩))).getD 3 (.Pass ⟨0,0,0,0⟩))) t} :=
 have nd:=scBlocks.nd
 ⟨_,(jA (jL (i:=12) nd rfl (loc_c (by decide+kernel)) (jE3 jHX (jv 2 rfl vL) (jE1 (jv 7 rfl vL)) (jE1 (jK kP (jv 7 rfl vL) (jv 8 rfl vL)))) jHT) (jA (jL (i:=5) nd rfl lL (jK jDS (jv 5 rfl vL) (jK jLM (jv 12 rfl vC) (jAL jF9 gD T.int (by decide+kernel) (j3 (jv 9 rfl vL) j7 j4) j4))) jCG) (jA (jB4 bN rfl (yD (jv 10 rfl vL)) (jE2 (i:=13) (j:=14) nd rfl rfl (by decide+kernel) (by decide+kernel)) (binsA T CT CB hr).2 jAH) (jA (jL (i:=6) nd rfl lL (jK kP (jv 6 rfl vL) (jv 11 rfl vL)) jCG) (jD (jL (i:=7) nd rfl lL (jK kP (jv 7 rfl vL) (jv 8 rfl vL)) jCG))))))⟩
def jLZ: { t:TS // JSs (XBls P w K mg base f cdv A outer s H0 E) (yL ((jB jX).getD 7 (.Pass ⟨0,0,0,0⟩))) t} :=
 have nd:=scBlocks.nd
 ⟨_,(jA (jL (i:=8) nd rfl lL (jG (jF8 rfl) gD T.min (by decide+kernel) (j3 (jK kP (je_int) (CT.je (hr.mono (by decide)) gD (j3 (jv 0 rfl vL) (j3 (je_int) j7 jR) j4) j4)) (j3 (jK jBG (je_int) (jv 7 rfl vL)) j7 kN) kN) kN) kI) (jA (jL (i:=9) nd rfl lL (jJ1 op_eq (CT.je (hr.mono (by decide)) gD (j3 (jv 0 rfl vL) (j3 (je_int) j7 jR) j4) j4) (je_int) (jU _)) jOE) (jA (jPH (CB.je hr gD (j3 (jv 0 rfl vL) (j3 (jv 8 rfl vL) (j3 (jv 9 rfl vL) (j3 (jv 1 rfl vL) j7 j4) j4) j4) j4) j4) (jIU (i:=10) (j:=11) nd rfl rfl (by decide+kernel) (by decide+kernel))) (jD (yX (jt_w (jIQ (jN op_le (jK kP (jG jA0 gD T.len (by decide+kernel) (j3 (jv 4 rfl vL) j7 j4) j4) (jG jA0 gD T.len (by decide+kernel) (j3 (jv 10 rfl vL) j7 j4) j4)) (je_int) (jU _)) (jFV (jN op_gt (jv 8 rfl vL) (je_int) (jU _))))) (bifA T CT CB hr).2 yC)))))⟩
def bendA: { t:TS // JSs (XBls P w K mg base f cdv A outer s H0 E) ((jB jX).drop 8) t} :=
 have nd:=scBlocks.nd
 have _h:=CB
 have _h:=CT
 have _h:=hr
 ⟨_,(jA (jL (i:=15) nd rfl (loc_c (by decide+kernel)) (jG jAT gD T.sorted (by decide+kernel) (j3 (jE3 jHX (jv 2 rfl vL) jIS (jE1 (jv 7 rfl vL))) j7 kB) kB) kI)
   (jA (jE0 (i:=16) nd rfl lL ⟨by rfl⟩ (m:=[none,none,some 15]) (Nc:=["held","weight","left"]) rfl (yD (jv 4 rfl vL)) rfl (by decide+kernel) (by decide+kernel) (jZ (psc:=j5 jX) (by decide+kernel)) (jO (N:=jCN) rfl rfl (by decide+kernel)) (fun cl C fp s H=>jCT (i:=0) (j:=1) rfl (show (["held","weight","left"]:List Str).Nodup by decide+kernel) rfl rfl (by decide+kernel) (by decide+kernel)) (fun cl C fp s H=>kU) (fun cl C fp s H=>(kR (j3 (jAL jG4 (gl_b (by decide+kernel)) T.tuple (by decide+kernel) (j3 (jG jE9 (gl_b (by decide+kernel)) T.sorted (by decide+kernel) (j3 (yE (m:=[none,some 2]) (Nc:=["thing","left"]) rfl (jIT (jv 0 rfl (kJ (by decide+kernel)))) rfl (by decide+kernel) (by decide+kernel) (jKW (by decide+kernel)) (jO (N:=["held","weight","left"]) rfl rfl (by decide+kernel)) (fun cl C fp s H=>jH (i:=0) (show (["thing","left"]:List Str).Nodup by decide+kernel) rfl (yU (by decide+kernel))) (fun cl C fp s H=>kU) (fun cl C fp s H=>(jKS bi gf gh jET (jv 1 rfl (kW (by decide+kernel))) (j3 (jv 0 rfl (kJ (by decide+kernel))) j7 j4) j4)) jAH) j7 jS) jS) j7 jQ) jQ) (j3 (jv 1 rfl (kJ (by decide+kernel))) j7 j4) jQ))) jAH)
   (jD (kQ (kZ (j3 (kR (j3 (jv 7 rfl vL) (j3 (jAL jAC gD T.tuple (by decide+kernel) (j3 (jG jAT gD T.sorted (by decide+kernel) (j3 (yE (m:=[none,some 15]) (Nc:=["thing","left"]) rfl (yD (jv 5 rfl vL)) rfl (by decide+kernel) (by decide+kernel) (jZ (psc:=j5 jX) (by decide+kernel)) (jO (N:=jCN) rfl rfl (by decide+kernel)) (fun cl C fp s H=>jH (i:=0) (show (["thing","left"]:List Str).Nodup by decide+kernel) rfl (yU (by decide+kernel))) (fun cl C fp s H=>kU) (fun cl C fp s H=>(jNJ bi gf gh jET (jv 1 rfl (kW (by decide+kernel))) (j3 (jv 0 rfl (kJ (by decide+kernel))) j7 j4) j4)) jAH) j7 jS) jS) j7 jQ) jQ) (j3 (jAL jAC gD T.tuple (by decide+kernel) (j3 (jv 16 rfl vL) j7 j4) j4) j7 jQ) jQ) j4)) (j3 (jv 6 rfl vL) j7 j4) yP))))))⟩
def jNZ: { t:TS // JSs (XBls P w K mg base f cdv A outer s H0 E) (jB jX) t} :=
 have nd:=scBlocks.nd
 ⟨_,(jA (jL (i:=1) nd rfl lL (jP jAG (kZ (j3 (je_int) (j3 (je_int) (j3 (jK jI9 (je_int) (je_int)) j7 kN) jR) jR)) (CT.je (hr.mono (by decide)) gD (j3 (jv 0 rfl vL) (j3 (je_int) j7 jR) j4) j4) jME) jHT) (jA (jL (i:=2) nd rfl lL (kZ j7) jD0) (jA (jB4 bN rfl (jAE gD T.range (j3 (je_int) j7 jR) jR) (jH (i:=3) nd rfl lL) (bordA T CT CB hr).2 y6) (jA (jL (i:=4) nd rfl lL (kZ j7) jD0) (jA (jL (i:=5) nd rfl lL (kZ j7) jD0) (jA (jL (i:=6) nd rfl lL (je_int) jC3) (jA (jL (i:=7) nd rfl lL (je_int) jC3) (jA (jB4 bN rfl (jAE gD T.range (j3 (jK kP (je_int) (CT.je (hr.mono (by decide)) gD (j3 (jv 0 rfl vL) (j3 (je_int) j7 jR) j4) j4)) j7 kN) kN) (jH (i:=3) nd rfl lL) (jLZ T CT CB hr).2 y6) (bendA T CT CB hr).2))))))))⟩
theorem jKB {D:Ends}{H:Hp}{p o:Addr}{N:Int}{k:Nat}{os:List Int}{v1:Option V}{vr:List (Option V)}(hp:H p=some (.lst [.int N]))(hN:0<=N)(ho:H o=some (.lst (os.map V.int)))(pm:os.Perm (upto k))(k16:k<16)(op:o≠p)
  (nx:∀ (H':Hp) (N':Int) (os':List Int),os'.Perm (upto (k+1))->H' o=some (.lst (os'.map V.int))->H' p=some (.lst [.int N'])->0<=N'->(∀ c u,H c=some u->c≠p->c≠o->H' c=some u)->D.nx (some (.ref p)::v1::some (.ref o)::some (natV k)::vr) H'):
  (bordA T CT CB hr).1 D (some (.ref p)::v1::some (.ref o)::some (natV k)::vr) H:=by
 have ol:os.length=k:=by rw[pm.length_eq,jA5]
 refine⟨_,rfl, .inl ⟨rfl,_,SqL.of ho⟩,_,rfl,_,rfl,_,_,rfl,rfl,p,N,_,rfl,hp,hN,by show (0:Int)<(k:Int)+1; omega,by show (k:Int)+1<(2 ^ 64:Int); omega,fun N1 r a1 a2 a3=>?_⟩
 have a3:r<(k:Int)+1:=a3
 have o1:(L2.upd H p (.lst [.int N1])) o=some (.lst (os.map V.int)):=by rw[j8 op]; exact ho
 refine⟨_,rfl,o,_,r,_,rfl,rfl,o1,a2,by rw[ab]; omega,by rw[ab,aL]; omega,?_⟩
 refine nx _ N1 (os.take r.toNat++(k:Int)::os.drop r.toNat) ?_ ?_ ?_ a1 fun c u h n1 n2=>?_
 ·rw[jEF]
  exact(jK1 os r.toNat k).trans (pm.append_right _)
 ·have e:(os.take r.toNat++(k:Int)::os.drop r.toNat).map V.int=(os.map V.int).take r.toNat++V.int (k:Int)::(os.map V.int).drop r.toNat:=by
   rw[aQ,bq,eG,List.map_drop]
  rw[e]
  exact j6
 ·rw[j8 (cL op)]
  exact j6
 ·rw[j8 n2,j8 n1]
  exact h
theorem jJR {D:Ends}{H:Hp}{p Fd nA q:Addr}{N wt:Int}{t z:Nat}{os pc:List Int}{us:List V}{fs:List (List Int×Int)}{v1 v2 v3 v5 v6 v7 v8 v9 v10 v11:Option V}{vr:List (Option V)}(hp:H p=some (.lst [.int N]))(hN:0<=N)(hF:H Fd=some (.lst us))(hfs:FdAt p Fd H us fs)(ul:us.length<=100)(hn:H nA=some (.lst (((upto z).map (nmF os t)).map V.int)))(hq:H q=some (.tup (pc.map V.int)))(pin:∀ x∈pc,0<=x/\x<(z:Int))(pl:pc.length<=16)(Fp:Fd≠p)(np:nA≠p)
  (nx:∀ (H':Hp) (N':Int) (us':List V) (fs':List (List Int×Int)),fs'.Perm (fs++[yW (nmF os t) (pc,wt)])->H' Fd=some (.lst us')->FdAt p Fd H' us' fs'->us'.length=us.length+1->H' p=some (.lst [.int N'])->0<=N'->(∀ c u,H c=some u->c≠p->c≠Fd->H' c=some u)->D.nx (some (.ref p)::v1::v2::v3::some (.ref Fd)::v5::v6::v7::v8::v9::v10::v11::some (.ref nA)::some (.ref q)::some (.int wt)::vr) H'):
  (binsA T CT CB hr).1 D (some (.ref p)::v1::v2::v3::some (.ref Fd)::v5::v6::v7::v8::v9::v10::v11::some (.ref nA)::some (.ref q)::some (.int wt)::vr) H:=by
 refine⟨_,rfl, .inl ⟨rfl,_,SqL.of hF⟩,_,rfl,_,rfl,Fd,_,rfl, .inl (SqL.of hF),_,_,rfl,rfl,p,N,_,rfl,hp,hN,by show (0:Int)<(us.length:Int)+1; omega,by show (us.length:Int)+1<(2 ^ 64:Int); omega,fun N7 i a1 a2 a3=>?_⟩
 have a3:i<(us.length:Int)+1:=a3
 have k7:Keep H (L2.upd H p (.lst [.int N7])) p:=fun c u h n=>by rw[j8 n]; exact h
 have p7:(L2.upd H p (.lst [.int N7])) p=some (.lst [.int N7]):=j6
 generalize L2.upd H p (.lst [.int N7])=H7 at k7 p7
 have q7:=keepT k7 hp _ _ hq
 have F7:=k7 _ _ hF Fp
 refine⟨_,rfl,q,rfl,⟨_,SqT.of q7⟩,jE8 (fun σ=>∃ v,σ=[v,some (.ref nA)]) (mapZ pc fun y=>V.int (nmF os t y)) (mapZ.ok _ _) q7 (by rw[aL,ab]; omega) ⟨_,rfl⟩ ?_ ?_⟩
 ·rintro i y σ2 H5 zs5 hy ⟨v5,rfl⟩ e5 hz5 R1 R2 yes5 no5
  obtain⟨g,hg,rfl⟩:∃ g,pc[i]?=some g/\V.int g=y:=by simpa using hy
  have gb:=pin g (ak hg)
  have at5:atI (((upto z).map (nmF os t)).map V.int) g=some (V.int (nmF os t g)):=by
   obtain⟨gn,rfl⟩:∃ gn:Nat,g=(gn:Int):=⟨g.toNat,by omega⟩
   refine yF ?_
   rw[aO,aO,jBC (by omega)]
   rfl
  dsimp only [jV,yN]
  rw[ao rfl]
  exact⟨_,rfl,_,rfl,nA,_,g,_,rfl,rfl,SqL.of (e5 _ _ (k7 _ _ hn np)),at5,yes5 _ _ _ ⟨_,rfl⟩ (Ext.refl _) (mapZ.yes hz5 hg)⟩
 ·intro D5 H5 zs5 d5 e5 nD5 hz5
  have hz5:=hz5.all (by rw[ab]; exact az _)
  subst hz5
  have d5:H5 D5=some (.lst ((pc.map (nmF os t)).map V.int)):=by rw[bY]; exact d5
  refine⟨_,rfl,by show (2:Nat)<=_; decide,fun b H8 d8 e8=>?_⟩
  have E8:=e5.trans e8
  have F8:=E8 _ _ F7
  have D5p:D5≠p:=fun z=>by rw[z,p7] at nD5; cases nD5
  have D5F:D5≠Fd:=fun z=>by rw[z,F7] at nD5; cases nD5
  refine⟨Fd,_,i,_,rfl,rfl,F8,a2,by omega,by rw[aL]; omega,?_⟩
  have K8:∀ c u,H c=some u->c≠p->c≠Fd->H8 c=some u:=fun c u h n _=>E8 _ _ (k7 _ _ h n)
  have fs8:=hfs.mono K8 hp hF
  have fs9:FdAt p Fd H8 (us.take i.toNat++V.ref b::us.drop i.toNat) (fs.take i.toNat++yW (nmF os t) (pc,wt)::fs.drop i.toNat):=All2.put ⟨b,D5,rfl,d8,e8 _ _ d5,D5p,D5F⟩ i.toNat fs8
  refine nx _ N7 _ _ (jKT fs i.toNat (yW (nmF os t) (pc,wt))) j6 (FdAt.mono fs9 (fun c o h _ n=>by rw[j8 n]; exact h) (E8 _ _ p7) F8) ?_ (by rw[j8 (cL Fp)]; exact E8 _ _ p7) a1 fun c u h n1 n2=>by rw[j8 n2]; exact K8 _ _ h n1 n2
  rw[aj,aZ,aU,cO]
  omega
end
end
theorem jP6 {os:List Int}{t z:Nat}(h:t+z<=os.length):(os.drop t).take z=(upto z).map (nmF os t):=by
 refine fD fun i=>?_
 by_cases hi:i<z
 ·rw[aO,jBC hi,g8,ao hi,cU,ai (by omega)]
  show _=some (os.getD (t+((i:Int)).toNat) 0)
  rw[bL,ar,ai (by omega)]
  rfl
 ·rw[cC (by rw[aU]; omega),cC (by rw[ab,jA5]; omega)]
theorem jL1 {xs:List V}{k:Nat}(h:k<=xs.length):cutV xs none (some (k:Int))=xs.take k:=by
 unfold cutV
 rw[HT.sIx_none,HT.sIx_nat,dH,hV,gz h]
section
variable {P:Program}{w:World}{K:W.Frag}{mg:Str->Option Value}{base:Heap}
variable {f fT fB:Addr}{fdT fdB:FuncData}{cdv:Value}{A:Around}{outer:List Env}{s:Shared}{H0:Hp}{E:XK}
section
variable (T:Txt mg)(CT:Can P w K mg base "_law_take" 1 fT fdT ["pot","wide"] yO)(CB:Can P w K mg base "_law_block" 2 fB fdB ["pot","size","may","far"] jCJ)(hr:Room 2 (XBls P w K mg base f cdv A outer s H0 E).A)
theorem jL7 {D:Ends}{H:Hp}{p Fd mA o sA:Addr}{N d le:Int}{t z:Nat}{a:Bool}{ms os:List Int}{us uz:List V}{fs A0:List (List Int×Int)}{v1 v3 v12 v13 v14:Option V}{vr:List (Option V)}(hp:H p=some (.lst [.int N]))(hN:0<=N)(hF:H Fd=some (.lst us))(hfs:FdAt p Fd H us fs)(hm:H mA=some (.lst (ms.map V.int)))(ho:H o=some (.lst (os.map V.int)))(ol:os.length=16)(hs:H sA=some (.lst uz))(hz:PcsAt H uz A0)(z4:z<=4)(tz16:t+z<=16)(bz:∀ p∈A0,p.1.length<=4/\∀ x∈p.1,0<=x/\x<(z:Int))(ul:us.length<=32)(zl:uz.length<=32)(ml:ms.length<=16)(Fp:Fd≠p)(sp:sA≠p)(sF:sA≠Fd)
  (nx:∀ (H':Hp) (N':Int) (mA':Addr) (us':List V) (fs':List (List Int×Int)) v12 v13 v14,H' mA'=some (.lst ((ms++if a=true then (upto z).map (nmF os t) else []).map V.int))->H' Fd=some (.lst us')->FdAt p Fd H' us' fs'->fs'.Perm (fs++A0.map (yW (nmF os t)))->H' p=some (.lst [.int N'])->0<=N'->(∀ c u,H c=some u->c≠p->c≠Fd->H' c=some u)->mA'≠p->mA'≠Fd->D.nx (some (.ref p)::v1::some (.ref o)::v3::some (.ref Fd)::some (.ref mA')::some (.int (d+le))::some (natV (t+z))::some (natV z)::some (.bl a)::some (.ref sA)::some (.int le)::v12::v13::v14::vr) H'):
  (bifA T CT CB hr).1 D (some (.ref p)::v1::some (.ref o)::v3::some (.ref Fd)::some (.ref mA)::some (.int d)::some (natV t)::some (natV z)::some (.bl a)::some (.ref sA)::some (.int le)::v12::v13::v14::vr) H:=by
 refine⟨_,rfl,_,rfl,_,rfl,_,rfl,_,rfl,_,_,rfl,rfl,_,rfl,o,_,rfl,SqL.of ho,fun nA hnA=>?_⟩
 rw[jNW (by rw[ab]; omega),<- List.map_drop,<- eG,jP6 (by omega)]
 have e1:Ext H (L2.upd H nA (.lst (((upto z).map (nmF os t)).map V.int))):=(Ext.refl _).new hnA _
 have d1:(L2.upd H nA (.lst (((upto z).map (nmF os t)).map V.int))) nA=some (.lst (((upto z).map (nmF os t)).map V.int)):=j6
 generalize L2.upd H nA (.lst (((upto z).map (nmF os t)).map V.int))=H1 at e1 d1
 have np:nA≠p:=fun z=>by rw[z,hp] at hnA; cases hnA
 have nF:nA≠Fd:=fun z=>by rw[z,hF] at hnA; cases hnA
 refine⟨_,rfl,_,rfl,_,rfl, .inr ⟨_,rfl,?_⟩⟩
 have rk:∀ a:Bool,(replicate ((if a=true then (1:Int) else 0)).toNat (((upto z).map (nmF os t)).map V.int)).flatten=(if a=true then (upto z).map (nmF os t) else []).map V.int:=fun a=>by
  cases a with
  | true=>show ((((upto z).map (nmF os t)).map V.int)++[])=_; rw[aW]; rfl
  | false=>rfl
 have nl:(((upto z).map (nmF os t)).map V.int).length=z:=by rw[ab,ab,jA5]
 have hsz:(((upto z).map (nmF os t)).map V.int).length*((if a=true then (1:Int) else 0)).toNat<=sizeLine:=by
  rw[nl,aL]
  cases a with
  | true=>show z*1<=_; omega
  | false=>show z*0<=_; omega
 refine⟨nA,_,_,rfl,rfl,d1,by split <;> decide,by split <;> decide,hsz,fun q hq=>?_⟩
 rw[rk]
 have e2:Ext H1 (L2.upd H1 q (.lst ((if a=true then (upto z).map (nmF os t) else []).map V.int))):=(Ext.refl _).new hq _
 have d2:(L2.upd H1 q (.lst ((if a=true then (upto z).map (nmF os t) else []).map V.int))) q=some (.lst ((if a=true then (upto z).map (nmF os t) else []).map V.int)):=j6
 generalize L2.upd H1 q (.lst ((if a=true then (upto z).map (nmF os t) else []).map V.int))=H2 at e2 d2
 have E2:=e1.trans e2
 have al:((if a=true then (upto z).map (nmF os t) else []).map V.int).length<=4:=by
  rw[ab]
  split
  ·rw[ab,jA5]; exact z4
  ·exact bH _
 refine⟨mA,q,_,_,rfl,rfl,E2 _ _ hm,d2,by rw[ab,aL]; omega,fun m3 H3 d3 e3 n3=>?_⟩
 rw[<- aQ] at d3
 have E3:=E2.trans e3
 have mp:m3≠p:=fun z=>by rw[z,E2 _ _ hp] at n3; cases n3
 have mF:m3≠Fd:=fun z=>by rw[z,E2 _ _ hF] at n3; cases n3
 have s3:=E3 _ _ hs
 have hz3:=hz.mono E3.tups
 have ns3:=e3 _ _ (e2 _ _ d1)
 have zlen:=PcsAt.len hz
 have flen:=All2.len hfs
 refine⟨_,rfl,sA,rfl,⟨_,SqL.of s3⟩,jBJ (xs:=uz) (fun i σ H'=>(∃ v13 v14,σ=some (.ref p)::v1::some (.ref o)::v3::some (.ref Fd)::some (.ref m3)::some (.int d)::some (natV t)::some (natV z)::some (.bl a)::some (.ref sA)::some (.int le)::some (.ref nA)::v13::v14::vr)/\(∀ c u,H3 c=some u->c≠p->c≠Fd->H' c=some u)/\(∃ N',H' p=some (.lst [.int N'])/\0<=N')/\∃ (us':List V) (fs':List (List Int×Int)),H' Fd=some (.lst us')/\FdAt p Fd H' us' fs'/\us'.length=us.length+i/\fs'.Perm (fs++(A0.take i).map (yW (nmF os t)))) ⟨⟨_,_,rfl⟩,fun _ _ h _ _=>h,⟨N,E3 _ _ hp,hN⟩,us,fs,E3 _ _ hF,hfs.mono (fun c o h _ _=>E3 _ _ h) hp hF,rfl,by rw[fo,gq,aW]⟩ (fun i σ H' _ ⟨_,k',_⟩=>SqL.of (k' _ _ s3 sp sF)) ?_ ?_⟩
 ·rintro i x σ H4 hx ⟨⟨v13,v14,rfl⟩,k4,⟨N4,p4,n4⟩,us4,fs4,F4,fd4,ul4,pm4⟩
  obtain⟨pc,hpc,b,q,rfl,hb,hq⟩:=PcsAt.at hz3 hx
  have T4:Tups H3 H4:=fun c xs h=>k4 _ _ h (fun z=>by rw[z,E3 _ _ hp] at h; cases h) fun z=>by rw[z,E3 _ _ hF] at h; cases h
  have il:i<uz.length:=(af.mp hx).1
  have bb:=bz pc (ak hpc)
  refine⟨b,_,rfl,SqT.of (T4 _ _ hb),rfl,_,_,rfl,_,_,rfl,rfl,?_⟩
  refine jJR T CT CB hr p4 n4 F4 fd4 (by omega) (k4 _ _ ns3 np nF) (T4 _ _ hq) bb.2 (by omega) Fp np fun H5 N5 us5 fs5 pm5 F5 fd5 ul5 p5 n5 k5=>⟨⟨_,_,rfl⟩,fun c u h x y=>k5 _ _ (k4 _ _ h x y) x y,⟨N5,p5,n5⟩,us5,fs5,F5,fd5,by omega,?_⟩
  rw[br,hpc,aQ,<- aI]
  exact pm5.trans (pm4.append_right _)
 ·rintro σ H4 ⟨⟨v13,v14,rfl⟩,k4,⟨N4,p4,n4⟩,us4,fs4,F4,fd4,ul4,pm4⟩
  rw[zlen,bK] at pm4
  refine⟨_,rfl,_,rfl,_,_,rfl,rfl,?_⟩
  refine⟨_,rfl,_,rfl,_,_,rfl,rfl,?_⟩
  have fin:=nx H4 N4 m3 us4 fs4 (some (.ref nA)) v13 v14 (k4 _ _ d3 mp mF) F4 fd4 pm4 p4 n4 (fun c u h n1 n2=>k4 _ _ (E3 _ _ h) n1 n2) mp mF
  have c1:((t+z:Nat):Int)=(t:Int)+(z:Int):=by omega
  unfold natV at fin ⊢
  rw[c1] at fin
  exact fin
theorem jHE {D:Ends}{H:Hp}{p Fd mA o:Addr}{N F d:Int}{t:Nat}{ms os:List Int}{us:List V}{fs:List (List Int×Int)}{v3 v8 v9 v10 v11 v12 v13 v14:Option V}{vr:List (Option V)}(hp:H p=some (.lst [.int N]))(hN:0<=N)(hF:H Fd=some (.lst us))(hfs:FdAt p Fd H us fs)(hm:H mA=some (.lst (ms.map V.int)))(ho:H o=some (.lst (os.map V.int)))(nd:os.Nodup)(ol:os.length=16)(b:BJ os t ms fs d)(F0:0<=F)(F1:F<=100000000000)(Fp:Fd≠p)(mp:mA≠p)(mF:mA≠Fd)(op:o≠p)
  (nx:∀ (H':Hp) (N':Int) (mA':Addr) (t':Nat) (d':Int) (ms':List Int) (us':List V) (fs':List (List Int×Int)) v8 v9 v10 v11 v12 v13 v14,0<=N'->H' p=some (.lst [.int N'])->H' mA'=some (.lst (ms'.map V.int))->H' Fd=some (.lst us')->FdAt p Fd H' us' fs'->mA'≠p->mA'≠Fd->BJ os t' ms' fs' d'->(∀ c u,H c=some u->c≠p->c≠Fd->H' c=some u)->D.nx (some (.ref p)::some (.int F)::some (.ref o)::v3::some (.ref Fd)::some (.ref mA')::some (.int d')::some (natV t')::v8::v9::v10::v11::v12::v13::v14::vr) H'):
  (jLZ T CT CB hr).1 D (some (.ref p)::some (.int F)::some (.ref o)::v3::some (.ref Fd)::some (.ref mA)::some (.int d)::some (natV t)::v8::v9::v10::v11::v12::v13::v14::vr) H:=by
 refine⟨_,rfl,p,N,4,rfl,hp,hN,by decide,by decide,fun N1 r1 a1 a2 a3=>⟨_,_,rfl,rfl,_,rfl,_,_,rfl,rfl,_,_,rfl,?_⟩⟩
 have t16:=b.t16
 obtain⟨z,hz,z4,tz⟩:∃ z:Nat,(if (16:Int) - (t:Int)<1+r1 then (16:Int) - (t:Int) else 1+r1)=(z:Int)/\z<=4/\t+z<=16:=by
  split
  ·exact⟨16 - t,by omega,by omega,by omega⟩
  ·exact⟨(1+r1).toNat,by omega,by omega,by omega⟩
 rw[hz]
 refine⟨_,rfl,p,N1,3,rfl,j6,a1,by decide,by decide,fun N2 r2 b1 b2 b3=>⟨rfl,?_⟩⟩
 generalize decide (V.int r2=V.int 1)=a
 have k2:Keep H (L2.upd (L2.upd H p (.lst [.int N1])) p (.lst [.int N2])) p:=fun c u h n=>by rw[j8 n,j8 n]; exact h
 have p2:(L2.upd (L2.upd H p (.lst [.int N1])) p (.lst [.int N2])) p=some (.lst [.int N2]):=j6
 generalize L2.upd (L2.upd H p (.lst [.int N1])) p (.lst [.int N2])=H2 at k2 p2
 refine⟨_,rfl,_,rfl,_,rfl,_,rfl,p,N2,F,z,a,rfl,p2,b1,z4,F0,F1,fun r L uz N3 A0 bs H3 bk dr dL ts n3 p3 k3 nL=>?_⟩
 have K3:Keep H H3 p:=fun c u h n=>k3 c u (k2 c u h n) n
 refine⟨r,_,rfl,SqL.of dr,rfl,_,_,rfl,_,_,rfl,rfl,?_⟩
 have m3:=K3 _ _ hm mp
 have F3:=K3 _ _ hF Fp
 have o3:=K3 _ _ ho op
 have fd3:=hfs.mono (fun c o h n _=>K3 _ _ h n) hp hF
 have ul:=All2.len hfs
 have zl:=PcsAt.len ts
 have bpl:=b.pl
 have bml:=b.ml
 have Lp:L≠p:=fun z=>by rw[z,p2] at nL; cases nL
 have LF:L≠Fd:=fun z=>by rw[z,k2 _ _ hF Fp] at nL; cases nL
 have more:=nx H3 N3 mA t d ms us fs (some (natV z)) (some (.bl a)) (some (.ref L)) (some (.int (bs.getD z 0))) v12 v13 v14 n3 p3 m3 F3 fd3 mp mF b (fun c u h n _=>K3 c u h n)
 refine⟨_,rfl,Fd,_,rfl, .inl (SqL.of F3),_,rfl,L,_,rfl, .inl (SqL.of dL),_,_,rfl,rfl,_,_,rfl,rfl,_,rfl,ite2 (fun h=>?_) (fun h=>?_)⟩
 ·have h:((us.length:Nat):Int)+((uz.length:Nat):Int)<=32:=aR h
  refine⟨_,rfl,_,_,rfl,rfl,_,rfl,ite2 (fun h2=>?_) (fun h2=>?_)⟩
  ·refine jL7 T CT CB hr p3 n3 F3 fd3 m3 o3 ol dL ts z4 tz (fun q hq=>?_) (by omega) (by omega) (by omega) Fp Lp LF fun H4 N4 mA' us' fs' v12 v13 v14 m4 F4 fd4 pm4 p4 n4 k4 mp' mF'=>?_
   ·obtain⟨h1,h2,h3,h4⟩:=bk.pin q hq
    have:=jBO q.1 0 z h1 h3
    exact⟨by omega,h3⟩
   ·exact nx H4 N4 mA' (t+z) _ _ us' fs' _ _ _ _ _ _ _ n4 p4 m4 F4 fd4 mp' mF' (b.step nd ol tz bk (by omega) pm4) fun c u h n1 n2=>k4 _ _ (K3 c u h n1) n1 n2
  ·exact more
 ·exact more
theorem _root_.L2.Ext.noneB {H H':Hp}(e:Ext H H'){c:Addr}(h:H' c=none):H c=none:=by
 cases z:H c with
 | none=>rfl
 | some o=>rw[e _ _ z] at h; cases h
theorem jJS {D:Ends}{H:Hp}{p Fd mA o:Addr}{d:Int}{t:Nat}{ms os:List Int}{us:List V}{fs:List (List Int×Int)}{v1 v3 v8 v9 v10 v11 v12 v13 v14 v15 v16:Option V}(hF:H Fd=some (.lst us))(hfs:FdAt p Fd H us fs)(hm:H mA=some (.lst (ms.map V.int)))(ho:H o=some (.lst (os.map V.int)))(nd:os.Nodup)(ol:os.length=16)(b:BJ os t ms fs d)
  (q:∀ (H':Hp) (r bx:Addr) (wi:Int) (ms':List Int) (pcs:List (List Int×Int)),H' r=some (.lst [.ref bx, .int d])->BoxAt H' bx wi ms' pcs->Good 16 32 wi ms' pcs->Lst (pcs++sg0 ms') (upto wi.toNat) d->Ext H H'->H r=none->D.rt (.ref r) H'):
  (bendA T CT CB hr).1 D [some (.ref p),v1,some (.ref o),v3,some (.ref Fd),some (.ref mA),some (.int d),some (natV t),v8,v9,v10,v11,v12,v13,v14,v15,v16] H:=by
 obtain⟨g,hd⟩:=b.box nd ol
 have ml:=b.ml
 have t16:=b.t16
 have tl:(srt (os.take t)).length<=16:=by rw[jDO,aU]; omega
 have mem:∀ x∈os.take t,x∈srt (os.take t):=fun x h=>(jT _).mem_iff.mpr h
 refine⟨_,rfl,_,rfl,_,rfl,o,_,rfl,SqL.of ho,fun c8 h8=>?_⟩
 rw[jL1 (by rw[ab]; omega),<- eG]
 refine⟨c8,os.take t,rfl,SqL.of j6,by rw[aU]; omega,fun l ns hl ple pm8=>?_⟩
 have en:ns=srt (os.take t):=jEH ple pm8
 subst en
 have e1:Ext H (L2.upd (L2.upd H c8 (.lst ((os.take t).map V.int))) l (.lst ((srt (os.take t)).map V.int))):=((Ext.refl _).new h8 _).new hl _
 have d1:(L2.upd (L2.upd H c8 (.lst ((os.take t).map V.int))) l (.lst ((srt (os.take t)).map V.int))) l=some (.lst ((srt (os.take t)).map V.int)):=j6
 generalize L2.upd (L2.upd H c8 (.lst ((os.take t).map V.int))) l (.lst ((srt (os.take t)).map V.int))=H1 at e1 d1
 generalize srt (os.take t)=left at*
 have ul:=All2.len hfs
 have bpl:=b.pl
 refine⟨_,rfl,Fd,rfl,⟨_,SqL.of (e1 _ _ hF)⟩,jB2 (fun σ=>∃ v v',σ=[v,v',some (.ref l)]) (fun (H':Hp) (zs:List V) (j:Nat)=>PcsAt H' zs ((fs.map (rowF left)).take j)) ⟨fun _=>trivial,fun H H' zs j tu h=>PcsAt.mono tu h,fun H zs j h=>by
  rw[PcsAt.len h]
  exact cK _ _⟩ (e1 _ _ hF) (by rw[aL]; omega) ⟨_,_,rfl⟩ ?_ ?_⟩
 ·rintro j x σ2 H2 zs hx ⟨v,v',rfl⟩ e2 hz S1 S2 yes no
  obtain⟨pc,hpc,pb,ph,rfl,hpb,hph,_,_⟩:=All2.get' hfs hx
  have pin:=b.pin pc (ak hpc)
  have E2:=e1.trans e2
  have gl:pc.1.length<=16:=by
   have gp:=(g.pg (rowF left pc) (bv (ak hpc))).lot
   have h1:=jBO _ 0 _ gp.ris gp.bnd
   have h2:=g.w1
   have e:(rowF left pc).1.length=pc.1.length:=by show (srt _).length=_; rw[jDO,ab]
   omega
  refine⟨pb,_,rfl,SqT.of (E2 _ _ hpb),rfl,_,_,rfl,_,_,rfl,rfl,?_⟩
  dsimp only [yN]
  rw[ao rfl]
  refine⟨_,rfl,ph,rfl,⟨_,SqL.of (E2 _ _ hph)⟩,jB2 (fun σ=>∃ v,σ=[v,some (.ref l)]) (mapZ pc.1 fun y=>V.int (ixF left y)) (mapZ.ok _ _) (E2 _ _ hph) (by rw[aL,ab]; omega) ⟨_,rfl⟩ ?_ ?_⟩
  ·rintro i y σ3 H5 zs5 hy ⟨v5,rfl⟩ e5 hz5 R1 R2 yes5 no5
   obtain⟨gg,hg,rfl⟩:∃ g,pc.1[i]?=some g/\V.int g=y:=by simpa using hy
   have gm:=mem gg (pin.2.2.1 gg (ak hg))
   have gi:=cj gm
   dsimp only [jV,yN]
   rw[ao rfl]
   refine⟨_,rfl, .inl ⟨rfl,_,SqL.of (e5 _ _ (e2 _ _ d1))⟩,_,rfl,l,left,gg,left.idxOf gg,rfl,rfl,e5 _ _ (e2 _ _ d1),by omega,by rw[ai gi,dX gi],fun m hm e=>absurd (jJ8 e) (by omega),yes5 _ _ _ ⟨_,rfl⟩ (Ext.refl _) (mapZ.yes hz5 hg)⟩
  ·intro D5 H5 zs5 d5 e5 nD5 hz5
   have hz5:=hz5.all (by rw[ab]; exact az _)
   subst hz5
   have d5:H5 D5=some (.lst ((pc.1.map (ixF left)).map V.int)):=by rw[bY]; exact d5
   refine⟨D5,pc.1.map (ixF left),rfl,SqL.of d5,by rw[ab]; omega,fun l6 ns hl6 ple pm6=>?_⟩
   have en:ns=srt (pc.1.map (ixF left)):=jEH ple pm6
   subst en
   refine⟨l6,_,rfl, .inl ⟨SqL.of j6,fun a6 h6=>?_⟩⟩
   have e6:Ext H5 (L2.upd (L2.upd H5 l6 (.lst ((srt (pc.1.map (ixF left))).map V.int))) a6 (.tup ((srt (pc.1.map (ixF left))).map V.int))):=((Ext.refl _).new hl6 _).new h6 _
   have d6:(L2.upd (L2.upd H5 l6 (.lst ((srt (pc.1.map (ixF left))).map V.int))) a6 (.tup ((srt (pc.1.map (ixF left))).map V.int))) a6=some (.tup ((srt (pc.1.map (ixF left))).map V.int)):=j6
   generalize L2.upd (L2.upd H5 l6 (.lst ((srt (pc.1.map (ixF left))).map V.int))) a6 (.tup ((srt (pc.1.map (ixF left))).map V.int))=H6 at e6 d6
   refine⟨_,rfl,by show (2:Nat)<=_; decide,fun a7 H7 d7 e7=>yes _ _ _ ⟨_,_,rfl⟩ ((e5.trans e6).trans e7) ?_⟩
   show PcsAt H7 _ ((fs.map (rowF left)).take (j+1))
   have hr2:(fs.map (rowF left))[j]?=some (rowF left pc):=by rw[aO,hpc]; rfl
   rw[br,hr2]
   exact PcsAt.snoc (p:=rowF left pc) ⟨a7,a6,rfl,d7,e7 _ _ d6⟩ (PcsAt.mono ((e5.trans e6).trans e7).tups hz)
 ·intro L H2 zs d2 e2 n2 hz
  have hz:PcsAt H2 zs ((fs.map (rowF left)).take us.length):=hz
  rw[ul,bC (by rw[ab]; exact az _)] at hz
  have E2:=e1.trans e2
  refine⟨_,rfl,_,rfl,mA,rfl,⟨_,SqL.of (E2 _ _ hm)⟩,jB2 (fun σ=>∃ v,σ=[v,some (.ref l)]) (mapZ ms fun y=>V.int (ixF left y)) (mapZ.ok _ _) (E2 _ _ hm) (by rw[aL,ab]; omega) ⟨_,rfl⟩ ?_ ?_⟩
  ·rintro i y σ3 H5 zs5 hy ⟨v5,rfl⟩ e5 hz5 R1 R2 yes5 no5
   obtain⟨gg,hg,rfl⟩:∃ g,ms[i]?=some g/\V.int g=y:=by simpa using hy
   have gm:=mem gg (b.min gg (ak hg))
   have gi:=cj gm
   dsimp only [jV,yN]
   rw[ao rfl]
   refine⟨_,rfl, .inl ⟨rfl,_,SqL.of (e5 _ _ (e2 _ _ d1))⟩,_,rfl,l,left,gg,left.idxOf gg,rfl,rfl,e5 _ _ (e2 _ _ d1),by omega,by rw[ai gi,dX gi],fun m hm e=>absurd (jJ8 e) (by omega),yes5 _ _ _ ⟨_,rfl⟩ (Ext.refl _) (mapZ.yes hz5 hg)⟩
  ·intro D5 H5 zs5 d5 e5 nD5 hz5
   have hz5:=hz5.all (by rw[ab]; exact az _)
   subst hz5
   have d5:H5 D5=some (.lst ((ms.map (ixF left)).map V.int)):=by rw[bY]; exact d5
   refine⟨D5,ms.map (ixF left),rfl,SqL.of d5,by rw[ab]; omega,fun l6 ns hl6 ple pm6=>?_⟩
   have en:ns=srt (ms.map (ixF left)):=jEH ple pm6
   subst en
   refine⟨l6,_,rfl, .inl ⟨SqL.of j6,fun a6 h6=>?_⟩⟩
   have e6:Ext H5 (L2.upd (L2.upd H5 l6 (.lst ((srt (ms.map (ixF left))).map V.int))) a6 (.tup ((srt (ms.map (ixF left))).map V.int))):=((Ext.refl _).new hl6 _).new h6 _
   have d6:(L2.upd (L2.upd H5 l6 (.lst ((srt (ms.map (ixF left))).map V.int))) a6 (.tup ((srt (ms.map (ixF left))).map V.int))) a6=some (.tup ((srt (ms.map (ixF left))).map V.int)):=j6
   generalize L2.upd (L2.upd H5 l6 (.lst ((srt (ms.map (ixF left))).map V.int))) a6 (.tup ((srt (ms.map (ixF left))).map V.int))=H6 at e6 d6
   have E6:=e5.trans e6
   refine⟨_,rfl,L,_,rfl, .inl ⟨SqL.of (E6 _ _ d2),fun a7 h7=>?_⟩⟩
   have e7:Ext H6 (L2.upd H6 a7 (.tup zs)):=(Ext.refl _).new h7 _
   have d7:(L2.upd H6 a7 (.tup zs)) a7=some (.tup zs):=j6
   generalize L2.upd H6 a7 (.tup zs)=H7 at e7 d7
   refine⟨by show (3:Nat)<=_; decide,fun bx H8 d8 e8=>?_⟩
   have E8:=(E6.trans e7).trans e8
   have hB:BoxAt H8 bx t (srt (ms.map (ixF left))) (fs.map (rowF left)):=⟨a6,a7,zs,d8,e8 _ _ (e7 _ _ d6),e8 _ _ d7,hz.mono E8.tups⟩
   refine⟨_,rfl,by show (2:Nat)<=_; decide,fun r H9 d9 e9 n9=>?_⟩
   exact q H9 r bx _ _ _ d9 (hB.mono e9.tups) g hd ((E2.trans E8).trans e9) ((E2.trans E8).noneB n9)
end
def jDQ:Sp:=fun vs H Q _=>∃ (p:Addr) (N:Int),vs=[.ref p]/\H p=some (.lst [.int N])/\0<=N/\∀ (H':Hp) (r bx:Addr) (wi:Int) (ms':List Int) (pcs:List (List Int×Int)) (d:Int),H' r=some (.lst [.ref bx, .int d])->BoxAt H' bx wi ms' pcs->Good 16 32 wi ms' pcs->Lst (pcs++sg0 ms') (upto wi.toNat) d->Keep H H' p->H r=none->Q (.ref r) H'
theorem jIE {fd:FuncData}(F:Fun K "_law_blocks" "_law_blocks" jX f fd)(T:Txt mg)(CT:Can P w K mg base "_law_take" 1 fT fdT ["pot","wide"] yO)(CB:Can P w K mg base "_law_block" 2 fB fdB ["pot","size","may","far"] jCJ):FnOk P w K mg base CX0 3 f fd ["pot"] jDQ:=by
 refine F.ok scBlocks (fun vs H Q E h=>?_) (fun cdv A outer s H vs Q E hr h=>?_)
 ·obtain⟨_,_,rfl,_⟩:=h
  rfl
 ·obtain⟨p,N,rfl,hp,hN,q⟩:=h
  refine⟨_,(jNZ T CT CB hr).2.h,?_⟩
  refine⟨_,_,rfl,rfl,⟨by decide,by decide,by decide⟩,by show (3:Nat)<=_; decide,fun l1 H1 d1 e1 n1=>?_⟩
  refine⟨_,rfl,p,N,3,rfl,e1 _ _ hp,hN,by decide,by decide,fun N2 r2 a1 a2 a3=>?_⟩
  have lp:l1≠p:=fun z=>by rw[z,hp] at n1; cases n1
  have k2:Keep H (L2.upd H1 p (.lst [.int N2])) p:=fun c u h n=>by rw[j8 n]; exact e1 _ _ h
  have p2:(L2.upd H1 p (.lst [.int N2])) p=some (.lst [.int N2]):=j6
  have l2:(L2.upd H1 p (.lst [.int N2])) l1=some (.lst [.int 50, .int 50, .int 100000000000]):=by rw[j8 lp]; exact d1
  generalize L2.upd H1 p (.lst [.int N2])=H2 at k2 p2 l2
  obtain⟨F,hF,F0,F1⟩:∃ F:Int,atI [V.int 50,V.int 50,V.int 100000000000] r2=some (.int F)/\0<=F/\F<=100000000000:=by
   have:r2=0\/r2=1\/r2=2:=by omega
   rcases this with rfl | rfl | rfl
   ·exact⟨50,rfl,by decide,by decide⟩
   ·exact⟨50,rfl,by decide,by decide⟩
   ·exact⟨100000000000,rfl,by decide,by decide⟩
  refine⟨l1,_,r2,_,rfl,rfl,SqL.of l2,hF,?_⟩
  refine⟨by show (0:Nat)<=_; decide,fun o H4 d4 e4 n4=>?_⟩
  have op:o≠p:=fun z=>by rw[z,p2] at n4; cases n4
  have p4:=e4 _ _ p2
  have K4:Keep H H4 p:=fun c u h n=>e4 _ _ (k2 _ _ h n)
  have oN:H o=none:=by
   cases z:H o with
   | none=>rfl
   | some u=>rw[k2 _ _ z op] at n4; cases n4
  refine⟨16,rfl,by decide,by decide,jAS (lo:=0) (n:=16) (fun i σ H'=>(∃ v3,σ=some (.ref p)::some (.int F)::some (.ref o)::v3::replicate 13 none)/\(∀ c u,H4 c=some u->c≠p->c≠o->H' c=some u)/\(∃ N',H' p=some (.lst [.int N'])/\0<=N')/\∃ os:List Int,os.Perm (upto i)/\H' o=some (.lst (os.map V.int))) ⟨⟨_,rfl⟩,fun _ _ h _ _=>h,⟨N2,p4,a1⟩,[],List.Perm.refl _,d4⟩ ?_ ?_⟩
  ·rintro i σ H5 hi ⟨⟨v3,rfl⟩,k5,⟨N5,p5,n5⟩,os,pm,o5⟩
   have e0:(0+(i:Int))=(i:Int):=by omega
   show (bordA T CT CB hr).1 _ (some (.ref p)::some (.int F)::some (.ref o)::some (.int (0+(i:Int)))::replicate 13 none) H5
   rw[e0]
   exact jKB T CT CB hr p5 n5 o5 pm hi op fun H6 N6 os6 pm6 o6 p6 n6 k6=>⟨⟨_,rfl⟩,fun c u h x y=>k6 _ _ (k5 _ _ h x y) x y,⟨N6,p6,n6⟩,os6,pm6,o6⟩
  ·rintro σ H5 ⟨⟨v3,rfl⟩,k5,⟨N5,p5,n5⟩,os,pm,o5⟩
   have ol:os.length=16:=by rw[pm.length_eq,jA5]
   have nd:os.Nodup:=pm.nodup_iff.mpr (by decide+kernel)
   have K5:Keep H H5 p:=fun c u h n=>k5 _ _ (K4 _ _ h n) n fun z=>by rw[z,oN] at h; cases h
   refine⟨by show (0:Nat)<=_; decide,fun Fd H6 d6 e6 n6=>?_⟩
   refine⟨by show (0:Nat)<=_; decide,fun mA H7 d7 e7 n7=>?_⟩
   have E7:=e6.trans e7
   have p7:=E7 _ _ p5
   have o7:=E7 _ _ o5
   have F7:=e7 _ _ d6
   have Fp:Fd≠p:=fun z=>by rw[z,p5] at n6; cases n6
   have Fo:Fd≠o:=fun z=>by rw[z,o5] at n6; cases n6
   have mp:mA≠p:=fun z=>by rw[z,e6 _ _ p5] at n7; cases n7
   have mF:mA≠Fd:=fun z=>by rw[z,d6] at n7; cases n7
   have FN:H Fd=none:=by
    cases z:H Fd with
    | none=>rfl
    | some u=>rw[K5 _ _ z Fp] at n6; cases n6
   refine⟨_,rfl,p,N5,5,rfl,p7,n5,by decide,by decide,fun N8 r8 b1 b2 b3=>⟨_,_,rfl,rfl,?_⟩⟩
   have k8:Keep H7 (L2.upd H7 p (.lst [.int N8])) p:=fun c u h n=>by rw[j8 n]; exact h
   have p8:(L2.upd H7 p (.lst [.int N8])) p=some (.lst [.int N8]):=j6
   generalize L2.upd H7 p (.lst [.int N8])=H8 at k8 p8
   obtain⟨m,hm,m5'⟩:∃ m:Nat,(1:Int)+r8=(m:Int)/\m<=5:=⟨(1+r8).toNat,by omega,by omega⟩
   refine⟨(m:Int),by show [V.int (1+r8)]=_; rw[hm],by omega,by omega,jAS (lo:=0) (n:=m) (fun i σ H'=>(∀ c u,H8 c=some u->c≠p->c≠Fd->H' c=some u)/\∃ (N':Int) (mA:Addr) (t:Nat) (d:Int) (ms:List Int) (us:List V) (fs:List (List Int×Int)) (v3 v8 v9 v10 v11 v12 v13 v14:Option V),σ=some (.ref p)::some (.int F)::some (.ref o)::v3::some (.ref Fd)::some (.ref mA)::some (.int d)::some (natV t)::v8::v9::v10::v11::v12::v13::v14::[none,none]/\0<=N'/\H' p=some (.lst [.int N'])/\H' mA=some (.lst (ms.map V.int))/\H' Fd=some (.lst us)/\FdAt p Fd H' us fs/\mA≠p/\mA≠Fd/\BJ os t ms fs d) ⟨fun _ _ h _ _=>h,N8,mA,0,0,[],[],[],_,_,_,_,_,_,_,_,rfl,b1,p8,k8 _ _ d7 mp,k8 _ _ F7 Fp,trivial,mp,mF,BJ.zero os⟩ ?_ ?_⟩
   ·rintro i σ H9 hi ⟨k9,N9,mA9,t9,d9,ms9,us9,fs9,v3,v8,v9,v10,v11,v12,v13,v14,rfl,n9,p9,m9,F9,fd9,mp9,mF9,b9⟩
    exact jHE T CT CB hr p9 n9 F9 fd9 m9 (k9 _ _ (k8 _ _ o7 op) op (cL Fo)) nd ol b9 F0 F1 Fp mp9 mF9 op fun HA NA mA' tA dA msA usA fsA v8 v9 v10 v11 v12 v13 v14 nA pA mmA FA fdA mpA mFA bA kA=>⟨fun c u h x y=>kA _ _ (k9 _ _ h x y) x y,NA,mA',tA,dA,msA,usA,fsA,_,v8,v9,v10,v11,v12,v13,v14,rfl,nA,pA,mmA,FA,fdA,mpA,mFA,bA⟩
   ·rintro σ H9 ⟨k9,N9,mA9,t9,d9,ms9,us9,fs9,v3,v8,v9,v10,v11,v12,v13,v14,rfl,n9,p9,m9,F9,fd9,mp9,mF9,b9⟩
    have K9:Keep H H9 p:=fun c u h n=>k9 _ _ (k8 _ _ (E7 _ _ (K5 _ _ h n)) n) n fun z=>by rw[z,FN] at h; cases h
    refine jJS T CT CB hr F9 fd9 m9 (k9 _ _ (k8 _ _ o7 op) op (cL Fo)) nd ol b9 fun HA r bx wi ms' pcs hr' hB g hL eA nr=>q HA r bx wi ms' pcs _ hr' hB g hL (fun c u h n=>eA _ _ (K9 _ _ h n)) ?_
    cases z:H r with
    | none=>rfl
    | some u=>
     by_cases zp:r=p
     ·rw[zp,p9] at nr; cases nr
     ·rw[K9 _ _ z zp] at nr; cases nr
end
end Eo
end
section
namespace L2
open PySem
theorem jIV {P:Program}{w:World}{K:W.Frag}{mg:Str->Option Value}{base:Heap}{N:List Str}{qual:Str}{sc:Scope}{f:Addr}{cdv:Value}{A:Around}{outer:List Env}{s:Shared}{H:Hp}{E:XK}{x y:Str}{p1 p2 pos:Pos}{k i j:Nat}(hN:N.Nodup)(hi:N[i]?=some x)(hj:N[j]?=some y)(hx:Loc1 (cxOf CX0 P w K mg base N qual sc f cdv A outer s H E).nox x)(hy:Loc1 (cxOf CX0 P w K mg base N qual sc f cdv A outer s H E).nox y):
  JG (cxOf CX0 P w K mg base N qual sc f cdv A outer s H E).nox (.Tuple [.Name x p1, .Name y p2] k pos) (gLst K 2 (yY (jV i) (yY (jV j) gNil))):=
 ⟨jLJ (X:=(cxOf CX0 P w K mg base N qual sc f cdv A outer s H E).nox) rfl (jA6 (jH hN hi hx) (jA6 (jH hN hj hy) jCS jAJ) jAJ).h⟩
theorem jPM {op:Operator}{a b:Expr}{pos:Pos} :FoOk (.BinOp a op b pos):=⟨fun _ _=>rfl⟩
end L2
namespace Eo
open PySem L2
def RowW (D:Addr)(H:Hp)(v:V):Prop:=∃ (r bx:Addr) (wi:Int) (ms:List Int) (pcs:List (List Int×Int)) (d:Int),v= .ref r/\r≠D/\H r=some (.lst [.ref bx, .int d])/\BoxAt H bx wi ms pcs/\Good 16 32 wi ms pcs/\Lst (pcs++sg0 ms) (upto wi.toNat) d
theorem RowW.mono {D:Addr}{H H':Hp}{v:V}(h:RowW D H v)(k:∀ c o,H c=some o->(∀ ps,o≠ .tbl ps)->c≠D->H' c=some o)(hD:∃ x,H D=some (.lst x)):RowW D H' v:=by
 obtain⟨r,bx,wi,ms,pcs,d,e,n,hr,hB,g,l⟩:=h
 obtain⟨x,hD⟩:=hD
 exact⟨r,bx,wi,ms,pcs,d,e,n,k _ _ hr (by intro _ z; cases z) n,hB.mono (fun c xs h=>k _ _ h (by intro _ z; cases z) fun z=>by rw[z,hD] at h; cases h),g,l⟩
section
variable {P:Program}{w:World}{K:W.Frag}{mg:Str->Option Value}{base:Heap}
variable {f fC fP fB fL fW fR tb:Addr}{fdC fdP fdB fdL fdW fdR:FuncData}{cdv:Value}{A:Around}{outer:List Env}{s:Shared}{H0:Hp}{E:XK}
noncomputable abbrev nLaw:List Str:=["script","rows","box","due","found"]
theorem scLaw:FnScope nLaw ["script"] (j5 sLaw):=⟨rfl,rfl,rfl,by decide+kernel,rfl,by decide+kernel,by decide+kernel⟩
abbrev XLaw (P:Program)(w:World)(K:W.Frag)(mg:Str->Option Value)(base:Heap)(f:Addr)(cdv:Value)(A:Around)(outer:List Env)(s:Shared)(H:Hp)(E:XK):Cx:=XOf nLaw "law" sLaw P w K mg base f cdv A outer s H E
structure LW (P:Program)(w:World)(K:W.Frag)(mg:Str->Option Value)(base:Heap)(fC fP fB fL fW fR tb:Addr)(fdC fdP fdB fdL fdW fdR:FuncData):Prop where
 T:Txt mg
 CC:Can P w K mg base "_law_cell_at" 1 fC fdC ["script","k"] (jHW K)
 CP:Can P w K mg base "_law_pot" 1 fP fdP ["cell"] spPot
 CB:Can P w K mg base "_law_blocks" 3 fB fdB ["pot"] jDQ
 CL:Can P w K mg base "lightest" 5 fL fdL ["box"] (jFM tb)
 CW:Can P w K mg base "_law_whole" 1 fW fdW ["found"] jCI
 CR:Can P w K mg base "_law_right_covering" 3 fR fdR ["box","thing"] jDP
section
variable (G:LW P w K mg base fC fP fB fL fW fR tb fdC fdP fdB fdL fdW fdR)(hr:Room 5 (XLaw P w K mg base f cdv A outer s H0 E).A)
def jLQ: { t:TS // JSs (XLaw P w K mg base f cdv A outer s H0 E) (yL ((jB sLaw).getD 1 (.Pass ⟨0,0,0,0⟩))) t} :=
 have nd:=scLaw.nd
 ⟨_,(jA (jL (i:=4) nd rfl lL (G.CL.je hr gD (j3 (jv 2 rfl vC) j7 j4) j4) kI)
   (jA (yX (jt_w (jw_or (jF0 (jEZ (jG jAP gD G.T.isinstance (by decide+kernel) (j3 (jv 4 rfl vL) (j3 (jE4 (v:= .ty "tuple") gD G.T.tuple (by decide+kernel) rfl) j7 j4) j4) j4) jCF)) (jw_or (jN op_ne (jG jA0 gD G.T.len (by decide+kernel) (j3 (jv 4 rfl vL) j7 j4) j4) (je_int) (jU _)) (jw_or (jF0 (jEZ (G.CW.je (hr.mono (by decide)) gD (j3 (jP kG (jv 4 rfl vL) (je_int) jE) j7 kB) kB) jCF)) (jEY (jN op_ne (jP kG (jv 4 rfl vL) (je_int) jE) (jv 3 rfl vL) (jU _))))))) (jD (kQ (je_bl))) yC)
   (jD (yX (jt_w (jw_or (jF0 (jEZ (G.CR.je (hr.mono (by decide)) gD (j3 (jv 2 rfl vC) (j3 (jP kG (jv 4 rfl vL) (je_int) jE) j7 kB) j4) j4) jCF)) (jEY (jN op_ne (jG (jF6 rfl) gD G.T.sum (by decide+kernel) (j3 (yE (m:=[none,some 2]) (Nc:=["piece","box"]) rfl (jF1 (jP kG (jv 4 rfl vL) (je_int) jE)) rfl (by decide+kernel) (by decide+kernel) (jZ (psc:=j5 sLaw) (by decide+kernel)) (jO (N:=nLaw) rfl rfl (by decide+kernel)) (fun cl C fp s H=>jH (i:=0) (show (["piece","box"]:List Str).Nodup by decide+kernel) rfl (yU (by decide+kernel))) (fun cl C fp s H=>kU) (fun cl C fp s H=>(jP jA9 (jP jA9 (jP jA9 (jv 1 rfl (kW (by decide+kernel))) (je_int) jE) (jv 0 rfl (kJ (by decide+kernel))) jB5) (je_int) jE)) jLU) j7 jS) jS) (jv 3 rfl vL) (jU _))))) (jD (kQ (je_bl))) yC))))⟩
def lawA: { t:TS // JSs (XLaw P w K mg base f cdv A outer s H0 E) (jB sLaw) t} :=
 have nd:=scLaw.nd
 ⟨_,(jA (jE0 (i:=1) nd rfl lL ⟨by rfl⟩ (m:=[none,some 0]) (Nc:=["k","script"]) rfl (jAE gD G.T.range (j3 (je_int) j7 jR) jR) rfl (by decide+kernel) (by decide+kernel) (jZ (psc:=j5 sLaw) (by decide+kernel)) (jO (N:=nLaw) rfl rfl (by decide+kernel)) (fun cl C fp s H=>jH (i:=0) (show (["k","script"]:List Str).Nodup by decide+kernel) rfl (yU (by decide+kernel))) (fun cl C fp s H=>kU) (fun cl C fp s H=>(G.CB.je (hr.mono (by decide)) (gl_b (by decide+kernel)) (j3 (G.CP.je (hr.mono (by decide)) (gl_b (by decide+kernel)) (j3 (G.CC.je (hr.mono (by decide)) (gl_b (by decide+kernel)) (j3 (jv 1 rfl (kW (by decide+kernel))) (j3 (jv 0 rfl (kJ (by decide+kernel))) j7 j4) j4) j4) j7 jQ) jQ) j7 jQ) jQ)) y6) (jA (jB4 bN rfl (yD (jK jDS (jv 1 rfl vL) (jv 1 rfl vL))) (jIV (i:=2) (j:=3) nd rfl rfl (loc_c (by decide+kernel)) lL) (jLQ G hr).2 jPM) (jD (kQ (je_bl)))))⟩
theorem jHL {D:Ends}{H:Hp}{bx:Addr}{wi d:Int}{ms:List Int}{pcs:List (List Int×Int)}{v0 v1 v4:Option V}(hB:BoxAt H bx wi ms pcs)(g:Good 16 32 wi ms pcs)(l:Lst (pcs++sg0 ms) (upto wi.toNat) d)(tab:TabL H tb)
  (nx:∀ (H':Hp) v4,TabL H' tb->ExtT tb H H'->D.nx [v0,v1,some (.ref bx),some (.int d),v4] H'):
  (jLQ G hr).1 D [v0,v1,some (.ref bx),some (.int d),v4] H:=by
 obtain⟨x,hmin,hwt,hc⟩:=jNC g l
 refine⟨_,rfl,bx,wi,ms,pcs,rfl,hB,g,tab,(fun z=>by rw[hmin] at z; cases z),fun y hy r q H1 d1 d2 e1 t1=>?_⟩
 rw[hmin] at hy
 cases hy
 rw[hwt] at d1
 have hB1:=hB.mono fun c xs h=>e1.at tab h
 refine⟨_,rfl,_,_,_,true,rfl, .tup d1,rfl,true,rfl,iteF ?_⟩
 refine⟨_,rfl,r,_,rfl, .inr (SqT.of d1),rfl,_,rfl,iteF ?_⟩
 refine⟨_,rfl,r,_,0,_,rfl,rfl,SqT.of d1,rfl,d,rfl,true,rfl,iteF ?_⟩
 refine⟨_,rfl,r,_,0,_,rfl,rfl,SqT.of d1,rfl,_,rfl,rfl,_,rfl,iteN (by show (!decide (V.int d=V.int d))=false; simp) ?_⟩
 refine⟨_,rfl,_,rfl,r,_,1,_,rfl,rfl,SqT.of d1,rfl,bx,q,wi,ms,pcs,srt x,rfl,hB1,g,d2,hc,fun H2 e2=>⟨true,rfl,iteF ?_⟩⟩
 have t2:=t1.ext e2
 have hB2:=hB1.mono e2.tups
 have q2:=e2 _ _ d2
 obtain⟨qm,qp,ps,b1,b2,b3,b4⟩:=id hB2.ex
 have cl:=jBO _ 0 _ hc.ris.ris hc.ris.bnd
 have gl:=g.pl
 refine⟨_,rfl,r,_,1,_,rfl,rfl,SqT.of (e2 _ _ d1),rfl,q,rfl,⟨_,SqT.of q2⟩,jE8 (xs:=(srt x).map V.int) (fun σ=>∃ v,σ=[v,some (.ref bx)]) (mapZ (srt x) fun k=>V.int (wgt pcs k)) (mapZ.ok _ _) q2 (by rw[ab,aL]; omega) ⟨_,rfl⟩ ?_ ?_⟩
 ·rintro j y σ' H' zs hx ⟨v,rfl⟩ e hz S1 S2 yes no
  obtain⟨k,hk',rfl⟩:∃ g,(srt x)[j]?=some g/\V.int g=y:=by simpa using hx
  have kb:=hc.ris.bnd k (ak hk')
  obtain⟨pv,hpv,pa,pw,rfl,ha1,ha2⟩:=b4.get (k:=k.toNat) (by omega)
  have at1:atI ps k=some (.ref pa):=by
   have:=yF hpv
   rwa [show ((k.toNat:Nat):Int)=k by omega] at this
  dsimp only [jV,yN]
  rw[ao rfl]
  exact⟨_,rfl,bx,_,2,_,rfl,rfl,SqT.of (e _ _ b1),rfl,_,rfl,qp,_,k,_,rfl,rfl,SqT.of (e _ _ b3),at1,pa,_,1,_,rfl,rfl,SqT.of (e _ _ ha1),rfl,yes _ _ _ ⟨_,rfl⟩ (Ext.refl _) (hz.yes hk')⟩
 ·rintro D5 H5 zs hD e nD hz
  have hz:=hz.all (by rw[ab]; exact az _)
  have hz2:zs=((srt x).map (wgt pcs)).map V.int:=by rw[hz,bY]; rfl
  rw[hz2] at hD
  refine⟨D5,_,rfl,SqL.of hD,?_⟩
  have es:((srt x).map (wgt pcs)).sum=d:=by
   rw[<- hwt]
   exact jD1 ((jT x).map _)
  rw[es]
  refine⟨_,rfl,rfl,_,rfl,iteN (by show (!decide (V.int d=V.int d))=false; simp) ?_⟩
  exact nx H5 _ (t2.ext e) ((e1.trans (ExtT.of e2)).trans (ExtT.of e))
end
def spLaw (K:W.Frag)(tb:Addr):Sp:=fun vs H Q _=>∃ (a:Addr) (ns:List Int),vs=[.ref a]/\SqL K H a (ns.map V.int)/\ns.length<=63/\TabL H tb/\∀ H',Q (.bl true) H'
theorem jP4 {fd:FuncData}(F:Fun K "law" "law" sLaw f fd)(G:LW P w K mg base fC fP fB fL fW fR tb fdC fdP fdB fdL fdW fdR):FnOk P w K mg base CX0 6 f fd ["script"] (spLaw K tb):=by
 refine F.ok scLaw (fun vs H Q E h=>?_) (fun cdv A outer s H vs Q E hr h=>?_)
 ·obtain⟨_,_,rfl,_⟩:=h
  rfl
 ·obtain⟨a,ns,rfl,hS,hlen,tab,q⟩:=h
  refine⟨_,(lawA G hr).2.h,?_⟩
  refine⟨2,rfl,by decide,by decide,jE7 (n:=2) (by decide) (fun D j σ' H' zs=>(∃ v,σ'=[v,some (.ref a)])/\Ext H H'/\H' D=some (.lst zs)/\H D=none/\zs.length=j/\∀ v∈zs,RowW D H' v) (fun D hD=>⟨⟨_,rfl⟩,(Ext.refl _).new hD _,j6,hD,rfl,fun _ h=>by cases h⟩) (fun D j σ' H' zs hD hj ⟨_,_,h,_,l,_⟩=>⟨h,by omega⟩) ?_ ?_⟩
  ·rintro D j σ' H1 zs hD hj ⟨⟨v,rfl⟩,e1,d1,n1,l1,r1⟩
   have hS1:SqL K H1 a (ns.map V.int):=by
    rcases hS with (h | ⟨o,h⟩) | h
    ·exact .inl (.inl (e1 _ _ h))
    ·exact .inl (.inr ⟨o,e1 _ _ h⟩)
    ·exact .inr h
   dsimp only [jV,yN]
   rw[ao rfl]
   refine⟨_,rfl,_,rfl,a,ns,_,rfl,hS1,by show (0:Int)<=0+(j:Int); omega,fun c=>⟨c,rfl,fun p N hp hN=>?_⟩⟩
   have e2:Ext H1 (L2.upd H1 p (.lst [.int N])):=(Ext.refl _).new hp _
   have p2:(L2.upd H1 p (.lst [.int N])) p=some (.lst [.int N]):=j6
   generalize L2.upd H1 p (.lst [.int N])=H2 at e2 p2
   refine⟨p,N,rfl,p2,hN,fun H3 r bx wi ms' pcs d dr hB g hL k3 nr=>?_⟩
   have e3:Ext H1 H3:=fun c o h=>k3 _ _ (e2 _ _ h) fun z=>by rw[z,hp] at h; cases h
   have d3:=e3 _ _ d1
   have rD:r≠D:=fun z=>by rw[z,e2 _ _ d1] at nr; cases nr
   have kD:∀ c o,H3 c=some o->(∀ ps,o≠ .tbl ps)->c≠D->(L2.upd H3 D (.lst (zs++[V.ref r]))) c=some o:=fun c o h _ n=>by rw[j8 n]; exact h
   refine⟨d3,⟨_,rfl⟩,fun c o h=>?_,j6,n1,by rw[aj,l1]; rfl,fun v hv=>?_⟩
   ·rw[j8 (fun z=>by rw[z,n1] at h; cases h)]
    exact e3 _ _ (e1 _ _ h)
   ·rcases aq.mp hv with y | y
    ·exact((r1 v y).mono (fun c o h _ _=>e3 _ _ h) ⟨_,d1⟩).mono kD ⟨_,d3⟩
    ·rw[ah.mp y]
     exact RowW.mono ⟨r,bx,wi,ms',pcs,d,rfl,rD,dr,hB,g,hL⟩ kD ⟨_,d3⟩
  ·rintro D σ' H1 zs hD ⟨_,e1,d1,n1,l1,r1⟩
   refine⟨_,rfl,_,rfl,D,D,_,_,rfl,rfl,d1,d1,by rw[aL]; omega,fun M H2 d2 e2 n2=>?_⟩
   have tab2:TabL H2 tb:=(tab.ext e1).ext e2
   refine⟨M,rfl,⟨_,SqL.of d2⟩,jBJ (xs:=zs++zs) (fun i σ H'=>(∃ v2 v3 v4,σ=[some (.ref a),some (.ref D),v2,v3,v4])/\ExtT tb H2 H'/\TabL H' tb) ⟨⟨_,_,_,rfl⟩,ExtT.refl _,tab2⟩ (fun i σ H' _ ⟨_,e',_⟩=>SqL.of (e'.at tab2 d2)) ?_ ?_⟩
   ·rintro i x σ H3 hx ⟨⟨v2,v3,v4,rfl⟩,e3,t3⟩
    have hv:x∈zs:=by
     rcases aq.mp (ak hx) with y | y <;> exact y
    obtain⟨r,bx,wi,ms,pcs,d,rfl,_,hr',hB,g,hL⟩:=(r1 x hv).mono (fun c o h n _=>e3.at tab2 (e2 _ _ h) n) ⟨_,d1⟩
    refine⟨r,_,rfl,SqL.of hr',rfl,_,_,rfl,_,_,rfl,rfl,?_⟩
    exact jHL G hr hB g hL t3 fun H4 v4 t4 e4=>⟨⟨_,_,_,rfl⟩,e3.trans e4,t4⟩
   ·rintro σ H3 ⟨⟨v2,v3,v4,rfl⟩,e3,t3⟩
    exact q H3
end
theorem lenU1 {P:List Value->Prop} :∀ {us:List Value},us.length=1->(∀ a,P [a])->P us
 | [a],_,h=>h a
theorem lenU2 {P:List Value->Prop} :∀ {us:List Value},us.length=2->(∀ a b,P [a,b])->P us
 | [a,b],_,h=>h a b
theorem lenU3 {P:List Value->Prop} :∀ {us:List Value},us.length=3->(∀ a b c,P [a,b,c])->P us
 | [a,b,c],_,h=>h a b c
theorem lenU4 {P:List Value->Prop} :∀ {us:List Value},us.length=4->(∀ a b c d,P [a,b,c,d])->P us
 | [a,b,c,d],_,h=>h a b c d
set_option maxHeartbeats 8000000 in
theorem all_mk {l:PySem.W.OpenLaw}{w:World}{K:W.Frag}{h:Heap}{mg:Str->Option Value}{fa f1 f2 f3 f4 f5 f6 f7 f8 f9 f10 f11 f12 f13 f14 f15 f16 f17:Addr}(X:K.In h)(G:h.Ns mainGlobals mg)(hfa:mg "law" =some (.ref fa))
  {od1 an1 od2 an2 od3 an3 od4 an4 od5 an5 od6 an6 od7 an7 od8 an8 od9 an9 od10 an10 od11 an11 od12 an12 od13 an13 od14 an14 od15 an15 od16 an16 od17 an17:Option Addr}{sl1 sl2 sl3 sl4 sl5 sl6 sl7 sl8 sl9 sl10 sl11 sl12 sl13 sl14 sl15 sl16 sl17:Array (Option Value)}{oc1 kV1 dc1 pm1 cd1 ct1 oc2 kV2 dc2 pm2 cd2 ct2 oc3 kV3 dc3 pm3 cd3 ct3 oc4 kV4 dc4 pm4 cd4 ct4 oc5 kV5 dc5 pm5 cd5 ct5 oc6 kV6 dc6 pm6 cd6 ct6 oc7 kV7 dc7 pm7 cd7 ct7 oc8 kV8 dc8 pm8 cd8 ct8 oc9 kV9 dc9 pm9 cd9 ct9 oc10 kV10 dc10 pm10 cd10 ct10 oc11 kV11 dc11 pm11 cd11 ct11 oc12 kV12 dc12 pm12 cd12 ct12 oc13 kV13 dc13 pm13 cd13 ct13 oc14 kV14 dc14 pm14 cd14 ct14 oc15 kV15 dc15 pm15 cd15 ct15 oc16 kV16 dc16 pm16 cd16 ct16 oc17 kV17 dc17 pm17 cd17 ct17:Value}
  (a1:PySem.W.nsIn K mainGlobals "mask_of" =some (some (.ref f1))) (l1:K.lookup f1=some ⟨oc1,od1, .func (PySem.W.fnOf "mask_of" "mask_of" (jI sMask) (jB sMask) (j5 sMask) .none kV1 dc1 pm1 an1 cd1 ct1),sl1⟩) (c1:PySem.W.codeIn K cd1 "mask_of" =true) (k1:keepIn K (.ref f1)=true)
  (a2:PySem.W.nsIn K mainGlobals "choices_of" =some (some (.ref f2))) (l2:K.lookup f2=some ⟨oc2,od2, .func (PySem.W.fnOf "choices_of" "choices_of" (jI jW) (jB jW) (j5 jW) .none kV2 dc2 pm2 an2 cd2 ct2),sl2⟩) (c2:PySem.W.codeIn K cd2 "choices_of" =true) (k2:keepIn K (.ref f2)=true)
  (a3:PySem.W.nsIn K mainGlobals "full_mask" =some (some (.ref f3))) (l3:K.lookup f3=some ⟨oc3,od3, .func (PySem.W.fnOf "full_mask" "full_mask" (jI sFull) (jB sFull) (j5 sFull) .none kV3 dc3 pm3 an3 cd3 ct3),sl3⟩) (c3:PySem.W.codeIn K cd3 "full_mask" =true) (k3:keepIn K (.ref f3)=true)
  (a4:PySem.W.nsIn K mainGlobals "choices_at" =some (some (.ref f4))) (l4:K.lookup f4=some ⟨oc4,od4, .func (PySem.W.fnOf "choices_at" "choices_at" (jI sAt) (jB sAt) (j5 sAt) .none kV4 dc4 pm4 an4 cd4 ct4),sl4⟩) (c4:PySem.W.codeIn K cd4 "choices_at" =true) (k4:keepIn K (.ref f4)=true)
  (a5:PySem.W.nsIn K mainGlobals "masks_met" =some (some (.ref f5))) (l5:K.lookup f5=some ⟨oc5,od5, .func (PySem.W.fnOf "masks_met" "masks_met" (jI sMet) (jB sMet) (j5 sMet) .none kV5 dc5 pm5 an5 cd5 ct5),sl5⟩) (c5:PySem.W.codeIn K cd5 "masks_met" =true) (k5:keepIn K (.ref f5)=true)
  (a6:PySem.W.nsIn K mainGlobals "gathered" =some (some (.ref f6))) (l6:K.lookup f6=some ⟨oc6,od6, .func (PySem.W.fnOf "gathered" "gathered" (jI yT) (jB yT) (j5 yT) .none kV6 dc6 pm6 an6 cd6 ct6),sl6⟩) (c6:PySem.W.codeIn K cd6 "gathered" =true) (k6:keepIn K (.ref f6)=true)
  (a7:PySem.W.nsIn K mainGlobals "lightest" =some (some (.ref f7))) (l7:K.lookup f7=some ⟨oc7,od7, .func (PySem.W.fnOf "lightest" "lightest" (jI kS) (jB kS) (j5 kS) .none kV7 dc7 pm7 an7 cd7 ct7),sl7⟩) (c7:PySem.W.codeIn K cd7 "lightest" =true) (k7:keepIn K (.ref f7)=true)
  (a8:PySem.W.nsIn K mainGlobals "_law_cell_at" =some (some (.ref f8))) (l8:K.lookup f8=some ⟨oc8,od8, .func (PySem.W.fnOf "_law_cell_at" "_law_cell_at" (jI sCell) (jB sCell) (j5 sCell) .none kV8 dc8 pm8 an8 cd8 ct8),sl8⟩) (c8:PySem.W.codeIn K cd8 "_law_cell_at" =true) (k8:keepIn K (.ref f8)=true)
  (a9:PySem.W.nsIn K mainGlobals "_law_pot" =some (some (.ref f9))) (l9:K.lookup f9=some ⟨oc9,od9, .func (PySem.W.fnOf "_law_pot" "_law_pot" (jI sPot) (jB sPot) (j5 sPot) .none kV9 dc9 pm9 an9 cd9 ct9),sl9⟩) (c9:PySem.W.codeIn K cd9 "_law_pot" =true) (k9:keepIn K (.ref f9)=true)
  (a10:PySem.W.nsIn K mainGlobals "_law_take" =some (some (.ref f10))) (l10:K.lookup f10=some ⟨oc10,od10, .func (PySem.W.fnOf "_law_take" "_law_take" (jI sTake) (jB sTake) (j5 sTake) .none kV10 dc10 pm10 an10 cd10 ct10),sl10⟩) (c10:PySem.W.codeIn K cd10 "_law_take" =true) (k10:keepIn K (.ref f10)=true)
  (a11:PySem.W.nsIn K mainGlobals "_law_covers" =some (some (.ref f11))) (l11:K.lookup f11=some ⟨oc11,od11, .func (PySem.W.fnOf "_law_covers" "_law_covers" (jI y9) (jB y9) (j5 y9) .none kV11 dc11 pm11 an11 cd11 ct11),sl11⟩) (c11:PySem.W.codeIn K cd11 "_law_covers" =true) (k11:keepIn K (.ref f11)=true)
  (a12:PySem.W.nsIn K mainGlobals "_law_whole" =some (some (.ref f12))) (l12:K.lookup f12=some ⟨oc12,od12, .func (PySem.W.fnOf "_law_whole" "_law_whole" (jI jBF) (jB jBF) (j5 jBF) .none kV12 dc12 pm12 an12 cd12 ct12),sl12⟩) (c12:PySem.W.codeIn K cd12 "_law_whole" =true) (k12:keepIn K (.ref f12)=true)
  (a13:PySem.W.nsIn K mainGlobals "_law_upto" =some (some (.ref f13))) (l13:K.lookup f13=some ⟨oc13,od13, .func (PySem.W.fnOf "_law_upto" "_law_upto" (jI sUpto) (jB sUpto) (j5 sUpto) .none kV13 dc13 pm13 an13 cd13 ct13),sl13⟩) (c13:PySem.W.codeIn K cd13 "_law_upto" =true) (k13:keepIn K (.ref f13)=true)
  (a14:PySem.W.nsIn K mainGlobals "_law_right_covering" =some (some (.ref f14))) (l14:K.lookup f14=some ⟨oc14,od14, .func (PySem.W.fnOf "_law_right_covering" "_law_right_covering" (jI kY) (jB kY) (j5 kY) .none kV14 dc14 pm14 an14 cd14 ct14),sl14⟩) (c14:PySem.W.codeIn K cd14 "_law_right_covering" =true) (k14:keepIn K (.ref f14)=true)
  (a15:PySem.W.nsIn K mainGlobals "_law_block" =some (some (.ref f15))) (l15:K.lookup f15=some ⟨oc15,od15, .func (PySem.W.fnOf "_law_block" "_law_block" (jI kE) (jB kE) (j5 kE) .none kV15 dc15 pm15 an15 cd15 ct15),sl15⟩) (c15:PySem.W.codeIn K cd15 "_law_block" =true) (k15:keepIn K (.ref f15)=true)
  (a16:PySem.W.nsIn K mainGlobals "_law_blocks" =some (some (.ref f16))) (l16:K.lookup f16=some ⟨oc16,od16, .func (PySem.W.fnOf "_law_blocks" "_law_blocks" (jI jX) (jB jX) (j5 jX) .none kV16 dc16 pm16 an16 cd16 ct16),sl16⟩) (c16:PySem.W.codeIn K cd16 "_law_blocks" =true) (k16:keepIn K (.ref f16)=true)
  (a17:PySem.W.nsIn K mainGlobals "law" =some (some (.ref f17))) (l17:K.lookup f17=some ⟨oc17,od17, .func (PySem.W.fnOf "law" "law" (jI sLaw) (jB sLaw) (j5 sLaw) .none kV17 dc17 pm17 an17 cd17 ct17),sl17⟩) (c17:PySem.W.codeIn K cd17 "law" =true) (k17:keepIn K (.ref f17)=true)
   (z1:PySem.W.nsIn K mainGlobals "len" =some none) (z2:PySem.W.nsIn K mainGlobals "range" =some none) (z3:PySem.W.nsIn K mainGlobals "tuple" =some none) (z4:PySem.W.nsIn K mainGlobals "sorted" =some none) (z5:PySem.W.nsIn K mainGlobals "set" =some none) (z6:PySem.W.nsIn K mainGlobals "list" =some none) (z7:PySem.W.nsIn K mainGlobals "int" =some none) (z8:PySem.W.nsIn K mainGlobals "isinstance" =some none) (z9:PySem.W.nsIn K mainGlobals "bool" =some none) (z10:PySem.W.nsIn K mainGlobals "str" =some none) (z11:PySem.W.nsIn K mainGlobals "all" =some none) (z12:PySem.W.nsIn K mainGlobals "zip" =some none) (z13:PySem.W.nsIn K mainGlobals "max" =some none) (z14:PySem.W.nsIn K mainGlobals "min" =some none) (z15:PySem.W.nsIn K mainGlobals "any" =some none) (z16:PySem.W.nsIn K mainGlobals "abs" =some none) (z17:PySem.W.nsIn K mainGlobals "sum" =some none) (z18:PySem.W.nsIn K mainGlobals "enumerate" =some none) (z19:PySem.W.nsIn K mainGlobals "dict" =some none) {tb1 cc1:Addr}(cde1:cd7= .ref cc1) (hcd1:codeHdIn K cc1 tb1=true) {bmA:Addr}(xb1:PySem.W.nsIn K mainGlobals "__builtins__" =some (some (.ref bmA))) (xb2:K.lookup bmA=some ⟨.type "module",some builtinsNs, .plain,#[]⟩) (xb3:bmA≠builtinsNs) (xb4:bmA≠mainGlobals):
  ∃ fd:FuncData,(∀ (s:Shared) (v:Value),BindsTo s fd ⟨[v],[]⟩ [("script",v)])/\∀ base:Heap,K.In base->base.Ns mainGlobals mg->FnOk l.prog w K mg base CX0 6 fa fd ["script"] (spLaw K tb1):=by
 have e:=hfa.symm.trans (eE X G a17)
 cases e
 have T:Txt mg:=⟨aV X G z1,aV X G z2,aV X G z3,aV X G z4,aV X G z5,aV X G z6,aV X G z7,aV X G z8,aV X G z9,aV X G z10,aV X G z11,aV X G z12,aV X G z13,aV X G z14,aV X G z15,aV X G z16,aV X G z17,aV X G z18,aV X G z19⟩
 have F1:=kT (st:=sMask) l1 c1 k1
 have b1:=F1.binds (ps:=["lot"]) fun _ _ _ _ _ _ us hl=>lenU1 (P:=fun us=>bindArgs _ ⟨us,[]⟩=pure (List.zip _ us)) hl fun _=>rfl
 have F2:=kT (st:=jW) l2 c2 k2
 have b2:=F2.binds (ps:=["box"]) fun _ _ _ _ _ _ us hl=>lenU1 (P:=fun us=>bindArgs _ ⟨us,[]⟩=pure (List.zip _ us)) hl fun _=>rfl
 have F3:=kT (st:=sFull) l3 c3 k3
 have b3:=F3.binds (ps:=["choices"]) fun _ _ _ _ _ _ us hl=>lenU1 (P:=fun us=>bindArgs _ ⟨us,[]⟩=pure (List.zip _ us)) hl fun _=>rfl
 have F4:=kT (st:=sAt) l4 c4 k4
 have b4:=F4.binds (ps:=["choices","mask"]) fun _ _ _ _ _ _ us hl=>lenU2 (P:=fun us=>bindArgs _ ⟨us,[]⟩=pure (List.zip _ us)) hl fun _ _=>rfl
 have F5:=kT (st:=sMet) l5 c5 k5
 have b5:=F5.binds (ps:=["choices"]) fun _ _ _ _ _ _ us hl=>lenU1 (P:=fun us=>bindArgs _ ⟨us,[]⟩=pure (List.zip _ us)) hl fun _=>rfl
 have F6:=kT (st:=yT) l6 c6 k6
 have b6:=F6.binds (ps:=["choices","at_end","join"]) fun _ _ _ _ _ _ us hl=>lenU3 (P:=fun us=>bindArgs _ ⟨us,[]⟩=pure (List.zip _ us)) hl fun _ _ _=>rfl
 have F7:=kT (st:=kS) l7 c7 k7
 have b7:=F7.binds (ps:=["box"]) fun _ _ _ _ _ _ us hl=>lenU1 (P:=fun us=>bindArgs _ ⟨us,[]⟩=pure (List.zip _ us)) hl fun _=>rfl
 have F8:=kT (st:=sCell) l8 c8 k8
 have b8:=F8.binds (ps:=["script","k"]) fun _ _ _ _ _ _ us hl=>lenU2 (P:=fun us=>bindArgs _ ⟨us,[]⟩=pure (List.zip _ us)) hl fun _ _=>rfl
 have F9:=kT (st:=sPot) l9 c9 k9
 have b9:=F9.binds (ps:=["cell"]) fun _ _ _ _ _ _ us hl=>lenU1 (P:=fun us=>bindArgs _ ⟨us,[]⟩=pure (List.zip _ us)) hl fun _=>rfl
 have F10:=kT (st:=sTake) l10 c10 k10
 have b10:=F10.binds (ps:=["pot","wide"]) fun _ _ _ _ _ _ us hl=>lenU2 (P:=fun us=>bindArgs _ ⟨us,[]⟩=pure (List.zip _ us)) hl fun _ _=>rfl
 have F11:=kT (st:=y9) l11 c11 k11
 have b11:=F11.binds (ps:=["box","some"]) fun _ _ _ _ _ _ us hl=>lenU2 (P:=fun us=>bindArgs _ ⟨us,[]⟩=pure (List.zip _ us)) hl fun _ _=>rfl
 have F12:=kT (st:=jBF) l12 c12 k12
 have b12:=F12.binds (ps:=["found"]) fun _ _ _ _ _ _ us hl=>lenU1 (P:=fun us=>bindArgs _ ⟨us,[]⟩=pure (List.zip _ us)) hl fun _=>rfl
 have F13:=kT (st:=sUpto) l13 c13 k13
 have b13:=F13.binds (ps:=["thing","least","most"]) fun _ _ _ _ _ _ us hl=>lenU3 (P:=fun us=>bindArgs _ ⟨us,[]⟩=pure (List.zip _ us)) hl fun _ _ _=>rfl
 have F14:=kT (st:=kY) l14 c14 k14
 have b14:=F14.binds (ps:=["box","thing"]) fun _ _ _ _ _ _ us hl=>lenU2 (P:=fun us=>bindArgs _ ⟨us,[]⟩=pure (List.zip _ us)) hl fun _ _=>rfl
 have F15:=kT (st:=kE) l15 c15 k15
 have b15:=F15.binds (ps:=["pot","size","may","far"]) fun _ _ _ _ _ _ us hl=>lenU4 (P:=fun us=>bindArgs _ ⟨us,[]⟩=pure (List.zip _ us)) hl fun _ _ _ _=>rfl
 have F16:=kT (st:=jX) l16 c16 k16
 have b16:=F16.binds (ps:=["pot"]) fun _ _ _ _ _ _ us hl=>lenU1 (P:=fun us=>bindArgs _ ⟨us,[]⟩=pure (List.zip _ us)) hl fun _=>rfl
 have F17:=kT (st:=sLaw) l17 c17 k17
 refine⟨PySem.W.fnOf "law" "law" (jI sLaw) (jB sLaw) (j5 sLaw) .none kV17 dc17 pm17 an17 cd17 ct17,fun s v=> .of_eq rfl,fun base KB _=>?_⟩
 have M:=fun {x:Str}{f:Addr}(a:PySem.W.nsIn K mainGlobals x=some (some (.ref f)))=>eE X G a
 have M':=fun {x:Str}{v:Value}(a:PySem.W.nsIn K mainGlobals x=some (some v))=>eE X G a
 have CD1:PySem.W.CodeHd base cc1 tb1:=gM KB hcd1
 have FC1:FunC K "lightest" "lightest" kS f7 _ cc1:=⟨_,_,_,_,_,_,_,_,rfl,cde1 ▸ l7,cde1 ▸ c7⟩
 have BM:BltAt base mg:=⟨bmA,_,eE X G xb1,xb3,xb4,KB _ _ xb2,rfl,rfl,rfl⟩
 have C1:Can l.prog w K mg base "mask_of" 1 f1 _ ["lot"] jEJ:=⟨jN4 F1 T,M a1,k1,b1⟩
 have C2:Can l.prog w K mg base "choices_of" 2 f2 _ ["box"] jBD:=⟨jH1 F2 T C1,M a2,k2,b2⟩
 have C3:Can l.prog w K mg base "full_mask" 1 f3 _ ["choices"] jD3:=⟨jN7 F3 T,M a3,k3,b3⟩
 have C4:Can l.prog w K mg base "choices_at" 1 f4 _ ["choices","mask"] spAt:=⟨ok_at F4 T,M a4,k4,b4⟩
 have C5:Can l.prog w K mg base "masks_met" 2 f5 _ ["choices"] spMet:=⟨jP3 F5 T C3 C4,M a5,k5,b5⟩
 have C6:Can l.prog w K mg base "gathered" 4 f6 _ ["choices","at_end","join"] (fun _ _ _ _=>False):=⟨FnOk.never,M a6,k6,b6⟩
 have C7:Can l.prog w K mg base "lightest" 5 f7 _ ["box"] (jFM tb1):=⟨jKE FC1 T CD1 BM C2 (fun cl i=>jN6 F6 T C3 C5 C4 ((jFR T cl i).mono (by decide)) (ZC.st _ _ _) (zhL.ok cl i) (RLt.ok _ _) (jDB i.g)) (M a6) k6 b6,M a7,k7,b7⟩
 have C8:Can l.prog w K mg base "_law_cell_at" 1 f8 _ ["script","k"] (jHW K):=⟨jN8 F8 T,M a8,k8,b8⟩
 have C9:Can l.prog w K mg base "_law_pot" 1 f9 _ ["cell"] spPot:=⟨jP2 F9 T,M a9,k9,b9⟩
 have C10:Can l.prog w K mg base "_law_take" 1 f10 _ ["pot","wide"] yO:=⟨jN3 F10,M a10,k10,b10⟩
 have C11:Can l.prog w K mg base "_law_covers" 1 f11 _ ["box","some"] jC5:=⟨jID F11 T,M a11,k11,b11⟩
 have C12:Can l.prog w K mg base "_law_whole" 1 f12 _ ["found"] jCI:=⟨jKD F12 T,M a12,k12,b12⟩
 have C13:Can l.prog w K mg base "_law_upto" 2 f13 _ ["thing","least","most"] spUpI:=⟨jN2 F13 T C12,M a13,k13,b13⟩
 have C14:Can l.prog w K mg base "_law_right_covering" 3 f14 _ ["box","thing"] jDP:=⟨jIC F14 T C13 C11,M a14,k14,b14⟩
 have C15:Can l.prog w K mg base "_law_block" 2 f15 _ ["pot","size","may","far"] jCJ:=⟨jKF F15 T C10,M a15,k15,b15⟩
 have C16:Can l.prog w K mg base "_law_blocks" 3 f16 _ ["pot"] jDQ:=⟨jIE F16 T C10 C15,M a16,k16,b16⟩
 exact jP4 F17 ⟨T,C8,C9,C16,C7,C12,C14⟩
theorem walk {l:PySem.W.OpenLaw}{q:Program}{loose:List Str}{XP:(Str->Option Value)->Heap->Prop}{YP:World->Heap->Prop}{d:DefRec}{K:Params->W.Frag}(hn:l.most=some 63)(hdf:d.params.defaults=[]){tb1:Addr}{cc1:Addr}
  (hY:∀ (w:World) (h:Heap),YP w h->(K w.params).In h/\∀ T∈[tb1],h.get? T=some (tabObj #[])) (hcd:∀ w:World,codeHdIn (K w.params) cc1 tb1=true) (hKT:∀ w:World,∀ T∈[tb1],(K w.params).lookup T=none) (hnd:([tb1]:List Addr).Nodup)
  (F:∀ (w:World) (mg:Str->Option Value) (fa:Addr) (h:Heap),(K w.params).In h->h.Ns mainGlobals mg->mg d.name=some (.ref fa)->
   ∃ fd:FuncData,(∀ (s:Shared) (u:Value),BindsTo s fd ⟨[u],[]⟩ [("script",u)])/\∀ base:Heap,(K w.params).In base->base.Ns mainGlobals mg->FnOk l.prog w (K w.params) mg base CX0 6 fa fd ["script"] (spLaw (K w.params) tb1)):
  PySem.W.WalkO q loose XP YP l.row.toRowW d [] (fun f vs=>PySem.call f vs):=
 L2.walk_ofTs (cts:=[(cc1,tb1)]) (n:=63) (k:=6) (x:= "script") (CX:=fun _=>CX0) (sp:=fun w=>spLaw (K w.params) tb1) hn (by decide) hdf ⟨rfl,by decide,by decide⟩ hY (fun w p hp=>by
  obtain _h0:=hcd w
  simp only [aH,bf,cJ] at hp
  rcases hp with rfl <;> assumption) hKT F (fun _ H a ns hl hT hS=>⟨a,ns,rfl,hS,hl, .inl (hT _ aG),fun _=>rfl⟩) fun _ _ _ _ _ z=>z
end Eo
open PySem PySem.W PyProof.Rows
set_option maxRecDepth 100000 in
set_option maxHeartbeats 0 in
theorem PySem.Challenge.cw_eachonce_k40_whole_great_lightest_holds : PySem.Challenge.rw_eachonce_k40_whole_great_lightest.Holds := by
 w_on
 refine holds_law (by decide+kernel) fun said=>?_
 refine holds_open (q:=Eo.vw) (loose:=[]) (Xt:=fun s=>xlAt Eo.vw [] s&&recOk (RowW.records (OpenRow.toRowW PySem.Challenge.rw_eachonce_k40_whole_great_lightest.row)) s) (XP:=XL Eo.vw []) (Yf:=Hook.obs Eo.kH) (Ya:=Hook.val Eo.kH) (YP:=Hook.says Eo.kH) (N:=2900) Eo.left (Hook.of Eo.kH) (Hook.keeps Eo.kH) (fun s e=>xl_of s (eR.mp e).1) XL.keeps (by rfl) (by rfl) (by rfl) (fun s e=>recFacts_of (eR.mp e).2) rfl said (by decide+kernel) ⟨rfl,rfl,rfl,rfl,rfl,by decide+kernel⟩ ?hw ?hc
 case hw=>w_witness2
 refine Eo.walk (l:=PySem.Challenge.rw_eachonce_k40_whole_great_lightest) (K:=Eo.kK) rfl rfl (tb1:=50) (cc1:=54) (fun w h Y=>⟨PySem.W.km_in_of Y,PySem.W.km_tabs_of Y⟩) (fun w=>by kernel_rfl) (fun w T hm=>by
   simp only [aH,bf,cJ] at hm
   rcases hm with rfl <;> kernel_rfl) (by decide) ?F
 case F=>
  intro w mg fa h KX G hmg
  k_fill
  refine' Eo.all_mk KX G hmg _ _ _ _ _ _ _ _ _ _ _ _ _ _ _ _ _ _ _ _ _ _ _ _ _ _ _ _ _ _ _ _ _ _ _ _ _ _ _ _ _ _ _ _ _ _ _ _ _ _ _ _ _ _ _ _ _ _ _ _ _ _ _ _ _ _ _ _ _ _ _ _ _ _ _ _ _ _ _ _ _ _ _ _ _ _ _ (tb1:=50) rfl (by kernel_rfl) (bmA:=4) (by kernel_rfl) (by kernel_rfl) (by decide) (by decide)
  all_goals try k_is
end
