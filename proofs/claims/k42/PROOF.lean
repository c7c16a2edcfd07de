import PyProof.Rows.All
import KE.KDictList
import KE.KDictOf
import KE.KFromBytes
import KE.KIsAll
import KE.KItem
import KE.KLam
import KE.KNestM
import PySem.Challenge.RW_eachonce_k42_against_of_anything
noncomputable section
set_option Elab.async false
set_option linter.all false
set_option maxRecDepth 100000
def aa:=@PySem.wpAny_bind
def ab:=@List.length_map
def ac:=@PySem.Heap.get?_push_of_some
def ae:=@PySem.wpAny_pure
def af:=@Nat.le_refl
def ag:=@PySem.Heap.lt_size
def ah:=@if_pos
def ai:=@Nat.lt_succ_of_lt
def aj:=@PySem.sizeLine_eq
def ak:=@PySem.Heap.get?_push_size
def am:=@if_neg
def ao:=@List.length_range
def aq:=@Bool.false_ne_true
def ar:=@List.getElem?_eq_some_iff
def au:=@List.size_toArray
def av:=@List.mem_cons
def aw:=@List.lookup_cons
def ay:=@List.getElem?_map
def az:=@of_decide_eq_true
def aA:=@List.mem_cons_of_mem
def aB:=@Nat.lt_succ_self
def aC:=@Nat.ne_of_lt
def aD:=@Nat.lt_of_lt_of_le
def aE:=@List.mem_cons_self
def aF:=@PySem.W.mg_none_of
def aG:=@decide_eq_true
def aH:=@List.mem_append_right
def aI:=@List.map_append
def aJ:=@List.length_append
def aK:=@List.getElem?_range
def aL:=@List.getElem?_eq_getElem
def aM:=@PySem.wpAny_setField_rec
def aN:=@Option.some.inj
def aO:=@List.mem_range
def aP:=@Nat.zero_le
def aQ:=@PySem.wpAny_callSpecial?_slot
def aR:=@PySem.Heap.size_push
def aS:=@List.not_mem_nil
def aT:=@List.getD_eq_getElem?_getD
def aU:=@PySem.wpAny_field
def aV:=@Nat.lt_irrefl
def aW:=@Array.length_toList
def aX:=@decide_eq_false
def aY:=@PySem.wpAny_call_entry
def aZ:=@Nat.le_trans
def ba:=@PySem.wpAny_newObj_type
def bb:=@PyProof.Rows.slot_tuple_getitem
def bc:=@List.map_map
def be:=@Nat.not_lt_zero
def bf:=@PySem.PassesOwn.never
def bg:=@List.length_cons
def bh:=@List.mem_of_getElem?
def bj:=@PySem.W.kia_one
def bm:=@List.take_of_length_le
def bn:=@Int.mul_nonpos_of_nonpos_of_nonneg
def bo:=@congrArg
def bp:=@Bool.and_eq_true
def bq:=@List.all_eq_true
def br:=@PySem.F.plainAttrs_list
def bt:=@PyProof.Rows.callWith_type1
def bu:=@Nat.ne_of_gt
def bv:=@List.take_add_one
def bw:=@List.mem_map
def bx:=@beq_eq_false_iff_ne
def bz:=@List.map_congr_left
def bA:=@List.mem_append
def bB:=@PySem.wpAny_loadPart'
def bC:=@List.mem_singleton
def bE:=@PySem.wpAny_holding
def bF:=@Int.mul_zero
def bG:=@PySem.wpAny_setState_of
def bH:=@List.replicate_succ
def bI:=@List.length_take
def bJ:=@PySem.wpAny_mono
def bK:=@PySem.wpAny_seqItems
def bL:=@Nat.lt_of_le_of_lt
def bM:=@PySem.Heap.get?_update_self
def bN:=@List.getElem?_eq_none
def bO:=@List.length_filter_le
def bP:=@Classical.byContradiction
def bQ:=@PySem.wpAny_passesOwn
def bR:=@Bool.eq_iff_iff
def bS:=@PySem.wpAny_pyIter_list
def bT:=@PySem.Around.under_plainId
def bU:=@Int.le_of_lt
def bV:=@PySem.F.slot_list_append
def bW:=@PySem.F.type_list_append
def bX:=@PySem.mem_of_lookup
def bY:=@List.length_take_le
def bZ:=@Bool.false_and
def ca:=@or_false
def cb:=@Int.mul_le_mul_of_nonneg_right
def cc:=@Nat.mod_eq_of_lt
def ce:=@PySem.Heap.get?_update_other
def cf:=@Int.zero_mul
def cg:=@PySem.codeAny_builtin
def ck:=@List.map_cons
def cm:=@List.flatten_cons
def cn:=@Int.toNat_natCast
def cq:=@Bool.eq_false_iff
def cr:=@Int.fdiv_eq_ediv_of_nonneg
def cv:=@List.getElem?_append_right
def cw:=@Nat.le_of_lt
def cx:=@List.length_drop
def cy:=@PySem.wpAny_askSetting
def cz:=@Nat.le_add_right
def cA:=@Int.add_zero
def cB:=@List.getElem?_append_left
def cC:=@List.getElem_of_mem
def cD:=@PySem.F.args_tuple_add_2
def cE:=@PySem.wpAny_attempt
def cF:=@List.nodup_cons
def cG:=@List.range_succ
def cH:=@List.length_nil
def cI:=@PySem.wpAny_rule
def cJ:=@List.filter_append
def cK:=@PySem.F.entry_tuple_add
def cL:=@Ne.symm
def cM:=@PySem.wpAny_truthy_bool
def cN:=@PySem.F.slot_tuple_add
def cO:=@Nat.lt_trans
def cP:=@Bool.and_false
def cQ:=@Int.zero_add
def cR:=@List.any_map
def cS:=@List.take_append_drop
def cT:=@Array.getElem?_toList
def cU:=@PySem.builtinLookup_eq_fast
def cV:=@List.getElem_mem
def cW:=@PySem.wpAny_isInstance
def cX:=@if_true
def cY:=@PySem.sizeLine_eq
def cZ:=@List.mem_of_mem_drop
def da:=@Array.toArray_toList
def db:=@PySem.wpAny_updateSeq_pair
def dc:=@Nat.pow_lt_pow_right
def de:=@List.mem_filter
def df:=@PySem.wpAny_execs_nil
def dg:=@List.append_nil
def dh:=@List.length_set
def di:=@List.filterMap_cons
def dj:=@PySem.Heap.SameBut.update
def dk:=@Nat.mul_le_mul_left
def dn:=@PySem.codeAny_mono
def dq:=@PySem.wpAny_typeOf
def dr:=@Int.mul_lt_mul_of_pos_right
def dw:=@PySem.Calls.Name_function_global
def dy:=@PySem.wpAny_pyIter_tuple
def dz:=@PySem.wpAny_Call_Name_kw
def dA:=@Int.natAbs_natCast
def dB:=@Nat.mul_add_mod_self_right
def dC:=@Int.eq_of_mul_eq_mul_left
def dD:=@Int.le_of_mul_le_mul_left
def dE:=@Int.mul_neg_of_neg_of_pos
def dF:=@Int.lt_of_mul_lt_mul_left
def dG:=@PySem.wpAny_assign_Name
def dH:=@Int.mul_one
def dI:=@List.take_sublist
def dJ:=@Option.some.injEq
def dL:=@PySem.Heap.SameBut.refl
def dM:=@List.pairwise_map
def dN:=@PySem.wpAny_standAt
def dO:=@PySem.W.mg_of
def dP:=@PySem.wpAny_comprehension_free
def dQ:=@PySem.plainId_quiet
def dR:=@PyProof.noPylong_of_log2
def dS:=@PySem.wpAny_onRaise
def dU:=@Bool.true_and
def dW:=@PySem.noFill_tuple_add
def dX:=@beq_self_eq_true
def dY:=@PySem.F.plain_list_iadd
def dZ:=@List.any_eq_true
def d8:=@List.take_length
def d9:=@Classical.axiomOfChoice
def ef:=@List.getElem?_set_self
def eh:=@PySem.W.cellsFrom_some
def ej:=@PySem.call_meets
def el:=@Nat.mul_comm
def eB:=@List.pairwise_lt_range
def eC:=@List.of_mem_zip
def eE:=@List.forIn_cons
def eF:=@PySem.typeLookup_type
def eG:=@PySem.pushCells_keeps
def eH:=@List.length_replicate
def eJ:=@PySem.F.slot_set_iter
def eL:=@List.mem_append_left
def eM:=@List.getElem?_set_ne
def eN:=@List.pairwise_append
def eQ:=@PySem.isSubtype_type
def eR:=@PySem.isSubtype_stop
def eS:=@List.range_eq_range'
def eU:=@List.forIn_nil
def eV:=@PySem.wpAny_letGo
def eW:=@Nat.pow_le_pow_right
def eX:=@List.mem_of_mem_take
def eY:=@Nat.mul_le_mul_right
def eZ:=@Int.natAbs_mul
def e8:=@Bool.and_eq_true_iff
def e9:=@List.all_cons
def fb:=@Bool.not_true
def fc:=@PySem.wpAny_load
def fe:=@List.mem_filterMap
def ff:=@Int.natCast_nonneg
def fg:=@PySem.Walks.list
def fh:=@Array.append_empty
def fi:=@Int.emod_lt_of_pos
def fm:=@Nat.succ_mul
def fo:=@Nat.add_comm
def fq:=@Nat.succ_pos
def fr:=@Nat.log2_lt
def ft:=@Int.le_refl
def fu:=@not_or
open PySem.W (findIn instObj kHook kIn_of keepIn kitOne kitx_dict kitx_list lookIn methodObj mg_of mroIn plainGet)
open List (all_map range' replicate)
open Nat (mod_lt)
open Option (getD_none)
section
namespace L2
open PySem PySem.Spec PyProof.Rows
def jR (s:Stmt):Arguments:=match s with
 | .FunctionDef _ a _ _ _ _ _ _ _ _=>a
 | _=> { posonlyargs:=[],args:=[],vararg:=none,kwonlyargs:=[],kw_defaults:=[],kwarg:=none,defaults:=[]}
def jB (s:Stmt):List Stmt:=match s with
 | .FunctionDef _ _ b _ _ _ _ _ _ _=>b
 | _=> []
def j7 (s:Stmt):Scope:=match s with
 | .FunctionDef _ _ _ _ _ _ sc _ _ _=>sc
 | _=> { kind:= .function,names:=[],isGenerator:=false,isCoroutine:=false}
end L2
end
section
namespace Eo
open PySem L2
noncomputable def top (i:Nat):Stmt:=PySem.Challenge.pw_eachonce_k42_against_of_anything.main.body.getD i (.Pass ⟨0,0,0,0⟩)
abbrev jAI:Stmt:=top 1
abbrev sGcd:Stmt:=top 2
abbrev sFrOf:Stmt:=top 3
abbrev jAV:Stmt:=top 5
abbrev sSpk:Stmt:=top 7
abbrev yI:Stmt:=top 8
abbrev sColT:Stmt:=top 9
abbrev yT:Stmt:=top 10
abbrev yG:Stmt:=top 11
abbrev sBal:Stmt:=top 12
abbrev yB:Stmt:=top 13
abbrev sCell:Stmt:=top 15
abbrev sPot:Stmt:=top 16
abbrev sTake:Stmt:=top 17
abbrev sLot:Stmt:=top 18
abbrev sBox:Stmt:=top 19
abbrev jBA:Stmt:=top 20
abbrev yF:Stmt:=top 21
abbrev jAW:Stmt:=top 22
abbrev yV:Stmt:=top 23
abbrev sVec:Stmt:=top 24
abbrev sPut:Stmt:=top 25
abbrev sLaw:Stmt:=top 26
noncomputable def kC (x:Str)(t:Nat)(l n:Int)(a:Nat)(X Y:Value)(z:Nat)(u:Int)(v:Nat):Obj:=⟨.type "code",none, .fields #[.str x t, .str x (t+1), .str "/claim/cut.py" (t+2), .int l 0, .int n 0, .int 0 0, .int 0 0, .int 3 0, .ref a, .bool true, .int 181 0, .ref (a+1), .none,X,Y, .ref z, .int u 0, .int l 0, .str "/claim/cut.py" v],#[]⟩
noncomputable def kF (x:Str)(s:Stmt)(m:Str)(t c:Nat):Obj:=⟨.type "function",none, .func (PySem.W.fnOf x x (jR s) (jB s) (j7 s) .none .none .none (.str m t) none (.ref c) .none),#[]⟩
noncomputable def kM (P:Params):Obj:=
 let e (x:Str) (t:Nat) (v:Value):DictEntry:=⟨PyData.keyHash P x, .str x t,v⟩
 ⟨.type "dict",none, .dict #[e "__name__" 165 (.str "law_eachonce_k42_against_of_anything" 276),e "__doc__" 166 (.none),e "__package__" 167 (.none),e "__loader__" 168 (.builtin "__main__.__loader__#opaque"),e "__spec__" 169 (.none),e "__annotations__" 170 (.ref 6),e "__builtins__" 171 (.ref 4),e "__file__" 173 (.str "/claim/cut.py" 172),e "__cached__" 174 (.none),e "is_whole" 195 (.ref 21),e "common_divisor" 204 (.ref 28),e "fraction_of" 213 (.ref 35),e "musts_of" 221 (.ref 40),e "speaks_against" 229 (.ref 45),e "first_table" 235 (.ref 50),e "column_to_take" 244 (.ref 57),e "row_to_give" 257 (.ref 64),e "turned" 263 (.ref 69),e "balanced" 269 (.ref 74),e "shares" 275 (.ref 79),e "_law_cell_at" 285 (.ref 86),e "_law_pot" 295 (.ref 93),e "_law_take" 304 (.ref 100),e "_law_lot" 310 (.ref 105),e "_law_box" 316 (.ref 110),e "_law_whole" 323 (.ref 117),e "_law_wholes" 329 (.ref 122),e "_law_drawn" 340 (.ref 129),e "_law_speaks" 346 (.ref 134),e "_law_vector" 352 (.ref 139),e "_law_put" 365 (.ref 146),e "law" 379 (.ref 153)] 32,#[]⟩
noncomputable def kK (P:Params):W.Frag:=(nat_lit 3,kM P)::(nat_lit 20,kC "is_whole" 189 2 1 15 (.ref 17) (.ref 18) 19 193 194)::(nat_lit 21,kF "is_whole" jAI "eachonce.kinds" 187 20)::(nat_lit 27,kC "common_divisor" 196 4 2 22 (.ref 24) (.ref 25) 26 202 203)::(nat_lit 28,kF "common_divisor" sGcd "eachonce.kinds" 187 27)::(nat_lit 34,kC "fraction_of" 205 10 2 29 (.ref 31) (.ref 32) 33 211 212)::(nat_lit 35,kF "fraction_of" sFrOf "eachonce.kinds" 187 34)::(nat_lit 39,kC "musts_of" 216 14 1 36 (.none) (.none) 38 219 220)::(nat_lit 40,kF "musts_of" jAV "eachonce.boxes" 214 39)::(nat_lit 44,kC "speaks_against" 224 18 2 41 (.none) (.none) 43 227 228)::(nat_lit 45,kF "speaks_against" sSpk "eachonce.shares" 222 44)::(nat_lit 49,kC "first_table" 230 24 2 46 (.none) (.none) 48 233 234)::(nat_lit 50,kF "first_table" yI "eachonce.shares" 222 49)::(nat_lit 56,kC "column_to_take" 236 33 1 51 (.ref 53) (.ref 54) 55 242 243)::(nat_lit 57,kF "column_to_take" sColT "eachonce.shares" 222 56)::(nat_lit 63,kC "row_to_give" 245 38 3 58 (.ref 60) (.ref 61) 62 255 256)::(nat_lit 64,kF "row_to_give" yT "eachonce.shares" 222 63)::(nat_lit 68,kC "turned" 258 49 4 65 (.none) (.none) 67 261 262)::(nat_lit 69,kF "turned" yG "eachonce.shares" 222 68)::(nat_lit 73,kC "balanced" 264 59 2 70 (.none) (.none) 72 267 268)::(nat_lit 74,kF "balanced" sBal "eachonce.shares" 222 73)::(nat_lit 78,kC "shares" 270 75 1 75 (.none) (.none) 77 273 274)::(nat_lit 79,kF "shares" yB "eachonce.shares" 222 78)::(nat_lit 85,kC "_law_cell_at" 278 82 2 80 (.ref 82) (.ref 83) 84 283 284)::(nat_lit 86,kF "_law_cell_at" sCell "law_eachonce_k42_against_of_anything" 276 85)::(nat_lit 92,kC "_law_pot" 286 86 1 87 (.ref 89) (.ref 90) 91 293 294)::(nat_lit 93,kF "_law_pot" sPot "law_eachonce_k42_against_of_anything" 276 92)::(nat_lit 99,kC "_law_take" 296 95 2 94 (.ref 96) (.ref 97) 98 302 303)::(nat_lit 100,kF "_law_take" sTake "law_eachonce_k42_against_of_anything" 276 99)::(nat_lit 104,kC "_law_lot" 305 99 2 101 (.none) (.none) 103 308 309)::(nat_lit 105,kF "_law_lot" sLot "law_eachonce_k42_against_of_anything" 276 104)::(nat_lit 109,kC "_law_box" 311 108 3 106 (.none) (.none) 108 314 315)::(nat_lit 110,kF "_law_box" sBox "law_eachonce_k42_against_of_anything" 276 109)::(nat_lit 116,kC "_law_whole" 317 126 1 111 (.ref 113) (.ref 114) 115 321 322)::(nat_lit 117,kF "_law_whole" jBA "law_eachonce_k42_against_of_anything" 276 116)::(nat_lit 121,kC "_law_wholes" 324 128 1 118 (.none) (.none) 120 327 328)::(nat_lit 122,kF "_law_wholes" yF "law_eachonce_k42_against_of_anything" 276 121)::(nat_lit 128,kC "_law_drawn" 330 130 4 123 (.ref 125) (.ref 126) 127 338 339)::(nat_lit 129,kF "_law_drawn" jAW "law_eachonce_k42_against_of_anything" 276 128)::(nat_lit 133,kC "_law_speaks" 341 135 2 130 (.none) (.none) 132 344 345)::(nat_lit 134,kF "_law_speaks" yV "law_eachonce_k42_against_of_anything" 276 133)::(nat_lit 138,kC "_law_vector" 347 141 2 135 (.none) (.none) 137 350 351)::(nat_lit 139,kF "_law_vector" sVec "law_eachonce_k42_against_of_anything" 276 138)::(nat_lit 145,kC "_law_put" 353 155 2 140 (.ref 142) (.ref 143) 144 363 364)::(nat_lit 146,kF "_law_put" sPut "law_eachonce_k42_against_of_anything" 276 145)::(nat_lit 152,kC "law" 366 164 1 147 (.ref 149) (.ref 150) 151 377 378)::(nat_lit 153,kF "law" sLaw "law_eachonce_k42_against_of_anything" 276 152)::[]
noncomputable def kA:List Addr:=[3,20,21,27,28,34,35,39,40,44,45,49,50,56,57,63,64,68,69,73,74,78,79,85,86,92,93,99,100,104,105,109,110,116,117,121,122,128,129,133,134,138,139,145,146,152,153]
noncomputable def vw:Program:= { PySem.Challenge.pw_eachonce_k42_against_of_anything with main:= { PySem.Challenge.pw_eachonce_k42_against_of_anything.main with body:=[top 1,top 2,top 3,top 5,top 7,top 8,top 9,top 10,top 11,top 12,top 13,top 15,top 16,top 17,top 18,top 19,top 20,top 21,top 22,top 23,top 24,top 25,top 26]}}
theorem kA_eq:∀ P,kA=(kK P).map (·.1):=fun _=>by kernel_rfl
noncomputable abbrev kH:PySem.W.Hook:=kHook kK kA kA_eq
set_option maxHeartbeats 0 in
theorem left:PySem.W.LeftO PySem.Challenge.rw_eachonce_k42_against_of_anything.prog vw [] (fun s=>PySem.W.xlAt vw [] s&&PySem.W.recOk (PySem.W.RowW.records (PySem.W.OpenRow.toRowW PySem.Challenge.rw_eachonce_k42_against_of_anything.row)) s) (PySem.W.Hook.obs kH) (PySem.W.Hook.val kH) 6900:=fun w=>by kernel_rfl
end Eo
end
section
namespace L2
open PySem PySem.Spec PyProof.Rows
abbrev Key:=Sum Int Str
def keyIs:Key->Value->Bool
 | .inl k,v=>Value.isInt k v
 | .inr x,v=>Value.isStrOf x v
def keyH (w:World):Key->Int
 | .inl k=>hashInt k
 | .inr x=>hashStr w x
theorem jA2:∀ {k:Key}{v:Value},keyIs k v=true->(∃ i t,k=Sum.inl i/\v=Value.int i t)\/(∃ x t,k=Sum.inr x/\v=Value.str x t)
 | .inl i,v,h=>by
  obtain⟨t,e⟩:=Value.isInt_shape (k:=i) (v:=v) h
  exact .inl ⟨i,t,rfl,e⟩
 | .inr x,v,h=>by
  obtain⟨t,e⟩:=Value.isStrOf_shape (x:=x) (v:=v) h
  exact .inr ⟨x,t,rfl,e⟩
theorem jOH (a b:Int):decide ((Sum.inl a:Key)=Sum.inl b)=(a==b):=by
 by_cases e:a=b
 ·subst e; simp
 ·have h:¬ (Sum.inl a:Key)=Sum.inl b:=fun q=>e (Sum.inl.inj q)
  rw[aX h]
  exact(bx.mpr e).symm
theorem jOE (a b:Str):decide ((Sum.inr a:Key)=Sum.inr b)=decide (a=b):=by
 by_cases e:a=b
 ·subst e; simp
 ·have h:¬ (Sum.inr a:Key)=Sum.inr b:=fun q=>e (Sum.inr.inj q)
  rw[aX h,aX e]
theorem jOG (a:Int)(b:Str):decide ((Sum.inl a:Key)=Sum.inr b)=false:=aX (fun q=>nomatch q)
theorem jOF (a:Str)(b:Int):decide ((Sum.inr a:Key)=Sum.inl b)=false:=aX (fun q=>nomatch q)
def jIV (prog:Program)(w:World):PySem.KeyKind prog w Key where
 is:=keyIs
 hash:=keyH w
 inj:=fun v a b ha hb=>by
  rcases jA2 ha with ⟨i,t,rfl,rfl⟩ | ⟨x,t,rfl,rfl⟩
  ·rcases jA2 hb with ⟨j,u,rfl,e⟩ | ⟨y,u,rfl,e⟩
   ·injection e with e1 _; rw[e1]
   ·exact nomatch e
  ·rcases jA2 hb with ⟨j,u,rfl,e⟩ | ⟨y,u,rfl,e⟩
   ·exact nomatch e
   ·injection e with e1 _; rw[e1]
 byValue:=fun k v h=>by
  rcases jA2 h with ⟨i,t,rfl,rfl⟩ | ⟨x,t,rfl,rfl⟩ <;> rfl
 pyHash:=fun hv h=>by
  rcases jA2 hv with ⟨i,t,rfl,rfl⟩ | ⟨x,t,rfl,rfl⟩
  ·exact wpAny_pyHash_int h
  ·exact wpAny_pyHash_str h
 eqBool:=fun hu hv h=>by
  rcases jA2 hu with ⟨i,t,rfl,rfl⟩ | ⟨x,t,rfl,rfl⟩
  ·rcases jA2 hv with ⟨j,u,rfl,rfl⟩ | ⟨y,u,rfl,rfl⟩
   ·rw[jOH] at h; exact wpAny_eqBool_int h
   ·rw[jOG] at h; exact SeqAt.EqAt.int_str i t y u _ _ _ _ h
  ·rcases jA2 hv with ⟨j,u,rfl,rfl⟩ | ⟨y,u,rfl,rfl⟩
   ·rw[jOF] at h; exact SeqAt.EqAt.str_int x t j u _ _ _ _ h
   ·rw[jOE] at h; exact wpAny_eqBool_str h
 «strs»:=fun k x t v h=>by
  rcases jA2 h with ⟨i,u,rfl,e⟩ | ⟨y,u,rfl,e⟩
  ·exact nomatch e
  ·injection e with e1 _
   subst e1
   cases v <;> rfl
end L2
namespace L2
open PySem PySem.Spec PyProof.Rows
inductive V where
 | non | bl (b:Bool) | int (i:Int) | str (x:Str) | byt (b:Array UInt8) | flt (b:UInt64) | ref (a:Addr) | ty (n:String)
 deriving DecidableEq
def RelV:V->Value->Prop
 | .non,u=>u=Value.none
 | .bl b,u=>u=Value.bool b
 | .int i,u=>∃ t,u=Value.int i t
 | .str x,u=>∃ t,u=Value.str x t
 | .byt b,u=>∃ t,u=Value.bytes b t
 | .flt b,u=>∃ t,u=Value.float b t
 | .ref a,u=>u=Value.ref a
 | .ty n,u=>u=Value.type n
abbrev Vals:List V->List Value->Prop:=Paired RelV
theorem Vals.length {xs:List V}{us:List Value}(r:Vals xs us):xs.length=us.length:=Paired.length r
theorem Vals.get:∀ {xs:List V}{us:List Value}{i:Nat}{x:V},Vals xs us->xs[i]?=some x->∃ u,us[i]?=some u/\RelV x u
 | _,_,_,_, .nil,e=>by simp at e
 | _,_,0,_, .cons r _,e=>by simp at e; subst e; exact⟨_,rfl,r⟩
 | _,_,i+1,x, .cons _ t,e=>by
  obtain⟨u,h1,h2⟩:=Vals.get (i:=i) (x:=x) t (by simpa using e)
  exact⟨u,by simpa using h1,h2⟩
theorem Vals.set {x:V}{u:Value}(r:RelV x u):∀ {xs:List V}{us:List Value}(i:Nat),Vals xs us->Vals (xs.set i x) (us.set i u)
 | _,_,_, .nil=> .nil
 | _,_,0, .cons _ t=> .cons r t
 | _,_,i+1, .cons q t=> .cons q (Vals.set r i t)
theorem Vals.append:∀ {xs ys:List V}{us ws:List Value},Vals xs us->Vals ys ws->Vals (xs++ys) (us++ws)
 | _,_,_,_, .nil,s=>s
 | _,_,_,_, .cons r t,s=> .cons r (Vals.append t s)
theorem Vals.take:∀ {xs:List V}{us:List Value}(n:Nat),Vals xs us->Vals (xs.take n) (us.take n)
 | _,_,0,_=> .nil
 | _,_,_+1, .nil=> .nil
 | _,_,n+1, .cons r t=> .cons r (Vals.take n t)
theorem Vals.drop:∀ {xs:List V}{us:List Value}(n:Nat),Vals xs us->Vals (xs.drop n) (us.drop n)
 | _,_,0,r=>r
 | _,_,_+1, .nil=> .nil
 | _,_,n+1, .cons _ t=>Vals.drop n t
def RelO:Option V->Option Value->Prop
 | some v,some u=>RelV v u
 | none,none=>True
 | _,_=>False
def KV {κ:Type} :List (κ×V)->List (κ×Value)->Prop:=Paired fun (p:κ×V) (q:κ×Value)=>p.1=q.1/\RelV p.2 q.2
noncomputable def kV:Key->V
 | .inl i=> .int i
 | .inr x=> .str x
def TupO (h:Heap)(a:Addr)(items:Array Value):Prop:=∃ n,h.get? a=some { cls:= .type "tuple",data:= .seq items n}
theorem TupO.isTup {h:Heap}{a:Addr}{items:Array Value}(x:TupO h a items):IsTup h a items:=let ⟨n,e⟩:=x; ⟨_,e,rfl,n,rfl⟩
theorem TupO.new (h:Heap)(items:Array Value):TupO (h.push { cls:= .type "tuple",data:= .seq items}) h.objs.size items:=⟨0,ak _ rfl⟩
inductive HO where
  | lst (xs:List V)
  | tup (xs:List V)
  | dK (kvs:List (Key×V)) | dT (kvs:List (List Key×V))
  | set (S:Int->Bool) (n:Nat)
  | ins (C dx:Addr) (fs:List (Str×V))
  | own (x:Addr)
  | xd (fs:List (Str×V))
  | met (f x:Addr)
  | rng (lo hi:Int)
  | frz (o:Obj) (u:HO)
  | tbl (ps:Array Value)
  | ext (φ:Heap->Prop)
abbrev Hp:=Addr->Option HO
def upd (H:Hp)(a:Addr)(o:HO):Hp:=fun b=>if b=a then some o else H b
theorem j4 {H:Hp}{a:Addr}{o:HO} :upd H a o a=some o:=by unfold upd; rw[ah rfl]
theorem j9 {H:Hp}{a b:Addr}{o:HO}(h:b≠a):upd H a o b=H b:=by unfold upd; rw[am h]
theorem ne_of {H:Hp}{a b:Addr}{o u:HO}(h:H a=some o)(h':H b=some u)(d:o≠u):a≠b:=by
 intro e; subst e; rw[h] at h'; exact d (aN h')
theorem jA {H:Hp}{a b:Addr}{o:HO}(h:H a=some o)(h':H b=none):a≠b:=by
 intro e; subst e; rw[h] at h'; cases h'
section
variable (P:Program)(w:World)
def ObjOk (H:Hp)(h:Heap)(a:Addr):HO->Prop
 | .lst xs=>xs.length<=sizeLine/\∃ (its:List Value) (n:Nat),Vals xs its/\h.get? a=some { cls:= .type "list",data:= .seq its.toArray n}
 | .tup xs=>xs.length<=sizeLine/\∃ its:List Value,Vals xs its/\TupO h a its.toArray
 | .dK kvs=>kvs.length<=sizeLine/\(a==sysModules)=false/\∃ vs,KV kvs vs/\h.DictOf (jIV P w) a vs
 | .dT kvs=>kvs.length<=sizeLine/\(a==sysModules)=false/\∃ xs:List (List Key×Addr×Value),
   Paired (fun (p:List Key×V) (q:List Key×Addr×Value)=>p.1=q.1/\H q.2.1=some (.tup (p.1.map kV))/\RelV p.2 q.2.2) kvs xs/\
   ∃ o es ep,h.get? a=some o/\o.ExactDict/\o.data= .dict es ep/\es.toList=xs.map (entryOfKey (tupleKind (jIV P w)))/\(xs.map (·.1)).Nodup
 | .set S n=>h.SetOf (intKind P w) a S n
 | .ins C dx fs=>H dx=some (.own a)/\fs.length<=1000/\dx≠a/\h.get? a=some (instObj C dx)/\
   ∃ mA,h.Ns1 dx mA/\(∀ f,RelO (fs.lookup f) (mA f))/\PySem.Within mA (fs.map (·.1))
 | .own _=>∃ o,h.get? a=some o
 | .xd fs=>∃ mA,h.Ns1 a mA/\∀ f,RelO (fs.lookup f) (mA f)
 | .rng lo hi=>∃ t u v,h.get? a=some { cls:= .type "range",data:= .fields #[.int lo t, .int hi u, .int 1 v]}
 | .frz o u=>h.get? a=some o/\ObjOk H h a u
 | .tbl ps=>h.get? a=some { cls:= .none,data:= .fields ps}
 | .met f x=>h.get? a=some (methodObj (.ref f) (.ref x))
 | .ext φ=>φ h/\(∃ o,h.get? a=some o)/\∀ h1 h2:Heap,φ h1->(∀ o,h1.get? a=some o->h2.get? a=some o)->φ h2
def HOk (H:Hp)(h:Heap):Prop:=∀ a o,H a=some o->ObjOk P w H h a o
end
section
variable {P:Program}{w:World}{H H':Hp}{h h':Heap}{a:Addr}{o:HO}
theorem ObjOk.lt (x:ObjOk P w H h a o):a<h.objs.size:=by
 cases o with
 | lst xs=>obtain⟨_,_,_,_,e⟩:=x; exact ag e
 | tup xs=>obtain⟨_,_,_,_,e⟩:=x; exact ag e
 | dK kvs=>obtain⟨_,_,_,_,o,_,_,e,_⟩:=x; exact ag e
 | dT kvs=>obtain⟨_,_,_,_,o,_,_,e,_⟩:=x; exact ag e
 | set S n=>obtain⟨o,_,_,_,e,_⟩:=x; exact ag e
 | ins C dx fs=>obtain⟨_,_,_,e,_⟩:=x; exact ag e
 | own y=>obtain⟨_,e⟩:=x; exact ag e
 | xd fs=>obtain⟨_,⟨_,_,_,e,_⟩,_⟩:=x; exact ag e
 | rng lo hi=>obtain⟨_,_,_,e⟩:=x; exact ag e
 | frz ob u=>obtain⟨e,_⟩:=x; exact ag e
 | tbl ps=>exact ag (show h.get? a=some _ from x)
 | met f y=>exact ag (show h.get? a=some _ from x)
 | ext φ=>obtain⟨_,⟨_,e⟩,_⟩:=x; exact ag e
theorem Paired.mapP {α β:Type}{F G:α->β->Prop} :∀ {l₁:List α}{l₂:List β},Paired F l₁ l₂->(∀ a b,F a b->G a b)->Paired G l₁ l₂
 | _,_, .nil,_=> .nil
 | _,_, .cons r t,f=> .cons (f _ _ r) (Paired.mapP t f)
theorem ObjOk.stay (x:ObjOk P w H h a o)(k:∀ b u,(b=a\/H b=some (.own a))->h.get? b=some u->h'.get? b=some u)
  (ho:∀ b,H b=some (.own a)->H' b=some (.own a)) (ht:∀ b xs,H b=some (.tup xs)->H' b=some (.tup xs)):ObjOk P w H' h' a o:=by
 induction o with
 | lst xs=>obtain⟨z,its,n,r,e⟩:=x; exact⟨z,its,n,r,k _ _ (.inl rfl) e⟩
 | tup xs=>obtain⟨z,its,r,n,e⟩:=x; exact⟨z,its,r,n,k _ _ (.inl rfl) e⟩
 | dK kvs=>obtain⟨z,y,vs,r,ob,es,ep,e,c⟩:=x; exact⟨z,y,vs,r,ob,es,ep,k _ _ (.inl rfl) e,c⟩
 | dT kvs=>
  obtain⟨z,y,xs,r,ob,es,ep,e,c⟩:=x
  exact⟨z,y,xs,Paired.mapP r fun p q z=>⟨z.1,ht _ _ z.2.1,z.2.2⟩,ob,es,ep,k _ _ (.inl rfl) e,c⟩
 | set S n=>obtain⟨ob,es,ep,t,e,c⟩:=x; exact⟨ob,es,ep,t,k _ _ (.inl rfl) e,c⟩
 | ins C dx fs=>
  obtain⟨d,z,ne,e,mA,⟨od,es,ep,e2,c⟩,r⟩:=x
  exact⟨ho _ d,z,ne,k _ _ (.inl rfl) e,mA,⟨od,es,ep,k _ _ (.inr d) e2,c⟩,r⟩
 | own y=>obtain⟨ob,e⟩:=x; exact⟨ob,k _ _ (.inl rfl) e⟩
 | xd fs=>obtain⟨mA,⟨od,es,ep,e,c⟩,r⟩:=x; exact⟨mA,⟨od,es,ep,k _ _ (.inl rfl) e,c⟩,r⟩
 | rng lo hi=>obtain⟨t,u,v,e⟩:=x; exact⟨t,u,v,k _ _ (.inl rfl) e⟩
 | frz ob u ih=>obtain⟨e,q⟩:=x; exact⟨k _ _ (.inl rfl) e,ih q⟩
 | tbl ps=>
  have e:h.get? a=some { cls:= .none,data:= .fields ps} :=x
  show h'.get? a=some { cls:= .none,data:= .fields ps}
  exact k a _ (.inl rfl) e
 | met f y=>
  have e:h.get? a=some (methodObj (.ref f) (.ref y)):=x
  show h'.get? a=some (methodObj (.ref f) (.ref y))
  exact k a _ (.inl rfl) e
 | ext φ=>obtain⟨p,⟨o,e⟩,st⟩:=x; exact⟨st _ _ p fun o q=>k _ _ (.inl rfl) q,⟨o,k _ _ (.inl rfl) e⟩,st⟩
theorem HOk.lt (x:HOk P w H h)(e:H a=some o):a<h.objs.size:=(x a o e).lt
theorem HOk.fresh (x:HOk P w H h)(e:h.objs.size<=a):H a=none:=by
 cases q:H a with
 | none=>rfl
 | some u=>exact absurd (aD (x.lt q) e) (aV _)
theorem HOk.kept (x:HOk P w H h)(k:∀ b u,h.get? b=some u->h'.get? b=some u):HOk P w H h':=fun a o e=>
 (x a o e).stay (fun b u _ q=>k b u q) (fun _ q=>q) fun _ _ q=>q
theorem HOk.laid (x:HOk P w H h)(k:∀ b u,h.get? b=some u->h'.get? b=some u)(hp:h.objs.size<=a)(new:ObjOk P w (upd H a o) h' a o):HOk P w (upd H a o) h':=fun b u e=>by
 have hn:=x.fresh hp
 by_cases hb:b=a
 ·subst hb; rw[j4] at e; cases e; exact new
 ·rw[j9 hb] at e
  exact(x b u e).stay (fun c v _ q=>k c v q) (fun c q=>by rw[j9 (jA q hn)]; exact q) fun c xs q=>by rw[j9 (jA q hn)]; exact q
end
def Rd (H:Hp)(a:Addr)(u:HO):Prop:=H a=some u\/∃ o,H a=some (.frz o u)
theorem Rd.ok {P:Program}{w:World}{H:Hp}{h:Heap}{a:Addr}{u:HO}(r:Rd H a u)(x:HOk P w H h):ObjOk P w H h a u:=by
 rcases r with r | ⟨o,r⟩
 ·exact x a u r
 ·obtain⟨_,q⟩:=x a _ r
  exact q
def Mut:Option HO->Prop
 | some (.lst _)=>True
 | some (.dK _)=>True
 | some (.dT _)=>True
 | some (.set _ _)=>True
 | some (.ins _ _ _)=>True
 | some (.ext _)=>True
 | _=>False
section
variable {P:Program}{w:World}{H:Hp}{h h':Heap}{x e:Addr}{o':HO}
theorem HOk.write (ok:HOk P w H h)(mu:Mut (H x))(he:e=x\/H e=some (.own x))(k:∀ b u,b≠e->h.get? b=some u->h'.get? b=some u)(heo:∃ u,h'.get? e=some u)
  (new:ObjOk P w (upd H x o') h' x o'):HOk P w (upd H x o') h':=fun b u q=>by
 have nown:∀ c y,H c=some (.own y)->c≠x:=fun c y r z=>by subst z; rw[r] at mu; exact mu
 have ntup:∀ c xs,H c=some (.tup xs)->c≠x:=fun c xs r z=>by subst z; rw[r] at mu; exact mu
 by_cases hb:b=x
 ·subst hb; rw[j4] at q; cases q; exact new
 ·rw[j9 hb] at q
  by_cases hbe:b=e
  ·have q':H b=some (.own x):=by
    rcases he with z | z
    ·exact absurd (hbe.trans z) hb
    ·rw[hbe]; exact z
   rw[q] at q'; cases q'
   obtain⟨v,hv⟩:=heo
   exact⟨v,by rw[hbe]; exact hv⟩
  ·refine(ok b u q).stay (fun c v hc r=>k c v ?_ r) (fun c r=>by rw[j9 (nown c b r)]; exact r) fun c xs r=>by rw[j9 (ntup c xs r)]; exact r
   rcases hc with rfl | hc
   ·exact hbe
   ·rintro rfl
    rcases he with z | z
    ·exact nown c b hc z
    ·rw[hc] at z; cases z; exact hb rfl
end
structure Un (fs ex:List Addr)(H H':Hp)(h h':Heap):Prop where
 keep:∀ b o,h.get? b=some o->H b=none->b∉fs->b∉ex->h'.get? b=some o
 slot:∀ b o,h.get? b=some o->H b=none->b∈fs->b∉ex->∃ sl,h'.get? b=some { o with slots:=sl}
 free:∀ b o,h.get? b=some o->H b=none->b∉ex->H' b=none
 there:∀ b o,h.get? b=some o->b∉ex->∃ o',h'.get? b=some o'
 tups:∀ b xs,H b=some (.tup xs)->H' b=some (.tup xs)
 frzs:∀ b o u,H b=some (.frz o u)->H' b=some (.frz o u)
 tbls:∀ b ps,H b=some (.tbl ps)->∃ more,H' b=some (.tbl (ps++more))
section
variable {fs fs' ex ex':List Addr}{H H1 H2:Hp}{h h1 h2 h':Heap}{a x e:Addr}{o:HO}
theorem Un.any (u:Un fs ex H H1 h h1){b:Addr}{ob:Obj}(q:h.get? b=some ob)(n:H b=none)(hx:b∉ex):∃ sl,h1.get? b=some { ob with slots:=sl} :=by
 by_cases hb:b∈fs
 ·exact u.slot b ob q n hb hx
 ·exact⟨ob.slots,u.keep b ob q n hb hx⟩
theorem Un.kept (k:∀ b u,h.get? b=some u->h'.get? b=some u):Un fs ex H H h h':=
 ⟨fun b ob q _ _ _=>k b ob q,fun b ob q _ _ _=>⟨ob.slots,k b ob q⟩,fun _ _ _ n _=>n,fun b ob q _=>⟨ob,k b ob q⟩,fun _ _ q=>q,fun _ _ _ q=>q,fun _ ps q=>⟨#[],by rw[q]; simp⟩⟩
theorem Un.refl:Un fs ex H H h h:=Un.kept fun _ _ q=>q
theorem Un.laid (k:∀ b u,h.get? b=some u->h'.get? b=some u)(hp:h.objs.size<=a)(hn:H a=none):Un fs ex H (upd H a o) h h' where
 keep:=fun b u q _ _ _=>k b u q
 slot:=fun b u q _ _ _=>⟨u.slots,k b u q⟩
 free:=fun b u q n _=>by rw[j9 (aC (aD (ag q) hp))]; exact n
 there:=fun b u q _=>⟨u,k b u q⟩
 tups:=fun b xs q=>by rw[j9 (jA q hn)]; exact q
 frzs:=fun b u xs q=>by rw[j9 (jA q hn)]; exact q
 tbls:=fun b ps q=>⟨#[],by rw[j9 (jA q hn),q]; simp⟩
theorem Un.write (mu:Mut (H x))(he:e=x\/H e=some (.own x))(k:∀ b u,b≠e->h.get? b=some u->h'.get? b=some u)(heo:∃ u,h'.get? e=some u):Un fs ex H (upd H x o) h h':=by
 have hx:∀ b,H b=none->b≠x:=fun b n z=>by subst z; rw[n] at mu; exact mu
 have hb:∀ b,H b=none->b≠e:=fun b n z=>by
  subst z
  rcases he with r | r
  ·exact hx b n r
  ·rw[n] at r; cases r
 have hm:∀ b u,H b=some u->¬ Mut (some u)->b≠x:=fun b u q nm z=>by subst z; rw[q] at mu; exact nm mu
 refine⟨fun b u q n _ _=>k b u (hb b n) q,fun b u q n _ _=>⟨u.slots,k b u (hb b n) q⟩,fun b u q n _=>by rw[j9 (hx b n)]; exact n,fun b u q _=>?_,
  fun b xs q=>by rw[j9 (hm b _ q fun z=>z)]; exact q,fun b u xs q=>by rw[j9 (hm b _ q fun z=>z)]; exact q,fun b ps q=>⟨#[],by rw[j9 (hm b _ q fun z=>z),q]; simp⟩⟩
 by_cases hbe:b=e
 ·subst hbe; exact heo
 ·exact⟨u,k b u hbe q⟩
end
def trk (h:Heap)(H:Hp):List Addr:=(List.range h.objs.size).filter fun a=>(H a).isSome
def hidT (h:Heap)(H:Hp):Heap:=PySem.W.hideAll h (trk h H)
theorem jJD (h:Heap)(H:Hp):(hidT h H).objs.size=h.objs.size:=PySem.W.hideAll_size _ _
theorem jKY {h:Heap}{H:Hp}{b:Addr}{o:Obj}(e:h.get? b=some o)(n:H b=none):(hidT h H).get? b=some o:=
 PySem.W.hideAll_get _ e fun hm=>by
  have q:(H b).isSome=true:=(de.mp hm).2
  rw[n] at q; simp at q
theorem jMW {h:Heap}{H:Hp}{b:Addr}{o:Obj}(e:(hidT h H).get? b=some o):h.get? b=some o/\H b=none:=by
 have e':h.get? b=some o:=PySem.W.of_hideAll (trk h H) e
 refine⟨e',?_⟩
 cases q:H b with
 | none=>rfl
 | some x=>
  have hm:b∈trk h H:=de.mpr ⟨aO.mpr (ag e'),by simp [q]⟩
  have z:(hidT h H).get? b=none:=PySem.W.hideAll_none (trk h H) hm
  rw[z] at e; cases e
end L2
namespace L2
open PySem PySem.Spec PyProof.Rows
structure Mod (K:W.Frag)(mg:Str->Option Value)(base:Heap):Prop where
 kin:K.In base
 glob:base.Ns mainGlobals mg
 blt:∃ mb,base.Ns builtinsNs mb/\∀ x:Str,x≠ "__name__" ->mb x=bootBuiltins x
 nolimit:base.NoLimit
structure Cx where
 prog:Program
 w:World
 K:W.Frag
 mg:Str->Option Value
 base:Heap
 A:Around
 N:List Str
 s₀:Shared
 H₀:Hp
 env:Env
 outer:List Env
 stack:List Env
 ex:List Addr
 fn:Str->Bool
 calm:Bool
 pn:List (Addr×Obj)
 xe:Value->Shared->Prop
def frs (l:List Env):List Addr:=l.filterMap (·.frame)
abbrev Cx.fs (X:Cx):List Addr:=frs X.outer
def Vis (sc:Scope)(x:Str):Prop:=sc.names.lookup x=some .local\/sc.names.lookup x=some .cell\/sc.names.lookup x=some .free
def Loc (sc:Scope)(x:Str):Prop:=sc.names.lookup x=some .local\/sc.names.lookup x=some .cell
def Look (env:Env)(h:Heap)(m:Str->Option Value)(x:Str)(u:Value):Prop:=
 (env.kindOf x=some .local/\m x=some u)\/((env.kindOf x=some .cell\/env.kindOf x=some .free)/\∃ c,env.cells.lookup x=some c/\h.IsCell c (some u))
structure Cx.Ok (X:Cx):Prop where
 mod:Mod X.K X.mg X.base
 kind:X.env.scope.kind= .function
 glob:X.env.globals=mainGlobals
 blt:X.env.builtins=builtinsNs
 above:X.s₀.heap.objs.size<=X.env.locals
 inj:∀ x y c,X.env.cells.lookup x=some c->X.env.cells.lookup y=some c->x=y
 has:∀ x,(X.env.kindOf x=some .cell\/X.env.kindOf x=some .free)->∃ c,X.env.cells.lookup x=some c
 cab:∀ x c,X.fn x=true->X.env.cells.lookup x=some c->X.s₀.heap.objs.size<=c
 hd:X.calm=true->X.A.handled=none
 frames:X.A.frames=some X.stack
 stk:X.stack=X.outer\/(X.stack=X.env::X.outer/\X.env.frame=some X.env.locals)
 exf:∀ b∈X.ex,b≠X.env.locals/\∀ x c,X.env.cells.lookup x=some c->c≠b
 bs:∀ b o,X.base.get? b=some o->X.s₀.heap.get? b=some o/\X.H₀ b=none
 bsz:X.base.objs.size<=X.s₀.heap.objs.size
 noex:∀ b o,X.base.get? b=some o->b∉X.ex
 exfs:∀ b∈X.ex,b∉X.fs
 funs:X.s₀.heap.FunFrames X.base X.outer
 frf:∀ b∈X.fs,X.H₀ b=none
structure Inv (X:Cx)(pins:List (Addr×Obj))(σ:List (Option V))(H:Hp)(s:Shared):Prop where
 ok:X.Ok
 os:s.os=X.s₀.os
 bare:AllBare s.gens
 base:Un X.fs X.ex X.H₀ H X.s₀.heap s.heap
 loc:∃ m,s.heap.Ns X.env.locals m/\∀ (i:Nat) (x:Str) (v:V),X.N[i]?=some x->σ[i]?=some (some v)->Vis X.env.scope x->∃ u,RelV v u/\Look X.env s.heap m x u
 cell:∀ x c,X.env.cells.lookup x=some c->∃ v,s.heap.IsCell c v
 free:H X.env.locals=none
 freeC:∀ x c,X.env.cells.lookup x=some c->H c=none
 pin:∀ p∈X.pn++pins,s.heap.get? p.1=some p.2/\H p.1=none/\p.1≠X.env.locals/\p.1∉X.fs/\∀ v,p.2.data≠ .cell v
 hok:HOk X.prog X.w H s.heap
 len:σ.length=X.N.length
section
variable {X:Cx}{pins:List (Addr×Obj)}{σ:List (Option V)}{H H':Hp}{s:Shared}{h':Heap}
theorem Cx.Ok.nofr (ok:X.Ok){b:Addr}{o:Obj}(e:X.base.get? b=some o):b∉X.fs:=fun hb=>by
 have:=(ok.funs.mem hb).1
 rw[e] at this; cases this
theorem Inv.bs (I:Inv X pins σ H s):∀ b o,X.base.get? b=some o->s.heap.get? b=some o/\H b=none:=fun b o e=>
 ⟨I.base.keep b o (I.ok.bs b o e).1 (I.ok.bs b o e).2 (I.ok.nofr e) (I.ok.noex b o e),I.base.free b o (I.ok.bs b o e).1 (I.ok.bs b o e).2 (I.ok.noex b o e)⟩
theorem Inv.bk (I:Inv X pins σ H s):∀ b o,X.base.get? b=some o->s.heap.get? b=some o:=fun b o e=>(I.bs b o e).1
theorem Inv.mod (I:Inv X pins σ H s):Mod X.K X.mg X.base:=I.ok.mod
theorem Inv.kIn (I:Inv X pins σ H s):X.K.In s.heap:=I.ok.mod.kin.keeps I.bk
theorem Inv.lt (I:Inv X pins σ H s):X.env.locals<s.heap.objs.size:=let ⟨_,hn,_⟩:=I.loc; hn.lt
theorem Inv.sz (I:Inv X pins σ H s):X.s₀.heap.objs.size<=s.heap.objs.size:=aZ I.ok.above (cw I.lt)
theorem Inv.nofs (I:Inv X pins σ H s){a:Addr}(h:s.heap.objs.size<=a):a∉X.fs:=fun hb=>by
 obtain⟨_,o,ho,_⟩:=I.ok.funs.mem hb
 exact absurd (aD (ag ho) (aZ I.sz h)) (aV _)
theorem Inv.cne (I:Inv X pins σ H s):∀ x c,X.env.cells.lookup x=some c->c≠X.env.locals:=fun x c e z=>by
 obtain⟨v,o,ho,hd⟩:=I.cell x c e
 obtain⟨m,⟨o',es,ep,ho',hd',_⟩,_⟩:=I.loc
 rw[z,ho'] at ho; cases ho; rw[hd'] at hd; cases hd
theorem Inv.funs (I:Inv X pins σ H s):s.heap.FunFrames X.base X.outer:=by
 have all:∀ (l:List Env),(∀ b∈frs l,b∈X.fs)->X.s₀.heap.FunFrames X.base l->s.heap.FunFrames X.base l:=by
  intro l
  induction l with
  | nil=>intro _ _; trivial
  | cons env r ih=>
   intro hs hl
   obtain⟨hk,⟨L,o,hf,hn,ho,hd⟩,hr⟩:=hl
   have hL:L∈X.fs:=hs L (by unfold frs; rw[di,hf]; exact aE)
   obtain⟨sl,e⟩:=I.base.slot L o ho (I.ok.frf L hL) hL fun z=>I.ok.exfs L z hL
   exact⟨hk,⟨L,_,hf,hn,e,hd⟩,ih (fun b hb=>hs b (by unfold frs; rw[di,hf]; exact aA _ hb)) hr⟩
 exact all X.outer (fun _ hb=>hb) I.ok.funs
theorem Inv.stack (I:Inv X pins σ H s):s.heap.FunFrames X.base X.stack:=by
 rcases I.ok.stk with e | ⟨e,hf⟩
 ·rw[e]; exact I.funs
 ·rw[e]
  obtain⟨m,hn,_⟩:=I.loc
  refine .cons (by rw[I.ok.kind]; decide) hf hn ?_ I.funs
  exact Heap.get?_none_of_le (aZ I.ok.bsz I.ok.above)
theorem Inv.stkSub (I:Inv X pins σ H s):∀ b∈frs X.stack,b∈X.env.locals::X.fs:=fun b hb=>by
 rcases I.ok.stk with e | ⟨e,hf⟩
 ·rw[e] at hb; exact aA _ hb
 ·rw[e] at hb
  unfold frs at hb
  rw[di,hf] at hb
  exact hb
theorem Inv.stkFree (I:Inv X pins σ H s):∀ b∈frs X.stack,H b=none:=fun b hb=>by
 rcases av.mp (I.stkSub b hb) with e | hb
 ·rw[e]; exact I.free
 ·obtain⟨_,o,ho,_⟩:=I.ok.funs.mem hb
  exact I.base.free b o ho (I.ok.frf b hb) fun z=>I.ok.exfs b z hb
theorem Inv.step {g':Array GenState}{t':Nat}{d':Drawn}{ch:List Addr}(I:Inv X pins σ H s)
  (hch:∀ b∈ch,(b∈X.ex\/X.s₀.heap.objs.size<=b)/\b≠X.env.locals/\(∀ x c,X.env.cells.lookup x=some c->c≠b)/\∀ p∈X.pn++pins,p.1≠b)
  (keep:∀ b o,b≠X.env.locals->b∉X.fs->b∉ch->s.heap.get? b=some o->H b=none->h'.get? b=some o)
  (slot:∀ b o,b≠X.env.locals->b∈X.fs->b∉ch->s.heap.get? b=some o->H b=none->∃ sl,h'.get? b=some { o with slots:=sl}) (free:∀ b o,b∉ch->s.heap.get? b=some o->H b=none->H' b=none)
  (there:∀ b o,b∉ch->s.heap.get? b=some o->∃ o',h'.get? b=some o')
  (tups:∀ b xs,H b=some (.tup xs)->H' b=some (.tup xs)) (frzs:∀ b o u,H b=some (.frz o u)->H' b=some (.frz o u)) (tbls:∀ b ps,H b=some (.tbl ps)->∃ more,H' b=some (.tbl (ps++more)))
  (ns:∀ m,s.heap.Ns X.env.locals m->h'.Ns X.env.locals m) (hok:HOk X.prog X.w H' h') (hg:AllBare g'):
  Inv X pins σ H' { s with heap:=h',gens:=g',drawn:=d',toks:=t'} :=by
 have neL:∀ b o,X.s₀.heap.get? b=some o->b≠X.env.locals:=fun b o e=>aC (aD (ag e) I.ok.above)
 have neC:∀ b o,X.s₀.heap.get? b=some o->b∉X.ex->b∉ch:=fun b o e hx hb=>by
  rcases (hch b hb).1 with z | z
  ·exact hx z
  ·exact absurd (aD (ag e) z) (aV _)
 have cellK:∀ x c,X.env.cells.lookup x=some c->∀ v,s.heap.IsCell c v->h'.IsCell c v:=fun x c e v ⟨o,ho,hd⟩=>by
  have nch:c∉ch:=fun z=>(hch c z).2.2.1 x c e rfl
  by_cases hc:c∈X.fs
  ·obtain⟨sl,q⟩:=slot c o (I.cne x c e) hc nch ho (I.freeC x c e)
   exact⟨_,q,hd⟩
  ·exact⟨o,keep c o (I.cne x c e) hc nch ho (I.freeC x c e),hd⟩
 refine⟨I.ok,I.os,hg,⟨fun b o e n hb hx=>?_,fun b o e n hb hx=>?_,fun b o e n hx=>?_,fun b o e hx=>?_,fun b xs e=>tups b xs (I.base.tups b xs e),fun b o xs e=>frzs b o xs (I.base.frzs b o xs e),fun b ps e=>?_⟩,?_,fun x c e=>?_,?_,fun x c e=>?_,fun p hp=>?_,hok,I.len⟩
 ·exact keep b o (neL b o e) hb (neC b o e hx) (I.base.keep b o e n hb hx) (I.base.free b o e n hx)
 ·obtain⟨sl,e1⟩:=I.base.slot b o e n hb hx
  obtain⟨sl',e2⟩:=slot b _ (neL b o e) hb (neC b o e hx) e1 (I.base.free b o e n hx)
  exact⟨sl',e2⟩
 ·obtain⟨o',e1⟩:=I.base.there b o e hx
  exact free b o' (neC b o e hx) e1 (I.base.free b o e n hx)
 ·obtain⟨o',e1⟩:=I.base.there b o e hx
  exact there b o' (neC b o e hx) e1
 ·obtain⟨m1,e1⟩:=I.base.tbls b ps e
  obtain⟨m2,e2⟩:=tbls b _ e1
  exact⟨m1++m2,by rw[e2,Array.append_assoc]⟩
 ·obtain⟨m,hn,hl⟩:=I.loc
  refine⟨m,ns m hn,fun i x v e1 e2 e3=>?_⟩
  obtain⟨u,r,l⟩:=hl i x v e1 e2 e3
  refine⟨u,r,?_⟩
  rcases l with l | ⟨k,c,e,z⟩
  ·exact .inl l
  ·exact .inr ⟨k,c,e,cellK x c e _ z⟩
 ·obtain⟨v,z⟩:=I.cell x c e
  exact⟨v,cellK x c e v z⟩
 ·obtain⟨m,⟨o,_,_,ho,_⟩,_⟩:=I.loc
  exact free _ o (fun z=>(hch _ z).2.1 rfl) ho I.free
 ·obtain⟨v,o,ho,hd⟩:=I.cell x c e
  exact free c o (fun z=>(hch c z).2.2.1 x c e rfl) ho (I.freeC x c e)
 ·obtain⟨e,n,ne,nf,d⟩:=I.pin p hp
  have nch:p.1∉ch:=fun z=>(hch p.1 z).2.2.2 p hp rfl
  exact⟨keep p.1 p.2 ne nf nch e n,free p.1 p.2 nch e n,ne,nf,d⟩
theorem Inv.un {t':Nat}(I:Inv X pins σ H s)(u:Un X.fs [] H H' s.heap h')(hok:HOk X.prog X.w H' h'):Inv X pins σ H' { s with heap:=h',toks:=t'} :=by
 obtain⟨m,⟨o,es,ep,ho,r⟩,_⟩:=id I.loc
 obtain⟨sl,hL⟩:=u.any ho I.free (by simp)
 exact I.step (g':=s.gens) (d':=s.drawn) (ch:=[]) (fun _ z=>nomatch z) (fun b o _ hb _ e n=>u.keep b o e n hb (by simp)) (fun b o _ hb _ e n=>u.slot b o e n hb (by simp)) (fun b o _ e n=>u.free b o e n (by simp)) (fun b o _ e=>u.there b o e (by simp)) u.tups u.frzs u.tbls (fun m' hm=>by
  obtain⟨o',es',ep',ho',r'⟩:=hm
  rw[ho] at ho'; cases ho'
  exact⟨_,es',ep',hL,r'⟩) hok I.bare
theorem Inv.call {g':Array GenState}{t':Nat}{d':Drawn}{ch:List Addr}(I:Inv X pins σ H s)(u:Un (frs X.stack) ch H H' s.heap h')(hok:HOk X.prog X.w H' h')(hg:AllBare g')
  (hch:∀ b∈ch,(b∈X.ex\/X.s₀.heap.objs.size<=b)/\b≠X.env.locals/\(∀ x c,X.env.cells.lookup x=some c->c≠b)/\∀ p∈X.pn++pins,p.1≠b):
  Inv X pins σ H' { s with heap:=h',gens:=g',drawn:=d',toks:=t'} :=by
 obtain⟨m,⟨o,es,ep,ho,r⟩,_⟩:=id I.loc
 obtain⟨sl,hL⟩:=u.any ho I.free fun z=>(hch _ z).2.1 rfl
 exact I.step (ch:=ch) hch (fun b o hL hb hc e n=>u.keep b o e n (fun z=>(av.mp (I.stkSub b z)).elim hL hb) hc) (fun b o _ _ hc e n=>u.any e n hc) (fun b o hc e n=>u.free b o e n hc) (fun b o hc e=>u.there b o e hc) u.tups u.frzs u.tbls (fun m' hm=>by
  obtain⟨o',es',ep',ho',r'⟩:=hm
  rw[ho] at ho'; cases ho'
  exact⟨_,es',ep',hL,r'⟩) hok hg
theorem Inv.turned {t':Nat}{it:Addr}(I:Inv X pins σ H s)(k:∀ b o,b≠it->s.heap.get? b=some o->h'.get? b=some o)(hn:H it=none)(hL:it≠X.env.locals)
  (h1:it∈X.ex\/X.s₀.heap.objs.size<=it) (h2:∀ x c,X.env.cells.lookup x=some c->c≠it) (h3:∀ p∈X.pn++pins,p.1≠it):Inv X pins σ H { s with heap:=h',toks:=t'} :=by
 have nit:∀ b u,H b=some u->b≠it:=fun b u e z=>by rw[z,hn] at e; cases e
 refine I.step (g':=s.gens) (d':=s.drawn) (ch:=[it]) (fun b hb=>?_) (fun b o _ _ hc e _=>k b o (fun z=>hc (by simp [z])) e) (fun b o _ _ hc e _=>⟨o.slots,k b o (fun z=>hc (by simp [z])) e⟩) (fun _ _ _ _ n=>n)
  (fun b o hc e=>⟨o,k b o (fun z=>hc (by simp [z])) e⟩) (fun _ _ e=>e) (fun _ _ _ e=>e) (fun b ps e=>⟨#[],by rw[e]; simp⟩) (fun m hm=>?_) (fun b u e=>?_) I.bare
 ·have e:b=it:=by simpa using hb
  subst e
  exact⟨h1,hL,h2,h3⟩
 ·obtain⟨o,es,ep,ho,r⟩:=hm
  exact⟨o,es,ep,k _ o (cL hL) ho,r⟩
 ·refine(I.hok b u e).stay (fun c v hc q=>k c v ?_ q) (fun _ q=>q) fun _ _ q=>q
  rcases hc with z | z
  ·rw[z]; exact nit b u e
  ·exact nit c _ z
theorem Inv.tok (I:Inv X pins σ H s)(t:Nat):Inv X pins σ H { s with toks:=t} :=I.un (h':=s.heap) (t':=t) Un.refl I.hok
theorem Inv.kept {t':Nat}(I:Inv X pins σ H s)(k:∀ b u,s.heap.get? b=some u->h'.get? b=some u):Inv X pins σ H { s with heap:=h',toks:=t'} :=I.un (Un.kept k) (I.hok.kept k)
theorem Inv.laid {a:Addr}{o:HO}{t':Nat}(I:Inv X pins σ H s)(k:∀ b u,s.heap.get? b=some u->h'.get? b=some u)(hp:s.heap.objs.size<=a)(new:ObjOk X.prog X.w (upd H a o) h' a o):
  Inv X pins σ (upd H a o) { s with heap:=h',toks:=t'} :=I.un (Un.laid k hp (I.hok.fresh hp)) (I.hok.laid k hp new)
theorem Inv.write {x e:Addr}{o:HO}{t':Nat}(I:Inv X pins σ H s)(mu:Mut (H x))(he:e=x\/H e=some (.own x))(k:∀ b u,b≠e->s.heap.get? b=some u->h'.get? b=some u)(heo:∃ u,h'.get? e=some u)
  (new:ObjOk X.prog X.w (upd H x o) h' x o):Inv X pins σ (upd H x o) { s with heap:=h',toks:=t'} :=I.un (Un.write mu he k heo) (I.hok.write mu he k heo new)
theorem Inv.pins_of {pins':List (Addr×Obj)}(I:Inv X pins σ H s)(h:∀ p∈pins',s.heap.get? p.1=some p.2/\H p.1=none/\p.1≠X.env.locals/\p.1∉X.fs/\∀ v,p.2.data≠ .cell v):Inv X pins' σ H s:=
 ⟨I.ok,I.os,I.bare,I.base,I.loc,I.cell,I.free,I.freeC,fun p hp=>(bA.mp hp).elim (fun z=>I.pin p (eL _ z)) (h p),I.hok,I.len⟩
theorem jGA {N:List Str}(hN:N.Nodup){i j:Nat}{x:Str}(a:N[i]?=some x)(b:N[j]?=some x):i=j:=by
 obtain⟨h1,e1⟩:=ar.mp a
 obtain⟨h2,e2⟩:=ar.mp b
 exact(List.getElem_inj hN).mp (e1.trans e2.symm)
theorem jC9 {M:Model}{A:Around}{E:Value->Shared->Prop}{i:Nat}{x:Str}{v:V}{u:Value}{Q:Unit->Shared->Prop}(I:Inv X pins σ H s)(hN:X.N.Nodup)(hi:X.N[i]?=some x)(hx:Loc X.env.scope x)(r:RelV v u)
  (h:∀ s',Inv X pins (σ.set i (some v)) H s'->(∃ a,Heap.SameBut a s.heap s'.heap/\(a=X.env.locals\/X.env.cells.lookup x=some a))->Q () s') (hf:X.fn x=true\/X.env.scope.names.lookup x=some .local:=by first | exact .inl rfl | exact .inr rfl | assumption):wpAny M A (storeName X.env x u) Q E s:=by
 obtain⟨m,hn,hl⟩:=id I.loc
 have hcls:(X.env.scope.kind== .class || (X.env.scope.kind== .module&&X.env.locals != X.env.globals))=false:=by rw[I.ok.kind]; rfl
 have hiσ:i<σ.length:=by rw[I.len]; exact(ar.mp hi).1
 have cne:=I.cne
 have tracked:∀ {a:Addr}{h':Heap},(∃ o,s.heap.get? a=some o/\H a=none)->Heap.SameBut a s.heap h'->HOk X.prog X.w H h':=fun {a h'} ha hs b ob e=>by
  obtain⟨_,_,hfree⟩:=ha
  refine(I.hok b ob e).stay (fun c w' hc q=>(hs.2 c ?_).trans q) (fun _ q=>q) fun _ _ q=>q
  rintro rfl
  rcases hc with rfl | hc
  ·rw[hfree] at e; cases e
  ·rw[hfree] at hc; cases hc
 rcases hx with hk | hk
 ·refine wpAny_storeName_local hk hn (fun h' hn' hs=>?_) hcls
  obtain⟨oL,_,_,hoL,_⟩:=id hn
  refine h _ ⟨I.ok,I.os,I.bare,⟨fun b o e n hb hx=>?_,fun b o e n hb hx=>?_,I.base.free,fun b o e hx=>?_,I.base.tups,I.base.frzs,I.base.tbls⟩,⟨_,hn',fun j y v' e1 e2 e3=>?_⟩,fun y c e=>?_,I.free,I.freeC,fun p hp=>?_,tracked ⟨oL,hoL,I.free⟩ hs,by simpa using I.len⟩ ⟨_,hs, .inl rfl⟩
  ·exact(hs.2 b (aC (aD (ag e) I.ok.above))).trans (I.base.keep b o e n hb hx)
  ·obtain⟨sl,e1⟩:=I.base.slot b o e n hb hx
   exact⟨sl,(hs.2 b (aC (aD (ag e) I.ok.above))).trans e1⟩
  ·obtain⟨o',e1⟩:=I.base.there b o e hx
   exact⟨o',(hs.2 b (aC (aD (ag e) I.ok.above))).trans e1⟩
  ·by_cases hj:j=i
   ·subst hj
    rw[hi] at e1; cases e1
    rw[ef hiσ] at e2
    cases e2
    exact⟨u,r, .inl ⟨hk,by simp⟩⟩
   ·rw[eM (cL hj)] at e2
    obtain⟨u',r',q⟩:=hl j y v' e1 e2 e3
    refine⟨u',r',?_⟩
    rcases q with ⟨k,e⟩ | ⟨k,c,e,z⟩
    ·refine .inl ⟨k,?_⟩
     have:y≠x:=fun e=>hj (jGA hN e1 (e ▸ hi))
     simp [this,e]
    ·exact .inr ⟨k,c,e,z.sameBut hs (cne y c e)⟩
  ·obtain⟨w',z⟩:=I.cell y c e
   exact⟨w',z.sameBut hs (cne y c e)⟩
  ·obtain⟨e,n,ne,nf,d⟩:=I.pin p hp
   exact⟨(hs.2 p.1 ne).trans e,n,ne,nf,d⟩
 ·have hfn:X.fn x=true:=by
   rcases hf with z | z
   ·exact z
   ·rw[z] at hk; cases hk
  obtain⟨c,hc⟩:=I.ok.has x (.inl hk)
  obtain⟨w',z⟩:=I.cell x c hc
  refine wpAny_storeName_cell I.ok.kind hk hc z (fun h' hc' hs=>?_)
  obtain⟨oc,hoc,hocd⟩:=id z
  refine h { s with heap:=h'} ⟨I.ok,I.os,I.bare,⟨fun b o e n hb hx=>?_,fun b o e n hb hx=>?_,I.base.free,fun b o e hx=>?_,I.base.tups,I.base.frzs,I.base.tbls⟩,⟨m,hn.sameBut hs (cL (cne x c hc)),fun j y v' e1 e2 e3=>?_⟩,fun y c' e=>?_,I.free,I.freeC,fun p hp=>?_,tracked ⟨oc,hoc,I.freeC x c hc⟩ hs,by simpa using I.len⟩ ⟨c,hs, .inr hc⟩
  ·exact(hs.2 b (aC (aD (ag e) (I.ok.cab x c hfn hc)))).trans (I.base.keep b o e n hb hx)
  ·obtain⟨sl,e1⟩:=I.base.slot b o e n hb hx
   exact⟨sl,(hs.2 b (aC (aD (ag e) (I.ok.cab x c hfn hc)))).trans e1⟩
  ·obtain⟨o',e1⟩:=I.base.there b o e hx
   exact⟨o',(hs.2 b (aC (aD (ag e) (I.ok.cab x c hfn hc)))).trans e1⟩
  ·by_cases hj:j=i
   ·subst hj
    rw[hi] at e1; cases e1
    rw[ef hiσ] at e2
    cases e2
    exact⟨u,r, .inr ⟨.inl hk,c,hc,hc'⟩⟩
   ·rw[eM (cL hj)] at e2
    obtain⟨u',r',q⟩:=hl j y v' e1 e2 e3
    refine⟨u',r',?_⟩
    rcases q with q | ⟨k,c',e,z'⟩
    ·exact .inl q
    ·refine .inr ⟨k,c',e,z'.sameBut hs ?_⟩
     rintro rfl
     exact hj (jGA hN e1 (I.ok.inj _ _ _ e hc ▸ hi))
  ·by_cases hcc:c'=c
   ·subst hcc; exact⟨_,hc'⟩
   ·obtain⟨w2,z2⟩:=I.cell y c' e
    exact⟨w2,z2.sameBut hs hcc⟩
  ·obtain⟨e,n,ne,nf,d⟩:=I.pin p hp
   refine⟨(hs.2 p.1 ?_).trans e,n,ne,nf,d⟩
   intro q
   rw[q,hoc] at e
   have q':oc=p.2:=aN e
   exact d w' (by rw[<- q']; exact hocd)
theorem jG1 {M:Model}{A:Around}{E:Value->Shared->Prop}{i:Nat}{x:Str}{v:V}{u:Value}{Q:Unit->Shared->Prop}(I:Inv X pins σ H s)(hN:X.N.Nodup)(hi:X.N[i]?=some x)(hx:Loc X.env.scope x)(r:RelV v u)
  (h:∀ s',Inv X pins (σ.set i (some v)) H s'->Q () s') (hf:X.fn x=true\/X.env.scope.names.lookup x=some .local:=by first | exact .inl rfl | exact .inr rfl | assumption):wpAny M A (storeName X.env x u) Q E s:=
 jC9 I hN hi hx r (fun s' I' _=>h s' I') hf
theorem Inv.call' {s':Shared}{ch:List Addr}(I:Inv X pins σ H s)(ho:s'.os=s.os)(u:Un (frs X.stack) ch H H' s.heap s'.heap)(hok:HOk X.prog X.w H' s'.heap)(hg:AllBare s'.gens)
  (hch:∀ b∈ch,(b∈X.ex\/X.s₀.heap.objs.size<=b)/\b≠X.env.locals/\(∀ x c,X.env.cells.lookup x=some c->c≠b)/\∀ p∈X.pn++pins,p.1≠b):Inv X pins σ H' s':=by
 obtain⟨h',g',d',t',o'⟩:=s'
 have e:o'=s.os:=ho
 subst e
 exact I.call (g':=g') (t':=t') (d':=d') u hok hg hch
end
abbrev XK:=Value->Option Addr->Hp->Prop
abbrev St:=List (Option V)
abbrev VK:=V->Hp->Prop
abbrev TE:=St->Hp->VK->Prop
abbrev TT:=St->Hp->(Bool->Hp->Prop)->Prop
abbrev TA:=St->Hp->(List V->Hp->Prop)->Prop
structure Ends where
 nx:St->Hp->Prop
 rt:VK
 bk:St->Hp->Prop:=fun _ _=>False
 ct:St->Hp->Prop:=fun _ _=>False
abbrev TS:=Ends->St->Hp->Prop
def EP (X:Cx)(pins:List (Addr×Obj))(σ:St)(Q:VK)(u:Value)(s':Shared):Prop:=∃ v H',Inv X pins σ H' s'/\RelV v u/\Q v H'
def TP (X:Cx)(pins:List (Addr×Obj))(σ:St)(Q:Bool->Hp->Prop)(b:Bool)(s':Shared):Prop:=∃ H',Inv X pins σ H' s'/\Q b H'
def AP (X:Cx)(pins:List (Addr×Obj))(σ:St)(Q:List V->Hp->Prop)(us:List Value)(s':Shared):Prop:=∃ vs H',Inv X pins σ H' s'/\Vals vs us/\Q vs H'
def SP (X:Cx)(pins:List (Addr×Obj))(D:Ends)(f:Flow)(s':Shared):Prop:=
 match f with
 | .next=>∃ σ' H',Inv X pins σ' H' s'/\D.nx σ' H'
 | .brk=>∃ σ' H',Inv X pins σ' H' s'/\D.bk σ' H'
 | .cont=>∃ σ' H',Inv X pins σ' H' s'/\D.ct σ' H'
 | .ret u=>∃ v σ' H',Inv X pins σ' H' s'/\RelV v u/\D.rt v H'
def PE (X:Cx)(e:Expr)(t:TE):Prop:=
 ∀ (pins:List (Addr×Obj)) (s:Shared) (σ:St) (H:Hp) (Q:VK),Inv X pins σ H s->t σ H Q->wpAny (model X.prog X.w) X.A (eval e X.env) (EP X pins σ Q) X.xe s
def PT (X:Cx)(e:Expr)(t:TT):Prop:=
 ∀ (pins:List (Addr×Obj)) (s:Shared) (σ:St) (H:Hp) (Q:Bool->Hp->Prop),Inv X pins σ H s->t σ H Q->wpAny (model X.prog X.w) X.A (isTrue e X.env (eval e X.env)) (TP X pins σ Q) X.xe s
def PW (X:Cx)(e:Expr)(t:TT):Prop:=
 ∀ (whole:Sem Value) (pins:List (Addr×Obj)) (s:Shared) (σ:St) (H:Hp) (Q:Bool->Hp->Prop),Inv X pins σ H s->t σ H Q->wpAny (model X.prog X.w) X.A (isTrue e X.env whole) (TP X pins σ Q) X.xe s
theorem PW.pt {X:Cx}{e:Expr}{t:TT}(h:PW X e t):PT X e t:=h _
def PA (X:Cx)(es:List Expr)(t:TA):Prop:=
 ∀ (pos:Pos) (pins:List (Addr×Obj)) (s:Shared) (σ:St) (H:Hp) (Q:List V->Hp->Prop),Inv X pins σ H s->t σ H Q->wpAny (model X.prog X.w) X.A (spliced (backTo pos (starEach es X.env))) (AP X pins σ Q) X.xe s
def PS (X:Cx)(st:Stmt)(t:TS):Prop:=
 ∀ (pins:List (Addr×Obj)) (s:Shared) (σ:St) (H:Hp) (D:Ends),Inv X pins σ H s->t D σ H->wpAny (model X.prog X.w) X.A (exec st X.env) (SP X pins D) X.xe s
def PSs (X:Cx)(st:List Stmt)(t:TS):Prop:=
 ∀ (pins:List (Addr×Obj)) (s:Shared) (σ:St) (H:Hp) (D:Ends),Inv X pins σ H s->t D σ H->wpAny (model X.prog X.w) X.A (execs st X.env) (SP X pins D) X.xe s
theorem thn {α:Type}{t:Sem α}{Q Q':α->Shared->Prop}{M:Model}{A:Around}{E:Value->Shared->Prop}{s:Shared}(h:wpAny M A t Q E s)(hQ:∀ a s,Q a s->Q' a s):wpAny M A t Q' E s:=bJ h hQ fun _ _ x=>x
end L2
namespace L2
open PySem PySem.Spec PyProof.Rows
section
variable {X:Cx}
def tVar (i:Nat):TE:=fun σ H Q=>∃ v,σ[i]?=some (some v)/\Q v H
def tC (v:V):TE:=fun _ H Q=>Q v H
theorem jLJ {i:Nat}{x:Str}{pos:Pos}(hN:X.N[i]?=some x)(hv:Vis X.env.scope x)(hd:(x==("__debug__" :Str))=false:=by decide)(hcd:(x==("__classdict__" :Str))=false:=by decide):PE X (.Name x pos) (tVar i):=by
 intro pins s σ H Q I h
 obtain⟨v,e,h⟩:=h
 obtain⟨m,hn,hl⟩:=I.loc
 obtain⟨u,r,l⟩:=hl i x v hN e hv
 have fin:EP X pins σ Q u s:=⟨v,H,I,r,h⟩
 rcases l with ⟨hk,hm⟩ | ⟨hk,c,hc,hcell⟩
 ·exact wpAny_Name (wpAny_loadName_local I.ok.kind hk hn hm fin) hd
 ·rcases hk with hk | hk
  ·exact wpAny_Name (wpAny_loadName_cell I.ok.kind hk hc hcell fin) hd
  ·exact wpAny_Name (wpAny_loadName_free I.ok.kind hk hc hcell fin hcd) hd
theorem jN {i j pos} :PE X (.Constant (.int i) j pos) (tC (.int i)):=fun _ _ _ H _ I h=>wpAny_Constant_int ⟨.int i,H,I.tok _,⟨_,rfl⟩,h⟩
theorem pe_bl {b j pos} :PE X (.Constant (.bool b) j pos) (tC (.bl b)):=fun _ _ _ H _ I h=>Constant_bool ⟨.bl b,H,I,rfl,h⟩
theorem jNU {j pos} :PE X (.Constant .none j pos) (tC .non):=fun _ _ _ H _ I h=>Constant_none ⟨.non,H,I,rfl,h⟩
theorem jNR {x j pos} :PE X (.Constant (.str x) j pos) (tC (.str x)):=fun _ _ _ H _ I h=>Calls.Constant_str ⟨.str x,H,I.tok _,⟨_,rfl⟩,h⟩
def Gl (X:Cx)(x:Str):Prop:=X.env.kindOf x=some .globalImplicit
theorem jN0 {E:Value->Shared->Prop}{pins:List (Addr×Obj)}{s:Shared}{σ:St}{H:Hp}{x:Str}{u:Value}{pos:Pos}{Q:Value->Shared->Prop}(I:Inv X pins σ H s)(hg:Gl X x)(hm:X.mg x=some u)(h:Q u s)
  (hd:(x==("__debug__" :Str))=false:=by decide):wpAny (model X.prog X.w) X.A (eval (.Name x pos) X.env) Q E s:=
 dw I.ok.kind hg (Calls.loadGlobal_global (by rw[I.ok.glob]; exact I.mod.glob.keeps I.bk) hm h) hd
theorem jCH {E:Value->Shared->Prop}{pins:List (Addr×Obj)}{s:Shared}{σ:St}{H:Hp}{x:Str}{u:Value}{pos:Pos}{Q:Value->Shared->Prop}(I:Inv X pins σ H s)(hg:Gl X x)(hm:X.mg x=none)(hv:bootBuiltins x=some u)(h:Q u s)
  (hn:x≠ "__name__" :=by decide) (hd:(x==("__debug__" :Str))=false:=by decide):wpAny (model X.prog X.w) X.A (eval (.Name x pos) X.env) Q E s:=by
 obtain⟨mb,h1,h2⟩:=I.mod.blt
 exact dw I.ok.kind hg (Calls.loadGlobal_builtin (by rw[I.ok.glob]; exact I.mod.glob.keeps I.bk) hm (by rw[I.ok.blt]; exact h1.keeps I.bk) ((h2 x hn).trans hv) h) hd
theorem jMN {x:Str}{v:V}{u:Value}{pos:Pos}(hg:Gl X x)(hm:X.mg x=none)(hv:bootBuiltins x=some u)(r:RelV v u)(hn:x≠ "__name__" :=by decide)(hd:(x==("__debug__" :Str))=false:=by decide):PE X (.Name x pos) (tC v):=
 fun _ _ _ H _ I h=>jCH I hg hm hv ⟨v,H,I,r,h⟩ hn hd
variable {a b:Expr}{ta tb:TE}{pos:Pos}
def tB (t:TE):TT:=fun σ H Q=>t σ H fun x H1=>∃ c,x= .bl c/\Q c H1
theorem jNL {e:Expr}{t:TE}(h:PE X e t)(he:∀ whole,isTrue e X.env whole=(do let v <- whole; standAt e.pos; holding [v] (truthy v)):=by intro _; rfl):PT X e (tB t):=by
 intro pins s σ H Q I hw
 refine isTrue_plain (thn (h pins s σ H _ I hw) fun v s1 ⟨x,H1,I1,r1,q1⟩=>?_) (he _)
 obtain⟨d,rfl,q⟩:=q1
 cases r1
 exact cM ⟨H1,I1,q⟩
variable {tA tB':TT}{rest:List Expr}
def tAnd (t u:TT):TT:=fun σ H Q=>t σ H fun c H1=>if c=true then u σ H1 Q else Q false H1
def tOr (t u:TT):TT:=fun σ H Q=>t σ H fun c H1=>if c=true then Q true H1 else u σ H1 Q
def tNot (t:TT):TT:=fun σ H Q=>t σ H fun c H1=>Q (!c) H1
theorem jM8 (ha:PT X a tA):PW X (.BoolOp .And [a] pos) tA:=by
 intro wh pins s σ H Q I h
 refine isTrue_and (thn (ha pins s σ H Q I h) fun c s1 e=>?_)
 cases c with
 | true=>exact isTrue_and_nil e
 | false=>exact e
theorem jNJ (ha:PT X a tA):PW X (.BoolOp .Or [a] pos) tA:=by
 intro wh pins s σ H Q I h
 refine isTrue_or (thn (ha pins s σ H Q I h) fun c s1 e=>?_)
 cases c with
 | false=>exact isTrue_or_nil e
 | true=>exact e
theorem jNK (ha:PT X a tA)(hb:PW X (.BoolOp .And (b::rest) pos) tB'):PW X (.BoolOp .And (a::b::rest) pos) (tAnd tA tB'):=by
 intro wh pins s σ H Q I h
 refine isTrue_and (thn (ha pins s σ H _ I h) fun c s1 ⟨H1,I1,q1⟩=>?_)
 cases c with
 | true=>exact hb wh pins s1 σ H1 Q I1 q1
 | false=>exact⟨H1,I1,q1⟩
theorem pw_or (ha:PT X a tA)(hb:PW X (.BoolOp .Or (b::rest) pos) tB'):PW X (.BoolOp .Or (a::b::rest) pos) (tOr tA tB'):=by
 intro wh pins s σ H Q I h
 refine isTrue_or (thn (ha pins s σ H _ I h) fun c s1 ⟨H1,I1,q1⟩=>?_)
 cases c with
 | true=>exact⟨H1,I1,q1⟩
 | false=>exact hb wh pins s1 σ H1 Q I1 q1
theorem jNM (ha:PT X a tA):PT X (.UnaryOp .Not a pos) (tNot tA):=by
 intro pins s σ H Q I h
 exact isTrue_not (ha pins s σ H (fun c H1=>Q (!c) H1) I h)
def tAndV (ta tb:TE):TE:=fun σ H Q=>ta σ H fun x H1=>∃ c,x= .bl c/\if c=true then tb σ H1 Q else Q (.bl false) H1
def tNotV (ta:TE):TE:=fun σ H Q=>ta σ H fun x H1=>∃ c,x= .bl c/\Q (.bl (!c)) H1
theorem jNS {op}{t:TE}(h:PE X a t):PE X (.BoolOp op [a] pos) t:=fun pins s σ H Q I hw=>BoolOp_one (h pins s σ H Q I hw)
theorem jNW (ha:PE X a ta)(hb:PE X (.BoolOp .And (b::rest) pos) tb):PE X (.BoolOp .And (a::b::rest) pos) (tAndV ta tb):=by
 intro pins s σ H Q I h
 refine BoolOp_and (thn (ha pins s σ H _ I h) fun v s1 ⟨x,H1,I1,r1,q1⟩=>?_)
 obtain⟨c,rfl,q1⟩:=q1
 cases r1
 refine cM ?_
 cases c with
 | true=>exact hb pins s1 σ H1 Q I1 q1
 | false=>exact⟨.bl false,H1,I1,rfl,q1⟩
theorem jNT (ha:PE X a ta):PE X (.UnaryOp .Not a pos) (tNotV ta):=by
 intro pins s σ H Q I h
 refine UnaryOp_ (thn (ha pins s σ H _ I h) fun v s1 ⟨x,H1,I1,r1,q1⟩=>?_)
 obtain⟨c,rfl,q1⟩:=q1
 cases r1
 exact not_of (cM ⟨.bl (!c),H1,I1,rfl,q1⟩)
def tIf (t:TT)(ta tb:TE):TE:=fun σ H Q=>t σ H fun c H1=>if c=true then ta σ H1 Q else tb σ H1 Q
theorem jKL {c:Expr}(hc:PT X c tA)(ha:PE X a ta)(hb:PE X b tb):PE X (.IfExp c a b pos) (tIf tA ta tb):=by
 intro pins s σ H Q I h
 refine wpAny_IfExp (thn (hc pins s σ H _ I h) fun d s1 ⟨H1,I1,q1⟩=>?_)
 cases d with
 | true=>exact ha pins s1 σ H1 Q I1 q1
 | false=>exact hb pins s1 σ H1 Q I1 q1
end
end L2
namespace L2
open PySem PySem.Spec PyProof.Rows
def SqL (K:W.Frag)(H:Hp)(a:Addr)(xs:List V):Prop:=
 Rd H a (.lst xs)\/
  ∃ (o:Obj) (its:Array Value) (n:Nat),K.lookup a=some o/\o.cls= .type "list" /\o.dict=none/\o.data= .seq its n/\its.size<=sizeLine/\Vals xs its.toList
def SqT (K:W.Frag)(H:Hp)(a:Addr)(xs:List V):Prop:=
 Rd H a (.tup xs)\/
  ∃ (o:Obj) (its:Array Value) (n:Nat),K.lookup a=some o/\o.cls= .type "tuple" /\o.data= .seq its n/\its.size<=sizeLine/\Vals xs its.toList
noncomputable def absV:Value->Option V
 | .none=>some .non
 | .bool b=>some (.bl b)
 | .int i _=>some (.int i)
 | .str x _=>some (.str x)
 | .bytes b _=>some (.byt b)
 | .float b _=>some (.flt b)
 | .ref a=>some (.ref a)
 | .type n=>some (.ty n)
 | _=>none
theorem RelV.abs {x:V}{u:Value}(r:RelV x u):absV u=some x:=by
 cases x with
 | non=>cases r; rfl
 | bl _=>cases r; rfl
 | int _=>obtain⟨t,rfl⟩:=r; rfl
 | str _=>obtain⟨t,rfl⟩:=r; rfl
 | byt _=>obtain⟨t,rfl⟩:=r; rfl
 | flt _=>obtain⟨t,rfl⟩:=r; rfl
 | ref _=>cases r; rfl
 | ty _=>cases r; rfl
theorem RelV.inj {x y:V}{u:Value}(r:RelV x u)(q:RelV y u):x=y:=aN (r.abs.symm.trans q.abs)
theorem Vals.inj:∀ {xs ys:List V}{us:List Value},Vals xs us->Vals ys us->xs=ys
 | _,_,_, .nil, .nil=>rfl
 | _,_,_, .cons r t, .cons r' t'=>by rw[r.inj r',Vals.inj t t']
section
variable {X:Cx}{pins:List (Addr×Obj)}{σ:St}{H:Hp}{s:Shared}{a:Addr}{xs ys:List V}
theorem SqL.of {K:W.Frag}(h:H a=some (.lst xs)):SqL K H a xs:= .inl (.inl h)
theorem SqT.of {K:W.Frag}(h:H a=some (.tup xs)):SqT K H a xs:= .inl (.inl h)
theorem Inv.list (I:Inv X pins σ H s)(h:SqL X.K H a xs):∃ its:List Value,Vals xs its/\PlainL s.heap a its.toArray/\xs.length<=sizeLine:=by
 rcases h with h | ⟨o,its,n,hk,hc,hd,hs,hz,r⟩
 ·obtain⟨z,its,n,r,e⟩:=h.ok I.hok
  exact⟨its,r,⟨_,n,e,rfl,rfl,rfl⟩,z⟩
 ·refine⟨its.toList,r,⟨o,n,I.kIn a o hk,hc,hd,by simpa using hs⟩,?_⟩
  have e:=r.length
  simp only [aW] at e
  omega
theorem Inv.tuple (I:Inv X pins σ H s)(h:SqT X.K H a xs):∃ its:List Value,Vals xs its/\IsTup s.heap a its.toArray/\xs.length<=sizeLine:=by
 rcases h with h | ⟨o,its,n,hk,hc,hs,hz,r⟩
 ·obtain⟨z,its,r,p⟩:=h.ok I.hok
  exact⟨its,r,p.isTup,z⟩
 ·refine⟨its.toList,r,⟨o,I.kIn a o hk,hc,n,by simpa using hs⟩,?_⟩
  have e:=r.length
  simp only [aW] at e
  omega
theorem Inv.list_inj (I:Inv X pins σ H s)(h:SqL X.K H a xs)(h':SqL X.K H a ys):xs=ys:=by
 obtain⟨its,r,⟨o,n,e,_,_,d⟩,_⟩:=I.list h
 obtain⟨its',r',⟨o',n',e',_,_,d'⟩,_⟩:=I.list h'
 rw[e] at e'; cases e'
 rw[d] at d'
 injection d' with d1 _
 have:its=its':=by simpa using bo Array.toList d1
 subst this
 exact r.inj r'
theorem Inv.tuple_inj (I:Inv X pins σ H s)(h:SqT X.K H a xs)(h':SqT X.K H a ys):xs=ys:=by
 obtain⟨its,r,⟨o,e,_,n,d⟩,_⟩:=I.tuple h
 obtain⟨its',r',⟨o',e',_,n',d'⟩,_⟩:=I.tuple h'
 rw[e] at e'; cases e'
 rw[d] at d'
 injection d' with d1 _
 have:its=its':=by simpa using bo Array.toList d1
 subst this
 exact r.inj r'
end
abbrev Cx.wish (X:Cx)(E:Value->Shared->Prop):Cx:= { X with xe:=E}
abbrev Cx.nox (X:Cx):Cx:=X.wish fun _ _=>False
theorem Cx.Ok.wish {X:Cx}(ok:X.Ok)(E:Value->Shared->Prop):(X.wish E).Ok:=
 ⟨ok.mod,ok.kind,ok.glob,ok.blt,ok.above,ok.inj,ok.has,ok.cab,ok.hd,ok.frames,ok.stk,ok.exf,ok.bs,ok.bsz,ok.noex,ok.exfs,ok.funs,ok.frf⟩
theorem Cx.Ok.unwish {X:Cx}{E:Value->Shared->Prop}(ok:(X.wish E).Ok):X.Ok:=
 ⟨ok.mod,ok.kind,ok.glob,ok.blt,ok.above,ok.inj,ok.has,ok.cab,ok.hd,ok.frames,ok.stk,ok.exf,ok.bs,ok.bsz,ok.noex,ok.exfs,ok.funs,ok.frf⟩
section
variable {X:Cx}{pins:List (Addr×Obj)}{σ:St}{H:Hp}{s:Shared}{E:Value->Shared->Prop}
theorem Inv.wish (I:Inv X pins σ H s)(E:Value->Shared->Prop):Inv (X.wish E) pins σ H s:=⟨I.ok.wish E,I.os,I.bare,I.base,I.loc,I.cell,I.free,I.freeC,I.pin,I.hok,I.len⟩
theorem Inv.unwish (I:Inv (X.wish E) pins σ H s):Inv X pins σ H s:=⟨I.ok.unwish,I.os,I.bare,I.base,I.loc,I.cell,I.free,I.freeC,I.pin,I.hok,I.len⟩
theorem SP.unwish {D:Ends}{f:Flow}{s':Shared}(h:SP (X.wish E) pins D f s'):SP X pins D f s':=by
 cases f with
 | next=>obtain⟨σ',H',I,q⟩:=h; exact⟨σ',H',I.unwish,q⟩
 | brk=>obtain⟨σ',H',I,q⟩:=h; exact⟨σ',H',I.unwish,q⟩
 | cont=>obtain⟨σ',H',I,q⟩:=h; exact⟨σ',H',I.unwish,q⟩
 | ret u=>obtain⟨v,σ',H',I,r,q⟩:=h; exact⟨v,σ',H',I.unwish,r,q⟩
theorem PSs.nox {st:List Stmt}{t:TS}(h:PSs X.nox st t):PSs X st t:=fun pins s σ H D I hw=>
 bJ (h pins s σ H D (I.wish _) hw) (fun _ _ q=>q.unwish) fun _ _ z=>False.elim z
end
section
variable {X:Cx}{st:Stmt}{rest:List Stmt}{t u:TS}{e:Expr}{te:TE}{pos:Pos}
def tNext:TS:=fun D σ H=>D.nx σ H
def tSeq (t u:TS):TS:=fun D σ H=>t { D with nx:=u D} σ H
theorem jDI:PSs X [] tNext:=fun _ _ σ H _ I h=>df ⟨σ,H,I,h⟩
theorem kP (h1:PS X st t)(h2:PSs X rest u):PSs X (st::rest) (tSeq t u):=by
 intro pins s σ H D I h
 refine wpAny_execs_cons (thn (h1 pins s σ H { D with nx:=u D} I h) fun f s1 q=>?_)
 cases f with
 | next=>
  obtain⟨σ',H',I',q⟩:=q
  exact h2 pins s1 σ' H' D I' q
 | ret v=>exact q
 | brk=>exact q
 | cont=>exact q
theorem jAK (h1:PS X st t):PSs X [st] t:=by
 intro pins s σ H D I h
 refine wpAny_execs_cons (thn (h1 pins s σ H D I h) fun f s1 q=>?_)
 cases f with
 | next=>exact df q
 | ret v=>exact q
 | brk=>exact q
 | cont=>exact q
theorem Inv.quiet {pins:List (Addr×Obj)}{σ:St}{H:Hp}{s:Shared}(I:Inv X pins σ H s):interactive X.env=false:=by simp [interactive,I.ok.kind]
def tDrop (te:TE):TS:=fun D σ H=>te σ H fun _ H1=>D.nx σ H1
theorem jMB (he:PE X e te)(hs:swapsWith e none pos.line X.env=pure false:=by rfl):PS X (.Expr e pos) (tDrop te):=by
 intro pins s σ H D I h
 exact wpAny_Expr_any (thn (he pins s σ H _ I h) fun v s1 ⟨x,H1,I1,r1,q1⟩=>⟨σ,H1,I1,q1⟩) I.quiet hs
def tRet (te:TE):TS:=fun D σ H=>te σ H D.rt
theorem jBW (he:PE X e te):PS X (.Return (some e) pos) (tRet te):=by
 intro pins s σ H D I h
 exact wpAny_Return_some (thn (he pins s σ H _ I h) fun v s1 ⟨x,H1,I1,r1,q1⟩=>⟨x,σ,H1,I1,r1,q1⟩)
def tIfS (c:TT)(t u:TS):TS:=fun D σ H=>c σ H fun b H1=>if b=true then t D σ H1 else u D σ H1
theorem ps_if {c:Expr}{a b:List Stmt}{tc:TT}(hc:PT X c tc)(ha:PSs X a t)(hb:PSs X b u):PS X (.If c a b pos) (tIfS tc t u):=by
 intro pins s σ H D I h
 refine wpAny_If (thn (hc pins s σ H _ I h) fun d s1 ⟨H1,I1,q1⟩=>?_)
 cases d with
 | true=>exact ha pins s1 σ H1 D I1 q1
 | false=>exact hb pins s1 σ H1 D I1 q1
end
abbrev TG:=V->St->Hp->(St->Hp->Prop)->Prop
abbrev TGs:=List V->St->Hp->(St->Hp->Prop)->Prop
def PG (X:Cx)(target:Expr)(t:TG):Prop:=
 ∀ (pins:List (Addr×Obj)) (s:Shared) (σ:St) (H:Hp) (v:V) (u:Value) (Q:St->Hp->Prop),Inv X pins σ H s->RelV v u->t v σ H Q->
  wpAny (model X.prog X.w) X.A (assign target X.env u) (fun _ s'=>∃ σ' H',Inv X pins σ' H' s'/\Q σ' H') X.xe s
def PGs (X:Cx)(ts:List Expr)(t:TGs):Prop:=
 ∀ (pins:List (Addr×Obj)) (s:Shared) (σ:St) (H:Hp) (vs:List V) (us:List Value) (Q:St->Hp->Prop),Inv X pins σ H s->Vals vs us->t vs σ H Q->
  wpAny (model X.prog X.w) X.A (assignInOrder ((assignEach ts X.env).map (·.2)) us) (fun _ s'=>∃ σ' H',Inv X pins σ' H' s'/\Q σ' H') X.xe s
abbrev TSet:=V->V->V->Hp->(Hp->Prop)->Prop
def PSet (X:Cx)(t:TSet):Prop:=
 ∀ (pins:List (Addr×Obj)) (s:Shared) (σ:St) (H:Hp) (o i v:V) (ov iv u:Value) (Q:Hp->Prop),Inv X pins σ H s->RelV o ov->RelV i iv->RelV v u->t o i v H Q->
  wpAny (model X.prog X.w) X.A (setItem ov iv u) (fun _ s'=>∃ H',Inv X pins σ H' s'/\Q H') X.xe s
section
variable {X:Cx}{pos:Pos}
def kJ (i:Nat):TG:=fun v σ H Q=>Q (σ.set i (some v)) H
theorem jDJ {i:Nat}{x:Str}(hN:X.N.Nodup)(hi:X.N[i]?=some x)(hx:Loc X.env.scope x)(hf:X.fn x=true\/X.env.scope.names.lookup x=some .local:=by first | exact .inl rfl | exact .inr rfl | assumption):PG X (.Name x pos) (kJ i):=by
 intro pins s σ H v u Q I r h
 exact dG (jG1 I hN hi hx r (fun s' I'=>⟨_,H,I',h⟩) hf)
def gNil:TGs:=fun vs σ H Q=>vs=[]/\Q σ H
def gCons (t:TG)(u:TGs):TGs:=fun vs σ H Q=>∃ v r,vs=v::r/\t v σ H fun σ' H'=>u r σ' H' Q
theorem jMH:PGs X [] gNil:=by
 intro pins s σ H vs us Q I r h
 obtain⟨e,h⟩:=h
 subst e
 cases r
 exact assignInOrder_nil ⟨σ,H,I,h⟩
theorem jKJ {e:Expr}{es:List Expr}{t:TG}{u:TGs}(h1:PG X e t)(h2:PGs X es u)
  (hs:(assignEach (e::es) X.env).map (·.2)=assign e X.env::(assignEach es X.env).map (·.2):=by rfl):PGs X (e::es) (gCons t u):=by
 intro pins s σ H vs us Q I r h
 obtain⟨v,vr,e1,h⟩:=h
 subst e1
 cases r with
 | cons r rr=>
  rw[hs]
  refine assignInOrder_cons (thn (h1 pins s σ H _ _ _ I r h) fun _ s1 ⟨σ1,H1,I1,q1⟩=>?_)
  exact h2 pins s1 σ1 H1 _ _ Q I1 rr q1
def gTup (K:W.Frag)(n:Nat)(t:TGs):TG:=fun v σ H Q=>∃ a xs,v= .ref a/\SqT K H a xs/\xs.length=n/\t xs σ H Q
theorem jNP {es:List Expr}{k:Nat}{t:TGs}{n:Nat}(hc:X.calm=true)(h:PGs X es t)
  (hn:(assignEach es X.env).length=n:=by rfl) (hst:(assignEach es X.env).findIdx? (·.1)=none:=by rfl):PG X (.Tuple es k pos) (gTup X.K n t):=by
 intro pins s σ H v u Q I r hw
 obtain⟨a,xs,e1,hq,hl,hw⟩:=hw
 subst e1
 cases r
 obtain⟨its,rv,ht,hz⟩:=I.tuple hq
 refine assign_Tuple_tuple (I.ok.hd hc) ht (by simp [hn,<- hl,rv.length]) hst fun h' hx=>?_
 have I1:Inv X pins σ H { s with heap:=h'} :=I.kept (t':=s.toks) fun b o e=>hx b o (aC (ag e)) e
 exact h pins _ σ H xs _ Q I1 (by simpa using rv) hw
def gSub (to ti:TE)(t:TSet):TG:=fun v σ H Q=>to σ H fun o H1=>ti σ H1 fun i H2=>t o i v H2 fun H3=>Q σ H3
theorem jLI {o i:Expr}{to ti:TE}{t:TSet}(ho:PE X o to)(hi:PE X i ti)(hs:PSet X t)
  (ha:∀ v,assign (.Subscript o i pos) X.env v=(do
   let ov <- holding [v] (eval o X.env)
   let iv <- holding [v,ov] (eval i X.env)
   standAt pos
   holding [v,ov,iv] (setItem ov iv v)
   release [v,ov,iv] []):=by intro _; rfl):PG X (.Subscript o i pos) (gSub to ti t):=by
 intro pins s σ H v u Q I r h
 rw[ha]
 refine aa (bE (thn (ho pins s σ H _ I h) fun ov s1 ⟨x,H1,I1,r1,q1⟩=>?_))
 refine aa (bE (thn (hi pins s1 σ H1 _ I1 q1) fun iv s2 ⟨y,H2,I2,r2,q2⟩=>?_))
 refine aa (dN (aa (bE (thn (hs pins s2 σ H2 x y v ov iv u _ I2 r1 r2 r q2) fun _ s3 ⟨H3,I3,q3⟩=>?_))))
 exact wpAny_release ⟨σ,H3,I3,q3⟩
def tAsg (te:TE)(g:TG):TS:=fun D σ H=>te σ H fun x H1=>g x σ H1 D.nx
theorem jLG {tg e:Expr}{te:TE}{g:TG}(he:PE X e te)(hg:PG X tg g)(hs:swapsWithSole [tg] e pos.line X.env=pure false:=by rfl)(hw:swappedStores [tg] e X.env=pure none:=by rfl)
  (h1:(assignEach [tg] X.env).map (·.2)=[assign tg X.env]:=by rfl):PS X (.Assign [tg] e pos) (tAsg te g):=by
 intro pins s σ H D I h
 refine wpAny_Assign_stores (thn (he pins s σ H _ I h) fun v s1 ⟨x,H1,I1,r1,q1⟩=>?_) hs hw
 rw[h1]
 exact thn (hg pins s1 σ H1 x v _ I1 r1 q1) fun _ s2 q=>q
theorem yK {i:Nat}{x:Str}{e:Expr}{te:TE}{pos':Pos}(hN:X.N.Nodup)(hi:X.N[i]?=some x)(hx:Loc X.env.scope x)(he:PE X e te)(hs:swapsWith e (some (.Name x pos')) pos.line X.env=pure false:=by rfl)(hf:X.fn x=true\/X.env.scope.names.lookup x=some .local:=by first | exact .inl rfl | exact .inr rfl | assumption):
  PS X (.Assign [.Name x pos'] e pos) (tAsg te (kJ i)):=by
 intro pins s σ H D I h
 refine wpAny_Assign_Name (thn (he pins s σ H _ I h) fun v s1 ⟨y,H1,I1,r1,q1⟩=>?_) hs
 exact jG1 I1 hN hi hx r1 (fun s2 I2=>⟨_,H1,I2,q1⟩) hf
end
section
variable {X:Cx}{pos:Pos}
def jHZ (c:TT)(tb:TS):TS:=fun D σ H=>∃ W:Nat->St->Hp->Prop,(∃ m,W m σ H)/\∀ m σ H,W m σ H->
 c σ H fun b H1=>if b=true then ∃ N:St->Hp->Prop,(∀ σ' H',N σ' H'->∃ m',m'<m/\W m' σ' H')/\tb { D with nx:=N,ct:=N,bk:=D.nx} σ H1 else D.nx σ H1
theorem jKG {c:Expr}{body:List Stmt}{tc:TT}{tb:TS}(hp:PassesOwn (model X.prog X.w) X.A X.env X.xe)(hc:PT X c tc)(hb:PSs X body tb):PS X (.While c body [] pos) (jHZ tc tb):=by
 intro pins s σ H D I h
 obtain⟨W,⟨m0,w0⟩,turn⟩:=h
 refine wpAny_While (codeAny_whileLoop (fun n s'=>∃ σ' H',Inv X pins σ' H' s'/\W n σ' H') ?_ m0 ⟨σ,H,I,w0⟩)
 rintro n s1 ⟨σ1,H1,I1,w1⟩
 refine bQ hp (thn (hc pins s1 σ1 H1 _ I1 (turn n σ1 H1 w1)) fun b s2 ⟨H2,I2,q2⟩=>?_)
 cases b with
 | true=>
  obtain⟨N,hN,q2⟩:=q2
  rw[ah rfl]
  refine bQ hp (thn (hb pins s2 σ1 H2 _ I2 q2) fun f s3 q3=>?_)
  cases f with
  | next=>
   obtain⟨σ3,H3,I3,n3⟩:=q3
   obtain⟨m',hm,w3⟩:=hN σ3 H3 n3
   exact⟨m',hm,σ3,H3,I3,w3⟩
  | cont=>
   obtain⟨σ3,H3,I3,n3⟩:=q3
   obtain⟨m',hm,w3⟩:=hN σ3 H3 n3
   exact⟨m',hm,σ3,H3,I3,w3⟩
  | brk=>exact q3
  | ret v=>exact q3
 | false=>
  rw[am aq]
  exact df ⟨σ1,H2,I2,q2⟩
end
structure It where
 go:Nat->Hp->Prop
 yld:Nat->Hp->V->Hp->Prop
 stop:Nat->Hp->Prop
def FpOk (X:Cx)(pins:List (Addr×Obj))(H:Hp)(b:Addr):Prop:=
 H b=none/\b≠X.env.locals/\b∉X.fs/\(b∈X.ex\/X.s₀.heap.objs.size<=b)/\(∀ x c,X.env.cells.lookup x=some c->c≠b)/\∀ p∈X.pn++pins,p.1≠b
theorem Inv.fpOk {X:Cx}{pins:List (Addr×Obj)}{σ:St}{H H':Hp}{s:Shared}{b:Addr}(I:Inv X pins σ H s)(hb:s.heap.objs.size<=b)(hn:H' b=none):FpOk X pins H' b:=by
 refine⟨hn,bu (aD I.lt hb),I.nofs hb, .inr (aZ I.sz hb),fun x c e z=>?_,fun p hp z=>?_⟩
 ·obtain⟨v,q⟩:=I.cell x c e
  exact absurd (aD q.lt (by rw[z]; exact hb)) (aV _)
 ·exact absurd (aD (ag (I.pin p hp).1) (by rw[z]; exact hb)) (aV _)
structure Turn (P:Program)(w:World)(K:W.Frag)(tg:Expr)(J:It)(fp:List Addr)(it:Addr)(tn:Nat->Heap->Prop):Prop where
 mem:it∈fp
 obj:∀ i h,tn i h->∀ b∈fp,∃ o,h.get? b=some o/\∀ v,o.data≠ .cell v
 keep:∀ i h h',tn i h->(∀ b∈fp,∀ o,h.get? b=some o->h'.get? b=some o)->tn i h'
 item:∀ (X:Cx),X.prog=P->X.w=w->X.K=K->X.calm=true->∀ (i:Nat) (pins:List (Addr×Obj)) (s:Shared) (σ:St) (H:Hp) (E:Value->Shared->Prop),Inv X pins σ H s->(∀ b∈fp,FpOk X pins H b)->tn i s.heap->J.go i H->
  wpAny (model P w) X.A (pyNext (.ref it)) (fun r s1=>∃ u,r=some u/\
   wpAny (model P w) X.A (letOwnedTupleGo tg (.ref it) u) (fun _ s2=>∃ x H',Inv X pins σ H' s2/\RelV x u/\J.yld i H x H'/\tn (i+1) s2.heap/\∀ b∈fp,H' b=none) E s1) E s
 done:∀ (X:Cx),X.prog=P->X.w=w->X.K=K->X.calm=true->∀ (i:Nat) (pins:List (Addr×Obj)) (s:Shared) (σ:St) (H:Hp) (E:Value->Shared->Prop),Inv X pins σ H s->(∀ b∈fp,FpOk X pins H b)->tn i s.heap->J.stop i H->
  wpAny (model P w) X.A (pyNext (.ref it)) (fun r s1=>r=none/\Inv X pins σ H s1) E s
 self:∀ (A:Around) (i:Nat) (s:Shared) (Q:Value->Shared->Prop) (E:Value->Shared->Prop),tn i s.heap->Q (.ref it) s->wpAny (model P w) A (pyIter (.ref it)) Q E s
abbrev TI:=St->Hp->(It->Hp->Prop)->Prop
def PIE (X:Cx)(pins:List (Addr×Obj))(σ:St)(tg:Expr)(R:It->Hp->Prop)(itv:Value)(s2:Shared):Prop:=
 ∃ (it:Addr) (fp:List Addr) (tn:Nat->Heap->Prop) (J:It) (H':Hp),itv= .ref it/\Inv X pins σ H' s2/\Turn X.prog X.w X.K tg J fp it tn/\tn 0 s2.heap/\(∀ b∈fp,FpOk X pins H' b)/\R J H'
def PI (X:Cx)(tg iter:Expr)(wi:TI):Prop:=
 ∀ (pins:List (Addr×Obj)) (s:Shared) (σ:St) (H:Hp) (R:It->Hp->Prop),Inv X pins σ H s->wi σ H R->
  wpAny (model X.prog X.w) X.A (eval iter X.env) (fun v s1=>wpAny (model X.prog X.w) X.A (pyIter v) (PIE X pins σ tg R) X.xe s1) X.xe s
theorem go_of {M:Model}{A:Around}{E:Value->Shared->Prop}{s:Shared}{tg:Expr}{it:Addr}{u:Value}{o:Obj}{n:String}{vs:Array Value}{Q:Unit->Shared->Prop}(ho:s.heap.get? it=some o)(hc:o.cls= .type n)(hd:o.data= .fields vs)
  (hn: ["enumerate","zip","dict_itemiterator","dict_reverseitemiterator","odict_iterator","itertools.zip_longest","itertools.pairwise"].contains n=false) (hQ:Q () s):wpAny M A (letOwnedTupleGo tg (.ref it) u) Q E s:=by
 unfold letOwnedTupleGo
 cases tg <;> first
  | exact ae hQ
  | (cases u <;> first
    | exact ae hQ
    | (refine aa (fc ho ?_)
       rw [hc, hd]
       show wpAny M A (if (["enumerate", "zip", "dict_itemiterator", "dict_reverseitemiterator", "odict_iterator", "itertools.zip_longest", "itertools.pairwise"].contains n && vs[0]? == some (rawInt _)) = true then _ else _) Q E s
       rw [am (by intro h; rw [hn, bZ] at h; cases h)]
       exact ae hQ))
def Itl (K:W.Frag)(a:Addr):It:=
 ⟨fun i H=>∃ xs x,SqL K H a xs/\xs[i]?=some x,fun i H x H'=>H'=H/\∀ xs,SqL K H a xs->xs[i]?=some x,fun i H=>∃ xs,SqL K H a xs/\xs.length<=i⟩
def Itt (K:W.Frag)(a:Addr):It:=
 ⟨fun i H=>∃ xs x,SqT K H a xs/\xs[i]?=some x,fun i H x H'=>H'=H/\∀ xs,SqT K H a xs->xs[i]?=some x,fun i H=>∃ xs,SqT K H a xs/\xs.length<=i⟩
def Itr (lo:Int)(n:Nat):It:=⟨fun i _=>i<n,fun i H x H'=>H'=H/\x= .int (lo+i),fun i _=>n<=i⟩
theorem jHR {P:Program}{w:World}{K:W.Frag}{tg:Expr}(a it:Addr):Turn P w K tg (Itl K a) [it] it (fun i h=>h.IsListIter it a i) where
 mem:=by simp
 obj:=fun i h st b hb=>by
  have e:b=it:=by simpa using hb
  subst e
  obtain⟨o,e,c,d⟩:=st
  exact⟨o,e,fun v z=>by rw[d] at z; cases z⟩
 keep:=fun i h h' st k=>st.at fun o e=>k it (by simp) o e
 item:=by
  intro X hP hw hK hc i pins s σ H E I hf st hg
  subst hP hw hK
  obtain⟨xs,x,hq,hx⟩:=hg
  obtain⟨its,rv,p,hz⟩:=I.list hq
  obtain⟨u,hu,ru⟩:=rv.get hx
  obtain⟨f0,f1,f2,f3,f4,f5⟩:=hf it (by simp)
  refine wpAny_pyNext_list_item st p.isList (x:=u) (by simpa using hu) fun h' st' sb=>?_
  have I1:Inv X pins σ H { s with heap:=h'} :=I.turned (t':=s.toks) (fun b o hb e=>(sb.2 b hb).trans e) f0 f1 f3 f4 f5
  obtain⟨o,e,c,d⟩:=id st'
  exact⟨u,rfl,go_of (s:= { s with heap:=h'}) e c d (by decide) ⟨x,H,I1,ru,⟨rfl,fun ys hy=>by rw[I.list_inj hy hq]; exact hx⟩,st',fun b hb=>(hf b hb).1⟩⟩
 done:=by
  intro X hP hw hK hc i pins s σ H E I hf st hg
  subst hP hw hK
  obtain⟨xs,hq,hx⟩:=hg
  obtain⟨its,rv,p,hz⟩:=I.list hq
  obtain⟨f0,f1,f2,f3,f4,f5⟩:=hf it (by simp)
  have hl:=rv.length
  exact wpAny_pyNext_list_end (I.ok.hd hc) st p.isList (by simp; omega) fun h' eb=>⟨rfl,I.turned (t':=s.toks) (fun b o hb e=>eb b o hb e) f0 f1 f3 f4 f5⟩
 self:=fun _ _ _ _ _ st h=>wpAny_pyIter_listiter st h
theorem jH1 {P:Program}{w:World}{K:W.Frag}{tg:Expr}(a it:Addr):Turn P w K tg (Itt K a) [it] it (fun i h=>h.IsTupleIter it a i) where
 mem:=by simp
 obj:=fun i h st b hb=>by
  have e:b=it:=by simpa using hb
  subst e
  obtain⟨o,e,c,d⟩:=st
  exact⟨o,e,fun v z=>by rw[d] at z; cases z⟩
 keep:=fun i h h' st k=>st.at fun o e=>k it (by simp) o e
 item:=by
  intro X hP hw hK hc i pins s σ H E I hf st hg
  subst hP hw hK
  obtain⟨xs,x,hq,hx⟩:=hg
  obtain⟨its,rv,p,hz⟩:=I.tuple hq
  obtain⟨u,hu,ru⟩:=rv.get hx
  obtain⟨f0,f1,f2,f3,f4,f5⟩:=hf it (by simp)
  refine wpAny_pyNext_tuple_item st (show s.heap.IsTuple a its.toArray from p) (x:=u) (by simpa using hu) fun h' st' sb=>?_
  have I1:Inv X pins σ H { s with heap:=h'} :=I.turned (t':=s.toks) (fun b o hb e=>(sb.2 b hb).trans e) f0 f1 f3 f4 f5
  obtain⟨o,e,c,d⟩:=id st'
  exact⟨u,rfl,go_of (s:= { s with heap:=h'}) e c d (by decide) ⟨x,H,I1,ru,⟨rfl,fun ys hy=>by rw[I.tuple_inj hy hq]; exact hx⟩,st',fun b hb=>(hf b hb).1⟩⟩
 done:=by
  intro X hP hw hK hc i pins s σ H E I hf st hg
  subst hP hw hK
  obtain⟨xs,hq,hx⟩:=hg
  obtain⟨its,rv,p,hz⟩:=I.tuple hq
  obtain⟨f0,f1,f2,f3,f4,f5⟩:=hf it (by simp)
  have hl:=rv.length
  exact wpAny_pyNext_tuple_end (I.ok.hd hc) st (show s.heap.IsTuple a its.toArray from p) (by simp; omega) fun h' eb=>⟨rfl,I.turned (t':=s.toks) (fun b o hb e=>eb b o hb e) f0 f1 f3 f4 f5⟩
 self:=fun _ _ _ _ _ st h=>wpAny_pyIter_tupleiter st h
theorem jH2 {P:Program}{w:World}{K:W.Frag}{tg:Expr}(it:Addr)(lo:Int)(n:Nat):Turn P w K tg (Itr lo n) [it] it (fun i h=>IsRangeIter h it (lo+(i:Nat)*1) ((n:Int) - (i:Nat)) 1) where
 mem:=by simp
 obj:=fun i h st b hb=>by
  have e:b=it:=by simpa using hb
  subst e
  exact⟨_,st,fun v z=>by
   have z':Data.fields _=Data.cell v:=z
   cases z'⟩
 keep:=fun i h h' st k=>k it (by simp) _ st
 item:=by
  intro X hP hw hK hc i pins s σ H E I hf st hg
  subst hP hw hK
  obtain⟨f0,f1,f2,f3,f4,f5⟩:=hf it (by simp)
  have W:=Walks.range (prog:=X.prog) (w:=X.w) (I.ok.hd hc) it lo 1 n
  refine W.item i s _ _ hg st fun v h' tk hv st' kk=>?_
  obtain⟨t,rfl⟩:=hv
  have I1:Inv X pins σ H { s with heap:=h',toks:=tk} :=I.turned (fun b o hb e=>kk b o (by simpa using hb) e) f0 f1 f3 f4 f5
  refine⟨_,rfl,go_of (s:= { s with heap:=h',toks:=tk}) (n:= "range_iterator") st' rfl rfl (by decide) ⟨.int (lo+i),H,I1,⟨t,?_⟩,⟨rfl,rfl⟩,st',fun b hb=>(hf b hb).1⟩⟩
  rw[dH]
 done:=by
  intro X hP hw hK hc i pins s σ H E I hf st hg
  subst hP hw hK
  obtain⟨f0,f1,f2,f3,f4,f5⟩:=hf it (by simp)
  exact wpAny_pyNext_range_end (I.ok.hd hc) st (by have:n<=i:=hg; omega) fun h' eb=>⟨rfl,I.turned (t':=s.toks) (fun b o hb e=>eb b o hb e) f0 f1 f3 f4 f5⟩
 self:=fun _ _ _ _ _ st h=>wpAny_pyIter_rangeiter st h
end L2
namespace L2
open PySem PySem.Spec PyProof.Rows
section
variable {X:Cx}{tg:Expr}
def iList (K:W.Frag)(tl:TE):TI:=fun σ H R=>tl σ H fun x H1=>∃ a,x= .ref a/\(∃ xs,SqL K H1 a xs)/\R (Itl K a) H1
def iTup (K:W.Frag)(tl:TE):TI:=fun σ H R=>tl σ H fun x H1=>∃ a,x= .ref a/\(∃ xs,SqT K H1 a xs)/\R (Itt K a) H1
theorem jMF {l:Expr}{tl:TE}(hl:PE X l tl):PI X tg l (iList X.K tl):=by
 intro pins s σ H R I h
 refine thn (hl pins s σ H _ I h) fun v s1 ⟨x,H1,I1,r1,q1⟩=>?_
 obtain⟨a,e,⟨xs,hq⟩,q⟩:=q1
 subst e
 cases r1
 obtain⟨its,rv,p,hz⟩:=I1.list hq
 refine bS p.isList ?_
 refine⟨s1.heap.objs.size,[s1.heap.objs.size],_,_,H1,rfl,I1.kept (t':=s1.toks) fun b o e=>ac _ e,jHR a _,⟨_,ak _ rfl,rfl,rfl⟩,fun b hb=>?_,q⟩
 have e:b=s1.heap.objs.size:=by simpa using hb
 subst e
 exact I1.fpOk (af _) (I1.hok.fresh (af _))
theorem jNO {l:Expr}{tl:TE}(hl:PE X l tl):PI X tg l (iTup X.K tl):=by
 intro pins s σ H R I h
 refine thn (hl pins s σ H _ I h) fun v s1 ⟨x,H1,I1,r1,q1⟩=>?_
 obtain⟨a,e,⟨xs,hq⟩,q⟩:=q1
 subst e
 cases r1
 obtain⟨its,rv,p,hz⟩:=I1.tuple hq
 refine dy (show s1.heap.IsTuple a its.toArray from p) ?_
 refine⟨s1.heap.objs.size,[s1.heap.objs.size],_,_,H1,rfl,I1.kept (t':=s1.toks) fun b o e=>ac _ e,jH1 a _,⟨_,ak _ rfl,rfl,rfl⟩,fun b hb=>?_,q⟩
 have e:b=s1.heap.objs.size:=by simpa using hb
 subst e
 exact I1.fpOk (af _) (I1.hok.fresh (af _))
theorem jG5 {pins:List (Addr×Obj)}{σ:St}{H:Hp}{s:Shared}{R:It->Hp->Prop}{E:Value->Shared->Prop}{lo hi:Int}{t u v:Tok}{tk:Nat}(I:Inv X pins σ H s)(h1: -(2 ^ 62)<=lo)(h2:lo<2 ^ 62)(h3: -(2 ^ 62)<=hi)(h4:hi<2 ^ 62)
  (q:R (Itr lo (hi - lo).toNat) H):wpAny (model X.prog X.w) X.A (pyIter (.ref s.heap.objs.size)) (PIE X pins σ tg R) E { s with heap:=s.heap.push { cls:= .type "range",data:= .fields #[.int lo t, .int hi u, .int 1 v]},toks:=tk} :=by
 refine wpAny_pyIter_range (IsRange.new ..) (small_one h1 h2 h3 h4) ?_
 have I1:Inv X pins σ H { s with heap:=s.heap.push { cls:= .type "range",data:= .fields #[.int lo t, .int hi u, .int 1 v]},toks:=tk} :=I.kept fun b o e=>ac _ e
 refine⟨(s.heap.push { cls:= .type "range",data:= .fields #[.int lo t, .int hi u, .int 1 v]}).objs.size,[(s.heap.push { cls:= .type "range",data:= .fields #[.int lo t, .int hi u, .int 1 v]}).objs.size],_,_,H,rfl,
  I1.kept (t':=tk) fun b o e=>ac _ e,jH2 _ lo (hi - lo).toNat,?_,fun b hb=>?_,q⟩
 ·have e1:lo+((0:Nat):Int)*1=lo:=by simp
  have e2:(((hi - lo).toNat:Nat):Int) - ((0:Nat):Int)=Builtin.Range.rangeSize lo hi 1:=by rw[rangeSize_one]; split <;> omega
  show IsRangeIter _ _ (lo+((0:Nat):Int)*1) ((((hi - lo).toNat:Nat):Int) - ((0:Nat):Int)) 1
  rw[e1,e2]
  exact ak _ rfl
 ·have e:b=(s.heap.push { cls:= .type "range",data:= .fields #[.int lo t, .int hi u, .int 1 v]}).objs.size:=by simpa using hb
  subst e
  exact I1.fpOk (af _) (I1.hok.fresh (af _))
def iRng1 (ta:TA):TI:=fun σ H R=>ta σ H fun vs H1=>∃ j:Int,vs=[.int j]/\ -(2 ^ 62)<=j/\j<2 ^ 62/\R (Itr 0 j.toNat) H1
def iRng2 (ta:TA):TI:=fun σ H R=>ta σ H fun vs H1=>∃ i j:Int,vs=[.int i, .int j]/\(-(2 ^ 62)<=i/\i<2 ^ 62/\ -(2 ^ 62)<=j/\j<2 ^ 62)/\R (Itr i (j - i).toNat) H1
theorem jBB {a:Expr}{ta:TA}{p pos:Pos}(hg:Gl X "range")(hm:X.mg "range" =none)(ha:PA X [a] ta)(hs:starEach [a] X.env=[(false,eval a X.env)]:=by rfl):PI X tg (.Call (.Name "range" p) [a] [] pos) (iRng1 ta):=by
 intro pins s σ H R I h
 refine Call_ (jCH I hg hm boot_range (bt (thn (ha pos pins s σ H _ I h) fun us s1 ⟨vs,H1,I1,r1,q1⟩=>?_) hs rfl))
 obtain⟨j,e,q1,q2,q⟩:=q1
 subst e
 cases r1 with
 | cons r rr=>
  cases rr
  obtain⟨t,rfl⟩:=r
  exact call_range_1 (jG5 I1 (by omega) (by omega) q1 q2 (by simpa using q))
theorem jIK {a b:Expr}{ta:TA}{p pos:Pos}(hg:Gl X "range")(hm:X.mg "range" =none)(ha:PA X [a,b] ta)(hs:starEach [a,b] X.env=[(false,eval a X.env),(false,eval b X.env)]:=by rfl)(hs2:starEach [b] X.env=[(false,eval b X.env)]:=by rfl):
  PI X tg (.Call (.Name "range" p) [a,b] [] pos) (iRng2 ta):=by
 intro pins s σ H R I h
 refine Call_ (jCH I hg hm boot_range (bt (thn (ha pos pins s σ H _ I h) fun us s1 ⟨vs,H1,I1,r1,q1⟩=>?_) (by rw[hs,hs2]) (by rw[hs2]; rfl)))
 obtain⟨i,j,e,⟨q1,q2,q3,q4⟩,q⟩:=q1
 subst e
 cases r1 with
 | cons r rr=>
  cases rr with
  | cons r' rr=>
   cases rr
   obtain⟨t,rfl⟩:=r
   obtain⟨t',rfl⟩:=r'
   exact call_range_2 (jG5 I1 q1 q2 q3 q4 q)
def tFor (wi:TI)(g:TG)(tb:TS):TS:=fun D σ H=>wi σ H fun J H1=>∃ W:Nat->Nat->St->Hp->Prop,(∃ m,W 0 m σ H1)/\∀ i m σ H,W i m σ H->
 (J.stop i H/\D.nx σ H)\/(J.go i H/\∃ N:St->Hp->Prop,(∀ σ' H',N σ' H'->∃ m',m'<m/\W (i+1) m' σ' H')/\∀ x H',J.yld i H x H'->g x σ H' fun σ2 H2=>tb { D with nx:=N,ct:=N,bk:=D.nx} σ2 H2)
def jD1 (fp:List Addr)(h:Heap):List (Addr×Obj):=fp.filterMap fun b=>(h.get? b).map fun o=>(b,o)
theorem jAA {fp:List Addr}{h:Heap}{b:Addr}{o:Obj}(hb:b∈fp)(e:h.get? b=some o):(b,o)∈jD1 fp h:=fe.mpr ⟨b,hb,by rw[e]; rfl⟩
theorem jIO {fp:List Addr}{h:Heap}{p:Addr×Obj}(hp:p∈jD1 fp h):p.1∈fp/\h.get? p.1=some p.2:=by
 obtain⟨b,hb,e⟩:=fe.mp hp
 cases q:h.get? b with
 | none=>rw[q] at e; cases e
 | some o=>
  rw[q] at e
  have e':(b,o)=p:=aN e
  subst e'
  exact⟨hb,q⟩
theorem Inv.pinned {pins:List (Addr×Obj)}{σ:St}{H:Hp}{s:Shared}{fp:List Addr}(I:Inv X pins σ H s)(hf:∀ b∈fp,FpOk X pins H b)(ho:∀ b∈fp,∃ o,s.heap.get? b=some o/\∀ v,o.data≠ .cell v):Inv X (pins++jD1 fp s.heap) σ H s:=
 I.pins_of fun p hp=>(bA.mp hp).elim (fun z=>I.pin p (aH _ z)) fun z=>by
  obtain⟨hb,e⟩:=jIO z
  obtain⟨f0,f1,f2,_⟩:=hf p.1 hb
  obtain⟨o,e',d⟩:=ho p.1 hb
  rw[e] at e'; cases e'
  exact⟨e,f0,f1,f2,d⟩
theorem Inv.unpinned {pins pl:List (Addr×Obj)}{σ:St}{H:Hp}{s:Shared}(I:Inv X (pins++pl) σ H s):Inv X pins σ H s:=I.pins_of fun p hp=>I.pin p (aH _ (eL _ hp))
theorem jLF {iter:Expr}{body:List Stmt}{wi:TI}{g:TG}{tb:TS}{pos:Pos}(hp:PassesOwn (model X.prog X.w) X.A X.env X.xe)(hc:X.calm=true)(hi:PI X tg iter wi)(hg:PG X tg g)(hb:PSs X body tb)
  (hs:∀ x,foldedSetIterable iter X.env x=pure x:=by intro _; rfl):PS X (.For tg iter body [] pos) (tFor wi g tb):=by
 intro pins s σ H D I h
 refine wpAny_For (thn (hi pins s σ H _ I h) fun v s1 h1=>thn h1 fun itv s2 h2=>?_) hs
 obtain⟨it,fp,tn,J,H2,e,I2,T,st2,f2,W,⟨m0,w0⟩,turn⟩:=h2
 subst e
 have stat:∀ {H':Hp},(∀ b∈fp,H' b=none)->∀ b∈fp,FpOk X pins H' b:=fun hn b hb=>⟨hn b hb,(f2 b hb).2⟩
 refine codeAny_forLoop_any (fun n s'=>∃ i σ' H',Inv X pins σ' H' s'/\tn i s'.heap/\(∀ b∈fp,H' b=none)/\W i n σ' H') ?_ m0 ⟨0,σ,H2,I2,st2,fun b hb=>(f2 b hb).1,w0⟩
 rintro n s3 ⟨i,σ3,H3,I3,st3,fr3,w3⟩
 rcases turn i n σ3 H3 w3 with ⟨stop,qn⟩ | ⟨go,N,hN,step⟩
 ·refine bQ hp (thn (T.done X rfl rfl rfl hc i pins s3 σ3 H3 X.xe I3 (stat fr3) st3 stop) fun r s4 ⟨hr,I4⟩=>?_)
  subst hr
  exact df ⟨σ3,H3,I4,qn⟩
 ·refine bQ hp (thn (T.item X rfl rfl rfl hc i pins s3 σ3 H3 X.xe I3 (stat fr3) st3 go) fun r s4 ⟨u,hr,h4⟩=>?_)
  subst hr
  refine bQ hp (thn h4 fun _ s5 ⟨x,H5,I5,r5,y5,st5,fr5⟩=>?_)
  have I5':=I5.pinned (stat fr5) (T.obj _ _ st5)
  refine bQ hp (thn (hg _ s5 σ3 H5 x u _ I5' r5 (step x H5 y5)) fun _ s6 ⟨σ6,H6,I6,q6⟩=>?_)
  refine bQ hp (thn (hb _ s6 σ6 H6 _ I6 q6) fun f s7 q7=>?_)
  have again:∀ {σ7:St}{H7:Hp},Inv X (pins++jD1 fp s5.heap) σ7 H7 s7->N σ7 H7->∃ m,m<n/\∃ i σ' H',Inv X pins σ' H' s7/\tn i s7.heap/\(∀ b∈fp,H' b=none)/\W i m σ' H':=fun {σ7 H7} I7 n7=>by
   obtain⟨m',hm,w7⟩:=hN σ7 H7 n7
   refine⟨m',hm,i+1,σ7,H7,I7.unpinned,T.keep _ _ _ st5 fun b hb o e=>(I7.pin (b,o) (aH _ (aH _ (jAA hb e)))).1,fun b hb=>?_,w7⟩
   obtain⟨o,e,d⟩:=T.obj _ _ st5 b hb
   exact(I7.pin (b,o) (aH _ (aH _ (jAA hb e)))).2.1
  cases f with
  | next=>obtain⟨σ7,H7,I7,n7⟩:=q7; exact again I7 n7
  | cont=>obtain⟨σ7,H7,I7,n7⟩:=q7; exact again I7 n7
  | brk=>obtain⟨σ7,H7,I7,q7⟩:=q7; exact⟨σ7,H7,I7.unpinned,q7⟩
  | ret v=>obtain⟨x7,σ7,H7,I7,r7,q7⟩:=q7; exact⟨x7,σ7,H7,I7.unpinned,r7,q7⟩
end
theorem jKZ {K:W.Frag}{a:Addr}{xs:List V}{g:TG}{tb:TS}{D:Ends}{σ:St}{H:Hp}(Pv:Nat->St->Hp->Prop)(h0:Pv 0 σ H)(hl:∀ i σ H,i<=xs.length->Pv i σ H->SqL K H a xs)
  (hs:∀ i x σ H,xs[i]?=some x->Pv i σ H->g x σ H fun σ2 H2=>tb { D with nx:=Pv (i+1),ct:=Pv (i+1),bk:=D.nx} σ2 H2) (hd:∀ σ H,Pv xs.length σ H->D.nx σ H):
  ∃ W:Nat->Nat->St->Hp->Prop,(∃ m,W 0 m σ H)/\∀ i m σ H,W i m σ H->
   ((Itl K a).stop i H/\D.nx σ H)\/((Itl K a).go i H/\∃ N:St->Hp->Prop,(∀ σ' H',N σ' H'->∃ m',m'<m/\W (i+1) m' σ' H')/\∀ x H',(Itl K a).yld i H x H'->g x σ H' fun σ2 H2=>tb { D with nx:=N,ct:=N,bk:=D.nx} σ2 H2):=by
 refine⟨fun i m σ H=>m=xs.length - i/\i<=xs.length/\Pv i σ H,⟨xs.length,by simp,aP _,h0⟩,?_⟩
 rintro i m σ H ⟨rfl,hi,p⟩
 have q:=hl i σ H hi p
 by_cases hlt:i<xs.length
 ·refine .inr ⟨⟨xs,xs[i],q,by simp [hlt]⟩,Pv (i+1),fun σ' H' p'=>⟨xs.length - (i+1),by omega,rfl,hlt,p'⟩,fun x H' y=>?_⟩
  obtain⟨e,y⟩:=y
  subst e
  exact hs i x σ _ (y xs q) p
 ·have e:i=xs.length:=by omega
  subst e
  exact .inl ⟨⟨xs,q,af _⟩,hd σ H p⟩
theorem jN6 {K:W.Frag}{a:Addr}{xs:List V}{g:TG}{tb:TS}{D:Ends}{σ:St}{H:Hp}(Pv:Nat->St->Hp->Prop)(h0:Pv 0 σ H)(hl:∀ i σ H,i<=xs.length->Pv i σ H->SqT K H a xs)
  (hs:∀ i x σ H,xs[i]?=some x->Pv i σ H->g x σ H fun σ2 H2=>tb { D with nx:=Pv (i+1),ct:=Pv (i+1),bk:=D.nx} σ2 H2) (hd:∀ σ H,Pv xs.length σ H->D.nx σ H):
  ∃ W:Nat->Nat->St->Hp->Prop,(∃ m,W 0 m σ H)/\∀ i m σ H,W i m σ H->
   ((Itt K a).stop i H/\D.nx σ H)\/((Itt K a).go i H/\∃ N:St->Hp->Prop,(∀ σ' H',N σ' H'->∃ m',m'<m/\W (i+1) m' σ' H')/\∀ x H',(Itt K a).yld i H x H'->g x σ H' fun σ2 H2=>tb { D with nx:=N,ct:=N,bk:=D.nx} σ2 H2):=by
 refine⟨fun i m σ H=>m=xs.length - i/\i<=xs.length/\Pv i σ H,⟨xs.length,by simp,aP _,h0⟩,?_⟩
 rintro i m σ H ⟨rfl,hi,p⟩
 have q:=hl i σ H hi p
 by_cases hlt:i<xs.length
 ·refine .inr ⟨⟨xs,xs[i],q,by simp [hlt]⟩,Pv (i+1),fun σ' H' p'=>⟨xs.length - (i+1),by omega,rfl,hlt,p'⟩,fun x H' y=>?_⟩
  obtain⟨e,y⟩:=y
  subst e
  exact hs i x σ _ (y xs q) p
 ·have e:i=xs.length:=by omega
  subst e
  exact .inl ⟨⟨xs,q,af _⟩,hd σ H p⟩
theorem jAG {lo:Int}{n:Nat}{g:TG}{tb:TS}{D:Ends}{σ:St}{H:Hp}(Pv:Nat->St->Hp->Prop)(h0:Pv 0 σ H)
  (hs:∀ i σ H,i<n->Pv i σ H->g (.int (lo+i)) σ H fun σ2 H2=>tb { D with nx:=Pv (i+1),ct:=Pv (i+1),bk:=D.nx} σ2 H2) (hd:∀ σ H,Pv n σ H->D.nx σ H):
  ∃ W:Nat->Nat->St->Hp->Prop,(∃ m,W 0 m σ H)/\∀ i m σ H,W i m σ H->
   ((Itr lo n).stop i H/\D.nx σ H)\/((Itr lo n).go i H/\∃ N:St->Hp->Prop,(∀ σ' H',N σ' H'->∃ m',m'<m/\W (i+1) m' σ' H')/\∀ x H',(Itr lo n).yld i H x H'->g x σ H' fun σ2 H2=>tb { D with nx:=N,ct:=N,bk:=D.nx} σ2 H2):=by
 refine⟨fun i m σ H=>m=n - i/\i<=n/\Pv i σ H,⟨n,by simp,aP _,h0⟩,?_⟩
 rintro i m σ H ⟨rfl,hi,p⟩
 by_cases hlt:i<n
 ·refine .inr ⟨hlt,Pv (i+1),fun σ' H' p'=>⟨n - (i+1),by omega,rfl,hlt,p'⟩,fun x H' y=>?_⟩
  obtain⟨e,y⟩:=y
  subst e y
  exact hs i σ _ hlt p
 ·have e:i=n:=by omega
  subst e
  exact .inl ⟨af _,hd σ H p⟩
end L2
namespace L2
open PySem PySem.Spec PyProof.Rows
abbrev R2:=V->V->Hp->VK->Prop
def OpR (X:Cx)(f:Value->Value->Sem Value)(r:R2):Prop:=
 ∀ (pins:List (Addr×Obj)) (s:Shared) (σ:St) (H:Hp) (x y:V) (v u:Value) (Q:VK),Inv X pins σ H s->RelV x v->RelV y u->r x y H Q->
  wpAny (model X.prog X.w) X.A (f v u) (EP X pins σ Q) X.xe s
def UnR (X:Cx)(f:Value->Sem Value)(r:V->Hp->VK->Prop):Prop:=
 ∀ (pins:List (Addr×Obj)) (s:Shared) (σ:St) (H:Hp) (x:V) (v:Value) (Q:VK),Inv X pins σ H s->RelV x v->r x H Q->
  wpAny (model X.prog X.w) X.A (f v) (EP X pins σ Q) X.xe s
def kZ (X:Cx)(f:Value)(r:List V->Hp->VK->Prop):Prop:=
 ∀ (pins:List (Addr×Obj)) (s:Shared) (σ:St) (H:Hp) (xs:List V) (us:List Value) (Q:VK),Inv X pins σ H s->Vals xs us->r xs H Q->
  wpAny (model X.prog X.w) X.A (call f us) (EP X pins σ Q) X.xe s
def tOp (r:R2)(ta tb:TE):TE:=fun σ H Q=>ta σ H fun x H1=>tb σ H1 fun y H2=>r x y H2 Q
def tUn (r:V->Hp->VK->Prop)(ta:TE):TE:=fun σ H Q=>ta σ H fun x H1=>r x H1 Q
def rI (C:Int->Int->Prop)(g:Int->Int->V):R2:=fun x y H Q=>∃ i j,x= .int i/\y= .int j/\C i j/\Q (g i j) H
def rI0 (g:Int->Int->V):R2:=fun x y H Q=>∃ i j,x= .int i/\y= .int j/\Q (g i j) H
def rU (g:Int->V):V->Hp->VK->Prop:=fun x H Q=>∃ i,x= .int i/\Q (g i) H
section
variable {X:Cx}{a b c:Expr}{ta tb tc:TE}{pos:Pos}
theorem binT (ha:PE X a ta)(hb:PE X b tb){pins:List (Addr×Obj)}{s:Shared}{σ:St}{H:Hp}{R:V->V->Hp->Prop}(I:Inv X pins σ H s)
  (h:ta σ H fun x H1=>tb σ H1 fun y H2=>R x y H2) {Q:Value->Shared->Prop}{f:Value->Value->Sem Value}
  (hf:∀ v u s2 x y H2,Inv X pins σ H2 s2->RelV x v->RelV y u->R x y H2->wpAny (model X.prog X.w) X.A (f v u) Q X.xe s2):
  wpAny (model X.prog X.w) X.A (eval a X.env) (fun v s₁=>wpAny (model X.prog X.w) X.A (eval b X.env) (fun u s₂=>wpAny (model X.prog X.w) X.A (f v u) Q X.xe s₂) X.xe s₁) X.xe s:=by
 refine thn (ha pins s σ H _ I h) fun v s1 ⟨x,H1,I1,r1,q1⟩=>?_
 refine thn (hb pins s1 σ H1 _ I1 q1) fun u s2 ⟨y,H2,I2,r2,q2⟩=>?_
 exact hf v u s2 x y H2 I2 r1 r2 q2
theorem kI {op:Operator}{r:R2}(ho:OpR X (binaryOp op) r)(ha:PE X a ta)(hb:PE X b tb):PE X (.BinOp a op b pos) (tOp r ta tb):=by
 intro pins s σ H Q I h
 exact wpAny_BinOp (binT ha hb I h fun v u s2 x y H2 I2 rx ry q=>ho pins s2 σ H2 x y v u Q I2 rx ry q)
theorem pe_un {op:UnaryOp}{r:V->Hp->VK->Prop}(ho:UnR X (unaryOp op) r)(ha:PE X a ta):PE X (.UnaryOp op a pos) (tUn r ta):=by
 intro pins s σ H Q I h
 exact UnaryOp_ (thn (ha pins s σ H _ I h) fun v s1 ⟨x,H1,I1,r1,q1⟩=>ho pins s1 σ H1 x v Q I1 r1 q1)
theorem opI {f:Value->Value->Sem Value}{C:Int->Int->Prop}{g:Int->Int->Int}
  (rule:∀ (i j:Int) (t u:Tok) (s:Shared) (Q:Value->Shared->Prop) (E:Value->Shared->Prop),C i j->Q (.int (g i j) s.toks) { s with toks:=s.toks+1} ->wpAny (model X.prog X.w) X.A (f (.int i t) (.int j u)) Q E s):
  OpR X f (rI C fun i j=> .int (g i j)):=by
 intro pins s σ H x y v u Q I rx ry h
 obtain⟨i,j,rfl,rfl,hc,q⟩:=h
 obtain⟨t,rfl⟩:=rx
 obtain⟨t',rfl⟩:=ry
 exact rule i j t t' s _ _ hc ⟨.int (g i j),H,I.tok _,⟨_,rfl⟩,q⟩
theorem opI0 {f:Value->Value->Sem Value}{g:Int->Int->Int}
  (rule:∀ (i j:Int) (t u:Tok) (s:Shared) (Q:Value->Shared->Prop) (E:Value->Shared->Prop),Q (.int (g i j) s.toks) { s with toks:=s.toks+1} ->wpAny (model X.prog X.w) X.A (f (.int i t) (.int j u)) Q E s):
  OpR X f (rI0 fun i j=> .int (g i j)):=by
 intro pins s σ H x y v u Q I rx ry h
 obtain⟨i,j,rfl,rfl,q⟩:=h
 obtain⟨t,rfl⟩:=rx
 obtain⟨t',rfl⟩:=ry
 exact rule i j t t' s _ _ ⟨.int (g i j),H,I.tok _,⟨_,rfl⟩,q⟩
theorem opB0 {f:Value->Value->Sem Value}{g:Int->Int->Bool}
  (rule:∀ (i j:Int) (t u:Tok) (s:Shared) (Q:Value->Shared->Prop) (E:Value->Shared->Prop),Q (.bool (g i j)) s->wpAny (model X.prog X.w) X.A (f (.int i t) (.int j u)) Q E s):
  OpR X f (rI0 fun i j=> .bl (g i j)):=by
 intro pins s σ H x y v u Q I rx ry h
 obtain⟨i,j,rfl,rfl,q⟩:=h
 obtain⟨t,rfl⟩:=rx
 obtain⟨t',rfl⟩:=ry
 exact rule i j t t' s _ _ ⟨.bl (g i j),H,I,rfl,q⟩
def CPow (i j:Int):Prop:=0<=j/\j<=1000000/\i.natAbs<2 ^ 64
def CMul (i j:Int):Prop:=(-(2 ^ 64)<i/\i<2 ^ 64)\/(-(2 ^ 64)<j/\j<2 ^ 64)
theorem CMul.ok {i j:Int}(h:CMul i j):IntMulOk i j:=by
 rcases h with ⟨h1,h2⟩ | ⟨h1,h2⟩
 ·exact .of_left (intBits_le_64 h1 h2)
 ·exact .of_right (intBits_le_64 h1 h2)
theorem jH0 (k:Nat):(0:Int)<=2 ^ k:=by
 rw[two_pow_cast]
 exact ff _
theorem kX:OpR X (binaryOp .Add) (rI0 fun i j=> .int (i+j)):=opI0 fun _ _ _ _ _ _ _ q=>add_int q
theorem yH:OpR X (binaryOp .Sub) (rI0 fun i j=> .int (i - j)):=opI0 fun _ _ _ _ _ _ _ q=>sub_int q
theorem jBZ:OpR X (binaryOp .Mult) (rI CMul fun i j=> .int (i*j)):=opI fun _ _ _ _ _ _ _ hc q=>mul_int q hc.ok
theorem jCD:OpR X (binaryOp .Mod) (rI (fun _ j=>0<j) fun i j=> .int (i % j)):=opI fun i j _ _ _ _ _ hc q=>by
 have h1:(0:Int)<j:=hc
 exact mod_int' (by omega) (by rw[Int.fmod_eq_emod_of_nonneg i (by omega)]; exact q)
theorem jEG:OpR X (binaryOp .Pow) (rI CPow fun i j=> .int (i ^ j.toNat)):=opI fun _ _ _ _ _ _ _ hc q=>pow_int_small hc.1 hc.2.1 hc.2.2 q
theorem jNY:OpR X (binaryOp .LShift) (rI CPow fun i j=> .int (i*2 ^ j.toNat)):=opI fun _ _ _ _ _ _ _ hc q=>lshift_int_small hc.1 hc.2.1 hc.2.2 q
theorem jNX:OpR X (binaryOp .RShift) (rI (fun _ j=>0<=j) fun i j=> .int (i / 2 ^ j.toNat)):=opI fun i j _ _ _ _ _ hc q=>
 rshift_int hc (by rw[cr i (jH0 _)]; exact q)
theorem jO2:OpR X (binaryOp .BitAnd) (rI0 fun i j=> .int (Builtin.bitAnd i j)):=opI0 fun _ _ _ _ _ _ _ q=>and_int q
theorem unI {f:Value->Sem Value}{g:Int->Int}
  (rule:∀ (i:Int) (t:Tok) (s:Shared) (Q:Value->Shared->Prop) (E:Value->Shared->Prop),Q (.int (g i) s.toks) { s with toks:=s.toks+1} ->wpAny (model X.prog X.w) X.A (f (.int i t)) Q E s):
  UnR X f (rU fun i=> .int (g i)):=by
 intro pins s σ H x v Q I rx h
 obtain⟨i,rfl,q⟩:=h
 obtain⟨t,rfl⟩:=rx
 exact rule i t s _ _ ⟨.int (g i),H,I.tok _,⟨_,rfl⟩,q⟩
theorem jCY:UnR X (unaryOp .USub) (rU fun i=> .int (-i)):=unI fun _ _ _ _ _ q=>neg_int q
end
noncomputable def scal:V->V->Bool
 | .non, .non=>true | .non, .int _=>true | .int _, .non=>true | .non, .bl _=>true | .bl _, .non=>true | .non, .str _=>true | .str _, .non=>true
 | .int _, .int _=>true | .bl _, .bl _=>true | .str _, .str _=>true | .byt _, .byt _=>true
 | .int _, .str _=>true | .str _, .int _=>true | .bl _, .str _=>true | .str _, .bl _=>true
 | _,_=>false
def rEq:R2:=fun x y H Q=>scal x y=true/\Q (.bl (decide (x=y))) H
def rNe:R2:=fun x y H Q=>scal x y=true/\Q (.bl (!decide (x=y))) H
theorem jJK {i j:Int} :decide (V.int i=V.int j)=(i==j):=by
 rw[bR]
 simp
theorem jLQ {i j:Bool} :decide (V.bl i=V.bl j)=(i==j):=by
 rw[bR]
 simp
theorem jJJ {i j:Str} :decide (V.str i=V.str j)=(i==j):=by
 rw[bR]
 simp
theorem jJL {i j:Array UInt8} :decide (V.byt i=V.byt j)=(i.toList==j.toList):=by
 rw[bR]
 cases i
 cases j
 simp
section
variable {X:Cx}{a b c:Expr}{ta tb tc:TE}{pos:Pos}
theorem jV {pins:List (Addr×Obj)}{σ:St}{H:Hp}{s:Shared}{Q:VK}{k k':Bool}(I:Inv X pins σ H s)(q:Q (.bl k) H)(e:k=k'):EP X pins σ Q (.bool k') s:=by
 subst e
 exact⟨.bl k,H,I,rfl,q⟩
theorem yX:OpR X (compareOp .Eq) rEq:=by
 intro pins s σ H x y v u Q I rx ry h
 obtain⟨hs,q⟩:=h
 cases x with
 | non=>
  cases rx
  cases y with
  | non=>cases ry; exact PySem.EqNone.eq_none_none (jV I q (by simp))
  | bl j=>cases ry; exact PySem.EqNone.eq_none_bool (jV I q (by simp))
  | int j=>obtain⟨t',rfl⟩:=ry; exact PySem.EqNone.eq_none_int (jV I q (by simp))
  | str j=>obtain⟨t',rfl⟩:=ry; exact PySem.EqNone.eq_none_str (jV I q (by simp))
  | _=>exact absurd (show false=true from hs) aq
 | bl i=>
  cases rx
  cases y with
  | non=>cases ry; exact PySem.EqNone.eq_bool_none (jV I q (by simp))
  | bl j=>cases ry; exact eq_bool (jV I q jLQ)
  | str j=>obtain⟨t',rfl⟩:=ry; exact PySem.EqMixed.eq_bool_str (jV I q (by simp))
  | _=>exact absurd (show false=true from hs) aq
 | int i=>
  obtain⟨t,rfl⟩:=rx
  cases y with
  | non=>cases ry; exact PySem.EqNone.eq_int_none (jV I q (by simp))
  | int j=>obtain⟨t',rfl⟩:=ry; exact eq_int (jV I q jJK)
  | str j=>obtain⟨t',rfl⟩:=ry; exact PySem.EqMixed.eq_int_str (jV I q (by simp))
  | _=>exact absurd (show false=true from hs) aq
 | str i=>
  obtain⟨t,rfl⟩:=rx
  cases y with
  | non=>cases ry; exact PySem.EqNone.eq_str_none (jV I q (by simp))
  | bl j=>cases ry; exact PySem.EqMixed.eq_str_bool (jV I q (by simp))
  | int j=>obtain⟨t',rfl⟩:=ry; exact PySem.EqMixed.eq_str_int (jV I q (by simp))
  | str j=>obtain⟨t',rfl⟩:=ry; exact eq_str (jV I q jJJ)
  | _=>exact absurd (show false=true from hs) aq
 | byt i=>
  obtain⟨t,rfl⟩:=rx
  cases y with
  | byt j=>obtain⟨t',rfl⟩:=ry; exact PySem.W.eq_bytes (jV I q jJL)
  | _=>exact absurd (show false=true from hs) aq
 | _=>cases y <;> exact absurd (show false=true from hs) aq
theorem op_ne:OpR X (compareOp .NotEq) rNe:=by
 intro pins s σ H x y v u Q I rx ry h
 obtain⟨hs,q⟩:=h
 cases x with
 | non=>
  cases rx
  cases y with
  | non=>cases ry; exact PySem.EqNone.ne_none_none (jV I q (by simp))
  | bl j=>cases ry; exact PySem.EqNone.ne_none_bool (jV I q (by simp))
  | int j=>obtain⟨t',rfl⟩:=ry; exact PySem.EqNone.ne_none_int (jV I q (by simp))
  | str j=>obtain⟨t',rfl⟩:=ry; exact PySem.EqNone.ne_none_str (jV I q (by simp))
  | _=>exact absurd (show false=true from hs) aq
 | bl i=>
  cases rx
  cases y with
  | non=>cases ry; exact PySem.EqNone.ne_bool_none (jV I q (by simp))
  | bl j=>cases ry; exact ne_bool (jV I q (bo not jLQ))
  | str j=>obtain⟨t',rfl⟩:=ry; exact PySem.EqMixed.ne_bool_str (jV I q (by simp))
  | _=>exact absurd (show false=true from hs) aq
 | int i=>
  obtain⟨t,rfl⟩:=rx
  cases y with
  | non=>cases ry; exact PySem.EqNone.ne_int_none (jV I q (by simp))
  | int j=>obtain⟨t',rfl⟩:=ry; exact ne_int (jV I q (bo not jJK))
  | str j=>obtain⟨t',rfl⟩:=ry; exact PySem.EqMixed.ne_int_str (jV I q (by simp))
  | _=>exact absurd (show false=true from hs) aq
 | str i=>
  obtain⟨t,rfl⟩:=rx
  cases y with
  | non=>cases ry; exact PySem.EqNone.ne_str_none (jV I q (by simp))
  | bl j=>cases ry; exact PySem.EqMixed.ne_str_bool (jV I q (by simp))
  | int j=>obtain⟨t',rfl⟩:=ry; exact PySem.EqMixed.ne_str_int (jV I q (by simp))
  | str j=>obtain⟨t',rfl⟩:=ry; exact ne_str (jV I q (bo not jJJ))
  | _=>exact absurd (show false=true from hs) aq
 | byt i=>
  obtain⟨t,rfl⟩:=rx
  cases y with
  | byt j=>obtain⟨t',rfl⟩:=ry; exact PySem.W.ne_bytes (jV I q (bo not jJL))
  | _=>exact absurd (show false=true from hs) aq
 | _=>cases y <;> exact absurd (show false=true from hs) aq
theorem op_lt:OpR X (compareOp .Lt) (rI0 fun i j=> .bl (decide (i<j))):=opB0 fun _ _ _ _ _ _ _ q=>lt_int q
theorem op_le:OpR X (compareOp .LtE) (rI0 fun i j=> .bl (decide (i<=j))):=opB0 fun _ _ _ _ _ _ _ q=>le_int q
theorem op_gt:OpR X (compareOp .Gt) (rI0 fun i j=> .bl (decide (j<i))):=opB0 fun _ _ _ _ _ _ _ q=>gt_int q
theorem op_ge:OpR X (compareOp .GtE) (rI0 fun i j=> .bl (decide (j<=i))):=opB0 fun _ _ _ _ _ _ _ q=>ge_int q
theorem jO0:OpR X (compareOp .Is) (fun x y H Q=>y= .non/\Q (.bl (decide (x= .non))) H):=by
 intro pins s σ H x y v u Q I rx ry h
 obtain⟨rfl,q⟩:=h
 cases ry
 refine is_none_gen (jV I q ?_)
 cases x <;> first
  | (cases rx; rfl)
  | (obtain⟨t,rfl⟩:=rx; rfl)
theorem jMO:OpR X (compareOp .IsNot) (fun x y H Q=>y= .non/\Q (.bl (!decide (x= .non))) H):=by
 intro pins s σ H x y v u Q I rx ry h
 obtain⟨rfl,q⟩:=h
 cases ry
 refine isnot_none_gen (jV I q ?_)
 cases x <;> first
  | (cases rx; rfl)
  | (obtain⟨t,rfl⟩:=rx; rfl)
theorem jO (b:Expr){op:CmpOp}(h:op≠ .In:=by decide)(h2:op≠ .NotIn:=by decide):behindInMarks op b=false:=by
 have e1:(op==CmpOp.In)=false:=by cases op <;> first | rfl | exact absurd rfl h
 have e2:(op==CmpOp.NotIn)=false:=by cases op <;> first | rfl | exact absurd rfl h2
 cases b <;> simp [behindInMarks,e1,e2]
theorem jMK {op:CmpOp}{r:R2}(ho:OpR X (compareOp op) r)(ha:PE X a ta)(hb:PE X b tb)(hm:behindInMarks op b=false):PE X (.Compare a [op] [b] pos) (tOp r ta tb):=by
 intro pins s σ H Q I h
 exact wpAny_Compare1 (binT ha hb I h fun v u s2 x y H2 I2 rx ry q=>ho pins s2 σ H2 x y v u Q I2 rx ry q) hm
def tTest (t:TE):TT:=fun σ H Q=>t σ H fun x H'=>∃ k,x= .bl k/\Q k H'
theorem jCC {op:CmpOp}{r:R2}(ho:OpR X (compareOp op) r)(ha:PE X a ta)(hb:PE X b tb)(hm:behindInMarks op b=false):PT X (.Compare a [op] [b] pos) (tTest (tOp r ta tb)):=by
 intro pins s σ H Q I h
 refine wpAny_isTrue_Compare1 (thn (ha pins s σ H _ I h) fun v s1 ⟨x,H1,I1,r1,q1⟩=>thn (hb pins s1 σ H1 _ I1 q1) fun u s2 ⟨y,H2,I2,r2,q2⟩=>
  thn (ho pins s2 σ H2 x y v u _ I2 r1 r2 q2) fun c s3 ⟨z,H3,I3,r3,k,e,q3⟩=>?_) hm
 subst e
 cases r3
 exact cM ⟨H3,I3,q3⟩
theorem jEI:(sizeLine:Nat)<2 ^ 63:=by rw[cY]; decide
theorem vals1 {x:V}{us:List Value}(r:Vals [x] us):∃ u,us=[u]/\RelV x u:=by
 cases r with
 | cons r1 r2=>cases r2; exact⟨_,rfl,r1⟩
theorem jGW:kZ X (.builtin "abs") (fun xs H Q=>∃ i,xs=[.int i]/\Q (.int (if i<0 then -i else i)) H):=by
 intro pins s σ H xs us Q I r h
 obtain⟨i,rfl,q⟩:=h
 obtain⟨u,rfl,t,rfl⟩:=vals1 r
 exact call_abs_int fun u tk=>⟨.int (if i<0 then -i else i),H,I.tok _,⟨_,rfl⟩,q⟩
theorem jEW:kZ X (.type "int") (fun xs H Q=>(∃ i,xs=[.int i]/\Q (.int i) H)\/∃ k,xs=[.bl k]/\Q (.int (if k then 1 else 0)) H):=by
 intro pins s σ H xs us Q I r h
 rcases h with ⟨i,rfl,q⟩ | ⟨k,rfl,q⟩
 ·obtain⟨u,rfl,t,rfl⟩:=vals1 r
  exact call_int_int ⟨.int i,H,I,⟨_,rfl⟩,q⟩
 ·obtain⟨u,rfl,r1⟩:=vals1 r
  cases r1
  exact call_int_bool ⟨.int (if k then 1 else 0),H,I.tok _,⟨_,rfl⟩,q⟩
theorem jHI:kZ X (.type "bool") (fun xs H Q=>(∃ i,xs=[.int i]/\Q (.bl (i != 0)) H)\/∃ k,xs=[.bl k]/\Q (.bl k) H):=by
 intro pins s σ H xs us Q I r h
 rcases h with ⟨i,rfl,q⟩ | ⟨k,rfl,q⟩
 ·obtain⟨u,rfl,t,rfl⟩:=vals1 r
  exact call_bool_int ⟨.bl (i != 0),H,I,rfl,q⟩
 ·obtain⟨u,rfl,r1⟩:=vals1 r
  cases r1
  exact call_bool_bool ⟨.bl k,H,I,rfl,q⟩
end
end L2
namespace L2
open PySem PySem.Spec PyProof.Rows
structure ObjM (h:Heap)(x dx C:Addr)(mA:Str->Option Value):Prop where
 obj:h.get? x=some (instObj C dx)
 ns:h.Ns1 dx mA
 ne:dx≠x
theorem jIX {h:Heap}{dx:Addr}{mA:Str->Option Value}(n:h.Ns1 dx mA):∃ od,h.get? dx=some od/\∀ name,lookIn name od=some (mA name):=by
 obtain⟨o,es,ep,ho,hd,hk,_,hm⟩:=n
 refine⟨o,ho,fun name=>?_⟩
 have e:=hm name
 unfold nsFind findBy at e
 rw[<- Array.find?_toList] at e
 unfold lookIn
 rw[hd]
 dsimp only
 split
 ·rename_i y q
  rw[q] at e
  exact bo some e
 ·rename_i q
  rw[q] at e
  have a:es.toList.any (·.refKey)=false:=by
   rw[List.any_eq_false]
   intro y hy
   obtain⟨z,t,hkey⟩:=hk y (Array.mem_toList_iff.mp hy)
   simp [DictEntry.refKey,hkey]
  have a':¬ es.toList.any (·.refKey)=true:=by rw[a]; exact aq
  rw[am a']
  exact bo some e
theorem ObjM.look {h:Heap}{x dx C:Addr}{mA:Str->Option Value}(I:ObjM h x dx C mA):∃ od,PySem.W.InstAt h x (instObj C dx) C (some od)/\∀ name,lookIn name od=some (mA name):=
 let ⟨od,ho,hl⟩:=jIX I.ns
 ⟨od,⟨I.obj,rfl,rfl,ho⟩,hl⟩
section
variable {prog:Program}{w:World}{A:Around}{E:Value->Shared->Prop}{s:Shared}{K:W.Frag}{x dx C f:Addr}{mA:Str->Option Value}{name:Str}{v:Value}
end
section
variable {P:Program}{w:World}{H H':Hp}{h h':Heap}{a C dx:Addr}{fs fs':List (Str×V)}
theorem jN3 (hok:HOk P w H h)(e:H a=some (.ins C dx fs)):∃ mA,ObjM h a dx C mA/\(∀ f,RelO (fs.lookup f) (mA f))/\PySem.Within mA (fs.map (·.1))/\fs.length<=1000/\H dx=some (.own a):=by
 obtain⟨d,z,ne,ob,mA,n,r,q⟩:=(show ObjOk P w H h a (.ins C dx fs) from hok a _ e)
 exact⟨mA,⟨ob,n,ne⟩,r,q,z,d⟩
end
structure Cls (K:W.Frag)(C:Addr):Prop where
 pg:plainGet K C Str.empty=true
 hd:PySem.W.hasDictIn K C=true
 po:PySem.W.plainOver K C=true
 sa:findIn K (.ref C) "__setattr__" =some (some (.builtin "object.__setattr__"))
theorem Cls.get {K:W.Frag}{C:Addr}(c:Cls K C)(f:Str):plainGet K C f=true:=c.pg
section
variable {X:Cx}{pins:List (Addr×Obj)}{σ:St}{H:Hp}{s:Shared}{a C dx:Addr}{fs:List (Str×V)}{f:Str}{v:V}{A:Around}{E:Value->Shared->Prop}
end
section
variable {X:Cx}{o e value:Expr}{f:Str}{pos pos' tpos:Pos}{ta tv:TE}
end
section
variable {X:Cx}{pins:List (Addr×Obj)}{σ:St}{H:Hp}{s:Shared}{A:Around}{E:Value->Shared->Prop}{Q:Value->Shared->Prop}{c:Value}{b:Bool}
inductive TyOf (K:W.Frag) (H:Hp):V->Value->Prop where
 | non:TyOf K H .non (.type "NoneType")
 | bl (x:Bool):TyOf K H (.bl x) (.type "bool")
 | int (i:Int):TyOf K H (.int i) (.type "int")
 | str (x:Str):TyOf K H (.str x) (.type "str")
 | flt (x:UInt64):TyOf K H (.flt x) (.type "float")
 | lst {a:Addr}{xs:List V}(e:H a=some (.lst xs)):TyOf K H (.ref a) (.type "list")
 | frz {a:Addr}{o:Obj}{xs:List V}(e:H a=some (.frz o (.lst xs))):TyOf K H (.ref a) (.type "list")
 | tup {a:Addr}{xs:List V}(e:H a=some (.tup xs)):TyOf K H (.ref a) (.type "tuple")
 | dK {a:Addr}{kvs:List (Key×V)}(e:H a=some (.dK kvs)):TyOf K H (.ref a) (.type "dict")
 | dT {a:Addr}{kvs:List (List Key×V)}(e:H a=some (.dT kvs)):TyOf K H (.ref a) (.type "dict")
 | ins {a C dx:Addr}{fs:List (Str×V)}(e:H a=some (.ins C dx fs)) (cl:Cls K C) (ha:findIn K (.ref C) "__class__" =some (some (.builtin "object.__class__")))
   (hn:PySem.W.specialIn K (.builtin "object.__class__") "__get__" =some (some (.builtin "getset_descriptor.__get__"))) (htk:PySem.W.takesIn K (.builtin "object.__class__")=some true)
   (hm:mroIn K C (.type "object")=some true):TyOf K H (.ref a) (.ref C)
theorem jJ9 {x:V}{u t:Value}(I:Inv X pins σ H s)(rx:RelV x u)(ty:TyOf X.K H x t)(e:kitOne X.K t c=some b)(h:∀ tk,Q (.bool b) { s with toks:=tk}):
  wpAny (model X.prog X.w) A (call (.builtin "isinstance") [u,c]) Q E s:=by
 cases ty with
 | non=>cases (show u=Value.none from rx); exact bj PySem.W.kitx_none I.kIn True.intro e (fun z=>nomatch z) h
 | bl y=>cases (show u=Value.bool y from rx); exact bj PySem.W.kitx_bool I.kIn True.intro e (fun z=>nomatch z) h
 | int i=>obtain⟨t,q⟩:=(show ∃ t,u=Value.int i t from rx); cases q; exact bj PySem.W.kitx_int I.kIn True.intro e (fun z=>nomatch z) h
 | str y=>obtain⟨t,q⟩:=(show ∃ t,u=Value.str y t from rx); cases q; exact bj PySem.W.kitx_str I.kIn True.intro e (fun z=>nomatch z) h
 | flt y=>obtain⟨t,q⟩:=(show ∃ t,u=Value.float y t from rx); cases q; exact bj PySem.W.kitx_float I.kIn True.intro e (fun z=>nomatch z) h
 | @lst a xs ea=>
  cases (show u=Value.ref a from rx)
  obtain⟨_,_,n,_,h1⟩:=(show ObjOk X.prog X.w H s.heap a (.lst xs) from I.hok a _ ea)
  exact bj kitx_list I.kIn ⟨_,h1,rfl⟩ e (fun z=>nomatch z) h
 | @frz a ob xs ea=>
  cases (show u=Value.ref a from rx)
  obtain⟨_,_,_,n,_,h1⟩:=(show ObjOk X.prog X.w H s.heap a (.frz ob (.lst xs)) from I.hok a _ ea)
  exact bj kitx_list I.kIn ⟨_,h1,rfl⟩ e (fun z=>nomatch z) h
 | @tup a xs ea=>
  cases (show u=Value.ref a from rx)
  obtain⟨_,_,_,p⟩:=(show ObjOk X.prog X.w H s.heap a (.tup xs) from I.hok a _ ea)
  obtain⟨o,h1,h2,_⟩:=p.isTup
  exact bj PySem.W.kitx_tuple I.kIn ⟨o,h1,h2⟩ e (fun z=>nomatch z) h
 | @dK a kvs ea=>
  cases (show u=Value.ref a from rx)
  obtain⟨_,_,vs,_,p⟩:=(show ObjOk X.prog X.w H s.heap a (.dK kvs) from I.hok a _ ea)
  obtain⟨o,es,ep,h1,h2,_⟩:=p
  exact bj kitx_dict I.kIn ⟨o,h1,h2.1⟩ e (fun z=>nomatch z) h
 | @dT a kvs ea=>
  cases (show u=Value.ref a from rx)
  obtain⟨_,_,xs,_,o,es,ep,h1,h2,_⟩:=(show ObjOk X.prog X.w H s.heap a (.dT kvs) from I.hok a _ ea)
  exact bj kitx_dict I.kIn ⟨o,h1,h2.1⟩ e (fun z=>nomatch z) h
 | @ins a C dx fs ea cl ha hn htk hm=>
  cases (show u=Value.ref a from rx)
  obtain⟨mA,O,_⟩:=jN3 I.hok ea
  obtain⟨od,J,_⟩:=O.look
  exact bj (PySem.W.kitx_own (cl.get _) cl.hd ha hn htk hm) I.kIn J e (fun z=>nomatch z) h
end
end L2
namespace L2
open PySem PySem.Spec PyProof.Rows
structure Room (k:Nat)(A:Around):Prop where
 hd:A.handled=none
 dp:A.depth+3*k+5<recursionLimit
 un:A.units+16*k+200<cLine
theorem Room.mono {j k:Nat}{A:Around}(r:Room k A)(h:j<=k):Room j A:=⟨r.hd,by have:=r.dp; omega,by have:=r.un; omega⟩
theorem Room.deeper {k:Nat}{A:Around}(r:Room (k+1) A)(env:Env):Room k (A.deeper env):=
 ⟨r.hd,by have:=r.dp; show A.depth+1+3*k+5<_; omega,by have:=r.un; show A.units+3+16*k+200<_; omega⟩
theorem Room.depth {k:Nat}{A:Around}(r:Room k A):A.depth<recursionLimit:=by have:=r.dp; omega
theorem Room.units0 {k:Nat}{A:Around}(r:Room k A):A.units<cLine:=by have:=r.un; omega
def tNil:TA:=fun _ H Q=>Q [] H
def tCons (ta:TE)(tr:TA):TA:=fun σ H Q=>ta σ H fun x H1=>tr σ H1 fun xs H2=>Q (x::xs) H2
section
variable {X:Cx}{e:Expr}{es:List Expr}{te:TE}{t:TA}{pos:Pos}
theorem y8:PA X [] tNil:=fun _ _ _ _ H Q I h=>Calls.spliced_nil ⟨[],H,I, .nil,h⟩
theorem jW (ha:PE X e te)(hr:PA X es t)(hs:starEach (e::es) X.env=(false,eval e X.env)::starEach es X.env:=by rfl):PA X (e::es) (tCons te t):=by
 intro pos pins s σ H Q I h
 rw[hs]
 show wpAny _ _ (spliced ((false,eval e X.env)::backTo pos (starEach es X.env))) _ _ s
 refine Calls.spliced_cons (thn (ha pins s σ H _ I h) fun u s1 ⟨x,H1,I1,r1,q1⟩=>?_)
 exact thn (hr pos pins s1 σ H1 _ I1 q1) fun us s2 ⟨xs,H2,I2,r2,q2⟩=>⟨x::xs,H2,I2, .cons r1 r2,q2⟩
def tTup (t:TA):TE:=fun σ H Q=>t σ H fun xs H1=>xs.length<=sizeLine/\∀ p,H1 p=none->Q (.ref p) (upd H1 p (.tup xs))
def tLst (t:TA):TE:=fun σ H Q=>t σ H fun xs H1=>xs.length<=sizeLine/\∀ p,H1 p=none->Q (.ref p) (upd H1 p (.lst xs))
theorem jNQ {x1}(h:PA X es t):PE X (.Tuple es x1 pos) (tTup t):=by
 intro pins s σ H Q I hq
 refine wpAny_Tuple_spliced (thn (h pos pins s σ H _ I hq) fun us s1 ⟨xs,H1,I1,r,z,q⟩=>⟨by rw[<- r.length]; exact z,?_⟩)
 have hf:H1 s1.heap.objs.size=none:=I1.hok.fresh (af _)
 refine⟨.ref s1.heap.objs.size,upd H1 s1.heap.objs.size (.tup xs),I1.laid (t':=s1.toks) (fun b u e=>ac _ e) (af _) ?_,rfl,q _ hf⟩
 exact⟨z,us,r,TupO.new _ _⟩
theorem jG7 (h:PA X es t):PE X (.List es pos) (tLst t):=by
 intro pins s σ H Q I hq
 refine wpAny_List_spliced (thn (h pos pins s σ H _ I hq) fun us s1 ⟨xs,H1,I1,r,z,q⟩=>⟨by rw[<- r.length]; exact z,?_⟩)
 have hf:H1 s1.heap.objs.size=none:=I1.hok.fresh (af _)
 refine⟨.ref s1.heap.objs.size,upd H1 s1.heap.objs.size (.lst xs),I1.laid (t':=s1.toks) (fun b u e=>ac _ e) (af _) ?_,rfl,q _ hf⟩
 exact⟨z,us,0,r,ak _ rfl⟩
end
abbrev Sp:=List V->Hp->VK->XK->Prop
abbrev CXT:=List Env->Hp->Shared->XK->Value->Shared->Prop
structure Env0 (P:Program)(w:World)(K:W.Frag)(mg:Str->Option Value)(base:Heap)(A:Around)(outer:List Env)(s:Shared)(H:Hp):Prop where
 frames:A.frames=some outer
 mod:Mod K mg base
 bs:∀ b o,base.get? b=some o->s.heap.get? b=some o/\H b=none
 bsz:base.objs.size<=s.heap.objs.size
 funs:s.heap.FunFrames base outer
 frf:∀ b∈frs outer,H b=none
 hok:HOk P w H s.heap
 bare:AllBare s.gens
def CE (outer:List Env)(P:Program)(w:World)(H:Hp)(s:Shared)(Q:VK)(u:Value)(s':Shared):Prop:=
 ∃ v H',s'.os=s.os/\AllBare s'.gens/\Un (frs outer) [] H H' s.heap s'.heap/\HOk P w H' s'.heap/\RelV v u/\Q v H'
def CR (CX:CXT)(outer:List Env)(P:Program)(w:World)(H:Hp)(s:Shared)(Q:VK)(E:XK)(r:Result)(s':Shared):Prop:=
 match r with
 | .ok (.ret u)=>CE outer P w H s Q u s'
 | .ok _=>False
 | .error e=>CX outer H s E e s'
structure FnOk (P:Program)(w:World)(K:W.Frag)(mg:Str->Option Value)(base:Heap)(CX:CXT)(k:Nat)(f:Addr)(fd:FuncData)(ps:List Str)(sp:Sp):Prop where
 len:∀ vs H Q E,sp vs H Q E->vs.length=ps.length
 run:∀ (A:Around) (outer:List Env) (s:Shared) (H:Hp) (args:Args) (us:List Value) (vs:List V) (Q:VK) (E:XK),Room k A->Env0 P w K mg base A outer s H->BindsTo s fd args (ps.zip us)->Vals vs us->sp vs H Q E->
  codeAny (model P w) A (.call (.ref f) args) (CR CX outer P w H s Q E) s
section
variable {X:Cx}{pins:List (Addr×Obj)}{σ:St}{H:Hp}{s s':Shared}
theorem Inv.env0 (I:Inv X pins σ H s):Env0 X.prog X.w X.K X.mg X.base X.A X.stack s H:=
 ⟨I.ok.frames,I.ok.mod,I.bs,aZ I.ok.bsz I.sz,I.stack,I.stkFree,I.hok,I.bare⟩
theorem Inv.after {Q:VK}{u:Value}(I:Inv X pins σ H s)(h:CE X.stack X.prog X.w H s Q u s'):EP X pins σ Q u s':=by
 obtain⟨v,H',os,bare,un,hok,r,q⟩:=h
 obtain⟨hh,g,d,t,os'⟩:=s'
 obtain rfl:os'=s.os:=os
 exact⟨v,H',I.call (h':=hh) (g':=g) (d':=d) (t':=t) (ch:=[]) un hok bare (fun b z=>absurd z (by simp)),r,q⟩
end
def tCall (sp:Sp)(dvs:List V)(E:XK)(t:TA):TE:=fun σ H Q=>t σ H fun vs H1=>sp (vs++dvs) H1 Q E
def Binds (K:W.Frag)(fd:FuncData)(ps:List Str)(ds:List Value):Prop:=
 ∀ (s:Shared) (us:List Value),K.In s.heap->(us++ds).length=ps.length->BindsTo s fd ⟨us,[]⟩ (ps.zip (us++ds))
theorem Binds.all {K:W.Frag}{fd:FuncData}{ps:List Str}(h:∀ us:List Value,us.length=ps.length->bindArgs fd ⟨us,[]⟩=pure (ps.zip us)):Binds K fd ps []:=fun s us _ hl=>by
 rw[dg] at hl ⊢
 exact .of_eq (h us hl)
def jK7 (CX:CXT)(X:Cx)(E:XK):Prop:=∀ (pins:List (Addr×Obj)) (σ:St) (H:Hp) (s:Shared) (e:Value) (s':Shared),Inv X pins σ H s->CX X.stack H s E e s'->X.xe e s'
section
variable {X:Cx}{CX:CXT}{k:Nat}{f C:Addr}{fd:FuncData}{ps:List Str}{sp:Sp}{dvs:List V}{ds:List Value}{E:XK}{x m:Str}{p pos apos:Pos}{e o:Expr}{es:List Expr}{ta:TE}{t:TA}
theorem jNH {pins:List (Addr×Obj)}{σ:St}{H:Hp}{s:Shared}{Q:VK}{us:List Value}{vs:List V}(F:FnOk X.prog X.w X.K X.mg X.base CX k f fd ps sp)(hr:Room k X.A)(hb:Binds X.K fd ps ds)(hd:Vals dvs ds)(hx:jK7 CX X E)
  (I:Inv X pins σ H s) (r:Vals vs us) (h:sp (vs++dvs) H Q E):wpAny (model X.prog X.w) X.A (call (.ref f) us) (EP X pins σ Q) X.xe s:=by
 have r2:Vals (vs++dvs) (us++ds):=r.append hd
 have hl:(us++ds).length=ps.length:=by rw[<- r2.length]; exact F.len _ _ _ _ h
 refine wpAny_call (dn (F.run X.A X.stack s H ⟨us,[]⟩ (us++ds) (vs++dvs) Q E hr I.env0 (hb s us I.kIn hl) r2 h) fun r s' hq=>?_)
 cases r with
 | error e=>exact hx pins σ H s e s' I hq
 | ok fl=>
  cases fl with
  | ret u=>exact I.after hq
  | next=>exact False.elim hq
  | brk=>exact False.elim hq
  | cont=>exact False.elim hq
theorem jML (F:FnOk X.prog X.w X.K X.mg X.base CX k f fd ps sp)(hr:Room k X.A)(hg:Gl X x)(hm:X.mg x=some (.ref f))(hk:keepIn X.K (.ref f)=true)(hb:Binds X.K fd ps ds)(hd:Vals dvs ds)(hx:jK7 CX X E)
  (ha:PA X (e::es) t) (hdb:(x==("__debug__" :Str))=false:=by decide) (he:starEach (e::es) X.env=(false,eval e X.env)::starEach es X.env:=by rfl) (hpl:(backTo pos (starEach es X.env)).any (·.1)=false:=by rfl):
  PE X (.Call (.Name x p) (e::es) [] pos) (tCall sp dvs E t):=by
 intro pins s σ H Q I h
 refine dz (jN0 I hg hm ?_ hdb)
 refine PySem.W.callWith_K (h₀:=X.base) I.ok.mod.kin hk (thn (ha pos pins s σ H _ I h) fun us s1 ⟨vs,H1,I1,r,q⟩=>⟨I1.kIn,?_⟩) he hpl
 exact jNH F hr hb hd hx I1 r q
end
section
variable {X:Cx}{CX:CXT}{k:Nat}{f C:Addr}{fd:FuncData}{ps ks:List Str}{sp:Sp}{E:XK}{x m:Str}{p pos apos kpos:Pos}{e o:Expr}{es:List Expr}{kws:List Keyword}{te ta:TE}{t tk:TA}{nm:Option Str}
variable {g:List Value->List Value->List Value}{gV:List V->List V->List V}
end
structure FnScope (N P:List Str)(sc:Scope):Prop where
 kind:sc.kind= .function
 co:sc.isCoroutine=false
 gen:sc.isGenerator=false
 nd:N.Nodup
 pre:N.take P.length=P
 par:∀ x∈P,sc.names.lookup x=some .local\/sc.names.lookup x=some .cell
 nofree:∀ y∈sc.names,y.2≠ .free
theorem jF2 {kindOf:Str->Option NameKind}{x:Str} :∀ {binds:List (Str×Value)}{m:Str->Option Value},(∀ v,(x,v)∉binds)->bindL kindOf binds m x=m x
 | [],_,_=>rfl
 | (n,v)::r,m,h=>by
  unfold bindL
  rw[jF2 fun w hw=>h w (aA _ hw)]
  split
  ·have:x≠n:=by rintro rfl; exact h v aE
   simp [this]
  ·rfl
theorem jF4 {kindOf:Str->Option NameKind}{x:Str} :∀ {binds:List (Str×Value)}{m:Str->Option Value},(∀ v,(x,v)∉binds)->bindC kindOf binds m x=m x
 | [],_,_=>rfl
 | (n,v)::r,m,h=>by
  unfold bindC
  rw[jF4 fun w hw=>h w (aA _ hw)]
  split
  ·rfl
  ·have:x≠n:=by rintro rfl; exact h v aE
   simp [this]
theorem jF3 {kindOf:Str->Option NameKind}{x:Str}{v:Value} :∀ {P:List Str}{vs:List Value}{i:Nat}{m:Str->Option Value},P.Nodup->P[i]?=some x->vs[i]?=some v->kindOf x=some .local->
  bindL kindOf (P.zip vs) m x=some v
 | [],_,_,_,_,h,_,_=>by simp at h
 | _::_,[],_,_,_,_,h,_=>by simp at h
 | p::P,w::vs,0,m,nd,h1,h2,hk=>by
  simp at h1 h2; subst h1; subst h2
  show bindL kindOf ((p,w)::P.zip vs) m p=_
  unfold bindL
  rw[jF2 fun v hv=>(cF.mp nd).1 (eC hv).1,ah hk]
  simp
 | p::P,w::vs,i+1,m,nd,h1,h2,hk=>by
  show bindL kindOf ((p,w)::P.zip vs) m x=_
  unfold bindL
  exact jF3 (i:=i) (cF.mp nd).2 (by simpa using h1) (by simpa using h2) hk
theorem jF5 {kindOf:Str->Option NameKind}{x:Str}{v:Value} :∀ {P:List Str}{vs:List Value}{i:Nat}{m:Str->Option Value},P.Nodup->P[i]?=some x->vs[i]?=some v->kindOf x≠some .local->
  bindC kindOf (P.zip vs) m x=some v
 | [],_,_,_,_,h,_,_=>by simp at h
 | _::_,[],_,_,_,_,h,_=>by simp at h
 | p::P,w::vs,0,m,nd,h1,h2,hk=>by
  simp at h1 h2; subst h1; subst h2
  show bindC kindOf ((p,w)::P.zip vs) m p=_
  unfold bindC
  rw[jF4 fun v hv=>(cF.mp nd).1 (eC hv).1,am hk]
  simp
 | p::P,w::vs,i+1,m,nd,h1,h2,hk=>by
  show bindC kindOf ((p,w)::P.zip vs) m x=_
  unfold bindC
  exact jF5 (i:=i) (cF.mp nd).2 (by simpa using h1) (by simpa using h2) hk
def yJ (N:List Str)(vs:List V):St:=vs.map some++replicate (N.length - vs.length) none
def cxOf (CX:CXT)(P:Program)(w:World)(K:W.Frag)(mg:Str->Option Value)(base:Heap)(N:List Str)(qual:Str)(scope:Scope)(f:Addr)(cd:Value)(A:Around)(outer:List Env)(s:Shared)(H:Hp)(E:XK):Cx where
 prog:=P
 w:=w
 K:=K
 mg:=mg
 base:=base
 A:=A.deeper (envOfC qual scope s.heap.objs.size f cd)
 N:=N
 s₀:=s
 H₀:=H
 env:=envOfC qual scope s.heap.objs.size f cd
 outer:=outer
 stack:=envOfC qual scope s.heap.objs.size f cd::outer
 ex:=[]
 calm:=true
 fn:=fun _=>true
 pn:=[]
 xe:=fun e s'=>wpAny (model P w) (A.deeper (envOfC qual scope s.heap.objs.size f cd)) (leaving (envOfC qual scope s.heap.objs.size f cd) e) (fun _ s''=>CX outer H s E e s'') (fun e' s''=>CX outer H s E e' s'') s'
theorem jGV {sc:Scope}{n:Nat}{x:Str}(h:sc.names.lookup x=some .cell):∃ c,(cellsFrom n sc.names []).lookup x=some c:=by
 have q:=eh sc.names n [] (.inl h)
 exact Option.isSome_iff_exists.mp q
theorem jJA {CX:CXT}{P:Program}{w:World}{K:W.Frag}{mg:Str->Option Value}{base:Heap}{N ps:List Str}{qual:Str}{scope:Scope}{f:Addr}{cd:Value}{A:Around}{outer:List Env}{s s1:Shared}{H:Hp}{E:XK}{us:List Value}{vs:List V}
  (S:FnScope N ps scope) (hd:A.handled=none) (e0:Env0 P w K mg base A outer s H) (hl:vs.length=ps.length) (r:Vals vs us)
  (x:InCallC s s.heap.objs.size (bindL (envOfC qual scope s.heap.objs.size f cd).kindOf (ps.zip us) fun _=>none) (cellsFrom (s.heap.objs.size+1) scope.names []) (bindC (envOfC qual scope s.heap.objs.size f cd).kindOf (ps.zip us) fun _=>none) s1):
  Inv (cxOf CX P w K mg base N qual scope f cd A outer s H E) [] (yJ N vs) H s1:=by
 have hpl:ps.length<=N.length:=by have:=bo List.length S.pre; rw[bI] at this; omega
 obtain⟨h1,tk,rfl,hk⟩:=x.done
 have noA:∀ b:Addr,b∉(cxOf CX P w K mg base N qual scope f cd A outer s H E).ex:=fun b z=>absurd (show b∈([]:List Addr) from z) (by simp)
 refine⟨⟨e0.mod,S.kind,rfl,rfl,af _,fun y z c h1 h2=>?_,fun y hy=>?_,fun y c _ h=>?_,fun _=>hd,Around.frames_deeper e0.frames, .inr ⟨rfl,rfl⟩,fun b z=>absurd z (noA b),e0.bs,e0.bsz,fun b _ _=>noA b,fun b z=>absurd z (noA b),e0.funs,e0.frf⟩,
  rfl,e0.bare,Un.kept hk,⟨_,x.toInCall.ns,fun i y v h1 h2 h3=>?_⟩,fun y c h=>⟨_,x.cell y c h⟩,e0.hok.fresh (af _),fun y c h=>?_,fun p hp=>absurd (show p∈([]:List (Addr×Obj)) from hp) (by simp),e0.hok.kept hk,?_⟩
 ·exact name_of_addr x.apart (bX h1) (bX h2)
 ·have hy:scope.names.lookup y=some .cell\/scope.names.lookup y=some .free:=hy
  rcases hy with hy | hy
  ·exact jGV hy
  ·exact absurd rfl (S.nofree _ (bX hy))
 ·exact cw (x.above y c (bX h))
 ·have hi:i<vs.length:=by
   unfold yJ at h2
   by_cases hi:i<vs.length
   ·exact hi
   ·rw[cv (by simpa using hi)] at h2
    rw[List.getElem?_replicate] at h2
    split at h2 <;> cases h2
  have ha:vs[i]?=some v:=by
   unfold yJ at h2
   rw[cB (by simpa using hi),ay] at h2
   cases e:vs[i]? with
   | none=>rw[e] at h2; cases h2
   | some a=>rw[e] at h2; cases h2; rfl
  obtain⟨u,hu,rv⟩:=r.get ha
  have hp:ps[i]?=some y:=by
   rw[<- S.pre,List.getElem?_take_of_lt (by omega)]; exact h1
  have ndP:ps.Nodup:=by rw[<- S.pre]; exact S.nd.sublist (dI _ _)
  refine⟨u,rv,?_⟩
  rcases S.par y (bh hp) with k | k
  ·exact .inl ⟨k,jF3 ndP hp hu k⟩
  ·obtain⟨c,e⟩:=jGV (n:=s.heap.objs.size+1) k
   refine .inr ⟨.inl k,c,e,?_⟩
   have q:=x.cell y c e
   rw[jF5 ndP hp hu (by show scope.names.lookup y≠_; rw[k]; decide)] at q
   exact q
 ·exact e0.hok.fresh (cw (x.above y c (bX h)))
 ·unfold yJ
  show _=N.length
  rw[aJ,ab,eH]
  omega
theorem fn_of {CX:CXT}{P:Program}{w:World}{K:W.Frag}{mg:Str->Option Value}{base:Heap}{k:Nat}{f:Addr}{name qual:Str}{params:Arguments}{body:List Stmt}{scope:Scope}{dV kV doc pm cdv ct oc:Value}{an od:Option Addr}
  {osl:Array (Option Value)}{N ps:List Str}{sp:Sp}(lk:K.lookup f=some ⟨oc,od, .func (PySem.W.fnOf name qual params body scope dV kV doc pm an cdv ct),osl⟩) (hcd:PySem.W.codeIn K cdv qual=true) (S:FnScope N ps scope)
  (len:∀ vs H Q E,sp vs H Q E->vs.length=ps.length)
  (hbody:∀ (A:Around) (outer:List Env) (s:Shared) (H:Hp) (vs:List V) (Q:VK) (E:XK),Room k (A.deeper (envOfC qual scope s.heap.objs.size f cdv))->sp vs H Q E->
   ∃ t,PSs (cxOf CX P w K mg base N qual scope f cdv A outer s H E) body t/\t { nx:=fun _ H'=>Q .non H',rt:=Q} (yJ N vs) H):
  FnOk P w K mg base CX (k+1) f (PySem.W.fnOf name qual params body scope dV kV doc pm an cdv ct) ps sp:=by
 refine⟨len,fun A outer s H args us vs Q E hr e0 hb r hsp=>?_⟩
 have hl:=len _ _ _ _ hsp
 have KX:K.In s.heap:=e0.mod.kin.keeps fun b o e=>(e0.bs b o e).1
 have lim:s.heap.NoLimit:=e0.mod.nolimit.keeps fun b o e=>(e0.bs b o e).1
 have hkind:∀ y∈ps.zip us,scope.names.lookup y.1=some .local\/(scope.names.lookup y.1=some .cell/\((cellsFrom (s.heap.objs.size+1) scope.names []).lookup y.1).isSome=true):=fun ⟨n,v⟩ hy=>by
  rcases S.par n (eC hy).1 with q | q
  ·exact .inl q
  ·exact .inr ⟨q,eh _ _ _ (.inl q)⟩
 refine codeAny_call_function hr.depth (KX _ _ lk) rfl S.co S.gen rfl (PySem.W.codeRec_of KX hcd) (hb _ _ _ _ ?_)
 refine wpAny_newFunctionEnv_cells S.kind hkind fun env he s1 x=>?_
 subst he
 refine⟨lim.keeps x.toInCall.keep,codeAny_func ?_⟩
 obtain⟨t,ht,hq⟩:=hbody A outer s H vs Q E (hr.deeper _) hsp
 have I:Inv (cxOf CX P w K mg base N qual scope f cdv A outer s H E) [] (yJ N vs) H s1:=jJA S hr.hd e0 hl r x
 refine bJ (ht [] s1 (yJ N vs) H _ I hq) (fun fl s' hs=>?_) fun e s' hs=>hs
 have fin:∀ {σ':St}{H':Hp}{v:V}{u:Value},Inv (cxOf CX P w K mg base N qual scope f cdv A outer s H E) [] σ' H' s'->RelV v u->Q v H'->CE outer P w H s Q u s':=
  fun {σ' H' v u} J rv q=>⟨v,H',J.os,J.bare,J.base,J.hok,rv,q⟩
 cases fl with
 | ret u=>
  obtain⟨v,σ',H',J,rv,q⟩:=hs
  exact fin J rv q
 | next=>
  obtain⟨σ',H',J,q⟩:=hs
  exact fin (v:=V.non) (u:=Value.none) J rfl q
 | brk=>
  obtain⟨_,_,_,q⟩:=hs
  exact False.elim q
 | cont=>
  obtain⟨_,_,_,q⟩:=hs
  exact False.elim q
end L2
namespace L2
open PySem PySem.Spec PyProof.Rows
section
variable {X:Cx}{x:Str}{p pos:Pos}{e:Expr}{es:List Expr}{t:TA}{id T:String}{r:List V->Hp->VK->Prop}
def tCB (r:List V->Hp->VK->Prop)(t:TA):TE:=fun σ H Q=>t σ H fun vs H1=>r vs H1 Q
theorem jDK (hc:kZ X (.builtin id) r)(hg:Gl X x)(hm:X.mg x=none)(hv:bootBuiltins x=some (.builtin id))(ha:PA X (e::es) t)(hn:x≠ "__name__" :=by decide)(hdb:(x==("__debug__" :Str))=false:=by decide)
  (he:starEach (e::es) X.env=(false,eval e X.env)::starEach es X.env:=by rfl) (hpl:(backTo pos (starEach es X.env)).any (·.1)=false:=by rfl):PE X (.Call (.Name x p) (e::es) [] pos) (tCB r t):=by
 intro pins s σ H Q I h
 refine dz (jCH I hg hm hv ?_ hn hdb)
 exact PyProof.Rows.callWith_builtin1 (thn (ha pos pins s σ H _ I h) fun us s1 ⟨vs,H1,I1,r1,q1⟩=>hc pins s1 σ H1 vs us Q I1 r1 q1) he hpl
theorem jBC (hc:kZ X (.type T) r)(hg:Gl X x)(hm:X.mg x=none)(hv:bootBuiltins x=some (.type T))(ha:PA X (e::es) t)(hn:x≠ "__name__" :=by decide)(hdb:(x==("__debug__" :Str))=false:=by decide)
  (he:starEach (e::es) X.env=(false,eval e X.env)::starEach es X.env:=by rfl) (hpl:(backTo pos (starEach es X.env)).any (·.1)=false:=by rfl):PE X (.Call (.Name x p) (e::es) [] pos) (tCB r t):=by
 intro pins s σ H Q I h
 refine dz (jCH I hg hm hv ?_ hn hdb)
 exact bt (thn (ha pos pins s σ H _ I h) fun us s1 ⟨vs,H1,I1,r1,q1⟩=>hc pins s1 σ H1 vs us Q I1 r1 q1) he hpl
end
end L2
namespace HT
open PySem PyProof.Rows
section
open PySem.SeqAt
open PySem.AutoSeq1 (wpAny_loadPart')
open PySem.MeetsSeq PySem.MeetsSeq2 PySem.MeetsSeq3
end
section
variable {prog:Program}{w:World}{A:Around}{E:Value->Shared->Prop}{s:Shared}
theorem cat_tup {t b:Addr}{vs ws:List Value}{Q:Value->Shared->Prop}(ht:IsTup s.heap t vs.toArray)(hb:IsTup s.heap b ws.toArray)(hv:vs≠ [])
  (h1:ws=[]->Q (.ref t) s) (h2:ws≠ []->Q (.ref s.heap.objs.size) { s with heap:=s.heap.push { cls:= .type "tuple",data:= .seq (vs++ws).toArray}})
  (hsz:vs.length+ws.length<=sizeLine):wpAny (model prog w) A (binaryOp .Add (.ref t) (.ref b)) Q E s:=by
 obtain⟨⟨cls,dd,data,sl⟩,ho,hc,n,hd⟩:=id ht
 obtain⟨⟨cls2,dd2,data2,sl2⟩,ho2,hc2,n2,hd2⟩:=id hb
 simp only at hc hd hc2 hd2
 subst hc hd hc2 hd2
 have e:vs.toArray++ws.toArray=(vs++ws).toArray:=by simp
 by_cases hw:ws=[]
 ·exact concat_meets ⟨_,ho,rfl⟩ ⟨_,ho2,rfl⟩ dW seq_tuple_add cN cK (cD _ _)
   (tuple_addW1 t b vs.toArray ws.toArray n n2 dd dd2 sl sl2 (by simpa using hv) (by simp [hw])) ⟨ho,ho2,h1 hw⟩
 ·refine concat_meets ⟨_,ho,rfl⟩ ⟨_,ho2,rfl⟩ dW seq_tuple_add cN cK (cD _ _)
   (tuple_addW2 t b vs.toArray ws.toArray n n2 dd dd2 sl sl2 (by simpa using hv) (by simpa using hw) (by rw[au,au]; exact hsz)) ⟨ho,ho2,?_⟩
  rw[e]
  exact h2 hw
noncomputable def sIx (n d:Nat):Option Int->Nat
 | none=>d
 | some v=>if v<0 then (v+(n:Int)).toNat else min v.toNat n
theorem jNG (n d:Nat)(hd:d<=n)(o:Option Int):sIx n d o<=n:=by
 cases o with
 | none=>exact hd
 | some v=>
  show (if v<0 then (v+(n:Int)).toNat else min v.toNat n)<=n
  by_cases hv:v<0
  ·rw[ah hv]; omega
  ·rw[am hv]; exact Nat.min_le_right _ _
theorem jJS (v:Int)(n d:Nat):(if v<0 then max (v+(n:Int)) 0 else min v (n:Int))=((sIx n d (some v):Nat):Int):=by
 show (if v<0 then max (v+(n:Int)) 0 else min v (n:Int))=(((if v<0 then (v+(n:Int)).toNat else min v.toNat n):Nat):Int)
 by_cases hv:v<0
 ·simp only [ah hv]; omega
 ·simp only [am hv]; omega
theorem jHK (lo hi:Option Int)(n:Nat):Builtin.Slice.sliceAdjust lo hi 1 (n:Int)=(((sIx n 0 lo:Nat):Int),((sIx n n hi:Nat):Int)):=by
 have h1:¬ ((1:Int)<0):=by omega
 unfold Builtin.Slice.sliceAdjust
 simp only [h1,if_false]
 refine Prod.ext ?_ ?_
 ·cases lo with
  | none=>rfl
  | some v=>exact jJS v n 0
 ·cases hi with
  | none=>rfl
  | some v=>exact jJS v n n
theorem jH8 (i j:Nat):Builtin.Slice.slicePlaces (i:Int) (j:Int) 1=j - i:=by
 unfold Builtin.Slice.slicePlaces
 have h1:(1:Int)>0:=by omega
 simp only [h1,cX,Int.ediv_one]
 split <;> omega
theorem jCZ {v:Value}{o:Option Int}{Q:Option Int->Shared->Prop}(p:IsPart v o)(h:Q o s):wpAny (model prog w) A (Builtin.Slice.slicePartIndex v) Q E s:=by
 cases p with
 | none=>exact slicePart_none h
 | int i t=>exact slicePart_int h
theorem sliceApplied_gen {sl:Addr}{vl vu:Value}{lo hi:Option Int}{n:Nat}{Q:Int×Int×Nat->Shared->Prop}(hs:s.heap.IsSliceOf sl vl vu .none)(pl:IsPart vl lo)(pu:IsPart vu hi)
  (h:Q (((sIx n 0 lo:Nat):Int),1,sIx n n hi - sIx n 0 lo) s):wpAny (model prog w) A (Builtin.Slice.sliceApplied (.ref sl) (pure (n:Int))) Q E s:=by
 obtain⟨os,hos,hcs,hds⟩:=id hs
 unfold Builtin.Slice.sliceApplied Builtin.Slice.sliceFields
 refine aa (aa (aU hos hds (x:=vl) rfl (aa (aU hos hds (x:=vu) rfl (aa (aU hos hds (x:= .none) rfl (ae ?_)))))))
 refine aa (slicePart_none ?_)
 show wpAny _ _ (if ((1:Int)==0)=true then _ else _) _ _ s
 rw[am (by decide)]
 refine aa (jCZ pl (aa (jCZ pu (aa (ae ?_)))))
 show wpAny _ _ (match Builtin.Slice.sliceAdjust lo hi 1 (n:Int) with | (lo,hi)=>pure (lo,(1:Int),Builtin.Slice.slicePlaces lo hi 1)) _ _ s
 rw[jHK lo hi n]
 show wpAny _ _ (pure (((sIx n 0 lo:Nat):Int),(1:Int),Builtin.Slice.slicePlaces ((sIx n 0 lo:Nat):Int) ((sIx n n hi:Nat):Int) 1)) _ _ s
 rw[jH8]
 exact ae h
theorem jKI (xs:Array Value)(i k:Nat):((List.range k).filterMap fun (m:Nat)=>xs[((i:Int)+(m:Int)*1).toNat]?).toArray=((xs.toList.drop i).take k).toArray:=by
 have e:(fun (m:Nat)=>xs[((i:Int)+(m:Int)*1).toNat]?)=fun m=>xs[i+m]?:=by
  funext m
  have:((i:Int)+(m:Int)*1).toNat=i+m:=by omega
  rw[this]
 rw[e]
 have:=pick_run xs i k
 rw[List.filterMap_map] at this
 have e2:((fun x=>xs[x]?) ∘ fun x=>i+x)=fun m=>xs[i+m]?:=rfl
 rw[e2] at this
 rw[this]
theorem getItem_tuple_cut {t sl:Addr}{items:Array Value}{vl vu:Value}{lo hi:Option Int}{Q:Value->Shared->Prop}(ht:IsTup s.heap t items)(hs:s.heap.IsSliceOf sl vl vu .none)(pl:IsPart vl lo)(pu:IsPart vu hi)
  (hw:¬ (sIx items.size 0 lo=0/\sIx items.size items.size hi=items.size))
  (h:Q (.ref s.heap.objs.size) { s with heap:=s.heap.push { cls:= .type "tuple",data:= .seq ((items.toList.drop (sIx items.size 0 lo)).take (sIx items.size items.size hi - sIx items.size 0 lo)).toArray}})
  (hsz:items.size<=sizeLine):wpAny (model prog w) A (getItem (.ref t) (.ref sl)) Q E s:=by
 have htake:sizeOk (.seq ((items.toList.drop (sIx items.size 0 lo)).take (sIx items.size items.size hi - sIx items.size 0 lo)).toArray):=by
  show ((items.toList.drop (sIx items.size 0 lo)).take (sIx items.size items.size hi - sIx items.size 0 lo)).toArray.size<=sizeLine
  rw[au,bI,cx,aW]
  omega
 have hj:sIx items.size items.size hi<=items.size:=jNG _ _ (af _) hi
 obtain⟨os,hos,hcs,hds⟩:=id hs
 have hTs:s.TypeIs (.ref sl) "slice" :=⟨os,hos,hcs⟩
 unfold getItem
 try with_reducible refine bE ?_
 first | refine aa (ae ?_) | skip
 refine aa (wpAny_sequenceKey ht.typeIs (by decide) ?_)
 refine aa (aQ (name:=Str.ofString "__getitem__") ht.typeIs bb
  (aY bb ht.typeIs entry_tuple_getitem ?_ (args_tuple_getitem _ _)))
 show wpAny _ _ (Builtin.Tuple.tupleItemsOf (.ref t) >>= _) _ _ s
 refine aa (tupleItemsOf_ ht ?_)
 refine aa (dq hTs ?_)
 rw[ah (by decide)]
 refine aa (sliceApplied_gen hs pl pu ?_)
 have hno:¬ ((((sIx items.size 0 lo:Nat):Int)==0&&(1:Int)==1&&(sIx items.size items.size hi - sIx items.size 0 lo)==items.size)=true):=by
  intro q
  rw[bp,bp] at q
  have q1:((sIx items.size 0 lo:Nat):Int)=0:=eq_of_beq q.1.1
  have q2:sIx items.size items.size hi - sIx items.size 0 lo=items.size:=eq_of_beq q.2
  exact hw ⟨by omega,by omega⟩
 show wpAny _ _ (if (((sIx items.size 0 lo:Nat):Int)==0&&(1:Int)==1&&(sIx items.size items.size hi - sIx items.size 0 lo)==items.size)=true then _ else _) _ _ s
 rw[am hno,jKI]
 first
  | exact aa (m:=Builtin.Tuple.tupleExact _) (ba (ae ⟨_,rfl,ae h⟩) htake)
  | exact aa (m:=Builtin.Tuple.tupleExact _) (ba (aa (ae (ae ⟨_,rfl,ae h⟩))) htake)
  | exact aa (aa (m:=Builtin.Tuple.tupleExact _) (ba (ae (ae ⟨_,rfl,ae h⟩)) htake))
  | exact aa (aa (m:=Builtin.Tuple.tupleExact _) (ba (ae ⟨_,rfl,ae h⟩) htake))
end
end HT
namespace L2
open PySem PySem.Spec PyProof.Rows
abbrev TO:=St->Hp->(Option Int->Hp->Prop)->Prop
def PO (X:Cx)(e:Option Expr)(t:TO):Prop:=
 ∀ (pins:List (Addr×Obj)) (s:Shared) (σ:St) (H:Hp) (Q:Option Int->Hp->Prop),Inv X pins σ H s->t σ H Q->
  wpAny (model X.prog X.w) X.A (evalPart e X.env) (fun u s'=>∃ o H',Inv X pins σ H' s'/\IsPart u o/\Q o H') X.xe s
def jI0:TO:=fun _ H Q=>Q none H
def tPart (t:TE):TO:=fun σ H Q=>t σ H fun x H1=>∃ i,x= .int i/\Q (some i) H1
section
variable {X:Cx}{e:Expr}{te:TE}{lo hi:Option Expr}{tl th:TO}{pos p2:Pos}
theorem jMD:PO X none jI0:=by
 intro pins s σ H Q I h
 rw[evalPart_none]
 exact ae ⟨none,H,I, .none,h⟩
theorem jMC (h:PE X e te):PO X (some e) (tPart te):=by
 intro pins s σ H Q I hw
 rw[evalPart_some]
 refine thn (h pins s σ H _ I hw) fun u s1 ⟨x,H1,I1,r1,q1⟩=>?_
 obtain⟨i,rfl,q⟩:=q1
 obtain⟨t,rfl⟩:=r1
 exact⟨some i,H1,I1, .int i t,q⟩
def SlR (X:Cx)(r:V->Option Int->Option Int->Hp->VK->Prop):Prop:=
 ∀ (pins:List (Addr×Obj)) (s:Shared) (σ:St) (H:Hp) (x:V) (v vl vu:Value) (lo hi:Option Int) (sl:Addr) (Q:VK),Inv X pins σ H s->RelV x v->s.heap.IsSliceOf sl vl vu .none->IsPart vl lo->IsPart vu hi->r x lo hi H Q->
  ∃ T id,typeLookup (.type T) "__getitem__" =pure (some (.builtin id))/\s.TypeIs v T/\wpAny (model X.prog X.w) X.A (getItem v (.ref sl)) (EP X pins σ Q) X.xe s
def tSl (r:V->Option Int->Option Int->Hp->VK->Prop)(te:TE)(tl th:TO):TE:=fun σ H Q=>te σ H fun x H1=>tl σ H1 fun l H2=>th σ H2 fun u H3=>r x l u H3 Q
theorem jKK {r:V->Option Int->Option Int->Hp->VK->Prop}(hr:SlR X r)(he:PE X e te)(hl:PO X lo tl)(hu:PO X hi th):PE X (.Subscript e (.Slice lo hi none p2) pos) (tSl r te tl th):=by
 intro pins s σ H Q I h
 refine Subscript_ (thn (he pins s σ H _ I h) fun v s1 ⟨x,H1,I1,r1,q1⟩=>?_)
 refine wpAny_Slice (thn (hl pins s1 σ H1 _ I1 q1) fun vl s2 ⟨l,H2,I2,pl,q2⟩=>thn (hu pins s2 σ H2 _ I2 q2) fun vu s3 ⟨u,H3,I3,pu,q3⟩=>?_)
 rw[evalPart_none]
 refine ae ?_
 have I4:Inv X pins σ H3 { s3 with heap:=s3.heap.push { cls:= .type "slice",data:= .fields #[vl,vu, .none]}} :=I3.kept (t':=s3.toks) fun b ob q=>ac _ q
 obtain⟨T,id,hT,ht,hg⟩:=hr pins { s3 with heap:=s3.heap.push { cls:= .type "slice",data:= .fields #[vl,vu, .none]}} σ H3 x v vl vu l u s3.heap.objs.size Q I4 r1 (Heap.IsSliceOf.new ..) pl pu q3
 show wpAny (model X.prog X.w) X.A (subscriptTail e (.Slice lo hi none p2) v (.ref s3.heap.objs.size)) (EP X pins σ Q) X.xe { s3 with heap:=s3.heap.push { cls:= .type "slice",data:= .fields #[vl,vu, .none]}}
 exact tail_any (ops:=[.ref s3.heap.objs.size,v]) ht hT hg (by with_unfolding_all rfl)
def cutV (xs:List V)(lo hi:Option Int):List V:=(xs.drop (HT.sIx xs.length 0 lo)).take (HT.sIx xs.length xs.length hi - HT.sIx xs.length 0 lo)
theorem jCS (xs:List V)(lo hi:Option Int):(cutV xs lo hi).length<=xs.length:=by
 unfold cutV
 rw[bI,cx]
 omega
def rSlT (K:W.Frag):V->Option Int->Option Int->Hp->VK->Prop:=fun x lo hi H Q=>∃ a xs,x= .ref a/\SqT K H a xs/\
 ¬ (HT.sIx xs.length 0 lo=0/\HT.sIx xs.length xs.length hi=xs.length)/\∀ p,H p=none->Q (.ref p) (upd H p (.tup (cutV xs lo hi)))
theorem jNE:SlR X (rSlT X.K):=by
 intro pins s σ H x v vl vu lo hi sl Q I rx hs pl pu h
 obtain⟨a,xs,rfl,hx,hw,q⟩:=h
 cases rx
 obtain⟨its,r,ht,hz⟩:=I.tuple hx
 have hlen:its.toArray.size=xs.length:=by rw[au]; exact r.length.symm
 refine⟨"tuple",_,bb.lookup,ht.typeIs,?_⟩
 refine HT.getItem_tuple_cut ht hs pl pu (by rw[hlen]; exact hw) ?_ (by rw[hlen]; exact hz)
 rw[hlen]
 refine⟨.ref s.heap.objs.size,_,I.laid (t':=s.toks) (o:= .tup (cutV xs lo hi)) (fun b ob q=>ac _ q) (af _) ?_,rfl,q _ (I.hok.fresh (af _))⟩
 exact⟨aZ (jCS xs lo hi) hz,_,(r.drop (HT.sIx xs.length 0 lo)).take (HT.sIx xs.length xs.length hi - HT.sIx xs.length 0 lo),TupO.new _ _⟩
def rCatT (K:W.Frag):R2:=fun x y H Q=>∃ a b xs ys,x= .ref a/\y= .ref b/\SqT K H a xs/\SqT K H b ys/\xs≠ []/\xs.length+ys.length<=sizeLine/\
 (ys=[]->Q (.ref a) H)/\(ys≠ []->∀ p,H p=none->Q (.ref p) (upd H p (.tup (xs++ys))))
theorem Vals.nil_iff {xs:List V}{us:List Value}(r:Vals xs us):us=[]↔xs=[]:=by
 cases r with
 | nil=>simp
 | cons _ _=>simp
theorem jMP:OpR X (binaryOp .Add) (rCatT X.K):=by
 intro pins s σ H x y v u Q I rx ry h
 obtain⟨a,b,xs,ys,rfl,rfl,ha,hb,hx,hz,q1,q2⟩:=h
 cases rx
 cases ry
 obtain⟨its,r1,p1,_⟩:=I.tuple ha
 obtain⟨its2,r2,p2,_⟩:=I.tuple hb
 refine HT.cat_tup p1 p2 (fun z=>hx (r1.nil_iff.mp z)) (fun z=>⟨.ref a,H,I,rfl,q1 (r2.nil_iff.mp z)⟩) (fun z=>?_) (by rw[<- r1.length,<- r2.length]; exact hz)
 refine⟨.ref s.heap.objs.size,_,I.laid (t':=s.toks) (o:= .tup (xs++ys)) (fun b ob q=>ac _ q) (af _) ?_,rfl,q2 (fun w=>z (r2.nil_iff.mpr w)) _ (I.hok.fresh (af _))⟩
 exact⟨by rw[aJ]; exact hz,_,r1.append r2,TupO.new _ _⟩
end
end L2
namespace L2
open PySem PySem.Spec PyProof.Rows
noncomputable def ixN (n:Nat)(i:Int):Option Nat:=if 0<=i then (if i<n then some i.toNat else none) else if -(n:Int)<=i then some (i+n).toNat else none
def atI {α:Type}(xs:List α)(i:Int):Option α:=(ixN xs.length i).bind fun j=>xs[j]?
theorem jJ7 {n:Nat}{i:Int}{j:Nat}(h:ixN n i=some j):seqIndex? i n=some j/\j<n/\ -(n:Int)<=i/\i<n:=by
 unfold ixN at h
 by_cases h0:0<=i
 ·rw[ah h0] at h
  by_cases h1:i<n
  ·rw[ah h1] at h
   have e:i.toNat=j:=aN h
   exact⟨by rw[seqIndex_of h0 h1,e],by omega,by omega,h1⟩
  ·rw[am h1] at h; cases h
 ·rw[am h0] at h
  by_cases h1: -(n:Int)<=i
  ·rw[ah h1] at h
   have e:(i+n).toNat=j:=aN h
   exact⟨by rw[seqIndex_neg (by omega) h1,e],by omega,h1,by omega⟩
  ·rw[am h1] at h; cases h
theorem jK4 {α:Type}{xs:List α}{i:Int}{v:α}(h:atI xs i=some v):∃ j,seqIndex? i xs.length=some j/\xs[j]?=some v/\j<xs.length/\ -(xs.length:Int)<=i/\i<xs.length:=by
 unfold atI at h
 cases e:ixN xs.length i with
 | none=>rw[e] at h; cases h
 | some j=>
  rw[e] at h
  obtain⟨h1,h2,h3,h4⟩:=jJ7 e
  exact⟨j,h1,h,h2,h3,h4⟩
theorem y0 {α:Type}{xs:List α}{j:Nat}{v:α}(h:xs[j]?=some v):atI xs (j:Int)=some v:=by
 have hj:j<xs.length:=(ar.mp h).1
 have e:ixN xs.length (j:Int)=some j:=by
  unfold ixN
  rw[ah (by omega),ah (by omega)]; simp
 unfold atI; rw[e]; exact h
def jB6 (b:Expr):Prop:=∀ o i,subscripted b false o i=operate [o,i] (getItem o i)
def IxR (X:Cx)(r:R2):Prop:=
 ∀ (value slice:Expr) (pins:List (Addr×Obj)) (s:Shared) (σ:St) (H:Hp) (x y:V) (v u:Value) (Q:VK),Inv X pins σ H s->RelV x v->RelV y u->r x y H Q->
  subscripted slice false v u=operate [v,u] (getItem v u)->wpAny (model X.prog X.w) X.A (subscriptTail value slice v u) (EP X pins σ Q) X.xe s
def MtR (X:Cx)(id:String)(r:V->List V->Hp->VK->Prop):Prop:=
 ∀ (pins:List (Addr×Obj)) (s:Shared) (σ:St) (H:Hp) (x:V) (xs:List V) (v:Value) (us:List Value) (Q:VK),Inv X pins σ H s->RelV x v->Vals xs us->r x xs H Q->
  wpAny (model X.prog X.w) X.A (call (.builtin id) (v::us)) (EP X pins σ Q) X.xe s
section
variable {X:Cx}{a b:Expr}{ta tb:TE}{pos:Pos}
theorem pe_ix {r:R2}(hr:IxR X r)(ha:PE X a ta)(hb:PE X b tb)(hs:jB6 b):PE X (.Subscript a b pos) (tOp r ta tb):=by
 intro pins s σ H Q I h
 exact Subscript_ (binT ha hb I h fun v u s2 x y H2 I2 rx ry q=>hr a b pins s2 σ H2 x y v u Q I2 rx ry q (hs _ _))
def rIxL (K:W.Frag):R2:=fun x y H Q=>∃ p xs i v,x= .ref p/\y= .int i/\SqL K H p xs/\atI xs i=some v/\Q v H
def rIxT (K:W.Frag):R2:=fun x y H Q=>∃ p xs i v,x= .ref p/\y= .int i/\SqT K H p xs/\atI xs i=some v/\Q v H
theorem jQ:IxR X (rIxL X.K):=by
 intro value slice pins s σ H x y v u Q I rx ry h hs
 obtain⟨p,xs,i,z,rfl,rfl,hq,he,q⟩:=h
 cases rx
 obtain⟨t,rfl⟩:=ry
 obtain⟨its,r,pl,hz⟩:=I.list hq
 obtain⟨j,h1,h2,h3,h4,h5⟩:=jK4 he
 obtain⟨w,ew,rw'⟩:=r.get h2
 have hl:=r.length
 have hn:=jEI
 have fin:EP X pins σ Q w s:=⟨z,H,I,rw',q⟩
 by_cases h0:0<=i
 ·have hj:i.toNat=j:=by
   rw[seqIndex_of h0 h5] at h1
   exact aN h1
  exact item_listR pl.isList h0 (by omega) (by rw[hj]; simpa using ew) fin hs
 ·have hj:(i+(its.toArray.size:Int)).toNat=j:=by
   rw[seqIndex_neg (by omega) h4] at h1
   rw[au,<- hl]
   exact aN h1
  exact subscriptTail_builtinR (x:=w) pl.isList.typeIs slot_list_getitem.lookup
   (wpAny_getItem_list_neg (Q:=fun r s'=>r=w/\EP X pins σ Q r s') pl.isList (by omega) (by rw[au] <;> omega) (by omega) (by rw[hj]; simpa using ew) ⟨rfl,fin⟩) hs
theorem jK:IxR X (rIxT X.K):=by
 intro value slice pins s σ H x y v u Q I rx ry h hs
 obtain⟨p,xs,i,z,rfl,rfl,hq,he,q⟩:=h
 cases rx
 obtain⟨t,rfl⟩:=ry
 obtain⟨its,r,pl,hz⟩:=I.tuple hq
 obtain⟨j,h1,h2,h3,h4,h5⟩:=jK4 he
 obtain⟨w,ew,rw'⟩:=r.get h2
 have hl:=r.length
 have hn:=jEI
 have fin:EP X pins σ Q w s:=⟨z,H,I,rw',q⟩
 exact subscriptTail_builtinR (x:=w) pl.typeIs slot_tuple_getitem.lookup
  (getItem_tuple (j:=j) (Q:=fun r s'=>r=w/\EP X pins σ Q r s') pl (by omega) (by omega) (by rw[au,<- hl]; exact h1) (by simpa using ew) ⟨rfl,fin⟩) hs
theorem jHB (its:List Value)(n j:Nat)(u:Value):Obj.mapSeq (·.setIfInBounds j u) { cls:= .type "list",data:= .seq its.toArray n} = { cls:= .type "list",data:= .seq (its.set j u).toArray n} :=by
 simp [Obj.mapSeq]
theorem Inv.lst {pins:List (Addr×Obj)}{σ:St}{H:Hp}{s:Shared}{p:Addr}{xs:List V}(I:Inv X pins σ H s)(h:H p=some (.lst xs)):
  ∃ (its:List Value) (n:Nat),Vals xs its/\s.heap.get? p=some { cls:= .type "list",data:= .seq its.toArray n} /\xs.length<=sizeLine:=by
 obtain⟨z,its,n,r,e⟩:=I.hok p _ h
 exact⟨its,n,r,e,z⟩
theorem Inv.lstUpd {pins:List (Addr×Obj)}{σ:St}{H:Hp}{s:Shared}{p:Addr}{xs ys:List V}{its its':List Value}{n n':Nat}{f:Obj->Obj}(I:Inv X pins σ H s)(h:H p=some (.lst xs))
  (ho:s.heap.get? p=some { cls:= .type "list",data:= .seq its.toArray n}) (hf:f { cls:= .type "list",data:= .seq its.toArray n} = { cls:= .type "list",data:= .seq its'.toArray n'}) (r:Vals ys its') (hz:ys.length<=sizeLine) (t:Nat):
  Inv X pins σ (upd H p (.lst ys)) { s with heap:=s.heap.update p f,toks:=t} :=by
 have e:(s.heap.update p f).get? p=some { cls:= .type "list",data:= .seq its'.toArray n'} :=by
  rw[bM f ho (by rw[hf] <;> rfl),hf]
 refine I.write (x:=p) (e:=p) (by rw[h]; trivial) (.inl rfl) (fun b u hb q=>(ce _ _ (cL hb)).trans q) ⟨_,e⟩ ?_
 exact⟨hz,its',n',r,e⟩
def rSetL:V->V->V->Hp->(Hp->Prop)->Prop:=fun o i v H Q=>∃ p xs k j,o= .ref p/\i= .int k/\H p=some (.lst xs)/\ixN xs.length k=some j/\Q (upd H p (.lst (xs.set j v)))
theorem jB9:PSet X rSetL:=by
 intro pins s σ H o i v ov iv u Q I ro ri rv h
 obtain⟨p,xs,k,j,rfl,rfl,hp,hj,q⟩:=h
 cases ro
 obtain⟨t,rfl⟩:=ri
 obtain⟨its,n,r,ho,hz⟩:=I.lst hp
 obtain⟨h1,h2,h3,h4⟩:=jJ7 hj
 have hl:=r.length
 have hn:=jEI
 have I':Inv X pins σ (upd H p (.lst (xs.set j v))) { s with heap:=s.heap.update p (Obj.mapSeq (·.setIfInBounds j u))} :=
  I.lstUpd hp ho (jHB its n j u) (r.set rv j) (by rw[dh]; exact hz) s.toks
 by_cases h0:0<=k
 ·have hk:k.toNat=j:=by
   rw[seqIndex_of h0 h4] at h1
   exact aN h1
  exact PySem.W.ki_setAt ho h0 (by omega) (by rw[au,<- hl]; exact h4) (by rw[hk]; exact⟨_,I',q⟩)
 ·have hk:(k+(its.toArray.size:Int)).toNat=j:=by
   rw[seqIndex_neg (by omega) h3] at h1
   rw[au,<- hl]
   exact aN h1
  exact PySem.W.ki_setBack ho (by omega) (by rw[au,<- hl]; exact h3) (by omega) (by rw[hk]; exact⟨_,I',q⟩)
theorem jED (lo hi:Option Int)(n:Nat):(sliceBounds lo hi none n).1=((HT.sIx n 0 lo:Nat):Int)/\(sliceBounds lo hi none n).2.1=((HT.sIx n n hi:Nat):Int)/\(sliceBounds lo hi none n).2.2=1:=by
 refine⟨?_,?_,rfl⟩
 ·cases lo with
  | none=>simp [sliceBounds,HT.sIx]
  | some i=>
   simp only [sliceBounds,HT.sIx,getD_none,show (1:Int)>0 by decide,cX]
   by_cases h:i<0
   ·simp only [h,cX] <;> omega
   ·simp only [h,if_false] <;> omega
 ·cases hi with
  | none=>simp [sliceBounds,HT.sIx]
  | some i=>
   simp only [sliceBounds,HT.sIx,getD_none,show (1:Int)>0 by decide,cX]
   by_cases h:i<0
   ·simp only [h,cX] <;> omega
   ·simp only [h,if_false] <;> omega
theorem jDD (its:List Value)(lo hi:Option Int):slicePick its.toArray lo hi none=((its.drop (HT.sIx its.length 0 lo)).take (HT.sIx its.length its.length hi - HT.sIx its.length 0 lo)).toArray:=by
 obtain⟨h1,h2,h3⟩:=jED lo hi its.toArray.size
 unfold slicePick
 rw[h1,h2,h3]
 simp only [sliceRange_one,pick_run,au] <;> rfl
def rSlL (K:W.Frag):V->Option Int->Option Int->Hp->VK->Prop:=fun x lo hi H Q=>∃ a xs,x= .ref a/\SqL K H a xs/\∀ p,H p=none->Q (.ref p) (upd H p (.lst (cutV xs lo hi)))
theorem jI8:SlR X (rSlL X.K):=by
 intro pins s σ H x v vl vu lo hi sl Q I rx hs pl pu h
 obtain⟨a,xs,rfl,hx,q⟩:=h
 cases rx
 obtain⟨its,r,ht,hz⟩:=I.list hx
 have hlen:=r.length
 refine⟨"list",_,slot_list_getitem.lookup,ht.isList.typeIs,?_⟩
 refine wpAny_getItem_list_slice ht.isList hs pl pu .none (by simp) ?_ (by rw[au] <;> omega)
 rw[jDD,<- hlen]
 refine⟨.ref s.heap.objs.size,_,I.laid (t':=s.toks) (o:= .lst (cutV xs lo hi)) (fun b ob q=>ac _ q) (af _) ?_,rfl,q _ (I.hok.fresh (af _))⟩
 exact⟨aZ (jCS xs lo hi) hz,_,0,(r.drop (HT.sIx xs.length 0 lo)).take (HT.sIx xs.length xs.length hi - HT.sIx xs.length 0 lo),ak _ rfl⟩
def flatV:V->Bool
 | .non=>true
 | .bl _=>true
 | .int _=>true
 | .str _=>true
 | _=>false
noncomputable def eqV:V->V->Bool
 | .non, .non=>true
 | .bl a, .bl b=>a==b
 | .bl a, .int b=>(if a then 1 else 0)==b
 | .int a, .bl b=>a==(if b then 1 else 0)
 | .int a, .int b=>a==b
 | .str a, .str b=>a==b
 | _,_=>false
theorem jOM {A:Around}{s:Shared}{y x:V}{u v:Value}(ry:RelV y u)(rx:RelV x v)(fy:flatV y=true)(fx:flatV x=true):SeqAt.EqAt A s u v (eqV y x):=by
 cases y with
 | non=>
  cases ry
  cases x with
  | non=>cases rx; exact SeqAt.EqAt.same _
  | bl b=>cases rx; exact SeqAt.EqAt.none_bool b
  | int b=>obtain⟨t,rfl⟩:=rx; exact SeqAt.EqAt.none_int b t
  | str b=>obtain⟨t,rfl⟩:=rx; exact SeqAt.EqAt.none_str b t
  | _=>exact absurd (show false=true from fx) aq
 | bl a=>
  cases ry
  cases x with
  | non=>cases rx; exact SeqAt.EqAt.bool_none a
  | bl b=>cases rx; exact SeqAt.EqAt.bool_bool a b
  | int b=>obtain⟨t,rfl⟩:=rx; exact SeqAt.EqAt.bool_int a b t
  | str b=>obtain⟨t,rfl⟩:=rx; exact SeqAt.EqAt.bool_str a b t
  | _=>exact absurd (show false=true from fx) aq
 | int a=>
  obtain⟨t',rfl⟩:=ry
  cases x with
  | non=>cases rx; exact SeqAt.EqAt.int_none a t'
  | bl b=>cases rx; exact SeqAt.EqAt.int_bool a t' b
  | int b=>obtain⟨t,rfl⟩:=rx; exact SeqAt.EqAt.int_int a t' b t
  | str b=>obtain⟨t,rfl⟩:=rx; exact SeqAt.EqAt.int_str a t' b t
  | _=>exact absurd (show false=true from fx) aq
 | str a=>
  obtain⟨t',rfl⟩:=ry
  cases x with
  | non=>cases rx; exact SeqAt.EqAt.str_none a t'
  | bl b=>cases rx; exact SeqAt.EqAt.str_bool a t' b
  | int b=>obtain⟨t,rfl⟩:=rx; exact SeqAt.EqAt.str_int a t' b t
  | str b=>obtain⟨t,rfl⟩:=rx; exact SeqAt.EqAt.str_str a t' b t
  | _=>exact absurd (show false=true from fx) aq
 | _=>exact absurd (show false=true from fy) aq
noncomputable def eqU (x:V)(u:Value):Bool:=match u with
 | .none=>eqV .non x
 | .bool b=>eqV (.bl b) x
 | .int i _=>eqV (.int i) x
 | .str z _=>eqV (.str z) x
 | _=>false
theorem jLP {x y:V}{u:Value}(r:RelV y u)(f:flatV y=true):eqU x u=eqV y x:=by
 cases y with
 | non=>cases r; rfl
 | bl b=>cases r; rfl
 | int i=>obtain⟨t,rfl⟩:=r; rfl
 | str z=>obtain⟨t,rfl⟩:=r; rfl
 | _=>exact absurd (show false=true from f) aq
theorem jCV {x:V} :∀ {xs:List V}{us:List Value},Vals xs us->xs.all flatV=true->us.any (eqU x)=xs.any fun y=>eqV y x
 | _,_, .nil,_=>rfl
 | y::xs,u::us, .cons r t,f=>by
  rw[e9,bp] at f
  rw[List.any_cons,List.any_cons,jLP r f.1,jCV t f.2]
theorem jAS {A:Around}{s:Shared}{x:V}{v:Value}(rx:RelV x v)(fx:flatV x=true):∀ {xs:List V}{us:List Value},Vals xs us->xs.all flatV=true->∀ u∈us,SeqAt.EqAt A s u v (eqU x u)
 | _,_, .nil,_=>fun u hu=>by cases hu
 | y::xs,u::us, .cons r t,f=>fun u' hu=>by
  rw[e9,bp] at f
  rcases av.mp hu with rfl | hu
  ·rw[jLP r f.1]; exact jOM r rx f.1 fx
  ·exact jAS rx fx t f.2 u' hu
def inV (x:V)(xs:List V):Bool:=xs.any fun y=>eqV y x
def rIn (K:W.Frag)(neg:Bool):R2:=fun x y H Q=>∃ p xs,y= .ref p/\(SqL K H p xs\/SqT K H p xs)/\flatV x=true/\xs.all flatV=true/\Q (.bl (if neg then !inV x xs else inV x xs)) H
theorem jCE:OpR X (compareOp .In) (rIn X.K false):=by
 intro pins s σ H x y v u Q I rx ry h
 obtain⟨p,xs,rfl,hq,fx,fs,q⟩:=h
 cases ry
 rcases hq with hq | hq
 ·obtain⟨its,r,pl,hz⟩:=I.list hq
  refine SeqAt.in_listAt (eqU x) pl.isList (fun w hw=>jAS rx fx r fs w (by simpa using hw)) ⟨.bl _,H,I,rfl,?_⟩
  rw[show its.toArray.any (eqU x)=its.any (eqU x) by simp,jCV r fs]
  exact q
 ·obtain⟨its,r,pl,hz⟩:=I.tuple hq
  refine SeqAt.in_tupleAt (eqU x) pl (fun w hw=>jAS rx fx r fs w (by simpa using hw)) ⟨.bl _,H,I,rfl,?_⟩
  rw[show its.toArray.any (eqU x)=its.any (eqU x) by simp,jCV r fs]
  exact q
theorem jBY:OpR X (compareOp .NotIn) (rIn X.K true):=by
 intro pins s σ H x y v u Q I rx ry h
 obtain⟨p,xs,rfl,hq,fx,fs,q⟩:=h
 cases ry
 rcases hq with hq | hq
 ·obtain⟨its,r,pl,hz⟩:=I.list hq
  refine SeqAt.notIn_listAt (eqU x) pl.isList (fun w hw=>jAS rx fx r fs w (by simpa using hw)) ⟨.bl _,H,I,rfl,?_⟩
  rw[show its.toArray.any (eqU x)=its.any (eqU x) by simp,jCV r fs]
  exact q
 ·obtain⟨its,r,pl,hz⟩:=I.tuple hq
  refine SeqAt.notIn_tupleAt (eqU x) pl (fun w hw=>jAS rx fx r fs w (by simpa using hw)) ⟨.bl _,H,I,rfl,?_⟩
  rw[show its.toArray.any (eqU x)=its.any (eqU x) by simp,jCV r fs]
  exact q
theorem jA1:kZ X (.builtin "len") (fun xs H Q=>∃ p ys,xs=[.ref p]/\(SqL X.K H p ys\/SqT X.K H p ys)/\Q (.int ys.length) H):=by
 intro pins s σ H xs us Q I r h
 obtain⟨p,ys,rfl,hq,q⟩:=h
 obtain⟨u,rfl,rx⟩:=vals1 r
 cases rx
 have hn:=jEI
 rcases hq with hq | hq
 ·obtain⟨its,r',pl,hz⟩:=I.list hq
  have hlen:=r'.length
  exact Calls.call_len_list pl.isList (by simp only [au] <;> omega) ⟨.int ys.length,H,I.tok _,⟨s.toks+1,by rw[au,hlen]⟩,q⟩
 ·obtain⟨its,r',pl,hz⟩:=I.tuple hq
  have hlen:=r'.length
  exact len_tuple pl (by simp only [au] <;> omega) ⟨.int ys.length,H,I.tok _,⟨s.toks+1,by rw[au,hlen]⟩,q⟩
theorem jEU:kZ X (.type "list") (fun xs H Q=>∃ p ys,xs=[.ref p]/\(SqL X.K H p ys\/SqT X.K H p ys)/\∀ l,H l=none->Q (.ref l) (upd H l (.lst ys))):=by
 intro pins s σ H xs us Q I r h
 obtain⟨p,ys,rfl,hq,q⟩:=h
 obtain⟨u,rfl,rx⟩:=vals1 r
 cases rx
 have fin:∀ (its:List Value),Vals ys its->ys.length<=sizeLine->∀ (h':Heap) (c':Nat),(∀ b o',s.heap.get? b=some o'->h'.get? b=some o')->
   h'.get? s.heap.objs.size=some { cls:= .type "list",dict:=none,data:= .seq its.toArray c',slots:=#[]} ->EP X pins σ Q (.ref s.heap.objs.size) { s with heap:=h'} :=fun its r' hz h' c' kp e=>
  ⟨.ref s.heap.objs.size,_,I.laid (t':=s.toks) kp (af _) (show ObjOk X.prog X.w _ h' _ (.lst ys) from ⟨hz,its,c',r',e⟩),rfl,q _ (I.hok.fresh (af _))⟩
 rcases hq with hq | hq
 ·obtain⟨its,r',pl,hz⟩:=I.list hq
  have hlen:=r'.length
  obtain⟨o,ho,hc,n,hd⟩:=pl.isList
  exact call_list_seq p (.inl rfl) ho hc hd (fun h' c' kp e=>fin its r' hz h' c' kp e) (by simp only [au] <;> omega)
 ·obtain⟨its,r',pl,hz⟩:=I.tuple hq
  have hlen:=r'.length
  obtain⟨o,ho,hc,n,hd⟩:=pl
  exact call_list_seq p (.inr rfl) ho hc hd (fun h' c' kp e=>fin its r' hz h' c' kp e) (by simp only [au] <;> omega)
theorem jA0:kZ X (.type "tuple") (fun xs H Q=>∃ p ys,xs=[.ref p]/\((SqL X.K H p ys/\∀ l,H l=none->Q (.ref l) (upd H l (.tup ys)))\/(SqT X.K H p ys/\Q (.ref p) H))):=by
 intro pins s σ H xs us Q I r h
 obtain⟨p,ys,rfl,h⟩:=h
 obtain⟨u,rfl,rx⟩:=vals1 r
 cases rx
 rcases h with ⟨hq,q⟩ | ⟨hq,q⟩
 ·obtain⟨its,r',pl,hz⟩:=I.list hq
  have hlen:=r'.length
  refine call_tuple_list pl.isList (fun h' kp=>?_) (by simp only [au] <;> omega)
  have I1:Inv X pins σ H { s with heap:=h'} :=I.kept (t':=s.toks) kp
  have I2:Inv X pins σ (upd H h'.objs.size (.tup ys)) { s with heap:=h'.push { cls:= .type "tuple",data:= .seq its.toArray}} :=
   I1.laid (t':=s.toks) (fun b o e=>ac _ e) (af _) (show ObjOk X.prog X.w _ _ _ (.tup ys) from ⟨hz,its,r',TupO.new _ _⟩)
  exact⟨.ref h'.objs.size,_,I2,rfl,q _ (I1.hok.fresh (af _))⟩
 ·obtain⟨its,r',pl,hz⟩:=I.tuple hq
  exact call_tuple_same pl ⟨.ref p,H,I,rfl,q⟩
def tyV (K:W.Frag)(T:String)(x:V)(H:Hp):Prop:=match x with
 | .str _=>T= "str"
 | .int _=>T= "int"
 | .ref p=>(T= "list" /\∃ xs,SqL K H p xs)\/(T= "tuple" /\∃ o,K.lookup p=some o/\o.cls= .type "tuple" /\o.dict=none)\/
   (T= "dict" /\((∃ kvs,H p=some (.dK kvs))\/∃ kvs,H p=some (.dT kvs)))\/(T= "set" /\∃ S n,H p=some (.set S n))
 | _=>False
theorem jNA {pins:List (Addr×Obj)}{σ:St}{H:Hp}{s:Shared}{T:String}{x:V}{v:Value}(I:Inv X pins σ H s)(r:RelV x v)(ty:tyV X.K T x H):
  s.TypeIs v T/\∀ a,v= .ref a->∃ ob,s.heap.get? a=some ob/\ob.dict=none:=by
 cases x with
 | str z=>
  obtain⟨t,rfl⟩:=r
  cases (show T= "str" from ty)
  exact⟨typeIs_str s z t,fun _ e=>nomatch e⟩
 | int i=>
  obtain⟨t,rfl⟩:=r
  cases (show T= "int" from ty)
  exact⟨typeIs_int s i t,fun _ e=>nomatch e⟩
 | ref p=>
  cases r
  rcases ty with ⟨rfl,xs,hq⟩ | ⟨rfl,o,hk,hc,hd⟩ | ⟨rfl,hk⟩ | ⟨rfl,S,n,hk⟩
  ·obtain⟨its,_,pl,_⟩:=I.list hq
   refine⟨pl.isList.typeIs,fun a e=>?_⟩
   cases e
   obtain⟨o,n,e,c,hd,_⟩:=pl
   exact⟨o,e,hd⟩
  ·refine⟨⟨o,I.kIn p o hk,hc⟩,fun a e=>?_⟩
   cases e
   exact⟨o,I.kIn _ o hk,hd⟩
  ·have z:∃ o,s.heap.get? p=some o/\o.ExactDict:=by
    rcases hk with ⟨kvs,hk⟩ | ⟨kvs,hk⟩
    ·obtain⟨_,_,_,_,o,_,_,e,ex,_⟩:=I.hok p _ hk
     exact⟨o,e,ex⟩
    ·obtain⟨_,_,_,_,o,_,_,e,ex,_⟩:=I.hok p _ hk
     exact⟨o,e,ex⟩
   obtain⟨o,e,ex⟩:=z
   refine⟨⟨o,e,ex.1⟩,fun a e2=>?_⟩
   cases e2
   exact⟨o,e,ex.2.1⟩
  ·obtain⟨o,_,_,_,e,ex,_⟩:=I.hok p _ hk
   refine⟨⟨o,e,ex.1⟩,fun a e2=>?_⟩
   cases e2
   exact⟨o,e,ex.2.1⟩
 | _=>exact False.elim ty
def tBM (K:W.Frag)(T:String)(r:V->List V->Hp->VK->Prop)(to:TE)(t:TA):TE:=fun σ H Q=>to σ H fun x H1=>tyV K T x H1/\t σ H1 fun xs H2=>r x xs H2 Q
variable {o e:Expr}{es:List Expr}{to:TE}{t:TA}{name:Str}{apos cpos:Pos}{T id:String}{r:V->List V->Hp->VK->Prop}
theorem pe_bm (pa:PlainAttrs T)(slot:Slot T name id)(hty:typeOf (.builtin id)=pure (.type "method_descriptor"))(hm:MtR X id r)(ho:PE X o to)(ha:PA X (e::es) t)
  (hbase:attributeBase o name X.env (eval o X.env)=eval o X.env:=by rfl)
  (hfew:((backTo cpos (starEach (e::es) X.env)).all (fun x=>!x.1)&&(backToKw cpos (keywordEach [] X.env)).all (fun x=>x.1.isSome)
   &&decide ((e::es).length+([]:List Keyword).length+(if ([]:List Keyword).isEmpty then 0 else 1)<30))=true:=by rfl)
  (hline:(apos.endLine==cpos.line)=true:=by rfl) (hs:starEach (e::es) X.env=(false,eval e X.env)::starEach es X.env:=by rfl) (hplain:(backTo cpos (starEach es X.env)).any (·.1)=false:=by rfl):
  PE X (.Call (.Attribute o name apos) (e::es) [] cpos) (tBM X.K T r to t):=by
 intro pins s σ H Q I h
 refine wpAny_Call_method_late hbase hfew hline rfl (thn (ho pins s σ H _ I h) fun v s1 ⟨x,H1,I1,r1,ty,q1⟩=>?_)
 obtain⟨h1,h2⟩:=jNA I1 r1 ty
 refine⟨T,id,pa,slot,hty,h1,h2,?_⟩
 have hA:=ha cpos pins s1 σ H1 _ I1 q1
 rw[hs] at hA ⊢
 refine Calls.callWith_builtin (by show (false || (backTo cpos (starEach es X.env)).any (·.1))=false; rw[hplain] <;> rfl) (Calls.evalArgs_plain ?_)
 exact thn hA fun us s2 ⟨vs,H2,I2,r2,q2⟩=>hm pins s2 σ H2 x vs v us Q I2 r1 r2 q2
/- xs.append(e),list.index on a module's tuple .. are MtR facts of 06m -/
end
end L2
namespace L2
open PySem PySem.Spec PyProof.Rows
def MtM (X:Cx)(id:String)(r:V->List V->Hp->VK->Prop):Prop:=
 ∀ (pins:List (Addr×Obj)) (s:Shared) (σ:St) (H:Hp) (x:V) (xs:List V) (v:Value) (us:List Value) (Q:VK),Inv X pins σ H s->RelV x v->Vals xs us->r x xs H Q->
  wpAny (model X.prog X.w) X.A (call (.builtin id) (v::us)) (EP X pins σ Q) X.xe s
theorem Vals.one:∀ {x:V}{us:List Value},Vals [x] us->∃ u,us=[u]/\RelV x u
 | _,_, .cons r .nil=>⟨_,rfl,r⟩
theorem Vals.two:∀ {x y:V}{us:List Value},Vals [x,y] us->∃ u v,us=[u,v]/\RelV x u/\RelV y v
 | _,_,_, .cons r (.cons q .nil)=>⟨_,_,rfl,r,q⟩
theorem Vals.zero:∀ {us:List Value},Vals [] us->us=[]
 | _, .nil=>rfl
theorem Vals.rep {xs:List V}{us:List Value}(h:Vals xs us):∀ k:Nat,Vals (replicate k xs).flatten (replicate k us).flatten
 | 0=> .nil
 | k+1=>by
  rw[bH,bH,cm,cm]
  exact Vals.append h (Vals.rep h k)
theorem jEP (its:List Value):∀ (k:Nat) (acc:List Value),
  List.foldl (fun x1 x2=>x1++x2) acc.toArray (replicate k its.toArray)=(acc++(replicate k its).flatten).toArray
 | 0,acc=>by simp
 | k+1,acc=>by
  have e:acc.toArray++its.toArray=(acc++its).toArray:=by simp
  have e2:(acc++its)++(replicate k its).flatten=acc++(replicate (k+1) its).flatten:=by
   rw[bH,cm,List.append_assoc]
  rw[<- e2,<- jEP its k (acc++its),<- e,bH,List.foldl_cons]
section
variable {X:Cx}{pins:List (Addr×Obj)}{σ:St}{H:Hp}{s:Shared}{l b:Addr}{xs ys zs:List V}
theorem Inv.lset {its its':List Value}{n:Nat}{f:Array Value->Array Value}{t':Nat}(I:Inv X pins σ H s)(hH:H l=some (.lst xs))
  (e:s.heap.get? l=some { cls:= .type "list",data:= .seq its.toArray n}) (hf:f its.toArray=its'.toArray) (hv:Vals ys its') (hz:ys.length<=sizeLine):
  Inv X pins σ (upd H l (.lst ys)) { s with heap:=s.heap.update l (Obj.mapSeq f),toks:=t'} :=by
 have q:=PySem.IsL.update e f
 rw[hf] at q
 refine I.write (x:=l) (e:=l) (by rw[hH]; exact trivial) (.inl rfl) (fun b' u hb hu=>(ce s.heap (Obj.mapSeq f) (cL hb)).trans hu) ⟨_,q⟩ ?_
 exact⟨hz,its',_,hv,q⟩
theorem Inv.lnew {its:List Value}{t':Nat}(I:Inv X pins σ H s)(hv:Vals ys its)(hz:ys.length<=sizeLine):
  Inv X pins σ (upd H s.heap.objs.size (.lst ys)) { s with heap:=s.heap.push { cls:= .type "list",data:= .seq its.toArray},toks:=t'} :=
 I.laid (fun _ _ q=>ac _ q) (af _) ⟨hz,its,0,hv,ak _ rfl⟩
theorem Inv.fresh (I:Inv X pins σ H s):H s.heap.objs.size=none:=I.hok.fresh (af _)
theorem Inv.lstM (I:Inv X pins σ H s)(hH:H l=some (.lst xs)):xs.length<=sizeLine/\∃ (its:List Value) (n:Nat),Vals xs its/\xs.length=its.length/\s.heap.get? l=some { cls:= .type "list",data:= .seq its.toArray n} :=by
 obtain⟨z,its,n,r,e⟩:=I.hok l _ hH
 exact⟨z,its,n,r,r.length,e⟩
theorem jKQ {n:Nat}(h:n<=sizeLine):Builtin.List.listTooLong n=false:=by
 unfold Builtin.List.listTooLong
 exact aX (by omega)
end
section
variable {X:Cx}
def jM7:V->List V->Hp->VK->Prop:=fun x vs H Q=>∃ l xs y,x= .ref l/\vs=[y]/\H l=some (.lst xs)/\xs.length<sizeLine/\Q .non (upd H l (.lst (xs++[y])))
theorem jAF:MtM X "list.append" jM7:=by
 intro pins s σ H x vs v us Q I rx rv h
 obtain⟨l,xs,y,rfl,rfl,hH,hz,q⟩:=h
 cases rx
 obtain⟨u,rfl,ru⟩:=rv.one
 obtain⟨z,its,n,r,hl,e⟩:=I.lstM hH
 refine ej F.slot_list_append ⟨_,e,rfl⟩ F.entry_list_append (F.args_list_append_2 _ _) (PySem.list_append l its.toArray n u (by rw[au]; omega)) ⟨e,?_⟩
 refine⟨.non,_,I.lset (its':=its++[u]) hH e (by simp) (r.append (.cons ru .nil)) ?_,rfl,q⟩
 rw[aJ,List.length_singleton]
 omega
def rCat:R2:=fun x y H Q=>∃ l b xs zs,x= .ref l/\y= .ref b/\H l=some (.lst xs)/\H b=some (.lst zs)/\xs.length+zs.length<=sizeLine/\∀ p,H p=none->Q (.ref p) (upd H p (.lst (xs++zs)))
theorem jO1:OpR X (binaryOp .Add) rCat:=by
 intro pins s σ H x y v u Q I rx ry h
 obtain⟨l,b,xs,zs,rfl,rfl,hH,hB,hz,q⟩:=h
 cases rx
 cases ry
 obtain⟨z,its,n,r,hl,e⟩:=I.lstM hH
 obtain⟨z2,its2,n2,r2,hl2,e2⟩:=I.lstM hB
 refine PySem.P.add_list e e2 ?_ (by rw[au,au]; omega)
 have ea:its.toArray++its2.toArray=(its++its2).toArray:=by simp
 rw[ea]
 exact⟨.ref _,_,I.lnew (t':=s.toks) (r.append r2) (by rw[aJ]; omega),rfl,q _ I.fresh⟩
def rRep:R2:=fun x y H Q=>∃ l k xs,x= .ref l/\y= .int k/\H l=some (.lst xs)/\ -(2 ^ 63)<=k/\k<2 ^ 63/\xs.length*k.toNat<=sizeLine/\
 ∀ p,H p=none->Q (.ref p) (upd H p (.lst (replicate k.toNat xs).flatten))
theorem jMZ {α:Type}(xs:List α)(k:Nat):(replicate k xs).flatten.length=k*xs.length:=by
 induction k with
 | zero=>simp
 | succ k ih=>rw[bH,cm,aJ,ih,fm,fo]
theorem jNZ:OpR X (binaryOp .Mult) rRep:=by
 intro pins s σ H x y v u Q I rx ry h
 obtain⟨l,k,xs,rfl,rfl,hH,h1,h2,hz,q⟩:=h
 cases rx
 obtain⟨t,rfl⟩:=ry
 obtain⟨z,its,n,r,hl,e⟩:=I.lstM hH
 have hlen:its.toArray.size*k.toNat<=sizeLine:=by rw[au,<- hl]; exact hz
 have hcap:¬ its.toArray.size*k.toNat>(2 ^ 63 - 1) / 8:=by
  have:(sizeLine:Nat)<=(2 ^ 63 - 1) / 8:=by decide
  omega
 have hfit:¬ (!Builtin.List.listFitsIndex k)=true:=by
  rw[fitsIndex_both h1 h2]
  exact aq
 have hlong:¬ Builtin.List.listTooLong (its.toArray.size*k.toNat)=true:=by
  rw[jKQ hlen]
  exact aq
 have hnew:List.foldl (fun x1 x2=>x1++x2) #[] (replicate (if its.toArray.isEmpty=true then 0 else k.toNat) its.toArray)=(replicate k.toNat its).flatten.toArray:=by
  have f0:∀ m:Nat,List.foldl (fun x1 x2=>x1++x2) #[] (replicate m its.toArray)=(replicate m its).flatten.toArray:=fun m=>by
   have:=jEP its m []
   rw[List.nil_append] at this
   exact this
  rw[f0]
  cases its with
  | nil=>simp
  | cons a r'=>rw[am (by simp)]
 refine wpAny_binaryOp_repeat_ref (T:= "list") (U:= "int") (by decide) ⟨_,e,rfl⟩ (fun s'=>typeIs_int s' k t) noFill_list_mul F.fills_int_mul F.slot_int_rmul repeat_list F.slot_int_index.lookup
  (ej F.slot_int_rmul (typeIs_int s k t) F.entry_int_rmul (F.args_int_rmul_2 _ _) (int___rmul___int_list k t l its.toArray n)
   ⟨e,rfl,⟨_,e,rfl⟩,ej F.slot_list_mul ⟨_,e,rfl⟩ F.entry_list_mul (F.args_list_mul_2 _ _) (AutoListH.list___mul___list_int_3 l its.toArray n k t hfit hcap hlong) ⟨e,?_⟩⟩)
 rw[hnew]
 exact⟨.ref _,_,I.lnew (t':=s.toks) (r.rep k.toNat) (by rw[jMZ,el]; exact hz),rfl,q _ I.fresh⟩
end
section
variable {prog:Program}{w:World}{A:Around}{E:Value->Shared->Prop}{s:Shared}
set_option maxRecDepth 100000 in
end
section
variable {X:Cx}
end
end L2
namespace Att
open PySem PySem.W PySem.Calls PyProof.Rows
theorem jCN {P:Params}{h:Heap} :∀ (ns:List Int) (vs:List Value),WellAll P h vs (ns.map WData.int)->IntsAre vs ns:=by
 intro ns
 induction ns with
 | nil=>
  intro vs w
  rw[List.map_nil] at w
  cases w
  exact .nil
 | cons n ns ih=>
  intro vs w
  rw[ck] at w
  cases w with
  | cons a b=>
   cases a
   exact .cons _ _ (ih _ b)
theorem jIA {l:OpenLaw}{n:Nat}(hn:l.most=some n){P:Params}{h:Heap}{args:List WData}{vals:List Value}
  (hpre:l.row.toRowW.claim.pre args=true) (hwl:WellAll P h vals args):
  ∃ a vs ns,vals=[Value.ref a]/\args=[WData.list (ns.map WData.int)]/\h.get? a=some { cls:= .type "list",data:= .seq vs.toArray} /\IntsAre vs ns/\ns.length<=n:=by
 have hsh:WShape.hasAll [] args [.list .int]=true:=(pre_splitW hpre).1
 have hc:l.pre.holds [] { args:=args} =true:=(pre_splitW hpre).2
 obtain⟨d,r,rfl,h1,h2⟩:=hasAllW_cons hsh
 obtain rfl:=hasAllW_nil h2
 obtain⟨xs,rfl,h3⟩:=hasW_list h1
 obtain⟨ns,rfl⟩:=items_int h3
 have hlen:ns.length<=n:=by
  unfold OpenLaw.pre at hc
  have h4:(WTm.not (.lt (.lit (.int (n:Int))) (.len (.arg 0)))).holds [] { args:=[.list (ns.map .int)]} =true:=by
   have h4:=(holds_andW hc).1
   rw[hn] at h4
   exact h4
  have h5:=condW_of h4 (w_not (w_lt w_lit (w_len_list (w_arg rfl))))
  rw[ab] at h5
  refine Nat.le_of_not_lt fun q=>?_
  have q':(n:Int)<((ns.length:Nat):Int):=by omega
  first
   | (rw[aG q'] at h5; exact absurd h5 (by decide))
   | (simp at h5; omega)
 cases hwl with
 | cons w1 w2=>
  cases w2
  cases w1 with
  | list ho hall=>exact⟨_,_,ns,rfl,rfl,ho,jCN ns _ hall,hlen⟩
theorem jIJ (l:OpenLaw)(args:List WData):l.row.toRowW.claim.post args (.bool true) args=true:=
 postW_of (r:=l.row.toRowW) (X:=(true==true))
  (show WShape.has [] (.bool true) .bool=true by first | rfl | decide | simp [WShape.has,WShape.arms,WShape.armsAll])
  (show (WTm.eq .res (.lit (.bool true))).value [] { args:=args,res:=some (.bool true),after:=args} =some (.bool (true==true)) from w_eq_bool (w_res rfl) w_lit) rfl
theorem attach_call {l:OpenLaw}{n:Nat}{q:Program}{loose:List Str}{XP:(Str->Option Value)->Heap->Prop}{YP:World->Heap->Prop}{d:DefRec}
  (hn:l.most=some n) (hdf:d.params.defaults=[])
  (call:∀ (w:World) (s₀ s₁:Shared) (mg mb:Str->Option Value) (fa:Addr) (o:Obj) (pm cd doc:Value) (a:Addr) (vs:List Value) (ns:List Int),
   Ground q loose [] XP w s₀ mg mb s₁.heap->YP w s₁.heap->
   s₁.heap.get? fa=some o->o.data= .func (docDef d.name d.params d.body d.scope pm cd doc)->s₁.heap.CodeRec cd d.name->mg d.name=some (.ref fa)->
   s₁.heap.get? a=some { cls:= .type "list",data:= .seq vs.toArray} ->IntsAre vs ns->ns.length<=n->s₁.gens=#[]->
   codeAny (model l.prog w) callerA (.call (.ref fa) ⟨[.ref a],[]⟩) (fun r s'=>r= .ok (.ret (.bool true))/\OldK s₁.heap s'.heap/\s'.os=s₁.os/\AllBare s'.gens) s₁):
  WalkO q loose XP YP l.row.toRowW d [] (fun f vs=>PySem.call f vs):=by
 intro w s₀ s₁ mg mb G Y fa o pm cd doc dV kV ho hd hcd hD hmg hg args vals as hpre hlay hrd hwl hlo
 obtain rfl:dV= .none:=Dflts.none hD hdf
 obtain rfl:kV= .none:=Dflts.noKw hD
 obtain⟨a,vs,ns,rfl,rfl,hobj,hints,hlen⟩:=jIA hn hpre hwl
 refine enter_call (dn (call w s₀ s₁ mg mb fa o pm cd doc a vs ns G Y ho (fd_plain hd) hcd hmg hobj hints hlen hg) fun r s' hq=>?_)
 obtain⟨rfl,h2,h3,h4⟩:=hq
 exact⟨.inl ⟨.bool true, .bool true,[],rfl,fun _=>rfl, .bool true,jIJ l _,fun _=>⟨List.Pairwise.nil,fun _ hm=>(nomatch hm)⟩⟩,h2,h3,h4⟩
section
variable {prog:Program}{w:World}{A:Around}{E:Value->Shared->Prop}{s:Shared}{K:Frag}
end
end Att
namespace L2
open PySem PySem.Spec PyProof.Rows
theorem jE5:∀ {vs:List Value}{ns:List Int},IntsAre vs ns->Vals (ns.map V.int) vs
 | _,_, .nil=> .nil
 | _,_, .cons n t h=> .cons ⟨t,rfl⟩ (jE5 h)
def Only (H:Hp):Prop:=∀ b,H b=none\/∃ o xs,H b=some (.frz o (.lst xs))
theorem jKV {P:Program}{w:World}{K:W.Frag}{mg mb:Str->Option Value}{CX:CXT}{k:Nat}{fa a:Addr}{fd:FuncData}{x:Str}{sp:Sp}{s₁:Shared}{vs:List Value}{ns:List Int}
  (KX:K.In s₁.heap) (hns:s₁.heap.Ns mainGlobals mg) (hb:s₁.heap.Ns builtinsNs mb) (hbb:∀ x:Str,x≠ "__name__" ->mb x=bootBuiltins x) (hlim:s₁.heap.NoLimit) (hg:s₁.gens=#[])
  (ha:s₁.heap.get? a=some { cls:= .type "list",data:= .seq vs.toArray}) (hi:IntsAre vs ns) (hl:ns.length<=sizeLine) (hr:Room k callerA)
  (F:∀ base:Heap,K.In base->base.Ns mainGlobals mg->FnOk P w K mg base CX k fa fd [x] sp) (hbind:∀ (s:Shared) (u:Value),BindsTo s fd ⟨[u],[]⟩ [(x,u)])
  (hsp:∀ H:Hp,Only H->SqL K H a (ns.map V.int)->sp [.ref a] H (fun v _=>v= .bl true) fun _ _ _=>False)
  (hCX:∀ H e s',CX [] H s₁ (fun _ _ _=>False) e s'->False):
  codeAny (model P w) callerA (.call (.ref fa) ⟨[.ref a],[]⟩) (fun r s'=>r= .ok (.ret (.bool true))/\OldK s₁.heap s'.heap/\s'.os=s₁.os/\AllBare s'.gens) s₁:=by
 have rv:=jE5 hi
 have lenV:=hi.length
 have core:∀ H:Hp,Only H->SqL K H a (ns.map V.int)->HOk P w H s₁.heap->(∀ b,H b≠none->b=a)->(H a≠none->K.lookup a=none)->
   codeAny (model P w) callerA (.call (.ref fa) ⟨[.ref a],[]⟩) (fun r s'=>r= .ok (.ret (.bool true))/\OldK s₁.heap s'.heap/\s'.os=s₁.os/\AllBare s'.gens) s₁:=by
  intro H hO hS hok hA hK
  have base_of:∀ {b:Addr}{o:Obj},s₁.heap.get? b=some o->H b=none->(hidT s₁.heap H).get? b=some o:=fun e n=>jKY e n
  have noA:∀ {b:Addr}{o:Obj}{es:Array DictEntry}{ep:Nat},s₁.heap.get? b=some o->o.data= .dict es ep->H b=none:=fun {b o es ep} e d=>by
   cases q:H b with
   | none=>rfl
   | some u=>
    have e':b=a:=hA b (by rw[q]; simp)
    subst e'
    rw[ha] at e; cases e
    have d':Data.seq vs.toArray _=Data.dict es ep:=d
    cases d'
  have nsK:∀ {b:Addr}{m:Str->Option Value},s₁.heap.Ns b m->(hidT s₁.heap H).Ns b m:=fun {b m} ⟨o,es,ep,e,d,r⟩=>⟨o,es,ep,base_of e (noA e d),d,r⟩
  have hKb:K.In (hidT s₁.heap H):=fun b o e=>base_of (KX b o e) (by
   cases q:H b with
   | none=>rfl
   | some u=>
    have e':b=a:=hA b (by rw[q]; simp)
    subst e'
    rw[hK (by rw[q]; simp)] at e; cases e)
  have hM:Mod K mg (hidT s₁.heap H):=⟨hKb,nsK hns,⟨mb,nsK hb,hbb⟩,let ⟨mc,h1,h2⟩:=hlim; ⟨mc,nsK h1,h2⟩⟩
  have e0:Env0 P w K mg (hidT s₁.heap H) callerA [] s₁ H:=⟨rfl,hM,fun b o e=>jMW e,Nat.le_of_eq (jJD _ _),trivial,fun b hb=>absurd (show b∈([]:List Addr) from hb) (by simp),hok, .of_eq hg⟩
  refine dn ((F _ hKb (nsK hns)).run callerA [] s₁ H ⟨[.ref a],[]⟩ [.ref a] [.ref a] _ _ hr e0 (hbind s₁ (.ref a)) (.cons rfl .nil) (hsp H hO hS)) fun r s' h=>?_
  cases r with
  | error e=>exact(hCX H e s' h).elim
  | ok fl=>
   cases fl with
   | next=>exact False.elim h
   | brk=>exact False.elim h
   | cont=>exact False.elim h
   | ret u=>
    obtain⟨v,H',os,bare,un,hok',r',q⟩:=h
    have q':v= .bl true:=q
    subst q'
    obtain rfl:u=Value.bool true:=r'
    refine⟨rfl,OldK.of_keep fun b o e=>?_,os,bare⟩
    cases q:H b with
    | none=>exact un.keep b o e q (by intro z; exact absurd (show b∈([]:List Addr) from z) (by simp)) (by simp)
    | some u=>
     rcases hO b with z | ⟨ob,xs,z⟩
     ·rw[q] at z; cases z
     ·have z2:=un.frzs b ob _ z
      obtain⟨e1,_⟩:=hok b _ z
      obtain⟨e2,_⟩:=hok' b _ z2
      rw[e] at e1; cases e1
      exact e2
 cases hk:K.lookup a with
 | some o=>
  have e:=KX a o hk
  rw[ha] at e
  cases e
  refine core (fun _=>none) (fun _=> .inl rfl) (.inr ⟨_,vs.toArray,_,hk,rfl,rfl,rfl,by rw[au,lenV]; exact hl,by simpa using rv⟩) (fun b u z=>by have z':(none:Option HO)=some u:=z; cases z') (fun b z=>absurd rfl z) fun z=>absurd rfl z
 | none=>
  refine core (fun b=>if b=a then some (.frz { cls:= .type "list",data:= .seq vs.toArray} (.lst (ns.map V.int))) else none) (fun b=>?_) (.inl (.inr ⟨{ cls:= .type "list",data:= .seq vs.toArray},ah rfl⟩)) (fun b u z=>?_) (fun b z=>?_) fun _=>hk
  ·by_cases hb:b=a
   ·exact .inr ⟨_,_,ah hb⟩
   ·exact .inl (am hb)
  ·by_cases hb:b=a
   ·have z':=(ah hb).symm.trans z
    cases z'
    subst hb
    exact⟨ha,by rw[ab]; exact hl,vs,_,rv,ha⟩
   ·have z':=(am hb).symm.trans z
    cases z'
  ·by_cases hb:b=a
   ·exact hb
   ·exact absurd (am hb) z
end L2
namespace L2
open PySem PySem.Spec PyProof.Rows
theorem walk_of {l:PySem.W.OpenLaw}{n k:Nat}{q:Program}{loose:List Str}{XP:(Str->Option Value)->Heap->Prop}{YP:World->Heap->Prop}{d:DefRec}{K:Params->W.Frag}{CX:World->CXT}{sp:World->Sp}{x:Str}
  (hn:l.most=some n) (hn2:n<=sizeLine) (hdf:d.params.defaults=[]) (hr:Room k callerA)
  (hY:∀ (w:World) (h:Heap),YP w h->(K w.params).In h)
  (F:∀ (w:World) (mg:Str->Option Value) (fa:Addr) (h:Heap),(K w.params).In h->h.Ns mainGlobals mg->mg d.name=some (.ref fa)->
   ∃ fd:FuncData,(∀ (s:Shared) (u:Value),BindsTo s fd ⟨[u],[]⟩ [(x,u)])/\
    ∀ base:Heap,(K w.params).In base->base.Ns mainGlobals mg->FnOk l.prog w (K w.params) mg base (CX w) k fa fd [x] (sp w))
  (hsp:∀ (w:World) (H:Hp) (a:Addr) (ns:List Int),ns.length<=n->Only H->SqL (K w.params) H a (ns.map V.int)->sp w [.ref a] H (fun v _=>v= .bl true) fun _ _ _=>False)
  (hCX:∀ (w:World) (H:Hp) (s:Shared) (e:Value) (s':Shared),CX w [] H s (fun _ _ _=>False) e s'->False):
  PySem.W.WalkO q loose XP YP l.row.toRowW d [] (fun f vs=>PySem.call f vs):=by
 refine Att.attach_call hn hdf fun w s₀ s₁ mg mb fa o pm cd doc a vs ns G Y ho hd hcd hmg hobj hints hlen hg=>?_
 have KX:=hY w _ Y
 obtain⟨fd,hb,hF⟩:=F w mg fa _ KX G.T.g hmg
 exact jKV KX G.T.g G.T.b G.T.builtins G.T.nolimit hg hobj hints (aZ hlen hn2) hr hF hb (fun H hO hS=>hsp w H a ns hlen hO hS) fun H e s'=>hCX w H s₁ e s'
end L2
/- THE LAST THEOREM (shape; LID,My.* are yours):
  My.Adr:a structure of the addresses that your layer names (classes,functions); My.Txt K t:a structure (Prop) of the equations over K;
  My.txt_mk: {K} {implicit addresses ..} (e1:nsIn K mainGlobals "law" =some (some (.ref f))) (e2:K.lookup f=some ⟨oc,od, .func (fnOf "law" "law" params body scope dV kV doc pm an cdv ct),sl⟩) (e3:codeIn K cdv "law" =true) .. :∃ t,My.Txt K t
set_option maxRecDepth 100000 in
set_option maxHeartbeats 0 in
theorem PySem.Challenge.cw_LID_holds : PySem.Challenge.rw_LID.Holds := by
 w_on; o_law; k_head; (case hw=>w_witness2)
 k_fill
 refine L2.walk_of (l:=PySem.Challenge.rw_LID) (n:=63) (k:=40) (x:= "script") (CX:=fun w=> ..) (sp:=fun _=>My.sp_law) rfl (by decide) rfl ⟨rfl,by decide,by decide⟩ (fun w h Y=>kIn_of Y) ?F ?S ?C
 case F=>
  intro w mg fa h KX G hmg
  have T:∃ t,My.Txt (L2.KOf KX) t:=by
   dsimp only [L2.KOf] -- K must stand as «<heap const>w.params» for k_is
   refine' My.txt_mk ?e1 ?e2 ?e3 ..
   (case e1=>PySem.W.k_is) -- in the order:a name->its address->its object->its parts
   (case e2=>PySem.W.k_is)
   ..
  obtain⟨t,T⟩:=T
  have e0:=hmg.symm.trans (dO KX G T.law)
  cases e0 -- fa is the law's own address
  exact⟨_,fun s u=> .of_eq rfl,fun base kb nb=>My.law_fn T kb nb⟩ -- if «.of_eq rfl» comes too early:refine' ⟨_,?b,fun base kb nb=>My.law_fn T kb nb⟩; exact fun s u=> .of_eq rfl
 case S=>exact fun w H a ns hl hO hS=> ..
 case C=>exact ..
(the tactic k_is has no namespace:write k_is) -/
namespace L2
open PySem PySem.Spec PyProof.Rows
abbrev CX0:CXT:=fun _ _ _ _ _ _=>False
abbrev E0:XK:=fun _ _ _=>False
theorem pass0 {X:Cx} :jK7 CX0 X E0:=fun _ _ _ _ _ _ _ h=>h.elim
structure Fun (K:W.Frag)(x qual:Str)(st:Stmt)(f:Addr)(fd:FuncData):Prop where
 ex:∃ (oc:Value) (od:Option Addr) (kV doc pm:Value) (an:Option Addr) (cdv ct:Value) (osl:Array (Option Value)),
  fd=PySem.W.fnOf x qual (jR st) (jB st) (j7 st) .none kV doc pm an cdv ct/\K.lookup f=some ⟨oc,od, .func fd,osl⟩/\PySem.W.codeIn K cdv qual=true
 kp:keepIn K (.ref f)=true
section
variable {P:Program}{w:World}{K:W.Frag}{mg:Str->Option Value}{base:Heap}
theorem Fun.ok {x qual:Str}{st:Stmt}{f:Addr}{fd:FuncData}{N ps:List Str}{k:Nat}{sp:Sp}(F:Fun K x qual st f fd)(S:FnScope N ps (j7 st))(len:∀ vs H Q E,sp vs H Q E->vs.length=ps.length)
  (hbody:∀ (cdv:Value) (A:Around) (outer:List Env) (s:Shared) (H:Hp) (vs:List V) (Q:VK) (E:XK),Room k (A.deeper (envOfC qual (j7 st) s.heap.objs.size f cdv))->sp vs H Q E->
   ∃ t,PSs (cxOf CX0 P w K mg base N qual (j7 st) f cdv A outer s H E).nox (jB st) t/\t { nx:=fun _ H'=>Q .non H',rt:=Q} (yJ N vs) H):FnOk P w K mg base CX0 (k+1) f fd ps sp:=by
 obtain⟨oc,od,kV,doc,pm,an,cdv,ct,osl,rfl,lk,hcd⟩:=F.ex
 refine fn_of lk hcd S len fun A outer s H vs Q E hr hsp=>?_
 obtain⟨t,h,q⟩:=hbody cdv A outer s H vs Q E hr hsp
 exact⟨t,h.nox,q⟩
theorem Fun.binds {x qual:Str}{st:Stmt}{f:Addr}{fd:FuncData}{ps:List Str}(F:Fun K x qual st f fd)
  (h:∀ (kV doc pm:Value) (an:Option Addr) (cdv ct:Value) (us:List Value),us.length=ps.length->bindArgs (PySem.W.fnOf x qual (jR st) (jB st) (j7 st) .none kV doc pm an cdv ct) ⟨us,[]⟩=pure (ps.zip us)):Binds K fd ps []:=by
 obtain⟨oc,od,kV,doc,pm,an,cdv,ct,osl,rfl,lk,hcd⟩:=F.ex
 exact .all (h kV doc pm an cdv ct)
theorem kQ {x qual:Str}{st:Stmt}{f:Addr}{oc:Value}{od an:Option Addr}{osl:Array (Option Value)}{kV doc pm cdv ct:Value}(l:K.lookup f=some ⟨oc,od, .func (PySem.W.fnOf x qual (jR st) (jB st) (j7 st) .none kV doc pm an cdv ct),osl⟩)
  (c:PySem.W.codeIn K cdv qual=true) (k:keepIn K (.ref f)=true):Fun K x qual st f (PySem.W.fnOf x qual (jR st) (jB st) (j7 st) .none kV doc pm an cdv ct):=⟨⟨oc,od,kV,doc,pm,an,cdv,ct,osl,rfl,l,c⟩,k⟩
end
section
variable {X:Cx}
theorem pv (i:Nat){x:Str}{pos:Pos}(hN:X.N[i]?=some x:=by rfl)(hv:Vis X.env.scope x:=by first | exact Or.inl rfl | exact Or.inr (Or.inl rfl) | exact Or.inr (Or.inr rfl))(hd:(x==("__debug__" :Str))=false:=by decide)
  (hcd:(x==("__classdict__" :Str))=false:=by decide):PE X (.Name x pos) (tVar i):=jLJ hN hv hd hcd
end
theorem iteF {A B:Prop}(h:B):if false=true then A else B:=by
 rw[am aq]
 exact h
theorem iteT {A B:Prop}(h:A):if true=true then A else B:=by
 rw[ah rfl]
 exact h
theorem ite2 {c A B:Prop} [Decidable c](h1:c->A)(h2:¬ c->B):if c then A else B:=by
 by_cases h:c
 ·rw[ah h]
  exact h1 h
 ·rw[am h]
  exact h2 h
theorem iteNS {c A B:Prop} [Decidable c](hc:c)(h:B):if (!decide c)=true then A else B:=by
 rw[aG hc]
 exact iteF h
def jY (cells:List (Str×Addr)):List (Str×NameKind)->List (Str×Addr)->List (Str×Addr)
 | [],acc=>acc
 | (n,k)::r,acc=>if k= .free then jY cells r ((n,(cells.lookup n).getD 0)::acc) else jY cells r acc
theorem jBS {env:Env} :∀ (l:List (Str×NameKind)) (acc:List (Str×Addr)),(∀ y∈l,y.2= .free->∃ c,env.cells.lookup y.1=some c)->
  (forIn l acc fun (x:Str×NameKind) (cs:List (Str×Addr))=>(if (x.2==NameKind.free)=true then (do let a <- cellOf env x.1; pure (ForInStep.yield ((x.1,a)::cs))) else pure (ForInStep.yield cs):Sem (ForInStep (List (Str×Addr)))))=pure (jY env.cells l acc)
 | [],acc,_=>rfl
 | (n,k)::r,acc,h=>by
  have hr:∀ y∈r,y.2= .free->∃ c,env.cells.lookup y.1=some c:=fun y hy=>h y (aA _ hy)
  rw[eE]
  by_cases hk:k= .free
  ·subst hk
   obtain⟨c,hc⟩:=h (n, .free) aE rfl
   have e:cellOf env n=pure c:=by unfold cellOf; rw[hc]
   have e2:jY env.cells ((n,NameKind.free)::r) acc=jY env.cells r ((n,c)::acc):=by
    show (if NameKind.free=NameKind.free then jY env.cells r ((n,(env.cells.lookup n).getD 0)::acc) else _)=_
    rw[ah rfl,hc]; rfl
   rw[e2,<- jBS r ((n,c)::acc) hr]
   show ((do let a <- cellOf env n; pure (ForInStep.yield ((n,a)::acc))) >>= _)=_
   rw[e]; rfl
  ·have hb:(k==NameKind.free)=false:=by cases k <;> first | rfl | exact absurd rfl hk
   have e2:jY env.cells ((n,k)::r) acc=jY env.cells r acc:=by
    show (if k=NameKind.free then _ else jY env.cells r acc)=_
    rw[am hk]
   rw[e2,<- jBS r acc hr]
   show ((if (k==NameKind.free)=true then _ else pure (ForInStep.yield acc)) >>= _)=_
   rw[hb]; rfl
theorem jJR {env:Env}{sc:Scope}(h:∀ y∈sc.names,y.2= .free->∃ c,env.cells.lookup y.1=some c):closureFor sc env=pure (jY env.cells sc.names []):=by
 unfold closureFor
 show (forIn sc.names [] _ >>= fun cs=>pure cs)=_
 rw[show (forIn sc.names ([]:List (Str×Addr)) _:Sem _)=_ from jBS sc.names [] h]
 rfl
theorem jAU {cells:List (Str×Addr)} :∀ (l:List (Str×NameKind)) (acc:List (Str×Addr)),(∀ y∈l,y.2= .free->∃ c,cells.lookup y.1=some c)->
  (∀ x c,acc.lookup x=some c->cells.lookup x=some c)->∀ x c,(jY cells l acc).lookup x=some c->cells.lookup x=some c
 | [],acc,_,ha=>ha
 | (n,k)::r,acc,h,ha=>by
  have hr:∀ y∈r,y.2= .free->∃ c,cells.lookup y.1=some c:=fun y hy=>h y (aA _ hy)
  unfold jY
  by_cases hk:k= .free
  ·rw[ah hk]
   obtain⟨c0,hc⟩:=h (n,k) aE hk
   refine jAU r _ hr fun x c e=>?_
   rw[aw] at e
   cases hx:x==n with
   | true=>
    rw[hx] at e
    have exn:x=n:=eq_of_beq hx
    subst exn
    have hc':cells.lookup x=some c0:=hc
    rw[hc'] at e ⊢
    exact e
   | false=>rw[hx] at e; exact ha x c e
  ·rw[am hk]; exact jAU r acc hr ha
theorem jAB {cells:List (Str×Addr)}{x:Str} :∀ (l:List (Str×NameKind)) (acc:List (Str×Addr)),((x,NameKind.free)∈l\/∃ c,acc.lookup x=some c)->∃ c,(jY cells l acc).lookup x=some c
 | [],acc,h=>by
  rcases h with h | h
  ·cases h
  ·exact h
 | (n,k)::r,acc,h=>by
  unfold jY
  by_cases hk:k= .free
  ·rw[ah hk]
   refine jAB r _ ?_
   by_cases e:x=n
   ·subst e
    exact .inr ⟨_,by rw[aw,dX]⟩
   ·rcases h with h | ⟨c,h⟩
    ·rcases av.mp h with q | q
     ·cases q; exact absurd rfl e
     ·exact .inl q
    ·refine .inr ⟨c,?_⟩
     rw[aw,bx.mpr e]
     exact h
  ·rw[am hk]
   refine jAB r _ ?_
   rcases h with h | h
   ·rcases av.mp h with q | q
    ·cases q; exact absurd rfl hk
    ·exact .inl q
   ·exact .inr h
theorem jA6 {x:Str}{k:NameKind} :∀ {l:List (Str×NameKind)},l.lookup x=some k->(x,k)∈l
 | [],h=>by cases h
 | (n,k')::r,h=>by
  rw[aw] at h
  cases hx:x==n with
  | true=>rw[hx] at h; cases h; rw[eq_of_beq hx]; exact aE
  | false=>rw[hx] at h; exact aA _ (jA6 h)
theorem jBN {env:Env}{x:Str}{k:NameKind}(hk:k= .cell\/k= .free):∀ {l:List (Str×NameKind)},(∀ y∈l,y.2≠ .cell)->
  (l.map fun (n,k)=>if (k==NameKind.free&&env.scope.kind== .function&&env.kindOf n==some .cell) then (n,NameKind.cell) else (n,k)).lookup x=some k->l.lookup x=some .free
 | [],_,h=>by simp at h
 | (n,k')::r,hc,h=>by
  have ih:= @jBN env x k hk r (fun y hy=>hc y (aA _ hy))
  have hc0:k'≠ .cell:=hc (n,k') aE
  rw[aw]
  rw[ck] at h
  dsimp only at h
  by_cases hb:(k'==NameKind.free&&env.scope.kind== .function&&env.kindOf n==some .cell)=true
  ·rw[ah hb,aw] at h
   cases hx:x==n with
   | true=>
    have:k'= .free:=by
     simp only [bp] at hb
     exact eq_of_beq hb.1.1
    rw[this]
   | false=>rw[hx] at h; exact ih h
  ·rw[am hb,aw] at h
   cases hx:x==n with
   | true=>
    rw[hx] at h
    have e:k'=k:=aN h
    rcases hk with q | q
    ·exact absurd (e.trans q) hc0
    ·rw[e,q]
   | false=>rw[hx] at h; exact ih h
theorem jA7 {env:Env}{x:Str} :∀ {l:List (Str×NameKind)},l.lookup x=some .free->
  (l.map fun (n,k)=>if (k==NameKind.free&&env.scope.kind== .function&&env.kindOf n==some .cell) then (n,NameKind.cell) else (n,k)).lookup x=some .cell\/
  (l.map fun (n,k)=>if (k==NameKind.free&&env.scope.kind== .function&&env.kindOf n==some .cell) then (n,NameKind.cell) else (n,k)).lookup x=some .free
 | [],h=>by cases h
 | (n,k')::r,h=>by
  have ih:= @jA7 env x r
  rw[aw] at h
  rw[ck]
  dsimp only
  by_cases hb:(k'==NameKind.free&&env.scope.kind== .function&&env.kindOf n==some .cell)=true
  ·rw[ah hb,aw]
   cases hx:x==n with
   | true=>exact .inl rfl
   | false=>rw[hx] at h; exact ih h
  ·rw[am hb,aw]
   cases hx:x==n with
   | true=>rw[hx] at h; exact .inr h
   | false=>rw[hx] at h; exact ih h
section
variable {prog:Program}{w:World}{A:Around}{R:Result->Shared->Prop}{s:Shared}
abbrev jHW (ifs:List Expr)(env:Env):Sem Bool:=forIn ifs true fun c r=>if r=true then do let ok <- isTrue c env (eval c env); pure (ForInStep.yield ok) else pure (ForInStep.yield r)
theorem jD6 {elt tg iter:Expr}{ifs:List Expr}{sc:Scope}{pos:Pos}{it acc:Value}{env:Env}(J:Nat->Shared->Prop)
  (turn:∀ n z,J n z->wpAny (model prog w) A (pyNext it) (fun r z1=>match r with
   | none=>R (.ok .next) z1
   | some v=>wpAny (model prog w) A (letOwnedTupleGo tg it v) (fun _ z2=>wpAny (model prog w) A (assign tg env v) (fun _ z3=>wpAny (model prog w) A (jHW ifs env) (fun ok z4=>
     if ok=true then wpAny (model prog w) A (eval elt env) (fun x z5=>wpAny (model prog w) A (call (.builtin "list.append") [acc,x]) (fun _ z6=>∃ k,k<n/\J k z6) (fun _ _=>False) z5) (fun _ _=>False) z4
     else ∃ k,k<n/\J k z4) (fun _ _=>False) z3) (fun _ _=>False) z2) (fun _ _=>False) z1) (fun _ _=>False) z)
  (n:Nat) (h:J n s):codeAny (model prog w) A (.compLoop (.ListComp elt [⟨tg,iter,ifs,0⟩] sc pos) 0 it acc env) R s:=by
 refine codeAny_loop rfl J (fun k z hJ=>?_) n h
 have noE:∀ {α:Type}{t:Sem α}{Q:α->Shared->Prop}{E:Value->Shared->Prop}{z:Shared},wpAny (model prog w) A t Q (fun _ _=>False) z->wpAny (model prog w) A t Q E z:=
  fun q=>bJ q (fun _ _ a=>a) fun _ _ f=>f.elim
 show wpAny _ A ((compTurn (.ListComp elt [⟨tg,iter,ifs,0⟩] sc pos) 0 it acc env).onRaise (fun x=>do noteFrame x env; theTreesLotGoes x)) _ _ z
 refine wpAny_noted ?_
 rw[compTurn_list]
 refine aa (dN (aa (bJ (turn k z hJ) (fun r z1 q1=>?_) fun _ _ f=>f.elim)))
 cases r with
 | none=>exact ae q1
 | some v=>
  refine aa (bJ q1 (fun _ z2 q2=>?_) fun _ _ f=>f.elim)
  refine aa (bJ q2 (fun _ z3 q3=>?_) fun _ _ f=>f.elim)
  refine aa (bJ q3 (fun ok z4 q4=>?_) fun _ _ f=>f.elim)
  cases ok with
  | false=>exact ae ⟨rfl,q4⟩
  | true=>
   refine aa (aa (bJ q4 (fun x z5 q5=>?_) fun _ _ f=>f.elim))
   exact aa (bJ q5 (fun _ z6 q6=>ae (ae ⟨rfl,q6⟩)) fun _ _ f=>f.elim)
end
noncomputable def blk (X:Cx)(sc:Scope)(cl:List (Str×Addr))(C:Addr)(Nc:List Str)(fp:List Addr)(s:Shared)(H:Hp):Cx where
 prog:=X.prog
 w:=X.w
 K:=X.K
 mg:=X.mg
 base:=X.base
 A:=X.A
 N:=Nc
 s₀:=s
 H₀:=H
 env:=compEnvC sc cl C X.env
 outer:=X.stack
 stack:=X.stack
 ex:=fp
 fn:=fun _=>false
 calm:=X.calm
 pn:=[]
 xe:=fun _ _=>False
def blkσ (m:List (Option Nat))(σ:St):St:=m.map fun o=>match o with
 | none=>none
 | some i=>(σ[i]?).getD none
def PTs (X:Cx)(ifs:List Expr)(t:TT):Prop:=
 ∀ (pins:List (Addr×Obj)) (s:Shared) (σ:St) (H:Hp) (Q:Bool->Hp->Prop),Inv X pins σ H s->t σ H Q->wpAny (model X.prog X.w) X.A (jHW ifs X.env) (TP X pins σ Q) X.xe s
def yA:TT:=fun _ H Q=>Q true H
theorem jIH {X:Cx} :PTs X [] yA:=fun _ _ _ H _ I h=>wpAny_tests_nil ⟨H,I,h⟩
theorem jIG {X:Cx}{c:Expr}{t:TT}(h:PT X c t):PTs X [c] t:=fun pins s σ H Q I q=>wpAny_tests_one (h pins s σ H Q I q)
def CompW (m:List (Option Nat))(g:TG)(tt:TT)(te:TE)(σ:St)(Q:VK)(J:It)(H1:Hp):Prop:=∀ D,H1 D=none->∃ W:Nat->Nat->St->Hp->List V->Prop,
  (∃ n,W 0 n (blkσ m σ) (upd H1 D (.lst [])) [])/\∀ i n σ' H' ys,W i n σ' H' ys->H' D=some (.lst ys)/\ys.length<sizeLine/\
   ((J.stop i H'/\Q (.ref D) H')\/(J.go i H'/\∃ N:St->Hp->List V->Prop,(∀ σ2 H2 zs,N σ2 H2 zs->∃ n',n'<n/\W (i+1) n' σ2 H2 zs)/\∀ x H'',J.yld i H' x H''->g x σ' H'' fun σ2 H2=>tt σ2 H2 fun b H3=>
    if b=true then te σ2 H3 fun v H4=>H4 D=some (.lst ys)/\N σ2 (upd H4 D (.lst (ys++[v]))) (ys++[v])
    else N σ2 H3 ys))
def tComp (m:List (Option Nat))(wi:TI)(g:TG)(tt:TT)(te:TE):TE:=fun σ H Q=>wi σ H (CompW m g tt te σ Q)
theorem Un.sameBut {fs ex:List Addr}{H H':Hp}{h h1 h2:Heap}{C:Addr}(u:Un fs ex H H' h h1)(sb:Heap.SameBut C h1 h2)(hC:h.objs.size<=C):Un fs ex H H' h h2:=by
 have ne:∀ {b:Addr}{o:Obj},h.get? b=some o->b≠C:=fun e=>aC (aD (ag e) hC)
 refine⟨fun b o e n hf hx=>(sb.2 b (ne e)).trans (u.keep b o e n hf hx),fun b o e n hf hx=>?_,u.free,fun b o e hx=>?_,u.tups,u.frzs,u.tbls⟩
 ·obtain⟨sl,q⟩:=u.slot b o e n hf hx
  exact⟨sl,(sb.2 b (ne e)).trans q⟩
 ·obtain⟨o',q⟩:=u.there b o e hx
  exact⟨o',(sb.2 b (ne e)).trans q⟩
theorem HOk.sameBut {P:Program}{w:World}{H:Hp}{h1 h2:Heap}{C:Addr}(x:HOk P w H h1)(sb:Heap.SameBut C h1 h2)(hC:H C=none):HOk P w H h2:=fun a o e=>
 (x a o e).stay (fun b u hb q=>(sb.2 b (by
  rintro rfl
  rcases hb with rfl | hb
  ·rw[hC] at e; cases e
  ·rw[hC] at hb; cases hb)).trans q) (fun _ q=>q) fun _ _ q=>q
section
variable {X:Cx}{tg iter elt:Expr}{ifs:List Expr}{sc:Scope}{pos:Pos}{wi:TI}{g:TG}{tt:TT}{te:TE}{m:List (Option Nat)}{Nc:List Str}
def yO (X:Cx)(sc:Scope)(Nc:List Str)(m:List (Option Nat)):Prop:=
 m.length=Nc.length/\∀ (k i:Nat),m[k]?=some (some i)->∃ x,Nc[k]?=some x/\X.N[i]?=some x/\sc.names.lookup x=some .free
theorem jK1 {pins:List (Addr×Obj)}{s:Shared}{σ:St}{H:Hp}{fp:List Addr}(I:Inv X pins σ H s)(hkind:sc.kind= .function)(hcell:∀ y∈sc.names,y.2≠ .cell)
  (hfree:∀ y∈sc.names,y.2= .free->X.env.scope.names.lookup y.1=some .cell\/X.env.scope.names.lookup y.1=some .free) (hm:yO X sc Nc m) (hfp:∀ b∈fp,FpOk X pins H b) (hlt:∀ b∈fp,b<s.heap.objs.size)
  {h1:Heap}{tk:Nat}{md:Str->Option Value}(hns:h1.Ns s.heap.objs.size md) (old:∀ b o,s.heap.get? b=some o->h1.get? b=some o):
  Inv (blk X sc (jY X.env.cells sc.names []) s.heap.objs.size Nc fp s H) [] (blkσ m σ) H { s with heap:=h1,toks:=tk} :=by
 have hcl:∀ y∈sc.names,y.2= .free->∃ c,X.env.cells.lookup y.1=some c:=fun y hy hf=>I.ok.has y.1 (hfree y hy hf)
 have sub:∀ x c,(jY X.env.cells sc.names []).lookup x=some c->X.env.cells.lookup x=some c:=jAU sc.names [] hcl (fun x c e=>by cases e)
 have isfree:∀ x,(compEnvC sc (jY X.env.cells sc.names []) s.heap.objs.size X.env).kindOf x=some .cell\/(compEnvC sc (jY X.env.cells sc.names []) s.heap.objs.size X.env).kindOf x=some .free->sc.names.lookup x=some .free:=fun x h=>by
  rcases h with h | h
  ·exact jBN (.inl rfl) hcell h
  ·exact jBN (.inr rfl) hcell h
 refine⟨⟨I.ok.mod,hkind,I.ok.glob,I.ok.blt,af _,fun x y c h1 h2=>I.ok.inj x y c (sub x c h1) (sub y c h2),fun x hx=>?_,fun x c hf _=>?_,I.ok.hd,I.ok.frames, .inl rfl,fun b hb=>?_,I.bs,aZ I.ok.bsz I.sz,fun b o e hb=>?_,fun b hb hz=>?_,I.stack,I.stkFree⟩,
  rfl,I.bare,Un.kept old,⟨md,hns,fun k x v e1 e2 e3=>?_⟩,fun x c e=>?_,I.hok.fresh (af _),fun x c e=>I.freeC x c (sub x c e),fun p hp=>absurd (show p∈([]:List (Addr×Obj)) from hp) (by simp),I.hok.kept old,?_⟩
 ·exact jAB sc.names [] (.inl (jA6 (isfree x hx)))
 ·exact absurd (show false=true from hf) aq
 ·obtain⟨f0,f1,f2,f3,f4,f5⟩:=hfp b hb
  exact⟨aC (hlt b hb),fun x c e=>f4 x c (sub x c e)⟩
 ·obtain⟨f0,f1,f2,f3,f4,f5⟩:=hfp b hb
  rcases f3 with q | q
  ·exact I.ok.noex b o e q
  ·exact absurd (aD (ag (I.ok.bs b o e).1) q) (aV _)
 ·obtain⟨f0,f1,f2,f3,f4,f5⟩:=hfp b hb
  rcases av.mp (I.stkSub b hz) with q | q
  ·exact f1 q
  ·exact f2 q
 ·have e2':∃ i,m[k]?=some (some i)/\σ[i]?=some (some v):=by
   unfold blkσ at e2
   rw[ay] at e2
   cases q:m[k]? with
   | none=>rw[q] at e2; cases e2
   | some o=>
    rw[q] at e2
    cases o with
    | none=>cases e2
    | some i=>
     refine⟨i,rfl,?_⟩
     have e2:(σ[i]?).getD none=some v:=aN e2
     cases r:σ[i]? with
     | none=>rw[r] at e2; cases e2
     | some z=>rw[r] at e2; exact bo some e2
  obtain⟨i,q1,q2⟩:=e2'
  obtain⟨x',a1,a2,a3⟩:=hm.2 k i q1
  have e1':Nc[k]?=some x:=e1
  rw[e1'] at a1
  cases a1
  have vis:=hfree (x, .free) (jA6 a3) rfl
  obtain⟨m0,hn0,hl0⟩:=I.loc
  obtain⟨u,r,l⟩:=hl0 i x v a2 q2 (.inr vis)
  refine⟨u,r, .inr ⟨jA7 a3,?_⟩⟩
  obtain⟨c,hc⟩:=jAB (cells:=X.env.cells) (x:=x) sc.names [] (.inl (jA6 a3))
  rcases l with ⟨lk,_⟩ | ⟨_,c',hc',o,ho,hd⟩
  ·have lk':X.env.scope.names.lookup x=some .local:=lk
   rcases vis with z | z
   ·rw[lk'] at z; cases z
   ·rw[lk'] at z; cases z
  ·have:=sub x c hc
   rw[hc'] at this
   cases this
   exact⟨c,hc,o,old _ _ ho,hd⟩
 ·obtain⟨v,o,ho,hd⟩:=I.cell x c (sub x c e)
  exact⟨v,o,old _ _ ho,hd⟩
 ·show (blkσ m σ).length=Nc.length
  unfold blkσ
  rw[ab]
  exact hm.1
theorem jGU {tf:St->TE}(hc:X.calm=true)(hi:PI X tg iter wi)(hkind:sc.kind= .function)(hcell:∀ y∈sc.names,y.2≠ .cell)(hnames:∀ y∈sc.names,y.2= .local->sc.names.lookup y.1=some .local)
  (hfree:∀ y∈sc.names,y.2= .free->X.env.scope.names.lookup y.1=some .cell\/X.env.scope.names.lookup y.1=some .free) (hm:yO X sc Nc m)
  (hg:∀ cl C fp s H,PG (blk X sc cl C Nc fp s H) tg g) (ht:∀ cl C fp s H,PTs (blk X sc cl C Nc fp s H) ifs tt) (he:∀ cl C fp s H pins σ,Inv X pins σ H s->(∀ b∈fp,FpOk X pins H b)->PE (blk X sc cl C Nc fp s H) elt (tf σ))
  (hs:∀ x,foldedSetIterable iter X.env x=pure x) {fpos:Pos}{use:Option (Value->Sem Unit)}{R:Value->Shared->Prop}{pins:List (Addr×Obj)}{s:Shared}{σ:St}{H:Hp}{Q:VK}(I:Inv X pins σ H s) (h:tComp m wi g tt (tf σ) σ H Q)
  (fin:∀ (D C:Addr) (H5:Hp) (z1:Shared) (r:Flow),(∃ mm,z1.heap.Ns C mm)->FpOk X pins H5 C->(∀ h',Heap.SameBut C z1.heap h'->Inv X pins σ H5 { z1 with heap:=h'})->Q (.ref D) H5->compPost (model X.prog X.w) X.A X.xe use R (.ref D) C (.ok r) z1):
  wpAny (model X.prog X.w) X.A (comprehension (.ListComp elt [⟨tg,iter,ifs,0⟩] sc pos) sc X.env fpos (newList []) false (eval iter X.env) use) R X.xe s:=by
 have hcl:∀ y∈sc.names,y.2= .free->∃ c,X.env.cells.lookup y.1=some c:=fun y hy hf=>I.ok.has y.1 (hfree y hy hf)
 refine dP (use:=use) rfl hs (jJR hcl) hkind hnames (thn (hi pins s σ H _ I h) fun v s1 h1=>thn h1 fun itv s2 h2=>?_)
 obtain⟨it,fp,tn,J,H2,e,I2,T,st2,f2,hQ⟩:=h2
 subst e
 have hlt:∀ b∈fp,b<s2.heap.objs.size:=fun b hb=>by
  obtain⟨o,e,_⟩:=T.obj 0 _ st2 b hb
  exact ag e
 refine ba (wpAny_newFunctionEnv hcell (by intro y hy; simp at hy) (fun h₁ hns₁ hsb₁=>?_) hkind)
 have I3:Inv X pins σ (upd H2 s2.heap.objs.size (.lst [])) { s2 with heap:=s2.heap.push { cls:= .type "list",data:= .seq ([]:List Value).toArray}} :=I2.lnew (t':=s2.toks) .nil (aP _)
 obtain⟨W,⟨n0,w0⟩,turn⟩:=hQ s2.heap.objs.size I2.fresh
 have hD3:∀ b∈fp,b≠s2.heap.objs.size:=fun b hb=>aC (hlt b hb)
 have f3:∀ b∈fp,FpOk X pins (upd H2 s2.heap.objs.size (.lst [])) b:=fun b hb=>by
  obtain⟨a0,a1⟩:=f2 b hb
  exact⟨by rw[j9 (hD3 b hb)]; exact a0,a1⟩
 generalize hE:({ s2 with heap:=s2.heap.push { cls:= .type "list",data:= .seq ([]:List Value).toArray}} :Shared)=s3 at I3 hns₁ hsb₁ ⊢
 generalize hH3:upd H2 s2.heap.objs.size (.lst [])=H3 at I3 f3 w0
 have hsz3:s3.heap.objs.size=s2.heap.objs.size+1:=by rw[<- hE]; exact aR _ _
 have old:∀ b o,s3.heap.get? b=some o->h₁.get? b=some o:=fun b o e=>hsb₁.extBut b o (aC (ag e)) (ac _ e)
 have old2:∀ b o,s2.heap.get? b=some o->h₁.get? b=some o:=fun b o e=>old b o (by rw[<- hE]; exact ac _ e)
 have I4:=jK1 (fp:=fp) (tk:=s3.toks+([]:List (Str×Value)).length) I3 hkind hcell hfree hm f3 (fun b hb=>show b<s3.heap.objs.size by rw[hsz3]; exact ai (hlt b hb)) hns₁ old
 have st4:tn 0 h₁:=T.keep _ _ _ st2 fun b hb o e=>old2 b o e
 have loop:codeAny (model X.prog X.w) X.A (.compLoop (.ListComp elt [⟨tg,iter,ifs,0⟩] sc pos) 0 (.ref it) (.ref s2.heap.objs.size) (compEnvC sc (jY X.env.cells sc.names []) s3.heap.objs.size X.env))
   (compPost (model X.prog X.w) X.A X.xe use R (.ref s2.heap.objs.size) s3.heap.objs.size) { s3 with heap:=h₁,toks:=s3.toks+([]:List (Str×Value)).length} :=by
  generalize hX:blk X sc (jY X.env.cells sc.names []) s3.heap.objs.size Nc fp s3 H3=Xb at I4
  have eP:Xb.prog=X.prog:=by rw[<- hX]; rfl
  have ew:Xb.w=X.w:=by rw[<- hX]; rfl
  have eK:Xb.K=X.K:=by rw[<- hX]; rfl
  have eA:Xb.A=X.A:=by rw[<- hX]; rfl
  have ec:Xb.calm=true:=by rw[<- hX]; exact hc
  have ee:Xb.env=compEnvC sc (jY X.env.cells sc.names []) s3.heap.objs.size X.env:=by rw[<- hX]; rfl
  have ex:Xb.xe=fun _ _=>False:=by rw[<- hX]; rfl
  have hgb:PG Xb tg g:=by rw[<- hX]; exact hg _ _ _ _ _
  have htb:PTs Xb ifs tt:=by rw[<- hX]; exact ht _ _ _ _ _
  have heb:PE Xb elt (tf σ):=by rw[<- hX]; exact he _ _ _ _ _ _ _ I3 f3
  have stat:∀ {H':Hp},(∀ b∈fp,H' b=none)->∀ b∈fp,FpOk Xb [] H' b:=fun {H'} hn b hb=>by
   obtain⟨o,eo,_⟩:=T.obj _ _ st4 b hb
   have q:=I4.ok.exf b (by rw[<- hX]; exact hb)
   exact⟨hn b hb,q.1,I4.ok.exfs b (by rw[<- hX]; exact hb), .inl (by rw[<- hX]; exact hb),q.2,fun p hp=>absurd hp (by rw[<- hX]; simp [blk])⟩
  have fr4:∀ b∈fp,H3 b=none:=fun b hb=>(f3 b hb).1
  unfold PG at hgb
  unfold PTs at htb
  unfold PE at heb
  rw[eP,ew,eA,ee,ex] at hgb htb heb
  refine jD6 (fun n z=>∃ i σ' H' ys,Inv Xb [] σ' H' z/\tn i z.heap/\(∀ b∈fp,H' b=none)/\W i n σ' H' ys) ?_ n0 ⟨0,_,H3,[],I4,st4,fr4,w0⟩
  rintro n z ⟨i,σ5,H5,ys,I5,st5,fr5,w5⟩
  obtain⟨hD,hlen,way⟩:=turn i n σ5 H5 ys w5
  rcases way with ⟨stop,q⟩ | ⟨go,N,hN,step⟩
  ·have RR:=T.done Xb eP ew eK ec i [] z σ5 H5 (fun _ _=>False) I5 (stat fr5) st5 stop
   rw[eA] at RR
   refine thn RR fun r z1 ⟨hr,I6⟩=>?_
   subst hr
   obtain⟨mm,hn6,_⟩:=I6.loc
   rw[ee] at hn6
   have u6:Un (frs X.stack) fp H3 H5 s3.heap z1.heap:=by
    have:=I6.base
    rw[<- hX] at this
    exact this
   have fC:H5 s3.heap.objs.size=none:=by
    have:=I6.free
    rw[ee] at this
    exact this
   have hok6:HOk X.prog X.w H5 z1.heap:=by
    have:=I6.hok
    rw[eP,ew] at this
    exact this
   have os6:z1.os=s3.os:=by
    have:=I6.os
    rw[<- hX] at this
    exact this
   refine fin s2.heap.objs.size s3.heap.objs.size H5 z1 .next ⟨mm,hn6⟩ (I3.fpOk (af _) fC) (fun h' sb=>?_) q
   refine I3.call' (s':= { z1 with heap:=h'}) (ch:=fp) os6 (u6.sameBut sb (af _)) (hok6.sameBut sb fC) I6.bare (fun b hb=>?_)
   obtain⟨a0,a1,a2,a3,a4,a5⟩:=f3 b hb
   exact⟨a3,a1,a4,a5⟩
  ·have RR:=T.item Xb eP ew eK ec i [] z σ5 H5 (fun _ _=>False) I5 (stat fr5) st5 go
   rw[eA] at RR
   refine thn RR fun r z1 ⟨u,hr,h6⟩=>?_
   subst hr
   refine thn h6 fun _ z2 ⟨x,H7,I7,r7,y7,st7,fr7⟩=>?_
   have I7':=I7.pinned (stat fr7) (T.obj _ _ st7)
   refine thn (hgb _ z2 σ5 H7 x u _ I7' r7 (step x H7 y7)) fun _ z3 ⟨σ8,H8,I8,q8⟩=>?_
   refine thn (htb _ z3 σ8 H8 _ I8 q8) fun ok z4 ⟨H9,I9,q9⟩=>?_
   have again:∀ {σ7:St}{Hz:Hp}{zz:Shared}{yy:List V}{n':Nat},Inv Xb ([]++jD1 fp z2.heap) σ7 Hz zz->n'<n->W (i+1) n' σ7 Hz yy->∃ k,k<n/\∃ i σ' H' ys,Inv Xb [] σ' H' zz/\tn i zz.heap/\(∀ b∈fp,H' b=none)/\W i k σ' H' ys:=fun {σ7 Hz zz yy n'} Iz hn wz=>by
    refine⟨n',hn,i+1,σ7,Hz,yy,Iz.unpinned,T.keep _ _ _ st7 fun b hb o e=>(Iz.pin (b,o) (aH _ (aH _ (jAA hb e)))).1,fun b hb=>?_,wz⟩
    obtain⟨o,e,d⟩:=T.obj _ _ st7 b hb
    exact(Iz.pin (b,o) (aH _ (aH _ (jAA hb e)))).2.1
   cases ok with
   | false=>
    obtain⟨n',hn,w9⟩:=hN _ _ _ (show N σ8 H9 ys from q9)
    exact again I9 hn w9
   | true=>
    refine thn (heb _ z4 σ8 H9 _ I9 q9) fun xv z5 ⟨vv,H10,I10,r10,hD10,n10⟩=>?_
    obtain⟨n',hn,w10⟩:=hN _ _ _ n10
    have RR:=jAF (X:=Xb) _ z5 σ8 H10 (.ref s2.heap.objs.size) [vv] (.ref s2.heap.objs.size) [xv] (fun _ H'=>H'=upd H10 s2.heap.objs.size (.lst (ys++[vv]))) I10 rfl (.cons r10 .nil) ⟨_,ys,vv,rfl,rfl,hD10,hlen,rfl⟩
    rw[eP,ew,eA,ex] at RR
    refine thn RR fun _ z6 ⟨_,H11,I11,_,e11⟩=>?_
    subst e11
    exact again I11 hn w10
 exact codeAny_compStart_list loop (T.self _ 0 _ _ _ st4 loop)
theorem jFF (hc:X.calm=true)(hi:PI X tg iter wi)(hkind:sc.kind= .function)(hcell:∀ y∈sc.names,y.2≠ .cell)(hnames:∀ y∈sc.names,y.2= .local->sc.names.lookup y.1=some .local)
  (hfree:∀ y∈sc.names,y.2= .free->X.env.scope.names.lookup y.1=some .cell\/X.env.scope.names.lookup y.1=some .free) (hm:yO X sc Nc m)
  (hg:∀ cl C fp s H,PG (blk X sc cl C Nc fp s H) tg g) (ht:∀ cl C fp s H,PTs (blk X sc cl C Nc fp s H) ifs tt) (he:∀ cl C fp s H,PE (blk X sc cl C Nc fp s H) elt te)
  (hs:∀ x,foldedSetIterable iter X.env x=pure x:=by intro _; rfl):PE X (.ListComp elt [⟨tg,iter,ifs,0⟩] sc pos) (tComp m wi g tt te):=by
 intro pins s σ H Q I h
 rw[eval_ListComp]
 exact jGU (tf:=fun _=>te) (use:=none) hc hi hkind hcell hnames hfree hm hg ht (fun cl C fp s H _ _ _ _=>he cl C fp s H) hs I h (fun D C H5 z1 r ⟨mm,hn⟩ fC sb q=>⟨mm,hn,fun h' s2=>⟨.ref D,H5,sb h' s2,rfl,q⟩⟩)
end
theorem kE {X:Cx}{sc psc:Scope}(h:(sc.names.all fun y=>decide (y.2= .free->psc.names.lookup y.1=some .cell\/psc.names.lookup y.1=some .free))=true)(e:X.env.scope=psc:=by rfl):
  ∀ y∈sc.names,y.2= .free->X.env.scope.names.lookup y.1=some .cell\/X.env.scope.names.lookup y.1=some .free:=by
 rw[e]
 intro y hy
 exact az (bq.mp h y hy)
def jJE (sc:Scope)(N Nc:List Str)(m:List (Option Nat))(k:Nat):Bool:=match m[k]? with
 | some (some i)=>match Nc[k]? with
  | some x=>decide (N[i]?=some x)&&decide (sc.names.lookup x=some .free)
  | none=>false
 | _=>true
theorem jH {X:Cx}{sc:Scope}{N Nc:List Str}{m:List (Option Nat)}(e:X.N=N)(hl:m.length=Nc.length)(h:((List.range m.length).all (jJE sc N Nc m))=true):yO X sc Nc m:=by
 refine⟨hl,fun k i hk=>?_⟩
 have hlt:k<m.length:=(ar.mp hk).1
 have q:=bq.mp h k (aO.mpr hlt)
 unfold jJE at q
 rw[hk] at q
 cases e2:Nc[k]? with
 | none=>rw[e2] at q; cases q
 | some x=>
  rw[e2] at q
  have q:(decide (N[i]?=some x)&&decide (sc.names.lookup x=some .free))=true:=q
  rw[bp] at q
  exact⟨x,rfl,by rw[e]; exact az q.1,az q.2⟩
section
variable {m:List (Option Nat)}{g:TG}{tt:TT}{te:TE}{σ:St}{H1:Hp}{Q:VK}
theorem jAT {lo:Int}{n:Nat}(hn:n<sizeLine)(Pv:Addr->Nat->St->Hp->List V->Prop)(h0:∀ D,H1 D=none->Pv D 0 (blkσ m σ) (upd H1 D (.lst [])) [])
  (hD:∀ D i σ' H' ys,H1 D=none->i<=n->Pv D i σ' H' ys->H' D=some (.lst ys)/\ys.length<=i)
  (hs:∀ D i σ' H' ys,H1 D=none->i<n->Pv D i σ' H' ys->g (.int (lo+i)) σ' H' fun σ2 H2=>tt σ2 H2 fun b H3=>if b=true then te σ2 H3 fun v H4=>H4 D=some (.lst ys)/\Pv D (i+1) σ2 (upd H4 D (.lst (ys++[v]))) (ys++[v]) else Pv D (i+1) σ2 H3 ys)
  (hd:∀ D σ' H' ys,H1 D=none->Pv D n σ' H' ys->Q (.ref D) H'):CompW m g tt te σ Q (Itr lo n) H1:=by
 intro D hDn
 refine⟨fun i k σ' H' ys=>k=n - i/\i<=n/\Pv D i σ' H' ys,⟨n,rfl,aP _,h0 D hDn⟩,?_⟩
 rintro i k σ' H' ys ⟨rfl,hi,p⟩
 obtain⟨q1,q2⟩:=hD D i σ' H' ys hDn hi p
 refine⟨q1,by omega,?_⟩
 by_cases hlt:i<n
 ·refine .inr ⟨hlt,Pv D (i+1),fun σ2 H2 zs z=>⟨n - (i+1),by omega,rfl,hlt,z⟩,fun x H'' y=>?_⟩
  obtain⟨e1,e2⟩:=y
  subst e1 e2
  exact hs D i σ' _ ys hDn hlt p
 ·have e:i=n:=by omega
  subst e
  exact .inl ⟨af _,hd D σ' H' ys hDn p⟩
end
end L2
end
section
namespace SS
open PySem PySem.SetTable
abbrev Ris (xs:Array Nat):Prop:=xs.toList.Pairwise (· < ·)
theorem jBM {xs:Array Nat}(h:Ris xs){a b:Nat}(hab:a<b)(hb:b<xs.size):xs.getD a 0<xs.getD b 0:=by
 have h1:a<xs.size:=cO hab hb
 have:=List.pairwise_iff_getElem.mp h a b (by simpa using h1) (by simpa using hb) hab
 simpa [Array.getD,h1,hb] using this
theorem jN4 {xs:Array Nat}{j:Nat}(hr:Ris xs):∀ (fuel lo hi:Nat),hi - lo<=fuel->lo<=hi->hi<=xs.size->(∀ a,a<lo->xs.getD a 0<j)->(∀ a,hi<=a->a<xs.size->j<=xs.getD a 0)->
  (below.go xs j fuel lo hi<=xs.size/\(∀ a,a<below.go xs j fuel lo hi->xs.getD a 0<j)/\(∀ a,below.go xs j fuel lo hi<=a->a<xs.size->j<=xs.getD a 0)):=by
 intro fuel
 induction fuel with
 | zero=>
  intro lo hi h1 h2 h3 h4 h5
  have e:lo=hi:=by omega
  subst e
  exact⟨h3,h4,h5⟩
 | succ fuel ih=>
  intro lo hi h1 h2 h3 h4 h5
  unfold below.go
  by_cases hlt:lo<hi
  ·rw[ah hlt]
   have hm:(lo+hi) / 2<xs.size:=by omega
   have e:xs.getD ((lo+hi) / 2) j=xs.getD ((lo+hi) / 2) 0:=by simp [Array.getD,hm]
   dsimp only
   rw[e]
   by_cases hc:xs.getD ((lo+hi) / 2) 0<j
   ·rw[ah hc]
    refine ih _ _ (by omega) (by omega) h3 (fun a ha=>?_) h5
    by_cases e2:a=(lo+hi) / 2
    ·rw[e2]; exact hc
    ·exact cO (jBM hr (by omega) hm) hc
   ·rw[am hc]
    refine ih _ _ (by omega) (by omega) (by omega) h4 (fun a ha hs=>?_)
    by_cases e2:a=(lo+hi) / 2
    ·rw[e2]; omega
    ·have:=jBM hr (show (lo+hi) / 2<a by omega) hs
     omega
  ·rw[am hlt]
   have e:lo=hi:=by omega
   subst e
   exact⟨h3,h4,h5⟩
theorem jD7 {xs:Array Nat}(hr:Ris xs)(j:Nat):below xs j<=xs.size/\(∀ a,a<below xs j->xs.getD a 0<j)/\(∀ a,below xs j<=a->a<xs.size->j<=xs.getD a 0):=
 jN4 hr xs.size 0 xs.size (by omega) (aP _) (af _) (fun a h=>absurd h (be _)) (fun a h1 h2=>absurd h2 (by omega))
theorem jDY {xs:Array Nat}(hr:Ris xs){j i:Nat}(hi:i<=xs.size)(h1:∀ a,a<i->xs.getD a 0<j)(h2:∀ a,i<=a->a<xs.size->j<=xs.getD a 0):below xs j=i:=by
 obtain⟨b1,b2,b3⟩:=jD7 hr j
 rcases Nat.lt_trichotomy (below xs j) i with h | h | h
 ·have q1:=h1 _ h
  have q2:=b3 _ (af _) (by omega)
  omega
 ·exact h
 ·have q1:=b2 _ h
  have q2:=h2 _ (af _) (by omega)
  omega
theorem jAC {α:Type}(xs:Array α)(p:Nat)(x:α):(insertAt xs p x).toList=xs.toList.take p++x::xs.toList.drop p:=by
 unfold insertAt
 simp [Array.toList_extract,List.extract]
 rw[bm (by simp)]
theorem jB8 {α:Type}(xs:Array α)(p:Nat)(x:α):(insertAt xs p x).size=xs.size+1:=by
 rw[<- aW,jAC]
 simp
 omega
theorem jH5 {xs:Array Nat}{j:Nat}(hr:Ris xs)(hj:j∉xs.toList):Ris (insertAt xs (below xs j) j):=by
 obtain⟨b1,b2,b3⟩:=jD7 hr j
 show (insertAt xs (below xs j) j).toList.Pairwise (· < ·)
 rw[jAC,eN,List.pairwise_cons]
 have hl:∀ a∈xs.toList.take (below xs j),a<j:=by
  intro a ha
  obtain⟨i,hi,e⟩:=List.mem_take_iff_getElem.mp ha
  have:=b2 i (by omega)
  have hs:i<xs.size:=by simp at hi; omega
  simp [Array.getD,hs] at this
  simp at e
  omega
 have hg:∀ a∈xs.toList.drop (below xs j),j<a:=by
  intro a ha
  obtain⟨i,hi,e⟩:=List.mem_drop_iff_getElem.mp ha
  have hs:i+below xs j<xs.size:=by simpa [fo] using hi
  have:=b3 (i+below xs j) (by omega) hs
  simp [Array.getD,hs] at this
  have e':xs[i+below xs j]=a:=by simpa [fo] using e
  have hne:a≠j:=by
   intro z
   apply hj
   rw[<- z]
   exact cZ ha
  omega
 refine⟨hr.sublist (dI _ _),⟨hg,hr.sublist (List.drop_sublist _ _)⟩,?_⟩
 intro a ha b hb
 rcases av.mp hb with rfl | hb
 ·exact hl a ha
 ·exact cO (hl a ha) (hg b hb)
theorem jCF {t:SetTable}{j:Nat}(hr:Ris t.place)(h:t.slot j= .empty):j∉t.place.toList:=by
 intro hm
 obtain⟨i,hi,e⟩:=cC hm
 have hs:i<t.place.size:=by simpa using hi
 have e0:t.place[i]=j:=by simpa using e
 have eb:below t.place j=i:=by
  refine jDY hr (cw hs) (fun a ha=>?_) (fun a h1 h2=>?_)
  ·have:=jBM hr ha hs
   simp only [Array.getD,hs] at this ⊢
   simp [e0] at this ⊢
   exact this
  ·by_cases e2:a=i
   ·subst e2
    simp [Array.getD,hs,e0]
   ·have:=jBM hr (show i<a by omega) h2
    simp only [Array.getD,hs] at this
    simp [e0] at this
    simp [Array.getD]
    omega
 unfold SetTable.slot at h
 dsimp only at h
 rw[eb] at h
 rw[ah (by simp [hs,e0])] at h
 cases h
theorem jFN (j:Nat):has #[] j=false:=by
 unfold has
 simp
theorem jG6 {t:SetTable}(hd:t.dummies=#[]){f:Nat->Int}{h:Int} :∀ (fuel:Nat) (p:Probe) (m:Met),p.dummy=none->probe.go t f h fuel p=some m->
  (∃ j,m= .empty j none/\t.slot j= .empty)\/(∃ j i n,m= .candidate j i n):=by
 intro fuel
 induction fuel with
 | zero=>intro p m _ e; simp [probe.go] at e
 | succ fuel ih=>
  intro p m hp e
  unfold probe.go at e
  cases hs:t.slot p.j with
  | empty=>
   rw[hs] at e
   simp only [dJ] at e
   subst e
   exact .inl ⟨p.j,by rw[hp],hs⟩
  | dummy=>
   unfold SetTable.slot at hs
   dsimp only at hs
   rw[hd,jFN] at hs
   split at hs
   ·cases hs
   ·simp at hs
  | live i=>
   rw[hs] at e
   dsimp only at e
   split at e
   ·simp only [dJ] at e
    subst e
    exact .inr ⟨_,_,_,rfl⟩
   ·refine ih _ _ ?_ e
    unfold advance
    split
    ·exact hp
    ·exact hp
theorem jDT {t:SetTable}(hr:Ris t.place)(hd:t.dummies=#[]){h:Int}{slot:Nat}{d:Bool}(e:t.freeSlot h=some (slot,d)):slot∉t.place.toList:=by
 unfold SetTable.freeSlot at e
 split at e
 ·rename_i j dummy hp
  simp only [dJ,Prod.mk.injEq] at e
  have hp':probe.go t (fun _=>h+1) h (10*turns t.mask) (t.probeStart h)=some (.empty j dummy):=hp
  rcases jG6 hd _ _ _ (by unfold probeStart; rfl) hp' with ⟨j',em,hs⟩ | ⟨_,_,_,em⟩
  ·cases em
   have:slot=j:=by rw[<- e.1]; rfl
   rw[this]
   exact jCF hr hs
  ·cases em
 ·cases e
theorem jH3 {t:SetTable}{j:Nat}(hd:t.dummies=#[])(h:t.slot j≠ .empty):(∃ i,t.slot j= .live i)/\j∈t.place.toList:=by
 unfold SetTable.slot at h ⊢
 dsimp only at h ⊢
 by_cases q:(t.place[below t.place j]?==some j)=true
 ·rw[ah q]
  refine⟨⟨_,rfl⟩,?_⟩
  have e:t.place[below t.place j]?=some j:=eq_of_beq q
  obtain⟨hi,e⟩:=Array.getElem?_eq_some_iff.mp e
  rw[<- e]
  exact Array.getElem_mem_toList hi
 ·rw[am q,hd,jFN] at h
  exact absurd rfl h
theorem run7 (i:Nat):runEnd 7 i=i:=by unfold runEnd; rw[am (by omega)]
theorem jII {t:SetTable}(hm:t.mask=7)(hd:t.dummies=#[]){h:Int} :∀ (k fuel:Nat) (p:Probe),p.j=p.i->p.more=0->p.i<8->p.perturb<32->k<=fuel->
  probe.go t (fun _=>h+1) h fuel p=none->∀ r,r<k->Nat.repeat (fun i=>(i*5+1) % 8) r p.i∈t.place.toList:=by
 intro k
 induction k with
 | zero=>intro fuel p _ _ _ _ _ _ r hr; omega
 | succ k ih=>
  intro fuel p h1 h2 h3 h4 h5 h6 r hr
  obtain⟨f,rfl⟩:∃ f,fuel=f+1:=⟨fuel - 1,by omega⟩
  unfold probe.go at h6
  by_cases he:t.slot p.j= .empty
  ·rw[he] at h6; cases h6
  ·obtain⟨⟨i,hl⟩,hmem⟩:=jH3 hd he
   rw[hl] at h6
   dsimp only at h6
   rw[am (by simp; omega)] at h6
   have hz:p.perturb / 32=0:=by omega
   have ea:t.advance p= { p with j:=(p.i*5+1) % 8,more:=0,i:=(p.i*5+1) % 8,perturb:=0} :=by
    unfold advance leap
    rw[am (by omega),hm,hz]
    simp [run7]
   rw[ea] at h6
   cases r with
   | zero=>show p.i∈_; rw[<- h1]; exact hmem
   | succ r=>
    have q:=ih f _ (by rfl) (by rfl) (by show (p.i*5+1) % 8<8; omega) (by show 0<32; omega) (by omega) h6 r (by omega)
    have e:∀ (r i:Nat),Nat.repeat (fun i=>(i*5+1) % 8) (r+1) i=Nat.repeat (fun i=>(i*5+1) % 8) r ((i*5+1) % 8):=by
     intro r
     induction r with
     | zero=>intro i; rfl
     | succ r ihr=>
      intro i
      show ((Nat.repeat _ (r+1) i)*5+1) % 8=((Nat.repeat _ r ((i*5+1) % 8))*5+1) % 8
      rw[ihr]
    rw[e]
    exact q
theorem jK6:∀ i,i<8->∀ j,j<8->∃ r,r<8/\Nat.repeat (fun i=>(i*5+1) % 8) r i=j:=by decide+kernel
theorem jDS {t:SetTable}(hm:t.mask=7)(hd:t.dummies=#[])(hz:t.place.size<8){h:Int}(h0:0<=h)(h1:h<32):∃ q,t.freeSlot h=some q:=by
 unfold SetTable.freeSlot
 have hb:bits h<32:=by unfold bits; omega
 have hps:t.probeStart h= { j:=bits h % 8,more:=0,i:=bits h % 8,perturb:=bits h,dummy:=none} :=by
  unfold probeStart
  rw[hm]
  simp [run7]
 cases e:t.probe (fun _=>h+1) h (t.probeStart h) with
 | none=>
  exfalso
  have e':probe.go t (fun _=>h+1) h (10*turns t.mask) (t.probeStart h)=none:=e
  rw[hps] at e'
  have q:=jII hm hd 8 _ _ (by rfl) (by rfl) (by show bits h % 8<8; omega) (by exact hb) (by rw[hm]; decide) e'
  have sub:List.range 8 ⊆ t.place.toList:=by
   intro j hj
   obtain⟨r,hr,er⟩:=jK6 (bits h % 8) (by omega) j (aO.mp hj)
   rw[<- er]
   exact q r hr
  have:=List.Nodup.length_le_of_subset (List.nodup_range (n:=8)) sub
  simp at this
  omega
 | some m=>
  rcases jG6 hd _ _ _ (by rw[hps]) (show probe.go t (fun _=>h+1) h (10*turns t.mask) (t.probeStart h)=some m from e) with ⟨j,rfl,_⟩ | ⟨j,i,n,rfl⟩
  ·exact⟨_,rfl⟩
  ·exfalso
   have nc:∀ (fuel:Nat) (p:Probe) (j i:Nat) (n:Probe),probe.go t (fun _=>h+1) h fuel p≠some (.candidate j i n):=by
    intro fuel
    induction fuel with
    | zero=>intro p j i n; simp [probe.go]
    | succ f ih=>
     intro p j i n
     unfold probe.go
     cases t.slot p.j with
     | empty=>simp
     | dummy=>exact ih _ _ _ _
     | live i'=>
      dsimp only
      rw[am (by simp; omega)]
      exact ih _ _ _ _
   exact nc _ _ _ _ _ e
structure Tab (t:SetTable)(n:Nat)(led:Bool):Prop where
 ris:Ris t.place
 sz:t.place.size=n
 dm:t.dummies=#[]
 msk:t.mask=7
 pl:t.plain=true
 ld:t.led=led
theorem Tab.fits {t:SetTable}{n:Nat}{led:Bool}(T:Tab t n led)(hn:n<=4):t.fits n=true:=by
 unfold SetTable.fits fill
 simp [T.sz,T.dm,T.msk]
 omega
theorem Tab.full {t:SetTable}{n:Nat}{led:Bool}(T:Tab t n led)(hn:n<=4):t.tooFull=false:=by
 unfold tooFull fill
 simp [T.sz,T.dm,T.msk]
 omega
theorem jHX (led:Bool):Tab (fresh 0 0 led) 0 led:=⟨List.Pairwise.nil,rfl,rfl,rfl,rfl,rfl⟩
theorem jHD {t:SetTable}{n:Nat}{led:Bool}(T:Tab t n led)(hn:n+1<=4)(es:Array (Int×Value))(he:es.size=n){h:Int}(h0:0<=h)(h1:h<32)(x:Value):
  Tab (layNew t es h x).2.1 (n+1) led/\∃ p,(layNew t es h x).1.toList=es.toList.take p++(h,x)::es.toList.drop p:=by
 obtain⟨⟨slot,d⟩,hf⟩:=jDS T.msk T.dm (by rw[T.sz]; omega) h0 h1
 unfold layNew
 rw[hf]
 dsimp only [SetTable.put]
 have hnm:=jDT T.ris T.dm hf
 have T2:Tab { t with place:=insertAt t.place (below t.place slot) slot,dummies:=if has t.dummies slot then eraseAt t.dummies (below t.dummies slot) else t.dummies} (n+1) led:=by
  refine⟨jH5 T.ris hnm,by rw[jB8,T.sz],?_,T.msk,T.pl,T.ld⟩
  rw[T.dm,jFN]
  rfl
 refine⟨?_,_,jAC _ _ _⟩
 unfold SetTable.orStandIn
 rw[jB8,he,T2.fits hn]
 exact T2
def jG2 (xs:Array Nat):Nat->Nat
 | 0=>0
 | i+1=>xs.getD i 0+1
theorem jF6 {xs:Array Nat}(hr:Ris xs){i:Nat}(hi:i<=xs.size):below xs (jG2 xs i)=i:=by
 cases i with
 | zero=>exact jDY hr (aP _) (fun a h=>absurd h (be _)) (fun a _ _=>aP _)
 | succ i=>
  refine jDY hr hi (fun a ha=>?_) (fun a h1 h2=>?_)
  ·show _<xs.getD i 0+1
   by_cases e:a=i
   ·rw[e]; omega
   ·have:=jBM hr (show a<i by omega) (show i<xs.size by omega)
    omega
  ·show xs.getD i 0+1<=_
   exact jBM hr (show i<a by omega) h2
theorem jHG {α:Type}{l:List α}{i:Nat}(h:i<l.length):(l[i]::l.eraseIdx i).Perm l:=by
 rw[List.eraseIdx_eq_take_drop_succ]
 have e:l=l.take i++l[i]::l.drop (i+1):=by rw[<- List.drop_eq_getElem_cons h,cS]
 conv=>rhs; rw[e]
 exact List.perm_middle.symm
theorem jME {α:Type}(next:Nat->Nat):∀ (fuel k:Nat) (left:List α) (out:Array α),fuel=left.length->(pickOrder.go next fuel k left out).toList.Perm (out.toList++left):=by
 intro fuel
 induction fuel with
 | zero=>
  intro k left out h
  have:left=[]:=List.length_eq_zero_iff.mp h.symm
  subst this
  simp [pickOrder.go]
 | succ f ih=>
  intro k left out h
  have hl:next k % left.length<left.length:=mod_lt _ (by omega)
  unfold pickOrder.go
  rw[aL hl]
  dsimp only
  refine(ih _ _ _ (by rw[List.length_eraseIdx_of_lt hl]; omega)).trans ?_
  rw[Array.toList_push,List.append_assoc]
  exact List.Perm.append_left _ (jHG hl)
theorem jEF {α:Type}(next:Nat->Nat)(xs:Array α):(pickOrder next xs).toList.Perm xs.toList:=by
 unfold pickOrder
 have:=jME next xs.size 0 xs.toList #[] (by simp)
 simpa using this
end SS
end
section
namespace SS
open PySem
abbrev ledW (w:World):Bool:=!(w.params.followText "set-order")
def El (e:Int×Value)(k:Int):Prop:=e.1=hashInt k/\∃ t,e.2= .int k t
theorem jB3 {α β:Type}{F:α->β->Prop} :∀ {l:List α}{r:List β},Paired F l r->∀ a∈l,∃ b∈r,F a b
 | _,_, .nil=>fun a h=>by cases h
 | _,_, .cons f t=>fun a h=>by
  rcases av.mp h with rfl | h
  ·exact⟨_,aE,f⟩
  ·obtain⟨b,hb,q⟩:=jB3 t a h
   exact⟨b,aA _ hb,q⟩
theorem jBX {α β:Type}{F:α->β->Prop} :∀ {l:List α}{r:List β},Paired F l r->∀ b∈r,∃ a∈l,F a b
 | _,_, .nil=>fun a h=>by cases h
 | _,_, .cons f t=>fun b h=>by
  rcases av.mp h with rfl | h
  ·exact⟨_,aE,f⟩
  ·obtain⟨a,ha,q⟩:=jBX t b h
   exact⟨a,aA _ ha,q⟩
theorem jD2 {α β:Type}{F:α->β->Prop}{a:α}{b:β}(f:F a b):∀ {l:List α}{r:List β}(p:Nat),Paired F l r->Paired F (l.take p++a::l.drop p) (r.take p++b::r.drop p)
 | _,_,0,q=>by simpa using Paired.cons f q
 | _,_,p+1, .nil=>by simpa using Paired.cons f .nil
 | _,_,p+1, .cons g t=>by
  simp only [List.take_succ_cons,List.drop_succ_cons,List.cons_append]
  exact .cons g (jD2 f p t)
theorem jM9 {α:Type}(l:List α)(p:Nat)(x z:α):z∈l.take p++x::l.drop p↔z=x\/z∈l:=by
 conv=>rhs; rw[<- cS p l]
 simp only [bA,av]
 constructor
 ·rintro (h | h | h)
  ·exact .inr (.inl h)
  ·exact .inl h
  ·exact .inr (.inr h)
 ·rintro (h | h | h)
  ·exact .inr (.inl h)
  ·exact .inl h
  ·exact .inr (.inr h)
theorem jDH {α:Type}(l:List α)(p:Nat)(x:α):(l.take p++x::l.drop p).Perm (x::l):=by
 have h:(l.take p++x::l.drop p).Perm (x::(l.take p++l.drop p)):=List.perm_middle
 rw[cS] at h
 exact h
structure SetG (w:World)(h:Heap)(a:Addr)(ks:List Int):Prop where
 ex:∃ o es ep t,h.get? a=some o/\o.ExactSet/\o.data= .set es ep t/\Paired El es.toList ks/\Tab t es.size (ledW w)
 nd:ks.Nodup
 len:ks.length<=4
section
variable {prog:Program}{w:World}{A:Around}{E:Value->Shared->Prop}{s:Shared}{a:Addr}{ks:List Int}{k:Int}{tk:Tok}
theorem elems {es:List (Int×Value)}(h:Paired El es ks):ElemsOf (intKind prog w) es:=fun e he=>by
 obtain⟨k,_,h1,t,h2⟩:=jB3 h e he
 rw[h2]
 exact⟨⟨k,by show Value.isInt k (.int k t)=true; simp [Value.isInt],h1⟩,rfl⟩
theorem SetG.at {h h':Heap}(S:SetG w h a ks)(e:∀ o,h.get? a=some o->h'.get? a=some o):SetG w h' a ks:=by
 obtain⟨⟨o,es,ep,t,ho,r⟩,nd,len⟩:=S
 exact⟨⟨o,es,ep,t,e _ ho,r⟩,nd,len⟩
theorem jBG (k0:0<=k)(k1:k<32):hashInt k=k:=by
 obtain⟨n,rfl⟩:=Int.eq_ofNat_of_zero_le k0
 have e:∀ n:Nat,n<32->hashInt (n:Int)=(n:Int):=by decide+kernel
 exact e n (by omega)
theorem jOW {Q:Bool->Shared->Prop}(S:SetG w s.heap a ks)(hl:ks.length+1<=4)(k0:0<=k)(k1:k<32)
  (h:∀ b h' ks',Heap.SameBut a s.heap h'->SetG w h' a ks'->(∀ z,z∈ks'↔z=k\/z∈ks)->ks'.length<=ks.length+1->Q b { s with heap:=h'}):
  wpAny (model prog w) A (setAddHashed a (.int k tk) (hashInt k)) Q E s:=by
 obtain⟨o,es,ep,t,ho,hex,hd,hp,T⟩:=id S.ex
 have hn:es.size=ks.length:=by rw[<- aW]; exact Paired.length hp
 have hf:=T.fits (by omega)
 have hel:ElemsOf (intKind prog w) es.toList:=elems hp
 have hb:es.size<scanBound:=by unfold scanBound; omega
 have hi:∀ (j:Int) (t:Tok),Value.isInt k (.int j t)=true->j=k:=fun j t e=>by simpa [Value.isInt] using e
 unfold setAddHashed setAddHashedIn
 refine bE (aa (bG ho hd hf ?_))
 dsimp only
 rw[byScan_of (knd:=intKind prog w) rfl hb hel,ah rfl]
 unfold setAddByScan
 refine aa (aa (cI (aa ?_)))
 refine wpAny_setScan_of (knd:=intKind prog w) (k:=k) (by show Value.isInt k (.int k tk)=true; simp [Value.isInt]) ho hd hf hel ?_
 have es0:s= { s with heap:=s.heap} :=by cases s; rfl
 cases hr:List.findIdx? (fun e=>(intKind prog w).is k e.2) es.toList with
 | some j=>
  obtain⟨hj,hpj,_⟩:=List.findIdx?_eq_some_iff_getElem.mp hr
  obtain⟨k',hk',_,t',e'⟩:=jB3 hp _ (cV hj)
  have hkk:k'=k:=hi k' t' (by rw[<- e']; exact hpj)
  subst hkk
  refine ae (ae ?_)
  rw[es0]
  exact h false s.heap ks (dL a s.heap) S (fun z=>⟨.inr,fun q=>q.elim (fun e=>e ▸ hk') id⟩) (by omega)
 | none=>
  have hnk:k∉ks:=fun hm=>by
   obtain⟨e,he,_,t',e'⟩:=jBX hp k hm
   have q:=List.findIdx?_eq_none_iff.mp hr e he
   rw[e'] at q
   have q':Value.isInt k (.int k t')=false:=q
   simp [Value.isInt] at q'
  obtain⟨T1,p,hp1⟩:=jHD T (by omega) es rfl (h:=hashInt k) (by rw[jBG k0 k1]; exact k0) (by rw[jBG k0 k1]; exact k1) (.int k tk)
  dsimp only
  show wpAny _ A (match layNew t es (hashInt k) (Value.int k tk) with | (es,t,wasDummy,gave)=>_) _ E s
  generalize layNew t es (hashInt k) (Value.int k tk)=L at T1 hp1 ⊢
  obtain⟨es1,t1,wd,gv⟩:=L
  dsimp only at T1 hp1 ⊢
  have hp2:Paired El es1.toList (ks.take p++k::ks.drop p):=by
   rw[hp1]
   exact jD2 ⟨rfl,tk,rfl⟩ p hp
  have hz1:es1.size=es.size+1:=by
   rw[<- aW,hp1,(jDH es.toList p (hashInt k,Value.int k tk)).length_eq]
   simp
  have hlen:(ks.take p++k::ks.drop p).length=ks.length+1:=(jDH ks p k).length_eq
  have T1':Tab t1 es1.size (ledW w):=by rw[hz1]; exact T1
  have hg:(s.heap.update a (Obj.putSet es1 t1)).get? a=some { o with data:= .set es1 (ep+1) t1} :=by
   have q:=bM (Obj.putSet es1 t1) ho (by rw[putSet_of es1 t1 hd]; rfl)
   rw[putSet_of es1 t1 hd] at q
   exact q
  have fin:Q true { s with heap:=s.heap.update a (Obj.putSet es1 t1)} :=
   h true _ _ (dj ..) ⟨⟨_,es1,ep+1,t1,hg,hex,rfl,hp2,T1'⟩,(jDH ks p k).nodup_iff.mpr (cF.mpr ⟨hnk,S.nd⟩),by omega⟩ (fun z=>jM9 ks p k z) (by omega)
  have hfull:t1.tooFull=false:=T1'.full (by omega)
  refine aa (show wpAny _ A (match gv with | true=>rule "set.scan.the-table-gave-way" | false=>pure ()) _ E s from ?_)
  have hzl:es1.size<=sizeLine:=by rw[hz1,show sizeLine=2 ^ 24 from rfl]; omega
  cases gv with
  | true=>
   refine cI ?_
   split
   all_goals
    refine aa (show wpAny _ A (pure true:Sem Bool) _ E s from ae ?_)
    simp only [cX]
    refine aa (wpAny_storeSet_of ho hd ?_ hzl)
    rw[hfull,cP,am aq]
    exact ae (ae fin)
  | false=>
   refine ae ?_
   split
   all_goals
    refine aa (show wpAny _ A (pure true:Sem Bool) _ E s from ae ?_)
    simp only [cX]
    refine aa (wpAny_storeSet_of ho hd ?_ hzl)
    rw[hfull,cP,am aq]
    exact ae (ae fin)
end
theorem jAX:entryFor table "set.update.loop" =some Builtin.«set.update.loop»:=entryFor_of_fast (by kernel_rfl)
theorem jAE:plainId "set.update.loop" =true:=by decide+kernel
section
variable {prog:Program}{w:World}{A:Around}{R:Result->Shared->Prop}{I:Addr}{fp wr:List Addr}{n:Nat}{P:Nat->Value->Prop}{St:Nat->Shared->Prop}
theorem jKA (W:WalksS prog w A.in1 I fp wr (fun a b=>b=a) n P St)(S:Addr)(hSf:S∉fp)(val:Nat->Int)(hval:∀ i v,P i v->∃ t,v= .int (val i) t)(hv:∀ i,i<n->0<=val i/\val i<32)(hn:n<=4):
  ∀ (k i:Nat) (s:Shared) (ks:List Int),n - i=k->i<=n->St i s->SetG w s.heap S ks->ks.length<=i->(∀ z,z∈ks↔∃ j,j<i/\val j=z)->
   (∀ s' ks',Moved (S::wr) (fun a b=>b=a) s s'->SetG w s'.heap S ks'->(∀ z,z∈ks'↔∃ j,j<n/\val j=z)->R (.ok (.ret .none)) s')->
   codeAny (model prog w) A (.builtin "set.update.loop" ⟨[.ref S, .ref I],[]⟩) R s:=by
 have hSw:S∉wr:=fun h=>hSf (W.sub _ h)
 have sub1:∀ b∈wr,b∈S::wr:=fun b hb=>aA _ hb
 intro k
 induction k with
 | zero=>
  intro i s ks hk hi hst hS hl hm hR
  obtain rfl:i=n:=by omega
  refine cg jAX ?_
  rw[bT jAE _]
  show wpAny _ A.in1 (pyNext (.ref I) >>= _) _ _ s
  refine aa (W.done s _ _ hst fun s' mv=>?_)
  show wpAny _ A.in1 (ret Value.none) _ _ s'
  exact ae (hR s' ks (mv.mono sub1) (hS.at fun o e=>mv.heap S o hSw e) hm)
 | succ k ih=>
  intro i s ks hk hi hst hS hl hm hR
  have hlt:i<n:=by omega
  refine cg jAX ?_
  rw[bT jAE _]
  show wpAny _ A.in1 (pyNext (.ref I) >>= _) _ _ s
  refine aa (W.item i s _ _ hlt hst fun v s' hP hst' mv=>?_)
  obtain⟨t,rfl⟩:=hval i v hP
  have hS':=hS.at (h':=s'.heap) fun o e=>mv.heap S o hSw e
  show wpAny _ A.in1 (holding [Value.int (val i) t] (setAdd S (.int (val i) t)) >>= _) _ _ s'
  refine aa (bE ?_)
  unfold setAdd
  refine bE (aa (wpAny_pyHash_int ?_))
  refine jOW (s:= { s' with toks:=s'.toks+1}) hS' (by omega) (hv i hlt).1 (hv i hlt).2 fun b h' ks' sb hS2 hm2 hl2=>?_
  refine ae ⟨dQ jAE _,ih (i+1) _ ks' (by omega) hlt (W.frame _ s' _ _ hst' (Nat.le_succ _) fun b hb o e=>?_) hS2 (by omega) (fun z=>?_) fun s'' ks'' mv2 hS3 hm3=>?_⟩
  ·rw[sb.2 b (fun h:b=S=>hSf (by rw[<- h]; exact hb))]
   exact e
  ·rw[hm2,hm]
   constructor
   ·rintro (h | ⟨j,hj,e⟩)
    ·exact⟨i,by omega,h.symm⟩
    ·exact⟨j,by omega,e⟩
   ·rintro ⟨j,hj,e⟩
    by_cases hji:j=i
    ·exact .inl (by rw[<- e,hji])
    ·exact .inr ⟨j,by omega,e⟩
  ·refine hR s'' ks'' (Moved.trans W.gtrans ((mv.mono sub1).then_heap (Nat.le_succ _) fun b o hb e=>?_) mv2) hS3 hm3
   rw[sb.2 b (fun h:b=S=>hb (by rw[h]; exact aE))]
   exact e
end
section
variable {prog:Program}{w:World}{A:Around}{E:Value->Shared->Prop}{s:Shared}
theorem jMX (a:Value){Q:Value->Shared->Prop}
  (h:Q (.ref s.heap.objs.size) { s with heap:=s.heap.push { cls:= .type "set",dict:=none,data:= .set #[] 0 (.fresh 0 0 (ledW w))}}):
  codeAny (model prog w) A (.call (.builtin "set.__new__") ⟨[.type "set",a],[]⟩) (wants Q E) s:=by
 refine codeAny_of_tree (show wpAny _ A.in1 (do checkBuiltinCall "set.__new__" ⟨[.type "set",a],[]⟩; again (.builtin "set.__new__" ⟨[.type "set",a],[]⟩)) _ _ s from ?_)
 refine aa (wpAny_of_eq (F.newCall_set_1 a) (ae ⟨dQ F.plain_set_new _,cg F.entry_set_new ?_⟩))
 rw[bT F.plain_set_new _]
 unfold Builtin.«set.__new__» Builtin.Frozenset.newClass
 have q:=sub_set_self
 obtain⟨hp,g,d,tk,os⟩:=s
 dsimp only
 wp_walk
 refine cy (ae ?_)
 dsimp only
 simp only [newObj]
 exact aa (wpAny_alloc (ae (ae h)))
set_option maxHeartbeats 3200000 in
theorem set_of_list {l:Addr}{items:Array Value}{ns:List Int}{Q:Value->Shared->Prop}(hh:A.handled=none)(hl:s.heap.IsList l items)(hi:PyProof.Rows.IntsAre items.toList ns)
  (hn:items.size<=4) (hv:∀ z∈ns,0<=z/\z<32)
  (h:∀ (h':Heap) (tk:Nat) (ks:List Int),SetG w h' s.heap.objs.size ks->(∀ z,z∈ks↔z∈ns)->(∀ b o,s.heap.get? b=some o->h'.get? b=some o)->Q (.ref s.heap.objs.size) { s with heap:=h',toks:=tk}):
  wpAny (model prog w) A (call (.type "set") [.ref l]) Q E s:=by
 obtain⟨c,tl,hmro⟩:=F.called_set.mro
 have hmade:=F.called_set.made
 have hsub:=F.called_set.sub
 have g1:=F.called_set.notType
 have g2:=F.called_set.canCreate
 have g3:=F.typeCall_set_1 (.ref l)
 refine wpAny_call (codeAny_of_tree (show wpAny _ _ (callAny (.type "set") _) _ _ _ from ?_))
 refine ae ⟨Code.quiet_builtin _ (by decide+kernel),cg F.entry_type_call ?_⟩
 rw[Around.under_plain (weight_type_call_type "set" [.ref l] []) rfl]
 repeat (any_goals (first | assumption | wp_step))
 have hlen:items.size=ns.length:=by rw[<- aW]; exact hi.length
 refine dn (jMX (.ref l) (E:=E) (Q:=fun obj z=>obj= .ref s.heap.objs.size/\z= { s with heap:=s.heap.push { cls:= .type "set",dict:=none,data:= .set #[] 0 (.fresh 0 0 (ledW w))}}) ⟨rfl,rfl⟩) fun r z hr=>?_
 cases r with
 | error e=>exact hr
 | ok fl=>
  cases fl with
  | ret obj=>
   obtain⟨rfl,rfl⟩:=hr
   generalize hO:({ cls:= .type "set",dict:=none,data:= .set #[] 0 (.fresh 0 0 (ledW w))} :Obj)=oS
   have hS:(s.heap.push oS).get? s.heap.objs.size=some oS:=ak _ (by rw[<- hO]; rfl)
   have hT:Shared.TypeIs { s with heap:=s.heap.push oS} (.ref s.heap.objs.size) "set" :=⟨_,hS,by rw[<- hO]⟩
   have hli:=F.called_set.init.lookup
   have hbi:=F.called_set.init.bind (.ref s.heap.objs.size)
   repeat (any_goals (first | assumption | wp_step))
   refine dn (codeAny_call_builtin (R:=wants (fun r z2=>r= .none/\∃ h' tk ks,z2= { s with heap:=h',toks:=tk} /\SetG w h' s.heap.objs.size ks/\(∀ z,z∈ks↔z∈ns)/\(∀ b o,s.heap.get? b=some o->h'.get? b=some o)) E)
    F.called_set.init.plain F.entry_set_init (check_set_init_1 hT ?_)) fun r2 z2 hr2=>?_
   ·obtain⟨ol,hol,hcl,nl,hdl⟩:=hl
    obtain⟨ocls,odict,odata,oslots⟩:=ol
    simp only at hcl hdl
    subst hcl; subst hdl
    have hol':(s.heap.push oS).get? l=some { cls:= .type "list",dict:=odict,data:= .seq items nl,slots:=oslots} :=ac _ hol
    have y1:=F.sub_list_set
    have y2:=F.sub_list_frozenset
    have y3:(Value.type "list" ==Value.type "dict")=false:=by decide
    have hl1:(s.heap.push oS).IsList l items:=⟨_,hol',rfl,nl,rfl⟩
    subst hO
    unfold Builtin.«set.__init__» noKeywords Builtin.Frozenset.updateFrom
    generalize hPI:pyIter=PI
    wp_walk
    subst hPI
    refine bS hl1 (aa (wpAny_runValue ?_))
    have hlS:l<s.heap.objs.size:=ag hol
    have hz1:(s.heap.push { cls:= .type "set",dict:=none,data:= .set #[] 0 (.fresh 0 0 (ledW w))}).objs.size=s.heap.objs.size+1:=aR _ _
    have nI:l≠(s.heap.push { cls:= .type "set",dict:=none,data:= .set #[] 0 (.fresh 0 0 (ledW w))}).objs.size:=by
     rw[hz1]
     exact aC (ai hlS)
    have nS:s.heap.objs.size∉ [(s.heap.push { cls:= .type "set",dict:=none,data:= .set #[] 0 (.fresh 0 0 (ledW w))}).objs.size,l]:=by
     rw[hz1]
     simp only [av,aS,ca,fu]
     exact⟨aC (aB _),bu hlS⟩
    have hget:((s.heap.push { cls:= .type "set",dict:=none,data:= .set #[] 0 (.fresh 0 0 (ledW w))}).push { cls:= .type "list_iterator",data:= .fields #[.ref l, .int 0 0]}).get? s.heap.objs.size
      =some { cls:= .type "set",dict:=none,data:= .set #[] 0 (.fresh 0 0 (ledW w))} :=ac _ hS
    refine jKA ((fg (by simp [hh]) _ l nI items).toS) s.heap.objs.size nS (fun i=>ns.getD i 0) (fun i v q=>PyProof.Rows.IntsAre.int_at hi i v (by rw[cT]; exact q))
     (fun i q=>hv _ ?_) hn (items.size - 0) 0 _ [] rfl (aP _) ⟨⟨_,ak _ rfl,rfl,rfl⟩,hl1.push _⟩ ⟨⟨_,#[],0,_,hget,⟨rfl,rfl,rfl⟩,rfl, .nil,jHX _⟩,List.nodup_nil,aP _⟩ (af _) (fun z=>⟨fun q=>by(cases q),fun ⟨j,q,_⟩=>absurd q (be _)⟩) ?_
    ·have q':i<ns.length:=by rw[<- hlen]; exact q
     simp [List.getD,q']
    ·intro s' ks mv S' hm
     obtain⟨h',g',d',tk',os'⟩:=s'
     have e1:g'=s.gens:=mv.gens
     have e2:d'=s.drawn:=mv.drawn
     have e3:os'=s.os:=mv.os
     subst e1; subst e2; subst e3
     refine ae (ae ⟨rfl,h',tk',ks,rfl,S',fun z=>?_,fun b o e=>?_⟩)
     ·rw[hm]
      constructor
      ·rintro ⟨j,hj,e⟩
       have hj':j<ns.length:=by rw[<- hlen]; exact hj
       rw[<- e]
       simp [List.getD,hj']
      ·intro hz
       obtain⟨j,hj,e⟩:=cC hz
       exact⟨j,by rw[hlen]; exact hj,by simp [List.getD,hj,e]⟩
     ·have hb:=ag e
      refine mv.heap b o ?_ (ac _ (ac _ e))
      rw[hz1]
      simp only [av,aS,ca,fu]
      exact⟨aC hb,aC (ai hb)⟩
   ·cases r2 with
    | error e=>exact hr2
    | ok fl2=>
     cases fl2 with
     | ret r=>
      obtain⟨rfl,h',tk,ks,rfl,hS',hm,hk⟩:=hr2
      repeat (any_goals (first | assumption | wp_step))
      exact h _ _ _ hS' hm hk
     | _=>exact hr2.elim
  | _=>exact hr.elim
end
theorem slot_si_next:Slot "set_iterator" "__next__" "set_iterator.__next__" :=
 .of (owner:= "set_iterator") (n:= "__next__") (by
   rw[eF,cU]
   kernel_rfl) (by decide+kernel) (by decide+kernel)
  (by decide+kernel)
  (by first
   | exact .inl (by decide+kernel)
   | exact .inr (by decide+kernel))
  (by
   rw[eQ]
   kernel_rfl)
theorem jBV:Slot "set_iterator" "__iter__" "set_iterator.__iter__" :=
 .of (owner:= "set_iterator") (n:= "__iter__") (by
   rw[eF,cU]
   kernel_rfl) (by decide+kernel) (by decide+kernel)
  (by decide+kernel)
  (by first
   | exact .inl (by decide+kernel)
   | exact .inr (by decide+kernel))
  (by
   rw[eQ]
   kernel_rfl)
theorem jBH:entryFor table "set_iterator.__next__" =some Builtin.«set_iterator.__next__»:=entryFor_of_tree (by kernel_rfl)
theorem jCW:entryFor table "set.__iter__" =some Builtin.«frozenset.__iter__»:=
 entryFor_alias (id':= "frozenset.__iter__") (by kernel_rfl) rfl (by decide+kernel) (by kernel_rfl)
theorem jDV:entryFor table "set_iterator.__iter__" =some Builtin.«dict_keyiterator.__iter__»:=
 entryFor_alias (id':= "dict_keyiterator.__iter__") (by kernel_rfl) (by first | rfl | decide+kernel | (unfold String.splitOn; simp+decide [String.splitOnAux])) (by decide+kernel)
  (by kernel_rfl)
theorem jC1 (a:Value):argsOk "set_iterator.__next__" ⟨[a],[]⟩:=by unfold argsOk; kernel_rfl
theorem jF7 (a:Value):argsOk "set_iterator.__iter__" ⟨[a],[]⟩:=by unfold argsOk; kernel_rfl
theorem jE1 (a:Value):argsOk "set.__iter__" ⟨[a],[]⟩:=by unfold argsOk; kernel_rfl
abbrev byTxt (w:World):Bool:=w.params.followText "set-order"
abbrev IsSI (h:Heap)(I:Addr)(slot i:Nat)(a:Addr)(n ep:Nat):Prop:=
 h.get? I=some { cls:= .type "set_iterator",dict:=none,data:= .fields #[rawInt slot,rawInt i, .ref a,rawInt n,rawInt ep],slots:=#[]}
def yP (w:World)(t:SetTable)(i:Nat):Nat:=if byTxt w=true then 0 else jG2 t.place i
noncomputable def told (w:World)(a:Addr)(ep:Nat)(es:Array (Int×Value)):List Value:=(if byTxt w=true then (pickOrder (w.params.setOrder a ep) es).toList else es.toList).map (·.2)
theorem jAH (w:World)(a:Addr)(ep:Nat)(es:Array (Int×Value)):(told w a ep es).length=es.size:=by
 unfold told
 rw[ab]
 split
 ·rw[(jEF _ es).length_eq]; simp
 ·simp
theorem jHV (w:World)(a:Addr)(ep:Nat)(es:Array (Int×Value)):(told w a ep es).Perm (es.toList.map (·.2)):=by
 unfold told
 split
 ·exact(jEF _ es).map _
 ·exact .refl _
section
variable {prog:Program}{w:World}{A:Around}{E:Value->Shared->Prop}{s:Shared}{a I:Addr}{o:Obj}{es:Array (Int×Value)}{ep:Nat}{t:SetTable}
theorem jIP {i:Nat}{Q:Option (Value×Nat)->Shared->Prop}(ho:s.heap.get? a=some o)(hd:o.data= .set es ep t)(T:Tab t es.size (ledW w))(hn:es.size<=4)(hi:i<=es.size)
  (h:Q ((told w a ep es)[i]?.map fun v=>(v,yP w t (i+1))) s):wpAny (model prog w) A (setNext a (yP w t i) i ep) Q E s:=by
 unfold setNext
 refine aa (bG ho hd (T.fits hn) ?_)
 dsimp only
 unfold setsByText
 refine aa (aa (cy (ae ?_)))
 show wpAny _ A (if byTxt w=true then _ else _) Q E s
 have hl:=jAH w a ep es
 by_cases hb:byTxt w=true
 ·rw[ah hb,am (by simp)]
  unfold setWalk
  refine aa (aa (bG ho hd (T.fits hn) ?_))
  dsimp only
  unfold setsByText
  refine aa (aa (cy (ae ?_)))
  show wpAny _ A (if byTxt w=true then _ else _) _ E s
  rw[ah hb]
  refine aa (cy (ae (ae ?_)))
  have e:(told w a ep es)[i]?.map (fun v=>(v,yP w t (i+1)))=(pickOrder (w.params.setOrder a ep) es)[i]?.map (fun e=>(e.snd,yP w t i)):=by
   unfold told yP
   rw[ah hb,ah hb,ah hb,ay,cT,Option.map_map]
   rfl
  rw[e] at h
  exact h
 ·rw[am hb]
  have hb':byTxt w=false:=by simpa using hb
  have hld:t.led=true:=by rw[T.ld]; show (!byTxt w)=true; rw[hb']; rfl
  show wpAny _ A (if (!t.plain&&decide (es.size>1))=true then _ else _) Q E s
  rw[T.pl,fb,bZ,am aq]
  refine aa ?_
  show wpAny _ A (if (!t.led&&!es.isEmpty)=true then _ else pure ()) _ E s
  rw[hld,fb,bZ,am aq]
  refine ae (ae ?_)
  have eb:SetTable.below t.place (yP w t i)=i:=by
   unfold yP
   rw[am hb]
   exact jF6 T.ris (by rw[T.sz]; exact hi)
  rw[eb]
  have et:(told w a ep es)[i]?=es[i]?.map (·.2):=by
   unfold told
   rw[am hb,ay,cT]
  rw[et] at h
  by_cases hlt:i<es.size
  ·have h1:es[i]?=some es[i]:=by simp [hlt]
   have hlt2:i<t.place.size:=by rw[T.sz]; exact hlt
   have h2:t.place[i]?=some t.place[i]:=by simp [hlt2]
   have h3:yP w t (i+1)=t.place[i]+1:=by
    unfold yP jG2
    rw[am hb]
    simp [Array.getD,hlt2]
   rw[h1,h3] at h
   rw[h1,h2]
   exact h
  ·have h1:es[i]?=none:=by simp; omega
   rw[h1] at h
   rw[h1]
   exact h
theorem jEE {i:Nat}{v:Value}{Q:Option Value->Shared->Prop}(ho:s.heap.get? a=some o)(hd:o.data= .set es ep t)(T:Tab t es.size (ledW w))(hn:es.size<=4)
  (hit:IsSI s.heap I (yP w t i) i a es.size ep) (hv:(told w a ep es)[i]?=some v)
  (hQ:∀ h',IsSI h' I (yP w t (i+1)) (i+1) a es.size ep->Heap.SameBut I s.heap h'->Q (some v) { s with heap:=h'}):wpAny (model prog w) A (pyNext (.ref I)) Q E s:=by
 have hT:s.TypeIs (.ref I) "set_iterator" :=⟨_,hit,rfl⟩
 have hi:i<es.size:=by
  rw[<- jAH w a ep es]
  exact(ar.mp hv).1
 unfold pyNext
 refine aa (cE (aQ (name:=Str.ofString "__next__") hT slot_si_next (aY slot_si_next hT jBH ?_ (jC1 _))))
 unfold Builtin.«set_iterator.__next__»
 refine aa (m:=slotArgs "__next__" 0 _) (ae ?_)
 dsimp only
 unfold fieldsOf
 refine aa (aa (fc hit ?_))
 refine ae ?_
 dsimp only [rawInt]
 unfold setEntries
 refine aa (aa (bG ho hd (T.fits hn) (ae ?_)))
 rw[am (by simp)]
 simp only [cn]
 refine aa (jIP ho hd T hn (cw hi) ?_)
 rw[hv]
 dsimp only [Option.map]
 refine aa (aM hit (by simp) fun h1 hit1 sb1=>?_)
 refine aa (aM hit1 (by simp) fun h2 hit2 sb2=>?_)
 refine ae ⟨v,rfl,ae (hQ h2 ?_ (sb1.trans sb2))⟩
 show h2.get? I=_
 rw[hit2]
 simp [rawInt]
theorem jFC {Q:Option Value->Shared->Prop}(hh:A.handled=none)(ho:s.heap.get? a=some o)(hd:o.data= .set es ep t)(T:Tab t es.size (ledW w))(hn:es.size<=4)
  (hit:IsSI s.heap I (yP w t es.size) es.size a es.size ep)
  (hQ:∀ h',Heap.ExtBut I s.heap h'->Q none { s with heap:=h'}):wpAny (model prog w) A (pyNext (.ref I)) Q E s:=by
 have hT:s.TypeIs (.ref I) "set_iterator" :=⟨_,hit,rfl⟩
 unfold pyNext
 refine aa (cE (aQ (name:=Str.ofString "__next__") hT slot_si_next (aY slot_si_next hT jBH ?_ (jC1 _))))
 unfold Builtin.«set_iterator.__next__»
 refine aa (m:=slotArgs "__next__" 0 _) (ae ?_)
 dsimp only
 unfold fieldsOf
 refine aa (aa (fc hit ?_))
 refine ae ?_
 dsimp only [rawInt]
 unfold setEntries
 refine aa (aa (bG ho hd (T.fits hn) (ae ?_)))
 rw[am (by simp)]
 simp only [cn]
 refine aa (jIP ho hd T hn (af _) ?_)
 rw[bN (by rw[jAH]; exact af _)]
 dsimp only [Option.map]
 refine aa (aM hit (by simp) fun h1 hit1 sb1=>?_)
 refine aa ?_
 simp only [newExc,newTuple]
 refine aa (ba ?_ (by size_fits))
 refine aa (m:=firstArgMember _ _) (wpAny_of_eq (a:=Value.none) (by first | rfl | (simp only [firstArgMember]; rfl)) ?_)
 refine ba ?_ (by size_fits)
 simp only [raiseNew]
 refine aa (wpAny_handled ?_)
 rw[show A.in1.handled=none from hh]
 refine aa (ae (wpAny_throw ?_))
 refine aa (cW (T:= "StopIteration") (b:=true) ⟨_,ak _ rfl,rfl⟩ eR ?_)
 exact ae (hQ _ ((sb1.extBut.push _).push _))
theorem jM2 {i:Nat}{slot n:Nat}{Q:Value->Shared->Prop}(hit:IsSI s.heap I slot i a n ep)(h:Q (.ref I) s):wpAny (model prog w) A (pyIter (.ref I)) Q E s:=by
 have hT:s.TypeIs (.ref I) "set_iterator" :=⟨_,hit,rfl⟩
 refine wpAny_pyIter_slot hT jBV (aY jBV hT jDV ?_ (jF7 _))
 show wpAny _ _ (ret (.ref I)) _ _ s
 exact ae ⟨_,rfl,"set_iterator",_,hT,slot_si_next.lookup,h⟩
theorem jKF {Q:Value->Shared->Prop}(hx:o.ExactSet)(ho:s.heap.get? a=some o)(hd:o.data= .set es ep t)(T:Tab t es.size (ledW w))(hn:es.size<=4)
  (hQ:∀ h',h'.get? s.heap.objs.size=some { cls:= .type "set_iterator",dict:=none,data:= .fields #[rawInt (yP w t 0),rawInt 0, .ref a,rawInt es.size,rawInt ep],slots:=#[]} ->(∀ b u,s.heap.get? b=some u->h'.get? b=some u)->
   h'.objs.size=s.heap.objs.size+1->Q (.ref s.heap.objs.size) { s with heap:=h'}):wpAny (model prog w) A (pyIter (.ref a)) Q E s:=by
 have hT:s.TypeIs (.ref a) "set" :=⟨o,ho,hx.1⟩
 refine wpAny_pyIter_slot hT eJ (aY eJ hT jCW ?_ (jE1 _))
 unfold Builtin.«frozenset.__iter__»
 refine aa (show wpAny _ _ (pure a:Sem Addr) _ _ s from ae ?_)
 unfold Builtin.Frozenset.sizeOf setEntries
 refine aa (aa (aa (bG ho hd (T.fits hn) (ae (ae ?_)))))
 dsimp only
 unfold setDrawn
 refine aa (aa (bG ho hd (T.fits hn) ?_))
 dsimp only
 unfold setsByText
 refine aa (aa (cy (ae (ae ?_))))
 show wpAny _ _ (if (!byTxt w&&(!t.plain&&decide (es.size>1)))=true then _ else _) _ _ s
 rw[T.pl,fb,bZ,cP,am aq]
 refine aa (ae ?_)
 refine aa (wpAny_setEpoch_of ho hd (T.fits hn) ?_)
 refine aa (ba (ae ⟨_,rfl,"set_iterator",_,⟨_,ak _ rfl,rfl⟩,slot_si_next.lookup,hQ _ ?_ (fun b u e=>ac _ e) (aR _ _)⟩) (by size_fits))
 have e0:yP w t 0=0:=by unfold yP jG2; split <;> rfl
 rw[e0]
 exact ak _ rfl
theorem jHM (hh:A.handled=none)(hne:a≠I)(hd:o.data= .set es ep t)(T:Tab t es.size (ledW w))(hn:es.size<=4):
  Walks prog w A I [I,a] [I] es.size (fun i v=>(told w a ep es)[i]?=some v) (fun i h=>IsSI h I (yP w t i) i a es.size ep/\h.get? a=some o) where
 sub:=fun b hb=>by simp at hb; simp [hb]
 frame:=fun _ _ _ st hk=>⟨hk I (by simp) _ st.1,hk a (by simp) _ st.2⟩
 item:=fun i s Q E hi st hQ=>by
  obtain⟨v,hv⟩:∃ v,(told w a ep es)[i]?=some v:=⟨_,aL (by rw[jAH]; exact hi)⟩
  exact jEE st.2 hd T hn st.1 hv fun h' hit' sb=>hQ v h' s.toks hv ⟨hit',(sb.2 a hne).trans st.2⟩ fun b o hb e=>(sb.2 b (fun z=>hb (by simp [z]))).trans e
 done:=fun s Q E st hQ=>jFC hh st.2 hd T hn st.1 fun h' eb=>hQ h' s.toks fun b o hb e=>eb b o (fun z=>hb (by simp [z])) e
 self:=fun _ _ _ _ st hQ=>jM2 st.1 hQ
end
theorem jEC:typeLookup (.type "set") "__len__" =pure (some (.builtin "set.__len__")):=by rw[eF,cU]; kernel_rfl
section
variable {prog:Program}{w:World}{A:Around}{E:Value->Shared->Prop}{s:Shared}{a:Addr}{o:Obj}{es:Array (Int×Value)}{ep:Nat}{t:SetTable}
theorem jKX {Q:Bool->Shared->Prop}(hT:s.TypeIs (.ref a) "set")(h:Q false s):wpAny (model prog w) A (Builtin.List.listLengthHint (.ref a)) Q E s:=by
 unfold Builtin.List.listLengthHint
 refine aa (wpAny_specialOf hT jEC ?_)
 generalize hid:("set.__len__" :String)=id0
 wp_delta
 rw[show splitId id0=some ("set","__len__") from by subst hid; decide+kernel]
 subst hid
 refine aa (cW (b:=true) hT (by rw[eQ]; kernel_rfl) ?_)
 refine wpAny_ite_split (fun q=>absurd q (by decide)) (fun _=>?_)
 refine wpAny_ite_split (fun _=>?_) (fun q=>absurd (by decide+kernel) q)
 exact aa (dq hT (ae h))
theorem jFP {Q:List Value->Shared->Prop}(hh:A.handled=none)(hx:o.ExactSet)(ho:s.heap.get? a=some o)(hd:o.data= .set es ep t)(T:Tab t es.size (ledW w))(hn:es.size<=4)
  (hQ:∀ s',(∀ b u,s.heap.get? b=some u->s'.heap.get? b=some u)->s'.gens=s.gens->s'.drawn=s.drawn->s'.os=s.os->s.heap.objs.size<s'.heap.objs.size->Q (told w a ep es) s'):wpAny (model prog w) A (collect (.ref a)) Q E s:=by
 have ha:a<s.heap.objs.size:=ag ho
 have hSa:s.heap.objs.size≠a:=bu ha
 unfold collect
 refine aa (wpAny_runValue (cg PySem.F.entry_proto_collect ?_))
 rw[bT PySem.F.plain_proto_collect _]
 show wpAny _ A.in1 (newList [] >>= fun l=>again (.builtin "list.__iadd__" ⟨[l, .ref a],[]⟩)) _ _ s
 refine aa (ba (ae ⟨dQ dY _,cg PySem.F.entry_list_iadd ?_⟩))
 rw[bT dY _]
 generalize hE:({ s with heap:=s.heap.push { cls:= .type "list",dict:=none,data:= .seq ([]:List Value).toArray}} :Shared)=s1
 have ho1:s1.heap.get? a=some o:=by rw[<- hE]; exact ac _ ho
 have hL1:s1.heap.get? s.heap.objs.size=some { cls:= .type "list",dict:=none,data:= .seq ([]:List Value).toArray} :=by rw[<- hE]; exact ak _ rfl
 have hz1:s1.heap.objs.size=s.heap.objs.size+1:=by rw[<- hE]; exact aR _ _
 have hT1:s1.TypeIs (.ref a) "set" :=⟨o,ho1,hx.1⟩
 show wpAny _ A.in1 (Builtin.List.listExtendWith (.ref s.heap.objs.size) (.ref a) (.ref s.heap.objs.size)) _ _ _
 unfold Builtin.List.listExtendWith
 refine aa (dq hT1 ?_)
 have q1:Builtin.List.listSameRef (.ref s.heap.objs.size) (.ref a)=false:=by simp [Builtin.List.listSameRef,hSa]
 rw[am (by rw[q1]; decide)]
 refine aa (jKF hx ho1 hd T hn fun h2 hI2 k2 z2=>?_)
 refine aa (bE ?_)
 have ho2:h2.get? a=some o:=k2 _ _ ho1
 have hT2:Shared.TypeIs { s1 with heap:=h2} (.ref a) "set" :=⟨o,ho2,hx.1⟩
 have hL2:=k2 _ _ hL1
 refine jKX hT2 ?_
 rw[ah (by decide+kernel)]
 refine aa (cI ?_)
 have hne:s.heap.objs.size≠s1.heap.objs.size:=by omega
 refine aa ?_
 show wpAny _ A.in1 (updateSeq s.heap.objs.size (·.push .none) >>= fun _=>updateSeq s.heap.objs.size (·.pop)) _ _ _
 refine aa (wpAny_updateSeq hL2 rfl ?_)
 have hL3:=bM (Obj.mapSeq (·.push Value.none)) hL2 rfl
 refine wpAny_updateSeq hL3 rfl ?_
 have hL4:=bM (Obj.mapSeq (·.pop)) hL3 rfl
 have oth:∀ b u,b≠s.heap.objs.size->h2.get? b=some u->((h2.update s.heap.objs.size (Obj.mapSeq (·.push Value.none))).update s.heap.objs.size (Obj.mapSeq (·.pop))).get? b=some u:=
  fun b u hb e=>(ce _ _ (cL hb)).trans ((ce _ _ (cL hb)).trans e)
 have W:=(jHM (prog:=prog) (A:=A.in1) (a:=a) (I:=s1.heap.objs.size) hh (aC (show a<s1.heap.objs.size by rw[hz1]; exact ai ha)) hd T hn).toS
 have z24:es.size<=sizeLine:=by rw[show sizeLine=2 ^ 24 from rfl]; omega
 refine ae ⟨dQ PySem.F.plain_extend_loop _,codeAny_extend_loopS W z24 s.heap.objs.size (by simp [hne,hSa]) _ es.size 0 _ _ _ rfl (aP _) ⟨oth _ _ (cL hne) hI2,oth _ _ (cL hSa) ho2⟩ hL4 (ItemsOf.nil _) fun s' acc' c' hm hS' hacc=>?_⟩
 show wpAny _ A (load s.heap.objs.size >>= _) _ _ s'
 refine aa (fc hS' ?_)
 have eacc:acc'.toList=told w a ep es:=by
  apply List.ext_getElem?
  intro i
  by_cases hi:i<es.size
  ·have hi':i<acc'.size:=by rw[hacc.1]; exact hi
   have:=hacc.2 i acc'[i] (by simp [hi'])
   rw[this]
   simp [hi']
  ·rw[bN (by rw[aW,hacc.1]; omega),bN (by rw[jAH]; omega)]
 refine ae ?_
 rw[eacc]
 refine hQ s' (fun b u e=>?_) ?_ ?_ ?_ (ag hS')
 ·have hb:b≠s.heap.objs.size:=aC (ag e)
  have hb1:b≠s1.heap.objs.size:=aC (show b<s1.heap.objs.size by rw[hz1]; exact ai (ag e))
  exact hm.heap b u (by simp [hb,hb1]) (oth b u hb (k2 b u (by rw[<- hE]; exact ac _ e)))
 ·have:=hm.gens; rw[<- hE] at this; exact this
 ·have:=hm.drawn; rw[<- hE] at this; exact this
 ·have:=hm.os; rw[<- hE] at this; exact this
end
end SS
end
section
namespace SS
open PySem PyProof.Rows
section
variable {prog:Program}{w:World}{A:Around}{E:Value->Shared->Prop}{s:Shared}{a:Addr}{ks:List Int}
theorem jJB:∀ {vs:List Value}{ks:List Int},Paired (fun v k=>∃ t,v=Value.int k t) vs ks->IntsAre vs ks
 | _,_, .nil=> .nil
 | _,_, .cons ⟨t,e⟩ r=>by subst e; exact .cons _ t (jJB r)
theorem jD3 {es:List (Int×Value)} :∀ {ks:List Int},Paired El es ks->Paired (fun v k=>∃ t,v=Value.int k t) (es.map (·.2)) ks
 | _, .nil=> .nil
 | _, .cons ⟨_,q⟩ r=> .cons q (jD3 r)
theorem jFG {α β:Type}{F:α->β->Prop}{l l':List α}(p:l'.Perm l):∀ {r:List β},Paired F l r->∃ r',Paired F l' r'/\r'.Perm r:=by
 induction p with
 | nil=>intro r h; cases h; exact⟨[], .nil, .nil⟩
 | cons x _ ih=>
  intro r h
  cases h with
  | cons f t=>
   obtain⟨r',h1,h2⟩:=ih t
   exact⟨_::r', .cons f h1,h2.cons _⟩
 | swap x y l=>
  intro r h
  cases h with
  | cons f t=>
   cases t with
   | cons g t=>exact⟨_, .cons g (.cons f t), .swap _ _ _⟩
 | trans _ _ ih1 ih2=>
  intro r h
  obtain⟨r1,h1,h2⟩:=ih2 h
  obtain⟨r2,h3,h4⟩:=ih1 h1
  exact⟨r2,h3,h4.trans h2⟩
theorem sorted_set {Q:Value->Shared->Prop}(hh:A.handled=none)(S:SetG w s.heap a ks)
  (h:∀ (s':Shared) (l:Addr) (vs:List Value) (ns:List Int) (e:Nat),s.heap.objs.size<=l->(∀ b u,s.heap.get? b=some u->s'.heap.get? b=some u)->s'.gens=s.gens->s'.drawn=s.drawn->s'.os=s.os->
   s'.heap.get? l=some { cls:= .type "list",data:= .seq vs.toArray e} ->IntsAre vs ns->ns.Perm ks->ns.Pairwise (· <= ·)->Q (.ref l) s'):
  wpAny (model prog w) A (call (.builtin "sorted") [.ref a]) Q E s:=by
 obtain⟨o,es,ep,t,ho,hex,hd,hp,T⟩:=S.ex
 have hn:es.size<=4:=by
  have:=Paired.length hp
  rw[aW] at this
  have:=S.len
  omega
 refine Calls.call_function_entry kind_sorted plain_sorted entry_sorted (args_sorted1 _) ?_
 unfold Builtin.«sorted»
 refine aa (m:=checkCount "sorted" 1 1 _) (ae ?_)
 refine aa (jFP (A:=A.in1) hh hex ho hd T hn fun s1 k1 g1 d1 o1 z1=>?_)
 refine aa (wpAny_newList ?_ (by rw[jAH,show sizeLine=2 ^ 24 from rfl]; omega))
 obtain⟨ks1,hp1,pm1⟩:=jFG (jHV w a ep es) (jD3 hp)
 have hI:=jJB hp1
 have hl:(told w a ep es).length<64:=by rw[jAH]; omega
 have hL:(s1.heap.push (seqObj "list" (told w a ep es).toArray 0)).get? s1.heap.objs.size=some (seqObj "list" (told w a ep es).toArray 0):=ak _ rfl
 show wpAny _ _ _ _ _ { s1 with heap:=s1.heap.push (seqObj "list" (told w a ep es).toArray 0)}
 refine aa (bE (aY slot_list_sort ⟨_,hL,rfl⟩ entry_list_sort (list_sort_tree hL hI hl fun out ns' a1 a2 a3=>⟨_,rfl,?_⟩) (args_list_sort _)))
 obtain⟨e,he⟩:=sortedHeap_at (out:=out) hL
 have kept:∀ b u,s.heap.get? b=some u->(sortedHeap (s1.heap.push (seqObj "list" (told w a ep es).toArray 0)) s1.heap.objs.size (told w a ep es) out).get? b=some u:=fun b u q=>by
  have q1:=k1 b u q
  have hb:b<s1.heap.objs.size:=ag q1
  rw[sortedHeap_old (aC hb) (by rw[size_push']; exact ai hb)]
  exact ac _ q1
 generalize sortedHeap (s1.heap.push (seqObj "list" (told w a ep es).toArray 0)) s1.heap.objs.size (told w a ep es) out=hf at he kept ⊢
 exact ae ⟨_,rfl,h { s1 with heap:=hf} s1.heap.objs.size out.toList ns' e (cw z1) kept g1 d1 o1 (by rw[da]; exact he) a1 (a2.trans pm1) a3⟩
end
end SS
end
section
namespace L2
open PySem PySem.Spec PyProof.Rows
section
variable {es:List Expr}{env:Env}{a b:Expr}{pos:Pos}{xs ys:List Expr}
theorem kW {op:Operator} :starEach (.BinOp a op b pos::es) env=(false,eval (.BinOp a op b pos) env)::starEach es env:=rfl
theorem jI9 {op} :starEach (.BoolOp op xs pos::es) env=(false,eval (.BoolOp op xs pos) env)::starEach es env:=rfl
theorem jLD {ops:List CmpOp} :starEach (.Compare a ops xs pos::es) env=(false,eval (.Compare a ops xs pos) env)::starEach es env:=rfl
theorem jZ {kw:List Keyword} :starEach (.Call a xs kw pos::es) env=(false,eval (.Call a xs kw pos) env)::starEach es env:=rfl
theorem jM:starEach (.Subscript a b pos::es) env=(false,eval (.Subscript a b pos) env)::starEach es env:=rfl
theorem jS {gs sc} :starEach (.ListComp a gs sc pos::es) env=(false,eval (.ListComp a gs sc pos) env)::starEach es env:=rfl
theorem jG3 {x1} :starEach (.Tuple xs x1 pos::es) env=(false,eval (.Tuple xs x1 pos) env)::starEach es env:=rfl
theorem jF {c k} :starEach (.Constant c k pos::es) env=(false,eval (.Constant c k pos) env)::starEach es env:=rfl
theorem j3 {x:Str} :starEach (.Name x pos::es) env=(false,eval (.Name x pos) env)::starEach es env:=rfl
end
section
variable {X:Cx}
def CDivL (i j:Int):Prop:=0<j/\j<2 ^ 64
theorem jG9:OpR X (binaryOp .FloorDiv) (rI CDivL fun i j=> .int (i / j)):=opI fun i j _ _ _ _ _ hc q=>by
 have h1:(0:Int)<j:=hc.1
 have h2:j<2 ^ 64:=hc.2
 refine floordiv_int (by omega) (by rw[cr i (by omega)]; exact q) (.inl (dR ?_))
 have h3:j.natAbs<2 ^ 64:=by omega
 have h4:j.natAbs≠0:=by omega
 have:=(fr h4).mpr h3
 omega
theorem jA4:kZ X (.builtin "isinstance") (fun xs H Q=>∃ x T t b,xs=[x, .ty T]/\TyOf X.K H x t/\kitOne X.K t (.type T)=some b/\Q (.bl b) H):=by
 intro pins s σ H xs us Q I r h
 obtain⟨x,T,t,b,rfl,ty,e,q⟩:=h
 obtain⟨u,v,rfl,ru,rv⟩:=r.two
 cases rv
 exact jJ9 I ru ty e fun tk=>⟨.bl b,H,I.tok tk,rfl,q⟩
def jM5:V->List V->Hp->VK->Prop:=fun x vs H Q=>∃ l xs i y,x= .ref l/\vs=[.int i,y]/\H l=some (.lst xs)/\0<=i/\i<=xs.length/\xs.length<sizeLine/\Q .non (upd H l (.lst (xs.take i.toNat++y::xs.drop i.toNat)))
theorem Vals.put {y:V}{v:Value}(r:RelV y v){xs:List V}{us:List Value}(h:Vals xs us)(k:Nat):Vals (xs.take k++y::xs.drop k) (us.take k++v::us.drop k):=(h.take k).append (.cons r (h.drop k))
theorem jIT:MtM X "list.insert" jM5:=by
 intro pins s σ H x vs v us Q I rx rv h
 obtain⟨l,xs,i,y,rfl,rfl,hH,h0,h1,hz,q⟩:=h
 cases rx
 obtain⟨a,b,rfl,ra,rb⟩:=rv.two
 obtain⟨t,rfl⟩:=ra
 obtain⟨z,its,n,r,hl,e⟩:=I.lstM hH
 have line:=jEI
 have hf:Builtin.List.listFitsIndex i=true:=fitsIndex_both (by omega) (by omega)
 refine ej F.slot_list_insert ⟨_,e,rfl⟩ F.entry_list_insert (F.args_list_insert_3 _ _ _) (AutoSeq1.list_insert_list_int_val_1 l its.toArray n i t b (by simp [hf]) (by rw[au]; omega)) ⟨e,?_⟩
 refine⟨.non,_,I.lset (its':=its.take i.toNat++b::its.drop i.toNat) hH e ?_ (Vals.put rb r i.toNat) ?_,rfl,q⟩
 ·have hk:(if i<0 then (i+(its.toArray.size:Int)).toNat else min i.toNat its.toArray.size)=i.toNat:=by
   rw[am (by omega),au]
   omega
  show (its.toArray.extract 0 (if i<0 then (i+(its.toArray.size:Int)).toNat else min i.toNat its.toArray.size)).push b++its.toArray.extract (if i<0 then (i+(its.toArray.size:Int)).toNat else min i.toNat its.toArray.size)=_
  rw[hk]
  apply Array.ext'
  simp [List.extract_eq_take_drop,bm]
 ·rw[aJ,bg,bI,cx]
  omega
def rEqE (K:W.Frag):R2:=fun x y H Q=>∃ p q xs,x= .ref p/\y= .ref q/\SqT K H p xs/\SqT K H q []/\Q (.bl (decide (xs=[]))) H
theorem jLK (hu:X.A.units<cLine):OpR X (compareOp .Eq) (rEqE X.K):=by
 intro pins s σ H x y v u Q I rx ry h
 obtain⟨p,q,xs,rfl,rfl,hp,hq,k⟩:=h
 cases rx
 cases ry
 obtain⟨its,r,t1,_⟩:=I.tuple hp
 obtain⟨its2,r2,t2,_⟩:=I.tuple hq
 have e2:its2=[]:=r2.zero
 subst e2
 refine SeqAt.eq_tupleAt (e:=fun _=>true) (show s.heap.IsTuple p its.toArray from t1) (show s.heap.IsTuple q ([]:List Value).toArray from t2) hu (fun j h1 h2=>absurd h2 (by simp)) ⟨.bl _,H,I,rfl,?_⟩
 have hl:=r.length
 have e:((List.range (min its.toArray.size ([]:List Value).toArray.size)).all (fun _=>true)&&its.toArray.size==([]:List Value).toArray.size)=decide (xs=[]):=by
  cases xs with
  | nil=>
   have:its=[]:=by simpa using hl.symm
   subst this
   rfl
  | cons a b=>
   have:its.length≠0:=by rw[<- hl]; simp
   simp [this]
 rw[e]
 exact k
theorem jCU (hc:X.calm=true):kZ X (.builtin "all") (fun xs H Q=>∃ (p:Addr) (bs:List Bool),xs=[.ref p]/\SqL X.K H p (bs.map V.bl)/\Q (.bl (bs.all id)) H):=by
 intro pins s σ H xs us Q I r h
 obtain⟨p,bs,rfl,hq,q⟩:=h
 obtain⟨u,rfl,rx⟩:=r.one
 cases rx
 obtain⟨its,r',pl,hz⟩:=I.list hq
 have hlen:=r'.length
 rw[ab] at hlen
 refine call_all_walk (bS pl.isList ?_)
 have hne:p≠s.heap.objs.size:=by
  obtain⟨o,ho,_⟩:=pl.isList
  exact aC (ag ho)
 refine⟨s.heap.objs.size,_,_,_,_,_,fun i=>bs.getD i true,rfl,fg (by simpa using I.ok.hd hc) _ p hne its.toArray,⟨⟨_,ak _ rfl,rfl,rfl⟩,pl.isList.push _⟩,fun i v z Q' E' hP hQ'=>?_,fun h' tk hk=>?_⟩
 ·have hi:its[i]?=some v:=by simpa using hP
  have hb:i<bs.length:=by
   rw[hlen]
   exact(ar.mp hi).1
  obtain⟨u,hu,ru⟩:=r'.get (i:=i) (x:= .bl (bs[i])) (by simp [hb])
  rw[hi] at hu
  cases hu
  cases ru
  have e:bs.getD i true=bs[i]:=by simp [List.getD,hb]
  have hQ2:Q' (bs.getD i true) z:=hQ'
  rw[e] at hQ2
  exact ae hQ2
 ·have e:(List.range its.toArray.size).all (fun i=>bs.getD i true)=bs.all id:=by
   rw[au,<- hlen]
   rw[bR,bq,bq]
   constructor
   ·intro a b hb
    obtain⟨i,hi,rfl⟩:=cC hb
    have:=a i (aO.mpr hi)
    simpa [List.getD,hi] using this
   ·intro a i hi
    have hi:=aO.mp hi
    have:=a bs[i] (cV hi)
    simpa [List.getD,hi] using this
  rw[e]
  exact⟨.bl _,H,I.kept (t':=tk) fun b o e=>hk b o (by
   intro z
   have z:b=s.heap.objs.size:=by simpa using z
   exact absurd (ag e) (by rw[z]; exact aV _)) (ac _ e),rfl,q⟩
def jCO (n:Nat):List V:=(List.range n).map fun (i:Nat)=>V.int (i:Int)
theorem jGZ {n:Nat}{acc:Array Value}(h:ItemsOf (fun i v=>∃ t,v=Value.int (0+(i:Int)*1) t) acc n):Vals (jCO n) acc.toList:=by
 have key:∀ (l:List Value) (k:Nat),(∀ j v,l[j]?=some v->∃ t,v=Value.int ((k+j:Nat):Int) t)->Vals ((range' k l.length).map fun (i:Nat)=>V.int (i:Int)) l:=by
  intro l
  induction l with
  | nil=>intro k _; exact .nil
  | cons v l ih=>
   intro k hk
   rw[bg,List.range'_succ,ck]
   refine .cons ?_ (ih (k+1) fun j u hj=>?_)
   ·obtain⟨t,e⟩:=hk 0 v rfl
    exact⟨t,by simpa using e⟩
   ·obtain⟨t,e⟩:=hk (j+1) u (by simpa using hj)
    exact⟨t,by rw[e]; congr 1; omega⟩
 have:=key acc.toList 0 fun j v hj=>by
  obtain⟨t,e⟩:=h.2 j v (by simpa using hj)
  exact⟨t,by rw[e]; congr 1; omega⟩
 rw[aW,h.1] at this
 unfold jCO
 rw[eS]
 exact this
theorem jFS:kZ X (.type "range") (fun xs H Q=>∃ j:Int,xs=[.int j]/\∀ p,H p=none->Q (.ref p) (upd H p (.rng 0 j))):=by
 intro pins s σ H xs us Q I r h
 obtain⟨j,rfl,q⟩:=h
 obtain⟨u,rfl,t,rfl⟩:=r.one
 refine call_range_1 ⟨.ref s.heap.objs.size,_,I.laid (o:= .rng 0 j) (fun b o e=>ac _ e) (af _) ?_,rfl,q _ I.fresh⟩
 exact⟨_,_,_,ak _ rfl⟩
theorem jEV (hc:X.calm=true):kZ X (.type "list") (fun xs H Q=>∃ p j,xs=[.ref p]/\H p=some (.rng 0 j)/\0<=j/\j<=1000/\∀ l,H l=none->Q (.ref l) (upd H l (.lst (jCO j.toNat)))):=by
 intro pins s σ H xs us Q I r h
 obtain⟨p,j,rfl,hp,h0,h1,q⟩:=h
 obtain⟨u,rfl,rx⟩:=r.one
 cases rx
 obtain⟨t,u,v,e⟩:=I.hok p _ hp
 have en:Builtin.Range.rangeSize 0 j 1=(j.toNat:Int):=by
  rw[rangeSize_one]
  split <;> omega
 refine call_list_range (I.ok.hd hc) (show IsRange s.heap p 0 j 1 t u v from e) (small_one (by omega) (by omega) (by omega) (by omega)) en (by omega) fun h' tk acc' c' kp hS hacc=>?_
 refine⟨.ref s.heap.objs.size,_,I.laid (t':=tk) (o:= .lst (jCO j.toNat)) kp (af _) ?_,rfl,q _ I.fresh⟩
 refine⟨?_,acc'.toList,c',jGZ hacc,by rw[da]; exact hS⟩
 unfold jCO
 rw[ab,ao,cY]
 omega
def SetO (w:World)(a:Addr)(ks:List Int):HO:= .ext fun h=>SS.SetG w h a ks
theorem jE4 {ns:List Int} :∀ {us:List Value},Vals (ns.map V.int) us->IntsAre us ns:=by
 induction ns with
 | nil=>intro us h; cases h; exact .nil
 | cons n ns ih=>
  intro us h
  cases h with
  | cons r t=>
   obtain⟨k,rfl⟩:=r
   exact .cons n k (ih t)
theorem jC0:∀ {us:List Value}{ns:List Int},IntsAre us ns->Vals (ns.map V.int) us
 | _,_, .nil=> .nil
 | _,_, .cons n t r=> .cons ⟨t,rfl⟩ (jC0 r)
theorem jJY (hc:X.calm=true):kZ X (.type "set") (fun xs H Q=>∃ (p:Addr) (ns:List Int),xs=[.ref p]/\SqL X.K H p (ns.map V.int)/\ns.length<=4/\(∀ z∈ns,0<=z/\z<32)/\
  ∀ (l:Addr) (ks:List Int),H l=none->(∀ z,z∈ks↔z∈ns)->Q (.ref l) (upd H l (SetO X.w l ks))):=by
 intro pins s σ H xs us Q I r h
 obtain⟨p,ns,rfl,hq,hl,hv,q⟩:=h
 obtain⟨u,rfl,rx⟩:=r.one
 cases rx
 obtain⟨its,r',pl,hz⟩:=I.list hq
 have hlen:=r'.length
 rw[ab] at hlen
 refine SS.set_of_list (I.ok.hd hc) pl.isList (jE4 r') (by rw[au]; omega) hv fun h' tk ks S hm kp=>?_
 have hg:∃ o,h'.get? s.heap.objs.size=some o:=let ⟨o,_,_,_,e,_⟩:=S.ex; ⟨o,e⟩
 exact⟨.ref s.heap.objs.size,_,I.laid (t':=tk) (o:=SetO X.w s.heap.objs.size ks) kp (af _) ⟨S,hg,fun h1 h2 a b=>a.at b⟩,rfl,q _ ks I.fresh hm⟩
theorem jCX (hc:X.calm=true):kZ X (.builtin "sorted") (fun xs H Q=>∃ (p:Addr) (ks:List Int),xs=[.ref p]/\H p=some (SetO X.w p ks)/\
  ∀ (l:Addr) (ns:List Int),H l=none->ns.Pairwise (· < ·)->(∀ z,z∈ns↔z∈ks)->Q (.ref l) (upd H l (.lst (ns.map V.int)))):=by
 intro pins s σ H xs us Q I r h
 obtain⟨p,ks,rfl,hp,q⟩:=h
 obtain⟨u,rfl,rx⟩:=r.one
 cases rx
 obtain⟨S,_,_⟩:=I.hok p _ hp
 refine SS.sorted_set (I.ok.hd hc) S fun s' l vs ns e hl kp g d o he hi pm srt=>?_
 obtain⟨h',g',d',t',o'⟩:=s'
 have g:g'=s.gens:=g
 have o:o'=s.os:=o
 have d:d'=s.drawn:=d
 subst g; subst o; subst d
 have nd:ns.Nodup:=pm.nodup_iff.mpr S.nd
 have lt:ns.Pairwise (· < ·):=by
  have:=List.Pairwise.and srt nd
  exact this.imp fun {a b} ⟨x,y⟩=>by omega
 have hz:(ns.map V.int).length<=sizeLine:=by
  rw[ab,pm.length_eq,cY]
  have:=S.len
  omega
 have I2:Inv X pins σ (upd H l (.lst (ns.map V.int))) { s with heap:=h',toks:=t'} :=I.laid (t':=t') kp hl ⟨hz,vs,e,jC0 hi,he⟩
 exact⟨.ref l,_,I2,rfl,q l ns (I.hok.fresh hl) lt fun z=>pm.mem_iff⟩
end
section
variable {X:Cx}{p1 p2 p3 p4 p5 p6 p7:Pos}{k1 k2 k3 k4:Nat}
theorem jMI {i j r:Int}(hj:0<=j)(hj2:j<=1000000)(hi:i.natAbs<2 ^ 64)(e:i ^ j.toNat=r):PE X (.BinOp (.Constant (.int i) k2 p2) .Pow (.Constant (.int j) k3 p3) p4) (tC (.int r)):=fun pins s σ H Q I h=>
 (kI (X:=X) jEG jN jN) pins s σ H Q I ⟨_,_,rfl,rfl,⟨hj,hj2,hi⟩,by subst e; exact h⟩
theorem jMJ {a b:Expr}{i j r:Int}(ha:PE X a (tC (.int i)))(hb:PE X b (tC (.int j)))(hc:CMul i j)(e:i*j=r):PE X (.BinOp a .Mult b p1) (tC (.int r)):=fun pins s σ H Q I h=>
 (kI (X:=X) jBZ ha hb) pins s σ H Q I ⟨_,_,rfl,rfl,hc,by subst e; exact h⟩
theorem jMM {a b:Expr}{i j r:Int}(ha:PE X a (tC (.int i)))(hb:PE X b (tC (.int j)))(e:i+j=r):PE X (.BinOp a .Add b p1) (tC (.int r)):=fun pins s σ H Q I h=>
 (kI (X:=X) kX ha hb) pins s σ H Q I ⟨_,_,rfl,rfl,by subst e; exact h⟩
theorem jNV:PE X (.BinOp (.BinOp (.Constant (.int 2) k1 p1) .Mult (.BinOp (.Constant (.int 10) k2 p2) .Pow (.Constant (.int 12) k3 p3) p4) p5) .Add (.Constant (.int 1) k4 p6) p7) (tC (.int 2000000000001)):=
 jMM (i:=2000000000000) (jMJ (j:=1000000000000) jN (jMI (by decide) (by decide) (by decide) (by decide)) (.inl ⟨by decide,by decide⟩) (by decide)) jN (by decide)
end
def ItAt (tp:Bool)(h:Heap)(it a:Addr)(i:Nat):Prop:=match tp with
 | false=>h.IsListIter it a i
 | true=>h.IsTupleIter it a i
def ObAt (tp:Bool)(h:Heap)(a:Addr)(xs:Array Value):Prop:=match tp with
 | false=>h.IsList a xs
 | true=>h.IsTuple a xs
theorem ItAt.but {tp:Bool}{h h':Heap}{it a b:Addr}{i:Nat}(x:ItAt tp h it a i)(e:Heap.ExtBut b h h')(n:it≠b):ItAt tp h' it a i:=by
 cases tp with
 | false=>exact Heap.IsListIter.extBut x e n
 | true=>exact Heap.IsTupleIter.extBut x e n
theorem ObAt.but {tp:Bool}{h h':Heap}{a b:Addr}{xs:Array Value}(x:ObAt tp h a xs)(e:Heap.ExtBut b h h')(n:a≠b):ObAt tp h' a xs:=by
 cases tp with
 | false=>exact Heap.IsList.extBut x e n
 | true=>exact Heap.IsTuple.extBut x e n
theorem ItAt.at {tp:Bool}{h h':Heap}{it a:Addr}{i:Nat}(x:ItAt tp h it a i)(e:∀ o,h.get? it=some o->h'.get? it=some o):ItAt tp h' it a i:=by
 cases tp with
 | false=>exact Heap.IsListIter.at x e
 | true=>exact Heap.IsTupleIter.at x e
theorem ItAt.obj {tp:Bool}{h:Heap}{it a:Addr}{i:Nat}(x:ItAt tp h it a i):∃ o,h.get? it=some o/\∀ v,o.data≠ .cell v:=by
 cases tp with
 | false=>obtain⟨o,e,_,d⟩:=x; exact⟨o,e,fun v q=>by rw[d] at q; cases q⟩
 | true=>obtain⟨o,e,_,d⟩:=x; exact⟨o,e,fun v q=>by rw[d] at q; cases q⟩
theorem ObAt.lt {tp:Bool}{h:Heap}{a:Addr}{xs:Array Value}(x:ObAt tp h a xs):a<h.objs.size:=by
 cases tp with
 | false=>obtain⟨o,e,_⟩:=x; exact ag e
 | true=>obtain⟨o,e,_⟩:=x; exact ag e
section
variable {prog:Program}{w:World}{A:Around}{E:Value->Shared->Prop}{s:Shared}
theorem next1 {tp:Bool}{it a:Addr}{i:Nat}{xs:Array Value}{x:Value}{Q:Value->Shared->Prop}(hi:ItAt tp s.heap it a i)(ha:ObAt tp s.heap a xs)(hx:xs[i]?=some x)
  (k:∀ h',ItAt tp h' it a (i+1)->Heap.SameBut it s.heap h'->Q x { s with heap:=h'}):wpAny (model prog w) A (Builtin.SmallTypes.nextOf (.ref it)) Q E s:=by
 cases tp with
 | false=>exact wpAny_nextOf_list_item hi ha hx k
 | true=>
  obtain⟨o,e,c,d⟩:=id (show s.heap.IsTupleIter it a i from hi)
  obtain⟨u,eu,_,n,du⟩:=(show s.heap.IsTuple a xs from ha)
  have ty:=Heap.IsTupleIter.typeIs (show s.heap.IsTupleIter it a i from hi)
  unfold Builtin.SmallTypes.nextOf
  refine aa (aQ (name:=Str.ofString "__next__") ty F.slot_tuple_iterator_next (aY F.slot_tuple_iterator_next ty F.entry_tuple_iterator_next (?_:wpAny (model prog w) _ (field (.ref it) 0 >>= _) _ _ s) (F.args_tuple_iterator_next_1 _)))
  refine aa (aU e d (x:= .ref a) rfl (?_:wpAny (model prog w) _ (if (Value.ref a==Value.none)=true then _ else _) _ _ s))
  rw[am (by exact aq)]
  show wpAny (model prog w) _ (field (.ref it) 1 >>= _) _ _ s
  refine aa (aU e d (x:= .int i 0) rfl ?_)
  show wpAny (model prog w) _ (seqItems? (.ref a) >>= _) _ _ s
  refine aa (bK eu du ?_)
  simp only [cn,hx]
  refine aa (wpAny_setField e d (by simp) (ae ⟨x,rfl,ae (k _ ⟨_,bM _ e (Obj.isFreed_of_fields (Obj.data_mapFields d _)),(Obj.cls_mapFields ..).trans c,?_⟩ (dj ..))⟩))
  rw[Obj.data_mapFields d]
  simp [rawInt]
theorem next0 {tp:Bool}{it a:Addr}{i:Nat}{xs:Array Value}{Q:Value->Shared->Prop}(hh:A.handled=none)(hi:ItAt tp s.heap it a i)(ha:ObAt tp s.heap a xs)(hx:xs[i]?=none)
  (k:∀ h' e,Heap.ExtBut it s.heap h'->(∃ o,h'.get? e=some o/\o.cls= .type "StopIteration")->E (.ref e) { s with heap:=h'}):wpAny (model prog w) A (Builtin.SmallTypes.nextOf (.ref it)) Q E s:=by
 cases tp with
 | false=>exact wpAny_nextOf_list_end hh hi ha hx k
 | true=>
  obtain⟨o,e,c,d⟩:=id (show s.heap.IsTupleIter it a i from hi)
  obtain⟨u,eu,_,n,du⟩:=(show s.heap.IsTuple a xs from ha)
  have ty:=Heap.IsTupleIter.typeIs (show s.heap.IsTupleIter it a i from hi)
  unfold Builtin.SmallTypes.nextOf
  refine aa (aQ (name:=Str.ofString "__next__") ty F.slot_tuple_iterator_next (aY F.slot_tuple_iterator_next ty F.entry_tuple_iterator_next (?_:wpAny (model prog w) _ (field (.ref it) 0 >>= _) _ _ s) (F.args_tuple_iterator_next_1 _)))
  refine aa (aU e d (x:= .ref a) rfl (?_:wpAny (model prog w) _ (if (Value.ref a==Value.none)=true then _ else _) _ _ s))
  rw[am (by exact aq)]
  show wpAny (model prog w) _ (field (.ref it) 1 >>= _) _ _ s
  refine aa (aU e d (x:= .int i 0) rfl ?_)
  show wpAny (model prog w) _ (seqItems? (.ref a) >>= _) _ _ s
  refine aa (bK eu du ?_)
  simp only [cn,hx]
  refine aa (cI (aa (wpAny_setField e d (by simp) (?_:wpAny (model prog w) _ (newExc (.type "StopIteration") [] >>= _) _ _ _))))
  refine aa (by
   simp only [newExc,newTuple]
   refine aa (ba (aa (m:=firstArgMember _ _) (wpAny_of_eq (a:=Value.none) (by first | rfl | (simp only [firstArgMember]; rfl)) (ba ?_ (by size_fits)))) (by size_fits))
   simp only [raiseNew]
   refine aa (wpAny_handled ?_)
   first | rw[show A.in1.handled=none from hh] | rw[hh]
   exact aa (ae (wpAny_throw (k _ _ (((dj ..).extBut.push _).push _) ⟨_,ak _ rfl,rfl⟩))))
theorem jHL {t1 t2:Bool}{z TI TO i1 i2 l1 l2:Addr}{k1 k2:Nat}{xs ys:Array Value}{x y a b:Value}{Q:Value->Shared->Prop}(D:ZipApart z TI TO i1 i2 l1 l2)
  (ez:IsZip s.heap z TI TO .none) (eI:IsPair s.heap TI (.ref i1) (.ref i2)) (eO:IsPair s.heap TO a b) (g1:ItAt t1 s.heap i1 l1 k1) (g2:ItAt t2 s.heap i2 l2 k2) (o1:ObAt t1 s.heap l1 xs) (o2:ObAt t2 s.heap l2 ys) (hx:xs[k1]?=some x) (hy:ys[k2]?=some y)
  (k:∀ h',IsZip h' z TI TO (rawInt s.heap.objs.size)->IsPair h' TO x y->ItAt t1 h' i1 l1 (k1+1)->ItAt t2 h' i2 l2 (k2+1)->IsPair h' s.heap.objs.size x y->h'.objs.size=s.heap.objs.size+1->
   (∀ c o,c≠z->c≠TO->c≠i1->c≠i2->s.heap.get? c=some o->h'.get? c=some o)->Q (.ref s.heap.objs.size) { s with heap:=h'}):
  wpAny (model prog w) A (Builtin.«zip.__next__» ⟨[.ref z],[]⟩) (fun fin s'=>∃ v,fin= .done (.ret v)/\Q v s') E s:=by
 show wpAny (model prog w) A (field (.ref z) 2 >>= _) _ _ _
 refine aa (aU ez rfl (x:= .bool false) rfl (?_:wpAny (model prog w) A (field (.ref z) 3 >>= _) _ _ _))
 refine aa (aU ez rfl (x:= .ref TI) rfl (aa (bK eI rfl (?_:wpAny (model prog w) A (Builtin.SmallTypes.ownedTupleIsFree (.ref z) >>= _) _ _ _))))
 refine aa (by
  unfold Builtin.SmallTypes.ownedTupleIsFree
  refine aa (aU ez rfl (x:= .none) rfl (ae ?_))
  simp only [cX]
  refine aa (cI (aa (aU ez rfl (x:= .ref TO) rfl (aa (aM ez (by simp) fun p1 f1 q1=>?_)))))
  have f1:IsZip p1 z TI TO .ellipsis:=f1
  refine aa (by
   simp only [List.zipIdx_cons,List.zipIdx_nil,eE,eU]
   refine aa (aa (dS (?_:wpAny (model prog w) A (Builtin.SmallTypes.nextOf (.ref i1) >>= _) _ _ _)))
   refine aa (next1 (g1.but q1.extBut D.i1z) (o1.but q1.extBut D.l1z) hx fun p2 r2 q2=>ae ?_)
   have eO2:IsPair p2 TO a b:=q2.extBut _ _ D.TOi1 (q1.extBut _ _ D.TOz eO)
   refine aa (bK eO2 rfl (aa (db eO2 fun p3 eO3 q3=>aa (eV (ae ?_)))))
   have eO3:IsPair p3 TO x b:=eO3
   refine aa (aa (dS (?_:wpAny (model prog w) A (Builtin.SmallTypes.nextOf (.ref i2) >>= _) _ _ _)))
   refine aa (next1 (((g2.but q1.extBut D.i2z).but q2.extBut D.i12.symm).but q3.extBut D.TOi2.symm) (((o2.but q1.extBut D.l2z).but q2.extBut D.l2i1).but q3.extBut D.l2TO) hy fun p4 r4 q4=>ae ?_)
   have eO4:IsPair p4 TO x b:=q4.extBut _ _ D.TOi2 eO3
   refine aa (bK eO4 rfl (aa (db eO4 fun p5 eO5 q5=>aa (eV (ae (ae ?_))))))
   have eO5:IsPair p5 TO x y:=eO5
   refine aa (bK eO5 rfl (aa (wpAny_newTuple ?_)))
   have sz:p5.objs.size=s.heap.objs.size:=by rw[q5.1,q4.1,q3.1,q2.1,q1.1]
   have ez5:IsZip p5 z TI TO .ellipsis:=q5.extBut _ _ D.TOz.symm (q4.extBut _ _ D.i2z.symm (q3.extBut _ _ D.TOz.symm (q2.extBut _ _ D.i1z.symm f1)))
   have kp5:∀ c o,c≠z->c≠TO->c≠i1->c≠i2->s.heap.get? c=some o->p5.get? c=some o:=fun c o n1 n2 n3 n4 e=>q5.extBut _ _ n2 (q4.extBut _ _ n4 (q3.extBut _ _ n2 (q2.extBut _ _ n3 (q1.extBut _ _ n1 e))))
   have r15:ItAt t1 p5 i1 l1 (k1+1):=((r2.but q3.extBut D.TOi1.symm).but q4.extBut D.i12).but q5.extBut D.TOi1.symm
   have r25:ItAt t2 p5 i2 l2 (k2+1):=r4.but q5.extBut D.TOi2.symm
   have zlt:z<p5.objs.size:=ag ez5
   show wpAny (model prog w) A (Builtin.SmallTypes.ownedTupleHandOut (.ref z) (.ref p5.objs.size) >>= _) _ _ _
   refine aa ?_
   unfold Builtin.SmallTypes.ownedTupleHandOut
   have f6:IsZip (p5.push { cls:= .type "tuple",data:= .seq #[x,y]}) z TI TO .ellipsis:=ac _ ez5
   refine aa (aM f6 (by simp) fun p7 f7 q7=>?_)
   have f7:IsZip p7 z TI TO (rawInt p5.objs.size):=f7
   refine aM f7 (by simp) fun p8 f8 q8=>?_
   have f8:IsZip p8 z TI TO (rawInt p5.objs.size):=f8
   have up:∀ c o,c≠z->p5.get? c=some o->p8.get? c=some o:=fun c o n1 e=>q8.extBut _ _ n1 (q7.extBut _ _ n1 (ac _ e))
   have eT:IsPair p8 p5.objs.size x y:=q8.extBut _ _ (bu zlt) (q7.extBut _ _ (bu zlt) (ak _ rfl))
   have sz8:p8.objs.size=p5.objs.size+1:=by rw[q8.1,q7.1,aR]
   rw[sz] at f8 eT sz8
   refine ae ⟨_,rfl,(?_:Q (.ref p5.objs.size) _)⟩
   rw[sz]
   exact k p8 f8 (up _ _ D.TOz eO5) (r15.at fun o e=>up _ o D.i1z e) (r25.at fun o e=>up _ o D.i2z e) eT sz8 fun c o n1 n2 n3 n4 e=>up c o n1 (kp5 c o n1 n2 n3 n4 e)))
theorem jK8 {t1 t2:Bool}{z TI TO i1 i2 l1 l2:Addr}{k1 k2:Nat}{xs ys:Array Value}{a b:Value}{Q:Fin->Shared->Prop}(hh:A.handled=none)(D:ZipApart z TI TO i1 i2 l1 l2)
  (ez:IsZip s.heap z TI TO .none) (eI:IsPair s.heap TI (.ref i1) (.ref i2)) (eO:IsPair s.heap TO a b) (g1:ItAt t1 s.heap i1 l1 k1) (g2:ItAt t2 s.heap i2 l2 k2) (o1:ObAt t1 s.heap l1 xs) (o2:ObAt t2 s.heap l2 ys) (hend:xs[k1]?=none\/ys[k2]?=none)
  (k:∀ h' e,(∀ c o,c≠z->c≠TO->c≠i1->c≠i2->s.heap.get? c=some o->h'.get? c=some o)->(∃ o,h'.get? e=some o/\o.cls= .type "StopIteration")->E (.ref e) { s with heap:=h'}):
  wpAny (model prog w) A (Builtin.«zip.__next__» ⟨[.ref z],[]⟩) Q E s:=by
 show wpAny (model prog w) A (field (.ref z) 2 >>= _) _ _ _
 refine aa (aU ez rfl (x:= .bool false) rfl (?_:wpAny (model prog w) A (field (.ref z) 3 >>= _) _ _ _))
 refine aa (aU ez rfl (x:= .ref TI) rfl (aa (bK eI rfl (?_:wpAny (model prog w) A (Builtin.SmallTypes.ownedTupleIsFree (.ref z) >>= _) _ _ _))))
 refine aa (by
  unfold Builtin.SmallTypes.ownedTupleIsFree
  refine aa (aU ez rfl (x:= .none) rfl (ae ?_))
  simp only [cX]
  refine aa (cI (aa (aU ez rfl (x:= .ref TO) rfl (aa (aM ez (by simp) fun p1 f1 q1=>?_)))))
  have f1:IsZip p1 z TI TO .ellipsis:=f1
  refine aa (by
   simp only [List.zipIdx_cons,List.zipIdx_nil,eE,eU]
   refine aa (aa (dS (?_:wpAny (model prog w) A (Builtin.SmallTypes.nextOf (.ref i1) >>= _) _ _ _)))
   cases hx:xs[k1]? with
   | none=>
    refine aa (next0 hh (g1.but q1.extBut D.i1z) (o1.but q1.extBut D.l1z) hx fun p2 e q2 ⟨u,eu,cu⟩=>?_)
    have f2:IsZip p2 z TI TO .ellipsis:=q2 _ _ D.i1z.symm f1
    have nz:e≠z:=fun v=>by subst v; rw[f2] at eu; cases eu; simp at cu
    exact aM f2 (by simp) fun p3 _ q3=>k p3 e (fun c o n1 _ n3 _ v=>q3.extBut _ _ n1 (q2 _ _ n3 (q1.extBut _ _ n1 v))) ⟨u,q3.extBut _ _ nz eu,cu⟩
   | some x=>
    have hy:ys[k2]?=none:=by
     rcases hend with v | v
     ·rw[hx] at v; cases v
     ·exact v
    refine aa (next1 (g1.but q1.extBut D.i1z) (o1.but q1.extBut D.l1z) hx fun p2 r2 q2=>ae ?_)
    have eO2:IsPair p2 TO a b:=q2.extBut _ _ D.TOi1 (q1.extBut _ _ D.TOz eO)
    refine aa (bK eO2 rfl (aa (db eO2 fun p3 eO3 q3=>aa (eV (ae ?_)))))
    refine aa (aa (dS (?_:wpAny (model prog w) A (Builtin.SmallTypes.nextOf (.ref i2) >>= _) _ _ _)))
    refine aa (next0 hh (((g2.but q1.extBut D.i2z).but q2.extBut D.i12.symm).but q3.extBut D.TOi2.symm) (((o2.but q1.extBut D.l2z).but q2.extBut D.l2i1).but q3.extBut D.l2TO) hy fun p4 e q4 ⟨u,eu,cu⟩=>?_)
    have f4:IsZip p4 z TI TO .ellipsis:=q4 _ _ D.i2z.symm (q3.extBut _ _ D.TOz.symm (q2.extBut _ _ D.i1z.symm f1))
    have nz:e≠z:=fun v=>by subst v; rw[f4] at eu; cases eu; simp at cu
    exact aM f4 (by simp) fun p5 _ q5=>k p5 e (fun c o n1 n2 n3 n4 v=>q5.extBut _ _ n1 (q4 _ _ n4 (q3.extBut _ _ n2 (q2.extBut _ _ n3 (q1.extBut _ _ n1 v))))) ⟨u,q5.extBut _ _ nz eu,cu⟩))
theorem jFD {t1 t2:Bool}{z TI TO i1 i2 l1 l2:Addr}{k1 k2:Nat}{xs ys:Array Value}{x y a b:Value}{Q:Option Value->Shared->Prop}(D:ZipApart z TI TO i1 i2 l1 l2)
  (ez:IsZip s.heap z TI TO .none) (eI:IsPair s.heap TI (.ref i1) (.ref i2)) (eO:IsPair s.heap TO a b) (g1:ItAt t1 s.heap i1 l1 k1) (g2:ItAt t2 s.heap i2 l2 k2) (o1:ObAt t1 s.heap l1 xs) (o2:ObAt t2 s.heap l2 ys) (hx:xs[k1]?=some x) (hy:ys[k2]?=some y)
  (k:∀ h',IsZip h' z TI TO (rawInt s.heap.objs.size)->IsPair h' TO x y->ItAt t1 h' i1 l1 (k1+1)->ItAt t2 h' i2 l2 (k2+1)->IsPair h' s.heap.objs.size x y->h'.objs.size=s.heap.objs.size+1->
   (∀ c o,c≠z->c≠TO->c≠i1->c≠i2->s.heap.get? c=some o->h'.get? c=some o)->Q (some (.ref s.heap.objs.size)) { s with heap:=h'}):
  wpAny (model prog w) A (pyNext (.ref z)) Q E s:=by
 have ty:s.TypeIs (.ref z) "zip" :=⟨_,ez,rfl⟩
 unfold pyNext
 exact aa (cE (aQ (name:=Str.ofString "__next__") ty F.slot_zip_next (aY F.slot_zip_next ty F.entry_zip_next (jHL D ez eI eO g1 g2 o1 o2 hx hy fun h' b1 b2 b3 b4 b5 b6 b7=>ae (k h' b1 b2 b3 b4 b5 b6 b7)) (F.args_zip_next_1 _))))
theorem jFE {t1 t2:Bool}{z TI TO i1 i2 l1 l2:Addr}{k1 k2:Nat}{xs ys:Array Value}{a b:Value}{Q:Option Value->Shared->Prop}(hh:A.handled=none)(D:ZipApart z TI TO i1 i2 l1 l2)
  (ez:IsZip s.heap z TI TO .none) (eI:IsPair s.heap TI (.ref i1) (.ref i2)) (eO:IsPair s.heap TO a b) (g1:ItAt t1 s.heap i1 l1 k1) (g2:ItAt t2 s.heap i2 l2 k2) (o1:ObAt t1 s.heap l1 xs) (o2:ObAt t2 s.heap l2 ys) (hend:xs[k1]?=none\/ys[k2]?=none)
  (k:∀ h',(∀ c o,c≠z->c≠TO->c≠i1->c≠i2->s.heap.get? c=some o->h'.get? c=some o)->Q none { s with heap:=h'}):wpAny (model prog w) A (pyNext (.ref z)) Q E s:=by
 have ty:s.TypeIs (.ref z) "zip" :=⟨_,ez,rfl⟩
 unfold pyNext
 refine aa (cE (aQ (name:=Str.ofString "__next__") ty F.slot_zip_next (aY F.slot_zip_next ty F.entry_zip_next (jK8 hh D ez eI eO g1 g2 o1 o2 hend fun h' e kp ⟨u,eu,cu⟩=>?_) (F.args_zip_next_1 _))))
 exact aa (cW (T:= "StopIteration") (b:=true) ⟨u,eu,cu⟩ eR (ae (k _ kp)))
end
def yQ (tp:Bool)(a:Addr):Obj:=match tp with
 | false=> { cls:= .type "list_iterator",data:= .fields #[.ref a, .int 0 0]}
 | true=> { cls:= .type "tuple_iterator",data:= .fields #[.ref a, .int 0 0]}
theorem jBQ (tp:Bool)(a:Addr):(yQ tp a).isFreed=false:=by cases tp <;> rfl
theorem ObAt.push {tp:Bool}{h:Heap}{a:Addr}{xs:Array Value}(x:ObAt tp h a xs)(o:Obj):ObAt tp (h.push o) a xs:=by
 cases tp with
 | false=>exact Heap.IsList.push x o
 | true=>exact Heap.IsTuple.push x o
theorem jBO {prog:Program}{w:World}{A:Around}{E:Value->Shared->Prop}{s:Shared}{tp:Bool}{a:Addr}{xs:Array Value}{Q:Value->Shared->Prop}(h:ObAt tp s.heap a xs)(q:Q (.ref s.heap.objs.size) { s with heap:=s.heap.push (yQ tp a)}):
  wpAny (model prog w) A (pyIter (.ref a)) Q E s:=by
 cases tp with
 | false=>exact bS h q
 | true=>exact dy h q
def zp1 (t1:Bool)(h:Heap)(l1:Addr):Heap:=h.push (yQ t1 l1)
def zp2 (t1 t2:Bool)(h:Heap)(l1 l2:Addr):Heap:=(zp1 t1 h l1).push (yQ t2 l2)
def zp3 (t1 t2:Bool)(h:Heap)(l1 l2:Addr):Heap:=(zp2 t1 t2 h l1 l2).push { cls:= .type "tuple",data:= .seq #[.ref h.objs.size, .ref (zp1 t1 h l1).objs.size]}
def zp4 (t1 t2:Bool)(h:Heap)(l1 l2:Addr):Heap:=(zp3 t1 t2 h l1 l2).push { cls:= .type "tuple",data:= .seq #[.none, .none]}
def zp5 (t1 t2:Bool)(h:Heap)(l1 l2:Addr):Heap:=(zp4 t1 t2 h l1 l2).push { cls:= .type "zip",data:= .fields #[.none, .bool false, .bool false, .ref (zp2 t1 t2 h l1 l2).objs.size, .ref (zp3 t1 t2 h l1 l2).objs.size]}
theorem jHA (t1 t2:Bool)(l1 l2:Addr)(xs ys:Array Value):
  Meets (Builtin.«zip.__new__» ⟨[.type "zip", .ref l1, .ref l2],[]⟩) (fun _ R s=>ObAt t1 s.heap l1 xs/\ObAt t2 s.heap l2 ys/\R (.ok (.ret (.ref (zp4 t1 t2 s.heap l1 l2).objs.size))) { s with heap:=zp5 t1 t2 s.heap l1 l2}):=
 .of_wp fun prog w A R s h=>by
  obtain⟨hp,g,d,tk,os⟩:=s
  obtain⟨a1,a2,q⟩:=h
  have sub:=sub_zip
  have e1:ObAt t1 (Shared.heap ⟨hp,g,d,tk,os⟩) l1 xs:=a1
  have e2:ObAt t2 (Shared.heap ⟨hp.push (yQ t1 l1),g,d,tk,os⟩) l2 ys:=ObAt.push a2 _
  wp_walk using jBO e1,jBO e2
  exact⟨_,rfl,q⟩
theorem ItAt.new (tp:Bool){h:Heap}{it a:Addr}(e:h.get? it=some (yQ tp a)):ItAt tp h it a 0:=by
 cases tp with
 | false=>exact⟨_,e,rfl,rfl⟩
 | true=>exact⟨_,e,rfl,rfl⟩
theorem jJX {prog:Program}{w:World}{A:Around}{E:Value->Shared->Prop}{s:Shared}{t1 t2:Bool}{l1 l2:Addr}{xs ys:Array Value}{Q:Value->Shared->Prop}(a1:ObAt t1 s.heap l1 xs)(a2:ObAt t2 s.heap l2 ys)
  (k:∀ h',IsZip h' (s.heap.objs.size+4) (s.heap.objs.size+2) (s.heap.objs.size+3) .none->IsPair h' (s.heap.objs.size+2) (.ref s.heap.objs.size) (.ref (s.heap.objs.size+1))->
   IsPair h' (s.heap.objs.size+3) .none .none->ItAt t1 h' s.heap.objs.size l1 0->ItAt t2 h' (s.heap.objs.size+1) l2 0->(∀ c o,s.heap.get? c=some o->h'.get? c=some o)->Q (.ref (s.heap.objs.size+4)) { s with heap:=h'}):
  wpAny (model prog w) A (call (.type "zip") [.ref l1, .ref l2]) Q E s:=by
 refine callType_new F.called_zip (by decide) (F.typeCall_zip_2 _ _) (F.newCall_zip_2 _ _) (fun obj=>F.args_object_init_3 obj _ _) F.entry_zip_new (jHA t1 t2 l1 l2 xs ys) ⟨a1,a2,?_⟩
 have z1:(zp1 t1 s.heap l1).objs.size=s.heap.objs.size+1:=aR ..
 have z2:(zp2 t1 t2 s.heap l1 l2).objs.size=s.heap.objs.size+2:=(aR ..).trans (bo (· +1) z1)
 have z3:(zp3 t1 t2 s.heap l1 l2).objs.size=s.heap.objs.size+3:=(aR ..).trans (bo (· +1) z2)
 have z4:(zp4 t1 t2 s.heap l1 l2).objs.size=s.heap.objs.size+4:=(aR ..).trans (bo (· +1) z3)
 have y5:(zp5 t1 t2 s.heap l1 l2).get? (zp4 t1 t2 s.heap l1 l2).objs.size=some { cls:= .type "zip",data:= .fields #[.none, .bool false, .bool false, .ref (zp2 t1 t2 s.heap l1 l2).objs.size, .ref (zp3 t1 t2 s.heap l1 l2).objs.size]} :=ak _ rfl
 have y4:(zp5 t1 t2 s.heap l1 l2).get? (zp3 t1 t2 s.heap l1 l2).objs.size=some { cls:= .type "tuple",data:= .seq #[.none, .none]} :=ac _ (ak _ rfl)
 have y3:(zp5 t1 t2 s.heap l1 l2).get? (zp2 t1 t2 s.heap l1 l2).objs.size=some { cls:= .type "tuple",data:= .seq #[.ref s.heap.objs.size, .ref (zp1 t1 s.heap l1).objs.size]} :=ac _ (ac _ (ak _ rfl))
 have y2:(zp5 t1 t2 s.heap l1 l2).get? (zp1 t1 s.heap l1).objs.size=some (yQ t2 l2):=ac _ (ac _ (ac _ (ak _ (jBQ _ _))))
 have y1:(zp5 t1 t2 s.heap l1 l2).get? s.heap.objs.size=some (yQ t1 l1):=ac _ (ac _ (ac _ (ac _ (ak _ (jBQ _ _)))))
 have up:∀ c o,s.heap.get? c=some o->(zp5 t1 t2 s.heap l1 l2).get? c=some o:=fun c o e=>ac _ (ac _ (ac _ (ac _ (ac _ e))))
 rw[z2,z3,z4] at y5
 rw[z1,z2] at y3
 rw[z3] at y4
 rw[z1] at y2
 show _/\_
 rw[z4]
 exact⟨⟨_,y5,rfl⟩,k _ y5 y3 y4 (.new t1 y1) (.new t2 y2) up⟩
section
variable {X:Cx}
def Sq (tp:Bool)(K:W.Frag)(H:Hp)(a:Addr)(xs:List V):Prop:=match tp with
 | false=>SqL K H a xs
 | true=>SqT K H a xs
theorem Inv.sq {X:Cx}{pins:List (Addr×Obj)}{σ:St}{H:Hp}{s:Shared}{tp:Bool}{a:Addr}{xs:List V}(I:Inv X pins σ H s)(h:Sq tp X.K H a xs):∃ its:List Value,Vals xs its/\ObAt tp s.heap a its.toArray/\xs.length<=sizeLine:=by
 cases tp with
 | false=>
  obtain⟨its,r,p,z⟩:=I.list h
  exact⟨its,r,p.isList,z⟩
 | true=>exact I.tuple h
theorem Inv.sq_inj {X:Cx}{pins:List (Addr×Obj)}{σ:St}{H:Hp}{s:Shared}{tp:Bool}{a:Addr}{xs ys:List V}(I:Inv X pins σ H s)(h:Sq tp X.K H a xs)(h':Sq tp X.K H a ys):xs=ys:=by
 cases tp with
 | false=>exact I.list_inj h h'
 | true=>exact I.tuple_inj h h'
def Itz (t1 t2:Bool)(K:W.Frag)(l1 l2:Addr):It:=
 ⟨fun i H=>∃ xs ys x y,Sq t1 K H l1 xs/\Sq t2 K H l2 ys/\xs[i]?=some x/\ys[i]?=some y,
  fun i H v H'=>∃ T x y,H T=none/\v= .ref T/\H'=upd H T (.tup [x,y])/\∀ xs ys,Sq t1 K H l1 xs->Sq t2 K H l2 ys->xs[i]?=some x/\ys[i]?=some y,
  fun i H=>∃ xs ys,Sq t1 K H l1 xs/\Sq t2 K H l2 ys/\(xs.length<=i\/ys.length<=i)⟩
theorem jKB {P:Program}{w:World}{K:W.Frag}{elts:List Expr}{x1:Nat}{tp:Pos}(t1 t2:Bool)(l1 l2 z TI TO i1 i2:Addr)(D:ZipApart z TI TO i1 i2 l1 l2):
  Turn P w K (.Tuple elts x1 tp) (Itz t1 t2 K l1 l2) [z,TO,i1,i2,TI] z (fun i h=>IsZip h z TI TO .none/\IsPair h TI (.ref i1) (.ref i2)/\(∃ a b,IsPair h TO a b)/\ItAt t1 h i1 l1 i/\ItAt t2 h i2 l2 i) where
 mem:=by simp
 obj:=fun i h st b hb=>by
  obtain⟨hz,hTI,⟨a,c,hTO⟩,y1,y2⟩:=st
  simp only [av,aS,ca] at hb
  rcases hb with rfl | rfl | rfl | rfl | rfl
  ·exact⟨_,hz,fun v q=>by cases q⟩
  ·exact⟨_,hTO,fun v q=>by cases q⟩
  ·exact y1.obj
  ·exact y2.obj
  ·exact⟨_,hTI,fun v q=>by cases q⟩
 keep:=fun i h h' st k=>by
  obtain⟨hz,hTI,⟨a,c,hTO⟩,h1,h2⟩:=st
  exact⟨k z (by simp) _ hz,k TI (by simp) _ hTI,⟨a,c,k TO (by simp) _ hTO⟩,h1.at fun o e=>k i1 (by simp) o e,h2.at fun o e=>k i2 (by simp) o e⟩
 item:=by
  intro X hP hw hK hc i pins s σ H E I hf st hg
  subst hP hw hK
  obtain⟨xs,ys,x,y,hq1,hq2,hx,hy⟩:=hg
  obtain⟨hz,hTI,⟨a,c,hTO⟩,h1,h2⟩:=st
  obtain⟨its1,r1,p1,_⟩:=I.sq hq1
  obtain⟨its2,r2,p2,_⟩:=I.sq hq2
  obtain⟨u,hu,ru⟩:=r1.get hx
  obtain⟨v,hv,rv⟩:=r2.get hy
  refine jFD D hz hTI hTO h1 h2 p1 p2 (x:=u) (y:=v) (by simpa using hu) (by simpa using hv) fun h' a1 a2 a3 a4 a5 a6 a7=>?_
  refine⟨_,rfl,wpAny_letOwnedTupleGo_zip (s:= { s with heap:=h'}) a1 fun h'' b1 sb=>?_⟩
  have fresh:H s.heap.objs.size=none:=I.fresh
  have nch:∀ b∈([z,TO,i1,i2]:List Addr),FpOk X pins H b:=fun b hb=>hf b (by
   simp only [av,aS,ca] at hb ⊢
   rcases hb with q | q | q | q
   ·exact .inl q
   ·exact .inr (.inl q)
   ·exact .inr (.inr (.inl q))
   ·exact .inr (.inr (.inr (.inl q))))
  have ntr:∀ b o,H b=some o->b∉([z,TO,i1,i2]:List Addr):=fun b o e hb=>by
   have:=(nch b hb).1
   rw[e] at this; cases this
  have kp:∀ b o,b∉([z,TO,i1,i2]:List Addr)->s.heap.get? b=some o->h''.get? b=some o:=fun b o hb e=>by
   simp only [av,aS,ca,fu] at hb
   exact(sb.2 b hb.1).trans (a7 b o hb.1 hb.2.1 hb.2.2.1 hb.2.2.2 e)
  have nz:s.heap.objs.size≠z:=bu (ag hz)
  have hT2:h''.get? s.heap.objs.size=some { cls:= .type "tuple",data:= .seq #[u,v]} :=(sb.2 _ nz).trans a5
  have I2:Inv X pins σ (upd H s.heap.objs.size (.tup [x,y])) { s with heap:=h''} :=by
   refine I.step (g':=s.gens) (d':=s.drawn) (t':=s.toks) (ch:=[z,TO,i1,i2]) (fun b hb=>?_) (fun b o _ _ hb e _=>kp b o hb e) (fun b o _ _ hb e _=>⟨o.slots,kp b o hb e⟩)
    (fun b o _ e n=>by rw[j9 (aC (ag e))]; exact n) (fun b o hb e=>⟨o,kp b o hb e⟩) (fun b ws e=>by rw[j9 (jA e fresh)]; exact e) (fun b o ws e=>by rw[j9 (jA e fresh)]; exact e)
    (fun b ps e=>⟨#[],by rw[j9 (jA e fresh),e]; simp⟩) (fun m hm=>?_) (fun b o e=>?_) I.bare
   ·obtain⟨f0,f1,f2,f3,f4,f5⟩:=nch b hb
    exact⟨f3,f1,f4,f5⟩
   ·obtain⟨o,es,ep,ho,r⟩:=hm
    exact⟨o,es,ep,kp _ o (fun hb=>(nch _ hb).2.1 rfl) ho,r⟩
   ·by_cases hb:b=s.heap.objs.size
    ·subst hb
     rw[j4] at e
     cases e
     exact⟨by rw[cY]; show 2<=_; decide,[u,v], .cons ru (.cons rv .nil),0,hT2⟩
    ·rw[j9 hb] at e
     refine(I.hok b o e).stay (fun c w hc q=>kp c w ?_ q) (fun c q=>by rw[j9 (jA q fresh)]; exact q) (fun c ws q=>by rw[j9 (jA q fresh)]; exact q)
     rcases hc with rfl | hc
     ·exact ntr _ _ e
     ·exact ntr _ _ hc
  refine⟨.ref s.heap.objs.size,_,I2,rfl,⟨_,x,y,fresh,rfl,rfl,fun xs' ys' q1 q2=>⟨by rw[I.sq_inj q1 hq1]; exact hx,by rw[I.sq_inj q2 hq2]; exact hy⟩⟩,⟨b1,?_,⟨u,v,?_⟩,?_,?_⟩,fun b hb=>?_⟩
  ·exact kp TI _ (by simp [D.TIz,D.TITO,D.TIi1,D.TIi2]) hTI
  ·exact(sb.2 TO D.TOz).trans a2
  ·exact a3.at fun o e=>(sb.2 i1 D.i1z).trans e
  ·exact a4.at fun o e=>(sb.2 i2 D.i2z).trans e
  ·rw[j9 (fun q=>by
    obtain⟨o,eo⟩:∃ o,s.heap.get? b=some o:=by
     simp only [av,aS,ca] at hb
     rcases hb with rfl | rfl | rfl | rfl | rfl
     ·exact⟨_,hz⟩
     ·exact⟨_,hTO⟩
     ·obtain⟨o,e,_⟩:=h1.obj; exact⟨o,e⟩
     ·obtain⟨o,e,_⟩:=h2.obj; exact⟨o,e⟩
     ·exact⟨_,hTI⟩
    exact absurd (ag eo) (by rw[q]; exact aV _))]
   exact(hf b hb).1
 done:=by
  intro X hP hw hK hc i pins s σ H E I hf st hg
  subst hP hw hK
  obtain⟨xs,ys,hq1,hq2,hend⟩:=hg
  obtain⟨hz,hTI,⟨a,c,hTO⟩,h1,h2⟩:=st
  obtain⟨its1,r1,p1,_⟩:=I.sq hq1
  obtain⟨its2,r2,p2,_⟩:=I.sq hq2
  have e1:=r1.length
  have e2:=r2.length
  refine jFE (I.ok.hd hc) D hz hTI hTO h1 h2 p1 p2 (by
   rcases hend with q | q
   ·exact .inl (by simp; omega)
   ·exact .inr (by simp; omega)) fun h' kp=>⟨rfl,?_⟩
  have nch:∀ b∈([z,TO,i1,i2]:List Addr),FpOk X pins H b:=fun b hb=>hf b (by
   simp only [av,aS,ca] at hb ⊢
   rcases hb with q | q | q | q
   ·exact .inl q
   ·exact .inr (.inl q)
   ·exact .inr (.inr (.inl q))
   ·exact .inr (.inr (.inr (.inl q))))
  have kp2:∀ b o,b∉([z,TO,i1,i2]:List Addr)->s.heap.get? b=some o->h'.get? b=some o:=fun b o hb e=>by
   simp only [av,aS,ca,fu] at hb
   exact kp b o hb.1 hb.2.1 hb.2.2.1 hb.2.2.2 e
  have ntr:∀ b o,H b=some o->b∉([z,TO,i1,i2]:List Addr):=fun b o e hb=>by
   have:=(nch b hb).1
   rw[e] at this; cases this
  refine I.step (g':=s.gens) (d':=s.drawn) (t':=s.toks) (ch:=[z,TO,i1,i2]) (fun b hb=>?_) (fun b o _ _ hb e _=>kp2 b o hb e) (fun b o _ _ hb e _=>⟨o.slots,kp2 b o hb e⟩)
   (fun b o _ e n=>n) (fun b o hb e=>⟨o,kp2 b o hb e⟩) (fun b ws e=>e) (fun b o ws e=>e) (fun b ps e=>⟨#[],by rw[e]; simp⟩) (fun m hm=>?_) (fun b o e=>?_) I.bare
  ·obtain⟨f0,f1,f2,f3,f4,f5⟩:=nch b hb
   exact⟨f3,f1,f4,f5⟩
  ·obtain⟨o,es,ep,ho,r⟩:=hm
   exact⟨o,es,ep,kp2 _ o (fun hb=>(nch _ hb).2.1 rfl) ho,r⟩
  ·refine(I.hok b o e).stay (fun c w hc q=>kp2 c w ?_ q) (fun _ q=>q) fun _ _ q=>q
   rcases hc with rfl | hc
   ·exact ntr _ _ e
   ·exact ntr _ _ hc
 self:=fun _ _ _ _ _ st h=>wpAny_pyIter_zip st.1 h
def iZip (K:W.Frag)(ta:TA):TI:=fun σ H R=>ta σ H fun vs H1=>∃ t1 t2 l1 l2,vs=[.ref l1, .ref l2]/\(∃ xs,Sq t1 K H1 l1 xs)/\(∃ ys,Sq t2 K H1 l2 ys)/\R (Itz t1 t2 K l1 l2) H1
theorem jNN {a b:Expr}{ta:TA}{p pos:Pos}{elts:List Expr}{x1:Nat}{tp:Pos}(hg:Gl X "zip")(hm:X.mg "zip" =none)(ha:PA X [a,b] ta)(hv:bootBuiltins "zip" =some (.type "zip"):=by decide+kernel)
  (he:starEach [a,b] X.env=(false,eval a X.env)::starEach [b] X.env:=by rfl) (hpl:(backTo pos (starEach [b] X.env)).any (·.1)=false:=by rfl):
  PI X (.Tuple elts x1 tp) (.Call (.Name "zip" p) [a,b] [] pos) (iZip X.K ta):=by
 intro pins s σ H R I h
 refine Call_ (jCH I hg hm hv (bt (thn (ha pos pins s σ H _ I h) fun us s1 ⟨vs,H1,I1,r1,q1⟩=>?_) he hpl))
 obtain⟨t1,t2,l1,l2,rfl,⟨xs,hq1⟩,⟨ys,hq2⟩,q⟩:=q1
 obtain⟨u,v,rfl,ru,rv⟩:=r1.two
 cases ru
 cases rv
 obtain⟨its1,_,p1,_⟩:=I1.sq hq1
 obtain⟨its2,_,p2,_⟩:=I1.sq hq2
 have lt1:l1<s1.heap.objs.size:=p1.lt
 have lt2:l2<s1.heap.objs.size:=p2.lt
 refine jJX p1 p2 fun h' a1 a2 a3 a4 a5 kp=>?_
 have I2:Inv X pins σ H1 { s1 with heap:=h'} :=I1.kept (t':=s1.toks) kp
 have D:ZipApart (s1.heap.objs.size+4) (s1.heap.objs.size+2) (s1.heap.objs.size+3) s1.heap.objs.size (s1.heap.objs.size+1) l1 l2:=zipApart_new lt1 lt2
 refine wpAny_pyIter_zip a1 ⟨s1.heap.objs.size+4,[s1.heap.objs.size+4,s1.heap.objs.size+3,s1.heap.objs.size,s1.heap.objs.size+1,s1.heap.objs.size+2],_,Itz t1 t2 X.K l1 l2,H1,rfl,I2,jKB t1 t2 l1 l2 _ _ _ _ _ D,⟨a1,a2,⟨_,_,a3⟩,a4,a5⟩,fun b hb=>?_,q⟩
 have hge:s1.heap.objs.size<=b:=by
  simp only [av,aS,ca] at hb
  rcases hb with rfl | rfl | rfl | rfl | rfl
  ·exact cz _ 4
  ·exact cz _ 3
  ·exact af _
  ·exact cz _ 1
  ·exact cz _ 2
 exact I1.fpOk hge (I1.hok.fresh hge)
end
structure JE (X:Cx)(e:Expr)(t:TE):Prop where
 h:PE X e t
structure JA (X:Cx)(es:List Expr)(t:TA):Prop where
 h:PA X es t
structure JT (X:Cx)(e:Expr)(t:TT):Prop where
 h:PT X e t
structure JTs (X:Cx)(e:List Expr)(t:TT):Prop where
 h:PTs X e t
structure JS (X:Cx)(e:Stmt)(t:TS):Prop where
 h:PS X e t
structure JSs (X:Cx)(e:List Stmt)(t:TS):Prop where
 h:PSs X e t
structure JG (X:Cx)(e:Expr)(t:TG):Prop where
 h:PG X e t
structure JGs (X:Cx)(e:List Expr)(t:TGs):Prop where
 h:PGs X e t
structure JI (X:Cx)(tg e:Expr)(t:TI):Prop where
 h:PI X tg e t
structure JO (X:Cx)(e:Option Expr)(t:TO):Prop where
 h:PO X e t
structure Loc1 (X:Cx)(x:Str):Prop where
 a:Loc X.env.scope x
 b:X.fn x=true\/X.env.scope.names.lookup x=some .local
structure Vis1 (X:Cx)(x:Str):Prop where
 a:Vis X.env.scope x
structure Gl1 (X:Cx)(x:Str):Prop where
 a:Gl X x
section
variable {a b:Expr}{pos:Pos}{xs:List Expr}{o:Option Expr}{l:Nat}{env:Env}
structure SwOk (e:Expr)(o:Option Expr):Prop where
 h:∀ l env,swapsWith e o l env=pure false
theorem jEA {op:Operator} :SwOk (.BinOp a op b pos) o:=⟨fun _ _=>rfl⟩
theorem jP {kw:List Keyword} :SwOk (.Call a xs kw pos) o:=⟨fun _ _=>rfl⟩
theorem jBU:SwOk (.Subscript a b pos) o:=⟨fun _ _=>rfl⟩
theorem jLB {x1} :SwOk (.Tuple xs x1 pos) o:=⟨fun _ _=>rfl⟩
theorem jE9:SwOk (.List xs pos) o:=⟨fun _ _=>rfl⟩
theorem jG0 {c k} :SwOk (.Constant c k pos) o:=⟨fun _ _=>rfl⟩
theorem jIE {op:Operator} :jB6 (.BinOp a op b pos):=fun _ _=>rfl
theorem jID {kw:List Keyword} :jB6 (.Call a xs kw pos):=fun _ _=>rfl
theorem jD {i:Int}{k} :jB6 (.Constant (.int i) k pos):=fun _ _=>rfl
theorem jT {x:Str} :jB6 (.Name x pos):=fun _ _=>rfl
structure FoOk (iter:Expr):Prop where
 h:∀ env x,foldedSetIterable iter env x=pure x
theorem kU {kw:List Keyword} :FoOk (.Call a xs kw pos):=⟨fun _ _=>rfl⟩
theorem jDU {x:Str} :FoOk (.Name x pos):=⟨fun _ _=>rfl⟩
theorem yR:FoOk (.Subscript a b pos):=⟨fun _ _=>rfl⟩
structure TvOk (e:Expr):Prop where
 h:∀ env whole,isTrue e env whole=(do let v <- whole; standAt e.pos; holding [v] (truthy v))
theorem jAZ {kw:List Keyword} :TvOk (.Call a xs kw pos):=⟨fun _ _=>rfl⟩
end
section
variable {X:Cx}{a b e o:Expr}{ta tb te to:TE}{es:List Expr}{t:TA}{pos p p2 cpos apos:Pos}{x:Str}{T:String}{id:String}
theorem jv (i:Nat)(hN:X.N[i]?=some x)(hv:Vis1 X x)(hd:(x==("__debug__" :Str))=false:=by decide)(hcd:(x==("__classdict__" :Str))=false:=by decide):JE X (.Name x pos) (tVar i):=⟨jLJ hN hv.a hd hcd⟩
theorem j6 {i j} :JE X (.Constant (.int i) j pos) (tC (.int i)):=⟨jN⟩
theorem je_bl {i j} :JE X (.Constant (.bool i) j pos) (tC (.bl i)):=⟨pe_bl⟩
theorem jD4 {j} :JE X (.Constant .none j pos) (tC .non):=⟨jNU⟩
theorem jGK {i j} :JE X (.Constant (.str i) j pos) (tC (.str i)):=⟨jNR⟩
theorem jB5 {v:V}{u:Value}(hg:Gl1 X x)(hm:X.mg x=none)(hv:bootBuiltins x=some u)(r:RelV v u)(hn:x≠ "__name__" :=by decide)(hd:(x==("__debug__" :Str))=false:=by decide):JE X (.Name x pos) (tC v):=⟨jMN hg.a hm hv r hn hd⟩
theorem jU {op:Operator}{r:R2}(ho:OpR X (binaryOp op) r)(ha:JE X a ta)(hb:JE X b tb):JE X (.BinOp a op b pos) (tOp r ta tb):=⟨kI ho ha.h hb.h⟩
theorem je_un {op:UnaryOp}{r:V->Hp->VK->Prop}(ho:UnR X (unaryOp op) r)(ha:JE X a ta):JE X (.UnaryOp op a pos) (tUn r ta):=⟨pe_un ho ha.h⟩
theorem jJ4 (ha:JE X a ta):JE X (.UnaryOp .Not a pos) (tNotV ta):=⟨jNT ha.h⟩
theorem jAL {op:CmpOp}{r:R2}(ho:OpR X (compareOp op) r)(ha:JE X a ta)(hb:JE X b tb)(hm:behindInMarks op b=false):JE X (.Compare a [op] [b] pos) (tOp r ta tb):=⟨jMK ho ha.h hb.h hm⟩
theorem jEM {rest:List Expr}(ha:JE X a ta)(hb:JE X (.BoolOp .And (b::rest) pos) tb):JE X (.BoolOp .And (a::b::rest) pos) (tAndV ta tb):=⟨jNW ha.h hb.h⟩
theorem jEL {op}(ha:JE X a ta):JE X (.BoolOp op [a] pos) ta:=⟨jNS ha.h⟩
theorem jJ5 (h:JA X es t):JE X (.List es pos) (tLst t):=⟨jG7 h.h⟩
theorem jGJ {x1}(h:JA X es t):JE X (.Tuple es x1 pos) (tTup t):=⟨jNQ h.h⟩
theorem jBF {lo hi:Option Expr}{tl th:TO}{r:V->Option Int->Option Int->Hp->VK->Prop}(hr:SlR X r)(he:JE X e te)(hl:JO X lo tl)(hu:JO X hi th):JE X (.Subscript e (.Slice lo hi none p2) pos) (tSl r te tl th):=⟨jKK hr he.h hl.h hu.h⟩
theorem jE {r:R2}(hr:IxR X r)(ha:JE X a ta)(hb:JE X b tb)(hs:jB6 b):JE X (.Subscript a b pos) (tOp r ta tb):=⟨pe_ix hr ha.h hb.h hs⟩
theorem kB {T}{r:List V->Hp->VK->Prop}(hc:kZ X (.type T) r)(hg:Gl1 X x)(hm:X.mg x=none)(hv:bootBuiltins x=some (.type T))(ha:JA X (e::es) t)(he:starEach (e::es) X.env=(false,eval e X.env)::starEach es X.env)(hn:x≠ "__name__" :=by decide)(hdb:(x==("__debug__" :Str))=false:=by decide)
  (hpl:(backTo pos (starEach es X.env)).any (·.1)=false:=by rfl):JE X (.Call (.Name x p) (e::es) [] pos) (tCB r t):=⟨jBC hc hg.a hm hv ha.h hn hdb he hpl⟩
theorem jI {id}{r:List V->Hp->VK->Prop}(hc:kZ X (.builtin id) r)(hg:Gl1 X x)(hm:X.mg x=none)(hv:bootBuiltins x=some (.builtin id))(ha:JA X (e::es) t)(he:starEach (e::es) X.env=(false,eval e X.env)::starEach es X.env)(hn:x≠ "__name__" :=by decide)(hdb:(x==("__debug__" :Str))=false:=by decide)
  (hpl:(backTo pos (starEach es X.env)).any (·.1)=false:=by rfl):JE X (.Call (.Name x p) (e::es) [] pos) (tCB r t):=⟨jDK hc hg.a hm hv ha.h hn hdb he hpl⟩
theorem j5:JA X [] tNil:=⟨y8⟩
theorem j0 (ha:JE X e te)(hr:JA X es t)(hs:starEach (e::es) X.env=(false,eval e X.env)::starEach es X.env):JA X (e::es) (tCons te t):=⟨jW ha.h hr.h hs⟩
theorem jJ {op:CmpOp}{r:R2}(ho:OpR X (compareOp op) r)(ha:JE X a ta)(hb:JE X b tb)(hm:behindInMarks op b=false):JT X (.Compare a [op] [b] pos) (tTest (tOp r ta tb)):=⟨jCC ho ha.h hb.h hm⟩
theorem jCI (h:JE X e te)(he:TvOk e):JT X e (tB te):=⟨jNL h.h (he.h _)⟩
theorem jEK {tA:TT}(ha:JT X a tA):JT X (.UnaryOp .Not a pos) (tNot tA):=⟨jNM ha.h⟩
theorem kN:JTs X [] yA:=⟨jIH⟩
theorem jDQ {t:TT}(h:JT X e t):JTs X [e] t:=⟨jIG h.h⟩
theorem jL {i:Nat}(hN:X.N.Nodup)(hi:X.N[i]?=some x)(hx:Loc1 X x):JG X (.Name x pos) (kJ i):=⟨jDJ hN hi hx.a hx.b⟩
theorem kR {tg:Expr}(hg:Gl1 X "range")(hm:X.mg "range" =none)(ha:JA X [a] t)(hs:starEach [a] X.env=(false,eval a X.env)::starEach [] X.env):JI X tg (.Call (.Name "range" p) [a] [] pos) (iRng1 t):=⟨jBB hg.a hm ha.h hs⟩
theorem jFM {tg:Expr}(hl:JE X a ta):JI X tg a (iList X.K ta):=⟨jMF hl.h⟩
theorem yN {tg:Expr}(hl:JE X a ta):JI X tg a (iTup X.K ta):=⟨jNO hl.h⟩
theorem jOI {elts:List Expr}{x1:Nat}{tp:Pos}(hg:Gl1 X "zip")(hm:X.mg "zip" =none)(ha:JA X [a,b] t)(he:starEach [a,b] X.env=(false,eval a X.env)::starEach [b] X.env)(hv:bootBuiltins "zip" =some (.type "zip"):=by decide+kernel)
  (hpl:(backTo pos (starEach [b] X.env)).any (·.1)=false:=by rfl):JI X (.Tuple elts x1 tp) (.Call (.Name "zip" p) [a,b] [] pos) (iZip X.K t):=⟨jNN hg.a hm ha.h hv he hpl⟩
theorem jCL:JO X none jI0:=⟨jMD⟩
theorem jCK (h:JE X e te):JO X (some e) (tPart te):=⟨jMC h.h⟩
theorem jG {i:Nat}{pos':Pos}(hN:X.N.Nodup)(hi:X.N[i]?=some x)(hx:Loc1 X x)(he:JE X e te)(hs:SwOk e (some (.Name x pos'))):JS X (.Assign [.Name x pos'] e pos) (tAsg te (kJ i)):=⟨yK hN hi hx.a he.h (hs.h _ _) hx.b⟩
theorem jX (he:JE X e te):JS X (.Return (some e) pos) (tRet te):=⟨jBW he.h⟩
theorem jCJ (he:JE X e te)(hs:SwOk e none):JS X (.Expr e pos) (tDrop te):=⟨jMB he.h (hs.h _ _)⟩
theorem kO:JSs X [] tNext:=⟨jDI⟩
theorem jC {st:Stmt}{t:TS}(h1:JS X st t):JSs X [st] t:=⟨jAK h1.h⟩
theorem j8 {st:Stmt}{rest:List Stmt}{t u:TS}(h1:JS X st t)(h2:JSs X rest u):JSs X (st::rest) (tSeq t u):=⟨kP h1.h h2.h⟩
theorem yE {c:Expr}{a b:List Stmt}{tc:TT}{t u:TS}(hc:JT X c tc)(ha:JSs X a t)(hb:JSs X b u):JS X (.If c a b pos) (tIfS tc t u):=⟨ps_if hc.h ha.h hb.h⟩
theorem jBE {tg iter:Expr}{body:List Stmt}{wi:TI}{g:TG}{tb:TS}(hp:PassesOwn (model X.prog X.w) X.A X.env X.xe)(hc:X.calm=true)(hi:JI X tg iter wi)(hg:JG X tg g)(hb:JSs X body tb)(hs:FoOk iter):JS X (.For tg iter body [] pos) (tFor wi g tb):=⟨jLF hp hc hi.h hg.h hb.h (hs.h _)⟩
theorem je_bm {T:String}{name:Str}{r}(pa:PlainAttrs T)(slot:Slot T name id)(hty:typeOf (.builtin id)=pure (.type "method_descriptor"))(hm:MtR X id r)(ho:JE X o to)(ha:JA X (e::es) t)
  (hs:starEach (e::es) X.env=(false,eval e X.env)::starEach es X.env)
  (hbase:attributeBase o name X.env (eval o X.env)=eval o X.env:=by rfl)
  (hfew:((backTo cpos (starEach (e::es) X.env)).all (fun x=>!x.1)&&(backToKw cpos (keywordEach [] X.env)).all (fun x=>x.1.isSome)
   &&decide ((e::es).length+([]:List Keyword).length+(if ([]:List Keyword).isEmpty then 0 else 1)<30))=true:=by rfl)
  (hline:(apos.endLine==cpos.line)=true:=by rfl) (hplain:(backTo cpos (starEach es X.env)).any (·.1)=false:=by rfl):
  JE X (.Call (.Attribute o name apos) (e::es) [] cpos) (tBM X.K T r to t):=⟨pe_bm pa slot hty hm ho.h ha.h hbase hfew hline hs hplain⟩
theorem kS {tg iter elt:Expr}{ifs:List Expr}{sc:Scope}{wi:TI}{g:TG}{tt:TT}{m:List (Option Nat)}{Nc:List Str}(hc:X.calm=true)(hi:JI X tg iter wi)(hkind:sc.kind= .function)(hcell:∀ y∈sc.names,y.2≠ .cell)(hnames:∀ y∈sc.names,y.2= .local->sc.names.lookup y.1=some .local)
  (hfree:∀ y∈sc.names,y.2= .free->X.env.scope.names.lookup y.1=some .cell\/X.env.scope.names.lookup y.1=some .free) (hm:yO X sc Nc m)
  (hg:∀ cl C fp s H,JG (blk X sc cl C Nc fp s H) tg g) (ht:∀ cl C fp s H,JTs (blk X sc cl C Nc fp s H) ifs tt) (he:∀ cl C fp s H,JE (blk X sc cl C Nc fp s H) elt te)
  (hs:FoOk iter):JE X (.ListComp elt [⟨tg,iter,ifs,0⟩] sc pos) (tComp m wi g tt te):=⟨jFF hc hi.h hkind hcell hnames hfree hm (fun cl C fp s H=>(hg cl C fp s H).h) (fun cl C fp s H=>(ht cl C fp s H).h) (fun cl C fp s H=>(he cl C fp s H).h) (hs.h _)⟩
theorem jOJ {p1 p2 p3 p4 p5 p6 p7:Pos}{k1 k2 k3 k4:Nat} :JE X (.BinOp (.BinOp (.Constant (.int 2) k1 p1) .Mult (.BinOp (.Constant (.int 10) k2 p2) .Pow (.Constant (.int 12) k3 p3) p4) p5) .Add (.Constant (.int 1) k4 p6) p7) (tC (.int 2000000000001)):=⟨jNV⟩
end
section
variable {P:Program}{w:World}{K:W.Frag}{mg:Str->Option Value}{base:Heap}{N:List Str}{qual:Str}{sc:Scope}{f:Addr}{cdv:Value}{A:Around}{outer:List Env}{s:Shared}{H:Hp}{E:XK}{x:Str}
theorem gl_d (h:sc.names.lookup x=some .globalImplicit):Gl1 (cxOf CX0 P w K mg base N qual sc f cdv A outer s H E).nox x:=⟨h⟩
theorem gD (h:sc.names.lookup x=some .globalImplicit:=by decide+kernel):Gl1 (cxOf CX0 P w K mg base N qual sc f cdv A outer s H E).nox x:=gl_d h
theorem vis_l (h:sc.names.lookup x=some .local):Vis1 (cxOf CX0 P w K mg base N qual sc f cdv A outer s H E).nox x:=⟨.inl h⟩
theorem vL (h:sc.names.lookup x=some .local:=by decide+kernel):Vis1 (cxOf CX0 P w K mg base N qual sc f cdv A outer s H E).nox x:=vis_l h
theorem vis_c (h:sc.names.lookup x=some .cell):Vis1 (cxOf CX0 P w K mg base N qual sc f cdv A outer s H E).nox x:=⟨.inr (.inl h)⟩
theorem vC (h:sc.names.lookup x=some .cell:=by decide+kernel):Vis1 (cxOf CX0 P w K mg base N qual sc f cdv A outer s H E).nox x:=vis_c h
end
theorem jA3 {env:Env}{x:Str}{k:NameKind}(hk:k≠ .free):∀ {l:List (Str×NameKind)},l.lookup x=some k->
  (l.map fun (n,k)=>if (k==NameKind.free&&env.scope.kind== .function&&env.kindOf n==some .cell) then (n,NameKind.cell) else (n,k)).lookup x=some k
 | [],h=>by cases h
 | (n,k')::r,h=>by
  have ih:= @jA3 env x k hk r
  rw[aw] at h
  rw[ck]
  dsimp only
  by_cases hb:(k'==NameKind.free&&env.scope.kind== .function&&env.kindOf n==some .cell)=true
  ·rw[ah hb,aw]
   cases hx:x==n with
   | true=>
    rw[hx] at h
    have e:k'=k:=aN h
    simp only [bp] at hb
    exact absurd (e.symm.trans (eq_of_beq hb.1.1)) hk
   | false=>rw[hx] at h; exact ih h
  ·rw[am hb,aw]
   cases hx:x==n with
   | true=>rw[hx] at h; exact h
   | false=>rw[hx] at h; exact ih h
section
variable {X:Cx}{sc:Scope}{cl:List (Str×Addr)}{C:Addr}{Nc:List Str}{fp:List Addr}{s:Shared}{H:Hp}{x:Str}
theorem gl_b (h:sc.names.lookup x=some .globalImplicit):Gl1 (blk X sc cl C Nc fp s H) x:=⟨jA3 (by decide) h⟩
theorem kG (h:sc.names.lookup x=some .local):Vis1 (blk X sc cl C Nc fp s H) x:=⟨.inl (jA3 (by decide) h)⟩
theorem kL (h:sc.names.lookup x=some .free):Vis1 (blk X sc cl C Nc fp s H) x:=⟨.inr (jA7 h)⟩
theorem yD (h:sc.names.lookup x=some .local):Loc1 (blk X sc cl C Nc fp s H) x:=⟨.inl (jA3 (by decide) h), .inr (jA3 (by decide) h)⟩
end
section
variable {P:Program}{w:World}{K:W.Frag}{mg:Str->Option Value}{base:Heap}{N:List Str}{qual:Str}{sc:Scope}{f:Addr}{cdv:Value}{A:Around}{outer:List Env}{s:Shared}{H:Hp}{E:XK}{x:Str}
theorem loc_l (h:sc.names.lookup x=some .local):Loc1 (cxOf CX0 P w K mg base N qual sc f cdv A outer s H E).nox x:=⟨.inl h, .inl rfl⟩
theorem lL (h:sc.names.lookup x=some .local:=by decide+kernel):Loc1 (cxOf CX0 P w K mg base N qual sc f cdv A outer s H E).nox x:=loc_l h
theorem yU (h:sc.names.lookup x=some .cell):Loc1 (cxOf CX0 P w K mg base N qual sc f cdv A outer s H E).nox x:=⟨.inr h, .inl rfl⟩
end
structure JW (X:Cx)(e:Expr)(t:TT):Prop where
 h:PW X e t
section
variable {X:Cx}{a b:Expr}{rest:List Expr}{pos:Pos}{tA tB':TT}
theorem jFL (ha:JT X a tA):JW X (.BoolOp .And [a] pos) tA:=⟨jM8 ha.h⟩
theorem jEJ (ha:JT X a tA):JW X (.BoolOp .Or [a] pos) tA:=⟨jNJ ha.h⟩
theorem jIZ (ha:JT X a tA)(hb:JW X (.BoolOp .And (b::rest) pos) tB'):JW X (.BoolOp .And (a::b::rest) pos) (tAnd tA tB'):=⟨jNK ha.h hb.h⟩
theorem jw_or (ha:JT X a tA)(hb:JW X (.BoolOp .Or (b::rest) pos) tB'):JW X (.BoolOp .Or (a::b::rest) pos) (tOr tA tB'):=⟨pw_or ha.h hb.h⟩
theorem jt_w (h:JW X a tA):JT X a tA:=⟨h.h.pt⟩
theorem jJ3:JGs X [] gNil:=⟨jMH⟩
structure AsOk (e:Expr):Prop where
 h:∀ es env,assignEach (e::es) env=(false,assign e env)::assignEach es env
theorem jE0 {x:Str} :AsOk (.Name x pos):=⟨fun _ _=>rfl⟩
theorem jC3 {e:Expr}{es:List Expr}{t:TG}{u:TGs}(h1:JG X e t)(h2:JGs X es u)(hs:AsOk e):JGs X (e::es) (gCons t u):=⟨jKJ h1.h h2.h (by rw[hs.h]; rfl)⟩
theorem jLO {es:List Expr}{k:Nat}{t:TGs}{n:Nat}(hc:X.calm=true)(h:JGs X es t)(hn:(assignEach es X.env).length=n:=by rfl)(hst:(assignEach es X.env).findIdx? (·.1)=none:=by rfl):JG X (.Tuple es k pos) (gTup X.K n t):=⟨jNP hc h.h hn hst⟩
theorem jDN {op:CmpOp}{x:Str} :behindInMarks op (.Name x pos)=false:=by cases op <;> rfl
end
theorem jCM {X:Cx}{sc:Scope}{cl:List (Str×Addr)}{C:Addr}{Nc:List Str}{fp:List Addr}{s:Shared}{H:Hp}{x y:Str}{p1 p2 pos:Pos}{k:Nat}{i j:Nat}(hc:X.calm=true)(hN:Nc.Nodup)(hi:Nc[i]?=some x)(hj:Nc[j]?=some y)(hx:sc.names.lookup x=some .local)(hy:sc.names.lookup y=some .local):
  JG (blk X sc cl C Nc fp s H) (.Tuple [.Name x p1, .Name y p2] k pos) (gTup X.K 2 (gCons (kJ i) (gCons (kJ j) gNil))):=
 jLO (X:=blk X sc cl C Nc fp s H) hc (jC3 (jL hN hi (yD hx)) (jC3 (jL hN hj (yD hy)) jJ3 jE0) jE0)
section
variable {K:W.Frag}{m:List (Option Nat)}{g:TG}{tt:TT}{te:TE}{σ:St}{H1:Hp}{Q:VK}
theorem jL3 {t1 t2:Bool}{l1 l2:Addr}{xs ys:List V}(hn:xs.length<sizeLine)(Pv:Addr->Nat->St->Hp->List V->Prop)(h0:∀ D,H1 D=none->Pv D 0 (blkσ m σ) (upd H1 D (.lst [])) [])
  (hD:∀ D i σ' H' zs,H1 D=none->Pv D i σ' H' zs->Sq t1 K H' l1 xs/\Sq t2 K H' l2 ys/\H' D=some (.lst zs)/\zs.length<=i)
  (hs:∀ D i σ' H' zs x y T,H1 D=none->xs[i]?=some x->ys[i]?=some y->H' T=none->Pv D i σ' H' zs->g (.ref T) σ' (upd H' T (.tup [x,y])) fun σ2 H2=>tt σ2 H2 fun b H3=>if b=true then te σ2 H3 fun v H4=>H4 D=some (.lst zs)/\Pv D (i+1) σ2 (upd H4 D (.lst (zs++[v]))) (zs++[v]) else Pv D (i+1) σ2 H3 zs)
  (hd:∀ D σ' H' zs,H1 D=none->Pv D (min xs.length ys.length) σ' H' zs->Q (.ref D) H'):CompW m g tt te σ Q (Itz t1 t2 K l1 l2) H1:=by
 intro D hDn
 refine⟨fun i k σ' H' zs=>k=min xs.length ys.length - i/\i<=min xs.length ys.length/\Pv D i σ' H' zs,⟨_,rfl,aP _,h0 D hDn⟩,?_⟩
 rintro i k σ' H' zs ⟨rfl,hi,p⟩
 obtain⟨s1,s2,q1,q2⟩:=hD D i σ' H' zs hDn p
 refine⟨q1,by omega,?_⟩
 by_cases hlt:i<min xs.length ys.length
 ·have a1:i<xs.length:=by omega
  have a2:i<ys.length:=by omega
  refine .inr ⟨⟨xs,ys,xs[i],ys[i],s1,s2,by simp [a1],by simp [a2]⟩,Pv D (i+1),fun σ2 H2 zs z=>⟨min xs.length ys.length - (i+1),by omega,rfl,hlt,z⟩,fun v H'' y=>?_⟩
  obtain⟨T,x,y,e1,e2,e3,e4⟩:=y
  subst e2 e3
  obtain⟨z1,z2⟩:=e4 xs ys s1 s2
  exact hs D i σ' _ zs x y T hDn z1 z2 e1 p
 ·have e:i=min xs.length ys.length:=by omega
  subst e
  exact .inl ⟨⟨xs,ys,s1,s2,by omega⟩,hd D σ' H' zs hDn p⟩
end
section
variable {X:Cx}{sc:Scope}{cl:List (Str×Addr)}{C:Addr}{Nc:List Str}{fp:List Addr}{s:Shared}{H:Hp}
theorem jFH:OpR (blk X sc cl C Nc fp s H) (compareOp .In) (rIn X.K false):=jCE
theorem jH9:OpR (blk X sc cl C Nc fp s H) (compareOp .NotIn) (rIn X.K true):=jBY
theorem jAR:IxR (blk X sc cl C Nc fp s H) (rIxL X.K):=jQ
theorem jAM:IxR (blk X sc cl C Nc fp s H) (rIxT X.K):=jK
end
def Ext (H H':Hp):Prop:=∀ b o,H b=some o->H' b=some o
theorem Ext.refl (H:Hp):Ext H H:=fun _ _ h=>h
theorem Ext.trans {H H1 H2:Hp}(a:Ext H H1)(b:Ext H1 H2):Ext H H2:=fun c o h=>b c o (a c o h)
theorem Ext.new {H H1:Hp}{l:Addr}(a:Ext H H1)(hl:H1 l=none)(o:HO):Ext H (upd H1 l o):=fun c u h=>by
 have:=a c u h
 rw[j9 (jA this hl)]
 exact this
theorem Ext.updNew {H H1:Hp}{l:Addr}(a:Ext H H1)(hl:H l=none)(o:HO):Ext H (upd H1 l o):=fun c u h=>by
 rw[j9 (jA h hl)]
 exact a c u h
def TupR (H:Hp)(xs:List V)(Q:VK):Prop:=∀ r H',H' r=some (.tup xs)->Ext H H'->Q (.ref r) H'
theorem TupR.new {H:Hp}{xs:List V}{Q:VK}(q:TupR H xs Q){p:Addr}(hp:H p=none):Q (.ref p) (upd H p (.tup xs)):=q p _ j4 ((Ext.refl H).new hp _)
theorem TupR.old {H:Hp}{xs:List V}{Q:VK}(q:TupR H xs Q){p:Addr}(hp:H p=some (.tup xs)):Q (.ref p) H:=q p H hp (Ext.refl H)
section
variable {X:Cx}
def rCatU:R2:=fun x y H Q=>∃ a b xs ys,x= .ref a/\y= .ref b/\H a=some (.tup xs)/\H b=some (.tup ys)/\xs.length+ys.length<=sizeLine/\TupR H (xs++ys) Q
theorem jFI:OpR X (binaryOp .Add) rCatU:=by
 intro pins s σ H x y v u Q I rx ry h
 obtain⟨a,b,xs,ys,rfl,rfl,ha,hb,hz,q⟩:=h
 by_cases hx:xs=[]
 ·subst hx
  cases rx
  cases ry
  obtain⟨_,its,r1,n1,e1⟩:=I.hok a _ ha
  obtain⟨_,its2,r2,n2,e2⟩:=I.hok b _ hb
  cases r1
  exact concat_meets ⟨_,e1,rfl⟩ ⟨_,e2,rfl⟩ dW seq_tuple_add cN cK (cD _ _) (AutoSeq1.tuple___add___tuple_tuple_0 a _ n1 b its2.toArray n2 (by simp)) ⟨e1,e2, .ref b,H,I,rfl,q.old hb⟩
 ·refine jMP pins s σ H _ _ v u Q I rx ry ⟨a,b,xs,ys,rfl,rfl,SqT.of ha,SqT.of hb,hx,hz,fun e=>?_,fun _ p hp=>q.new hp⟩
  subst e
  rw[dg] at q
  exact q.old ha
section
variable (l:Addr)(items:Array Value)(n:Nat)(x:Int)(u:Tok)(h1:¬ (decide (x< -(2 ^ 63)) || decide (x ≥ 2 ^ 63))=true)
include h1
end
theorem jBR {prog:Program}{w:World}{A:Around}{E:Value->Shared->Prop}{s:Shared}{t sl:Addr}{items:Array Value}{n:Nat}{vl vu:Value}{lo hi:Option Int}{Q:Value->Shared->Prop}
  (e0:s.heap.get? t=some { cls:= .type "tuple",data:= .seq items n}) (hs:s.heap.IsSliceOf sl vl vu .none) (pl:IsPart vl lo) (pu:IsPart vu hi)
  (hw:HT.sIx items.size 0 lo=0/\HT.sIx items.size items.size hi=items.size) (h:Q (.ref t) s):wpAny (model prog w) A (getItem (.ref t) (.ref sl)) Q E s:=by
 have ht:IsTup s.heap t items:=⟨_,e0,rfl,n,rfl⟩
 obtain⟨os,hos,hcs,hds⟩:=id hs
 have hTs:s.TypeIs (.ref sl) "slice" :=⟨os,hos,hcs⟩
 unfold getItem
 try with_reducible refine bE ?_
 first | refine aa (ae ?_) | skip
 refine aa (wpAny_sequenceKey ht.typeIs (by decide) (aa (aQ (name:=Str.ofString "__getitem__") ht.typeIs bb
  (aY bb ht.typeIs entry_tuple_getitem (?_:wpAny (model prog w) _ (Builtin.Tuple.tupleItemsOf (.ref t) >>= _) _ _ s) (args_tuple_getitem _ _)))))
 refine aa (tupleItemsOf_ ht (aa (dq hTs ?_)))
 rw[ah (by decide)]
 refine aa (HT.sliceApplied_gen hs pl pu ?_)
 have yes:(((HT.sIx items.size 0 lo:Nat):Int)==0&&(1:Int)==1&&(HT.sIx items.size items.size hi - HT.sIx items.size 0 lo)==items.size)=true:=by
  rw[hw.1,hw.2]
  simp
 show wpAny (model prog w) _ (if (((HT.sIx items.size 0 lo:Nat):Int)==0&&(1:Int)==1&&(HT.sIx items.size items.size hi - HT.sIx items.size 0 lo)==items.size)=true then _ else _) _ _ s
 rw[ah yes]
 have ex:∀ {A:Around}{Q:Bool->Shared->Prop},Q true s->wpAny (model prog w) A (Builtin.Tuple.tupleIsExact (.ref t)) Q E s:=fun q=>by
  unfold Builtin.Tuple.tupleIsExact
  exact aa (dq ⟨_,e0,rfl⟩ (ae q))
 refine aa (ex ?_)
 rw[ah rfl]
 exact aa (cI (ae ⟨_,rfl,ae h⟩))
def rSlU:V->Option Int->Option Int->Hp->VK->Prop:=fun x lo hi H Q=>∃ a xs,x= .ref a/\H a=some (.tup xs)/\TupR H (cutV xs lo hi) Q
theorem jFB:SlR X rSlU:=by
 intro pins s σ H x v vl vu lo hi sl Q I rx hs pl pu h
 obtain⟨a,xs,rfl,hx,q⟩:=h
 by_cases hw:HT.sIx xs.length 0 lo=0/\HT.sIx xs.length xs.length hi=xs.length
 ·cases rx
  obtain⟨_,its,r,n,e⟩:=I.hok a _ hx
  have hlen:its.toArray.size=xs.length:=by rw[au]; exact r.length.symm
  refine⟨"tuple",_,bb.lookup,⟨_,e,rfl⟩,jBR e hs pl pu (by rw[hlen]; exact hw) ⟨.ref a,H,I,rfl,q.old ?_⟩⟩
  rw[hx]
  congr 2
  unfold cutV
  rw[hw.1,hw.2]
  simp
 ·exact jNE pins s σ H _ v vl vu lo hi sl Q I rx hs pl pu ⟨a,xs,rfl,SqT.of hx,hw,fun p hp=>q.new hp⟩
theorem Inv.big' {pins:List (Addr×Obj)}{σ:St}{H:Hp}{s:Shared}(I:Inv X pins σ H s):sysModules<s.heap.objs.size:=cO (by decide) (I.mod.glob.keeps I.bk).lt
def jNC:TE:=fun _ H Q=>∀ p,H p=none->Q (.ref p) (upd H p (.dK []))
theorem je_dict0 {pos:Pos} :JE X (.Dict [] [] pos) jNC:=⟨fun pins s σ H Q I h=>
 wpAny_Dict_empty ⟨.ref s.heap.objs.size,_,I.laid (a:=s.heap.objs.size) (o:= .dK []) (t':=s.toks) (fun _ _ q=>ac _ q) (af _)
  ⟨aP _,bx.mpr (cL (aC I.big')),[], .nil,Heap.DictOf.new s.heap⟩,rfl,h _ (I.hok.fresh (af _))⟩⟩
theorem jJ1 {tg a b:Expr}{t:TA}{p pos:Pos}(hg:Gl1 X "range")(hm:X.mg "range" =none)(ha:JA X [a,b] t)(hs:starEach [a,b] X.env=(false,eval a X.env)::starEach [b] X.env)(hs2:starEach [b] X.env=(false,eval b X.env)::starEach [] X.env):
  JI X tg (.Call (.Name "range" p) [a,b] [] pos) (iRng2 t):=⟨jIK hg.a hm ha.h (by rw[hs,hs2]; rfl) hs2⟩
theorem jGF {tg e:Expr}{te:TE}{g:TG}{pos:Pos}(he:JE X e te)(hg:JG X tg g)(hs:swapsWithSole [tg] e pos.line X.env=pure false:=by rfl)(hw:swappedStores [tg] e X.env=pure none:=by rfl)
  (h1:(assignEach [tg] X.env).map (·.2)=[assign tg X.env]:=by rfl):JS X (.Assign [tg] e pos) (tAsg te g):=⟨jLG he.h hg.h hs hw h1⟩
end
section
variable {K:W.Frag}{m:List (Option Nat)}{g:TG}{tt:TT}{te:TE}{σ:St}{H1:Hp}{Q:VK}
theorem jGS {a:Addr}{xs:List V}(hn:xs.length<sizeLine)(Pv:Addr->Nat->St->Hp->List V->Prop)(h0:∀ D,H1 D=none->Pv D 0 (blkσ m σ) (upd H1 D (.lst [])) [])
  (hD:∀ D i σ' H' zs,H1 D=none->Pv D i σ' H' zs->H' a=some (.tup xs)/\H' D=some (.lst zs)/\zs.length<=i)
  (hs:∀ D i σ' H' zs x,H1 D=none->xs[i]?=some x->Pv D i σ' H' zs->g x σ' H' fun σ2 H2=>tt σ2 H2 fun b H3=>if b=true then te σ2 H3 fun v H4=>H4 D=some (.lst zs)/\Pv D (i+1) σ2 (upd H4 D (.lst (zs++[v]))) (zs++[v]) else Pv D (i+1) σ2 H3 zs)
  (hd:∀ D σ' H' zs,H1 D=none->Pv D xs.length σ' H' zs->Q (.ref D) H'):CompW m g tt te σ Q (Itt K a) H1:=by
 intro D hDn
 refine⟨fun i k σ' H' zs=>k=xs.length - i/\i<=xs.length/\Pv D i σ' H' zs,⟨_,rfl,aP _,h0 D hDn⟩,?_⟩
 rintro i k σ' H' zs ⟨rfl,hi,p⟩
 obtain⟨s1,q1,q2⟩:=hD D i σ' H' zs hDn p
 refine⟨q1,by omega,?_⟩
 by_cases hlt:i<xs.length
 ·refine .inr ⟨⟨xs,xs[i],SqT.of s1,by simp [hlt]⟩,Pv D (i+1),fun σ2 H2 zs z=>⟨xs.length - (i+1),by omega,rfl,hlt,z⟩,fun v H'' y=>?_⟩
  obtain⟨e1,e2⟩:=y
  subst e1
  exact hs D i σ' _ zs v hDn (e2 xs (SqT.of s1)) p
 ·have e:i=xs.length:=by omega
  subst e
  exact .inl ⟨⟨xs,SqT.of s1,af _⟩,hd D σ' H' zs hDn p⟩
end
inductive Tr where
 | non
 | bl (b:Bool)
 | int (i:Int)
 | str (x:Str)
 | lst (ts:List Tr)
 | tup (ts:List Tr)
mutual
def TAt (H:Hp):Tr->V->Prop
 | .non,v=>v= .non
 | .bl b,v=>v= .bl b
 | .int i,v=>v= .int i
 | .str x,v=>v= .str x
 | .lst ts,v=>∃ a vs,v= .ref a/\H a=some (.lst vs)/\TsAt H ts vs
 | .tup ts,v=>∃ a vs,v= .ref a/\H a=some (.tup vs)/\TsAt H ts vs
def TsAt (H:Hp):List Tr->List V->Prop
 | [],vs=>vs=[]
 | t::ts,vs=>∃ v r,vs=v::r/\TAt H t v/\TsAt H ts r
end
mutual
def dep:Tr->Nat
 | .lst ts=>deps ts+1
 | .tup ts=>deps ts+1
 | _=>0
def deps:List Tr->Nat
 | []=>0
 | t::ts=>max (dep t) (deps ts)
end
mutual
def eqT:Tr->Tr->Bool
 | .non, .non=>true
 | .bl a, .bl b=>a==b
 | .bl a, .int b=>(if a then 1 else 0)==b
 | .int a, .bl b=>a==(if b then 1 else 0)
 | .int a, .int b=>a==b
 | .str a, .str b=>a==b
 | .lst a, .lst b=>eqTs a b
 | .tup a, .tup b=>eqTs a b
 | _,_=>false
def eqTs:List Tr->List Tr->Bool
 | [],[]=>true
 | a::as,b::bs=>eqT a b&&eqTs as bs
 | _,_=>false
end
mutual
theorem jL0:∀ t:Tr,eqT t t=true
 | .non=>by simp [eqT]
 | .bl b=>by simp [eqT]
 | .int i=>by simp [eqT]
 | .str x=>by simp [eqT]
 | .lst ts=>by rw[eqT]; exact jCR ts
 | .tup ts=>by rw[eqT]; exact jCR ts
theorem jCR:∀ ts:List Tr,eqTs ts ts=true
 | []=>by simp [eqTs]
 | t::ts=>by rw[eqTs,jL0 t,jCR ts]; rfl
end
mutual
theorem TAt.ext {H H':Hp}(e:Ext H H'):∀ {t:Tr}{v:V},TAt H t v->TAt H' t v
 | .non,_,h=>h
 | .bl _,_,h=>h
 | .int _,_,h=>h
 | .str _,_,h=>h
 | .lst ts,_,⟨a,vs,q,h,r⟩=>⟨a,vs,q,e _ _ h,TsAt.ext e r⟩
 | .tup ts,_,⟨a,vs,q,h,r⟩=>⟨a,vs,q,e _ _ h,TsAt.ext e r⟩
theorem TsAt.ext {H H':Hp}(e:Ext H H'):∀ {ts:List Tr}{vs:List V},TsAt H ts vs->TsAt H' ts vs
 | [],_,h=>h
 | t::ts,_,⟨v,r,q,h,s⟩=>⟨v,r,q,TAt.ext e h,TsAt.ext e s⟩
end
mutual
theorem TAt.inj {H:Hp} :∀ {t u:Tr}{v:V},TAt H t v->TAt H u v->t=u
 | .non,u,_,h,h'=>by
  cases (show _=V.non from h)
  cases u with
  | non=>rfl
  | bl b=>cases (show V.non=_ from h')
  | int b=>cases (show V.non=_ from h')
  | str b=>cases (show V.non=_ from h')
  | lst ts=>obtain⟨_,_,q,_⟩:=h'; cases q
  | tup ts=>obtain⟨_,_,q,_⟩:=h'; cases q
 | .bl b,u,_,h,h'=>by
  cases (show _=V.bl b from h)
  cases u with
  | non=>cases (show V.bl b=_ from h')
  | bl b=>cases (show V.bl _=V.bl b from h'); rfl
  | int i=>cases (show V.bl b=V.int i from h')
  | str i=>cases (show V.bl b=V.str i from h')
  | lst ts=>obtain⟨_,_,q,_⟩:=h'; cases q
  | tup ts=>obtain⟨_,_,q,_⟩:=h'; cases q
 | .int b,u,_,h,h'=>by
  cases (show _=V.int b from h)
  cases u with
  | non=>cases (show V.int b=_ from h')
  | bl i=>cases (show V.int b=V.bl i from h')
  | int b=>cases (show V.int _=V.int b from h'); rfl
  | str i=>cases (show V.int b=V.str i from h')
  | lst ts=>obtain⟨_,_,q,_⟩:=h'; cases q
  | tup ts=>obtain⟨_,_,q,_⟩:=h'; cases q
 | .str b,u,_,h,h'=>by
  cases (show _=V.str b from h)
  cases u with
  | non=>cases (show V.str b=_ from h')
  | bl i=>cases (show V.str b=V.bl i from h')
  | int i=>cases (show V.str b=V.int i from h')
  | str b=>cases (show V.str _=V.str b from h'); rfl
  | lst ts=>obtain⟨_,_,q,_⟩:=h'; cases q
  | tup ts=>obtain⟨_,_,q,_⟩:=h'; cases q
 | .lst ts,u,_,⟨a,vs,q,h,r⟩,h'=>by
  subst q
  cases u with
  | non=>cases (show V.ref a=_ from h')
  | bl i=>cases (show V.ref a=V.bl i from h')
  | int i=>cases (show V.ref a=V.int i from h')
  | str i=>cases (show V.ref a=V.str i from h')
  | lst us=>
   obtain⟨a',vs',q',h2,r'⟩:=h'
   cases q'
   rw[h] at h2
   cases h2
   rw[TsAt.inj r r']
  | tup us=>
   obtain⟨a',vs',q',h2,r'⟩:=h'
   cases q'
   rw[h] at h2
   cases h2
 | .tup ts,u,_,⟨a,vs,q,h,r⟩,h'=>by
  subst q
  cases u with
  | non=>cases (show V.ref a=_ from h')
  | bl i=>cases (show V.ref a=V.bl i from h')
  | int i=>cases (show V.ref a=V.int i from h')
  | str i=>cases (show V.ref a=V.str i from h')
  | lst us=>
   obtain⟨a',vs',q',h2,r'⟩:=h'
   cases q'
   rw[h] at h2
   cases h2
  | tup us=>
   obtain⟨a',vs',q',h2,r'⟩:=h'
   cases q'
   rw[h] at h2
   cases h2
   rw[TsAt.inj r r']
theorem TsAt.inj {H:Hp} :∀ {ts us:List Tr}{vs:List V},TsAt H ts vs->TsAt H us vs->ts=us
 | [],us,_,h,h'=>by
  cases (show _=[] from h)
  cases us with
  | nil=>rfl
  | cons u us=>obtain⟨_,_,q,_⟩:=h'; cases q
 | t::ts,us,_,⟨v,r,q,h,s⟩,h'=>by
  subst q
  cases us with
  | nil=>cases (show v::r=[] from h')
  | cons u us=>
   obtain⟨v',r',q,h2,s2⟩:=h'
   cases q
   rw[TAt.inj h h2,TsAt.inj s s2]
end
section
variable {X:Cx}{pins:List (Addr×Obj)}{σ:St}{H:Hp}{s:Shared}
end
theorem jJT {x:Str}{c:Addr} :∀ (l:List (Str×NameKind)) (n:Nat) (acc:List (Str×Addr)),(cellsFrom n l acc).lookup x=some c->acc.lookup x=some c\/(n<=c/\(x,NameKind.cell)∈l)
 | [],n,acc,h=> .inl h
 | (y,k)::r,n,acc,h=>by
  unfold cellsFrom at h
  by_cases hk:(k==NameKind.cell)=true
  ·rw[ah hk] at h
   have ek:k= .cell:=eq_of_beq hk
   rcases jJT r (n+1) _ h with q | ⟨q1,q2⟩
   ·rw[aw] at q
    cases e:x==y with
    | true=>
     rw[e] at q
     cases q
     exact .inr ⟨af _,by rw[eq_of_beq e,ek]; exact aE⟩
    | false=>rw[e] at q; exact .inl q
   ·exact .inr ⟨by omega,aA _ q2⟩
  ·rw[am hk] at h
   rcases jJT r n _ h with q | ⟨q1,q2⟩
   ·exact .inl q
   ·exact .inr ⟨q1,aA _ q2⟩
theorem jJV:∀ (l:List (Str×NameKind)) (n:Nat) (acc:List (Str×Addr)),(∀ x y c,acc.lookup x=some c->acc.lookup y=some c->x=y)->(∀ x c,acc.lookup x=some c->c<n)->
  ∀ x y c,(cellsFrom n l acc).lookup x=some c->(cellsFrom n l acc).lookup y=some c->x=y
 | [],n,acc,h1,_=>h1
 | (z,k)::r,n,acc,h1,h2=>by
  unfold cellsFrom
  by_cases hk:(k==NameKind.cell)=true
  ·rw[ah hk]
   refine jJV r (n+1) _ (fun x y c a b=>?_) (fun x c a=>?_)
   ·rw[aw] at a b
    cases e1:x==z with
    | true=>
     rw[e1] at a
     cases a
     cases e2:y==z with
     | true=>exact(eq_of_beq e1).trans (eq_of_beq e2).symm
     | false=>rw[e2] at b; exact absurd (h2 y n b) (aV _)
    | false=>
     rw[e1] at a
     cases e2:y==z with
     | true=>rw[e2] at b; cases b; exact absurd (h2 x n a) (aV _)
     | false=>rw[e2] at b; exact h1 x y c a b
   ·rw[aw] at a
    cases e1:x==z with
    | true=>rw[e1] at a; cases a; exact aB _
    | false=>rw[e1] at a; exact ai (h2 x c a)
  ·rw[am hk]
   exact jJV r n acc h1 h2
theorem jJW {x:Str} :∀ (l:List (Str×NameKind)) (n:Nat) (acc:List (Str×Addr)),((x,NameKind.cell)∈l\/∃ c,acc.lookup x=some c)->∃ c,(cellsFrom n l acc).lookup x=some c
 | [],n,acc,h=>by
  rcases h with h | h
  ·cases h
  ·exact h
 | (z,k)::r,n,acc,h=>by
  unfold cellsFrom
  by_cases hk:(k==NameKind.cell)=true
  ·rw[ah hk]
   refine jJW r (n+1) _ ?_
   by_cases e:x=z
   ·subst e
    exact .inr ⟨n,by rw[aw,dX]⟩
   ·rcases h with h | ⟨c,h⟩
    ·rcases av.mp h with q | q
     ·cases q; exact absurd rfl e
     ·exact .inl q
    ·exact .inr ⟨c,by rw[aw,bx.mpr e]; exact h⟩
  ·rw[am hk]
   refine jJW r n acc ?_
   rcases h with h | h
   ·rcases av.mp h with q | q
    ·cases q; exact absurd rfl hk
    ·exact .inl q
   ·exact .inr h
theorem jJU {x:Str}{c n0:Nat} :∀ (l:List (Str×NameKind)) (n:Nat) (acc:List (Str×Addr)),n0<=n->((x,NameKind.cell)∈l\/∀ c,acc.lookup x=some c->n0<=c)->(cellsFrom n l acc).lookup x=some c->n0<=c
 | [],n,acc,_,h,e=>by
  rcases h with h | h
  ·cases h
  ·exact h c e
 | (z,k)::r,n,acc,hn,h,e=>by
  unfold cellsFrom at e
  by_cases hk:(k==NameKind.cell)=true
  ·rw[ah hk] at e
   refine jJU r (n+1) _ (by omega) ?_ e
   by_cases ez:x=z
   ·subst ez
    refine .inr fun c' h'=>?_
    rw[aw,dX] at h'
    cases h'
    exact hn
   ·rcases h with h | h
    ·rcases av.mp h with q | q
     ·cases q; exact absurd rfl ez
     ·exact .inl q
    ·refine .inr fun c' h'=>?_
     rw[aw,bx.mpr ez] at h'
     exact h c' h'
  ·rw[am hk] at e
   refine jJU r n acc hn ?_ e
   rcases h with h | h
   ·rcases av.mp h with q | q
    ·cases q; exact absurd rfl hk
    ·exact .inl q
   ·exact .inr h
theorem jFQ {x:Str} :∀ (l:List (Str×NameKind)) (n:Nat) (acc:List (Str×Addr)),(x,NameKind.cell)∉l->(cellsFrom n l acc).lookup x=acc.lookup x
 | [],_,_,_=>rfl
 | (z,k)::r,n,acc,h=>by
  unfold cellsFrom
  by_cases hk:(k==NameKind.cell)=true
  ·have ek:k= .cell:=eq_of_beq hk
   subst ek
   have ne:x≠z:=fun e=>h (by rw[e]; exact aE)
   rw[ah hk,jFQ r (n+1) _ (fun q=>h (aA _ q)),aw,bx.mpr ne]
  ·rw[am hk,jFQ r n _ (fun q=>h (aA _ q))]
theorem jFR:∀ (l:List (Str×NameKind)) (h:Heap) (acc:List (Str×Addr)),(∀ x c,acc.lookup x=some c->∃ v,h.IsCell c v)->∀ x c,(cellsFrom h.objs.size l acc).lookup x=some c->∃ v,(pushCells h l).IsCell c v
 | [],h,acc,k=>k
 | (z,k)::r,h,acc,hc=>by
  unfold cellsFrom pushCells
  by_cases hk:(k==NameKind.cell)=true
  ·rw[ah hk,ah hk]
   have e:(h.push { cls:= .type "cell",data:= .cell none}).objs.size=h.objs.size+1:=aR _ _
   rw[<- e]
   refine jFR r _ _ (fun x c q=>?_)
   rw[aw] at q
   cases ez:x==z with
   | true=>rw[ez] at q; cases q; exact⟨none,⟨_,ak _ rfl,rfl⟩⟩
   | false=>
    rw[ez] at q
    obtain⟨v,o,ho,hd⟩:=hc x c q
    exact⟨v,o,ac _ ho,hd⟩
  ·rw[am hk,am hk]
   exact jFR r h acc hc
theorem jCB {env:Env}{x:Str}{k:NameKind}(hk:k= .cell\/k= .free):∀ {l:List (Str×NameKind)},
  (l.map fun (n,k)=>if (k==NameKind.free&&env.scope.kind== .function&&env.kindOf n==some .cell) then (n,NameKind.cell) else (n,k)).lookup x=some k->(x,NameKind.cell)∈l\/(x,NameKind.free)∈l
 | [],h=>by simp at h
 | (n,k')::r,h=>by
  have ih:= @jCB env x k hk r
  have up:(x,NameKind.cell)∈r\/(x,NameKind.free)∈r->(x,NameKind.cell)∈(n,k')::r\/(x,NameKind.free)∈(n,k')::r:=fun q=>q.imp (aA _) (aA _)
  rw[ck] at h
  dsimp only at h
  by_cases hb:(k'==NameKind.free&&env.scope.kind== .function&&env.kindOf n==some .cell)=true
  ·rw[ah hb,aw] at h
   cases hx:x==n with
   | true=>
    have:k'= .free:=by
     simp only [bp] at hb
     exact eq_of_beq hb.1.1
    rw[this,eq_of_beq hx]
    exact .inr aE
   | false=>rw[hx] at h; exact up (ih h)
  ·rw[am hb,aw] at h
   cases hx:x==n with
   | true=>
    rw[hx] at h
    have e:k'=k:=aN h
    rw[eq_of_beq hx,e]
    rcases hk with q | q
    ·rw[q]; exact .inl aE
    ·rw[q]; exact .inr aE
   | false=>rw[hx] at h; exact up (ih h)
theorem jFJ {M:Model}{A:Around}{E:Value->Shared->Prop}{s:Shared}{scope:Scope}{globals:Addr}{closure:List (Str×Addr)}{qual:Str}{func:Option Addr}{code:Value}{outer:Env}{builtins:Addr}{Q:Env->Shared->Prop}
  (hQ:Q (newEnv scope s.heap.objs.size globals (cellsFrom (s.heap.objs.size+1) scope.names closure) qual func code (some outer) builtins) { s with heap:=pushCells (s.heap.push { cls:= .type "dict",data:= .dict #[]}) scope.names}):
  wpAny M A (newFunctionEnv scope globals closure [] qual func code (some outer) builtins) Q E s:=by
 simp only [newFunctionEnv,Option.isSome_some,cX]
 refine aa (wpAny_alloc ?_)
 refine aa (wpAny_layCells _ (fun name kind cells=>by cases hkc:kind==NameKind.cell <;> simp [hkc]) _ _ _ _ ?_)
 rw[show ({ s with heap:=s.heap.push { cls:= .type "dict",data:= .dict #[]}} :Shared).heap.objs.size=s.heap.objs.size+1 from aR ..]
 first
  | exact ae hQ
  | exact aa (ae (ae hQ))
  | (rw[eU]; exact aa (ae (ae hQ)))
def blkC (X:Cx)(sc:Scope)(cl:List (Str×Addr))(C:Addr)(Nc:List Str)(fp:List Addr)(s:Shared)(H:Hp):Cx where
 prog:=X.prog
 w:=X.w
 K:=X.K
 mg:=X.mg
 base:=X.base
 A:=X.A
 N:=Nc
 s₀:=s
 H₀:=H
 env:=compEnvC sc cl C X.env
 outer:=X.stack
 stack:=X.stack
 ex:=fp
 fn:=fun x=>sc.names.lookup x==some .cell
 calm:=X.calm
 pn:=[]
 xe:=fun _ _=>False
section
variable {X:Cx}{tg iter elt:Expr}{ifs:List Expr}{sc:Scope}{pos:Pos}{wi:TI}{g:TG}{tt:TT}{te:TE}{m:List (Option Nat)}{Nc:List Str}
theorem jHJ {pins:List (Addr×Obj)}{s:Shared}{σ:St}{H:Hp}{fp:List Addr}(I:Inv X pins σ H s)(hkind:sc.kind= .function)(hdis:∀ x,sc.names.lookup x=some .free->(x,NameKind.cell)∉sc.names)
  (hfree:∀ y∈sc.names,y.2= .free->X.env.scope.names.lookup y.1=some .cell\/X.env.scope.names.lookup y.1=some .free) (hm:yO X sc Nc m) (hfp:∀ b∈fp,FpOk X pins H b) (hlt:∀ b∈fp,b<s.heap.objs.size):
  Inv (blkC X sc (cellsFrom (s.heap.objs.size+1) sc.names (jY X.env.cells sc.names [])) s.heap.objs.size Nc fp s H) [] (blkσ m σ) H { s with heap:=pushCells (s.heap.push { cls:= .type "dict",data:= .dict #[]}) sc.names} :=by
 have hcl:∀ y∈sc.names,y.2= .free->∃ c,X.env.cells.lookup y.1=some c:=fun y hy hf=>I.ok.has y.1 (hfree y hy hf)
 have sub:∀ x c,(jY X.env.cells sc.names []).lookup x=some c->X.env.cells.lookup x=some c:=jAU sc.names [] hcl (fun x c e=>by cases e)
 have clt:∀ x c,(jY X.env.cells sc.names []).lookup x=some c->c<s.heap.objs.size:=fun x c e=>by
  obtain⟨v,o,ho,_⟩:=I.cell x c (sub x c e)
  exact ag ho
 have way:∀ x c,(cellsFrom (s.heap.objs.size+1) sc.names (jY X.env.cells sc.names [])).lookup x=some c->(jY X.env.cells sc.names []).lookup x=some c\/s.heap.objs.size+1<=c:=fun x c e=>(jJT _ _ _ e).imp id fun q=>q.1
 have old:∀ b o,s.heap.get? b=some o->(pushCells (s.heap.push { cls:= .type "dict",data:= .dict #[]}) sc.names).get? b=some o:=fun b o e=>eG _ _ b o (ac _ e)
 have hns:(pushCells (s.heap.push { cls:= .type "dict",data:= .dict #[]}) sc.names).Ns s.heap.objs.size (fun _=>none):=(Heap.Ns.new s.heap (.type "dict")).keeps (eG _ _)
 refine⟨⟨I.ok.mod,hkind,I.ok.glob,I.ok.blt,af _,jJV _ _ _ (fun x y c h1 h2=>I.ok.inj x y c (sub x c h1) (sub y c h2)) (fun x c e=>ai (clt x c e)),fun x hx=>?_,fun x c hf e=>?_,I.ok.hd,I.ok.frames, .inl rfl,fun b hb=>?_,I.bs,aZ I.ok.bsz I.sz,fun b o e hb=>?_,fun b hb hz=>?_,I.stack,I.stkFree⟩,
  rfl,I.bare,Un.kept old,⟨_,hns,fun k x v e1 e2 e3=>?_⟩,fun x c e=>?_,I.hok.fresh (af _),fun x c e=>?_,fun p hp=>absurd (show p∈([]:List (Addr×Obj)) from hp) (by simp),I.hok.kept old,?_⟩
 ·have q:(x,NameKind.cell)∈sc.names\/(x,NameKind.free)∈sc.names:=by
   rcases hx with h | h
   ·exact jCB (.inl rfl) h
   ·exact jCB (.inr rfl) h
  exact jJW _ _ _ (q.imp id fun q=>jAB sc.names [] (.inl q))
 ·have hf:(sc.names.lookup x==some NameKind.cell)=true:=hf
  have:=jJU (n0:=s.heap.objs.size+1) _ _ _ (af _) (.inl (jA6 (eq_of_beq hf))) e
  exact Nat.le_of_succ_le this
 ·obtain⟨f0,f1,f2,f3,f4,f5⟩:=hfp b hb
  refine⟨aC (hlt b hb),fun x c e=>?_⟩
  rcases way x c e with q | q
  ·exact f4 x c (sub x c q)
  ·exact bu (aD (hlt b hb) (Nat.le_of_succ_le q))
 ·obtain⟨f0,f1,f2,f3,f4,f5⟩:=hfp b hb
  rcases f3 with q | q
  ·exact I.ok.noex b o e q
  ·exact absurd (aD (ag (I.ok.bs b o e).1) q) (aV _)
 ·obtain⟨f0,f1,f2,f3,f4,f5⟩:=hfp b hb
  rcases av.mp (I.stkSub b hz) with q | q
  ·exact f1 q
  ·exact f2 q
 ·have e2':∃ i,m[k]?=some (some i)/\σ[i]?=some (some v):=by
   unfold blkσ at e2
   rw[ay] at e2
   cases q:m[k]? with
   | none=>rw[q] at e2; cases e2
   | some o=>
    rw[q] at e2
    cases o with
    | none=>cases e2
    | some i=>
     refine⟨i,rfl,?_⟩
     have e2:(σ[i]?).getD none=some v:=aN e2
     cases r:σ[i]? with
     | none=>rw[r] at e2; cases e2
     | some z=>rw[r] at e2; exact bo some e2
  obtain⟨i,q1,q2⟩:=e2'
  obtain⟨x',a1,a2,a3⟩:=hm.2 k i q1
  have e1':Nc[k]?=some x:=e1
  rw[e1'] at a1
  cases a1
  have vis:=hfree (x, .free) (jA6 a3) rfl
  obtain⟨m0,hn0,hl0⟩:=I.loc
  obtain⟨u,r,l⟩:=hl0 i x v a2 q2 (.inr vis)
  refine⟨u,r, .inr ⟨jA7 a3,?_⟩⟩
  obtain⟨c,hc⟩:=jAB (cells:=X.env.cells) (x:=x) sc.names [] (.inl (jA6 a3))
  rcases l with ⟨lk,_⟩ | ⟨_,c',hc',o,ho,hd⟩
  ·have lk':X.env.scope.names.lookup x=some .local:=lk
   rcases vis with z | z
   ·rw[lk'] at z; cases z
   ·rw[lk'] at z; cases z
  ·have:=sub x c hc
   rw[hc'] at this
   cases this
   exact⟨c,(jFQ _ _ _ (hdis x a3)).trans hc,o,old _ _ ho,hd⟩
 ·have e':(cellsFrom (s.heap.push { cls:= .type "dict",data:= .dict #[]}).objs.size sc.names (jY X.env.cells sc.names [])).lookup x=some c:=by
   rw[show (s.heap.push { cls:= .type "dict",data:= .dict #[]}).objs.size=s.heap.objs.size+1 from aR _ _]
   exact e
  refine jFR _ _ _ (fun x c q=>?_) x c e'
  obtain⟨v,o,ho,hd⟩:=I.cell x c (sub x c q)
  exact⟨v,o,ac _ ho,hd⟩
 ·rcases way x c e with q | q
  ·exact I.freeC x c (sub x c q)
  ·exact I.hok.fresh (by omega)
 ·show (blkσ m σ).length=Nc.length
  unfold blkσ
  rw[ab]
  exact hm.1
theorem jOO (h:(sc.names.all fun y=>decide (y.2= .cell->sc.names.lookup y.1=some .cell))=true):∀ x,sc.names.lookup x=some .free->(x,NameKind.cell)∉sc.names:=fun x hx hm=>by
 have:=az (bq.mp h _ hm) rfl
 rw[hx] at this
 cases this
end
section
variable {X:Cx}{sc:Scope}{cl:List (Str×Addr)}{C:Addr}{Nc:List Str}{fp:List Addr}{s:Shared}{H:Hp}{x:Str}
theorem gl_bC (h:sc.names.lookup x=some .globalImplicit):Gl1 (blkC X sc cl C Nc fp s H) x:=⟨jA3 (by decide) h⟩
theorem jHN (h:sc.names.lookup x=some .cell):Vis1 (blkC X sc cl C Nc fp s H) x:=⟨.inr (.inl (jA3 (by decide) h))⟩
theorem jF8 (h:sc.names.lookup x=some .free):Vis1 (blkC X sc cl C Nc fp s H) x:=⟨.inr (jA7 h)⟩
theorem jIY (h:sc.names.lookup x=some .cell):Loc1 (blkC X sc cl C Nc fp s H) x:=⟨.inr (jA3 (by decide) h), .inl (by show (sc.names.lookup x==some NameKind.cell)=true; rw[h]; rfl)⟩
theorem jGM {sc2:Scope}(h:(sc2.names.all fun y=>decide (y.2= .free->sc.names.lookup y.1=some .cell\/sc.names.lookup y.1=some .free))=true):
  ∀ y∈sc2.names,y.2= .free->(blkC X sc cl C Nc fp s H).env.scope.names.lookup y.1=some .cell\/(blkC X sc cl C Nc fp s H).env.scope.names.lookup y.1=some .free:=fun y hy hf=>by
 rcases az (bq.mp h y hy) hf with q | q
 ·exact .inl (jA3 (by decide) q)
 ·exact jA7 q
theorem jEN:IxR (blkC X sc cl C Nc fp s H) (rIxT X.K):=jK
theorem jHE {tg a:Expr}{ta:TE}(hl:JE (blkC X sc cl C Nc fp s H) a ta):JI (blkC X sc cl C Nc fp s H) tg a (iList X.K ta):=jFM hl
theorem jJ0 {tg a:Expr}{ta:TE}(hl:JE (blkC X sc cl C Nc fp s H) a ta):JI (blkC X sc cl C Nc fp s H) tg a (iTup X.K ta):=yN hl
variable {sc2:Scope}{cl2:List (Str×Addr)}{C2:Addr}{Nc2:List Str}{fp2:List Addr}{s2:Shared}{H2:Hp}
theorem jG8:OpR (blk (blkC X sc cl C Nc fp s H) sc2 cl2 C2 Nc2 fp2 s2 H2) (compareOp .In) (rIn X.K false):=jCE
theorem jJ6:IxR (blk (blkC X sc cl C Nc fp s H) sc2 cl2 C2 Nc2 fp2 s2 H2) (rIxT X.K):=jK
end
section
variable {X:Cx}
def rAny (K:W.Frag):List V->Hp->VK->Prop:=fun xs H Q=>∃ (p:Addr) (bs:List Bool),xs=[.ref p]/\SqL K H p (bs.map V.bl)/\Q (.bl (bs.any id)) H
theorem jBJ (hc:X.calm=true):kZ X (.builtin "any") (rAny X.K):=by
 intro pins s σ H xs us Q I r h
 obtain⟨p,bs,rfl,hq,q⟩:=h
 obtain⟨u,rfl,rx⟩:=r.one
 cases rx
 obtain⟨its,r',pl,hz⟩:=I.list hq
 have hlen:=r'.length
 rw[ab] at hlen
 refine call_any_walk (bS pl.isList ?_)
 have hne:p≠s.heap.objs.size:=by
  obtain⟨o,ho,_⟩:=pl.isList
  exact aC (ag ho)
 refine⟨s.heap.objs.size,_,_,_,_,_,fun i=>bs.getD i true,rfl,fg (by simpa using I.ok.hd hc) _ p hne its.toArray,⟨⟨_,ak _ rfl,rfl,rfl⟩,pl.isList.push _⟩,fun i v z Q' E' hP hQ'=>?_,fun h' tk hk=>?_⟩
 ·have hi:its[i]?=some v:=by simpa using hP
  have hb:i<bs.length:=by
   rw[hlen]
   exact(ar.mp hi).1
  obtain⟨u,hu,ru⟩:=r'.get (i:=i) (x:= .bl (bs[i])) (by simp [hb])
  rw[hi] at hu
  cases hu
  cases ru
  have e:bs.getD i true=bs[i]:=by simp [List.getD,hb]
  have hQ2:Q' (bs.getD i true) z:=hQ'
  rw[e] at hQ2
  exact ae hQ2
 ·have e:(List.range its.toArray.size).any (fun i=>bs.getD i true)=bs.any id:=by
   rw[au,<- hlen]
   rw[bR,dZ,dZ]
   constructor
   ·rintro ⟨i,hi,hb⟩
    have hi:=aO.mp hi
    exact⟨bs[i],cV hi,by simpa [List.getD,hi] using hb⟩
   ·rintro ⟨b,hb,hq⟩
    obtain⟨i,hi,rfl⟩:=cC hb
    exact⟨i,aO.mpr hi,by simpa [List.getD,hi] using hq⟩
  rw[e]
  exact⟨.bl _,H,I.kept (t':=tk) fun b o e=>hk b o (by
   intro z
   have z:b=s.heap.objs.size:=by simpa using z
   exact absurd (ag e) (by rw[z]; exact aV _)) (ac _ e),rfl,q⟩
theorem jGD {c:Expr}{body:List Stmt}{tc:TT}{tb:TS}{pos:Pos}(hp:PassesOwn (model X.prog X.w) X.A X.env X.xe)(hc:JT X c tc)(hb:JSs X body tb):JS X (.While c body [] pos) (jHZ tc tb):=⟨jKG hp hc.h hb.h⟩
theorem jGB {op:CmpOp}{a b:Expr}{pos:Pos} :behindInMarks op (.Subscript a b pos)=false:=by cases op <;> rfl
theorem jOL {xs:List Expr}{pos:Pos} :FoOk (.List xs pos):=⟨fun _ _=>rfl⟩
end
section
variable {X:Cx}{sc:Scope}{cl:List (Str×Addr)}{C:Addr}{Nc:List Str}{fp:List Addr}{s:Shared}{H:Hp}
theorem jEX (hc:X.calm=true):kZ (blkC X sc cl C Nc fp s H) (.builtin "any") (rAny X.K):=jBJ hc
theorem jN2 {o e:Expr}{es:List Expr}{to:TE}{t:TA}{cpos apos:Pos}{id:String}{T:String}{name:Str}{r}(pa:PlainAttrs T)(slot:Slot T name id)(hty:typeOf (.builtin id)=pure (.type "method_descriptor"))(hm:MtR (blk X sc cl C Nc fp s H) id r)(ho:JE (blk X sc cl C Nc fp s H) o to)(ha:JA (blk X sc cl C Nc fp s H) (e::es) t)
  (hs:starEach (e::es) (blk X sc cl C Nc fp s H).env=(false,eval e (blk X sc cl C Nc fp s H).env)::starEach es (blk X sc cl C Nc fp s H).env)
  (hbase:attributeBase o name (blk X sc cl C Nc fp s H).env (eval o (blk X sc cl C Nc fp s H).env)=eval o (blk X sc cl C Nc fp s H).env:=by rfl)
  (hfew:((backTo cpos (starEach (e::es) (blk X sc cl C Nc fp s H).env)).all (fun x=>!x.1)&&(backToKw cpos (keywordEach [] (blk X sc cl C Nc fp s H).env)).all (fun x=>x.1.isSome)
   &&decide ((e::es).length+([]:List Keyword).length+(if ([]:List Keyword).isEmpty then 0 else 1)<30))=true:=by rfl)
  (hline:(apos.endLine==cpos.line)=true:=by rfl) (hplain:(backTo cpos (starEach es (blk X sc cl C Nc fp s H).env)).any (·.1)=false:=by rfl):
  JE (blk X sc cl C Nc fp s H) (.Call (.Attribute o name apos) (e::es) [] cpos) (tBM X.K T r to t):=je_bm pa slot hty hm ho ha hs hbase hfew hline hplain
end
end L2
end
section
namespace L2
open PySem
theorem jM4 {es:List Expr}{env:Env}{pos:Pos}{ks:List (Option Expr)}{vs:List Expr} :starEach (.Dict ks vs pos::es) env=(false,eval (.Dict ks vs pos) env)::starEach es env:=rfl
def LstR (H:Hp)(xs:List V)(Q:VK):Prop:=∀ r H',H' r=some (.lst xs)->Ext H H'->H r=none->Q (.ref r) H'
theorem LstR.new {H:Hp}{xs:List V}{Q:VK}(q:LstR H xs Q){p:Addr}(hp:H p=none):Q (.ref p) (upd H p (.lst xs)):=q p _ j4 ((Ext.refl H).new hp _) hp
def tTupU (t:TA):TE:=fun σ H Q=>t σ H fun xs H1=>xs.length<=sizeLine/\TupR H1 xs Q
def tLstU (t:TA):TE:=fun σ H Q=>t σ H fun xs H1=>xs.length<=sizeLine/\LstR H1 xs Q
def jNB:TE:=fun _ H Q=>∀ r H',H' r=some (.dK [])->Ext H H'->Q (.ref r) H'
section
variable {X:Cx}{es:List Expr}{t:TA}{pos:Pos}
theorem yC {x1}(h:JA X es t):JE X (.Tuple es x1 pos) (tTupU t):=⟨fun pins s σ H Q I hq=>by
 refine wpAny_Tuple_spliced (thn (h.h pos pins s σ H _ I hq) fun us s1 ⟨xs,H1,I1,r,z,q⟩=>⟨by rw[<- r.length]; exact z,?_⟩)
 have hf:H1 s1.heap.objs.size=none:=I1.hok.fresh (af _)
 exact⟨.ref s1.heap.objs.size,upd H1 s1.heap.objs.size (.tup xs),I1.laid (t':=s1.toks) (fun b u e=>ac _ e) (af _) ⟨z,us,r,TupO.new _ _⟩,rfl,q.new hf⟩⟩
theorem jB4 (h:JA X es t):JE X (.List es pos) (tLstU t):=⟨fun pins s σ H Q I hq=>by
 refine wpAny_List_spliced (thn (h.h pos pins s σ H _ I hq) fun us s1 ⟨xs,H1,I1,r,z,q⟩=>⟨by rw[<- r.length]; exact z,?_⟩)
 have hf:H1 s1.heap.objs.size=none:=I1.hok.fresh (af _)
 exact⟨.ref s1.heap.objs.size,upd H1 s1.heap.objs.size (.lst xs),I1.laid (t':=s1.toks) (fun b u e=>ac _ e) (af _) ⟨z,us,0,r,ak _ rfl⟩,rfl,q.new hf⟩⟩
theorem jKW:JE X (.Dict [] [] pos) jNB:=⟨fun pins s σ H Q I h=>je_dict0.h pins s σ H Q I fun p hp=>h p _ j4 ((Ext.refl H).new hp _)⟩
theorem jHH:kZ X (.type "list") (fun xs H Q=>∃ p ys,xs=[.ref p]/\H p=some (.tup ys)/\LstR H ys Q):=by
 intro pins s σ H xs us Q I r h
 obtain⟨p,ys,rfl,hp,q⟩:=h
 exact jEU pins s σ H _ us Q I r ⟨p,ys,rfl, .inr (SqT.of hp),fun l hl=>q.new hl⟩
theorem jDM:OpR X (binaryOp .Add) (fun x y H Q=>∃ l b xs zs,x= .ref l/\y= .ref b/\H l=some (.lst xs)/\H b=some (.lst zs)/\xs.length+zs.length<=sizeLine/\LstR H (xs++zs) Q):=by
 intro pins s σ H x y v u Q I rx ry h
 obtain⟨l,b,xs,zs,rfl,rfl,h1,h2,h3,q⟩:=h
 exact jO1 pins s σ H _ _ v u Q I rx ry ⟨l,b,xs,zs,rfl,rfl,h1,h2,h3,fun p hp=>q.new hp⟩
end
end L2
end
section
namespace L2
open PySem PySem.Spec PyProof.Rows
section
variable {X:Cx}
def CDivB (i j:Int):Prop:=0<j/\j.natAbs.log2<9000
theorem jDL:OpR X (binaryOp .FloorDiv) (rI CDivB fun i j=> .int (i / j)):=opI fun i j _ _ _ _ _ hc q=>by
 have h1:(0:Int)<j:=hc.1
 exact floordiv_int (by omega) (by rw[cr i (by omega)]; exact q) (.inl (dR hc.2))
theorem jGI {o i:Expr}{pos:Pos}{to ti:TE}{t:TSet}(ho:JE X o to)(hi:JE X i ti)(hs:PSet X t)
  (ha:∀ v,assign (.Subscript o i pos) X.env v=(do
   let ov <- holding [v] (eval o X.env)
   let iv <- holding [v,ov] (eval i X.env)
   standAt pos
   holding [v,ov,iv] (setItem ov iv v)
   release [v,ov,iv] []):=by intro _; rfl):JG X (.Subscript o i pos) (gSub to ti t):=⟨jLI ho.h hi.h hs ha⟩
end
theorem jB2 (ns:List Int):∀ j,preSum (fun i=>ns.getD i 0) j=(ns.take j).sum
 | 0=>rfl
 | j+1=>by
  rw[preSum,jB2 ns j,bv,List.sum_append]
  congr 1
  rw[aT]
  cases ns[j]? with
  | none=>rfl
  | some z=>simp
section
variable {X:Cx}
def rSum (K:W.Frag):List V->Hp->VK->Prop:=fun xs H Q=>∃ (p:Addr) (ns:List Int),xs=[.ref p]/\(SqL K H p (ns.map V.int))/\Q (.int ns.sum) H
theorem jES (hc:X.calm=true):kZ X (.builtin "sum") (rSum X.K):=by
 intro pins s σ H xs us Q I r h
 obtain⟨p,ns,rfl,hq,q⟩:=h
 obtain⟨u,rfl,rx⟩:=r.one
 cases rx
 obtain⟨its,r',pl,hz⟩:=I.list hq
 have hlen:=r'.length
 rw[ab] at hlen
 refine call_sum_walkG (bS pl.isList ?_)
 have hne:p≠s.heap.objs.size:=by
  obtain⟨o,ho,_⟩:=pl.isList
  exact aC (ag ho)
 refine⟨s.heap.objs.size,_,_,_,_,_,fun i=>ns.getD i 0,rfl,fg (by simpa using I.ok.hd hc) _ p hne its.toArray,⟨⟨_,ak _ rfl,rfl,rfl⟩,pl.isList.push _⟩,(fun b hb=>?_),(fun i v hP=>?_),fun h' tk t' hk=>?_⟩
 ·show b<(s.heap.push _).objs.size
  rw[aR]
  obtain⟨o,ho,_⟩:=pl.isList
  have:=ag ho
  rcases av.mp hb with rfl | hb
  ·exact aB _
  ·rcases av.mp hb with rfl | hb
   ·exact ai this
   ·cases hb
 ·have hi:its[i]?=some v:=by simpa using hP
  have hb:i<ns.length:=by
   rw[hlen]
   exact(ar.mp hi).1
  obtain⟨u,hu,ru⟩:=r'.get (i:=i) (x:= .int (ns[i])) (by simp [hb])
  rw[hi] at hu
  cases hu
  obtain⟨t,rfl⟩:=ru
  exact⟨t,by simp [List.getD,hb]⟩
 ·have e:preSum (fun i=>ns.getD i 0) its.toArray.size=ns.sum:=by
   rw[jB2,au,<- hlen,d8]
  rw[e]
  exact⟨.int _,H,I.kept (t':=tk) fun b o e=>hk b o (by
   intro z
   have z:b=s.heap.objs.size:=by simpa using z
   exact absurd (ag e) (by rw[z]; exact aV _)) (ac _ e),⟨_,rfl⟩,q⟩
variable {sc:Scope}{cl:List (Str×Addr)}{C:Addr}{Nc:List Str}{fp:List Addr}{s:Shared}{H:Hp}
theorem jCT (hc:X.calm=true):kZ (blk X sc cl C Nc fp s H) (.builtin "sum") (rSum X.K):=jES hc
end
end L2
end
section
namespace L2
open PySem
section
variable {X:Cx}{tg iter elt:Expr}{ifs:List Expr}{sc:Scope}{pos:Pos}{wi:TI}{g:TG}{tt:TT}{te:TE}{m:List (Option Nat)}{Nc:List Str}
theorem jL4 (hc:X.calm=true)(hi:PI X tg iter wi)(hkind:sc.kind= .function)(hcell:∀ y∈sc.names,y.2≠ .cell)(hnames:∀ y∈sc.names,y.2= .local->sc.names.lookup y.1=some .local)
  (hfree:∀ y∈sc.names,y.2= .free->X.env.scope.names.lookup y.1=some .cell\/X.env.scope.names.lookup y.1=some .free) (hm:yO X sc Nc m)
  (hg:∀ cl C fp s H,PG (blk X sc cl C Nc fp s H) tg g) (ht:∀ cl C fp s H,PTs (blk X sc cl C Nc fp s H) ifs tt) (he:∀ cl C fp s H,PE (blk X sc cl C Nc fp s H) elt te)
  (hs:∀ x,foldedSetIterable iter X.env x=pure x) {fpos:Pos}{use:Option (Value->Sem Unit)}{R:Value->Shared->Prop}{pins:List (Addr×Obj)}{s:Shared}{σ:St}{H:Hp}{Q:VK}(I:Inv X pins σ H s) (h:tComp m wi g tt te σ H Q)
  (fin:∀ (D C:Addr) (H5:Hp) (z1:Shared) (r:Flow),(∃ mm,z1.heap.Ns C mm)->FpOk X pins H5 C->(∀ h',Heap.SameBut C z1.heap h'->Inv X pins σ H5 { z1 with heap:=h'})->Q (.ref D) H5->compPost (model X.prog X.w) X.A X.xe use R (.ref D) C (.ok r) z1):
  wpAny (model X.prog X.w) X.A (comprehension (.ListComp elt [⟨tg,iter,ifs,0⟩] sc pos) sc X.env fpos (newList []) false (eval iter X.env) use) R X.xe s:=
 jGU (tf:=fun _=>te) hc hi hkind hcell hnames hfree hm hg ht (fun cl C fp s H _ _ _ _=>he cl C fp s H) hs I h fin
theorem jMA {i:Nat}{x:Str}{pos' spos:Pos}(hN:X.N.Nodup)(hi':X.N[i]?=some x)(hx:Loc X.env.scope x)(hf:X.fn x=true\/X.env.scope.names.lookup x=some .local)(hsw:swapsWith (.ListComp elt [⟨tg,iter,ifs,0⟩] sc pos) (some (.Name x pos')) spos.line X.env=pure true)
  (hc:X.calm=true) (hi:PI X tg iter wi) (hkind:sc.kind= .function) (hcell:∀ y∈sc.names,y.2≠ .cell) (hnames:∀ y∈sc.names,y.2= .local->sc.names.lookup y.1=some .local)
  (hfree:∀ y∈sc.names,y.2= .free->X.env.scope.names.lookup y.1=some .cell\/X.env.scope.names.lookup y.1=some .free) (hm:yO X sc Nc m)
  (hg:∀ cl C fp s H,PG (blk X sc cl C Nc fp s H) tg g) (ht:∀ cl C fp s H,PTs (blk X sc cl C Nc fp s H) ifs tt) (he:∀ cl C fp s H,PE (blk X sc cl C Nc fp s H) elt te)
  (hs:∀ x,foldedSetIterable iter X.env x=pure x):PS X (.Assign [.Name x pos'] (.ListComp elt [⟨tg,iter,ifs,0⟩] sc pos) spos) (tAsg (tComp m wi g tt te) (kJ i)):=by
 intro pins s σ H D I h
 rw[exec_Assign_Name_used _ _ _ _ hsw]
 refine aa (dN (aa ?_))
 show wpAny _ _ (do let _ <- comprehension (.ListComp elt [⟨tg,iter,ifs,0⟩] sc pos) sc X.env _ (newList []) false (eval iter X.env) (some (assign (.Name x pos') X.env))) _ _ _
 refine aa (bJ (jL4 (R:=fun _ s'=>SP X pins D .next s') hc hi hkind hcell hnames hfree hm hg ht he hs ⟨I.ok,I.os,I.bare,I.base,I.loc,I.cell,I.free,I.freeC,I.pin,I.hok,I.len⟩ h ?_) (fun _ s' hq=>ae (ae hq)) fun _ _ e=>e)
 intro D' C H5 z1 r ⟨mm,hn⟩ fC sb q
 have I1:=sb _ (dL C z1.heap)
 refine dG (jC9 (v:= .ref D') I1 hN hi' hx rfl (fun s2 I2 ⟨a,sa,ha⟩=>?_) hf)
 obtain⟨f0,f1,f2,f3,f4,f5⟩:=fC
 have hCa:C≠a:=by
  rcases ha with rfl | ha
  ·exact f1
  ·exact(f4 _ _ ha).symm
 refine⟨mm,hn.sameBut sa hCa,fun h' sb2=>⟨_,H5,?_,q⟩⟩
 refine I2.call' (s':= { s2 with heap:=h'}) (ch:=[C]) rfl ?_ (I2.hok.sameBut sb2 f0) I2.bare (fun b hb=>?_)
 ·have ne:∀ {b:Addr},b∉ [C]->b≠C:=fun h e=>h (by rw[e]; exact bC.mpr rfl)
  refine⟨fun b o e n hf hx=>(sb2.2 b (ne hx)).trans e,fun b o e n hf hx=>⟨o.slots,(sb2.2 b (ne hx)).trans e⟩,fun b o e n hx=>n,fun b o e hx=>⟨o,(sb2.2 b (ne hx)).trans e⟩,fun b xs e=>e,fun b o u e=>e,fun b ps e=>⟨#[],by rw[fh]; exact e⟩⟩
 ·cases bC.mp hb
  exact⟨f3,f1,f4,f5⟩
end
section
variable {X:Cx}
structure SwC (e:Expr)(x:Str)(pos' spos:Pos)(X:Cx):Prop where
 h:swapsWith e (some (.Name x pos')) spos.line X.env=pure true
theorem jDR {i:Nat}{x:Str}{pos' spos pos:Pos}{tg iter elt:Expr}{ifs:List Expr}{sc:Scope}{wi:TI}{g:TG}{tt:TT}{te:TE}{m:List (Option Nat)}{Nc:List Str}(hN:X.N.Nodup)(hi':X.N[i]?=some x)(hx:Loc1 X x)(hsw:SwC (.ListComp elt [⟨tg,iter,ifs,0⟩] sc pos) x pos' spos X)
  (hc:X.calm=true) (hi:JI X tg iter wi) (hkind:sc.kind= .function) (hcell:∀ y∈sc.names,y.2≠ .cell) (hnames:∀ y∈sc.names,y.2= .local->sc.names.lookup y.1=some .local)
  (hfree:∀ y∈sc.names,y.2= .free->X.env.scope.names.lookup y.1=some .cell\/X.env.scope.names.lookup y.1=some .free) (hm:yO X sc Nc m)
  (hg:∀ cl C fp s H,JG (blk X sc cl C Nc fp s H) tg g) (ht:∀ cl C fp s H,JTs (blk X sc cl C Nc fp s H) ifs tt) (he:∀ cl C fp s H,JE (blk X sc cl C Nc fp s H) elt te)
  (hs:FoOk iter):JS X (.Assign [.Name x pos'] (.ListComp elt [⟨tg,iter,ifs,0⟩] sc pos) spos) (tAsg (tComp m wi g tt te) (kJ i)):=
 ⟨jMA hN hi' hx.a hx.b hsw.h hc hi.h hkind hcell hnames hfree hm (fun cl C fp s H=>(hg cl C fp s H).h) (fun cl C fp s H=>(ht cl C fp s H).h) (fun cl C fp s H=>(he cl C fp s H).h) (hs.h _)⟩
end
end L2
end
section
namespace L2
open PySem PySem.Spec PyProof.Rows
section
variable {prog:Program}{w:World}{A:Around}{E:Value->Shared->Prop}
end
section
variable {X:Cx}
end
section
variable {prog:Program}{w:World}{A:Around}{E:Value->Shared->Prop}{s:Shared}
end
end L2
namespace L2
open PySem PySem.Spec PyProof.Rows
section
variable {X:Cx}{x:Str}{C:Addr}{W:Hp->Prop}{e:Expr}{t:TA}{np cpos pos:Pos}
end
end L2
namespace L2
open PySem PySem.Spec PyProof.Rows
end L2
namespace L2
open PySem PySem.Spec PyProof.Rows
section
variable {M:Model}{A:Around}{E:Value->Shared->Prop}{h:Heap}{g:Array GenState}{d:Drawn}{tk:Nat}{os:OsState}
end
end L2
namespace L2
open PySem PySem.Spec PyProof.Rows
end L2
namespace L2
open PySem PySem.Spec PyProof.Rows
section
variable {X:Cx}{pins:List (Addr×Obj)}{σ:List (Option V)}{H H':Hp}{s:Shared}{h':Heap}
end
end L2
namespace L2
open PySem PySem.Spec PyProof.Rows
section
variable {X:Cx}{pins:List (Addr×Obj)}{σ:St}{H H':Hp}{s:Shared}{h2:Heap}{x C T T':Addr}
end
section
variable {X:Cx}{pins:List (Addr×Obj)}{σ:St}{H:Hp}{s:Shared}{x:Addr}
end
section
variable {M:Model}{A:Around}{E:Value->Shared->Prop}{s:Shared}{x C T:Addr}{Q:Unit->Shared->Prop}
end
section
variable {X:Cx}{y n g c:Str}{i j k:Nat}{f B C:Addr}{fd:FuncData}{ps:List Str}{sp:Sp}{e r:Expr}{es:List Expr}{t:TA}{te:Addr->TE}{yp gp cp ap np rp hp tp:Pos}
end
section
variable {prog:Program}{w:World}{A:Around}{E:Value->Shared->Prop}{s:Shared}
end
section
variable {X:Cx}{tg:Expr}
end
section
variable {X:Cx}{tg iter elt:Expr}{ifs:List Expr}{sc:Scope}{pos:Pos}{wi:TI}{g:TG}{tt:TT}{te:TE}{m:List (Option Nat)}{Nc:List Str}
end
section
variable {X:Cx}{k:Nat}{f a:Addr}{fd:FuncData}{ps:List Str}{sp:Addr->Sp}{x:Str}{p pos:Pos}{e:Expr}{es:List Expr}{t:TA}
end
section
variable {CX:CXT}{P:Program}{w:World}{K:W.Frag}{mg:Str->Option Value}{base:Heap}{N:List Str}{qual:Str}{sc:Scope}{f:Addr}{cdv:Value}{A:Around}{outer:List Env}{s:Shared}{H:Hp}{E:XK}{x:Str}
end
section
variable {X:Cx}{e:Expr}{es:List Expr}{t:TA}{a:Addr}{p pos:Pos}
end
section
variable {X:Cx}{y n g c:Str}{i j k:Nat}{f B C:Addr}{fd:FuncData}{ps:List Str}{sp:Sp}{e:Expr}{es:List Expr}{t:TA}{te t1:TEX}{yp gp cp ap np rp hp tp pos:Pos}
end
section
variable {X:Cx}{pins:List (Addr×Obj)}{σ:St}{H:Hp}{s:Shared}
end
section
variable {P:Program}{w:World}{K:W.Frag}{mg:Str->Option Value}{base:Heap}{N ps fs:List Str}{qual:Str}{scope:Scope}{f:Addr}{cd:Value}{cl:List (Str×Addr)}{A:Around}{outer:List Env}{s:Shared}{H:Hp}{us:List Value}{vs fv:List V}
end
section
variable {X:Cx}{pins:List (Addr×Obj)}{σ:St}{H:Hp}{s:Shared}{fs:List Str}{fv:List V}{is:List Nat}{scope:Scope}
end
section
variable {X:Cx}{k:Nat}{x q:Str}{args:Arguments}{body:List Stmt}{scope:Scope}{ps fs:List Str}{is:List Nat}{sp:List V->Sp}{p pos:Pos}{e:Expr}{es:List Expr}{t:TA}{j:Nat}
end
section
variable {X:Cx}{tg iter elt:Expr}{ifs:List Expr}{sc:Scope}{pos:Pos}{wi:TI}{g:TG}{tt:TT}{te:St->TE}{m:List (Option Nat)}{Nc:List Str}
end
open PySem.AutoSeq1 (wpAny_loadPart')
section
variable {prog:Program}{w:World}{A:Around}{E:Value->Shared->Prop}{s:Shared}
theorem jL1 {tp:Bool}{e it l:Addr}{i:Nat}{xs:Array Value}{x old:Value}{Q:Value->Shared->Prop}(ee:IsEnum s.heap e it i old)(g1:ItAt tp s.heap it l i)(o1:ObAt tp s.heap l xs)(hx:xs[i]?=some x)(ne:e≠it)
  (k:∀ h',IsEnumOut h' e it ((i:Int)+1) x s.heap.objs.size->ItAt tp h' it l (i+1)->h'.get? s.heap.objs.size=some { cls:= .type "tuple",data:= .seq #[.int i s.toks,x]} ->h'.objs.size=s.heap.objs.size+1->
   (∀ c o,c≠e->c≠it->s.heap.get? c=some o->h'.get? c=some o)->Q (.ref s.heap.objs.size) { s with heap:=h',toks:=s.toks+1}):
  wpAny (model prog w) A (Builtin.«enumerate.__next__» ⟨[.ref e],[]⟩) (fun fin s'=>∃ v,fin= .done (.ret v)/\Q v s') E s:=by
 obtain⟨hp,g,d,tk,os⟩:=s
 show wpAny (model prog w) A (field (.ref e) 2 >>= _) _ _ _
 refine aa (aU ee rfl (x:= .ref it) rfl (aa (next1 g1 o1 hx fun p1 r1 q1=>?_)))
 have q1:Heap.SameBut it hp p1:=q1
 have e1:IsEnum p1 e it i old:=(q1.2 e ne).trans ee
 show wpAny (model prog w) A (field (.ref e) 3 >>= _) _ _ ⟨p1,g,d,tk,os⟩
 refine aa (aU e1 rfl (x:=rawInt i) rfl (?_:wpAny (model prog w) A (field (.ref e) 4 >>= _) _ _ ⟨p1,g,d,tk,os⟩))
 refine aa (aU e1 rfl (x:= .none) rfl (?_:wpAny (model prog w) A (mkInt i >>= _) _ _ ⟨p1,g,d,tk,os⟩))
 refine aa (wpAny_mkInt (?_:wpAny (model prog w) A (setField (.ref e) 3 (rawInt ((i:Int)+1)) >>= _) _ _ ⟨p1,g,d,tk+1,os⟩))
 refine aa (aM e1 (by simp) fun p2 e2 q2=>?_)
 have q2:Heap.SameBut e p1 p2:=q2
 have e2:IsEnum p2 e it ((i:Int)+1) old:=e2
 show wpAny (model prog w) A (setField (.ref e) 4 .none >>= _) _ _ ⟨p2,g,d,tk+1,os⟩
 refine aa (aM e2 (by simp) fun p3 e3 q3=>?_)
 have q3:Heap.SameBut e p2 p3:=q3
 have e3:IsEnum p3 e it ((i:Int)+1) old:=e3
 show wpAny (model prog w) A (newTuple [.int i tk,x] >>= _) _ _ ⟨p3,g,d,tk+1,os⟩
 refine aa (wpAny_newTuple ?_)
 have e4:IsEnum (p3.push { cls:= .type "tuple",data:= .seq #[.int i tk,x]}) e it ((i:Int)+1) old:=ac _ e3
 have sz:p3.objs.size=hp.objs.size:=by rw[q3.1,q2.1,q1.1]
 have lt:e<hp.objs.size:=ag ee
 have t4:(p3.push { cls:= .type "tuple",data:= .seq #[.int i tk,x]}).get? hp.objs.size=some { cls:= .type "tuple",data:= .seq #[.int i tk,x]} :=by rw[<- sz]; exact ak _ rfl
 have z4:(p3.push { cls:= .type "tuple",data:= .seq #[.int i tk,x]}).objs.size=hp.objs.size+1:=by rw[aR,sz]
 have k4:∀ c o,c≠e->c≠it->hp.get? c=some o->(p3.push { cls:= .type "tuple",data:= .seq #[.int i tk,x]}).get? c=some o:=fun c o n1 n2 v=>ac _ (q3.extBut c o n1 (q2.extBut c o n1 (q1.extBut c o n2 v)))
 have r4:ItAt tp (p3.push { cls:= .type "tuple",data:= .seq #[.int i tk,x]}) it l (i+1):=((r1.but q2.extBut ne.symm).but q3.extBut ne.symm).at fun o v=>ac _ v
 generalize p3.push { cls:= .type "tuple",data:= .seq #[.int i tk,x]} =p4 at e4 t4 z4 k4 r4 ⊢
 show wpAny (model prog w) A (Builtin.SmallTypes.ownedTupleIsFree (.ref e) >>= _) _ _ ⟨p4,g,d,tk+1,os⟩
 rw[sz]
 refine aa (by
  unfold Builtin.SmallTypes.ownedTupleIsFree
  refine aa (aU e4 rfl (x:= .none) rfl (ae ?_))
  simp only [cX]
  refine aa (cI (aa (aU e4 rfl (x:=old) rfl (aa (aM e4 (by simp) fun p5 e5 q5=>?_)))))
  have q5:Heap.SameBut e p4 p5:=q5
  have e5:IsEnum p5 e it ((i:Int)+1) x:=e5
  refine aa (m:=Builtin.SmallTypes.ownedTupleHandOut (.ref e) (.ref hp.objs.size)) ?_
  unfold Builtin.SmallTypes.ownedTupleHandOut
  refine aa (aM e5 (by simp) fun p6 e6 q6=>?_)
  have q6:Heap.SameBut e p5 p6:=q6
  have e6:IsEnumOut p6 e it ((i:Int)+1) x hp.objs.size:=e6
  refine aM e6 (by simp) fun p7 e7 q7=>?_
  have q7:Heap.SameBut e p6 p7:=q7
  have e7:IsEnumOut p7 e it ((i:Int)+1) x hp.objs.size:=e7
  have up:∀ c o,c≠e->p4.get? c=some o->p7.get? c=some o:=fun c o n v=>q7.extBut _ _ n (q6.extBut _ _ n (q5.extBut _ _ n v))
  exact aa (eV (ae ⟨_,rfl,k p7 e7 (r4.at fun o v=>up _ o ne.symm v) (up _ _ (bu lt) t4) (by rw[q7.1,q6.1,q5.1,z4]) fun c o n1 n2 v=>up c o n1 (k4 c o n1 n2 v)⟩)))
theorem jH6 {tp:Bool}{e it l:Addr}{i:Nat}{xs:Array Value}{x old:Value}{Q:Option Value->Shared->Prop}(ee:IsEnum s.heap e it i old)(g1:ItAt tp s.heap it l i)(o1:ObAt tp s.heap l xs)(hx:xs[i]?=some x)(ne:e≠it)
  (k:∀ h',IsEnumOut h' e it ((i:Int)+1) x s.heap.objs.size->ItAt tp h' it l (i+1)->h'.get? s.heap.objs.size=some { cls:= .type "tuple",data:= .seq #[.int i s.toks,x]} ->h'.objs.size=s.heap.objs.size+1->
   (∀ c o,c≠e->c≠it->s.heap.get? c=some o->h'.get? c=some o)->Q (some (.ref s.heap.objs.size)) { s with heap:=h',toks:=s.toks+1}):
  wpAny (model prog w) A (pyNext (.ref e)) Q E s:=by
 have ty:s.TypeIs (.ref e) "enumerate" :=⟨_,ee,rfl⟩
 unfold pyNext
 exact aa (cE (aQ (name:=Str.ofString "__next__") ty F.slot_enumerate_next (aY F.slot_enumerate_next ty F.entry_enumerate_next (jL1 ee g1 o1 hx ne fun h' b1 b2 b3 b4 b5=>ae (k h' b1 b2 b3 b4 b5)) (F.args_enumerate_next_1 _))))
theorem jH7 {tp:Bool}{e it l:Addr}{i:Nat}{xs:Array Value}{old:Value}{Q:Option Value->Shared->Prop}(hh:A.handled=none)(ee:IsEnum s.heap e it i old)(g1:ItAt tp s.heap it l i)(o1:ObAt tp s.heap l xs)(hx:xs[i]?=none)
  (k:∀ h',(∀ c o,c≠e->c≠it->s.heap.get? c=some o->h'.get? c=some o)->Q none { s with heap:=h'}):wpAny (model prog w) A (pyNext (.ref e)) Q E s:=by
 have ty:s.TypeIs (.ref e) "enumerate" :=⟨_,ee,rfl⟩
 unfold pyNext
 refine aa (cE (aQ (name:=Str.ofString "__next__") ty F.slot_enumerate_next (aY F.slot_enumerate_next ty F.entry_enumerate_next (?_:wpAny (model prog w) _ (field (.ref e) 2 >>= _) _ _ _) (F.args_enumerate_next_1 _))))
 refine aa (aU ee rfl (x:= .ref it) rfl (aa (next0 hh g1 o1 hx fun h' x kp ⟨u,eu,cu⟩=>?_)))
 exact aa (cW (T:= "StopIteration") (b:=true) ⟨u,eu,cu⟩ eR (ae (k _ fun c o _ n v=>kp c o n v)))
end
set_option maxHeartbeats 2000000 in
theorem jIW (tp:Bool)(l:Addr)(xs:Array Value)(u:Obj):
  Meets (Builtin.«enumerate.__new__» ⟨[.type "enumerate", .ref l],[]⟩) (fun _ R s=>s.heap.get? l=some u/\ObAt tp s.heap l xs/\
   R (.ok (.ret (.ref (s.heap.push (yQ tp l)).objs.size))) { s with heap:=(s.heap.push (yQ tp l)).push { cls:= .type "enumerate",data:= .fields #[.none, .bool false, .ref s.heap.objs.size,rawInt 0, .none, .none]}}):=
 .of_wp fun prog w A R s h=>by
  obtain⟨hp,g,d,tk,os⟩:=s
  obtain⟨a0,a1,q⟩:=h
  have sub:=sub_enumerate
  have e1:ObAt tp (Shared.heap ⟨hp,g,d,tk,os⟩) l xs:=a1
  obtain⟨c,dct,dt,sl⟩:=u
  obtain⟨n,hc,hd⟩:∃ n,c=(if tp then .type "tuple" else .type "list")/\dt= .seq xs n:=by
   cases tp with
   | false=>obtain⟨o,e,hc,n,hd⟩:=a1; cases (a0.symm.trans e); exact⟨n,hc,hd⟩
   | true=>obtain⟨o,e,hc,n,hd⟩:=a1; cases (a0.symm.trans e); exact⟨n,hc,hd⟩
  subst hd
  cases tp with
  | false=>
   subst hc
   wp_walk using bB a0
   refine wpAny_stack_any fun _=>ae ?_
   split
   ·rename_i c _ _ _ _ _
    cases hcc:(c==Value.type "enumerate")
    all_goals (wp_walk using bB a0,jBO e1; exact⟨_,rfl,q⟩)
   ·wp_walk using bB a0,jBO e1
    exact⟨_,rfl,q⟩
  | true=>
   subst hc
   wp_walk using bB a0
   refine wpAny_stack_any fun _=>ae ?_
   split
   ·rename_i c _ _ _ _ _
    cases hcc:(c==Value.type "enumerate")
    all_goals (wp_walk using bB a0,jBO e1; exact⟨_,rfl,q⟩)
   ·wp_walk using bB a0,jBO e1
    exact⟨_,rfl,q⟩
theorem jL5 {prog:Program}{w:World}{A:Around}{E:Value->Shared->Prop}{s:Shared}{tp:Bool}{l:Addr}{xs:Array Value}{Q:Value->Shared->Prop}(a1:ObAt tp s.heap l xs)
  (k:∀ h',IsEnum h' (s.heap.objs.size+1) s.heap.objs.size 0 .none->ItAt tp h' s.heap.objs.size l 0->(∀ c o,s.heap.get? c=some o->h'.get? c=some o)->Q (.ref (s.heap.objs.size+1)) { s with heap:=h'}):
  wpAny (model prog w) A (call (.type "enumerate") [.ref l]) Q E s:=by
 obtain⟨u,eu⟩:∃ u,s.heap.get? l=some u:=by
  cases tp with
  | false=>obtain⟨o,e,_⟩:=a1; exact⟨o,e⟩
  | true=>obtain⟨o,e,_⟩:=a1; exact⟨o,e⟩
 refine callType_new F.called_enumerate (by decide) (F.typeCall_enumerate_1 _) (F.newCall_enumerate_1 _) (fun obj=>F.args_object_init_2 obj _) F.entry_enumerate_new (jIW tp l xs u) ⟨eu,a1,?_⟩
 have z1:(s.heap.push (yQ tp l)).objs.size=s.heap.objs.size+1:=aR ..
 have y2:IsEnum ((s.heap.push (yQ tp l)).push { cls:= .type "enumerate",data:= .fields #[.none, .bool false, .ref s.heap.objs.size,rawInt 0, .none, .none]}) (s.heap.push (yQ tp l)).objs.size s.heap.objs.size 0 .none:=ak _ rfl
 have y1:((s.heap.push (yQ tp l)).push { cls:= .type "enumerate",data:= .fields #[.none, .bool false, .ref s.heap.objs.size,rawInt 0, .none, .none]}).get? s.heap.objs.size=some (yQ tp l):=ac _ (ak _ (jBQ _ _))
 show _/\_
 rw[z1] at y2 ⊢
 exact⟨⟨_,y2,rfl⟩,k _ y2 (.new tp y1) fun c o e=>ac _ (ac _ e)⟩
section
variable {X:Cx}
def Ite (tp:Bool)(K:W.Frag)(l:Addr):It:=
 ⟨fun i H=>∃ xs x,Sq tp K H l xs/\xs[i]?=some x,
  fun i H v H'=>∃ T x,H T=none/\v= .ref T/\H'=upd H T (.tup [.int (i:Int),x])/\∀ xs,Sq tp K H l xs->xs[i]?=some x,
  fun i H=>∃ xs,Sq tp K H l xs/\xs.length<=i⟩
theorem jHS {P:Program}{w:World}{K:W.Frag}{elts:List Expr}{x1:Nat}{tps:Pos}(tp:Bool)(l e it:Addr)(ne:e≠it):
  Turn P w K (.Tuple elts x1 tps) (Ite tp K l) [e,it] e (fun i h=>(∃ old,IsEnum h e it ((i:Nat):Int) old)/\ItAt tp h it l i) where
 mem:=by simp
 obj:=fun i h st b hb=>by
  obtain⟨⟨old,he⟩,y1⟩:=st
  simp only [av,aS,ca] at hb
  rcases hb with rfl | rfl
  ·exact⟨_,he,fun v q=>by cases q⟩
  ·exact y1.obj
 keep:=fun i h h' st k=>by
  obtain⟨⟨old,he⟩,h1⟩:=st
  exact⟨⟨old,k e (by simp) _ he⟩,h1.at fun o z=>k it (by simp) o z⟩
 item:=by
  intro X hP hw hK hc i pins s σ H E I hf st hg
  subst hP hw hK
  obtain⟨xs,x,hq1,hx⟩:=hg
  obtain⟨⟨old,he⟩,h1⟩:=st
  obtain⟨its1,r1,p1,_⟩:=I.sq hq1
  obtain⟨u,hu,ru⟩:=r1.get hx
  refine jH6 he h1 p1 (x:=u) (by simpa using hu) ne fun h' a1 a2 a3 a4 a5=>?_
  refine⟨_,rfl,wpAny_letOwnedTupleGo_enum (s:= { s with heap:=h',toks:=s.toks+1}) a1 fun h'' b1 sb=>?_⟩
  have fresh:H s.heap.objs.size=none:=I.fresh
  have ntr:∀ b o,H b=some o->b∉([e,it]:List Addr):=fun b o z hb=>by
   have:=(hf b hb).1
   rw[z] at this; cases this
  have kp:∀ b o,b∉([e,it]:List Addr)->s.heap.get? b=some o->h''.get? b=some o:=fun b o hb z=>by
   simp only [av,aS,ca,fu] at hb
   exact(sb.2 b hb.1).trans (a5 b o hb.1 hb.2 z)
  have nz:s.heap.objs.size≠e:=bu (ag he)
  have hT2:h''.get? s.heap.objs.size=some { cls:= .type "tuple",data:= .seq #[.int i s.toks,u]} :=(sb.2 _ nz).trans a3
  have I2:Inv X pins σ (upd H s.heap.objs.size (.tup [.int (i:Int),x])) { s with heap:=h'',toks:=s.toks+1} :=by
   refine I.step (g':=s.gens) (d':=s.drawn) (t':=s.toks+1) (ch:=[e,it]) (fun b hb=>?_) (fun b o _ _ hb z _=>kp b o hb z) (fun b o _ _ hb z _=>⟨o.slots,kp b o hb z⟩)
    (fun b o _ z n=>by rw[j9 (aC (ag z))]; exact n) (fun b o hb z=>⟨o,kp b o hb z⟩) (fun b ws z=>by rw[j9 (jA z fresh)]; exact z) (fun b o ws z=>by rw[j9 (jA z fresh)]; exact z)
    (fun b ps z=>⟨#[],by rw[j9 (jA z fresh),z]; simp⟩) (fun m hm=>?_) (fun b o z=>?_) I.bare
   ·obtain⟨f0,f1,f2,f3,f4,f5⟩:=hf b hb
    exact⟨f3,f1,f4,f5⟩
   ·obtain⟨o,es,ep,ho,r⟩:=hm
    exact⟨o,es,ep,kp _ o (fun hb=>(hf _ hb).2.1 rfl) ho,r⟩
   ·by_cases hb:b=s.heap.objs.size
    ·subst hb
     rw[j4] at z
     cases z
     exact⟨by rw[cY]; show 2<=_; decide,[.int i s.toks,u], .cons ⟨_,rfl⟩ (.cons ru .nil),0,hT2⟩
    ·rw[j9 hb] at z
     refine(I.hok b o z).stay (fun c w hc q=>kp c w ?_ q) (fun c q=>by rw[j9 (jA q fresh)]; exact q) (fun c ws q=>by rw[j9 (jA q fresh)]; exact q)
     rcases hc with rfl | hc
     ·exact ntr _ _ z
     ·exact ntr _ _ hc
  refine⟨.ref s.heap.objs.size,_,I2,rfl,⟨_,x,fresh,rfl,rfl,fun xs' q1=>by rw[I.sq_inj q1 hq1]; exact hx⟩,⟨⟨_,b1⟩,?_⟩,fun b hb=>?_⟩
  ·exact a2.at fun o z=>(sb.2 it ne.symm).trans z
  ·rw[j9 (fun q=>by
    obtain⟨o,eo⟩:∃ o,s.heap.get? b=some o:=by
     simp only [av,aS,ca] at hb
     rcases hb with rfl | rfl
     ·exact⟨_,he⟩
     ·obtain⟨o,z,_⟩:=h1.obj; exact⟨o,z⟩
    exact absurd (ag eo) (by rw[q]; exact aV _))]
   exact(hf b hb).1
 done:=by
  intro X hP hw hK hc i pins s σ H E I hf st hg
  subst hP hw hK
  obtain⟨xs,hq1,hend⟩:=hg
  obtain⟨⟨old,he⟩,h1⟩:=st
  obtain⟨its1,r1,p1,_⟩:=I.sq hq1
  have e1:=r1.length
  refine jH7 (I.ok.hd hc) he h1 p1 (by simp; omega) fun h' kp=>⟨rfl,?_⟩
  have kp2:∀ b o,b∉([e,it]:List Addr)->s.heap.get? b=some o->h'.get? b=some o:=fun b o hb z=>by
   simp only [av,aS,ca,fu] at hb
   exact kp b o hb.1 hb.2 z
  have ntr:∀ b o,H b=some o->b∉([e,it]:List Addr):=fun b o z hb=>by
   have:=(hf b hb).1
   rw[z] at this; cases this
  refine I.step (g':=s.gens) (d':=s.drawn) (t':=s.toks) (ch:=[e,it]) (fun b hb=>?_) (fun b o _ _ hb z _=>kp2 b o hb z) (fun b o _ _ hb z _=>⟨o.slots,kp2 b o hb z⟩)
   (fun b o _ z n=>n) (fun b o hb z=>⟨o,kp2 b o hb z⟩) (fun b ws z=>z) (fun b o ws z=>z) (fun b ps z=>⟨#[],by rw[z]; simp⟩) (fun m hm=>?_) (fun b o z=>?_) I.bare
  ·obtain⟨f0,f1,f2,f3,f4,f5⟩:=hf b hb
   exact⟨f3,f1,f4,f5⟩
  ·obtain⟨o,es,ep,ho,r⟩:=hm
   exact⟨o,es,ep,kp2 _ o (fun hb=>(hf _ hb).2.1 rfl) ho,r⟩
  ·refine(I.hok b o z).stay (fun c w hc q=>kp2 c w ?_ q) (fun _ q=>q) fun _ _ q=>q
   rcases hc with rfl | hc
   ·exact ntr _ _ z
   ·exact ntr _ _ hc
 self:=fun _ _ _ _ _ st h=>wpAny_pyIter_enum st.1.choose_spec h
def iEnum (K:W.Frag)(ta:TA):TI:=fun σ H R=>ta σ H fun vs H1=>∃ tp l,vs=[.ref l]/\(∃ xs,Sq tp K H1 l xs)/\R (Ite tp K l) H1
theorem jMG {a:Expr}{ta:TA}{p pos:Pos}{elts:List Expr}{x1:Nat}{tp:Pos}(hg:Gl X "enumerate")(hm:X.mg "enumerate" =none)(ha:PA X [a] ta)(hv:bootBuiltins "enumerate" =some (.type "enumerate"):=by decide+kernel)
  (he:starEach [a] X.env=(false,eval a X.env)::starEach [] X.env:=by rfl) (hpl:(backTo pos (starEach [] X.env)).any (·.1)=false:=by rfl):
  PI X (.Tuple elts x1 tp) (.Call (.Name "enumerate" p) [a] [] pos) (iEnum X.K ta):=by
 intro pins s σ H R I h
 refine Call_ (jCH I hg hm hv (bt (thn (ha pos pins s σ H _ I h) fun us s1 ⟨vs,H1,I1,r1,q1⟩=>?_) he hpl))
 obtain⟨t1,l1,rfl,⟨xs,hq1⟩,q⟩:=q1
 obtain⟨u,rfl,ru⟩:=r1.one
 cases ru
 obtain⟨its1,_,p1,_⟩:=I1.sq hq1
 refine jL5 p1 fun h' a1 a2 kp=>?_
 have I2:Inv X pins σ H1 { s1 with heap:=h'} :=I1.kept (t':=s1.toks) kp
 refine wpAny_pyIter_enum a1 ⟨s1.heap.objs.size+1,[s1.heap.objs.size+1,s1.heap.objs.size],_,Ite t1 X.K l1,H1,rfl,I2,jHS t1 l1 _ _ (Nat.succ_ne_self _),⟨⟨_,a1⟩,a2⟩,fun b hb=>?_,q⟩
 have hge:s1.heap.objs.size<=b:=by
  simp only [av,aS,ca] at hb
  rcases hb with rfl | rfl
  ·exact cz _ 1
  ·exact af _
 exact I1.fpOk hge (I1.hok.fresh hge)
theorem jJ2 {a:Expr}{t:TA}{p pos:Pos}{elts:List Expr}{x1:Nat}{tp:Pos}(hg:Gl1 X "enumerate")(hm:X.mg "enumerate" =none)(ha:JA X [a] t)(he:starEach [a] X.env=(false,eval a X.env)::starEach [] X.env)(hv:bootBuiltins "enumerate" =some (.type "enumerate"):=by decide+kernel)
  (hpl:(backTo pos (starEach [] X.env)).any (·.1)=false:=by rfl):JI X (.Tuple elts x1 tp) (.Call (.Name "enumerate" p) [a] [] pos) (iEnum X.K t):=⟨jMG hg.a hm ha.h hv he hpl⟩
end
section
variable {K:W.Frag}{m:List (Option Nat)}{g:TG}{tt:TT}{te:TE}{σ:St}{H1:Hp}{Q:VK}
end
section
variable {κ:Type} [DecidableEq κ]
end
section
variable {P:Program}{w:World}{H:Hp}{h:Heap}{a:Addr}
end
section
variable {X:Cx}{pins:List (Addr×Obj)}{σ:St}{H:Hp}{s:Shared}{a:Addr}{y v:V}{u r:Value}{o:Option V}{A:Around}{E:Value->Shared->Prop}
end
section
variable {X:Cx}{pins:List (Addr×Obj)}{σ:St}{H:Hp}{s:Shared}{a:Addr}{kvs:List (Key×V)}{k:Key}{u:Value}{A:Around}{E:Value->Shared->Prop}
end
section
variable {X:Cx}{o i e value:Expr}{pos pos' tpos:Pos}{td ty tv:TE}
end
section
variable {X:Cx}{pos:Pos}
end
section
variable {X:Cx}{pins:List (Addr×Obj)}{σ:St}{H:Hp}{s:Shared}{a:Addr}{y d:V}{u r:Value}{o:Option V}{A:Around}{E:Value->Shared->Prop}
end
section
variable {X:Cx}{o e f:Expr}{apos cpos:Pos}{td ty tx:TE}
end
section
variable {X:Cx}{pins:List (Addr×Obj)}{σ:St}{H:Hp}{s:Shared}{a:Addr}{kvs:List (Key×V)}{A:Around}{E:Value->Shared->Prop}
end
section
variable {X:Cx}{pins:List (Addr×Obj)}{σ:St}{H:Hp}{s:Shared}{a:Addr}{y:V}{u:Value}{A:Around}{E:Value->Shared->Prop}
end
section
variable {κ:Type} [DecidableEq κ]
end
section
variable {prog:Program}{w:World}{A:Around}{E:Value->Shared->Prop}{s:Shared}{d:Addr}{kvs:List (Key×Value)}
end
section
variable {X:Cx}{o i e f value:Expr}{td ty tv tx:TE}{pos pos' apos cpos:Pos}
end
section
variable {prog:Program}{w:World}{A:Around}{E:Value->Shared->Prop}{s:Shared}
end
section
variable {prog:Program}{w:World}{K:Type} [DecidableEq K]{knd:KeyKind prog w K}{A:Around}{R:Result->Shared->Prop}{I:Addr}{fp wr:List Addr}{n:Nat}{P:Nat->Value->Prop}{St:Nat->Shared->Prop}
end
section
variable {prog:Program}{w:World}{K:Type} [DecidableEq K]{knd:KeyKind prog w K}{A:Around}{E:Value->Shared->Prop}{s:Shared}
end
section
variable {X:Cx}
end
section
variable {X:Cx}
end
section
variable {P:Program}{w:World}{K:W.Frag}{mg:Str->Option Value}{base:Heap}{N:List Str}{qual:Str}{sc:Scope}{f:Addr}{cd:Value}{cl:List (Str×Addr)}{A:Around}{outer:List Env}{s:Shared}{H:Hp}{x:Str}
end
section
variable {X:Cx}
def AtS (tp:Bool)(H:Hp)(a:Addr)(xs:List V):Prop:=match tp with
 | false=>H a=some (.lst xs)
 | true=>H a=some (.tup xs)
end
section
variable {K:W.Frag}{m:List (Option Nat)}{g:TG}{tt:TT}{te:TE}{σ:St}{H1:Hp}{Q:VK}
theorem jJO {a:Addr}{xs:List V}(hn:xs.length<sizeLine)(Pv:Addr->Nat->St->Hp->List V->Prop)(h0:∀ D,H1 D=none->Pv D 0 (blkσ m σ) (upd H1 D (.lst [])) [])
  (hD:∀ D i σ' H' zs,H1 D=none->Pv D i σ' H' zs->H' a=some (.lst xs)/\H' D=some (.lst zs)/\zs.length<=i)
  (hs:∀ D i σ' H' zs x,H1 D=none->xs[i]?=some x->Pv D i σ' H' zs->g x σ' H' fun σ2 H2=>tt σ2 H2 fun b H3=>if b=true then te σ2 H3 fun v H4=>H4 D=some (.lst zs)/\Pv D (i+1) σ2 (upd H4 D (.lst (zs++[v]))) (zs++[v]) else Pv D (i+1) σ2 H3 zs)
  (hd:∀ D σ' H' zs,H1 D=none->Pv D xs.length σ' H' zs->Q (.ref D) H'):CompW m g tt te σ Q (Itl K a) H1:=by
 intro D hDn
 refine⟨fun i k σ' H' zs=>k=xs.length - i/\i<=xs.length/\Pv D i σ' H' zs,⟨_,rfl,aP _,h0 D hDn⟩,?_⟩
 rintro i k σ' H' zs ⟨rfl,hi,p⟩
 obtain⟨s1,q1,q2⟩:=hD D i σ' H' zs hDn p
 refine⟨q1,by omega,?_⟩
 by_cases hlt:i<xs.length
 ·refine .inr ⟨⟨xs,xs[i],SqL.of s1,by simp [hlt]⟩,Pv D (i+1),fun σ2 H2 zs z=>⟨xs.length - (i+1),by omega,rfl,hlt,z⟩,fun v H'' y=>?_⟩
  obtain⟨e1,e2⟩:=y
  subst e1
  exact hs D i σ' _ zs v hDn (e2 xs (SqL.of s1)) p
 ·have e:i=xs.length:=by omega
  subst e
  exact .inl ⟨⟨xs,SqL.of s1,af _⟩,hd D σ' H' zs hDn p⟩
end
section
variable {X:Cx}{sc:Scope}{cl:List (Str×Addr)}{C:Addr}{Nc:List Str}{fp:List Addr}{s:Shared}{H:Hp}
theorem jGN {sc2:Scope}(h:(sc2.names.all fun y=>decide (y.2= .free->sc.names.lookup y.1=some .cell\/sc.names.lookup y.1=some .free))=true):
  ∀ y∈sc2.names,y.2= .free->(blk X sc cl C Nc fp s H).env.scope.names.lookup y.1=some .cell\/(blk X sc cl C Nc fp s H).env.scope.names.lookup y.1=some .free:=fun y hy hf=>by
 rcases az (bq.mp h y hy) hf with q | q
 ·exact .inl (jA3 (by decide) q)
 ·exact jA7 q
theorem jGG {tg a:Expr}{ta:TE}(hl:JE (blk X sc cl C Nc fp s H) a ta):JI (blk X sc cl C Nc fp s H) tg a (iTup X.K ta):=yN hl
variable {sc2:Scope}{cl2:List (Str×Addr)}{C2:Addr}{Nc2:List Str}{fp2:List Addr}{s2:Shared}{H2:Hp}
theorem jEO:IxR (blk (blk X sc cl C Nc fp s H) sc2 cl2 C2 Nc2 fp2 s2 H2) (rIxT X.K):=jK
end
section
variable {K:W.Frag}{m:List (Option Nat)}{g:TG}{tt:TT}{te:TE}{σ:St}{H:Hp}{Q:VK}
abbrev TupsK (H H':Hp):Prop:=∀ b xs,H b=some (.tup xs)->H' b=some (.tup xs)
structure ZOk (Z:Hp->List V->Nat->Prop):Prop where
 z0:∀ H,Z H [] 0
 mono:∀ H H' zs j,TupsK H H'->Z H zs j->Z H' zs j
 len:∀ H zs j,Z H zs j->zs.length<=j
theorem jE6 {H:Hp}{D:Addr}{zs:List V}(h:H D=some (.lst zs))(o:HO):TupsK H (upd H D o):=fun b xs hb=>by
 rw[j9 (fun e=>by rw[e,h] at hb; cases hb)]
 exact hb
def TurnZ (g:TG)(tt:TT)(te:TE)(σP:St->Prop)(Z:Hp->List V->Nat->Prop)(x:V)(j:Nat)(σ':St)(H':Hp)(zs:List V):Prop:=
 ∀ (R:St->V->Hp->Prop) (S:St->Hp->Prop),(∀ σ2 v H2,σP σ2->Ext H' H2->Z H2 (zs++[v]) (j+1)->R σ2 v H2)->(∀ σ2 H2,σP σ2->Ext H' H2->Z H2 zs (j+1)->S σ2 H2)->
  g x σ' H' fun σ2 H2=>tt σ2 H2 fun b H3=>if b=true then te σ2 H3 (R σ2) else S σ2 H3
theorem jJP {tp:Bool}{a:Addr}{xs:List V}(σP:St->Prop)(Z:Hp->List V->Nat->Prop)(zo:ZOk Z)(ha:AtS tp H a xs)(hn:xs.length<sizeLine)(h0:σP (blkσ m σ))
  (step:∀ j x σ' H' zs,xs[j]?=some x->σP σ'->Ext H H'->Z H' zs j->TurnZ g tt te σP Z x j σ' H' zs)
  (hd:∀ D H' zs,H' D=some (.lst zs)->Ext H H'->H D=none->Z H' zs xs.length->Q (.ref D) H'):CompW m g tt te σ Q (match tp with | false=>Itl K a | true=>Itt K a) H:=by
 have turn:∀ D j σ' H' zs x,H D=none->xs[j]?=some x->(σP σ'/\Ext H H'/\H' D=some (.lst zs)/\H D=none/\Z H' zs j)->g x σ' H' fun σ2 H2=>tt σ2 H2 fun b H3=>if b=true then te σ2 H3 fun v H4=>H4 D=some (.lst zs)/\(σP σ2/\Ext H (upd H4 D (.lst (zs++[v])))/\(upd H4 D (.lst (zs++[v]))) D=some (.lst (zs++[v]))/\H D=none/\Z (upd H4 D (.lst (zs++[v]))) (zs++[v]) (j+1)) else (σP σ2/\Ext H H3/\H3 D=some (.lst zs)/\H D=none/\Z H3 zs (j+1)):=by
  rintro D j σ' H' zs x hD hx ⟨p,e,h2,hn,hz⟩
  exact step j x σ' H' zs hx p e hz _ _ (fun σ2 v H2 p2 e2 z2=>⟨e2 _ _ h2,p2,(e.trans e2).updNew hn _,j4,hn,zo.mono _ _ _ _ (jE6 (e2 _ _ h2) _) z2⟩) fun σ2 H2 p2 e2 z2=>⟨p2,e.trans e2,e2 _ _ h2,hn,z2⟩
 cases tp with
 | false=>exact jJO (xs:=xs) hn (fun D j σ' H' zs=>σP σ'/\Ext H H'/\H' D=some (.lst zs)/\H D=none/\Z H' zs j) (fun D hD=>⟨h0,(Ext.refl _).new hD _,j4,hD,zo.z0 _⟩) (fun D j σ' H' zs hD ⟨_,e,h2,_,hz⟩=>⟨e _ _ ha,h2,zo.len _ _ _ hz⟩) turn fun D σ' H' zs hD ⟨_,e,h2,hn,hz⟩=>hd D H' zs h2 e hn hz
 | true=>exact jGS (xs:=xs) hn (fun D j σ' H' zs=>σP σ'/\Ext H H'/\H' D=some (.lst zs)/\H D=none/\Z H' zs j) (fun D hD=>⟨h0,(Ext.refl _).new hD _,j4,hD,zo.z0 _⟩) (fun D j σ' H' zs hD ⟨_,e,h2,_,hz⟩=>⟨e _ _ ha,h2,zo.len _ _ _ hz⟩) turn fun D σ' H' zs hD ⟨_,e,h2,hn,hz⟩=>hd D H' zs h2 e hn hz
theorem jA8 {a:Addr}{xs:List V}(σP:St->Prop)(Z:Hp->List V->Nat->Prop)(zo:ZOk Z)(ha:H a=some (.tup xs))(hn:xs.length<sizeLine)(h0:σP (blkσ m σ))
  (step:∀ j x σ' H' zs,xs[j]?=some x->σP σ'->Ext H H'->Z H' zs j->TurnZ g tt te σP Z x j σ' H' zs)
  (hd:∀ D H' zs,H' D=some (.lst zs)->Ext H H'->H D=none->Z H' zs xs.length->Q (.ref D) H'):CompW m g tt te σ Q (Itt K a) H:=jJP (tp:=true) σP Z zo ha hn h0 step hd
theorem jGT {a:Addr}{xs:List V}(σP:St->Prop)(Z:Hp->List V->Nat->Prop)(zo:ZOk Z)(ha:H a=some (.lst xs))(hn:xs.length<sizeLine)(h0:σP (blkσ m σ))
  (step:∀ j x σ' H' zs,xs[j]?=some x->σP σ'->Ext H H'->Z H' zs j->TurnZ g tt te σP Z x j σ' H' zs)
  (hd:∀ D H' zs,H' D=some (.lst zs)->Ext H H'->H D=none->Z H' zs xs.length->Q (.ref D) H'):CompW m g tt te σ Q (Itl K a) H:=jJP (tp:=false) σP Z zo ha hn h0 step hd
theorem jBI {n:Nat}(σP:St->Prop)(Z:Hp->List V->Nat->Prop)(zo:ZOk Z)(hn:n<sizeLine)(h0:σP (blkσ m σ))
  (step:∀ j σ' H' zs,j<n->σP σ'->Ext H H'->Z H' zs j->TurnZ g tt te σP Z (.int (0+j)) j σ' H' zs)
  (hd:∀ D H' zs,H' D=some (.lst zs)->Ext H H'->H D=none->Z H' zs n->Q (.ref D) H'):CompW m g tt te σ Q (Itr 0 n) H:=by
 refine jAT (lo:=0) (n:=n) hn (fun D j σ' H' zs=>σP σ'/\Ext H H'/\H' D=some (.lst zs)/\H D=none/\Z H' zs j) (fun D hD=>⟨h0,(Ext.refl _).new hD _,j4,hD,zo.z0 _⟩) (fun D j σ' H' zs hD hj ⟨_,e,h2,_,hz⟩=>⟨h2,zo.len _ _ _ hz⟩) ?_ fun D σ' H' zs hD ⟨_,e,h2,hn,hz⟩=>hd D H' zs h2 e hn hz
 rintro D j σ' H' zs hD hj ⟨p,e,h2,hn,hz⟩
 exact step j σ' H' zs hj p e hz _ _ (fun σ2 v H2 p2 e2 z2=>⟨e2 _ _ h2,p2,(e.trans e2).updNew hn _,j4,hn,zo.mono _ _ _ _ (jE6 (e2 _ _ h2) _) z2⟩) fun σ2 H2 p2 e2 z2=>⟨p2,e.trans e2,e2 _ _ h2,hn,z2⟩
end
def outZ {α:Type}(l:List α)(p:α->Bool)(f:α->V):Hp->List V->Nat->Prop:=fun _ zs j=>zs=((l.take j).filter p).map f
theorem outZ.ok {α:Type}(l:List α)(p:α->Bool)(f:α->V):ZOk (outZ l p f):=⟨fun _=>rfl,fun _ _ _ _ _ h=>h,fun _ zs j h=>by
 rw[show zs=_ from h,ab]
 exact aZ (bO _ _) (bY _ _)⟩
theorem outZ.yes {α:Type}{l:List α}{p:α->Bool}{f:α->V}{H H':Hp}{zs:List V}{j:Nat}{x:α}(h:outZ l p f H zs j)(hx:l[j]?=some x)(hp:p x=true):outZ l p f H' (zs++[f x]) (j+1):=by
 show _=_
 rw[bv,hx,cJ,aI,<- show zs=_ from h]
 simp [hp]
theorem outZ.no {α:Type}{l:List α}{p:α->Bool}{f:α->V}{H H':Hp}{zs:List V}{j:Nat}{x:α}(h:outZ l p f H zs j)(hx:l[j]?=some x)(hp:p x=false):outZ l p f H' zs (j+1):=by
 show _=_
 rw[bv,hx,cJ,aI,<- show zs=_ from h]
 simp [hp]
theorem outZ.all {α:Type}{l:List α}{p:α->Bool}{f:α->V}{H:Hp}{zs:List V}{n:Nat}(h:outZ l p f H zs n)(hn:l.length<=n):zs=(l.filter p).map f:=by
 rw[show zs=_ from h,bm hn]
def mapZ {α:Type}(l:List α)(f:α->V):Hp->List V->Nat->Prop:=fun _ zs j=>zs=(l.take j).map f
theorem mapZ.ok {α:Type}(l:List α)(f:α->V):ZOk (mapZ l f):=⟨fun _=>rfl,fun _ _ _ _ _ h=>h,fun _ zs j h=>by
 rw[show zs=_ from h,ab]
 exact bY _ _⟩
theorem mapZ.yes {α:Type}{l:List α}{f:α->V}{H H':Hp}{zs:List V}{j:Nat}{x:α}(h:mapZ l f H zs j)(hx:l[j]?=some x):mapZ l f H' (zs++[f x]) (j+1):=by
 show _=_
 rw[bv,hx,aI,<- show zs=_ from h]
 rfl
theorem mapZ.all {α:Type}{l:List α}{f:α->V}{H:Hp}{zs:List V}{n:Nat}(h:mapZ l f H zs n)(hn:l.length<=n):zs=l.map f:=by
 rw[show zs=_ from h,bm hn]
theorem int_at {l:List Int}{j:Nat}{x:V}(h:(l.map V.int)[j]?=some x):∃ z:Int,l[j]?=some z/\x=V.int z:=by
 rw[ay] at h
 cases hq:l[j]? with
 | none=>rw[hq] at h; cases h
 | some z=>rw[hq] at h; cases h; exact⟨z,rfl,rfl⟩
theorem jN1 {X:Cx}{e:Expr}{te:TE}{x:Str}{pos:Pos}{i:Nat}{pos':Pos}(hN:X.N.Nodup)(hi:X.N[i]?=some x)(hx:Loc1 X x)(he:JE X e te)(hs:swapsWith e (some (.Name x pos')) pos.line X.env=pure false):JS X (.Assign [.Name x pos'] e pos) (tAsg te (kJ i)):=⟨yK hN hi hx.a he.h hs hx.b⟩
section
variable {X:Cx}{sc:Scope}{cl:List (Str×Addr)}{C:Addr}{Nc:List Str}{fp:List Addr}{s:Shared}{H:Hp}
end
section
variable {X:Cx}{st:Stmt}{sts:List Stmt}{t:TS}{e:Expr}{tt:TT}
end
end L2
namespace L2
open PySem PySem.Spec PyProof.Rows
end L2
namespace L2
open PySem
end L2
namespace L2
open PySem PySem.Spec PyProof.Rows
section
variable {m:List (Option Nat)}{g:TG}{tt:TT}{te:TE}{σ:St}{H1:Hp}{Q:VK}
end
open PySem.AutoSeq1 (wpAny_loadPart')
section
variable {prog:Program}{w:World}{A:Around}{E:Value->Shared->Prop}{s:Shared}
end
def jCP (a:Int)(n:Nat):List Int:=(List.range n).map fun (i:Nat)=>a+(i:Int)
theorem jHQ {a:Int}{n:Nat}{acc:Array Value}(h:ItemsOf (fun i v=>∃ t,v=Value.int (a+(i:Int)*1) t) acc n):Vals ((jCP a n).map V.int) acc.toList:=by
 have key:∀ (l:List Value) (k:Nat),(∀ j v,l[j]?=some v->∃ t,v=Value.int (a+((k+j:Nat):Int)) t)->Vals ((range' k l.length).map fun (i:Nat)=>V.int (a+(i:Int))) l:=by
  intro l
  induction l with
  | nil=>intro k _; exact .nil
  | cons v l ih=>
   intro k hk
   rw[bg,List.range'_succ,ck]
   refine .cons ?_ (ih (k+1) fun j u hj=>?_)
   ·obtain⟨t,e⟩:=hk 0 v rfl
    exact⟨t,by simpa using e⟩
   ·obtain⟨t,e⟩:=hk (j+1) u (by simpa using hj)
    exact⟨t,by rw[e]; congr 2; omega⟩
 have:=key acc.toList 0 fun j v hj=>by
  obtain⟨t,e⟩:=h.2 j v (by simpa using hj)
  exact⟨t,by rw[e,dH,Nat.zero_add]⟩
 rw[aW,h.1,<- eS] at this
 unfold jCP
 rw[bc]
 exact this
section
variable {X:Cx}
theorem jET:kZ X (.type "range") (fun xs H Q=>∃ i j:Int,xs=[.int i, .int j]/\∀ p,H p=none->Q (.ref p) (upd H p (.rng i j))):=by
 intro pins s σ H xs us Q I r h
 obtain⟨i,j,rfl,q⟩:=h
 obtain⟨u,v,rfl,ru,rv⟩:=r.two
 obtain⟨t,rfl⟩:=ru
 obtain⟨t',rfl⟩:=rv
 refine call_range_2 ⟨.ref s.heap.objs.size,_,I.laid (o:= .rng i j) (fun b o e=>ac _ e) (af _) ?_,rfl,q _ I.fresh⟩
 exact⟨_,_,_,ak _ rfl⟩
def rSumT (K:W.Frag):List V->Hp->VK->Prop:=fun xs H Q=>∃ (p:Addr) (ns:List Int),xs=[.ref p]/\(SqT K H p (ns.map V.int))/\Q (.int ns.sum) H
theorem jER (hc:X.calm=true):kZ X (.builtin "sum") (rSumT X.K):=by
 intro pins s σ H xs us Q I r h
 obtain⟨p,ns,rfl,hq,q⟩:=h
 obtain⟨u,rfl,rx⟩:=r.one
 cases rx
 obtain⟨its,r',pl,hz⟩:=I.tuple hq
 have pl:s.heap.IsTuple p its.toArray:=pl
 have hlen:=r'.length
 rw[ab] at hlen
 refine call_sum_walkG (dy pl ?_)
 have hne:p≠s.heap.objs.size:=by
  obtain⟨o,ho,_⟩:=pl
  exact aC (ag ho)
 refine⟨s.heap.objs.size,_,_,_,_,_,fun i=>ns.getD i 0,rfl,Walks.tuple (by simpa using I.ok.hd hc) _ p hne its.toArray,⟨⟨_,ak _ rfl,rfl,rfl⟩,pl.push _⟩,(fun b hb=>?_),(fun i v hP=>?_),fun h' tk t' hk=>?_⟩
 ·show b<(s.heap.push _).objs.size
  rw[aR]
  obtain⟨o,ho,_⟩:=pl
  have:=ag ho
  rcases av.mp hb with rfl | hb
  ·exact aB _
  ·rcases av.mp hb with rfl | hb
   ·exact ai this
   ·cases hb
 ·have hi:its[i]?=some v:=by simpa using hP
  have hb:i<ns.length:=by
   rw[hlen]
   exact(ar.mp hi).1
  obtain⟨u,hu,ru⟩:=r'.get (i:=i) (x:= .int (ns[i])) (by simp [hb])
  rw[hi] at hu
  cases hu
  obtain⟨t,rfl⟩:=ru
  exact⟨t,by simp [List.getD,hb]⟩
 ·have e:preSum (fun i=>ns.getD i 0) its.toArray.size=ns.sum:=by
   rw[jB2,au,<- hlen,d8]
  rw[e]
  exact⟨.int _,H,I.kept (t':=tk) fun b o e=>hk b o (by
   intro z
   have z:b=s.heap.objs.size:=by simpa using z
   exact absurd (ag e) (by rw[z]; exact aV _)) (ac _ e),⟨_,rfl⟩,q⟩
variable {sc:Scope}{cl:List (Str×Addr)}{C:Addr}{Nc:List Str}{fp:List Addr}{s:Shared}{H:Hp}
end
section
variable {P:Program}{w:World}{K:W.Frag}{mg:Str->Option Value}{base:Heap}
end
section
variable {X:Cx}{Z:Shared->Hp->Prop}{zh:Hp->Prop}{k:Nat}{a:Addr}{sp:Sp}{x:Str}{p pos:Pos}{e:Expr}{es:List Expr}{t:TA}{j:Nat}
end
end L2
end
section
namespace TM
open PySem PyProof.Rows
class Od where
 kd:SortKind
 ky:Keyed->Int
 is:Keyed->Prop
abbrev key [Od]:Keyed->Int:=Od.ky
abbrev IsI [Od]:Keyed->Prop:=Od.is
class LtOk (prog:Program) (w:World) (A:Around) (s:Shared) [Od]:Prop where
 lt:∀ {E:Value->Shared->Prop}{st:SortSt}{x y:Keyed}{Q:Option Bool->SortSt->Prop},kindOf st=Od.kd->IsI x->IsI y->Q (some (decide (key x<key y))) st->wpS (model prog w) A E s (lt' x y) Q st
variable [Od]
def jN5:Bool->Keyed->Array Keyed->Nat->Nat->Nat->StateT SortSt Sem (Option Nat):=sortPriv% PySem.Builtin.gallop
theorem elP:(sortPriv% PySem.Builtin.elem)=elem':=rfl
theorem ltP:(sortPriv% PySem.Builtin.lt)=lt':=rfl
theorem ltAtP:(sortPriv% PySem.Builtin.ltAt)=ltAt':=rfl
theorem gallopP:(sortPriv% PySem.Builtin.gallop)=jN5:=rfl
section
variable {prog:Program}{w:World}{A:Around}{E:Value->Shared->Prop}{s:Shared}
end
section
variable {prog:Program}{w:World}{A:Around}{E:Value->Shared->Prop}{s:Shared} [LtOk prog w A s]
end
def jDF:Nat->StateT SortSt Sem Unit:=sortPriv% PySem.Builtin.setMinGallop
theorem setMinP:(sortPriv% PySem.Builtin.setMinGallop)=jDF:=rfl
def jKS:Array Keyed->Array Keyed->StateT SortSt Sem (Array Keyed):=sortPriv% PySem.Builtin.mergeLo
theorem mergeLoP:(sortPriv% PySem.Builtin.mergeLo)=jKS:=rfl
def jKT:Array Keyed->Array Keyed->StateT SortSt Sem (Array Keyed):=sortPriv% PySem.Builtin.mergeHi
theorem mergeHiP:(sortPriv% PySem.Builtin.mergeHi)=jKT:=rfl
section
variable {a b out:Array Keyed}{i j k:Nat}
end
section
variable {prog:Program}{w:World}{A:Around}{E:Value->Shared->Prop}{s:Shared} [LtOk prog w A s]
end
section
variable {prog:Program}{w:World}{A:Around}{E:Value->Shared->Prop}{s:Shared} [LtOk prog w A s]
end
section
variable {a b out:Array Keyed}{i j k:Nat}
end
section
variable {prog:Program}{w:World}{A:Around}{E:Value->Shared->Prop}{s:Shared} [LtOk prog w A s]
end
section
variable {prog:Program}{w:World}{A:Around}{E:Value->Shared->Prop}{s:Shared} [LtOk prog w A s]
end
section
variable {prog:Program}{w:World}{A:Around}{E:Value->Shared->Prop}{s:Shared} [LtOk prog w A s]{a₀:Array Keyed}{p:Array (Nat×Nat×Nat)}{F:Nat->Int}{lo:Nat}
end
section
variable {prog:Program}{w:World}{A:Around}{E:Value->Shared->Prop}{s:Shared} [LtOk prog w A s]
end
section
variable {xs ys:Array Keyed}
end
section
variable {prog:Program}{w:World}{A:Around}{E:Value->Shared->Prop}{s:Shared} [LtOk prog w A s]{a₀:Array Keyed}
end
end TM
end
section
namespace TM
open PySem PySem.Spec PyProof.Rows
section
variable {prog:Program}{w:World}{A:Around}{E:Value->Shared->Prop}{s:Shared}
end
end TM
end
section
namespace L2
open PySem PySem.Spec PyProof.Rows
section
variable {prog:Program}{w:World}{A:Around}{E:Value->Shared->Prop}{s:Shared}{d:Addr}{kvs:List (Key×Value)}
end
section
variable {X:Cx}{x:Str}{p pos kpos:Pos}{e:Expr}{es:List Expr}{kws:List Keyword}{t tk:TA}{te:TE}{nm:Option Str}{ks:List Str}{id:String}{r:List V->List V->Hp->VK->Prop}
end
section
variable {X:Cx}
theorem jGO {K:W.Frag}{tp:Bool}{l:Addr}{xs:List V}{g:TG}{tb:TS}{D:Ends}{σ:St}{H:Hp}(Pv:Nat->St->Hp->Prop)(h0:Pv 0 σ H)(hl:∀ i σ H,Pv i σ H->Sq tp K H l xs)
  (hs:∀ i x T σ H,xs[i]?=some x->H T=none->Pv i σ H->g (.ref T) σ (upd H T (.tup [.int (i:Int),x])) fun σ2 H2=>tb { D with nx:=Pv (i+1),ct:=Pv (i+1),bk:=D.nx} σ2 H2) (hd:∀ σ H,Pv xs.length σ H->D.nx σ H):
  ∃ W:Nat->Nat->St->Hp->Prop,(∃ m,W 0 m σ H)/\∀ i m σ H,W i m σ H->
   ((Ite tp K l).stop i H/\D.nx σ H)\/((Ite tp K l).go i H/\∃ N:St->Hp->Prop,(∀ σ' H',N σ' H'->∃ m',m'<m/\W (i+1) m' σ' H')/\∀ x H',(Ite tp K l).yld i H x H'->g x σ H' fun σ2 H2=>tb { D with nx:=N,ct:=N,bk:=D.nx} σ2 H2):=by
 refine⟨fun i m σ H=>m=xs.length - i/\i<=xs.length/\Pv i σ H,⟨_,rfl,aP _,h0⟩,?_⟩
 rintro i m σ H ⟨rfl,hi,p⟩
 have s1:=hl i σ H p
 by_cases hlt:i<xs.length
 ·refine .inr ⟨⟨xs,xs[i],s1,by simp [hlt]⟩,Pv (i+1),fun σ' H' p'=>⟨xs.length - (i+1),by omega,rfl,hlt,p'⟩,fun v H'' y=>?_⟩
  obtain⟨T,x,e1,e2,e3,e4⟩:=y
  subst e2 e3
  exact hs i x T σ _ (e4 xs s1) e1 p
 ·have e:i=xs.length:=by omega
  subst e
  exact .inl ⟨⟨xs,s1,af _⟩,hd σ H p⟩
end
def All2 {α β:Type}(R:α->β->Prop):List α->List β->Prop
 | [],[]=>True
 | a::as,b::bs=>R a b/\All2 R as bs
 | _,_=>False
section
variable {α β:Type}{R S:α->β->Prop}
theorem All2.len:∀ {as:List α}{bs:List β},All2 R as bs->as.length=bs.length
 | [],[],_=>rfl
 | _::_,_::_,h=>bo (· +1) (All2.len h.2)
theorem All2.imp (f:∀ a b,R a b->S a b):∀ {as:List α}{bs:List β},All2 R as bs->All2 S as bs
 | [],[],_=>trivial
 | _::_,_::_,h=>⟨f _ _ h.1,All2.imp f h.2⟩
theorem All2.get:∀ {as:List α}{bs:List β}{i:Nat}{b:β},All2 R as bs->bs[i]?=some b->∃ a,as[i]?=some a/\R a b
 | [],[],i,b,_,h=>by simp at h
 | a::_,_::_,0,b,h,e=>by
  simp at e
  subst e
  exact⟨a,rfl,h.1⟩
 | _::_,_::_,i+1,b,h,e=>by
  obtain⟨a,h1,h2⟩:=All2.get h.2 (i:=i) (b:=b) (by simpa using e)
  exact⟨a,by simpa using h1,h2⟩
theorem All2.get':∀ {as:List α}{bs:List β}{i:Nat}{a:α},All2 R as bs->as[i]?=some a->∃ b,bs[i]?=some b/\R a b
 | [],[],i,b,_,h=>by simp at h
 | a::_,b::_,0,x,h,e=>by
  simp at e
  subst e
  exact⟨b,rfl,h.1⟩
 | _::_,_::_,i+1,x,h,e=>by
  obtain⟨b,h1,h2⟩:=All2.get' h.2 (i:=i) (a:=x) (by simpa using e)
  exact⟨b,by simpa using h1,h2⟩
theorem All2.append:∀ {as as':List α}{bs bs':List β},All2 R as bs->All2 R as' bs'->All2 R (as++as') (bs++bs')
 | [],_,[],_,_,h=>h
 | _::_,_,_::_,_,h,k=>⟨h.1,All2.append h.2 k⟩
end
end L2
end
section
namespace L2
open PySem
section
variable {X:Cx}{tg iter elt:Expr}{ifs:List Expr}{sc:Scope}{pos:Pos}{wi:TI}{g:TG}{tt:TT}{te:TE}{m:List (Option Nat)}{Nc:List Str}
theorem jJQ (hc:X.calm=true)(hi:PI X tg iter wi)(hkind:sc.kind= .function)(hdis:∀ x,sc.names.lookup x=some .free->(x,NameKind.cell)∉sc.names)(hnames:∀ y∈sc.names,y.2= .local->sc.names.lookup y.1=some .local)
  (hfree:∀ y∈sc.names,y.2= .free->X.env.scope.names.lookup y.1=some .cell\/X.env.scope.names.lookup y.1=some .free) (hm:yO X sc Nc m)
  (hg:∀ cl C fp s H,PG (blkC X sc cl C Nc fp s H) tg g) (ht:∀ cl C fp s H,PTs (blkC X sc cl C Nc fp s H) ifs tt) (he:∀ cl C fp s H,PE (blkC X sc cl C Nc fp s H) elt te)
  (hs:∀ x,foldedSetIterable iter X.env x=pure x) {fpos:Pos}{use:Option (Value->Sem Unit)}{R:Value->Shared->Prop}{pins:List (Addr×Obj)}{s:Shared}{σ:St}{H:Hp}{Q:VK}(I:Inv X pins σ H s) (h:tComp m wi g tt te σ H Q)
  (fin:∀ (D C:Addr) (H5:Hp) (z1:Shared) (r:Flow),(∃ mm,z1.heap.Ns C mm)->FpOk X pins H5 C->(∀ h',Heap.SameBut C z1.heap h'->Inv X pins σ H5 { z1 with heap:=h'})->Q (.ref D) H5->compPost (model X.prog X.w) X.A X.xe use R (.ref D) C (.ok r) z1):
  wpAny (model X.prog X.w) X.A (comprehension (.ListComp elt [⟨tg,iter,ifs,0⟩] sc pos) sc X.env fpos (newList []) false (eval iter X.env) use) R X.xe s:=by
 have hcl:∀ y∈sc.names,y.2= .free->∃ c,X.env.cells.lookup y.1=some c:=fun y hy hf=>I.ok.has y.1 (hfree y hy hf)
 refine dP (use:=use) rfl hs (jJR hcl) hkind hnames (thn (hi pins s σ H _ I h) fun v s1 h1=>thn h1 fun itv s2 h2=>?_)
 obtain⟨it,fp,tn,J,H2,e,I2,T,st2,f2,hQ⟩:=h2
 subst e
 have hlt:∀ b∈fp,b<s2.heap.objs.size:=fun b hb=>by
  obtain⟨o,e,_⟩:=T.obj 0 _ st2 b hb
  exact ag e
 refine ba (jFJ ?_)
 have I3:Inv X pins σ (upd H2 s2.heap.objs.size (.lst [])) { s2 with heap:=s2.heap.push { cls:= .type "list",data:= .seq ([]:List Value).toArray}} :=I2.lnew (t':=s2.toks) .nil (aP _)
 obtain⟨W,⟨n0,w0⟩,turn⟩:=hQ s2.heap.objs.size I2.fresh
 have hD3:∀ b∈fp,b≠s2.heap.objs.size:=fun b hb=>aC (hlt b hb)
 have f3:∀ b∈fp,FpOk X pins (upd H2 s2.heap.objs.size (.lst [])) b:=fun b hb=>by
  obtain⟨a0,a1⟩:=f2 b hb
  exact⟨by rw[j9 (hD3 b hb)]; exact a0,a1⟩
 generalize hE:({ s2 with heap:=s2.heap.push { cls:= .type "list",data:= .seq ([]:List Value).toArray}} :Shared)=s3 at I3 ⊢
 generalize hH3:upd H2 s2.heap.objs.size (.lst [])=H3 at I3 f3 w0
 have hsz3:s3.heap.objs.size=s2.heap.objs.size+1:=by rw[<- hE]; exact aR _ _
 have I4:=jHJ (fp:=fp) I3 hkind hdis hfree hm f3 (fun b hb=>show b<s3.heap.objs.size by rw[hsz3]; exact ai (hlt b hb))
 have old:∀ b o,s3.heap.get? b=some o->(pushCells (s3.heap.push { cls:= .type "dict",data:= .dict #[]}) sc.names).get? b=some o:=fun b o e=>eG _ _ b o (ac _ e)
 have old2:∀ b o,s2.heap.get? b=some o->(pushCells (s3.heap.push { cls:= .type "dict",data:= .dict #[]}) sc.names).get? b=some o:=fun b o e=>old b o (by rw[<- hE]; exact ac _ e)
 have st4:tn 0 (pushCells (s3.heap.push { cls:= .type "dict",data:= .dict #[]}) sc.names):=T.keep _ _ _ st2 fun b hb o e=>old2 b o e
 clear old old2
 generalize hcs:cellsFrom (s3.heap.objs.size+1) sc.names (jY X.env.cells sc.names [])=cs at I4 ⊢
 generalize hh1:pushCells (s3.heap.push { cls:= .type "dict",data:= .dict #[]}) sc.names=h₁ at I4 st4 ⊢
 have loop:codeAny (model X.prog X.w) X.A (.compLoop (.ListComp elt [⟨tg,iter,ifs,0⟩] sc pos) 0 (.ref it) (.ref s2.heap.objs.size) (compEnvC sc cs s3.heap.objs.size X.env))
   (compPost (model X.prog X.w) X.A X.xe use R (.ref s2.heap.objs.size) s3.heap.objs.size) { s3 with heap:=h₁} :=by
  generalize hX:blkC X sc cs s3.heap.objs.size Nc fp s3 H3=Xb at I4
  have eP:Xb.prog=X.prog:=by rw[<- hX]; rfl
  have ew:Xb.w=X.w:=by rw[<- hX]; rfl
  have eK:Xb.K=X.K:=by rw[<- hX]; rfl
  have eA:Xb.A=X.A:=by rw[<- hX]; rfl
  have ec:Xb.calm=true:=by rw[<- hX]; exact hc
  have ee:Xb.env=compEnvC sc cs s3.heap.objs.size X.env:=by rw[<- hX]; rfl
  have ex:Xb.xe=fun _ _=>False:=by rw[<- hX]; rfl
  have hgb:PG Xb tg g:=by rw[<- hX]; exact hg _ _ _ _ _
  have htb:PTs Xb ifs tt:=by rw[<- hX]; exact ht _ _ _ _ _
  have heb:PE Xb elt te:=by rw[<- hX]; exact he _ _ _ _ _
  have stat:∀ {H':Hp},(∀ b∈fp,H' b=none)->∀ b∈fp,FpOk Xb [] H' b:=fun {H'} hn b hb=>by
   obtain⟨o,eo,_⟩:=T.obj _ _ st4 b hb
   have q:=I4.ok.exf b (by rw[<- hX]; exact hb)
   exact⟨hn b hb,q.1,I4.ok.exfs b (by rw[<- hX]; exact hb), .inl (by rw[<- hX]; exact hb),q.2,fun p hp=>absurd hp (by rw[<- hX]; simp [blkC])⟩
  have fr4:∀ b∈fp,H3 b=none:=fun b hb=>(f3 b hb).1
  unfold PG at hgb
  unfold PTs at htb
  unfold PE at heb
  rw[eP,ew,eA,ee,ex] at hgb htb heb
  refine jD6 (fun n z=>∃ i σ' H' ys,Inv Xb [] σ' H' z/\tn i z.heap/\(∀ b∈fp,H' b=none)/\W i n σ' H' ys) ?_ n0 ⟨0,_,H3,[],I4,st4,fr4,w0⟩
  rintro n z ⟨i,σ5,H5,ys,I5,st5,fr5,w5⟩
  obtain⟨hD,hlen,way⟩:=turn i n σ5 H5 ys w5
  rcases way with ⟨stop,q⟩ | ⟨go,N,hN,step⟩
  ·have RR:=T.done Xb eP ew eK ec i [] z σ5 H5 (fun _ _=>False) I5 (stat fr5) st5 stop
   rw[eA] at RR
   refine thn RR fun r z1 ⟨hr,I6⟩=>?_
   subst hr
   obtain⟨mm,hn6,_⟩:=I6.loc
   rw[ee] at hn6
   have u6:Un (frs X.stack) fp H3 H5 s3.heap z1.heap:=by
    have:=I6.base
    rw[<- hX] at this
    exact this
   have fC:H5 s3.heap.objs.size=none:=by
    have:=I6.free
    rw[ee] at this
    exact this
   have hok6:HOk X.prog X.w H5 z1.heap:=by
    have:=I6.hok
    rw[eP,ew] at this
    exact this
   have os6:z1.os=s3.os:=by
    have:=I6.os
    rw[<- hX] at this
    exact this
   refine fin s2.heap.objs.size s3.heap.objs.size H5 z1 .next ⟨mm,hn6⟩ (I3.fpOk (af _) fC) (fun h' sb=>?_) q
   refine I3.call' (s':= { z1 with heap:=h'}) (ch:=fp) os6 (u6.sameBut sb (af _)) (hok6.sameBut sb fC) I6.bare (fun b hb=>?_)
   obtain⟨a0,a1,a2,a3,a4,a5⟩:=f3 b hb
   exact⟨a3,a1,a4,a5⟩
  ·have RR:=T.item Xb eP ew eK ec i [] z σ5 H5 (fun _ _=>False) I5 (stat fr5) st5 go
   rw[eA] at RR
   refine thn RR fun r z1 ⟨u,hr,h6⟩=>?_
   subst hr
   refine thn h6 fun _ z2 ⟨x,H7,I7,r7,y7,st7,fr7⟩=>?_
   have I7':=I7.pinned (stat fr7) (T.obj _ _ st7)
   refine thn (hgb _ z2 σ5 H7 x u _ I7' r7 (step x H7 y7)) fun _ z3 ⟨σ8,H8,I8,q8⟩=>?_
   refine thn (htb _ z3 σ8 H8 _ I8 q8) fun ok z4 ⟨H9,I9,q9⟩=>?_
   have again:∀ {σ7:St}{Hz:Hp}{zz:Shared}{yy:List V}{n':Nat},Inv Xb ([]++jD1 fp z2.heap) σ7 Hz zz->n'<n->W (i+1) n' σ7 Hz yy->∃ k,k<n/\∃ i σ' H' ys,Inv Xb [] σ' H' zz/\tn i zz.heap/\(∀ b∈fp,H' b=none)/\W i k σ' H' ys:=fun {σ7 Hz zz yy n'} Iz hn wz=>by
    refine⟨n',hn,i+1,σ7,Hz,yy,Iz.unpinned,T.keep _ _ _ st7 fun b hb o e=>(Iz.pin (b,o) (aH _ (aH _ (jAA hb e)))).1,fun b hb=>?_,wz⟩
    obtain⟨o,e,d⟩:=T.obj _ _ st7 b hb
    exact(Iz.pin (b,o) (aH _ (aH _ (jAA hb e)))).2.1
   cases ok with
   | false=>
    obtain⟨n',hn,w9⟩:=hN _ _ _ (show N σ8 H9 ys from q9)
    exact again I9 hn w9
   | true=>
    refine thn (heb _ z4 σ8 H9 _ I9 q9) fun xv z5 ⟨vv,H10,I10,r10,hD10,n10⟩=>?_
    obtain⟨n',hn,w10⟩:=hN _ _ _ n10
    have RR:=jAF (X:=Xb) _ z5 σ8 H10 (.ref s2.heap.objs.size) [vv] (.ref s2.heap.objs.size) [xv] (fun _ H'=>H'=upd H10 s2.heap.objs.size (.lst (ys++[vv]))) I10 rfl (.cons r10 .nil) ⟨_,ys,vv,rfl,rfl,hD10,hlen,rfl⟩
    rw[eP,ew,eA,ex] at RR
    refine thn RR fun _ z6 ⟨_,H11,I11,_,e11⟩=>?_
    subst e11
    exact again I11 hn w10
 exact codeAny_compStart_list loop (T.self _ 0 _ _ _ st4 loop)
theorem jKH {i:Nat}{x:Str}{pos' spos:Pos}(hN:X.N.Nodup)(hi':X.N[i]?=some x)(hx:Loc X.env.scope x)(hf:X.fn x=true\/X.env.scope.names.lookup x=some .local)(hsw:swapsWith (.ListComp elt [⟨tg,iter,ifs,0⟩] sc pos) (some (.Name x pos')) spos.line X.env=pure true)
  (hc:X.calm=true) (hi:PI X tg iter wi) (hkind:sc.kind= .function) (hdis:∀ x,sc.names.lookup x=some .free->(x,NameKind.cell)∉sc.names) (hnames:∀ y∈sc.names,y.2= .local->sc.names.lookup y.1=some .local)
  (hfree:∀ y∈sc.names,y.2= .free->X.env.scope.names.lookup y.1=some .cell\/X.env.scope.names.lookup y.1=some .free) (hm:yO X sc Nc m)
  (hg:∀ cl C fp s H,PG (blkC X sc cl C Nc fp s H) tg g) (ht:∀ cl C fp s H,PTs (blkC X sc cl C Nc fp s H) ifs tt) (he:∀ cl C fp s H,PE (blkC X sc cl C Nc fp s H) elt te)
  (hs:∀ x,foldedSetIterable iter X.env x=pure x):PS X (.Assign [.Name x pos'] (.ListComp elt [⟨tg,iter,ifs,0⟩] sc pos) spos) (tAsg (tComp m wi g tt te) (kJ i)):=by
 intro pins s σ H D I h
 rw[exec_Assign_Name_used _ _ _ _ hsw]
 refine aa (dN (aa ?_))
 show wpAny _ _ (do let _ <- comprehension (.ListComp elt [⟨tg,iter,ifs,0⟩] sc pos) sc X.env _ (newList []) false (eval iter X.env) (some (assign (.Name x pos') X.env))) _ _ _
 refine aa (bJ (jJQ (R:=fun _ s'=>SP X pins D .next s') hc hi hkind hdis hnames hfree hm hg ht he hs ⟨I.ok,I.os,I.bare,I.base,I.loc,I.cell,I.free,I.freeC,I.pin,I.hok,I.len⟩ h ?_) (fun _ s' hq=>ae (ae hq)) fun _ _ e=>e)
 intro D' C H5 z1 r ⟨mm,hn⟩ fC sb q
 have I1:=sb _ (dL C z1.heap)
 refine dG (jC9 (v:= .ref D') I1 hN hi' hx rfl (fun s2 I2 ⟨a,sa,ha⟩=>?_) hf)
 obtain⟨f0,f1,f2,f3,f4,f5⟩:=fC
 have hCa:C≠a:=by
  rcases ha with rfl | ha
  ·exact f1
  ·exact(f4 _ _ ha).symm
 refine⟨mm,hn.sameBut sa hCa,fun h' sb2=>⟨_,H5,?_,q⟩⟩
 refine I2.call' (s':= { s2 with heap:=h'}) (ch:=[C]) rfl ?_ (I2.hok.sameBut sb2 f0) I2.bare (fun b hb=>?_)
 ·have ne:∀ {b:Addr},b∉ [C]->b≠C:=fun h e=>h (by rw[e]; exact bC.mpr rfl)
  refine⟨fun b o e n hf hx=>(sb2.2 b (ne hx)).trans e,fun b o e n hf hx=>⟨o.slots,(sb2.2 b (ne hx)).trans e⟩,fun b o e n hx=>n,fun b o e hx=>⟨o,(sb2.2 b (ne hx)).trans e⟩,fun b xs e=>e,fun b o u e=>e,fun b ps e=>⟨#[],by rw[fh]; exact e⟩⟩
 ·cases bC.mp hb
  exact⟨f3,f1,f4,f5⟩
end
section
variable {X:Cx}
theorem jGE {i:Nat}{x:Str}{pos' spos pos:Pos}{tg iter elt:Expr}{ifs:List Expr}{sc:Scope}{wi:TI}{g:TG}{tt:TT}{te:TE}{m:List (Option Nat)}{Nc:List Str}(hN:X.N.Nodup)(hi':X.N[i]?=some x)(hx:Loc1 X x)(hsw:SwC (.ListComp elt [⟨tg,iter,ifs,0⟩] sc pos) x pos' spos X)
  (hc:X.calm=true) (hi:JI X tg iter wi) (hkind:sc.kind= .function) (hdis:(sc.names.all fun y=>decide (y.2= .cell->sc.names.lookup y.1=some .cell))=true) (hnames:∀ y∈sc.names,y.2= .local->sc.names.lookup y.1=some .local)
  (hfree:∀ y∈sc.names,y.2= .free->X.env.scope.names.lookup y.1=some .cell\/X.env.scope.names.lookup y.1=some .free) (hm:yO X sc Nc m)
  (hg:∀ cl C fp s H,JG (blkC X sc cl C Nc fp s H) tg g) (ht:∀ cl C fp s H,JTs (blkC X sc cl C Nc fp s H) ifs tt) (he:∀ cl C fp s H,JE (blkC X sc cl C Nc fp s H) elt te)
  (hs:FoOk iter):JS X (.Assign [.Name x pos'] (.ListComp elt [⟨tg,iter,ifs,0⟩] sc pos) spos) (tAsg (tComp m wi g tt te) (kJ i)):=
 ⟨jKH hN hi' hx.a hx.b hsw.h hc hi.h hkind (jOO hdis) hnames hfree hm (fun cl C fp s H=>(hg cl C fp s H).h) (fun cl C fp s H=>(ht cl C fp s H).h) (fun cl C fp s H=>(he cl C fp s H).h) (hs.h _)⟩
end
end L2
end
section
namespace L2
open PySem PySem.Spec PyProof.Rows
section
variable {X:Cx}
def jM6:V->List V->Hp->VK->Prop:=fun x vs H Q=>∃ (p:Addr) (ns:List Int) (i:Int) (k:Nat),x= .ref p/\vs=[.int i]/\H p=some (.lst (ns.map V.int))/\ns.length<=1000/\ns[k]?=some i/\(∀ m,m<k->ns[m]?≠some i)/\Q (.int (k:Int)) H
theorem jIU:MtM X "list.index" jM6:=by
 intro pins s σ H x vs v us Q I rx rv h
 obtain⟨p,ns,i,k,rfl,rfl,hp,hs,hk,hno,q⟩:=h
 cases rx
 obtain⟨u,rfl,ru⟩:=rv.one
 obtain⟨z,its,n,r,_,e0⟩:=I.lstM hp
 have hl:=r.length
 rw[ab] at hl
 have hkl:k<its.length:=by rw[<- hl]; exact(ar.mp hk).1
 have at_:∀ m (hm:m<its.length),∃ (z:Int) (t:Tok),ns[m]?=some z/\its[m]= .int z t:=fun m hm=>by
  have hz:(ns.map V.int)[m]?=some (.int ns[m]):=by simp [show m<ns.length by omega]
  obtain⟨w,hw,t,rw'⟩:=r.get hz
  refine⟨ns[m],t,by simp [show m<ns.length by omega],?_⟩
  rw[aL hm] at hw
  rw[aN hw]
  exact rw'
 refine ej F.slot_list_index ⟨_,e0,rfl⟩ F.entry_list_index (F.args_list_index_2 _ _) (SeqAt.list_indexAt p its.toArray n none #[] u (eqU (.int i)) k (by simpa using hkl) (by omega) ?_ fun m hm hmk=>?_) ⟨e0,fun w hw=>jAS ru rfl r ?_ w (by simpa using hw),?_⟩
 ·obtain⟨z,t,h1,h2⟩:=at_ k hkl
  rw[hk] at h1
  cases h1
  show eqU (.int i) its[k]=true
  rw[h2]
  show (i==i)=true
  simp
 ·have hm':m<its.length:=by simpa using hm
  obtain⟨z,t,h1,h2⟩:=at_ m hm'
  show eqU (.int i) its[m]=false
  rw[h2]
  show (z==i)=false
  rw[bx]
  exact fun e=>hno m hmk (by rw[h1,e])
 ·rw[bq]
  intro x hx
  obtain⟨z,_,rfl⟩:=bw.mp hx
  rfl
 ·exact⟨.int _,H,I.tok _,⟨s.toks,rfl⟩,q⟩
end
end L2
end
section
namespace L2
open PySem
end L2
end
section
end
section
namespace Eo
open PySem L2
def Keep (H H':Hp)(p:Addr):Prop:=∀ b o,H b=some o->b≠p->H' b=some o
structure Txt (mg:Str->Option Value):Prop where
 len:mg "len" =none
 range:mg "range" =none
 tuple:mg "tuple" =none
 sorted:mg "sorted" =none
 set:mg "set" =none
 list:mg "list" =none
 int:mg "int" =none
 isinstance:mg "isinstance" =none
 bool:mg "bool" =none
 str:mg "str" =none
 all:mg "all" =none
 zip:mg "zip" =none
 max:mg "max" =none
 min:mg "min" =none
 any:mg "any" =none
 abs:mg "abs" =none
 sum:mg "sum" =none
 enumerate:mg "enumerate" =none
 dict:mg "dict" =none
structure Can (P:Program)(w:World)(K:W.Frag)(mg:Str->Option Value)(base:Heap)(x:Str)(k:Nat)(f:Addr)(fd:FuncData)(ps:List Str)(sp:Sp):Prop where
 G:FnOk P w K mg base CX0 k f fd ps sp
 m:mg x=some (.ref f)
 kp:keepIn K (.ref f)=true
 b:Binds K fd ps []
theorem Can.pe {X:Cx}{x:Str}{k:Nat}{f:Addr}{fd:FuncData}{ps:List Str}{sp:Sp}{e:Expr}{es:List Expr}{t:TA}{p pos:Pos}(C:Can X.prog X.w X.K X.mg X.base x k f fd ps sp)(hr:Room k X.A)(hg:Gl X x)(ha:PA X (e::es) t)(hdb:(x==("__debug__" :Str))=false:=by decide)
  (he:starEach (e::es) X.env=(false,eval e X.env)::starEach es X.env:=by rfl) (hpl:(backTo pos (starEach es X.env)).any (·.1)=false:=by rfl):PE X (.Call (.Name x p) (e::es) [] pos) (tCall sp [] E0 t):=
 jML C.G hr hg C.m C.kp C.b .nil pass0 ha hdb he hpl
theorem Can.je {X:Cx}{x:Str}{k:Nat}{f:Addr}{fd:FuncData}{ps:List Str}{sp:Sp}{e:Expr}{es:List Expr}{t:TA}{p pos:Pos}(C:Can X.prog X.w X.K X.mg X.base x k f fd ps sp)(hr:Room k X.A)(hg:Gl1 X x)(ha:JA X (e::es) t)(he:starEach (e::es) X.env=(false,eval e X.env)::starEach es X.env)
  (hdb:(x==("__debug__" :Str))=false:=by decide) (hpl:(backTo pos (starEach es X.env)).any (·.1)=false:=by rfl):JE X (.Call (.Name x p) (e::es) [] pos) (tCall sp [] E0 t):=
 ⟨C.pe hr hg.a ha.h hdb he hpl⟩
section
variable {P:Program}{w:World}{K:W.Frag}{mg:Str->Option Value}{base:Heap}
def jEB (K:W.Frag):Sp:=fun vs H Q _=>∃ (a:Addr) (ns:List Int) (k:Int),vs=[.ref a, .int k]/\SqL K H a (ns.map V.int)/\0<=k/\∀ c:Int,Q (.int c) H
theorem jNF:FnScope ["script","k"] ["script","k"] (j7 sCell):=⟨rfl,rfl,rfl,by decide+kernel,rfl,by decide+kernel,by decide+kernel⟩
theorem jMV {f:Addr}{fd:FuncData}(F:Fun K "_law_cell_at" "_law_cell_at" sCell f fd)(T:Txt mg):FnOk P w K mg base CX0 1 f fd ["script","k"] (jEB K):=by
 refine F.ok jNF (fun vs H Q E h=>?_) (fun cdv A outer s H vs Q E hr h=>?_)
 ·obtain⟨a,ns,k,rfl,_⟩:=h
  rfl
 ·obtain⟨a,ns,k,rfl,hS,h0,q⟩:=h
  refine⟨_,kP (ps_if (jCC op_lt (pv 1) (jDK jA1 (by rfl) T.len PySem.boot_len (jW (pv 0) y8)) (jO _)) (jAK (jBW (pe_ix jQ (pv 0) (pv 1) (fun _ _=>rfl)))) jDI) (jAK (jBW jN)),?_⟩
  refine⟨_,rfl,_,rfl,a,_,rfl, .inl hS,_,_,rfl,rfl,_,rfl,?_⟩
  refine ite2 (fun hlt=>?_) (fun _=>?_)
  ·have hlt:k<((ns.map V.int).length:Int):=az hlt
   have hk:k.toNat<ns.length:=by rw[ab] at hlt; omega
   refine⟨_,rfl,_,rfl,a,_,k, .int (ns[k.toNat]),rfl,rfl,hS,?_,q _⟩
   have e:(k.toNat:Int)=k:=by omega
   have q2:=y0 (xs:=ns.map V.int) (j:=k.toNat) (v:=V.int ns[k.toNat]) (by simp [hk])
   rw[e] at q2
   exact q2
  ·exact q 0
def kT:Sp:=fun vs H Q _=>∃ (p:Addr) (N w:Int),vs=[.ref p, .int w]/\H p=some (.lst [.int N])/\0<=N/\0<w/\w<2 ^ 64/\∀ N' r:Int,0<=N'->0<=r->r<w->Q (.int r) (upd H p (.lst [.int N']))
theorem scTake:FnScope ["pot","wide","found"] ["pot","wide"] (j7 sTake):=⟨rfl,rfl,rfl,by decide+kernel,rfl,by decide+kernel,by decide+kernel⟩
theorem jMQ {f:Addr}{fd:FuncData}(F:Fun K "_law_take" "_law_take" sTake f fd):FnOk P w K mg base CX0 1 f fd ["pot","wide"] kT:=by
 refine F.ok scTake (fun vs H Q E h=>?_) (fun cdv A outer s H vs Q E hr h=>?_)
 ·obtain⟨a,ns,k,rfl,_⟩:=h
  rfl
 ·obtain⟨p,N,w,rfl,hp,h0,h1,h2,q⟩:=h
  refine⟨_,kP (yK (i:=2) scTake.nd rfl (Or.inl rfl) (kI jCD (pe_ix jQ (pv 0) jN (fun _ _=>rfl)) (pv 1)))
   (kP (jLG (kI jG9 (pe_ix jQ (pv 0) jN (fun _ _=>rfl)) (pv 1)) (jLI (pv 0) jN jB9))
   (jAK (jBW (pv 2)))),?_⟩
  refine⟨_,rfl,p,_,0, .int N,rfl,rfl,SqL.of hp,rfl,_,rfl,_,_,rfl,rfl,h1,?_⟩
  refine⟨_,rfl,p,_,0, .int N,rfl,rfl,SqL.of hp,rfl,_,rfl,_,_,rfl,rfl,⟨h1,h2⟩,?_⟩
  refine⟨_,rfl,p,_,0,0,rfl,rfl,hp,rfl,_,rfl,?_⟩
  exact q _ _ (Int.ediv_nonneg h0 (by omega)) (Int.emod_nonneg _ (by omega)) (fi _ h1)
def spPot:Sp:=fun vs H Q _=>∃ c:Int,vs=[.int c]/\∀ (p:Addr) (N:Int),H p=none->0<=N->Q (.ref p) (upd H p (.lst [.int N]))
theorem scPot:FnScope ["cell","number","j","more"] ["cell"] (j7 sPot):=⟨rfl,rfl,rfl,by decide+kernel,rfl,by decide+kernel,by decide+kernel⟩
theorem jO7 {f:Addr}{fd:FuncData}(F:Fun K "_law_pot" "_law_pot" sPot f fd)(T:Txt mg):FnOk P w K mg base CX0 1 f fd ["cell"] spPot:=by
 refine F.ok scPot (fun vs H Q E h=>?_) (fun cdv A outer s H vs Q E hr h=>?_)
 ·obtain⟨c,rfl,_⟩:=h
  rfl
 ·obtain⟨c,rfl,q⟩:=h
  have one: [V.int 0].length<=sizeLine:=by show 1<=sizeLine; decide
  refine⟨_,kP (ps_if (jCC op_ge (pv 0) (kI jEG jN jN) (jO _)) (jAK (jBW (jG7 (jW (kI yH (pv 0) (kI jEG jN jN)) y8)))) jDI)
   (kP (yK (i:=1) scPot.nd rfl (Or.inl rfl) jN)
   (kP (jLF bf rfl (jBB rfl T.range (jW jN y8)) (jDJ (i:=2) scPot.nd rfl (Or.inl rfl))
    (kP (yK (i:=3) scPot.nd rfl (Or.inl rfl) (kI jCD (kI jBZ (kI kX (kI kX (kI jCD (pv 0) jN) (kI jBZ jN (pv 2))) jN) jN) jN))
    (kP (yK (i:=3) scPot.nd rfl (Or.inl rfl) (kI jCD (kI kX (kI kX (kI jBZ (pv 3) (pv 3)) (kI jBZ jN (pv 2))) jN) jN))
    (jAK (yK (i:=1) scPot.nd rfl (Or.inl rfl) (kI kX (kI jBZ (pv 1) jN) (pv 3)))))))
   (jAK (jBW (jG7 (jW (pv 1) y8)))))),?_⟩
  refine⟨_,rfl,_,_,rfl,rfl,⟨by decide,by decide,by decide⟩,_,_,rfl,rfl,_,rfl,?_⟩
  refine ite2 (fun hge=>?_) (fun _=>?_)
  ·refine⟨_,rfl,_,_,rfl,rfl,⟨by decide,by decide,by decide⟩,_,_,rfl,rfl,one,fun p hp=>q p _ hp ?_⟩
   exact Int.sub_nonneg_of_le (az hge)
  ·refine⟨64,rfl,by decide,by decide,jAG (n:=64) (fun i σ H2=>∃ (num:Int) (v1 v2:Option V),σ=[some (.int c),some (.int num),v1,v2]/\0<=num/\H2=H) ⟨0,none,none,rfl,ft _,rfl⟩ ?_ ?_⟩
   ·rintro i σ H2 hi ⟨num,v1,v2,rfl,hn,rfl⟩
    refine⟨_,rfl,_,_,rfl,rfl,(by show (0:Int)<2147483629; decide),_,rfl,_,_,rfl,rfl, .inl ⟨by decide,by decide⟩,_,_,rfl,rfl,_,_,rfl,rfl,_,_,rfl,rfl, .inr ⟨by decide,by decide⟩,_,_,rfl,rfl,(by show (0:Int)<2147483647; decide),?_⟩
    refine⟨_,rfl,_,rfl,_,_,rfl,rfl, .inl ⟨?_,?_⟩,_,rfl,_,_,rfl,rfl, .inl ⟨by decide,by decide⟩,_,_,rfl,rfl,_,_,rfl,rfl,_,_,rfl,rfl,(by show (0:Int)<2147483587; decide),?_⟩
    ·omega
    ·omega
    ·refine⟨_,rfl,_,_,rfl,rfl, .inr ⟨by decide,by decide⟩,_,rfl,_,_,rfl,rfl,?_⟩
     refine⟨_,_,_,rfl,?_,rfl⟩
     omega
   ·rintro σ H2 ⟨num,v1,v2,rfl,hn,rfl⟩
    exact⟨_,rfl,one,fun p hp=>q p num hp hn⟩
end
theorem jAY {H:Hp}{a:Addr}{o o':HO} :upd (upd H a o) a o'=upd H a o':=by
 funext b
 unfold upd
 by_cases h:b=a
 ·rw[ah h,ah h]
 ·rw[am h,am h,am h]
theorem kY {H:Hp}{a b:Addr}{o:HO}(h:upd H a o b=none):b≠a/\H b=none:=by
 have h1:b≠a:=fun e=>by rw[e,j4] at h; cases h
 exact⟨h1,by rw[j9 h1] at h; exact h⟩
theorem Keep.refl (H:Hp)(p:Addr):Keep H H p:=fun _ _ h _=>h
theorem Keep.trans {H H1 H2:Hp}{p:Addr}(a:Keep H H1 p)(b:Keep H1 H2 p):Keep H H2 p:=fun c o h n=>b c o (a c o h n) n
theorem Keep.upd {H H1:Hp}{p:Addr}(a:Keep H H1 p)(o:HO):Keep H (upd H1 p o) p:=fun c u h n=>by rw[j9 n]; exact a c u h n
theorem Keep.new {H H1:Hp}{p l:Addr}(a:Keep H H1 p)(hl:H1 l=none)(o:HO):Keep H (L2.upd H1 l o) p:=fun c u h n=>by
 have:=a c u h n
 rw[j9 (jA this hl)]
 exact this
theorem pw {w:Int}(h1:1<=w)(h2:w<=16):(2:Int)<=2 ^ w.toNat/\(2:Int) ^ w.toNat<=65536:=by
 have e:∀ n:Nat,n<17->1<=n->(2:Int)<=2 ^ n/\(2:Int) ^ n<=65536:=by decide+kernel
 exact e w.toNat (by omega) (by omega)
structure Lot (w:Int)(ts:List Int):Prop where
 ris:ts.Pairwise (· < ·)
 bnd:∀ z∈ts,0<=z/\z<w
 ne:ts≠ []
def bits (n:Int)(k:Nat):List Int:=((List.range k).filter fun t=>decide (Builtin.bitAnd (n / 2 ^ t) 1=1)).map fun (t:Nat)=>(t:Int)
theorem jF1 (n:Int)(k:Nat):bits n (k+1)=bits n k++(if decide (Builtin.bitAnd (n / 2 ^ k) 1=1)=true then [(k:Int)] else []):=by
 unfold bits
 rw[cG,cJ,aI]
 congr 1
 rw[List.filter_cons]
 split <;> rfl
theorem jL6 {n w:Int}(h1:1<=n)(hw:0<=w)(h2:n<2 ^ w.toNat):Lot w (bits n w.toNat):=by
 refine⟨?_,fun z hz=>?_,?_⟩
 ·unfold bits
  rw[dM]
  have:=(eB (n:=w.toNat)).filter (fun t=>decide (Builtin.bitAnd (n / 2 ^ t) 1=1))
  exact this.imp fun h=>by omega
 ·unfold bits at hz
  obtain⟨t,ht,rfl⟩:=bw.mp hz
  have:=aO.mp (de.mp ht).1
  omega
 ·obtain⟨m,rfl⟩:∃ m:Nat,n=(m:Int):=⟨n.toNat,by omega⟩
  have hm:m≠0:=by omega
  have hlt:m<2 ^ w.toNat:=by
   have:((m:Nat):Int)<((2 ^ w.toNat:Nat):Int):=by rw[Int.natCast_pow]; exact h2
   omega
  obtain⟨i,hi⟩:=Nat.exists_testBit_of_ne_zero hm
  have hiw:i<w.toNat:=by
   rcases Nat.lt_or_ge i w.toNat with h | h
   ·exact h
   ·rw[Nat.testBit_lt_two_pow (aD hlt (eW (by omega) h))] at hi
    cases hi
  have hb:Builtin.bitAnd ((m:Int) / 2 ^ i) 1=1:=by
   have e:((m:Int) / 2 ^ i)=((m / 2 ^ i:Nat):Int):=by rw[Int.natCast_ediv,Int.natCast_pow]; rfl
   rw[e,PyProof.Rows.bitAnd_pp (ff _) (by decide)]
   have e2:(((m / 2 ^ i:Nat):Int).toNat&&&(1:Int).toNat)=1:=by
    rw[cn]
    show (m / 2 ^ i)&&&1=1
    rw[Nat.and_one_is_mod]
    have:=hi
    rw[Nat.testBit_eq_decide_div_mod_eq] at this
    exact az this
   rw[e2]
   rfl
  intro z
  have hmem:(i:Int)∈bits (m:Int) w.toNat:=by
   unfold bits
   exact bw.mpr ⟨i,de.mpr ⟨aO.mpr hiw,aG hb⟩,rfl⟩
  rw[z] at hmem
  cases hmem
section
variable {P:Program}{w:World}{K:W.Frag}{mg:Str->Option Value}{base:Heap}
def yS:Sp:=fun vs H Q _=>∃ (p:Addr) (N w:Int),vs=[.ref p, .int w]/\H p=some (.lst [.int N])/\0<=N/\1<=w/\w<=16/\
 ∀ (q:Addr) (N':Int) (ts:List Int) (H':Hp),0<=N'->Lot w ts->H' q=some (.tup (ts.map V.int))->H' p=some (.lst [.int N'])->Keep H H' p->Q (.ref q) H'
theorem scLot:FnScope ["pot","wide","way","number","start","step","size"] ["pot","wide"] (j7 sLot):=⟨rfl,rfl,rfl,by decide+kernel,rfl,by decide+kernel,by decide+kernel⟩
theorem jO8 {f fT:Addr}{fd fdT:FuncData}(F:Fun K "_law_lot" "_law_lot" sLot f fd)(T:Txt mg)(CT:Can P w K mg base "_law_take" 1 fT fdT ["pot","wide"] kT):FnOk P w K mg base CX0 2 f fd ["pot","wide"] yS:=by
 refine F.ok scLot (fun vs H Q E h=>?_) (fun cdv A outer s H vs Q E hr h=>?_)
 ·obtain⟨a,ns,k,rfl,_⟩:=h
  rfl
 ·obtain⟨p,N,w,rfl,hp,hN,h1,h2,q⟩:=h
  have hpw:=pw h1 h2
  have nd:=scLot.nd
  refine⟨_,kP (yK (i:=2) nd rfl (Or.inl rfl) (CT.pe hr rfl (jW (pv 0) (jW jN y8))))
   (kP (ps_if (jCC yX (pv 2) jN (jO _))
    (kP (yK (i:=3) nd rfl (Or.inr rfl) (kI kX jN (CT.pe hr rfl (jW (pv 0) (jW (kI yH (kI jNY jN (pv 1)) jN) y8)))))
    (jAK (jBW (jBC jA0 rfl T.tuple (by decide+kernel) (jW
     (jFF (m:=[none,some 3]) (Nc:=["t","number"]) rfl (jBB rfl T.range (jW (pv 1) y8)) rfl (by decide+kernel) (by decide+kernel) (kE (psc:=j7 sLot) (by decide+kernel))
      (jH (N:=["pot","wide","way","number","start","step","size"]) rfl rfl (by decide+kernel))
      (fun cl C fp s H=>jDJ (i:=0) (show (["t","number"]:List Str).Nodup by decide+kernel) rfl (Or.inl rfl))
      (fun cl C fp s H=>jIG (jCC yX (kI jO2 (kI jNX (pv 1) (pv 0)) jN) jN (jO _)))
      (fun cl C fp s H=>pv 0)) y8)))))
    jDI)
   (kP (yK (i:=4) nd rfl (Or.inr rfl) (CT.pe hr rfl (jW (pv 0) (jW (pv 1) y8))))
   (kP (yK (i:=5) nd rfl (Or.inr rfl) (kI kX jN (CT.pe hr rfl (jW (pv 0) (jW jN y8)))))
   (kP (yK (i:=6) nd rfl (Or.inl rfl) (kI kX jN (CT.pe hr rfl (jW (pv 0) (jW (pe_ix jQ (jG7 (jW jN (jW jN (jW jN y8)))) (kI yH (pv 2) jN) (fun _ _=>rfl)) y8)))))
   (jAK (jBW (jBC jA0 rfl T.tuple (by decide+kernel) (jW (jDK (jCX rfl) rfl T.sorted (by decide+kernel) (jW (jBC (jJY rfl) rfl T.set (by decide+kernel) (jW
     (jFF (m:=[none,some 4,some 5,some 1]) (Nc:=["j","start","step","wide"]) rfl (jBB rfl T.range (jW (pv 6) y8)) rfl (by decide+kernel) (by decide+kernel) (kE (psc:=j7 sLot) (by decide+kernel))
      (jH (N:=["pot","wide","way","number","start","step","size"]) rfl rfl (by decide+kernel))
      (fun cl C fp s H=>jDJ (i:=0) (show (["j","start","step","wide"]:List Str).Nodup by decide+kernel) rfl (Or.inl rfl))
      (fun cl C fp s H=>jIH)
      (fun cl C fp s H=>kI jCD (kI kX (pv 1) (kI jBZ (pv 2) (pv 0))) (pv 3))) y8)) y8)) y8)))))))),?_⟩
  refine⟨_,rfl,p,N,4,rfl,hp,hN,by decide,by decide,fun N1 way b1 b2 b3=>?_⟩
  have hp1:∀ M,(upd H p (.lst [.int M])) p=some (.lst [.int M]):=fun _=>j4
  refine⟨_,rfl,rfl,_,rfl,?_⟩
  refine ite2 (fun _=>?_) (fun hw0=>?_)
  ·refine⟨_,rfl,_,rfl,_,_,rfl,rfl,⟨by omega,by omega,by decide⟩,_,_,rfl,rfl,p,N1,_,rfl,hp1 _,b1,by omega,by omega,fun N2 r2 c1 c2 c3=>⟨_,_,rfl,rfl,?_⟩⟩
   have hnum:1+r2<2 ^ w.toNat:=by omega
   refine⟨_,rfl,w,rfl,by omega,by omega,jAT (n:=w.toNat) (by rw[aj]; omega) (fun D i σ' H' ys=>(∃ v,σ'=[v,some (.int (1+r2))])/\ys=(bits (1+r2) i).map V.int/\H'=upd (upd (upd H p (.lst [.int N1])) p (.lst [.int N2])) D (.lst ys)) ?_ ?_ ?_ ?_⟩
   ·intro D hD
    exact⟨⟨_,rfl⟩,rfl,rfl⟩
   ·rintro D i σ' H' ys hD hi ⟨_,e1,e2⟩
    refine⟨by rw[e2]; exact j4,?_⟩
    rw[e1,ab]
    unfold bits
    rw[ab]
    exact aZ (bO _ _) (by rw[ao]; exact af _)
   ·rintro D i σ' H' ys hD hi ⟨⟨v,rfl⟩,rfl,rfl⟩
    refine⟨_,rfl,_,rfl,_,_,rfl,rfl,(by show (0:Int)<=0+(i:Int); omega),_,_,rfl,rfl,rfl,_,rfl,?_⟩
    have ei:(0+(i:Int)).toNat=i:=by omega
    refine ite2 (fun hb=>?_) (fun hb=>?_)
    ·have hb:Builtin.bitAnd ((1+r2) / 2 ^ i) 1=1:=by
      have:=az hb
      rw[ei] at this
      exact V.int.inj this
     refine⟨_,rfl,j4,⟨_,rfl⟩,?_,jAY⟩
     rw[jF1,ah (aG hb),aI]
     congr 1
     show [V.int (0+(i:Int))]=[V.int (i:Int)]
     rw[cQ]
    ·have hb:¬ Builtin.bitAnd ((1+r2) / 2 ^ i) 1=1:=fun e=>hb (aG (by rw[ei]; exact bo V.int e))
     refine⟨⟨_,rfl⟩,?_,rfl⟩
     rw[jF1,am (by simpa using hb),dg]
   ·rintro D σ' H' ys hD ⟨_,rfl,rfl⟩
    refine⟨D,_,rfl, .inl ⟨SqL.of j4,fun qq hqq=>?_⟩⟩
    obtain⟨n1,n2⟩:=kY hqq
    have pD:p≠D:=jA j4 hD
    have pq:p≠qq:=jA j4 n2
    exact q qq N2 (bits (1+r2) w.toNat) _ c1 (jL6 (by omega) (by omega) hnum) j4 (by rw[j9 pq,j9 pD,j4]) (((((Keep.refl H p).upd _).upd _).new hD _).new hqq _)
  ·have hway:1<=way:=by
    have:¬ way=0:=fun e=>hw0 (aG (by rw[e]))
    omega
   refine⟨_,rfl,_,rfl,p,N1,w,rfl,hp1 _,b1,by omega,by omega,fun N2 yJ c1 c2 c3=>?_⟩
   rw[jAY]
   refine⟨_,rfl,p,N2,3,rfl,hp1 _,c1,by decide,by decide,fun N3 st d1 d2 d3=>⟨_,_,rfl,rfl,?_⟩⟩
   rw[jAY]
   refine⟨_,rfl,(by show 3<=sizeLine; decide),fun l hl=>?_⟩
   have pl:p≠l:=jA (hp1 _) hl
   obtain⟨wd,hwd,e1,e2⟩:∃ wd:Int,atI [V.int 1,V.int 2,V.int 4] (way - 1)=some (.int wd)/\1<=wd/\wd<=4:=by
    rcases (show way=1\/way=2\/way=3 by omega) with e | e | e
    ·subst e; exact⟨1,rfl,by decide,by decide⟩
    ·subst e; exact⟨2,rfl,by decide,by decide⟩
    ·subst e; exact⟨4,rfl,by decide,by decide⟩
   refine⟨_,rfl,_,_,rfl,rfl,l,_,_,_,rfl,rfl,SqL.of j4,hwd,p,N3,wd,rfl,by rw[j9 pl]; exact hp1 _,d1,by omega,by omega,fun N4 r4 g1 g2 g3=>⟨_,_,rfl,rfl,?_⟩⟩
   have kp:Keep H (upd (upd (upd H p (.lst [.int N3])) l (.lst [V.int 1,V.int 2,V.int 4])) p (.lst [.int N4])) p:=(((Keep.refl H p).upd _).new hl _).upd _
   have hp4:(upd (upd (upd H p (.lst [.int N3])) l (.lst [V.int 1,V.int 2,V.int 4])) p (.lst [.int N4])) p=some (.lst [.int N4]):=j4
   generalize (upd (upd (upd H p (.lst [.int N3])) l (.lst [V.int 1,V.int 2,V.int 4])) p (.lst [.int N4]))=H4 at kp hp4 ⊢
   refine⟨_,rfl,1+r4,rfl,by omega,by omega,jAT (n:=(1+r4).toNat) (by rw[aj]; omega) (fun D i σ' H' ys=>(∃ v,σ'=[v,some (.int yJ),some (.int (1+st)),some (.int w)])/\(∃ ns:List Int,ys=ns.map V.int/\ns.length=i/\∀ z∈ns,0<=z/\z<w)/\H'=upd H4 D (.lst ys)) ?_ ?_ ?_ ?_⟩
   ·intro D hD
    exact⟨⟨_,rfl⟩,⟨[],rfl,rfl,fun z hz=>by cases hz⟩,rfl⟩
   ·rintro D i σ' H' ys hD hi ⟨_,⟨ns,rfl,e,_⟩,rfl⟩
    exact⟨j4,by rw[ab,e]; exact af _⟩
   ·rintro D i σ' H' ys hD hi ⟨⟨v,rfl⟩,⟨ns,rfl,e,hb⟩,rfl⟩
    dsimp only [kJ,yA]
    rw[ah rfl]
    refine⟨_,rfl,_,rfl,_,rfl,_,_,rfl,rfl, .inl ⟨by omega,by omega⟩,_,_,rfl,rfl,_,rfl,_,_,rfl,rfl,(by show 0<w; omega),j4,⟨_,rfl⟩,⟨ns++[(yJ+(1+st)*(0+(i:Int))) % w],by simp,by simp [e],fun z hz=>?_⟩,jAY⟩
    rcases bA.mp hz with hz | hz
    ·exact hb z hz
    ·have:z=(yJ+(1+st)*(0+(i:Int))) % w:=by simpa using hz
     rw[this]
     exact⟨Int.emod_nonneg _ (by omega),fi _ (by omega)⟩
   ·rintro D σ' H' ys hD ⟨_,⟨ns,rfl,e,hb⟩,rfl⟩
    refine⟨D,ns,rfl,SqL.of j4,by omega,fun z hz=>⟨(hb z hz).1,by have:=(hb z hz).2; omega⟩,fun l1 ks h11 hm1=>?_⟩
    refine⟨l1,ks,rfl,j4,fun l2 ms h12 srt hm2=>?_⟩
    refine⟨l2,_,rfl, .inl ⟨SqL.of j4,fun qq hqq=>?_⟩⟩
    have pD:p≠D:=jA hp4 hD
    have p1:p≠l1:=jA hp4 (kY h11).2
    have p2:p≠l2:=jA hp4 (kY (kY h12).2).2
    have pq:p≠qq:=jA hp4 (kY (kY (kY hqq).2).2).2
    refine q qq N4 ms _ g1 ⟨srt,fun z hz=>hb z ((hm1 z).mp ((hm2 z).mp hz)),fun z=>?_⟩ j4 (by rw[j9 pq,j9 p2,j9 p1,j9 pD]; exact hp4) ((((kp.new hD _).new h11 _).new h12 _).new hqq _)
    subst z
    cases ns with
    | nil=>simp at e; omega
    | cons x r=>
     have:=(hm2 x).mpr ((hm1 x).mpr aE)
     cases this
end
structure Ris (w:Int)(ts:List Int):Prop where
 ris:ts.Pairwise (· < ·)
 bnd:∀ z∈ts,0<=z/\z<w
theorem Ris.nil (w:Int):Ris w []:=⟨.nil,fun z hz=>by cases hz⟩
theorem Ris.take {w:Int}{ts:List Int}(h:Ris w ts)(k:Nat):Ris w (ts.take k):=⟨h.ris.sublist (dI _ _),fun z hz=>h.bnd z (eX hz)⟩
theorem Ris.drop {w:Int}{ts:List Int}(h:Ris w ts)(k:Nat):Ris w (ts.drop k):=⟨h.ris.sublist (List.drop_sublist _ _),fun z hz=>h.bnd z (cZ hz)⟩
theorem Ris.snoc {i:Nat}{ts:List Int}(h:Ris i ts):Ris (i+1:Nat) (ts++[(i:Int)]):=by
 refine⟨eN.mpr ⟨h.ris,List.pairwise_singleton _ _,fun a ha b hb=>?_⟩,fun z hz=>?_⟩
 ·have:=(h.bnd a ha).2
  have e:b=i:=by simpa using hb
  omega
 ·rcases bA.mp hz with q | q
  ·have:=h.bnd z q
   omega
  ·have e:z=i:=by simpa using q
   omega
theorem Ris.step {i:Nat}{ts:List Int}(h:Ris i ts):Ris (i+1:Nat) ts:=⟨h.ris,fun z hz=>by have:=h.bnd z hz; omega⟩
def upto (n:Nat):List Int:=(List.range n).map fun (i:Nat)=>(i:Int)
theorem jJC (n:Nat):jCO n=(upto n).map V.int:=by
 unfold jCO upto
 rw[bc]
 rfl
theorem jK9 (n:Nat):Ris n (upto n):=by
 refine⟨?_,fun z hz=>?_⟩
 ·unfold upto
  rw[dM]
  exact eB.imp fun h=>by omega
 ·unfold upto at hz
  obtain⟨t,ht,rfl⟩:=bw.mp hz
  have:=aO.mp ht
  omega
def Tups (H H':Hp):Prop:=∀ b xs,H b=some (.tup xs)->H' b=some (.tup xs)
theorem Tups.trans {H H1 H2:Hp}(a:Tups H H1)(b:Tups H1 H2):Tups H H2:=fun c o h=>b c o (a c o h)
theorem Keep.tups {H H':Hp}{p:Addr}{xs:List V}(k:Keep H H' p)(hp:H p=some (.lst xs)):Tups H H':=fun b ys hb=>k b _ hb fun e=>by
 subst e
 rw[hb] at hp
 cases hp
theorem Tups.upd {H:Hp}{p:Addr}{xs:List V}(hp:H p=some (.lst xs))(o:HO):Tups H (upd H p o):=fun b ys hb=>by
 rw[j9 (fun e=>by subst e; rw[hb] at hp; cases hp)]
 exact hb
theorem Tups.new {H:Hp}{p:Addr}(hp:H p=none)(o:HO):Tups H (L2.upd H p o):=fun b ys hb=>by
 rw[j9 (jA hb hp)]
 exact hb
def PcAt (H:Hp)(v:V)(pc:List Int×Int):Prop:=∃ a q,v= .ref a/\H a=some (.tup [.ref q, .int pc.2])/\H q=some (.tup (pc.1.map V.int))
def PcsAt (H:Hp):List V->List (List Int×Int)->Prop
 | [],[]=>True
 | v::vs,p::ps=>PcAt H v p/\PcsAt H vs ps
 | _,_=>False
theorem PcAt.mono {H H':Hp}{v:V}{pc:List Int×Int}(h:PcAt H v pc)(t:Tups H H'):PcAt H' v pc:=by
 obtain⟨a,q,rfl,h1,h2⟩:=h
 exact⟨a,q,rfl,t _ _ h1,t _ _ h2⟩
theorem PcsAt.mono {H H':Hp}(t:Tups H H'):∀ {vs:List V}{ps:List (List Int×Int)},PcsAt H vs ps->PcsAt H' vs ps
 | [],[],_=>trivial
 | _::_,_::_,h=>⟨h.1.mono t,PcsAt.mono t h.2⟩
 | [],_::_,h=>h.elim
 | _::_,[],h=>h.elim
theorem PcsAt.len {H:Hp} :∀ {vs:List V}{ps:List (List Int×Int)},PcsAt H vs ps->vs.length=ps.length
 | [],[],_=>rfl
 | _::_,_::_,h=>bo (· +1) (PcsAt.len h.2)
 | [],_::_,h=>h.elim
 | _::_,[],h=>h.elim
theorem PcsAt.put {H:Hp}{v:V}{p:List Int×Int}(hv:PcAt H v p):∀ (k:Nat) {vs:List V}{ps:List (List Int×Int)},PcsAt H vs ps->PcsAt H (vs.take k++v::vs.drop k) (ps.take k++p::ps.drop k)
 | 0,_,_,h=>⟨hv,h⟩
 | _+1,[],[],_=>⟨hv,trivial⟩
 | k+1,_::_,_::_,h=>⟨h.1,PcsAt.put hv k h.2⟩
 | _+1,[],_::_,h=>h.elim
 | _+1,_::_,[],h=>h.elim
structure GoodPc (w:Int)(pc:List Int×Int):Prop where
 lot:Lot w pc.1
 lo: -1000000000000<=pc.2
 hi:pc.2<=1000000000000
structure BoxAt (H:Hp)(b:Addr)(w:Int)(mays:List Int)(pcs:List (List Int×Int)):Prop where
 ex:∃ qm qp vs,H b=some (.tup [.int w, .ref qm, .ref qp])/\H qm=some (.tup (mays.map V.int))/\H qp=some (.tup vs)/\PcsAt H vs pcs
theorem BoxAt.mono {H H':Hp}{b:Addr}{w:Int}{mays:List Int}{pcs:List (List Int×Int)}(h:BoxAt H b w mays pcs)(t:Tups H H'):BoxAt H' b w mays pcs:=by
 obtain⟨qm,qp,vs,h1,h2,h3,h4⟩:=h.ex
 exact⟨qm,qp,vs,t _ _ h1,t _ _ h2,t _ _ h3,h4.mono t⟩
structure Good (mt mp:Int)(w:Int)(mays:List Int)(pcs:List (List Int×Int)):Prop where
 w0:0<=w
 w1:w<=mt
 mr:Ris w mays
 pl:(pcs.length:Int)<=mp
 pg:∀ pc∈pcs,GoodPc w pc
theorem Keep.updNew {H H1:Hp}{p l:Addr}(a:Keep H H1 p)(hl:H l=none)(o:HO):Keep H (L2.upd H1 l o) p:=fun c u h n=>by
 rw[j9 (jA h hl)]
 exact a c u h n
section
variable {P:Program}{w:World}{K:W.Frag}{mg:Str->Option Value}{base:Heap}
def spBox:Sp:=fun vs H Q _=>∃ (p:Addr) (N mt mp:Int),vs=[.ref p, .int mt, .int mp]/\H p=some (.lst [.int N])/\0<=N/\0<=mt/\mt<=16/\0<=mp/\mp<=32/\
 ∀ (b:Addr) (N' w:Int) (mays:List Int) (pcs:List (List Int×Int)) (H':Hp),0<=N'->H' p=some (.lst [.int N'])->BoxAt H' b w mays pcs->Good mt mp w mays pcs->Keep H H' p->Q (.ref b) H'
noncomputable abbrev nBox:List Str:=["pot","most_things","most_pieces","wide","mays","left","far","pieces","k","size","things"]
theorem scBox:FnScope nBox ["pot","most_things","most_pieces"] (j7 sBox):=⟨rfl,rfl,rfl,by decide+kernel,rfl,by decide+kernel,by decide+kernel⟩
end
section
variable {P:Program}{w:World}{K:W.Frag}{mg:Str->Option Value}{base:Heap}
abbrev XBox (P:Program)(w:World)(K:W.Frag)(mg:Str->Option Value)(base:Heap)(f:Addr)(cdv:Value)(A:Around)(outer:List Env)(s:Shared)(H:Hp)(E:XK):Cx:=(cxOf CX0 P w K mg base nBox "_law_box" (j7 sBox) f cdv A outer s H E).nox
def yM:Stmt->List Stmt
 | .For _ _ b _ _=>b
 | _=> []
def boxI {f fT fL:Addr}{fdT fdL:FuncData}{cdv:Value}{A:Around}{outer:List Env}{s:Shared}{H:Hp}{E:XK}(T:Txt mg)(CT:Can P w K mg base "_law_take" 1 fT fdT ["pot","wide"] kT)(CL:Can P w K mg base "_law_lot" 2 fL fdL ["pot","wide"] yS)(hr:Room 2 (XBox P w K mg base f cdv A outer s H E).A): { t:TS // JSs (XBox P w K mg base f cdv A outer s H E) ((yM ((jB sBox).getD 7 (.Pass ⟨0,0,0,0⟩))).drop 4) t} :=
 have nd:=scBox.nd
 ⟨_,(jC (jCJ (je_bm br PySem.F.slot_list_insert PySem.F.type_list_insert jIT (jv 7 rfl vL) (j0 (CT.je (hr.mono (by decide)) gD (j0 (jv 0 rfl vC) (j0 (jU kX (jI jA1 gD T.len (by decide+kernel) (j0 (jv 7 rfl vL) j5 j3) j3) (j6)) j5 kW) j3) j3) (j0 (jGJ (j0 (jv 10 rfl vL) (j0 (jU yH (CT.je (hr.mono (by decide)) gD (j0 (jv 0 rfl vC) (j0 (jv 6 rfl vL) j5 j3) j3) j3) (jU jG9 (jv 6 rfl vL) (j6))) j5 kW) j3)) j5 jG3) jZ) jZ) jP))⟩
def boxL {f fT fL:Addr}{fdT fdL:FuncData}{cdv:Value}{A:Around}{outer:List Env}{s:Shared}{H:Hp}{E:XK}(T:Txt mg)(CT:Can P w K mg base "_law_take" 1 fT fdT ["pot","wide"] kT)(CL:Can P w K mg base "_law_lot" 2 fL fdL ["pot","wide"] yS)(hr:Room 2 (XBox P w K mg base f cdv A outer s H E).A): { t:TS // JSs (XBox P w K mg base f cdv A outer s H E) (yM ((jB sBox).getD 7 (.Pass ⟨0,0,0,0⟩))) t} :=
 have nd:=scBox.nd
 ⟨_,(j8 (jG (i:=9) nd rfl lL (jU kX (j6) (CT.je (hr.mono (by decide)) gD (j0 (jv 0 rfl vC) (j0 (j6) j5 jF) j3) j3)) jEA)
   (j8 (jG (i:=10) nd rfl lL (kB jA0 gD T.tuple (by decide+kernel) (j0 (jBF jI8 (jv 5 rfl vL) jCL (jCK (jv 9 rfl vL))) j5 jM) jM) jP)
   (j8 (jG (i:=5) nd rfl lL (jBF jI8 (jv 5 rfl vL) (jCK (jv 9 rfl vL)) jCL) jBU)
   (j8 (yE (jJ (jLK hr.units0) (jv 10 rfl vL) (jGJ j5) (jO _)) (jC (jG (i:=10) nd rfl lL (CL.je hr gD (j0 (jv 0 rfl vC) (j0 (jv 3 rfl vL) j5 j3) j3) j3) jP)) kO)
   (boxI T CT CL hr).2))))⟩
def boxC {f fT fL:Addr}{fdT fdL:FuncData}{cdv:Value}{A:Around}{outer:List Env}{s:Shared}{H:Hp}{E:XK}(T:Txt mg)(CT:Can P w K mg base "_law_take" 1 fT fdT ["pot","wide"] kT)(CL:Can P w K mg base "_law_lot" 2 fL fdL ["pot","wide"] yS)(hr:Room 2 (XBox P w K mg base f cdv A outer s H E).A): { t:TS // JSs (XBox P w K mg base f cdv A outer s H E) ((jB sBox).drop 5) t} :=
 have nd:=scBox.nd
 ⟨_,(j8 (jG (i:=6) nd rfl lL (jE jQ (jJ5 (j0 (j6) (j0 (j6) (j0 (jOJ) j5 kW) jF) jF)) (CT.je (hr.mono (by decide)) gD (j0 (jv 0 rfl vC) (j0 (j6) j5 jF) j3) j3) jID) jBU)
   (j8 (jG (i:=7) nd rfl lL (jJ5 j5) jE9)
   (j8 (jBE bf rfl (kR gD T.range (j0 (jU jBZ (CT.je (hr.mono (by decide)) gD (j0 (jv 0 rfl vC) (j0 (jU kX (jv 2 rfl vL) (j6)) j5 kW) j3) j3) (kB jEW gD T.int (by decide+kernel) (j0 (jAL op_gt (jv 3 rfl vL) (j6) (jO _)) j5 jLD) jLD)) j5 kW) kW) (jL (i:=8) nd rfl lL) (boxL T CT CL hr).2 kU)
   (jC (jX (jGJ (j0 (jv 3 rfl vL) (j0 (jv 4 rfl vL) (j0 (kB jA0 gD T.tuple (by decide+kernel) (j0 (jv 7 rfl vL) j5 j3) j3) j5 jZ) j3) j3)))))))⟩
def boxB {f fT fL:Addr}{fdT fdL:FuncData}{cdv:Value}{A:Around}{outer:List Env}{s:Shared}{H:Hp}{E:XK}(T:Txt mg)(CT:Can P w K mg base "_law_take" 1 fT fdT ["pot","wide"] kT)(CL:Can P w K mg base "_law_lot" 2 fL fdL ["pot","wide"] yS)(hr:Room 2 (XBox P w K mg base f cdv A outer s H E).A): { t:TS // JSs (XBox P w K mg base f cdv A outer s H E) ((jB sBox).drop 3) t} :=
 have nd:=scBox.nd
 ⟨_,(j8 (jG (i:=5) nd rfl lL (kB (jEV rfl) gD T.list (by decide+kernel) (j0 (kB jFS gD T.range (by decide+kernel) (j0 (jv 3 rfl vL) j5 j3) j3) j5 jZ) jZ) jP)
   (j8 (yE (jJ yX (CT.je (hr.mono (by decide)) gD (j0 (jv 0 rfl vC) (j0 (j6) j5 jF) j3) j3) (j6) (jO _)) (jC (jG (i:=5) nd rfl lL (jJ5 j5) jE9)) kO)
   (boxC T CT CL hr).2))⟩
def boxA {f fT fL:Addr}{fdT fdL:FuncData}{cdv:Value}{A:Around}{outer:List Env}{s:Shared}{H:Hp}{E:XK}(T:Txt mg)(CT:Can P w K mg base "_law_take" 1 fT fdT ["pot","wide"] kT)(CL:Can P w K mg base "_law_lot" 2 fL fdL ["pot","wide"] yS)(hr:Room 2 (XBox P w K mg base f cdv A outer s H E).A): { t:TS // JSs (XBox P w K mg base f cdv A outer s H E) (jB sBox) t} :=
 have nd:=scBox.nd
 ⟨_,(j8 (jG (i:=3) nd rfl lL (CT.je (hr.mono (by decide)) gD (j0 (jv 0 rfl vC) (j0 (jU kX (jv 1 rfl vL) (j6)) j5 kW) j3) j3) jP)
   (j8 (jG (i:=4) nd rfl lL (jGJ j5) jLB)
   (j8 (yE (jJ yX (CT.je (hr.mono (by decide)) gD (j0 (jv 0 rfl vC) (j0 (j6) j5 jF) j3) j3) (j6) (jO _)) (jC (jG (i:=4) nd rfl lL (kB jA0 gD T.tuple (by decide+kernel) (j0 (kS (m:=[none,some 0]) (Nc:=["t","pot"]) rfl (kR gD T.range (j0 (jv 3 rfl vL) j5 j3) j3) rfl (by decide+kernel) (by decide+kernel) (kE (psc:=j7 sBox) (by decide+kernel)) (jH (N:=nBox) rfl rfl (by decide+kernel)) (fun cl C fp s H=>jL (i:=0) (show (["t","pot"]:List Str).Nodup by decide+kernel) rfl (yD (by decide+kernel))) (fun cl C fp s H=>jDQ (jJ yX (CT.je (hr.mono (by decide)) (gl_b (by decide+kernel)) (j0 (jv 1 rfl (kL (by decide+kernel))) (j0 (j6) j5 jF) j3) j3) (j6) (jO _))) (fun cl C fp s H=>(jv 0 rfl (kG (by decide+kernel)))) kU) j5 jS) jS) jP)) kO)
   (boxB T CT CL hr).2)))⟩
end
structure St0 (H H2:Hp)(p:Addr)(w:Int)(qm ql:Addr)(mays lf:List Int)(N:Int):Prop where
 hp:H2 p=some (.lst [.int N])
 hN:0<=N
 hm:H2 qm=some (.tup (mays.map V.int))
 rm:Ris w mays
 hl:H2 ql=some (.lst (lf.map V.int))
 rl:Ris w lf
 ne:ql≠p
 kp:Keep H H2 p
theorem St0.step {H H2 H3:Hp}{p:Addr}{w:Int}{qm ql:Addr}{mays lf:List Int}{N N':Int}(S:St0 H H2 p w qm ql mays lf N)(k:Keep H2 H3 p)(hp:H3 p=some (.lst [.int N']))(hN:0<=N'):St0 H H3 p w qm ql mays lf N':=
 ⟨hp,hN,k qm _ S.hm (ne_of S.hm S.hp (by intro z; cases z)),S.rm,k ql _ S.hl S.ne,S.rl,S.ne,S.kp.trans k⟩
theorem jJM {w:Int}{lf:List Int}(h:Ris w lf)(lo hi:Option Int):∃ l',cutV (lf.map V.int) lo hi=l'.map V.int/\Ris w l':=by
 refine⟨(lf.drop (HT.sIx lf.length 0 lo)).take (HT.sIx lf.length lf.length hi - HT.sIx lf.length 0 lo),?_,(h.drop _).take _⟩
 unfold cutV
 rw[ab,List.map_take,List.map_drop]
section
variable {P:Program}{w:World}{K:W.Frag}{mg:Str->Option Value}{base:Heap}
variable {f fT fL:Addr}{fdT fdL:FuncData}{cdv:Value}{A:Around}{outer:List Env}{s:Shared}{H0:Hp}{E:XK}
theorem jEY (T:Txt mg)(CT:Can P w K mg base "_law_take" 1 fT fdT ["pot","wide"] kT)(CL:Can P w K mg base "_law_lot" 2 fL fdL ["pot","wide"] yS)(hr:Room 2 (XBox P w K mg base f cdv A outer s H0 E).A)
  {D:Ends}{H H5:Hp}{p qm ql qp qt:Addr}{mt mp w N far:Int}{mays lf ts:List Int}{vs:List V}{pcs:List (List Int×Int)}{v8 v9:Option V}
  (S:St0 H H5 p w qm ql mays lf N) (hqp:H5 qp=some (.lst vs)) (hv:PcsAt H5 vs pcs) (hg:∀ pc∈pcs,GoodPc w pc) (hqt:H5 qt=some (.tup (ts.map V.int))) (lt:Lot w ts) (hf:far=1\/far=10\/far=2000000000001) (hn:pcs.length<=100) (hH:H qp=none) (hne:ql≠qp) (hpp:p≠qp)
  (nx:∀ H6 N' vs' pcs',St0 H H6 p w qm ql mays lf N'->H6 qp=some (.lst vs')->PcsAt H6 vs' pcs'->(∀ pc∈pcs',GoodPc w pc)->pcs'.length=pcs.length+1->D.nx [some (.ref p),some (.int mt),some (.int mp),some (.int w),some (.ref qm),some (.ref ql),some (.int far),some (.ref qp),v8,v9,some (.ref qt)] H6):
  (boxI T CT CL hr).1 D [some (.ref p),some (.int mt),some (.int mp),some (.int w),some (.ref qm),some (.ref ql),some (.int far),some (.ref qp),v8,v9,some (.ref qt)] H5:=by
 have hlen:=hv.len
 have h64:(0:Int)<far/\far<2 ^ 64:=by rcases hf with e | e | e <;> subst e <;> decide
 refine⟨_,rfl, .inl ⟨rfl,_,SqL.of hqp⟩,_,rfl,_,rfl,qp,vs,rfl, .inl (SqL.of hqp),_,_,rfl,rfl,p,N,_,rfl,S.hp,S.hN,by omega,by omega,fun N1 i a1 a2 a3=>?_⟩
 refine⟨_,rfl,_,rfl,_,rfl,p,N1,far,rfl,j4,a1,h64.1,h64.2,fun N2 r b1 b2 b3=>?_⟩
 rw[jAY]
 refine⟨_,rfl,_,_,rfl,rfl,⟨by decide,by decide⟩,_,_,rfl,rfl,(by show 2<=sizeLine; decide),fun tq htq=>?_⟩
 obtain⟨t1,t2⟩:=kY htq
 have ht:tq≠qp:=fun e=>by subst e; rw[hqp] at t2; cases t2
 refine⟨qp,vs,i,_,rfl,rfl,by rw[j9 ht.symm,j9 hpp.symm]; exact hqp,a2,by omega,by rw[aj]; omega,?_⟩
 have T1:Tups H5 (upd (upd H5 p (.lst [.int N2])) tq (.tup [.ref qt, .int (r - far / 2)])):=(Tups.upd S.hp _).trans (Tups.new htq _)
 have k1:Keep H5 (upd (upd H5 p (.lst [.int N2])) tq (.tup [.ref qt, .int (r - far / 2)])) p:=((Keep.refl _ _).upd _).new htq _
 have S1:=S.step k1 (by rw[j9 t1.symm]; exact j4) b1
 have hq1:(upd (upd H5 p (.lst [.int N2])) tq (.tup [.ref qt, .int (r - far / 2)])) qp=some (.lst vs):=by rw[j9 ht.symm,j9 hpp.symm]; exact hqp
 have T2:=T1.trans (Tups.upd hq1 (.lst (vs.take i.toNat++V.ref tq::vs.drop i.toNat)))
 have pc:PcAt (upd (upd H5 p (.lst [.int N2])) tq (.tup [.ref qt, .int (r - far / 2)])) (.ref tq) (ts,r - far / 2):=⟨tq,qt,rfl,j4,T1 _ _ hqt⟩
 refine nx _ N2 _ (pcs.take i.toNat++(ts,r - far / 2)::pcs.drop i.toNat) ⟨?_,b1,?_,S.rm,?_,S.rl,S.ne,S1.kp.updNew hH _⟩ j4 ?_ ?_ ?_
 ·rw[j9 hpp]; exact S1.hp
 ·exact(Tups.upd hq1 _) _ _ S1.hm
 ·rw[j9 hne]; exact S1.hl
 ·exact PcsAt.put (pc.mono (Tups.upd hq1 _)) _ (hv.mono T2)
 ·intro c hc
  rcases bA.mp hc with h | h
  ·exact hg c (eX h)
  ·rcases av.mp h with h | h
   ·subst h
    refine⟨lt,?_,?_⟩
    ·show -1000000000000<=r - far / 2
     rcases hf with e | e | e <;> subst e <;> omega
    ·show r - far / 2<=1000000000000
     rcases hf with e | e | e <;> subst e <;> omega
   ·exact hg c (cZ h)
 ·rw[aJ,bg,bI,cx]
  omega
end
section
variable {P:Program}{w:World}{K:W.Frag}{mg:Str->Option Value}{base:Heap}
variable {f fT fL:Addr}{fdT fdL:FuncData}{cdv:Value}{A:Around}{outer:List Env}{s:Shared}{H0:Hp}{E:XK}
theorem jJZ (T:Txt mg)(CT:Can P w K mg base "_law_take" 1 fT fdT ["pot","wide"] kT)(CL:Can P w K mg base "_law_lot" 2 fL fdL ["pot","wide"] yS)(hr:Room 2 (XBox P w K mg base f cdv A outer s H0 E).A)
  {D:Ends}{H H5:Hp}{p qm ql qp:Addr}{mt mp w N far:Int}{mays lf:List Int}{vs:List V}{pcs:List (List Int×Int)}{v8 v9 v10:Option V}
  (S:St0 H H5 p w qm ql mays lf N) (hqp:H5 qp=some (.lst vs)) (hv:PcsAt H5 vs pcs) (hg:∀ pc∈pcs,GoodPc w pc) (hf:far=1\/far=10\/far=2000000000001) (hn:pcs.length<=100) (hH:H qp=none) (hpp:p≠qp) (w1:1<=w) (w2:w<=16)
  (nx:∀ H6 N' vs' pcs' ql' lf' v9' v10',St0 H H6 p w qm ql' mays lf' N'->ql'≠qp->H6 qp=some (.lst vs')->PcsAt H6 vs' pcs'->(∀ pc∈pcs',GoodPc w pc)->pcs'.length=pcs.length+1->D.nx [some (.ref p),some (.int mt),some (.int mp),some (.int w),some (.ref qm),some (.ref ql'),some (.int far),some (.ref qp),v8,v9',v10'] H6):
  (boxL T CT CL hr).1 D [some (.ref p),some (.int mt),some (.int mp),some (.int w),some (.ref qm),some (.ref ql),some (.int far),some (.ref qp),v8,v9,v10] H5:=by
 refine⟨_,rfl,p,N,3,rfl,S.hp,S.hN,by decide,by decide,fun N1 r1 a1 a2 a3=>⟨_,_,rfl,rfl,?_⟩⟩
 have S1:=S.step ((Keep.refl _ _).upd (.lst [.int N1])) j4 a1
 have hq1:(upd H5 p (.lst [.int N1])) qp=some (.lst vs):=by rw[j9 hpp.symm]; exact hqp
 have hv1:=hv.mono (Tups.upd S.hp (.lst [.int N1]))
 generalize upd H5 p (.lst [.int N1])=H6 at S1 hq1 hv1 ⊢
 clear S hqp hv
 obtain⟨l1,e1,g1⟩:=jJM S1.rl none (some (1+r1))
 obtain⟨l2,e2,g2⟩:=jJM S1.rl (some (1+r1)) none
 refine⟨_,rfl,_,rfl,1+r1,rfl,ql,_,rfl,SqL.of S1.hl,fun x hx=>⟨x,_,rfl, .inl ⟨SqL.of j4,fun qt hqt=>?_⟩⟩⟩
 rw[e1] at hqt ⊢
 have k1:Keep H6 (upd (upd H6 x (.lst (l1.map V.int))) qt (.tup (l1.map V.int))) p:=((Keep.refl _ _).new hx _).new hqt _
 obtain⟨t1,t2⟩:=kY hqt
 have px:p≠x:=jA S1.hp hx
 have pt:p≠qt:=jA S1.hp t2
 have qx:qp≠x:=jA hq1 hx
 have qq:qp≠qt:=jA hq1 t2
 have S2:=S1.step k1 (by rw[j9 pt,j9 px]; exact S1.hp) S1.hN
 have hq2:(upd (upd H6 x (.lst (l1.map V.int))) qt (.tup (l1.map V.int))) qp=some (.lst vs):=by rw[j9 qq,j9 qx]; exact hq1
 have hv2:=hv1.mono (k1.tups S1.hp)
 have ht2:(upd (upd H6 x (.lst (l1.map V.int))) qt (.tup (l1.map V.int))) qt=some (.tup (l1.map V.int)):=j4
 generalize upd (upd H6 x (.lst (l1.map V.int))) qt (.tup (l1.map V.int))=H7 at S2 hq2 hv2 ht2 ⊢
 clear k1 hqt t2 hx S1 hq1 hv1
 refine⟨_,rfl,_,rfl,1+r1,rfl,ql,_,rfl,SqL.of S2.hl,fun ql' hql=>?_⟩
 rw[e2]
 have pl:p≠ql':=jA S2.hp hql
 have k2:Keep H7 (upd H7 ql' (.lst (l2.map V.int))) p:=(Keep.refl _ _).new hql _
 have S3':=S2.step k2 (by rw[j9 pl]; exact S2.hp) S2.hN
 have S3:St0 H (upd H7 ql' (.lst (l2.map V.int))) p w qm ql' mays l2 N1:=⟨S3'.hp,S3'.hN,S3'.hm,S3'.rm,j4,g2,pl.symm,S3'.kp⟩
 have hne:qp≠ql':=jA hq2 hql
 have hq3:(upd H7 ql' (.lst (l2.map V.int))) qp=some (.lst vs):=by rw[j9 hne]; exact hq2
 have hv3:=hv2.mono (k2.tups S2.hp)
 have ht3:=k2.tups S2.hp _ _ ht2
 generalize upd H7 ql' (.lst (l2.map V.int))=H8 at S3 hq3 hv3 ht3 ⊢
 clear k2 S3' S2 hq2 hv2 ht2 hql
 refine⟨_,rfl,(by show 0<=sizeLine; exact aP _),fun z hz=>⟨qt,z,l1.map V.int,rfl,rfl,SqT.of ?_,SqT.of j4,_,rfl,?_⟩⟩
 ·rw[j9 (jA ht3 hz)]; exact ht3
 have pz:p≠z:=jA S3.hp hz
 have qz:qp≠z:=jA hq3 hz
 have k3:Keep H8 (upd H8 z (.tup [])) p:=(Keep.refl _ _).new hz _
 have S4:=S3.step k3 (by rw[j9 pz]; exact S3.hp) S3.hN
 have hq4:(upd H8 z (.tup [])) qp=some (.lst vs):=by rw[j9 qz]; exact hq3
 have hv4:=hv3.mono (k3.tups S3.hp)
 have ht4:=k3.tups S3.hp _ _ ht3
 generalize upd H8 z (.tup [])=H9 at S4 hq4 hv4 ht4 ⊢
 clear k3 S3 hq3 hv3 ht3 hz pz qz
 refine ite2 (fun hy=>?_) (fun hy=>?_)
 ·refine⟨_,rfl,_,rfl,p,N1,w,rfl,S4.hp,S4.hN,w1,w2,fun q N2 ts H' b1 lt b2 b3 b4=>?_⟩
  exact jEY T CT CL hr (S4.step b4 b3 b1) (b4 _ _ hq4 hpp.symm) (hv4.mono (b4.tups S4.hp)) hg b2 lt hf hn hH hne.symm hpp fun H6 N' vs' pcs' z1 z2 z3 z4 z5=>nx H6 N' vs' pcs' ql' l2 _ _ z1 hne.symm z2 z3 z4 z5
 ·have nl:l1≠ []:=fun e=>hy (aG (by rw[e]; rfl))
  exact jEY T CT CL hr S4 hq4 hv4 hg ht4 ⟨g1.ris,g1.bnd,nl⟩ hf hn hH hne.symm hpp fun H6 N' vs' pcs' z1 z2 z3 z4 z5=>nx H6 N' vs' pcs' ql' l2 _ _ z1 hne.symm z2 z3 z4 z5
end
section
variable {P:Program}{w:World}{K:W.Frag}{mg:Str->Option Value}{base:Heap}
variable {f fT fL:Addr}{fdT fdL:FuncData}{cdv:Value}{A:Around}{outer:List Env}{s:Shared}{H0:Hp}{E:XK}
def Told (H:Hp)(p:Addr)(mt mp:Int)(R:VK):Prop:=∀ (b:Addr) (N' w:Int) (mays:List Int) (pcs:List (List Int×Int)) (H':Hp),0<=N'->H' p=some (.lst [.int N'])->BoxAt H' b w mays pcs->Good mt mp w mays pcs->Keep H H' p->R (.ref b) H'
theorem jEZ (T:Txt mg)(CT:Can P w K mg base "_law_take" 1 fT fdT ["pot","wide"] kT)(CL:Can P w K mg base "_law_lot" 2 fL fdL ["pot","wide"] yS)(hr:Room 2 (XBox P w K mg base f cdv A outer s H0 E).A)
  {D:Ends}{H H5:Hp}{p qm ql:Addr}{mt mp w N:Int}{mays lf:List Int}{v6 v7 v8 v9 v10:Option V}
  (S:St0 H H5 p w qm ql mays lf N) (hpH:∃ o,H p=some o) (w0:0<=w) (w1:w<=mt) (w2:mt<=16) (n0:0<=mp) (n1:mp<=32) (q:Told H p mt mp D.rt):
  (boxC T CT CL hr).1 D [some (.ref p),some (.int mt),some (.int mp),some (.int w),some (.ref qm),some (.ref ql),v6,v7,v8,v9,v10] H5:=by
 refine⟨(by show 3<=sizeLine; decide),fun l hl=>?_⟩
 have pl:p≠l:=jA S.hp hl
 refine⟨_,rfl,p,N,3,rfl,by rw[j9 pl]; exact S.hp,S.hN,by decide,by decide,fun N1 r a1 a2 a3=>?_⟩
 obtain⟨far,hfar,hf⟩:∃ far:Int,atI [V.int 1,V.int 10,V.int 2000000000001] r=some (.int far)/\(far=1\/far=10\/far=2000000000001):=by
  rcases (show r=0\/r=1\/r=2 by omega) with e | e | e
  ·subst e; exact⟨_,rfl, .inl rfl⟩
  ·subst e; exact⟨_,rfl, .inr (.inl rfl)⟩
  ·subst e; exact⟨_,rfl, .inr (.inr rfl)⟩
 refine⟨l,_,r,_,rfl,rfl,SqL.of (by rw[j9 pl.symm]; exact j4),hfar,?_⟩
 have S1:=S.step ((((Keep.refl _ _).new hl (.lst [V.int 1,V.int 10,V.int 2000000000001])).upd (.lst [.int N1]))) j4 a1
 generalize upd (upd H5 l (.lst [V.int 1,V.int 10,V.int 2000000000001])) p (.lst [.int N1])=H6 at S1 ⊢
 clear hl S
 refine⟨(by show 0<=sizeLine; exact aP _),fun qp hqp=>?_⟩
 have pq:p≠qp:=jA S1.hp hqp
 have hHq:H qp=none:=by
  cases e:H qp with
  | none=>rfl
  | some o=>
   have:=S1.kp _ _ e pq.symm
   rw[hqp] at this
   cases this
 have lq:ql≠qp:=jA S1.hl hqp
 have S2:=S1.step ((Keep.refl _ _).new hqp (.lst [])) (by rw[j9 pq]; exact S1.hp) S1.hN
 have hq2:(upd H6 qp (.lst [])) qp=some (.lst []):=j4
 generalize upd H6 qp (.lst [])=H7 at S2 hq2 ⊢
 clear hqp S1
 refine⟨_,rfl,_,rfl,_,_,rfl,rfl,p,N1,_,rfl,S2.hp,S2.hN,by omega,by omega,fun N2 n b1 b2 b3=>?_⟩
 refine⟨_,rfl,_,_,rfl,rfl, .inr ⟨_,rfl,_,_,rfl,rfl, .inl ⟨by omega,by omega⟩,_,rfl,?_⟩⟩
 have S3:=S2.step ((Keep.refl _ _).upd (.lst [.int N2])) j4 b1
 have hq3:(upd H7 p (.lst [.int N2])) qp=some (.lst []):=by rw[j9 pq.symm]; exact hq2
 generalize upd H7 p (.lst [.int N2])=H8 at S3 hq3 ⊢
 clear S2 hq2
 obtain⟨m,em,hm,hw⟩:∃ m:Int,n*(if decide (0<w)=true then 1 else 0)=m/\(0<=m/\m<=mp)/\(0<m->1<=w):=by
  by_cases h:0<w
  ·exact⟨n,by simp [h],⟨b2,by omega⟩,fun _=>h⟩
  ·exact⟨0,by simp [h],⟨by omega,n0⟩,fun z=>by omega⟩
 show _/\_/\_
 rw[show (n*(if decide (0<w)=true then 1 else 0))=m from em]
 refine⟨by omega,by omega,jAG (n:=m.toNat) (fun i σ H5=>∃ ql' lf' N' vs pcs v8 v9 v10,σ=[some (.ref p),some (.int mt),some (.int mp),some (.int w),some (.ref qm),some (.ref ql'),some (.int far),some (.ref qp),v8,v9,v10]/\St0 H H5 p w qm ql' mays lf' N'/\ql'≠qp/\H5 qp=some (.lst vs)/\PcsAt H5 vs pcs/\(∀ pc∈pcs,GoodPc w pc)/\pcs.length=i) ?_ ?_ ?_⟩
 ·exact⟨ql,lf,N2,[],[],_,_,_,rfl,S3,lq,hq3,trivial,(fun _ h=>by cases h),rfl⟩
 ·rintro i σ H9 hi ⟨ql',lf',N',vs,pcs,x8,x9,x10,rfl,S4,l4,hq4,hv4,hg4,e4⟩
  exact jJZ T CT CL hr S4 hq4 hv4 hg4 hf (by omega) hHq pq (hw (by omega)) (by omega) fun H6 N' vs' pcs' ql' lf' v9' v10' z1 z2 z3 z4 z5 z6=>⟨ql',lf',N',vs',pcs',_,_,_,rfl,z1,z2,z3,z4,z5,by omega⟩
 ·rintro σ H9 ⟨ql',lf',N',vs,pcs,x8,x9,x10,rfl,S4,l4,hq4,hv4,hg4,e4⟩
  refine⟨_,rfl,_,rfl,_,rfl,qp,vs,rfl, .inl ⟨SqL.of hq4,fun tq htq=>⟨(by show 3<=sizeLine; decide),fun b hb=>?_⟩⟩⟩
  have k1:Keep H9 (upd H9 tq (.tup vs)) p:=(Keep.refl _ _).new htq _
  have k2:Keep H9 (upd (upd H9 tq (.tup vs)) b (.tup [.int w, .ref qm, .ref tq])) p:=k1.new hb _
  have tb:=jA j4 hb
  have S5:=S4.step k2 (by rw[j9 (kY hb |>.2 |> fun h=>jA S4.hp h),j9 (jA S4.hp htq)]; exact S4.hp) S4.hN
  exact q b N' w mays pcs _ S4.hN S5.hp ⟨qm,tq,vs,j4,S5.hm,by rw[j9 tb]; exact j4,hv4.mono (k2.tups S4.hp)⟩ ⟨w0,w1,S4.rm,by omega,hg4⟩ S5.kp
end
section
variable {P:Program}{w:World}{K:W.Frag}{mg:Str->Option Value}{base:Heap}
section
variable {f fT fL:Addr}{fdT fdL:FuncData}{cdv:Value}{A:Around}{outer:List Env}{s:Shared}{H0:Hp}{E:XK}
theorem jF0 (T:Txt mg)(CT:Can P w K mg base "_law_take" 1 fT fdT ["pot","wide"] kT)(CL:Can P w K mg base "_law_lot" 2 fL fdL ["pot","wide"] yS)(hr:Room 2 (XBox P w K mg base f cdv A outer s H0 E).A)
  {D:Ends}{H H5:Hp}{p qm:Addr}{mt mp w N:Int}{mays:List Int}{v5 v6 v7 v8 v9 v10:Option V}
  (hp:H5 p=some (.lst [.int N])) (hN:0<=N) (hm:H5 qm=some (.tup (mays.map V.int))) (rm:Ris w mays) (kp:Keep H H5 p) (hpH:∃ o,H p=some o) (w0:0<=w) (w1:w<=mt) (w2:mt<=16) (n0:0<=mp) (n1:mp<=32) (q:Told H p mt mp D.rt):
  (boxB T CT CL hr).1 D [some (.ref p),some (.int mt),some (.int mp),some (.int w),some (.ref qm),v5,v6,v7,v8,v9,v10] H5:=by
 refine⟨_,rfl,w,rfl,fun x hx=>⟨x,w,rfl,j4,w0,by omega,fun ql hql=>?_⟩⟩
 rw[jJC]
 have px:p≠x:=jA hp hx
 have pl:p≠ql:=jA hp (kY hql).2
 have k1:Keep H5 (upd (upd H5 x (.rng 0 w)) ql (.lst ((upto w.toNat).map V.int))) p:=((Keep.refl _ _).new hx _).new hql _
 have e:((w.toNat:Nat):Int)=w:=by omega
 have rl:Ris w (upto w.toNat):=by
  have:=jK9 w.toNat
  rw[e] at this
  exact this
 have S:St0 H (upd (upd H5 x (.rng 0 w)) ql (.lst ((upto w.toNat).map V.int))) p w qm ql mays (upto w.toNat) N:=
  ⟨by rw[j9 pl,j9 px]; exact hp,hN,k1 qm _ hm (ne_of hm hp (by intro z; cases z)),rm,j4,rl,pl.symm,kp.trans k1⟩
 generalize upd (upd H5 x (.rng 0 w)) ql (.lst ((upto w.toNat).map V.int))=H6 at S ⊢
 clear k1 hql hx hp hm kp
 refine⟨_,rfl,p,N,3,rfl,S.hp,S.hN,by decide,by decide,fun N1 r a1 a2 a3=>⟨rfl,_,rfl,?_⟩⟩
 have S1:=S.step ((Keep.refl _ _).upd (.lst [.int N1])) j4 a1
 generalize upd H6 p (.lst [.int N1])=H7 at S1 ⊢
 clear S
 refine ite2 (fun hy=>?_) (fun hy=>?_)
 ·refine⟨(by show 0<=sizeLine; exact aP _),fun l hl=>?_⟩
  have pl2:p≠l:=jA S1.hp hl
  have S2:=S1.step ((Keep.refl _ _).new hl (.lst [])) (by rw[j9 pl2]; exact S1.hp) S1.hN
  have S3:St0 H (upd H7 l (.lst [])) p w qm l mays [] N1:=⟨S2.hp,S2.hN,S2.hm,S2.rm,j4,Ris.nil w,pl2.symm,S2.kp⟩
  exact jEZ T CT CL hr S3 hpH w0 w1 w2 n0 n1 q
 ·exact jEZ T CT CL hr S1 hpH w0 w1 w2 n0 n1 q
theorem jK0 (T:Txt mg)(CT:Can P w K mg base "_law_take" 1 fT fdT ["pot","wide"] kT)(CL:Can P w K mg base "_law_lot" 2 fL fdL ["pot","wide"] yS)(hr:Room 2 (XBox P w K mg base f cdv A outer s H0 E).A)
  {D:Ends}{H:Hp}{p:Addr}{mt mp N:Int}
  (hp:H p=some (.lst [.int N])) (hN:0<=N) (w0:0<=mt) (w2:mt<=16) (n0:0<=mp) (n1:mp<=32) (q:Told H p mt mp D.rt):
  (boxA T CT CL hr).1 D [some (.ref p),some (.int mt),some (.int mp),none,none,none,none,none,none,none,none] H:=by
 refine⟨_,rfl,_,rfl,_,_,rfl,rfl,p,N,_,rfl,hp,hN,by omega,by omega,fun N1 w a1 a2 a3=>?_⟩
 refine⟨(by show 0<=sizeLine; exact aP _),fun t ht=>?_⟩
 have pt:p≠t:=(kY ht).1.symm
 refine⟨_,rfl,p,N1,3,rfl,by rw[j9 pt]; exact j4,a1,by decide,by decide,fun N2 r b1 b2 b3=>⟨rfl,_,rfl,?_⟩⟩
 have k1:Keep H (upd (upd (upd H p (.lst [.int N1])) t (.tup [])) p (.lst [.int N2])) p:=(((Keep.refl _ _).upd _).new ht _).upd _
 have hp1:(upd (upd (upd H p (.lst [.int N1])) t (.tup [])) p (.lst [.int N2])) p=some (.lst [.int N2]):=j4
 have ht1:(upd (upd (upd H p (.lst [.int N1])) t (.tup [])) p (.lst [.int N2])) t=some (.tup []):=by rw[j9 pt.symm]; exact j4
 generalize upd (upd (upd H p (.lst [.int N1])) t (.tup [])) p (.lst [.int N2])=H1 at k1 hp1 ht1 ⊢
 clear ht
 refine ite2 (fun hy=>?_) (fun hy=>?_)
 ·refine⟨_,rfl,w,rfl,by omega,by omega,jAT (n:=w.toNat) (by rw[aj]; omega) (fun D i σ' H' ys=>(∃ v,σ'=[v,some (.ref p)])/\(∃ (ms:List Int) (N':Int),ys=ms.map V.int/\ms.length<=i/\Ris i ms/\0<=N'/\H' p=some (.lst [.int N']))/\Keep H1 H' p/\H' D=some (.lst ys)/\D≠p/\H1 D=none) ?_ ?_ ?_ ?_⟩
  ·intro D hD
   have:p≠D:=jA hp1 hD
   exact⟨⟨_,rfl⟩,⟨[],N2,rfl,af _,Ris.nil _,b1,by rw[j9 this]; exact hp1⟩,(Keep.refl _ _).new hD _,j4,this.symm,hD⟩
  ·rintro D i σ' H' ys hD hi ⟨_,⟨ms,N',rfl,e,_⟩,_,e2,_⟩
   exact⟨e2,by rw[ab]; exact e⟩
  ·rintro D i σ' H' ys hD hi ⟨⟨v,rfl⟩,⟨ms,N',rfl,e,rs,n',hp'⟩,kk,e2,dp,hn⟩
   refine⟨_,rfl,p,N',3,rfl,hp',n',by decide,by decide,fun N3 r3 c1 c2 c3=>⟨rfl,_,rfl,?_⟩⟩
   have k2:Keep H1 (upd H' p (.lst [.int N3])) p:=kk.upd _
   have e3:(upd H' p (.lst [.int N3])) D=some (.lst (ms.map V.int)):=by rw[j9 dp]; exact e2
   have hp3:(upd H' p (.lst [.int N3])) p=some (.lst [.int N3]):=j4
   generalize upd H' p (.lst [.int N3])=H'' at k2 e3 hp3 ⊢
   refine ite2 (fun hz=>?_) (fun hz=>?_)
   ·refine⟨_,rfl,e3,⟨_,rfl⟩,⟨ms++[(i:Int)],N3,?_,?_,rs.snoc,c1,by rw[j9 dp.symm]; exact hp3⟩,k2.updNew hn _,j4,dp,hn⟩
    ·rw[aI]
     show _++[V.int (0+(i:Int))]=_++[V.int (i:Int)]
     rw[cQ]
    ·rw[aJ]
     show ms.length+1<=i+1
     omega
   ·exact⟨⟨_,rfl⟩,⟨ms,N3,rfl,by omega,rs.step,c1,hp3⟩,k2,e3,dp,hn⟩
  ·rintro D σ' H' ys hD ⟨_,⟨ms,N',rfl,e,rs,n',hp'⟩,kk,e2,dp,hn⟩
   refine⟨D,_,rfl, .inl ⟨SqL.of e2,fun qm hqm=>?_⟩⟩
   have pm:p≠qm:=jA hp' hqm
   have e':((w.toNat:Nat):Int)=w:=by omega
   rw[e'] at rs
   exact jF0 T CT CL hr (by rw[j9 pm]; exact hp') n' j4 rs ((k1.trans kk).new hqm _) ⟨_,hp⟩ a2 (by omega) w2 n0 n1 q
 ·exact jF0 T CT CL hr hp1 b1 (mays:=[]) ht1 (Ris.nil w) k1 ⟨_,hp⟩ a2 (by omega) w2 n0 n1 q
end
theorem jOB {f fT fL:Addr}{fd fdT fdL:FuncData}(F:Fun K "_law_box" "_law_box" sBox f fd)(T:Txt mg)(CT:Can P w K mg base "_law_take" 1 fT fdT ["pot","wide"] kT)(CL:Can P w K mg base "_law_lot" 2 fL fdL ["pot","wide"] yS):
  FnOk P w K mg base CX0 3 f fd ["pot","most_things","most_pieces"] spBox:=by
 refine F.ok scBox (fun vs H Q E h=>?_) (fun cdv A outer s H vs Q E hr h=>?_)
 ·obtain⟨_,_,_,_,rfl,_⟩:=h
  rfl
 ·obtain⟨p,N,mt,mp,rfl,hp,hN,m0,m1,n0,n1,q⟩:=h
  exact⟨_,(boxA T CT CL hr).2.h,jK0 T CT CL hr hp hN m0 m1 n0 n1 q⟩
end
inductive Ob where
 | int (i:Int)
 | oth
 | tup (os:List Ob)
def OthAt (H:Hp)(v:V):Prop:=v= .non\/(∃ b,v= .bl b)\/(∃ x,v= .str x)\/∃ a,v= .ref a/\((∃ xs,H a=some (.lst xs))\/∃ kvs,H a=some (.dK kvs))
mutual
def At (H:Hp):Ob->V->Prop
 | .int i,v=>v= .int i
 | .oth,v=>OthAt H v
 | .tup os,v=>∃ a vs,v= .ref a/\H a=some (.tup vs)/\vs.length<=100/\Ats H os vs
def Ats (H:Hp):List Ob->List V->Prop
 | [],vs=>vs=[]
 | o::os,vs=>∃ v r,vs=v::r/\At H o v/\Ats H os r
end
structure Kp (H H':Hp):Prop where
 t:Tups H H'
 l:∀ a xs,H a=some (.lst xs)->∃ ys,H' a=some (.lst ys)
 d:∀ a xs,H a=some (.dK xs)->∃ ys,H' a=some (.dK ys)
theorem Kp.of {H H':Hp}(e:Ext H H'):Kp H H':=⟨fun b xs h=>e b _ h,fun a xs h=>⟨xs,e a _ h⟩,fun a xs h=>⟨xs,e a _ h⟩⟩
theorem Kp.keep {H H':Hp}{p:Addr}{xs ys:List V}(k:Keep H H' p)(hp:H p=some (.lst xs))(hp':H' p=some (.lst ys)):Kp H H':=by
 refine⟨k.tups hp,fun a zs h=>?_,fun a zs h=>⟨zs,k a _ h (ne_of h hp (by intro z; cases z))⟩⟩
 by_cases e:a=p
 ·subst e
  exact⟨ys,hp'⟩
 ·exact⟨zs,k a _ h e⟩
theorem OthAt.mono {H H':Hp}(k:Kp H H'){v:V}(h:OthAt H v):OthAt H' v:=by
 rcases h with h | h | h | ⟨a,rfl,⟨xs,h⟩ | ⟨xs,h⟩⟩
 ·exact .inl h
 ·exact .inr (.inl h)
 ·exact .inr (.inr (.inl h))
 ·exact .inr (.inr (.inr ⟨a,rfl, .inl (k.l _ _ h)⟩))
 ·exact .inr (.inr (.inr ⟨a,rfl, .inr (k.d _ _ h)⟩))
mutual
theorem At.mono {H H':Hp}(k:Kp H H'):∀ (o:Ob) (v:V),At H o v->At H' o v
 | .int _,_,h=>h
 | .oth,_,h=>OthAt.mono k h
 | .tup os,_,⟨a,vs,e,h,n,r⟩=>⟨a,vs,e,k.t _ _ h,n,Ats.mono k os vs r⟩
theorem Ats.mono {H H':Hp}(k:Kp H H'):∀ (os:List Ob) (vs:List V),Ats H os vs->Ats H' os vs
 | [],_,h=>h
 | o::os,_,⟨v,r,e,h,t⟩=>⟨v,r,e,At.mono k o v h,Ats.mono k os r t⟩
end
theorem At.ext {H H':Hp}(e:Ext H H'){o:Ob}{v:V}(h:At H o v):At H' o v:=At.mono (.of e) o v h
theorem Ats.ext {H H':Hp}(e:Ext H H'){o:List Ob}{v:List V}(h:Ats H o v):Ats H' o v:=Ats.mono (.of e) o v h
theorem Ats.len {H:Hp} :∀ {os:List Ob}{vs:List V},Ats H os vs->vs.length=os.length
 | [],_,h=>by cases (show _=[] from h); rfl
 | o::os,_,⟨v,r,e,h,t⟩=>by rw[e,bg,bg,Ats.len t]
theorem Ats.get {H:Hp} :∀ {os:List Ob}{vs:List V},Ats H os vs->∀ {i:Nat}{v:V},vs[i]?=some v->∃ o,os[i]?=some o/\At H o v
 | [],_,h,i,v,e=>by cases (show _=[] from h); cases e
 | o::os,_,⟨v,r,e,h,t⟩,0,v',e'=>by subst e; cases e'; exact⟨o,rfl,h⟩
 | o::os,_,⟨v,r,e,h,t⟩,i+1,v',e'=>by subst e; exact Ats.get t (i:=i) e'
theorem Ats.append {H:Hp} :∀ {os:List Ob}{vs:List V}{os2:List Ob}{vs2:List V},Ats H os vs->Ats H os2 vs2->Ats H (os++os2) (vs++vs2)
 | [],_,_,_,h,h2=>by cases (show _=[] from h); exact h2
 | o::os,_,_,_,⟨v,r,e,h,t⟩,h2=>by subst e; exact⟨v,_,rfl,h,Ats.append t h2⟩
theorem Ats.take {H:Hp} :∀ {os:List Ob}{vs:List V}(k:Nat),Ats H os vs->Ats H (os.take k) (vs.take k)
 | [],_,k,h=>by cases (show _=[] from h); cases k <;> rfl
 | o::os,_,0,_=>rfl
 | o::os,_,k+1,⟨v,r,e,h,t⟩=>by subst e; exact⟨v,_,rfl,h,Ats.take k t⟩
theorem Ats.drop {H:Hp} :∀ {os:List Ob}{vs:List V}(k:Nat),Ats H os vs->Ats H (os.drop k) (vs.drop k)
 | [],_,k,h=>by cases (show _=[] from h); cases k <;> rfl
 | o::os,_,0,h=>h
 | o::os,_,k+1,⟨v,r,e,h,t⟩=>by subst e; exact Ats.drop k t
def isInt:Ob->Bool
 | .int _=>true
 | _=>false
def isTup:Ob->Bool
 | .tup _=>true
 | _=>false
def val:Ob->Int
 | .int i=>i
 | _=>0
theorem jLU (l:List Ob)(F:Ob->Bool):(l.map F).all id=l.all F:=by
 rw[all_map]
 rfl
theorem At.ty (K:W.Frag){H:Hp}{o:Ob}{v:V}(h:At H o v):∃ t,TyOf K H v t/\kitOne K t (.type "tuple")=some (isTup o)/\∃ b1 b2,kitOne K t (.type "int")=some b1/\kitOne K t (.type "bool")=some b2/\(b1&&!b2)=isInt o:=by
 cases o with
 | int i=>
  cases (show v= .int i from h)
  exact⟨_, .int i,rfl,true,false,rfl,rfl,rfl⟩
 | oth=>
  rcases (show OthAt H v from h) with rfl | ⟨b,rfl⟩ | ⟨x,rfl⟩ | ⟨a,rfl,⟨xs,e⟩ | ⟨xs,e⟩⟩
  ·exact⟨_, .non,rfl,false,false,rfl,rfl,rfl⟩
  ·exact⟨_, .bl b,rfl,true,true,rfl,rfl,rfl⟩
  ·exact⟨_, .str x,rfl,false,false,rfl,rfl,rfl⟩
  ·exact⟨_, .lst e,rfl,false,false,rfl,rfl,rfl⟩
  ·exact⟨_, .dK e,rfl,false,false,rfl,rfl,rfl⟩
 | tup os=>
  obtain⟨a,vs,rfl,e,_⟩:=h
  exact⟨_, .tup e,rfl,false,false,rfl,rfl,rfl⟩
theorem At.tupOf {H:Hp}{o:Ob}{v:V}(h:At H o v)(t:isTup o=true):∃ os a vs,o= .tup os/\v= .ref a/\H a=some (.tup vs)/\vs.length<=100/\Ats H os vs:=by
 cases o with
 | int i=>cases t
 | oth=>cases t
 | tup os=>
  obtain⟨a,vs,e1,e2,e4,e3⟩:=h
  exact⟨os,a,vs,rfl,e1,e2,e4,e3⟩
theorem jEQ {K:W.Frag}{m:List (Option Nat)}{g:TG}{tt:TT}{te:TE}{σ:St}{H1:Hp}{Q:VK}{a:Addr}{xs:List V}{os:List Ob}{F:Ob->Bool}(ha:H1 a=some (.tup xs))(hx:Ats H1 os xs)(hn:xs.length<sizeLine)(σP:St->Prop)(h0:σP (blkσ m σ))
  (step:∀ (σ':St) (H':Hp) (v:V) (o:Ob) (R:St->V->Hp->Prop) (S:St->Hp->Prop),σP σ'->Ext H1 H'->At H' o v->(∀ σ2 H'',σP σ2->Ext H' H''->R σ2 (.bl (F o)) H'')->g v σ' H' fun σ2 H2=>tt σ2 H2 fun b H3=>if b=true then te σ2 H3 (R σ2) else S σ2 H3)
  (hd:∀ D H',Ext H1 H'->H' D=some (.lst ((os.map F).map V.bl))->Q (.ref D) H'):CompW m g tt te σ Q (Itt K a) H1:=by
 have hl:=hx.len
 refine jGS (xs:=xs) hn (fun D i σ' H' zs=>σP σ'/\Ext H1 H'/\H' D=some (.lst zs)/\H1 D=none/\zs=((os.take i).map F).map V.bl) ?_ ?_ ?_ ?_
 ·intro D hD
  exact⟨h0,(Ext.refl _).new hD _,j4,hD,rfl⟩
 ·rintro D i σ' H' zs hD ⟨_,e,h2,_,rfl⟩
  refine⟨e _ _ ha,h2,?_⟩
  rw[ab,ab,bI]
  omega
 ·rintro D i σ' H' zs x hD hi ⟨p,e,h2,hn,rfl⟩
  obtain⟨o,ho,hAt⟩:=hx.get hi
  refine step σ' H' x o _ _ p e (hAt.ext e) fun σ2 H'' p2 e2=>⟨e2 _ _ h2,p2,(e.trans e2).updNew hn _,j4,hn,?_⟩
  have:os.take (i+1)=os.take i++[o]:=by
   rw[bv,ho]
   rfl
  rw[this,aI,aI]
  rfl
 ·rintro D σ' H' zs hD ⟨_,e,h2,_,rfl⟩
  rw[hl,d8] at h2
  exact hd D H' e h2
section
variable {P:Program}{w:World}{K:W.Frag}{mg:Str->Option Value}{base:Heap}
noncomputable abbrev XOf (N:List Str)(q:Str)(st:Stmt)(P:Program)(w:World)(K:W.Frag)(mg:Str->Option Value)(base:Heap)(f:Addr)(cdv:Value)(A:Around)(outer:List Env)(s:Shared)(H:Hp)(E:XK):Cx:=(cxOf CX0 P w K mg base N q (j7 st) f cdv A outer s H E).nox
variable {f fW fR:Addr}{fdW fdR:FuncData}{cdv:Value}{A:Around}{outer:List Env}{s:Shared}{H0:Hp}{E:XK}
abbrev jIQ:List Str:=["thing"]
theorem scWhole0:FnScope jIQ ["thing"] (j7 jAI):=⟨rfl,rfl,rfl,by decide+kernel,rfl,by decide+kernel,by decide+kernel⟩
def spWh:Sp:=fun vs H Q _=>∃ v o,vs=[v]/\At H o v/\Q (.bl (isInt o)) H
def jLW (T:Txt mg): { t:TS // JSs (XOf jIQ "is_whole" jAI P w K mg base f cdv A outer s H0 E) (jB jAI) t} :=
 have nd:=scWhole0.nd
 ⟨_,(jC (jX ((jEM (jI jA4 gD T.isinstance (by decide+kernel) (j0 (jv 0 rfl vL) (j0 (jB5 (v:= .ty "int") gD T.int (by decide+kernel) rfl) j5 j3) j3) j3) (jEL (jJ4 (jI jA4 gD T.isinstance (by decide+kernel) (j0 (jv 0 rfl vL) (j0 (jB5 (v:= .ty "bool") gD T.bool (by decide+kernel) rfl) j5 j3) j3) j3)))))))⟩
theorem jIL {fd:FuncData}(F:Fun K "is_whole" "is_whole" jAI f fd)(T:Txt mg):FnOk P w K mg base CX0 1 f fd ["thing"] spWh:=by
 refine F.ok scWhole0 (fun vs H Q E h=>?_) (fun cdv A outer s H vs Q E hr h=>?_)
 ·obtain⟨_,_,rfl,_⟩:=h
  rfl
 ·obtain⟨v,o,rfl,hA,q⟩:=h
  obtain⟨t,ty,_,b1,b2,k1,k2,e⟩:=hA.ty K
  refine⟨_,(jLW T).2.h,?_⟩
  refine⟨_,rfl,_,_,_,b1,rfl,ty,k1,b1,rfl,?_⟩
  rw[<- e] at q
  cases b1 with
  | true=>exact iteT ⟨_,rfl,_,_,_,b2,rfl,ty,k2,b2,rfl,q⟩
  | false=>exact iteF q
def spB (F:Ob->Bool):Sp:=fun vs H Q _=>∃ v o,vs=[v]/\At H o v/\∀ H',Ext H H'->Q (.bl (F o)) H'
end
end Eo
end
section
namespace L2
open PySem
theorem px_un {op:UnaryOp}{a:Expr}{pos:Pos} :jB6 (.UnaryOp op a pos):=fun _ _=>rfl
theorem jK5 {α:Type}{xs:List α}{v:α}(h:xs[xs.length - 1]?=some v):atI xs (-1)=some v:=by
 have hj:xs.length - 1<xs.length:=(ar.mp h).1
 have e:ixN xs.length (-1)=some (xs.length - 1):=by
  unfold ixN
  rw[am (by omega),ah (by omega)]
  congr 1
  omega
 unfold atI
 rw[e]
 exact h
theorem qb {Q:VK}{H:Hp}{a b:Bool}(q:Q (.bl a) H)(e:a=b):Q (.bl b) H:=e ▸ q
end L2
namespace Eo
open PySem L2
section
variable {P:Program}{w:World}{K:W.Frag}{mg:Str->Option Value}{base:Heap}
variable {f fW fR fL fG fI fPs:Addr}{fdW fdR fdL fdG fdI fdPs:FuncData}{cdv:Value}{A:Around}{outer:List Env}{s:Shared}{H0:Hp}{E:XK}
end
end Eo
end
section
namespace L2
open PySem
section
variable {P:Program}{w:World}{K:W.Frag}{mg:Str->Option Value}{base:Heap}{N:List Str}{qual:Str}{sc:Scope}{f:Addr}{cdv:Value}{A:Around}{outer:List Env}{s:Shared}{H:Hp}{E:XK}{x y z:Str}{p1 p2 p3 pos:Pos}{k i j l:Nat}
theorem jGH (hN:N.Nodup)(hi:N[i]?=some x)(hj:N[j]?=some y)(hx:sc.names.lookup x=some .local)(hy:sc.names.lookup y=some .local):
  JG (cxOf CX0 P w K mg base N qual sc f cdv A outer s H E).nox (.Tuple [.Name x p1, .Name y p2] k pos) (gTup K 2 (gCons (kJ i) (gCons (kJ j) gNil))):=
 jLO (X:=(cxOf CX0 P w K mg base N qual sc f cdv A outer s H E).nox) rfl (jC3 (jL hN hi (loc_l hx)) (jC3 (jL hN hj (loc_l hy)) jJ3 jE0) jE0)
end
end L2
namespace L2
open PySem
section
variable {K:W.Frag}{m:List (Option Nat)}{g:TG}{tt:TT}{te:TE}{σ:St}{H1:Hp}{Q:VK}
end
end L2
namespace Eo
open PySem L2
theorem jA9 (l:List Int):(l.map V.int).all flatV=true:=by
 rw[bq]
 intro x hx
 obtain⟨i,_,rfl⟩:=bw.mp hx
 rfl
theorem jAN (i:Int)(l:List Int):inV (.int i) (l.map V.int)=decide (i∈l):=by
 unfold inV
 rw[bR,dZ,decide_eq_true_iff]
 constructor
 ·rintro ⟨x,hx,e⟩
  obtain⟨j,hj,rfl⟩:=bw.mp hx
  have:j=i:=eq_of_beq e
  rw[<- this]
  exact hj
 ·intro h
  exact⟨.int i,bw.mpr ⟨i,h,rfl⟩,by simp [eqV]⟩
theorem PcsAt.get {H:Hp} :∀ {vs:List V}{ps:List (List Int×Int)},PcsAt H vs ps->∀ {k:Nat},k<ps.length->∃ v,vs[k]?=some v/\PcAt H v (ps.getD k ([],0))
 | v::vs,p::ps,h,0,_=>⟨v,rfl,h.1⟩
 | v::vs,p::ps,h,k+1,hk=>PcsAt.get h.2 (k:=k) (by simpa using hk)
 | [],[],_,k,hk=>absurd hk (be _)
 | [],_::_,h,_,_=>h.elim
 | _::_,[],h,_,_=>h.elim
theorem Good.at {mt mp w:Int}{ms:List Int}{pcs:List (List Int×Int)}(g:Good mt mp w ms pcs){k:Nat}(hk:k<pcs.length):GoodPc w (pcs.getD k ([],0)):=by
 have e:pcs.getD k ([],0)=pcs[k]:=by simp [List.getD,hk]
 rw[e]
 exact g.pg _ (cV hk)
theorem jLS (H:Hp):At H .oth .non:= .inl rfl
theorem at_bl (H:Hp)(b:Bool):At H .oth (.bl b):= .inr (.inl ⟨b,rfl⟩)
theorem jOT (H:Hp)(x:Str):At H .oth (.str x):= .inr (.inr (.inl ⟨x,rfl⟩))
theorem jBL (H:Hp)(i:Int):At H (.int i) (.int i):=rfl
theorem jOU {H:Hp}{a:Addr}{xs:List V}(h:H a=some (.lst xs)):At H .oth (.ref a):= .inr (.inr (.inr ⟨a,rfl, .inl ⟨xs,h⟩⟩))
theorem jOV {H:Hp}{a:Addr}{xs:List (Key×V)}(h:H a=some (.dK xs)):At H .oth (.ref a):= .inr (.inr (.inr ⟨a,rfl, .inr ⟨xs,h⟩⟩))
theorem jBK {H:Hp}{a:Addr}{vs:List V}{os:List Ob}(h:H a=some (.tup vs))(n:vs.length<=100)(r:Ats H os vs):At H (.tup os) (.ref a):=⟨a,vs,rfl,h,n,r⟩
theorem ats0 (H:Hp):Ats H [] []:=rfl
theorem ats1 {H:Hp}{o:Ob}{v:V}{os:List Ob}{vs:List V}(h:At H o v)(r:Ats H os vs):Ats H (o::os) (v::vs):=⟨v,vs,rfl,h,r⟩
theorem iteT' {A B:Prop}{c:Bool}(hc:c=true)(h:A):if c=true then A else B:=by
 rw[ah hc]
 exact h
section
variable {P:Program}{w:World}{K:W.Frag}{mg:Str->Option Value}{base:Heap}
variable {f fW fR fU:Addr}{fdW fdR fdU:FuncData}{cdv:Value}{A:Around}{outer:List Env}{s:Shared}{H0:Hp}{E:XK}
abbrev jLL:List Str:=["found"]
theorem scWhole:FnScope jLL ["found"] (j7 jBA):=⟨rfl,rfl,rfl,by decide+kernel,rfl,by decide+kernel,by decide+kernel⟩
def jN9 (T:Txt mg): { t:TS // JSs (XOf jLL "_law_whole" jBA P w K mg base f cdv A outer s H0 E) (jB jBA) t} :=
 have nd:=scWhole.nd
 ⟨_,(jC (jX ((jEM (jI jA4 gD T.isinstance (by decide+kernel) (j0 (jv 0 rfl vL) (j0 (jB5 (v:= .ty "int") gD T.int (by decide+kernel) rfl) j5 j3) j3) j3) (jEL (jJ4 (jI jA4 gD T.isinstance (by decide+kernel) (j0 (jv 0 rfl vL) (j0 (jB5 (v:= .ty "bool") gD T.bool (by decide+kernel) rfl) j5 j3) j3) j3)))))))⟩
theorem jKM {fd:FuncData}(F:Fun K "_law_whole" "_law_whole" jBA f fd)(T:Txt mg):FnOk P w K mg base CX0 1 f fd ["found"] spWh:=by
 refine F.ok scWhole (fun vs H Q E h=>?_) (fun cdv A outer s H vs Q E hr h=>?_)
 ·obtain⟨_,_,rfl,_⟩:=h
  rfl
 ·obtain⟨v,o,rfl,hA,q⟩:=h
  obtain⟨t,ty,_,b1,b2,k1,k2,e⟩:=hA.ty K
  refine⟨_,(jN9 T).2.h,?_⟩
  refine⟨_,rfl,_,_,_,b1,rfl,ty,k1,b1,rfl,?_⟩
  rw[<- e] at q
  cases b1 with
  | true=>exact iteT ⟨_,rfl,_,_,_,b2,rfl,ty,k2,b2,rfl,q⟩
  | false=>exact iteF q
end
theorem _root_.L2.Ext.tups {H H':Hp}(e:Ext H H'):Tups H H':=fun b xs h=>e b _ h
theorem PcsAt.snoc {H:Hp}{v:V}{p:List Int×Int}(hv:PcAt H v p):∀ {vs:List V}{ps:List (List Int×Int)},PcsAt H vs ps->PcsAt H (vs++[v]) (ps++[p])
 | [],[],_=>⟨hv,trivial⟩
 | x::vs,q::ps,h=>⟨h.1,PcsAt.snoc hv h.2⟩
 | [],_::_,h=>h.elim
 | _::_,[],h=>h.elim
def mus (mays:List Int)(n:Nat):List Int:=((List.range n).filter fun (t:Nat)=>!decide ((t:Int)∈mays)).map fun (t:Nat)=>(t:Int)
theorem jGC (mays:List Int)(n:Nat):mus mays (n+1)=mus mays n++(if (!decide ((n:Int)∈mays))=true then [(n:Int)] else []):=by
 unfold mus
 rw[cG,cJ,aI]
 congr 1
 rw[List.filter_cons]
 split <;> rfl
theorem jDP (mays:List Int)(n:Nat):(mus mays n).length<=n:=by
 unfold mus
 rw[ab]
 exact aZ (bO _ _) (by rw[ao]; exact af _)
theorem Keep.ext {H H':Hp}{p:Addr}{o:HO}(k:Keep (L2.upd H p o) H' p)(hp:H p=none):Ext H H':=fun b u hb=>by
 have n:b≠p:=jA hb hp
 exact k b u (by rw[j9 n]; exact hb) n
theorem Good.wide {mt mp w mt' mp':Int}{ms:List Int}{pcs:List (List Int×Int)}(g:Good mt mp w ms pcs)(h1:mt<=mt')(h2:mp<=mp'):Good mt' mp' w ms pcs:=⟨g.w0,Int.le_trans g.w1 h1,g.mr,Int.le_trans g.pl h2,g.pg⟩
theorem jBD (n:Nat):∀ (ds:List Int),ds.Nodup->(∀ t∈ds,0<=t/\t<(n:Int))->ds.length<=n:=by
 intro ds h1 h2
 have h3:(ds.map Int.toNat).Nodup:=by
  rw[List.Nodup,dM]
  refine List.Pairwise.imp_of_mem (R:=(· ≠ ·)) (fun {a b} ha hb hne e=>hne ?_) h1
  have:=h2 a ha
  have:=h2 b hb
  omega
 have h4:(ds.map Int.toNat).length<=(List.range n).length:=h3.length_le_of_subset fun x hx=>by
  obtain⟨t,ht,rfl⟩:=bw.mp hx
  have:=h2 t ht
  exact aO.mpr (by omega)
 rw[ab,ao] at h4
 exact h4
section
variable {P:Program}{w:World}{K:W.Frag}{mg:Str->Option Value}{base:Heap}
variable {f fC fP fT fB fW:Addr}{fdC fdP fdT fdB fdW:FuncData}{cdv:Value}{A:Around}{outer:List Env}{s:Shared}{H0:Hp}{E:XK}
def jFA (K:W.Frag):Sp:=fun vs H Q _=>∃ (sc:Addr) (ns:List Int) (k mt mp:Int),vs=[.ref sc, .int k, .int mt, .int mp]/\SqL K H sc (ns.map V.int)/\0<=k/\0<=mt/\mt<=16/\0<=mp/\mp<=16/\
 ∀ b w ms pcs H',BoxAt H' b w ms pcs->Good 16 16 w ms pcs->Ext H H'->Q (.ref b) H'
abbrev jIS:List Str:=["script","k","things","pieces","pot"]
theorem scDrawn:FnScope jIS ["script","k","things","pieces"] (j7 jAW):=⟨rfl,rfl,rfl,by decide+kernel,rfl,by decide+kernel,by decide+kernel⟩
def jON (T:Txt mg)(CC:Can P w K mg base "_law_cell_at" 1 fC fdC ["script","k"] (jEB K))(CP:Can P w K mg base "_law_pot" 1 fP fdP ["cell"] spPot)(CT:Can P w K mg base "_law_take" 1 fT fdT ["pot","wide"] kT)(CB:Can P w K mg base "_law_box" 3 fB fdB ["pot","most_things","most_pieces"] spBox)(hr:Room 3 (XOf jIS "_law_drawn" jAW P w K mg base f cdv A outer s H0 E).A): { t:TS // JSs (XOf jIS "_law_drawn" jAW P w K mg base f cdv A outer s H0 E) (jB jAW) t} :=
 have nd:=scDrawn.nd
 ⟨_,(j8 (jG (i:=4) nd rfl lL (CP.je (hr.mono (by decide)) gD (j0 (CC.je (hr.mono (by decide)) gD (j0 (jv 0 rfl vL) (j0 (jv 1 rfl vL) j5 j3) j3) j3) j5 jZ) jZ) jP)
   (j8 (yE (jJ yX (CT.je (hr.mono (by decide)) gD (j0 (jv 4 rfl vL) (j0 (j6) j5 jF) j3) j3) (j6) (jO _)) (jC (jX (CB.je hr gD (j0 (jv 4 rfl vL) (j0 (j6) (j0 (j6) j5 jF) jF) j3) j3))) kO)
   (jC (jX (CB.je hr gD (j0 (jv 4 rfl vL) (j0 (jv 2 rfl vL) (j0 (jv 3 rfl vL) j5 j3) j3) j3) j3)))))⟩
theorem jKP {fd:FuncData}(F:Fun K "_law_drawn" "_law_drawn" jAW f fd)(T:Txt mg)(CC:Can P w K mg base "_law_cell_at" 1 fC fdC ["script","k"] (jEB K))(CP:Can P w K mg base "_law_pot" 1 fP fdP ["cell"] spPot)(CT:Can P w K mg base "_law_take" 1 fT fdT ["pot","wide"] kT)(CB:Can P w K mg base "_law_box" 3 fB fdB ["pot","most_things","most_pieces"] spBox):FnOk P w K mg base CX0 4 f fd ["script","k","things","pieces"] (jFA K):=by
 refine F.ok scDrawn (fun vs H Q E h=>?_) (fun cdv A outer s H vs Q E hr h=>?_)
 ·obtain⟨_,_,_,_,_,rfl,_⟩:=h
  rfl
 ·obtain⟨a,ns,k,mt,mp,rfl,hS,k0,m0,m1,p0,p1,q⟩:=h
  refine⟨_,(jON T CC CP CT CB hr).2.h,?_⟩
  refine⟨_,rfl,_,rfl,a,ns,k,rfl,hS,k0,fun c=>?_⟩
  refine⟨c,rfl,fun p N hp hN=>?_⟩
  refine⟨_,rfl,p,N,8,rfl,j4,hN,by decide,by decide,fun N1 r a1 a2 a3=>?_⟩
  rw[jAY]
  refine⟨rfl,_,rfl,ite2 (fun _=>?_) (fun _=>?_)⟩
  ·refine⟨_,rfl,p,N1,16,7,rfl,j4,a1,by decide,by decide,by decide,by decide,fun b N' w ms pcs H1 c1 c2 c3 c4 c5=>?_⟩
   exact q b w ms pcs H1 c3 (c4.wide (by decide) (by decide)) (c5.ext hp)
  ·refine⟨_,rfl,_,rfl,_,rfl,p,N1,mt,mp,rfl,j4,a1,m0,m1,p0,by omega,fun b N' w ms pcs H1 c1 c2 c3 c4 c5=>?_⟩
   exact q b w ms pcs H1 c3 (c4.wide m1 p1) (c5.ext hp)
end
section
variable {P:Program}{w:World}{K:W.Frag}{mg:Str->Option Value}{base:Heap}
variable {f fM:Addr}{fdM:FuncData}{cdv:Value}{A:Around}{outer:List Env}{s:Shared}{H0:Hp}{E:XK}
def jDC:Sp:=fun vs H Q _=>∃ (b qm:Addr) (x3:V) (w:Int) (mays:List Int),vs=[.ref b]/\H b=some (.tup [.int w, .ref qm,x3])/\H qm=some (.tup (mays.map V.int))/\0<=w/\w<=1000/\∀ l,H l=none->Q (.ref l) (upd H l (.lst ((mus mays w.toNat).map V.int)))
abbrev jIR:List Str:=["box","mays"]
theorem scMusts:FnScope jIR ["box"] (j7 jAV):=⟨rfl,rfl,rfl,by decide+kernel,rfl,by decide+kernel,by decide+kernel⟩
def jOD (T:Txt mg): { t:TS // JSs (XOf jIR "musts_of" jAV P w K mg base f cdv A outer s H0 E) (jB jAV) t} :=
 have nd:=scMusts.nd
 ⟨_,(j8 (jG (i:=1) nd rfl (yU (by decide+kernel)) (jE jK (jv 0 rfl vL) (j6) jD) jBU)
   (jC (jX (kS (m:=[none,some 1]) (Nc:=["thing","mays"]) rfl (kR gD T.range (j0 (jE jK (jv 0 rfl vL) (j6) jD) j5 jM) jM) rfl (by decide+kernel) (by decide+kernel) (kE (psc:=j7 jAV) (by decide+kernel)) (jH (N:=jIR) rfl rfl (by decide+kernel)) (fun cl C fp s H=>jL (i:=0) (show (["thing","mays"]:List Str).Nodup by decide+kernel) rfl (yD (by decide+kernel))) (fun cl C fp s H=>jDQ (jJ jH9 (jv 0 rfl (kG (by decide+kernel))) (jv 1 rfl (kL (by decide+kernel))) jDN)) (fun cl C fp s H=>(jv 0 rfl (kG (by decide+kernel)))) kU))))⟩
theorem jKN {fd:FuncData}(F:Fun K "musts_of" "musts_of" jAV f fd)(T:Txt mg):FnOk P w K mg base CX0 1 f fd ["box"] jDC:=by
 refine F.ok scMusts (fun vs H Q E h=>?_) (fun cdv A outer s H vs Q E hr h=>?_)
 ·obtain⟨_,_,_,_,_,rfl,_⟩:=h
  rfl
 ·obtain⟨b,qm,x3,w,mays,rfl,hb,hm,w0,w1,q⟩:=h
  refine⟨_,(jOD T).2.h,?_⟩
  refine⟨_,rfl,b,_,1,_,rfl,rfl,SqT.of hb,rfl,?_⟩
  refine⟨_,rfl,b,_,0,_,rfl,rfl,SqT.of hb,rfl,w,rfl,by omega,by omega,jAT (n:=w.toNat) (by rw[aj]; omega) (fun D i σ' H' ys=>(∃ v,σ'=[v,some (.ref qm)])/\ys=(mus mays i).map V.int/\H'=upd H D (.lst ys)) ?_ ?_ ?_ ?_⟩
  ·intro D hD
   exact⟨⟨_,rfl⟩,rfl,rfl⟩
  ·rintro D i σ' H' ys hD hi ⟨_,rfl,rfl⟩
   exact⟨j4,by rw[ab]; exact jDP _ _⟩
  ·rintro D i σ' H' ys hD hi ⟨⟨v,rfl⟩,rfl,rfl⟩
   have e0:(0+(i:Int))=(i:Int):=by omega
   refine⟨_,rfl,_,rfl,qm,_,rfl, .inr (SqT.of (by rw[j9 (jA hm hD)]; exact hm)),rfl,jA9 mays,_,rfl,?_⟩
   rw[e0,jAN]
   refine ite2 (fun hz=>?_) (fun hz=>?_)
   ·rw[ah rfl] at hz
    refine⟨_,rfl,j4,⟨_,rfl⟩,?_,jAY⟩
    rw[jGC,ah hz,aI]
    rfl
   ·rw[ah rfl] at hz
    refine⟨⟨_,rfl⟩,?_,rfl⟩
    rw[jGC,am hz,dg]
  ·rintro D σ' H' ys hD ⟨_,rfl,rfl⟩
   exact q D hD
end
end Eo
end
section
namespace L2
open PySem
section
variable {P:Program}{w:World}{K:W.Frag}{mg:Str->Option Value}{base:Heap}{N:List Str}{qual:Str}{sc:Scope}{f:Addr}{cdv:Value}{A:Around}{outer:List Env}{s:Shared}{H:Hp}{E:XK}
end
theorem jD8 {x:Str}{pos:Pos}{o:Option Expr} :SwOk (.Name x pos) o:=⟨fun _ _=>rfl⟩
end L2
namespace Eo
open PySem L2
def BIG:Nat:=2 ^ 6000
theorem jMY {n:Nat}(h0:0<n)(h:n<BIG):n.log2<9000:=by
 have:n.log2<6000:=(fr (by omega)).mpr h
 omega
theorem jN8 (i:Int):(if i<0 then -i else i)=((i.natAbs:Nat):Int):=by split <;> omega
section
variable {P:Program}{w:World}{K:W.Frag}{mg:Str->Option Value}{base:Heap}
variable {f fW fG fF:Addr}{fdW fdG fdF:FuncData}{cdv:Value}{A:Around}{outer:List Env}{s:Shared}{H0:Hp}{E:XK}
noncomputable abbrev nGcd:List Str:=["one","other","rest"]
theorem scGcd:FnScope nGcd ["one","other"] (j7 sGcd):=⟨rfl,rfl,rfl,by decide+kernel,rfl,by decide+kernel,by decide+kernel⟩
def spGcd:Sp:=fun vs H Q _=>∃ a b:Nat,vs=[.int (a:Int), .int (b:Int)]/\Q (.int ((Nat.gcd a b:Nat):Int)) H
def gcdA: { t:TS // JSs (XOf nGcd "common_divisor" sGcd P w K mg base f cdv A outer s H0 E) (jB sGcd) t} :=
 have nd:=scGcd.nd
 ⟨_,(j8 (jGD bf (jJ op_ne (jv 1 rfl vL) (j6) (jO _)) (j8 (jG (i:=2) nd rfl lL (jU jCD (jv 0 rfl vL) (jv 1 rfl vL)) jEA)
   (j8 (jG (i:=0) nd rfl lL (jv 1 rfl vL) jD8)
   (jC (jG (i:=1) nd rfl lL (jv 2 rfl vL) jD8)))))
   (jC (jX (jv 0 rfl vL))))⟩
theorem jOA {fd:FuncData}(F:Fun K "common_divisor" "common_divisor" sGcd f fd):FnOk P w K mg base CX0 1 f fd ["one","other"] spGcd:=by
 refine F.ok scGcd (fun vs H Q E h=>?_) (fun cdv A outer s H vs Q E hr h=>?_)
 ·obtain⟨_,_,rfl,_⟩:=h
  rfl
 ·obtain⟨a,b,rfl,q⟩:=h
  refine⟨_,gcdA.2.h,?_⟩
  refine⟨fun m σ H'=>∃ (a' b':Nat) (v2:Option V),σ=[some (.int (a':Int)),some (.int (b':Int)),v2]/\H'=H/\Nat.gcd a' b'=Nat.gcd a b/\m=b',⟨b,a,b,none,rfl,rfl,rfl,rfl⟩,?_⟩
  rintro m σ H' ⟨a',b',v2,rfl,rfl,hg,rfl⟩
  refine⟨_,rfl,rfl,_,rfl,?_⟩
  by_cases hb:m=0
  ·subst hb
   refine iteNS rfl ⟨_,rfl,?_⟩
   rw[Nat.gcd_zero_right] at hg
   rw[hg]
   exact q
  ·have hne:¬ V.int (m:Int)=V.int 0:=fun e=>hb (by have:=V.int.inj e; omega)
   refine iteT' (by rw[aX hne]; rfl) ⟨fun σ' H'=>∃ (a' b':Nat) (v2:Option V),σ'=[some (.int (a':Int)),some (.int (b':Int)),v2]/\H'=_/\Nat.gcd a' b'=Nat.gcd a b/\b'<m,fun σ' H' ⟨a',b',v2,e1,e2,e3,e4⟩=>⟨b',e4,a',b',v2,e1,e2,e3,rfl⟩,?_⟩
   refine⟨_,rfl,_,rfl,_,_,rfl,rfl,(by show (0:Int)<(m:Int); omega),_,rfl,_,rfl,?_⟩
   refine⟨m,a' % m,some (.int ((a' % m:Nat):Int)),?_,rfl,?_,mod_lt _ (by omega)⟩
   ·show [some (V.int (m:Int)),some (V.int ((a':Int) % (m:Int))),some (V.int ((a':Int) % (m:Int)))]=_
    rw[Int.natCast_emod]
   ·rw[Nat.gcd_comm m,<- Nat.gcd_rec,Nat.gcd_comm,hg]
def spFr:Sp:=fun vs H Q _=>∃ t b:Int,vs=[.int t, .int b]/\0<b/\b.natAbs<BIG/\∀ r H',H' r=some (.tup [.int (t / (Int.gcd t b:Nat)), .int (b / (Int.gcd t b:Nat))])->Ext H H'->Q (.ref r) H'
theorem jOK {t b:Int}(h:0<b)(hb:b.natAbs<BIG):(0:Int)<((Int.gcd t b:Nat):Int)/\((Int.gcd t b:Nat):Int).natAbs.log2<9000:=by
 have h1:0<Int.gcd t b:=Nat.pos_of_ne_zero fun e=>by
  have:=Int.eq_zero_of_gcd_eq_zero_right e
  omega
 have h2:Int.gcd t b<=b.natAbs:=Nat.le_of_dvd (by omega) (Nat.gcd_dvd_right _ _)
 refine⟨by omega,?_⟩
 rw[dA]
 exact jMY h1 (bL h2 hb)
noncomputable abbrev nFrOf:List Str:=["top","bottom","divisor"]
theorem scFrOf:FnScope nFrOf ["top","bottom"] (j7 sFrOf):=⟨rfl,rfl,rfl,by decide+kernel,rfl,by decide+kernel,by decide+kernel⟩
def frOfA (T:Txt mg)(CG:Can P w K mg base "common_divisor" 1 fG fdG ["one","other"] spGcd)(hr:Room 1 (XOf nFrOf "fraction_of" sFrOf P w K mg base f cdv A outer s H0 E).A): { t:TS // JSs (XOf nFrOf "fraction_of" sFrOf P w K mg base f cdv A outer s H0 E) (jB sFrOf) t} :=
 have nd:=scFrOf.nd
 ⟨_,(j8 (jG (i:=2) nd rfl lL (CG.je hr gD (j0 (jI jGW gD T.abs (by decide+kernel) (j0 (jv 0 rfl vL) j5 j3) j3) (j0 (jv 1 rfl vL) j5 j3) jZ) jZ) jP)
   (jC (jX (yC (j0 (jU jDL (jv 0 rfl vL) (jv 2 rfl vL)) (j0 (jU jDL (jv 1 rfl vL) (jv 2 rfl vL)) j5 kW) kW)))))⟩
theorem jMT {fd:FuncData}(F:Fun K "fraction_of" "fraction_of" sFrOf f fd)(T:Txt mg)(CG:Can P w K mg base "common_divisor" 1 fG fdG ["one","other"] spGcd):FnOk P w K mg base CX0 2 f fd ["top","bottom"] spFr:=by
 refine F.ok scFrOf (fun vs H Q E h=>?_) (fun cdv A outer s H vs Q E hr h=>?_)
 ·obtain⟨_,_,rfl,_⟩:=h
  rfl
 ·obtain⟨t,b,rfl,hb,hB,q⟩:=h
  obtain⟨g1,g2⟩:=jOK (t:=t) hb hB
  refine⟨_,(frOfA T CG hr).2.h,?_⟩
  refine⟨_,rfl,t,rfl,_,rfl,t.natAbs,b.natAbs,?_,?_⟩
  ·rw[jN8]
   show [V.int _,V.int b]=[V.int _,V.int ((b.natAbs:Nat):Int)]
   rw[show ((b.natAbs:Nat):Int)=b by omega]
  ·refine⟨_,rfl,_,rfl,_,_,rfl,rfl,⟨g1,g2⟩,_,rfl,_,rfl,_,_,rfl,rfl,⟨g1,g2⟩,(by show 2<=sizeLine; decide),fun r H' hr' e=>q r H' hr' e⟩
end
end Eo
end
section
namespace L2
open PySem PySem.Spec PyProof.Rows
def CMulB (i j:Int):Prop:=i.natAbs<2 ^ 6000/\j.natAbs<2 ^ 6000
theorem jBP {X:Cx} :OpR X (binaryOp .Mult) (rI CMulB fun i j=> .int (i*j)):=opI fun _ _ _ _ _ _ _ hc q=>mul_int q (.of_bits (aZ (intBits_le hc.1) (by decide)) (aZ (intBits_le hc.2) (by decide)))
end L2
namespace Eo
open PySem L2
def FrAt (H:Hp)(v:V)(p:Int×Int):Prop:=∃ a,v= .ref a/\H a=some (.tup [.int p.1, .int p.2])
def FrsAt (H:Hp):List V->List (Int×Int)->Prop
 | [],[]=>True
 | v::vs,p::ps=>FrAt H v p/\FrsAt H vs ps
 | _,_=>False
theorem FrAt.mono {H H':Hp}{v:V}{p:Int×Int}(h:FrAt H v p)(t:Tups H H'):FrAt H' v p:=let ⟨a,e,q⟩:=h; ⟨a,e,t _ _ q⟩
theorem FrsAt.mono {H H':Hp}(t:Tups H H'):∀ {vs:List V}{ps:List (Int×Int)},FrsAt H vs ps->FrsAt H' vs ps
 | [],[],_=>trivial
 | _::_,_::_,h=>⟨h.1.mono t,FrsAt.mono t h.2⟩
 | [],_::_,h=>h.elim
 | _::_,[],h=>h.elim
theorem FrsAt.len {H:Hp} :∀ {vs:List V}{ps:List (Int×Int)},FrsAt H vs ps->vs.length=ps.length
 | [],[],_=>rfl
 | _::_,_::_,h=>bo (· +1) (FrsAt.len h.2)
 | [],_::_,h=>h.elim
 | _::_,[],h=>h.elim
theorem FrsAt.snoc {H:Hp}{v:V}{p:Int×Int}(hv:FrAt H v p):∀ {vs:List V}{ps:List (Int×Int)},FrsAt H vs ps->FrsAt H (vs++[v]) (ps++[p])
 | [],[],_=>⟨hv,trivial⟩
 | _::_,_::_,h=>⟨h.1,FrsAt.snoc hv h.2⟩
 | [],_::_,h=>h.elim
 | _::_,[],h=>h.elim
def nrm (f:Int×Int):Int×Int:=(f.1 / (Int.gcd f.1 f.2:Nat),f.2 / (Int.gcd f.1 f.2:Nat))
end Eo
end
section
namespace Eo
def sxS:Nat->(Nat->Int)->Int
 | 0,_=>0
 | n+1,f=>sxS n f+f n
theorem jA5:∀ {n:Nat}{f g:Nat->Int},(∀ k,k<n->f k=g k)->sxS n f=sxS n g
 | 0,_,_,_=>rfl
 | n+1,f,g,h=>by
  show sxS n f+f n=sxS n g+g n
  rw[jA5 fun k hk=>h k (ai hk),h n (aB n)]
theorem jB7:∀ {n:Nat}{f:Nat->Int},(∀ k,k<n->f k=0)->sxS n f=0
 | 0,_,_=>rfl
 | n+1,f,h=>by
  show sxS n f+f n=0
  rw[jB7 fun k hk=>h k (ai hk),h n (aB n)]
  rfl
theorem jAQ (f g:Nat->Int):∀ n,sxS n (fun k=>f k+g k)=sxS n f+sxS n g
 | 0=>rfl
 | n+1=>by
  show sxS n _+(f n+g n)=(sxS n f+f n)+(sxS n g+g n)
  rw[jAQ f g n]; omega
theorem jAD (x:Int)(f:Nat->Int):∀ n,sxS n (fun k=>x*f k)=x*sxS n f
 | 0=>(bF x).symm
 | n+1=>by
  show sxS n _+x*f n=x*(sxS n f+f n)
  rw[jAD x f n,Int.mul_add]
theorem jAP {n i:Nat}{f:Nat->Int}(hi:i<n)(h:∀ k,k<n->k≠i->f k=0):sxS n f=f i:=by
 induction n with
 | zero=>exact absurd hi (be _)
 | succ n ih=>
  show sxS n f+f n=f i
  by_cases e:i=n
  ·subst e
   rw[jB7 fun k hk=>h k (ai hk) (aC hk),cQ]
  ·rw[ih (by omega) fun k hk=>h k (ai hk),h n (aB n) (fun z=>e z.symm),cA]
theorem jLZ {n i j:Nat}{f:Nat->Int}(hi:i<n)(hj:j<n)(ne:i≠j)(h:∀ k,k<n->k≠i->k≠j->f k=0):sxS n f=f i+f j:=by
 have e:sxS n f=sxS n (fun k=>(if k=i then f i else 0)+if k=i then 0 else f k):=jA5 fun k _=>by
  by_cases z:k=i
  ·rw[ah z,ah z,z,cA]
  ·rw[am z,am z,cQ]
 rw[e,jAQ,jAP hi fun k _ z=>am z,ah rfl,jAP hj fun k hk z=>?_,am (fun z=>ne z.symm)]
 by_cases y:k=i
 ·exact ah y
 ·rw[am y]; exact h k hk y z
theorem jFY:∀ (m:Nat) (F:Nat->Nat->Int),(∀ k j,k<j->j<=m->F j k+F k (j - 1)=0)->sxS (m+1) (fun j=>sxS m fun k=>F j k)=0
 | 0,F,_=>rfl
 | m+1,F,h=>by
  show sxS (m+1) (fun j=>sxS m (fun k=>F j k)+F j m)+(sxS m (fun k=>F (m+1) k)+F (m+1) m)=0
  rw[jAQ,jFY m F fun k j hk hj=>h k j hk (Nat.le_succ_of_le hj),cQ]
  show sxS (m+1) (fun j=>F j m)+sxS (m+1) (fun k=>F (m+1) k)=0
  rw[<- jAQ]
  exact jB7 fun k hk=>by
   have:=h k (m+1) hk (af _)
   rw[Nat.add_sub_cancel] at this
   omega
theorem jI1 (f:Nat->Int)(n:Nat):sxS n (fun k=> - f k)= - sxS n f:=by
 have:=jAD (-1) f n
 rw[show (-1:Int)*sxS n f= - sxS n f by omega] at this
 rw[<- this]
 exact jA5 fun k _=>by omega
theorem jFX {f:Nat->Int} :∀ {n:Nat},sxS n f>0->∃ k,k<n/\f k>0
 | 0,h=>absurd h (by show ¬ (0:Int)>0; omega)
 | n+1,h=>by
  have h:sxS n f+f n>0:=h
  by_cases z:f n>0
  ·exact⟨n,aB n,z⟩
  ·obtain⟨k,hk,q⟩:=jFX (n:=n) (f:=f) (by omega)
   exact⟨k,ai hk,q⟩
theorem jL9 {f:Nat->Int} :∀ {n:Nat},(∀ k,k<n->0<=f k)->0<=sxS n f
 | 0,_=>ft _
 | n+1,h=>by
  have a:=jL9 (n:=n) fun k hk=>h k (ai hk)
  have b:=h n (aB n)
  show 0<=sxS n f+f n
  omega
theorem jND {f:Nat->Int}{n:Nat}(h:∀ k,k<n->f k<=0):sxS n f<=0:=by
 have:=jL9 (n:=n) (f:=fun k=> - f k) fun k hk=>by have:=h k hk; show 0<= - f k; omega
 rw[jI1] at this
 omega
def skp (j k:Nat):Nat:=if k<j then k else k+1
theorem jM1 {k j:Nat}(h:k<j)(l:Nat):skp j (skp k l)=skp k (skp (j - 1) l):=by
 unfold skp
 split <;> split <;> (try split) <;> (try split) <;> omega
def sgn (j:Nat):Int:=if j % 2=0 then 1 else -1
theorem jKE (j:Nat):sgn (j+1)= - sgn j:=by
 unfold sgn
 split <;> split <;> first | rfl | omega
def dt:Nat->(Nat->Nat->Int)->Int
 | 0,_=>1
 | n+1,M=>sxS (n+1) fun j=>sgn j*M 0 j*dt n fun i k=>M (i+1) (skp j k)
theorem jLC {j k n:Nat}(hj:j<n+1)(hk:k<n):skp j k<n+1:=by
 unfold skp
 split <;> omega
theorem jAO:∀ {n:Nat}{M N:Nat->Nat->Int},(∀ i j,i<n->j<n->M i j=N i j)->dt n M=dt n N
 | 0,_,_,_=>rfl
 | n+1,M,N,h=>jA5 fun j hj=>by
  rw[h 0 j (fq _) hj,jAO fun i k hi hk=>h (i+1) (skp j k) (by omega) (jLC hj hk)]
def rs (M:Nat->Nat->Int)(r:Nat)(v:Nat->Int):Nat->Nat->Int:=fun i=>if i=r then v else M i
theorem jAJ {M:Nat->Nat->Int}{r:Nat}{v:Nat->Int} :rs M r v r=v:=ah rfl
theorem yW {M:Nat->Nat->Int}{r i:Nat}{v:Nat->Int}(h:i≠r):rs M r v i=M i:=am h
theorem jD5 {x y:Int}{u v:Nat->Int} :∀ {n r:Nat}{M:Nat->Nat->Int},r<n->dt n (rs M r fun j=>x*u j+y*v j)=x*dt n (rs M r u)+y*dt n (rs M r v)
 | n+1,0,M,_=>by
  unfold dt
  rw[<- jAD,<- jAD,<- jAQ]
  refine jA5 fun j _=>?_
  rw[jAJ,jAJ,jAJ]
  have e:∀ w:Nat->Int,(fun i k=>rs M 0 w (i+1) (skp j k))=fun i k=>M (i+1) (skp j k):=fun w=>by
   funext i k
   rw[yW (Nat.succ_ne_zero i)]
  rw[e,e,e]
  generalize dt n _=d
  grind
 | n+1,r+1,M,h=>by
  unfold dt
  rw[<- jAD,<- jAD,<- jAQ]
  refine jA5 fun j _=>?_
  have e0:∀ w:Nat->Int,rs M (r+1) w 0=M 0:=fun w=>yW (by omega)
  have e:∀ w:Nat->Int,(fun i k=>rs M (r+1) w (i+1) (skp j k))=rs (fun i k=>M (i+1) (skp j k)) r fun k=>w (skp j k):=fun w=>by
   funext i k
   unfold rs
   by_cases z:i=r
   ·rw[ah z,ah (by omega)]
   ·rw[am z,am (by omega)]
  rw[e0,e0,e0,e,e,e,jD5 (by omega)]
  grind
theorem jGQ {n r:Nat}{M:Nat->Nat->Int}{t:Nat->Int}{v:Nat->Nat->Int}(h:r<n):∀ m,dt n (rs M r fun j=>sxS m fun k=>t k*v k j)=sxS m fun k=>t k*dt n (rs M r (v k))
 | 0=>by
  have:=jD5 (x:=0) (y:=0) (u:=fun _=>0) (v:=fun _=>0) (M:=M) h
  have e:(fun j:Nat=>sxS 0 fun k=>t k*v k j)=fun _:Nat=>(0:Int)*0+0*0:=rfl
  rw[e,this]
  show _=(0:Int)
  omega
 | m+1=>by
  have:=jD5 (x:=1) (y:=t m) (u:=fun j=>sxS m fun k=>t k*v k j) (v:=v m) (M:=M) h
  have e:(fun j:Nat=>sxS (m+1) fun k=>t k*v k j)=fun j=>1*(sxS m fun k=>t k*v k j)+t m*v m j:=by
   funext j
   show sxS m _+t m*v m j=_
   omega
  rw[e,this,jGQ h m]
  show _=sxS m _+t m*dt n (rs M r (v m))
  omega
theorem dt_01 {n:Nat}{M:Nat->Nat->Int}(h:∀ k,k<n+2->M 0 k=M 1 k):dt (n+2) M=0:=by
 show sxS (n+2) (fun j=>sgn j*M 0 j*sxS (n+1) fun k=>sgn k*M 1 (skp j k)*dt n fun i l=>M (i+2) (skp j (skp k l)))=0
 have e:sxS (n+2) (fun j=>sgn j*M 0 j*sxS (n+1) fun k=>sgn k*M 1 (skp j k)*dt n fun i l=>M (i+2) (skp j (skp k l)))=sxS (n+2) (fun j=>sxS (n+1) fun k=>sgn j*M 0 j*(sgn k*M 1 (skp j k)*dt n fun i l=>M (i+2) (skp j (skp k l)))):=jA5 fun j _=>(jAD _ _ _).symm
 rw[e]
 refine jFY (n+1) _ fun k j hk hj=>?_
 have e1:skp j k=k:=ah hk
 have e2:skp k (j - 1)=j:=by unfold skp; rw[am (by omega)]; omega
 have e3:(fun i l=>M (i+2) (skp j (skp k l)))=fun i l=>M (i+2) (skp k (skp (j - 1) l)):=by
  funext i l
  rw[jM1 hk]
 have e4:sgn j= - sgn (j - 1):=by
  have:=jKE (j - 1)
  rwa [show j - 1+1=j by omega] at this
 show sgn j*M 0 j*(sgn k*M 1 (skp j k)*dt n fun i l=>M (i+2) (skp j (skp k l)))+sgn k*M 0 k*(sgn (j - 1)*M 1 (skp k (j - 1))*dt n fun i l=>M (i+2) (skp k (skp (j - 1) l)))=0
 rw[e1,e2,e3,e4,h j (by omega),h k (by omega)]
 generalize dt n _=d
 grind
theorem jB0 {M:Nat->Nat->Int}{r q:Nat}{u v:Nat->Int}(h:r≠q):rs (rs M r u) q v=rs (rs M q v) r u:=by
 funext i
 unfold rs
 by_cases a:i=q
 ·rw[ah a,am (fun z=>h (z.symm.trans a)),ah a]
 ·rw[am a]
  by_cases b:i=r
  ·rw[ah b,ah b]
  ·rw[am b,am b,am a]
theorem rs_rs {M:Nat->Nat->Int}{r:Nat}{u v:Nat->Int} :rs (rs M r u) r v=rs M r v:=by
 funext i
 unfold rs
 by_cases a:i=r
 ·rw[ah a,ah a]
 ·rw[am a,am a,am a]
theorem jCA {M:Nat->Nat->Int}{r:Nat} :rs M r (M r)=M:=by
 funext i
 unfold rs
 by_cases a:i=r
 ·rw[ah a,a]
 ·rw[am a]
theorem jJI {n r:Nat}{M:Nat->Nat->Int}{u v:Nat->Int}(h:r<n):dt n (rs M r fun j=>u j+v j)=dt n (rs M r u)+dt n (rs M r v):=by
 have:=jD5 (x:=1) (y:=1) (u:=u) (v:=v) (M:=M) h
 have e:(fun j=>1*u j+1*v j)=fun j=>u j+v j:=by funext j; omega
 rw[e] at this
 omega
def AltN (n:Nat):Prop:=∀ (M:Nat->Nat->Int) (i j:Nat),i<j->j<n->(∀ k,k<n->M i k=M j k)->dt n M=0
theorem jLT {n:Nat}(al:AltN n){M:Nat->Nat->Int}{i j:Nat}(ne:i≠j)(hi:i<n)(hj:j<n)(h:∀ k,k<n->M i k=M j k):dt n M=0:=by
 rcases Nat.lt_or_gt_of_ne ne with z | z
 ·exact al M i j z hj h
 ·exact al M j i z hi fun k hk=>(h k hk).symm
theorem jGY {n:Nat}(al:AltN n){M:Nat->Nat->Int}{i j:Nat}{u v:Nat->Int}(ne:i≠j)(hi:i<n)(hj:j<n):dt n (rs (rs M i u) j v)= - dt n (rs (rs M i v) j u):=by
 have z:∀ w:Nat->Int,dt n (rs (rs M i w) j w)=0:=fun w=>jLT al ne hi hj fun k _=>by rw[yW ne,jAJ,jAJ]
 have h:=z fun k=>u k+v k
 rw[jJI hj,jB0 ne,jB0 ne,jJI hi,jJI hi,<- jB0 ne,<- jB0 ne,<- jB0 ne,<- jB0 ne,z u,z v] at h
 omega
theorem jFU:∀ n,AltN n
 | 0=>fun _ _ _ _ hj _=>absurd hj (be _)
 | n+1=>by
  have ih:=jFU n
  intro M i j hij hj h
  have later:∀ (M:Nat->Nat->Int) (i j:Nat),i<j->j<n->(∀ k,k<n+1->M (i+1) k=M (j+1) k)->dt (n+1) M=0:=fun M i j hij hj h=>jB7 fun c hc=>by
   rw[ih _ i j hij hj fun k hk=>h _ (jLC hc hk),bF]
  cases i with
  | succ i=>
   cases j with
   | zero=>omega
   | succ j=>exact later M i j (by omega) (by omega) h
  | zero=>
   by_cases j1:j=1
   ·subst j1
    cases n with
    | zero=>omega
    | succ n=>exact dt_01 h
   ·-- rows 1 and j exchanged
    have sw:dt (n+1) (rs (rs M 1 (M j)) j (M 1))= - dt (n+1) M:=by
     show sxS (n+1) _= - sxS (n+1) _
     rw[<- jI1]
     refine jA5 fun c hc=>?_
     have e0:rs (rs M 1 (M j)) j (M 1) 0=M 0:=by rw[yW (by omega),yW (by omega)]
     have e1:(fun i k=>rs (rs M 1 (M j)) j (M 1) (i+1) (skp c k))=rs (rs (fun i k=>M (i+1) (skp c k)) 0 (fun k=>M j (skp c k))) (j - 1) fun k=>M 1 (skp c k):=by
      funext i k
      unfold rs
      by_cases a:i=j - 1
      ·rw[ah a,ah (by omega)]
      ·rw[am a,am (by omega)]
       by_cases b:i=0
       ·rw[ah b,ah (by omega)]
       ·rw[am b,am (by omega)]
     have e2:(fun i k=>M (i+1) (skp c k))=rs (rs (fun i k=>M (i+1) (skp c k)) 0 (fun k=>M 1 (skp c k))) (j - 1) fun k=>M j (skp c k):=by
      funext i k
      unfold rs
      by_cases a:i=j - 1
      ·rw[ah a,show i+1=j by omega]
      ·rw[am a]
       by_cases b:i=0
       ·rw[ah b,b]
       ·rw[am b]
     show sgn c*rs (rs M 1 (M j)) j (M 1) 0 c*dt n (fun i k=>rs (rs M 1 (M j)) j (M 1) (i+1) (skp c k))= - (sgn c*M 0 c*dt n fun i k=>M (i+1) (skp c k))
     rw[e0,e1,jGY ih (by omega) (by omega) (by omega),<- e2]
     generalize dt n _=d
     grind
    have z:dt (n+1) (rs (rs M 1 (M j)) j (M 1))=0:=by
     cases n with
     | zero=>omega
     | succ n=>
      refine dt_01 fun k hk=>?_
      rw[yW (by omega),yW (by omega),yW (fun y=>j1 y.symm),jAJ]
      exact h k hk
    omega
theorem jJH {n:Nat}{M:Nat->Nat->Int}{i j:Nat}(ne:i≠j)(hi:i<n)(hj:j<n)(h:∀ k,k<n->M i k=M j k):dt n M=0:=jLT (jFU n) ne hi hj h
theorem jN7 {n:Nat}{M:Nat->Nat->Int}{i j:Nat}{u v:Nat->Int}(ne:i≠j)(hi:i<n)(hj:j<n):dt n (rs (rs M i u) j v)= - dt n (rs (rs M i v) j u):=jGY (jFU n) ne hi hj
def dlt (i j:Nat):Int:=if i=j then 1 else 0
theorem dt_id:∀ n,dt n dlt=1
 | 0=>rfl
 | n+1=>by
  show sxS (n+1) _=1
  rw[jAP (i:=0) (fq _) fun k _ hk=>by
   have:dlt 0 k=0:=am fun z=>hk z.symm
   rw[this,bF,cf]]
  have e:(fun i k=>dlt (i+1) (skp 0 k))=dlt:=by
   funext i k
   unfold dlt skp
   rw[am (be _)]
   by_cases z:i=k
   ·rw[ah z,ah (by omega)]
   ·rw[am z,am (by omega)]
  show sgn 0*dlt 0 0*dt n (fun i k=>dlt (i+1) (skp 0 k))=1
  rw[e,dt_id n]
  rfl
theorem jM3 (j:Nat):(sgn j).natAbs=1:=by
 unfold sgn
 split <;> rfl
end Eo
end
section
namespace Eo
def fs (b:Nat->Nat)(i c:Nat):Nat->Nat:=fun k=>if k=i then c else b k
theorem jCQ {b:Nat->Nat}{i c:Nat} :fs b i c i=c:=ah rfl
theorem fs_ne {b:Nat->Nat}{i c k:Nat}(h:k≠i):fs b i c k=b k:=am h
structure Sx where
 n:Nat
 a:Nat->Nat->Int
namespace Sx
variable (S:Sx)
def M (b:Nat->Nat):Nat->Nat->Int:=fun i=>S.a (b i)
def D (b:Nat->Nat):Int:=dt (S.n+1) (S.M b)
def T (b:Nat->Nat)(i c:Nat):Int:=dt (S.n+1) (rs (S.M b) i (S.a c))
variable {S}
theorem M_fs {b:Nat->Nat}{i c:Nat} :S.M (fs b i c)=rs (S.M b) i (S.a c):=by
 funext k
 unfold M fs rs
 by_cases h:k=i
 ·rw[ah h,ah h]
 ·rw[am h,am h]
theorem D_fs {b:Nat->Nat}{i c:Nat} :S.D (fs b i c)=S.T b i c:=by unfold D T; rw[M_fs]
def Spn (S:Sx)(b:Nat->Nat):Prop:=∀ c k,k<S.n+1->S.D b*S.a c k=sxS (S.n+1) fun i=>S.T b i c*S.a (b i) k
theorem T_bas {b:Nat->Nat}{i j:Nat}(hi:i<S.n+1)(hj:j<S.n+1):S.T b i (b j)=if i=j then S.D b else 0:=by
 unfold T D
 by_cases h:i=j
 ·rw[ah h,<- h]
  show dt _ (rs (S.M b) i (S.M b i))=_
  rw[jCA]
 ·rw[am h]
  exact jJH h hi hj fun k _=>by rw[jAJ,yW (fun z=>h z.symm)]; rfl
theorem T_r {b:Nat->Nat}{r q c:Nat} :S.T (fs b r q) r c=S.T b r c:=by
 unfold T
 rw[M_fs,rs_rs]
theorem T_piv {b:Nat->Nat}{r q i c:Nat}(sp:Spn S b)(hr:r<S.n+1)(hi:i<S.n+1)(ne:i≠r):S.D b*S.T (fs b r q) i c=S.T b i c*S.T b r q - S.T b i q*S.T b r c:=by
 have e1:S.D b*S.T (fs b r q) i c=dt (S.n+1) (rs (S.M (fs b r q)) i fun k=>sxS (S.n+1) fun j=>S.T b j c*S.a (b j) k):=by
  have:=jD5 (x:=S.D b) (y:=0) (u:=S.a c) (v:=S.a c) (M:=S.M (fs b r q)) hi
  rw[cf,cA] at this
  show S.D b*dt _ _=_
  rw[<- this]
  refine jAO fun k j _ hj=>?_
  unfold rs
  by_cases z:k=i
  ·rw[ah z,ah z,cf,cA]
   exact sp c j hj
  ·rw[am z,am z]
 rw[e1,jGQ hi,jLZ hi hr ne fun k hk k1 k2=>?_]
 ·have a1:dt (S.n+1) (rs (S.M (fs b r q)) i (S.a (b i)))=S.T b r q:=by
   unfold T
   rw[M_fs,jB0 (fun z=>ne z.symm)]
   show dt _ (rs (rs (S.M b) i (S.M b i)) r _)=_
   rw[jCA]
  have a2:dt (S.n+1) (rs (S.M (fs b r q)) i (S.a (b r)))= - S.T b i q:=by
   unfold T
   rw[M_fs,jN7 (fun z=>ne z.symm) hr hi]
   show - dt _ (rs (rs (S.M b) r (S.M b r)) i _)=_
   rw[jCA]
  rw[a1,a2]
  grind
 ·have:dt (S.n+1) (rs (S.M (fs b r q)) i (S.a (b k)))=0:=jJH k1 hk hi fun l _=>by
   rw[yW k1,jAJ,M_fs,yW k2]
   rfl
  rw[this,bF]
theorem Spn.piv {b:Nat->Nat}{r q:Nat}(sp:Spn S b)(hr:r<S.n+1)(d0:S.D b≠0):Spn S (fs b r q):=by
 intro c k hk
 rw[D_fs]
 refine dC d0 ?_
 rw[<- jAD]
 have e:sxS (S.n+1) (fun i=>S.D b*(S.T (fs b r q) i c*S.a (fs b r q i) k))=sxS (S.n+1) (fun i=>S.T b r q*(S.T b i c*S.a (b i) k)+ - S.T b r c*(S.T b i q*S.a (b i) k)+if i=r then S.D b*S.T b r c*S.a q k else 0):=jA5 fun i hi=>by
  by_cases z:i=r
  ·subst z
   rw[ah rfl,T_r,jCQ]
   grind
  ·rw[am z,fs_ne z,<- Int.mul_assoc,T_piv sp hr hi z]
   grind
 rw[e,jAQ,jAQ,jAD,jAD,<- sp c k hk,<- sp q k hk,jAP hr fun j _ hj=>am hj,ah rfl]
 grind
theorem jL2 {b b':Nat->Nat}{q:Nat}(sp:Spn S b)(hO:b S.n=b' S.n):S.D b*S.T b' S.n q - sxS S.n (fun i=>S.T b i q*S.T b' S.n (b i))=S.T b S.n q*S.D b':=by
 have hn:S.n<S.n+1:=aB _
 have e1:dt (S.n+1) (rs (S.M b') S.n fun k=>S.D b*S.a q k)=S.D b*S.T b' S.n q:=by
  have:=jD5 (x:=S.D b) (y:=0) (u:=S.a q) (v:=S.a q) (M:=S.M b') hn
  rw[cf,cA] at this
  show _=S.D b*dt _ _
  rw[<- this]
  refine jAO fun k j _ hj=>?_
  unfold rs
  by_cases z:k=S.n
  ·rw[ah z,ah z,cf,cA]
  ·rw[am z,am z]
 have e2:dt (S.n+1) (rs (S.M b') S.n fun k=>S.D b*S.a q k)=dt (S.n+1) (rs (S.M b') S.n fun k=>sxS (S.n+1) fun i=>S.T b i q*S.a (b i) k):=jAO fun k j _ hj=>by
  unfold rs
  by_cases z:k=S.n
  ·rw[ah z,ah z]; exact sp q j hj
  ·rw[am z,am z]
 rw[jGQ hn] at e2
 have e3:sxS (S.n+1) (fun k=>S.T b k q*dt (S.n+1) (rs (S.M b') S.n (S.a (b k))))=sxS S.n (fun i=>S.T b i q*S.T b' S.n (b i))+S.T b S.n q*dt (S.n+1) (rs (S.M b') S.n (S.a (b S.n))):=rfl
 have e4:dt (S.n+1) (rs (S.M b') S.n (S.a (b S.n)))=S.D b':=by
  rw[hO]
  show dt _ (rs (S.M b') S.n (S.M b' S.n))=_
  rw[jCA]
  rfl
 rw[e4] at e3
 omega
end Sx
end Eo
end
section
namespace Eo
namespace Sx
structure Prob where
 S:Sx
 N:Nat
 R:Nat
 Om:Nat
variable (P:Prob)
abbrev Prob.T (b:Nat->Nat)(i c:Nat):Int:=P.S.T b i c
abbrev Prob.D (b:Nat->Nat):Int:=P.S.D b
abbrev Prob.n:Nat:=P.S.n
structure Val (b:Nat->Nat):Prop where
 sp:Spn P.S b
 d:0<P.D b
 f:∀ i,i<P.n->0<=P.T b i P.R
 lt:∀ i,i<P.n->b i<P.N
 om:b P.n=P.Om
structure Ent (b:Nat->Nat)(q:Nat):Prop where
 lt:q<P.N
 neg:P.T b P.n q<0
 low:∀ j,j<q->0<=P.T b P.n j
structure Lev (b:Nat->Nat)(q r:Nat):Prop where
 lt:r<P.n
 pos:0<P.T b r q
 best:∀ i,i<P.n->0<P.T b i q->P.T b r P.R*P.T b i q<P.T b i P.R*P.T b r q\/(P.T b r P.R*P.T b i q=P.T b i P.R*P.T b r q/\b r<=b i)
def Stp (b b':Nat->Nat):Prop:=∃ q r,Ent P b q/\Lev P b q r/\b'=fs b r q
variable {P}
theorem Val.inj {b:Nat->Nat}(v:Val P b){i j:Nat}(hi:i<P.n)(hj:j<P.n)(h:b i=b j):i=j:=bP fun ne=>by
 have e:=T_bas (S:=P.S) (b:=b) (i:=i) (j:=i) (ai hi) (ai hi)
 rw[ah rfl] at e
 have e2:=T_bas (S:=P.S) (b:=b) (i:=i) (j:=j) (ai hi) (ai hj)
 rw[am ne,<- h,e] at e2
 have:0<P.S.D b:=v.d
 omega
theorem jGX {b:Nat->Nat}{i:Nat}(hi:i<P.n):P.T b P.n (b i)=0:=by
 have e:=T_bas (S:=P.S) (b:=b) (i:=P.n) (j:=i) (aB _) (ai hi)
 rw[am (bu hi)] at e
 exact e
theorem Val.step {b:Nat->Nat}{q r:Nat}(v:Val P b)(e:Ent P b q)(l:Lev P b q r):Val P (fs b r q):=by
 have hr:r<P.S.n+1:=ai l.lt
 have d0:P.S.D b≠0:=by have:0<P.S.D b:=v.d; omega
 refine⟨v.sp.piv hr d0,?_,fun i hi=>?_,fun i hi=>?_,?_⟩
 ·show 0<P.S.D (fs b r q)
  rw[D_fs]
  exact l.pos
 ·show 0<=P.S.T (fs b r q) i P.R
  by_cases z:i=r
  ·rw[z,T_r]; exact v.f r l.lt
  ·have h:=T_piv (q:=q) (c:=P.R) v.sp hr (ai hi) z
   have key:0<=P.S.D b*P.S.T (fs b r q) i P.R:=by
    rw[h]
    by_cases p:0<P.S.T b i q
    ·have:=l.best i hi p
     have c:=Int.mul_comm (P.S.T b r P.R) (P.S.T b i q)
     have this:P.S.T b r P.R*P.S.T b i q<P.S.T b i P.R*P.S.T b r q\/(P.S.T b r P.R*P.S.T b i q=P.S.T b i P.R*P.S.T b r q/\b r<=b i):=this
     omega
    ·have a:0<=P.S.T b i P.R*P.S.T b r q:=Int.mul_nonneg (v.f i hi) (bU l.pos)
     have b2:P.S.T b i q*P.S.T b r P.R<=0:=bn (by omega) (v.f r l.lt)
     omega
   exact dD (a:=P.S.D b) (by rw[bF]; exact key) v.d
 ·by_cases z:i=r
  ·rw[z,jCQ]; exact e.lt
  ·rw[fs_ne z]; exact v.lt i hi
 ·have:P.n≠r:=bu l.lt
  rw[fs_ne this]
  exact v.om
theorem Val.stp {b b':Nat->Nat}(v:Val P b)(h:Stp P b b'):Val P b':=by
 obtain⟨q,r,e,l,rfl⟩:=h
 exact v.step e l
theorem cross {a b c x y z:Int}(hb:0<y)(hx:0<x)(hz:0<z)(h1:a*y<=b*x)(h2:b*z<=c*y):a*z<=c*x:=by
 have e1:=cb h1 (bU hz)
 have e2:=cb h2 (bU hx)
 refine dD (a:=y) ?_ hb
 have e3:a*y*z=y*(a*z):=by grind
 have e4:b*x*z=b*z*x:=by grind
 have e5:c*y*x=y*(c*x):=by grind
 omega
theorem jLM {p:Nat->Prop} :∀ (N:Nat),(∃ c,p c)->(∀ c,p c->c<N)->∃ t,p t/\∀ c,p c->c<=t
 | 0,⟨c,h⟩,hN=>absurd (hN c h) (be _)
 | N+1,ex,hN=>by
  by_cases h:p N
  ·exact⟨N,h,fun c hc=>Nat.le_of_lt_succ (hN c hc)⟩
  ·exact jLM N ex fun c hc=>by
    have:=hN c hc
    have:c≠N:=fun z=>h (z ▸ hc)
    omega
theorem jKR {h:Nat->Nat->Nat}{L:Nat}(L0:0<L)(per:∀ k,h (k+L)=h k)(v0:Val P (h 0))(st:∀ k,Stp P (h k) (h (k+1))):False:=by
 have v:∀ k,Val P (h k):=fun k=>by
  induction k with
  | zero=>exact v0
  | succ k ih=>exact ih.stp (st k)
 obtain⟨q,hq⟩:=d9 st
 obtain⟨r,hr⟩:=d9 hq
 have hE:∀ k,Ent P (h k) (q k):=fun k=>(hr k).1
 have hL:∀ k,Lev P (h k) (q k) (r k):=fun k=>(hr k).2.1
 have hS:∀ k,h (k+1)=fs (h k) (r k) (q k):=fun k=>(hr k).2.2
 have perm:∀ m k,h (k+L*m)=h k:=fun m=>by
  induction m with
  | zero=>intro k; rfl
  | succ m ih=>intro k; rw[Nat.mul_succ,<- Nat.add_assoc,per,ih]
 have gain:∀ k,P.T (h (k+1)) P.n P.R*P.D (h k)=P.T (h k) P.n P.R*P.D (h (k+1)) - P.T (h k) P.n (q k)*P.T (h k) (r k) P.R:=fun k=>by
  have e:=T_piv (S:=P.S) (q:=q k) (c:=P.R) (v k).sp (ai (hL k).lt) (aB P.S.n) (bu (hL k).lt)
  have e2:P.S.D (h (k+1))=P.S.T (h k) (r k) (q k):=by rw[hS,D_fs]
  rw[<- hS] at e
  show P.S.T (h (k+1)) P.S.n P.R*P.S.D (h k)=P.S.T (h k) P.S.n P.R*P.S.D (h (k+1)) - P.S.T (h k) P.S.n (q k)*P.S.T (h k) (r k) P.R
  rw[e2,Int.mul_comm,e]
 have up:∀ k m,P.T (h k) P.n P.R*P.D (h (k+m))<=P.T (h (k+m)) P.n P.R*P.D (h k):=fun k m=>by
  induction m with
  | zero=>exact ft _
  | succ m ih=>
   refine cross (v (k+m)).d (v k).d (v (k+m+1)).d ih ?_
   have g:=gain (k+m)
   have:P.T (h (k+m)) P.n (q (k+m))*P.T (h (k+m)) (r (k+m)) P.R<=0:=bn (bU (hE (k+m)).neg) ((v (k+m)).f _ (hL (k+m)).lt)
   show P.T (h (k+m)) P.n P.R*P.D (h (k+m+1))<=P.T (h (k+m+1)) P.n P.R*P.D (h (k+m))
   omega
 have deg:∀ k,P.T (h k) (r k) P.R=0:=fun k=>bP fun ne=>by
  have x0:=(v k).f _ (hL k).lt
  have x1:0<P.T (h k) (r k) P.R:=by omega
  have g:=gain k
  have s:P.T (h k) P.n (q k)*P.T (h k) (r k) P.R<0:=dE (hE k).neg x1
  have u:=up (k+1) (L - 1)
  rw[show k+1+(L - 1)=k+L by omega,per] at u
  omega
 let mem:Nat->Nat->Prop:=fun k c=>∃ i,i<P.n/\h k i=c
 have mper:∀ k m c,mem (k+L*m) c↔mem k c:=fun k m c=>by show (∃ i,_/\h (k+L*m) i=c)↔_; rw[perm]
 have qin:∀ k,mem (k+1) (q k):=fun k=>⟨r k,(hL k).lt,by rw[hS,jCQ]⟩
 have qout:∀ k,¬ mem k (q k):=fun k ⟨i,hi,e⟩=>by
  have:=jGX (P:=P) (b:=h k) hi
  rw[e] at this
  have:=(hE k).neg
  omega
 have m1:∀ k c,mem (k+1) c->mem k c\/c=q k:=fun k c ⟨i,hi,e⟩=>by
  rw[hS] at e
  by_cases z:i=r k
  ·rw[z,jCQ] at e; exact .inr e.symm
  ·rw[fs_ne z] at e; exact .inl ⟨i,hi,e⟩
 have m2:∀ k c,mem k c->mem (k+1) c\/c=h k (r k):=fun k c ⟨i,hi,e⟩=>by
  by_cases z:i=r k
  ·rw[z] at e; exact .inr e.symm
  ·exact .inl ⟨i,hi,by rw[hS,fs_ne z]; exact e⟩
 let fick:Nat->Prop:=fun c=>∃ k,q k=c
 have enters:∀ c m l,¬ mem l c->mem (l+m) c->fick c:=fun c m=>by
  induction m with
  | zero=>intro l a b; exact absurd b a
  | succ m ih=>
   intro l a b
   rcases m1 _ _ b with z | z
   ·exact ih l a z
   ·exact⟨_,z.symm⟩
 have leaves:∀ c m l,mem l c->¬ mem (l+m) c->∃ k,h k (r k)=c:=fun c m=>by
  induction m with
  | zero=>intro l a b; exact absurd a b
  | succ m ih=>
   intro l a b
   by_cases z:mem (l+m) c
   ·rcases m2 _ _ z with y | y
    ·exact absurd y b
    ·exact⟨_,y.symm⟩
   ·exact ih l a z
 have fk:∀ k l c,mem k c->¬ mem l c->fick c:=fun k l c a b=>by
  have:mem (k+L*l) c:=(mper k l c).mpr a
  have le:l<=k+L*l:=by
   have:l*1<=l*L:=dk l L0
   rw[el L l]
   omega
  refine enters c (k+L*l - l) l b ?_
  rw[show l+(k+L*l - l)=k+L*l by omega]
  exact this
 obtain⟨t,⟨k2,ht⟩,tmax⟩:=jLM (p:=fick) P.N ⟨q 0,0,rfl⟩ fun c ⟨k,e⟩=>e ▸ (hE k).lt
 obtain⟨k1,e1⟩:=leaves t (L - 1) (k2+1) (ht ▸ qin k2) (by
  rw[show k2+1+(L - 1)=k2+L by omega]
  show ¬ ∃ i,_/\h (k2+L) i=t
  rw[per]
  exact ht ▸ qout k2)
 have zf:∀ c m l,(∀ i,i<P.n->h l i=c->P.T (h l) i P.R=0)->∀ i,i<P.n->h (l+m) i=c->P.T (h (l+m)) i P.R=0:=fun c m=>by
  induction m with
  | zero=>intro l a; exact a
  | succ m ih=>
   intro l a i hi e
   have b:=ih l a
   show P.S.T (h (l+m+1)) i P.R=0
   have e:h (l+m+1) i=c:=e
   rw[hS] at e ⊢
   by_cases z:i=r (l+m)
   ·rw[z,T_r]; exact deg (l+m)
   ·rw[fs_ne z] at e
    have g:=T_piv (S:=P.S) (q:=q (l+m)) (c:=P.R) (v (l+m)).sp (ai (hL (l+m)).lt) (ai hi) z
    have g1:P.S.T (h (l+m)) i P.R=0:=b i hi e
    have g2:P.S.T (h (l+m)) (r (l+m)) P.R=0:=deg (l+m)
    rw[g1,g2,cf,bF] at g
    have d:0<P.S.D (h (l+m)):=(v (l+m)).d
    rcases Int.mul_eq_zero.mp (show P.S.D (h (l+m))*_=0 from g) with y | y
    ·omega
    ·exact y
 have zer:∀ c,fick c->∀ k i,i<P.n->h k i=c->P.T (h k) i P.R=0:=fun c ⟨k0,e0⟩ k i hi e=>by
  have le:k0<=k+L*k0:=by
   have:k0*1<=k0*L:=dk k0 L0
   rw[el L k0]
   omega
  have:=zf c (k+L*k0 - k0) k0 (fun i hi e=>absurd ⟨i,hi,e.trans e0.symm⟩ (qout k0)) i hi
  rw[show k0+(k+L*k0 - k0)=k+L*k0 by omega,perm] at this
  exact this e
 have c2t:P.T (h k2) P.n t<0:=ht ▸ (hE k2).neg
 have c2l:∀ j,j<t->0<=P.T (h k2) P.n j:=ht ▸ (hE k2).low
 have tin:mem k1 t:=⟨r k1,(hL k1).lt,e1⟩
 have q1t:q k1<t:=by
  have:=tmax _ ⟨k1,rfl⟩
  have:q k1≠t:=fun z=>qout k1 (z ▸ tin)
  omega
 have two:=jL2 (S:=P.S) (b:=h k1) (b':=h k2) (q:=q k1) (v k1).sp ((v k1).om.trans (v k2).om.symm)
 have neg:P.S.T (h k1) P.S.n (q k1)*P.S.D (h k2)<0:=dE (hE k1).neg (v k2).d
 have pos:0<=P.S.D (h k1)*P.S.T (h k2) P.S.n (q k1):=Int.mul_nonneg (bU (v k1).d) (c2l _ q1t)
 obtain⟨i,hi,hp⟩:=jFX (n:=P.S.n) (f:=fun i=>P.S.T (h k1) i (q k1)*P.S.T (h k2) P.S.n (h k1 i)) (by omega)
 have hp:0<P.T (h k1) i (q k1)*P.T (h k2) P.n (h k1 i):=hp
 by_cases ir:i=r k1
 ·rw[ir,e1] at hp
  have:=Int.mul_neg_of_pos_of_neg (hL k1).pos c2t
  omega
 ·have nz:P.T (h k2) P.n (h k1 i)≠0:=fun z=>by rw[z,bF] at hp; omega
  have nm:¬ mem k2 (h k1 i):=fun ⟨j,hj,e⟩=>nz (by rw[<- e]; exact jGX hj)
  have fj:fick (h k1 i):=fk k1 k2 _ ⟨i,hi,rfl⟩ nm
  have jt:h k1 i<t:=by
   have:=tmax _ fj
   have:h k1 i≠t:=fun z=>ir ((v k1).inj hi (hL k1).lt (z.trans e1.symm))
   omega
  have cj:=c2l _ jt
  have tp:0<P.T (h k1) i (q k1):=bP fun y=>by
   have:P.T (h k1) i (q k1)*P.T (h k2) P.n (h k1 i)<=0:=bn (by omega) cj
   omega
  have x1:=zer _ fj k1 i hi rfl
  have x2:=deg k1
  rcases (hL k1).best i hi tp with y | ⟨y,y2⟩
  ·rw[x1,x2,cf,cf] at y; omega
  ·rw[e1] at y2; omega
def Chn (P:Prob)(m:Nat)(b:Nat->Nat):Prop:=∃ g:Nat->Nat->Nat,g 0=b/\∀ k,k<m->Stp P (g k) (g (k+1))
theorem Chn.more {m:Nat}{b b':Nat->Nat}(s:Stp P b b')(c:Chn P m b'):Chn P (m+1) b:=by
 obtain⟨g,g0,gs⟩:=c
 refine⟨fun k=>match k with | 0=>b | k+1=>g k,rfl,fun k hk=>?_⟩
 cases k with
 | zero=>show Stp P b (g 0); rw[g0]; exact s
 | succ k=>exact gs k (by omega)
theorem Chn.zero (b:Nat->Nat):Chn P 0 b:=⟨fun _=>b,rfl,fun k hk=>absurd hk (be _)⟩
def encB (N:Nat):Nat->(Nat->Nat)->Nat
 | 0,_=>0
 | n+1,b=>encB N n b*N+b n
theorem jJG {N:Nat} :∀ {n:Nat}{b:Nat->Nat},(∀ i,i<n->b i<N)->encB N n b<N ^ n
 | 0,_,_=>Nat.one_pos
 | n+1,b,h=>by
  have a:=jJG (n:=n) fun i hi=>h i (ai hi)
  have c:=h n (aB n)
  show encB N n b*N+b n<N ^ n*N
  have:(encB N n b+1)*N<=N ^ n*N:=eY _ a
  rw[fm] at this
  omega
theorem jGP {N:Nat} :∀ {n:Nat}{b b':Nat->Nat},(∀ i,i<n->b i<N)->(∀ i,i<n->b' i<N)->encB N n b=encB N n b'->∀ i,i<n->b i=b' i
 | 0,_,_,_,_,_=>fun i hi=>absurd hi (be _)
 | n+1,b,b',h,h',e=>by
  have c:=h n (aB n)
  have c':=h' n (aB n)
  have e:encB N n b*N+b n=encB N n b'*N+b' n:=e
  have em:b n=b' n:=by
   have:(encB N n b*N+b n) % N=(encB N n b'*N+b' n) % N:=bo (· % N) e
   rw[dB,dB,cc c,cc c'] at this
   exact this
  have ed:encB N n b=encB N n b':=by
   rw[em] at e
   exact Nat.eq_of_mul_eq_mul_right (by omega) (Nat.add_right_cancel e)
  have ih:=jGP (n:=n) (fun i hi=>h i (ai hi)) (fun i hi=>h' i (ai hi)) ed
  intro i hi
  by_cases z:i=n
  ·rw[z]; exact em
  ·exact ih i (by omega)
theorem jLH:∀ (M:Nat) (f:Nat->Nat),(∀ k,k<=M->f k<M)->∃ i j,i<j/\j<=M/\f i=f j
 | 0,f,h=>absurd (h 0 (af _)) (be _)
 | M+1,f,h=>by
  by_cases ex:∃ i,i<M+1/\f i=f (M+1)
  ·obtain⟨i,hi,e⟩:=ex
   exact⟨i,M+1,hi,af _,e⟩
  ·have ne:∀ i,i<M+1->f i≠f (M+1):=fun i hi e=>ex ⟨i,hi,e⟩
   have top:=h (M+1) (af _)
   obtain⟨i,j,hij,hj,e⟩:=jLH M (fun k=>if f k<f (M+1) then f k else f k - 1) fun k hk=>by
    have a:=h k (by omega)
    have b:=ne k (by omega)
    show (if f k<f (M+1) then f k else f k - 1)<M
    split <;> omega
   refine⟨i,j,hij,by omega,?_⟩
   have a:=ne i (by omega)
   have b:=ne j (by omega)
   have e:(if f i<f (M+1) then f i else f i - 1)=if f j<f (M+1) then f j else f j - 1:=e
   split at e <;> split at e <;> omega
theorem no_chain {b:Nat->Nat}(v:Val P b):¬ Chn P (P.N ^ P.n) b:=by
 rintro ⟨g,g0,gs⟩
 have vs:∀ k,k<=P.N ^ P.n->Val P (g k):=fun k=>by
  induction k with
  | zero=>intro _; rw[g0]; exact v
  | succ k ih=>intro hk; exact(ih (by omega)).stp (gs k (by omega))
 obtain⟨i,j,hij,hj,e⟩:=jLH (P.N ^ P.n) (fun k=>encB P.N P.n (g k)) fun k hk=>jJG (vs k hk).lt
 have far:∀ k,k<=P.N ^ P.n->∀ l,P.n<=l->g k l=b l:=fun k=>by
  induction k with
  | zero=>intro _ l _; rw[g0]
  | succ k ih=>
   intro hk l hl
   obtain⟨q,r,_,lv,e⟩:=gs k (by omega)
   rw[e,fs_ne (by have:=lv.lt; omega)]
   exact ih (by omega) l hl
 have eg:g i=g j:=by
  funext l
  by_cases hl:l<P.n
  ·exact jGP (vs i (by omega)).lt (vs j hj).lt e l hl
  ·rw[far i (by omega) l (by omega),far j hj l (by omega)]
 refine jKR (P:=P) (h:=fun k=>g (i+k % (j - i))) (L:=j - i) (by omega) (fun k=>?_) ?_ fun k=>?_
 ·show g (i+(k+(j - i)) % (j - i))=g (i+k % (j - i))
  rw[Nat.add_mod_right]
 ·show Val P (g (i+0 % (j - i)))
  rw[Nat.zero_mod]
  exact vs i (by omega)
 ·have hm:=mod_lt k (show 0<j - i by omega)
  have s:=gs (i+k % (j - i)) (by omega)
  show Stp P (g (i+k % (j - i))) (g (i+(k+1) % (j - i)))
  have e2:g (i+(k+1) % (j - i))=g (i+k % (j - i)+1):=by
   by_cases z:k % (j - i)+1=j - i
   ·have:(k+1) % (j - i)=0:=by
     by_cases o:j - i=1
     ·rw[o,Nat.mod_one]
     ·rw[Nat.add_mod,cc (show 1<j - i by omega),z,Nat.mod_self]
    rw[this,Nat.add_zero,eg]
    congr 1
    omega
   ·have:(k+1) % (j - i)=k % (j - i)+1:=by
     rw[Nat.add_mod,cc (show k % (j - i)+1 % (j - i)<j - i by
      by_cases o:j - i=1
      ·omega
      ·rw[cc (show 1<j - i by omega)]; omega)]
     by_cases o:j - i=1
     ·omega
     ·rw[cc (show 1<j - i by omega)]
    rw[this]
    rfl
  rw[e2]
  exact s
end Sx
end Eo
end
section
namespace Eo
namespace Sx
structure Bx where
 n:Nat
 p:Nat
 inn:Nat->Nat->Bool
 co:Nat->Int
namespace Bx
variable (B:Bx)
def col (c k:Nat):Int:=
 if c<B.p then (if k<B.n then (if B.inn c k=true then 1 else 0) else B.co c)
 else if c<B.p+B.n then (if k=c - B.p then 1 else 0)
 else if c=B.p+B.n then (if k<B.n then 1 else 0)
 else if k=B.n then 1 else 0
def P:Prob:=⟨⟨B.n,B.col⟩,B.p+B.n,B.p+B.n,B.p+B.n+1⟩
def b0:Nat->Nat:=fun i=>if i<B.n then B.p+i else B.p+B.n+1
variable {B}
theorem col_p {c k:Nat}(h:c<B.p)(hk:k<B.n):B.col c k=if B.inn c k=true then 1 else 0:=by
 unfold col
 rw[ah h,ah hk]
theorem col_c {c:Nat}(h:c<B.p):B.col c B.n=B.co c:=by
 unfold col
 rw[ah h,am (aV _)]
theorem col_s {j k:Nat}(h:j<B.n):B.col (B.p+j) k=if k=j then 1 else 0:=by
 unfold col
 rw[am (by omega),ah (by omega),Nat.add_sub_cancel_left]
theorem col_r {k:Nat} :B.col (B.p+B.n) k=if k<B.n then 1 else 0:=by
 unfold col
 rw[am (by omega),am (by omega),ah rfl]
theorem col_o {k:Nat} :B.col (B.p+B.n+1) k=if k=B.n then 1 else 0:=by
 unfold col
 rw[am (by omega),am (by omega),am (by omega)]
theorem M0 {i k:Nat}(hi:i<B.n+1):B.P.S.M B.b0 i k=dlt i k:=by
 show B.col (B.b0 i) k=dlt i k
 unfold b0 dlt
 by_cases h:i<B.n
 ·rw[ah h,col_s h]
  by_cases z:k=i
  ·rw[ah z,ah z.symm]
  ·rw[am z,am fun y=>z y.symm]
 ·rw[am h,col_o]
  have:i=B.n:=by omega
  subst this
  by_cases z:k=B.n
  ·rw[ah z,ah z.symm]
  ·rw[am z,am fun y=>z y.symm]
theorem dt_dl {m i:Nat}{v:Nat->Int}(hi:i<m):dt m (rs dlt i v)=v i:=by
 have e:dt m (rs dlt i v)=dt m (rs dlt i fun j=>sxS m fun k=>v k*dlt k j):=jAO fun a j _ hj=>by
  unfold rs
  by_cases z:a=i
  ·rw[ah z,ah z,jAP hj fun k _ hk=>by
    have:dlt k j=0:=am hk
    rw[this,bF]]
   have:dlt j j=1:=ah rfl
   rw[this,dH]
  ·rw[am z,am z]
 rw[e,jGQ hi,jAP hi fun k hk ne=>by
  have:dt m (rs dlt i (dlt k))=0:=jJH (fun z=>ne z.symm) hi hk fun j _=>by rw[jAJ,yW ne]
  rw[this,bF],jCA,dt_id,dH]
theorem D0:B.P.D B.b0=1:=by
 show dt (B.n+1) (B.P.S.M B.b0)=1
 rw[jAO (N:=dlt) fun i k hi _=>M0 hi,dt_id]
theorem T0 {i c:Nat}(hi:i<B.n+1):B.P.T B.b0 i c=B.col c i:=by
 show dt (B.n+1) (rs (B.P.S.M B.b0) i (B.col c))=_
 rw[jAO (N:=rs dlt i (B.col c)) fun a k ha _=>by
  unfold rs
  by_cases z:a=i
  ·rw[ah z,ah z]
  ·rw[am z,am z]; exact M0 ha]
 exact dt_dl hi
theorem val0:Val B.P B.b0:=by
 refine⟨fun c k hk=>?_,by rw[D0]; decide,fun i hi=>?_,fun i hi=>?_,?_⟩
 ·have hk:k<B.n+1:=hk
  show B.P.D B.b0*B.col c k=sxS (B.n+1) fun i=>B.P.T B.b0 i c*B.P.S.M B.b0 i k
  rw[D0,Int.one_mul,jAP (i:=k) hk fun i hi ne=>by
   have:dlt i k=0:=am ne
   rw[M0 hi,this,bF]]
  have:dlt k k=1:=ah rfl
  rw[M0 hk,this,dH,T0 hk]
 ·have hi:i<B.n:=hi
  show 0<=B.P.T B.b0 i (B.p+B.n)
  rw[T0 (by omega),col_r,ah hi]
  decide
 ·have hi:i<B.n:=hi
  show B.b0 i<B.p+B.n
  unfold b0
  rw[ah hi]
  omega
 ·show B.b0 B.n=_
  unfold b0
  rw[am (aV _)]
  rfl
theorem jOR {c k:Nat}(hc:c<B.p+B.n)(hk:k<B.n):0<=B.col c k:=by
 by_cases h:c<B.p
 ·rw[col_p h hk]
  split <;> decide
 ·have:c=B.p+(c - B.p):=by omega
  rw[this,col_s (by omega)]
  split <;> decide
section
variable (ne:∀ c,c<B.p->∃ k,k<B.n/\B.inn c k=true)
include ne
theorem some_row {b:Nat->Nat}{q:Nat}(v:Val B.P b)(hq:q<B.p+B.n):∃ i,i<B.n/\0<B.P.T b i q:=bP fun no=>by
 have np:∀ i,i<B.n->B.P.T b i q<=0:=fun i hi=>by
  have:¬ 0<B.P.T b i q:=fun z=>no ⟨i,hi,z⟩
  omega
 obtain⟨k,hk,pos⟩:∃ k,k<B.n/\0<B.col q k:=by
  by_cases h:q<B.p
  ·obtain⟨k,hk,e⟩:=ne q h
   exact⟨k,hk,by rw[col_p h hk,ah e]; decide⟩
  ·refine⟨q - B.p,by omega,?_⟩
   have:q=B.p+(q - B.p):=by omega
   rw[this,col_s (by omega),ah (by omega)]
   decide
 have s:=v.sp q k (ai hk)
 have s:B.P.D b*B.col q k=sxS B.n (fun i=>B.P.T b i q*B.col (b i) k)+B.P.T b B.n q*B.col (b B.n) k:=s
 have o:b B.n=B.p+B.n+1:=v.om
 rw[o,col_o,am (aC hk),bF,cA] at s
 have l:=jND (n:=B.n) (f:=fun i=>B.P.T b i q*B.col (b i) k) fun i hi=>bn (np i hi) (jOR (v.lt i hi) hk)
 have:=Int.mul_pos v.d pos
 omega
end
def xP (B:Bx)(b:Nat->Nat)(c:Nat):Int:=sxS B.n fun i=>if b i=c then B.P.T b i (B.p+B.n) else 0
section
variable {b:Nat->Nat}(v:Val B.P b)
include v
theorem xP_in {i:Nat}(hi:i<B.n):B.xP b (b i)=B.P.T b i (B.p+B.n):=by
 unfold xP
 rw[jAP hi fun k hk ne=>am fun z=>ne (v.inj hk hi z),ah rfl]
omit v in
theorem xP_out {c:Nat}(h:∀ i,i<B.n->b i≠c):B.xP b c=0:=jB7 fun i hi=>am (h i hi)
end
section
variable {b:Nat->Nat}(v:Val B.P b)(op:∀ c,c<B.p+B.n->0<=B.P.T b B.n c)
include v op
end
end Bx
end Sx
end Eo
end
section
namespace Eo
def sxN:Nat->(Nat->Nat)->Nat
 | 0,_=>0
 | n+1,f=>sxN n f+f n
theorem jE8:∀ {n:Nat}{f g:Nat->Nat},(∀ k,k<n->f k=g k)->sxN n f=sxN n g
 | 0,_,_,_=>rfl
 | n+1,f,g,h=>by
  show sxN n f+f n=sxN n g+g n
  rw[jE8 fun k hk=>h k (ai hk),h n (aB n)]
theorem jI2 (f:Nat->Nat):∀ (n j:Nat),j<=n->sxN n (fun k=>f (skp j k))+f j=sxN (n+1) f
 | 0,0,_=>rfl
 | n+1,j,h=>by
  by_cases z:j=n+1
  ·rw[z,jE8 (g:=f) fun k hk=>by unfold skp; rw[ah hk]]
   rfl
  ·have ih:=jI2 f n j (by omega)
   show sxN n (fun k=>f (skp j k))+f (skp j n)+f j=sxN (n+1) f+f (n+1)
   have:skp j n=n+1:=by unfold skp; rw[am (by omega)]
   rw[this]
   omega
theorem jLA {f:Nat->Nat}{X:Nat} :∀ {n:Nat},(∀ k,k<n->f k<=X)->sxN n f<=n*X
 | 0,_=>aP _
 | n+1,h=>by
  have a:=jLA (n:=n) fun k hk=>h k (ai hk)
  have b:=h n (aB n)
  show sxN n f+f n<=_
  rw[fm]
  omega
theorem jFZ {f:Nat->Int}{g:Nat->Nat}{Y:Nat} :∀ {n:Nat},(∀ k,k<n->(f k).natAbs<=g k*Y)->(sxS n f).natAbs<=sxN n g*Y
 | 0,_=>aP _
 | n+1,h=>by
  have a:=jFZ (n:=n) fun k hk=>h k (ai hk)
  have b:=h n (aB n)
  show (sxS n f+f n).natAbs<=(sxN n g+g n)*Y
  rw[Nat.add_mul]
  have:=Int.natAbs_add_le (sxS n f) (f n)
  omega
theorem jFO {Y:Nat} :∀ {n:Nat}{M:Nat->Nat->Int},(∀ i,i<n->sxN n (fun j=>(M i j).natAbs)<=Y)->(dt n M).natAbs<=Y ^ n
 | 0,_,_=>af _
 | n+1,M,h=>by
  have key:(dt (n+1) M).natAbs<=sxN (n+1) (fun j=>(M 0 j).natAbs)*Y ^ n:=jFZ fun j hj=>by
   rw[eZ,eZ,jM3,Nat.one_mul]
   refine dk _ (jFO fun i hi=>?_)
   have a:=jI2 (fun k=>(M (i+1) k).natAbs) n j (by omega)
   have b:=h (i+1) (by omega)
   omega
  refine aZ key ?_
  rw[Nat.pow_succ,el (Y ^ n)]
  exact eY _ (h 0 (fq _))
namespace Sx.Bx
variable {B:Bx}
theorem jDW {X:Nat}(hX:∀ c,c<B.p->(B.co c).natAbs<=X)(c:Nat):sxN (B.n+1) (fun k=>(B.col c k).natAbs)<=B.n+1+X:=by
 have e:∀ k,k<B.n->(B.col c k).natAbs<=1:=fun k hk=>by
  unfold col
  repeat' split
  all_goals first | decide | omega
 have a:=jLA (n:=B.n) e
 have b:(B.col c B.n).natAbs<=1+X:=by
  by_cases h:c<B.p
  ·rw[col_c h]
   have:=hX c h
   omega
  ·unfold col
   rw[am h]
   repeat' split
   all_goals first | omega | (show (1:Int).natAbs<=_; show 1<=_; omega) | (show (0:Int).natAbs<=_; exact aP _)
 show sxN B.n _+(B.col c B.n).natAbs<=_
 omega
theorem T_abs {X:Nat}(hX:∀ c,c<B.p->(B.co c).natAbs<=X)(b:Nat->Nat)(i c:Nat):(B.P.T b i c).natAbs<=(B.n+1+X) ^ (B.n+1):=jFO (n:=B.n+1) fun k _=>by
 show sxN (B.n+1) (fun j=>(rs (B.P.S.M b) i (B.col c) k j).natAbs)<=_
 unfold rs
 by_cases z:k=i
 ·rw[ah z]; exact jDW hX c
 ·rw[am z]; exact jDW hX (b k)
theorem D_abs {X:Nat}(hX:∀ c,c<B.p->(B.co c).natAbs<=X)(b:Nat->Nat):(B.P.D b).natAbs<=(B.n+1+X) ^ (B.n+1):=jFO (n:=B.n+1) fun k _=>jDW hX (b k)
end Sx.Bx
end Eo
end
section
namespace L2
open PySem PySem.Spec PyProof.Rows
section
variable {X:Cx}{sc:Scope}{cl:List (Str×Addr)}{C:Addr}{Nc:List Str}{fp:List Addr}{s:Shared}{H:Hp}
theorem jFT:kZ (blkC X sc cl C Nc fp s H) (.builtin "len") (fun xs H Q=>∃ p ys,xs=[.ref p]/\(SqL X.K H p ys\/SqT X.K H p ys)/\Q (.int ys.length) H):=jA1
end
theorem jGL {X:Cx}{a b c:Expr}{pos:Pos}{ta tb:TE}{tc:TT}(hc:JT X c tc)(ha:JE X a ta)(hb:JE X b tb):JE X (.IfExp c a b pos) (tIf tc ta tb):=⟨jKL hc.h ha.h hb.h⟩
end L2
namespace Eo
open PySem L2
def bxO (w:Int)(ms:List Int)(pcs:List (List Int×Int))(lack:Int):Sx.Bx:=⟨w.toNat,pcs.length,fun c k=>decide ((k:Int)∈(pcs.getD c ([],0)).1),fun c=>(pcs.getD c ([],0)).2 - lack*((((mus ms w.toNat).filter fun m=>decide (m∈(pcs.getD c ([],0)).1)).length:Nat):Int)⟩
def rowI (B:Sx.Bx)(b:Nat->Nat)(i:Nat):List Int:=(List.range (B.p+B.n+1)).map fun c=>B.P.T b i c
def cstI (B:Sx.Bx)(b:Nat->Nat):List Int:=(List.range (B.p+B.n)).map fun c=>B.P.T b B.n c
def tabI (B:Sx.Bx)(b:Nat->Nat):List (List Int):=(List.range B.n).map (rowI B b)++[cstI B b]
theorem nw_of {H H':Hp}{a:Addr}(e:Ext H H')(h:H' a=none):H a=none:=by
 cases z:H a with
 | none=>rfl
 | some o=>rw[e _ _ z] at h; cases h
theorem All2.imp' {α β:Type}{R S:α->β->Prop} :∀ {as:List α}{bs:List β},All2 R as bs->(∀ a b,a∈as->R a b->S a b)->All2 S as bs
 | [],[],_,_=>trivial
 | a::as,b::bs,h,f=>⟨f a b (aE ..) h.1,All2.imp' h.2 fun x y hx=>f x y (aA _ hx)⟩
def RowA (H:Hp)(u:V)(l:List Int):Prop:=∃ a,u= .ref a/\H a=some (.lst (l.map V.int))
def TabA (H:Hp)(t:Addr)(ls:List (List Int)):Prop:=∃ us,H t=some (.lst us)/\All2 (RowA H) us ls
theorem RowA.mono {H H':Hp}{u:V}{l:List Int}(h:RowA H u l)(k:∀ a xs,H a=some (.lst xs)->H' a=some (.lst xs)):RowA H' u l:=let ⟨a,e,q⟩:=h; ⟨a,e,k _ _ q⟩
theorem TabA.ext {H H':Hp}{t:Addr}{ls:List (List Int)}(h:TabA H t ls)(e:Ext H H'):TabA H' t ls:=let ⟨us,a,b⟩:=h; ⟨us,e _ _ a,b.imp fun _ _ z=>z.mono fun _ _ q=>e _ _ q⟩
theorem jNI {w:Int}{ms:List Int}{pcs:List (List Int×Int)}{lack:Int}{i:Nat}(hi:i<w.toNat):rowI (bxO w ms pcs lack) (bxO w ms pcs lack).b0 i=(((List.range pcs.length).map fun c=>if decide ((i:Int)∈(pcs.getD c ([],0)).1)=true then (1:Int) else 0)++(List.range w.toNat).map fun k=>if k=i then (1:Int) else 0)++[1]:=by
 have e:rowI (bxO w ms pcs lack) (bxO w ms pcs lack).b0 i=(List.range (pcs.length+w.toNat+1)).map fun c=>(bxO w ms pcs lack).col c i:=bz fun c _=>Sx.Bx.T0 (ai hi)
 rw[e,cG,aI,List.range_add,aI,bc]
 congr 1
 ·congr 1
  ·exact bz fun c hc=>Sx.Bx.col_p (B:=bxO w ms pcs lack) (aO.mp hc) hi
  ·refine bz fun k hk=>?_
   have:=Sx.Bx.col_s (B:=bxO w ms pcs lack) (k:=i) (aO.mp hk)
   refine Eq.trans this ?_
   by_cases z:k=i
   ·rw[ah z,ah z.symm]
   ·rw[am z,am fun y=>z y.symm]
 ·have:=Sx.Bx.col_r (B:=bxO w ms pcs lack) (k:=i)
  exact bo (fun x=> [x]) (this.trans (ah hi))
theorem jOP {w:Int}{ms:List Int}{pcs:List (List Int×Int)}{lack:Int} :cstI (bxO w ms pcs lack) (bxO w ms pcs lack).b0=((List.range pcs.length).map fun c=>(bxO w ms pcs lack).co c)++replicate w.toNat 0:=by
 have e:cstI (bxO w ms pcs lack) (bxO w ms pcs lack).b0=(List.range (pcs.length+w.toNat)).map fun c=>(bxO w ms pcs lack).col c w.toNat:=bz fun c _=>Sx.Bx.T0 (aB _)
 rw[e,List.range_add,aI,bc]
 congr 1
 ·exact bz fun c hc=>Sx.Bx.col_c (B:=bxO w ms pcs lack) (aO.mp hc)
 ·refine List.eq_replicate_iff.mpr ⟨by rw[ab,ao],fun x hx=>?_⟩
  obtain⟨k,hk,rfl⟩:=bw.mp hx
  have hk:=aO.mp hk
  have:=Sx.Bx.col_s (B:=bxO w ms pcs lack) (k:=w.toNat) hk
  rw[am (by omega)] at this
  exact this
section
variable {P:Program}{w:World}{K:W.Frag}{mg:Str->Option Value}{base:Heap}
variable {f fM:Addr}{fdM:FuncData}{cdv:Value}{A:Around}{outer:List Env}{s:Shared}{H0:Hp}{E:XK}
abbrev jEH:List Str:=["box","lack","musts","table","thing","held","costs"]
theorem scFirst:FnScope jEH ["box","lack"] (j7 yI):=⟨rfl,rfl,rfl,by decide+kernel,rfl,by decide+kernel,by decide+kernel⟩
abbrev XFir (P:Program)(w:World)(K:W.Frag)(mg:Str->Option Value)(base:Heap)(f:Addr)(cdv:Value)(A:Around)(outer:List Env)(s:Shared)(H:Hp)(E:XK):Cx:=XOf jEH "first_table" yI P w K mg base f cdv A outer s H E
def firLA (T:Txt mg): { t:TS // JSs (XFir P w K mg base f cdv A outer s H0 E) (yM ((jB yI).getD 2 (.Pass ⟨0,0,0,0⟩))) t} :=
 have nd:=scFirst.nd
 ⟨_,(j8 (jDR (i:=5) nd rfl lL ⟨by rfl⟩ (m:=[none,some 4]) (Nc:=["piece","thing"]) rfl (yN (jE jK (jv 0 rfl vL) (j6) jD)) rfl (by decide+kernel) (by decide+kernel) (kE (psc:=j7 yI) (by decide+kernel)) (jH (N:=jEH) rfl rfl (by decide+kernel)) (fun cl C fp s H=>jL (i:=0) (show (["piece","thing"]:List Str).Nodup by decide+kernel) rfl (yD (by decide+kernel))) (fun cl C fp s H=>kN) (fun cl C fp s H=>(jGL (jJ jFH (jv 1 rfl (kL (by decide+kernel))) (jE jAM (jv 0 rfl (kG (by decide+kernel))) (j6) jD) jGB) (j6) (j6))) yR)
   (jC (jCJ (je_bm br bV bW jAF (jv 3 rfl vL) (j0 (jU jDM (jU jDM (jv 5 rfl vL) (kS (m:=[none,some 4]) (Nc:=["other","thing"]) rfl (kR gD T.range (j0 (jE jK (jv 0 rfl vL) (j6) jD) j5 jM) jM) rfl (by decide+kernel) (by decide+kernel) (kE (psc:=j7 yI) (by decide+kernel)) (jH (N:=jEH) rfl rfl (by decide+kernel)) (fun cl C fp s H=>jL (i:=0) (show (["other","thing"]:List Str).Nodup by decide+kernel) rfl (yD (by decide+kernel))) (fun cl C fp s H=>kN) (fun cl C fp s H=>(jGL (jJ yX (jv 0 rfl (kG (by decide+kernel))) (jv 1 rfl (kL (by decide+kernel))) (jO _)) (j6) (j6))) kU)) (jB4 (j0 (j6) j5 jF))) j5 kW) kW) jP)))⟩
def firA (T:Txt mg)(CM:Can P w K mg base "musts_of" 1 fM fdM ["box"] jDC)(hr:Room 1 (XFir P w K mg base f cdv A outer s H0 E).A): { t:TS // JSs (XFir P w K mg base f cdv A outer s H0 E) (jB yI) t} :=
 have nd:=scFirst.nd
 ⟨_,(j8 (jG (i:=2) nd rfl (yU (by decide+kernel)) (CM.je (hr.mono (by decide)) gD (j0 (jv 0 rfl vL) j5 j3) j3) jP) (j8 (jG (i:=3) nd rfl lL (jB4 j5) jE9) (j8 (jBE bf rfl (kR gD T.range (j0 (jE jK (jv 0 rfl vL) (j6) jD) j5 jM) jM) (jL (i:=4) nd rfl (yU (by decide+kernel))) (firLA T).2 kU) (j8 (jGE (i:=6) nd rfl lL ⟨by rfl⟩ (m:=[none,some 1,some 2]) (Nc:=["piece","lack","musts"]) rfl (yN (jE jK (jv 0 rfl vL) (j6) jD)) rfl (by decide+kernel) (by decide+kernel) (kE (psc:=j7 yI) (by decide+kernel)) (jH (N:=jEH) rfl rfl (by decide+kernel)) (fun cl C fp s H=>jL (i:=0) (show (["piece","lack","musts"]:List Str).Nodup by decide+kernel) rfl (jIY (by decide+kernel))) (fun cl C fp s H=>kN) (fun cl C fp s H=>(jU yH (jE jEN (jv 0 rfl (jHN (by decide+kernel))) (j6) jD) (jU jBP (jv 1 rfl (jF8 (by decide+kernel))) (jI jFT (gl_bC (by decide+kernel)) T.len (by decide+kernel) (j0 (kS (m:=[none,some 0]) (Nc:=["must","piece"]) rfl (jHE (jv 2 rfl (jF8 (by decide+kernel)))) rfl (by decide+kernel) (by decide+kernel) (jGM (by decide+kernel)) (jH (N:=["piece","lack","musts"]) rfl rfl (by decide+kernel)) (fun cl C fp s H=>jL (i:=0) (show (["must","piece"]:List Str).Nodup by decide+kernel) rfl (yD (by decide+kernel))) (fun cl C fp s H=>jDQ (jJ jG8 (jv 0 rfl (kG (by decide+kernel))) (jE jJ6 (jv 1 rfl (kL (by decide+kernel))) (j6) jD) jGB)) (fun cl C fp s H=>(jv 0 rfl (kG (by decide+kernel)))) jDU) j5 jS) jS)))) yR)
   (j8 (jCJ (je_bm br bV bW jAF (jv 3 rfl vL) (j0 (jU jDM (jv 6 rfl vL) (jU jNZ (jB4 (j0 (j6) j5 jF)) (jE jK (jv 0 rfl vL) (j6) jD))) j5 kW) kW) jP)
   (jC (jX (jv 3 rfl vL))))))))⟩
theorem jJF (T:Txt mg){D:Ends}{H:Hp}{b t:Addr}{wi lack:Int}{ms:List Int}{pcs:List (List Int×Int)}{i:Nat}{us:List V}{v2 v5 v6:Option V}(hB:BoxAt H b wi ms pcs)(g:Good 16 32 wi ms pcs)(hi:i<wi.toNat)(ht:H t=some (.lst us))(ul:us.length<=100)
  (nx:∀ H' v5 u,u≠V.ref t->H' t=some (.lst (us++[u]))->RowA H' u (rowI (bxO wi ms pcs lack) (bxO wi ms pcs lack).b0 i)->(∀ c o,H c=some o->c≠t->H' c=some o)->D.nx [some (.ref b),some (.int lack),v2,some (.ref t),some (.int (i:Int)),v5,v6] H'):
  (firLA (f:=f) (cdv:=cdv) (A:=A) (outer:=outer) (s:=s) (H0:=H0) (E:=E) (P:=P) (w:=w) (K:=K) (base:=base) T).1 D [some (.ref b),some (.int lack),v2,some (.ref t),some (.int (i:Int)),v5,v6] H:=by
 obtain⟨qm,qp,ps,b1,b2,b3,b4⟩:=id hB.ex
 have pl:=b4.len
 have gpl:=g.pl
 have w1:=g.w1
 refine⟨_,rfl,b,_,2,_,rfl,rfl,SqT.of b1,rfl,qp,rfl,⟨_,SqT.of b3⟩,jA8 (xs:=ps) (fun σ=>∃ v,σ=[v,some (.int (i:Int))]) (mapZ (List.range pcs.length) fun c=>V.int (if decide ((i:Int)∈(pcs.getD c ([],0)).1)=true then (1:Int) else 0)) (mapZ.ok _ _) b3 (by rw[aj]; omega) ⟨_,rfl⟩ ?_ ?_⟩
 ·rintro j x σ' H' zs hx ⟨v,rfl⟩ e hz S1 S2 yes no
  have hj:j<pcs.length:=by
   rw[<- pl]
   exact(ar.mp hx).1
  obtain⟨x',hx',pa,pq,rfl,c1,c2⟩:=b4.get hj
  rw[hx] at hx'
  cases hx'
  dsimp only [kJ,yA]
  rw[ah rfl]
  refine⟨_,rfl,_,rfl,pa,_,0,_,rfl,rfl,SqT.of (e _ _ c1),rfl,pq,_,rfl, .inr (SqT.of (e _ _ c2)),rfl,jA9 _,_,rfl,?_⟩
  rw[jAN]
  have hg:(List.range pcs.length)[j]?=some j:=aK hj
  refine ite2 (fun h=>?_) (fun h=>?_)
  ·have h:decide ((i:Int)∈(pcs.getD j ([],0)).1)=true:=h
   have y:=hz.yes (H':=H') hg
   rw[ah h] at y
   exact yes _ _ _ ⟨_,rfl⟩ (Ext.refl _) y
  ·have h:¬ decide ((i:Int)∈(pcs.getD j ([],0)).1)=true:=h
   have y:=hz.yes (H':=H') hg
   rw[am h] at y
   exact yes _ _ _ ⟨_,rfl⟩ (Ext.refl _) y
 ·rintro l1 H1 zs d1 e1 n1 hz
  have hz:=hz.all (by rw[ao]; omega)
  have hB1:=hB.mono e1.tups
  refine⟨_,rfl, .inl ⟨rfl,_,SqL.of (e1 _ _ ht)⟩,_,rfl,_,rfl,b,_,0,_,rfl,rfl,SqT.of (e1 _ _ b1),rfl,wi,rfl,by omega,by omega,jBI (n:=wi.toNat) (fun σ=>∃ v,σ=[v,some (.int (i:Int))]) (mapZ (List.range wi.toNat) fun k=>V.int (if k=i then (1:Int) else 0)) (mapZ.ok _ _) (by rw[aj]; omega) ⟨_,rfl⟩ ?_ ?_⟩
  ·rintro j σ' H' zs' hj ⟨v,rfl⟩ e hz' S1 S2 yes no
   have hg:(List.range wi.toNat)[j]?=some j:=aK hj
   dsimp only [kJ,yA]
   rw[ah rfl]
   have y:=hz'.yes (H':=H') hg
   refine⟨_,rfl,_,rfl,rfl,_,rfl,ite2 (fun h=>?_) (fun h=>?_)⟩
   ·have h:V.int (0+(j:Int))=V.int (i:Int):=az h
    have h:(0+(j:Int))=(i:Int):=by injection h
    rw[ah (show j=i by omega)] at y
    exact yes _ _ _ ⟨_,rfl⟩ (Ext.refl _) y
   ·have h:¬ V.int (0+(j:Int))=V.int (i:Int):=fun z=>h (aG z)
    rw[am (show ¬ j=i from fun z=>h (by rw[z,cQ]))] at y
    exact yes _ _ _ ⟨_,rfl⟩ (Ext.refl _) y
  ·rintro l2 H2 zs2 d2 e2 n2 hz2
   have hz2:=hz2.all (by rw[ao]; exact af _)
   refine⟨l1,l2,_,_,rfl,rfl,e2 _ _ d1,d2,?_,fun l3 H3 d3 e3 n3=>?_⟩
   ·rw[hz,hz2,aj,ab,ab,ao,ao]; omega
   refine⟨by show (1:Nat)<=_; decide,fun l4 H4 d4 e4 n4=>?_⟩
   refine⟨l3,l4,_,_,rfl,rfl,e4 _ _ d3,d4,?_,fun l5 H5 d5 e5 n5=>?_⟩
   ·rw[hz,hz2,aj,aJ,ab,ab,ao,ao]; show _+1<=_; omega
   have E5:=((((e1.trans e2).trans e3).trans e4).trans e5)
   have t5:=E5 _ _ ht
   refine⟨t,us,_,rfl,rfl,t5,by rw[aj]; omega,?_⟩
   have lt:l5≠t:=fun z=>by rw[z] at n5; rw[((((e1.trans e2).trans e3).trans e4)) _ _ ht] at n5; cases n5
   refine nx _ _ _ (fun z=>lt (by cases z; rfl)) j4 ⟨l5,rfl,?_⟩ fun c o h n=>by rw[j9 n]; exact E5 _ _ h
   rw[j9 lt,d5,hz,hz2,jNI hi,aI,aI,bc,bc]
   rfl
def jF9:Sp:=fun vs H Q _=>∃ (b:Addr) (w lack:Int) (ms:List Int) (pcs:List (List Int×Int)),vs=[.ref b, .int lack]/\BoxAt H b w ms pcs/\Good 16 32 w ms pcs/\lack.natAbs<2 ^ 200/\∀ t H',TabA H' t (tabI (bxO w ms pcs lack) (bxO w ms pcs lack).b0)->Ext H H'->Q (.ref t) H'
theorem jKO {fd:FuncData}(F:Fun K "first_table" "first_table" yI f fd)(T:Txt mg)(CM:Can P w K mg base "musts_of" 1 fM fdM ["box"] jDC):FnOk P w K mg base CX0 2 f fd ["box","lack"] jF9:=by
 refine F.ok scFirst (fun vs H Q E h=>?_) (fun cdv A outer s H vs Q E hr h=>?_)
 ·obtain⟨_,_,_,_,_,rfl,_⟩:=h
  rfl
 ·obtain⟨b,wi,lack,ms,pcs,rfl,hB,g,hl,q⟩:=h
  refine⟨_,(firA T CM hr).2.h,?_⟩
  obtain⟨qm,qp,ps,b1,b2,b3,b4⟩:=id hB.ex
  have pl:=b4.len
  have gpl:=g.pl
  have w0:=g.w0
  have w1:=g.w1
  refine⟨_,rfl,b,qm,_,wi,ms,rfl,b1,b2,by omega,by omega,fun m hm=>?_⟩
  have e1:Ext H (L2.upd H m (.lst ((mus ms wi.toNat).map V.int))):=(Ext.refl _).new hm _
  have d1:(L2.upd H m (.lst ((mus ms wi.toNat).map V.int))) m=some (.lst ((mus ms wi.toNat).map V.int)):=j4
  generalize L2.upd H m (.lst ((mus ms wi.toNat).map V.int))=H1 at e1 d1
  refine⟨by show (0:Nat)<=_; decide,fun t H2 d2 e2 n2=>?_⟩
  have tn:H t=none:=nw_of e1 n2
  refine⟨_,rfl,b,_,0,_,rfl,rfl,SqT.of ((e1.trans e2) _ _ b1),rfl,wi,rfl,by omega,by omega,jAG (lo:=0) (n:=wi.toNat) (fun i σ H'=>(∃ v4 v5,σ=[some (.ref b),some (.int lack),some (.ref m),some (.ref t),v4,v5,none])/\(∀ c o,H2 c=some o->c≠t->H' c=some o)/\∃ us,H' t=some (.lst us)/\All2 (RowA H') us ((List.range i).map (rowI (bxO wi ms pcs lack) (bxO wi ms pcs lack).b0))/\∀ u∈us,u≠ .ref t) ⟨⟨_,_,rfl⟩,fun _ _ h _=>h,[],d2,trivial,fun _ h=>by cases h⟩ ?_ ?_⟩
  ·rintro i σ H3 hi ⟨⟨v4,v5,rfl⟩,k3,us,t3,a3,nt⟩
   have ul:=All2.len a3
   rw[ab,ao] at ul
   have e0:(0+(i:Int))=(i:Int):=by omega
   have tu:Tups H H3:=fun c xs h=>k3 _ _ ((e1.trans e2) _ _ h) fun z=>by rw[z,tn] at h; cases h
   show (firLA T).1 _ [some (.ref b),some (.int lack),some (.ref m),some (.ref t),some (.int (0+(i:Int))),v5,none] H3
   rw[e0]
   refine jJF T (hB.mono tu) g hi t3 (by omega) fun H4 v5 u nu t4 r4 k4=>⟨⟨_,_,rfl⟩,fun c o h n=>k4 _ _ (k3 _ _ h n) n,_,t4,?_,?_⟩
   ·rw[cG,aI]
    refine All2.append (All2.imp' a3 fun u l hu ⟨a,e,q⟩=>⟨a,e,k4 _ _ q fun z=>nt u hu (by rw[e,z])⟩) ⟨r4,trivial⟩
   ·intro x hx
    rcases bA.mp hx with y | y
    ·exact nt x y
    ·rw[bC.mp y]
     exact nu
  ·rintro σ H3 ⟨⟨v4,v5,rfl⟩,k3,us,t3,a3,nt⟩
   have tu:Tups H H3:=fun c xs h=>k3 _ _ ((e1.trans e2) _ _ h) fun z=>by rw[z,tn] at h; cases h
   have m3:=k3 _ _ (e2 _ _ d1) (fun z=>by rw[z] at d1; rw[d1] at n2; cases n2)
   refine⟨_,rfl,b,_,2,_,rfl,rfl,SqT.of (tu _ _ b1),rfl,qp,rfl,⟨_,SqT.of (tu _ _ b3)⟩,jA8 (xs:=ps) (fun σ=>∃ v,σ=[v,some (.int lack),some (.ref m)]) (mapZ (List.range pcs.length) fun c=>V.int ((bxO wi ms pcs lack).co c)) (mapZ.ok _ _) (tu _ _ b3) (by rw[aj]; omega) ⟨_,rfl⟩ ?_ ?_⟩
   ·rintro j x σ' H' zs hx ⟨v,rfl⟩ e hz S1 S2 yes no
    have hj:j<pcs.length:=by
     rw[<- pl]
     exact(ar.mp hx).1
    obtain⟨x',hx',pa,pq,rfl,c1,c2⟩:=b4.get hj
    rw[hx] at hx'
    cases hx'
    have c1:=e _ _ (tu _ _ c1)
    have c2:=e _ _ (tu _ _ c2)
    dsimp only [kJ,yA]
    rw[ah rfl]
    refine⟨_,rfl,pa,_,1,_,rfl,rfl,SqT.of c1,rfl,_,rfl,_,rfl,m,rfl,⟨_,SqL.of (e _ _ m3)⟩,jGT (xs:=(mus ms wi.toNat).map V.int) (fun σ=>∃ v,σ=[v,some (.ref pa)]) (outZ (mus ms wi.toNat) (fun x=>decide (x∈(pcs.getD j ([],0)).1)) V.int) (outZ.ok _ _ _) (e _ _ m3) (by rw[aj,ab]; have:=jDP ms wi.toNat; omega) ⟨_,rfl⟩ ?_ ?_⟩
    ·rintro j2 x2 σ2 H2' zs2 hx2 ⟨v2,rfl⟩ e2' hz2 S1' S2' yes2 no2
     obtain⟨z,hz',rfl⟩:=int_at hx2
     dsimp only [kJ]
     refine⟨_,rfl,_,rfl,pa,_,0,_,rfl,rfl,SqT.of (e2' _ _ c1),rfl,pq,_,rfl, .inr (SqT.of (e2' _ _ c2)),rfl,jA9 _,_,rfl,?_⟩
     rw[jAN]
     refine ite2 (fun h=>?_) (fun h=>?_)
     ·exact⟨_,rfl,yes2 _ _ _ ⟨_,rfl⟩ (Ext.refl _) (hz2.yes hz' h)⟩
     ·exact no2 _ _ ⟨_,rfl⟩ (Ext.refl _) (hz2.no hz' (cq.mpr h))
    ·rintro D2 H5 zs2 kD eD nD hz2
     have hz2:=hz2.all (by rw[ab]; exact af _)
     rw[hz2] at kD
     refine⟨D2,_,rfl, .inl (SqL.of kD),?_⟩
     rw[ab]
     have ml:((mus ms wi.toNat).filter fun x=>decide (x∈(pcs.getD j ([],0)).1)).length<=16:=by
      have:=jDP ms wi.toNat
      have:=bO (fun x=>decide (x∈(pcs.getD j ([],0)).1)) (mus ms wi.toNat)
      omega
     refine⟨_,_,rfl,rfl,⟨cO hl (dc (by decide) (by decide)),?_⟩,_,_,rfl,rfl,?_⟩
     ·rw[dA]
      exact bL ml (by decide)
     exact yes _ _ _ ⟨_,rfl⟩ eD (hz.yes (aK hj))
   ·rintro D4 H4 zs d4 e4 n4 hz
    have hz:=hz.all (by rw[ao,pl]; exact af _)
    have t4:=e4 _ _ t3
    refine⟨_,rfl, .inl ⟨rfl,_,SqL.of t4⟩,_,rfl,by show (1:Nat)<=_; decide,fun l5 H5 d5 e5 n5=>?_⟩
    refine⟨_,rfl,b,_,0,_,rfl,rfl,SqT.of ((e4.trans e5) _ _ (tu _ _ b1)),rfl,l5,_,_,rfl,rfl,d5,by omega,by omega,by show 1*_<=_; rw[aj]; omega,fun l6 h6=>?_⟩
    have rp:∀ n:Nat,(replicate n [V.int 0]).flatten=(replicate n (0:Int)).map V.int:=fun n=>by
     induction n with
     | zero=>rfl
     | succ n ih=>
      rw[bH,cm,ih]
      rfl
    rw[rp wi.toNat]
    have e6:Ext H5 (L2.upd H5 l6 (.lst ((replicate wi.toNat (0:Int)).map V.int))):=(Ext.refl _).new h6 _
    have d6:(L2.upd H5 l6 (.lst ((replicate wi.toNat (0:Int)).map V.int))) l6=some (.lst ((replicate wi.toNat (0:Int)).map V.int)):=j4
    generalize L2.upd H5 l6 (.lst ((replicate wi.toNat (0:Int)).map V.int))=H6 at e6 d6
    have E6:=e5.trans e6
    refine⟨D4,l6,_,_,rfl,rfl,E6 _ _ d4,d6,?_,fun l7 H7 d7 e7 n7=>?_⟩
    ·rw[hz,aj,ab,ao,ab,eH]; omega
    have E7:=E6.trans e7
    have t7:=E7 _ _ t4
    have ul:=All2.len a3
    rw[ab,ao] at ul
    refine⟨t,us,_,rfl,rfl,t7,by rw[aj]; omega,?_⟩
    have lt:l7≠t:=fun z=>by rw[z,E6 _ _ t4] at n7; cases n7
    have E47:=e4.trans E7
    refine⟨_,rfl,q t _ ⟨_,j4,?_⟩ ?_⟩
    ·unfold tabI
     refine All2.append (All2.imp' a3 fun u l hu ⟨a,e,q⟩=>⟨a,e,?_⟩) ⟨⟨l7,rfl,?_⟩,trivial⟩
     ·rw[j9 (fun z=>nt u hu (by rw[e,z]))]
      exact E47 _ _ q
     ·rw[j9 lt,d7,hz,jOP,aI,bc]
      rfl
    ·intro c o h
     have ct:c≠t:=fun z=>by rw[z,tn] at h; cases h
     rw[j9 ct]
     exact E47 _ _ (k3 _ _ ((e1.trans e2) _ _ h) ct)
end
abbrev TabB (H:Hp)(t:Addr)(B:Sx.Bx)(b:Nat->Nat):Prop:=TabA H t (tabI B b)
section
variable {H:Hp}{t:Addr}{B:Sx.Bx}{b:Nat->Nat}(h:TabB H t B b)
include h
theorem TabB.len:∃ us,H t=some (.lst us)/\us.length=B.n+1/\All2 (RowA H) us (tabI B b):=by
 obtain⟨us,a,al⟩:=h
 refine⟨us,a,?_,al⟩
 rw[All2.len al]
 unfold tabI
 rw[aJ,ab,ao]
 rfl
theorem TabB.cst:∃ us a,H t=some (.lst us)/\us.length=B.n+1/\us[B.n]?=some (.ref a)/\atI us (-1)=some (.ref a)/\H a=some (.lst ((cstI B b).map V.int)):=by
 obtain⟨us,a,l,al⟩:=h.len
 have e:(tabI B b)[B.n]?=some (cstI B b):=by
  unfold tabI
  rw[cv (by rw[ab,ao]; exact af _),ab,ao,Nat.sub_self]
  rfl
 obtain⟨u,hu,r,rfl,hr⟩:=All2.get al e
 exact⟨us,r,a,l,hu,jK5 (by rw[l]; exact hu),hr⟩
theorem TabB.row {i:Nat}(hi:i<B.n):∃ us a,H t=some (.lst us)/\us.length=B.n+1/\us[i]?=some (.ref a)/\atI us (i:Int)=some (.ref a)/\H a=some (.lst ((rowI B b i).map V.int)):=by
 obtain⟨us,a,l,al⟩:=h.len
 have e:(tabI B b)[i]?=some (rowI B b i):=by
  unfold tabI
  rw[cB (by rw[ab,ao]; exact hi),ay,aK hi]
  rfl
 obtain⟨u,hu,r,rfl,hr⟩:=All2.get al e
 exact⟨us,r,a,l,hu,y0 hu,hr⟩
end
theorem jB1 {B:Sx.Bx}{b:Nat->Nat}{i c:Nat}(hc:c<B.p+B.n+1):((rowI B b i).map V.int)[c]?=some (.int (B.P.T b i c)):=by
 unfold rowI
 rw[ay,ay,aK hc]
 rfl
theorem jJN {B:Sx.Bx}{b:Nat->Nat}{c:Nat}(hc:c<B.p+B.n):((cstI B b).map V.int)[c]?=some (.int (B.P.T b B.n c)):=by
 unfold cstI
 rw[ay,ay,aK hc]
 rfl
theorem jG4 {B:Sx.Bx}{b:Nat->Nat}{i:Nat} :((rowI B b i).map V.int).length=B.p+B.n+1:=by
 unfold rowI
 rw[ab,ab,ao]
theorem jGR {B:Sx.Bx}{b:Nat->Nat} :((cstI B b).map V.int).length=B.p+B.n:=by
 unfold cstI
 rw[ab,ab,ao]
theorem jDG {B:Sx.Bx}{b:Nat->Nat}{i:Nat} :atI ((rowI B b i).map V.int) (-1)=some (.int (B.P.T b i (B.p+B.n))):=jK5 (by rw[jG4]; exact jB1 (aB _))
section
variable {P:Program}{w:World}{K:W.Frag}{mg:Str->Option Value}{base:Heap}
variable {f fM:Addr}{fdM:FuncData}{cdv:Value}{A:Around}{outer:List Env}{s:Shared}{H0:Hp}{E:XK}
noncomputable abbrev nColT:List Str:=["table","column","cost"]
theorem scColT:FnScope nColT ["table"] (j7 sColT):=⟨rfl,rfl,rfl,by decide+kernel,rfl,by decide+kernel,by decide+kernel⟩
def colTA (T:Txt mg): { t:TS // JSs (XOf nColT "column_to_take" sColT P w K mg base f cdv A outer s H0 E) (jB sColT) t} :=
 have nd:=scColT.nd
 ⟨_,(j8 (jBE bf rfl (jJ2 gD T.enumerate (j0 (jE jQ (jv 0 rfl vL) (je_un jCY (j6)) px_un) j5 jM) jM) (jGH (i:=1) (j:=2) nd rfl rfl (by decide+kernel) (by decide+kernel)) (jC (yE (jJ op_lt (jv 2 rfl vL) (j6) (jO _)) (jC (jX (jv 1 rfl vL))) kO)) kU)
   (jC (jX (jD4))))⟩
def jI7:Sp:=fun vs H Q _=>∃ (t:Addr) (B:Sx.Bx) (b:Nat->Nat),vs=[.ref t]/\TabB H t B b/\(∀ q H',Sx.Ent B.P b q->Ext H H'->Q (.int (q:Int)) H')/\((∀ c,c<B.p+B.n->0<=B.P.T b B.n c)->∀ H',Ext H H'->Q .non H')
theorem jMU {fd:FuncData}(F:Fun K "column_to_take" "column_to_take" sColT f fd)(T:Txt mg):FnOk P w K mg base CX0 1 f fd ["table"] jI7:=by
 refine F.ok scColT (fun vs H Q E h=>?_) (fun cdv A outer s H vs Q E hr h=>?_)
 ·obtain⟨_,_,_,rfl,_⟩:=h
  rfl
 ·obtain⟨t,B,b,rfl,tb,qy,qn⟩:=h
  refine⟨_,(colTA T).2.h,?_⟩
  obtain⟨us,a,ht,ul,_,hat,ha⟩:=tb.cst
  refine⟨_,rfl,_,rfl,t,us,_,_,rfl,rfl,SqL.of ht,hat,false,a,rfl,⟨_,SqL.of ha⟩,jGO (tp:=false) (xs:=(cstI B b).map V.int) (fun i σ H'=>(∃ v1 v2,σ=[some (.ref t),v1,v2])/\Ext H H'/\∀ c,c<i->0<=B.P.T b B.n c) ⟨⟨_,_,rfl⟩,Ext.refl _,fun c hc=>absurd hc (be _)⟩ (fun i σ H' ⟨_,e,_⟩=>SqL.of (e _ _ ha)) ?_ ?_⟩
  ·rintro i x Tp σ H1 hx hT ⟨⟨v1,v2,rfl⟩,e1,low⟩
   have il:i<B.p+B.n:=by have:=(ar.mp hx).1; rwa [jGR] at this
   rw[jJN il] at hx
   cases hx
   have e2:Ext H1 (L2.upd H1 Tp (.tup [.int (i:Int), .int (B.P.T b B.n i)])):=(Ext.refl _).new hT _
   have d2:(L2.upd H1 Tp (.tup [.int (i:Int), .int (B.P.T b B.n i)])) Tp=some (.tup [.int (i:Int), .int (B.P.T b B.n i)]):=j4
   generalize L2.upd H1 Tp (.tup [.int (i:Int), .int (B.P.T b B.n i)])=H2 at e2 d2
   refine⟨Tp,_,rfl,SqT.of d2,rfl,_,_,rfl,_,_,rfl,rfl,?_⟩
   refine⟨_,rfl,_,_,rfl,rfl,_,rfl,ite2 (fun h=>?_) (fun h=>?_)⟩
   ·have h:B.P.T b B.n i<0:=az h
    exact⟨_,rfl,qy i H2 ⟨il,h,low⟩ (e1.trans e2)⟩
   ·have h:¬ B.P.T b B.n i<0:=fun z=>h (aG z)
    refine⟨⟨_,_,rfl⟩,e1.trans e2,fun c hc=>?_⟩
    by_cases z:c=i
    ·rw[z]; omega
    ·exact low c (by omega)
  ·rintro σ H1 ⟨⟨v1,v2,rfl⟩,e1,low⟩
   rw[jGR] at low
   exact qn low H1 e1
theorem cr_lt {xi yi xr yr xj yj:Int}(hr:0<yr)(hi:0<yi)(hj:0<yj)(h1:xi*yr<xr*yi)(h2:xr*yj<=xj*yr):xi*yj<xj*yi:=by
 have a1:=dr h1 hj
 have a2:=cb h2 (bU hi)
 refine dF (a:=yr) ?_ (bU hr)
 have e1:xi*yr*yj=yr*(xi*yj):=by grind
 have e2:xr*yi*yj=xr*yj*yi:=by grind
 have e3:xj*yr*yi=yr*(xj*yi):=by grind
 omega
theorem jOQ {xi yi xr yr xj yj:Int}(hr:0<yr)(hi:0<yi)(hj:0<yj)(h1:xi*yr=xr*yi)(h2:xr*yj<xj*yr):xi*yj<xj*yi:=by
 have a2:=dr h2 hi
 refine dF (a:=yr) ?_ (bU hr)
 have e1:yr*(xi*yj)=xr*yj*yi:=by
  have:yr*(xi*yj)=xi*yr*yj:=by grind
  rw[this,h1]
  grind
 have e3:xj*yr*yi=yr*(xj*yi):=by grind
 omega
theorem cr_eq {xi yi xr yr xj yj:Int}(hr:0<yr)(h1:xi*yr=xr*yi)(h2:xr*yj=xj*yr):xi*yj=xj*yi:=by
 refine dC (a:=yr) (by omega) ?_
 have:yr*(xi*yj)=xi*yr*yj:=by grind
 rw[this,h1]
 have:yr*(xj*yi)=xj*yr*yi:=by grind
 rw[this,<- h2]
 grind
def LvR (B:Sx.Bx)(b:Nat->Nat)(q r j:Nat):Prop:=B.P.T b r (B.p+B.n)*B.P.T b j q<B.P.T b j (B.p+B.n)*B.P.T b r q\/(B.P.T b r (B.p+B.n)*B.P.T b j q=B.P.T b j (B.p+B.n)*B.P.T b r q/\b r<=b j)
theorem LvR.trans {B:Sx.Bx}{b:Nat->Nat}{q i r j:Nat}(hi:0<B.P.T b i q)(hr:0<B.P.T b r q)(hj:0<B.P.T b j q)(h1:LvR B b q i r)(h2:LvR B b q r j):LvR B b q i j:=by
 rcases h1 with a | ⟨a,a2⟩ <;> rcases h2 with c | ⟨c,c2⟩
 ·exact .inl (cr_lt hr hi hj a (bU c))
 ·exact .inl (cr_lt hr hi hj a (Int.le_of_eq c))
 ·exact .inl (jOQ hr hi hj a c)
 ·exact .inr ⟨cr_eq hr a c,aZ a2 c2⟩
noncomputable abbrev nRowG:List Str:=["table","taken","column","best","row","here","there"]
theorem scRowG:FnScope nRowG ["table","taken","column"] (j7 yT):=⟨rfl,rfl,rfl,by decide+kernel,rfl,by decide+kernel,by decide+kernel⟩
def jLE (T:Txt mg): { t:TS // JSs (XOf nRowG "row_to_give" yT P w K mg base f cdv A outer s H0 E) ((match (yM ((jB yT).getD 1 (.Pass ⟨0,0,0,0⟩))).getD 0 (.Pass ⟨0,0,0,0⟩) with | .If _ b _ _=>b | _=> []).drop 1) t} :=
 have nd:=scRowG.nd
 have _h:=T
 ⟨_,(j8 (jG (i:=5) nd rfl lL (jU jBP (jE jQ (jE jQ (jv 0 rfl vL) (jv 4 rfl vL) jT) (je_un jCY (j6)) px_un) (jE jQ (jE jQ (jv 0 rfl vL) (jv 3 rfl vL) jT) (jv 2 rfl vL) jT)) jEA)
   (j8 (jG (i:=6) nd rfl lL (jU jBP (jE jQ (jE jQ (jv 0 rfl vL) (jv 3 rfl vL) jT) (je_un jCY (j6)) px_un) (jE jQ (jE jQ (jv 0 rfl vL) (jv 4 rfl vL) jT) (jv 2 rfl vL) jT)) jEA)
   (jC (yE (jt_w (jw_or (jJ op_lt (jv 5 rfl vL) (jv 6 rfl vL) (jO _)) (jEJ (jt_w (jIZ (jJ yX (jv 5 rfl vL) (jv 6 rfl vL) (jO _)) (jFL (jJ op_lt (jE jQ (jv 1 rfl vL) (jv 4 rfl vL) jT) (jE jQ (jv 1 rfl vL) (jv 3 rfl vL) jT) (jO _)))))))) (jC (jG (i:=3) nd rfl lL (jv 4 rfl vL) jD8)) kO))))⟩
def jIC (T:Txt mg): { t:TS // JSs (XOf nRowG "row_to_give" yT P w K mg base f cdv A outer s H0 E) (yM ((jB yT).getD 1 (.Pass ⟨0,0,0,0⟩))) t} :=
 have nd:=scRowG.nd
 have _h:=T
 ⟨_,(jC (yE (jJ op_gt (jE jQ (jE jQ (jv 0 rfl vL) (jv 4 rfl vL) jT) (jv 2 rfl vL) jT) (j6) (jO _)) (j8 (yE (jJ jO0 (jv 3 rfl vL) (jD4) (jO _)) (jC (jG (i:=3) nd rfl lL (jv 4 rfl vL) jD8)) kO) (jLE T).2) kO))⟩
def rowGA (T:Txt mg): { t:TS // JSs (XOf nRowG "row_to_give" yT P w K mg base f cdv A outer s H0 E) (jB yT) t} :=
 have nd:=scRowG.nd
 ⟨_,(j8 (jG (i:=3) nd rfl lL (jD4) jG0) (j8 (jBE bf rfl (kR gD T.range (j0 (jI jA1 gD T.len (by decide+kernel) (j0 (jv 1 rfl vL) j5 j3) j3) j5 jZ) jZ) (jL (i:=4) nd rfl lL) (jIC T).2 kU) (jC (jX (jv 3 rfl vL)))))⟩
def tkn (B:Sx.Bx)(b:Nat->Nat):List Int:=(List.range B.n).map fun i=>((b i:Nat):Int)
theorem jE7 {B:Sx.Bx}{b:Nat->Nat}{i:Nat}(hi:i<B.n):((tkn B b).map V.int)[i]?=some (.int ((b i:Nat):Int)):=by
 unfold tkn
 rw[ay,ay,aK hi]
 rfl
theorem jC8 {B:Sx.Bx}{b:Nat->Nat} :((tkn B b).map V.int).length=B.n:=by
 unfold tkn
 rw[ab,ab,ao]
def bstV (r:Option Nat):V:=match r with
 | none=> .non
 | some r=> .int (r:Int)
def BstI (B:Sx.Bx)(b:Nat->Nat)(q i:Nat)(r:Option Nat):Prop:=match r with
 | none=>∀ j,j<i->¬ 0<B.P.T b j q
 | some r=>r<i/\0<B.P.T b r q/\∀ j,j<i->0<B.P.T b j q->LvR B b q r j
theorem jD0 (T:Txt mg){D:Ends}{H:Hp}{t k:Addr}{B:Sx.Bx}{b:Nat->Nat}{q i r:Nat}{v5 v6:Option V}(tb:TabB H t B b)(hk:H k=some (.lst ((tkn B b).map V.int)))(hq:q<B.p+B.n)(hi:i<B.n)(bd:∀ i c,(B.P.T b i c).natAbs<2 ^ 6000)(ri:r<i+1)(hr:0<B.P.T b r q)(hp:0<B.P.T b i q)(lv:∀ j,j<i->0<B.P.T b j q->LvR B b q r j)
  (nx:∀ r v5 v6,BstI B b q (i+1) (some r)->D.nx [some (.ref t),some (.ref k),some (.int (q:Int)),some (.int (r:Int)),some (.int (i:Int)),v5,v6] H):
  (jLE (f:=f) (cdv:=cdv) (A:=A) (outer:=outer) (s:=s) (H0:=H0) (E:=E) (P:=P) (w:=w) (K:=K) (base:=base) T).1 D [some (.ref t),some (.ref k),some (.int (q:Int)),some (.int (r:Int)),some (.int (i:Int)),v5,v6] H:=by
 have rn:r<B.n:=by omega
 obtain⟨us,a,ht,ul,_,hat,ha⟩:=tb.row hi
 obtain⟨us',a',ht',_,_,hat',ha'⟩:=tb.row rn
 rw[ht] at ht'
 cases ht'
 refine⟨_,rfl,_,rfl,t,us,(i:Int),_,rfl,rfl,SqL.of ht,hat,_,rfl,a,_,_,_,rfl,rfl,SqL.of ha,jDG,?_⟩
 refine⟨_,rfl,_,rfl,t,us,(r:Int),_,rfl,rfl,SqL.of ht,hat',_,rfl,a',_,(q:Int),_,rfl,rfl,SqL.of ha',y0 (jB1 (by omega)),_,_,rfl,rfl,⟨bd _ _,bd _ _⟩,?_⟩
 refine⟨_,rfl,_,rfl,t,us,(r:Int),_,rfl,rfl,SqL.of ht,hat',_,rfl,a',_,_,_,rfl,rfl,SqL.of ha',jDG,?_⟩
 refine⟨_,rfl,_,rfl,t,us,(i:Int),_,rfl,rfl,SqL.of ht,hat,_,rfl,a,_,(q:Int),_,rfl,rfl,SqL.of ha,y0 (jB1 (by omega)),_,_,rfl,rfl,⟨bd _ _,bd _ _⟩,?_⟩
 have ki:=jE7 (b:=b) hi
 have kr:=jE7 (b:=b) rn
 have rf:LvR B b q i i:= .inr ⟨rfl,af _⟩
 have stay:LvR B b q r i->BstI B b q (i+1) (some r):=fun l=>⟨ri,hr,fun j hj hpj=>by
  by_cases z:j=i
  ·rw[z]; exact l
  ·exact lv j (by omega) hpj⟩
 have move:LvR B b q i r->BstI B b q (i+1) (some i):=fun l=>⟨aB _,hp,fun j hj hpj=>by
  by_cases z:j=i
  ·rw[z]; exact rf
  ·exact l.trans hp hr hpj (lv j (by omega) hpj)⟩
 refine⟨_,rfl,_,rfl,_,_,rfl,rfl,_,rfl,ite2 (fun h=>?_) (fun h=>?_)⟩
 ·have h:B.P.T b i (B.p+B.n)*B.P.T b r q<B.P.T b r (B.p+B.n)*B.P.T b i q:=az h
  exact⟨_,rfl,nx i _ _ (move (.inl h))⟩
 ·have h:¬ B.P.T b i (B.p+B.n)*B.P.T b r q<B.P.T b r (B.p+B.n)*B.P.T b i q:=fun z=>h (aG z)
  refine⟨_,rfl,_,rfl,rfl,_,rfl,ite2 (fun h2=>?_) (fun h2=>?_)⟩
  ·have h2:V.int (B.P.T b i (B.p+B.n)*B.P.T b r q)=V.int (B.P.T b r (B.p+B.n)*B.P.T b i q):=az h2
   have h2:B.P.T b i (B.p+B.n)*B.P.T b r q=B.P.T b r (B.p+B.n)*B.P.T b i q:=by injection h2
   refine⟨_,rfl,_,rfl,k,_,(i:Int),_,rfl,rfl,SqL.of hk,y0 ki,_,rfl,_,rfl,k,_,(r:Int),_,rfl,rfl,SqL.of hk,y0 kr,_,_,rfl,rfl,_,rfl,ite2 (fun h3=>?_) (fun h3=>?_)⟩
   ·have h3:((b i:Nat):Int)<((b r:Nat):Int):=az h3
    exact⟨_,rfl,nx i _ _ (move (.inr ⟨h2,by omega⟩))⟩
   ·have h3:¬ ((b i:Nat):Int)<((b r:Nat):Int):=fun z=>h3 (aG z)
    exact nx r _ _ (stay (.inr ⟨h2.symm,by omega⟩))
  ·have h2:¬ V.int (B.P.T b i (B.p+B.n)*B.P.T b r q)=V.int (B.P.T b r (B.p+B.n)*B.P.T b i q):=fun z=>h2 (aG z)
   have h2:¬ B.P.T b i (B.p+B.n)*B.P.T b r q=B.P.T b r (B.p+B.n)*B.P.T b i q:=fun z=>h2 (by rw[z])
   exact nx r _ _ (stay (.inl (by omega)))
theorem jH4 (T:Txt mg){D:Ends}{H:Hp}{t k:Addr}{B:Sx.Bx}{b:Nat->Nat}{q i:Nat}{r:Option Nat}{v5 v6:Option V}(tb:TabB H t B b)(hk:H k=some (.lst ((tkn B b).map V.int)))(hq:q<B.p+B.n)(hi:i<B.n)(bd:∀ i c,(B.P.T b i c).natAbs<2 ^ 6000)(bi:BstI B b q i r)
  (nx:∀ r v5 v6,BstI B b q (i+1) r->D.nx [some (.ref t),some (.ref k),some (.int (q:Int)),some (bstV r),some (.int (i:Int)),v5,v6] H):
  (jIC (f:=f) (cdv:=cdv) (A:=A) (outer:=outer) (s:=s) (H0:=H0) (E:=E) (P:=P) (w:=w) (K:=K) (base:=base) T).1 D [some (.ref t),some (.ref k),some (.int (q:Int)),some (bstV r),some (.int (i:Int)),v5,v6] H:=by
 obtain⟨us,a,ht,ul,_,hat,ha⟩:=tb.row hi
 refine⟨_,rfl,_,rfl,t,us,(i:Int),_,rfl,rfl,SqL.of ht,hat,_,rfl,a,_,(q:Int),_,rfl,rfl,SqL.of ha,y0 (jB1 (by omega)),_,_,rfl,rfl,_,rfl,ite2 (fun h=>?_) (fun h=>?_)⟩
 ·have h:0<B.P.T b i q:=az h
  cases r with
  | none=>
   refine⟨_,rfl,rfl,_,rfl,iteT ⟨_,rfl,?_⟩⟩
   exact jD0 T tb hk hq hi bd (aB i) h h (fun j hj hp=>absurd hp (bi j hj)) fun r v5 v6 z=>nx (some r) v5 v6 z
  | some r=>
   refine⟨_,rfl,rfl,_,rfl,ite2 (fun h=>absurd (az h) (by intro z; cases z)) (fun _=>?_)⟩
   exact jD0 T tb hk hq hi bd (ai bi.1) bi.2.1 h bi.2.2 fun r v5 v6 z=>nx (some r) v5 v6 z
 ·have h:¬ 0<B.P.T b i q:=fun z=>h (aG z)
  refine nx r _ _ ?_
  cases r with
  | none=>
   intro j hj
   by_cases z:j=i
   ·rw[z]; exact h
   ·exact bi j (by omega)
  | some r=>
   refine⟨ai bi.1,bi.2.1,fun j hj hp=>?_⟩
   by_cases z:j=i
   ·rw[z] at hp; exact absurd hp h
   ·exact bi.2.2 j (by omega) hp
def jI6:Sp:=fun vs H Q _=>∃ (t k:Addr) (B:Sx.Bx) (b:Nat->Nat) (q:Nat),vs=[.ref t, .ref k, .int (q:Int)]/\TabB H t B b/\H k=some (.lst ((tkn B b).map V.int))/\q<B.p+B.n/\B.n<=16/\(∀ i c,(B.P.T b i c).natAbs<2 ^ 6000)/\(∃ i,i<B.n/\0<B.P.T b i q)/\∀ r,Sx.Lev B.P b q r->Q (.int (r:Int)) H
theorem jMR {fd:FuncData}(F:Fun K "row_to_give" "row_to_give" yT f fd)(T:Txt mg):FnOk P w K mg base CX0 1 f fd ["table","taken","column"] jI6:=by
 refine F.ok scRowG (fun vs H Q E h=>?_) (fun cdv A outer s H vs Q E hr h=>?_)
 ·obtain⟨_,_,_,_,_,rfl,_⟩:=h
  rfl
 ·obtain⟨t,k,B,b,q,rfl,tb,hk,hq,n16,bd,⟨i0,hi0,hp0⟩,qq⟩:=h
  refine⟨_,(rowGA T).2.h,?_⟩
  refine⟨_,rfl,k,_,rfl, .inl (SqL.of hk),(B.n:Int),by rw[jC8],by omega,by omega,jAG (lo:=0) (n:=B.n) (fun i σ H'=>H'=H/\∃ r v4 v5 v6,σ=[some (.ref t),some (.ref k),some (.int (q:Int)),some (bstV r),v4,v5,v6]/\BstI B b q i r) ⟨rfl,none,_,_,_,rfl,fun j hj=>absurd hj (be _)⟩ ?_ ?_⟩
  ·rintro i σ H1 hi ⟨rfl,r,v4,v5,v6,rfl,bi⟩
   have e0:(0+(i:Int))=(i:Int):=by omega
   show (jIC T).1 _ [some (.ref t),some (.ref k),some (.int (q:Int)),some (bstV r),some (.int (0+(i:Int))),v5,v6] H1
   rw[e0]
   exact jH4 T tb hk hq hi bd bi fun r v5 v6 z=>⟨rfl,r,_,_,_,rfl,z⟩
  ·rintro σ H1 ⟨rfl,r,v4,v5,v6,rfl,bi⟩
   cases r with
   | none=>exact absurd hp0 (bi i0 hi0)
   | some r=>exact⟨_,rfl,qq r ⟨bi.1,bi.2.1,bi.2.2⟩⟩
end
def rowM (B:Sx.Bx)(b:Nat->Nat)(m i:Nat):List Int:=(List.range m).map fun c=>B.P.T b i c
theorem jIB {B:Sx.Bx}{b:Nat->Nat}{m i c:Nat}(hc:c<m):((rowM B b m i).map V.int)[c]?=some (.int (B.P.T b i c)):=by
 unfold rowM
 rw[ay,ay,aK hc]
 rfl
theorem jC2 {B:Sx.Bx}{b:Nat->Nat}{m i:Nat} :((rowM B b m i).map V.int).length=m:=by
 unfold rowM
 rw[ab,ab,ao]
def wid' (B:Sx.Bx)(i:Nat):Nat:=if i<B.n then B.p+B.n+1 else B.p+B.n
theorem jFW {B:Sx.Bx}{b:Nat->Nat}{i:Nat}(hi:i<B.n+1):(tabI B b)[i]?=some (rowM B b (wid' B i) i):=by
 unfold tabI wid'
 by_cases h:i<B.n
 ·rw[ah h,cB (by rw[ab,ao]; exact h),ay,aK h]
  rfl
 ·have:i=B.n:=by omega
  subst this
  rw[am h,cv (by rw[ab,ao]; exact af _),ab,ao,Nat.sub_self]
  rfl
theorem jHY {B:Sx.Bx}{b:Nat->Nat}{i:Nat}(hi:i<B.n+1):(tabI B b).take (i+1)=(tabI B b).take i++[rowM B b (wid' B i) i]:=by
 rw[bv,jFW hi]
 rfl
section
variable {P:Program}{w:World}{K:W.Frag}{mg:Str->Option Value}{base:Heap}
variable {f fM:Addr}{fdM:FuncData}{cdv:Value}{A:Around}{outer:List Env}{s:Shared}{H0:Hp}{E:XK}
abbrev jFK:List Str:=["table","bottom","row","column","turn","told","place","entries","factor"]
theorem scTurned:FnScope jFK ["table","bottom","row","column"] (j7 yG):=⟨rfl,rfl,rfl,by decide+kernel,rfl,by decide+kernel,by decide+kernel⟩
abbrev XTur (P:Program)(w:World)(K:W.Frag)(mg:Str->Option Value)(base:Heap)(f:Addr)(cdv:Value)(A:Around)(outer:List Env)(s:Shared)(H:Hp)(E:XK):Cx:=XOf jFK "turned" yG P w K mg base f cdv A outer s H E
def turLA (T:Txt mg): { t:TS // JSs (XTur P w K mg base f cdv A outer s H0 E) (yM ((jB yG).getD 2 (.Pass ⟨0,0,0,0⟩))) t} :=
 have nd:=scTurned.nd
 ⟨_,(jC (yE (jJ yX (jv 6 rfl vL) (jv 2 rfl vL) (jO _)) (jC (jCJ (je_bm br bV bW jAF (jv 5 rfl vL) (j0 (jv 7 rfl vL) j5 j3) j3) jP)) (j8 (jG (i:=8) nd rfl (yU (by decide+kernel)) (jE jQ (jv 7 rfl vL) (jv 3 rfl vL) jT) jBU)
   (jC (jCJ (je_bm br bV bW jAF (jv 5 rfl vL) (j0 (kS (m:=[none,none,some 4,some 8,some 1]) (Nc:=["entry","other","turn","factor","bottom"]) rfl (jOI gD T.zip (j0 (jv 7 rfl vL) (j0 (jE jQ (jv 0 rfl vL) (jv 2 rfl vL) jT) j5 jM) j3) j3) rfl (by decide+kernel) (by decide+kernel) (kE (psc:=j7 yG) (by decide+kernel)) (jH (N:=jFK) rfl rfl (by decide+kernel)) (fun cl C fp s H=>jCM (i:=0) (j:=1) rfl (show (["entry","other","turn","factor","bottom"]:List Str).Nodup by decide+kernel) rfl rfl (by decide+kernel) (by decide+kernel)) (fun cl C fp s H=>kN) (fun cl C fp s H=>(jU jDL (jU yH (jU jBP (jv 0 rfl (kG (by decide+kernel))) (jv 2 rfl (kL (by decide+kernel)))) (jU jBP (jv 3 rfl (kL (by decide+kernel))) (jv 1 rfl (kG (by decide+kernel))))) (jv 4 rfl (kL (by decide+kernel))))) kU) j5 jS) jS) jP)))))⟩
def turA (T:Txt mg): { t:TS // JSs (XTur P w K mg base f cdv A outer s H0 E) (jB yG) t} :=
 have nd:=scTurned.nd
 ⟨_,(j8 (jG (i:=4) nd rfl (yU (by decide+kernel)) (jE jQ (jE jQ (jv 0 rfl vL) (jv 2 rfl vL) jT) (jv 3 rfl vL) jT) jBU) (j8 (jG (i:=5) nd rfl lL (jB4 j5) jE9) (j8 (jBE bf rfl (jJ2 gD T.enumerate (j0 (jv 0 rfl vL) j5 j3) j3) (jGH (i:=6) (j:=7) nd rfl rfl (by decide+kernel) (by decide+kernel)) (turLA T).2 kU) (jC (jX (jv 5 rfl vL))))))⟩
theorem jHT (T:Txt mg){D:Ends}{H:Hp}{t l a:Addr}{B:Sx.Bx}{b:Nat->Nat}{q r i:Nat}{us:List V}{v8:Option V}(tb:TabB H t B b)(v:Sx.Val B.P b)(hr:r<B.n)(hq:q<B.p+B.n)(hi:i<B.n+1)(n50:B.p+B.n<=50)(bd:∀ i c,(B.P.T b i c).natAbs<2 ^ 6000)(bD:(B.P.D b).natAbs.log2<9000)(ha:H a=some (.lst ((rowM B b (wid' B i) i).map V.int)))(hl:H l=some (.lst us))(ul:us.length<=100)
  (nx:∀ H' u v8,H' l=some (.lst (us++[u]))->u≠V.ref l->(u=V.ref a\/∃ d,u=V.ref d/\H d=none)->RowA H' u (rowM B (fs b r q) (wid' B i) i)->(∀ c o,H c=some o->c≠l->H' c=some o)->D.nx [some (.ref t),some (.int (B.P.D b)),some (.int (r:Int)),some (.int (q:Int)),some (.int (B.P.T b r q)),some (.ref l),some (.int (i:Int)),some (.ref a),v8] H') (al:a≠l):
  (turLA (f:=f) (cdv:=cdv) (A:=A) (outer:=outer) (s:=s) (H0:=H0) (E:=E) (P:=P) (w:=w) (K:=K) (base:=base) T).1 D [some (.ref t),some (.int (B.P.D b)),some (.int (r:Int)),some (.int (q:Int)),some (.int (B.P.T b r q)),some (.ref l),some (.int (i:Int)),some (.ref a),v8] H:=by
 refine⟨_,rfl,_,rfl,rfl,_,rfl,ite2 (fun h=>?_) (fun h=>?_)⟩
 ·have h:V.int (i:Int)=V.int (r:Int):=az h
  have h:(i:Int)=(r:Int):=by injection h
  have h:i=r:=by omega
  subst h
  refine⟨_,rfl, .inl ⟨rfl,_,SqL.of hl⟩,_,rfl,l,us,_,rfl,rfl,hl,by rw[aj]; omega,?_⟩
  refine nx _ (.ref a) _ j4 (fun z=>al (by cases z; rfl)) (.inl rfl) ⟨a,rfl,?_⟩ fun c o h n=>by rw[j9 n]; exact h
  rw[j9 al,ha]
  have e:rowM B b (wid' B i) i=rowM B (fs b i q) (wid' B i) i:=bz fun c _=>(Sx.T_r (S:=B.P.S)).symm
  rw[e]
 ·have h:¬ V.int (i:Int)=V.int (r:Int):=fun z=>h (aG z)
  have h:i≠r:=fun z=>h (by rw[z])
  have iw:q<wid' B i:=by unfold wid'; split <;> omega
  have iw2:wid' B i<=B.p+B.n+1:=by unfold wid'; split <;> omega
  obtain⟨us',a',ht,_,_,hat,ha'⟩:=tb.row hr
  refine⟨_,rfl,_,rfl,a,_,(q:Int),_,rfl,rfl,SqL.of ha,y0 (jIB iw),?_⟩
  refine⟨_,rfl, .inl ⟨rfl,_,SqL.of hl⟩,_,rfl,_,rfl,_,rfl,t,us',(r:Int),_,rfl,rfl,SqL.of ht,hat,?_⟩
  have n50':wid' B i<PySem.sizeLine:=by rw[aj]; omega
  refine⟨false,false,a,a',rfl,⟨_,SqL.of ha⟩,⟨_,SqL.of ha'⟩,jL3 (xs:=(rowM B b (wid' B i) i).map V.int) (ys:=(rowI B b r).map V.int) (by rw[jC2]; exact n50') (fun D j σ' H' zs=>(∃ v1 v2,σ'=[v1,v2,some (.int (B.P.T b r q)),some (.int (B.P.T b i q)),some (.int (B.P.D b))])/\zs=(rowM B (fs b r q) j i).map V.int/\Ext H H'/\H' D=some (.lst zs)/\H D=none) ?_ ?_ ?_ ?_⟩
  ·intro D hD
   exact⟨⟨_,_,rfl⟩,rfl,(Ext.refl _).new hD _,j4,hD⟩
  ·rintro D j σ' H' zs hD ⟨_,hz,e,hD',_⟩
   exact⟨SqL.of (e _ _ ha),SqL.of (e _ _ ha'),hD',by rw[hz,jC2]; exact af _⟩
  ·rintro D j σ' H' zs x y Tp hD hx hy hT ⟨⟨v1,v2,rfl⟩,hz,e,hD',_⟩
   have jw:j<wid' B i:=by have:=(ar.mp hx).1; rwa [jC2] at this
   rw[jIB jw] at hx
   cases hx
   rw[jB1 (by omega)] at hy
   cases hy
   have e2:Ext H' (L2.upd H' Tp (.tup [.int (B.P.T b i j), .int (B.P.T b r j)])):=(Ext.refl _).new hT _
   have d2:(L2.upd H' Tp (.tup [.int (B.P.T b i j), .int (B.P.T b r j)])) Tp=some (.tup [.int (B.P.T b i j), .int (B.P.T b r j)]):=j4
   generalize L2.upd H' Tp (.tup [.int (B.P.T b i j), .int (B.P.T b r j)])=H2 at e2 d2
   refine⟨Tp,_,rfl,SqT.of d2,rfl,_,_,rfl,_,_,rfl,rfl,?_⟩
   dsimp only [yA]
   rw[ah rfl]
   refine⟨_,rfl,_,rfl,_,_,rfl,rfl,⟨bd _ _,bd _ _⟩,_,rfl,_,rfl,_,_,rfl,rfl,⟨bd _ _,bd _ _⟩,_,_,rfl,rfl,_,rfl,_,_,rfl,rfl,⟨v.d,bD⟩,?_⟩
   have pv:=Sx.T_piv (S:=B.P.S) (q:=q) (c:=j) v.sp (ai hr) hi h
   have dv:(B.P.T b i j*B.P.T b r q - B.P.T b i q*B.P.T b r j) / B.P.D b=B.P.T (fs b r q) i j:=by
    have pv:B.P.D b*B.P.T (fs b r q) i j=B.P.T b i j*B.P.T b r q - B.P.T b i q*B.P.T b r j:=pv
    rw[<- pv]
    exact Int.mul_ediv_cancel_left _ (by have:=v.d; omega)
   dsimp only
   rw[dv]
   refine⟨e2 _ _ hD',⟨_,_,rfl⟩,?_,(e.trans e2).updNew hD _,j4,hD⟩
   rw[hz]
   unfold rowM
   rw[cG,aI,aI]
   rfl
  ·rintro D2 σ' H2 zs hD ⟨_,hz,e,hD',_⟩
   rw[jC2,jG4,Nat.min_eq_left iw2] at hz
   have l2:=e _ _ hl
   have dl:D2≠l:=fun z=>by rw[z,hl] at hD; cases hD
   refine⟨l,us,_,rfl,rfl,l2,by rw[aj]; omega,?_⟩
   exact nx _ (.ref D2) _ j4 (fun z=>dl (by cases z; rfl)) (.inr ⟨D2,rfl,hD⟩) ⟨D2,rfl,by rw[j9 dl,hD',hz]⟩ fun c o h n=>by rw[j9 n]; exact e _ _ h
def jDA:Sp:=fun vs H Q _=>∃ (t:Addr) (B:Sx.Bx) (b:Nat->Nat) (r q:Nat),vs=[.ref t, .int (B.P.D b), .int (r:Int), .int (q:Int)]/\TabB H t B b/\Sx.Val B.P b/\r<B.n/\q<B.p+B.n/\B.p+B.n<=50/\(∀ i c,(B.P.T b i c).natAbs<2 ^ 6000)/\(B.P.D b).natAbs.log2<9000/\∀ us l H' zs,H t=some (.lst us)->H' l=some (.lst zs)->All2 (RowA H') zs (tabI B (fs b r q))->(∀ u∈zs,u∈us\/∃ d,u=V.ref d/\H d=none)->Ext H H'->H l=none->Q (.ref l) H'
theorem jIM {fd:FuncData}(F:Fun K "turned" "turned" yG f fd)(T:Txt mg):FnOk P w K mg base CX0 1 f fd ["table","bottom","row","column"] jDA:=by
 refine F.ok scTurned (fun vs H Q E h=>?_) (fun cdv A outer s H vs Q E hr h=>?_)
 ·obtain⟨_,_,_,_,_,rfl,_⟩:=h
  rfl
 ·obtain⟨t,B,b,r,q,rfl,tb,v,hrn,hq,n50,bd,bD,qq⟩:=h
  refine⟨_,(turA T).2.h,?_⟩
  obtain⟨us,a,ht,ul,_,hat,ha⟩:=tb.row hrn
  refine⟨_,rfl,_,rfl,t,us,(r:Int),_,rfl,rfl,SqL.of ht,hat,_,rfl,a,_,(q:Int),_,rfl,rfl,SqL.of ha,y0 (jB1 (by omega)),?_⟩
  refine⟨by show (0:Nat)<=_; decide,fun l H1 d1 e1 n1=>?_⟩
  have lt:l≠t:=fun z=>by rw[z,ht] at n1; cases n1
  obtain⟨us2,ht2,ul2,al2⟩:=tb.len
  rw[ht] at ht2
  cases ht2
  refine⟨_,rfl,false,t,rfl,⟨_,SqL.of (e1 _ _ ht)⟩,jGO (tp:=false) (xs:=us) (fun i σ H'=>(∃ v6 v7 v8,σ=[some (.ref t),some (.int (B.P.D b)),some (.int (r:Int)),some (.int (q:Int)),some (.int (B.P.T b r q)),some (.ref l),v6,v7,v8])/\(∀ c o,H1 c=some o->c≠l->H' c=some o)/\∃ zs,H' l=some (.lst zs)/\All2 (RowA H') zs ((tabI B (fs b r q)).take i)/\(∀ u∈zs,u≠ .ref l)/\∀ u∈zs,u∈us\/∃ d,u=V.ref d/\H d=none) ⟨⟨_,_,_,rfl⟩,fun _ _ h _=>h,[],d1,trivial,(fun _ h=>by cases h),fun _ h=>by cases h⟩ (fun i σ H' ⟨_,k,_⟩=>SqL.of (k _ _ (e1 _ _ ht) (cL lt))) ?_ ?_⟩
  ·rintro i x Tp σ H2 hx hT ⟨⟨v6,v7,v8,rfl⟩,k2,zs,l2,a2,nl,od⟩
   have hi:i<B.n+1:=by rw[<- ul]; exact(ar.mp hx).1
   obtain⟨row,hrow,ax,rfl,hax⟩:=All2.get' al2 hx
   rw[jFW hi] at hrow
   cases hrow
   have e3:Ext H2 (L2.upd H2 Tp (.tup [.int (i:Int), .ref ax])):=(Ext.refl _).new hT _
   have d3:(L2.upd H2 Tp (.tup [.int (i:Int), .ref ax])) Tp=some (.tup [.int (i:Int), .ref ax]):=j4
   generalize L2.upd H2 Tp (.tup [.int (i:Int), .ref ax])=H3 at e3 d3
   refine⟨Tp,_,rfl,SqT.of d3,rfl,_,_,rfl,_,_,rfl,rfl,?_⟩
   have axl:ax≠l:=fun z=>by rw[z] at hax; rw[hax] at n1; cases n1
   have zl:=All2.len a2
   have k3:∀ c o,H c=some o->H3 c=some o:=fun c o h=>e3 _ _ (k2 _ _ (e1 _ _ h) fun z=>by rw[z,n1] at h; cases h)
   have tb3:TabB H3 t B b:=by
    obtain⟨us3,x1,x2⟩:=tb
    exact⟨us3,k3 _ _ x1,x2.imp fun _ _ z=>z.mono fun _ _ q=>k3 _ _ q⟩
   refine jHT T tb3 v hrn hq hi n50 bd bD (k3 _ _ hax) (e3 _ _ l2) (by rw[zl]; have:=bY i (tabI B (fs b r q)); omega) (fun H4 u v8 l4 nu ou r4 k4=>⟨⟨_,_,_,rfl⟩,fun c o h n=>k4 _ _ (e3 _ _ (k2 _ _ h n)) n,_,l4,?_,?_,?_⟩) axl
   ·rw[jHY hi]
    refine All2.append (All2.imp' a2 fun u l hu ⟨a,e,q⟩=>⟨a,e,k4 _ _ (e3 _ _ q) fun z=>nl u hu (by rw[e,z])⟩) ⟨r4,trivial⟩
   ·intro x hx
    rcases bA.mp hx with y | y
    ·exact nl x y
    ·rw[bC.mp y]; exact nu
   ·intro x hx'
    rcases bA.mp hx' with y | y
    ·exact od x y
    ·rw[bC.mp y]
     rcases ou with e | ⟨d,e,hd⟩
     ·rw[e]; exact .inl (bh hx)
     ·exact .inr ⟨d,e,by
       cases z:H d with
       | none=>rfl
       | some o=>rw[k3 _ _ z] at hd; cases hd⟩
  ·rintro σ H2 ⟨⟨v6,v7,v8,rfl⟩,k2,zs,l2,a2,nl,od⟩
   have tl:(tabI B (fs b r q)).take us.length=tabI B (fs b r q):=bm (by
    unfold tabI
    rw[aJ,ab,ao,ul]
    exact af _)
   rw[tl] at a2
   exact⟨_,rfl,qq us l H2 zs ht l2 a2 od (fun c o h=>k2 _ _ (e1 _ _ h) fun z=>by rw[z,n1] at h; cases h) n1⟩
end
end Eo
end
section
namespace L2
open PySem PySem.Spec PyProof.Rows
theorem jDX {X:Cx}(hc:X.calm=true):kZ X (.type "list") (fun xs H Q=>∃ p i j,xs=[.ref p]/\H p=some (.rng i j)/\0<=i/\i<=j/\j<=1000/\∀ l,H l=none->Q (.ref l) (upd H l (.lst ((jCP i (j - i).toNat).map V.int)))):=by
 intro pins s σ H xs us Q I r h
 obtain⟨p,i,j,rfl,hp,h0,h1,h2,q⟩:=h
 obtain⟨u,rfl,rx⟩:=r.one
 cases rx
 obtain⟨t,u,v,e⟩:=I.hok p _ hp
 have en:Builtin.Range.rangeSize i j 1=((j - i).toNat:Int):=by
  rw[rangeSize_one]
  split <;> omega
 refine call_list_range (I.ok.hd hc) (show IsRange s.heap p i j 1 t u v from e) (small_one (by omega) (by omega) (by omega) (by omega)) en (by omega) fun h' tk acc' c' kp hS hacc=>?_
 refine⟨.ref s.heap.objs.size,_,I.laid (t':=tk) (o:= .lst ((jCP i (j - i).toNat).map V.int)) kp (af _) ?_,rfl,q _ I.fresh⟩
 refine⟨?_,acc'.toList,c',jHQ hacc,by rw[da]; exact hS⟩
 unfold jCP
 rw[ab,ab,ao,cY]
 omega
end L2
namespace Eo
open PySem L2
theorem jLR {wi lack:Int}{ms:List Int}{pcs:List (List Int×Int)}(g:Good 16 32 wi ms pcs)(hl:lack.natAbs<2 ^ 200):∀ c,c<(bxO wi ms pcs lack).p->((bxO wi ms pcs lack).co c).natAbs<=2 ^ 205:=fun c hc=>by
 have hc:c<pcs.length:=hc
 have gp:=g.at hc
 have lo:=gp.lo
 have hi:=gp.hi
 have w1:=g.w1
 have ml:((mus ms wi.toNat).filter fun x=>decide (x∈(pcs.getD c ([],0)).1)).length<=16:=by
  have:=jDP ms wi.toNat
  have:=bO (fun x=>decide (x∈(pcs.getD c ([],0)).1)) (mus ms wi.toNat)
  omega
 show ((pcs.getD c ([],0)).2 - lack*((((mus ms wi.toNat).filter fun m=>decide (m∈(pcs.getD c ([],0)).1)).length:Nat):Int)).natAbs<=2 ^ 205
 generalize ((mus ms wi.toNat).filter fun m=>decide (m∈(pcs.getD c ([],0)).1)).length=m at ml ⊢
 generalize (pcs.getD c ([],0)).2=x at lo hi ⊢
 have a:(lack*(m:Int)).natAbs<=2 ^ 200*16:=by
  rw[eZ,dA]
  exact Nat.mul_le_mul (cw hl) ml
 have e1:2 ^ 200*16=2 ^ 204:=by decide
 have e2:2 ^ 204+1000000000000<=2 ^ 205:=by decide
 rw[e1] at a
 generalize lack*(m:Int)=y at a ⊢
 generalize (2:Nat) ^ 204=z1 at a e2
 generalize (2:Nat) ^ 205=z2 at e2 ⊢
 omega
theorem bxO_T {wi lack:Int}{ms:List Int}{pcs:List (List Int×Int)}(g:Good 16 32 wi ms pcs)(hl:lack.natAbs<2 ^ 200)(b:Nat->Nat):(∀ i c,((bxO wi ms pcs lack).P.T b i c).natAbs<2 ^ 6000)/\((bxO wi ms pcs lack).P.D b).natAbs<2 ^ 6000:=by
 have w1:=g.w1
 have n17:(bxO wi ms pcs lack).n+1<=17:=by show wi.toNat+1<=17; omega
 have key:((bxO wi ms pcs lack).n+1+2 ^ 205) ^ ((bxO wi ms pcs lack).n+1)<2 ^ 6000:=by
  refine bL (Nat.pow_le_pow_left (show _<=2 ^ 206 from ?_) _) (bL (eW (by decide) n17) ?_)
  ·have:17+2 ^ 205<=2 ^ 206:=by decide
   exact aZ (Nat.add_le_add_right n17 _) this
  ·rw[<- Nat.pow_mul]
   exact dc (by decide) (by decide)
 exact⟨fun i c=>bL (Sx.Bx.T_abs (jLR g hl) b i c) key,bL (Sx.Bx.D_abs (jLR g hl) b) key⟩
theorem jKU {n:Nat}(h:n<2 ^ 6000):n.log2<9000:=by
 by_cases z:n=0
 ·rw[z]; decide
 ·have:=(fr z).mpr h
  omega
theorem jOS {wi lack:Int}{ms:List Int}{pcs:List (List Int×Int)}(g:Good 16 32 wi ms pcs):∀ c,c<(bxO wi ms pcs lack).p->∃ k,k<(bxO wi ms pcs lack).n/\(bxO wi ms pcs lack).inn c k=true:=fun c hc=>by
 have hc:c<pcs.length:=hc
 have gp:=(g.at hc).lot
 cases e:(pcs.getD c ([],0)).1 with
 | nil=>exact absurd e gp.ne
 | cons x r=>
  have b:=gp.bnd x (by rw[e]; exact aE ..)
  refine⟨x.toNat,show x.toNat<wi.toNat by omega,aG ?_⟩
  rw[show ((x.toNat:Nat):Int)=x by omega,e]
  exact aE ..
theorem jLY {B:Sx.Bx}{b:Nat->Nat}{r q:Nat}(hr:r<B.n):((tkn B b).map V.int).set r (.int (q:Int))=(tkn B (fs b r q)).map V.int:=by
 refine List.ext_getElem? fun j=>?_
 rw[List.getElem?_set,jC8]
 by_cases h:r=j
 ·subst h
  rw[ah rfl,ah hr,jE7 hr,jCQ]
 ·rw[am h]
  by_cases hj:j<B.n
  ·rw[jE7 hj,jE7 hj,fs_ne (fun z=>h z.symm)]
  ·rw[bN (by rw[jC8]; omega),bN (by rw[jC8]; omega)]
def Rn (P:Sx.Prob)(b0:Nat->Nat):Nat->(Nat->Nat)->Prop
 | 0,b=>b=b0
 | k+1,b=>∃ a,Rn P b0 k a/\Sx.Stp P a b
def colV (q:Option Nat):V:=match q with
 | none=> .non
 | some q=> .int (q:Int)
def ColI (B:Sx.Bx)(b:Nat->Nat)(q:Option Nat):Prop:=match q with
 | none=>∀ c,c<B.p+B.n->0<=B.P.T b B.n c
 | some q=>Sx.Ent B.P b q
section
variable {P:Program}{w:World}{K:W.Frag}{mg:Str->Option Value}{base:Heap}
variable {f fF fC fR fT:Addr}{fdF fdC fdR fdT:FuncData}{cdv:Value}{A:Around}{outer:List Env}{s:Shared}{H0:Hp}{E:XK}
noncomputable abbrev nBal:List Str:=["box","lack","pieces","table","taken","bottom","column","row","parts","most","prices"]
theorem scBal:FnScope nBal ["box","lack"] (j7 sBal):=⟨rfl,rfl,rfl,by decide+kernel,rfl,by decide+kernel,by decide+kernel⟩
abbrev XBal (P:Program)(w:World)(K:W.Frag)(mg:Str->Option Value)(base:Heap)(f:Addr)(cdv:Value)(A:Around)(outer:List Env)(s:Shared)(H:Hp)(E:XK):Cx:=XOf nBal "balanced" sBal P w K mg base f cdv A outer s H E
structure BalW (P:Program)(w:World)(K:W.Frag)(mg:Str->Option Value)(base:Heap)(fF fC fR fT:Addr)(fdF fdC fdR fdT:FuncData):Prop where
 T:Txt mg
 CF:Can P w K mg base "first_table" 2 fF fdF ["box","lack"] jF9
 CC:Can P w K mg base "column_to_take" 1 fC fdC ["table"] jI7
 CR:Can P w K mg base "row_to_give" 1 fR fdR ["table","taken","column"] jI6
 CT:Can P w K mg base "turned" 1 fT fdT ["table","bottom","row","column"] jDA
section
variable (G:BalW P w K mg base fF fC fR fT fdF fdC fdR fdT)(hr:Room 2 (XBal P w K mg base f cdv A outer s H0 E).A)
def balWA: { t:TS // JSs (XBal P w K mg base f cdv A outer s H0 E) (match (jB sBal).getD 5 (.Pass ⟨0,0,0,0⟩) with | .While _ b _ _=>b | _=> []) t} :=
 have nd:=scBal.nd
 ⟨_,(j8 (jG (i:=7) nd rfl lL (G.CR.je (hr.mono (by decide)) gD (j0 (jv 3 rfl vC) (j0 (jv 4 rfl vC) (j0 (jv 6 rfl vL) j5 j3) j3) j3) j3) jP)
   (j8 (jG (i:=3) nd rfl (yU (by decide+kernel)) (G.CT.je (hr.mono (by decide)) gD (j0 (jv 3 rfl vC) (j0 (jv 5 rfl vC) (j0 (jv 7 rfl vL) (j0 (jv 6 rfl vL) j5 j3) j3) j3) j3) j3) jP)
   (j8 (jG (i:=5) nd rfl (yU (by decide+kernel)) (jE jQ (jE jQ (jv 3 rfl vC) (jv 7 rfl vL) jT) (jv 6 rfl vL) jT) jBU)
   (j8 (jGF (jv 6 rfl vL) (jGI (jv 4 rfl vC) (jv 7 rfl vL) jB9))
   (jC (jG (i:=6) nd rfl lL (G.CC.je (hr.mono (by decide)) gD (j0 (jv 3 rfl vC) j5 j3) j3) jP))))))⟩
def balEA: { t:TS // JSs (XBal P w K mg base f cdv A outer s H0 E) ((jB sBal).drop 6) t} :=
 have nd:=scBal.nd
 ⟨_,(j8 (jDR (i:=8) nd rfl lL ⟨by rfl⟩ (m:=[none,some 4,some 3]) (Nc:=["piece","taken","table"]) rfl (kR gD G.T.range (j0 (jv 2 rfl vC) j5 j3) j3) rfl (by decide+kernel) (by decide+kernel) (kE (psc:=j7 sBal) (by decide+kernel)) (jH (N:=nBal) rfl rfl (by decide+kernel)) (fun cl C fp s H=>jL (i:=0) (show (["piece","taken","table"]:List Str).Nodup by decide+kernel) rfl (yD (by decide+kernel))) (fun cl C fp s H=>kN) (fun cl C fp s H=>(jGL (jJ jFH (jv 0 rfl (kG (by decide+kernel))) (jv 1 rfl (kL (by decide+kernel))) jDN) (jE jAR (jE jAR (jv 2 rfl (kL (by decide+kernel))) (jN2 br PySem.F.slot_list_index PySem.F.type_list_index jIU (jv 1 rfl (kL (by decide+kernel))) (j0 (jv 0 rfl (kG (by decide+kernel))) j5 j3) j3) jID) (je_un jCY (j6)) px_un) (j6))) kU)
   (j8 (jN1 (i:=9) nd rfl (yU (by decide+kernel)) (kS (m:=[none,some 0,some 1,some 5]) (Nc:=["thing","box","lack","bottom"]) rfl (kR gD G.T.range (j0 (jE jK (jv 0 rfl vC) (j6) jD) j5 jM) jM) rfl (by decide+kernel) (by decide+kernel) (kE (psc:=j7 sBal) (by decide+kernel)) (jH (N:=nBal) rfl rfl (by decide+kernel)) (fun cl C fp s H=>jL (i:=0) (show (["thing","box","lack","bottom"]:List Str).Nodup by decide+kernel) rfl (yD (by decide+kernel))) (fun cl C fp s H=>kN) (fun cl C fp s H=>(jGL (jJ jFH (jv 0 rfl (kG (by decide+kernel))) (jE jAM (jv 1 rfl (kL (by decide+kernel))) (j6) jD) jGB) (j6) (jU jBP (jv 2 rfl (kL (by decide+kernel))) (jv 3 rfl (kL (by decide+kernel)))))) kU) (by rfl))
   (j8 (jDR (i:=10) nd rfl lL ⟨by rfl⟩ (m:=[none,some 9,some 3,some 2]) (Nc:=["thing","most","table","pieces"]) rfl (kR gD G.T.range (j0 (jE jK (jv 0 rfl vC) (j6) jD) j5 jM) jM) rfl (by decide+kernel) (by decide+kernel) (kE (psc:=j7 sBal) (by decide+kernel)) (jH (N:=nBal) rfl rfl (by decide+kernel)) (fun cl C fp s H=>jL (i:=0) (show (["thing","most","table","pieces"]:List Str).Nodup by decide+kernel) rfl (yD (by decide+kernel))) (fun cl C fp s H=>kN) (fun cl C fp s H=>(jU yH (jE jAR (jv 1 rfl (kL (by decide+kernel))) (jv 0 rfl (kG (by decide+kernel))) jT) (jE jAR (jE jAR (jv 2 rfl (kL (by decide+kernel))) (je_un jCY (j6)) px_un) (jU kX (jv 3 rfl (kL (by decide+kernel))) (jv 0 rfl (kG (by decide+kernel)))) jIE))) kU)
   (jC (jX (yC (j0 (jv 8 rfl vL) (j0 (jv 10 rfl vL) (j0 (jv 5 rfl vC) j5 j3) j3) j3)))))))⟩
def balA: { t:TS // JSs (XBal P w K mg base f cdv A outer s H0 E) (jB sBal) t} :=
 have nd:=scBal.nd
 ⟨_,(j8 (jG (i:=2) nd rfl (yU (by decide+kernel)) (jI jA1 gD G.T.len (by decide+kernel) (j0 (jE jK (jv 0 rfl vC) (j6) jD) j5 jM) jM) jP) (j8 (jG (i:=3) nd rfl (yU (by decide+kernel)) (G.CF.je (hr.mono (by decide)) gD (j0 (jv 0 rfl vC) (j0 (jv 1 rfl vC) j5 j3) j3) j3) jP) (j8 (jG (i:=4) nd rfl (yU (by decide+kernel)) (kB (jDX rfl) gD G.T.list (by decide+kernel) (j0 (kB jET gD G.T.range (by decide+kernel) (j0 (jv 2 rfl vC) (j0 (jU kX (jv 2 rfl vC) (jE jK (jv 0 rfl vC) (j6) jD)) j5 kW) j3) j3) j5 jZ) jZ) jP) (j8 (jG (i:=5) nd rfl (yU (by decide+kernel)) (j6) jG0) (j8 (jG (i:=6) nd rfl lL (G.CC.je (hr.mono (by decide)) gD (j0 (jv 3 rfl vC) j5 j3) j3) jP) (j8 (jGD bf (jJ jMO (jv 6 rfl vL) (jD4) (jO _)) (balWA G hr).2) (balEA G).2))))))⟩
structure BalI (H:Hp)(t k:Addr)(B:Sx.Bx)(b:Nat->Nat):Prop where
 v:Sx.Val B.P b
 tb:TabB H t B b
 tk:H k=some (.lst ((tkn B b).map V.int))
 ne:t≠k
 ap:∀ us,H t=some (.lst us)->∀ u∈us,u≠V.ref k
theorem jK2 {D:Ends}{H:Hp}{t k:Addr}{B:Sx.Bx}{b:Nat->Nat}{q:Nat}{v0 v1 v2 v7 v8 v9 v10:Option V}(bi:BalI H t k B b)(en:Sx.Ent B.P b q)(ne:∀ c,c<B.p->∃ k,k<B.n/\B.inn c k=true)(n16:B.n<=16)(n50:B.p+B.n<=50)(bd:∀ b,(∀ i c,(B.P.T b i c).natAbs<2 ^ 6000)/\(B.P.D b).natAbs<2 ^ 6000)
  (nx:∀ H' t' b' q' r,Sx.Stp B.P b b'->BalI H' t' k B b'->ColI B b' q'->(∀ c o,H c=some o->c≠k->H' c=some o)->D.nx [v0,v1,v2,some (.ref t'),some (.ref k),some (.int (B.P.D b')),some (colV q'),some (.int (r:Int)),v8,v9,v10] H'):
  (balWA G hr).1 D [v0,v1,v2,some (.ref t),some (.ref k),some (.int (B.P.D b)),some (.int (q:Int)),v7,v8,v9,v10] H:=by
 refine⟨_,rfl,_,rfl,_,rfl,t,k,B,b,q,rfl,bi.tb,bi.tk,en.lt,n16,(bd b).1,Sx.Bx.some_row ne bi.v en.lt,fun r lv=>?_⟩
 refine⟨_,rfl,_,rfl,_,rfl,_,rfl,t,B,b,r,q,rfl,bi.tb,bi.v,lv.lt,en.lt,n50,(bd b).1,jKU (bd b).2,fun us l H1 zs ht hl al od e1 nl=>?_⟩
 have tb1:TabB H1 l B (fs b r q):=⟨zs,hl,al⟩
 have k1:=e1 _ _ bi.tk
 have lk:l≠k:=fun z=>by rw[z,bi.tk] at nl; cases nl
 have zk:∀ u∈zs,u≠V.ref k:=fun u hu z=>by
  rcases od u hu with y | ⟨d,y,hd⟩
  ·exact bi.ap us ht u y z
  ·rw[z] at y
   cases y
   rw[bi.tk] at hd
   cases hd
 obtain⟨us2,a2,ht2,ul2,_,hat2,ha2⟩:=tb1.row lv.lt
 rw[hl] at ht2
 cases ht2
 refine⟨_,rfl,_,rfl,l,zs,(r:Int),_,rfl,rfl,SqL.of hl,hat2,_,rfl,a2,_,(q:Int),_,rfl,rfl,SqL.of ha2,y0 (jB1 (by have:=en.lt; show q<B.p+B.n+1; have h:q<B.p+B.n:=en.lt; omega)),?_⟩
 have eD:B.P.T (fs b r q) r q=B.P.D (fs b r q):=by
  have h1:B.P.S.D (fs b r q)=B.P.S.T b r q:=Sx.D_fs
  have h2:B.P.S.T (fs b r q) r q=B.P.S.T b r q:=Sx.T_r
  exact h2.trans h1.symm
 rw[eD]
 refine⟨_,rfl,_,rfl,_,rfl,k,_,_,r,rfl,rfl,k1,?_,?_⟩
 ·unfold ixN
  rw[jC8]
  have:=lv.lt
  have h:r<B.n:=this
  simp
  omega
 rw[jLY lv.lt]
 have d2:(L2.upd H1 k (.lst ((tkn B (fs b r q)).map V.int))) k=some (.lst ((tkn B (fs b r q)).map V.int)):=j4
 have k2:∀ c o,H1 c=some o->c≠k->(L2.upd H1 k (.lst ((tkn B (fs b r q)).map V.int))) c=some o:=fun c o h n=>by rw[j9 n]; exact h
 generalize L2.upd H1 k (.lst ((tkn B (fs b r q)).map V.int))=H2 at d2 k2
 have al2:All2 (RowA H2) zs (tabI B (fs b r q)):=All2.imp' al fun u l hu ⟨a,e,q⟩=>⟨a,e,k2 _ _ q fun z=>zk u hu (by rw[e,z])⟩
 have l2:=k2 _ _ hl lk
 have st:Sx.Stp B.P b (fs b r q):=⟨q,r,en,lv,rfl⟩
 have v2:=bi.v.stp st
 have mk:∀ H3,Ext H2 H3->BalI H3 l k B (fs b r q):=fun H3 e3=>⟨v2,TabA.ext ⟨zs,l2,al2⟩ e3,e3 _ _ d2,lk,fun us h u hu=>by
  rw[e3 _ _ l2] at h
  cases h
  exact zk u hu⟩
 refine⟨_,rfl,l,B,fs b r q,rfl,⟨zs,l2,al2⟩,fun q3 H3 en3 e3=>?_,fun op H3 e3=>?_⟩
 ·exact nx H3 l _ (some q3) r st (mk H3 e3) en3 fun c o h n=>e3 _ _ (k2 _ _ (e1 _ _ h) n)
 ·exact nx H3 l _ none r st (mk H3 e3) op fun c o h n=>e3 _ _ (k2 _ _ (e1 _ _ h) n)
def xL (B:Sx.Bx)(b:Nat->Nat):List Int:=(List.range B.p).map fun c=>B.xP b c
def yL (ms:List Int)(lack:Int)(B:Sx.Bx)(b:Nat->Nat):List Int:=(List.range B.n).map fun (k:Nat)=>(if decide ((k:Int)∈ms)=true then 0 else lack*B.P.D b) - B.P.T b B.n (B.p+k)
theorem jK3 {D:Ends}{H:Hp}{x t k:Addr}{wi lack:Int}{ms:List Int}{pcs:List (List Int×Int)}{b:Nat->Nat}{v6 v7 v8 v9 v10:Option V}(hB:BoxAt H x wi ms pcs)(g:Good 16 32 wi ms pcs)(hl:lack.natAbs<2 ^ 200)(bi:BalI H t k (bxO wi ms pcs lack) b)
  (rt:∀ r lp ly H',H' r=some (.tup [.ref lp, .ref ly, .int ((bxO wi ms pcs lack).P.D b)])->H' lp=some (.lst ((xL (bxO wi ms pcs lack) b).map V.int))->H' ly=some (.lst ((yL ms lack (bxO wi ms pcs lack) b).map V.int))->Ext H H'->D.rt (.ref r) H'):
  (balEA (f:=f) (cdv:=cdv) (A:=A) (outer:=outer) (s:=s) (H0:=H0) (E:=E) G).1 D [some (.ref x),some (.int lack),some (.int ((pcs.length:Nat):Int)),some (.ref t),some (.ref k),some (.int ((bxO wi ms pcs lack).P.D b)),v6,v7,v8,v9,v10] H:=by
 obtain⟨qm,qp,ps,b1,b2,b3,b4⟩:=id hB.ex
 have gpl:=g.pl
 have w0:=g.w0
 have w1:=g.w1
 refine⟨_,rfl,_,rfl,by omega,by omega,jBI (n:=pcs.length) (fun σ=>∃ v,σ=[v,some (.ref k),some (.ref t)]) (mapZ (List.range pcs.length) fun c=>V.int ((bxO wi ms pcs lack).xP b c)) (mapZ.ok _ _) (by rw[aj]; omega) ⟨_,rfl⟩ ?_ ?_⟩
 ·rintro j σ' H' zs hj ⟨v,rfl⟩ e hz S1 S2 yes no
  dsimp only [kJ,yA]
  rw[ah rfl]
  have e0:(0+(j:Int))=(j:Int):=by omega
  have hg:(List.range pcs.length)[j]?=some j:=aK hj
  have tk':=e _ _ bi.tk
  refine⟨_,rfl,_,rfl,k,_,rfl, .inl (SqL.of tk'),rfl,jA9 _,_,rfl,?_⟩
  rw[jAN,e0]
  have y:=hz.yes (H':=H') hg
  refine ite2 (fun h=>?_) (fun h=>?_)
  ·have h:(j:Int)∈tkn (bxO wi ms pcs lack) b:=az h
   obtain⟨i,hi,ei⟩:=bw.mp h
   have hi:=aO.mp hi
   have ei:b i=j:=by omega
   have nd:∀ m,m<i->((tkn (bxO wi ms pcs lack) b)[m]?≠some (j:Int)):=fun m hm z=>by
    have hm':m<(bxO wi ms pcs lack).n:=by omega
    have:(tkn (bxO wi ms pcs lack) b)[m]?=some ((b m:Nat):Int):=by
     unfold tkn
     rw[ay,aK hm']
     rfl
    rw[this] at z
    have z:((b m:Nat):Int)=(j:Int):=aN z
    have:=bi.v.inj hm' hi (by omega)
    omega
   have gi:(tkn (bxO wi ms pcs lack) b)[i]?=some (j:Int):=by
    unfold tkn
    rw[ay,aK hi,<- ei]
    rfl
   have xi:(bxO wi ms pcs lack).xP b j=(bxO wi ms pcs lack).P.T b i ((bxO wi ms pcs lack).p+(bxO wi ms pcs lack).n):=by rw[<- ei]; exact Sx.Bx.xP_in bi.v hi
   rw[xi] at y
   obtain⟨us,a,ht,ul,_,hat,ha⟩:=TabB.row (TabA.ext bi.tb e) hi
   have tl:(tkn (bxO wi ms pcs lack) b).length<=1000:=by
    unfold tkn
    rw[ab,ao]
    show wi.toNat<=1000
    omega
   refine⟨_,rfl,_,rfl, .inl ⟨rfl,_,SqL.of tk'⟩,_,rfl,k,_,_,i,rfl,rfl,tk',tl,gi,nd,?_⟩
   refine⟨t,us,(i:Int),_,rfl,rfl,SqL.of ht,hat,_,rfl,a,_,_,_,rfl,rfl,SqL.of ha,jDG,?_⟩
   exact yes _ _ _ ⟨_,rfl⟩ (Ext.refl _) y
  ·have h:¬ (j:Int)∈tkn (bxO wi ms pcs lack) b:=fun z=>h (aG z)
   have x0:(bxO wi ms pcs lack).xP b j=0:=Sx.Bx.xP_out fun i hi ez=>h (bw.mpr ⟨i,aO.mpr hi,by rw[ez]⟩)
   rw[x0] at y
   exact yes _ _ _ ⟨_,rfl⟩ (Ext.refl _) y
 ·rintro lp H1 zs d1 e1 n1 hz
  have hz:=hz.all (by rw[ao]; exact af _)
  have d1:H1 lp=some (.lst ((xL (bxO wi ms pcs lack) b).map V.int)):=by rw[d1,hz]; unfold xL; rw[bc]; rfl
  have bD:=(bxO_T g hl b).2
  have hB1:=hB.mono e1.tups
  refine⟨_,rfl,x,_,0,_,rfl,rfl,SqT.of (e1 _ _ b1),rfl,wi,rfl,by omega,by omega,jBI (n:=wi.toNat) (fun σ=>∃ v,σ=[v,some (.ref x),some (.int lack),some (.int ((bxO wi ms pcs lack).P.D b))]) (mapZ (List.range wi.toNat) fun (k:Nat)=>V.int (if decide ((k:Int)∈ms)=true then 0 else lack*(bxO wi ms pcs lack).P.D b)) (mapZ.ok _ _) (by rw[aj]; omega) ⟨_,rfl⟩ ?_ ?_⟩
  ·rintro j σ' H' zs' hj ⟨v,rfl⟩ e hz' S1 S2 yes no
   have e0:(0+(j:Int))=(j:Int):=by omega
   have hg:(List.range wi.toNat)[j]?=some j:=aK hj
   dsimp only [kJ,yA]
   rw[ah rfl]
   have y:=hz'.yes (H':=H') hg
   have E1:=e1.trans e
   refine⟨_,rfl,_,rfl,x,_,1,_,rfl,rfl,SqT.of (E1 _ _ b1),rfl,qm,_,rfl, .inr (SqT.of (E1 _ _ b2)),rfl,jA9 _,_,rfl,?_⟩
   rw[jAN,e0]
   refine ite2 (fun h=>?_) (fun h=>?_)
   ·have h:decide ((j:Int)∈ms)=true:=h
    rw[ah h] at y
    exact yes _ _ _ ⟨_,rfl⟩ (Ext.refl _) y
   ·have h:¬ decide ((j:Int)∈ms)=true:=h
    rw[am h] at y
    exact⟨_,rfl,_,rfl,_,_,rfl,rfl,⟨cO hl (dc (by decide) (by decide)),bD⟩,yes _ _ _ ⟨_,rfl⟩ (Ext.refl _) y⟩
  ·rintro lm H2 zs2 d2 e2 n2 hz2
   have hz2:=hz2.all (by rw[ao]; exact af _)
   have E2:=e1.trans e2
   have ml:zs2.length=wi.toNat:=by rw[hz2,ab,ao]
   refine⟨_,rfl,x,_,0,_,rfl,rfl,SqT.of (E2 _ _ b1),rfl,wi,rfl,by omega,by omega,jBI (n:=wi.toNat) (fun σ=>∃ v,σ=[v,some (.ref lm),some (.ref t),some (.int ((pcs.length:Nat):Int))]) (mapZ (List.range wi.toNat) fun (k:Nat)=>V.int ((if decide ((k:Int)∈ms)=true then 0 else lack*(bxO wi ms pcs lack).P.D b) - (bxO wi ms pcs lack).P.T b wi.toNat (pcs.length+k))) (mapZ.ok _ _) (by rw[aj]; omega) ⟨_,rfl⟩ ?_ ?_⟩
   ·rintro j σ' H' zs' hj ⟨v,rfl⟩ e hz' S1 S2 yes no
    have e0:(0+(j:Int))=(j:Int):=by omega
    have hg:(List.range wi.toNat)[j]?=some j:=aK hj
    dsimp only [kJ,yA]
    rw[ah rfl,e0]
    have y:=hz'.yes (H':=H') hg
    have E3:=E2.trans e
    have zj:zs2[j]?=some (V.int (if decide ((j:Int)∈ms)=true then 0 else lack*(bxO wi ms pcs lack).P.D b)):=by rw[hz2,ay,hg]; rfl
    obtain⟨us,a,ht,ul,_,hat,ha⟩:=TabB.cst (TabA.ext bi.tb E3)
    refine⟨_,rfl,_,rfl,lm,_,(j:Int),_,rfl,rfl,SqL.of (e _ _ d2),y0 zj,?_⟩
    refine⟨_,rfl,_,rfl,t,us,_,_,rfl,rfl,SqL.of ht,hat,_,rfl,_,rfl,_,_,rfl,rfl,?_⟩
    have ci:=jJN (B:=bxO wi ms pcs lack) (b:=b) (c:=pcs.length+j) (show pcs.length+j<pcs.length+wi.toNat by omega)
    refine⟨a,_,((pcs.length+j:Nat):Int),_,rfl,by rw[Int.natCast_add],SqL.of ha,y0 ci,?_⟩
    exact⟨_,_,rfl,rfl,yes _ _ _ ⟨_,rfl⟩ (Ext.refl _) y⟩
   ·rintro ly H3 zs3 d3 e3 n3 hz3
    have hz3:=hz3.all (by rw[ao]; exact af _)
    refine⟨_,rfl,_,rfl,_,rfl,by show (3:Nat)<=_; decide,fun r H4 d4 e4=>?_⟩
    refine rt r lp ly H4 d4 (e4 _ _ (e3 _ _ (e2 _ _ d1))) ?_ ((E2.trans e3).trans e4)
    rw[e4 _ _ d3,hz3]
    unfold yL
    rw[bc]
    rfl
end
structure OptB (B:Sx.Bx)(b:Nat->Nat):Prop where
 v:Sx.Val B.P b
 rc:∃ k,Rn B.P B.b0 k b
 o:∀ c,c<B.p+B.n->0<=B.P.T b B.n c
def spBal:Sp:=fun vs H Q _=>∃ (x:Addr) (w lack:Int) (ms:List Int) (pcs:List (List Int×Int)),vs=[.ref x, .int lack]/\BoxAt H x w ms pcs/\Good 16 32 w ms pcs/\lack.natAbs<2 ^ 200/\∀ b r lp ly H',OptB (bxO w ms pcs lack) b->H' r=some (.tup [.ref lp, .ref ly, .int ((bxO w ms pcs lack).P.D b)])->H' lp=some (.lst ((xL (bxO w ms pcs lack) b).map V.int))->H' ly=some (.lst ((yL ms lack (bxO w ms pcs lack) b).map V.int))->Ext H H'->Q (.ref r) H'
theorem jOC {fd:FuncData}(F:Fun K "balanced" "balanced" sBal f fd)(G:BalW P w K mg base fF fC fR fT fdF fdC fdR fdT):FnOk P w K mg base CX0 3 f fd ["box","lack"] spBal:=by
 refine F.ok scBal (fun vs H Q E h=>?_) (fun cdv A outer s H vs Q E hr h=>?_)
 ·obtain⟨_,_,_,_,_,rfl,_⟩:=h
  rfl
 ·obtain⟨x,wi,lack,ms,pcs,rfl,hB,g,hl,q⟩:=h
  refine⟨_,(balA G hr).2.h,?_⟩
  obtain⟨qm,qp,ps,b1,b2,b3,b4⟩:=id hB.ex
  have pl:=b4.len
  have gpl:=g.pl
  have w0:=g.w0
  have w1:=g.w1
  refine⟨_,rfl,x,_,2,_,rfl,rfl,SqT.of b1,rfl,qp,_,rfl, .inr (SqT.of b3),?_⟩
  rw[pl]
  refine⟨_,rfl,_,rfl,x,wi,lack,ms,pcs,rfl,hB,g,hl,fun t H1 tb1 e1=>?_⟩
  refine⟨_,rfl,_,rfl,_,rfl,x,_,0,_,rfl,rfl,SqT.of (e1 _ _ b1),rfl,_,_,rfl,rfl,?_⟩
  refine⟨_,_,rfl,fun pr hpr=>?_⟩
  have e2:Ext H1 (L2.upd H1 pr (.rng ((pcs.length:Nat):Int) (((pcs.length:Nat):Int)+wi))):=(Ext.refl _).new hpr _
  have d2:(L2.upd H1 pr (.rng ((pcs.length:Nat):Int) (((pcs.length:Nat):Int)+wi))) pr=some (.rng ((pcs.length:Nat):Int) (((pcs.length:Nat):Int)+wi)):=j4
  generalize L2.upd H1 pr (.rng ((pcs.length:Nat):Int) (((pcs.length:Nat):Int)+wi))=H2 at e2 d2
  refine⟨pr,_,_,rfl,d2,by omega,by omega,by omega,fun k hk=>?_⟩
  have ek:(jCP ((pcs.length:Nat):Int) (((pcs.length:Nat):Int)+wi - ((pcs.length:Nat):Int)).toNat)=tkn (bxO wi ms pcs lack) (bxO wi ms pcs lack).b0:=by
   rw[show (((pcs.length:Nat):Int)+wi - ((pcs.length:Nat):Int)).toNat=wi.toNat by omega]
   unfold jCP tkn
   refine bz fun i hi=>?_
   have hi:i<(bxO wi ms pcs lack).n:=aO.mp hi
   unfold Sx.Bx.b0
   rw[ah hi,Int.natCast_add]
   rfl
  rw[ek]
  have e3:Ext H2 (L2.upd H2 k (.lst ((tkn (bxO wi ms pcs lack) (bxO wi ms pcs lack).b0).map V.int))):=(Ext.refl _).new hk _
  have d3:(L2.upd H2 k (.lst ((tkn (bxO wi ms pcs lack) (bxO wi ms pcs lack).b0).map V.int))) k=some (.lst ((tkn (bxO wi ms pcs lack) (bxO wi ms pcs lack).b0).map V.int)):=j4
  generalize L2.upd H2 k (.lst ((tkn (bxO wi ms pcs lack) (bxO wi ms pcs lack).b0).map V.int))=H3 at e3 d3
  have E23:=e2.trans e3
  have tb3:TabB H3 t (bxO wi ms pcs lack) (bxO wi ms pcs lack).b0:=TabA.ext tb1 E23
  have nk:H1 k=none:=nw_of e2 hk
  obtain⟨us1,ht1,al1⟩:=id tb1
  have bi3:∀ H4,Ext H3 H4->BalI H4 t k (bxO wi ms pcs lack) (bxO wi ms pcs lack).b0:=fun H4 e4=>⟨Sx.Bx.val0,TabA.ext tb3 e4,e4 _ _ d3,(fun z=>by rw[z,nk] at ht1; cases ht1),fun us h u hu z=>by
   rw[(E23.trans e4) _ _ ht1] at h
   cases h
   obtain⟨i,hi⟩:=List.getElem?_of_mem hu
   obtain⟨row,_,a,ea,ha⟩:=All2.get' al1 hi
   rw[z] at ea
   cases ea
   rw[nk] at ha
   cases ha⟩
  have EH:=e1.trans E23
  have kn:H k=none:=nw_of e1 nk
  have D1:(1:Int)=(bxO wi ms pcs lack).P.D (bxO wi ms pcs lack).b0:=Sx.Bx.D0.symm
  rw[D1]
  have loop:∀ (H4:Hp) (c0:Option Nat),Ext H3 H4->ColI (bxO wi ms pcs lack) (bxO wi ms pcs lack).b0 c0->(tSeq (jHZ (tTest (tOp (fun x y H Q=>y=V.non/\Q (.bl (!decide (x= .non))) H) (tVar 6) (tC .non))) (balWA (f:=f) (cdv:=cdv) (A:=A) (outer:=outer) (s:=s) (H0:=H) (E:=E) G hr).1) (balEA (f:=f) (cdv:=cdv) (A:=A) (outer:=outer) (s:=s) (H0:=H) (E:=E) G).1) { nx:=fun x H'=>Q V.non H',rt:=Q} [some (.ref x),some (.int lack),some (.int ((pcs.length:Nat):Int)),some (.ref t),some (.ref k),some (.int ((bxO wi ms pcs lack).P.D (bxO wi ms pcs lack).b0)),some (colV c0),none,none,none,none] H4:=fun H4 c0 e4 c4=>by
   have n16:(bxO wi ms pcs lack).n<=16:=by show wi.toNat<=16; omega
   have n50:(bxO wi ms pcs lack).p+(bxO wi ms pcs lack).n<=50:=by show pcs.length+wi.toNat<=50; omega
   refine⟨fun m σ H'=>∃ b t' c v7,¬ Sx.Chn (bxO wi ms pcs lack).P m b/\(∃ j,Rn (bxO wi ms pcs lack).P (bxO wi ms pcs lack).b0 j b)/\BalI H' t' k (bxO wi ms pcs lack) b/\ColI (bxO wi ms pcs lack) b c/\Ext H H'/\σ=[some (.ref x),some (.int lack),some (.int ((pcs.length:Nat):Int)),some (.ref t'),some (.ref k),some (.int ((bxO wi ms pcs lack).P.D b)),some (colV c),v7,none,none,none],⟨_,_,_,_,_,Sx.no_chain Sx.Bx.val0,⟨0,rfl⟩,bi3 H4 e4,c4,EH.trans e4,rfl⟩,?_⟩
   rintro m σ H5 ⟨b,t5,c5,v7,nc,rc,bi5,ci5,e5,rfl⟩
   cases c5 with
   | none=>
    refine⟨_,rfl,rfl,_,rfl,ite2 (fun h=>absurd h (by show ¬ (!decide (V.non=V.non))=true; rw[aG rfl]; decide)) (fun _=>?_)⟩
    exact jK3 G (hB.mono e5.tups) g hl bi5 fun r lp ly H6 d6 x6 y6 e6=>q b r lp ly H6 ⟨bi5.v,rc,ci5⟩ d6 x6 y6 (e5.trans e6)
   | some q5=>
    refine⟨_,rfl,rfl,_,rfl,ite2 (fun _=>?_) (fun h=>absurd (show (!decide (V.int (q5:Int)=V.non))=true by rw[aX (by intro z; cases z)]; rfl) h)⟩
    cases m with
    | zero=>exact absurd (Sx.Chn.zero b) nc
    | succ m=>
     refine⟨_,fun σ' H' h=>⟨m,aB m,h⟩,?_⟩
     exact jK2 G hr bi5 ci5 (jOS g) n16 n50 (bxO_T g hl) fun H6 t6 b6 q6 r6 st bi6 ci6 k6=>⟨b6,t6,q6,_,fun z=>nc (z.more st),(let ⟨j,hj⟩:=rc; ⟨j+1,b,hj,st⟩),bi6,ci6,(fun c o h=>k6 _ _ (e5 _ _ h) fun z=>by rw[z,kn] at h; cases h),rfl⟩
  refine⟨_,rfl,t,bxO wi ms pcs lack,(bxO wi ms pcs lack).b0,rfl,tb3,fun q4 H4 en4 e4=>?_,fun op H4 e4=>?_⟩
  ·exact loop H4 (some q4) e4 en4
  ·exact loop H4 none e4 op
end
def unW (pcs:List (List Int×Int)):List (List Int×Int):=pcs.map fun p=>(p.1,0)
theorem jC6 (pcs:List (List Int×Int)):(unW pcs).length=pcs.length:=ab ..
theorem jLX {pcs:List (List Int×Int)}{c:Nat} :(unW pcs).getD c ([],0)=((pcs.getD c ([],0)).1,0):=by
 unfold unW
 rw[aT,aT,ay]
 cases pcs[c]? <;> rfl
theorem jFV {w:Int}{ms:List Int}{pcs:List (List Int×Int)}(g:Good 16 32 w ms pcs):Good 16 32 w ms (unW pcs):=⟨g.w0,g.w1,g.mr,by rw[jC6]; exact g.pl,fun pc hpc=>by
 obtain⟨p,hp,rfl⟩:=bw.mp hpc
 exact⟨(g.pg p hp).lot,by show (-1000000000000:Int)<=0; decide,by show (0:Int)<=1000000000000; decide⟩⟩
abbrev bxU (w:Int)(ms:List Int)(pcs:List (List Int×Int)):Sx.Bx:=bxO w ms (unW pcs) 1
section
variable {P:Program}{w:World}{K:W.Frag}{mg:Str->Option Value}{base:Heap}
variable {f fB fR:Addr}{fdB fdR:FuncData}{cdv:Value}{A:Around}{outer:List Env}{s:Shared}{H0:Hp}{E:XK}
abbrev jCG:List Str:=["box","unweighed","told"]
theorem scShares:FnScope jCG ["box"] (j7 yB):=⟨rfl,rfl,rfl,by decide+kernel,rfl,by decide+kernel,by decide+kernel⟩
def shaA (T:Txt mg)(CB:Can P w K mg base "balanced" 3 fB fdB ["box","lack"] spBal)(CF:Can P w K mg base "fraction_of" 2 fR fdR ["top","bottom"] spFr)(hr:Room 3 (XOf jCG "shares" yB P w K mg base f cdv A outer s H0 E).A): { t:TS // JSs (XOf jCG "shares" yB P w K mg base f cdv A outer s H0 E) (jB yB) t} :=
 have nd:=scShares.nd
 ⟨_,(j8 (jG (i:=1) nd rfl lL (yC (j0 (jE jK (jv 0 rfl vL) (j6) jD) (j0 (jE jK (jv 0 rfl vL) (j6) jD) (j0 (kB jA0 gD T.tuple (by decide+kernel) (j0 (kS (m:=[none]) (Nc:=["piece"]) rfl (yN (jE jK (jv 0 rfl vL) (j6) jD)) rfl (by decide+kernel) (by decide+kernel) (kE (psc:=j7 yB) (by decide+kernel)) (jH (N:=jCG) rfl rfl (by decide+kernel)) (fun cl C fp s H=>jL (i:=0) (show (["piece"]:List Str).Nodup by decide+kernel) rfl (yD (by decide+kernel))) (fun cl C fp s H=>kN) (fun cl C fp s H=>(yC (j0 (jE jAM (jv 0 rfl (kG (by decide+kernel))) (j6) jD) (j0 (j6) j5 jF) jM))) yR) j5 jS) jS) j5 jZ) jM) jM)) jLB)
   (j8 (jG (i:=2) nd rfl (yU (by decide+kernel)) (CB.je (hr.mono (by decide)) gD (j0 (jv 1 rfl vL) (j0 (j6) j5 jF) j3) j3) jP)
   (j8 (yE (jJ op_gt (jI (jES rfl) gD T.sum (by decide+kernel) (j0 (jE jK (jv 2 rfl vC) (j6) jD) j5 jM) jM) (j6) (jO _)) (jC (jX (yC (j0 (jGK) (j0 (kB jA0 gD T.tuple (by decide+kernel) (j0 (jE jK (jv 2 rfl vC) (j6) jD) j5 jM) jM) j5 jZ) jF)))) kO)
   (jC (jX (yC (j0 (jGK) (j0 (kB jA0 gD T.tuple (by decide+kernel) (j0 (kS (m:=[none,some 2]) (Nc:=["part","told"]) rfl (jFM (jE jK (jv 2 rfl vC) (j6) jD)) rfl (by decide+kernel) (by decide+kernel) (kE (psc:=j7 yB) (by decide+kernel)) (jH (N:=jCG) rfl rfl (by decide+kernel)) (fun cl C fp s H=>jL (i:=0) (show (["part","told"]:List Str).Nodup by decide+kernel) rfl (yD (by decide+kernel))) (fun cl C fp s H=>kN) (fun cl C fp s H=>(CF.je (hr.mono (by decide)) (gl_b (by decide+kernel)) (j0 (jv 0 rfl (kG (by decide+kernel))) (j0 (jE jAM (jv 1 rfl (kL (by decide+kernel))) (j6) jD) j5 jM) j3) j3)) yR) j5 jS) jS) j5 jZ) jF)))))))⟩
def frX (B:Sx.Bx)(b:Nat->Nat):List (Int×Int):=(xL B b).map fun x=>nrm (x,B.P.D b)
def jDB:Sp:=fun vs H Q _=>∃ (x:Addr) (w:Int) (ms:List Int) (pcs:List (List Int×Int)),vs=[.ref x]/\BoxAt H x w ms pcs/\Good 16 32 w ms pcs/\
 ∀ b,OptB (bxU w ms pcs) b->(0<(yL ms 1 (bxU w ms pcs) b).sum->∀ r ty H',H' r=some (.tup [.str "against", .ref ty])->H' ty=some (.tup ((yL ms 1 (bxU w ms pcs) b).map V.int))->Ext H H'->Q (.ref r) H')/\
  (¬ 0<(yL ms 1 (bxU w ms pcs) b).sum->∀ r tx us H',H' r=some (.tup [.str "shares", .ref tx])->H' tx=some (.tup us)->FrsAt H' us (frX (bxU w ms pcs) b)->Ext H H'->Q (.ref r) H')
theorem jIN {fd:FuncData}(F:Fun K "shares" "shares" yB f fd)(T:Txt mg)(CB:Can P w K mg base "balanced" 3 fB fdB ["box","lack"] spBal)(CF:Can P w K mg base "fraction_of" 2 fR fdR ["top","bottom"] spFr):FnOk P w K mg base CX0 4 f fd ["box"] jDB:=by
 refine F.ok scShares (fun vs H Q E h=>?_) (fun cdv A outer s H vs Q E hr h=>?_)
 ·obtain⟨_,_,_,_,rfl,_⟩:=h
  rfl
 ·obtain⟨x,wi,ms,pcs,rfl,hB,g,q⟩:=h
  refine⟨_,(shaA T CB CF hr).2.h,?_⟩
  obtain⟨qm,qp,ps,b1,b2,b3,b4⟩:=id hB.ex
  have pl:=b4.len
  have gpl:=g.pl
  have w0:=g.w0
  have w1:=g.w1
  refine⟨_,rfl,x,_,0,_,rfl,rfl,SqT.of b1,rfl,?_⟩
  refine⟨_,rfl,x,_,1,_,rfl,rfl,SqT.of b1,rfl,?_⟩
  refine⟨_,rfl,x,_,2,_,rfl,rfl,SqT.of b1,rfl,qp,rfl,⟨_,SqT.of b3⟩,jA8 (xs:=ps) (fun σ=>∃ v,σ=[v]) (fun H' zs i=>PcsAt H' zs ((unW pcs).take i)) ⟨fun H=>trivial,fun H H' zs i tu hz=>hz.mono tu,fun H zs i hz=>?_⟩ b3 (by rw[aj]; omega) ⟨_,rfl⟩ ?_ ?_⟩
  ·rw[hz.len]; exact bY _ _
  ·rintro j y σ' H' zs hy ⟨v,rfl⟩ e hz S1 S2 yes no
   have hj:j<pcs.length:=by
    rw[<- pl]
    exact(ar.mp hy).1
   obtain⟨y',hy',pa,pq,rfl,c1,c2⟩:=b4.get hj
   rw[hy] at hy'
   cases hy'
   dsimp only [kJ,yA]
   rw[ah rfl]
   refine⟨_,rfl,pa,_,0,_,rfl,rfl,SqT.of (e _ _ c1),rfl,by show (2:Nat)<=_; decide,fun r2 H2 d2 e2=>yes _ _ _ ⟨_,rfl⟩ e2 ?_⟩
   have gj:(unW pcs)[j]?=some ((pcs.getD j ([],0)).1,0):=by
    have:=jLX (pcs:=pcs) (c:=j)
    rw[aT,aL (by rw[jC6]; exact hj)] at this
    rw[aL (by rw[jC6]; exact hj)]
    exact bo some this
   show PcsAt _ _ _
   rw[bv,gj]
   exact PcsAt.snoc (p:=((pcs.getD j ([],0)).1,0)) ⟨r2,pq,rfl,d2,e2 _ _ (e _ _ c2)⟩ (hz.mono e2.tups)
  rintro l1 H1 zs d1 e1 n1 hz
  have hz:PcsAt H1 zs (unW pcs):=by
   have:(unW pcs).take ps.length=unW pcs:=bm (by rw[jC6,pl]; exact af _)
   rw[<- this]
   exact hz
  refine⟨l1,_,rfl, .inl ⟨SqL.of d1,fun r2 h2=>?_⟩⟩
  have e2:Ext H1 (L2.upd H1 r2 (.tup zs)):=(Ext.refl _).new h2 _
  have d2:(L2.upd H1 r2 (.tup zs)) r2=some (.tup zs):=j4
  generalize L2.upd H1 r2 (.tup zs)=H2 at e2 d2
  refine⟨by show (3:Nat)<=_; decide,fun u3 H3 d3 e3=>?_⟩
  have E3:=(e1.trans e2).trans e3
  have hB3:BoxAt H3 u3 wi ms (unW pcs):=⟨qm,r2,zs,d3,E3 _ _ b2,e3 _ _ d2,hz.mono (e2.trans e3).tups⟩
  refine⟨_,rfl,u3,wi,1,ms,unW pcs,rfl,hB3,jFV g,by decide,fun b r4 lp ly H4 op d4 x4 y4 e4=>?_⟩
  obtain⟨qa,qs⟩:=q b op
  have E4:=E3.trans e4
  refine⟨_,rfl,r4,_,1,_,rfl,rfl,SqT.of d4,rfl,ly,_,rfl,SqL.of y4,_,_,rfl,rfl,_,rfl,ite2 (fun h=>?_) (fun h=>?_)⟩
  ·have h:0<(yL ms 1 (bxU wi ms pcs) b).sum:=az h
   refine⟨_,rfl,r4,_,1,_,rfl,rfl,SqT.of d4,rfl,ly,_,rfl, .inl ⟨SqL.of y4,fun r5 h5=>?_⟩⟩
   have e5:Ext H4 (L2.upd H4 r5 (.tup ((yL ms 1 (bxU wi ms pcs) b).map V.int))):=(Ext.refl _).new h5 _
   have d5:(L2.upd H4 r5 (.tup ((yL ms 1 (bxU wi ms pcs) b).map V.int))) r5=some (.tup ((yL ms 1 (bxU wi ms pcs) b).map V.int)):=j4
   generalize L2.upd H4 r5 (.tup ((yL ms 1 (bxU wi ms pcs) b).map V.int))=H5 at e5 d5
   exact⟨by show (2:Nat)<=_; decide,fun r6 H6 d6 e6=>qa h r6 r5 H6 d6 (e6 _ _ d5) ((E4.trans e5).trans e6)⟩
  ·have h:¬ 0<(yL ms 1 (bxU wi ms pcs) b).sum:=fun z=>h (aG z)
   have xl:(xL (bxU wi ms pcs) b).length=pcs.length:=by
    unfold xL
    rw[ab,ao]
    exact jC6 pcs
   refine⟨_,rfl,r4,_,0,_,rfl,rfl,SqT.of d4,rfl,lp,rfl,⟨_,SqL.of x4⟩,jGT (xs:=(xL (bxU wi ms pcs) b).map V.int) (fun σ=>∃ v,σ=[v,some (.ref r4)]) (fun H' zs i=>FrsAt H' zs ((frX (bxU wi ms pcs) b).take i)) ⟨fun H=>?_,fun H H' zs i tu hz=>?_,fun H zs i hz=>?_⟩ x4 (by rw[aj,ab]; omega) ⟨_,rfl⟩ ?_ ?_⟩
   ·trivial
   ·exact FrsAt.mono tu hz
   ·rw[hz.len]; exact bY _ _
   ·rintro j y σ' H' zs hy ⟨v,rfl⟩ e hz S1 S2 yes no
    obtain⟨z,hz',rfl⟩:=int_at hy
    dsimp only [kJ,yA]
    rw[ah rfl]
    have bD:=(bxO_T (jFV g) (by decide:(1:Int).natAbs<2 ^ 200) b).2
    refine⟨_,rfl,_,rfl,r4,_,2,_,rfl,rfl,SqT.of (e _ _ d4),rfl,z,_,rfl,op.v.d,bD,fun r5 H5 d5 e5=>yes _ _ _ ⟨_,rfl⟩ e5 ?_⟩
    have gj:(frX (bxU wi ms pcs) b)[j]?=some (nrm (z,(bxU wi ms pcs).P.D b)):=by
     unfold frX
     rw[ay,hz']
     rfl
    show FrsAt _ _ _
    rw[bv,gj]
    exact FrsAt.snoc ⟨r5,rfl,d5⟩ (hz.mono e5.tups)
   ·rintro l5 H5 zs5 d5 e5 n5 hz
    have hz:FrsAt H5 zs5 (frX (bxU wi ms pcs) b):=by
     have:(frX (bxU wi ms pcs) b).take ((xL (bxU wi ms pcs) b).map V.int).length=frX (bxU wi ms pcs) b:=bm (by unfold frX; rw[ab,ab]; exact af _)
     rw[<- this]
     exact hz
    refine⟨l5,_,rfl, .inl ⟨SqL.of d5,fun r6 h6=>?_⟩⟩
    have e6:Ext H5 (L2.upd H5 r6 (.tup zs5)):=(Ext.refl _).new h6 _
    have d6:(L2.upd H5 r6 (.tup zs5)) r6=some (.tup zs5):=j4
    generalize L2.upd H5 r6 (.tup zs5)=H6 at e6 d6
    exact⟨by show (2:Nat)<=_; decide,fun r7 H7 d7 e7=>qs h r7 r6 zs5 H7 d7 (e7 _ _ d6) (hz.mono (e6.trans e7).tups) (((E4.trans e5).trans e6).trans e7)⟩
end
def yAt (ys:List Int)(t:Int):Int:=ys.getD t.toNat 0
def spkY (ms:List Int)(pcs:List (List Int×Int))(ys:List Int):Bool:=!(ms.any fun m=>decide (0<yAt ys m))&&(decide (0<ys.sum)&&pcs.all fun p=>decide ((p.1.map (yAt ys)).sum<=0))
def spkB (w:Int)(ms:List Int)(pcs:List (List Int×Int)):Ob->Bool
 | .tup os=>decide ((os.length:Int)=w)&&(os.all isInt&&spkY ms pcs (os.map val))
 | _=>false
def wlsB:Ob->Bool
 | .tup os=>os.all isInt
 | _=>false
section
variable {P:Program}{w:World}{K:W.Frag}{mg:Str->Option Value}{base:Heap}
variable {f fW:Addr}{fdW:FuncData}{cdv:Value}{A:Around}{outer:List Env}{s:Shared}{H0:Hp}{E:XK}
noncomputable abbrev nSpk:List Str:=["box","thing"]
theorem scSpk:FnScope nSpk ["box","thing"] (j7 sSpk):=⟨rfl,rfl,rfl,by decide+kernel,rfl,by decide+kernel,by decide+kernel⟩
abbrev XSpk (P:Program)(w:World)(K:W.Frag)(mg:Str->Option Value)(base:Heap)(f:Addr)(cdv:Value)(A:Around)(outer:List Env)(s:Shared)(H:Hp)(E:XK):Cx:=XOf nSpk "speaks_against" sSpk P w K mg base f cdv A outer s H E
def spkRA (T:Txt mg)(hr:Room 1 (XSpk P w K mg base f cdv A outer s H0 E).A): { t:TS // JSs (XSpk P w K mg base f cdv A outer s H0 E) ((jB sSpk).drop 1) t} :=
 have nd:=scSpk.nd
 ⟨_,(j8 (yE (jCI (jI (jBJ rfl) gD T.any (by decide+kernel) (j0 (kS (m:=[none,some 1]) (Nc:=["may","thing"]) rfl (yN (jE jK (jv 0 rfl vL) (j6) jD)) rfl (by decide+kernel) (by decide+kernel) (kE (psc:=j7 sSpk) (by decide+kernel)) (jH (N:=nSpk) rfl rfl (by decide+kernel)) (fun cl C fp s H=>jL (i:=0) (show (["may","thing"]:List Str).Nodup by decide+kernel) rfl (yD (by decide+kernel))) (fun cl C fp s H=>kN) (fun cl C fp s H=>(jAL op_gt (jE jAM (jv 1 rfl (kL (by decide+kernel))) (jv 0 rfl (kG (by decide+kernel))) jT) (j6) (jO _))) yR) j5 jS) jS) jAZ) (jC (jX (je_bl))) kO)
   (jC (jX ((jEM (jAL op_gt (jI (jER rfl) gD T.sum (by decide+kernel) (j0 (jv 1 rfl vC) j5 j3) j3) (j6) (jO _)) (jEL (jI (jCU rfl) gD T.all (by decide+kernel) (j0 (kS (m:=[none,some 1]) (Nc:=["piece","thing"]) rfl (yN (jE jK (jv 0 rfl vL) (j6) jD)) rfl (by decide+kernel) (by decide+kernel) (kE (psc:=j7 sSpk) (by decide+kernel)) (jH (N:=nSpk) rfl rfl (by decide+kernel)) (fun cl C fp s H=>jL (i:=0) (show (["piece","thing"]:List Str).Nodup by decide+kernel) rfl (yD (by decide+kernel))) (fun cl C fp s H=>kN) (fun cl C fp s H=>(jAL op_le (jI (jCT rfl) (gl_b (by decide+kernel)) T.sum (by decide+kernel) (j0 (kS (m:=[none,some 1]) (Nc:=["one","thing"]) rfl (jGG (jE jAM (jv 0 rfl (kG (by decide+kernel))) (j6) jD)) rfl (by decide+kernel) (by decide+kernel) (jGN (by decide+kernel)) (jH (N:=["piece","thing"]) rfl rfl (by decide+kernel)) (fun cl C fp s H=>jL (i:=0) (show (["one","thing"]:List Str).Nodup by decide+kernel) rfl (yD (by decide+kernel))) (fun cl C fp s H=>kN) (fun cl C fp s H=>(jE jEO (jv 1 rfl (kL (by decide+kernel))) (jv 0 rfl (kG (by decide+kernel))) jT)) yR) j5 jS) jS) (j6) (jO _))) yR) j5 jS) jS)))))))⟩
def spkA (T:Txt mg)(CW:Can P w K mg base "is_whole" 1 fW fdW ["thing"] spWh)(hr:Room 1 (XSpk P w K mg base f cdv A outer s H0 E).A): { t:TS // JSs (XSpk P w K mg base f cdv A outer s H0 E) (jB sSpk) t} :=
 have nd:=scSpk.nd
 ⟨_,(j8 (yE (jt_w (jw_or (jEK (jCI (jI jA4 gD T.isinstance (by decide+kernel) (j0 (jv 1 rfl vC) (j0 (jB5 (v:= .ty "tuple") gD T.tuple (by decide+kernel) rfl) j5 j3) j3) j3) jAZ)) (jw_or (jJ op_ne (jI jA1 gD T.len (by decide+kernel) (j0 (jv 1 rfl vC) j5 j3) j3) (jE jK (jv 0 rfl vL) (j6) jD) (jO _)) (jEJ (jEK (jCI (jI (jCU rfl) gD T.all (by decide+kernel) (j0 (kS (m:=[none]) (Nc:=["number"]) rfl (yN (jv 1 rfl vC)) rfl (by decide+kernel) (by decide+kernel) (kE (psc:=j7 sSpk) (by decide+kernel)) (jH (N:=nSpk) rfl rfl (by decide+kernel)) (fun cl C fp s H=>jL (i:=0) (show (["number"]:List Str).Nodup by decide+kernel) rfl (yD (by decide+kernel))) (fun cl C fp s H=>kN) (fun cl C fp s H=>(CW.je (hr.mono (by decide)) (gl_b (by decide+kernel)) (j0 (jv 0 rfl (kG (by decide+kernel))) j5 j3) j3)) jDU) j5 jS) jS) jAZ)))))) (jC (jX (je_bl))) kO) (spkRA T hr).2)⟩
theorem jC4 {ys:List Int}{t:Int}{n:Nat}(h0:0<=t)(h1:t<n)(hl:ys.length=n):atI (ys.map V.int) t=some (.int (yAt ys t)):=by
 have e:((t.toNat:Nat):Int)=t:=by omega
 have:(ys.map V.int)[t.toNat]?=some (.int (yAt ys t)):=by
  rw[ay,aL (by omega)]
  unfold yAt
  rw[aT,aL (by omega)]
  rfl
 have:=y0 this
 rwa [e] at this
theorem jI5 (T:Txt mg)(hr:Room 1 (XSpk P w K mg base f cdv A outer s H0 E).A){D:Ends}{H:Hp}{b a:Addr}{wi:Int}{ms:List Int}{pcs:List (List Int×Int)}{ys:List Int}(hB:BoxAt H b wi ms pcs)(g:Good 16 32 wi ms pcs)(ha:H a=some (.tup (ys.map V.int)))(hy:ys.length=wi.toNat)(q:∀ H',Ext H H'->D.rt (.bl (spkY ms pcs ys)) H'):
  (spkRA T hr).1 D [some (.ref b),some (.ref a)] H:=by
 obtain⟨qm,qp,ps,b1,b2,b3,b4⟩:=id hB.ex
 have pl:=b4.len
 have gpl:=g.pl
 have w0:=g.w0
 have w1:=g.w1
 have ml:ms.length<=wi.toNat:=jBD wi.toNat ms (g.mr.ris.imp fun {x y} h=>by omega) fun t ht=>by have:=g.mr.bnd t ht; omega
 refine⟨_,rfl,b,_,1,_,rfl,rfl,SqT.of b1,rfl,qm,rfl,⟨_,SqT.of b2⟩,jA8 (xs:=ms.map V.int) (fun σ=>∃ v,σ=[v,some (.ref a)]) (mapZ ms fun m=>V.bl (decide (0<yAt ys m))) (mapZ.ok _ _) b2 (by rw[aj,ab]; omega) ⟨_,rfl⟩ ?_ ?_⟩
 ·rintro j x σ' H' zs hx ⟨v,rfl⟩ e hz S1 S2 yes no
  obtain⟨z,hz',rfl⟩:=int_at hx
  have zb:=g.mr.bnd z (bh hz')
  dsimp only [kJ,yA]
  rw[ah rfl]
  exact⟨_,rfl,_,rfl,a,_,z,_,rfl,rfl,SqT.of (e _ _ ha),jC4 zb.1 (by omega) hy,_,_,rfl,rfl,yes _ _ _ ⟨_,rfl⟩ (Ext.refl _) (hz.yes hz')⟩
 ·rintro l1 H1 zs d1 e1 n1 hz
  have hz:=hz.all (by rw[ab]; exact af _)
  have d1:H1 l1=some (.lst ((ms.map fun m=>decide (0<yAt ys m)).map V.bl)):=by rw[d1,hz,bc]; rfl
  refine⟨l1,_,rfl,SqL.of d1,_,rfl,ite2 (fun h=>?_) (fun h=>?_)⟩
  ·have e:spkY ms pcs ys=false:=by
    unfold spkY
    rw[cR] at h
    have h:(ms.any fun m=>decide (0<yAt ys m))=true:=h
    rw[h]
    rfl
   have:=q H1 e1
   rw[e] at this
   exact this
  ·rw[cR] at h
   have h:(ms.any fun m=>decide (0<yAt ys m))=false:=cq.mpr h
   have ey:spkY ms pcs ys=(decide (0<ys.sum)&&pcs.all fun p=>decide ((p.1.map (yAt ys)).sum<=0)):=by
    unfold spkY
    rw[h]
    rfl
   rw[ey] at q
   refine⟨_,rfl,a,_,rfl,SqT.of (e1 _ _ ha),_,_,rfl,rfl,_,rfl,ite2 (fun h2=>?_) (fun h2=>?_)⟩
   ·have h2:decide (0<ys.sum)=true:=h2
    rw[h2,dU] at q
    refine⟨_,rfl,b,_,2,_,rfl,rfl,SqT.of (e1 _ _ b1),rfl,qp,rfl,⟨_,SqT.of (e1 _ _ b3)⟩,jA8 (xs:=ps) (fun σ=>∃ v,σ=[v,some (.ref a)]) (mapZ pcs fun p=>V.bl (decide ((p.1.map (yAt ys)).sum<=0))) (mapZ.ok _ _) (e1 _ _ b3) (by rw[aj]; omega) ⟨_,rfl⟩ ?_ ?_⟩
    ·rintro j x σ' H' zs' hx ⟨v,rfl⟩ e hz' S1 S2 yes no
     have hj:j<pcs.length:=by
      rw[<- pl]
      exact(ar.mp hx).1
     obtain⟨x',hx',pa,pq,rfl,c1,c2⟩:=b4.get hj
     rw[hx] at hx'
     cases hx'
     have E1:=e1.trans e
     have gp:=(g.at hj).lot
     have pgj:pcs[j]?=some (pcs.getD j ([],0)):=by rw[aT,aL hj]; rfl
     have tl:(pcs.getD j ([],0)).1.length<=wi.toNat:=jBD wi.toNat _ (gp.ris.imp fun {x y} h=>by omega) fun t ht=>by have:=gp.bnd t ht; omega
     dsimp only [kJ,yA]
     rw[ah rfl]
     refine⟨_,rfl,pa,_,0,_,rfl,rfl,SqT.of (E1 _ _ c1),rfl,pq,rfl,⟨_,SqT.of (E1 _ _ c2)⟩,jA8 (xs:=(pcs.getD j ([],0)).1.map V.int) (fun σ=>∃ v,σ=[v,some (.ref a)]) (mapZ (pcs.getD j ([],0)).1 fun t=>V.int (yAt ys t)) (mapZ.ok _ _) (E1 _ _ c2) (by rw[aj,ab]; omega) ⟨_,rfl⟩ ?_ ?_⟩
     ·rintro j2 x2 σ2 H2 zs2 hx2 ⟨v2,rfl⟩ e2 hz2 S1' S2' yes2 no2
      obtain⟨z,hz',rfl⟩:=int_at hx2
      have zb:=gp.bnd z (bh hz')
      dsimp only [kJ,yA]
      rw[ah rfl]
      exact⟨_,rfl,_,rfl,a,_,z,_,rfl,rfl,SqT.of (e2 _ _ (E1 _ _ ha)),jC4 zb.1 (by omega) hy,yes2 _ _ _ ⟨_,rfl⟩ (Ext.refl _) (hz2.yes hz')⟩
     ·rintro l2 H2 zs2 d2 e2 n2 hz2
      have hz2:=hz2.all (by rw[ab]; exact af _)
      have d2:H2 l2=some (.lst (((pcs.getD j ([],0)).1.map (yAt ys)).map V.int)):=by rw[d2,hz2,bc]; rfl
      exact⟨l2,_,rfl,SqL.of d2,_,_,rfl,rfl,yes _ _ _ ⟨_,rfl⟩ e2 (hz'.yes pgj)⟩
    ·rintro l3 H3 zs3 d3 e3 n3 hz3
     have hz3:=hz3.all (by rw[pl]; exact af _)
     have d3:H3 l3=some (.lst ((pcs.map fun p=>decide ((p.1.map (yAt ys)).sum<=0)).map V.bl)):=by rw[d3,hz3,bc]; rfl
     refine⟨l3,_,rfl,SqL.of d3,?_⟩
     have:=q H3 (e1.trans e3)
     rw[all_map]
     exact this
   ·have h2:decide (0<ys.sum)=false:=cq.mpr h2
    have:=q H1 e1
    rw[h2] at this
    exact this
theorem jM0 {w:Int}{ms:List Int}{pcs:List (List Int×Int)}{o:Ob}(h:isTup o=false):spkB w ms pcs o=false:=by cases o <;> first | rfl | cases h
theorem jI3 {w:Int}{ms:List Int}{pcs:List (List Int×Int)}{os:List Ob}(h:¬ (os.length:Int)=w):spkB w ms pcs (.tup os)=false:=by
 show (decide _&&_)=false
 rw[aX h,bZ]
theorem jI4 {w:Int}{ms:List Int}{pcs:List (List Int×Int)}{os:List Ob}(h:os.all isInt=false):spkB w ms pcs (.tup os)=false:=by
 show (_&&(_&&_))=false
 rw[h,bZ,cP]
theorem jD9 {w:Int}{ms:List Int}{pcs:List (List Int×Int)}{os:List Ob}(h1:(os.length:Int)=w)(h2:os.all isInt=true):spkB w ms pcs (.tup os)=spkY ms pcs (os.map val):=by
 show (decide _&&(_&&_))=_
 rw[aG h1,h2,dU,dU]
theorem jDZ {H:Hp} :∀ {os:List Ob}{vs:List V},Ats H os vs->os.all isInt=true->vs=(os.map val).map V.int
 | [],vs,h,_=>h
 | o::os,vs,h,q=>by
  obtain⟨v,r,rfl,e1,e2⟩:=h
  rw[e9,bp] at q
  rw[jDZ e2 q.2]
  cases o with
  | int i=>rw[show v= .int i from e1]; rfl
  | oth=>cases q.1
  | tup _=>cases q.1
def spSpk:Sp:=fun vs H Q _=>∃ (b:Addr) (v:V) (o:Ob) (w:Int) (ms:List Int) (pcs:List (List Int×Int)),vs=[.ref b,v]/\BoxAt H b w ms pcs/\Good 16 32 w ms pcs/\At H o v/\∀ H',Ext H H'->Q (.bl (spkB w ms pcs o)) H'
theorem jO5 {fd:FuncData}(F:Fun K "speaks_against" "speaks_against" sSpk f fd)(T:Txt mg)(CW:Can P w K mg base "is_whole" 1 fW fdW ["thing"] spWh):FnOk P w K mg base CX0 2 f fd ["box","thing"] spSpk:=by
 refine F.ok scSpk (fun vs H Q E h=>?_) (fun cdv A outer s H vs Q E hr h=>?_)
 ·obtain⟨_,_,_,_,_,_,rfl,_⟩:=h
  rfl
 ·obtain⟨b,v,o,wi,ms,pcs,rfl,hB,g,hA,q⟩:=h
  obtain⟨qm,qp,ps,b1,b2,b3,b4⟩:=id hB.ex
  have w0:=g.w0
  obtain⟨t,ty,kt,_⟩:=hA.ty K
  refine⟨_,(spkA T CW hr).2.h,?_⟩
  refine⟨_,rfl,_,_,_,_,rfl,ty,kt,_,rfl,?_⟩
  cases ht:isTup o with
  | false=>exact iteT (iteT (qb (q H (Ext.refl H)) (jM0 ht)))
  | true=>
   refine iteF ?_
   obtain⟨os,a,vs,rfl,rfl,ha,h100,hx⟩:=hA.tupOf ht
   have hl:=hx.len
   have hn:vs.length<sizeLine:=by rw[aj]; omega
   refine⟨_,rfl,a,_,rfl, .inr (SqT.of ha),_,rfl,b,_,0,_,rfl,rfl,SqT.of b1,rfl,rfl,_,rfl,?_⟩
   by_cases hle:((vs.length:Nat):Int)=wi
   ·refine iteNS (by rw[hle]) ?_
    refine⟨_,rfl,a,rfl,⟨_,SqT.of ha⟩,jEQ (F:=isInt) ha hx hn (fun σ'=>∃ v,σ'=[v]) ⟨_,rfl⟩ ?_ ?_⟩
    ·rintro σ' H' v o R S ⟨u,rfl⟩ e hA k
     dsimp only [kJ,yA]
     rw[ah rfl]
     exact⟨_,rfl,v,o,rfl,hA,k [some v] H' ⟨_,rfl⟩ (Ext.refl _)⟩
    ·intro D H1 e1 hD
     refine⟨D,_,rfl,SqL.of hD,_,rfl,?_⟩
     rw[jLU]
     cases hall:os.all isInt with
     | false=>exact iteT (qb (q H1 e1) (jI4 hall))
     | true=>
      refine iteF ?_
      have ev:=jDZ hx hall
      rw[ev] at ha
      refine jI5 T hr (hB.mono e1.tups) g (e1 _ _ ha) ?_ fun H2 e2=>?_
      ·rw[ab]; omega
      ·exact qb (q H2 (e1.trans e2)) (jD9 (by omega) hall)
   ·have hb:(!decide (V.int ((vs.length:Nat):Int)=V.int wi))=true:=by
     rw[aX (fun z=>hle (by injection z))]
     rfl
    exact ite2 (fun _=>iteT (qb (q H (Ext.refl H)) (jI3 (by omega)))) (fun hn=>absurd hb hn)
noncomputable abbrev nLSpk:List Str:=["box","thing"]
theorem scLSpk:FnScope nLSpk ["box","thing"] (j7 yV):=⟨rfl,rfl,rfl,by decide+kernel,rfl,by decide+kernel,by decide+kernel⟩
abbrev XLSpk (P:Program)(w:World)(K:W.Frag)(mg:Str->Option Value)(base:Heap)(f:Addr)(cdv:Value)(A:Around)(outer:List Env)(s:Shared)(H:Hp)(E:XK):Cx:=XOf nLSpk "_law_speaks" yV P w K mg base f cdv A outer s H E
def jLN (T:Txt mg)(hr:Room 2 (XLSpk P w K mg base f cdv A outer s H0 E).A): { t:TS // JSs (XLSpk P w K mg base f cdv A outer s H0 E) ((jB yV).drop 1) t} :=
 have nd:=scLSpk.nd
 ⟨_,(j8 (yE (jCI (jI (jBJ rfl) gD T.any (by decide+kernel) (j0 (kS (m:=[none,some 1]) (Nc:=["may","thing"]) rfl (yN (jE jK (jv 0 rfl vL) (j6) jD)) rfl (by decide+kernel) (by decide+kernel) (kE (psc:=j7 yV) (by decide+kernel)) (jH (N:=nLSpk) rfl rfl (by decide+kernel)) (fun cl C fp s H=>jL (i:=0) (show (["may","thing"]:List Str).Nodup by decide+kernel) rfl (yD (by decide+kernel))) (fun cl C fp s H=>kN) (fun cl C fp s H=>(jAL op_gt (jE jAM (jv 1 rfl (kL (by decide+kernel))) (jv 0 rfl (kG (by decide+kernel))) jT) (j6) (jO _))) yR) j5 jS) jS) jAZ) (jC (jX (je_bl))) kO)
   (jC (jX (jJ4 (jI (jBJ rfl) gD T.any (by decide+kernel) (j0 (kS (m:=[none,none,some 1]) (Nc:=["things","weight","thing"]) rfl (yN (jE jK (jv 0 rfl vL) (j6) jD)) rfl (by decide+kernel) (by decide+kernel) (kE (psc:=j7 yV) (by decide+kernel)) (jH (N:=nLSpk) rfl rfl (by decide+kernel)) (fun cl C fp s H=>jCM (i:=0) (j:=1) rfl (show (["things","weight","thing"]:List Str).Nodup by decide+kernel) rfl rfl (by decide+kernel) (by decide+kernel)) (fun cl C fp s H=>kN) (fun cl C fp s H=>(jAL op_gt (jI (jCT rfl) (gl_b (by decide+kernel)) T.sum (by decide+kernel) (j0 (kS (m:=[none,some 2]) (Nc:=["t","thing"]) rfl (jGG (jv 0 rfl (kG (by decide+kernel)))) rfl (by decide+kernel) (by decide+kernel) (jGN (by decide+kernel)) (jH (N:=["things","weight","thing"]) rfl rfl (by decide+kernel)) (fun cl C fp s H=>jL (i:=0) (show (["t","thing"]:List Str).Nodup by decide+kernel) rfl (yD (by decide+kernel))) (fun cl C fp s H=>kN) (fun cl C fp s H=>(jE jEO (jv 1 rfl (kL (by decide+kernel))) (jv 0 rfl (kG (by decide+kernel))) jT)) jDU) j5 jS) jS) (j6) (jO _))) yR) j5 jS) jS)))))⟩
def lspkA (T:Txt mg)(CW:Can P w K mg base "_law_wholes" 2 fW fdW ["found"] (spB wlsB))(hr:Room 2 (XLSpk P w K mg base f cdv A outer s H0 E).A): { t:TS // JSs (XLSpk P w K mg base f cdv A outer s H0 E) (jB yV) t} :=
 have nd:=scLSpk.nd
 ⟨_,(j8 (yE (jt_w (jw_or (jEK (jCI (CW.je (hr.mono (by decide)) gD (j0 (jv 1 rfl vC) j5 j3) j3) jAZ)) (jw_or (jJ op_ne (jI jA1 gD T.len (by decide+kernel) (j0 (jv 1 rfl vC) j5 j3) j3) (jE jK (jv 0 rfl vL) (j6) jD) (jO _)) (jEJ (jJ op_le (jI (jER rfl) gD T.sum (by decide+kernel) (j0 (jv 1 rfl vC) j5 j3) j3) (j6) (jO _)))))) (jC (jX (je_bl))) kO) (jLN T hr).2)⟩
theorem jKD {ms:List Int}{pcs:List (List Int×Int)}{ys:List Int}(h:0<ys.sum):spkY ms pcs ys=(!(ms.any fun m=>decide (0<yAt ys m))&&!(pcs.any fun p=>decide (0<(p.1.map (yAt ys)).sum))):=by
 unfold spkY
 rw[aG h,dU]
 congr 1
 rw[List.not_any_eq_all_not]
 congr 1
 funext p
 by_cases z:(p.1.map (yAt ys)).sum<=0
 ·rw[aG z,aX (by omega)]; rfl
 ·rw[aX z,aG (by omega)]; rfl
theorem jHC (T:Txt mg)(hr:Room 2 (XLSpk P w K mg base f cdv A outer s H0 E).A){D:Ends}{H:Hp}{b a:Addr}{wi:Int}{ms:List Int}{pcs:List (List Int×Int)}{ys:List Int}(hB:BoxAt H b wi ms pcs)(g:Good 16 32 wi ms pcs)(ha:H a=some (.tup (ys.map V.int)))(hy:ys.length=wi.toNat)(hs:0<ys.sum)(q:∀ H',Ext H H'->D.rt (.bl (spkY ms pcs ys)) H'):
  (jLN T hr).1 D [some (.ref b),some (.ref a)] H:=by
 obtain⟨qm,qp,ps,b1,b2,b3,b4⟩:=id hB.ex
 have pl:=b4.len
 have gpl:=g.pl
 have w0:=g.w0
 have w1:=g.w1
 have ml:ms.length<=wi.toNat:=jBD wi.toNat ms (g.mr.ris.imp fun {x y} h=>by omega) fun t ht=>by have:=g.mr.bnd t ht; omega
 rw[jKD hs] at q
 refine⟨_,rfl,b,_,1,_,rfl,rfl,SqT.of b1,rfl,qm,rfl,⟨_,SqT.of b2⟩,jA8 (xs:=ms.map V.int) (fun σ=>∃ v,σ=[v,some (.ref a)]) (mapZ ms fun m=>V.bl (decide (0<yAt ys m))) (mapZ.ok _ _) b2 (by rw[aj,ab]; omega) ⟨_,rfl⟩ ?_ ?_⟩
 ·rintro j x σ' H' zs hx ⟨v,rfl⟩ e hz S1 S2 yes no
  obtain⟨z,hz',rfl⟩:=int_at hx
  have zb:=g.mr.bnd z (bh hz')
  dsimp only [kJ,yA]
  rw[ah rfl]
  exact⟨_,rfl,_,rfl,a,_,z,_,rfl,rfl,SqT.of (e _ _ ha),jC4 zb.1 (by omega) hy,_,_,rfl,rfl,yes _ _ _ ⟨_,rfl⟩ (Ext.refl _) (hz.yes hz')⟩
 ·rintro l1 H1 zs d1 e1 n1 hz
  have hz:=hz.all (by rw[ab]; exact af _)
  have d1:H1 l1=some (.lst ((ms.map fun m=>decide (0<yAt ys m)).map V.bl)):=by rw[d1,hz,bc]; rfl
  refine⟨l1,_,rfl,SqL.of d1,_,rfl,ite2 (fun h=>?_) (fun h=>?_)⟩
  ·rw[cR] at h
   have h:(ms.any fun m=>decide (0<yAt ys m))=true:=h
   have:=q H1 e1
   rw[h] at this
   exact this
  ·rw[cR] at h
   have h:(ms.any fun m=>decide (0<yAt ys m))=false:=cq.mpr h
   rw[h] at q
   refine⟨_,rfl,b,_,2,_,rfl,rfl,SqT.of (e1 _ _ b1),rfl,qp,rfl,⟨_,SqT.of (e1 _ _ b3)⟩,jA8 (xs:=ps) (fun σ=>∃ v v',σ=[v,v',some (.ref a)]) (mapZ pcs fun p=>V.bl (decide (0<(p.1.map (yAt ys)).sum))) (mapZ.ok _ _) (e1 _ _ b3) (by rw[aj]; omega) ⟨_,_,rfl⟩ ?_ ?_⟩
   ·rintro j x σ' H' zs' hx ⟨v,v',rfl⟩ e hz' S1 S2 yes no
    have hj:j<pcs.length:=by
     rw[<- pl]
     exact(ar.mp hx).1
    obtain⟨x',hx',pa,pq,rfl,c1,c2⟩:=b4.get hj
    rw[hx] at hx'
    cases hx'
    have E1:=e1.trans e
    have gp:=(g.at hj).lot
    have pgj:pcs[j]?=some (pcs.getD j ([],0)):=by rw[aT,aL hj]; rfl
    have tl:(pcs.getD j ([],0)).1.length<=wi.toNat:=jBD wi.toNat _ (gp.ris.imp fun {x y} h=>by omega) fun t ht=>by have:=gp.bnd t ht; omega
    refine⟨pa,_,rfl,SqT.of (E1 _ _ c1),rfl,_,_,rfl,_,_,rfl,rfl,?_⟩
    dsimp only [yA]
    rw[ah rfl]
    refine⟨_,rfl,pq,rfl,⟨_,SqT.of (E1 _ _ c2)⟩,jA8 (xs:=(pcs.getD j ([],0)).1.map V.int) (fun σ=>∃ v,σ=[v,some (.ref a)]) (mapZ (pcs.getD j ([],0)).1 fun t=>V.int (yAt ys t)) (mapZ.ok _ _) (E1 _ _ c2) (by rw[aj,ab]; omega) ⟨_,rfl⟩ ?_ ?_⟩
    ·rintro j2 x2 σ2 H2 zs2 hx2 ⟨v2,rfl⟩ e2 hz2 S1' S2' yes2 no2
     obtain⟨z,hz',rfl⟩:=int_at hx2
     have zb:=gp.bnd z (bh hz')
     dsimp only [kJ,yA]
     rw[ah rfl]
     exact⟨_,rfl,_,rfl,a,_,z,_,rfl,rfl,SqT.of (e2 _ _ (E1 _ _ ha)),jC4 zb.1 (by omega) hy,yes2 _ _ _ ⟨_,rfl⟩ (Ext.refl _) (hz2.yes hz')⟩
    ·rintro l2 H2 zs2 d2 e2 n2 hz2
     have hz2:=hz2.all (by rw[ab]; exact af _)
     have d2:H2 l2=some (.lst (((pcs.getD j ([],0)).1.map (yAt ys)).map V.int)):=by rw[d2,hz2,bc]; rfl
     exact⟨l2,_,rfl,SqL.of d2,_,_,rfl,rfl,yes _ _ _ ⟨_,_,rfl⟩ e2 (hz'.yes pgj)⟩
   ·rintro l3 H3 zs3 d3 e3 n3 hz3
    have hz3:=hz3.all (by rw[pl]; exact af _)
    have d3:H3 l3=some (.lst ((pcs.map fun p=>decide (0<(p.1.map (yAt ys)).sum)).map V.bl)):=by rw[d3,hz3,bc]; rfl
    refine⟨l3,_,rfl,SqL.of d3,?_⟩
    have:=q H3 (e1.trans e3)
    rw[cR]
    exact⟨_,rfl,this⟩
theorem jMS {fd:FuncData}(F:Fun K "_law_speaks" "_law_speaks" yV f fd)(T:Txt mg)(CW:Can P w K mg base "_law_wholes" 2 fW fdW ["found"] (spB wlsB)):FnOk P w K mg base CX0 3 f fd ["box","thing"] spSpk:=by
 refine F.ok scLSpk (fun vs H Q E h=>?_) (fun cdv A outer s H vs Q E hr h=>?_)
 ·obtain⟨_,_,_,_,_,_,rfl,_⟩:=h
  rfl
 ·obtain⟨b,v,o,wi,ms,pcs,rfl,hB,g,hA,q⟩:=h
  have w0:=g.w0
  refine⟨_,(lspkA T CW hr).2.h,?_⟩
  refine⟨_,rfl,v,o,rfl,hA,fun H1 e1=>?_⟩
  obtain⟨qm,qp,ps,b1,b2,b3,b4⟩:=id (hB.mono e1.tups).ex
  refine⟨_,rfl,?_⟩
  cases hw:wlsB o with
  | false=>
   have e:spkB wi ms pcs o=false:=by
    cases o with
    | int _=>rfl
    | oth=>rfl
    | tup os=>exact jI4 hw
   exact iteT (iteT (qb (q H1 e1) e))
  | true=>
   refine iteF ?_
   have ht:isTup o=true:=by cases o <;> first | rfl | cases hw
   obtain⟨os,a,vs,rfl,rfl,ha,h100,hx⟩:=hA.tupOf ht
   have hall:os.all isInt=true:=hw
   have hl:=hx.len
   have ha:=e1 _ _ ha
   refine⟨_,rfl,a,_,rfl, .inr (SqT.of ha),_,rfl,b,_,0,_,rfl,rfl,SqT.of b1,rfl,rfl,_,rfl,?_⟩
   by_cases hle:((vs.length:Nat):Int)=wi
   ·refine iteNS (by rw[hle]) ?_
    have ev:=jDZ hx hall
    rw[ev] at ha
    refine⟨_,rfl,a,_,rfl,SqT.of ha,_,_,rfl,rfl,_,rfl,ite2 (fun h=>?_) (fun h=>?_)⟩
    ·have h:(os.map val).sum<=0:=az h
     have e:spkY ms pcs (os.map val)=false:=by
      unfold spkY
      rw[aX (by omega:¬ 0<(os.map val).sum),bZ,cP]
     exact qb (q H1 e1) ((jD9 (by omega) hall).trans e)
    ·have h:¬ (os.map val).sum<=0:=fun z=>h (aG z)
     refine jHC T hr (hB.mono e1.tups) g ha ?_ (by omega) fun H2 e2=>?_
     ·rw[ab]; omega
     ·exact qb (q H2 (e1.trans e2)) (jD9 (by omega) hall)
   ·have hb:(!decide (V.int ((vs.length:Nat):Int)=V.int wi))=true:=by
     rw[aX (fun z=>hle (by injection z))]
     rfl
    exact ite2 (fun _=>iteT (qb (q H1 e1) (jI3 (by omega)))) (fun hn=>absurd hb hn)
abbrev jDO:List Str:=["found"]
theorem scWholes:FnScope jDO ["found"] (j7 yF):=⟨rfl,rfl,rfl,by decide+kernel,rfl,by decide+kernel,by decide+kernel⟩
def wlsA (T:Txt mg)(CW:Can P w K mg base "_law_whole" 1 fW fdW ["found"] spWh)(hr:Room 1 (XOf jDO "_law_wholes" yF P w K mg base f cdv A outer s H0 E).A): { t:TS // JSs (XOf jDO "_law_wholes" yF P w K mg base f cdv A outer s H0 E) (jB yF) t} :=
 have nd:=scWholes.nd
 ⟨_,(jC (jX ((jEM (jI jA4 gD T.isinstance (by decide+kernel) (j0 (jv 0 rfl vL) (j0 (jB5 (v:= .ty "tuple") gD T.tuple (by decide+kernel) rfl) j5 j3) j3) j3) (jEL (jI (jCU rfl) gD T.all (by decide+kernel) (j0 (kS (m:=[none]) (Nc:=["one"]) rfl (yN (jv 0 rfl vL)) rfl (by decide+kernel) (by decide+kernel) (kE (psc:=j7 yF) (by decide+kernel)) (jH (N:=jDO) rfl rfl (by decide+kernel)) (fun cl C fp s H=>jL (i:=0) (show (["one"]:List Str).Nodup by decide+kernel) rfl (yD (by decide+kernel))) (fun cl C fp s H=>kN) (fun cl C fp s H=>(CW.je (hr.mono (by decide)) (gl_b (by decide+kernel)) (j0 (jv 0 rfl (kG (by decide+kernel))) j5 j3) j3)) jDU) j5 jS) jS))))))⟩
theorem jO3 {fd:FuncData}(F:Fun K "_law_wholes" "_law_wholes" yF f fd)(T:Txt mg)(CW:Can P w K mg base "_law_whole" 1 fW fdW ["found"] spWh):FnOk P w K mg base CX0 2 f fd ["found"] (spB wlsB):=by
 refine F.ok scWholes (fun vs H Q E h=>?_) (fun cdv A outer s H vs Q E hr h=>?_)
 ·obtain⟨_,_,rfl,_⟩:=h
  rfl
 ·obtain⟨v,o,rfl,hA,q⟩:=h
  obtain⟨t,ty,kt,_⟩:=hA.ty K
  refine⟨_,(wlsA T CW hr).2.h,?_⟩
  refine⟨_,rfl,_,_,_,_,rfl,ty,kt,_,rfl,?_⟩
  cases ht:isTup o with
  | false=>
   have e:wlsB o=false:=by cases o <;> first | rfl | cases ht
   exact iteF (qb (q H (Ext.refl H)) e)
  | true=>
   refine iteT ?_
   obtain⟨os,a,vs,rfl,rfl,ha,h100,hx⟩:=hA.tupOf ht
   have hn:vs.length<sizeLine:=by rw[aj]; omega
   refine⟨_,rfl,a,rfl,⟨_,SqT.of ha⟩,jEQ (F:=isInt) ha hx hn (fun σ'=>∃ v,σ'=[v]) ⟨_,rfl⟩ ?_ ?_⟩
   ·rintro σ' H' v o R S ⟨u,rfl⟩ e hA k
    dsimp only [kJ,yA]
    rw[ah rfl]
    exact⟨_,rfl,v,o,rfl,hA,k [some v] H' ⟨_,rfl⟩ (Ext.refl _)⟩
   ·intro D H1 e1 hD
    refine⟨D,_,rfl,SqL.of hD,?_⟩
    rw[jLU]
    exact q H1 e1
end
end Eo
end
section
namespace L2
open PySem PySem.Spec PyProof.Rows
theorem jHF {X:Cx}{sc:Scope}{cl:List (Str×Addr)}{C:Addr}{Nc:List Str}{fp:List Addr}{s:Shared}{H:Hp}{sc2:Scope}{cl2:List (Str×Addr)}{C2:Addr}{Nc2:List Str}{fp2:List Addr}{s2:Shared}{H2:Hp}{x y:Str}{p1 p2 pos:Pos}{k:Nat}{i j:Nat}(hc:X.calm=true)(hN:Nc2.Nodup)(hi:Nc2[i]?=some x)(hj:Nc2[j]?=some y)(hx:sc2.names.lookup x=some .local)(hy:sc2.names.lookup y=some .local):
  JG (blk (blkC X sc cl C Nc fp s H) sc2 cl2 C2 Nc2 fp2 s2 H2) (.Tuple [.Name x p1, .Name y p2] k pos) (gTup X.K 2 (gCons (kJ i) (gCons (kJ j) gNil))):=jCM (X:=blkC X sc cl C Nc fp s H) hc hN hi hj hx hy
end L2
namespace Eo
open PySem L2
def jL8 (s:Stmt):List Stmt:=match s with
 | .If _ b _ _=>b
 | _=> []
section
variable {P:Program}{w:World}{K:W.Frag}{mg:Str->Option Value}{base:Heap}
variable {f fT:Addr}{fdT:FuncData}{cdv:Value}{A:Around}{outer:List Env}{s:Shared}{H0:Hp}{E:XK}
noncomputable abbrev nVec:List Str:=["pot","box","way","found","t","lone","at"]
theorem scVec:FnScope nVec ["pot","box"] (j7 sVec):=⟨rfl,rfl,rfl,by decide+kernel,rfl,by decide+kernel,by decide+kernel⟩
abbrev XVec (P:Program)(w:World)(K:W.Frag)(mg:Str->Option Value)(base:Heap)(f:Addr)(cdv:Value)(A:Around)(outer:List Env)(s:Shared)(H:Hp)(E:XK):Cx:=XOf nVec "_law_vector" sVec P w K mg base f cdv A outer s H E
section
variable (T:Txt mg)(CT:Can P w K mg base "_law_take" 1 fT fdT ["pot","wide"] kT)(hr:Room 1 (XVec P w K mg base f cdv A outer s H0 E).A)
def vecAA: { t:TS // JSs (XVec P w K mg base f cdv A outer s H0 E) (yM ((jL8 ((jB sVec).getD 2 (.Pass ⟨0,0,0,0⟩))).getD 0 (.Pass ⟨0,0,0,0⟩))) t} :=
 have nd:=scVec.nd
 have _h:=T
 have _h2:=hr
 ⟨_,(jC (jGF (jU yH (j6) (jI jGW gD T.abs (by decide+kernel) (j0 (jE jQ (jv 3 rfl vL) (jv 4 rfl vL) jT) j5 jM) jM)) (jGI (jv 3 rfl vL) (jv 4 rfl vL) jB9)))⟩
def vecBA: { t:TS // JSs (XVec P w K mg base f cdv A outer s H0 E) (yM ((jL8 ((jB sVec).getD 4 (.Pass ⟨0,0,0,0⟩))).getD 0 (.Pass ⟨0,0,0,0⟩))) t} :=
 have nd:=scVec.nd
 have _h2:=hr
 ⟨_,(jC (jGF (kB jEW gD T.int (by decide+kernel) (j0 ((jEM (jAL jCE (jv 4 rfl vL) (jv 5 rfl vL) jDN) (jEL (jAL jBY (jv 4 rfl vL) (jE jK (jv 1 rfl vC) (j6) jD) jGB)))) j5 jI9) jI9) (jGI (jv 3 rfl vL) (jv 4 rfl vL) jB9)))⟩
def vecRA: { t:TS // JSs (XVec P w K mg base f cdv A outer s H0 E) ((jB sVec).drop 6) t} :=
 have nd:=scVec.nd
 ⟨_,(jC (jX (kB jA0 gD T.tuple (by decide+kernel) (j0 (jv 3 rfl vL) j5 j3) j3)))⟩
def vecEA: { t:TS // JSs (XVec P w K mg base f cdv A outer s H0 E) ((jB sVec).drop 5) t} :=
 have nd:=scVec.nd
 ⟨_,(j8 (yE (jt_w (jIZ (jJ yX (jv 2 rfl vL) (j6) (jO _)) (jFL (jJ op_gt (jE jK (jv 1 rfl vC) (j6) jD) (j6) (jO _))))) (j8 (jG (i:=6) nd rfl lL (CT.je hr gD (j0 (jv 0 rfl vC) (j0 (jE jK (jv 1 rfl vC) (j6) jD) j5 jM) j3) j3) jP)
   (jC (jGF (jU yH (jU kX (jE jQ (jv 3 rfl vL) (jv 6 rfl vL) jT) (CT.je hr gD (j0 (jv 0 rfl vC) (j0 (j6) j5 jF) j3) j3)) (j6)) (jGI (jv 3 rfl vL) (jv 6 rfl vL) jB9)))) kO) (vecRA T).2)⟩
def vecLA: { t:TS // JSs (XVec P w K mg base f cdv A outer s H0 E) ((jB sVec).drop 3) t} :=
 have nd:=scVec.nd
 ⟨_,(j8 (jGE (i:=5) nd rfl lL ⟨by rfl⟩ (m:=[none,some 1]) (Nc:=["t","box"]) rfl (kR gD T.range (j0 (jE jK (jv 1 rfl vC) (j6) jD) j5 jM) jM) rfl (by decide+kernel) (by decide+kernel) (kE (psc:=j7 sVec) (by decide+kernel)) (jH (N:=nVec) rfl rfl (by decide+kernel)) (fun cl C fp s H=>jL (i:=0) (show (["t","box"]:List Str).Nodup by decide+kernel) rfl (jIY (by decide+kernel))) (fun cl C fp s H=>jDQ (jEK (jCI (jI (jEX rfl) (gl_bC (by decide+kernel)) T.any (by decide+kernel) (j0 (kS (m:=[none,none,some 0]) (Nc:=["things","weight","t"]) rfl (jJ0 (jE jEN (jv 1 rfl (jF8 (by decide+kernel))) (j6) jD)) rfl (by decide+kernel) (by decide+kernel) (jGM (by decide+kernel)) (jH (N:=["t","box"]) rfl rfl (by decide+kernel)) (fun cl C fp s H=>jHF (i:=0) (j:=1) rfl (show (["things","weight","t"]:List Str).Nodup by decide+kernel) rfl rfl (by decide+kernel) (by decide+kernel)) (fun cl C fp s H=>kN) (fun cl C fp s H=>(jAL jG8 (jv 2 rfl (kL (by decide+kernel))) (jv 0 rfl (kG (by decide+kernel))) jDN)) yR) j5 jS) jS) jAZ))) (fun cl C fp s H=>(jv 0 rfl (jHN (by decide+kernel)))) kU) (j8 (yE (jJ op_gt (jv 2 rfl vL) (j6) (jO _)) (jC (jBE bf rfl (kR gD T.range (j0 (jE jK (jv 1 rfl vC) (j6) jD) j5 jM) jM) (jL (i:=4) nd rfl lL) (vecBA T hr).2 kU)) kO) (vecEA T CT hr).2))⟩
def vecA: { t:TS // JSs (XVec P w K mg base f cdv A outer s H0 E) (jB sVec) t} :=
 have nd:=scVec.nd
 ⟨_,(j8 (jG (i:=2) nd rfl lL (CT.je hr gD (j0 (jv 0 rfl vC) (j0 (j6) j5 jF) j3) j3) jP) (j8 (jDR (i:=3) nd rfl lL ⟨by rfl⟩ (m:=[none,some 0]) (Nc:=["t","pot"]) rfl (kR gD T.range (j0 (jE jK (jv 1 rfl vC) (j6) jD) j5 jM) jM) rfl (by decide+kernel) (by decide+kernel) (kE (psc:=j7 sVec) (by decide+kernel)) (jH (N:=nVec) rfl rfl (by decide+kernel)) (fun cl C fp s H=>jL (i:=0) (show (["t","pot"]:List Str).Nodup by decide+kernel) rfl (yD (by decide+kernel))) (fun cl C fp s H=>kN) (fun cl C fp s H=>(jU yH (CT.je hr (gl_b (by decide+kernel)) (j0 (jv 1 rfl (kL (by decide+kernel))) (j0 (j6) j5 jF) j3) j3) (j6))) kU) (j8 (yE (jJ op_gt (jv 2 rfl vL) (j6) (jO _)) (jC (jBE bf rfl (yN (jE jK (jv 1 rfl vC) (j6) jD)) (jL (i:=4) nd rfl lL) (vecAA T hr).2 yR)) kO) (vecLA T CT hr).2)))⟩
theorem jDE (ys:List Int)(j:Nat)(z:Int):(ys.map V.int).set j (.int z)=(ys.set j z).map V.int:=by
 rw[List.map_set]
theorem jJ8 {n:Nat}{t:Int}(h0:0<=t)(h1:t<n):ixN n t=some t.toNat:=by
 unfold ixN
 rw[ah h0,ah h1]
def VRt (D:Ends)(H:Hp)(p l:Addr)(n:Nat):Prop:=∀ (r:Addr) (ys':List Int) (N':Int) (H':Hp),H' r=some (.tup (ys'.map V.int))->ys'.length=n->H' p=some (.lst [.int N'])->0<=N'->(∀ c o,H c=some o->c≠p->c≠l->H' c=some o)->D.rt (.ref r) H'
theorem jC5 {D:Ends}{H:Hp}{p l:Addr}{N:Int}{n:Nat}{ys:List Int}{v1 v2 v4 v5 v6:Option V}(hp:H p=some (.lst [.int N]))(hN:0<=N)(hl:H l=some (.lst (ys.map V.int)))(yl:ys.length=n)(rt:VRt D H p l n):
  (vecRA (f:=f) (cdv:=cdv) (A:=A) (outer:=outer) (s:=s) (H0:=H0) (E:=E) (P:=P) (w:=w) (K:=K) (base:=base) T).1 D [some (.ref p),v1,v2,some (.ref l),v4,v5,v6] H:=by
 refine⟨_,rfl,l,_,rfl, .inl ⟨SqL.of hl,fun r h=>?_⟩⟩
 have e:Ext H (L2.upd H r (.tup (ys.map V.int))):=(Ext.refl _).new h _
 exact rt r ys N _ j4 yl (e _ _ hp) hN fun c o h _ _=>e _ _ h
theorem VRt.go {D:Ends}{H H1:Hp}{p l:Addr}{n:Nat}(rt:VRt D H p l n)(k:∀ c o,H c=some o->c≠p->c≠l->H1 c=some o):VRt D H1 p l n:=fun r ys N H' a b c d e=>rt r ys N H' a b c d fun x o h n1 n2=>e x o (k x o h n1 n2) n1 n2
theorem jE3 {D:Ends}{H:Hp}{p x l:Addr}{N wy:Int}{wi:Int}{ms:List Int}{pcs:List (List Int×Int)}{ys:List Int}{v4 v5 v6:Option V}(hB:BoxAt H x wi ms pcs)(g:Good 16 32 wi ms pcs)(hp:H p=some (.lst [.int N]))(hN:0<=N)(hl:H l=some (.lst (ys.map V.int)))(yl:ys.length=wi.toNat)(lp:l≠p)(rt:VRt D H p l wi.toNat):
  (vecEA T CT hr).1 D [some (.ref p),some (.ref x),some (.int wy),some (.ref l),v4,v5,v6] H:=by
 obtain⟨qm,qp,ps,b1,b2,b3,b4⟩:=id hB.ex
 have w0:=g.w0
 have w1:=g.w1
 refine⟨_,rfl,rfl,_,rfl,ite2 (fun h=>?_) (fun h=>?_)⟩
 ·refine⟨_,rfl,x,_,0,_,rfl,rfl,SqT.of b1,rfl,_,_,rfl,rfl,_,rfl,ite2 (fun h2=>?_) (fun h2=>?_)⟩
  ·have h2:wi>0:=az h2
   refine⟨_,rfl,_,rfl,x,_,0,_,rfl,rfl,SqT.of b1,rfl,p,N,wi,rfl,hp,hN,by omega,by omega,fun N1 r q1 q2 q3=>?_⟩
   have k1:∀ c o,H c=some o->c≠p->(L2.upd H p (.lst [.int N1])) c=some o:=fun c o h n=>by rw[j9 n]; exact h
   have d1:(L2.upd H p (.lst [.int N1])) p=some (.lst [.int N1]):=j4
   generalize L2.upd H p (.lst [.int N1])=H1 at k1 d1
   have l1:=k1 _ _ hl lp
   refine⟨_,rfl,_,rfl,l,_,r,_,rfl,rfl,SqL.of l1,jC4 q2 (by omega) yl,?_⟩
   refine⟨_,rfl,p,N1,3,rfl,d1,q1,by decide,by decide,fun N2 r2 s1 s2 s3=>⟨_,_,rfl,rfl,?_⟩⟩
   have k2:∀ c o,H1 c=some o->c≠p->(L2.upd H1 p (.lst [.int N2])) c=some o:=fun c o h n=>by rw[j9 n]; exact h
   have d2:(L2.upd H1 p (.lst [.int N2])) p=some (.lst [.int N2]):=j4
   generalize L2.upd H1 p (.lst [.int N2])=H2 at k2 d2
   have l2:=k2 _ _ l1 lp
   refine⟨_,_,rfl,rfl,_,rfl,_,rfl,l,_,r,_,rfl,rfl,l2,jJ8 q2 (by rw[ab]; omega),?_⟩
   rw[jDE]
   exact jC5 T (by rw[j9 lp.symm]; exact d2) s1 j4 (by rw[dh]; exact yl) (rt.go fun c o h n1 n2=>by rw[j9 n2]; exact k2 _ _ (k1 _ _ h n1) n1)
  ·exact jC5 T hp hN hl yl rt
 ·exact jC5 T hp hN hl yl rt
theorem jHO {D:Ends}{H:Hp}{p x l ln:Addr}{wi:Int}{ms:List Int}{pcs:List (List Int×Int)}{ys:List Int}{ls:List Int}{j:Nat}{v2 v6:Option V}(hB:BoxAt H x wi ms pcs)(g:Good 16 32 wi ms pcs)(hl:H l=some (.lst (ys.map V.int)))(yl:ys.length=wi.toNat)(hn:H ln=some (.lst (ls.map V.int)))(hj:j<wi.toNat)
  (nx:∀ H' (ys':List Int),H' l=some (.lst (ys'.map V.int))->ys'.length=wi.toNat->(∀ c o,H c=some o->c≠l->H' c=some o)->D.nx [some (.ref p),some (.ref x),v2,some (.ref l),some (.int (j:Int)),some (.ref ln),v6] H'):
  (vecBA T hr).1 D [some (.ref p),some (.ref x),v2,some (.ref l),some (.int (j:Int)),some (.ref ln),v6] H:=by
 obtain⟨qm,qp,ps,b1,b2,b3,b4⟩:=id hB.ex
 have put:∀ z:Int,rSetL (.ref l) (.int (j:Int)) (.int z) H fun H'=>D.nx [some (.ref p),some (.ref x),v2,some (.ref l),some (.int (j:Int)),some (.ref ln),v6] H':=fun z=>by
  refine⟨l,_,(j:Int),_,rfl,rfl,hl,jJ8 (by omega) (by rw[ab]; omega),?_⟩
  rw[jDE]
  exact nx _ _ j4 (by rw[dh]; exact yl) fun c o h n=>by rw[j9 n]; exact h
 refine⟨_,rfl,_,rfl,ln,_,rfl, .inl (SqL.of hn),rfl,jA9 _,_,rfl,?_⟩
 rw[jAN]
 refine ite2 (fun h=>?_) (fun h=>?_)
 ·refine⟨_,rfl,_,rfl,x,_,1,_,rfl,rfl,SqT.of b1,rfl,qm,_,rfl, .inr (SqT.of b2),rfl,jA9 _,?_⟩
  exact .inr ⟨_,rfl,_,rfl,_,rfl,put _⟩
 ·exact .inr ⟨_,rfl,_,rfl,_,rfl,put _⟩
theorem jHP {D:Ends}{H:Hp}{p x l:Addr}{wi t:Int}{ys:List Int}{v2 v5 v6:Option V}(hl:H l=some (.lst (ys.map V.int)))(yl:ys.length=wi.toNat)(t0:0<=t)(t1:t<wi)
  (nx:∀ H' (ys':List Int),H' l=some (.lst (ys'.map V.int))->ys'.length=wi.toNat->(∀ c o,H c=some o->c≠l->H' c=some o)->D.nx [some (.ref p),some (.ref x),v2,some (.ref l),some (.int t),v5,v6] H'):
  (vecAA T hr).1 D [some (.ref p),some (.ref x),v2,some (.ref l),some (.int t),v5,v6] H:=by
 refine⟨_,rfl,_,rfl,l,_,t,_,rfl,rfl,SqL.of hl,jC4 (n:=wi.toNat) t0 (by omega) yl,?_⟩
 refine⟨_,rfl,_,_,rfl,rfl,_,rfl,_,rfl,l,_,t,_,rfl,rfl,hl,jJ8 t0 (by rw[ab]; omega),?_⟩
 rw[jDE]
 exact nx _ _ j4 (by rw[dh]; exact yl) fun c o h n=>by rw[j9 n]; exact h
theorem jE2 {D:Ends}{H:Hp}{p x l:Addr}{N wy:Int}{wi:Int}{ms:List Int}{pcs:List (List Int×Int)}{ys:List Int}{v4 v5 v6:Option V}(hB:BoxAt H x wi ms pcs)(g:Good 16 32 wi ms pcs)(hp:H p=some (.lst [.int N]))(hN:0<=N)(hl:H l=some (.lst (ys.map V.int)))(yl:ys.length=wi.toNat)(lp:l≠p)(rt:VRt D H p l wi.toNat):
  (vecLA T CT hr).1 D [some (.ref p),some (.ref x),some (.int wy),some (.ref l),v4,v5,v6] H:=by
 obtain⟨qm,qp,ps,b1,b2,b3,b4⟩:=id hB.ex
 have w0:=g.w0
 have w1:=g.w1
 have pl:=b4.len
 have gpl:=g.pl
 refine⟨_,rfl,x,_,0,_,rfl,rfl,SqT.of b1,rfl,wi,rfl,by omega,by omega,jBI (n:=wi.toNat) (fun σ=>∃ v,σ=[v,some (.ref x)]) (outZ (List.range wi.toNat) (fun (t:Nat)=>!(pcs.any fun pc=>decide ((t:Int)∈pc.1))) fun (t:Nat)=>V.int (t:Int)) (outZ.ok _ _ _) (by rw[aj]; omega) ⟨_,rfl⟩ ?_ ?_⟩
 ·rintro j σ' H' zs hj ⟨v,rfl⟩ e hz S1 S2 yes no
  have e0:(0+(j:Int))=(j:Int):=by omega
  have hg:(List.range wi.toNat)[j]?=some j:=aK hj
  refine⟨_,rfl,x,_,2,_,rfl,rfl,SqT.of (e _ _ b1),rfl,qp,rfl,⟨_,SqT.of (e _ _ b3)⟩,jA8 (xs:=ps) (fun σ=>∃ v v',σ=[v,v',some (.int (0+(j:Int)))]) (mapZ pcs fun pc=>V.bl (decide ((j:Int)∈pc.1))) (mapZ.ok _ _) (e _ _ b3) (by rw[aj]; omega) ⟨_,_,rfl⟩ ?_ ?_⟩
  ·rintro i y σ2 H2 zs2 hy ⟨u,u',rfl⟩ e2 hz2 S1' S2' yes2 no2
   have hi:i<pcs.length:=by
    rw[<- pl]
    exact(ar.mp hy).1
   obtain⟨y',hy',pa,pq,rfl,c1,c2⟩:=b4.get hi
   rw[hy] at hy'
   cases hy'
   have pgi:pcs[i]?=some (pcs.getD i ([],0)):=by rw[aT,aL hi]; rfl
   have E:=e.trans e2
   refine⟨pa,_,rfl,SqT.of (E _ _ c1),rfl,_,_,rfl,_,_,rfl,rfl,?_⟩
   dsimp only [yA]
   rw[ah rfl]
   refine⟨_,rfl,_,rfl,pq,_,rfl, .inr (SqT.of (E _ _ c2)),rfl,jA9 _,?_⟩
   rw[jAN,e0]
   exact yes2 _ _ _ ⟨some (.ref pq),some (.int (pcs.getD i ([],0)).2),by rw[e0]; rfl⟩ (Ext.refl _) (hz2.yes pgi)
  ·rintro D2 H2 zs2 d2 e2 n2 hz2
   have hz2:=hz2.all (by rw[pl]; exact af _)
   have d2:H2 D2=some (.lst ((pcs.map fun pc=>decide ((j:Int)∈pc.1)).map V.bl)):=by rw[d2,hz2,bc]; rfl
   refine⟨D2,_,rfl,SqL.of d2,_,rfl,?_⟩
   rw[cR]
   refine ite2 (fun h=>?_) (fun h=>?_)
   ·have y:=hz.yes (H':=H2) hg h
    rw[e0]
    exact⟨_,rfl,yes _ _ _ ⟨_,rfl⟩ e2 y⟩
   ·exact no _ _ ⟨_,rfl⟩ e2 (hz.no hg (cq.mpr h))
 ·rintro ln H1 zs d1 e1 n1 hz
  have hz:=hz.all (by rw[ao]; exact af _)
  have d1:H1 ln=some (.lst ((((List.range wi.toNat).filter fun (t:Nat)=>!(pcs.any fun pc=>decide ((t:Int)∈pc.1))).map fun (t:Nat)=>(t:Int)).map V.int)):=by rw[d1,hz,bc]; rfl
  have lnl:ln≠l:=fun z=>by rw[z,hl] at n1; cases n1
  have lnp:ln≠p:=fun z=>by rw[z,hp] at n1; cases n1
  have B1:=hB.mono e1.tups
  have rt1:VRt D H1 p l wi.toNat:=rt.go fun c o h _ _=>e1 _ _ h
  refine⟨_,rfl,_,_,rfl,rfl,_,rfl,ite2 (fun h=>?_) (fun h=>?_)⟩
  ·obtain⟨qm,qp,ps,b1,b2,b3,b4⟩:=id B1.ex
   refine⟨_,rfl,x,_,0,_,rfl,rfl,SqT.of b1,rfl,wi,rfl,by omega,by omega,jAG (lo:=0) (n:=wi.toNat) (fun i σ H'=>(∃ v4,σ=[some (.ref p),some (.ref x),some (.int wy),some (.ref l),v4,some (.ref ln),v6])/\(∀ c o,H1 c=some o->c≠l->H' c=some o)/\∃ ys':List Int,H' l=some (.lst (ys'.map V.int))/\ys'.length=wi.toNat) ⟨⟨_,rfl⟩,fun _ _ h _=>h,ys,e1 _ _ hl,yl⟩ ?_ ?_⟩
   ·rintro i σ H2 hi ⟨⟨v4,rfl⟩,k2,ys2,l2,yl2⟩
    have e0:(0+(i:Int))=(i:Int):=by omega
    show (vecBA T hr).1 _ [some (.ref p),some (.ref x),some (.int wy),some (.ref l),some (.int (0+(i:Int))),some (.ref ln),v6] H2
    rw[e0]
    have t2:Tups H1 H2:=fun c xs h=>k2 _ _ h fun z=>by rw[z,e1 _ _ hl] at h; cases h
    exact jHO T hr (B1.mono t2) g l2 yl2 (k2 _ _ d1 lnl) hi fun H3 ys3 l3 yl3 k3=>⟨⟨_,rfl⟩,fun c o h n=>k3 _ _ (k2 _ _ h n) n,ys3,l3,yl3⟩
   ·rintro σ H2 ⟨⟨v4,rfl⟩,k2,ys2,l2,yl2⟩
    have t2:Tups H1 H2:=fun c xs h=>k2 _ _ h fun z=>by rw[z,e1 _ _ hl] at h; cases h
    exact jE3 T CT hr (B1.mono t2) g (k2 _ _ (e1 _ _ hp) lp.symm) hN l2 yl2 lp (rt1.go fun c o h _ n2=>k2 _ _ h n2)
  ·exact jE3 T CT hr B1 g (e1 _ _ hp) hN (e1 _ _ hl) yl lp rt1
end
def spVec:Sp:=fun vs H Q _=>∃ (p x:Addr) (N w:Int) (ms:List Int) (pcs:List (List Int×Int)),vs=[.ref p, .ref x]/\H p=some (.lst [.int N])/\0<=N/\BoxAt H x w ms pcs/\Good 16 32 w ms pcs/\∀ (r:Addr) (ys:List Int) (N':Int) (H':Hp),H' r=some (.tup (ys.map V.int))->ys.length=w.toNat->H' p=some (.lst [.int N'])->0<=N'->(∀ c o,H c=some o->c≠p->H' c=some o)->Q (.ref r) H'
theorem jO4 {fd:FuncData}(F:Fun K "_law_vector" "_law_vector" sVec f fd)(T:Txt mg)(CT:Can P w K mg base "_law_take" 1 fT fdT ["pot","wide"] kT):FnOk P w K mg base CX0 2 f fd ["pot","box"] spVec:=by
 refine F.ok scVec (fun vs H Q E h=>?_) (fun cdv A outer s H vs Q E hr h=>?_)
 ·obtain⟨_,_,_,_,_,_,rfl,_⟩:=h
  rfl
 ·obtain⟨p,x,N,wi,ms,pcs,rfl,hp,hN,hB,g,q⟩:=h
  refine⟨_,(vecA T CT hr).2.h,?_⟩
  have w0:=g.w0
  have w1:=g.w1
  refine⟨_,rfl,p,N,4,rfl,hp,hN,by decide,by decide,fun N1 wy q1 q2 q3=>?_⟩
  have k1:∀ c o,H c=some o->c≠p->(L2.upd H p (.lst [.int N1])) c=some o:=fun c o h n=>by rw[j9 n]; exact h
  have d1:(L2.upd H p (.lst [.int N1])) p=some (.lst [.int N1]):=j4
  have t1:Tups H (L2.upd H p (.lst [.int N1])):=Tups.upd hp _
  generalize L2.upd H p (.lst [.int N1])=H1 at k1 d1 t1
  have B1:=hB.mono t1
  obtain⟨qm,qp,ps,b1,b2,b3,b4⟩:=id B1.ex
  refine⟨_,rfl,x,_,0,_,rfl,rfl,SqT.of b1,rfl,wi,rfl,by omega,by omega,jAT (n:=wi.toNat) (by rw[aj]; omega) (fun D i σ' H' zs=>(∃ v,σ'=[v,some (.ref p)])/\H' D=some (.lst zs)/\(∃ ys:List Int,zs=ys.map V.int/\ys.length=i)/\(∃ N',H' p=some (.lst [.int N'])/\0<=N')/\∀ c o,H1 c=some o->c≠p->H' c=some o) ?_ ?_ ?_ ?_⟩
  ·intro D hD
   have Dp:D≠p:=fun z=>by rw[z,d1] at hD; cases hD
   exact⟨⟨_,rfl⟩,j4,⟨[],rfl,rfl⟩,⟨N1,by rw[j9 Dp.symm]; exact d1,q1⟩,fun c o h n=>by rw[j9 (fun z=>by rw[z,hD] at h; cases h)]; exact h⟩
  ·rintro D i σ' H' zs hD hi ⟨_,h2,⟨ys,rfl,yl⟩,_⟩
   exact⟨h2,by rw[ab]; omega⟩
  ·rintro D i σ' H' zs hD hi ⟨⟨v,rfl⟩,h2,⟨ys,rfl,yl⟩,⟨N',p',hN'⟩,k'⟩
   have Dp:D≠p:=fun z=>by rw[z,d1] at hD; cases hD
   dsimp only [kJ,yA]
   rw[ah rfl]
   refine⟨_,rfl,p,N',7,rfl,p',hN',by decide,by decide,fun N2 r s1 s2 s3=>⟨_,_,rfl,rfl,?_⟩⟩
   refine⟨by rw[j9 Dp]; exact h2,⟨_,rfl⟩,j4,⟨ys++[r - 3],by rw[aI]; rfl,by rw[aJ,yl]; rfl⟩,⟨N2,by rw[j9 Dp.symm,j4],s1⟩,fun c o h n=>?_⟩
   rw[j9 (fun z=>by rw[z,hD] at h; cases h),j9 n]
   exact k' _ _ h n
  ·rintro l σ' H2 zs hD ⟨_,h2,⟨ys,rfl,yl⟩,⟨N2,p2,hN2⟩,k2⟩
   have lp:l≠p:=fun z=>by rw[z,d1] at hD; cases hD
   have t2:Tups H1 H2:=fun c xs h=>k2 _ _ h fun z=>by rw[z,d1] at h; cases h
   have B2:=B1.mono t2
   have rt:VRt { nx:=fun x H'=>Q V.non H',rt:=Q} H2 p l wi.toNat:=fun r ys' N' H' a b c d e=>q r ys' N' H' a b c d fun x o h n=>e _ _ (k2 _ _ (k1 _ _ h n) n) n fun z=>by
    have:=k1 _ _ h n
    rw[z,hD] at this
    cases this
   refine⟨_,rfl,_,_,rfl,rfl,_,rfl,ite2 (fun h=>?_) (fun h=>?_)⟩
   ·obtain⟨qm,qp,ps,b1,b2,b3,b4⟩:=id B2.ex
    refine⟨_,rfl,x,_,1,_,rfl,rfl,SqT.of b1,rfl,qm,rfl,⟨_,SqT.of b2⟩,jN6 (xs:=ms.map V.int) (fun i σ H'=>(∃ v4,σ=[some (.ref p),some (.ref x),some (.int wy),some (.ref l),v4,none,none])/\(∀ c o,H2 c=some o->c≠l->H' c=some o)/\∃ ys':List Int,H' l=some (.lst (ys'.map V.int))/\ys'.length=wi.toNat) ⟨⟨_,rfl⟩,fun _ _ h _=>h,ys,h2,yl⟩ (fun i σ H' _ ⟨_,k,_⟩=>SqT.of (k _ _ b2 fun z=>by rw[z,h2] at b2; cases b2)) ?_ ?_⟩
    ·rintro i y σ H3 hy ⟨⟨v4,rfl⟩,k3,ys3,l3,yl3⟩
     obtain⟨z,hz',rfl⟩:=int_at hy
     have zb:=g.mr.bnd z (bh hz')
     exact jHP T hr l3 yl3 zb.1 zb.2 fun H4 ys4 l4 yl4 k4=>⟨⟨_,rfl⟩,fun c o h n=>k4 _ _ (k3 _ _ h n) n,ys4,l4,yl4⟩
    ·rintro σ H3 ⟨⟨v4,rfl⟩,k3,ys3,l3,yl3⟩
     have t3:Tups H2 H3:=fun c xs h=>k3 _ _ h fun z=>by rw[z,h2] at h; cases h
     exact jE2 T CT hr (B2.mono t3) g (k3 _ _ p2 lp.symm) hN2 l3 yl3 lp (rt.go fun c o h _ n2=>k3 _ _ h n2)
   ·exact jE2 T CT hr B2 g p2 hN2 h2 yl lp rt
end
theorem Ats.cutS {H:Hp}{os:List Ob}{vs:List V}(h:Ats H os vs)(lo hi:Option Int):∃ os',Ats H os' (cutV vs lo hi)/\os'.length<=os.length:=
 ⟨_,(h.drop _).take _,by rw[bI,cx]; omega⟩
def AllG (H:Hp)(vs:List V):Prop:=∀ v∈vs,∃ o,At H o v
theorem AllG.nil (H:Hp):AllG H []:=fun v hv=>by cases hv
theorem AllG.cons {H:Hp}{v:V}{o:Ob}{vs:List V}(h:At H o v)(r:AllG H vs):AllG H (v::vs):=fun x hx=>by
 rcases av.mp hx with rfl | hx
 ·exact⟨o,h⟩
 ·exact r x hx
theorem AllG.pick {H:Hp}{vs:List V}(a:AllG H vs){i:Int}(h0:0<=i)(h1:i<vs.length):∃ v o,atI vs i=some v/\At H o v:=by
 obtain⟨j,rfl⟩:∃ j:Nat,i=(j:Int):=⟨i.toNat,by omega⟩
 have hj:vs[j]?=some vs[j]:=aL (by omega)
 obtain⟨o,q1⟩:=a _ (bh hj)
 exact⟨_,o,y0 hj,q1⟩
theorem jBT {H:Hp} :∀ ys:List Int,Ats H (ys.map Ob.int) (ys.map V.int)
 | []=>ats0 _
 | y::ys=>ats1 rfl (jBT ys)
section
variable {P:Program}{w:World}{K:W.Frag}{mg:Str->Option Value}{base:Heap}
variable {f fT:Addr}{fdT:FuncData}{cdv:Value}{A:Around}{outer:List Env}{s:Shared}{H0:Hp}{E:XK}
noncomputable abbrev nPut:List Str:=["pot","some","odd","way","at","far","other"]
theorem scPut:FnScope nPut ["pot","some"] (j7 sPut):=⟨rfl,rfl,rfl,by decide+kernel,rfl,by decide+kernel,by decide+kernel⟩
abbrev XPut (P:Program)(w:World)(K:W.Frag)(mg:Str->Option Value)(base:Heap)(f:Addr)(cdv:Value)(A:Around)(outer:List Env)(s:Shared)(H:Hp)(E:XK):Cx:=XOf nPut "_law_put" sPut P w K mg base f cdv A outer s H E
def spPut:Sp:=fun vs H Q _=>∃ (p a:Addr) (N:Int) (ys:List Int),vs=[.ref p, .ref a]/\H p=some (.lst [.int N])/\0<=N/\H a=some (.tup (ys.map V.int))/\ys.length<=16/\
 ∀ v o N' H',At H' o v->0<=N'->H' p=some (.lst [.int N'])->Keep H H' p->Q v H'
section
variable (T:Txt mg)(CT:Can P w K mg base "_law_take" 1 fT fdT ["pot","wide"] kT)(hr:Room 1 (XPut P w K mg base f cdv A outer s H0 E).A)
def putZ: { t:TS // JSs (XPut P w K mg base f cdv A outer s H0 E) ((jB sPut).drop 6) t} :=
 have nd:=scPut.nd
 ⟨_,(jC (jX (jU jFI (jU jFI (jBF jFB (jv 1 rfl vL) jCL (jCK (jv 4 rfl vL))) (yC (j0 (jv 6 rfl vL) j5 j3))) (jBF jFB (jv 1 rfl vL) (jCK (jU kX (jv 4 rfl vL) (j6))) jCL))))⟩
def putA: { t:TS // JSs (XPut P w K mg base f cdv A outer s H0 E) (jB sPut) t} :=
 have nd:=scPut.nd
 ⟨_,(j8 (jG (i:=2) nd rfl lL (jB4 (j0 (jD4) (j0 (yC j5) (j0 (kB jHH gD T.list (by decide+kernel) (j0 (jv 1 rfl vL) j5 j3) j3) (j0 (jU jFI (jv 1 rfl vL) (yC (j0 (j6) j5 jF))) (j0 (jBF jFB (jv 1 rfl vL) jCL (jCK (je_un jCY (j6)))) (j0 (jGK) (j0 (je_bl) (j0 (jKW) (j0 (j6) (j0 (yC (j0 (jv 1 rfl vL) j5 j3)) j5 jG3) jF) jM4) jF) jF) jM) kW) jZ) jG3) jF)) jE9) (j8 (jG (i:=3) nd rfl lL (CT.je hr gD (j0 (jv 0 rfl vL) (j0 (j6) j5 jF) j3) j3) jP) (j8 (yE (jt_w (jw_or (jJ op_lt (jv 3 rfl vL) (j6) (jO _)) (jEJ (jJ (jLK hr.units0) (jv 1 rfl vL) (yC j5) (jO _))))) (jC (jX (jE jQ (jv 2 rfl vL) (jU jCD (jv 3 rfl vL) (j6)) jIE))) kO) (j8 (jG (i:=4) nd rfl lL (CT.je hr gD (j0 (jv 0 rfl vL) (j0 (jI jA1 gD T.len (by decide+kernel) (j0 (jv 1 rfl vL) j5 j3) j3) j5 jZ) j3) j3) jP) (j8 (jG (i:=5) nd rfl lL (jU kX (jU jEG (j6) (j6)) (CT.je hr gD (j0 (jv 0 rfl vL) (j0 (jU jEG (j6) (j6)) j5 kW) j3) j3)) jEA) (j8 (jG (i:=6) nd rfl lL (jE jQ (jB4 (j0 (jU kX (jE jK (jv 1 rfl vL) (jv 4 rfl vL) jT) (j6)) (j0 (jU yH (jE jK (jv 1 rfl vL) (jv 4 rfl vL) jT) (j6)) (j0 (kB jHI gD T.bool (by decide+kernel) (j0 (jE jK (jv 1 rfl vL) (jv 4 rfl vL) jT) j5 jM) jM) (j0 (yC (j0 (jE jK (jv 1 rfl vL) (jv 4 rfl vL) jT) (j0 (j6) j5 jF) jM)) (j0 (jv 5 rfl vL) (j0 (jU yH (j6) (jv 5 rfl vL)) (j0 (jU yH (j6) (jE jK (jv 1 rfl vL) (jv 4 rfl vL) jT)) (j0 (jD4) j5 jF) kW) kW) j3) jG3) jZ) kW) kW)) (jU yH (jv 3 rfl vL) (j6)) jIE) jBU) (putZ).2))))))⟩
theorem jIF {D:Ends}{H:Hp}{p a:Addr}{v:V}{o:Ob}{at0:Int}{ys:List Int}{v2 v3 v5:Option V}(ha:H a=some (.tup (ys.map V.int)))(hn:ys.length<=16)(hA:At H o v)
  (q:∀ v o H',At H' o v->Ext H H'->D.rt v H'):
  (putZ (f:=f) (cdv:=cdv) (A:=A) (outer:=outer) (s:=s) (H0:=H0) (E:=E) (P:=P) (w:=w) (K:=K) (base:=base) (mg:=mg)).1 D [some (.ref p),some (.ref a),v2,v3,some (.int at0),v5,some v] H:=by
 refine⟨_,rfl,_,rfl,at0,rfl,a,_,rfl,ha,fun r1 H1 hr1 x1=>?_⟩
 obtain⟨o1,q1,n1⟩:=((jBT ys).ext x1).cutS none (some at0)
 have l1:=q1.len
 rw[ab] at n1
 refine⟨_,rfl,(by show 1<=sizeLine; decide),fun r2 H2 hr2 x2=>⟨r1,r2,_,_,rfl,rfl,x2 _ _ hr1,hr2,(by rw[aj,bg,cH]; omega),fun r3 H3 hr3 x3=>?_⟩⟩
 have X3:=(x1.trans x2).trans x3
 refine⟨_,rfl,_,rfl,_,_,rfl,rfl,_,rfl,a,_,rfl,X3 _ _ ha,fun r4 H4 hr4 x4=>?_⟩
 obtain⟨o2,q2,n2⟩:=((jBT ys).ext (H:=H) (X3.trans x4)).cutS (some (at0+1)) none
 have l2:=q2.len
 rw[ab] at n2
 refine⟨r3,r4,_,_,rfl,rfl,x4 _ _ hr3,hr4,(by rw[aj,aJ,bg,cH]; omega),fun r5 H5 hr5 x5=>?_⟩
 have X5:=(X3.trans x4).trans x5
 refine q (.ref r5) (.tup (o1++[o]++o2)) H5 (jBK hr5 ?_ (((q1.ext (((x2.trans x3).trans x4).trans x5)).append (ats1 (hA.ext X5) (ats0 _))).append (q2.ext x5))) X5
 rw[aJ,aJ,bg,cH]
 omega
end
theorem jO6 {fd:FuncData}(F:Fun K "_law_put" "_law_put" sPut f fd)(T:Txt mg)(CT:Can P w K mg base "_law_take" 1 fT fdT ["pot","wide"] kT):FnOk P w K mg base CX0 2 f fd ["pot","some"] spPut:=by
 refine F.ok scPut (fun vs H Q E h=>?_) (fun cdv A outer s H vs Q E hr h=>?_)
 ·obtain⟨_,_,_,_,rfl,_⟩:=h
  rfl
 ·obtain⟨p,a,N,ys,rfl,hp,hN,ha,hn,q⟩:=h
  refine⟨_,(putA T CT hr).2.h,?_⟩
  refine⟨(by show 0<=sizeLine; decide),fun t1 H1 u1 x1=>?_⟩
  refine⟨_,rfl,a,_,rfl,x1 _ _ ha,fun l2 H2 y2 x2 _=>?_⟩
  have X2:=x1.trans x2
  refine⟨_,rfl,(by show 1<=sizeLine; decide),fun t4 H4 u4 x4=>?_⟩
  have X4:=X2.trans x4
  refine⟨a,t4,_,_,rfl,rfl,X4 _ _ ha,u4,(by rw[aj,ab,bg,cH]; omega),fun t5 H5 u5 x5=>?_⟩
  have X5:=X4.trans x5
  refine⟨_,rfl,_,rfl,_,rfl,a,_,rfl,X5 _ _ ha,fun t6 H6 u6 x6=>?_⟩
  have X6:=X5.trans x6
  refine fun d7 H7 y7 x7=>?_
  have X7:=X6.trans x7
  refine⟨_,rfl,(by show 1<=sizeLine; decide),fun t8 H8 u8 x8=>?_⟩
  refine⟨(by show 10<=sizeLine; decide),fun lo H9 y9 x9 n9=>?_⟩
  have X9:=(X7.trans x8).trans x9
  have Y7:=x8.trans x9
  have Y6:=x7.trans Y7
  have Y5:=x6.trans Y6
  have Y4:=x5.trans Y5
  have Y2:=x4.trans Y4
  have A9:Ats H9 (ys.map Ob.int) (ys.map V.int):=jBT ys
  obtain⟨o6,q6,k6⟩:=A9.cutS none (some (-1))
  have l6:=q6.len
  rw[ab] at k6
  have all:AllG H9 _:= .cons (jLS H9) (.cons (jBK ((x2.trans Y2) _ _ u1) (by show 0<=100; decide) (ats0 _)) (.cons (jOU (Y2 _ _ y2))
   (.cons (jBK (Y5 _ _ u5) (by rw[aJ,ab,bg,cH]; omega) (A9.append (ats1 (jBL _ 0) (ats0 _))))
   (.cons (jBK (Y6 _ _ u6) (by omega) q6) (.cons (jOT H9 "") (.cons (at_bl H9 true) (.cons (jOV (Y7 _ _ y7)) (.cons (jBL H9 0)
   (.cons (jBK (x9 _ _ u8) (by show 1<=100; decide) (ats1 (jBK (X9 _ _ ha) (by rw[ab]; omega) A9) (ats0 _))) (.nil H9))))))))))
  have hp9:=X9 _ _ hp
  have lp:lo≠p:=fun e=>by subst e; rw[(X7.trans x8) _ _ hp] at n9; cases n9
  refine⟨_,rfl,p,N,18,rfl,hp9,hN,by decide,by decide,fun N1 way a1 a2 a3=>?_⟩
  have k1:Keep H9 (upd H9 p (.lst [.int N1])) p:=(Keep.refl _ _).upd _
  have hp1:(upd H9 p (.lst [.int N1])) p=some (.lst [.int N1]):=j4
  have kp1:Kp H9 (upd H9 p (.lst [.int N1])):=Kp.keep k1 hp9 hp1
  have y1:(upd H9 p (.lst [.int N1])) lo=H9 lo:=j9 lp
  rw[y9] at y1
  generalize upd H9 p (.lst [.int N1])=G1 at k1 hp1 kp1 y1 ⊢
  have kH:∀ {G:Hp},Ext G1 G->Keep H G p:=fun {G} e c u hc hne=>e _ _ (k1 _ _ (X9 _ _ hc) hne)
  have ap:a≠p:=ne_of ha hp (by intro z; cases z)
  have ha1:G1 a=some (.tup (ys.map V.int)):=k1 _ _ (X9 _ _ ha) ap
  refine⟨_,rfl,_,_,rfl,rfl,_,rfl,ite2 (fun h1=>?_) (fun h1=>?_)⟩
  ·obtain⟨v,o,hv,hAt⟩:=all.pick (i:=way % 10) (by omega) (by show way % 10<10; omega)
   refine iteT ⟨_,rfl,_,rfl,_,_,rfl,rfl,(by show (0:Int)<10; decide),lo,_,way % 10,v,rfl,rfl,SqL.of y1,hv,?_⟩
   exact q v o N1 G1 (At.mono kp1 o v hAt) a1 hp1 (kH (Ext.refl _))
  ·have h1:¬ way<10:=fun z=>h1 (aG z)
   refine⟨_,rfl,(by show 0<=sizeLine; decide),fun t10 G2 u10 x10=>⟨a,t10,_,rfl,rfl,SqT.of (x10 _ _ ha1),SqT.of u10,_,rfl,ite2 (fun h2=>?_) (fun h2=>?_)⟩⟩
   ·obtain⟨v,o,hv,hAt⟩:=all.pick (i:=way % 10) (by omega) (by show way % 10<10; omega)
    refine⟨_,rfl,_,rfl,_,_,rfl,rfl,(by show (0:Int)<10; decide),lo,_,way % 10,v,rfl,rfl,SqL.of (x10 _ _ y1),hv,?_⟩
    exact q v o N1 G2 ((At.mono kp1 o v hAt).ext x10) a1 (x10 _ _ hp1) (kH x10)
   ·have hne:¬ ys.map V.int=[]:=fun e=>h2 (aG e)
    have hpos:0<(ys.map V.int).length:=List.length_pos_iff.mpr hne
    rw[ab] at hpos
    clear all
    refine⟨_,rfl,_,rfl,a,_,rfl, .inr (SqT.of (x10 _ _ ha1)),p,N1,_,rfl,x10 _ _ hp1,a1,by rw[ab]; omega,by rw[ab]; omega,fun N2 at0 b1 b2 b3=>?_⟩
    rw[ab] at b3
    have hp2':=x10 _ _ hp1
    have k2:Keep G2 (upd G2 p (.lst [.int N2])) p:=(Keep.refl _ _).upd _
    have hp3:(upd G2 p (.lst [.int N2])) p=some (.lst [.int N2]):=j4
    generalize upd G2 p (.lst [.int N2])=G3 at k2 hp3 ⊢
    have ha3:G3 a=some (.tup (ys.map V.int)):=k2 _ _ (x10 _ _ ha1) ap
    have kH3:Keep H G3 p:=fun c u hc hne=>k2 c u (kH x10 c u hc hne) hne
    have ya:=jC4 (ys:=ys) (n:=ys.length) b2 b3 rfl
    refine⟨_,_,rfl,rfl,⟨by decide,by decide,by decide⟩,_,rfl,_,_,rfl,rfl,⟨by decide,by decide,by decide⟩,p,N2,_,rfl,hp3,b1,by decide,by decide,fun N3 r3 cc1 cc2 cc3=>⟨_,_,rfl,rfl,?_⟩⟩
    have k4:Keep G3 (upd G3 p (.lst [.int N3])) p:=(Keep.refl _ _).upd _
    have hp4:(upd G3 p (.lst [.int N3])) p=some (.lst [.int N3]):=j4
    generalize upd G3 p (.lst [.int N3])=G4 at k4 hp4 ⊢
    have ha4:G4 a=some (.tup (ys.map V.int)):=k4 _ _ ha3 ap
    have kH4:Keep H G4 p:=fun c u hc hne=>k4 c u (kH3 c u hc hne) hne
    refine⟨_,rfl,_,rfl,a,_,at0,_,rfl,rfl,SqT.of ha4,ya,_,_,rfl,rfl,?_⟩
    refine⟨_,rfl,_,rfl,a,_,at0,_,rfl,rfl,SqT.of ha4,ya,_,_,rfl,rfl,?_⟩
    refine⟨_,rfl,_,rfl,a,_,at0,_,rfl,rfl,SqT.of ha4,ya, .inl ⟨_,rfl,?_⟩⟩
    refine⟨_,rfl,_,rfl,a,_,at0,_,rfl,rfl,SqT.of ha4,ya,(by show 2<=sizeLine; decide),fun c1 J1 e1 z1=>?_⟩
    refine⟨_,rfl,_,rfl,_,_,rfl,rfl,?_⟩
    refine⟨_,rfl,_,rfl,a,_,at0,_,rfl,rfl,SqT.of (z1 _ _ ha4),ya,_,_,rfl,rfl,?_⟩
    refine⟨(by show 8<=sizeLine; decide),fun c5 J5 e5 z5 n5=>?_⟩
    have key:∀ (xs:List V),J5 c5=some (.lst xs)->xs.length=8/\AllG J5 xs:=fun xs h=>by
     rw[e5] at h
     cases h
     exact⟨rfl, .cons (jBL _ _) (.cons (jBL _ _) (.cons (at_bl _ _) (.cons (jBK (z5 _ _ e1) (by show 2<=100; decide) (ats1 (jBL _ _) (ats1 (jBL _ 1) (ats0 _)))) (.cons (jBL _ _) (.cons (jBL _ _) (.cons (jBL _ _) (.cons (jLS _) (.nil J5))))))))⟩
    obtain⟨xl,two⟩:=key _ e5
    obtain⟨v,o,hv,hAt⟩:=two.pick (i:=way - 10) (by omega) (by rw[xl]; show way - 10<8; omega)
    refine⟨_,rfl,_,_,rfl,rfl,c5,_,way - 10,v,rfl,rfl,SqL.of e5,hv,?_⟩
    have Z5:=z1.trans z5
    exact jIF (f:=f) (cdv:=cdv) (A:=A) (outer:=outer) (s:=s) (H0:=H) (E:=E) (P:=P) (w:=w) (K:=K) (base:=base) (mg:=mg) (Z5 _ _ ha4) hn hAt fun v o H' hA' e'=>q v o N3 H' hA' cc1 (e' _ _ (Z5 _ _ hp4)) fun c u hc hne=>e' _ _ (Z5 _ _ (kH4 c u hc hne))
end
theorem jLV {w:Int}{ms:List Int}{pcs:List (List Int×Int)}{lack:Int}{b:Nat->Nat} :(yL ms lack (bxO w ms pcs lack) b).length=w.toNat:=by
 unfold yL
 rw[ab,ao]
 rfl
section
variable {P:Program}{w:World}{K:W.Frag}{mg:Str->Option Value}{base:Heap}
variable {f fC fP fT fD fV fU fA fL fS:Addr}{fdC fdP fdT fdD fdV fdU fdA fdL fdS:FuncData}{cdv:Value}{A:Around}{outer:List Env}{s:Shared}{H0:Hp}{E:XK}
noncomputable abbrev nLaw:List Str:=["script","box","k","pot","some","told","one","found"]
theorem scLaw:FnScope nLaw ["script"] (j7 sLaw):=⟨rfl,rfl,rfl,by decide+kernel,rfl,by decide+kernel,by decide+kernel⟩
abbrev XLaw (P:Program)(w:World)(K:W.Frag)(mg:Str->Option Value)(base:Heap)(f:Addr)(cdv:Value)(A:Around)(outer:List Env)(s:Shared)(H:Hp)(E:XK):Cx:=XOf nLaw "law" sLaw P w K mg base f cdv A outer s H E
structure LW (P:Program)(w:World)(K:W.Frag)(mg:Str->Option Value)(base:Heap)(fC fP fT fD fV fU fA fL fS:Addr)(fdC fdP fdT fdD fdV fdU fdA fdL fdS:FuncData):Prop where
 T:Txt mg
 CC:Can P w K mg base "_law_cell_at" 1 fC fdC ["script","k"] (jEB K)
 CP:Can P w K mg base "_law_pot" 1 fP fdP ["cell"] spPot
 CT:Can P w K mg base "_law_take" 1 fT fdT ["pot","wide"] kT
 CD:Can P w K mg base "_law_drawn" 4 fD fdD ["script","k","things","pieces"] (jFA K)
 CV:Can P w K mg base "_law_vector" 2 fV fdV ["pot","box"] spVec
 CU:Can P w K mg base "_law_put" 2 fU fdU ["pot","some"] spPut
 CA:Can P w K mg base "speaks_against" 2 fA fdA ["box","thing"] spSpk
 CL:Can P w K mg base "_law_speaks" 3 fL fdL ["box","thing"] spSpk
 CS:Can P w K mg base "shares" 4 fS fdS ["box"] jDB
section
variable (G:LW P w K mg base fC fP fT fD fV fU fA fL fS fdC fdP fdT fdD fdV fdU fdA fdL fdS)(hr:Room 4 (XLaw P w K mg base f cdv A outer s H0 E).A)
def turIA: { t:TS // JSs (XLaw P w K mg base f cdv A outer s H0 E) (yM ((yM ((jB sLaw).getD 1 (.Pass ⟨0,0,0,0⟩))).getD 4 (.Pass ⟨0,0,0,0⟩))) t} :=
 have nd:=scLaw.nd
 ⟨_,(j8 (jG (i:=7) nd rfl lL (G.CA.je (hr.mono (by decide)) gD (j0 (jv 1 rfl vL) (j0 (jv 6 rfl vL) j5 j3) j3) j3) jP)
   (jC (yE (jt_w (jw_or (jEK (jCI (jI jA4 gD G.T.isinstance (by decide+kernel) (j0 (jv 7 rfl vL) (j0 (jB5 (v:= .ty "bool") gD G.T.bool (by decide+kernel) rfl) j5 j3) j3) j3) jAZ)) (jEJ (jJ op_ne (jv 7 rfl vL) (G.CL.je (hr.mono (by decide)) gD (j0 (jv 1 rfl vL) (j0 (jv 6 rfl vL) j5 j3) j3) j3) (jO _))))) (jC (jX (je_bl))) kO)))⟩
def turFA: { t:TS // JSs (XLaw P w K mg base f cdv A outer s H0 E) ((yM ((jB sLaw).getD 1 (.Pass ⟨0,0,0,0⟩))).drop 4) t} :=
 have nd:=scLaw.nd
 ⟨_,(jC (jBE bf rfl (jFM (jB4 (j0 (jv 4 rfl vL) (j0 (G.CU.je (hr.mono (by decide)) gD (j0 (jv 3 rfl vL) (j0 (jv 4 rfl vL) j5 j3) j3) j3) (j0 (jv 4 rfl vL) j5 j3) jZ) j3))) (jL (i:=6) nd rfl lL) (turIA G hr).2 jOL))⟩
def jL7: { t:TS // JSs (XLaw P w K mg base f cdv A outer s H0 E) (yM ((jB sLaw).getD 1 (.Pass ⟨0,0,0,0⟩))) t} :=
 have nd:=scLaw.nd
 ⟨_,(j8 (jG (i:=3) nd rfl lL (G.CP.je (hr.mono (by decide)) gD (j0 (G.CC.je (hr.mono (by decide)) gD (j0 (jv 0 rfl vL) (j0 (jv 2 rfl vL) j5 j3) j3) j3) j5 jZ) jZ) jP) (j8 (jG (i:=4) nd rfl lL (G.CV.je (hr.mono (by decide)) gD (j0 (jv 3 rfl vL) (j0 (jv 1 rfl vL) j5 j3) j3) j3) jP) (j8 (jG (i:=5) nd rfl lL (G.CS.je hr gD (j0 (jv 1 rfl vL) j5 j3) j3) jP) (j8 (yE (jt_w (jIZ (jJ yX (jE jK (jv 5 rfl vL) (j6) jD) (jGK) (jO _)) (jFL (jJ yX (G.CT.je (hr.mono (by decide)) gD (j0 (jv 3 rfl vL) (j0 (j6) j5 jF) j3) j3) (j6) (jO _))))) (jC (jG (i:=4) nd rfl lL (jE jK (jv 5 rfl vL) (j6) jD) jBU)) kO) (turFA G hr).2))))⟩
def lawA: { t:TS // JSs (XLaw P w K mg base f cdv A outer s H0 E) (jB sLaw) t} :=
 have nd:=scLaw.nd
 ⟨_,(j8 (jG (i:=1) nd rfl lL (G.CD.je hr gD (j0 (jv 0 rfl vL) (j0 (j6) (j0 (j6) (j0 (j6) j5 jF) jF) jF) j3) j3) jP) (j8 (jBE bf rfl (jJ1 gD G.T.range (j0 (j6) (j0 (j6) j5 jF) jF) jF jF) (jL (i:=2) nd rfl lL) (jL7 G hr).2 kU) (jC (jX (je_bl)))))⟩
theorem jHU {D:Ends}{H:Hp}{x:Addr}{v:V}{o:Ob}{wi:Int}{ms:List Int}{pcs:List (List Int×Int)}{v0 v2 v3 v4 v5 v7:Option V}(hB:BoxAt H x wi ms pcs)(g:Good 16 32 wi ms pcs)(hA:At H o v)
  (nx:∀ H' v7,Ext H H'->D.nx [v0,some (.ref x),v2,v3,v4,v5,some v,v7] H'):
  (turIA G hr).1 D [v0,some (.ref x),v2,v3,v4,v5,some v,v7] H:=by
 refine⟨_,rfl,_,rfl,x,v,o,wi,ms,pcs,rfl,hB,g,hA,fun H1 e1=>?_⟩
 refine⟨_,rfl,_,_,_,true,rfl, .bl _,rfl,_,rfl,iteF ?_⟩
 refine⟨_,rfl,_,rfl,_,rfl,x,v,o,wi,ms,pcs,rfl,hB.mono e1.tups,g,hA.ext e1,fun H2 e2=>⟨rfl,_,rfl,iteNS rfl ?_⟩⟩
 exact nx H2 _ (e1.trans e2)
theorem jC7 {D:Ends}{H:Hp}{x p a:Addr}{N:Int}{ys:List Int}{wi:Int}{ms:List Int}{pcs:List (List Int×Int)}{v0 v2 v5 v6 v7:Option V}(hB:BoxAt H x wi ms pcs)(g:Good 16 32 wi ms pcs)(hp:H p=some (.lst [.int N]))(hN:0<=N)(ha:H a=some (.tup (ys.map V.int)))(yl:ys.length=wi.toNat)
  (nx:∀ H' v6 v7,(∀ c o,H c=some o->c≠p->H' c=some o)->D.nx [v0,some (.ref x),v2,some (.ref p),some (.ref a),v5,v6,v7] H'):
  (turFA G hr).1 D [v0,some (.ref x),v2,some (.ref p),some (.ref a),v5,v6,v7] H:=by
 have w0:=g.w0
 have w1:=g.w1
 have ap:a≠p:=fun z=>by rw[z,hp] at ha; cases ha
 have hA:At H (.tup (ys.map Ob.int)) (.ref a):=jBK ha (by rw[ab]; omega) (jBT ys)
 refine⟨_,rfl,_,rfl,_,rfl,p,a,N,ys,rfl,hp,hN,ha,by omega,fun v o N1 H1 hA1 hN1 hp1 k1=>?_⟩
 have ha1:=k1 _ _ ha ap
 have hAs:At H1 (.tup (ys.map Ob.int)) (.ref a):=jBK ha1 (by rw[ab]; omega) (jBT ys)
 have t1:Tups H H1:=fun c xs h=>k1 _ _ h fun z=>by rw[z,hp] at h; cases h
 refine⟨_,rfl,by show (3:Nat)<=_; decide,fun l H2 d2 e2 n2=>?_⟩
 refine⟨l,rfl,⟨_,SqL.of d2⟩,jKZ (xs:=[.ref a,v, .ref a]) (fun i σ H'=>(∃ v6 v7,σ=[v0,some (.ref x),v2,some (.ref p),some (.ref a),v5,v6,v7])/\Ext H2 H') ⟨⟨_,_,rfl⟩,Ext.refl _⟩ (fun i σ H' _ ⟨_,e⟩=>SqL.of (e _ _ d2)) ?_ ?_⟩
 ·rintro i y σ H3 hy ⟨⟨v6,v7,rfl⟩,e3⟩
  have E3:=e2.trans e3
  have B3:=(hB.mono t1).mono E3.tups
  obtain⟨o',hA'⟩:∃ o',At H3 o' y:=by
   match i,hy with
   | 0,hy=>cases hy; exact⟨_,hAs.ext E3⟩
   | 1,hy=>cases hy; exact⟨_,hA1.ext E3⟩
   | 2,hy=>cases hy; exact⟨_,hAs.ext E3⟩
   | i+3,hy=>cases hy
  exact jHU G hr B3 g hA' fun H4 v7 e4=>⟨⟨_,_,rfl⟩,e3.trans e4⟩
 ·rintro σ H3 ⟨⟨v6,v7,rfl⟩,e3⟩
  exact nx H3 _ _ fun c o h n=>e3 _ _ (e2 _ _ (k1 _ _ h n))
theorem jKC {D:Ends}{H:Hp}{a x:Addr}{ns:List Int}{k:Int}{wi:Int}{ms:List Int}{pcs:List (List Int×Int)}{v3 v4 v5 v6 v7:Option V}(hS:SqL K H a (ns.map V.int))(k0:0<=k)(hB:BoxAt H x wi ms pcs)(g:Good 16 32 wi ms pcs)
  (nx:∀ H' v3 v4 v5 v6 v7,Ext H H'->D.nx [some (.ref a),some (.ref x),some (.int k),v3,v4,v5,v6,v7] H'):
  (jL7 G hr).1 D [some (.ref a),some (.ref x),some (.int k),v3,v4,v5,v6,v7] H:=by
 have w0:=g.w0
 have w1:=g.w1
 have gpl:=g.pl
 refine⟨_,rfl,_,rfl,a,ns,k,rfl,hS,k0,fun c=>⟨c,rfl,fun p N hp hN=>?_⟩⟩
 have e1:Ext H (L2.upd H p (.lst [.int N])):=(Ext.refl _).new hp _
 have d1:(L2.upd H p (.lst [.int N])) p=some (.lst [.int N]):=j4
 generalize L2.upd H p (.lst [.int N])=H1 at e1 d1
 refine⟨_,rfl,_,rfl,p,x,N,wi,ms,pcs,rfl,d1,hN,hB.mono e1.tups,g,fun r ys N2 H2 d2 yl p2 hN2 k2=>?_⟩
 have e2:Ext H H2:=fun c o h=>k2 _ _ (e1 _ _ h) fun z=>by rw[z,hp] at h; cases h
 have B2:=hB.mono e2.tups
 refine⟨_,rfl,x,wi,ms,pcs,rfl,B2,g,fun b op=>⟨fun hpos r3 ty H3 d3 y3 e3=>?_,fun hn r3 tx us H3 d3 x3 f3 e3=>?_⟩⟩
 ·have p3:=e3 _ _ p2
  have E3:=e2.trans e3
  refine⟨_,rfl,r3,_,0,_,rfl,rfl,SqT.of d3,rfl,rfl,_,rfl,iteT ?_⟩
  refine⟨_,rfl,p,N2,2,rfl,p3,hN2,by decide,by decide,fun N4 t4 q1 q2 q3=>?_⟩
  have k4:∀ c o,H3 c=some o->c≠p->(L2.upd H3 p (.lst [.int N4])) c=some o:=fun c o h n=>by rw[j9 n]; exact h
  have d4:(L2.upd H3 p (.lst [.int N4])) p=some (.lst [.int N4]):=j4
  have t34:Tups H3 (L2.upd H3 p (.lst [.int N4])):=Tups.upd p3 _
  generalize L2.upd H3 p (.lst [.int N4])=H4 at k4 d4 t34
  have e4:Ext H H4:=fun c o h=>k4 _ _ (E3 _ _ h) fun z=>by rw[z,hp] at h; cases h
  have B4:=hB.mono e4.tups
  refine⟨rfl,_,rfl,ite2 (fun h=>?_) (fun h=>?_)⟩
  ·refine⟨_,rfl,r3,_,1,_,rfl,rfl,SqT.of (t34 _ _ d3),rfl,?_⟩
   exact jC7 G hr B4 g d4 q1 (t34 _ _ y3) jLV fun H5 v6 v7 k5=>nx H5 _ _ _ _ _ fun c o h=>k5 _ _ (e4 _ _ h) fun z=>by rw[z,hp] at h; cases h
  ·exact jC7 G hr B4 g d4 q1 (t34 _ _ (e3 _ _ d2)) yl fun H5 v6 v7 k5=>nx H5 _ _ _ _ _ fun c o h=>k5 _ _ (e4 _ _ h) fun z=>by rw[z,hp] at h; cases h
 ·refine⟨_,rfl,r3,_,0,_,rfl,rfl,SqT.of d3,rfl,rfl,_,rfl,iteF ?_⟩
  have E3:=e2.trans e3
  exact jC7 G hr (hB.mono E3.tups) g (e3 _ _ p2) hN2 (e3 _ _ d2) yl fun H5 v6 v7 k5=>nx H5 _ _ _ _ _ fun c o h=>k5 _ _ (E3 _ _ h) fun z=>by rw[z,hp] at h; cases h
end
def spLaw (K:W.Frag):Sp:=fun vs H Q _=>∃ (a:Addr) (ns:List Int),vs=[.ref a]/\SqL K H a (ns.map V.int)/\ns.length<=63/\∀ H',Q (.bl true) H'
theorem SqL.extE {H H':Hp}{a:Addr}{xs:List V}(h:SqL K H a xs)(e:Ext H H'):SqL K H' a xs:=by
 rcases h with (h | ⟨o,h⟩) | h
 ·exact .inl (.inl (e _ _ h))
 ·exact .inl (.inr ⟨o,e _ _ h⟩)
 ·exact .inr h
theorem jO9 {fd:FuncData}(F:Fun K "law" "law" sLaw f fd)(G:LW P w K mg base fC fP fT fD fV fU fA fL fS fdC fdP fdT fdD fdV fdU fdA fdL fdS):FnOk P w K mg base CX0 5 f fd ["script"] (spLaw K):=by
 refine F.ok scLaw (fun vs H Q E h=>?_) (fun cdv A outer s H vs Q E hr h=>?_)
 ·obtain⟨_,_,rfl,_⟩:=h
  rfl
 ·obtain⟨a,ns,rfl,hS,hlen,q⟩:=h
  refine⟨_,(lawA G hr).2.h,?_⟩
  refine⟨_,rfl,a,ns,0,6,10,rfl,hS,by decide,by decide,by decide,by decide,by decide,fun b wi ms pcs H1 hB1 g1 e1=>?_⟩
  have g32:Good 16 32 wi ms pcs:=g1.wide (by decide) (by decide)
  refine⟨_,_,rfl,⟨by decide,by decide,by decide,by decide⟩,?_⟩
  refine jAG (lo:=1) (n:=5) (fun i σ H'=>(∃ v2 v3 v4 v5 v6 v7,σ=[some (.ref a),some (.ref b),v2,v3,v4,v5,v6,v7])/\Ext H1 H') ⟨⟨_,_,_,_,_,_,rfl⟩,Ext.refl _⟩ ?_ ?_
  ·rintro i σ H2 hi ⟨⟨v2,v3,v4,v5,v6,v7,rfl⟩,e2⟩
   exact jKC G hr (SqL.extE hS (e1.trans e2)) (by omega) (hB1.mono e2.tups) g32 fun H3 v3 v4 v5 v6 v7 e3=>⟨⟨_,_,_,_,_,_,rfl⟩,e2.trans e3⟩
  ·rintro σ H2 ⟨_,e2⟩
   exact q H2
end
theorem lenU1 {P:List Value->Prop} :∀ {us:List Value},us.length=1->(∀ a,P [a])->P us
 | [a],_,h=>h a
theorem yY {P:List Value->Prop} :∀ {us:List Value},us.length=2->(∀ a b,P [a,b])->P us
 | [a,b],_,h=>h a b
theorem lenU3 {P:List Value->Prop} :∀ {us:List Value},us.length=3->(∀ a b c,P [a,b,c])->P us
 | [a,b,c],_,h=>h a b c
theorem lenU4 {P:List Value->Prop} :∀ {us:List Value},us.length=4->(∀ a b c d,P [a,b,c,d])->P us
 | [a,b,c,d],_,h=>h a b c d
set_option maxHeartbeats 8000000 in
theorem all_mk {l:PySem.W.OpenLaw}{w:World}{K:W.Frag}{h:Heap}{mg:Str->Option Value}{fa f1 f2 f3 f4 f5 f6 f7 f8 f9 f10 f11 f12 f13 f14 f15 f16 f17 f18 f19 f20 f21 f22 f23:Addr}(X:K.In h)(G:h.Ns mainGlobals mg)(hfa:mg "law" =some (.ref fa))
  {od1 an1 od2 an2 od3 an3 od4 an4 od5 an5 od6 an6 od7 an7 od8 an8 od9 an9 od10 an10 od11 an11 od12 an12 od13 an13 od14 an14 od15 an15 od16 an16 od17 an17 od18 an18 od19 an19 od20 an20 od21 an21 od22 an22 od23 an23:Option Addr}{sl1 sl2 sl3 sl4 sl5 sl6 sl7 sl8 sl9 sl10 sl11 sl12 sl13 sl14 sl15 sl16 sl17 sl18 sl19 sl20 sl21 sl22 sl23:Array (Option Value)}{oc1 kV1 dc1 pm1 cd1 ct1 oc2 kV2 dc2 pm2 cd2 ct2 oc3 kV3 dc3 pm3 cd3 ct3 oc4 kV4 dc4 pm4 cd4 ct4 oc5 kV5 dc5 pm5 cd5 ct5 oc6 kV6 dc6 pm6 cd6 ct6 oc7 kV7 dc7 pm7 cd7 ct7 oc8 kV8 dc8 pm8 cd8 ct8 oc9 kV9 dc9 pm9 cd9 ct9 oc10 kV10 dc10 pm10 cd10 ct10 oc11 kV11 dc11 pm11 cd11 ct11 oc12 kV12 dc12 pm12 cd12 ct12 oc13 kV13 dc13 pm13 cd13 ct13 oc14 kV14 dc14 pm14 cd14 ct14 oc15 kV15 dc15 pm15 cd15 ct15 oc16 kV16 dc16 pm16 cd16 ct16 oc17 kV17 dc17 pm17 cd17 ct17 oc18 kV18 dc18 pm18 cd18 ct18 oc19 kV19 dc19 pm19 cd19 ct19 oc20 kV20 dc20 pm20 cd20 ct20 oc21 kV21 dc21 pm21 cd21 ct21 oc22 kV22 dc22 pm22 cd22 ct22 oc23 kV23 dc23 pm23 cd23 ct23:Value}
  (a1:PySem.W.nsIn K mainGlobals "is_whole" =some (some (.ref f1))) (l1:K.lookup f1=some ⟨oc1,od1, .func (PySem.W.fnOf "is_whole" "is_whole" (jR jAI) (jB jAI) (j7 jAI) .none kV1 dc1 pm1 an1 cd1 ct1),sl1⟩) (c1:PySem.W.codeIn K cd1 "is_whole" =true) (k1:keepIn K (.ref f1)=true)
  (a2:PySem.W.nsIn K mainGlobals "common_divisor" =some (some (.ref f2))) (l2:K.lookup f2=some ⟨oc2,od2, .func (PySem.W.fnOf "common_divisor" "common_divisor" (jR sGcd) (jB sGcd) (j7 sGcd) .none kV2 dc2 pm2 an2 cd2 ct2),sl2⟩) (c2:PySem.W.codeIn K cd2 "common_divisor" =true) (k2:keepIn K (.ref f2)=true)
  (a3:PySem.W.nsIn K mainGlobals "fraction_of" =some (some (.ref f3))) (l3:K.lookup f3=some ⟨oc3,od3, .func (PySem.W.fnOf "fraction_of" "fraction_of" (jR sFrOf) (jB sFrOf) (j7 sFrOf) .none kV3 dc3 pm3 an3 cd3 ct3),sl3⟩) (c3:PySem.W.codeIn K cd3 "fraction_of" =true) (k3:keepIn K (.ref f3)=true)
  (a4:PySem.W.nsIn K mainGlobals "musts_of" =some (some (.ref f4))) (l4:K.lookup f4=some ⟨oc4,od4, .func (PySem.W.fnOf "musts_of" "musts_of" (jR jAV) (jB jAV) (j7 jAV) .none kV4 dc4 pm4 an4 cd4 ct4),sl4⟩) (c4:PySem.W.codeIn K cd4 "musts_of" =true) (k4:keepIn K (.ref f4)=true)
  (a5:PySem.W.nsIn K mainGlobals "speaks_against" =some (some (.ref f5))) (l5:K.lookup f5=some ⟨oc5,od5, .func (PySem.W.fnOf "speaks_against" "speaks_against" (jR sSpk) (jB sSpk) (j7 sSpk) .none kV5 dc5 pm5 an5 cd5 ct5),sl5⟩) (c5:PySem.W.codeIn K cd5 "speaks_against" =true) (k5:keepIn K (.ref f5)=true)
  (a6:PySem.W.nsIn K mainGlobals "first_table" =some (some (.ref f6))) (l6:K.lookup f6=some ⟨oc6,od6, .func (PySem.W.fnOf "first_table" "first_table" (jR yI) (jB yI) (j7 yI) .none kV6 dc6 pm6 an6 cd6 ct6),sl6⟩) (c6:PySem.W.codeIn K cd6 "first_table" =true) (k6:keepIn K (.ref f6)=true)
  (a7:PySem.W.nsIn K mainGlobals "column_to_take" =some (some (.ref f7))) (l7:K.lookup f7=some ⟨oc7,od7, .func (PySem.W.fnOf "column_to_take" "column_to_take" (jR sColT) (jB sColT) (j7 sColT) .none kV7 dc7 pm7 an7 cd7 ct7),sl7⟩) (c7:PySem.W.codeIn K cd7 "column_to_take" =true) (k7:keepIn K (.ref f7)=true)
  (a8:PySem.W.nsIn K mainGlobals "row_to_give" =some (some (.ref f8))) (l8:K.lookup f8=some ⟨oc8,od8, .func (PySem.W.fnOf "row_to_give" "row_to_give" (jR yT) (jB yT) (j7 yT) .none kV8 dc8 pm8 an8 cd8 ct8),sl8⟩) (c8:PySem.W.codeIn K cd8 "row_to_give" =true) (k8:keepIn K (.ref f8)=true)
  (a9:PySem.W.nsIn K mainGlobals "turned" =some (some (.ref f9))) (l9:K.lookup f9=some ⟨oc9,od9, .func (PySem.W.fnOf "turned" "turned" (jR yG) (jB yG) (j7 yG) .none kV9 dc9 pm9 an9 cd9 ct9),sl9⟩) (c9:PySem.W.codeIn K cd9 "turned" =true) (k9:keepIn K (.ref f9)=true)
  (a10:PySem.W.nsIn K mainGlobals "balanced" =some (some (.ref f10))) (l10:K.lookup f10=some ⟨oc10,od10, .func (PySem.W.fnOf "balanced" "balanced" (jR sBal) (jB sBal) (j7 sBal) .none kV10 dc10 pm10 an10 cd10 ct10),sl10⟩) (c10:PySem.W.codeIn K cd10 "balanced" =true) (k10:keepIn K (.ref f10)=true)
  (a11:PySem.W.nsIn K mainGlobals "shares" =some (some (.ref f11))) (l11:K.lookup f11=some ⟨oc11,od11, .func (PySem.W.fnOf "shares" "shares" (jR yB) (jB yB) (j7 yB) .none kV11 dc11 pm11 an11 cd11 ct11),sl11⟩) (c11:PySem.W.codeIn K cd11 "shares" =true) (k11:keepIn K (.ref f11)=true)
  (a12:PySem.W.nsIn K mainGlobals "_law_cell_at" =some (some (.ref f12))) (l12:K.lookup f12=some ⟨oc12,od12, .func (PySem.W.fnOf "_law_cell_at" "_law_cell_at" (jR sCell) (jB sCell) (j7 sCell) .none kV12 dc12 pm12 an12 cd12 ct12),sl12⟩) (c12:PySem.W.codeIn K cd12 "_law_cell_at" =true) (k12:keepIn K (.ref f12)=true)
  (a13:PySem.W.nsIn K mainGlobals "_law_pot" =some (some (.ref f13))) (l13:K.lookup f13=some ⟨oc13,od13, .func (PySem.W.fnOf "_law_pot" "_law_pot" (jR sPot) (jB sPot) (j7 sPot) .none kV13 dc13 pm13 an13 cd13 ct13),sl13⟩) (c13:PySem.W.codeIn K cd13 "_law_pot" =true) (k13:keepIn K (.ref f13)=true)
  (a14:PySem.W.nsIn K mainGlobals "_law_take" =some (some (.ref f14))) (l14:K.lookup f14=some ⟨oc14,od14, .func (PySem.W.fnOf "_law_take" "_law_take" (jR sTake) (jB sTake) (j7 sTake) .none kV14 dc14 pm14 an14 cd14 ct14),sl14⟩) (c14:PySem.W.codeIn K cd14 "_law_take" =true) (k14:keepIn K (.ref f14)=true)
  (a15:PySem.W.nsIn K mainGlobals "_law_lot" =some (some (.ref f15))) (l15:K.lookup f15=some ⟨oc15,od15, .func (PySem.W.fnOf "_law_lot" "_law_lot" (jR sLot) (jB sLot) (j7 sLot) .none kV15 dc15 pm15 an15 cd15 ct15),sl15⟩) (c15:PySem.W.codeIn K cd15 "_law_lot" =true) (k15:keepIn K (.ref f15)=true)
  (a16:PySem.W.nsIn K mainGlobals "_law_box" =some (some (.ref f16))) (l16:K.lookup f16=some ⟨oc16,od16, .func (PySem.W.fnOf "_law_box" "_law_box" (jR sBox) (jB sBox) (j7 sBox) .none kV16 dc16 pm16 an16 cd16 ct16),sl16⟩) (c16:PySem.W.codeIn K cd16 "_law_box" =true) (k16:keepIn K (.ref f16)=true)
  (a17:PySem.W.nsIn K mainGlobals "_law_whole" =some (some (.ref f17))) (l17:K.lookup f17=some ⟨oc17,od17, .func (PySem.W.fnOf "_law_whole" "_law_whole" (jR jBA) (jB jBA) (j7 jBA) .none kV17 dc17 pm17 an17 cd17 ct17),sl17⟩) (c17:PySem.W.codeIn K cd17 "_law_whole" =true) (k17:keepIn K (.ref f17)=true)
  (a18:PySem.W.nsIn K mainGlobals "_law_wholes" =some (some (.ref f18))) (l18:K.lookup f18=some ⟨oc18,od18, .func (PySem.W.fnOf "_law_wholes" "_law_wholes" (jR yF) (jB yF) (j7 yF) .none kV18 dc18 pm18 an18 cd18 ct18),sl18⟩) (c18:PySem.W.codeIn K cd18 "_law_wholes" =true) (k18:keepIn K (.ref f18)=true)
  (a19:PySem.W.nsIn K mainGlobals "_law_drawn" =some (some (.ref f19))) (l19:K.lookup f19=some ⟨oc19,od19, .func (PySem.W.fnOf "_law_drawn" "_law_drawn" (jR jAW) (jB jAW) (j7 jAW) .none kV19 dc19 pm19 an19 cd19 ct19),sl19⟩) (c19:PySem.W.codeIn K cd19 "_law_drawn" =true) (k19:keepIn K (.ref f19)=true)
  (a20:PySem.W.nsIn K mainGlobals "_law_speaks" =some (some (.ref f20))) (l20:K.lookup f20=some ⟨oc20,od20, .func (PySem.W.fnOf "_law_speaks" "_law_speaks" (jR yV) (jB yV) (j7 yV) .none kV20 dc20 pm20 an20 cd20 ct20),sl20⟩) (c20:PySem.W.codeIn K cd20 "_law_speaks" =true) (k20:keepIn K (.ref f20)=true)
  (a21:PySem.W.nsIn K mainGlobals "_law_vector" =some (some (.ref f21))) (l21:K.lookup f21=some ⟨oc21,od21, .func (PySem.W.fnOf "_law_vector" "_law_vector" (jR sVec) (jB sVec) (j7 sVec) .none kV21 dc21 pm21 an21 cd21 ct21),sl21⟩) (c21:PySem.W.codeIn K cd21 "_law_vector" =true) (k21:keepIn K (.ref f21)=true)
  (a22:PySem.W.nsIn K mainGlobals "_law_put" =some (some (.ref f22))) (l22:K.lookup f22=some ⟨oc22,od22, .func (PySem.W.fnOf "_law_put" "_law_put" (jR sPut) (jB sPut) (j7 sPut) .none kV22 dc22 pm22 an22 cd22 ct22),sl22⟩) (c22:PySem.W.codeIn K cd22 "_law_put" =true) (k22:keepIn K (.ref f22)=true)
  (a23:PySem.W.nsIn K mainGlobals "law" =some (some (.ref f23))) (l23:K.lookup f23=some ⟨oc23,od23, .func (PySem.W.fnOf "law" "law" (jR sLaw) (jB sLaw) (j7 sLaw) .none kV23 dc23 pm23 an23 cd23 ct23),sl23⟩) (c23:PySem.W.codeIn K cd23 "law" =true) (k23:keepIn K (.ref f23)=true)
   (z1:PySem.W.nsIn K mainGlobals "len" =some none) (z2:PySem.W.nsIn K mainGlobals "range" =some none) (z3:PySem.W.nsIn K mainGlobals "tuple" =some none) (z4:PySem.W.nsIn K mainGlobals "sorted" =some none) (z5:PySem.W.nsIn K mainGlobals "set" =some none) (z6:PySem.W.nsIn K mainGlobals "list" =some none) (z7:PySem.W.nsIn K mainGlobals "int" =some none) (z8:PySem.W.nsIn K mainGlobals "isinstance" =some none) (z9:PySem.W.nsIn K mainGlobals "bool" =some none) (z10:PySem.W.nsIn K mainGlobals "str" =some none) (z11:PySem.W.nsIn K mainGlobals "all" =some none) (z12:PySem.W.nsIn K mainGlobals "zip" =some none) (z13:PySem.W.nsIn K mainGlobals "max" =some none) (z14:PySem.W.nsIn K mainGlobals "min" =some none) (z15:PySem.W.nsIn K mainGlobals "any" =some none) (z16:PySem.W.nsIn K mainGlobals "abs" =some none) (z17:PySem.W.nsIn K mainGlobals "sum" =some none) (z18:PySem.W.nsIn K mainGlobals "enumerate" =some none) (z19:PySem.W.nsIn K mainGlobals "dict" =some none):
  ∃ fd:FuncData,(∀ (s:Shared) (v:Value),BindsTo s fd ⟨[v],[]⟩ [("script",v)])/\∀ base:Heap,K.In base->base.Ns mainGlobals mg->FnOk l.prog w K mg base CX0 5 fa fd ["script"] (spLaw K):=by
 have e:=hfa.symm.trans (dO X G a23)
 cases e
 have T:Txt mg:=⟨aF X G z1,aF X G z2,aF X G z3,aF X G z4,aF X G z5,aF X G z6,aF X G z7,aF X G z8,aF X G z9,aF X G z10,aF X G z11,aF X G z12,aF X G z13,aF X G z14,aF X G z15,aF X G z16,aF X G z17,aF X G z18,aF X G z19⟩
 have F1:=kQ (st:=jAI) l1 c1 k1
 have b1:=F1.binds (ps:=["thing"]) fun _ _ _ _ _ _ us hl=>lenU1 (P:=fun us=>bindArgs _ ⟨us,[]⟩=pure (List.zip _ us)) hl fun _=>rfl
 have F2:=kQ (st:=sGcd) l2 c2 k2
 have b2:=F2.binds (ps:=["one","other"]) fun _ _ _ _ _ _ us hl=>yY (P:=fun us=>bindArgs _ ⟨us,[]⟩=pure (List.zip _ us)) hl fun _ _=>rfl
 have F3:=kQ (st:=sFrOf) l3 c3 k3
 have b3:=F3.binds (ps:=["top","bottom"]) fun _ _ _ _ _ _ us hl=>yY (P:=fun us=>bindArgs _ ⟨us,[]⟩=pure (List.zip _ us)) hl fun _ _=>rfl
 have F4:=kQ (st:=jAV) l4 c4 k4
 have b4:=F4.binds (ps:=["box"]) fun _ _ _ _ _ _ us hl=>lenU1 (P:=fun us=>bindArgs _ ⟨us,[]⟩=pure (List.zip _ us)) hl fun _=>rfl
 have F5:=kQ (st:=sSpk) l5 c5 k5
 have b5:=F5.binds (ps:=["box","thing"]) fun _ _ _ _ _ _ us hl=>yY (P:=fun us=>bindArgs _ ⟨us,[]⟩=pure (List.zip _ us)) hl fun _ _=>rfl
 have F6:=kQ (st:=yI) l6 c6 k6
 have b6:=F6.binds (ps:=["box","lack"]) fun _ _ _ _ _ _ us hl=>yY (P:=fun us=>bindArgs _ ⟨us,[]⟩=pure (List.zip _ us)) hl fun _ _=>rfl
 have F7:=kQ (st:=sColT) l7 c7 k7
 have b7:=F7.binds (ps:=["table"]) fun _ _ _ _ _ _ us hl=>lenU1 (P:=fun us=>bindArgs _ ⟨us,[]⟩=pure (List.zip _ us)) hl fun _=>rfl
 have F8:=kQ (st:=yT) l8 c8 k8
 have b8:=F8.binds (ps:=["table","taken","column"]) fun _ _ _ _ _ _ us hl=>lenU3 (P:=fun us=>bindArgs _ ⟨us,[]⟩=pure (List.zip _ us)) hl fun _ _ _=>rfl
 have F9:=kQ (st:=yG) l9 c9 k9
 have b9:=F9.binds (ps:=["table","bottom","row","column"]) fun _ _ _ _ _ _ us hl=>lenU4 (P:=fun us=>bindArgs _ ⟨us,[]⟩=pure (List.zip _ us)) hl fun _ _ _ _=>rfl
 have F10:=kQ (st:=sBal) l10 c10 k10
 have b10:=F10.binds (ps:=["box","lack"]) fun _ _ _ _ _ _ us hl=>yY (P:=fun us=>bindArgs _ ⟨us,[]⟩=pure (List.zip _ us)) hl fun _ _=>rfl
 have F11:=kQ (st:=yB) l11 c11 k11
 have b11:=F11.binds (ps:=["box"]) fun _ _ _ _ _ _ us hl=>lenU1 (P:=fun us=>bindArgs _ ⟨us,[]⟩=pure (List.zip _ us)) hl fun _=>rfl
 have F12:=kQ (st:=sCell) l12 c12 k12
 have b12:=F12.binds (ps:=["script","k"]) fun _ _ _ _ _ _ us hl=>yY (P:=fun us=>bindArgs _ ⟨us,[]⟩=pure (List.zip _ us)) hl fun _ _=>rfl
 have F13:=kQ (st:=sPot) l13 c13 k13
 have b13:=F13.binds (ps:=["cell"]) fun _ _ _ _ _ _ us hl=>lenU1 (P:=fun us=>bindArgs _ ⟨us,[]⟩=pure (List.zip _ us)) hl fun _=>rfl
 have F14:=kQ (st:=sTake) l14 c14 k14
 have b14:=F14.binds (ps:=["pot","wide"]) fun _ _ _ _ _ _ us hl=>yY (P:=fun us=>bindArgs _ ⟨us,[]⟩=pure (List.zip _ us)) hl fun _ _=>rfl
 have F15:=kQ (st:=sLot) l15 c15 k15
 have b15:=F15.binds (ps:=["pot","wide"]) fun _ _ _ _ _ _ us hl=>yY (P:=fun us=>bindArgs _ ⟨us,[]⟩=pure (List.zip _ us)) hl fun _ _=>rfl
 have F16:=kQ (st:=sBox) l16 c16 k16
 have b16:=F16.binds (ps:=["pot","most_things","most_pieces"]) fun _ _ _ _ _ _ us hl=>lenU3 (P:=fun us=>bindArgs _ ⟨us,[]⟩=pure (List.zip _ us)) hl fun _ _ _=>rfl
 have F17:=kQ (st:=jBA) l17 c17 k17
 have b17:=F17.binds (ps:=["found"]) fun _ _ _ _ _ _ us hl=>lenU1 (P:=fun us=>bindArgs _ ⟨us,[]⟩=pure (List.zip _ us)) hl fun _=>rfl
 have F18:=kQ (st:=yF) l18 c18 k18
 have b18:=F18.binds (ps:=["found"]) fun _ _ _ _ _ _ us hl=>lenU1 (P:=fun us=>bindArgs _ ⟨us,[]⟩=pure (List.zip _ us)) hl fun _=>rfl
 have F19:=kQ (st:=jAW) l19 c19 k19
 have b19:=F19.binds (ps:=["script","k","things","pieces"]) fun _ _ _ _ _ _ us hl=>lenU4 (P:=fun us=>bindArgs _ ⟨us,[]⟩=pure (List.zip _ us)) hl fun _ _ _ _=>rfl
 have F20:=kQ (st:=yV) l20 c20 k20
 have b20:=F20.binds (ps:=["box","thing"]) fun _ _ _ _ _ _ us hl=>yY (P:=fun us=>bindArgs _ ⟨us,[]⟩=pure (List.zip _ us)) hl fun _ _=>rfl
 have F21:=kQ (st:=sVec) l21 c21 k21
 have b21:=F21.binds (ps:=["pot","box"]) fun _ _ _ _ _ _ us hl=>yY (P:=fun us=>bindArgs _ ⟨us,[]⟩=pure (List.zip _ us)) hl fun _ _=>rfl
 have F22:=kQ (st:=sPut) l22 c22 k22
 have b22:=F22.binds (ps:=["pot","some"]) fun _ _ _ _ _ _ us hl=>yY (P:=fun us=>bindArgs _ ⟨us,[]⟩=pure (List.zip _ us)) hl fun _ _=>rfl
 have F23:=kQ (st:=sLaw) l23 c23 k23
 refine⟨PySem.W.fnOf "law" "law" (jR sLaw) (jB sLaw) (j7 sLaw) .none kV23 dc23 pm23 an23 cd23 ct23,fun s v=> .of_eq rfl,fun base KB _=>?_⟩
 have M:=fun {x:Str}{f:Addr}(a:PySem.W.nsIn K mainGlobals x=some (some (.ref f)))=>dO X G a
 have M':=fun {x:Str}{v:Value}(a:PySem.W.nsIn K mainGlobals x=some (some v))=>dO X G a
 have C1:Can l.prog w K mg base "is_whole" 1 f1 _ ["thing"] spWh:=⟨jIL F1 T,M a1,k1,b1⟩
 have C2:Can l.prog w K mg base "common_divisor" 1 f2 _ ["one","other"] spGcd:=⟨jOA F2,M a2,k2,b2⟩
 have C3:Can l.prog w K mg base "fraction_of" 2 f3 _ ["top","bottom"] spFr:=⟨jMT F3 T C2,M a3,k3,b3⟩
 have C4:Can l.prog w K mg base "musts_of" 1 f4 _ ["box"] jDC:=⟨jKN F4 T,M a4,k4,b4⟩
 have C5:Can l.prog w K mg base "speaks_against" 2 f5 _ ["box","thing"] spSpk:=⟨jO5 F5 T C1,M a5,k5,b5⟩
 have C6:Can l.prog w K mg base "first_table" 2 f6 _ ["box","lack"] jF9:=⟨jKO F6 T C4,M a6,k6,b6⟩
 have C7:Can l.prog w K mg base "column_to_take" 1 f7 _ ["table"] jI7:=⟨jMU F7 T,M a7,k7,b7⟩
 have C8:Can l.prog w K mg base "row_to_give" 1 f8 _ ["table","taken","column"] jI6:=⟨jMR F8 T,M a8,k8,b8⟩
 have C9:Can l.prog w K mg base "turned" 1 f9 _ ["table","bottom","row","column"] jDA:=⟨jIM F9 T,M a9,k9,b9⟩
 have C10:Can l.prog w K mg base "balanced" 3 f10 _ ["box","lack"] spBal:=⟨jOC F10 ⟨T,C6,C7,C8,C9⟩,M a10,k10,b10⟩
 have C11:Can l.prog w K mg base "shares" 4 f11 _ ["box"] jDB:=⟨jIN F11 T C10 C3,M a11,k11,b11⟩
 have C12:Can l.prog w K mg base "_law_cell_at" 1 f12 _ ["script","k"] (jEB K):=⟨jMV F12 T,M a12,k12,b12⟩
 have C13:Can l.prog w K mg base "_law_pot" 1 f13 _ ["cell"] spPot:=⟨jO7 F13 T,M a13,k13,b13⟩
 have C14:Can l.prog w K mg base "_law_take" 1 f14 _ ["pot","wide"] kT:=⟨jMQ F14,M a14,k14,b14⟩
 have C15:Can l.prog w K mg base "_law_lot" 2 f15 _ ["pot","wide"] yS:=⟨jO8 F15 T C14,M a15,k15,b15⟩
 have C16:Can l.prog w K mg base "_law_box" 3 f16 _ ["pot","most_things","most_pieces"] spBox:=⟨jOB F16 T C14 C15,M a16,k16,b16⟩
 have C17:Can l.prog w K mg base "_law_whole" 1 f17 _ ["found"] spWh:=⟨jKM F17 T,M a17,k17,b17⟩
 have C18:Can l.prog w K mg base "_law_wholes" 2 f18 _ ["found"] (spB wlsB):=⟨jO3 F18 T C17,M a18,k18,b18⟩
 have C19:Can l.prog w K mg base "_law_drawn" 4 f19 _ ["script","k","things","pieces"] (jFA K):=⟨jKP F19 T C12 C13 C14 C16,M a19,k19,b19⟩
 have C20:Can l.prog w K mg base "_law_speaks" 3 f20 _ ["box","thing"] spSpk:=⟨jMS F20 T C18,M a20,k20,b20⟩
 have C21:Can l.prog w K mg base "_law_vector" 2 f21 _ ["pot","box"] spVec:=⟨jO4 F21 T C14,M a21,k21,b21⟩
 have C22:Can l.prog w K mg base "_law_put" 2 f22 _ ["pot","some"] spPut:=⟨jO6 F22 T C14,M a22,k22,b22⟩
 exact jO9 F23 ⟨T,C12,C13,C14,C19,C21,C22,C5,C20,C11⟩
theorem walk {l:PySem.W.OpenLaw}{q:Program}{loose:List Str}{XP:(Str->Option Value)->Heap->Prop}{YP:World->Heap->Prop}{d:DefRec}{K:Params->W.Frag}(hn:l.most=some 63)(hdf:d.params.defaults=[])
  (hY:∀ (w:World) (h:Heap),YP w h->(K w.params).In h)
  (F:∀ (w:World) (mg:Str->Option Value) (fa:Addr) (h:Heap),(K w.params).In h->h.Ns mainGlobals mg->mg d.name=some (.ref fa)->
   ∃ fd:FuncData,(∀ (s:Shared) (u:Value),BindsTo s fd ⟨[u],[]⟩ [("script",u)])/\∀ base:Heap,(K w.params).In base->base.Ns mainGlobals mg->FnOk l.prog w (K w.params) mg base CX0 5 fa fd ["script"] (spLaw (K w.params))):
  PySem.W.WalkO q loose XP YP l.row.toRowW d [] (fun f vs=>PySem.call f vs):=
 L2.walk_of (n:=63) (k:=5) (x:= "script") (CX:=fun _=>CX0) (sp:=fun w=>spLaw (K w.params)) hn (by decide) hdf ⟨rfl,by decide,by decide⟩ hY F (fun _ _ a ns hl _ hS=>⟨a,ns,rfl,hS,hl,fun _=>rfl⟩) fun _ _ _ _ _ z=>z
end Eo
open PySem PySem.W PyProof.Rows
set_option maxRecDepth 100000 in
set_option maxHeartbeats 0 in
theorem PySem.Challenge.cw_eachonce_k42_against_of_anything_holds : PySem.Challenge.rw_eachonce_k42_against_of_anything.Holds := by
 w_on
 refine holds_law (by decide+kernel) fun said=>?_
 refine holds_open (q:=Eo.vw) (loose:=[]) (Xt:=fun s=>xlAt Eo.vw [] s&&recOk (RowW.records (OpenRow.toRowW PySem.Challenge.rw_eachonce_k42_against_of_anything.row)) s) (XP:=XL Eo.vw []) (Yf:=Hook.obs Eo.kH) (Ya:=Hook.val Eo.kH) (YP:=Hook.says Eo.kH) (N:=6900) Eo.left (Hook.of Eo.kH) (Hook.keeps Eo.kH) (fun s e=>xl_of s (e8.mp e).1) XL.keeps (by rfl) (by rfl) (by rfl) (fun s e=>recFacts_of (e8.mp e).2) rfl said (by decide+kernel) ⟨rfl,rfl,rfl,rfl,rfl,by decide+kernel⟩ ?hw ?hc
 case hw=>w_witness2
 refine Eo.walk (l:=PySem.Challenge.rw_eachonce_k42_against_of_anything) (K:=Eo.kK) rfl rfl (fun w h Y=>kIn_of Y) ?F
 case F=>
  intro w mg fa h KX G hmg
  k_fill
  refine' Eo.all_mk KX G hmg _ _ _ _ _ _ _ _ _ _ _ _ _ _ _ _ _ _ _ _ _ _ _ _ _ _ _ _ _ _ _ _ _ _ _ _ _ _ _ _ _ _ _ _ _ _ _ _ _ _ _ _ _ _ _ _ _ _ _ _ _ _ _ _ _ _ _ _ _ _ _ _ _ _ _ _ _ _ _ _ _ _ _ _ _ _ _ _ _ _ _ _ _ _ _ _ _ _ _ _ _ _ _ _ _ _ _ _ _ _ _
  all_goals try k_is
end
