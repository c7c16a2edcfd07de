import PyProof.Rows.All
import Open.Line
import Open.Pieces
import KE.KDictList
import KE.KDictOf
import KE.KFromBytes
import KE.KIsAll
import KE.KLam
import KE.KNestM
import KE.KSortTup
import PySem.Challenge.RW_eachonce_k94_whole_a_shop_made_anew
noncomputable section
structure PySem.W.Fast:Prop where(tw783925798295960377 tw10025953533916655770 tw4179587618981414938 tw17617921099951320563 tw1113725989989613747 tw950204249857737388 tw13846621993441332359 tw17398904974130460596 tw16012479432709850605 tw15840896388989537749 tw16538040044719919841 tw12234460151205858743 tw14609912728988129401 tw3535879185005294009 tw15285946820499535141 tw6957137105426576183 tw13920227603408590825 tw8608995903440786698 tw9478453488144649295 tw4629895686737024034 tw6421412378469275189 tw3485888562122699742 tw2160888435161826030 tw17498293432089340563 tw17632708997916603382 tw5506475866551315822 tw14758090156071525550 tw16516948033362544648 tw9851398881094548821 tw14581330359561793263 tw9311283954252535986 tw6322358707389497974 tw8212553984263892588 tw8136868763125374685 tw17386875513373709730 tw6024387496831380716 tw16711800089401258382 tw8238837662643606586 tw7113948980459996195 tw9485660130279174967 tw7404058071734361547 tw465746718130756590 tw15908848986704263439 tw9963198138091451814 tw7840027633898741508 tw4030438784009036451 tw10789047071044815292 tw11550011327695182184 tw8648250320088692429 tw2627873463642785067 tw15299288389326017003 tw17447060570133841297 tw8083348518700890574 tw5377057323394086256 tw234725700352703299 tw5318471986192823553 tw5954442908050247882 tw13097407313409267509 tw5630019673310624746 tw16863224608105440085 tw3778131003086899773 tw9413638291324170437 tw2951078998218931948 tw1033459650761925477 tw12086118721593476989 tw8659267342419236674 tw10287330620585088485 tw426495052499255555 tw4885966077308144364 tw4598780244809494589 tw13755575237889328163 tw11237547035392278398 tw13092175484956471807 tw18356700814304571753 tw17571426098113321048 tw2320737100768246677 tw5716773232220723115 tw12221170162420575396 tw4446226265776471394 tw762933617226927021 tw16821469979729359082 tw16408811984210720544 tw5110893226975027313 tw7113500926069915866 tw5023157280300266538 tw854808786263988897 tw1753188282855560980 tw16183354553642116864 tw2167315022261462620 tw8702095626372690556 tw8279046327302370128 tw2937057966410777650 tw7962464429258218383 tw13038683766945018787 tw4062658981690683963 tw7064733233798987975 tw10815136083452643890:True)

set_option Elab.async false
set_option linter.all false
set_option maxRecDepth 100000
theorem AK{p:Prop}(h:p:=by kernel_rfl):p:=h
theorem Aa{p:Prop}(h:p:=by lia):p:=h
theorem Ab{p:Prop}(h:p:=by decide+kernel):p:=h
theorem Ac{p:Prop}(h:p:=by decide):p:=h
def Ad{p:Prop}(h:p:=by simp):p:=h
abbrev Ae:=List (List Int×Int)
abbrev Af:=List (List Int)
abbrev Ag:=List Int
abbrev Ah:=PySem.Value->PySem.Shared->Prop
abbrev Ai:=List (PySem.Addr×PySem.Obj)
abbrev Aj:=List (PySem.Str×PySem.Addr)
abbrev Ak:=PySem.Str->Option PySem.Value
abbrev Al:=List PySem.Value
abbrev Am:=List PySem.Str
abbrev An:=Array PySem.Value
abbrev Ao:=Option PySem.Value
def ab:=@PySem.wpAny_bind
def ae:=@PySem.Heap.get?_push_of_some
def af:=@List.length_map
def ag:=@List.mem_cons_of_mem
def ah:=@PySem.wpAny_pure
def ai:=@List.mem_cons_self
def aj:=@List.getElem?_eq_some_iff
def ak:=@List.length_append
def am:=@Bool.false_ne_true
def ao:=@PySem.Heap.get?_push_size
def aq:=@if_neg
def ar:=@Nat.le_refl
def ax:=@if_pos
def ay:=@decide_eq_true
def az:=@List.getElem?_eq_getElem
def aA:=@List.mem_cons
def aB:=@List.getD_eq_getElem?_getD
def aC:=@PySem.Heap.lt_size
def aE:=@List.mem_append_right
def aF:=@List.mem_singleton
def aG:=@PyProof.Rows.wpS_bind
def aH:=@decide_eq_false
def aI:=@Array.length_toList
def aJ:=@List.mem_of_getElem?
def aK:=@List.size_toArray
def aL:=@PyProof.Rows.wpS_pure
def aM:=@List.mem_append
def aN:=@PySem.sizeLine_eq
def aO:=@Nat.ne_of_lt
def aP:=@of_decide_eq_true
def aQ:=@List.getElem?_map
def aR:=@Nat.lt_of_lt_of_le
def aS:=@List.not_mem_nil
def aU:=@List.map_append
def aV:=@List.length_cons
def aW:=@List.map_cons
def aX:=@Int.toNat_natCast
def aY:=@List.append_assoc
def aZ:=@List.mem_append_left
def ba:=@Nat.zero_le
def be:=@List.getElem?_append_right
def bf:=@List.take_add_one
def bg:=@List.append_nil
def bh:=@List.mem_map
def bi:=@List.length_take
def bj:=@PySem.W.mg_none_of
def bo:=@Option.some.inj
def bq:=@List.take_length
def br:=@Array.toList_append
def bu:=@PySem.Heap.get?_update_other
def bv:=@List.mem_filter
def bw:=@List.take_append_drop
def bx:=@List.take_of_length_le
def bz:=@List.lookup_cons
def bA:=@Nat.le_trans
def bB:=@List.length_filter_le
def bC:=@Bool.and_eq_true
def bD:=@PySem.wpAny_setField_rec
def bE:=@PySem.wpAny_holding
def bF:=@PySem.wpAny_callSpecial?_slot
def bG:=@List.pairwise_map
def bH:=@Array.getElem?_toList
def bI:=@decide_eq_true_iff
def bJ:=@PySem.PassesOwn.never
def bK:=@List.getElem?_append_left
def bL:=@beq_eq_false_iff_ne
def bM:=@List.length_take_le
def bN:=@List.map_map
def bO:=@List.getElem?_of_mem
def bP:=@List.mem_of_mem_take
def bQ:=@PySem.wpAny_call_entry
def bR:=@List.mem_range
def bS:=@List.filter_append
def bU:=@PySem.wpAny_field
def bV:=@PySem.mem_of_lookup
def bW:=@congrArg
def bX:=@or_false
def bY:=@List.pairwise_iff_getElem
def bZ:=@PySem.wpAny_newObj_type
def b8:=@List.length_range
def b9:=@PyProof.Rows.wpS_forRange
def cb:=@PySem.wpAny_mono
def ce:=@Ne.symm
def cf:=@PyProof.Rows.slot_tuple_getitem
def cg:=@List.nodup_cons
def ci:=@PySem.Heap.size_push
def cj:=@List.all_eq_true
def ck:=@PySem.Around.under_plainId
def cm:=@PySem.codeAny_builtin
def cn:=@List.getElem?_take_of_lt
def cq:=@List.getElem?_range
def cr:=@Nat.ne_of_gt
def cw:=@PySem.F.plainAttrs_list
def cx:=@PySem.wpAny_Call_Name_kw
def cy:=@List.pairwise_append
def cz:=@Array.perm_iff_toList_perm
def cA:=@Nat.pow_le_pow_right
def cB:=@Bool.eq_iff_iff
def cC:=@PySem.W.kia_one
def cD:=@PySem.wpAny_loadPart'
def cE:=@List.length_nil
def cF:=@Int.le_of_lt
def cG:=@PySem.wpAny_rule
def cH:=@List.map_congr_left
def cI:=@List.eq_nil_of_length_eq_zero
def cJ:=@List.mem_of_mem_drop
def cK:=@List.getElem_mem
def cL:=@Int.le_refl
def cM:=@Nat.add_sub_cancel_left
def cN:=@PyProof.Rows.callWith_type1
def cO:=@Nat.lt_irrefl
def cP:=@Nat.lt_succ_of_lt
def cQ:=@Int.le_trans
def cR:=@Nat.mod_two_eq_zero_or_one
def cS:=@List.Perm.append_left
def cU:=@List.getElem?_eq_none
def cV:=@Nat.le_of_lt
def cW:=@PySem.codeAny_mono
def cX:=@Array.toArray_toList
def cY:=@PyProof.Rows.wpS_mono
def cZ:=@Array.toList_reverse
def da:=@PySem.wpAny_truthy_bool
def db:=@PySem.wpAny_pyIter_list
def de:=@PySem.wpAny_setState_of
def df:=@Bool.not_eq_true'
def dh:=@List.pairwise_singleton
def di:=@List.of_mem_zip
def dj:=@PySem.W.codeHd_of_K
def dv:=@PySem.sizeLine_eq
def dw:=@PySem.wpAny_attempt
def dy:=@List.length_drop
def dz:=@List.pairwise_cons
def dA:=@PySem.wpAny_seqItems
def dB:=@PySem.Heap.get?_update_self
def dC:=@List.perm_append_comm
def dD:=@List.extract_eq_take_drop
def dE:=@Classical.byContradiction
def dF:=@PySem.wpAny_passesOwn
def dG:=@List.find?_cons
def dH:=@Nat.le_succ
def dI:=@List.take_sublist
def dJ:=@Array.toList_push
def dL:=@Bool.eq_false_iff
def dM:=@PyProof.Rows.listUpdate_at
def dN:=@List.idxOf_lt_length_iff
def dO:=@PySem.F.slot_list_append
def dP:=@PySem.F.type_list_append
def dQ:=@List.getElem_of_mem
def dR:=@List.mem_map_of_mem
def dS:=@PySem.F.plain_list_iadd
def dU:=@List.filter_cons
def dW:=@decide_eq_decide
def dX:=@List.zip_cons_cons
def dY:=@Nat.lt_trans
def dZ:=@PyProof.Rows.wpS_modify
def d0:=@Nat.not_lt_zero
def d9:=@Nat.two_pow_pos
def eh:=@List.range_succ
def eB:=@PySem.wpAny_standAt
def eC:=@PySem.plainId_quiet
def eD:=@PySem.wpAny_newList
def eE:=@List.nodup_append
def eF:=@Nat.testBit_two_pow_sub_one
def eG:=@Bool.false_and
def eJ:=@beq_iff_eq
def eL:=@PySem.Calls.evalArgs_plain
def eM:=@Array.toList_extract
def eQ:=@List.take_zero
def eR:=@PySem.wpAny_typeOf
def eS:=@PySem.wpAny_askSetting
def eU:=@Nat.le_add_right
def eV:=@Nat.testBit_zero
def eW:=@List.getLastD_eq_getLast?
def eX:=@List.getLast?_eq_getElem?
def eY:=@List.reverse_append
def eZ:=@Int.toNat_of_nonneg
def fb:=@PySem.Paired.length
def fe:=@PySem.F.args_tuple_add_2
def ff:=@List.Pairwise.imp_of_mem
def fg:=@List.sublist_append_left
def fh:=@PyProof.Rows.get?_update_seq
def fi:=@Int.natCast_nonneg
def fj:=@PySem.SeqAt.EqAt.int_int
def fm:=@PySem.tupleKind_room_in1
def fo:=@List.getElem?_drop
def fq:=@of_decide_eq_false
def ft:=@PySem.F.entry_tuple_add
def fu:=@decide_eq_false_iff_not
def fw:=@PySem.W.cellsFrom_some
def fz:=@PySem.F.slot_tuple_add
def fE:=@if_true
def fJ:=@List.map_nil
def fU:=@Option.some.injEq
def fV:=@List.Perm.append_right
def fY:=@Nat.sub_self
def fZ:=@Nat.testBit_lt_two_pow
def ga:=@List.pairwise_lt_range
def gb:=@Nat.testBit_eq_decide_div_mod_eq
def gc:=@List.length_replicate
def gd:=@List.length_singleton
def ge:=@PySem.builtinLookup_eq_fast
def gf:=@PySem.wpAny_load
def gh:=@Nat.lt_succ_self
def gl:=@PySem.wpAny_call
def gm:=@PySem.wpAny_isInstance
def gn:=@List.any_eq_true
def gt:=@List.countP_cons
def gx:=@List.ext_getElem
def gy:=@List.any_cons
def gz:=@PySem.W.mg_of
def gA:=@PyProof.Rows.wpS_get
def gC:=@Sum.inl.inj
def gE:=@PySem.wpAny_updateSeq_pair
def gF:=@Bool.and_eq_true_iff
def gG:=@Array.getElem_toList
def gH:=@PySem.wpAny_execs_nil
def gI:=@List.forIn_cons
def gJ:=@PyProof.Rows.entry_list_sort
def gO:=@List.filterMap_cons
def gQ:=@PySem.W.plainGet_of
def gS:=@PySem.Heap.SameBut.update
def gW:=@PySem.W.callWith_of
def gZ:=@List.filter_eq_self
def g0:=@List.map_eq_nil_iff
def g4:=@PySem.F.plain_proto_collect
def g5:=@PyProof.Rows.listItems_at
def g7:=@PySem.F.slot_int_bit_length
def g8:=@PySem.F.type_int_bit_length
def g9:=@PySem.Calls.Name_function_global
def hG:=@Int.fdiv_eq_ediv_of_nonneg
def hV:=@PySem.W.callWith_K
def h9:=@PySem.wpAny_newFunctionEnv_cells
def ic:=@if_false
def ie:=@PySem.wpAny_runValue
def ig:=@List.nodup_nil
def ik:=@PyProof.Rows.slot_list_sort
def im:=@PyProof.Rows.size_push'
def io:=@PySem.wpAny_newTuple
def iq:=@List.drop_drop
def ir:=@PyProof.Rows.wpS_lift
def iu:=@List.drop_zero
def ix:=@Array.toList_setIfInBounds
def iy:=@Bool.false_eq_true
def iA:=@List.getElem_idxOf
def iB:=@PySem.Calls.call_function_entry
def iC:=@Nat.lt_trichotomy
def iE:=@List.drop_sublist
def iF:=@PySem.wpAny_letGo
def iG:=@Option.isSome_map
def iH:=@PyProof.Rows.seqEpoch_at
def iI:=@bne_self_eq_false
def iJ:=@decide_eq_true_eq
def iK:=@List.map_id
def iM:=@List.getElem?_inj
def iN:=@List.all_cons
def iP:=@not_or
def iQ:=@PySem.wpAny_onRaise
def iR:=@List.sum_cons
def iS:=@List.getElem?_replicate
def iT:=@PySem.noFill_tuple_add
def iU:=@List.length_eq_zero_iff
def iV:=@List.cons_append
def iW:=@List.zipIdx_cons
def iX:=@PySem.Heap.size_update
def iY:=@List.pairwise_mergeSort
def iZ:=@List.filter_cons_of_neg
def i4:=@List.getElem?_set_self
def i5:=@PySem.Walks.list
def i6:=@Nat.sub_zero
def i7:=@List.drop_eq_nil_of_le
def i8:=@Nat.lt_or_ge
def i9:=@PySem.F.plainAttrs_int
def ja:=@PySem.typeLookup_type
def jc:=@PySem.Heap.DictOf.new
def jd:=@PySem.W.keeps_F
def jf:=@List.Perm.of_eq
def jg:=@Array.Perm.refl
def jh:=@List.length_zip
def ji:=@Bool.or_eq_true
def jk:=@PySem.W.methodCall_KW
def jm:=@PySem.F.slot_set_iter
def jn:=@List.set_append_right
def jo:=@PySem.F.slot_list_pop
def jp:=@PySem.F.type_list_pop
def jq:=@List.getElem?_set_ne
def jr:=@Bool.and_false
def jt:=@PySem.isSubtype_type
def ju:=@PySem.isSubtype_stop
def jw:=@List.forIn_nil
def jx:=@Nat.pow_lt_pow_right
def jy:=@Nat.testBit_or
def jz:=@List.reverse_reverse
def ka:=@PySem.W.callWith_K0
def ke:=@Nat.testBit_two_pow
def kf:=@List.mergeSort_perm
def kg:=@Function.comp_apply
def kh:=@Bool.not_true
def ki:=@List.map_take
def kj:=@Bool.true_and
def km:=@Array.append_assoc
def kn:=@List.mem_filterMap
def ko:=@PySem.W.codeRec_of
def kq:=@PySem.call_meets
def ku:=@Nat.lt_of_le_of_lt
def kx:=@Array.empty_append
def kz:=@Nat.add_sub_cancel
def la:=@Int.emod_lt_of_pos
def lb:=@Nat.and_one_is_mod
def lc:=@Int.natAbs_natCast
def lg:=@List.getElem_range
def lh:=@Nat.le_of_eq
def lj:=@Nat.add_comm
def ln:=@Bool.or_true
def lu:=@Nat.add_zero
def lv:=@getElem?_pos
open PySem.W (codeHdIn emptyDict envX findIn fnMade handedIn hasDictIn instObj isFn keepIn kitOne kitx_dict kitx_list kla_obj lookIn makesIn methodObj mg_of mroIn plainGet plainOver tabObj takerIn)
open List (all_map any_map replicate)
open Nat (strongRecOn)
open Array (size_map)
open Option (getD_none map_some)
namespace L2
open PySem PySem.Spec PyProof.Rows
def yT(s:Stmt)(j:Nat):Stmt:=match s with
 | .ClassDef _ _ _ body _ _ _ _ _ _ _=>body.getD j (.Pass ⟨0,0,0,0⟩)
 |_=> .Pass ⟨0,0,0,0⟩
def jU(s:Stmt):Arguments:=match s with
 | .FunctionDef _ a _ _ _ _ _ _ _ _=>a
 |_=>{posonlyargs:=[],args:=[],vararg:=none,kwonlyargs:=[],kw_defaults:=[],kwarg:=none,defaults:=[]}
def jB(s:Stmt):List Stmt:=match s with
 | .FunctionDef _ _ b _ _ _ _ _ _ _=>b
 |_=>[]
def j6(s:Stmt):Scope:=match s with
 | .FunctionDef _ _ _ _ _ _ sc _ _ _=>sc
 |_=>{kind:=.function,names:=[],isGenerator:=false,isCoroutine:=false}
end L2
namespace Eo
open PySem L2
abbrev nL:Str:="law_eachonce_k94_whole_a_shop_made_anew"
noncomputable def top(i:Nat):Stmt:=PySem.Challenge.pw_eachonce_k94_whole_a_shop_made_anew.main.body.getD i (.Pass ⟨0,0,0,0⟩)
abbrev jBV:Stmt:=top 1
abbrev jAD:Stmt:=top 2
abbrev jD7:Stmt:=top 3
abbrev sMask:Stmt:=top 4
abbrev jD6:Stmt:=top 5
abbrev sIsW:Stmt:=top 9
abbrev yE:Stmt:=top 10
abbrev yN:Stmt:=top 20
abbrev sFull:Stmt:=top 21
abbrev sAt:Stmt:=top 22
abbrev sMet:Stmt:=top 23
abbrev xD:Stmt:=top 24
abbrev xB:Stmt:=top 25
abbrev sMany:Stmt:=top 26
abbrev jAZ:Stmt:=top 30
abbrev jAP:Stmt:=top 31
abbrev sBar:Stmt:=top 32
abbrev jAY:Stmt:=top 33
abbrev yY:Stmt:=top 34
abbrev yP:Stmt:=top 35
abbrev yX:Stmt:=top 38
abbrev jB0:Stmt:=top 41
abbrev sInit:Stmt:=yT (top 42) 0
abbrev jAG:Stmt:=yT (top 42) 1
abbrev sPutT:Stmt:=yT (top 42) 2
abbrev sPutP:Stmt:=yT (top 42) 3
abbrev qE:Stmt:=yT (top 42) 4
abbrev qR:Stmt:=yT (top 42) 5
abbrev jBO:Stmt:=yT (top 42) 6
abbrev sRefT:Stmt:=yT (top 42) 7
abbrev sUndo:Stmt:=yT (top 42) 8
abbrev sBoxM:Stmt:=yT (top 42) 9
abbrev jBP:Stmt:=yT (top 42) 10
abbrev jAE:Stmt:=yT (top 42) 11
abbrev jAF:Stmt:=yT (top 42) 12
abbrev sCell:Stmt:=top 44
abbrev sPot:Stmt:=top 45
abbrev sTake:Stmt:=top 46
abbrev sLot:Stmt:=top 47
abbrev sBox:Stmt:=top 48
abbrev jDY:Stmt:=top 49
abbrev sSame:Stmt:=top 50
abbrev jAQ:Stmt:=top 51
abbrev qF:Stmt:=top 52
abbrev jD8:Stmt:=top 53
abbrev sLaw:Stmt:=top 54
noncomputable def kC(x:Str)(t:Nat)(l n:Int)(a:Nat)(X Y:Value)(z:Nat)(u:Int)(v:Nat):Obj:=⟨.type "code",none,.fields #[.str x t,.str x (t+1),.str "/claim/cut.py" (t+2),.int l 0,.int n 0,.int 0 0,.int 0 0,.int 3 0,.ref a,.bool true,.int 181 0,.ref (a+1),.none,X,Y,.ref z,.int u 0,.int l 0,.str "/claim/cut.py" v],#[]⟩
noncomputable def kF(x:Str)(s:Stmt)(m:Str)(t c:Nat):Obj:=⟨.type "function",none,.func (PySem.W.fnOf x x (jU s) (jB s) (j6 s) .none .none .none (.str m t) none (.ref c) .none),#[]⟩
def kCm(x q:Str)(t:Nat)(l n:Int)(a:Nat)(X Y:Value)(z:Nat)(u:Int)(v:Nat):Obj:=⟨.type "code",none,.fields #[.str x t,.str q (t+1),.str "/claim/cut.py" (t+2),.int l 0,.int n 0,.int 0 0,.int 0 0,.int 3 0,.ref a,.bool true,.int 181 0,.ref (a+1),.none,X,Y,.ref z,.int u 0,.int l 0,.str "/claim/cut.py" v],#[]⟩
def kFm(x q:Str)(s:Stmt)(m:Str)(t c:Nat):Obj:=⟨.type "function",none,.func (PySem.W.fnOf x q (jU s) (jB s) (j6 s) .none .none .none (.str m t) none (.ref c) .none),#[]⟩
noncomputable def kE(P:Params)(x:Str)(t:Nat)(v:Value):DictEntry:=⟨PyData.keyHash P x,.str x t,v⟩
noncomputable def kM(P:Params):Obj:=
 let e (x:Str) (t:Nat) (v:Value):DictEntry:=⟨PyData.keyHash P x,.str x t,v⟩
 ⟨.type "dict",none,.dict #[e "__name__" 165 (.str nL 599),e "__doc__" 166 (.none),e "__package__" 167 (.none),e "__loader__" 168 (.builtin "__main__.__loader__#opaque"),e "__spec__" 169 (.none),e "__annotations__" 170 (.ref 6),e "__builtins__" 171 (.ref 4),e "__file__" 173 (.str "/claim/cut.py" 172),e "__cached__" 174 (.none),e "is_whole" 195 (.ref 21),e "is_rising" 201 (.ref 26),e "is_lot" 209 (.ref 33),e "mask_of" 215 (.ref 38),e "lot_of" 221 (.ref 43),e "MOST_THINGS" 225 (.int 16 224),e "MOST_PIECES" 227 (.int 32 226),e "is_weight" 234 (.ref 50),e "picked" 240 (.ref 55),e "OnceError" 260 (.ref 65),e "TooMany" 276 (.ref 78),e "NoThing" 292 (.ref 90),e "NoPiece" 308 (.ref 102),e "NoWeight" 324 (.ref 114),e "Held" 340 (.ref 126),e "NoDeed" 356 (.ref 138),e "choices_of" 364 (.ref 145),e "full_mask" 371 (.ref 152),e "choices_at" 377 (.ref 157),e "masks_met" 390 (.ref 164),e "gathered" 396 (.ref 169),e "ways_of" 403 (.ref 176),e "many" 410 (.ref 183),e "many_coverings" 411 (.ref 183),e "MOST_THINGS_WITH_BARS" 415 (.int 9 414),e "have_common" 421 (.ref 188),e "narrowed" 427 (.ref 193),e "is_bar" 435 (.ref 200),e "is_within" 441 (.ref 205),e "least_lots" 447 (.ref 210),e "least_bars" 455 (.ref 217),e "least_bars_bars" 456 (.ref 217),e "lightest" 468 (.ref 224),e "lightest_lightest" 469 (.ref 224),e "all_but" 477 (.ref 229),e "Shop" 598 (.ref 326),e "_law_cell_at" 608 (.ref 337),e "_law_pot" 618 (.ref 344),e "_law_take" 627 (.ref 351),e "_law_lot" 633 (.ref 356),e "_law_box" 639 (.ref 361),e "_law_whole" 646 (.ref 368),e "_law_same" 652 (.ref 373),e "_law_filled" 663 (.ref 380),e "_law_otherwise" 669 (.ref 385),e "_law_asked" 678 (.ref 392),e "law" 693 (.ref 399)] 56,#[]⟩
noncomputable def kK(P:Params):W.Frag:=(nat_lit 3,kM P)::(nat_lit 4,⟨.type "module",some 0,.plain,#[]⟩)::(nat_lit 20,kC "is_whole" 189 2 1 15 (.ref 17) (.ref 18) 19 193 194)::(nat_lit 21,kF "is_whole" jBV "eachonce.kinds" 187 20)::(nat_lit 25,kC "is_rising" 196 4 1 22 (.none) (.none) 24 199 200)::(nat_lit 26,kF "is_rising" jAD "eachonce.kinds" 187 25)::(nat_lit 32,kC "is_lot" 202 10 2 27 (.ref 29) (.ref 30) 31 207 208)::(nat_lit 33,kF "is_lot" jD7 "eachonce.kinds" 187 32)::(nat_lit 37,kC "mask_of" 210 14 1 34 (.none) (.none) 36 213 214)::(nat_lit 38,kF "mask_of" sMask "eachonce.kinds" 187 37)::(nat_lit 42,kC "lot_of" 216 16 1 39 (.none) (.none) 41 219 220)::(nat_lit 43,kF "lot_of" jD6 "eachonce.kinds" 187 42)::(nat_lit 49,kC "is_weight" 228 21 1 44 (.ref 46) (.ref 47) 48 232 233)::(nat_lit 50,kF "is_weight" sIsW "eachonce.boxes" 222 49)::(nat_lit 54,kC "picked" 235 23 3 51 (.none) (.none) 53 238 239)::(nat_lit 55,kF "picked" yE "eachonce.boxes" 222 54)::(nat_lit 144,kC "choices_of" 359 45 1 141 (.none) (.none) 143 362 363)::(nat_lit 145,kF "choices_of" yN "eachonce.coverings" 357 144)::(nat_lit 151,kC "full_mask" 365 50 1 146 (.ref 148) (.ref 149) 150 369 370)::(nat_lit 152,kF "full_mask" sFull "eachonce.coverings" 357 151)::(nat_lit 156,kC "choices_at" 372 52 2 153 (.none) (.none) 155 375 376)::(nat_lit 157,kF "choices_at" sAt "eachonce.coverings" 357 156)::(nat_lit 163,kC "masks_met" 378 55 1 158 (.ref 160) (.ref 161) 162 388 389)::(nat_lit 164,kF "masks_met" sMet "eachonce.coverings" 357 163)::(nat_lit 168,kC "gathered" 391 67 3 165 (.none) (.none) 167 394 395)::(nat_lit 169,kF "gathered" xD "eachonce.coverings" 357 168)::(nat_lit 175,kC "ways_of" 397 76 1 170 (.ref 172) (.ref 173) 174 401 402)::(nat_lit 176,kF "ways_of" xB "eachonce.coverings" 357 175)::(nat_lit 182,kC "many" 404 78 1 177 (.ref 179) (.ref 180) 181 408 409)::(nat_lit 183,kF "many" sMany "eachonce.coverings" 357 182)::(nat_lit 187,kC "have_common" 416 83 2 184 (.none) (.none) 186 419 420)::(nat_lit 188,kF "have_common" jAZ "eachonce.bars" 412 187)::(nat_lit 192,kC "narrowed" 422 85 2 189 (.none) (.none) 191 425 426)::(nat_lit 193,kF "narrowed" jAP "eachonce.bars" 412 192)::(nat_lit 199,kC "is_bar" 428 89 2 194 (.ref 196) (.ref 197) 198 433 434)::(nat_lit 200,kF "is_bar" sBar "eachonce.bars" 412 199)::(nat_lit 204,kC "is_within" 436 91 2 201 (.none) (.none) 203 439 440)::(nat_lit 205,kF "is_within" jAY "eachonce.bars" 412 204)::(nat_lit 209,kC "least_lots" 442 93 2 206 (.none) (.none) 208 445 446)::(nat_lit 210,kF "least_lots" yY "eachonce.bars" 412 209)::(nat_lit 216,kC "least_bars" 448 99 1 211 (.ref 213) (.ref 214) 215 453 454)::(nat_lit 217,kF "least_bars" yP "eachonce.bars" 412 216)::(nat_lit 223,kC "lightest" 459 105 1 218 (.ref 220) (.ref 221) 222 466 467)::(nat_lit 224,kF "lightest" yX "eachonce.lightest" 457 223)::(nat_lit 228,kC "all_but" 472 121 2 225 (.none) (.none) 227 475 476)::(nat_lit 229,kF "all_but" jB0 "eachonce.shop" 470 228)::(nat_lit 242,kCm "__init__" "Shop.__init__" 490 125 1 237 (.ref 239) (.ref 240) 241 494 495)::(nat_lit 243,kFm "__init__" "Shop.__init__" sInit "eachonce.shop" 470 242)::(nat_lit 249,kCm "become" "Shop.become" 497 129 2 244 (.ref 246) (.ref 247) 248 502 503)::(nat_lit 250,kFm "become" "Shop.become" jAG "eachonce.shop" 470 249)::(nat_lit 256,kCm "put_thing" "Shop.put_thing" 505 133 2 251 (.ref 253) (.ref 254) 255 512 513)::(nat_lit 257,kFm "put_thing" "Shop.put_thing" sPutT "eachonce.shop" 470 256)::(nat_lit 263,kCm "put_piece" "Shop.put_piece" 515 141 3 258 (.ref 260) (.ref 261) 262 522 523)::(nat_lit 264,kFm "put_piece" "Shop.put_piece" sPutP "eachonce.shop" 470 263)::(nat_lit 268,kCm "turn_thing" "Shop.turn_thing" 525 152 2 265 (.none) (.none) 267 528 529)::(nat_lit 269,kFm "turn_thing" "Shop.turn_thing" qE "eachonce.shop" 470 268)::(nat_lit 273,kCm "take_thing" "Shop.take_thing" 531 158 2 270 (.none) (.none) 272 534 535)::(nat_lit 274,kFm "take_thing" "Shop.take_thing" qR "eachonce.shop" 470 273)::(nat_lit 280,kCm "take_piece" "Shop.take_piece" 537 164 2 275 (.ref 277) (.ref 278) 279 543 544)::(nat_lit 281,kFm "take_piece" "Shop.take_piece" jBO "eachonce.shop" 470 280)::(nat_lit 287,kCm "refuse_no_thing" "Shop.refuse_no_thing" 546 170 2 282 (.ref 284) (.ref 285) 286 551 552)::(nat_lit 288,kFm "refuse_no_thing" "Shop.refuse_no_thing" sRefT "eachonce.shop" 470 287)::(nat_lit 294,kCm "undo" "Shop.undo" 554 174 1 289 (.ref 291) (.ref 292) 293 558 559)::(nat_lit 295,kFm "undo" "Shop.undo" sUndo "eachonce.shop" 470 294)::(nat_lit 301,kCm "box" "Shop.box" 561 179 1 296 (.ref 298) (.ref 299) 300 565 566)::(nat_lit 302,kFm "box" "Shop.box" sBoxM "eachonce.shop" 470 301)::(nat_lit 308,kCm "many" "Shop.many" 568 182 1 303 (.ref 305) (.ref 306) 307 572 573)::(nat_lit 309,kFm "many" "Shop.many" jBP "eachonce.shop" 470 308)::(nat_lit 315,kCm "lightest" "Shop.lightest" 575 185 1 310 (.ref 312) (.ref 313) 314 579 580)::(nat_lit 316,kFm "lightest" "Shop.lightest" jAE "eachonce.shop" 470 315)::(nat_lit 322,kCm "least_bars" "Shop.least_bars" 582 188 1 317 (.ref 319) (.ref 320) 321 586 587)::(nat_lit 323,kFm "least_bars" "Shop.least_bars" jAF "eachonce.shop" 470 322)::(nat_lit 325,⟨.type "dict",none,.dict #[kE P "__module__" 485 (.str "eachonce.shop" 470),kE P "__firstlineno__" 489 (.int 123 488),kE P "__init__" 496 (.ref 243),kE P "become" 504 (.ref 250),kE P "put_thing" 514 (.ref 257),kE P "put_piece" 524 (.ref 264),kE P "turn_thing" 530 (.ref 269),kE P "take_thing" 536 (.ref 274),kE P "take_piece" 545 (.ref 281),kE P "refuse_no_thing" 553 (.ref 288),kE P "undo" 560 (.ref 295),kE P "box" 567 (.ref 302),kE P "many" 574 (.ref 309),kE P "lightest" 581 (.ref 316),kE P "least_bars" 588 (.ref 323),kE P "__static_attributes__" 591 (.ref 324),kE P "__dict__" 593 (.ref 327),kE P "__weakref__" 595 (.ref 328),kE P "__doc__" 596 (.none)] 4,#[]⟩)::(nat_lit 326,⟨.type "type",none,.cls {name:= "Shop",bases:=[.type "object"],mro:=[.ref 326,.type "object"],ns:=325,qualname:= "Shop",subclasses:=[]},#[none,none,some (.str "Shop" 478),some (.str "Shop" 486),some (.builtin "object.__new__"),some (.bool true)]⟩)::(nat_lit 336,kC "_law_cell_at" 601 191 2 331 (.ref 333) (.ref 334) 335 606 607)::(nat_lit 337,kF "_law_cell_at" sCell nL 599 336)::(nat_lit 343,kC "_law_pot" 609 195 1 338 (.ref 340) (.ref 341) 342 616 617)::(nat_lit 344,kF "_law_pot" sPot nL 599 343)::(nat_lit 350,kC "_law_take" 619 204 2 345 (.ref 347) (.ref 348) 349 625 626)::(nat_lit 351,kF "_law_take" sTake nL 599 350)::(nat_lit 355,kC "_law_lot" 628 208 2 352 (.none) (.none) 354 631 632)::(nat_lit 356,kF "_law_lot" sLot nL 599 355)::(nat_lit 360,kC "_law_box" 634 217 3 357 (.none) (.none) 359 637 638)::(nat_lit 361,kF "_law_box" sBox nL 599 360)::(nat_lit 367,kC "_law_whole" 640 235 1 362 (.ref 364) (.ref 365) 366 644 645)::(nat_lit 368,kF "_law_whole" jDY nL 599 367)::(nat_lit 372,kC "_law_same" 647 237 2 369 (.none) (.none) 371 650 651)::(nat_lit 373,kF "_law_same" sSame nL 599 372)::(nat_lit 379,kC "_law_filled" 653 249 1 374 (.ref 376) (.ref 377) 378 661 662)::(nat_lit 380,kF "_law_filled" jAQ nL 599 379)::(nat_lit 384,kC "_law_otherwise" 664 256 2 381 (.none) (.none) 383 667 668)::(nat_lit 385,kF "_law_otherwise" qF nL 599 384)::(nat_lit 391,kC "_law_asked" 670 272 2 386 (.ref 388) (.ref 389) 390 676 677)::(nat_lit 392,kF "_law_asked" jD8 nL 599 391)::(nat_lit 398,kC "law" 679 275 1 393 (.ref 395) (.ref 396) 397 691 692)::(nat_lit 399,kF "law" sLaw nL 599 398)::[]
noncomputable def kA:List Addr:=[3,4,20,21,25,26,32,33,37,38,42,43,49,50,54,55,144,145,151,152,156,157,163,164,168,169,175,176,182,183,187,188,192,193,199,200,204,205,209,210,216,217,223,224,228,229,242,243,249,250,256,257,263,264,268,269,273,274,280,281,287,288,294,295,301,302,308,309,315,316,322,323,325,326,336,337,343,344,350,351,355,356,360,361,367,368,372,373,379,380,384,385,391,392,398,399]
noncomputable def vw:Program:= {PySem.Challenge.pw_eachonce_k94_whole_a_shop_made_anew with main:= {PySem.Challenge.pw_eachonce_k94_whole_a_shop_made_anew.main with body:=[top 1,top 2,top 3,top 4,top 5,top 7,top 8,top 9,top 10,top 12,top 13,top 14,top 15,top 16,top 17,top 18,top 20,top 21,top 22,top 23,top 24,top 25,top 26,top 27,top 29,top 30,top 31,top 32,top 33,top 34,top 35,top 36,top 38,top 39,top 41,top 42,top 44,top 45,top 46,top 47,top 48,top 49,top 50,top 51,top 52,top 53,top 54]}}
def kA_eq:∀P,kA=(kK P).map (·.1):=λ_=>by kernel_rfl
noncomputable abbrev kH:PySem.W.Hook:=PySem.W.kmHook kK kA kA_eq [52,171,207,212,219]
end Eo
section
namespace L2
open PySem PySem.Spec PyProof.Rows
variable {K:W.Frag}{f:Value->Value->Sem Value}{u:Value}{b a dx:Addr}{x:Str}{pl:Sem Bool}{op:CmpOp}{Aq:Heap}{Q E:Ah}{fp:List Addr}{body:List Stmt}{Ap:List Env}{tg c l e:Expr}{us:Al}{mg:Ak}{kw:List (Str×Value)}{o:Obj}{kindOf:Str->Option NameKind}{g:Int->Int->Int}{es:List Expr}{fd:FuncData}{N:Am}{α:Type}{p:Pos}{j:Nat}{i:Int}
abbrev Key:=Sum Int Str
def keyIs:Key->Value->Bool
 | .inl k,v=>Value.isInt k v
 | .inr x,v=>Value.isStrOf x v
def keyH(w:World):Key->Int
 | .inl k=>hashInt k
 | .inr x=>hashStr w x
def jA0:∀{k:Key}{v:Value},keyIs k v=true->(∃i t,k=Sum.inl i/\v=Value.int i t)\/(∃x t,k=Sum.inr x/\v=Value.str x t)
 | .inl i,v,h=>by
  obtain⟨t,e⟩:=Value.isInt_shape (k:=i) (v:=v) h;exact .inl ⟨i,t,rfl,e⟩
 | .inr x,v,h=>by
  obtain⟨t,e⟩:=Value.isStrOf_shape (x:=x) (v:=v) h;exact .inr ⟨x,t,rfl,e⟩
def jOA(i:Int)(t:Tok):keyIs (.inl i) (.int i t)=true:=by simp[keyIs,Value.isInt]
def jO9(x:Str)(t:Tok):keyIs (.inr x) (.str x t)=true:=by simp[keyIs,Value.isStrOf]
theorem jXD(a b:Int):decide ((Sum.inl a:Key)=Sum.inl b)=(a==b):=by
 by_cases e:a=b
 .subst e;simp
 .have h:¬(Sum.inl a:Key)=Sum.inl b:=λq=>e (gC q);rw[aH h];exact(bL.mpr e).symm
theorem jXA(a b:Str):decide ((Sum.inr a:Key)=Sum.inr b)=decide (a=b):=by
 by_cases e:a=b
 .subst e;simp
 .have h:¬(Sum.inr a:Key)=Sum.inr b:=λq=>e (Sum.inr.inj q);rw[aH h,aH e]
theorem jXC(a:Int)(b:Str):decide ((Sum.inl a:Key)=Sum.inr b)=false:=aH (λq=>nomatch q)
theorem jXB(a:Str)(b:Int):decide ((Sum.inr a:Key)=Sum.inl b)=false:=aH (λq=>nomatch q)
def y6(prog:Program)(w:World):PySem.KeyKind prog w Key where
 is:=keyIs
 hash:=keyH w
 inj:=λv a b ha hb=>by
  rcases jA0 ha with ⟨i,t,rfl,rfl⟩|⟨x,t,rfl,rfl⟩
  .rcases jA0 hb with ⟨j,u,rfl,e⟩|⟨y,u,rfl,e⟩
   .injection e with e1 _;rw[e1]
   .exact nomatch e
  .rcases jA0 hb with ⟨j,u,rfl,e⟩|⟨y,u,rfl,e⟩
   .exact nomatch e
   .injection e with e1 _;rw[e1]
 byValue:=λk v h=>by
  rcases jA0 h with ⟨i,t,rfl,rfl⟩|⟨x,t,rfl,rfl⟩<;>rfl
 pyHash:=λhv h=>by
  rcases jA0 hv with ⟨i,t,rfl,rfl⟩|⟨x,t,rfl,rfl⟩
  .exact wpAny_pyHash_int h
  .exact wpAny_pyHash_str h
 eqBool:=λhu hv h=>by
  rcases jA0 hu with ⟨i,t,rfl,rfl⟩|⟨x,t,rfl,rfl⟩
  .rcases jA0 hv with ⟨j,u,rfl,rfl⟩|⟨y,u,rfl,rfl⟩
   .rw[jXD] at h;exact wpAny_eqBool_int h
   .rw[jXC] at h;exact SeqAt.EqAt.int_str i t y u _ _ _ _ h
  .rcases jA0 hv with ⟨j,u,rfl,rfl⟩|⟨y,u,rfl,rfl⟩
   .rw[jXB] at h;exact SeqAt.EqAt.str_int x t j u _ _ _ _ h
   .rw[jXA] at h;exact wpAny_eqBool_str h
 «strs»:=λk x t v h=>by
  rcases jA0 h with ⟨i,u,rfl,e⟩|⟨y,u,rfl,e⟩
  .exact nomatch e
  .injection e with e1 _;subst e1;cases v<;>rfl
def jIW(prog:Program)(w:World)(i:Int)(t:Tok):(y6 prog w).is (.inl i) (.int i t)=true:=jOA i t
def jIV(prog:Program)(w:World)(x:Str)(t:Tok):(y6 prog w).is (.inr x) (.str x t)=true:=jO9 x t
inductive V where
 |non|bl (b:Bool)|int (i:Int)|str (x:Str)|byt (b:Array UInt8)|flt (b:UInt64)|ref (a:Addr)|ty (n:String)
 deriving DecidableEq
def RelV:V->Value->Prop
 | .non,u=>u=Value.none
 | .bl b,u=>u=Value.bool b
 | .int i,u=>∃t,u=Value.int i t
 | .str x,u=>∃t,u=Value.str x t
 | .byt b,u=>∃t,u=Value.bytes b t
 | .flt b,u=>∃t,u=Value.float b t
 | .ref a,u=>u=Value.ref a
 | .ty n,u=>u=Value.type n
abbrev Vals:List V->Al->Prop:=Paired RelV
def Vals.length{xs:List V}{us:Al}(r:Vals xs us):xs.length=us.length:=fb r
def Vals.get:∀{xs:List V}{us:Al}{i:Nat}{x:V},Vals xs us->xs[i]?=some x->∃u,us[i]?=some u/\RelV x u
 |_,_,_,_,.nil,e=>by simp at e
 |_,_,0,_,.cons r _,e=>by simp at e;subst e;exact⟨_,rfl,r⟩
 |_,_,i+1,x,.cons _ t,e=>by
  obtain⟨u,h1,h2⟩:=Vals.get (i:=i) (x:=x) t (by simpa using e);exact⟨u,by simpa using h1,h2⟩
def Vals.set{x:V}{u:Value}(r:RelV x u):∀{xs:List V}{us:Al}(i:Nat),Vals xs us->Vals (xs.set i x) (us.set i u)
 |_,_,_,.nil=> .nil
 |_,_,0,.cons _ t=> .cons r t
 |_,_,i+1,.cons q t=> .cons q (Vals.set r i t)
def Vals.append:∀{xs ys:List V}{us ws:Al},Vals xs us->Vals ys ws->Vals (xs++ys) (us++ws)
 |_,_,_,_,.nil,s=>s
 |_,_,_,_,.cons r t,s=> .cons r (Vals.append t s)
def Vals.take:∀{xs:List V}{us:Al}(n:Nat),Vals xs us->Vals (xs.take n) (us.take n)
 |_,_,0,_=> .nil
 |_,_,_+1,.nil=> .nil
 |_,_,n+1,.cons r t=> .cons r (Vals.take n t)
def Vals.drop:∀{xs:List V}{us:Al}(n:Nat),Vals xs us->Vals (xs.drop n) (us.drop n)
 |_,_,0,r=>r
 |_,_,_+1,.nil=> .nil
 |_,_,n+1,.cons _ t=>Vals.drop n t
def RelO:Option V->Ao->Prop
 |some v,some u=>RelV v u
 |none,none=>True
 |_,_=>False
def KV{κ:Type}:List (κ×V)->List (κ×Value)->Prop:=Paired λ(p:κ×V) (q:κ×Value)=>p.1=q.1/\RelV p.2 q.2
noncomputable def kV:Key->V
 | .inl i=> .int i
 | .inr x=> .str x
def TupO(h:Heap)(a:Addr)(items:An):Prop:=∃n,h.get? a=some {cls:=.type "tuple",data:=.seq items n}
def TupO.isTup{h:Heap}{items:An}(x:TupO h a items):IsTup h a items:=let ⟨n,e⟩:=x;⟨_,e,rfl,n,rfl⟩
def TupO.new(h:Heap)(items:An):TupO (h.push {cls:=.type "tuple",data:=.seq items}) h.objs.size items:=⟨0,ao _ rfl⟩
inductive HO where
  |lst (xs:List V)
  |tup (xs:List V)
  |dK (kvs:List (Key×V))|dT (kvs:List (List Key×V))
  |set (S:Int->Bool) (n:Nat)
  |ins (C dx:Addr) (fs:List (Str×V))
  |own (x:Addr)
  |xd (fs:List (Str×V))
  |met (f x:Addr)
  |rng (lo hi:Int)
  |frz (o:Obj) (u:HO)
  |tbl (ps:An)
  |ext (φ:Heap->Prop)
abbrev Hp:=Addr->Option HO
def upd(H:Hp)(a:Addr)(o:HO):Hp:=λb=>if b=a then some o else H b
variable {H:Hp}
def j7{o:HO}:upd H a o a=some o:=by unfold upd;rw[ax rfl]
def j8{o:HO}(h:b≠a):upd H a o b=H b:=by unfold upd;rw[aq h]
def ne_of{o u:HO}(h:H a=some o)(h':H b=some u)(d:o≠u):a≠b:=by
 intro e;subst e;rw[h] at h';exact d (bo h')
def jA{o:HO}(h:H a=some o)(h':H b=none):a≠b:=by
 intro e;subst e;rw[h] at h';cases h'
section
variable (P:Program)(w:World)
def ObjOk(H:Hp)(h:Heap)(a:Addr):HO->Prop
 | .lst xs=>xs.length<=sizeLine/\∃(its:Al) (n:Nat),Vals xs its/\h.get? a=some {cls:=.type "list",data:=.seq its.toArray n}
 | .tup xs=>xs.length<=sizeLine/\∃its:Al,Vals xs its/\TupO h a its.toArray
 | .dK kvs=>kvs.length<=sizeLine/\(a==sysModules)=false/\∃vs,KV kvs vs/\h.DictOf (y6 P w) a vs
 | .dT kvs=>kvs.length<=sizeLine/\(a==sysModules)=false/\∃xs:List (List Key×Addr×Value),
   Paired (λ(p:List Key×V) (q:List Key×Addr×Value)=>p.1=q.1/\H q.2.1=some (.tup (p.1.map kV))/\RelV p.2 q.2.2) kvs xs/\
   ∃o es ep,h.get? a=some o/\o.ExactDict/\o.data=.dict es ep/\es.toList=xs.map (entryOfKey (tupleKind (y6 P w)))/\(xs.map (·.1)).Nodup
 | .set S n=>h.SetOf (intKind P w) a S n
 | .ins C dx fs=>H dx=some (.own a)/\fs.length<=1000/\dx≠a/\h.get? a=some (instObj C dx)/\
   ∃mA,h.Ns1 dx mA/\(∀f,RelO (fs.lookup f) (mA f))/\PySem.Within mA (fs.map (·.1))
 | .own _=>∃o,h.get? a=some o
 | .xd fs=>∃mA,h.Ns1 a mA/\∀f,RelO (fs.lookup f) (mA f)
 | .rng lo hi=>∃t u v,h.get? a=some {cls:=.type "range",data:=.fields #[.int lo t,.int hi u,.int 1 v]}
 | .frz o u=>h.get? a=some o/\ObjOk H h a u
 | .tbl ps=>h.get? a=some {cls:=.none,data:=.fields ps}
 | .met f x=>h.get? a=some (methodObj (.ref f) (.ref x))
 | .ext φ=>φ h/\(∃o,h.get? a=some o)/\∀h1 h2:Heap,φ h1->(∀o,h1.get? a=some o->h2.get? a=some o)->φ h2
def HOk(H:Hp)(h:Heap):Prop:=∀a o,H a=some o->ObjOk P w H h a o
end
variable {P:Program}{w:World}{H H':Hp}{h h':Heap}{a:Addr}
section
variable {o:HO}
def ObjOk.lt(x:ObjOk P w H h a o):a<h.objs.size:=by
 cases o with
 |lst xs=>obtain⟨_,_,_,_,e⟩:=x;exact aC e
 |tup xs=>obtain⟨_,_,_,_,e⟩:=x;exact aC e
 |dK kvs=>obtain⟨_,_,_,_,o,_,_,e,_⟩:=x;exact aC e
 |dT kvs=>obtain⟨_,_,_,_,o,_,_,e,_⟩:=x;exact aC e
 |set S n=>obtain⟨o,_,_,_,e,_⟩:=x;exact aC e
 |ins C dx fs=>obtain⟨_,_,_,e,_⟩:=x;exact aC e
 |own y=>obtain⟨_,e⟩:=x;exact aC e
 |xd fs=>obtain⟨_,⟨_,_,_,e,_⟩,_⟩:=x;exact aC e
 |rng lo hi=>obtain⟨_,_,_,e⟩:=x;exact aC e
 |frz ob u=>obtain⟨e,_⟩:=x;exact aC e
 |tbl ps=>exact aC (show h.get? a=some _ from x)
 |met f y=>exact aC (show h.get? a=some _ from x)
 |ext φ=>obtain⟨_,⟨_,e⟩,_⟩:=x;exact aC e
def Paired.mapP{β:Type}{F G:α->β->Prop}:∀{l₁:List α}{l₂:List β},Paired F l₁ l₂->(∀a b,F a b->G a b)->Paired G l₁ l₂
 |_,_,.nil,_=> .nil
 |_,_,.cons r t,f=> .cons (f _ _ r) (Paired.mapP t f)
def ObjOk.stay(x:ObjOk P w H h a o)(k:∀b u,(b=a\/H b=some (.own a))->h.get? b=some u->h'.get? b=some u)
  (ho:∀b,H b=some (.own a)->H' b=some (.own a)) (ht:∀b xs,H b=some (.tup xs)->H' b=some (.tup xs)):ObjOk P w H' h' a o:=by
 induction o with
 |lst xs=>obtain⟨z,its,n,r,e⟩:=x;exact⟨z,its,n,r,k _ _ (.inl rfl) e⟩
 |tup xs=>obtain⟨z,its,r,n,e⟩:=x;exact⟨z,its,r,n,k _ _ (.inl rfl) e⟩
 |dK kvs=>obtain⟨z,y,vs,r,ob,es,ep,e,c⟩:=x;exact⟨z,y,vs,r,ob,es,ep,k _ _ (.inl rfl) e,c⟩
 |dT kvs=>
  obtain⟨z,y,xs,r,ob,es,ep,e,c⟩:=x;exact⟨z,y,xs,Paired.mapP r λp q z=>⟨z.1,ht _ _ z.2.1,z.2.2⟩,ob,es,ep,k _ _ (.inl rfl) e,c⟩
 |set S n=>obtain⟨ob,es,ep,t,e,c⟩:=x;exact⟨ob,es,ep,t,k _ _ (.inl rfl) e,c⟩
 |ins C dx fs=>
  obtain⟨d,z,ne,e,mA,⟨od,es,ep,e2,c⟩,r⟩:=x;exact⟨ho _ d,z,ne,k _ _ (.inl rfl) e,mA,⟨od,es,ep,k _ _ (.inr d) e2,c⟩,r⟩
 |own y=>obtain⟨ob,e⟩:=x;exact⟨ob,k _ _ (.inl rfl) e⟩
 |xd fs=>obtain⟨mA,⟨od,es,ep,e,c⟩,r⟩:=x;exact⟨mA,⟨od,es,ep,k _ _ (.inl rfl) e,c⟩,r⟩
 |rng lo hi=>obtain⟨t,u,v,e⟩:=x;exact⟨t,u,v,k _ _ (.inl rfl) e⟩
 |frz ob u ih=>obtain⟨e,q⟩:=x;exact⟨k _ _ (.inl rfl) e,ih q⟩
 |tbl ps=>
  have e:h.get? a=some {cls:=.none,data:=.fields ps}:=x;show h'.get? a=some {cls:=.none,data:=.fields ps};exact k a _ (.inl rfl) e
 |met f y=>
  have e:h.get? a=some (methodObj (.ref f) (.ref y)):=x;show h'.get? a=some (methodObj (.ref f) (.ref y));exact k a _ (.inl rfl) e
 |ext φ=>obtain⟨p,⟨o,e⟩,st⟩:=x;exact⟨st _ _ p λo q=>k _ _ (.inl rfl) q,⟨o,k _ _ (.inl rfl) e⟩,st⟩
def HOk.lt(x:HOk P w H h)(e:H a=some o):a<h.objs.size:=(x a o e).lt
def HOk.fresh(x:HOk P w H h)(e:h.objs.size<=a):H a=none:=by
 cases q:H a with
 |none=>rfl
 |some u=>exact absurd (aR (x.lt q) e) (cO _)
def HOk.kept(x:HOk P w H h)(k:∀b u,h.get? b=some u->h'.get? b=some u):HOk P w H h':=λa o e=>
 (x a o e).stay (λb u _ q=>k b u q) (λ_ q=>q) λ_ _ q=>q
def HOk.laid(x:HOk P w H h)(k:∀b u,h.get? b=some u->h'.get? b=some u)(hp:h.objs.size<=a)(new:ObjOk P w (upd H a o) h' a o):HOk P w (upd H a o) h':=λb u e=>by
 have hn:=x.fresh hp;by_cases hb:b=a
 .subst hb;rw[j7] at e;cases e;exact new
 .rw[j8 hb] at e;exact(x b u e).stay (λc v _ q=>k c v q) (λc q=>by rw[j8 (jA q hn)];exact q) λc xs q=>by rw[j8 (jA q hn)];exact q
end
def Rd(H:Hp)(a:Addr)(u:HO):Prop:=H a=some u\/∃o,H a=some (.frz o u)
def Rd.ok{u:HO}(r:Rd H a u)(x:HOk P w H h):ObjOk P w H h a u:=by
 rcases r with r|⟨o,r⟩
 .exact x a u r
 .obtain⟨_,q⟩:=x a _ r;exact q
def Mut:Option HO->Prop
 |some (.lst _)=>True
 |some (.dK _)=>True
 |some (.dT _)=>True
 |some (.set _ _)=>True
 |some (.ins _ _ _)=>True
 |some (.ext _)=>True
 |_=>False
variable {x:Addr}
section
variable {e:Addr}{o':HO}
def HOk.write(ok:HOk P w H h)(mu:Mut (H x))(he:e=x\/H e=some (.own x))(k:∀b u,b≠e->h.get? b=some u->h'.get? b=some u)(heo:∃u,h'.get? e=some u)
  (new:ObjOk P w (upd H x o') h' x o'):HOk P w (upd H x o') h':=λb u q=>by
 have nown:∀c y,H c=some (.own y)->c≠x:=λc y r z=>by subst z;rw[r] at mu;exact mu
 have ntup:∀c xs,H c=some (.tup xs)->c≠x:=λc xs r z=>by subst z;rw[r] at mu;exact mu
 by_cases hb:b=x
 .subst hb;rw[j7] at q;cases q;exact new
 .rw[j8 hb] at q;by_cases hbe:b=e
  .have q':H b=some (.own x):=by
    rcases he with z|z
    .exact absurd (hbe.trans z) hb
    .rw[hbe];exact z
   rw[q] at q';cases q';obtain⟨v,hv⟩:=heo;exact⟨v,by rw[hbe];exact hv⟩
  .refine(ok b u q).stay (λc v hc r=>k c v ?_ r) (λc r=>by rw[j8 (nown c b r)];exact r) λc xs r=>by rw[j8 (ntup c xs r)];exact r
   rcases hc with rfl|hc
   .exact hbe
   .rintro rfl;rcases he with z|z
    .exact nown c b hc z
    .rw[hc] at z;cases z;exact hb rfl
end
structure Un (fs ex:List Addr)(H H':Hp)(h h':Heap):Prop where
 keep:∀b o,h.get? b=some o->H b=none->b∉fs->b∉ex->h'.get? b=some o
 slot:∀b o,h.get? b=some o->H b=none->b∈fs->b∉ex->∃sl,h'.get? b=some {o with slots:=sl}
 free:∀b o,h.get? b=some o->H b=none->b∉ex->H' b=none
 there:∀b o,h.get? b=some o->b∉ex->∃o',h'.get? b=some o'
 tups:∀b xs,H b=some (.tup xs)->H' b=some (.tup xs)
 frzs:∀b o u,H b=some (.frz o u)->H' b=some (.frz o u)
 tbls:∀b ps,H b=some (.tbl ps)->∃more,H' b=some (.tbl (ps++more))
section
variable {fs fs' ex ex':List Addr}{H1 H2:Hp}{h1 h2:Heap}{e:Addr}{o:HO}
def Un.any(u:Un fs ex H H1 h h1){ob:Obj}(q:h.get? b=some ob)(n:H b=none)(hx:b∉ex):∃sl,h1.get? b=some {ob with slots:=sl}:=by
 by_cases hb:b∈fs
 .exact u.slot b ob q n hb hx
 .exact⟨ob.slots,u.keep b ob q n hb hx⟩
def Un.trans(a:Un fs ex H H1 h h1)(b:Un fs ex H1 H2 h1 h2):Un fs ex H H2 h h2 where
 keep:=λc ob q n hc hx=>b.keep c ob (a.keep c ob q n hc hx) (a.free c ob q n hx) hc hx
 slot:=λc ob q n hc hx=>by
  obtain⟨sl,e1⟩:=a.slot c ob q n hc hx;obtain⟨sl',e2⟩:=b.slot c _ e1 (a.free c ob q n hx) hc hx;exact⟨sl',e2⟩
 free:=λc ob q n hx=>by
  obtain⟨o',e1⟩:=a.there c ob q hx;exact b.free c o' e1 (a.free c ob q n hx) hx
 there:=λc ob q hx=>by
  obtain⟨o',e1⟩:=a.there c ob q hx;exact b.there c o' e1 hx
 tups:=λc xs q=>b.tups c xs (a.tups c xs q)
 frzs:=λc ob xs q=>b.frzs c ob xs (a.frzs c ob xs q)
 tbls:=λc ps q=>by
  obtain⟨m1,e1⟩:=a.tbls c ps q;obtain⟨m2,e2⟩:=b.tbls c _ e1;exact⟨m1++m2,by rw[e2,km]⟩
def Un.kept(k:∀b u,h.get? b=some u->h'.get? b=some u):Un fs ex H H h h':=
 ⟨λb ob q _ _ _=>k b ob q,λb ob q _ _ _=>⟨ob.slots,k b ob q⟩,λ_ _ _ n _=>n,λb ob q _=>⟨ob,k b ob q⟩,λ_ _ q=>q,λ_ _ _ q=>q,λ_ ps q=>⟨#[],by rw[q];simp⟩⟩
def Un.refl:Un fs ex H H h h:=Un.kept λ_ _ q=>q
def Un.laid(k:∀b u,h.get? b=some u->h'.get? b=some u)(hp:h.objs.size<=a)(hn:H a=none):Un fs ex H (upd H a o) h h' where
 keep:=λb u q _ _ _=>k b u q
 slot:=λb u q _ _ _=>⟨u.slots,k b u q⟩
 free:=λb u q n _=>by rw[j8 (aO (aR (aC q) hp))];exact n
 there:=λb u q _=>⟨u,k b u q⟩
 tups:=λb xs q=>by rw[j8 (jA q hn)];exact q
 frzs:=λb u xs q=>by rw[j8 (jA q hn)];exact q
 tbls:=λb ps q=>⟨#[],by rw[j8 (jA q hn),q];simp⟩
def Un.write(mu:Mut (H x))(he:e=x\/H e=some (.own x))(k:∀b u,b≠e->h.get? b=some u->h'.get? b=some u)(heo:∃u,h'.get? e=some u):Un fs ex H (upd H x o) h h':=by
 have hx:∀b,H b=none->b≠x:=λb n z=>by subst z;rw[n] at mu;exact mu
 have hb:∀b,H b=none->b≠e:=λb n z=>by
  subst z;rcases he with r|r
  .exact hx b n r
  .rw[n] at r;cases r
 have hm:∀b u,H b=some u->¬Mut (some u)->b≠x:=λb u q nm z=>by subst z;rw[q] at mu;exact nm mu
 refine⟨λb u q n _ _=>k b u (hb b n) q,λb u q n _ _=>⟨u.slots,k b u (hb b n) q⟩,λb u q n _=>by rw[j8 (hx b n)];exact n,λb u q _=>?_,
  λb xs q=>by rw[j8 (hm b _ q λz=>z)];exact q,λb u xs q=>by rw[j8 (hm b _ q λz=>z)];exact q,λb ps q=>⟨#[],by rw[j8 (hm b _ q λz=>z),q];simp⟩⟩
 by_cases hbe:b=e
 .subst hbe;exact heo
 .exact⟨u,k b u hbe q⟩
end
def trk(h:Heap)(H:Hp):List Addr:=(List.range h.objs.size).filter λa=>(H a).isSome
def hidT(h:Heap)(H:Hp):Heap:=PySem.W.hideAll h (trk h H)
def jON(h:Heap)(H:Hp):(hidT h H).objs.size=h.objs.size:=PySem.W.hideAll_size _ _
def jR7(e:h.get? b=some o)(n:H b=none):(hidT h H).get? b=some o:=
 PySem.W.hideAll_get _ e λhm=>by
  have q:(H b).isSome=true:=(bv.mp hm).2;rw[n] at q;simp at q
def jUA(e:(hidT h H).get? b=some o):h.get? b=some o/\H b=none:=by
 have e':h.get? b=some o:=PySem.W.of_hideAll (trk h H) e;refine⟨e',?_⟩;cases q:H b with
 |none=>rfl
 |some x=>
  have hm:b∈trk h H:=bv.mpr ⟨bR.mpr (aC e'),by simp[q]⟩;have z:(hidT h H).get? b=none:=PySem.W.hideAll_none (trk h H) hm;rw[z] at e;cases e
structure Mod (K:W.Frag)(mg:Ak)(Aq:Heap):Prop where
 kin:K.In Aq
 glob:Aq.Ns mainGlobals mg
 blt:∃mb,Aq.Ns builtinsNs mb/\∀x:Str,x≠"__name__" ->mb x=bootBuiltins x
 nolimit:Aq.NoLimit
structure Cx where
 prog:Program
 w:World
 K:W.Frag
 mg:Ak
 Aq:Heap
 A:Around
 N:Am
 s₀:Shared
 H₀:Hp
 env:Env
 Ap:List Env
 stack:List Env
 ex:List Addr
 fn:Str->Bool
 calm:Bool
 pn:Ai
 xe:Ah
def frs(l:List Env):List Addr:=l.filterMap (·.frame)
abbrev Cx.fs(X:Cx):List Addr:=frs X.Ap
def Vis(sc:Scope)(x:Str):Prop:=sc.names.lookup x=some .local\/sc.names.lookup x=some .cell\/sc.names.lookup x=some .free
def Loc(sc:Scope)(x:Str):Prop:=sc.names.lookup x=some .local\/sc.names.lookup x=some .cell
def Look(env:Env)(h:Heap)(m:Ak)(x:Str)(u:Value):Prop:=
 (env.kindOf x=some .local/\m x=some u)\/((env.kindOf x=some .cell\/env.kindOf x=some .free)/\∃c,env.cells.lookup x=some c/\h.IsCell c (some u))
structure Cx.Ok (X:Cx):Prop where
 mod:Mod X.K X.mg X.Aq
 kind:X.env.scope.kind=.function
 glob:X.env.globals=mainGlobals
 blt:X.env.builtins=builtinsNs
 above:X.s₀.heap.objs.size<=X.env.locals
 inj:∀x y c,X.env.cells.lookup x=some c->X.env.cells.lookup y=some c->x=y
 has:∀x,(X.env.kindOf x=some .cell\/X.env.kindOf x=some .free)->∃c,X.env.cells.lookup x=some c
 cab:∀x c,X.fn x=true->X.env.cells.lookup x=some c->X.s₀.heap.objs.size<=c
 hd:X.calm=true->X.A.handled=none
 frames:X.A.frames=some X.stack
 stk:X.stack=X.Ap\/(X.stack=X.env::X.Ap/\X.env.frame=some X.env.locals)
 exf:∀b∈X.ex,b≠X.env.locals/\∀x c,X.env.cells.lookup x=some c->c≠b
 bs:∀b o,X.Aq.get? b=some o->X.s₀.heap.get? b=some o/\X.H₀ b=none
 bsz:X.Aq.objs.size<=X.s₀.heap.objs.size
 noex:∀b o,X.Aq.get? b=some o->b∉X.ex
 exfs:∀b∈X.ex,b∉X.fs
 funs:X.s₀.heap.FunFrames X.Aq X.Ap
 frf:∀b∈X.fs,X.H₀ b=none
structure Inv (X:Cx)(lw:Ai)(σ:List (Option V))(H:Hp)(s:Shared):Prop where
 ok:X.Ok
 os:s.os=X.s₀.os
 bare:AllBare s.gens
 Aq:Un X.fs X.ex X.H₀ H X.s₀.heap s.heap
 loc:∃m,s.heap.Ns X.env.locals m/\∀(i:Nat) (x:Str) (v:V),X.N[i]?=some x->σ[i]?=some (some v)->Vis X.env.scope x->∃u,RelV v u/\Look X.env s.heap m x u
 cell:∀x c,X.env.cells.lookup x=some c->∃v,s.heap.IsCell c v
 free:H X.env.locals=none
 freeC:∀x c,X.env.cells.lookup x=some c->H c=none
 pin:∀p∈X.pn++lw,s.heap.get? p.1=some p.2/\H p.1=none/\p.1≠X.env.locals/\p.1∉X.fs/\∀v,p.2.data≠.cell v
 hok:HOk X.prog X.w H s.heap
 len:σ.length=X.N.length
variable {X:Cx}{lw:Ai}{s:Shared}
section
variable {σ:List (Option V)}
def Cx.Ok.nofr(ok:X.Ok)(e:X.Aq.get? b=some o):b∉X.fs:=λhb=>by
 have:=(ok.funs.mem hb).1;rw[e] at this;cases this
def Inv.bs(I:Inv X lw σ H s):∀b o,X.Aq.get? b=some o->s.heap.get? b=some o/\H b=none:=λb o e=>
 ⟨I.Aq.keep b o (I.ok.bs b o e).1 (I.ok.bs b o e).2 (I.ok.nofr e) (I.ok.noex b o e),I.Aq.free b o (I.ok.bs b o e).1 (I.ok.bs b o e).2 (I.ok.noex b o e)⟩
def Inv.bk(I:Inv X lw σ H s):∀b o,X.Aq.get? b=some o->s.heap.get? b=some o:=λb o e=>(I.bs b o e).1
def Inv.mod(I:Inv X lw σ H s):Mod X.K X.mg X.Aq:=I.ok.mod
def Inv.kIn(I:Inv X lw σ H s):X.K.In s.heap:=I.ok.mod.kin.keeps I.bk
def Inv.lt(I:Inv X lw σ H s):X.env.locals<s.heap.objs.size:=let ⟨_,hn,_⟩:=I.loc;hn.lt
def Inv.sz(I:Inv X lw σ H s):X.s₀.heap.objs.size<=s.heap.objs.size:=bA I.ok.above (cV I.lt)
def Inv.nofs(I:Inv X lw σ H s)(h:s.heap.objs.size<=a):a∉X.fs:=λhb=>by
 obtain⟨_,o,ho,_⟩:=I.ok.funs.mem hb;exact absurd (aR (aC ho) (bA I.sz h)) (cO _)
def Inv.cne(I:Inv X lw σ H s):∀x c,X.env.cells.lookup x=some c->c≠X.env.locals:=λx c e z=>by
 obtain⟨v,o,ho,hd⟩:=I.cell x c e;obtain⟨m,⟨o',es,ep,ho',hd',_⟩,_⟩:=I.loc;rw[z,ho'] at ho;cases ho;rw[hd'] at hd;cases hd
def Inv.funs(I:Inv X lw σ H s):s.heap.FunFrames X.Aq X.Ap:=by
 have all:∀(l:List Env),(∀b∈frs l,b∈X.fs)->X.s₀.heap.FunFrames X.Aq l->s.heap.FunFrames X.Aq l:=by
  intro l
  induction l with
  |nil=>intro _ _;trivial
  |cons env r ih=>
   intro hs hl;obtain⟨hk,⟨L,o,hf,hn,ho,hd⟩,hr⟩:=hl;have hL:L∈X.fs:=hs L (by unfold frs;rw[gO,hf];exact ai);obtain⟨sl,e⟩:=I.Aq.slot L o ho (I.ok.frf L hL) hL λz=>I.ok.exfs L z hL;exact⟨hk,⟨L,_,hf,hn,e,hd⟩,ih (λb hb=>hs b (by unfold frs;rw[gO,hf];exact ag _ hb)) hr⟩
 exact all X.Ap (λ_ hb=>hb) I.ok.funs
theorem Inv.stack(I:Inv X lw σ H s):s.heap.FunFrames X.Aq X.stack:=by
 rcases I.ok.stk with e|⟨e,hf⟩
 .rw[e];exact I.funs
 .rw[e];obtain⟨m,hn,_⟩:=I.loc;refine .cons (by rw[I.ok.kind];decide) hf hn ?_ I.funs;exact Heap.get?_none_of_le (bA I.ok.bsz I.ok.above)
def Inv.stkSub(I:Inv X lw σ H s):∀b∈frs X.stack,b∈X.env.locals::X.fs:=λb hb=>by
 rcases I.ok.stk with e|⟨e,hf⟩
 .rw[e] at hb;exact ag _ hb
 .rw[e] at hb;unfold frs at hb;rw[gO,hf] at hb;exact hb
def Inv.stkFree(I:Inv X lw σ H s):∀b∈frs X.stack,H b=none:=λb hb=>by
 rcases aA.mp (I.stkSub b hb) with e|hb
 .rw[e];exact I.free
 .obtain⟨_,o,ho,_⟩:=I.ok.funs.mem hb;exact I.Aq.free b o ho (I.ok.frf b hb) λz=>I.ok.exfs b z hb
def Inv.step{g':Array GenState}{t':Nat}{d':Drawn}{ch:List Addr}(I:Inv X lw σ H s)
  (hch:∀b∈ch,(b∈X.ex\/X.s₀.heap.objs.size<=b)/\b≠X.env.locals/\(∀x c,X.env.cells.lookup x=some c->c≠b)/\∀p∈X.pn++lw,p.1≠b)
  (keep:∀b o,b≠X.env.locals->b∉X.fs->b∉ch->s.heap.get? b=some o->H b=none->h'.get? b=some o)
  (slot:∀b o,b≠X.env.locals->b∈X.fs->b∉ch->s.heap.get? b=some o->H b=none->∃sl,h'.get? b=some {o with slots:=sl}) (free:∀b o,b∉ch->s.heap.get? b=some o->H b=none->H' b=none)
  (there:∀b o,b∉ch->s.heap.get? b=some o->∃o',h'.get? b=some o')
  (tups:∀b xs,H b=some (.tup xs)->H' b=some (.tup xs)) (frzs:∀b o u,H b=some (.frz o u)->H' b=some (.frz o u)) (tbls:∀b ps,H b=some (.tbl ps)->∃more,H' b=some (.tbl (ps++more)))
  (ns:∀m,s.heap.Ns X.env.locals m->h'.Ns X.env.locals m) (hok:HOk X.prog X.w H' h') (hg:AllBare g'):
  Inv X lw σ H' {s with heap:=h',gens:=g',drawn:=d',toks:=t'}:=by
 have neL:∀b o,X.s₀.heap.get? b=some o->b≠X.env.locals:=λb o e=>aO (aR (aC e) I.ok.above);have neC:∀b o,X.s₀.heap.get? b=some o->b∉X.ex->b∉ch:=λb o e hx hb=>by
  rcases (hch b hb).1 with z|z
  .exact hx z
  .exact absurd (aR (aC e) z) (cO _)
 have cellK:∀x c,X.env.cells.lookup x=some c->∀v,s.heap.IsCell c v->h'.IsCell c v:=λx c e v ⟨o,ho,hd⟩=>by
  have nch:c∉ch:=λz=>(hch c z).2.2.1 x c e rfl;by_cases hc:c∈X.fs
  .obtain⟨sl,q⟩:=slot c o (I.cne x c e) hc nch ho (I.freeC x c e);exact⟨_,q,hd⟩
  .exact⟨o,keep c o (I.cne x c e) hc nch ho (I.freeC x c e),hd⟩
 refine⟨I.ok,I.os,hg,⟨λb o e n hb hx=>?_,λb o e n hb hx=>?_,λb o e n hx=>?_,λb o e hx=>?_,λb xs e=>tups b xs (I.Aq.tups b xs e),λb o xs e=>frzs b o xs (I.Aq.frzs b o xs e),λb ps e=>?_⟩,?_,λx c e=>?_,?_,λx c e=>?_,λp hp=>?_,hok,I.len⟩
 .exact keep b o (neL b o e) hb (neC b o e hx) (I.Aq.keep b o e n hb hx) (I.Aq.free b o e n hx)
 .obtain⟨sl,e1⟩:=I.Aq.slot b o e n hb hx;obtain⟨sl',e2⟩:=slot b _ (neL b o e) hb (neC b o e hx) e1 (I.Aq.free b o e n hx);exact⟨sl',e2⟩
 .obtain⟨o',e1⟩:=I.Aq.there b o e hx;exact free b o' (neC b o e hx) e1 (I.Aq.free b o e n hx)
 .obtain⟨o',e1⟩:=I.Aq.there b o e hx;exact there b o' (neC b o e hx) e1
 .obtain⟨m1,e1⟩:=I.Aq.tbls b ps e;obtain⟨m2,e2⟩:=tbls b _ e1;exact⟨m1++m2,by rw[e2,km]⟩
 .obtain⟨m,hn,hl⟩:=I.loc;refine⟨m,ns m hn,λi x v e1 e2 e3=>?_⟩;obtain⟨u,r,l⟩:=hl i x v e1 e2 e3;refine⟨u,r,?_⟩;rcases l with l|⟨k,c,e,z⟩
  .exact .inl l
  .exact .inr ⟨k,c,e,cellK x c e _ z⟩
 .obtain⟨v,z⟩:=I.cell x c e;exact⟨v,cellK x c e v z⟩
 .obtain⟨m,⟨o,_,_,ho,_⟩,_⟩:=I.loc;exact free _ o (λz=>(hch _ z).2.1 rfl) ho I.free
 .obtain⟨v,o,ho,hd⟩:=I.cell x c e;exact free c o (λz=>(hch c z).2.2.1 x c e rfl) ho (I.freeC x c e)
 .obtain⟨e,n,ne,nf,d⟩:=I.pin p hp;have nch:p.1∉ch:=λz=>(hch p.1 z).2.2.2 p hp rfl;exact⟨keep p.1 p.2 ne nf nch e n,free p.1 p.2 nch e n,ne,nf,d⟩
def Inv.un{t':Nat}(I:Inv X lw σ H s)(u:Un X.fs [] H H' s.heap h')(hok:HOk X.prog X.w H' h'):Inv X lw σ H' {s with heap:=h',toks:=t'}:=by
 obtain⟨m,⟨o,es,ep,ho,r⟩,_⟩:=id I.loc;obtain⟨sl,hL⟩:=u.any ho I.free Ad;exact I.step (g':=s.gens) (d':=s.drawn) (ch:=[]) (λ_ z=>nomatch z) (λb o _ hb _ e n=>u.keep b o e n hb Ad) (λb o _ hb _ e n=>u.slot b o e n hb Ad) (λb o _ e n=>u.free b o e n Ad) (λb o _ e=>u.there b o e Ad) u.tups u.frzs u.tbls (λm' hm=>by
  obtain⟨o',es',ep',ho',r'⟩:=hm;rw[ho] at ho';cases ho';exact⟨_,es',ep',hL,r'⟩) hok I.bare
def Inv.call{g':Array GenState}{t':Nat}{d':Drawn}{ch:List Addr}(I:Inv X lw σ H s)(u:Un (frs X.stack) ch H H' s.heap h')(hok:HOk X.prog X.w H' h')(hg:AllBare g')
  (hch:∀b∈ch,(b∈X.ex\/X.s₀.heap.objs.size<=b)/\b≠X.env.locals/\(∀x c,X.env.cells.lookup x=some c->c≠b)/\∀p∈X.pn++lw,p.1≠b):
  Inv X lw σ H' {s with heap:=h',gens:=g',drawn:=d',toks:=t'}:=by
 obtain⟨m,⟨o,es,ep,ho,r⟩,_⟩:=id I.loc;obtain⟨sl,hL⟩:=u.any ho I.free λz=>(hch _ z).2.1 rfl;exact I.step (ch:=ch) hch (λb o hL hb hc e n=>u.keep b o e n (λz=>(aA.mp (I.stkSub b z)).elim hL hb) hc) (λb o _ _ hc e n=>u.any e n hc) (λb o hc e n=>u.free b o e n hc) (λb o hc e=>u.there b o e hc) u.tups u.frzs u.tbls (λm' hm=>by
  obtain⟨o',es',ep',ho',r'⟩:=hm;rw[ho] at ho';cases ho';exact⟨_,es',ep',hL,r'⟩) hok hg
def Inv.turned{t':Nat}{it:Addr}(I:Inv X lw σ H s)(k:∀b o,b≠it->s.heap.get? b=some o->h'.get? b=some o)(hn:H it=none)(hL:it≠X.env.locals)
  (h1:it∈X.ex\/X.s₀.heap.objs.size<=it) (h2:∀x c,X.env.cells.lookup x=some c->c≠it) (h3:∀p∈X.pn++lw,p.1≠it):Inv X lw σ H {s with heap:=h',toks:=t'}:=by
 have nit:∀b u,H b=some u->b≠it:=λb u e z=>by rw[z,hn] at e;cases e
 refine I.step (g':=s.gens) (d':=s.drawn) (ch:=[it]) (λb hb=>?_) (λb o _ _ hc e _=>k b o (λz=>hc (by simp[z])) e) (λb o _ _ hc e _=>⟨o.slots,k b o (λz=>hc (by simp[z])) e⟩) (λ_ _ _ _ n=>n)
  (λb o hc e=>⟨o,k b o (λz=>hc (by simp[z])) e⟩) (λ_ _ e=>e) (λ_ _ _ e=>e) (λb ps e=>⟨#[],by rw[e];simp⟩) (λm hm=>?_) (λb u e=>?_) I.bare
 .have e:b=it:=by simpa using hb
  subst e;exact⟨h1,hL,h2,h3⟩
 .obtain⟨o,es,ep,ho,r⟩:=hm;exact⟨o,es,ep,k _ o (ce hL) ho,r⟩
 .refine(I.hok b u e).stay (λc v hc q=>k c v ?_ q) (λ_ q=>q) λ_ _ q=>q;rcases hc with z|z
  .rw[z];exact nit b u e
  .exact nit c _ z
def Inv.tok(I:Inv X lw σ H s)(t:Nat):Inv X lw σ H {s with toks:=t}:=I.un (h':=s.heap) (t':=t) Un.refl I.hok
def Inv.kept{t':Nat}(I:Inv X lw σ H s)(k:∀b u,s.heap.get? b=some u->h'.get? b=some u):Inv X lw σ H {s with heap:=h',toks:=t'}:=I.un (Un.kept k) (I.hok.kept k)
def Inv.laid{a:Addr}{o:HO}{t':Nat}(I:Inv X lw σ H s)(k:∀b u,s.heap.get? b=some u->h'.get? b=some u)(hp:s.heap.objs.size<=a)(new:ObjOk X.prog X.w (upd H a o) h' a o):
  Inv X lw σ (upd H a o) {s with heap:=h',toks:=t'}:=I.un (Un.laid k hp (I.hok.fresh hp)) (I.hok.laid k hp new)
def Inv.write{x e:Addr}{o:HO}{t':Nat}(I:Inv X lw σ H s)(mu:Mut (H x))(he:e=x\/H e=some (.own x))(k:∀b u,b≠e->s.heap.get? b=some u->h'.get? b=some u)(heo:∃u,h'.get? e=some u)
  (new:ObjOk X.prog X.w (upd H x o) h' x o):Inv X lw σ (upd H x o) {s with heap:=h',toks:=t'}:=I.un (Un.write mu he k heo) (I.hok.write mu he k heo new)
def Inv.pins_of{lw':Ai}(I:Inv X lw σ H s)(h:∀p∈lw',s.heap.get? p.1=some p.2/\H p.1=none/\p.1≠X.env.locals/\p.1∉X.fs/\∀v,p.2.data≠.cell v):Inv X lw' σ H s:=
 ⟨I.ok,I.os,I.bare,I.Aq,I.loc,I.cell,I.free,I.freeC,λp hp=>(aM.mp hp).elim (λz=>I.pin p (aZ _ z)) (h p),I.hok,I.len⟩
def jK5(hN:N.Nodup){i:Nat}{x:Str}(a:N[i]?=some x)(b:N[j]?=some x):i=j:=by
 obtain⟨h1,e1⟩:=aj.mp a;obtain⟨h2,e2⟩:=aj.mp b;exact(List.getElem_inj hN).mp (e1.trans e2.symm)
def jGO{M:Model}{A:Around}{E:Ah}{i:Nat}{x:Str}{v:V}{u:Value}{Q:Unit->Shared->Prop}(I:Inv X lw σ H s)(hN:X.N.Nodup)(hi:X.N[i]?=some x)(hx:Loc X.env.scope x)(r:RelV v u)
  (h:∀s',Inv X lw (σ.set i (some v)) H s'->(∃a,Heap.SameBut a s.heap s'.heap/\(a=X.env.locals\/X.env.cells.lookup x=some a))->Q () s') (hf:X.fn x=true\/X.env.scope.names.lookup x=some .local:=by first|exact .inl rfl|exact .inr rfl|assumption):wpAny M A (storeName X.env x u) Q E s:=by
 obtain⟨m,hn,hl⟩:=id I.loc;have hcls:(X.env.scope.kind==.class || (X.env.scope.kind==.module&&X.env.locals != X.env.globals))=false:=by rw[I.ok.kind];rfl
 have hiσ:i<σ.length:=by rw[I.len];exact(aj.mp hi).1
 have cne:=I.cne;have tracked:∀{a:Addr}{h':Heap},(∃o,s.heap.get? a=some o/\H a=none)->Heap.SameBut a s.heap h'->HOk X.prog X.w H h':=λ{a h'} ha hs b ob e=>by
  obtain⟨_,_,hfree⟩:=ha;refine(I.hok b ob e).stay (λc w' hc q=>(hs.2 c ?_).trans q) (λ_ q=>q) λ_ _ q=>q;rintro rfl;rcases hc with rfl|hc
  .rw[hfree] at e;cases e
  .rw[hfree] at hc;cases hc
 rcases hx with hk|hk
 .refine wpAny_storeName_local hk hn (λh' hn' hs=>?_) hcls;obtain⟨oL,_,_,hoL,_⟩:=id hn;refine h _ ⟨I.ok,I.os,I.bare,⟨λb o e n hb hx=>?_,λb o e n hb hx=>?_,I.Aq.free,λb o e hx=>?_,I.Aq.tups,I.Aq.frzs,I.Aq.tbls⟩,⟨_,hn',λj y v' e1 e2 e3=>?_⟩,λy c e=>?_,I.free,I.freeC,λp hp=>?_,tracked ⟨oL,hoL,I.free⟩ hs,by simpa using I.len⟩ ⟨_,hs,.inl rfl⟩
  .exact(hs.2 b (aO (aR (aC e) I.ok.above))).trans (I.Aq.keep b o e n hb hx)
  .obtain⟨sl,e1⟩:=I.Aq.slot b o e n hb hx;exact⟨sl,(hs.2 b (aO (aR (aC e) I.ok.above))).trans e1⟩
  .obtain⟨o',e1⟩:=I.Aq.there b o e hx;exact⟨o',(hs.2 b (aO (aR (aC e) I.ok.above))).trans e1⟩
  .by_cases hj:j=i
   .subst hj;rw[hi] at e1;cases e1;rw[i4 hiσ] at e2;cases e2;exact⟨u,r,.inl ⟨hk,Ad⟩⟩
   .rw[jq (ce hj)] at e2;obtain⟨u',r',q⟩:=hl j y v' e1 e2 e3;refine⟨u',r',?_⟩;rcases q with ⟨k,e⟩|⟨k,c,e,z⟩
    .refine .inl ⟨k,?_⟩;have:y≠x:=λe=>hj (jK5 hN e1 (e ▸ hi));simp[this,e]
    .exact .inr ⟨k,c,e,z.sameBut hs (cne y c e)⟩
  .obtain⟨w',z⟩:=I.cell y c e;exact⟨w',z.sameBut hs (cne y c e)⟩
  .obtain⟨e,n,ne,nf,d⟩:=I.pin p hp;exact⟨(hs.2 p.1 ne).trans e,n,ne,nf,d⟩
 .have hfn:X.fn x=true:=by
   rcases hf with z|z
   .exact z
   .rw[z] at hk;cases hk
  obtain⟨c,hc⟩:=I.ok.has x (.inl hk);obtain⟨w',z⟩:=I.cell x c hc;refine wpAny_storeName_cell I.ok.kind hk hc z (λh' hc' hs=>?_);obtain⟨oc,hoc,hocd⟩:=id z;refine h {s with heap:=h'} ⟨I.ok,I.os,I.bare,⟨λb o e n hb hx=>?_,λb o e n hb hx=>?_,I.Aq.free,λb o e hx=>?_,I.Aq.tups,I.Aq.frzs,I.Aq.tbls⟩,⟨m,hn.sameBut hs (ce (cne x c hc)),λj y v' e1 e2 e3=>?_⟩,λy c' e=>?_,I.free,I.freeC,λp hp=>?_,tracked ⟨oc,hoc,I.freeC x c hc⟩ hs,by simpa using I.len⟩ ⟨c,hs,.inr hc⟩
  .exact(hs.2 b (aO (aR (aC e) (I.ok.cab x c hfn hc)))).trans (I.Aq.keep b o e n hb hx)
  .obtain⟨sl,e1⟩:=I.Aq.slot b o e n hb hx;exact⟨sl,(hs.2 b (aO (aR (aC e) (I.ok.cab x c hfn hc)))).trans e1⟩
  .obtain⟨o',e1⟩:=I.Aq.there b o e hx;exact⟨o',(hs.2 b (aO (aR (aC e) (I.ok.cab x c hfn hc)))).trans e1⟩
  .by_cases hj:j=i
   .subst hj;rw[hi] at e1;cases e1;rw[i4 hiσ] at e2;cases e2;exact⟨u,r,.inr ⟨.inl hk,c,hc,hc'⟩⟩
   .rw[jq (ce hj)] at e2;obtain⟨u',r',q⟩:=hl j y v' e1 e2 e3;refine⟨u',r',?_⟩;rcases q with q|⟨k,c',e,z'⟩
    .exact .inl q
    .refine .inr ⟨k,c',e,z'.sameBut hs ?_⟩;rintro rfl;exact hj (jK5 hN e1 (I.ok.inj _ _ _ e hc ▸ hi))
  .by_cases hcc:c'=c
   .subst hcc;exact⟨_,hc'⟩
   .obtain⟨w2,z2⟩:=I.cell y c' e;exact⟨w2,z2.sameBut hs hcc⟩
  .obtain⟨e,n,ne,nf,d⟩:=I.pin p hp;refine⟨(hs.2 p.1 ?_).trans e,n,ne,nf,d⟩;intro q;rw[q,hoc] at e;have q':oc=p.2:=bo e;exact d w' (by rw[<- q'];exact hocd)
def jDG{M:Model}{A:Around}{E:Ah}{i:Nat}{x:Str}{v:V}{u:Value}{Q:Unit->Shared->Prop}(I:Inv X lw σ H s)(hN:X.N.Nodup)(hi:X.N[i]?=some x)(hx:Loc X.env.scope x)(r:RelV v u)
  (h:∀s',Inv X lw (σ.set i (some v)) H s'->Q () s') (hf:X.fn x=true\/X.env.scope.names.lookup x=some .local:=by first|exact .inl rfl|exact .inr rfl|assumption):wpAny M A (storeName X.env x u) Q E s:=
 jGO I hN hi hx r (λs' I' _=>h s' I') hf
def Inv.call'{s':Shared}{ch:List Addr}(I:Inv X lw σ H s)(ho:s'.os=s.os)(u:Un (frs X.stack) ch H H' s.heap s'.heap)(hok:HOk X.prog X.w H' s'.heap)(hg:AllBare s'.gens)
  (hch:∀b∈ch,(b∈X.ex\/X.s₀.heap.objs.size<=b)/\b≠X.env.locals/\(∀x c,X.env.cells.lookup x=some c->c≠b)/\∀p∈X.pn++lw,p.1≠b):Inv X lw σ H' s':=by
 obtain⟨h',g',d',t',o'⟩:=s';have e:o'=s.os:=ho;subst e;exact I.call (g':=g') (t':=t') (d':=d') u hok hg hch
end
abbrev XK:=Value->Option Addr->Hp->Prop
abbrev St:=List (Option V)
abbrev VK:=V->Hp->Prop
abbrev TE:=St->Hp->VK->Prop
abbrev TT:=St->Hp->(Bool->Hp->Prop)->Prop
abbrev TA:=St->Hp->(List V->Hp->Prop)->Prop
structure Ends where
 nx:St->Hp->Prop
 rt:VK
 bk:St->Hp->Prop:=λ_ _=>False
 ct:St->Hp->Prop:=λ_ _=>False
abbrev TS:=Ends->St->Hp->Prop
def EP(X:Cx)(lw:Ai)(σ:St)(Q:VK)(u:Value)(s':Shared):Prop:=∃v H',Inv X lw σ H' s'/\RelV v u/\Q v H'
def TP(X:Cx)(lw:Ai)(σ:St)(Q:Bool->Hp->Prop)(b:Bool)(s':Shared):Prop:=∃H',Inv X lw σ H' s'/\Q b H'
def AP(X:Cx)(lw:Ai)(σ:St)(Q:List V->Hp->Prop)(us:Al)(s':Shared):Prop:=∃vs H',Inv X lw σ H' s'/\Vals vs us/\Q vs H'
def SP(X:Cx)(lw:Ai)(D:Ends)(f:Flow)(s':Shared):Prop:=
 match f with
 | .next=>∃σ' H',Inv X lw σ' H' s'/\D.nx σ' H'
 | .brk=>∃σ' H',Inv X lw σ' H' s'/\D.bk σ' H'
 | .cont=>∃σ' H',Inv X lw σ' H' s'/\D.ct σ' H'
 | .ret u=>∃v σ' H',Inv X lw σ' H' s'/\RelV v u/\D.rt v H'
def PE(X:Cx)(e:Expr)(t:TE):Prop:=
 ∀(lw:Ai) (s:Shared) (σ:St) (H:Hp) (Q:VK),Inv X lw σ H s->t σ H Q->wpAny (model X.prog X.w) X.A (eval e X.env) (EP X lw σ Q) X.xe s
def PT(X:Cx)(e:Expr)(t:TT):Prop:=
 ∀(lw:Ai) (s:Shared) (σ:St) (H:Hp) (Q:Bool->Hp->Prop),Inv X lw σ H s->t σ H Q->wpAny (model X.prog X.w) X.A (isTrue e X.env (eval e X.env)) (TP X lw σ Q) X.xe s
def PW(X:Cx)(e:Expr)(t:TT):Prop:=
 ∀(whole:Sem Value) (lw:Ai) (s:Shared) (σ:St) (H:Hp) (Q:Bool->Hp->Prop),Inv X lw σ H s->t σ H Q->wpAny (model X.prog X.w) X.A (isTrue e X.env whole) (TP X lw σ Q) X.xe s
def PW.pt{t:TT}(h:PW X e t):PT X e t:=h _
def PA(X:Cx)(es:List Expr)(t:TA):Prop:=
 ∀(pos:Pos) (lw:Ai) (s:Shared) (σ:St) (H:Hp) (Q:List V->Hp->Prop),Inv X lw σ H s->t σ H Q->wpAny (model X.prog X.w) X.A (spliced (backTo pos (starEach es X.env))) (AP X lw σ Q) X.xe s
def PS(X:Cx)(st:Stmt)(t:TS):Prop:=
 ∀(lw:Ai) (s:Shared) (σ:St) (H:Hp) (D:Ends),Inv X lw σ H s->t D σ H->wpAny (model X.prog X.w) X.A (exec st X.env) (SP X lw D) X.xe s
def PSs(X:Cx)(st:List Stmt)(t:TS):Prop:=
 ∀(lw:Ai) (s:Shared) (σ:St) (H:Hp) (D:Ends),Inv X lw σ H s->t D σ H->wpAny (model X.prog X.w) X.A (execs st X.env) (SP X lw D) X.xe s
def lz{t:Sem α}{Q Q':α->Shared->Prop}{M:Model}{A:Around}(h:wpAny M A t Q E s)(hQ:∀a s,Q a s->Q' a s):wpAny M A t Q' E s:=cb h hQ λ_ _ x=>x
variable {b:Expr}{ta tb:TE}{pos:Pos}
variable {σ:St}{t:TE}{v:V}
section
def gV(σ:St)(i:Nat)(k:V->Prop):Prop:=match σ[i]? with|some (some v)=>k v|_=>False
def gV.ex{σ i k}(h:gV σ i k):∃v,σ[i]?=some (some v)/\k v:=by unfold gV at h;split at h;exact ⟨_,by assumption,h⟩;cases h
theorem gV.of{σ i k v}(e:σ[i]?=some (some v))(h:k v):gV σ i k:=by unfold gV;rw[e];exact h
def tVar(i:Nat):TE:=λσ H Q=>gV σ i (Q · H)
def tC(v:V):TE:=λ_ H Q=>Q v H
theorem jH4{i:Nat}{x:Str}{pos:Pos}(hN:X.N[i]?=some x)(hv:Vis X.env.scope x)(hd:(x==("__debug__":Str))=false:=by decide)(hcd:(x==("__classdict__":Str))=false:=by decide):PE X (.Name x pos) (tVar i):=by
 intro lw s σ H Q I h;obtain⟨v,e,h⟩:=gV.ex h;obtain⟨m,hn,hl⟩:=I.loc;obtain⟨u,r,l⟩:=hl i x v hN e hv;have fin:EP X lw σ Q u s:=⟨v,H,I,r,h⟩;rcases l with ⟨hk,hm⟩|⟨hk,c,hc,hcell⟩
 .exact wpAny_Name (wpAny_loadName_local I.ok.kind hk hn hm fin) hd
 .rcases hk with hk|hk
  .exact wpAny_Name (wpAny_loadName_cell I.ok.kind hk hc hcell fin) hd
  .exact wpAny_Name (wpAny_loadName_free I.ok.kind hk hc hcell fin hcd) hd
def jW{i j pos}:PE X (.Constant (.int i) j pos) (tC (.int i)):=λ_ _ _ H _ I h=>wpAny_Constant_int ⟨.int i,H,I.tok _,⟨_,rfl⟩,h⟩
def pe_bl{b j pos}:PE X (.Constant (.bool b) j pos) (tC (.bl b)):=λ_ _ _ H _ I h=>Constant_bool ⟨.bl b,H,I,rfl,h⟩
def jWG{j pos}:PE X (.Constant .none j pos) (tC .non):=λ_ _ _ H _ I h=>Constant_none ⟨.non,H,I,rfl,h⟩
def Gl(X:Cx)(x:Str):Prop:=X.env.kindOf x=some .globalImplicit
theorem jG3{x:Str}(I:Inv X lw σ H s)(hg:Gl X x)(hm:X.mg x=some u)(h:Q u s)
  (hd:(x==("__debug__":Str))=false:=by decide):wpAny (model X.prog X.w) X.A (eval (.Name x pos) X.env) Q E s:=
 g9 I.ok.kind hg (Calls.loadGlobal_global (by rw[I.ok.glob];exact I.mod.glob.keeps I.bk) hm h) hd
theorem jDC{x:Str}(I:Inv X lw σ H s)(hg:Gl X x)(hm:X.mg x=none)(hv:bootBuiltins x=some u)(h:Q u s)
  (hn:x≠"__name__" :=by decide) (hd:(x==("__debug__":Str))=false:=by decide):wpAny (model X.prog X.w) X.A (eval (.Name x pos) X.env) Q E s:=by
 obtain⟨mb,h1,h2⟩:=I.mod.blt;exact g9 I.ok.kind hg (Calls.loadGlobal_builtin (by rw[I.ok.glob];exact I.mod.glob.keeps I.bk) hm (by rw[I.ok.blt];exact h1.keeps I.bk) ((h2 x hn).trans hv) h) hd
theorem jTL{x:Str}(hg:Gl X x)(hm:X.mg x=some u)(r:RelV v u)(hd:(x==("__debug__":Str))=false:=by decide):PE X (.Name x pos) (tC v):=
 λ_ _ _ H _ I h=>jG3 I hg hm ⟨v,H,I,r,h⟩ hd
theorem jTS{x:Str}(hg:Gl X x)(hm:X.mg x=none)(hv:bootBuiltins x=some u)(r:RelV v u)(hn:x≠"__name__" :=by decide)(hd:(x==("__debug__":Str))=false:=by decide):PE X (.Name x pos) (tC v):=
 λ_ _ _ H _ I h=>jDC I hg hm hv ⟨v,H,I,r,h⟩ hn hd
variable {a:Expr}
def PC(X:Cx)(op:CmpOp)(a b:Expr)(t:TE):Prop:=
 ∀(lw:Ai) (s:Shared) (σ:St) (H:Hp) (Q:VK),Inv X lw σ H s->t σ H Q->
  wpAny (model X.prog X.w) X.A (eval a X.env) (λv s₁=>wpAny (model X.prog X.w) X.A (eval b X.env) (λu s₂=>wpAny (model X.prog X.w) X.A (compareOp op v u) (EP X lw σ Q) X.xe s₂) X.xe s₁) X.xe s
inductive IsB(Q:Bool->Hp->Prop)(x:V)(H:Hp):Prop|i(c:_)(_:x=.bl c)(_:Q c H)
def tB(t:TE):TT:=λσ H Q=>t σ H (IsB Q)
theorem jS7(h:PC X op a b t)(h1:behindInMarks op b=false:=by first|exact nobehind _ Ac Ac|rfl):PT X (.Compare a [op] [b] pos) (tB t):=by
 intro lw s σ H Q I hw;refine wpAny_isTrue_Compare1 (lz (h lw s σ H _ I hw) λv s1 h1=>lz h1 λu s2 h2=>lz h2 λc s3 ⟨x,H1,I1,r1,q1⟩=>?_) h1;obtain⟨d,rfl,q⟩:=q1;cases r1;exact da ⟨H1,I1,q⟩
def jW3(h:PE X e t)(he:∀whole,isTrue e X.env whole=(do let v <- whole;standAt e.pos;holding [v] (truthy v)):=by intro _;rfl):PT X e (tB t):=by
 intro lw s σ H Q I hw;refine isTrue_plain (lz (h lw s σ H _ I hw) λv s1 ⟨x,H1,I1,r1,q1⟩=>?_) (he _);obtain⟨d,rfl,q⟩:=q1;cases r1;exact da ⟨H1,I1,q⟩
variable {tA tB':TT}{rest:List Expr}
def tAnd(t u:TT):TT:=λσ H Q=>t σ H λc H1=>if c=true then u σ H1 Q else Q false H1
def tOr(t u:TT):TT:=λσ H Q=>t σ H λc H1=>if c=true then Q true H1 else u σ H1 Q
def tNot(t:TT):TT:=λσ H Q=>t σ H λc H1=>Q (!c) H1
def jT6(ha:PT X a tA):PW X (.BoolOp .And [a] pos) tA:=by
 intro wh lw s σ H Q I h;refine isTrue_and (lz (ha lw s σ H Q I h) λc s1 e=>?_);cases c with
 |true=>exact isTrue_and_nil e
 |false=>exact e
def jW0(ha:PT X a tA):PW X (.BoolOp .Or [a] pos) tA:=by
 intro wh lw s σ H Q I h;refine isTrue_or (lz (ha lw s σ H Q I h) λc s1 e=>?_);cases c with
 |false=>exact isTrue_or_nil e
 |true=>exact e
def jW2(ha:PT X a tA)(hb:PW X (.BoolOp .And (b::rest) pos) tB'):PW X (.BoolOp .And (a::b::rest) pos) (tAnd tA tB'):=by
 intro wh lw s σ H Q I h;refine isTrue_and (lz (ha lw s σ H _ I h) λc s1 ⟨H1,I1,q1⟩=>?_);cases c with
 |true=>exact hb wh lw s1 σ H1 Q I1 q1
 |false=>exact⟨H1,I1,q1⟩
def pw_or(ha:PT X a tA)(hb:PW X (.BoolOp .Or (b::rest) pos) tB'):PW X (.BoolOp .Or (a::b::rest) pos) (tOr tA tB'):=by
 intro wh lw s σ H Q I h;refine isTrue_or (lz (ha lw s σ H _ I h) λc s1 ⟨H1,I1,q1⟩=>?_);cases c with
 |true=>exact⟨H1,I1,q1⟩
 |false=>exact hb wh lw s1 σ H1 Q I1 q1
def jW4(ha:PT X a tA):PT X (.UnaryOp .Not a pos) (tNot tA):=by
 intro lw s σ H Q I h;exact isTrue_not (ha lw s σ H (λc H1=>Q (!c) H1) I h)
def tAndV(ta tb:TE):TE:=λσ H Q=>ta σ H (IsB λc H1=>if c=true then tb σ H1 Q else Q (.bl false) H1)
def tOrV(ta tb:TE):TE:=λσ H Q=>ta σ H (IsB λc H1=>if c=true then Q (.bl true) H1 else tb σ H1 Q)
def tNotV(ta:TE):TE:=λσ H Q=>ta σ H (IsB λc=>Q (.bl (!c)))
def jWE{op}(h:PE X a t):PE X (.BoolOp op [a] pos) t:=λlw s σ H Q I hw=>BoolOp_one (h lw s σ H Q I hw)
def jWK(ha:PE X a ta)(hb:PE X (.BoolOp .And (b::rest) pos) tb):PE X (.BoolOp .And (a::b::rest) pos) (tAndV ta tb):=by
 intro lw s σ H Q I h;refine BoolOp_and (lz (ha lw s σ H _ I h) λv s1 ⟨x,H1,I1,r1,q1⟩=>?_);obtain⟨c,rfl,q1⟩:=q1;cases r1;refine da ?_;cases c with
 |true=>exact hb lw s1 σ H1 Q I1 q1
 |false=>exact⟨.bl false,H1,I1,rfl,q1⟩
def pe_or(ha:PE X a ta)(hb:PE X (.BoolOp .Or (b::rest) pos) tb):PE X (.BoolOp .Or (a::b::rest) pos) (tOrV ta tb):=by
 intro lw s σ H Q I h;refine BoolOp_or (lz (ha lw s σ H _ I h) λv s1 ⟨x,H1,I1,r1,q1⟩=>?_);obtain⟨c,rfl,q1⟩:=q1;cases r1;refine da ?_;cases c with
 |false=>exact hb lw s1 σ H1 Q I1 q1
 |true=>exact⟨.bl true,H1,I1,rfl,q1⟩
def jWF(ha:PE X a ta):PE X (.UnaryOp .Not a pos) (tNotV ta):=by
 intro lw s σ H Q I h;refine UnaryOp_ (lz (ha lw s σ H _ I h) λv s1 ⟨x,H1,I1,r1,q1⟩=>?_);obtain⟨c,rfl,q1⟩:=q1;cases r1;exact not_of (da ⟨.bl (!c),H1,I1,rfl,q1⟩)
def tIf(t:TT)(ta tb:TE):TE:=λσ H Q=>t σ H λc H1=>if c=true then ta σ H1 Q else tb σ H1 Q
def jQ6(hc:PT X c tA)(ha:PE X a ta)(hb:PE X b tb):PE X (.IfExp c a b pos) (tIf tA ta tb):=by
 intro lw s σ H Q I h;refine wpAny_IfExp (lz (hc lw s σ H _ I h) λd s1 ⟨H1,I1,q1⟩=>?_);cases d with
 |true=>exact ha lw s1 σ H1 Q I1 q1
 |false=>exact hb lw s1 σ H1 Q I1 q1
end
def SqL(K:W.Frag)(H:Hp)(a:Addr)(xs:List V):Prop:=
 Rd H a (.lst xs)\/
  ∃(o:Obj) (its:An) (n:Nat),K.lookup a=some o/\o.cls=.type "list" /\o.dict=none/\o.data=.seq its n/\its.size<=sizeLine/\Vals xs its.toList
def SqT(K:W.Frag)(H:Hp)(a:Addr)(xs:List V):Prop:=
 Rd H a (.tup xs)\/
  ∃(o:Obj) (its:An) (n:Nat),K.lookup a=some o/\o.cls=.type "tuple" /\o.data=.seq its n/\its.size<=sizeLine/\Vals xs its.toList
noncomputable def absV:Value->Option V
 | .none=>some .non
 | .bool b=>some (.bl b)
 | .int i _=>some (.int i)
 | .str x _=>some (.str x)
 | .bytes b _=>some (.byt b)
 | .float b _=>some (.flt b)
 | .ref a=>some (.ref a)
 | .type n=>some (.ty n)
 |_=>none
def RelV.abs{x:V}(r:RelV x u):absV u=some x:=by
 cases x with
 |non=>cases r;rfl
 |bl _=>cases r;rfl
 |int _=>obtain⟨t,rfl⟩:=r;rfl
 |str _=>obtain⟨t,rfl⟩:=r;rfl
 |byt _=>obtain⟨t,rfl⟩:=r;rfl
 |flt _=>obtain⟨t,rfl⟩:=r;rfl
 |ref _=>cases r;rfl
 |ty _=>cases r;rfl
def RelV.inj{x y:V}{u:Value}(r:RelV x u)(q:RelV y u):x=y:=bo (r.abs.symm.trans q.abs)
def Vals.inj:∀{xs ys:List V}{us:Al},Vals xs us->Vals ys us->xs=ys
 |_,_,_,.nil,.nil=>rfl
 |_,_,_,.cons r t,.cons r' t'=>by rw[r.inj r',Vals.inj t t']
section
variable {σ:St}{xs ys:List V}
def SqL.of{K:W.Frag}(h:H a=some (.lst xs)):SqL K H a xs:=.inl (.inl h)
def SqT.of{K:W.Frag}(h:H a=some (.tup xs)):SqT K H a xs:=.inl (.inl h)
theorem Inv.list(I:Inv X lw σ H s)(h:SqL X.K H a xs):∃its:Al,Vals xs its/\PlainL s.heap a its.toArray/\xs.length<=sizeLine:=by
 rcases h with h|⟨o,its,n,hk,hc,hd,hs,hz,r⟩
 .obtain⟨z,its,n,r,e⟩:=h.ok I.hok;exact⟨its,r,⟨_,n,e,rfl,rfl,rfl⟩,z⟩
 .refine⟨its.toList,r,⟨o,n,I.kIn a o hk,hc,hd,by simpa using hs⟩,?_⟩;have e:=r.length;simp only[aI] at e;lia
theorem Inv.tuple(I:Inv X lw σ H s)(h:SqT X.K H a xs):∃its:Al,Vals xs its/\IsTup s.heap a its.toArray/\xs.length<=sizeLine:=by
 rcases h with h|⟨o,its,n,hk,hc,hs,hz,r⟩
 .obtain⟨z,its,r,p⟩:=h.ok I.hok;exact⟨its,r,p.isTup,z⟩
 .refine⟨its.toList,r,⟨o,I.kIn a o hk,hc,n,by simpa using hs⟩,?_⟩;have e:=r.length;simp only[aI] at e;lia
def Inv.list_inj(I:Inv X lw σ H s)(h:SqL X.K H a xs)(h':SqL X.K H a ys):xs=ys:=by
 obtain⟨its,r,⟨o,n,e,_,_,d⟩,_⟩:=I.list h;obtain⟨its',r',⟨o',n',e',_,_,d'⟩,_⟩:=I.list h';rw[e] at e';cases e';rw[d] at d';injection d' with d1 _;have:its=its':=by simpa using bW Array.toList d1
 subst this;exact r.inj r'
def Inv.tuple_inj(I:Inv X lw σ H s)(h:SqT X.K H a xs)(h':SqT X.K H a ys):xs=ys:=by
 obtain⟨its,r,⟨o,e,_,n,d⟩,_⟩:=I.tuple h;obtain⟨its',r',⟨o',e',_,n',d'⟩,_⟩:=I.tuple h';rw[e] at e';cases e';rw[d] at d';injection d' with d1 _;have:its=its':=by simpa using bW Array.toList d1
 subst this;exact r.inj r'
end
abbrev Cx.wish(X:Cx)(E:Ah):Cx:= {X with xe:=E}
abbrev Cx.nox(X:Cx):Cx:=X.wish λ_ _=>False
def Cx.Ok.wish(ok:X.Ok)(E:Ah):(X.wish E).Ok:=
 ⟨ok.mod,ok.kind,ok.glob,ok.blt,ok.above,ok.inj,ok.has,ok.cab,ok.hd,ok.frames,ok.stk,ok.exf,ok.bs,ok.bsz,ok.noex,ok.exfs,ok.funs,ok.frf⟩
def Cx.Ok.unwish(ok:(X.wish E).Ok):X.Ok:=
 ⟨ok.mod,ok.kind,ok.glob,ok.blt,ok.above,ok.inj,ok.has,ok.cab,ok.hd,ok.frames,ok.stk,ok.exf,ok.bs,ok.bsz,ok.noex,ok.exfs,ok.funs,ok.frf⟩
variable {E:Ah}
section
variable {σ:St}
def Inv.wish(I:Inv X lw σ H s)(E:Ah):Inv (X.wish E) lw σ H s:=⟨I.ok.wish E,I.os,I.bare,I.Aq,I.loc,I.cell,I.free,I.freeC,I.pin,I.hok,I.len⟩
def Inv.unwish(I:Inv (X.wish E) lw σ H s):Inv X lw σ H s:=⟨I.ok.unwish,I.os,I.bare,I.Aq,I.loc,I.cell,I.free,I.freeC,I.pin,I.hok,I.len⟩
def SP.unwish{D:Ends}{f:Flow}{s':Shared}(h:SP (X.wish E) lw D f s'):SP X lw D f s':=by
 cases f with
 |next=>obtain⟨σ',H',I,q⟩:=h;exact⟨σ',H',I.unwish,q⟩
 |brk=>obtain⟨σ',H',I,q⟩:=h;exact⟨σ',H',I.unwish,q⟩
 |cont=>obtain⟨σ',H',I,q⟩:=h;exact⟨σ',H',I.unwish,q⟩
 |ret u=>obtain⟨v,σ',H',I,r,q⟩:=h;exact⟨v,σ',H',I.unwish,r,q⟩
def PSs.nox{st:List Stmt}{t:TS}(h:PSs X.nox st t):PSs X st t:=λlw s σ H D I hw=>
 cb (h lw s σ H D (I.wish _) hw) (λ_ _ q=>q.unwish) λ_ _ z=>False.elim z
end
variable {e:Expr}{te:TE}
section
variable {st:Stmt}{rest:List Stmt}{t u:TS}
def tNext:TS:=λD σ H=>D.nx σ H
def tSeq(t u:TS):TS:=λD σ H=>t {D with nx:=u D} σ H
def jFR:PSs X [] tNext:=λ_ _ σ H _ I h=>gH ⟨σ,H,I,h⟩
def y8(h1:PS X st t)(h2:PSs X rest u):PSs X (st::rest) (tSeq t u):=by
 intro lw s σ H D I h;refine wpAny_execs_cons (lz (h1 lw s σ H {D with nx:=u D} I h) λf s1 q=>?_);cases f with
 |next=>
  obtain⟨σ',H',I',q⟩:=q;exact h2 lw s1 σ' H' D I' q
 |ret v=>exact q
 |brk=>exact q
 |cont=>exact q
def jAR(h1:PS X st t):PSs X [st] t:=by
 intro lw s σ H D I h;refine wpAny_execs_cons (lz (h1 lw s σ H D I h) λf s1 q=>?_);cases f with
 |next=>exact gH q
 |ret v=>exact q
 |brk=>exact q
 |cont=>exact q
def Inv.quiet(I:Inv X lw σ H s):interactive X.env=false:=by simp[interactive,I.ok.kind]
def tDrop(te:TE):TS:=λD σ H=>te σ H λ_ H1=>D.nx σ H1
def jT9(he:PE X e te)(hs:swapsWith e none pos.line X.env=pure false:=by rfl):PS X (.Expr e pos) (tDrop te):=by
 intro lw s σ H D I h;exact wpAny_Expr_any (lz (he lw s σ H _ I h) λv s1 ⟨x,H1,I1,r1,q1⟩=>⟨σ,H1,I1,q1⟩) I.quiet hs
def tRet(te:TE):TS:=λD σ H=>te σ H D.rt
def jD9(he:PE X e te):PS X (.Return (some e) pos) (tRet te):=by
 intro lw s σ H D I h;exact wpAny_Return_some (lz (he lw s σ H _ I h) λv s1 ⟨x,H1,I1,r1,q1⟩=>⟨x,σ,H1,I1,r1,q1⟩)
def tIfS(c:TT)(t u:TS):TS:=λD σ H=>c σ H λb H1=>if b=true then t D σ H1 else u D σ H1
def ps_if{a b:List Stmt}{tc:TT}(hc:PT X c tc)(ha:PSs X a t)(hb:PSs X b u):PS X (.If c a b pos) (tIfS tc t u):=by
 intro lw s σ H D I h;refine wpAny_If (lz (hc lw s σ H _ I h) λd s1 ⟨H1,I1,q1⟩=>?_);cases d with
 |true=>exact ha lw s1 σ H1 D I1 q1
 |false=>exact hb lw s1 σ H1 D I1 q1
end
abbrev TG:=V->St->Hp->(St->Hp->Prop)->Prop
abbrev TGs:=List V->St->Hp->(St->Hp->Prop)->Prop
def PG(X:Cx)(target:Expr)(t:TG):Prop:=
 ∀(lw:Ai) (s:Shared) (σ:St) (H:Hp) (v:V) (u:Value) (Q:St->Hp->Prop),Inv X lw σ H s->RelV v u->t v σ H Q->
  wpAny (model X.prog X.w) X.A (assign target X.env u) (λ_ s'=>∃σ' H',Inv X lw σ' H' s'/\Q σ' H') X.xe s
def PGs(X:Cx)(ts:List Expr)(t:TGs):Prop:=
 ∀(lw:Ai) (s:Shared) (σ:St) (H:Hp) (vs:List V) (us:Al) (Q:St->Hp->Prop),Inv X lw σ H s->Vals vs us->t vs σ H Q->
  wpAny (model X.prog X.w) X.A (assignInOrder ((assignEach ts X.env).map (·.2)) us) (λ_ s'=>∃σ' H',Inv X lw σ' H' s'/\Q σ' H') X.xe s
abbrev TSet:=V->V->V->Hp->(Hp->Prop)->Prop
def PSet(X:Cx)(t:TSet):Prop:=
 ∀(lw:Ai) (s:Shared) (σ:St) (H:Hp) (o i v:V) (ov iv u:Value) (Q:Hp->Prop),Inv X lw σ H s->RelV o ov->RelV i iv->RelV v u->t o i v H Q->
  wpAny (model X.prog X.w) X.A (setItem ov iv u) (λ_ s'=>∃H',Inv X lw σ H' s'/\Q H') X.xe s
def kT(i:Nat):TG:=λv σ H Q=>Q (σ.set i (some v)) H
def jFS{i:Nat}{x:Str}(hN:X.N.Nodup)(hi:X.N[i]?=some x)(hx:Loc X.env.scope x)(hf:X.fn x=true\/X.env.scope.names.lookup x=some .local:=by first|exact .inl rfl|exact .inr rfl|assumption):PG X (.Name x pos) (kT i):=by
 intro lw s σ H v u Q I r h;exact wpAny_assign_Name (jDG I hN hi hx r (λs' I'=>⟨_,H,I',h⟩) hf)
def gNil:TGs:=λvs σ H Q=>vs=[]/\Q σ H
inductive gCons(t:TG)(u:TGs)(vs:List V)(σ:St)(H:Hp)(Q:St->Hp->Prop):Prop|i(v r:_)(_:vs=v::r)(_:t v σ H λσ' H'=>u r σ' H' Q)
def jTJ:PGs X [] gNil:=by
 intro lw s σ H vs us Q I r h;obtain⟨e,h⟩:=h;subst e;cases r;exact assignInOrder_nil ⟨σ,H,I,h⟩
def jQ2{t:TG}{u:TGs}(h1:PG X e t)(h2:PGs X es u)
  (hs:(assignEach (e::es) X.env).map (·.2)=assign e X.env::(assignEach es X.env).map (·.2):=by rfl):PGs X (e::es) (gCons t u):=by
 intro lw s σ H vs us Q I r h;obtain⟨v,vr,e1,h⟩:=h;subst e1;cases r with
 |cons r rr=>
  rw[hs];refine assignInOrder_cons (lz (h1 lw s σ H _ _ _ I r h) λ_ s1 ⟨σ1,H1,I1,q1⟩=>?_);exact h2 lw s1 σ1 H1 _ _ Q I1 rr q1
inductive gTup(K:W.Frag)(n:Nat)(t:TGs)(v:V)(σ:St)(H:Hp)(Q:St->Hp->Prop):Prop|i(a xs:_)(_:v=.ref a)(_:SqT K H a xs)(_:xs.length=n)(_:t xs σ H Q)
def jWB{k:Nat}{t:TGs}{n:Nat}(hc:X.calm=true)(h:PGs X es t)
  (hn:(assignEach es X.env).length=n:=by rfl) (hst:(assignEach es X.env).findIdx? (·.1)=none:=by rfl):PG X (.Tuple es k pos) (gTup X.K n t):=by
 intro lw s σ H v u Q I r hw;obtain⟨a,xs,e1,hq,hl,hw⟩:=hw;subst e1;cases r;obtain⟨its,rv,ht,hz⟩:=I.tuple hq;refine assign_Tuple_tuple (I.ok.hd hc) ht (by simp[hn,<- hl,rv.length]) hst λh' hx=>?_;have I1:Inv X lw σ H {s with heap:=h'}:=I.kept (t':=s.toks) λb o e=>hx b o (aO (aC e)) e;exact h lw _ σ H xs _ Q I1 (by simpa using rv) hw
def gSub(to ti:TE)(t:TSet):TG:=λv σ H Q=>to σ H λo H1=>ti σ H1 λi H2=>t o i v H2 λH3=>Q σ H3
def jWC{o i:Expr}{to ti:TE}{t:TSet}(ho:PE X o to)(hi:PE X i ti)(hs:PSet X t)
  (ha:∀v,assign (.Subscript o i pos) X.env v=(do
   let ov <- holding [v] (eval o X.env)
   let iv <- holding [v,ov] (eval i X.env)
   standAt pos
   holding [v,ov,iv] (setItem ov iv v)
   release [v,ov,iv] []):=by intro _;rfl):PG X (.Subscript o i pos) (gSub to ti t):=by
 intro lw s σ H v u Q I r h;rw[ha];refine ab (bE (lz (ho lw s σ H _ I h) λov s1 ⟨x,H1,I1,r1,q1⟩=>?_));refine ab (bE (lz (hi lw s1 σ H1 _ I1 q1) λiv s2 ⟨y,H2,I2,r2,q2⟩=>?_));refine ab (eB (ab (bE (lz (hs lw s2 σ H2 x y v ov iv u _ I2 r1 r2 r q2) λ_ s3 ⟨H3,I3,q3⟩=>?_))));exact wpAny_release ⟨σ,H3,I3,q3⟩
def tAsg(te:TE)(g:TG):TS:=λD σ H=>te σ H λx H1=>g x σ H1 D.nx
def jW7{g:TG}(he:PE X e te)(hg:PG X tg g)(hs:swapsWithSole [tg] e pos.line X.env=pure false:=by rfl)(hw:swappedStores [tg] e X.env=pure none:=by rfl)
  (h1:(assignEach [tg] X.env).map (·.2)=[assign tg X.env]:=by rfl):PS X (.Assign [tg] e pos) (tAsg te g):=by
 intro lw s σ H D I h;refine wpAny_Assign_stores (lz (he lw s σ H _ I h) λv s1 ⟨x,H1,I1,r1,q1⟩=>?_) hs hw;rw[h1];exact lz (hg lw s1 σ H1 x v _ I1 r1 q1) λ_ s2 q=>q
def qN{i:Nat}{x:Str}{e:Expr}{te:TE}{pos':Pos}(hN:X.N.Nodup)(hi:X.N[i]?=some x)(hx:Loc X.env.scope x)(he:PE X e te)(hs:swapsWith e (some (.Name x pos')) pos.line X.env=pure false:=by rfl)(hf:X.fn x=true\/X.env.scope.names.lookup x=some .local:=by first|exact .inl rfl|exact .inr rfl|assumption):
  PS X (.Assign [.Name x pos'] e pos) (tAsg te (kT i)):=by
 intro lw s σ H D I h;refine wpAny_Assign_Name (lz (he lw s σ H _ I h) λv s1 ⟨y,H1,I1,r1,q1⟩=>?_) hs;exact jDG I1 hN hi hx r1 (λs2 I2=>⟨_,H1,I2,q1⟩) hf
def jRY(c:TT)(tb:TS):TS:=λD σ H=>∃W:Nat->St->Hp->Prop,(∃m,W m σ H)/\∀m σ H,W m σ H->
 c σ H λb H1=>if b=true then ∃N:St->Hp->Prop,(∀σ' H',N σ' H'->∃m',m'<m/\W m' σ' H')/\tb {D with nx:=N,ct:=N,bk:=D.nx} σ H1 else D.nx σ H1
def jPU{tc:TT}{tb:TS}(hp:PassesOwn (model X.prog X.w) X.A X.env X.xe)(hc:PT X c tc)(hb:PSs X body tb):PS X (.While c body [] pos) (jRY tc tb):=by
 intro lw s σ H D I h;obtain⟨W,⟨m0,w0⟩,turn⟩:=h;refine wpAny_While (codeAny_whileLoop (λn s'=>∃σ' H',Inv X lw σ' H' s'/\W n σ' H') ?_ m0 ⟨σ,H,I,w0⟩);rintro n s1 ⟨σ1,H1,I1,w1⟩;refine dF hp (lz (hc lw s1 σ1 H1 _ I1 (turn n σ1 H1 w1)) λb s2 ⟨H2,I2,q2⟩=>?_);cases b with
 |true=>
  obtain⟨N,hN,q2⟩:=q2;rw[ax rfl];refine dF hp (lz (hb lw s2 σ1 H2 _ I2 q2) λf s3 q3=>?_);cases f with
  |next=>
   obtain⟨σ3,H3,I3,n3⟩:=q3;obtain⟨m',hm,w3⟩:=hN σ3 H3 n3;exact⟨m',hm,σ3,H3,I3,w3⟩
  |cont=>
   obtain⟨σ3,H3,I3,n3⟩:=q3;obtain⟨m',hm,w3⟩:=hN σ3 H3 n3;exact⟨m',hm,σ3,H3,I3,w3⟩
  |brk=>exact q3
  |ret v=>exact q3
 |false=>
  rw[aq am];exact gH ⟨σ1,H2,I2,q2⟩
structure It where
 go:Nat->Hp->Prop
 yld:Nat->Hp->V->Hp->Prop
 stop:Nat->Hp->Prop
def FpOk(X:Cx)(lw:Ai)(H:Hp)(b:Addr):Prop:=
 H b=none/\b≠X.env.locals/\b∉X.fs/\(b∈X.ex\/X.s₀.heap.objs.size<=b)/\(∀x c,X.env.cells.lookup x=some c->c≠b)/\∀p∈X.pn++lw,p.1≠b
def Inv.fpOk{b:Addr}(I:Inv X lw σ H s)(hb:s.heap.objs.size<=b)(hn:H' b=none):FpOk X lw H' b:=by
 refine⟨hn,cr (aR I.lt hb),I.nofs hb,.inr (bA I.sz hb),λx c e z=>?_,λp hp z=>?_⟩
 .obtain⟨v,q⟩:=I.cell x c e;exact absurd (aR q.lt (by rw[z];exact hb)) (cO _)
 .exact absurd (aR (aC (I.pin p hp).1) (by rw[z];exact hb)) (cO _)
structure Turn (P:Program)(w:World)(K:W.Frag)(tg:Expr)(J:It)(fp:List Addr)(it:Addr)(tn:Nat->Heap->Prop):Prop where
 mem:it∈fp
 obj:∀i h,tn i h->∀b∈fp,∃o,h.get? b=some o/\∀v,o.data≠.cell v
 keep:∀i h h',tn i h->(∀b∈fp,∀o,h.get? b=some o->h'.get? b=some o)->tn i h'
 item:∀(X:Cx),X.prog=P->X.w=w->X.K=K->X.calm=true->∀(i:Nat) (lw:Ai) (s:Shared) (σ:St) (H:Hp) (E:Ah),Inv X lw σ H s->(∀b∈fp,FpOk X lw H b)->tn i s.heap->J.go i H->
  wpAny (model P w) X.A (pyNext (.ref it)) (λr s1=>∃u,r=some u/\
   wpAny (model P w) X.A (letOwnedTupleGo tg (.ref it) u) (λ_ s2=>∃x H',Inv X lw σ H' s2/\RelV x u/\J.yld i H x H'/\tn (i+1) s2.heap/\∀b∈fp,H' b=none) E s1) E s
 done:∀(X:Cx),X.prog=P->X.w=w->X.K=K->X.calm=true->∀(i:Nat) (lw:Ai) (s:Shared) (σ:St) (H:Hp) (E:Ah),Inv X lw σ H s->(∀b∈fp,FpOk X lw H b)->tn i s.heap->J.stop i H->
  wpAny (model P w) X.A (pyNext (.ref it)) (λr s1=>r=none/\Inv X lw σ H s1) E s
 self:∀(A:Around) (i:Nat) (s:Shared) (Q:Ah) (E:Ah),tn i s.heap->Q (.ref it) s->wpAny (model P w) A (pyIter (.ref it)) Q E s
abbrev TI:=St->Hp->(It->Hp->Prop)->Prop
def PIE(X:Cx)(lw:Ai)(σ:St)(tg:Expr)(R:It->Hp->Prop)(itv:Value)(s2:Shared):Prop:=
 ∃(it:Addr) (fp:List Addr) (tn:Nat->Heap->Prop) (J:It) (H':Hp),itv=.ref it/\Inv X lw σ H' s2/\Turn X.prog X.w X.K tg J fp it tn/\tn 0 s2.heap/\(∀b∈fp,FpOk X lw H' b)/\R J H'
def PI(X:Cx)(tg iter:Expr)(wi:TI):Prop:=
 ∀(lw:Ai) (s:Shared) (σ:St) (H:Hp) (R:It->Hp->Prop),Inv X lw σ H s->wi σ H R->
  wpAny (model X.prog X.w) X.A (eval iter X.env) (λv s1=>wpAny (model X.prog X.w) X.A (pyIter v) (PIE X lw σ tg R) X.xe s1) X.xe s
def go_of{M:Model}{A:Around}{E:Ah}{s:Shared}{tg:Expr}{it:Addr}{u:Value}{o:Obj}{n:String}{vs:An}{Q:Unit->Shared->Prop}(ho:s.heap.get? it=some o)(hc:o.cls=.type n)(hd:o.data=.fields vs)
  (hn: ["enumerate","zip","dict_itemiterator","dict_reverseitemiterator","odict_iterator","itertools.zip_longest","itertools.pairwise"].contains n=false) (hQ:Q () s):wpAny M A (letOwnedTupleGo tg (.ref it) u) Q E s:=by
 unfold letOwnedTupleGo;cases tg<;>first
  |exact ah hQ
  | (cases u<;>first
    |exact ah hQ
    | (refine ab (gf ho ?_)
       rw [hc, hd];show wpAny M A (if (["enumerate", "zip", "dict_itemiterator", "dict_reverseitemiterator", "odict_iterator", "itertools.zip_longest", "itertools.pairwise"].contains n && vs[0]? == some (rawInt _)) = true then _ else _) Q E s;rw [aq (by intro h;rw [hn, eG] at h;cases h)];exact ah hQ))
def Itl(K:W.Frag)(a:Addr):It:=
 ⟨λi H=>∃xs x,SqL K H a xs/\xs[i]?=some x,λi H x H'=>H'=H/\∀xs,SqL K H a xs->xs[i]?=some x,λi H=>∃xs,SqL K H a xs/\xs.length<=i⟩
def Itt(K:W.Frag)(a:Addr):It:=
 ⟨λi H=>∃xs x,SqT K H a xs/\xs[i]?=some x,λi H x H'=>H'=H/\∀xs,SqT K H a xs->xs[i]?=some x,λi H=>∃xs,SqT K H a xs/\xs.length<=i⟩
def Itr(lo:Int)(n:Nat):It:=⟨λi _=>i<n,λi H x H'=>H'=H/\x=.int (lo+i),λi _=>n<=i⟩
theorem jM6(a it:Addr):Turn P w K tg (Itl K a) [it] it (λi h=>h.IsListIter it a i) where
 mem:=Ad
 obj:=λi h st b hb=>by
  have e:b=it:=by simpa using hb
  subst e;obtain⟨o,e,c,d⟩:=st;exact⟨o,e,λv z=>by rw[d] at z;cases z⟩
 keep:=λi h h' st k=>st.at λo e=>k it Ad o e
 item:=by
  intro X hP hw hK hc i lw s σ H E I hf st hg;subst hP hw hK;obtain⟨xs,x,hq,hx⟩:=hg;obtain⟨its,rv,p,hz⟩:=I.list hq;obtain⟨u,hu,ru⟩:=rv.get hx;obtain⟨f0,f1,f2,f3,f4,f5⟩:=hf it Ad;refine wpAny_pyNext_list_item st p.isList (x:=u) (by simpa using hu) λh' st' sb=>?_;have I1:Inv X lw σ H {s with heap:=h'}:=I.turned (t':=s.toks) (λb o hb e=>(sb.2 b hb).trans e) f0 f1 f3 f4 f5;obtain⟨o,e,c,d⟩:=id st';exact⟨u,rfl,go_of (s:= {s with heap:=h'}) e c d Ac ⟨x,H,I1,ru,⟨rfl,λys hy=>by rw[I.list_inj hy hq];exact hx⟩,st',λb hb=>(hf b hb).1⟩⟩
 done:=by
  intro X hP hw hK hc i lw s σ H E I hf st hg;subst hP hw hK;obtain⟨xs,hq,hx⟩:=hg;obtain⟨its,rv,p,hz⟩:=I.list hq;obtain⟨f0,f1,f2,f3,f4,f5⟩:=hf it Ad;have hl:=rv.length;exact wpAny_pyNext_list_end (I.ok.hd hc) st p.isList (by simp;lia) λh' eb=>⟨rfl,I.turned (t':=s.toks) (λb o hb e=>eb b o hb e) f0 f1 f3 f4 f5⟩
 self:=λ_ _ _ _ _ st h=>wpAny_pyIter_listiter st h
theorem jL1(a it:Addr):Turn P w K tg (Itt K a) [it] it (λi h=>h.IsTupleIter it a i) where
 mem:=Ad
 obj:=λi h st b hb=>by
  have e:b=it:=by simpa using hb
  subst e;obtain⟨o,e,c,d⟩:=st;exact⟨o,e,λv z=>by rw[d] at z;cases z⟩
 keep:=λi h h' st k=>st.at λo e=>k it Ad o e
 item:=by
  intro X hP hw hK hc i lw s σ H E I hf st hg;subst hP hw hK;obtain⟨xs,x,hq,hx⟩:=hg;obtain⟨its,rv,p,hz⟩:=I.tuple hq;obtain⟨u,hu,ru⟩:=rv.get hx;obtain⟨f0,f1,f2,f3,f4,f5⟩:=hf it Ad;refine wpAny_pyNext_tuple_item st (show s.heap.IsTuple a its.toArray from p) (x:=u) (by simpa using hu) λh' st' sb=>?_;have I1:Inv X lw σ H {s with heap:=h'}:=I.turned (t':=s.toks) (λb o hb e=>(sb.2 b hb).trans e) f0 f1 f3 f4 f5;obtain⟨o,e,c,d⟩:=id st';exact⟨u,rfl,go_of (s:= {s with heap:=h'}) e c d Ac ⟨x,H,I1,ru,⟨rfl,λys hy=>by rw[I.tuple_inj hy hq];exact hx⟩,st',λb hb=>(hf b hb).1⟩⟩
 done:=by
  intro X hP hw hK hc i lw s σ H E I hf st hg;subst hP hw hK;obtain⟨xs,hq,hx⟩:=hg;obtain⟨its,rv,p,hz⟩:=I.tuple hq;obtain⟨f0,f1,f2,f3,f4,f5⟩:=hf it Ad;have hl:=rv.length;exact wpAny_pyNext_tuple_end (I.ok.hd hc) st (show s.heap.IsTuple a its.toArray from p) (by simp;lia) λh' eb=>⟨rfl,I.turned (t':=s.toks) (λb o hb e=>eb b o hb e) f0 f1 f3 f4 f5⟩
 self:=λ_ _ _ _ _ st h=>wpAny_pyIter_tupleiter st h
theorem jL2(it:Addr)(lo:Int)(n:Nat):Turn P w K tg (Itr lo n) [it] it (λi h=>IsRangeIter h it (lo+(i:Nat)*1) ((n:Int)-(i:Nat)) 1) where
 mem:=Ad
 obj:=λi h st b hb=>by
  have e:b=it:=by simpa using hb
  subst e;exact⟨_,st,λv z=>by
   have z':Data.fields _=Data.cell v:=z;cases z'⟩
 keep:=λi h h' st k=>k it Ad _ st
 item:=by
  intro X hP hw hK hc i lw s σ H E I hf st hg;subst hP hw hK;obtain⟨f0,f1,f2,f3,f4,f5⟩:=hf it Ad;have W:=Walks.range (prog:=X.prog) (w:=X.w) (I.ok.hd hc) it lo 1 n;refine W.item i s _ _ hg st λv h' tk hv st' kk=>?_;obtain⟨t,rfl⟩:=hv;have I1:Inv X lw σ H {s with heap:=h',toks:=tk}:=I.turned (λb o hb e=>kk b o (by simpa using hb) e) f0 f1 f3 f4 f5;refine⟨_,rfl,go_of (s:= {s with heap:=h',toks:=tk}) (n:= "range_iterator") st' rfl rfl Ac ⟨.int (lo+i),H,I1,⟨t,?_⟩,⟨rfl,rfl⟩,st',λb hb=>(hf b hb).1⟩⟩;rw[Int.mul_one]
 done:=by
  intro X hP hw hK hc i lw s σ H E I hf st hg;subst hP hw hK;obtain⟨f0,f1,f2,f3,f4,f5⟩:=hf it Ad;exact wpAny_pyNext_range_end (I.ok.hd hc) st (by have:n<=i:=hg;lia) λh' eb=>⟨rfl,I.turned (t':=s.toks) (λb o hb e=>eb b o hb e) f0 f1 f3 f4 f5⟩
 self:=λ_ _ _ _ _ st h=>wpAny_pyIter_rangeiter st h
section
variable {tg:Expr}
def iList(K:W.Frag)(tl:TE):TI:=λσ H R=>tl σ H λx H1=>∃a,x=.ref a/\(∃xs,SqL K H1 a xs)/\R (Itl K a) H1
def iTup(K:W.Frag)(tl:TE):TI:=λσ H R=>tl σ H λx H1=>∃a,x=.ref a/\(∃xs,SqT K H1 a xs)/\R (Itt K a) H1
def jTH{tl:TE}(hl:PE X l tl):PI X tg l (iList X.K tl):=by
 intro lw s σ H R I h;refine lz (hl lw s σ H _ I h) λv s1 ⟨x,H1,I1,r1,q1⟩=>?_;obtain⟨a,e,⟨xs,hq⟩,q⟩:=q1;subst e;cases r1;obtain⟨its,rv,p,hz⟩:=I1.list hq;refine db p.isList ?_;refine⟨s1.heap.objs.size,[s1.heap.objs.size],_,_,H1,rfl,I1.kept (t':=s1.toks) λb o e=>ae _ e,jM6 a _,⟨_,ao _ rfl,rfl,rfl⟩,λb hb=>?_,q⟩;have e:b=s1.heap.objs.size:=by simpa using hb
 subst e;exact I1.fpOk (ar _) (I1.hok.fresh (ar _))
def jWA{tl:TE}(hl:PE X l tl):PI X tg l (iTup X.K tl):=by
 intro lw s σ H R I h;refine lz (hl lw s σ H _ I h) λv s1 ⟨x,H1,I1,r1,q1⟩=>?_;obtain⟨a,e,⟨xs,hq⟩,q⟩:=q1;subst e;cases r1;obtain⟨its,rv,p,hz⟩:=I1.tuple hq;refine wpAny_pyIter_tuple (show s1.heap.IsTuple a its.toArray from p) ?_;refine⟨s1.heap.objs.size,[s1.heap.objs.size],_,_,H1,rfl,I1.kept (t':=s1.toks) λb o e=>ae _ e,jL1 a _,⟨_,ao _ rfl,rfl,rfl⟩,λb hb=>?_,q⟩;have e:b=s1.heap.objs.size:=by simpa using hb
 subst e;exact I1.fpOk (ar _) (I1.hok.fresh (ar _))
theorem jJS{R:It->Hp->Prop}{lo hi:Int}{t u v:Tok}{tk:Nat}(I:Inv X lw σ H s)(h1: -(2^62)<=lo)(h2:lo<2^62)(h3: -(2^62)<=hi)(h4:hi<2^62)
  (q:R (Itr lo (hi-lo).toNat) H):wpAny (model X.prog X.w) X.A (pyIter (.ref s.heap.objs.size)) (PIE X lw σ tg R) E {s with heap:=s.heap.push {cls:=.type "range",data:=.fields #[.int lo t,.int hi u,.int 1 v]},toks:=tk}:=by
 refine wpAny_pyIter_range (IsRange.new ..) (small_one h1 h2 h3 h4) ?_;have I1:Inv X lw σ H {s with heap:=s.heap.push {cls:=.type "range",data:=.fields #[.int lo t,.int hi u,.int 1 v]},toks:=tk}:=I.kept λb o e=>ae _ e;refine⟨(s.heap.push {cls:=.type "range",data:=.fields #[.int lo t,.int hi u,.int 1 v]}).objs.size,[(s.heap.push {cls:=.type "range",data:=.fields #[.int lo t,.int hi u,.int 1 v]}).objs.size],_,_,H,rfl,
  I1.kept (t':=tk) λb o e=>ae _ e,jL2 _ lo (hi-lo).toNat,?_,λb hb=>?_,q⟩
 .have e1:lo+((0:Nat):Int)*1=lo:=Ad;have e2:(((hi-lo).toNat:Nat):Int)-((0:Nat):Int)=Builtin.Range.rangeSize lo hi 1:=by rw[rangeSize_one];split<;>lia
  show IsRangeIter _ _ (lo+((0:Nat):Int)*1) ((((hi-lo).toNat:Nat):Int)-((0:Nat):Int)) 1;rw[e1,e2];exact ao _ rfl
 .have e:b=(s.heap.push {cls:=.type "range",data:=.fields #[.int lo t,.int hi u,.int 1 v]}).objs.size:=by simpa using hb
  subst e;exact I1.fpOk (ar _) (I1.hok.fresh (ar _))
inductive RngR(R:It->Hp->Prop)(vs:List V)(H:Hp):Prop|i(j:Int)(_:vs=[.int j])(_:-(2^62)<=j/\j<2^62/\R (Itr 0 j.toNat) H)
def iRng1(ta:TA):TI:=λσ H R=>ta σ H (RngR R)
def iRng2(ta:TA):TI:=λσ H R=>ta σ H λvs H1=>∃i j:Int,vs=[.int i,.int j]/\(-(2^62)<=i/\i<2^62/\ -(2^62)<=j/\j<2^62)/\R (Itr i (j-i).toNat) H1
theorem jC8{a:Expr}{ta:TA}(hg:Gl X "range")(hm:X.mg "range" =none)(ha:PA X [a] ta)(hs:starEach [a] X.env=[(false,eval a X.env)]:=by rfl):PI X tg (.Call (.Name "range" p) [a] [] pos) (iRng1 ta):=by
 intro lw s σ H R I h;refine Call_ (jDC I hg hm boot_range (cN (lz (ha pos lw s σ H _ I h) λus s1 ⟨vs,H1,I1,r1,q1⟩=>?_) hs rfl));obtain⟨j,e,q1,q2,q⟩:=q1;subst e;cases r1 with
 |cons r rr=>
  cases rr;obtain⟨t,rfl⟩:=r;exact call_range_1 (jJS I1 Aa Aa q1 q2 (by simpa using q))
def jN5{a:Expr}{ta:TA}(hg:Gl X "range")(hm:X.mg "range" =none)(ha:PA X [a,b] ta)(hs:starEach [a,b] X.env=[(false,eval a X.env),(false,eval b X.env)]:=by rfl)(hs2:starEach [b] X.env=[(false,eval b X.env)]:=by rfl):
  PI X tg (.Call (.Name "range" p) [a,b] [] pos) (iRng2 ta):=by
 intro lw s σ H R I h;refine Call_ (jDC I hg hm boot_range (cN (lz (ha pos lw s σ H _ I h) λus s1 ⟨vs,H1,I1,r1,q1⟩=>?_) (by rw[hs,hs2]) (by rw[hs2];rfl)));obtain⟨i,j,e,⟨q1,q2,q3,q4⟩,q⟩:=q1;subst e;cases r1 with
 |cons r rr=>
  cases rr with
  |cons r' rr=>
   cases rr;obtain⟨t,rfl⟩:=r;obtain⟨t',rfl⟩:=r';exact call_range_2 (jJS I1 q1 q2 q3 q4 q)
def tFor(wi:TI)(g:TG)(tb:TS):TS:=λD σ H=>wi σ H λJ H1=>∃W:Nat->Nat->St->Hp->Prop,(∃m,W 0 m σ H1)/\∀i m σ H,W i m σ H->
 (J.stop i H/\D.nx σ H)\/(J.go i H/\∃N:St->Hp->Prop,(∀σ' H',N σ' H'->∃m',m'<m/\W (i+1) m' σ' H')/\∀x H',J.yld i H x H'->g x σ H' λσ2 H2=>tb {D with nx:=N,ct:=N,bk:=D.nx} σ2 H2)
def jH2(fp:List Addr)(h:Heap):Ai:=fp.filterMap λb=>(h.get? b).map λo=>(b,o)
def jBF{b:Addr}(hb:b∈fp)(e:h.get? b=some o):(b,o)∈jH2 fp h:=kn.mpr ⟨b,hb,by rw[e];rfl⟩
def jNM{p:Addr×Obj}(hp:p∈jH2 fp h):p.1∈fp/\h.get? p.1=some p.2:=by
 obtain⟨b,hb,e⟩:=kn.mp hp;cases q:h.get? b with
 |none=>rw[q] at e;cases e
 |some o=>
  rw[q] at e;have e':(b,o)=p:=bo e;subst e';exact⟨hb,q⟩
def Inv.pinned(I:Inv X lw σ H s)(hf:∀b∈fp,FpOk X lw H b)(ho:∀b∈fp,∃o,s.heap.get? b=some o/\∀v,o.data≠.cell v):Inv X (lw++jH2 fp s.heap) σ H s:=
 I.pins_of λp hp=>(aM.mp hp).elim (λz=>I.pin p (aE _ z)) λz=>by
  obtain⟨hb,e⟩:=jNM z;obtain⟨f0,f1,f2,_⟩:=hf p.1 hb;obtain⟨o,e',d⟩:=ho p.1 hb;rw[e] at e';cases e';exact⟨e,f0,f1,f2,d⟩
def Inv.unpinned{pl:Ai}(I:Inv X (lw++pl) σ H s):Inv X lw σ H s:=I.pins_of λp hp=>I.pin p (aE _ (aZ _ hp))
def jS8{iter:Expr}{wi:TI}{g:TG}{tb:TS}(hp:PassesOwn (model X.prog X.w) X.A X.env X.xe)(hc:X.calm=true)(hi:PI X tg iter wi)(hg:PG X tg g)(hb:PSs X body tb)
  (hs:∀x,foldedSetIterable iter X.env x=pure x:=by intro _;rfl):PS X (.For tg iter body [] pos) (tFor wi g tb):=by
 intro lw s σ H D I h;refine wpAny_For (lz (hi lw s σ H _ I h) λv s1 h1=>lz h1 λitv s2 h2=>?_) hs;obtain⟨it,fp,tn,J,H2,e,I2,T,st2,f2,W,⟨m0,w0⟩,turn⟩:=h2;subst e;have stat:∀{H':Hp},(∀b∈fp,H' b=none)->∀b∈fp,FpOk X lw H' b:=λhn b hb=>⟨hn b hb,(f2 b hb).2⟩;refine codeAny_forLoop_any (λn s'=>∃i σ' H',Inv X lw σ' H' s'/\tn i s'.heap/\(∀b∈fp,H' b=none)/\W i n σ' H') ?_ m0 ⟨0,σ,H2,I2,st2,λb hb=>(f2 b hb).1,w0⟩;rintro n s3 ⟨i,σ3,H3,I3,st3,fr3,w3⟩;rcases turn i n σ3 H3 w3 with ⟨stop,qn⟩|⟨go,N,hN,step⟩
 .refine dF hp (lz (T.done X rfl rfl rfl hc i lw s3 σ3 H3 X.xe I3 (stat fr3) st3 stop) λr s4 ⟨hr,I4⟩=>?_);subst hr;exact gH ⟨σ3,H3,I4,qn⟩
 .refine dF hp (lz (T.item X rfl rfl rfl hc i lw s3 σ3 H3 X.xe I3 (stat fr3) st3 go) λr s4 ⟨u,hr,h4⟩=>?_);subst hr;refine dF hp (lz h4 λ_ s5 ⟨x,H5,I5,r5,y5,st5,fr5⟩=>?_);have I5':=I5.pinned (stat fr5) (T.obj _ _ st5);refine dF hp (lz (hg _ s5 σ3 H5 x u _ I5' r5 (step x H5 y5)) λ_ s6 ⟨σ6,H6,I6,q6⟩=>?_);refine dF hp (lz (hb _ s6 σ6 H6 _ I6 q6) λf s7 q7=>?_);have again:∀{σ7:St}{H7:Hp},Inv X (lw++jH2 fp s5.heap) σ7 H7 s7->N σ7 H7->∃m,m<n/\∃i σ' H',Inv X lw σ' H' s7/\tn i s7.heap/\(∀b∈fp,H' b=none)/\W i m σ' H':=λ{σ7 H7} I7 n7=>by
   obtain⟨m',hm,w7⟩:=hN σ7 H7 n7;refine⟨m',hm,i+1,σ7,H7,I7.unpinned,T.keep _ _ _ st5 λb hb o e=>(I7.pin (b,o) (aE _ (aE _ (jBF hb e)))).1,λb hb=>?_,w7⟩;obtain⟨o,e,d⟩:=T.obj _ _ st5 b hb;exact(I7.pin (b,o) (aE _ (aE _ (jBF hb e)))).2.1
  cases f with
  |next=>obtain⟨σ7,H7,I7,n7⟩:=q7;exact again I7 n7
  |cont=>obtain⟨σ7,H7,I7,n7⟩:=q7;exact again I7 n7
  |brk=>obtain⟨σ7,H7,I7,q7⟩:=q7;exact⟨σ7,H7,I7.unpinned,q7⟩
  |ret v=>obtain⟨x7,σ7,H7,I7,r7,q7⟩:=q7;exact⟨x7,σ7,H7,I7.unpinned,r7,q7⟩
end
theorem jDQ{K:W.Frag}{a:Addr}{xs:List V}{g:TG}{tb:TS}{D:Ends}{σ:St}{H:Hp}(Pv:Nat->St->Hp->Prop)(h0:Pv 0 σ H)(hl:∀i σ H,i<=xs.length->Pv i σ H->SqL K H a xs)
  (hs:∀i x σ H,xs[i]?=some x->Pv i σ H->g x σ H λσ2 H2=>tb {D with nx:=Pv (i+1),ct:=Pv (i+1),bk:=D.nx} σ2 H2) (hd:∀σ H,Pv xs.length σ H->D.nx σ H):
  ∃W:Nat->Nat->St->Hp->Prop,(∃m,W 0 m σ H)/\∀i m σ H,W i m σ H->
   ((Itl K a).stop i H/\D.nx σ H)\/((Itl K a).go i H/\∃N:St->Hp->Prop,(∀σ' H',N σ' H'->∃m',m'<m/\W (i+1) m' σ' H')/\∀x H',(Itl K a).yld i H x H'->g x σ H' λσ2 H2=>tb {D with nx:=N,ct:=N,bk:=D.nx} σ2 H2):=by
 refine⟨λi m σ H=>m=xs.length-i/\i<=xs.length/\Pv i σ H,⟨xs.length,Ad,ba _,h0⟩,?_⟩;rintro i m σ H ⟨rfl,hi,p⟩;have q:=hl i σ H hi p;by_cases hlt:i<xs.length
 .refine .inr ⟨⟨xs,xs[i],q,by simp[hlt]⟩,Pv (i+1),λσ' H' p'=>⟨xs.length-(i+1),Aa,rfl,hlt,p'⟩,λx H' y=>?_⟩;obtain⟨e,y⟩:=y;subst e;exact hs i x σ _ (y xs q) p
 .have e:i=xs.length:=Aa;subst e;exact .inl ⟨⟨xs,q,ar _⟩,hd σ H p⟩
theorem jJA{K:W.Frag}{a:Addr}{xs:List V}{g:TG}{tb:TS}{D:Ends}{σ:St}{H:Hp}(Pv:Nat->St->Hp->Prop)(h0:Pv 0 σ H)(hl:∀i σ H,i<=xs.length->Pv i σ H->SqT K H a xs)
  (hs:∀i x σ H,xs[i]?=some x->Pv i σ H->g x σ H λσ2 H2=>tb {D with nx:=Pv (i+1),ct:=Pv (i+1),bk:=D.nx} σ2 H2) (hd:∀σ H,Pv xs.length σ H->D.nx σ H):
  ∃W:Nat->Nat->St->Hp->Prop,(∃m,W 0 m σ H)/\∀i m σ H,W i m σ H->
   ((Itt K a).stop i H/\D.nx σ H)\/((Itt K a).go i H/\∃N:St->Hp->Prop,(∀σ' H',N σ' H'->∃m',m'<m/\W (i+1) m' σ' H')/\∀x H',(Itt K a).yld i H x H'->g x σ H' λσ2 H2=>tb {D with nx:=N,ct:=N,bk:=D.nx} σ2 H2):=by
 refine⟨λi m σ H=>m=xs.length-i/\i<=xs.length/\Pv i σ H,⟨xs.length,Ad,ba _,h0⟩,?_⟩;rintro i m σ H ⟨rfl,hi,p⟩;have q:=hl i σ H hi p;by_cases hlt:i<xs.length
 .refine .inr ⟨⟨xs,xs[i],q,by simp[hlt]⟩,Pv (i+1),λσ' H' p'=>⟨xs.length-(i+1),Aa,rfl,hlt,p'⟩,λx H' y=>?_⟩;obtain⟨e,y⟩:=y;subst e;exact hs i x σ _ (y xs q) p
 .have e:i=xs.length:=Aa;subst e;exact .inl ⟨⟨xs,q,ar _⟩,hd σ H p⟩
theorem jA9{lo:Int}{n:Nat}{g:TG}{tb:TS}{D:Ends}{σ:St}{H:Hp}(Pv:Nat->St->Hp->Prop)(h0:Pv 0 σ H)
  (hs:∀i σ H,i<n->Pv i σ H->g (.int (lo+i)) σ H λσ2 H2=>tb {D with nx:=Pv (i+1),ct:=Pv (i+1),bk:=D.nx} σ2 H2) (hd:∀σ H,Pv n σ H->D.nx σ H):
  ∃W:Nat->Nat->St->Hp->Prop,(∃m,W 0 m σ H)/\∀i m σ H,W i m σ H->
   ((Itr lo n).stop i H/\D.nx σ H)\/((Itr lo n).go i H/\∃N:St->Hp->Prop,(∀σ' H',N σ' H'->∃m',m'<m/\W (i+1) m' σ' H')/\∀x H',(Itr lo n).yld i H x H'->g x σ H' λσ2 H2=>tb {D with nx:=N,ct:=N,bk:=D.nx} σ2 H2):=by
 refine⟨λi m σ H=>m=n-i/\i<=n/\Pv i σ H,⟨n,Ad,ba _,h0⟩,?_⟩;rintro i m σ H ⟨rfl,hi,p⟩;by_cases hlt:i<n
 .refine .inr ⟨hlt,Pv (i+1),λσ' H' p'=>⟨n-(i+1),Aa,rfl,hlt,p'⟩,λx H' y=>?_⟩;obtain⟨e,y⟩:=y;subst e y;exact hs i σ _ hlt p
 .have e:i=n:=Aa;subst e;exact .inl ⟨ar _,hd σ H p⟩
abbrev R2:=V->V->Hp->VK->Prop
def OpR(X:Cx)(f:Value->Value->Sem Value)(r:R2):Prop:=
 ∀(lw:Ai) (s:Shared) (σ:St) (H:Hp) (x y:V) (v u:Value) (Q:VK),Inv X lw σ H s->RelV x v->RelV y u->r x y H Q->
  wpAny (model X.prog X.w) X.A (f v u) (EP X lw σ Q) X.xe s
def UnR(X:Cx)(f:Value->Sem Value)(r:V->Hp->VK->Prop):Prop:=
 ∀(lw:Ai) (s:Shared) (σ:St) (H:Hp) (x:V) (v:Value) (Q:VK),Inv X lw σ H s->RelV x v->r x H Q->
  wpAny (model X.prog X.w) X.A (f v) (EP X lw σ Q) X.xe s
def qA(X:Cx)(f:Value)(r:List V->Hp->VK->Prop):Prop:=
 ∀(lw:Ai) (s:Shared) (σ:St) (H:Hp) (xs:List V) (us:Al) (Q:VK),Inv X lw σ H s->Vals xs us->r xs H Q->
  wpAny (model X.prog X.w) X.A (call f us) (EP X lw σ Q) X.xe s
def tOp(r:R2)(ta tb:TE):TE:=λσ H Q=>ta σ H λx H1=>tb σ H1 λy H2=>r x y H2 Q
def tUn(r:V->Hp->VK->Prop)(ta:TE):TE:=λσ H Q=>ta σ H λx H1=>r x H1 Q
inductive rI(C:Int->Int->Prop)(g:Int->Int->V)(x y:V)(H:Hp)(Q:VK):Prop|i(i j:_)(_:x=.int i)(_:y=.int j)(_:C i j)(_:Q (g i j) H)
inductive rI0(g:Int->Int->V)(x y:V)(H:Hp)(Q:VK):Prop|i(i j:_)(_:x=.int i)(_:y=.int j)(_:Q (g i j) H)
inductive rU(g:Int->V)(x:V)(H:Hp)(Q:VK):Prop|i(i:_)(_:x=.int i)(_:Q (g i) H)
variable {c:Expr}{tc:TE}
section
variable {a:Expr}
def binT(ha:PE X a ta)(hb:PE X b tb){R:V->V->Hp->Prop}(I:Inv X lw σ H s)
  (h:ta σ H λx H1=>tb σ H1 λy H2=>R x y H2) 
  (hf:∀v u s2 x y H2,Inv X lw σ H2 s2->RelV x v->RelV y u->R x y H2->wpAny (model X.prog X.w) X.A (f v u) Q X.xe s2):
  wpAny (model X.prog X.w) X.A (eval a X.env) (λv s₁=>wpAny (model X.prog X.w) X.A (eval b X.env) (λu s₂=>wpAny (model X.prog X.w) X.A (f v u) Q X.xe s₂) X.xe s₁) X.xe s:=by
 refine lz (ha lw s σ H _ I h) λv s1 ⟨x,H1,I1,r1,q1⟩=>?_;refine lz (hb lw s1 σ H1 _ I1 q1) λu s2 ⟨y,H2,I2,r2,q2⟩=>?_;exact hf v u s2 x y H2 I2 r1 r2 q2
def kX{op:Operator}{r:R2}(ho:OpR X (binaryOp op) r)(ha:PE X a ta)(hb:PE X b tb):PE X (.BinOp a op b pos) (tOp r ta tb):=by
 intro lw s σ H Q I h;exact wpAny_BinOp (binT ha hb I h λv u s2 x y H2 I2 rx ry q=>ho lw s2 σ H2 x y v u Q I2 rx ry q)
def pe_un{op:UnaryOp}{r:V->Hp->VK->Prop}(ho:UnR X (unaryOp op) r)(ha:PE X a ta):PE X (.UnaryOp op a pos) (tUn r ta):=by
 intro lw s σ H Q I h;exact UnaryOp_ (lz (ha lw s σ H _ I h) λv s1 ⟨x,H1,I1,r1,q1⟩=>ho lw s1 σ H1 x v Q I1 r1 q1)
def opI{C:Int->Int->Prop}
  (rule:∀(i j:Int) (t u:Tok) (s:Shared) (Q:Ah) (E:Ah),C i j->Q (.int (g i j) s.toks) {s with toks:=s.toks+1} ->wpAny (model X.prog X.w) X.A (f (.int i t) (.int j u)) Q E s):
  OpR X f (rI C λi j=> .int (g i j)):=by
 intro lw s σ H x y v u Q I rx ry h;obtain⟨i,j,rfl,rfl,hc,q⟩:=h;obtain⟨t,rfl⟩:=rx;obtain⟨t',rfl⟩:=ry;exact rule i j t t' s _ _ hc ⟨.int (g i j),H,I.tok _,⟨_,rfl⟩,q⟩
def opI0 
  (rule:∀(i j:Int) (t u:Tok) (s:Shared) (Q:Ah) (E:Ah),Q (.int (g i j) s.toks) {s with toks:=s.toks+1} ->wpAny (model X.prog X.w) X.A (f (.int i t) (.int j u)) Q E s):
  OpR X f (rI0 λi j=> .int (g i j)):=by
 intro lw s σ H x y v u Q I rx ry h;obtain⟨i,j,rfl,rfl,q⟩:=h;obtain⟨t,rfl⟩:=rx;obtain⟨t',rfl⟩:=ry;exact rule i j t t' s _ _ ⟨.int (g i j),H,I.tok _,⟨_,rfl⟩,q⟩
def opB0{g:Int->Int->Bool}
  (rule:∀(i j:Int) (t u:Tok) (s:Shared) (Q:Ah) (E:Ah),Q (.bool (g i j)) s->wpAny (model X.prog X.w) X.A (f (.int i t) (.int j u)) Q E s):
  OpR X f (rI0 λi j=> .bl (g i j)):=by
 intro lw s σ H x y v u Q I rx ry h;obtain⟨i,j,rfl,rfl,q⟩:=h;obtain⟨t,rfl⟩:=rx;obtain⟨t',rfl⟩:=ry;exact rule i j t t' s _ _ ⟨.bl (g i j),H,I,rfl,q⟩
def CPow(i j:Int):Prop:=0<=j/\j<=1000000/\i.natAbs<2^64
def CMul(i j:Int):Prop:=(-(2^64)<i/\i<2^64)\/(-(2^64)<j/\j<2^64)
def CMul.ok{j:Int}(h:CMul i j):IntMulOk i j:=by
 rcases h with ⟨h1,h2⟩|⟨h1,h2⟩
 .exact .of_left (intBits_le_64 h1 h2)
 .exact .of_right (intBits_le_64 h1 h2)
def jL0(k:Nat):(0:Int)<=2^k:=by
 rw[two_pow_cast];exact fi _
def yF:OpR X (binaryOp .Add) (rI0 λi j=> .int (i+j)):=opI0 λ_ _ _ _ _ _ _ q=>add_int q
def jBQ:OpR X (binaryOp .Sub) (rI0 λi j=> .int (i-j)):=opI0 λ_ _ _ _ _ _ _ q=>sub_int q
def jDB:OpR X (binaryOp .Mult) (rI CMul λi j=> .int (i*j)):=opI λ_ _ _ _ _ _ _ hc q=>mul_int q hc.ok
theorem jH7:OpR X (binaryOp .Mod) (rI (λ_ j=>0<j) λi j=> .int (i%j)):=opI λi j _ _ _ _ _ hc q=>by
 have h1:(0:Int)<j:=hc;exact mod_int' Aa (by rw[Int.fmod_eq_emod_of_nonneg i Aa];exact q)
def jN9:OpR X (binaryOp .Pow) (rI CPow λi j=> .int (i^j.toNat)):=opI λ_ _ _ _ _ _ _ hc q=>pow_int_small hc.1 hc.2.1 hc.2.2 q
def jH5:OpR X (binaryOp .LShift) (rI CPow λi j=> .int (i*2^j.toNat)):=opI λ_ _ _ _ _ _ _ hc q=>lshift_int_small hc.1 hc.2.1 hc.2.2 q
def jSB:OpR X (binaryOp .RShift) (rI (λ_ j=>0<=j) λi j=> .int (i/2^j.toNat)):=opI λi j _ _ _ _ _ hc q=>
 rshift_int hc (by rw[hG i (jL0 _)];exact q)
def jK3:OpR X (binaryOp .BitAnd) (rI0 λi j=> .int (Builtin.bitAnd i j)):=opI0 λ_ _ _ _ _ _ _ q=>and_int q
def op_or:OpR X (binaryOp .BitOr) (rI0 λi j=> .int (Builtin.bitOr i j)):=opI0 λ_ _ _ _ _ _ _ q=>or_int q
def unI{f:Value->Sem Value}{g:Int->Int}
  (rule:∀(i:Int) (t:Tok) (s:Shared) (Q:Ah) (E:Ah),Q (.int (g i) s.toks) {s with toks:=s.toks+1} ->wpAny (model X.prog X.w) X.A (f (.int i t)) Q E s):
  UnR X f (rU λi=> .int (g i)):=by
 intro lw s σ H x v Q I rx h;obtain⟨i,rfl,q⟩:=h;obtain⟨t,rfl⟩:=rx;exact rule i t s _ _ ⟨.int (g i),H,I.tok _,⟨_,rfl⟩,q⟩
def jM4:UnR X (unaryOp .USub) (rU λi=> .int (-i)):=unI λ_ _ _ _ _ q=>neg_int q
def jVL:UnR X (unaryOp .Invert) (rU λi=> .int (Builtin.bitNot i)):=unI λ_ _ _ _ _ q=>invert_int q
end
noncomputable def scal:V->V->Bool
 | .non,.non=>true| .non,.int _=>true| .int _,.non=>true| .non,.bl _=>true| .bl _,.non=>true| .non,.str _=>true| .str _,.non=>true
 | .int _,.int _=>true| .bl _,.bl _=>true| .str _,.str _=>true| .byt _,.byt _=>true
 | .int _,.str _=>true| .str _,.int _=>true| .bl _,.str _=>true| .str _,.bl _=>true
 |_,_=>false
def rEq:R2:=λx y H Q=>scal x y=true/\Q (.bl (decide (x=y))) H
def rNe:R2:=λx y H Q=>scal x y=true/\Q (.bl (!decide (x=y))) H
theorem jOX{j:Int}:decide (V.int i=V.int j)=(i==j):=by
 rw[cB];simp
theorem jSQ{i j:Bool}:decide (V.bl i=V.bl j)=(i==j):=by
 rw[cB];simp
theorem jOW{i j:Str}:decide (V.str i=V.str j)=(i==j):=by
 rw[cB];simp
theorem jOY{i j:Array UInt8}:decide (V.byt i=V.byt j)=(i.toList==j.toList):=by
 rw[cB];cases i;cases j;simp
variable {r:R2}
section
variable {a:Expr}
def kJ{Q:VK}{k k':Bool}(I:Inv X lw σ H s)(q:Q (.bl k) H)(e:k=k'):EP X lw σ Q (.bool k') s:=by
 subst e;exact⟨.bl k,H,I,rfl,q⟩
def qJ:OpR X (compareOp .Eq) rEq:=by
 intro lw s σ H x y v u Q I rx ry h;obtain⟨hs,q⟩:=h;cases x with
 |non=>
  cases rx;cases y with
  |non=>cases ry;exact PySem.EqNone.eq_none_none (kJ I q Ad)
  |bl j=>cases ry;exact PySem.EqNone.eq_none_bool (kJ I q Ad)
  |int j=>obtain⟨t',rfl⟩:=ry;exact PySem.EqNone.eq_none_int (kJ I q Ad)
  |str j=>obtain⟨t',rfl⟩:=ry;exact PySem.EqNone.eq_none_str (kJ I q Ad)
  |_=>exact absurd (show false=true from hs) am
 |bl i=>
  cases rx;cases y with
  |non=>cases ry;exact PySem.EqNone.eq_bool_none (kJ I q Ad)
  |bl j=>cases ry;exact eq_bool (kJ I q jSQ)
  |str j=>obtain⟨t',rfl⟩:=ry;exact PySem.EqMixed.eq_bool_str (kJ I q Ad)
  |_=>exact absurd (show false=true from hs) am
 |int i=>
  obtain⟨t,rfl⟩:=rx;cases y with
  |non=>cases ry;exact PySem.EqNone.eq_int_none (kJ I q Ad)
  |int j=>obtain⟨t',rfl⟩:=ry;exact eq_int (kJ I q jOX)
  |str j=>obtain⟨t',rfl⟩:=ry;exact PySem.EqMixed.eq_int_str (kJ I q Ad)
  |_=>exact absurd (show false=true from hs) am
 |str i=>
  obtain⟨t,rfl⟩:=rx;cases y with
  |non=>cases ry;exact PySem.EqNone.eq_str_none (kJ I q Ad)
  |bl j=>cases ry;exact PySem.EqMixed.eq_str_bool (kJ I q Ad)
  |int j=>obtain⟨t',rfl⟩:=ry;exact PySem.EqMixed.eq_str_int (kJ I q Ad)
  |str j=>obtain⟨t',rfl⟩:=ry;exact eq_str (kJ I q jOW)
  |_=>exact absurd (show false=true from hs) am
 |byt i=>
  obtain⟨t,rfl⟩:=rx;cases y with
  |byt j=>obtain⟨t',rfl⟩:=ry;exact PySem.W.eq_bytes (kJ I q jOY)
  |_=>exact absurd (show false=true from hs) am
 |_=>cases y<;>exact absurd (show false=true from hs) am
def op_ne:OpR X (compareOp .NotEq) rNe:=by
 intro lw s σ H x y v u Q I rx ry h;obtain⟨hs,q⟩:=h;cases x with
 |non=>
  cases rx;cases y with
  |non=>cases ry;exact PySem.EqNone.ne_none_none (kJ I q Ad)
  |bl j=>cases ry;exact PySem.EqNone.ne_none_bool (kJ I q Ad)
  |int j=>obtain⟨t',rfl⟩:=ry;exact PySem.EqNone.ne_none_int (kJ I q Ad)
  |str j=>obtain⟨t',rfl⟩:=ry;exact PySem.EqNone.ne_none_str (kJ I q Ad)
  |_=>exact absurd (show false=true from hs) am
 |bl i=>
  cases rx;cases y with
  |non=>cases ry;exact PySem.EqNone.ne_bool_none (kJ I q Ad)
  |bl j=>cases ry;exact ne_bool (kJ I q (bW not jSQ))
  |str j=>obtain⟨t',rfl⟩:=ry;exact PySem.EqMixed.ne_bool_str (kJ I q Ad)
  |_=>exact absurd (show false=true from hs) am
 |int i=>
  obtain⟨t,rfl⟩:=rx;cases y with
  |non=>cases ry;exact PySem.EqNone.ne_int_none (kJ I q Ad)
  |int j=>obtain⟨t',rfl⟩:=ry;exact ne_int (kJ I q (bW not jOX))
  |str j=>obtain⟨t',rfl⟩:=ry;exact PySem.EqMixed.ne_int_str (kJ I q Ad)
  |_=>exact absurd (show false=true from hs) am
 |str i=>
  obtain⟨t,rfl⟩:=rx;cases y with
  |non=>cases ry;exact PySem.EqNone.ne_str_none (kJ I q Ad)
  |bl j=>cases ry;exact PySem.EqMixed.ne_str_bool (kJ I q Ad)
  |int j=>obtain⟨t',rfl⟩:=ry;exact PySem.EqMixed.ne_str_int (kJ I q Ad)
  |str j=>obtain⟨t',rfl⟩:=ry;exact ne_str (kJ I q (bW not jOW))
  |_=>exact absurd (show false=true from hs) am
 |byt i=>
  obtain⟨t,rfl⟩:=rx;cases y with
  |byt j=>obtain⟨t',rfl⟩:=ry;exact PySem.W.ne_bytes (kJ I q (bW not jOY))
  |_=>exact absurd (show false=true from hs) am
 |_=>cases y<;>exact absurd (show false=true from hs) am
theorem op_lt:OpR X (compareOp .Lt) (rI0 λi j=> .bl (decide (i<j))):=opB0 λ_ _ _ _ _ _ _ q=>lt_int q
theorem op_le:OpR X (compareOp .LtE) (rI0 λi j=> .bl (decide (i<=j))):=opB0 λ_ _ _ _ _ _ _ q=>le_int q
theorem op_gt:OpR X (compareOp .Gt) (rI0 λi j=> .bl (decide (j<i))):=opB0 λ_ _ _ _ _ _ _ q=>gt_int q
theorem op_ge:OpR X (compareOp .GtE) (rI0 λi j=> .bl (decide (j<=i))):=opB0 λ_ _ _ _ _ _ _ q=>ge_int q
theorem jK1:OpR X (compareOp .Is) (λx y H Q=>y=.non/\Q (.bl (decide (x=.non))) H):=by
 intro lw s σ H x y v u Q I rx ry h;obtain⟨rfl,q⟩:=h;cases ry;refine is_none_gen (kJ I q ?_);cases x<;>first
  | (cases rx;rfl)
  | (obtain⟨t,rfl⟩:=rx;rfl)
theorem jTT:OpR X (compareOp .IsNot) (λx y H Q=>y=.non/\Q (.bl (!decide (x=.non))) H):=by
 intro lw s σ H x y v u Q I rx ry h;obtain⟨rfl,q⟩:=h;cases ry;refine isnot_none_gen (kJ I q ?_);cases x<;>first
  | (cases rx;rfl)
  | (obtain⟨t,rfl⟩:=rx;rfl)
theorem jQ(b:Expr)(h:op≠.In:=by decide)(h2:op≠.NotIn:=by decide):behindInMarks op b=false:=by
 have e1:(op==CmpOp.In)=false:=by cases op<;>first|rfl|exact absurd rfl h
 have e2:(op==CmpOp.NotIn)=false:=by cases op<;>first|rfl|exact absurd rfl h2
 cases b<;>simp[behindInMarks,e1,e2]
def jTP(ho:OpR X (compareOp op) r)(ha:PE X a ta)(hb:PE X b tb)(hm:behindInMarks op b=false):PE X (.Compare a [op] [b] pos) (tOp r ta tb):=by
 intro lw s σ H Q I h;exact wpAny_Compare1 (binT ha hb I h λv u s2 x y H2 I2 rx ry q=>ho lw s2 σ H2 x y v u Q I2 rx ry q) hm
def tTest(t:TE):TT:=λσ H Q=>t σ H (IsB Q)
def jE1(ho:OpR X (compareOp op) r)(ha:PE X a ta)(hb:PE X b tb)(hm:behindInMarks op b=false):PT X (.Compare a [op] [b] pos) (tTest (tOp r ta tb)):=by
 intro lw s σ H Q I h;refine wpAny_isTrue_Compare1 (lz (ha lw s σ H _ I h) λv s1 ⟨x,H1,I1,r1,q1⟩=>lz (hb lw s1 σ H1 _ I1 q1) λu s2 ⟨y,H2,I2,r2,q2⟩=>
  lz (ho lw s2 σ H2 x y v u _ I2 r1 r2 q2) λc s3 ⟨z,H3,I3,r3,k,e,q3⟩=>?_) hm
 subst e;cases r3;exact da ⟨H3,I3,q3⟩
def jS0(r r':R2)(ta tb tc:TE):TE:=λσ H Q=>ta σ H λx H1=>tb σ H1 λy H2=>r x y H2 λz H3=>∃k,z=.bl k/\
 (if k=true then tc σ H3 λw' H4=>r' y w' H4 Q else Q (.bl false) H3)
def jQ8{op':CmpOp}{r':R2}(ho:OpR X (compareOp op) r)(ho':OpR X (compareOp op') r')(ha:PE X a ta)(hb:PE X b tb)(hc:PE X c tc)
  (hm:lastMarks [op,op'] [b,c]=false:=by with_unfolding_all rfl):PE X (.Compare a [op,op'] [b,c] pos) (jS0 r r' ta tb tc):=by
 intro lw s σ H Q I h;refine Compare_chain (lz (ha lw s σ H _ I h) λv s1 ⟨x,H1,I1,r1,q1⟩=>chain_link (lz (hb lw s1 σ H1 _ I1 q1) λu s2 ⟨y,H2,I2,r2,q2⟩=>
  lz (ho lw s2 σ H2 x y v u _ I2 r1 r2 q2) λd s3 ⟨z,H3,I3,r3,k,e,q3⟩=>?_)) hm
 subst e;cases r3;refine da ?_;cases k with
 |false=>exact ite_ff ⟨.bl false,H3,I3,rfl,q3⟩
 |true=>exact ite_tt (chain_last (lz (hc lw s3 σ H3 _ I3 q3) λw' s4 ⟨z',H4,I4,r4,q4⟩=>ho' lw s4 σ H4 y z' u w' Q I4 r2 r4 q4))
theorem jHF:(sizeLine:Nat)<2^63:=by rw[dv];decide
def vals1{x:V}(r:Vals [x] us):∃u,us=[u]/\RelV x u:=by
 cases r with
 |cons r1 r2=>cases r2;exact⟨_,rfl,r1⟩
def vals2{x y:V}(r:Vals [x,y] us):∃u w',us=[u,w']/\RelV x u/\RelV y w':=by
 cases r with
 |cons r1 r2=>
  cases r2 with
  |cons r3 r4=>cases r4;exact⟨_,_,rfl,r1,r3⟩
def jP9(hc:X.calm=true):qA X (.builtin "max") (λxs H Q=>∃i j,xs=[.int i,.int j]/\Q (.int (if j>i then j else i)) H):=by
 intro lw s σ H xs us Q I r h;obtain⟨i,j,rfl,q⟩:=h;obtain⟨u,w',rfl,⟨t,rfl⟩,⟨t',rfl⟩⟩:=vals2 r;refine max_two_ints (I.ok.hd hc) λh' tk k=>⟨_,H,I.kept k,?_,q⟩;by_cases hj:j>i
 .rw[ax hj,ax hj];exact⟨_,rfl⟩
 .rw[aq hj,aq hj];exact⟨_,rfl⟩
def jP8(hc:X.calm=true):qA X (.builtin "min") (λxs H Q=>∃i j,xs=[.int i,.int j]/\Q (.int (if j<i then j else i)) H):=by
 intro lw s σ H xs us Q I r h;obtain⟨i,j,rfl,q⟩:=h;obtain⟨u,w',rfl,⟨t,rfl⟩,⟨t',rfl⟩⟩:=vals2 r;refine min_two_ints (I.ok.hd hc) λh' tk k=>⟨_,H,I.kept k,?_,q⟩;by_cases hj:j<i
 .rw[ax hj,ax hj];exact⟨_,rfl⟩
 .rw[aq hj,aq hj];exact⟨_,rfl⟩
def jPA:qA X (.type "int") (λxs H Q=>(∃i,xs=[.int i]/\Q (.int i) H)\/∃k,xs=[.bl k]/\Q (.int (if k then 1 else 0)) H):=by
 intro lw s σ H xs us Q I r h;rcases h with ⟨i,rfl,q⟩|⟨k,rfl,q⟩
 .obtain⟨u,rfl,t,rfl⟩:=vals1 r;exact call_int_int ⟨.int i,H,I,⟨_,rfl⟩,q⟩
 .obtain⟨u,rfl,r1⟩:=vals1 r;cases r1;exact call_int_bool ⟨.int (if k then 1 else 0),H,I.tok _,⟨_,rfl⟩,q⟩
end
structure ObjM (h:Heap)(x dx C:Addr)(mA:Ak):Prop where
 obj:h.get? x=some (instObj C dx)
 ns:h.Ns1 dx mA
 ne:dx≠x
def jO3{mA:Ak}(n:h.Ns1 dx mA):∃od,h.get? dx=some od/\∀name,lookIn name od=some (mA name):=by
 obtain⟨o,es,ep,ho,hd,hk,_,hm⟩:=n;refine⟨o,ho,λname=>?_⟩;have e:=hm name;unfold nsFind findBy at e;rw[<- Array.find?_toList] at e;unfold lookIn;rw[hd];dsimp only;split
 .rename_i y q;rw[q] at e;exact bW some e
 .rename_i q;rw[q] at e;have a:es.toList.any (·.refKey)=false:=by
   rw[List.any_eq_false];intro y hy;obtain⟨z,t,hkey⟩:=hk y (Array.mem_toList_iff.mp hy);simp[DictEntry.refKey,hkey]
  have a':¬es.toList.any (·.refKey)=true:=by rw[a];exact am
  rw[aq a'];exact bW some e
def ObjM.look{C:Addr}{mA:Ak}(I:ObjM h x dx C mA):∃od,PySem.W.InstAt h x (instObj C dx) C (some od)/\∀name,lookIn name od=some (mA name):=
 let ⟨od,ho,hl⟩:=jO3 I.ns
 ⟨od,⟨I.obj,rfl,rfl,ho⟩,hl⟩
variable {A:Around}{dx C f:Addr}
section
variable {prog:Program}{K:W.Frag}{mA:Ak}{name:Str}{v:Value}
def jUV{expr:Bool}(X:K.In s.heap)(I:ObjM s.heap x dx C mA)(hg:plainGet K C name=true)(hh:hasDictIn K C=true)
  (ha:findIn K (.ref C) name=some none) (hv:mA name=some v) (hv':handedIn v=true) (h:Q v {s with toks:=s.toks+1}):
  wpAny (model prog w) A (getAttr (.ref x) name expr) Q E s:=by
 obtain⟨od,J,hl⟩:=I.look;exact PySem.W.get_value X J (gQ hg).1 (PySem.W.findObj_own hh ha rfl (by rw[hl,hv])) hv' h
def jRA{Q:Value×List Value->Shared->Prop}(X:K.In s.heap)(I:ObjM s.heap x dx C mA)(hg:plainGet K C name=true)
  (hf:findIn K (.ref C) name=some (some (.ref f))) (ht:isFn K (.ref f)=true) (hv:mA name=none) (h:Q (.ref f,[.ref x]) s):
  wpAny (model prog w) A (getMethod (.ref x) name pl) Q E s:=by
 obtain⟨od,J,hl⟩:=I.look;exact PySem.W.method_fn X J (gQ hg).1 (gQ hg).2 hf (eJ.mp ht) (by show (lookIn name od).map (·.isSome)=some false;rw[hl,hv];rfl) h
theorem jT1{ns:Am}{Q:Unit->Shared->Prop}(X:K.In s.heap)(I:ObjM s.heap x dx C mA)
  (hs:findIn K (.ref C) "__setattr__" =some (some (.builtin "object.__setattr__"))) (hp:plainOver K C=true) (ht:takerIn K C name=some none) (hh:hasDictIn K C=true)
  (hw:PySem.Within mA ns) (hsz:ns.length<=sizeLine)
  (h:∀h',ObjM h' x dx C (λy=>if y=name then some v else mA y)->Heap.SameBut dx s.heap h'->Q () {s with heap:=h',toks:=s.toks+2}):
  wpAny (model prog w) A (setAttr (.ref x) name v) Q E s:=by
 obtain⟨od,J,hl⟩:=I.look;refine PySem.W.set_plain X J hs (PySem.W.osa_open (s:= {s with toks:=s.toks+1}) (r:=none) X J hp ht λb=>?_);obtain⟨cd,hc,hd'⟩:=PySem.W.any_some hh;have hx:s.heap.get? x=some ⟨.ref C,some dx,.plain,#[]⟩:=I.obj;refine ab (ah (ab (ab (wpAny_loadPart hx (ab (PySem.W.Looks.here (s:= {s with toks:=s.toks+1}) (PySem.W.looks_clsIn X hc) ?_))))));rw[hd'];refine ah (a:=some dx) (ab (ah (ab ?_)));refine wpAny_nsSet1 (s:= {s with toks:=s.toks+1}) I.ns λh' hn2 hs2=>?_;obtain⟨oD,esD,epD,hoD,hdD,hcD⟩:=hn2.count (PySem.Within.cons name v hw);refine ab (wpAny_lookBehind hoD (by rw[hdD];exact pastItsLine_dict (bA hcD (by rw[aV];lia))) ?_);exact ah (h _ ⟨(hs2.2 _ (ce I.ne)).trans I.obj,hn2,I.ne⟩ hs2)
def jQS{R:Result->Shared->Prop}{vs:Al}{kw:List (Str×Value)}(X:K.In s.heap)(hm:makesIn K C=true)
  (hi:findIn K (.ref C) "__init__" =some (some (.ref f))) (hf:PySem.W.typeIn K (.ref f)=some (.type "function"))
  (h:codeAny (model prog w) (A.under (.builtin "type.__call__" ⟨.ref C::vs,kw⟩)) (.call (.ref f) ⟨.ref (s.heap.objs.size+1)::vs,kw⟩) (PySem.W.InitBack (s.heap.objs.size+1) R)
   {s with heap:=(s.heap.push emptyDict).push (instObj C s.heap.objs.size)}):
  codeAny (model prog w) A (.call (.ref C) ⟨vs,kw⟩) R s:=by
 obtain⟨hh,g,d,t,os⟩:=s;exact PySem.W.make_core (PySem.W.makes_of X hm) (PySem.W.looks_findIn X hi) (λself=>PySem.W.bind_fn X self hf) (.inl rfl) h
end
def putF(f:Str)(v:V):List (Str×V)->List (Str×V)
 |[]=>[(f,v)]
 | (g,x)::r=>if g=f then (g,v)::r else (g,x)::putF f v r
def jEA(f g:Str)(v:V):∀fs:List (Str×V),(putF f v fs).lookup g=if g=f then some v else fs.lookup g
 |[]=>by
  show List.lookup g [(f,v)]=_;by_cases h:g=f
  .have hb:(g==f)=true:=eJ.mpr h;simp only[List.lookup,hb,ax h]
  .have hb:(g==f)=false:=bL.mpr h;simp only[List.lookup,hb,aq h]
 | (k,x)::r=>by
  have ih:=jEA f g v r;rw[show putF f v ((k,x)::r)=(if k=f then (k,v)::r else (k,x)::putF f v r) from rfl];by_cases hk:k=f
  .rw[ax hk];by_cases h:g=k
   .have hb:(g==k)=true:=eJ.mpr h;simp only[List.lookup,hb,ax (h.trans hk)]
   .have hb:(g==k)=false:=bL.mpr h;simp only[List.lookup,hb,aq (λe:g=f=>h (e.trans hk.symm))]
  .rw[aq hk];by_cases h:g=k
   .have hb:(g==k)=true:=eJ.mpr h;simp only[List.lookup,hb,aq (λe:g=f=>hk (h.symm.trans e))]
   .have hb:(g==k)=false:=bL.mpr h;simp only[List.lookup,hb];exact ih
def jEE(f:Str)(v:V):∀fs:List (Str×V),f∈(putF f v fs).map (·.1)/\∀g,g∈fs.map (·.1)->g∈(putF f v fs).map (·.1)
 |[]=>⟨by simp[putF],λg h=>by simp at h⟩
 | (k,x)::r=>by
  obtain⟨i1,i2⟩:=jEE f v r;rw[show putF f v ((k,x)::r)=(if k=f then (k,v)::r else (k,x)::putF f v r) from rfl];by_cases hk:k=f
  .rw[ax hk];subst hk;exact⟨Ad,λg h=>by simpa using h⟩
  .rw[aq hk];refine⟨?_,λg h=>?_⟩
   .rw[aW];exact ag _ i1
   .rw[aW] at h ⊢;rcases aA.mp h with e|e
    .exact aA.mpr (.inl e)
    .exact ag _ (i2 g e)
theorem jEC(f:Str)(v:V):∀fs:List (Str×V),(putF f v fs).length<=fs.length+1
 |[]=>by simp[putF]
 | (k,x)::r=>by
  have ih:=jEC f v r;rw[show putF f v ((k,x)::r)=(if k=f then (k,v)::r else (k,x)::putF f v r) from rfl];by_cases hk:k=f
  .rw[ax hk,aV,aV];lia
  .rw[aq hk,aV,aV];lia
def RelO.some_of{v:V}{o:Ao}(r:RelO (some v) o):∃u,o=some u/\RelV v u:=by
 cases o with
 |none=>exact(show False from r).elim
 |some u=>exact⟨u,rfl,r⟩
def RelO.none_of{o:Ao}(r:RelO none o):o=none:=by
 cases o with
 |none=>rfl
 |some u=>exact(show False from r).elim
def jOO(r:RelV v u):handedIn u=true:=by
 cases v with
 |non=>cases (show u=Value.none from r);rfl
 |bl b=>cases (show u=Value.bool b from r);rfl
 |int i=>obtain⟨t,e⟩:=(show ∃t,u=Value.int i t from r);cases e;rfl
 |str x=>obtain⟨t,e⟩:=(show ∃t,u=Value.str x t from r);cases e;rfl
 |byt b=>obtain⟨t,e⟩:=(show ∃t,u=Value.bytes b t from r);cases e;rfl
 |flt b=>obtain⟨t,e⟩:=(show ∃t,u=Value.float b t from r);cases e;rfl
 |ref a=>cases (show u=Value.ref a from r);rfl
 |ty n=>cases (show u=Value.type n from r);rfl
section
variable {fs fs':List (Str×V)}
def jG7(hok:HOk P w H h)(e:H a=some (.ins C dx fs)):∃mA,ObjM h a dx C mA/\(∀f,RelO (fs.lookup f) (mA f))/\PySem.Within mA (fs.map (·.1))/\fs.length<=1000/\H dx=some (.own a):=by
 obtain⟨d,z,ne,ob,mA,n,r,q⟩:=(show ObjOk P w H h a (.ins C dx fs) from hok a _ e);exact⟨mA,⟨ob,n,ne⟩,r,q,z,d⟩
end
structure Cls (K:W.Frag)(C:Addr):Prop where
 pg:plainGet K C Str.empty=true
 hd:hasDictIn K C=true
 po:plainOver K C=true
 sa:findIn K (.ref C) "__setattr__" =some (some (.builtin "object.__setattr__"))
def Cls.get{K:W.Frag}{C:Addr}(c:Cls K C)(f:Str):plainGet K C f=true:=c.pg
def NoAttr(K:W.Frag)(C:Addr)(f:Str):Prop:=findIn K (.ref C) f=some none
def NoAttr.taker{f:Str}(n:NoAttr K C f):takerIn K C f=some none:=by
 unfold takerIn;rw[show findIn K (.ref C) f=some none from n];rfl
structure Meth (K:W.Frag)(C:Addr)(m:Str)(f:Addr):Prop where
 at_:findIn K (.ref C) m=some (some (.ref f))
 fn:isFn K (.ref f)=true
 kp:keepIn K (.ref f)=true
section
variable {σ:St}{fs:List (Str×V)}{f:Str}{v:V}
def jLQ{b:Bool}(I:Inv X lw σ H s)(e:H a=some (.ins C dx fs))(c:Cls X.K C)(n:NoAttr X.K C f)(l:fs.lookup f=some v)
  (h:∀u s',Inv X lw σ H s'->RelV v u->Q u s'):wpAny (model X.prog X.w) A (getAttr (.ref a) f b) Q E s:=by
 obtain⟨mA,O,r,_,_,_⟩:=jG7 I.hok e;obtain⟨u,hu,ru⟩:=RelO.some_of (v:=v) (o:=mA f) (by rw[<- l];exact r f);exact jUV I.kIn O (c.get f) c.hd n hu (jOO ru) (h u _ (I.tok _) ru)
def jFB{m:Str}{g:Addr}{Q:Value×List Value->Shared->Prop}(I:Inv X lw σ H s)(e:H a=some (.ins C dx fs))(c:Cls X.K C)(k:Meth X.K C m g)(l:fs.lookup m=none)
  (h:Q (.ref g,[.ref a]) s):wpAny (model X.prog X.w) A (getMethod (.ref a) m pl) Q E s:=by
 obtain⟨mA,O,r,_,_,_⟩:=jG7 I.hok e;have hn:mA m=none:=RelO.none_of (by rw[<- l];exact r m);exact jRA I.kIn O (c.get m) k.at_ k.fn hn h
theorem jL6{y:V}{Q:Unit->Shared->Prop}(I:Inv X lw σ H s)(e:H a=some (.ins C dx fs))(c:Cls X.K C)(n:NoAttr X.K C f)(hl:fs.length<1000)(ry:RelV y u)
  (h:∀s',Inv X lw σ (upd H a (.ins C dx (putF f y fs))) s'->Q () s'):wpAny (model X.prog X.w) A (setAttr (.ref a) f u) Q E s:=by
 obtain⟨mA,O,r,wi,_,ho⟩:=jG7 I.hok e;have hz:(fs.map (·.1)).length<=sizeLine:=by rw[af,dv];lia
 refine jT1 I.kIn O c.sa c.po n.taker c.hd wi hz λh' O' sb=>h _ ?_;have hd:∃o,h'.get? dx=some o:=let ⟨o,_,_,e',_⟩:=O'.ns;⟨o,e'⟩;refine I.write (x:=a) (e:=dx) (by rw[e];exact True.intro) (.inr ho) (λb q hb z=>(sb.2 b hb).trans z) hd ?_;refine⟨by rw[j8 O.ne];exact ho,?_,O.ne,O'.obj,_,O'.ns,λg=>?_,λg hg=>?_⟩
 .have:=jEC f y fs;lia
 .show RelO ((putF f y fs).lookup g) (if g=f then some u else mA g);rw[jEA];by_cases q:g=f
  .rw[ax q,ax q];exact ry
  .rw[aq q,aq q];exact r g
 .by_cases q:g=f
  .rw[q];exact(jEE f y fs).1
  .refine(jEE f y fs).2 g (wi g λz=>hg ?_);show (if g=f then some u else mA g)=none;rw[aq q];exact z
def Inv.made(I:Inv X lw σ H s):Inv X lw σ (upd (upd H s.heap.objs.size (.own (s.heap.objs.size+1))) (s.heap.objs.size+1) (.ins C s.heap.objs.size []))
  {s with heap:=(s.heap.push emptyDict).push (instObj C s.heap.objs.size)}:=by
 have e1:(s.heap.push emptyDict).get? s.heap.objs.size=some emptyDict:=ao s.heap rfl;have e2:((s.heap.push emptyDict).push (instObj C s.heap.objs.size)).get? (s.heap.objs.size+1)=some (instObj C s.heap.objs.size):=by
  have:=ao (s.heap.push emptyDict) (o:=instObj C s.heap.objs.size) rfl
  rwa [ci] at this
 have e3:(s.heap.push emptyDict).Ns s.heap.objs.size (λ_=>none):=⟨emptyDict,#[],_,e1,rfl,(λe he=>absurd he Ad),λ_=>rfl⟩;have I1:=I.laid (a:=s.heap.objs.size) (o:=.own (s.heap.objs.size+1)) (h':=s.heap.push emptyDict) (t':=s.toks) (λb u q=>ae _ q) (ar _) ⟨_,e1⟩;refine I1.laid (a:=s.heap.objs.size+1) (o:=.ins C s.heap.objs.size []) (t':=s.toks) (λb u q=>ae _ q) (lh (ci _ _)) ?_;have ne:s.heap.objs.size≠s.heap.objs.size+1:=aO (gh _);refine⟨by rw[j8 ne,j7],ba _,ne,e2,λ_=>none,(Heap.Ns1.of_empty e3).at λo q=>ae _ q,λ_=>True.intro,λy hy=>absurd rfl hy⟩
def jVB{prog:Program}{env:Env}(hb:attributeBase e f env (eval e env)=eval e env)
  (h:wpAny (model prog w) A (eval e env) (λo s₁=>wpAny (model prog w) A (getAttr o f true) Q E s₁) E s):wpAny (model prog w) A (eval (.Attribute e f pos) env) Q E s:=
 Attribute_any_ h (by rw[arm_eval_Attribute,hb])
end
inductive FldR(K:W.Frag)(f:Str)(Q:VK)(x:V)(H:Hp):Prop|i(a C dx fs v:_)(_:x=.ref a)(_:H a=some (.ins C dx fs))(_:Cls K C)(_:NoAttr K C f)(_:fs.lookup f=some v)(_:Q v H)
def tFld(K:W.Frag)(ta:TE)(f:Str):TE:=λσ H Q=>ta σ H (FldR K f Q)
def sFld(K:W.Frag)(ta tv:TE)(f:Str):TS:=λD σ H=>tv σ H λy H1=>ta σ H1 λx H2=>∃a C dx fs,x=.ref a/\H2 a=some (.ins C dx fs)/\Cls K C/\NoAttr K C f/\fs.length<1000/\
 D.nx σ (upd H2 a (.ins C dx (putF f y fs)))
variable {o:Expr}
section
variable {value:Expr}{f:Str}{pos' tpos:Pos}{tv:TE}
def jWH(he:PE X e ta)(hb:attributeBase e f X.env (eval e X.env)=eval e X.env):PE X (.Attribute e f pos) (tFld X.K ta f):=by
 intro lw s σ H Q I h;refine jVB hb (lz (he lw s σ H _ I h) λu s1 ⟨x,H1,I1,rx,a,C,dx,fs,v,ex,ea,c,n,l,q⟩=>?_);subst ex;obtain rfl:u=Value.ref a:=rx;exact jLQ I1 ea c n l λu' s2 I2 ru=>⟨v,H1,I2,ru,q⟩
def jW5(ha:PE X o ta)(hv:PE X value tv)(hs:swapsWith value (some (.Attribute o f pos')) pos.line X.env=pure false):PS X (.Assign [.Attribute o f pos'] value pos) (sFld X.K ta tv f):=by
 intro lw s σ H D I h;refine plainObj_wpAny_Assign_Attribute (lz (hv lw s σ H _ I h) λu s1 ⟨y,H1,I1,ry,q⟩=>lz (ha lw s1 σ H1 _ I1 q) λov s2 ⟨x,H2,I2,rx,a,C,dx,fs,ex,ea,c,n,l,q2⟩=>?_) hs;subst ex;obtain rfl:ov=Value.ref a:=rx;exact jL6 I2 ea c n l ry λs3 I3=>⟨σ,_,I3,q2⟩
end
section
variable {σ:St}{Q:Ah}{c:Value}{b:Bool}
inductive TyOf (K:W.Frag) (H:Hp):V->Value->Prop where
 |non:TyOf K H .non (.type "NoneType")
 |bl (x:Bool):TyOf K H (.bl x) (.type "bool")
 |int (i:Int):TyOf K H (.int i) (.type "int")
 |str (x:Str):TyOf K H (.str x) (.type "str")
 |flt (x:UInt64):TyOf K H (.flt x) (.type "float")
 |lst {a:Addr}{xs:List V}(e:H a=some (.lst xs)):TyOf K H (.ref a) (.type "list")
 |frz {a:Addr}{o:Obj}{xs:List V}(e:H a=some (.frz o (.lst xs))):TyOf K H (.ref a) (.type "list")
 |tup {a:Addr}{xs:List V}(e:H a=some (.tup xs)):TyOf K H (.ref a) (.type "tuple")
 |dK {a:Addr}{kvs:List (Key×V)}(e:H a=some (.dK kvs)):TyOf K H (.ref a) (.type "dict")
 |dT {a:Addr}{kvs:List (List Key×V)}(e:H a=some (.dT kvs)):TyOf K H (.ref a) (.type "dict")
 |ins {a C dx:Addr}{fs:List (Str×V)}(e:H a=some (.ins C dx fs)) (cl:Cls K C) (ha:findIn K (.ref C) "__class__" =some (some (.builtin "object.__class__")))
   (hn:PySem.W.specialIn K (.builtin "object.__class__") "__get__" =some (some (.builtin "getset_descriptor.__get__"))) (htk:PySem.W.takesIn K (.builtin "object.__class__")=some true)
   (hm:mroIn K C (.type "object")=some true):TyOf K H (.ref a) (.ref C)
def jOJ{x:V}{t:Value}(I:Inv X lw σ H s)(rx:RelV x u)(ty:TyOf X.K H x t)(e:kitOne X.K t c=some b)(h:∀tk,Q (.bool b) {s with toks:=tk}):
  wpAny (model X.prog X.w) A (call (.builtin "isinstance") [u,c]) Q E s:=by
 cases ty with
 |non=>cases (show u=Value.none from rx);exact cC PySem.W.kitx_none I.kIn True.intro e (λz=>nomatch z) h
 |bl y=>cases (show u=Value.bool y from rx);exact cC PySem.W.kitx_bool I.kIn True.intro e (λz=>nomatch z) h
 |int i=>obtain⟨t,q⟩:=(show ∃t,u=Value.int i t from rx);cases q;exact cC PySem.W.kitx_int I.kIn True.intro e (λz=>nomatch z) h
 |str y=>obtain⟨t,q⟩:=(show ∃t,u=Value.str y t from rx);cases q;exact cC PySem.W.kitx_str I.kIn True.intro e (λz=>nomatch z) h
 |flt y=>obtain⟨t,q⟩:=(show ∃t,u=Value.float y t from rx);cases q;exact cC PySem.W.kitx_float I.kIn True.intro e (λz=>nomatch z) h
 | @lst a xs ea=>
  cases (show u=Value.ref a from rx);obtain⟨_,_,n,_,h1⟩:=(show ObjOk X.prog X.w H s.heap a (.lst xs) from I.hok a _ ea);exact cC kitx_list I.kIn ⟨_,h1,rfl⟩ e (λz=>nomatch z) h
 | @frz a ob xs ea=>
  cases (show u=Value.ref a from rx);obtain⟨_,_,_,n,_,h1⟩:=(show ObjOk X.prog X.w H s.heap a (.frz ob (.lst xs)) from I.hok a _ ea);exact cC kitx_list I.kIn ⟨_,h1,rfl⟩ e (λz=>nomatch z) h
 | @tup a xs ea=>
  cases (show u=Value.ref a from rx);obtain⟨_,_,_,p⟩:=(show ObjOk X.prog X.w H s.heap a (.tup xs) from I.hok a _ ea);obtain⟨o,h1,h2,_⟩:=p.isTup;exact cC PySem.W.kitx_tuple I.kIn ⟨o,h1,h2⟩ e (λz=>nomatch z) h
 | @dK a kvs ea=>
  cases (show u=Value.ref a from rx);obtain⟨_,_,vs,_,p⟩:=(show ObjOk X.prog X.w H s.heap a (.dK kvs) from I.hok a _ ea);obtain⟨o,es,ep,h1,h2,_⟩:=p;exact cC kitx_dict I.kIn ⟨o,h1,h2.1⟩ e (λz=>nomatch z) h
 | @dT a kvs ea=>
  cases (show u=Value.ref a from rx);obtain⟨_,_,xs,_,o,es,ep,h1,h2,_⟩:=(show ObjOk X.prog X.w H s.heap a (.dT kvs) from I.hok a _ ea);exact cC kitx_dict I.kIn ⟨o,h1,h2.1⟩ e (λz=>nomatch z) h
 | @ins a C dx fs ea cl ha hn htk hm=>
  cases (show u=Value.ref a from rx);obtain⟨mA,O,_⟩:=jG7 I.hok ea;obtain⟨od,J,_⟩:=O.look;exact cC (PySem.W.kitx_own (cl.get _) cl.hd ha hn htk hm) I.kIn J e (λz=>nomatch z) h
end
structure Room (k:Nat)(A:Around):Prop where
 hd:A.handled=none
 dp:A.depth+3*k+5<recursionLimit
 un:A.units+16*k+200<cLine
theorem Room.mono{k:Nat}(r:Room k A)(h:j<=k):Room j A:=⟨r.hd,by have:=r.dp;lia,by have:=r.un;lia⟩
theorem Room.deeper{k:Nat}(r:Room (k+1) A)(env:Env):Room k (A.deeper env):=
 ⟨r.hd,by have:=r.dp;show A.depth+1+3*k+5<_;lia,by have:=r.un;show A.units+3+16*k+200<_;lia⟩
theorem Room.in1{k:Nat}(r:Room (k+1) A):Room k A.in1:=
 ⟨r.hd,by have:=r.dp;show A.depth+3*k+5<_;lia,by have:=r.un;show A.units+1+16*k+200<_;lia⟩
def jLK:(A.under (.builtin "type.__call__" ⟨.ref C::us,kw⟩)).depth=A.depth+1:=by
 first|rfl|simp[Around.under,Code.weight,Code.isCreation,Code.isGuard,Code.isCaller,Code.frames,Code.isFrame,guardIds]
def jLJ:(A.under (.builtin "type.__call__" ⟨.ref C::us,kw⟩)).units=A.units+1:=by
 first|rfl|simp[Around.under,Code.cUnits,Code.frames,Code.isFrame]
theorem Room.make{k:Nat}(r:Room (k+1) A)(C:Addr)(us:Al)(kw:List (Str×Value)):Room k (A.under (.builtin "type.__call__" ⟨.ref C::us,kw⟩)):=
 ⟨r.hd,by have:=r.dp;rw[jLK];lia,by have:=r.un;rw[jLJ];lia⟩
theorem Room.depth{k:Nat}(r:Room k A):A.depth<recursionLimit:=by have:=r.dp;lia
theorem Room.units{k:Nat}(r:Room k A):A.units+64<cLine:=by have:=r.un;lia
theorem Room.units0{k:Nat}(r:Room k A):A.units<cLine:=by have:=r.un;lia
def tNil:TA:=λ_ H Q=>Q [] H
def tCons(ta:TE)(tr:TA):TA:=λσ H Q=>ta σ H λx H1=>tr σ H1 λxs H2=>Q (x::xs) H2
variable {es:List Expr}{t:TA}
def yS:PA X [] tNil:=λ_ _ _ _ H Q I h=>Calls.spliced_nil ⟨[],H,I,.nil,h⟩
def kO(ha:PE X e te)(hr:PA X es t)(hs:starEach (e::es) X.env=(false,eval e X.env)::starEach es X.env:=by rfl):PA X (e::es) (tCons te t):=by
 intro pos lw s σ H Q I h;rw[hs];show wpAny _ _ (spliced ((false,eval e X.env)::backTo pos (starEach es X.env))) _ _ s;refine Calls.spliced_cons (lz (ha lw s σ H _ I h) λu s1 ⟨x,H1,I1,r1,q1⟩=>?_);exact lz (hr pos lw s1 σ H1 _ I1 q1) λus s2 ⟨xs,H2,I2,r2,q2⟩=>⟨x::xs,H2,I2,.cons r1 r2,q2⟩
def tTup(t:TA):TE:=λσ H Q=>t σ H λxs H1=>xs.length<=sizeLine/\∀p,H1 p=none->Q (.ref p) (upd H1 p (.tup xs))
def tLst(t:TA):TE:=λσ H Q=>t σ H λxs H1=>xs.length<=sizeLine/\∀p,H1 p=none->Q (.ref p) (upd H1 p (.lst xs))
def jWD{x1}(h:PA X es t):PE X (.Tuple es x1 pos) (tTup t):=by
 intro lw s σ H Q I hq;refine wpAny_Tuple_spliced (lz (h pos lw s σ H _ I hq) λus s1 ⟨xs,H1,I1,r,z,q⟩=>⟨by rw[<- r.length];exact z,?_⟩);have hf:H1 s1.heap.objs.size=none:=I1.hok.fresh (ar _);refine⟨.ref s1.heap.objs.size,upd H1 s1.heap.objs.size (.tup xs),I1.laid (t':=s1.toks) (λb u e=>ae _ e) (ar _) ?_,rfl,q _ hf⟩;exact⟨z,us,r,TupO.new _ _⟩
def jJZ(h:PA X es t):PE X (.List es pos) (tLst t):=by
 intro lw s σ H Q I hq;refine wpAny_List_spliced (lz (h pos lw s σ H _ I hq) λus s1 ⟨xs,H1,I1,r,z,q⟩=>⟨by rw[<- r.length];exact z,?_⟩);have hf:H1 s1.heap.objs.size=none:=I1.hok.fresh (ar _);refine⟨.ref s1.heap.objs.size,upd H1 s1.heap.objs.size (.lst xs),I1.laid (t':=s1.toks) (λb u e=>ae _ e) (ar _) ?_,rfl,q _ hf⟩;exact⟨z,us,0,r,ao _ rfl⟩
abbrev Sp:=List V->Hp->VK->XK->Prop
abbrev CXT:=List Env->Hp->Shared->XK->Ah
structure Env0 (P:Program)(w:World)(K:W.Frag)(mg:Ak)(Aq:Heap)(A:Around)(Ap:List Env)(s:Shared)(H:Hp):Prop where
 frames:A.frames=some Ap
 mod:Mod K mg Aq
 bs:∀b o,Aq.get? b=some o->s.heap.get? b=some o/\H b=none
 bsz:Aq.objs.size<=s.heap.objs.size
 funs:s.heap.FunFrames Aq Ap
 frf:∀b∈frs Ap,H b=none
 hok:HOk P w H s.heap
 bare:AllBare s.gens
def CE(Ap:List Env)(P:Program)(w:World)(H:Hp)(s:Shared)(Q:VK)(u:Value)(s':Shared):Prop:=
 ∃v H',s'.os=s.os/\AllBare s'.gens/\Un (frs Ap) [] H H' s.heap s'.heap/\HOk P w H' s'.heap/\RelV v u/\Q v H'
def CR(CX:CXT)(Ap:List Env)(P:Program)(w:World)(H:Hp)(s:Shared)(Q:VK)(E:XK)(r:Result)(s':Shared):Prop:=
 match r with
 | .ok (.ret u)=>CE Ap P w H s Q u s'
 | .ok _=>False
 | .error e=>CX Ap H s E e s'
structure FnOk (P:Program)(w:World)(K:W.Frag)(mg:Ak)(Aq:Heap)(CX:CXT)(k:Nat)(f:Addr)(fd:FuncData)(ps:Am)(sp:Sp):Prop where
 len:∀vs H Q E,sp vs H Q E->vs.length=ps.length
 run:∀(A:Around) (Ap:List Env) (s:Shared) (H:Hp) (args:Args) (us:Al) (vs:List V) (Q:VK) (E:XK),Room k A->Env0 P w K mg Aq A Ap s H->BindsTo s fd args (ps.zip us)->Vals vs us->sp vs H Q E->
  codeAny (model P w) A (.call (.ref f) args) (CR CX Ap P w H s Q E) s
def FnOk.imp{CX:CXT}{k:Nat}{ps:Am}{sp sp':Sp}(F:FnOk P w K mg Aq CX k f fd ps sp)
  (h:∀vs H Q E,sp' vs H Q E->sp vs H Q E):FnOk P w K mg Aq CX k f fd ps sp':=
 ⟨λvs H Q E q=>F.len vs H Q E (h _ _ _ _ q),λA Ap s H args us vs Q E hr he hb hv hs=>F.run A Ap s H args us vs Q E hr he hb hv (h _ _ _ _ hs)⟩
def Env0.make(e:Env0 P w K mg Aq A Ap s H)(C:Addr)(us:Al)(kw:List (Str×Value)):
  Env0 P w K mg Aq (A.under (.builtin "type.__call__" ⟨.ref C::us,kw⟩)) Ap s H:=⟨by first|exact e.frames | (simpa [Around.under,Code.envs,Code.isFrame,pushEnvs] using e.frames),e.mod,e.bs,e.bsz,e.funs,e.frf,e.hok,e.bare⟩
def Env0.in1(e:Env0 P w K mg Aq A Ap s H):
  Env0 P w K mg Aq A.in1 Ap s H:=⟨e.frames,e.mod,e.bs,e.bsz,e.funs,e.frf,e.hok,e.bare⟩
section
variable {σ:St}{s':Shared}
def Inv.env0(I:Inv X lw σ H s):Env0 X.prog X.w X.K X.mg X.Aq X.A X.stack s H:=
 ⟨I.ok.frames,I.ok.mod,I.bs,bA I.ok.bsz I.sz,I.stack,I.stkFree,I.hok,I.bare⟩
def Inv.after{Q:VK}(I:Inv X lw σ H s)(h:CE X.stack X.prog X.w H s Q u s'):EP X lw σ Q u s':=by
 obtain⟨v,H',os,bare,un,hok,r,q⟩:=h;obtain⟨hh,g,d,t,os'⟩:=s';obtain rfl:os'=s.os:=os;exact⟨v,H',I.call (h':=hh) (g':=g) (d':=d) (t':=t) (ch:=[]) un hok bare (λb z=>absurd z Ad),r,q⟩
end
def tCall(sp:Sp)(dvs:List V)(E:XK)(t:TA):TE:=λσ H Q=>t σ H λvs H1=>sp (vs++dvs) H1 Q E
inductive MetR(C:Addr)(m:Str)(R:Prop)(x:V)(H:Hp):Prop|i(a dx fs:_)(_:x=.ref a)(_:H a=some (.ins C dx fs))(_:fs.lookup m=none)(_:R)
def tMeth(C:Addr)(m:Str)(sp:Sp)(dvs:List V)(E:XK)(ta:TE)(t:TA):TE:=λσ H Q=>ta σ H λx H1=>MetR C m (t σ H1 λvs H2=>sp (x::(vs++dvs)) H2 Q E) x H1
def tMake(C:Addr)(sp:Sp)(dvs:List V)(E:XK)(t:TA):TE:=λσ H Q=>t σ H λvs H1=>∀x dx,H1 x=none->H1 dx=none->dx≠x->
 sp (.ref x::(vs++dvs)) (upd (upd H1 dx (.own x)) x (.ins C dx [])) (λv H2=>v=.non/\Q (.ref x) H2) E
def Binds(K:W.Frag)(fd:FuncData)(ps:Am)(ds:Al):Prop:=
 ∀(s:Shared) (us:Al),K.In s.heap->(us++ds).length=ps.length->BindsTo s fd ⟨us,[]⟩ (ps.zip (us++ds))
def Binds.all{ps:Am}(h:∀us:Al,us.length=ps.length->bindArgs fd ⟨us,[]⟩=pure (ps.zip us)):Binds K fd ps []:=λs us _ hl=>by
 rw[bg] at hl ⊢;exact .of_eq (h us hl)
def jEP(CX:CXT)(X:Cx)(E:XK):Prop:=∀(lw:Ai) (σ:St) (H:Hp) (s:Shared) (e:Value) (s':Shared),Inv X lw σ H s->CX X.stack H s E e s'->X.xe e s'
variable {CX:CXT}{fd:FuncData}{ps:Am}{sp:Sp}{m:Str}{p apos:Pos}
section
variable {k:Nat}{dvs:List V}{ds:Al}{E:XK}{x:Str}
def jMX{lw:Ai}{σ:St}{H:Hp}{s:Shared}{Q:VK}{us:Al}{vs:List V}(F:FnOk X.prog X.w X.K X.mg X.Aq CX k f fd ps sp)(hr:Room k X.A)(hb:Binds X.K fd ps ds)(hd:Vals dvs ds)(hx:jEP CX X E)
  (I:Inv X lw σ H s) (r:Vals vs us) (h:sp (vs++dvs) H Q E):wpAny (model X.prog X.w) X.A (call (.ref f) us) (EP X lw σ Q) X.xe s:=by
 have r2:Vals (vs++dvs) (us++ds):=r.append hd;have hl:(us++ds).length=ps.length:=by rw[<- r2.length];exact F.len _ _ _ _ h
 refine gl (cW (F.run X.A X.stack s H ⟨us,[]⟩ (us++ds) (vs++dvs) Q E hr I.env0 (hb s us I.kIn hl) r2 h) λr s' hq=>?_);cases r with
 |error e=>exact hx lw σ H s e s' I hq
 |ok fl=>
  cases fl with
  |ret u=>exact I.after hq
  |next=>exact False.elim hq
  |brk=>exact False.elim hq
  |cont=>exact False.elim hq
theorem jTQ(F:FnOk X.prog X.w X.K X.mg X.Aq CX k f fd ps sp)(hr:Room k X.A)(hg:Gl X x)(hm:X.mg x=some (.ref f))(hk:keepIn X.K (.ref f)=true)(hb:Binds X.K fd ps ds)(hd:Vals dvs ds)(hx:jEP CX X E)
  (ha:PA X (e::es) t) (hdb:(x==("__debug__":Str))=false:=by decide) (he:starEach (e::es) X.env=(false,eval e X.env)::starEach es X.env:=by rfl) (hpl:(backTo pos (starEach es X.env)).any (·.1)=false:=by rfl):
  PE X (.Call (.Name x p) (e::es) [] pos) (tCall sp dvs E t):=by
 intro lw s σ H Q I h;refine cx (jG3 I hg hm ?_ hdb);refine hV (h₀:=X.Aq) I.ok.mod.kin hk (lz (ha pos lw s σ H _ I h) λus s1 ⟨vs,H1,I1,r,q⟩=>⟨I1.kIn,?_⟩) he hpl;exact jMX F hr hb hd hx I1 r q
def jTK(he:PE X o ta)(c:Cls X.K C)(hm:Meth X.K C m f)(F:FnOk X.prog X.w X.K X.mg X.Aq CX k f fd ps sp)(hr:Room k X.A)(hb:Binds X.K fd ps ds)(hd:Vals dvs ds)(hx:jEP CX X E)(ha:PA X (e::es) t)
  (hst:starEach (e::es) X.env=(false,eval e X.env)::starEach es X.env:=by rfl) (hpl:(backTo pos (starEach es X.env)).any (·.1)=false:=by rfl)
  (ht:eval (.Call (.Attribute o m apos) (e::es) [] pos) X.env=(do
   let ov <- eval o X.env
   standAt apos.atName
   let (f,first) <- holding [ov] (getMethod ov m pl)
   callWith pos f first (backTo pos (starEach (e::es) X.env)) (backToKw pos (keywordEach [] X.env))):=by rfl):
  PE X (.Call (.Attribute o m apos) (e::es) [] pos) (tMeth C m sp dvs E ta t):=by
 intro lw s σ H Q I h;refine jk (pl:=pl) (lz (he lw s σ H _ I h) λu s1 ⟨x,H1,I1,rx,a,dx,fs,ex,ea,l,q⟩=>?_) ht;subst ex;obtain rfl:u=Value.ref a:=rx;refine jFB I1 ea c hm l ?_;refine hV (first:=[.ref a]) (h₀:=X.Aq) I.ok.mod.kin hm.kp (lz (ha pos lw s1 σ H1 _ I1 q) λus s2 ⟨vs,H2,I2,r,q2⟩=>⟨I2.kIn,?_⟩) hst hpl;exact jMX (us:=.ref a::us) (vs:=.ref a::vs) F hr hb hd hx I2 (.cons rfl r) q2
def jQ4(he:PE X o ta)(c:Cls X.K C)(hm:Meth X.K C m f)(F:FnOk X.prog X.w X.K X.mg X.Aq CX k f fd ps sp)(hr:Room k X.A)(hb:Binds X.K fd ps ds)(hd:Vals dvs ds)(hx:jEP CX X E)
  (ht:eval (.Call (.Attribute o m apos) [] [] pos) X.env=(do
   let ov <- eval o X.env
   standAt apos.atName
   let (f,first) <- holding [ov] (getMethod ov m pl)
   callWith pos f first (backTo pos (starEach [] X.env)) (backToKw pos (keywordEach [] X.env))):=by rfl):
  PE X (.Call (.Attribute o m apos) [] [] pos) (tMeth C m sp dvs E ta tNil):=by
 intro lw s σ H Q I h;refine jk (pl:=pl) (lz (he lw s σ H _ I h) λu s1 ⟨x,H1,I1,rx,a,dx,fs,ex,ea,l,q⟩=>?_) ht;subst ex;obtain rfl:u=Value.ref a:=rx;refine jFB I1 ea c hm l ?_;exact ka (first:=[.ref a]) I1.kIn hm.kp (jMX (us:=[.ref a]) (vs:=[.ref a]) F hr hb hd hx I1 (.cons rfl .nil) q)
structure Mk (K:W.Frag)(C f:Addr):Prop where
 makes:makesIn K C=true
 init:findIn K (.ref C) "__init__" =some (some (.ref f))
 fn:isFn K (.ref f)=true
 kp:keepIn K (.ref C)=true
def jPT{lw:Ai}{σ:St}{H:Hp}{s:Shared}{Q:VK}{us:Al}{vs:List V}(M:Mk X.K C f)(F:FnOk X.prog X.w X.K X.mg X.Aq CX k f fd ps sp)(hr:Room (k+1) X.A)(hb:Binds X.K fd ps ds)(hd:Vals dvs ds)
  (hx:jEP CX X E) (I:Inv X lw σ H s) (r:Vals vs us)
  (h:∀x dx,H x=none->H dx=none->dx≠x->sp (.ref x::(vs++dvs)) (upd (upd H dx (.own x)) x (.ins C dx [])) (λv H2=>v=.non/\Q (.ref x) H2) E):
  wpAny (model X.prog X.w) X.A (call (.ref C) us) (EP X lw σ Q) X.xe s:=by
 have hq:=h (s.heap.objs.size+1) s.heap.objs.size (I.hok.fresh (dH _)) (I.hok.fresh (ar _)) (aO (gh _));have I2:=Inv.made (C:=C) I;have r2:Vals (V.ref (s.heap.objs.size+1)::(vs++dvs)) (Value.ref (s.heap.objs.size+1)::(us++ds)):=.cons rfl (r.append hd);have hl:(Value.ref (s.heap.objs.size+1)::us++ds).length=ps.length:=by
  have e:=r2.length;rw[F.len _ _ _ _ hq] at e;exact e.symm
 refine gl (jQS (f:=f) I.kIn M.makes M.init (eJ.mp M.fn) (cW (F.run _ X.stack _ _ ⟨Value.ref (s.heap.objs.size+1)::us,[]⟩ (Value.ref (s.heap.objs.size+1)::(us++ds)) _ _ E (hr.make C us [])
  (I2.env0.make C us []) (hb _ (Value.ref (s.heap.objs.size+1)::us) I2.kIn hl) r2 hq) λr s' hq'=>?_))
 cases r with
 |error e=>exact hx lw σ _ _ e s' I2 hq'
 |ok fl=>
  cases fl with
  |ret u=>
   obtain⟨v,H',I3,rv,ev,q3⟩:=I2.after hq';subst ev;exact⟨rv,⟨V.ref (s.heap.objs.size+1),H',I3,rfl,q3⟩⟩
  |next=>exact False.elim hq'
  |brk=>exact False.elim hq'
  |cont=>exact False.elim hq'
theorem jQ5(M:Mk X.K C f)(F:FnOk X.prog X.w X.K X.mg X.Aq CX k f fd ps sp)(hr:Room (k+1) X.A)(hg:Gl X x)(hm:X.mg x=some (.ref C))(hb:Binds X.K fd ps ds)(hd:Vals dvs ds)(hx:jEP CX X E)
  (hdb:(x==("__debug__":Str))=false:=by decide):PE X (.Call (.Name x p) [] [] pos) (tMake C sp dvs E tNil):=by
 intro lw s σ H Q I h;refine cx (jG3 I hg hm ?_ hdb);exact ka I.kIn M.kp (jPT (us:=[]) M F hr hb hd hx I .nil h)
end
def PK(X:Cx)(kws:List Keyword)(t:TA):Prop:=
 ∀(pos:Pos) (lw:Ai) (s:Shared) (σ:St) (H:Hp) (Q:List V->Hp->Prop),Inv X lw σ H s->t σ H Q->wpAny (model X.prog X.w) X.A (evalAll ((backToKw pos (keywordEach kws X.env)).map (·.2))) (AP X lw σ Q) X.xe s
section
variable {k:Nat}{ks:Am}{E:XK}{x:Str}{kpos:Pos}{kws:List Keyword}{tk:TA}{nm:Option Str}
def jW8:PK X [] tNil:=λ_ _ _ _ H Q I h=>wpAny_evalAll_nil ⟨[],H,I,.nil,h⟩
def jTE(ha:PE X e te)(hr:PK X kws t):PK X (⟨nm,e,kpos⟩::kws) (tCons te t):=by
 intro pos lw s σ H Q I h;show wpAny _ _ (evalAll ((do let v <- eval e X.env;standAt pos;pure v)::(backToKw pos (keywordEach kws X.env)).map (·.2))) _ _ s;refine wpAny_evalAll_cons (ab (lz (ha lw s σ H _ I h) λu s1 ⟨x,H1,I1,r1,q1⟩=>ab (eB (ah ?_))));exact lz (hr pos lw s1 σ H1 _ I1 q1) λus s2 ⟨xs,H2,I2,r2,q2⟩=>⟨x::xs,H2,I2,.cons r1 r2,q2⟩
variable {g:Al->Al->Al}{gV:List V->List V->List V}
end
structure FnScope (N P:Am)(sc:Scope):Prop where
 kind:sc.kind=.function:=by rfl
 co:sc.isCoroutine=false:=by rfl
 gen:sc.isGenerator=false:=by rfl
 nd:N.Nodup:=by decide +kernel
 pre:N.take P.length=P:=by rfl
 par:∀x∈P,sc.names.lookup x=some .local\/sc.names.lookup x=some .cell:=by decide +kernel
 nofree:∀y∈sc.names,y.2≠.free:=by decide +kernel
def jHX{x:Str}:∀{binds:List (Str×Value)}{m:Ak},(∀v,(x,v)∉binds)->bindL kindOf binds m x=m x
 |[],_,_=>rfl
 | (n,v)::r,m,h=>by
  unfold bindL;rw[jHX λw hw=>h w (ag _ hw)];split
  .have:x≠n:=by rintro rfl;exact h v ai
   simp[this]
  .rfl
def jHZ{x:Str}:∀{binds:List (Str×Value)}{m:Ak},(∀v,(x,v)∉binds)->bindC kindOf binds m x=m x
 |[],_,_=>rfl
 | (n,v)::r,m,h=>by
  unfold bindC;rw[jHZ λw hw=>h w (ag _ hw)];split
  .rfl
  .have:x≠n:=by rintro rfl;exact h v ai
   simp[this]
def jHY{kindOf:Str->Option NameKind}{x:Str}{v:Value}:∀{P:Am}{vs:Al}{i:Nat}{m:Ak},P.Nodup->P[i]?=some x->vs[i]?=some v->kindOf x=some .local->
  bindL kindOf (P.zip vs) m x=some v
 |[],_,_,_,_,h,_,_=>by simp at h
 |_::_,[],_,_,_,_,h,_=>by simp at h
 |p::P,w::vs,0,m,nd,h1,h2,hk=>by
  simp at h1 h2;subst h1;subst h2;show bindL kindOf ((p,w)::P.zip vs) m p=_;unfold bindL;rw[jHX λv hv=>(cg.mp nd).1 (di hv).1,ax hk];simp
 |p::P,w::vs,i+1,m,nd,h1,h2,hk=>by
  show bindL kindOf ((p,w)::P.zip vs) m x=_;unfold bindL;exact jHY (i:=i) (cg.mp nd).2 (by simpa using h1) (by simpa using h2) hk
def jI0{kindOf:Str->Option NameKind}{x:Str}{v:Value}:∀{P:Am}{vs:Al}{i:Nat}{m:Ak},P.Nodup->P[i]?=some x->vs[i]?=some v->kindOf x≠some .local->
  bindC kindOf (P.zip vs) m x=some v
 |[],_,_,_,_,h,_,_=>by simp at h
 |_::_,[],_,_,_,_,h,_=>by simp at h
 |p::P,w::vs,0,m,nd,h1,h2,hk=>by
  simp at h1 h2;subst h1;subst h2;show bindC kindOf ((p,w)::P.zip vs) m p=_;unfold bindC;rw[jHZ λv hv=>(cg.mp nd).1 (di hv).1,aq hk];simp
 |p::P,w::vs,i+1,m,nd,h1,h2,hk=>by
  show bindC kindOf ((p,w)::P.zip vs) m x=_;unfold bindC;exact jI0 (i:=i) (cg.mp nd).2 (by simpa using h1) (by simpa using h2) hk
def yH(N:Am)(vs:List V):St:=vs.map some++replicate (N.length-vs.length) none
def cxOf(CX:CXT)(P:Program)(w:World)(K:W.Frag)(mg:Ak)(Aq:Heap)(N:Am)(qual:Str)(scope:Scope)(f:Addr)(cd:Value)(A:Around)(Ap:List Env)(s:Shared)(H:Hp)(E:XK):Cx where
 prog:=P
 w:=w
 K:=K
 mg:=mg
 Aq:=Aq
 A:=A.deeper (envOfC qual scope s.heap.objs.size f cd)
 N:=N
 s₀:=s
 H₀:=H
 env:=envOfC qual scope s.heap.objs.size f cd
 Ap:=Ap
 stack:=envOfC qual scope s.heap.objs.size f cd::Ap
 ex:=[]
 calm:=true
 fn:=λ_=>true
 pn:=[]
 xe:=λe s'=>wpAny (model P w) (A.deeper (envOfC qual scope s.heap.objs.size f cd)) (leaving (envOfC qual scope s.heap.objs.size f cd) e) (λ_ s''=>CX Ap H s E e s'') (λe' s''=>CX Ap H s E e' s'') s'
def jKW{sc:Scope}{n:Nat}{x:Str}(h:sc.names.lookup x=some .cell):∃c,(cellsFrom n sc.names []).lookup x=some c:=by
 have q:=fw sc.names n [] (.inl h);exact Option.isSome_iff_exists.mp q
theorem jHL{qual:Str}{scope:Scope}{cd:Value}{s1:Shared}{E:XK}{vs:List V}
  (S:FnScope N ps scope) (hd:A.handled=none) (e0:Env0 P w K mg Aq A Ap s H) (hl:vs.length=ps.length) (r:Vals vs us)
  (x:InCallC s s.heap.objs.size (bindL (envOfC qual scope s.heap.objs.size f cd).kindOf (ps.zip us) λ_=>none) (cellsFrom (s.heap.objs.size+1) scope.names []) (bindC (envOfC qual scope s.heap.objs.size f cd).kindOf (ps.zip us) λ_=>none) s1):
  Inv (cxOf CX P w K mg Aq N qual scope f cd A Ap s H E) [] (yH N vs) H s1:=by
 have hpl:ps.length<=N.length:=by have:=bW List.length S.pre;rw[bi] at this;lia
 obtain⟨h1,tk,rfl,hk⟩:=x.done;have noA:∀b:Addr,b∉(cxOf CX P w K mg Aq N qual scope f cd A Ap s H E).ex:=λb z=>absurd (show b∈([]:List Addr) from z) Ad;refine⟨⟨e0.mod,S.kind,rfl,rfl,ar _,λy z c h1 h2=>?_,λy hy=>?_,λy c _ h=>?_,λ_=>hd,Around.frames_deeper e0.frames,.inr ⟨rfl,rfl⟩,λb z=>absurd z (noA b),e0.bs,e0.bsz,λb _ _=>noA b,λb z=>absurd z (noA b),e0.funs,e0.frf⟩,
  rfl,e0.bare,Un.kept hk,⟨_,x.toInCall.ns,λi y v h1 h2 h3=>?_⟩,λy c h=>⟨_,x.cell y c h⟩,e0.hok.fresh (ar _),λy c h=>?_,λp hp=>absurd (show p∈([]:Ai) from hp) Ad,e0.hok.kept hk,?_⟩
 .exact name_of_addr x.apart (bV h1) (bV h2)
 .have hy:scope.names.lookup y=some .cell\/scope.names.lookup y=some .free:=hy;rcases hy with hy|hy
  .exact jKW hy
  .exact absurd rfl (S.nofree _ (bV hy))
 .exact cV (x.above y c (bV h))
 .have hi:i<vs.length:=by
   unfold yH at h2;by_cases hi:i<vs.length
   .exact hi
   .rw[be (by simpa using hi)] at h2;rw[iS] at h2;split at h2<;>cases h2
  have ha:vs[i]?=some v:=by
   unfold yH at h2;rw[bK (by simpa using hi),aQ] at h2;cases e:vs[i]? with
   |none=>rw[e] at h2;cases h2
   |some a=>rw[e] at h2;cases h2;rfl
  obtain⟨u,hu,rv⟩:=r.get ha;have hp:ps[i]?=some y:=by
   rw[<- S.pre,cn Aa];exact h1
  have ndP:ps.Nodup:=by rw[<- S.pre];exact S.nd.sublist (dI _ _)
  refine⟨u,rv,?_⟩;rcases S.par y (aJ hp) with k|k
  .exact .inl ⟨k,jHY ndP hp hu k⟩
  .obtain⟨c,e⟩:=jKW (n:=s.heap.objs.size+1) k;refine .inr ⟨.inl k,c,e,?_⟩;have q:=x.cell y c e;rw[jI0 ndP hp hu (by show scope.names.lookup y≠_;rw[k];decide)] at q;exact q
 .exact e0.hok.fresh (cV (x.above y c (bV h)))
 .unfold yH;show _=N.length;rw[ak,af,gc];lia
def fn_of{k:Nat}{name qual:Str}{params:Arguments}{scope:Scope}{dV kV doc pm cdv ct oc:Value}{an od:Option Addr}
  {osl:Array (Ao)}(lk:K.lookup f=some ⟨oc,od,.func (PySem.W.fnOf name qual params body scope dV kV doc pm an cdv ct),osl⟩) (hcd:PySem.W.codeIn K cdv qual=true) (S:FnScope N ps scope)
  (len:∀vs H Q E,sp vs H Q E->vs.length=ps.length)
  (hbody:∀(A:Around) (Ap:List Env) (s:Shared) (H:Hp) (vs:List V) (Q:VK) (E:XK),Room k (A.deeper (envOfC qual scope s.heap.objs.size f cdv))->sp vs H Q E->
   ∃t,PSs (cxOf CX P w K mg Aq N qual scope f cdv A Ap s H E) body t/\t {nx:=λ_ H'=>Q .non H',rt:=Q} (yH N vs) H):
  FnOk P w K mg Aq CX (k+1) f (PySem.W.fnOf name qual params body scope dV kV doc pm an cdv ct) ps sp:=by
 refine⟨len,λA Ap s H args us vs Q E hr e0 hb r hsp=>?_⟩;have hl:=len _ _ _ _ hsp;have KX:K.In s.heap:=e0.mod.kin.keeps λb o e=>(e0.bs b o e).1;have lim:s.heap.NoLimit:=e0.mod.nolimit.keeps λb o e=>(e0.bs b o e).1;have hkind:∀y∈ps.zip us,scope.names.lookup y.1=some .local\/(scope.names.lookup y.1=some .cell/\((cellsFrom (s.heap.objs.size+1) scope.names []).lookup y.1).isSome=true):=λ⟨n,v⟩ hy=>by
  rcases S.par n (di hy).1 with q|q
  .exact .inl q
  .exact .inr ⟨q,fw _ _ _ (.inl q)⟩
 refine codeAny_call_function hr.depth (KX _ _ lk) rfl S.co S.gen rfl (ko KX hcd) (hb _ _ _ _ ?_);refine h9 S.kind hkind λenv he s1 x=>?_;subst he;refine⟨lim.keeps x.toInCall.keep,codeAny_func ?_⟩;obtain⟨t,ht,hq⟩:=hbody A Ap s H vs Q E (hr.deeper _) hsp;have I:Inv (cxOf CX P w K mg Aq N qual scope f cdv A Ap s H E) [] (yH N vs) H s1:=jHL S hr.hd e0 hl r x;refine cb (ht [] s1 (yH N vs) H _ I hq) (λfl s' hs=>?_) λe s' hs=>hs;have fin:∀{σ':St}{H':Hp}{v:V}{u:Value},Inv (cxOf CX P w K mg Aq N qual scope f cdv A Ap s H E) [] σ' H' s'->RelV v u->Q v H'->CE Ap P w H s Q u s':=
  λ{σ' H' v u} J rv q=>⟨v,H',J.os,J.bare,J.Aq,J.hok,rv,q⟩
 cases fl with
 |ret u=>
  obtain⟨v,σ',H',J,rv,q⟩:=hs;exact fin J rv q
 |next=>
  obtain⟨σ',H',J,q⟩:=hs;exact fin (v:=V.non) (u:=Value.none) J rfl q
 |brk=>
  obtain⟨_,_,_,q⟩:=hs;exact False.elim q
 |cont=>
  obtain⟨_,_,_,q⟩:=hs;exact False.elim q
section
variable {x:Str}{id T:String}{r:List V->Hp->VK->Prop}
def tCB(r:List V->Hp->VK->Prop)(t:TA):TE:=λσ H Q=>t σ H λvs H1=>r vs H1 Q
theorem jFT(hc:qA X (.builtin id) r)(hg:Gl X x)(hm:X.mg x=none)(hv:bootBuiltins x=some (.builtin id))(ha:PA X (e::es) t)(hn:x≠"__name__" :=by decide)(hdb:(x==("__debug__":Str))=false:=by decide)
  (he:starEach (e::es) X.env=(false,eval e X.env)::starEach es X.env:=by rfl) (hpl:(backTo pos (starEach es X.env)).any (·.1)=false:=by rfl):PE X (.Call (.Name x p) (e::es) [] pos) (tCB r t):=by
 intro lw s σ H Q I h;refine cx (jDC I hg hm hv ?_ hn hdb);exact PyProof.Rows.callWith_builtin1 (lz (ha pos lw s σ H _ I h) λus s1 ⟨vs,H1,I1,r1,q1⟩=>hc lw s1 σ H1 vs us Q I1 r1 q1) he hpl
theorem jC9(hc:qA X (.type T) r)(hg:Gl X x)(hm:X.mg x=none)(hv:bootBuiltins x=some (.type T))(ha:PA X (e::es) t)(hn:x≠"__name__" :=by decide)(hdb:(x==("__debug__":Str))=false:=by decide)
  (he:starEach (e::es) X.env=(false,eval e X.env)::starEach es X.env:=by rfl) (hpl:(backTo pos (starEach es X.env)).any (·.1)=false:=by rfl):PE X (.Call (.Name x p) (e::es) [] pos) (tCB r t):=by
 intro lw s σ H Q I h;refine cx (jDC I hg hm hv ?_ hn hdb);exact cN (lz (ha pos lw s σ H _ I h) λus s1 ⟨vs,H1,I1,r1,q1⟩=>hc lw s1 σ H1 vs us Q I1 r1 q1) he hpl
end
end L2
namespace HT
open PySem PyProof.Rows
variable {lo hi:Option Int}{vu vl:Value}{t sl:Addr}
noncomputable def lexLt:Ag->Ag->Bool
 |[],[]=>false
 |[],_::_=>true
 |_::_,[]=>false
 |x::xs,y::ys=>if x=y then lexLt xs ys else decide (x<y)
theorem lexLt_cons(x y:Int)(xs ys:Ag):lexLt (x::xs) (y::ys)=if x=y then lexLt xs ys else decide (x<y):=rfl
def jG1:lexLt [] []=false:=rfl
def jEQ(y:Int)(ys:Ag):lexLt [] (y::ys)=true:=rfl
def jER(x:Int)(xs:Ag):lexLt (x::xs) []=false:=rfl
def jRD(A:Around)(s:Shared)(a:Int)(t:Tok)(c:Int)(u:Tok):∃e,SeqAt.EqAt A s (.int a t) (.int c u) e/\(e=true↔a=c):=
 ⟨(a==c),fj a t c u,Ad⟩
theorem rcLt_int(A:Around)(s:Shared)(a:Int)(t:Tok)(c:Int)(u:Tok)(prog:Program)(w:World)(E:Ah)(Q:Ah)(h:Q (.bool (decide (a<c))) s):
  wpAny (model prog w) A (richCompare .Lt (.int a t) (.int c u)) Q E s:=
 (PyProof.Rows.lt_int h:wpAny (model prog w) A (compareOp .Lt (.int a t) (.int c u)) Q E s)
section
open PySem.SeqAt
open PySem.AutoSeq1 (wpAny_loadPart')
open PySem.MeetsSeq PySem.MeetsSeq2 PySem.MeetsSeq3
theorem jFM(l b:Addr)(items items2:An)(n n2:Nat)(dd dd2:Option Addr)(sl sl2:Array (Ao))(ns ms:Ag)(hi:IntsAre items.toList ns)(hj:IntsAre items2.toList ms):
  Meets (Builtin.«tuple.__lt__» ⟨[.ref l,.ref b],[]⟩)
   (λ_ R s=>s.heap.get? l=some {cls:=.type "tuple",dict:=dd,data:=.seq items n,slots:=sl} /\s.heap.get? b=some {cls:=.type "tuple",dict:=dd2,data:=.seq items2 n2,slots:=sl2} /\
    R (.ok (.ret (.bool (lexLt ns ms)))) s):=
 .of_wp λprog w A R s h=>by
  obtain⟨hp,g,d,tk,os⟩:=s;obtain⟨hl,hb,h⟩:=h;have f2:=AutoSeq1.sub_tuple_tuple;have z1:items.size=ns.length:=by rw[<- hi.length];simp
  have z2:items2.size=ms.length:=by rw[<- hj.length];simp
  wp_walk using cD hl,cD hb,wpAny_forIn_list _ (λrest b s'=>b.1=none/\s'=⟨hp,g,d,tk,os⟩/\∃(vs ws:Al) (ns' ms':Ag),rest=vs.zip ws/\
   IntsAre vs ns'/\IntsAre ws ms'/\ns'.length+items2.size=ms'.length+items.size/\R (.ok (.ret (.bool (lexLt ns' ms')))) ⟨hp,g,d,tk,os⟩) _
  case turn=>
   rintro ⟨y,x⟩ rest b s' ⟨hb',rfl,vs,ws,ns',ms',hz,hvi,hwi,hlen,hR⟩;cases hvi with
   |nil=>rw[List.zip_nil_left] at hz;cases hz
   |cons a t hvi'=>
    cases hwi with
    |nil=>rw[List.zip_nil_right] at hz;cases hz
    |cons c u hwi'=>
     rw[dX] at hz;injection hz with hyx hrest;injection hyx with hy hx;subst hy hx;rw[lexLt_cons] at hR;simp only[aV] at hlen;obtain⟨e,he,hiff⟩:=jRD A.in1 ⟨hp,g,d,tk,os⟩ a t c u;refine ab (he prog w _ _ ?_);cases e with
     |true=>
      rw[ax (hiff.mp rfl)] at hR
      wp_walk
      exact⟨rfl,rfl,_,_,_,_,hrest,hvi',hwi',Aa,hR⟩
     |false=>
      rw[aq (λq=>absurd (hiff.mpr q) am)] at hR;have hri:=rcLt_int A.in1 ⟨hp,g,d,tk,os⟩ a t c u prog w
      wp_walk using hri
      exact⟨_,rfl,by simpa using hR⟩
  case fin=>
   rintro ⟨b1,b2⟩ s' ⟨hb',rfl,vs,ws,ns',ms',hz,hvi,hwi,hlen,hR⟩;simp only at hb';subst hb';have hv:lexLt ns' ms'=decide (items.size<items2.size):=by
    cases hvi with
    |nil=>
     cases hwi with
     |nil=>
      simp only[cE] at hlen;rw[jG1];exact(aH Aa).symm
     |cons c u hw=>
      simp only[cE,aV] at hlen;rw[jEQ];exact(ay Aa).symm
    |cons a t hv=>
     cases hwi with
     |nil=>
      simp only[cE,aV] at hlen;rw[jER];exact(aH Aa).symm
     |cons c u hw=>
      rw[dX] at hz;cases hz
   rw[hv] at hR
   wp_walk
   exact⟨_,rfl,by simpa [Builtin.Tuple.tupleCompareSizes] using hR⟩
  case h=>
   exact⟨rfl,rfl,items.toList,items2.toList,ns,ms,rfl,hi,hj,Aa,h⟩
end
section
variable {prog:Program}{w:World}{A:Around}{E:Ah}{s:Shared}
def lt_tupInts{l b:Addr}{items items2:An}{ns ms:Ag}{Q:Ah}(hl:IsTup s.heap l items)(hb:IsTup s.heap b items2)(hi:IntsAre items.toList ns)(hj:IntsAre items2.toList ms)
  (hu:A.units<cLine) (h:Q (.bool (lexLt ns ms)) s):wpAny (model prog w) A (compareOp .Lt (.ref l) (.ref b)) Q E s:=by
 obtain⟨⟨cls,dd,data,sl⟩,ho,hc,n,hd⟩:=id hl;obtain⟨⟨cls2,dd2,data2,sl2⟩,ho2,hc2,n2,hd2⟩:=id hb;simp only at hc hd hc2 hd2;subst hc hd hc2 hd2;exact richCompare_meets_room (op:=.Lt) ⟨_,ho,rfl⟩ ⟨_,ho2,rfl⟩ PySem.F.slot_tuple_lt PySem.F.entry_tuple_lt (PySem.F.args_tuple_lt_2 _ _) (jFM l b items items2 n n2 dd dd2 sl sl2 ns ms hi hj)
  ⟨ho,ho2,show Value.bool (lexLt ns ms)≠Value.notImplemented/\Q (.bool (lexLt ns ms)) s from ⟨(λx=>nomatch x),h⟩⟩ hu
def cat_tup{b:Addr}{vs ws:Al}{Q:Ah}(ht:IsTup s.heap t vs.toArray)(hb:IsTup s.heap b ws.toArray)(hv:vs≠[])
  (h1:ws=[]->Q (.ref t) s) (h2:ws≠[]->Q (.ref s.heap.objs.size) {s with heap:=s.heap.push {cls:=.type "tuple",data:=.seq (vs++ws).toArray}})
  (hsz:vs.length+ws.length<=sizeLine):wpAny (model prog w) A (binaryOp .Add (.ref t) (.ref b)) Q E s:=by
 obtain⟨⟨cls,dd,data,sl⟩,ho,hc,n,hd⟩:=id ht;obtain⟨⟨cls2,dd2,data2,sl2⟩,ho2,hc2,n2,hd2⟩:=id hb;simp only at hc hd hc2 hd2;subst hc hd hc2 hd2;have e:vs.toArray++ws.toArray=(vs++ws).toArray:=Ad;by_cases hw:ws=[]
 .exact concat_meets ⟨_,ho,rfl⟩ ⟨_,ho2,rfl⟩ iT seq_tuple_add fz ft (fe _ _)
   (tuple_addW1 t b vs.toArray ws.toArray n n2 dd dd2 sl sl2 (by simpa using hv) (by simp[hw])) ⟨ho,ho2,h1 hw⟩
 .refine concat_meets ⟨_,ho,rfl⟩ ⟨_,ho2,rfl⟩ iT seq_tuple_add fz ft (fe _ _)
   (tuple_addW2 t b vs.toArray ws.toArray n n2 dd dd2 sl sl2 (by simpa using hv) (by simpa using hw) (by rw[aK,aK];exact hsz)) ⟨ho,ho2,?_⟩
  rw[e];exact h2 hw
noncomputable def sIx(n d:Nat):Option Int->Nat
 |none=>d
 |some v=>if v<0 then (v+(n:Int)).toNat else min v.toNat n
def sIx_none(n d:Nat):sIx n d none=d:=rfl
theorem sIx_nat(n d k:Nat):sIx n d (some (k:Int))=min k n:=by
 show (if (k:Int)<0 then ((k:Int)+(n:Int)).toNat else min (k:Int).toNat n)=min k n;rw[aq Aa,aX]
theorem jVY(n d:Nat)(hd:d<=n)(o:Option Int):sIx n d o<=n:=by
 cases o with
 |none=>exact hd
 |some v=>
  show (if v<0 then (v+(n:Int)).toNat else min v.toNat n)<=n;by_cases hv:v<0
  .rw[ax hv];lia
  .rw[aq hv];exact Nat.min_le_right _ _
theorem jP4(v:Int)(n d:Nat):(if v<0 then max (v+(n:Int)) 0 else min v (n:Int))=((sIx n d (some v):Nat):Int):=by
 show (if v<0 then max (v+(n:Int)) 0 else min v (n:Int))=(((if v<0 then (v+(n:Int)).toNat else min v.toNat n):Nat):Int);by_cases hv:v<0
 .simp only[ax hv];lia
 .simp only[aq hv];lia
theorem jLV(lo hi:Option Int)(n:Nat):Builtin.Slice.sliceAdjust lo hi 1 (n:Int)=(((sIx n 0 lo:Nat):Int),((sIx n n hi:Nat):Int)):=by
 have h1:¬((1:Int)<0):=Aa;unfold Builtin.Slice.sliceAdjust;simp only[h1,ic];refine Prod.ext ?_ ?_
 .cases lo with
  |none=>rfl
  |some v=>exact jP4 v n 0
 .cases hi with
  |none=>rfl
  |some v=>exact jP4 v n n
theorem jLB(i j:Nat):Builtin.Slice.slicePlaces (i:Int) (j:Int) 1=j-i:=by
 unfold Builtin.Slice.slicePlaces;have h1:(1:Int)>0:=Aa;simp only[h1,fE,Int.ediv_one];split<;>lia
def jF2{v:Value}{o:Option Int}{Q:Option Int->Shared->Prop}(p:IsPart v o)(h:Q o s):wpAny (model prog w) A (Builtin.Slice.slicePartIndex v) Q E s:=by
 cases p with
 |none=>exact slicePart_none h
 |int i t=>exact slicePart_int h
theorem sliceApplied_gen{n:Nat}{Q:Int×Int×Nat->Shared->Prop}(hs:s.heap.IsSliceOf sl vl vu .none)(pl:IsPart vl lo)(pu:IsPart vu hi)
  (h:Q (((sIx n 0 lo:Nat):Int),1,sIx n n hi-sIx n 0 lo) s):wpAny (model prog w) A (Builtin.Slice.sliceApplied (.ref sl) (pure (n:Int))) Q E s:=by
 obtain⟨os,hos,hcs,hds⟩:=id hs;unfold Builtin.Slice.sliceApplied Builtin.Slice.sliceFields;refine ab (ab (bU hos hds (x:=vl) rfl (ab (bU hos hds (x:=vu) rfl (ab (bU hos hds (x:=.none) rfl (ah ?_)))))));refine ab (slicePart_none ?_);show wpAny _ _ (if ((1:Int)==0)=true then _ else _) _ _ s;rw[aq Ac];refine ab (jF2 pl (ab (jF2 pu (ab (ah ?_)))));show wpAny _ _ (match Builtin.Slice.sliceAdjust lo hi 1 (n:Int) with | (lo,hi)=>pure (lo,(1:Int),Builtin.Slice.slicePlaces lo hi 1)) _ _ s;rw[jLV lo hi n];show wpAny _ _ (pure (((sIx n 0 lo:Nat):Int),(1:Int),Builtin.Slice.slicePlaces ((sIx n 0 lo:Nat):Int) ((sIx n n hi:Nat):Int) 1)) _ _ s;rw[jLB];exact ah h
theorem jQ0(xs:An)(i k:Nat):((List.range k).filterMap λ(m:Nat)=>xs[((i:Int)+(m:Int)*1).toNat]?).toArray=((xs.toList.drop i).take k).toArray:=by
 have e:(λ(m:Nat)=>xs[((i:Int)+(m:Int)*1).toNat]?)=λm=>xs[i+m]?:=by
  funext m;have:((i:Int)+(m:Int)*1).toNat=i+m:=Aa;rw[this]
 rw[e];have:=pick_run xs i k;rw[List.filterMap_map] at this;have e2:((λx=>xs[x]?) ∘ λx=>i+x)=λm=>xs[i+m]?:=rfl;rw[e2] at this;rw[this]
theorem getItem_tuple_cut{items:An}{Q:Ah}(ht:IsTup s.heap t items)(hs:s.heap.IsSliceOf sl vl vu .none)(pl:IsPart vl lo)(pu:IsPart vu hi)
  (hw:¬(sIx items.size 0 lo=0/\sIx items.size items.size hi=items.size))
  (h:Q (.ref s.heap.objs.size) {s with heap:=s.heap.push {cls:=.type "tuple",data:=.seq ((items.toList.drop (sIx items.size 0 lo)).take (sIx items.size items.size hi-sIx items.size 0 lo)).toArray}})
  (hsz:items.size<=sizeLine):wpAny (model prog w) A (getItem (.ref t) (.ref sl)) Q E s:=by
 have htake:sizeOk (.seq ((items.toList.drop (sIx items.size 0 lo)).take (sIx items.size items.size hi-sIx items.size 0 lo)).toArray):=by
  show ((items.toList.drop (sIx items.size 0 lo)).take (sIx items.size items.size hi-sIx items.size 0 lo)).toArray.size<=sizeLine;rw[aK,bi,dy,aI];lia
 have hj:sIx items.size items.size hi<=items.size:=jVY _ _ (ar _) hi;obtain⟨os,hos,hcs,hds⟩:=id hs;have hTs:s.TypeIs (.ref sl) "slice" :=⟨os,hos,hcs⟩;unfold getItem
 try with_reducible refine bE ?_
 first|refine ab (ah ?_)|skip
 refine ab (wpAny_sequenceKey ht.typeIs Ac ?_);refine ab (bF (name:=Str.ofString "__getitem__") ht.typeIs cf
  (bQ cf ht.typeIs entry_tuple_getitem ?_ (args_tuple_getitem _ _)))
 show wpAny _ _ (Builtin.Tuple.tupleItemsOf (.ref t) >>= _) _ _ s;refine ab (tupleItemsOf_ ht ?_);refine ab (eR hTs ?_);rw[ax Ac];refine ab (sliceApplied_gen hs pl pu ?_);have hno:¬((((sIx items.size 0 lo:Nat):Int)==0&&(1:Int)==1&&(sIx items.size items.size hi-sIx items.size 0 lo)==items.size)=true):=by
  intro q;rw[bC,bC] at q;have q1:((sIx items.size 0 lo:Nat):Int)=0:=eq_of_beq q.1.1;have q2:sIx items.size items.size hi-sIx items.size 0 lo=items.size:=eq_of_beq q.2;exact hw ⟨Aa,Aa⟩
 show wpAny _ _ (if (((sIx items.size 0 lo:Nat):Int)==0&&(1:Int)==1&&(sIx items.size items.size hi-sIx items.size 0 lo)==items.size)=true then _ else _) _ _ s;rw[aq hno,jQ0]
 first
  |exact ab (m:=Builtin.Tuple.tupleExact _) (bZ (ah ⟨_,rfl,ah h⟩) htake)
  |exact ab (m:=Builtin.Tuple.tupleExact _) (bZ (ab (ah (ah ⟨_,rfl,ah h⟩))) htake)
  |exact ab (ab (m:=Builtin.Tuple.tupleExact _) (bZ (ah (ah ⟨_,rfl,ah h⟩)) htake))
  |exact ab (ab (m:=Builtin.Tuple.tupleExact _) (bZ (ah ⟨_,rfl,ah h⟩) htake))
end
end HT
namespace L2
open PySem PySem.Spec PyProof.Rows
variable {s:Shared}{xs:List V}{x:V}{v u:Value}{α:Type}{A:Around}{n:Nat}{i:Int}
abbrev TO:=St->Hp->(Option Int->Hp->Prop)->Prop
def PO(X:Cx)(e:Option Expr)(t:TO):Prop:=
 ∀(lw:Ai) (s:Shared) (σ:St) (H:Hp) (Q:Option Int->Hp->Prop),Inv X lw σ H s->t σ H Q->
  wpAny (model X.prog X.w) X.A (evalPart e X.env) (λu s'=>∃o H',Inv X lw σ H' s'/\IsPart u o/\Q o H') X.xe s
def jMC:TO:=λ_ H Q=>Q none H
def tPart(t:TE):TO:=λσ H Q=>t σ H λx H1=>∃i,x=.int i/\Q (some i) H1
def jLP{ns:Ag}:∀{us:Al},Vals (ns.map V.int) us->IntsAre us ns:=by
 induction ns with
 |nil=>intro us r;rw[fJ] at r;cases r;exact .nil
 |cons n ns ih=>
  intro us r;rw[aW] at r;cases r with
  |cons r1 r2=>
   obtain⟨t,e⟩:=r1;subst e;exact .cons n t (ih r2)
variable {X:Cx}{e:Expr}{pos:Pos}
section
variable {te:TE}{lo hi:Option Expr}{tl th:TO}{p2:Pos}
def jTD:PO X none jMC:=by
 intro lw s σ H Q I h;rw[evalPart_none];exact ah ⟨none,H,I,.none,h⟩
def jTC(h:PE X e te):PO X (some e) (tPart te):=by
 intro lw s σ H Q I hw;rw[evalPart_some];refine lz (h lw s σ H _ I hw) λu s1 ⟨x,H1,I1,r1,q1⟩=>?_;obtain⟨i,rfl,q⟩:=q1;obtain⟨t,rfl⟩:=r1;exact⟨some i,H1,I1,.int i t,q⟩
def SlR(X:Cx)(r:V->Option Int->Option Int->Hp->VK->Prop):Prop:=
 ∀(lw:Ai) (s:Shared) (σ:St) (H:Hp) (x:V) (v vl vu:Value) (lo hi:Option Int) (sl:Addr) (Q:VK),Inv X lw σ H s->RelV x v->s.heap.IsSliceOf sl vl vu .none->IsPart vl lo->IsPart vu hi->r x lo hi H Q->
  ∃T id,typeLookup (.type T) "__getitem__" =pure (some (.builtin id))/\s.TypeIs v T/\wpAny (model X.prog X.w) X.A (getItem v (.ref sl)) (EP X lw σ Q) X.xe s
def tSl(r:V->Option Int->Option Int->Hp->VK->Prop)(te:TE)(tl th:TO):TE:=λσ H Q=>te σ H λx H1=>tl σ H1 λl H2=>th σ H2 λu H3=>r x l u H3 Q
def jQ3{r:V->Option Int->Option Int->Hp->VK->Prop}(hr:SlR X r)(he:PE X e te)(hl:PO X lo tl)(hu:PO X hi th):PE X (.Subscript e (.Slice lo hi none p2) pos) (tSl r te tl th):=by
 intro lw s σ H Q I h;refine Subscript_ (lz (he lw s σ H _ I h) λv s1 ⟨x,H1,I1,r1,q1⟩=>?_);refine wpAny_Slice (lz (hl lw s1 σ H1 _ I1 q1) λvl s2 ⟨l,H2,I2,pl,q2⟩=>lz (hu lw s2 σ H2 _ I2 q2) λvu s3 ⟨u,H3,I3,pu,q3⟩=>?_);rw[evalPart_none];refine ah ?_;have I4:Inv X lw σ H3 {s3 with heap:=s3.heap.push {cls:=.type "slice",data:=.fields #[vl,vu,.none]}}:=I3.kept (t':=s3.toks) λb ob q=>ae _ q;obtain⟨T,id,hT,ht,hg⟩:=hr lw {s3 with heap:=s3.heap.push {cls:=.type "slice",data:=.fields #[vl,vu,.none]}} σ H3 x v vl vu l u s3.heap.objs.size Q I4 r1 (Heap.IsSliceOf.new ..) pl pu q3;show wpAny (model X.prog X.w) X.A (subscriptTail e (.Slice lo hi none p2) v (.ref s3.heap.objs.size)) (EP X lw σ Q) X.xe {s3 with heap:=s3.heap.push {cls:=.type "slice",data:=.fields #[vl,vu,.none]}};exact tail_any (ops:=[.ref s3.heap.objs.size,v]) ht hT hg (by with_unfolding_all rfl)
def cutV(xs:List V)(lo hi:Option Int):List V:=(xs.drop (HT.sIx xs.length 0 lo)).take (HT.sIx xs.length xs.length hi-HT.sIx xs.length 0 lo)
theorem jEL(xs:List V)(lo hi:Option Int):(cutV xs lo hi).length<=xs.length:=by
 unfold cutV;rw[bi,dy];lia
inductive rSlT(K:W.Frag)(x:V)(lo hi:Option Int)(H:Hp)(Q:VK):Prop|i(a xs:_)(_:x=.ref a)(_:SqT K H a xs)(_:¬(HT.sIx xs.length 0 lo=0/\HT.sIx xs.length xs.length hi=xs.length))(_:∀p,H p=none->Q (.ref p) (upd H p (.tup (cutV xs lo hi))))
def jVT:SlR X (rSlT X.K):=by
 intro lw s σ H x v vl vu lo hi sl Q I rx hs pl pu h;obtain⟨a,xs,rfl,hx,hw,q⟩:=h;cases rx;obtain⟨its,r,ht,hz⟩:=I.tuple hx;have hlen:its.toArray.size=xs.length:=by rw[aK];exact r.length.symm
 refine⟨"tuple",_,cf.lookup,ht.typeIs,?_⟩;refine HT.getItem_tuple_cut ht hs pl pu (by rw[hlen];exact hw) ?_ (by rw[hlen];exact hz);rw[hlen];refine⟨.ref s.heap.objs.size,_,I.laid (t':=s.toks) (o:=.tup (cutV xs lo hi)) (λb ob q=>ae _ q) (ar _) ?_,rfl,q _ (I.hok.fresh (ar _))⟩;exact⟨bA (jEL xs lo hi) hz,_,(r.drop (HT.sIx xs.length 0 lo)).take (HT.sIx xs.length xs.length hi-HT.sIx xs.length 0 lo),TupO.new _ _⟩
inductive rCatT(K:W.Frag)(x y:V)(H:Hp)(Q:VK):Prop|i(a b xs ys:_)(_:x=.ref a)(_:y=.ref b)(_:SqT K H a xs)(_:SqT K H b ys)(_:xs≠[])(_:xs.length+ys.length<=sizeLine)(_:(ys=[]->Q (.ref a) H))(_:(ys≠[]->∀p,H p=none->Q (.ref p) (upd H p (.tup (xs++ys)))))
def Vals.nil_iff{us:Al}(r:Vals xs us):us=[]↔xs=[]:=by
 cases r with
 |nil=>simp
 |cons _ _=>simp
def jTU:OpR X (binaryOp .Add) (rCatT X.K):=by
 intro lw s σ H x y v u Q I rx ry h;obtain⟨a,b,xs,ys,rfl,rfl,ha,hb,hx,hz,q1,q2⟩:=h;cases rx;cases ry;obtain⟨its,r1,p1,_⟩:=I.tuple ha;obtain⟨its2,r2,p2,_⟩:=I.tuple hb;refine HT.cat_tup p1 p2 (λz=>hx (r1.nil_iff.mp z)) (λz=>⟨.ref a,H,I,rfl,q1 (r2.nil_iff.mp z)⟩) (λz=>?_) (by rw[<- r1.length,<- r2.length];exact hz);refine⟨.ref s.heap.objs.size,_,I.laid (t':=s.toks) (o:=.tup (xs++ys)) (λb ob q=>ae _ q) (ar _) ?_,rfl,q2 (λw=>z (r2.nil_iff.mpr w)) _ (I.hok.fresh (ar _))⟩;exact⟨by rw[ak];exact hz,_,r1.append r2,TupO.new _ _⟩
end
noncomputable def ixN(n:Nat)(i:Int):Option Nat:=if 0<=i then (if i<n then some i.toNat else none) else if -(n:Int)<=i then some (i+n).toNat else none
def atI(xs:List α)(i:Int):Option α:=(ixN xs.length i).bind λj=>xs[j]?
theorem jOI{j:Nat}(h:ixN n i=some j):seqIndex? i n=some j/\j<n/\ -(n:Int)<=i/\i<n:=by
 unfold ixN at h;by_cases h0:0<=i
 .rw[ax h0] at h;by_cases h1:i<n
  .rw[ax h1] at h;have e:i.toNat=j:=bo h;exact⟨by rw[seqIndex_of h0 h1,e],Aa,Aa,h1⟩
  .rw[aq h1] at h;cases h
 .rw[aq h0] at h;by_cases h1: -(n:Int)<=i
  .rw[ax h1] at h;have e:(i+n).toNat=j:=bo h;exact⟨by rw[seqIndex_neg Aa h1,e],Aa,h1,Aa⟩
  .rw[aq h1] at h;cases h
def jPF{xs:List α}{v:α}(h:atI xs i=some v):∃j,seqIndex? i xs.length=some j/\xs[j]?=some v/\j<xs.length/\ -(xs.length:Int)<=i/\i<xs.length:=by
 unfold atI at h;cases e:ixN xs.length i with
 |none=>rw[e] at h;cases h
 |some j=>
  rw[e] at h;obtain⟨h1,h2,h3,h4⟩:=jOI e;exact⟨j,h1,h,h2,h3,h4⟩
theorem jAJ{α:Type}{xs:List α}{j:Nat}{v:α}(h:xs[j]?=some v):atI xs (j:Int)=some v:=by
 have hj:j<xs.length:=(aj.mp h).1;have e:ixN xs.length (j:Int)=some j:=by
  unfold ixN;rw[ax Aa,ax Aa];simp
 unfold atI;rw[e];exact h
def jAV(b:Expr):Prop:=∀o i,subscripted b false o i=operate [o,i] (getItem o i)
def IxR(X:Cx)(r:R2):Prop:=
 ∀(value slice:Expr) (lw:Ai) (s:Shared) (σ:St) (H:Hp) (x y:V) (v u:Value) (Q:VK),Inv X lw σ H s->RelV x v->RelV y u->r x y H Q->
  subscripted slice false v u=operate [v,u] (getItem v u)->wpAny (model X.prog X.w) X.A (subscriptTail value slice v u) (EP X lw σ Q) X.xe s
def MtR(X:Cx)(id:String)(r:V->List V->Hp->VK->Prop):Prop:=
 ∀(lw:Ai) (s:Shared) (σ:St) (H:Hp) (x:V) (xs:List V) (v:Value) (us:Al) (Q:VK),Inv X lw σ H s->RelV x v->Vals xs us->r x xs H Q->
  wpAny (model X.prog X.w) X.A (call (.builtin id) (v::us)) (EP X lw σ Q) X.xe s
section
variable {a b:Expr}{ta tb:TE}
def pe_ix{r:R2}(hr:IxR X r)(ha:PE X a ta)(hb:PE X b tb)(hs:jAV b):PE X (.Subscript a b pos) (tOp r ta tb):=by
 intro lw s σ H Q I h;exact Subscript_ (binT ha hb I h λv u s2 x y H2 I2 rx ry q=>hr a b lw s2 σ H2 x y v u Q I2 rx ry q (hs _ _))
inductive rIxL(K:W.Frag)(x y:V)(H:Hp)(Q:VK):Prop|i(p xs i v:_)(_:x=.ref p)(_:y=.int i)(_:SqL K H p xs)(_:atI xs i=some v)(_:Q v H)
inductive rIxT(K:W.Frag)(x y:V)(H:Hp)(Q:VK):Prop|i(p xs i v:_)(_:x=.ref p)(_:y=.int i)(_:SqT K H p xs)(_:atI xs i=some v)(_:Q v H)
theorem jB5:IxR X (rIxL X.K):=by
 intro value slice lw s σ H x y v u Q I rx ry h hs;obtain⟨p,xs,i,z,rfl,rfl,hq,he,q⟩:=h;cases rx;obtain⟨t,rfl⟩:=ry;obtain⟨its,r,pl,hz⟩:=I.list hq;obtain⟨j,h1,h2,h3,h4,h5⟩:=jPF he;obtain⟨w,ew,rw'⟩:=r.get h2;have hl:=r.length;have hn:=jHF;have fin:EP X lw σ Q w s:=⟨z,H,I,rw',q⟩;by_cases h0:0<=i
 .have hj:i.toNat=j:=by
   rw[seqIndex_of h0 h5] at h1;exact bo h1
  exact item_listR pl.isList h0 Aa (by rw[hj];simpa using ew) fin hs
 .have hj:(i+(its.toArray.size:Int)).toNat=j:=by
   rw[seqIndex_neg Aa h4] at h1;rw[aK,<- hl];exact bo h1
  exact subscriptTail_builtinR (x:=w) pl.isList.typeIs slot_list_getitem.lookup
   (wpAny_getItem_list_neg (Q:=λr s'=>r=w/\EP X lw σ Q r s') pl.isList Aa (by rw[aK]<;>lia) Aa (by rw[hj];simpa using ew) ⟨rfl,fin⟩) hs
theorem jG:IxR X (rIxT X.K):=by
 intro value slice lw s σ H x y v u Q I rx ry h hs;obtain⟨p,xs,i,z,rfl,rfl,hq,he,q⟩:=h;cases rx;obtain⟨t,rfl⟩:=ry;obtain⟨its,r,pl,hz⟩:=I.tuple hq;obtain⟨j,h1,h2,h3,h4,h5⟩:=jPF he;obtain⟨w,ew,rw'⟩:=r.get h2;have hl:=r.length;have hn:=jHF;have fin:EP X lw σ Q w s:=⟨z,H,I,rw',q⟩;exact subscriptTail_builtinR (x:=w) pl.typeIs slot_tuple_getitem.lookup
  (getItem_tuple (j:=j) (Q:=λr s'=>r=w/\EP X lw σ Q r s') pl Aa Aa (by rw[aK,<- hl];exact h1) (by simpa using ew) ⟨rfl,fin⟩) hs
def jLI(its:Al)(n j:Nat)(u:Value):Obj.mapSeq (·.setIfInBounds j u) {cls:=.type "list",data:=.seq its.toArray n} = {cls:=.type "list",data:=.seq (its.set j u).toArray n}:=by
 simp[Obj.mapSeq]
def Inv.lst{lw:Ai}{σ:St}{H:Hp}{s:Shared}{p:Addr}{xs:List V}(I:Inv X lw σ H s)(h:H p=some (.lst xs)):
  ∃(its:Al) (n:Nat),Vals xs its/\s.heap.get? p=some {cls:=.type "list",data:=.seq its.toArray n} /\xs.length<=sizeLine:=by
 obtain⟨z,its,n,r,e⟩:=I.hok p _ h;exact⟨its,n,r,e,z⟩
def Inv.lstUpd{lw:Ai}{σ:St}{H:Hp}{p:Addr}{ys:List V}{its its':Al}{n':Nat}{f:Obj->Obj}(I:Inv X lw σ H s)(h:H p=some (.lst xs))
  (ho:s.heap.get? p=some {cls:=.type "list",data:=.seq its.toArray n}) (hf:f {cls:=.type "list",data:=.seq its.toArray n} = {cls:=.type "list",data:=.seq its'.toArray n'}) (r:Vals ys its') (hz:ys.length<=sizeLine) (t:Nat):
  Inv X lw σ (upd H p (.lst ys)) {s with heap:=s.heap.update p f,toks:=t}:=by
 have e:(s.heap.update p f).get? p=some {cls:=.type "list",data:=.seq its'.toArray n'}:=by
  rw[dB f ho (by rw[hf]<;>rfl),hf]
 refine I.write (x:=p) (e:=p) (by rw[h];trivial) (.inl rfl) (λb u hb q=>(bu _ _ (ce hb)).trans q) ⟨_,e⟩ ?_;exact⟨hz,its',n',r,e⟩
inductive rSetL(o:V)(i:V)(v:V)(H:Hp)(Q:(Hp->Prop)):Prop|i(p xs k j:_)(_:o=.ref p)(_:i=.int k)(_:H p=some (.lst xs))(_:ixN xs.length k=some j)(_:Q (upd H p (.lst (xs.set j v))))
theorem jPR:PSet X rSetL:=by
 intro lw s σ H o i v ov iv u Q I ro ri rv h;obtain⟨p,xs,k,j,rfl,rfl,hp,hj,q⟩:=h;cases ro;obtain⟨t,rfl⟩:=ri;obtain⟨its,n,r,ho,hz⟩:=I.lst hp;obtain⟨h1,h2,h3,h4⟩:=jOI hj;have hl:=r.length;have hn:=jHF;have I':Inv X lw σ (upd H p (.lst (xs.set j v))) {s with heap:=s.heap.update p (Obj.mapSeq (·.setIfInBounds j u))}:=
  I.lstUpd hp ho (jLI its n j u) (r.set rv j) (by rw[List.length_set];exact hz) s.toks
 by_cases h0:0<=k
 .have hk:k.toNat=j:=by
   rw[seqIndex_of h0 h4] at h1;exact bo h1
  exact PySem.W.ki_setAt ho h0 Aa (by rw[aK,<- hl];exact h4) (by rw[hk];exact⟨_,I',q⟩)
 .have hk:(k+(its.toArray.size:Int)).toNat=j:=by
   rw[seqIndex_neg Aa h3] at h1;rw[aK,<- hl];exact bo h1
  exact PySem.W.ki_setBack ho Aa (by rw[aK,<- hl];exact h3) Aa (by rw[hk];exact⟨_,I',q⟩)
theorem jGV(lo hi:Option Int)(n:Nat):(sliceBounds lo hi none n).1=((HT.sIx n 0 lo:Nat):Int)/\(sliceBounds lo hi none n).2.1=((HT.sIx n n hi:Nat):Int)/\(sliceBounds lo hi none n).2.2=1:=by
 refine⟨?_,?_,rfl⟩
 .cases lo with
  |none=>simp[sliceBounds,HT.sIx]
  |some i=>
   simp only[sliceBounds,HT.sIx,getD_none,show (1:Int)>0 by decide,fE];by_cases h:i<0
   .simp only[h,fE]<;>lia
   .simp only[h,ic]<;>lia
 .cases hi with
  |none=>simp[sliceBounds,HT.sIx]
  |some i=>
   simp only[sliceBounds,HT.sIx,getD_none,show (1:Int)>0 by decide,fE];by_cases h:i<0
   .simp only[h,fE]<;>lia
   .simp only[h,ic]<;>lia
def jFP(its:Al)(lo hi:Option Int):slicePick its.toArray lo hi none=((its.drop (HT.sIx its.length 0 lo)).take (HT.sIx its.length its.length hi-HT.sIx its.length 0 lo)).toArray:=by
 obtain⟨h1,h2,h3⟩:=jGV lo hi its.toArray.size;unfold slicePick;rw[h1,h2,h3];simp only[sliceRange_one,pick_run,aK]<;>rfl
inductive rSlL(K:W.Frag)(x:V)(lo hi:Option Int)(H:Hp)(Q:VK):Prop|i(a xs:_)(_:x=.ref a)(_:SqL K H a xs)(_:∀p,H p=none->Q (.ref p) (upd H p (.lst (cutV xs lo hi))))
theorem jMT:SlR X (rSlL X.K):=by
 intro lw s σ H x v vl vu lo hi sl Q I rx hs pl pu h;obtain⟨a,xs,rfl,hx,q⟩:=h;cases rx;obtain⟨its,r,ht,hz⟩:=I.list hx;have hlen:=r.length;refine⟨"list",_,slot_list_getitem.lookup,ht.isList.typeIs,?_⟩;refine wpAny_getItem_list_slice ht.isList hs pl pu .none Ad ?_ (by rw[aK]<;>lia);rw[jFP,<- hlen];refine⟨.ref s.heap.objs.size,_,I.laid (t':=s.toks) (o:=.lst (cutV xs lo hi)) (λb ob q=>ae _ q) (ar _) ?_,rfl,q _ (I.hok.fresh (ar _))⟩;exact⟨bA (jEL xs lo hi) hz,_,0,(r.drop (HT.sIx xs.length 0 lo)).take (HT.sIx xs.length xs.length hi-HT.sIx xs.length 0 lo),ao _ rfl⟩
def flatV:V->Bool
 | .non=>true
 | .bl _=>true
 | .int _=>true
 | .str _=>true
 |_=>false
noncomputable def eqV:V->V->Bool
 | .non,.non=>true
 | .bl a,.bl b=>a==b
 | .bl a,.int b=>(if a then 1 else 0)==b
 | .int a,.bl b=>a==(if b then 1 else 0)
 | .int a,.int b=>a==b
 | .str a,.str b=>a==b
 |_,_=>false
def jXN{y:V}(ry:RelV y u)(rx:RelV x v)(fy:flatV y=true)(fx:flatV x=true):SeqAt.EqAt A s u v (eqV y x):=by
 cases y with
 |non=>
  cases ry;cases x with
  |non=>cases rx;exact SeqAt.EqAt.same _
  |bl b=>cases rx;exact SeqAt.EqAt.none_bool b
  |int b=>obtain⟨t,rfl⟩:=rx;exact SeqAt.EqAt.none_int b t
  |str b=>obtain⟨t,rfl⟩:=rx;exact SeqAt.EqAt.none_str b t
  |_=>exact absurd (show false=true from fx) am
 |bl a=>
  cases ry;cases x with
  |non=>cases rx;exact SeqAt.EqAt.bool_none a
  |bl b=>cases rx;exact SeqAt.EqAt.bool_bool a b
  |int b=>obtain⟨t,rfl⟩:=rx;exact SeqAt.EqAt.bool_int a b t
  |str b=>obtain⟨t,rfl⟩:=rx;exact SeqAt.EqAt.bool_str a b t
  |_=>exact absurd (show false=true from fx) am
 |int a=>
  obtain⟨t',rfl⟩:=ry;cases x with
  |non=>cases rx;exact SeqAt.EqAt.int_none a t'
  |bl b=>cases rx;exact SeqAt.EqAt.int_bool a t' b
  |int b=>obtain⟨t,rfl⟩:=rx;exact fj a t' b t
  |str b=>obtain⟨t,rfl⟩:=rx;exact SeqAt.EqAt.int_str a t' b t
  |_=>exact absurd (show false=true from fx) am
 |str a=>
  obtain⟨t',rfl⟩:=ry;cases x with
  |non=>cases rx;exact SeqAt.EqAt.str_none a t'
  |bl b=>cases rx;exact SeqAt.EqAt.str_bool a t' b
  |int b=>obtain⟨t,rfl⟩:=rx;exact SeqAt.EqAt.str_int a t' b t
  |str b=>obtain⟨t,rfl⟩:=rx;exact SeqAt.EqAt.str_str a t' b t
  |_=>exact absurd (show false=true from fx) am
 |_=>exact absurd (show false=true from fy) am
noncomputable def eqU(x:V)(u:Value):Bool:=match u with
 | .none=>eqV .non x
 | .bool b=>eqV (.bl b) x
 | .int i _=>eqV (.int i) x
 | .str z _=>eqV (.str z) x
 |_=>false
def jSO{y:V}(r:RelV y u)(f:flatV y=true):eqU x u=eqV y x:=by
 cases y with
 |non=>cases r;rfl
 |bl b=>cases r;rfl
 |int i=>obtain⟨t,rfl⟩:=r;rfl
 |str z=>obtain⟨t,rfl⟩:=r;rfl
 |_=>exact absurd (show false=true from f) am
def jEN:∀{xs:List V}{us:Al},Vals xs us->xs.all flatV=true->us.any (eqU x)=xs.any λy=>eqV y x
 |_,_,.nil,_=>rfl
 |y::xs,u::us,.cons r t,f=>by
  rw[iN,bC] at f;rw[gy,gy,jSO r f.1,jEN t f.2]
def jCB(rx:RelV x v)(fx:flatV x=true):∀{xs:List V}{us:Al},Vals xs us->xs.all flatV=true->∀u∈us,SeqAt.EqAt A s u v (eqU x u)
 |_,_,.nil,_=>λu hu=>by cases hu
 |y::xs,u::us,.cons r t,f=>λu' hu=>by
  rw[iN,bC] at f;rcases aA.mp hu with rfl|hu
  .rw[jSO r f.1];exact jXN r rx f.1 fx
  .exact jCB rx fx t f.2 u' hu
def inV(x:V)(xs:List V):Bool:=xs.any λy=>eqV y x
inductive rIn(K:W.Frag)(neg:Bool)(x y:V)(H:Hp)(Q:VK):Prop|i(p xs:_)(_:y=.ref p)(_:(SqL K H p xs\/SqT K H p xs))(_:flatV x=true)(_:xs.all flatV=true)(_:Q (.bl (if neg then !inV x xs else inV x xs)) H)
def jCA:OpR X (compareOp .In) (rIn X.K false):=by
 intro lw s σ H x y v u Q I rx ry h;obtain⟨p,xs,rfl,hq,fx,fs,q⟩:=h;cases ry;rcases hq with hq|hq
 .obtain⟨its,r,pl,hz⟩:=I.list hq;refine SeqAt.in_listAt (eqU x) pl.isList (λw hw=>jCB rx fx r fs w (by simpa using hw)) ⟨.bl _,H,I,rfl,?_⟩;rw[show its.toArray.any (eqU x)=its.any (eqU x) by simp,jEN r fs];exact q
 .obtain⟨its,r,pl,hz⟩:=I.tuple hq;refine SeqAt.in_tupleAt (eqU x) pl (λw hw=>jCB rx fx r fs w (by simpa using hw)) ⟨.bl _,H,I,rfl,?_⟩;rw[show its.toArray.any (eqU x)=its.any (eqU x) by simp,jEN r fs];exact q
def jH6:OpR X (compareOp .NotIn) (rIn X.K true):=by
 intro lw s σ H x y v u Q I rx ry h;obtain⟨p,xs,rfl,hq,fx,fs,q⟩:=h;cases ry;rcases hq with hq|hq
 .obtain⟨its,r,pl,hz⟩:=I.list hq;refine SeqAt.notIn_listAt (eqU x) pl.isList (λw hw=>jCB rx fx r fs w (by simpa using hw)) ⟨.bl _,H,I,rfl,?_⟩;rw[show its.toArray.any (eqU x)=its.any (eqU x) by simp,jEN r fs];exact q
 .obtain⟨its,r,pl,hz⟩:=I.tuple hq;refine SeqAt.notIn_tupleAt (eqU x) pl (λw hw=>jCB rx fx r fs w (by simpa using hw)) ⟨.bl _,H,I,rfl,?_⟩;rw[show its.toArray.any (eqU x)=its.any (eqU x) by simp,jEN r fs];exact q
inductive LenR(K:W.Frag)(xs:List V)(H:Hp)(Q:VK):Prop|i(p ys:_)(_:xs=[.ref p])(_:SqL K H p ys\/SqT K H p ys)(_:Q (.int ys.length) H)
theorem jH:qA X (.builtin "len") (LenR X.K):=by
 intro lw s σ H xs us Q I r h;obtain⟨p,ys,rfl,hq,q⟩:=h;obtain⟨u,rfl,rx⟩:=vals1 r;cases rx;have hn:=jHF;rcases hq with hq|hq
 .obtain⟨its,r',pl,hz⟩:=I.list hq;have hlen:=r'.length;exact Calls.call_len_list pl.isList (by simp only[aK]<;>lia) ⟨.int ys.length,H,I.tok _,⟨s.toks+1,by rw[aK,hlen]⟩,q⟩
 .obtain⟨its,r',pl,hz⟩:=I.tuple hq;have hlen:=r'.length;exact len_tuple pl (by simp only[aK]<;>lia) ⟨.int ys.length,H,I.tok _,⟨s.toks+1,by rw[aK,hlen]⟩,q⟩
theorem kL:qA X (.type "tuple") (λxs H Q=>∃p ys,xs=[.ref p]/\((SqL X.K H p ys/\∀l,H l=none->Q (.ref l) (upd H l (.tup ys)))\/(SqT X.K H p ys/\Q (.ref p) H))):=by
 intro lw s σ H xs us Q I r h;obtain⟨p,ys,rfl,h⟩:=h;obtain⟨u,rfl,rx⟩:=vals1 r;cases rx;rcases h with ⟨hq,q⟩|⟨hq,q⟩
 .obtain⟨its,r',pl,hz⟩:=I.list hq;have hlen:=r'.length;refine call_tuple_list pl.isList (λh' kp=>?_) (by simp only[aK]<;>lia);have I1:Inv X lw σ H {s with heap:=h'}:=I.kept (t':=s.toks) kp;have I2:Inv X lw σ (upd H h'.objs.size (.tup ys)) {s with heap:=h'.push {cls:=.type "tuple",data:=.seq its.toArray}}:=
   I1.laid (t':=s.toks) (λb o e=>ae _ e) (ar _) (show ObjOk X.prog X.w _ _ _ (.tup ys) from ⟨hz,its,r',TupO.new _ _⟩)
  exact⟨.ref h'.objs.size,_,I2,rfl,q _ (I1.hok.fresh (ar _))⟩
 .obtain⟨its,r',pl,hz⟩:=I.tuple hq;exact call_tuple_same pl ⟨.ref p,H,I,rfl,q⟩
def tyV(K:W.Frag)(T:String)(x:V)(H:Hp):Prop:=match x with
 | .str _=>T= "str"
 | .int _=>T= "int"
 | .ref p=>(T= "list" /\∃xs,SqL K H p xs)\/(T= "tuple" /\∃o,K.lookup p=some o/\o.cls=.type "tuple" /\o.dict=none)\/
   (T= "dict" /\((∃kvs,H p=some (.dK kvs))\/∃kvs,H p=some (.dT kvs)))\/(T= "set" /\∃S n,H p=some (.set S n))
 |_=>False
def jRV{lw:Ai}{σ:St}{H:Hp}{T:String}(I:Inv X lw σ H s)(r:RelV x v)(ty:tyV X.K T x H):
  s.TypeIs v T/\∀a,v=.ref a->∃ob,s.heap.get? a=some ob/\ob.dict=none:=by
 cases x with
 |str z=>
  obtain⟨t,rfl⟩:=r;cases (show T= "str" from ty);exact⟨typeIs_str s z t,λ_ e=>nomatch e⟩
 |int i=>
  obtain⟨t,rfl⟩:=r;cases (show T= "int" from ty);exact⟨typeIs_int s i t,λ_ e=>nomatch e⟩
 |ref p=>
  cases r;rcases ty with ⟨rfl,xs,hq⟩|⟨rfl,o,hk,hc,hd⟩|⟨rfl,hk⟩|⟨rfl,S,n,hk⟩
  .obtain⟨its,_,pl,_⟩:=I.list hq;refine⟨pl.isList.typeIs,λa e=>?_⟩;cases e;obtain⟨o,n,e,c,hd,_⟩:=pl;exact⟨o,e,hd⟩
  .refine⟨⟨o,I.kIn p o hk,hc⟩,λa e=>?_⟩;cases e;exact⟨o,I.kIn _ o hk,hd⟩
  .have z:∃o,s.heap.get? p=some o/\o.ExactDict:=by
    rcases hk with ⟨kvs,hk⟩|⟨kvs,hk⟩
    .obtain⟨_,_,_,_,o,_,_,e,ex,_⟩:=I.hok p _ hk;exact⟨o,e,ex⟩
    .obtain⟨_,_,_,_,o,_,_,e,ex,_⟩:=I.hok p _ hk;exact⟨o,e,ex⟩
   obtain⟨o,e,ex⟩:=z;refine⟨⟨o,e,ex.1⟩,λa e2=>?_⟩;cases e2;exact⟨o,e,ex.2.1⟩
  .obtain⟨o,_,_,_,e,ex,_⟩:=I.hok p _ hk;refine⟨⟨o,e,ex.1⟩,λa e2=>?_⟩;cases e2;exact⟨o,e,ex.2.1⟩
 |_=>exact False.elim ty
def tBM0(K:W.Frag)(T:String)(r:V->List V->Hp->VK->Prop)(to:TE):TE:=λσ H Q=>to σ H λx H1=>tyV K T x H1/\r x [] H1 Q
def tBM(K:W.Frag)(T:String)(r:V->List V->Hp->VK->Prop)(to:TE)(t:TA):TE:=λσ H Q=>to σ H λx H1=>tyV K T x H1/\t σ H1 λxs H2=>r x xs H2 Q
variable {o:Expr}{es:List Expr}{to:TE}{t:TA}{name:Str}{apos cpos:Pos}{T id:String}{r:V->List V->Hp->VK->Prop}
def jWI(pa:PlainAttrs T)(slot:Slot T name id)(hty:typeOf (.builtin id)=pure (.type "method_descriptor"))(hm:MtR X id r)(ho:PE X o to)
  (hbase:attributeBase o name X.env (eval o X.env)=eval o X.env:=by rfl) (hline:(apos.endLine==cpos.line)=true:=by rfl):PE X (.Call (.Attribute o name apos) [] [] cpos) (tBM0 X.K T r to):=by
 intro lw s σ H Q I h;refine wpAny_Call_method0_late hbase hline (lz (ho lw s σ H _ I h) λv s1 ⟨x,H1,I1,r1,ty,q1⟩=>?_);obtain⟨h1,h2⟩:=jRV I1 r1 ty;exact⟨T,id,pa,slot,hty,h1,h2,Calls.callWith_builtin rfl (PySem.evalArgs_none (hm lw s1 σ H1 x [] v [] Q I1 r1 .nil q1))⟩
theorem pe_bm(pa:PlainAttrs T)(slot:Slot T name id)(hty:typeOf (.builtin id)=pure (.type "method_descriptor"))(hm:MtR X id r)(ho:PE X o to)(ha:PA X (e::es) t)
  (hbase:attributeBase o name X.env (eval o X.env)=eval o X.env:=by rfl)
  (hfew:((backTo cpos (starEach (e::es) X.env)).all (λx=>!x.1)&&(backToKw cpos (keywordEach [] X.env)).all (λx=>x.1.isSome)
   &&decide ((e::es).length+([]:List Keyword).length+(if ([]:List Keyword).isEmpty then 0 else 1)<30))=true:=by rfl)
  (hline:(apos.endLine==cpos.line)=true:=by rfl) (hs:starEach (e::es) X.env=(false,eval e X.env)::starEach es X.env:=by rfl) (hplain:(backTo cpos (starEach es X.env)).any (·.1)=false:=by rfl):
  PE X (.Call (.Attribute o name apos) (e::es) [] cpos) (tBM X.K T r to t):=by
 intro lw s σ H Q I h;refine wpAny_Call_method_late hbase hfew hline rfl (lz (ho lw s σ H _ I h) λv s1 ⟨x,H1,I1,r1,ty,q1⟩=>?_);obtain⟨h1,h2⟩:=jRV I1 r1 ty;refine⟨T,id,pa,slot,hty,h1,h2,?_⟩;have hA:=ha cpos lw s1 σ H1 _ I1 q1;rw[hs] at hA ⊢;refine Calls.callWith_builtin (by show (false || (backTo cpos (starEach es X.env)).any (·.1))=false;rw[hplain]<;>rfl) (eL ?_);exact lz hA λus s2 ⟨vs,H2,I2,r2,q2⟩=>hm lw s2 σ H2 x vs v us Q I2 r1 r2 q2
/- xs.append(e),list.index on a module's tuple .. are MtR facts of 06m -/
end
def MtM(X:Cx)(id:String)(r:V->List V->Hp->VK->Prop):Prop:=
 ∀(lw:Ai) (s:Shared) (σ:St) (H:Hp) (x:V) (xs:List V) (v:Value) (us:Al) (Q:VK),Inv X lw σ H s->RelV x v->Vals xs us->r x xs H Q->
  wpAny (model X.prog X.w) X.A (call (.builtin id) (v::us)) (EP X lw σ Q) X.xe s
def Vals.one:∀{x:V}{us:Al},Vals [x] us->∃u,us=[u]/\RelV x u
 |_,_,.cons r .nil=>⟨_,rfl,r⟩
def Vals.two:∀{x y:V}{us:Al},Vals [x,y] us->∃u v,us=[u,v]/\RelV x u/\RelV y v
 |_,_,_,.cons r (.cons q .nil)=>⟨_,_,rfl,r,q⟩
def Vals.zero:∀{us:Al},Vals [] us->us=[]
 |_,.nil=>rfl
def Vals.dropLast{us:Al}(h:Vals xs us):Vals xs.dropLast us.dropLast:=by
 induction h with
 |nil=>exact .nil
 |cons r t ih=>
  cases t with
  |nil=>exact .nil
  |cons q t'=>exact .cons r ih
theorem jLS(l:List α):l.eraseIdx (l.length-1)=l.dropLast:=by
 induction l with
 |nil=>rfl
 |cons a r ih=>
  cases r with
  |nil=>rfl
  |cons b r=>
   have e:(a::b::r).length-1=((b::r).length-1)+1:=by
    have h1:(a::b::r).length=r.length+2:=rfl;have h2:(b::r).length=r.length+1:=rfl;lia
   rw[e,List.eraseIdx_cons_succ,ih]
   all_goals rfl
variable {s:Shared}
section
variable {lw:Ai}{σ:St}{H:Hp}{l b:Addr}{xs ys zs:List V}
def Inv.lset{its its':Al}{n:Nat}{f:An->An}{t':Nat}(I:Inv X lw σ H s)(hH:H l=some (.lst xs))
  (e:s.heap.get? l=some {cls:=.type "list",data:=.seq its.toArray n}) (hf:f its.toArray=its'.toArray) (hv:Vals ys its') (hz:ys.length<=sizeLine):
  Inv X lw σ (upd H l (.lst ys)) {s with heap:=s.heap.update l (Obj.mapSeq f),toks:=t'}:=by
 have q:=PySem.IsL.update e f;rw[hf] at q;refine I.write (x:=l) (e:=l) (by rw[hH];exact trivial) (.inl rfl) (λb' u hb hu=>(bu s.heap (Obj.mapSeq f) (ce hb)).trans hu) ⟨_,q⟩ ?_;exact⟨hz,its',_,hv,q⟩
def Inv.lnew{its:Al}{t':Nat}(I:Inv X lw σ H s)(hv:Vals ys its)(hz:ys.length<=sizeLine):
  Inv X lw σ (upd H s.heap.objs.size (.lst ys)) {s with heap:=s.heap.push {cls:=.type "list",data:=.seq its.toArray},toks:=t'}:=
 I.laid (λ_ _ q=>ae _ q) (ar _) ⟨hz,its,0,hv,ao _ rfl⟩
def Inv.fresh(I:Inv X lw σ H s):H s.heap.objs.size=none:=I.hok.fresh (ar _)
def Inv.lstM(I:Inv X lw σ H s)(hH:H l=some (.lst xs)):xs.length<=sizeLine/\∃(its:Al) (n:Nat),Vals xs its/\xs.length=its.length/\s.heap.get? l=some {cls:=.type "list",data:=.seq its.toArray n}:=by
 obtain⟨z,its,n,r,e⟩:=I.hok l _ hH;exact⟨z,its,n,r,r.length,e⟩
end
inductive jT4(x:V)(vs:List V)(H:Hp)(Q:VK):Prop|i(l xs y:_)(_:x=.ref l)(_:vs=[y])(_:H l=some (.lst xs))(_:xs.length<sizeLine)(_:Q .non (upd H l (.lst (xs++[y]))))
theorem jB1:MtM X "list.append" jT4:=by
 intro lw s σ H x vs v us Q I rx rv h;obtain⟨l,xs,y,rfl,rfl,hH,hz,q⟩:=h;cases rx;obtain⟨u,rfl,ru⟩:=rv.one;obtain⟨z,its,n,r,hl,e⟩:=I.lstM hH;refine kq F.slot_list_append ⟨_,e,rfl⟩ F.entry_list_append (F.args_list_append_2 _ _) (PySem.list_append l its.toArray n u (by rw[aK];lia)) ⟨e,?_⟩;refine⟨.non,_,I.lset (its':=its++[u]) hH e Ad (r.append (.cons ru .nil)) ?_,rfl,q⟩;rw[ak,gd];lia
inductive rPop(x:V)(vs:List V)(H:Hp)(Q:VK):Prop|i(l xs y:_)(_:x=.ref l)(_:vs=[])(_:H l=some (.lst xs))(_:xs[xs.length-1]?=some y)(_:Q y (upd H l (.lst xs.dropLast)))
theorem jSD:MtM X "list.pop" rPop:=by
 intro lw s σ H x vs v us Q I rx rv h;obtain⟨l,xs,y,rfl,rfl,hH,hy,q⟩:=h;cases rx;have hus:=rv.zero;subst hus;obtain⟨z,its,n,r,hl,e⟩:=I.lstM hH;obtain⟨u,hu,ru⟩:=r.get hy;have hy':its.toArray[its.toArray.size-1]?=some u:=by
  show its.toArray[its.length-1]?=some u;rw[<- bH,<- hl];exact hu
 refine kq F.slot_list_pop ⟨_,e,rfl⟩ F.entry_list_pop (F.args_list_pop_1 _) (MeetsSeq.list_pop_last l its.toArray n u hy' (by rw[aK];lia)) ⟨e,?_⟩;refine⟨y,_,I.lset (its':=its.dropLast) hH e ?_ r.dropLast ?_,ru,q⟩
 .show its.toArray.eraseIdxIfInBounds (its.toArray.size-1)=its.dropLast.toArray;rw[aK,List.eraseIdxIfInBounds_toArray,jLS]
 .rw[List.length_dropLast];lia
section
variable {prog:Program}{w:World}{A:Around}{E:Ah}
set_option maxRecDepth 100000 in
end
end L2
namespace Att
open PySem PySem.W PySem.Calls PyProof.Rows
variable {l:OpenLaw}{P:Params}{h:Heap}{n:Nat}
def jEG:∀(ns:Ag) (vs:Al),WellAll P h vs (ns.map WData.int)->IntsAre vs ns:=by
 intro ns
 induction ns with
 |nil=>
  intro vs w;rw[fJ] at w;cases w;exact .nil
 |cons n ns ih=>
  intro vs w;rw[aW] at w;cases w with
  |cons a b=>
   cases a;exact .cons _ _ (ih _ b)
theorem jMV(hn:l.most=some n){args:List WData}{vals:Al}
  (hpre:l.row.toRowW.claim.pre args=true) (hwl:WellAll P h vals args):
  ∃a vs ns,vals=[Value.ref a]/\args=[WData.list (ns.map WData.int)]/\h.get? a=some {cls:=.type "list",data:=.seq vs.toArray} /\IntsAre vs ns/\ns.length<=n:=by
 have hsh:WShape.hasAll [] args [.list .int]=true:=(pre_splitW hpre).1;have hc:l.pre.holds [] {args:=args} =true:=(pre_splitW hpre).2;obtain⟨d,r,rfl,h1,h2⟩:=hasAllW_cons hsh;obtain rfl:=hasAllW_nil h2;obtain⟨xs,rfl,h3⟩:=hasW_list h1;obtain⟨ns,rfl⟩:=items_int h3;have hlen:ns.length<=n:=by
  unfold OpenLaw.pre at hc;have h4:(WTm.not (.lt (.lit (.int (n:Int))) (.len (.arg 0)))).holds [] {args:=[.list (ns.map .int)]} =true:=by
   have h4:=(holds_andW hc).1;rw[hn] at h4;exact h4
  have h5:=condW_of h4 (w_not (w_lt w_lit (w_len_list (w_arg rfl))));rw[af] at h5;refine Nat.le_of_not_lt λq=>?_;have q':(n:Int)<((ns.length:Nat):Int):=Aa
  first
   | (rw[ay q'] at h5;exact absurd h5 Ac)
   | (simp at h5;lia)
 cases hwl with
 |cons w1 w2=>
  cases w2;cases w1 with
  |list ho hall=>exact⟨_,_,ns,rfl,rfl,ho,jEG ns _ hall,hlen⟩
theorem jN3(l:OpenLaw)(args:List WData):l.row.toRowW.claim.post args (.bool true) args=true:=
 postW_of (r:=l.row.toRowW) (X:=(true==true))
  (show WShape.has [] (.bool true) .bool=true by first|rfl|decide|simp[WShape.has,WShape.arms,WShape.armsAll])
  (show (WTm.eq .res (.lit (.bool true))).value [] {args:=args,res:=some (.bool true),after:=args} =some (.bool (true==true)) from w_eq_bool (w_res rfl) w_lit) rfl
def attach_call{q:Program}{loose:Am}{XP:(Ak)->Heap->Prop}{YP:World->Heap->Prop}{d:DefRec}
  (hn:l.most=some n) (hdf:d.params.defaults=[])
  (call:∀(w:World) (s₀ s₁:Shared) (mg mb:Ak) (fa:Addr) (o:Obj) (pm cd doc:Value) (a:Addr) (vs:Al) (ns:Ag),
   Ground q loose [] XP w s₀ mg mb s₁.heap->YP w s₁.heap->
   s₁.heap.get? fa=some o->o.data=.func (docDef d.name d.params d.body d.scope pm cd doc)->s₁.heap.CodeRec cd d.name->mg d.name=some (.ref fa)->
   s₁.heap.get? a=some {cls:=.type "list",data:=.seq vs.toArray} ->IntsAre vs ns->ns.length<=n->s₁.gens=#[]->
   codeAny (model l.prog w) callerA (.call (.ref fa) ⟨[.ref a],[]⟩) (λr s'=>r=.ok (.ret (.bool true))/\OldK s₁.heap s'.heap/\s'.os=s₁.os/\AllBare s'.gens) s₁):
  WalkO q loose XP YP l.row.toRowW d [] (λf vs=>PySem.call f vs):=by
 intro w s₀ s₁ mg mb G Y fa o pm cd doc dV kV ho hd hcd hD hmg hg args vals as hpre hlay hrd hwl hlo;obtain rfl:dV=.none:=Dflts.none hD hdf;obtain rfl:kV=.none:=Dflts.noKw hD;obtain⟨a,vs,ns,rfl,rfl,hobj,hints,hlen⟩:=jMV hn hpre hwl;refine enter_call (cW (call w s₀ s₁ mg mb fa o pm cd doc a vs ns G Y ho (fd_plain hd) hcd hmg hobj hints hlen hg) λr s' hq=>?_);obtain⟨rfl,h2,h3,h4⟩:=hq;exact⟨.inl ⟨.bool true,.bool true,[],rfl,λ_=>rfl,.bool true,jN3 l _,λ_=>⟨List.Pairwise.nil,λ_ hm=>(nomatch hm)⟩⟩,h2,h3,h4⟩
section
variable {prog:Program}{w:World}{A:Around}{E:Ah}{s:Shared}{K:Frag}
end
end Att
namespace L2
open PySem PySem.Spec PyProof.Rows
def jGK:∀{vs:Al}{ns:Ag},IntsAre vs ns->Vals (ns.map V.int) vs
 |_,_,.nil=> .nil
 |_,_,.cons n t h=> .cons ⟨t,rfl⟩ (jGK h)
end L2
/- THE LAST THEOREM (shape;LID,My.* are yours):
  My.Adr:a structure of the addresses that your layer names (classes,functions);My.Txt K t:a structure (Prop) of the equations over K;
  My.txt_mk: {K} {implicit addresses ..} (e1:nsIn K mainGlobals "law" =some (some (.ref f))) (e2:K.lookup f=some ⟨oc,od,.func (fnOf "law" "law" params body scope dV kV doc pm an cdv ct),sl⟩) (e3:codeIn K cdv "law" =true) .. :∃t,My.Txt K t
set_option maxRecDepth 100000 in
set_option maxHeartbeats 0 in
theorem PySem.Challenge.cw_LID_holds : PySem.Challenge.rw_LID.Holds := by
 w_on;o_law;k_head;(case hw=>w_witness2)
 k_fill
 refine L2.walk_of (l:=PySem.Challenge.rw_LID) (n:=63) (k:=40) (x:= "script") (CX:=λw=> ..) (sp:=λ_=>My.sp_law) rfl Ac rfl ⟨rfl,Ac,Ac⟩ (λw h Y=>PySem.W.kIn_of Y) ?F ?S ?C
 case F=>
  intro w mg fa h KX G hmg;have T:∃t,My.Txt (L2.KOf KX) t:=by
   dsimp only[L2.KOf] -- K must stand as «<heap const>w.params» for k_is
   refine' My.txt_mk ?e1 ?e2 ?e3 ..
   (case e1=>PySem.W.k_is) -- in the order:a name->its address->its object->its parts
   (case e2=>PySem.W.k_is)
   ..
  obtain⟨t,T⟩:=T;have e0:=hmg.symm.trans (gz KX G T.law);cases e0 -- fa is the law's own address;exact⟨_,λs u=> .of_eq rfl,λAq kb nb=>My.law_fn T kb nb⟩ -- if «.of_eq rfl» comes too early:refine' ⟨_,?b,λAq kb nb=>My.law_fn T kb nb⟩;exact λs u=> .of_eq rfl
 case S=>exact λw H a ns hl hO hS=> ..
 case C=>exact ..
(the tactic k_is has no namespace:write k_is) -/
namespace L2
open PySem PySem.Spec PyProof.Rows
variable {x:Str}{B A:Prop}{fd:FuncData}{env:Env}{sc:Scope}{f C:Addr}{h2 h1:Heap}
abbrev CX0:CXT:=λ_ _ _ _ _ _=>False
abbrev E0:XK:=λ_ _ _=>False
def pass0{X:Cx}:jEP CX0 X E0:=λ_ _ _ _ _ _ _ h=>h.elim
structure Fun (K:W.Frag)(x qual:Str)(st:Stmt)(f:Addr)(fd:FuncData):Prop where
 ex:∃(oc:Value) (od:Option Addr) (kV doc pm:Value) (an:Option Addr) (cdv ct:Value) (osl:Array (Ao)),
  fd=PySem.W.fnOf x qual (jU st) (jB st) (j6 st) .none kV doc pm an cdv ct/\K.lookup f=some ⟨oc,od,.func fd,osl⟩/\PySem.W.codeIn K cdv qual=true
 kp:keepIn K (.ref f)=true
variable {w:World}
section
variable {P:Program}{K:W.Frag}{mg:Ak}{Aq:Heap}
def Fun.ok{qual:Str}{st:Stmt}{N ps:Am}{k:Nat}{sp:Sp}(F:Fun K x qual st f fd)(S:FnScope N ps (j6 st))(len:∀vs H Q E,sp vs H Q E->vs.length=ps.length)
  (hbody:∀(cdv:Value) (A:Around) (Ap:List Env) (s:Shared) (H:Hp) (vs:List V) (Q:VK) (E:XK),Room k (A.deeper (envOfC qual (j6 st) s.heap.objs.size f cdv))->sp vs H Q E->
   ∃t,PSs (cxOf CX0 P w K mg Aq N qual (j6 st) f cdv A Ap s H E).nox (jB st) t/\t {nx:=λ_ H'=>Q .non H',rt:=Q} (yH N vs) H):FnOk P w K mg Aq CX0 (k+1) f fd ps sp:=by
 obtain⟨oc,od,kV,doc,pm,an,cdv,ct,osl,rfl,lk,hcd⟩:=F.ex;refine fn_of lk hcd S len λA Ap s H vs Q E hr hsp=>?_;obtain⟨t,h,q⟩:=hbody cdv A Ap s H vs Q E hr hsp;exact⟨t,h.nox,q⟩
def Fun.binds{qual:Str}{st:Stmt}{ps:Am}(F:Fun K x qual st f fd)
  (h:∀(kV doc pm:Value) (an:Option Addr) (cdv ct:Value) (us:Al),us.length=ps.length->bindArgs (PySem.W.fnOf x qual (jU st) (jB st) (j6 st) .none kV doc pm an cdv ct) ⟨us,[]⟩=pure (ps.zip us)):Binds K fd ps []:=by
 obtain⟨oc,od,kV,doc,pm,an,cdv,ct,osl,rfl,lk,hcd⟩:=F.ex;exact .all (h kV doc pm an cdv ct)
def jN{x qual:Str}{st:Stmt}{f:Addr}{oc:Value}{od an:Option Addr}{osl:Array (Ao)}{kV doc pm cdv ct:Value}(l:K.lookup f=some ⟨oc,od,.func (PySem.W.fnOf x qual (jU st) (jB st) (j6 st) .none kV doc pm an cdv ct),osl⟩)
  (c:PySem.W.codeIn K cdv qual=true) (k:keepIn K (.ref f)=true):Fun K x qual st f (PySem.W.fnOf x qual (jU st) (jB st) (j6 st) .none kV doc pm an cdv ct):=⟨⟨oc,od,kV,doc,pm,an,cdv,ct,osl,rfl,l,c⟩,k⟩
end
theorem hu_of{A:Around}{k:Nat}(hr:Room k A):A.units+1<cLine:=ku (Nat.add_le_add_left (by decide:1<=64) _) hr.units
variable {X:Cx}
theorem pv(i:Nat){pos:Pos}(hN:X.N[i]?=some x:=by rfl)(hv:Vis X.env.scope x:=by first|exact Or.inl rfl|exact Or.inr (Or.inl rfl)|exact Or.inr (Or.inr rfl))(hd:(x==("__debug__":Str))=false:=by decide)
  (hcd:(x==("__classdict__":Str))=false:=by decide):PE X (.Name x pos) (tVar i):=jH4 hN hv hd hcd
def iteF(h:B):if false=true then A else B:=by
 rw[aq am];exact h
def iteT(h:A):if true=true then A else B:=by
 rw[ax rfl];exact h
def ite2{c:Prop} [Decidable c](h1:c->A)(h2:¬c->B):if c then A else B:=by
 by_cases h:c
 .rw[ax h];exact h1 h
 .rw[aq h];exact h2 h
def jV(cells:Aj):List (Str×NameKind)->Aj->Aj
 |[],acc=>acc
 | (n,k)::r,acc=>if k=.free then jV cells r ((n,(cells.lookup n).getD 0)::acc) else jV cells r acc
def jD2:∀(l:List (Str×NameKind)) (acc:Aj),(∀y∈l,y.2=.free->∃c,env.cells.lookup y.1=some c)->
  (forIn l acc λ(x:Str×NameKind) (cs:Aj)=>(if (x.2==NameKind.free)=true then (do let a <- cellOf env x.1;pure (ForInStep.yield ((x.1,a)::cs))) else pure (ForInStep.yield cs):Sem (ForInStep (Aj))))=pure (jV env.cells l acc)
 |[],acc,_=>rfl
 | (n,k)::r,acc,h=>by
  have hr:∀y∈r,y.2=.free->∃c,env.cells.lookup y.1=some c:=λy hy=>h y (ag _ hy);rw[gI];by_cases hk:k=.free
  .subst hk;obtain⟨c,hc⟩:=h (n,.free) ai rfl;have e:cellOf env n=pure c:=by unfold cellOf;rw[hc]
   have e2:jV env.cells ((n,NameKind.free)::r) acc=jV env.cells r ((n,c)::acc):=by
    show (if NameKind.free=NameKind.free then jV env.cells r ((n,(env.cells.lookup n).getD 0)::acc) else _)=_;rw[ax rfl,hc];rfl
   rw[e2,<- jD2 r ((n,c)::acc) hr];show ((do let a <- cellOf env n;pure (ForInStep.yield ((n,a)::acc))) >>= _)=_;rw[e];rfl
  .have hb:(k==NameKind.free)=false:=by cases k<;>first|rfl|exact absurd rfl hk
   have e2:jV env.cells ((n,k)::r) acc=jV env.cells r acc:=by
    show (if k=NameKind.free then _ else jV env.cells r acc)=_;rw[aq hk]
   rw[e2,<- jD2 r acc hr];show ((if (k==NameKind.free)=true then _ else pure (ForInStep.yield acc)) >>= _)=_;rw[hb];rfl
def jJG(h:∀y∈sc.names,y.2=.free->∃c,env.cells.lookup y.1=some c):closureFor sc env=pure (jV env.cells sc.names []):=by
 unfold closureFor;show (forIn sc.names [] _ >>= λcs=>pure cs)=_;rw[show (forIn sc.names ([]:Aj) _:Sem _)=_ from jD2 sc.names [] h];rfl
def jA7{cells:Aj}:∀(l:List (Str×NameKind)) (acc:Aj),(∀y∈l,y.2=.free->∃c,cells.lookup y.1=some c)->
  (∀x c,acc.lookup x=some c->cells.lookup x=some c)->∀x c,(jV cells l acc).lookup x=some c->cells.lookup x=some c
 |[],acc,_,ha=>ha
 | (n,k)::r,acc,h,ha=>by
  have hr:∀y∈r,y.2=.free->∃c,cells.lookup y.1=some c:=λy hy=>h y (ag _ hy);unfold jV;by_cases hk:k=.free
  .rw[ax hk];obtain⟨c0,hc⟩:=h (n,k) ai hk;refine jA7 r _ hr λx c e=>?_;rw[bz] at e;cases hx:x==n with
   |true=>
    rw[hx] at e;have exn:x=n:=eq_of_beq hx;subst exn;have hc':cells.lookup x=some c0:=hc;rw[hc'] at e ⊢;exact e
   |false=>rw[hx] at e;exact ha x c e
  .rw[aq hk];exact jA7 r acc hr ha
def jAN{cells:Aj}{x:Str}:∀(l:List (Str×NameKind)) (acc:Aj),((x,NameKind.free)∈l\/∃c,acc.lookup x=some c)->∃c,(jV cells l acc).lookup x=some c
 |[],acc,h=>by
  rcases h with h|h
  .cases h
  .exact h
 | (n,k)::r,acc,h=>by
  unfold jV;by_cases hk:k=.free
  .rw[ax hk];refine jAN r _ ?_;by_cases e:x=n
   .subst e;exact .inr ⟨_,by rw[bz,beq_self_eq_true]⟩
   .rcases h with h|⟨c,h⟩
    .rcases aA.mp h with q|q
     .cases q;exact absurd rfl e
     .exact .inl q
    .refine .inr ⟨c,?_⟩;rw[bz,bL.mpr e];exact h
  .rw[aq hk];refine jAN r _ ?_;rcases h with h|h
   .rcases aA.mp h with q|q
    .cases q;exact absurd rfl hk
    .exact .inl q
   .exact .inr h
def jAL{k:NameKind}:∀{l:List (Str×NameKind)},l.lookup x=some k->(x,k)∈l
 |[],h=>by cases h
 | (n,k')::r,h=>by
  rw[bz] at h;cases hx:x==n with
  |true=>rw[hx] at h;cases h;rw[eq_of_beq hx];exact ai
  |false=>rw[hx] at h;exact ag _ (jAL h)
def jCR{env:Env}{x:Str}{k:NameKind}(hk:k=.cell\/k=.free):∀{l:List (Str×NameKind)},(∀y∈l,y.2≠.cell)->
  (l.map λ(n,k)=>if (k==NameKind.free&&env.scope.kind==.function&&env.kindOf n==some .cell) then (n,NameKind.cell) else (n,k)).lookup x=some k->l.lookup x=some .free
 |[],_,h=>by simp at h
 | (n,k')::r,hc,h=>by
  have ih:= @jCR env x k hk r (λy hy=>hc y (ag _ hy));have hc0:k'≠.cell:=hc (n,k') ai;rw[bz];rw[aW] at h;dsimp only at h;by_cases hb:(k'==NameKind.free&&env.scope.kind==.function&&env.kindOf n==some .cell)=true
  .rw[ax hb,bz] at h;cases hx:x==n with
   |true=>
    have:k'=.free:=by
     simp only[bC] at hb;exact eq_of_beq hb.1.1
    rw[this]
   |false=>rw[hx] at h;exact ih h
  .rw[aq hb,bz] at h;cases hx:x==n with
   |true=>
    rw[hx] at h;have e:k'=k:=bo h;rcases hk with q|q
    .exact absurd (e.trans q) hc0
    .rw[e,q]
   |false=>rw[hx] at h;exact ih h
def jCY{env:Env}{x:Str}:∀{l:List (Str×NameKind)},l.lookup x=some .free->
  (l.map λ(n,k)=>if (k==NameKind.free&&env.scope.kind==.function&&env.kindOf n==some .cell) then (n,NameKind.cell) else (n,k)).lookup x=some .cell\/
  (l.map λ(n,k)=>if (k==NameKind.free&&env.scope.kind==.function&&env.kindOf n==some .cell) then (n,NameKind.cell) else (n,k)).lookup x=some .free
 |[],h=>by cases h
 | (n,k')::r,h=>by
  have ih:= @jCY env x r;rw[bz] at h;rw[aW];dsimp only;by_cases hb:(k'==NameKind.free&&env.scope.kind==.function&&env.kindOf n==some .cell)=true
  .rw[ax hb,bz];cases hx:x==n with
   |true=>exact .inl rfl
   |false=>rw[hx] at h;exact ih h
  .rw[aq hb,bz];cases hx:x==n with
   |true=>rw[hx] at h;exact .inr h
   |false=>rw[hx] at h;exact ih h
section
variable {prog:Program}{A:Around}{R:Result->Shared->Prop}{s:Shared}
abbrev jM9(ifs:List Expr)(env:Env):Sem Bool:=forIn ifs true λc r=>if r=true then do let ok <- isTrue c env (eval c env);pure (ForInStep.yield ok) else pure (ForInStep.yield r)
def jLT{elt tg iter:Expr}{ifs:List Expr}{pos:Pos}{it acc:Value}(J:Nat->Shared->Prop)
  (turn:∀n z,J n z->wpAny (model prog w) A (pyNext it) (λr z1=>match r with
   |none=>R (.ok .next) z1
   |some v=>wpAny (model prog w) A (letOwnedTupleGo tg it v) (λ_ z2=>wpAny (model prog w) A (assign tg env v) (λ_ z3=>wpAny (model prog w) A (jM9 ifs env) (λok z4=>
     if ok=true then wpAny (model prog w) A (eval elt env) (λx z5=>wpAny (model prog w) A (call (.builtin "list.append") [acc,x]) (λ_ z6=>∃k,k<n/\J k z6) (λ_ _=>False) z5) (λ_ _=>False) z4
     else ∃k,k<n/\J k z4) (λ_ _=>False) z3) (λ_ _=>False) z2) (λ_ _=>False) z1) (λ_ _=>False) z)
  (n:Nat) (h:J n s):codeAny (model prog w) A (.compLoop (.ListComp elt [⟨tg,iter,ifs,0⟩] sc pos) 0 it acc env) R s:=by
 refine codeAny_loop rfl J (λk z hJ=>?_) n h;have noE:∀{α:Type}{t:Sem α}{Q:α->Shared->Prop}{E:Ah}{z:Shared},wpAny (model prog w) A t Q (λ_ _=>False) z->wpAny (model prog w) A t Q E z:=
  λq=>cb q (λ_ _ a=>a) λ_ _ f=>f.elim
 show wpAny _ A ((compTurn (.ListComp elt [⟨tg,iter,ifs,0⟩] sc pos) 0 it acc env).onRaise (λx=>do noteFrame x env;theTreesLotGoes x)) _ _ z;refine wpAny_noted ?_;rw[compTurn_list];refine ab (eB (ab (cb (turn k z hJ) (λr z1 q1=>?_) λ_ _ f=>f.elim)));cases r with
 |none=>exact ah q1
 |some v=>
  refine ab (cb q1 (λ_ z2 q2=>?_) λ_ _ f=>f.elim);refine ab (cb q2 (λ_ z3 q3=>?_) λ_ _ f=>f.elim);refine ab (cb q3 (λok z4 q4=>?_) λ_ _ f=>f.elim);cases ok with
  |false=>exact ah ⟨rfl,q4⟩
  |true=>
   refine ab (ab (cb q4 (λx z5 q5=>?_) λ_ _ f=>f.elim));exact ab (cb q5 (λ_ z6 q6=>ah (ah ⟨rfl,q6⟩)) λ_ _ f=>f.elim)
end
noncomputable def blk(X:Cx)(sc:Scope)(cl:Aj)(C:Addr)(Nc:Am)(fp:List Addr)(s:Shared)(H:Hp):Cx where
 prog:=X.prog
 w:=X.w
 K:=X.K
 mg:=X.mg
 Aq:=X.Aq
 A:=X.A
 N:=Nc
 s₀:=s
 H₀:=H
 env:=compEnvC sc cl C X.env
 Ap:=X.stack
 stack:=X.stack
 ex:=fp
 fn:=λ_=>false
 calm:=X.calm
 pn:=[]
 xe:=λ_ _=>False
def blkσ(m:List (Option Nat))(σ:St):St:=m.map λo=>match o with
 |none=>none
 |some i=>(σ[i]?).getD none
def PTs(X:Cx)(ifs:List Expr)(t:TT):Prop:=
 ∀(lw:Ai) (s:Shared) (σ:St) (H:Hp) (Q:Bool->Hp->Prop),Inv X lw σ H s->t σ H Q->wpAny (model X.prog X.w) X.A (jM9 ifs X.env) (TP X lw σ Q) X.xe s
def qC:TT:=λ_ H Q=>Q true H
def jN0:PTs X [] qC:=λ_ _ _ H _ I h=>wpAny_tests_nil ⟨H,I,h⟩
def jMZ{c:Expr}{t:TT}(h:PT X c t):PTs X [c] t:=λlw s σ H Q I q=>wpAny_tests_one (h lw s σ H Q I q)
def qX(m:List (Option Nat))(g:TG)(tt:TT)(te:TE)(σ:St)(Q:VK)(J:It)(H1:Hp):Prop:=∀D,H1 D=none->∃W:Nat->Nat->St->Hp->List V->Prop,
  (∃n,W 0 n (blkσ m σ) (upd H1 D (.lst [])) [])/\∀i n σ' H' ys,W i n σ' H' ys->H' D=some (.lst ys)/\ys.length<sizeLine/\
   ((J.stop i H'/\Q (.ref D) H')\/(J.go i H'/\∃N:St->Hp->List V->Prop,(∀σ2 H2 zs,N σ2 H2 zs->∃n',n'<n/\W (i+1) n' σ2 H2 zs)/\∀x H'',J.yld i H' x H''->g x σ' H'' λσ2 H2=>tt σ2 H2 λb H3=>
    if b=true then te σ2 H3 λv H4=>H4 D=some (.lst ys)/\N σ2 (upd H4 D (.lst (ys++[v]))) (ys++[v])
    else N σ2 H3 ys))
def tComp(m:List (Option Nat))(wi:TI)(g:TG)(tt:TT)(te:TE):TE:=λσ H Q=>wi σ H (qX m g tt te σ Q)
def Un.sameBut{fs ex:List Addr}{H H':Hp}{h:Heap}(u:Un fs ex H H' h h1)(sb:Heap.SameBut C h1 h2)(hC:h.objs.size<=C):Un fs ex H H' h h2:=by
 have ne:∀{b:Addr}{o:Obj},h.get? b=some o->b≠C:=λe=>aO (aR (aC e) hC);refine⟨λb o e n hf hx=>(sb.2 b (ne e)).trans (u.keep b o e n hf hx),λb o e n hf hx=>?_,u.free,λb o e hx=>?_,u.tups,u.frzs,u.tbls⟩
 .obtain⟨sl,q⟩:=u.slot b o e n hf hx;exact⟨sl,(sb.2 b (ne e)).trans q⟩
 .obtain⟨o',q⟩:=u.there b o e hx;exact⟨o',(sb.2 b (ne e)).trans q⟩
def HOk.sameBut{P:Program}{H:Hp}(x:HOk P w H h1)(sb:Heap.SameBut C h1 h2)(hC:H C=none):HOk P w H h2:=λa o e=>
 (x a o e).stay (λb u hb q=>(sb.2 b (by
  rintro rfl;rcases hb with rfl|hb
  .rw[hC] at e;cases e
  .rw[hC] at hb;cases hb)).trans q) (λ_ q=>q) λ_ _ q=>q
variable {g:TG}{tt:TT}{te:TE}{m:List (Option Nat)}
section
variable {tg iter elt:Expr}{ifs:List Expr}{sc:Scope}{pos:Pos}{wi:TI}{Nc:Am}
def jBU(X:Cx)(sc:Scope)(Nc:Am)(m:List (Option Nat)):Prop:=
 m.length=Nc.length/\∀(k i:Nat),m[k]?=some (some i)->∃x,Nc[k]?=some x/\X.N[i]?=some x/\sc.names.lookup x=some .free
abbrev Fq(X:Cx)(sc:Scope):Prop:=∀y∈sc.names,y.2=.free->X.env.scope.names.lookup y.1=some .cell\/X.env.scope.names.lookup y.1=some .free
def jPD{lw:Ai}{s:Shared}{σ:St}{H:Hp}{fp:List Addr}(I:Inv X lw σ H s)(hkind:sc.kind=.function)(hcell:∀y∈sc.names,y.2≠.cell)
  (hfree:Fq X sc) (hm:jBU X sc Nc m) (hfp:∀b∈fp,FpOk X lw H b) (hlt:∀b∈fp,b<s.heap.objs.size)
  {h1:Heap}{tk:Nat}{md:Ak}(hns:h1.Ns s.heap.objs.size md) (old:∀b o,s.heap.get? b=some o->h1.get? b=some o):
  Inv (blk X sc (jV X.env.cells sc.names []) s.heap.objs.size Nc fp s H) [] (blkσ m σ) H {s with heap:=h1,toks:=tk}:=by
 have hcl:∀y∈sc.names,y.2=.free->∃c,X.env.cells.lookup y.1=some c:=λy hy hf=>I.ok.has y.1 (hfree y hy hf);have sub:∀x c,(jV X.env.cells sc.names []).lookup x=some c->X.env.cells.lookup x=some c:=jA7 sc.names [] hcl (λx c e=>by cases e);have isfree:∀x,(compEnvC sc (jV X.env.cells sc.names []) s.heap.objs.size X.env).kindOf x=some .cell\/(compEnvC sc (jV X.env.cells sc.names []) s.heap.objs.size X.env).kindOf x=some .free->sc.names.lookup x=some .free:=λx h=>by
  rcases h with h|h
  .exact jCR (.inl rfl) hcell h
  .exact jCR (.inr rfl) hcell h
 refine⟨⟨I.ok.mod,hkind,I.ok.glob,I.ok.blt,ar _,λx y c h1 h2=>I.ok.inj x y c (sub x c h1) (sub y c h2),λx hx=>?_,λx c hf _=>?_,I.ok.hd,I.ok.frames,.inl rfl,λb hb=>?_,I.bs,bA I.ok.bsz I.sz,λb o e hb=>?_,λb hb hz=>?_,I.stack,I.stkFree⟩,
  rfl,I.bare,Un.kept old,⟨md,hns,λk x v e1 e2 e3=>?_⟩,λx c e=>?_,I.hok.fresh (ar _),λx c e=>I.freeC x c (sub x c e),λp hp=>absurd (show p∈([]:Ai) from hp) Ad,I.hok.kept old,?_⟩
 .exact jAN sc.names [] (.inl (jAL (isfree x hx)))
 .exact absurd (show false=true from hf) am
 .obtain⟨f0,f1,f2,f3,f4,f5⟩:=hfp b hb;exact⟨aO (hlt b hb),λx c e=>f4 x c (sub x c e)⟩
 .obtain⟨f0,f1,f2,f3,f4,f5⟩:=hfp b hb;rcases f3 with q|q
  .exact I.ok.noex b o e q
  .exact absurd (aR (aC (I.ok.bs b o e).1) q) (cO _)
 .obtain⟨f0,f1,f2,f3,f4,f5⟩:=hfp b hb;rcases aA.mp (I.stkSub b hz) with q|q
  .exact f1 q
  .exact f2 q
 .have e2':∃i,m[k]?=some (some i)/\σ[i]?=some (some v):=by
   unfold blkσ at e2;rw[aQ] at e2;cases q:m[k]? with
   |none=>rw[q] at e2;cases e2
   |some o=>
    rw[q] at e2;cases o with
    |none=>cases e2
    |some i=>
     refine⟨i,rfl,?_⟩;have e2:(σ[i]?).getD none=some v:=bo e2;cases r:σ[i]? with
     |none=>rw[r] at e2;cases e2
     |some z=>rw[r] at e2;exact bW some e2
  obtain⟨i,q1,q2⟩:=e2';obtain⟨x',a1,a2,a3⟩:=hm.2 k i q1;have e1':Nc[k]?=some x:=e1;rw[e1'] at a1;cases a1;have vis:=hfree (x,.free) (jAL a3) rfl;obtain⟨m0,hn0,hl0⟩:=I.loc;obtain⟨u,r,l⟩:=hl0 i x v a2 q2 (.inr vis);refine⟨u,r,.inr ⟨jCY a3,?_⟩⟩;obtain⟨c,hc⟩:=jAN (cells:=X.env.cells) (x:=x) sc.names [] (.inl (jAL a3));rcases l with ⟨lk,_⟩|⟨_,c',hc',o,ho,hd⟩
  .have lk':X.env.scope.names.lookup x=some .local:=lk;rcases vis with z|z
   .rw[lk'] at z;cases z
   .rw[lk'] at z;cases z
  .have:=sub x c hc;rw[hc'] at this;cases this;exact⟨c,hc,o,old _ _ ho,hd⟩
 .obtain⟨v,o,ho,hd⟩:=I.cell x c (sub x c e);exact⟨v,o,old _ _ ho,hd⟩
 .show (blkσ m σ).length=Nc.length;unfold blkσ;rw[af];exact hm.1
def jGD{tf:St->TE}(hc:X.calm=true)(hi:PI X tg iter wi)(hkind:sc.kind=.function)(hcell:∀y∈sc.names,y.2≠.cell)(hnames:∀y∈sc.names,y.2=.local->sc.names.lookup y.1=some .local)
  (hfree:Fq X sc) (hm:jBU X sc Nc m)
  (hg:∀cl C fp s H,PG (blk X sc cl C Nc fp s H) tg g) (ht:∀cl C fp s H,PTs (blk X sc cl C Nc fp s H) ifs tt) (he:∀cl C fp s H lw σ,Inv X lw σ H s->(∀b∈fp,FpOk X lw H b)->PE (blk X sc cl C Nc fp s H) elt (tf σ))
  (hs:∀x,foldedSetIterable iter X.env x=pure x) {fpos:Pos}{use:Option (Value->Sem Unit)}{R:Ah}{lw:Ai}{s:Shared}{σ:St}{H:Hp}{Q:VK}(I:Inv X lw σ H s) (h:tComp m wi g tt (tf σ) σ H Q)
  (fin:∀(D C:Addr) (H5:Hp) (z1:Shared) (r:Flow),(∃mm,z1.heap.Ns C mm)->FpOk X lw H5 C->(∀h',Heap.SameBut C z1.heap h'->Inv X lw σ H5 {z1 with heap:=h'})->Q (.ref D) H5->compPost (model X.prog X.w) X.A X.xe use R (.ref D) C (.ok r) z1):
  wpAny (model X.prog X.w) X.A (comprehension (.ListComp elt [⟨tg,iter,ifs,0⟩] sc pos) sc X.env fpos (newList []) false (eval iter X.env) use) R X.xe s:=by
 have hcl:∀y∈sc.names,y.2=.free->∃c,X.env.cells.lookup y.1=some c:=λy hy hf=>I.ok.has y.1 (hfree y hy hf);refine wpAny_comprehension_free (use:=use) rfl hs (jJG hcl) hkind hnames (lz (hi lw s σ H _ I h) λv s1 h1=>lz h1 λitv s2 h2=>?_);obtain⟨it,fp,tn,J,H2,e,I2,T,st2,f2,hQ⟩:=h2;subst e;have hlt:∀b∈fp,b<s2.heap.objs.size:=λb hb=>by
  obtain⟨o,e,_⟩:=T.obj 0 _ st2 b hb;exact aC e
 refine bZ (wpAny_newFunctionEnv hcell (by intro y hy;simp at hy) (λh₁ hns₁ hsb₁=>?_) hkind);have I3:Inv X lw σ (upd H2 s2.heap.objs.size (.lst [])) {s2 with heap:=s2.heap.push {cls:=.type "list",data:=.seq ([]:Al).toArray}}:=I2.lnew (t':=s2.toks) .nil (ba _);obtain⟨W,⟨n0,w0⟩,turn⟩:=hQ s2.heap.objs.size I2.fresh;have hD3:∀b∈fp,b≠s2.heap.objs.size:=λb hb=>aO (hlt b hb);have f3:∀b∈fp,FpOk X lw (upd H2 s2.heap.objs.size (.lst [])) b:=λb hb=>by
  obtain⟨a0,a1⟩:=f2 b hb;exact⟨by rw[j8 (hD3 b hb)];exact a0,a1⟩
 generalize hE:({s2 with heap:=s2.heap.push {cls:=.type "list",data:=.seq ([]:Al).toArray}}:Shared)=s3 at I3 hns₁ hsb₁ ⊢;generalize hH3:upd H2 s2.heap.objs.size (.lst [])=H3 at I3 f3 w0;have hsz3:s3.heap.objs.size=s2.heap.objs.size+1:=by rw[<- hE];exact ci _ _
 have old:∀b o,s3.heap.get? b=some o->h₁.get? b=some o:=λb o e=>hsb₁.extBut b o (aO (aC e)) (ae _ e);have old2:∀b o,s2.heap.get? b=some o->h₁.get? b=some o:=λb o e=>old b o (by rw[<- hE];exact ae _ e);have I4:=jPD (fp:=fp) (tk:=s3.toks+([]:List (Str×Value)).length) I3 hkind hcell hfree hm f3 (λb hb=>show b<s3.heap.objs.size by rw[hsz3];exact cP (hlt b hb)) hns₁ old;have st4:tn 0 h₁:=T.keep _ _ _ st2 λb hb o e=>old2 b o e;have loop:codeAny (model X.prog X.w) X.A (.compLoop (.ListComp elt [⟨tg,iter,ifs,0⟩] sc pos) 0 (.ref it) (.ref s2.heap.objs.size) (compEnvC sc (jV X.env.cells sc.names []) s3.heap.objs.size X.env))
   (compPost (model X.prog X.w) X.A X.xe use R (.ref s2.heap.objs.size) s3.heap.objs.size) {s3 with heap:=h₁,toks:=s3.toks+([]:List (Str×Value)).length}:=by
  generalize hX:blk X sc (jV X.env.cells sc.names []) s3.heap.objs.size Nc fp s3 H3=Xb at I4;have eP:Xb.prog=X.prog:=by rw[<- hX];rfl
  have ew:Xb.w=X.w:=by rw[<- hX];rfl
  have eK:Xb.K=X.K:=by rw[<- hX];rfl
  have eA:Xb.A=X.A:=by rw[<- hX];rfl
  have ec:Xb.calm=true:=by rw[<- hX];exact hc
  have ee:Xb.env=compEnvC sc (jV X.env.cells sc.names []) s3.heap.objs.size X.env:=by rw[<- hX];rfl
  have ex:Xb.xe=λ_ _=>False:=by rw[<- hX];rfl
  have hgb:PG Xb tg g:=by rw[<- hX];exact hg _ _ _ _ _
  have htb:PTs Xb ifs tt:=by rw[<- hX];exact ht _ _ _ _ _
  have heb:PE Xb elt (tf σ):=by rw[<- hX];exact he _ _ _ _ _ _ _ I3 f3
  have stat:∀{H':Hp},(∀b∈fp,H' b=none)->∀b∈fp,FpOk Xb [] H' b:=λ{H'} hn b hb=>by
   obtain⟨o,eo,_⟩:=T.obj _ _ st4 b hb;have q:=I4.ok.exf b (by rw[<- hX];exact hb);exact⟨hn b hb,q.1,I4.ok.exfs b (by rw[<- hX];exact hb),.inl (by rw[<- hX];exact hb),q.2,λp hp=>absurd hp (by rw[<- hX];simp[blk])⟩
  have fr4:∀b∈fp,H3 b=none:=λb hb=>(f3 b hb).1;unfold PG at hgb;unfold PTs at htb;unfold PE at heb;rw[eP,ew,eA,ee,ex] at hgb htb heb;refine jLT (λn z=>∃i σ' H' ys,Inv Xb [] σ' H' z/\tn i z.heap/\(∀b∈fp,H' b=none)/\W i n σ' H' ys) ?_ n0 ⟨0,_,H3,[],I4,st4,fr4,w0⟩;rintro n z ⟨i,σ5,H5,ys,I5,st5,fr5,w5⟩;obtain⟨hD,hlen,way⟩:=turn i n σ5 H5 ys w5;rcases way with ⟨stop,q⟩|⟨go,N,hN,step⟩
  .have RR:=T.done Xb eP ew eK ec i [] z σ5 H5 (λ_ _=>False) I5 (stat fr5) st5 stop;rw[eA] at RR;refine lz RR λr z1 ⟨hr,I6⟩=>?_;subst hr;obtain⟨mm,hn6,_⟩:=I6.loc;rw[ee] at hn6;have u6:Un (frs X.stack) fp H3 H5 s3.heap z1.heap:=by
    have:=I6.Aq;rw[<- hX] at this;exact this
   have fC:H5 s3.heap.objs.size=none:=by
    have:=I6.free;rw[ee] at this;exact this
   have hok6:HOk X.prog X.w H5 z1.heap:=by
    have:=I6.hok;rw[eP,ew] at this;exact this
   have os6:z1.os=s3.os:=by
    have:=I6.os;rw[<- hX] at this;exact this
   refine fin s2.heap.objs.size s3.heap.objs.size H5 z1 .next ⟨mm,hn6⟩ (I3.fpOk (ar _) fC) (λh' sb=>?_) q;refine I3.call' (s':= {z1 with heap:=h'}) (ch:=fp) os6 (u6.sameBut sb (ar _)) (hok6.sameBut sb fC) I6.bare (λb hb=>?_);obtain⟨a0,a1,a2,a3,a4,a5⟩:=f3 b hb;exact⟨a3,a1,a4,a5⟩
  .have RR:=T.item Xb eP ew eK ec i [] z σ5 H5 (λ_ _=>False) I5 (stat fr5) st5 go;rw[eA] at RR;refine lz RR λr z1 ⟨u,hr,h6⟩=>?_;subst hr;refine lz h6 λ_ z2 ⟨x,H7,I7,r7,y7,st7,fr7⟩=>?_;have I7':=I7.pinned (stat fr7) (T.obj _ _ st7);refine lz (hgb _ z2 σ5 H7 x u _ I7' r7 (step x H7 y7)) λ_ z3 ⟨σ8,H8,I8,q8⟩=>?_;refine lz (htb _ z3 σ8 H8 _ I8 q8) λok z4 ⟨H9,I9,q9⟩=>?_;have again:∀{σ7:St}{Hz:Hp}{zz:Shared}{yy:List V}{n':Nat},Inv Xb ([]++jH2 fp z2.heap) σ7 Hz zz->n'<n->W (i+1) n' σ7 Hz yy->∃k,k<n/\∃i σ' H' ys,Inv Xb [] σ' H' zz/\tn i zz.heap/\(∀b∈fp,H' b=none)/\W i k σ' H' ys:=λ{σ7 Hz zz yy n'} Iz hn wz=>by
    refine⟨n',hn,i+1,σ7,Hz,yy,Iz.unpinned,T.keep _ _ _ st7 λb hb o e=>(Iz.pin (b,o) (aE _ (aE _ (jBF hb e)))).1,λb hb=>?_,wz⟩;obtain⟨o,e,d⟩:=T.obj _ _ st7 b hb;exact(Iz.pin (b,o) (aE _ (aE _ (jBF hb e)))).2.1
   cases ok with
   |false=>
    obtain⟨n',hn,w9⟩:=hN _ _ _ (show N σ8 H9 ys from q9);exact again I9 hn w9
   |true=>
    refine lz (heb _ z4 σ8 H9 _ I9 q9) λxv z5 ⟨vv,H10,I10,r10,hD10,n10⟩=>?_;obtain⟨n',hn,w10⟩:=hN _ _ _ n10;have RR:=jB1 (X:=Xb) _ z5 σ8 H10 (.ref s2.heap.objs.size) [vv] (.ref s2.heap.objs.size) [xv] (λ_ H'=>H'=upd H10 s2.heap.objs.size (.lst (ys++[vv]))) I10 rfl (.cons r10 .nil) ⟨_,ys,vv,rfl,rfl,hD10,hlen,rfl⟩;rw[eP,ew,eA,ex] at RR;refine lz RR λ_ z6 ⟨_,H11,I11,_,e11⟩=>?_;subst e11;exact again I11 hn w10
 exact codeAny_compStart_list loop (T.self _ 0 _ _ _ st4 loop)
def jIM(hc:X.calm=true)(hi:PI X tg iter wi)(hkind:sc.kind=.function)(hcell:∀y∈sc.names,y.2≠.cell)(hnames:∀y∈sc.names,y.2=.local->sc.names.lookup y.1=some .local)
  (hfree:Fq X sc) (hm:jBU X sc Nc m)
  (hg:∀cl C fp s H,PG (blk X sc cl C Nc fp s H) tg g) (ht:∀cl C fp s H,PTs (blk X sc cl C Nc fp s H) ifs tt) (he:∀cl C fp s H,PE (blk X sc cl C Nc fp s H) elt te)
  (hs:∀x,foldedSetIterable iter X.env x=pure x:=by intro _;rfl):PE X (.ListComp elt [⟨tg,iter,ifs,0⟩] sc pos) (tComp m wi g tt te):=by
 intro lw s σ H Q I h;rw[eval_ListComp];exact jGD (tf:=λ_=>te) (use:=none) hc hi hkind hcell hnames hfree hm hg ht (λcl C fp s H _ _ _ _=>he cl C fp s H) hs I h (λD C H5 z1 r ⟨mm,hn⟩ fC sb q=>⟨mm,hn,λh' s2=>⟨.ref D,H5,sb h' s2,rfl,q⟩⟩)
end
theorem jR{X:Cx}{sc psc:Scope}(h:(sc.names.all λy=>decide (y.2=.free->psc.names.lookup y.1=some .cell\/psc.names.lookup y.1=some .free))=true:=by decide+kernel)(e:X.env.scope=psc:=by rfl):
  ∀y∈sc.names,y.2=.free->X.env.scope.names.lookup y.1=some .cell\/X.env.scope.names.lookup y.1=some .free:=by
 rw[e];intro y hy;exact aP (cj.mp h y hy)
def jOR(sc:Scope)(N Nc:Am)(m:List (Option Nat))(k:Nat):Bool:=match m[k]? with
 |some (some i)=>match Nc[k]? with
  |some x=>decide (N[i]?=some x)&&decide (sc.names.lookup x=some .free)
  |none=>false
 |_=>true
theorem jO{X:Cx}{sc:Scope}{N Nc:Am}{m:List (Option Nat)}(e:X.N=N)(hl:m.length=Nc.length)(h:((List.range m.length).all (jOR sc N Nc m))=true):jBU X sc Nc m:=by
 refine⟨hl,λk i hk=>?_⟩;have hlt:k<m.length:=(aj.mp hk).1;have q:=cj.mp h k (bR.mpr hlt);unfold jOR at q;rw[hk] at q;cases e2:Nc[k]? with
 |none=>rw[e2] at q;cases q
 |some x=>
  rw[e2] at q;have q:(decide (N[i]?=some x)&&decide (sc.names.lookup x=some .free))=true:=q;rw[bC] at q;exact⟨x,rfl,by rw[e];exact aP q.1,aP q.2⟩
section
variable {σ:St}{H1:Hp}{Q:VK}
theorem jBK{lo:Int}{n:Nat}(hn:n<sizeLine)(Pv:Addr->Nat->St->Hp->List V->Prop)(h0:∀D,H1 D=none->Pv D 0 (blkσ m σ) (upd H1 D (.lst [])) [])
  (hD:∀D i σ' H' ys,H1 D=none->i<=n->Pv D i σ' H' ys->H' D=some (.lst ys)/\ys.length<=i)
  (hs:∀D i σ' H' ys,H1 D=none->i<n->Pv D i σ' H' ys->g (.int (lo+i)) σ' H' λσ2 H2=>tt σ2 H2 λb H3=>if b=true then te σ2 H3 λv H4=>H4 D=some (.lst ys)/\Pv D (i+1) σ2 (upd H4 D (.lst (ys++[v]))) (ys++[v]) else Pv D (i+1) σ2 H3 ys)
  (hd:∀D σ' H' ys,H1 D=none->Pv D n σ' H' ys->Q (.ref D) H'):qX m g tt te σ Q (Itr lo n) H1:=by
 intro D hDn;refine⟨λi k σ' H' ys=>k=n-i/\i<=n/\Pv D i σ' H' ys,⟨n,rfl,ba _,h0 D hDn⟩,?_⟩;rintro i k σ' H' ys ⟨rfl,hi,p⟩;obtain⟨q1,q2⟩:=hD D i σ' H' ys hDn hi p;refine⟨q1,Aa,?_⟩;by_cases hlt:i<n
 .refine .inr ⟨hlt,Pv D (i+1),λσ2 H2 zs z=>⟨n-(i+1),Aa,rfl,hlt,z⟩,λx H'' y=>?_⟩;obtain⟨e1,e2⟩:=y;subst e1 e2;exact hs D i σ' _ ys hDn hlt p
 .have e:i=n:=Aa;subst e;exact .inl ⟨ar _,hd D σ' H' ys hDn p⟩
end
end L2
end
namespace SS
open PySem PySem.SetTable
variable {t:SetTable}{xs:Array Nat}{α:Type}{j n i:Nat}{h:Int}{led:Bool}
abbrev Ris(xs:Array Nat):Prop:=xs.toList.Pairwise (· < ·)
def jCQ(h:Ris xs){a b:Nat}(hab:a<b)(hb:b<xs.size):xs.getD a 0<xs.getD b 0:=by
 have h1:a<xs.size:=dY hab hb;have:=bY.mp h a b (by simpa using h1) (by simpa using hb) hab;simpa [Array.getD,h1,hb] using this
theorem jUU(hr:Ris xs):∀(fuel lo hi:Nat),hi-lo<=fuel->lo<=hi->hi<=xs.size->(∀a,a<lo->xs.getD a 0<j)->(∀a,hi<=a->a<xs.size->j<=xs.getD a 0)->
  (below.go xs j fuel lo hi<=xs.size/\(∀a,a<below.go xs j fuel lo hi->xs.getD a 0<j)/\(∀a,below.go xs j fuel lo hi<=a->a<xs.size->j<=xs.getD a 0)):=by
 intro fuel
 induction fuel with
 |zero=>
  intro lo hi h1 h2 h3 h4 h5;have e:lo=hi:=Aa;subst e;exact⟨h3,h4,h5⟩
 |succ fuel ih=>
  intro lo hi h1 h2 h3 h4 h5;unfold below.go;by_cases hlt:lo<hi
  .rw[ax hlt];have hm:(lo+hi)/2<xs.size:=Aa;have e:xs.getD ((lo+hi)/2) j=xs.getD ((lo+hi)/2) 0:=by simp[Array.getD,hm]
   dsimp only;rw[e];by_cases hc:xs.getD ((lo+hi)/2) 0<j
   .rw[ax hc];refine ih _ _ Aa Aa h3 (λa ha=>?_) h5;by_cases e2:a=(lo+hi)/2
    .rw[e2];exact hc
    .exact dY (jCQ hr Aa hm) hc
   .rw[aq hc];refine ih _ _ Aa Aa Aa h4 (λa ha hs=>?_);by_cases e2:a=(lo+hi)/2
    .rw[e2];lia
    .have:=jCQ hr (show (lo+hi)/2<a by lia) hs;lia
  .rw[aq hlt];have e:lo=hi:=Aa;subst e;exact⟨h3,h4,h5⟩
theorem jFG(hr:Ris xs)(j:Nat):below xs j<=xs.size/\(∀a,a<below xs j->xs.getD a 0<j)/\(∀a,below xs j<=a->a<xs.size->j<=xs.getD a 0):=
 jUU hr xs.size 0 xs.size Aa (ba _) (ar _) (λa h=>absurd h (d0 _)) (λa h1 h2=>absurd h2 Aa)
theorem jGF(hr:Ris xs)(hi:i<=xs.size)(h1:∀a,a<i->xs.getD a 0<j)(h2:∀a,i<=a->a<xs.size->j<=xs.getD a 0):below xs j=i:=by
 obtain⟨b1,b2,b3⟩:=jFG hr j;rcases iC (below xs j) i with h|h|h
 .have q1:=h1 _ h;have q2:=b3 _ (ar _) Aa;lia
 .exact h
 .have q1:=b2 _ h;have q2:=h2 _ (ar _) Aa;lia
def jA8(xs:Array α)(p:Nat)(x:α):(insertAt xs p x).toList=xs.toList.take p++x::xs.toList.drop p:=by
 unfold insertAt;simp[eM,List.extract];rw[bx Ad]
theorem jC6(xs:Array α)(p:Nat)(x:α):(insertAt xs p x).size=xs.size+1:=by
 rw[<- aI,jA8];simp;lia
theorem jL8(hr:Ris xs)(hj:j∉xs.toList):Ris (insertAt xs (below xs j) j):=by
 obtain⟨b1,b2,b3⟩:=jFG hr j;show (insertAt xs (below xs j) j).toList.Pairwise (· < ·);rw[jA8,cy,dz];have hl:∀a∈xs.toList.take (below xs j),a<j:=by
  intro a ha;obtain⟨i,hi,e⟩:=List.mem_take_iff_getElem.mp ha;have:=b2 i Aa;have hs:i<xs.size:=by simp at hi;lia
  simp[Array.getD,hs] at this;simp at e;lia
 have hg:∀a∈xs.toList.drop (below xs j),j<a:=by
  intro a ha;obtain⟨i,hi,e⟩:=List.mem_drop_iff_getElem.mp ha;have hs:i+below xs j<xs.size:=by simpa [lj] using hi
  have:=b3 (i+below xs j) Aa hs;simp[Array.getD,hs] at this;have e':xs[i+below xs j]=a:=by simpa [lj] using e
  have hne:a≠j:=by
   intro z;apply hj;rw[<- z];exact cJ ha
  lia
 refine⟨hr.sublist (dI _ _),⟨hg,hr.sublist (iE _ _)⟩,?_⟩;intro a ha b hb;rcases aA.mp hb with rfl|hb
 .exact hl a ha
 .exact dY (hl a ha) (hg b hb)
theorem jE5(hr:Ris t.place)(h:t.slot j=.empty):j∉t.place.toList:=by
 intro hm;obtain⟨i,hi,e⟩:=dQ hm;have hs:i<t.place.size:=by simpa using hi
 have e0:t.place[i]=j:=by simpa using e
 have eb:below t.place j=i:=by
  refine jGF hr (cV hs) (λa ha=>?_) (λa h1 h2=>?_)
  .have:=jCQ hr ha hs;simp only[Array.getD,hs] at this ⊢;simp[e0] at this ⊢;exact this
  .by_cases e2:a=i
   .subst e2;simp[Array.getD,hs,e0]
   .have:=jCQ hr (show i<a by lia) h2;simp only[Array.getD,hs] at this;simp[e0] at this;simp[Array.getD];lia
 unfold SetTable.slot at h;dsimp only at h;rw[eb] at h;rw[ax (by simp[hs,e0])] at h;cases h
def jJ6(j:Nat):has #[] j=false:=by
 unfold has;simp
def jJV(hd:t.dummies=#[]){f:Nat->Int}:∀(fuel:Nat) (p:Probe) (m:Met),p.dummy=none->probe.go t f h fuel p=some m->
  (∃j,m=.empty j none/\t.slot j=.empty)\/(∃j i n,m=.candidate j i n):=by
 intro fuel
 induction fuel with
 |zero=>intro p m _ e;simp[probe.go] at e
 |succ fuel ih=>
  intro p m hp e;unfold probe.go at e;cases hs:t.slot p.j with
  |empty=>
   rw[hs] at e;simp only[fU] at e;subst e;exact .inl ⟨p.j,by rw[hp],hs⟩
  |dummy=>
   unfold SetTable.slot at hs;dsimp only at hs;rw[hd,jJ6] at hs;split at hs
   .cases hs
   .simp at hs
  |live i=>
   rw[hs] at e;dsimp only at e;split at e
   .simp only[fU] at e;subst e;exact .inr ⟨_,_,_,rfl⟩
   .refine ih _ _ ?_ e;unfold advance;split
    .exact hp
    .exact hp
def jG9(hr:Ris t.place)(hd:t.dummies=#[]){slot:Nat}{d:Bool}(e:t.freeSlot h=some (slot,d)):slot∉t.place.toList:=by
 unfold SetTable.freeSlot at e;split at e
 .rename_i j dummy hp;simp only[fU,Prod.mk.injEq] at e;have hp':probe.go t (λ_=>h+1) h (10*turns t.mask) (t.probeStart h)=some (.empty j dummy):=hp;rcases jJV hd _ _ _ (by unfold probeStart;rfl) hp' with ⟨j',em,hs⟩|⟨_,_,_,em⟩
  .cases em;have:slot=j:=by rw[<- e.1];rfl
   rw[this];exact jE5 hr hs
  .cases em
 .cases e
def jL5(hd:t.dummies=#[])(h:t.slot j≠.empty):(∃i,t.slot j=.live i)/\j∈t.place.toList:=by
 unfold SetTable.slot at h ⊢;dsimp only at h ⊢;by_cases q:(t.place[below t.place j]?==some j)=true
 .rw[ax q];refine⟨⟨_,rfl⟩,?_⟩;have e:t.place[below t.place j]?=some j:=eq_of_beq q;obtain⟨hi,e⟩:=Array.getElem?_eq_some_iff.mp e;rw[<- e];exact Array.getElem_mem_toList hi
 .rw[aq q,hd,jJ6] at h;exact absurd rfl h
theorem run7(i:Nat):runEnd 7 i=i:=by unfold runEnd;rw[aq Aa]
theorem jN1(hm:t.mask=7)(hd:t.dummies=#[]) :∀(k fuel:Nat) (p:Probe),p.j=p.i->p.more=0->p.i<8->p.perturb<32->k<=fuel->
  probe.go t (λ_=>h+1) h fuel p=none->∀r,r<k->Nat.repeat (λi=>(i*5+1)%8) r p.i∈t.place.toList:=by
 intro k
 induction k with
 |zero=>intro fuel p _ _ _ _ _ _ r hr;lia
 |succ k ih=>
  intro fuel p h1 h2 h3 h4 h5 h6 r hr;obtain⟨f,rfl⟩:∃f,fuel=f+1:=⟨fuel-1,Aa⟩;unfold probe.go at h6;by_cases he:t.slot p.j=.empty
  .rw[he] at h6;cases h6
  .obtain⟨⟨i,hl⟩,hmem⟩:=jL5 hd he;rw[hl] at h6;dsimp only at h6;rw[aq (by simp;lia)] at h6;have hz:p.perturb/32=0:=Aa;have ea:t.advance p= {p with j:=(p.i*5+1)%8,more:=0,i:=(p.i*5+1)%8,perturb:=0}:=by
    unfold advance leap;rw[aq Aa,hm,hz];simp[run7]
   rw[ea] at h6;cases r with
   |zero=>show p.i∈_;rw[<- h1];exact hmem
   |succ r=>
    have q:=ih f _ (by rfl) (by rfl) (by show (p.i*5+1)%8<8;lia) (by show 0<32;lia) Aa h6 r Aa;have e:∀(r i:Nat),Nat.repeat (λi=>(i*5+1)%8) (r+1) i=Nat.repeat (λi=>(i*5+1)%8) r ((i*5+1)%8):=by
     intro r
     induction r with
     |zero=>intro i;rfl
     |succ r ihr=>
      intro i;show ((Nat.repeat _ (r+1) i)*5+1)%8=((Nat.repeat _ r ((i*5+1)%8))*5+1)%8;rw[ihr]
    rw[e];exact q
theorem jPG:∀i,i<8->∀j,j<8->∃r,r<8/\Nat.repeat (λi=>(i*5+1)%8) r i=j:=Ab
theorem jG8(hm:t.mask=7)(hd:t.dummies=#[])(hz:t.place.size<8)(h0:0<=h)(h1:h<32):∃q,t.freeSlot h=some q:=by
 unfold SetTable.freeSlot;have hb:bits h<32:=by unfold bits;lia
 have hps:t.probeStart h= {j:=bits h%8,more:=0,i:=bits h%8,perturb:=bits h,dummy:=none}:=by
  unfold probeStart;rw[hm];simp[run7]
 cases e:t.probe (λ_=>h+1) h (t.probeStart h) with
 |none=>
  exfalso;have e':probe.go t (λ_=>h+1) h (10*turns t.mask) (t.probeStart h)=none:=e;rw[hps] at e';have q:=jN1 hm hd 8 _ _ (by rfl) (by rfl) (by show bits h%8<8;lia) (by exact hb) (by rw[hm];decide) e';have sub:List.range 8 ⊆ t.place.toList:=by
   intro j hj;obtain⟨r,hr,er⟩:=jPG (bits h%8) Aa j (bR.mp hj);rw[<- er];exact q r hr
  have:=List.Nodup.length_le_of_subset (List.nodup_range (n:=8)) sub;simp at this;lia
 |some m=>
  rcases jJV hd _ _ _ (by rw[hps]) (show probe.go t (λ_=>h+1) h (10*turns t.mask) (t.probeStart h)=some m from e) with ⟨j,rfl,_⟩|⟨j,i,n,rfl⟩
  .exact⟨_,rfl⟩
  .exfalso;have nc:∀(fuel:Nat) (p:Probe) (j i:Nat) (n:Probe),probe.go t (λ_=>h+1) h fuel p≠some (.candidate j i n):=by
    intro fuel
    induction fuel with
    |zero=>intro p j i n;simp[probe.go]
    |succ f ih=>
     intro p j i n;unfold probe.go;cases t.slot p.j with
     |empty=>simp
     |dummy=>exact ih _ _ _ _
     |live i'=>
      dsimp only;rw[aq (by simp;lia)];exact ih _ _ _ _
   exact nc _ _ _ _ _ e
structure Tab (t:SetTable)(n:Nat)(led:Bool):Prop where
 ris:Ris t.place
 sz:t.place.size=n
 dm:t.dummies=#[]
 msk:t.mask=7
 pl:t.plain=true
 ld:t.led=led
theorem Tab.fits(T:Tab t n led)(hn:n<=4):t.fits n=true:=by
 unfold SetTable.fits fill;simp[T.sz,T.dm,T.msk];lia
theorem Tab.full(T:Tab t n led)(hn:n<=4):t.tooFull=false:=by
 unfold tooFull fill;simp[T.sz,T.dm,T.msk];lia
def jMA(led:Bool):Tab (fresh 0 0 led) 0 led:=⟨List.Pairwise.nil,rfl,rfl,rfl,rfl,rfl⟩
theorem jLN(T:Tab t n led)(hn:n+1<=4)(es:Array (Int×Value))(he:es.size=n)(h0:0<=h)(h1:h<32)(x:Value):
  Tab (layNew t es h x).2.1 (n+1) led/\∃p,(layNew t es h x).1.toList=es.toList.take p++(h,x)::es.toList.drop p:=by
 obtain⟨⟨slot,d⟩,hf⟩:=jG8 T.msk T.dm (by rw[T.sz];lia) h0 h1;unfold layNew;rw[hf];dsimp only[SetTable.put];have hnm:=jG9 T.ris T.dm hf;have T2:Tab {t with place:=insertAt t.place (below t.place slot) slot,dummies:=if has t.dummies slot then eraseAt t.dummies (below t.dummies slot) else t.dummies} (n+1) led:=by
  refine⟨jL8 T.ris hnm,by rw[jC6,T.sz],?_,T.msk,T.pl,T.ld⟩;rw[T.dm,jJ6];rfl
 refine⟨?_,_,jA8 _ _ _⟩;unfold SetTable.orStandIn;rw[jC6,he,T2.fits hn];exact T2
def jJP(xs:Array Nat):Nat->Nat
 | 0=>0
 |i+1=>xs.getD i 0+1
theorem jI1(hr:Ris xs)(hi:i<=xs.size):below xs (jJP xs i)=i:=by
 cases i with
 |zero=>exact jGF hr (ba _) (λa h=>absurd h (d0 _)) (λa _ _=>ba _)
 |succ i=>
  refine jGF hr hi (λa ha=>?_) (λa h1 h2=>?_)
  .show _<xs.getD i 0+1;by_cases e:a=i
   .rw[e];lia
   .have:=jCQ hr (show a<i by lia) (show i<xs.size by lia);lia
  .show xs.getD i 0+1<=_;exact jCQ hr (show i<a by lia) h2
def jLR{l:List α}(h:i<l.length):(l[i]::l.eraseIdx i).Perm l:=by
 rw[List.eraseIdx_eq_take_drop_succ];have e:l=l.take i++l[i]::l.drop (i+1):=by rw[<- List.drop_eq_getElem_cons h,bw]
 conv=>rhs;rw[e]
 exact List.perm_middle.symm
theorem jTG(next:Nat->Nat):∀(fuel k:Nat) (left:List α) (out:Array α),fuel=left.length->(pickOrder.go next fuel k left out).toList.Perm (out.toList++left):=by
 intro fuel
 induction fuel with
 |zero=>
  intro k left out h;have:left=[]:=iU.mp h.symm;subst this;simp[pickOrder.go]
 |succ f ih=>
  intro k left out h;have hl:next k%left.length<left.length:=Nat.mod_lt _ Aa;unfold pickOrder.go;rw[az hl];dsimp only;refine(ih _ _ _ (by rw[List.length_eraseIdx_of_lt hl];lia)).trans ?_;rw[dJ,aY];exact cS _ (jLR hl)
def jH3(next:Nat->Nat)(xs:Array α):(pickOrder next xs).toList.Perm xs.toList:=by
 unfold pickOrder;have:=jTG next xs.size 0 xs.toList #[] Ad;simpa using this
end SS
namespace SS
open PySem
variable {α β:Type}{Q:Ah}{i:Nat}
abbrev ledW(w:World):Bool:=!(w.params.followText "set-order")
def El(e:Int×Value)(k:Int):Prop:=e.1=hashInt k/\∃t,e.2=.int k t
def jBX{F:α->β->Prop}:∀{l:List α}{r:List β},Paired F l r->∀a∈l,∃b∈r,F a b
 |_,_,.nil=>λa h=>by cases h
 |_,_,.cons f t=>λa h=>by
  rcases aA.mp h with rfl|h
  .exact⟨_,ai,f⟩
  .obtain⟨b,hb,q⟩:=jBX t a h;exact⟨b,ag _ hb,q⟩
def jDA{F:α->β->Prop}:∀{l:List α}{r:List β},Paired F l r->∀b∈r,∃a∈l,F a b
 |_,_,.nil=>λa h=>by cases h
 |_,_,.cons f t=>λb h=>by
  rcases aA.mp h with rfl|h
  .exact⟨_,ai,f⟩
  .obtain⟨a,ha,q⟩:=jDA t b h;exact⟨a,ag _ ha,q⟩
def jF5{F:α->β->Prop}{a:α}{b:β}(f:F a b):∀{l:List α}{r:List β}(p:Nat),Paired F l r->Paired F (l.take p++a::l.drop p) (r.take p++b::r.drop p)
 |_,_,0,q=>by simpa using Paired.cons f q
 |_,_,p+1,.nil=>by simpa using Paired.cons f .nil
 |_,_,p+1,.cons g t=>by
  simp only[List.take_succ_cons,List.drop_succ_cons,iV];exact .cons g (jF5 f p t)
def jT7(l:List α)(p:Nat)(x z:α):z∈l.take p++x::l.drop p↔z=x\/z∈l:=by
 conv=>rhs;rw[<- bw p l]
 simp only[aM,aA];constructor
 .rintro (h|h|h)
  .exact .inr (.inl h)
  .exact .inl h
  .exact .inr (.inr h)
 .rintro (h|h|h)
  .exact .inr (.inl h)
  .exact .inl h
  .exact .inr (.inr h)
def jFQ(l:List α)(p:Nat)(x:α):(l.take p++x::l.drop p).Perm (x::l):=by
 have h:(l.take p++x::l.drop p).Perm (x::(l.take p++l.drop p)):=List.perm_middle;rw[bw] at h;exact h
structure SetG (w:World)(h:Heap)(a:Addr)(ks:Ag):Prop where
 ex:∃o es ep t,h.get? a=some o/\o.ExactSet/\o.data=.set es ep t/\Paired El es.toList ks/\Tab t es.size (ledW w)
 nd:ks.Nodup
 len:ks.length<=4
variable {prog:Program}{w:World}{A:Around}{E:Ah}{s:Shared}{a:Addr}
section
variable {ks:Ag}{k:Int}{tk:Tok}
def elems{es:List (Int×Value)}(h:Paired El es ks):ElemsOf (intKind prog w) es:=λe he=>by
 obtain⟨k,_,h1,t,h2⟩:=jBX h e he;rw[h2];exact⟨⟨k,by show Value.isInt k (.int k t)=true;simp[Value.isInt],h1⟩,rfl⟩
def SetG.at{h h':Heap}(S:SetG w h a ks)(e:∀o,h.get? a=some o->h'.get? a=some o):SetG w h' a ks:=by
 obtain⟨⟨o,es,ep,t,ho,r⟩,nd,len⟩:=S;exact⟨⟨o,es,ep,t,e _ ho,r⟩,nd,len⟩
theorem jCF(k0:0<=k)(k1:k<32):hashInt k=k:=by
 obtain⟨n,rfl⟩:=Int.eq_ofNat_of_zero_le k0;have e:∀n:Nat,n<32->hashInt (n:Int)=(n:Int):=Ab;exact e n Aa
theorem jXW{Q:Bool->Shared->Prop}(S:SetG w s.heap a ks)(hl:ks.length+1<=4)(k0:0<=k)(k1:k<32)
  (h:∀b h' ks',Heap.SameBut a s.heap h'->SetG w h' a ks'->(∀z,z∈ks'↔z=k\/z∈ks)->ks'.length<=ks.length+1->Q b {s with heap:=h'}):
  wpAny (model prog w) A (setAddHashed a (.int k tk) (hashInt k)) Q E s:=by
 obtain⟨o,es,ep,t,ho,hex,hd,hp,T⟩:=id S.ex;have hn:es.size=ks.length:=by rw[<- aI];exact fb hp
 have hf:=T.fits Aa;have hel:ElemsOf (intKind prog w) es.toList:=elems hp;have hb:es.size<scanBound:=by unfold scanBound;lia
 have hi:∀(j:Int) (t:Tok),Value.isInt k (.int j t)=true->j=k:=λj t e=>by simpa [Value.isInt] using e
 unfold setAddHashed setAddHashedIn;refine bE (ab (de ho hd hf ?_));dsimp only;rw[byScan_of (knd:=intKind prog w) rfl hb hel,ax rfl];unfold setAddByScan;refine ab (ab (cG (ab ?_)));refine wpAny_setScan_of (knd:=intKind prog w) (k:=k) (by show Value.isInt k (.int k tk)=true;simp[Value.isInt]) ho hd hf hel ?_;have es0:s= {s with heap:=s.heap}:=by cases s;rfl
 cases hr:List.findIdx? (λe=>(intKind prog w).is k e.2) es.toList with
 |some j=>
  obtain⟨hj,hpj,_⟩:=List.findIdx?_eq_some_iff_getElem.mp hr;obtain⟨k',hk',_,t',e'⟩:=jBX hp _ (cK hj);have hkk:k'=k:=hi k' t' (by rw[<- e'];exact hpj);subst hkk;refine ah (ah ?_);rw[es0];exact h false s.heap ks (Heap.SameBut.refl a s.heap) S (λz=>⟨.inr,λq=>q.elim (λe=>e ▸ hk') id⟩) Aa
 |none=>
  have hnk:k∉ks:=λhm=>by
   obtain⟨e,he,_,t',e'⟩:=jDA hp k hm;have q:=List.findIdx?_eq_none_iff.mp hr e he;rw[e'] at q;have q':Value.isInt k (.int k t')=false:=q;simp[Value.isInt] at q'
  obtain⟨T1,p,hp1⟩:=jLN T Aa es rfl (h:=hashInt k) (by rw[jCF k0 k1];exact k0) (by rw[jCF k0 k1];exact k1) (.int k tk);dsimp only;show wpAny _ A (match layNew t es (hashInt k) (Value.int k tk) with | (es,t,wasDummy,gave)=>_) _ E s;generalize layNew t es (hashInt k) (Value.int k tk)=L at T1 hp1 ⊢;obtain⟨es1,t1,wd,gv⟩:=L;dsimp only at T1 hp1 ⊢;have hp2:Paired El es1.toList (ks.take p++k::ks.drop p):=by
   rw[hp1];exact jF5 ⟨rfl,tk,rfl⟩ p hp
  have hz1:es1.size=es.size+1:=by
   rw[<- aI,hp1,(jFQ es.toList p (hashInt k,Value.int k tk)).length_eq];simp
  have hlen:(ks.take p++k::ks.drop p).length=ks.length+1:=(jFQ ks p k).length_eq;have T1':Tab t1 es1.size (ledW w):=by rw[hz1];exact T1
  have hg:(s.heap.update a (Obj.putSet es1 t1)).get? a=some {o with data:=.set es1 (ep+1) t1}:=by
   have q:=dB (Obj.putSet es1 t1) ho (by rw[putSet_of es1 t1 hd];rfl);rw[putSet_of es1 t1 hd] at q;exact q
  have fin:Q true {s with heap:=s.heap.update a (Obj.putSet es1 t1)}:=
   h true _ _ (gS ..) ⟨⟨_,es1,ep+1,t1,hg,hex,rfl,hp2,T1'⟩,(jFQ ks p k).nodup_iff.mpr (cg.mpr ⟨hnk,S.nd⟩),Aa⟩ (λz=>jT7 ks p k z) Aa
  have hfull:t1.tooFull=false:=T1'.full Aa;refine ab (show wpAny _ A (match gv with|true=>rule "set.scan.the-table-gave-way" |false=>pure ()) _ E s from ?_);have hzl:es1.size<=sizeLine:=by rw[hz1,show sizeLine=2^24 from rfl];lia
  cases gv with
  |true=>
   refine cG ?_;split
   all_goals
    refine ab (show wpAny _ A (pure true:Sem Bool) _ E s from ah ?_);simp only[fE];refine ab (wpAny_storeSet_of ho hd ?_ hzl);rw[hfull,jr,aq am];exact ah (ah fin)
  |false=>
   refine ah ?_;split
   all_goals
    refine ab (show wpAny _ A (pure true:Sem Bool) _ E s from ah ?_);simp only[fE];refine ab (wpAny_storeSet_of ho hd ?_ hzl);rw[hfull,jr,aq am];exact ah (ah fin)
end
def jBT:entryFor table "set.update.loop" =some Builtin.«set.update.loop»:=entryFor_of_fast (by kernel_rfl)
theorem jAH:plainId "set.update.loop" =true:=Ab
variable {I:Addr}
section
variable {R:Result->Shared->Prop}{fp wr:List Addr}{n:Nat}{P:Nat->Value->Prop}{St:Nat->Shared->Prop}
theorem jPO(W:WalksS prog w A.in1 I fp wr (λa b=>b=a) n P St)(S:Addr)(hSf:S∉fp)(val:Nat->Int)(hval:∀i v,P i v->∃t,v=.int (val i) t)(hv:∀i,i<n->0<=val i/\val i<32)(hn:n<=4):
  ∀(k i:Nat) (s:Shared) (ks:Ag),n-i=k->i<=n->St i s->SetG w s.heap S ks->ks.length<=i->(∀z,z∈ks↔∃j,j<i/\val j=z)->
   (∀s' ks',Moved (S::wr) (λa b=>b=a) s s'->SetG w s'.heap S ks'->(∀z,z∈ks'↔∃j,j<n/\val j=z)->R (.ok (.ret .none)) s')->
   codeAny (model prog w) A (.builtin "set.update.loop" ⟨[.ref S,.ref I],[]⟩) R s:=by
 have hSw:S∉wr:=λh=>hSf (W.sub _ h);have sub1:∀b∈wr,b∈S::wr:=λb hb=>ag _ hb;intro k
 induction k with
 |zero=>
  intro i s ks hk hi hst hS hl hm hR;obtain rfl:i=n:=Aa;refine cm jBT ?_;rw[ck jAH _];show wpAny _ A.in1 (pyNext (.ref I) >>= _) _ _ s;refine ab (W.done s _ _ hst λs' mv=>?_);show wpAny _ A.in1 (ret Value.none) _ _ s';exact ah (hR s' ks (mv.mono sub1) (hS.at λo e=>mv.heap S o hSw e) hm)
 |succ k ih=>
  intro i s ks hk hi hst hS hl hm hR;have hlt:i<n:=Aa;refine cm jBT ?_;rw[ck jAH _];show wpAny _ A.in1 (pyNext (.ref I) >>= _) _ _ s;refine ab (W.item i s _ _ hlt hst λv s' hP hst' mv=>?_);obtain⟨t,rfl⟩:=hval i v hP;have hS':=hS.at (h':=s'.heap) λo e=>mv.heap S o hSw e;show wpAny _ A.in1 (holding [Value.int (val i) t] (setAdd S (.int (val i) t)) >>= _) _ _ s';refine ab (bE ?_);unfold setAdd;refine bE (ab (wpAny_pyHash_int ?_));refine jXW (s:= {s' with toks:=s'.toks+1}) hS' Aa (hv i hlt).1 (hv i hlt).2 λb h' ks' sb hS2 hm2 hl2=>?_;refine ah ⟨eC jAH _,ih (i+1) _ ks' Aa hlt (W.frame _ s' _ _ hst' (dH _) λb hb o e=>?_) hS2 Aa (λz=>?_) λs'' ks'' mv2 hS3 hm3=>?_⟩
  .rw[sb.2 b (λh:b=S=>hSf (by rw[<- h];exact hb))];exact e
  .rw[hm2,hm];constructor
   .rintro (h|⟨j,hj,e⟩)
    .exact⟨i,Aa,h.symm⟩
    .exact⟨j,Aa,e⟩
   .rintro ⟨j,hj,e⟩;by_cases hji:j=i
    .exact .inl (by rw[<- e,hji])
    .exact .inr ⟨j,Aa,e⟩
  .refine hR s'' ks'' (Moved.trans W.gtrans ((mv.mono sub1).then_heap (dH _) λb o hb e=>?_) mv2) hS3 hm3;rw[sb.2 b (λh:b=S=>hb (by rw[h];exact ai))];exact e
end
section
def jUC(a:Value)
  (h:Q (.ref s.heap.objs.size) {s with heap:=s.heap.push {cls:=.type "set",dict:=none,data:=.set #[] 0 (.fresh 0 0 (ledW w))}}):
  codeAny (model prog w) A (.call (.builtin "set.__new__") ⟨[.type "set",a],[]⟩) (wants Q E) s:=by
 refine codeAny_of_tree (show wpAny _ A.in1 (do checkBuiltinCall "set.__new__" ⟨[.type "set",a],[]⟩;again (.builtin "set.__new__" ⟨[.type "set",a],[]⟩)) _ _ s from ?_);refine ab (wpAny_of_eq (F.newCall_set_1 a) (ah ⟨eC F.plain_set_new _,cm F.entry_set_new ?_⟩));rw[ck F.plain_set_new _];unfold Builtin.«set.__new__» Builtin.Frozenset.newClass;have q:=sub_set_self;obtain⟨hp,g,d,tk,os⟩:=s;dsimp only
 wp_walk
 refine eS (ah ?_);dsimp only;simp only[newObj];exact ab (wpAny_alloc (ah (ah h)))
set_option maxHeartbeats 3200000 in
theorem set_of_list{l:Addr}{items:An}{ns:Ag}(hh:A.handled=none)(hl:s.heap.IsList l items)(hi:PyProof.Rows.IntsAre items.toList ns)
  (hn:items.size<=4) (hv:∀z∈ns,0<=z/\z<32)
  (h:∀(h':Heap) (tk:Nat) (ks:Ag),SetG w h' s.heap.objs.size ks->(∀z,z∈ks↔z∈ns)->(∀b o,s.heap.get? b=some o->h'.get? b=some o)->Q (.ref s.heap.objs.size) {s with heap:=h',toks:=tk}):
  wpAny (model prog w) A (call (.type "set") [.ref l]) Q E s:=by
 obtain⟨c,tl,hmro⟩:=F.called_set.mro;have hmade:=F.called_set.made;have hsub:=F.called_set.sub;have g1:=F.called_set.notType;have g2:=F.called_set.canCreate;have g3:=F.typeCall_set_1 (.ref l);refine gl (codeAny_of_tree (show wpAny _ _ (callAny (.type "set") _) _ _ _ from ?_));refine ah ⟨Code.quiet_builtin _ Ab,cm F.entry_type_call ?_⟩;rw[Around.under_plain (weight_type_call_type "set" [.ref l] []) rfl]
 repeat (any_goals (first|assumption|wp_step))
 have hlen:items.size=ns.length:=by rw[<- aI];exact hi.length
 refine cW (jUC (.ref l) (E:=E) (Q:=λobj z=>obj=.ref s.heap.objs.size/\z= {s with heap:=s.heap.push {cls:=.type "set",dict:=none,data:=.set #[] 0 (.fresh 0 0 (ledW w))}}) ⟨rfl,rfl⟩) λr z hr=>?_;cases r with
 |error e=>exact hr
 |ok fl=>
  cases fl with
  |ret obj=>
   obtain⟨rfl,rfl⟩:=hr;generalize hO:({cls:=.type "set",dict:=none,data:=.set #[] 0 (.fresh 0 0 (ledW w))}:Obj)=oS;have hS:(s.heap.push oS).get? s.heap.objs.size=some oS:=ao _ (by rw[<- hO];rfl);have hT:Shared.TypeIs {s with heap:=s.heap.push oS} (.ref s.heap.objs.size) "set" :=⟨_,hS,by rw[<- hO]⟩;have hli:=F.called_set.init.lookup;have hbi:=F.called_set.init.bind (.ref s.heap.objs.size)
   repeat (any_goals (first|assumption|wp_step))
   refine cW (codeAny_call_builtin (R:=wants (λr z2=>r=.none/\∃h' tk ks,z2= {s with heap:=h',toks:=tk} /\SetG w h' s.heap.objs.size ks/\(∀z,z∈ks↔z∈ns)/\(∀b o,s.heap.get? b=some o->h'.get? b=some o)) E)
    F.called_set.init.plain F.entry_set_init (check_set_init_1 hT ?_)) λr2 z2 hr2=>?_
   .obtain⟨ol,hol,hcl,nl,hdl⟩:=hl;obtain⟨ocls,odict,odata,oslots⟩:=ol;simp only at hcl hdl;subst hcl;subst hdl;have hol':(s.heap.push oS).get? l=some {cls:=.type "list",dict:=odict,data:=.seq items nl,slots:=oslots}:=ae _ hol;have y1:=F.sub_list_set;have y2:=F.sub_list_frozenset;have y3:(Value.type "list" ==Value.type "dict")=false:=Ac;have hl1:(s.heap.push oS).IsList l items:=⟨_,hol',rfl,nl,rfl⟩;subst hO;unfold Builtin.«set.__init__» noKeywords Builtin.Frozenset.updateFrom;generalize hPI:pyIter=PI
    wp_walk
    subst hPI;refine db hl1 (ab (ie ?_));have hlS:l<s.heap.objs.size:=aC hol;have hz1:(s.heap.push {cls:=.type "set",dict:=none,data:=.set #[] 0 (.fresh 0 0 (ledW w))}).objs.size=s.heap.objs.size+1:=ci _ _;have nI:l≠(s.heap.push {cls:=.type "set",dict:=none,data:=.set #[] 0 (.fresh 0 0 (ledW w))}).objs.size:=by
     rw[hz1];exact aO (cP hlS)
    have nS:s.heap.objs.size∉ [(s.heap.push {cls:=.type "set",dict:=none,data:=.set #[] 0 (.fresh 0 0 (ledW w))}).objs.size,l]:=by
     rw[hz1];simp only[aA,aS,bX,iP];exact⟨aO (gh _),cr hlS⟩
    have hget:((s.heap.push {cls:=.type "set",dict:=none,data:=.set #[] 0 (.fresh 0 0 (ledW w))}).push {cls:=.type "list_iterator",data:=.fields #[.ref l,.int 0 0]}).get? s.heap.objs.size
      =some {cls:=.type "set",dict:=none,data:=.set #[] 0 (.fresh 0 0 (ledW w))}:=ae _ hS
    refine jPO ((i5 (by simp[hh]) _ l nI items).toS) s.heap.objs.size nS (λi=>ns.getD i 0) (λi v q=>PyProof.Rows.IntsAre.int_at hi i v (by rw[bH];exact q))
     (λi q=>hv _ ?_) hn (items.size-0) 0 _ [] rfl (ba _) ⟨⟨_,ao _ rfl,rfl,rfl⟩,hl1.push _⟩ ⟨⟨_,#[],0,_,hget,⟨rfl,rfl,rfl⟩,rfl,.nil,jMA _⟩,ig,ba _⟩ (ar _) (λz=>⟨λq=>by(cases q),λ⟨j,q,_⟩=>absurd q (d0 _)⟩) ?_
    .have q':i<ns.length:=by rw[<- hlen];exact q
     simp[List.getD,q']
    .intro s' ks mv S' hm;obtain⟨h',g',d',tk',os'⟩:=s';have e1:g'=s.gens:=mv.gens;have e2:d'=s.drawn:=mv.drawn;have e3:os'=s.os:=mv.os;subst e1;subst e2;subst e3;refine ah (ah ⟨rfl,h',tk',ks,rfl,S',λz=>?_,λb o e=>?_⟩)
     .rw[hm];constructor
      .rintro ⟨j,hj,e⟩;have hj':j<ns.length:=by rw[<- hlen];exact hj
       rw[<- e];simp[List.getD,hj']
      .intro hz;obtain⟨j,hj,e⟩:=dQ hz;exact⟨j,by rw[hlen];exact hj,by simp[List.getD,hj,e]⟩
     .have hb:=aC e;refine mv.heap b o ?_ (ae _ (ae _ e));rw[hz1];simp only[aA,aS,bX,iP];exact⟨aO hb,aO (cP hb)⟩
   .cases r2 with
    |error e=>exact hr2
    |ok fl2=>
     cases fl2 with
     |ret r=>
      obtain⟨rfl,h',tk,ks,rfl,hS',hm,hk⟩:=hr2
      repeat (any_goals (first|assumption|wp_step))
      exact h _ _ _ hS' hm hk
     |_=>exact hr2.elim
  |_=>exact hr.elim
end
theorem slot_si_next:Slot "set_iterator" "__next__" "set_iterator.__next__" :=
 .of (owner:= "set_iterator") (n:= "__next__") (by
   rw[ja,ge]
   kernel_rfl) Ab Ab
  Ab
  (by first
   |exact .inl Ab
   |exact .inr Ab)
  (by
   rw[jt]
   kernel_rfl)
theorem jD5:Slot "set_iterator" "__iter__" "set_iterator.__iter__" :=
 .of (owner:= "set_iterator") (n:= "__iter__") (by
   rw[ja,ge]
   kernel_rfl) Ab Ab
  Ab
  (by first
   |exact .inl Ab
   |exact .inr Ab)
  (by
   rw[jt]
   kernel_rfl)
def jCG:entryFor table "set_iterator.__next__" =some Builtin.«set_iterator.__next__»:=entryFor_of_tree (by kernel_rfl)
theorem jES:entryFor table "set.__iter__" =some Builtin.«frozenset.__iter__»:=
 entryFor_alias (id':= "frozenset.__iter__") (by kernel_rfl) rfl Ab (by kernel_rfl)
theorem jGA:entryFor table "set_iterator.__iter__" =some Builtin.«dict_keyiterator.__iter__»:=
 entryFor_alias (id':= "dict_keyiterator.__iter__") (by kernel_rfl) (by first|rfl|decide+kernel | (unfold String.splitOn;simp+decide [String.splitOnAux])) Ab
  (by kernel_rfl)
def jDF(a:Value):argsOk "set_iterator.__next__" ⟨[a],[]⟩:=by unfold argsOk;kernel_rfl
def jI2(a:Value):argsOk "set_iterator.__iter__" ⟨[a],[]⟩:=by unfold argsOk;kernel_rfl
def jGG(a:Value):argsOk "set.__iter__" ⟨[a],[]⟩:=by unfold argsOk;kernel_rfl
abbrev byTxt(w:World):Bool:=w.params.followText "set-order"
abbrev IsSI(h:Heap)(I:Addr)(slot i:Nat)(a:Addr)(n ep:Nat):Prop:=
 h.get? I=some {cls:=.type "set_iterator",dict:=none,data:=.fields #[rawInt slot,rawInt i,.ref a,rawInt n,rawInt ep],slots:=#[]}
def qP(w:World)(t:SetTable)(i:Nat):Nat:=if byTxt w=true then 0 else jJP t.place i
noncomputable def told(w:World)(a:Addr)(ep:Nat)(es:Array (Int×Value)):Al:=(if byTxt w=true then (pickOrder (w.params.setOrder a ep) es).toList else es.toList).map (·.2)
def jAO(w:World)(a:Addr)(ep:Nat)(es:Array (Int×Value)):(told w a ep es).length=es.size:=by
 unfold told;rw[af];split
 .rw[(jH3 _ es).length_eq];simp
 .simp
def jM8(w:World)(a:Addr)(ep:Nat)(es:Array (Int×Value)):(told w a ep es).Perm (es.toList.map (·.2)):=by
 unfold told;split
 .exact(jH3 _ es).map _
 .exact .refl _
variable {o:Obj}{es:Array (Int×Value)}{ep:Nat}{t:SetTable}
theorem jNO{Q:Option (Value×Nat)->Shared->Prop}(ho:s.heap.get? a=some o)(hd:o.data=.set es ep t)(T:Tab t es.size (ledW w))(hn:es.size<=4)(hi:i<=es.size)
  (h:Q ((told w a ep es)[i]?.map λv=>(v,qP w t (i+1))) s):wpAny (model prog w) A (setNext a (qP w t i) i ep) Q E s:=by
 unfold setNext;refine ab (de ho hd (T.fits hn) ?_);dsimp only;unfold setsByText;refine ab (ab (eS (ah ?_)));show wpAny _ A (if byTxt w=true then _ else _) Q E s;have hl:=jAO w a ep es;by_cases hb:byTxt w=true
 .rw[ax hb,aq Ad];unfold setWalk;refine ab (ab (de ho hd (T.fits hn) ?_));dsimp only;unfold setsByText;refine ab (ab (eS (ah ?_)));show wpAny _ A (if byTxt w=true then _ else _) _ E s;rw[ax hb];refine ab (eS (ah (ah ?_)));have e:(told w a ep es)[i]?.map (λv=>(v,qP w t (i+1)))=(pickOrder (w.params.setOrder a ep) es)[i]?.map (λe=>(e.snd,qP w t i)):=by
   unfold told qP;rw[ax hb,ax hb,ax hb,aQ,bH,Option.map_map];rfl
  rw[e] at h;exact h
 .rw[aq hb];have hb':byTxt w=false:=by simpa using hb
  have hld:t.led=true:=by rw[T.ld];show (!byTxt w)=true;rw[hb'];rfl
  show wpAny _ A (if (!t.plain&&decide (es.size>1))=true then _ else _) Q E s;rw[T.pl,kh,eG,aq am];refine ab ?_;show wpAny _ A (if (!t.led&&!es.isEmpty)=true then _ else pure ()) _ E s;rw[hld,kh,eG,aq am];refine ah (ah ?_);have eb:SetTable.below t.place (qP w t i)=i:=by
   unfold qP;rw[aq hb];exact jI1 T.ris (by rw[T.sz];exact hi)
  rw[eb];have et:(told w a ep es)[i]?=es[i]?.map (·.2):=by
   unfold told;rw[aq hb,aQ,bH]
  rw[et] at h;by_cases hlt:i<es.size
  .have h1:es[i]?=some es[i]:=by simp[hlt]
   have hlt2:i<t.place.size:=by rw[T.sz];exact hlt
   have h2:t.place[i]?=some t.place[i]:=by simp[hlt2]
   have h3:qP w t (i+1)=t.place[i]+1:=by
    unfold qP jJP;rw[aq hb];simp[Array.getD,hlt2]
   rw[h1,h3] at h;rw[h1,h2];exact h
  .have h1:es[i]?=none:=(by simp;lia);rw[h1] at h;rw[h1];exact h
def jGW{v:Value}{Q:Option Value->Shared->Prop}(ho:s.heap.get? a=some o)(hd:o.data=.set es ep t)(T:Tab t es.size (ledW w))(hn:es.size<=4)
  (hit:IsSI s.heap I (qP w t i) i a es.size ep) (hv:(told w a ep es)[i]?=some v)
  (hQ:∀h',IsSI h' I (qP w t (i+1)) (i+1) a es.size ep->Heap.SameBut I s.heap h'->Q (some v) {s with heap:=h'}):wpAny (model prog w) A (pyNext (.ref I)) Q E s:=by
 have hT:s.TypeIs (.ref I) "set_iterator" :=⟨_,hit,rfl⟩;have hi:i<es.size:=by
  rw[<- jAO w a ep es];exact(aj.mp hv).1
 unfold pyNext;refine ab (dw (bF (name:=Str.ofString "__next__") hT slot_si_next (bQ slot_si_next hT jCG ?_ (jDF _))));unfold Builtin.«set_iterator.__next__»;refine ab (m:=slotArgs "__next__" 0 _) (ah ?_);dsimp only;unfold fieldsOf;refine ab (ab (gf hit ?_));refine ah ?_;dsimp only[rawInt];unfold setEntries;refine ab (ab (de ho hd (T.fits hn) (ah ?_)));rw[aq Ad];simp only[aX];refine ab (jNO ho hd T hn (cV hi) ?_);rw[hv];dsimp only[Option.map];refine ab (bD hit Ad λh1 hit1 sb1=>?_);refine ab (bD hit1 Ad λh2 hit2 sb2=>?_);refine ah ⟨v,rfl,ah (hQ h2 ?_ (sb1.trans sb2))⟩;show h2.get? I=_;rw[hit2];simp[rawInt]
def jIJ{Q:Option Value->Shared->Prop}(hh:A.handled=none)(ho:s.heap.get? a=some o)(hd:o.data=.set es ep t)(T:Tab t es.size (ledW w))(hn:es.size<=4)
  (hit:IsSI s.heap I (qP w t es.size) es.size a es.size ep)
  (hQ:∀h',Heap.ExtBut I s.heap h'->Q none {s with heap:=h'}):wpAny (model prog w) A (pyNext (.ref I)) Q E s:=by
 have hT:s.TypeIs (.ref I) "set_iterator" :=⟨_,hit,rfl⟩;unfold pyNext;refine ab (dw (bF (name:=Str.ofString "__next__") hT slot_si_next (bQ slot_si_next hT jCG ?_ (jDF _))));unfold Builtin.«set_iterator.__next__»;refine ab (m:=slotArgs "__next__" 0 _) (ah ?_);dsimp only;unfold fieldsOf;refine ab (ab (gf hit ?_));refine ah ?_;dsimp only[rawInt];unfold setEntries;refine ab (ab (de ho hd (T.fits hn) (ah ?_)));rw[aq Ad];simp only[aX];refine ab (jNO ho hd T hn (ar _) ?_);rw[cU (by rw[jAO];exact ar _)];dsimp only[Option.map];refine ab (bD hit Ad λh1 hit1 sb1=>?_);refine ab ?_;simp only[newExc,newTuple];refine ab (bZ ?_ (by size_fits));refine ab (m:=firstArgMember _ _) (wpAny_of_eq (a:=Value.none) (by first|rfl | (simp only[firstArgMember];rfl)) ?_);refine bZ ?_ (by size_fits);simp only[raiseNew];refine ab (wpAny_handled ?_);rw[show A.in1.handled=none from hh];refine ab (ah (wpAny_throw ?_));refine ab (gm (T:= "StopIteration") (b:=true) ⟨_,ao _ rfl,rfl⟩ ju ?_);exact ah (hQ _ ((sb1.extBut.push _).push _))
def jT0{slot n:Nat}(hit:IsSI s.heap I slot i a n ep)(h:Q (.ref I) s):wpAny (model prog w) A (pyIter (.ref I)) Q E s:=by
 have hT:s.TypeIs (.ref I) "set_iterator" :=⟨_,hit,rfl⟩;refine wpAny_pyIter_slot hT jD5 (bQ jD5 hT jGA ?_ (jI2 _));show wpAny _ _ (ret (.ref I)) _ _ s;exact ah ⟨_,rfl,"set_iterator",_,hT,slot_si_next.lookup,h⟩
theorem jPS(hx:o.ExactSet)(ho:s.heap.get? a=some o)(hd:o.data=.set es ep t)(T:Tab t es.size (ledW w))(hn:es.size<=4)
  (hQ:∀h',h'.get? s.heap.objs.size=some {cls:=.type "set_iterator",dict:=none,data:=.fields #[rawInt (qP w t 0),rawInt 0,.ref a,rawInt es.size,rawInt ep],slots:=#[]} ->(∀b u,s.heap.get? b=some u->h'.get? b=some u)->
   h'.objs.size=s.heap.objs.size+1->Q (.ref s.heap.objs.size) {s with heap:=h'}):wpAny (model prog w) A (pyIter (.ref a)) Q E s:=by
 have hT:s.TypeIs (.ref a) "set" :=⟨o,ho,hx.1⟩;refine wpAny_pyIter_slot hT jm (bQ jm hT jES ?_ (jGG _));unfold Builtin.«frozenset.__iter__»;refine ab (show wpAny _ _ (pure a:Sem Addr) _ _ s from ah ?_);unfold Builtin.Frozenset.sizeOf setEntries;refine ab (ab (ab (de ho hd (T.fits hn) (ah (ah ?_)))));dsimp only;unfold setDrawn;refine ab (ab (de ho hd (T.fits hn) ?_));dsimp only;unfold setsByText;refine ab (ab (eS (ah (ah ?_))));show wpAny _ _ (if (!byTxt w&&(!t.plain&&decide (es.size>1)))=true then _ else _) _ _ s;rw[T.pl,kh,eG,jr,aq am];refine ab (ah ?_);refine ab (wpAny_setEpoch_of ho hd (T.fits hn) ?_);refine ab (bZ (ah ⟨_,rfl,"set_iterator",_,⟨_,ao _ rfl,rfl⟩,slot_si_next.lookup,hQ _ ?_ (λb u e=>ae _ e) (ci _ _)⟩) (by size_fits));have e0:qP w t 0=0:=by unfold qP jJP;split<;>rfl
 rw[e0];exact ao _ rfl
def jM1(hh:A.handled=none)(hne:a≠I)(hd:o.data=.set es ep t)(T:Tab t es.size (ledW w))(hn:es.size<=4):
  Walks prog w A I [I,a] [I] es.size (λi v=>(told w a ep es)[i]?=some v) (λi h=>IsSI h I (qP w t i) i a es.size ep/\h.get? a=some o) where
 sub:=λb hb=>by simp at hb;simp[hb]
 frame:=λ_ _ _ st hk=>⟨hk I Ad _ st.1,hk a Ad _ st.2⟩
 item:=λi s Q E hi st hQ=>by
  obtain⟨v,hv⟩:∃v,(told w a ep es)[i]?=some v:=⟨_,az (by rw[jAO];exact hi)⟩;exact jGW st.2 hd T hn st.1 hv λh' hit' sb=>hQ v h' s.toks hv ⟨hit',(sb.2 a hne).trans st.2⟩ λb o hb e=>(sb.2 b (λz=>hb (by simp[z]))).trans e
 done:=λs Q E st hQ=>jIJ hh st.2 hd T hn st.1 λh' eb=>hQ h' s.toks λb o hb e=>eb b o (λz=>hb (by simp[z])) e
 self:=λ_ _ _ _ st hQ=>jT0 st.1 hQ
def jGU:typeLookup (.type "set") "__len__" =pure (some (.builtin "set.__len__")):=by rw[ja,ge];kernel_rfl
theorem jR6{Q:Bool->Shared->Prop}(hT:s.TypeIs (.ref a) "set")(h:Q false s):wpAny (model prog w) A (Builtin.List.listLengthHint (.ref a)) Q E s:=by
 unfold Builtin.List.listLengthHint;refine ab (wpAny_specialOf hT jGU ?_);generalize hid:("set.__len__":String)=id0
 wp_delta
 rw[show splitId id0=some ("set","__len__") from by subst hid;decide+kernel];subst hid;refine ab (gm (b:=true) hT (by rw[jt];kernel_rfl) ?_);refine wpAny_ite_split (λq=>absurd q Ac) (λ_=>?_);refine wpAny_ite_split (λ_=>?_) (λq=>absurd Ab q);exact ab (eR hT (ah h))
theorem jJF{Q:List Value->Shared->Prop}(hh:A.handled=none)(hx:o.ExactSet)(ho:s.heap.get? a=some o)(hd:o.data=.set es ep t)(T:Tab t es.size (ledW w))(hn:es.size<=4)
  (hQ:∀s',(∀b u,s.heap.get? b=some u->s'.heap.get? b=some u)->s'.gens=s.gens->s'.drawn=s.drawn->s'.os=s.os->s.heap.objs.size<s'.heap.objs.size->Q (told w a ep es) s'):wpAny (model prog w) A (collect (.ref a)) Q E s:=by
 have ha:a<s.heap.objs.size:=aC ho;have hSa:s.heap.objs.size≠a:=cr ha;unfold collect;refine ab (ie (cm PySem.F.entry_proto_collect ?_));rw[ck g4 _];show wpAny _ A.in1 (newList [] >>= λl=>again (.builtin "list.__iadd__" ⟨[l,.ref a],[]⟩)) _ _ s;refine ab (bZ (ah ⟨eC dS _,cm PySem.F.entry_list_iadd ?_⟩));rw[ck dS _];generalize hE:({s with heap:=s.heap.push {cls:=.type "list",dict:=none,data:=.seq ([]:Al).toArray}}:Shared)=s1;have ho1:s1.heap.get? a=some o:=by rw[<- hE];exact ae _ ho
 have hL1:s1.heap.get? s.heap.objs.size=some {cls:=.type "list",dict:=none,data:=.seq ([]:Al).toArray}:=by rw[<- hE];exact ao _ rfl
 have hz1:s1.heap.objs.size=s.heap.objs.size+1:=by rw[<- hE];exact ci _ _
 have hT1:s1.TypeIs (.ref a) "set" :=⟨o,ho1,hx.1⟩;show wpAny _ A.in1 (Builtin.List.listExtendWith (.ref s.heap.objs.size) (.ref a) (.ref s.heap.objs.size)) _ _ _;unfold Builtin.List.listExtendWith;refine ab (eR hT1 ?_);have q1:Builtin.List.listSameRef (.ref s.heap.objs.size) (.ref a)=false:=by simp[Builtin.List.listSameRef,hSa]
 rw[aq (by rw[q1];decide)];refine ab (jPS hx ho1 hd T hn λh2 hI2 k2 z2=>?_);refine ab (bE ?_);have ho2:h2.get? a=some o:=k2 _ _ ho1;have hT2:Shared.TypeIs {s1 with heap:=h2} (.ref a) "set" :=⟨o,ho2,hx.1⟩;have hL2:=k2 _ _ hL1;refine jR6 hT2 ?_;rw[ax Ab];refine ab (cG ?_);have hne:s.heap.objs.size≠s1.heap.objs.size:=Aa;refine ab ?_;show wpAny _ A.in1 (updateSeq s.heap.objs.size (·.push .none) >>= λ_=>updateSeq s.heap.objs.size (·.pop)) _ _ _;refine ab (wpAny_updateSeq hL2 rfl ?_);have hL3:=dB (Obj.mapSeq (·.push Value.none)) hL2 rfl;refine wpAny_updateSeq hL3 rfl ?_;have hL4:=dB (Obj.mapSeq (·.pop)) hL3 rfl;have oth:∀b u,b≠s.heap.objs.size->h2.get? b=some u->((h2.update s.heap.objs.size (Obj.mapSeq (·.push Value.none))).update s.heap.objs.size (Obj.mapSeq (·.pop))).get? b=some u:=
  λb u hb e=>(bu _ _ (ce hb)).trans ((bu _ _ (ce hb)).trans e)
 have W:=(jM1 (prog:=prog) (A:=A.in1) (a:=a) (I:=s1.heap.objs.size) hh (aO (show a<s1.heap.objs.size by rw[hz1];exact cP ha)) hd T hn).toS;have z24:es.size<=sizeLine:=by rw[show sizeLine=2^24 from rfl];lia
 refine ah ⟨eC PySem.F.plain_extend_loop _,codeAny_extend_loopS W z24 s.heap.objs.size (by simp[hne,hSa]) _ es.size 0 _ _ _ rfl (ba _) ⟨oth _ _ (ce hne) hI2,oth _ _ (ce hSa) ho2⟩ hL4 (ItemsOf.nil _) λs' acc' c' hm hS' hacc=>?_⟩;show wpAny _ A (load s.heap.objs.size >>= _) _ _ s';refine ab (gf hS' ?_);have eacc:acc'.toList=told w a ep es:=by
  apply List.ext_getElem?;intro i;by_cases hi:i<es.size
  .have hi':i<acc'.size:=by rw[hacc.1];exact hi
   have:=hacc.2 i acc'[i] (by simp[hi']);rw[this];simp[hi']
  .rw[cU (by rw[aI,hacc.1];lia),cU (by rw[jAO];lia)]
 refine ah ?_;rw[eacc];refine hQ s' (λb u e=>?_) ?_ ?_ ?_ (aC hS')
 .have hb:b≠s.heap.objs.size:=aO (aC e);have hb1:b≠s1.heap.objs.size:=aO (show b<s1.heap.objs.size by rw[hz1];exact cP (aC e));exact hm.heap b u (by simp[hb,hb1]) (oth b u hb (k2 b u (by rw[<- hE];exact ae _ e)))
 .have:=hm.gens;rw[<- hE] at this;exact this
 .have:=hm.drawn;rw[<- hE] at this;exact this
 .have:=hm.os;rw[<- hE] at this;exact this
end SS
namespace SS
open PySem PyProof.Rows
section
variable {prog:Program}{w:World}{A:Around}{E:Ah}{s:Shared}{a:Addr}{ks:Ag}
def jOK:∀{vs:Al}{ks:Ag},Paired (λv k=>∃t,v=Value.int k t) vs ks->IntsAre vs ks
 |_,_,.nil=> .nil
 |_,_,.cons ⟨t,e⟩ r=>by subst e;exact .cons _ t (jOK r)
def jF6{es:List (Int×Value)}:∀{ks:Ag},Paired El es ks->Paired (λv k=>∃t,v=Value.int k t) (es.map (·.2)) ks
 |_,.nil=> .nil
 |_,.cons ⟨_,q⟩ r=> .cons q (jF6 r)
def jIN{α β:Type}{F:α->β->Prop}{l l':List α}(p:l'.Perm l):∀{r:List β},Paired F l r->∃r',Paired F l' r'/\r'.Perm r:=by
 induction p with
 |nil=>intro r h;cases h;exact⟨[],.nil,.nil⟩
 |cons x _ ih=>
  intro r h;cases h with
  |cons f t=>
   obtain⟨r',h1,h2⟩:=ih t;exact⟨_::r',.cons f h1,h2.cons _⟩
 |swap x y l=>
  intro r h;cases h with
  |cons f t=>
   cases t with
   |cons g t=>exact⟨_,.cons g (.cons f t),.swap _ _ _⟩
 |trans _ _ ih1 ih2=>
  intro r h;obtain⟨r1,h1,h2⟩:=ih2 h;obtain⟨r2,h3,h4⟩:=ih1 h1;exact⟨r2,h3,h4.trans h2⟩
theorem sorted_set{Q:Ah}(hh:A.handled=none)(S:SetG w s.heap a ks)
  (h:∀(s':Shared) (l:Addr) (vs:Al) (ns:Ag) (e:Nat),s.heap.objs.size<=l->(∀b u,s.heap.get? b=some u->s'.heap.get? b=some u)->s'.gens=s.gens->s'.drawn=s.drawn->s'.os=s.os->
   s'.heap.get? l=some {cls:=.type "list",data:=.seq vs.toArray e} ->IntsAre vs ns->ns.Perm ks->ns.Pairwise (· <= ·)->Q (.ref l) s'):
  wpAny (model prog w) A (call (.builtin "sorted") [.ref a]) Q E s:=by
 obtain⟨o,es,ep,t,ho,hex,hd,hp,T⟩:=S.ex;have hn:es.size<=4:=by
  have:=fb hp;rw[aI] at this;have:=S.len;lia
 refine iB kind_sorted plain_sorted entry_sorted (args_sorted1 _) ?_;unfold Builtin.«sorted»;refine ab (m:=checkCount "sorted" 1 1 _) (ah ?_);refine ab (jJF (A:=A.in1) hh hex ho hd T hn λs1 k1 g1 d1 o1 z1=>?_);refine ab (eD ?_ (by rw[jAO,show sizeLine=2^24 from rfl];lia));obtain⟨ks1,hp1,pm1⟩:=jIN (jM8 w a ep es) (jF6 hp);have hI:=jOK hp1;have hl:(told w a ep es).length<64:=by rw[jAO];lia
 have hL:(s1.heap.push (seqObj "list" (told w a ep es).toArray 0)).get? s1.heap.objs.size=some (seqObj "list" (told w a ep es).toArray 0):=ao _ rfl;show wpAny _ _ _ _ _ {s1 with heap:=s1.heap.push (seqObj "list" (told w a ep es).toArray 0)};refine ab (bE (bQ ik ⟨_,hL,rfl⟩ gJ (list_sort_tree hL hI hl λout ns' a1 a2 a3=>⟨_,rfl,?_⟩) (args_list_sort _)));obtain⟨e,he⟩:=sortedHeap_at (out:=out) hL;have kept:∀b u,s.heap.get? b=some u->(sortedHeap (s1.heap.push (seqObj "list" (told w a ep es).toArray 0)) s1.heap.objs.size (told w a ep es) out).get? b=some u:=λb u q=>by
  have q1:=k1 b u q;have hb:b<s1.heap.objs.size:=aC q1;rw[sortedHeap_old (aO hb) (by rw[im];exact cP hb)];exact ae _ q1
 generalize sortedHeap (s1.heap.push (seqObj "list" (told w a ep es).toArray 0)) s1.heap.objs.size (told w a ep es) out=hf at he kept ⊢;exact ah ⟨_,rfl,h {s1 with heap:=hf} s1.heap.objs.size out.toList ns' e (cV z1) kept g1 d1 o1 (by rw[cX];exact he) a1 (a2.trans pm1) a3⟩
end
end SS
namespace L2
open PySem PySem.Spec PyProof.Rows
variable {a l2 l1 z it i2 i1:Addr}{tp t2 t1:Bool}{kw:List Keyword}{xs ys:An}{op:Operator}{h h':Heap}{tg c:Expr}{Q E:Ah}{b y:Value}{r:List V->Hp->VK->Prop}{k2 k1 i x1 n:Nat}{elts rest:List Expr}{x:Str}{prog:Program}{σ:St}{t:TS}{lw:Ai}{body:List Stmt}{p:Pos}
variable {es xs:List Expr}{env:Env}{a b:Expr}{pos:Pos}
section
variable {ys:List Expr}
def y0:starEach (.BinOp a op b pos::es) env=(false,eval (.BinOp a op b pos) env)::starEach es env:=rfl
def se_un{op:UnaryOp}:starEach (.UnaryOp op a pos::es) env=(false,eval (.UnaryOp op a pos) env)::starEach es env:=rfl
def jF3{ops:List CmpOp}:starEach (.Compare a ops xs pos::es) env=(false,eval (.Compare a ops xs pos) env)::starEach es env:=rfl
def jE:starEach (.Call a xs kw pos::es) env=(false,eval (.Call a xs kw pos) env)::starEach es env:=rfl
def jJ:starEach (.Subscript a b pos::es) env=(false,eval (.Subscript a b pos) env)::starEach es env:=rfl
def jP{gs sc}:starEach (.ListComp a gs sc pos::es) env=(false,eval (.ListComp a gs sc pos) env)::starEach es env:=rfl
def yB{x1}:starEach (.Tuple xs x1 pos::es) env=(false,eval (.Tuple xs x1 pos) env)::starEach es env:=rfl
def jVU:starEach (.List xs pos::es) env=(false,eval (.List xs pos) env)::starEach es env:=rfl
def kI{c k}:starEach (.Constant c k pos::es) env=(false,eval (.Constant c k pos) env)::starEach es env:=rfl
def j4:starEach (.Name x pos::es) env=(false,eval (.Name x pos) env)::starEach es env:=rfl
end
variable {X:Cx}
def CDivL(i j:Int):Prop:=0<j/\j<2^64
theorem jK2:OpR X (binaryOp .FloorDiv) (rI CDivL λi j=> .int (i/j)):=opI λi j _ _ _ _ _ hc q=>by
 have h1:(0:Int)<j:=hc.1;have h2:j<2^64:=hc.2;refine floordiv_int Aa (by rw[hG i Aa];exact q) (.inl (PyProof.noPylong_of_log2 ?_));have h3:j.natAbs<2^64:=Aa;have h4:j.natAbs≠0:=Aa;have:=(Nat.log2_lt h4).mpr h3;lia
inductive IsiR(K:W.Frag)(xs:List V)(H:Hp)(Q:VK):Prop|i(x T t b:_)(_:xs=[x,.ty T])(_:TyOf K H x t)(_:kitOne K t (.type T)=some b)(_:Q (.bl b) H)
def kG:qA X (.builtin "isinstance") (IsiR X.K):=by
 intro lw s σ H xs us Q I r h;obtain⟨x,T,t,b,rfl,ty,e,q⟩:=h;obtain⟨u,v,rfl,ru,rv⟩:=r.two;cases rv;exact jOJ I ru ty e λtk=>⟨.bl b,H,I.tok tk,rfl,q⟩
inductive jT3(x:V)(vs:List V)(H:Hp)(Q:VK):Prop|i(l xs i y:_)(_:x=.ref l)(_:vs=[.int i,y])(_:H l=some (.lst xs))(_:0<=i)(_:i<=xs.length)(_:xs.length<sizeLine)(_:Q .non (upd H l (.lst (xs.take i.toNat++y::xs.drop i.toNat))))
def Vals.put{y:V}{v:Value}(r:RelV y v){xs:List V}{us:Al}(h:Vals xs us)(k:Nat):Vals (xs.take k++y::xs.drop k) (us.take k++v::us.drop k):=(h.take k).append (.cons r (h.drop k))
theorem jNV:MtM X "list.insert" jT3:=by
 intro lw s σ H x vs v us Q I rx rv h;obtain⟨l,xs,i,y,rfl,rfl,hH,h0,h1,hz,q⟩:=h;cases rx;obtain⟨a,b,rfl,ra,rb⟩:=rv.two;obtain⟨t,rfl⟩:=ra;obtain⟨z,its,n,r,hl,e⟩:=I.lstM hH;have line:=jHF;have hf:Builtin.List.listFitsIndex i=true:=fitsIndex_both Aa Aa;refine kq F.slot_list_insert ⟨_,e,rfl⟩ F.entry_list_insert (F.args_list_insert_3 _ _ _) (AutoSeq1.list_insert_list_int_val_1 l its.toArray n i t b (by simp[hf]) (by rw[aK];lia)) ⟨e,?_⟩;refine⟨.non,_,I.lset (its':=its.take i.toNat++b::its.drop i.toNat) hH e ?_ (Vals.put rb r i.toNat) ?_,rfl,q⟩
 .have hk:(if i<0 then (i+(its.toArray.size:Int)).toNat else min i.toNat its.toArray.size)=i.toNat:=by
   rw[aq Aa,aK];lia
  show (its.toArray.extract 0 (if i<0 then (i+(its.toArray.size:Int)).toNat else min i.toNat its.toArray.size)).push b++its.toArray.extract (if i<0 then (i+(its.toArray.size:Int)).toNat else min i.toNat its.toArray.size)=_;rw[hk];apply Array.ext';simp[dD,bx]
 .rw[ak,aV,bi,dy];lia
inductive rEqE(K:W.Frag)(x y:V)(H:Hp)(Q:VK):Prop|i(p q xs:_)(_:x=.ref p)(_:y=.ref q)(_:SqT K H p xs)(_:SqT K H q [])(_:Q (.bl (decide (xs=[]))) H)
theorem jWN(hu:X.A.units<cLine):OpR X (compareOp .Eq) (rEqE X.K):=by
 intro lw s σ H x y v u Q I rx ry h;obtain⟨p,q,xs,rfl,rfl,hp,hq,k⟩:=h;cases rx;cases ry;obtain⟨its,r,t1,_⟩:=I.tuple hp;obtain⟨its2,r2,t2,_⟩:=I.tuple hq;have e2:its2=[]:=r2.zero;subst e2;refine SeqAt.eq_tupleAt (e:=λ_=>true) (show s.heap.IsTuple p its.toArray from t1) (show s.heap.IsTuple q ([]:Al).toArray from t2) hu (λj h1 h2=>absurd h2 Ad) ⟨.bl _,H,I,rfl,?_⟩;have hl:=r.length;have e:((List.range (min its.toArray.size ([]:Al).toArray.size)).all (λ_=>true)&&its.toArray.size==([]:Al).toArray.size)=decide (xs=[]):=by
  cases xs with
  |nil=>
   have:its=[]:=by simpa using hl.symm
   subst this;rfl
  |cons a b=>
   have:its.length≠0:=by rw[<- hl];simp
   simp[this]
 rw[e];exact k
def jCH(hc:X.calm=true):qA X (.builtin "all") (λxs H Q=>∃(p:Addr) (bs:List Bool),xs=[.ref p]/\SqL X.K H p (bs.map V.bl)/\Q (.bl (bs.all id)) H):=by
 intro lw s σ H xs us Q I r h;obtain⟨p,bs,rfl,hq,q⟩:=h;obtain⟨u,rfl,rx⟩:=r.one;cases rx;obtain⟨its,r',pl,hz⟩:=I.list hq;have hlen:=r'.length;rw[af] at hlen;refine call_all_walk (db pl.isList ?_);have hne:p≠s.heap.objs.size:=by
  obtain⟨o,ho,_⟩:=pl.isList;exact aO (aC ho)
 refine⟨s.heap.objs.size,_,_,_,_,_,λi=>bs.getD i true,rfl,i5 (by simpa using I.ok.hd hc) _ p hne its.toArray,⟨⟨_,ao _ rfl,rfl,rfl⟩,pl.isList.push _⟩,λi v z Q' E' hP hQ'=>?_,λh' tk hk=>?_⟩
 .have hi:its[i]?=some v:=by simpa using hP
  have hb:i<bs.length:=by
   rw[hlen];exact(aj.mp hi).1
  obtain⟨u,hu,ru⟩:=r'.get (i:=i) (x:=.bl (bs[i])) (by simp[hb]);rw[hi] at hu;cases hu;cases ru;have e:bs.getD i true=bs[i]:=by simp[List.getD,hb]
  have hQ2:Q' (bs.getD i true) z:=hQ';rw[e] at hQ2;exact ah hQ2
 .have e:(List.range its.toArray.size).all (λi=>bs.getD i true)=bs.all id:=by
   rw[aK,<- hlen];rw[cB,cj,cj];constructor
   .intro a b hb;obtain⟨i,hi,rfl⟩:=dQ hb;have:=a i (bR.mpr hi);simpa [List.getD,hi] using this
   .intro a i hi;have hi:=bR.mp hi;have:=a bs[i] (cK hi);simpa [List.getD,hi] using this
  rw[e];exact⟨.bl _,H,I.kept (t':=tk) λb o e=>hk b o (by
   intro z;have z:b=s.heap.objs.size:=by simpa using z
   exact absurd (aC e) (by rw[z];exact cO _)) (ae _ e),rfl,q⟩
def qL(n:Nat):List V:=(List.range n).map λ(i:Nat)=>V.int (i:Int)
theorem jKZ{acc:An}(h:ItemsOf (λi v=>∃t,v=Value.int (0+(i:Int)*1) t) acc n):Vals (qL n) acc.toList:=by
 have key:∀(l:Al) (k:Nat),(∀j v,l[j]?=some v->∃t,v=Value.int ((k+j:Nat):Int) t)->Vals ((List.range' k l.length).map λ(i:Nat)=>V.int (i:Int)) l:=by
  intro l
  induction l with
  |nil=>intro k _;exact .nil
  |cons v l ih=>
   intro k hk;rw[aV,List.range'_succ,aW];refine .cons ?_ (ih (k+1) λj u hj=>?_)
   .obtain⟨t,e⟩:=hk 0 v rfl;exact⟨t,by simpa using e⟩
   .obtain⟨t,e⟩:=hk (j+1) u (by simpa using hj);exact⟨t,by rw[e];congr 1;lia⟩
 have:=key acc.toList 0 λj v hj=>by
  obtain⟨t,e⟩:=h.2 j v (by simpa using hj);exact⟨t,by rw[e];congr 1;lia⟩
 rw[aI,h.1] at this;unfold qL;rw[List.range_eq_range'];exact this
def jC2:qA X (.type "range") (λxs H Q=>∃j:Int,xs=[.int j]/\∀p,H p=none->Q (.ref p) (upd H p (.rng 0 j))):=by
 intro lw s σ H xs us Q I r h;obtain⟨j,rfl,q⟩:=h;obtain⟨u,rfl,t,rfl⟩:=r.one;refine call_range_1 ⟨.ref s.heap.objs.size,_,I.laid (o:=.rng 0 j) (λb o e=>ae _ e) (ar _) ?_,rfl,q _ I.fresh⟩;exact⟨_,_,_,ao _ rfl⟩
theorem jB7(hc:X.calm=true):qA X (.type "list") (λxs H Q=>∃p j,xs=[.ref p]/\H p=some (.rng 0 j)/\0<=j/\j<=1000/\∀l,H l=none->Q (.ref l) (upd H l (.lst (qL j.toNat)))):=by
 intro lw s σ H xs us Q I r h;obtain⟨p,j,rfl,hp,h0,h1,q⟩:=h;obtain⟨u,rfl,rx⟩:=r.one;cases rx;obtain⟨t,u,v,e⟩:=I.hok p _ hp;have en:Builtin.Range.rangeSize 0 j 1=(j.toNat:Int):=by
  rw[rangeSize_one];split<;>lia
 refine call_list_range (I.ok.hd hc) (show IsRange s.heap p 0 j 1 t u v from e) (small_one Aa Aa Aa Aa) en Aa λh' tk acc' c' kp hS hacc=>?_;refine⟨.ref s.heap.objs.size,_,I.laid (t':=tk) (o:=.lst (qL j.toNat)) kp (ar _) ?_,rfl,q _ I.fresh⟩;refine⟨?_,acc'.toList,c',jKZ hacc,by rw[cX];exact hS⟩;unfold qL;rw[af,b8,dv];lia
def SetO(w:World)(a:Addr)(ks:Ag):HO:=.ext λh=>SS.SetG w h a ks
def jAX{ns:Ag}:∀{us:Al},Vals (ns.map V.int) us->IntsAre us ns:=by
 induction ns with
 |nil=>intro us h;cases h;exact .nil
 |cons n ns ih=>
  intro us h;cases h with
  |cons r t=>
   obtain⟨k,rfl⟩:=r;exact .cons n k (ih t)
def jA4:∀{us:Al}{ns:Ag},IntsAre us ns->Vals (ns.map V.int) us
 |_,_,.nil=> .nil
 |_,_,.cons n t r=> .cons ⟨t,rfl⟩ (jA4 r)
theorem jP7(hc:X.calm=true):qA X (.type "set") (λxs H Q=>∃(p:Addr) (ns:Ag),xs=[.ref p]/\SqL X.K H p (ns.map V.int)/\ns.length<=4/\(∀z∈ns,0<=z/\z<32)/\
  ∀(l:Addr) (ks:Ag),H l=none->(∀z,z∈ks↔z∈ns)->Q (.ref l) (upd H l (SetO X.w l ks))):=by
 intro lw s σ H xs us Q I r h;obtain⟨p,ns,rfl,hq,hl,hv,q⟩:=h;obtain⟨u,rfl,rx⟩:=r.one;cases rx;obtain⟨its,r',pl,hz⟩:=I.list hq;have hlen:=r'.length;rw[af] at hlen;refine SS.set_of_list (I.ok.hd hc) pl.isList (jAX r') (by rw[aK];lia) hv λh' tk ks S hm kp=>?_;have hg:∃o,h'.get? s.heap.objs.size=some o:=let ⟨o,_,_,_,e,_⟩:=S.ex;⟨o,e⟩;exact⟨.ref s.heap.objs.size,_,I.laid (t':=tk) (o:=SetO X.w s.heap.objs.size ks) kp (ar _) ⟨S,hg,λh1 h2 a b=>a.at b⟩,rfl,q _ ks I.fresh hm⟩
theorem jET(hc:X.calm=true):qA X (.builtin "sorted") (λxs H Q=>∃(p:Addr) (ks:Ag),xs=[.ref p]/\H p=some (SetO X.w p ks)/\
  ∀(l:Addr) (ns:Ag),H l=none->ns.Pairwise (· < ·)->(∀z,z∈ns↔z∈ks)->Q (.ref l) (upd H l (.lst (ns.map V.int)))):=by
 intro lw s σ H xs us Q I r h;obtain⟨p,ks,rfl,hp,q⟩:=h;obtain⟨u,rfl,rx⟩:=r.one;cases rx;obtain⟨S,_,_⟩:=I.hok p _ hp;refine SS.sorted_set (I.ok.hd hc) S λs' l vs ns e hl kp g d o he hi pm srt=>?_;obtain⟨h',g',d',t',o'⟩:=s';have g:g'=s.gens:=g;have o:o'=s.os:=o;have d:d'=s.drawn:=d;subst g;subst o;subst d;have nd:ns.Nodup:=pm.nodup_iff.mpr S.nd;have lt:ns.Pairwise (· < ·):=by
  have:=List.Pairwise.and srt nd;exact this.imp λ{a b} ⟨x,y⟩=>by lia
 have hz:(ns.map V.int).length<=sizeLine:=by
  rw[af,pm.length_eq,dv];have:=S.len;lia
 have I2:Inv X lw σ (upd H l (.lst (ns.map V.int))) {s with heap:=h',toks:=t'}:=I.laid (t':=t') kp hl ⟨hz,vs,e,jA4 hi,he⟩;exact⟨.ref l,_,I2,rfl,q l ns (I.hok.fresh hl) lt λz=>pm.mem_iff⟩
variable {p2:Pos}
section
variable {p1 p3 p4 p5 p6 p7:Pos}{k1 k2 k3 k4:Nat}
def jN6{i j r:Int}(hj:0<=j)(hj2:j<=1000000)(hi:i.natAbs<2^64)(e:i^j.toNat=r):PE X (.BinOp (.Constant (.int i) k2 p2) .Pow (.Constant (.int j) k3 p3) p4) (tC (.int r)):=λlw s σ H Q I h=>
 (kX (X:=X) jN9 jW jW) lw s σ H Q I ⟨_,_,rfl,rfl,⟨hj,hj2,hi⟩,by subst e;exact h⟩
def jTO{a b:Expr}{i j r:Int}(ha:PE X a (tC (.int i)))(hb:PE X b (tC (.int j)))(hc:CMul i j)(e:i*j=r):PE X (.BinOp a .Mult b p1) (tC (.int r)):=λlw s σ H Q I h=>
 (kX (X:=X) jDB ha hb) lw s σ H Q I ⟨_,_,rfl,rfl,hc,by subst e;exact h⟩
def jTR{a b:Expr}{i j r:Int}(ha:PE X a (tC (.int i)))(hb:PE X b (tC (.int j)))(e:i+j=r):PE X (.BinOp a .Add b p1) (tC (.int r)):=λlw s σ H Q I h=>
 (kX (X:=X) yF ha hb) lw s σ H Q I ⟨_,_,rfl,rfl,by subst e;exact h⟩
theorem jWJ:PE X (.BinOp (.BinOp (.Constant (.int 2) k1 p1) .Mult (.BinOp (.Constant (.int 10) k2 p2) .Pow (.Constant (.int 12) k3 p3) p4) p5) .Add (.Constant (.int 1) k4 p6) p7) (tC (.int 2000000000001)):=
 jTR (i:=2000000000000) (jTO (j:=1000000000000) jW (jN6 Ac Ac Ac Ac) (.inl ⟨Ac,Ac⟩) Ac) jW Ac
end
def ItAt(tp:Bool)(h:Heap)(it a:Addr)(i:Nat):Prop:=match tp with
 |false=>h.IsListIter it a i
 |true=>h.IsTupleIter it a i
def ObAt(tp:Bool)(h:Heap)(a:Addr)(xs:An):Prop:=match tp with
 |false=>h.IsList a xs
 |true=>h.IsTuple a xs
def ItAt.but{a b:Addr}(x:ItAt tp h it a i)(e:Heap.ExtBut b h h')(n:it≠b):ItAt tp h' it a i:=by
 cases tp with
 |false=>exact Heap.IsListIter.extBut x e n
 |true=>exact Heap.IsTupleIter.extBut x e n
def ObAt.but{a b:Addr}{xs:An}(x:ObAt tp h a xs)(e:Heap.ExtBut b h h')(n:a≠b):ObAt tp h' a xs:=by
 cases tp with
 |false=>exact Heap.IsList.extBut x e n
 |true=>exact Heap.IsTuple.extBut x e n
def ItAt.at{tp:Bool}{h h':Heap}{it a:Addr}{i:Nat}(x:ItAt tp h it a i)(e:∀o,h.get? it=some o->h'.get? it=some o):ItAt tp h' it a i:=by
 cases tp with
 |false=>exact Heap.IsListIter.at x e
 |true=>exact Heap.IsTupleIter.at x e
def ItAt.obj{a:Addr}(x:ItAt tp h it a i):∃o,h.get? it=some o/\∀v,o.data≠.cell v:=by
 cases tp with
 |false=>obtain⟨o,e,_,d⟩:=x;exact⟨o,e,λv q=>by rw[d] at q;cases q⟩
 |true=>obtain⟨o,e,_,d⟩:=x;exact⟨o,e,λv q=>by rw[d] at q;cases q⟩
def ObAt.lt{a:Addr}{xs:An}(x:ObAt tp h a xs):a<h.objs.size:=by
 cases tp with
 |false=>obtain⟨o,e,_⟩:=x;exact aC e
 |true=>obtain⟨o,e,_⟩:=x;exact aC e
variable {w:World}{A:Around}{s:Shared}
section
variable {prog:Program}{E:Ah}
def next1{a:Addr}{xs:An}{x:Value}(hi:ItAt tp s.heap it a i)(ha:ObAt tp s.heap a xs)(hx:xs[i]?=some x)
  (k:∀h',ItAt tp h' it a (i+1)->Heap.SameBut it s.heap h'->Q x {s with heap:=h'}):wpAny (model prog w) A (Builtin.SmallTypes.nextOf (.ref it)) Q E s:=by
 cases tp with
 |false=>exact wpAny_nextOf_list_item hi ha hx k
 |true=>
  obtain⟨o,e,c,d⟩:=id (show s.heap.IsTupleIter it a i from hi);obtain⟨u,eu,_,n,du⟩:=(show s.heap.IsTuple a xs from ha);have ty:=Heap.IsTupleIter.typeIs (show s.heap.IsTupleIter it a i from hi);unfold Builtin.SmallTypes.nextOf;refine ab (bF (name:=Str.ofString "__next__") ty F.slot_tuple_iterator_next (bQ F.slot_tuple_iterator_next ty F.entry_tuple_iterator_next (?_:wpAny (model prog w) _ (field (.ref it) 0 >>= _) _ _ s) (F.args_tuple_iterator_next_1 _)));refine ab (bU e d (x:=.ref a) rfl (?_:wpAny (model prog w) _ (if (Value.ref a==Value.none)=true then _ else _) _ _ s));rw[aq (by exact am)];show wpAny (model prog w) _ (field (.ref it) 1 >>= _) _ _ s;refine ab (bU e d (x:=.int i 0) rfl ?_);show wpAny (model prog w) _ (seqItems? (.ref a) >>= _) _ _ s;refine ab (dA eu du ?_);simp only[aX,hx];refine ab (wpAny_setField e d Ad (ah ⟨x,rfl,ah (k _ ⟨_,dB _ e (Obj.isFreed_of_fields (Obj.data_mapFields d _)),(Obj.cls_mapFields ..).trans c,?_⟩ (gS ..))⟩));rw[Obj.data_mapFields d];simp[rawInt]
def next0{a:Addr}{xs:An}(hh:A.handled=none)(hi:ItAt tp s.heap it a i)(ha:ObAt tp s.heap a xs)(hx:xs[i]?=none)
  (k:∀h' e,Heap.ExtBut it s.heap h'->(∃o,h'.get? e=some o/\o.cls=.type "StopIteration")->E (.ref e) {s with heap:=h'}):wpAny (model prog w) A (Builtin.SmallTypes.nextOf (.ref it)) Q E s:=by
 cases tp with
 |false=>exact wpAny_nextOf_list_end hh hi ha hx k
 |true=>
  obtain⟨o,e,c,d⟩:=id (show s.heap.IsTupleIter it a i from hi);obtain⟨u,eu,_,n,du⟩:=(show s.heap.IsTuple a xs from ha);have ty:=Heap.IsTupleIter.typeIs (show s.heap.IsTupleIter it a i from hi);unfold Builtin.SmallTypes.nextOf;refine ab (bF (name:=Str.ofString "__next__") ty F.slot_tuple_iterator_next (bQ F.slot_tuple_iterator_next ty F.entry_tuple_iterator_next (?_:wpAny (model prog w) _ (field (.ref it) 0 >>= _) _ _ s) (F.args_tuple_iterator_next_1 _)));refine ab (bU e d (x:=.ref a) rfl (?_:wpAny (model prog w) _ (if (Value.ref a==Value.none)=true then _ else _) _ _ s));rw[aq (by exact am)];show wpAny (model prog w) _ (field (.ref it) 1 >>= _) _ _ s;refine ab (bU e d (x:=.int i 0) rfl ?_);show wpAny (model prog w) _ (seqItems? (.ref a) >>= _) _ _ s;refine ab (dA eu du ?_);simp only[aX,hx];refine ab (cG (ab (wpAny_setField e d Ad (?_:wpAny (model prog w) _ (newExc (.type "StopIteration") [] >>= _) _ _ _))));refine ab (by
   simp only[newExc,newTuple];refine ab (bZ (ab (m:=firstArgMember _ _) (wpAny_of_eq (a:=Value.none) (by first|rfl | (simp only[firstArgMember];rfl)) (bZ ?_ (by size_fits)))) (by size_fits));simp only[raiseNew];refine ab (wpAny_handled ?_)
   first|rw[show A.in1.handled=none from hh]|rw[hh]
   exact ab (ah (wpAny_throw (k _ _ (((gS ..).extBut.push _).push _) ⟨_,ao _ rfl,rfl⟩))))
def jLX{TI TO:Addr}{xs:An}{x a b:Value}(D:ZipApart z TI TO i1 i2 l1 l2)
  (ez:IsZip s.heap z TI TO .none) (eI:IsPair s.heap TI (.ref i1) (.ref i2)) (eO:IsPair s.heap TO a b) (g1:ItAt t1 s.heap i1 l1 k1) (g2:ItAt t2 s.heap i2 l2 k2) (o1:ObAt t1 s.heap l1 xs) (o2:ObAt t2 s.heap l2 ys) (hx:xs[k1]?=some x) (hy:ys[k2]?=some y)
  (k:∀h',IsZip h' z TI TO (rawInt s.heap.objs.size)->IsPair h' TO x y->ItAt t1 h' i1 l1 (k1+1)->ItAt t2 h' i2 l2 (k2+1)->IsPair h' s.heap.objs.size x y->h'.objs.size=s.heap.objs.size+1->
   (∀c o,c≠z->c≠TO->c≠i1->c≠i2->s.heap.get? c=some o->h'.get? c=some o)->Q (.ref s.heap.objs.size) {s with heap:=h'}):
  wpAny (model prog w) A (Builtin.«zip.__next__» ⟨[.ref z],[]⟩) (λfin s'=>∃v,fin=.done (.ret v)/\Q v s') E s:=by
 show wpAny (model prog w) A (field (.ref z) 2 >>= _) _ _ _;refine ab (bU ez rfl (x:=.bool false) rfl (?_:wpAny (model prog w) A (field (.ref z) 3 >>= _) _ _ _));refine ab (bU ez rfl (x:=.ref TI) rfl (ab (dA eI rfl (?_:wpAny (model prog w) A (Builtin.SmallTypes.ownedTupleIsFree (.ref z) >>= _) _ _ _))));refine ab (by
  unfold Builtin.SmallTypes.ownedTupleIsFree;refine ab (bU ez rfl (x:=.none) rfl (ah ?_));simp only[fE];refine ab (cG (ab (bU ez rfl (x:=.ref TO) rfl (ab (bD ez Ad λp1 f1 q1=>?_)))));have f1:IsZip p1 z TI TO .ellipsis:=f1;refine ab (by
   simp only[iW,List.zipIdx_nil,gI,jw];refine ab (ab (iQ (?_:wpAny (model prog w) A (Builtin.SmallTypes.nextOf (.ref i1) >>= _) _ _ _)));refine ab (next1 (g1.but q1.extBut D.i1z) (o1.but q1.extBut D.l1z) hx λp2 r2 q2=>ah ?_);have eO2:IsPair p2 TO a b:=q2.extBut _ _ D.TOi1 (q1.extBut _ _ D.TOz eO);refine ab (dA eO2 rfl (ab (gE eO2 λp3 eO3 q3=>ab (iF (ah ?_)))));have eO3:IsPair p3 TO x b:=eO3;refine ab (ab (iQ (?_:wpAny (model prog w) A (Builtin.SmallTypes.nextOf (.ref i2) >>= _) _ _ _)));refine ab (next1 (((g2.but q1.extBut D.i2z).but q2.extBut D.i12.symm).but q3.extBut D.TOi2.symm) (((o2.but q1.extBut D.l2z).but q2.extBut D.l2i1).but q3.extBut D.l2TO) hy λp4 r4 q4=>ah ?_);have eO4:IsPair p4 TO x b:=q4.extBut _ _ D.TOi2 eO3;refine ab (dA eO4 rfl (ab (gE eO4 λp5 eO5 q5=>ab (iF (ah (ah ?_))))));have eO5:IsPair p5 TO x y:=eO5;refine ab (dA eO5 rfl (ab (io ?_)));have sz:p5.objs.size=s.heap.objs.size:=by rw[q5.1,q4.1,q3.1,q2.1,q1.1]
   have ez5:IsZip p5 z TI TO .ellipsis:=q5.extBut _ _ D.TOz.symm (q4.extBut _ _ D.i2z.symm (q3.extBut _ _ D.TOz.symm (q2.extBut _ _ D.i1z.symm f1)));have kp5:∀c o,c≠z->c≠TO->c≠i1->c≠i2->s.heap.get? c=some o->p5.get? c=some o:=λc o n1 n2 n3 n4 e=>q5.extBut _ _ n2 (q4.extBut _ _ n4 (q3.extBut _ _ n2 (q2.extBut _ _ n3 (q1.extBut _ _ n1 e))));have r15:ItAt t1 p5 i1 l1 (k1+1):=((r2.but q3.extBut D.TOi1.symm).but q4.extBut D.i12).but q5.extBut D.TOi1.symm;have r25:ItAt t2 p5 i2 l2 (k2+1):=r4.but q5.extBut D.TOi2.symm;have zlt:z<p5.objs.size:=aC ez5;show wpAny (model prog w) A (Builtin.SmallTypes.ownedTupleHandOut (.ref z) (.ref p5.objs.size) >>= _) _ _ _;refine ab ?_;unfold Builtin.SmallTypes.ownedTupleHandOut;have f6:IsZip (p5.push {cls:=.type "tuple",data:=.seq #[x,y]}) z TI TO .ellipsis:=ae _ ez5;refine ab (bD f6 Ad λp7 f7 q7=>?_);have f7:IsZip p7 z TI TO (rawInt p5.objs.size):=f7;refine bD f7 Ad λp8 f8 q8=>?_;have f8:IsZip p8 z TI TO (rawInt p5.objs.size):=f8;have up:∀c o,c≠z->p5.get? c=some o->p8.get? c=some o:=λc o n1 e=>q8.extBut _ _ n1 (q7.extBut _ _ n1 (ae _ e));have eT:IsPair p8 p5.objs.size x y:=q8.extBut _ _ (cr zlt) (q7.extBut _ _ (cr zlt) (ao _ rfl));have sz8:p8.objs.size=p5.objs.size+1:=by rw[q8.1,q7.1,ci]
   rw[sz] at f8 eT sz8;refine ah ⟨_,rfl,(?_:Q (.ref p5.objs.size) _)⟩;rw[sz];exact k p8 f8 (up _ _ D.TOz eO5) (r15.at λo e=>up _ o D.i1z e) (r25.at λo e=>up _ o D.i2z e) eT sz8 λc o n1 n2 n3 n4 e=>up c o n1 (kp5 c o n1 n2 n3 n4 e)))
def jPK{TI TO:Addr}{xs:An}{a b:Value}{Q:Fin->Shared->Prop}(hh:A.handled=none)(D:ZipApart z TI TO i1 i2 l1 l2)
  (ez:IsZip s.heap z TI TO .none) (eI:IsPair s.heap TI (.ref i1) (.ref i2)) (eO:IsPair s.heap TO a b) (g1:ItAt t1 s.heap i1 l1 k1) (g2:ItAt t2 s.heap i2 l2 k2) (o1:ObAt t1 s.heap l1 xs) (o2:ObAt t2 s.heap l2 ys) (hend:xs[k1]?=none\/ys[k2]?=none)
  (k:∀h' e,(∀c o,c≠z->c≠TO->c≠i1->c≠i2->s.heap.get? c=some o->h'.get? c=some o)->(∃o,h'.get? e=some o/\o.cls=.type "StopIteration")->E (.ref e) {s with heap:=h'}):
  wpAny (model prog w) A (Builtin.«zip.__next__» ⟨[.ref z],[]⟩) Q E s:=by
 show wpAny (model prog w) A (field (.ref z) 2 >>= _) _ _ _;refine ab (bU ez rfl (x:=.bool false) rfl (?_:wpAny (model prog w) A (field (.ref z) 3 >>= _) _ _ _));refine ab (bU ez rfl (x:=.ref TI) rfl (ab (dA eI rfl (?_:wpAny (model prog w) A (Builtin.SmallTypes.ownedTupleIsFree (.ref z) >>= _) _ _ _))));refine ab (by
  unfold Builtin.SmallTypes.ownedTupleIsFree;refine ab (bU ez rfl (x:=.none) rfl (ah ?_));simp only[fE];refine ab (cG (ab (bU ez rfl (x:=.ref TO) rfl (ab (bD ez Ad λp1 f1 q1=>?_)))));have f1:IsZip p1 z TI TO .ellipsis:=f1;refine ab (by
   simp only[iW,List.zipIdx_nil,gI,jw];refine ab (ab (iQ (?_:wpAny (model prog w) A (Builtin.SmallTypes.nextOf (.ref i1) >>= _) _ _ _)));cases hx:xs[k1]? with
   |none=>
    refine ab (next0 hh (g1.but q1.extBut D.i1z) (o1.but q1.extBut D.l1z) hx λp2 e q2 ⟨u,eu,cu⟩=>?_);have f2:IsZip p2 z TI TO .ellipsis:=q2 _ _ D.i1z.symm f1;have nz:e≠z:=λv=>by subst v;rw[f2] at eu;cases eu;simp at cu
    exact bD f2 Ad λp3 _ q3=>k p3 e (λc o n1 _ n3 _ v=>q3.extBut _ _ n1 (q2 _ _ n3 (q1.extBut _ _ n1 v))) ⟨u,q3.extBut _ _ nz eu,cu⟩
   |some x=>
    have hy:ys[k2]?=none:=by
     rcases hend with v|v
     .rw[hx] at v;cases v
     .exact v
    refine ab (next1 (g1.but q1.extBut D.i1z) (o1.but q1.extBut D.l1z) hx λp2 r2 q2=>ah ?_);have eO2:IsPair p2 TO a b:=q2.extBut _ _ D.TOi1 (q1.extBut _ _ D.TOz eO);refine ab (dA eO2 rfl (ab (gE eO2 λp3 eO3 q3=>ab (iF (ah ?_)))));refine ab (ab (iQ (?_:wpAny (model prog w) A (Builtin.SmallTypes.nextOf (.ref i2) >>= _) _ _ _)));refine ab (next0 hh (((g2.but q1.extBut D.i2z).but q2.extBut D.i12.symm).but q3.extBut D.TOi2.symm) (((o2.but q1.extBut D.l2z).but q2.extBut D.l2i1).but q3.extBut D.l2TO) hy λp4 e q4 ⟨u,eu,cu⟩=>?_);have f4:IsZip p4 z TI TO .ellipsis:=q4 _ _ D.i2z.symm (q3.extBut _ _ D.TOz.symm (q2.extBut _ _ D.i1z.symm f1));have nz:e≠z:=λv=>by subst v;rw[f4] at eu;cases eu;simp at cu
    exact bD f4 Ad λp5 _ q5=>k p5 e (λc o n1 n2 n3 n4 v=>q5.extBut _ _ n1 (q4 _ _ n4 (q3.extBut _ _ n2 (q2.extBut _ _ n3 (q1.extBut _ _ n1 v))))) ⟨u,q5.extBut _ _ nz eu,cu⟩))
def jIK{TI TO:Addr}{xs:An}{x a b:Value}{Q:Option Value->Shared->Prop}(D:ZipApart z TI TO i1 i2 l1 l2)
  (ez:IsZip s.heap z TI TO .none) (eI:IsPair s.heap TI (.ref i1) (.ref i2)) (eO:IsPair s.heap TO a b) (g1:ItAt t1 s.heap i1 l1 k1) (g2:ItAt t2 s.heap i2 l2 k2) (o1:ObAt t1 s.heap l1 xs) (o2:ObAt t2 s.heap l2 ys) (hx:xs[k1]?=some x) (hy:ys[k2]?=some y)
  (k:∀h',IsZip h' z TI TO (rawInt s.heap.objs.size)->IsPair h' TO x y->ItAt t1 h' i1 l1 (k1+1)->ItAt t2 h' i2 l2 (k2+1)->IsPair h' s.heap.objs.size x y->h'.objs.size=s.heap.objs.size+1->
   (∀c o,c≠z->c≠TO->c≠i1->c≠i2->s.heap.get? c=some o->h'.get? c=some o)->Q (some (.ref s.heap.objs.size)) {s with heap:=h'}):
  wpAny (model prog w) A (pyNext (.ref z)) Q E s:=by
 have ty:s.TypeIs (.ref z) "zip" :=⟨_,ez,rfl⟩;unfold pyNext;exact ab (dw (bF (name:=Str.ofString "__next__") ty F.slot_zip_next (bQ F.slot_zip_next ty F.entry_zip_next (jLX D ez eI eO g1 g2 o1 o2 hx hy λh' b1 b2 b3 b4 b5 b6 b7=>ah (k h' b1 b2 b3 b4 b5 b6 b7)) (F.args_zip_next_1 _))))
def jIL{TI TO:Addr}{xs:An}{a b:Value}{Q:Option Value->Shared->Prop}(hh:A.handled=none)(D:ZipApart z TI TO i1 i2 l1 l2)
  (ez:IsZip s.heap z TI TO .none) (eI:IsPair s.heap TI (.ref i1) (.ref i2)) (eO:IsPair s.heap TO a b) (g1:ItAt t1 s.heap i1 l1 k1) (g2:ItAt t2 s.heap i2 l2 k2) (o1:ObAt t1 s.heap l1 xs) (o2:ObAt t2 s.heap l2 ys) (hend:xs[k1]?=none\/ys[k2]?=none)
  (k:∀h',(∀c o,c≠z->c≠TO->c≠i1->c≠i2->s.heap.get? c=some o->h'.get? c=some o)->Q none {s with heap:=h'}):wpAny (model prog w) A (pyNext (.ref z)) Q E s:=by
 have ty:s.TypeIs (.ref z) "zip" :=⟨_,ez,rfl⟩;unfold pyNext;refine ab (dw (bF (name:=Str.ofString "__next__") ty F.slot_zip_next (bQ F.slot_zip_next ty F.entry_zip_next (jPK hh D ez eI eO g1 g2 o1 o2 hend λh' e kp ⟨u,eu,cu⟩=>?_) (F.args_zip_next_1 _))));exact ab (gm (T:= "StopIteration") (b:=true) ⟨u,eu,cu⟩ ju (ah (k _ kp)))
end
def qT(tp:Bool)(a:Addr):Obj:=match tp with
 |false=>{cls:=.type "list_iterator",data:=.fields #[.ref a,.int 0 0]}
 |true=>{cls:=.type "tuple_iterator",data:=.fields #[.ref a,.int 0 0]}
def jCW(tp:Bool)(a:Addr):(qT tp a).isFreed=false:=by cases tp<;>rfl
def ObAt.push{a:Addr}{xs:An}(x:ObAt tp h a xs)(o:Obj):ObAt tp (h.push o) a xs:=by
 cases tp with
 |false=>exact Heap.IsList.push x o
 |true=>exact Heap.IsTuple.push x o
def jCS{a:Addr}{xs:An}(h:ObAt tp s.heap a xs)(q:Q (.ref s.heap.objs.size) {s with heap:=s.heap.push (qT tp a)}):
  wpAny (model prog w) A (pyIter (.ref a)) Q E s:=by
 cases tp with
 |false=>exact db h q
 |true=>exact wpAny_pyIter_tuple h q
def zp1(t1:Bool)(h:Heap)(l1:Addr):Heap:=h.push (qT t1 l1)
def zp2(t1 t2:Bool)(h:Heap)(l1 l2:Addr):Heap:=(zp1 t1 h l1).push (qT t2 l2)
def zp3(t1 t2:Bool)(h:Heap)(l1 l2:Addr):Heap:=(zp2 t1 t2 h l1 l2).push {cls:=.type "tuple",data:=.seq #[.ref h.objs.size,.ref (zp1 t1 h l1).objs.size]}
def zp4(t1 t2:Bool)(h:Heap)(l1 l2:Addr):Heap:=(zp3 t1 t2 h l1 l2).push {cls:=.type "tuple",data:=.seq #[.none,.none]}
def zp5(t1 t2:Bool)(h:Heap)(l1 l2:Addr):Heap:=(zp4 t1 t2 h l1 l2).push {cls:=.type "zip",data:=.fields #[.none,.bool false,.bool false,.ref (zp2 t1 t2 h l1 l2).objs.size,.ref (zp3 t1 t2 h l1 l2).objs.size]}
def jLG(t1 t2:Bool)(l1 l2:Addr)(xs ys:An):
  Meets (Builtin.«zip.__new__» ⟨[.type "zip",.ref l1,.ref l2],[]⟩) (λ_ R s=>ObAt t1 s.heap l1 xs/\ObAt t2 s.heap l2 ys/\R (.ok (.ret (.ref (zp4 t1 t2 s.heap l1 l2).objs.size))) {s with heap:=zp5 t1 t2 s.heap l1 l2}):=
 .of_wp λprog w A R s h=>by
  obtain⟨hp,g,d,tk,os⟩:=s;obtain⟨a1,a2,q⟩:=h;have sub:=sub_zip;have e1:ObAt t1 (Shared.heap ⟨hp,g,d,tk,os⟩) l1 xs:=a1;have e2:ObAt t2 (Shared.heap ⟨hp.push (qT t1 l1),g,d,tk,os⟩) l2 ys:=ObAt.push a2 _
  wp_walk using jCS e1,jCS e2
  exact⟨_,rfl,q⟩
def ItAt.new(tp:Bool){h:Heap}{it a:Addr}(e:h.get? it=some (qT tp a)):ItAt tp h it a 0:=by
 cases tp with
 |false=>exact⟨_,e,rfl,rfl⟩
 |true=>exact⟨_,e,rfl,rfl⟩
theorem jP6{xs:An}(a1:ObAt t1 s.heap l1 xs)(a2:ObAt t2 s.heap l2 ys)
  (k:∀h',IsZip h' (s.heap.objs.size+4) (s.heap.objs.size+2) (s.heap.objs.size+3) .none->IsPair h' (s.heap.objs.size+2) (.ref s.heap.objs.size) (.ref (s.heap.objs.size+1))->
   IsPair h' (s.heap.objs.size+3) .none .none->ItAt t1 h' s.heap.objs.size l1 0->ItAt t2 h' (s.heap.objs.size+1) l2 0->(∀c o,s.heap.get? c=some o->h'.get? c=some o)->Q (.ref (s.heap.objs.size+4)) {s with heap:=h'}):
  wpAny (model prog w) A (call (.type "zip") [.ref l1,.ref l2]) Q E s:=by
 refine callType_new F.called_zip Ac (F.typeCall_zip_2 _ _) (F.newCall_zip_2 _ _) (λobj=>F.args_object_init_3 obj _ _) F.entry_zip_new (jLG t1 t2 l1 l2 xs ys) ⟨a1,a2,?_⟩;have z1:(zp1 t1 s.heap l1).objs.size=s.heap.objs.size+1:=ci ..;have z2:(zp2 t1 t2 s.heap l1 l2).objs.size=s.heap.objs.size+2:=(ci ..).trans (bW (· +1) z1);have z3:(zp3 t1 t2 s.heap l1 l2).objs.size=s.heap.objs.size+3:=(ci ..).trans (bW (· +1) z2);have z4:(zp4 t1 t2 s.heap l1 l2).objs.size=s.heap.objs.size+4:=(ci ..).trans (bW (· +1) z3);have y5:(zp5 t1 t2 s.heap l1 l2).get? (zp4 t1 t2 s.heap l1 l2).objs.size=some {cls:=.type "zip",data:=.fields #[.none,.bool false,.bool false,.ref (zp2 t1 t2 s.heap l1 l2).objs.size,.ref (zp3 t1 t2 s.heap l1 l2).objs.size]}:=ao _ rfl;have y4:(zp5 t1 t2 s.heap l1 l2).get? (zp3 t1 t2 s.heap l1 l2).objs.size=some {cls:=.type "tuple",data:=.seq #[.none,.none]}:=ae _ (ao _ rfl);have y3:(zp5 t1 t2 s.heap l1 l2).get? (zp2 t1 t2 s.heap l1 l2).objs.size=some {cls:=.type "tuple",data:=.seq #[.ref s.heap.objs.size,.ref (zp1 t1 s.heap l1).objs.size]}:=ae _ (ae _ (ao _ rfl));have y2:(zp5 t1 t2 s.heap l1 l2).get? (zp1 t1 s.heap l1).objs.size=some (qT t2 l2):=ae _ (ae _ (ae _ (ao _ (jCW _ _))));have y1:(zp5 t1 t2 s.heap l1 l2).get? s.heap.objs.size=some (qT t1 l1):=ae _ (ae _ (ae _ (ae _ (ao _ (jCW _ _)))));have up:∀c o,s.heap.get? c=some o->(zp5 t1 t2 s.heap l1 l2).get? c=some o:=λc o e=>ae _ (ae _ (ae _ (ae _ (ae _ e))));rw[z2,z3,z4] at y5;rw[z1,z2] at y3;rw[z3] at y4;rw[z1] at y2;show _/\_;rw[z4];exact⟨⟨_,y5,rfl⟩,k _ y5 y3 y4 (.new t1 y1) (.new t2 y2) up⟩
def Sq(tp:Bool)(K:W.Frag)(H:Hp)(a:Addr)(xs:List V):Prop:=match tp with
 |false=>SqL K H a xs
 |true=>SqT K H a xs
def Inv.sq{H:Hp}{a:Addr}{xs:List V}(I:Inv X lw σ H s)(h:Sq tp X.K H a xs):∃its:Al,Vals xs its/\ObAt tp s.heap a its.toArray/\xs.length<=sizeLine:=by
 cases tp with
 |false=>
  obtain⟨its,r,p,z⟩:=I.list h;exact⟨its,r,p.isList,z⟩
 |true=>exact I.tuple h
def Inv.sq_inj{H:Hp}{a:Addr}{xs ys:List V}(I:Inv X lw σ H s)(h:Sq tp X.K H a xs)(h':Sq tp X.K H a ys):xs=ys:=by
 cases tp with
 |false=>exact I.list_inj h h'
 |true=>exact I.tuple_inj h h'
def Itz(t1 t2:Bool)(K:W.Frag)(l1 l2:Addr):It:=
 ⟨λi H=>∃xs ys x y,Sq t1 K H l1 xs/\Sq t2 K H l2 ys/\xs[i]?=some x/\ys[i]?=some y,
  λi H v H'=>∃T x y,H T=none/\v=.ref T/\H'=upd H T (.tup [x,y])/\∀xs ys,Sq t1 K H l1 xs->Sq t2 K H l2 ys->xs[i]?=some x/\ys[i]?=some y,
  λi H=>∃xs ys,Sq t1 K H l1 xs/\Sq t2 K H l2 ys/\(xs.length<=i\/ys.length<=i)⟩
theorem jPP{P:Program}{K:W.Frag}{tp:Pos}(t1 t2:Bool)(l1 l2 z TI TO i1 i2:Addr)(D:ZipApart z TI TO i1 i2 l1 l2):
  Turn P w K (.Tuple elts x1 tp) (Itz t1 t2 K l1 l2) [z,TO,i1,i2,TI] z (λi h=>IsZip h z TI TO .none/\IsPair h TI (.ref i1) (.ref i2)/\(∃a b,IsPair h TO a b)/\ItAt t1 h i1 l1 i/\ItAt t2 h i2 l2 i) where
 mem:=Ad
 obj:=λi h st b hb=>by
  obtain⟨hz,hTI,⟨a,c,hTO⟩,y1,y2⟩:=st;simp only[aA,aS,bX] at hb;rcases hb with rfl|rfl|rfl|rfl|rfl
  .exact⟨_,hz,λv q=>by cases q⟩
  .exact⟨_,hTO,λv q=>by cases q⟩
  .exact y1.obj
  .exact y2.obj
  .exact⟨_,hTI,λv q=>by cases q⟩
 keep:=λi h h' st k=>by
  obtain⟨hz,hTI,⟨a,c,hTO⟩,h1,h2⟩:=st;exact⟨k z Ad _ hz,k TI Ad _ hTI,⟨a,c,k TO Ad _ hTO⟩,h1.at λo e=>k i1 Ad o e,h2.at λo e=>k i2 Ad o e⟩
 item:=by
  intro X hP hw hK hc i lw s σ H E I hf st hg;subst hP hw hK;obtain⟨xs,ys,x,y,hq1,hq2,hx,hy⟩:=hg;obtain⟨hz,hTI,⟨a,c,hTO⟩,h1,h2⟩:=st;obtain⟨its1,r1,p1,_⟩:=I.sq hq1;obtain⟨its2,r2,p2,_⟩:=I.sq hq2;obtain⟨u,hu,ru⟩:=r1.get hx;obtain⟨v,hv,rv⟩:=r2.get hy;refine jIK D hz hTI hTO h1 h2 p1 p2 (x:=u) (y:=v) (by simpa using hu) (by simpa using hv) λh' a1 a2 a3 a4 a5 a6 a7=>?_;refine⟨_,rfl,wpAny_letOwnedTupleGo_zip (s:= {s with heap:=h'}) a1 λh'' b1 sb=>?_⟩;have fresh:H s.heap.objs.size=none:=I.fresh;have nch:∀b∈([z,TO,i1,i2]:List Addr),FpOk X lw H b:=λb hb=>hf b (by
   simp only[aA,aS,bX] at hb ⊢;rcases hb with q|q|q|q
   .exact .inl q
   .exact .inr (.inl q)
   .exact .inr (.inr (.inl q))
   .exact .inr (.inr (.inr (.inl q))))
  have ntr:∀b o,H b=some o->b∉([z,TO,i1,i2]:List Addr):=λb o e hb=>by
   have:=(nch b hb).1;rw[e] at this;cases this
  have kp:∀b o,b∉([z,TO,i1,i2]:List Addr)->s.heap.get? b=some o->h''.get? b=some o:=λb o hb e=>by
   simp only[aA,aS,bX,iP] at hb;exact(sb.2 b hb.1).trans (a7 b o hb.1 hb.2.1 hb.2.2.1 hb.2.2.2 e)
  have nz:s.heap.objs.size≠z:=cr (aC hz);have hT2:h''.get? s.heap.objs.size=some {cls:=.type "tuple",data:=.seq #[u,v]}:=(sb.2 _ nz).trans a5;have I2:Inv X lw σ (upd H s.heap.objs.size (.tup [x,y])) {s with heap:=h''}:=by
   refine I.step (g':=s.gens) (d':=s.drawn) (t':=s.toks) (ch:=[z,TO,i1,i2]) (λb hb=>?_) (λb o _ _ hb e _=>kp b o hb e) (λb o _ _ hb e _=>⟨o.slots,kp b o hb e⟩)
    (λb o _ e n=>by rw[j8 (aO (aC e))];exact n) (λb o hb e=>⟨o,kp b o hb e⟩) (λb ws e=>by rw[j8 (jA e fresh)];exact e) (λb o ws e=>by rw[j8 (jA e fresh)];exact e)
    (λb ps e=>⟨#[],by rw[j8 (jA e fresh),e];simp⟩) (λm hm=>?_) (λb o e=>?_) I.bare
   .obtain⟨f0,f1,f2,f3,f4,f5⟩:=nch b hb;exact⟨f3,f1,f4,f5⟩
   .obtain⟨o,es,ep,ho,r⟩:=hm;exact⟨o,es,ep,kp _ o (λhb=>(nch _ hb).2.1 rfl) ho,r⟩
   .by_cases hb:b=s.heap.objs.size
    .subst hb;rw[j7] at e;cases e;exact⟨by rw[dv];show 2<=_;decide,[u,v],.cons ru (.cons rv .nil),0,hT2⟩
    .rw[j8 hb] at e;refine(I.hok b o e).stay (λc w hc q=>kp c w ?_ q) (λc q=>by rw[j8 (jA q fresh)];exact q) (λc ws q=>by rw[j8 (jA q fresh)];exact q);rcases hc with rfl|hc
     .exact ntr _ _ e
     .exact ntr _ _ hc
  refine⟨.ref s.heap.objs.size,_,I2,rfl,⟨_,x,y,fresh,rfl,rfl,λxs' ys' q1 q2=>⟨by rw[I.sq_inj q1 hq1];exact hx,by rw[I.sq_inj q2 hq2];exact hy⟩⟩,⟨b1,?_,⟨u,v,?_⟩,?_,?_⟩,λb hb=>?_⟩
  .exact kp TI _ (by simp[D.TIz,D.TITO,D.TIi1,D.TIi2]) hTI
  .exact(sb.2 TO D.TOz).trans a2
  .exact a3.at λo e=>(sb.2 i1 D.i1z).trans e
  .exact a4.at λo e=>(sb.2 i2 D.i2z).trans e
  .rw[j8 (λq=>by
    obtain⟨o,eo⟩:∃o,s.heap.get? b=some o:=by
     simp only[aA,aS,bX] at hb;rcases hb with rfl|rfl|rfl|rfl|rfl
     .exact⟨_,hz⟩
     .exact⟨_,hTO⟩
     .obtain⟨o,e,_⟩:=h1.obj;exact⟨o,e⟩
     .obtain⟨o,e,_⟩:=h2.obj;exact⟨o,e⟩
     .exact⟨_,hTI⟩
    exact absurd (aC eo) (by rw[q];exact cO _))]
   exact(hf b hb).1
 done:=by
  intro X hP hw hK hc i lw s σ H E I hf st hg;subst hP hw hK;obtain⟨xs,ys,hq1,hq2,hend⟩:=hg;obtain⟨hz,hTI,⟨a,c,hTO⟩,h1,h2⟩:=st;obtain⟨its1,r1,p1,_⟩:=I.sq hq1;obtain⟨its2,r2,p2,_⟩:=I.sq hq2;have e1:=r1.length;have e2:=r2.length;refine jIL (I.ok.hd hc) D hz hTI hTO h1 h2 p1 p2 (by
   rcases hend with q|q
   .exact .inl (by simp;lia)
   .exact .inr (by simp;lia)) λh' kp=>⟨rfl,?_⟩
  have nch:∀b∈([z,TO,i1,i2]:List Addr),FpOk X lw H b:=λb hb=>hf b (by
   simp only[aA,aS,bX] at hb ⊢;rcases hb with q|q|q|q
   .exact .inl q
   .exact .inr (.inl q)
   .exact .inr (.inr (.inl q))
   .exact .inr (.inr (.inr (.inl q))))
  have kp2:∀b o,b∉([z,TO,i1,i2]:List Addr)->s.heap.get? b=some o->h'.get? b=some o:=λb o hb e=>by
   simp only[aA,aS,bX,iP] at hb;exact kp b o hb.1 hb.2.1 hb.2.2.1 hb.2.2.2 e
  have ntr:∀b o,H b=some o->b∉([z,TO,i1,i2]:List Addr):=λb o e hb=>by
   have:=(nch b hb).1;rw[e] at this;cases this
  refine I.step (g':=s.gens) (d':=s.drawn) (t':=s.toks) (ch:=[z,TO,i1,i2]) (λb hb=>?_) (λb o _ _ hb e _=>kp2 b o hb e) (λb o _ _ hb e _=>⟨o.slots,kp2 b o hb e⟩)
   (λb o _ e n=>n) (λb o hb e=>⟨o,kp2 b o hb e⟩) (λb ws e=>e) (λb o ws e=>e) (λb ps e=>⟨#[],by rw[e];simp⟩) (λm hm=>?_) (λb o e=>?_) I.bare
  .obtain⟨f0,f1,f2,f3,f4,f5⟩:=nch b hb;exact⟨f3,f1,f4,f5⟩
  .obtain⟨o,es,ep,ho,r⟩:=hm;exact⟨o,es,ep,kp2 _ o (λhb=>(nch _ hb).2.1 rfl) ho,r⟩
  .refine(I.hok b o e).stay (λc w hc q=>kp2 c w ?_ q) (λ_ q=>q) λ_ _ q=>q;rcases hc with rfl|hc
   .exact ntr _ _ e
   .exact ntr _ _ hc
 self:=λ_ _ _ _ _ st h=>wpAny_pyIter_zip st.1 h
def iZip(K:W.Frag)(ta:TA):TI:=λσ H R=>ta σ H λvs H1=>∃t1 t2 l1 l2,vs=[.ref l1,.ref l2]/\(∃xs,Sq t1 K H1 l1 xs)/\(∃ys,Sq t2 K H1 l2 ys)/\R (Itz t1 t2 K l1 l2) H1
theorem jW9{ta:TA}{tp:Pos}(hg:Gl X "zip")(hm:X.mg "zip" =none)(ha:PA X [a,b] ta)(hv:bootBuiltins "zip" =some (.type "zip"):=by decide+kernel)
  (he:starEach [a,b] X.env=(false,eval a X.env)::starEach [b] X.env:=by rfl) (hpl:(backTo pos (starEach [b] X.env)).any (·.1)=false:=by rfl):
  PI X (.Tuple elts x1 tp) (.Call (.Name "zip" p) [a,b] [] pos) (iZip X.K ta):=by
 intro lw s σ H R I h;refine Call_ (jDC I hg hm hv (cN (lz (ha pos lw s σ H _ I h) λus s1 ⟨vs,H1,I1,r1,q1⟩=>?_) he hpl));obtain⟨t1,t2,l1,l2,rfl,⟨xs,hq1⟩,⟨ys,hq2⟩,q⟩:=q1;obtain⟨u,v,rfl,ru,rv⟩:=r1.two;cases ru;cases rv;obtain⟨its1,_,p1,_⟩:=I1.sq hq1;obtain⟨its2,_,p2,_⟩:=I1.sq hq2;have lt1:l1<s1.heap.objs.size:=p1.lt;have lt2:l2<s1.heap.objs.size:=p2.lt;refine jP6 p1 p2 λh' a1 a2 a3 a4 a5 kp=>?_;have I2:Inv X lw σ H1 {s1 with heap:=h'}:=I1.kept (t':=s1.toks) kp;have D:ZipApart (s1.heap.objs.size+4) (s1.heap.objs.size+2) (s1.heap.objs.size+3) s1.heap.objs.size (s1.heap.objs.size+1) l1 l2:=zipApart_new lt1 lt2;refine wpAny_pyIter_zip a1 ⟨s1.heap.objs.size+4,[s1.heap.objs.size+4,s1.heap.objs.size+3,s1.heap.objs.size,s1.heap.objs.size+1,s1.heap.objs.size+2],_,Itz t1 t2 X.K l1 l2,H1,rfl,I2,jPP t1 t2 l1 l2 _ _ _ _ _ D,⟨a1,a2,⟨_,_,a3⟩,a4,a5⟩,λb hb=>?_,q⟩;have hge:s1.heap.objs.size<=b:=by
  simp only[aA,aS,bX] at hb;rcases hb with rfl|rfl|rfl|rfl|rfl
  .exact eU _ 4
  .exact eU _ 3
  .exact ar _
  .exact eU _ 1
  .exact eU _ 2
 exact I1.fpOk hge (I1.hok.fresh hge)
structure JE (X:Cx)(e:Expr)(t:TE):Prop where
 h:PE X e t
structure JA (X:Cx)(es:List Expr)(t:TA):Prop where
 h:PA X es t
structure JT (X:Cx)(e:Expr)(t:TT):Prop where
 h:PT X e t
structure JTs (X:Cx)(e:List Expr)(t:TT):Prop where
 h:PTs X e t
structure JS (X:Cx)(e:Stmt)(t:TS):Prop where
 h:PS X e t
structure JSs (X:Cx)(e:List Stmt)(t:TS):Prop where
 h:PSs X e t
structure JG (X:Cx)(e:Expr)(t:TG):Prop where
 h:PG X e t
structure JGs (X:Cx)(e:List Expr)(t:TGs):Prop where
 h:PGs X e t
structure JI (X:Cx)(tg e:Expr)(t:TI):Prop where
 h:PI X tg e t
structure JO (X:Cx)(e:Option Expr)(t:TO):Prop where
 h:PO X e t
structure Loc1 (X:Cx)(x:Str):Prop where
 a:Loc X.env.scope x
 b:X.fn x=true\/X.env.scope.names.lookup x=some .local
structure Vis1 (X:Cx)(x:Str):Prop where
 a:Vis X.env.scope x
structure Gl1 (X:Cx)(x:Str):Prop where
 a:Gl X x
section
variable {o:Option Expr}{l:Nat}
structure SwOk (e:Expr)(o:Option Expr):Prop where
 h:∀l env,swapsWith e o l env=pure false
def jMH:SwOk (.BinOp a op b pos) o:=⟨λ_ _=>rfl⟩
def jL:SwOk (.Call a xs kw pos) o:=⟨λ_ _=>rfl⟩
def jEW:SwOk (.Subscript a b pos) o:=⟨λ_ _=>rfl⟩
def jME{x1}:SwOk (.Tuple xs x1 pos) o:=⟨λ_ _=>rfl⟩
def jEX:SwOk (.List xs pos) o:=⟨λ_ _=>rfl⟩
def jJL{c k}:SwOk (.Constant c k pos) o:=⟨λ_ _=>rfl⟩
def jS6:jAV (.BinOp a op b pos):=λ_ _=>rfl
def jT5:jAV (.Call a xs kw pos):=λ_ _=>rfl
def jD{i:Int}{k}:jAV (.Constant (.int i) k pos):=λ_ _=>rfl
def jBW:jAV (.Name x pos):=λ_ _=>rfl
def jVZ:jAV (.Subscript a b pos):=λ_ _=>rfl
structure FoOk (iter:Expr):Prop where
 h:∀env x,foldedSetIterable iter env x=pure x
def kW:FoOk (.Call a xs kw pos):=⟨λ_ _=>rfl⟩
def qI:FoOk (.Name x pos):=⟨λ_ _=>rfl⟩
def jHN:FoOk (.Subscript a b pos):=⟨λ_ _=>rfl⟩
structure TvOk (e:Expr):Prop where
 h:∀env whole,isTrue e env whole=(do let v <- whole;standAt e.pos;holding [v] (truthy v))
def kZ:TvOk (.Call a xs kw pos):=⟨λ_ _=>rfl⟩
def jSX:TvOk (.Name x pos):=⟨λ_ _=>rfl⟩
end
variable {te:TE}{x:Str}
section
variable {e o:Expr}{ta tb to:TE}{t:TA}{p cpos apos:Pos}{T:String}{id:String}
theorem jv(i:Nat)(hN:X.N[i]?=some x)(hv:Vis1 X x)(hd:(x==("__debug__":Str))=false:=by decide)(hcd:(x==("__classdict__":Str))=false:=by decide):JE X (.Name x pos) (tVar i):=⟨jH4 hN hv.a hd hcd⟩
def je_int{i j}:JE X (.Constant (.int i) j pos) (tC (.int i)):=⟨jW⟩
def je_bl{i j}:JE X (.Constant (.bool i) j pos) (tC (.bl i)):=⟨pe_bl⟩
def jEF{j}:JE X (.Constant .none j pos) (tC .non):=⟨jWG⟩
theorem yR{v:V}{u:Value}(hg:Gl1 X x)(hm:X.mg x=none)(hv:bootBuiltins x=some u)(r:RelV v u)(hn:x≠"__name__" :=by decide)(hd:(x==("__debug__":Str))=false:=by decide):JE X (.Name x pos) (tC v):=⟨jTS hg.a hm hv r hn hd⟩
def kR{r:R2}(ho:OpR X (binaryOp op) r)(ha:JE X a ta)(hb:JE X b tb):JE X (.BinOp a op b pos) (tOp r ta tb):=⟨kX ho ha.h hb.h⟩
def je_un{op:UnaryOp}{r:V->Hp->VK->Prop}(ho:UnR X (unaryOp op) r)(ha:JE X a ta):JE X (.UnaryOp op a pos) (tUn r ta):=⟨pe_un ho ha.h⟩
def jSL(ha:JE X a ta):JE X (.UnaryOp .Not a pos) (tNotV ta):=⟨jWF ha.h⟩
def y9{op:CmpOp}{r:R2}(ho:OpR X (compareOp op) r)(ha:JE X a ta)(hb:JE X b tb)(hm:behindInMarks op b=false):JE X (.Compare a [op] [b] pos) (tOp r ta tb):=⟨jTP ho ha.h hb.h hm⟩
def jDD(ha:JE X a ta)(hb:JE X (.BoolOp .And (b::rest) pos) tb):JE X (.BoolOp .And (a::b::rest) pos) (tAndV ta tb):=⟨jWK ha.h hb.h⟩
def je_or(ha:JE X a ta)(hb:JE X (.BoolOp .Or (b::rest) pos) tb):JE X (.BoolOp .Or (a::b::rest) pos) (tOrV ta tb):=⟨pe_or ha.h hb.h⟩
def jCE{op}(ha:JE X a ta):JE X (.BoolOp op [a] pos) ta:=⟨jWE ha.h⟩
def jOE(h:JA X es t):JE X (.List es pos) (tLst t):=⟨jJZ h.h⟩
def jKL{x1}(h:JA X es t):JE X (.Tuple es x1 pos) (tTup t):=⟨jWD h.h⟩
def jDP{lo hi:Option Expr}{tl th:TO}{r:V->Option Int->Option Int->Hp->VK->Prop}(hr:SlR X r)(he:JE X e te)(hl:JO X lo tl)(hu:JO X hi th):JE X (.Subscript e (.Slice lo hi none p2) pos) (tSl r te tl th):=⟨jQ3 hr he.h hl.h hu.h⟩
def jI{r:R2}(hr:IxR X r)(ha:JE X a ta)(hb:JE X b tb)(hs:jAV b):JE X (.Subscript a b pos) (tOp r ta tb):=⟨pe_ix hr ha.h hb.h hs⟩
theorem kN{T}(hc:qA X (.type T) r)(hg:Gl1 X x)(hm:X.mg x=none)(hv:bootBuiltins x=some (.type T))(ha:JA X (e::es) t)(he:starEach (e::es) X.env=(false,eval e X.env)::starEach es X.env)(hn:x≠"__name__" :=by decide)(hdb:(x==("__debug__":Str))=false:=by decide)
  (hpl:(backTo pos (starEach es X.env)).any (·.1)=false:=by rfl):JE X (.Call (.Name x p) (e::es) [] pos) (tCB r t):=⟨jC9 hc hg.a hm hv ha.h hn hdb he hpl⟩
theorem jF{id}(hc:qA X (.builtin id) r)(hg:Gl1 X x)(hm:X.mg x=none)(hv:bootBuiltins x=some (.builtin id))(ha:JA X (e::es) t)(he:starEach (e::es) X.env=(false,eval e X.env)::starEach es X.env)(hn:x≠"__name__" :=by decide)(hdb:(x==("__debug__":Str))=false:=by decide)
  (hpl:(backTo pos (starEach es X.env)).any (·.1)=false:=by rfl):JE X (.Call (.Name x p) (e::es) [] pos) (tCB r t):=⟨jFT hc hg.a hm hv ha.h hn hdb he hpl⟩
def j5:JA X [] tNil:=⟨yS⟩
def j3(ha:JE X e te)(hr:JA X es t)(hs:starEach (e::es) X.env=(false,eval e X.env)::starEach es X.env):JA X (e::es) (tCons te t):=⟨kO ha.h hr.h hs⟩
def jY{op:CmpOp}{r:R2}(ho:OpR X (compareOp op) r)(ha:JE X a ta)(hb:JE X b tb)(hm:behindInMarks op b=false):JT X (.Compare a [op] [b] pos) (tTest (tOp r ta tb)):=⟨jE1 ho ha.h hb.h hm⟩
def yJ(h:JE X e te)(he:TvOk e):JT X e (tB te):=⟨jW3 h.h (he.h _)⟩
def qK{tA:TT}(ha:JT X a tA):JT X (.UnaryOp .Not a pos) (tNot tA):=⟨jW4 ha.h⟩
def yK:JTs X [] qC:=⟨jN0⟩
def jB3{t:TT}(h:JT X e t):JTs X [e] t:=⟨jMZ h.h⟩
def jT{i:Nat}(hN:X.N.Nodup)(hi:X.N[i]?=some x)(hx:Loc1 X x):JG X (.Name x pos) (kT i):=⟨jFS hN hi hx.a hx.b⟩
def yC(hg:Gl1 X "range")(hm:X.mg "range" =none)(ha:JA X [a] t)(hs:starEach [a] X.env=(false,eval a X.env)::starEach [] X.env):JI X tg (.Call (.Name "range" p) [a] [] pos) (iRng1 t):=⟨jC8 hg.a hm ha.h hs⟩
def jAT(hl:JE X a ta):JI X tg a (iList X.K ta):=⟨jTH hl.h⟩
def qO(hl:JE X a ta):JI X tg a (iTup X.K ta):=⟨jWA hl.h⟩
theorem jXF{tp:Pos}(hg:Gl1 X "zip")(hm:X.mg "zip" =none)(ha:JA X [a,b] t)(he:starEach [a,b] X.env=(false,eval a X.env)::starEach [b] X.env)(hv:bootBuiltins "zip" =some (.type "zip"):=by decide+kernel)
  (hpl:(backTo pos (starEach [b] X.env)).any (·.1)=false:=by rfl):JI X (.Tuple elts x1 tp) (.Call (.Name "zip" p) [a,b] [] pos) (iZip X.K t):=⟨jW9 hg.a hm ha.h hv he hpl⟩
def jG5:JO X none jMC:=⟨jTD⟩
def jG4(h:JE X e te):JO X (some e) (tPart te):=⟨jTC h.h⟩
def jX{i:Nat}{pos':Pos}(hN:X.N.Nodup)(hi:X.N[i]?=some x)(hx:Loc1 X x)(he:JE X e te)(hs:SwOk e (some (.Name x pos'))):JS X (.Assign [.Name x pos'] e pos) (tAsg te (kT i)):=⟨qN hN hi hx.a he.h (hs.h _ _) hx.b⟩
def jM(he:JE X e te):JS X (.Return (some e) pos) (tRet te):=⟨jD9 he.h⟩
def kP(he:JE X e te)(hs:SwOk e none):JS X (.Expr e pos) (tDrop te):=⟨jT9 he.h (hs.h _ _)⟩
def jS:JSs X [] tNext:=⟨jFR⟩
def jC{st:Stmt}{t:TS}(h1:JS X st t):JSs X [st] t:=⟨jAR h1.h⟩
def j9{st:Stmt}{rest:List Stmt}{t u:TS}(h1:JS X st t)(h2:JSs X rest u):JSs X (st::rest) (tSeq t u):=⟨y8 h1.h h2.h⟩
def kY{a b:List Stmt}{tc:TT}{t u:TS}(hc:JT X c tc)(ha:JSs X a t)(hb:JSs X b u):JS X (.If c a b pos) (tIfS tc t u):=⟨ps_if hc.h ha.h hb.h⟩
def qH{iter:Expr}{wi:TI}{g:TG}{tb:TS}(hp:PassesOwn (model X.prog X.w) X.A X.env X.xe)(hc:X.calm=true)(hi:JI X tg iter wi)(hg:JG X tg g)(hb:JSs X body tb)(hs:FoOk iter):JS X (.For tg iter body [] pos) (tFor wi g tb):=⟨jS8 hp hc hi.h hg.h hb.h (hs.h _)⟩
theorem je_bm{name:Str}{r}(pa:PlainAttrs T)(slot:Slot T name id)(hty:typeOf (.builtin id)=pure (.type "method_descriptor"))(hm:MtR X id r)(ho:JE X o to)(ha:JA X (e::es) t)
  (hs:starEach (e::es) X.env=(false,eval e X.env)::starEach es X.env)
  (hbase:attributeBase o name X.env (eval o X.env)=eval o X.env:=by rfl)
  (hfew:((backTo cpos (starEach (e::es) X.env)).all (λx=>!x.1)&&(backToKw cpos (keywordEach [] X.env)).all (λx=>x.1.isSome)
   &&decide ((e::es).length+([]:List Keyword).length+(if ([]:List Keyword).isEmpty then 0 else 1)<30))=true:=by rfl)
  (hline:(apos.endLine==cpos.line)=true:=by rfl) (hplain:(backTo cpos (starEach es X.env)).any (·.1)=false:=by rfl):
  JE X (.Call (.Attribute o name apos) (e::es) [] cpos) (tBM X.K T r to t):=⟨pe_bm pa slot hty hm ho.h ha.h hbase hfew hline hs hplain⟩
def kU{tg iter elt:Expr}{ifs:List Expr}{sc:Scope}{wi:TI}{g:TG}{tt:TT}{m:List (Option Nat)}{Nc:Am}(hc:X.calm=true)(hi:JI X tg iter wi)(hkind:sc.kind=.function)(hcell:∀y∈sc.names,y.2≠.cell)(hnames:∀y∈sc.names,y.2=.local->sc.names.lookup y.1=some .local)
  (hfree:Fq X sc) (hm:jBU X sc Nc m)
  (hg:∀cl C fp s H,JG (blk X sc cl C Nc fp s H) tg g) (ht:∀cl C fp s H,JTs (blk X sc cl C Nc fp s H) ifs tt) (he:∀cl C fp s H,JE (blk X sc cl C Nc fp s H) elt te)
  (hs:FoOk iter):JE X (.ListComp elt [⟨tg,iter,ifs,0⟩] sc pos) (tComp m wi g tt te):=⟨jIM hc hi.h hkind hcell hnames hfree hm (λcl C fp s H=>(hg cl C fp s H).h) (λcl C fp s H=>(ht cl C fp s H).h) (λcl C fp s H=>(he cl C fp s H).h) (hs.h _)⟩
def jXI{p1 p3 p4 p5 p6 p7:Pos}{k3 k4:Nat}:JE X (.BinOp (.BinOp (.Constant (.int 2) k1 p1) .Mult (.BinOp (.Constant (.int 10) k2 p2) .Pow (.Constant (.int 12) k3 p3) p4) p5) .Add (.Constant (.int 1) k4 p6) p7) (tC (.int 2000000000001)):=⟨jWJ⟩
end
variable {P:Program}{mg:Ak}{Aq:Heap}{N:Am}{qual:Str}{sc:Scope}{f:Addr}{cdv:Value}{Ap:List Env}{H:Hp}{E:XK}
section
variable {K:W.Frag}
def gl_d(h:sc.names.lookup x=some .globalImplicit):Gl1 (cxOf CX0 P w K mg Aq N qual sc f cdv A Ap s H E).nox x:=⟨h⟩
theorem gD(h:sc.names.lookup x=some .globalImplicit:=by decide+kernel):Gl1 (cxOf CX0 P w K mg Aq N qual sc f cdv A Ap s H E).nox x:=gl_d h
def vis_l(h:sc.names.lookup x=some .local):Vis1 (cxOf CX0 P w K mg Aq N qual sc f cdv A Ap s H E).nox x:=⟨.inl h⟩
theorem vL(h:sc.names.lookup x=some .local:=by decide+kernel):Vis1 (cxOf CX0 P w K mg Aq N qual sc f cdv A Ap s H E).nox x:=vis_l h
def vis_c(h:sc.names.lookup x=some .cell):Vis1 (cxOf CX0 P w K mg Aq N qual sc f cdv A Ap s H E).nox x:=⟨.inr (.inl h)⟩
theorem vC(h:sc.names.lookup x=some .cell:=by decide+kernel):Vis1 (cxOf CX0 P w K mg Aq N qual sc f cdv A Ap s H E).nox x:=vis_c h
end
def jAM{env:Env}{x:Str}{k:NameKind}(hk:k≠.free):∀{l:List (Str×NameKind)},l.lookup x=some k->
  (l.map λ(n,k)=>if (k==NameKind.free&&env.scope.kind==.function&&env.kindOf n==some .cell) then (n,NameKind.cell) else (n,k)).lookup x=some k
 |[],h=>by cases h
 | (n,k')::r,h=>by
  have ih:= @jAM env x k hk r;rw[bz] at h;rw[aW];dsimp only;by_cases hb:(k'==NameKind.free&&env.scope.kind==.function&&env.kindOf n==some .cell)=true
  .rw[ax hb,bz];cases hx:x==n with
   |true=>
    rw[hx] at h;have e:k'=k:=bo h;simp only[bC] at hb;exact absurd (e.symm.trans (eq_of_beq hb.1.1)) hk
   |false=>rw[hx] at h;exact ih h
  .rw[aq hb,bz];cases hx:x==n with
   |true=>rw[hx] at h;exact h
   |false=>rw[hx] at h;exact ih h
variable {cl:Aj}{C:Addr}{Nc:Am}{fp:List Addr}
theorem gl_b(h:sc.names.lookup x=some .globalImplicit:=by decide+kernel):Gl1 (blk X sc cl C Nc fp s H) x:=⟨jAM Ac h⟩
theorem jZ(h:sc.names.lookup x=some .local:=by decide+kernel):Vis1 (blk X sc cl C Nc fp s H) x:=⟨.inl (jAM Ac h)⟩
theorem yA(h:sc.names.lookup x=some .free:=by decide+kernel):Vis1 (blk X sc cl C Nc fp s H) x:=⟨.inr (jCY h)⟩
theorem yZ(h:sc.names.lookup x=some .local:=by decide+kernel):Loc1 (blk X sc cl C Nc fp s H) x:=⟨.inl (jAM Ac h),.inr (jAM Ac h)⟩
section
variable {K:W.Frag}
def loc_l(h:sc.names.lookup x=some .local):Loc1 (cxOf CX0 P w K mg Aq N qual sc f cdv A Ap s H E).nox x:=⟨.inl h,.inl rfl⟩
theorem lL(h:sc.names.lookup x=some .local:=by decide+kernel):Loc1 (cxOf CX0 P w K mg Aq N qual sc f cdv A Ap s H E).nox x:=loc_l h
theorem loc_c(h:sc.names.lookup x=some .cell:=by decide+kernel):Loc1 (cxOf CX0 P w K mg Aq N qual sc f cdv A Ap s H E).nox x:=⟨.inr h,.inl rfl⟩
end
structure JW (X:Cx)(e:Expr)(t:TT):Prop where
 h:PW X e t
section
variable {rest:List Expr}{tA tB':TT}
def jUN(ha:JT X a tA):JW X (.BoolOp .And [a] pos) tA:=⟨jT6 ha.h⟩
def jKJ(ha:JT X a tA):JW X (.BoolOp .Or [a] pos) tA:=⟨jW0 ha.h⟩
def jXE(ha:JT X a tA)(hb:JW X (.BoolOp .And (b::rest) pos) tB'):JW X (.BoolOp .And (a::b::rest) pos) (tAnd tA tB'):=⟨jW2 ha.h hb.h⟩
def jw_or(ha:JT X a tA)(hb:JW X (.BoolOp .Or (b::rest) pos) tB'):JW X (.BoolOp .Or (a::b::rest) pos) (tOr tA tB'):=⟨pw_or ha.h hb.h⟩
def jt_w(h:JW X a tA):JT X a tA:=⟨h.h.pt⟩
def jJ4:JGs X [] gNil:=⟨jTJ⟩
structure AsOk (e:Expr):Prop where
 h:∀es env,assignEach (e::es) env=(false,assign e env)::assignEach es env
def jD3:AsOk (.Name x pos):=⟨λ_ _=>rfl⟩
def jBH{e:Expr}{t:TG}{u:TGs}(h1:JG X e t)(h2:JGs X es u)(hs:AsOk e):JGs X (e::es) (gCons t u):=⟨jQ2 h1.h h2.h (by rw[hs.h];rfl)⟩
def jOD{es:List Expr}{k:Nat}{t:TGs}{n:Nat}(hc:X.calm=true)(h:JGs X es t)(hn:(assignEach es X.env).length=n:=by rfl)(hst:(assignEach es X.env).findIdx? (·.1)=none:=by rfl):JG X (.Tuple es k pos) (gTup X.K n t):=⟨jWB hc h.h hn hst⟩
def jIQ{op:CmpOp}:behindInMarks op (.Name x pos)=false:=by cases op<;>rfl
end
def jB4{X:Cx}{sc:Scope}{cl:Aj}{C:Addr}{Nc:Am}{fp:List Addr}{s:Shared}{H:Hp}{x y:Str}{p1 p2 pos:Pos}{k:Nat}{i j:Nat}(hc:X.calm=true)(hN:Nc.Nodup)(hi:Nc[i]?=some x)(hj:Nc[j]?=some y)(hx:sc.names.lookup x=some .local)(hy:sc.names.lookup y=some .local):
  JG (blk X sc cl C Nc fp s H) (.Tuple [.Name x p1,.Name y p2] k pos) (gTup X.K 2 (gCons (kT i) (gCons (kT j) gNil))):=
 jOD (X:=blk X sc cl C Nc fp s H) hc (jBH (jT hN hi (yZ hx)) (jBH (jT hN hj (yZ hy)) jJ4 jD3) jD3)
variable {m:List (Option Nat)}{g:TG}{tt:TT}{H1:Hp}{Q:VK}
section
variable {K:W.Frag}{σ:St}
theorem jRH{t1 t2:Bool}{l1 l2:Addr}{xs ys:List V}(hn:xs.length<sizeLine)(Pv:Addr->Nat->St->Hp->List V->Prop)(h0:∀D,H1 D=none->Pv D 0 (blkσ m σ) (upd H1 D (.lst [])) [])
  (hD:∀D i σ' H' zs,H1 D=none->Pv D i σ' H' zs->Sq t1 K H' l1 xs/\Sq t2 K H' l2 ys/\H' D=some (.lst zs)/\zs.length<=i)
  (hs:∀D i σ' H' zs x y T,H1 D=none->xs[i]?=some x->ys[i]?=some y->H' T=none->Pv D i σ' H' zs->g (.ref T) σ' (upd H' T (.tup [x,y])) λσ2 H2=>tt σ2 H2 λb H3=>if b=true then te σ2 H3 λv H4=>H4 D=some (.lst zs)/\Pv D (i+1) σ2 (upd H4 D (.lst (zs++[v]))) (zs++[v]) else Pv D (i+1) σ2 H3 zs)
  (hd:∀D σ' H' zs,H1 D=none->Pv D (min xs.length ys.length) σ' H' zs->Q (.ref D) H'):qX m g tt te σ Q (Itz t1 t2 K l1 l2) H1:=by
 intro D hDn;refine⟨λi k σ' H' zs=>k=min xs.length ys.length-i/\i<=min xs.length ys.length/\Pv D i σ' H' zs,⟨_,rfl,ba _,h0 D hDn⟩,?_⟩;rintro i k σ' H' zs ⟨rfl,hi,p⟩;obtain⟨s1,s2,q1,q2⟩:=hD D i σ' H' zs hDn p;refine⟨q1,Aa,?_⟩;by_cases hlt:i<min xs.length ys.length
 .have a1:i<xs.length:=Aa;have a2:i<ys.length:=Aa;refine .inr ⟨⟨xs,ys,xs[i],ys[i],s1,s2,by simp[a1],by simp[a2]⟩,Pv D (i+1),λσ2 H2 zs z=>⟨min xs.length ys.length-(i+1),Aa,rfl,hlt,z⟩,λv H'' y=>?_⟩;obtain⟨T,x,y,e1,e2,e3,e4⟩:=y;subst e2 e3;obtain⟨z1,z2⟩:=e4 xs ys s1 s2;exact hs D i σ' _ zs x y T hDn z1 z2 e1 p
 .have e:i=min xs.length ys.length:=Aa;subst e;exact .inl ⟨⟨xs,ys,s1,s2,Aa⟩,hd D σ' H' zs hDn p⟩
end
def jFU:OpR (blk X sc cl C Nc fp s H) (compareOp .In) (rIn X.K false):=jCA
def jOH:IxR (blk X sc cl C Nc fp s H) (rIxL X.K):=jB5
def yO:IxR (blk X sc cl C Nc fp s H) (rIxT X.K):=jG
def Ext(H H':Hp):Prop:=∀b o,H b=some o->H' b=some o
def Ext.refl(H:Hp):Ext H H:=λ_ _ h=>h
def Ext.trans{H2:Hp}(a:Ext H H1)(b:Ext H1 H2):Ext H H2:=λc o h=>b c o (a c o h)
def Ext.new{H H1:Hp}{l:Addr}(a:Ext H H1)(hl:H1 l=none)(o:HO):Ext H (upd H1 l o):=λc u h=>by
 have:=a c u h;rw[j8 (jA this hl)];exact this
def Ext.updNew{l:Addr}(a:Ext H H1)(hl:H l=none)(o:HO):Ext H (upd H1 l o):=λc u h=>by
 rw[j8 (jA h hl)];exact a c u h
def TupR(H:Hp)(xs:List V)(Q:VK):Prop:=∀r H',H' r=some (.tup xs)->Ext H H'->Q (.ref r) H'
def TupR.new{H:Hp}{xs:List V}{Q:VK}(q:TupR H xs Q){p:Addr}(hp:H p=none):Q (.ref p) (upd H p (.tup xs)):=q p _ j7 ((Ext.refl H).new hp _)
def TupR.old{xs:List V}(q:TupR H xs Q){p:Addr}(hp:H p=some (.tup xs)):Q (.ref p) H:=q p H hp (Ext.refl H)
inductive rCatU(x y:V)(H:Hp)(Q:VK):Prop|i(a b xs ys:_)(_:x=.ref a)(_:y=.ref b)(_:H a=some (.tup xs))(_:H b=some (.tup ys))(_:xs.length+ys.length<=sizeLine)(_:TupR H (xs++ys) Q)
def jFV:OpR X (binaryOp .Add) rCatU:=by
 intro lw s σ H x y v u Q I rx ry h;obtain⟨a,b,xs,ys,rfl,rfl,ha,hb,hz,q⟩:=h;by_cases hx:xs=[]
 .subst hx;cases rx;cases ry;obtain⟨_,its,r1,n1,e1⟩:=I.hok a _ ha;obtain⟨_,its2,r2,n2,e2⟩:=I.hok b _ hb;cases r1;exact concat_meets ⟨_,e1,rfl⟩ ⟨_,e2,rfl⟩ iT seq_tuple_add fz ft (fe _ _) (AutoSeq1.tuple___add___tuple_tuple_0 a _ n1 b its2.toArray n2 Ad) ⟨e1,e2,.ref b,H,I,rfl,q.old hb⟩
 .refine jTU lw s σ H _ _ v u Q I rx ry ⟨a,b,xs,ys,rfl,rfl,SqT.of ha,SqT.of hb,hx,hz,λe=>?_,λ_ p hp=>q.new hp⟩;subst e;rw[bg] at q;exact q.old ha
section
variable (l:Addr)(items:An)(n:Nat)(x:Int)(u:Tok)(h1:¬(decide (x< -(2^63)) ||decide (x ≥ 2^63))=true)
include h1
end
theorem jCX{E:Ah}{t sl:Addr}{items:An}{vl vu:Value}{lo hi:Option Int}{Q:Ah}
  (e0:s.heap.get? t=some {cls:=.type "tuple",data:=.seq items n}) (hs:s.heap.IsSliceOf sl vl vu .none) (pl:IsPart vl lo) (pu:IsPart vu hi)
  (hw:HT.sIx items.size 0 lo=0/\HT.sIx items.size items.size hi=items.size) (h:Q (.ref t) s):wpAny (model prog w) A (getItem (.ref t) (.ref sl)) Q E s:=by
 have ht:IsTup s.heap t items:=⟨_,e0,rfl,n,rfl⟩;obtain⟨os,hos,hcs,hds⟩:=id hs;have hTs:s.TypeIs (.ref sl) "slice" :=⟨os,hos,hcs⟩;unfold getItem
 try with_reducible refine bE ?_
 first|refine ab (ah ?_)|skip
 refine ab (wpAny_sequenceKey ht.typeIs Ac (ab (bF (name:=Str.ofString "__getitem__") ht.typeIs cf
  (bQ cf ht.typeIs entry_tuple_getitem (?_:wpAny (model prog w) _ (Builtin.Tuple.tupleItemsOf (.ref t) >>= _) _ _ s) (args_tuple_getitem _ _)))))
 refine ab (tupleItemsOf_ ht (ab (eR hTs ?_)));rw[ax Ac];refine ab (HT.sliceApplied_gen hs pl pu ?_);have yes:(((HT.sIx items.size 0 lo:Nat):Int)==0&&(1:Int)==1&&(HT.sIx items.size items.size hi-HT.sIx items.size 0 lo)==items.size)=true:=by
  rw[hw.1,hw.2];simp
 show wpAny (model prog w) _ (if (((HT.sIx items.size 0 lo:Nat):Int)==0&&(1:Int)==1&&(HT.sIx items.size items.size hi-HT.sIx items.size 0 lo)==items.size)=true then _ else _) _ _ s;rw[ax yes];have ex:∀{A:Around}{Q:Bool->Shared->Prop},Q true s->wpAny (model prog w) A (Builtin.Tuple.tupleIsExact (.ref t)) Q E s:=λq=>by
  unfold Builtin.Tuple.tupleIsExact;exact ab (eR ⟨_,e0,rfl⟩ (ah q))
 refine ab (ex ?_);rw[ax rfl];exact ab (cG (ah ⟨_,rfl,ah h⟩))
inductive rSlU(x:V)(lo hi:Option Int)(H:Hp)(Q:VK):Prop|i(a xs:_)(_:x=.ref a)(_:H a=some (.tup xs))(_:TupR H (cutV xs lo hi) Q)
def jMS:SlR X rSlU:=by
 intro lw s σ H x v vl vu lo hi sl Q I rx hs pl pu h;obtain⟨a,xs,rfl,hx,q⟩:=h;by_cases hw:HT.sIx xs.length 0 lo=0/\HT.sIx xs.length xs.length hi=xs.length
 .cases rx;obtain⟨_,its,r,n,e⟩:=I.hok a _ hx;have hlen:its.toArray.size=xs.length:=by rw[aK];exact r.length.symm
  refine⟨"tuple",_,cf.lookup,⟨_,e,rfl⟩,jCX e hs pl pu (by rw[hlen];exact hw) ⟨.ref a,H,I,rfl,q.old ?_⟩⟩;rw[hx];congr 2;unfold cutV;rw[hw.1,hw.2];simp
 .exact jVT lw s σ H _ v vl vu lo hi sl Q I rx hs pl pu ⟨a,xs,rfl,SqT.of hx,hw,λp hp=>q.new hp⟩
theorem Inv.big'(I:Inv X lw σ H s):sysModules<s.heap.objs.size:=dY Ac (I.mod.glob.keeps I.bk).lt
def jVQ:TE:=λ_ H Q=>∀p,H p=none->Q (.ref p) (upd H p (.dK []))
def jR3:JE X (.Dict [] [] pos) jVQ:=⟨λlw s σ H Q I h=>
 wpAny_Dict_empty ⟨.ref s.heap.objs.size,_,I.laid (a:=s.heap.objs.size) (o:=.dK []) (t':=s.toks) (λ_ _ q=>ae _ q) (ar _)
  ⟨ba _,bL.mpr (ce (aO I.big')),[],.nil,jc s.heap⟩,rfl,h _ (I.hok.fresh (ar _))⟩⟩
def jR5{ta tb tc:TE}{op op':CmpOp}{r r':R2}(ho:OpR X (compareOp op) r)(ho':OpR X (compareOp op') r')(ha:JE X a ta)(hb:JE X b tb)(hc:JE X c tc)
  (hm:lastMarks [op,op'] [b,c]=false:=by with_unfolding_all rfl):JE X (.Compare a [op,op'] [b,c] pos) (jS0 r r' ta tb tc):=⟨jQ8 ho ho' ha.h hb.h hc.h hm⟩
theorem jJ5{x:Str}{v:V}{u:Value}{pos:Pos}(hg:Gl1 X x)(hm:X.mg x=some u)(r:RelV v u)(hd:(x==("__debug__":Str))=false:=by decide):JE X (.Name x pos) (tC v):=⟨jTL hg.a hm r hd⟩
def jOC{t:TA}(hg:Gl1 X "range")(hm:X.mg "range" =none)(ha:JA X [a,b] t)(hs:starEach [a,b] X.env=(false,eval a X.env)::starEach [b] X.env)(hs2:starEach [b] X.env=(false,eval b X.env)::starEach [] X.env):
  JI X tg (.Call (.Name "range" p) [a,b] [] pos) (iRng2 t):=⟨jN5 hg.a hm ha.h (by rw[hs,hs2];rfl) hs2⟩
section
variable {K:W.Frag}{σ:St}
theorem jBJ{a:Addr}{xs:List V}(hn:xs.length<sizeLine)(Pv:Addr->Nat->St->Hp->List V->Prop)(h0:∀D,H1 D=none->Pv D 0 (blkσ m σ) (upd H1 D (.lst [])) [])
  (hD:∀D i σ' H' zs,H1 D=none->Pv D i σ' H' zs->H' a=some (.tup xs)/\H' D=some (.lst zs)/\zs.length<=i)
  (hs:∀D i σ' H' zs x,H1 D=none->xs[i]?=some x->Pv D i σ' H' zs->g x σ' H' λσ2 H2=>tt σ2 H2 λb H3=>if b=true then te σ2 H3 λv H4=>H4 D=some (.lst zs)/\Pv D (i+1) σ2 (upd H4 D (.lst (zs++[v]))) (zs++[v]) else Pv D (i+1) σ2 H3 zs)
  (hd:∀D σ' H' zs,H1 D=none->Pv D xs.length σ' H' zs->Q (.ref D) H'):qX m g tt te σ Q (Itt K a) H1:=by
 intro D hDn;refine⟨λi k σ' H' zs=>k=xs.length-i/\i<=xs.length/\Pv D i σ' H' zs,⟨_,rfl,ba _,h0 D hDn⟩,?_⟩;rintro i k σ' H' zs ⟨rfl,hi,p⟩;obtain⟨s1,q1,q2⟩:=hD D i σ' H' zs hDn p;refine⟨q1,Aa,?_⟩;by_cases hlt:i<xs.length
 .refine .inr ⟨⟨xs,xs[i],SqT.of s1,by simp[hlt]⟩,Pv D (i+1),λσ2 H2 zs z=>⟨xs.length-(i+1),Aa,rfl,hlt,z⟩,λv H'' y=>?_⟩;obtain⟨e1,e2⟩:=y;subst e1;exact hs D i σ' _ zs v hDn (e2 xs (SqT.of s1)) p
 .have e:i=xs.length:=Aa;subst e;exact .inl ⟨⟨xs,SqT.of s1,ar _⟩,hd D σ' H' zs hDn p⟩
end
inductive Tr where
 |non
 |bl (b:Bool)
 |int (i:Int)
 |str (x:Str)
 |lst (ts:List Tr)
 |tup (ts:List Tr)
mutual
def TAt(H:Hp):Tr->V->Prop
 | .non,v=>v=.non
 | .bl b,v=>v=.bl b
 | .int i,v=>v=.int i
 | .str x,v=>v=.str x
 | .lst ts,v=>∃a vs,v=.ref a/\H a=some (.lst vs)/\TsAt H ts vs
 | .tup ts,v=>∃a vs,v=.ref a/\H a=some (.tup vs)/\TsAt H ts vs
def TsAt(H:Hp):List Tr->List V->Prop
 |[],vs=>vs=[]
 |t::ts,vs=>∃v r,vs=v::r/\TAt H t v/\TsAt H ts r
end
mutual
def dep:Tr->Nat
 | .lst ts=>deps ts+1
 | .tup ts=>deps ts+1
 |_=>0
def deps:List Tr->Nat
 |[]=>0
 |t::ts=>max (dep t) (deps ts)
end
mutual
def eqT:Tr->Tr->Bool
 | .non,.non=>true
 | .bl a,.bl b=>a==b
 | .bl a,.int b=>(if a then 1 else 0)==b
 | .int a,.bl b=>a==(if b then 1 else 0)
 | .int a,.int b=>a==b
 | .str a,.str b=>a==b
 | .lst a,.lst b=>eqTs a b
 | .tup a,.tup b=>eqTs a b
 |_,_=>false
def eqTs:List Tr->List Tr->Bool
 |[],[]=>true
 |a::as,b::bs=>eqT a b&&eqTs as bs
 |_,_=>false
end
mutual
def jRC:∀t:Tr,eqT t t=true
 | .non=>by simp[eqT]
 | .bl b=>by simp[eqT]
 | .int i=>by simp[eqT]
 | .str x=>by simp[eqT]
 | .lst ts=>by rw[eqT];exact jEK ts
 | .tup ts=>by rw[eqT];exact jEK ts
def jEK:∀ts:List Tr,eqTs ts ts=true
 |[]=>by simp[eqTs]
 |t::ts=>by rw[eqTs,jRC t,jEK ts];rfl
end
mutual
def TAt.ext{H H':Hp}(e:Ext H H'):∀{t:Tr}{v:V},TAt H t v->TAt H' t v
 | .non,_,h=>h
 | .bl _,_,h=>h
 | .int _,_,h=>h
 | .str _,_,h=>h
 | .lst ts,_,⟨a,vs,q,h,r⟩=>⟨a,vs,q,e _ _ h,TsAt.ext e r⟩
 | .tup ts,_,⟨a,vs,q,h,r⟩=>⟨a,vs,q,e _ _ h,TsAt.ext e r⟩
def TsAt.ext{H H':Hp}(e:Ext H H'):∀{ts:List Tr}{vs:List V},TsAt H ts vs->TsAt H' ts vs
 |[],_,h=>h
 |t::ts,_,⟨v,r,q,h,s⟩=>⟨v,r,q,TAt.ext e h,TsAt.ext e s⟩
end
mutual
def TAt.inj{H:Hp}:∀{t u:Tr}{v:V},TAt H t v->TAt H u v->t=u
 | .non,u,_,h,h'=>by
  cases (show _=V.non from h);cases u with
  |non=>rfl
  |bl b=>cases (show V.non=_ from h')
  |int b=>cases (show V.non=_ from h')
  |str b=>cases (show V.non=_ from h')
  |lst ts=>obtain⟨_,_,q,_⟩:=h';cases q
  |tup ts=>obtain⟨_,_,q,_⟩:=h';cases q
 | .bl b,u,_,h,h'=>by
  cases (show _=V.bl b from h);cases u with
  |non=>cases (show V.bl b=_ from h')
  |bl b=>cases (show V.bl _=V.bl b from h');rfl
  |int i=>cases (show V.bl b=V.int i from h')
  |str i=>cases (show V.bl b=V.str i from h')
  |lst ts=>obtain⟨_,_,q,_⟩:=h';cases q
  |tup ts=>obtain⟨_,_,q,_⟩:=h';cases q
 | .int b,u,_,h,h'=>by
  cases (show _=V.int b from h);cases u with
  |non=>cases (show V.int b=_ from h')
  |bl i=>cases (show V.int b=V.bl i from h')
  |int b=>cases (show V.int _=V.int b from h');rfl
  |str i=>cases (show V.int b=V.str i from h')
  |lst ts=>obtain⟨_,_,q,_⟩:=h';cases q
  |tup ts=>obtain⟨_,_,q,_⟩:=h';cases q
 | .str b,u,_,h,h'=>by
  cases (show _=V.str b from h);cases u with
  |non=>cases (show V.str b=_ from h')
  |bl i=>cases (show V.str b=V.bl i from h')
  |int i=>cases (show V.str b=V.int i from h')
  |str b=>cases (show V.str _=V.str b from h');rfl
  |lst ts=>obtain⟨_,_,q,_⟩:=h';cases q
  |tup ts=>obtain⟨_,_,q,_⟩:=h';cases q
 | .lst ts,u,_,⟨a,vs,q,h,r⟩,h'=>by
  subst q;cases u with
  |non=>cases (show V.ref a=_ from h')
  |bl i=>cases (show V.ref a=V.bl i from h')
  |int i=>cases (show V.ref a=V.int i from h')
  |str i=>cases (show V.ref a=V.str i from h')
  |lst us=>
   obtain⟨a',vs',q',h2,r'⟩:=h';cases q';rw[h] at h2;cases h2;rw[TsAt.inj r r']
  |tup us=>
   obtain⟨a',vs',q',h2,r'⟩:=h';cases q';rw[h] at h2;cases h2
 | .tup ts,u,_,⟨a,vs,q,h,r⟩,h'=>by
  subst q;cases u with
  |non=>cases (show V.ref a=_ from h')
  |bl i=>cases (show V.ref a=V.bl i from h')
  |int i=>cases (show V.ref a=V.int i from h')
  |str i=>cases (show V.ref a=V.str i from h')
  |lst us=>
   obtain⟨a',vs',q',h2,r'⟩:=h';cases q';rw[h] at h2;cases h2
  |tup us=>
   obtain⟨a',vs',q',h2,r'⟩:=h';cases q';rw[h] at h2;cases h2;rw[TsAt.inj r r']
def TsAt.inj{H:Hp}:∀{ts us:List Tr}{vs:List V},TsAt H ts vs->TsAt H us vs->ts=us
 |[],us,_,h,h'=>by
  cases (show _=[] from h);cases us with
  |nil=>rfl
  |cons u us=>obtain⟨_,_,q,_⟩:=h';cases q
 |t::ts,us,_,⟨v,r,q,h,s⟩,h'=>by
  subst q;cases us with
  |nil=>cases (show v::r=[] from h')
  |cons u us=>
   obtain⟨v',r',q,h2,s2⟩:=h';cases q;rw[TAt.inj h h2,TsAt.inj s s2]
end
def TsAt.len:∀{ts:List Tr}{vs:List V},TsAt H ts vs->vs.length=ts.length
 |[],_,h=>by cases (show _=[] from h);rfl
 |t::ts,_,⟨v,r,q,_,s⟩=>by rw[q,aV,aV,TsAt.len s]
def TsAt.get{H:Hp}:∀{ts:List Tr}{vs:List V},TsAt H ts vs->∀{i:Nat}{v:V},vs[i]?=some v->∃t,ts[i]?=some t/\TAt H t v
 |[],_,h,i,v,e=>by cases (show _=[] from h);cases e
 |t::ts,_,⟨v,r,q,h,s⟩,0,v',e=>by subst q;cases e;exact⟨t,rfl,h⟩
 |t::ts,_,⟨v,r,q,h,s⟩,i+1,v',e=>by subst q;exact TsAt.get s (i:=i) e
theorem jV2{ts:List Tr}{t:Tr}(h:t∈ts):dep t<=deps ts:=by
 induction ts with
 |nil=>cases h
 |cons a r ih=>
  rw[deps];rcases aA.mp h with q|q
  .subst q;lia
  .have:=ih q;lia
section
variable {lw:Ai}{σ:St}
end
section
variable {tg iter elt:Expr}{ifs:List Expr}{wi:TI}
end
section
variable {sc2:Scope}{cl2:Aj}{C2:Addr}{Nc2:Am}{fp2:List Addr}{s2:Shared}{H2:Hp}
end
inductive rAny(K:W.Frag)(xs:List V)(H:Hp)(Q:VK):Prop|i(p:Addr)(bs:List Bool)(_:xs=[.ref p])(_:SqL K H p (bs.map V.bl))(_:Q (.bl (bs.any id)) H)
def jEM(hc:X.calm=true):qA X (.builtin "any") (rAny X.K):=by
 intro lw s σ H xs us Q I r h;obtain⟨p,bs,rfl,hq,q⟩:=h;obtain⟨u,rfl,rx⟩:=r.one;cases rx;obtain⟨its,r',pl,hz⟩:=I.list hq;have hlen:=r'.length;rw[af] at hlen;refine call_any_walk (db pl.isList ?_);have hne:p≠s.heap.objs.size:=by
  obtain⟨o,ho,_⟩:=pl.isList;exact aO (aC ho)
 refine⟨s.heap.objs.size,_,_,_,_,_,λi=>bs.getD i true,rfl,i5 (by simpa using I.ok.hd hc) _ p hne its.toArray,⟨⟨_,ao _ rfl,rfl,rfl⟩,pl.isList.push _⟩,λi v z Q' E' hP hQ'=>?_,λh' tk hk=>?_⟩
 .have hi:its[i]?=some v:=by simpa using hP
  have hb:i<bs.length:=by
   rw[hlen];exact(aj.mp hi).1
  obtain⟨u,hu,ru⟩:=r'.get (i:=i) (x:=.bl (bs[i])) (by simp[hb]);rw[hi] at hu;cases hu;cases ru;have e:bs.getD i true=bs[i]:=by simp[List.getD,hb]
  have hQ2:Q' (bs.getD i true) z:=hQ';rw[e] at hQ2;exact ah hQ2
 .have e:(List.range its.toArray.size).any (λi=>bs.getD i true)=bs.any id:=by
   rw[aK,<- hlen];rw[cB,gn,gn];constructor
   .rintro ⟨i,hi,hb⟩;have hi:=bR.mp hi;exact⟨bs[i],cK hi,by simpa [List.getD,hi] using hb⟩
   .rintro ⟨b,hb,hq⟩;obtain⟨i,hi,rfl⟩:=dQ hb;exact⟨i,bR.mpr hi,by simpa [List.getD,hi] using hq⟩
  rw[e];exact⟨.bl _,H,I.kept (t':=tk) λb o e=>hk b o (by
   intro z;have z:b=s.heap.objs.size:=by simpa using z
   exact absurd (aC e) (by rw[z];exact cO _)) (ae _ e),rfl,q⟩
theorem jHR:qA X (.builtin "sorted") (λxs H Q=>∃(p:Addr) (ks:Ag),xs=[.ref p]/\SqL X.K H p (ks.map V.int)/\ks.length<64/\
  ∀(l:Addr) (ns:Ag),H l=none->ns.Pairwise (· <= ·)->ns.Perm ks->Q (.ref l) (upd H l (.lst (ns.map V.int)))):=by
 intro lw s σ H xs us Q I r h;obtain⟨p,ks,rfl,hp,hn,q⟩:=h;obtain⟨u,rfl,rx⟩:=r.one;cases rx;obtain⟨its,r',pl,hz⟩:=I.list hp;have hlen:=r'.length;rw[af] at hlen;refine sorted_ints pl.isList (jAX r') Aa λout ns' a1 a2 a3=>?_;obtain⟨e,he⟩:=sortedAll_at s.heap its out;have hz:(ns'.map V.int).length<=sizeLine:=by
  rw[af,a2.length_eq,dv];lia
 have I2:Inv X lw σ (upd H (s.heap.objs.size+1) (.lst (ns'.map V.int))) {s with heap:=sortedAll s.heap its out}:=I.laid (t':=s.toks) (λb o e=>sortedAll_old e) (dH _) ⟨hz,out.toList,e,jA4 a1,by rw[cX];exact he⟩;exact⟨.ref _,_,I2,rfl,q _ ns' (I.hok.fresh (dH _)) a3 a2⟩
def jQZ{tc:TT}{tb:TS}(hp:PassesOwn (model X.prog X.w) X.A X.env X.xe)(hc:JT X c tc)(hb:JSs X body tb):JS X (.While c body [] pos) (jRY tc tb):=⟨jPU hp hc.h hb.h⟩
def jH9{op:CmpOp}:behindInMarks op (.Subscript a b pos)=false:=by cases op<;>rfl
end L2
namespace L2
open PySem
def LstR(H:Hp)(xs:List V)(Q:VK):Prop:=∀r H',H' r=some (.lst xs)->Ext H H'->H r=none->Q (.ref r) H'
def LstR.new{H:Hp}{xs:List V}{Q:VK}(q:LstR H xs Q){p:Addr}(hp:H p=none):Q (.ref p) (upd H p (.lst xs)):=q p _ j7 ((Ext.refl H).new hp _) hp
def tTupU(t:TA):TE:=λσ H Q=>t σ H λxs H1=>xs.length<=sizeLine/\TupR H1 xs Q
def tLstU(t:TA):TE:=λσ H Q=>t σ H λxs H1=>xs.length<=sizeLine/\LstR H1 xs Q
section
variable {X:Cx}{es:List Expr}{t:TA}{pos:Pos}
def kD{x1}(h:JA X es t):JE X (.Tuple es x1 pos) (tTupU t):=⟨λlw s σ H Q I hq=>by
 refine wpAny_Tuple_spliced (lz (h.h pos lw s σ H _ I hq) λus s1 ⟨xs,H1,I1,r,z,q⟩=>⟨by rw[<- r.length];exact z,?_⟩);have hf:H1 s1.heap.objs.size=none:=I1.hok.fresh (ar _);exact⟨.ref s1.heap.objs.size,upd H1 s1.heap.objs.size (.tup xs),I1.laid (t':=s1.toks) (λb u e=>ae _ e) (ar _) ⟨z,us,r,TupO.new _ _⟩,rfl,q.new hf⟩⟩
def jC0(h:JA X es t):JE X (.List es pos) (tLstU t):=⟨λlw s σ H Q I hq=>by
 refine wpAny_List_spliced (lz (h.h pos lw s σ H _ I hq) λus s1 ⟨xs,H1,I1,r,z,q⟩=>⟨by rw[<- r.length];exact z,?_⟩);have hf:H1 s1.heap.objs.size=none:=I1.hok.fresh (ar _);exact⟨.ref s1.heap.objs.size,upd H1 s1.heap.objs.size (.lst xs),I1.laid (t':=s1.toks) (λb u e=>ae _ e) (ar _) ⟨z,us,0,r,ao _ rfl⟩,rfl,q.new hf⟩⟩
end
end L2
namespace L2
open PySem PySem.Spec PyProof.Rows
variable {s:Shared}{A:Around}{w:World}{prog:Program}{l:Addr}{n:Nat}
variable {X:Cx}
theorem jJD{E:Ah}{vs:Al}{Q:List Value->Shared->Prop}(ho:s.heap.get? l=some {cls:=.type "tuple",data:=.seq vs.toArray n})
  (h:Q vs {s with heap:=(s.heap.push (seqObj "list" #[] 0)).update s.heap.objs.size (Obj.mapSeq (· ++vs.toArray))}) (hsz:vs.length<=sizeLine):
  wpAny (model prog w) A (collect (.ref l)) Q E s:=by
 unfold collect;refine ab (ie (cm entry_proto_collect' ?_));show wpAny _ _ (do again (.builtin "list.__iadd__" ⟨[<- newList [],.ref l],[]⟩)) _ _ s;refine ab (eD (ah ⟨Code.quiet_builtin _ Ab,cm entry_list_iadd' ?_⟩));show wpAny _ _ (Builtin.List.listExtendWith (.ref s.heap.objs.size) (.ref l) (.ref s.heap.objs.size)) _ _ {s with heap:=s.heap.push (seqObj "list" #[] 0)};unfold Builtin.List.listExtendWith;have ho':(s.heap.push (seqObj "list" #[] 0)).get? l=some {cls:=.type "tuple",data:=.seq vs.toArray n}:=ae _ ho;refine ab (eR (T:= "tuple") ⟨_,ho',rfl⟩ ?_);have ht:(Value.type "tuple" ==Value.type "tuple")=true:=by rfl
 rw[ax (by rw[ht,ln])];refine ab (g5 ho' rfl ?_);refine ab (g5 (xs:=#[]) (n:=0) (ao _ rfl) rfl ?_);rw[aq Ad];refine ab (dM (xs:=#[]) (n:=0) (ao _ rfl) rfl ?_ (ba _) (by show (#[]++vs.toArray).size<=sizeLine+1;simp only[Array.size_append,aK,cE];lia));refine ah ?_;show wpAny (model prog w) A (do
   let o <- load s.heap.objs.size
   match o.data with
   | .seq xs _=>pure xs.toList
   |_=>unsupported "internal:collect") Q E {s with heap:=(s.heap.push (seqObj "list" #[] 0)).update s.heap.objs.size (Obj.mapSeq (· ++vs.toArray))}
 refine ab (gf (fh (ao _ rfl) _) ?_);show wpAny _ _ (pure ((#[]:An)++vs.toArray).toList) Q E _;rw[show ((#[]:An)++vs.toArray).toList=vs by simp];exact ah h
theorem jL4{E:Ah}{vs:Al}{ns:Ag}{Q:Ah}(ho:s.heap.get? l=some {cls:=.type "tuple",data:=.seq vs.toArray n})(hI:IntsAre vs ns)(h64:vs.length<64)
  (h:∀(out:An) (ns':Ag),IntsAre out.toList ns'->ns'.Perm ns->ns'.Pairwise (· <= ·)->Q (.ref (s.heap.objs.size+1)) {s with heap:=sortedAll s.heap vs out}):
  wpAny (model prog w) A (call (.builtin "sorted") [.ref l]) Q E s:=by
 refine iB kind_sorted plain_sorted entry_sorted (args_sorted1 _) ?_;unfold Builtin.«sorted»;refine ab (m:=checkCount "sorted" 1 1 _) (ah ?_);refine ab (jJD ho ?_ (by rw[dv];lia));refine ab (eD ?_ (by rw[dv];lia));have hsz:((s.heap.push (seqObj "list" #[] 0)).update s.heap.objs.size (Obj.mapSeq (· ++vs.toArray))).objs.size=s.heap.objs.size+1:=by
  rw[iX,im]
 have hoL:(((s.heap.push (seqObj "list" #[] 0)).update s.heap.objs.size (Obj.mapSeq (· ++vs.toArray))).push (seqObj "list" vs.toArray 0)).get? (s.heap.objs.size+1)=some (seqObj "list" vs.toArray 0):=by
  rw[<- hsz];exact ao _ rfl
 show wpAny _ _ _ _ _ {s with heap:=((s.heap.push (seqObj "list" #[] 0)).update s.heap.objs.size (Obj.mapSeq (· ++vs.toArray))).push (seqObj "list" vs.toArray 0)};rw[hsz];refine ab (bE (bQ ik ⟨_,hoL,rfl⟩ gJ (list_sort_tree hoL hI h64 λout ns' a1 a2 a3=>⟨_,rfl,?_⟩) (args_list_sort _)));exact ah ⟨_,rfl,h out ns' a1 a2 a3⟩
theorem jDE:qA X (.builtin "sorted") (λxs H Q=>∃(p:Addr) (ks:Ag),xs=[.ref p]/\H p=some (.tup (ks.map V.int))/\ks.length<64/\
  ∀(l:Addr) (ns:Ag),H l=none->ns.Pairwise (· <= ·)->ns.Perm ks->Q (.ref l) (upd H l (.lst (ns.map V.int)))):=by
 intro lw s σ H xs us Q I r h;obtain⟨p,ks,rfl,hp,hn,q⟩:=h;obtain⟨u,rfl,rx⟩:=r.one;cases rx;obtain⟨_,its,r',n,e0⟩:=I.hok p _ hp;have hlen:=r'.length;rw[af] at hlen;refine jL4 e0 (jAX r') Aa λout ns' a1 a2 a3=>?_;obtain⟨e,he⟩:=sortedAll_at s.heap its out;have hz:(ns'.map V.int).length<=sizeLine:=by
  rw[af,a2.length_eq,dv];lia
 have I2:Inv X lw σ (upd H (s.heap.objs.size+1) (.lst (ns'.map V.int))) {s with heap:=sortedAll s.heap its out}:=I.laid (t':=s.toks) (λb o e=>sortedAll_old e) (dH _) ⟨hz,out.toList,e,jA4 a1,by rw[cX];exact he⟩;exact⟨.ref _,_,I2,rfl,q _ ns' (I.hok.fresh (dH _)) a3 a2⟩
def jE2(ns:Ag):∀j,preSum (λi=>ns.getD i 0) j=(ns.take j).sum
 | 0=>rfl
 |j+1=>by
  rw[preSum,jE2 ns j,bf,List.sum_append];congr 1;rw[aB];cases ns[j]? with
  |none=>rfl
  |some z=>simp
section
inductive rSum(K:W.Frag)(xs:List V)(H:Hp)(Q:VK):Prop|i(p:Addr)(ns:Ag)(_:xs=[.ref p])(_:(SqL K H p (ns.map V.int)))(_:Q (.int ns.sum) H)
def jHQ(hc:X.calm=true):qA X (.builtin "sum") (rSum X.K):=by
 intro lw s σ H xs us Q I r h;obtain⟨p,ns,rfl,hq,q⟩:=h;obtain⟨u,rfl,rx⟩:=r.one;cases rx;obtain⟨its,r',pl,hz⟩:=I.list hq;have hlen:=r'.length;rw[af] at hlen;refine call_sum_walkG (db pl.isList ?_);have hne:p≠s.heap.objs.size:=by
  obtain⟨o,ho,_⟩:=pl.isList;exact aO (aC ho)
 refine⟨s.heap.objs.size,_,_,_,_,_,λi=>ns.getD i 0,rfl,i5 (by simpa using I.ok.hd hc) _ p hne its.toArray,⟨⟨_,ao _ rfl,rfl,rfl⟩,pl.isList.push _⟩,(λb hb=>?_),(λi v hP=>?_),λh' tk t' hk=>?_⟩
 .show b<(s.heap.push _).objs.size;rw[ci];obtain⟨o,ho,_⟩:=pl.isList;have:=aC ho;rcases aA.mp hb with rfl|hb
  .exact gh _
  .rcases aA.mp hb with rfl|hb
   .exact cP this
   .cases hb
 .have hi:its[i]?=some v:=by simpa using hP
  have hb:i<ns.length:=by
   rw[hlen];exact(aj.mp hi).1
  obtain⟨u,hu,ru⟩:=r'.get (i:=i) (x:=.int (ns[i])) (by simp[hb]);rw[hi] at hu;cases hu;obtain⟨t,rfl⟩:=ru;exact⟨t,by simp[List.getD,hb]⟩
 .have e:preSum (λi=>ns.getD i 0) its.toArray.size=ns.sum:=by
   rw[jE2,aK,<- hlen,bq]
  rw[e];exact⟨.int _,H,I.kept (t':=tk) λb o e=>hk b o (by
   intro z;have z:b=s.heap.objs.size:=by simpa using z
   exact absurd (aC e) (by rw[z];exact cO _)) (ae _ e),⟨_,rfl⟩,q⟩
variable {sc:Scope}{cl:Aj}{C:Addr}{Nc:Am}{fp:List Addr}{s:Shared}{H:Hp}
end
def jFF(a b:Nat):Builtin.bitAnd (a:Int) (b:Int)=((a&&&b:Nat):Int):=by
 unfold Builtin.bitAnd;rw[ay (fi a),ay (fi b)];rfl
theorem jCI(a b:Nat):Builtin.bitOr (a:Int) (b:Int)=((a|||b:Nat):Int):=by
 unfold Builtin.bitOr;have ha:Builtin.bitNot (a:Int)= -(a:Int)-1:=by unfold Builtin.bitNot;lia
 have hb:Builtin.bitNot (b:Int)= -(b:Int)-1:=by unfold Builtin.bitNot;lia
 have na:¬(0<=Builtin.bitNot (a:Int)):=by rw[ha];lia
 have nb:¬(0<=Builtin.bitNot (b:Int)):=by rw[hb];lia
 unfold Builtin.bitAnd;rw[aH na,aH nb];have ea:Builtin.bitNot (Builtin.bitNot (a:Int))=(a:Int):=by rw[ha];unfold Builtin.bitNot;lia
 have eb:Builtin.bitNot (Builtin.bitNot (b:Int))=(b:Int):=by rw[hb];unfold Builtin.bitNot;lia
 show Builtin.bitNot (Builtin.bitNot _)=_;rw[ea,eb];unfold Builtin.bitNot;simp;lia
def maskN(ts:Ag):Nat:=(ts.map λt=>2^t.toNat).sum
theorem jKF:∀(ts:Ag) (lo:Nat),ts.Pairwise (· < ·)->(∀t∈ts,(lo:Int)<=t)->maskN ts%2^lo=0
 |[],_,_,_=>by simp[maskN]
 |t::r,lo,hp,hl=>by
  have ih:=jKF r lo (dz.mp hp).2 λx hx=>hl x (ag _ hx);have h0:=hl t (ai ..);have e:maskN (t::r)=2^t.toNat+maskN r:=by simp[maskN]
  have d:2^t.toNat%2^lo=0:=Nat.mod_eq_zero_of_dvd (Nat.pow_dvd_pow 2 Aa);rw[e,Nat.add_mod,ih,d];simp
theorem jE8:∀(ts:Ag) (n:Nat),ts.Pairwise (· < ·)->(∀t∈ts,0<=t)->(maskN ts).testBit n=decide ((n:Int)∈ts)
 |[],n,_,_=>by simp[maskN]
 |t::r,n,hp,h0=>by
  obtain⟨h1,h2⟩:=dz.mp hp;have ih:=jE8 r n h2 λx hx=>h0 x (ag _ hx);have ht:=h0 t (ai ..);obtain⟨k,rfl⟩:∃k:Nat,t=(k:Int):=⟨t.toNat,Aa⟩;have e:maskN ((k:Int)::r)=2^k+maskN r:=by simp[maskN]
  have m0:maskN r%2^(k+1)=0:=jKF r (k+1) h2 λx hx=>by have:=h1 x hx;lia
  obtain⟨c,hc⟩:∃c,maskN r=2^(k+1)*c:=(Nat.dvd_of_mod_eq_zero m0);have hor:2^k+maskN r=maskN r|||2^k:=by
   rw[hc,Nat.mul_comm,<- Nat.shiftLeft_eq,Nat.shiftLeft_add_eq_or_of_lt (b:=2^k) (i:=k+1) (jx Ac Aa) c |>.symm,lj]
  rw[e,hor,jy,ih,ke];by_cases hk:k=n
  .subst hk;simp
  .have:¬((n:Int)=(k:Int)):=Aa;simp[hk,this]
end L2
namespace L2
open PySem
variable {X:Cx}
section
variable {tg iter elt:Expr}{ifs:List Expr}{sc:Scope}{pos:Pos}{wi:TI}{g:TG}{tt:TT}{te:TE}{m:List (Option Nat)}{Nc:Am}
def jRI(hc:X.calm=true)(hi:PI X tg iter wi)(hkind:sc.kind=.function)(hcell:∀y∈sc.names,y.2≠.cell)(hnames:∀y∈sc.names,y.2=.local->sc.names.lookup y.1=some .local)
  (hfree:Fq X sc) (hm:jBU X sc Nc m)
  (hg:∀cl C fp s H,PG (blk X sc cl C Nc fp s H) tg g) (ht:∀cl C fp s H,PTs (blk X sc cl C Nc fp s H) ifs tt) (he:∀cl C fp s H,PE (blk X sc cl C Nc fp s H) elt te)
  (hs:∀x,foldedSetIterable iter X.env x=pure x) {fpos:Pos}{use:Option (Value->Sem Unit)}{R:Ah}{lw:Ai}{s:Shared}{σ:St}{H:Hp}{Q:VK}(I:Inv X lw σ H s) (h:tComp m wi g tt te σ H Q)
  (fin:∀(D C:Addr) (H5:Hp) (z1:Shared) (r:Flow),(∃mm,z1.heap.Ns C mm)->FpOk X lw H5 C->(∀h',Heap.SameBut C z1.heap h'->Inv X lw σ H5 {z1 with heap:=h'})->Q (.ref D) H5->compPost (model X.prog X.w) X.A X.xe use R (.ref D) C (.ok r) z1):
  wpAny (model X.prog X.w) X.A (comprehension (.ListComp elt [⟨tg,iter,ifs,0⟩] sc pos) sc X.env fpos (newList []) false (eval iter X.env) use) R X.xe s:=
 jGD (tf:=λ_=>te) hc hi hkind hcell hnames hfree hm hg ht (λcl C fp s H _ _ _ _=>he cl C fp s H) hs I h fin
def jT8{i:Nat}{x:Str}{pos' spos:Pos}(hN:X.N.Nodup)(hi':X.N[i]?=some x)(hx:Loc X.env.scope x)(hf:X.fn x=true\/X.env.scope.names.lookup x=some .local)(hsw:swapsWith (.ListComp elt [⟨tg,iter,ifs,0⟩] sc pos) (some (.Name x pos')) spos.line X.env=pure true)
  (hc:X.calm=true) (hi:PI X tg iter wi) (hkind:sc.kind=.function) (hcell:∀y∈sc.names,y.2≠.cell) (hnames:∀y∈sc.names,y.2=.local->sc.names.lookup y.1=some .local)
  (hfree:Fq X sc) (hm:jBU X sc Nc m)
  (hg:∀cl C fp s H,PG (blk X sc cl C Nc fp s H) tg g) (ht:∀cl C fp s H,PTs (blk X sc cl C Nc fp s H) ifs tt) (he:∀cl C fp s H,PE (blk X sc cl C Nc fp s H) elt te)
  (hs:∀x,foldedSetIterable iter X.env x=pure x):PS X (.Assign [.Name x pos'] (.ListComp elt [⟨tg,iter,ifs,0⟩] sc pos) spos) (tAsg (tComp m wi g tt te) (kT i)):=by
 intro lw s σ H D I h;rw[exec_Assign_Name_used _ _ _ _ hsw];refine ab (eB (ab ?_));show wpAny _ _ (do let _ <- comprehension (.ListComp elt [⟨tg,iter,ifs,0⟩] sc pos) sc X.env _ (newList []) false (eval iter X.env) (some (assign (.Name x pos') X.env))) _ _ _;refine ab (cb (jRI (R:=λ_ s'=>SP X lw D .next s') hc hi hkind hcell hnames hfree hm hg ht he hs ⟨I.ok,I.os,I.bare,I.Aq,I.loc,I.cell,I.free,I.freeC,I.pin,I.hok,I.len⟩ h ?_) (λ_ s' hq=>ah (ah hq)) λ_ _ e=>e);intro D' C H5 z1 r ⟨mm,hn⟩ fC sb q;have I1:=sb _ (Heap.SameBut.refl C z1.heap);refine wpAny_assign_Name (jGO (v:=.ref D') I1 hN hi' hx rfl (λs2 I2 ⟨a,sa,ha⟩=>?_) hf);obtain⟨f0,f1,f2,f3,f4,f5⟩:=fC;have hCa:C≠a:=by
  rcases ha with rfl|ha
  .exact f1
  .exact(f4 _ _ ha).symm
 refine⟨mm,hn.sameBut sa hCa,λh' sb2=>⟨_,H5,?_,q⟩⟩;refine I2.call' (s':= {s2 with heap:=h'}) (ch:=[C]) rfl ?_ (I2.hok.sameBut sb2 f0) I2.bare (λb hb=>?_)
 .have ne:∀{b:Addr},b∉ [C]->b≠C:=λh e=>h (by rw[e];exact aF.mpr rfl);refine⟨λb o e n hf hx=>(sb2.2 b (ne hx)).trans e,λb o e n hf hx=>⟨o.slots,(sb2.2 b (ne hx)).trans e⟩,λb o e n hx=>n,λb o e hx=>⟨o,(sb2.2 b (ne hx)).trans e⟩,λb xs e=>e,λb o u e=>e,λb ps e=>⟨#[],by rw[Array.append_empty];exact e⟩⟩
 .cases aF.mp hb;exact⟨f3,f1,f4,f5⟩
end
structure SwC (e:Expr)(x:Str)(pos' spos:Pos)(X:Cx):Prop where
 h:swapsWith e (some (.Name x pos')) spos.line X.env=pure true
def jUP{i:Nat}{x:Str}{pos' spos pos:Pos}{tg iter elt:Expr}{ifs:List Expr}{sc:Scope}{wi:TI}{g:TG}{tt:TT}{te:TE}{m:List (Option Nat)}{Nc:Am}(hN:X.N.Nodup)(hi':X.N[i]?=some x)(hx:Loc1 X x)(hsw:SwC (.ListComp elt [⟨tg,iter,ifs,0⟩] sc pos) x pos' spos X)
  (hc:X.calm=true) (hi:JI X tg iter wi) (hkind:sc.kind=.function) (hcell:∀y∈sc.names,y.2≠.cell) (hnames:∀y∈sc.names,y.2=.local->sc.names.lookup y.1=some .local)
  (hfree:Fq X sc) (hm:jBU X sc Nc m)
  (hg:∀cl C fp s H,JG (blk X sc cl C Nc fp s H) tg g) (ht:∀cl C fp s H,JTs (blk X sc cl C Nc fp s H) ifs tt) (he:∀cl C fp s H,JE (blk X sc cl C Nc fp s H) elt te)
  (hs:FoOk iter):JS X (.Assign [.Name x pos'] (.ListComp elt [⟨tg,iter,ifs,0⟩] sc pos) spos) (tAsg (tComp m wi g tt te) (kT i)):=
 ⟨jT8 hN hi' hx.a hx.b hsw.h hc hi.h hkind hcell hnames hfree hm (λcl C fp s H=>(hg cl C fp s H).h) (λcl C fp s H=>(ht cl C fp s H).h) (λcl C fp s H=>(he cl C fp s H).h) (hs.h _)⟩
end L2
namespace L2
open PySem PySem.Spec PyProof.Rows
variable {kvs:List (List Key×V)}{xs:List (List Key×Addr×Value)}{tp:Bool}{K:W.Frag}{α β:Type}{u x:Value}{q:Str}{zs:List V}{Q:Ah}{l c e b it c0:Addr}{elts:List Expr}{body:List Stmt}{args:Arguments}{trs:List (TE×TE)}{a:Expr}{h':Heap}{y:V}{n x1:Nat}{o:Option V}
variable {prog:Program}{w:World}{A:Around}{E:Ah}
variable {X:Cx}
variable {s:Shared}
variable {x:Str}{C:Addr}{e:Expr}{t:TA}{np cpos pos:Pos}
section
variable {W:Hp->Prop}
end
variable {M:Model}{h:Heap}
section
variable {g:Array GenState}{d:Drawn}{tk:Nat}{os:OsState}
end
variable {lw:Ai}{H H':Hp}
section
variable {σ:List (Option V)}{h':Heap}
end
variable {T:Addr}
section
variable {σ:St}{h2:Heap}{x T':Addr}
end
section
variable {σ:St}{x:Addr}
end
section
variable {x:Addr}{Q:Unit->Shared->Prop}
end
variable {n c:Str}{i j:Nat}{f B:Addr}{fd:FuncData}{ps:Am}{sp:Sp}{es:List Expr}{yp gp cp ap rp hp tp:Pos}
section
variable {y g:Str}{k:Nat}{r:Expr}{te:Addr->TE}
end
variable {tg:Expr}
variable {g:TG}{iter elt:Expr}{ifs:List Expr}{sc:Scope}{wi:TI}{tt:TT}{te:TE}{m:List (Option Nat)}{Nc:Am}
variable {a:Addr}{p:Pos}
section
variable {k:Nat}{sp:Addr->Sp}
end
variable {P:Program}{mg:Ak}{Aq:Heap}{N:Am}{qual:Str}{Ap:List Env}
section
variable {CX:CXT}{K:W.Frag}{cdv:Value}{E:XK}
end
section
variable {y g:Str}{k:Nat}{te t1:TEX}
end
def nfP(x q:Str)(args:Arguments)(body:List Stmt)(scope:Scope)(cl:Aj)(a c:Addr):Heap->Prop:=λh=>∃doc pm ctv,h.get? a=some (fnMade x q args body scope cl doc pm c ctv)
def ncP(q:Str)(c:Addr):Heap->Prop:=λh=>h.CodeRec (.ref c) q
noncomputable abbrev onePs(pos:Pos)(c:Addr):An:=#[rawInt pos.line,rawInt pos.col,.ref c]
def TabOk(H:Hp)(T:Addr)(pos:Pos)(q:Str):Prop:=H T=some (.tbl #[])\/∃c,H T=some (.tbl (onePs pos c))/\H c=some (.ext (ncP q c))
def ExtT(T:Addr)(H H':Hp):Prop:=∀b o,H b=some o->b≠T->H' b=some o
def qZ(Aq:Heap)(mg:Ak):Prop:=∃bm o,mg "__builtins__" =some (.ref bm)/\bm≠builtinsNs/\bm≠mainGlobals/\Aq.get? bm=some o/\o.cls=.type "module" /\o.dict=some builtinsNs/\o.data=.plain
def nfP.stay{scope:Scope}{cl:Aj}{c:Addr}(h1 h2:Heap)(p:nfP x q args body scope cl a c h1)(k:∀o,h1.get? a=some o->h2.get? a=some o):nfP x q args body scope cl a c h2:=by
 obtain⟨d,m,t,e⟩:=p;exact⟨d,m,t,k _ e⟩
def ncP.stay{c:Addr}(h1 h2:Heap)(p:ncP q c h1)(k:∀o,h1.get? c=some o->h2.get? c=some o):ncP q c h2:=by
 obtain⟨c',o,vs,t,e,g,r⟩:=p;cases e;exact⟨c,o,vs,t,rfl,k _ g,r⟩
def ncP.is{q:Str}{c:Addr}{h:Heap}(p:ncP q c h):∃o,h.get? c=some o:=by
 obtain⟨c',o,vs,t,e,g,r⟩:=p;cases e;exact⟨o,g⟩
def tDef(x q:Str)(args:Arguments)(body:List Stmt)(scope:Scope)(cl:Aj)(T:Addr)(pos:Pos)(j:Nat):TS:=λD σ H=>TabOk H T pos q/\∀a c H',H' a=some (.ext (nfP x q args body scope cl a c))->H' c=some (.ext (ncP q c))->H' T=some (.tbl (onePs pos c))->ExtT T H H'->H a=none->D.nx (σ.set j (some (.ref a))) H'
section
variable {σ:St}
def Inv.laidX{h':Heap}{t':Nat}{φ:Heap->Prop}{a:Addr}(I:Inv X lw σ H s)(k:∀b u,s.heap.get? b=some u->h'.get? b=some u)(hp:s.heap.objs.size<=a)(p:φ h')(ho:∃o,h'.get? a=some o)(st:∀h1 h2:Heap,φ h1->(∀o,h1.get? a=some o->h2.get? a=some o)->φ h2):Inv X lw σ (upd H a (.ext φ)) {s with heap:=h',toks:=t'}:=
 I.laid k hp ⟨p,ho,st⟩
def Inv.grown{t':Nat}{c:Addr}{ps more:An}{φ:Heap->Prop}(I:Inv X lw σ H s)(hT:H T=some (.tbl ps))(k:Heap.ExtBut T s.heap h')(e:h'.get? T=some {cls:=.none,data:=.fields (ps++more)})
  (hc:s.heap.objs.size<=c) (p:φ h') (ho:∃o,h'.get? c=some o) (st:∀h1 h2:Heap,φ h1->(∀o,h1.get? c=some o->h2.get? c=some o)->φ h2):Inv X lw σ (upd (upd H T (.tbl (ps++more))) c (.ext φ)) {s with heap:=h',toks:=t'}:=by
 have hcn:H c=none:=I.hok.fresh hc;have nT:∀{b:Addr},H b=none->b≠T:=λn z=>by rw[z,hT] at n;cases n
 have cT:T≠c:=λz=>by rw[z,hcn] at hT;cases hT
 have nc:∀{b:Addr}{o:Obj},s.heap.get? b=some o->b≠c:=λq z=>absurd (aC q) (by rw[z];exact Nat.not_lt.mpr hc);have mc:∀{b:Addr}{o:HO},H b=some o->b≠c:=λq=>jA q hcn;refine I.un ⟨λb o q n _ _=>k b o (nT n) q,λb o q n _ _=>⟨o.slots,k b o (nT n) q⟩,λb o q n _=>by rw[j8 (nc q),j8 (nT n)];exact n,λb o q _=>?_,λb xs q=>?_,λb o u q=>?_,λb qs q=>?_⟩ λb o q=>?_
 .by_cases hb:b=T
  .rw[hb];exact⟨_,e⟩
  .exact⟨o,k b o hb q⟩
 .rw[j8 (mc q),j8 (λz=>by rw[z,hT] at q;cases q)];exact q
 .rw[j8 (mc q),j8 (λz=>by rw[z,hT] at q;cases q)];exact q
 .by_cases hb:b=T
  .subst hb;rw[hT] at q;cases q;exact⟨more,by rw[j8 cT,j7]⟩
  .exact⟨#[],by rw[j8 (mc q),j8 hb,q];simp⟩
 .by_cases hb1:b=c
  .subst hb1;rw[j7] at q;cases q;exact⟨p,ho,st⟩
  rw[j8 hb1] at q;by_cases hb:b=T
  .subst hb;rw[j7] at q;cases q;exact e
  .rw[j8 hb] at q;refine(I.hok b o q).stay (λd u hd z=>k d u ?_ z) (λd z=>?_) λd xs z=>?_
   .rcases hd with rfl|hd
    .exact hb
    .exact λy=>by rw[y,hT] at hd;cases hd
   .rw[j8 (mc z),j8 (λy=>by rw[y,hT] at z;cases z)];exact z
   .rw[j8 (mc z),j8 (λy=>by rw[y,hT] at z;cases z)];exact z
def jW6{scope:Scope}(hN:X.N.Nodup)(hj:X.N[j]?=some x)(lx:Loc X.env.scope x)(hcode:X.env.code=.ref c0)(CH:PySem.W.CodeHd X.Aq c0 T)(hbm:qZ X.Aq X.mg)
  (hfree:∀y∈scope.names,y.2=.free->X.env.scope.names.lookup y.1=some .cell\/X.env.scope.names.lookup y.1=some .free) (hdf:defaultsOf args X.env=([],[])) (han:annTrees args none X.env=[])
  (hf:X.fn x=true\/X.env.scope.names.lookup x=some .local:=by first|exact .inl rfl|exact .inr rfl|assumption):
  PS X (.FunctionDef x args body [] none [] scope none x pos) (tDef x (qualnameIn X.env x x) args body scope (jV X.env.cells scope.names []) T pos j):=by
 intro lw s σ H D I h;obtain⟨tab,h⟩:=h;rw[exec_def,hdf,han];refine ab (eB (ab (bE ?_)));refine ab (ah (ab (bE (ah (bE (ab (ah ?_)))))));have hcl:closureFor scope X.env=pure (jV X.env.cells scope.names []):=jJG λy hy hz=>I.ok.has y.1 (hfree y hy hz);have hg:s.heap.Ns mainGlobals X.mg:=I.mod.glob.keeps I.bk;have C:=CH.keeps I.bk;have gT:∀{ps:An},H T=some (.tbl ps)->mainGlobals≠T:=λhT z=>by
  obtain⟨o,es,ep,e,_⟩:=I.mod.glob;have:=(I.bs _ _ e).2;rw[z,hT] at this;cases this
 have bT:∀{ps:An},H T=some (.tbl ps)->s.heap.BuiltinsAt X.mg T:=λhT=>by
  obtain⟨bm,o,h1,h2,h3,h4,h5,h6,h7⟩:=hbm;refine⟨bm,o,h1,h2,h3,λz=>?_,(I.bs _ _ h4).1,h5,h6,h7⟩;have:=(I.bs _ _ h4).2;rw[z,hT] at this;cases this
 rcases tab with hT|⟨c,hT,hc⟩
 .refine PySem.W.makeFunction_K hcl I.ok.glob hg hcode C (I.hok T _ hT) trivial rfl (gT hT) (bT hT) λc ctv doc h' tk k1 k2 k3 k4 k5=>?_;obtain⟨oc,hoc⟩:=ncP.is (q:=qualnameIn X.env x x) k4;have I1:Inv X lw σ (upd (upd H T (.tbl (#[]++onePs pos c))) c (.ext (ncP (qualnameIn X.env x x) c))) {s with heap:=h',toks:=tk}:=I.grown hT k1 k5 k2 k4 ⟨oc,hoc⟩ ncP.stay;have I2:=I1.laidX (t':=tk) (a:=h'.objs.size) (φ:=nfP x (qualnameIn X.env x x) args body scope (jV X.env.cells scope.names []) h'.objs.size c) (h':=h'.push (fnMade x (qualnameIn X.env x x) args body scope (jV X.env.cells scope.names []) doc ((X.mg "__name__").getD .none) c ctv)) (λb u q=>ae _ q) (ar _) ⟨doc,_,ctv,ao _ rfl⟩ ⟨_,ao _ rfl⟩ nfP.stay;have hcn:H c=none:=I.hok.fresh k2;have han:H h'.objs.size=none:=I.hok.fresh (bA k2 (cV k3));have ca:c≠h'.objs.size:=aO k3;have Tc:T≠c:=λz=>by rw[z,hcn] at hT;cases hT
  have Ta:T≠h'.objs.size:=λz=>by rw[z,han] at hT;cases hT
  refine ab (eB (ab (wpAny_bindName (jDG (v:=.ref h'.objs.size) I2 hN hj lx rfl (λs' I'=>ah ⟨_,_,I',?_⟩) hf))));refine h _ c _ j7 (by rw[j8 ca,j7]) (by rw[j8 Ta,j8 Tc,j7,kx]) (λb o e n=>?_) han;rw[j8 (jA e han),j8 (jA e hcn),j8 n];exact e
 .refine PySem.W.makeFunction_hit (cv:=.ref c) hcl I.ok.glob hg hcode C (I.hok T _ hT) (by exact trivial) (by simp[codeAmong,rawInt]) (bT hT) λctv doc h' tk k1 k2=>?_;have I2:=I.laidX (t':=tk) (a:=h'.objs.size) (φ:=nfP x (qualnameIn X.env x x) args body scope (jV X.env.cells scope.names []) h'.objs.size c) (h':=h'.push (fnMade x (qualnameIn X.env x x) args body scope (jV X.env.cells scope.names []) doc ((X.mg "__name__").getD .none) c ctv)) (λb u q=>ae _ (k1 b u q)) k2 ⟨doc,_,ctv,ao _ rfl⟩ ⟨_,ao _ rfl⟩ nfP.stay;have han:H h'.objs.size=none:=I.hok.fresh k2;refine ab (eB (ab (wpAny_bindName (jDG (v:=.ref h'.objs.size) I2 hN hj lx rfl (λs' I'=>ah ⟨_,_,I',?_⟩) hf))));refine h _ c _ j7 (by rw[j8 (jA hc han)];exact hc) (by rw[j8 (jA hT han)];exact hT) (λb o e n=>?_) han;rw[j8 (jA e han)];exact e
end
def jHD:∀{l:List (Str×β)},(∀v,(x,v)∉l)->l.lookup x=none
 |[],_=>rfl
 | (y,v)::r,h=>by
  rw[bz,bL.mpr (λe=>h v (by rw[e];exact ai))];exact jHD λw hw=>h w (ag _ hw)
def jCU:∀{l m:List (Str×β)},(l++m).lookup x=(l.lookup x).or (m.lookup x)
 |[],_=>rfl
 | (y,v)::r,m=>by
  rw[iV,bz,bz,jCU];cases x==y<;>rfl
def jF4:∀{ps:Am}{us:Al}{i:Nat}{x:Str}{u:Value},ps.Nodup->ps[i]?=some x->us[i]?=some u->(ps.zip us).reverse.lookup x=some u
 |[],_,_,_,_,_,h,_=>by simp at h
 |_::_,[],_,_,_,_,_,h=>by simp at h
 |p::ps,w::us,0,x,u,nd,h1,h2=>by
  simp at h1 h2;subst h1 h2;rw[dX,List.reverse_cons,jCU,jHD λv hv=>(cg.mp nd).1 (di (List.mem_reverse.mp hv)).1,bz,beq_self_eq_true];rfl
 |p::ps,w::us,i+1,x,u,nd,h1,h2=>by
  rw[dX,List.reverse_cons,jCU,jF4 (i:=i) (cg.mp nd).2 (by simpa using h1) (by simpa using h2)];rfl
noncomputable def cxN(P:Program)(w:World)(K:W.Frag)(mg:Ak)(Aq:Heap)(N:Am)(qual:Str)(scope:Scope)(f:Addr)(cd:Value)(cl:Aj)(A:Around)(Ap:List Env)(s:Shared)(H:Hp):Cx where
 prog:=P
 w:=w
 K:=K
 mg:=mg
 Aq:=Aq
 A:=A.deeper (envX qual scope s.heap.objs.size f cd cl)
 N:=N
 s₀:=s
 H₀:=H
 env:=envX qual scope s.heap.objs.size f cd cl
 Ap:=Ap
 stack:=envX qual scope s.heap.objs.size f cd cl::Ap
 ex:=[]
 calm:=true
 fn:=λ_=>false
 pn:=[]
 xe:=λ_ _=>False
structure ClOk (cl:Aj)(s:Shared)(H:Hp):Prop where
 inj:∀x y c,cl.lookup x=some c->cl.lookup y=some c->x=y
 cell:∀x c,cl.lookup x=some c->(∃v,s.heap.IsCell c v)/\H c=none
def FvOk(fs:Am)(fv:List V)(cl:Aj)(s:Shared):Prop:=fv.length=fs.length/\∀(i:Nat) (x:Str) (v:V),fs[i]?=some x->fv[i]?=some v->∃c u,cl.lookup x=some c/\RelV v u/\s.heap.IsCell c (some u)
structure NScope (N ps fs:Am)(sc:Scope):Prop where
 kind:sc.kind=.function
 co:sc.isCoroutine=false
 gen:sc.isGenerator=false
 nd:N.Nodup
 pre:N.take (ps.length+fs.length)=ps++fs
 par:∀x∈ps,sc.names.lookup x=some .local
 fre:∀x∈fs,sc.names.lookup x=some .free
 all:∀x,sc.names.lookup x=some .free->x∈fs
 nocell:∀y∈sc.names,y.2≠.cell
def jBN(N:Am)(vs fv:List V):St:=yH N (vs++fv)
variable {scope:Scope}{cd:Value}{cl:Aj}{fv:List V}
section
variable {K:W.Frag}{fs:Am}{us:Al}{vs:List V}
theorem jF9{h1:Heap}{tk:Nat}(S:NScope N ps fs scope)(hd:A.handled=none)(e0:Env0 P w K mg Aq A Ap s H)(hl:us.length=ps.length)(r:Vals vs us)(C:ClOk cl s H)(Fv:FvOk fs fv cl s)
  (ns:h1.Ns s.heap.objs.size λx=>(ps.zip us).reverse.lookup x) (hk:∀b o,s.heap.get? b=some o->h1.get? b=some o):
  Inv (cxN P w K mg Aq N qual scope f cd cl A Ap s H) [] (jBN N vs fv) H {s with heap:=h1,toks:=tk}:=by
 have hpl:ps.length+fs.length<=N.length:=by have:=bW List.length S.pre;rw[bi,ak] at this;lia
 have noA:∀b:Addr,b∉(cxN P w K mg Aq N qual scope f cd cl A Ap s H).ex:=λb z=>absurd (show b∈([]:List Addr) from z) Ad;have vl:vs.length=ps.length:=r.length.trans hl;refine⟨⟨e0.mod,S.kind,rfl,rfl,ar _,C.inj,λy hy=>?_,λy c z=>(nomatch z),λ_=>hd,Around.frames_deeper e0.frames,.inr ⟨rfl,rfl⟩,λb z=>absurd z (noA b),e0.bs,e0.bsz,λb _ _=>noA b,λb z=>absurd z (noA b),e0.funs,e0.frf⟩,
  rfl,e0.bare,Un.kept hk,⟨_,ns,λi y v h1' h2 h3=>?_⟩,λy c h=>?_,e0.hok.fresh (ar _),λy c h=>(C.cell y c h).2,λp hp=>absurd (show p∈([]:Ai) from hp) Ad,e0.hok.kept hk,?_⟩
 .have hy:scope.names.lookup y=some .cell\/scope.names.lookup y=some .free:=hy;rcases hy with hy|hy
  .exact absurd rfl (S.nocell _ (bV hy))
  .have m:=S.all y hy;obtain⟨i,hi⟩:=bO m;have hi2:i<fv.length:=by rw[Fv.1];exact(aj.mp hi).1
   obtain⟨c,u,e,_⟩:=Fv.2 i y fv[i] hi (by simp[hi2]);exact⟨c,e⟩
 .have h1':N[i]?=some y:=h1';have hlen:(vs++fv).length=ps.length+fs.length:=by rw[ak,vl,Fv.1]
  have hi:i<(vs++fv).length:=by
   unfold jBN yH at h2;by_cases hi:i<(vs++fv).length
   .exact hi
   .rw[be (by simpa using hi)] at h2;rw[iS] at h2;split at h2<;>cases h2
  have hv:(vs++fv)[i]?=some v:=by
   unfold jBN yH at h2;rw[bK (by simpa using hi),aQ] at h2;cases e:(vs++fv)[i]? with
   |none=>rw[e] at h2;cases h2
   |some a=>rw[e] at h2;cases h2;rfl
  have hy:(ps++fs)[i]?=some y:=by
   rw[<- S.pre,cn Aa];exact h1'
  by_cases hi1:i<ps.length
  .rw[bK hi1] at hy;rw[bK Aa] at hv;obtain⟨u,hu,rv⟩:=r.get hv;have ndP:ps.Nodup:=by
    have:(ps++fs).Nodup:=by rw[<- S.pre];exact S.nd.sublist (dI _ _)
    exact(eE.mp this).1
   exact⟨u,rv,.inl ⟨S.par y (aJ hy),jF4 ndP hy hu⟩⟩
  .rw[be Aa] at hy;rw[be Aa,vl] at hv;obtain⟨c,u,e,rv,o,ho,hd⟩:=Fv.2 _ y v hy hv;exact⟨u,rv,.inr ⟨.inr (S.fre y (aJ hy)),c,e,o,hk _ _ ho,hd⟩⟩
 .obtain⟨⟨v,o,ho,hd⟩,_⟩:=C.cell y c h;exact⟨v,o,hk _ _ ho,hd⟩
 .unfold jBN yH;show _=N.length;rw[ak,af,gc,ak,vl,Fv.1];lia
end
structure FnN (P:Program)(w:World)(K:W.Frag)(mg:Ak)(Aq:Heap)(k:Nat)(x q:Str)(args:Arguments)(body:List Stmt)(scope:Scope)(ps fs:Am)(sp:List V->Sp):Prop where
 len:∀fv vs H Q E,sp fv vs H Q E->vs.length=ps.length
 run:∀(A:Around) (Ap:List Env) (s:Shared) (H:Hp) (a c:Addr) (cl:Aj) (us:Al) (vs fv:List V) (Q:VK) (E:XK),Room k A->Env0 P w K mg Aq A Ap s H->nfP x q args body scope cl a c s.heap->ncP q c s.heap->ClOk cl s H->FvOk fs fv cl s->Vals vs us->sp fv vs H Q E->
  codeAny (model P w) A (.call (.ref a) ⟨us,[]⟩) (CR CX0 Ap P w H s Q E) s
def jSN{k:Nat}{fs:Am}{sp:List V->Sp}(S:NScope N ps fs scope)(len:∀fv vs H Q E,sp fv vs H Q E->vs.length=ps.length)
  (hb:∀cl doc pm c ctv (us:Al),us.length=ps.length->bindArgs (PySem.W.fnX x q args body scope cl .none .none doc pm none (.ref c) ctv) ⟨us,[]⟩=pure (ps.zip us))
  (hbody:∀(A:Around) (Ap:List Env) (s:Shared) (H:Hp) (a c:Addr) (cl:Aj) (vs fv:List V) (Q:VK) (E:XK),Room k (A.deeper (envX q scope s.heap.objs.size a (.ref c) cl))->sp fv vs H Q E->
   ∃t,PSs (cxN P w K mg Aq N q scope a (.ref c) cl A Ap s H) body t/\t {nx:=λ_ H'=>Q .non H',rt:=Q} (jBN N vs fv) H):
  FnN P w K mg Aq (k+1) x q args body scope ps fs sp:=by
 refine⟨len,λA Ap s H a c cl us vs fv Q E hr e0 hf hc C Fv r hsp=>?_⟩;have hl:us.length=ps.length:=r.length.symm.trans (len _ _ _ _ _ hsp);obtain⟨doc,pm,ctv,ho⟩:=hf;have lim:s.heap.NoLimit:=e0.mod.nolimit.keeps λb o e=>(e0.bs b o e).1;refine codeAny_call_def (body:=body) (binds:=ps.zip us) hr.depth ho rfl lim hc rfl (.of_eq (hb cl doc pm c ctv us hl)) S.nocell (λy hy=>S.par y.1 (di hy).1) (λh1 ns hk=>?_) S.co S.gen S.kind;obtain⟨t,ht,hq⟩:=hbody A Ap s H a c cl vs fv Q E (hr.deeper _) hsp;have I:Inv (cxN P w K mg Aq N q scope a (.ref c) cl A Ap s H) [] (jBN N vs fv) H {s with heap:=h1,toks:=s.toks+(ps.zip us).length}:=jF9 S hr.hd e0 hl r C Fv ns hk;refine cb (ht [] _ (jBN N vs fv) H _ I hq) (λfl s' hs=>?_) λe s' hs=>False.elim hs;have fin:∀{σ':St}{H':Hp}{v:V}{u:Value},Inv (cxN P w K mg Aq N q scope a (.ref c) cl A Ap s H) [] σ' H' s'->RelV v u->Q v H'->CE Ap P w H s Q u s':=
  λ{σ' H' v u} J rv q=>⟨v,H',J.os,J.bare,J.Aq,J.hok,rv,q⟩
 cases fl with
 |ret u=>
  obtain⟨v,σ',H',J,rv,q⟩:=hs;exact fin J rv q
 |next=>
  obtain⟨σ',H',J,q⟩:=hs;exact fin (v:=V.non) (u:=Value.none) J rfl q
 |brk=>
  obtain⟨_,_,_,q⟩:=hs;exact False.elim q
 |cont=>
  obtain⟨_,_,_,q⟩:=hs;exact False.elim q
def jDK(σ:St)(is:List Nat)(fv:List V):Prop:=is.map (λi=>(σ[i]?).getD none)=fv.map some
def tNest(σ0:Option St)(j:Nat)(is:List Nat)(x q:Str)(args:Arguments)(body:List Stmt)(scope:Scope)(cl:Aj)(sp:List V->Sp)(t:TA):TE:=λσ H Q=>∃a,σ[j]?=some (some (.ref a))/\t σ H λvs H1=>∃c fv,H1 a=some (.ext (nfP x q args body scope cl a c))/\H1 c=some (.ext (ncP q c))/\jDK (σ0.getD σ) is fv/\sp fv vs H1 Q E0
section
variable {σ:St}{fs:Am}{is:List Nat}
def FsAt(X:Cx)(fs:Am)(is:List Nat):Prop:=is.length=fs.length/\∀(k:Nat) (x:Str),fs[k]?=some x->∃i,is[k]?=some i/\X.N[i]?=some x/\(X.env.scope.names.lookup x=some .cell\/X.env.scope.names.lookup x=some .free)
def Inv.clOk(I:Inv X lw σ H s)(hfree:∀y∈scope.names,y.2=.free->X.env.scope.names.lookup y.1=some .cell\/X.env.scope.names.lookup y.1=some .free):ClOk (jV X.env.cells scope.names []) s H:=by
 have sub:∀x c,(jV X.env.cells scope.names []).lookup x=some c->X.env.cells.lookup x=some c:=jA7 scope.names [] (λy hy hf=>I.ok.has y.1 (hfree y hy hf)) (λx c e=>by cases e);exact⟨λx y c h1 h2=>I.ok.inj x y c (sub x c h1) (sub y c h2),λx c h=>⟨I.cell x c (sub x c h),I.freeC x c (sub x c h)⟩⟩
def Inv.fvOk(I:Inv X lw σ H s)(hfree:∀y∈scope.names,y.2=.free->X.env.scope.names.lookup y.1=some .cell\/X.env.scope.names.lookup y.1=some .free)(hfs:∀x∈fs,scope.names.lookup x=some .free)(ha:FsAt X fs is)(hs:jDK σ is fv):FvOk fs fv (jV X.env.cells scope.names []) s:=by
 have hl:fv.length=fs.length:=by
  have:=bW List.length hs;rw[af,af] at this;rw[<- this,ha.1]
 refine⟨hl,λk x v h1 h2=>?_⟩;obtain⟨i,hi,hN,hk⟩:=ha.2 k x h1;have e:(σ[i]?).getD none=some v:=by
  have:=bW (λl=>l[k]?) hs;simp only[aQ,hi,h2,map_some] at this;exact bo this
 have e2:σ[i]?=some (some v):=by
  cases q:σ[i]? with
  |none=>rw[q] at e;cases e
  |some z=>rw[q] at e;exact bW some e
 obtain⟨m,hn,hl⟩:=I.loc;obtain⟨u,r,l⟩:=hl i x v hN e2 (.inr hk);obtain⟨c,hc⟩:=jAN (cells:=X.env.cells) (x:=x) scope.names [] (.inl (jAL (hfs x (aJ h1))));have sub:=jA7 (cells:=X.env.cells) scope.names [] (λy hy hf=>I.ok.has y.1 (hfree y hy hf)) (λx c e=>by cases e) x c hc;rcases l with ⟨lk,_⟩|⟨_,c',hc',z⟩
 .have lk':X.env.scope.names.lookup x=some .local:=lk;rcases hk with z|z<;>rw[lk'] at z<;>cases z
 .rw[sub] at hc';cases hc';exact⟨c,u,hc,r,z⟩
end
section
variable {k:Nat}{q:Str}{args:Arguments}{body:List Stmt}{fs:Am}{is:List Nat}{sp:List V->Sp}
def jJR{Y:Cx}{lw:Ai}{σ:St}{H:Hp}{s:Shared}{Q:VK}{cl:Aj}{a c:Addr}{us:Al}{vs fv:List V}(F:FnN Y.prog Y.w Y.K Y.mg Y.Aq k x q args body scope ps fs sp)(hr:Room k Y.A)(I:Inv Y lw σ H s)(h1:H a=some (.ext (nfP x q args body scope cl a c)))(h2:H c=some (.ext (ncP q c)))(C:ClOk cl s H)(Fv:FvOk fs fv cl s)(r:Vals vs us)(hs:sp fv vs H Q E0):
  wpAny (model Y.prog Y.w) Y.A (call (.ref a) us) (EP Y lw σ Q) Y.xe s:=by
 obtain⟨p1,_,_⟩:=(show ObjOk Y.prog Y.w H s.heap a (.ext _) from I.hok a _ h1);obtain⟨p2,_,_⟩:=(show ObjOk Y.prog Y.w H s.heap c (.ext _) from I.hok c _ h2);refine gl (cW (F.run Y.A Y.stack s H a c cl us vs fv Q E0 hr I.env0 p1 p2 C Fv r hs) λr s' hq=>?_);cases r with
 |error e=>exact hq.elim
 |ok fl=>
  cases fl with
  |ret u=>exact I.after hq
  |next=>exact False.elim hq
  |brk=>exact False.elim hq
  |cont=>exact False.elim hq
def jOT{Y:Cx}{σ:St}{c:Addr}(I:Inv Y lw σ H s)(h1:H a=some (.ext (nfP x q args body scope cl a c))):PySem.W.FnAt a s.heap:=by
 obtain⟨⟨d,m,t,e⟩,_,_⟩:=(show ObjOk Y.prog Y.w H s.heap a (.ext _) from I.hok a _ h1);exact⟨_,_,_,_,e⟩
theorem jUQ(F:FnN X.prog X.w X.K X.mg X.Aq k x q args body scope ps fs sp)(hr:Room k X.A)(hN:X.N[j]?=some x)(hv:Vis1 X x)(hfree:∀y∈scope.names,y.2=.free->X.env.scope.names.lookup y.1=some .cell\/X.env.scope.names.lookup y.1=some .free)(hfs:∀x∈fs,scope.names.lookup x=some .free)(hat:FsAt X fs is)
  (ha:JA X (e::es) t) (he:starEach (e::es) X.env=(false,eval e X.env)::starEach es X.env) (hdb:(x==("__debug__":Str))=false:=by decide) (hcd:(x==("__classdict__":Str))=false:=by decide) (hpl:(backTo pos (starEach es X.env)).any (·.1)=false:=by rfl):
  JE X (.Call (.Name x p) (e::es) [] pos) (tNest none j is x q args body scope (jV X.env.cells scope.names []) sp t):=by
 refine⟨λlw s σ H Q I h=>?_⟩;obtain⟨a,hj,h⟩:=h;refine cx (lz (jH4 (pos:=p) hN hv.a hdb hcd lw s σ H (λv H'=>v=.ref a/\H'=H) I (gV.of hj ⟨rfl,rfl⟩)) λv s1 ⟨v',H1,I1,r1,q1,q2⟩=>?_);subst q1 q2;cases (show v=Value.ref a from r1);have hX:=lz (ha.h pos lw s1 σ H1 _ I1 h) λus s2 (z:AP X lw σ _ us s2)=>show PySem.W.FnAt a s2.heap/\wpAny (model X.prog X.w) X.A (call (.ref a) ([]++us)) (EP X lw σ Q) X.xe s2 from by
  obtain⟨vs,H2,I2,r,c,fv,h1,h2,h3,h4⟩:=z;exact⟨jOT I2 h1,jJR F hr I2 h1 h2 (I2.clOk hfree) (I2.fvOk hfree hfs hat h3) r h4⟩
 rw[he] at hX ⊢;exact gW (by show ((false || (backTo pos (starEach es X.env)).any (·.1)) ||false)=false;rw[hpl];rfl) jd (eL hX)
theorem jR1{sc:Scope}{cl:Aj}{C:Addr}{Nc:Am}{fp:List Addr}{s0:Shared}{H0:Hp}{lw0:Ai}{σ0:St}(I0:Inv X lw0 σ0 H0 s0)(hfp:∀b∈fp,FpOk X lw0 H0 b)
  (F:FnN X.prog X.w X.K X.mg X.Aq k x q args body scope ps fs sp) (hr:Room k X.A) (hN:Nc[j]?=some x) (hv:Vis1 (blk X sc cl C Nc fp s0 H0) x) (hfree:∀y∈scope.names,y.2=.free->X.env.scope.names.lookup y.1=some .cell\/X.env.scope.names.lookup y.1=some .free) (hfs:∀x∈fs,scope.names.lookup x=some .free) (hat:FsAt X fs is)
  (ha:JA (blk X sc cl C Nc fp s0 H0) (e::es) t) (he:starEach (e::es) (blk X sc cl C Nc fp s0 H0).env=(false,eval e (blk X sc cl C Nc fp s0 H0).env)::starEach es (blk X sc cl C Nc fp s0 H0).env) (hdb:(x==("__debug__":Str))=false:=by decide) (hcd:(x==("__classdict__":Str))=false:=by decide) (hpl:(backTo pos (starEach es (blk X sc cl C Nc fp s0 H0).env)).any (·.1)=false:=by rfl):
  JE (blk X sc cl C Nc fp s0 H0) (.Call (.Name x p) (e::es) [] pos) (tNest (some σ0) j is x q args body scope (jV X.env.cells scope.names []) sp t):=by
 have sub:∀x c,(jV X.env.cells scope.names []).lookup x=some c->X.env.cells.lookup x=some c:=jA7 scope.names [] (λy hy hf=>I0.ok.has y.1 (hfree y hy hf)) (λx c e=>by cases e);have nfp:∀{x c},X.env.cells.lookup x=some c->c∉fp:=λ{x c} h z=>(hfp c z).2.2.2.2.1 x c h rfl;refine⟨λlw s σ H Q I h=>?_⟩;obtain⟨a,hj,h⟩:=h;refine cx (lz (jH4 (pos:=p) (show (blk X sc cl C Nc fp s0 H0).N[j]?=some x from hN) hv.a hdb hcd lw s σ H (λv H'=>v=.ref a/\H'=H) I (gV.of hj ⟨rfl,rfl⟩)) λv s1 ⟨v',H1,I1,r1,q1,q2⟩=>?_);subst q1 q2;cases (show v=Value.ref a from r1);have hX:=lz (ha.h pos lw s1 σ H1 _ I1 h) λus s2 (z:AP (blk X sc cl C Nc fp s0 H0) lw σ _ us s2)=>show PySem.W.FnAt a s2.heap/\wpAny (model X.prog X.w) X.A (call (.ref a) ([]++us)) (EP (blk X sc cl C Nc fp s0 H0) lw σ Q) (blk X sc cl C Nc fp s0 H0).xe s2 from by
  obtain⟨vs,H2,I2,r,c,fv,h1,h2,h3,h4⟩:=z;have un:Un (frs X.stack) fp H0 H2 s0.heap s2.heap:=I2.Aq;have cellK:∀{y d v},X.env.cells.lookup y=some d->s0.heap.IsCell d v->s2.heap.IsCell d v:=λ{y d v} hd ⟨o,ho,hq⟩=>by
   obtain⟨sl,e⟩:=un.any ho (I0.freeC y d hd) (nfp hd);exact⟨_,e,hq⟩
  have C0:=I0.clOk hfree;obtain⟨f1,f2⟩:=I0.fvOk hfree hfs hat h3;refine⟨jOT I2 h1,jJR (Y:=blk X sc cl C Nc fp s0 H0) F hr I2 h1 h2 ⟨C0.inj,λy d hd=>?_⟩ ⟨f1,λi y v e1 e2=>?_⟩ r h4⟩
  .obtain⟨⟨v,z⟩,n⟩:=C0.cell y d hd;obtain⟨o,ho,hq⟩:=id z;exact⟨⟨v,cellK (sub y d hd) z⟩,un.free d o ho n (nfp (sub y d hd))⟩
  .obtain⟨d,u,g1,g2,g3⟩:=f2 i y v e1 e2;exact⟨d,u,g1,g2,cellK (sub y d g1) g3⟩
 rw[he] at hX ⊢;exact gW (by show ((false || (backTo pos (starEach es (blk X sc cl C Nc fp s0 H0).env)).any (·.1)) ||false)=false;rw[hpl];rfl) jd (eL hX)
end
def jRZ(m:List (Option Nat))(wi:TI)(g:TG)(tt:TT)(te:St->TE):TE:=λσ H Q=>wi σ H (qX m g tt (te σ) σ Q)
section
variable {te:St->TE}
def jQ7(hc:X.calm=true)(hi:PI X tg iter wi)(hkind:sc.kind=.function)(hcell:∀y∈sc.names,y.2≠.cell)(hnames:∀y∈sc.names,y.2=.local->sc.names.lookup y.1=some .local)
  (hfree:Fq X sc) (hm:jBU X sc Nc m)
  (hg:∀cl C fp s H,PG (blk X sc cl C Nc fp s H) tg g) (ht:∀cl C fp s H,PTs (blk X sc cl C Nc fp s H) ifs tt) (he:∀cl C fp s H lw σ,Inv X lw σ H s->(∀b∈fp,FpOk X lw H b)->PE (blk X sc cl C Nc fp s H) elt (te σ))
  (hs:∀x,foldedSetIterable iter X.env x=pure x:=by intro _;rfl):PE X (.ListComp elt [⟨tg,iter,ifs,0⟩] sc pos) (jRZ m wi g tt te):=by
 intro lw s σ H Q I h;rw[eval_ListComp];exact jGD (tf:=te) (use:=none) hc hi hkind hcell hnames hfree hm hg ht he hs I h (λD C H5 z1 r ⟨mm,hn⟩ fC sb q=>⟨mm,hn,λh' s2=>⟨.ref D,H5,sb h' s2,rfl,q⟩⟩)
def jR4(hc:X.calm=true)(hi:JI X tg iter wi)(hkind:sc.kind=.function)(hcell:∀y∈sc.names,y.2≠.cell)(hnames:∀y∈sc.names,y.2=.local->sc.names.lookup y.1=some .local)
  (hfree:Fq X sc) (hm:jBU X sc Nc m)
  (hg:∀cl C fp s H,JG (blk X sc cl C Nc fp s H) tg g) (ht:∀cl C fp s H,JTs (blk X sc cl C Nc fp s H) ifs tt) (he:∀cl C fp s H lw σ,Inv X lw σ H s->(∀b∈fp,FpOk X lw H b)->JE (blk X sc cl C Nc fp s H) elt (te σ))
  (hs:FoOk iter):JE X (.ListComp elt [⟨tg,iter,ifs,0⟩] sc pos) (jRZ m wi g tt te):=⟨jQ7 hc hi.h hkind hcell hnames hfree hm (λcl C fp s H=>(hg cl C fp s H).h) (λcl C fp s H=>(ht cl C fp s H).h) (λcl C fp s H lw σ I f=>(he cl C fp s H lw σ I f).h) (hs.h _)⟩
end
def jXX(Ts:List Addr)(H:Hp):Prop:=∀b,H b=none\/(∃o xs,H b=some (.frz o (.lst xs)))\/b∈Ts
def jLO{cts:List (Addr×Addr)}{mb:Ak}{CX:CXT}{k:Nat}{fa:Addr}{x:Str}{s₁:Shared}{vs:Al}{ns:Ag}
  (KX:K.In s₁.heap) (hns:s₁.heap.Ns mainGlobals mg) (hb:s₁.heap.Ns builtinsNs mb) (hbb:∀x:Str,x≠"__name__" ->mb x=bootBuiltins x) (hlim:s₁.heap.NoLimit) (hg:s₁.gens=#[])
  (ha:s₁.heap.get? a=some {cls:=.type "list",data:=.seq vs.toArray}) (hi:IntsAre vs ns) (hl:ns.length<=sizeLine) (hr:Room k callerA) (hT:∀T∈cts.map (·.2),s₁.heap.get? T=some (tabObj #[])) (CH:∀p∈cts,PySem.W.CodeHd s₁.heap p.1 p.2) (hKT:∀T∈cts.map (·.2),K.lookup T=none)
  (F:∀Aq:Heap,K.In Aq->Aq.Ns mainGlobals mg->FnOk P w K mg Aq CX k fa fd [x] sp) (hbind:∀(s:Shared) (u:Value),BindsTo s fd ⟨[u],[]⟩ [(x,u)])
  (hsp:∀H:Hp,(∀T∈cts.map (·.2),H T=some (.tbl #[]))->SqL K H a (ns.map V.int)->sp [.ref a] H (λv _=>v=.bl true) λ_ _ _=>False)
  (hCX:∀H e s',CX [] H s₁ (λ_ _ _=>False) e s'->False):
  codeAny (model P w) callerA (.call (.ref fa) ⟨[.ref a],[]⟩) (λr s'=>r=.ok (.ret (.bool true))/\OldK s₁.heap s'.heap/\s'.os=s₁.os/\AllBare s'.gens) s₁:=by
 have rv:=jGK hi;have lenV:=hi.length;have core:∀H:Hp,jXX (cts.map (·.2)) H->(∀T∈cts.map (·.2),H T=some (.tbl #[]))->SqL K H a (ns.map V.int)->HOk P w H s₁.heap->(∀b,H b≠none->b=a\/b∈cts.map (·.2))->(H a≠none->K.lookup a=none)->
   codeAny (model P w) callerA (.call (.ref fa) ⟨[.ref a],[]⟩) (λr s'=>r=.ok (.ret (.bool true))/\OldK s₁.heap s'.heap/\s'.os=s₁.os/\AllBare s'.gens) s₁:=by
  intro H hO hHT hS hok hA hK;have base_of:∀{b:Addr}{o:Obj},s₁.heap.get? b=some o->H b=none->(hidT s₁.heap H).get? b=some o:=λe n=>jR7 e n;have noA:∀{b:Addr}{o:Obj}{es:Array DictEntry}{ep:Nat},s₁.heap.get? b=some o->o.data=.dict es ep->H b=none:=λ{b o es ep} e d=>by
   cases q:H b with
   |none=>rfl
   |some u=>
    rcases hA b (by rw[q];simp) with e'|e'
    .subst e';rw[ha] at e;cases e;have d':Data.seq vs.toArray _=Data.dict es ep:=d;cases d'
    .rw[hT b e'] at e;cases e;have d':Data.fields _=Data.dict es ep:=d;cases d'
  have nsK:∀{b:Addr}{m:Ak},s₁.heap.Ns b m->(hidT s₁.heap H).Ns b m:=λ{b m} ⟨o,es,ep,e,d,r⟩=>⟨o,es,ep,base_of e (noA e d),d,r⟩;have hKb:K.In (hidT s₁.heap H):=λb o e=>base_of (KX b o e) (by
   cases q:H b with
   |none=>rfl
   |some u=>
    rcases hA b (by rw[q];simp) with e'|e'
    .subst e';rw[hK (by rw[q];simp)] at e;cases e
    .rw[hKT b e'] at e;cases e)
  have hM:Mod K mg (hidT s₁.heap H):=⟨hKb,nsK hns,⟨mb,nsK hb,hbb⟩,let ⟨mc,h1,h2⟩:=hlim;⟨mc,nsK h1,h2⟩⟩;have e0:Env0 P w K mg (hidT s₁.heap H) callerA [] s₁ H:=⟨rfl,hM,λb o e=>jUA e,lh (jON _ _),trivial,λb hb=>absurd (show b∈([]:List Addr) from hb) Ad,hok,.of_eq hg⟩;refine cW ((F _ hKb (nsK hns)).run callerA [] s₁ H ⟨[.ref a],[]⟩ [.ref a] [.ref a] _ _ hr e0 (hbind s₁ (.ref a)) (.cons rfl .nil) (hsp H hHT hS)) λr s' h=>?_;cases r with
  |error e=>exact(hCX H e s' h).elim
  |ok fl=>
   cases fl with
   |next=>exact False.elim h
   |brk=>exact False.elim h
   |cont=>exact False.elim h
   |ret u=>
    obtain⟨v,H',os,bare,un,hok',r',q⟩:=h;have q':v=.bl true:=q;subst q';obtain rfl:u=Value.bool true:=r';have gr:∀T∈cts.map (·.2),∃more,s'.heap.get? T=some (tabObj (#[]++more)):=λT hTm=>by
     obtain⟨more,z⟩:=un.tbls T _ (hHT T hTm);exact⟨more,hok' T _ z⟩
    have kp:∀b o,b∉cts.map (·.2)->s₁.heap.get? b=some o->s'.heap.get? b=some o:=λb o hbT e=>?_
    .refine⟨rfl,⟨λb o e=>?_,λb o e=>?_⟩,os,bare⟩
     .by_cases hb:b∈cts.map (·.2)
      .obtain⟨p,hp,rfl⟩:=bh.mp hb;have q:=hT _ hb;rw[q] at e;cases e;obtain⟨more,z⟩:=gr _ hb;exact .inr (.inl ⟨((CH p hp).tab q).isCodeTable,rfl,#[],more,rfl,z⟩)
      .exact .inl (kp b o hb e)
     .by_cases hb:b∈cts.map (·.2)
      .obtain⟨more,z⟩:=gr _ hb;exact⟨_,z⟩
      .exact⟨o,kp b o hb e⟩
    cases q:H b with
    |none=>exact un.keep b o e q (by intro z;exact absurd (show b∈([]:List Addr) from z) Ad) Ad
    |some u=>
     rcases hO b with z|⟨ob,xs,z⟩|z
     .rw[q] at z;cases z
     .have z2:=un.frzs b ob _ z;obtain⟨e1,_⟩:=hok b _ z;obtain⟨e2,_⟩:=hok' b _ z2;rw[e] at e1;cases e1;exact e2
     .exact absurd z hbT
 have aT:a∉cts.map (·.2):=λz=>by rw[hT a z] at ha;cases ha
 cases hk:K.lookup a with
 |some o=>
  have e:=KX a o hk;rw[ha] at e;cases e;refine core (λb=>if b∈cts.map (·.2) then some (.tbl #[]) else none) (λb=>?_) (λT hm=>ax hm) (.inr ⟨_,vs.toArray,_,hk,rfl,rfl,rfl,by rw[aK,lenV];exact hl,by simpa using rv⟩) (λb u z=>?_) (λb z=>?_) λz=>absurd (aq aT) z
  .by_cases hb:b∈cts.map (·.2)
   .exact .inr (.inr hb)
   .exact .inl (aq hb)
  .by_cases hb:b∈cts.map (·.2)
   .have z':=(ax hb).symm.trans z;cases z';exact hT b hb
   .have z':=(aq hb).symm.trans z;cases z'
  .by_cases hb:b∈cts.map (·.2)
   .exact .inr hb
   .exact absurd (aq hb) z
 |none=>
  refine core (λb=>if b∈cts.map (·.2) then some (.tbl #[]) else if b=a then some (.frz {cls:=.type "list",data:=.seq vs.toArray} (.lst (ns.map V.int))) else none) (λb=>?_) (λT hm=>ax hm) (.inl (.inr ⟨{cls:=.type "list",data:=.seq vs.toArray},by dsimp only;rw[aq aT,ax rfl]⟩)) (λb u z=>?_) (λb z=>?_) λ_=>hk
  .by_cases hT':b∈cts.map (·.2)
   .exact .inr (.inr hT')
   .by_cases hb:b=a
    .exact .inr (.inl ⟨_,_,by dsimp only;rw[aq hT',ax hb]⟩)
    .exact .inl (by dsimp only;rw[aq hT',aq hb])
  .dsimp only at z;by_cases hT':b∈cts.map (·.2)
   .rw[ax hT'] at z;cases z;exact hT b hT'
   .rw[aq hT'] at z;by_cases hb:b=a
    .rw[ax hb] at z;cases z;subst hb;exact⟨ha,by rw[af];exact hl,vs,_,rv,ha⟩
    .rw[aq hb] at z;cases z
  .replace z:(if b∈cts.map (·.2) then some (HO.tbl #[]) else if b=a then some (HO.frz {cls:=.type "list",data:=.seq vs.toArray} (.lst (ns.map V.int))) else none)≠none:=z;by_cases hT':b∈cts.map (·.2)
   .exact .inr hT'
   .by_cases hb:b=a
    .exact .inl hb
    .rw[aq hT',aq hb] at z;exact absurd rfl z
def walk_ofTs{cts:List (Addr×Addr)}{l:PySem.W.OpenLaw}{n k:Nat}{q:Program}{loose:Am}{XP:(Ak)->Heap->Prop}{YP:World->Heap->Prop}{d:DefRec}{K:Params->W.Frag}{CX:World->CXT}{sp:World->Sp}{x:Str}
  (hn:l.most=some n) (hn2:n<=sizeLine) (hdf:d.params.defaults=[]) (hr:Room k callerA)
  (hY:∀(w:World) (h:Heap),YP w h->(K w.params).In h/\∀T∈cts.map (·.2),h.get? T=some (tabObj #[])) (hcd:∀w:World,∀p∈cts,codeHdIn (K w.params) p.1 p.2=true) (hKT:∀w:World,∀T∈cts.map (·.2),(K w.params).lookup T=none)
  (F:∀(w:World) (mg:Ak) (fa:Addr) (h:Heap),(K w.params).In h->h.Ns mainGlobals mg->mg d.name=some (.ref fa)->
   ∃fd:FuncData,(∀(s:Shared) (u:Value),BindsTo s fd ⟨[u],[]⟩ [(x,u)])/\
    ∀Aq:Heap,(K w.params).In Aq->Aq.Ns mainGlobals mg->FnOk l.prog w (K w.params) mg Aq (CX w) k fa fd [x] (sp w))
  (hsp:∀(w:World) (H:Hp) (a:Addr) (ns:Ag),ns.length<=n->(∀T∈cts.map (·.2),H T=some (.tbl #[]))->SqL (K w.params) H a (ns.map V.int)->sp w [.ref a] H (λv _=>v=.bl true) λ_ _ _=>False)
  (hCX:∀(w:World) (H:Hp) (s:Shared) (e:Value) (s':Shared),CX w [] H s (λ_ _ _=>False) e s'->False):
  PySem.W.WalkO q loose XP YP l.row.toRowW d [] (λf vs=>PySem.call f vs):=by
 refine Att.attach_call hn hdf λw s₀ s₁ mg mb fa o pm cd doc a vs ns G Y ho hd _ hmg hobj hints hlen hg=>?_;obtain⟨KX,hT⟩:=hY w _ Y;obtain⟨fd,hb,hF⟩:=F w mg fa _ KX G.T.g hmg;exact jLO KX G.T.g G.T.b G.T.builtins G.T.nolimit hg hobj hints (bA hlen hn2) hr hT (λp hp=>dj KX (hcd w p hp)) (hKT w) hF hb (λH hO hS=>hsp w H a ns hlen hO hS) λH e s'=>hCX w H s₁ e s'
open PySem.AutoSeq1 (wpAny_loadPart')
def jRE{tp:Bool}{e:Addr}{xs:An}{x old:Value}(ee:IsEnum s.heap e it i old)(g1:ItAt tp s.heap it l i)(o1:ObAt tp s.heap l xs)(hx:xs[i]?=some x)(ne:e≠it)
  (k:∀h',IsEnumOut h' e it ((i:Int)+1) x s.heap.objs.size->ItAt tp h' it l (i+1)->h'.get? s.heap.objs.size=some {cls:=.type "tuple",data:=.seq #[.int i s.toks,x]} ->h'.objs.size=s.heap.objs.size+1->
   (∀c o,c≠e->c≠it->s.heap.get? c=some o->h'.get? c=some o)->Q (.ref s.heap.objs.size) {s with heap:=h',toks:=s.toks+1}):
  wpAny (model prog w) A (Builtin.«enumerate.__next__» ⟨[.ref e],[]⟩) (λfin s'=>∃v,fin=.done (.ret v)/\Q v s') E s:=by
 obtain⟨hp,g,d,tk,os⟩:=s;show wpAny (model prog w) A (field (.ref e) 2 >>= _) _ _ _;refine ab (bU ee rfl (x:=.ref it) rfl (ab (next1 g1 o1 hx λp1 r1 q1=>?_)));have q1:Heap.SameBut it hp p1:=q1;have e1:IsEnum p1 e it i old:=(q1.2 e ne).trans ee;show wpAny (model prog w) A (field (.ref e) 3 >>= _) _ _ ⟨p1,g,d,tk,os⟩;refine ab (bU e1 rfl (x:=rawInt i) rfl (?_:wpAny (model prog w) A (field (.ref e) 4 >>= _) _ _ ⟨p1,g,d,tk,os⟩));refine ab (bU e1 rfl (x:=.none) rfl (?_:wpAny (model prog w) A (mkInt i >>= _) _ _ ⟨p1,g,d,tk,os⟩));refine ab (wpAny_mkInt (?_:wpAny (model prog w) A (setField (.ref e) 3 (rawInt ((i:Int)+1)) >>= _) _ _ ⟨p1,g,d,tk+1,os⟩));refine ab (bD e1 Ad λp2 e2 q2=>?_);have q2:Heap.SameBut e p1 p2:=q2;have e2:IsEnum p2 e it ((i:Int)+1) old:=e2;show wpAny (model prog w) A (setField (.ref e) 4 .none >>= _) _ _ ⟨p2,g,d,tk+1,os⟩;refine ab (bD e2 Ad λp3 e3 q3=>?_);have q3:Heap.SameBut e p2 p3:=q3;have e3:IsEnum p3 e it ((i:Int)+1) old:=e3;show wpAny (model prog w) A (newTuple [.int i tk,x] >>= _) _ _ ⟨p3,g,d,tk+1,os⟩;refine ab (io ?_);have e4:IsEnum (p3.push {cls:=.type "tuple",data:=.seq #[.int i tk,x]}) e it ((i:Int)+1) old:=ae _ e3;have sz:p3.objs.size=hp.objs.size:=by rw[q3.1,q2.1,q1.1]
 have lt:e<hp.objs.size:=aC ee;have t4:(p3.push {cls:=.type "tuple",data:=.seq #[.int i tk,x]}).get? hp.objs.size=some {cls:=.type "tuple",data:=.seq #[.int i tk,x]}:=by rw[<- sz];exact ao _ rfl
 have z4:(p3.push {cls:=.type "tuple",data:=.seq #[.int i tk,x]}).objs.size=hp.objs.size+1:=by rw[ci,sz]
 have k4:∀c o,c≠e->c≠it->hp.get? c=some o->(p3.push {cls:=.type "tuple",data:=.seq #[.int i tk,x]}).get? c=some o:=λc o n1 n2 v=>ae _ (q3.extBut c o n1 (q2.extBut c o n1 (q1.extBut c o n2 v)));have r4:ItAt tp (p3.push {cls:=.type "tuple",data:=.seq #[.int i tk,x]}) it l (i+1):=((r1.but q2.extBut ne.symm).but q3.extBut ne.symm).at λo v=>ae _ v;generalize p3.push {cls:=.type "tuple",data:=.seq #[.int i tk,x]} =p4 at e4 t4 z4 k4 r4 ⊢;show wpAny (model prog w) A (Builtin.SmallTypes.ownedTupleIsFree (.ref e) >>= _) _ _ ⟨p4,g,d,tk+1,os⟩;rw[sz];refine ab (by
  unfold Builtin.SmallTypes.ownedTupleIsFree;refine ab (bU e4 rfl (x:=.none) rfl (ah ?_));simp only[fE];refine ab (cG (ab (bU e4 rfl (x:=old) rfl (ab (bD e4 Ad λp5 e5 q5=>?_)))));have q5:Heap.SameBut e p4 p5:=q5;have e5:IsEnum p5 e it ((i:Int)+1) x:=e5;refine ab (m:=Builtin.SmallTypes.ownedTupleHandOut (.ref e) (.ref hp.objs.size)) ?_;unfold Builtin.SmallTypes.ownedTupleHandOut;refine ab (bD e5 Ad λp6 e6 q6=>?_);have q6:Heap.SameBut e p5 p6:=q6;have e6:IsEnumOut p6 e it ((i:Int)+1) x hp.objs.size:=e6;refine bD e6 Ad λp7 e7 q7=>?_;have q7:Heap.SameBut e p6 p7:=q7;have e7:IsEnumOut p7 e it ((i:Int)+1) x hp.objs.size:=e7;have up:∀c o,c≠e->p4.get? c=some o->p7.get? c=some o:=λc o n v=>q7.extBut _ _ n (q6.extBut _ _ n (q5.extBut _ _ n v));exact ab (iF (ah ⟨_,rfl,k p7 e7 (r4.at λo v=>up _ o ne.symm v) (up _ _ (cr lt) t4) (by rw[q7.1,q6.1,q5.1,z4]) λc o n1 n2 v=>up c o n1 (k4 c o n1 n2 v)⟩)))
def jL9{tp:Bool}{e:Addr}{xs:An}{x old:Value}{Q:Option Value->Shared->Prop}(ee:IsEnum s.heap e it i old)(g1:ItAt tp s.heap it l i)(o1:ObAt tp s.heap l xs)(hx:xs[i]?=some x)(ne:e≠it)
  (k:∀h',IsEnumOut h' e it ((i:Int)+1) x s.heap.objs.size->ItAt tp h' it l (i+1)->h'.get? s.heap.objs.size=some {cls:=.type "tuple",data:=.seq #[.int i s.toks,x]} ->h'.objs.size=s.heap.objs.size+1->
   (∀c o,c≠e->c≠it->s.heap.get? c=some o->h'.get? c=some o)->Q (some (.ref s.heap.objs.size)) {s with heap:=h',toks:=s.toks+1}):
  wpAny (model prog w) A (pyNext (.ref e)) Q E s:=by
 have ty:s.TypeIs (.ref e) "enumerate" :=⟨_,ee,rfl⟩;unfold pyNext;exact ab (dw (bF (name:=Str.ofString "__next__") ty F.slot_enumerate_next (bQ F.slot_enumerate_next ty F.entry_enumerate_next (jRE ee g1 o1 hx ne λh' b1 b2 b3 b4 b5=>ah (k h' b1 b2 b3 b4 b5)) (F.args_enumerate_next_1 _))))
def jLA{tp:Bool}{e:Addr}{xs:An}{old:Value}{Q:Option Value->Shared->Prop}(hh:A.handled=none)(ee:IsEnum s.heap e it i old)(g1:ItAt tp s.heap it l i)(o1:ObAt tp s.heap l xs)(hx:xs[i]?=none)
  (k:∀h',(∀c o,c≠e->c≠it->s.heap.get? c=some o->h'.get? c=some o)->Q none {s with heap:=h'}):wpAny (model prog w) A (pyNext (.ref e)) Q E s:=by
 have ty:s.TypeIs (.ref e) "enumerate" :=⟨_,ee,rfl⟩;unfold pyNext;refine ab (dw (bF (name:=Str.ofString "__next__") ty F.slot_enumerate_next (bQ F.slot_enumerate_next ty F.entry_enumerate_next (?_:wpAny (model prog w) _ (field (.ref e) 2 >>= _) _ _ _) (F.args_enumerate_next_1 _))));refine ab (bU ee rfl (x:=.ref it) rfl (ab (next0 hh g1 o1 hx λh' x kp ⟨u,eu,cu⟩=>?_)));exact ab (gm (T:= "StopIteration") (b:=true) ⟨u,eu,cu⟩ ju (ah (k _ λc o _ n v=>kp c o n v)))
set_option maxHeartbeats 2000000 in
def jNZ(tp:Bool)(l:Addr)(xs:An)(u:Obj):
  Meets (Builtin.«enumerate.__new__» ⟨[.type "enumerate",.ref l],[]⟩) (λ_ R s=>s.heap.get? l=some u/\ObAt tp s.heap l xs/\
   R (.ok (.ret (.ref (s.heap.push (qT tp l)).objs.size))) {s with heap:=(s.heap.push (qT tp l)).push {cls:=.type "enumerate",data:=.fields #[.none,.bool false,.ref s.heap.objs.size,rawInt 0,.none,.none]}}):=
 .of_wp λprog w A R s h=>by
  obtain⟨hp,g,d,tk,os⟩:=s;obtain⟨a0,a1,q⟩:=h;have sub:=sub_enumerate;have e1:ObAt tp (Shared.heap ⟨hp,g,d,tk,os⟩) l xs:=a1;obtain⟨c,dct,dt,sl⟩:=u;obtain⟨n,hc,hd⟩:∃n,c=(if tp then .type "tuple" else .type "list")/\dt=.seq xs n:=by
   cases tp with
   |false=>obtain⟨o,e,hc,n,hd⟩:=a1;cases (a0.symm.trans e);exact⟨n,hc,hd⟩
   |true=>obtain⟨o,e,hc,n,hd⟩:=a1;cases (a0.symm.trans e);exact⟨n,hc,hd⟩
  subst hd;cases tp with
  |false=>
   subst hc
   wp_walk using cD a0
   refine wpAny_stack_any λ_=>ah ?_;split
   .rename_i c _ _ _ _ _;cases hcc:(c==Value.type "enumerate")
    all_goals (wp_walk using cD a0,jCS e1;exact⟨_,rfl,q⟩)
   .wp_walk using cD a0,jCS e1
    exact⟨_,rfl,q⟩
  |true=>
   subst hc
   wp_walk using cD a0
   refine wpAny_stack_any λ_=>ah ?_;split
   .rename_i c _ _ _ _ _;cases hcc:(c==Value.type "enumerate")
    all_goals (wp_walk using cD a0,jCS e1;exact⟨_,rfl,q⟩)
   .wp_walk using cD a0,jCS e1
    exact⟨_,rfl,q⟩
theorem jRL{tp:Bool}{xs:An}(a1:ObAt tp s.heap l xs)
  (k:∀h',IsEnum h' (s.heap.objs.size+1) s.heap.objs.size 0 .none->ItAt tp h' s.heap.objs.size l 0->(∀c o,s.heap.get? c=some o->h'.get? c=some o)->Q (.ref (s.heap.objs.size+1)) {s with heap:=h'}):
  wpAny (model prog w) A (call (.type "enumerate") [.ref l]) Q E s:=by
 obtain⟨u,eu⟩:∃u,s.heap.get? l=some u:=by
  cases tp with
  |false=>obtain⟨o,e,_⟩:=a1;exact⟨o,e⟩
  |true=>obtain⟨o,e,_⟩:=a1;exact⟨o,e⟩
 refine callType_new F.called_enumerate Ac (F.typeCall_enumerate_1 _) (F.newCall_enumerate_1 _) (λobj=>F.args_object_init_2 obj _) F.entry_enumerate_new (jNZ tp l xs u) ⟨eu,a1,?_⟩;have z1:(s.heap.push (qT tp l)).objs.size=s.heap.objs.size+1:=ci ..;have y2:IsEnum ((s.heap.push (qT tp l)).push {cls:=.type "enumerate",data:=.fields #[.none,.bool false,.ref s.heap.objs.size,rawInt 0,.none,.none]}) (s.heap.push (qT tp l)).objs.size s.heap.objs.size 0 .none:=ao _ rfl;have y1:((s.heap.push (qT tp l)).push {cls:=.type "enumerate",data:=.fields #[.none,.bool false,.ref s.heap.objs.size,rawInt 0,.none,.none]}).get? s.heap.objs.size=some (qT tp l):=ae _ (ao _ (jCW _ _));show _/\_;rw[z1] at y2 ⊢;exact⟨⟨_,y2,rfl⟩,k _ y2 (.new tp y1) λc o e=>ae _ (ae _ e)⟩
def Ite(tp:Bool)(K:W.Frag)(l:Addr):It:=
 ⟨λi H=>∃xs x,Sq tp K H l xs/\xs[i]?=some x,
  λi H v H'=>∃T x,H T=none/\v=.ref T/\H'=upd H T (.tup [.int (i:Int),x])/\∀xs,Sq tp K H l xs->xs[i]?=some x,
  λi H=>∃xs,Sq tp K H l xs/\xs.length<=i⟩
theorem jM7{tps:Pos}(tp:Bool)(l e it:Addr)(ne:e≠it):
  Turn P w K (.Tuple elts x1 tps) (Ite tp K l) [e,it] e (λi h=>(∃old,IsEnum h e it ((i:Nat):Int) old)/\ItAt tp h it l i) where
 mem:=Ad
 obj:=λi h st b hb=>by
  obtain⟨⟨old,he⟩,y1⟩:=st;simp only[aA,aS,bX] at hb;rcases hb with rfl|rfl
  .exact⟨_,he,λv q=>by cases q⟩
  .exact y1.obj
 keep:=λi h h' st k=>by
  obtain⟨⟨old,he⟩,h1⟩:=st;exact⟨⟨old,k e Ad _ he⟩,h1.at λo z=>k it Ad o z⟩
 item:=by
  intro X hP hw hK hc i lw s σ H E I hf st hg;subst hP hw hK;obtain⟨xs,x,hq1,hx⟩:=hg;obtain⟨⟨old,he⟩,h1⟩:=st;obtain⟨its1,r1,p1,_⟩:=I.sq hq1;obtain⟨u,hu,ru⟩:=r1.get hx;refine jL9 he h1 p1 (x:=u) (by simpa using hu) ne λh' a1 a2 a3 a4 a5=>?_;refine⟨_,rfl,wpAny_letOwnedTupleGo_enum (s:= {s with heap:=h',toks:=s.toks+1}) a1 λh'' b1 sb=>?_⟩;have fresh:H s.heap.objs.size=none:=I.fresh;have ntr:∀b o,H b=some o->b∉([e,it]:List Addr):=λb o z hb=>by
   have:=(hf b hb).1;rw[z] at this;cases this
  have kp:∀b o,b∉([e,it]:List Addr)->s.heap.get? b=some o->h''.get? b=some o:=λb o hb z=>by
   simp only[aA,aS,bX,iP] at hb;exact(sb.2 b hb.1).trans (a5 b o hb.1 hb.2 z)
  have nz:s.heap.objs.size≠e:=cr (aC he);have hT2:h''.get? s.heap.objs.size=some {cls:=.type "tuple",data:=.seq #[.int i s.toks,u]}:=(sb.2 _ nz).trans a3;have I2:Inv X lw σ (upd H s.heap.objs.size (.tup [.int (i:Int),x])) {s with heap:=h'',toks:=s.toks+1}:=by
   refine I.step (g':=s.gens) (d':=s.drawn) (t':=s.toks+1) (ch:=[e,it]) (λb hb=>?_) (λb o _ _ hb z _=>kp b o hb z) (λb o _ _ hb z _=>⟨o.slots,kp b o hb z⟩)
    (λb o _ z n=>by rw[j8 (aO (aC z))];exact n) (λb o hb z=>⟨o,kp b o hb z⟩) (λb ws z=>by rw[j8 (jA z fresh)];exact z) (λb o ws z=>by rw[j8 (jA z fresh)];exact z)
    (λb ps z=>⟨#[],by rw[j8 (jA z fresh),z];simp⟩) (λm hm=>?_) (λb o z=>?_) I.bare
   .obtain⟨f0,f1,f2,f3,f4,f5⟩:=hf b hb;exact⟨f3,f1,f4,f5⟩
   .obtain⟨o,es,ep,ho,r⟩:=hm;exact⟨o,es,ep,kp _ o (λhb=>(hf _ hb).2.1 rfl) ho,r⟩
   .by_cases hb:b=s.heap.objs.size
    .subst hb;rw[j7] at z;cases z;exact⟨by rw[dv];show 2<=_;decide,[.int i s.toks,u],.cons ⟨_,rfl⟩ (.cons ru .nil),0,hT2⟩
    .rw[j8 hb] at z;refine(I.hok b o z).stay (λc w hc q=>kp c w ?_ q) (λc q=>by rw[j8 (jA q fresh)];exact q) (λc ws q=>by rw[j8 (jA q fresh)];exact q);rcases hc with rfl|hc
     .exact ntr _ _ z
     .exact ntr _ _ hc
  refine⟨.ref s.heap.objs.size,_,I2,rfl,⟨_,x,fresh,rfl,rfl,λxs' q1=>by rw[I.sq_inj q1 hq1];exact hx⟩,⟨⟨_,b1⟩,?_⟩,λb hb=>?_⟩
  .exact a2.at λo z=>(sb.2 it ne.symm).trans z
  .rw[j8 (λq=>by
    obtain⟨o,eo⟩:∃o,s.heap.get? b=some o:=by
     simp only[aA,aS,bX] at hb;rcases hb with rfl|rfl
     .exact⟨_,he⟩
     .obtain⟨o,z,_⟩:=h1.obj;exact⟨o,z⟩
    exact absurd (aC eo) (by rw[q];exact cO _))]
   exact(hf b hb).1
 done:=by
  intro X hP hw hK hc i lw s σ H E I hf st hg;subst hP hw hK;obtain⟨xs,hq1,hend⟩:=hg;obtain⟨⟨old,he⟩,h1⟩:=st;obtain⟨its1,r1,p1,_⟩:=I.sq hq1;have e1:=r1.length;refine jLA (I.ok.hd hc) he h1 p1 (by simp;lia) λh' kp=>⟨rfl,?_⟩;have kp2:∀b o,b∉([e,it]:List Addr)->s.heap.get? b=some o->h'.get? b=some o:=λb o hb z=>by
   simp only[aA,aS,bX,iP] at hb;exact kp b o hb.1 hb.2 z
  have ntr:∀b o,H b=some o->b∉([e,it]:List Addr):=λb o z hb=>by
   have:=(hf b hb).1;rw[z] at this;cases this
  refine I.step (g':=s.gens) (d':=s.drawn) (t':=s.toks) (ch:=[e,it]) (λb hb=>?_) (λb o _ _ hb z _=>kp2 b o hb z) (λb o _ _ hb z _=>⟨o.slots,kp2 b o hb z⟩)
   (λb o _ z n=>n) (λb o hb z=>⟨o,kp2 b o hb z⟩) (λb ws z=>z) (λb o ws z=>z) (λb ps z=>⟨#[],by rw[z];simp⟩) (λm hm=>?_) (λb o z=>?_) I.bare
  .obtain⟨f0,f1,f2,f3,f4,f5⟩:=hf b hb;exact⟨f3,f1,f4,f5⟩
  .obtain⟨o,es,ep,ho,r⟩:=hm;exact⟨o,es,ep,kp2 _ o (λhb=>(hf _ hb).2.1 rfl) ho,r⟩
  .refine(I.hok b o z).stay (λc w hc q=>kp2 c w ?_ q) (λ_ q=>q) λ_ _ q=>q;rcases hc with rfl|hc
   .exact ntr _ _ z
   .exact ntr _ _ hc
 self:=λ_ _ _ _ _ st h=>wpAny_pyIter_enum st.1.choose_spec h
def iEnum(K:W.Frag)(ta:TA):TI:=λσ H R=>ta σ H λvs H1=>∃tp l,vs=[.ref l]/\(∃xs,Sq tp K H1 l xs)/\R (Ite tp K l) H1
theorem jTI{a:Expr}{ta:TA}(hg:Gl X "enumerate")(hm:X.mg "enumerate" =none)(ha:PA X [a] ta)(hv:bootBuiltins "enumerate" =some (.type "enumerate"):=by decide+kernel)
  (he:starEach [a] X.env=(false,eval a X.env)::starEach [] X.env:=by rfl) (hpl:(backTo pos (starEach [] X.env)).any (·.1)=false:=by rfl):
  PI X (.Tuple elts x1 tp) (.Call (.Name "enumerate" p) [a] [] pos) (iEnum X.K ta):=by
 intro lw s σ H R I h;refine Call_ (jDC I hg hm hv (cN (lz (ha pos lw s σ H _ I h) λus s1 ⟨vs,H1,I1,r1,q1⟩=>?_) he hpl));obtain⟨t1,l1,rfl,⟨xs,hq1⟩,q⟩:=q1;obtain⟨u,rfl,ru⟩:=r1.one;cases ru;obtain⟨its1,_,p1,_⟩:=I1.sq hq1;refine jRL p1 λh' a1 a2 kp=>?_;have I2:Inv X lw σ H1 {s1 with heap:=h'}:=I1.kept (t':=s1.toks) kp;refine wpAny_pyIter_enum a1 ⟨s1.heap.objs.size+1,[s1.heap.objs.size+1,s1.heap.objs.size],_,Ite t1 X.K l1,H1,rfl,I2,jM7 t1 l1 _ _ (Nat.succ_ne_self _),⟨⟨_,a1⟩,a2⟩,λb hb=>?_,q⟩;have hge:s1.heap.objs.size<=b:=by
  simp only[aA,aS,bX] at hb;rcases hb with rfl|rfl
  .exact eU _ 1
  .exact ar _
 exact I1.fpOk hge (I1.hok.fresh hge)
theorem jJ3{a:Expr}(hg:Gl1 X "enumerate")(hm:X.mg "enumerate" =none)(ha:JA X [a] t)(he:starEach [a] X.env=(false,eval a X.env)::starEach [] X.env)(hv:bootBuiltins "enumerate" =some (.type "enumerate"):=by decide+kernel)
  (hpl:(backTo pos (starEach [] X.env)).any (·.1)=false:=by rfl):JI X (.Tuple elts x1 tp) (.Call (.Name "enumerate" p) [a] [] pos) (iEnum X.K t):=⟨jTI hg.a hm ha.h hv he hpl⟩
variable {H1:Hp}{Q:VK}
section
variable {K:W.Frag}{σ:St}
theorem jHP{tp:Bool}{l:Addr}{xs:List V}(hn:xs.length<sizeLine)(Pv:Addr->Nat->St->Hp->List V->Prop)(h0:∀D,H1 D=none->Pv D 0 (blkσ m σ) (upd H1 D (.lst [])) [])
  (hD:∀D i σ' H' zs,H1 D=none->Pv D i σ' H' zs->Sq tp K H' l xs/\H' D=some (.lst zs)/\zs.length<=i)
  (hs:∀D i σ' H' zs x T,H1 D=none->xs[i]?=some x->H' T=none->Pv D i σ' H' zs->g (.ref T) σ' (upd H' T (.tup [.int (i:Int),x])) λσ2 H2=>tt σ2 H2 λb H3=>if b=true then te σ2 H3 λv H4=>H4 D=some (.lst zs)/\Pv D (i+1) σ2 (upd H4 D (.lst (zs++[v]))) (zs++[v]) else Pv D (i+1) σ2 H3 zs)
  (hd:∀D σ' H' zs,H1 D=none->Pv D xs.length σ' H' zs->Q (.ref D) H'):qX m g tt te σ Q (Ite tp K l) H1:=by
 intro D hDn;refine⟨λi k σ' H' zs=>k=xs.length-i/\i<=xs.length/\Pv D i σ' H' zs,⟨_,rfl,ba _,h0 D hDn⟩,?_⟩;rintro i k σ' H' zs ⟨rfl,hi,p⟩;obtain⟨s1,q1,q2⟩:=hD D i σ' H' zs hDn p;refine⟨q1,Aa,?_⟩;by_cases hlt:i<xs.length
 .refine .inr ⟨⟨xs,xs[i],s1,by simp[hlt]⟩,Pv D (i+1),λσ2 H2 zs z=>⟨xs.length-(i+1),Aa,rfl,hlt,z⟩,λv H'' y=>?_⟩;obtain⟨T,x,e1,e2,e3,e4⟩:=y;subst e2 e3;exact hs D i σ' _ zs x T hDn (e4 xs s1) e1 p
 .have e:i=xs.length:=Aa;subst e;exact .inl ⟨⟨xs,s1,ar _⟩,hd D σ' H' zs hDn p⟩
end
section
variable {κ:Type} [DecidableEq κ]
def valV(kvs:List (κ×V))(k:κ):Option V:=(kvs.find? λkv=>decide (kv.1=k)).map (·.2)
def putK(kvs:List (κ×V))(k:κ)(v:V):List (κ×V):=
 if (kvs.any λkv=>decide (kv.1=k))=true then kvs.map (λkv=>if kv.1=k then (kv.1,v) else kv) else kvs++[(k,v)]
def jBA{p:κ×V}{r:List (κ×V)}{k:κ}(e:p.1=k):valV (p::r) k=some p.2:=by simp[valV,dG,e]
def jBB{p:κ×V}{r:List (κ×V)}{k:κ}(e:¬p.1=k):valV (p::r) k=valV r k:=by simp[valV,dG,e]
theorem jFK(k:κ):∀kvs:List (κ×V),(kvs.any λkv=>decide (kv.1=k))=(valV kvs k).isSome
 |[]=>rfl
 |p::r=>by
  rw[gy];by_cases e:p.1=k
  .simp only[jBA e,ay e,Bool.true_or,Option.isSome_some]
  .rw[jBB e,aH e,Bool.false_or];exact jFK k r
theorem jBZ(kvs:List (κ×V))(k:κ)(v:V):(putK kvs k v).length<=kvs.length+1:=by
 unfold putK;split
 .rw[af];lia
 .rw[ak,aV,cE];lia
theorem jJU{kvs:List (κ×V)}{k:κ}(v:V)(h:valV kvs k=none):putK kvs k v=kvs++[(k,v)]:=by
 unfold putK;rw[jFK,h];exact aq Ac
def RelO.isSome_eq{u:Ao}(r:RelO o u):o.isSome=u.isSome:=by
 cases o with
 |none=>cases u with
  |none=>rfl
  |some _=>exact(show False from r).elim
 |some _=>cases u with
  |none=>exact(show False from r).elim
  |some _=>rfl
def KV.val{kvs:List (κ×V)}{vs:List (κ×Value)}(r:KV kvs vs)(k:κ):RelO (valV kvs k) (valueAt vs k):=by
 unfold KV at r
 induction r with
 |nil=>exact True.intro
 | @cons p q ps qs h t ih=>
  obtain⟨h1,h2⟩:=h;by_cases e:p.1=k
  .have e':q.1=k:=h1.symm.trans e;have b:valueAt (q::qs) k=some q.2:=by simp[valueAt,dG,e']
   rw[jBA e,b];exact h2
  .have e':¬q.1=k:=λz=>e (h1.trans z);have b:valueAt (q::qs) k=valueAt qs k:=by simp[valueAt,dG,e']
   rw[jBB e,b];exact ih
theorem KV.any{kvs:List (κ×V)}{vs:List (κ×Value)}(r:KV kvs vs)(k:κ):(kvs.any λkv=>decide (kv.1=k))=vs.any λkv=>decide (kv.1=k):=by
 unfold KV at r
 induction r with
 |nil=>rfl
 |cons h t ih=>rw[gy,gy,ih,h.1]
def KV.repl{kvs:List (κ×V)}{vs:List (κ×Value)}(r:KV kvs vs)(k:κ)(ry:RelV y u):
  KV (kvs.map λkv=>if kv.1=k then (kv.1,y) else kv) (vs.map λkv=>if kv.1=k then (kv.1,u) else kv):=by
 unfold KV at r ⊢
 induction r with
 |nil=>exact .nil
 | @cons p q ps qs h t ih=>
  rw[aW,aW];refine .cons ?_ ih;obtain⟨h1,h2⟩:=h;by_cases e:p.1=k
  .rw[ax e,ax (h1.symm.trans e)];exact⟨h1,ry⟩
  .rw[aq e,aq (λz=>e (h1.trans z))];exact⟨h1,h2⟩
theorem KV.put{kvs:List (κ×V)}{vs:List (κ×Value)}(r:KV kvs vs)(k:κ)(ry:RelV y u):KV (putK kvs k y) (stored vs k u):=by
 unfold putK stored;rw[r.any k];by_cases e:(vs.any λkv=>decide (kv.1=k))=true
 .rw[ax e,ax e];exact r.repl k ry
 .rw[aq e,aq e];exact Paired.snoc r ⟨rfl,ry⟩
def KV.keys{kvs:List (κ×V)}{vs:List (κ×Value)}(r:KV kvs vs):kvs.map (·.1)=vs.map (·.1):=by
 unfold KV at r
 induction r with
 |nil=>rfl
 |cons h t ih=>rw[aW,aW,ih,h.1]
def KV.length{kvs:List (κ×V)}{vs:List (κ×Value)}(r:KV kvs vs):kvs.length=vs.length:=fb r
end
def kV_is{k:Key}(r:RelV (kV k) u):(y6 P w).is k u=true:=by
 cases k with
 |inl i=>obtain⟨t,e⟩:=(show ∃t,u=Value.int i t from r);subst e;exact jIW P w i t
 |inr x=>obtain⟨t,e⟩:=(show ∃t,u=Value.str x t from r);subst e;exact jIV P w x t
def jHK:∀{ks:List Key}{us:Al},Vals (ks.map kV) us->ItemsAre (y6 P w) ks us
 |[],_,r=>by rw[fJ] at r;cases r;exact .nil
 |k::ks,_,r=>by
  rw[aW] at r;cases r with
  |cons h t=>exact .cons (kV_is h) (jHK t)
abbrev KT(H:Hp):List (List Key×V)->List (List Key×Addr×Value)->Prop:=Paired λp q=>p.1=q.1/\H q.2.1=some (.tup (p.1.map kV))/\RelV p.2 q.2.2
def KT.val(r:KT H kvs xs)(k:List Key):RelO (valV kvs k) ((atKey xs k).map (·.2)):=by
 induction r with
 |nil=>exact True.intro
 | @cons p q ps qs h t ih=>
  obtain⟨h1,_,h2⟩:=h;by_cases e:p.1=k
  .have e':q.1=k:=h1.symm.trans e;have b:atKey (q::qs) k=some q.2:=by simp[atKey,dG,e']
   rw[jBA e,b];exact h2
  .have e':¬q.1=k:=λz=>e (h1.trans z);have b:atKey (q::qs) k=atKey qs k:=by simp[atKey,dG,e']
   rw[jBB e,b];exact ih
def KT.repl(r:KT H kvs xs)(k:List Key)(ry:RelV y u):
  KT H (kvs.map λkv=>if kv.1=k then (kv.1,y) else kv) (xs.map (putAt k u)):=by
 induction r with
 |nil=>exact .nil
 | @cons p q ps qs h t ih=>
  rw[aW,aW];refine .cons ?_ ih;obtain⟨h1,h2,h3⟩:=h;unfold putAt;by_cases e:p.1=k
  .rw[ax e,ax (h1.symm.trans e)];exact⟨h1,h2,ry⟩
  .rw[aq e,aq (λz=>e (h1.trans z))];exact⟨h1,h2,h3⟩
theorem KT.put(r:KT H kvs xs)(k:List Key)(hb:H b=some (.tup (k.map kV)))(ry:RelV y u):
  KT H (putK kvs k y) (storedH xs k b u):=by
 have e:(kvs.any λkv=>decide (kv.1=k))=(atKey xs k).isSome:=by
  rw[jFK,(r.val k).isSome_eq,iG]
 unfold putK storedH;rw[e];by_cases q:(atKey xs k).isSome=true
 .rw[ax q,ax q];exact r.repl k ry
 .rw[aq q,aq q];exact Paired.snoc r ⟨rfl,hb,ry⟩
def KT.keeps(r:KT H kvs xs)(ht:∀b ys,H b=some (.tup ys)->H' b=some (.tup ys)):KT H' kvs xs:=
 Paired.mapP r λ_ _ z=>⟨z.1,ht _ _ z.2.1,z.2.2⟩
def rd_of{u:HO}(ok:HOk P w H h)(e:Rd H a u):ObjOk P w H h a u:=e.ok ok
def dk_rd{kvs:List (Key×V)}(ok:HOk P w H h)(e:Rd H a (.dK kvs)):kvs.length<=sizeLine/\(a==sysModules)=false/\∃vs,KV kvs vs/\h.DictOf (y6 P w) a vs:=
 show ObjOk P w H h a (.dK kvs) from rd_of ok e
def dk_of{kvs:List (Key×V)}(ok:HOk P w H h)(e:H a=some (.dK kvs)):kvs.length<=sizeLine/\(a==sysModules)=false/\∃vs,KV kvs vs/\h.DictOf (y6 P w) a vs:=dk_rd ok (.inl e)
def jHG{ks:List Key}(ok:HOk P w H h)(e:H a=some (.tup (ks.map kV))):(tupleKind (y6 P w)).is h ks a:=by
 obtain⟨_,its,r,p⟩:=(show ObjOk P w H h a (.tup (ks.map kV)) from ok a _ e);obtain⟨o,h1,h2,n,h3⟩:=p.isTup;exact⟨o,its.toArray,n,h1,h2,h3,by simpa using jHK r⟩
def dt_rd(ok:HOk P w H h)(e:Rd H a (.dT kvs)):kvs.length<=sizeLine/\(a==sysModules)=false/\
  ∃xs,KT H kvs xs/\h.DictOfH (tupleKind (y6 P w)) a xs:=by
 obtain⟨z,y,xs,r,o,es,ep,h1,h2,h3,h4,h5⟩:=(show ObjOk P w H h a (.dT kvs) from rd_of ok e);refine⟨z,y,xs,r,o,es,ep,h1,h2,h3,h4,λx hx=>?_,h5⟩;have all:∀{l:List (List Key×V)}{m:List (List Key×Addr×Value)},KT H l m->∀x∈m,(tupleKind (y6 P w)).is h x.1 x.2.1:=by
  intro l m q
  induction q with
  |nil=>intro x hx;exact nomatch hx
  | @cons p q ps qs hq t ih=>
   intro x hx;rcases aA.mp hx with e|hx
   .subst e;exact jHG ok (by rw[<- hq.1];exact hq.2.1)
   .exact ih x hx
 exact all r x hx
def dt_of(ok:HOk P w H h)(e:H a=some (.dT kvs)):kvs.length<=sizeLine/\(a==sysModules)=false/\
  ∃xs,KT H kvs xs/\h.DictOfH (tupleKind (y6 P w)) a xs:=dt_rd ok (.inl e)
def DGet(H:Hp)(a:Addr)(y:V)(r:Option V):Prop:=
 (∃kvs k,Rd H a (.dK kvs)/\y=kV k/\r=valV kvs k)\/∃kvs k b,Rd H a (.dT kvs)/\y=.ref b/\H b=some (.tup (k.map kV))/\r=valV kvs k
def DPut(H:Hp)(a:Addr)(y v:V)(H':Hp):Prop:=
 (∃kvs k,H a=some (.dK kvs)/\y=kV k/\kvs.length<sizeLine/\H'=upd H a (.dK (putK kvs k v)))\/
 ∃kvs k b,H a=some (.dT kvs)/\y=.ref b/\H b=some (.tup (k.map kV))/\kvs.length<sizeLine/\H'=upd H a (.dT (putK kvs k v))
def DGet.k{H:Hp}{a:Addr}{kvs:List (Key×V)}{k:Key}(e:H a=some (.dK kvs)):DGet H a (kV k) (valV kvs k):=.inl ⟨kvs,k,.inl e,rfl,rfl⟩
def DPut.k{H:Hp}{a:Addr}{kvs:List (Key×V)}{k:Key}{v:V}(e:H a=some (.dK kvs))(hl:kvs.length<sizeLine):DPut H a (kV k) v (upd H a (.dK (putK kvs k v))):=.inl ⟨kvs,k,e,rfl,hl,rfl⟩
variable {y:V}{u r:Value}
section
variable {σ:St}{v:V}{o:Option V}
theorem Inv.big(I:Inv X lw σ H s):sysModules<s.heap.objs.size:=by
 have h:mainGlobals<s.heap.objs.size:=(I.mod.glob.keeps I.bk).lt;exact dY Ac h
def jP0{Q:Ah}(hu:A.units+1<cLine)(I:Inv X lw σ H s)(g:DGet H a y (some v))(ry:RelV y u)(h:∀w' s',Inv X lw σ H s'->RelV v w'->Q w' s'):
  wpAny (model X.prog X.w) A (getItem (.ref a) u) Q E s:=by
 rcases g with ⟨kvs,k,e,ey,l⟩|⟨kvs,k,b,e,ey,eb,l⟩
 .subst ey;obtain⟨z,hd,vs,rel,dd⟩:=dk_rd I.hok e;obtain⟨w',hw,rw'⟩:=RelO.some_of (v:=v) (o:=valueAt vs k) (by rw[l];exact rel.val k);exact wpAny_getItem_of (kV_is ry) dd.mapOf hw (h w' _ (I.tok _) rw')
 .subst ey;cases (show u=Value.ref b from ry);obtain⟨z,hd,xs,rel,dd⟩:=dt_rd I.hok e;obtain⟨w',hw,rw'⟩:=RelO.some_of (v:=v) (o:=(atKey xs k).map (·.2)) (by rw[l];exact rel.val k);obtain⟨p,hp,hp2⟩:=Option.map_eq_some_iff.mp hw;refine wpAny_getItem_heap (fm hu) (jHG I.hok eb) dd hp ?_;rw[hp2];exact h w' _ (I.tok _) rw'
def d_in{Q:Ah}(hu:A.units+1<cLine)(I:Inv X lw σ H s)(g:DGet H a y o)(ry:RelV y u)(h:∀s',Inv X lw σ H s'->Q (.bool o.isSome) s'):
  wpAny (model X.prog X.w) A (compareOp .In u (.ref a)) Q E s:=by
 rcases g with ⟨kvs,k,e,ey,l⟩|⟨kvs,k,b,e,ey,eb,l⟩
 .subst ey;obtain⟨z,hd,vs,rel,dd⟩:=dk_rd I.hok e;refine wpAny_in_of (kV_is ry) hd dd.mapOf ?_;rw[<- (rel.val k).isSome_eq,<- l];exact h _ (I.tok _)
 .subst ey;cases (show u=Value.ref b from ry);obtain⟨z,hd,xs,rel,dd⟩:=dt_rd I.hok e;refine wpAny_in_heap (fm hu) (jHG I.hok eb) hd dd ?_;have q:=(rel.val k).isSome_eq;rw[iG] at q;rw[<- q,<- l];exact h _ (I.tok _)
def jV3{Q:Ah}(hu:A.units+1<cLine)(I:Inv X lw σ H s)(g:DGet H a y o)(ry:RelV y u)(h:∀s',Inv X lw σ H s'->Q (.bool (!o.isSome)) s'):
  wpAny (model X.prog X.w) A (compareOp .NotIn u (.ref a)) Q E s:=by
 rcases g with ⟨kvs,k,e,ey,l⟩|⟨kvs,k,b,e,ey,eb,l⟩
 .subst ey;obtain⟨z,hd,vs,rel,dd⟩:=dk_rd I.hok e;refine wpAny_notIn_of (kV_is ry) hd dd.mapOf ?_;rw[<- (rel.val k).isSome_eq,<- l];exact h _ (I.tok _)
 .subst ey;cases (show u=Value.ref b from ry);obtain⟨z,hd,xs,rel,dd⟩:=dt_rd I.hok e;refine wpAny_notIn_heap (fm hu) (jHG I.hok eb) hd dd ?_;have q:=(rel.val k).isSome_eq;rw[iG] at q;rw[<- q,<- l];exact h _ (I.tok _)
def jJC{t':Nat}{ob:HO}(I:Inv X lw σ H s)(mu:Mut (H a))(hs:Heap.SameBut a s.heap h')(he:∃q,h'.get? a=some q)(new:ObjOk X.prog X.w (upd H a ob) h' a ob):
  Inv X lw σ (upd H a ob) {s with heap:=h',toks:=t'}:=
 I.write (x:=a) (e:=a) mu (.inl rfl) (λb q hb z=>(hs.2 b hb).trans z) he new
def jSP{kvs:List (Key×V)}{vs:List (Key×Value)}(z:kvs.length<=sizeLine)(hd:(a==sysModules)=false)(rel:KV kvs vs)(dd:h'.DictOf (y6 P w) a vs):
  ObjOk P w H' h' a (.dK kvs):=⟨z,hd,vs,rel,dd⟩
theorem jOZ{Q:Unit->Shared->Prop}(hu:A.units+1<cLine)(I:Inv X lw σ H s)(g:DPut H a y v H')(ry:RelV y u)(rv:RelV v r)(h:∀s',Inv X lw σ H' s'->Q () s'):
  wpAny (model X.prog X.w) A (setItem (.ref a) u r) Q E s:=by
 rcases g with ⟨kvs,k,e,ey,l,eH⟩|⟨kvs,k,b,e,ey,eb,l,eH⟩
 .subst ey eH;obtain⟨z,hd,vs,rel,dd⟩:=dk_of I.hok e;have hz:vs.length<=sizeLine:=by rw[<- rel.length];exact z
  have hl:(putK kvs k v).length<=sizeLine:=by have:=jBZ kvs k v;lia
  refine wpAny_setItem_pairs (hsz:=hz) (kV_is ry) dd λh' dd' hs=>h _ ?_;have he:∃q,h'.get? a=some q:=let ⟨q,_,_,hq,_⟩:=dd';⟨q,hq⟩;exact jJC I (by rw[e];exact True.intro) hs he (jSP hl hd (rel.put k rv) dd')
 .subst ey eH;cases (show u=Value.ref b from ry);obtain⟨z,hd,xs,rel,dd⟩:=dt_of I.hok e;have hz:xs.length<=sizeLine:=by rw[<- fb rel];exact z
  have hl:(putK kvs k v).length<=sizeLine:=by have:=jBZ kvs k v;lia
  refine wpAny_setItem_heap (hsz:=hz) (fm hu) (jHG I.hok eb) dd λh' dd' hs=>h _ ?_;obtain⟨q,es,ep,hq,h2,h3,h4,_,h5⟩:=dd';refine jJC I (by rw[e];exact True.intro) hs ⟨q,hq⟩ ⟨hl,hd,_,(rel.put k eb rv).keeps λc ys ec=>?_,q,es,ep,hq,h2,h3,h4,h5⟩;rw[j8 (ne_of ec e (λz=>nomatch z))];exact ec
end
variable {kvs:List (Key×V)}
section
variable {σ:St}{k:Key}
end
def NoSl(i:Expr):Prop:=∀ov iv,subscripted i false ov iv=operate [ov,iv] (getItem ov iv)
def jSZ{env:Env}{value slice:Expr}{T id:String}{Q:Ah}
  (hl:typeLookup (.type T) "__getitem__" =pure (some (.builtin id))) (hs:NoSl slice)
  (h:wpAny (model prog w) A (eval value env) (λo s₁=>wpAny (model prog w) A (eval slice env) (λi s₂=>s₂.TypeIs o T/\wpAny (model prog w) A (getItem o i) Q E s₂) E s₁) E s):
  wpAny (model prog w) A (eval (.Subscript value slice pos) env) Q E s:=by
 refine Subscript_ (cb h (λo s₁ h₁=>cb h₁ (λi s₂ h₂=>?_) λ_ _ x=>x) λ_ _ x=>x);obtain⟨hT,h₂⟩:=h₂;unfold subscriptTail;refine ab ?_;rw[getitemInPython_of_ne hT.not_modules];refine ab (wpAny_specialOf hT hl ?_);have fin:wpAny (model prog w) A (subscripted slice false o i) (λr s₃=>wpAny (model prog w) A (letTemporaryGo value o r >>= λ_=>pure r) Q E s₃) E s₂:=by
  rw[hs o i];exact wpAny_operating (cb h₂ (λr s₃ h₃=>ab (wpAny_letTemporaryGo (ah h₃))) λ_ _ x=>x)
 first
  |exact ah (ab fin)
  |exact ab (ah (ab fin))
  |exact ab fin
def jJB{σ:St}(I:Inv X lw σ H s)(g:DGet H a y o):s.TypeIs (.ref a) "dict" :=by
 rcases g with ⟨kvs,k,e,_,_⟩|⟨kvs,k,b,e,_,_,_⟩
 .obtain⟨_,_,vs,_,dd⟩:=dk_rd I.hok e;exact dd.typeIs
 .obtain⟨_,_,xs,_,dd⟩:=dt_rd I.hok e;exact dd.typeIs
def tDGet(td ty:TE):TE:=λσ H Q=>td σ H λx H1=>ty σ H1 λy H2=>∃a v,x=.ref a/\DGet H2 a y (some v)/\Q v H2
def tDIn(ty td:TE):TE:=λσ H Q=>ty σ H λy H1=>td σ H1 λx H2=>∃a o,x=.ref a/\DGet H2 a y o/\Q (.bl o.isSome) H2
def jMD(ty td:TE):TE:=λσ H Q=>ty σ H λy H1=>td σ H1 λx H2=>∃a o,x=.ref a/\DGet H2 a y o/\Q (.bl (!o.isSome)) H2
def sDPut(td ty tv:TE):TS:=λD σ H=>tv σ H λv H1=>td σ H1 λx H2=>ty σ H2 λy H3=>∃a H4,x=.ref a/\DPut H3 a y v H4/\D.nx σ H4
variable {o value:Expr}{pos':Pos}{td tv:TE}
section
variable {i:Expr}{tpos:Pos}{ty:TE}
def jTN(hu:X.A.units+1<cLine)(ho:PE X o td)(hi:PE X i ty)(hs:NoSl i):PE X (.Subscript o i pos) (tDGet td ty):=by
 intro lw s σ H Q I h;refine jSZ PySem.F.slot_dict_getitem.lookup hs (lz (ho lw s σ H _ I h) λu s1 ⟨x,H1,I1,rx,q1⟩=>lz (hi lw s1 σ H1 _ I1 q1) λiv s2 ⟨y,H2,I2,ry,a,v,ex,g,q2⟩=>?_);subst ex;obtain rfl:u=Value.ref a:=rx;exact⟨jJB I2 g,jP0 hu I2 g ry λw' s3 I3 rw'=>⟨v,H2,I3,rw',q2⟩⟩
def jWL(hu:X.A.units+1<cLine)(hi:PE X i ty)(ho:PE X o td):PC X .In i o (tDIn ty td):=by
 intro lw s σ H Q I h;refine lz (hi lw s σ H _ I h) λiv s1 ⟨y,H1,I1,ry,q1⟩=>lz (ho lw s1 σ H1 _ I1 q1) λu s2 ⟨x,H2,I2,rx,a,ov,ex,g,q2⟩=>?_;subst ex;obtain rfl:u=Value.ref a:=rx;exact d_in hu I2 g ry λs3 I3=>⟨.bl ov.isSome,H2,I3,rfl,q2⟩
def jN7(hu:X.A.units+1<cLine)(hi:PE X i ty)(ho:PE X o td):PC X .NotIn i o (jMD ty td):=by
 intro lw s σ H Q I h;refine lz (hi lw s σ H _ I h) λiv s1 ⟨y,H1,I1,ry,q1⟩=>lz (ho lw s1 σ H1 _ I1 q1) λu s2 ⟨x,H2,I2,rx,a,ov,ex,g,q2⟩=>?_;subst ex;obtain rfl:u=Value.ref a:=rx;exact jV3 hu I2 g ry λs3 I3=>⟨.bl (!ov.isSome),H2,I3,rfl,q2⟩
def jTA(hu:X.A.units+1<cLine)(ho:PE X o td)(hi:PE X i ty)(hv:PE X value tv)(hs:swapsWith value (some (.Subscript o i pos')) pos.line X.env=pure false):
  PS X (.Assign [.Subscript o i pos'] value pos) (sDPut td ty tv):=by
 intro lw s σ H D I h;refine wpAny_Assign_Subscript (lz (hv lw s σ H _ I h) λr s1 ⟨v,H1,I1,rv,q1⟩=>lz (ho lw s1 σ H1 _ I1 q1) λu s2 ⟨x,H2,I2,rx,q2⟩=>lz (hi lw s2 σ H2 _ I2 q2) λiv s3 ⟨y,H3,I3,ry,a,H4,ex,g,q3⟩=>?_) hs;subst ex;obtain rfl:u=Value.ref a:=rx;exact jOZ hu I3 g ry rv λs4 I4=>⟨σ,H4,I4,q3⟩
end
def jRF(h:Heap)(hb:sysModules<h.objs.size):ObjOk P w H (h.push {cls:=.type "dict",data:=.dict #[]}) h.objs.size (.dK []):=
 ⟨ba _,bL.mpr (ce (aO hb)),[],.nil,jc h⟩
def jMB:List (TE×TE)->St->Hp->(List (V×V)->Hp->Prop)->Prop
 |[],_,H,Q=>Q [] H
 | (tk,tv)::r,σ,H,Q=>tk σ H λx H1=>tv σ H1 λy H2=>jMB r σ H2 λps H3=>Q ((x,y)::ps) H3
abbrev VV:List (V×V)->List (Value×Value)->Prop:=Paired λp q=>RelV p.1 q.1/\RelV p.2 q.2
def PPs(X:Cx)(pos:Pos)(keys:List (Option Expr))(values:List Expr)(trs:List (TE×TE)):Prop:=
 ∀(lw:Ai) (s:Shared) (σ:St) (H:Hp) (Q:List (V×V)->Hp->Prop),Inv X lw σ H s->jMB trs σ H Q->
  wpAny (model X.prog X.w) X.A (evalPairs (pairTrees keys values X.env pos)) (λvs s'=>∃ps H',Inv X lw σ H' s'/\VV ps vs/\Q ps H') X.xe s
def jTB:PPs X pos [] [] []:=λlw s σ H Q I h=>pairTrees_nil_walk ⟨[],H,I,.nil,h⟩
def jPW{k v:Expr}{ks:List (Option Expr)}{vs:List Expr}{tk:TE}(hk:PE X k tk)(hv:PE X v tv)(hr:PPs X pos ks vs trs):
  PPs X pos (some k::ks) (v::vs) ((tk,tv)::trs):=λlw s σ H Q I h=>
 pairTrees_cons_walk (lz (hk lw s σ H _ I h) λu s1 ⟨x,H1,I1,rx,q1⟩=>lz (hv lw s1 σ H1 _ I1 q1) λw2 s2 ⟨y,H2,I2,ry,q2⟩=>
  lz (hr lw s2 σ H2 _ I2 q2) λws s3 ⟨ps,H3,I3,rel,q3⟩=>⟨(x,y)::ps,H3,I3,.cons ⟨rx,ry⟩ rel,q3⟩)
def jHA(kvs more:List (Key×V)):List (Key×V):=more.foldl (λacc kv=>putK acc kv.1 kv.2) kvs
def KV.merge:∀{more:List (Key×V)}{rs:List (Key×Value)}{kvs:List (Key×V)}{vs:List (Key×Value)},KV more rs->KV kvs vs->KV (jHA kvs more) (merged vs rs):=by
 intro more rs kvs vs r;unfold KV at r
 induction r generalizing kvs vs with
 |nil=>intro q;exact q
 | @cons p q ps qs h t ih=>
  intro r0;have e:KV (putK kvs p.1 p.2) (stored vs q.1 q.2):=by
   have:=r0.put p.1 h.2;rw[<- h.1];exact this
  exact ih e
theorem jCC:∀(more kvs:List (Key×V)),(jHA kvs more).length<=kvs.length+more.length
 |[],kvs=>by show kvs.length<=kvs.length+0;lia
 |p::r,kvs=>by
  have h1:=jCC r (putK kvs p.1 p.2);have h2:=jBZ kvs p.1 p.2;show (jHA (putK kvs p.1 p.2) r).length<=_;rw[aV];lia
def jFE{P:Program}{w:World}:∀{kvs:List (Key×V)}{ws:List (Value×Value)},VV (kvs.map λkv=>(kV kv.1,kv.2)) ws->∃rs,Carries (y6 P w) ws rs/\KV kvs rs
 |[],_,r=>by rw[fJ] at r;cases r;exact⟨[],True.intro,.nil⟩
 |p::kvs,_,r=>by
  rw[aW] at r;cases r with
  | @cons a b as bs h t=>
   obtain⟨rs,c,q⟩:=jFE (P:=P) (w:=w) t;obtain⟨b1,b2⟩:=b;exact⟨(p.1,b2)::rs,⟨kV_is h.1,rfl,c⟩,.cons ⟨rfl,h.2⟩ q⟩
def tDisp(trs:List (TE×TE)):TE:=λσ H Q=>∀p,H p=none->jMB trs σ (upd H p (.dK [])) λps H2=>H2 p=some (.dK [])/\∃kvs:List (Key×V),ps=kvs.map (λkv=>(kV kv.1,kv.2))/\kvs.length<=15/\Q (.ref p) (upd H2 p (.dK (jHA [] kvs)))
theorem jTM{keys:List (Option Expr)}{values:List Expr}(h:PPs X pos keys values trs)(hall:keys.all (·.isSome)=true)(hl:keys.length=values.length)(h0:keys≠[])
  (h15:keys.length<=15):PE X (.Dict keys values pos) (tDisp trs):=by
 intro lw s σ H Q I q;have hn:=I.hok.fresh (ar s.heap.objs.size);have I1:=I.laid (a:=s.heap.objs.size) (o:=.dK []) (h':=s.heap.push {cls:=.type "dict",data:=.dict #[]}) (t':=s.toks) (λ_ _ q=>ae _ q) (ar _) (jRF s.heap I.big);refine wpAny_Dict_walk (knd:=y6 X.prog X.w) hall hl h0 h15 (lz (h lw _ σ _ _ I1 (q _ hn)) λws s2 ⟨ps,H2,I2,rel,e,kvs,ep,lk,q2⟩=>?_);subst ep;obtain⟨rs,c,rk⟩:=jFE (P:=X.prog) (w:=X.w) rel;obtain⟨z,hd,vs0,r0,dd⟩:=dk_of I2.hok e;cases r0;refine⟨rs,c,dd,λh' dd' hs=>⟨.ref s.heap.objs.size,_,?_,rfl,q2⟩⟩;have hz:(jHA [] kvs).length<=sizeLine:=by
  have h1:=jCC kvs [];rw[cE] at h1;rw[dv];lia
 have he:∃q,h'.get? s.heap.objs.size=some q:=let ⟨q,_,_,hq,_⟩:=dd';⟨q,hq⟩;exact jJC I2 (by rw[e];exact True.intro) hs he (jSP hz hd (rk.merge .nil) dd')
section
variable {σ:St}{d:V}{o:Option V}
end
variable {apos:Pos}{tx:TE}
section
variable {f:Expr}{ty:TE}
end
section
variable {σ:St}
end
section
variable {σ:St}
end
section
variable {κ:Type} [DecidableEq κ]
end
section
variable {d:Addr}{kvs:List (Key×Value)}
def jJE{T:String}{r d:Addr}{n:Nat}{P:Nat->Value->Prop}{OK:Heap->Prop}{R:List Value->Shared->Prop}(K:PySem.W.KdlSrc prog w T r d n P OK)(hh:A.handled=none)(hok:OK s.heap)(hn:n<=sizeLine)
  (h:∀(h':Heap) (tk:Nat) (acc:An),(∀b o,s.heap.get? b=some o->h'.get? b=some o)->s.heap.objs.size<h'.objs.size->ItemsOf P acc n->R acc.toList {s with heap:=h',toks:=tk}):
  wpAny (model prog w) A (collect (.ref r)) R E s:=by
 have hlt:=K.there _ hok;unfold collect;refine ab (ie (cm entry_proto_collect' ?_));rw[ck g4 _];show wpAny _ A.in1 (newList [] >>= λl=>again (.builtin "list.__iadd__" ⟨[l,.ref r],[]⟩)) _ _ s;refine ab (bZ ?_);refine ah ⟨eC dS _,cm entry_list_iadd' ?_⟩;rw[ck dS _];have hS:(s.heap.push {cls:=.type "list",data:=.seq ([]:Al).toArray}).get? s.heap.objs.size=some {cls:=.type "list",data:=.seq #[]}:=ao _ rfl;show wpAny _ A.in1 (Builtin.List.listExtendWith (.ref s.heap.objs.size) (.ref r) (.ref s.heap.objs.size)) _ _ _;refine cb (PySem.W.kdl_extend (A:=A) (s:= {s with heap:=s.heap.push {cls:=.type "list",data:=.seq ([]:Al).toArray}})
  (R:=λ(q:Result) (s':Shared)=>∃(h':Heap) (tk:Nat) (acc:An) (c:Nat),q=.ok (.ret (.ref s.heap.objs.size))/\s'= {s with heap:=h',toks:=tk} /\
   (∀b o,s.heap.get? b=some o->h'.get? b=some o)/\h'.get? s.heap.objs.size=some {cls:=.type "list",dict:=none,data:=.seq acc c,slots:=#[]} /\ItemsOf P acc n)
  K hh (K.keep _ _ hok λb _ o e=>ae _ e) s.heap.objs.size (cr hlt.1) (cr hlt.2) (.ref s.heap.objs.size) 0 hS
  (λh' tk acc c hk hS' hacc=>⟨h',tk,acc,c,rfl,rfl,λb o e=>hk b o (aO (aC e)) (ae _ e),hS',hacc⟩) hn) (λfin s' x=>?_) λe s' x=>?_
 .cases fin with
  |done f=>
   obtain⟨h',tk,acc,c,e,rfl,hk,hS',hacc⟩:=x;cases e;show wpAny _ A (load s.heap.objs.size >>= _) _ _ _;exact ab (gf hS' (ah (h h' tk acc hk (aC hS') hacc)))
  |again c1=>
   refine⟨x.1,cW x.2 λq s2 y=>?_⟩;obtain⟨h',tk,acc,c,rfl,rfl,hk,hS',hacc⟩:=y;show wpAny _ A (load s.heap.objs.size >>= _) _ _ _;exact ab (gf hS' (ah (h h' tk acc hk (aC hS') hacc)))
 .obtain⟨_,_,_,_,e',_⟩:=x;cases e'
end
section
variable {i f:Expr}{ty:TE}
def jG6(hu:X.A.units+1<cLine)(ho:JE X o td)(hi:JE X i ty)(hs:jAV i):JE X (.Subscript o i pos) (tDGet td ty):=⟨jTN hu ho.h hi.h hs⟩
def jJ1(hu:X.A.units+1<cLine)(ho:JE X o td)(hi:JE X i ty)(hv:JE X value tv)(hs:SwOk value (some (.Subscript o i pos'))):JS X (.Assign [.Subscript o i pos'] value pos) (sDPut td ty tv):=⟨jTA hu ho.h hi.h hv.h (hs.h _ _)⟩
end
def jGM:entryFor table "dict.update.loop" =some Builtin.«dict.update.loop»:=entryFor_of_fast (by kernel_rfl)
theorem jC4:plainId "dict.update.loop" =true:=Ab
def jHE:typeLookup (.type "list") "keys" =pure none:=am_miss_of_fast (by kernel_rfl)
def jEB:typeLookup (.type "list") "__getattr__" =pure none:=am_miss_of_fast (by kernel_rfl)
theorem jNY(a:Addr)(name:Str)(u:Tok)(hmiss:typeLookup (.type "list") name=pure none)(hsz:name.length+100<=sizeLine)(hgd: [Str.ofString "__module__",Str.ofString "__name__",Str.ofString "__qualname__",Str.ofString "__doc__",Str.ofString "__annotations__"].contains name=false):Meets (Builtin.«object.__getattribute__» ⟨[.ref a,.str name u],[]⟩) (λA R s=>(∃its n,s.heap.get? a=some {cls:=.type "list",data:=.seq its n})/\raisesAttr (.ref a) name A R s):=
 Meets.of_wp λprog w A R s hs=>by
  obtain⟨⟨its,n,ho⟩,hs⟩:=hs;obtain⟨hp,g,d,tk,os⟩:=s;have hT:(⟨hp,g,d,tk,os⟩:Shared).TypeIs (.ref a) "list" :=⟨_,ho,rfl⟩;unfold Builtin.«object.__getattribute__»
  repeat (any_goals (first|assumption|wp_step))
  rw[hgd,aq am]
  repeat (any_goals (first|assumption|wp_step))
  exact wpAny_raiseAttrError hs.1 hs.2 (attrMsg_fits Ab hsz)
def jO8{name:Str}(hmiss:typeLookup (.type "list") name=pure none)(hsz:name.length+100<=sizeLine)(hgd: [Str.ofString "__module__",Str.ofString "__name__",Str.ofString "__qualname__",Str.ofString "__doc__",Str.ofString "__annotations__"].contains name=false){its:An}{n:Nat}{Q:Option Value->Shared->Prop}(hA:A.handled=none)(ho:s.heap.get? a=some {cls:=.type "list",data:=.seq its n})
  (h:∀h' tk,(∀b u,s.heap.get? b=some u->h'.get? b=some u)->Q none {s with heap:=h',toks:=tk}):wpAny (model prog w) A (getAttr? (.ref a) name) Q E s:=by
 obtain⟨hp,g,d,tk,os⟩:=s;have hT:∀tk',(⟨hp,g,d,tk',os⟩:Shared).TypeIs (.ref a) "list" :=λ_=>⟨_,ho,rfl⟩;have f1:=sub_AttributeError;have f3:=F.slot_list_getattribute.lookup;have f4:=F.slot_list_getattribute.bind (.ref a);have f5:=jEB;unfold getAttr? getAttrBy? getAttrBy
 repeat (any_goals (first|assumption | ((with_reducible show wpAny _ _ (call (Value.builtin "list.__getattribute__") _ _) _ _ _);refine kq F.slot_list_getattribute (hT _) F.entry_list_ga (F.args_list_getattribute_2 _ _) (jNY a name _ hmiss hsz hgd) ⟨⟨its,n,ho⟩,hA,λh' tk' e hx=>?_⟩)|wp_step))
 obtain⟨t',u',he⟩:=hx.there;show wpAny _ _ (getattributeRaised _ _ _ _ _ _ _) _ _ _;unfold getattributeRaised
 repeat (any_goals (first|assumption|wp_step))
 exact h _ _ λb u q=>hx.keeps b u q
def jLC{k v:Value}{m:Nat}{Q:List Value->Shared->Prop}(ho:s.heap.get? a=some {cls:=.type "tuple",data:=.seq #[k,v] m})(h:Q [k,v] s):wpAny (model prog w) A (Builtin.Dict.pairItems (.ref a)) Q E s:=by
 obtain⟨hp,g,d,tk,os⟩:=s;have hT:(⟨hp,g,d,tk,os⟩:Shared).TypeIs (.ref a) "tuple" :=⟨_,ho,rfl⟩;unfold Builtin.Dict.pairItems
 repeat (any_goals (first|assumption|wp_step))
section
variable {prog:Program}{w:World}{K:Type} [DecidableEq K]{knd:KeyKind prog w K}{A:Around}{R:Result->Shared->Prop}{I:Addr}{fp wr:List Addr}{n:Nat}{P:Nat->Value->Prop}{St:Nat->Shared->Prop}
def jKY(knd:KeyKind prog w K)(h:Heap)(a:Addr)(p:K×Value):Prop:=∃key m,h.get? a=some {cls:=.type "tuple",data:=.seq #[key,p.2] m} /\knd.is p.1 key=true
theorem upl(W:WalksS prog w A.in1 I fp wr (λa b=>b=a) n P St)(d:Addr)(hd:d∉fp)(more:List (K×Value))(hmn:more.length=n)(pa:Nat->Addr)(hpd:∀i,i<n->pa i≠d/\pa i∉wr)(hP:∀i v,P i v->v=.ref (pa i))(hn:n<=sizeLine):
  ∀(k i:Nat) (z:Int) (s:Shared),n-i=k->i<=n->St i s->s.heap.DictOf knd d (merged [] (more.take i))->(∀j p,more[j]?=some p->jKY knd s.heap (pa j) p)->
   (∀s',Moved (d::wr) (λa b=>b=a) s s'->s'.heap.DictOf knd d (merged [] more)->R (.ok (.ret .none)) s')->
   codeAny (model prog w) A (.builtin "dict.update.loop" ⟨[.ref d,.ref I,rawInt z,.none],[]⟩) R s:=by
 have hdw:d∉wr:=λh=>hd (W.sub _ h);have sub1:∀b∈wr,b∈d::wr:=λb hb=>ag _ hb;intro k
 induction k with
 |zero=>
  intro i z s hk hi hst hS hp hR;obtain rfl:i=n:=Aa;refine cm jGM ?_;rw[ck jC4 _];show wpAny _ A.in1 (pyNext (.ref I) >>= _) _ _ s;refine ab (W.done s _ _ hst λs' mv=>?_);show wpAny _ A.in1 (Builtin.Dict.addKeywords d [] >>= λ_=>ret Value.none) _ _ s';refine ab (ah (ah (hR s' (mv.mono sub1) ?_)));obtain⟨o,es,ep,ho,r⟩:=hS;rw[<- hmn,bq] at r;exact⟨o,es,ep,mv.heap d o hdw ho,r⟩
 |succ k ih=>
  intro i z s hk hi hst hS hp hR;have hlt:i<n:=Aa;refine cm jGM ?_;rw[ck jC4 _];show wpAny _ A.in1 (pyNext (.ref I) >>= _) _ _ s;refine ab (W.item i s _ _ hlt hst λv s' hPv hst' mv=>?_);obtain rfl:=hP i v hPv;have hS':s'.heap.DictOf knd d (merged [] (more.take i)):=by
   obtain⟨o,es,ep,ho,r⟩:=hS;exact⟨o,es,ep,mv.heap d o hdw ho,r⟩
  have hp':∀j p,more[j]?=some p->jKY knd s'.heap (pa j) p:=λj p hj=>by
   obtain⟨key,m,e,q⟩:=hp j p hj;have hjn:j<n:=by rw[<- hmn];exact(aj.mp hj).1
   exact⟨key,m,mv.heap _ _ (hpd j hjn).2 e,q⟩
  obtain⟨p,hpi⟩:∃p,more[i]?=some p:=⟨more[i],by simp[hmn,hlt]⟩;obtain⟨key,m,e1,hk1⟩:=hp' i p hpi;show wpAny _ A.in1 (holding [Value.ref (pa i)] _ >>= _) _ _ s';refine ab (bE (ab ?_));refine wpAny_tryCatch (jLC e1 ?_);refine bE (wpAny_dictSet_pairs hk1 hS' (λh' hd' sb=>?_) (by
   have:=merged_length_le (K:=K) [] (more.take i);have h2:=bM i more;have:(merged [] (more.take i)).length<=i:=by
    refine bA (merged_length_le (K:=K) [] (more.take i)) ?_;simp only[cE,Nat.zero_add];exact bM _ _
   lia))
  refine ah ⟨eC jC4 _,ih (i+1) (z+1) _ Aa hlt (W.frame _ s' _ _ hst' (dH _) λb hb o e=>?_) ?_ (λj p hj=>?_) λs'' mv2 hS3=>?_⟩
  .rw[sb.2 b (λh:b=d=>hd (by rw[<- h];exact hb))];exact e
  .rw[merged_take_succ _ _ _ _ hpi];exact hd'
  .obtain⟨key,m,e,q⟩:=hp' j p hj;have hjn:j<n:=by rw[<- hmn];exact(aj.mp hj).1
   exact⟨key,m,by show h'.get? _=_;rw[sb.2 _ (hpd j hjn).1];exact e,q⟩
  .refine hR s'' (Moved.trans W.gtrans ((mv.mono sub1).then_heap (dH _) λb o hb e=>?_) mv2) hS3;rw[sb.2 b (λh:b=d=>hb (by rw[h];exact ai))];exact e
end
section
variable {prog:Program}{w:World}{K:Type} [DecidableEq K]{knd:KeyKind prog w K}{A:Around}{E:Ah}{s:Shared}
theorem jEU{l:Addr}{its:Al}{nl:Nat}{more:List (K×Value)}{Q:Ah}(hA:A.handled=none)(hl:s.heap.get? l=some {cls:=.type "list",data:=.seq its.toArray nl})(hsz:its.length<=sizeLine)
  (pa:Nat->Addr) (hit:∀i v,its[i]?=some v->v=Value.ref (pa i)) (hlen:more.length=its.length) (hp:∀j p,more[j]?=some p->jKY knd s.heap (pa j) p)
  (h:∀h' tk,h'.DictOf knd s.heap.objs.size (merged [] more)->(∀b u,s.heap.get? b=some u->h'.get? b=some u)->Q (.ref s.heap.objs.size) {s with heap:=h',toks:=tk}):
  wpAny (model prog w) A (call (.type "dict") [.ref l]) Q E s:=by
 refine callType_codes (Q₁:=λobj s₁=>obj=.ref s.heap.objs.size/\s₁= {s with heap:=s.heap.push {cls:=.type "dict",data:=.dict #[]}}) F.kt_called_dict (F.kt_typeCall_dict_1 _) F.entry_dict_init (kt_code_dict_new _ ⟨rfl,rfl⟩) ?_;rintro obj s₁ ⟨rfl,rfl⟩;have hnew:(s.heap.push {cls:=.type "dict",data:=.dict #[]}).DictOf knd s.heap.objs.size []:=jc s.heap;have hl1:(s.heap.push {cls:=.type "dict",data:=.dict #[]}).get? l=some {cls:=.type "list",data:=.seq its.toArray nl}:=ae _ hl;have hls:l<s.heap.objs.size:=aC hl;have hT:Shared.TypeIs {s with heap:=s.heap.push {cls:=.type "dict",data:=.dict #[]}} (.ref l) "list" :=⟨_,hl1,rfl⟩;refine⟨hnew.typeIs,F.args_dict_init_2 _ _,?_⟩;unfold Builtin.«dict.__init__»;refine ab ?_;unfold Builtin.Dict.selfAndRest;refine ab (wpAny_notOrdered_dict hnew.typeIs ?_);show wpAny _ _ (pure (s.heap.objs.size,[Value.ref l])) _ _ _;refine ah ?_;show wpAny _ _ (Builtin.Dict.updateFrom "dict.__init__" s.heap.objs.size (.ref l) [] .none) _ _ _;unfold Builtin.Dict.updateFrom;refine ab (eR hT ?_);rw[ax Ac];refine ab (jO8 jHE Ab Ab (by simpa using hA) hl1 λh2 tk2 k2=>?_);rw[ax (by rfl)];refine ab (cG (ab ?_));have hl2:h2.IsList l its.toArray:=⟨_,k2 _ _ hl1,rfl,nl,rfl⟩;refine db hl2 ?_;have z2:s.heap.objs.size<h2.objs.size:=by
  have:=aC (k2 _ _ (ao s.heap (o:= {cls:=.type "dict",data:=.dict #[]}) rfl));exact this
 have hlI:l≠h2.objs.size:=aO (dY hls z2);have hdI:s.heap.objs.size≠h2.objs.size:=aO z2;have hdl:s.heap.objs.size≠l:=cr hls;have hplt:∀i,i<its.length->pa i<s.heap.objs.size:=λi hi=>by
  obtain⟨key,m,e,_⟩:=hp i more[i] (by simp[hlen,hi]);exact aC e
 have keep:∀b u,s.heap.get? b=some u->(h2.push {cls:=.type "list_iterator",data:=.fields #[.ref l,.int 0 0]}).get? b=some u:=λb u e=>ae _ (k2 _ _ (ae _ e));refine ah ⟨eC jC4 _,upl (knd:=knd) ((i5 (by simp[hA]) _ l hlI its.toArray).toS) s.heap.objs.size ?_ more (by simp[hlen]) pa (λi hi=>?_) (λi v q=>hit i v (by simpa using q)) (by simpa using hsz) (its.toArray.size-0) 0 0 _ rfl (ba _) ⟨⟨_,ao _ rfl,rfl,rfl⟩,hl2.push _⟩ ?_ (λj p hj=>?_) λs' mv hD=>?_⟩
 .simp only[aA,aS,bX,iP];exact⟨hdI,hdl⟩
 .have:=hplt i (by simpa using hi);refine⟨aO this,?_⟩;simp only[aA,aS,bX];exact aO (dY this z2)
 .obtain⟨o,es,ep,ho,r⟩:=hnew;exact⟨o,es,ep,ae _ (k2 _ _ ho),r⟩
 .obtain⟨key,m,e,q⟩:=hp j p hj;exact⟨key,m,keep _ _ e,q⟩
 .obtain⟨h',g',d',tk',os'⟩:=s';have e1:g'=s.gens:=mv.gens;have e2:d'=s.drawn:=mv.drawn;have e3:os'=s.os:=mv.os;subst e1;subst e2;subst e3;refine⟨rfl,h h' tk' hD λb u e=>mv.heap b u ?_ (keep b u e)⟩;have hb:=aC e;simp only[aA,aS,bX,iP];exact⟨aO hb,aO (dY hb z2)⟩
end
def jNX{P:Program}{w:World}{h:Heap}:∀(kvs:List (Key×V)) (pa:Nat->Addr),(∀i k v,kvs[i]?=some (k,v)->∃key u m,h.get? (pa i)=some {cls:=.type "tuple",data:=.seq #[key,u] m} /\RelV (kV k) key/\RelV v u)->
  ∃more:List (Key×Value),KV kvs more/\∀j p,more[j]?=some p->jKY (y6 P w) h (pa j) p
 |[],_,_=>⟨[],.nil,λj p e=>by simp at e⟩
 | (k,v)::r,pa,hk=>by
  obtain⟨more,k1,k2⟩:=jNX (P:=P) (w:=w) r (λi=>pa (i+1)) λi k v e=>hk (i+1) k v (by simpa using e);obtain⟨key,u,m,e,r1,r2⟩:=hk 0 k v rfl;refine⟨(k,u)::more,.cons ⟨rfl,r2⟩ k1,λj p hj=>?_⟩;cases j with
  |zero=>
   simp at hj;subst hj;exact⟨key,m,e,kV_is r1⟩
  |succ j=>exact k2 j p (by simpa using hj)
theorem jLU(hc:X.calm=true):qA X (.type "dict") (λxs H Q=>∃(p:Addr) (vs:List V) (kvs:List (Key×V)),xs=[.ref p]/\H p=some (.lst vs)/\vs.length=kvs.length/\(∀(i:Nat) (k:Key) (v:V),kvs[i]?=some (k,v)->∃a:Addr,vs[i]?=some (V.ref a)/\H a=some (.tup [kV k,v]))/\(kvs.map (·.1)).Nodup/\∀l:Addr,H l=none->Q (.ref l) (upd H l (.dK kvs))):=by
 intro lw s σ H xs us Q I r h;obtain⟨p,vs,kvs,rfl,hq,hl,hkv,hnd,q⟩:=h;obtain⟨u,rfl,rx⟩:=r.one;cases rx;obtain⟨hz,its,nl,r',e0⟩:=I.hok p _ hq;have hli:=r'.length;obtain⟨more,k1,k2⟩:=jNX (P:=X.prog) (w:=X.w) (h:=s.heap) kvs (λi=>match vs[i]? with|some (.ref a)=>a|_=>0) λi k v e=>by
  obtain⟨a,e1,e2⟩:=hkv i k v e;obtain⟨_,it2,r2,m,e3⟩:=I.hok a _ e2;have l2:=r2.length;obtain⟨k',rest,rfl⟩:∃k' rest,it2=k'::rest:=by
   cases it2 with
   |nil=>simp at l2
   |cons a b=>exact⟨a,b,rfl⟩
  obtain⟨u',rest',rfl⟩:∃u' rest',rest=u'::rest':=by
   cases rest with
   |nil=>simp at l2
   |cons a b=>exact⟨a,b,rfl⟩
  obtain rfl:rest'=[]:=by
   cases rest' with
   |nil=>rfl
   |cons a b=>simp at l2
  rw[e1];cases r2 with
  |cons a1 a2=>
   cases a2 with
   |cons b1 b2=>exact⟨k',u',m,e3,a1,b1⟩
 have lm:more.length=kvs.length:=(fb k1).symm;refine jEU (knd:=y6 X.prog X.w) (I.ok.hd hc) e0 Aa (λi=>match vs[i]? with|some (.ref a)=>a|_=>0) (λi v hv=>?_) Aa k2 λh' tk hD kp=>?_
 .have hi:i<its.length:=(aj.mp hv).1;have hik:i<kvs.length:=Aa;obtain⟨a,e1,e2⟩:=hkv i kvs[i].1 kvs[i].2 (by simp[hik]);obtain⟨u,e3,e4⟩:=r'.get e1;rw[hv] at e3;cases e3;simp only[e1];exact e4
 .rw[merged_nil_of_nodup _ (by rw[<- KV.keys k1];exact hnd)] at hD;have hsz:(s.heap.objs.size==sysModules)=false:=by
   have:=I.big;exact bL.mpr (cr this)
  exact⟨.ref s.heap.objs.size,_,I.laid (t':=tk) (o:=.dK kvs) kp (ar _) ⟨Aa,hsz,more,k1,hD⟩,rfl,q _ I.fresh⟩
section
variable {K:W.Frag}
theorem gl_n(h:sc.names.lookup x=some .globalImplicit:=by decide+kernel):Gl1 (cxN P w K mg Aq N qual sc f cd cl A Ap s H) x:=⟨h⟩
theorem qB(h:sc.names.lookup x=some .local:=by decide+kernel):Vis1 (cxN P w K mg Aq N qual sc f cd cl A Ap s H) x:=⟨.inl h⟩
def jRT(h:sc.names.lookup x=some .free):Vis1 (cxN P w K mg Aq N qual sc f cd cl A Ap s H) x:=⟨.inr (.inr h)⟩
theorem loc_n(h:sc.names.lookup x=some .local:=by decide+kernel):Loc1 (cxN P w K mg Aq N qual sc f cd cl A Ap s H) x:=⟨.inl h,.inr h⟩
end
def jSI{x:Str}{args:Arguments}{body:List Stmt}{scope:Scope}{pos:Pos}{c0 T:Addr}{j:Nat}(hN:X.N.Nodup)(hj:X.N[j]?=some x)(lx:Loc1 X x)(hcode:X.env.code=.ref c0)(CH:PySem.W.CodeHd X.Aq c0 T)(hbm:qZ X.Aq X.mg)
  (hfree:∀y∈scope.names,y.2=.free->X.env.scope.names.lookup y.1=some .cell\/X.env.scope.names.lookup y.1=some .free) (hdf:defaultsOf args X.env=([],[])) (han:annTrees args none X.env=[]):
  JS X (.FunctionDef x args body [] none [] scope none x pos) (tDef x (qualnameIn X.env x x) args body scope (jV X.env.cells scope.names []) T pos j):=⟨jW6 hN hj lx.a hcode CH hbm hfree hdf han lx.b⟩
def iSeq(K:W.Frag)(te:TE):TI:=λσ H R=>iList K te σ H R\/iTup K te σ H R
def jXG{a:Expr}{ta:TE}(hl:JE X a ta):JI X tg a (iSeq X.K ta):=⟨λlw s σ H R I h=>by
 rcases h with h|h
 .exact(jAT hl).h lw s σ H R I h
 .exact(qO hl).h lw s σ H R I h⟩
def AtS(tp:Bool)(H:Hp)(a:Addr)(xs:List V):Prop:=match tp with
 |false=>H a=some (.lst xs)
 |true=>H a=some (.tup xs)
def AtS.sq{tp:Bool}{xs:List V}(h:AtS tp H a xs):Sq tp K H a xs:=by
 cases tp with
 |false=>exact SqL.of h
 |true=>exact SqT.of h
def AtS.or{tp:Bool}{xs:List V}(h:AtS tp H a xs):SqL K H a xs\/SqT K H a xs:=by
 cases tp with
 |false=>exact .inl (SqL.of h)
 |true=>exact .inr (SqT.of h)
def AtS.ob(tp:Bool)(xs:List V):HO:=match tp with
 |false=> .lst xs
 |true=> .tup xs
def AtS.is{tp:Bool}{H:Hp}{a:Addr}{xs:List V}:AtS tp H a xs↔H a=some (AtS.ob tp xs):=by cases tp<;>exact Iff.rfl
def AtS.ext{tp:Bool}{xs:List V}(h:AtS tp H a xs)(e:Ext H H'):AtS tp H' a xs:=AtS.is.mpr (e _ _ (AtS.is.mp h))
def jXH{i:Expr}{ty:TE}(hu:X.A.units+1<cLine)(hi:JE X i ty)(ho:JE X o td)(h1:behindInMarks .In o=false):JT X (.Compare i [.In] [o] pos) (tB (tDIn ty td)):=⟨jS7 (jWL hu hi.h ho.h) h1⟩
section
variable {K:W.Frag}{σ:St}
theorem jHO{a:Addr}{xs:List V}(hn:xs.length<sizeLine)(Pv:Addr->Nat->St->Hp->List V->Prop)(h0:∀D,H1 D=none->Pv D 0 (blkσ m σ) (upd H1 D (.lst [])) [])
  (hD:∀D i σ' H' zs,H1 D=none->Pv D i σ' H' zs->H' a=some (.lst xs)/\H' D=some (.lst zs)/\zs.length<=i)
  (hs:∀D i σ' H' zs x,H1 D=none->xs[i]?=some x->Pv D i σ' H' zs->g x σ' H' λσ2 H2=>tt σ2 H2 λb H3=>if b=true then te σ2 H3 λv H4=>H4 D=some (.lst zs)/\Pv D (i+1) σ2 (upd H4 D (.lst (zs++[v]))) (zs++[v]) else Pv D (i+1) σ2 H3 zs)
  (hd:∀D σ' H' zs,H1 D=none->Pv D xs.length σ' H' zs->Q (.ref D) H'):qX m g tt te σ Q (Itl K a) H1:=by
 intro D hDn;refine⟨λi k σ' H' zs=>k=xs.length-i/\i<=xs.length/\Pv D i σ' H' zs,⟨_,rfl,ba _,h0 D hDn⟩,?_⟩;rintro i k σ' H' zs ⟨rfl,hi,p⟩;obtain⟨s1,q1,q2⟩:=hD D i σ' H' zs hDn p;refine⟨q1,Aa,?_⟩;by_cases hlt:i<xs.length
 .refine .inr ⟨⟨xs,xs[i],SqL.of s1,by simp[hlt]⟩,Pv D (i+1),λσ2 H2 zs z=>⟨xs.length-(i+1),Aa,rfl,hlt,z⟩,λv H'' y=>?_⟩;obtain⟨e1,e2⟩:=y;subst e1;exact hs D i σ' _ zs v hDn (e2 xs (SqL.of s1)) p
 .have e:i=xs.length:=Aa;subst e;exact .inl ⟨⟨xs,SqL.of s1,ar _⟩,hd D σ' H' zs hDn p⟩
def jRJ{tp:Bool}{ta:TE}{a:Addr}{xs:List V}(ha:AtS tp H1 a xs)(hta:∀Q:VK,Q (.ref a) H1->ta σ H1 Q)(hn:xs.length<sizeLine)(Pv:Addr->Nat->St->Hp->List V->Prop)(h0:∀D,H1 D=none->Pv D 0 (blkσ m σ) (upd H1 D (.lst [])) [])
  (hD:∀D i σ' H' zs,H1 D=none->Pv D i σ' H' zs->AtS tp H' a xs/\H' D=some (.lst zs)/\zs.length<=i)
  (hs:∀D i σ' H' zs x,H1 D=none->xs[i]?=some x->Pv D i σ' H' zs->g x σ' H' λσ2 H2=>tt σ2 H2 λb H3=>if b=true then te σ2 H3 λv H4=>H4 D=some (.lst zs)/\Pv D (i+1) σ2 (upd H4 D (.lst (zs++[v]))) (zs++[v]) else Pv D (i+1) σ2 H3 zs)
  (hd:∀D σ' H' zs,H1 D=none->Pv D xs.length σ' H' zs->Q (.ref D) H'):iSeq K ta σ H1 (qX m g tt te σ Q):=by
 cases tp with
 |false=>exact .inl (hta _ ⟨a,rfl,⟨xs,SqL.of ha⟩,jHO hn Pv h0 hD hs hd⟩)
 |true=>exact .inr (hta _ ⟨a,rfl,⟨xs,SqT.of ha⟩,jBJ hn Pv h0 hD hs hd⟩)
end
def ExtT.of{T:Addr}{H H':Hp}(e:Ext H H'):ExtT T H H':=λb o h _=>e b o h
def ExtT.trans{H'':Hp}(a:ExtT T H H')(b:ExtT T H' H''):ExtT T H H'':=λc o h n=>b c o (a c o h n) n
def TabOk.is{H:Hp}{T:Addr}{pos:Pos}{q:Str}(t:TabOk H T pos q):∃ps,H T=some (.tbl ps):=by
 rcases t with h|⟨c,h,_⟩
 .exact⟨_,h⟩
 .exact⟨_,h⟩
def TabOk.ne(t:TabOk H T pos q){o:HO}(h:H b=some o)(ho:∀ps,o≠.tbl ps):b≠T:=λe=>by
 obtain⟨ps,z⟩:=t.is;rw[e,z] at h;cases h;exact ho ps rfl
def TabOk.ext(t:TabOk H T pos q)(e:Ext H H'):TabOk H' T pos q:=by
 rcases t with h|⟨c,h,h2⟩
 .exact .inl (e _ _ h)
 .exact .inr ⟨c,e _ _ h,e _ _ h2⟩
def ExtT.at{T:Addr}{H H':Hp}(e:ExtT T H H'){pos:Pos}{q:Str}(t:TabOk H T pos q){b:Addr}{o:HO}(h:H b=some o)(ho:∀ps,o≠.tbl ps:=by intro _ z;cases z):H' b=some o:=e b o h (t.ne h ho)
def ExtT.seq(e:ExtT T H H')(t:TabOk H T pos q){tp:Bool}{xs:List V}(h:AtS tp H b xs):AtS tp H' b xs:=by
 cases tp with
 |false=>exact e.at t (show H b=some (.lst xs) from h)
 |true=>exact e.at t (show H b=some (.tup xs) from h)
structure FunC (K:W.Frag)(x qual:Str)(st:Stmt)(f:Addr)(fd:FuncData)(c0:Addr):Prop where
 ex:∃(oc:Value) (od:Option Addr) (kV doc pm:Value) (an:Option Addr) (ct:Value) (osl:Array (Ao)),fd=PySem.W.fnOf x qual (jU st) (jB st) (j6 st) .none kV doc pm an (.ref c0) ct/\K.lookup f=some ⟨oc,od,.func fd,osl⟩/\PySem.W.codeIn K (.ref c0) qual=true
def FunC.ok{st:Stmt}{k:Nat}(F:FunC K x qual st f fd c0)(S:FnScope N ps (j6 st))(len:∀vs H Q E,sp vs H Q E->vs.length=ps.length)
  (hbody:∀(A:Around) (Ap:List Env) (s:Shared) (H:Hp) (vs:List V) (Q:VK) (E:XK),Room k (A.deeper (envOfC qual (j6 st) s.heap.objs.size f (.ref c0)))->sp vs H Q E->
   ∃t,PSs (cxOf CX0 P w K mg Aq N qual (j6 st) f (.ref c0) A Ap s H E).nox (jB st) t/\t {nx:=λ_ H'=>Q .non H',rt:=Q} (yH N vs) H):FnOk P w K mg Aq CX0 (k+1) f fd ps sp:=by
 obtain⟨oc,od,kV,doc,pm,an,ct,osl,rfl,lk,hcd⟩:=F.ex;refine fn_of lk hcd S len λA Ap s H vs Q E hr hsp=>?_;obtain⟨t,ht,hq⟩:=hbody A Ap s H vs Q E hr hsp;exact⟨t,ht.nox,hq⟩
variable {fp:List Addr}
section
variable {sc2:Scope}{cl2:Aj}{C2:Addr}{Nc2:Am}{fp2:List Addr}{s2:Shared}{H2:Hp}
end
def jBS{st:Stmt}:JS X st (λ_ _ _=>False):=⟨λ_ _ _ _ _ _ h=>h.elim⟩
section
variable {K:W.Frag}{σ:St}
abbrev TupsK(H H':Hp):Prop:=∀b xs,H b=some (.tup xs)->H' b=some (.tup xs)
structure ZOk (Z:Hp->List V->Nat->Prop):Prop where
 z0:∀H,Z H [] 0
 mono:∀H H' zs j,TupsK H H'->Z H zs j->Z H' zs j
 len:∀H zs j,Z H zs j->zs.length<=j
def jGN{D:Addr}(h:H D=some (.lst zs))(o:HO):TupsK H (upd H D o):=λb xs hb=>by
 rw[j8 (λe=>by rw[e,h] at hb;cases hb)];exact hb
def TurnZ(g:TG)(tt:TT)(te:TE)(σP:St->Prop)(Z:Hp->List V->Nat->Prop)(x:V)(j:Nat)(σ':St)(H':Hp)(zs:List V):Prop:=
 ∀(R:St->V->Hp->Prop) (S:St->Hp->Prop),(∀σ2 v H2,σP σ2->Ext H' H2->Z H2 (zs++[v]) (j+1)->R σ2 v H2)->(∀σ2 H2,σP σ2->Ext H' H2->Z H2 zs (j+1)->S σ2 H2)->
  g x σ' H' λσ2 H2=>tt σ2 H2 λb H3=>if b=true then te σ2 H3 (R σ2) else S σ2 H3
def jP3{tp:Bool}{a:Addr}{xs:List V}(σP:St->Prop)(Z:Hp->List V->Nat->Prop)(zo:ZOk Z)(ha:AtS tp H a xs)(hn:xs.length<sizeLine)(h0:σP (blkσ m σ))
  (step:∀j x σ' H' zs,xs[j]?=some x->σP σ'->Ext H H'->Z H' zs j->TurnZ g tt te σP Z x j σ' H' zs)
  (hd:∀D H' zs,H' D=some (.lst zs)->Ext H H'->H D=none->Z H' zs xs.length->Q (.ref D) H'):qX m g tt te σ Q (match tp with|false=>Itl K a|true=>Itt K a) H:=by
 have turn:∀D j σ' H' zs x,H D=none->xs[j]?=some x->(σP σ'/\Ext H H'/\H' D=some (.lst zs)/\H D=none/\Z H' zs j)->g x σ' H' λσ2 H2=>tt σ2 H2 λb H3=>if b=true then te σ2 H3 λv H4=>H4 D=some (.lst zs)/\(σP σ2/\Ext H (upd H4 D (.lst (zs++[v])))/\(upd H4 D (.lst (zs++[v]))) D=some (.lst (zs++[v]))/\H D=none/\Z (upd H4 D (.lst (zs++[v]))) (zs++[v]) (j+1)) else (σP σ2/\Ext H H3/\H3 D=some (.lst zs)/\H D=none/\Z H3 zs (j+1)):=by
  rintro D j σ' H' zs x hD hx ⟨p,e,h2,hn,hz⟩;exact step j x σ' H' zs hx p e hz _ _ (λσ2 v H2 p2 e2 z2=>⟨e2 _ _ h2,p2,(e.trans e2).updNew hn _,j7,hn,zo.mono _ _ _ _ (jGN (e2 _ _ h2) _) z2⟩) λσ2 H2 p2 e2 z2=>⟨p2,e.trans e2,e2 _ _ h2,hn,z2⟩
 cases tp with
 |false=>exact jHO (xs:=xs) hn (λD j σ' H' zs=>σP σ'/\Ext H H'/\H' D=some (.lst zs)/\H D=none/\Z H' zs j) (λD hD=>⟨h0,(Ext.refl _).new hD _,j7,hD,zo.z0 _⟩) (λD j σ' H' zs hD ⟨_,e,h2,_,hz⟩=>⟨e _ _ ha,h2,zo.len _ _ _ hz⟩) turn λD σ' H' zs hD ⟨_,e,h2,hn,hz⟩=>hd D H' zs h2 e hn hz
 |true=>exact jBJ (xs:=xs) hn (λD j σ' H' zs=>σP σ'/\Ext H H'/\H' D=some (.lst zs)/\H D=none/\Z H' zs j) (λD hD=>⟨h0,(Ext.refl _).new hD _,j7,hD,zo.z0 _⟩) (λD j σ' H' zs hD ⟨_,e,h2,_,hz⟩=>⟨e _ _ ha,h2,zo.len _ _ _ hz⟩) turn λD σ' H' zs hD ⟨_,e,h2,hn,hz⟩=>hd D H' zs h2 e hn hz
def jGC{a:Addr}{xs:List V}(σP:St->Prop)(Z:Hp->List V->Nat->Prop)(zo:ZOk Z)(ha:H a=some (.tup xs))(hn:xs.length<sizeLine)(h0:σP (blkσ m σ))
  (step:∀j x σ' H' zs,xs[j]?=some x->σP σ'->Ext H H'->Z H' zs j->TurnZ g tt te σP Z x j σ' H' zs)
  (hd:∀D H' zs,H' D=some (.lst zs)->Ext H H'->H D=none->Z H' zs xs.length->Q (.ref D) H'):qX m g tt te σ Q (Itt K a) H:=jP3 (tp:=true) σP Z zo ha hn h0 step hd
def jDS{a:Addr}{xs:List V}(σP:St->Prop)(Z:Hp->List V->Nat->Prop)(zo:ZOk Z)(ha:H a=some (.lst xs))(hn:xs.length<sizeLine)(h0:σP (blkσ m σ))
  (step:∀j x σ' H' zs,xs[j]?=some x->σP σ'->Ext H H'->Z H' zs j->TurnZ g tt te σP Z x j σ' H' zs)
  (hd:∀D H' zs,H' D=some (.lst zs)->Ext H H'->H D=none->Z H' zs xs.length->Q (.ref D) H'):qX m g tt te σ Q (Itl K a) H:=jP3 (tp:=false) σP Z zo ha hn h0 step hd
def jDR{n:Nat}(σP:St->Prop)(Z:Hp->List V->Nat->Prop)(zo:ZOk Z)(hn:n<sizeLine)(h0:σP (blkσ m σ))
  (step:∀j σ' H' zs,j<n->σP σ'->Ext H H'->Z H' zs j->TurnZ g tt te σP Z (.int (0+j)) j σ' H' zs)
  (hd:∀D H' zs,H' D=some (.lst zs)->Ext H H'->H D=none->Z H' zs n->Q (.ref D) H'):qX m g tt te σ Q (Itr 0 n) H:=by
 refine jBK (lo:=0) (n:=n) hn (λD j σ' H' zs=>σP σ'/\Ext H H'/\H' D=some (.lst zs)/\H D=none/\Z H' zs j) (λD hD=>⟨h0,(Ext.refl _).new hD _,j7,hD,zo.z0 _⟩) (λD j σ' H' zs hD hj ⟨_,e,h2,_,hz⟩=>⟨h2,zo.len _ _ _ hz⟩) ?_ λD σ' H' zs hD ⟨_,e,h2,hn,hz⟩=>hd D H' zs h2 e hn hz;rintro D j σ' H' zs hD hj ⟨p,e,h2,hn,hz⟩;exact step j σ' H' zs hj p e hz _ _ (λσ2 v H2 p2 e2 z2=>⟨e2 _ _ h2,p2,(e.trans e2).updNew hn _,j7,hn,zo.mono _ _ _ _ (jGN (e2 _ _ h2) _) z2⟩) λσ2 H2 p2 e2 z2=>⟨p2,e.trans e2,e2 _ _ h2,hn,z2⟩
end
def outZ(l:List α)(p:α->Bool)(f:α->V):Hp->List V->Nat->Prop:=λ_ zs j=>zs=((l.take j).filter p).map f
def outZ.ok(l:List α)(p:α->Bool)(f:α->V):ZOk (outZ l p f):=⟨λ_=>rfl,λ_ _ _ _ _ h=>h,λ_ zs j h=>by
 rw[show zs=_ from h,af];exact bA (bB _ _) (bM _ _)⟩
def outZ.yes{α:Type}{l:List α}{p:α->Bool}{f:α->V}{H H':Hp}{zs:List V}{j:Nat}{x:α}(h:outZ l p f H zs j)(hx:l[j]?=some x)(hp:p x=true):outZ l p f H' (zs++[f x]) (j+1):=by
 show _=_;rw[bf,hx,bS,aU,<- show zs=_ from h];simp[hp]
def outZ.no{l:List α}{p:α->Bool}{f:α->V}{x:α}(h:outZ l p f H zs j)(hx:l[j]?=some x)(hp:p x=false):outZ l p f H' zs (j+1):=by
 show _=_;rw[bf,hx,bS,aU,<- show zs=_ from h];simp[hp]
def outZ.all{l:List α}{p:α->Bool}{f:α->V}{n:Nat}(h:outZ l p f H zs n)(hn:l.length<=n):zs=(l.filter p).map f:=by
 rw[show zs=_ from h,bx hn]
def mapZ(l:List α)(f:α->V):Hp->List V->Nat->Prop:=λ_ zs j=>zs=(l.take j).map f
def mapZ.ok(l:List α)(f:α->V):ZOk (mapZ l f):=⟨λ_=>rfl,λ_ _ _ _ _ h=>h,λ_ zs j h=>by
 rw[show zs=_ from h,af];exact bM _ _⟩
def mapZ.yes{α:Type}{l:List α}{f:α->V}{H H':Hp}{zs:List V}{j:Nat}{x:α}(h:mapZ l f H zs j)(hx:l[j]?=some x):mapZ l f H' (zs++[f x]) (j+1):=by
 show _=_;rw[bf,hx,aU,<- show zs=_ from h];rfl
def mapZ.all{l:List α}{f:α->V}{n:Nat}(h:mapZ l f H zs n)(hn:l.length<=n):zs=l.map f:=by
 rw[show zs=_ from h,bx hn]
def jUO{X:Cx}{e:Expr}{te:TE}{x:Str}{pos:Pos}{i:Nat}{pos':Pos}(hN:X.N.Nodup)(hi:X.N[i]?=some x)(hx:Loc1 X x)(he:JE X e te)(hs:swapsWith e (some (.Name x pos')) pos.line X.env=pure false):JS X (.Assign [.Name x pos'] e pos) (tAsg te (kT i)):=⟨qN hN hi hx.a he.h hs hx.b⟩
section
variable {st:Stmt}{sts:List Stmt}{t:TS}
end
end L2
namespace L2
open PySem
end L2
namespace L2
open PySem PySem.Spec PyProof.Rows
variable {Z:Shared->Hp->Prop}{f:Addr}{scope:Scope}{fd:FuncData}{P:Program}{sp:Sp}{ps:Am}{args:Arguments}{K:W.Frag}{Aq:Heap}
section
variable {m:List (Option Nat)}{g:TG}{tt:TT}{te:TE}{σ:St}{H1:Hp}{Q:VK}
end
open PySem.AutoSeq1 (wpAny_loadPart')
variable {w:World}{s:Shared}
section
variable {prog:Program}{A:Around}{E:Ah}
end
variable {X:Cx}
section
variable {sc:Scope}{cl:Aj}{C:Addr}{Nc:Am}{fp:List Addr}{H:Hp}
end
structure FnZ (P:Program)(w:World)(K:W.Frag)(mg:Ak)(Aq:Heap)(CX:CXT)(Z:Shared->Hp->Prop)(k:Nat)(f:Addr)(fd:FuncData)(ps:Am)(sp:Sp):Prop where
 len:∀vs H Q E,sp vs H Q E->vs.length=ps.length
 run:∀(A:Around) (Ap:List Env) (s:Shared) (H:Hp) (args:Args) (us:Al) (vs:List V) (Q:VK) (E:XK),Room k A->Env0 P w K mg Aq A Ap s H->BindsTo s fd args (ps.zip us)->Vals vs us->Z s H->sp vs H Q E->
  codeAny (model P w) A (.call (.ref f) args) (CR CX Ap P w H s Q E) s
def jSM{CX:CXT}{mg:Ak}{k:Nat}{name qual:Str}{params:Arguments}{body:List Stmt}{dV kV doc pm cdv ct oc:Value}{an od:Option Addr}
  {osl:Array (Ao)}{N:Am}(lk:K.lookup f=some ⟨oc,od,.func (PySem.W.fnOf name qual params body scope dV kV doc pm an cdv ct),osl⟩) (hcd:PySem.W.codeIn K cdv qual=true) (S:FnScope N ps scope)
  (len:∀vs H Q E,sp vs H Q E->vs.length=ps.length)
  (hbody:∀(A:Around) (Ap:List Env) (s:Shared) (H:Hp) (vs:List V) (Q:VK) (E:XK),Room k (A.deeper (envOfC qual scope s.heap.objs.size f cdv))->Z s H->sp vs H Q E->
   ∃t,PSs (cxOf CX P w K mg Aq N qual scope f cdv A Ap s H E) body t/\t {nx:=λ_ H'=>Q .non H',rt:=Q} (yH N vs) H):
  FnZ P w K mg Aq CX Z (k+1) f (PySem.W.fnOf name qual params body scope dV kV doc pm an cdv ct) ps sp:=by
 refine⟨len,λA Ap s H args us vs Q E hr e0 hb r hz hsp=>?_⟩;have hl:=len _ _ _ _ hsp;have KX:K.In s.heap:=e0.mod.kin.keeps λb o e=>(e0.bs b o e).1;have lim:s.heap.NoLimit:=e0.mod.nolimit.keeps λb o e=>(e0.bs b o e).1;have hkind:∀y∈ps.zip us,scope.names.lookup y.1=some .local\/(scope.names.lookup y.1=some .cell/\((cellsFrom (s.heap.objs.size+1) scope.names []).lookup y.1).isSome=true):=λ⟨n,v⟩ hy=>by
  rcases S.par n (di hy).1 with q|q
  .exact .inl q
  .exact .inr ⟨q,fw _ _ _ (.inl q)⟩
 refine codeAny_call_function hr.depth (KX _ _ lk) rfl S.co S.gen rfl (ko KX hcd) (hb _ _ _ _ ?_);refine h9 S.kind hkind λenv he s1 x=>?_;subst he;refine⟨lim.keeps x.toInCall.keep,codeAny_func ?_⟩;obtain⟨t,ht,hq⟩:=hbody A Ap s H vs Q E (hr.deeper _) hz hsp;have I:Inv (cxOf CX P w K mg Aq N qual scope f cdv A Ap s H E) [] (yH N vs) H s1:=jHL S hr.hd e0 hl r x;refine cb (ht [] s1 (yH N vs) H _ I hq) (λfl s' hs=>?_) λe s' hs=>hs;have fin:∀{σ':St}{H':Hp}{v:V}{u:Value},Inv (cxOf CX P w K mg Aq N qual scope f cdv A Ap s H E) [] σ' H' s'->RelV v u->Q v H'->CE Ap P w H s Q u s':=
  λ{σ' H' v u} J rv q=>⟨v,H',J.os,J.bare,J.Aq,J.hok,rv,q⟩
 cases fl with
 |ret u=>
  obtain⟨v,σ',H',J,rv,q⟩:=hs;exact fin J rv q
 |next=>
  obtain⟨σ',H',J,q⟩:=hs;exact fin (v:=V.non) (u:=Value.none) J rfl q
 |brk=>
  obtain⟨_,_,_,q⟩:=hs;exact False.elim q
 |cont=>
  obtain⟨_,_,_,q⟩:=hs;exact False.elim q
def ZSt(Z:Shared->Hp->Prop):Prop:=∀(fs:List Addr) (s s':Shared) (H H':Hp),Un fs [] H H' s.heap s'.heap->Z s H->Z s' H'
abbrev ZT:Shared->Hp->Prop:=λ_ _=>True
def ZT.st:ZSt ZT:=λ_ _ _ _ _ _ _=>trivial
def FnZ.ok{mg:Ak}{CX:CXT}{k:Nat}(F:FnZ P w K mg Aq CX ZT k f fd ps sp):FnOk P w K mg Aq CX k f fd ps sp:=
 ⟨F.len,λA Ap s H args us vs Q E hr he hb hv hs=>F.run A Ap s H args us vs Q E hr he hb hv trivial hs⟩
section
variable {P:Program}{K:W.Frag}{mg:Ak}{Aq:Heap}
def Fun.okZ{x qual:Str}{st:Stmt}{N:Am}{k:Nat}(F:Fun K x qual st f fd)(S:FnScope N ps (j6 st))(len:∀vs H Q E,sp vs H Q E->vs.length=ps.length)
  (hbody:∀(cdv:Value) (A:Around) (Ap:List Env) (s:Shared) (H:Hp) (vs:List V) (Q:VK) (E:XK),Room k (A.deeper (envOfC qual (j6 st) s.heap.objs.size f cdv))->Z s H->sp vs H Q E->
   ∃t,PSs (cxOf CX0 P w K mg Aq N qual (j6 st) f cdv A Ap s H E).nox (jB st) t/\t {nx:=λ_ H'=>Q .non H',rt:=Q} (yH N vs) H):FnZ P w K mg Aq CX0 Z (k+1) f fd ps sp:=by
 obtain⟨_,_,_,_,_,_,cdv,_,_,rfl,lk,hcd⟩:=F.ex;refine jSM lk hcd S len λA Ap s H vs Q E hr hz hsp=>?_;obtain⟨t,h,q⟩:=hbody cdv A Ap s H vs Q E hr hz hsp;exact⟨t,h.nox,q⟩
end
structure Callee (P:Program)(w:World)(K:W.Frag)(mg:Ak)(Aq:Heap)(Z:Shared->Hp->Prop)(zh:Hp->Prop)(k:Nat)(a:Addr)(sp:Sp):Prop where
 fn:∀(A:Around) (Ap:List Env) (s:Shared) (H:Hp),Env0 P w K mg Aq A Ap s H->zh H->PySem.W.FnAt a s.heap
 run:∀(A:Around) (Ap:List Env) (s:Shared) (H:Hp) (us:Al) (vs:List V) (Q:VK) (E:XK),Room k A->Env0 P w K mg Aq A Ap s H->Z s H->zh H->Vals vs us->sp vs H Q E->codeAny (model P w) A (.call (.ref a) ⟨us,[]⟩) (CR CX0 Ap P w H s Q E) s
def jVS(a:Addr)(zh:Hp->Prop)(sp:Sp)(j:Nat)(t:TA):TE:=λσ H Q=>σ[j]?=some (some (.ref a))/\t σ H λvs H1=>zh H1/\sp vs H1 Q E0
section
variable {Z:Shared->Hp->Prop}{zh:Hp->Prop}{k:Nat}{a:Addr}{sp:Sp}{x:Str}{p pos:Pos}{e:Expr}{es:List Expr}{t:TA}{j:Nat}
theorem jKN(F:Callee X.prog X.w X.K X.mg X.Aq Z zh k a sp)(hr:Room k X.A)(st:ZSt Z)(hz:Z X.s₀ X.H₀)(hex:X.ex=[])(hN:X.N[j]?=some x)(hv:Vis1 X x)
  (ha:JA X (e::es) t) (he:starEach (e::es) X.env=(false,eval e X.env)::starEach es X.env) (hdb:(x==("__debug__":Str))=false:=by decide) (hcd:(x==("__classdict__":Str))=false:=by decide) (hpl:(backTo pos (starEach es X.env)).any (·.1)=false:=by rfl):
  JE X (.Call (.Name x p) (e::es) [] pos) (jVS a zh sp j t):=by
 refine⟨λlw s σ H Q I h=>?_⟩;obtain⟨hj,h⟩:=h;refine cx (lz (jH4 (pos:=p) hN hv.a hdb hcd lw s σ H (λv H'=>v=.ref a/\H'=H) I (gV.of hj ⟨rfl,rfl⟩)) λv s1 ⟨v',H1,I1,r1,q1,q2⟩=>?_);subst q1 q2;cases (show v=Value.ref a from r1);have hX:=lz (ha.h pos lw s1 σ H1 _ I1 h) λus s2 (z:AP X lw σ _ us s2)=>show PySem.W.FnAt a s2.heap/\wpAny (model X.prog X.w) X.A (call (.ref a) ([]++us)) (EP X lw σ Q) X.xe s2 from by
  obtain⟨vs,H2,I2,r,h1,h2⟩:=z;have un:=I2.Aq;rw[hex] at un;refine⟨F.fn _ _ _ _ I2.env0 h1,gl (cW (F.run X.A X.stack s2 H2 us vs Q E0 hr I2.env0 (st _ _ _ _ _ un hz) h1 r h2) λr s' hq=>?_)⟩;cases r with
  |error e=>exact hq.elim
  |ok fl=>
   cases fl with
   |ret u=>exact I2.after hq
   |next=>exact False.elim hq
   |brk=>exact False.elim hq
   |cont=>exact False.elim hq
 rw[he] at hX ⊢;exact gW (by show ((false || (backTo pos (starEach es X.env)).any (·.1)) ||false)=false;rw[hpl];rfl) jd (eL hX)
end
def nlP(q:Str)(args:Arguments)(body:Expr)(scope:Scope)(cl:Aj)(a c:Addr):Heap->Prop:=λh=>∃pm ctv,h.get? a=some (kla_obj "<lambda>" q args body scope cl pm c ctv)
def nlP.stay{q:Str}{body:Expr}{cl:Aj}{a c:Addr}(h1 h2:Heap)(p:nlP q args body scope cl a c h1)(k:∀o,h1.get? a=some o->h2.get? a=some o):nlP q args body scope cl a c h2:=by
 obtain⟨m,t,e⟩:=p;exact⟨m,t,k _ e⟩
def tLam(q:Str)(args:Arguments)(body:Expr)(scope:Scope)(cl:Aj)(T:Addr)(pos:Pos):TE:=λ_ H Q=>TabOk H T pos q/\∀a c H',H' a=some (.ext (nlP q args body scope cl a c))->H' c=some (.ext (ncP q c))->H' T=some (.tbl (onePs pos c))->ExtT T H H'->H a=none->Q (.ref a) H'
def jOF{body:Expr}{pos:Pos}{c0 T:Addr}(hcode:X.env.code=.ref c0)(CH:PySem.W.CodeHd X.Aq c0 T)(hbm:qZ X.Aq X.mg)
  (hfree:∀y∈scope.names,y.2=.free->X.env.scope.names.lookup y.1=some .cell\/X.env.scope.names.lookup y.1=some .free) (hdf:defaultsOf args X.env=([],[])):
  JE X (.Lambda args body scope pos) (tLam (X.env.qual++ "<lambda>") args body scope (jV X.env.cells scope.names []) T pos):=by
 refine⟨λlw s σ H Q I h=>?_⟩;obtain⟨tab,h⟩:=h;refine PySem.W.kla_eval hdf ?_;have hcl:closureFor scope X.env=pure (jV X.env.cells scope.names []):=jJG λy hy hz=>I.ok.has y.1 (hfree y hy hz);have hg:s.heap.Ns mainGlobals X.mg:=I.mod.glob.keeps I.bk;have C:=CH.keeps I.bk;have gT:∀{ps:An},H T=some (.tbl ps)->mainGlobals≠T:=λhT z=>by
  obtain⟨o,es,ep,e,_⟩:=I.mod.glob;have:=(I.bs _ _ e).2;rw[z,hT] at this;cases this
 have bT:∀{ps:An},H T=some (.tbl ps)->s.heap.BuiltinsAt X.mg T:=λhT=>by
  obtain⟨bm,o,h1,h2,h3,h4,h5,h6,h7⟩:=hbm;refine⟨bm,o,h1,h2,h3,λz=>?_,(I.bs _ _ h4).1,h5,h6,h7⟩;have:=(I.bs _ _ h4).2;rw[z,hT] at this;cases this
 rcases tab with hT|⟨c,hT,hc⟩
 .refine PySem.W.kla_makeFunction hcl I.ok.glob hg hcode C (I.hok T _ hT) trivial rfl (gT hT) (bT hT) λc ctv h' tk k1 k2 k3 k4 k5=>?_;obtain⟨oc,hoc⟩:=ncP.is (q:=X.env.qual++ "<lambda>") k4;have I1:Inv X lw σ (upd (upd H T (.tbl (#[]++onePs pos c))) c (.ext (ncP (X.env.qual++ "<lambda>") c))) {s with heap:=h',toks:=tk}:=I.grown hT k1 k5 k2 k4 ⟨oc,hoc⟩ ncP.stay;have I2:=I1.laidX (t':=tk) (a:=h'.objs.size) (φ:=nlP (X.env.qual++ "<lambda>") args body scope (jV X.env.cells scope.names []) h'.objs.size c) (h':=h'.push (kla_obj "<lambda>" (X.env.qual++ "<lambda>") args body scope (jV X.env.cells scope.names []) ((X.mg "__name__").getD .none) c ctv)) (λb u q=>ae _ q) (ar _) ⟨_,ctv,ao _ rfl⟩ ⟨_,ao _ rfl⟩ nlP.stay;have hcn:H c=none:=I.hok.fresh k2;have han:H h'.objs.size=none:=I.hok.fresh (bA k2 (cV k3));have ca:c≠h'.objs.size:=aO k3;have Tc:T≠c:=λz=>by rw[z,hcn] at hT;cases hT
  have Ta:T≠h'.objs.size:=λz=>by rw[z,han] at hT;cases hT
  refine⟨.ref _,_,I2,rfl,h _ c _ j7 (by rw[j8 ca,j7]) (by rw[j8 Ta,j8 Tc,j7,kx]) (λb o e n=>?_) han⟩;rw[j8 (jA e han),j8 (jA e hcn),j8 n];exact e
 .refine PySem.W.kla_makeFunctionHit (cv:=.ref c) hcl I.ok.glob hg hcode C (I.hok T _ hT) (by exact trivial) (by simp[codeAmong,rawInt]) (bT hT) λctv h' tk k1 k2=>?_;have I2:=I.laidX (t':=tk) (a:=h'.objs.size) (φ:=nlP (X.env.qual++ "<lambda>") args body scope (jV X.env.cells scope.names []) h'.objs.size c) (h':=h'.push (kla_obj "<lambda>" (X.env.qual++ "<lambda>") args body scope (jV X.env.cells scope.names []) ((X.mg "__name__").getD .none) c ctv)) (λb u q=>ae _ (k1 b u q)) k2 ⟨_,ctv,ao _ rfl⟩ ⟨_,ao _ rfl⟩ nlP.stay;have han:H h'.objs.size=none:=I.hok.fresh k2;refine⟨.ref _,_,I2,rfl,h _ c _ j7 (by rw[j8 (jA hc han)];exact hc) (by rw[j8 (jA hT han)];exact hT) (λb o e n=>?_) han⟩;rw[j8 (jA e han)];exact e
def jOS{P:Program}{w:World}{K:W.Frag}{mg:Ak}{Aq:Heap}{k:Nat}{q:Str}{args:Arguments}{body:Expr}{scope:Scope}{N ps fs:Am}{sp:Sp}{cl:Aj}{fv:List V}{a c:Addr}(S:NScope N ps fs scope)(len:∀vs H Q E,sp vs H Q E->vs.length=ps.length)
  (hb:∀pm ctv (us:Al),us.length=ps.length->bindArgs (PySem.W.kla_fn "<lambda>" q args body scope cl pm (.ref c) ctv) ⟨us,[]⟩=pure (ps.zip us))
  (hbody:∀(A:Around) (Ap:List Env) (s:Shared) (H:Hp) (vs:List V) (Q:VK) (E:XK),Room k (A.deeper (envX q scope s.heap.objs.size a (.ref c) cl))->sp vs H Q E->
   ∃t,PE (cxN P w K mg Aq N q scope a (.ref c) cl A Ap s H) body t/\t (jBN N vs fv) H Q):
  Callee P w K mg Aq (λs H=>ClOk cl s H/\FvOk fs fv cl s) (λH=>H a=some (.ext (nlP q args body scope cl a c))/\H c=some (.ext (ncP q c))) (k+1) a sp:=by
 refine⟨λA Ap s H e z=>?_,λA Ap s H us vs Q E hr e0 hz zh r hsp=>?_⟩
 .obtain⟨⟨m,t,g⟩,_,_⟩:=(show ObjOk P w H s.heap a (.ext _) from e.hok a _ z.1);exact⟨_,_,_,_,g⟩
 obtain⟨C,Fv⟩:=hz;obtain⟨⟨pm,ctv,ho⟩,_,_⟩:=(show ObjOk P w H s.heap a (.ext _) from e0.hok a _ zh.1);obtain⟨hc,_,_⟩:=(show ObjOk P w H s.heap c (.ext _) from e0.hok c _ zh.2);have hl:us.length=ps.length:=r.length.symm.trans (len _ _ _ _ hsp);have lim:s.heap.NoLimit:=e0.mod.nolimit.keeps λb o e=>(e0.bs b o e).1;refine PySem.W.kla_callFunE hr.depth ho rfl S.co S.gen rfl hc ?_;rw[hb pm ctv us hl];refine ah (wpAny_newFunctionEnv S.nocell (λy hy=>S.par y.1 (di hy).1) (λh₁ hns hsb=>⟨lim.fresh _ hsb,?_⟩) S.kind);show codeAny _ _ (.expr body (envX q scope s.heap.objs.size a (.ref c) cl)) _ _;have hk:∀b o,s.heap.get? b=some o->h₁.get? b=some o:=λb o e=>hsb.extBut b o (aO (aC e)) (ae _ e);obtain⟨t,ht,hq⟩:=hbody A Ap s H vs Q E (hr.deeper _) hsp;have I:Inv (cxN P w K mg Aq N q scope a (.ref c) cl A Ap s H) [] (jBN N vs fv) H {s with heap:=h₁,toks:=s.toks+(ps.zip us).length}:=jF9 S hr.hd e0 hl r C Fv hns hk;refine PySem.W.kla_codeExpr (cb (ht [] _ (jBN N vs fv) H _ I hq) (λu s' hs=>?_) λe s' hs=>False.elim hs);obtain⟨v,H',J,rv,q⟩:=hs;exact⟨v,H',J.os,J.bare,J.Aq,J.hok,rv,q⟩
end L2
namespace TM
open PySem PyProof.Rows
variable {xs ys a₀:Array Keyed}{Q:Option Nat->SortSt->Prop}{l b a o tot v u m xb xa:List Keyed}{p y x q:Keyed}{n i ib ia hint:Nat}{st':SortSt}
class Od where
 kd:SortKind
 ky:Keyed->Int
 is:Keyed->Prop
abbrev key [Od]:Keyed->Int:=Od.ky
abbrev IsI [Od]:Keyed->Prop:=Od.is
class LtOk (prog:Program) (w:World) (A:Around) (s:Shared) [Od]:Prop where
 lt:∀{E:Ah}{st:SortSt}{x y:Keyed}{Q:Option Bool->SortSt->Prop},kindOf st=Od.kd->IsI x->IsI y->Q (some (decide (key x<key y))) st->wpS (model prog w) A E s (lt' x y) Q st
variable [Od]
abbrev AllI(l:List Keyed):Prop:=∀p∈l,IsI p
abbrev LE(x y:Keyed):Prop:=key x<=key y
def jC1:Bool->Keyed->Array Keyed->Nat->Nat->Nat->StateT SortSt Sem (Option Nat):=sortPriv% PySem.Builtin.gallop
def gallopB: {g:Bool->Keyed->Array Keyed->Nat->Nat->Nat->StateT SortSt Sem (Option Nat) // jC1=g}:=⟨λ_ _ _ _ _ _=>bind _ _,rfl⟩
def elP:(sortPriv% PySem.Builtin.elem)=elem':=rfl
def ltP:(sortPriv% PySem.Builtin.lt)=lt':=rfl
def ltAtP:(sortPriv% PySem.Builtin.ltAt)=ltAt':=rfl
def jJ9:(sortPriv% PySem.Builtin.gallop)=jC1:=rfl
section
variable {prog:Program}{w:World}{A:Around}{E:Ah}{s:Shared}
theorem jGH [LtOk prog w A s]{st:SortSt}{Q:Option Bool->SortSt->Prop}(hk:kindOf st=Od.kd)(hx:IsI x)(hy:IsI y)(h:Q (some (decide (key x<key y))) st):wpS (model prog w) A E s (lt' x y) Q st:=LtOk.lt hk hx hy h
def kB{st:SortSt}{arr:Array Keyed}{Q:Keyed->SortSt->Prop}(hi:arr[i]?=some p)(h:Q p st):wpS (model prog w) A E s (elem' arr i) Q st:=by
 rw[elem'_eq,hi];exact aL h
end
section
variable {prog:Program}{w:World}{A:Around}{E:Ah}{s:Shared} [LtOk prog w A s]
theorem jB9{left:Bool}{ky:Keyed}{arr:Array Keyed}{Aq:Nat}{st:SortSt}(hk:kindOf st=Od.kd)(hky:IsI ky)(hI:∀i,i<n->∃p,arr[Aq+i]?=some p/\IsI p)(hh:hint<n)(B:Nat->Bool)
  (hB:∀i p,i<n->arr[Aq+i]?=some p->B i=(if left=true then decide (key p<key ky) else !decide (key ky<key p))) (mono:∀i j,i<=j->j<n->B j=true->B i=true)
  (h:∀k,k<=n->(∀i,i<k->B i=true)->(∀i,k<=i->i<n->B i=false)->Q (some k) st):wpS (model prog w) A E s (jC1 left ky arr Aq n hint) Q st:=by
 rw[gallopB.2]
 delta gallopB
 dsimp only;simp only[elP,ltP];have bey:∀i (R:Option Bool->SortSt->Prop),i<n->R (some (B i)) st->wpS (model prog w) A E s (do
   let x <- elem' arr (Aq+i)
   if left=true then lt' x ky else do
    let r <- lt' ky x
    pure (r.map (!·))) R st:=λi R hi hR=>by
  obtain⟨p,hp,ip⟩:=hI i hi;refine aG (kB hp ?_);have e:=hB i p hi hp;cases left with
  |true=>
   rw[ax rfl] at e ⊢;rw[e] at hR;exact jGH hk ip hky hR
  |false=>
   rw[aq am] at e ⊢;rw[e] at hR;exact aG (jGH hk hky ip (aL hR))
 have down:∀i j,i<=j->j<n->B i=false->B j=false:=λi j hij hj hi=>by
  cases hb:B j with
  |false=>rfl
  |true=>rw[mono i j hij hj hb] at hi;cases hi
 refine aG (bey hint _ hh ?_);dsimp only;cases hb:B hint with
 |true=>
  rw[ax rfl];refine aG (cY (b9 (I:=λx c st'=>st'=st/\∃l o,c=(none,l,o)/\l<o/\x+1<=o/\hint+l<n/\B (hint+l)=true)
   (Q:=λc st'=>st'=st/\∃l o,c=(none,l,o)/\l<o/\hint+l<n/\B (hint+l)=true/\(n-hint<=o\/(hint+o<n/\B (hint+o)=false))) ?step ?fin ⟨rfl,0,1,rfl,Aa,Aa,Aa,by rw[lu];exact hb⟩) ?post)
  case post=>
   rintro c st' ⟨rfl,l,o,rfl,a1,a2,a3,a4⟩;dsimp only;have p3:∀i,i<hint+l+1->B i=true:=λi hi=>mono i (hint+l) Aa a2 a3;have p4:∀i,hint+min o (n-hint)<=i->i<n->B i=false:=λi h1 h2=>by
    rcases a4 with a4|⟨a4,a5⟩
    .lia
    .exact down (hint+o) i Aa h2 a5
   refine aG (cY (b9 (I:=λx c st''=>st''=st'/\∃lo hi,c=(none,lo,hi)/\lo<=hi/\hi<=n/\hi-lo<=n-x/\(∀i,i<lo->B i=true)/\(∀i,hi<=i->i<n->B i=false))
    (Q:=λc st''=>st''=st'/\∃k,c=(none,k,k)/\k<=n/\(∀i,i<k->B i=true)/\(∀i,k<=i->i<n->B i=false)) ?step2 ?fin2 ⟨rfl,hint+l+1,hint+min o (n-hint),rfl,Aa,Aa,Aa,p3,p4⟩) ?post2)
   case post2=>
    rintro c st'' ⟨rfl,k,rfl,k1,k2,k3⟩;exact aL (h k k1 k2 k3)
   case fin2=>
    rintro c st'' ⟨rfl,lo,hi,rfl,a1,a2,a3,a4,a5⟩;have:lo=hi:=Aa;subst this;exact⟨rfl,lo,rfl,a2,a4,a5⟩
   case step2=>
    rintro x c st'' _ hx ⟨rfl,lo,hi,rfl,a1,a2,a3,a4,a5⟩;dsimp only;by_cases hge:lo ≥ hi
    .rw[ax hge];have:lo=hi:=Aa;subst this;exact aL ⟨rfl,lo,rfl,a2,a4,a5⟩
    .rw[aq hge];refine aG (bey _ _ Aa ?_);dsimp only;cases hb:B (lo+(hi-lo)/2) with
     |true=>
      rw[ax rfl];exact aL ⟨rfl,lo+(hi-lo)/2+1,hi,rfl,Aa,a2,Aa,λi hi'=>mono i _ Aa Aa hb,a5⟩
     |false=>
      rw[aq am];exact aL ⟨rfl,lo,lo+(hi-lo)/2,rfl,Aa,Aa,Aa,a4,λi h1 h2=>down _ i h1 h2 hb⟩
  case fin=>
   rintro c st' ⟨rfl,l,o,rfl,a1,a2,a3,a4⟩;exact⟨rfl,l,o,rfl,a1,a3,a4,.inl Aa⟩
  case step=>
   rintro x c st' _ hx ⟨rfl,l,o,rfl,a1,a2,a3,a4⟩;dsimp only;by_cases hge:o ≥ n-hint
   .rw[ax hge];exact aL ⟨rfl,l,o,rfl,a1,a3,a4,.inl hge⟩
   .rw[aq hge];refine aG (bey _ _ Aa ?_);dsimp only;cases hb2:B (hint+o) with
    |true=>
     rw[aq Ac];exact aL ⟨rfl,o,2*o+1,rfl,Aa,Aa,Aa,hb2⟩
    |false=>
     rw[ax Ac];exact aL ⟨rfl,l,o,rfl,a1,a3,a4,.inr ⟨Aa,hb2⟩⟩
 |false=>
  rw[aq am];refine aG (cY (b9 (I:=λx c st'=>st'=st/\∃l o,c=(none,l,o)/\l<o/\x+1<=o/\l<=hint/\B (hint-l)=false)
   (Q:=λc st'=>st'=st/\∃l o,c=(none,l,o)/\l<o/\l<=hint/\B (hint-l)=false/\(hint+1<=o\/(o<=hint/\B (hint-o)=true))) ?step ?fin ⟨rfl,0,1,rfl,Aa,Aa,Aa,by rw[i6];exact hb⟩) ?post)
  case post=>
   rintro c st' ⟨rfl,l,o,rfl,a1,a2,a3,a4⟩;dsimp only;have p3:∀i,i<hint+1-min o (hint+1)->B i=true:=λi hi=>by
    rcases a4 with a4|⟨a4,a5⟩
    .lia
    .exact mono i (hint-o) Aa Aa a5
   have p4:∀i,hint-l<=i->i<n->B i=false:=λi h1 h2=>down (hint-l) i Aa h2 a3;refine aG (cY (b9 (I:=λx c st''=>st''=st'/\∃lo hi,c=(none,lo,hi)/\lo<=hi/\hi<=n/\hi-lo<=n-x/\(∀i,i<lo->B i=true)/\(∀i,hi<=i->i<n->B i=false))
    (Q:=λc st''=>st''=st'/\∃k,c=(none,k,k)/\k<=n/\(∀i,i<k->B i=true)/\(∀i,k<=i->i<n->B i=false)) ?step2 ?fin2 ⟨rfl,hint+1-min o (hint+1),hint-l,rfl,Aa,Aa,Aa,p3,p4⟩) ?post2)
   case post2=>
    rintro c st'' ⟨rfl,k,rfl,k1,k2,k3⟩;exact aL (h k k1 k2 k3)
   case fin2=>
    rintro c st'' ⟨rfl,lo,hi,rfl,a1,a2,a3,a4,a5⟩;have:lo=hi:=Aa;subst this;exact⟨rfl,lo,rfl,a2,a4,a5⟩
   case step2=>
    rintro x c st'' _ hx ⟨rfl,lo,hi,rfl,a1,a2,a3,a4,a5⟩;dsimp only;by_cases hge:lo ≥ hi
    .rw[ax hge];have:lo=hi:=Aa;subst this;exact aL ⟨rfl,lo,rfl,a2,a4,a5⟩
    .rw[aq hge];refine aG (bey _ _ Aa ?_);dsimp only;cases hb:B (lo+(hi-lo)/2) with
     |true=>
      rw[ax rfl];exact aL ⟨rfl,lo+(hi-lo)/2+1,hi,rfl,Aa,a2,Aa,λi hi'=>mono i _ Aa Aa hb,a5⟩
     |false=>
      rw[aq am];exact aL ⟨rfl,lo,lo+(hi-lo)/2,rfl,Aa,Aa,Aa,a4,λi h1 h2=>down _ i h1 h2 hb⟩
  case fin=>
   rintro c st' ⟨rfl,l,o,rfl,a1,a2,a3,a4⟩;exact⟨rfl,l,o,rfl,a1,a3,a4,.inl Aa⟩
  case step=>
   rintro x c st' _ hx ⟨rfl,l,o,rfl,a1,a2,a3,a4⟩;dsimp only;by_cases hge:o ≥ hint+1
   .rw[ax hge];exact aL ⟨rfl,l,o,rfl,a1,a3,a4,.inl hge⟩
   .rw[aq hge];refine aG (bey _ _ Aa ?_);dsimp only;cases hb2:B (hint-o) with
    |true=>
     rw[ax rfl];exact aL ⟨rfl,l,o,rfl,a1,a3,a4,.inr ⟨Aa,hb2⟩⟩
    |false=>
     rw[aq am];exact aL ⟨rfl,o,2*o+1,rfl,Aa,Aa,Aa,hb2⟩
end
abbrev jGX(st:SortSt)(g:Nat):SortSt:=SortSt.mk' (kindOf st) (arrOf st) (pendingOf st) g (failedOf st)
def jC7:Nat->StateT SortSt Sem Unit:=sortPriv% PySem.Builtin.setMinGallop
def jMU:(sortPriv% PySem.Builtin.setMinGallop)=jC7:=rfl
def jA2(g:Nat):jC7 g=modify λs=>jGX s g:=rfl
def jFY:Array Keyed->Array Keyed->StateT SortSt Sem (Array Keyed):=sortPriv% PySem.Builtin.mergeLo
def mergeLoB: {g:Array Keyed->Array Keyed->StateT SortSt Sem (Array Keyed) // jFY=g}:=⟨λ_ _=>bind _ _,rfl⟩
def jQQ:(sortPriv% PySem.Builtin.mergeLo)=jFY:=rfl
def jFZ:Array Keyed->Array Keyed->StateT SortSt Sem (Array Keyed):=sortPriv% PySem.Builtin.mergeHi
def mergeHiB: {g:Array Keyed->Array Keyed->StateT SortSt Sem (Array Keyed) // jFZ=g}:=⟨λ_ _=>bind _ _,rfl⟩
def jQR:(sortPriv% PySem.Builtin.mergeHi)=jFZ:=rfl
abbrev Srt(l:List Keyed):Prop:=l.Pairwise LE
structure ML (a b out:List Keyed)(ia ib:Nat):Prop where
 perm:(out++(a.drop ia++b.drop ib)).Perm (a++b)
 srt:Srt out
 le:∀x∈out,∀y∈a.drop ia++b.drop ib,LE x y
def Srt.drop(h:Srt l)(i:Nat):Srt (l.drop i):=h.sublist (iE _ _)
def Srt.take(h:Srt l)(i:Nat):Srt (l.take i):=h.sublist (dI _ _)
def qD(h1:Srt l)(h2:Srt m)(h:∀x∈l,∀y∈m,LE x y):Srt (l++m):=cy.mpr ⟨h1,h2,h⟩
def ML.takeA{out:List Keyed}(h:ML a b out ia ib)(sa:Srt a)(k:Nat)(hc:∀x∈(a.drop ia).take k,∀y∈b.drop ib,LE x y):ML a b (out++(a.drop ia).take k) (ia+k) ib:=by
 have e:a.drop (ia+k)=(a.drop ia).drop k:=by rw[iq]
 refine⟨?_,qD h.srt ((sa.drop ia).take k) λx hx y hy=>h.le x hx y (aZ _ (bP hy)),λx hx y hy=>?_⟩
 .refine List.Perm.trans ?_ h.perm;rw[e];refine jf ?_;rw[aY,<- aY ((a.drop ia).take k),bw]
 .rcases aM.mp hx with q|q
  .refine h.le x q y ?_;rcases aM.mp hy with z|z
   .rw[e] at z;exact aZ _ (cJ z)
   .exact aE _ z
  .rcases aM.mp hy with z|z
   .rw[e] at z;have s:=sa.drop ia;rw[<- bw k (a.drop ia)] at s;exact(cy.mp s).2.2 x q y z
   .exact hc x q y z
def ML.takeB{out:List Keyed}(h:ML a b out ia ib)(sb:Srt b)(k:Nat)(hc:∀x∈(b.drop ib).take k,∀y∈a.drop ia,LE x y):ML a b (out++(b.drop ib).take k) ia (ib+k):=by
 have e:b.drop (ib+k)=(b.drop ib).drop k:=by rw[iq]
 refine⟨?_,qD h.srt ((sb.drop ib).take k) λx hx y hy=>h.le x hx y (aE _ (bP hy)),λx hx y hy=>?_⟩
 .refine List.Perm.trans ?_ h.perm;rw[e,aY];refine cS out ?_;refine dC.trans ?_;rw[aY];refine cS _ ?_;refine dC.trans ?_;rw[bw]
 .rcases aM.mp hx with q|q
  .refine h.le x q y ?_;rcases aM.mp hy with z|z
   .exact aZ _ z
   .rw[e] at z;exact aE _ (cJ z)
  .rcases aM.mp hy with z|z
   .exact hc x q y z
   .rw[e] at z;have s:=sb.drop ib;rw[<- bw k (b.drop ib)] at s;exact(cy.mp s).2.2 x q y z
def ML.outA{out:List Keyed}(h:ML a b out ia ib)(sa:Srt a)(hb:b.length<=ib):(out++a.drop ia++b.drop ib).Perm (a++b)/\Srt (out++a.drop ia++b.drop ib):=by
 refine⟨by rw[aY];exact h.perm,?_⟩;rw[i7 hb,bg];exact qD h.srt (sa.drop ia) λx hx y hy=>h.le x hx y (aZ _ hy)
def ML.outB{out:List Keyed}(h:ML a b out ia ib)(sb:Srt b)(ha:a.length<=ia):(out++a.drop ia++b.drop ib).Perm (a++b)/\Srt (out++a.drop ia++b.drop ib):=by
 refine⟨by rw[aY];exact h.perm,?_⟩;rw[i7 ha,bg];exact qD h.srt (sb.drop ib) λx hx y hy=>h.le x hx y (aE _ hy)
def ML.last{out:List Keyed}(h:ML a b out ia ib)(sa:Srt a)(sb:Srt b)(ha:∀x∈b,∀y∈a.drop ia,LE x y):(out++b.drop ib++a.drop ia).Perm (a++b)/\Srt (out++b.drop ib++a.drop ia):=by
 refine⟨?_,?_⟩
 .rw[aY];exact(cS out dC).trans h.perm
 .refine qD (qD h.srt (sb.drop ib) λx hx y hy=>h.le x hx y (aE _ hy)) (sa.drop ia) λx hx y hy=>?_;rcases aM.mp hx with q|q
  .exact h.le x q y (aZ _ hy)
  .exact ha x (cJ q) y hy
def jA5(h:l[i]?=some p):(l.drop i).take 1=[p]:=by
 obtain⟨hi,e⟩:=aj.mp h;rw[<- List.getElem_cons_drop (h:=hi),e];rfl
theorem jEY(h:Srt l){j:Nat}(hx:l[i]?=some x)(hy:l[j]?=some y)(hij:i<=j):LE x y:=by
 obtain⟨h1,rfl⟩:=aj.mp hx;obtain⟨h2,rfl⟩:=aj.mp hy;by_cases e:i=j
 .subst e;exact cL _
 .exact bY.mp h i j h1 h2 Aa
theorem jDO(h:y∈l.drop i):∃j,i<=j/\l[j]?=some y:=by
 obtain⟨k,hk⟩:=bO h;rw[fo] at hk;exact⟨i+k,Aa,hk⟩
theorem jA3{k:Nat}(h:y∈(l.drop i).take k):∃j,i<=j/\j<i+k/\l[j]?=some y:=by
 obtain⟨n,hn⟩:=bO h;have hlt:n<k:=by
  have:=(aj.mp hn).1;rw[bi] at this;lia
 rw[cn hlt,fo] at hn;exact⟨i+n,Aa,Aa,hn⟩
def jD1{a:Array Keyed}:(a.extract i a.size).toList=a.toList.drop i:=by
 rw[eM,dD];exact bx (by rw[dy,aI];exact ar _)
def ext_k{a:Array Keyed}{k:Nat}:(a.extract i (i+k)).toList=(a.toList.drop i).take k:=by
 rw[eM,dD,cM]
structure Two (a b:Array Keyed):Prop where
 ia:AllI a.toList
 ib:AllI b.toList
 sa:Srt a.toList
 sb:Srt b.toList
 na:0<a.size
 nb:0<b.size
 last:∀x∈b.toList,∀y,a.toList[a.size-1]?=some y->key x<key y
 first:∀y∈a.toList,∀p,b.toList[0]?=some p->key p<key y
def yV(a b r:Array Keyed):Prop:=r.toList.Perm (a.toList++b.toList)/\Srt r.toList
structure SG (st st':SortSt):Prop where
 k:kindOf st'=kindOf st
 a:arrOf st'=arrOf st
 p:pendingOf st'=pendingOf st
 f:failedOf st'=failedOf st
def SG.refl(st:SortSt):SG st st:=⟨rfl,rfl,rfl,rfl⟩
def SG.gal{st:SortSt}(h:SG st st')(g:Nat):SG st (jGX st' g):=⟨h.k,h.a,h.p,h.f⟩
abbrev MA(a b out:Array Keyed)(ia ib:Nat):Prop:=ML a.toList b.toList out.toList ia ib
variable {a b:Array Keyed}{i j:Nat}
section
variable {out:Array Keyed}{k:Nat}
def at_list:a[i]?=some p↔a.toList[i]?=some p:=by rw[bH]
def qV(h:i<a.size):∃p,a[i]?=some p/\a.toList[i]?=some p:=⟨a[i],by simp[h],by simp[h]⟩
def MA.doneA(T:Two a b)(h:MA a b out i j)(hj:b.size<=j):yV a b (out++a.extract i a.size++b.extract j b.size):=by
 unfold yV;rw[br,br,jD1,jD1];exact ML.outA h T.sa (by rw[aI];exact hj)
def MA.doneB(T:Two a b)(h:MA a b out i j)(hi:a.size<=i):yV a b (out++a.extract i a.size++b.extract j b.size):=by
 unfold yV;rw[br,br,jD1,jD1];exact ML.outB h T.sb (by rw[aI];exact hi)
theorem MA.doneL(T:Two a b)(h:MA a b out i j)(hi:i+1=a.size):yV a b (out++b.extract j b.size++a.extract i a.size):=by
 unfold yV;rw[br,br,jD1,jD1];refine ML.last h T.sa T.sb λx hx y hy=>?_;obtain⟨n,h1,h2⟩:=jDO hy;have:n=a.size-1:=by
  have:=(aj.mp h2).1;rw[aI] at this;lia
 subst this;exact cF (T.last x hx y h2)
def MA.pushB(T:Two a b)(h:MA a b out i j){p q:Keyed}(hp:b[j]?=some p)(hc:∀y∈a.toList.drop i,LE p y):MA a b (out.push p) i (j+1):=by
 have:=ML.takeB h T.sb 1 (by
  rw[jA5 (at_list.mp hp)];intro x hx;rw[aF.mp hx];exact hc)
 rw[jA5 (at_list.mp hp)] at this;unfold MA;rw[dJ];exact this
def MA.pushA(T:Two a b)(h:MA a b out i j){p q:Keyed}(hp:a[i]?=some p)(hc:∀y∈b.toList.drop j,LE p y):MA a b (out.push p) (i+1) j:=by
 have:=ML.takeA h T.sa 1 (by
  rw[jA5 (at_list.mp hp)];intro x hx;rw[aF.mp hx];exact hc)
 rw[jA5 (at_list.mp hp)] at this;unfold MA;rw[dJ];exact this
def MA.appA(T:Two a b)(h:MA a b out i j)(k:Nat)(hc:∀n x,i<=n->n<i+k->a.toList[n]?=some x->∀y∈b.toList.drop j,LE x y):MA a b (out++a.extract i (i+k)) (i+k) j:=by
 unfold MA;rw[br,ext_k];exact ML.takeA h T.sa k λx hx y hy=>by
  obtain⟨n,h1,h2,h3⟩:=jA3 hx;exact hc n x h1 h2 h3 y hy
def MA.appB(T:Two a b)(h:MA a b out i j)(k:Nat)(hc:∀n x,j<=n->n<j+k->b.toList[n]?=some x->∀y∈a.toList.drop i,LE x y):MA a b (out++b.extract j (j+k)) i (j+k):=by
 unfold MA;rw[br,ext_k];exact ML.takeB h T.sb k λx hx y hy=>by
  obtain⟨n,h1,h2,h3⟩:=jA3 hx;exact hc n x h1 h2 h3 y hy
def Two.atA(T:Two a b)(h:i<a.size):∃p,a[i]?=some p/\IsI p:=by
 obtain⟨p,h1,h2⟩:=qV h;exact⟨p,h1,T.ia p (aJ h2)⟩
def Two.atB(T:Two a b)(h:i<b.size):∃p,b[i]?=some p/\IsI p:=by
 obtain⟨p,h1,h2⟩:=qV h;exact⟨p,h1,T.ib p (aJ h2)⟩
def jG2(s:Srt a.toList)(hp:a[i]?=some p)(h:LE q p):∀y∈a.toList.drop i,LE q y:=λy hy=>by
 obtain⟨n,h1,h2⟩:=jDO hy;exact cQ h (jEY s (at_list.mp hp) h2 h1)
end
section
variable {prog:Program}{w:World}{A:Around}{E:Ah}{s:Shared} [LtOk prog w A s]
theorem jUW{st:SortSt}(hk:kindOf st=Od.kd)(hp:IsI p)(ha:AllI a.toList)(sa:Srt a.toList)(hi:i<a.size)
  (h:∀k,i+k<=a.size->(∀n x,i<=n->n<i+k->a.toList[n]?=some x->LE x p)->(∀n x,i+k<=n->a.toList[n]?=some x->key p<key x)->Q (some k) st):
  wpS (model prog w) A E s (jC1 false p a i (a.size-i) 0) Q st:=by
 refine jB9 hk hp (λn hn=>?_) Aa (λn=>match a[i+n]? with|some x=>!decide (key p<key x)|none=>false) (λn x hn hx=>?_) (λn m hnm hm hb=>?_) λk hk1 hk2 hk3=>h k Aa (λn x h1 h2 h3=>?_) λn x h1 h2=>?_
 .obtain⟨q,q1,q2⟩:=qV (a:=a) (i:=i+n) Aa;exact⟨q,q1,ha q (aJ q2)⟩
 .rw[hx,aq am]
 .obtain⟨x,x1,x2⟩:=qV (a:=a) (i:=i+n) Aa;obtain⟨y,y1,y2⟩:=qV (a:=a) (i:=i+m) Aa;rw[y1] at hb;rw[x1];have:=jEY sa x2 y2 Aa;have hb:¬key p<key y:=by simpa using hb
  show (!decide (key p<key x))=true;rw[df,fu];have:key x<=key y:=this;lia
 .have:=hk2 (n-i) Aa;rw[show i+(n-i)=n by lia,at_list.mpr h3] at this;have this:¬key p<key x:=by simpa using this
  show key x<=key p;lia
 .have hn:=(aj.mp h2).1;rw[aI] at hn;have:=hk3 (n-i) Aa Aa;rw[show i+(n-i)=n by lia,at_list.mpr h2] at this;simpa using this
theorem jUX{st:SortSt}(hk:kindOf st=Od.kd)(hp:IsI p)(ha:AllI a.toList)(sa:Srt a.toList)(hi:i<a.size)
  (h:∀k,i+k<=a.size->(∀n x,i<=n->n<i+k->a.toList[n]?=some x->key x<key p)->(∀n x,i+k<=n->a.toList[n]?=some x->LE p x)->Q (some k) st):
  wpS (model prog w) A E s (jC1 true p a i (a.size-i) 0) Q st:=by
 refine jB9 hk hp (λn hn=>?_) Aa (λn=>match a[i+n]? with|some x=>decide (key x<key p)|none=>false) (λn x hn hx=>?_) (λn m hnm hm hb=>?_) λk hk1 hk2 hk3=>h k Aa (λn x h1 h2 h3=>?_) λn x h1 h2=>?_
 .obtain⟨q,q1,q2⟩:=qV (a:=a) (i:=i+n) Aa;exact⟨q,q1,ha q (aJ q2)⟩
 .rw[hx,ax rfl]
 .obtain⟨x,x1,x2⟩:=qV (a:=a) (i:=i+n) Aa;obtain⟨y,y1,y2⟩:=qV (a:=a) (i:=i+m) Aa;rw[y1] at hb;rw[x1];have:=jEY sa x2 y2 Aa;have hb:key y<key p:=aP hb;show decide (key x<key p)=true;rw[bI];have:key x<=key y:=this;lia
 .have:=hk2 (n-i) Aa;rw[show i+(n-i)=n by lia,at_list.mpr h3] at this;exact aP this
 .have hn:=(aj.mp h2).1;rw[aI] at hn;have:=hk3 (n-i) Aa Aa;rw[show i+(n-i)=n by lia,at_list.mpr h2] at this;have this:¬key x<key p:=fq this;show key p<=key x;lia
end
section
variable {prog:Program}{w:World}{A:Around}{E:Ah}{s:Shared} [LtOk prog w A s]
def bp{a b:Nat}(h:a=b):(a==b)=true:=eJ.mpr h
def bn{a b:Nat}(h:¬a=b):¬(a==b)=true:=λz=>h (eJ.mp z)
structure LoI (a b:Array Keyed)(st:SortSt)(out:Array Keyed)(ia ib:Nat)(st':SortSt):Prop where
 m:MA a b out ia ib
 i:ia+1<a.size
 j:ib<b.size
 s:SG st st'
theorem tW{P:Nat->Prop}{G:Prop}(h:(∀g,P g)->G)(z:∀g,P g):G:=h z
theorem jI5{st:SortSt}{Q:Array Keyed->SortSt->Prop}(hk:kindOf st=Od.kd)(T:Two a b)(h:∀r st',yV a b r->SG st st'->Q r st'):wpS (model prog w) A E s (jFY a b) Q st:=by
 rw[mergeLoB.2]
 delta mergeLoB
 dsimp only;simp only[elP,ltP,jJ9,jMU];have na:=T.na;have nb:=T.nb;refine aG (ir (cG ⟨rfl,?_⟩));obtain⟨p0,hp0,ip0⟩:=T.atB nb;refine aG (kB hp0 ?_);have M0:MA a b #[p0] 0 1:=by
  have z:MA a b #[] 0 0:=⟨by show (([]:List Keyed)++(a.toList.drop 0++b.toList.drop 0)).Perm _;rw[List.nil_append,iu,iu],List.Pairwise.nil,λx hx=>by cases hx⟩;have:=MA.pushB (q:=p0) T z hp0 λy hy=>cF (T.first y (cJ hy) p0 (at_list.mp hp0));exact this
 by_cases e1:1=b.size
 .rw[ax (bp e1)];exact aL (h _ _ (MA.doneA T M0 Aa) (SG.refl _))
 rw[aq (bn e1)];by_cases e2:0+1=a.size
 .rw[ax (bp e2)];exact aL (h _ _ (MA.doneL T M0 e2) (SG.refl _))
 rw[aq (bn e2)];refine aG (gA ?_);refine aG (cY (b9 (I:=λx c st'=>∃out ia ib mg,c=(none,out,ia,ib,mg)/\LoI a b st out ia ib st'/\x+1<=ia+ib)
  (Q:=λc st'=>∃r,c.1=some r/\yV a b r/\SG st st') ?step ?fin ⟨_,0,1,_,rfl,⟨M0,Aa,Aa,SG.refl _⟩,Aa⟩) ?post)
 case post=>
  rintro ⟨r0,c⟩ st' ⟨r,hr,d,g⟩;have hr:r0=some r:=hr;subst hr;exact aL (h r st' d g)
 case fin=>
  rintro c st' ⟨out,ia,ib,mg,rfl,I0,hx⟩;have:=I0.i;have:=I0.j;lia
 case step=>
  rintro x c st1 _ hx ⟨out,ia,ib,mg,rfl,I0,hxx⟩;dsimp only;refine aG (cY (b9 (I:=λy c st'=>∃out' ia' ib' ac bc,c=(none,out',ia',ib',ac,bc)/\LoI a b st out' ia' ib' st'/\ia+ib<=ia'+ib'/\(y=0\/ia+ib<ia'+ib'))
   (Q:=λc st'=>(∃r,c.1=some r/\yV a b r/\SG st st')\/∃out' ia' ib' ac bc,c=(none,out',ia',ib',ac,bc)/\LoI a b st out' ia' ib' st'/\ia+ib<ia'+ib') ?step1 ?fin1 ⟨_,_,_,_,_,rfl,I0,Aa,.inl rfl⟩) ?post1)
  case fin1=>
   rintro c st' ⟨out',ia',ib',ac,bc,rfl,I1,h1,h2⟩;exact .inr ⟨_,_,_,_,_,rfl,I1,Aa⟩
  case step1=>
   rintro y c st2 _ hy ⟨out',ia',ib',ac,bc,rfl,I1,h1,h2⟩;dsimp only;obtain⟨pb,hpb,ipb⟩:=T.atB I1.j;obtain⟨pa,hpa,ipa⟩:=T.atA (i:=ia') (by have:=I1.i;lia);have ii:=I1.i;have jj:=I1.j;refine aG (kB hpb (aG (kB hpa (aG (jGH (I1.s.k.trans hk) ipb ipa ?_)))));dsimp only;by_cases hlt:key pb<key pa
   .rw[ay hlt,ax rfl];refine aG (kB hpb ?_);have M2:=MA.pushB (q:=pb) T I1.m hpb (jG2 T.sa hpa (cF hlt));by_cases f1:ib'+1=b.size
    .rw[ax (bp f1)];exact aL (.inl ⟨_,rfl,MA.doneA T M2 Aa,I1.s⟩)
    rw[aq (bn f1)];split
    .exact aL (.inr ⟨_,_,_,_,_,rfl,⟨M2,ii,Aa,I1.s⟩,Aa⟩)
    .exact aL ⟨_,_,_,_,_,rfl,⟨M2,ii,Aa,I1.s⟩,Aa,.inr Aa⟩
   .rw[aH hlt,aq am];refine aG (kB hpa ?_);have M2:=MA.pushA (q:=pa) T I1.m hpa (jG2 T.sb hpb (by show key pa<=key pb;lia));by_cases f1:ia'+1+1=a.size
    .rw[ax (bp f1)];exact aL (.inl ⟨_,rfl,MA.doneL T M2 f1,I1.s⟩)
    rw[aq (bn f1)];split
    .exact aL (.inr ⟨_,_,_,_,_,rfl,⟨M2,Aa,jj,I1.s⟩,Aa⟩)
    .exact aL ⟨_,_,_,_,_,rfl,⟨M2,Aa,jj,I1.s⟩,Aa,.inr Aa⟩
  case post1=>
   rintro c st2 (⟨r,hr,d,g⟩|⟨out1,ia1,ib1,ac,bc,rfl,I1,h1⟩)
   .obtain⟨r0,c⟩:=c;have hr:r0=some r:=hr;subst hr;exact aL ⟨r,rfl,d,g⟩
   dsimp only;refine aG (ir (cG ⟨rfl,?_⟩));refine aG (cY (b9 (I:=λy c st'=>∃out' ia' ib' mg' ac bc,c=(none,out',ia',ib',mg',ac,bc)/\LoI a b st out' ia' ib' st'/\ia+ib<ia'+ib')
    (Q:=λc st'=>(∃r,c.1=some r/\yV a b r/\SG st st')\/∃out' ia' ib' mg' ac bc,c=(none,out',ia',ib',mg',ac,bc)/\LoI a b st out' ia' ib' st'/\ia+ib<ia'+ib') ?step2 ?fin2 ⟨_,_,_,_,_,_,rfl,I1,h1⟩) ?post2)
   case fin2=>
    rintro c st' ⟨out',ia',ib',mg',ac,bc,rfl,I2,h2⟩;exact .inr ⟨_,_,_,_,_,_,rfl,I2,h2⟩
   case post2=>
    rintro c st3 (⟨r,hr,d,g⟩|⟨out2,ia2,ib2,mg2,ac,bc,rfl,I2,h2⟩)
    .obtain⟨r0,c⟩:=c;have hr:r0=some r:=hr;subst hr;exact aL ⟨r,rfl,d,g⟩
    dsimp only;rw[jA2];exact aG (dZ (aL ⟨_,_,_,_,rfl,⟨I2.m,I2.i,I2.j,I2.s.gal _⟩,Aa⟩))
   case step2=>
    clear I0 I1;rintro y c st2 _ hy ⟨out,ia,ib,mg',ac,bc,rfl,I0,h2⟩;dsimp only;obtain⟨pb,hpb,ipb⟩:=T.atB I0.j;apply tW
    .intro Z;by_cases hg:mg'>1
     .rw[ax hg];generalize mg'-1=gg;exact Z gg
     .rw[aq hg];generalize mg'=gg;exact Z gg
    .intro gg;rw[jA2];refine aG (dZ ?_);have G1:=I0.s.gal gg;refine aG (kB hpb ?_);refine aG (jUW (G1.k.trans hk) ipb T.ia T.sa (by have:=I0.i;lia) λk1 g1 g2 g3=>?_);dsimp only;have M1:=MA.appA T I0.m k1 (λn x h1 h2 h3=>jG2 T.sb hpb (g2 n x h1 h2 h3));have hgt:∀y∈a.toList.drop (ia+k1),LE pb y:=λy hy=>by
      obtain⟨n,h1,h2⟩:=jDO hy;exact cF (g3 n y h1 h2)
     have jb:=I0.j;by_cases e0:k1>0
     case' pos=>
      rw[ax e0];by_cases f1:ia+k1+1=a.size
      .rw[ax (bp f1)];exact aL (.inl ⟨_,rfl,MA.doneL T M1 f1,G1⟩)
      rw[aq (bn f1)];by_cases f2:ia+k1=a.size
      .rw[ax (bp f2)];exact aL (.inl ⟨_,rfl,MA.doneB T M1 Aa,G1⟩)
      rw[aq (bn f2)];obtain⟨pa,hpa,ipa⟩:=T.atA (i:=ia+k1) Aa;have hz:ia+k1<a.size:=Aa;generalize hiz:ia+k1=iz at*
     case' neg=>
      rw[aq e0];have e0':k1=0:=Aa;subst e0';have M1:=I0.m;obtain⟨pa,hpa,ipa⟩:=T.atA (i:=ia) (by have:=I0.i;lia);have hz:ia<a.size:=by have:=I0.i;lia
      rw[lu] at hgt;have hia:=I0.i;generalize hiz:ia=iz at*
     all_goals
      refine aG (kB hpb ?_);have M2:=MA.pushB (q:=pb) T M1 hpb hgt;by_cases e1:ib+1=b.size
      .rw[ax (bp e1)];exact aL (.inl ⟨_,rfl,MA.doneA T M2 Aa,G1⟩)
      rw[aq (bn e1)];refine aG (kB hpa ?_);refine aG (jUX (G1.k.trans hk) ipa T.ib T.sb Aa λk2 l1 l2 l3=>?_);dsimp only;have M3:=MA.appB T M2 k2 (λn x h1 h2 h3=>jG2 T.sa hpa (cF (l2 n x h1 h2 h3)));have fin3:∀y∈b.toList.drop (ib+1+k2),LE pa y:=λy hy=>by
       obtain⟨n,h1,h2⟩:=jDO hy;exact l3 n y h1 h2
      by_cases e2:k2>0
      .rw[ax e2];by_cases e3:ib+1+k2=b.size
       .rw[ax (bp e3)];exact aL (.inl ⟨_,rfl,MA.doneA T M3 Aa,G1⟩)
       rw[aq (bn e3)];refine aG (kB hpa ?_);have M4:=MA.pushA (q:=pa) T M3 hpa fin3;by_cases e4:iz+1+1=a.size
       .rw[ax (bp e4)];exact aL (.inl ⟨_,rfl,MA.doneL T M4 e4,G1⟩)
       rw[aq (bn e4)];split
       .exact aL (.inr ⟨_,_,_,_,_,_,rfl,⟨M4,Aa,Aa,G1⟩,Aa⟩)
       .exact aL ⟨_,_,_,_,_,_,rfl,⟨M4,Aa,Aa,G1⟩,Aa⟩
      .rw[aq e2];have e0:k2=0:=Aa;subst e0;refine aG (kB hpa ?_);have M4:=MA.pushA (q:=pa) T M2 hpa fin3;by_cases e4:iz+1+1=a.size
       .rw[ax (bp e4)];exact aL (.inl ⟨_,rfl,MA.doneL T M4 e4,G1⟩)
       rw[aq (bn e4)];split
       .exact aL (.inr ⟨_,_,_,_,_,_,rfl,⟨M4,Aa,Aa,G1⟩,Aa⟩)
       .exact aL ⟨_,_,_,_,_,_,rfl,⟨M4,Aa,Aa,G1⟩,Aa⟩
end
structure MHL (tot xa xb o:List Keyed):Prop where
 perm:(xa++xb++o).Perm tot
 srt:Srt o
 le:∀x∈o,∀y∈xa++xb,LE y x
def MHL.takeA(h:MHL tot (u++v) xb o)(s:Srt (u++v))(hc:∀x∈v,∀y∈xb,LE y x):MHL tot u xb (v++o):=by
 have sp:=cy.mp s;refine⟨?_,qD sp.2.1 h.srt λx hx y hy=>h.le y hy x (aZ _ (aE _ hx)),λx hx y hy=>?_⟩
 .refine List.Perm.trans ?_ h.perm;rw[aY,aY,aY];refine cS u ?_;rw[<- aY,<- aY];exact fV o dC
 .rcases aM.mp hx with q|q
  .rcases aM.mp hy with z|z
   .exact sp.2.2 y z x q
   .exact hc x q y z
  .refine h.le x q y ?_;rcases aM.mp hy with z|z
   .exact aZ _ (aZ _ z)
   .exact aE _ z
def MHL.takeB(h:MHL tot xa (u++v) o)(s:Srt (u++v))(hc:∀x∈v,∀y∈xa,LE y x):MHL tot xa u (v++o):=by
 have sp:=cy.mp s;refine⟨?_,qD sp.2.1 h.srt λx hx y hy=>h.le y hy x (aE _ (aE _ hx)),λx hx y hy=>?_⟩
 .refine List.Perm.trans (jf ?_) h.perm;simp only[aY]
 .rcases aM.mp hx with q|q
  .rcases aM.mp hy with z|z
   .exact hc x q y z
   .exact sp.2.2 y z x q
  .refine h.le x q y ?_;rcases aM.mp hy with z|z
   .exact aZ _ z
   .exact aE _ (aZ _ z)
def MHL.out{tot xa xb o:List Keyed}(h:MHL tot xa xb o)(s:Srt (xa++xb)):(xa++xb++o).Perm tot/\Srt (xa++xb++o):=
 ⟨h.perm,qD s h.srt λx hx y hy=>h.le y hy x hx⟩
def MHL.outF(h:MHL tot xa xb o)(s:Srt (xb++xa)):(xb++xa++o).Perm tot/\Srt (xb++xa++o):=
 ⟨(fV o dC).trans h.perm,qD s h.srt λx hx y hy=>h.le y hy x (by
  rcases aM.mp hx with z|z
  .exact aE _ z
  .exact aZ _ z)⟩
theorem jJK(hn:0<n)(h:l[n-1]?=some p):l.take n=l.take (n-1)++[p]:=by
 obtain⟨m,rfl⟩:∃m,n=m+1:=⟨n-1,Aa⟩;rw[kz] at h ⊢;rw[List.take_succ,h];rfl
theorem jJJ{l:List Keyed}{k n:Nat}(hk:k<=n):l.take n=l.take k++(l.drop k).take (n-k):=by
 obtain⟨m,rfl⟩:∃m,n=k+m:=⟨n-k,Aa⟩;rw[cM,List.take_add]
def jAI{k:Nat}:(a.extract k n).toList=(a.toList.drop k).take (n-k):=by
 rw[eM,dD]
def jBI:(a.extract 0 n).toList=a.toList.take n:=by
 rw[jAI,iu,i6]
abbrev MH(a b out:Array Keyed)(na nb:Nat):Prop:=MHL (a.toList++b.toList) (a.toList.take na) (b.toList.take nb) out.toList.reverse
theorem jDN(h:y∈l.take n):∃j,j<n/\l[j]?=some y:=by
 obtain⟨k,hk⟩:=bO h;have hlt:k<n:=by
  have:=(aj.mp hk).1;rw[bi] at this;lia
 rw[cn hlt] at hk;exact⟨k,hlt,hk⟩
section
variable {out:Array Keyed}{k:Nat}
theorem jDL(s:Srt a.toList)(hp:a[i-1]?=some p)(h:LE p q):∀y∈a.toList.take i,LE y q:=λy hy=>by
 obtain⟨n,h1,h2⟩:=jDN hy;exact cQ (jEY s h2 (at_list.mp hp) Aa) h
def MH.pushA(T:Two a b)(h:MH a b out i j){p:Keyed}(hi:0<i)(hp:a[i-1]?=some p)(hc:∀y∈b.toList.take j,LE y p):MH a b (out.push p) (i-1) j:=by
 have e:=jJK hi (at_list.mp hp);have s:=T.sa.take i;unfold MH at h ⊢;rw[e] at h s;rw[dJ,eY];exact h.takeA s λx hx=>by rw[aF.mp hx];exact hc
def MH.pushB(T:Two a b)(h:MH a b out i j){p:Keyed}(hj:0<j)(hp:b[j-1]?=some p)(hc:∀y∈a.toList.take i,LE y p):MH a b (out.push p) i (j-1):=by
 have e:=jJK hj (at_list.mp hp);have s:=T.sb.take j;unfold MH at h ⊢;rw[e] at h s;rw[dJ,eY];exact h.takeB s λx hx=>by rw[aF.mp hx];exact hc
theorem MH.appA(T:Two a b)(h:MH a b out i j)(hk:k<=i)(hc:∀n x,k<=n->n<i->a.toList[n]?=some x->∀y∈b.toList.take j,LE y x):MH a b (out++(a.extract k i).reverse) k j:=by
 have e:=jJJ (l:=a.toList) hk;have s:=T.sa.take i;unfold MH at h ⊢;rw[e] at h s;rw[br,cZ,eY,jz,jAI];exact h.takeA s λx hx y hy=>by
  obtain⟨n,h1,h2,h3⟩:=jA3 hx;exact hc n x h1 Aa h3 y hy
theorem MH.appB(T:Two a b)(h:MH a b out i j)(hk:k<=j)(hc:∀n x,k<=n->n<j->b.toList[n]?=some x->∀y∈a.toList.take i,LE y x):MH a b (out++(b.extract k j).reverse) i k:=by
 have e:=jJJ (l:=b.toList) hk;have s:=T.sb.take j;unfold MH at h ⊢;rw[e] at h s;rw[br,cZ,eY,jz,jAI];exact h.takeB s λx hx y hy=>by
  obtain⟨n,h1,h2,h3⟩:=jA3 hx;exact hc n x h1 Aa h3 y hy
def MH.doneA(T:Two a b)(h:MH a b out 0 j):yV a b (a.extract 0 0++b.extract 0 j++out.reverse):=by
 unfold yV;rw[br,br,jBI,jBI,cZ];exact h.out (by rw[eQ];exact T.sb.take j)
def MH.doneB(T:Two a b)(h:MH a b out i 0):yV a b (a.extract 0 i++b.extract 0 0++out.reverse):=by
 unfold yV;rw[br,br,jBI,jBI,cZ];exact h.out (by rw[eQ,bg];exact T.sa.take i)
theorem MH.doneF(T:Two a b)(h:MH a b out i 1):yV a b (b.extract 0 1++a.extract 0 i++out.reverse):=by
 unfold yV;rw[br,br,jBI,jBI,cZ];refine h.outF (qD (T.sb.take 1) (T.sa.take i) λx hx y hy=>?_);obtain⟨n,h1,h2⟩:=jDN hx;have:n=0:=Aa;subst this;exact cF (T.first y (bP hy) x h2)
end
section
variable {prog:Program}{w:World}{A:Around}{E:Ah}{s:Shared} [LtOk prog w A s]
theorem jKQ{st:SortSt}{len:Nat}(hk:kindOf st=Od.kd)(hp:IsI p)(ha:AllI a.toList)
  (sa:∀n m x y,i<=n->n<=m->m<i+len->a[n]?=some x->a[m]?=some y->LE x y) (hh:hint<len) (hl:i+len<=a.size)
  (h:∀k,k<=len->(∀n x,i<=n->n<i+k->a[n]?=some x->LE x p)->(∀n x,i+k<=n->n<i+len->a[n]?=some x->key p<key x)->Q (some k) st):
  wpS (model prog w) A E s (jC1 false p a i len hint) Q st:=by
 refine jB9 hk hp (λn hn=>?_) hh (λn=>match a[i+n]? with|some x=>!decide (key p<key x)|none=>false) (λn x hn hx=>?_) (λn m hnm hm hb=>?_) λk hk1 hk2 hk3=>h k Aa (λn x h1 h2 h3=>?_) λn x h1 h2 h3=>?_
 .obtain⟨q,q1,q2⟩:=qV (a:=a) (i:=i+n) Aa;exact⟨q,q1,ha q (aJ q2)⟩
 .rw[hx,aq am]
 .obtain⟨x,x1,x2⟩:=qV (a:=a) (i:=i+n) Aa;obtain⟨y,y1,y2⟩:=qV (a:=a) (i:=i+m) Aa;rw[y1] at hb;rw[x1];have:=sa (i+n) (i+m) x y Aa Aa Aa x1 y1;have hb:¬key p<key y:=by simpa using hb
  show (!decide (key p<key x))=true;rw[df,fu];have:key x<=key y:=this;lia
 .have:=hk2 (n-i) Aa;rw[show i+(n-i)=n by lia,h3] at this;have this:¬key p<key x:=by simpa using this
  show key x<=key p;lia
 .have:=hk3 (n-i) Aa Aa;rw[show i+(n-i)=n by lia,h3] at this;simpa using this
theorem jKR{st:SortSt}{len:Nat}(hk:kindOf st=Od.kd)(hp:IsI p)(ha:AllI a.toList)
  (sa:∀n m x y,i<=n->n<=m->m<i+len->a[n]?=some x->a[m]?=some y->LE x y) (hh:hint<len) (hl:i+len<=a.size)
  (h:∀k,k<=len->(∀n x,i<=n->n<i+k->a[n]?=some x->key x<key p)->(∀n x,i+k<=n->n<i+len->a[n]?=some x->LE p x)->Q (some k) st):
  wpS (model prog w) A E s (jC1 true p a i len hint) Q st:=by
 refine jB9 hk hp (λn hn=>?_) hh (λn=>match a[i+n]? with|some x=>decide (key x<key p)|none=>false) (λn x hn hx=>?_) (λn m hnm hm hb=>?_) λk hk1 hk2 hk3=>h k Aa (λn x h1 h2 h3=>?_) λn x h1 h2 h3=>?_
 .obtain⟨q,q1,q2⟩:=qV (a:=a) (i:=i+n) Aa;exact⟨q,q1,ha q (aJ q2)⟩
 .rw[hx,ax rfl]
 .obtain⟨x,x1,x2⟩:=qV (a:=a) (i:=i+n) Aa;obtain⟨y,y1,y2⟩:=qV (a:=a) (i:=i+m) Aa;rw[y1] at hb;rw[x1];have:=sa (i+n) (i+m) x y Aa Aa Aa x1 y1;have hb:key y<key p:=aP hb;show decide (key x<key p)=true;rw[bI];have:key x<=key y:=this;lia
 .have:=hk2 (n-i) Aa;rw[show i+(n-i)=n by lia,h3] at this;exact aP this
 .have:=hk3 (n-i) Aa Aa;rw[show i+(n-i)=n by lia,h3] at this;have this:¬key x<key p:=fq this;show key p<=key x;lia
end
section
variable {prog:Program}{w:World}{A:Around}{E:Ah}{s:Shared} [LtOk prog w A s]
structure HiI (a b:Array Keyed)(st:SortSt)(out:Array Keyed)(na nb:Nat)(st':SortSt):Prop where
 m:MH a b out na nb
 i:0<na
 ia:na<=a.size
 j:1<nb
 jb:nb<=b.size
 s:SG st st'
def whole(s:Srt a.toList){len:Nat}:∀n m x y,0<=n->n<=m->m<0+len->a[n]?=some x->a[m]?=some y->LE x y:=λn m x y _ h _ hx hy=>jEY s (at_list.mp hx) (at_list.mp hy) h
theorem jI6{st:SortSt}{Q:Array Keyed->SortSt->Prop}(hk:kindOf st=Od.kd)(T:Two a b)(h:∀r st',yV a b r->SG st st'->Q r st'):wpS (model prog w) A E s (jFZ a b) Q st:=by
 rw[mergeHiB.2]
 delta mergeHiB
 dsimp only;simp only[elP,ltP,jJ9,jMU];have na:=T.na;have nb:=T.nb;refine aG (ir (cG ⟨rfl,?_⟩));obtain⟨p0,hp0,ip0⟩:=T.atA (i:=a.size-1) Aa;refine aG (kB hp0 ?_);have M0:MH a b #[p0] (a.size-1) b.size:=by
  have z:MH a b #[] a.size b.size:=⟨by
   rw[show a.toList.take a.size=a.toList from bx Ad,show b.toList.take b.size=b.toList from bx Ad];show ((a.toList++b.toList)++([]:List Keyed)).Perm _;rw[bg],List.Pairwise.nil,λx hx=>by cases hx⟩
  have:=MH.pushA T z Aa hp0 λy hy=>cF (T.last y (bP hy) p0 (at_list.mp hp0));exact this
 by_cases e1:a.size-1=0
 .rw[ax (bp e1)];rw[e1] at M0 ⊢;exact aL (h _ _ (MH.doneA T M0) (SG.refl _))
 rw[aq (bn e1)];by_cases e2:b.size=1
 .rw[ax (bp e2)];rw[e2] at M0 ⊢;exact aL (h _ _ (MH.doneF T M0) (SG.refl _))
 rw[aq (bn e2)];refine aG (gA ?_);refine aG (cY (b9 (I:=λx c st'=>∃out na nb mg,c=(none,na,nb,out,mg)/\HiI a b st out na nb st'/\x+1<=a.size-na+(b.size-nb))
  (Q:=λc st'=>∃r,c.1=some r/\yV a b r/\SG st st') ?step ?fin ⟨_,_,_,_,rfl,⟨M0,Aa,Aa,Aa,Aa,SG.refl _⟩,Aa⟩) ?post)
 case post=>
  rintro ⟨r0,c⟩ st' ⟨r,hr,d,g⟩;have hr:r0=some r:=hr;subst hr;exact aL (h r st' d g)
 case fin=>
  rintro c st' ⟨out,na,nb,mg,rfl,I0,hx⟩;have:=I0.i;have:=I0.j;lia
 case step=>
  rintro x c st1 _ hx ⟨out,na,nb,mg,rfl,I0,hxx⟩;dsimp only;refine aG (cY (b9 (I:=λy c st'=>∃out' na' nb' ac bc,c=(none,na',nb',out',ac,bc)/\HiI a b st out' na' nb' st'/\na'+nb'<=na+nb/\(y=0\/na'+nb'<na+nb))
   (Q:=λc st'=>(∃r,c.1=some r/\yV a b r/\SG st st')\/∃out' na' nb' ac bc,c=(none,na',nb',out',ac,bc)/\HiI a b st out' na' nb' st'/\na'+nb'<na+nb) ?step1 ?fin1 ⟨_,_,_,_,_,rfl,I0,Aa,.inl rfl⟩) ?post1)
  case fin1=>
   rintro c st' ⟨out',na',nb',ac,bc,rfl,I1,h1,h2⟩;exact .inr ⟨_,_,_,_,_,rfl,I1,Aa⟩
  case step1=>
   rintro y c st2 _ hy ⟨out',na',nb',ac,bc,rfl,I1,h1,h2⟩;dsimp only;have i0:=I1.i;have i1:=I1.ia;have j0:=I1.j;have j1:=I1.jb;obtain⟨pb,hpb,ipb⟩:=T.atB (i:=nb'-1) Aa;obtain⟨pa,hpa,ipa⟩:=T.atA (i:=na'-1) Aa;refine aG (kB hpb (aG (kB hpa (aG (jGH (I1.s.k.trans hk) ipb ipa ?_)))));dsimp only;by_cases hlt:key pb<key pa
   .rw[ay hlt,ax rfl];refine aG (kB hpa ?_);have M2:=MH.pushA T I1.m i0 hpa (jDL T.sb hpb (cF hlt));by_cases f1:na'-1=0
    .rw[ax (bp f1)];rw[f1] at M2 ⊢;exact aL (.inl ⟨_,rfl,MH.doneA T M2,I1.s⟩)
    rw[aq (bn f1)];split
    .exact aL (.inr ⟨_,_,_,_,_,rfl,⟨M2,Aa,Aa,j0,j1,I1.s⟩,Aa⟩)
    .exact aL ⟨_,_,_,_,_,rfl,⟨M2,Aa,Aa,j0,j1,I1.s⟩,Aa,.inr Aa⟩
   .rw[aH hlt,aq am];refine aG (kB hpb ?_);have M2:=MH.pushB T I1.m Aa hpb (jDL T.sa hpa (by show key pa<=key pb;lia));by_cases f1:nb'-1=1
    .rw[ax (bp f1)];rw[f1] at M2 ⊢;exact aL (.inl ⟨_,rfl,MH.doneF T M2,I1.s⟩)
    rw[aq (bn f1)];split
    .exact aL (.inr ⟨_,_,_,_,_,rfl,⟨M2,i0,i1,Aa,Aa,I1.s⟩,Aa⟩)
    .exact aL ⟨_,_,_,_,_,rfl,⟨M2,i0,i1,Aa,Aa,I1.s⟩,Aa,.inr Aa⟩
  case post1=>
   rintro c st2 (⟨r,hr,d,g⟩|⟨out1,na1,nb1,ac,bc,rfl,I1,h1⟩)
   .obtain⟨r0,c⟩:=c;have hr:r0=some r:=hr;subst hr;exact aL ⟨r,rfl,d,g⟩
   dsimp only;refine aG (ir (cG ⟨rfl,?_⟩));refine aG (cY (b9 (I:=λy c st'=>∃out' na' nb' mg' ac bc,c=(none,na',nb',out',mg',ac,bc)/\HiI a b st out' na' nb' st'/\na'+nb'<na+nb)
    (Q:=λc st'=>(∃r,c.1=some r/\yV a b r/\SG st st')\/∃out' na' nb' mg' ac bc,c=(none,na',nb',out',mg',ac,bc)/\HiI a b st out' na' nb' st'/\na'+nb'<na+nb) ?step2 ?fin2 ⟨_,_,_,_,_,_,rfl,I1,h1⟩) ?post2)
   case fin2=>
    rintro c st' ⟨out',na',nb',mg',ac,bc,rfl,I2,h2⟩;exact .inr ⟨_,_,_,_,_,_,rfl,I2,h2⟩
   case post2=>
    have q1:=I0.ia;have q2:=I0.jb;rintro c st3 (⟨r,hr,d,g⟩|⟨out2,na2,nb2,mg2,ac,bc,rfl,I2,h2⟩)
    .obtain⟨r0,c⟩:=c;have hr:r0=some r:=hr;subst hr;exact aL ⟨r,rfl,d,g⟩
    dsimp only;rw[jA2];have q3:=I2.ia;have q4:=I2.jb;exact aG (dZ (aL ⟨_,_,_,_,rfl,⟨I2.m,I2.i,I2.ia,I2.j,I2.jb,I2.s.gal _⟩,Aa⟩))
   case step2=>
    clear I0 I1;rename_i na00 nb00;generalize hbd:na+nb=bd;clear hxx h1;rintro y c st2 _ hy ⟨out,na,nb,mg',ac,bc,rfl,I0,h2⟩;dsimp only;obtain⟨pb,hpb,ipb⟩:=T.atB (i:=nb-1) (by have:=I0.j;have:=I0.jb;lia);apply tW
    .intro Z;by_cases hg:mg'>1
     .rw[ax hg];generalize mg'-1=gg;exact Z gg
     .rw[aq hg];generalize mg'=gg;exact Z gg
    .intro gg;rw[jA2];refine aG (dZ ?_);have G1:=I0.s.gal gg;have na0:=I0.i;have na1:=I0.ia;have nb0:=I0.j;have nb1:=I0.jb;refine aG (kB hpb ?_);refine aG (jKQ (G1.k.trans hk) ipb T.ia (whole T.sa) Aa Aa λk1 g1 g2 g3=>?_);dsimp only;have M1:=MH.appA T I0.m g1 (λn x h1 h2 h3=>jDL T.sb hpb (cF (g3 n x Aa Aa (at_list.mpr h3))));have hle:∀y∈a.toList.take k1,LE y pb:=λy hy=>by
      obtain⟨n,h1,h2⟩:=jDN hy;exact g2 n y Aa Aa (at_list.mpr h2)
     by_cases e0:na-k1>0
     case' pos=>
      rw[ax e0];by_cases f1:k1=0
      .rw[ax (bp f1)];rw[f1] at M1 ⊢;exact aL (.inl ⟨_,rfl,MH.doneA T M1,G1⟩)
      rw[aq (bn f1)];obtain⟨pa,hpa,ipa⟩:=T.atA (i:=k1-1) Aa;have hz:0<k1:=Aa;generalize hiz:k1=iz at*
     case' neg=>
      rw[aq e0];have e0':k1=na:=Aa;subst e0';have M1:=I0.m;obtain⟨pa,hpa,ipa⟩:=T.atA (i:=k1-1) Aa;have hz:0<k1:=Aa;generalize hiz:k1=iz at*
     all_goals
      refine aG (kB hpb ?_);have M2:=MH.pushB T M1 Aa hpb hle;by_cases e1:nb-1=1
      .rw[ax (bp e1)];rw[e1] at M2 ⊢;exact aL (.inl ⟨_,rfl,MH.doneF T M2,G1⟩)
      rw[aq (bn e1)];refine aG (kB hpa ?_);refine aG (jKR (G1.k.trans hk) ipa T.ib (whole T.sb) Aa Aa λk2 l1 l2 l3=>?_);dsimp only;have M3:=MH.appB T M2 l1 (λn x h1 h2 h3=>jDL T.sa hpa (l3 n x Aa Aa (at_list.mpr h3)));have fin3:∀y∈b.toList.take k2,LE y pa:=λy hy=>by
       obtain⟨n,h1,h2⟩:=jDN hy;exact cF (l2 n y Aa Aa (at_list.mpr h2))
      by_cases e2:nb-1-k2>0
      .rw[ax e2];by_cases e3:k2=1
       .rw[ax (bp e3)];rw[e3] at M3 ⊢;exact aL (.inl ⟨_,rfl,MH.doneF T M3,G1⟩)
       rw[aq (bn e3)];by_cases e5:k2=0
       .rw[ax (bp e5)];rw[e5] at M3 ⊢;exact aL (.inl ⟨_,rfl,MH.doneB T M3,G1⟩)
       rw[aq (bn e5)];refine aG (kB hpa ?_);have M4:=MH.pushA T M3 hz hpa fin3;by_cases e4:iz-1=0
       .rw[ax (bp e4)];rw[e4] at M4 ⊢;exact aL (.inl ⟨_,rfl,MH.doneA T M4,G1⟩)
       rw[aq (bn e4)];split
       .exact aL (.inr ⟨_,_,_,_,_,_,rfl,⟨M4,Aa,Aa,Aa,Aa,G1⟩,Aa⟩)
       .exact aL ⟨_,_,_,_,_,_,rfl,⟨M4,Aa,Aa,Aa,Aa,G1⟩,Aa⟩
      .rw[aq e2];have e0:k2=nb-1:=Aa;subst e0;refine aG (kB hpa ?_);have M4:=MH.pushA T M2 hz hpa fin3;by_cases e4:iz-1=0
       .rw[ax (bp e4)];rw[e4] at M4 ⊢;exact aL (.inl ⟨_,rfl,MH.doneA T M4,G1⟩)
       rw[aq (bn e4)];split
       .exact aL (.inr ⟨_,_,_,_,_,_,rfl,⟨M4,Aa,Aa,Aa,Aa,G1⟩,Aa⟩)
       .exact aL ⟨_,_,_,_,_,_,rfl,⟨M4,Aa,Aa,Aa,Aa,G1⟩,Aa⟩
end
def KI(xs:Array Keyed)(i:Nat):Int:=match xs[i]? with
 |some p=>key p
 |none=>0
def STo(xs:Array Keyed)(k:Nat):Prop:=∀i j,i<=j->j<k->KI xs i<=KI xs j
structure SB (a₀:Array Keyed)(st:SortSt):Prop where
 perm:(arrOf st).Perm a₀
 kind:kindOf st=Od.kd
 failed:failedOf st=none
 pend:pendingOf st=#[]
def SB.size{st:SortSt}(h:SB a₀ st):(arrOf st).size=a₀.size:=h.perm.size_eq
def jBM(h:xs[i]?=ys[j]?):KI xs i=KI ys j:=by unfold KI;rw[h]
def jPI{src d:Nat}(hs:src<xs.size)(hd:d<=src)(k:Nat):
  KI (bubble xs src d) k=if k=src-d then KI xs src else if src-d<k/\k<=src then KI xs (k-1) else KI xs k:=by
 have e:=getElem?_bubble hs d hd k;by_cases h1:k=src-d
 .rw[ax h1] at e ⊢;exact jBM e
 .rw[aq h1] at e ⊢;by_cases h2:src-d<k/\k<=src
  .rw[ax h2] at e ⊢;exact jBM e
  .rw[aq h2] at e ⊢;exact jBM e
def jCK(hj:j<=xs.size)(k:Nat):
  KI (mirror xs i j ((j-i)/2)) k=if i<=k/\k<j then KI xs (i+j-1-k) else KI xs k:=by
 have e:=getElem?_mirror_all (i:=i) hj k;by_cases h1:i<=k/\k<j
 .rw[ax h1] at e;rw[ax h1];exact jBM e
 .rw[aq h1] at e;rw[aq h1];exact jBM e
theorem jA1(hj:j<=xs.size)(heq:∀k,i<=k->k<j->KI xs k=KI xs (j-1))(k:Nat):
  KI (mirror xs i j ((j-i)/2)) k=KI xs k:=by
 rw[jCK hj];split
 .rename_i h;rw[heq _ Aa Aa,heq k h.1 h.2]
 .rfl
def Up(xs:Array Keyed)(lo n:Nat):Prop:=∀i j,lo<=i->i<=j->j<lo+n->KI xs i<=KI xs j
def Dn(xs:Array Keyed)(lo n:Nat):Prop:=∀i j,lo<=i->i<=j->j<lo+n->KI xs j<=KI xs i
structure BB (a₀:Array Keyed)(p:Array (Nat×Nat×Nat))(F:Nat->Int)(lo:Nat)(st:SortSt):Prop where
 perm:(arrOf st).Perm a₀
 kind:kindOf st=Od.kd
 failed:failedOf st=none
 pend:pendingOf st=p
 low:∀k,k<lo->KI (arrOf st) k=F k
def jSH(hp:xs.Perm a₀)(h0:AllI a₀.toList)(hi:i<a₀.size):∃q,xs[i]?=some q/\IsI q/\key q=KI xs i:=by
 have hi':i<xs.size:=by rw[hp.size_eq];exact hi
 have hm:xs[i]∈a₀.toList:=(cz.mp hp).mem_iff.mp Ad;have e:xs[i]?=some xs[i]:=lv _ i hi';exact⟨xs[i],e,h0 _ hm,by unfold KI;rw[e]⟩
section
variable {prog:Program}{w:World}{A:Around}{E:Ah}{s:Shared} [LtOk prog w A s]{a₀:Array Keyed}{p:Array (Nat×Nat×Nat)}{F:Nat->Int}{lo:Nat}
def BB.sz{st:SortSt}(h:BB a₀ p F lo st):(arrOf st).size=a₀.size:=h.perm.size_eq
def BB.arr{st:SortSt}(h:BB a₀ p F lo st){xs:Array Keyed}(hp:xs.Perm (arrOf st))(hl:∀k,k<lo->KI xs k=KI (arrOf st) k):BB a₀ p F lo (setArr st xs):=
 ⟨hp.trans h.perm,h.kind,h.failed,h.pend,λk hk=>(hl k hk).trans (h.low k hk)⟩
theorem jCL{st:SortSt}{Q:Option Bool->SortSt->Prop}(hB:BB a₀ p F lo st)(h0:AllI a₀.toList)(hi:i<a₀.size)(hj:j<a₀.size)
  (h:Q (some (decide (KI (arrOf st) i<KI (arrOf st) j))) st):wpS (model prog w) A E s (ltAt' i j) Q st:=by
 obtain⟨x,e1,i1,k1⟩:=jSH hB.perm h0 hi;obtain⟨y,e2,i2,k2⟩:=jSH hB.perm h0 hj;rw[ltAt'_eq];refine aG (gA ?_);show wpS _ _ _ _ (do let x <- elem' (arrOf st) i;let y <- elem' (arrOf st) j;lt' x y) Q st;rw[elem'_eq,elem'_eq,e1,e2];refine aG (aL (aG (aL (jGH hB.kind i1 i2 ?_))));rw[k1,k2];exact h
theorem Up.one:Up xs lo 1:=λi j h1 h2 h3=>by
 have:i=j:=Aa;rw[this];exact cL _
theorem Dn.one:Dn xs lo 1:=λi j h1 h2 h3=>by
 have:i=j:=Aa;rw[this];exact cL _
theorem Up.more(h:Up xs lo n)(hn:0<n)(hc:KI xs (lo+n-1)<=KI xs (lo+n)):Up xs lo (n+1):=λi j h1 h2 h3=>by
 by_cases e:j<lo+n
 .exact h i j h1 h2 e
 .have ej:j=lo+n:=Aa;subst ej;by_cases ei:i=lo+n
  .rw[ei];exact cL _
  .exact cQ (h i (lo+n-1) h1 Aa Aa) hc
theorem Dn.more(h:Dn xs lo n)(hn:0<n)(hc:KI xs (lo+n)<=KI xs (lo+n-1)):Dn xs lo (n+1):=λi j h1 h2 h3=>by
 by_cases e:j<lo+n
 .exact h i j h1 h2 e
 .have ej:j=lo+n:=Aa;subst ej;by_cases ei:i=lo+n
  .rw[ei];exact cL _
  .exact cQ hc (h i (lo+n-1) h1 Aa Aa)
def Dn.congr(h:Dn xs lo n)(e:∀k,KI ys k=KI xs k):Dn ys lo n:=λi j h1 h2 h3=>by
 rw[e i,e j];exact h i j h1 h2 h3
theorem jFH{st:SortSt}{nrem:Nat}{Q:Option Nat->SortSt->Prop}(h0:AllI a₀.toList)(hn:lo+nrem<=a₀.size)(hn1:1<=nrem)(hB:BB a₀ p F lo st)
  (h:∀m st',BB a₀ p F lo st'->1<=m->m<=nrem->Up (arrOf st') lo m->Q (some m) st'):wpS (model prog w) A E s (countRun' lo nrem) Q st:=by
 rw[countRun'_eq];dsimp only;refine aG (cY (b9 (I:=λx c st'=>st'=st/\c=(none,x)/\Up (arrOf st) lo x)
  (Q:=λc st'=>st'=st/\∃n,c=(none,n)/\1<=n/\n<=nrem/\Up (arrOf st) lo n/\(n=nrem\/KI (arrOf st) (lo+n)<KI (arrOf st) (lo+n-1))) ?step ?fin ⟨rfl,rfl,Up.one⟩) ?post)
 case fin=>
  rintro c st' ⟨rfl,rfl,hu⟩;rw[show max 1 nrem=nrem by lia] at hu ⊢;exact⟨rfl,nrem,rfl,hn1,ar _,hu,.inl rfl⟩
 case step=>
  rintro x c st' h1 h2 ⟨rfl,rfl,hu⟩;dsimp only;refine aG (jCL hB h0 Aa Aa ?_);dsimp only;by_cases hl:KI (arrOf st') (lo+x)<KI (arrOf st') (lo+x-1)
  .rw[ay hl,ax rfl];exact aL ⟨rfl,x,rfl,Aa,Aa,hu,.inr hl⟩
  .rw[aH hl,aq am];exact aL ⟨rfl,rfl,hu.more Aa Aa⟩
 case post=>
  rintro c st' ⟨rfl,n,rfl,n1,n2,hu,hor⟩;dsimp only;by_cases hnn:n=nrem
  .rw[ax (bp hnn)];exact aL (h n st' hB n1 n2 hu)
  rw[aq (bn hnn)];have hlt:=hor.resolve_left hnn;have hz:lo+n<=(arrOf st').size:=by rw[hB.sz];lia
  by_cases hgt:n>1
  case' pos=>
   rw[ax hgt];refine aG (jCL hB h0 Aa Aa ?_);dsimp only;by_cases hr:KI (arrOf st') lo<KI (arrOf st') (lo+n-1)
   .rw[ay hr,ax rfl];exact aL (h n st' hB n1 n2 hu)
   rw[aH hr,aq am];have hall:∀k,lo<=k->k<lo+n->KI (arrOf st') k=KI (arrOf st') (lo+n-1):=λk h1 h2=>by
    have a1:=hu lo k Aa h1 h2;have a2:=hu k (lo+n-1) h1 Aa Aa;lia
   refine aG (wpS_reverse ?_);have hB1:=hB.arr (xs:=mirror (arrOf st') lo (lo+n) ((lo+n-lo)/2)) (mirror_perm _ _ _ _) λk _=>jA1 hz hall k;have hs0:Dn (arrOf st') lo n:=λi j h1 h2 h3=>by
    rw[hall i h1 Aa,hall j Aa h3];exact cL _
   have hs1:Dn (arrOf (setArr st' (mirror (arrOf st') lo (lo+n) ((lo+n-lo)/2)))) lo (n+1):=(hs0.more Aa (cF hlt)).congr (jA1 hz hall);generalize setArr st' (mirror (arrOf st') lo (lo+n) ((lo+n-lo)/2))=st1 at*
  case' neg=>
   rw[aq hgt];have en:n=1:=Aa;have hB1:=hB;have hs1:Dn (arrOf st') lo (n+1):=by
    rw[en] at hlt ⊢;exact Dn.one.more Aa (cF hlt)
  all_goals
   refine aG (ir (cG ⟨rfl,?_⟩));refine aG (cY (b9 (I:=λx c st'=>∃q,c=(none,x,q)/\BB a₀ p F lo st'/\Dn (arrOf st') lo x/\q+1<=x/\∀i,lo+x-(q+1)<=i->i<lo+x->KI (arrOf st') i=KI (arrOf st') (lo+x-1))
    (Q:=λc st'=>∃m q,c=(none,m,q)/\1<=m/\m<=nrem/\BB a₀ p F lo st'/\Dn (arrOf st') lo m/\q+1<=m/\∀i,lo+m-(q+1)<=i->i<lo+m->KI (arrOf st') i=KI (arrOf st') (lo+m-1)) ?dstep ?dfin ⟨0,rfl,hB1,hs1,Aa,λi h1 h2=>by congr 1;lia⟩) ?dpost)
   case dfin=>
    rintro c st' ⟨q,rfl,hb,hd,hq,he⟩;rw[show max (n+1) nrem=nrem by lia] at hd hq he ⊢;exact⟨nrem,q,rfl,Aa,Aa,hb,hd,hq,he⟩
   case dstep=>
    rintro x c st' h1 h2 ⟨q,rfl,hb,hd,hq,he⟩;dsimp only;have hz:lo+x<=(arrOf st').size:=by rw[hb.sz];lia
    refine aG (jCL hb h0 Aa Aa ?_);dsimp only;by_cases hl:KI (arrOf st') (lo+x)<KI (arrOf st') (lo+x-1)
    .rw[ay hl,ax rfl];have d1:=hd.more Aa (cF hl);by_cases hq0:q>0
     .rw[ax hq0];refine aG (wpS_reverse (aL ⟨0,rfl,hb.arr (mirror_perm _ _ _ _) λk _=>jA1 hz he k,d1.congr (jA1 hz he),Aa,λi h1 h2=>by congr 1;lia⟩))
     .rw[aq hq0];exact aL ⟨0,rfl,hb,d1,Aa,λi h1 h2=>by congr 1;lia⟩
    .rw[aH hl,aq am];refine aG (jCL hb h0 Aa Aa ?_);dsimp only;by_cases hg:KI (arrOf st') (lo+x-1)<KI (arrOf st') (lo+x)
     .rw[ay hg,ax rfl];exact aL ⟨x,q,rfl,Aa,Aa,hb,hd,hq,he⟩
     .rw[aH hg,aq am];have ex:KI (arrOf st') (lo+x)=KI (arrOf st') (lo+x-1):=Aa;refine aL ⟨q+1,rfl,hb,hd.more Aa Aa,Aa,λi h1 h2=>?_⟩;rw[show lo+(x+1)-1=lo+x by lia];by_cases hix:i=lo+x
      .rw[hix]
      .rw[ex];exact he i Aa Aa
   case dpost=>
    rintro c st2 ⟨m,q,rfl,m1,m2,hB2,hs2,hq,he⟩;dsimp only;have hz2:lo+m<=(arrOf st2).size:=by rw[hB2.sz];lia
    by_cases hq0:q>0
    case' pos=>
     rw[ax hq0];refine aG (wpS_reverse ?_);have hB3:=hB2.arr (xs:=mirror (arrOf st2) (lo+m-(q+1)) (lo+m) ((lo+m-(lo+m-(q+1)))/2)) (mirror_perm _ _ _ _) λk _=>jA1 hz2 he k;have hs3:Dn (arrOf (setArr st2 (mirror (arrOf st2) (lo+m-(q+1)) (lo+m) ((lo+m-(lo+m-(q+1)))/2)))) lo m:=hs2.congr (jA1 hz2 he);generalize setArr st2 (mirror (arrOf st2) (lo+m-(q+1)) (lo+m) ((lo+m-(lo+m-(q+1)))/2))=st3 at*
    case' neg=>
     rw[aq hq0];have hB3:=hB2;have hs3:=hs2;generalize st2=st3 at*
    all_goals
     have hz3:lo+m<=(arrOf st3).size:=by rw[hB3.sz];lia
     refine aG (wpS_reverse ?_);have hB4:=hB3.arr (xs:=mirror (arrOf st3) lo (lo+m) ((lo+m-lo)/2)) (mirror_perm _ _ _ _) λk hk=>by
      rw[jCK hz3,aq Aa]
     have hU:Up (mirror (arrOf st3) lo (lo+m) ((lo+m-lo)/2)) lo m:=λi j h1 h2 h3=>by
      rw[jCK hz3,jCK hz3,ax ⟨h1,Aa⟩,ax ⟨Aa,h3⟩];exact hs3 _ _ Aa Aa Aa
     generalize mirror (arrOf st3) lo (lo+m) ((lo+m-lo)/2)=xs4 at*;refine aG (cY (b9 (I:=λx c st'=>st'=setArr st3 xs4/\c=(none,x)/\Up xs4 lo x)
      (Q:=λc st'=>st'=setArr st3 xs4/\∃n,c=(none,n)/\1<=n/\n<=nrem/\Up xs4 lo n) ?tstep ?tfin ⟨rfl,rfl,hU⟩) ?tpost)
     case tfin=>
      rintro c st' ⟨rfl,rfl,hu⟩;rw[show max m nrem=nrem by lia] at hu ⊢;exact⟨rfl,nrem,rfl,Aa,Aa,hu⟩
     case tstep=>
      rintro x c st' h1 h2 ⟨rfl,rfl,hu⟩;dsimp only;refine aG (jCL hB4 h0 Aa Aa ?_);dsimp only;by_cases hl:KI xs4 (lo+x)<KI xs4 (lo+x-1)
      .rw[ay hl,ax rfl];exact aL ⟨rfl,x,rfl,Aa,Aa,hu⟩
      .rw[aH hl,aq am];exact aL ⟨rfl,rfl,hu.more Aa Aa⟩
     case tpost=>
      rintro c st' ⟨rfl,n,rfl,n1,n2,hu⟩;exact aL (h n _ hB4 n1 n2 hu)
theorem jDU{st:SortSt}{ok:Nat}{Q:Bool->SortSt->Prop}(h0:AllI a₀.toList)(hn:lo+n<=a₀.size)(hok:ok<=n)(hB:BB a₀ p F lo st)(hs:Up (arrOf st) lo ok)
  (h:∀st',BB a₀ p F lo st'->Up (arrOf st') lo n->Q true st'):wpS (model prog w) A E s (binarySort' lo n ok) Q st:=by
 rw[binarySort'_eq];dsimp only;refine aG (cY (b9 (I:=λk c st'=>c=(none,())/\BB a₀ p F lo st'/\Up (arrOf st') lo (min k n))
  (Q:=λc st'=>c=(none,())/\BB a₀ p F lo st'/\Up (arrOf st') lo n) ?step ?fin ⟨rfl,hB,?init⟩) ?post)
 case post=>
  rintro c st' ⟨rfl,hb,hu⟩;exact aL (h st' hb hu)
 case init=>
  by_cases e:ok=0
  .intro i j h1 h2 h3;have:i=j:=Aa;rw[this];exact cL _
  .exact λi j h1 h2 h3=>hs i j h1 h2 Aa
 case fin=>
  rintro c st' ⟨hc,hb,hu⟩;rw[show min (max (max ok 1) n) n=n by lia] at hu;exact⟨hc,hb,hu⟩
 case step=>
  rintro k c st1 hk1 hk2 ⟨rfl,hb,hu⟩;rw[show min k n=k by lia] at hu;refine aG (cY (b9 (I:=λx c st'=>st'=st1/\∃l r,c=(none,l,r)/\l<=r/\r<=k/\r-l<=k-x/\
    (∀i,i<l->KI (arrOf st1) (lo+i)<=KI (arrOf st1) (lo+k))/\∀i,r<=i->i<k->KI (arrOf st1) (lo+k)<KI (arrOf st1) (lo+i))
   (Q:=λc st'=>st'=st1/\∃l r,c=(none,l,r)/\l<=k/\
    (∀i,i<l->KI (arrOf st1) (lo+i)<=KI (arrOf st1) (lo+k))/\∀i,l<=i->i<k->KI (arrOf st1) (lo+k)<KI (arrOf st1) (lo+i)) ?step1 ?fin1 ⟨rfl,0,k,rfl,Aa,Aa,Aa,λi hi=>by lia,λi h1 h2=>by lia⟩) ?post1)
  case fin1=>
   rintro c st' ⟨rfl,l,r,rfl,b1,b2,b3,b4,b5⟩;have:l=r:=Aa;subst this;exact⟨rfl,l,l,rfl,b2,b4,b5⟩
  case step1=>
   rintro x c st' _ hx ⟨rfl,l,r,rfl,b1,b2,b3,b4,b5⟩;dsimp only;by_cases hge:l ≥ r
   .rw[ax hge];have:l=r:=Aa;subst this;exact aL ⟨rfl,l,l,rfl,b2,b4,b5⟩
   rw[aq hge];refine aG (jCL hb h0 Aa Aa ?_);dsimp only;by_cases hl:KI (arrOf st') (lo+k)<KI (arrOf st') (lo+(l+r)/2)
   .rw[ay hl,ax rfl];exact aL ⟨rfl,l,(l+r)/2,rfl,Aa,Aa,Aa,b4,λi h1 h2=>Int.lt_of_lt_of_le hl (hu _ _ Aa Aa Aa)⟩
   .rw[aH hl,aq am];exact aL ⟨rfl,(l+r)/2+1,r,rfl,Aa,Aa,Aa,λi h1=>cQ (hu (lo+i) (lo+(l+r)/2) Aa Aa Aa) (Int.not_lt.mp hl),b5⟩
  case post1=>
   rintro c st' ⟨rfl,l,r,rfl,hlk,b4,b5⟩;dsimp only;rw[moveDown'_eq];have hks:lo+k<(arrOf st').size:=by rw[hb.sz];lia
   have kb:∀x,KI (bubble (arrOf st') (lo+k) (lo+k-(lo+l))) x=if x=lo+l then KI (arrOf st') (lo+k) else if lo+l<x/\x<=lo+k then KI (arrOf st') (x-1) else KI (arrOf st') x:=λx=>by
    have:=jPI hks (d:=lo+k-(lo+l)) Aa x;rw[show lo+k-(lo+k-(lo+l))=lo+l by lia] at this;exact this
   refine aG (dZ (aL ⟨rfl,hb.arr (bubble_perm _ _ _) λx hx=>?_,?_⟩))
   .rw[kb,aq Aa,aq Aa]
   rw[show min (k+1) n=k+1 by lia];intro i j h1 h2 h3;show KI (bubble _ _ _) i<=KI (bubble _ _ _) j;rw[kb,kb];have lo1:∀i,lo<=i->i<lo+l->KI (arrOf st') i<=KI (arrOf st') (lo+k):=λi h1 h2=>by
    have:=b4 (i-lo) Aa;rw[show lo+(i-lo)=i by lia] at this;exact this
   have hi1:∀i,lo+l<=i->i<lo+k->KI (arrOf st') (lo+k)<=KI (arrOf st') i:=λi h1 h2=>by
    have:=b5 (i-lo) Aa Aa;rw[show lo+(i-lo)=i by lia] at this;exact cF this
   repeat' split
   all_goals first
    | (exfalso;lia)
    |exact cL _
    |exact lo1 _ Aa Aa
    |exact hi1 _ Aa Aa
    |exact hu _ _ Aa Aa Aa
end
def mergeAtB: {g:Nat->StateT SortSt Sem Bool // mergeAt'=g}:=⟨λ_=>bind _ _,rfl⟩
def KI_key{xs:Array Keyed}{i:Nat}{p:Keyed}(h:xs[i]?=some p):KI xs i=key p:=by
 unfold KI;rw[h]
def jJT(s1:Nat):∀(l:List Keyed) (j0:Nat) (a:Array Keyed) (P M S:List Keyed),P.length=s1+j0->M.length=l.length->a.toList=P++(M++S)->
  ((l.zipIdx j0).foldl (λ(a:Array Keyed) (x:Keyed×Nat)=>a.setIfInBounds (s1+x.2) x.1) a).toList=P++(l++S)
 |[],j0,a,P,M,S,h1,h2,h3=>by
  rw[cI h2] at h3;exact h3
 |q::l,j0,a,P,[],S,h1,h2,h3=>by cases h2
 |q::l,j0,a,P,m::M,S,h1,h2,h3=>by
  rw[iW,List.foldl_cons];have:=jJT s1 l (j0+1) (a.setIfInBounds (s1+j0) q) (P++[q]) M S (by rw[ak,h1];rfl) (Nat.succ.inj h2) (by
   rw[ix,h3,<- h1,jn _ _ (ar _),fY,aY];rfl)
  rw[this,aY];rfl
theorem jUG{P m1 m2 S:List Keyed}(e:m1.length=m2.length){k:Nat}(h:k<P.length\/P.length+m1.length<=k):(P++(m1++S))[k]?=(P++(m2++S))[k]?:=by
 rcases h with h|h
 .rw[bK h,bK h]
 .rw[be Aa,be Aa,be Aa,be Aa,e]
theorem jWY{P S:List Keyed}{k:Nat}(h1:P.length<=k)(h2:k<P.length+m.length):(P++(m++S))[k]?=m[k-P.length]?:=by
 rw[be h1,bK Aa]
def jKT{xs:Array Keyed}{i j t:Nat}(h:t<j-i):(xs.extract i j).toList[t]?=xs[i+t]?:=by
 rw[jAI,cn h,fo,bH]
theorem jD0(h:p∈(xs.extract i j).toList):∃t,i<=t/\t<j/\xs[t]?=some p:=by
 rw[jAI] at h;obtain⟨t,h1,h2,h3⟩:=jA3 h;exact⟨t,h1,Aa,at_list.mpr h3⟩
theorem jEJ(h:j<=xs.size):(xs.extract i j).size=j-i:=by
 rw[Array.size_extract];lia
theorem jOV(h:∀n m x y,i<=n->n<=m->m<j->xs[n]?=some x->xs[m]?=some y->LE x y):Srt (xs.extract i j).toList:=by
 refine bY.mpr λa b ha hb hab=>?_;have hl:(xs.extract i j).toList.length<=j-i:=by rw[jAI,bi];lia
 have e1:=jKT (xs:=xs) (i:=i) (j:=j) (t:=a) Aa;have e2:=jKT (xs:=xs) (i:=i) (j:=j) (t:=b) Aa;rw[az ha] at e1;rw[az hb] at e2;exact h (i+a) (i+b) _ _ Aa Aa Aa e1.symm e2.symm
def KI_at(h:xs.toList[i]?=ys.toList[j]?):KI xs i=KI ys j:=jBM (by rw[<- bH,<- bH];exact h)
theorem jLF{xs r R:Array Keyed}{sa na sb nb k1 k2:Nat}(hsb:sb=sa+na)(hk1:k1<na)(hk2:0<k2)(hk2':k2<=nb)(hz:sb+nb<=xs.size)
  (u1:Up xs sa na) (u2:Up xs sb nb) (g2:∀t,sa<=t->t<sa+k1->KI xs t<=KI xs sb) (l3:∀t,sb+k2<=t->t<sb+nb->KI xs (sb-1)<=KI xs t)
  (D:yV (xs.extract (sa+k1) sb) (xs.extract sb (sb+k2)) r)
  (hR:R.toList=xs.toList.take (sa+k1)++(r.toList++xs.toList.drop (sb+k2))):
  R.Perm xs/\(∀k,k<sa\/sa+(na+nb)<=k->KI R k=KI xs k)/\Up R sa (na+nb):=by
 have lr:r.toList.length=sb+k2-(sa+k1):=by
  rw[D.1.length_eq,ak,aI,aI,jEJ Aa,jEJ Aa];lia
 have lP:(xs.toList.take (sa+k1)).length=sa+k1:=by rw[bi,aI];lia
 have hX:xs.toList=xs.toList.take (sa+k1)++(((xs.extract (sa+k1) sb).toList++(xs.extract sb (sb+k2)).toList)++xs.toList.drop (sb+k2)):=by
  have a1:=bw (sa+k1) xs.toList;have a2:=bw (sb-(sa+k1)) (xs.toList.drop (sa+k1));have a3:=bw k2 (xs.toList.drop sb);rw[iq] at a2 a3;rw[show sa+k1+(sb-(sa+k1))=sb by lia] at a2;rw[jAI,jAI,cM,aY,a3,a2,a1]
 have lm:((xs.extract (sa+k1) sb).toList++(xs.extract sb (sb+k2)).toList).length=r.toList.length:=D.1.length_eq.symm;have out:∀k,k<sa+k1\/sb+k2<=k->KI R k=KI xs k:=λk hk=>KI_at (by
  have:=jUG (P:=xs.toList.take (sa+k1)) (S:=xs.toList.drop (sb+k2)) lm.symm (k:=k) (by rw[lP,lr];lia);exact(bW (·[k]?) hR).trans (this.trans (bW (·[k]?) hX).symm))
 have inn:∀k,sa+k1<=k->k<sb+k2->R.toList[k]?=r.toList[k-(sa+k1)]?:=λk h1 h2=>by
  rw[hR,jWY (by rw[lP];exact h1) (by rw[lP,lr];lia),lP]
 have mem:∀k,sa+k1<=k->k<sb+k2->∃t,sa+k1<=t/\t<sb+k2/\KI R k=KI xs t:=λk h1 h2=>by
  have hk:k-(sa+k1)<r.toList.length:=Aa;have e:=inn k h1 h2;rw[az hk] at e;have hm:=D.1.mem_iff.mp (cK hk);rcases aM.mp hm with q|q
  .obtain⟨t,t1,t2,t3⟩:=jD0 q;exact⟨t,t1,Aa,(KI_key (at_list.mpr e)).trans (KI_key t3).symm⟩
  .obtain⟨t,t1,t2,t3⟩:=jD0 q;exact⟨t,Aa,t2,(KI_key (at_list.mpr e)).trans (KI_key t3).symm⟩
 have srt:∀i j,sa+k1<=i->i<=j->j<sb+k2->KI R i<=KI R j:=λi j h1 h2 h3=>by
  have hi:i-(sa+k1)<r.toList.length:=Aa;have hj:j-(sa+k1)<r.toList.length:=Aa;have e1:=inn i h1 Aa;have e2:=inn j Aa h3;rw[az hi] at e1;rw[az hj] at e2;rw[KI_key (at_list.mpr e1),KI_key (at_list.mpr e2)];exact jEY D.2 (az hi) (az hj) Aa
 have low:∀t u,sa<=t->t<sa+k1->t<=u->u<sb+nb->KI xs t<=KI xs u:=λt u h1 h2 h3 h4=>by
  by_cases e:u<sb
  .exact u1 t u h1 h3 Aa
  .exact cQ (g2 t h1 h2) (u2 sb u (ar _) Aa h4)
 have high:∀t u,sa<=t->t<=u->sb+k2<=u->u<sb+nb->KI xs t<=KI xs u:=λt u h1 h2 h3 h4=>by
  by_cases e:t<sb
  .exact cQ (u1 t (sb-1) h1 Aa Aa) (l3 u h3 h4)
  .exact u2 t u Aa h2 h4
 refine⟨?_,λk hk=>out k Aa,λi j h1 h2 h3=>?_⟩
 .refine cz.mpr ?_;rw[hR];refine List.Perm.trans ?_ (jf hX.symm);exact cS _ (fV _ D.1)
 .have h3:j<sb+nb:=Aa;by_cases i1:i<sa+k1
  .rw[out i (.inl i1)];by_cases j1:j<sa+k1
   .rw[out j (.inl j1)];exact low i j h1 i1 h2 h3
   by_cases j2:j<sb+k2
   .obtain⟨t,t1,t2,t3⟩:=mem j Aa j2;rw[t3];exact low i t h1 i1 Aa Aa
   .rw[out j (.inr Aa)];exact low i j h1 i1 h2 h3
  by_cases i2:i<sb+k2
  .by_cases j2:j<sb+k2
   .exact srt i j Aa h2 j2
   .obtain⟨t,t1,t2,t3⟩:=mem i Aa i2;rw[t3,out j (.inr Aa)];exact high t j Aa Aa Aa h3
  .rw[out i (.inr Aa),out j (.inr Aa)];exact high i j h1 h2 Aa h3
section
variable {prog:Program}{w:World}{A:Around}{E:Ah}{s:Shared} [LtOk prog w A s]
def jSS{st:SortSt}{Q:PUnit->SortSt->Prop}(h:Q ⟨⟩ st'):wpS (model prog w) A E s (set st':StateT SortSt Sem PUnit) Q st:=dZ (f:=λ_=>st') h
def jLZ{α:Type}{a b:α}{Q:α->SortSt->Prop}{st:SortSt}(e:a=b)(h:Q b st):wpS (model prog w) A E s (pure a:StateT SortSt Sem α) Q st:=aL (e ▸ h)
structure Merged (st st':SortSt)(i sa na sb nb pw:Nat):Prop where
 perm:(arrOf st').Perm (arrOf st)
 kind:kindOf st'=Od.kd
 failed:failedOf st'=none
 pend:pendingOf st'=((pendingOf st).setIfInBounds i (sa,na+nb,pw)).eraseIdxIfInBounds (i+1)
 out:∀k,k<sa\/sa+(na+nb)<=k->KI (arrOf st') k=KI (arrOf st) k
 up:Up (arrOf st') sa (na+nb)
theorem jI7{st:SortSt}{sa na pw sb nb w2:Nat}{Q:Bool->SortSt->Prop}(hk:kindOf st=Od.kd)(hf:failedOf st=none)(hI:AllI (arrOf st).toList)
  (h1:(pendingOf st)[i]?=some (sa,na,pw)) (h2:(pendingOf st)[i+1]?=some (sb,nb,w2)) (hsb:sb=sa+na) (hna:0<na) (hnb:0<nb) (hz:sb+nb<=(arrOf st).size)
  (u1:Up (arrOf st) sa na) (u2:Up (arrOf st) sb nb) (h:∀st',Merged st st' i sa na sb nb pw->Q true st'):wpS (model prog w) A E s (mergeAt' i) Q st:=by
 rw[mergeAtB.2]
 delta mergeAtB
 dsimp only;simp only[elP,ltP,ltAtP,jJ9,jQQ,jQR];refine aG (gA ?_);rw[h1,h2];dsimp only;refine aG (jSS ?_);generalize hpp:((pendingOf st).setIfInBounds i (sa,na+nb,pw)).eraseIdxIfInBounds (i+1)=pp;show wpS _ _ _ _ _ _ (SortSt.mk' (kindOf st) (arrOf st) pp (gallopOf st) (failedOf st));generalize hst1:SortSt.mk' (kindOf st) (arrOf st) pp (gallopOf st) (failedOf st)=st1;have G1:kindOf st1=kindOf st/\arrOf st1=arrOf st/\pendingOf st1=pp/\failedOf st1=failedOf st:=by rw[<- hst1];exact⟨rfl,rfl,rfl,rfl⟩
 have at_:∀t,t<(arrOf st).size->∃q,(arrOf st)[t]?=some q/\IsI q:=λt ht=>by
  obtain⟨q,q1,q2⟩:=qV ht;exact⟨q,q1,hI q (aJ q2)⟩
 have m1:∀n m x y,sa<=n->n<=m->m<sa+na->(arrOf st)[n]?=some x->(arrOf st)[m]?=some y->LE x y:=λn m x y a1 a2 a3 hx hy=>by
  have:=u1 n m a1 a2 a3;rw[KI_key hx,KI_key hy] at this;exact this
 have m2:∀n m x y,sb<=n->n<=m->m<sb+nb->(arrOf st)[n]?=some x->(arrOf st)[m]?=some y->LE x y:=λn m x y a1 a2 a3 hx hy=>by
  have:=u2 n m a1 a2 a3;rw[KI_key hx,KI_key hy] at this;exact this
 obtain⟨pb,hpb,ipb⟩:=at_ sb Aa;refine aG (kB hpb ?_);refine aG (jKQ (G1.1.trans hk) ipb hI m1 hna (show sa+na<=(arrOf st).size by lia) λk1 g1 g2 g3=>?_);dsimp only;have g2:∀t,sa<=t->t<sa+k1->KI (arrOf st) t<=KI (arrOf st) sb:=λt t1 t2=>by
  obtain⟨q,hq,_⟩:=at_ t Aa;rw[KI_key hq,KI_key hpb];exact g2 t q t1 t2 hq
 by_cases e1:na-k1=0
 .rw[ax (bp e1)];refine aL (h _ ⟨?_,G1.1.trans hk,G1.2.2.2.trans hf,G1.2.2.1.trans hpp.symm,λk _=>?_,?_⟩)
  .rw[G1.2.1]
  .rw[G1.2.1]
  .rw[G1.2.1];intro i j i1 i2 i3;by_cases a:i<sb
   .by_cases b:j<sb
    .exact u1 i j i1 i2 Aa
    .exact cQ (g2 i i1 Aa) (u2 sb j (ar _) Aa Aa)
   .exact u2 i j Aa i2 Aa
 rw[aq (bn e1)];obtain⟨pa,hpa,ipa⟩:=at_ (sa+k1+(na-k1)-1) Aa;refine aG (kB hpa ?_);refine aG (jKR (G1.1.trans hk) ipa hI m2 Aa (show sb+nb<=(arrOf st).size by lia) λk2 l1 l2 l3=>?_);dsimp only;have epa:sa+k1+(na-k1)-1=sb-1:=Aa;rw[epa] at hpa;have l3':∀t,sb+k2<=t->t<sb+nb->KI (arrOf st) (sb-1)<=KI (arrOf st) t:=λt t1 t2=>by
  obtain⟨q,hq,_⟩:=at_ t Aa;rw[KI_key hq,KI_key hpa];exact l3 t q t1 t2 hq
 by_cases e2:k2=0
 .rw[ax (bp e2)];refine aL (h _ ⟨?_,G1.1.trans hk,G1.2.2.2.trans hf,G1.2.2.1.trans hpp.symm,λk _=>?_,?_⟩)
  .rw[G1.2.1]
  .rw[G1.2.1]
  .rw[G1.2.1];intro i j i1 i2 i3;by_cases a:i<sb
   .by_cases b:j<sb
    .exact u1 i j i1 i2 Aa
    .exact cQ (u1 i (sb-1) i1 Aa Aa) (l3' j Aa Aa)
   .exact u2 i j Aa i2 Aa
 rw[aq (bn e2)];have T:Two ((arrOf st).extract (sa+k1) sb) ((arrOf st).extract sb (sb+k2)):=by
  refine⟨λq hq=>?_,λq hq=>?_,jOV λn m x y a1 a2 a3=>m1 n m x y Aa a2 Aa,jOV λn m x y a1 a2 a3=>m2 n m x y Aa a2 Aa,?_,?_,λx hx y hy=>?_,λy hy q hq=>?_⟩
  .obtain⟨t,_,_,t3⟩:=jD0 hq;exact hI q (aJ (at_list.mp t3))
  .obtain⟨t,_,_,t3⟩:=jD0 hq;exact hI q (aJ (at_list.mp t3))
  .rw[jEJ Aa];lia
  .rw[jEJ Aa];lia
  .obtain⟨t,t1,t2,t3⟩:=jD0 hx;rw[jEJ Aa,jKT Aa,show sa+k1+(sb-(sa+k1)-1)=sb-1 by lia,hpa] at hy;cases hy;exact l2 t x t1 t2 t3
  .obtain⟨t,t1,t2,t3⟩:=jD0 hy;rw[jKT Aa,lu,hpb] at hq;cases hq;exact g3 t y t1 Aa t3
 by_cases e3:na-k1<=k2
 case' pos=>
  rw[ax e3];refine aG (jI5 (G1.1.trans hk) T λr st2 D G0=>?_);have G:SG (SortSt.mk' (kindOf st) (arrOf st) pp (gallopOf st) (failedOf st)) st2:=by rw[hst1];exact G0
  subst hpp
 case' neg=>
  rw[aq e3];refine aG (jI6 (G1.1.trans hk) T λr st2 D G0=>?_);have G:SG (SortSt.mk' (kindOf st) (arrOf st) pp (gallopOf st) (failedOf st)) st2:=by rw[hst1];exact G0
  subst hpp
 all_goals
  refine aG (dZ (aG (gA ?_)));have ea:arrOf st2=arrOf st:=G.a;have W:=jLF (R:=((r.toList.zipIdx 0).foldl (λ(a:Array Keyed) (x:Keyed×Nat)=>a.setIfInBounds (sa+k1+x.2) x.1) (arrOf st))) hsb Aa Aa l1 hz u1 u2 g2 l3' D (jJT (sa+k1) r.toList 0 (arrOf st) ((arrOf st).toList.take (sa+k1)) (((arrOf st).extract (sa+k1) sb).toList++((arrOf st).extract sb (sb+k2)).toList) ((arrOf st).toList.drop (sb+k2)) (by rw[bi,aI];lia) D.1.length_eq.symm (by
   have a1:=bw (sa+k1) (arrOf st).toList;have a2:=bw (sb-(sa+k1)) ((arrOf st).toList.drop (sa+k1));have a3:=bw k2 ((arrOf st).toList.drop sb);rw[iq] at a2 a3;rw[show sa+k1+(sb-(sa+k1))=sb by lia] at a2;rw[jAI,jAI,cM,aY,a3,a2,a1]))
  rw[<- ea] at W;refine jLZ (by show (failedOf st2).isNone=true;rw[G.f];show (failedOf st).isNone=true;rw[hf];rfl) (h _ ⟨?_,G.k.trans hk,G.f.trans hf,G.p,?_,?_⟩)
  .rw[<- ea];exact W.1
  .rw[<- ea];exact W.2.1
  .exact W.2.2
end
def Runs(xs:Array Keyed):List (Nat×Nat×Nat)->Nat->Nat->Prop
 |[],a,b=>a=b
 | (s,n,_)::t,a,b=>s=a/\0<n/\Up xs s n/\Runs xs t (a+n) b
section
variable {xs ys:Array Keyed}
theorem Runs.le:∀{l:List (Nat×Nat×Nat)}{a b:Nat},Runs xs l a b->a+l.length<=b
 |[],a,b,h=>by have:a=b:=h;rw[cE];lia
 | (s,n,_)::t,a,b,⟨_,h2,_,h4⟩=>by
  have:=Runs.le h4;rw[aV];lia
def Runs.app:∀{l m:List (Nat×Nat×Nat)}{a b:Nat},Runs xs (l++m) a b->∃c,Runs xs l a c/\Runs xs m c b
 |[],m,a,b,h=>⟨a,rfl,h⟩
 | (s,n,_)::t,m,a,b,⟨h1,h2,h3,h4⟩=>by
  obtain⟨c,c1,c2⟩:=Runs.app h4;exact⟨c,⟨h1,h2,h3,c1⟩,c2⟩
def Runs.put:∀{l m:List (Nat×Nat×Nat)}{a b c:Nat},Runs xs l a c->Runs xs m c b->Runs xs (l++m) a b
 |[],m,a,b,c,h,g=>by have:a=c:=h;subst this;exact g
 | (s,n,_)::t,m,a,b,c,⟨h1,h2,h3,h4⟩,g=>⟨h1,h2,h3,Runs.put h4 g⟩
theorem Up.same{lo n:Nat}(h:Up xs lo n)(e:∀k,lo<=k->k<lo+n->KI ys k=KI xs k):Up ys lo n:=λi j h1 h2 h3=>by
 rw[e i h1 Aa,e j Aa h3];exact h i j h1 h2 h3
theorem Runs.same:∀{l:List (Nat×Nat×Nat)}{a b:Nat},Runs xs l a b->(∀k,a<=k->k<b->KI ys k=KI xs k)->Runs ys l a b
 |[],a,b,h,_=>h
 | (s,n,_)::t,a,b,⟨h1,h2,h3,h4⟩,e=>by
  have:=Runs.le h4;exact⟨h1,h2,h3.same λk k1 k2=>e k Aa Aa,Runs.same h4 λk k1 k2=>e k Aa k2⟩
def Runs.mod{f:Nat×Nat×Nat->Nat×Nat×Nat}(hf:∀x,(f x).1=x.1/\(f x).2.1=x.2.1):∀{l:List (Nat×Nat×Nat)}{i a b:Nat},Runs xs l a b->Runs xs (l.modify i f) a b
 |[],i,a,b,h=>by rw[List.modify_nil];exact h
 | (s,n,w)::t,0,a,b,⟨h1,h2,h3,h4⟩=>by
  rw[List.modify_zero_cons];obtain⟨e1,e2⟩:=hf (s,n,w);generalize f (s,n,w)=v at e1 e2 ⊢;obtain⟨s',n',w'⟩:=v;have e1:s'=s:=e1;have e2:n'=n:=e2;subst e1 e2;exact⟨h1,h2,h3,h4⟩
 | (s,n,w)::t,i+1,a,b,⟨h1,h2,h3,h4⟩=>by
  rw[List.modify_succ_cons];exact⟨h1,h2,h3,Runs.mod hf h4⟩
end
structure RI (a₀:Array Keyed)(lo:Nat)(st:SortSt):Prop where
 perm:(arrOf st).Perm a₀
 kind:kindOf st=Od.kd
 failed:failedOf st=none
 runs:Runs (arrOf st) (pendingOf st).toList 0 lo
theorem jGQ:∀(l:List (Nat×Nat×Nat)) (i:Nat),i+1<l.length->∃u x y t,l=u++x::y::t/\u.length=i
 |[],i,h=>absurd h (d0 _)
 |[x],i,h=>by rw[gd] at h;lia
 |x::y::t,0,h=>⟨[],x,y,t,rfl,rfl⟩
 |x::y::t,i+1,h=>by
  obtain⟨u,x',y',t',e,hu⟩:=jGQ (y::t) i (by rw[aV] at h;lia);exact⟨x::u,x',y',t',by rw[e];rfl,by rw[aV,hu]⟩
def jVF(h0:AllI a₀.toList)(hp:xs.Perm a₀):AllI xs.toList:=λp hp'=>h0 p ((cz.mp hp).mem_iff.mp hp')
section
variable {prog:Program}{w:World}{A:Around}{E:Ah}{s:Shared} [LtOk prog w A s]{a₀:Array Keyed}
theorem jDT{st:SortSt}{lo:Nat}{Q:Bool->SortSt->Prop}(h0:AllI a₀.toList)(R:RI a₀ lo st)(hlo:lo<=a₀.size)(hi:i+1<(pendingOf st).size)
  (h:∀st',RI a₀ lo st'->(pendingOf st').size+1=(pendingOf st).size->(∀k,lo<=k->KI (arrOf st') k=KI (arrOf st) k)->Q true st'):wpS (model prog w) A E s (mergeAt' i) Q st:=by
 obtain⟨u,⟨sa,na,pw⟩,⟨sb,nb,w2⟩,t,e,hu⟩:=jGQ (pendingOf st).toList i (by rw[aI];exact hi);have rr:=R.runs;rw[e] at rr;obtain⟨c,r1,a1,a2,a3,a4,a5,a6,a7⟩:=Runs.app rr;have r2:=Runs.le a7;have r3:=Runs.le r1;subst a1;have e1:(pendingOf st)[i]?=some (sa,na,pw):=by
  rw[<- bH,e,be Aa,hu,fY];rfl
 have e2:(pendingOf st)[i+1]?=some (sb,nb,w2):=by
  rw[<- bH,e,be Aa,hu,cM];rfl
 have z:=R.perm.size_eq;refine jI7 R.kind R.failed (jVF h0 R.perm) e1 e2 a4 a2 a5 Aa a3 a6 λst' M=>?_;have ep:(pendingOf st').toList=u++(sa,na+nb,pw)::t:=by
  rw[M.pend,Array.toList_eraseIdxIfInBounds,ix,e,jn _ _ Aa,hu,fY,List.set_cons_zero,List.eraseIdx_append_of_length_le Aa,hu,cM];rfl
 refine h st' ⟨M.perm.trans R.perm,M.kind,M.failed,?_⟩ ?_ λk hk=>M.out k Aa
 .rw[ep];refine Runs.put (Runs.same r1 λk k1 k2=>M.out k Aa) ⟨rfl,Aa,M.up,?_⟩;have:=Runs.same (ys:=arrOf st') a7 λk k1 k2=>M.out k Aa;rw[Nat.add_assoc] at this;exact this
 .have q1:=bW List.length ep;have q2:=bW List.length e;rw[aI,ak,aV] at q1;rw[aI,ak,aV,aV] at q2;lia
def RI.of{st:SortSt}{F:Nat->Int}{lo:Nat}{p:Array (Nat×Nat×Nat)}{xs:Array Keyed}(h:BB a₀ p F lo st)(hr:Runs xs p.toList 0 lo)(hF:∀k,F k=KI xs k):RI a₀ lo st:=
 ⟨h.perm,h.kind,h.failed,by rw[h.pend];exact hr.same λk _ hk=>(h.low k hk).trans (hF k)⟩
theorem wpS_sortRunsAny{st:SortSt}{Q:Unit->SortSt->Prop}(h0:AllI a₀.toList)(hB:SB a₀ st)(h1:1<=a₀.size)
  (h:∀st',(arrOf st').Perm a₀->failedOf st'=none->STo (arrOf st') a₀.size->Q () st'):wpS (model prog w) A E s sortRuns' Q st:=by
 rw[sortRuns'_eq];refine aG (gA ?_)
 try dsimp only
 have hz:=hB.size;rw[hz];generalize minRun' a₀.size a₀.size 0=mr;refine aG (cY (b9 (I:=λx c st'=>∃lo,c=(none,lo)/\x<=lo/\lo<=a₀.size/\RI a₀ lo st')
  (Q:=λc st'=>c=(none,a₀.size)/\RI a₀ a₀.size st') ?step ?fin ⟨0,rfl,ar _,ba _,hB.perm,hB.kind,hB.failed,by rw[hB.pend];rfl⟩) ?post)
 case fin=>
  rintro c st' ⟨lo,rfl,l1,l2,R⟩;have:lo=a₀.size:=Aa;subst this;exact⟨rfl,R⟩
 case step=>
  rintro x c st1 _ hx ⟨lo,rfl,l1,l2,R1⟩
  try dsimp only
  by_cases hl:lo ≥ a₀.size
  .rw[ax hl];have:lo=a₀.size:=Aa;subst this;exact aL ⟨rfl,R1⟩
  rw[aq hl];refine aG (jFH (F:=λk=>KI (arrOf st1) k) (p:=pendingOf st1) h0 Aa Aa ⟨R1.perm,R1.kind,R1.failed,rfl,λ_ _=>rfl⟩ λm st2 B2 m1 m2 U2=>?_)
  try dsimp only
  by_cases hm:m<mr
  case' pos=>
   rw[ax hm];refine aG (ir (cG ⟨rfl,?_⟩));refine aG (jDU h0 Aa Aa B2 U2 λst4 B4 U4=>?_);have R4:=RI.of B4 R1.runs λ_=>rfl;have n0:0<min (a₀.size-lo) mr:=Aa;have n9:min (a₀.size-lo) mr<=a₀.size-lo:=Aa;generalize min (a₀.size-lo) mr=n at*
  case' neg=>
   rw[aq hm];have R4:=RI.of B2 R1.runs λ_=>rfl;have U4:=U2;generalize st2=st4 at*;generalize m=n at*
  all_goals
   refine aG (gA ?_);have last:∀st5:SortSt,RI a₀ lo st5->Up (arrOf st5) lo n->∃lo',(none,lo+n)=((none:Option PUnit),lo')/\x+1<=lo'/\lo'<=a₀.size/\RI a₀ lo' (setPending st5 ((pendingOf st5).push (lo,n,0))):=λst5 R5 U5=>
    ⟨lo+n,rfl,Aa,Aa,R5.perm,R5.kind,R5.failed,by
     show Runs (arrOf st5) ((pendingOf st5).push (lo,n,0)).toList 0 (lo+n);rw[dJ];exact R5.runs.put ⟨rfl,Aa,U5,rfl⟩⟩
   cases hb:(pendingOf st4).back? with
   |none=>
    try dsimp only
    exact aG (dZ (aL (last st4 R4 U4)))
   |some v=>
    obtain⟨s1,n1,w1⟩:=v
    try dsimp only
    refine aG (cY (b9 (I:=λ_ c st'=>c=(none,())/\RI a₀ lo st'/\Up (arrOf st') lo n) (Q:=λc st'=>c=(none,())/\RI a₀ lo st'/\Up (arrOf st') lo n) ?mstep (λ_ _ z=>z) ⟨rfl,R4,U4⟩) ?mpost)
    case mstep=>
     rintro y c st5 _ _ ⟨rfl,R5,U5⟩
     try dsimp only
     refine aG (gA ?_);by_cases hs:(pendingOf st5).size>1
     .rw[ax hs];obtain⟨v,hv⟩:∃v,(pendingOf st5)[(pendingOf st5).size-2]?=some v:=⟨_,Array.getElem?_eq_getElem Aa⟩;rw[hv];obtain⟨v1,v2,older⟩:=v
      try dsimp only
      by_cases ho:older<=power' a₀.size (2*s1+n1) (2*s1+n1+n1+n) a₀.size
      .rw[ax ho];exact aL ⟨rfl,R5,U5⟩
      rw[aq ho];refine aG (jDT h0 R5 Aa Aa λst6 R6 _ E6=>?_);exact aL ⟨rfl,R6,U5.same λk k1 _=>E6 k k1⟩
     .rw[aq hs];exact aL ⟨rfl,R5,U5⟩
    case mpost=>
     rintro c st5 ⟨rfl,R5,U5⟩
     try dsimp only
     refine aG (dZ (aG (dZ (aL (last (setPending st5 ((pendingOf st5).modify ((pendingOf st5).size-1) λx=>(x.1,x.2.1,power' a₀.size (2*s1+n1) (2*s1+n1+n1+n) a₀.size))) ⟨R5.perm,R5.kind,R5.failed,?_⟩ U5)))));show Runs (arrOf st5) (Array.modify _ _ _).toList 0 lo;rw[Array.toList_modify];exact Runs.mod (f:=λx=>(x.1,x.2.1,power' a₀.size (2*s1+n1) (2*s1+n1+n1+n) a₀.size)) (λ_=>⟨rfl,rfl⟩) R5.runs
 case post=>
  rintro c st1 ⟨rfl,R1⟩
  try dsimp only
  refine aG (cY (b9 (I:=λx c st'=>c=(none,())/\RI a₀ a₀.size st'/\1<=(pendingOf st').size/\(pendingOf st').size+x<=a₀.size)
   (Q:=λc st'=>c=(none,())/\RI a₀ a₀.size st'/\(pendingOf st').size=1) ?step2 ?fin2 ⟨rfl,R1,?a1,?a2⟩) ?post2)
  case a1=>
   have:=R1.runs;cases hp:(pendingOf st1).toList with
   |nil=>
    rw[hp] at this;have:0=a₀.size:=this;lia
   |cons v t=>
    have:=bW List.length hp;rw[aI,aV] at this;lia
  case a2=>
   have:=R1.runs.le;rw[aI] at this;lia
  case fin2=>
   rintro c st2 ⟨_,_,h2,h3⟩;lia
  case post2=>
   rintro c st2 ⟨rfl,R2,h2⟩
   try dsimp only
   refine aL (h st2 R2.perm R2.failed ?_);have rr:=R2.runs;cases hp:(pendingOf st2).toList with
   |nil=>
    rw[<- aI,hp] at h2;cases h2
   |cons v t=>
    have:=bW List.length hp;rw[aI,h2,aV] at this;have:t=[]:=cI Aa;subst this;rw[hp] at rr;obtain⟨v1,v2,v3⟩:=v;obtain⟨q1,q2,q3,q4⟩:=rr;have q4:0+v2=a₀.size:=q4;subst q1;exact λi j hij hj=>q3 i j (ba _) hij Aa
  case step2=>
   rintro x c st2 _ hx ⟨rfl,R2,h2,h3⟩
   try dsimp only
   refine aG (gA ?_);by_cases hs:(pendingOf st2).size<=1
   .rw[ax hs];exact aL ⟨rfl,R2,Aa⟩
   rw[aq hs];refine aG (jDT h0 R2 (ar _) ?_ λst3 R3 e3 _=>?_)
   .have ite_le:∀(c:Prop) [Decidable c] (a b:Nat),(if c then a else b)<=max a b:=λc _ a b=>by
     by_cases z:c
     .rw[ax z];lia
     .rw[aq z];lia
    refine ku (Nat.add_le_add_right (ite_le _ _ _) 1) ?_;lia
   .exact aL ⟨rfl,R3,Aa,Aa⟩
end
end TM
namespace TM
open PySem PySem.Spec PyProof.Rows
variable {b:Bool}{a:Addr}
section
variable {prog:Program}{w:World}{A:Around}{E:Ah}{s:Shared}
abbrev turned(b:Bool)(xs:An):An:=if b then xs.reverse else xs
def jIB{xs:An}:(turned b xs).size=xs.size:=by
 cases b
 .rfl
 .exact Array.size_reverse
def jCN(b:Bool)(vs:Al):(if b=true then (vs.toArray.zip vs.toArray).reverse else vs.toArray.zip vs.toArray).Perm (pairsOf vs):=by
 cases b with
 |false=>exact jg _
 |true=>exact cz.mpr (by show ((vs.toArray.zip vs.toArray).reverse).toList.Perm _;rw[cZ];exact List.reverse_perm _)
def AskOk [Od](prog:Program)(w:World)(A:Around)(s:Shared)(a:Addr)(vs:Al):Prop:=
 ∀h6:Heap,(∀c o,s.heap.get? c=some o->c≠a->h6.get? c=some o)->
  (∀(Q:SortKind->Shared->Prop) (E:Ah),Q Od.kd {s with heap:=h6} ->wpAny (model prog w) A (keyKind' vs.toArray) Q E {s with heap:=h6})/\LtOk prog w A {s with heap:=h6}
theorem jPQ [Od]{a:Addr}{vs:Al}{n:Nat}{b:Bool}{P:Fin->Shared->Prop}(ho:s.heap.get? a=some (seqObj "list" vs.toArray n))(hz:vs.length<=sizeLine)(hI:AllI (pairsOf vs).toList)(hk:2<=vs.length->AskOk prog w A s a vs)
  (h:∀xs:Array Keyed,xs.Perm (pairsOf vs)->STo xs (pairsOf vs).size->P (.done (.ret .none)) {s with heap:=sortedHeap s.heap a vs (turned b (xs.map (·.2)))}):
  wpAny (model prog w) A (Builtin.«list.sort» ⟨[.ref a],[(Str.ofString "reverse",.bool b)]⟩) P E s:=by
 rw[list_sort_rev];have ha:=aC ho;have hz':vs.toArray.size<=sizeLine:=by rw[aK];exact hz
 refine ab (g5 ho rfl (ab (dM ho rfl ?_ hz' (ba _))));obtain⟨e1,ho1⟩:∃e1,(s.heap.update a (Obj.mapSeq λ_=>#[])).get? a=some (seqObj "list" #[] e1):=⟨_,fh ho _⟩;refine ab (iH ho1 rfl (ab (io ?_ hz)));refine ab (eD (bE ?_));generalize hh6:((s.heap.update a (Obj.mapSeq λ_=>#[])).push (seqObj "tuple" vs.toArray 0)).push (seqObj "list" #[] 0)=h6;have ho6:h6.get? a=some (seqObj "list" #[] e1):=by
  rw[<- hh6];exact ae _ (ae _ ho1)
 have k6:∀c o,s.heap.get? c=some o->c≠a->h6.get? c=some o:=λc o q ne=>by
  rw[<- hh6];exact ae _ (ae _ ((bu _ _ (ce ne)).trans q))
 have sh:∀out,sortedHeap s.heap a vs out=h6.update a (Obj.mapSeq λ_=>out):=λout=>by rw[<- hh6];rfl
 have go:∀X:Sem Fin,wpAny (model prog w) A X P E {s with heap:=h6} ->wpAny (model prog w) A (if b=true then (do let _ <- rule "list.sort.reverse"; X) else X) P E {s with heap:=h6}:=λX hX=>by
  cases b with
  |false=>exact hX
  |true=>exact ab (cG hX)
 have hend:∀st':SortSt,(arrOf st').Perm (pairsOf vs)->STo (arrOf st') (pairsOf vs).size->P (.done (.ret .none)) {s with heap:=h6.update a (Obj.mapSeq λ_=>turned b ((arrOf st').map (·.2)))}:=λst' p1 p2=>by
  rw[<- sh];exact h _ p1 p2
 have hfit:∀st':SortSt,(arrOf st').Perm (pairsOf vs)->(turned b ((arrOf st').map (·.2))).size<=sizeLine+1:=λst' p1=>by
  rw[jIB,size_map,p1.size_eq,pairsOf_size];lia
 dsimp only;refine go _ ?_;by_cases few:vs.toArray.size<2
 .rw[ax few,ax few];refine ab (ah ?_);rw[StateT.run_pure];refine ab (ah ?_);dsimp only;refine ab (iH ho6 rfl (ab (dM ho6 rfl ?_ (ba _) (hfit (SortSt.mk' general' _ #[] 7 none) (jCN b vs)))));rw[iI,aq am];refine ah (hend (SortSt.mk' general' _ #[] 7 none) (jCN b vs) λi j hij hj=>?_);have:i=j:=by
   rw[pairsOf_size] at hj;rw[aK] at few;lia
  rw[this];exact cL _
 .rw[aq few,aq few];rw[aK] at few;obtain⟨kk,ll⟩:=hk Aa h6 k6;refine ab (kk _ _ (ab (cb (wpS_sortRunsAny (a₀:=pairsOf vs) (st:=SortSt.mk' Od.kd _ #[] 7 none)
   (Q:=λ_ st'=>(arrOf st').Perm (pairsOf vs)/\failedOf st'=none/\STo (arrOf st') (pairsOf vs).size)
   hI ⟨jCN b _,rfl,rfl,rfl⟩ (by rw[pairsOf_size];lia) λst' a1 a2 a3=>⟨a1,a2,a3⟩) ?_ λ_ _ e=>e)))
  rintro ⟨⟨⟩,st'⟩ s' ⟨rfl,p1,p2,p3⟩;dsimp only;refine ab (iH ho6 rfl (ab (dM ho6 rfl ?_ (ba _) (hfit st' p1))));rw[p2];dsimp only;rw[iI,aq am];exact ah (hend st' p1 p3)
abbrev odI:Od:=⟨oneType',λp=>numOf p.1,λp=>∃n t,p.1=Value.int n t⟩
def ltI: @LtOk prog w A s odI:= @LtOk.mk prog w A s odI λ{E st x y Q} hk hx hy h=>by
 obtain⟨a,t,ha⟩:=hx;obtain⟨b,u,hb⟩:=hy;have e1: @key odI x=a:=by show numOf x.1=a;rw[ha];rfl
 have e2: @key odI y=b:=by show numOf y.1=b;rw[hb];rfl
 rw[e1,e2] at h;rw[lt'_eq];refine aG (gA ?_);rw[show kindOf st=oneType' from hk,keyLt'_oneType,ha,hb];exact aG (ir (dw (oneLt_int ⟨rfl,aL h⟩)))
def stoI{xs:Array Keyed}{k:Nat}(h: @STo odI xs k):SortedTo xs k:=h
theorem askI{vs:Al}{ns:Ag}(hI:IntsAre vs ns)(h2:2<=vs.length): @AskOk odI prog w A s a vs:=λh6 _=>⟨λQ E h=>by
 obtain⟨u,v,r,rfl⟩:∃u v r,vs=u::v::r:=by
  match vs,h2 with
  |[_],few=>exact absurd few (show ¬2<=1 by decide)
  |u::v::r,_=>exact⟨u,v,r,rfl⟩
 rw[keyKind_ints hI];exact ah h,ltI⟩
def sort_rev_any{vs:Al}{ns:Ag}{n:Nat}{P:Fin->Shared->Prop}(ho:s.heap.get? a=some (seqObj "list" vs.toArray n))(hI:IntsAre vs ns)(hz:vs.length<=sizeLine)
  (h:∀(out:An) (ns':Ag),IntsAre out.toList ns'->ns'.Perm ns->Ordered b ns'->P (.done (.ret .none)) {s with heap:=sortedHeap s.heap a vs out}):
  wpAny (model prog w) A (Builtin.«list.sort» ⟨[.ref a],[(Str.ofString "reverse",.bool b)]⟩) P E s:=
 @jPQ prog w A E s odI a vs n b P ho hz hI.intKeys (λh2=>askI hI h2) λxs p1 p2=>by
  obtain⟨ns',q1,q2,q3⟩:=sorted_out_rev hI p1 (stoI p2) b;exact h _ ns' q1 q2 q3
end
end TM
namespace L2
open PySem PySem.Spec PyProof.Rows
variable {m w:Nat}{α:Type}{c:Int×Nat}{o:Expr}
section
variable {prog:Program}{w:World}{A:Around}{E:Ah}{s:Shared}{d:Addr}{kvs:List (Key×Value)}
def jFA:∀{vs:Al}{ks:Ag},vs.length=ks.length->(∀(j:Nat) (v:Value),vs[j]?=some v->∃i t,ks[j]?=some i/\v=Value.int i t)->IntsAre vs ks
 |[],[],_,_=> .nil
 |[],_::_,h,_=>by cases h
 |_::_,[],h,_=>by cases h
 |v::vs,a::r,h,hat=>by
  obtain⟨i,t,e1,rfl⟩:=hat 0 v rfl;cases e1;exact .cons _ t (jFA (Nat.succ.inj h) λj v e=>hat (j+1) v e)
theorem jGT{Q:Ah}{ks:Ag}{b:Bool}(hh:A.handled=none)(lo:(d==sysModules)=false)(D:s.heap.DictOf (y6 prog w) d kvs)(hk:kvs.map (·.1)=ks.map Sum.inl)(hz:ks.length<=sizeLine)
  (h:∀(hf:Heap) (tk:Nat) (l:Addr) (vs:Al) (ns:Ag) (e:Nat),s.heap.objs.size<=l->(∀b u,s.heap.get? b=some u->hf.get? b=some u)->
   hf.get? l=some {cls:=.type "list",data:=.seq vs.toArray e} ->IntsAre vs ns->ns.Perm ks->Ordered b ns->Q (.ref l) {s with heap:=hf,toks:=tk}):
  wpAny (model prog w) A (call (.builtin "sorted") [.ref d] [(Str.ofString "reverse",.bool b)]) Q E s:=by
 obtain⟨ep,hat⟩:=D.dictAt;have hlen:kvs.length=ks.length:=by
  have:=bW List.length hk
  rwa [af,af] at this
 refine call_function_entry_kw kind_sorted plain_sorted entry_sorted (args_sorted_rev _ _) ?_;unfold Builtin.«sorted»;refine ab (m:=checkCount "sorted" 1 1 _) (ah ?_);refine ab (jJE (A:=A.in1) (PySem.W.kdl_dict (knd:=y6 prog w) (kvs:=kvs) (ep:=ep) lo) hh hat Aa λh1 tk acc hk1 hlt1 hacc=>?_);have hal:acc.toList.length=ks.length:=by rw[aI,hacc.1,hlen]
 have hI:IntsAre acc.toList ks:=jFA hal λj v e=>by
  obtain⟨k,x,hx,hv⟩:=hacc.2 j v (by rw[<- bH];exact e);have e2:(kvs.map (·.1))[j]?=some k:=by rw[aQ,hx];rfl
  rw[hk,aQ] at e2;cases hq:ks[j]? with
  |none=>rw[hq] at e2;cases e2
  |some i=>
   rw[hq] at e2;cases e2;rcases jA0 (show keyIs (Sum.inl i) v=true from hv) with ⟨i',t,q1,q2⟩|⟨x,t,q1,q2⟩
   .cases q1;exact⟨i,t,rfl,q2⟩
   .cases q1
 refine ab (eD ?_ Aa);have hL:(h1.push (seqObj "list" acc.toList.toArray 0)).get? h1.objs.size=some (seqObj "list" acc.toList.toArray 0):=ao _ rfl;show wpAny _ _ _ _ _ {s with heap:=h1.push (seqObj "list" acc.toList.toArray 0),toks:=tk};refine ab (bE (wpAny_call_entry_kw ik ⟨_,hL,rfl⟩ gJ (TM.sort_rev_any hL hI Aa λout ns' a1 a2 a3=>⟨_,rfl,?_⟩) (args_list_sort_rev _ _)));obtain⟨e,he⟩:=sortedHeap_at (out:=out) hL;have kept:∀b u,s.heap.get? b=some u->(sortedHeap (h1.push (seqObj "list" acc.toList.toArray 0)) h1.objs.size acc.toList out).get? b=some u:=λb u q=>by
  have q1:=hk1 b u q;have hb:b<h1.objs.size:=aC q1;rw[sortedHeap_old (aO hb) (by rw[im];exact cP hb)];exact ae _ q1
 generalize sortedHeap (h1.push (seqObj "list" acc.toList.toArray 0)) h1.objs.size acc.toList out=hf at he kept ⊢;exact ah ⟨_,rfl,h hf tk h1.objs.size out.toList ns' e (cV hlt1) kept (by rw[cX];exact he) a1 a2 a3⟩
end
def jPJ(X:Cx)(f:Value)(ks:Am)(r:List V->List V->Hp->VK->Prop):Prop:=
 ∀(lw:Ai) (s:Shared) (σ:St) (H:Hp) (xs zs:List V) (us ws:Al) (Q:VK),Inv X lw σ H s->Vals xs us->Vals zs ws->r xs zs H Q->
  wpAny (model X.prog X.w) X.A (call f us (ks.zip ws)) (EP X lw σ Q) X.xe s
def tCBK(r:List V->List V->Hp->VK->Prop)(t tk:TA):TE:=λσ H Q=>t σ H λvs H1=>tk σ H1 λzs H2=>r vs zs H2 Q
structure JK (X:Cx)(kws:List Keyword)(t:TA):Prop where
 h:PK X kws t
variable {X:Cx}
section
variable {x:Str}{p pos kpos:Pos}{e:Expr}{es:List Expr}{kws:List Keyword}{t tk:TA}{te:TE}{nm:Option Str}{ks:Am}{id:String}{r:List V->List V->Hp->VK->Prop}
def jSJ:JK X [] tNil:=⟨jW8⟩
def jOB(ha:JE X e te)(hr:JK X kws t):JK X (⟨nm,e,kpos⟩::kws) (tCons te t):=⟨jTE ha.h hr.h⟩
theorem jHJ(hc:jPJ X (.builtin id) ks r)(hg:Gl1 X x)(hm:X.mg x=none)(hv:bootBuiltins x=some (.builtin id))(ha:JA X (e::es) t)(hkw:JK X kws tk)(he:starEach (e::es) X.env=(false,eval e X.env)::starEach es X.env)
  (hn:x≠"__name__" :=by decide) (hdb:(x==("__debug__":Str))=false:=by decide) (hall:(backToKw pos (keywordEach kws X.env)).all (·.1.isSome)=true:=by rfl) (hks:(backToKw pos (keywordEach kws X.env)).filterMap (·.1)=ks:=by rfl)
  (hpl:(backTo pos (starEach es X.env)).any (·.1)=false:=by rfl) (hkn:(backToKw pos (keywordEach kws X.env)).any (·.1.isNone)=false:=by rfl):JE X (.Call (.Name x p) (e::es) kws pos) (tCBK r t tk):=by
 refine⟨λlw s σ H Q I h=>?_⟩;refine cx (jDC I hg.a hm hv ?_ hn hdb);refine callWith_kw (lz (ha.h pos lw s σ H _ I h) λus s1 ⟨vs,H1,I1,r1,q1⟩=>lz (hkw.h pos lw s1 σ H1 _ I1 q1) λws s2 ⟨zs,H2,I2,rz,q2⟩=>?_) (by rw[he];rfl) (by rw[he];exact hpl) hall hkn;rw[hks];exact hc lw s2 σ H2 vs zs us ws Q I2 r1 rz q2
def jGE(hc:X.calm=true):jPJ X (.builtin "sorted") [Str.ofString "reverse"] (λxs zs H Q=>∃(p:Addr) (kvs:List (Key×V)) (ks:Ag) (b:Bool),xs=[.ref p]/\zs=[.bl b]/\H p=some (.dK kvs)/\kvs.map (·.1)=ks.map Sum.inl/\ks.length<=sizeLine/\
  ∀(l:Addr) (ns:Ag),H l=none->Ordered b ns->ns.Perm ks->Q (.ref l) (upd H l (.lst (ns.map V.int)))):=by
 intro lw s σ H xs zs us ws Q I r rz h;obtain⟨p,kvs,ks,b,rfl,rfl,hp,hk,hn,q⟩:=h;obtain⟨u,rfl,rx⟩:=r.one;obtain⟨v,rfl,ry⟩:=rz.one;cases rx;cases ry;obtain⟨z,lo,vs,rel,dd⟩:=dk_of I.hok hp;refine jGT (I.ok.hd hc) lo dd (by rw[<- rel.keys];exact hk) hn λhf tk l vs ns e hl kp he hi pm srt=>?_;have hz:(ns.map V.int).length<=sizeLine:=by rw[af,pm.length_eq];exact hn
 have I2:Inv X lw σ (upd H l (.lst (ns.map V.int))) {s with heap:=hf,toks:=tk}:=I.laid (t':=tk) kp hl ⟨hz,vs,e,jA4 hi,he⟩;exact⟨.ref l,_,I2,rfl,q l ns (I.hok.fresh hl) srt pm⟩
end
def jKO{to:TE}{name:Str}{apos cpos:Pos}{T id:String}{r:V->List V->Hp->VK->Prop}(pa:PlainAttrs T)(slot:Slot T name id)(hty:typeOf (.builtin id)=pure (.type "method_descriptor"))(hm:MtR X id r)(ho:JE X o to)
  (hbase:attributeBase o name X.env (eval o X.env)=eval o X.env:=by rfl) (hline:(apos.endLine==cpos.line)=true:=by rfl):JE X (.Call (.Attribute o name apos) [] [] cpos) (tBM0 X.K T r to):=⟨jWI pa slot hty hm ho.h hbase hline⟩
inductive rBits(x:V)(vs:List V)(H:Hp)(Q:VK):Prop|i(i:_)(_:x=.int i)(_:vs=[])(_:Q (.int (Builtin.Int.intBits i)) H)
def jNW:MtR X "int.bit_length" rBits:=by
 intro lw s σ H x vs v us Q I rx rv h;obtain⟨i,rfl,rfl,q⟩:=h;obtain⟨t,rfl⟩:=rx;have hus:=rv.zero;subst hus;exact call_int_bit_length ⟨.int _,H,I.tok _,⟨_,rfl⟩,q⟩
def jOG{i:Expr}{ty td:TE}{pos:Pos}(hu:X.A.units+1<cLine)(hi:JE X i ty)(ho:JE X o td)(h1:behindInMarks .NotIn o=false):JT X (.Compare i [.NotIn] [o] pos) (tB (jMD ty td)):=⟨jS7 (jN7 hu hi.h ho.h) h1⟩
def jVP(i:Int)(b:Bool):TE:=λ_ H Q=>∀p H',H' p=some (.dK [(.inl i,.bl b)])->Ext H H'->H p=none->Q (.ref p) H'
theorem jR2{i:Int}{b:Bool}{k1 k2:Nat}{p1 p2 pos:Pos}:JE X (.Dict [some (.Constant (.int i) k1 p1)] [.Constant (.bool b) k2 p2] pos) (jVP i b):=
 ⟨λlw s σ H Q I h=>jTM (jPW je_int.h je_bl.h jTB) rfl rfl (by intro z;cases z) (by show 1<=15;decide) lw s σ H Q I λp hp=>⟨j7,[(.inl i,.bl b)],rfl,by show 1<=15;decide,h p _ j7 (((Ext.refl H).new hp _).updNew hp _) hp⟩⟩
theorem jRB{K:W.Frag}{tp:Bool}{l:Addr}{xs:List V}{g:TG}{tb:TS}{D:Ends}{σ:St}{H:Hp}(Pv:Nat->St->Hp->Prop)(h0:Pv 0 σ H)(hl:∀i σ H,Pv i σ H->Sq tp K H l xs)
  (hs:∀i x T σ H,xs[i]?=some x->H T=none->Pv i σ H->g (.ref T) σ (upd H T (.tup [.int (i:Int),x])) λσ2 H2=>tb {D with nx:=Pv (i+1),ct:=Pv (i+1),bk:=D.nx} σ2 H2) (hd:∀σ H,Pv xs.length σ H->D.nx σ H):
  ∃W:Nat->Nat->St->Hp->Prop,(∃m,W 0 m σ H)/\∀i m σ H,W i m σ H->
   ((Ite tp K l).stop i H/\D.nx σ H)\/((Ite tp K l).go i H/\∃N:St->Hp->Prop,(∀σ' H',N σ' H'->∃m',m'<m/\W (i+1) m' σ' H')/\∀x H',(Ite tp K l).yld i H x H'->g x σ H' λσ2 H2=>tb {D with nx:=N,ct:=N,bk:=D.nx} σ2 H2):=by
 refine⟨λi m σ H=>m=xs.length-i/\i<=xs.length/\Pv i σ H,⟨_,rfl,ba _,h0⟩,?_⟩;rintro i m σ H ⟨rfl,hi,p⟩;have s1:=hl i σ H p;by_cases hlt:i<xs.length
 .refine .inr ⟨⟨xs,xs[i],s1,by simp[hlt]⟩,Pv (i+1),λσ' H' p'=>⟨xs.length-(i+1),Aa,rfl,hlt,p'⟩,λv H'' y=>?_⟩;obtain⟨T,x,e1,e2,e3,e4⟩:=y;subst e2 e3;exact hs i x T σ _ (e4 xs s1) e1 p
 .have e:i=xs.length:=Aa;subst e;exact .inl ⟨⟨xs,s1,ar _⟩,hd σ H p⟩
def All2{β:Type}(R:α->β->Prop):List α->List β->Prop
 |[],[]=>True
 |a::as,b::bs=>R a b/\All2 R as bs
 |_,_=>False
section
variable {α β:Type}{R S:α->β->Prop}
def All2.len:∀{as:List α}{bs:List β},All2 R as bs->as.length=bs.length
 |[],[],_=>rfl
 |_::_,_::_,h=>bW (· +1) (All2.len h.2)
def All2.imp(f:∀a b,R a b->S a b):∀{as:List α}{bs:List β},All2 R as bs->All2 S as bs
 |[],[],_=>trivial
 |_::_,_::_,h=>⟨f _ _ h.1,All2.imp f h.2⟩
def All2.snoc{a:α}{b:β}:∀{as:List α}{bs:List β},All2 R as bs->R a b->All2 R (as++[a]) (bs++[b])
 |[],[],_,h=>⟨h,trivial⟩
 |_::_,_::_,h,k=>⟨h.1,All2.snoc h.2 k⟩
def All2.get:∀{as:List α}{bs:List β}{i:Nat}{b:β},All2 R as bs->bs[i]?=some b->∃a,as[i]?=some a/\R a b
 |[],[],i,b,_,h=>by simp at h
 |a::_,_::_,0,b,h,e=>by
  simp at e;subst e;exact⟨a,rfl,h.1⟩
 |_::_,_::_,i+1,b,h,e=>by
  obtain⟨a,h1,h2⟩:=All2.get h.2 (i:=i) (b:=b) (by simpa using e);exact⟨a,by simpa using h1,h2⟩
def All2.get':∀{as:List α}{bs:List β}{i:Nat}{a:α},All2 R as bs->as[i]?=some a->∃b,bs[i]?=some b/\R a b
 |[],[],i,b,_,h=>by simp at h
 |a::_,b::_,0,x,h,e=>by
  simp at e;subst e;exact⟨b,rfl,h.1⟩
 |_::_,_::_,i+1,x,h,e=>by
  obtain⟨b,h1,h2⟩:=All2.get' h.2 (i:=i) (a:=x) (by simpa using e);exact⟨b,by simpa using h1,h2⟩
def All2.of_get{as:List α}{bs:List β}(hl:as.length=bs.length)(h:∀(i:Nat) a b,as[i]?=some a->bs[i]?=some b->R a b):All2 R as bs:=by
 induction as generalizing bs with
 |nil=>cases bs with
  |nil=>trivial
  |cons b bs=>cases hl
 |cons a as ih=>cases bs with
  |nil=>cases hl
  |cons b bs=>exact⟨h 0 a b rfl rfl,ih (by simpa using hl) λi a b h1 h2=>h (i+1) a b (by simpa using h1) (by simpa using h2)⟩
end
def lowN(m:Nat):Nat:=if m%2=1 then lowN (m/2)+1 else 0
theorem jE9(h:m%2=0):lowN m=0:=by
 unfold lowN;rw[aq Aa]
def jG0(h:m%2=1):lowN m=lowN (m/2)+1:=by
 rw[lowN,ax h]
theorem jVE(a b:Nat):a&&&b=2*((a/2)&&&(b/2))+(a%2)*(b%2):=by
 have h1:(a&&&b)/2=(a/2)&&&(b/2):=Nat.and_div_two;have h2:(a&&&b)%2=(a%2)*(b%2):=by
  have t:=Nat.testBit_and a b 0;rw[eV,eV,eV] at t;have t':((a&&&b)%2=1)↔(a%2=1/\b%2=1):=by
   rw[<- gF.trans (and_congr bI bI),<- t,bI]
  rcases cR a with ha|ha<;>rcases cR b with hb|hb<;>rw[ha,hb] at t' ⊢ <;> lia
 lia
theorem jUH(m:Nat):(m+1)-((m+1)&&&m)=2^lowN m:=by
 induction m using strongRecOn with
 |_ m ih=>
  rw[jVE];rcases cR m with h|h
  .rw[jE9 h,show (m+1)/2=m/2 by lia,Nat.and_self,h];lia
  .have:=ih (m/2) Aa;rw[jG0 h,Nat.pow_succ,show (m+1)/2=m/2+1 by lia,show (m+1)%2=0 by lia];lia
theorem jQV(m:Nat):Builtin.Int.intBits (Builtin.bitAnd (Builtin.bitNot (m:Int)) ((m:Int)+1))=lowN m+1:=by
 have e:Builtin.bitAnd (Builtin.bitNot (m:Int)) ((m:Int)+1)=((2^lowN m:Nat):Int):=by
  unfold Builtin.bitAnd;have h1:¬(0<=Builtin.bitNot (m:Int)):=by unfold Builtin.bitNot;lia
  have h2:(0:Int)<=(m:Int)+1:=Aa;have h3:(Builtin.bitNot (Builtin.bitNot (m:Int))).toNat=m:=by unfold Builtin.bitNot;lia
  rw[aH h1,ay h2];show ((m:Int)+1)-((((m:Int)+1).toNat&&&(Builtin.bitNot (Builtin.bitNot (m:Int))).toNat:Nat):Int)=_;rw[h3,show ((m:Int)+1).toNat=m+1 by lia,<- jUH m];have:(m+1)&&&m<=m+1:=Nat.and_le_left;lia
 rw[e];unfold Builtin.Int.intBits;have hp:0<2^lowN m:=d9 _;have h0:((((2^lowN m:Nat):Int))==0)=false:=by
  rw[bL];lia
 rw[h0];simp[Nat.log2_two_pow]
theorem jIZ(m:Nat):m.testBit (lowN m)=false:=by
 induction m using strongRecOn with
 |_ m ih=>
  rcases cR m with h|h
  .rw[jE9 h,eV,h];rfl
  .rw[jG0 h,Nat.testBit_succ];exact ih _ Aa
theorem jJ0(m:Nat):∀j,j<lowN m->m.testBit j=true:=by
 induction m using strongRecOn with
 |_ m ih=>
  intro j hj;rcases cR m with h|h
  .rw[jE9 h] at hj;lia
  .rw[jG0 h] at hj;cases j with
   |zero=>rw[eV,h];rfl
   |succ j=>
    rw[Nat.testBit_succ];exact ih _ Aa j Aa
def jX3{t:Nat}(h1:m.testBit t=false)(h2:∀j,j<t->m.testBit j=true):lowN m=t:=by
 rcases iC (lowN m) t with h|h|h
 .have:=h2 _ h;rw[jIZ] at this;cases this
 .exact h
 .have:=jJ0 m t h;rw[h1] at this;cases this
theorem jUY(h:m<2^w)(a:∀j,j<w->m.testBit j=true):m=2^w-1:=by
 apply Nat.eq_of_testBit_eq;intro i;rw[eF];by_cases hi:i<w
 .rw[a i hi,ay hi]
 .rw[aH hi];exact fZ (aR h (cA Ac Aa))
theorem jHC(h:m<2^w)(hn:m≠2^w-1):lowN m<w:=by
 refine dE λz=>hn (jUY h λj hj=>jJ0 m j Aa)
abbrev Ch:=List (List (Int×Nat))
def fullN(ch:Ch):Nat:=2^ch.length-1
def chAt(ch:Ch)(m:Nat):List (Int×Nat):=(ch.getD (lowN m) []).filter λc=>c.2&&&m==0
structure ChOk (ch:Ch):Prop where
 w:ch.length<=16
 len:∀(t:Nat) (cs:List (Int×Nat)),ch[t]?=some cs->cs.length<=33
 it:∀(t:Nat) (cs:List (Int×Nat)),ch[t]?=some cs->∀c∈cs,c.2.testBit t=true/\c.2<2^ch.length/\ -1<=c.1/\c.1<32
def ChOk.mem{ch:Ch}(o:ChOk ch)(h:m<2^ch.length)(hn:m≠fullN ch)(hc:c∈chAt ch m):c.2.testBit (lowN m)=true/\c.2<2^ch.length/\c.2&&&m=0/\ -1<=c.1/\c.1<32:=by
 obtain⟨h1,h2⟩:=bv.mp hc;have hl:=jHC h hn;rw[aB,az hl] at h1;obtain⟨a,b,c1,c2⟩:=o.it _ _ (az hl) c h1;exact⟨a,b,by simpa using h2,c1,c2⟩
def ChOk.up{ch:Ch}(o:ChOk ch)(h:m<2^ch.length)(hn:m≠fullN ch)(hc:c∈chAt ch m):m<m|||c.2/\m|||c.2<2^ch.length:=by
 obtain⟨a,b,z,_⟩:=o.mem h hn hc;refine⟨?_,Nat.or_lt_two_pow h b⟩;refine Nat.lt_of_le_of_ne Nat.left_le_or λe=>?_;have t:m.testBit (lowN m)=(m|||c.2).testBit (lowN m):=bW (λz=>z.testBit (lowN m)) e;rw[jy,a,ln,jIZ] at t;cases t
def gvN(ch:Ch)(e:α)(J:List (Int×α)->α):Nat->Nat->α
 | 0,_=>e
 |n+1,m=>if m=fullN ch then e else J ((chAt ch m).map λc=>(c.1,gvN ch e J n (m|||c.2)))
def gv(ch:Ch)(e:α)(J:List (Int×α)->α)(m:Nat):α:=gvN ch e J (fullN ch-m) m
theorem jUT{ch:Ch}{e:α}{J:List (Int×α)->α}(o:ChOk ch):∀(k n m:Nat),fullN ch-m<=k->fullN ch-m<=n->m<2^ch.length->gvN ch e J n m=gvN ch e J k m:=by
 intro k
 induction k with
 |zero=>
  intro n m h1 h2 h3;have:m=fullN ch:=by
   unfold fullN at h1 ⊢;lia
  subst this;cases n with
  |zero=>rfl
  |succ n=>show gvN ch e J (n+1) (fullN ch)=e;rw[gvN,ax rfl]
 |succ k ih=>
  intro n m h1 h2 h3;by_cases hm:m=fullN ch
  .subst hm;cases n with
   |zero=>show e=gvN ch e J (k+1) (fullN ch);rw[gvN,ax rfl]
   |succ n=>
    have q:∀i,gvN ch e J (i+1) (fullN ch)=e:=λi=>by rw[gvN,ax rfl]
    rw[q,q]
  .have hlt:m<fullN ch:=by
    unfold fullN at hm ⊢;lia
   cases n with
   |zero=>lia
   |succ n=>
    rw[gvN,aq hm,gvN,aq hm];congr 1;refine cH λc hc=>?_;obtain⟨u1,u2⟩:=o.up h3 hm hc;rw[ih n (m|||c.2) Aa Aa u2]
def jUS{ch:Ch}{e:α}{J:List (Int×α)->α}:gv ch e J (fullN ch)=e:=by
 unfold gv;rw[fY,gvN]
theorem jUR{ch:Ch}{e:α}{J:List (Int×α)->α}(o:ChOk ch)(h:m<2^ch.length)(hn:m≠fullN ch):gv ch e J m=J ((chAt ch m).map λc=>(c.1,gv ch e J (m|||c.2))):=by
 have hlt:m<fullN ch:=by
  unfold fullN at hn ⊢;lia
 have:gv ch e J m=gvN ch e J ((fullN ch-m-1)+1) m:=by
  unfold gv;rw[show fullN ch-m-1+1=fullN ch-m by lia]
 rw[this,gvN,aq hn];congr 1;refine cH λc hc=>?_;obtain⟨u1,u2⟩:=o.up h hn hc;unfold gv;rw[jUT o (fullN ch-(m|||c.2)) _ _ (ar _) Aa u2]
end L2
namespace L2
open PySem
variable {X:Cx}
section
variable {tg iter elt:Expr}{ifs:List Expr}{sc:Scope}{pos:Pos}{wi:TI}{g:TG}{tt:TT}{te:TE}{m:List (Option Nat)}{Nc:Am}
end
end L2
namespace L2
open PySem PySem.Spec PyProof.Rows
def ZC(cl:Aj)(fs:Am)(fv:List V):Shared->Hp->Prop:=λs H=>ClOk cl s H/\FvOk fs fv cl s
def ZC.st(cl:Aj)(fs:Am)(fv:List V):ZSt (ZC cl fs fv):=by
 rintro fr s s' H H' u ⟨C,F1,F2⟩;have kc:∀{x c v},cl.lookup x=some c->s.heap.IsCell c v->s'.heap.IsCell c v:=λ{x c v} hc ⟨o,ho,hd⟩=>by
  obtain⟨sl,e⟩:=u.any ho (C.cell x c hc).2 Ad;exact⟨_,e,hd⟩
 refine⟨⟨C.inj,λx c hc=>?_⟩,F1,λi x v h1 h2=>?_⟩
 .obtain⟨⟨v,o,ho,hd⟩,n⟩:=C.cell x c hc;exact⟨⟨v,kc hc ⟨o,ho,hd⟩⟩,u.free c o ho n Ad⟩
 .obtain⟨c,w,a1,a2,a3⟩:=F2 i x v h1 h2;exact⟨c,w,a1,a2,kc a1 a3⟩
def Callee.ofN{P:Program}{w:World}{K:W.Frag}{mg:Ak}{Aq:Heap}{k:Nat}{x q:Str}{args:Arguments}{body:List Stmt}{scope:Scope}{ps fs:Am}{sp:List V->Sp}{cl:Aj}{fv:List V}{a c:Addr}(F:FnN P w K mg Aq k x q args body scope ps fs sp):
  Callee P w K mg Aq (ZC cl fs fv) (λH=>H a=some (.ext (nfP x q args body scope cl a c))/\H c=some (.ext (ncP q c))) k a (sp fv):=by
 refine⟨λA Ap s H e z=>?_,λA Ap s H us vs Q E hr e0 hz zh r hsp=>?_⟩
 .obtain⟨⟨d,m,t,g⟩,_,_⟩:=(show ObjOk P w H s.heap a (.ext _) from e.hok a _ z.1);exact⟨_,_,_,_,g⟩
 .obtain⟨p1,_,_⟩:=(show ObjOk P w H s.heap a (.ext _) from e0.hok a _ zh.1);obtain⟨p2,_,_⟩:=(show ObjOk P w H s.heap c (.ext _) from e0.hok c _ zh.2);exact F.run A Ap s H a c cl us vs fv Q E hr e0 p1 p2 hz.1 hz.2 r hsp
def jVR{ι:Type}(G:ι->St->Prop)(sp:ι->Sp)(t:TA):TE:=λσ H Q=>t σ H λvs H1=>∃i,G i σ/\sp i vs H1 Q E0
theorem jKM{ι:Type}{X:Cx}{Z:ι->Shared->Hp->Prop}{G:ι->St->Prop}{k:Nat}{f:Addr}{fd:FuncData}{ps:Am}{sp:ι->Sp}{x:Str}{p pos:Pos}{e:Expr}{es:List Expr}{t:TA}(F:∀i,FnZ X.prog X.w X.K X.mg X.Aq CX0 (Z i) k f fd ps (sp i))(hr:Room k X.A)(hg:Gl1 X x)(hm:X.mg x=some (.ref f))(hk:keepIn X.K (.ref f)=true)(hb:Binds X.K fd ps [])
  (hZ:∀i lw s σ H,Inv X lw σ H s->G i σ->Z i s H) (ha:JA X (e::es) t) (he:starEach (e::es) X.env=(false,eval e X.env)::starEach es X.env) (hdb:(x==("__debug__":Str))=false:=by decide) (hpl:(backTo pos (starEach es X.env)).any (·.1)=false:=by rfl):
  JE X (.Call (.Name x p) (e::es) [] pos) (jVR G sp t):=by
 refine⟨λlw s σ H Q I h=>?_⟩;refine cx (jG3 I hg.a hm ?_ hdb);refine hV (h₀:=X.Aq) I.ok.mod.kin hk (lz (ha.h pos lw s σ H _ I h) λus s1 ⟨vs,H1,I1,r,i,gi,q⟩=>⟨I1.kIn,?_⟩) he hpl;have hl:(us++[]).length=ps.length:=by rw[bg,<- r.length];exact(F i).len _ _ _ _ q
 have b:=hb s1 us I1.kIn hl;rw[bg] at b;refine gl (cW ((F i).run X.A X.stack s1 H1 ⟨us,[]⟩ us vs Q E0 hr I1.env0 b r (hZ i _ _ _ _ I1 gi) q) λr s' hq=>?_);cases r with
 |error e=>exact hq.elim
 |ok fl=>
  cases fl with
  |ret u=>exact I1.after hq
  |next=>exact False.elim hq
  |brk=>exact False.elim hq
  |cont=>exact False.elim hq
def jR0{P:Program}{w:World}{K:W.Frag}{mg:Ak}{Aq:Heap}{N:Am}{qual:Str}{sc:Scope}{f:Addr}{cd:Value}{cl:Aj}{A:Around}{Ap:List Env}{s:Shared}{H:Hp}{x y:Str}{p1 p2 pos:Pos}{k i j:Nat}(hN:N.Nodup)(hi:N[i]?=some x)(hj:N[j]?=some y)(hx:sc.names.lookup x=some .local)(hy:sc.names.lookup y=some .local):
  JG (cxN P w K mg Aq N qual sc f cd cl A Ap s H) (.Tuple [.Name x p1,.Name y p2] k pos) (gTup K 2 (gCons (kT i) (gCons (kT j) gNil))):=
 jOD (X:=cxN P w K mg Aq N qual sc f cd cl A Ap s H) rfl (jBH (jT hN hi (loc_n hx)) (jBH (jT hN hj (loc_n hy)) jJ4 jD3) jD3)
end L2
namespace TM
open PySem PySem.Spec PyProof.Rows PySem.W
open HT (lexLt lexLt_cons)
open L2 (All2)
def lex_irr:∀x:Ag,lexLt x x=false
 |[]=>rfl
 |a::x=>by rw[lexLt_cons,ax rfl];exact lex_irr x
theorem lex_tr:∀{x y z:Ag},lexLt x y=true->lexLt y z=true->lexLt x z=true
 |[],[],_,h,_=>by cases h
 |[],_::_,[],_,h=>by cases h
 |[],_::_,_::_,_,_=>rfl
 |_::_,[],_,h,_=>by cases h
 |_::_,_::_,[],_,h=>by cases h
 |a::x,b::y,c::z,h,k=>by
  rw[lexLt_cons] at h k ⊢;by_cases e1:a=b
  .rw[ax e1] at h;by_cases e2:b=c
   .rw[ax e2] at k;rw[ax (e1.trans e2)];exact lex_tr h k
   .rw[aq e2] at k;rw[aq (e1 ▸ e2),e1];exact k
  .rw[aq e1] at h;have h:=aP h;by_cases e2:b=c
   .rw[aq (e2 ▸ e1),<- e2];exact ay h
   .rw[aq e2] at k;have k:=aP k;rw[aq Aa];exact ay Aa
theorem lex_tot:∀{x y:Ag},lexLt x y=false->lexLt y x=false->x=y
 |[],[],_,_=>rfl
 |[],_::_,h,_=>by cases h
 |_::_,[],_,h=>by cases h
 |a::x,b::y,h,k=>by
  rw[lexLt_cons] at h k;by_cases e:a=b
  .rw[ax e] at h;rw[ax e.symm] at k;rw[e,lex_tot h k]
  .rw[aq e] at h;rw[aq (λz=>e z.symm)] at k;have:=fq h;have:=fq k;lia
def rk(ws:Af)(x:Ag):Int:=((ws.countP λz=>lexLt z x:Nat):Int)
theorem jGB{p q:Ag->Bool}(h:∀z,p z=true->q z=true):∀ws:Af,ws.countP p<=ws.countP q
 |[]=>ar _
 |a::ws=>by
  have:=jGB h ws;rw[gt,gt];have:=h a;cases hp:p a<;>cases hq:q a<;>simp_all<;>lia
theorem jKV{p q:Ag->Bool}(h:∀z,p z=true->q z=true){x:Ag}(hp:p x=false)(hq:q x=true):∀{ws:Af},x∈ws->ws.countP p<ws.countP q
 |a::ws,hx=>by
  rw[gt,gt];rcases aA.mp hx with e|hx
  .have:=jGB h ws;rw[<- e,hp,hq];simp;lia
  .have:=jKV h hp hq hx;have:=h a;cases hpa:p a<;>cases hqa:q a<;>simp_all<;>lia
theorem rk_lt{ws:Af}{x y:Ag}(hx:x∈ws):decide (rk ws x<rk ws y)=lexLt x y:=by
 unfold rk;cases h:lexLt x y with
 |true=>
  have:=jKV (p:=λz=>lexLt z x) (q:=λz=>lexLt z y) (λz hz=>lex_tr hz h) (lex_irr x) h hx;exact ay Aa
 |false=>
  refine aH ?_;by_cases k:lexLt y x=true
  .have:=jGB (p:=λz=>lexLt z y) (q:=λz=>lexLt z x) (λz hz=>lex_tr hz k) ws;lia
  .have:=lex_tot h (dL.mpr k);rw[this];lia
variable {prog:Program}{w:World}{A:Around}{E:Ah}{s:Shared}
section
variable {kd:SortKind}{f:Value->Ag}
end
def TupI(h:Heap)(v:Value)(l:Ag):Prop:=∃a n its,v=.ref a/\h.get? a=some {cls:=.type "tuple",data:=.seq its n} /\IntsAre its.toList l
noncomputable def decV(h:Heap):Value->Ag
 | .ref a=>match h.get? a with
  |some o=>match o.data with
   | .seq xs _=>xs.toList.map numOf
   |_=>[]
  |none=>[]
 |_=>[]
def TupI.dec{h:Heap}{v:Value}{l:Ag}(t:TupI h v l):decV h v=l:=by
 obtain⟨a,n,its,rfl,ho,hi⟩:=t;dsimp only[decV];rw[ho];exact hi.nums
theorem jTV{b:Bool}{x y:Int}{t u:Tok}{Q:Bool->Shared->Prop}(h:Q (decide (x<y)) s):wpAny (model prog w) A (oneLt' b (.int x t) (.int y u)) Q E s:=by
 cases b with
 |true=>exact oneLt_int h
 |false=>exact kat_one _ _ (HT.rcLt_int A s x t y u prog w E _ h)
end TM
namespace L2
open PySem PySem.Spec PyProof.Rows
variable {h:Heap}{D kS:Addr}{P:Program}{w:World}{H:Hp}{KF:V->Ag}
variable {X:Cx}
noncomputable def refV:Value->V
 | .ref a=> .ref a
 |_=> .non
def jKG:∀{x y:Af},x.Perm y->x.Pairwise (λa b=>HT.lexLt b a=false)->y.Pairwise (λa b=>HT.lexLt b a=false)->x=y
 |[],y,p,_,_=>(List.nil_perm.mp p).symm
 |a::x,[],p,_,_=>absurd (List.perm_nil.mp p) Ad
 |a::x,b::y,p,h,k=>by
  obtain⟨h1,h2⟩:=dz.mp h;obtain⟨k1,k2⟩:=dz.mp k;have e:a=b:=by
   refine TM.lex_tot ?_ ?_
   .rcases aA.mp (p.mem_iff.mp (ai ..)) with z|z
    .rw[z];exact TM.lex_irr b
    .exact k1 a z
   .rcases aA.mp (p.mem_iff.mpr (ai ..)) with z|z
    .rw[z];exact TM.lex_irr a
    .exact h1 b z
  subst e;rw[jKG (List.perm_cons a |>.mp p) h2 k2]
structure KeyS where
 TK:Heap->Value->Ag->Prop
 KR:Hp->V->Ag->Prop
 kd:Af->SortKind
 dc:Heap->Value->Ag
structure KeyOk (S:KeyS):Prop where
 of:∀{P:Program}{w:World}{H:Hp}{h:Heap}{v:V}{u:Value}{l:Ag},HOk P w H h->RelV v u->S.KR H v l->S.TK h u l
 mono:∀{H H':Hp}{v:V}{l:Ag},TupsK H H'->S.KR H v l->S.KR H' v l
 dec:∀{h:Heap}{u:Value}{l:Ag},S.TK h u l->S.dc h u=l
 kind:∀{prog:Program}{w:World}{A:Around}{E:Ah}{s:Shared}{vs:Al}{ws:Af}{Q:SortKind->Shared->Prop},All2 (S.TK s.heap) vs ws->vs≠[]->Q (S.kd ws) s->wpAny (model prog w) A (keyKind' vs.toArray) Q E s
 lt:∀{prog:Program}{w:World}{A:Around}{E:Ah}{s:Shared}{ws:Af}{u v:Value}{x y:Ag}{Q:Bool->Shared->Prop},S.TK s.heap u x->S.TK s.heap v y->A.units+2<cLine->Q (HT.lexLt x y) s->wpAny (model prog w) A (keyLt' (S.kd ws) u v) Q E s
variable {S:KeyS}
section
variable {prog:Program}{w:World}{A:Around}{E:Ah}{s:Shared}
noncomputable abbrev odK(S:KeyS)(ws:Af)(h:Heap)(ks:Al):TM.Od:=⟨S.kd ws,λp=>TM.rk (ks.map (S.dc h)) (S.dc h p.1),λp=>p.1∈ks⟩
theorem ltK(ok:KeyOk S){ks:Al}{ws:Af}(t:All2 (S.TK s.heap) ks ws)(room:A.units+2<cLine): @TM.LtOk prog w A s (odK S ws s.heap ks):= @TM.LtOk.mk prog w A s (odK S ws s.heap ks) λ{E st x y Q} hk hx hy h=>by
 have e:decide (@TM.key (odK S ws s.heap ks) x< @TM.key (odK S ws s.heap ks) y)=HT.lexLt (S.dc s.heap x.1) (S.dc s.heap y.1):=TM.rk_lt (dR hx);rw[e] at h;rw[lt'_eq];refine aG (gA ?_);rw[show kindOf st=S.kd ws from hk];obtain⟨i,hi⟩:=bO hx;obtain⟨j,hj⟩:=bO hy;obtain⟨l1,_,t1⟩:=t.get' hi;obtain⟨l2,_,t2⟩:=t.get' hj;rw[ok.dec t1,ok.dec t2] at h;exact aG (ir (dw (ok.lt t1 t2 room ⟨rfl,aL h⟩)))
def jW1{α:Type}{R:α->α->Prop}:∀{l:List α},l.length<=1->l.Pairwise R
 |[],_=> .nil
 |[_],_=>dh _ _
 |_::_::_,h=>absurd h Ad
theorem jO7(ok:KeyOk S){its ks:Al}{ws:Af}{e1 e:Nat}{P:PySem.Fin->Shared->Prop}(hl:ks.length=its.length)(hz:its.length<=sizeLine)(t:All2 (S.TK s.heap) ks ws)(room:A.units+2<cLine)
  (hD:s.heap.get? D=some (seqObj "list" #[] e1)) (hK:s.heap.get? kS=some (seqObj "list" ks.toArray e)) (ne:D≠kS)
  (h:∀ps:List (Value×Value),ps.Perm (ks.zip its)->ps.Pairwise (λp q=>HT.lexLt (S.dc s.heap q.1) (S.dc s.heap p.1)=false)->
   P (.done (.ret .none)) {s with heap:=(s.heap.update kS (Obj.mapSeq λ_=>#[])).update D (Obj.mapSeq λ_=>(ps.map Prod.snd).toArray)}):
  wpAny (model prog w) A (ksk_end D false its.toArray e1 (.ref kS) ks.toArray) P E s:=by
 have hpz:(ks.toArray.zip its.toArray).toList=ks.zip its:=Ad;have hpn:(ks.toArray.zip its.toArray).size=its.length:=by rw[<- aI,hpz,jh];lia
 have hD2:(s.heap.update kS (Obj.mapSeq λ_=>(#[]:An))).get? D=some (seqObj "list" #[] e1):=(bu _ _ (ce ne)).trans hD;have tail:∀st:SortSt,failedOf st=none->(arrOf st).Perm (ks.toArray.zip its.toArray)->(arrOf st).toList.Pairwise (λp q=>HT.lexLt (S.dc s.heap q.1) (S.dc s.heap p.1)=false)->wpAny (model prog w) A (ksk_tail D false e1 (.ref kS) st) P E s:=λst hf hp hs=>by
  unfold ksk_tail;dsimp only;refine ab (dM hK rfl ?_ (by rw[aK];lia) (ba _));refine ab (iF ?_);refine ab (iH hD2 rfl ?_);refine ab (dM hD2 rfl ?_ (ba _) ?_)
  .rw[hf];simp only[iI,iy,ic];refine ah ?_;have:=h (arrOf st).toList (by rw[<- hpz];exact cz.mp hp) hs;have e:∀xs:Array Keyed,(xs.toList.map Prod.snd).toArray=xs.map (·.2):=λxs=>by rw[<- Array.toList_map,cX]
   rw[e] at this;exact this
  .simp only[iy,ic];rw[size_map,hp.size_eq,hpn];lia
 unfold ksk_end;dsimp only;simp only[iy,ic];by_cases few:its.toArray.size<2
 .rw[ax few,ax few];refine ab (ah ?_);rw[StateT.run_pure];refine ab (ah ?_);dsimp only;refine tail (SortSt.mk' general' _ #[] 7 none) rfl (jg _) ?_;show (ks.toArray.zip its.toArray).toList.Pairwise _;rw[hpz];rw[aK] at few;have:(ks.zip its).length<=1:=by rw[jh];lia
  exact jW1 this
 .rw[aq few,aq few];rw[aK] at few;have nek:ks≠[]:=λz=>by rw[z] at hl;simp at hl;lia
  have allk: @TM.AllI (odK S ws s.heap ks) (ks.toArray.zip its.toArray).toList:=λp hp=>by
   rw[hpz] at hp;exact(di hp).1
  letI iO:TM.Od:=odK S ws s.heap ks
  haveI iL:TM.LtOk prog w A s:=ltK ok t room
  refine ab (ok.kind t nek (ab (cb (TM.wpS_sortRunsAny (a₀:=ks.toArray.zip its.toArray) (st:=SortSt.mk' (S.kd ws) _ #[] 7 none)
   (Q:=λ_ st'=>(arrOf st').Perm (ks.toArray.zip its.toArray)/\failedOf st'=none/\TM.STo (arrOf st') (ks.toArray.zip its.toArray).size)
   allk ⟨jg _,rfl,rfl,rfl⟩ (by rw[hpn];lia) λst' a1 a2 a3=>⟨a1,a2,a3⟩) ?_ λ_ _ e=>e)))
  rintro ⟨⟨⟩,st'⟩ s' ⟨rfl,p1,p2,p3⟩;dsimp only at p1 p2 p3 ⊢;refine tail st' p2 p1 ?_;have pl:=cz.mp p1;rw[bY];intro i j hi hj hij;rw[aI] at hi hj;have sz:=p1.size_eq;have k:=p3 i j (cV hij) Aa;have ei:(arrOf st')[i]?=some (arrOf st')[i]:=lv _ i hi;have ej:(arrOf st')[j]?=some (arrOf st')[j]:=lv _ j hj;have m2:(arrOf st')[j].1∈ks:=allk _ (pl.mem_iff.mp Ad);rw[@TM.KI_key (odK S ws s'.heap ks) _ _ _ ei,@TM.KI_key (odK S ws s'.heap ks) _ _ _ ej] at k;have e:decide (@TM.key (odK S ws s'.heap ks) (arrOf st')[j]< @TM.key (odK S ws s'.heap ks) (arrOf st')[i])=HT.lexLt (S.dc s'.heap (arrOf st')[j].1) (S.dc s'.heap (arrOf st')[i].1):=TM.rk_lt (dR m2);rw[gG,gG,<- e];exact aH (Int.not_lt.mpr k)
end
def Un.out{fs:List Addr}{H H':Hp}{h h1 h2:Heap}(u:Un fs [] H H' h h1)(k:∀b,b<h.objs.size->h2.get? b=h1.get? b):Un fs [] H H' h h2 where
 keep b o e n f x:=(k b (aC e)).trans (u.keep b o e n f x)
 slot b o e n f x:=by obtain⟨sl,q⟩:=u.slot b o e n f x;exact⟨sl,(k b (aC e)).trans q⟩
 free:=u.free
 there b o e x:=by obtain⟨o',q⟩:=u.there b o e x;exact⟨o',(k b (aC e)).trans q⟩
 tups:=u.tups
 frzs:=u.frzs
 tbls:=u.tbls
def Un.track{fs:List Addr}{H':Hp}{h1:Heap}{o:HO}(ok:HOk P w H h)(u:Un fs [] H H' h h1)(hD:h.objs.size<=D):Un fs [] H (upd H' D o) h h1 where
 keep:=u.keep
 slot:=u.slot
 free b ob e n x:=by rw[j8 (aO (aR (aC e) hD))];exact u.free b ob e n x
 there:=u.there
 tups b xs e:=by rw[j8 (aO (aR (ok.lt e) hD))];exact u.tups b xs e
 frzs b ob q e:=by rw[j8 (aO (aR (ok.lt e) hD))];exact u.frzs b ob q e
 tbls b ps e:=by rw[j8 (aO (aR (ok.lt e) hD))];exact u.tbls b ps e
def HOk.adopt{o:HO}(ok:HOk P w H h)(hn:H D=none)(new:ObjOk P w (upd H D o) h D o):HOk P w (upd H D o) h:=λb u e=>by
 by_cases hb:b=D
 .subst hb;rw[j7] at e;cases e;exact new
 .rw[j8 hb] at e;exact(ok b u e).stay (λc v _ q=>q) (λc q=>by rw[j8 (jA q hn)];exact q) λc xs q=>by rw[j8 (jA q hn)];exact q
def Inv.repin{lw:Ai}{σ:St}{H:Hp}{s:Shared}{D kS:Addr}{oD oK oK':Obj}{f:Obj->Obj}(I:Inv X (lw++[(D,oD),(kS,oK)]) σ H s)(fk:FpOk X lw H kS)(ne:D≠kS)(e:(s.heap.update kS f).get? kS=some oK')(hc:∀v,oK'.data≠.cell v):
  Inv X (lw++[(D,oD),(kS,oK')]) σ H {s with heap:=s.heap.update kS f}:=by
 obtain⟨f0,f1,f2,f3,f4,f5⟩:=fk;have I1:Inv X (lw++[(D,oD)]) σ H s:=I.pins_of λp hp=>I.pin p (aE _ (by
  rcases aM.mp hp with z|z
  .exact aZ _ z
  .exact aE _ (by rw[aF] at z;rw[z];exact ai ..)))
 have I2:Inv X (lw++[(D,oD)]) σ H {s with heap:=s.heap.update kS f,toks:=s.toks}:=I1.turned (it:=kS) (λb o hb q=>(bu _ _ (ce hb)).trans q) f0 f1 f3 f4 λp hp=>by
  rcases aM.mp hp with z|z
  .exact f5 p (aZ _ z)
  .rcases aM.mp z with z|z
   .exact f5 p (aE _ z)
   .rw[aF] at z;rw[z];exact ne
 refine I2.pins_of λp hp=>?_;rcases aM.mp hp with z|z
 .exact I2.pin p (aE _ (aZ _ z))
 .rcases aA.mp z with z|z
  .exact I2.pin p (aE _ (aE _ (by rw[z];exact ai ..)))
  .rw[aF] at z;rw[z];exact⟨e,f0,f1,f2,hc⟩
theorem jKI(ok:KeyOk S){k:Nat}{q:Addr}{zh:Hp->Prop}{sp:Sp}(F:Callee X.prog X.w X.K X.mg X.Aq ZT zh k q sp)(zo:∀H H',Ext H H'->zh H->zh H')(hr:Room k X.A.in1.in1){lw:Ai}{σ:St}{H:Hp}{s:Shared}{oD:Obj}{us:List V}{E:Ah}
  (hkey:∀v∈us,∀(H1:Hp) (Q1:VK),Ext H H1->(∀r H2,S.KR H2 r (KF v)->Ext H1 H2->Q1 r H2)->sp [v] H1 Q1 E0) (fk:FpOk X lw H kS) (ne:D≠kS) (hkS:s.heap.objs.size<=kS)
  {body:Value->PUnit->Sem (ForInStep PUnit)}(hb:∀x (sj:Shared) (C:ForInStep PUnit->Shared->Prop),wpAny (model X.prog X.w) X.A.in1.in1 (call (.ref q) [x]) (λkv s''=>∃ks e,s''.heap.get? kS=some (seqObj "list" ks e)/\ks.size<sizeLine/\C (.yield ⟨⟩) {s'' with heap:=s''.heap.update kS (Obj.mapSeq (·.push kv))}) (λ_ _=>False) sj->wpAny (model X.prog X.w) X.A.in1.in1 (body x ⟨⟩) C E sj):
  ∀(r:Al) (rv:List V) (ks:Al) (kvs dn:List V) (e:Nat) (sj:Shared) (Hj:Hp),Vals rv r->(∀v∈rv,v∈us)->ks.length+r.length<=sizeLine->
   Inv X (lw++[(D,oD),(kS,seqObj "list" ks.toArray e)]) σ Hj sj->Un (frs X.stack) [] H Hj s.heap sj.heap->Ext H Hj->zh Hj->Vals kvs ks->All2 (λkv v=>S.KR Hj kv (KF v)) kvs dn->
   wpAny (model X.prog X.w) X.A.in1.in1 (forIn r PUnit.unit body) (λ_ s'=>∃ks' kvs' e' H',Inv X (lw++[(D,oD),(kS,seqObj "list" ks'.toArray e')]) σ H' s'/\Un (frs X.stack) [] H H' s.heap s'.heap/\Ext H H'/\Vals kvs' ks'/\All2 (λkv v=>S.KR H' kv (KF v)) kvs' (dn++rv)) E sj
 |[],rv,ks,kvs,dn,e,sj,Hj,hv,hm,hz,I,u,ex,z,hk,al=>by
  rw[jw];cases hv;exact ah ⟨ks,kvs,e,Hj,I,u,ex,hk,by rw[bg];exact al⟩
 |x::r,rv,ks,kvs,dn,e,sj,Hj,hv,hm,hz,I,u,ex,z,hk,al=>by
  cases hv with
  | @cons v _ rv' _ rx rs=>
  rw[aV] at hz;rw[gI];refine ab (hb x sj _ ?_);have sp1:=hkey v (hm v (ai ..)) Hj (λr H2=>S.KR H2 r (KF v)/\Ext Hj H2) ex λr H2 h1 h2=>⟨h1,h2⟩;refine gl (cW (F.run X.A.in1.in1 X.stack sj Hj [x] [v] _ E0 hr I.env0.in1.in1 trivial z (.cons rx .nil) sp1) λfr s' hq=>?_);cases fr with
  |error e=>exact hq.elim
  |ok fl=>
   cases fl with
   |ret kv=>
    obtain⟨v',H2,os,bare,un,hok,rel,kr,e2⟩:=hq;have I2:=Inv.call' I os un hok bare λb z=>absurd z Ad;obtain⟨gk,nk,_,_,_⟩:=I2.pin (kS,seqObj "list" ks.toArray e) (aE _ (aE _ (ag _ (ai ..))));have ea:ks.toArray.push kv=(ks++[kv]).toArray:=Ad;obtain⟨c2,hc2⟩:∃c2,(s'.heap.update kS (Obj.mapSeq (·.push kv))).get? kS=some (seqObj "list" (ks++[kv]).toArray c2):=⟨_,by rw[<- ea];exact fh gk (·.push kv)⟩;have I3:=I2.repin (oK':=seqObj "list" (ks++[kv]).toArray c2) ⟨nk,fk.2⟩ ne hc2 (by intro v q;cases q);refine⟨_,e,gk,by rw[aK];lia,?_⟩;show wpAny (model X.prog X.w) X.A.in1.in1 (forIn r PUnit.unit body) _ E _;have u3:=(u.trans un).out (h2:=s'.heap.update kS (Obj.mapSeq (·.push kv))) λb hb=>bu _ _ (cr (aR hb hkS));have:=jKI ok F zo hr hkey fk ne hkS hb r rv' (ks++[kv]) (kvs++[v']) (dn++[v]) c2 _ H2 rs (λw hw=>hm w (ag _ hw)) (by rw[ak,gd];lia) I3 u3 (ex.trans e2) (zo _ _ e2 z) (hk.append (.cons rel .nil)) (All2.snoc (All2.imp (λa b q=>ok.mono (λc xs h=>e2 c _ h) q) al) kr);rw[aY] at this;exact this
   |next=>exact False.elim hq
   |brk=>exact False.elim hq
   |cont=>exact False.elim hq
def jSG(ok:KeyOk S)(hk:HOk P w H h) :∀{kvs:List V}{ks:Al}{us:List V},Vals kvs ks->All2 (λkv v=>S.KR H kv (KF v)) kvs us->All2 (S.TK h) ks (us.map KF)
 |[],_,[],.nil,_=>trivial
 |_::_,_,_::_,.cons r rs,⟨t,ts⟩=>⟨ok.of hk r t,jSG ok hk rs ts⟩
def jH1:∀{us:List V}{its:Al},Vals us its->(∀v∈us,∃a,v=V.ref a)->its.map refV=us
 |[],_,.nil,_=>rfl
 |v::us,_,.cons r rs,h=>by
  obtain⟨a,e⟩:=h v (ai ..);subst e;cases r;rw[aW,jH1 rs λw hw=>h w (ag _ hw)];rfl
def jH0:∀{its:Al},(∀u∈its,∃a,u=Value.ref a)->Vals (its.map refV) its
 |[],_=> .nil
 |u::its,h=>by
  obtain⟨a,e⟩:=h u (ai ..);subst e;exact .cons rfl (jH0 λw hw=>h w (ag _ hw))
def jGJ:∀{us:List V}{its:Al},Vals us its->(∀v∈us,∃a,v=V.ref a)->∀u∈its,∃a,u=Value.ref a
 |[],_,.nil,_,u,hu=>by cases hu
 |v::us,_,.cons r rs,h,u,hu=>by
  obtain⟨a,e⟩:=h v (ai ..);subst e;cases r;rcases aA.mp hu with z|z
  .exact⟨a,z⟩
  .exact jGJ rs (λw hw=>h w (ag _ hw)) u z
def jLW{ks its:Al}{f:Value->Ag}{g:Value->Ag}:∀{ks its:Al}{us:List V}{KF:V->Ag},ks.map f=us.map KF->its.map refV=us->∀p∈ks.zip its,f p.1=KF (refV p.2)
 |[],_,_,_,_,_,p,hp=>by cases hp
 |_::_,[],_,_,_,_,p,hp=>by cases hp
 |k::ks,u::its,us,KF,e1,e2,p,hp=>by
  subst e2;rw[aW,aW,aW] at e1;injection e1 with q1 q2;rw[dX] at hp;rcases aA.mp hp with z|z
  .rw[z];exact q1
  .exact jLW (ks:=ks) (its:=its) (f:=f) (g:=g) q2 rfl p z
def jRX(ok:KeyOk S) :∀{ks:Al}{ws:Af},All2 (S.TK h) ks ws->ks.map (S.dc h)=ws
 |[],[],_=>rfl
 |_::_,_::_,⟨t,r⟩=>by rw[aW,ok.dec t,jRX ok r]
theorem jHS(ok:KeyOk S){k:Nat}{sp:Sp}{zh:Addr->Addr->Hp->Prop}(F:∀q c,Callee X.prog X.w X.K X.mg X.Aq ZT (zh q c) k q sp)(zo:∀q c H H',Ext H H'->zh q c H->zh q c H')(hr:Room (k+2) X.A):
  jPJ X (.builtin "sorted") [Str.ofString "key"] (λxs zs H Q=>∃(p:Addr) (us:List V) (q c:Addr) (KF:V->Ag),xs=[.ref p]/\zs=[.ref q]/\SqL X.K H p us/\zh q c H/\(∀v∈us,∃a,v=V.ref a)/\
   (∀v∈us,∀(H1:Hp) (Q1:VK),Ext H H1->(∀r H2,S.KR H2 r (KF v)->Ext H1 H2->Q1 r H2)->sp [v] H1 Q1 E0)/\
   ∀(l:Addr) (us':List V) (H':Hp),H l=none->us'.Perm us->us'.Pairwise (λu v=>HT.lexLt (KF v) (KF u)=false)->Ext H H'->H' l=some (.lst us')->Q (.ref l) H'):=by
 intro lw s σ H xs zs us0 ws0 Q I r1 r2 h;obtain⟨p,us,q,c,KF,rfl,rfl,hp,hz,hrf,hkey,fin⟩:=h;obtain⟨u,rfl,rx⟩:=r1.one;cases rx;obtain⟨u2,rfl,ry⟩:=r2.one;cases ry;obtain⟨its,rv,pl,hlen⟩:=I.list hp;have rl:=rv.length;show wpAny (model X.prog X.w) X.A (call (.builtin "sorted") [.ref p] [(Str.ofString "key",.ref q)]) (EP X lw σ Q) X.xe s;refine call_function_entry_kw kind_sorted plain_sorted entry_sorted (ksk_s1 _ _) ?_;unfold Builtin.«sorted»;refine ab (m:=checkCount "sorted" 1 1 _) (ah ?_);refine ab (collect_list pl.isList ?_ Aa);refine ab (eD ?_ Aa);have hsz:((s.heap.push (seqObj "list" #[] 0)).update s.heap.objs.size (Obj.mapSeq (· ++its.toArray))).objs.size=s.heap.objs.size+1:=by
  rw[iX,im]
 have hoL:(((s.heap.push (seqObj "list" #[] 0)).update s.heap.objs.size (Obj.mapSeq (· ++its.toArray))).push (seqObj "list" its.toArray 0)).get? (s.heap.objs.size+1)=some (seqObj "list" its.toArray 0):=by
  rw[<- hsz];exact ao _ rfl
 have k5:∀b o,s.heap.get? b=some o->(((s.heap.push (seqObj "list" #[] 0)).update s.heap.objs.size (Obj.mapSeq (· ++its.toArray))).push (seqObj "list" its.toArray 0)).get? b=some o:=λb o q=>by
  refine ae _ ?_;rw[bu _ _ (cr (aC q))];exact ae _ q
 have z5:(((s.heap.push (seqObj "list" #[] 0)).update s.heap.objs.size (Obj.mapSeq (· ++its.toArray))).push (seqObj "list" its.toArray 0)).objs.size=s.heap.objs.size+2:=by rw[im,hsz]
 show wpAny _ _ _ _ _ {s with heap:=((s.heap.push (seqObj "list" #[] 0)).update s.heap.objs.size (Obj.mapSeq (· ++its.toArray))).push (seqObj "list" its.toArray 0)};rw[hsz];generalize ((s.heap.push (seqObj "list" #[] 0)).update s.heap.objs.size (Obj.mapSeq (· ++its.toArray))).push (seqObj "list" its.toArray 0)=h5 at hoL k5 z5;have hD:s.heap.objs.size<=s.heap.objs.size+1:=dH _;have hDk:s.heap.objs.size+1≠h5.objs.size+1:=Aa;have hkS:s.heap.objs.size<=h5.objs.size+1:=Aa;generalize s.heap.objs.size+1=D at hoL hD hDk;refine ab (bE (wpAny_call_entry_kw ik ⟨_,hoL,rfl⟩ gJ ?body (ksk_l1 _ _)))
 case body=>
  show wpAny (model X.prog X.w) X.A.in1.in1 (Builtin.«list.sort» ⟨[.ref D],[(Str.ofString "key",.ref q)]⟩) _ _ _;rw[ksk_t1];unfold ksk_tree;refine ab (g5 hoL rfl ?_);refine ab (dM hoL rfl ?_ (by rw[aK];lia) (ba _));obtain⟨e1,ho1⟩:∃e1,(h5.update D (Obj.mapSeq λ_=>(#[]:An))).get? D=some (seqObj "list" #[] e1):=⟨_,fh hoL λ_=>#[]⟩;refine ab (iH ho1 rfl ?_);refine ab (io ?_ (by show its.length<=_;lia));refine ab (eD ?_ (ba _));refine bE ?_;have hkz:((h5.update D (Obj.mapSeq λ_=>(#[]:An))).push (seqObj "tuple" its.toArray 0)).objs.size=h5.objs.size+1:=by rw[im,iX]
  have hoK:(((h5.update D (Obj.mapSeq λ_=>(#[]:An))).push (seqObj "tuple" its.toArray 0)).push (seqObj "list" #[] 0)).get? (h5.objs.size+1)=some (seqObj "list" #[] 0):=by
   rw[<- hkz];exact ao _ rfl
  have hoD:(((h5.update D (Obj.mapSeq λ_=>(#[]:An))).push (seqObj "tuple" its.toArray 0)).push (seqObj "list" #[] 0)).get? D=some (seqObj "list" #[] e1):=ae _ (ae _ ho1);have k6:∀b o,s.heap.get? b=some o->(((h5.update D (Obj.mapSeq λ_=>(#[]:An))).push (seqObj "tuple" its.toArray 0)).push (seqObj "list" #[] 0)).get? b=some o:=λb o z=>by
   refine ae _ (ae _ ?_);rw[bu _ _ (cr (aR (aC z) hD))];exact k5 b o z
  show wpAny _ _ (ksk_rest D (.ref q) false its.toArray e1 (.ref ((h5.update D (Obj.mapSeq λ_=>(#[]:An))).push (seqObj "tuple" its.toArray 0)).objs.size)) _ _ {s with heap:=((h5.update D (Obj.mapSeq λ_=>(#[]:An))).push (seqObj "tuple" its.toArray 0)).push (seqObj "list" #[] 0)};rw[hkz];generalize ((h5.update D (Obj.mapSeq λ_=>(#[]:An))).push (seqObj "tuple" its.toArray 0)).push (seqObj "list" #[] 0)=h6 at hoK hoD k6;generalize h5.objs.size+1=kS at hoK hkS hDk;have fD:FpOk X lw H D:=I.fpOk hD (I.hok.fresh hD);have fK:FpOk X lw H kS:=I.fpOk hkS (I.hok.fresh hkS);have I6:Inv X lw σ H {s with heap:=h6,toks:=s.toks}:=I.kept k6;have I7:Inv X (lw++[(D,seqObj "list" #[] e1),(kS,seqObj "list" ([]:Al).toArray 0)]) σ H {s with heap:=h6}:=I6.pins_of λx hx=>by
   rcases aM.mp hx with z|z
   .exact I6.pin x (aE _ z)
   .rcases aA.mp z with z|z
    .rw[z];exact⟨hoD,fD.1,fD.2.1,fD.2.2.1,by intro v q;cases q⟩
    .rw[aF] at z;rw[z];exact⟨hoK,fK.1,fK.2.1,fK.2.2.1,by intro v q;cases q⟩
  have u7:Un (frs X.stack) [] H H s.heap h6:=Un.kept k6;unfold ksk_rest;refine ab (cG ?_);rw[<- Array.forIn_toList];simp only[List.toList_toArray];refine ab (cb (jKI ok (F q c) (zo q c) hr.in1.in1 hkey fK hDk hkS (λx sj C hx=>?_) its us [] [] [] 0 {s with heap:=h6} H rv (λv hv=>hv) (by rw[cE];lia) I7 u7 (Ext.refl _) hz .nil trivial) (λ_ s' hd=>?_) λ_ _ x=>x)
  .refine ab (dw (cb hx (λkv s'' hk=>?_) λ_ _ hF=>hF.elim));obtain⟨ks,e,gk,sz,hc⟩:=hk;dsimp only;refine ab (dM gk rfl ?_ (cV sz) (bA (lh (Array.size_push ..)) Aa));exact ah hc
  .obtain⟨ks,kvs,e,HN,IN,uN,eN,vk,al⟩:=hd;rw[List.nil_append] at al;obtain⟨gD,nD,_,_,_⟩:=IN.pin (D,seqObj "list" #[] e1) (aE _ (aE _ (ai ..)));obtain⟨gK,nK,_,_,_⟩:=IN.pin (kS,seqObj "list" ks.toArray e) (aE _ (aE _ (ag _ (ai ..))));refine ab (g5 gK rfl ?_);have tk:=jSG ok IN.hok vk al;have kl:ks.length=its.length:=by rw[<- vk.length,al.len];exact rl
   have un:=hr.un;refine jO7 ok kl Aa tk (by rw[Around.in1_units,Around.in1_units];lia) gD gK hDk λps pm pw=>⟨_,rfl,ah ⟨_,rfl,?_⟩⟩;have bk:=jH1 rv hrf;have dk:∀x∈ks.zip its,S.dc s'.heap x.1=KF (refV x.2):=jLW (g:=λ_=>[]) (ks:=[]) (its:=[]) (jRX ok tk) bk;have pi:(ps.map Prod.snd).Perm its:=by
    have:=pm.map Prod.snd;rw[List.map_snd_zip Aa] at this;exact this
   have rf:∀u∈ps.map Prod.snd,∃a,u=Value.ref a:=λu hu=>jGJ rv hrf u (pi.mem_iff.mp hu);have p1:((ps.map Prod.snd).map refV).Perm us:=by rw[<- bk];exact pi.map _
   have p2:((ps.map Prod.snd).map refV).Pairwise λu v=>HT.lexLt (KF v) (KF u)=false:=by
    rw[bG,bG];exact(List.Pairwise.and_mem.mp pw).imp λ{a b} h=>by
     rw[<- dk a (pm.mem_iff.mp h.1),<- dk b (pm.mem_iff.mp h.2.1)];exact h.2.2
   obtain⟨e9,he9⟩:∃e9,((s'.heap.update kS (Obj.mapSeq λ_=>(#[]:An))).update D (Obj.mapSeq λ_=>(ps.map Prod.snd).toArray)).get? D=some (seqObj "list" (ps.map Prod.snd).toArray e9):=⟨_,fh ((bu _ _ (ce hDk)).trans gD) λ_=>(ps.map Prod.snd).toArray⟩;have oth:∀b,b≠D->b≠kS->((s'.heap.update kS (Obj.mapSeq λ_=>(#[]:An))).update D (Obj.mapSeq λ_=>(ps.map Prod.snd).toArray)).get? b=s'.heap.get? b:=λb n1 n2=>(bu _ _ (ce n1)).trans (bu _ _ (ce n2));generalize (s'.heap.update kS (Obj.mapSeq λ_=>(#[]:An))).update D (Obj.mapSeq λ_=>(ps.map Prod.snd).toArray)=hf at he9 oth;have nt:∀b o,HN b=some o->b≠D/\b≠kS:=λb o z=>⟨λy=>(by rw[y,nD] at z;cases z),λy=>(by rw[y,nK] at z;cases z)⟩;have ok1:HOk X.prog X.w HN hf:=λb o z=>(IN.hok b o z).stay (λc v hc y=>by
    have:c≠D/\c≠kS:=by
     rcases hc with e|e
     .rw[e];exact nt b o z
     .exact nt c _ e
    rw[oth c this.1 this.2];exact y) (λ_ y=>y) λ_ _ y=>y
   have pz:((ps.map Prod.snd).map refV).length<=sizeLine:=by rw[af,pi.length_eq];lia
   have ok2:HOk X.prog X.w (upd HN D (.lst ((ps.map Prod.snd).map refV))) hf:=ok1.adopt nD ⟨pz,ps.map Prod.snd,e9,jH0 rf,he9⟩;have u9:Un (frs X.stack) [] H (upd HN D (.lst ((ps.map Prod.snd).map refV))) s.heap hf:=(uN.out λb hb=>oth b (aO (aR hb hD)) (aO (aR hb hkS))).track I.hok hD;have I9:Inv X lw σ (upd HN D (.lst ((ps.map Prod.snd).map refV))) {s' with heap:=hf}:=Inv.call' I (IN.os.trans I.os.symm) u9 ok2 IN.bare λb z=>absurd z Ad;exact⟨.ref D,_,I9,rfl,fin D _ _ (I.hok.fresh hD) p1 p2 (λb o z=>by rw[j8 (aO (aR (I.hok.lt z) hD))];exact eN b o z) j7⟩
end L2
namespace TM
open PySem PySem.Spec PyProof.Rows PySem.W
open L2 (All2)
variable {v u:Value}
def TupP(h:Heap)(v:Value)(l:Ag):Prop:=∃a m n t c lot,v=.ref a/\h.get? a=some {cls:=.type "tuple",data:=.seq #[.int n t,.ref c] m} /\TupI h (.ref c) lot/\l=n::lot
noncomputable def decP(h:Heap):Value->Ag
 | .ref a=>match h.get? a with
  |some o=>match o.data with
   | .seq xs _=>match xs.toList with
    |[k,c]=>numOf k::decV h c
    |_=>[]
   |_=>[]
  |none=>[]
 |_=>[]
def TupP.dec{h:Heap}{l:Ag}(t:TupP h v l):decP h v=l:=by
 obtain⟨a,m,n,t,c,lot,rfl,ho,hc,rfl⟩:=t;dsimp only[decP];rw[ho];show n::decV h (.ref c)=_;rw[hc.dec]
section
variable {prog:Program}{w:World}{A:Around}{E:Ah}{s:Shared}
theorem eqTup{x y:Ag}(hu:TupI s.heap u x)(hv:TupI s.heap v y)(room:A.units+1<cLine):SeqAt.EqAt A s u v (decide (x=y)):=by
 obtain⟨a,n,its,rfl,ho,hi⟩:=hu;obtain⟨b,m,its2,rfl,ho2,hi2⟩:=hv;by_cases e:a=b
 .subst e;rw[ho] at ho2;cases ho2;have:x=y:=hi.nums.symm.trans hi2.nums;rw[ay this];exact SeqAt.EqAt.same _
 .refine SeqAt.EqAt.of_refs e ?_;have key:=SeqAt.RcAt.tuples (A:=A) (s:=s) (l:=a) (b:=b) (items:=its) (items2:=its2) (e:=λj=>decide (x.getD j 0=y.getD j 0)) ⟨_,ho,rfl,n,rfl⟩ ⟨_,ho2,rfl,m,rfl⟩ Aa λj h1 h2=>by
   have at1:∀{vs:Al}{ns:Ag},IntsAre vs ns->∀(j:Nat) (h:j<vs.length),∃t,vs[j]=Value.int (ns.getD j 0) t:=by
    intro vs ns h
    induction h with
    |nil=>intro j h;cases h
    |cons n t _ ih=>
     intro j h;cases j with
     |zero=>exact⟨t,rfl⟩
     |succ j=>exact ih j (Nat.lt_of_succ_lt_succ h)
   obtain⟨t1,e1⟩:=at1 hi j (by rw[aI];exact h1);obtain⟨t2,e2⟩:=at1 hi2 j (by rw[aI];exact h2);rw[gG] at e1 e2;rw[e1,e2];exact fj _ t1 _ t2
  have l1:its.size=x.length:=by rw[<- hi.nums,af,aI]
  have l2:its2.size=y.length:=by rw[<- hi2.nums,af,aI]
  have ee:((List.range (min its.size its2.size)).all (λj=>decide (x.getD j 0=y.getD j 0))&&its.size==its2.size)=decide (x=y):=by
   rw[cB,bC,bI,cj,eJ,l1,l2];constructor
   .rintro ⟨h1,h2⟩;refine gx h2 λj q1 q2=>?_;have:=aP (h1 j (bR.mpr Aa));rw[aB,aB,az q1,az q2] at this;exact this
   .intro z;subst z;exact⟨λj _=>ay rfl,rfl⟩
  rw[ee] at key;exact key
def jE4:∀{vs:Al}{ws:Af},All2 (TupP s.heap) vs ws->∃fs:Al,KatTups s.heap vs fs/\fs.length=vs.length/\∀v∈fs,∃n t,v=Value.int n t
 |[],[],_=>⟨[],trivial,rfl,λv h=>by cases h⟩
 |v::vs,l::ws,⟨⟨a,m,n,t,c,lot,e,ho,hc,_⟩,r⟩=>by
  obtain⟨fs,h1,h2,h3⟩:=jE4 r;refine⟨.int n t::fs,⟨⟨a,_,_,m,e,ho,rfl,rfl,rfl⟩,h1⟩,bW (· +1) h2,λv hv=>?_⟩;rcases aA.mp hv with z|z
  .exact⟨n,t,z⟩
  .exact h3 v z
def pair_kind{vs:Al}{ws:Af}{Q:SortKind->Shared->Prop}(t:All2 (TupP s.heap) vs ws)(h2:vs≠[])(h:Q (tuples' true) s):wpAny (model prog w) A (keyKind' vs.toArray) Q E s:=by
 obtain⟨fs,f1,f2,f3⟩:=jE4 t;refine kat_kind (T:=.type "int") f1 (by rw[f2];exact List.length_pos_iff.mpr h2) (λv hv=>?_) rfl h;obtain⟨n,t',e⟩:=f3 v hv;rw[e];exact .now
theorem pair_lt{x y:Ag}{Q:Bool->Shared->Prop}(hu:TupP s.heap u x)(hv:TupP s.heap v y)(room:A.units+2<cLine)(h:Q (HT.lexLt x y) s):wpAny (model prog w) A (keyLt' (tuples' true) u v) Q E s:=by
 obtain⟨a,m,n,t,c,lot,rfl,ho,hc,rfl⟩:=hu;obtain⟨a2,m2,n2,t2,c2,lot2,rfl,ho2,hc2,rfl⟩:=hv;refine kat_lt ho rfl ho2 rfl ?_;show KatLex prog w A true false Q [(.int n t,.int n2 t2),(.ref c,.ref c2)] 0 s;rw[HT.lexLt_cons] at h;refine kat_cons (fj n t n2 t2 prog w _ _ ?_);by_cases e:n=n2
 .rw[ax e] at h;rw[show (n==n2)=true by simp[e]];refine kat_yes (kat_cons (eqTup hc hc2 Aa prog w _ _ ?_));by_cases e2:lot=lot2
  .rw[e2,lex_irr] at h;rw[ay e2];exact kat_yes (kat_nil h)
  .rw[aH e2];refine kat_no ?_;obtain⟨b1,k1,its1,q1,o1,i1⟩:=hc;obtain⟨b2,k2,its2,q2,o2,i2⟩:=hc2;cases q1;cases q2;exact kat_one _ _ (HT.lt_tupInts (items:=its1) (items2:=its2) ⟨_,o1,rfl,k1,rfl⟩ ⟨_,o2,rfl,k2,rfl⟩ i1 i2 Aa h)
 .rw[aq e] at h;rw[show (n==n2)=false by simp[e]];exact kat_no (jTV h)
end
end TM
namespace L2
open PySem PySem.Spec PyProof.Rows
variable {pl:Sem Bool}
def PairR(H:Hp)(v:V)(l:Ag):Prop:=∃t a n lot,v=.ref t/\H t=some (.tup [.int n,.ref a])/\H a=some (.tup (lot.map V.int))/\l=n::lot
def PairR.at{P:Program}{w:World}{H:Hp}{h:Heap}{v:V}{u:Value}{l:Ag}(ok:HOk P w H h)(r:RelV v u)(k:PairR H v l):TM.TupP h u l:=by
 obtain⟨t,a,n,lot,rfl,ht,ha,rfl⟩:=k;cases r;obtain⟨_,its,r2,m,ho⟩:=(show ObjOk P w H h t (.tup _) from ok t _ ht);obtain⟨_,its2,r3,m2,ho2⟩:=(show ObjOk P w H h a (.tup _) from ok a _ ha);cases r2 with
 |cons q1 q2=>
  cases q2 with
  |cons q3 q4=>
   cases q4;obtain⟨tk,rfl⟩:=q1;cases q3;exact⟨t,m,n,tk,a,lot,rfl,ho,⟨a,m2,its2.toArray,rfl,ho2,jLP r3⟩,rfl⟩
def keyP:KeyS:=⟨TM.TupP,PairR,λ_=>tuples' true,TM.decP⟩
def jUM:KeyOk keyP where
 of:=PairR.at
 mono:=λt k=>let ⟨q,a,n,lot,e,h1,h2,h3⟩:=k;⟨q,a,n,lot,e,t _ _ h1,t _ _ h2,h3⟩
 dec:=TM.TupP.dec
 kind:=TM.pair_kind
 lt:=TM.pair_lt
variable {X:Cx}
section
variable {S:KeyS}
end
variable {x:Str}
section
variable {P:Program}{w:World}{K:W.Frag}{mg:Ak}{Aq:Heap}{N fs:Am}{qual:Str}{scope:Scope}{f:Addr}{cd:Value}{cl:Aj}{A:Around}{Ap:List Env}{s:Shared}{H:Hp}{u:Value}{v:V}{fv:List V}
end
def yQ{a:Expr}{f:Str}{pos:Pos}{es:List Expr}{env:Env}:starEach (.Attribute a f pos::es) env=(false,eval (.Attribute a f pos) env)::starEach es env:=rfl
section
variable {o value:Expr}{f m:Str}{pos pos' apos p:Pos}{ta tv:TE}{e:Expr}{es:List Expr}{t:TA}{k:Nat}{C g:Addr}{fd:FuncData}{ps:Am}{sp:Sp}
def kQ(he:JE X o ta)(hb:attributeBase o f X.env (eval o X.env)=eval o X.env:=by rfl):JE X (.Attribute o f pos) (tFld X.K ta f):=⟨jWH he.h hb⟩
def jKK(ha:JE X o ta)(hv:JE X value tv)(hs:SwOk value (some (.Attribute o f pos'))):JS X (.Assign [.Attribute o f pos'] value pos) (sFld X.K ta tv f):=⟨jW5 ha.h hv.h (hs.h _ _)⟩
structure CanM (P:Program)(w:World)(K:W.Frag)(mg:Ak)(Aq:Heap)(C:Addr)(m:Str)(k:Nat)(f:Addr)(fd:FuncData)(ps:Am)(sp:Sp):Prop where
 G:FnOk P w K mg Aq CX0 k f fd ps sp
 c:Cls K C
 m:Meth K C m f
 b:Binds K fd ps []
structure CanK (P:Program)(w:World)(K:W.Frag)(mg:Ak)(Aq:Heap)(x:Str)(C:Addr)(k:Nat)(f:Addr)(fd:FuncData)(ps:Am)(sp:Sp):Prop where
 G:FnOk P w K mg Aq CX0 k f fd ps sp
 M:Mk K C f
 m:mg x=some (.ref C)
 b:Binds K fd ps []
def CanM.je(c:CanM X.prog X.w X.K X.mg X.Aq C m k g fd ps sp)(hr:Room k X.A)(ho:JE X o ta)(ha:JA X (e::es) t)(hst:starEach (e::es) X.env=(false,eval e X.env)::starEach es X.env)(hpl:(backTo pos (starEach es X.env)).any (·.1)=false:=by rfl)
  (ht:eval (.Call (.Attribute o m apos) (e::es) [] pos) X.env=(do
   let ov <- eval o X.env
   standAt apos.atName
   let (f,first) <- holding [ov] (getMethod ov m pl)
   callWith pos f first (backTo pos (starEach (e::es) X.env)) (backToKw pos (keywordEach [] X.env))):=by rfl):
  JE X (.Call (.Attribute o m apos) (e::es) [] pos) (tMeth C m sp [] E0 ta t):=⟨jTK ho.h c.c c.m c.G hr c.b .nil pass0 ha.h hst hpl ht⟩
def CanM.je0(c:CanM X.prog X.w X.K X.mg X.Aq C m k g fd ps sp)(hr:Room k X.A)(ho:JE X o ta)
  (ht:eval (.Call (.Attribute o m apos) [] [] pos) X.env=(do
   let ov <- eval o X.env
   standAt apos.atName
   let (f,first) <- holding [ov] (getMethod ov m pl)
   callWith pos f first (backTo pos (starEach [] X.env)) (backToKw pos (keywordEach [] X.env))):=by rfl):
  JE X (.Call (.Attribute o m apos) [] [] pos) (tMeth C m sp [] E0 ta tNil):=⟨jQ4 ho.h c.c c.m c.G hr c.b .nil pass0 ht⟩
theorem CanK.je0(c:CanK X.prog X.w X.K X.mg X.Aq x C k g fd ps sp)(hr:Room (k+1) X.A)(hg:Gl1 X x)(hdb:(x==("__debug__":Str))=false:=by decide):JE X (.Call (.Name x p) [] [] pos) (tMake C sp [] E0 tNil):=⟨jQ5 c.M c.G hr hg.a c.m c.b .nil pass0 hdb⟩
end
end L2
open PySem L2
variable {P:Program}{w:World}{K:W.Frag}{mg:Ak}{Aq:Heap}{f fT fL fW fR fG fI c0 tb fM fF fA j fC a c fK fN tb1 tb2 fO fB tb3 tb4 C sh l tb5 gB gT gP gN gX gY gU p:Addr}{fdT fdL fdW fdR fdG fdI fdM fdF fdA fdC fdK fdN fdO fdB gdB gdT gdP gdN gdX gdY gdU:FuncData}{cdv cd:Value}{A:Around}{Ap:List Env}{s:Shared}{H0 H H' H'':Hp}{E:XK}{cl:Aj}{Z:Shared->Hp->Prop}{zh:Hp->Prop}{ms:Ag}{ly:Ae}{S:List Addr}{n:Nat}{x:Bx}{hs:List Bx}{u1:Tok}
namespace Eo
open PySem L2
variable {fd:FuncData}{v9 v8 v10 v7 v6:Option V}{D:Ends}{N mt mp:Int}{v:V}{qm ql b qp:Addr}{mays lf ts:Ag}{H5 H1:Hp}{es:List Expr}{xs vs:List V}{e:Expr}
def Keep(H H':Hp)(p:Addr):Prop:=∀b o,H b=some o->b≠p->H' b=some o
structure Txt (mg:Ak):Prop where
 len:mg "len" =none
 range:mg "range" =none
 tuple:mg "tuple" =none
 sorted:mg "sorted" =none
 set:mg "set" =none
 list:mg "list" =none
 int:mg "int" =none
 isinstance:mg "isinstance" =none
 bool:mg "bool" =none
 str:mg "str" =none
 all:mg "all" =none
 zip:mg "zip" =none
 max:mg "max" =none
 min:mg "min" =none
 any:mg "any" =none
 abs:mg "abs" =none
 sum:mg "sum" =none
 enumerate:mg "enumerate" =none
 dict:mg "dict" =none
structure Can (P:Program)(w:World)(K:W.Frag)(mg:Ak)(Aq:Heap)(x:Str)(k:Nat)(f:Addr)(fd:FuncData)(ps:Am)(sp:Sp):Prop where
 G:FnOk P w K mg Aq CX0 k f fd ps sp
 m:mg x=some (.ref f)
 kp:keepIn K (.ref f)=true
 b:Binds K fd ps []
theorem Can.pe{X:Cx}{x:Str}{k:Nat}{ps:Am}{sp:Sp}{t:TA}{p pos:Pos}(C:Can X.prog X.w X.K X.mg X.Aq x k f fd ps sp)(hr:Room k X.A)(hg:Gl X x)(ha:PA X (e::es) t)(hdb:(x==("__debug__":Str))=false:=by decide)
  (he:starEach (e::es) X.env=(false,eval e X.env)::starEach es X.env:=by rfl) (hpl:(backTo pos (starEach es X.env)).any (·.1)=false:=by rfl):PE X (.Call (.Name x p) (e::es) [] pos) (tCall sp [] E0 t):=
 jTQ C.G hr hg C.m C.kp C.b .nil pass0 ha hdb he hpl
theorem Can.je{X:Cx}{x:Str}{k:Nat}{ps:Am}{sp:Sp}{t:TA}{p pos:Pos}(C:Can X.prog X.w X.K X.mg X.Aq x k f fd ps sp)(hr:Room k X.A)(hg:Gl1 X x)(ha:JA X (e::es) t)(he:starEach (e::es) X.env=(false,eval e X.env)::starEach es X.env)
  (hdb:(x==("__debug__":Str))=false:=by decide) (hpl:(backTo pos (starEach es X.env)).any (·.1)=false:=by rfl):JE X (.Call (.Name x p) (e::es) [] pos) (tCall sp [] E0 t):=
 ⟨C.pe hr hg.a ha.h hdb he hpl⟩
inductive jMR(K:W.Frag)(vs:List V)(H:Hp)(Q:VK)(_:XK):Prop|i(a:Addr)(ns:Ag)(k:Int)(_:vs=[.ref a,.int k])(_:SqL K H a (ns.map V.int))(_:0<=k)(_:∀c:Int,Q (.int c) H)
def jVW:FnScope ["script","k"] ["script","k"] (j6 sCell):= {}
theorem jU7(F:Fun K "_law_cell_at" "_law_cell_at" sCell f fd)(T:Txt mg):FnOk P w K mg Aq CX0 1 f fd ["script","k"] (jMR K):=by
 refine F.ok jVW (λvs H Q E h=>?_) (λcdv A Ap s H vs Q E hr h=>?_)
 .obtain⟨a,ns,k,rfl,_⟩:=h;rfl
 .obtain⟨a,ns,k,rfl,hS,h0,q⟩:=h;refine⟨_,y8 (ps_if (jE1 op_lt (pv 1) (jFT jH (by rfl) T.len PySem.boot_len (kO (pv 0) yS)) (jQ _)) (jAR (jD9 (pe_ix jB5 (pv 0) (pv 1) (λ_ _=>rfl)))) jFR) (jAR (jD9 jW)),?_⟩;refine⟨a,_,rfl,.inl hS,_,_,rfl,rfl,_,rfl,?_⟩;refine ite2 (λhlt=>?_) (λ_=>?_)
  .have hlt:k<((ns.map V.int).length:Int):=aP hlt;have hk:k.toNat<ns.length:=by rw[af] at hlt;lia
   refine⟨a,_,k,.int (ns[k.toNat]),rfl,rfl,hS,?_,q _⟩;have e:(k.toNat:Int)=k:=Aa;have q2:=jAJ (xs:=ns.map V.int) (j:=k.toNat) (v:=V.int ns[k.toNat]) (by simp[hk]);rw[e] at q2;exact q2
  .exact q 0
inductive yW(vs:List V)(H:Hp)(Q:VK)(_:XK):Prop|i(p:Addr)(N w:Int)(_:vs=[.ref p,.int w])(_:H p=some (.lst [.int N]))(_:0<=N)(_:0<w)(_:w<2^64)(_:∀N' r:Int,0<=N'->0<=r->r<w->Q (.int r) (upd H p (.lst [.int N'])))
def scTake:FnScope ["pot","wide","found"] ["pot","wide"] (j6 sTake):= {}
theorem jTY(F:Fun K "_law_take" "_law_take" sTake f fd):FnOk P w K mg Aq CX0 1 f fd ["pot","wide"] yW:=by
 refine F.ok scTake (λvs H Q E h=>?_) (λcdv A Ap s H vs Q E hr h=>?_)
 .obtain⟨a,ns,k,rfl,_⟩:=h;rfl
 .obtain⟨p,N,w,rfl,hp,h0,h1,h2,q⟩:=h;refine⟨_,y8 (qN (i:=2) scTake.nd rfl (Or.inl rfl) (kX jH7 (pe_ix jB5 (pv 0) jW (λ_ _=>rfl)) (pv 1)))
   (y8 (jW7 (kX jK2 (pe_ix jB5 (pv 0) jW (λ_ _=>rfl)) (pv 1)) (jWC (pv 0) jW jPR))
   (jAR (jD9 (pv 2)))),?_⟩
  refine⟨p,_,0,.int N,rfl,rfl,SqL.of hp,rfl,_,_,rfl,rfl,h1,?_⟩;refine⟨p,_,0,.int N,rfl,rfl,SqL.of hp,rfl,_,_,rfl,rfl,⟨h1,h2⟩,?_⟩;refine⟨p,_,0,0,rfl,rfl,hp,rfl,?_⟩;exact q _ _ (Int.ediv_nonneg h0 Aa) (Int.emod_nonneg _ Aa) (la _ h1)
inductive spPot(vs:List V)(H:Hp)(Q:VK)(_:XK):Prop|i(c:Int)(_:vs=[.int c])(_:∀(p:Addr) (N:Int),H p=none->0<=N->Q (.ref p) (upd H p (.lst [.int N])))
def scPot:FnScope ["cell","number","j","more"] ["cell"] (j6 sPot):= {}
theorem jWO(F:Fun K "_law_pot" "_law_pot" sPot f fd)(T:Txt mg):FnOk P w K mg Aq CX0 1 f fd ["cell"] spPot:=by
 refine F.ok scPot (λvs H Q E h=>?_) (λcdv A Ap s H vs Q E hr h=>?_)
 .obtain⟨c,rfl,_⟩:=h;rfl
 .obtain⟨c,rfl,q⟩:=h;have one: [V.int 0].length<=sizeLine:=by show 1<=sizeLine;decide
  refine⟨_,y8 (ps_if (jE1 op_ge (pv 0) (kX jN9 jW jW) (jQ _)) (jAR (jD9 (jJZ (kO (kX jBQ (pv 0) (kX jN9 jW jW)) yS)))) jFR)
   (y8 (qN (i:=1) scPot.nd rfl (Or.inl rfl) jW)
   (y8 (jS8 bJ rfl (jC8 rfl T.range (kO jW yS)) (jFS (i:=2) scPot.nd rfl (Or.inl rfl))
    (y8 (qN (i:=3) scPot.nd rfl (Or.inl rfl) (kX jH7 (kX jDB (kX yF (kX yF (kX jH7 (pv 0) jW) (kX jDB jW (pv 2))) jW) jW) jW))
    (y8 (qN (i:=3) scPot.nd rfl (Or.inl rfl) (kX jH7 (kX yF (kX yF (kX jDB (pv 3) (pv 3)) (kX jDB jW (pv 2))) jW) jW))
    (jAR (qN (i:=1) scPot.nd rfl (Or.inl rfl) (kX yF (kX jDB (pv 1) jW) (pv 3)))))))
   (jAR (jD9 (jJZ (kO (pv 1) yS)))))),?_⟩
  refine⟨_,_,rfl,rfl,⟨Ac,Ac,Ac⟩,_,_,rfl,rfl,_,rfl,?_⟩;refine ite2 (λhge=>?_) (λ_=>?_)
  .refine⟨_,_,rfl,rfl,⟨Ac,Ac,Ac⟩,_,_,rfl,rfl,one,λp hp=>q p _ hp ?_⟩;exact Int.sub_nonneg_of_le (aP hge)
  .refine⟨64,rfl,Ac,Ac,jA9 (n:=64) (λi σ H2=>∃(num:Int) (v1 v2:Option V),σ=[some (.int c),some (.int num),v1,v2]/\0<=num/\H2=H) ⟨0,none,none,rfl,cL _,rfl⟩ ?_ ?_⟩
   .rintro i σ H2 hi ⟨num,v1,v2,rfl,hn,rfl⟩;refine⟨_,_,rfl,rfl,(by show (0:Int)<2147483629;decide),_,_,rfl,rfl,.inl ⟨Ac,Ac⟩,_,_,rfl,rfl,_,_,rfl,rfl,_,_,rfl,rfl,.inr ⟨Ac,Ac⟩,_,_,rfl,rfl,(by show (0:Int)<2147483647;decide),?_⟩;refine⟨_,_,rfl,rfl,.inl ⟨?_,?_⟩,_,_,rfl,rfl,.inl ⟨Ac,Ac⟩,_,_,rfl,rfl,_,_,rfl,rfl,_,_,rfl,rfl,(by show (0:Int)<2147483587;decide),?_⟩
    .lia
    .lia
    .refine⟨_,_,rfl,rfl,.inr ⟨Ac,Ac⟩,_,_,rfl,rfl,?_⟩;refine⟨_,_,_,rfl,?_,rfl⟩;lia
   .rintro σ H2 ⟨num,v1,v2,rfl,hn,rfl⟩;exact⟨one,λp hp=>q p num hp hn⟩
def jCM{o o':HO}:upd (upd H a o) a o'=upd H a o':=by
 funext b;unfold upd;by_cases h:b=a
 .rw[ax h,ax h]
 .rw[aq h,aq h,aq h]
def yM{o:HO}(h:upd H a o b=none):b≠a/\H b=none:=by
 have h1:b≠a:=λe=>by rw[e,j7] at h;cases h
 exact⟨h1,by rw[j8 h1] at h;exact h⟩
def Keep.refl(H:Hp)(p:Addr):Keep H H p:=λ_ _ h _=>h
def Keep.trans{H2:Hp}(a:Keep H H1 p)(b:Keep H1 H2 p):Keep H H2 p:=λc o h n=>b c o (a c o h n) n
def Keep.upd(a:Keep H H1 p)(o:HO):Keep H (upd H1 p o) p:=λc u h n=>by rw[j8 n];exact a c u h n
def Keep.new{H H1:Hp}{p l:Addr}(a:Keep H H1 p)(hl:H1 l=none)(o:HO):Keep H (L2.upd H1 l o) p:=λc u h n=>by
 have:=a c u h n;rw[j8 (jA this hl)];exact this
theorem pw{w:Int}(h1:1<=w)(h2:w<=16):(2:Int)<=2^w.toNat/\(2:Int)^w.toNat<=65536:=by
 have e:∀n:Nat,n<17->1<=n->(2:Int)<=2^n/\(2:Int)^n<=65536:=Ab;exact e w.toNat Aa Aa
structure Lot (w:Int)(ts:Ag):Prop where
 ris:ts.Pairwise (· < ·)
 bnd:∀z∈ts,0<=z/\z<w
 ne:ts≠[]
def bits(n:Int)(k:Nat):Ag:=((List.range k).filter λt=>decide (Builtin.bitAnd (n/2^t) 1=1)).map λ(t:Nat)=>(t:Int)
theorem jHW(n:Int)(k:Nat):bits n (k+1)=bits n k++(if decide (Builtin.bitAnd (n/2^k) 1=1)=true then [(k:Int)] else []):=by
 unfold bits;rw[eh,bS,aU];congr 1;rw[dU];split<;>rfl
theorem jRO{n w:Int}(h1:1<=n)(hw:0<=w)(h2:n<2^w.toNat):Lot w (bits n w.toNat):=by
 refine⟨?_,λz hz=>?_,?_⟩
 .unfold bits;rw[bG];have:=(ga (n:=w.toNat)).filter (λt=>decide (Builtin.bitAnd (n/2^t) 1=1));exact this.imp λh=>by lia
 .unfold bits at hz;obtain⟨t,ht,rfl⟩:=bh.mp hz;have:=bR.mp (bv.mp ht).1;lia
 .obtain⟨m,rfl⟩:∃m:Nat,n=(m:Int):=⟨n.toNat,Aa⟩;have hm:m≠0:=Aa;have hlt:m<2^w.toNat:=by
   have:((m:Nat):Int)<((2^w.toNat:Nat):Int):=by rw[Int.natCast_pow];exact h2
   lia
  obtain⟨i,hi⟩:=Nat.exists_testBit_of_ne_zero hm;have hiw:i<w.toNat:=by
   rcases i8 i w.toNat with h|h
   .exact h
   .rw[fZ (aR hlt (cA Aa h))] at hi;cases hi
  have hb:Builtin.bitAnd ((m:Int)/2^i) 1=1:=by
   have e:((m:Int)/2^i)=((m/2^i:Nat):Int):=by rw[Int.natCast_ediv,Int.natCast_pow];rfl
   rw[e,PyProof.Rows.bitAnd_pp (fi _) Ac];have e2:(((m/2^i:Nat):Int).toNat&&&(1:Int).toNat)=1:=by
    rw[aX];show (m/2^i)&&&1=1;rw[lb];have:=hi;rw[gb] at this;exact aP this
   rw[e2];rfl
  intro z;have hmem:(i:Int)∈bits (m:Int) w.toNat:=by
   unfold bits;exact bh.mpr ⟨i,bv.mpr ⟨bR.mpr hiw,ay hb⟩,rfl⟩
  rw[z] at hmem;cases hmem
inductive xA(vs:List V)(H:Hp)(Q:VK)(_:XK):Prop|i(p:Addr)(N w:Int)(_:vs=[.ref p,.int w])(_:H p=some (.lst [.int N]))(_:0<=N)(_:1<=w)(_:w<=16)(_:∀(q:Addr) (N':Int) (ts:Ag) (H':Hp),0<=N'->Lot w ts->H' q=some (.tup (ts.map V.int))->H' p=some (.lst [.int N'])->Keep H H' p->Q (.ref q) H')
def scLot:FnScope ["pot","wide","way","number","start","step","size"] ["pot","wide"] (j6 sLot):= {}
theorem jWQ(F:Fun K "_law_lot" "_law_lot" sLot f fd)(T:Txt mg)(CT:Can P w K mg Aq "_law_take" 1 fT fdT ["pot","wide"] yW):FnOk P w K mg Aq CX0 2 f fd ["pot","wide"] xA:=by
 refine F.ok scLot (λvs H Q E h=>?_) (λcdv A Ap s H vs Q E hr h=>?_)
 .obtain⟨a,ns,k,rfl,_⟩:=h;rfl
 .obtain⟨p,N,w,rfl,hp,hN,h1,h2,q⟩:=h;have hpw:=pw h1 h2;have nd:=scLot.nd;refine⟨_,y8 (qN (i:=2) nd rfl (Or.inl rfl) (CT.pe hr rfl (kO (pv 0) (kO jW yS))))
   (y8 (ps_if (jE1 qJ (pv 2) jW (jQ _))
    (y8 (qN (i:=3) nd rfl (Or.inr rfl) (kX yF jW (CT.pe hr rfl (kO (pv 0) (kO (kX jBQ (kX jH5 jW (pv 1)) jW) yS)))))
    (jAR (jD9 (jC9 kL rfl T.tuple Ab (kO
     (jIM (m:=[none,some 3]) (Nc:=["t","number"]) rfl (jC8 rfl T.range (kO (pv 1) yS)) rfl Ab Ab (jR (psc:=j6 sLot))
      (jO (N:=["pot","wide","way","number","start","step","size"]) rfl rfl Ab)
      (λcl C fp s H=>jFS (i:=0) (show (["t","number"]:Am).Nodup by decide+kernel) rfl (Or.inl rfl))
      (λcl C fp s H=>jMZ (jE1 qJ (kX jK3 (kX jSB (pv 1) (pv 0)) jW) jW (jQ _)))
      (λcl C fp s H=>pv 0)) yS)))))
    jFR)
   (y8 (qN (i:=4) nd rfl (Or.inr rfl) (CT.pe hr rfl (kO (pv 0) (kO (pv 1) yS))))
   (y8 (qN (i:=5) nd rfl (Or.inr rfl) (kX yF jW (CT.pe hr rfl (kO (pv 0) (kO jW yS)))))
   (y8 (qN (i:=6) nd rfl (Or.inl rfl) (kX yF jW (CT.pe hr rfl (kO (pv 0) (kO (pe_ix jB5 (jJZ (kO jW (kO jW (kO jW yS)))) (kX jBQ (pv 2) jW) (λ_ _=>rfl)) yS)))))
   (jAR (jD9 (jC9 kL rfl T.tuple Ab (kO (jFT (jET rfl) rfl T.sorted Ab (kO (jC9 (jP7 rfl) rfl T.set Ab (kO
     (jIM (m:=[none,some 4,some 5,some 1]) (Nc:=["j","start","step","wide"]) rfl (jC8 rfl T.range (kO (pv 6) yS)) rfl Ab Ab (jR (psc:=j6 sLot))
      (jO (N:=["pot","wide","way","number","start","step","size"]) rfl rfl Ab)
      (λcl C fp s H=>jFS (i:=0) (show (["j","start","step","wide"]:Am).Nodup by decide+kernel) rfl (Or.inl rfl))
      (λcl C fp s H=>jN0)
      (λcl C fp s H=>kX jH7 (kX yF (pv 1) (kX jDB (pv 2) (pv 0))) (pv 3))) yS)) yS)) yS)))))))),?_⟩
  refine⟨p,N,4,rfl,hp,hN,Ac,Ac,λN1 way b1 b2 b3=>?_⟩;have hp1:∀M,(upd H p (.lst [.int M])) p=some (.lst [.int M]):=λ_=>j7;refine⟨rfl,_,rfl,?_⟩;refine ite2 (λ_=>?_) (λhw0=>?_)
  .refine⟨_,_,rfl,rfl,⟨Aa,Aa,Ac⟩,_,_,rfl,rfl,p,N1,_,rfl,hp1 _,b1,Aa,Aa,λN2 r2 c1 c2 c3=>⟨_,_,rfl,rfl,?_⟩⟩;have hnum:1+r2<2^w.toNat:=Aa;refine⟨w,rfl,Aa,Aa,jBK (n:=w.toNat) (by rw[aN];lia) (λD i σ' H' ys=>(∃v,σ'=[v,some (.int (1+r2))])/\ys=(bits (1+r2) i).map V.int/\H'=upd (upd (upd H p (.lst [.int N1])) p (.lst [.int N2])) D (.lst ys)) ?_ ?_ ?_ ?_⟩
   .intro D hD;exact⟨⟨_,rfl⟩,rfl,rfl⟩
   .rintro D i σ' H' ys hD hi ⟨_,e1,e2⟩;refine⟨by rw[e2];exact j7,?_⟩;rw[e1,af];unfold bits;rw[af];exact bA (bB _ _) (by rw[b8];exact ar _)
   .rintro D i σ' H' ys hD hi ⟨⟨v,rfl⟩,rfl,rfl⟩;refine⟨_,_,rfl,rfl,(by show (0:Int)<=0+(i:Int);lia),_,_,rfl,rfl,rfl,_,rfl,?_⟩;have ei:(0+(i:Int)).toNat=i:=Aa;refine ite2 (λhb=>?_) (λhb=>?_)
    .have hb:Builtin.bitAnd ((1+r2)/2^i) 1=1:=by
      have:=aP hb;rw[ei] at this;exact V.int.inj this
     refine⟨j7,⟨_,rfl⟩,?_,jCM⟩;rw[jHW,ax (ay hb),aU];congr 1;show [V.int (0+(i:Int))]=[V.int (i:Int)];rw[Int.zero_add]
    .have hb:¬Builtin.bitAnd ((1+r2)/2^i) 1=1:=λe=>hb (ay (by rw[ei];exact bW V.int e));refine⟨⟨_,rfl⟩,?_,rfl⟩;rw[jHW,aq (by simpa using hb),bg]
   .rintro D σ' H' ys hD ⟨_,rfl,rfl⟩;refine⟨D,_,rfl,.inl ⟨SqL.of j7,λqq hqq=>?_⟩⟩;obtain⟨n1,n2⟩:=yM hqq;have pD:p≠D:=jA j7 hD;have pq:p≠qq:=jA j7 n2;exact q qq N2 (bits (1+r2) w.toNat) _ c1 (jRO Aa Aa hnum) j7 (by rw[j8 pq,j8 pD,j7]) (((((Keep.refl H p).upd _).upd _).new hD _).new hqq _)
  .have hway:1<=way:=by
    have:¬way=0:=λe=>hw0 (ay (by rw[e]));lia
   refine⟨p,N1,w,rfl,hp1 _,b1,Aa,Aa,λN2 yH c1 c2 c3=>?_⟩;rw[jCM];refine⟨p,N2,3,rfl,hp1 _,c1,Ac,Ac,λN3 st d1 d2 d3=>⟨_,_,rfl,rfl,?_⟩⟩;rw[jCM];refine⟨(by show 3<=sizeLine;decide),λl hl=>?_⟩;have pl:p≠l:=jA (hp1 _) hl;obtain⟨wd,hwd,e1,e2⟩:∃wd:Int,atI [V.int 1,V.int 2,V.int 4] (way-1)=some (.int wd)/\1<=wd/\wd<=4:=by
    rcases (show way=1\/way=2\/way=3 by lia) with e|e|e
    .subst e;exact⟨1,rfl,Ac,Ac⟩
    .subst e;exact⟨2,rfl,Ac,Ac⟩
    .subst e;exact⟨4,rfl,Ac,Ac⟩
   refine⟨_,_,rfl,rfl,l,_,_,_,rfl,rfl,SqL.of j7,hwd,p,N3,wd,rfl,by rw[j8 pl];exact hp1 _,d1,Aa,Aa,λN4 r4 g1 g2 g3=>⟨_,_,rfl,rfl,?_⟩⟩;have kp:Keep H (upd (upd (upd H p (.lst [.int N3])) l (.lst [V.int 1,V.int 2,V.int 4])) p (.lst [.int N4])) p:=(((Keep.refl H p).upd _).new hl _).upd _;have hp4:(upd (upd (upd H p (.lst [.int N3])) l (.lst [V.int 1,V.int 2,V.int 4])) p (.lst [.int N4])) p=some (.lst [.int N4]):=j7;generalize (upd (upd (upd H p (.lst [.int N3])) l (.lst [V.int 1,V.int 2,V.int 4])) p (.lst [.int N4]))=H4 at kp hp4 ⊢;refine⟨1+r4,rfl,Aa,Aa,jBK (n:=(1+r4).toNat) (by rw[aN];lia) (λD i σ' H' ys=>(∃v,σ'=[v,some (.int yH),some (.int (1+st)),some (.int w)])/\(∃ns:Ag,ys=ns.map V.int/\ns.length=i/\∀z∈ns,0<=z/\z<w)/\H'=upd H4 D (.lst ys)) ?_ ?_ ?_ ?_⟩
   .intro D hD;exact⟨⟨_,rfl⟩,⟨[],rfl,rfl,λz hz=>by cases hz⟩,rfl⟩
   .rintro D i σ' H' ys hD hi ⟨_,⟨ns,rfl,e,_⟩,rfl⟩;exact⟨j7,by rw[af,e];exact ar _⟩
   .rintro D i σ' H' ys hD hi ⟨⟨v,rfl⟩,⟨ns,rfl,e,hb⟩,rfl⟩;dsimp only[kT,qC];rw[ax rfl];refine⟨_,_,rfl,rfl,.inl ⟨Aa,Aa⟩,_,_,rfl,rfl,_,_,rfl,rfl,(by show 0<w;lia),j7,⟨_,rfl⟩,⟨ns++[(yH+(1+st)*(0+(i:Int)))%w],Ad,by simp[e],λz hz=>?_⟩,jCM⟩;rcases aM.mp hz with hz|hz
    .exact hb z hz
    .have:z=(yH+(1+st)*(0+(i:Int)))%w:=by simpa using hz
     rw[this];exact⟨Int.emod_nonneg _ Aa,la _ Aa⟩
   .rintro D σ' H' ys hD ⟨_,⟨ns,rfl,e,hb⟩,rfl⟩;refine⟨D,ns,rfl,SqL.of j7,Aa,λz hz=>⟨(hb z hz).1,by have:=(hb z hz).2;lia⟩,λl1 ks h11 hm1=>?_⟩;refine⟨l1,ks,rfl,j7,λl2 ms h12 srt hm2=>?_⟩;refine⟨l2,_,rfl,.inl ⟨SqL.of j7,λqq hqq=>?_⟩⟩;have pD:p≠D:=jA hp4 hD;have p1:p≠l1:=jA hp4 (yM h11).2;have p2:p≠l2:=jA hp4 (yM (yM h12).2).2;have pq:p≠qq:=jA hp4 (yM (yM (yM hqq).2).2).2;refine q qq N4 ms _ g1 ⟨srt,λz hz=>hb z ((hm1 z).mp ((hm2 z).mp hz)),λz=>?_⟩ j7 (by rw[j8 pq,j8 p2,j8 p1,j8 pD];exact hp4) ((((kp.new hD _).new h11 _).new h12 _).new hqq _);subst z;cases ns with
    |nil=>simp at e;lia
    |cons x r=>
     have:=(hm2 x).mpr ((hm1 x).mpr ai);cases this
structure Ris (w:Int)(ts:Ag):Prop where
 ris:ts.Pairwise (· < ·)
 bnd:∀z∈ts,0<=z/\z<w
def Ris.nil(w:Int):Ris w []:=⟨.nil,λz hz=>by cases hz⟩
def Ris.take{w:Int}(h:Ris w ts)(k:Nat):Ris w (ts.take k):=⟨h.ris.sublist (dI _ _),λz hz=>h.bnd z (bP hz)⟩
def Ris.drop{w:Int}(h:Ris w ts)(k:Nat):Ris w (ts.drop k):=⟨h.ris.sublist (iE _ _),λz hz=>h.bnd z (cJ hz)⟩
theorem Ris.snoc{i:Nat}{ts:Ag}(h:Ris i ts):Ris (i+1:Nat) (ts++[(i:Int)]):=by
 refine⟨cy.mpr ⟨h.ris,dh _ _,λa ha b hb=>?_⟩,λz hz=>?_⟩
 .have:=(h.bnd a ha).2;have e:b=i:=by simpa using hb
  lia
 .rcases aM.mp hz with q|q
  .have:=h.bnd z q;lia
  .have e:z=i:=by simpa using q
   lia
theorem Ris.step{i:Nat}{ts:Ag}(h:Ris i ts):Ris (i+1:Nat) ts:=⟨h.ris,λz hz=>by have:=h.bnd z hz;lia⟩
def upto(n:Nat):Ag:=(List.range n).map λ(i:Nat)=>(i:Int)
def jEH(n:Nat):qL n=(upto n).map V.int:=by
 unfold qL upto;rw[bN];rfl
theorem yL(n:Nat):Ris n (upto n):=by
 refine⟨?_,λz hz=>?_⟩
 .unfold upto;rw[bG];exact ga.imp λh=>by lia
 .unfold upto at hz;obtain⟨t,ht,rfl⟩:=bh.mp hz;have:=bR.mp ht;lia
def Tups(H H':Hp):Prop:=∀b xs,H b=some (.tup xs)->H' b=some (.tup xs)
def Tups.trans{H2:Hp}(a:Tups H H1)(b:Tups H1 H2):Tups H H2:=λc o h=>b c o (a c o h)
def Keep.tups(k:Keep H H' p)(hp:H p=some (.lst xs)):Tups H H':=λb ys hb=>k b _ hb λe=>by
 subst e;rw[hb] at hp;cases hp
def Tups.upd(hp:H p=some (.lst xs))(o:HO):Tups H (upd H p o):=λb ys hb=>by
 rw[j8 (λe=>by subst e;rw[hb] at hp;cases hp)];exact hb
def Tups.new{H:Hp}{p:Addr}(hp:H p=none)(o:HO):Tups H (L2.upd H p o):=λb ys hb=>by
 rw[j8 (jA hb hp)];exact hb
def PcAt(H:Hp)(v:V)(pc:List Int×Int):Prop:=∃a q,v=.ref a/\H a=some (.tup [.ref q,.int pc.2])/\H q=some (.tup (pc.1.map V.int))
def PcsAt(H:Hp):List V->Ae->Prop
 |[],[]=>True
 |v::vs,p::ps=>PcAt H v p/\PcsAt H vs ps
 |_,_=>False
def PcAt.mono{pc:List Int×Int}(h:PcAt H v pc)(t:Tups H H'):PcAt H' v pc:=by
 obtain⟨a,q,rfl,h1,h2⟩:=h;exact⟨a,q,rfl,t _ _ h1,t _ _ h2⟩
def PcsAt.mono(t:Tups H H'):∀{vs:List V}{ps:Ae},PcsAt H vs ps->PcsAt H' vs ps
 |[],[],_=>trivial
 |_::_,_::_,h=>⟨h.1.mono t,PcsAt.mono t h.2⟩
 |[],_::_,h=>h.elim
 |_::_,[],h=>h.elim
def PcsAt.len:∀{vs:List V}{ps:Ae},PcsAt H vs ps->vs.length=ps.length
 |[],[],_=>rfl
 |_::_,_::_,h=>bW (· +1) (PcsAt.len h.2)
 |[],_::_,h=>h.elim
 |_::_,[],h=>h.elim
def PcsAt.put{p:List Int×Int}(hv:PcAt H v p):∀(k:Nat) {vs:List V}{ps:Ae},PcsAt H vs ps->PcsAt H (vs.take k++v::vs.drop k) (ps.take k++p::ps.drop k)
 | 0,_,_,h=>⟨hv,h⟩
 |_+1,[],[],_=>⟨hv,trivial⟩
 |k+1,_::_,_::_,h=>⟨h.1,PcsAt.put hv k h.2⟩
 |_+1,[],_::_,h=>h.elim
 |_+1,_::_,[],h=>h.elim
structure GoodPc (w:Int)(pc:List Int×Int):Prop where
 lot:Lot w pc.1
 lo: -1000000000000<=pc.2
 hi:pc.2<=1000000000000
structure BoxAt (H:Hp)(b:Addr)(w:Int)(mays:Ag)(ly:Ae):Prop where
 ex:∃qm qp vs,H b=some (.tup [.int w,.ref qm,.ref qp])/\H qm=some (.tup (mays.map V.int))/\H qp=some (.tup vs)/\PcsAt H vs ly
def BoxAt.mono{w:Int}(h:BoxAt H b w mays ly)(t:Tups H H'):BoxAt H' b w mays ly:=by
 obtain⟨qm,qp,vs,h1,h2,h3,h4⟩:=h.ex;exact⟨qm,qp,vs,t _ _ h1,t _ _ h2,t _ _ h3,h4.mono t⟩
structure Good (mt mp:Int)(w:Int)(mays:Ag)(ly:Ae):Prop where
 w0:0<=w
 w1:w<=mt
 mr:Ris w mays
 pl:(ly.length:Int)<=mp
 pg:∀pc∈ly,GoodPc w pc
def Keep.updNew(a:Keep H H1 p)(hl:H l=none)(o:HO):Keep H (L2.upd H1 l o) p:=λc u h n=>by
 rw[j8 (jA h hl)];exact a c u h n
inductive spBox(vs:List V)(H:Hp)(Q:VK)(_:XK):Prop|i(p:Addr)(N mt mp:Int)(_:vs=[.ref p,.int mt,.int mp])(_:H p=some (.lst [.int N]))(_:0<=N)(_:0<=mt)(_:mt<=16)(_:0<=mp)(_:mp<=32)(_:∀(b:Addr) (N' w:Int) (mays:Ag) (ly:Ae) (H':Hp),0<=N'->H' p=some (.lst [.int N'])->BoxAt H' b w mays ly->Good mt mp w mays ly->Keep H H' p->Q (.ref b) H')
noncomputable abbrev nBox:Am:=["pot","most_things","most_pieces","wide","mays","left","far","pieces","k","size","things"]
def scBox:FnScope nBox ["pot","most_things","most_pieces"] (j6 sBox):= {}
abbrev XBox(P:Program)(w:World)(K:W.Frag)(mg:Ak)(Aq:Heap)(f:Addr)(cdv:Value)(A:Around)(Ap:List Env)(s:Shared)(H:Hp)(E:XK):Cx:=(cxOf CX0 P w K mg Aq nBox "_law_box" (j6 sBox) f cdv A Ap s H E).nox
def yU:Stmt->List Stmt
 | .For _ _ b _ _=>b
 |_=>[]
def boxI(T:Txt mg)(CT:Can P w K mg Aq "_law_take" 1 fT fdT ["pot","wide"] yW)(CL:Can P w K mg Aq "_law_lot" 2 fL fdL ["pot","wide"] xA)(hr:Room 2 (XBox P w K mg Aq f cdv A Ap s H E).A): {t:TS // JSs (XBox P w K mg Aq f cdv A Ap s H E) ((yU ((jB sBox).getD 7 (.Pass ⟨0,0,0,0⟩))).drop 4) t}:=
 have nd:=scBox.nd
 ⟨_,(jC (kP (je_bm cw PySem.F.slot_list_insert PySem.F.type_list_insert jNV (jv 7 rfl vL) (j3 (CT.je (hr.mono Ac) gD (j3 (jv 0 rfl vC) (j3 (kR yF (jF jH gD T.len Ab (j3 (jv 7 rfl vL) j5 j4) j4) (je_int)) j5 y0) j4) j4) (j3 (jKL (j3 (jv 10 rfl vL) (j3 (kR jBQ (CT.je (hr.mono Ac) gD (j3 (jv 0 rfl vC) (j3 (jv 6 rfl vL) j5 j4) j4) j4) (kR jK2 (jv 6 rfl vL) (je_int))) j5 y0) j4)) j5 yB) jE) jE) jL))⟩
def boxL(T:Txt mg)(CT:Can P w K mg Aq "_law_take" 1 fT fdT ["pot","wide"] yW)(CL:Can P w K mg Aq "_law_lot" 2 fL fdL ["pot","wide"] xA)(hr:Room 2 (XBox P w K mg Aq f cdv A Ap s H E).A): {t:TS // JSs (XBox P w K mg Aq f cdv A Ap s H E) (yU ((jB sBox).getD 7 (.Pass ⟨0,0,0,0⟩))) t}:=
 have nd:=scBox.nd
 ⟨_,(j9 (jX (i:=9) nd rfl lL (kR yF (je_int) (CT.je (hr.mono Ac) gD (j3 (jv 0 rfl vC) (j3 (je_int) j5 kI) j4) j4)) jMH)
   (j9 (jX (i:=10) nd rfl lL (kN kL gD T.tuple Ab (j3 (jDP jMT (jv 5 rfl vL) jG5 (jG4 (jv 9 rfl vL))) j5 jJ) jJ) jL)
   (j9 (jX (i:=5) nd rfl lL (jDP jMT (jv 5 rfl vL) (jG4 (jv 9 rfl vL)) jG5) jEW)
   (j9 (kY (jY (jWN hr.units0) (jv 10 rfl vL) (jKL j5) (jQ _)) (jC (jX (i:=10) nd rfl lL (CL.je hr gD (j3 (jv 0 rfl vC) (j3 (jv 3 rfl vL) j5 j4) j4) j4) jL)) jS)
   (boxI T CT CL hr).2))))⟩
def boxC(T:Txt mg)(CT:Can P w K mg Aq "_law_take" 1 fT fdT ["pot","wide"] yW)(CL:Can P w K mg Aq "_law_lot" 2 fL fdL ["pot","wide"] xA)(hr:Room 2 (XBox P w K mg Aq f cdv A Ap s H E).A): {t:TS // JSs (XBox P w K mg Aq f cdv A Ap s H E) ((jB sBox).drop 5) t}:=
 have nd:=scBox.nd
 ⟨_,(j9 (jX (i:=6) nd rfl lL (jI jB5 (jOE (j3 (je_int) (j3 (je_int) (j3 (jXI) j5 y0) kI) kI)) (CT.je (hr.mono Ac) gD (j3 (jv 0 rfl vC) (j3 (je_int) j5 kI) j4) j4) jT5) jEW)
   (j9 (jX (i:=7) nd rfl lL (jOE j5) jEX)
   (j9 (qH bJ rfl (yC gD T.range (j3 (kR jDB (CT.je (hr.mono Ac) gD (j3 (jv 0 rfl vC) (j3 (kR yF (jv 2 rfl vL) (je_int)) j5 y0) j4) j4) (kN jPA gD T.int Ab (j3 (y9 op_gt (jv 3 rfl vL) (je_int) (jQ _)) j5 jF3) jF3)) j5 y0) y0) (jT (i:=8) nd rfl lL) (boxL T CT CL hr).2 kW)
   (jC (jM (jKL (j3 (jv 3 rfl vL) (j3 (jv 4 rfl vL) (j3 (kN kL gD T.tuple Ab (j3 (jv 7 rfl vL) j5 j4) j4) j5 jE) j4) j4)))))))⟩
def boxB(T:Txt mg)(CT:Can P w K mg Aq "_law_take" 1 fT fdT ["pot","wide"] yW)(CL:Can P w K mg Aq "_law_lot" 2 fL fdL ["pot","wide"] xA)(hr:Room 2 (XBox P w K mg Aq f cdv A Ap s H E).A): {t:TS // JSs (XBox P w K mg Aq f cdv A Ap s H E) ((jB sBox).drop 3) t}:=
 have nd:=scBox.nd
 ⟨_,(j9 (jX (i:=5) nd rfl lL (kN (jB7 rfl) gD T.list Ab (j3 (kN jC2 gD T.range Ab (j3 (jv 3 rfl vL) j5 j4) j4) j5 jE) jE) jL)
   (j9 (kY (jY qJ (CT.je (hr.mono Ac) gD (j3 (jv 0 rfl vC) (j3 (je_int) j5 kI) j4) j4) (je_int) (jQ _)) (jC (jX (i:=5) nd rfl lL (jOE j5) jEX)) jS)
   (boxC T CT CL hr).2))⟩
def boxA(T:Txt mg)(CT:Can P w K mg Aq "_law_take" 1 fT fdT ["pot","wide"] yW)(CL:Can P w K mg Aq "_law_lot" 2 fL fdL ["pot","wide"] xA)(hr:Room 2 (XBox P w K mg Aq f cdv A Ap s H E).A): {t:TS // JSs (XBox P w K mg Aq f cdv A Ap s H E) (jB sBox) t}:=
 have nd:=scBox.nd
 ⟨_,(j9 (jX (i:=3) nd rfl lL (CT.je (hr.mono Ac) gD (j3 (jv 0 rfl vC) (j3 (kR yF (jv 1 rfl vL) (je_int)) j5 y0) j4) j4) jL)
   (j9 (jX (i:=4) nd rfl lL (jKL j5) jME)
   (j9 (kY (jY qJ (CT.je (hr.mono Ac) gD (j3 (jv 0 rfl vC) (j3 (je_int) j5 kI) j4) j4) (je_int) (jQ _)) (jC (jX (i:=4) nd rfl lL (kN kL gD T.tuple Ab (j3 (kU (m:=[none,some 0]) (Nc:=["t","pot"]) rfl (yC gD T.range (j3 (jv 3 rfl vL) j5 j4) j4) rfl Ab Ab (jR (psc:=j6 sBox)) (jO (N:=nBox) rfl rfl Ab) (λcl C fp s H=>jT (i:=0) (show (["t","pot"]:Am).Nodup by decide+kernel) rfl yZ) (λcl C fp s H=>jB3 (jY qJ (CT.je (hr.mono Ac) gl_b (j3 (jv 1 rfl yA) (j3 (je_int) j5 kI) j4) j4) (je_int) (jQ _))) (λcl C fp s H=>(jv 0 rfl jZ)) kW) j5 jP) jP) jL)) jS)
   (boxB T CT CL hr).2)))⟩
structure St0 (H H2:Hp)(p:Addr)(w:Int)(qm ql:Addr)(mays lf:Ag)(N:Int):Prop where
 hp:H2 p=some (.lst [.int N])
 hN:0<=N
 hm:H2 qm=some (.tup (mays.map V.int))
 rm:Ris w mays
 hl:H2 ql=some (.lst (lf.map V.int))
 rl:Ris w lf
 ne:ql≠p
 kp:Keep H H2 p
def St0.step{H H2 H3:Hp}{p:Addr}{w:Int}{qm ql:Addr}{mays lf:Ag}{N N':Int}(S:St0 H H2 p w qm ql mays lf N)(k:Keep H2 H3 p)(hp:H3 p=some (.lst [.int N']))(hN:0<=N'):St0 H H3 p w qm ql mays lf N':=
 ⟨hp,hN,k qm _ S.hm (ne_of S.hm S.hp (by intro z;cases z)),S.rm,k ql _ S.hl S.ne,S.rl,S.ne,S.kp.trans k⟩
def jP1{w:Int}(h:Ris w lf)(lo hi:Option Int):∃l',cutV (lf.map V.int) lo hi=l'.map V.int/\Ris w l':=by
 refine⟨(lf.drop (HT.sIx lf.length 0 lo)).take (HT.sIx lf.length lf.length hi-HT.sIx lf.length 0 lo),?_,(h.drop _).take _⟩;unfold cutV;rw[af,ki,List.map_drop]
theorem jHT(T:Txt mg)(CT:Can P w K mg Aq "_law_take" 1 fT fdT ["pot","wide"] yW)(CL:Can P w K mg Aq "_law_lot" 2 fL fdL ["pot","wide"] xA)(hr:Room 2 (XBox P w K mg Aq f cdv A Ap s H0 E).A)
  {qt:Addr}{w far:Int}
  (S:St0 H H5 p w qm ql mays lf N) (hqp:H5 qp=some (.lst vs)) (hv:PcsAt H5 vs ly) (hg:∀pc∈ly,GoodPc w pc) (hqt:H5 qt=some (.tup (ts.map V.int))) (lt:Lot w ts) (hf:far=1\/far=10\/far=2000000000001) (hn:ly.length<=100) (hH:H qp=none) (hne:ql≠qp) (hpp:p≠qp)
  (nx:∀H6 N' vs' ly',St0 H H6 p w qm ql mays lf N'->H6 qp=some (.lst vs')->PcsAt H6 vs' ly'->(∀pc∈ly',GoodPc w pc)->ly'.length=ly.length+1->D.nx [some (.ref p),some (.int mt),some (.int mp),some (.int w),some (.ref qm),some (.ref ql),some (.int far),some (.ref qp),v8,v9,some (.ref qt)] H6):
  (boxI T CT CL hr).1 D [some (.ref p),some (.int mt),some (.int mp),some (.int w),some (.ref qm),some (.ref ql),some (.int far),some (.ref qp),v8,v9,some (.ref qt)] H5:=by
 have hlen:=hv.len;have h64:(0:Int)<far/\far<2^64:=by rcases hf with e|e|e<;>subst e<;>decide
 refine⟨.inl ⟨rfl,_,SqL.of hqp⟩,qp,vs,rfl,.inl (SqL.of hqp),_,_,rfl,rfl,p,N,_,rfl,S.hp,S.hN,Aa,Aa,λN1 i a1 a2 a3=>?_⟩;refine⟨p,N1,far,rfl,j7,a1,h64.1,h64.2,λN2 r b1 b2 b3=>?_⟩;rw[jCM];refine⟨_,_,rfl,rfl,⟨Ac,Ac⟩,_,_,rfl,rfl,(by show 2<=sizeLine;decide),λtq htq=>?_⟩;obtain⟨t1,t2⟩:=yM htq;have ht:tq≠qp:=λe=>by subst e;rw[hqp] at t2;cases t2
 refine⟨qp,vs,i,_,rfl,rfl,by rw[j8 ht.symm,j8 hpp.symm];exact hqp,a2,Aa,by rw[aN];lia,?_⟩;have T1:Tups H5 (upd (upd H5 p (.lst [.int N2])) tq (.tup [.ref qt,.int (r-far/2)])):=(Tups.upd S.hp _).trans (Tups.new htq _);have k1:Keep H5 (upd (upd H5 p (.lst [.int N2])) tq (.tup [.ref qt,.int (r-far/2)])) p:=((Keep.refl _ _).upd _).new htq _;have S1:=S.step k1 (by rw[j8 t1.symm];exact j7) b1;have hq1:(upd (upd H5 p (.lst [.int N2])) tq (.tup [.ref qt,.int (r-far/2)])) qp=some (.lst vs):=by rw[j8 ht.symm,j8 hpp.symm];exact hqp
 have T2:=T1.trans (Tups.upd hq1 (.lst (vs.take i.toNat++V.ref tq::vs.drop i.toNat)));have pc:PcAt (upd (upd H5 p (.lst [.int N2])) tq (.tup [.ref qt,.int (r-far/2)])) (.ref tq) (ts,r-far/2):=⟨tq,qt,rfl,j7,T1 _ _ hqt⟩;refine nx _ N2 _ (ly.take i.toNat++(ts,r-far/2)::ly.drop i.toNat) ⟨?_,b1,?_,S.rm,?_,S.rl,S.ne,S1.kp.updNew hH _⟩ j7 ?_ ?_ ?_
 .rw[j8 hpp];exact S1.hp
 .exact(Tups.upd hq1 _) _ _ S1.hm
 .rw[j8 hne];exact S1.hl
 .exact PcsAt.put (pc.mono (Tups.upd hq1 _)) _ (hv.mono T2)
 .intro c hc;rcases aM.mp hc with h|h
  .exact hg c (bP h)
  .rcases aA.mp h with h|h
   .subst h;refine⟨lt,?_,?_⟩
    .show -1000000000000<=r-far/2;rcases hf with e|e|e<;>subst e<;>lia
    .show r-far/2<=1000000000000;rcases hf with e|e|e<;>subst e<;>lia
   .exact hg c (cJ h)
 .rw[ak,aV,bi,dy];lia
theorem jPB(T:Txt mg)(CT:Can P w K mg Aq "_law_take" 1 fT fdT ["pot","wide"] yW)(CL:Can P w K mg Aq "_law_lot" 2 fL fdL ["pot","wide"] xA)(hr:Room 2 (XBox P w K mg Aq f cdv A Ap s H0 E).A)
  {w far:Int}
  (S:St0 H H5 p w qm ql mays lf N) (hqp:H5 qp=some (.lst vs)) (hv:PcsAt H5 vs ly) (hg:∀pc∈ly,GoodPc w pc) (hf:far=1\/far=10\/far=2000000000001) (hn:ly.length<=100) (hH:H qp=none) (hpp:p≠qp) (w1:1<=w) (w2:w<=16)
  (nx:∀H6 N' vs' ly' ql' lf' v9' v10',St0 H H6 p w qm ql' mays lf' N'->ql'≠qp->H6 qp=some (.lst vs')->PcsAt H6 vs' ly'->(∀pc∈ly',GoodPc w pc)->ly'.length=ly.length+1->D.nx [some (.ref p),some (.int mt),some (.int mp),some (.int w),some (.ref qm),some (.ref ql'),some (.int far),some (.ref qp),v8,v9',v10'] H6):
  (boxL T CT CL hr).1 D [some (.ref p),some (.int mt),some (.int mp),some (.int w),some (.ref qm),some (.ref ql),some (.int far),some (.ref qp),v8,v9,v10] H5:=by
 refine⟨p,N,3,rfl,S.hp,S.hN,Ac,Ac,λN1 r1 a1 a2 a3=>⟨_,_,rfl,rfl,?_⟩⟩;have S1:=S.step ((Keep.refl _ _).upd (.lst [.int N1])) j7 a1;have hq1:(upd H5 p (.lst [.int N1])) qp=some (.lst vs):=by rw[j8 hpp.symm];exact hqp
 have hv1:=hv.mono (Tups.upd S.hp (.lst [.int N1]));generalize upd H5 p (.lst [.int N1])=H6 at S1 hq1 hv1 ⊢;clear S hqp hv;obtain⟨l1,e1,g1⟩:=jP1 S1.rl none (some (1+r1));obtain⟨l2,e2,g2⟩:=jP1 S1.rl (some (1+r1)) none;refine⟨1+r1,rfl,ql,_,rfl,SqL.of S1.hl,λx hx=>⟨x,_,rfl,.inl ⟨SqL.of j7,λqt hqt=>?_⟩⟩⟩;rw[e1] at hqt ⊢;have k1:Keep H6 (upd (upd H6 x (.lst (l1.map V.int))) qt (.tup (l1.map V.int))) p:=((Keep.refl _ _).new hx _).new hqt _;obtain⟨t1,t2⟩:=yM hqt;have px:p≠x:=jA S1.hp hx;have pt:p≠qt:=jA S1.hp t2;have qx:qp≠x:=jA hq1 hx;have qq:qp≠qt:=jA hq1 t2;have S2:=S1.step k1 (by rw[j8 pt,j8 px];exact S1.hp) S1.hN;have hq2:(upd (upd H6 x (.lst (l1.map V.int))) qt (.tup (l1.map V.int))) qp=some (.lst vs):=by rw[j8 qq,j8 qx];exact hq1
 have hv2:=hv1.mono (k1.tups S1.hp);have ht2:(upd (upd H6 x (.lst (l1.map V.int))) qt (.tup (l1.map V.int))) qt=some (.tup (l1.map V.int)):=j7;generalize upd (upd H6 x (.lst (l1.map V.int))) qt (.tup (l1.map V.int))=H7 at S2 hq2 hv2 ht2 ⊢;clear k1 hqt t2 hx S1 hq1 hv1;refine⟨1+r1,rfl,ql,_,rfl,SqL.of S2.hl,λql' hql=>?_⟩;rw[e2];have pl:p≠ql':=jA S2.hp hql;have k2:Keep H7 (upd H7 ql' (.lst (l2.map V.int))) p:=(Keep.refl _ _).new hql _;have S3':=S2.step k2 (by rw[j8 pl];exact S2.hp) S2.hN;have S3:St0 H (upd H7 ql' (.lst (l2.map V.int))) p w qm ql' mays l2 N1:=⟨S3'.hp,S3'.hN,S3'.hm,S3'.rm,j7,g2,pl.symm,S3'.kp⟩;have hne:qp≠ql':=jA hq2 hql;have hq3:(upd H7 ql' (.lst (l2.map V.int))) qp=some (.lst vs):=by rw[j8 hne];exact hq2
 have hv3:=hv2.mono (k2.tups S2.hp);have ht3:=k2.tups S2.hp _ _ ht2;generalize upd H7 ql' (.lst (l2.map V.int))=H8 at S3 hq3 hv3 ht3 ⊢;clear k2 S3' S2 hq2 hv2 ht2 hql;refine⟨(by show 0<=sizeLine;exact ba _),λz hz=>⟨qt,z,l1.map V.int,rfl,rfl,SqT.of ?_,SqT.of j7,_,rfl,?_⟩⟩
 .rw[j8 (jA ht3 hz)];exact ht3
 have pz:p≠z:=jA S3.hp hz;have qz:qp≠z:=jA hq3 hz;have k3:Keep H8 (upd H8 z (.tup [])) p:=(Keep.refl _ _).new hz _;have S4:=S3.step k3 (by rw[j8 pz];exact S3.hp) S3.hN;have hq4:(upd H8 z (.tup [])) qp=some (.lst vs):=by rw[j8 qz];exact hq3
 have hv4:=hv3.mono (k3.tups S3.hp);have ht4:=k3.tups S3.hp _ _ ht3;generalize upd H8 z (.tup [])=H9 at S4 hq4 hv4 ht4 ⊢;clear k3 S3 hq3 hv3 ht3 hz pz qz;refine ite2 (λhy=>?_) (λhy=>?_)
 .refine⟨p,N1,w,rfl,S4.hp,S4.hN,w1,w2,λq N2 ts H' b1 lt b2 b3 b4=>?_⟩;exact jHT T CT CL hr (S4.step b4 b3 b1) (b4 _ _ hq4 hpp.symm) (hv4.mono (b4.tups S4.hp)) hg b2 lt hf hn hH hne.symm hpp λH6 N' vs' ly' z1 z2 z3 z4 z5=>nx H6 N' vs' ly' ql' l2 _ _ z1 hne.symm z2 z3 z4 z5
 .have nl:l1≠[]:=λe=>hy (ay (by rw[e];rfl));exact jHT T CT CL hr S4 hq4 hv4 hg ht4 ⟨g1.ris,g1.bnd,nl⟩ hf hn hH hne.symm hpp λH6 N' vs' ly' z1 z2 z3 z4 z5=>nx H6 N' vs' ly' ql' l2 _ _ z1 hne.symm z2 z3 z4 z5
def Told(H:Hp)(p:Addr)(mt mp:Int)(R:VK):Prop:=∀(b:Addr) (N' w:Int) (mays:Ag) (ly:Ae) (H':Hp),0<=N'->H' p=some (.lst [.int N'])->BoxAt H' b w mays ly->Good mt mp w mays ly->Keep H H' p->R (.ref b) H'
theorem jHU(T:Txt mg)(CT:Can P w K mg Aq "_law_take" 1 fT fdT ["pot","wide"] yW)(CL:Can P w K mg Aq "_law_lot" 2 fL fdL ["pot","wide"] xA)(hr:Room 2 (XBox P w K mg Aq f cdv A Ap s H0 E).A)
  {w:Int}
  (S:St0 H H5 p w qm ql mays lf N) (hpH:∃o,H p=some o) (w0:0<=w) (w1:w<=mt) (w2:mt<=16) (n0:0<=mp) (n1:mp<=32) (q:Told H p mt mp D.rt):
  (boxC T CT CL hr).1 D [some (.ref p),some (.int mt),some (.int mp),some (.int w),some (.ref qm),some (.ref ql),v6,v7,v8,v9,v10] H5:=by
 refine⟨(by show 3<=sizeLine;decide),λl hl=>?_⟩;have pl:p≠l:=jA S.hp hl;refine⟨p,N,3,rfl,by rw[j8 pl];exact S.hp,S.hN,Ac,Ac,λN1 r a1 a2 a3=>?_⟩;obtain⟨far,hfar,hf⟩:∃far:Int,atI [V.int 1,V.int 10,V.int 2000000000001] r=some (.int far)/\(far=1\/far=10\/far=2000000000001):=by
  rcases (show r=0\/r=1\/r=2 by lia) with e|e|e
  .subst e;exact⟨_,rfl,.inl rfl⟩
  .subst e;exact⟨_,rfl,.inr (.inl rfl)⟩
  .subst e;exact⟨_,rfl,.inr (.inr rfl)⟩
 refine⟨l,_,r,_,rfl,rfl,SqL.of (by rw[j8 pl.symm];exact j7),hfar,?_⟩;have S1:=S.step ((((Keep.refl _ _).new hl (.lst [V.int 1,V.int 10,V.int 2000000000001])).upd (.lst [.int N1]))) j7 a1;generalize upd (upd H5 l (.lst [V.int 1,V.int 10,V.int 2000000000001])) p (.lst [.int N1])=H6 at S1 ⊢;clear hl S;refine⟨(by show 0<=sizeLine;exact ba _),λqp hqp=>?_⟩;have pq:p≠qp:=jA S1.hp hqp;have hHq:H qp=none:=by
  cases e:H qp with
  |none=>rfl
  |some o=>
   have:=S1.kp _ _ e pq.symm;rw[hqp] at this;cases this
 have lq:ql≠qp:=jA S1.hl hqp;have S2:=S1.step ((Keep.refl _ _).new hqp (.lst [])) (by rw[j8 pq];exact S1.hp) S1.hN;have hq2:(upd H6 qp (.lst [])) qp=some (.lst []):=j7;generalize upd H6 qp (.lst [])=H7 at S2 hq2 ⊢;clear hqp S1;refine⟨_,_,rfl,rfl,p,N1,_,rfl,S2.hp,S2.hN,Aa,Aa,λN2 n b1 b2 b3=>?_⟩;refine⟨_,_,rfl,rfl,.inr ⟨_,rfl,_,_,rfl,rfl,.inl ⟨Aa,Aa⟩,_,rfl,?_⟩⟩;have S3:=S2.step ((Keep.refl _ _).upd (.lst [.int N2])) j7 b1;have hq3:(upd H7 p (.lst [.int N2])) qp=some (.lst []):=by rw[j8 pq.symm];exact hq2
 generalize upd H7 p (.lst [.int N2])=H8 at S3 hq3 ⊢;clear S2 hq2;obtain⟨m,em,hm,hw⟩:∃m:Int,n*(if decide (0<w)=true then 1 else 0)=m/\(0<=m/\m<=mp)/\(0<m->1<=w):=by
  by_cases h:0<w
  .exact⟨n,by simp[h],⟨b2,Aa⟩,λ_=>h⟩
  .exact⟨0,by simp[h],⟨Aa,n0⟩,λz=>by lia⟩
 show _/\_/\_;rw[show (n*(if decide (0<w)=true then 1 else 0))=m from em];refine⟨Aa,Aa,jA9 (n:=m.toNat) (λi σ H5=>∃ql' lf' N' vs ly v8 v9 v10,σ=[some (.ref p),some (.int mt),some (.int mp),some (.int w),some (.ref qm),some (.ref ql'),some (.int far),some (.ref qp),v8,v9,v10]/\St0 H H5 p w qm ql' mays lf' N'/\ql'≠qp/\H5 qp=some (.lst vs)/\PcsAt H5 vs ly/\(∀pc∈ly,GoodPc w pc)/\ly.length=i) ?_ ?_ ?_⟩
 .exact⟨ql,lf,N2,[],[],_,_,_,rfl,S3,lq,hq3,trivial,(λ_ h=>by cases h),rfl⟩
 .rintro i σ H9 hi ⟨ql',lf',N',vs,ly,x8,x9,x10,rfl,S4,l4,hq4,hv4,hg4,e4⟩;exact jPB T CT CL hr S4 hq4 hv4 hg4 hf Aa hHq pq (hw Aa) Aa λH6 N' vs' ly' ql' lf' v9' v10' z1 z2 z3 z4 z5 z6=>⟨ql',lf',N',vs',ly',_,_,_,rfl,z1,z2,z3,z4,z5,Aa⟩
 .rintro σ H9 ⟨ql',lf',N',vs,ly,x8,x9,x10,rfl,S4,l4,hq4,hv4,hg4,e4⟩;refine⟨qp,vs,rfl,.inl ⟨SqL.of hq4,λtq htq=>⟨(by show 3<=sizeLine;decide),λb hb=>?_⟩⟩⟩;have k1:Keep H9 (upd H9 tq (.tup vs)) p:=(Keep.refl _ _).new htq _;have k2:Keep H9 (upd (upd H9 tq (.tup vs)) b (.tup [.int w,.ref qm,.ref tq])) p:=k1.new hb _;have tb:=jA j7 hb;have S5:=S4.step k2 (by rw[j8 (yM hb |>.2 |> λh=>jA S4.hp h),j8 (jA S4.hp htq)];exact S4.hp) S4.hN;exact q b N' w mays ly _ S4.hN S5.hp ⟨qm,tq,vs,j7,S5.hm,by rw[j8 tb];exact j7,hv4.mono (k2.tups S4.hp)⟩ ⟨w0,w1,S4.rm,Aa,hg4⟩ S5.kp
theorem jHV(T:Txt mg)(CT:Can P w K mg Aq "_law_take" 1 fT fdT ["pot","wide"] yW)(CL:Can P w K mg Aq "_law_lot" 2 fL fdL ["pot","wide"] xA)(hr:Room 2 (XBox P w K mg Aq f cdv A Ap s H0 E).A)
  {w:Int}{v5:Option V}
  (hp:H5 p=some (.lst [.int N])) (hN:0<=N) (hm:H5 qm=some (.tup (mays.map V.int))) (rm:Ris w mays) (kp:Keep H H5 p) (hpH:∃o,H p=some o) (w0:0<=w) (w1:w<=mt) (w2:mt<=16) (n0:0<=mp) (n1:mp<=32) (q:Told H p mt mp D.rt):
  (boxB T CT CL hr).1 D [some (.ref p),some (.int mt),some (.int mp),some (.int w),some (.ref qm),v5,v6,v7,v8,v9,v10] H5:=by
 refine⟨w,rfl,λx hx=>⟨x,w,rfl,j7,w0,Aa,λql hql=>?_⟩⟩;rw[jEH];have px:p≠x:=jA hp hx;have pl:p≠ql:=jA hp (yM hql).2;have k1:Keep H5 (upd (upd H5 x (.rng 0 w)) ql (.lst ((upto w.toNat).map V.int))) p:=((Keep.refl _ _).new hx _).new hql _;have e:((w.toNat:Nat):Int)=w:=Aa;have rl:Ris w (upto w.toNat):=by
  have:=yL w.toNat;rw[e] at this;exact this
 have S:St0 H (upd (upd H5 x (.rng 0 w)) ql (.lst ((upto w.toNat).map V.int))) p w qm ql mays (upto w.toNat) N:=
  ⟨by rw[j8 pl,j8 px];exact hp,hN,k1 qm _ hm (ne_of hm hp (by intro z;cases z)),rm,j7,rl,pl.symm,kp.trans k1⟩
 generalize upd (upd H5 x (.rng 0 w)) ql (.lst ((upto w.toNat).map V.int))=H6 at S ⊢;clear k1 hql hx hp hm kp;refine⟨p,N,3,rfl,S.hp,S.hN,Ac,Ac,λN1 r a1 a2 a3=>⟨rfl,_,rfl,?_⟩⟩;have S1:=S.step ((Keep.refl _ _).upd (.lst [.int N1])) j7 a1;generalize upd H6 p (.lst [.int N1])=H7 at S1 ⊢;clear S;refine ite2 (λhy=>?_) (λhy=>?_)
 .refine⟨(by show 0<=sizeLine;exact ba _),λl hl=>?_⟩;have pl2:p≠l:=jA S1.hp hl;have S2:=S1.step ((Keep.refl _ _).new hl (.lst [])) (by rw[j8 pl2];exact S1.hp) S1.hN;have S3:St0 H (upd H7 l (.lst [])) p w qm l mays [] N1:=⟨S2.hp,S2.hN,S2.hm,S2.rm,j7,Ris.nil w,pl2.symm,S2.kp⟩;exact jHU T CT CL hr S3 hpH w0 w1 w2 n0 n1 q
 .exact jHU T CT CL hr S1 hpH w0 w1 w2 n0 n1 q
theorem jPC(T:Txt mg)(CT:Can P w K mg Aq "_law_take" 1 fT fdT ["pot","wide"] yW)(CL:Can P w K mg Aq "_law_lot" 2 fL fdL ["pot","wide"] xA)(hr:Room 2 (XBox P w K mg Aq f cdv A Ap s H0 E).A)
  
  (hp:H p=some (.lst [.int N])) (hN:0<=N) (w0:0<=mt) (w2:mt<=16) (n0:0<=mp) (n1:mp<=32) (q:Told H p mt mp D.rt):
  (boxA T CT CL hr).1 D [some (.ref p),some (.int mt),some (.int mp),none,none,none,none,none,none,none,none] H:=by
 refine⟨_,_,rfl,rfl,p,N,_,rfl,hp,hN,Aa,Aa,λN1 w a1 a2 a3=>?_⟩;refine⟨(by show 0<=sizeLine;exact ba _),λt ht=>?_⟩;have pt:p≠t:=(yM ht).1.symm;refine⟨p,N1,3,rfl,by rw[j8 pt];exact j7,a1,Ac,Ac,λN2 r b1 b2 b3=>⟨rfl,_,rfl,?_⟩⟩;have k1:Keep H (upd (upd (upd H p (.lst [.int N1])) t (.tup [])) p (.lst [.int N2])) p:=(((Keep.refl _ _).upd _).new ht _).upd _;have hp1:(upd (upd (upd H p (.lst [.int N1])) t (.tup [])) p (.lst [.int N2])) p=some (.lst [.int N2]):=j7;have ht1:(upd (upd (upd H p (.lst [.int N1])) t (.tup [])) p (.lst [.int N2])) t=some (.tup []):=by rw[j8 pt.symm];exact j7
 generalize upd (upd (upd H p (.lst [.int N1])) t (.tup [])) p (.lst [.int N2])=H1 at k1 hp1 ht1 ⊢;clear ht;refine ite2 (λhy=>?_) (λhy=>?_)
 .refine⟨w,rfl,Aa,Aa,jBK (n:=w.toNat) (by rw[aN];lia) (λD i σ' H' ys=>(∃v,σ'=[v,some (.ref p)])/\(∃(ms:Ag) (N':Int),ys=ms.map V.int/\ms.length<=i/\Ris i ms/\0<=N'/\H' p=some (.lst [.int N']))/\Keep H1 H' p/\H' D=some (.lst ys)/\D≠p/\H1 D=none) ?_ ?_ ?_ ?_⟩
  .intro D hD;have:p≠D:=jA hp1 hD;exact⟨⟨_,rfl⟩,⟨[],N2,rfl,ar _,Ris.nil _,b1,by rw[j8 this];exact hp1⟩,(Keep.refl _ _).new hD _,j7,this.symm,hD⟩
  .rintro D i σ' H' ys hD hi ⟨_,⟨ms,N',rfl,e,_⟩,_,e2,_⟩;exact⟨e2,by rw[af];exact e⟩
  .rintro D i σ' H' ys hD hi ⟨⟨v,rfl⟩,⟨ms,N',rfl,e,rs,n',hp'⟩,kk,e2,dp,hn⟩;refine⟨p,N',3,rfl,hp',n',Ac,Ac,λN3 r3 c1 c2 c3=>⟨rfl,_,rfl,?_⟩⟩;have k2:Keep H1 (upd H' p (.lst [.int N3])) p:=kk.upd _;have e3:(upd H' p (.lst [.int N3])) D=some (.lst (ms.map V.int)):=by rw[j8 dp];exact e2
   have hp3:(upd H' p (.lst [.int N3])) p=some (.lst [.int N3]):=j7;generalize upd H' p (.lst [.int N3])=H'' at k2 e3 hp3 ⊢;refine ite2 (λhz=>?_) (λhz=>?_)
   .refine⟨e3,⟨_,rfl⟩,⟨ms++[(i:Int)],N3,?_,?_,rs.snoc,c1,by rw[j8 dp.symm];exact hp3⟩,k2.updNew hn _,j7,dp,hn⟩
    .rw[aU];show _++[V.int (0+(i:Int))]=_++[V.int (i:Int)];rw[Int.zero_add]
    .rw[ak];show ms.length+1<=i+1;lia
   .exact⟨⟨_,rfl⟩,⟨ms,N3,rfl,Aa,rs.step,c1,hp3⟩,k2,e3,dp,hn⟩
  .rintro D σ' H' ys hD ⟨_,⟨ms,N',rfl,e,rs,n',hp'⟩,kk,e2,dp,hn⟩;refine⟨D,_,rfl,.inl ⟨SqL.of e2,λqm hqm=>?_⟩⟩;have pm:p≠qm:=jA hp' hqm;have e':((w.toNat:Nat):Int)=w:=Aa;rw[e'] at rs;exact jHV T CT CL hr (by rw[j8 pm];exact hp') n' j7 rs ((k1.trans kk).new hqm _) ⟨_,hp⟩ a2 Aa w2 n0 n1 q
 .exact jHV T CT CL hr hp1 b1 (mays:=[]) ht1 (Ris.nil w) k1 ⟨_,hp⟩ a2 Aa w2 n0 n1 q
def jWV(F:Fun K "_law_box" "_law_box" sBox f fd)(T:Txt mg)(CT:Can P w K mg Aq "_law_take" 1 fT fdT ["pot","wide"] yW)(CL:Can P w K mg Aq "_law_lot" 2 fL fdL ["pot","wide"] xA):
  FnOk P w K mg Aq CX0 3 f fd ["pot","most_things","most_pieces"] spBox:=by
 refine F.ok scBox (λvs H Q E h=>?_) (λcdv A Ap s H vs Q E hr h=>?_)
 .obtain⟨_,_,_,_,rfl,_⟩:=h;rfl
 .obtain⟨p,N,mt,mp,rfl,hp,hN,m0,m1,n0,n1,q⟩:=h;exact⟨_,(boxA T CT CL hr).2.h,jPC T CT CL hr hp hN m0 m1 n0 n1 q⟩
inductive Ob where
 |int (i:Int)
 |oth
 |tup (os:List Ob)
def OthAt(H:Hp)(v:V):Prop:=v=.non\/(∃b,v=.bl b)\/(∃x,v=.str x)\/∃a,v=.ref a/\((∃xs,H a=some (.lst xs))\/∃kvs,H a=some (.dK kvs))
mutual
def At(H:Hp):Ob->V->Prop
 | .int i,v=>v=.int i
 | .oth,v=>OthAt H v
 | .tup os,v=>∃a vs,v=.ref a/\H a=some (.tup vs)/\vs.length<=100/\Ats H os vs
def Ats(H:Hp):List Ob->List V->Prop
 |[],vs=>vs=[]
 |o::os,vs=>∃v r,vs=v::r/\At H o v/\Ats H os r
end
structure Kp (H H':Hp):Prop where
 t:Tups H H'
 l:∀a xs,H a=some (.lst xs)->∃ys,H' a=some (.lst ys)
 d:∀a xs,H a=some (.dK xs)->∃ys,H' a=some (.dK ys)
def Kp.of{H H':Hp}(e:Ext H H'):Kp H H':=⟨λb xs h=>e b _ h,λa xs h=>⟨xs,e a _ h⟩,λa xs h=>⟨xs,e a _ h⟩⟩
def OthAt.mono(k:Kp H H')(h:OthAt H v):OthAt H' v:=by
 rcases h with h|h|h|⟨a,rfl,⟨xs,h⟩|⟨xs,h⟩⟩
 .exact .inl h
 .exact .inr (.inl h)
 .exact .inr (.inr (.inl h))
 .exact .inr (.inr (.inr ⟨a,rfl,.inl (k.l _ _ h)⟩))
 .exact .inr (.inr (.inr ⟨a,rfl,.inr (k.d _ _ h)⟩))
mutual
def At.mono{H H':Hp}(k:Kp H H'):∀(o:Ob) (v:V),At H o v->At H' o v
 | .int _,_,h=>h
 | .oth,_,h=>OthAt.mono k h
 | .tup os,_,⟨a,vs,e,h,n,r⟩=>⟨a,vs,e,k.t _ _ h,n,Ats.mono k os vs r⟩
def Ats.mono{H H':Hp}(k:Kp H H'):∀(os:List Ob) (vs:List V),Ats H os vs->Ats H' os vs
 |[],_,h=>h
 |o::os,_,⟨v,r,e,h,t⟩=>⟨v,r,e,At.mono k o v h,Ats.mono k os r t⟩
end
variable {o:Ob}
def At.ext(e:Ext H H')(h:At H o v):At H' o v:=At.mono (.of e) o v h
def Ats.len:∀{os:List Ob}{vs:List V},Ats H os vs->vs.length=os.length
 |[],_,h=>by cases (show _=[] from h);rfl
 |o::os,_,⟨v,r,e,h,t⟩=>by rw[e,aV,aV,Ats.len t]
def Ats.get{H:Hp}:∀{os:List Ob}{vs:List V},Ats H os vs->∀{i:Nat}{v:V},vs[i]?=some v->∃o,os[i]?=some o/\At H o v
 |[],_,h,i,v,e=>by cases (show _=[] from h);cases e
 |o::os,_,⟨v,r,e,h,t⟩,0,v',e'=>by subst e;cases e';exact⟨o,rfl,h⟩
 |o::os,_,⟨v,r,e,h,t⟩,i+1,v',e'=>by subst e;exact Ats.get t (i:=i) e'
def Ats.ints:∀(l:Ag),Ats H (l.map Ob.int) (l.map V.int)
 |[]=>rfl
 |i::r=>⟨.int i,_,rfl,rfl,Ats.ints r⟩
def isInt:Ob->Bool
 | .int _=>true
 |_=>false
def isTup:Ob->Bool
 | .tup _=>true
 |_=>false
def upB(lo hi:Int):Ob->Bool
 | .int i=>decide (lo<=i)&&decide (i<=hi)
 |_=>false
def val:Ob->Int
 | .int i=>i
 |_=>0
def adj(is:Ag):List Bool:=(List.range (is.length-1)).map λk=>decide (is.getD k 0<is.getD (k+1) 0)
noncomputable def risB:Ob->Bool
 | .tup os=>os.all isInt&&(adj (os.map val)).all id
 |_=>false
noncomputable def lotB(w:Int):Ob->Bool
 | .tup os=>os.all (upB 0 (w-1))&&(adj (os.map val)).all id
 |_=>false
def lotB'(w:Int)(o:Ob):Bool:=risB o&&match o with
 | .tup os=>decide (os=[]) || (decide (0<=(os.map val).getD 0 0)&&decide ((os.map val).getLastD 0<w))
 |_=>false
theorem jVI{is:Ag}(h:(adj is).all id=true){k:Nat}(hk:k+1<is.length):is.getD k 0<is.getD (k+1) 0:=by
 rw[cj] at h;exact aP (h _ (bh.mpr ⟨k,bR.mpr Aa,rfl⟩))
theorem jPH{is:Ag}(h:(adj is).all id=true):∀(j k:Nat),j<=k->k<is.length->is.getD j 0<=is.getD k 0
 |j,0,h1,_=>by
  have:j=0:=Aa;subst this;exact cL _
 |j,k+1,h1,h2=>by
  rcases i8 k j with q|q
  .have:j=k+1:=Aa;subst this;exact cL _
  .have a:=jPH h j k q Aa;have b:=jVI h h2;lia
theorem jX4(w:Int)(o:Ob):lotB' w o=lotB w o:=by
 cases o with
 |int i=>rfl
 |oth=>rfl
 |tup os=>
  rw[cB];unfold lotB' risB lotB;simp only[bC,ji,iJ];constructor
  .rintro ⟨⟨a,b⟩,c⟩;refine⟨?_,b⟩;rw[cj] at a ⊢;intro x hx;obtain⟨j,hj,rfl⟩:=dQ hx;have hi:=a _ hx;have e:os≠[]:=λe=>by subst e;cases hx
   obtain⟨c1,c2⟩:=c.resolve_left e;have hl:(os.map val).length=os.length:=af _;have g:(os.map val).getD j 0=val os[j]:=by
    rw[aB,aQ];simp[hj]
   have l1:=jPH b 0 j Aa Aa;have l2:=jPH b j (os.length-1) Aa Aa;have l3:(os.map val).getLastD 0=(os.map val).getD (os.length-1) 0:=by
    rw[eW,eX,aB,hl]
   rw[g] at l1 l2;rw[l3] at c2;cases e2:os[j] with
   |int i=>
    rw[e2] at l1 l2;simp only[val] at l1 l2;simp only[upB,bC,iJ];lia
   |oth=>rw[e2] at hi;cases hi
   |tup r=>rw[e2] at hi;cases hi
  .rintro ⟨a,b⟩;rw[cj] at a;refine⟨⟨?_,b⟩,?_⟩
   .rw[cj];intro x hx;have:=a x hx;cases x with
    |int i=>rfl
    |oth=>cases this
    |tup r=>cases this
   .by_cases e:os=[]
    .exact .inl e
    .refine .inr ?_;have key:∀j,j<os.length->0<=(os.map val).getD j 0/\(os.map val).getD j 0<w:=λj hj=>by
      have g:(os.map val).getD j 0=val os[j]:=by
       rw[aB,aQ];simp[hj]
      have:=a os[j] (cK hj);rw[g];cases e2:os[j] with
      |int i=>
       rw[e2] at this;simp only[upB,bC,iJ] at this;simp only[val];lia
      |oth=>rw[e2] at this;cases this
      |tup r=>rw[e2] at this;cases this
     have hpos:0<os.length:=by
      cases os with
      |nil=>exact absurd rfl e
      |cons _ _=>simp
     have l3:(os.map val).getLastD 0=(os.map val).getD (os.length-1) 0:=by
      rw[eW,eX,aB,af]
     rw[l3];exact⟨(key 0 hpos).1,(key (os.length-1) Aa).2⟩
def Ats.allInt:∀{os:List Ob}{vs:List V},Ats H os vs->os.all isInt=true->vs=(os.map val).map V.int
 |[],_,h,_=>by cases (show _=[] from h);rfl
 |o::os,_,⟨v,r,e,h,t⟩,ha=>by
  rw[iN,bC] at ha;subst e;rw[aW,aW,<- Ats.allInt t ha.2];cases o with
  |int i=>cases (show v=.int i from h);rfl
  |oth=>cases ha.1
  |tup _=>cases ha.1
def jXU(l:List Ob)(F:Ob->Bool):(l.map F).all id=l.all F:=by
 rw[all_map];rfl
def jVH(is:Ag):(adj is).length=is.length-1:=by
 unfold adj;rw[af,b8]
theorem jXV{is:Ag}{k:Nat}(h:k<is.length-1):(adj is)[k]?=some (decide (is.getD k 0<is.getD (k+1) 0)):=by
 unfold adj;rw[aQ,cq h];rfl
theorem jRS{is:Ag}{k:Nat}(h:k<is.length-1):(adj is).take (k+1)=(adj is).take k++[decide (is.getD k 0<is.getD (k+1) 0)]:=by
 rw[bf,jXV h];rfl
def getI{is:Ag}{k:Nat}(h:k<is.length):(is.map V.int)[k]?=some (.int (is.getD k 0)):=by
 rw[aQ,aB];simp[h]
def At.ty(K:W.Frag)(h:At H o v):∃t,TyOf K H v t/\kitOne K t (.type "tuple")=some (isTup o)/\∃b1 b2,kitOne K t (.type "int")=some b1/\kitOne K t (.type "bool")=some b2/\(b1&&!b2)=isInt o:=by
 cases o with
 |int i=>
  cases (show v=.int i from h);exact⟨_,.int i,rfl,true,false,rfl,rfl,rfl⟩
 |oth=>
  rcases (show OthAt H v from h) with rfl|⟨b,rfl⟩|⟨x,rfl⟩|⟨a,rfl,⟨xs,e⟩|⟨xs,e⟩⟩
  .exact⟨_,.non,rfl,false,false,rfl,rfl,rfl⟩
  .exact⟨_,.bl b,rfl,true,true,rfl,rfl,rfl⟩
  .exact⟨_,.str x,rfl,false,false,rfl,rfl,rfl⟩
  .exact⟨_,.lst e,rfl,false,false,rfl,rfl,rfl⟩
  .exact⟨_,.dK e,rfl,false,false,rfl,rfl,rfl⟩
 |tup os=>
  obtain⟨a,vs,rfl,e,_⟩:=h;exact⟨_,.tup e,rfl,false,false,rfl,rfl,rfl⟩
def At.tupOf(h:At H o v)(t:isTup o=true):∃os a vs,o=.tup os/\v=.ref a/\H a=some (.tup vs)/\vs.length<=100/\Ats H os vs:=by
 cases o with
 |int i=>cases t
 |oth=>cases t
 |tup os=>
  obtain⟨a,vs,e1,e2,e4,e3⟩:=h;exact⟨os,a,vs,rfl,e1,e2,e4,e3⟩
theorem jP2{K:W.Frag}{m:List (Option Nat)}{g:TG}{tt:TT}{te:TE}{σ:St}{H1:Hp}{Q:VK}{a:Addr}{xs:List V}{os:List Ob}{F:Ob->Bool}(ha:H1 a=some (.tup xs))(hx:Ats H1 os xs)(hn:xs.length<sizeLine)(σP:St->Prop)(h0:σP (blkσ m σ))
  (step:∀(σ':St) (H':Hp) (v:V) (o:Ob) (R:St->V->Hp->Prop) (S:St->Hp->Prop),σP σ'->Ext H1 H'->At H' o v->(∀σ2 H'',σP σ2->Ext H' H''->R σ2 (.bl (F o)) H'')->g v σ' H' λσ2 H2=>tt σ2 H2 λb H3=>if b=true then te σ2 H3 (R σ2) else S σ2 H3)
  (hd:∀D H',Ext H1 H'->H' D=some (.lst ((os.map F).map V.bl))->Q (.ref D) H'):qX m g tt te σ Q (Itt K a) H1:=by
 have hl:=hx.len;refine jBJ (xs:=xs) hn (λD i σ' H' zs=>σP σ'/\Ext H1 H'/\H' D=some (.lst zs)/\H1 D=none/\zs=((os.take i).map F).map V.bl) ?_ ?_ ?_ ?_
 .intro D hD;exact⟨h0,(Ext.refl _).new hD _,j7,hD,rfl⟩
 .rintro D i σ' H' zs hD ⟨_,e,h2,_,rfl⟩;refine⟨e _ _ ha,h2,?_⟩;rw[af,af,bi];lia
 .rintro D i σ' H' zs x hD hi ⟨p,e,h2,hn,rfl⟩;obtain⟨o,ho,hAt⟩:=hx.get hi;refine step σ' H' x o _ _ p e (hAt.ext e) λσ2 H'' p2 e2=>⟨e2 _ _ h2,p2,(e.trans e2).updNew hn _,j7,hn,?_⟩;have:os.take (i+1)=os.take i++[o]:=by
   rw[bf,ho];rfl
  rw[this,aU,aU];rfl
 .rintro D σ' H' zs hD ⟨_,e,h2,_,rfl⟩;rw[hl,bq] at h2;exact hd D H' e h2
noncomputable abbrev XOf(N:Am)(q:Str)(st:Stmt)(P:Program)(w:World)(K:W.Frag)(mg:Ak)(Aq:Heap)(f:Addr)(cdv:Value)(A:Around)(Ap:List Env)(s:Shared)(H:Hp)(E:XK):Cx:=(cxOf CX0 P w K mg Aq N q (j6 st) f cdv A Ap s H E).nox
abbrev jNP:Am:=["thing"]
def scWhole0:FnScope jNP ["thing"] (j6 jBV):= {}
inductive spWh(vs:List V)(H:Hp)(Q:VK)(_:XK):Prop|i(v o:_)(_:vs=[v])(_:At H o v)(_:Q (.bl (isInt o)) H)
def jSV(T:Txt mg): {t:TS // JSs (XOf jNP "is_whole" jBV P w K mg Aq f cdv A Ap s H0 E) (jB jBV) t}:=
 have nd:=scWhole0.nd
 ⟨_,(jC (jM ((jDD (jF kG gD T.isinstance Ab (j3 (jv 0 rfl vL) (j3 (yR (v:=.ty "int") gD T.int Ab rfl) j5 j4) j4) j4) (jCE (jSL (jF kG gD T.isinstance Ab (j3 (jv 0 rfl vL) (j3 (yR (v:=.ty "bool") gD T.bool Ab rfl) j5 j4) j4) j4)))))))⟩
def jNB(F:Fun K "is_whole" "is_whole" jBV f fd)(T:Txt mg):FnOk P w K mg Aq CX0 1 f fd ["thing"] spWh:=by
 refine F.ok scWhole0 (λvs H Q E h=>?_) (λcdv A Ap s H vs Q E hr h=>?_)
 .obtain⟨_,_,rfl,_⟩:=h;rfl
 .obtain⟨v,o,rfl,hA,q⟩:=h;obtain⟨t,ty,_,b1,b2,k1,k2,e⟩:=hA.ty K;refine⟨_,(jSV T).2.h,?_⟩;refine⟨_,_,_,b1,rfl,ty,k1,b1,rfl,?_⟩;rw[<- e] at q;cases b1 with
  |true=>exact iteT ⟨_,_,_,b2,rfl,ty,k2,b2,rfl,q⟩
  |false=>exact iteF q
abbrev jE6:Am:=["thing"]
def scRising:FnScope jE6 ["thing"] (j6 jAD):= {}
inductive spB(F:Ob->Bool)(vs:List V)(H:Hp)(Q:VK)(_:XK):Prop|i(v o:_)(_:vs=[v])(_:At H o v)(_:∀H',Ext H H'->Q (.bl (F o)) H')
def jT2(T:Txt mg)(CW:Can P w K mg Aq "is_whole" 1 fW fdW ["thing"] spWh)(hr:Room 1 (XOf jE6 "is_rising" jAD P w K mg Aq f cdv A Ap s H0 E).A): {t:TS // JSs (XOf jE6 "is_rising" jAD P w K mg Aq f cdv A Ap s H0 E) (jB jAD) t}:=
 have nd:=scRising.nd
 ⟨_,(j9 (kY (qK (yJ (jF kG gD T.isinstance Ab (j3 (jv 0 rfl vC) (j3 (yR (v:=.ty "tuple") gD T.tuple Ab rfl) j5 j4) j4) j4) kZ)) (jC (jM (je_bl))) jS)
   (j9 (kY (qK (yJ (jF (jCH rfl) gD T.all Ab (j3 (kU (m:=[none]) (Nc:=["number"]) rfl (qO (jv 0 rfl vC)) rfl Ab Ab (jR (psc:=j6 jAD)) (jO (N:=jE6) rfl rfl Ab) (λcl C fp s H=>jT (i:=0) (show (["number"]:Am).Nodup by decide+kernel) rfl yZ) (λcl C fp s H=>yK) (λcl C fp s H=>(CW.je hr gl_b (j3 (jv 0 rfl jZ) j5 j4) j4)) qI) j5 jP) jP) kZ)) (jC (jM (je_bl))) jS)
   (jC (jM (jF (jCH rfl) gD T.all Ab (j3 (kU (m:=[none,some 0]) (Nc:=["k","thing"]) rfl (jOC gD T.range (j3 (je_int) (j3 (jF jH gD T.len Ab (j3 (jv 0 rfl vC) j5 j4) j4) j5 jE) kI) kI jE) rfl Ab Ab (jR (psc:=j6 jAD)) (jO (N:=jE6) rfl rfl Ab) (λcl C fp s H=>jT (i:=0) (show (["k","thing"]:Am).Nodup by decide+kernel) rfl yZ) (λcl C fp s H=>yK) (λcl C fp s H=>(y9 op_lt (jI yO (jv 1 rfl yA) (kR jBQ (jv 0 rfl jZ) (je_int)) jS6) (jI yO (jv 1 rfl yA) (jv 0 rfl jZ) jBW) (jQ _))) kW) j5 jP) jP)))))⟩
theorem jNC(F:Fun K "is_rising" "is_rising" jAD f fd)(T:Txt mg)(CW:Can P w K mg Aq "is_whole" 1 fW fdW ["thing"] spWh):FnOk P w K mg Aq CX0 2 f fd ["thing"] (spB risB):=by
 refine F.ok scRising (λvs H Q E h=>?_) (λcdv A Ap s H vs Q E hr h=>?_)
 .obtain⟨_,_,rfl,_⟩:=h;rfl
 .obtain⟨v,o,rfl,hA,q⟩:=h;obtain⟨t,ty,kt,_⟩:=hA.ty K;refine⟨_,(jT2 T CW hr).2.h,?_⟩;refine⟨_,_,_,_,rfl,ty,kt,_,rfl,?_⟩;cases ht:isTup o with
  |false=>
   refine iteT ?_;have:risB o=false:=by cases o<;>first|rfl|cases ht
   rw[<- this];exact q H (Ext.refl H)
  |true=>
   refine iteF ?_;obtain⟨os,a,vs,rfl,rfl,ha,h100,hx⟩:=hA.tupOf ht;have hl:=hx.len;have hn:vs.length<sizeLine:=by rw[aN];lia
   .refine⟨a,rfl,⟨_,SqT.of ha⟩,jP2 (F:=isInt) ha hx hn (λσ'=>∃v,σ'=[v]) ⟨_,rfl⟩ ?_ ?_⟩
    .rintro σ' H' v o R S ⟨u,rfl⟩ e hA k;dsimp only[kT,qC];rw[ax rfl];exact⟨v,o,rfl,hA,k _ H' ⟨_,rfl⟩ (Ext.refl _)⟩
    .intro D H1 e1 hD;refine⟨D,_,rfl,SqL.of hD,_,rfl,?_⟩;rw[jXU];cases hi:os.all isInt with
     |false=>
      refine iteT ?_;have:risB (.tup os)=false:=by
       show (os.all isInt&&_)=false;rw[hi];rfl
      rw[<- this];exact q H1 e1
     |true=>
      refine iteF ?_;have hv:=hx.allInt hi;have hN:(os.map val).length=os.length:=af _;refine⟨a,_,rfl,.inr (SqT.of (e1 _ _ ha)),1,_,rfl,⟨Ac,Ac,Aa,by rw[aN] at hn;lia⟩,jBK (n:=((vs.length:Int)-1).toNat) Aa (λD i σ' H' zs=>(∃v,σ'=[v,some (.ref a)])/\zs=((adj (os.map val)).take i).map V.bl/\H'=upd H1 D (.lst zs)) ?_ ?_ ?_ ?_⟩
      .intro D hD;exact⟨⟨_,rfl⟩,rfl,rfl⟩
      .rintro D i σ' H' zs hD hi2 ⟨_,rfl,rfl⟩;refine⟨j7,?_⟩;rw[af,bi];lia
      .rintro D i σ' H' zs hD hi2 ⟨⟨v,rfl⟩,rfl,rfl⟩;have hi3:i<(os.map val).length-1:=Aa;have ha':(upd H1 D (.lst (((adj (os.map val)).take i).map V.bl))) a=some (.tup ((os.map val).map V.int)):=by
        rw[j8 (jA (e1 _ _ ha) hD),e1 _ _ ha,hv]
       dsimp only[kT,qC];rw[ax rfl];have e0:(1+(i:Int))-1=(i:Int):=Aa;have e2:(1+(i:Int))=((i+1:Nat):Int):=Aa;refine⟨_,_,rfl,rfl,a,_,_,_,rfl,rfl,SqT.of ha',by rw[e0];exact jAJ (getI Aa),a,_,_,_,rfl,rfl,SqT.of ha',by rw[e2];exact jAJ (getI Aa),_,_,rfl,rfl,j7,⟨_,rfl⟩,?_,jCM⟩;rw[jRS hi3,aU];rfl
      .rintro D2 σ' H' zs hD2 ⟨_,rfl,rfl⟩;have hlen:((vs.length:Int)-1).toNat=(adj (os.map val)).length:=by rw[jVH];lia
       rw[hlen,bq];refine⟨D2,_,rfl,SqL.of j7,?_⟩;have:(adj (os.map val)).all id=risB (.tup os):=by
        show _=(os.all isInt&&(adj (os.map val)).all id);rw[hi,kj]
       rw[this];exact q _ (e1.new hD2 _)
end Eo
namespace L2
open PySem
theorem jSK{X:Cx}{p2 p3 p4:Pos}{k2 k3:Nat}:JE X (.BinOp (.Constant (.int 10) k2 p2) .Pow (.Constant (.int 12) k3 p3) p4) (tC (.int 1000000000000)):=⟨jN6 Ac Ac Ac Ac⟩
def px_un{op:UnaryOp}{a:Expr}{pos:Pos}:jAV (.UnaryOp op a pos):=λ_ _=>rfl
theorem jVC{α:Type}{xs:List α}{v:α}(h:xs[xs.length-1]?=some v):atI xs (-1)=some v:=by
 have hj:xs.length-1<xs.length:=(aj.mp h).1;have e:ixN xs.length (-1)=some (xs.length-1):=by
  unfold ixN;rw[aq Aa,ax Aa];congr 1;lia
 unfold atI;rw[e];exact h
def qb{Q:VK}{a b:Bool}(q:Q (.bl a) H)(e:a=b):Q (.bl b) H:=e ▸ q
end L2
namespace Eo
open PySem L2
section
variable {fPs:Addr}{fdPs:FuncData}
abbrev jNS:Am:=["thing","many"]
def scIsLot:FnScope jNS ["thing","many"] (j6 jD7):= {}
inductive spB2(F:Int->Ob->Bool)(vs:List V)(H:Hp)(Q:VK)(_:XK):Prop|i(v o w:_)(_:vs=[v,.int w])(_:At H o v)(_:∀H',Ext H H'->Q (.bl (F w o)) H')
def jXJ(T:Txt mg)(CR:Can P w K mg Aq "is_rising" 2 fR fdR ["thing"] (spB risB))(hr:Room 2 (XOf jNS "is_lot" jD7 P w K mg Aq f cdv A Ap s H0 E).A): {t:TS // JSs (XOf jNS "is_lot" jD7 P w K mg Aq f cdv A Ap s H0 E) (jB jD7) t}:=
 have nd:=scIsLot.nd
 ⟨_,(j9 (kY (qK (yJ (CR.je hr gD (j3 (jv 0 rfl vL) j5 j4) j4) kZ)) (jC (jM (je_bl))) jS)
   (jC (jM ((je_or (y9 qJ (jF jH gD T.len Ab (j3 (jv 0 rfl vL) j5 j4) j4) (je_int) (jQ _)) (jCE ((jDD (y9 op_ge (jI jG (jv 0 rfl vL) (je_int) jD) (je_int) (jQ _)) (jCE (y9 op_lt (jI jG (jv 0 rfl vL) (je_un jM4 (je_int)) px_un) (jv 1 rfl vL) (jQ _)))))))))))⟩
theorem jQM{fd:FuncData}(F:Fun K "is_lot" "is_lot" jD7 f fd)(T:Txt mg)(CR:Can P w K mg Aq "is_rising" 2 fR fdR ["thing"] (spB risB)):FnOk P w K mg Aq CX0 3 f fd ["thing","many"] (spB2 lotB):=by
 refine F.ok scIsLot (λvs H Q E h=>?_) (λcdv A Ap s H vs Q E hr h=>?_)
 .obtain⟨_,_,_,rfl,_⟩:=h;rfl
 .obtain⟨v,o,w,rfl,hA,q⟩:=h;refine⟨_,(jXJ T CR hr).2.h,?_⟩;refine⟨v,o,rfl,hA,λH1 e1=>⟨_,rfl,?_⟩⟩;have eq:=jX4 w o;cases hR:risB o with
  |false=>
   refine iteT (qb (q H1 e1) ?_);rw[<- eq];unfold lotB';rw[hR];rfl
  |true=>
   refine iteF ?_;have ht:isTup o=true:=by cases o<;>first|rfl|cases hR
   obtain⟨os,a,vs,rfl,rfl,ha,h100,hx⟩:=hA.tupOf ht;have hl:=hx.len;have hi:os.all isInt=true:=by
    have:(os.all isInt&&(adj (os.map val)).all id)=true:=hR;rw[bC] at this;exact this.1
   have hv:=hx.allInt hi;have ha1:=e1 _ _ ha;refine⟨a,_,rfl,.inr (SqT.of ha1),rfl,_,rfl,ite2 (λhy=>?_) (λhy=>?_)⟩
   .have h0:=V.int.inj (aP hy);have e0:os=[]:=iU.mp Aa;refine qb (q H1 e1) ?_;rw[<- eq];unfold lotB';rw[hR];simp[e0]
   .have h0:0<vs.length:=Nat.pos_of_ne_zero λh=>hy (ay (by rw[h];rfl));have hml:(os.map val).length=vs.length:=by rw[af,hl]
    refine⟨a,_,0,.int ((os.map val).getD 0 0),rfl,rfl,SqT.of ha1,?_,_,_,rfl,rfl,_,rfl,ite2 (λhz=>?_) (λhz=>?_)⟩
    .rw[hv];exact jAJ (j:=0) (getI Aa)
    .refine⟨_,rfl,a,_,_,.int ((os.map val).getLastD 0),rfl,rfl,SqT.of ha1,?_,_,_,rfl,rfl,qb (q H1 e1) ?_⟩
     .show atI vs (-1)=_;refine jVC ?_;rw[hv,af,getI Aa,eW,eX,aB]
     .rw[<- eq];unfold lotB';rw[hR];have e0:¬os=[]:=λe=>by rw[e] at hl;have:vs.length=0:=hl;lia
      have hz:=aP hz;simp[e0];intro hh;simpa using hz
    .refine qb (q H1 e1) ?_;rw[<- eq];unfold lotB';rw[hR];have e0:¬os=[]:=λe=>by rw[e] at hl;have:vs.length=0:=hl;lia
     have hz:¬(0<=(os.map val).getD 0 0):=λh=>hz (ay h);simp only[e0,decide_false,Bool.false_or,kj,aH hz,eG]
end
end Eo
namespace L2
open PySem
section
variable {P:Program}{w:World}{K:W.Frag}{mg:Ak}{Aq:Heap}{N:Am}{qual:Str}{sc:Scope}{f:Addr}{cdv:Value}{A:Around}{Ap:List Env}{s:Shared}{H:Hp}{E:XK}{x y z:Str}{p1 p2 p3 pos:Pos}{k i j l:Nat}
def jCD(hN:N.Nodup)(hi:N[i]?=some x)(hj:N[j]?=some y)(hx:sc.names.lookup x=some .local)(hy:sc.names.lookup y=some .local):
  JG (cxOf CX0 P w K mg Aq N qual sc f cdv A Ap s H E).nox (.Tuple [.Name x p1,.Name y p2] k pos) (gTup K 2 (gCons (kT i) (gCons (kT j) gNil))):=
 jOD (X:=(cxOf CX0 P w K mg Aq N qual sc f cdv A Ap s H E).nox) rfl (jBH (jT hN hi (loc_l hx)) (jBH (jT hN hj (loc_l hy)) jJ4 jD3) jD3)
end
section
variable {K:W.Frag}{m:List (Option Nat)}{g:TG}{tt:TT}{te:TE}{σ:St}{H1:Hp}{Q:VK}
end
end L2
namespace Eo
open PySem L2
variable {ts lot:Ag}{i:Nat}{fd:FuncData}{vs:List V}{α:Type}
def jJ8{l:List α}{d:α}(h:i<l.length):l.getD i d=l[i]:=by
 rw[aB,az h];rfl
def jAA(l:Ag):(l.map V.int).all flatV=true:=by
 rw[cj];intro x hx;obtain⟨i,_,rfl⟩:=bh.mp hx;rfl
theorem jAU(i:Int)(l:Ag):inV (.int i) (l.map V.int)=decide (i∈l):=by
 unfold inV;rw[cB,gn,bI];constructor
 .rintro ⟨x,hx,e⟩;obtain⟨j,hj,rfl⟩:=bh.mp hx;have:j=i:=eq_of_beq e;rw[<- this];exact hj
 .intro h;exact⟨.int i,bh.mpr ⟨i,h,rfl⟩,by simp[eqV]⟩
theorem jE0:∀(ts:Ag) (lo w:Int),ts.Pairwise (· < ·)->(∀z∈ts,lo<=z/\z<w)->(ts.length:Int)<=max (w-lo) 0
 |[],lo,w,_,_=>by show (0:Int)<=_;lia
 |a::r,lo,w,hp,hb=>by
  have h1:=hb a ai;have hp':=dz.mp hp;have:=jE0 r (a+1) w hp'.2 λz hz=>⟨by have:=hp'.1 z hz;lia,(hb z (ag _ hz)).2⟩;rw[aV];lia
def jK(ly:Ae)(k:Int):Ag:=(ly.getD k.toNat ([],0)).1
def PcsAt.get{H:Hp}:∀{vs:List V}{ps:Ae},PcsAt H vs ps->∀{k:Nat},k<ps.length->∃v,vs[k]?=some v/\PcAt H v (ps.getD k ([],0))
 |v::vs,p::ps,h,0,_=>⟨v,rfl,h.1⟩
 |v::vs,p::ps,h,k+1,hk=>PcsAt.get h.2 (k:=k) (by simpa using hk)
 |[],[],_,k,hk=>absurd hk (d0 _)
 |[],_::_,h,_,_=>h.elim
 |_::_,[],h,_,_=>h.elim
def Good.at{mt mp w:Int}{ms:Ag}{ly:Ae}(g:Good mt mp w ms ly){k:Nat}(hk:k<ly.length):GoodPc w (ly.getD k ([],0)):=by
 have e:ly.getD k ([],0)=ly[k]:=by simp[List.getD,hk]
 rw[e];exact g.pg _ (cK hk)
theorem jM3(h:i<n):(upto n).take (i+1)=(upto n).take i++[(i:Int)]:=by
 unfold upto;rw[<- ki,<- ki,List.take_range,List.take_range,show min (i+1) n=i+1 by lia,show min i n=i by lia,eh,aU];rfl
def yD(n:Nat):(upto n).length=n:=by
 unfold upto;rw[af,b8]
def jJI{n i:Nat}(h:i<n):(upto n)[i]?=some (i:Int):=by
 unfold upto;rw[aQ,cq h];rfl
def jXQ(H:Hp)(i:Int):At H (.int i) (.int i):=rfl
def jPE{os:List Ob}(h:H a=some (.tup vs))(n:vs.length<=100)(r:Ats H os vs):At H (.tup os) (.ref a):=⟨a,vs,rfl,h,n,r⟩
def _root_.L2.Ext.tups(e:Ext H H'):Tups H H':=λb xs h=>e b _ h
def PcsAt.at{H:Hp}:∀{vs:List V}{ps:Ae},PcsAt H vs ps->∀{i:Nat}{v:V},vs[i]?=some v->∃pc,ps[i]?=some pc/\PcAt H v pc
 |[],[],_,i,v,e=>by cases e
 |x::vs,p::ps,h,0,v,e=>by cases e;exact⟨p,rfl,h.1⟩
 |x::vs,p::ps,h,i+1,v,e=>PcsAt.at h.2 (i:=i) e
 |[],_::_,h,_,_,_=>h.elim
 |_::_,[],h,_,_,_=>h.elim
def PcsAt.snoc{H:Hp}{v:V}{p:List Int×Int}(hv:PcAt H v p):∀{vs:List V}{ps:Ae},PcsAt H vs ps->PcsAt H (vs++[v]) (ps++[p])
 |[],[],_=>⟨hv,trivial⟩
 |x::vs,q::ps,h=>⟨h.1,PcsAt.snoc hv h.2⟩
 |[],_::_,h=>h.elim
 |_::_,[],h=>h.elim
def Keep.ext{o:HO}(k:Keep (L2.upd H p o) H' p)(hp:H p=none):Ext H H':=λb u hb=>by
 have n:b≠p:=jA hb hp;exact k b u (by rw[j8 n];exact hb) n
def Good.wide{mt mp w mt' mp':Int}(g:Good mt mp w ms ly)(h1:mt<=mt')(h2:mp<=mp'):Good mt' mp' w ms ly:=⟨g.w0,cQ g.w1 h1,g.mr,cQ g.pl h2,g.pg⟩
theorem jNN(n:Nat):∀(ds:Ag),ds.Nodup->(∀t∈ds,0<=t/\t<(n:Int))->ds.length<=n:=by
 intro ds h1 h2;have h3:(ds.map Int.toNat).Nodup:=by
  rw[List.Nodup,bG];refine ff (R:=(· ≠·)) (λ{a b} ha hb hne e=>hne ?_) h1;have:=h2 a ha;have:=h2 b hb;lia
 have h4:(ds.map Int.toNat).length<=(List.range n).length:=h3.length_le_of_subset λx hx=>by
  obtain⟨t,ht,rfl⟩:=bh.mp hx;have:=h2 t ht;exact bR.mpr Aa
 rw[af,b8] at h4;exact h4
def pcT(pc:List Int×Int):Tr:=.tup [.tup (pc.1.map Tr.int),.int pc.2]
def boxT(w:Int)(ms:Ag)(ly:Ae):Tr:=.tup [.int w,.tup (ms.map Tr.int),.tup (ly.map pcT)]
def jHM:∀l:Ag,TsAt H (l.map Tr.int) (l.map V.int)
 |[]=>rfl
 |i::r=>⟨.int i,_,rfl,rfl,jHM r⟩
def pcs_T:∀{vs:List V}{ly:Ae},PcsAt H vs ly->TsAt H (ly.map pcT) vs
 |[],[],_=>rfl
 |v::vs,p::ps,h=>by
  obtain⟨a,q,e,h1,h2⟩:=h.1;exact⟨v,vs,rfl,⟨a,_,e,h1,.ref q,_,rfl,⟨q,_,rfl,h2,jHM _⟩,.int p.2,[],rfl,rfl,rfl⟩,pcs_T h.2⟩
 |[],_::_,h=>h.elim
 |_::_,[],h=>h.elim
def box_T{b:Addr}{w:Int}(h:BoxAt H b w ms ly):TAt H (boxT w ms ly) (.ref b):=by
 obtain⟨qm,qp,ps,b1,b2,b3,b4⟩:=h.ex;exact⟨b,_,rfl,b1,.int w,_,rfl,rfl,.ref qm,_,rfl,⟨qm,_,rfl,b2,jHM _⟩,.ref qp,[],rfl,⟨qp,_,rfl,b3,pcs_T b4⟩,rfl⟩
def jB6:∀l:Ag,deps (l.map Tr.int)=0
 |[]=>by simp[deps]
 |i::r=>by simp[deps,dep,jB6 r]
theorem jKU:∀l:Ae,deps (l.map pcT)<=2
 |[]=>by simp[deps]
 |p::r=>by
  have:=jKU r;simp only[aW,deps,pcT,dep,jB6];lia
theorem jV7(w:Int)(ms:Ag)(ly:Ae):dep (boxT w ms ly)<=4:=by
 have:=jKU ly;simp only[boxT,dep,deps,jB6];lia
def iteN{A B:Prop}{c:Bool}(hc:c=false)(h:B):if c=true then A else B:=by
 rw[hc];exact iteF h
abbrev leI:Int->Int->Bool:=λa b=>decide (a<=b)
def srt(l:Ag):Ag:=l.mergeSort leI
def jDH(l:Ag):(srt l).Perm l:=kf _ _
def jS2(l:Ag):(srt l).Pairwise (· <= ·):=by
 have:=iY (le:=leI) (λa b c h1 h2=>ay (cQ (aP h1) (aP h2))) (λa b=>by
  rw[ji];rcases Int.le_total a b with h|h
  .exact .inl (ay h)
  .exact .inr (ay h)) l
 exact this.imp λh=>aP h
def jGP{l m:Ag}(h1:m.Pairwise (· <= ·))(h2:m.Perm l):m=srt l:=
 List.Perm.eq_of_pairwise (λa b _ _ h1 h2=>Int.le_antisymm h1 h2) h1 (jS2 l) (h2.trans (jDH l).symm)
def jS3{l:Ag}(h:l.Pairwise (· <= ·)):srt l=l:=(jGP h (.refl _)).symm
theorem jMY{a b:Ag}(ra:a.Pairwise (· < ·))(rb:b.Pairwise (· < ·))(h:∀x,x∈a↔x∈b):a=b:=by
 have na:a.Nodup:=ra.imp λ{a b} h=>by lia
 have nb:b.Nodup:=rb.imp λ{a b} h=>by lia
 have pm:a.Perm b:=(List.perm_ext_iff_of_nodup na nb).mpr h;rw[jGP (ra.imp λ{a b} h=>by lia) pm,jS3 (rb.imp λ{a b} h=>by lia)]
def plcs(ts lot:Ag):Ag:=(lot.filter λt=>decide (t∈ts)).map λt=>((ts.idxOf t:Nat):Int)
def nmd(ts lot:Ag):Ag:=srt (plcs ts lot)
def jJX(ts lot:Ag):(plcs ts lot).length<=lot.length:=by
 unfold plcs;rw[af];exact bB _ _
def pick(ts:Ag)(ly:Ae)(ks:Ag):Ae:=ks.map λk=>(nmd ts (jK ly k),(ly.getD k.toNat ([],0)).2)
def plKv(ts:Ag):List (Key×V):=(List.range ts.length).map λi=>(Sum.inl (ts.getD i 0),V.int (i:Int))
def jPY(ts:Ag):(plKv ts).length=ts.length:=by
 unfold plKv;rw[af,b8]
def jE3(ts:Ag):(plKv ts).map (·.1)=ts.map Sum.inl:=by
 unfold plKv;rw[bN];refine gx Ad λi h1 h2=>?_;have:i<ts.length:=by simpa using h1
 simp[List.getD,this]
theorem jPZ{k:Key}{v:V}(h:(plKv ts)[i]?=some (k,v)):∃t,ts[i]?=some t/\k=Sum.inl t/\v=V.int (i:Int):=by
 unfold plKv at h;rw[aQ] at h;by_cases hi:i<ts.length
 .rw[cq hi] at h;simp only[map_some,fU,Prod.mk.injEq] at h;refine⟨ts[i],by simp[hi],?_,h.2.symm⟩;rw[<- h.1];simp[List.getD,hi]
 .rw[cU (by simp;lia)] at h;cases h
def jPM{κ:Type} [DecidableEq κ]{kvs:List (κ×V)}{k:κ}(h:k∉kvs.map (·.1)):valV kvs k=none:=by
 unfold valV;rw[List.find?_eq_none.mpr λx hx=>?_]
 .rfl
 .intro e;exact h (bh.mpr ⟨x,hx,aP e⟩)
def jRU{κ:Type} [DecidableEq κ]:∀{kvs:List (κ×V)}{i:Nat}{k:κ}{v:V},(kvs.map (·.1)).Nodup->kvs[i]?=some (k,v)->valV kvs k=some v
 |[],_,_,_,_,h=>by simp at h
 |p::r,0,k,v,_,h=>by
  simp at h;subst h;exact jBA rfl
 |p::r,i+1,k,v,nd,h=>by
  rw[aW,cg] at nd;have h:r[i]?=some (k,v):=by simpa using h
  have hm:k∈r.map (·.1):=bh.mpr ⟨_,aJ h,rfl⟩;have ne:¬p.1=k:=λe=>nd.1 (by rw[e];exact hm);have:=jRU (i:=i) nd.2 h;unfold valV at this ⊢;rw[dG,aH ne];exact this
def jH8(h:ts.Nodup):(ts.map (Sum.inl:Int->Key)).Nodup:=by
 rw[List.Nodup,bG];exact h.imp λhne e=>hne (gC e)
def jPX(nd:ts.Nodup)(t:Int):valV (plKv ts) (Sum.inl t)=if t∈ts then some (.int ((ts.idxOf t:Nat):Int)) else none:=by
 by_cases h:t∈ts
 .rw[ax h];have hi:=dN.mpr h;refine jRU (i:=ts.idxOf t) (by rw[jE3];exact jH8 nd) ?_;unfold plKv;rw[aQ,cq hi];show some (Sum.inl (ts.getD (ts.idxOf t) 0),_)=_;rw[show ts.getD (ts.idxOf t) 0=t by simp[List.getD,hi,iA]]
 .rw[aq h];refine jPM ?_;rw[jE3];intro z;obtain⟨x,hx,e⟩:=bh.mp z;exact h (gC e ▸ hx)
abbrev qG:Stmt:=(jB yE).getD 1 (.Pass ⟨0,0,0,0⟩)
abbrev jK9:Am:=["lot","places"]
theorem scNamed:NScope jK9 ["lot"] ["places"] (j6 qG):=⟨rfl,rfl,rfl,Ab,rfl,Ab,Ab,λx h=>by
 have:=bV h;revert this;have hl:∀y∈(j6 qG).names,y.2=.free->y.1= "places" :=Ab;intro m;have:=hl _ m rfl;exact this ▸ ai,Ab⟩
def jMM:List V->Sp:=λfv vs H Q _=>∃(d a:Addr) (ts lot:Ag),fv=[.ref d]/\vs=[.ref a]/\ts.Nodup/\H d=some (.dK (plKv ts))/\H a=some (.tup (lot.map V.int))/\lot.length<64/\∀r H',H' r=some (.tup ((nmd ts lot).map V.int))->Ext H H'->Q (.ref r) H'
def jWX(T:Txt mg)(hr:Room 0 (cxN P w K mg Aq jK9 "picked.<locals>.named" (j6 qG) f cd cl A Ap s H0).A): {t:TS // JSs (cxN P w K mg Aq jK9 "picked.<locals>.named" (j6 qG) f cd cl A Ap s H0) (jB qG) t}:=
 have nd:=scNamed.nd
 ⟨_,(jC (jM (kN kL gl_n T.tuple Ab (j3 (jF jHR gl_n T.sorted Ab (j3 (kU (m:=[none,some 1]) (Nc:=["thing","places"]) rfl (qO (jv 0 rfl qB)) rfl Ab Ab (jR (psc:=j6 qG)) (jO (N:=jK9) rfl rfl Ab) (λcl C fp s H=>jT (i:=0) (show (["thing","places"]:Am).Nodup by decide+kernel) rfl yZ) (λcl C fp s H=>jB3 (jXH (hu_of hr) (jv 0 rfl jZ) (jv 1 rfl yA) rfl)) (λcl C fp s H=>(jG6 (hu_of hr) (jv 1 rfl yA) (jv 0 rfl jZ) jBW)) qI) j5 jP) jP) j5 jE) jE)))⟩
theorem jQG(T:Txt mg):FnN P w K mg Aq 1 "named" "picked.<locals>.named" (jU qG) (jB qG) (j6 qG) ["lot"] ["places"] jMM:=by
 refine jSN scNamed (λfv vs H Q E h=>?_) (λcl doc pm c ctv us hl=>?_) (λA Ap s H a c cl vs fv Q E hr h=>?_)
 .obtain⟨_,_,_,_,_,rfl,_⟩:=h;rfl
 .match us,hl with
  |[u],_=>rfl
 .obtain⟨d,a,ts,lot,rfl,rfl,nd,hd,ha,hl,q⟩:=h;refine⟨_,(jWX T hr).2.h,?_⟩;refine⟨a,rfl,⟨_,SqT.of ha⟩,jBJ (xs:=lot.map V.int) (by rw[af,aN];lia) (λD j σ' H' zs=>(∃v,σ'=[v,some (.ref d)])/\Ext H H'/\H' D=some (.lst zs)/\H D=none/\zs=(plcs ts (lot.take j)).map V.int) ?_ ?_ ?_ ?_⟩
  .intro D hD;exact⟨⟨_,rfl⟩,(Ext.refl _).new hD _,j7,hD,rfl⟩
  .rintro D j σ' H' zs hD ⟨_,e,h2,_,rfl⟩;refine⟨e _ _ ha,h2,?_⟩;rw[af];have:=jJX ts (lot.take j);have:=bM j lot;lia
  .rintro D j σ' H' zs x hD hx ⟨⟨v,rfl⟩,e,h2,hn,rfl⟩;obtain⟨z,hz,rfl⟩:∃z:Int,lot[j]?=some z/\V.int z=x:=by
    rw[aQ] at hx;cases hq:lot[j]? with
    |none=>rw[hq] at hx;cases hx
    |some z=>rw[hq] at hx;cases hx;exact⟨z,rfl,rfl⟩
   have ht:plcs ts (lot.take (j+1))=plcs ts (lot.take j)++(if z∈ts then [((ts.idxOf z:Nat):Int)] else []):=by
    unfold plcs;rw[bf,hz,bS,aU];congr 1;by_cases hzz:z∈ts<;>simp[hzz]
   have hD':H' d=some (.dK (plKv ts)):=e _ _ hd;have gv:=jPX nd z;refine⟨d,_,rfl,DGet.k (k:=Sum.inl z) hD',_,rfl,?_⟩;rw[gv];by_cases hzz:z∈ts
   .rw[ax hzz] at gv ht ⊢;refine⟨d,_,rfl,by rw[<- gv];exact DGet.k (k:=Sum.inl z) hD',h2,⟨_,rfl⟩,e.updNew hn _,j7,hn,?_⟩;rw[ht,aU];rfl
   .rw[aq hzz] at gv ht ⊢;refine⟨⟨_,rfl⟩,e,h2,hn,?_⟩;rw[ht,bg]
  .rintro D σ' H' zs hD ⟨_,e,h2,hn,rfl⟩;rw[af,bq] at h2;refine⟨D,_,rfl,SqL.of h2,?_,λl ns hl hs hp=>?_⟩
   .have:=jJX ts lot;lia
   refine⟨l,_,rfl,.inl ⟨SqL.of j7,λr hr=>?_⟩⟩;refine q r _ ?_ ((e.new hl _).new hr _);rw[j7,jGP hs hp];rfl
theorem jN4(h:PcsAt H vs ly){k:Int}(h0:0<=k)(h1:k<ly.length):∃a q,atI vs k=some (.ref a)/\H a=some (.tup [.ref q,.int (ly.getD k.toNat ([],0)).2])/\H q=some (.tup ((jK ly k).map V.int)):=by
 obtain⟨v,hv,a,q,rfl,b1,b2⟩:=h.get (k:=k.toNat) Aa;refine⟨a,q,?_,b1,b2⟩;have e:((k.toNat:Nat):Int)=k:=Aa;have:=jAJ hv;rw[e] at this;exact this
abbrev jCT:Am:=["box","things","pieces","places","named"]
def scPicked:FnScope jCT ["box","things","pieces"] (j6 yE):= {}
abbrev jS9:Pos:=match qG with
 | .FunctionDef _ _ _ _ _ _ _ _ _ p=>p
 |_=>⟨0,0,0,0⟩
abbrev TabP(H:Hp)(tb:Addr):Prop:=TabOk H tb jS9 "picked.<locals>.named"
theorem jKS:∀x∈(["places"]:Am),(j6 qG).names.lookup x=some .free:=Ab
theorem jEI:FsAt (XOf jCT "picked" yE P w K mg Aq f (.ref c0) A Ap s H0 E) ["places"] [3]:=⟨rfl,λk x h=>by
 cases k with
 |zero=>cases h;exact⟨3,rfl,rfl,.inl (show (j6 yE).names.lookup ("places":Str)=some NameKind.cell by decide+kernel)⟩
 |succ k=>cases h⟩
inductive jAB(tb:Addr)(vs:List V)(H:Hp)(Q:VK)(_:XK):Prop|i(b a c:Addr)(tp tq:Bool)(w:Int)(ms:Ag)(ly:Ae)(ts ks:Ag)(_:vs=[.ref b,.ref a,.ref c])(_:BoxAt H b w ms ly)(_:AtS tp H a (ts.map V.int))(_:AtS tq H c (ks.map V.int))(_:ts.Nodup)(_:ts.length<=100)(_:ms.length<64)(_:(∀p∈ly,p.1.length<64))(_:(∀k∈ks,0<=k/\k<ly.length))(_:ks.length<=1000)(_:TabP H tb)(_:∀r H',BoxAt H' r ts.length (nmd ts ms) (pick ts ly ks)->ExtT tb H H'->TabP H' tb->Q (.ref r) H')
def jTF(T:Txt mg)(CH:PySem.W.CodeHd Aq c0 tb)(BM:qZ Aq mg)(FN:FnN P w K mg Aq 1 "named" "picked.<locals>.named" (jU qG) (jB qG) (j6 qG) ["lot"] ["places"] jMM)(hr:Room 1 (XOf jCT "picked" yE P w K mg Aq f (.ref c0) A Ap s H0 E).A): {t:TS // JSs (XOf jCT "picked" yE P w K mg Aq f (.ref c0) A Ap s H0 E) (jB yE) t}:=
 have nd:=scPicked.nd
 ⟨_,(j9 (jX (i:=3) nd rfl loc_c (kN (jLU rfl) gD T.dict Ab (j3 (kU (m:=[none,none]) (Nc:=["place","thing"]) rfl (jJ3 gD T.enumerate (j3 (jv 1 rfl vL) j5 j4) j4) rfl Ab Ab (jR (psc:=j6 yE)) (jO (N:=jCT) rfl rfl Ab) (λcl C fp s H=>jB4 (i:=0) (j:=1) rfl (show (["place","thing"]:Am).Nodup by decide+kernel) rfl rfl Ab Ab) (λcl C fp s H=>yK) (λcl C fp s H=>(kD (j3 (jv 1 rfl jZ) (j3 (jv 0 rfl jZ) j5 j4) j4))) kW) j5 jP) jP) jL)
   (j9 (jSI (j:=4) nd rfl loc_c rfl CH BM (jR (psc:=j6 yE)) rfl rfl)
   (jC (jM (kD (j3 (jF jH gD T.len Ab (j3 (jv 1 rfl vL) j5 j4) j4) (j3 (jUQ (j:=4) FN hr rfl vC (jR (psc:=j6 yE)) jKS jEI (j3 (jI jG (jv 0 rfl vC) (je_int) jD) j5 jJ) jJ) (j3 (kN kL gD T.tuple Ab (j3 (jR4 (m:=[none,some 4,some 0]) (Nc:=["piece","named","box"]) rfl (jXG (jv 2 rfl vL)) rfl Ab Ab (jR (psc:=j6 yE)) (jO (N:=jCT) rfl rfl Ab) (λcl C fp s H=>jT (i:=0) (show (["piece","named","box"]:Am).Nodup by decide+kernel) rfl yZ) (λcl C fp s H=>yK) (λcl C fp s H lw σ I0 hfp=>(kD (j3 (jR1 (j:=1) I0 hfp FN hr rfl yA (jR (psc:=j6 yE)) jKS jEI (j3 (jI yO (jI yO (jI yO (jv 2 rfl yA) (je_int) jD) (jv 0 rfl jZ) jBW) (je_int) jD) j5 jJ) jJ) (j3 (jI yO (jI yO (jI yO (jv 2 rfl yA) (je_int) jD) (jv 0 rfl jZ) jBW) (je_int) jD) j5 jJ) jE))) qI) j5 jP) jP) j5 jE) jE) jE))))))⟩
theorem jND(F:FunC K "picked" "picked" yE f fd c0)(T:Txt mg)(CH:PySem.W.CodeHd Aq c0 tb)(BM:qZ Aq mg):FnOk P w K mg Aq CX0 2 f fd ["box","things","pieces"] (jAB tb):=by
 refine F.ok scPicked (λvs H Q E h=>?_) (λA Ap s H vs Q E hr h=>?_)
 .obtain⟨_,_,_,_,_,_,_,_,_,_,rfl,_⟩:=h;rfl
 .obtain⟨b,a,c,tp,tq,w,ms,ly,ts,ks,rfl,hB,ha,hc,nd,lts,lms,lpc,hks,lks,tab,q⟩:=h;refine⟨_,(jTF T CH BM (jQG T) hr).2.h,?_⟩;obtain⟨qm,qp,ps,b1,b2,b3,b4⟩:=id hB.ex;have pl:=b4.len;refine⟨tp,a,rfl,⟨_,ha.sq⟩,jHP (xs:=ts.map V.int) (by rw[af,aN];lia) (λD j σ' H' zs=>(∃v v',σ'=[v,v'])/\Ext H H'/\H' D=some (.lst zs)/\H D=none/\zs.length=j/\∀i,i<j->∃r:Addr,zs[i]?=some (V.ref r)/\H' r=some (.tup [.int (ts.getD i 0),.int (i:Int)])) ?_ ?_ ?_ ?_⟩
  .intro D hD;exact⟨⟨_,_,rfl⟩,(Ext.refl _).new hD _,j7,hD,rfl,λi hi=>absurd hi (d0 _)⟩
  .rintro D j σ' H' zs hD ⟨_,e,h2,_,hl,_⟩;exact⟨(ha.ext e).sq,h2,Aa⟩
  .rintro D j σ' H' zs x X hD hx hX ⟨⟨v,v',rfl⟩,e,h2,hn,hl,hz⟩;obtain⟨z,hz1,rfl⟩:∃z:Int,ts[j]?=some z/\V.int z=x:=by
    rw[aQ] at hx;cases hq:ts[j]? with
    |none=>rw[hq] at hx;cases hx
    |some z=>rw[hq] at hx;cases hx;exact⟨z,rfl,rfl⟩
   have hgd:ts.getD j 0=z:=by rw[aB,hz1];rfl
   refine⟨X,_,rfl,SqT.of j7,rfl,_,_,rfl,_,_,rfl,rfl,?_⟩;dsimp only[kT,qC];rw[ax rfl];refine⟨by show (2:Nat)<=_;decide,λr H2 d2 e2=>?_⟩;have e1:Ext H' (L2.upd H' X (.tup [.int (j:Int),.int z])):=(Ext.refl _).new hX _;have hD2:H2 D=some (.lst zs):=e2 _ _ (e1 _ _ h2);have rD:r≠D:=λz=>by rw[z,hD2] at d2;cases d2
   refine⟨hD2,⟨_,_,rfl⟩,((e.trans e1).trans e2).updNew hn _,j7,hn,by rw[ak,hl];rfl,λi hi=>?_⟩;by_cases hij:i=j
   .subst hij;refine⟨r,?_,?_⟩
    .rw[be Aa,hl,fY];rfl
    .rw[j8 rD,d2,hgd]
   .obtain⟨r',z1,z2⟩:=hz i Aa;have z3:=e2 _ _ (e1 _ _ z2);refine⟨r',?_,?_⟩
    .rw[bK Aa];exact z1
    .rw[j8 (λy=>by rw[y,hD2] at z3;cases z3)];exact z3
  .rintro D σ' H1 zs hD ⟨_,e1,h2,hn,hl,hz⟩;rw[af] at hl hz;refine⟨D,zs,plKv ts,rfl,h2,by rw[jPY];exact hl,λi k v hk=>?_,by rw[jE3];exact jH8 nd,λd hd=>?_⟩
   .obtain⟨t,z1,rfl,rfl⟩:=jPZ hk;obtain⟨r,z2,z3⟩:=hz i (aj.mp z1).1;refine⟨r,z2,?_⟩;rw[z3];show _=some (HO.tup [V.int t,V.int (i:Int)]);rw[aB,z1];rfl
   have e2:Ext H (L2.upd H1 d (.dK (plKv ts))):=e1.new hd _;have d2:(L2.upd H1 d (.dK (plKv ts))) d=some (.dK (plKv ts)):=j7;generalize L2.upd H1 d (.dK (plKv ts))=H2 at e2 d2;refine⟨tab.ext e2,λfa fc H3 k1 k2 k3 k4 k5=>?_⟩;have tab3:TabP H3 tb:=.inr ⟨fc,k3,k2⟩;have E3:ExtT tb H H3:=(ExtT.of e2).trans k4;have B1:=E3.at tab b1;have B2:=E3.at tab b2;have B3:=E3.at tab b3;have dd:=k4.at (tab.ext e2) d2;have aa:=E3.seq tab ha;have cc:=E3.seq tab hc;refine⟨a,_,rfl,aa.or,?_⟩;refine⟨fa,rfl,b,_,1,_,rfl,rfl,SqT.of B1,rfl,fc,[.ref d],k1,k2,rfl,d,qm,ts,ms,rfl,rfl,nd,dd,B2,lms,λr1 H4 d4 e4=>?_⟩;refine jRJ (tp:=tq) (xs:=ks.map V.int) (cc.ext e4) (λQ h=>h) (by rw[af,aN];lia) (λD j σ' H' zs=>(∃v,σ'=[v,some (.ref fa),some (.ref b)])/\Ext H4 H'/\H' D=some (.lst zs)/\H4 D=none/\PcsAt H' zs (pick ts ly (ks.take j))) ?_ ?_ ?_ ?_
   .intro D hD;exact⟨⟨_,rfl⟩,(Ext.refl _).new hD _,j7,hD,trivial⟩
   .rintro D j σ' H' zs hD ⟨_,e,h2,_,pz⟩;refine⟨cc.ext (e4.trans e),h2,?_⟩;rw[pz.len];unfold pick;rw[af];exact bM _ _
   .rintro D j σ' H' zs x hD hx ⟨⟨v,rfl⟩,e,h2,hn,pz⟩;obtain⟨k,hk,rfl⟩:∃z:Int,ks[j]?=some z/\V.int z=x:=by
     rw[aQ] at hx;cases hq:ks[j]? with
     |none=>rw[hq] at hx;cases hx
     |some z=>rw[hq] at hx;cases hx;exact⟨z,rfl,rfl⟩
    have hkb:=hks k (aJ hk);have e34:=e4.trans e;obtain⟨pa,pq,g1,g2,g3⟩:=jN4 b4 hkb.1 hkb.2;have g2':=e34 _ _ (E3.at tab g2);have g3':=e34 _ _ (E3.at tab g3);have hlen:(jK ly k).length<64:=by
     unfold jK;rw[jJ8 Aa];exact lpc _ (cK _)
    dsimp only[kT,qC];rw[ax rfl];refine⟨fa,rfl,b,_,2,_,rfl,rfl,SqT.of (e34 _ _ B1),rfl,qp,_,k,_,rfl,rfl,SqT.of (e34 _ _ B3),g1,pa,_,0,_,rfl,rfl,SqT.of g2',rfl,fc,[.ref d],e34 _ _ k1,e34 _ _ k2,rfl,d,pq,ts,jK ly k,rfl,rfl,nd,e34 _ _ dd,g3',hlen,λr2 H5 d5 e5=>?_⟩;have e35:=e34.trans e5;refine⟨b,_,2,_,rfl,rfl,SqT.of (e35 _ _ B1),rfl,qp,_,k,_,rfl,rfl,SqT.of (e35 _ _ B3),g1,pa,_,1,_,rfl,rfl,SqT.of (e5 _ _ g2'),rfl,by show (2:Nat)<=_;decide,λr3 H6 d6 e6=>?_⟩;have hD6:H6 D=some (.lst zs):=e6 _ _ (e5 _ _ h2);refine⟨hD6,⟨_,rfl⟩,((e.trans e5).trans e6).updNew hn _,j7,hn,?_⟩;have ez:pick ts ly (ks.take (j+1))=pick ts ly (ks.take j)++[(nmd ts (jK ly k),(ly.getD k.toNat ([],0)).2)]:=by
     unfold pick;rw[bf,hk,aU];rfl
    rw[ez];exact PcsAt.mono (Tups.upd hD6 _) (PcsAt.snoc (p:=(nmd ts (jK ly k),(ly.getD k.toNat ([],0)).2)) ⟨r3,r2,rfl,d6,e6 _ _ d5⟩ (pz.mono (e5.trans e6).tups))
   .rintro D σ' H5 zs hD ⟨_,e5,h5,hn5,pz⟩;rw[af,bq] at pz;refine⟨D,_,rfl,.inl ⟨SqL.of h5,λl hl=>?_⟩⟩;have e6:Ext H5 (L2.upd H5 l (.tup zs)):=(Ext.refl _).new hl _;have d6:(L2.upd H5 l (.tup zs)) l=some (.tup zs):=j7;generalize L2.upd H5 l (.tup zs)=H6 at e6 d6;refine⟨by show (3:Nat)<=_;decide,λr H7 d7 e7=>?_⟩;have e47:=(e5.trans e6).trans e7;refine q r H7 ⟨r1,l,zs,?_,e47 _ _ d4,e7 _ _ d6,pz.mono (e6.trans e7).tups⟩ (E3.trans (ExtT.of (e4.trans e47))) (tab3.ext (e4.trans e47));rw[d7,af]
theorem jBY{n:Int}{ks:Ag}(h:ks.Pairwise (· < ·))(hb:∀k∈ks,0<=k/\k<n):lotB n (.tup (ks.map Ob.int))=true:=by
 have hv:(ks.map Ob.int).map val=ks:=by rw[bN];exact iK _
 show ((ks.map Ob.int).all (upB 0 (n-1))&&(adj ((ks.map Ob.int).map val)).all id)=true;rw[hv,bC,cj,cj];refine⟨λx hx=>?_,λx hx=>?_⟩
 .obtain⟨k,hk,rfl⟩:=bh.mp hx;have:=hb k hk;show (decide (0<=k)&&decide (k<=n-1))=true;rw[ay Aa,ay Aa];rfl
 .unfold adj at hx;obtain⟨i,hi,rfl⟩:=bh.mp hx;have hi:=bR.mp hi;refine ay ?_;rw[jJ8 Aa,jJ8 Aa];exact bY.mp h i (i+1) Aa Aa Aa
def jOU{p:α->Bool}{l:List α}{x:α}(h:l[i]?=some x):(l.take (i+1)).filter p=(l.take i).filter p++(if p x=true then [x] else []):=by
 rw[bf,h,bS];congr 1;rw[Option.toList,dU];split<;>rfl
theorem jEV(n:Nat):(upto n).Nodup:=(yL n).ris.imp λh=>by lia
theorem yG{w:Int}(h:ts.Pairwise (· < ·))(b:∀z∈ts,0<=z/\z<w)(hw:w<=16):ts.length<=16:=by
 have:=jE0 ts 0 w h b;lia
theorem jL3{w:Int}(g:Good 16 32 w ms ly){k:Int}(h0:0<=k)(h1:k<ly.length):(jK ly k).length<=16:=by
 have:=g.at (k:=k.toNat) Aa;exact yG this.lot.ris this.lot.bnd g.w1
theorem jOL{K:W.Frag}{m:List (Option Nat)}{σ:St}{H:Hp}{Q:VK}{q t:Addr}{tp:Bool}{lot ts:Ag}(hq:H q=some (.tup (lot.map V.int)))(ht:AtS tp H t (ts.map V.int))(hl:lot.length<=1000)(h0:blkσ m σ=[none,some (.ref t)])
  (k:∀D H',H' D=some (.lst ((lot.map λx=>decide (x∈ts)).map V.bl))->Ext H H'->H D=none->Q (.ref D) H'):qX m (kT 0) qC (tOp (rIn K false) (tVar 0) (tVar 1)) σ Q (Itt K q) H:=by
 refine jBJ (xs:=lot.map V.int) (by rw[af,aN];lia) (λD j σ' H' zs=>(∃v,σ'=[v,some (.ref t)])/\Ext H H'/\H' D=some (.lst zs)/\H D=none/\zs=((lot.take j).map λx=>decide (x∈ts)).map V.bl) ?_ ?_ ?_ ?_
 .intro D hD;exact⟨⟨_,h0⟩,(Ext.refl _).new hD _,j7,hD,rfl⟩
 .rintro D j σ' H' zs hD ⟨_,e,h2,_,rfl⟩;refine⟨e _ _ hq,h2,?_⟩;rw[af,af];exact bM _ _
 .rintro D j σ' H' zs x hD hx ⟨⟨v,rfl⟩,e,h2,hn,rfl⟩;obtain⟨z,hz,rfl⟩:∃z:Int,lot[j]?=some z/\V.int z=x:=by
   rw[aQ] at hx;cases hq:lot[j]? with
   |none=>rw[hq] at hx;cases hx
   |some z=>rw[hq] at hx;cases hx;exact⟨z,rfl,rfl⟩
  dsimp only[kT,qC];rw[ax rfl];refine⟨t,_,rfl,(ht.ext e).or,rfl,jAA _,h2,⟨_,rfl⟩,e.updNew hn _,j7,hn,?_⟩;have:lot.take (j+1)=lot.take j++[z]:=by
   rw[bf,hz];rfl
  rw[this,aU,aU];show _++[V.bl (inV (.int z) (ts.map V.int))]=_;rw[jAU];rfl
 .rintro D σ' H' zs hD ⟨_,e,h2,hn,rfl⟩;rw[af,bq] at h2;exact k D H' h2 e hn
def jXT{p:Int->Bool}:(lot.map p).all id=lot.all p:=by rw[all_map];rfl
def jXS{p:Int->Bool}:(lot.map p).any id=lot.any p:=by rw[any_map];rfl
theorem pc_lt{w:Int}(g:Good 16 32 w ms ly):∀p∈ly,p.1.length<64:=λp hp=>by
 have:=g.pg p hp;have:=yG this.lot.ris this.lot.bnd g.w1;lia
theorem jXK(h:ts.Pairwise (· < ·)){a b:Int}(ha:a∈ts)(hb:b∈ts)(hab:a<b):ts.idxOf a<ts.idxOf b:=by
 have ia:=dN.mpr ha;have ib:=dN.mpr hb;have ea:=iA ia;have eb:=iA ib;rcases iC (ts.idxOf a) (ts.idxOf b) with q|q|q
 .exact q
 .exfalso;have e2:ts[ts.idxOf a]=ts[ts.idxOf b]:=by congr 1
  lia
 .exfalso;have:=bY.mp h _ _ ib ia q;lia
theorem jJW(h:ts.Pairwise (· < ·))(hl:lot.Pairwise (· < ·)):(plcs ts lot).Pairwise (· < ·):=by
 unfold plcs;rw[bG];refine ff (R:=λa b=>a<b) (λ{a b} ha hb hab=>?_) (hl.sublist List.filter_sublist);have:=jXK h (aP (bv.mp ha).2) (aP (bv.mp hb).2) hab;lia
theorem jFW{ts lot:Ag}(h:ts.Pairwise (· < ·))(hl:lot.Pairwise (· < ·)):nmd ts lot=plcs ts lot:=jS3 ((jJW h hl).imp λh=>by lia)
def jJY(h:∀t∈lot,t∈ts):plcs ts lot=lot.map λt=>((ts.idxOf t:Nat):Int):=by
 unfold plcs;rw[gZ.mpr λt ht=>ay (h t ht)]
theorem mem_upto{t:Int}:t∈upto n↔0<=t/\t<n:=by
 constructor
 .exact λh=>(yL n).bnd t h
 .intro h;unfold upto;exact bh.mpr ⟨t.toNat,bR.mpr Aa,Aa⟩
noncomputable abbrev nMask:Am:=["lot"]
def scMask:FnScope nMask ["lot"] (j6 sMask):= {}
inductive jGR(vs:List V)(H:Hp)(Q:VK)(_:XK):Prop|i(q:Addr)(ts:Ag)(_:vs=[.ref q])(_:H q=some (.tup (ts.map V.int)))(_:(∀t∈ts,0<=t/\t<64))(_:ts.length<=64)(_:∀H',Ext H H'->Q (.int ((maskN ts:Nat):Int)) H')
def maskA(T:Txt mg): {t:TS // JSs (XOf nMask "mask_of" sMask P w K mg Aq f cdv A Ap s H0 E) (jB sMask) t}:=
 have nd:=scMask.nd
 ⟨_,(jC (jM (jF (jHQ rfl) gD T.sum Ab (j3 (kU (m:=[none]) (Nc:=["thing"]) rfl (qO (jv 0 rfl vL)) rfl Ab Ab (jR (psc:=j6 sMask)) (jO (N:=nMask) rfl rfl Ab) (λcl C fp s H=>jT (i:=0) (show (["thing"]:Am).Nodup by decide+kernel) rfl yZ) (λcl C fp s H=>yK) (λcl C fp s H=>(kR jH5 (je_int) (jv 0 rfl jZ))) qI) j5 jP) jP)))⟩
theorem jLH(ts:Ag)(h:∀t∈ts,0<=t):(ts.map λt=>(1:Int)*2^t.toNat).sum=((maskN ts:Nat):Int):=by
 induction ts with
 |nil=>rfl
 |cons t r ih=>
  have e:maskN (t::r)=2^t.toNat+maskN r:=by simp[maskN]
  rw[aW,iR,ih λx hx=>h x (ag _ hx),e];push_cast;lia
theorem jU2(F:Fun K "mask_of" "mask_of" sMask f fd)(T:Txt mg):FnOk P w K mg Aq CX0 1 f fd ["lot"] jGR:=by
 refine F.ok scMask (λvs H Q E h=>?_) (λcdv A Ap s H vs Q E hr h=>?_)
 .obtain⟨_,_,rfl,_⟩:=h;rfl
 .obtain⟨q,ts,rfl,hq,hb,hl,k⟩:=h;refine⟨_,(maskA T).2.h,?_⟩;refine⟨q,rfl,⟨_,SqT.of hq⟩,jBJ (xs:=ts.map V.int) (by rw[af,aN];lia) (λD i σ' H' zs=>(∃v,σ'=[v])/\Ext H H'/\H' D=some (.lst zs)/\H D=none/\zs=((ts.take i).map λt=>(1:Int)*2^t.toNat).map V.int) ?_ ?_ ?_ ?_⟩
  .intro D hD;exact⟨⟨_,rfl⟩,(Ext.refl _).new hD _,j7,hD,rfl⟩
  .rintro D i σ' H' zs hD ⟨_,e,h2,_,rfl⟩;refine⟨e _ _ hq,h2,?_⟩;rw[af,af,bi];lia
  .rintro D i σ' H' zs x hD hx ⟨⟨v,rfl⟩,e,h2,hn,rfl⟩;obtain⟨z,hz,rfl⟩:∃z:Int,ts[i]?=some z/\V.int z=x:=by
    rw[aQ] at hx;cases hq:ts[i]? with
    |none=>rw[hq] at hx;cases hx
    |some z=>rw[hq] at hx;cases hx;exact⟨z,rfl,rfl⟩
   have hzb:=hb z (aJ hz);dsimp only[kT,qC];rw[ax rfl];refine⟨_,_,rfl,rfl,⟨?_,?_,?_⟩,h2,⟨_,rfl⟩,e.updNew hn _,j7,hn,?_⟩
   .first|lia|decide
   .first|lia|decide
   .first|lia|decide
   .have:ts.take (i+1)=ts.take i++[z]:=by
     rw[bf,hz];rfl
    rw[this,aU,aU];rfl
  .rintro D σ' H' zs hD ⟨_,e,h2,hn,rfl⟩;refine⟨D,_,rfl,SqL.of h2,?_⟩;rw[af,bq,jLH ts λt ht=>(hb t ht).1];exact k H' e
end Eo
namespace L2
open PySem
variable {b:Expr}{pos:Pos}
def jHI{X:Cx}{a c:Expr}{ta tb:TE}{tc:TT}(hc:JT X c tc)(ha:JE X a ta)(hb:JE X b tb):JE X (.IfExp c a b pos) (tIf tc ta tb):=⟨jQ6 hc.h ha.h hb.h⟩
def jS1{a c:Expr}{o:Option Expr}:SwOk (.IfExp c a b pos) o:=⟨λ_ _=>rfl⟩
def jVV{a c:Expr}{es:List Expr}{env:Env}:starEach (.IfExp c a b pos::es) env=(false,eval (.IfExp c a b pos) env)::starEach es env:=rfl
end L2
namespace Eo
open PySem L2
variable {fd:FuncData}{L:Addr}{t:Nat}
def PrAt(H:Hp)(v:V)(c:Int×Nat):Prop:=∃q,v=.ref q/\H q=some (.tup [.int c.1,.int ((c.2:Nat):Int)])
def PrAt.mono(t:Tups H H'){v:V}{c:Int×Nat}(h:PrAt H v c):PrAt H' v c:=let ⟨q,e,z⟩:=h;⟨q,e,t _ _ z⟩
def RowAt(H:Hp)(l:Addr)(cs:List (Int×Nat)):Prop:=∃vs,H l=some (.lst vs)/\All2 (PrAt H) vs cs
structure ChAt (H:Hp)(L:Addr)(ch:Ch):Prop where
 ex:∃ls:List Addr,H L=some (.lst (ls.map V.ref))/\ls.Nodup/\All2 (RowAt H) ls ch
def RowAt.keep{cs:List (Int×Nat)}(h:RowAt H l cs)(k:∀xs,H l=some (.lst xs)->H' l=some (.lst xs))(t:Tups H H'):RowAt H' l cs:=let ⟨vs,a,b⟩:=h;⟨vs,k _ a,b.imp λ_ _=>PrAt.mono t⟩
def ChAt.keep{ch:Ch}(h:ChAt H L ch)(k:∀b xs,H b=some (.lst xs)->H' b=some (.lst xs))(t:Tups H H'):ChAt H' L ch:=by
 obtain⟨ls,a,b,c⟩:=h.ex;exact⟨ls,k _ _ a,b,c.imp λl cs r=>r.keep (k l) t⟩
def ChAt.ext{ch:Ch}(h:ChAt H L ch)(e:Ext H H'):ChAt H' L ch:=h.keep (λb xs z=>e _ _ z) e.tups
def ChAt.len{ch:Ch}(h:ChAt H L ch):∃ls:List Addr,H L=some (.lst (ls.map V.ref))/\ls.length=ch.length:=by
 obtain⟨ls,a,b,c⟩:=h.ex;exact⟨ls,a,c.len⟩
def qU(ms:Ag)(ly:Ae)(n t:Nat):List (Int×Nat):=
 (if (t:Int)∈ms then [(-1,2^t)] else [])++(((upto ly.length).take n).filter λk=>decide ((jK ly k).headD 0=(t:Int))).map λk=>(k,maskN (jK ly k))
def chsN(w:Nat)(ms:Ag)(ly:Ae)(n:Nat):Ch:=(List.range w).map (qU ms ly n)
def chs(w:Nat)(ms:Ag)(ly:Ae):Ch:=chsN w ms ly ly.length
def jA6(w:Nat)(ms:Ag)(ly:Ae)(n:Nat):(chsN w ms ly n).length=w:=by
 unfold chsN;rw[af,b8]
def jAC{w:Nat}(h:t<w):(chsN w ms ly n)[t]?=some (qU ms ly n t):=by
 unfold chsN;rw[aQ,cq h];rfl
def jHB{ts:Ag}(hp:ts.Pairwise (· < ·))(h0:∀x∈ts,0<=x)(h:(t:Int)∈ts):(maskN ts).testBit t=true:=by
 rw[jE8 ts t hp h0,ay h]
theorem jIX{ts:Ag}{w:Nat}(hp:ts.Pairwise (· < ·))(h0:∀x∈ts,0<=x/\x<(w:Int)):maskN ts<2^w:=by
 refine Nat.lt_pow_two_of_testBit _ λi hi=>?_;rw[jE8 ts i hp λx hx=>(h0 x hx).1,aH];intro z;have:=(h0 _ z).2;lia
def jR8{l:Ag}(h:l≠[]):l.headD 0∈l:=by
 cases l with
 |nil=>exact absurd rfl h
 |cons a r=>exact ai ..
theorem jFC{w:Int}(g:Good 16 32 w ms ly):ChOk (chsN w.toNat ms ly n):=by
 have w0:=g.w0;have w1:=g.w1;have gpl:=g.pl;refine⟨by rw[jA6];lia,λt cs h=>?_,λt cs h c hc=>?_⟩
 .have ht:t<w.toNat:=by
   have:=(aj.mp h).1
   rwa [jA6] at this
  rw[jAC ht] at h;cases h;unfold qU;rw[ak,af];have:=bB (λk=>decide ((jK ly k).headD 0=(t:Int))) ((upto ly.length).take n);have:=bM n (upto ly.length);have:=yD ly.length;have:((upto ly.length).take n).length<=(upto ly.length).length:=by rw[bi];lia
  split<;>simp only[aV,cE]<;>lia
 .have ht:t<w.toNat:=by
   have:=(aj.mp h).1
   rwa [jA6] at this
  rw[jAC ht] at h;cases h;unfold qU at hc;rw[jA6];rcases aM.mp hc with hc|hc
  .split at hc
   .rw[aF] at hc;subst hc;exact⟨by simp[ke],jx Ac ht,by show (-1:Int)<= -1;decide,by show (-1:Int)<32;decide⟩
   .cases hc
  .obtain⟨k,hk,rfl⟩:=bh.mp hc;obtain⟨hk1,hk2⟩:=bv.mp hk;have kb:=(yL ly.length).bnd k (bP hk1);have gp:=g.at (k:=k.toNat) Aa;have hk2:=aP hk2;have hne:jK ly k≠[]:=gp.lot.ne;have hm:(t:Int)∈jK ly k:=by
    rw[<- hk2];exact jR8 hne
   exact⟨jHB gp.lot.ris (λx hx=>(gp.lot.bnd x hx).1) hm,jIX gp.lot.ris λx hx=>⟨(gp.lot.bnd x hx).1,by have:=(gp.lot.bnd x hx).2;lia⟩,Aa,Aa⟩
abbrev jBE:Am:=["box","choices","number","piece"]
def scChoices:FnScope jBE ["box"] (j6 yN):= {}
inductive jAK(vs:List V)(H:Hp)(Q:VK)(_:XK):Prop|i(b:Addr)(w:Int)(ms:Ag)(ly:Ae)(_:vs=[.ref b])(_:BoxAt H b w ms ly)(_:Good 16 32 w ms ly)(_:∀r H',ChAt H' r (chs w.toNat ms ly)->Ext H H'->Q (.ref r) H')
def jV5(T:Txt mg)(CM:Can P w K mg Aq "mask_of" 1 fM fdM ["lot"] jGR)(hr:Room 1 (XOf jBE "choices_of" yN P w K mg Aq f cdv A Ap s H0 E).A): {t:TS // JSs (XOf jBE "choices_of" yN P w K mg Aq f cdv A Ap s H0 E) (yU ((jB yN).getD 1 (.Pass ⟨0,0,0,0⟩))) t}:=
 have nd:=scChoices.nd
 ⟨_,(jC (kP (je_bm cw dO dP jB1 (jI jB5 (jv 1 rfl vL) (jI jG (jI jG (jv 3 rfl vL) (je_int) jD) (je_int) jD) jVZ) (j3 (kD (j3 (jv 2 rfl vL) (j3 (CM.je hr gD (j3 (jI jG (jv 3 rfl vL) (je_int) jD) j5 jJ) jJ) j5 jE) j4)) j5 yB) yB) jL))⟩
def jRK(T:Txt mg)(CM:Can P w K mg Aq "mask_of" 1 fM fdM ["lot"] jGR)(hr:Room 1 (XOf jBE "choices_of" yN P w K mg Aq f cdv A Ap s H0 E).A): {t:TS // JSs (XOf jBE "choices_of" yN P w K mg Aq f cdv A Ap s H0 E) (jB yN) t}:=
 have nd:=scChoices.nd
 ⟨_,(j9 (jUP (i:=1) nd rfl lL ⟨by rfl⟩ (m:=[none,some 0]) (Nc:=["thing","box"]) rfl (yC gD T.range (j3 (jI jG (jv 0 rfl vC) (je_int) jD) j5 jJ) jJ) rfl Ab Ab (jR (psc:=j6 yN)) (jO (N:=jBE) rfl rfl Ab) (λcl C fp s H=>jT (i:=0) (show (["thing","box"]:Am).Nodup by decide+kernel) rfl yZ) (λcl C fp s H=>yK) (λcl C fp s H=>(jHI (jY jFU (jv 0 rfl jZ) (jI yO (jv 1 rfl yA) (je_int) jD) jH9) (jC0 (j3 (kD (j3 (je_un jM4 (je_int)) (j3 (kR jH5 (je_int) (jv 0 rfl jZ)) j5 y0) se_un)) j5 yB)) (jC0 j5))) kW) (j9 (qH bJ rfl (jJ3 gD T.enumerate (j3 (jI jG (jv 0 rfl vC) (je_int) jD) j5 jJ) jJ) (jCD (i:=2) (j:=3) nd rfl rfl Ab Ab) (jV5 T CM hr).2 kW) (jC (jM (jv 1 rfl vL)))))⟩
noncomputable abbrev nFull:Am:=["choices"]
def scFull:FnScope nFull ["choices"] (j6 sFull):= {}
inductive jF1(vs:List V)(H:Hp)(Q:VK)(_:XK):Prop|i(L:Addr)(ch:Ch)(_:vs=[.ref L])(_:ChAt H L ch)(_:ch.length<=16)(_:Q (.int ((fullN ch:Nat):Int)) H)
def fullA(T:Txt mg): {t:TS // JSs (XOf nFull "full_mask" sFull P w K mg Aq f cdv A Ap s H0 E) (jB sFull) t}:=
 have nd:=scFull.nd
 ⟨_,(jC (jM (kR jBQ (kR jH5 (je_int) (jF jH gD T.len Ab (j3 (jv 0 rfl vL) j5 j4) j4)) (je_int))))⟩
noncomputable abbrev nAt:Am:=["choices","mask","least_lacked"]
def scAt:FnScope nAt ["choices","mask"] (j6 sAt):= {}
inductive spAt(vs:List V)(H:Hp)(Q:VK)(_:XK):Prop|i(L:Addr)(ch:Ch)(m:Nat)(_:vs=[.ref L,.int (m:Int)])(_:ChAt H L ch)(_:ChOk ch)(_:m<2^ch.length)(_:m≠fullN ch)(_:∀r H',RowAt H' r (chAt ch m)->Ext H H'->H r=none->Q (.ref r) H')
def atA(T:Txt mg): {t:TS // JSs (XOf nAt "choices_at" sAt P w K mg Aq f cdv A Ap s H0 E) (jB sAt) t}:=
 have nd:=scAt.nd
 ⟨_,(j9 (jX (i:=2) nd rfl lL (kR jBQ (jKO i9 g7 g8 jNW (kR jK3 (je_un jVL (jv 1 rfl vC)) (kR yF (jv 1 rfl vC) (je_int)))) (je_int)) jMH)
   (jC (jM (kU (m:=[none,some 1]) (Nc:=["choice","mask"]) rfl (jAT (jI jB5 (jv 0 rfl vL) (jv 2 rfl vL) jBW)) rfl Ab Ab (jR (psc:=j6 sAt)) (jO (N:=nAt) rfl rfl Ab) (λcl C fp s H=>jT (i:=0) (show (["choice","mask"]:Am).Nodup by decide+kernel) rfl yZ) (λcl C fp s H=>jB3 (jY qJ (kR jK3 (jI yO (jv 0 rfl jZ) (je_int) jD) (jv 1 rfl yA)) (je_int) (jQ _))) (λcl C fp s H=>(jv 0 rfl jZ)) jHN))))⟩
def jFD(ms:Ag)(ly:Ae)(t:Nat):qU ms ly 0 t=if (t:Int)∈ms then [(-1,2^t)] else []:=by
 unfold qU;rw[eQ];simp
theorem jP5{w:Nat}(hn:n<ly.length)(t:Nat)(ht:(jK ly (n:Int)).headD 0=(t:Int)):chsN w ms ly (n+1)=(chsN w ms ly n).set t (qU ms ly n t++[((n:Int),maskN (jK ly n))]):=by
 have key:∀u,qU ms ly (n+1) u=qU ms ly n u++if u=t then [((n:Int),maskN (jK ly n))] else []:=λu=>by
  unfold qU;rw[jM3 hn,bS,aU,aY];congr 2;rw[dU,ht];by_cases hu:u=t
  .subst hu;rw[ax (ay rfl),ax rfl];rfl
  .rw[aq (by rw[bI];lia),aq hu];rfl
 refine List.ext_getElem? λi=>?_;rw[List.getElem?_set,jA6];by_cases hi:i<w
 .rw[jAC hi,jAC hi,key];by_cases h:t=i
  .subst h;rw[ax rfl,ax rfl,ax hi]
  .rw[aq h,aq (λz=>h z.symm),bg]
 .rw[cU (by rw[jA6];lia),cU (by rw[jA6];lia)];split
  .rw[aq Aa]
  .rfl
def ChAt.app{H:Hp}{L:Addr}{ch:Ch}{t:Nat}{l:Addr}{ls:List Addr}{vs:List V}{cs:List (Int×Nat)}{v:V}{c:Int×Nat}(hL:H L=some (.lst (ls.map V.ref)))(nd:ls.Nodup)(al:All2 (RowAt H) ls ch)(hl:ls[t]?=some l)(hc:ch[t]?=some cs)(hv:H l=some (.lst vs))(av:All2 (PrAt H) vs cs)(pv:PrAt H v c)(ne:l≠L):
  (L2.upd H l (.lst (vs++[v]))) L=some (.lst (ls.map V.ref))/\All2 (RowAt (L2.upd H l (.lst (vs++[v])))) ls (ch.set t (cs++[c])):=by
 have tu:Tups H (L2.upd H l (.lst (vs++[v]))):=Tups.upd hv _;refine⟨by rw[j8 ne.symm];exact hL,?_⟩;refine All2.of_get (by rw[List.length_set];exact al.len) λi a b h1 h2=>?_;rw[List.getElem?_set] at h2;by_cases hi:t=i
 .subst hi;rw[ax rfl,ax (aj.mp hc).1] at h2;cases h2;rw[hl] at h1;cases h1;exact⟨_,j7,(av.imp λ_ _=>PrAt.mono tu).snoc (pv.mono tu)⟩
 .rw[aq hi] at h2;obtain⟨b',hb',r⟩:=al.get' h1;rw[h2] at hb';cases hb';refine r.keep (λxs hx=>?_) tu;rw[j8 λz=>hi ?_]
  .exact hx
  .exact(iM (aj.mp hl).1 nd).mp (by rw[hl,h1,z])
theorem jLE(F:Fun K "choices_of" "choices_of" yN f fd)(T:Txt mg)(CM:Can P w K mg Aq "mask_of" 1 fM fdM ["lot"] jGR):FnOk P w K mg Aq CX0 2 f fd ["box"] jAK:=by
 refine F.ok scChoices (λvs H Q E h=>?_) (λcdv A Ap s H vs Q E hr h=>?_)
 .obtain⟨_,_,_,_,rfl,_⟩:=h;rfl
 .obtain⟨b,w,ms,ly,rfl,hB,g,q⟩:=h;refine⟨_,(jRK T CM hr).2.h,?_⟩;obtain⟨qm,qp,ps,b1,b2,b3,b4⟩:=id hB.ex;have pl:=b4.len;have w0:=g.w0;have w1:=g.w1;have gpl:=g.pl;refine⟨b,_,0,_,rfl,rfl,SqT.of b1,rfl,w,rfl,Aa,Aa,jBK (n:=w.toNat) (by rw[aN];lia) (λD i σ' H' zs=>(∃v,σ'=[v,some (.ref b)])/\Ext H H'/\H' D=some (.lst zs)/\H D=none/\∃ls:List Addr,zs=ls.map V.ref/\ls.Nodup/\D∉ls/\(∀a∈ls,H a=none)/\All2 (RowAt H') ls ((List.range i).map (qU ms ly 0))) ?_ ?_ ?_ ?_⟩
  .intro D hD;exact⟨⟨_,rfl⟩,(Ext.refl _).new hD _,j7,hD,[],rfl,ig,Ad,Ad,trivial⟩
  .rintro D i σ' H' zs hD hi ⟨_,e,h2,_,ls,rfl,_,_,_,al⟩;refine⟨h2,?_⟩;rw[af,al.len,af,b8];lia
  .rintro D i σ' H' zs hD hi ⟨⟨v,rfl⟩,e,h2,hn,ls,rfl,nd,hDl,nol,al⟩;dsimp only[kT,qC];rw[ax rfl];have e0:(0+(i:Int))=(i:Int):=Aa;have key:∀(l:Addr) (H2:Hp),Ext H' H2->H' l=none->RowAt H2 l (qU ms ly 0 i)->H2 D=some (.lst (ls.map V.ref))/\((∃v,[some (V.int (i:Int)),some (.ref b)]=[v,some (.ref b)])/\Ext H (L2.upd H2 D (.lst (ls.map V.ref++[.ref l])))/\(L2.upd H2 D (.lst (ls.map V.ref++[.ref l]))) D=some (.lst (ls.map V.ref++[.ref l]))/\H D=none/\∃ls':List Addr,ls.map V.ref++[.ref l]=ls'.map V.ref/\ls'.Nodup/\D∉ls'/\(∀a∈ls',H a=none)/\All2 (RowAt (L2.upd H2 D (.lst (ls.map V.ref++[.ref l])))) ls' ((List.range (i+1)).map (qU ms ly 0))):=λl H2 e2 nl rl=>by
    have hD2:=e2 _ _ h2;have lD:l≠D:=λz=>by rw[z,h2] at nl;cases nl
    have tu:Tups H2 (L2.upd H2 D (.lst (ls.map V.ref++[.ref l]))):=Tups.upd hD2 _;have kp:∀a xs,a≠D->H2 a=some (.lst xs)->(L2.upd H2 D (.lst (ls.map V.ref++[.ref l]))) a=some (.lst xs):=λa xs ha h=>by rw[j8 ha];exact h
    refine⟨hD2,⟨_,rfl⟩,(e.trans e2).updNew hn _,j7,hn,ls++[l],by rw[aU];rfl,?_,?_,?_,?_⟩
    .rw[eE];refine⟨nd,Ad,λa ha b hb z=>?_⟩;rw[aF] at hb;subst hb z;obtain⟨j,hj⟩:=bO ha;obtain⟨cs,_,vs,r,_⟩:=al.get' hj;rw[nl] at r;cases r
    .rw[aM,aF];rintro (z|z)
     .exact hDl z
     .exact lD z.symm
    .intro a ha;rcases aM.mp ha with z|z
     .exact nol a z
     .rw[aF] at z;subst z;cases y:H a with
      |none=>rfl
      |some o=>rw[e _ _ y] at nl;cases nl
    .rw[eh,aU];refine(All2.of_get al.len λj a c h1 h2'=>?_).snoc (rl.keep (λxs=>kp l xs lD) tu);obtain⟨c',hc',r⟩:=al.get' h1;rw[h2'] at hc';cases hc';have aD:a≠D:=λz=>hDl (z ▸ aJ h1);exact r.keep (λxs hx=>kp a xs aD (e2 _ _ hx)) (e2.tups.trans tu)
   refine⟨b,_,1,_,rfl,rfl,SqT.of (e _ _ b1),rfl,qm,_,rfl,.inr (SqT.of (e _ _ b2)),rfl,jAA ms,_,rfl,?_⟩;rw[e0,jAU];refine ite2 (λhz=>?_) (λhz=>?_)
   .have hz:=aP hz;refine⟨_,rfl,_,_,rfl,rfl,⟨Aa,Aa,Ac⟩,by show (2:Nat)<=_;decide,λr H2 d2 e2=>⟨by show (1:Nat)<=_;decide,λl H3 d3 e3 n3=>?_⟩⟩;have nl:H' l=none:=by
     cases z:H' l with
     |none=>rfl
     |some o=>rw[e2 _ _ z] at n3;cases n3
    refine key l H3 (e2.trans e3) nl ⟨_,d3,?_⟩;rw[jFD,ax hz];refine⟨⟨r,rfl,?_⟩,trivial⟩;have:(1:Int)*2^(i:Int).toNat=((2^i:Nat):Int):=by
     rw[aX];push_cast;lia
    rw[e3 _ _ d2];show some (HO.tup [V.int (-1),V.int ((1:Int)*2^(i:Int).toNat)])=_;rw[this]
   .refine⟨by show (0:Nat)<=_;decide,λl H3 d3 e3 n3=>?_⟩;refine key l H3 e3 n3 ⟨_,d3,?_⟩;rw[jFD,aq (λz=>hz (ay z))];trivial
  .rintro D σ' H1 zs hD ⟨_,e1,h2,hn,ls,rfl,nd,hDl,nol,al⟩;refine⟨b,_,2,_,rfl,rfl,SqT.of (e1 _ _ b1),rfl,true,qp,rfl,⟨_,SqT.of (e1 _ _ b3)⟩,jRB (tp:=true) (xs:=ps) (λi σ H'=>(∃v2 v3,σ=[some (.ref b),some (.ref D),v2,v3])/\Ext H H'/\H' D=some (.lst (ls.map V.ref))/\All2 (RowAt H') ls (chsN w.toNat ms ly i)) ⟨⟨_,_,rfl⟩,e1,h2,al⟩ (λi σ H' ⟨_,e,_⟩=>SqT.of (e _ _ b3)) ?_ ?_⟩
   .rintro i x t σ H' hx ht ⟨⟨v2,v3,rfl⟩,e,h3,al3⟩;obtain⟨pc,hpc,hPc⟩:=b4.at hx;obtain⟨pa,pq,rfl,c1,c2⟩:=id hPc;have hi:i<ly.length:=(aj.mp hpc).1;have gp:=g.pg pc (aJ hpc);have et:jK ly (i:Int)=pc.1:=by
     unfold jK;rw[aX,aB,hpc];rfl
    have lt:=jE0 _ 0 w gp.lot.ris gp.lot.bnd;have e':=e.new ht (.tup [.int (i:Int),.ref pa]);have k':Ext H' (L2.upd H' t (.tup [.int (i:Int),.ref pa])):=(Ext.refl _).new ht _;refine⟨t,_,rfl,SqT.of j7,rfl,_,_,rfl,_,_,rfl,rfl,?_⟩;have h5:=k' _ _ h3;have al5:=al3.imp λl cs r=>r.keep (λxs z=>k' _ _ z) k'.tups;generalize L2.upd H' t (.tup [.int (i:Int),.ref pa])=H5 at e' h5 al5 ⊢;obtain⟨hd,tl,hp1⟩:∃hd tl,pc.1=hd::tl:=by
     cases z:pc.1 with
     |nil=>exact absurd z gp.lot.ne
     |cons a r=>exact⟨a,r,rfl⟩
    have hb:=gp.lot.bnd hd (by rw[hp1];exact ai ..);have hdl:(jK ly (i:Int)).headD 0=((hd.toNat:Nat):Int):=by
     rw[et,hp1];show hd=_;lia
    have hw:hd.toNat<w.toNat:=Aa;obtain⟨l,hl,vs,hv,av⟩:=al5.get (jAC hw);have lne:l≠D:=λz=>hDl (z ▸ aJ hl);have iD:atI (ls.map V.ref) hd=some (.ref l):=by
     have:=jAJ (xs:=ls.map V.ref) (j:=hd.toNat) (v:=.ref l) (by rw[aQ,hl];rfl)
     rwa [show ((hd.toNat:Nat):Int)=hd by lia] at this
    have c2':H5 pq=some (.tup (pc.1.map V.int)):=e' _ _ c2;refine⟨pa,_,0,_,rfl,rfl,SqT.of (e' _ _ c1),rfl,pq,_,0,.int hd,rfl,rfl,SqT.of c2',by rw[hp1];exact jAJ (j:=0) rfl,D,_,_,_,rfl,rfl,SqL.of h5,iD,.inl ⟨rfl,_,SqL.of hv⟩,pa,_,0,_,rfl,rfl,SqT.of (e' _ _ c1),rfl,pq,pc.1,rfl,c2',λx hx=>?_,Aa,λH6 e6=>?_⟩
    .have:=gp.lot.bnd x hx;lia
    refine⟨by show (2:Nat)<=_;decide,λr H7 d7 e7=>?_⟩;have E7:=e6.trans e7;have hv7:=E7 _ _ hv;have vl:vs.length<=33:=by
     rw[av.len];exact(jFC g).len _ _ (jAC hw)
    have ap:=ChAt.app (v:=.ref r) (c:=((i:Int),maskN (jK ly (i:Int)))) (E7 _ _ h5) nd (al5.imp λl cs r=>r.keep (λxs z=>E7 _ _ z) E7.tups) hl (jAC hw) hv7 (av.imp λ_ _=>PrAt.mono E7.tups) ⟨r,rfl,by rw[et];exact d7⟩ lne;have nH:H l=none:=by
     cases z:H l with
     |none=>rfl
     |some o=>
      exfalso;rw[nol l (aJ hl)] at z;cases z
    refine⟨l,_,_,rfl,rfl,hv7,by rw[aN];lia,⟨_,_,rfl⟩,?_,ap.1,?_⟩
    .exact(e'.trans E7).updNew nH _
    .rw[jP5 hi hd.toNat hdl];exact ap.2
   .rintro σ H' ⟨⟨v2,v3,rfl⟩,e,h3,al3⟩;refine q D H' ⟨ls,h3,nd,?_⟩ e;rw[pl] at al3;exact al3
theorem jU6(F:Fun K "full_mask" "full_mask" sFull f fd)(T:Txt mg):FnOk P w K mg Aq CX0 1 f fd ["choices"] jF1:=by
 refine F.ok scFull (λvs H Q E h=>?_) (λcdv A Ap s H vs Q E hr h=>?_)
 .obtain⟨_,_,rfl,_⟩:=h;rfl
 .obtain⟨L,ch,rfl,hL,hw,q⟩:=h;refine⟨_,(fullA T).2.h,?_⟩;obtain⟨ls,h1,h2⟩:=hL.len;refine⟨L,_,rfl,.inl (SqL.of h1),_,_,rfl,rfl,⟨?_,?_,?_⟩,_,_,rfl,rfl,?_⟩
  .first|lia|decide
  .rw[af];lia
  .first|lia|decide
  .have e:(1:Int)*2^(((ls.map V.ref).length:Nat):Int).toNat-1=((fullN ch:Nat):Int):=by
    rw[af,h2,aX];unfold fullN;have:=d9 ch.length;have e2:((2^ch.length:Nat):Int)=(2:Int)^ch.length:=by push_cast;rfl
    lia
   show Q (V.int ((1:Int)*2^(((ls.map V.ref).length:Nat):Int).toNat-1)) H;rw[e];exact q
theorem ok_at(F:Fun K "choices_at" "choices_at" sAt f fd)(T:Txt mg):FnOk P w K mg Aq CX0 1 f fd ["choices","mask"] spAt:=by
 refine F.ok scAt (λvs H Q E h=>?_) (λcdv A Ap s H vs Q E hr h=>?_)
 .obtain⟨_,_,_,rfl,_⟩:=h;rfl
 .obtain⟨L,ch,m,rfl,hL,ok,hm,hf,q⟩:=h;refine⟨_,(atA T).2.h,?_⟩;obtain⟨ls,h1,nd,al⟩:=hL.ex;have hlow:=jHC hm hf;have w16:=ok.w;refine⟨_,rfl,_,_,rfl,rfl,_,_,rfl,rfl,rfl,_,rfl,rfl,_,_,rfl,rfl,?_⟩;have el:(Builtin.Int.intBits (Builtin.bitAnd (Builtin.bitNot (m:Int)) ((m:Int)+1)):Int)-1=((lowN m:Nat):Int):=by
   rw[jQV];lia
  show kT 2 (V.int ((Builtin.Int.intBits (Builtin.bitAnd (Builtin.bitNot (m:Int)) ((m:Int)+1)):Int)-1)) _ _ _;rw[el];obtain⟨l,hl,vs,hv,av⟩:=al.get (az hlow);have vl:vs.length<=33:=by
   rw[av.len];exact ok.len _ _ (az hlow)
  have er:ch.getD (lowN m) []=ch[lowN m]:=by
   rw[aB,az hlow];rfl
  refine⟨L,_,_,_,rfl,rfl,SqL.of h1,jAJ (by rw[aQ,hl];rfl),l,rfl,⟨_,SqL.of hv⟩,jDS (xs:=vs) (λσ=>∃v,σ=[v,some (.int (m:Int))]) (λH' zs j=>All2 (PrAt H') zs (((ch[lowN m]).take j).filter λc=>c.2&&&m==0)) ⟨λH=>trivial,λH H' zs j t h=>h.imp λ_ _=>PrAt.mono t,λH zs j h=>?_⟩ hv (by rw[aN];lia) ⟨_,rfl⟩ ?_ ?_⟩
  .rw[h.len];exact bA (bB _ _) (bM _ _)
  .rintro j x σ' H' zs hx ⟨v,rfl⟩ e hz R S yes no;obtain⟨c,hc,qa,rfl,hq⟩:=av.get' hx;have hq':=e _ _ hq;have et:(ch[lowN m]).take (j+1)=(ch[lowN m]).take j++[c]:=by
    rw[bf,hc];rfl
   refine⟨qa,_,1,_,rfl,rfl,SqT.of hq',rfl,_,_,rfl,rfl,rfl,_,rfl,?_⟩;have ez:decide (V.int (Builtin.bitAnd ((c.2:Nat):Int) (m:Int))=V.int 0)=(c.2&&&m==0):=by
    rw[jFF,cB,bI,eJ];exact⟨λh=>by have:=V.int.inj h;lia,λh=>by rw[h];rfl⟩
   show if decide (V.int (Builtin.bitAnd ((c.2:Nat):Int) (m:Int))=V.int 0)=true then _ else _
   rw[ez];refine ite2 (λh=>?_) (λh=>?_)
   .refine yes _ _ _ ⟨_,rfl⟩ (Ext.refl _) ?_;show All2 _ _ (((ch[lowN m]).take (j+1)).filter _);rw[et,bS,dU,ax h];exact hz.snoc ⟨qa,rfl,hq'⟩
   .refine no _ _ ⟨_,rfl⟩ (Ext.refl _) ?_;show All2 _ _ (((ch[lowN m]).take (j+1)).filter _);rw[et,bS,dU,aq h,List.filter_nil,bg];exact hz
  .rintro D H' zs hD e hn hz;rw[av.len,bq] at hz;refine q D H' ⟨zs,hD,?_⟩ e hn;unfold chAt;rw[er];exact hz
end Eo
namespace L2
open PySem
def jMG{ks:List (Option Expr)}{vs:List Expr}{pos:Pos}{o:Option Expr}:SwOk (.Dict ks vs pos) o:=⟨λ_ _=>rfl⟩
end L2
namespace Eo
open PySem L2
variable {ks:List Nat}{M:Addr}{m:Nat}
abbrev natV(n:Nat):V:=.int (n:Int)
structure MetOk (ch:Ch)(ns:List Nat):Prop where
 zero:0∈ns
 bnd:∀m∈ns,m<2^ch.length
 up:∀m∈ns,m≠fullN ch->∀c∈chAt ch m,(m|||c.2)∈ns
def trK(ks:List Nat):List (Key×V):=ks.map λ(k:Nat)=>(Sum.inl (k:Int),V.bl true)
def jSW:Stmt->List Stmt
 | .While _ b _ _=>b
 |_=>[]
theorem jIA(n:Nat):∀ks:List Nat,valV (trK ks) (.inl (n:Int))=if n∈ks then some (.bl true) else none
 |[]=>rfl
 |k::ks=>by
  show valV ((Sum.inl (k:Int),V.bl true)::trK ks) _=_;by_cases h:k=n
  .subst h;rw[jBA rfl,ax (ai ..)]
  .rw[jBB (by intro z;have:=gC z;lia),jIA n ks];by_cases h2:n∈ks
   .rw[ax h2,ax (ag _ h2)]
   .rw[aq h2,aq];intro z;rcases aA.mp z with z|z
    .exact h z.symm
    .exact h2 z
def jV1{c:Nat}(h:H M=some (.dK (trK ks))):DGet H M (.int (Builtin.bitOr (m:Int) (c:Int))) (if (m|||c)∈ks then some (.bl true) else none):=by
 rw[jCI,<- jIA];exact DGet.k (k:=Sum.inl (((m|||c:Nat):Nat):Int)) h
def jV0{c:Nat}(h:H M=some (.dK (trK ks)))(hn:¬(m|||c)∈ks)(hl:(trK ks).length<sizeLine):DPut H M (.int (Builtin.bitOr (m:Int) (c:Int))) (.bl true) (L2.upd H M (.dK (trK (ks++[m|||c])))):=by
 rw[jCI];have:=DPut.k (k:=Sum.inl (((m|||c:Nat):Nat):Int)) (v:=.bl true) h hl;rw[jJU _ (by rw[jIA,aq hn])] at this;unfold trK;rw[aU];exact this
theorem jAS(nd:ks.Nodup)(hb:∀k∈ks,k<n):ks.length<=n:=by
 have:(ks.map λk:Nat=>(k:Int)).length<=n:=jNN n _ (bG.mpr (nd.imp λh=>by lia)) λt ht=>by
  obtain⟨k,hk,rfl⟩:=bh.mp ht;have:=hb k hk;lia
 rwa [af] at this
noncomputable abbrev nMet:Am:=["choices","full","met","waiting","mask","number","more"]
def scMet:FnScope nMet ["choices"] (j6 sMet):= {}
inductive spMet(vs:List V)(H:Hp)(Q:VK)(_:XK):Prop|i(L:Addr)(ch:Ch)(_:vs=[.ref L])(_:ChAt H L ch)(_:ChOk ch)(_:∀(r:Addr) (ns:List Nat) (H':Hp),H' r=some (.lst (ns.map natV))->ns.Pairwise (· > ·)->MetOk ch ns->Ext H H'->H r=none->Q (.ref r) H')
def jKE(T:Txt mg)(CA:Can P w K mg Aq "choices_at" 1 fA fdA ["choices","mask"] spAt)(hr:Room 1 (XOf nMet "masks_met" sMet P w K mg Aq f cdv A Ap s H0 E).A): {t:TS // JSs (XOf nMet "masks_met" sMet P w K mg Aq f cdv A Ap s H0 E) (jSW ((jB sMet).getD 3 (.Pass ⟨0,0,0,0⟩))) t}:=
 have nd:=scMet.nd
 ⟨_,(j9 (jX (i:=4) nd rfl lL (jKO cw jo jp jSD (jv 3 rfl vL)) jL)
   (jC (kY (jY op_ne (jv 4 rfl vL) (jv 1 rfl vL) (jQ _)) (jC (qH bJ rfl (jAT (CA.je hr gD (j3 (jv 0 rfl vL) (j3 (jv 4 rfl vL) j5 j4) j4) j4)) (jCD (i:=5) (j:=6) nd rfl rfl Ab Ab) (jC (kY (jOG (hu_of hr) (kR op_or (jv 4 rfl vL) (jv 6 rfl vL)) (jv 2 rfl vL) rfl) (j9 (jJ1 (hu_of hr) (jv 2 rfl vL) (kR op_or (jv 4 rfl vL) (jv 6 rfl vL)) (je_bl) jJL)
   (jC (kP (je_bm cw dO dP jB1 (jv 3 rfl vL) (j3 (kR op_or (jv 4 rfl vL) (jv 6 rfl vL)) j5 y0) y0) jL))) jS)) kW)) jS)))⟩
def metA(T:Txt mg)(CF:Can P w K mg Aq "full_mask" 1 fF fdF ["choices"] jF1)(CA:Can P w K mg Aq "choices_at" 1 fA fdA ["choices","mask"] spAt)(hr:Room 1 (XOf nMet "masks_met" sMet P w K mg Aq f cdv A Ap s H0 E).A): {t:TS // JSs (XOf nMet "masks_met" sMet P w K mg Aq f cdv A Ap s H0 E) (jB sMet) t}:=
 have nd:=scMet.nd
 ⟨_,(j9 (jX (i:=1) nd rfl lL (CF.je (hr.mono Ac) gD (j3 (jv 0 rfl vL) j5 j4) j4) jL) (j9 (jX (i:=2) nd rfl lL (jR2) jMG) (j9 (jX (i:=3) nd rfl lL (jC0 (j3 (je_int) j5 kI)) jEX) (j9 (jQZ bJ (jY op_gt (jF jH gD T.len Ab (j3 (jv 3 rfl vL) j5 j4) j4) (je_int) (jQ _)) (jKE T CA hr).2) (jC (jM (jHJ (jGE rfl) gD T.sorted Ab (j3 (jv 2 rfl vL) j5 j4) (jOB je_bl jSJ) j4)))))))⟩
theorem jQP(T:Txt mg)(CA:Can P w K mg Aq "choices_at" 1 fA fdA ["choices","mask"] spAt)(hr:Room 1 (XOf nMet "masks_met" sMet P w K mg Aq f cdv A Ap s H0 E).A)
  {D:Ends}{L W:Addr}{ch:Ch}{ws:List Nat}{v4 v5 v6:Option V}(hL:ChAt H L ch) (ok:ChOk ch) (hM:H M=some (.dK (trK ks))) (hW:H W=some (.lst ((ws++[m]).map natV))) (nd:ks.Nodup) (hb:∀k∈ks,k<2^ch.length) (hm:m∈ks) (wln:ws.length<=ks.length)
  (nx:∀(H':Hp) (new:List Nat) (v4 v5 v6:Option V),(∀b o,H b=some o->b≠M->b≠W->H' b=some o)->H' M=some (.dK (trK (ks++new)))->H' W=some (.lst ((ws++new).map natV))->(ks++new).Nodup->(∀k∈ks++new,k<2^ch.length)->(m≠fullN ch->∀c∈chAt ch m,(m|||c.2)∈ks++new)->D.nx [some (.ref L),some (natV (fullN ch)),some (.ref M),some (.ref W),v4,v5,v6] H'):
  (jKE T CA hr).1 D [some (.ref L),some (natV (fullN ch)),some (.ref M),some (.ref W),v4,v5,v6] H:=by
 have MW:M≠W:=λz=>by rw[z,hW] at hM;cases hM
 have LW:∀ls:List Addr,H L=some (.lst (ls.map V.ref))->L≠W:=λls h z=>by
  rw[z,hW] at h;have h:=HO.lst.inj (bo h);have h2:natV m∈ls.map V.ref:=by rw[<- h];simp
  obtain⟨a,_,ha⟩:=bh.mp h2;cases ha
 have rw':∀l cs,RowAt H l cs->l≠W:=λl cs ⟨vs,h1,h2⟩ z=>by
  rw[z,hW] at h1;have h1:=HO.lst.inj (bo h1);have h3:vs[ws.length]?=some (natV m):=by rw[<- h1];simp
  obtain⟨_,_,q,e,_⟩:=h2.get' h3;cases e
 have w16:=ok.w;have hm2:=hb m hm;have wl:((ws++[m]).map natV)[((ws++[m]).map natV).length-1]?=some (natV m):=by
  rw[af,ak,aQ,be Ad];simp
 have dl:((ws++[m]).map natV).dropLast=ws.map natV:=by
  rw[aU];simp
 refine⟨.inl ⟨rfl,_,SqL.of hW⟩,W,_,_,rfl,rfl,hW,wl,?_⟩;rw[dl];have hM1:(L2.upd H W (.lst (ws.map natV))) M=some (.dK (trK ks)):=by rw[j8 MW];exact hM
 have hW1:(L2.upd H W (.lst (ws.map natV))) W=some (.lst (ws.map natV)):=j7;have k1:∀b o,H b=some o->b≠W->(L2.upd H W (.lst (ws.map natV))) b=some o:=λb o h n=>by rw[j8 n];exact h
 have hL1:ChAt (L2.upd H W (.lst (ws.map natV))) L ch:=by
  obtain⟨ls,a1,a2,a3⟩:=hL.ex;exact⟨ls,k1 _ _ a1 (LW _ a1),a2,a3.imp λl cs r=>r.keep (λxs z=>k1 _ _ z (rw' _ _ r)) (Tups.upd hW _)⟩
 generalize L2.upd H W (.lst (ws.map natV))=H1 at hM1 hW1 k1 hL1;refine⟨rfl,_,rfl,?_⟩;have nf:(!decide (natV m=natV (fullN ch)))=true↔m≠fullN ch:=by
  rw[df,fu];refine not_congr ⟨λh=>?_,λh=>by rw[h]⟩;have:=V.int.inj h;lia
 refine ite2 (λh=>?_) (λh=>?_)
 .have h:=nf.mp h;refine⟨L,ch,m,rfl,hL1,ok,hm2,h,λr H2 ⟨vs,hr2,av⟩ e2 nr=>?_⟩;have hM2:=e2 _ _ hM1;have hW2:=e2 _ _ hW1;have rW:r≠W:=λz=>by rw[z,hW1] at nr;cases nr
  have rM:r≠M:=λz=>by rw[z,hM1] at nr;cases nr
  refine⟨r,rfl,⟨_,SqL.of hr2⟩,jDQ (xs:=vs) (λi σ H'=>(∃v5 v6,σ=[some (.ref L),some (natV (fullN ch)),some (.ref M),some (.ref W),some (natV m),v5,v6])/\(∀b o,H2 b=some o->b≠M->b≠W->H' b=some o)/\∃new:List Nat,H' M=some (.dK (trK (ks++new)))/\H' W=some (.lst ((ws++new).map natV))/\(ks++new).Nodup/\(∀k∈ks++new,k<2^ch.length)/\∀c∈(chAt ch m).take i,(m|||c.2)∈ks++new) ⟨⟨_,_,rfl⟩,λb o h _ _=>h,[],by rw[bg];exact hM2,by rw[bg];exact hW2,by rw[bg];exact nd,by rw[bg];exact hb,λc hc=>by cases hc⟩ (λi σ H' _ ⟨_,k,_⟩=>SqL.of (k _ _ hr2 rM rW)) ?_ ?_⟩
  .rintro i x σ H' hx ⟨⟨v5,v6,rfl⟩,k,new,hM',hW',nd',hb',cl⟩;obtain⟨c,hc,q,rfl,hq⟩:=av.get' hx;have qM:q≠M:=λz=>by rw[z,hM2] at hq;cases hq
   have qW:q≠W:=λz=>by rw[z,hW2] at hq;cases hq
   have hcm:=aJ hc;obtain⟨u1,u2⟩:=ok.up hm2 h hcm;have tk:(chAt ch m).take (i+1)=(chAt ch m).take i++[c]:=by rw[bf,hc];rfl
   refine⟨q,_,rfl,SqT.of (k _ _ hq qM qW),rfl,_,_,rfl,_,_,rfl,rfl,?_⟩;refine⟨_,_,rfl,rfl,M,_,rfl,jV1 hM',_,rfl,?_⟩;by_cases hin:(m|||c.2)∈ks++new
   .rw[ax hin];refine iteF ⟨⟨_,_,rfl⟩,k,new,hM',hW',nd',hb',λc' hc'=>?_⟩;rw[tk] at hc';rcases aM.mp hc' with z|z
    .exact cl c' z
    .rw[aF] at z;rw[z];exact hin
   .rw[aq hin];have ndn:(ks++(new++[m|||c.2])).Nodup:=by
     rw[<- aY,eE];refine⟨nd',Ad,λa ha b hb z=>?_⟩;rw[aF] at hb;exact hin (hb ▸ z ▸ ha)
    have bdn:∀k∈ks++(new++[m|||c.2]),k<2^ch.length:=λk hk=>by
     rw[<- aY] at hk;rcases aM.mp hk with z|z
     .exact hb' k z
     .rw[aF] at z;rw[z];exact u2
    have sz:(ks++(new++[m|||c.2])).length<=2^16:=bA (jAS ndn bdn) (cA Ac w16);rw[ak,ak] at sz;have kl:(trK (ks++new)).length<sizeLine:=by
     unfold trK;rw[af,ak,aN];simp at sz;lia
    refine iteT ⟨_,_,rfl,rfl,M,_,rfl,jV0 hM' hin kl,?_⟩;have hW3:(L2.upd H' M (.dK (trK (ks++new++[m|||c.2])))) W=some (.lst ((ws++new).map natV)):=by rw[j8 MW.symm];exact hW'
    have hM3:(L2.upd H' M (.dK (trK (ks++new++[m|||c.2])))) M=some (.dK (trK (ks++(new++[m|||c.2])))):=by rw[j7,aY]
    have k3:∀b o,H2 b=some o->b≠M->b≠W->(L2.upd H' M (.dK (trK (ks++new++[m|||c.2])))) b=some o:=λb o hbo n1 n2=>by rw[j8 n1];exact k b o hbo n1 n2
    generalize L2.upd H' M (.dK (trK (ks++new++[m|||c.2])))=H3 at hW3 hM3 k3;refine⟨.inl ⟨rfl,_,SqL.of hW3⟩,_,_,rfl,rfl,W,_,_,rfl,rfl,hW3,?_,⟨_,_,rfl⟩,λb o hbo n1 n2=>by rw[j8 n2];exact k3 b o hbo n1 n2,new++[m|||c.2],by rw[j8 MW];exact hM3,?_,ndn,bdn,λc' hc'=>?_⟩
    .skip
     rw[af,ak,aN];simp at sz;lia
    .rw[j7];show some (HO.lst ((ws++new).map natV++[V.int (Builtin.bitOr (m:Int) (c.2:Int))]))=_;rw[jCI,<- aY];exact bW (λz=>some (HO.lst z)) (aU (f:=natV) (l₁:=ws++new) (l₂:=[m|||c.2])).symm
    .rw[<- aY,aM];rw[tk] at hc';rcases aM.mp hc' with z|z
     .exact .inl (cl c' z)
     .rw[aF] at z;rw[z];exact .inr (aF.mpr rfl)
  .rintro σ H' ⟨⟨v5,v6,rfl⟩,k,new,hM',hW',nd',hb',cl⟩;have:(chAt ch m).take vs.length=chAt ch m:=by rw[av.len,bq]
   rw[this] at cl;exact nx H' new _ _ _ (λb o hbo n1 n2=>k _ _ (e2 _ _ (k1 _ _ hbo n2)) n1 n2) hM' hW' nd' hb' λ_=>cl
 .have h:m=fullN ch:=dE λz=>h (nf.mpr z);exact nx H1 [] _ _ _ (λb o hbo n1 n2=>k1 _ _ hbo n2) (by rw[bg];exact hM1) (by rw[bg];exact hW1) (by rw[bg];exact nd) (by rw[bg];exact hb) λz=>absurd h z
theorem jWP{fd:FuncData}(F:Fun K "masks_met" "masks_met" sMet f fd)(T:Txt mg)(CF:Can P w K mg Aq "full_mask" 1 fF fdF ["choices"] jF1)(CA:Can P w K mg Aq "choices_at" 1 fA fdA ["choices","mask"] spAt):FnOk P w K mg Aq CX0 2 f fd ["choices"] spMet:=by
 refine F.ok scMet (λvs H Q E h=>?_) (λcdv A Ap s H vs Q E hr h=>?_)
 .obtain⟨_,_,rfl,_⟩:=h;rfl
 .obtain⟨L,ch,rfl,hL,ok,q⟩:=h;refine⟨_,(metA T CF CA hr).2.h,?_⟩;have w16:=ok.w;refine⟨L,ch,rfl,hL,w16,?_⟩;refine λM H1 hM1 e1 nM=>?_;refine⟨by show (1:Nat)<=_;decide,λW H2 hW2 e2 nW=>?_⟩;have hM2:=e2 _ _ hM1;have nW0:H W=none:=by
   cases z:H W with
   |none=>rfl
   |some o=>rw[e1 _ _ z] at nW;cases nW
  have E2:=e1.trans e2;have pz:(0:Nat)<2^ch.length:=d9 _;refine⟨λn σ H'=>(∃v4 v5 v6,σ=[some (.ref L),some (natV (fullN ch)),some (.ref M),some (.ref W),v4,v5,v6])/\Ext H H'/\∃ks ws:List Nat,n=2*(2^ch.length-ks.length)+ws.length/\H' M=some (.dK (trK ks))/\H' W=some (.lst (ws.map natV))/\ks.Nodup/\(∀k∈ks,k<2^ch.length)/\(∀k∈ws,k∈ks)/\ws.length<=ks.length/\0∈ks/\∀k∈ks,k∉ws->k≠fullN ch->∀c∈chAt ch k,(k|||c.2)∈ks,⟨_,⟨_,_,_,rfl⟩,E2,[0],[0],rfl,hM2,hW2,Ad,λk hk=>by rw[aF] at hk;lia,λk hk=>hk,ar _,Ad,λk h1 h2=>absurd h1 h2⟩,?_⟩;rintro n σ H' ⟨⟨v4,v5,v6,rfl⟩,e,ks,ws,rfl,hM',hW',nd,hb,sub,wl,z0,cl⟩;refine⟨W,_,rfl,.inl (SqL.of hW'),_,_,rfl,rfl,_,rfl,?_⟩;rcases List.eq_nil_or_concat ws with hws|⟨ws',m,hws⟩
  .subst hws;refine iteF ?_;have ksl:=jAS nd hb;have p16:2^ch.length<=2^16:=cA Ac w16;refine⟨M,trK ks,ks.map λk:Nat=>(k:Int),true,rfl,rfl,hM',by unfold trK;rw[bN,bN];rfl,by rw[af,aN];lia,λl ns hl ord pm=>?_⟩;obtain⟨js,rfl⟩:∃js:List Nat,ns=js.map λk:Nat=>(k:Int):=by
    refine⟨ns.map Int.toNat,?_⟩;rw[bN];refine(iK ns).symm.trans (cH λx hx=>?_);obtain⟨k,_,rfl⟩:=bh.mp (pm.mem_iff.mp hx);show ((k:Nat):Int)=(((k:Nat):Int).toNat:Int);lia
   have pm':js.Perm ks:=by
    have:=pm.map Int.toNat;rw[bN,bN] at this;have e:∀l:List Nat,l.map (Int.toNat ∘ λk:Nat=>(k:Int))=l:=λl=>(cH λx _=>by show ((x:Nat):Int).toNat=x;lia).trans (iK l)
    rwa [e,e] at this
   refine q l js _ ?_ ?_ ⟨pm'.mem_iff.mpr z0,λm hm=>hb m (pm'.mem_iff.mp hm),λm hm hf c hc=>pm'.mem_iff.mpr (cl m (pm'.mem_iff.mp hm) Ad hf c hc)⟩ ((Ext.refl _).trans (e.new hl _)) ?_
   .rw[j7,bN];rfl
   .have nj:js.Nodup:=pm'.nodup_iff.mpr nd;have:js.Pairwise (λ(a b:Nat)=>(b:Int)<=(a:Int)):=bG.mp ord;exact(this.and nj).imp λ{a b} h=>by lia
   .cases z:H l with
    |none=>rfl
    |some o=>rw[e _ _ z] at hl;cases hl
  .have hws:ws=ws'++[m]:=by rw[hws,List.concat_eq_append]
   subst hws;have lp:decide ((0:Int)<(((ws'++[m]).map natV).length:Int))=true:=by
    rw[bI,af,ak];show (0:Int)<((ws'.length+1:Nat):Int);lia
   show if decide ((0:Int)<(((ws'++[m]).map natV).length:Int))=true then _ else _
   rw[ax lp];rw[ak] at wl;refine⟨λσ' H''=>(∃v4 v5 v6,σ'=[some (.ref L),some (natV (fullN ch)),some (.ref M),some (.ref W),v4,v5,v6])/\Ext H H''/\∃new:List Nat,H'' M=some (.dK (trK (ks++new)))/\H'' W=some (.lst ((ws'++new).map natV))/\(ks++new).Nodup/\(∀k∈ks++new,k<2^ch.length)/\(m≠fullN ch->∀c∈chAt ch m,(m|||c.2)∈ks++new),?_,jQP T CA hr (ks:=ks) (ws:=ws') (m:=m) (hL.ext e) ok hM' hW' nd hb (sub m Ad) Aa ?_⟩
   .rintro σ' H'' ⟨hσ,e',new,a1,a2,a3,a4,a5⟩;have sl:=jAS a3 a4;rw[ak] at sl;refine⟨_,?_,hσ,e',ks++new,ws'++new,rfl,a1,a2,a3,a4,λk hk=>?_,?_,aZ _ z0,λk hk hkw hf c hc=>?_⟩
    .rw[ak,ak,ak];simp only[aV,cE];lia
    .rcases aM.mp hk with z|z
     .exact aZ _ (sub k (aZ _ z))
     .exact aE _ z
    .rw[ak,ak];lia
    .by_cases hkm:k=m
     .subst hkm;exact a5 hf c hc
     .rcases aM.mp hk with z|z
      .refine aZ _ (cl k z (λy=>?_) hf c hc);rcases aM.mp y with y|y
       .exact hkw (aZ _ y)
       .exact hkm (aF.mp y)
      .exact absurd (aE _ z) hkw
   .intro H'' new v4 v5 v6 kp a1 a2 a3 a4 a5;refine⟨⟨_,_,_,rfl⟩,λb o hbo=>?_,new,a1,a2,a3,a4,a5⟩;refine kp b o (e b o hbo) (λz=>?_) λz=>?_
    .rw[z,nM] at hbo;cases hbo
    .rw[z,nW0] at hbo;cases hbo
end Eo
namespace L2
open PySem
def jMF{x:Str}{pos:Pos}{o:Option Expr}:SwOk (.Name x pos) o:=⟨λ_ _=>rfl⟩
end L2
namespace Eo
open PySem L2
structure HpOk (φ:Hp->Prop):Prop where
 keep:∀(H H':Hp) (D:Addr) (kvs:List (Key×V)),H D=some (.dK kvs)->(∃kvs',H' D=some (.dK kvs'))->(∀b o,H b=some o->b≠D->H' b=some o)->φ H->φ H'
 ext:∀H H',Ext H H'->φ H->φ H'
abbrev RepT:=Nat->Hp->V->Prop
def RepOk(R:RepT):Prop:=∀m v,HpOk λH=>R m H v
def ItAt(R:RepT)(m:Nat)(H:Hp)(v:V)(c:Int×Nat):Prop:=∃q u,v=.ref q/\H q=some (.tup [.int c.1,u])/\R (m|||c.2) H u
inductive jF0(ch:Ch)(R:RepT)(vs:List V)(H:Hp)(Q:VK)(_:XK):Prop|i(l:Addr)(us:List V)(m:Nat)(_:vs=[.ref l])(_:H l=some (.lst us))(_:m<2^ch.length)(_:m≠fullN ch)(_:All2 (ItAt R m H) us (chAt ch m))(_:∀r H',R m H' r->Ext H H'->Q r H')
def gvs(ns:List Nat)(us:List V):List (Key×V):=(ns.zip us).map λp:Nat×V=>(Sum.inl (p.1:Int),p.2)
structure GotAt (H:Hp)(r:Addr)(ch:Ch)(R:RepT)(ns:List Nat):Prop where
 ex:∃us,H r=some (.dK (gvs ns us))/\All2 (λn u=>R n H u) ns us
theorem jFJ{R:Nat->V->Prop}:∀{ns:List Nat}{us:List V}{n:Nat},All2 R ns us->ns.Nodup->n∈ns->∃u,valV (gvs ns us) (.inl (n:Int))=some u/\R n u
 |[],_,_,_,_,h=>by cases h
 |k::ns,[],_,h,_,_=>h.elim
 |k::ns,u::us,n,h,nd,hm=>by
  show ∃x,valV ((Sum.inl (k:Int),u)::gvs ns us) _=_/\_;by_cases hk:k=n
  .subst hk;exact⟨u,jBA rfl,h.1⟩
  .rw[jBB (by intro z;have:=gC z;lia)];rcases aA.mp hm with z|z
   .exact absurd z.symm hk
   .exact jFJ h.2 (cg.mp nd).2 z
theorem jC3:∀{ns:List Nat}{us:List V}{n:Nat},n∉ns->valV (gvs ns us) (.inl (n:Int))=none
 |[],_,_,_=>by
  unfold gvs;rw[List.zip_nil_left];rfl
 |k::ns,[],_,_=>rfl
 |k::ns,u::us,n,h=>by
  show valV ((Sum.inl (k:Int),u)::gvs ns us) _=_;rw[jBB (by intro z;have:=gC z;exact h (by rw[show n=k by lia];exact ai ..))];exact jC3 λz=>h (ag _ z)
def jR9{ns:List Nat}{us:List V}{u:V}(h:ns.length=us.length):gvs (ns++[n]) (us++[u])=gvs ns us++[(Sum.inl (n:Int),u)]:=by
 unfold gvs;rw[List.zip_append h,aU];rfl
section
variable {ch:Ch}{R:RepT}
noncomputable abbrev nGath:Am:=["choices","at_end","join","full","values","mask"]
def scGath:FnScope nGath ["choices","at_end","join"] (j6 xD):= {}
inductive jMQ(j:Addr)(zh:Hp->Prop)(ch:Ch)(R:RepT)(vs:List V)(H:Hp)(Q:VK)(_:XK):Prop|i(L:Addr)(ve:V)(_:vs=[.ref L,ve,.ref j])(_:ChAt H L ch)(_:R (fullN ch) H ve)(_:zh H)(_:∀(r:Addr) (ns:List Nat) (H':Hp),GotAt H' r ch R ns->ns.Pairwise (· > ·)->MetOk ch ns->Ext H H'->H r=none->Q (.ref r) H')
def jOQ(T:Txt mg)(CA:Can P w K mg Aq "choices_at" 1 fA fdA ["choices","mask"] spAt)(CJ:Callee P w K mg Aq Z zh 3 j (jF0 ch R))(zs:ZSt Z)(hz:Z s H0)(hr:Room 3 (XOf nGath "gathered" xD P w K mg Aq f cdv A Ap s H0 E).A): {t:TS // JSs (XOf nGath "gathered" xD P w K mg Aq f cdv A Ap s H0 E) (yU ((jB xD).getD 2 (.Pass ⟨0,0,0,0⟩))) t}:=
 have nd:=scGath.nd
 ⟨_,(jC (kY (jY qJ (jv 5 rfl vC) (jv 3 rfl vL) (jQ _)) (jC (jJ1 (hu_of hr) (jv 4 rfl vC) (jv 5 rfl vC) (jv 1 rfl vL) jMF)) (jC (jJ1 (hu_of hr) (jv 4 rfl vC) (jv 5 rfl vC) (jKN (j:=2) CJ (hr.mono Ac) zs hz rfl rfl vL (j3 (kU (m:=[none,none,some 4,some 5]) (Nc:=["number","more","values","mask"]) rfl (jAT (CA.je (hr.mono Ac) gD (j3 (jv 0 rfl vL) (j3 (jv 5 rfl vC) j5 j4) j4) j4)) rfl Ab Ab (jR (psc:=j6 xD)) (jO (N:=nGath) rfl rfl Ab) (λcl C fp s H=>jB4 (i:=0) (j:=1) rfl (show (["number","more","values","mask"]:Am).Nodup by decide+kernel) rfl rfl Ab Ab) (λcl C fp s H=>yK) (λcl C fp s H=>(kD (j3 (jv 0 rfl jZ) (j3 (jG6 (hu_of hr) (jv 2 rfl yA) (kR op_or (jv 3 rfl yA) (jv 1 rfl jZ)) jS6) j5 jJ) j4))) kW) j5 jP) jP) jL))))⟩
def gathA(T:Txt mg)(CF:Can P w K mg Aq "full_mask" 1 fF fdF ["choices"] jF1)(CM:Can P w K mg Aq "masks_met" 2 fM fdM ["choices"] spMet)(CA:Can P w K mg Aq "choices_at" 1 fA fdA ["choices","mask"] spAt)(CJ:Callee P w K mg Aq Z zh 3 j (jF0 ch R))(zs:ZSt Z)(hz:Z s H0)(hr:Room 3 (XOf nGath "gathered" xD P w K mg Aq f cdv A Ap s H0 E).A): {t:TS // JSs (XOf nGath "gathered" xD P w K mg Aq f cdv A Ap s H0 E) (jB xD) t}:=
 have nd:=scGath.nd
 ⟨_,(j9 (jX (i:=3) nd rfl lL (CF.je (hr.mono Ac) gD (j3 (jv 0 rfl vL) j5 j4) j4) jL) (j9 (jX (i:=4) nd rfl loc_c (jR3) jMG) (j9 (qH bJ rfl (jAT (CM.je (hr.mono Ac) gD (j3 (jv 0 rfl vL) j5 j4) j4)) (jT (i:=5) nd rfl loc_c) (jOQ T CA CJ zs hz hr).2 kW) (jC (jM (jv 4 rfl vC))))))⟩
theorem jNH{fd:FuncData}(F:Fun K "gathered" "gathered" xD f fd)(T:Txt mg)(CF:Can P w K mg Aq "full_mask" 1 fF fdF ["choices"] jF1)(CM:Can P w K mg Aq "masks_met" 2 fM fdM ["choices"] spMet)(CA:Can P w K mg Aq "choices_at" 1 fA fdA ["choices","mask"] spAt)(CJ:Callee P w K mg Aq Z zh 3 j (jF0 ch R))(zs:ZSt Z)(zo:HpOk zh)(ro:RepOk R)(ok:ChOk ch):FnZ P w K mg Aq CX0 Z 4 f fd ["choices","at_end","join"] (jMQ j zh ch R):=by
 refine F.okZ scGath (λvs H Q E h=>?_) (λcdv A Ap s H vs Q E hr hz h=>?_)
 .obtain⟨_,_,rfl,_⟩:=h;rfl
 .obtain⟨L,ve,rfl,hL,he,hzh,q⟩:=h;refine⟨_,(gathA T CF CM CA CJ zs hz hr).2.h,?_⟩;have w16:=ok.w;have p16:2^ch.length<=2^16:=cA Ac w16;refine⟨L,ch,rfl,hL,w16,?_⟩;refine λD nD=>?_;have e1:Ext H (L2.upd H D (.dK [])):=(Ext.refl _).new nD _;have hD1:(L2.upd H D (.dK [])) D=some (.dK []):=j7;generalize L2.upd H D (.dK [])=H1 at e1 hD1;refine⟨L,ch,rfl,hL.ext e1,ok,λr ns H2 hr2 srt mt e2 nr=>?_⟩;have hD2:=e2 _ _ hD1;have rD:r≠D:=λz=>by rw[z,hD1] at nr;cases nr
  have E2:=e1.trans e2;have nsn:ns.Nodup:=srt.imp λ{a b} h=>by lia
  have nsl:=jAS nsn mt.bnd;refine⟨r,rfl,⟨_,SqL.of hr2⟩,jDQ (xs:=ns.map natV) (λi σ H'=>(∃v5,σ=[some (.ref L),some ve,some (.ref j),some (natV (fullN ch)),some (.ref D),v5])/\(∀b o,H2 b=some o->b≠D->H' b=some o)/\GotAt H' D ch R (ns.take i)) ⟨⟨_,rfl⟩,λb o h _=>h,[],hD2,trivial⟩ (λi σ H' _ ⟨_,k,_⟩=>SqL.of (k _ _ hr2 rD)) ?_ ?_⟩
  .rintro i x σ H' hx ⟨⟨v5,rfl⟩,k,us,hD',au⟩;obtain⟨m,hm,rfl⟩:∃m,ns[i]?=some m/\natV m=x:=by
    rw[aQ] at hx;cases hq:ns[i]? with
    |none=>rw[hq] at hx;cases hx
    |some z=>rw[hq] at hx;cases hx;exact⟨z,rfl,rfl⟩
   have hmn:=aJ hm;have hm2:=mt.bnd m hmn;have il:i<ns.length:=(aj.mp hm).1;have tk:ns.take (i+1)=ns.take i++[m]:=by rw[bf,hm];rfl
   have kl:(gvs (ns.take i) us).length<sizeLine:=by
    unfold gvs;rw[af,jh,bi,aN];lia
   have kH:∀b o,H b=some o->H' b=some o:=λb o h=>k _ _ (E2 _ _ h) λz=>by rw[z,nD] at h;cases h
   have mi:m∉ns.take i:=λz=>by
    obtain⟨a,ha⟩:=bO z;have al:a<i:=by have:=(aj.mp ha).1;rw[bi] at this;lia
    rw[cn al] at ha;have:=(iM Aa nsn).mp (ha.trans hm.symm);lia
   have fin:∀(u:V) (H3:Hp),(∀b o,H' b=some o->H3 b=some o)->R m H3 u->DPut H3 D (natV m) u (L2.upd H3 D (.dK (gvs (ns.take (i+1)) (us++[u]))))/\((∃v5,[some (V.ref L),some ve,some (.ref j),some (natV (fullN ch)),some (.ref D),some (natV m)]=[some (V.ref L),some ve,some (.ref j),some (natV (fullN ch)),some (.ref D),v5])/\(∀b o,H2 b=some o->b≠D->(L2.upd H3 D (.dK (gvs (ns.take (i+1)) (us++[u])))) b=some o)/\GotAt (L2.upd H3 D (.dK (gvs (ns.take (i+1)) (us++[u])))) D ch R (ns.take (i+1))):=λu H3 e3 ru=>by
    have hD3:=e3 _ _ hD';have up:∀b o,H3 b=some o->b≠D->(L2.upd H3 D (.dK (gvs (ns.take (i+1)) (us++[u])))) b=some o:=λb o h n=>by rw[j8 n];exact h
    refine⟨?_,⟨_,rfl⟩,λb o h n=>up b o (e3 _ _ (k b o h n)) n,us++[u],j7,?_⟩
    .have:=DPut.k (k:=Sum.inl ((m:Nat):Int)) (v:=u) hD3 kl;rw[jJU _ (jC3 mi),<- jR9 au.len,<- tk] at this;exact this
    .rw[tk];refine All2.snoc ?_ ((ro m u).keep _ _ D _ hD3 ⟨_,j7⟩ (by rw[<- tk];exact up) ru);rw[<- tk];exact au.imp λn u h=>(ro n u).keep _ _ D _ hD3 ⟨_,j7⟩ up ((ro n u).ext _ _ e3 h)
   refine⟨rfl,_,rfl,?_⟩;have ef:decide (natV m=natV (fullN ch))=true↔m=fullN ch:=by
    rw[bI];exact⟨λh=>by have:=V.int.inj h;lia,λh=>by rw[h]⟩
   refine ite2 (λh=>?_) (λh=>?_)
   .have h:=ef.mp h;obtain⟨f1,f2⟩:=fin ve H' (λb o h=>h) (by rw[h];exact(ro _ _).ext _ _ kH he);exact⟨D,_,rfl,f1,f2⟩
   .have h:m≠fullN ch:=λz=>h (ef.mpr z);refine⟨rfl,L,ch,m,rfl,hL.ext kH,ok,hm2,h,λr4 H4 ⟨vs4,hr4,av4⟩ e4 n4=>?_⟩;have hD4:=e4 _ _ hD';have vl4:vs4.length<=33:=by
     rw[av4.len];have hlow:=jHC hm2 h;refine bA (bB _ _) ?_;rw[aB,az hlow];exact ok.len _ _ (az hlow)
    refine⟨r4,rfl,⟨_,SqL.of hr4⟩,jDS (xs:=vs4) (λσ=>∃v1 v2,σ=[v1,v2,some (.ref D),some (natV m)]) (λH' zs t=>All2 (λv c=>∃q u,v=.ref q/\H' q=some (.tup [.int c.1,u])/\R (m|||c.2) H4 u) zs ((chAt ch m).take t)) ⟨λH=>trivial,λH H' zs t tu hz=>hz.imp λv c ⟨q,u,a1,a2,a3⟩=>⟨q,u,a1,tu _ _ a2,a3⟩,λH zs t hz=>?_⟩ hr4 (by rw[aN];lia) ⟨_,_,rfl⟩ ?_ ?_⟩
    .rw[hz.len];exact bM _ _
    .rintro t x σ' H5 zs hx ⟨v1,v2,rfl⟩ e5 hz5 S1 S2 yes no;obtain⟨c,hc,qa,rfl,hq⟩:=av4.get' hx;have hcm:=aJ hc;obtain⟨u1,u2⟩:=ok.up hm2 h hcm;have ut:=mt.up m hmn h c hcm;have up:(m|||c.2)∈ns.take i:=by
      obtain⟨a,ha⟩:=bO ut;have al:a<i:=by
       refine dE λz=>?_;have a1:=(aj.mp ha);have m1:=(aj.mp hm);rcases i8 i a with y|y
       .have:=bY.mp srt i a il a1.1 y;rw[a1.2,m1.2] at this;lia
       .have:a=i:=Aa;subst this;rw[hm] at ha;have:=bo ha;lia
      exact aJ (i:=a) (by rw[cn al];exact ha)
     obtain⟨u,hu,ru⟩:=jFJ au (nsn.sublist (dI _ _)) up;have et:(chAt ch m).take (t+1)=(chAt ch m).take t++[c]:=by rw[bf,hc];rfl
     have dg:DGet H5 D (.int (Builtin.bitOr (m:Int) (c.2:Int))) (some u):=by
      rw[jCI,<- hu];exact DGet.k (k:=Sum.inl (((m|||c.2:Nat):Nat):Int)) (e5 _ _ hD4)
     refine⟨qa,_,rfl,SqT.of (e5 _ _ hq),rfl,_,_,rfl,_,_,rfl,rfl,?_⟩;dsimp only[qC];rw[ax rfl];refine⟨_,_,rfl,rfl,D,u,rfl,dg,by show (2:Nat)<=_;decide,λr6 H6 d6 e6=>yes _ _ _ ⟨_,_,rfl⟩ e6 ?_⟩;show All2 _ _ ((chAt ch m).take (t+1));rw[et];exact(hz5.imp λv c ⟨q,u,a1,a2,a3⟩=>⟨q,u,a1,e6 _ _ a2,a3⟩).snoc ⟨r6,u,rfl,d6,(ro _ _).ext _ _ e4 ru⟩
    .rintro D7 H7 zs hD7 e7 n7 hz7;rw[av4.len,bq] at hz7;refine⟨zo.ext _ _ (λb o h=>e7 _ _ (e4 _ _ (kH b o h))) hzh,D7,zs,m,rfl,hD7,hm2,h,hz7.imp λv c ⟨q,u,a1,a2,a3⟩=>⟨q,u,a1,a2,(ro _ _).ext _ _ e7 a3⟩,λrr H8 r8 e8=>?_⟩;obtain⟨f1,f2⟩:=fin rr H8 (λb o h=>e8 _ _ (e7 _ _ (e4 _ _ h))) r8;exact⟨D,_,rfl,f1,f2⟩
  .rintro σ H' ⟨⟨v5,rfl⟩,k,got⟩;rw[af,bq] at got;exact q D ns H' got srt mt (λb o h=>k _ _ (E2 _ _ h) λz=>by rw[z,nD] at h;cases h) nD
end
end Eo
namespace L2
open PySem
variable {α:Type}
inductive spEx(p:α->Prop)(sp:α->Sp)(vs:List V)(H:Hp)(Q:VK)(E:XK):Prop|i(a:_)(_:p a)(_:sp a vs H Q E)
def FnOk.ex{p:α->Prop}{sp:α->Sp}{CX:CXT}{k:Nat}{fd:FuncData}{ps:Am}(h:∀a,p a->FnOk P w K mg Aq CX k f fd ps (sp a)):FnOk P w K mg Aq CX k f fd ps (spEx p sp):=
 ⟨λvs H Q E ⟨a,pa,q⟩=>(h a pa).len vs H Q E q,λA Ap s H args us vs Q E hr he hb hv ⟨a,pa,q⟩=>(h a pa).run A Ap s H args us vs Q E hr he hb hv q⟩
def Callee.mono{i k:Nat}{sp:Sp}(C:Callee P w K mg Aq Z zh i a sp)(h:i<=k):Callee P w K mg Aq Z zh k a sp:=
 ⟨C.fn,λA Ap s H us vs Q E hr=>C.run A Ap s H us vs Q E (hr.mono h)⟩
def Callee.imp{Z':Shared->Hp->Prop}{k:Nat}{sp:Sp}(C:Callee P w K mg Aq Z zh k a sp)(h:∀s H,Z' s H->Z s H):Callee P w K mg Aq Z' zh k a sp:=
 ⟨C.fn,λA Ap s H us vs Q E hr he hz=>C.run A Ap s H us vs Q E hr he (h _ _ hz)⟩
def FnOk.never{P:Program}{w:World}{K:W.Frag}{mg:Ak}{Aq:Heap}{CX:CXT}{k:Nat}{f:Addr}{fd:FuncData}{ps:Am}:FnOk P w K mg Aq CX k f fd ps (λ_ _ _ _=>False):=
 ⟨λ_ _ _ _ h=>h.elim,λ_ _ _ _ _ _ _ _ _ _ _ _ _ h=>h.elim⟩
def jS5{a:Arguments}{b:Expr}{sc:Scope}{pos:Pos}{es:List Expr}{env:Env}:starEach (.Lambda a b sc pos::es) env=(false,eval (.Lambda a b sc pos) env)::starEach es env:=rfl
end L2
namespace Eo
open PySem L2
theorem got0{r:Addr}{ch:Ch}{R:RepT}{ns:List Nat}(g:GotAt H r ch R ns)(nd:ns.Pairwise (· > ·))(m:MetOk ch ns):∃u,DGet H r (.int 0) (some u)/\R 0 H u:=by
 obtain⟨us,h1,h2⟩:=g.ex;obtain⟨u,hu,ru⟩:=jFJ h2 (nd.imp λ{a b} h=>by lia) m.zero;refine⟨u,?_,ru⟩;have:=DGet.k (k:=Sum.inl (0:Int)) h1;rw[show valV (gvs ns us) (Sum.inl (0:Int))=some u from hu] at this;exact this
end Eo
namespace L2
open PySem PySem.Spec PyProof.Rows
end L2
namespace Eo
open PySem L2
variable {fd:FuncData}{m:Nat}{α:Type}{ws:Af}{ts:Ag}{us:List V}{T:Addr}
def wJ(l:List (Int×Af)):Af:=l.flatMap λp=>p.2.map λx=>if p.1<0 then x else p.1::x
def wk(ch:Ch)(m:Nat):Af:=gv ch [[]] wJ m
def jM2(a b:List (Int×Af)):wJ (a++b)=wJ a++wJ b:=List.flatMap_append
def jI9(ch:Ch):wk ch (fullN ch)=[[]]:=jUS
def jI8{ch:Ch}(o:ChOk ch)(h:m<2^ch.length)(hn:m≠fullN ch):wk ch m=wJ ((chAt ch m).map λc=>(c.1,wk ch (m|||c.2))):=jUR o h hn
theorem jQU(w:Nat):lowN (2^w-1)=w:=by
 refine jX3 ?_ λj hj=>?_
 .rw[eF,aH Aa]
 .rw[eF,ay hj]
theorem jX2{c:Nat}(h:c.testBit (lowN m)=true):lowN m<lowN (m|||c):=by
 refine dE λz=>?_;have n1:=jIZ (m|||c);rw[jy] at n1;rcases i8 (lowN (m|||c)) (lowN m) with y|y
 .rw[jJ0 m _ y] at n1;cases n1
 .rw[show lowN (m|||c)=lowN m by lia,h,ln] at n1;cases n1
theorem jPL{ch:Ch}(o:ChOk ch){P:Nat->Prop}(h0:P (fullN ch))(hs:∀m,m<2^ch.length->m≠fullN ch->(∀c∈chAt ch m,P (m|||c.2))->P m):∀m,m<2^ch.length->P m:=by
 intro m hm;generalize hk:fullN ch-m=k
 induction k using strongRecOn generalizing m with
 |_ k ih=>
  by_cases hf:m=fullN ch
  .rw[hf];exact h0
  .have hlt:m<fullN ch:=by
    unfold fullN at hf ⊢;lia
   refine hs m hm hf λc hc=>?_;obtain⟨u1,u2⟩:=o.up hm hf hc;exact ih (fullN ch-(m|||c.2)) Aa _ u2 rfl
def mem_wJ{l:List (Int×Af)}{x:Ag}:x∈wJ l↔∃p∈l,∃y∈p.2,x=if p.1<0 then y else p.1::y:=by
 unfold wJ;rw[List.mem_flatMap];refine exists_congr λp=>and_congr_right λ_=>?_;rw[bh];exact exists_congr λy=>and_congr_right λ_=>eq_comm
theorem jM0{ch:Ch}(o:ChOk ch):∀m,m<2^ch.length->∀x∈wk ch m,(∀k∈x,0<=k/\k<32)/\x.length+lowN m<=ch.length:=by
 refine jPL o ?_ ?_
 .intro x hx;rw[jI9,aF] at hx;subst hx;refine⟨λk hk=>(by cases hk),?_⟩;unfold fullN;rw[jQU];simp
 .intro m hm hf ih x hx;rw[jI8 o hm hf] at hx;obtain⟨p,hp,y,hy,rfl⟩:=mem_wJ.mp hx;obtain⟨c,hc,rfl⟩:=bh.mp hp;obtain⟨i1,i2⟩:=ih c hc y hy;obtain⟨m1,m2,m3,m4,m5⟩:=o.mem hm hf hc;have lo:=jX2 m1;dsimp only;split
  .exact⟨i1,Aa⟩
  .refine⟨λk hk=>?_,by rw[aV];lia⟩;rcases aA.mp hk with z|z
   .subst z;lia
   .exact i1 k z
def LsAt(H:Hp)(us:List V)(ws:Af):Prop:=All2 (λv x=>∃a,v=V.ref a/\H a=some (.tup (x.map V.int))) us ws
def LsAt.mono(t:Tups H H')(h:LsAt H us ws):LsAt H' us ws:=All2.imp (λv x ⟨a,e,q⟩=>⟨a,e,t _ _ q⟩) h
section
variable {w:Int}(g:Good 16 32 w ms ly)
include g
end
section
variable {w:Int}(g:Good 16 32 w ms ly)
include g
end
theorem jXP{w:Int}{c:Int×Nat}(hm:m<2^(chs w.toNat ms ly).length)(hf:m≠fullN (chs w.toNat ms ly))(hc:c∈chAt (chs w.toNat ms ly) m):c.1<ly.length:=by
 have hl:lowN m<w.toNat:=by
  have:=jHC hm hf;unfold chs at this
  rwa [jA6] at this
 obtain⟨h1,_⟩:=bv.mp hc;unfold chs at h1;rw[aB,jAC hl] at h1;have h1:c∈qU ms ly ly.length (lowN m):=h1;unfold qU at h1;rcases aM.mp h1 with z|z
 .split at z
  .rw[aF] at z;rw[z];show (-1:Int)<_;lia
  .cases z
 .obtain⟨k,hk,rfl⟩:=bh.mp z;exact((yL ly.length).bnd k (bP (bv.mp hk).1)).2
noncomputable def lamOf(s:Stmt):Arguments×Expr×Scope×Pos:=match jB s with
 |[.Return (some (.Call _ [_,_,.Lambda a b sc p] _ _)) _]=>(a,b,sc,p)
 |_=>(jU s,.Constant .none 0 ⟨0,0,0,0⟩,j6 s,⟨0,0,0,0⟩)
abbrev lamA:Arguments:=(lamOf xB).1
abbrev lamB:Expr:=(lamOf xB).2.1
abbrev lamS:Scope:=(lamOf xB).2.2.1
abbrev lamP:Pos:=(lamOf xB).2.2.2
noncomputable abbrev nLam:Am:=["behind"]
theorem scLam:NScope nLam ["behind"] [] lamS:=⟨rfl,rfl,rfl,Ab,rfl,Ab,Ab,λx h=>by
  have hl:∀y∈lamS.names,y.2≠.free:=Ab;exact absurd rfl (hl _ (bV h)),Ab⟩
def RWay(ch:Ch):RepT:=λm _ v=>v=natV (wk ch m).length
def RWay.ok(ch:Ch):RepOk (RWay ch):=λ_ _=>⟨λ_ _ _ _ _ _ _ h=>h,λ_ _ _ h=>h⟩
def jVK(l:List (Int×Af)):(wJ l).length=(l.map λp=>p.2.length).sum:=by
 unfold wJ;rw[List.length_flatMap];congr 1;refine cH λp _=>?_;rw[af]
abbrev qLam:Str:= "ways_of.<locals>.<lambda>"
def jQX(T:Txt mg): {t:TE // JE (cxN P w K mg Aq nLam qLam lamS a (.ref c) cl A Ap s H0) lamB t}:=⟨_,(jF (jHQ rfl) gl_n T.sum Ab (j3 (kU (m:=[none,none]) (Nc:=["number","ways"]) rfl (jAT (jv 0 rfl qB)) rfl Ab Ab (λy hy hf=>absurd hf (by revert y;decide+kernel)) (jO (N:=nLam) rfl rfl Ab) (λcl C fp s H=>jB4 (i:=0) (j:=1) rfl (show (["number","ways"]:Am).Nodup by decide+kernel) rfl rfl Ab Ab) (λcl C fp s H=>yK) (λcl C fp s H=>(jv 1 rfl jZ)) qI) j5 jP) jP)⟩
def zhW(a c:Addr):Hp->Prop:=λH=>H a=some (.ext (nlP qLam lamA lamB lamS [] a c))/\H c=some (.ext (ncP qLam c))
def zhW.ok(a c:Addr):HpOk (zhW a c):=⟨λH H' D kvs hD _ k h=>⟨k _ _ h.1 λz=>(by rw[<- z,h.1] at hD;cases hD),k _ _ h.2 λz=>(by rw[<- z,h.2] at hD;cases hD)⟩,λH H' e h=>⟨e _ _ h.1,e _ _ h.2⟩⟩
theorem jWS{ch:Ch}(o:ChOk ch)(T:Txt mg):Callee P w K mg Aq ZT (zhW a c) 1 a (jF0 ch (RWay ch)):=by
 refine Callee.imp (jOS (fv:=[]) scLam (λvs H Q E h=>?_) (λpm ctv us hl=>?_) λA Ap s H vs Q E hr h=>?_) λs H _=>⟨⟨λx y c h=>(by cases h),λx c h=>(by cases h)⟩,rfl,λi x v h=>(by cases h)⟩
 .obtain⟨_,_,_,rfl,_⟩:=h;rfl
 .match us,hl with
  |[_],_=>rfl
 .obtain⟨l,us,m,rfl,hl,hm,hf,av,q⟩:=h;refine⟨_,(jQX T).2.h,?_⟩;have vl:us.length<=33:=by
   rw[av.len];have hlow:=jHC hm hf;refine bA (bB _ _) ?_;rw[aB,az hlow];exact o.len _ _ (az hlow)
  refine⟨l,rfl,⟨_,SqL.of hl⟩,jDS (xs:=us) (λσ=>∃v1 v2,σ=[v1,v2]) (mapZ (chAt ch m) λc=>natV (wk ch (m|||c.2)).length) (mapZ.ok _ _) hl (by rw[aN];lia) ⟨_,_,rfl⟩ ?_ ?_⟩
  .rintro j x σ' H' zs hx ⟨v1,v2,rfl⟩ e hz S1 S2 yes no;obtain⟨c,hc,p,u,rfl,hp,hR⟩:=av.get' hx;have hR:u=natV (wk ch (m|||c.2)).length:=hR;subst hR;refine⟨p,_,rfl,SqT.of (e _ _ hp),rfl,_,_,rfl,_,_,rfl,rfl,?_⟩;dsimp only[qC];rw[ax rfl];exact yes _ _ _ ⟨_,_,rfl⟩ (Ext.refl _) (hz.yes hc)
  .rintro D H' zs hD e nD hz;have hz:=hz.all (by rw[av.len];exact ar _);have hz2:zs=((chAt ch m).map λc=>((wk ch (m|||c.2)).length:Int)).map V.int:=by rw[hz,bN];rfl
   rw[hz2] at hD;refine⟨D,_,rfl,SqL.of hD,q _ _ ?_ e⟩;show V.int _=natV _;rw[jI8 o hm hf,jVK,bN];congr 1;generalize chAt ch m=cs
   induction cs with
   |nil=>rfl
   |cons a r ih=>
    rw[aW,iR,aW,iR,ih];push_cast;rfl
noncomputable abbrev nWays:Am:=["choices"]
def scWays:FnScope nWays ["choices"] (j6 xB):= {}
abbrev TabW(H:Hp)(tb:Addr):Prop:=TabOk H tb lamP qLam
def jIH:Sp:=spEx (λx:Addr×Addr×Ch=>ChOk x.2.2) λx=>jMQ x.1 (zhW x.1 x.2.1) x.2.2 (RWay x.2.2)
inductive jJM(tb:Addr)(vs:List V)(H:Hp)(Q:VK)(_:XK):Prop|i(L:Addr)(ch:Ch)(_:vs=[.ref L])(_:ChAt H L ch)(_:ChOk ch)(_:TabW H tb)(_:∀(r:Addr) (ns:List Nat) (H':Hp),GotAt H' r ch (RWay ch) ns->ns.Pairwise (· > ·)->MetOk ch ns->ExtT tb H H'->TabW H' tb->H r=none->Q (.ref r) H')
def waysA(T:Txt mg)(CH:PySem.W.CodeHd Aq c0 tb)(BM:qZ Aq mg)(CG:Can P w K mg Aq "gathered" 4 fG fdG ["choices","at_end","join"] jIH)(hr:Room 4 (XOf nWays "ways_of" xB P w K mg Aq f (.ref c0) A Ap s H0 E).A): {t:TS // JSs (XOf nWays "ways_of" xB P w K mg Aq f (.ref c0) A Ap s H0 E) (jB xB) t}:=
 have nd:=scWays.nd
 ⟨_,(jC (jM (CG.je hr gD (j3 (jv 0 rfl vL) (j3 je_int (j3 (jOF rfl CH BM (λy hy hf=>absurd hf (by revert y;decide+kernel)) rfl) j5 jS5) kI) j4) j4)))⟩
def jTW(F:FunC K "ways_of" "ways_of" xB f fd c0)(T:Txt mg)(CH:PySem.W.CodeHd Aq c0 tb)(BM:qZ Aq mg)(CG:Can P w K mg Aq "gathered" 4 fG fdG ["choices","at_end","join"] jIH):FnOk P w K mg Aq CX0 5 f fd ["choices"] (jJM tb):=by
 refine F.ok scWays (λvs H Q E h=>?_) (λA Ap s H vs Q E hr h=>?_)
 .obtain⟨_,_,rfl,_⟩:=h;rfl
 .obtain⟨L,ch,rfl,hL,o,tab,q⟩:=h;refine⟨_,(waysA T CH BM CG hr).2.h,?_⟩;refine⟨tab,λa c H1 k1 k2 k3 e1 na=>?_⟩;have hL1:ChAt H1 L ch:=hL.keep (λb xs h=>e1.at tab h) λb xs h=>e1.at tab h;refine⟨(a,c,ch),o,L,_,rfl,hL1,?_,⟨k1,k2⟩,λr ns H2 got srt mt e2 n2=>?_⟩
  .show V.int 1=natV _;rw[jI9];rfl
  .refine q r ns H2 got srt mt (λb o hb hn=>e2 _ _ (e1 b o hb hn)) (.inr ⟨c,e2 _ _ k3,e2 _ _ k2⟩) ?_;cases z:H r with
   |none=>rfl
   |some o=>
    by_cases hr:r=tb
    .rw[hr,k3] at n2;cases n2
    .rw[e1 _ _ z hr] at n2;cases n2
noncomputable abbrev nMany:Am:=["box"]
def scMany:FnScope nMany ["box"] (j6 sMany):= {}
inductive jD4(tb:Addr)(vs:List V)(H:Hp)(Q:VK)(_:XK):Prop|i(b:Addr)(w:Int)(ms:Ag)(ly:Ae)(_:vs=[.ref b])(_:BoxAt H b w ms ly)(_:Good 16 32 w ms ly)(_:TabW H tb)(_:∀H',ExtT tb H H'->TabW H' tb->Q (natV (wk (chs w.toNat ms ly) 0).length) H')
def manyA(T:Txt mg)(CC:Can P w K mg Aq "choices_of" 2 fC fdC ["box"] jAK)(CW:Can P w K mg Aq "ways_of" 5 fW fdW ["choices"] (jJM tb))(hr:Room 5 (XOf nMany "many" sMany P w K mg Aq f cdv A Ap s H0 E).A): {t:TS // JSs (XOf nMany "many" sMany P w K mg Aq f cdv A Ap s H0 E) (jB sMany) t}:=
 have nd:=scMany.nd
 ⟨_,(jC (jM (jG6 (hu_of hr) (CW.je hr gD (j3 (CC.je (hr.mono Ac) gD (j3 (jv 0 rfl vL) j5 j4) j4) j5 jE) jE) je_int jD)))⟩
def jU3(F:Fun K "many" "many" sMany f fd)(T:Txt mg)(CC:Can P w K mg Aq "choices_of" 2 fC fdC ["box"] jAK)(CW:Can P w K mg Aq "ways_of" 5 fW fdW ["choices"] (jJM tb)):FnOk P w K mg Aq CX0 6 f fd ["box"] (jD4 tb):=by
 refine F.ok scMany (λvs H Q E h=>?_) (λcdv A Ap s H vs Q E hr h=>?_)
 .obtain⟨_,_,_,_,rfl,_⟩:=h;rfl
 .obtain⟨b,wi,ms,ly,rfl,hB,g,tab,q⟩:=h;refine⟨_,(manyA T CC CW hr).2.h,?_⟩;refine⟨b,wi,ms,ly,rfl,hB,g,λL H1 hL1 e1=>?_⟩;refine⟨L,_,rfl,hL1,jFC g,tab.ext e1,λr ns H2 got srt mt e2 t2 n2=>?_⟩;obtain⟨u,dg,ru⟩:=got0 got srt mt;have ru:u=natV _:=ru;subst ru;exact⟨r,_,rfl,dg,q H2 ((ExtT.of e1).trans e2) t2⟩
theorem jIP{lot:Ag}(h:ts.Pairwise (· < ·))(hl:lot.Pairwise (· < ·)):Ris ts.length (nmd ts lot):=by
 rw[jFW h hl];refine⟨jJW h hl,λz hz=>?_⟩;unfold plcs at hz;obtain⟨t,ht,rfl⟩:=bh.mp hz;have:=dN.mpr (aP (bv.mp ht).2);lia
section
variable {fH:Addr}{fdH:FuncData}
abbrev jIS:Am:=["one","other"]
def scCommon:FnScope jIS ["one","other"] (j6 jAZ):= {}
inductive jDJ(vs:List V)(H:Hp)(Q:VK)(_:XK):Prop|i(q t:Addr)(lot ts:Ag)(_:vs=[.ref q,.ref t])(_:H q=some (.tup (lot.map V.int)))(_:H t=some (.tup (ts.map V.int)))(_:lot.length<=1000)(_:∀H',Ext H H'->Q (.bl (lot.any λx=>decide (x∈ts))) H')
def jV4(T:Txt mg): {t:TS // JSs (XOf jIS "have_common" jAZ P w K mg Aq f cdv A Ap s H0 E) (jB jAZ) t}:=
 have nd:=scCommon.nd
 ⟨_,(jC (jM (jF (jEM rfl) gD T.any Ab (j3 (kU (m:=[none,some 1]) (Nc:=["thing","other"]) rfl (qO (jv 0 rfl vL)) rfl Ab Ab (jR (psc:=j6 jAZ)) (jO (N:=jIS) rfl rfl Ab) (λcl C fp s H=>jT (i:=0) (show (["thing","other"]:Am).Nodup by decide+kernel) rfl yZ) (λcl C fp s H=>yK) (λcl C fp s H=>(y9 jFU (jv 0 rfl jZ) (jv 1 rfl yA) jIQ)) qI) j5 jP) jP)))⟩
def jNJ(F:Fun K "have_common" "have_common" jAZ f fd)(T:Txt mg):FnOk P w K mg Aq CX0 1 f fd ["one","other"] jDJ:=by
 refine F.ok scCommon (λvs H Q E h=>?_) (λcdv A Ap s H vs Q E hr h=>?_)
 .obtain⟨_,_,_,_,rfl,_⟩:=h;rfl
 .obtain⟨q,t,lot,ts,rfl,hq,ht,hl,k⟩:=h;refine⟨_,(jV4 T).2.h,?_⟩;refine⟨q,rfl,⟨_,SqT.of hq⟩,jOL (tp:=true) hq ht hl rfl λD H1 k1 e1 n1=>?_⟩;refine⟨D,_,rfl,SqL.of k1,?_⟩;rw[jXS];exact k H1 e1
abbrev jFX:Am:=["box","lot"]
def scNarrow:FnScope jFX ["box","lot"] (j6 jAP):= {}
def lkP(ly:Ae)(ts:Ag):Ag:=(upto ly.length).filter λk=>(jK ly k).any λt=>decide (t∈ts)
inductive jDI(tb:Addr)(vs:List V)(H:Hp)(Q:VK)(_:XK):Prop|i(b a:Addr)(w:Int)(ms:Ag)(ly:Ae)(ts:Ag)(_:vs=[.ref b,.ref a])(_:BoxAt H b w ms ly)(_:Good 16 32 w ms ly)(_:H a=some (.tup (ts.map V.int)))(_:Ris w ts)(_:TabP H tb)(_:∀r H',BoxAt H' r ts.length (nmd ts ms) (pick ts ly (lkP ly ts))->ExtT tb H H'->TabP H' tb->Q (.ref r) H')
def jUD(T:Txt mg)(CL:Can P w K mg Aq "is_lot" 3 fL fdL ["thing","many"] (spB2 lotB))(CK:Can P w K mg Aq "picked" 2 fK fdK ["box","things","pieces"] (jAB tb))(CH:Can P w K mg Aq "have_common" 1 fH fdH ["one","other"] jDJ)(hr:Room 3 (XOf jFX "narrowed" jAP P w K mg Aq f cdv A Ap s H0 E).A): {t:TS // JSs (XOf jFX "narrowed" jAP P w K mg Aq f cdv A Ap s H0 E) (jB jAP) t}:=
 have nd:=scNarrow.nd
 ⟨_,(j9 (kY (qK (yJ (CL.je (hr.mono Ac) gD (j3 (jv 1 rfl vC) (j3 (jI jG (jv 0 rfl vL) (je_int) jD) j5 jJ) j4) j4) kZ)) (jC (jBS)) jS)
   (jC (jM (CK.je (hr.mono Ac) gD (j3 (jv 0 rfl vL) (j3 (jv 1 rfl vC) (j3 (kU (m:=[none,none,some 1]) (Nc:=["number","piece","lot"]) rfl (jJ3 gD T.enumerate (j3 (jI jG (jv 0 rfl vL) (je_int) jD) j5 jJ) jJ) rfl Ab Ab (jR (psc:=j6 jAP)) (jO (N:=jFX) rfl rfl Ab) (λcl C fp s H=>jB4 (i:=0) (j:=1) rfl (show (["number","piece","lot"]:Am).Nodup by decide+kernel) rfl rfl Ab Ab) (λcl C fp s H=>jB3 (yJ (CH.je (hr.mono Ac) gl_b (j3 (jI yO (jv 1 rfl jZ) (je_int) jD) (j3 (jv 2 rfl yA) j5 j4) jJ) jJ) kZ)) (λcl C fp s H=>(jv 0 rfl jZ)) kW) j5 jP) j4) j4) j4))))⟩
def jO5:∀k∈lkP ly ts,0<=k/\k<ly.length:=λk hk=>(yL ly.length).bnd k (bv.mp hk).1
theorem jO4(ly:Ae)(ts:Ag):(lkP ly ts).length<=ly.length:=by
 have:=bB (λk=>(jK ly k).any λt=>decide (t∈ts)) (upto ly.length);rw[yD] at this;exact this
theorem jNE(F:Fun K "narrowed" "narrowed" jAP f fd)(T:Txt mg)(CL:Can P w K mg Aq "is_lot" 3 fL fdL ["thing","many"] (spB2 lotB))(CK:Can P w K mg Aq "picked" 2 fK fdK ["box","things","pieces"] (jAB tb))(CH:Can P w K mg Aq "have_common" 1 fH fdH ["one","other"] jDJ):FnOk P w K mg Aq CX0 4 f fd ["box","lot"] (jDI tb):=by
 refine F.ok scNarrow (λvs H Q E h=>?_) (λcdv A Ap s H vs Q E hr h=>?_)
 .obtain⟨_,_,_,_,_,_,rfl,_⟩:=h;rfl
 .obtain⟨b,a,w,ms,ly,ts,rfl,hB,g,ha,rk,tab,q⟩:=h;refine⟨_,(jUD T CL CK CH hr).2.h,?_⟩;obtain⟨qm,qp,ps,b1,b2,b3,b4⟩:=id hB.ex;have pl:=b4.len;have w0:=g.w0;have w1:=g.w1;have gpl:=g.pl;have kris:=rk.ris;have kbnd:=rk.bnd;have tl16:=yG rk.ris rk.bnd w1;refine⟨b,_,0,_,rfl,rfl,SqT.of b1,rfl,.ref a,_,_,rfl,jPE ha (by rw[af];lia) (Ats.ints ts),λH1 e1=>⟨_,rfl,?_⟩⟩;rw[jBY rk.ris rk.bnd];refine iteF ?_;have ha1:=e1 _ _ ha;refine⟨b,_,2,_,rfl,rfl,SqT.of (e1 _ _ b1),rfl,true,qp,rfl,⟨_,SqT.of (e1 _ _ b3)⟩,jHP (xs:=ps) (by rw[pl,aN];lia) (λD j σ' H' zs=>(∃v v',σ'=[v,v',some (.ref a)])/\Ext H1 H'/\H' D=some (.lst zs)/\H1 D=none/\zs=(((upto ly.length).take j).filter λk=>(jK ly k).any λx=>decide (x∈ts)).map V.int) ?_ ?_ ?_ ?_⟩
  .intro D hD;exact⟨⟨_,_,rfl⟩,(Ext.refl _).new hD _,j7,hD,rfl⟩
  .rintro D j σ' H' zs hD ⟨_,e,h2,_,rfl⟩;refine⟨SqT.of (e _ _ (e1 _ _ b3)),h2,?_⟩;rw[af];exact bA (bB _ _) (bM _ _)
  .rintro D j σ' H' zs x X hD hx hX ⟨⟨v,v',rfl⟩,e,h2,hn,rfl⟩;have hj:j<ly.length:=by
    rw[<- pl];exact(aj.mp hx).1
   obtain⟨x',hx',pa,pq,rfl,c1,c2⟩:=b4.get hj;rw[hx] at hx';cases hx';have e7:Ext H' (L2.upd H' X (.tup [.int (j:Int),.ref pa])):=(Ext.refl _).new hX _;have E7:=(e1.trans e).trans e7;refine⟨X,_,rfl,SqT.of j7,rfl,_,_,rfl,_,_,rfl,rfl,?_⟩;dsimp only[kT];have ll:(ly.getD j ([],0)).1.length<=16:=by
    have:=jL3 g (k:=j) Aa Aa;unfold jK at this;rw[aX] at this;exact this
   refine⟨pa,_,0,_,rfl,rfl,SqT.of (E7 _ _ c1),rfl,pq,a,_,ts,rfl,E7 _ _ c2,e7 _ _ (e _ _ ha1),Aa,λH8 e8=>⟨_,rfl,?_⟩⟩;have h8:=e8 _ _ (e7 _ _ h2);have et:jK ly (j:Int)=(ly.getD j ([],0)).1:=by unfold jK;rw[aX]
   have E8:=(e.trans e7).trans e8;rw[<- et,jOU (jJI hj)];refine ite2 (λhz=>?_) (λhz=>?_)
   .refine⟨h8,⟨_,_,rfl⟩,E8.updNew hn _,j7,hn,?_⟩;rw[ax hz,aU];rfl
   .refine⟨⟨_,_,rfl⟩,E8,h8,hn,?_⟩;rw[aq hz,bg]
  .rintro D σ' H7 zs hD ⟨_,e7,h7,n7,rfl⟩;have hap:((upto ly.length).take ps.length).filter (λk=>(jK ly k).any λx=>decide (x∈ts))=lkP ly ts:=by
    rw[pl,bx (by rw[yD];exact ar _)];rfl
   rw[hap] at h7;have E7:=e1.trans e7;have tln:=yG kris kbnd w1;have aln:=jO4 ly ts;refine⟨b,a,D,true,false,w,ms,ly,ts,lkP ly ts,rfl,hB.mono E7.tups,E7 _ _ ha,h7,kris.imp λh=>by lia,Aa,?_,pc_lt g,jO5,Aa,tab.ext E7,λr1 H8 B8 e8 t8=>?_⟩
   .have:=yG g.mr.ris g.mr.bnd w1;lia
   exact q r1 H8 B8 ((ExtT.of E7).trans e8) t8
theorem jJ7{w mp:Int}(g:Good 16 mp w ms ly)(rk:Ris w ts):Good 16 mp ts.length (nmd ts ms) (pick ts ly (lkP ly ts)):=by
 have tl16:=yG rk.ris rk.bnd g.w1;have gpl:=g.pl;have ll:=jO4 ly ts;refine⟨Aa,Aa,jIP rk.ris g.mr.ris,?_,λpc hpc=>?_⟩
 .unfold pick;rw[af];lia
 .unfold pick at hpc;obtain⟨k,hk,rfl⟩:=bh.mp hpc;have kb:=jO5 k hk;have gp:=g.at (k:=k.toNat) Aa;have r:=jIP rk.ris (lot:=jK ly k) gp.lot.ris;refine⟨⟨r.ris,r.bnd,λz=>?_⟩,gp.lo,gp.hi⟩;have hany:=(bv.mp hk).2;obtain⟨x,hx,hx2⟩:=gn.mp hany;have:(plcs ts (jK ly k)).length=0:=by
   rw[<- jFW (lot:=jK ly k) rk.ris gp.lot.ris];exact bW List.length z
  unfold plcs at this;rw[af] at this;have mem:x∈(jK ly k).filter λt=>decide (t∈ts):=bv.mpr ⟨hx,hx2⟩;rw[cI this] at mem;cases mem
end
structure Tb2 (H:Hp)(tb1 tb2:Addr):Prop where
 p:TabP H tb1
 w:TabW H tb2
 ne:tb1≠tb2
def Ex2(tb1 tb2:Addr)(H H':Hp):Prop:=∀b o,H b=some o->b≠tb1->b≠tb2->H' b=some o
def TabOk.extO{U:Addr}{pos:Pos}{q:Str}(t:TabOk H T pos q)(ne:T≠U)(u:∀c,H c=some (.ext (ncP q c))->c≠U)(e:ExtT U H H'):TabOk H' T pos q:=by
 rcases t with h|⟨c,h,h2⟩
 .exact .inl (e _ _ h ne)
 .exact .inr ⟨c,e _ _ h ne,e _ _ h2 (u c h2)⟩
def Tb2.ext(t:Tb2 H tb1 tb2)(e:Ext H H'):Tb2 H' tb1 tb2:=⟨t.p.ext e,t.w.ext e,t.ne⟩
def Tb2.extP(t:Tb2 H tb1 tb2)(e:ExtT tb1 H H')(p:TabP H' tb1):Tb2 H' tb1 tb2:=⟨p,TabOk.extO t.w t.ne.symm (λc h=>t.p.ne h (by intro _ z;cases z)) e,t.ne⟩
def Tb2.extW(t:Tb2 H tb1 tb2)(e:ExtT tb2 H H')(p:TabW H' tb2):Tb2 H' tb1 tb2:=⟨TabOk.extO t.p t.ne (λc h=>t.w.ne h (by intro _ z;cases z)) e,p,t.ne⟩
def Ex2.ofP(e:ExtT tb1 H H'):Ex2 tb1 tb2 H H':=λb o h n _=>e b o h n
def Ex2.ofW(e:ExtT tb2 H H'):Ex2 tb1 tb2 H H':=λb o h _ n=>e b o h n
def Ex2.trans{H1 H2:Hp}(a:Ex2 tb1 tb2 H H1)(b:Ex2 tb1 tb2 H1 H2):Ex2 tb1 tb2 H H2:=λc o h n m=>b c o (a c o h n m) n m
def Ex2.at{H H':Hp}{tb1 tb2:Addr}(e:Ex2 tb1 tb2 H H')(t:Tb2 H tb1 tb2){b:Addr}{o:HO}(h:H b=some o)(ho:∀ps,o≠.tbl ps:=by intro _ z;cases z):H' b=some o:=e b o h (t.p.ne h ho) (t.w.ne h ho)
def Ex2.tups(e:Ex2 tb1 tb2 H H')(t:Tb2 H tb1 tb2):Tups H H':=λb xs h=>e.at t h
noncomputable abbrev nBar:Am:=["box","lot"]
def scBar:FnScope nBar ["box","lot"] (j6 sBar):= {}
def wkN(ms:Ag)(ly:Ae)(ts:Ag):Af:=wk (chs ts.length (nmd ts ms) (pick ts ly (lkP ly ts))) 0
inductive spBar(tb1 tb2:Addr)(vs:List V)(H:Hp)(Q:VK)(_:XK):Prop|i(b a:Addr)(w:Int)(ms:Ag)(ly:Ae)(ts:Ag)(_:vs=[.ref b,.ref a])(_:BoxAt H b w ms ly)(_:Good 16 32 w ms ly)(_:H a=some (.tup (ts.map V.int)))(_:Ris w ts)(_:Tb2 H tb1 tb2)(_:∀H',Ex2 tb1 tb2 H H'->Tb2 H' tb1 tb2->Q (.bl (decide (wkN ms ly ts=[]))) H')
def barA(CN:Can P w K mg Aq "narrowed" 4 fN fdN ["box","lot"] (jDI tb1))(CM:Can P w K mg Aq "many_coverings" 6 fM fdM ["box"] (jD4 tb2))(hr:Room 6 (XOf nBar "is_bar" sBar P w K mg Aq f cdv A Ap s H0 E).A): {t:TS // JSs (XOf nBar "is_bar" sBar P w K mg Aq f cdv A Ap s H0 E) (jB sBar) t}:=
 have nd:=scBar.nd
 ⟨_,(jC (jM (y9 qJ (CM.je hr gD (j3 (CN.je (hr.mono Ac) gD (j3 (jv 0 rfl vL) (j3 (jv 1 rfl vL) j5 j4) j4) j4) j5 jE) jE) (je_int) (jQ _))))⟩
theorem jWW(F:Fun K "is_bar" "is_bar" sBar f fd)(CN:Can P w K mg Aq "narrowed" 4 fN fdN ["box","lot"] (jDI tb1))(CM:Can P w K mg Aq "many_coverings" 6 fM fdM ["box"] (jD4 tb2)):FnOk P w K mg Aq CX0 7 f fd ["box","lot"] (spBar tb1 tb2):=by
 refine F.ok scBar (λvs H Q E h=>?_) (λcdv A Ap s H vs Q E hr h=>?_)
 .obtain⟨_,_,_,_,_,_,rfl,_⟩:=h;rfl
 .obtain⟨b,a,w,ms,ly,ts,rfl,hB,g,ha,rk,tab,q⟩:=h;refine⟨_,(barA CN CM hr).2.h,?_⟩;refine⟨b,a,w,ms,ly,ts,rfl,hB,g,ha,rk,tab.p,λr H1 B1 e1 t1=>?_⟩;have T1:=tab.extP e1 t1;refine⟨r,_,_,_,rfl,B1,jJ7 g rk,T1.w,λH2 e2 t2=>?_⟩;refine⟨rfl,?_⟩;have ed:decide (natV (wk (chs ((ts.length:Int)).toNat (nmd ts ms) (pick ts ly (lkP ly ts))) 0).length=V.int 0)=decide (wkN ms ly ts=[]):=by
   rw[aX];refine dW.mpr ⟨λz=>?_,λz=>?_⟩
   .have:((wkN ms ly ts).length:Int)=0:=V.int.inj z;exact cI Aa
   .show natV (wkN ms ly ts).length=_;rw[z];rfl
  rw[ed];exact q H2 ((Ex2.ofP e1).trans (Ex2.ofW e2)) (T1.extW e2 t2)
def btsN(n m:Nat):Ag:=((List.range n).filter λt=>m.testBit t).map λ(t:Nat)=>(t:Int)
theorem jCZ(p:Nat->Bool):∀(d b:Nat),(∀t,b<=t->p t=false)->(List.range (b+d)).filter p=(List.range b).filter p
 | 0,_,_=>rfl
 |d+1,b,h=>by
  rw[show b+(d+1)=(b+d)+1 by lia,eh,bS,jCZ p d b h,dU,aq (by rw[h _ Aa];exact am),List.filter_nil,bg]
theorem jRN{m a b:Nat}(ha:m<2^a)(hb:m<2^b):btsN a m=btsN b m:=by
 have f:∀c,m<2^c->∀t,c<=t->m.testBit t=false:=λc hc t ht=>fZ (aR hc (cA Ac ht));unfold btsN;congr 1;rcases Nat.le_total a b with h|h
 .obtain⟨d,rfl⟩:∃d,b=a+d:=⟨b-a,Aa⟩;exact(jCZ _ d a (f a ha)).symm
 .obtain⟨d,rfl⟩:∃d,a=b+d:=⟨a-b,Aa⟩;exact jCZ _ d b (f b hb)
theorem jV8(m:Nat):m<2^Builtin.Int.intBits (m:Int):=by
 unfold Builtin.Int.intBits;by_cases h:m=0
 .subst h;decide
 .have:(((m:Nat):Int)==0)=false:=bL.mpr Aa;rw[this,lc];exact Nat.lt_log2_self
theorem jV9(h:m<2^n):Builtin.Int.intBits (m:Int)<=n:=by
 unfold Builtin.Int.intBits;by_cases h0:m=0
 .subst h0;exact ba _
 .have:(((m:Nat):Int)==0)=false:=bL.mpr Aa;rw[this,lc];exact(Nat.log2_lt h0).mpr h
theorem jRP(m t:Nat):decide (V.int (Builtin.bitAnd ((m:Int)/2^((t:Nat):Int).toNat) 1)=V.int 1)=m.testBit t:=by
 have e:(m:Int)/2^((t:Nat):Int).toNat=((m/2^t:Nat):Int):=by
  rw[aX];push_cast;rfl
 rw[e,show Builtin.bitAnd ((m/2^t:Nat):Int) 1=((m/2^t&&&1:Nat):Int) from jFF _ 1,lb,gb,cB,bI,bI];constructor
 .intro h;have:=V.int.inj h;lia
 .intro h;rw[h];rfl
theorem jRM(n m:Nat):Ris (n:Int) (btsN n m):=by
 unfold btsN;refine⟨bG.mpr ((ga.filter _).imp λh=>by lia),λz hz=>?_⟩;obtain⟨t,ht,rfl⟩:=bh.mp hz;have:=bR.mp (bv.mp ht).1;lia
abbrev jNR:Am:=["mask"]
def scLotOf:FnScope jNR ["mask"] (j6 jD6):= {}
inductive jFN(vs:List V)(H:Hp)(Q:VK)(_:XK):Prop|i(m n:Nat)(_:vs=[natV m])(_:m<2^n)(_:n<=64)(_:∀r H',H' r=some (.tup ((btsN n m).map V.int))->Ext H H'->Q (.ref r) H')
def jX5(T:Txt mg): {t:TS // JSs (XOf jNR "lot_of" jD6 P w K mg Aq f cdv A Ap s H0 E) (jB jD6) t}:=
 have nd:=scLotOf.nd
 ⟨_,(jC (jM (kN kL gD T.tuple Ab (j3 (kU (m:=[none,some 0]) (Nc:=["thing","mask"]) rfl (yC gD T.range (j3 (jKO i9 g7 g8 jNW (jv 0 rfl vC)) j5 jE) jE) rfl Ab Ab (jR (psc:=j6 jD6)) (jO (N:=jNR) rfl rfl Ab) (λcl C fp s H=>jT (i:=0) (show (["thing","mask"]:Am).Nodup by decide+kernel) rfl yZ) (λcl C fp s H=>jB3 (jY qJ (kR jK3 (kR jSB (jv 1 rfl yA) (jv 0 rfl jZ)) (je_int)) (je_int) (jQ _))) (λcl C fp s H=>(jv 0 rfl jZ)) kW) j5 jP) jP)))⟩
theorem jQI(F:Fun K "lot_of" "lot_of" jD6 f fd)(T:Txt mg):FnOk P w K mg Aq CX0 1 f fd ["mask"] jFN:=by
 refine F.ok scLotOf (λvs H Q E h=>?_) (λcdv A Ap s H vs Q E hr h=>?_)
 .obtain⟨_,_,rfl,_⟩:=h;rfl
 .obtain⟨m,n,rfl,hm,hn,q⟩:=h;refine⟨_,(jX5 T).2.h,?_⟩;have bl:=jV9 hm;refine⟨rfl,_,rfl,rfl,_,rfl,Aa,Aa,jDR (n:=(Builtin.Int.intBits (m:Int):Int).toNat) (λσ=>∃v,σ=[v,some (natV m)]) (outZ (List.range (Builtin.Int.intBits (m:Int):Int).toNat) (λt=>m.testBit t) natV) (outZ.ok _ _ _) (by rw[aN];lia) ⟨_,rfl⟩ ?_ ?_⟩
  .rintro j σ' H' zs hj ⟨v,rfl⟩ e hz S1 S2 yes no;have e0:(0+(j:Int))=(j:Int):=Aa;have hg:(List.range (Builtin.Int.intBits (m:Int):Int).toNat)[j]?=some j:=cq hj;refine⟨_,_,rfl,rfl,Aa,_,_,rfl,rfl,rfl,_,rfl,?_⟩;show if decide (V.int (Builtin.bitAnd ((m:Int)/2^(0+(j:Int)).toNat) 1)=V.int 1)=true then _ else _
   rw[e0,jRP];refine ite2 (λh=>?_) (λh=>?_)
   .refine yes _ _ _ ⟨_,rfl⟩ (Ext.refl _) (hz.yes hg h)
   .exact no _ _ ⟨_,rfl⟩ (Ext.refl _) (hz.no hg (dL.mpr h))
  .rintro D H' zs hD e nD hz;have hz:=hz.all (by rw[b8];exact ar _);refine⟨D,_,rfl,.inl ⟨SqL.of hD,λr hr'=>q r _ ?_ ((e.trans ((Ext.refl _).new hr' _)))⟩⟩;rw[j7,hz];have:=jRN (a:=n) hm (jV8 m);rw[this];unfold btsN;rw[bN];rfl
def jIY:∀{us:List V}{ws:Af},LsAt H us ws->TsAt H (ws.map λx=>Tr.tup (x.map Tr.int)) us
 |[],[],_=>rfl
 |v::us,x::ws,⟨⟨a,e,h⟩,r⟩=>⟨v,us,rfl,⟨a,_,e,h,jHM x⟩,jIY r⟩
def lsZ(l:List α)(p:α->Bool)(f:α->Ag):Hp->List V->Nat->Prop:=λH zs j=>LsAt H zs (((l.take j).filter p).map f)
def LsAt.len(h:LsAt H us ws):us.length=ws.length:=All2.len h
def lsZ.ok(l:List α)(p:α->Bool)(f:α->Ag):ZOk (lsZ l p f):=⟨λ_=>trivial,λ_ _ _ _ t h=>LsAt.mono t h,λ_ zs j h=>by
 rw[LsAt.len h,af];exact bA (bB _ _) (bM _ _)⟩
def LsAt.snoc{H:Hp}{us:List V}{ws:Af}{a:Addr}{x:Ag}(h:LsAt H us ws)(ha:H a=some (.tup (x.map V.int))):LsAt H (us++[.ref a]) (ws++[x]):=All2.snoc h ⟨a,rfl,ha⟩
def lsZ.yes{α:Type}{l:List α}{p:α->Bool}{f:α->Ag}{H H':Hp}{zs:List V}{j:Nat}{x:α}{a:Addr}(h:lsZ l p f H zs j)(t:Tups H H')(hx:l[j]?=some x)(hp:p x=true)(ha:H' a=some (.tup ((f x).map V.int))):lsZ l p f H' (zs++[.ref a]) (j+1):=by
 unfold lsZ;rw[bf,hx,bS,aU];have e:((some x).toList.filter p).map f=[f x]:=by simp[hp]
 rw[e];exact LsAt.snoc (LsAt.mono t h) ha
def lsZ.all{l:List α}{p:α->Bool}{f:α->Ag}{zs:List V}(h:lsZ l p f H zs n)(hn:l.length<=n):LsAt H zs ((l.filter p).map f):=by
 unfold lsZ at h;rw[bx hn] at h;exact h
structure TT where
 a:Addr
 p:Pos
 q:Str
def ads(L:List TT):List Addr:=L.map TT.a
structure TbS (L:List TT)(H:Hp):Prop where
 nd:(ads L).Nodup
 ok:∀t∈L,TabOk H t.a t.p t.q
def ExS(S:List Addr)(H H':Hp):Prop:=∀b o,H b=some o->b∉S->H' b=some o
section
variable {S':List Addr}{L:List TT}
def ExS.of(e:Ext H H'):ExS S H H':=λb o h _=>e b o h
def ExS.refl:ExS S H H:=λ_ _ h _=>h
def ExS.trans(a:ExS S H H')(b:ExS S H' H''):ExS S H H'':=λc o h n=>b c o (a c o h n) n
def ExS.mono(h:∀x∈S,x∈S')(e:ExS S H H'):ExS S' H H':=λb o z n=>e b o z λy=>n (h b y)
def ExS.ofT(e:ExtT T H H')(h:T∈S):ExS S H H':=λb o z n=>e b o z λy=>n (y ▸ h)
def TbS.ext(t:TbS L H)(e:Ext H H'):TbS L H':=⟨t.nd,λx hx=>(t.ok x hx).ext e⟩
def TbS.off(t:TbS L H){b:Addr}{o:HO}(h:H b=some o)(ho:∀ps,o≠.tbl ps:=by intro _ z;cases z):b∉ads L:=λz=>by
 obtain⟨x,hx,e⟩:=bh.mp z;exact(t.ok x hx).ne h ho e.symm
def TbS.at(t:TbS L H)(e:ExS (ads L) H H'){b:Addr}{o:HO}(h:H b=some o)(ho:∀ps,o≠.tbl ps:=by intro _ z;cases z):H' b=some o:=e b o h (t.off h ho)
def TbS.tups(t:TbS L H)(e:ExS (ads L) H H'):Tups H H':=λb xs h=>t.at e h
def TbS.sq{xs:List V}(t:TbS L H)(e:ExS (ads L) H H')(h:SqL K H a xs):SqL K H' a xs:=by
 rcases h with h|h
 .rcases h with h|⟨o,h⟩
  .exact .inl (.inl (t.at e h))
  .exact .inl (.inr ⟨o,t.at e h⟩)
 .exact .inr h
def TbS.set(t:TbS L H)(hs:∀s∈S,s∈ads L)(e:ExS S H H')(k:∀x∈L,x.a∈S->TabOk H' x.a x.p x.q):TbS L H':=⟨t.nd,λx hx=>by
 by_cases z:x.a∈S
 .exact k x hx z
 .rcases t.ok x hx with h|⟨c,h,h2⟩
  .exact .inl (e _ _ h z)
  .exact .inr ⟨c,e _ _ h z,e _ _ h2 λy=>t.off h2 (by intro _ z;cases z) (hs c y)⟩⟩
def TbS.setT(t:TbS L H){x:TT}(hx:x∈L)(e:ExtT x.a H H')(k:TabOk H' x.a x.p x.q):TbS L H':=t.set (S:=[x.a]) (λs hs=>by rw[aF.mp hs];exact dR hx) (ExS.ofT e (aF.mpr rfl)) λy hy hm=>by
 have e1:=aF.mp hm;have:y=x:=by
  have nd:=t.nd;obtain⟨i,hi⟩:=bO hy;obtain⟨j,hj⟩:=bO hx;have hi':(ads L)[i]?=some x.a:=by unfold ads;rw[aQ,hi,<- e1];rfl
  have hj':(ads L)[j]?=some x.a:=by unfold ads;rw[aQ,hj];rfl
  have li:i<(ads L).length:=(aj.mp hi').1;have ij:=(iM li nd).mp (hi'.trans hj'.symm);rw[ij,hj] at hi;exact(bo hi).symm
 rw[this];exact k
def TbS.lst(t:TbS L H){p:Addr}{xs:List V}{o:HO}(hp:H p=some (.lst xs)):TbS L (L2.upd H p o):=by
 have ne:∀c o,H c=some o->(∀xs,o≠.lst xs)->c≠p:=λc o h n z=>by
  rw[z,hp] at h;cases h;exact n _ rfl
 refine⟨t.nd,λx hx=>?_⟩;rcases t.ok x hx with h|⟨c,h,h2⟩
 .exact .inl (by rw[j8 (ne _ _ h (by intro _ z;cases z))];exact h)
 .exact .inr ⟨c,by rw[j8 (ne _ _ h (by intro _ z;cases z))];exact h,by rw[j8 (ne _ _ h2 (by intro _ z;cases z))];exact h2⟩
end
def keyL(x:Ag):Ag:=(x.length:Int)::x
def jB8(n:Nat):Af:=(List.range (2^n)).map (btsN n)
def leK(a b:Ag):Bool:=!HT.lexLt (keyL b) (keyL a)
def qS(n:Nat):Af:=(jB8 n).mergeSort leK
def jCP(n:Nat):(qS n).Perm (jB8 n):=kf _ _
def jMW(n:Nat):(qS n).Pairwise λa b=>HT.lexLt (keyL b) (keyL a)=false:=by
 refine(iY (le:=leK) (λa b c h1 h2=>?_) (λa b=>?_) (jB8 n)).imp λ{a b} h=>by
  unfold leK at h;exact df _ |>.mp h
 .unfold leK at h1 h2 ⊢;rw[df] at h1 h2 ⊢;by_cases z:HT.lexLt (keyL c) (keyL a)=true
  .by_cases y:HT.lexLt (keyL a) (keyL b)=true
   .rw[TM.lex_tr z y] at h2;cases h2
   .have:=TM.lex_tot (dL.mpr y) h1;rw[this,h2] at z;cases z
  .exact dL.mpr z
 .unfold leK;rw[ji,df,df];by_cases z:HT.lexLt (keyL b) (keyL a)=true
  .right;by_cases y:HT.lexLt (keyL a) (keyL b)=true
   .have:=TM.lex_tr z y;rw[TM.lex_irr] at this;cases this
   .exact dL.mpr y
  .exact .inl (dL.mpr z)
def jHH(l:Af):(l.map keyL).map List.tail=l:=by
 rw[bN];exact List.map_id'' (λ_=>rfl) l
def jL7(p:ws.Perm (jB8 n))(s:(ws.map keyL).Pairwise λa b=>HT.lexLt b a=false):ws=qS n:=by
 have:=jKG ((p.trans (jCP n).symm).map keyL) s (bG.mpr (jMW n));rw[<- jHH ws,this,jHH]
def jQW{x:Ag}(h:x∈jB8 n):Ris (n:Int) x:=by
 obtain⟨m,_,rfl⟩:=bh.mp h;exact jRM n m
def jDZ{x:Ag}(h:x∈qS n):Ris (n:Int) x:=jQW ((jCP n).mem_iff.mp h)
def jGZ(n:Nat):(qS n).length=2^n:=by
 rw[(jCP n).length_eq];unfold jB8;rw[af,b8]
def inB(y x:Ag):Bool:=y.all λt=>decide (t∈x)
def x0(pr:Ag->Bool)(acc:Af)(x:Ag):Af:=if (!acc.any λy=>inB y x)&&pr x then acc++[x] else acc
def jBR(pr:Ag->Bool)(ws:Af):Af:=ws.foldl (x0 pr) []
def jED{pr:Ag->Bool}{i:Nat}{x:Ag}(h:ws[i]?=some x):jBR pr (ws.take (i+1))=x0 pr (jBR pr (ws.take i)) x:=by
 unfold jBR;rw[bf,h,List.foldl_append];rfl
theorem jMI(pr:Ag->Bool)(acc:Af)(x:Ag):(x0 pr acc x).length<=acc.length+1:=by
 unfold x0;split
 .rw[ak];exact ar _
 .lia
def jBG(pr:Ag->Bool):∀(ws:Af) (i:Nat),(jBR pr (ws.take i)).length<=i
 |ws,0=>by rw[eQ];exact ar _
 |ws,i+1=>by
  cases h:ws[i]? with
  |none=>
   have:ws.take (i+1)=ws.take i:=by rw[bf,h];simp
   rw[this];exact Nat.le_succ_of_le (jBG pr ws i)
  |some x=>
   rw[jED h];exact bA (jMI _ _ _) (Nat.succ_le_succ (jBG pr ws i))
def jCV{pr:Ag->Bool}:∀{ws acc:Af}{x:Ag},x∈ws.foldl (x0 pr) acc->x∈acc\/x∈ws
 |[],_,_,h=> .inl h
 |y::ws,acc,x,h=>by
  rcases jCV (ws:=ws) h with z|z
  .unfold x0 at z;split at z
   .rcases aM.mp z with z|z
    .exact .inl z
    .exact .inr (aF.mp z ▸ ai ..)
   .exact .inl z
  .exact .inr (ag _ z)
abbrev jIR:Am:=["lot","other"]
def scWithin:FnScope jIR ["lot","other"] (j6 jAY):= {}
inductive jBC(vs:List V)(H:Hp)(Q:VK)(_:XK):Prop|i(a b:Addr)(xs ys:Ag)(_:vs=[.ref a,.ref b])(_:H a=some (.tup (xs.map V.int)))(_:H b=some (.tup (ys.map V.int)))(_:xs.length<=1000)(_:∀H',Ext H H'->Q (.bl (inB xs ys)) H')
def jST(T:Txt mg): {t:TS // JSs (XOf jIR "is_within" jAY P w K mg Aq f cdv A Ap s H0 E) (jB jAY) t}:=
 have nd:=scWithin.nd
 ⟨_,(jC (jM (jF (jCH rfl) gD T.all Ab (j3 (kU (m:=[none,some 1]) (Nc:=["thing","other"]) rfl (qO (jv 0 rfl vL)) rfl Ab Ab (jR (psc:=j6 jAY)) (jO (N:=jIR) rfl rfl Ab) (λcl C fp s H=>jT (i:=0) (show (["thing","other"]:Am).Nodup by decide+kernel) rfl yZ) (λcl C fp s H=>yK) (λcl C fp s H=>(y9 jFU (jv 0 rfl jZ) (jv 1 rfl yA) jIQ)) qI) j5 jP) jP)))⟩
def jNA(F:Fun K "is_within" "is_within" jAY f fd)(T:Txt mg):FnOk P w K mg Aq CX0 1 f fd ["lot","other"] jBC:=by
 refine F.ok scWithin (λvs H Q E h=>?_) (λcdv A Ap s H vs Q E hr h=>?_)
 .obtain⟨_,_,_,_,rfl,_⟩:=h;rfl
 .obtain⟨a,b,xs,ys,rfl,ha,hb,hl,q⟩:=h;refine⟨_,(jST T).2.h,?_⟩;refine⟨a,rfl,⟨_,SqT.of ha⟩,jOL (tp:=true) ha hb hl rfl λD H3 h3 e3 n3=>?_⟩;refine⟨D,_,rfl,SqL.of h3,?_⟩;rw[jXT];exact q H3 e3
end Eo
namespace L2
open PySem PySem.Spec PyProof.Rows
def FunC.okZ{P:PySem.Program}{w:PySem.World}{mg:PySem.Str->Option PySem.Value}{Aq:PySem.Heap}{Z:PySem.Shared->Hp->Prop}{x qual:PySem.Str}{st:PySem.Stmt}{f c0:PySem.Addr}{fd:PySem.FuncData}{N ps:List PySem.Str}{k:Nat}{sp:Sp}(F:FunC K x qual st f fd c0)(S:FnScope N ps (j6 st))(len:∀vs H Q E,sp vs H Q E->vs.length=ps.length)
  (hbody:∀(A:PySem.Around) (Ap:List PySem.Env) (s:PySem.Shared) (H:Hp) (vs:List V) (Q:VK) (E:XK),Room k (A.deeper (envOfC qual (j6 st) s.heap.objs.size f (.ref c0)))->Z s H->sp vs H Q E->
   ∃t,PSs (cxOf CX0 P w K mg Aq N qual (j6 st) f (.ref c0) A Ap s H E).nox (jB st) t/\t {nx:=λ_ H'=>Q .non H',rt:=Q} (yH N vs) H):FnZ P w K mg Aq CX0 Z (k+1) f fd ps sp:=by
 obtain⟨oc,od,kV,doc,pm,an,ct,osl,rfl,lk,hcd⟩:=F.ex;refine jSM lk hcd S len λA Ap s H vs Q E hr hz hsp=>?_;obtain⟨t,ht,hq⟩:=hbody A Ap s H vs Q E hr hz hsp;exact⟨t,ht.nox,hq⟩
end L2
namespace Eo
open PySem L2
variable {fd:FuncData}
noncomputable def lamK(s:Stmt):Arguments×Expr×Scope×Pos:=match (jB s).getD 1 (.Pass ⟨0,0,0,0⟩) with
 | .For _ (.Call _ _ [⟨_,.Lambda a b sc p,_⟩] _) _ _ _=>(a,b,sc,p)
 |_=>(jU s,.Constant .none 0 ⟨0,0,0,0⟩,j6 s,⟨0,0,0,0⟩)
abbrev keyA:Arguments:=(lamK yY).1
abbrev keyB:Expr:=(lamK yY).2.1
abbrev keySc:Scope:=(lamK yY).2.2.1
abbrev keyPo:Pos:=(lamK yY).2.2.2
noncomputable abbrev nKey:Am:=["one"]
theorem scKey:NScope nKey ["one"] [] keySc:=⟨rfl,rfl,rfl,Ab,rfl,Ab,Ab,λx h=>by
  have hl:∀y∈keySc.names,y.2≠.free:=Ab;exact absurd rfl (hl _ (bV h)),Ab⟩
abbrev qKey:Str:= "least_lots.<locals>.<lambda>"
inductive spKey(vs:List V)(H:Hp)(Q:VK)(_:XK):Prop|i(a:Addr)(lot:Ag)(_:vs=[.ref a])(_:H a=some (.tup (lot.map V.int)))(_:∀r H',H' r=some (.tup [.int (lot.length:Int),.ref a])->Ext H H'->Q (.ref r) H')
def zhK(a c:Addr):Hp->Prop:=λH=>H a=some (.ext (nlP qKey keyA keyB keySc [] a c))/\H c=some (.ext (ncP qKey c))
def zhK.ext(a c:Addr)(H H':Hp)(e:Ext H H')(h:zhK a c H):zhK a c H':=⟨e _ _ h.1,e _ _ h.2⟩
section
variable {HI:Hp->Prop}{pr:Ag->Bool}
def jQY(T:Txt mg): {t:TE // JE (cxN P w K mg Aq nKey qKey keySc a (.ref c) cl A Ap s H0) keyB t}:=⟨_,(kD (j3 (jF jH gl_n T.len Ab (j3 (jv 0 rfl qB) j5 j4) j4) (j3 (jv 0 rfl qB) j5 j4) jE))⟩
theorem jWT(T:Txt mg):Callee P w K mg Aq ZT (zhK a c) 1 a spKey:=by
 refine Callee.imp (jOS (fv:=[]) scKey (λvs H Q E h=>?_) (λpm ctv us hl=>?_) λA Ap s H vs Q E hr h=>?_) λs H _=>⟨⟨λx y c h=>(by cases h),λx c h=>(by cases h)⟩,rfl,λi x v h=>(by cases h)⟩
 .obtain⟨_,_,rfl,_⟩:=h;rfl
 .match us,hl with
  |[_],_=>rfl
 .obtain⟨a,lot,rfl,ha,q⟩:=h;refine⟨_,(jQY T).2.h,?_⟩;refine⟨a,_,rfl,.inr (SqT.of ha),by show (2:Nat)<=_;decide,λr H' d e=>?_⟩;rw[af] at d;exact q r H' d e
abbrev TabK(H:Hp)(tb:Addr):Prop:=TabOk H tb keyPo qKey
inductive jGS(S:List Addr)(HI:Hp->Prop)(n:Nat)(pr:Ag->Bool)(vs:List V)(H:Hp)(Q:VK)(_:XK):Prop|i(a:Addr)(lot:Ag)(_:vs=[.ref a])(_:H a=some (.tup (lot.map V.int)))(_:Ris (n:Int) lot)(_:HI H)(_:∀H',ExS S H H'->HI H'->Q (.bl (pr lot)) H')
structure HIOk (S:List Addr)(HI:Hp->Prop):Prop where
 ext:∀{H H'},Ext H H'->HI H->HI H'
 off:∀{H b o},HI H->H b=some o->(∀ps,o≠.tbl ps)->b∉S
 lst:∀{H' H p xs ys},HI H'->H' p=none->HI H->H p=some (.lst xs)->HI (L2.upd H p (.lst ys))
def jMN(j tb:Addr)(S:List Addr)(HI:Hp->Prop)(n:Nat)(pr:Ag->Bool):Sp:=λvs H Q _=>vs=[.int (n:Int),.ref j]/\n<=16/\TabK H tb/\(∀H',ExtT tb H H'->TabK H' tb->HI H')/\tb∉S/\
 ∀l us H',H' l=some (.lst us)->LsAt H' us (jBR pr (qS n))->ExS (tb::S) H H'->HI H'->TabK H' tb->H l=none->Q (.ref l) H'
abbrev jKB:Am:=["things","holds","least","lot"]
def scLeast:FnScope jKB ["things","holds"] (j6 yY):= {}
abbrev jI4(P:Program)(w:World)(K:W.Frag)(mg:Ak)(Aq:Heap)(f c0:Addr)(A:Around)(Ap:List Env)(s:Shared)(H:Hp)(E:XK):Cx:=XOf jKB "least_lots" yY P w K mg Aq f (.ref c0) A Ap s H E
def jF8(T:Txt mg)(CW:Can P w K mg Aq "is_within" 1 fW fdW ["lot","other"] jBC)(CJ:Callee P w K mg Aq Z zh 8 j (jGS S HI n pr))(zs:ZSt Z)(hz:Z s H0)(hr:Room 8 (jI4 P w K mg Aq f c0 A Ap s H0 E).A): {t:TS // JSs (jI4 P w K mg Aq f c0 A Ap s H0 E) (yU ((jB yY).getD 1 (.Pass ⟨0,0,0,0⟩))) t}:=
 have nd:=scLeast.nd
 ⟨_,(jC (kY (jt_w (jXE (qK (yJ (jF (jEM rfl) gD T.any Ab (j3 (kU (m:=[none,some 3]) (Nc:=["shorter","lot"]) rfl (jAT (jv 2 rfl vL)) rfl Ab Ab (jR (psc:=j6 yY)) (jO (N:=jKB) rfl rfl Ab) (λcl C fp s H=>jT (i:=0) (show (["shorter","lot"]:Am).Nodup by decide+kernel) rfl yZ) (λcl C fp s H=>yK) (λcl C fp s H=>(CW.je (hr.mono Ac) gl_b (j3 (jv 0 rfl jZ) (j3 (jv 1 rfl yA) j5 j4) j4) j4)) qI) j5 jP) jP) kZ)) (jUN (yJ (jKN (j:=1) CJ hr zs hz rfl rfl vL (j3 (jv 3 rfl vC) j5 j4) j4) kZ)))) (jC (kP (je_bm cw dO dP jB1 (jv 2 rfl vL) (j3 (jv 3 rfl vC) j5 j4) j4) jL)) jS))⟩
def jX7(T:Txt mg)(CH:PySem.W.CodeHd Aq c0 tb)(BM:qZ Aq mg)(CO:Can P w K mg Aq "lot_of" 1 fO fdO ["mask"] jFN)(CW:Can P w K mg Aq "is_within" 1 fW fdW ["lot","other"] jBC)(CJ:Callee P w K mg Aq Z zh 8 j (jGS S HI n pr))(zs:ZSt Z)(hz:Z s H0)(hr:Room 8 (jI4 P w K mg Aq f c0 A Ap s H0 E).A): {t:TS // JSs (jI4 P w K mg Aq f c0 A Ap s H0 E) (jB yY) t}:=
 have nd:=scLeast.nd
 ⟨_,(j9 (jX (i:=2) nd rfl lL (jC0 j5) jEX) (j9 (qH bJ rfl (jAT (jHJ (jHS jUM (λq c=>jWT T) zhK.ext (hr.mono Ac)) gD T.sorted Ab (j3 (kU (m:=[none]) (Nc:=["mask"]) rfl (yC gD T.range (j3 (kR jH5 (je_int) (jv 0 rfl vL)) j5 y0) y0) rfl Ab Ab (jR (psc:=j6 yY)) (jO (N:=jKB) rfl rfl Ab) (λcl C fp s H=>jT (i:=0) (show (["mask"]:Am).Nodup by decide+kernel) rfl yZ) (λcl C fp s H=>yK) (λcl C fp s H=>(CO.je (hr.mono Ac) gl_b (j3 (jv 0 rfl jZ) j5 j4) j4)) kW) j5 jP) (jOB (jOF rfl CH BM (λy hy hf=>absurd hf (by revert y;decide+kernel)) rfl) jSJ) jP)) (jT (i:=3) nd rfl loc_c) (jF8 T CW CJ zs hz hr).2 kW) (jC (jM (jv 2 rfl vL)))))⟩
noncomputable def lotV(H:Hp):V->Ag
 | .ref a=>match H a with
  |some (.tup xs)=>xs.map λv=>match v with
   | .int i=>i
   |_=>0
  |_=>[]
 |_=>[]
def jO2{x:Ag}(h:H a=some (.tup (x.map V.int))):lotV H (.ref a)=x:=by
 dsimp only[lotV];rw[h];show (x.map V.int).map _=x;rw[bN];exact List.map_id'' (λ_=>rfl) x
def jO1:∀{us:List V}{ws:Af},LsAt H us ws->us.map (lotV H)=ws/\∀v∈us,∃a,v=.ref a/\H a=some (.tup ((lotV H v).map V.int))
 |[],[],_=>⟨rfl,λv h=>by cases h⟩
 |v::us,x::ws,⟨⟨a,e,h⟩,r⟩=>by
  obtain⟨i1,i2⟩:=jO1 r;subst e;refine⟨by rw[aW,jO2 h,i1],λv hv=>?_⟩;rcases aA.mp hv with z|z
  .rw[z,jO2 h];exact⟨a,rfl,h⟩
  .exact i2 v z
def jO0:∀{us:List V},(∀v∈us,∃a,v=.ref a/\H' a=some (.tup ((lotV H v).map V.int)))->LsAt H' us (us.map (lotV H))
 |[],_=>trivial
 |v::us,h=>⟨h v (ai ..),jO0 λw hw=>h w (ag _ hw)⟩
theorem jLL(T:Txt mg)(CW:Can P w K mg Aq "is_within" 1 fW fdW ["lot","other"] jBC)(CJ:Callee P w K mg Aq Z zh 8 j (jGS S HI n pr))(zs:ZSt Z)(hz:Z s H0)(hr:Room 8 (jI4 P w K mg Aq f c0 A Ap s H0 E).A)(hi:HIOk S HI)(hzh:∀H,HI H->zh H)
  {D:Ends}{H Hs:Hp}{q:Addr}{x:Ag}{us:List V}{acc:Af}(Is:HI Hs) (Ns:Hs l=none) (hI:HI H) (hl:H l=some (.lst us)) (hu:LsAt H us acc) (ul:acc.length<=65536) (hq:H q=some (.tup (x.map V.int))) (rx:Ris (n:Int) x) (ra:∀y∈acc,y.length<=1000)
  (nx:∀H' us',HI H'->(∀b o,H b=some o->b∉S->b≠l->H' b=some o)->H' l=some (.lst us')->LsAt H' us' (x0 pr acc x)->D.nx [some (.int (n:Int)),some (.ref j),some (.ref l),some (.ref q)] H'):
  (jF8 T CW CJ zs hz hr).1 D [some (.int (n:Int)),some (.ref j),some (.ref l),some (.ref q)] H:=by
 have ulen:=LsAt.len hu;refine⟨l,rfl,⟨_,SqL.of hl⟩,jDS (xs:=us) (λσ=>∃v1,σ=[v1,some (.ref q)]) (mapZ acc λy=>V.bl (inB y x)) (mapZ.ok _ _) hl (by rw[aN];lia) ⟨_,rfl⟩ ?_ ?_⟩
 .rintro i v σ' H' zs hv ⟨v1,rfl⟩ e hz' S1 S2 yes no;obtain⟨y,hy,a,rfl,ha⟩:=All2.get' hu hv;dsimp only[kT,qC];rw[ax rfl];exact⟨a,q,y,x,rfl,e _ _ ha,e _ _ hq,ra y (aJ hy),λH'' e'=>yes _ _ _ ⟨_,rfl⟩ e' (hz'.yes hy)⟩
 .rintro D' H1 zs h1 e1 n1 hz';have hz':=hz'.all (by rw[ulen];exact ar _);have hz2:zs=(acc.map λy=>inB y x).map V.bl:=by rw[hz',bN];rfl
  rw[hz2] at h1;refine⟨D',_,rfl,SqL.of h1,_,rfl,?_⟩;have ea:(acc.map λy=>inB y x).any id=acc.any λy=>inB y x:=by rw[any_map];rfl
  rw[ea];have I1:=hi.ext e1 hI;refine ite2 (λc1=>?_) (λc1=>?_)
  .refine⟨rfl,hzh _ I1,q,x,rfl,e1 _ _ hq,rx,I1,λH2 e2 I2=>⟨_,rfl,?_⟩⟩;have k2:∀b o,H1 b=some o->(∀ps,o≠.tbl ps)->H2 b=some o:=λb o h t=>e2 b o h (hi.off I1 h t);have tu:Tups H H2:=λb xs h=>k2 _ _ (e1 _ _ h) (by intro _ z;cases z);have hl2:=k2 _ _ (e1 _ _ hl) (by intro _ z;cases z);have kk:∀b o,H b=some o->b∉S->b≠l->H2 b=some o:=λb o h ns _=>e2 _ _ (e1 _ _ h) ns;refine ite2 (λc2=>?_) (λc2=>?_)
   .have hs:x0 pr acc x=acc++[x]:=by
     unfold x0;rw[ax (by rw[c1,c2];rfl)]
    refine⟨.inl ⟨rfl,_,SqL.of hl2⟩,l,us,_,rfl,rfl,hl2,by rw[aN];lia,?_⟩;have t2:=Tups.upd hl2 (.lst (us++[.ref q]));refine nx _ _ (hi.lst Is Ns I2 hl2) (λb o h ns nl=>by rw[j8 nl];exact kk b o h ns nl) j7 ?_;rw[hs];exact LsAt.snoc (LsAt.mono t2 (LsAt.mono tu hu)) (t2 _ _ (tu _ _ hq))
   .have hs:x0 pr acc x=acc:=by
     unfold x0;rw[aq (by rw[bC];exact λz=>c2 z.2)]
    exact nx H2 us I2 kk hl2 (by rw[hs];exact LsAt.mono tu hu)
  .have hs:x0 pr acc x=acc:=by
    unfold x0;rw[aq (by rw[bC];exact λz=>c1 z.1)]
   exact iteF (nx H1 us I1 (λb o h _ _=>e1 _ _ h) (e1 _ _ hl) (by rw[hs];exact LsAt.mono e1.tups hu))
theorem jQK(F:FunC K "least_lots" "least_lots" yY f fd c0)(T:Txt mg)(CH:PySem.W.CodeHd Aq c0 tb)(BM:qZ Aq mg)(CO:Can P w K mg Aq "lot_of" 1 fO fdO ["mask"] jFN)(CW:Can P w K mg Aq "is_within" 1 fW fdW ["lot","other"] jBC)(CJ:Callee P w K mg Aq Z zh 8 j (jGS S HI n pr))(zs:ZSt Z)(hi:HIOk S HI)(hzh:∀H,HI H->zh H):FnZ P w K mg Aq CX0 Z 9 f fd ["things","holds"] (jMN j tb S HI n pr):=by
 refine F.okZ scLeast (λvs H Q E h=>?_) (λA Ap s H vs Q E hr hz h=>?_)
 .obtain⟨rfl,_⟩:=h;rfl
 .obtain⟨rfl,n16,tab,hI0,ntb,q⟩:=h;refine⟨_,(jX7 T CH BM CO CW CJ zs hz hr).2.h,?_⟩;have p16:2^n<=2^16:=cA Ac n16;have p16':(2^16:Nat)=65536:=Ac;refine⟨by show (0:Nat)<=_;decide,λl H1 d1 e1 n1=>?_⟩;have e2n:(1:Int)*2^((n:Nat):Int).toNat=((2^n:Nat):Int):=by rw[Int.one_mul,aX];push_cast;rfl
  refine⟨_,_,rfl,rfl,⟨Aa,Aa,Aa⟩,?_⟩;have p0:=d9 n;generalize hN:2^n=N at p16 p0 e2n;refine⟨((N:Nat):Int),by rw[<- e2n],Aa,Aa,?_⟩;subst hN;refine jDR (n:=((2^n:Nat):Int).toNat) (λσ=>∃v,σ=[v]) (lsZ (List.range (2^n)) (λ_=>true) (btsN n)) (lsZ.ok _ _ _) (by rw[aN,aX];lia) ⟨_,rfl⟩ ?_ ?_
  .rintro i σ' H' zs' hi' ⟨v,rfl⟩ e hz' S1 S2 yes no;rw[aX] at hi';dsimp only[kT,qC];rw[ax rfl];have e0:(0+(i:Int))=(i:Int):=Aa;refine⟨i,n,by rw[e0];rfl,hi',Aa,λr H'' d e'=>?_⟩;exact yes _ _ _ ⟨_,rfl⟩ e' (hz'.yes e'.tups (cq hi') rfl d)
  .rintro D H2 us h2 e2 n2 hz';have hu:LsAt H2 us (jB8 n):=by
    have:=hz'.all (by rw[b8,aX];exact ar _);rw[gZ.mpr (λ_ _=>rfl)] at this;exact this
   have E2:=e1.trans e2;refine⟨tab.ext E2,λa c H3 k1 k2 k3 e3 na=>?_⟩;have T2:TabK H2 tb:=tab.ext E2;have T3:TabK H3 tb:=.inr ⟨c,k3,k2⟩;have tu3:Tups H2 H3:=λb xs h=>e3.at T2 h;have u3:=LsAt.mono tu3 hu;obtain⟨m1,m2⟩:=jO1 u3;refine⟨D,us,a,c,λv=>keyL (lotV H3 v),rfl,rfl,SqL.of (e3.at T2 h2),⟨k1,k2⟩,λv hv=>let ⟨x,e,_⟩:=m2 v hv;⟨x,e⟩,λv hv H4 Q4 e4 k4=>?_,λl2 us' H4 nl pm pw e4 h4=>?_⟩
   .obtain⟨x,rfl,hx⟩:=m2 v hv;exact⟨x,_,rfl,e4 _ _ hx,λr H5 d e=>k4 _ _ ⟨r,x,_,_,rfl,d,e _ _ (e4 _ _ hx),rfl⟩ e⟩
   .have m3:∀v∈us',∃a,v=.ref a/\H4 a=some (.tup ((lotV H3 v).map V.int)):=λv hv=>by
     obtain⟨x,e,hx⟩:=m2 v (pm.mem_iff.mp hv);exact⟨x,e,e4 _ _ hx⟩
    have w4:LsAt H4 us' (qS n):=by
     have p1:(us'.map (lotV H3)).Perm (jB8 n):=by rw[<- m1];exact pm.map _
     have p2:((us'.map (lotV H3)).map keyL).Pairwise λa b=>HT.lexLt b a=false:=by
      rw[bG,bG];exact pw
     rw[<- jL7 p1 p2];exact jO0 m3
    have d4:H4 l=some (.lst []):=e4 _ _ (e3.at T2 (e2 _ _ d1));have ne:l2≠l:=λz=>by rw[z,e3.at T2 (e2 _ _ d1)] at nl;cases nl
    have I3:HI H3:=hI0 H3 (λb o h ns=>e3 b o (E2 _ _ h) ns) T3;have I4:=hi.ext e4 I3;refine⟨l2,rfl,⟨_,SqL.of h4⟩,jDQ (xs:=us') (λi σ H'=>(∃v3,σ=[some (.int (n:Int)),some (.ref j),some (.ref l),v3])/\HI H'/\(∀b o,H4 b=some o->b∉S->b≠l->H' b=some o)/\∃zs,H' l=some (.lst zs)/\LsAt H' zs (jBR pr ((qS n).take i))) ⟨⟨_,rfl⟩,I4,λb o h _ _=>h,[],d4,trivial⟩ (λi σ H' _ ⟨_,_,k,_⟩=>SqL.of (k _ _ h4 (hi.off I4 h4 (by intro _ z;cases z)) ne)) ?_ ?_⟩
    .rintro i v σ H' hv ⟨⟨v3,rfl⟩,I',k',zs',z1,z2⟩;obtain⟨x,hx,qa,rfl,hqa⟩:=All2.get' w4 hv;have xs:=aJ hx;have hq':H' qa=some (.tup (x.map V.int)):=k' _ _ hqa (hi.off I4 hqa (by intro _ z;cases z)) λz=>by rw[z,d4] at hqa;cases hqa
     have il:i<us'.length:=(aj.mp hv).1;have sl:=jGZ n;have wl:=LsAt.len w4;have al:=jBG pr (qS n) i;refine jLL T CW CJ zs hz hr hi hzh (hI0 H (λb o h _=>h) tab) n1 I' z1 z2 Aa hq' (jDZ xs) (λy hy=>?_) λH'' us'' I'' k'' z3 z4=>⟨⟨_,rfl⟩,I'',λb o h ns nl=>k'' b o (k' b o h ns nl) ns nl,us'',z3,?_⟩
     .rcases jCV hy with z|z
      .cases z
      .have r:=jDZ (bP z);have:=jE0 y 0 n r.ris r.bnd;lia
     .rw[jED hx];exact z4
    .rintro σ H' ⟨⟨v3,rfl⟩,I',k',zs',z1,z2⟩;have wl:=LsAt.len w4;rw[wl,bq] at z2;refine q l zs' H' z1 z2 (λb o h ns=>?_) I' ?_ n1
     .have ns2:b∉S:=λz=>ns (ag _ z);have nt:b≠tb:=λz=>ns (z ▸ ai ..);exact k' b o (e4 _ _ (e3 b o (E2 _ _ h) nt)) ns2 λz=>by rw[z,n1] at h;cases h
     .have t4:H4 tb=some (.tbl (onePs keyPo c)):=e4 _ _ k3;refine .inr ⟨c,k' _ _ t4 ntb λz=>(by rw[z,d4] at t4;cases t4),k' _ _ (e4 _ _ k2) (hi.off I4 (e4 _ _ k2) (by intro _ z;cases z)) λz=>?_⟩;have:=e4 _ _ k2;rw[z,d4] at this;cases this
end
def jKH(s:Stmt):Arguments×Expr×Scope×Pos:=match (jB s).getD 1 (.Pass ⟨0,0,0,0⟩) with
 | .Return (some (.Call _ [_,.Lambda a b sc p] _ _)) _=>(a,b,sc,p)
 |_=>(jU s,.Constant .none 0 ⟨0,0,0,0⟩,j6 s,⟨0,0,0,0⟩)
abbrev barA':Arguments:=(jKH yP).1
abbrev barB':Expr:=(jKH yP).2.1
abbrev barSc:Scope:=(jKH yP).2.2.1
abbrev barPo:Pos:=(jKH yP).2.2.2
noncomputable abbrev nBarL:Am:=["lot","box"]
theorem jVX:NScope nBarL ["lot"] ["box"] barSc:=⟨rfl,rfl,rfl,Ab,rfl,Ab,Ab,λx h=>by
  have hl:∀y∈barSc.names,y.2=.free->y.1= "box" :=Ab;rw[show x=_ from hl _ (bV h) rfl];exact ai .., by decide+kernel⟩
abbrev qBarL:Str:= "least_bars.<locals>.<lambda>"
structure BI where
 a:Addr
 c:Addr
 b:Addr
 w:Int
 ms:Ag
 ly:Ae
 g:Good 16 32 w ms ly
abbrev barP(ms:Ag)(ly:Ae)(x:Ag):Bool:=decide (wkN ms ly x=[])
def zhB(cl:Aj)(i:BI):Hp->Prop:=λH=>H i.a=some (.ext (nlP qBarL barA' barB' barSc cl i.a i.c))/\H i.c=some (.ext (ncP qBarL i.c))
def HIb(tb1 tb2:Addr)(cl:Aj)(i:BI):Hp->Prop:=λH=>zhB cl i H/\BoxAt H i.b i.w i.ms i.ly/\Tb2 H tb1 tb2
def TabOk.lst{H:Hp}{T p:Addr}{pos:Pos}{q:Str}{xs:List V}{o:HO}(t:TabOk H T pos q)(hp:H p=some (.lst xs)):TabOk (L2.upd H p o) T pos q:=by
 have ne:∀c o,H c=some o->(∀xs,o≠.lst xs)->c≠p:=λc o h n z=>by
  rw[z,hp] at h;cases h;exact n _ rfl
 rcases t with h|⟨c,h,h2⟩
 .exact .inl (by rw[j8 (ne _ _ h (by intro _ z;cases z))];exact h)
 .exact .inr ⟨c,by rw[j8 (ne _ _ h (by intro _ z;cases z))];exact h,by rw[j8 (ne _ _ h2 (by intro _ z;cases z))];exact h2⟩
def HIb.ok(tb1 tb2:Addr)(cl:Aj)(i:BI):HIOk [tb1,tb2] (HIb tb1 tb2 cl i) where
 ext e h:=⟨⟨e _ _ h.1.1,e _ _ h.1.2⟩,h.2.1.mono e.tups,h.2.2.ext e⟩
 off h e t z:=by
  rcases aA.mp z with z|z
  .exact h.2.2.p.ne e t z
  .exact h.2.2.w.ne e t (aF.mp z)
 lst _ _ h hp:=⟨⟨by rw[j8 (λz=>by have:=h.1.1;rw[z,hp] at this;cases this)];exact h.1.1,by rw[j8 (λz=>by have:=h.1.2;rw[z,hp] at this;cases this)];exact h.1.2⟩,h.2.1.mono (Tups.upd hp _),⟨TabOk.lst h.2.2.p hp,TabOk.lst h.2.2.w hp,h.2.2.ne⟩⟩
def jRQ(CB:Can P w K mg Aq "is_bar" 7 fB fdB ["box","lot"] (spBar tb1 tb2))(hr:Room 7 (cxN P w K mg Aq nBarL qBarL barSc a (.ref c) cl A Ap s H0).A): {t:TE // JE (cxN P w K mg Aq nBarL qBarL barSc a (.ref c) cl A Ap s H0) barB' t}:=⟨_,(CB.je hr gl_n (j3 (jv 1 rfl (jRT Ab)) (j3 (jv 0 rfl qB) j5 j4) j4) j4)⟩
theorem jU9(CB:Can P w K mg Aq "is_bar" 7 fB fdB ["box","lot"] (spBar tb1 tb2))(cl:Aj)(i:BI):Callee P w K mg Aq (ZC cl ["box"] [.ref i.b]) (zhB cl i) 8 i.a (jGS [tb1,tb2] (HIb tb1 tb2 cl i) i.w.toNat (barP i.ms i.ly)):=by
 refine jOS (fv:=[.ref i.b]) jVX (λvs H Q E h=>?_) (λpm ctv us hl=>?_) λA Ap s H vs Q E hr h=>?_
 .obtain⟨_,_,rfl,_⟩:=h;rfl
 .match us,hl with
  |[_],_=>rfl
 .obtain⟨x,lot,rfl,hx,rk,hI,q⟩:=h;refine⟨_,(jRQ CB hr).2.h,?_⟩;have w0:=i.g.w0;have rw':Ris i.w lot:=⟨rk.ris,λz hz=>by have:=rk.bnd z hz;lia⟩;refine⟨i.b,x,i.w,i.ms,i.ly,lot,rfl,hI.2.1,i.g,hx,rw',hI.2.2,λH' e t=>?_⟩;refine q H' (λb o h n=>e b o h (λz=>n (z ▸ ai ..)) λz=>n (z ▸ ag _ (ai ..))) ⟨⟨e.at hI.2.2 hI.1.1,e.at hI.2.2 hI.1.2⟩,hI.2.1.mono (e.tups hI.2.2),t⟩
abbrev jKC:Am:=["box"]
def scLBars:FnScope jKC ["box"] (j6 yP):= {}
theorem fsBL:∀x∈(["box"]:Am),barSc.names.lookup x=some .free:=Ab
theorem jXM:FsAt (XOf jKC "least_bars" yP P w K mg Aq f (.ref c0) A Ap s H0 E) ["box"] [0]:=⟨rfl,λk x h=>by
 match k,h with
 | 0,h=>
  cases h;exact⟨0,rfl,rfl,.inl (show (j6 yP).names.lookup (("box":String):Str)=some .cell by decide+kernel)⟩
 |k+1,h=>cases h⟩
abbrev tP(tb:Addr):TT:=⟨tb,jS9,"picked.<locals>.named"⟩
abbrev tW(tb:Addr):TT:=⟨tb,lamP,qLam⟩
abbrev tK(tb:Addr):TT:=⟨tb,keyPo,qKey⟩
abbrev tB(tb:Addr):TT:=⟨tb,barPo,qBarL⟩
abbrev L4(tb1 tb2 tb3 tb4:Addr):List TT:=[tP tb1,tW tb2,tK tb3,tB tb4]
def lBars(w:Int)(ms:Ag)(ly:Ae):Af:=jBR (barP ms ly) (qS w.toNat)
inductive jCO(tb1 tb2 tb3 tb4:Addr)(vs:List V)(H:Hp)(Q:VK)(_:XK):Prop|i(b:Addr)(w:Int)(ms:Ag)(ly:Ae)(_:vs=[.ref b])(_:BoxAt H b w ms ly)(_:Good 16 32 w ms ly)(_:w<=9)(_:TbS (L4 tb1 tb2 tb3 tb4) H)(_:∀l us H',H' l=some (.lst us)->LsAt H' us (lBars w ms ly)->ExS (ads (L4 tb1 tb2 tb3 tb4)) H H'->TbS (L4 tb1 tb2 tb3 tb4) H'->H l=none->Q (.ref l) H')
abbrev jJN(tb1 tb2 tb3:Addr)(cl:Aj)(i:BI):Sp:=jMN i.a tb3 [tb1,tb2] (HIb tb1 tb2 cl i) i.w.toNat (barP i.ms i.ly)
def jX8(T:Txt mg)(CH:PySem.W.CodeHd Aq c0 tb4)(BM:qZ Aq mg){u9:Tok}(MN:mg "MOST_THINGS_WITH_BARS" =some (.int 9 u9))(FG:∀cl i,FnZ P w K mg Aq CX0 (ZC cl ["box"] [.ref i.b]) 9 fG fdG ["things","holds"] (jJN tb1 tb2 tb3 cl i))(MG:mg "least_lots" =some (.ref fG))(KG:keepIn K (.ref fG)=true)(BG:Binds K fdG ["things","holds"] [])(hr:Room 9 (XOf jKC "least_bars" yP P w K mg Aq f (.ref c0) A Ap s H0 E).A): {t:TS // JSs (XOf jKC "least_bars" yP P w K mg Aq f (.ref c0) A Ap s H0 E) (jB yP) t}:=
 have nd:=scLBars.nd
 ⟨_,(j9 (kY (jY op_gt (jI jG (jv 0 rfl vC) (je_int) jD) (jJ5 (v:=.int 9) gD MN ⟨_,rfl⟩) (jQ _)) (jC (jBS)) jS) (jC (jM (jKM (G:=λ(i:BI) σ=>jDK σ [0] [.ref i.b]) (FG _) hr gD MG KG BG (λi lw s σ H I q=>⟨I.clOk (jR (psc:=j6 yP)),I.fvOk (jR (psc:=j6 yP)) fsBL jXM q⟩) (j3 (jI jG (jv 0 rfl vC) (je_int) jD) (j3 (jOF rfl CH BM (jR (psc:=j6 yP)) rfl) j5 jS5) jJ) jJ))))⟩
theorem jQL(F:FunC K "least_bars" "least_bars" yP f fd c0)(T:Txt mg)(CH:PySem.W.CodeHd Aq c0 tb4)(BM:qZ Aq mg){u9:Tok}(MN:mg "MOST_THINGS_WITH_BARS" =some (.int 9 u9))(FG:∀cl i,FnZ P w K mg Aq CX0 (ZC cl ["box"] [.ref i.b]) 9 fG fdG ["things","holds"] (jJN tb1 tb2 tb3 cl i))(MG:mg "least_lots" =some (.ref fG))(KG:keepIn K (.ref fG)=true)(BG:Binds K fdG ["things","holds"] []):FnOk P w K mg Aq CX0 10 f fd ["box"] (jCO tb1 tb2 tb3 tb4):=by
 refine F.ok scLBars (λvs H Q E h=>?_) (λA Ap s H vs Q E hr h=>?_)
 .obtain⟨_,_,_,_,rfl,_⟩:=h;rfl
 .obtain⟨b,wi,ms,ly,rfl,hB,g,w9,tab,q⟩:=h;refine⟨_,(jX8 T CH BM MN FG MG KG BG hr).2.h,?_⟩;obtain⟨qm,qp,ps,b1,b2,b3,b4⟩:=id hB.ex;have w0:=g.w0;have nd:=tab.nd;unfold ads L4 at nd;simp only[aW,fJ,cg,aA,aS,bX,iP] at nd;obtain⟨⟨n12,n13,n14⟩,⟨n23,n24⟩,n34,_⟩:=nd;have o1:=tab.ok (tP tb1) (ai ..);have o2:=tab.ok (tW tb2) (ag _ (ai ..));have o3:=tab.ok (tK tb3) (ag _ (ag _ (ai ..)));have o4:=tab.ok (tB tb4) (ag _ (ag _ (ag _ (ai ..))));refine⟨b,_,0,_,rfl,rfl,SqT.of b1,rfl,_,_,rfl,rfl,_,rfl,?_⟩;refine iteN (aH Aa) ?_;refine⟨b,_,0,_,rfl,rfl,SqT.of b1,rfl,o4,λa c H1 k1 k2 k3 e1 na=>?_⟩;have x1:ExS (ads (L4 tb1 tb2 tb3 tb4)) H H1:=ExS.ofT e1 (by show tb4∈[tb1,tb2,tb3,tb4];simp);have T1:TbS (L4 tb1 tb2 tb3 tb4) H1:=tab.setT (x:=tB tb4) (ag _ (ag _ (ag _ (ai ..)))) e1 (.inr ⟨c,k3,k2⟩);have tu1:=tab.tups x1;have p1:=T1.ok (tP tb1) (ai ..);have p2:=T1.ok (tW tb2) (ag _ (ai ..));have p3:=T1.ok (tK tb3) (ag _ (ag _ (ai ..)));have t12:Tb2 H1 tb1 tb2:=⟨p1,p2,n12⟩;refine⟨⟨a,c,b,wi,ms,ly,g⟩,rfl,by show [V.int wi,V.ref a]=[V.int ((wi.toNat:Nat):Int),V.ref a];rw[eZ w0],by show wi.toNat<=16;lia,p3,λH' e' t'=>?_,?_,λl us H2 h2 hu e2 I2 k2' n2=>?_⟩
  .have at1:∀{b:Addr}{o:HO},H1 b=some o->(∀ps,o≠.tbl ps)->H' b=some o:=λ{b o} h t=>e' b o h (p3.ne h t);refine⟨⟨at1 k1 (by intro _ z;cases z),at1 k2 (by intro _ z;cases z)⟩,(hB.mono tu1).mono λb xs h=>at1 h (by intro _ z;cases z),?_⟩;exact⟨TabOk.extO t12.p n13 (λc h=>p3.ne h (by intro _ z;cases z)) e',TabOk.extO t12.w n23 (λc h=>p3.ne h (by intro _ z;cases z)) e',n12⟩
  .show tb3∉ [tb1,tb2];simp only[aA,aS,bX,iP];exact⟨λz=>n13 z.symm,λz=>n23 z.symm⟩
  .have e3:ExS (ads (L4 tb1 tb2 tb3 tb4)) H1 H2:=ExS.mono (λx hx=>by
    show x∈[tb1,tb2,tb3,tb4];simp only[aA,aS,bX] at hx ⊢;rcases hx with z|z|z
    .exact .inr (.inr (.inl z))
    .exact .inl z
    .exact .inr (.inl z)) e2
   have T2:TbS (L4 tb1 tb2 tb3 tb4) H2:=T1.set (S:=[tb3,tb1,tb2]) (λx hx=>by
    show x∈[tb1,tb2,tb3,tb4];simp only[aA,aS,bX] at hx ⊢;rcases hx with z|z|z
    .exact .inr (.inr (.inl z))
    .exact .inl z
    .exact .inr (.inl z)) e2 λx hx hm=>by
     simp only[aA,aS,bX] at hx;rcases hx with rfl|rfl|rfl|rfl
     .exact I2.2.2.p
     .exact I2.2.2.w
     .exact k2'
     .exfalso;simp only[aA,aS,bX] at hm;rcases hm with z|z|z
      .exact n34 z.symm
      .exact n14 z.symm
      .exact n24 z.symm
   refine q l us H2 h2 hu (x1.trans e3) T2 ?_;cases z:H l with
   |none=>rfl
   |some o=>
    by_cases y:l=tb4
    .rw[y,k3] at n2;cases n2
    .rw[e1 _ _ z y] at n2;cases n2
end Eo
namespace L2
open PySem
def Callee.imp2{zh':Hp->Prop}{k:Nat}{sp sp':Sp}(C:Callee P w K mg Aq Z zh k a sp)(h1:∀H,zh' H->zh H)(h2:∀vs H Q E,zh' H->sp' vs H Q E->sp vs H Q E):Callee P w K mg Aq Z zh' k a sp':=
 ⟨λA Ap s H e z=>C.fn A Ap s H e (h1 H z),λA Ap s H us vs Q E hr he hz zh r q=>C.run A Ap s H us vs Q E hr he hz (h1 H zh) r (h2 _ _ _ _ zh q)⟩
end L2
namespace Eo
open PySem L2
variable {m:Nat}
def wgt(ly:Ae)(k:Int):Int:=(ly.getD k.toNat ([],0)).2
def wt(ly:Ae)(x:Ag):Int:=(x.map (wgt ly)).sum
def minW(ly:Ae):Af->Option (Ag)
 |[]=>none
 |x::r=>match minW ly r with
  |none=>some x
  |some y=>if wt ly y<wt ly x then some y else some x
def qY(ly:Ae):Option (Ag)->Option (Ag)->Option (Ag)
 |none,b=>b
 |some x,none=>some x
 |some x,some y=>if wt ly y<wt ly x then some y else some x
def minW_none{l:Af}:minW ly l=none↔l=[]:=by
 cases l with
 |nil=>exact⟨λ_=>rfl,λ_=>rfl⟩
 |cons x r=>
  refine⟨λh=>?_,λh=>(by cases h)⟩;unfold minW at h;split at h
  .cases h
  .split at h<;>cases h
theorem jJ2(ly:Ae)(a b c:Option (Ag)):qY ly (qY ly a b) c=qY ly a (qY ly b c):=by
 cases a with
 |none=>rfl
 |some x=>cases b with
  |none=>rfl
  |some y=>cases c with
   |none=>
    show qY ly (if wt ly y<wt ly x then some y else some x) none=if wt ly y<wt ly x then some y else some x
    split<;>rfl
   |some z=>
    show qY ly (if wt ly y<wt ly x then some y else some x) (some z)=qY ly (some x) (if wt ly z<wt ly y then some z else some y);by_cases h1:wt ly y<wt ly x<;>by_cases h2:wt ly z<wt ly y<;>by_cases h3:wt ly z<wt ly x<;>simp only[h1,h2,h3,fE,ic,qY]<;>first|rfl|lia
def jB2(ly:Ae)(x:Ag)(r:Af):minW ly (x::r)=qY ly (some x) (minW ly r):=by
 rw[minW];cases minW ly r<;>rfl
def jE7(ly:Ae):∀(a b:Af),minW ly (a++b)=qY ly (minW ly a) (minW ly b)
 |[],b=>rfl
 |x::r,b=>by rw[iV,jB2,jE7 ly r b,jB2,jJ2]
def jLY(ly:Ae)(c:Int)(x:Ag):wt ly (c::x)=wgt ly c+wt ly x:=by
 unfold wt;rw[aW,iR]
theorem jKD(ly:Ae)(c:Int):∀(l:Af),minW ly (l.map λx=>if c<0 then x else c::x)=(minW ly l).map λx=>if c<0 then x else c::x
 |[]=>rfl
 |x::r=>by
  rw[aW,jB2,jB2,jKD ly c r];cases minW ly r with
  |none=>rfl
  |some y=>
   show (if wt ly (if c<0 then y else c::y)<wt ly (if c<0 then x else c::x) then _ else _)=Option.map _ (if wt ly y<wt ly x then some y else some x);by_cases hc:c<0
   .simp only[hc,fE];split<;>rfl
   .simp only[hc,ic,jLY];by_cases h:wt ly y<wt ly x
    .rw[ax Aa,ax h];rfl
    .rw[aq Aa,aq h];rfl
theorem jDM{x:Ag}:∀{l:Af},minW ly l=some x->x∈l/\∀y∈l,wt ly x<=wt ly y
 |[],h=>by cases h
 |z::r,h=>by
  rw[jB2] at h;cases hr:minW ly r with
  |none=>
   rw[hr] at h;have h:some z=some x:=h;cases h;rw[minW_none.mp hr];exact⟨ai .., λy hy=>by rw[aF] at hy;rw[hy];exact cL _⟩
  |some y=>
   rw[hr] at h;obtain⟨i1,i2⟩:=jDM hr;have h:(if wt ly y<wt ly z then some y else some z)=some x:=h;split at h
   .cases h;refine⟨ag _ i1,λu hu=>?_⟩;rcases aA.mp hu with q|q
    .rw[q];lia
    .exact i2 u q
   .cases h;refine⟨ai .., λu hu=>?_⟩;rcases aA.mp hu with q|q
    .rw[q];exact cL _
    .have:=i2 u q;lia
def LtAt(ly:Ae)(H:Hp)(v:V)(o:Option (Ag)):Prop:=match o with
 |none=>v=.non
 |some x=>∃q r,v=.ref q/\H q=some (.tup [.int (wt ly x),.ref r])/\H r=some (.tup (x.map V.int))
def LtAt.mono{v:V}{o:Option (Ag)}(t:Tups H H')(h:LtAt ly H v o):LtAt ly H' v o:=by
 cases o with
 |none=>exact h
 |some x=>obtain⟨q,r,e,h1,h2⟩:=h;exact⟨q,r,e,t _ _ h1,t _ _ h2⟩
def RLt(ly:Ae)(ch:Ch):RepT:=λm H v=>LtAt ly H v (minW ly (wk ch m))
def RLt.ok(ly:Ae)(ch:Ch):RepOk (RLt ly ch):=λm v=>⟨λH H' D kvs hD _ k h=>h.mono λq xs hq=>k _ _ hq λz=>(by rw[z,hD] at hq;cases hq),λH H' e h=>h.mono e.tups⟩
def preW(ch:Ch)(m i:Nat):Af:=wJ (((chAt ch m).take i).map λc=>(c.1,wk ch (m|||c.2)))
def jN2{ch:Ch}{i:Nat}{c:Int×Nat}(h:(chAt ch m)[i]?=some c):preW ch m (i+1)=preW ch m i++(wk ch (m|||c.2)).map λx=>if c.1<0 then x else c.1::x:=by
 unfold preW;rw[bf,h,aU,jM2];congr 1;unfold wJ;exact List.flatMap_singleton _ _
def jPV{ch:Ch}(o:ChOk ch)(h:m<2^ch.length)(hn:m≠fullN ch):preW ch m (chAt ch m).length=wk ch m:=by
 unfold preW;rw[bq,jI8 o h hn]
def ifOf:Stmt->List Stmt
 | .If _ b _ _=>b
 |_=>[]
structure LI where
 a:Addr
 c:Addr
 b:Addr
 w:Int
 ms:Ag
 ly:Ae
 g:Good 16 32 w ms ly
abbrev LI.ch(i:LI):Ch:=chs i.w.toNat i.ms i.ly
abbrev qQ:Stmt:=(jB yX).getD 0 (.Pass ⟨0,0,0,0⟩)
abbrev pLBeh:Pos:=match qQ with
 | .FunctionDef _ _ _ _ _ _ _ _ _ p=>p
 |_=>⟨0,0,0,0⟩
abbrev qLB:Str:= "lightest.<locals>.lightest_behind"
noncomputable abbrev nLBeh:Am:=["behind","box","best","number","found","weight"]
theorem scLBeh:NScope nLBeh ["behind"] ["box"] (j6 qQ):=⟨rfl,rfl,rfl,Ab,rfl,Ab,Ab,λx h=>by
  have hl:∀y∈(j6 qQ).names,y.2=.free->y.1= "box" :=Ab;rw[aF];exact hl _ (bV h) rfl,Ab⟩
def spLB:List V->Sp:=λfv vs H Q E=>∃i:LI,fv=[.ref i.b]/\BoxAt H i.b i.w i.ms i.ly/\jF0 i.ch (RLt i.ly i.ch) vs H Q E
section
def lbInA(T:Txt mg): {t:TS // JSs (cxN P w K mg Aq nLBeh qLB (j6 qQ) f cd cl A Ap s H0) ((ifOf ((yU ((jB qQ).getD 1 (.Pass ⟨0,0,0,0⟩))).getD 0 (.Pass ⟨0,0,0,0⟩))).drop 1) t}:=
 have nd:=scLBeh.nd
 ⟨_,(jC (kY (jt_w (jw_or (jY jK1 (jv 2 rfl qB) (jEF) (jQ _)) (jKJ (jY op_lt (jv 5 rfl qB) (jI jG (jv 2 rfl qB) (je_int) jD) (jQ _))))) (jC (jX (i:=2) nd rfl loc_n (kD (j3 (jv 5 rfl qB) (j3 (jHI (jY op_ge (jv 3 rfl qB) (je_int) (jQ _)) (kR jFV (kD (j3 (jv 3 rfl qB) j5 j4)) (jI jG (jv 4 rfl qB) (je_int) jD)) (jI jG (jv 4 rfl qB) (je_int) jD)) j5 jVV) j4)) jME)) jS))⟩
def jUL(T:Txt mg): {t:TS // JSs (cxN P w K mg Aq nLBeh qLB (j6 qQ) f cd cl A Ap s H0) (yU ((jB qQ).getD 1 (.Pass ⟨0,0,0,0⟩))) t}:=
 have nd:=scLBeh.nd
 ⟨_,(jC (kY (jY jTT (jv 4 rfl qB) (jEF) (jQ _)) (j9 (jX (i:=5) nd rfl loc_n (kR yF (jI jG (jv 4 rfl qB) (je_int) jD) (jHI (jY op_ge (jv 3 rfl qB) (je_int) (jQ _)) (jI jG (jI jG (jI jG (jv 1 rfl (jRT Ab)) (je_int) jD) (jv 3 rfl qB) jBW) (je_int) jD) (je_int))) jMH) (lbInA T).2) jS))⟩
def lbehA(T:Txt mg): {t:TS // JSs (cxN P w K mg Aq nLBeh qLB (j6 qQ) f cd cl A Ap s H0) (jB qQ) t}:=
 have nd:=scLBeh.nd
 ⟨_,(j9 (jX (i:=2) nd rfl loc_n (jEF) jJL) (j9 (qH bJ rfl (jAT (jv 0 rfl qB)) (jR0 (i:=3) (j:=4) nd rfl rfl Ab Ab) (jUL T).2 qI) (jC (jM (jv 2 rfl qB)))))⟩
theorem lb_in(T:Txt mg){D:Ends}{b pq pr:Addr}{ve:V}{c:Int}{y:Ag}{ob:Option (Ag)}(hpq:H pq=some (.tup [.int (wt ly y),.ref pr]))(hpr:H pr=some (.tup (y.map V.int)))(yl:y.length<=16)(hve:LtAt ly H ve ob)
  (nx:∀H' ve',Ext H H'->LtAt ly H' ve' (qY ly ob (some (if c<0 then y else c::y)))->D.nx [some (.ref l),some (.ref b),some ve',some (.int c),some (.ref pq),some (.int (wt ly (if c<0 then y else c::y)))] H'):
  (lbInA (P:=P) (w:=w) (K:=K) (mg:=mg) (Aq:=Aq) (f:=f) (cd:=cd) (cl:=cl) (A:=A) (Ap:=Ap) (s:=s) (H0:=H0) T).1 D [some (.ref l),some (.ref b),some ve,some (.int c),some (.ref pq),some (.int (wt ly (if c<0 then y else c::y)))] H:=by
 refine⟨rfl,_,rfl,?_⟩;rcases ob with _|z
 case' none=>
  have hve:ve=.non:=hve;subst hve;have ej:qY ly none (some (if c<0 then y else c::y))=some (if c<0 then y else c::y):=rfl;refine iteT (iteT ?_)
 case' some=>
  obtain⟨zq,zr,rfl,hz1,hz2⟩:=hve;refine iteF ⟨zq,_,0,_,rfl,rfl,SqT.of hz1,rfl,_,_,rfl,rfl,_,rfl,?_⟩;by_cases hlt:wt ly (if c<0 then y else c::y)<wt ly z
  case' neg=>
   rw[aH hlt];exact iteF (nx H (.ref zq) (Ext.refl _) (by
    show LtAt ly H (.ref zq) (if _ then _ else _);rw[aq hlt];exact⟨zq,zr,rfl,hz1,hz2⟩))
  rw[ay hlt];have ej:qY ly (some z) (some (if c<0 then y else c::y))=some (if c<0 then y else c::y):=ax hlt;refine iteT ?_
 all_goals
  rw[ej] at nx;refine⟨_,_,rfl,rfl,_,rfl,?_⟩;by_cases hc:c<0
  .have h0:decide ((0:Int)<=c)=false:=aH Aa;rw[h0];refine iteF ⟨pq,_,1,_,rfl,rfl,SqT.of hpq,rfl,by show (2:Nat)<=_;decide,λr4 H4 d4 e4=>nx H4 (.ref r4) e4 ⟨r4,pr,rfl,d4,?_⟩⟩;rw[ax hc];exact e4 _ _ hpr
  .have h0:decide ((0:Int)<=c)=true:=ay Aa;rw[h0];refine iteT ⟨by show (1:Nat)<=_;decide,λr2 H2 d2 e2=>⟨pq,_,1,_,rfl,rfl,SqT.of (e2 _ _ hpq),rfl,r2,pr,_,_,rfl,rfl,d2,e2 _ _ hpr,by rw[af,aN];show 1+_<=_;lia,λr3 H3 d3 e3=>⟨by show (2:Nat)<=_;decide,λr4 H4 d4 e4=>nx H4 (.ref r4) ((e2.trans e3).trans e4) ⟨r4,r3,rfl,d4,?_⟩⟩⟩⟩;rw[aq hc];exact e4 _ _ d3
theorem jU4(T:Txt mg):FnN P w K mg Aq 1 "lightest_behind" qLB (jU qQ) (jB qQ) (j6 qQ) ["behind"] ["box"] spLB:=by
 refine jSN scLBeh (λfv vs H Q E h=>?_) (λcl doc pm c ctv us hl=>?_) λA Ap s H a c cl vs fv Q E hr h=>?_
 .obtain⟨i,rfl,_,_,_,_,rfl,_⟩:=h;rfl
 .match us,hl with
  |[_],_=>rfl
 .obtain⟨⟨_,_,b,w,ms,ly,g⟩,rfl,hB,l,us,m,rfl,hl,hm,hf,av,q⟩:=h;refine⟨_,(lbehA T).2.h,?_⟩;have o:ChOk (chs w.toNat ms ly):=jFC g;obtain⟨qm,qp,ps,b1,b2,b3,b4⟩:=id hB.ex;have gpl:=g.pl;refine⟨l,rfl,⟨_,SqL.of hl⟩,jDQ (xs:=us) (λi σ H'=>Ext H H'/\∃ve:V,(∃v3 v4 v5,σ=[some (.ref l),some (.ref b),some ve,v3,v4,v5])/\LtAt ly H' ve (minW ly (preW (chs w.toNat ms ly) m i))) ⟨Ext.refl _,.non,⟨_,_,_,rfl⟩,rfl⟩ (λi σ H' _ ⟨e,_⟩=>SqL.of (e _ _ hl)) ?_ ?_⟩
  .rintro i x σ H' hx ⟨e,ve,⟨v3,v4,v5,rfl⟩,hve⟩;obtain⟨c,hc,p,u,rfl,hp,hR⟩:=av.get' hx;obtain⟨m1,m2,m3,m4,m5⟩:=o.mem hm hf (aJ hc);have hsu:=jN2 hc;have hR:LtAt ly H' u (minW ly (wk (chs w.toNat ms ly) (m|||c.2))):=LtAt.mono e.tups hR;have mup:=(o.up hm hf (aJ hc)).2;have hmin:minW ly (preW (chs w.toNat ms ly) m (i+1))=qY ly (minW ly (preW (chs w.toNat ms ly) m i)) ((minW ly (wk (chs w.toNat ms ly) (m|||c.2))).map λx=>if c.1<0 then x else c.1::x):=by
    rw[hsu,jE7,jKD]
   refine⟨p,_,rfl,SqT.of (e _ _ hp),rfl,_,_,rfl,_,_,rfl,rfl,?_⟩;refine⟨rfl,_,rfl,?_⟩;cases hW:minW ly (wk (chs w.toNat ms ly) (m|||c.2)) with
   |none=>
    rw[hW] at hR hmin;have hR:u=.non:=hR;subst hR;refine iteF ⟨e,ve,⟨_,_,_,rfl⟩,?_⟩;rw[hmin];revert hve;cases minW ly (preW (chs w.toNat ms ly) m i) with
    |none=>exact id
    |some z=>exact id
   |some y=>
    rw[hW] at hR hmin;obtain⟨pq,pr,rfl,hpq,hpr⟩:=hR;obtain⟨yb,yl⟩:=jM0 o _ mup y (jDM hW).1;have w16:=o.w;refine iteT ⟨pq,_,0,_,rfl,rfl,SqT.of hpq,rfl,_,_,rfl,rfl,_,rfl,?_⟩;have y16:y.length<=16:=Aa;refine ite2 (λh0=>?_) (λh0=>?_)
    .have h0:0<=c.1:=aP h0;have hlt:=jXP hm hf (aJ hc);obtain⟨pv,hpv,pa,pw,rfl,ha1,ha2⟩:=b4.get (k:=c.1.toNat) Aa;have at1:atI ps c.1=some (.ref pa):=by
      have:=jAJ hpv
      rwa [show ((c.1.toNat:Nat):Int)=c.1 by lia] at this
     refine⟨b,_,2,_,rfl,rfl,SqT.of (e _ _ b1),rfl,qp,_,c.1,_,rfl,rfl,SqT.of (e _ _ b3),at1,pa,_,1,_,rfl,rfl,SqT.of (e _ _ ha1),rfl,_,_,rfl,rfl,?_⟩;have ew:wt ly y+(ly.getD c.1.toNat ([],0)).2=wt ly (if c.1<0 then y else c.1::y):=by
      rw[aq Aa,jLY];unfold wgt;lia
     show kT 5 (V.int (wt ly y+(ly.getD c.1.toNat ([],0)).2)) _ _ _;rw[ew];exact lb_in T hpq hpr y16 hve λH2 ve' e2 h2=>⟨e.trans e2,ve',⟨_,_,_,rfl⟩,by rw[hmin];exact h2⟩
    .have h0:c.1<0:=Int.not_le.mp λz=>h0 (ay z);refine⟨_,_,rfl,rfl,?_⟩;have ew:wt ly y+0=wt ly (if c.1<0 then y else c.1::y):=by
      rw[ax h0];lia
     show kT 5 (V.int (wt ly y+0)) _ _ _;rw[ew];exact lb_in T hpq hpr y16 hve λH2 ve' e2 h2=>⟨e.trans e2,ve',⟨_,_,_,rfl⟩,by rw[hmin];exact h2⟩
  .rintro σ H' ⟨e,ve,⟨v3,v4,v5,rfl⟩,hve⟩;rw[av.len,jPV o hm hf] at hve;exact q ve H' hve e
def zhL(cl:Aj)(i:LI):Hp->Prop:=λH=>(H i.a=some (.ext (nfP "lightest_behind" qLB (jU qQ) (jB qQ) (j6 qQ) cl i.a i.c))/\H i.c=some (.ext (ncP qLB i.c)))/\BoxAt H i.b i.w i.ms i.ly
def zhL.ok(cl:Aj)(i:LI):HpOk (zhL cl i):=⟨λH H' D kvs hD _ k h=>⟨⟨k _ _ h.1.1 λz=>(by rw[<- z,h.1.1] at hD;cases hD),k _ _ h.1.2 λz=>(by rw[<- z,h.1.2] at hD;cases hD)⟩,h.2.mono λb xs hb=>k _ _ hb λz=>(by rw[z,hD] at hb;cases hb)⟩,λH H' e h=>⟨⟨e _ _ h.1.1,e _ _ h.1.2⟩,h.2.mono e.tups⟩⟩
def jIO(T:Txt mg)(cl:Aj)(i:LI):Callee P w K mg Aq (ZC cl ["box"] [.ref i.b]) (zhL cl i) 1 i.a (jF0 i.ch (RLt i.ly i.ch)):=
 Callee.imp2 (Callee.ofN (jU4 T)) (λH h=>h.1) λvs H Q E zh q=>⟨i,rfl,zh.2,q⟩
abbrev jKA:Am:=["box","lightest_behind","told"]
def scLight:FnScope jKA ["box"] (j6 yX):= {}
abbrev TabL(H:Hp)(tb:Addr):Prop:=TabOk H tb pLBeh qLB
def jMP(cl:Aj)(i:LI):Sp:=jMQ i.a (zhL cl i) i.ch (RLt i.ly i.ch)
theorem fsLB:∀x∈(["box"]:Am),(j6 qQ).names.lookup x=some .free:=Ab
theorem jXL:FsAt (XOf jKA "lightest" yX P w K mg Aq f (.ref c0) A Ap s H0 E) ["box"] [0]:=⟨rfl,λk x h=>by
 match k,h with
 | 0,h=>
  cases h;exact⟨0,rfl,rfl,.inl (show (j6 yX).names.lookup (("box":String):Str)=some .cell by decide+kernel)⟩
 |k+1,h=>cases h⟩
inductive jIG(tb:Addr)(vs:List V)(H:Hp)(Q:VK)(_:XK):Prop|i(b:Addr)(w:Int)(ms:Ag)(ly:Ae)(_:vs=[.ref b])(_:BoxAt H b w ms ly)(_:Good 16 32 w ms ly)(_:TabL H tb)(_:(minW ly (wk (chs w.toNat ms ly) 0)=none->∀H',ExtT tb H H'->TabL H' tb->Q .non H'))(_:∀x,minW ly (wk (chs w.toNat ms ly) 0)=some x->∀r q H',H' r=some (.tup [.int (wt ly x),.ref q])->H' q=some (.tup ((srt x).map V.int))->ExtT tb H H'->TabL H' tb->Q (.ref r) H')
def jX6(T:Txt mg)(CH:PySem.W.CodeHd Aq c0 tb)(BM:qZ Aq mg)(CC:Can P w K mg Aq "choices_of" 2 fC fdC ["box"] jAK)(FG:∀cl i,FnZ P w K mg Aq CX0 (ZC cl ["box"] [.ref i.b]) 4 fG fdG ["choices","at_end","join"] (jMP cl i))(MG:mg "gathered" =some (.ref fG))(KG:keepIn K (.ref fG)=true)(BG:Binds K fdG ["choices","at_end","join"] [])(hr:Room 4 (XOf jKA "lightest" yX P w K mg Aq f (.ref c0) A Ap s H0 E).A): {t:TS // JSs (XOf jKA "lightest" yX P w K mg Aq f (.ref c0) A Ap s H0 E) (jB yX) t}:=
 have nd:=scLight.nd
 ⟨_,(j9 (jSI (j:=1) nd rfl lL rfl CH BM (jR (psc:=j6 yX)) rfl rfl) (j9 (jX (i:=2) nd rfl lL (jG6 (hu_of hr) (jKM (G:=λ(i:LI) σ=>jDK σ [0] [.ref i.b]) (FG _) hr gD MG KG BG (λi lw s σ H I q=>⟨I.clOk (jR (psc:=j6 yX)),I.fvOk (jR (psc:=j6 yX)) fsLB jXL q⟩) (j3 (CC.je (hr.mono Ac) gD (j3 (jv 0 rfl vC) j5 j4) j4) (j3 (kD (j3 (je_int) (j3 (kD j5) j5 yB) kI)) (j3 (jv 1 rfl vL) j5 j4) yB) jE) jE) je_int jD) jEW) (j9 (kY (jY jK1 (jv 2 rfl vL) (jEF) (jQ _)) (jC (jM (jEF))) jS) (jC (jM (kD (j3 (jI jG (jv 2 rfl vL) (je_int) jD) (j3 (kN kL gD T.tuple Ab (j3 (jF jDE gD T.sorted Ab (j3 (jI jG (jv 2 rfl vL) (je_int) jD) j5 jJ) jJ) j5 jE) jE) j5 jE) jJ)))))))⟩
set_option maxHeartbeats 4000000 in
theorem jQJ{fd:FuncData}(F:FunC K "lightest" "lightest" yX f fd c0)(T:Txt mg)(CH:PySem.W.CodeHd Aq c0 tb)(BM:qZ Aq mg)(CC:Can P w K mg Aq "choices_of" 2 fC fdC ["box"] jAK)(FG:∀cl i,FnZ P w K mg Aq CX0 (ZC cl ["box"] [.ref i.b]) 4 fG fdG ["choices","at_end","join"] (jMP cl i))(MG:mg "gathered" =some (.ref fG))(KG:keepIn K (.ref fG)=true)(BG:Binds K fdG ["choices","at_end","join"] []):FnOk P w K mg Aq CX0 5 f fd ["box"] (jIG tb):=by
 refine F.ok scLight (λvs H Q E h=>?_) (λA Ap s H vs Q E hr h=>?_)
 .obtain⟨_,_,_,_,rfl,_⟩:=h;rfl
 .obtain⟨b,wi,ms,ly,rfl,hB,g,tab,q0,q1⟩:=h;refine⟨_,(jX6 T CH BM CC FG MG KG BG hr).2.h,?_⟩;refine⟨tab,λa c H1 k1 k2 k3 e1 na=>?_⟩;have tu1:Tups H H1:=λb xs h=>e1.at tab h;have hB1:=hB.mono tu1;have tab1:TabL H1 tb:=.inr ⟨c,k3,k2⟩;refine⟨b,wi,ms,ly,rfl,hB1,g,λL H2 hL2 e2=>?_⟩;refine⟨by show (0:Nat)<=_;decide,λt0 H3 d3 e3=>⟨by show (2:Nat)<=_;decide,λt1 H4 d4 e4=>?_⟩⟩;have E24:=(e2.trans e3).trans e4;refine⟨⟨a,c,b,wi,ms,ly,g⟩,rfl,L,.ref t1,rfl,hL2.ext (e3.trans e4),?_,⟨⟨E24 _ _ k1,E24 _ _ k2⟩,hB1.mono E24.tups⟩,λr ns H5 got srt' mt e5 n5=>?_⟩
  .show LtAt ly H4 (.ref t1) (minW ly (wk _ (fullN _)));rw[jI9];exact⟨t1,t0,rfl,d4,e4 _ _ d3⟩
  obtain⟨u,dg,ru⟩:=got0 got srt' mt;refine⟨r,u,rfl,dg,?_⟩;have E25:=E24.trans e5;have x5:ExtT tb H H5:=λb o hb hn=>E25 _ _ (e1 b o hb hn);have tab5:TabL H5 tb:=tab1.ext E25;refine⟨rfl,_,rfl,?_⟩;have ru:LtAt ly H5 u (minW ly (wk (chs wi.toNat ms ly) 0)):=ru;cases hW:minW ly (wk (chs wi.toNat ms ly) 0) with
  |none=>
   rw[hW] at ru;have ru:u=.non:=ru;subst ru;exact iteT (q0 hW H5 x5 tab5)
  |some x=>
   rw[hW] at ru;obtain⟨p,pr,rfl,hp,hpr⟩:=ru;have o:ChOk (chs wi.toNat ms ly):=jFC g;have xl:=(jM0 o 0 (d9 _) x (jDM hW).1).2;have w16:=o.w;refine iteF ⟨p,_,0,_,rfl,rfl,SqT.of hp,rfl,p,_,1,_,rfl,rfl,SqT.of hp,rfl,pr,x,rfl,hpr,Aa,λl6 ns6 hl6 sr pm=>⟨l6,_,rfl,.inl ⟨SqL.of j7,λl7 hl7=>?_⟩⟩⟩;have e6:Ext H5 (L2.upd H5 l6 (.lst (ns6.map V.int))):=(Ext.refl _).new hl6 _;have e7:Ext H5 (L2.upd (L2.upd H5 l6 (.lst (ns6.map V.int))) l7 (.tup (ns6.map V.int))):=e6.new hl7 _;have d7:(L2.upd (L2.upd H5 l6 (.lst (ns6.map V.int))) l7 (.tup (ns6.map V.int))) l7=some (.tup (ns6.map V.int)):=j7;generalize L2.upd (L2.upd H5 l6 (.lst (ns6.map V.int))) l7 (.tup (ns6.map V.int))=H7 at e7 d7;refine⟨by show (2:Nat)<=_;decide,λr8 H8 d8 e8=>q1 x hW r8 l7 H8 d8 (by rw[e8 _ _ d7,jGP sr pm]) (λb o hb hn=>e8 _ _ (e7 _ _ (x5 b o hb hn))) ((tab5.ext e7).ext e8)⟩
end
end Eo
namespace L2
mutual
def wid:Tr->Nat
 | .lst ts=>max ts.length (wids ts)
 | .tup ts=>max ts.length (wids ts)
 |_=>0
def wids:List Tr->Nat
 |[]=>0
 |t::ts=>max (wid t) (wids ts)
end
theorem jSU{ts:List Tr}{t:Tr}(h:t∈ts):wid t<=wids ts:=by
 induction ts with
 |nil=>cases h
 |cons a r ih=>
  rw[wids];rcases aA.mp h with q|q
  .subst q;lia
  .have:=ih q;lia
end L2
namespace Eo
open PySem L2
variable {fd:FuncData}{t z:Int}{ts:Ag}{T:Addr}{q:Str}
abbrev jSC:Am:=["found"]
noncomputable abbrev nSame:Am:=["found","due"]
def scWhole:FnScope jSC ["found"] (j6 jDY):= {}
def scSame:FnScope nSame ["found","due"] (j6 sSame):= {}
inductive jDW(vs:List V)(H:Hp)(Q:VK)(_:XK):Prop|i(i:Int)(_:vs=[.int i])(_:Q (.bl true) H)
def jVJ(T:Txt mg): {t:TS // JSs (XOf jSC "_law_whole" jDY P w K mg Aq f cdv A Ap s H E) (jB jDY) t}:=
 have nd:=scWhole.nd
 ⟨_,(jC (jM ((jDD (jF kG gD T.isinstance Ab (j3 (jv 0 rfl vL) (j3 (yR (v:=.ty "int") gD T.int Ab rfl) j5 j4) j4) j4) (jCE (jSL (jF kG gD T.isinstance Ab (j3 (jv 0 rfl vL) (j3 (yR (v:=.ty "bool") gD T.bool Ab rfl) j5 j4) j4) j4)))))))⟩
def jQB(F:Fun K "_law_whole" "_law_whole" jDY f fd)(T:Txt mg):FnOk P w K mg Aq CX0 1 f fd ["found"] jDW:=by
 refine F.ok scWhole (λvs H Q E h=>?_) (λcdv A Ap s H vs Q E hr h=>?_)
 .obtain⟨_,rfl,_⟩:=h;rfl
 .obtain⟨i,rfl,q⟩:=h;refine⟨_,(jVJ T).2.h,?_⟩;refine⟨_,_,_,true,rfl,.int i,rfl,true,rfl,?_⟩;rw[ax rfl];exact⟨_,_,_,false,rfl,.int i,rfl,false,rfl,q⟩
def sameA{k:Nat}{spS:Sp}{fS:Addr}{fdS:FuncData}(T:Txt mg)(CW:Can P w K mg Aq "_law_whole" 1 fW fdW ["found"] jDW)(CS:Can P w K mg Aq "_law_same" (k+1) fS fdS ["found","due"] spS)
  (hr:Room (k+1) (XOf nSame "_law_same" sSame P w K mg Aq f cdv A Ap s H E).A): {t:TS // JSs (XOf nSame "_law_same" sSame P w K mg Aq f cdv A Ap s H E) (jB sSame) t}:=
 have nd:=scSame.nd
 ⟨_,(j9 (kY (jY jK1 (jv 1 rfl vL) (jEF) (jQ _)) (jC (jM (y9 jK1 (jv 0 rfl vL) (jEF) (jQ _)))) jS)
   (j9 (kY (yJ (jF kG gD T.isinstance Ab (j3 (jv 1 rfl vL) (j3 (yR (v:=.ty "bool") gD T.bool Ab rfl) j5 j4) j4) j4) kZ) (jC (jM ((jDD (jF kG gD T.isinstance Ab (j3 (jv 0 rfl vL) (j3 (yR (v:=.ty "bool") gD T.bool Ab rfl) j5 j4) j4) j4) (jCE (y9 qJ (jv 0 rfl vL) (jv 1 rfl vL) (jQ _))))))) jS)
   (j9 (kY (yJ (jF kG gD T.isinstance Ab (j3 (jv 1 rfl vL) (j3 (yR (v:=.ty "int") gD T.int Ab rfl) j5 j4) j4) j4) kZ) (jC (jM ((jDD (CW.je (hr.mono Aa) gD (j3 (jv 0 rfl vL) j5 j4) j4) (jCE (y9 qJ (jv 0 rfl vL) (jv 1 rfl vL) (jQ _))))))) jS)
   (j9 (kY (yJ (jF kG gD T.isinstance Ab (j3 (jv 1 rfl vL) (j3 (yR (v:=.ty "str") gD T.str Ab rfl) j5 j4) j4) j4) kZ) (jC (jM ((jDD (jF kG gD T.isinstance Ab (j3 (jv 0 rfl vL) (j3 (yR (v:=.ty "str") gD T.str Ab rfl) j5 j4) j4) j4) (jCE (y9 qJ (jv 0 rfl vL) (jv 1 rfl vL) (jQ _))))))) jS)
   (j9 (kY (jt_w (jw_or (jY op_ne (jF kG gD T.isinstance Ab (j3 (jv 1 rfl vL) (j3 (yR (v:=.ty "tuple") gD T.tuple Ab rfl) j5 j4) j4) j4) (jF kG gD T.isinstance Ab (j3 (jv 0 rfl vL) (j3 (yR (v:=.ty "tuple") gD T.tuple Ab rfl) j5 j4) j4) j4) (jQ _)) (jKJ (jY op_ne (jF kG gD T.isinstance Ab (j3 (jv 1 rfl vL) (j3 (yR (v:=.ty "list") gD T.list Ab rfl) j5 j4) j4) j4) (jF kG gD T.isinstance Ab (j3 (jv 0 rfl vL) (j3 (yR (v:=.ty "list") gD T.list Ab rfl) j5 j4) j4) j4) (jQ _))))) (jC (jM (je_bl))) jS)
   (jC (jM ((jDD (y9 qJ (jF jH gD T.len Ab (j3 (jv 0 rfl vL) j5 j4) j4) (jF jH gD T.len Ab (j3 (jv 1 rfl vL) j5 j4) j4) (jQ _)) (jCE (jF (jCH rfl) gD T.all Ab (j3 (kU (m:=[none,none]) (Nc:=["one","other"]) rfl (jXF gD T.zip (j3 (jv 0 rfl vL) (j3 (jv 1 rfl vL) j5 j4) j4) j4) rfl Ab Ab (jR (psc:=j6 sSame)) (jO (N:=nSame) rfl rfl Ab) (λcl C fp s H=>jB4 (i:=0) (j:=1) rfl (show (["one","other"]:Am).Nodup by decide+kernel) rfl rfl Ab Ab) (λcl C fp s H=>yK) (λcl C fp s H=>(CS.je hr gl_b (j3 (jv 0 rfl jZ) (j3 (jv 1 rfl jZ) j5 j4) j4) j4)) kW) j5 jP) jP)))))))))))⟩
def spNo:Sp:=λ_ _ _ _=>False
def ok_no{k:Nat}{ps:Am}:FnOk P w K mg Aq CX0 k f fd ps spNo:=⟨λ_ _ _ _ h=>h.elim,λ_ _ _ _ _ _ _ _ _ _ _ _ _ h=>h.elim⟩
inductive jDX(d:Nat)(vs:List V)(H:Hp)(Q:VK)(_:XK):Prop|i(x y:V)(t:Tr)(_:vs=[x,y])(_:TAt H t x)(_:TAt H t y)(_:dep t<=d)(_:wid t<=1000000)(_:∀H',Ext H H'->Q (.bl true) H')
def jS4:Nat->Sp
 | 0=>spNo
 |d+1=>jDX d
def jRR(n:Nat):(replicate n true).all id=true:=by
 induction n with
 |zero=>rfl
 |succ n ih=>rw[List.replicate_succ,iN,ih];rfl
theorem jJQ(d:Nat)(tp:Bool){q:Addr}{ts:List Tr}{vs ws:List V}{Q:VK}
  (hp:Sq tp K H p vs) (hq:Sq tp K H q ws) (ex:∀H',Ext H H'->Sq tp K H' p vs/\Sq tp K H' q ws) (h1:TsAt H ts vs) (h2:TsAt H ts ws) (hd:deps ts<d) (hw:ts.length<=1000000) (hws:wids ts<=1000000) (k:∀H',Ext H H'->Q (.bl true) H') {m:List (Option Nat)}{σ:St}
  (hm:m=[none,none]):
  qX m (gTup K 2 (gCons (kT 0) (gCons (kT 1) gNil))) qC (tCall (jS4 d) [] E0 (tCons (tVar 0) (tCons (tVar 1) tNil))) σ (λx H1=>∃(p:Addr) (bs:List Bool),[x]=[.ref p]/\SqL K H1 p (bs.map V.bl)/\Q (.bl (bs.all id)) H1) (Itz tp tp K p q) H:=by
 subst hm;have l1:=h1.len;have l2:=h2.len;refine jRH (xs:=vs) (ys:=ws) (by rw[aN];lia) (λD i σ' H' zs=>(∃v1 v2,σ'=[v1,v2])/\zs=(replicate i true).map V.bl/\Ext H H'/\H' D=some (.lst zs)/\H D=none) ?_ ?_ ?_ ?_
 .intro D hD;exact⟨⟨_,_,rfl⟩,rfl,(Ext.refl H).new hD _,j7,hD⟩
 .rintro D i σ' H' zs hD ⟨_,rfl,e,e2,_⟩;obtain⟨q1,q2⟩:=ex H' e;refine⟨q1,q2,e2,?_⟩;rw[af,gc];exact ar _
 .rintro D i σ' H' zs x y t hD hx hy ht ⟨⟨v1,v2,rfl⟩,rfl,e,e2,hn⟩;obtain⟨u,hu,hxu⟩:=h1.get hx;obtain⟨u',hu',hyu⟩:=h2.get hy;rw[hu] at hu';cases hu';have tD:D≠t:=jA e2 ht;have hmem:=aJ hu;have e3:Ext H (upd H' t (.tup [x,y])):=e.new ht _;refine⟨t,_,rfl,SqT.of j7,rfl,_,_,rfl,_,_,rfl,rfl,?_⟩;dsimp only[kT,qC];rw[ax rfl];cases d with
  |zero=>lia
  |succ d=>
   refine⟨x,y,u,rfl,hxu.ext e3,hyu.ext e3,by have:=jV2 hmem;lia,by have:=jSU hmem;lia,λH4 e4=>⟨e4 _ _ (by rw[j8 tD];exact e2),⟨_,_,rfl⟩,?_,(e3.trans e4).updNew hn _,j7,hn⟩⟩;rw[List.replicate_succ',aU];rfl
 .rintro D σ' H' zs hD ⟨_,rfl,e,e2,hn⟩;refine⟨D,_,rfl,SqL.of e2,?_⟩;rw[jRR];exact k H' e
theorem jGY(d:Nat)(F:Fun K "_law_same" "_law_same" sSame f fd)(T:Txt mg)(CW:Can P w K mg Aq "_law_whole" 1 fW fdW ["found"] jDW)(CS:Can P w K mg Aq "_law_same" (d+1) f fd ["found","due"] (jS4 d)):
  FnOk P w K mg Aq CX0 (d+2) f fd ["found","due"] (jDX d):=by
 refine F.ok scSame (λvs H Q E h=>?_) (λcdv A Ap s H vs Q E hr h=>?_)
 .obtain⟨_,_,_,rfl,_⟩:=h;rfl
 .obtain⟨x,y,t,rfl,hx,hy,hd,hw,k⟩:=h;refine⟨_,(sameA T CW CS hr).2.h,?_⟩;have k0:=k H (Ext.refl H);cases t with
  |non=>
   cases (show x=.non from hx);cases (show y=.non from hy);exact⟨rfl,_,rfl,iteT ⟨rfl,k0⟩⟩
  |bl b=>
   cases (show x=.bl b from hx);cases (show y=.bl b from hy);refine⟨rfl,_,rfl,iteF ?_⟩;refine⟨_,_,_,true,rfl,.bl b,rfl,true,rfl,iteT ?_⟩;refine⟨_,_,_,true,rfl,.bl b,rfl,true,rfl,iteT ⟨rfl,?_⟩⟩;show Q (.bl (decide (V.bl b=V.bl b))) H;rw[ay rfl];exact k0
  |int i=>
   cases (show x=.int i from hx);cases (show y=.int i from hy);refine⟨rfl,_,rfl,iteF ?_⟩;refine⟨_,_,_,false,rfl,.int i,rfl,false,rfl,iteF ?_⟩;refine⟨_,_,_,true,rfl,.int i,rfl,true,rfl,iteT ?_⟩;refine⟨_,rfl,true,rfl,iteT ⟨rfl,?_⟩⟩;show Q (.bl (decide (V.int i=V.int i))) H;rw[ay rfl];exact k0
  |str z=>
   cases (show x=.str z from hx);cases (show y=.str z from hy);refine⟨rfl,_,rfl,iteF ?_⟩;refine⟨_,_,_,false,rfl,.str z,rfl,false,rfl,iteF ?_⟩;refine⟨_,_,_,false,rfl,.str z,rfl,false,rfl,iteF ?_⟩;refine⟨_,_,_,true,rfl,.str z,rfl,true,rfl,iteT ?_⟩;refine⟨_,_,_,true,rfl,.str z,rfl,true,rfl,iteT ⟨rfl,?_⟩⟩;show Q (.bl (decide (V.str z=V.str z))) H;rw[ay rfl];exact k0
  |lst ts=>
   obtain⟨p,vs,rfl,hp,h1⟩:=hx;obtain⟨q,ws,rfl,hq,h2⟩:=hy;rw[dep] at hd;rw[wid] at hw;refine⟨rfl,_,rfl,iteF ?_⟩;refine⟨_,_,_,false,rfl,.lst hq,rfl,false,rfl,iteF ?_⟩;refine⟨_,_,_,false,rfl,.lst hq,rfl,false,rfl,iteF ?_⟩;refine⟨_,_,_,false,rfl,.lst hq,rfl,false,rfl,iteF ?_⟩;refine⟨_,_,_,false,rfl,.lst hq,rfl,_,_,_,false,rfl,.lst hp,rfl,rfl,_,rfl,iteF ?_⟩;refine⟨_,_,_,true,rfl,.lst hq,rfl,_,_,_,true,rfl,.lst hp,rfl,rfl,_,rfl,iteF ?_⟩;refine⟨p,_,rfl,.inl (SqL.of hp),q,_,rfl,.inl (SqL.of hq),rfl,_,rfl,?_⟩;rw[show (vs.length:Int)=(ws.length:Int) by rw[h1.len,h2.len],ay rfl];refine iteT ⟨false,false,p,q,rfl,⟨_,SqL.of hp⟩,⟨_,SqL.of hq⟩,?_⟩;exact jJQ d false (SqL.of hp) (SqL.of hq) (λH' e=>⟨SqL.of (e _ _ hp),SqL.of (e _ _ hq)⟩) h1 h2 Aa Aa Aa k rfl
  |tup ts=>
   obtain⟨p,vs,rfl,hp,h1⟩:=hx;obtain⟨q,ws,rfl,hq,h2⟩:=hy;rw[dep] at hd;rw[wid] at hw;refine⟨rfl,_,rfl,iteF ?_⟩;refine⟨_,_,_,false,rfl,.tup hq,rfl,false,rfl,iteF ?_⟩;refine⟨_,_,_,false,rfl,.tup hq,rfl,false,rfl,iteF ?_⟩;refine⟨_,_,_,false,rfl,.tup hq,rfl,false,rfl,iteF ?_⟩;refine⟨_,_,_,true,rfl,.tup hq,rfl,_,_,_,true,rfl,.tup hp,rfl,rfl,_,rfl,iteF ?_⟩;refine⟨_,_,_,false,rfl,.tup hq,rfl,_,_,_,false,rfl,.tup hp,rfl,rfl,_,rfl,iteF ?_⟩;refine⟨p,_,rfl,.inr (SqT.of hp),q,_,rfl,.inr (SqT.of hq),rfl,_,rfl,?_⟩;rw[show (vs.length:Int)=(ws.length:Int) by rw[h1.len,h2.len],ay rfl];refine iteT ⟨true,true,p,q,rfl,⟨_,SqT.of hp⟩,⟨_,SqT.of hq⟩,?_⟩;exact jJQ d true (SqT.of hp) (SqT.of hq) (λH' e=>⟨SqT.of (e _ _ hp),SqT.of (e _ _ hq)⟩) h1 h2 Aa Aa Aa k rfl
def jK4(F:Fun K "_law_same" "_law_same" sSame f fd)(T:Txt mg)(CW:Can P w K mg Aq "_law_whole" 1 fW fdW ["found"] jDW)(hm:mg "_law_same" =some (.ref f))(kp:keepIn K (.ref f)=true)(hb:Binds K fd ["found","due"] []):
  ∀d:Nat,FnOk P w K mg Aq CX0 (d+2) f fd ["found","due"] (jDX d)
 | 0=>jGY 0 F T CW ⟨ok_no,hm,kp,hb⟩
 |d+1=>jGY (d+1) F T CW ⟨jK4 F T CW hm kp hb d,hm,kp,hb⟩
abbrev Bx:=Int×List Int×Ae
abbrev BxB(H:Hp)(q:Addr)(x:Bx):Prop:=BoxAt H q x.1 x.2.1 x.2.2
def BxAt(H:Hp)(v:V)(x:Bx):Prop:=∃q,v=.ref q/\BxB H q x
def BxAt.mono(tu:Tups H H'){v:V}(h:BxAt H v x):BxAt H' v x:=let ⟨q,e,b⟩:=h;⟨q,e,b.mono tu⟩
structure ShopAt (C:Addr)(H:Hp)(sh l:Addr)(x:Bx)(hs:List Bx):Prop where
 ex:∃dx b us,H sh=some (.ins C dx [("kept",.ref b),("earlier",.ref l)])/\BxB H b x/\H l=some (.lst us)/\All2 (BxAt H) us hs
def Fr2(sh l:Addr)(H H':Hp):Prop:=∀c o,H c=some o->c≠sh->c≠l->H' c=some o
def Fr2.refl:Fr2 sh l H H:=λ_ _ h _ _=>h
def Fr2.trans(a:Fr2 sh l H H')(b:Fr2 sh l H' H''):Fr2 sh l H H'':=λc o h m n=>b c o (a c o h m n) m n
def Fr2.of(e:Ext H H'):Fr2 sh l H H':=λc o h _ _=>e c o h
def Fr2.tups(f:Fr2 sh l H H')(s:ShopAt C H sh l x hs):Tups H H':=λc xs h=>by
 obtain⟨dx,b,us,h1,_,h2,_⟩:=s.ex;exact f c _ h (λz=>by rw[z,h1] at h;cases h) λz=>by rw[z,h2] at h;cases h
def ShopAt.keep(s:ShopAt C H sh l x hs)(k1:∀o,H sh=some o->H' sh=some o)(k2:∀o,H l=some o->H' l=some o)(tu:Tups H H'):ShopAt C H' sh l x hs:=by
 obtain⟨dx,b,us,h1,h2,h3,h4⟩:=s.ex;exact⟨dx,b,us,k1 _ h1,h2.mono tu,k2 _ h3,All2.imp (λ_ _=>BxAt.mono tu) h4⟩
def ShopAt.ext(s:ShopAt C H sh l x hs)(e:Ext H H'):ShopAt C H' sh l x hs:=s.keep (λo=>e _ o) (λo=>e _ o) e.tups
def ShopAt.ne(s:ShopAt C H sh l x hs):sh≠l:=λz=>by
 obtain⟨dx,b,us,h1,_,h3,_⟩:=s.ex;rw[z,h3] at h1;cases h1
def ShopAt.len(s:ShopAt C H sh l x hs):∃us,H l=some (.lst us)/\us.length=hs.length:=by
 obtain⟨dx,b,us,h1,_,h3,h4⟩:=s.ex;exact⟨us,h3,h4.len⟩
def ShopAt.put(s:ShopAt C H sh l x hs){dx b b':Addr}{us:List V}{x':Bx}(h1:H sh=some (.ins C dx [("kept",.ref b),("earlier",.ref l)]))(hb:BxB H b x)(h3:H l=some (.lst us))(h4:All2 (BxAt H) us hs)(hb':BxB H b' x'):
  ShopAt C (L2.upd (L2.upd H l (.lst (us++[.ref b]))) sh (.ins C dx [("kept",.ref b'),("earlier",.ref l)])) sh l x' (hs++[x])/\Fr2 sh l H (L2.upd (L2.upd H l (.lst (us++[.ref b]))) sh (.ins C dx [("kept",.ref b'),("earlier",.ref l)])):=by
 have ne:=s.ne;have f:Fr2 sh l H (L2.upd (L2.upd H l (.lst (us++[.ref b]))) sh (.ins C dx [("kept",.ref b'),("earlier",.ref l)])):=λc o h m n=>by rw[j8 m,j8 n];exact h
 have tu:=f.tups s;refine⟨⟨dx,b',us++[.ref b],j7,hb'.mono tu,by rw[j8 (ce ne)];exact j7,?_⟩,f⟩;have e:All2 (BxAt H) (us++[V.ref b]) (hs++[x]):=by
  clear f tu hb' h1 h3 s ne
  induction us generalizing hs with
  |nil=>cases hs with
   |nil=>exact⟨⟨b,rfl,hb⟩,trivial⟩
   |cons _ _=>exact h4.elim
  |cons u us ih=>cases hs with
   |nil=>exact h4.elim
   |cons y hs=>exact⟨h4.1,ih h4.2⟩
 exact All2.imp (λ_ _=>BxAt.mono tu) e
def TabOk.keepO{p:Pos}(t:TabOk H T p q)(k:∀c o,H c=some o->(∀xs,o≠.lst xs)->(∀C dx fs,o≠.ins C dx fs)->H' c=some o):TabOk H' T p q:=by
 rcases t with h|⟨c,h,h2⟩
 .exact .inl (k _ _ h (by intro _ z;cases z) (by intro _ _ _ z;cases z))
 .exact .inr ⟨c,k _ _ h (by intro _ z;cases z) (by intro _ _ _ z;cases z),k _ _ h2 (by intro _ z;cases z) (by intro _ _ _ z;cases z)⟩
def TbS.keepO{L:List TT}(t:TbS L H)(k:∀c o,H c=some o->(∀xs,o≠.lst xs)->(∀C dx fs,o≠.ins C dx fs)->H' c=some o):TbS L H':=⟨t.nd,λx hx=>TabOk.keepO (t.ok x hx) k⟩
def Fr2.other{C:Addr}(f:Fr2 sh l H H')(S:ShopAt C H sh l x hs):∀c o,H c=some o->(∀xs,o≠.lst xs)->(∀C dx fs,o≠.ins C dx fs)->H' c=some o:=λc o h n1 n2=>by
 obtain⟨dx,b,us,h1,_,h2,_⟩:=S.ex;exact f c _ h (λz=>by rw[z,h1] at h;cases h;exact n2 _ _ _ rfl) λz=>by rw[z,h2] at h;cases h;exact n1 _ rfl
def ShopAt.extT{p:Pos}(S:ShopAt C H sh l x hs)(t:TabOk H T p q)(e:ExtT T H H'):ShopAt C H' sh l x hs:=by
 obtain⟨dx,b,us,h1,_,h2,_⟩:=id S.ex;refine S.keep (λo h=>e _ _ h (t.ne h1 (by intro _ z;cases z))) (λo h=>e _ _ h (t.ne h2 (by intro _ z;cases z))) λc xs h=>e _ _ h (t.ne h (by intro _ z;cases z))
structure ShopK (K:W.Frag)(C:Addr):Prop where
 cl:Cls K C
 nk:NoAttr K C "kept"
 ne:NoAttr K C "earlier"
abbrev xE:Am:=["self"]
noncomputable abbrev nInit:Am:=["self"]
def scInit:FnScope nInit ["self"] (j6 sInit):= {}
inductive jMO(C:Addr)(vs:List V)(H:Hp)(Q:VK)(_:XK):Prop|i(sh dx:Addr)(_:vs=[.ref sh])(_:H sh=some (.ins C dx []))(_:∀l H',ShopAt C H' sh l (0,[],[]) []->H l=none->(∀c o,H c=some o->c≠sh->H' c=some o)->Q .non H')
def initA(hr:Room 1 (XOf nInit "Shop.__init__" sInit P w K mg Aq f cdv A Ap s H0 E).A): {t:TS // JSs (XOf nInit "Shop.__init__" sInit P w K mg Aq f cdv A Ap s H0 E) (jB sInit) t}:=
 have nd:=scInit.nd
 ⟨_,(j9 (jKK (jv 0 rfl vL) (kD (j3 (je_int) (j3 (kD j5) (j3 (kD j5) j5 yB) yB) kI)) jME)
   (jC (jKK (jv 0 rfl vL) (jC0 j5) jEX)))⟩
theorem jU5(F:Fun K "__init__" "Shop.__init__" sInit f fd)(SK:ShopK K C):FnOk P w K mg Aq CX0 2 f fd ["self"] (jMO C):=by
 refine F.ok scInit (λvs H Q E h=>?_) (λcdv A Ap s H vs Q E hr h=>?_)
 .obtain⟨_,_,rfl,_⟩:=h;rfl
 .obtain⟨sh,dx,rfl,h1,q⟩:=h;refine⟨_,(initA hr).2.h,?_⟩;refine⟨by show (0:Nat)<=_;decide,λq1 H1 d1 e1=>?_⟩;refine⟨by show (0:Nat)<=_;decide,λq2 H2 d2 e2=>?_⟩;refine⟨by show (3:Nat)<=_;decide,λb H3 d3 e3=>?_⟩;have E3:=(e1.trans e2).trans e3;refine⟨sh,C,dx,_,rfl,E3 _ _ h1,SK.cl,SK.nk,Ac,?_⟩;have k4:∀c o,H3 c=some o->c≠sh->(L2.upd H3 sh (.ins C dx (putF "kept" (.ref b) []))) c=some o:=λc o h n=>by rw[j8 n];exact h
  have s4:(L2.upd H3 sh (.ins C dx (putF "kept" (.ref b) []))) sh=some (.ins C dx [("kept",.ref b)]):=j7;generalize L2.upd H3 sh (.ins C dx (putF "kept" (.ref b) []))=H4 at k4 s4;refine⟨by show (0:Nat)<=_;decide,λl H5 d5 e5 n5=>?_⟩;refine⟨sh,C,dx,_,rfl,e5 _ _ s4,SK.cl,SK.ne,by show (1:Nat)<1000;decide,?_⟩;have k6:∀c o,H5 c=some o->c≠sh->(L2.upd H5 sh (.ins C dx (putF "earlier" (.ref l) [("kept",.ref b)]))) c=some o:=λc o h n=>by rw[j8 n];exact h
  have s6:(L2.upd H5 sh (.ins C dx (putF "earlier" (.ref l) [("kept",.ref b)]))) sh=some (.ins C dx [("kept",.ref b),("earlier",.ref l)]):=j7;generalize L2.upd H5 sh (.ins C dx (putF "earlier" (.ref l) [("kept",.ref b)]))=H6 at k6 s6;have ls:l≠sh:=λz=>by rw[z,s4] at n5;cases n5
  have K:∀c o,H3 c=some o->c≠sh->H6 c=some o:=λc o h n=>k6 _ _ (e5 _ _ (k4 _ _ h n)) n;have nsh:∀{c:Addr}{xs:List V},H3 c=some (.tup xs)->c≠sh:=λh z=>by rw[z,E3 _ _ h1] at h;cases h
  refine q l H6 ⟨dx,b,[],s6,⟨q1,q2,[],K _ _ d3 (nsh d3),K _ _ (e3 _ _ (e2 _ _ d1)) (nsh (e3 _ _ (e2 _ _ d1))),K _ _ (e3 _ _ d2) (nsh (e3 _ _ d2)),trivial⟩,k6 _ _ d5 ls,trivial⟩ ?_ λc o h n=>K _ _ (E3 _ _ h) n;cases z:H l with
  |none=>rfl
  |some o=>rw[k4 _ _ (E3 _ _ z) ls] at n5;cases n5
abbrev jIT:Am:=["self","changed"]
def scBecome:FnScope jIT ["self","changed"] (j6 jAG):= {}
inductive yI(C:Addr)(vs:List V)(H:Hp)(Q:VK)(_:XK):Prop|i(sh l b:Addr)(x x':Bx)(hs:List Bx)(_:vs=[.ref sh,.ref b])(_:ShopAt C H sh l x hs)(_:BxB H b x')(_:hs.length<=1000)(_:∀H',ShopAt C H' sh l x' (hs++[x])->Fr2 sh l H H'->Q .non H')
def jVA(hr:Room 1 (XOf jIT "Shop.become" jAG P w K mg Aq f cdv A Ap s H0 E).A): {t:TS // JSs (XOf jIT "Shop.become" jAG P w K mg Aq f cdv A Ap s H0 E) (jB jAG) t}:=
 have nd:=scBecome.nd
 ⟨_,(j9 (kP (je_bm cw dO dP jB1 (kQ (jv 0 rfl vL)) (j3 (kQ (jv 0 rfl vL)) j5 yQ) yQ) jL)
   (jC (jKK (jv 0 rfl vL) (jv 1 rfl vL) jMF)))⟩
theorem jNK(F:Fun K "become" "Shop.become" jAG f fd)(SK:ShopK K C):FnOk P w K mg Aq CX0 2 f fd ["self","changed"] (yI C):=by
 refine F.ok scBecome (λvs H Q E h=>?_) (λcdv A Ap s H vs Q E hr h=>?_)
 .obtain⟨_,_,_,_,_,_,rfl,_⟩:=h;rfl
 .obtain⟨sh,l,b',x,x',hs,rfl,S,hb',hl,q⟩:=h;refine⟨_,(jVA hr).2.h,?_⟩;obtain⟨dx,b,us,h1,h2,h3,h4⟩:=id S.ex;have ul:=h4.len;have ne:=S.ne;refine⟨sh,C,dx,_,_,rfl,h1,SK.cl,SK.ne,rfl,.inl ⟨rfl,_,SqL.of h3⟩,sh,C,dx,_,_,rfl,h1,SK.cl,SK.nk,rfl,l,us,_,rfl,rfl,h3,by rw[aN];lia,?_⟩;obtain⟨s1,s2⟩:=S.put h1 h2 h3 h4 hb';exact⟨sh,C,dx,[("kept",.ref b),("earlier",.ref l)],rfl,by rw[j8 ne];exact h1,SK.cl,SK.nk,by show (2:Nat)<1000;decide,q _ s1 s2⟩
noncomputable abbrev nPutT:Am:=["self","must","thing","mays"]
def scPutT:FnScope nPutT ["self","must"] (j6 sPutT):= {}
inductive jMK(C:Addr)(vs:List V)(H:Hp)(Q:VK)(_:XK):Prop|i(sh l:Addr)(m:Bool)(wi:Int)(ms:Ag)(ly:Ae)(hs:List Bx)(_:vs=[.ref sh,.bl m])(_:ShopAt C H sh l (wi,ms,ly) hs)(_:wi<16)(_:ms.length<=1000)(_:hs.length<=1000)(_:∀H',ShopAt C H' sh l (wi+1,if m=true then ms else ms++[wi],ly) (hs++[(wi,ms,ly)])->Fr2 sh l H H'->Q (.int wi) H')
def putTA(CB:CanM P w K mg Aq C "become" 2 fB fdB ["self","changed"] (yI C))(M16:mg "MOST_THINGS" =some (.int 16 u1))(hr:Room 2 (XOf nPutT "Shop.put_thing" sPutT P w K mg Aq f cdv A Ap s H0 E).A): {t:TS // JSs (XOf nPutT "Shop.put_thing" sPutT P w K mg Aq f cdv A Ap s H0 E) (jB sPutT) t}:=
 have nd:=scPutT.nd
 ⟨_,(j9 (jX (i:=2) nd rfl lL (jI jG (kQ (jv 0 rfl vL)) (je_int) jD) jEW)
   (j9 (kY (jY op_ge (jv 2 rfl vL) (jJ5 (v:=.int 16) gD M16 ⟨_,rfl⟩) (jQ _)) (jC (jBS)) jS)
   (j9 (jX (i:=3) nd rfl lL (jHI (yJ (jv 1 rfl vL) jSX) (jI jG (kQ (jv 0 rfl vL)) (je_int) jD) (kR jFV (jI jG (kQ (jv 0 rfl vL)) (je_int) jD) (kD (j3 (jv 2 rfl vL) j5 j4)))) jS1)
   (j9 (kP (CB.je hr (jv 0 rfl vL) (j3 (kD (j3 (kR yF (jv 2 rfl vL) (je_int)) (j3 (jv 3 rfl vL) (j3 (jI jG (kQ (jv 0 rfl vL)) (je_int) jD) j5 jJ) j4) y0)) j5 yB) yB) jL)
   (jC (jM (jv 2 rfl vL)))))))⟩
theorem jU0(F:Fun K "put_thing" "Shop.put_thing" sPutT f fd)(SK:ShopK K C)(CB:CanM P w K mg Aq C "become" 2 fB fdB ["self","changed"] (yI C))(M16:mg "MOST_THINGS" =some (.int 16 u1)):FnOk P w K mg Aq CX0 3 f fd ["self","must"] (jMK C):=by
 refine F.ok scPutT (λvs H Q E h=>?_) (λcdv A Ap s H vs Q E hr h=>?_)
 .obtain⟨_,_,_,_,_,_,_,rfl,_⟩:=h;rfl
 .obtain⟨sh,l,m,wi,ms,ly,hs,rfl,S,w16,ml,hl,q⟩:=h;refine⟨_,(putTA CB M16 hr).2.h,?_⟩;obtain⟨dx,b,us,h1,h2,h3,h4⟩:=id S.ex;obtain⟨qm,qp,ps,b1,b2,b3,b4⟩:=id h2.ex;have b1:H b=some (.tup [.int wi,.ref qm,.ref qp]):=b1;have b2:H qm=some (.tup (ms.map V.int)):=b2;have b4:PcsAt H ps ly:=b4;refine⟨sh,C,dx,_,_,rfl,h1,SK.cl,SK.nk,rfl,b,_,0,_,rfl,rfl,SqT.of b1,rfl,?_⟩;refine⟨_,_,rfl,rfl,_,rfl,iteN (aH Aa) ?_⟩;have fin:∀(r:Addr) (ms':Ag) (H1:Hp),H1 r=some (.tup (ms'.map V.int))->Ext H H1->∀(b':Addr) (H2:Hp),H2 b'=some (.tup [.int (wi+1),.ref r,.ref qp])->Ext H1 H2->BxB H2 b' (wi+1,ms',ly):=λr ms' H1 d1 e1 b' H2 d2 e2=>⟨r,qp,ps,d2,e2 _ _ d1,(e1.trans e2) _ _ b3,b4.mono (e1.trans e2).tups⟩;cases m with
  |true=>
   refine⟨true,rfl,iteT ?_⟩;refine⟨sh,C,dx,_,_,rfl,h1,SK.cl,SK.nk,rfl,b,_,1,_,rfl,rfl,SqT.of b1,rfl,?_⟩;refine⟨sh,dx,_,rfl,h1,rfl,_,_,rfl,rfl,sh,C,dx,_,_,rfl,h1,SK.cl,SK.nk,rfl,b,_,2,_,rfl,rfl,SqT.of b1,rfl,by show (3:Nat)<=_;decide,λb' H2 d2 e2=>?_⟩;exact⟨sh,l,b',_,_,hs,rfl,S.ext e2,fin qm ms H b2 (Ext.refl _) b' H2 d2 e2,hl,λH3 S3 f3=>q H3 S3 ((Fr2.of e2).trans f3)⟩
  |false=>
   refine⟨false,rfl,iteF ?_⟩;refine⟨sh,C,dx,_,_,rfl,h1,SK.cl,SK.nk,rfl,b,_,1,_,rfl,rfl,SqT.of b1,rfl,?_⟩;refine⟨by show (1:Nat)<=_;decide,λq1 H1 d1 e1=>?_⟩;refine⟨qm,q1,_,_,rfl,rfl,e1 _ _ b2,d1,by rw[af,aN];show _+1<=_;lia,λr H2 d2 e2=>?_⟩;have E2:=e1.trans e2;have d2':H2 r=some (.tup ((ms++[wi]).map V.int)):=by rw[d2,aU];rfl
   refine⟨sh,dx,_,rfl,E2 _ _ h1,rfl,_,_,rfl,rfl,sh,C,dx,_,_,rfl,E2 _ _ h1,SK.cl,SK.nk,rfl,b,_,2,_,rfl,rfl,SqT.of (E2 _ _ b1),rfl,by show (3:Nat)<=_;decide,λb' H3 d3 e3=>?_⟩;exact⟨sh,l,b',_,_,hs,rfl,S.ext (E2.trans e3),fin r _ H2 d2' E2 b' H3 d3 e3,hl,λH4 S4 f4=>q H4 S4 ((Fr2.of (E2.trans e3)).trans f4)⟩
noncomputable abbrev nIsW:Am:=["thing"]
def scIsW:FnScope nIsW ["thing"] (j6 sIsW):= {}
def isWA(T:Txt mg)(CW:Can P w K mg Aq "is_whole" 1 fW fdW ["thing"] spWh)(hr:Room 1 (XOf nIsW "is_weight" sIsW P w K mg Aq f cdv A Ap s H0 E).A): {t:TS // JSs (XOf nIsW "is_weight" sIsW P w K mg Aq f cdv A Ap s H0 E) (jB sIsW) t}:=
 have nd:=scIsW.nd
 ⟨_,(jC (jM ((jDD (CW.je hr gD (j3 (jv 0 rfl vL) j5 j4) j4) (jCE (jR5 op_le op_le (je_un jM4 jSK) (jv 0 rfl vL) (jSK)))))))⟩
abbrev wtB:Ob->Bool:=upB (-1000000000000) 1000000000000
theorem jWU(F:Fun K "is_weight" "is_weight" sIsW f fd)(T:Txt mg)(CW:Can P w K mg Aq "is_whole" 1 fW fdW ["thing"] spWh):FnOk P w K mg Aq CX0 2 f fd ["thing"] (spB wtB):=by
 refine F.ok scIsW (λvs H Q E h=>?_) (λcdv A Ap s H vs Q E hr h=>?_)
 .obtain⟨_,_,rfl,_⟩:=h;rfl
 .obtain⟨v,o,rfl,hA,q⟩:=h;refine⟨_,(isWA T CW hr).2.h,?_⟩;have q:=q H (Ext.refl H);refine⟨v,o,rfl,hA,_,rfl,?_⟩;cases o with
  |int i=>
   cases (show v=.int i from hA);refine iteT ⟨_,rfl,_,_,rfl,rfl,_,rfl,ite2 (λhy=>?_) (λhy=>?_)⟩
   .refine⟨_,_,rfl,rfl,qb q ?_⟩;have hy:(-1000000000000:Int)<=i:=aP hy;show (decide _&&decide _)=decide _;rw[ay hy,kj]
   .refine qb q ?_;have hy:¬(-1000000000000:Int)<=i:=λh=>hy (ay h);show (decide _&&decide _)=false;rw[aH hy,eG]
  |oth=>exact iteF q
  |tup os=>exact iteF q
noncomputable abbrev nPutP:Am:=["self","things","weight","pieces"]
def scPutP:FnScope nPutP ["self","things","weight"] (j6 sPutP):= {}
inductive jML(C:Addr)(vs:List V)(H:Hp)(Q:VK)(_:XK):Prop|i(sh l a:Addr)(ts:Ag)(z:Int)(wi:Int)(ms:Ag)(ly:Ae)(hs:List Bx)(_:vs=[.ref sh,.ref a,.int z])(_:ShopAt C H sh l (wi,ms,ly) hs)(_:H a=some (.tup (ts.map V.int)))(_:GoodPc wi (ts,z))(_:wi<=16)(_:ly.length<32)(_:hs.length<=1000)(_:∀H',ShopAt C H' sh l (wi,ms,ly++[(ts,z)]) (hs++[(wi,ms,ly)])->Fr2 sh l H H'->Q (natV ly.length) H')
def putPA(T:Txt mg)(CL:Can P w K mg Aq "is_lot" 3 fL fdL ["thing","many"] (spB2 lotB))(CG:Can P w K mg Aq "is_weight" 2 fG fdG ["thing"] (spB wtB))(CB:CanM P w K mg Aq C "become" 2 fB fdB ["self","changed"] (yI C))(M32:mg "MOST_PIECES" =some (.int 32 u1))(hr:Room 3 (XOf nPutP "Shop.put_piece" sPutP P w K mg Aq f cdv A Ap s H0 E).A): {t:TS // JSs (XOf nPutP "Shop.put_piece" sPutP P w K mg Aq f cdv A Ap s H0 E) (jB sPutP) t}:=
 have nd:=scPutP.nd
 ⟨_,(j9 (jX (i:=3) nd rfl lL (jI jG (kQ (jv 0 rfl vL)) (je_int) jD) jEW)
   (j9 (kY (jY op_ge (jF jH gD T.len Ab (j3 (jv 3 rfl vL) j5 j4) j4) (jJ5 (v:=.int 32) gD M32 ⟨_,rfl⟩) (jQ _)) (jC (jBS)) jS)
   (j9 (kY (jt_w (jw_or (qK (yJ (CL.je hr gD (j3 (jv 1 rfl vL) (j3 (jI jG (kQ (jv 0 rfl vL)) (je_int) jD) j5 jJ) j4) j4) kZ)) (jKJ (jY qJ (jF jH gD T.len Ab (j3 (jv 1 rfl vL) j5 j4) j4) (je_int) (jQ _))))) (jC (jBS)) jS)
   (j9 (kY (qK (yJ (CG.je (hr.mono Ac) gD (j3 (jv 2 rfl vL) j5 j4) j4) kZ)) (jC (jBS)) jS)
   (j9 (kP (CB.je (hr.mono Ac) (jv 0 rfl vL) (j3 (kD (j3 (jI jG (kQ (jv 0 rfl vL)) (je_int) jD) (j3 (jI jG (kQ (jv 0 rfl vL)) (je_int) jD) (j3 (kR jFV (jv 3 rfl vL) (kD (j3 (kD (j3 (jv 1 rfl vL) (j3 (jv 2 rfl vL) j5 j4) j4)) j5 yB))) j5 y0) jJ) jJ)) j5 yB) yB) jL)
   (jC (jM (jF jH gD T.len Ab (j3 (jv 3 rfl vL) j5 j4) j4))))))))⟩
theorem jU1(F:Fun K "put_piece" "Shop.put_piece" sPutP f fd)(T:Txt mg)(SK:ShopK K C)(CL:Can P w K mg Aq "is_lot" 3 fL fdL ["thing","many"] (spB2 lotB))(CG:Can P w K mg Aq "is_weight" 2 fG fdG ["thing"] (spB wtB))(CB:CanM P w K mg Aq C "become" 2 fB fdB ["self","changed"] (yI C))(M32:mg "MOST_PIECES" =some (.int 32 u1)):FnOk P w K mg Aq CX0 4 f fd ["self","things","weight"] (jML C):=by
 refine F.ok scPutP (λvs H Q E h=>?_) (λcdv A Ap s H vs Q E hr h=>?_)
 .obtain⟨_,_,_,_,_,_,_,_,_,rfl,_⟩:=h;rfl
 .obtain⟨sh,l,a,ts,z,wi,ms,ly,hs,rfl,S,ha,gp,w16,pl,hl,q⟩:=h;refine⟨_,(putPA T CL CG CB M32 hr).2.h,?_⟩;obtain⟨dx,b,us,h1,h2,h3,h4⟩:=id S.ex;obtain⟨qm,qp,ps,b1,b2,b3,b4⟩:=id h2.ex;have b1:H b=some (.tup [.int wi,.ref qm,.ref qp]):=b1;have b2:H qm=some (.tup (ms.map V.int)):=b2;have b4:PcsAt H ps ly:=b4;have psl:=b4.len;have lt:Lot wi ts:=gp.lot;have tl16:=yG lt.ris lt.bnd w16;refine⟨sh,C,dx,_,_,rfl,h1,SK.cl,SK.nk,rfl,b,_,2,_,rfl,rfl,SqT.of b1,rfl,?_⟩;refine⟨qp,_,rfl,.inr (SqT.of b3),_,_,rfl,rfl,_,rfl,iteN (aH (by rw[psl];lia)) ?_⟩;refine⟨sh,C,dx,_,_,rfl,h1,SK.cl,SK.nk,rfl,b,_,0,_,rfl,rfl,SqT.of b1,rfl,.ref a,_,_,rfl,jPE ha (by rw[af];lia) (Ats.ints ts),λH1 e1=>⟨_,rfl,?_⟩⟩;rw[jBY lt.ris lt.bnd];refine iteN rfl ?_;have l0:(ts.map V.int).length≠0:=by rw[af];exact λz=>lt.ne (cI z)
  refine⟨a,_,rfl,.inr (SqT.of (e1 _ _ ha)),rfl,_,rfl,iteN (aH λz=>l0 (by have:=V.int.inj z;lia)) ?_⟩;refine⟨.int z,.int z,rfl,jXQ _ _,λH2 e2=>⟨_,rfl,?_⟩⟩;have wz:wtB (.int z)=true:=by
   have g1: -1000000000000<=z:=gp.lo;have g2:z<=1000000000000:=gp.hi;show (decide _&&decide _)=true;rw[ay g1,ay g2];rfl
  rw[wz];refine iteF ?_;have E2:=e1.trans e2;refine⟨sh,dx,_,rfl,E2 _ _ h1,rfl,sh,C,dx,_,_,rfl,E2 _ _ h1,SK.cl,SK.nk,rfl,b,_,0,_,rfl,rfl,SqT.of (E2 _ _ b1),rfl,sh,C,dx,_,_,rfl,E2 _ _ h1,SK.cl,SK.nk,rfl,b,_,1,_,rfl,rfl,SqT.of (E2 _ _ b1),rfl,?_⟩;refine⟨by show (2:Nat)<=_;decide,λr1 H3 d3 e3=>?_⟩;refine⟨by show (1:Nat)<=_;decide,λr2 H4 d4 e4=>?_⟩;have E4:=(E2.trans e3).trans e4;refine⟨qp,r2,_,_,rfl,rfl,E4 _ _ b3,d4,by rw[psl,aN];show _+1<=_;lia,λr3 H5 d5 e5=>?_⟩;refine⟨by show (3:Nat)<=_;decide,λb' H6 d6 e6=>?_⟩;have E6:=(E4.trans e5).trans e6;have hb':BxB H6 b' (wi,ms,ly++[(ts,z)]):=⟨qm,r3,_,d6,E6 _ _ b2,e6 _ _ d5,PcsAt.snoc (p:=(ts,z)) ⟨r1,a,rfl,(e4.trans (e5.trans e6)) _ _ d3,E6 _ _ ha⟩ (b4.mono E6.tups)⟩;refine⟨sh,l,b',_,_,hs,rfl,S.ext E6,hb',hl,λH7 S7 f7=>?_⟩;have tu:=f7.tups (S.ext E6);refine⟨qp,_,rfl,.inr (SqT.of (tu _ _ (E6 _ _ b3))),?_⟩;rw[psl];exact q H7 S7 ((Fr2.of E6).trans f7)
noncomputable abbrev nRefT:Am:=["self","thing"]
def scRefT:FnScope nRefT ["self","thing"] (j6 sRefT):= {}
inductive jEZ(C:Addr)(vs:List V)(H:Hp)(Q:VK)(_:XK):Prop|i(sh l:Addr)(t:Int)(x:Bx)(hs:List Bx)(_:vs=[.ref sh,.int t])(_:ShopAt C H sh l x hs)(_:0<=t)(_:t<x.1)(_:∀H',Ext H H'->Q .non H')
def refTA(T:Txt mg)(CL:Can P w K mg Aq "is_lot" 3 fL fdL ["thing","many"] (spB2 lotB))(hr:Room 3 (XOf nRefT "Shop.refuse_no_thing" sRefT P w K mg Aq f cdv A Ap s H0 E).A): {t:TS // JSs (XOf nRefT "Shop.refuse_no_thing" sRefT P w K mg Aq f cdv A Ap s H0 E) (jB sRefT) t}:=
 have nd:=scRefT.nd;have _h:=T
 ⟨_,(jC (kY (qK (yJ (CL.je hr gD (j3 (kD (j3 (jv 1 rfl vL) j5 j4)) (j3 (jI jG (kQ (jv 0 rfl vL)) (je_int) jD) j5 jJ) yB) yB) kZ)) (jC (jBS)) jS))⟩
def lot1{n:Int}(h0:0<=t)(h1:t<n):lotB n (.tup [Ob.int t])=true:=jBY (ks:=[t]) (dh _ _) λk hk=>by rw[aF.mp hk];exact⟨h0,h1⟩
theorem jSR{r:Addr}(d:H r=some (.tup [.int t])):At H (.tup [Ob.int t]) (.ref r):=jPE d (by show (1:Nat)<=100;decide) (Ats.ints [t])
theorem jTZ(F:Fun K "refuse_no_thing" "Shop.refuse_no_thing" sRefT f fd)(T:Txt mg)(SK:ShopK K C)(CL:Can P w K mg Aq "is_lot" 3 fL fdL ["thing","many"] (spB2 lotB)):FnOk P w K mg Aq CX0 4 f fd ["self","thing"] (jEZ C):=by
 refine F.ok scRefT (λvs H Q E h=>?_) (λcdv A Ap s H vs Q E hr h=>?_)
 .obtain⟨_,_,_,_,_,rfl,_⟩:=h;rfl
 .obtain⟨sh,l,t,x,hs,rfl,S,t0,t1,q⟩:=h;refine⟨_,(refTA T CL hr).2.h,?_⟩;obtain⟨dx,b,us,h1,h2,h3,h4⟩:=id S.ex;obtain⟨qm,qp,ps,b1,b2,b3,b4⟩:=id h2.ex;refine⟨by show (1:Nat)<=_;decide,λr H1 d1 e1=>?_⟩;refine⟨sh,C,dx,_,_,rfl,e1 _ _ h1,SK.cl,SK.nk,rfl,b,_,0,_,rfl,rfl,SqT.of (e1 _ _ b1),rfl,.ref r,_,_,rfl,jSR d1,λH2 e2=>⟨_,rfl,?_⟩⟩;rw[lot1 t0 t1];exact iteF (q H2 (e1.trans e2))
abbrev jIU:Am:=["number","count"]
def scAllBut:FnScope jIU ["number","count"] (j6 jB0):= {}
abbrev allB(t:Int)(n:Nat):Ag:=(upto n).filter λk=>!decide (k=t)
inductive jBD(vs:List V)(H:Hp)(Q:VK)(_:XK):Prop|i(t:Int)(n:Nat)(_:vs=[.int t,natV n])(_:n<=1000)(_:∀r H',H' r=some (.lst ((allB t n).map V.int))->Ext H H'->H r=none->Q (.ref r) H')
def jVG(T:Txt mg): {t:TS // JSs (XOf jIU "all_but" jB0 P w K mg Aq f cdv A Ap s H0 E) (jB jB0) t}:=
 have nd:=scAllBut.nd
 ⟨_,(jC (jM (kU (m:=[none,some 0]) (Nc:=["other","number"]) rfl (yC gD T.range (j3 (jv 1 rfl vL) j5 j4) j4) rfl Ab Ab (jR (psc:=j6 jB0)) (jO (N:=jIU) rfl rfl Ab) (λcl C fp s H=>jT (i:=0) (show (["other","number"]:Am).Nodup by decide+kernel) rfl yZ) (λcl C fp s H=>jB3 (jY op_ne (jv 0 rfl jZ) (jv 1 rfl yA) (jQ _))) (λcl C fp s H=>(jv 0 rfl jZ)) kW)))⟩
theorem jNL(F:Fun K "all_but" "all_but" jB0 f fd)(T:Txt mg):FnOk P w K mg Aq CX0 1 f fd ["number","count"] jBD:=by
 refine F.ok scAllBut (λvs H Q E h=>?_) (λcdv A Ap s H vs Q E hr h=>?_)
 .obtain⟨_,_,rfl,_⟩:=h;rfl
 .obtain⟨t,n,rfl,n1,q⟩:=h;refine⟨_,(jVG T).2.h,?_⟩;refine⟨(n:Int),rfl,Aa,Aa,jDR (n:=(n:Int).toNat) (λσ=>∃v,σ=[v,some (.int t)]) (outZ (upto n) (λk=>!decide (k=t)) V.int) (outZ.ok _ _ _) (by rw[aN];lia) ⟨_,rfl⟩ ?_ ?_⟩
  .rintro j σ' H1 zs hj ⟨v,rfl⟩ e1 hz S1 S2 yes no;have hx:(upto n)[j]?=some (j:Int):=by
    unfold upto;rw[aQ,cq Aa];rfl
   have e0:(0+(j:Int))=(j:Int):=Aa;dsimp only[kT];rw[e0];refine⟨rfl,_,rfl,?_⟩;show if (!decide (V.int (j:Int)=V.int t))=true then _ else _
   have ed:decide (V.int (j:Int)=V.int t)=decide ((j:Int)=t):=dW.mpr ⟨λz=>V.int.inj z,λz=>by rw[z]⟩;rw[ed];by_cases h:(j:Int)=t
   .rw[ay h];exact iteF (no _ _ ⟨_,rfl⟩ (Ext.refl _) (hz.no hx (by rw[ay h];rfl)))
   .rw[aH h];exact iteT (yes _ _ _ ⟨_,rfl⟩ (Ext.refl _) (hz.yes hx (by rw[aH h];rfl)))
  .rintro D H1 zs hD e1 n1 hz;have hz:zs=(((upto n).take (n:Int).toNat).filter λk=>!decide (k=t)).map V.int:=hz;rw[aX,bx (by rw[yD];exact ar _)] at hz;rw[hz] at hD;exact q D H1 hD e1 n1
abbrev jF7:Am:=["self","thing","mays","turned"]
def scTurnT:FnScope jF7 ["self","thing"] (j6 qE):= {}
def trn(t:Int)(ms:Ag):Ag:=if t∈ms then ms.filter λm=>!decide (m=t) else srt (ms++[t])
inductive jIC(C:Addr)(vs:List V)(H:Hp)(Q:VK)(_:XK):Prop|i(sh l:Addr)(t wi:Int)(ms:Ag)(ly:Ae)(hs:List Bx)(_:vs=[.ref sh,.int t])(_:ShopAt C H sh l (wi,ms,ly) hs)(_:0<=t)(_:t<wi)(_:ms.length<=60)(_:hs.length<=1000)(_:∀H',ShopAt C H' sh l (wi,trn t ms,ly) (hs++[(wi,ms,ly)])->Fr2 sh l H H'->Q .non H')
def jRW(T:Txt mg)(CB:CanM P w K mg Aq C "become" 2 fB fdB ["self","changed"] (yI C))(hr:Room 4 (XOf jF7 "Shop.turn_thing" qE P w K mg Aq f cdv A Ap s H0 E).A): {t:TS // JSs (XOf jF7 "Shop.turn_thing" qE P w K mg Aq f cdv A Ap s H0 E) ((jB qE).drop 3) t}:=
 have nd:=scTurnT.nd
 ⟨_,(jC (kP (CB.je (hr.mono Ac) (jv 0 rfl vL) (j3 (kD (j3 (jI jG (kQ (jv 0 rfl vL)) (je_int) jD) (j3 (kN kL gD T.tuple Ab (j3 (jv 3 rfl vL) j5 j4) j4) (j3 (jI jG (kQ (jv 0 rfl vL)) (je_int) jD) j5 jJ) jE) jJ)) j5 yB) yB) jL))⟩
def jVM(T:Txt mg)(CR:CanM P w K mg Aq C "refuse_no_thing" 4 fR fdR ["self","thing"] (jEZ C))(CB:CanM P w K mg Aq C "become" 2 fB fdB ["self","changed"] (yI C))(hr:Room 4 (XOf jF7 "Shop.turn_thing" qE P w K mg Aq f cdv A Ap s H0 E).A): {t:TS // JSs (XOf jF7 "Shop.turn_thing" qE P w K mg Aq f cdv A Ap s H0 E) (jB qE) t}:=
 have nd:=scTurnT.nd
 ⟨_,(j9 (kP (CR.je hr (jv 0 rfl vL) (j3 (jv 1 rfl vC) j5 j4) j4) jL) (j9 (jX (i:=2) nd rfl lL (jI jG (kQ (jv 0 rfl vL)) (je_int) jD) jEW) (j9 (jX (i:=3) nd rfl lL (jHI (jY jCA (jv 1 rfl vC) (jv 2 rfl vL) jIQ) (kU (m:=[none,some 1]) (Nc:=["may","thing"]) rfl (qO (jv 2 rfl vL)) rfl Ab Ab (jR (psc:=j6 qE)) (jO (N:=jF7) rfl rfl Ab) (λcl C fp s H=>jT (i:=0) (show (["may","thing"]:Am).Nodup by decide+kernel) rfl yZ) (λcl C fp s H=>jB3 (jY op_ne (jv 0 rfl jZ) (jv 1 rfl yA) (jQ _))) (λcl C fp s H=>(jv 0 rfl jZ)) qI) (jF jDE gD T.sorted Ab (j3 (kR jFV (jv 2 rfl vL) (kD (j3 (jv 1 rfl vC) j5 j4))) j5 y0) y0)) jS1) (jRW T CB hr).2)))⟩
theorem jQC(F:Fun K "turn_thing" "Shop.turn_thing" qE f fd)(T:Txt mg)(SK:ShopK K C)(CR:CanM P w K mg Aq C "refuse_no_thing" 4 fR fdR ["self","thing"] (jEZ C))(CB:CanM P w K mg Aq C "become" 2 fB fdB ["self","changed"] (yI C)):FnOk P w K mg Aq CX0 5 f fd ["self","thing"] (jIC C):=by
 refine F.ok scTurnT (λvs H Q E h=>?_) (λcdv A Ap s H vs Q E hr h=>?_)
 .obtain⟨_,_,_,_,_,_,_,rfl,_⟩:=h;rfl
 .obtain⟨sh,l,t,wi,ms,ly,hs,rfl,S,t0,t1,ml,hl,q⟩:=h;refine⟨_,(jVM T CR CB hr).2.h,?_⟩;obtain⟨dx,b,us,h1,h2,h3,h4⟩:=id S.ex;obtain⟨qm,qp,ps,b1,b2,b3,b4⟩:=id h2.ex;have b1:H b=some (.tup [.int wi,.ref qm,.ref qp]):=b1;have b2:H qm=some (.tup (ms.map V.int)):=b2;have b4:PcsAt H ps ly:=b4;refine⟨sh,dx,_,rfl,h1,rfl,sh,l,t,_,hs,rfl,S,t0,t1,λH1 e1=>?_⟩;refine⟨sh,C,dx,_,_,rfl,e1 _ _ h1,SK.cl,SK.nk,rfl,b,_,1,_,rfl,rfl,SqT.of (e1 _ _ b1),rfl,?_⟩;have fin:∀(r:Addr) (H2:Hp),H2 r=some (.lst ((trn t ms).map V.int))->Ext H1 H2->(jRW (f:=f) (cdv:=cdv) (A:=A) (Ap:=Ap) (s:=s) (H0:=H) (E:=E) T CB hr).1 {nx:=λ_ H'=>Q .non H',rt:=Q} [some (.ref sh),some (.int t),some (.ref qm),some (.ref r)] H2:=λr H2 d2 e2=>by
   have E2:=e1.trans e2;refine⟨sh,dx,_,rfl,E2 _ _ h1,rfl,sh,C,dx,_,_,rfl,E2 _ _ h1,SK.cl,SK.nk,rfl,b,_,0,_,rfl,rfl,SqT.of (E2 _ _ b1),rfl,r,_,rfl,.inl ⟨SqL.of d2,λr2 n2=>?_⟩⟩;have e3:Ext H2 (L2.upd H2 r2 (.tup ((trn t ms).map V.int))):=(Ext.refl _).new n2 _;have d3:(L2.upd H2 r2 (.tup ((trn t ms).map V.int))) r2=some (.tup ((trn t ms).map V.int)):=j7;generalize L2.upd H2 r2 (.tup ((trn t ms).map V.int))=H3 at e3 d3;have E3:=E2.trans e3;refine⟨sh,C,dx,_,_,rfl,E3 _ _ h1,SK.cl,SK.nk,rfl,b,_,2,_,rfl,rfl,SqT.of (E3 _ _ b1),rfl,by show (3:Nat)<=_;decide,λb' H4 d4 e4=>?_⟩;have E4:=E3.trans e4;exact⟨sh,l,b',_,_,hs,rfl,S.ext E4,⟨r2,qp,ps,d4,e4 _ _ d3,E4 _ _ b3,b4.mono E4.tups⟩,hl,λH5 S5 f5=>q H5 S5 ((Fr2.of E4).trans f5)⟩
  refine⟨qm,_,rfl,.inr (SqT.of (e1 _ _ b2)),rfl,jAA ms,_,rfl,?_⟩;rw[show (if false=true then !inV (V.int t) (ms.map V.int) else inV (V.int t) (ms.map V.int))=inV (V.int t) (ms.map V.int) from aq am,jAU];refine ite2 (λhin=>?_) (λhin=>?_)
  .have hin:t∈ms:=aP hin;refine⟨qm,rfl,⟨_,SqT.of (e1 _ _ b2)⟩,jGC (xs:=ms.map V.int) (λσ=>∃v,σ=[v,some (.int t)]) (outZ ms (λm=>!decide (m=t)) V.int) (outZ.ok _ _ _) (e1 _ _ b2) (by rw[af,aN];lia) ⟨_,rfl⟩ ?_ ?_⟩
   .rintro j x σ' H2 zs hx ⟨v,rfl⟩ e2 hz S1 S2 yes no;obtain⟨g,hg,rfl⟩:∃g,ms[j]?=some g/\V.int g=x:=by simpa using hx
    dsimp only[kT];refine⟨rfl,_,rfl,?_⟩;show if (!decide (V.int g=V.int t))=true then _ else _
    have ed:decide (V.int g=V.int t)=decide (g=t):=dW.mpr ⟨λz=>V.int.inj z,λz=>by rw[z]⟩;rw[ed];by_cases h:g=t
    .rw[ay h];exact iteF (no _ _ ⟨_,rfl⟩ (Ext.refl _) (hz.no hg (by rw[ay h];rfl)))
    .rw[aH h];exact iteT (yes _ _ _ ⟨_,rfl⟩ (Ext.refl _) (hz.yes hg (by rw[aH h];rfl)))
   .rintro D H2 zs hD e2 n2 hz;have hz:zs=((ms.take (ms.map V.int).length).filter λm=>!decide (m=t)).map V.int:=hz;rw[af,bq] at hz;refine fin D H2 ?_ e2;rw[hD,hz];unfold trn;rw[ax hin]
  .have hin:¬t∈ms:=λz=>hin (ay z);refine⟨by show (1:Nat)<=_;decide,λr1 H2 d2 e2=>?_⟩;refine⟨qm,r1,_,_,rfl,rfl,e2 _ _ (e1 _ _ b2),d2,by rw[af,aN];show _+1<=_;lia,λr2 H3 d3 e3=>?_⟩;refine⟨r2,ms++[t],rfl,by rw[d3,aU];rfl,by rw[ak];show _+1<_;lia,λr3 ns n3 pw pm=>?_⟩;refine fin r3 _ ?_ ((e2.trans e3).new n3 _);rw[j7,jGP pw pm];unfold trn;rw[aq hin]
abbrev jK7:Am:=["self","thing"]
def scTakeT:FnScope jK7 ["self","thing"] (j6 qR):= {}
def lss(t:Int)(x:Bx):Bx:=((allB t x.1.toNat).length,nmd (allB t x.1.toNat) x.2.1,pick (allB t x.1.toNat) x.2.2 (upto x.2.2.length))
inductive jID(C tb:Addr)(vs:List V)(H:Hp)(Q:VK)(_:XK):Prop|i(sh l:Addr)(t wi:Int)(ms:Ag)(ly:Ae)(hs:List Bx)(_:vs=[.ref sh,.int t])(_:ShopAt C H sh l (wi,ms,ly) hs)(_:Good 16 32 wi ms ly)(_:0<=t)(_:t<wi)(_:(∀pc∈ly,t∉pc.1))(_:hs.length<=1000)(_:TabP H tb)(_:∀H',ShopAt C H' sh l (lss t (wi,ms,ly)) (hs++[(wi,ms,ly)])->TabP H' tb->(∀c o,H c=some o->c≠tb->c≠sh->c≠l->H' c=some o)->Q .non H')
def jVN(T:Txt mg)(CR:CanM P w K mg Aq C "refuse_no_thing" 4 fR fdR ["self","thing"] (jEZ C))(CB:CanM P w K mg Aq C "become" 2 fB fdB ["self","changed"] (yI C))(CA:Can P w K mg Aq "all_but" 1 fA fdA ["number","count"] jBD)(CK:Can P w K mg Aq "picked" 2 fK fdK ["box","things","pieces"] (jAB tb))(hr:Room 4 (XOf jK7 "Shop.take_thing" qR P w K mg Aq f cdv A Ap s H0 E).A): {t:TS // JSs (XOf jK7 "Shop.take_thing" qR P w K mg Aq f cdv A Ap s H0 E) (jB qR) t}:=
 have nd:=scTakeT.nd
 ⟨_,(j9 (kP (CR.je hr (jv 0 rfl vL) (j3 (jv 1 rfl vC) j5 j4) j4) jL)
   (j9 (kY (yJ (jF (jEM rfl) gD T.any Ab (j3 (kU (m:=[none,some 1]) (Nc:=["piece","thing"]) rfl (qO (jI jG (kQ (jv 0 rfl vL)) (je_int) jD)) rfl Ab Ab (jR (psc:=j6 qR)) (jO (N:=jK7) rfl rfl Ab) (λcl C fp s H=>jT (i:=0) (show (["piece","thing"]:Am).Nodup by decide+kernel) rfl yZ) (λcl C fp s H=>yK) (λcl C fp s H=>(y9 jFU (jv 1 rfl yA) (jI yO (jv 0 rfl jZ) (je_int) jD) jH9)) jHN) j5 jP) jP) kZ) (jC (jBS)) jS)
   (jC (kP (CB.je (hr.mono Ac) (jv 0 rfl vL) (j3 (CK.je (hr.mono Ac) gD (j3 (kQ (jv 0 rfl vL)) (j3 (CA.je (hr.mono Ac) gD (j3 (jv 1 rfl vC) (j3 (jI jG (kQ (jv 0 rfl vL)) (je_int) jD) j5 jJ) j4) j4) (j3 (kN (jB7 rfl) gD T.list Ab (j3 (kN jC2 gD T.range Ab (j3 (jF jH gD T.len Ab (j3 (jI jG (kQ (jv 0 rfl vL)) (je_int) jD) j5 jJ) jJ) j5 jE) jE) j5 jE) jE) j5 jE) jE) yQ) yQ) j5 jE) jE) jL))))⟩
def jEO(t:Int)(n:Nat):(allB t n).Pairwise (· < ·):=(yL n).ris.filter _
theorem jKX(t:Int)(n:Nat):(allB t n).length<=n:=by
 have:=bB (λk=>!decide (k=t)) (upto n)
 rwa [yD] at this
def jCJ(h:z∈allB t n):(0<=z/\z<n)/\z≠t:=by
 obtain⟨h1,h2⟩:=bv.mp h;exact⟨(yL n).bnd z h1,λe=>by rw[ay e] at h2;cases h2⟩
theorem jQD(F:Fun K "take_thing" "Shop.take_thing" qR f fd)(T:Txt mg)(SK:ShopK K C)(CR:CanM P w K mg Aq C "refuse_no_thing" 4 fR fdR ["self","thing"] (jEZ C))(CB:CanM P w K mg Aq C "become" 2 fB fdB ["self","changed"] (yI C))(CA:Can P w K mg Aq "all_but" 1 fA fdA ["number","count"] jBD)(CK:Can P w K mg Aq "picked" 2 fK fdK ["box","things","pieces"] (jAB tb)):FnOk P w K mg Aq CX0 5 f fd ["self","thing"] (jID C tb):=by
 refine F.ok scTakeT (λvs H Q E h=>?_) (λcdv A Ap s H vs Q E hr h=>?_)
 .obtain⟨_,_,_,_,_,_,_,rfl,_⟩:=h;rfl
 .obtain⟨sh,l,t,wi,ms,ly,hs,rfl,S,g,t0,t1,hn,hl,tab,q⟩:=h;refine⟨_,(jVN T CR CB CA CK hr).2.h,?_⟩;obtain⟨dx,b,us,h1,h2,h3,h4⟩:=id S.ex;obtain⟨qm,qp,ps,b1,b2,b3,b4⟩:=id h2.ex;have b1:H b=some (.tup [.int wi,.ref qm,.ref qp]):=b1;have b2:H qm=some (.tup (ms.map V.int)):=b2;have b4:PcsAt H ps ly:=b4;have psl:=b4.len;have gpl:=g.pl;have w1:=g.w1;have w0:=g.w0;refine⟨sh,dx,_,rfl,h1,rfl,sh,l,t,_,hs,rfl,S,t0,t1,λH1 e1=>?_⟩;refine⟨sh,C,dx,_,_,rfl,e1 _ _ h1,SK.cl,SK.nk,rfl,b,_,2,_,rfl,rfl,SqT.of (e1 _ _ b1),rfl,qp,rfl,⟨_,SqT.of (e1 _ _ b3)⟩,jGC (xs:=ps) (λσ=>∃v,σ=[v,some (.int t)]) (mapZ ly λpc=>V.bl (decide (t∈pc.1))) (mapZ.ok _ _) (e1 _ _ b3) (by rw[aN];lia) ⟨_,rfl⟩ ?_ ?_⟩
  .rintro j x σ' H2 zs hx ⟨v,rfl⟩ e2 hz S1 S2 yes no;have jl:j<ly.length:=by rw[<- psl];exact(aj.mp hx).1
   obtain⟨v',hv',r,qt,rfl,dr,dt⟩:=b4.get jl;obtain rfl:=bo (hx.symm.trans hv');have E2:=e1.trans e2;dsimp only[kT,qC];rw[ax rfl];refine⟨r,_,0,_,rfl,rfl,SqT.of (E2 _ _ dr),rfl,qt,_,rfl,.inr (SqT.of (E2 _ _ dt)),rfl,jAA _,?_⟩;rw[show (if false=true then !inV (V.int t) ((ly.getD j ([],0)).1.map V.int) else inV (V.int t) ((ly.getD j ([],0)).1.map V.int))=inV (V.int t) ((ly.getD j ([],0)).1.map V.int) from aq am,jAU];refine yes _ _ _ ⟨_,rfl⟩ (Ext.refl _) (hz.yes (x:=ly.getD j ([],0)) ?_);rw[aB,az jl];rfl
  .rintro D H2 zs hD e2 n2 hz;have hz:=hz.all Aa;have hz2:zs=(ly.map λpc=>decide (t∈pc.1)).map V.bl:=by rw[hz,bN];rfl
   rw[hz2] at hD;have E2:=e1.trans e2;have tab2:=tab.ext E2;have S2:=S.ext E2;have a1:(ly.map λpc=>decide (t∈pc.1)).any id=false:=by
    rw[List.any_eq_false];intro x hx;obtain⟨pc,hp,rfl⟩:=bh.mp hx;exact λz=>hn pc hp (aP z)
   refine⟨D,_,rfl,SqL.of hD,_,rfl,iteN a1 ?_⟩;refine⟨sh,dx,_,rfl,E2 _ _ h1,rfl,sh,C,dx,_,_,rfl,E2 _ _ h1,SK.cl,SK.nk,rfl,sh,C,dx,_,_,rfl,E2 _ _ h1,SK.cl,SK.nk,rfl,b,_,0,_,rfl,rfl,SqT.of (E2 _ _ b1),rfl,t,wi.toNat,by show [V.int t,V.int wi]=[V.int t,V.int ((wi.toNat:Nat):Int)];rw[eZ w0],Aa,λr1 H3 d3 e3 n3=>?_⟩;have E3:=E2.trans e3;refine⟨sh,C,dx,_,_,rfl,E3 _ _ h1,SK.cl,SK.nk,rfl,b,_,2,_,rfl,rfl,SqT.of (E3 _ _ b1),rfl,qp,_,rfl,.inr (SqT.of (E3 _ _ b3)),_,rfl,λpr n4=>⟨pr,_,rfl,j7,Aa,Aa,λr5 n5=>?_⟩⟩;have e5:Ext H3 (L2.upd (L2.upd H3 pr (.rng 0 (ps.length:Int))) r5 (.lst (qL ((ps.length:Int)).toNat))):=((Ext.refl _).new n4 _).new n5 _;have d5:(L2.upd (L2.upd H3 pr (.rng 0 (ps.length:Int))) r5 (.lst (qL ((ps.length:Int)).toNat))) r5=some (.lst ((upto ly.length).map V.int)):=by rw[j7,jEH,aX,psl]
   generalize L2.upd (L2.upd H3 pr (.rng 0 (ps.length:Int))) r5 (.lst (qL ((ps.length:Int)).toNat))=H5 at e5 d5;have E5:=E3.trans e5;have al:=jKX t wi.toNat;have tab5:=tab.ext E5;have ml:=yG g.mr.ris g.mr.bnd w1;refine⟨b,r1,r5,false,false,wi,ms,ly,allB t wi.toNat,upto ly.length,rfl,(h2.mono E5.tups),e5 _ _ d3,d5,(jEO t _).imp (λh=>by lia),Aa,Aa,λpc hp=>?_,λk hk=>(yL ly.length).bnd k hk,by rw[yD];lia,tab5,λr H6 B6 e6 t6=>?_⟩
   .have:=yG (g.pg pc hp).lot.ris (g.pg pc hp).lot.bnd w1;lia
   .have S6:=(S.ext E5).extT tab5 e6;refine⟨sh,l,r,_,lss t (wi,ms,ly),hs,rfl,S6,B6,hl,λH7 S7 f7=>q H7 S7 (TabOk.keepO t6 (f7.other S6)) λc o h m1 m2 m3=>f7 _ _ (e6 _ _ (E5 _ _ h) m1) m2 m3⟩
abbrev jNQ:Am:=["self","piece","count"]
def scTakeP:FnScope jNQ ["self","piece"] (j6 jBO):= {}
def lsp(k:Int)(x:Bx):Bx:=((upto x.1.toNat).length,nmd (upto x.1.toNat) x.2.1,pick (upto x.1.toNat) x.2.2 (allB k x.2.2.length))
inductive jIE(C tb:Addr)(vs:List V)(H:Hp)(Q:VK)(_:XK):Prop|i(sh l:Addr)(k wi:Int)(ms:Ag)(ly:Ae)(hs:List Bx)(_:vs=[.ref sh,.int k])(_:ShopAt C H sh l (wi,ms,ly) hs)(_:Good 16 32 wi ms ly)(_:0<=k)(_:k<ly.length)(_:hs.length<=1000)(_:TabP H tb)(_:∀H',ShopAt C H' sh l (lsp k (wi,ms,ly)) (hs++[(wi,ms,ly)])->TabP H' tb->(∀c o,H c=some o->c≠tb->c≠sh->c≠l->H' c=some o)->Q .non H')
def jVO(T:Txt mg)(CL:Can P w K mg Aq "is_lot" 3 fL fdL ["thing","many"] (spB2 lotB))(CB:CanM P w K mg Aq C "become" 2 fB fdB ["self","changed"] (yI C))(CA:Can P w K mg Aq "all_but" 1 fA fdA ["number","count"] jBD)(CK:Can P w K mg Aq "picked" 2 fK fdK ["box","things","pieces"] (jAB tb))(hr:Room 3 (XOf jNQ "Shop.take_piece" jBO P w K mg Aq f cdv A Ap s H0 E).A): {t:TS // JSs (XOf jNQ "Shop.take_piece" jBO P w K mg Aq f cdv A Ap s H0 E) (jB jBO) t}:=
 have nd:=scTakeP.nd
 ⟨_,(j9 (jX (i:=2) nd rfl lL (jF jH gD T.len Ab (j3 (jI jG (kQ (jv 0 rfl vL)) (je_int) jD) j5 jJ) jJ) jL)
   (j9 (kY (qK (yJ (CL.je hr gD (j3 (kD (j3 (jv 1 rfl vL) j5 j4)) (j3 (jv 2 rfl vL) j5 j4) yB) yB) kZ)) (jC (jBS)) jS)
   (jC (kP (CB.je (hr.mono Ac) (jv 0 rfl vL) (j3 (CK.je (hr.mono Ac) gD (j3 (kQ (jv 0 rfl vL)) (j3 (kN (jB7 rfl) gD T.list Ab (j3 (kN jC2 gD T.range Ab (j3 (jI jG (kQ (jv 0 rfl vL)) (je_int) jD) j5 jJ) jJ) j5 jE) jE) (j3 (CA.je (hr.mono Ac) gD (j3 (jv 1 rfl vL) (j3 (jv 2 rfl vL) j5 j4) j4) j4) j5 jE) jE) yQ) yQ) j5 jE) jE) jL))))⟩
theorem jQE(F:Fun K "take_piece" "Shop.take_piece" jBO f fd)(T:Txt mg)(SK:ShopK K C)(CL:Can P w K mg Aq "is_lot" 3 fL fdL ["thing","many"] (spB2 lotB))(CB:CanM P w K mg Aq C "become" 2 fB fdB ["self","changed"] (yI C))(CA:Can P w K mg Aq "all_but" 1 fA fdA ["number","count"] jBD)(CK:Can P w K mg Aq "picked" 2 fK fdK ["box","things","pieces"] (jAB tb)):FnOk P w K mg Aq CX0 4 f fd ["self","piece"] (jIE C tb):=by
 refine F.ok scTakeP (λvs H Q E h=>?_) (λcdv A Ap s H vs Q E hr h=>?_)
 .obtain⟨_,_,_,_,_,_,_,rfl,_⟩:=h;rfl
 .obtain⟨sh,l,k,wi,ms,ly,hs,rfl,S,g,k0,k1,hl,tab,q⟩:=h;refine⟨_,(jVO T CL CB CA CK hr).2.h,?_⟩;obtain⟨dx,b,us,h1,h2,h3,h4⟩:=id S.ex;obtain⟨qm,qp,ps,b1,b2,b3,b4⟩:=id h2.ex;have b1:H b=some (.tup [.int wi,.ref qm,.ref qp]):=b1;have b4:PcsAt H ps ly:=b4;have psl:=b4.len;have gpl:=g.pl;have w1:=g.w1;have w0:=g.w0;refine⟨sh,C,dx,_,_,rfl,h1,SK.cl,SK.nk,rfl,b,_,2,_,rfl,rfl,SqT.of b1,rfl,qp,_,rfl,.inr (SqT.of b3),?_⟩;refine⟨by show (1:Nat)<=_;decide,λr H1 d1 e1=>?_⟩;refine⟨.ref r,_,_,rfl,jSR d1,λH2 e2=>⟨_,rfl,?_⟩⟩;rw[lot1 k0 (by rw[psl];exact k1)];refine iteF ?_;have E2:=e1.trans e2;refine⟨sh,dx,_,rfl,E2 _ _ h1,rfl,sh,C,dx,_,_,rfl,E2 _ _ h1,SK.cl,SK.nk,rfl,?_⟩;refine⟨sh,C,dx,_,_,rfl,E2 _ _ h1,SK.cl,SK.nk,rfl,b,_,0,_,rfl,rfl,SqT.of (E2 _ _ b1),rfl,_,rfl,λpr n4=>⟨pr,_,rfl,j7,Aa,Aa,λr5 n5=>?_⟩⟩;have e5:Ext H2 (L2.upd (L2.upd H2 pr (.rng 0 wi)) r5 (.lst (qL wi.toNat))):=((Ext.refl _).new n4 _).new n5 _;have d5:(L2.upd (L2.upd H2 pr (.rng 0 wi)) r5 (.lst (qL wi.toNat))) r5=some (.lst ((upto wi.toNat).map V.int)):=by rw[j7,jEH]
  generalize L2.upd (L2.upd H2 pr (.rng 0 wi)) r5 (.lst (qL wi.toNat))=H5 at e5 d5;refine⟨k,ly.length,by show [V.int k,V.int (ps.length:Int)]=_;rw[psl],Aa,λr1 H6 d6 e6 n6=>?_⟩;have E6:=(E2.trans e5).trans e6;have al:=jKX k ly.length;have tab6:=tab.ext E6;have ml:=yG g.mr.ris g.mr.bnd w1;refine⟨b,r5,r1,false,false,wi,ms,ly,upto wi.toNat,allB k ly.length,rfl,(h2.mono E6.tups),e6 _ _ d5,d6,(yL _).ris.imp (λh=>by lia),by rw[yD];lia,Aa,λpc hp=>?_,λz hz=>(jCJ hz).1,Aa,tab6,λr H7 B7 e7 t7=>?_⟩
  .have:=yG (g.pg pc hp).lot.ris (g.pg pc hp).lot.bnd w1;lia
  .have S7:=(S.ext E6).extT tab6 e7;refine⟨sh,l,r,_,lsp k (wi,ms,ly),hs,rfl,S7,B7,hl,λH8 S8 f8=>q H8 S8 (TabOk.keepO t7 (f8.other S7)) λc o h m1 m2 m3=>f8 _ _ (e7 _ _ (E6 _ _ h) m1) m2 m3⟩
noncomputable abbrev nUndo:Am:=["self"]
def scUndo:FnScope nUndo ["self"] (j6 sUndo):= {}
inductive jMJ(C:Addr)(vs:List V)(H:Hp)(Q:VK)(_:XK):Prop|i(sh l:Addr)(x y:Bx)(hs:List Bx)(_:vs=[.ref sh])(_:ShopAt C H sh l x (hs++[y]))(_:∀H',ShopAt C H' sh l y hs->Fr2 sh l H H'->Q .non H')
def undoA(T:Txt mg)(hr:Room 1 (XOf nUndo "Shop.undo" sUndo P w K mg Aq f cdv A Ap s H0 E).A): {t:TS // JSs (XOf nUndo "Shop.undo" sUndo P w K mg Aq f cdv A Ap s H0 E) (jB sUndo) t}:=
 have nd:=scUndo.nd
 ⟨_,(j9 (kY (jY qJ (jF jH gD T.len Ab (j3 (kQ (jv 0 rfl vL)) j5 yQ) yQ) (je_int) (jQ _)) (jC (jBS)) jS)
   (jC (jKK (jv 0 rfl vL) (jKO cw jo jp jSD (kQ (jv 0 rfl vL))) jL)))⟩
def jI3{α β:Type}{R:α->β->Prop}:∀{us:List α}{hs:List β}{y:β},All2 R us (hs++[y])->∃vs u,us=vs++[u]/\All2 R vs hs/\R u y
 |[u],[],_,h=>⟨[],u,rfl,trivial,h.1⟩
 |u::us,x::hs,y,h=>by
  obtain⟨vs,v,e,a,b⟩:=jI3 (us:=us) (hs:=hs) (y:=y) h.2;exact⟨u::vs,v,by rw[e];rfl,⟨h.1,a⟩,b⟩
 |[],[],_,h=>h.elim
 |[],_::_,_,h=>h.elim
 |_::_::_,[],_,h=>h.2.elim
theorem jTX(F:Fun K "undo" "Shop.undo" sUndo f fd)(T:Txt mg)(SK:ShopK K C):FnOk P w K mg Aq CX0 2 f fd ["self"] (jMJ C):=by
 refine F.ok scUndo (λvs H Q E h=>?_) (λcdv A Ap s H vs Q E hr h=>?_)
 .obtain⟨_,_,_,_,_,rfl,_⟩:=h;rfl
 .obtain⟨sh,l,x,y,hs,rfl,S,q⟩:=h;refine⟨_,(undoA T hr).2.h,?_⟩;obtain⟨dx,b,us,h1,h2,h3,h4⟩:=id S.ex;have ne:=S.ne;obtain⟨vs,u,rfl,ha,b',rfl,hb'⟩:=jI3 h4;refine⟨sh,C,dx,_,_,rfl,h1,SK.cl,SK.ne,rfl,l,_,rfl,.inl (SqL.of h3),rfl,_,rfl,iteN (aH λz=>?_) ?_⟩
  .have:=V.int.inj z;rw[ak] at this;have e:([V.ref b']:List V).length=1:=rfl;lia
  .refine⟨sh,C,dx,_,_,rfl,h1,SK.cl,SK.ne,rfl,.inl ⟨rfl,_,SqL.of h3⟩,l,_,.ref b',rfl,rfl,h3,by rw[ak];show (vs++[V.ref b'])[vs.length+1-1]?=_;rw[kz,be (ar _),fY];rfl,?_⟩;rw[List.dropLast_concat];refine⟨sh,C,dx,[("kept",.ref b),("earlier",.ref l)],rfl,by rw[j8 ne];exact h1,SK.cl,SK.nk,by show (2:Nat)<1000;decide,?_⟩;have f:Fr2 sh l H (L2.upd (L2.upd H l (.lst vs)) sh (.ins C dx [("kept",.ref b'),("earlier",.ref l)])):=λc o h m n=>by rw[j8 m,j8 n];exact h
   have tu:=f.tups S;exact q _ ⟨dx,b',vs,j7,hb'.mono tu,by rw[j8 (ce ne)];exact j7,All2.imp (λ_ _=>BxAt.mono tu) ha⟩ f
theorem jPN(h0:0<=t)(h1:t<n):(((upto n).idxOf t:Nat):Int)=t:=by
 have e:t=(upto n)[t.toNat]'(by rw[yD];lia):=by
  have:=jJI (n:=n) (i:=t.toNat) Aa;rw[az (by rw[yD];lia)] at this;rw[bo this];lia
 have:=(jEV n).idxOf_getElem t.toNat (by rw[yD];lia);rw[<- e] at this;lia
def jK6{n:Nat}{lot:Ag}(r:lot.Pairwise (· < ·))(hb:∀t∈lot,0<=t/\t<n):nmd (upto n) lot=lot:=by
 rw[jFW (yL n).ris r,jJY λt ht=>mem_upto.mpr (hb t ht)];refine(cH λt ht=>jPN (hb t ht).1 (hb t ht).2).trans ?_;exact iK _
theorem jQ1{wi:Int}(g:Good 16 32 wi ms ly):pick (upto wi.toNat) ly (upto ly.length)=ly:=by
 unfold pick upto;rw[bN];refine gx Ad λi h1 h2=>?_;have hi:i<ly.length:=h2;have gp:=g.at hi;have w0:=g.w0;simp only[List.getElem_map,lg,kg,aX];have e:ly.getD i ([],0)=ly[i]:=by simp[List.getD,hi]
 rw[e] at gp ⊢;have:=jK6 (n:=wi.toNat) gp.lot.ris λt ht=>by have:=gp.lot.bnd t ht;lia
 unfold jK;rw[aX,e];unfold upto at this;rw[this]
def jGL(n:Nat):upto (n+1)=upto n++[(n:Int)]:=by
 unfold upto;rw[eh,aU];rfl
def myU(ms:Ag)(i:Nat):Ag:=(upto i).filter λt=>decide (t∈ms)
theorem jQO(ms:Ag)(i:Nat):myU ms (i+1)=if (i:Int)∈ms then myU ms i++[(i:Int)] else myU ms i:=by
 unfold myU;rw[jGL,bS];by_cases h:(i:Int)∈ms
 .rw[ax h,List.filter_cons_of_pos (p:=λt=>decide (t∈ms)) (ay h)];rfl
 .rw[aq h,iZ (p:=λt=>decide (t∈ms)) (λz=>h (aP z))];simp
theorem jUF{w:Int}(r:Ris w ms)(w0:0<=w):myU ms w.toNat=ms:=by
 unfold myU;refine jMY ((yL _).ris.filter _) r.ris λz=>⟨λh=>aP (bv.mp h).2,λh=>bv.mpr ⟨mem_upto.mpr ?_,ay h⟩⟩;have:=r.bnd z h;lia
theorem jUE(ms:Ag)(i:Nat):(myU ms i).length<=i:=by
 have:=bB (λt=>decide (t∈ms)) (upto i)
 rwa [yD] at this
theorem jQT{w:Int}{p:List Int×Int}(g:Good 16 32 w ms (ly++[p])):lsp (ly.length:Int) (w,ms,ly++[p])=(w,ms,ly):=by
 have w0:=g.w0;have gw:Good 16 32 w ms ly:=⟨g.w0,g.w1,g.mr,by have:=g.pl;rw[ak] at this;lia,λpc h=>g.pg pc (aZ _ h)⟩;unfold lsp;show ((((upto w.toNat).length:Nat):Int),nmd (upto w.toNat) ms,pick (upto w.toNat) (ly++[p]) (allB (ly.length:Int) (ly++[p]).length))=(w,ms,ly);rw[yD,eZ w0,jK6 g.mr.ris λt ht=>by have:=g.mr.bnd t ht;lia];have ea:allB (ly.length:Int) (ly++[p]).length=upto ly.length:=by
  unfold allB;rw[ak];show (upto (ly.length+1)).filter _=_;rw[jGL,bS,gZ.mpr λk hk=>by
   have:=mem_upto.mp hk;rw[aH Aa];rfl]
  rw[iZ (p:=λk=>!decide (k=(ly.length:Int))) (by rw[ay rfl];decide)];exact bg _
 rw[ea];have:=jQ1 gw
 conv=>rhs;rw[<- this]
 congr 2;unfold pick;refine cH λk hk=>?_;have hb:=mem_upto.mp hk;unfold jK;rw[aB,aB,bK Aa]
def upL(L ts:Ag):Ag:=ts.map λt=>L.getD t.toNat 0
section
variable {t:Int}(h0:0<=t)(h1:t<(n+1:Nat))
include h0 h1
theorem jBL:(allB t (n+1)).length=n:=by
 have e:=List.length_eq_countP_add_countP (λk=>decide (k=t)) (l:=upto (n+1));have c1:(upto (n+1)).countP (λk=>decide (k=t))=1:=by
  have:(upto (n+1)).countP (λk=>decide (k=t))=(upto (n+1)).count t:=by
   unfold List.count;refine List.countP_congr λx _=>?_;simp
  rw[this];rw[(jEV _).count,ax (mem_upto.mpr ⟨h0,h1⟩)]
 rw[yD,c1] at e;have c2:(allB t (n+1)).length=(upto (n+1)).countP (λk=>!decide (k=t)):=List.countP_eq_length_filter.symm;have c3:(upto (n+1)).countP (λk=>!decide (k=t))=(upto (n+1)).countP (λk=>decide ¬(decide (k=t)=true)):=List.countP_congr λx _=>by simp
 lia
theorem jDV(hb:∀z∈ts,0<=z/\z<(n:Int)):∀z∈upL (allB t (n+1)) ts,z∈allB t (n+1):=λz hz=>by
 obtain⟨k,hk,rfl⟩:=bh.mp hz;have:=hb k hk;have c:=jBL h0 h1;rw[aB,az (show k.toNat<(allB t (n+1)).length by lia)];exact cK _
theorem jFL(hr:ts.Pairwise (· < ·))(hb:∀z∈ts,0<=z/\z<(n:Int)):(upL (allB t (n+1)) ts).Pairwise (· < ·):=by
 unfold upL;rw[bG];refine ff (λ{a b} ha hb' hab=>?_) hr;have q1:=hb a ha;have q2:=hb b hb';have c:=jBL h0 h1;rw[aB,az (show a.toNat<(allB t (n+1)).length by lia),aB,az (show b.toNat<(allB t (n+1)).length by lia)];exact bY.mp (jEO t (n+1)) _ _ Aa Aa Aa
theorem jUB(hr:ts.Pairwise (· < ·))(hb:∀z∈ts,0<=z/\z<(n:Int)):nmd (allB t (n+1)) (upL (allB t (n+1)) ts)=ts:=by
 rw[jFW (jEO t _) (jFL h0 h1 hr hb),jJY (jDV h0 h1 hb)];unfold upL;rw[bN];refine(cH λk hk=>?_).trans (iK _);have q:=hb k hk;have c:=jBL h0 h1;show (((allB t (n+1)).idxOf ((allB t (n+1)).getD k.toNat 0):Nat):Int)=k;rw[aB,az (show k.toNat<(allB t (n+1)).length by lia)];have nd:(allB t (n+1)).Nodup:=(jEO t (n+1)).imp λh=>by lia
 have:=nd.idxOf_getElem k.toNat Aa;show (((allB t (n+1)).idxOf ((allB t (n+1))[k.toNat]' Aa):Nat):Int)=k;lia
theorem jX1{mz:Ag}(g:Good 16 32 (n:Int) ms ly):lss t (((n+1:Nat):Int),mz,ly.map λpc=>(upL (allB t (n+1)) pc.1,pc.2))=((n:Int),nmd (allB t (n+1)) mz,ly):=by
 unfold lss;show (((allB t ((n+1:Nat):Int).toNat).length:Int),nmd (allB t ((n+1:Nat):Int).toNat) mz,pick (allB t ((n+1:Nat):Int).toNat) (ly.map λpc=>(upL (allB t (n+1)) pc.1,pc.2)) (upto (ly.map λpc=>(upL (allB t (n+1)) pc.1,pc.2)).length))=_;rw[aX,jBL h0 h1,af];congr 2;unfold pick upto;rw[bN];refine gx Ad λi h1' h2=>?_;have hi:i<ly.length:=h2;simp only[List.getElem_map,lg,kg,aX];unfold jK;rw[aX,aB,aQ,az hi];show (nmd (allB t (n+1)) (upL (allB t (n+1)) ly[i].1),ly[i].2)=_;have gp:=g.pg _ (cK hi);rw[jUB h0 h1 gp.lot.ris gp.lot.bnd]
end
theorem trn_mem:z∈trn t ms↔if z=t then t∉ms else z∈ms:=by
 unfold trn;by_cases h:t∈ms
 .rw[ax h,bv];by_cases e:z=t
  .rw[ax e,ay e];exact⟨λq=>absurd q.2 Ac,λq=>absurd h q⟩
  .rw[aq e,aH e];exact⟨λq=>q.1,λq=>⟨q,rfl⟩⟩
 .rw[aq h,(jDH _).mem_iff,aM,aF];by_cases e:z=t
  .rw[ax e];exact⟨λ_=>h,λ_=> .inr e⟩
  .rw[aq e];exact⟨λq=>q.elim id λz=>absurd z e,λq=> .inl q⟩
theorem jSY{w:Int}(r:Ris w ms)(h0:0<=t)(h1:t<w):Ris w (trn t ms):=by
 refine⟨?_,λz hz=>?_⟩
 .unfold trn;by_cases h:t∈ms
  .rw[ax h];exact r.ris.filter _
  .rw[aq h];have nd:(srt (ms++[t])).Nodup:=(jDH _).nodup_iff.mpr (eE.mpr ⟨r.ris.imp λh=>by lia,cg.mpr ⟨aS,ig⟩,λa ha b hb e=>by rw[aF.mp hb] at e;exact h (e ▸ ha)⟩);exact(List.Pairwise.and (jS2 (ms++[t])) nd).imp λ{a b} ⟨x,y⟩=>by lia
 .have:=trn_mem.mp hz;by_cases e:z=t
  .rw[e];exact⟨h0,h1⟩
  .rw[aq e] at this;exact r.bnd z this
end Eo
section
namespace L2
open PySem
mutual
def TAt.keep{H H':Hp}(e:∀b o,H b=some o->(∀ps,o≠.tbl ps)->(∀C dx fs,o≠.ins C dx fs)->H' b=some o):∀{t:Tr}{v:V},TAt H t v->TAt H' t v
 | .non,_,h=>h
 | .bl _,_,h=>h
 | .int _,_,h=>h
 | .str _,_,h=>h
 | .lst ts,_,⟨a,vs,q,h,r⟩=>⟨a,vs,q,e _ _ h (by intro _ z;cases z) (by intro _ _ _ z;cases z),TsAt.keep e r⟩
 | .tup ts,_,⟨a,vs,q,h,r⟩=>⟨a,vs,q,e _ _ h (by intro _ z;cases z) (by intro _ _ _ z;cases z),TsAt.keep e r⟩
def TsAt.keep{H H':Hp}(e:∀b o,H b=some o->(∀ps,o≠.tbl ps)->(∀C dx fs,o≠.ins C dx fs)->H' b=some o):∀{ts:List Tr}{vs:List V},TsAt H ts vs->TsAt H' ts vs
 |[],_,h=>h
 |t::ts,_,⟨v,r,q,h,s⟩=>⟨v,r,q,TAt.keep e h,TsAt.keep e s⟩
end
end L2
namespace Eo
open PySem L2
variable {fd:FuncData}{v7 v6 v5 v1 v4 v3 v0 v8 v2:Option V}{D:Ends}{sp:Sp}{b qt ql:Addr}{mz:Ag}{N t wi z:Int}{q p1:Str}{xs:List V}{i:Nat}
abbrev tLt(tb:Addr):TT:=⟨tb,pLBeh,qLB⟩
abbrev LL(tb1 tb2 tb3 tb4 tb5:Addr):List TT:=[tP tb1,tW tb2,tK tb3,tB tb4,tLt tb5]
abbrev XS(tb1 tb2 tb3 tb4 tb5:Addr):Hp->Hp->Prop:=ExS (ads (LL tb1 tb2 tb3 tb4 tb5))
section
variable (tS:TbS (LL tb1 tb2 tb3 tb4 tb5) H)
include tS
theorem LL.pp:TabP H tb1:=tS.ok (tP tb1) (ai ..)
theorem LL.ww:TabW H tb2:=tS.ok (tW tb2) (ag _ (ai ..))
theorem LL.m5:tLt tb5∈LL tb1 tb2 tb3 tb4 tb5:=aE (L4 tb1 tb2 tb3 tb4) (aF.mpr rfl)
theorem LL.ll:TabL H tb5:=tS.ok (tLt tb5) (LL.m5 tS)
theorem LL.toW(e:ExtT tb2 H H')(k:TabW H' tb2):TbS (LL tb1 tb2 tb3 tb4 tb5) H'/\XS tb1 tb2 tb3 tb4 tb5 H H':=⟨tS.setT (x:=tW tb2) (ag _ (ai ..)) e k,ExS.ofT e (ag _ (ai ..))⟩
theorem LL.toL(e:ExtT tb5 H H')(k:TabL H' tb5):TbS (LL tb1 tb2 tb3 tb4 tb5) H'/\XS tb1 tb2 tb3 tb4 tb5 H H':=⟨tS.setT (x:=tLt tb5) (LL.m5 tS) e k,ExS.ofT e (dR (f:=TT.a) (LL.m5 tS))⟩
theorem LL.four:TbS (L4 tb1 tb2 tb3 tb4) H:=⟨tS.nd.sublist ((fg (L4 tb1 tb2 tb3 tb4) [tLt tb5]).map _),λx hx=>tS.ok x ((fg (L4 tb1 tb2 tb3 tb4) [tLt tb5]).subset hx)⟩
theorem LL.to4(x:ExS (ads (L4 tb1 tb2 tb3 tb4)) H H')(T1:TbS (L4 tb1 tb2 tb3 tb4) H'):TbS (LL tb1 tb2 tb3 tb4 tb5) H'/\XS tb1 tb2 tb3 tb4 tb5 H H':=by
 have sb:∀z∈ads (L4 tb1 tb2 tb3 tb4),z∈ads (LL tb1 tb2 tb3 tb4 tb5):=λz hz=>((fg (L4 tb1 tb2 tb3 tb4) [tLt tb5]).map TT.a).subset hz;refine⟨tS.set (S:=ads (L4 tb1 tb2 tb3 tb4)) sb x λz hz hm=>?_,ExS.mono sb x⟩;rcases aM.mp (show z∈L4 tb1 tb2 tb3 tb4++[tLt tb5] from hz) with y|y
 .exact T1.ok z y
 .exfalso;have e5:=aF.mp y;rw[e5] at hm;have nd:(ads (L4 tb1 tb2 tb3 tb4)++[tb5]).Nodup:=tS.nd;exact(eE.mp nd).2.2 tb5 hm tb5 (aF.mpr rfl) rfl
end
def TbS.tree{L:List TT}(t:TbS L H)(x:ExS (ads L) H H'){tr:Tr}{v:V}(h:TAt H tr v):TAt H' tr v:=h.keep λb o h n _=>t.at x h n
def ltT(w:Int)(ms:Ag)(ly:Ae):Tr:=match minW ly (wk (chs w.toNat ms ly) 0) with
 |none=> .non
 |some x=> .tup [.int (wt ly x),.tup ((srt x).map Tr.int)]
def lbT(w:Int)(ms:Ag)(ly:Ae):Tr:=.lst ((lBars w ms ly).map λx=> .tup (x.map Tr.int))
def ansT(x:Bx):Tr:=.lst [boxT x.1 x.2.1 x.2.2,.int (((wk (chs x.1.toNat x.2.1 x.2.2) 0).length:Nat):Int),ltT x.1 x.2.1 x.2.2,lbT x.1 x.2.1 x.2.2]
def jAW:∀l:Ag,wids (l.map Tr.int)=0
 |[]=>rfl
 |a::l=>by rw[aW,wids,jAW l];rfl
def jFI(z:Int):wid (.int z)=0:=rfl
theorem jGI{B:Nat}:∀{l:Af},(∀x∈l,x.length<=B)->wids (l.map λx=>Tr.tup (x.map Tr.int))<=B
 |[],_=>ba _
 |x::l,h=>by
  rw[aW,wids,wid,af,jAW];have:=h x (ai ..);have:=jGI (l:=l) λy hy=>h y (ag _ hy);lia
theorem jJH{B:Nat}:∀{l:Ae},(∀x∈l,x.1.length<=B)->2<=B->wids (l.map pcT)<=B
 |[],_,_=>ba _
 |x::l,h,b=>by
  rw[aW,wids];have e:wid (pcT x)=max 2 (max (max x.1.length 0) (max 0 0)):=by
   unfold pcT;rw[wid,wids,wid,af,jAW,wids,jFI,wids];rfl
  have:=h x (ai ..);have:=jJH (l:=l) (λy hy=>h y (ag _ hy)) b;lia
theorem jV6{w:Int}(g:Good 16 32 w ms ly):wid (boxT w ms ly)<=100:=by
 have w1:=g.w1;have ml:=yG g.mr.ris g.mr.bnd w1;have pl:=g.pl;have pw:=jJH (B:=16) (l:=ly) (λx hx=>by have:=yG (g.pg x hx).lot.ris (g.pg x hx).lot.bnd w1;lia) Ac;unfold boxT;rw[wid,wids,jFI,wids,wid,af,jAW,wids,wid,af,wids];show max 3 _<=100;lia
theorem jX9{w:Int}(hw:w<=16)(pr:Ag->Bool):(jBR pr (qS w.toNat)).length<=65536/\∀x∈jBR pr (qS w.toNat),x.length<=100:=by
 have p16:2^w.toNat<=2^16:=cA Ac Aa;have p16':(2^16:Nat)=65536:=Ac;have:=jBG pr (qS w.toNat) (qS w.toNat).length;rw[bq] at this;have sl:=jGZ w.toNat;refine⟨Aa,λx hx=>?_⟩;rcases jCV hx with z|z
 .cases z
 .have r:=jDZ z;have:=jE0 x 0 _ r.ris r.bnd;lia
theorem lt_T{w:Int}(g:Good 16 32 w ms ly):wid (ltT w ms ly)<=100/\dep (ltT w ms ly)<=2:=by
 unfold ltT;cases h:minW ly (wk (chs w.toNat ms ly) 0) with
 |none=>exact⟨by show (0:Nat)<=100;decide,by show (0:Nat)<=2;decide⟩
 |some x=>
  have o:ChOk (chs w.toNat ms ly):=jFC g;have hx:=(jDM h).1;have:=(jM0 o 0 (d9 _) x hx).2;have cl:(chs w.toNat ms ly).length=w.toNat:=by unfold chs;rw[jA6]
  have w1:=g.w1;have sl:=(jDH x).length_eq;constructor
  .show wid (.tup [.int (wt ly x),.tup ((srt x).map Tr.int)])<=100;rw[wid,wids,jFI,wids,wid,af,jAW,wids];show max 2 _<=100;lia
  .show dep (.tup [.int (wt ly x),.tup ((srt x).map Tr.int)])<=2;simp only[dep,deps,jB6];lia
theorem lb_T{w:Int}(g:Good 16 32 w ms ly):wid (lbT w ms ly)<=65536/\dep (lbT w ms ly)<=3:=by
 obtain⟨h1,h2⟩:=jX9 g.w1 (barP ms ly);unfold lbT lBars;constructor
 .rw[wid,af];have:=jGI h2;lia
 .rw[dep];have key:∀l:Af,deps (l.map λx=>Tr.tup (x.map Tr.int))<=1:=by
   intro l
   induction l with
   |nil=>exact ba _
   |cons x l ih=>
    rw[aW,deps,dep,jB6];lia
  have:=key (jBR (barP ms ly) (qS w.toNat));lia
theorem jVD(g:Good 16 32 x.1 x.2.1 x.2.2):wid (ansT x)<=1000000/\dep (ansT x)<=7:=by
 have a:=jV6 g;have b:=lt_T g;have c:=lb_T g;have d:=jV7 x.1 x.2.1 x.2.2;unfold ansT;constructor
 .rw[wid,wids,wids,jFI,wids,wids,wids];show max 4 _<=_;lia
 .simp only[dep,deps];lia
section
variable {fQ:Addr}{fdQ:FuncData}
inductive jC5(tb:Addr)(vs:List V)(H:Hp)(Q:VK)(_:XK):Prop|i(b:Addr)(w:Int)(ms:Ag)(ly:Ae)(_:vs=[.ref b])(_:BoxAt H b w ms ly)(_:Good 16 32 w ms ly)(_:TabL H tb)(_:∀v H',TAt H' (ltT w ms ly) v->ExtT tb H H'->TabL H' tb->Q v H')
def jUI{fd:FuncData}{C:Addr}{tb:Addr}(F:FnOk P w K mg Aq CX0 5 f fd ["box"] (jIG tb)):FnOk P w K mg Aq CX0 5 f fd ["box"] (jC5 tb):=F.imp λvs H Q E ⟨b,wi,ms,ly,e,hB,g,t,q⟩=>by
 refine⟨b,wi,ms,ly,e,hB,g,t,λh H' x' t'=>q .non H' ?_ x' t',λx h r qa H' d1 d2 x' t'=>q (.ref r) H' ?_ x' t'⟩
 .unfold ltT;rw[h];rfl
 .unfold ltT;rw[h];exact⟨r,_,rfl,d1,_,_,rfl,rfl,_,_,rfl,⟨qa,_,rfl,d2,jHM _⟩,rfl⟩
inductive spOf(C:Addr)(sp:Sp)(vs:List V)(H:Hp)(Q:VK)(_:XK):Prop|i(sh dx b l:Addr)(_:vs=[.ref sh])(_:H sh=some (.ins C dx [("kept",.ref b),("earlier",.ref l)]))(_:sp [.ref b] H Q E0)
inductive jJO(C:Addr)(vs:List V)(H:Hp)(Q:VK)(_:XK):Prop|i(sh dx b l:Addr)(_:vs=[.ref sh])(_:H sh=some (.ins C dx [("kept",.ref b),("earlier",.ref l)]))(_:Q (.ref b) H)
def scBoxM:FnScope xE ["self"] (j6 sBoxM):= {}
def scManyM:FnScope xE ["self"] (j6 jBP):= {}
def scLightM:FnScope xE ["self"] (j6 jAE):= {}
def scLBarsM:FnScope xE ["self"] (j6 jAF):= {}
def boxMA: {t:TS // JSs (XOf xE "Shop.box" sBoxM P w K mg Aq f cdv A Ap s H0 E) (jB sBoxM) t}:=
 have nd:=scBoxM.nd
 ⟨_,(jC (jM (kQ (jv 0 rfl vL))))⟩
def jWZ{k:Nat}(CM:Can P w K mg Aq "many_coverings" k fQ fdQ ["box"] sp)(hr:Room k (XOf xE "Shop.many" jBP P w K mg Aq f cdv A Ap s H0 E).A): {t:TS // JSs (XOf xE "Shop.many" jBP P w K mg Aq f cdv A Ap s H0 E) (jB jBP) t}:=
 have nd:=scManyM.nd
 ⟨_,(jC (jM (CM.je hr gD (j3 (kQ (jv 0 rfl vL)) j5 yQ) yQ)))⟩
def jUJ{k:Nat}(CM:Can P w K mg Aq "lightest_lightest" k fQ fdQ ["box"] sp)(hr:Room k (XOf xE "Shop.lightest" jAE P w K mg Aq f cdv A Ap s H0 E).A): {t:TS // JSs (XOf xE "Shop.lightest" jAE P w K mg Aq f cdv A Ap s H0 E) (jB jAE) t}:=
 have nd:=scLightM.nd
 ⟨_,(jC (jM (CM.je hr gD (j3 (kQ (jv 0 rfl vL)) j5 yQ) yQ)))⟩
def jUK{k:Nat}(CM:Can P w K mg Aq "least_bars_bars" k fQ fdQ ["box"] sp)(hr:Room k (XOf xE "Shop.least_bars" jAF P w K mg Aq f cdv A Ap s H0 E).A): {t:TS // JSs (XOf xE "Shop.least_bars" jAF P w K mg Aq f cdv A Ap s H0 E) (jB jAF) t}:=
 have nd:=scLBarsM.nd
 ⟨_,(jC (jM (CM.je hr gD (j3 (kQ (jv 0 rfl vL)) j5 yQ) yQ)))⟩
def jU8(F:Fun K "box" "Shop.box" sBoxM f fd)(SK:ShopK K C):FnOk P w K mg Aq CX0 2 f fd ["self"] (jJO C):=by
 refine F.ok scBoxM (λvs H Q E h=>?_) (λcdv A Ap s H vs Q E hr h=>?_)
 .obtain⟨_,_,_,_,rfl,_⟩:=h;rfl
 .obtain⟨sh,dx,b,l,rfl,h1,q⟩:=h;exact⟨_,boxMA.2.h,sh,C,dx,_,_,rfl,h1,SK.cl,SK.nk,rfl,q⟩
def jQH{k:Nat}(F:Fun K "many" "Shop.many" jBP f fd)(SK:ShopK K C)(CM:Can P w K mg Aq "many_coverings" k fQ fdQ ["box"] sp):FnOk P w K mg Aq CX0 (k+1) f fd ["self"] (spOf C sp):=by
 refine F.ok scManyM (λvs H Q E h=>?_) (λcdv A Ap s H vs Q E hr h=>?_)
 .obtain⟨_,_,_,_,rfl,_⟩:=h;rfl
 .obtain⟨sh,dx,b,l,rfl,h1,q⟩:=h;exact⟨_,(jWZ CM hr).2.h,sh,C,dx,_,_,rfl,h1,SK.cl,SK.nk,rfl,q⟩
def jNF{k:Nat}(F:Fun K "lightest" "Shop.lightest" jAE f fd)(SK:ShopK K C)(CM:Can P w K mg Aq "lightest_lightest" k fQ fdQ ["box"] sp):FnOk P w K mg Aq CX0 (k+1) f fd ["self"] (spOf C sp):=by
 refine F.ok scLightM (λvs H Q E h=>?_) (λcdv A Ap s H vs Q E hr h=>?_)
 .obtain⟨_,_,_,_,rfl,_⟩:=h;rfl
 .obtain⟨sh,dx,b,l,rfl,h1,q⟩:=h;exact⟨_,(jUJ CM hr).2.h,sh,C,dx,_,_,rfl,h1,SK.cl,SK.nk,rfl,q⟩
def jNG{k:Nat}(F:Fun K "least_bars" "Shop.least_bars" jAF f fd)(SK:ShopK K C)(CM:Can P w K mg Aq "least_bars_bars" k fQ fdQ ["box"] sp):FnOk P w K mg Aq CX0 (k+1) f fd ["self"] (spOf C sp):=by
 refine F.ok scLBarsM (λvs H Q E h=>?_) (λcdv A Ap s H vs Q E hr h=>?_)
 .obtain⟨_,_,_,_,rfl,_⟩:=h;rfl
 .obtain⟨sh,dx,b,l,rfl,h1,q⟩:=h;exact⟨_,(jUK CM hr).2.h,sh,C,dx,_,_,rfl,h1,SK.cl,SK.nk,rfl,q⟩
end
section
variable {fS gM gL gR:Addr}{fdS gdM gdL gdR:FuncData}
structure AW (P:Program)(w:World)(K:W.Frag)(mg:Ak)(Aq:Heap)(C fS fM fL fB gB gM gL gR tb1 tb2 tb3 tb4 tb5:Addr)(fdS fdM fdL fdB gdB gdM gdL gdR:FuncData):Prop where
 CS:Can P w K mg Aq "_law_same" 9 fS fdS ["found","due"] (jDX 7)
 CM:Can P w K mg Aq "many_coverings" 6 fM fdM ["box"] (jD4 tb2)
 CL:Can P w K mg Aq "lightest_lightest" 5 fL fdL ["box"] (jC5 tb5)
 CB:Can P w K mg Aq "least_bars_bars" 10 fB fdB ["box"] (jCO tb1 tb2 tb3 tb4)
 MB:CanM P w K mg Aq C "box" 2 gB gdB ["self"] (jJO C)
 MM:CanM P w K mg Aq C "many" 7 gM gdM ["self"] (spOf C (jD4 tb2))
 ML:CanM P w K mg Aq C "lightest" 6 gL gdL ["self"] (spOf C (jC5 tb5))
 MR:CanM P w K mg Aq C "least_bars" 11 gR gdR ["self"] (spOf C (jCO tb1 tb2 tb3 tb4))
abbrev jNU:Am:=["shop","box","found"]
def scAsked:FnScope jNU ["shop","box"] (j6 jD8):= {}
def jXR(G:AW P w K mg Aq C fS fM fL fB gB gM gL gR tb1 tb2 tb3 tb4 tb5 fdS fdM fdL fdB gdB gdM gdL gdR)(hr:Room 11 (XOf jNU "_law_asked" jD8 P w K mg Aq f cdv A Ap s H0 E).A): {t:TS // JSs (XOf jNU "_law_asked" jD8 P w K mg Aq f cdv A Ap s H0 E) (jB jD8) t}:=
 have nd:=scAsked.nd
 ⟨_,(j9 (jX (i:=2) nd rfl lL (jC0 (j3 (G.MB.je0 (hr.mono Ac) (jv 0 rfl vL)) (j3 (G.MM.je0 (hr.mono Ac) (jv 0 rfl vL)) (j3 (G.ML.je0 (hr.mono Ac) (jv 0 rfl vL)) (j3 (G.MR.je0 hr (jv 0 rfl vL)) j5 jE) jE) jE) jE)) jEX)
   (jC (jM (G.CS.je (hr.mono Ac) gD (j3 (jv 2 rfl vL) (j3 (jC0 (j3 (jv 1 rfl vL) (j3 (G.CM.je (hr.mono Ac) gD (j3 (jv 1 rfl vL) j5 j4) j4) (j3 (G.CL.je (hr.mono Ac) gD (j3 (jv 1 rfl vL) j5 j4) j4) (j3 (G.CB.je (hr.mono Ac) gD (j3 (jv 1 rfl vL) j5 j4) j4) j5 jE) jE) jE) j4)) j5 jVU) j4) j4))))⟩
inductive jII(C tb1 tb2 tb3 tb4 tb5:Addr)(vs:List V)(H:Hp)(Q:VK)(_:XK):Prop|i(sh l b:Addr)(x:Bx)(hs:List Bx)(_:vs=[.ref sh,.ref b])(_:ShopAt C H sh l x hs)(_:BxB H b x)(_:Good 16 32 x.1 x.2.1 x.2.2)(_:x.1<=9)(_:TbS (LL tb1 tb2 tb3 tb4 tb5) H)(_:∀H',TbS (LL tb1 tb2 tb3 tb4 tb5) H'->XS tb1 tb2 tb3 tb4 tb5 H H'->Q (.bl true) H')
theorem jQN(F:Fun K "_law_asked" "_law_asked" jD8 f fd)(G:AW P w K mg Aq C fS fM fL fB gB gM gL gR tb1 tb2 tb3 tb4 tb5 fdS fdM fdL fdB gdB gdM gdL gdR):FnOk P w K mg Aq CX0 12 f fd ["shop","box"] (jII C tb1 tb2 tb3 tb4 tb5):=by
 refine F.ok scAsked (λvs H Q E h=>?_) (λcdv A Ap s H vs Q E hr h=>?_)
 .obtain⟨_,_,_,_,_,rfl,_⟩:=h;rfl
 .obtain⟨sh,l,b,x,hs,rfl,S,hb,g,w9,tab,q⟩:=h;refine⟨_,(jXR G hr).2.h,?_⟩;obtain⟨dx,b0,us,h1,h2,h3,h4⟩:=id S.ex;refine⟨sh,dx,_,rfl,h1,rfl,sh,dx,b0,l,rfl,h1,?_⟩;refine⟨sh,dx,_,rfl,h1,rfl,sh,dx,b0,l,rfl,h1,b0,_,_,_,rfl,h2,g,LL.ww tab,λH1 e1 t1=>?_⟩;obtain⟨T1,X1⟩:=LL.toW tab e1 t1;have s1:=tab.at X1 h1;have c1:=h2.mono (tab.tups X1);refine⟨sh,dx,_,rfl,s1,rfl,sh,dx,b0,l,rfl,s1,b0,_,_,_,rfl,c1,g,LL.ll T1,λv2 H2 tr2 e2 t2=>?_⟩;obtain⟨T2,Y2⟩:=LL.toL T1 e2 t2;have X2:=X1.trans Y2;have s2:=tab.at X2 h1;have c2:=h2.mono (tab.tups X2);refine⟨sh,dx,_,rfl,s2,rfl,sh,dx,b0,l,rfl,s2,b0,_,_,_,rfl,c2,g,w9,LL.four T2,λr3 us3 H3 d3 u3 e3 t3 n3=>?_⟩;obtain⟨T3,Y3⟩:=LL.to4 T2 e3 t3;have X3:=X2.trans Y3;have tr2:=T2.tree Y3 tr2;have tr3:TAt H3 (lbT x.1 x.2.1 x.2.2) (.ref r3):=⟨r3,_,rfl,d3,jIY u3⟩;refine⟨by show (4:Nat)<=_;decide,λr4 H4 d4 e4 n4=>?_⟩;have T4:=T3.ext e4;have X4:=X3.trans (ExS.of e4);have tr2:=tr2.ext e4;have tr3:=tr3.ext e4;have k4:=hb.mono (tab.tups X4);have c4:=h2.mono (tab.tups X4);refine⟨b,_,_,_,rfl,k4,g,LL.ww T4,λH5 e5 t5=>?_⟩;obtain⟨T5,Y5⟩:=LL.toW T4 e5 t5;have X5:=X4.trans Y5;refine⟨b,_,_,_,rfl,hb.mono (tab.tups X5),g,LL.ll T5,λv6 H6 tr6 e6 t6=>?_⟩;obtain⟨T6,Y6⟩:=LL.toL T5 e6 t6;have X6:=X5.trans Y6;refine⟨b,_,_,_,rfl,hb.mono (tab.tups X6),g,w9,LL.four T6,λr7 us7 H7 d7 u7 e7 t7 n7=>?_⟩;obtain⟨T7,Y7⟩:=LL.to4 T6 e7 t7;have X7:=X6.trans Y7;have tr6:=T6.tree Y7 tr6;have tr7:TAt H7 (lbT x.1 x.2.1 x.2.2) (.ref r7):=⟨r7,_,rfl,d7,jIY u7⟩;refine⟨by show (4:Nat)<=_;decide,λr8 H8 d8 e8 n8=>?_⟩;have Z8:=(Y5.trans (Y6.trans Y7)).trans (ExS.of e8);have T8:=T7.ext e8;have X8:=X7.trans (ExS.of e8);obtain⟨aw,ad⟩:=jVD g;refine⟨.ref r4,.ref r8,ansT x,rfl,?_,?_,ad,aw,λH9 e9=>q H9 (T8.ext e9) (X8.trans (ExS.of e9))⟩
  .exact⟨r4,_,rfl,T4.at Z8 d4,_,_,rfl,box_T (h2.mono (tab.tups X8)),_,_,rfl,rfl,_,_,rfl,T4.tree Z8 tr2,_,_,rfl,T4.tree Z8 tr3,rfl⟩
  .exact⟨r8,_,rfl,d8,_,_,rfl,box_T (hb.mono (tab.tups X8)),_,_,rfl,rfl,_,_,rfl,tr6.ext e8,_,_,rfl,tr7.ext e8,rfl⟩
end
structure SW (P:Program)(w:World)(K:W.Frag)(mg:Ak)(Aq:Heap)(C fI gT gP gN gX gY gU gB fT tb1:Addr)(fdI gdT gdP gdN gdX gdY gdU gdB fdT:FuncData):Prop where
 T:Txt mg
 KS:CanK P w K mg Aq "Shop" C 2 fI fdI ["self"] (jMO C)
 MT:CanM P w K mg Aq C "put_thing" 3 gT gdT ["self","must"] (jMK C)
 MP:CanM P w K mg Aq C "put_piece" 4 gP gdP ["self","things","weight"] (jML C)
 MN:CanM P w K mg Aq C "turn_thing" 5 gN gdN ["self","thing"] (jIC C)
 MX:CanM P w K mg Aq C "take_thing" 5 gX gdX ["self","thing"] (jID C tb1)
 MY:CanM P w K mg Aq C "take_piece" 4 gY gdY ["self","piece"] (jIE C tb1)
 MU:CanM P w K mg Aq C "undo" 2 gU gdU ["self"] (jMJ C)
 MB:CanM P w K mg Aq C "box" 2 gB gdB ["self"] (jJO C)
 CT:Can P w K mg Aq "_law_take" 1 fT fdT ["pot","wide"] yW
abbrev jNT:Am:=["box","shop","thing","held","weight"]
def scFilled:FnScope jNT ["box"] (j6 jAQ):= {}
abbrev XFil(P:Program)(w:World)(K:W.Frag)(mg:Ak)(Aq:Heap)(f:Addr)(cdv:Value)(A:Around)(Ap:List Env)(s:Shared)(H:Hp)(E:XK):Cx:=XOf jNT "_law_filled" jAQ P w K mg Aq f cdv A Ap s H E
def hsP(w:Int)(ms:Ag)(ly:Ae)(j:Nat):List Bx:=(List.range j).map λi=>(w,ms,ly.take i)
def jKP(w:Int)(ms:Ag)(ly:Ae)(j:Nat):hsP w ms ly (j+1)=hsP w ms ly j++[(w,ms,ly.take j)]:=by
 unfold hsP;rw[eh,aU];rfl
def jOM(w:Int)(ms:Ag)(ly:Ae)(j:Nat):(hsP w ms ly j).length=j:=by
 unfold hsP;rw[af,b8]
section
variable (G:SW P w K mg Aq C fI gT gP gN gX gY gU gB fT tb1 fdI gdT gdP gdN gdX gdY gdU gdB fdT)(hr:Room 5 (XFil P w K mg Aq f cdv A Ap s H0 E).A)
def filTA: {t:TS // JSs (XFil P w K mg Aq f cdv A Ap s H0 E) (yU ((jB jAQ).getD 1 (.Pass ⟨0,0,0,0⟩))) t}:=
 have nd:=scFilled.nd
 ⟨_,(jC (kP (G.MT.je (hr.mono Ac) (jv 1 rfl vL) (j3 (y9 jH6 (jv 2 rfl vL) (jI jG (jv 0 rfl vL) (je_int) jD) jH9) j5 jF3) jF3) jL))⟩
def filPA: {t:TS // JSs (XFil P w K mg Aq f cdv A Ap s H0 E) (yU ((jB jAQ).getD 2 (.Pass ⟨0,0,0,0⟩))) t}:=
 have nd:=scFilled.nd
 ⟨_,(jC (kP (G.MP.je (hr.mono Ac) (jv 1 rfl vL) (j3 (jv 3 rfl vL) (j3 (jv 4 rfl vL) j5 j4) j4) j4) jL))⟩
def jUZ: {t:TS // JSs (XFil P w K mg Aq f cdv A Ap s H0 E) (jB jAQ) t}:=
 have nd:=scFilled.nd
 ⟨_,(j9 (jX (i:=1) nd rfl lL (G.KS.je0 (hr.mono Ac) gD) jL) (j9 (qH bJ rfl (yC gD G.T.range (j3 (jI jG (jv 0 rfl vL) (je_int) jD) j5 jJ) jJ) (jT (i:=2) nd rfl lL) (filTA G hr).2 kW) (j9 (qH bJ rfl (qO (jI jG (jv 0 rfl vL) (je_int) jD)) (jCD (i:=3) (j:=4) nd rfl rfl Ab Ab) (filPA G hr).2 jHN) (jC (jM (jv 1 rfl vL))))))⟩
end
theorem jOP{w:Int}(g:Good 16 32 w ms ly)(n:Nat):Good 16 32 w ms (ly.take n):=⟨g.w0,g.w1,g.mr,by have:=g.pl;rw[bi];lia,λpc h=>g.pg pc (bP h)⟩
inductive jFO(C:Addr)(vs:List V)(H:Hp)(Q:VK)(_:XK):Prop|i(b:Addr)(wi:Int)(ms:Ag)(ly:Ae)(_:vs=[.ref b])(_:BoxAt H b wi ms ly)(_:Good 16 32 wi ms ly)(_:∀sh l h0 H',ShopAt C H' sh l (wi,ms,ly) (h0++hsP wi ms ly ly.length)->h0.length<=16->Ext H H'->H sh=none->H l=none->Q (.ref sh) H')
theorem jNI(F:Fun K "_law_filled" "_law_filled" jAQ f fd)(G:SW P w K mg Aq C fI gT gP gN gX gY gU gB fT tb1 fdI gdT gdP gdN gdX gdY gdU gdB fdT):FnOk P w K mg Aq CX0 6 f fd ["box"] (jFO C):=by
 refine F.ok scFilled (λvs H Q E h=>?_) (λcdv A Ap s H vs Q E hr h=>?_)
 .obtain⟨_,_,_,_,rfl,_⟩:=h;rfl
 .obtain⟨b,wi,ms,ly,rfl,hB,g,q⟩:=h;refine⟨_,(jUZ G hr).2.h,?_⟩;obtain⟨qm,qp,ps,b1,b2,b3,b4⟩:=id hB.ex;have psl:=b4.len;have w0:=g.w0;have w1:=g.w1;have gpl:=g.pl;intro sh dx nsh ndx nds;refine⟨sh,dx,rfl,j7,λl H1 S1 nl k1=>⟨rfl,?_⟩⟩;have ek:∀c o,H c=some o->H1 c=some o:=λc o h=>k1 _ _ (by rw[j8 (λz=>by rw[z,nsh] at h;cases h),j8 (λz=>by rw[z,ndx] at h;cases h)];exact h) λz=>by rw[z,nsh] at h;cases h
  have nl:H l=none:=by
   cases z:H l with
   |none=>rfl
   |some o=>
    have:(L2.upd (L2.upd H dx (.own sh)) sh (.ins C dx [])) l=some o:=by rw[j8 (λy=>by rw[y,nsh] at z;cases z),j8 (λy=>by rw[y,ndx] at z;cases z)];exact z
    rw[this] at nl;cases nl
  have bk:∀{H':Hp}{c:Addr}{o:HO},Fr2 sh l H1 H'->H c=some o->H' c=some o:=λf h=>f _ _ (ek _ _ h) (λz=>by rw[z,nsh] at h;cases h) λz=>by rw[z,nl] at h;cases h
  refine⟨b,_,0,_,rfl,rfl,SqT.of (ek _ _ b1),rfl,wi,rfl,Aa,Aa,jA9 (lo:=0) (n:=wi.toNat) (λi σ H'=>(∃v2 v3 v4,σ=[some (.ref b),some (.ref sh),v2,v3,v4])/\Fr2 sh l H1 H'/\∃hs,hs.length=i/\ShopAt C H' sh l ((i:Int),myU ms i,[]) hs) ⟨⟨_,_,_,rfl⟩,Fr2.refl,[],rfl,S1⟩ ?_ ?_⟩
  .rintro i σ H2 hi ⟨⟨v2,v3,v4,rfl⟩,f2,hs,hl,S2⟩;have e0:(0+(i:Int))=(i:Int):=Aa;show (filTA G hr).1 _ [some (.ref b),some (.ref sh),some (.int (0+(i:Int))),v3,v4] H2;rw[e0];obtain⟨dx2,bb,us,h1,_⟩:=id S2.ex;refine⟨sh,dx2,_,rfl,h1,rfl,b,_,1,_,rfl,rfl,SqT.of (bk f2 b1),rfl,qm,_,rfl,.inr (SqT.of (bk f2 b2)),rfl,jAA ms,?_⟩;rw[show (if true=true then !inV (V.int (i:Int)) (ms.map V.int) else inV (V.int (i:Int)) (ms.map V.int))=!inV (V.int (i:Int)) (ms.map V.int) from ax rfl,jAU];have ml:=jUE ms i;refine⟨sh,l,_,_,_,_,hs,rfl,S2,Aa,Aa,Aa,λH3 S3 f3=>⟨⟨_,_,_,rfl⟩,f2.trans f3,hs++[((i:Int),myU ms i,[])],by rw[ak,hl];rfl,?_⟩⟩;rw[jQO];by_cases h:(i:Int)∈ms
   .rw[ax h];rw[ay h] at S3;exact S3
   .rw[aq h];rw[aH h] at S3;exact S3
  .rintro σ H2 ⟨⟨v2,v3,v4,rfl⟩,f2,h0,hl,S2⟩;rw[jUF g.mr w0,eZ w0] at S2;refine⟨b,_,2,_,rfl,rfl,SqT.of (bk f2 b1),rfl,qp,rfl,⟨_,SqT.of (bk f2 b3)⟩,jJA (xs:=ps) (λj σ H'=>(∃v2 v3 v4,σ=[some (.ref b),some (.ref sh),v2,v3,v4])/\Fr2 sh l H1 H'/\ShopAt C H' sh l (wi,ms,ly.take j) (h0++hsP wi ms ly j)) ⟨⟨_,_,_,rfl⟩,f2,by rw[eQ];exact(bg h0).symm ▸ S2⟩ (λi σ H' _ ⟨_,f',_⟩=>SqT.of (bk f' b3)) ?_ ?_⟩
   .rintro j x σ H3 hx ⟨⟨v2,v3,v4,rfl⟩,f3,S3⟩;have jl:j<ly.length:=by rw[<- psl];exact(aj.mp hx).1
    obtain⟨v',hv',r,qt,rfl,dr,dt⟩:=b4.get jl;obtain rfl:=bo (hx.symm.trans hv');have gp:=g.at jl;have eg:ly.getD j ([],0)=ly[j]:=by rw[aB,az jl];rfl
    rw[eg] at gp dr dt;refine⟨r,_,rfl,SqT.of (bk f3 dr),rfl,_,_,rfl,_,_,rfl,rfl,?_⟩;obtain⟨dx2,bb,us,h1,_⟩:=id S3.ex;have h16:h0.length<=16:=Aa;refine⟨sh,dx2,_,rfl,h1,rfl,sh,l,qt,ly[j].1,ly[j].2,wi,ms,ly.take j,_,rfl,S3,bk f3 dt,gp,w1,by rw[bi];lia,by rw[ak,jOM];lia,λH4 S4 f4=>⟨⟨_,_,_,rfl⟩,f3.trans f4,?_⟩⟩;rw[jKP,<- aY,bf,az jl];exact S4
   .rintro σ H3 ⟨⟨v2,v3,v4,rfl⟩,f3,S3⟩;rw[psl,bq] at S3;exact q sh l h0 H3 S3 Aa (λc o h=>bk f3 h) nsh nl
def Fr2.exs(f:Fr2 sh l H H'):ExS [sh,l,p,tb] H H':=λc o h n=>f c o h (λz=>n (by rw[z];simp)) λz=>n (by rw[z];simp)
def ExS.pot{o:HO}:ExS [sh,l,p,tb] H (L2.upd H p o):=λc u h n=>by rw[j8 (λz=>n (by rw[z];simp))];exact h
def ExS.tk(f:∀c o,H c=some o->c≠tb->c≠sh->c≠l->H' c=some o):ExS [sh,l,p,tb] H H':=λc o h n=>f c o h (λz=>n (by rw[z];simp)) (λz=>n (by rw[z];simp)) λz=>n (by rw[z];simp)
def ShopAt.pot{xs:List V}{o:HO}(S:ShopAt C H sh l x hs)(hp:H p=some (.lst xs))(lp:l≠p):ShopAt C (L2.upd H p o) sh l x hs:=by
 obtain⟨dx,b,us,h1,_⟩:=id S.ex;exact S.keep (λo h=>by rw[j8 (λz=>by rw[z,hp] at h1;cases h1)];exact h) (λo h=>by rw[j8 lp];exact h) (Tups.upd hp _)
def TabOk.pot{T:Addr}{ps:Pos}{q:Str}{xs:List V}{o:HO}(t:TabOk H T ps q)(hp:H p=some (.lst xs)):TabOk (L2.upd H p o) T ps q:=TabOk.keepO t λc u h n _=>by rw[j8 (λz=>by rw[z,hp] at h;cases h;exact n _ rfl)];exact h
abbrev jK8:Am:=["pot","box","shop","gone","thing","left","held","weight"]
def scOther:FnScope jK8 ["pot","box"] (j6 qF):= {}
abbrev XOth(P:Program)(w:World)(K:W.Frag)(mg:Ak)(Aq:Heap)(f:Addr)(cdv:Value)(A:Around)(Ap:List Env)(s:Shared)(H:Hp)(E:XK):Cx:=XOf jK8 "_law_otherwise" qF P w K mg Aq f cdv A Ap s H E
section
variable (G:SW P w K mg Aq C fI gT gP gN gX gY gU gB fT tb1 fdI gdT gdP gdN gdX gdY gdU gdB fdT)(hr:Room 5 (XOth P w K mg Aq f cdv A Ap s H0 E).A)
def otTA: {t:TS // JSs (XOth P w K mg Aq f cdv A Ap s H0 E) (yU ((jB qF).getD 2 (.Pass ⟨0,0,0,0⟩))) t}:=
 have nd:=scOther.nd
 ⟨_,(jC (kP (G.MT.je (hr.mono Ac) (jv 2 rfl vL) (j3 (y9 qJ (G.CT.je (hr.mono Ac) gD (j3 (jv 0 rfl vL) (j3 (je_int) j5 kI) j4) j4) (je_int) (jQ _)) j5 jF3) jF3) jL))⟩
def otPA: {t:TS // JSs (XOth P w K mg Aq f cdv A Ap s H0 E) ((yU ((jB qF).getD 4 (.Pass ⟨0,0,0,0⟩))).drop 1) t}:=
 have nd:=scOther.nd
 ⟨_,(jC (kP (G.MP.je (hr.mono Ac) (jv 2 rfl vL) (j3 (kN kL gD G.T.tuple Ab (j3 (kU (m:=[none,some 5]) (Nc:=["thing","left"]) rfl (qO (jv 6 rfl vL)) rfl Ab Ab (jR (psc:=j6 qF)) (jO (N:=jK8) rfl rfl Ab) (λcl C fp s H=>jT (i:=0) (show (["thing","left"]:Am).Nodup by decide+kernel) rfl yZ) (λcl C fp s H=>yK) (λcl C fp s H=>(jI jOH (jv 1 rfl yA) (jv 0 rfl jZ) jBW)) qI) j5 jP) jP) (j3 (jv 7 rfl vL) j5 j4) jE) jE) jL))⟩
def otPPA: {t:TS // JSs (XOth P w K mg Aq f cdv A Ap s H0 E) (yU ((jB qF).getD 4 (.Pass ⟨0,0,0,0⟩))) t}:=
 have nd:=scOther.nd
 ⟨_,(j9 (kY (jY qJ (G.CT.je (hr.mono Ac) gD (j3 (jv 0 rfl vL) (j3 (je_int) j5 kI) j4) j4) (je_int) (jQ _)) (j9 (kP (G.MP.je (hr.mono Ac) (jv 2 rfl vL) (j3 (kD (j3 (jv 3 rfl vC) j5 j4)) (j3 (je_int) j5 kI) yB) yB) jL)
   (jC (kP (G.MY.je (hr.mono Ac) (jv 2 rfl vL) (j3 (kR jBQ (jF jH gD G.T.len Ab (j3 (jI jG (G.MB.je0 (hr.mono Ac) (jv 2 rfl vL)) (je_int) jD) j5 jJ) jJ) (je_int)) j5 y0) y0) jL))) jS) (otPA G hr).2)⟩
def otNA: {t:TS // JSs (XOth P w K mg Aq f cdv A Ap s H0 E) (yU ((jB qF).getD 6 (.Pass ⟨0,0,0,0⟩))) t}:=
 have nd:=scOther.nd
 ⟨_,(jC (kY (jY op_ne (y9 jCA (jv 4 rfl vL) (jI jG (G.MB.je0 (hr.mono Ac) (jv 2 rfl vL)) (je_int) jD) jH9) (y9 jCA (jv 4 rfl vL) (jI jG (jv 1 rfl vL) (je_int) jD) jH9) (jQ _)) (jC (kP (G.MN.je (hr.mono Ac) (jv 2 rfl vL) (j3 (jv 4 rfl vL) j5 j4) j4) jL)) jS))⟩
def jSA: {t:TS // JSs (XOth P w K mg Aq f cdv A Ap s H0 E) ((jB qF).drop 5) t}:=
 have nd:=scOther.nd
 ⟨_,(j9 (kP (G.MX.je (hr.mono Ac) (jv 2 rfl vL) (j3 (jv 3 rfl vC) j5 j4) j4) jL) (j9 (qH bJ rfl (yC gD G.T.range (j3 (jI jG (jv 1 rfl vL) (je_int) jD) j5 jJ) jJ) (jT (i:=4) nd rfl lL) (otNA G hr).2 kW) (jC (jM (jv 2 rfl vL)))))⟩
def jWM: {t:TS // JSs (XOth P w K mg Aq f cdv A Ap s H0 E) (jB qF) t}:=
 have nd:=scOther.nd
 ⟨_,(j9 (jX (i:=2) nd rfl lL (G.KS.je0 (hr.mono Ac) gD) jL) (j9 (jX (i:=3) nd rfl loc_c (G.CT.je (hr.mono Ac) gD (j3 (jv 0 rfl vL) (j3 (kR yF (jI jG (jv 1 rfl vL) (je_int) jD) (je_int)) j5 y0) j4) j4) jL) (j9 (qH bJ rfl (yC gD G.T.range (j3 (kR yF (jI jG (jv 1 rfl vL) (je_int) jD) (je_int)) j5 y0) y0) (jT (i:=4) nd rfl lL) (otTA G hr).2 kW) (j9 (jUO (i:=5) nd rfl loc_c (kU (m:=[none,some 3]) (Nc:=["thing","gone"]) rfl (yC gD G.T.range (j3 (kR yF (jI jG (jv 1 rfl vL) (je_int) jD) (je_int)) j5 y0) y0) rfl Ab Ab (jR (psc:=j6 qF)) (jO (N:=jK8) rfl rfl Ab) (λcl C fp s H=>jT (i:=0) (show (["thing","gone"]:Am).Nodup by decide+kernel) rfl yZ) (λcl C fp s H=>jB3 (jY op_ne (jv 0 rfl jZ) (jv 1 rfl yA) (jQ _))) (λcl C fp s H=>(jv 0 rfl jZ)) kW) (by rfl)) (j9 (qH bJ rfl (qO (jI jG (jv 1 rfl vL) (je_int) jD)) (jCD (i:=6) (j:=7) nd rfl rfl Ab Ab) (otPPA G hr).2 jHN) (jSA G hr).2)))))⟩
theorem jQ9(hp:H p=some (.lst [.int N]))(hN:0<=N)(S:ShopAt C H sh l ((i:Int),mz,[]) hs)(lp:l≠p)(i16:i<16)(ml:mz.length<=1000)(hl:hs.length<=1000)(tab:TabP H tb1)
  (nx:∀(m:Bool) (H':Hp) (N':Int),ShopAt C H' sh l (((i+1:Nat):Int),if m=true then mz else mz++[(i:Int)],[]) (hs++[((i:Int),mz,[])])->H' p=some (.lst [.int N'])->0<=N'->TabP H' tb1->ExS [sh,l,p,tb1] H H'->D.nx [some (.ref p),v1,some (.ref sh),v3,some (natV i),v5,v6,v7] H'):
  (otTA G hr).1 D [some (.ref p),v1,some (.ref sh),v3,some (natV i),v5,v6,v7] H:=by
 obtain⟨dx,b,us,h1,_⟩:=id S.ex;have sp:sh≠p:=λz=>by rw[z,hp] at h1;cases h1
 refine⟨sh,dx,_,rfl,h1,rfl,p,N,2,rfl,hp,hN,Ac,Ac,λN1 r a1 a2 a3=>?_⟩;have S1:=S.pot (o:=.lst [.int N1]) hp lp;have x1:ExS [sh,l,p,tb1] H (L2.upd H p (.lst [.int N1])):=ExS.pot;have d1:(L2.upd H p (.lst [.int N1])) p=some (.lst [.int N1]):=j7;have t1:=TabOk.pot (o:=.lst [.int N1]) tab hp;generalize L2.upd H p (.lst [.int N1])=H1 at S1 x1 d1 t1;refine⟨rfl,sh,l,_,_,mz,[],hs,rfl,S1,Aa,ml,hl,λH2 S2 f2=>?_⟩;exact nx _ H2 N1 S2 (f2 _ _ d1 (ce sp) (ce lp)) a1 (TabOk.keepO t1 (f2.other S1)) (x1.trans (Fr2.exs f2))
theorem jK0{ts:Ag}(S:ShopAt C H sh l (((n+1:Nat):Int),mz,ly) hs)(n16:n<16)(pl:ly.length<32)(hl:hs.length<=1000)(h0:0<=t)(h1:t<(n+1:Nat))(gp:GoodPc (n:Int) (ts,z))(dq:H qt=some (.tup (ts.map V.int)))(dl:H ql=some (.lst ((allB t (n+1)).map V.int)))
  (nx:∀H',ShopAt C H' sh l (((n+1:Nat):Int),mz,ly++[(upL (allB t (n+1)) ts,z)]) (hs++[(((n+1:Nat):Int),mz,ly)])->Fr2 sh l H H'->D.nx [v0,v1,some (.ref sh),v3,v4,some (.ref ql),some (.ref qt),some (.int z)] H'):
  (otPA G hr).1 D [v0,v1,some (.ref sh),v3,v4,some (.ref ql),some (.ref qt),some (.int z)] H:=by
 obtain⟨dx,b,us,hs1,_⟩:=id S.ex;have lt:Lot (n:Int) ts:=gp.lot;have tl:=yG lt.ris lt.bnd (show (n:Int)<=16 by lia);have c:=jBL h0 h1;refine⟨sh,dx,_,rfl,hs1,rfl,qt,rfl,⟨_,SqT.of dq⟩,jGC (xs:=ts.map V.int) (λσ=>∃v,σ=[v,some (.ref ql)]) (mapZ ts λk=>V.int ((allB t (n+1)).getD k.toNat 0)) (mapZ.ok _ _) dq (by rw[af,aN];lia) ⟨_,rfl⟩ ?_ ?_⟩
 .rintro j x σ' H2 zs hx ⟨v,rfl⟩ e2 hz S1 S2 yes no;obtain⟨k,hk,rfl⟩:∃k,ts[j]?=some k/\V.int k=x:=by simpa using hx
  have kb:=lt.bnd k (aJ hk);dsimp only[kT,qC];rw[ax rfl];refine⟨ql,_,k,V.int ((allB t (n+1)).getD k.toNat 0),rfl,rfl,SqL.of (e2 _ _ dl),?_,yes _ _ _ ⟨_,rfl⟩ (Ext.refl _) (hz.yes hk)⟩;have e:(k.toNat:Int)=k:=Aa;have q2:=jAJ (xs:=(allB t (n+1)).map V.int) (j:=k.toNat) (v:=V.int ((allB t (n+1)).getD k.toNat 0)) (by rw[aQ,aB,az (show k.toNat<(allB t (n+1)).length by lia)];rfl);rw[e] at q2;exact q2
 .rintro D2 H2 zs hD e2 n2 hz;have hz:=hz.all (by rw[af];exact ar _);have hz2:zs=(upL (allB t (n+1)) ts).map V.int:=by rw[hz];unfold upL;rw[bN];rfl
  rw[hz2] at hD;refine⟨D2,_,rfl,.inl ⟨SqL.of hD,λr n3=>?_⟩⟩;have e3:Ext H2 (L2.upd H2 r (.tup ((upL (allB t (n+1)) ts).map V.int))):=(Ext.refl _).new n3 _;have d3:(L2.upd H2 r (.tup ((upL (allB t (n+1)) ts).map V.int))) r=some (.tup ((upL (allB t (n+1)) ts).map V.int)):=j7;generalize L2.upd H2 r (.tup ((upL (allB t (n+1)) ts).map V.int))=H3 at e3 d3;have gu:GoodPc ((n+1:Nat):Int) (upL (allB t (n+1)) ts,z):=⟨⟨jFL h0 h1 lt.ris lt.bnd,λy hy=>(jCJ (jDV h0 h1 lt.bnd y hy)).1,λe=>lt.ne (g0.mp e)⟩,gp.lo,gp.hi⟩;refine⟨sh,l,r,_,z,_,mz,ly,hs,rfl,S.ext (e2.trans e3),d3,gu,Aa,pl,hl,λH4 S4 f4=>nx H4 S4 ((Fr2.of (e2.trans e3)).trans f4)⟩
theorem jN8{ts:Ag}(hp:H p=some (.lst [.int N]))(hN:0<=N)(lp:l≠p)(S:ShopAt C H sh l (((n+1:Nat):Int),mz,ly) hs)(g:Good 16 32 ((n+1:Nat):Int) mz ly)(n16:n<16)(pl:ly.length<31)(hl:hs.length<=900)(h0:0<=t)(h1:t<(n+1:Nat))(gp:GoodPc (n:Int) (ts,z))(dq:H qt=some (.tup (ts.map V.int)))(dl:H ql=some (.lst ((allB t (n+1)).map V.int)))(qlp:ql≠p)(qls:ql≠l)(tab:TabP H tb1)
  (nx:∀hs' N' H',ShopAt C H' sh l (((n+1:Nat):Int),mz,ly++[(upL (allB t (n+1)) ts,z)]) hs'->hs'.length<=hs.length+3->H' p=some (.lst [.int N'])->0<=N'->TabP H' tb1->ExS [sh,l,p,tb1] H H'->D.nx [some (.ref p),v1,some (.ref sh),some (.int t),v4,some (.ref ql),some (.ref qt),some (.int z)] H'):
  (otPPA G hr).1 D [some (.ref p),v1,some (.ref sh),some (.int t),v4,some (.ref ql),some (.ref qt),some (.int z)] H:=by
 obtain⟨dx,b,us,hs1,_⟩:=id S.ex;have sp:sh≠p:=λz=>by rw[z,hp] at hs1;cases hs1
 have qlsh:ql≠sh:=λz=>by rw[z,hs1] at dl;cases dl
 have qt4:qt∉ [sh,l,p,tb1]:=λm=>by
  obtain⟨_,_,_,_,_,h3,_⟩:=S.ex;simp only[aA,aS,bX] at m;rcases m with z|z|z|z
  .rw[z,hs1] at dq;cases dq
  .rw[z,h3] at dq;cases dq
  .rw[z,hp] at dq;cases dq
  .exact tab.ne dq (by intro _ z;cases z) z
 have ql4:ql∉ [sh,l,p,tb1]:=λm=>by
  simp only[aA,aS,bX] at m;rcases m with z|z|z|z
  .exact qlsh z
  .exact qls z
  .exact qlp z
  .exact tab.ne dl (by intro _ z;cases z) z
 refine⟨p,N,3,rfl,hp,hN,Ac,Ac,λN1 r a1 a2 a3=>?_⟩;have S1:=S.pot (o:=.lst [.int N1]) hp lp;have x1:ExS [sh,l,p,tb1] H (L2.upd H p (.lst [.int N1])):=ExS.pot;have d1:(L2.upd H p (.lst [.int N1])) p=some (.lst [.int N1]):=j7;have t1:=TabOk.pot (o:=.lst [.int N1]) tab hp;generalize L2.upd H p (.lst [.int N1])=H1 at S1 x1 d1 t1;refine⟨rfl,_,rfl,ite2 (λhy=>?_) (λhy=>?_)⟩
 .obtain⟨dx1,b1,us1,g1,_⟩:=id S1.ex;refine⟨sh,dx1,_,rfl,g1,rfl,by show (1:Nat)<=_;decide,λr2 H2 d2 e2=>?_⟩;have gq:GoodPc ((n+1:Nat):Int) ([t],5):=⟨⟨dh _ _,λy hy=>by rw[aF.mp hy];exact⟨h0,h1⟩,Ad⟩,by show (-1000000000000:Int)<=5;decide,by show (5:Int)<=1000000000000;decide⟩;refine⟨sh,l,r2,[t],5,_,mz,ly,hs,rfl,S1.ext e2,d2,gq,Aa,Aa,Aa,λH3 S3 f3=>?_⟩;have t3:=TabOk.keepO (t1.ext e2) (f3.other (S1.ext e2));obtain⟨dx3,b3,us3,g3,c3,_⟩:=id S3.ex;obtain⟨qm,qp,ps,c31,c32,c33,c34⟩:=id c3.ex;have c34:PcsAt H3 ps (ly++[([t],5)]):=c34;have psl:=c34.len;refine⟨sh,dx3,_,rfl,g3,rfl,sh,dx3,_,rfl,g3,rfl,sh,dx3,b3,l,rfl,g3,b3,_,2,_,rfl,rfl,SqT.of c31,rfl,qp,_,rfl,.inr (SqT.of c33),_,_,rfl,rfl,?_⟩;have gg:Good 16 32 ((n+1:Nat):Int) mz (ly++[([t],5)]):=⟨g.w0,g.w1,g.mr,by rw[ak];show ((ly.length+1:Nat):Int)<=32;lia,λpc hpc=>by
   rcases aM.mp hpc with z|z
   .exact g.pg pc z
   .rw[aF.mp z];exact gq⟩
  have ek:(ps.length:Int)-1=(ly.length:Int):=by rw[psl,ak];show ((ly.length+1:Nat):Int)-1=_;lia
  refine⟨sh,l,(ly.length:Int),_,mz,ly++[([t],5)],_,by show [V.ref sh,V.int ((ps.length:Int)-1)]=_;rw[ek],S3,gg,Aa,by rw[ak];show _<((ly.length+1:Nat):Int);lia,by rw[ak];show _+1<=_;lia,t3,λH4 S4 t4 k4=>?_⟩;rw[jQT gg] at S4;have X4:ExS [sh,l,p,tb1] H H4:=((x1.trans (ExS.of e2)).trans (Fr2.exs f3)).trans (ExS.tk k4);have ptb:p≠tb1:=t1.ne d1 (by intro _ z;cases z);have p4:H4 p=some (.lst [.int N1]):=k4 _ _ (f3 _ _ (e2 _ _ d1) (ce sp) (ce lp)) ptb (ce sp) (ce lp);refine jK0 G hr S4 n16 Aa (by rw[ak,ak];show _+1+1<=_;lia) h0 h1 gp (X4 _ _ dq qt4) (X4 _ _ dl ql4) λH5 S5 f5=>?_;exact nx _ N1 H5 S5 (by rw[ak,ak,ak];exact ar _) (f5 _ _ p4 (ce sp) (ce lp)) a1 (TabOk.keepO t4 (f5.other S4)) (X4.trans (Fr2.exs f5))
 .refine jK0 G hr S1 n16 Aa Aa h0 h1 gp (x1 _ _ dq qt4) (x1 _ _ dl ql4) λH5 S5 f5=>?_;exact nx _ N1 H5 S5 (by rw[ak];show _+1<=_;lia) (f5 _ _ d1 (ce sp) (ce lp)) a1 (TabOk.keepO t1 (f5.other S1)) (x1.trans (Fr2.exs f5))
theorem jQA(S:ShopAt C H sh l (wi,mz,ly) hs)(hB:BoxAt H b wi ms ly)(iw:(i:Int)<wi)(ml:mz.length<=60)(hl:hs.length<=1000)
  (nx:∀mz' hs' H',(mz'=mz/\((i:Int)∈mz↔(i:Int)∈ms)\/mz'=trn i mz/\¬((i:Int)∈mz↔(i:Int)∈ms))->ShopAt C H' sh l (wi,mz',ly) hs'->hs'.length<=hs.length+1->Fr2 sh l H H'->D.nx [v0,some (.ref b),some (.ref sh),v3,some (natV i),v5,v6,v7] H'):
  (otNA G hr).1 D [v0,some (.ref b),some (.ref sh),v3,some (natV i),v5,v6,v7] H:=by
 obtain⟨dx,b0,us,h1,h2,_⟩:=id S.ex;obtain⟨qm,qp,ps,b1,b2,b3,b4⟩:=id hB.ex;obtain⟨qm0,qp0,ps0,c1,c2,c3,c4⟩:=id h2.ex;have c2:H qm0=some (.tup (mz.map V.int)):=c2;refine⟨sh,dx,_,rfl,h1,rfl,sh,dx,b0,l,rfl,h1,b0,_,1,_,rfl,rfl,SqT.of c1,rfl,qm0,_,rfl,.inr (SqT.of c2),rfl,jAA mz,b,_,1,_,rfl,rfl,SqT.of b1,rfl,qm,_,rfl,.inr (SqT.of b2),rfl,jAA ms,rfl,_,rfl,?_⟩;rw[show (if false=true then !inV (V.int (i:Int)) (mz.map V.int) else inV (V.int (i:Int)) (mz.map V.int))=inV (V.int (i:Int)) (mz.map V.int) from aq am,show (if false=true then !inV (V.int (i:Int)) (ms.map V.int) else inV (V.int (i:Int)) (ms.map V.int))=inV (V.int (i:Int)) (ms.map V.int) from aq am,jAU,jAU];by_cases h:((i:Int)∈mz↔(i:Int)∈ms)
 .refine iteN ?_ (nx mz hs H (.inl ⟨rfl,h⟩) S Aa Fr2.refl);rw[dW.mpr h];show (!decide _)=false;rw[ay rfl];rfl
 .have hd:(!decide (V.bl (decide ((i:Int)∈mz))=V.bl (decide ((i:Int)∈ms))))=true:=by
   rw[aH λz=>h (dW.mp (V.bl.inj z))];rfl
  show if (!decide (V.bl (decide ((i:Int)∈mz))=V.bl (decide ((i:Int)∈ms))))=true then _ else _
  rw[hd];refine iteT ⟨sh,dx,_,rfl,h1,rfl,sh,l,(i:Int),wi,mz,ly,hs,rfl,S,Aa,iw,ml,hl,λH2 S2 f2=>?_⟩;exact nx _ _ H2 (.inr ⟨rfl,h⟩) S2 (by rw[ak];exact ar _) f2
theorem jLD(hp:H p=some (.lst [.int N]))(lp:l≠p)(hB:BoxAt H b (n:Int) ms ly)(g:Good 16 32 (n:Int) ms ly)(n15:n<16)(h0:0<=t)(h1:t<(n+1:Nat))(S:ShopAt C H sh l (((n+1:Nat):Int),mz,ly.map λpc=>(upL (allB t (n+1)) pc.1,pc.2)) hs)(rz:Ris ((n+1:Nat):Int) mz)(hl:hs.length<=900)(tab:TabP H tb1)
  (q:∀hs' H',ShopAt C H' sh l ((n:Int),ms,ly) hs'->H' p=some (.lst [.int N])->TabP H' tb1->ExS [sh,l,p,tb1] H H'->D.rt (.ref sh) H'):
  (jSA G hr).1 D [some (.ref p),some (.ref b),some (.ref sh),some (.int t),v4,v5,v6,v7] H:=by
 obtain⟨dx,b0,us,g1,g2,_⟩:=id S.ex;have sp:sh≠p:=λz=>by rw[z,hp] at g1;cases g1
 have gpl:=g.pl;have gu:Good 16 32 ((n+1:Nat):Int) mz (ly.map λpc=>(upL (allB t (n+1)) pc.1,pc.2)):=⟨Aa,Aa,rz,by rw[af];exact gpl,λpc hpc=>by
  obtain⟨x,hx,rfl⟩:=bh.mp hpc;have gp:=g.pg x hx;exact⟨⟨jFL h0 h1 gp.lot.ris gp.lot.bnd,λy hy=>(jCJ (jDV h0 h1 gp.lot.bnd y hy)).1,λe=>gp.lot.ne (g0.mp e)⟩,gp.lo,gp.hi⟩⟩
 refine⟨sh,dx,_,rfl,g1,rfl,sh,l,t,_,mz,_,hs,rfl,S,gu,h0,h1,λpc hpc hm=>?_,Aa,tab,λH1 S1 t1 k1=>?_⟩
 .obtain⟨x,hx,rfl⟩:=bh.mp hpc;have gp:=g.pg x hx;exact(jCJ (jDV h0 h1 gp.lot.bnd t hm)).2 rfl
 .rw[jX1 h0 h1 g] at S1;have X1:ExS [sh,l,p,tb1] H H1:=ExS.tk k1;have ptb:p≠tb1:=tab.ne hp (by intro _ z;cases z);have p1:=k1 _ _ hp ptb (ce sp) (ce lp);have tu1:Tups H H1:=λc xs h=>k1 _ _ h (tab.ne h (by intro _ z;cases z)) (λz=>by rw[z,g1] at h;cases h) λz=>by
   obtain⟨_,_,_,_,_,h3,_⟩:=S.ex;rw[z,h3] at h;cases h
  have hB1:=hB.mono tu1;have r1:Ris (n:Int) (nmd (allB t (n+1)) mz):=by
   have:=jIP (jEO t (n+1)) rz.ris
   rwa [jBL h0 h1] at this
  obtain⟨qm,qp,ps,b1,b2,b3,b4⟩:=id hB1.ex;refine⟨b,_,0,_,rfl,rfl,SqT.of b1,rfl,(n:Int),rfl,Aa,Aa,jA9 (lo:=0) (n:=(n:Int).toNat) (λi σ H'=>(∃v4,σ=[some (.ref p),some (.ref b),some (.ref sh),some (.int t),v4,v5,v6,v7])/\Fr2 sh l H1 H'/\∃mz hs',ShopAt C H' sh l ((n:Int),mz,ly) hs'/\hs'.length<=901+i/\Ris (n:Int) mz/\∀z:Int,0<=z->z<i->(z∈mz↔z∈ms)) ⟨⟨_,rfl⟩,Fr2.refl,_,_,S1,by rw[ak];show _+1<=_;lia,r1,λz _ h=>by lia⟩ ?_ ?_⟩
  .rintro i σ H2 hi ⟨⟨v4,rfl⟩,f2,mz2,hs2,S2,hl2,r2,q2⟩;have e0:(0+(i:Int))=(i:Int):=Aa;show (otNA G hr).1 _ [some (.ref p),some (.ref b),some (.ref sh),some (.int t),some (.int (0+(i:Int))),v5,v6,v7] H2;rw[e0];have ml:=yG r2.ris r2.bnd (show (n:Int)<=16 by lia);refine jQA G hr S2 (hB1.mono (f2.tups S1)) Aa Aa Aa λmz3 hs3 H3 hm S3 hl3 f3=>⟨⟨_,rfl⟩,f2.trans f3,mz3,hs3,S3,Aa,?_,λz z0 z1=>?_⟩
   .rcases hm with ⟨rfl,_⟩|⟨rfl,_⟩
    .exact r2
    .exact jSY r2 Aa Aa
   .rcases hm with ⟨rfl,he⟩|⟨rfl,he⟩
    .by_cases ez:z=(i:Int)
     .rw[ez];exact he
     .exact q2 z z0 Aa
    .rw[trn_mem];by_cases ez:z=(i:Int)
     .rw[ax ez,ez];by_cases a:(i:Int)∈mz2
      .by_cases c:(i:Int)∈ms
       .exact absurd ⟨λ_=>c,λ_=>a⟩ he
       .exact⟨λq=>absurd a q,λq=>absurd q c⟩
      .by_cases c:(i:Int)∈ms
       .exact⟨λ_=>c,λ_=>a⟩
       .exact absurd ⟨λq=>absurd q a,λq=>absurd q c⟩ he
     .rw[aq ez];exact q2 z z0 Aa
  .rintro σ H2 ⟨⟨v4,rfl⟩,f2,mz2,hs2,S2,hl2,r2,q2⟩;have em:mz2=ms:=jMY r2.ris g.mr.ris λz=>⟨λh=>(q2 z (r2.bnd z h).1 (by have:=(r2.bnd z h).2;rw[aX];exact this)).mp h,λh=>(q2 z (g.mr.bnd z h).1 (by have:=(g.mr.bnd z h).2;rw[aX];exact this)).mpr h⟩;subst em;exact q hs2 H2 S2 (f2 _ _ p1 (ce sp) (ce lp)) (TabOk.keepO t1 (f2.other S1)) (X1.trans (Fr2.exs f2))
end
inductive jIF(C tb1:Addr)(vs:List V)(H:Hp)(Q:VK)(_:XK):Prop|i(p b:Addr)(N:Int)(n:Nat)(ms:Ag)(ly:Ae)(_:vs=[.ref p,.ref b])(_:H p=some (.lst [.int N]))(_:0<=N)(_:BoxAt H b (n:Int) ms ly)(_:Good 16 32 (n:Int) ms ly)(_:n<15)(_:ly.length<=30)(_:TabP H tb1)(_:∀sh l hs N' H',ShopAt C H' sh l ((n:Int),ms,ly) hs->H sh=none->H l=none->H' p=some (.lst [.int N'])->0<=N'->TabP H' tb1->(∀c o,H c=some o->c≠p->c≠tb1->H' c=some o)->Q (.ref sh) H')
theorem jQF(F:Fun K "_law_otherwise" "_law_otherwise" qF f fd)(G:SW P w K mg Aq C fI gT gP gN gX gY gU gB fT tb1 fdI gdT gdP gdN gdX gdY gdU gdB fdT):FnOk P w K mg Aq CX0 6 f fd ["pot","box"] (jIF C tb1):=by
 refine F.ok scOther (λvs H Q E h=>?_) (λcdv A Ap s H vs Q E hr h=>?_)
 .obtain⟨_,_,_,_,_,_,rfl,_⟩:=h;rfl
 .obtain⟨p,b,N,n,ms,ly,rfl,hp,hN,hB,g,n15,p30,tab,q⟩:=h;refine⟨_,(jWM G hr).2.h,?_⟩;obtain⟨qm,qp,ps,b1,b2,b3,b4⟩:=id hB.ex;have psl:=b4.len;intro sh dx nsh ndx nds;refine⟨sh,dx,rfl,j7,λl H1 S1 nl k1=>⟨rfl,?_⟩⟩;have ek:Ext H H1:=λc o h=>k1 _ _ (by rw[j8 (λz=>by rw[z,nsh] at h;cases h),j8 (λz=>by rw[z,ndx] at h;cases h)];exact h) λz=>by rw[z,nsh] at h;cases h
  have nl:H l=none:=by
   cases z:H l with
   |none=>rfl
   |some o=>
    have:(L2.upd (L2.upd H dx (.own sh)) sh (.ins C dx [])) l=some o:=by rw[j8 (λy=>by rw[y,nsh] at z;cases z),j8 (λy=>by rw[y,ndx] at z;cases z)];exact z
    rw[this] at nl;cases nl
  have lp:l≠p:=λz=>by rw[z,hp] at nl;cases nl
  have tab1:=tab.ext ek;have sp:sh≠p:=λz=>by rw[z,hp] at nsh;cases nsh
  have bk:∀{H':Hp}{c:Addr}{o:HO},ExS [sh,l,p,tb1] H1 H'->H c=some o->c≠p->c≠tb1->H' c=some o:=λf h n1 n2=>f _ _ (ek _ _ h) λm=>by
   simp only[aA,aS,bX] at m;rcases m with z|z|z|z
   .rw[z,nsh] at h;cases h
   .rw[z,nl] at h;cases h
   .exact n1 z
   .exact n2 z
  have bt:∀{H':Hp}{c:Addr}{xs:List V},ExS [sh,l,p,tb1] H1 H'->H c=some (.tup xs)->H' c=some (.tup xs):=λf h=>bk f h (λz=>by rw[z,hp] at h;cases h) (tab.ne h (by intro _ z;cases z));refine⟨b,_,0,_,rfl,rfl,SqT.of (ek _ _ b1),rfl,_,_,rfl,rfl,p,N,_,rfl,ek _ _ hp,hN,by show (0:Int)<(n:Int)+1;lia,by show (n:Int)+1<2^64;lia,λN2 t a1 a2 a3=>?_⟩;have a3:t<(n:Int)+1:=a3;have S2:=S1.pot (o:=.lst [.int N2]) (ek _ _ hp) lp;have x2:ExS [sh,l,p,tb1] H1 (L2.upd H1 p (.lst [.int N2])):=ExS.pot;have d2:(L2.upd H1 p (.lst [.int N2])) p=some (.lst [.int N2]):=j7;have t2:=TabOk.pot (o:=.lst [.int N2]) tab1 (ek _ _ hp);generalize L2.upd H1 p (.lst [.int N2])=H2 at S2 x2 d2 t2;refine⟨b,_,0,_,rfl,rfl,SqT.of (bt x2 b1),rfl,_,_,rfl,rfl,(n:Int)+1,rfl,Aa,Aa,jA9 (lo:=0) (n:=((n:Int)+1).toNat) (λi σ H'=>(∃v4 v5 v6 v7,σ=[some (.ref p),some (.ref b),some (.ref sh),some (.int t),v4,v5,v6,v7])/\ExS [sh,l,p,tb1] H1 H'/\(∃N',H' p=some (.lst [.int N'])/\0<=N')/\TabP H' tb1/\∃mz hs,ShopAt C H' sh l ((i:Int),mz,[]) hs/\hs.length=i/\Ris (i:Int) mz) ⟨⟨_,_,_,_,rfl⟩,x2,⟨N2,d2,a1⟩,t2,[],[],S2,rfl,Ris.nil _⟩ ?_ ?_⟩
  .rintro i σ H3 hi ⟨⟨v4,v5,v6,v7,rfl⟩,x3,⟨N3,p3,n3⟩,t3,mz,hs,S3,hl,rz⟩;have e0:(0+(i:Int))=(i:Int):=Aa;show (otTA G hr).1 _ [some (.ref p),some (.ref b),some (.ref sh),some (.int t),some (.int (0+(i:Int))),v5,v6,v7] H3;rw[e0];have ml:=yG rz.ris rz.bnd (show (i:Int)<=16 by lia);refine jQ9 G hr p3 n3 S3 lp Aa Aa Aa t3 λm H4 N4 S4 p4 n4 t4 x4=>⟨⟨_,_,_,_,rfl⟩,x3.trans x4,⟨N4,p4,n4⟩,t4,_,_,S4,by rw[ak,hl];rfl,?_⟩;cases m with
   |true=>exact⟨rz.ris,λz hz=>by have:=rz.bnd z hz;lia⟩
   |false=>
    refine⟨cy.mpr ⟨rz.ris,dh _ _,λa ha c hc=>?_⟩,λz hz=>?_⟩
    .rw[aF.mp hc];exact(rz.bnd a ha).2
    .rcases aM.mp hz with y|y
     .have:=rz.bnd z y;lia
     .rw[aF.mp y];lia
  .rintro σ H3 ⟨⟨v4,v5,v6,v7,rfl⟩,x3,⟨N3,p3,n3⟩,t3,mz,hs,S3,hl,rz⟩;have en:(((n:Int)+1).toNat)=n+1:=Aa;rw[en] at S3 hl rz;refine⟨b,_,0,_,rfl,rfl,SqT.of (bt x3 b1),rfl,_,_,rfl,rfl,(n:Int)+1,rfl,Aa,Aa,jDR (n:=((n:Int)+1).toNat) (λσ=>∃v,σ=[v,some (.int t)]) (outZ (upto (n+1)) (λk=>!decide (k=t)) V.int) (outZ.ok _ _ _) (by rw[aN];lia) ⟨_,rfl⟩ ?_ ?_⟩
   .rintro j σ' H4 zs hj ⟨v,rfl⟩ e4 hz S1 S2 yes no;have hx:(upto (n+1))[j]?=some (j:Int):=by
     unfold upto;rw[aQ,cq Aa];rfl
    have e0:(0+(j:Int))=(j:Int):=Aa;dsimp only[kT];rw[e0];refine⟨rfl,_,rfl,?_⟩;show if (!decide (V.int (j:Int)=V.int t))=true then _ else _
    have ed:decide (V.int (j:Int)=V.int t)=decide ((j:Int)=t):=dW.mpr ⟨λz=>V.int.inj z,λz=>by rw[z]⟩;rw[ed];by_cases h:(j:Int)=t
    .rw[ay h];exact iteF (no _ _ ⟨_,rfl⟩ (Ext.refl _) (hz.no hx (by rw[ay h];rfl)))
    .rw[aH h];exact iteT (yes _ _ _ ⟨_,rfl⟩ (Ext.refl _) (hz.yes hx (by rw[aH h];rfl)))
   .rintro ql H4 zs hD e4 n4 hz;have hz:zs=(((upto (n+1)).take ((n:Int)+1).toNat).filter λk=>!decide (k=t)).map V.int:=hz;rw[en,bx (by rw[yD];exact ar _)] at hz;rw[hz] at hD;have x4:=x3.trans (ExS.of e4);have S4:=S3.ext e4;have t4:=t3.ext e4;have qlp:ql≠p:=λz=>by rw[z,p3] at n4;cases n4
    have qls:ql≠l:=λz=>by
     obtain⟨us,h3,_⟩:=S3.len;rw[z,h3] at n4;cases n4
    have gpl:=g.pl;have ql4:ql∉ [sh,l,p,tb1]:=λm=>by
     simp only[aA,aS,bX] at m;rcases m with z|z|z|z
     .obtain⟨_,_,_,g1,_⟩:=S3.ex;rw[z,g1] at n4;cases n4
     .exact qls z
     .exact qlp z
     .exact t4.ne hD (by intro _ z;cases z) z
    refine⟨b,_,2,_,rfl,rfl,SqT.of (bt x4 b1),rfl,qp,rfl,⟨_,SqT.of (bt x4 b3)⟩,jJA (xs:=ps) (λj σ H'=>(∃v6 v7,σ=[some (.ref p),some (.ref b),some (.ref sh),some (.int t),v4,some (.ref ql),v6,v7])/\ExS [sh,l,p,tb1] H4 H'/\(∃N',H' p=some (.lst [.int N'])/\0<=N')/\TabP H' tb1/\∃hs',ShopAt C H' sh l (((n+1:Nat):Int),mz,(ly.take j).map λpc=>(upL (allB t (n+1)) pc.1,pc.2)) hs'/\hs'.length<=n+1+3*j) ⟨⟨_,_,rfl⟩,ExS.refl,⟨N3,e4 _ _ p3,n3⟩,t4,hs,by rw[eQ];exact S4,Aa⟩ (λi σ H' _ ⟨_,x',_⟩=>SqT.of (bt (x4.trans x') b3)) ?_ ?_⟩
    .rintro j x σ H5 hx ⟨⟨v6,v7,rfl⟩,x5,⟨N5,p5,n5⟩,t5,hs5,S5,hl5⟩;have jl:j<ly.length:=by rw[<- psl];exact(aj.mp hx).1
     obtain⟨v',hv',r,qt,rfl,dr,dt⟩:=b4.get jl;obtain rfl:=bo (hx.symm.trans hv');have gp:=g.at jl;have eg:ly.getD j ([],0)=ly[j]:=by rw[aB,az jl];rfl
     rw[eg] at gp dr dt;have X5:=x4.trans x5;refine⟨r,_,rfl,SqT.of (bt X5 dr),rfl,_,_,rfl,_,_,rfl,rfl,?_⟩;have gj:Good 16 32 ((n+1:Nat):Int) mz ((ly.take j).map λpc=>(upL (allB t (n+1)) pc.1,pc.2)):=⟨Aa,Aa,rz,by rw[af,bi];lia,λpc hpc=>by
      obtain⟨y,hy,rfl⟩:=bh.mp hpc;have gp:=g.pg y (bP hy);exact⟨⟨jFL a2 Aa gp.lot.ris gp.lot.bnd,λz hz=>(jCJ (jDV a2 Aa gp.lot.bnd z hz)).1,λe=>gp.lot.ne (g0.mp e)⟩,gp.lo,gp.hi⟩⟩
     refine jN8 G hr p5 n5 lp S5 gj Aa (by rw[af,bi];lia) Aa a2 Aa (ts:=ly[j].1) (z:=ly[j].2) gp (bt X5 dt) (x5 _ _ hD ql4) qlp qls t5 λhs6 N6 H6 S6 hl6 p6 n6 t6 x6=>⟨⟨_,_,rfl⟩,x5.trans x6,⟨N6,p6,n6⟩,t6,hs6,?_,Aa⟩;rw[bf,az jl,aU];exact S6
    .rintro σ H5 ⟨⟨v6,v7,rfl⟩,x5,⟨N5,p5,n5⟩,t5,hs5,S5,hl5⟩;rw[psl,bq] at S5;have X5:=x4.trans x5;refine jLD G hr p5 lp ⟨qm,qp,ps,bt X5 b1,bt X5 b2,bt X5 b3,b4.mono λc xs h=>bt X5 h⟩ g Aa a2 Aa S5 rz Aa t5 λhs6 H6 S6 p6 t6 x6=>?_;exact q sh l hs6 N5 H6 S6 nsh nl p6 n5 t6 λc o h m1 m2=>bk (X5.trans x6) h m1 m2
def jXO(xs:List V){j:Nat}(h:j<=xs.length):cutV xs none (some (j:Int))=xs.take j:=by
 unfold cutV;rw[HT.sIx_none,HT.sIx_nat,i6,iu,Nat.min_eq_left h]
def jRG(xs:List V){j:Nat}(h:j<=xs.length):cutV xs (some (j:Int)) none=xs.drop j:=by
 unfold cutV;rw[HT.sIx_none,HT.sIx_nat,Nat.min_eq_left h];exact bx (by rw[dy];exact ar _)
def PcsAt.takeN:∀{vs:List V}{ps:Ae},PcsAt H vs ps->∀n,PcsAt H (vs.take n) (ps.take n)
 |[],[],_,n=>by rw[List.take_nil,List.take_nil];trivial
 |v::vs,p::ps,h,0=>trivial
 |v::vs,p::ps,h,n+1=>⟨h.1,PcsAt.takeN h.2 n⟩
abbrev XQ(sh l p tb1 tb2 tb3 tb4 tb5:Addr):Hp->Hp->Prop:=ExS (sh::l::p::ads (LL tb1 tb2 tb3 tb4 tb5))
def XQ.tab(e:XS tb1 tb2 tb3 tb4 tb5 H H'):XQ sh l p tb1 tb2 tb3 tb4 tb5 H H':=ExS.mono (λy hy=>ag _ (ag _ (ag _ hy))) e
def XQ.fr(f:Fr2 sh l H H'):XQ sh l p tb1 tb2 tb3 tb4 tb5 H H':=λc o h n=>f c o h (λz=>n (by rw[z];exact ai ..)) λz=>n (by rw[z];exact ag _ (ai ..))
def XQ.oth(k:∀c o,H c=some o->c≠p->c≠tb1->H' c=some o):XQ sh l p tb1 tb2 tb3 tb4 tb5 H H':=λc o h n=>k c o h (λz=>n (by rw[z];exact ag _ (ag _ (ai ..)))) λz=>n (by rw[z];exact ag _ (ag _ (ag _ (ai ..))))
def XQ.pot{o:HO}:XQ sh l p tb1 tb2 tb3 tb4 tb5 H (L2.upd H p o):=λc u h n=>by rw[j8 (λz=>n (by rw[z];exact ag _ (ag _ (ai ..))))];exact h
def ShopAt.tab{L:List TT}(S:ShopAt C H sh l x hs)(t:TbS L H)(e:ExS (ads L) H H'):ShopAt C H' sh l x hs:=by
 obtain⟨dx,b,us,h1,_,h3,_⟩:=id S.ex;exact S.keep (λo h=>by rw[h1] at h;cases h;exact t.at e h1) (λo h=>by rw[h3] at h;cases h;exact t.at e h3) (t.tups e)
def TbS.oth(t:TbS (LL tb1 tb2 tb3 tb4 tb5) H)(hp:H p=some (.lst xs))(k:∀c o,H c=some o->c≠p->c≠tb1->H' c=some o)(k1:TabP H' tb1):TbS (LL tb1 tb2 tb3 tb4 tb5) H':=by
 have t1:=LL.pp t;have nd:=t.nd;refine⟨nd,λy hy=>?_⟩;rcases aA.mp hy with rfl|hz
 .exact k1
 .have ny:y.a≠tb1:=λe=>(cg.mp nd).1 (by show tb1∈_;rw[<- e];exact dR (f:=TT.a) hz);rcases t.ok y hy with h|⟨c,h,h2⟩
  .exact .inl (k _ _ h (λz=>by rw[z,hp] at h;cases h) ny)
  .exact .inr ⟨c,k _ _ h (λz=>by rw[z,hp] at h;cases h) ny,k _ _ h2 (λz=>by rw[z,hp] at h2;cases h2) (t1.ne h2 (by intro _ z;cases z))⟩
def ShopAt.oth(S:ShopAt C H sh l x hs)(hp:H p=some (.lst xs))(lp:l≠p)(t1:TabP H tb1)(k:∀c o,H c=some o->c≠p->c≠tb1->H' c=some o):ShopAt C H' sh l x hs:=by
 obtain⟨dx,b,us,h1,_,h3,_⟩:=id S.ex;exact S.keep (λo h=>by rw[h1] at h;cases h;exact k _ _ h1 (λz=>by rw[z,hp] at h1;cases h1) (t1.ne h1 (by intro _ z;cases z))) (λo h=>by rw[h3] at h;cases h;exact k _ _ h3 lp (t1.ne h3 (by intro _ z;cases z))) λc xs h=>k _ _ h (λz=>by rw[z,hp] at h;cases h) (t1.ne h (by intro _ z;cases z))
section
variable {fP fX:Addr}{fdP fdX:FuncData}
noncomputable abbrev nLaw:Am:=["script","k","pot","box","shop","many_back","turn","held","weight"]
def scLaw:FnScope nLaw ["script"] (j6 sLaw):= {}
abbrev XLaw(P:Program)(w:World)(K:W.Frag)(mg:Ak)(Aq:Heap)(f:Addr)(cdv:Value)(A:Around)(Ap:List Env)(s:Shared)(H:Hp)(E:XK):Cx:=XOf nLaw "law" sLaw P w K mg Aq f cdv A Ap s H E
structure LW (P:Program)(w:World)(K:W.Frag)(mg:Ak)(Aq:Heap)(C fI gT gP gN gX gY gU gB fT fC fP fX fF fO fA tb1 tb2 tb3 tb4 tb5:Addr)(fdI gdT gdP gdN gdX gdY gdU gdB fdT fdC fdP fdX fdF fdO fdA:FuncData):Prop where
 S:SW P w K mg Aq C fI gT gP gN gX gY gU gB fT tb1 fdI gdT gdP gdN gdX gdY gdU gdB fdT
 CC:Can P w K mg Aq "_law_cell_at" 1 fC fdC ["script","k"] (jMR K)
 CP:Can P w K mg Aq "_law_pot" 1 fP fdP ["cell"] spPot
 CX:Can P w K mg Aq "_law_box" 3 fX fdX ["pot","most_things","most_pieces"] spBox
 CF:Can P w K mg Aq "_law_filled" 6 fF fdF ["box"] (jFO C)
 CO:Can P w K mg Aq "_law_otherwise" 6 fO fdO ["pot","box"] (jIF C tb1)
 CA:Can P w K mg Aq "_law_asked" 12 fA fdA ["shop","box"] (jII C tb1 tb2 tb3 tb4 tb5)
section
variable (G:LW P w K mg Aq C fI gT gP gN gX gY gU gB fT fC fP fX fF fO fA tb1 tb2 tb3 tb4 tb5 fdI gdT gdP gdN gdX gdY gdU gdB fdT fdC fdP fdX fdF fdO fdA)(hr:Room 12 (XLaw P w K mg Aq f cdv A Ap s H0 E).A)
abbrev lawL:List Stmt:=yU ((jB sLaw).getD 0 (.Pass ⟨0,0,0,0⟩))
def jX0: {t:TS // JSs (XLaw P w K mg Aq f cdv A Ap s H0 E) (yU (lawL.getD 5 (.Pass ⟨0,0,0,0⟩))) t}:=
 have nd:=scLaw.nd
 ⟨_,(jC (kP (G.S.MU.je0 (hr.mono Ac) (jv 4 rfl vL)) jL))⟩
def lputA: {t:TS // JSs (XLaw P w K mg Aq f cdv A Ap s H0 E) (yU (lawL.getD 7 (.Pass ⟨0,0,0,0⟩))) t}:=
 have nd:=scLaw.nd
 ⟨_,(jC (kP (G.S.MP.je (hr.mono Ac) (jv 4 rfl vL) (j3 (jv 7 rfl vL) (j3 (jv 8 rfl vL) j5 j4) j4) j4) jL))⟩
def lendA: {t:TS // JSs (XLaw P w K mg Aq f cdv A Ap s H0 E) (lawL.drop 6) t}:=
 have nd:=scLaw.nd
 ⟨_,(j9 (kY (qK (yJ (G.CA.je hr gD (j3 (jv 4 rfl vL) (j3 (kD (j3 (jI jG (jv 3 rfl vL) (je_int) jD) (j3 (jI jG (jv 3 rfl vL) (je_int) jD) (j3 (jDP jMS (jI jG (jv 3 rfl vL) (je_int) jD) jG5 (jG4 (kR jBQ (jF jH gD G.S.T.len Ab (j3 (jI jG (jv 3 rfl vL) (je_int) jD) j5 jJ) jJ) (jv 5 rfl vL)))) j5 jJ) jJ) jJ)) j5 yB) j4) j4) kZ)) (jC (jM (je_bl))) jS) (j9 (qH bJ rfl (qO (jDP jMS (jI jG (jv 3 rfl vL) (je_int) jD) (jG4 (kR jBQ (jF jH gD G.S.T.len Ab (j3 (jI jG (jv 3 rfl vL) (je_int) jD) j5 jJ) jJ) (jv 5 rfl vL))) jG5)) (jCD (i:=7) (j:=8) nd rfl rfl Ab Ab) (lputA G hr).2 jHN) (jC (kY (qK (yJ (G.CA.je hr gD (j3 (jv 4 rfl vL) (j3 (jv 3 rfl vL) j5 j4) j4) j4) kZ)) (jC (jM (je_bl))) jS))))⟩
def jSF: {t:TS // JSs (XLaw P w K mg Aq f cdv A Ap s H0 E) (lawL.drop 4) t}:=
 have nd:=scLaw.nd
 ⟨_,(j9 (jX (i:=5) nd rfl lL (G.S.CT.je (hr.mono Ac) gD (j3 (jv 2 rfl vL) (j3 (kR yF (jF jH gD G.S.T.len Ab (j3 (jI jG (jv 3 rfl vL) (je_int) jD) j5 jJ) jJ) (je_int)) j5 y0) j4) j4) jL) (j9 (qH bJ rfl (yC gD G.S.T.range (j3 (jv 5 rfl vL) j5 j4) j4) (jT (i:=6) nd rfl lL) (jX0 G hr).2 kW) (lendA G hr).2))⟩
def jSE: {t:TS // JSs (XLaw P w K mg Aq f cdv A Ap s H0 E) lawL t}:=
 have nd:=scLaw.nd
 ⟨_,(j9 (jX (i:=2) nd rfl lL (G.CP.je (hr.mono Ac) gD (j3 (G.CC.je (hr.mono Ac) gD (j3 (jv 0 rfl vL) (j3 (jv 1 rfl vL) j5 j4) j4) j4) j5 jE) jE) jL) (j9 (jX (i:=3) nd rfl lL (G.CX.je (hr.mono Ac) gD (j3 (jv 2 rfl vL) (j3 (je_int) (j3 (je_int) j5 kI) kI) j4) j4) jL) (j9 (jX (i:=4) nd rfl lL (G.CF.je (hr.mono Ac) gD (j3 (jv 3 rfl vL) j5 j4) j4) jL) (j9 (kY (jt_w (jw_or (qK (yJ (G.CA.je hr gD (j3 (jv 4 rfl vL) (j3 (jv 3 rfl vL) j5 j4) j4) j4) kZ)) (jKJ (qK (yJ (G.CA.je hr gD (j3 (G.CO.je (hr.mono Ac) gD (j3 (jv 2 rfl vL) (j3 (jv 3 rfl vL) j5 j4) j4) j4) (j3 (jv 3 rfl vL) j5 j4) jE) jE) kZ))))) (jC (jM (je_bl))) jS) (jSF G hr).2))))⟩
def lawA: {t:TS // JSs (XLaw P w K mg Aq f cdv A Ap s H0 E) (jB sLaw) t}:=
 have nd:=scLaw.nd
 ⟨_,(j9 (qH bJ rfl (yC gD G.S.T.range (j3 (jF (jP9 rfl) gD G.S.T.max Ab (j3 (je_int) (j3 (jF (jP8 rfl) gD G.S.T.min Ab (j3 (jF jH gD G.S.T.len Ab (j3 (jv 0 rfl vL) j5 j4) j4) (j3 (je_int) j5 kI) jE) jE) j5 jE) kI) kI) j5 jE) jE) (jT (i:=1) nd rfl lL) (jSE G hr).2 kW) (jC (jM (je_bl))))⟩
theorem jO6{m0 bk:Nat}(hB:BoxAt H b wi ms ly)(g:Good 16 32 wi ms ly)(w9:wi<=9)(S:ShopAt C H sh l (wi,ms,ly.take m0) hs)(hl:hs.length<=100)(em:m0+bk=ly.length)(tab:TbS (LL tb1 tb2 tb3 tb4 tb5) H)
  (nx:∀H' v7 v8,TbS (LL tb1 tb2 tb3 tb4 tb5) H'->(∀p,XQ sh l p tb1 tb2 tb3 tb4 tb5 H H')->D.nx [v0,v1,v2,some (.ref b),some (.ref sh),some (natV bk),v6,v7,v8] H'):
  (lendA G hr).1 D [v0,v1,v2,some (.ref b),some (.ref sh),some (natV bk),v6,v7,v8] H:=by
 obtain⟨qm,qp,ps,b1,b2,b3,b4⟩:=id hB.ex;have psl:=b4.len;have gpl:=g.pl;have ei:(ps.length:Int)-(bk:Int)=(m0:Int):=Aa;refine⟨b,_,0,_,rfl,rfl,SqT.of b1,rfl,b,_,1,_,rfl,rfl,SqT.of b1,rfl,b,_,2,_,rfl,rfl,SqT.of b1,rfl,?_⟩;refine⟨b,_,2,_,rfl,rfl,SqT.of b1,rfl,qp,_,rfl,.inr (SqT.of b3),_,_,rfl,rfl,?_⟩;refine⟨(m0:Int),by show V.int ((ps.length:Int)-(bk:Int))=_;rw[ei],qp,ps,rfl,b3,λr H1 d1 e1=>?_⟩;rw[jXO ps Aa] at d1;refine⟨by show (3:Nat)<=_;decide,λr2 H2 d2 e2=>?_⟩;have E2:=e1.trans e2;have T2:=tab.ext E2;have S2:=S.ext E2;have hb2:BxB H2 r2 (wi,ms,ly.take m0):=⟨qm,r,ps.take m0,d2,E2 _ _ b2,e2 _ _ d1,(b4.mono E2.tups).takeN m0⟩;refine⟨sh,l,r2,_,hs,rfl,S2,hb2,jOP g m0,w9,T2,λH3 T3 x3=>⟨_,rfl,iteF ?_⟩⟩;have S3:=S2.tab T2 x3;have X3:∀p,XQ sh l p tb1 tb2 tb3 tb4 tb5 H H3:=λp=>(ExS.of E2).trans (XQ.tab x3);have hB3:BoxAt H3 b wi ms ly:=(hB.mono E2.tups).mono (T2.tups x3);obtain⟨qm3,qp3,ps3,c1,c2,c3,c4⟩:=id hB3.ex;have psl3:=c4.len;have ei3:(ps3.length:Int)-(bk:Int)=(m0:Int):=Aa;refine⟨b,_,2,_,rfl,rfl,SqT.of c1,rfl,b,_,2,_,rfl,rfl,SqT.of c1,rfl,qp3,_,rfl,.inr (SqT.of c3),_,_,rfl,rfl,(m0:Int),by show V.int ((ps3.length:Int)-(bk:Int))=_;rw[ei3],qp3,ps3,rfl,c3,λr4 H4 d4 e4=>?_⟩;rw[jRG ps3 Aa] at d4;have S4:=S3.ext e4;have T4:=T3.ext e4;have hB4:=hB3.mono e4.tups;have d4t:∀{H':Hp},Fr2 sh l H4 H'->H' r4=some (.tup (ps3.drop m0)):=λf=>f.tups S4 _ _ d4;refine⟨r4,rfl,⟨_,SqT.of d4⟩,jJA (xs:=ps3.drop m0) (λj σ H'=>(∃v7 v8,σ=[v0,v1,v2,some (.ref b),some (.ref sh),some (natV bk),v6,v7,v8])/\Fr2 sh l H4 H'/\∃hs',ShopAt C H' sh l (wi,ms,ly.take (m0+j)) hs'/\hs'.length<=100+j) ⟨⟨_,_,rfl⟩,Fr2.refl,hs,S4,Aa⟩ (λi σ H' _ ⟨_,f',_⟩=>SqT.of (d4t f')) ?_ ?_⟩
 .rintro j x σ H5 hx ⟨⟨v7,v8,rfl⟩,f5,hs5,S5,hl5⟩;rw[fo] at hx;have jl:m0+j<ly.length:=by rw[<- psl3];exact(aj.mp hx).1
  obtain⟨v',hv',ra,qt,rfl,dr,dt⟩:=c4.get jl;obtain rfl:=bo (hx.symm.trans hv');have gp:=g.at jl;have eg:ly.getD (m0+j) ([],0)=ly[m0+j]:=by rw[aB,az jl];rfl
  rw[eg] at gp dr dt;have tu5:=f5.tups S4;refine⟨ra,_,rfl,SqT.of (tu5 _ _ (e4 _ _ dr)),rfl,_,_,rfl,_,_,rfl,rfl,?_⟩;obtain⟨dx,bb,us,g1,_⟩:=id S5.ex;refine⟨sh,dx,_,rfl,g1,rfl,sh,l,qt,ly[m0+j].1,ly[m0+j].2,wi,ms,ly.take (m0+j),hs5,rfl,S5,tu5 _ _ (e4 _ _ dt),gp,g.w1,by rw[bi];lia,Aa,λH6 S6 f6=>⟨⟨_,_,rfl⟩,f5.trans f6,hs5++[(wi,ms,ly.take (m0+j))],?_,by rw[ak];show _+1<=_;lia⟩⟩;rw[<- Nat.add_assoc,bf,az jl];exact S6
 .rintro σ H5 ⟨⟨v7,v8,rfl⟩,f5,hs5,S5,hl5⟩;rw[dy,show m0+(ps3.length-m0)=ly.length by lia,bq] at S5;have T5:=TbS.keepO T4 (f5.other S4);refine⟨sh,l,b,_,hs5,rfl,S5,hB4.mono (f5.tups S4),g,w9,T5,λH6 T6 x6=>⟨_,rfl,iteF ?_⟩⟩;exact nx H6 _ _ T6 λp=>(((X3 p).trans (ExS.of e4)).trans (XQ.fr f5)).trans (XQ.tab x6)
theorem jLM{h0:List Bx}(hp:H p=some (.lst [.int N]))(hN:0<=N)(lp:l≠p)(hB:BoxAt H b wi ms ly)(g:Good 16 32 wi ms ly)(w9:wi<=9)(S:ShopAt C H sh l (wi,ms,ly) (h0++hsP wi ms ly ly.length))(hl:h0.length<=16)(tab:TbS (LL tb1 tb2 tb3 tb4 tb5) H)
  (nx:∀H' v5 v6 v7 v8,TbS (LL tb1 tb2 tb3 tb4 tb5) H'->XQ sh l p tb1 tb2 tb3 tb4 tb5 H H'->D.nx [v0,v1,some (.ref p),some (.ref b),some (.ref sh),v5,v6,v7,v8] H'):
  (jSF G hr).1 D [v0,v1,some (.ref p),some (.ref b),some (.ref sh),v5,v6,v7,v8] H:=by
 obtain⟨qm,qp,ps,b1,b2,b3,b4⟩:=id hB.ex;have psl:=b4.len;have gpl:=g.pl;refine⟨b,_,2,_,rfl,rfl,SqT.of b1,rfl,qp,_,rfl,.inr (SqT.of b3),_,_,rfl,rfl,p,N,_,rfl,hp,hN,by show (0:Int)<(ps.length:Int)+1;lia,by show (ps.length:Int)+1<2^64;lia,λN1 r a1 a2 a3=>?_⟩;have a3:r<(ps.length:Int)+1:=a3;obtain⟨bk,rfl⟩:∃bk:Nat,r=(bk:Int):=⟨r.toNat,Aa⟩;have S1:=S.pot (o:=.lst [.int N1]) hp lp;have x1:XQ sh l p tb1 tb2 tb3 tb4 tb5 H (L2.upd H p (.lst [.int N1])):=XQ.pot;have T1:TbS (LL tb1 tb2 tb3 tb4 tb5) (L2.upd H p (.lst [.int N1])):=tab.lst hp;have hB1:BoxAt (L2.upd H p (.lst [.int N1])) b wi ms ly:=hB.mono (Tups.upd hp _);generalize L2.upd H p (.lst [.int N1])=H1 at S1 x1 T1 hB1;refine⟨(bk:Int),rfl,Aa,Aa,jA9 (lo:=0) (n:=(bk:Int).toNat) (λi σ H'=>(∃v6,σ=[v0,v1,some (.ref p),some (.ref b),some (.ref sh),some (natV bk),v6,v7,v8])/\Fr2 sh l H1 H'/\ShopAt C H' sh l (wi,ms,ly.take (ly.length-i)) (h0++hsP wi ms ly (ly.length-i))) ⟨⟨_,rfl⟩,Fr2.refl,by rw[i6,bq];exact S1⟩ ?_ ?_⟩
 .rintro i σ H2 hi ⟨⟨v6,rfl⟩,f2,S2⟩;obtain⟨m,hm⟩:∃m,ly.length-i=m+1:=⟨ly.length-i-1,Aa⟩;rw[hm,jKP,<- aY] at S2;obtain⟨dx,bb,us,g1,_⟩:=id S2.ex;refine⟨sh,dx,_,rfl,g1,rfl,sh,l,_,_,_,rfl,S2,λH3 S3 f3=>⟨⟨_,rfl⟩,f2.trans f3,?_⟩⟩;rw[show ly.length-(i+1)=m by lia];exact S3
 .rintro σ H2 ⟨⟨v6,rfl⟩,f2,S2⟩;rw[aX] at S2;have T2:=TbS.keepO T1 (f2.other S1);refine jO6 G hr (hB1.mono (f2.tups S1)) g w9 S2 (by rw[ak,jOM];lia) (show ly.length-bk+bk=ly.length by lia) T2 λH3 v7 v8 T3 x3=>?_;exact nx H3 _ _ _ _ T3 ((x1.trans (XQ.fr f2)).trans (x3 p))
theorem jM5{ns:Ag}{k:Int}(hS:SqL K H a (ns.map V.int))(k0:0<=k)(tab:TbS (LL tb1 tb2 tb3 tb4 tb5) H)
  (nx:∀H' v2 v3 v4 v5 v6 v7 v8,TbS (LL tb1 tb2 tb3 tb4 tb5) H'->XS tb1 tb2 tb3 tb4 tb5 H H'->D.nx [some (.ref a),some (.int k),v2,v3,v4,v5,v6,v7,v8] H'):
  (jSE G hr).1 D [some (.ref a),some (.int k),v2,v3,v4,v5,v6,v7,v8] H:=by
 refine⟨a,ns,k,rfl,hS,k0,λc=>⟨c,rfl,λp N hp hN=>?_⟩⟩;refine⟨p,N,6,12,rfl,j7,hN,Ac,Ac,Ac,Ac,λb N1 wi ms ly H1 n1 p1 hB1 g6 c5=>?_⟩;have e1:Ext H H1:=c5.ext hp;have g:Good 16 32 wi ms ly:=g6.wide Ac Ac;have w6:=g6.w1;have w0:=g6.w0;have pl12:=g6.pl;have T1:=tab.ext e1;refine⟨b,wi,ms,ly,rfl,hB1,g,λsh l h0 H2 S2 hl2 e2 nsh nl=>?_⟩;have T2:=T1.ext e2;have p2:=e2 _ _ p1;have lp:l≠p:=λz=>by rw[z,p1] at nl;cases nl
 have hB2:=hB1.mono e2.tups;refine⟨sh,l,b,_,_,rfl,S2,hB2,g,Aa,T2,λH3 T3 x3=>⟨_,rfl,?_⟩⟩;refine iteF ?_;have S3:=S2.tab T2 x3;have p3:=T2.at x3 p2;have hB3:=hB2.mono (T2.tups x3);have en:wi=((wi.toNat:Nat):Int):=Aa;refine⟨p,b,N1,wi.toNat,ms,ly,rfl,p3,n1,en ▸ hB3,en ▸ g,Aa,Aa,LL.pp T3,λsh2 l2 hs2 N4 H4 S4 ns2 nl2 p4 n4 t4 k4=>?_⟩;have T4:=T3.oth p3 k4 t4;have S3':=S3.oth p3 lp (LL.pp T3) k4;have hB4:BoxAt H4 b wi ms ly:=hB3.mono λc xs h=>k4 _ _ h (λz=>by rw[z,p3] at h;cases h) ((LL.pp T3).ne h (by intro _ z;cases z));refine⟨sh2,l2,b,_,hs2,rfl,S4,en ▸ hB4,en ▸ g,by show ((wi.toNat:Nat):Int)<=9;lia,T4,λH5 T5 x5=>⟨_,rfl,iteF ?_⟩⟩;have S5:=S3'.tab T4 x5;have p5:=T4.at x5 p4;have hB5:=hB4.mono (T4.tups x5);refine jLM G hr p5 n4 lp hB5 g Aa S5 hl2 T5 λH6 v5 v6 v7 v8 T6 x6=>nx H6 _ _ _ _ _ _ _ T6 ?_;have X6:XQ sh l p tb1 tb2 tb3 tb4 tb5 H1 H6:=((((ExS.of e2).trans (XQ.tab x3)).trans (XQ.oth k4)).trans (XQ.tab x5)).trans x6;exact λc o h n=>X6 _ _ (e1 _ _ h) λm=>by
  rcases aA.mp m with z|m
  .rw[z] at h;rw[e1 _ _ h] at nsh;cases nsh
  .rcases aA.mp m with z|m
   .rw[z] at h;rw[e1 _ _ h] at nl;cases nl
   .rcases aA.mp m with z|m
    .rw[z,hp] at h;cases h
    .exact n m
end
inductive spLaw(K:W.Frag)(tb1 tb2 tb3 tb4 tb5:Addr)(vs:List V)(H:Hp)(Q:VK)(_:XK):Prop|i(a:Addr)(ns:Ag)(_:vs=[.ref a])(_:SqL K H a (ns.map V.int))(_:ns.length<=63)(_:TabP H tb1)(_:TabW H tb2)(_:TabK H tb3)(_:TabOk H tb4 barPo qBarL)(_:TabL H tb5)(_:tb1≠tb2)(_:tb1≠tb3)(_:tb1≠tb4)(_:tb1≠tb5)(_:tb2≠tb3)(_:tb2≠tb4)(_:tb2≠tb5)(_:tb3≠tb4)(_:tb3≠tb5)(_:tb4≠tb5)(_:∀H',Q (.bl true) H')
theorem jWR(F:Fun K "law" "law" sLaw f fd)(G:LW P w K mg Aq C fI gT gP gN gX gY gU gB fT fC fP fX fF fO fA tb1 tb2 tb3 tb4 tb5 fdI gdT gdP gdN gdX gdY gdU gdB fdT fdC fdP fdX fdF fdO fdA):FnOk P w K mg Aq CX0 13 f fd ["script"] (spLaw K tb1 tb2 tb3 tb4 tb5):=by
 refine F.ok scLaw (λvs H Q E h=>?_) (λcdv A Ap s H vs Q E hr h=>?_)
 .obtain⟨_,_,rfl,_⟩:=h;rfl
 .obtain⟨a,ns,rfl,hS,hlen,t1,t2,t3,t4,t5,n12,n13,n14,n15,n23,n24,n25,n34,n35,n45,q⟩:=h;have tab:TbS (LL tb1 tb2 tb3 tb4 tb5) H:=⟨by
   unfold ads LL;simp only[aW,fJ,cg,aA,aS,bX,iP];exact⟨⟨n12,n13,n14,n15⟩,⟨n23,n24,n25⟩,⟨n34,n35⟩,n45,not_false,ig⟩,λt ht=>by
   simp only[aA,aS,bX] at ht;rcases ht with rfl|rfl|rfl|rfl|rfl
   .exact t1
   .exact t2
   .exact t3
   .exact t4
   .exact t5⟩
  refine⟨_,(lawA G hr).2.h,?_⟩;have hl:∃m:Int,(if (if (4:Int)<((ns.map V.int).length:Int) then (4:Int) else ((ns.map V.int).length:Int))>1 then (if (4:Int)<((ns.map V.int).length:Int) then (4:Int) else ((ns.map V.int).length:Int)) else 1)=m/\0<=m/\m<=4:=⟨_,rfl,by split<;>lia,by split<;>(try split)<;>lia⟩;obtain⟨m,hm,m0,m6⟩:=hl;refine⟨a,_,rfl,.inl hS,_,_,rfl,_,_,rfl,m,by rw[<- hm],Aa,Aa,jA9 (lo:=0) (n:=m.toNat) (λi σ H'=>TbS (LL tb1 tb2 tb3 tb4 tb5) H'/\XS tb1 tb2 tb3 tb4 tb5 H H'/\∃v1 v2 v3 v4 v5 v6 v7 v8,σ=[some (.ref a),v1,v2,v3,v4,v5,v6,v7,v8]) ⟨tab,ExS.refl,_,_,_,_,_,_,_,_,rfl⟩ ?_ ?_⟩
  .rintro i σ H1 hi ⟨T1,X1,v1,v2,v3,v4,v5,v6,v7,v8,rfl⟩;exact jM5 G hr (tab.sq X1 hS) Aa T1 λH2 v2 v3 v4 v5 v6 v7 v8 T2 X2=>⟨T2,X1.trans X2,_,_,_,_,_,_,_,_,rfl⟩
  .rintro σ H1 ⟨T1,X1,v1,v2,v3,v4,v5,v6,v7,v8,rfl⟩;exact q H1
end
def lenU1{P:Al->Prop}:∀{us:Al},us.length=1->(∀a,P [a])->P us
 |[a],_,h=>h a
def lenU2{P:Al->Prop}:∀{us:Al},us.length=2->(∀a b,P [a,b])->P us
 |[a,b],_,h=>h a b
def lenU3{P:Al->Prop}:∀{us:Al},us.length=3->(∀a b c,P [a,b,c])->P us
 |[a,b,c],_,h=>h a b c
abbrev zN(K:W.Frag)(x:Str):=PySem.W.nsIn K mainGlobals x
abbrev zr(f:Addr):Option (Ao):=some (some (.ref f))
abbrev zl(x:Str)(st:Stmt)(oc:Value)(od:Option Addr)(kV dc pm:Value)(an:Option Addr)(cd ct:Value)(sl:Array (Ao)):Option Obj:=some ⟨oc,od,.func (PySem.W.fnOf x x (jU st) (jB st) (j6 st) .none kV dc pm an cd ct),sl⟩
abbrev zc:=PySem.W.codeIn
abbrev zk(K:W.Frag)(f:Addr):=keepIn K (.ref f)
def zb1{x:Str}{st:Stmt}(F:Fun K x q st f fd)(h:∀(kV doc pm:Value) (an:Option Addr) (cdv ct u1:Value),bindArgs (PySem.W.fnOf x q (jU st) (jB st) (j6 st) .none kV doc pm an cdv ct) ⟨[u1],[]⟩=pure [(p1,u1)]:=by intros;rfl):Binds K fd [p1] []:=F.binds λkV doc pm an cdv ct us hl=>lenU1 (P:=λus=>bindArgs _ ⟨us,[]⟩=pure (List.zip _ us)) hl λu1=>h kV doc pm an cdv ct u1
def zb2{x p2:Str}{st:Stmt}(F:Fun K x q st f fd)(h:∀(kV doc pm:Value) (an:Option Addr) (cdv ct u1 u2:Value),bindArgs (PySem.W.fnOf x q (jU st) (jB st) (j6 st) .none kV doc pm an cdv ct) ⟨[u1,u2],[]⟩=pure [(p1,u1),(p2,u2)]:=by intros;rfl):Binds K fd [p1,p2] []:=F.binds λkV doc pm an cdv ct us hl=>lenU2 (P:=λus=>bindArgs _ ⟨us,[]⟩=pure (List.zip _ us)) hl λu1 u2=>h kV doc pm an cdv ct u1 u2
def zb3{x p2 p3:Str}{st:Stmt}(F:Fun K x q st f fd)(h:∀(kV doc pm:Value) (an:Option Addr) (cdv ct u1 u2 u3:Value),bindArgs (PySem.W.fnOf x q (jU st) (jB st) (j6 st) .none kV doc pm an cdv ct) ⟨[u1,u2,u3],[]⟩=pure [(p1,u1),(p2,u2),(p3,u3)]:=by intros;rfl):Binds K fd [p1,p2,p3] []:=F.binds λkV doc pm an cdv ct us hl=>lenU3 (P:=λus=>bindArgs _ ⟨us,[]⟩=pure (List.zip _ us)) hl λu1 u2 u3=>h kV doc pm an cdv ct u1 u2 u3
set_option autoImplicit true
set_option relaxedAutoImplicit true
set_option maxHeartbeats 8000000 in
theorem all_mk{l:PySem.W.OpenLaw}{h:Heap}{fa f1 f2 f3 f4 f5 f6 f7 f8 f9 f10 f11 f12 f13 f14 f15 f16 f17 f18 f19 f20 f21 f22 f23 f24 f25 f26 f27 f28 f29 f30 f31 f32 f33:Addr}(X:K.In h)(G:h.Ns mainGlobals mg)(hfa:mg "law" =some (.ref fa))
  {u2 u3:Tok}
  (a1:zN K "is_whole" =zr f1) (l1:K.lookup f1=zl "is_whole" jBV oc1 od1 kV1 dc1 pm1 an1 cd1 ct1 sl1) (c1:zc K cd1 "is_whole" =true) (k1:zk K f1=true)
  (a2:zN K "is_rising" =zr f2) (l2:K.lookup f2=zl "is_rising" jAD oc2 od2 kV2 dc2 pm2 an2 cd2 ct2 sl2) (c2:zc K cd2 "is_rising" =true) (k2:zk K f2=true)
  (a3:zN K "is_lot" =zr f3) (l3:K.lookup f3=zl "is_lot" jD7 oc3 od3 kV3 dc3 pm3 an3 cd3 ct3 sl3) (c3:zc K cd3 "is_lot" =true) (k3:zk K f3=true)
  (a4:zN K "mask_of" =zr f4) (l4:K.lookup f4=zl "mask_of" sMask oc4 od4 kV4 dc4 pm4 an4 cd4 ct4 sl4) (c4:zc K cd4 "mask_of" =true) (k4:zk K f4=true)
  (a5:zN K "lot_of" =zr f5) (l5:K.lookup f5=zl "lot_of" jD6 oc5 od5 kV5 dc5 pm5 an5 cd5 ct5 sl5) (c5:zc K cd5 "lot_of" =true) (k5:zk K f5=true)
  (a6:zN K "is_weight" =zr f6) (l6:K.lookup f6=zl "is_weight" sIsW oc6 od6 kV6 dc6 pm6 an6 cd6 ct6 sl6) (c6:zc K cd6 "is_weight" =true) (k6:zk K f6=true)
  (a7:zN K "picked" =zr f7) (l7:K.lookup f7=zl "picked" yE oc7 od7 kV7 dc7 pm7 an7 cd7 ct7 sl7) (c7:zc K cd7 "picked" =true) (k7:zk K f7=true)
  (a8:zN K "choices_of" =zr f8) (l8:K.lookup f8=zl "choices_of" yN oc8 od8 kV8 dc8 pm8 an8 cd8 ct8 sl8) (c8:zc K cd8 "choices_of" =true) (k8:zk K f8=true)
  (a9:zN K "full_mask" =zr f9) (l9:K.lookup f9=zl "full_mask" sFull oc9 od9 kV9 dc9 pm9 an9 cd9 ct9 sl9) (c9:zc K cd9 "full_mask" =true) (k9:zk K f9=true)
  (a10:zN K "choices_at" =zr f10) (l10:K.lookup f10=zl "choices_at" sAt oc10 od10 kV10 dc10 pm10 an10 cd10 ct10 sl10) (c10:zc K cd10 "choices_at" =true) (k10:zk K f10=true)
  (a11:zN K "masks_met" =zr f11) (l11:K.lookup f11=zl "masks_met" sMet oc11 od11 kV11 dc11 pm11 an11 cd11 ct11 sl11) (c11:zc K cd11 "masks_met" =true) (k11:zk K f11=true)
  (a12:zN K "gathered" =zr f12) (l12:K.lookup f12=zl "gathered" xD oc12 od12 kV12 dc12 pm12 an12 cd12 ct12 sl12) (c12:zc K cd12 "gathered" =true) (k12:zk K f12=true)
  (a13:zN K "ways_of" =zr f13) (l13:K.lookup f13=zl "ways_of" xB oc13 od13 kV13 dc13 pm13 an13 cd13 ct13 sl13) (c13:zc K cd13 "ways_of" =true) (k13:zk K f13=true)
  (a14:zN K "many" =zr f14) (l14:K.lookup f14=zl "many" sMany oc14 od14 kV14 dc14 pm14 an14 cd14 ct14 sl14) (c14:zc K cd14 "many" =true) (k14:zk K f14=true)
  (a15:zN K "have_common" =zr f15) (l15:K.lookup f15=zl "have_common" jAZ oc15 od15 kV15 dc15 pm15 an15 cd15 ct15 sl15) (c15:zc K cd15 "have_common" =true) (k15:zk K f15=true)
  (a16:zN K "narrowed" =zr f16) (l16:K.lookup f16=zl "narrowed" jAP oc16 od16 kV16 dc16 pm16 an16 cd16 ct16 sl16) (c16:zc K cd16 "narrowed" =true) (k16:zk K f16=true)
  (a17:zN K "is_bar" =zr f17) (l17:K.lookup f17=zl "is_bar" sBar oc17 od17 kV17 dc17 pm17 an17 cd17 ct17 sl17) (c17:zc K cd17 "is_bar" =true) (k17:zk K f17=true)
  (a18:zN K "is_within" =zr f18) (l18:K.lookup f18=zl "is_within" jAY oc18 od18 kV18 dc18 pm18 an18 cd18 ct18 sl18) (c18:zc K cd18 "is_within" =true) (k18:zk K f18=true)
  (a19:zN K "least_lots" =zr f19) (l19:K.lookup f19=zl "least_lots" yY oc19 od19 kV19 dc19 pm19 an19 cd19 ct19 sl19) (c19:zc K cd19 "least_lots" =true) (k19:zk K f19=true)
  (a20:zN K "least_bars" =zr f20) (l20:K.lookup f20=zl "least_bars" yP oc20 od20 kV20 dc20 pm20 an20 cd20 ct20 sl20) (c20:zc K cd20 "least_bars" =true) (k20:zk K f20=true)
  (a21:zN K "lightest" =zr f21) (l21:K.lookup f21=zl "lightest" yX oc21 od21 kV21 dc21 pm21 an21 cd21 ct21 sl21) (c21:zc K cd21 "lightest" =true) (k21:zk K f21=true)
  (a22:zN K "all_but" =zr f22) (l22:K.lookup f22=zl "all_but" jB0 oc22 od22 kV22 dc22 pm22 an22 cd22 ct22 sl22) (c22:zc K cd22 "all_but" =true) (k22:zk K f22=true)
  (a23:zN K "_law_cell_at" =zr f23) (l23:K.lookup f23=zl "_law_cell_at" sCell oc23 od23 kV23 dc23 pm23 an23 cd23 ct23 sl23) (c23:zc K cd23 "_law_cell_at" =true) (k23:zk K f23=true)
  (a24:zN K "_law_pot" =zr f24) (l24:K.lookup f24=zl "_law_pot" sPot oc24 od24 kV24 dc24 pm24 an24 cd24 ct24 sl24) (c24:zc K cd24 "_law_pot" =true) (k24:zk K f24=true)
  (a25:zN K "_law_take" =zr f25) (l25:K.lookup f25=zl "_law_take" sTake oc25 od25 kV25 dc25 pm25 an25 cd25 ct25 sl25) (c25:zc K cd25 "_law_take" =true) (k25:zk K f25=true)
  (a26:zN K "_law_lot" =zr f26) (l26:K.lookup f26=zl "_law_lot" sLot oc26 od26 kV26 dc26 pm26 an26 cd26 ct26 sl26) (c26:zc K cd26 "_law_lot" =true) (k26:zk K f26=true)
  (a27:zN K "_law_box" =zr f27) (l27:K.lookup f27=zl "_law_box" sBox oc27 od27 kV27 dc27 pm27 an27 cd27 ct27 sl27) (c27:zc K cd27 "_law_box" =true) (k27:zk K f27=true)
  (a28:zN K "_law_whole" =zr f28) (l28:K.lookup f28=zl "_law_whole" jDY oc28 od28 kV28 dc28 pm28 an28 cd28 ct28 sl28) (c28:zc K cd28 "_law_whole" =true) (k28:zk K f28=true)
  (a29:zN K "_law_same" =zr f29) (l29:K.lookup f29=zl "_law_same" sSame oc29 od29 kV29 dc29 pm29 an29 cd29 ct29 sl29) (c29:zc K cd29 "_law_same" =true) (k29:zk K f29=true)
  (a30:zN K "_law_filled" =zr f30) (l30:K.lookup f30=zl "_law_filled" jAQ oc30 od30 kV30 dc30 pm30 an30 cd30 ct30 sl30) (c30:zc K cd30 "_law_filled" =true) (k30:zk K f30=true)
  (a31:zN K "_law_otherwise" =zr f31) (l31:K.lookup f31=zl "_law_otherwise" qF oc31 od31 kV31 dc31 pm31 an31 cd31 ct31 sl31) (c31:zc K cd31 "_law_otherwise" =true) (k31:zk K f31=true)
  (a32:zN K "_law_asked" =zr f32) (l32:K.lookup f32=zl "_law_asked" jD8 oc32 od32 kV32 dc32 pm32 an32 cd32 ct32 sl32) (c32:zc K cd32 "_law_asked" =true) (k32:zk K f32=true)
  (a33:zN K "law" =zr f33) (l33:K.lookup f33=zl "law" sLaw oc33 od33 kV33 dc33 pm33 an33 cd33 ct33 sl33) (c33:zc K cd33 "law" =true) (k33:zk K f33=true)
  (g1:zN K "MOST_THINGS" =some (some (.int 16 u1))) (g2:zN K "MOST_PIECES" =some (some (.int 32 u2))) (g3:zN K "MOST_THINGS_WITH_BARS" =some (some (.int 9 u3))) (z1:zN K "len" =some none) (z2:zN K "range" =some none) (z3:zN K "tuple" =some none) (z4:zN K "sorted" =some none) (z5:zN K "set" =some none) (z6:zN K "list" =some none) (z7:zN K "int" =some none) (z8:zN K "isinstance" =some none) (z9:zN K "bool" =some none) (z10:zN K "str" =some none) (z11:zN K "all" =some none) (z12:zN K "zip" =some none) (z13:zN K "max" =some none) (z14:zN K "min" =some none) (z15:zN K "any" =some none) (z16:zN K "abs" =some none) (z17:zN K "sum" =some none) (z18:zN K "enumerate" =some none) (z19:zN K "dict" =some none) {cc1:Addr}(cde1:cd7=.ref cc1) (hcd1:codeHdIn K cc1 tb1=true) {cc2:Addr}(cde2:cd13=.ref cc2) (hcd2:codeHdIn K cc2 tb2=true) {cc3:Addr}(cde3:cd19=.ref cc3) (hcd3:codeHdIn K cc3 tb3=true) {cc4:Addr}(cde4:cd20=.ref cc4) (hcd4:codeHdIn K cc4 tb4=true) {cc5:Addr}(cde5:cd21=.ref cc5) (hcd5:codeHdIn K cc5 tb5=true) {bmA:Addr}(xb1:zN K "__builtins__" =zr bmA) (xb2:K.lookup bmA=some ⟨.type "module",some builtinsNs,.plain,#[]⟩) (xb3:bmA≠builtinsNs) (xb4:bmA≠mainGlobals) {clS:Addr}(xC:zN K "Shop" =some (some (.ref clS))) {f34:Addr}{od34 an34:Option Addr}{sl34:Array (Ao)}{oc34 kV34 dc34 pm34 cd34 ct34:Value}(l34:K.lookup f34=some ⟨oc34,od34,.func (PySem.W.fnOf "__init__" "Shop.__init__" (jU sInit) (jB sInit) (j6 sInit) .none kV34 dc34 pm34 an34 cd34 ct34),sl34⟩) (c34:zc K cd34 "Shop.__init__" =true) (k34:zk K f34=true) (a34:findIn K (.ref clS) "__init__" =some (some (.ref f34))) (n34:isFn K (.ref f34)=true) {f35:Addr}{od35 an35:Option Addr}{sl35:Array (Ao)}{oc35 kV35 dc35 pm35 cd35 ct35:Value}(l35:K.lookup f35=some ⟨oc35,od35,.func (PySem.W.fnOf "become" "Shop.become" (jU jAG) (jB jAG) (j6 jAG) .none kV35 dc35 pm35 an35 cd35 ct35),sl35⟩) (c35:zc K cd35 "Shop.become" =true) (k35:zk K f35=true) (a35:findIn K (.ref clS) "become" =some (some (.ref f35))) (n35:isFn K (.ref f35)=true) {f36:Addr}{od36 an36:Option Addr}{sl36:Array (Ao)}{oc36 kV36 dc36 pm36 cd36 ct36:Value}(l36:K.lookup f36=some ⟨oc36,od36,.func (PySem.W.fnOf "put_thing" "Shop.put_thing" (jU sPutT) (jB sPutT) (j6 sPutT) .none kV36 dc36 pm36 an36 cd36 ct36),sl36⟩) (c36:zc K cd36 "Shop.put_thing" =true) (k36:zk K f36=true) (a36:findIn K (.ref clS) "put_thing" =some (some (.ref f36))) (n36:isFn K (.ref f36)=true) {f37:Addr}{od37 an37:Option Addr}{sl37:Array (Ao)}{oc37 kV37 dc37 pm37 cd37 ct37:Value}(l37:K.lookup f37=some ⟨oc37,od37,.func (PySem.W.fnOf "put_piece" "Shop.put_piece" (jU sPutP) (jB sPutP) (j6 sPutP) .none kV37 dc37 pm37 an37 cd37 ct37),sl37⟩) (c37:zc K cd37 "Shop.put_piece" =true) (k37:zk K f37=true) (a37:findIn K (.ref clS) "put_piece" =some (some (.ref f37))) (n37:isFn K (.ref f37)=true) {f38:Addr}{od38 an38:Option Addr}{sl38:Array (Ao)}{oc38 kV38 dc38 pm38 cd38 ct38:Value}(l38:K.lookup f38=some ⟨oc38,od38,.func (PySem.W.fnOf "turn_thing" "Shop.turn_thing" (jU qE) (jB qE) (j6 qE) .none kV38 dc38 pm38 an38 cd38 ct38),sl38⟩) (c38:zc K cd38 "Shop.turn_thing" =true) (k38:zk K f38=true) (a38:findIn K (.ref clS) "turn_thing" =some (some (.ref f38))) (n38:isFn K (.ref f38)=true) {f39:Addr}{od39 an39:Option Addr}{sl39:Array (Ao)}{oc39 kV39 dc39 pm39 cd39 ct39:Value}(l39:K.lookup f39=some ⟨oc39,od39,.func (PySem.W.fnOf "take_thing" "Shop.take_thing" (jU qR) (jB qR) (j6 qR) .none kV39 dc39 pm39 an39 cd39 ct39),sl39⟩) (c39:zc K cd39 "Shop.take_thing" =true) (k39:zk K f39=true) (a39:findIn K (.ref clS) "take_thing" =some (some (.ref f39))) (n39:isFn K (.ref f39)=true) {f40:Addr}{od40 an40:Option Addr}{sl40:Array (Ao)}{oc40 kV40 dc40 pm40 cd40 ct40:Value}(l40:K.lookup f40=some ⟨oc40,od40,.func (PySem.W.fnOf "take_piece" "Shop.take_piece" (jU jBO) (jB jBO) (j6 jBO) .none kV40 dc40 pm40 an40 cd40 ct40),sl40⟩) (c40:zc K cd40 "Shop.take_piece" =true) (k40:zk K f40=true) (a40:findIn K (.ref clS) "take_piece" =some (some (.ref f40))) (n40:isFn K (.ref f40)=true) {f41:Addr}{od41 an41:Option Addr}{sl41:Array (Ao)}{oc41 kV41 dc41 pm41 cd41 ct41:Value}(l41:K.lookup f41=some ⟨oc41,od41,.func (PySem.W.fnOf "refuse_no_thing" "Shop.refuse_no_thing" (jU sRefT) (jB sRefT) (j6 sRefT) .none kV41 dc41 pm41 an41 cd41 ct41),sl41⟩) (c41:zc K cd41 "Shop.refuse_no_thing" =true) (k41:zk K f41=true) (a41:findIn K (.ref clS) "refuse_no_thing" =some (some (.ref f41))) (n41:isFn K (.ref f41)=true) {f42:Addr}{od42 an42:Option Addr}{sl42:Array (Ao)}{oc42 kV42 dc42 pm42 cd42 ct42:Value}(l42:K.lookup f42=some ⟨oc42,od42,.func (PySem.W.fnOf "undo" "Shop.undo" (jU sUndo) (jB sUndo) (j6 sUndo) .none kV42 dc42 pm42 an42 cd42 ct42),sl42⟩) (c42:zc K cd42 "Shop.undo" =true) (k42:zk K f42=true) (a42:findIn K (.ref clS) "undo" =some (some (.ref f42))) (n42:isFn K (.ref f42)=true) {f43:Addr}{od43 an43:Option Addr}{sl43:Array (Ao)}{oc43 kV43 dc43 pm43 cd43 ct43:Value}(l43:K.lookup f43=some ⟨oc43,od43,.func (PySem.W.fnOf "box" "Shop.box" (jU sBoxM) (jB sBoxM) (j6 sBoxM) .none kV43 dc43 pm43 an43 cd43 ct43),sl43⟩) (c43:zc K cd43 "Shop.box" =true) (k43:zk K f43=true) (a43:findIn K (.ref clS) "box" =some (some (.ref f43))) (n43:isFn K (.ref f43)=true) {f44:Addr}{od44 an44:Option Addr}{sl44:Array (Ao)}{oc44 kV44 dc44 pm44 cd44 ct44:Value}(l44:K.lookup f44=some ⟨oc44,od44,.func (PySem.W.fnOf "many" "Shop.many" (jU jBP) (jB jBP) (j6 jBP) .none kV44 dc44 pm44 an44 cd44 ct44),sl44⟩) (c44:zc K cd44 "Shop.many" =true) (k44:zk K f44=true) (a44:findIn K (.ref clS) "many" =some (some (.ref f44))) (n44:isFn K (.ref f44)=true) {f45:Addr}{od45 an45:Option Addr}{sl45:Array (Ao)}{oc45 kV45 dc45 pm45 cd45 ct45:Value}(l45:K.lookup f45=some ⟨oc45,od45,.func (PySem.W.fnOf "lightest" "Shop.lightest" (jU jAE) (jB jAE) (j6 jAE) .none kV45 dc45 pm45 an45 cd45 ct45),sl45⟩) (c45:zc K cd45 "Shop.lightest" =true) (k45:zk K f45=true) (a45:findIn K (.ref clS) "lightest" =some (some (.ref f45))) (n45:isFn K (.ref f45)=true) {f46:Addr}{od46 an46:Option Addr}{sl46:Array (Ao)}{oc46 kV46 dc46 pm46 cd46 ct46:Value}(l46:K.lookup f46=some ⟨oc46,od46,.func (PySem.W.fnOf "least_bars" "Shop.least_bars" (jU jAF) (jB jAF) (j6 jAF) .none kV46 dc46 pm46 an46 cd46 ct46),sl46⟩) (c46:zc K cd46 "Shop.least_bars" =true) (k46:zk K f46=true) (a46:findIn K (.ref clS) "least_bars" =some (some (.ref f46))) (n46:isFn K (.ref f46)=true) (SK:ShopK K clS) (MK:Mk K clS f34) (al1:zN K "many_coverings" =zr f14) (al2:zN K "least_bars_bars" =zr f20) (al3:zN K "lightest_lightest" =zr f21):
  ∃fd:FuncData,(∀(s:Shared) (v:Value),BindsTo s fd ⟨[v],[]⟩ [("script",v)])/\∀Aq:Heap,K.In Aq->Aq.Ns mainGlobals mg->FnOk l.prog w K mg Aq CX0 13 fa fd ["script"] (spLaw K tb1 tb2 tb3 tb4 tb5):=by
 have e:=hfa.symm.trans (gz X G a33);cases e;have T:Txt mg:=⟨bj X G z1,bj X G z2,bj X G z3,bj X G z4,bj X G z5,bj X G z6,bj X G z7,bj X G z8,bj X G z9,bj X G z10,bj X G z11,bj X G z12,bj X G z13,bj X G z14,bj X G z15,bj X G z16,bj X G z17,bj X G z18,bj X G z19⟩;have F1:=jN (st:=jBV) l1 c1 k1;have F2:=jN (st:=jAD) l2 c2 k2;have F3:=jN (st:=jD7) l3 c3 k3;have F4:=jN (st:=sMask) l4 c4 k4;have F5:=jN (st:=jD6) l5 c5 k5;have F6:=jN (st:=sIsW) l6 c6 k6;have F7:=jN (st:=yE) l7 c7 k7;have b7:Binds K _ ["box","things","pieces"] []:=zb3 F7;have F8:=jN (st:=yN) l8 c8 k8;have F9:=jN (st:=sFull) l9 c9 k9;have F10:=jN (st:=sAt) l10 c10 k10;have F11:=jN (st:=sMet) l11 c11 k11;have F12:=jN (st:=xD) l12 c12 k12;have F13:=jN (st:=xB) l13 c13 k13;have b13:Binds K _ ["choices"] []:=zb1 F13;have F14:=jN (st:=sMany) l14 c14 k14;have F15:=jN (st:=jAZ) l15 c15 k15;have F16:=jN (st:=jAP) l16 c16 k16;have F17:=jN (st:=sBar) l17 c17 k17;have F18:=jN (st:=jAY) l18 c18 k18;have F19:=jN (st:=yY) l19 c19 k19;have b19:Binds K _ ["things","holds"] []:=zb2 F19;have F20:=jN (st:=yP) l20 c20 k20;have b20:Binds K _ ["box"] []:=zb1 F20;have F21:=jN (st:=yX) l21 c21 k21;have b21:Binds K _ ["box"] []:=zb1 F21;have F22:=jN (st:=jB0) l22 c22 k22;have F23:=jN (st:=sCell) l23 c23 k23;have F24:=jN (st:=sPot) l24 c24 k24;have F25:=jN (st:=sTake) l25 c25 k25;have F26:=jN (st:=sLot) l26 c26 k26;have F27:=jN (st:=sBox) l27 c27 k27;have F28:=jN (st:=jDY) l28 c28 k28;have F29:=jN (st:=sSame) l29 c29 k29;have F30:=jN (st:=jAQ) l30 c30 k30;have F31:=jN (st:=qF) l31 c31 k31;have F32:=jN (st:=jD8) l32 c32 k32;have F33:=jN (st:=sLaw) l33 c33 k33;have F34:=jN (st:=sInit) l34 c34 k34;have MH34:Meth K clS "__init__" f34:=⟨a34,n34,k34⟩;have F35:=jN (st:=jAG) l35 c35 k35;have MH35:Meth K clS "become" f35:=⟨a35,n35,k35⟩;have F36:=jN (st:=sPutT) l36 c36 k36;have MH36:Meth K clS "put_thing" f36:=⟨a36,n36,k36⟩;have F37:=jN (st:=sPutP) l37 c37 k37;have MH37:Meth K clS "put_piece" f37:=⟨a37,n37,k37⟩;have F38:=jN (st:=qE) l38 c38 k38;have MH38:Meth K clS "turn_thing" f38:=⟨a38,n38,k38⟩;have F39:=jN (st:=qR) l39 c39 k39;have MH39:Meth K clS "take_thing" f39:=⟨a39,n39,k39⟩;have F40:=jN (st:=jBO) l40 c40 k40;have MH40:Meth K clS "take_piece" f40:=⟨a40,n40,k40⟩;have F41:=jN (st:=sRefT) l41 c41 k41;have MH41:Meth K clS "refuse_no_thing" f41:=⟨a41,n41,k41⟩;have F42:=jN (st:=sUndo) l42 c42 k42;have MH42:Meth K clS "undo" f42:=⟨a42,n42,k42⟩;have F43:=jN (st:=sBoxM) l43 c43 k43;have MH43:Meth K clS "box" f43:=⟨a43,n43,k43⟩;have F44:=jN (st:=jBP) l44 c44 k44;have MH44:Meth K clS "many" f44:=⟨a44,n44,k44⟩;have F45:=jN (st:=jAE) l45 c45 k45;have MH45:Meth K clS "lightest" f45:=⟨a45,n45,k45⟩;have F46:=jN (st:=jAF) l46 c46 k46;have MH46:Meth K clS "least_bars" f46:=⟨a46,n46,k46⟩;refine⟨PySem.W.fnOf "law" "law" (jU sLaw) (jB sLaw) (j6 sLaw) .none kV33 dc33 pm33 an33 cd33 ct33,λs v=> .of_eq rfl,λAq KB _=>?_⟩;have M:=λ{x:Str}{f:Addr}(a:PySem.W.nsIn K mainGlobals x=some (some (.ref f)))=>gz X G a;have M':=λ{x:Str}{v:Value}(a:PySem.W.nsIn K mainGlobals x=some (some v))=>gz X G a;have CD1:PySem.W.CodeHd Aq cc1 tb1:=dj KB hcd1;have FC1:FunC K "picked" "picked" yE f7 _ cc1:=⟨_,_,_,_,_,_,_,_,rfl,cde1 ▸ l7,cde1 ▸ c7⟩;have CD2:PySem.W.CodeHd Aq cc2 tb2:=dj KB hcd2;have FC2:FunC K "ways_of" "ways_of" xB f13 _ cc2:=⟨_,_,_,_,_,_,_,_,rfl,cde2 ▸ l13,cde2 ▸ c13⟩;have CD3:PySem.W.CodeHd Aq cc3 tb3:=dj KB hcd3;have FC3:FunC K "least_lots" "least_lots" yY f19 _ cc3:=⟨_,_,_,_,_,_,_,_,rfl,cde3 ▸ l19,cde3 ▸ c19⟩;have CD4:PySem.W.CodeHd Aq cc4 tb4:=dj KB hcd4;have FC4:FunC K "least_bars" "least_bars" yP f20 _ cc4:=⟨_,_,_,_,_,_,_,_,rfl,cde4 ▸ l20,cde4 ▸ c20⟩;have CD5:PySem.W.CodeHd Aq cc5 tb5:=dj KB hcd5;have FC5:FunC K "lightest" "lightest" yX f21 _ cc5:=⟨_,_,_,_,_,_,_,_,rfl,cde5 ▸ l21,cde5 ▸ c21⟩;have BM:qZ Aq mg:=⟨bmA,_,gz X G xb1,xb3,xb4,KB _ _ xb2,rfl,rfl,rfl⟩;have C1:Can l.prog w K mg Aq "is_whole" 1 f1 _ ["thing"] spWh:=⟨jNB F1 T,M a1,k1,(zb1 F1)⟩;have C2:Can l.prog w K mg Aq "is_rising" 2 f2 _ ["thing"] (spB risB):=⟨jNC F2 T C1,M a2,k2,(zb1 F2)⟩;have C3:Can l.prog w K mg Aq "is_lot" 3 f3 _ ["thing","many"] (spB2 lotB):=⟨jQM F3 T C2,M a3,k3,(zb2 F3)⟩;have C4:Can l.prog w K mg Aq "mask_of" 1 f4 _ ["lot"] jGR:=⟨jU2 F4 T,M a4,k4,(zb1 F4)⟩;have C5:Can l.prog w K mg Aq "lot_of" 1 f5 _ ["mask"] jFN:=⟨jQI F5 T,M a5,k5,(zb1 F5)⟩;have C6:Can l.prog w K mg Aq "is_weight" 2 f6 _ ["thing"] (spB wtB):=⟨jWU F6 T C1,M a6,k6,(zb1 F6)⟩;have C7:Can l.prog w K mg Aq "picked" 2 f7 _ ["box","things","pieces"] (jAB tb1):=⟨jND FC1 T CD1 BM,M a7,k7,b7⟩;have C8:Can l.prog w K mg Aq "choices_of" 2 f8 _ ["box"] jAK:=⟨jLE F8 T C4,M a8,k8,(zb1 F8)⟩;have C9:Can l.prog w K mg Aq "full_mask" 1 f9 _ ["choices"] jF1:=⟨jU6 F9 T,M a9,k9,(zb1 F9)⟩;have C10:Can l.prog w K mg Aq "choices_at" 1 f10 _ ["choices","mask"] spAt:=⟨ok_at F10 T,M a10,k10,(zb2 F10)⟩;have C11:Can l.prog w K mg Aq "masks_met" 2 f11 _ ["choices"] spMet:=⟨jWP F11 T C9 C10,M a11,k11,(zb1 F11)⟩;have C12:Can l.prog w K mg Aq "gathered" 4 f12 _ ["choices","at_end","join"] jIH:=⟨FnOk.ex λx o=>(jNH F12 T C9 C11 C10 ((jWS o T).mono Ac) ZT.st (zhW.ok _ _) (RWay.ok _) o).ok,M a12,k12,(zb3 F12)⟩;have C13:Can l.prog w K mg Aq "ways_of" 5 f13 _ ["choices"] (jJM tb2):=⟨jTW FC2 T CD2 BM C12,M a13,k13,b13⟩;have C14:Can l.prog w K mg Aq "many" 6 f14 _ ["box"] (jD4 tb2):=⟨jU3 F14 T C8 C13,M a14,k14,(zb1 F14)⟩;have CA1:Can l.prog w K mg Aq "many_coverings" 6 f14 _ ["box"] (jD4 tb2):=⟨C14.G,M al1,k14,(zb1 F14)⟩;have C15:Can l.prog w K mg Aq "have_common" 1 f15 _ ["one","other"] jDJ:=⟨jNJ F15 T,M a15,k15,(zb2 F15)⟩;have C16:Can l.prog w K mg Aq "narrowed" 4 f16 _ ["box","lot"] (jDI tb1):=⟨jNE F16 T C3 C7 C15,M a16,k16,(zb2 F16)⟩;have C17:Can l.prog w K mg Aq "is_bar" 7 f17 _ ["box","lot"] (spBar tb1 tb2):=⟨jWW F17 C16 CA1,M a17,k17,(zb2 F17)⟩;have C18:Can l.prog w K mg Aq "is_within" 1 f18 _ ["lot","other"] jBC:=⟨jNA F18 T,M a18,k18,(zb2 F18)⟩;have C19:Can l.prog w K mg Aq "least_lots" 9 f19 _ ["things","holds"] (λ_ _ _ _=>False):=⟨FnOk.never,M a19,k19,b19⟩;have C20:Can l.prog w K mg Aq "least_bars" 10 f20 _ ["box"] (jCO tb1 tb2 tb3 tb4):=⟨jQL FC4 T CD4 BM (M' g3) (λcl i=>jQK FC3 T CD3 BM C5 C18 (jU9 C17 cl i) (ZC.st _ _ _) (HIb.ok tb1 tb2 cl i) λH h=>h.1) (M a19) k19 b19,M a20,k20,b20⟩;have CA2:Can l.prog w K mg Aq "least_bars_bars" 10 f20 _ ["box"] (jCO tb1 tb2 tb3 tb4):=⟨C20.G,M al2,k20,b20⟩;have C21:Can l.prog w K mg Aq "lightest" 5 f21 _ ["box"] (jIG tb5):=⟨jQJ FC5 T CD5 BM C8 (λcl i=>jNH F12 T C9 C11 C10 ((jIO T cl i).mono Ac) (ZC.st _ _ _) (zhL.ok cl i) (RLt.ok _ _) (jFC i.g)) (M a12) k12 (zb3 F12),M a21,k21,b21⟩;have CA3:Can l.prog w K mg Aq "lightest_lightest" 5 f21 _ ["box"] (jC5 tb5):=⟨jUI (C:=clS) C21.G,M al3,k21,b21⟩;have C22:Can l.prog w K mg Aq "all_but" 1 f22 _ ["number","count"] jBD:=⟨jNL F22 T,M a22,k22,(zb2 F22)⟩;have cmKS:CanK l.prog w K mg Aq "Shop" clS 2 f34 _ ["self"] (jMO clS):=⟨jU5 F34 SK,MK,M xC,(zb1 F34)⟩;have cm_become:CanM l.prog w K mg Aq clS "become" 2 f35 _ ["self","changed"] (yI clS):=⟨jNK F35 SK,SK.cl,MH35,(zb2 F35)⟩;have cm_put_thing:CanM l.prog w K mg Aq clS "put_thing" 3 f36 _ ["self","must"] (jMK clS):=⟨jU0 F36 SK cm_become (M' g1),SK.cl,MH36,(zb2 F36)⟩;have cm_put_piece:CanM l.prog w K mg Aq clS "put_piece" 4 f37 _ ["self","things","weight"] (jML clS):=⟨jU1 F37 T SK C3 C6 cm_become (M' g2),SK.cl,MH37,(zb3 F37)⟩;have cm_refuse_no_thing:CanM l.prog w K mg Aq clS "refuse_no_thing" 4 f41 _ ["self","thing"] (jEZ clS):=⟨jTZ F41 T SK C3,SK.cl,MH41,(zb2 F41)⟩;have cm_turn_thing:CanM l.prog w K mg Aq clS "turn_thing" 5 f38 _ ["self","thing"] (jIC clS):=⟨jQC F38 T SK cm_refuse_no_thing cm_become,SK.cl,MH38,(zb2 F38)⟩;have cm_take_thing:CanM l.prog w K mg Aq clS "take_thing" 5 f39 _ ["self","thing"] (jID clS tb1):=⟨jQD F39 T SK cm_refuse_no_thing cm_become C22 C7,SK.cl,MH39,(zb2 F39)⟩;have cm_take_piece:CanM l.prog w K mg Aq clS "take_piece" 4 f40 _ ["self","piece"] (jIE clS tb1):=⟨jQE F40 T SK C3 cm_become C22 C7,SK.cl,MH40,(zb2 F40)⟩;have cm_undo:CanM l.prog w K mg Aq clS "undo" 2 f42 _ ["self"] (jMJ clS):=⟨jTX F42 T SK,SK.cl,MH42,(zb1 F42)⟩;have cm_box:CanM l.prog w K mg Aq clS "box" 2 f43 _ ["self"] (jJO clS):=⟨jU8 F43 SK,SK.cl,MH43,(zb1 F43)⟩;have cm_many:CanM l.prog w K mg Aq clS "many" 7 f44 _ ["self"] (spOf clS (jD4 tb2)):=⟨jQH F44 SK CA1,SK.cl,MH44,(zb1 F44)⟩;have cm_lightest:CanM l.prog w K mg Aq clS "lightest" 6 f45 _ ["self"] (spOf clS (jC5 tb5)):=⟨jNF F45 SK CA3,SK.cl,MH45,(zb1 F45)⟩;have cm_least_bars:CanM l.prog w K mg Aq clS "least_bars" 11 f46 _ ["self"] (spOf clS (jCO tb1 tb2 tb3 tb4)):=⟨jNG F46 SK CA2,SK.cl,MH46,(zb1 F46)⟩;have C23:Can l.prog w K mg Aq "_law_cell_at" 1 f23 _ ["script","k"] (jMR K):=⟨jU7 F23 T,M a23,k23,(zb2 F23)⟩;have C24:Can l.prog w K mg Aq "_law_pot" 1 f24 _ ["cell"] spPot:=⟨jWO F24 T,M a24,k24,(zb1 F24)⟩;have C25:Can l.prog w K mg Aq "_law_take" 1 f25 _ ["pot","wide"] yW:=⟨jTY F25,M a25,k25,(zb2 F25)⟩;have SWW:=(⟨T,cmKS,cm_put_thing,cm_put_piece,cm_turn_thing,cm_take_thing,cm_take_piece,cm_undo,cm_box,C25⟩:SW l.prog w K mg Aq clS f34 f36 f37 f38 f39 f40 f42 f43 f25 tb1 _ _ _ _ _ _ _ _ _);have C26:Can l.prog w K mg Aq "_law_lot" 2 f26 _ ["pot","wide"] xA:=⟨jWQ F26 T C25,M a26,k26,(zb2 F26)⟩;have C27:Can l.prog w K mg Aq "_law_box" 3 f27 _ ["pot","most_things","most_pieces"] spBox:=⟨jWV F27 T C25 C26,M a27,k27,(zb3 F27)⟩;have C28:Can l.prog w K mg Aq "_law_whole" 1 f28 _ ["found"] jDW:=⟨jQB F28 T,M a28,k28,(zb1 F28)⟩;have C29:Can l.prog w K mg Aq "_law_same" 9 f29 _ ["found","due"] (jDX 7):=⟨jK4 F29 T C28 (M a29) k29 (zb2 F29) 7,M a29,k29,(zb2 F29)⟩;have C30:Can l.prog w K mg Aq "_law_filled" 6 f30 _ ["box"] (jFO clS):=⟨jNI F30 SWW,M a30,k30,(zb1 F30)⟩;have C31:Can l.prog w K mg Aq "_law_otherwise" 6 f31 _ ["pot","box"] (jIF clS tb1):=⟨jQF F31 SWW,M a31,k31,(zb2 F31)⟩;have C32:Can l.prog w K mg Aq "_law_asked" 12 f32 _ ["shop","box"] (jII clS tb1 tb2 tb3 tb4 tb5):=⟨jQN F32 ⟨C29,CA1,CA3,CA2,cm_box,cm_many,cm_lightest,cm_least_bars⟩,M a32,k32,(zb2 F32)⟩;exact jWR F33 ⟨SWW,C23,C24,C27,C30,C31,C32⟩
theorem walk{l:PySem.W.OpenLaw}{q:Program}{loose:Am}{XP:(Ak)->Heap->Prop}{YP:World->Heap->Prop}{d:DefRec}{K:Params->W.Frag}(hn:l.most=some 63)(hdf:d.params.defaults=[]){tb1 tb2 tb3 tb4 tb5:Addr}{cc1 cc2 cc3 cc4 cc5:Addr}
  (hY:∀(w:World) (h:Heap),YP w h->(K w.params).In h/\∀T∈[tb1,tb2,tb3,tb4,tb5],h.get? T=some (tabObj #[])) (hcd:∀w:World,codeHdIn (K w.params) cc1 tb1=true/\codeHdIn (K w.params) cc2 tb2=true/\codeHdIn (K w.params) cc3 tb3=true/\codeHdIn (K w.params) cc4 tb4=true/\codeHdIn (K w.params) cc5 tb5=true) (hKT:∀w:World,∀T∈[tb1,tb2,tb3,tb4,tb5],(K w.params).lookup T=none) (hnd:([tb1,tb2,tb3,tb4,tb5]:List Addr).Nodup)
  (F:∀(w:World) (mg:Ak) (fa:Addr) (h:Heap),(K w.params).In h->h.Ns mainGlobals mg->mg d.name=some (.ref fa)->
   ∃fd:FuncData,(∀(s:Shared) (u:Value),BindsTo s fd ⟨[u],[]⟩ [("script",u)])/\∀Aq:Heap,(K w.params).In Aq->Aq.Ns mainGlobals mg->FnOk l.prog w (K w.params) mg Aq CX0 13 fa fd ["script"] (spLaw (K w.params) tb1 tb2 tb3 tb4 tb5)):
  PySem.W.WalkO q loose XP YP l.row.toRowW d [] (λf vs=>PySem.call f vs):=
 L2.walk_ofTs (cts:=[(cc1,tb1),(cc2,tb2),(cc3,tb3),(cc4,tb4),(cc5,tb5)]) (n:=63) (k:=13) (x:= "script") (CX:=λ_=>CX0) (sp:=λw=>spLaw (K w.params) tb1 tb2 tb3 tb4 tb5) hn Ac hdf ⟨rfl,Ac,Ac⟩ hY (λw p hp=>by
  obtain⟨_h0,_h1,_h2,_h3,_h4⟩:=hcd w;simp only[aA,aS,bX] at hp;rcases hp with rfl|rfl|rfl|rfl|rfl<;>assumption) hKT F (λ_ H a ns hl hT hS=>⟨a,ns,rfl,hS,hl,.inl (hT _ ai),.inl (hT _ (ag _ ai)),.inl (hT _ (ag _ (ag _ ai))),.inl (hT _ (ag _ (ag _ (ag _ ai)))),.inl (hT _ (ag _ (ag _ (ag _ (ag _ ai))))),(by rintro rfl;simp at hnd),(by rintro rfl;simp at hnd),(by rintro rfl;simp at hnd),(by rintro rfl;simp at hnd),(by rintro rfl;simp at hnd),(by rintro rfl;simp at hnd),(by rintro rfl;simp at hnd),(by rintro rfl;simp at hnd),(by rintro rfl;simp at hnd),(by rintro rfl;simp at hnd),λ_=>rfl⟩) λ_ _ _ _ _ z=>z
end Eo
open PySem PySem.W PyProof.Rows
set_option maxRecDepth 100000 in
set_option maxHeartbeats 0 in
theorem PySem.Challenge.cw_eachonce_k94_whole_a_shop_made_anew_holds : PySem.Challenge.rw_eachonce_k94_whole_a_shop_made_anew.Holds := by
 w_on
 o_law
 o_head Eo.kH
 case hw=>w_witness2
 refine Eo.walk (l:=PySem.Challenge.rw_eachonce_k94_whole_a_shop_made_anew) (K:=Eo.kK) rfl rfl (tb1:=52) (cc1:=54) (tb2:=171) (cc2:=175) (tb3:=207) (cc3:=209) (tb4:=212) (cc4:=216) (tb5:=219) (cc5:=223) (λw h Y=>⟨PySem.W.km_in_of Y,PySem.W.km_tabs_of Y⟩) (λw=>⟨AK,AK,AK,AK,AK⟩) (λw T hm=>by
   simp only[aA,aS,bX] at hm;rcases hm with rfl|rfl|rfl|rfl|rfl<;>kernel_rfl) Ac ?F
 case F=>
  intro w mg fa h KX G hmg
  k_fill
  refine' Eo.all_mk KX G hmg _ _ _ _ _ _ _ _ _ _ _ _ _ _ _ _ _ _ _ _ _ _ _ _ _ _ _ _ _ _ _ _ _ _ _ _ _ _ _ _ _ _ _ _ _ _ _ _ _ _ _ _ _ _ _ _ _ _ _ _ _ _ _ _ _ _ _ _ _ _ _ _ _ _ _ _ _ _ _ _ _ _ _ _ _ _ _ _ _ _ _ _ _ _ _ _ _ _ _ _ _ _ _ _ _ _ _ _ _ _ _ _ _ _ _ _ _ _ _ _ _ _ _ _ _ _ _ _ _ _ _ _ _ _ _ _ _ _ _ _ _ _ _ _ _ _ _ _ _ _ _ _ _ _ (tb1:=52) rfl AK (tb2:=171) rfl AK (tb3:=207) rfl AK (tb4:=212) rfl AK (tb5:=219) rfl AK (bmA:=4) AK AK Ac Ac (clS:=326) AK (f34:=243) _ _ AK AK AK (f35:=250) _ _ AK AK AK (f36:=257) _ _ AK AK AK (f37:=264) _ _ AK AK AK (f38:=269) _ _ AK AK AK (f39:=274) _ _ AK AK AK (f40:=281) _ _ AK AK AK (f41:=288) _ _ AK AK AK (f42:=295) _ _ AK AK AK (f43:=302) _ _ AK AK AK (f44:=309) _ _ AK AK AK (f45:=316) _ _ AK AK AK (f46:=323) _ _ AK AK AK ⟨⟨AK,AK,AK,AK⟩,by unfold L2.NoAttr;kernel_rfl,by unfold L2.NoAttr;kernel_rfl⟩ ⟨AK,AK,AK,AK⟩ _ _ _
  all_goals ((try delta Eo.zN);(try delta Eo.zr);(try delta Eo.zl);(try delta Eo.zc);(try delta Eo.zk);try k_is)
end
