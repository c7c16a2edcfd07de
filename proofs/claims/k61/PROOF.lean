import PyProof.Rows.All
import Wide.All
import OpenK.AllK
import Wide.FinOn
import PyProof.EqAt
import PyProof.EqKinds
import PyProof.TupleCall
import Lean
import PySem.SetOps
import PyProof.SetKind
import PyProof.DictKinds
import PyProof.CompMap
import PyProof.WalksS
import PyProof.Walks
import PyProof.CollectWalk
import PyProof.FactsAll.set_1
import PyProof.SetNew
import PyProof.Rows.SetFrom
import PyProof.ZipIter
import PyProof.Rows.SortShell
import PyProof.Rows.SortWalk
import PyProof.NeKinds
import PyProof.SumWalkG
import PyProof.RangeIter
import PyProof.StationsW
import PyProof.ExcClass3
import PyProof.ExcBaseAll.ValueError
import PyProof.ExcAttrAll.ValueError
import PyProof.Rows.CatchOwn
import KE.KIsAll
import PyProof.NsDelKeeps
import KE.KNestM
import PyProof.EnumMake
import KE.KDictOf
import PyProof.AttrMiss
import PyProof.IsiH_list
import PyProof.FactsAll.tuple_3
import PyProof.TupleOfStr
import PyProof.ListRange
import PySem.Challenge.RW_eachonce_k61_boxes_narrowed
set_option Elab.async false
set_option linter.all false
set_option maxRecDepth 100000
section
namespace L2
open PySem PySem.Spec PyProof.Rows
noncomputable def jM (s : Stmt) : Arguments := match s with
 | .FunctionDef _ a _ _ _ _ _ _ _ _ => a
 | _ => { posonlyargs := [], args := [], vararg := none, kwonlyargs := [], kw_defaults := [], kwarg := none, defaults := [] }
noncomputable def jC (s : Stmt) : List Stmt := match s with
 | .FunctionDef _ _ b _ _ _ _ _ _ _ => b
 | _ => []
noncomputable def j8 (s : Stmt) : Scope := match s with
 | .FunctionDef _ _ _ _ _ _ sc _ _ _ => sc
 | _ => { kind := .function, names := [], isGenerator := false, isCoroutine := false }
end L2
end
section
namespace Eo
open PySem L2
def top (i : Nat) : Stmt := PySem.Challenge.pw_eachonce_k61_boxes_narrowed.main.body.getD i (.Pass ⟨0, 0, 0, 0⟩)
noncomputable abbrev sWhole0 : Stmt := top 1
noncomputable abbrev y4 : Stmt := top 2
noncomputable abbrev sIsLot : Stmt := top 3
noncomputable abbrev jX : Stmt := top 6
noncomputable abbrev sMany : Stmt := top 26
noncomputable abbrev sCommon : Stmt := top 28
noncomputable abbrev yG : Stmt := top 29
noncomputable abbrev sBar : Stmt := top 30
noncomputable abbrev sCell : Stmt := top 32
noncomputable abbrev sPot : Stmt := top 33
noncomputable abbrev sTake : Stmt := top 34
noncomputable abbrev sLot : Stmt := top 35
noncomputable abbrev sBox : Stmt := top 36
noncomputable abbrev sWhole : Stmt := top 37
noncomputable abbrev yE : Stmt := top 38
noncomputable abbrev sDrawn : Stmt := top 39
noncomputable abbrev kU : Stmt := top 40
noncomputable abbrev yF : Stmt := top 41
noncomputable abbrev yM : Stmt := top 42
noncomputable abbrev kW : Stmt := top 43
noncomputable abbrev sLaw : Stmt := top 44
end Eo
end
section
namespace Eo
open PySem L2
noncomputable def kC (x : Str) (t : Nat) (l n : Int) (a : Nat) (X Y : Value) (z : Nat) (u : Int) (v : Nat) : Obj := ⟨.type "code", none, .fields #[.str x t, .str x (t + 1), .str "/claim/cut.py" (t + 2), .int l 0, .int n 0, .int 0 0, .int 0 0, .int 3 0, .ref a, .bool true, .int 181 0, .ref (a + 1), .none, X, Y, .ref z, .int u 0, .int l 0, .str "/claim/cut.py" v], #[]⟩
noncomputable def kF (x : Str) (s : Stmt) (m : Str) (t c : Nat) : Obj := ⟨.type "function", none, .func (PySem.W.fnOf x x (jM s) (jC s) (j8 s) .none .none .none (.str m t) none (.ref c) .none), #[]⟩
noncomputable def kE (P : Params) (x : Str) (t : Nat) (v : Value) : DictEntry := ⟨PyData.keyHash P x, .str x t, v⟩
noncomputable def kM (P : Params) : Obj :=
 let e (x : Str) (t : Nat) (v : Value) : DictEntry := ⟨PyData.keyHash P x, .str x t, v⟩
 ⟨.type "dict", none, .dict #[e "__name__" 165 (.str "law_eachonce_k61_boxes_narrowed" 489), e "__doc__" 166 (.none), e "__package__" 167 (.none), e "__loader__" 168 (.builtin "__main__.__loader__#opaque"), e "__spec__" 169 (.none), e "__annotations__" 170 (.ref 6), e "__builtins__" 171 (.ref 4), e "__file__" 173 (.str "/claim/cut.py" 172), e "__cached__" 174 (.none), e "is_whole" 195 (.ref 21), e "is_rising" 201 (.ref 26), e "is_lot" 209 (.ref 33), e "mask_of" 215 (.ref 38), e "picked" 223 (.ref 43), e "OnceError" 243 (.ref 53), e "NoText" 268 (.ref 73), e "NoCovering" 284 (.ref 85), e "TooMany" 300 (.ref 97), e "NoThing" 316 (.ref 109), e "NoPiece" 332 (.ref 121), e "NoWeight" 348 (.ref 133), e "NoOrder" 364 (.ref 145), e "Held" 380 (.ref 157), e "NoDeed" 396 (.ref 169), e "NoRow" 412 (.ref 181), e "choices_of" 420 (.ref 188), e "full_mask" 427 (.ref 195), e "choices_at" 433 (.ref 200), e "masks_met" 446 (.ref 207), e "gathered" 452 (.ref 212), e "ways_of" 459 (.ref 219), e "many" 466 (.ref 226), e "have_common" 474 (.ref 231), e "narrowed" 480 (.ref 236), e "is_bar" 488 (.ref 243), e "_law_cell_at" 498 (.ref 250), e "_law_pot" 508 (.ref 257), e "_law_take" 517 (.ref 264), e "_law_lot" 523 (.ref 269), e "_law_box" 529 (.ref 274), e "_law_whole" 536 (.ref 281), e "_law_wholes" 542 (.ref 286), e "_law_drawn" 553 (.ref 293), e "_law_narrowed" 559 (.ref 298), e "_law_others" 565 (.ref 303), e "_law_is_box" 571 (.ref 308), e "_law_refused" 581 (.ref 315), e "law" 587 (.ref 320)] 48, #[]⟩
noncomputable def kK (P : Params) : W.Frag := (nat_lit 3, kM P) :: (nat_lit 4, ⟨.type "module", some 0, .plain, #[]⟩) :: (nat_lit 20, kC "is_whole" 189 2 1 15 (.ref 17) (.ref 18) 19 193 194) :: (nat_lit 21, kF "is_whole" sWhole0 "eachonce.kinds" 187 20) :: (nat_lit 25, kC "is_rising" 196 4 1 22 (.none) (.none) 24 199 200) :: (nat_lit 26, kF "is_rising" y4 "eachonce.kinds" 187 25) :: (nat_lit 32, kC "is_lot" 202 10 2 27 (.ref 29) (.ref 30) 31 207 208) :: (nat_lit 33, kF "is_lot" sIsLot "eachonce.kinds" 187 32) :: (nat_lit 42, kC "picked" 218 17 3 39 (.none) (.none) 41 221 222) :: (nat_lit 43, kF "picked" jX "eachonce.boxes" 216 42) :: (nat_lit 52, ⟨.type "dict", none, .dict #[kE P "__module__" 233 (.str "eachonce.errors" 224), kE P "__firstlineno__" 237 (.int 24 236), kE P "__static_attributes__" 238 (.ref 51), kE P "__weakref__" 240 (.ref 54), kE P "__doc__" 241 (.none)] 3, #[]⟩) :: (nat_lit 53, ⟨.type "type", none, .cls { name := "OnceError", bases := [.type "ValueError"], mro := [.ref 53, .type "ValueError", .type "Exception", .type "BaseException", .type "object"], ns := 52, qualname := "OnceError", subclasses := [.ref 73, .ref 85, .ref 97, .ref 109, .ref 121, .ref 133, .ref 145, .ref 157, .ref 169, .ref 181] }, #[some (.ref 44), none, some (.str "OnceError" 226), some (.str "OnceError" 234), some (.builtin "ValueError.__new__"), some (.bool true)]⟩) :: (nat_lit 73, ⟨.type "type", none, .cls { name := "NoText", bases := [.ref 53], mro := [.ref 73, .ref 53, .type "ValueError", .type "Exception", .type "BaseException", .type "object"], ns := 72, qualname := "NoText", subclasses := [] }, #[some (.ref 57), none, some (.str "NoText" 244), some (.str "NoText" 252), some (.builtin "ValueError.__new__"), some (.bool true)]⟩) :: (nat_lit 85, ⟨.type "type", none, .cls { name := "NoCovering", bases := [.ref 53], mro := [.ref 85, .ref 53, .type "ValueError", .type "Exception", .type "BaseException", .type "object"], ns := 84, qualname := "NoCovering", subclasses := [] }, #[some (.ref 76), none, some (.str "NoCovering" 269), some (.str "NoCovering" 277), some (.builtin "ValueError.__new__"), some (.bool true)]⟩) :: (nat_lit 97, ⟨.type "type", none, .cls { name := "TooMany", bases := [.ref 53], mro := [.ref 97, .ref 53, .type "ValueError", .type "Exception", .type "BaseException", .type "object"], ns := 96, qualname := "TooMany", subclasses := [] }, #[some (.ref 88), none, some (.str "TooMany" 285), some (.str "TooMany" 293), some (.builtin "ValueError.__new__"), some (.bool true)]⟩) :: (nat_lit 108, ⟨.type "dict", none, .dict #[kE P "__module__" 308 (.str "eachonce.errors" 224), kE P "__firstlineno__" 312 (.int 35 311), kE P "__static_attributes__" 313 (.ref 107), kE P "__doc__" 314 (.none)] 2, #[]⟩) :: (nat_lit 109, ⟨.type "type", none, .cls { name := "NoThing", bases := [.ref 53], mro := [.ref 109, .ref 53, .type "ValueError", .type "Exception", .type "BaseException", .type "object"], ns := 108, qualname := "NoThing", subclasses := [] }, #[some (.ref 100), none, some (.str "NoThing" 301), some (.str "NoThing" 309), some (.builtin "ValueError.__new__"), some (.bool true)]⟩) :: (nat_lit 121, ⟨.type "type", none, .cls { name := "NoPiece", bases := [.ref 53], mro := [.ref 121, .ref 53, .type "ValueError", .type "Exception", .type "BaseException", .type "object"], ns := 120, qualname := "NoPiece", subclasses := [] }, #[some (.ref 112), none, some (.str "NoPiece" 317), some (.str "NoPiece" 325), some (.builtin "ValueError.__new__"), some (.bool true)]⟩) :: (nat_lit 133, ⟨.type "type", none, .cls { name := "NoWeight", bases := [.ref 53], mro := [.ref 133, .ref 53, .type "ValueError", .type "Exception", .type "BaseException", .type "object"], ns := 132, qualname := "NoWeight", subclasses := [] }, #[some (.ref 124), none, some (.str "NoWeight" 333), some (.str "NoWeight" 341), some (.builtin "ValueError.__new__"), some (.bool true)]⟩) :: (nat_lit 145, ⟨.type "type", none, .cls { name := "NoOrder", bases := [.ref 53], mro := [.ref 145, .ref 53, .type "ValueError", .type "Exception", .type "BaseException", .type "object"], ns := 144, qualname := "NoOrder", subclasses := [] }, #[some (.ref 136), none, some (.str "NoOrder" 349), some (.str "NoOrder" 357), some (.builtin "ValueError.__new__"), some (.bool true)]⟩) :: (nat_lit 157, ⟨.type "type", none, .cls { name := "Held", bases := [.ref 53], mro := [.ref 157, .ref 53, .type "ValueError", .type "Exception", .type "BaseException", .type "object"], ns := 156, qualname := "Held", subclasses := [] }, #[some (.ref 148), none, some (.str "Held" 365), some (.str "Held" 373), some (.builtin "ValueError.__new__"), some (.bool true)]⟩) :: (nat_lit 169, ⟨.type "type", none, .cls { name := "NoDeed", bases := [.ref 53], mro := [.ref 169, .ref 53, .type "ValueError", .type "Exception", .type "BaseException", .type "object"], ns := 168, qualname := "NoDeed", subclasses := [] }, #[some (.ref 160), none, some (.str "NoDeed" 381), some (.str "NoDeed" 389), some (.builtin "ValueError.__new__"), some (.bool true)]⟩) :: (nat_lit 181, ⟨.type "type", none, .cls { name := "NoRow", bases := [.ref 53], mro := [.ref 181, .ref 53, .type "ValueError", .type "Exception", .type "BaseException", .type "object"], ns := 180, qualname := "NoRow", subclasses := [] }, #[some (.ref 172), none, some (.str "NoRow" 397), some (.str "NoRow" 405), some (.builtin "ValueError.__new__"), some (.bool true)]⟩) :: (nat_lit 225, kC "many" 460 83 1 220 (.ref 222) (.ref 223) 224 464 465) :: (nat_lit 226, kF "many" sMany "eachonce.coverings" 413 225) :: (nat_lit 230, kC "have_common" 469 86 2 227 (.none) (.none) 229 472 473) :: (nat_lit 231, kF "have_common" sCommon "eachonce.bars" 467 230) :: (nat_lit 235, kC "narrowed" 475 88 2 232 (.none) (.none) 234 478 479) :: (nat_lit 236, kF "narrowed" yG "eachonce.bars" 467 235) :: (nat_lit 242, kC "is_bar" 481 92 2 237 (.ref 239) (.ref 240) 241 486 487) :: (nat_lit 243, kF "is_bar" sBar "eachonce.bars" 467 242) :: (nat_lit 249, kC "_law_cell_at" 491 95 2 244 (.ref 246) (.ref 247) 248 496 497) :: (nat_lit 250, kF "_law_cell_at" sCell "law_eachonce_k61_boxes_narrowed" 489 249) :: (nat_lit 256, kC "_law_pot" 499 99 1 251 (.ref 253) (.ref 254) 255 506 507) :: (nat_lit 257, kF "_law_pot" sPot "law_eachonce_k61_boxes_narrowed" 489 256) :: (nat_lit 263, kC "_law_take" 509 108 2 258 (.ref 260) (.ref 261) 262 515 516) :: (nat_lit 264, kF "_law_take" sTake "law_eachonce_k61_boxes_narrowed" 489 263) :: (nat_lit 268, kC "_law_lot" 518 112 2 265 (.none) (.none) 267 521 522) :: (nat_lit 269, kF "_law_lot" sLot "law_eachonce_k61_boxes_narrowed" 489 268) :: (nat_lit 273, kC "_law_box" 524 121 3 270 (.none) (.none) 272 527 528) :: (nat_lit 274, kF "_law_box" sBox "law_eachonce_k61_boxes_narrowed" 489 273) :: (nat_lit 280, kC "_law_whole" 530 139 1 275 (.ref 277) (.ref 278) 279 534 535) :: (nat_lit 281, kF "_law_whole" sWhole "law_eachonce_k61_boxes_narrowed" 489 280) :: (nat_lit 285, kC "_law_wholes" 537 141 1 282 (.none) (.none) 284 540 541) :: (nat_lit 286, kF "_law_wholes" yE "law_eachonce_k61_boxes_narrowed" 489 285) :: (nat_lit 292, kC "_law_drawn" 543 143 4 287 (.ref 289) (.ref 290) 291 551 552) :: (nat_lit 293, kF "_law_drawn" sDrawn "law_eachonce_k61_boxes_narrowed" 489 292) :: (nat_lit 297, kC "_law_narrowed" 554 148 2 294 (.none) (.none) 296 557 558) :: (nat_lit 298, kF "_law_narrowed" kU "law_eachonce_k61_boxes_narrowed" 489 297) :: (nat_lit 302, kC "_law_others" 560 155 2 299 (.none) (.none) 301 563 564) :: (nat_lit 303, kF "_law_others" yF "law_eachonce_k61_boxes_narrowed" 489 302) :: (nat_lit 307, kC "_law_is_box" 566 160 2 304 (.none) (.none) 306 569 570) :: (nat_lit 308, kF "_law_is_box" yM "law_eachonce_k61_boxes_narrowed" 489 307) :: (nat_lit 314, kC "_law_refused" 572 164 2 309 (.ref 311) (.ref 312) 313 579 580) :: (nat_lit 315, kF "_law_refused" kW "law_eachonce_k61_boxes_narrowed" 489 314) :: (nat_lit 319, kC "law" 582 175 1 316 (.none) (.none) 318 585 586) :: (nat_lit 320, kF "law" sLaw "law_eachonce_k61_boxes_narrowed" 489 319) :: []
noncomputable def kA : List Addr := [3, 4, 20, 21, 25, 26, 32, 33, 42, 43, 52, 53, 73, 85, 97, 108, 109, 121, 133, 145, 157, 169, 181, 225, 226, 230, 231, 235, 236, 242, 243, 249, 250, 256, 257, 263, 264, 268, 269, 273, 274, 280, 281, 285, 286, 292, 293, 297, 298, 302, 303, 307, 308, 314, 315, 319, 320]
noncomputable def vw : Program := { PySem.Challenge.pw_eachonce_k61_boxes_narrowed with main := { PySem.Challenge.pw_eachonce_k61_boxes_narrowed.main with body := [top 1, top 2, top 3, top 4, top 6, top 8, top 9, top 10, top 11, top 12, top 13, top 14, top 15, top 16, top 17, top 18, top 20, top 21, top 22, top 23, top 24, top 25, top 26, top 28, top 29, top 30, top 32, top 33, top 34, top 35, top 36, top 37, top 38, top 39, top 40, top 41, top 42, top 43, top 44] } }
theorem kA_eq : ∀ P, kA = (kK P).map (·.1) := fun _ => by kernel_rfl
noncomputable abbrev kH : PySem.W.Hook := PySem.W.kmHook kK kA kA_eq [40]
set_option maxHeartbeats 0 in
theorem left : PySem.W.LeftO PySem.Challenge.rw_eachonce_k61_boxes_narrowed.prog vw [] (fun s => PySem.W.xlAt vw [] s && PySem.W.recOk (PySem.W.RowW.records (PySem.W.OpenRow.toRowW PySem.Challenge.rw_eachonce_k61_boxes_narrowed.row)) s) (PySem.W.Hook.obs kH) (PySem.W.Hook.val kH) 7100 := fun w => by kernel_rfl
end Eo
end
section
namespace L2
open PySem PySem.Spec PyProof.Rows
noncomputable abbrev Key := Sum Int Str
noncomputable def keyIs : Key → Value → Bool
 | .inl k, v => Value.isInt k v
 | .inr x, v => Value.isStrOf x v
noncomputable def keyH (w : World) : Key → Int
 | .inl k => hashInt k
 | .inr x => hashStr w x
theorem keyIs_shape : ∀ {k : Key} {v : Value}, keyIs k v = true → (∃ i t, k = Sum.inl i ∧ v = Value.int i t) ∨ (∃ x t, k = Sum.inr x ∧ v = Value.str x t)
 | .inl i, v, h => by
   obtain ⟨t, e⟩ := Value.isInt_shape (k := i) (v := v) h
   exact .inl ⟨i, t, rfl, e⟩
 | .inr x, v, h => by
   obtain ⟨t, e⟩ := Value.isStrOf_shape (x := x) (v := v) h
   exact .inr ⟨x, t, rfl, e⟩
theorem keyIs_int (i : Int) (t : Tok) : keyIs (.inl i) (.int i t) = true := by simp [keyIs, Value.isInt]
theorem keyIs_str (x : Str) (t : Tok) : keyIs (.inr x) (.str x t) = true := by simp [keyIs, Value.isStrOf]
theorem key_ll (a b : Int) : decide ((Sum.inl a : Key) = Sum.inl b) = (a == b) := by
 by_cases e : a = b
 · subst e; simp
 · have h : ¬ (Sum.inl a : Key) = Sum.inl b := fun q => e (Sum.inl.inj q)
   rw [decide_eq_false h]
   exact (beq_eq_false_iff_ne.mpr e).symm
theorem key_rr (a b : Str) : decide ((Sum.inr a : Key) = Sum.inr b) = decide (a = b) := by
 by_cases e : a = b
 · subst e; simp
 · have h : ¬ (Sum.inr a : Key) = Sum.inr b := fun q => e (Sum.inr.inj q)
   rw [decide_eq_false h, decide_eq_false e]
theorem key_lr (a : Int) (b : Str) : decide ((Sum.inl a : Key) = Sum.inr b) = false := decide_eq_false (fun q => nomatch q)
theorem key_rl (a : Str) (b : Int) : decide ((Sum.inr a : Key) = Sum.inl b) = false := decide_eq_false (fun q => nomatch q)
noncomputable def y6 (prog : Program) (w : World) : PySem.KeyKind prog w Key where
 is := keyIs
 hash := keyH w
 inj := fun v a b ha hb => by
   rcases keyIs_shape ha with ⟨i, t, rfl, rfl⟩ | ⟨x, t, rfl, rfl⟩
   · rcases keyIs_shape hb with ⟨j, u, rfl, e⟩ | ⟨y, u, rfl, e⟩
     · injection e with e1 _; rw [e1]
     · exact nomatch e
   · rcases keyIs_shape hb with ⟨j, u, rfl, e⟩ | ⟨y, u, rfl, e⟩
     · exact nomatch e
     · injection e with e1 _; rw [e1]
 byValue := fun k v h => by
   rcases keyIs_shape h with ⟨i, t, rfl, rfl⟩ | ⟨x, t, rfl, rfl⟩ <;> rfl
 pyHash := fun hv h => by
   rcases keyIs_shape hv with ⟨i, t, rfl, rfl⟩ | ⟨x, t, rfl, rfl⟩
   · exact wpAny_pyHash_int h
   · exact wpAny_pyHash_str h
 eqBool := fun hu hv h => by
   rcases keyIs_shape hu with ⟨i, t, rfl, rfl⟩ | ⟨x, t, rfl, rfl⟩
   · rcases keyIs_shape hv with ⟨j, u, rfl, rfl⟩ | ⟨y, u, rfl, rfl⟩
     · rw [key_ll] at h; exact wpAny_eqBool_int h
     · rw [key_lr] at h; exact SeqAt.EqAt.int_str i t y u _ _ _ _ h
   · rcases keyIs_shape hv with ⟨j, u, rfl, rfl⟩ | ⟨y, u, rfl, rfl⟩
     · rw [key_rl] at h; exact SeqAt.EqAt.str_int x t j u _ _ _ _ h
     · rw [key_rr] at h; exact wpAny_eqBool_str h
 «strs» := fun k x t v h => by
   rcases keyIs_shape h with ⟨i, u, rfl, e⟩ | ⟨y, u, rfl, e⟩
   · exact nomatch e
   · injection e with e1 _
     subst e1
     cases v <;> rfl
theorem mixKind_int (prog : Program) (w : World) (i : Int) (t : Tok) : (y6 prog w).is (.inl i) (.int i t) = true := keyIs_int i t
theorem mixKind_str (prog : Program) (w : World) (x : Str) (t : Tok) : (y6 prog w).is (.inr x) (.str x t) = true := keyIs_str x t
end L2
namespace L2
open PySem PySem.Spec PyProof.Rows
inductive V where
 | non | bl (b : Bool) | int (i : Int) | str (x : Str) | byt (b : Array UInt8) | flt (b : UInt64) | ref (a : Addr) | ty (n : String)
 deriving DecidableEq
noncomputable def RelV : V → Value → Prop
 | .non, u => u = Value.none
 | .bl b, u => u = Value.bool b
 | .int i, u => ∃ t, u = Value.int i t
 | .str x, u => ∃ t, u = Value.str x t
 | .byt b, u => ∃ t, u = Value.bytes b t
 | .flt b, u => ∃ t, u = Value.float b t
 | .ref a, u => u = Value.ref a
 | .ty n, u => u = Value.type n
noncomputable abbrev Vals : List V → List Value → Prop := Paired RelV
theorem Vals.length {xs : List V} {us : List Value} (r : Vals xs us) : xs.length = us.length := Paired.length r
theorem Vals.get : ∀ {xs : List V} {us : List Value} {i : Nat} {x : V}, Vals xs us → xs[i]? = some x → ∃ u, us[i]? = some u ∧ RelV x u
 | _, _, _, _, .nil, e => by simp at e
 | _, _, 0, _, .cons r _, e => by simp at e; subst e; exact ⟨_, rfl, r⟩
 | _, _, i + 1, x, .cons _ t, e => by
   obtain ⟨u, h1, h2⟩ := Vals.get (i := i) (x := x) t (by simpa using e)
   exact ⟨u, by simpa using h1, h2⟩
theorem Vals.set {x : V} {u : Value} (r : RelV x u) : ∀ {xs : List V} {us : List Value} (i : Nat), Vals xs us → Vals (xs.set i x) (us.set i u)
 | _, _, _, .nil => .nil
 | _, _, 0, .cons _ t => .cons r t
 | _, _, i + 1, .cons q t => .cons q (Vals.set r i t)
theorem Vals.append : ∀ {xs ys : List V} {us ws : List Value}, Vals xs us → Vals ys ws → Vals (xs ++ ys) (us ++ ws)
 | _, _, _, _, .nil, s => s
 | _, _, _, _, .cons r t, s => .cons r (Vals.append t s)
theorem Vals.take : ∀ {xs : List V} {us : List Value} (n : Nat), Vals xs us → Vals (xs.take n) (us.take n)
 | _, _, 0, _ => .nil
 | _, _, _ + 1, .nil => .nil
 | _, _, n + 1, .cons r t => .cons r (Vals.take n t)
theorem Vals.drop : ∀ {xs : List V} {us : List Value} (n : Nat), Vals xs us → Vals (xs.drop n) (us.drop n)
 | _, _, 0, r => r
 | _, _, _ + 1, .nil => .nil
 | _, _, n + 1, .cons _ t => Vals.drop n t
noncomputable def RelO : Option V → Option Value → Prop
 | some v, some u => RelV v u
 | none, none => True
 | _, _ => False
noncomputable def KV {κ : Type} : List (κ × V) → List (κ × Value) → Prop := Paired fun (p : κ × V) (q : κ × Value) => p.1 = q.1 ∧ RelV p.2 q.2
noncomputable def kV : Key → V
 | .inl i => .int i
 | .inr x => .str x
noncomputable def TupO (h : Heap) (a : Addr) (items : Array Value) : Prop := ∃ n, h.get? a = some { cls := .type "tuple", data := .seq items n }
theorem TupO.isTup {h : Heap} {a : Addr} {items : Array Value} (x : TupO h a items) : IsTup h a items := let ⟨n, e⟩ := x; ⟨_, e, rfl, n, rfl⟩
theorem TupO.new (h : Heap) (items : Array Value) : TupO (h.push { cls := .type "tuple", data := .seq items }) h.objs.size items := ⟨0, Heap.get?_push_size _ rfl⟩
inductive HO where
   | lst (xs : List V)
   | tup (xs : List V)
   | dK (kvs : List (Key × V)) | dT (kvs : List (List Key × V))
   | set (S : Int → Bool) (n : Nat)
   | ins (C dx : Addr) (fs : List (Str × V))
   | own (x : Addr)
   | xd (fs : List (Str × V))
   | met (f x : Addr)
   | rng (lo hi : Int)
   | frz (o : Obj) (u : HO)
   | tbl (ps : Array Value)
   | ext (φ : Heap → Prop)
noncomputable abbrev Hp := Addr → Option HO
noncomputable def upd (H : Hp) (a : Addr) (o : HO) : Hp := fun b => if b = a then some o else H b
theorem j7 {H : Hp} {a : Addr} {o : HO} : upd H a o a = some o := by unfold upd; rw [if_pos rfl]
theorem jA {H : Hp} {a b : Addr} {o : HO} (h : b ≠ a) : upd H a o b = H b := by unfold upd; rw [if_neg h]
theorem ne_of {H : Hp} {a b : Addr} {o u : HO} (h : H a = some o) (h' : H b = some u) (d : o ≠ u) : a ≠ b := by
 intro e; subst e; rw [h] at h'; exact d (Option.some.inj h')
theorem jB {H : Hp} {a b : Addr} {o : HO} (h : H a = some o) (h' : H b = none) : a ≠ b := by
 intro e; subst e; rw [h] at h'; cases h'
section
variable (P : Program) (w : World)
noncomputable def ObjOk (H : Hp) (h : Heap) (a : Addr) : HO → Prop
 | .lst xs => xs.length ≤ sizeLine ∧ ∃ (its : List Value) (n : Nat), Vals xs its ∧ h.get? a = some { cls := .type "list", data := .seq its.toArray n }
 | .tup xs => xs.length ≤ sizeLine ∧ ∃ its : List Value, Vals xs its ∧ TupO h a its.toArray
 | .dK kvs => kvs.length ≤ sizeLine ∧ (a == sysModules) = false ∧ ∃ vs, KV kvs vs ∧ h.DictOf (y6 P w) a vs
 | .dT kvs => kvs.length ≤ sizeLine ∧ (a == sysModules) = false ∧ ∃ xs : List (List Key × Addr × Value),
     Paired (fun (p : List Key × V) (q : List Key × Addr × Value) => p.1 = q.1 ∧ H q.2.1 = some (.tup (p.1.map kV)) ∧ RelV p.2 q.2.2) kvs xs ∧
     ∃ o es ep, h.get? a = some o ∧ o.ExactDict ∧ o.data = .dict es ep ∧ es.toList = xs.map (entryOfKey (tupleKind (y6 P w))) ∧ (xs.map (·.1)).Nodup
 | .set S n => h.SetOf (intKind P w) a S n
 | .ins C dx fs => H dx = some (.own a) ∧ fs.length ≤ 1000 ∧ dx ≠ a ∧ h.get? a = some (PySem.W.instObj C dx) ∧
     ∃ mA, h.Ns1 dx mA ∧ (∀ f, RelO (fs.lookup f) (mA f)) ∧ PySem.Within mA (fs.map (·.1))
 | .own _ => ∃ o, h.get? a = some o
 | .xd fs => ∃ mA, h.Ns1 a mA ∧ ∀ f, RelO (fs.lookup f) (mA f)
 | .rng lo hi => ∃ t u v, h.get? a = some { cls := .type "range", data := .fields #[.int lo t, .int hi u, .int 1 v] }
 | .frz o u => h.get? a = some o ∧ ObjOk H h a u
 | .tbl ps => h.get? a = some { cls := .none, data := .fields ps }
 | .met f x => h.get? a = some (PySem.W.methodObj (.ref f) (.ref x))
 | .ext φ => φ h ∧ (∃ o, h.get? a = some o) ∧ ∀ h1 h2 : Heap, φ h1 → (∀ o, h1.get? a = some o → h2.get? a = some o) → φ h2
noncomputable def HOk (H : Hp) (h : Heap) : Prop := ∀ a o, H a = some o → ObjOk P w H h a o
end
section
variable {P : Program} {w : World} {H H' : Hp} {h h' : Heap} {a : Addr} {o : HO}
theorem ObjOk.lt (x : ObjOk P w H h a o) : a < h.objs.size := by
 cases o with
 | lst xs => obtain ⟨_, _, _, _, e⟩ := x; exact Heap.lt_size e
 | tup xs => obtain ⟨_, _, _, _, e⟩ := x; exact Heap.lt_size e
 | dK kvs => obtain ⟨_, _, _, _, o, _, _, e, _⟩ := x; exact Heap.lt_size e
 | dT kvs => obtain ⟨_, _, _, _, o, _, _, e, _⟩ := x; exact Heap.lt_size e
 | set S n => obtain ⟨o, _, _, _, e, _⟩ := x; exact Heap.lt_size e
 | ins C dx fs => obtain ⟨_, _, _, e, _⟩ := x; exact Heap.lt_size e
 | own y => obtain ⟨_, e⟩ := x; exact Heap.lt_size e
 | xd fs => obtain ⟨_, ⟨_, _, _, e, _⟩, _⟩ := x; exact Heap.lt_size e
 | rng lo hi => obtain ⟨_, _, _, e⟩ := x; exact Heap.lt_size e
 | frz ob u => obtain ⟨e, _⟩ := x; exact Heap.lt_size e
 | tbl ps => exact Heap.lt_size (show h.get? a = some _ from x)
 | met f y => exact Heap.lt_size (show h.get? a = some _ from x)
 | ext φ => obtain ⟨_, ⟨_, e⟩, _⟩ := x; exact Heap.lt_size e
theorem Paired.mapP {α β : Type} {F G : α → β → Prop} : ∀ {l₁ : List α} {l₂ : List β}, Paired F l₁ l₂ → (∀ a b, F a b → G a b) → Paired G l₁ l₂
 | _, _, .nil, _ => .nil
 | _, _, .cons r t, f => .cons (f _ _ r) (Paired.mapP t f)
theorem ObjOk.stay (x : ObjOk P w H h a o) (k : ∀ b u, (b = a ∨ H b = some (.own a)) → h.get? b = some u → h'.get? b = some u)
   (ho : ∀ b, H b = some (.own a) → H' b = some (.own a)) (ht : ∀ b xs, H b = some (.tup xs) → H' b = some (.tup xs)) : ObjOk P w H' h' a o := by
 induction o with
 | lst xs => obtain ⟨z, its, n, r, e⟩ := x; exact ⟨z, its, n, r, k _ _ (.inl rfl) e⟩
 | tup xs => obtain ⟨z, its, r, n, e⟩ := x; exact ⟨z, its, r, n, k _ _ (.inl rfl) e⟩
 | dK kvs => obtain ⟨z, y, vs, r, ob, es, ep, e, c⟩ := x; exact ⟨z, y, vs, r, ob, es, ep, k _ _ (.inl rfl) e, c⟩
 | dT kvs =>
   obtain ⟨z, y, xs, r, ob, es, ep, e, c⟩ := x
   exact ⟨z, y, xs, Paired.mapP r fun p q z => ⟨z.1, ht _ _ z.2.1, z.2.2⟩, ob, es, ep, k _ _ (.inl rfl) e, c⟩
 | set S n => obtain ⟨ob, es, ep, t, e, c⟩ := x; exact ⟨ob, es, ep, t, k _ _ (.inl rfl) e, c⟩
 | ins C dx fs =>
   obtain ⟨d, z, ne, e, mA, ⟨od, es, ep, e2, c⟩, r⟩ := x
   exact ⟨ho _ d, z, ne, k _ _ (.inl rfl) e, mA, ⟨od, es, ep, k _ _ (.inr d) e2, c⟩, r⟩
 | own y => obtain ⟨ob, e⟩ := x; exact ⟨ob, k _ _ (.inl rfl) e⟩
 | xd fs => obtain ⟨mA, ⟨od, es, ep, e, c⟩, r⟩ := x; exact ⟨mA, ⟨od, es, ep, k _ _ (.inl rfl) e, c⟩, r⟩
 | rng lo hi => obtain ⟨t, u, v, e⟩ := x; exact ⟨t, u, v, k _ _ (.inl rfl) e⟩
 | frz ob u ih => obtain ⟨e, q⟩ := x; exact ⟨k _ _ (.inl rfl) e, ih q⟩
 | tbl ps =>
   have e : h.get? a = some { cls := .none, data := .fields ps } := x
   show h'.get? a = some { cls := .none, data := .fields ps }
   exact k a _ (.inl rfl) e
 | met f y =>
   have e : h.get? a = some (PySem.W.methodObj (.ref f) (.ref y)) := x
   show h'.get? a = some (PySem.W.methodObj (.ref f) (.ref y))
   exact k a _ (.inl rfl) e
 | ext φ => obtain ⟨p, ⟨o, e⟩, st⟩ := x; exact ⟨st _ _ p fun o q => k _ _ (.inl rfl) q, ⟨o, k _ _ (.inl rfl) e⟩, st⟩
theorem HOk.lt (x : HOk P w H h) (e : H a = some o) : a < h.objs.size := (x a o e).lt
theorem HOk.fresh (x : HOk P w H h) (e : h.objs.size ≤ a) : H a = none := by
 cases q : H a with
 | none => rfl
 | some u => exact absurd (Nat.lt_of_lt_of_le (x.lt q) e) (Nat.lt_irrefl _)
theorem HOk.kept (x : HOk P w H h) (k : ∀ b u, h.get? b = some u → h'.get? b = some u) : HOk P w H h' := fun a o e =>
 (x a o e).stay (fun b u _ q => k b u q) (fun _ q => q) fun _ _ q => q
theorem HOk.laid (x : HOk P w H h) (k : ∀ b u, h.get? b = some u → h'.get? b = some u) (hp : h.objs.size ≤ a) (new : ObjOk P w (upd H a o) h' a o) : HOk P w (upd H a o) h' := fun b u e => by
 have hn := x.fresh hp
 by_cases hb : b = a
 · subst hb; rw [j7] at e; cases e; exact new
 · rw [jA hb] at e
   exact (x b u e).stay (fun c v _ q => k c v q) (fun c q => by rw [jA (jB q hn)]; exact q) fun c xs q => by rw [jA (jB q hn)]; exact q
end
noncomputable def Rd (H : Hp) (a : Addr) (u : HO) : Prop := H a = some u ∨ ∃ o, H a = some (.frz o u)
theorem Rd.ok {P : Program} {w : World} {H : Hp} {h : Heap} {a : Addr} {u : HO} (r : Rd H a u) (x : HOk P w H h) : ObjOk P w H h a u := by
 rcases r with r | ⟨o, r⟩
 · exact x a u r
 · obtain ⟨_, q⟩ := x a _ r
   exact q
noncomputable def Mut : Option HO → Prop
 | some (.lst _) => True
 | some (.dK _) => True
 | some (.dT _) => True
 | some (.set _ _) => True
 | some (.ins _ _ _) => True
 | some (.ext _) => True
 | _ => False
section
variable {P : Program} {w : World} {H : Hp} {h h' : Heap} {x e : Addr} {o' : HO}
theorem HOk.write (ok : HOk P w H h) (mu : Mut (H x)) (he : e = x ∨ H e = some (.own x)) (k : ∀ b u, b ≠ e → h.get? b = some u → h'.get? b = some u) (heo : ∃ u, h'.get? e = some u)
   (new : ObjOk P w (upd H x o') h' x o') : HOk P w (upd H x o') h' := fun b u q => by
 have nown : ∀ c y, H c = some (.own y) → c ≠ x := fun c y r z => by subst z; rw [r] at mu; exact mu
 have ntup : ∀ c xs, H c = some (.tup xs) → c ≠ x := fun c xs r z => by subst z; rw [r] at mu; exact mu
 by_cases hb : b = x
 · subst hb; rw [j7] at q; cases q; exact new
 · rw [jA hb] at q
   by_cases hbe : b = e
   · have q' : H b = some (.own x) := by
       rcases he with z | z
       · exact absurd (hbe.trans z) hb
       · rw [hbe]; exact z
     rw [q] at q'; cases q'
     obtain ⟨v, hv⟩ := heo
     exact ⟨v, by rw [hbe]; exact hv⟩
   · refine (ok b u q).stay (fun c v hc r => k c v ?_ r) (fun c r => by rw [jA (nown c b r)]; exact r) fun c xs r => by rw [jA (ntup c xs r)]; exact r
     rcases hc with rfl | hc
     · exact hbe
     · rintro rfl
       rcases he with z | z
       · exact nown c b hc z
       · rw [hc] at z; cases z; exact hb rfl
end
structure Un (fs ex : List Addr) (H H' : Hp) (h h' : Heap) : Prop where
 keep : ∀ b o, h.get? b = some o → H b = none → b ∉ fs → b ∉ ex → h'.get? b = some o
 slot : ∀ b o, h.get? b = some o → H b = none → b ∈ fs → b ∉ ex → ∃ sl, h'.get? b = some { o with slots := sl }
 free : ∀ b o, h.get? b = some o → H b = none → b ∉ ex → H' b = none
 there : ∀ b o, h.get? b = some o → b ∉ ex → ∃ o', h'.get? b = some o'
 tups : ∀ b xs, H b = some (.tup xs) → H' b = some (.tup xs)
 frzs : ∀ b o u, H b = some (.frz o u) → H' b = some (.frz o u)
 tbls : ∀ b ps, H b = some (.tbl ps) → ∃ more, H' b = some (.tbl (ps ++ more))
section
variable {fs fs' ex ex' : List Addr} {H H1 H2 : Hp} {h h1 h2 h' : Heap} {a x e : Addr} {o : HO}
theorem Un.any (u : Un fs ex H H1 h h1) {b : Addr} {ob : Obj} (q : h.get? b = some ob) (n : H b = none) (hx : b ∉ ex) : ∃ sl, h1.get? b = some { ob with slots := sl } := by
 by_cases hb : b ∈ fs
 · exact u.slot b ob q n hb hx
 · exact ⟨ob.slots, u.keep b ob q n hb hx⟩
theorem Un.kept (k : ∀ b u, h.get? b = some u → h'.get? b = some u) : Un fs ex H H h h' :=
 ⟨fun b ob q _ _ _ => k b ob q, fun b ob q _ _ _ => ⟨ob.slots, k b ob q⟩, fun _ _ _ n _ => n, fun b ob q _ => ⟨ob, k b ob q⟩, fun _ _ q => q, fun _ _ _ q => q, fun _ ps q => ⟨#[], by rw [q]; simp⟩⟩
theorem Un.refl : Un fs ex H H h h := Un.kept fun _ _ q => q
theorem Un.laid (k : ∀ b u, h.get? b = some u → h'.get? b = some u) (hp : h.objs.size ≤ a) (hn : H a = none) : Un fs ex H (upd H a o) h h' where
 keep := fun b u q _ _ _ => k b u q
 slot := fun b u q _ _ _ => ⟨u.slots, k b u q⟩
 free := fun b u q n _ => by rw [jA (Nat.ne_of_lt (Nat.lt_of_lt_of_le (Heap.lt_size q) hp))]; exact n
 there := fun b u q _ => ⟨u, k b u q⟩
 tups := fun b xs q => by rw [jA (jB q hn)]; exact q
 frzs := fun b u xs q => by rw [jA (jB q hn)]; exact q
 tbls := fun b ps q => ⟨#[], by rw [jA (jB q hn), q]; simp⟩
theorem Un.write (mu : Mut (H x)) (he : e = x ∨ H e = some (.own x)) (k : ∀ b u, b ≠ e → h.get? b = some u → h'.get? b = some u) (heo : ∃ u, h'.get? e = some u) : Un fs ex H (upd H x o) h h' := by
 have hx : ∀ b, H b = none → b ≠ x := fun b n z => by subst z; rw [n] at mu; exact mu
 have hb : ∀ b, H b = none → b ≠ e := fun b n z => by
   subst z
   rcases he with r | r
   · exact hx b n r
   · rw [n] at r; cases r
 have hm : ∀ b u, H b = some u → ¬ Mut (some u) → b ≠ x := fun b u q nm z => by subst z; rw [q] at mu; exact nm mu
 refine ⟨fun b u q n _ _ => k b u (hb b n) q, fun b u q n _ _ => ⟨u.slots, k b u (hb b n) q⟩, fun b u q n _ => by rw [jA (hx b n)]; exact n, fun b u q _ => ?_,
   fun b xs q => by rw [jA (hm b _ q fun z => z)]; exact q, fun b u xs q => by rw [jA (hm b _ q fun z => z)]; exact q, fun b ps q => ⟨#[], by rw [jA (hm b _ q fun z => z), q]; simp⟩⟩
 by_cases hbe : b = e
 · subst hbe; exact heo
 · exact ⟨u, k b u hbe q⟩
end
noncomputable def trk (h : Heap) (H : Hp) : List Addr := (List.range h.objs.size).filter fun a => (H a).isSome
noncomputable def hidT (h : Heap) (H : Hp) : Heap := PySem.W.hideAll h (trk h H)
theorem hidT_size (h : Heap) (H : Hp) : (hidT h H).objs.size = h.objs.size := PySem.W.hideAll_size _ _
theorem hidT_get {h : Heap} {H : Hp} {b : Addr} {o : Obj} (e : h.get? b = some o) (n : H b = none) : (hidT h H).get? b = some o :=
 PySem.W.hideAll_get _ e fun hm => by
   have q : (H b).isSome = true := (List.mem_filter.mp hm).2
   rw [n] at q; simp at q
theorem of_hidT {h : Heap} {H : Hp} {b : Addr} {o : Obj} (e : (hidT h H).get? b = some o) : h.get? b = some o ∧ H b = none := by
 have e' : h.get? b = some o := PySem.W.of_hideAll (trk h H) e
 refine ⟨e', ?_⟩
 cases q : H b with
 | none => rfl
 | some x =>
   have hm : b ∈ trk h H := List.mem_filter.mpr ⟨List.mem_range.mpr (Heap.lt_size e'), by simp [q]⟩
   have z : (hidT h H).get? b = none := PySem.W.hideAll_none (trk h H) hm
   rw [z] at e; cases e
end L2
namespace L2
open PySem PySem.Spec PyProof.Rows
structure Mod (K : W.Frag) (mg : Str → Option Value) (base : Heap) : Prop where
 kin : K.In base
 glob : base.Ns mainGlobals mg
 blt : ∃ mb, base.Ns builtinsNs mb ∧ ∀ x : Str, x ≠ "__name__" → mb x = bootBuiltins x
 nolimit : base.NoLimit
structure Cx where
 prog : Program
 w : World
 K : W.Frag
 mg : Str → Option Value
 base : Heap
 A : Around
 N : List Str
 s₀ : Shared
 H₀ : Hp
 env : Env
 outer : List Env
 stack : List Env
 ex : List Addr
 fn : Str → Bool
 calm : Bool
 pn : List (Addr × Obj)
 xe : Value → Shared → Prop
noncomputable def frs (l : List Env) : List Addr := l.filterMap (·.frame)
noncomputable abbrev Cx.fs (X : Cx) : List Addr := frs X.outer
noncomputable def Vis (sc : Scope) (x : Str) : Prop := sc.names.lookup x = some .local ∨ sc.names.lookup x = some .cell ∨ sc.names.lookup x = some .free
noncomputable def Loc (sc : Scope) (x : Str) : Prop := sc.names.lookup x = some .local ∨ sc.names.lookup x = some .cell
noncomputable def Look (env : Env) (h : Heap) (m : Str → Option Value) (x : Str) (u : Value) : Prop :=
 (env.kindOf x = some .local ∧ m x = some u) ∨ ((env.kindOf x = some .cell ∨ env.kindOf x = some .free) ∧ ∃ c, env.cells.lookup x = some c ∧ h.IsCell c (some u))
structure Cx.Ok (X : Cx) : Prop where
 mod : Mod X.K X.mg X.base
 kind : X.env.scope.kind = .function
 glob : X.env.globals = mainGlobals
 blt : X.env.builtins = builtinsNs
 above : X.s₀.heap.objs.size ≤ X.env.locals
 inj : ∀ x y c, X.env.cells.lookup x = some c → X.env.cells.lookup y = some c → x = y
 has : ∀ x, (X.env.kindOf x = some .cell ∨ X.env.kindOf x = some .free) → ∃ c, X.env.cells.lookup x = some c
 cab : ∀ x c, X.fn x = true → X.env.cells.lookup x = some c → X.s₀.heap.objs.size ≤ c
 hd : X.calm = true → X.A.handled = none
 frames : X.A.frames = some X.stack
 stk : X.stack = X.outer ∨ (X.stack = X.env :: X.outer ∧ X.env.frame = some X.env.locals)
 exf : ∀ b ∈ X.ex, b ≠ X.env.locals ∧ ∀ x c, X.env.cells.lookup x = some c → c ≠ b
 bs : ∀ b o, X.base.get? b = some o → X.s₀.heap.get? b = some o ∧ X.H₀ b = none
 bsz : X.base.objs.size ≤ X.s₀.heap.objs.size
 noex : ∀ b o, X.base.get? b = some o → b ∉ X.ex
 exfs : ∀ b ∈ X.ex, b ∉ X.fs
 funs : X.s₀.heap.FunFrames X.base X.outer
 frf : ∀ b ∈ X.fs, X.H₀ b = none
structure Inv (X : Cx) (pins : List (Addr × Obj)) (σ : List (Option V)) (H : Hp) (s : Shared) : Prop where
 ok : X.Ok
 os : s.os = X.s₀.os
 bare : AllBare s.gens
 base : Un X.fs X.ex X.H₀ H X.s₀.heap s.heap
 loc : ∃ m, s.heap.Ns X.env.locals m ∧ ∀ (i : Nat) (x : Str) (v : V), X.N[i]? = some x → σ[i]? = some (some v) → Vis X.env.scope x → ∃ u, RelV v u ∧ Look X.env s.heap m x u
 cell : ∀ x c, X.env.cells.lookup x = some c → ∃ v, s.heap.IsCell c v
 free : H X.env.locals = none
 freeC : ∀ x c, X.env.cells.lookup x = some c → H c = none
 pin : ∀ p ∈ X.pn ++ pins, s.heap.get? p.1 = some p.2 ∧ H p.1 = none ∧ p.1 ≠ X.env.locals ∧ p.1 ∉ X.fs ∧ ∀ v, p.2.data ≠ .cell v
 hok : HOk X.prog X.w H s.heap
 len : σ.length = X.N.length
section
variable {X : Cx} {pins : List (Addr × Obj)} {σ : List (Option V)} {H H' : Hp} {s : Shared} {h' : Heap}
theorem Cx.Ok.nofr (ok : X.Ok) {b : Addr} {o : Obj} (e : X.base.get? b = some o) : b ∉ X.fs := fun hb => by
 have := (ok.funs.mem hb).1
 rw [e] at this; cases this
theorem Inv.bs (I : Inv X pins σ H s) : ∀ b o, X.base.get? b = some o → s.heap.get? b = some o ∧ H b = none := fun b o e =>
 ⟨I.base.keep b o (I.ok.bs b o e).1 (I.ok.bs b o e).2 (I.ok.nofr e) (I.ok.noex b o e), I.base.free b o (I.ok.bs b o e).1 (I.ok.bs b o e).2 (I.ok.noex b o e)⟩
theorem Inv.bk (I : Inv X pins σ H s) : ∀ b o, X.base.get? b = some o → s.heap.get? b = some o := fun b o e => (I.bs b o e).1
theorem Inv.mod (I : Inv X pins σ H s) : Mod X.K X.mg X.base := I.ok.mod
theorem Inv.kIn (I : Inv X pins σ H s) : X.K.In s.heap := I.ok.mod.kin.keeps I.bk
theorem Inv.lt (I : Inv X pins σ H s) : X.env.locals < s.heap.objs.size := let ⟨_, hn, _⟩ := I.loc; hn.lt
theorem Inv.sz (I : Inv X pins σ H s) : X.s₀.heap.objs.size ≤ s.heap.objs.size := Nat.le_trans I.ok.above (Nat.le_of_lt I.lt)
theorem Inv.nofs (I : Inv X pins σ H s) {a : Addr} (h : s.heap.objs.size ≤ a) : a ∉ X.fs := fun hb => by
 obtain ⟨_, o, ho, _⟩ := I.ok.funs.mem hb
 exact absurd (Nat.lt_of_lt_of_le (Heap.lt_size ho) (Nat.le_trans I.sz h)) (Nat.lt_irrefl _)
theorem Inv.cne (I : Inv X pins σ H s) : ∀ x c, X.env.cells.lookup x = some c → c ≠ X.env.locals := fun x c e z => by
 obtain ⟨v, o, ho, hd⟩ := I.cell x c e
 obtain ⟨m, ⟨o', es, ep, ho', hd', _⟩, _⟩ := I.loc
 rw [z, ho'] at ho; cases ho; rw [hd'] at hd; cases hd
theorem Inv.funs (I : Inv X pins σ H s) : s.heap.FunFrames X.base X.outer := by
 have all : ∀ (l : List Env), (∀ b ∈ frs l, b ∈ X.fs) → X.s₀.heap.FunFrames X.base l → s.heap.FunFrames X.base l := by
   intro l
   induction l with
   | nil => intro _ _; trivial
   | cons env r ih =>
     intro hs hl
     obtain ⟨hk, ⟨L, o, hf, hn, ho, hd⟩, hr⟩ := hl
     have hL : L ∈ X.fs := hs L (by unfold frs; rw [List.filterMap_cons, hf]; exact List.mem_cons_self)
     obtain ⟨sl, e⟩ := I.base.slot L o ho (I.ok.frf L hL) hL fun z => I.ok.exfs L z hL
     exact ⟨hk, ⟨L, _, hf, hn, e, hd⟩, ih (fun b hb => hs b (by unfold frs; rw [List.filterMap_cons, hf]; exact List.mem_cons_of_mem _ hb)) hr⟩
 exact all X.outer (fun _ hb => hb) I.ok.funs
theorem Inv.stack (I : Inv X pins σ H s) : s.heap.FunFrames X.base X.stack := by
 rcases I.ok.stk with e | ⟨e, hf⟩
 · rw [e]; exact I.funs
 · rw [e]
   obtain ⟨m, hn, _⟩ := I.loc
   refine .cons (by rw [I.ok.kind]; decide) hf hn ?_ I.funs
   exact Heap.get?_none_of_le (Nat.le_trans I.ok.bsz I.ok.above)
theorem Inv.stkSub (I : Inv X pins σ H s) : ∀ b ∈ frs X.stack, b ∈ X.env.locals :: X.fs := fun b hb => by
 rcases I.ok.stk with e | ⟨e, hf⟩
 · rw [e] at hb; exact List.mem_cons_of_mem _ hb
 · rw [e] at hb
   unfold frs at hb
   rw [List.filterMap_cons, hf] at hb
   exact hb
theorem Inv.stkFree (I : Inv X pins σ H s) : ∀ b ∈ frs X.stack, H b = none := fun b hb => by
 rcases List.mem_cons.mp (I.stkSub b hb) with e | hb
 · rw [e]; exact I.free
 · obtain ⟨_, o, ho, _⟩ := I.ok.funs.mem hb
   exact I.base.free b o ho (I.ok.frf b hb) fun z => I.ok.exfs b z hb
theorem Inv.step {g' : Array GenState} {t' : Nat} {d' : Drawn} {ch : List Addr} (I : Inv X pins σ H s)
   (hch : ∀ b ∈ ch, (b ∈ X.ex ∨ X.s₀.heap.objs.size ≤ b) ∧ b ≠ X.env.locals ∧ (∀ x c, X.env.cells.lookup x = some c → c ≠ b) ∧ ∀ p ∈ X.pn ++ pins, p.1 ≠ b)
   (keep : ∀ b o, b ≠ X.env.locals → b ∉ X.fs → b ∉ ch → s.heap.get? b = some o → H b = none → h'.get? b = some o)
   (slot : ∀ b o, b ≠ X.env.locals → b ∈ X.fs → b ∉ ch → s.heap.get? b = some o → H b = none → ∃ sl, h'.get? b = some { o with slots := sl }) (free : ∀ b o, b ∉ ch → s.heap.get? b = some o → H b = none → H' b = none)
   (there : ∀ b o, b ∉ ch → s.heap.get? b = some o → ∃ o', h'.get? b = some o')
   (tups : ∀ b xs, H b = some (.tup xs) → H' b = some (.tup xs)) (frzs : ∀ b o u, H b = some (.frz o u) → H' b = some (.frz o u)) (tbls : ∀ b ps, H b = some (.tbl ps) → ∃ more, H' b = some (.tbl (ps ++ more)))
   (ns : ∀ m, s.heap.Ns X.env.locals m → h'.Ns X.env.locals m) (hok : HOk X.prog X.w H' h') (hg : AllBare g') :
   Inv X pins σ H' { s with heap := h', gens := g', drawn := d', toks := t' } := by
 have neL : ∀ b o, X.s₀.heap.get? b = some o → b ≠ X.env.locals := fun b o e => Nat.ne_of_lt (Nat.lt_of_lt_of_le (Heap.lt_size e) I.ok.above)
 have neC : ∀ b o, X.s₀.heap.get? b = some o → b ∉ X.ex → b ∉ ch := fun b o e hx hb => by
   rcases (hch b hb).1 with z | z
   · exact hx z
   · exact absurd (Nat.lt_of_lt_of_le (Heap.lt_size e) z) (Nat.lt_irrefl _)
 have cellK : ∀ x c, X.env.cells.lookup x = some c → ∀ v, s.heap.IsCell c v → h'.IsCell c v := fun x c e v ⟨o, ho, hd⟩ => by
   have nch : c ∉ ch := fun z => (hch c z).2.2.1 x c e rfl
   by_cases hc : c ∈ X.fs
   · obtain ⟨sl, q⟩ := slot c o (I.cne x c e) hc nch ho (I.freeC x c e)
     exact ⟨_, q, hd⟩
   · exact ⟨o, keep c o (I.cne x c e) hc nch ho (I.freeC x c e), hd⟩
 refine ⟨I.ok, I.os, hg, ⟨fun b o e n hb hx => ?_, fun b o e n hb hx => ?_, fun b o e n hx => ?_, fun b o e hx => ?_, fun b xs e => tups b xs (I.base.tups b xs e), fun b o xs e => frzs b o xs (I.base.frzs b o xs e), fun b ps e => ?_⟩, ?_, fun x c e => ?_, ?_, fun x c e => ?_, fun p hp => ?_, hok, I.len⟩
 · exact keep b o (neL b o e) hb (neC b o e hx) (I.base.keep b o e n hb hx) (I.base.free b o e n hx)
 · obtain ⟨sl, e1⟩ := I.base.slot b o e n hb hx
   obtain ⟨sl', e2⟩ := slot b _ (neL b o e) hb (neC b o e hx) e1 (I.base.free b o e n hx)
   exact ⟨sl', e2⟩
 · obtain ⟨o', e1⟩ := I.base.there b o e hx
   exact free b o' (neC b o e hx) e1 (I.base.free b o e n hx)
 · obtain ⟨o', e1⟩ := I.base.there b o e hx
   exact there b o' (neC b o e hx) e1
 · obtain ⟨m1, e1⟩ := I.base.tbls b ps e
   obtain ⟨m2, e2⟩ := tbls b _ e1
   exact ⟨m1 ++ m2, by rw [e2, Array.append_assoc]⟩
 · obtain ⟨m, hn, hl⟩ := I.loc
   refine ⟨m, ns m hn, fun i x v e1 e2 e3 => ?_⟩
   obtain ⟨u, r, l⟩ := hl i x v e1 e2 e3
   refine ⟨u, r, ?_⟩
   rcases l with l | ⟨k, c, e, z⟩
   · exact .inl l
   · exact .inr ⟨k, c, e, cellK x c e _ z⟩
 · obtain ⟨v, z⟩ := I.cell x c e
   exact ⟨v, cellK x c e v z⟩
 · obtain ⟨m, ⟨o, _, _, ho, _⟩, _⟩ := I.loc
   exact free _ o (fun z => (hch _ z).2.1 rfl) ho I.free
 · obtain ⟨v, o, ho, hd⟩ := I.cell x c e
   exact free c o (fun z => (hch c z).2.2.1 x c e rfl) ho (I.freeC x c e)
 · obtain ⟨e, n, ne, nf, d⟩ := I.pin p hp
   have nch : p.1 ∉ ch := fun z => (hch p.1 z).2.2.2 p hp rfl
   exact ⟨keep p.1 p.2 ne nf nch e n, free p.1 p.2 nch e n, ne, nf, d⟩
theorem Inv.un {t' : Nat} (I : Inv X pins σ H s) (u : Un X.fs [] H H' s.heap h') (hok : HOk X.prog X.w H' h') : Inv X pins σ H' { s with heap := h', toks := t' } := by
 obtain ⟨m, ⟨o, es, ep, ho, r⟩, _⟩ := id I.loc
 obtain ⟨sl, hL⟩ := u.any ho I.free (by simp)
 exact I.step (g' := s.gens) (d' := s.drawn) (ch := []) (fun _ z => nomatch z) (fun b o _ hb _ e n => u.keep b o e n hb (by simp)) (fun b o _ hb _ e n => u.slot b o e n hb (by simp)) (fun b o _ e n => u.free b o e n (by simp)) (fun b o _ e => u.there b o e (by simp)) u.tups u.frzs u.tbls (fun m' hm => by
   obtain ⟨o', es', ep', ho', r'⟩ := hm
   rw [ho] at ho'; cases ho'
   exact ⟨_, es', ep', hL, r'⟩) hok I.bare
theorem Inv.call {g' : Array GenState} {t' : Nat} {d' : Drawn} {ch : List Addr} (I : Inv X pins σ H s) (u : Un (frs X.stack) ch H H' s.heap h') (hok : HOk X.prog X.w H' h') (hg : AllBare g')
   (hch : ∀ b ∈ ch, (b ∈ X.ex ∨ X.s₀.heap.objs.size ≤ b) ∧ b ≠ X.env.locals ∧ (∀ x c, X.env.cells.lookup x = some c → c ≠ b) ∧ ∀ p ∈ X.pn ++ pins, p.1 ≠ b) :
   Inv X pins σ H' { s with heap := h', gens := g', drawn := d', toks := t' } := by
 obtain ⟨m, ⟨o, es, ep, ho, r⟩, _⟩ := id I.loc
 obtain ⟨sl, hL⟩ := u.any ho I.free fun z => (hch _ z).2.1 rfl
 exact I.step (ch := ch) hch (fun b o hL hb hc e n => u.keep b o e n (fun z => (List.mem_cons.mp (I.stkSub b z)).elim hL hb) hc) (fun b o _ _ hc e n => u.any e n hc) (fun b o hc e n => u.free b o e n hc) (fun b o hc e => u.there b o e hc) u.tups u.frzs u.tbls (fun m' hm => by
   obtain ⟨o', es', ep', ho', r'⟩ := hm
   rw [ho] at ho'; cases ho'
   exact ⟨_, es', ep', hL, r'⟩) hok hg
theorem Inv.turned {t' : Nat} {it : Addr} (I : Inv X pins σ H s) (k : ∀ b o, b ≠ it → s.heap.get? b = some o → h'.get? b = some o) (hn : H it = none) (hL : it ≠ X.env.locals)
   (h1 : it ∈ X.ex ∨ X.s₀.heap.objs.size ≤ it) (h2 : ∀ x c, X.env.cells.lookup x = some c → c ≠ it) (h3 : ∀ p ∈ X.pn ++ pins, p.1 ≠ it) : Inv X pins σ H { s with heap := h', toks := t' } := by
 have nit : ∀ b u, H b = some u → b ≠ it := fun b u e z => by rw [z, hn] at e; cases e
 refine I.step (g' := s.gens) (d' := s.drawn) (ch := [it]) (fun b hb => ?_) (fun b o _ _ hc e _ => k b o (fun z => hc (by simp [z])) e) (fun b o _ _ hc e _ => ⟨o.slots, k b o (fun z => hc (by simp [z])) e⟩) (fun _ _ _ _ n => n)
   (fun b o hc e => ⟨o, k b o (fun z => hc (by simp [z])) e⟩) (fun _ _ e => e) (fun _ _ _ e => e) (fun b ps e => ⟨#[], by rw [e]; simp⟩) (fun m hm => ?_) (fun b u e => ?_) I.bare
 · have e : b = it := by simpa using hb
   subst e
   exact ⟨h1, hL, h2, h3⟩
 · obtain ⟨o, es, ep, ho, r⟩ := hm
   exact ⟨o, es, ep, k _ o (Ne.symm hL) ho, r⟩
 · refine (I.hok b u e).stay (fun c v hc q => k c v ?_ q) (fun _ q => q) fun _ _ q => q
   rcases hc with z | z
   · rw [z]; exact nit b u e
   · exact nit c _ z
theorem Inv.tok (I : Inv X pins σ H s) (t : Nat) : Inv X pins σ H { s with toks := t } := I.un (h' := s.heap) (t' := t) Un.refl I.hok
theorem Inv.kept {t' : Nat} (I : Inv X pins σ H s) (k : ∀ b u, s.heap.get? b = some u → h'.get? b = some u) : Inv X pins σ H { s with heap := h', toks := t' } := I.un (Un.kept k) (I.hok.kept k)
theorem Inv.laid {a : Addr} {o : HO} {t' : Nat} (I : Inv X pins σ H s) (k : ∀ b u, s.heap.get? b = some u → h'.get? b = some u) (hp : s.heap.objs.size ≤ a) (new : ObjOk X.prog X.w (upd H a o) h' a o) :
   Inv X pins σ (upd H a o) { s with heap := h', toks := t' } := I.un (Un.laid k hp (I.hok.fresh hp)) (I.hok.laid k hp new)
theorem Inv.write {x e : Addr} {o : HO} {t' : Nat} (I : Inv X pins σ H s) (mu : Mut (H x)) (he : e = x ∨ H e = some (.own x)) (k : ∀ b u, b ≠ e → s.heap.get? b = some u → h'.get? b = some u) (heo : ∃ u, h'.get? e = some u)
   (new : ObjOk X.prog X.w (upd H x o) h' x o) : Inv X pins σ (upd H x o) { s with heap := h', toks := t' } := I.un (Un.write mu he k heo) (I.hok.write mu he k heo new)
theorem Inv.pins_of {pins' : List (Addr × Obj)} (I : Inv X pins σ H s) (h : ∀ p ∈ pins', s.heap.get? p.1 = some p.2 ∧ H p.1 = none ∧ p.1 ≠ X.env.locals ∧ p.1 ∉ X.fs ∧ ∀ v, p.2.data ≠ .cell v) : Inv X pins' σ H s :=
 ⟨I.ok, I.os, I.bare, I.base, I.loc, I.cell, I.free, I.freeC, fun p hp => (List.mem_append.mp hp).elim (fun z => I.pin p (List.mem_append_left _ z)) (h p), I.hok, I.len⟩
theorem nodup_ix {N : List Str} (hN : N.Nodup) {i j : Nat} {x : Str} (a : N[i]? = some x) (b : N[j]? = some x) : i = j := by
 obtain ⟨h1, e1⟩ := List.getElem?_eq_some_iff.mp a
 obtain ⟨h2, e2⟩ := List.getElem?_eq_some_iff.mp b
 exact (List.getElem_inj hN).mp (e1.trans e2.symm)
theorem store_ok2 {M : Model} {A : Around} {E : Value → Shared → Prop} {i : Nat} {x : Str} {v : V} {u : Value} {Q : Unit → Shared → Prop} (I : Inv X pins σ H s) (hN : X.N.Nodup) (hi : X.N[i]? = some x) (hx : Loc X.env.scope x) (r : RelV v u)
   (h : ∀ s', Inv X pins (σ.set i (some v)) H s' → (∃ a, Heap.SameBut a s.heap s'.heap ∧ (a = X.env.locals ∨ X.env.cells.lookup x = some a)) → Q () s') (hf : X.fn x = true ∨ X.env.scope.names.lookup x = some .local := by first | exact .inl rfl | exact .inr rfl | assumption) : wpAny M A (storeName X.env x u) Q E s := by
 obtain ⟨m, hn, hl⟩ := id I.loc
 have hcls : (X.env.scope.kind == .class || (X.env.scope.kind == .module && X.env.locals != X.env.globals)) = false := by rw [I.ok.kind]; rfl
 have hiσ : i < σ.length := by rw [I.len]; exact (List.getElem?_eq_some_iff.mp hi).1
 have cne := I.cne
 have tracked : ∀ {a : Addr} {h' : Heap}, (∃ o, s.heap.get? a = some o ∧ H a = none) → Heap.SameBut a s.heap h' → HOk X.prog X.w H h' := fun {a h'} ha hs b ob e => by
   obtain ⟨_, _, hfree⟩ := ha
   refine (I.hok b ob e).stay (fun c w' hc q => (hs.2 c ?_).trans q) (fun _ q => q) fun _ _ q => q
   rintro rfl
   rcases hc with rfl | hc
   · rw [hfree] at e; cases e
   · rw [hfree] at hc; cases hc
 rcases hx with hk | hk
 · refine wpAny_storeName_local hk hn (fun h' hn' hs => ?_) hcls
   obtain ⟨oL, _, _, hoL, _⟩ := id hn
   refine h _ ⟨I.ok, I.os, I.bare, ⟨fun b o e n hb hx => ?_, fun b o e n hb hx => ?_, I.base.free, fun b o e hx => ?_, I.base.tups, I.base.frzs, I.base.tbls⟩, ⟨_, hn', fun j y v' e1 e2 e3 => ?_⟩, fun y c e => ?_, I.free, I.freeC, fun p hp => ?_, tracked ⟨oL, hoL, I.free⟩ hs, by simpa using I.len⟩ ⟨_, hs, .inl rfl⟩
   · exact (hs.2 b (Nat.ne_of_lt (Nat.lt_of_lt_of_le (Heap.lt_size e) I.ok.above))).trans (I.base.keep b o e n hb hx)
   · obtain ⟨sl, e1⟩ := I.base.slot b o e n hb hx
     exact ⟨sl, (hs.2 b (Nat.ne_of_lt (Nat.lt_of_lt_of_le (Heap.lt_size e) I.ok.above))).trans e1⟩
   · obtain ⟨o', e1⟩ := I.base.there b o e hx
     exact ⟨o', (hs.2 b (Nat.ne_of_lt (Nat.lt_of_lt_of_le (Heap.lt_size e) I.ok.above))).trans e1⟩
   · by_cases hj : j = i
     · subst hj
       rw [hi] at e1; cases e1
       rw [List.getElem?_set_self hiσ] at e2
       cases e2
       exact ⟨u, r, .inl ⟨hk, by simp⟩⟩
     · rw [List.getElem?_set_ne (Ne.symm hj)] at e2
       obtain ⟨u', r', q⟩ := hl j y v' e1 e2 e3
       refine ⟨u', r', ?_⟩
       rcases q with ⟨k, e⟩ | ⟨k, c, e, z⟩
       · refine .inl ⟨k, ?_⟩
         have : y ≠ x := fun e => hj (nodup_ix hN e1 (e ▸ hi))
         simp [this, e]
       · exact .inr ⟨k, c, e, z.sameBut hs (cne y c e)⟩
   · obtain ⟨w', z⟩ := I.cell y c e
     exact ⟨w', z.sameBut hs (cne y c e)⟩
   · obtain ⟨e, n, ne, nf, d⟩ := I.pin p hp
     exact ⟨(hs.2 p.1 ne).trans e, n, ne, nf, d⟩
 · have hfn : X.fn x = true := by
     rcases hf with z | z
     · exact z
     · rw [z] at hk; cases hk
   obtain ⟨c, hc⟩ := I.ok.has x (.inl hk)
   obtain ⟨w', z⟩ := I.cell x c hc
   refine wpAny_storeName_cell I.ok.kind hk hc z (fun h' hc' hs => ?_)
   obtain ⟨oc, hoc, hocd⟩ := id z
   refine h { s with heap := h' } ⟨I.ok, I.os, I.bare, ⟨fun b o e n hb hx => ?_, fun b o e n hb hx => ?_, I.base.free, fun b o e hx => ?_, I.base.tups, I.base.frzs, I.base.tbls⟩, ⟨m, hn.sameBut hs (Ne.symm (cne x c hc)), fun j y v' e1 e2 e3 => ?_⟩, fun y c' e => ?_, I.free, I.freeC, fun p hp => ?_, tracked ⟨oc, hoc, I.freeC x c hc⟩ hs, by simpa using I.len⟩ ⟨c, hs, .inr hc⟩
   · exact (hs.2 b (Nat.ne_of_lt (Nat.lt_of_lt_of_le (Heap.lt_size e) (I.ok.cab x c hfn hc)))).trans (I.base.keep b o e n hb hx)
   · obtain ⟨sl, e1⟩ := I.base.slot b o e n hb hx
     exact ⟨sl, (hs.2 b (Nat.ne_of_lt (Nat.lt_of_lt_of_le (Heap.lt_size e) (I.ok.cab x c hfn hc)))).trans e1⟩
   · obtain ⟨o', e1⟩ := I.base.there b o e hx
     exact ⟨o', (hs.2 b (Nat.ne_of_lt (Nat.lt_of_lt_of_le (Heap.lt_size e) (I.ok.cab x c hfn hc)))).trans e1⟩
   · by_cases hj : j = i
     · subst hj
       rw [hi] at e1; cases e1
       rw [List.getElem?_set_self hiσ] at e2
       cases e2
       exact ⟨u, r, .inr ⟨.inl hk, c, hc, hc'⟩⟩
     · rw [List.getElem?_set_ne (Ne.symm hj)] at e2
       obtain ⟨u', r', q⟩ := hl j y v' e1 e2 e3
       refine ⟨u', r', ?_⟩
       rcases q with q | ⟨k, c', e, z'⟩
       · exact .inl q
       · refine .inr ⟨k, c', e, z'.sameBut hs ?_⟩
         rintro rfl
         exact hj (nodup_ix hN e1 (I.ok.inj _ _ _ e hc ▸ hi))
   · by_cases hcc : c' = c
     · subst hcc; exact ⟨_, hc'⟩
     · obtain ⟨w2, z2⟩ := I.cell y c' e
       exact ⟨w2, z2.sameBut hs hcc⟩
   · obtain ⟨e, n, ne, nf, d⟩ := I.pin p hp
     refine ⟨(hs.2 p.1 ?_).trans e, n, ne, nf, d⟩
     intro q
     rw [q, hoc] at e
     have q' : oc = p.2 := Option.some.inj e
     exact d w' (by rw [← q']; exact hocd)
theorem store_ok {M : Model} {A : Around} {E : Value → Shared → Prop} {i : Nat} {x : Str} {v : V} {u : Value} {Q : Unit → Shared → Prop} (I : Inv X pins σ H s) (hN : X.N.Nodup) (hi : X.N[i]? = some x) (hx : Loc X.env.scope x) (r : RelV v u)
   (h : ∀ s', Inv X pins (σ.set i (some v)) H s' → Q () s') (hf : X.fn x = true ∨ X.env.scope.names.lookup x = some .local := by first | exact .inl rfl | exact .inr rfl | assumption) : wpAny M A (storeName X.env x u) Q E s :=
 store_ok2 I hN hi hx r (fun s' I' _ => h s' I') hf
theorem Inv.call' {s' : Shared} {ch : List Addr} (I : Inv X pins σ H s) (ho : s'.os = s.os) (u : Un (frs X.stack) ch H H' s.heap s'.heap) (hok : HOk X.prog X.w H' s'.heap) (hg : AllBare s'.gens)
   (hch : ∀ b ∈ ch, (b ∈ X.ex ∨ X.s₀.heap.objs.size ≤ b) ∧ b ≠ X.env.locals ∧ (∀ x c, X.env.cells.lookup x = some c → c ≠ b) ∧ ∀ p ∈ X.pn ++ pins, p.1 ≠ b) : Inv X pins σ H' s' := by
 obtain ⟨h', g', d', t', o'⟩ := s'
 have e : o' = s.os := ho
 subst e
 exact I.call (g' := g') (t' := t') (d' := d') u hok hg hch
end
noncomputable abbrev XK := Value → Option Addr → Hp → Prop
noncomputable abbrev St := List (Option V)
noncomputable abbrev VK := V → Hp → Prop
noncomputable abbrev TE := St → Hp → VK → Prop
noncomputable abbrev TT := St → Hp → (Bool → Hp → Prop) → Prop
noncomputable abbrev TA := St → Hp → (List V → Hp → Prop) → Prop
structure Ends where
 nx : St → Hp → Prop
 rt : VK
 bk : St → Hp → Prop := fun _ _ => False
 ct : St → Hp → Prop := fun _ _ => False
noncomputable abbrev TS := Ends → St → Hp → Prop
noncomputable def EP (X : Cx) (pins : List (Addr × Obj)) (σ : St) (Q : VK) (u : Value) (s' : Shared) : Prop := ∃ v H', Inv X pins σ H' s' ∧ RelV v u ∧ Q v H'
noncomputable def TP (X : Cx) (pins : List (Addr × Obj)) (σ : St) (Q : Bool → Hp → Prop) (b : Bool) (s' : Shared) : Prop := ∃ H', Inv X pins σ H' s' ∧ Q b H'
noncomputable def AP (X : Cx) (pins : List (Addr × Obj)) (σ : St) (Q : List V → Hp → Prop) (us : List Value) (s' : Shared) : Prop := ∃ vs H', Inv X pins σ H' s' ∧ Vals vs us ∧ Q vs H'
noncomputable def SP (X : Cx) (pins : List (Addr × Obj)) (D : Ends) (f : Flow) (s' : Shared) : Prop :=
 match f with
 | .next => ∃ σ' H', Inv X pins σ' H' s' ∧ D.nx σ' H'
 | .brk => ∃ σ' H', Inv X pins σ' H' s' ∧ D.bk σ' H'
 | .cont => ∃ σ' H', Inv X pins σ' H' s' ∧ D.ct σ' H'
 | .ret u => ∃ v σ' H', Inv X pins σ' H' s' ∧ RelV v u ∧ D.rt v H'
noncomputable def PE (X : Cx) (e : Expr) (t : TE) : Prop :=
 ∀ (pins : List (Addr × Obj)) (s : Shared) (σ : St) (H : Hp) (Q : VK), Inv X pins σ H s → t σ H Q → wpAny (model X.prog X.w) X.A (eval e X.env) (EP X pins σ Q) X.xe s
noncomputable def PT (X : Cx) (e : Expr) (t : TT) : Prop :=
 ∀ (pins : List (Addr × Obj)) (s : Shared) (σ : St) (H : Hp) (Q : Bool → Hp → Prop), Inv X pins σ H s → t σ H Q → wpAny (model X.prog X.w) X.A (isTrue e X.env (eval e X.env)) (TP X pins σ Q) X.xe s
noncomputable def PW (X : Cx) (e : Expr) (t : TT) : Prop :=
 ∀ (whole : Sem Value) (pins : List (Addr × Obj)) (s : Shared) (σ : St) (H : Hp) (Q : Bool → Hp → Prop), Inv X pins σ H s → t σ H Q → wpAny (model X.prog X.w) X.A (isTrue e X.env whole) (TP X pins σ Q) X.xe s
theorem PW.pt {X : Cx} {e : Expr} {t : TT} (h : PW X e t) : PT X e t := h _
noncomputable def PA (X : Cx) (es : List Expr) (t : TA) : Prop :=
 ∀ (pos : Pos) (pins : List (Addr × Obj)) (s : Shared) (σ : St) (H : Hp) (Q : List V → Hp → Prop), Inv X pins σ H s → t σ H Q → wpAny (model X.prog X.w) X.A (spliced (backTo pos (starEach es X.env))) (AP X pins σ Q) X.xe s
noncomputable def PS (X : Cx) (st : Stmt) (t : TS) : Prop :=
 ∀ (pins : List (Addr × Obj)) (s : Shared) (σ : St) (H : Hp) (D : Ends), Inv X pins σ H s → t D σ H → wpAny (model X.prog X.w) X.A (exec st X.env) (SP X pins D) X.xe s
noncomputable def PSs (X : Cx) (st : List Stmt) (t : TS) : Prop :=
 ∀ (pins : List (Addr × Obj)) (s : Shared) (σ : St) (H : Hp) (D : Ends), Inv X pins σ H s → t D σ H → wpAny (model X.prog X.w) X.A (execs st X.env) (SP X pins D) X.xe s
theorem thn {α : Type} {t : Sem α} {Q Q' : α → Shared → Prop} {M : Model} {A : Around} {E : Value → Shared → Prop} {s : Shared} (h : wpAny M A t Q E s) (hQ : ∀ a s, Q a s → Q' a s) : wpAny M A t Q' E s := wpAny_mono h hQ fun _ _ x => x
end L2
namespace L2
open PySem PySem.Spec PyProof.Rows
section
variable {X : Cx}
noncomputable def tVar (i : Nat) : TE := fun σ H Q => ∃ v, σ[i]? = some (some v) ∧ Q v H
noncomputable def tC (v : V) : TE := fun _ H Q => Q v H
theorem pe_var {i : Nat} {x : Str} {pos : Pos} (hN : X.N[i]? = some x) (hv : Vis X.env.scope x) (hd : (x == ("__debug__" : Str)) = false := by decide) (hcd : (x == ("__classdict__" : Str)) = false := by decide) : PE X (.Name x pos) (tVar i) := by
 intro pins s σ H Q I h
 obtain ⟨v, e, h⟩ := h
 obtain ⟨m, hn, hl⟩ := I.loc
 obtain ⟨u, r, l⟩ := hl i x v hN e hv
 have fin : EP X pins σ Q u s := ⟨v, H, I, r, h⟩
 rcases l with ⟨hk, hm⟩ | ⟨hk, c, hc, hcell⟩
 · exact wpAny_Name (wpAny_loadName_local I.ok.kind hk hn hm fin) hd
 · rcases hk with hk | hk
   · exact wpAny_Name (wpAny_loadName_cell I.ok.kind hk hc hcell fin) hd
   · exact wpAny_Name (wpAny_loadName_free I.ok.kind hk hc hcell fin hcd) hd
theorem jL {i j pos} : PE X (.Constant (.int i) j pos) (tC (.int i)) := fun _ _ _ H _ I h => wpAny_Constant_int ⟨.int i, H, I.tok _, ⟨_, rfl⟩, h⟩
theorem pe_bl {b j pos} : PE X (.Constant (.bool b) j pos) (tC (.bl b)) := fun _ _ _ H _ I h => Constant_bool ⟨.bl b, H, I, rfl, h⟩
theorem pe_non {j pos} : PE X (.Constant .none j pos) (tC .non) := fun _ _ _ H _ I h => Constant_none ⟨.non, H, I, rfl, h⟩
theorem pe_str {x j pos} : PE X (.Constant (.str x) j pos) (tC (.str x)) := fun _ _ _ H _ I h => Calls.Constant_str ⟨.str x, H, I.tok _, ⟨_, rfl⟩, h⟩
noncomputable def Gl (X : Cx) (x : Str) : Prop := X.env.kindOf x = some .globalImplicit
theorem ld_glob {E : Value → Shared → Prop} {pins : List (Addr × Obj)} {s : Shared} {σ : St} {H : Hp} {x : Str} {u : Value} {pos : Pos} {Q : Value → Shared → Prop} (I : Inv X pins σ H s) (hg : Gl X x) (hm : X.mg x = some u) (h : Q u s)
   (hd : (x == ("__debug__" : Str)) = false := by decide) : wpAny (model X.prog X.w) X.A (eval (.Name x pos) X.env) Q E s :=
 Calls.Name_function_global I.ok.kind hg (Calls.loadGlobal_global (by rw [I.ok.glob]; exact I.mod.glob.keeps I.bk) hm h) hd
theorem ld_blt {E : Value → Shared → Prop} {pins : List (Addr × Obj)} {s : Shared} {σ : St} {H : Hp} {x : Str} {u : Value} {pos : Pos} {Q : Value → Shared → Prop} (I : Inv X pins σ H s) (hg : Gl X x) (hm : X.mg x = none) (hv : bootBuiltins x = some u) (h : Q u s)
   (hn : x ≠ "__name__" := by decide) (hd : (x == ("__debug__" : Str)) = false := by decide) : wpAny (model X.prog X.w) X.A (eval (.Name x pos) X.env) Q E s := by
 obtain ⟨mb, h1, h2⟩ := I.mod.blt
 exact Calls.Name_function_global I.ok.kind hg (Calls.loadGlobal_builtin (by rw [I.ok.glob]; exact I.mod.glob.keeps I.bk) hm (by rw [I.ok.blt]; exact h1.keeps I.bk) ((h2 x hn).trans hv) h) hd
theorem pe_glob {x : Str} {v : V} {u : Value} {pos : Pos} (hg : Gl X x) (hm : X.mg x = some u) (r : RelV v u) (hd : (x == ("__debug__" : Str)) = false := by decide) : PE X (.Name x pos) (tC v) :=
 fun _ _ _ H _ I h => ld_glob I hg hm ⟨v, H, I, r, h⟩ hd
theorem pe_bltn {x : Str} {v : V} {u : Value} {pos : Pos} (hg : Gl X x) (hm : X.mg x = none) (hv : bootBuiltins x = some u) (r : RelV v u) (hn : x ≠ "__name__" := by decide) (hd : (x == ("__debug__" : Str)) = false := by decide) : PE X (.Name x pos) (tC v) :=
 fun _ _ _ H _ I h => ld_blt I hg hm hv ⟨v, H, I, r, h⟩ hn hd
variable {a b : Expr} {ta tb : TE} {pos : Pos}
noncomputable def PC (X : Cx) (op : CmpOp) (a b : Expr) (t : TE) : Prop :=
 ∀ (pins : List (Addr × Obj)) (s : Shared) (σ : St) (H : Hp) (Q : VK), Inv X pins σ H s → t σ H Q →
   wpAny (model X.prog X.w) X.A (eval a X.env) (fun v s₁ => wpAny (model X.prog X.w) X.A (eval b X.env) (fun u s₂ => wpAny (model X.prog X.w) X.A (compareOp op v u) (EP X pins σ Q) X.xe s₂) X.xe s₁) X.xe s
noncomputable def tB (t : TE) : TT := fun σ H Q => t σ H fun x H1 => ∃ c, x = .bl c ∧ Q c H1
theorem pt_cmp {op : CmpOp} {t : TE} (h : PC X op a b t) (h1 : behindInMarks op b = false := by first | exact nobehind _ (by decide) (by decide) | rfl) : PT X (.Compare a [op] [b] pos) (tB t) := by
 intro pins s σ H Q I hw
 refine wpAny_isTrue_Compare1 (thn (h pins s σ H _ I hw) fun v s1 h1 => thn h1 fun u s2 h2 => thn h2 fun c s3 ⟨x, H1, I1, r1, q1⟩ => ?_) h1
 obtain ⟨d, rfl, q⟩ := q1
 cases r1
 exact wpAny_truthy_bool ⟨H1, I1, q⟩
theorem pt_val {e : Expr} {t : TE} (h : PE X e t) (he : ∀ whole, isTrue e X.env whole = (do let v ← whole; standAt e.pos; holding [v] (truthy v)) := by intro _; rfl) : PT X e (tB t) := by
 intro pins s σ H Q I hw
 refine isTrue_plain (thn (h pins s σ H _ I hw) fun v s1 ⟨x, H1, I1, r1, q1⟩ => ?_) (he _)
 obtain ⟨d, rfl, q⟩ := q1
 cases r1
 exact wpAny_truthy_bool ⟨H1, I1, q⟩
variable {tA tB' : TT} {rest : List Expr}
noncomputable def tOr (t u : TT) : TT := fun σ H Q => t σ H fun c H1 => if c = true then Q true H1 else u σ H1 Q
noncomputable def tNot (t : TT) : TT := fun σ H Q => t σ H fun c H1 => Q (!c) H1
theorem pw_or1 (ha : PT X a tA) : PW X (.BoolOp .Or [a] pos) tA := by
 intro wh pins s σ H Q I h
 refine isTrue_or (thn (ha pins s σ H Q I h) fun c s1 e => ?_)
 cases c with
 | false => exact isTrue_or_nil e
 | true => exact e
theorem pw_or (ha : PT X a tA) (hb : PW X (.BoolOp .Or (b :: rest) pos) tB') : PW X (.BoolOp .Or (a :: b :: rest) pos) (tOr tA tB') := by
 intro wh pins s σ H Q I h
 refine isTrue_or (thn (ha pins s σ H _ I h) fun c s1 ⟨H1, I1, q1⟩ => ?_)
 cases c with
 | true => exact ⟨H1, I1, q1⟩
 | false => exact hb wh pins s1 σ H1 Q I1 q1
theorem pt_not (ha : PT X a tA) : PT X (.UnaryOp .Not a pos) (tNot tA) := by
 intro pins s σ H Q I h
 exact isTrue_not (ha pins s σ H (fun c H1 => Q (!c) H1) I h)
noncomputable def tAndV (ta tb : TE) : TE := fun σ H Q => ta σ H fun x H1 => ∃ c, x = .bl c ∧ if c = true then tb σ H1 Q else Q (.bl false) H1
noncomputable def tOrV (ta tb : TE) : TE := fun σ H Q => ta σ H fun x H1 => ∃ c, x = .bl c ∧ if c = true then Q (.bl true) H1 else tb σ H1 Q
noncomputable def tNotV (ta : TE) : TE := fun σ H Q => ta σ H fun x H1 => ∃ c, x = .bl c ∧ Q (.bl (!c)) H1
theorem pe_one {op} {t : TE} (h : PE X a t) : PE X (.BoolOp op [a] pos) t := fun pins s σ H Q I hw => BoolOp_one (h pins s σ H Q I hw)
theorem pe_and (ha : PE X a ta) (hb : PE X (.BoolOp .And (b :: rest) pos) tb) : PE X (.BoolOp .And (a :: b :: rest) pos) (tAndV ta tb) := by
 intro pins s σ H Q I h
 refine BoolOp_and (thn (ha pins s σ H _ I h) fun v s1 ⟨x, H1, I1, r1, q1⟩ => ?_)
 obtain ⟨c, rfl, q1⟩ := q1
 cases r1
 refine wpAny_truthy_bool ?_
 cases c with
 | true => exact hb pins s1 σ H1 Q I1 q1
 | false => exact ⟨.bl false, H1, I1, rfl, q1⟩
theorem pe_or (ha : PE X a ta) (hb : PE X (.BoolOp .Or (b :: rest) pos) tb) : PE X (.BoolOp .Or (a :: b :: rest) pos) (tOrV ta tb) := by
 intro pins s σ H Q I h
 refine BoolOp_or (thn (ha pins s σ H _ I h) fun v s1 ⟨x, H1, I1, r1, q1⟩ => ?_)
 obtain ⟨c, rfl, q1⟩ := q1
 cases r1
 refine wpAny_truthy_bool ?_
 cases c with
 | false => exact hb pins s1 σ H1 Q I1 q1
 | true => exact ⟨.bl true, H1, I1, rfl, q1⟩
theorem pe_not (ha : PE X a ta) : PE X (.UnaryOp .Not a pos) (tNotV ta) := by
 intro pins s σ H Q I h
 refine UnaryOp_ (thn (ha pins s σ H _ I h) fun v s1 ⟨x, H1, I1, r1, q1⟩ => ?_)
 obtain ⟨c, rfl, q1⟩ := q1
 cases r1
 exact not_of (wpAny_truthy_bool ⟨.bl (!c), H1, I1, rfl, q1⟩)
end
end L2
namespace L2
open PySem PySem.Spec PyProof.Rows
noncomputable def SqL (K : W.Frag) (H : Hp) (a : Addr) (xs : List V) : Prop :=
 Rd H a (.lst xs) ∨
   ∃ (o : Obj) (its : Array Value) (n : Nat), K.lookup a = some o ∧ o.cls = .type "list" ∧ o.dict = none ∧ o.data = .seq its n ∧ its.size ≤ sizeLine ∧ Vals xs its.toList
noncomputable def SqT (K : W.Frag) (H : Hp) (a : Addr) (xs : List V) : Prop :=
 Rd H a (.tup xs) ∨
   ∃ (o : Obj) (its : Array Value) (n : Nat), K.lookup a = some o ∧ o.cls = .type "tuple" ∧ o.data = .seq its n ∧ its.size ≤ sizeLine ∧ Vals xs its.toList
noncomputable def absV : Value → Option V
 | .none => some .non
 | .bool b => some (.bl b)
 | .int i _ => some (.int i)
 | .str x _ => some (.str x)
 | .bytes b _ => some (.byt b)
 | .float b _ => some (.flt b)
 | .ref a => some (.ref a)
 | .type n => some (.ty n)
 | _ => none
theorem RelV.abs {x : V} {u : Value} (r : RelV x u) : absV u = some x := by
 cases x with
 | non => cases r; rfl
 | bl _ => cases r; rfl
 | int _ => obtain ⟨t, rfl⟩ := r; rfl
 | str _ => obtain ⟨t, rfl⟩ := r; rfl
 | byt _ => obtain ⟨t, rfl⟩ := r; rfl
 | flt _ => obtain ⟨t, rfl⟩ := r; rfl
 | ref _ => cases r; rfl
 | ty _ => cases r; rfl
theorem RelV.inj {x y : V} {u : Value} (r : RelV x u) (q : RelV y u) : x = y := Option.some.inj (r.abs.symm.trans q.abs)
theorem Vals.inj : ∀ {xs ys : List V} {us : List Value}, Vals xs us → Vals ys us → xs = ys
 | _, _, _, .nil, .nil => rfl
 | _, _, _, .cons r t, .cons r' t' => by rw [r.inj r', Vals.inj t t']
section
variable {X : Cx} {pins : List (Addr × Obj)} {σ : St} {H : Hp} {s : Shared} {a : Addr} {xs ys : List V}
theorem SqL.of {K : W.Frag} (h : H a = some (.lst xs)) : SqL K H a xs := .inl (.inl h)
theorem SqT.of {K : W.Frag} (h : H a = some (.tup xs)) : SqT K H a xs := .inl (.inl h)
theorem Inv.list (I : Inv X pins σ H s) (h : SqL X.K H a xs) : ∃ its : List Value, Vals xs its ∧ PlainL s.heap a its.toArray ∧ xs.length ≤ sizeLine := by
 rcases h with h | ⟨o, its, n, hk, hc, hd, hs, hz, r⟩
 · obtain ⟨z, its, n, r, e⟩ := h.ok I.hok
   exact ⟨its, r, ⟨_, n, e, rfl, rfl, rfl⟩, z⟩
 · refine ⟨its.toList, r, ⟨o, n, I.kIn a o hk, hc, hd, by simpa using hs⟩, ?_⟩
   have e := r.length
   simp only [Array.length_toList] at e
   lia
theorem Inv.tuple (I : Inv X pins σ H s) (h : SqT X.K H a xs) : ∃ its : List Value, Vals xs its ∧ IsTup s.heap a its.toArray ∧ xs.length ≤ sizeLine := by
 rcases h with h | ⟨o, its, n, hk, hc, hs, hz, r⟩
 · obtain ⟨z, its, r, p⟩ := h.ok I.hok
   exact ⟨its, r, p.isTup, z⟩
 · refine ⟨its.toList, r, ⟨o, I.kIn a o hk, hc, n, by simpa using hs⟩, ?_⟩
   have e := r.length
   simp only [Array.length_toList] at e
   lia
theorem Inv.list_inj (I : Inv X pins σ H s) (h : SqL X.K H a xs) (h' : SqL X.K H a ys) : xs = ys := by
 obtain ⟨its, r, ⟨o, n, e, _, _, d⟩, _⟩ := I.list h
 obtain ⟨its', r', ⟨o', n', e', _, _, d'⟩, _⟩ := I.list h'
 rw [e] at e'; cases e'
 rw [d] at d'
 injection d' with d1 _
 have : its = its' := by simpa using congrArg Array.toList d1
 subst this
 exact r.inj r'
theorem Inv.tuple_inj (I : Inv X pins σ H s) (h : SqT X.K H a xs) (h' : SqT X.K H a ys) : xs = ys := by
 obtain ⟨its, r, ⟨o, e, _, n, d⟩, _⟩ := I.tuple h
 obtain ⟨its', r', ⟨o', e', _, n', d'⟩, _⟩ := I.tuple h'
 rw [e] at e'; cases e'
 rw [d] at d'
 injection d' with d1 _
 have : its = its' := by simpa using congrArg Array.toList d1
 subst this
 exact r.inj r'
end
noncomputable abbrev Cx.wish (X : Cx) (E : Value → Shared → Prop) : Cx := { X with xe := E }
noncomputable abbrev Cx.nox (X : Cx) : Cx := X.wish fun _ _ => False
theorem Cx.Ok.wish {X : Cx} (ok : X.Ok) (E : Value → Shared → Prop) : (X.wish E).Ok :=
 ⟨ok.mod, ok.kind, ok.glob, ok.blt, ok.above, ok.inj, ok.has, ok.cab, ok.hd, ok.frames, ok.stk, ok.exf, ok.bs, ok.bsz, ok.noex, ok.exfs, ok.funs, ok.frf⟩
theorem Cx.Ok.unwish {X : Cx} {E : Value → Shared → Prop} (ok : (X.wish E).Ok) : X.Ok :=
 ⟨ok.mod, ok.kind, ok.glob, ok.blt, ok.above, ok.inj, ok.has, ok.cab, ok.hd, ok.frames, ok.stk, ok.exf, ok.bs, ok.bsz, ok.noex, ok.exfs, ok.funs, ok.frf⟩
section
variable {X : Cx} {pins : List (Addr × Obj)} {σ : St} {H : Hp} {s : Shared} {E : Value → Shared → Prop}
theorem Inv.wish (I : Inv X pins σ H s) (E : Value → Shared → Prop) : Inv (X.wish E) pins σ H s := ⟨I.ok.wish E, I.os, I.bare, I.base, I.loc, I.cell, I.free, I.freeC, I.pin, I.hok, I.len⟩
theorem Inv.unwish (I : Inv (X.wish E) pins σ H s) : Inv X pins σ H s := ⟨I.ok.unwish, I.os, I.bare, I.base, I.loc, I.cell, I.free, I.freeC, I.pin, I.hok, I.len⟩
theorem SP.unwish {D : Ends} {f : Flow} {s' : Shared} (h : SP (X.wish E) pins D f s') : SP X pins D f s' := by
 cases f with
 | next => obtain ⟨σ', H', I, q⟩ := h; exact ⟨σ', H', I.unwish, q⟩
 | brk => obtain ⟨σ', H', I, q⟩ := h; exact ⟨σ', H', I.unwish, q⟩
 | cont => obtain ⟨σ', H', I, q⟩ := h; exact ⟨σ', H', I.unwish, q⟩
 | ret u => obtain ⟨v, σ', H', I, r, q⟩ := h; exact ⟨v, σ', H', I.unwish, r, q⟩
theorem PT.nox {e : Expr} {t : TT} (h : PT X.nox e t) : PT X e t := fun pins s σ H Q I hw =>
 wpAny_mono (h pins s σ H Q (I.wish _) hw) (fun _ _ ⟨H', I', q⟩ => ⟨H', I'.unwish, q⟩) fun _ _ z => False.elim z
theorem PSs.nox {st : List Stmt} {t : TS} (h : PSs X.nox st t) : PSs X st t := fun pins s σ H D I hw =>
 wpAny_mono (h pins s σ H D (I.wish _) hw) (fun _ _ q => q.unwish) fun _ _ z => False.elim z
end
section
variable {X : Cx} {st : Stmt} {rest : List Stmt} {t u : TS} {e : Expr} {te : TE} {pos : Pos}
noncomputable def tNext : TS := fun D σ H => D.nx σ H
noncomputable def tSeq (t u : TS) : TS := fun D σ H => t { D with nx := u D } σ H
theorem pss_nil : PSs X [] tNext := fun _ _ σ H _ I h => wpAny_execs_nil ⟨σ, H, I, h⟩
theorem kG (h1 : PS X st t) (h2 : PSs X rest u) : PSs X (st :: rest) (tSeq t u) := by
 intro pins s σ H D I h
 refine wpAny_execs_cons (thn (h1 pins s σ H { D with nx := u D } I h) fun f s1 q => ?_)
 cases f with
 | next =>
   obtain ⟨σ', H', I', q⟩ := q
   exact h2 pins s1 σ' H' D I' q
 | ret v => exact q
 | brk => exact q
 | cont => exact q
theorem pss_one (h1 : PS X st t) : PSs X [st] t := by
 intro pins s σ H D I h
 refine wpAny_execs_cons (thn (h1 pins s σ H D I h) fun f s1 q => ?_)
 cases f with
 | next => exact wpAny_execs_nil q
 | ret v => exact q
 | brk => exact q
 | cont => exact q
theorem Inv.quiet {pins : List (Addr × Obj)} {σ : St} {H : Hp} {s : Shared} (I : Inv X pins σ H s) : interactive X.env = false := by simp [interactive, I.ok.kind]
noncomputable def tDrop (te : TE) : TS := fun D σ H => te σ H fun _ H1 => D.nx σ H1
theorem ps_expr (he : PE X e te) (hs : swapsWith e none pos.line X.env = pure false := by rfl) : PS X (.Expr e pos) (tDrop te) := by
 intro pins s σ H D I h
 exact wpAny_Expr_any (thn (he pins s σ H _ I h) fun v s1 ⟨x, H1, I1, r1, q1⟩ => ⟨σ, H1, I1, q1⟩) I.quiet hs
noncomputable def tRet (te : TE) : TS := fun D σ H => te σ H D.rt
theorem ps_ret (he : PE X e te) : PS X (.Return (some e) pos) (tRet te) := by
 intro pins s σ H D I h
 exact wpAny_Return_some (thn (he pins s σ H _ I h) fun v s1 ⟨x, H1, I1, r1, q1⟩ => ⟨x, σ, H1, I1, r1, q1⟩)
noncomputable def tIfS (c : TT) (t u : TS) : TS := fun D σ H => c σ H fun b H1 => if b = true then t D σ H1 else u D σ H1
theorem ps_if {c : Expr} {a b : List Stmt} {tc : TT} (hc : PT X c tc) (ha : PSs X a t) (hb : PSs X b u) : PS X (.If c a b pos) (tIfS tc t u) := by
 intro pins s σ H D I h
 refine wpAny_If (thn (hc pins s σ H _ I h) fun d s1 ⟨H1, I1, q1⟩ => ?_)
 cases d with
 | true => exact ha pins s1 σ H1 D I1 q1
 | false => exact hb pins s1 σ H1 D I1 q1
end
noncomputable abbrev TG := V → St → Hp → (St → Hp → Prop) → Prop
noncomputable abbrev TGs := List V → St → Hp → (St → Hp → Prop) → Prop
noncomputable def PG (X : Cx) (target : Expr) (t : TG) : Prop :=
 ∀ (pins : List (Addr × Obj)) (s : Shared) (σ : St) (H : Hp) (v : V) (u : Value) (Q : St → Hp → Prop), Inv X pins σ H s → RelV v u → t v σ H Q →
   wpAny (model X.prog X.w) X.A (assign target X.env u) (fun _ s' => ∃ σ' H', Inv X pins σ' H' s' ∧ Q σ' H') X.xe s
noncomputable def PGs (X : Cx) (ts : List Expr) (t : TGs) : Prop :=
 ∀ (pins : List (Addr × Obj)) (s : Shared) (σ : St) (H : Hp) (vs : List V) (us : List Value) (Q : St → Hp → Prop), Inv X pins σ H s → Vals vs us → t vs σ H Q →
   wpAny (model X.prog X.w) X.A (assignInOrder ((assignEach ts X.env).map (·.2)) us) (fun _ s' => ∃ σ' H', Inv X pins σ' H' s' ∧ Q σ' H') X.xe s
noncomputable abbrev TSet := V → V → V → Hp → (Hp → Prop) → Prop
noncomputable def PSet (X : Cx) (t : TSet) : Prop :=
 ∀ (pins : List (Addr × Obj)) (s : Shared) (σ : St) (H : Hp) (o i v : V) (ov iv u : Value) (Q : Hp → Prop), Inv X pins σ H s → RelV o ov → RelV i iv → RelV v u → t o i v H Q →
   wpAny (model X.prog X.w) X.A (setItem ov iv u) (fun _ s' => ∃ H', Inv X pins σ H' s' ∧ Q H') X.xe s
section
variable {X : Cx} {pos : Pos}
noncomputable def kZ (i : Nat) : TG := fun v σ H Q => Q (σ.set i (some v)) H
theorem pg_name {i : Nat} {x : Str} (hN : X.N.Nodup) (hi : X.N[i]? = some x) (hx : Loc X.env.scope x) (hf : X.fn x = true ∨ X.env.scope.names.lookup x = some .local := by first | exact .inl rfl | exact .inr rfl | assumption) : PG X (.Name x pos) (kZ i) := by
 intro pins s σ H v u Q I r h
 exact wpAny_assign_Name (store_ok I hN hi hx r (fun s' I' => ⟨_, H, I', h⟩) hf)
noncomputable def gNil : TGs := fun vs σ H Q => vs = [] ∧ Q σ H
noncomputable def gCons (t : TG) (u : TGs) : TGs := fun vs σ H Q => ∃ v r, vs = v :: r ∧ t v σ H fun σ' H' => u r σ' H' Q
theorem pgs_nil : PGs X [] gNil := by
 intro pins s σ H vs us Q I r h
 obtain ⟨e, h⟩ := h
 subst e
 cases r
 exact assignInOrder_nil ⟨σ, H, I, h⟩
theorem pgs_cons {e : Expr} {es : List Expr} {t : TG} {u : TGs} (h1 : PG X e t) (h2 : PGs X es u)
   (hs : (assignEach (e :: es) X.env).map (·.2) = assign e X.env :: (assignEach es X.env).map (·.2) := by rfl) : PGs X (e :: es) (gCons t u) := by
 intro pins s σ H vs us Q I r h
 obtain ⟨v, vr, e1, h⟩ := h
 subst e1
 cases r with
 | cons r rr =>
   rw [hs]
   refine assignInOrder_cons (thn (h1 pins s σ H _ _ _ I r h) fun _ s1 ⟨σ1, H1, I1, q1⟩ => ?_)
   exact h2 pins s1 σ1 H1 _ _ Q I1 rr q1
noncomputable def gTup (K : W.Frag) (n : Nat) (t : TGs) : TG := fun v σ H Q => ∃ a xs, v = .ref a ∧ SqT K H a xs ∧ xs.length = n ∧ t xs σ H Q
theorem pg_tup {es : List Expr} {k : Nat} {t : TGs} {n : Nat} (hc : X.calm = true) (h : PGs X es t)
   (hn : (assignEach es X.env).length = n := by rfl) (hst : (assignEach es X.env).findIdx? (·.1) = none := by rfl) : PG X (.Tuple es k pos) (gTup X.K n t) := by
 intro pins s σ H v u Q I r hw
 obtain ⟨a, xs, e1, hq, hl, hw⟩ := hw
 subst e1
 cases r
 obtain ⟨its, rv, ht, hz⟩ := I.tuple hq
 refine assign_Tuple_tuple (I.ok.hd hc) ht (by simp [hn, ← hl, rv.length]) hst fun h' hx => ?_
 have I1 : Inv X pins σ H { s with heap := h' } := I.kept (t' := s.toks) fun b o e => hx b o (Nat.ne_of_lt (Heap.lt_size e)) e
 exact h pins _ σ H xs _ Q I1 (by simpa using rv) hw
noncomputable def gSub (to ti : TE) (t : TSet) : TG := fun v σ H Q => to σ H fun o H1 => ti σ H1 fun i H2 => t o i v H2 fun H3 => Q σ H3
theorem pg_sub {o i : Expr} {to ti : TE} {t : TSet} (ho : PE X o to) (hi : PE X i ti) (hs : PSet X t)
   (ha : ∀ v, assign (.Subscript o i pos) X.env v = (do
     let ov ← holding [v] (eval o X.env)
     let iv ← holding [v, ov] (eval i X.env)
     standAt pos
     holding [v, ov, iv] (setItem ov iv v)
     release [v, ov, iv] []) := by intro _; rfl) : PG X (.Subscript o i pos) (gSub to ti t) := by
 intro pins s σ H v u Q I r h
 rw [ha]
 refine wpAny_bind (wpAny_holding (thn (ho pins s σ H _ I h) fun ov s1 ⟨x, H1, I1, r1, q1⟩ => ?_))
 refine wpAny_bind (wpAny_holding (thn (hi pins s1 σ H1 _ I1 q1) fun iv s2 ⟨y, H2, I2, r2, q2⟩ => ?_))
 refine wpAny_bind (wpAny_standAt (wpAny_bind (wpAny_holding (thn (hs pins s2 σ H2 x y v ov iv u _ I2 r1 r2 r q2) fun _ s3 ⟨H3, I3, q3⟩ => ?_))))
 exact wpAny_release ⟨σ, H3, I3, q3⟩
noncomputable def tAsg (te : TE) (g : TG) : TS := fun D σ H => te σ H fun x H1 => g x σ H1 D.nx
theorem ps_asg {tg e : Expr} {te : TE} {g : TG} (he : PE X e te) (hg : PG X tg g) (hs : swapsWithSole [tg] e pos.line X.env = pure false := by rfl) (hw : swappedStores [tg] e X.env = pure none := by rfl)
   (h1 : (assignEach [tg] X.env).map (·.2) = [assign tg X.env] := by rfl) : PS X (.Assign [tg] e pos) (tAsg te g) := by
 intro pins s σ H D I h
 refine wpAny_Assign_stores (thn (he pins s σ H _ I h) fun v s1 ⟨x, H1, I1, r1, q1⟩ => ?_) hs hw
 rw [h1]
 exact thn (hg pins s1 σ H1 x v _ I1 r1 q1) fun _ s2 q => q
theorem yN {i : Nat} {x : Str} {e : Expr} {te : TE} {pos' : Pos} (hN : X.N.Nodup) (hi : X.N[i]? = some x) (hx : Loc X.env.scope x) (he : PE X e te) (hs : swapsWith e (some (.Name x pos')) pos.line X.env = pure false := by rfl) (hf : X.fn x = true ∨ X.env.scope.names.lookup x = some .local := by first | exact .inl rfl | exact .inr rfl | assumption) :
   PS X (.Assign [.Name x pos'] e pos) (tAsg te (kZ i)) := by
 intro pins s σ H D I h
 refine wpAny_Assign_Name (thn (he pins s σ H _ I h) fun v s1 ⟨y, H1, I1, r1, q1⟩ => ?_) hs
 exact store_ok I1 hN hi hx r1 (fun s2 I2 => ⟨_, H1, I2, q1⟩) hf
end
section
variable {X : Cx} {pos : Pos}
end
structure It where
 go : Nat → Hp → Prop
 yld : Nat → Hp → V → Hp → Prop
 stop : Nat → Hp → Prop
noncomputable def FpOk (X : Cx) (pins : List (Addr × Obj)) (H : Hp) (b : Addr) : Prop :=
 H b = none ∧ b ≠ X.env.locals ∧ b ∉ X.fs ∧ (b ∈ X.ex ∨ X.s₀.heap.objs.size ≤ b) ∧ (∀ x c, X.env.cells.lookup x = some c → c ≠ b) ∧ ∀ p ∈ X.pn ++ pins, p.1 ≠ b
theorem Inv.fpOk {X : Cx} {pins : List (Addr × Obj)} {σ : St} {H H' : Hp} {s : Shared} {b : Addr} (I : Inv X pins σ H s) (hb : s.heap.objs.size ≤ b) (hn : H' b = none) : FpOk X pins H' b := by
 refine ⟨hn, Nat.ne_of_gt (Nat.lt_of_lt_of_le I.lt hb), I.nofs hb, .inr (Nat.le_trans I.sz hb), fun x c e z => ?_, fun p hp z => ?_⟩
 · obtain ⟨v, q⟩ := I.cell x c e
   exact absurd (Nat.lt_of_lt_of_le q.lt (by rw [z]; exact hb)) (Nat.lt_irrefl _)
 · exact absurd (Nat.lt_of_lt_of_le (Heap.lt_size (I.pin p hp).1) (by rw [z]; exact hb)) (Nat.lt_irrefl _)
structure Turn (P : Program) (w : World) (K : W.Frag) (tg : Expr) (J : It) (fp : List Addr) (it : Addr) (tn : Nat → Heap → Prop) : Prop where
 mem : it ∈ fp
 obj : ∀ i h, tn i h → ∀ b ∈ fp, ∃ o, h.get? b = some o ∧ ∀ v, o.data ≠ .cell v
 keep : ∀ i h h', tn i h → (∀ b ∈ fp, ∀ o, h.get? b = some o → h'.get? b = some o) → tn i h'
 item : ∀ (X : Cx), X.prog = P → X.w = w → X.K = K → X.calm = true → ∀ (i : Nat) (pins : List (Addr × Obj)) (s : Shared) (σ : St) (H : Hp) (E : Value → Shared → Prop), Inv X pins σ H s → (∀ b ∈ fp, FpOk X pins H b) → tn i s.heap → J.go i H →
   wpAny (model P w) X.A (pyNext (.ref it)) (fun r s1 => ∃ u, r = some u ∧
     wpAny (model P w) X.A (letOwnedTupleGo tg (.ref it) u) (fun _ s2 => ∃ x H', Inv X pins σ H' s2 ∧ RelV x u ∧ J.yld i H x H' ∧ tn (i + 1) s2.heap ∧ ∀ b ∈ fp, H' b = none) E s1) E s
 done : ∀ (X : Cx), X.prog = P → X.w = w → X.K = K → X.calm = true → ∀ (i : Nat) (pins : List (Addr × Obj)) (s : Shared) (σ : St) (H : Hp) (E : Value → Shared → Prop), Inv X pins σ H s → (∀ b ∈ fp, FpOk X pins H b) → tn i s.heap → J.stop i H →
   wpAny (model P w) X.A (pyNext (.ref it)) (fun r s1 => r = none ∧ Inv X pins σ H s1) E s
 self : ∀ (A : Around) (i : Nat) (s : Shared) (Q : Value → Shared → Prop) (E : Value → Shared → Prop), tn i s.heap → Q (.ref it) s → wpAny (model P w) A (pyIter (.ref it)) Q E s
noncomputable abbrev TI := St → Hp → (It → Hp → Prop) → Prop
noncomputable def PIE (X : Cx) (pins : List (Addr × Obj)) (σ : St) (tg : Expr) (R : It → Hp → Prop) (itv : Value) (s2 : Shared) : Prop :=
 ∃ (it : Addr) (fp : List Addr) (tn : Nat → Heap → Prop) (J : It) (H' : Hp), itv = .ref it ∧ Inv X pins σ H' s2 ∧ Turn X.prog X.w X.K tg J fp it tn ∧ tn 0 s2.heap ∧ (∀ b ∈ fp, FpOk X pins H' b) ∧ R J H'
noncomputable def PI (X : Cx) (tg iter : Expr) (wi : TI) : Prop :=
 ∀ (pins : List (Addr × Obj)) (s : Shared) (σ : St) (H : Hp) (R : It → Hp → Prop), Inv X pins σ H s → wi σ H R →
   wpAny (model X.prog X.w) X.A (eval iter X.env) (fun v s1 => wpAny (model X.prog X.w) X.A (pyIter v) (PIE X pins σ tg R) X.xe s1) X.xe s
theorem go_of {M : Model} {A : Around} {E : Value → Shared → Prop} {s : Shared} {tg : Expr} {it : Addr} {u : Value} {o : Obj} {n : String} {vs : Array Value} {Q : Unit → Shared → Prop} (ho : s.heap.get? it = some o) (hc : o.cls = .type n) (hd : o.data = .fields vs)
   (hn : ["enumerate", "zip", "dict_itemiterator", "dict_reverseitemiterator", "odict_iterator", "itertools.zip_longest", "itertools.pairwise"].contains n = false) (hQ : Q () s) : wpAny M A (letOwnedTupleGo tg (.ref it) u) Q E s := by
 unfold letOwnedTupleGo
 cases tg <;> first
   | exact wpAny_pure hQ
   | (cases u <;> first
       | exact wpAny_pure hQ
       | (refine wpAny_bind (wpAny_load ho ?_)
          rw [hc, hd]
          show wpAny M A (if (["enumerate", "zip", "dict_itemiterator", "dict_reverseitemiterator", "odict_iterator", "itertools.zip_longest", "itertools.pairwise"].contains n && vs[0]? == some (rawInt _)) = true then _ else _) Q E s
          rw [if_neg (by intro h; rw [hn, Bool.false_and] at h; cases h)]
          exact wpAny_pure hQ))
noncomputable def Itl (K : W.Frag) (a : Addr) : It :=
 ⟨fun i H => ∃ xs x, SqL K H a xs ∧ xs[i]? = some x, fun i H x H' => H' = H ∧ ∀ xs, SqL K H a xs → xs[i]? = some x, fun i H => ∃ xs, SqL K H a xs ∧ xs.length ≤ i⟩
noncomputable def Itt (K : W.Frag) (a : Addr) : It :=
 ⟨fun i H => ∃ xs x, SqT K H a xs ∧ xs[i]? = some x, fun i H x H' => H' = H ∧ ∀ xs, SqT K H a xs → xs[i]? = some x, fun i H => ∃ xs, SqT K H a xs ∧ xs.length ≤ i⟩
noncomputable def Itr (lo : Int) (n : Nat) : It := ⟨fun i _ => i < n, fun i H x H' => H' = H ∧ x = .int (lo + i), fun i _ => n ≤ i⟩
theorem turn_list {P : Program} {w : World} {K : W.Frag} {tg : Expr} (a it : Addr) : Turn P w K tg (Itl K a) [it] it (fun i h => h.IsListIter it a i) where
 mem := by simp
 obj := fun i h st b hb => by
   have e : b = it := by simpa using hb
   subst e
   obtain ⟨o, e, c, d⟩ := st
   exact ⟨o, e, fun v z => by rw [d] at z; cases z⟩
 keep := fun i h h' st k => st.at fun o e => k it (by simp) o e
 item := by
   intro X hP hw hK hc i pins s σ H E I hf st hg
   subst hP hw hK
   obtain ⟨xs, x, hq, hx⟩ := hg
   obtain ⟨its, rv, p, hz⟩ := I.list hq
   obtain ⟨u, hu, ru⟩ := rv.get hx
   obtain ⟨f0, f1, f2, f3, f4, f5⟩ := hf it (by simp)
   refine wpAny_pyNext_list_item st p.isList (x := u) (by simpa using hu) fun h' st' sb => ?_
   have I1 : Inv X pins σ H { s with heap := h' } := I.turned (t' := s.toks) (fun b o hb e => (sb.2 b hb).trans e) f0 f1 f3 f4 f5
   obtain ⟨o, e, c, d⟩ := id st'
   exact ⟨u, rfl, go_of (s := { s with heap := h' }) e c d (by decide) ⟨x, H, I1, ru, ⟨rfl, fun ys hy => by rw [I.list_inj hy hq]; exact hx⟩, st', fun b hb => (hf b hb).1⟩⟩
 done := by
   intro X hP hw hK hc i pins s σ H E I hf st hg
   subst hP hw hK
   obtain ⟨xs, hq, hx⟩ := hg
   obtain ⟨its, rv, p, hz⟩ := I.list hq
   obtain ⟨f0, f1, f2, f3, f4, f5⟩ := hf it (by simp)
   have hl := rv.length
   exact wpAny_pyNext_list_end (I.ok.hd hc) st p.isList (by simp; lia) fun h' eb => ⟨rfl, I.turned (t' := s.toks) (fun b o hb e => eb b o hb e) f0 f1 f3 f4 f5⟩
 self := fun _ _ _ _ _ st h => wpAny_pyIter_listiter st h
theorem turn_tuple {P : Program} {w : World} {K : W.Frag} {tg : Expr} (a it : Addr) : Turn P w K tg (Itt K a) [it] it (fun i h => h.IsTupleIter it a i) where
 mem := by simp
 obj := fun i h st b hb => by
   have e : b = it := by simpa using hb
   subst e
   obtain ⟨o, e, c, d⟩ := st
   exact ⟨o, e, fun v z => by rw [d] at z; cases z⟩
 keep := fun i h h' st k => st.at fun o e => k it (by simp) o e
 item := by
   intro X hP hw hK hc i pins s σ H E I hf st hg
   subst hP hw hK
   obtain ⟨xs, x, hq, hx⟩ := hg
   obtain ⟨its, rv, p, hz⟩ := I.tuple hq
   obtain ⟨u, hu, ru⟩ := rv.get hx
   obtain ⟨f0, f1, f2, f3, f4, f5⟩ := hf it (by simp)
   refine wpAny_pyNext_tuple_item st (show s.heap.IsTuple a its.toArray from p) (x := u) (by simpa using hu) fun h' st' sb => ?_
   have I1 : Inv X pins σ H { s with heap := h' } := I.turned (t' := s.toks) (fun b o hb e => (sb.2 b hb).trans e) f0 f1 f3 f4 f5
   obtain ⟨o, e, c, d⟩ := id st'
   exact ⟨u, rfl, go_of (s := { s with heap := h' }) e c d (by decide) ⟨x, H, I1, ru, ⟨rfl, fun ys hy => by rw [I.tuple_inj hy hq]; exact hx⟩, st', fun b hb => (hf b hb).1⟩⟩
 done := by
   intro X hP hw hK hc i pins s σ H E I hf st hg
   subst hP hw hK
   obtain ⟨xs, hq, hx⟩ := hg
   obtain ⟨its, rv, p, hz⟩ := I.tuple hq
   obtain ⟨f0, f1, f2, f3, f4, f5⟩ := hf it (by simp)
   have hl := rv.length
   exact wpAny_pyNext_tuple_end (I.ok.hd hc) st (show s.heap.IsTuple a its.toArray from p) (by simp; lia) fun h' eb => ⟨rfl, I.turned (t' := s.toks) (fun b o hb e => eb b o hb e) f0 f1 f3 f4 f5⟩
 self := fun _ _ _ _ _ st h => wpAny_pyIter_tupleiter st h
theorem turn_range {P : Program} {w : World} {K : W.Frag} {tg : Expr} (it : Addr) (lo : Int) (n : Nat) : Turn P w K tg (Itr lo n) [it] it (fun i h => IsRangeIter h it (lo + (i : Nat) * 1) ((n : Int) - (i : Nat)) 1) where
 mem := by simp
 obj := fun i h st b hb => by
   have e : b = it := by simpa using hb
   subst e
   exact ⟨_, st, fun v z => by
     have z' : Data.fields _ = Data.cell v := z
     cases z'⟩
 keep := fun i h h' st k => k it (by simp) _ st
 item := by
   intro X hP hw hK hc i pins s σ H E I hf st hg
   subst hP hw hK
   obtain ⟨f0, f1, f2, f3, f4, f5⟩ := hf it (by simp)
   have W := Walks.range (prog := X.prog) (w := X.w) (I.ok.hd hc) it lo 1 n
   refine W.item i s _ _ hg st fun v h' tk hv st' kk => ?_
   obtain ⟨t, rfl⟩ := hv
   have I1 : Inv X pins σ H { s with heap := h', toks := tk } := I.turned (fun b o hb e => kk b o (by simpa using hb) e) f0 f1 f3 f4 f5
   refine ⟨_, rfl, go_of (s := { s with heap := h', toks := tk }) (n := "range_iterator") st' rfl rfl (by decide) ⟨.int (lo + i), H, I1, ⟨t, ?_⟩, ⟨rfl, rfl⟩, st', fun b hb => (hf b hb).1⟩⟩
   rw [Int.mul_one]
 done := by
   intro X hP hw hK hc i pins s σ H E I hf st hg
   subst hP hw hK
   obtain ⟨f0, f1, f2, f3, f4, f5⟩ := hf it (by simp)
   exact wpAny_pyNext_range_end (I.ok.hd hc) st (by have : n ≤ i := hg; lia) fun h' eb => ⟨rfl, I.turned (t' := s.toks) (fun b o hb e => eb b o hb e) f0 f1 f3 f4 f5⟩
 self := fun _ _ _ _ _ st h => wpAny_pyIter_rangeiter st h
end L2
namespace L2
open PySem PySem.Spec PyProof.Rows
section
variable {X : Cx} {tg : Expr}
noncomputable def iList (K : W.Frag) (tl : TE) : TI := fun σ H R => tl σ H fun x H1 => ∃ a, x = .ref a ∧ (∃ xs, SqL K H1 a xs) ∧ R (Itl K a) H1
noncomputable def iTup (K : W.Frag) (tl : TE) : TI := fun σ H R => tl σ H fun x H1 => ∃ a, x = .ref a ∧ (∃ xs, SqT K H1 a xs) ∧ R (Itt K a) H1
theorem pi_list {l : Expr} {tl : TE} (hl : PE X l tl) : PI X tg l (iList X.K tl) := by
 intro pins s σ H R I h
 refine thn (hl pins s σ H _ I h) fun v s1 ⟨x, H1, I1, r1, q1⟩ => ?_
 obtain ⟨a, e, ⟨xs, hq⟩, q⟩ := q1
 subst e
 cases r1
 obtain ⟨its, rv, p, hz⟩ := I1.list hq
 refine wpAny_pyIter_list p.isList ?_
 refine ⟨s1.heap.objs.size, [s1.heap.objs.size], _, _, H1, rfl, I1.kept (t' := s1.toks) fun b o e => Heap.get?_push_of_some _ e, turn_list a _, ⟨_, Heap.get?_push_size _ rfl, rfl, rfl⟩, fun b hb => ?_, q⟩
 have e : b = s1.heap.objs.size := by simpa using hb
 subst e
 exact I1.fpOk (Nat.le_refl _) (I1.hok.fresh (Nat.le_refl _))
theorem pi_tup {l : Expr} {tl : TE} (hl : PE X l tl) : PI X tg l (iTup X.K tl) := by
 intro pins s σ H R I h
 refine thn (hl pins s σ H _ I h) fun v s1 ⟨x, H1, I1, r1, q1⟩ => ?_
 obtain ⟨a, e, ⟨xs, hq⟩, q⟩ := q1
 subst e
 cases r1
 obtain ⟨its, rv, p, hz⟩ := I1.tuple hq
 refine wpAny_pyIter_tuple (show s1.heap.IsTuple a its.toArray from p) ?_
 refine ⟨s1.heap.objs.size, [s1.heap.objs.size], _, _, H1, rfl, I1.kept (t' := s1.toks) fun b o e => Heap.get?_push_of_some _ e, turn_tuple a _, ⟨_, Heap.get?_push_size _ rfl, rfl, rfl⟩, fun b hb => ?_, q⟩
 have e : b = s1.heap.objs.size := by simpa using hb
 subst e
 exact I1.fpOk (Nat.le_refl _) (I1.hok.fresh (Nat.le_refl _))
theorem range_it {pins : List (Addr × Obj)} {σ : St} {H : Hp} {s : Shared} {R : It → Hp → Prop} {E : Value → Shared → Prop} {lo hi : Int} {t u v : Tok} {tk : Nat} (I : Inv X pins σ H s) (h1 : -(2 ^ 62) ≤ lo) (h2 : lo < 2 ^ 62) (h3 : -(2 ^ 62) ≤ hi) (h4 : hi < 2 ^ 62)
   (q : R (Itr lo (hi - lo).toNat) H) : wpAny (model X.prog X.w) X.A (pyIter (.ref s.heap.objs.size)) (PIE X pins σ tg R) E { s with heap := s.heap.push { cls := .type "range", data := .fields #[.int lo t, .int hi u, .int 1 v] }, toks := tk } := by
 refine wpAny_pyIter_range (IsRange.new ..) (small_one h1 h2 h3 h4) ?_
 have I1 : Inv X pins σ H { s with heap := s.heap.push { cls := .type "range", data := .fields #[.int lo t, .int hi u, .int 1 v] }, toks := tk } := I.kept fun b o e => Heap.get?_push_of_some _ e
 refine ⟨(s.heap.push { cls := .type "range", data := .fields #[.int lo t, .int hi u, .int 1 v] }).objs.size, [(s.heap.push { cls := .type "range", data := .fields #[.int lo t, .int hi u, .int 1 v] }).objs.size], _, _, H, rfl,
   I1.kept (t' := tk) fun b o e => Heap.get?_push_of_some _ e, turn_range _ lo (hi - lo).toNat, ?_, fun b hb => ?_, q⟩
 · have e1 : lo + ((0 : Nat) : Int) * 1 = lo := by simp
   have e2 : (((hi - lo).toNat : Nat) : Int) - ((0 : Nat) : Int) = Builtin.Range.rangeSize lo hi 1 := by rw [rangeSize_one]; split <;> lia
   show IsRangeIter _ _ (lo + ((0 : Nat) : Int) * 1) ((((hi - lo).toNat : Nat) : Int) - ((0 : Nat) : Int)) 1
   rw [e1, e2]
   exact Heap.get?_push_size _ rfl
 · have e : b = (s.heap.push { cls := .type "range", data := .fields #[.int lo t, .int hi u, .int 1 v] }).objs.size := by simpa using hb
   subst e
   exact I1.fpOk (Nat.le_refl _) (I1.hok.fresh (Nat.le_refl _))
noncomputable def iRng1 (ta : TA) : TI := fun σ H R => ta σ H fun vs H1 => ∃ j : Int, vs = [.int j] ∧ -(2 ^ 62) ≤ j ∧ j < 2 ^ 62 ∧ R (Itr 0 j.toNat) H1
noncomputable def iRng2 (ta : TA) : TI := fun σ H R => ta σ H fun vs H1 => ∃ i j : Int, vs = [.int i, .int j] ∧ (-(2 ^ 62) ≤ i ∧ i < 2 ^ 62 ∧ -(2 ^ 62) ≤ j ∧ j < 2 ^ 62) ∧ R (Itr i (j - i).toNat) H1
theorem pi_range1 {a : Expr} {ta : TA} {p pos : Pos} (hg : Gl X "range") (hm : X.mg "range" = none) (ha : PA X [a] ta) (hs : starEach [a] X.env = [(false, eval a X.env)] := by rfl) : PI X tg (.Call (.Name "range" p) [a] [] pos) (iRng1 ta) := by
 intro pins s σ H R I h
 refine Call_ (ld_blt I hg hm boot_range (PyProof.Rows.callWith_type1 (thn (ha pos pins s σ H _ I h) fun us s1 ⟨vs, H1, I1, r1, q1⟩ => ?_) hs rfl))
 obtain ⟨j, e, q1, q2, q⟩ := q1
 subst e
 cases r1 with
 | cons r rr =>
   cases rr
   obtain ⟨t, rfl⟩ := r
   exact call_range_1 (range_it I1 (by lia) (by lia) q1 q2 (by simpa using q))
theorem pi_range2 {a b : Expr} {ta : TA} {p pos : Pos} (hg : Gl X "range") (hm : X.mg "range" = none) (ha : PA X [a, b] ta) (hs : starEach [a, b] X.env = [(false, eval a X.env), (false, eval b X.env)] := by rfl) (hs2 : starEach [b] X.env = [(false, eval b X.env)] := by rfl) :
   PI X tg (.Call (.Name "range" p) [a, b] [] pos) (iRng2 ta) := by
 intro pins s σ H R I h
 refine Call_ (ld_blt I hg hm boot_range (PyProof.Rows.callWith_type1 (thn (ha pos pins s σ H _ I h) fun us s1 ⟨vs, H1, I1, r1, q1⟩ => ?_) (by rw [hs, hs2]) (by rw [hs2]; rfl)))
 obtain ⟨i, j, e, ⟨q1, q2, q3, q4⟩, q⟩ := q1
 subst e
 cases r1 with
 | cons r rr =>
   cases rr with
   | cons r' rr =>
     cases rr
     obtain ⟨t, rfl⟩ := r
     obtain ⟨t', rfl⟩ := r'
     exact call_range_2 (range_it I1 q1 q2 q3 q4 q)
noncomputable def tFor (wi : TI) (g : TG) (tb : TS) : TS := fun D σ H => wi σ H fun J H1 => ∃ W : Nat → Nat → St → Hp → Prop, (∃ m, W 0 m σ H1) ∧ ∀ i m σ H, W i m σ H →
 (J.stop i H ∧ D.nx σ H) ∨ (J.go i H ∧ ∃ N : St → Hp → Prop, (∀ σ' H', N σ' H' → ∃ m', m' < m ∧ W (i + 1) m' σ' H') ∧ ∀ x H', J.yld i H x H' → g x σ H' fun σ2 H2 => tb { D with nx := N, ct := N, bk := D.nx } σ2 H2)
noncomputable def pinsAt (fp : List Addr) (h : Heap) : List (Addr × Obj) := fp.filterMap fun b => (h.get? b).map fun o => (b, o)
theorem mem_pinsAt {fp : List Addr} {h : Heap} {b : Addr} {o : Obj} (hb : b ∈ fp) (e : h.get? b = some o) : (b, o) ∈ pinsAt fp h := List.mem_filterMap.mpr ⟨b, hb, by rw [e]; rfl⟩
theorem of_pinsAt {fp : List Addr} {h : Heap} {p : Addr × Obj} (hp : p ∈ pinsAt fp h) : p.1 ∈ fp ∧ h.get? p.1 = some p.2 := by
 obtain ⟨b, hb, e⟩ := List.mem_filterMap.mp hp
 cases q : h.get? b with
 | none => rw [q] at e; cases e
 | some o =>
   rw [q] at e
   have e' : (b, o) = p := Option.some.inj e
   subst e'
   exact ⟨hb, q⟩
theorem Inv.pinned {pins : List (Addr × Obj)} {σ : St} {H : Hp} {s : Shared} {fp : List Addr} (I : Inv X pins σ H s) (hf : ∀ b ∈ fp, FpOk X pins H b) (ho : ∀ b ∈ fp, ∃ o, s.heap.get? b = some o ∧ ∀ v, o.data ≠ .cell v) : Inv X (pins ++ pinsAt fp s.heap) σ H s :=
 I.pins_of fun p hp => (List.mem_append.mp hp).elim (fun z => I.pin p (List.mem_append_right _ z)) fun z => by
   obtain ⟨hb, e⟩ := of_pinsAt z
   obtain ⟨f0, f1, f2, _⟩ := hf p.1 hb
   obtain ⟨o, e', d⟩ := ho p.1 hb
   rw [e] at e'; cases e'
   exact ⟨e, f0, f1, f2, d⟩
theorem Inv.unpinned {pins pl : List (Addr × Obj)} {σ : St} {H : Hp} {s : Shared} (I : Inv X (pins ++ pl) σ H s) : Inv X pins σ H s := I.pins_of fun p hp => I.pin p (List.mem_append_right _ (List.mem_append_left _ hp))
theorem ps_for {iter : Expr} {body : List Stmt} {wi : TI} {g : TG} {tb : TS} {pos : Pos} (hp : PassesOwn (model X.prog X.w) X.A X.env X.xe) (hc : X.calm = true) (hi : PI X tg iter wi) (hg : PG X tg g) (hb : PSs X body tb)
   (hs : ∀ x, foldedSetIterable iter X.env x = pure x := by intro _; rfl) : PS X (.For tg iter body [] pos) (tFor wi g tb) := by
 intro pins s σ H D I h
 refine wpAny_For (thn (hi pins s σ H _ I h) fun v s1 h1 => thn h1 fun itv s2 h2 => ?_) hs
 obtain ⟨it, fp, tn, J, H2, e, I2, T, st2, f2, W, ⟨m0, w0⟩, turn⟩ := h2
 subst e
 have stat : ∀ {H' : Hp}, (∀ b ∈ fp, H' b = none) → ∀ b ∈ fp, FpOk X pins H' b := fun hn b hb => ⟨hn b hb, (f2 b hb).2⟩
 refine codeAny_forLoop_any (fun n s' => ∃ i σ' H', Inv X pins σ' H' s' ∧ tn i s'.heap ∧ (∀ b ∈ fp, H' b = none) ∧ W i n σ' H') ?_ m0 ⟨0, σ, H2, I2, st2, fun b hb => (f2 b hb).1, w0⟩
 rintro n s3 ⟨i, σ3, H3, I3, st3, fr3, w3⟩
 rcases turn i n σ3 H3 w3 with ⟨stop, qn⟩ | ⟨go, N, hN, step⟩
 · refine wpAny_passesOwn hp (thn (T.done X rfl rfl rfl hc i pins s3 σ3 H3 X.xe I3 (stat fr3) st3 stop) fun r s4 ⟨hr, I4⟩ => ?_)
   subst hr
   exact wpAny_execs_nil ⟨σ3, H3, I4, qn⟩
 · refine wpAny_passesOwn hp (thn (T.item X rfl rfl rfl hc i pins s3 σ3 H3 X.xe I3 (stat fr3) st3 go) fun r s4 ⟨u, hr, h4⟩ => ?_)
   subst hr
   refine wpAny_passesOwn hp (thn h4 fun _ s5 ⟨x, H5, I5, r5, y5, st5, fr5⟩ => ?_)
   have I5' := I5.pinned (stat fr5) (T.obj _ _ st5)
   refine wpAny_passesOwn hp (thn (hg _ s5 σ3 H5 x u _ I5' r5 (step x H5 y5)) fun _ s6 ⟨σ6, H6, I6, q6⟩ => ?_)
   refine wpAny_passesOwn hp (thn (hb _ s6 σ6 H6 _ I6 q6) fun f s7 q7 => ?_)
   have again : ∀ {σ7 : St} {H7 : Hp}, Inv X (pins ++ pinsAt fp s5.heap) σ7 H7 s7 → N σ7 H7 → ∃ m, m < n ∧ ∃ i σ' H', Inv X pins σ' H' s7 ∧ tn i s7.heap ∧ (∀ b ∈ fp, H' b = none) ∧ W i m σ' H' := fun {σ7 H7} I7 n7 => by
     obtain ⟨m', hm, w7⟩ := hN σ7 H7 n7
     refine ⟨m', hm, i + 1, σ7, H7, I7.unpinned, T.keep _ _ _ st5 fun b hb o e => (I7.pin (b, o) (List.mem_append_right _ (List.mem_append_right _ (mem_pinsAt hb e)))).1, fun b hb => ?_, w7⟩
     obtain ⟨o, e, d⟩ := T.obj _ _ st5 b hb
     exact (I7.pin (b, o) (List.mem_append_right _ (List.mem_append_right _ (mem_pinsAt hb e)))).2.1
   cases f with
   | next => obtain ⟨σ7, H7, I7, n7⟩ := q7; exact again I7 n7
   | cont => obtain ⟨σ7, H7, I7, n7⟩ := q7; exact again I7 n7
   | brk => obtain ⟨σ7, H7, I7, q7⟩ := q7; exact ⟨σ7, H7, I7.unpinned, q7⟩
   | ret v => obtain ⟨x7, σ7, H7, I7, r7, q7⟩ := q7; exact ⟨x7, σ7, H7, I7.unpinned, r7, q7⟩
end
theorem for_list {K : W.Frag} {a : Addr} {xs : List V} {g : TG} {tb : TS} {D : Ends} {σ : St} {H : Hp} (Pv : Nat → St → Hp → Prop) (h0 : Pv 0 σ H) (hl : ∀ i σ H, i ≤ xs.length → Pv i σ H → SqL K H a xs)
   (hs : ∀ i x σ H, xs[i]? = some x → Pv i σ H → g x σ H fun σ2 H2 => tb { D with nx := Pv (i + 1), ct := Pv (i + 1), bk := D.nx } σ2 H2) (hd : ∀ σ H, Pv xs.length σ H → D.nx σ H) :
   ∃ W : Nat → Nat → St → Hp → Prop, (∃ m, W 0 m σ H) ∧ ∀ i m σ H, W i m σ H →
     ((Itl K a).stop i H ∧ D.nx σ H) ∨ ((Itl K a).go i H ∧ ∃ N : St → Hp → Prop, (∀ σ' H', N σ' H' → ∃ m', m' < m ∧ W (i + 1) m' σ' H') ∧ ∀ x H', (Itl K a).yld i H x H' → g x σ H' fun σ2 H2 => tb { D with nx := N, ct := N, bk := D.nx } σ2 H2) := by
 refine ⟨fun i m σ H => m = xs.length - i ∧ i ≤ xs.length ∧ Pv i σ H, ⟨xs.length, by simp, Nat.zero_le _, h0⟩, ?_⟩
 rintro i m σ H ⟨rfl, hi, p⟩
 have q := hl i σ H hi p
 by_cases hlt : i < xs.length
 · refine .inr ⟨⟨xs, xs[i], q, by simp [hlt]⟩, Pv (i + 1), fun σ' H' p' => ⟨xs.length - (i + 1), by lia, rfl, hlt, p'⟩, fun x H' y => ?_⟩
   obtain ⟨e, y⟩ := y
   subst e
   exact hs i x σ _ (y xs q) p
 · have e : i = xs.length := by lia
   subst e
   exact .inl ⟨⟨xs, q, Nat.le_refl _⟩, hd σ H p⟩
theorem for_tup {K : W.Frag} {a : Addr} {xs : List V} {g : TG} {tb : TS} {D : Ends} {σ : St} {H : Hp} (Pv : Nat → St → Hp → Prop) (h0 : Pv 0 σ H) (hl : ∀ i σ H, i ≤ xs.length → Pv i σ H → SqT K H a xs)
   (hs : ∀ i x σ H, xs[i]? = some x → Pv i σ H → g x σ H fun σ2 H2 => tb { D with nx := Pv (i + 1), ct := Pv (i + 1), bk := D.nx } σ2 H2) (hd : ∀ σ H, Pv xs.length σ H → D.nx σ H) :
   ∃ W : Nat → Nat → St → Hp → Prop, (∃ m, W 0 m σ H) ∧ ∀ i m σ H, W i m σ H →
     ((Itt K a).stop i H ∧ D.nx σ H) ∨ ((Itt K a).go i H ∧ ∃ N : St → Hp → Prop, (∀ σ' H', N σ' H' → ∃ m', m' < m ∧ W (i + 1) m' σ' H') ∧ ∀ x H', (Itt K a).yld i H x H' → g x σ H' fun σ2 H2 => tb { D with nx := N, ct := N, bk := D.nx } σ2 H2) := by
 refine ⟨fun i m σ H => m = xs.length - i ∧ i ≤ xs.length ∧ Pv i σ H, ⟨xs.length, by simp, Nat.zero_le _, h0⟩, ?_⟩
 rintro i m σ H ⟨rfl, hi, p⟩
 have q := hl i σ H hi p
 by_cases hlt : i < xs.length
 · refine .inr ⟨⟨xs, xs[i], q, by simp [hlt]⟩, Pv (i + 1), fun σ' H' p' => ⟨xs.length - (i + 1), by lia, rfl, hlt, p'⟩, fun x H' y => ?_⟩
   obtain ⟨e, y⟩ := y
   subst e
   exact hs i x σ _ (y xs q) p
 · have e : i = xs.length := by lia
   subst e
   exact .inl ⟨⟨xs, q, Nat.le_refl _⟩, hd σ H p⟩
theorem for_range {lo : Int} {n : Nat} {g : TG} {tb : TS} {D : Ends} {σ : St} {H : Hp} (Pv : Nat → St → Hp → Prop) (h0 : Pv 0 σ H)
   (hs : ∀ i σ H, i < n → Pv i σ H → g (.int (lo + i)) σ H fun σ2 H2 => tb { D with nx := Pv (i + 1), ct := Pv (i + 1), bk := D.nx } σ2 H2) (hd : ∀ σ H, Pv n σ H → D.nx σ H) :
   ∃ W : Nat → Nat → St → Hp → Prop, (∃ m, W 0 m σ H) ∧ ∀ i m σ H, W i m σ H →
     ((Itr lo n).stop i H ∧ D.nx σ H) ∨ ((Itr lo n).go i H ∧ ∃ N : St → Hp → Prop, (∀ σ' H', N σ' H' → ∃ m', m' < m ∧ W (i + 1) m' σ' H') ∧ ∀ x H', (Itr lo n).yld i H x H' → g x σ H' fun σ2 H2 => tb { D with nx := N, ct := N, bk := D.nx } σ2 H2) := by
 refine ⟨fun i m σ H => m = n - i ∧ i ≤ n ∧ Pv i σ H, ⟨n, by simp, Nat.zero_le _, h0⟩, ?_⟩
 rintro i m σ H ⟨rfl, hi, p⟩
 by_cases hlt : i < n
 · refine .inr ⟨hlt, Pv (i + 1), fun σ' H' p' => ⟨n - (i + 1), by lia, rfl, hlt, p'⟩, fun x H' y => ?_⟩
   obtain ⟨e, y⟩ := y
   subst e y
   exact hs i σ _ hlt p
 · have e : i = n := by lia
   subst e
   exact .inl ⟨Nat.le_refl _, hd σ H p⟩
end L2
namespace L2
open PySem PySem.Spec PyProof.Rows
noncomputable abbrev R2 := V → V → Hp → VK → Prop
noncomputable def OpR (X : Cx) (f : Value → Value → Sem Value) (r : R2) : Prop :=
 ∀ (pins : List (Addr × Obj)) (s : Shared) (σ : St) (H : Hp) (x y : V) (v u : Value) (Q : VK), Inv X pins σ H s → RelV x v → RelV y u → r x y H Q →
   wpAny (model X.prog X.w) X.A (f v u) (EP X pins σ Q) X.xe s
noncomputable def UnR (X : Cx) (f : Value → Sem Value) (r : V → Hp → VK → Prop) : Prop :=
 ∀ (pins : List (Addr × Obj)) (s : Shared) (σ : St) (H : Hp) (x : V) (v : Value) (Q : VK), Inv X pins σ H s → RelV x v → r x H Q →
   wpAny (model X.prog X.w) X.A (f v) (EP X pins σ Q) X.xe s
noncomputable def yD (X : Cx) (f : Value) (r : List V → Hp → VK → Prop) : Prop :=
 ∀ (pins : List (Addr × Obj)) (s : Shared) (σ : St) (H : Hp) (xs : List V) (us : List Value) (Q : VK), Inv X pins σ H s → Vals xs us → r xs H Q →
   wpAny (model X.prog X.w) X.A (call f us) (EP X pins σ Q) X.xe s
noncomputable def tOp (r : R2) (ta tb : TE) : TE := fun σ H Q => ta σ H fun x H1 => tb σ H1 fun y H2 => r x y H2 Q
noncomputable def tUn (r : V → Hp → VK → Prop) (ta : TE) : TE := fun σ H Q => ta σ H fun x H1 => r x H1 Q
noncomputable def rI (C : Int → Int → Prop) (g : Int → Int → V) : R2 := fun x y H Q => ∃ i j, x = .int i ∧ y = .int j ∧ C i j ∧ Q (g i j) H
noncomputable def rI0 (g : Int → Int → V) : R2 := fun x y H Q => ∃ i j, x = .int i ∧ y = .int j ∧ Q (g i j) H
noncomputable def rU (g : Int → V) : V → Hp → VK → Prop := fun x H Q => ∃ i, x = .int i ∧ Q (g i) H
section
variable {X : Cx} {a b c : Expr} {ta tb tc : TE} {pos : Pos}
theorem binT (ha : PE X a ta) (hb : PE X b tb) {pins : List (Addr × Obj)} {s : Shared} {σ : St} {H : Hp} {R : V → V → Hp → Prop} (I : Inv X pins σ H s)
   (h : ta σ H fun x H1 => tb σ H1 fun y H2 => R x y H2) {Q : Value → Shared → Prop} {f : Value → Value → Sem Value}
   (hf : ∀ v u s2 x y H2, Inv X pins σ H2 s2 → RelV x v → RelV y u → R x y H2 → wpAny (model X.prog X.w) X.A (f v u) Q X.xe s2) :
   wpAny (model X.prog X.w) X.A (eval a X.env) (fun v s₁ => wpAny (model X.prog X.w) X.A (eval b X.env) (fun u s₂ => wpAny (model X.prog X.w) X.A (f v u) Q X.xe s₂) X.xe s₁) X.xe s := by
 refine thn (ha pins s σ H _ I h) fun v s1 ⟨x, H1, I1, r1, q1⟩ => ?_
 refine thn (hb pins s1 σ H1 _ I1 q1) fun u s2 ⟨y, H2, I2, r2, q2⟩ => ?_
 exact hf v u s2 x y H2 I2 r1 r2 q2
theorem jV {op : Operator} {r : R2} (ho : OpR X (binaryOp op) r) (ha : PE X a ta) (hb : PE X b tb) : PE X (.BinOp a op b pos) (tOp r ta tb) := by
 intro pins s σ H Q I h
 exact wpAny_BinOp (binT ha hb I h fun v u s2 x y H2 I2 rx ry q => ho pins s2 σ H2 x y v u Q I2 rx ry q)
theorem pe_un {op : UnaryOp} {r : V → Hp → VK → Prop} (ho : UnR X (unaryOp op) r) (ha : PE X a ta) : PE X (.UnaryOp op a pos) (tUn r ta) := by
 intro pins s σ H Q I h
 exact UnaryOp_ (thn (ha pins s σ H _ I h) fun v s1 ⟨x, H1, I1, r1, q1⟩ => ho pins s1 σ H1 x v Q I1 r1 q1)
theorem opI {f : Value → Value → Sem Value} {C : Int → Int → Prop} {g : Int → Int → Int}
   (rule : ∀ (i j : Int) (t u : Tok) (s : Shared) (Q : Value → Shared → Prop) (E : Value → Shared → Prop), C i j → Q (.int (g i j) s.toks) { s with toks := s.toks + 1 } → wpAny (model X.prog X.w) X.A (f (.int i t) (.int j u)) Q E s) :
   OpR X f (rI C fun i j => .int (g i j)) := by
 intro pins s σ H x y v u Q I rx ry h
 obtain ⟨i, j, rfl, rfl, hc, q⟩ := h
 obtain ⟨t, rfl⟩ := rx
 obtain ⟨t', rfl⟩ := ry
 exact rule i j t t' s _ _ hc ⟨.int (g i j), H, I.tok _, ⟨_, rfl⟩, q⟩
theorem opI0 {f : Value → Value → Sem Value} {g : Int → Int → Int}
   (rule : ∀ (i j : Int) (t u : Tok) (s : Shared) (Q : Value → Shared → Prop) (E : Value → Shared → Prop), Q (.int (g i j) s.toks) { s with toks := s.toks + 1 } → wpAny (model X.prog X.w) X.A (f (.int i t) (.int j u)) Q E s) :
   OpR X f (rI0 fun i j => .int (g i j)) := by
 intro pins s σ H x y v u Q I rx ry h
 obtain ⟨i, j, rfl, rfl, q⟩ := h
 obtain ⟨t, rfl⟩ := rx
 obtain ⟨t', rfl⟩ := ry
 exact rule i j t t' s _ _ ⟨.int (g i j), H, I.tok _, ⟨_, rfl⟩, q⟩
theorem opB0 {f : Value → Value → Sem Value} {g : Int → Int → Bool}
   (rule : ∀ (i j : Int) (t u : Tok) (s : Shared) (Q : Value → Shared → Prop) (E : Value → Shared → Prop), Q (.bool (g i j)) s → wpAny (model X.prog X.w) X.A (f (.int i t) (.int j u)) Q E s) :
   OpR X f (rI0 fun i j => .bl (g i j)) := by
 intro pins s σ H x y v u Q I rx ry h
 obtain ⟨i, j, rfl, rfl, q⟩ := h
 obtain ⟨t, rfl⟩ := rx
 obtain ⟨t', rfl⟩ := ry
 exact rule i j t t' s _ _ ⟨.bl (g i j), H, I, rfl, q⟩
noncomputable def CPow (i j : Int) : Prop := 0 ≤ j ∧ j ≤ 1000000 ∧ i.natAbs < 2 ^ 64
noncomputable def CMul (i j : Int) : Prop := (-(2 ^ 64) < i ∧ i < 2 ^ 64) ∨ (-(2 ^ 64) < j ∧ j < 2 ^ 64)
theorem CMul.ok {i j : Int} (h : CMul i j) : IntMulOk i j := by
 rcases h with ⟨h1, h2⟩ | ⟨h1, h2⟩
 · exact .of_left (intBits_le_64 h1 h2)
 · exact .of_right (intBits_le_64 h1 h2)
theorem two_pow_nn (k : Nat) : (0 : Int) ≤ 2 ^ k := by
 rw [two_pow_cast]
 exact Int.natCast_nonneg _
theorem yI : OpR X (binaryOp .Add) (rI0 fun i j => .int (i + j)) := opI0 fun _ _ _ _ _ _ _ q => add_int q
theorem op_sub : OpR X (binaryOp .Sub) (rI0 fun i j => .int (i - j)) := opI0 fun _ _ _ _ _ _ _ q => sub_int q
theorem op_mul : OpR X (binaryOp .Mult) (rI CMul fun i j => .int (i * j)) := opI fun _ _ _ _ _ _ _ hc q => mul_int q hc.ok
theorem op_mod : OpR X (binaryOp .Mod) (rI (fun _ j => 0 < j) fun i j => .int (i % j)) := opI fun i j _ _ _ _ _ hc q => by
 have h1 : (0 : Int) < j := hc
 exact mod_int' (by lia) (by rw [Int.fmod_eq_emod_of_nonneg i (by lia)]; exact q)
theorem op_pow : OpR X (binaryOp .Pow) (rI CPow fun i j => .int (i ^ j.toNat)) := opI fun _ _ _ _ _ _ _ hc q => pow_int_small hc.1 hc.2.1 hc.2.2 q
theorem op_shl : OpR X (binaryOp .LShift) (rI CPow fun i j => .int (i * 2 ^ j.toNat)) := opI fun _ _ _ _ _ _ _ hc q => lshift_int_small hc.1 hc.2.1 hc.2.2 q
theorem op_shr : OpR X (binaryOp .RShift) (rI (fun _ j => 0 ≤ j) fun i j => .int (i / 2 ^ j.toNat)) := opI fun i j _ _ _ _ _ hc q =>
 rshift_int hc (by rw [Int.fdiv_eq_ediv_of_nonneg i (two_pow_nn _)]; exact q)
theorem op_and : OpR X (binaryOp .BitAnd) (rI0 fun i j => .int (Builtin.bitAnd i j)) := opI0 fun _ _ _ _ _ _ _ q => and_int q
theorem unI {f : Value → Sem Value} {g : Int → Int}
   (rule : ∀ (i : Int) (t : Tok) (s : Shared) (Q : Value → Shared → Prop) (E : Value → Shared → Prop), Q (.int (g i) s.toks) { s with toks := s.toks + 1 } → wpAny (model X.prog X.w) X.A (f (.int i t)) Q E s) :
   UnR X f (rU fun i => .int (g i)) := by
 intro pins s σ H x v Q I rx h
 obtain ⟨i, rfl, q⟩ := h
 obtain ⟨t, rfl⟩ := rx
 exact rule i t s _ _ ⟨.int (g i), H, I.tok _, ⟨_, rfl⟩, q⟩
theorem un_neg : UnR X (unaryOp .USub) (rU fun i => .int (-i)) := unI fun _ _ _ _ _ q => neg_int q
end
noncomputable def scal : V → V → Bool
 | .non, .non => true | .non, .int _ => true | .int _, .non => true | .non, .bl _ => true | .bl _, .non => true | .non, .str _ => true | .str _, .non => true
 | .int _, .int _ => true | .bl _, .bl _ => true | .str _, .str _ => true | .byt _, .byt _ => true
 | .int _, .str _ => true | .str _, .int _ => true | .bl _, .str _ => true | .str _, .bl _ => true
 | _, _ => false
noncomputable def rEq : R2 := fun x y H Q => scal x y = true ∧ Q (.bl (decide (x = y))) H
theorem dec_int {i j : Int} : decide (V.int i = V.int j) = (i == j) := by
 rw [Bool.eq_iff_iff]
 simp
theorem dec_bl {i j : Bool} : decide (V.bl i = V.bl j) = (i == j) := by
 rw [Bool.eq_iff_iff]
 simp
theorem dec_str {i j : Str} : decide (V.str i = V.str j) = (i == j) := by
 rw [Bool.eq_iff_iff]
 simp
theorem dec_byt {i j : Array UInt8} : decide (V.byt i = V.byt j) = (i.toList == j.toList) := by
 rw [Bool.eq_iff_iff]
 cases i
 cases j
 simp
section
variable {X : Cx} {a b c : Expr} {ta tb tc : TE} {pos : Pos}
theorem yC {pins : List (Addr × Obj)} {σ : St} {H : Hp} {s : Shared} {Q : VK} {k k' : Bool} (I : Inv X pins σ H s) (q : Q (.bl k) H) (e : k = k') : EP X pins σ Q (.bool k') s := by
 subst e
 exact ⟨.bl k, H, I, rfl, q⟩
theorem op_eq : OpR X (compareOp .Eq) rEq := by
 intro pins s σ H x y v u Q I rx ry h
 obtain ⟨hs, q⟩ := h
 cases x with
 | non =>
   cases rx
   cases y with
   | non => cases ry; exact PySem.EqNone.eq_none_none (yC I q (by simp))
   | bl j => cases ry; exact PySem.EqNone.eq_none_bool (yC I q (by simp))
   | int j => obtain ⟨t', rfl⟩ := ry; exact PySem.EqNone.eq_none_int (yC I q (by simp))
   | str j => obtain ⟨t', rfl⟩ := ry; exact PySem.EqNone.eq_none_str (yC I q (by simp))
   | _ => exact absurd (show false = true from hs) Bool.false_ne_true
 | bl i =>
   cases rx
   cases y with
   | non => cases ry; exact PySem.EqNone.eq_bool_none (yC I q (by simp))
   | bl j => cases ry; exact eq_bool (yC I q dec_bl)
   | str j => obtain ⟨t', rfl⟩ := ry; exact PySem.EqMixed.eq_bool_str (yC I q (by simp))
   | _ => exact absurd (show false = true from hs) Bool.false_ne_true
 | int i =>
   obtain ⟨t, rfl⟩ := rx
   cases y with
   | non => cases ry; exact PySem.EqNone.eq_int_none (yC I q (by simp))
   | int j => obtain ⟨t', rfl⟩ := ry; exact eq_int (yC I q dec_int)
   | str j => obtain ⟨t', rfl⟩ := ry; exact PySem.EqMixed.eq_int_str (yC I q (by simp))
   | _ => exact absurd (show false = true from hs) Bool.false_ne_true
 | str i =>
   obtain ⟨t, rfl⟩ := rx
   cases y with
   | non => cases ry; exact PySem.EqNone.eq_str_none (yC I q (by simp))
   | bl j => cases ry; exact PySem.EqMixed.eq_str_bool (yC I q (by simp))
   | int j => obtain ⟨t', rfl⟩ := ry; exact PySem.EqMixed.eq_str_int (yC I q (by simp))
   | str j => obtain ⟨t', rfl⟩ := ry; exact eq_str (yC I q dec_str)
   | _ => exact absurd (show false = true from hs) Bool.false_ne_true
 | byt i =>
   obtain ⟨t, rfl⟩ := rx
   cases y with
   | byt j => obtain ⟨t', rfl⟩ := ry; exact PySem.W.eq_bytes (yC I q dec_byt)
   | _ => exact absurd (show false = true from hs) Bool.false_ne_true
 | _ => cases y <;> exact absurd (show false = true from hs) Bool.false_ne_true
theorem op_lt : OpR X (compareOp .Lt) (rI0 fun i j => .bl (decide (i < j))) := opB0 fun _ _ _ _ _ _ _ q => lt_int q
theorem op_gt : OpR X (compareOp .Gt) (rI0 fun i j => .bl (decide (j < i))) := opB0 fun _ _ _ _ _ _ _ q => gt_int q
theorem op_ge : OpR X (compareOp .GtE) (rI0 fun i j => .bl (decide (j ≤ i))) := opB0 fun _ _ _ _ _ _ _ q => ge_int q
theorem kO (b : Expr) {op : CmpOp} (h : op ≠ .In := by decide) (h2 : op ≠ .NotIn := by decide) : behindInMarks op b = false := by
 have e1 : (op == CmpOp.In) = false := by cases op <;> first | rfl | exact absurd rfl h
 have e2 : (op == CmpOp.NotIn) = false := by cases op <;> first | rfl | exact absurd rfl h2
 cases b <;> simp [behindInMarks, e1, e2]
theorem pe_cmpR {op : CmpOp} {r : R2} (ho : OpR X (compareOp op) r) (ha : PE X a ta) (hb : PE X b tb) (hm : behindInMarks op b = false) : PE X (.Compare a [op] [b] pos) (tOp r ta tb) := by
 intro pins s σ H Q I h
 exact wpAny_Compare1 (binT ha hb I h fun v u s2 x y H2 I2 rx ry q => ho pins s2 σ H2 x y v u Q I2 rx ry q) hm
noncomputable def tTest (t : TE) : TT := fun σ H Q => t σ H fun x H' => ∃ k, x = .bl k ∧ Q k H'
theorem pt_cmpR {op : CmpOp} {r : R2} (ho : OpR X (compareOp op) r) (ha : PE X a ta) (hb : PE X b tb) (hm : behindInMarks op b = false) : PT X (.Compare a [op] [b] pos) (tTest (tOp r ta tb)) := by
 intro pins s σ H Q I h
 refine wpAny_isTrue_Compare1 (thn (ha pins s σ H _ I h) fun v s1 ⟨x, H1, I1, r1, q1⟩ => thn (hb pins s1 σ H1 _ I1 q1) fun u s2 ⟨y, H2, I2, r2, q2⟩ =>
   thn (ho pins s2 σ H2 x y v u _ I2 r1 r2 q2) fun c s3 ⟨z, H3, I3, r3, k, e, q3⟩ => ?_) hm
 subst e
 cases r3
 exact wpAny_truthy_bool ⟨H3, I3, q3⟩
theorem line63 : (sizeLine : Nat) < 2 ^ 63 := by rw [sizeLine_eq]; decide
theorem vals1 {x : V} {us : List Value} (r : Vals [x] us) : ∃ u, us = [u] ∧ RelV x u := by
 cases r with
 | cons r1 r2 => cases r2; exact ⟨_, rfl, r1⟩
theorem call_int1 : yD X (.type "int") (fun xs H Q => (∃ i, xs = [.int i] ∧ Q (.int i) H) ∨ ∃ k, xs = [.bl k] ∧ Q (.int (if k then 1 else 0)) H) := by
 intro pins s σ H xs us Q I r h
 rcases h with ⟨i, rfl, q⟩ | ⟨k, rfl, q⟩
 · obtain ⟨u, rfl, t, rfl⟩ := vals1 r
   exact call_int_int ⟨.int i, H, I, ⟨_, rfl⟩, q⟩
 · obtain ⟨u, rfl, r1⟩ := vals1 r
   cases r1
   exact call_int_bool ⟨.int (if k then 1 else 0), H, I.tok _, ⟨_, rfl⟩, q⟩
end
end L2
namespace L2
open PySem PySem.Spec PyProof.Rows
structure ObjM (h : Heap) (x dx C : Addr) (mA : Str → Option Value) : Prop where
 obj : h.get? x = some (PySem.W.instObj C dx)
 ns : h.Ns1 dx mA
 ne : dx ≠ x
theorem lookIn_ns {h : Heap} {dx : Addr} {mA : Str → Option Value} (n : h.Ns1 dx mA) : ∃ od, h.get? dx = some od ∧ ∀ name, PySem.W.lookIn name od = some (mA name) := by
 obtain ⟨o, es, ep, ho, hd, hk, _, hm⟩ := n
 refine ⟨o, ho, fun name => ?_⟩
 have e := hm name
 unfold nsFind findBy at e
 rw [← Array.find?_toList] at e
 unfold PySem.W.lookIn
 rw [hd]
 dsimp only
 split
 · rename_i y q
   rw [q] at e
   exact congrArg some e
 · rename_i q
   rw [q] at e
   have a : es.toList.any (·.refKey) = false := by
     rw [List.any_eq_false]
     intro y hy
     obtain ⟨z, t, hkey⟩ := hk y (Array.mem_toList_iff.mp hy)
     simp [DictEntry.refKey, hkey]
   have a' : ¬ es.toList.any (·.refKey) = true := by rw [a]; exact Bool.false_ne_true
   rw [if_neg a']
   exact congrArg some e
theorem ObjM.look {h : Heap} {x dx C : Addr} {mA : Str → Option Value} (I : ObjM h x dx C mA) : ∃ od, PySem.W.InstAt h x (PySem.W.instObj C dx) C (some od) ∧ ∀ name, PySem.W.lookIn name od = some (mA name) :=
 let ⟨od, ho, hl⟩ := lookIn_ns I.ns
 ⟨od, ⟨I.obj, rfl, rfl, ho⟩, hl⟩
section
variable {prog : Program} {w : World} {A : Around} {E : Value → Shared → Prop} {s : Shared} {K : W.Frag} {x dx C f : Addr} {mA : Str → Option Value} {name : Str} {v : Value}
end
theorem RelO.some_of {v : V} {o : Option Value} (r : RelO (some v) o) : ∃ u, o = some u ∧ RelV v u := by
 cases o with
 | none => exact (show False from r).elim
 | some u => exact ⟨u, rfl, r⟩
section
variable {P : Program} {w : World} {H H' : Hp} {h h' : Heap} {a C dx : Addr} {fs fs' : List (Str × V)}
theorem ins_get (hok : HOk P w H h) (e : H a = some (.ins C dx fs)) : ∃ mA, ObjM h a dx C mA ∧ (∀ f, RelO (fs.lookup f) (mA f)) ∧ PySem.Within mA (fs.map (·.1)) ∧ fs.length ≤ 1000 ∧ H dx = some (.own a) := by
 obtain ⟨d, z, ne, ob, mA, n, r, q⟩ := (show ObjOk P w H h a (.ins C dx fs) from hok a _ e)
 exact ⟨mA, ⟨ob, n, ne⟩, r, q, z, d⟩
end
structure Cls (K : W.Frag) (C : Addr) : Prop where
 pg : PySem.W.plainGet K C Str.empty = true
 hd : PySem.W.hasDictIn K C = true
 po : PySem.W.plainOver K C = true
 sa : PySem.W.findIn K (.ref C) "__setattr__" = some (some (.builtin "object.__setattr__"))
theorem Cls.get {K : W.Frag} {C : Addr} (c : Cls K C) (f : Str) : PySem.W.plainGet K C f = true := c.pg
section
variable {X : Cx} {pins : List (Addr × Obj)} {σ : St} {H : Hp} {s : Shared} {a C dx : Addr} {fs : List (Str × V)} {f : Str} {v : V} {A : Around} {E : Value → Shared → Prop}
end
section
variable {X : Cx} {o e value : Expr} {f : Str} {pos pos' tpos : Pos} {ta tv : TE}
end
section
variable {X : Cx} {pins : List (Addr × Obj)} {σ : St} {H : Hp} {s : Shared} {A : Around} {E : Value → Shared → Prop} {Q : Value → Shared → Prop} {c : Value} {b : Bool}
inductive TyOf (K : W.Frag) (H : Hp) : V → Value → Prop where
 | non : TyOf K H .non (.type "NoneType")
 | bl (x : Bool) : TyOf K H (.bl x) (.type "bool")
 | int (i : Int) : TyOf K H (.int i) (.type "int")
 | str (x : Str) : TyOf K H (.str x) (.type "str")
 | flt (x : UInt64) : TyOf K H (.flt x) (.type "float")
 | lst {a : Addr} {xs : List V} (e : H a = some (.lst xs)) : TyOf K H (.ref a) (.type "list")
 | frz {a : Addr} {o : Obj} {xs : List V} (e : H a = some (.frz o (.lst xs))) : TyOf K H (.ref a) (.type "list")
 | tup {a : Addr} {xs : List V} (e : H a = some (.tup xs)) : TyOf K H (.ref a) (.type "tuple")
 | dK {a : Addr} {kvs : List (Key × V)} (e : H a = some (.dK kvs)) : TyOf K H (.ref a) (.type "dict")
 | dT {a : Addr} {kvs : List (List Key × V)} (e : H a = some (.dT kvs)) : TyOf K H (.ref a) (.type "dict")
 | ins {a C dx : Addr} {fs : List (Str × V)} (e : H a = some (.ins C dx fs)) (cl : Cls K C) (ha : PySem.W.findIn K (.ref C) "__class__" = some (some (.builtin "object.__class__")))
     (hn : PySem.W.specialIn K (.builtin "object.__class__") "__get__" = some (some (.builtin "getset_descriptor.__get__"))) (htk : PySem.W.takesIn K (.builtin "object.__class__") = some true)
     (hm : PySem.W.mroIn K C (.type "object") = some true) : TyOf K H (.ref a) (.ref C)
theorem isinst_ok {x : V} {u t : Value} (I : Inv X pins σ H s) (rx : RelV x u) (ty : TyOf X.K H x t) (e : PySem.W.kitOne X.K t c = some b) (h : ∀ tk, Q (.bool b) { s with toks := tk }) :
   wpAny (model X.prog X.w) A (call (.builtin "isinstance") [u, c]) Q E s := by
 cases ty with
 | non => cases (show u = Value.none from rx); exact PySem.W.kia_one PySem.W.kitx_none I.kIn True.intro e (fun z => nomatch z) h
 | bl y => cases (show u = Value.bool y from rx); exact PySem.W.kia_one PySem.W.kitx_bool I.kIn True.intro e (fun z => nomatch z) h
 | int i => obtain ⟨t, q⟩ := (show ∃ t, u = Value.int i t from rx); cases q; exact PySem.W.kia_one PySem.W.kitx_int I.kIn True.intro e (fun z => nomatch z) h
 | str y => obtain ⟨t, q⟩ := (show ∃ t, u = Value.str y t from rx); cases q; exact PySem.W.kia_one PySem.W.kitx_str I.kIn True.intro e (fun z => nomatch z) h
 | flt y => obtain ⟨t, q⟩ := (show ∃ t, u = Value.float y t from rx); cases q; exact PySem.W.kia_one PySem.W.kitx_float I.kIn True.intro e (fun z => nomatch z) h
 | @lst a xs ea =>
   cases (show u = Value.ref a from rx)
   obtain ⟨_, _, n, _, h1⟩ := (show ObjOk X.prog X.w H s.heap a (.lst xs) from I.hok a _ ea)
   exact PySem.W.kia_one PySem.W.kitx_list I.kIn ⟨_, h1, rfl⟩ e (fun z => nomatch z) h
 | @frz a ob xs ea =>
   cases (show u = Value.ref a from rx)
   obtain ⟨_, _, _, n, _, h1⟩ := (show ObjOk X.prog X.w H s.heap a (.frz ob (.lst xs)) from I.hok a _ ea)
   exact PySem.W.kia_one PySem.W.kitx_list I.kIn ⟨_, h1, rfl⟩ e (fun z => nomatch z) h
 | @tup a xs ea =>
   cases (show u = Value.ref a from rx)
   obtain ⟨_, _, _, p⟩ := (show ObjOk X.prog X.w H s.heap a (.tup xs) from I.hok a _ ea)
   obtain ⟨o, h1, h2, _⟩ := p.isTup
   exact PySem.W.kia_one PySem.W.kitx_tuple I.kIn ⟨o, h1, h2⟩ e (fun z => nomatch z) h
 | @dK a kvs ea =>
   cases (show u = Value.ref a from rx)
   obtain ⟨_, _, vs, _, p⟩ := (show ObjOk X.prog X.w H s.heap a (.dK kvs) from I.hok a _ ea)
   obtain ⟨o, es, ep, h1, h2, _⟩ := p
   exact PySem.W.kia_one PySem.W.kitx_dict I.kIn ⟨o, h1, h2.1⟩ e (fun z => nomatch z) h
 | @dT a kvs ea =>
   cases (show u = Value.ref a from rx)
   obtain ⟨_, _, xs, _, o, es, ep, h1, h2, _⟩ := (show ObjOk X.prog X.w H s.heap a (.dT kvs) from I.hok a _ ea)
   exact PySem.W.kia_one PySem.W.kitx_dict I.kIn ⟨o, h1, h2.1⟩ e (fun z => nomatch z) h
 | @ins a C dx fs ea cl ha hn htk hm =>
   cases (show u = Value.ref a from rx)
   obtain ⟨mA, O, _⟩ := ins_get I.hok ea
   obtain ⟨od, J, _⟩ := O.look
   exact PySem.W.kia_one (PySem.W.kitx_own (cl.get _) cl.hd ha hn htk hm) I.kIn J e (fun z => nomatch z) h
end
end L2
namespace L2
open PySem PySem.Spec PyProof.Rows
structure Room (k : Nat) (A : Around) : Prop where
 hd : A.handled = none
 dp : A.depth + 3 * k + 5 < recursionLimit
 un : A.units + 16 * k + 200 < cLine
theorem Room.mono {j k : Nat} {A : Around} (r : Room k A) (h : j ≤ k) : Room j A := ⟨r.hd, by have := r.dp; lia, by have := r.un; lia⟩
theorem Room.deeper {k : Nat} {A : Around} (r : Room (k + 1) A) (env : Env) : Room k (A.deeper env) :=
 ⟨r.hd, by have := r.dp; show A.depth + 1 + 3 * k + 5 < _; lia, by have := r.un; show A.units + 3 + 16 * k + 200 < _; lia⟩
theorem Room.depth {k : Nat} {A : Around} (r : Room k A) : A.depth < recursionLimit := by have := r.dp; lia
theorem Room.units {k : Nat} {A : Around} (r : Room k A) : A.units + 64 < cLine := by have := r.un; lia
theorem Room.units0 {k : Nat} {A : Around} (r : Room k A) : A.units < cLine := by have := r.un; lia
noncomputable def tNil : TA := fun _ H Q => Q [] H
noncomputable def tCons (ta : TE) (tr : TA) : TA := fun σ H Q => ta σ H fun x H1 => tr σ H1 fun xs H2 => Q (x :: xs) H2
section
variable {X : Cx} {e : Expr} {es : List Expr} {te : TE} {t : TA} {pos : Pos}
theorem kS : PA X [] tNil := fun _ _ _ _ H Q I h => Calls.spliced_nil ⟨[], H, I, .nil, h⟩
theorem jN (ha : PE X e te) (hr : PA X es t) (hs : starEach (e :: es) X.env = (false, eval e X.env) :: starEach es X.env := by rfl) : PA X (e :: es) (tCons te t) := by
 intro pos pins s σ H Q I h
 rw [hs]
 show wpAny _ _ (spliced ((false, eval e X.env) :: backTo pos (starEach es X.env))) _ _ s
 refine Calls.spliced_cons (thn (ha pins s σ H _ I h) fun u s1 ⟨x, H1, I1, r1, q1⟩ => ?_)
 exact thn (hr pos pins s1 σ H1 _ I1 q1) fun us s2 ⟨xs, H2, I2, r2, q2⟩ => ⟨x :: xs, H2, I2, .cons r1 r2, q2⟩
noncomputable def tTup (t : TA) : TE := fun σ H Q => t σ H fun xs H1 => xs.length ≤ sizeLine ∧ ∀ p, H1 p = none → Q (.ref p) (upd H1 p (.tup xs))
noncomputable def tLst (t : TA) : TE := fun σ H Q => t σ H fun xs H1 => xs.length ≤ sizeLine ∧ ∀ p, H1 p = none → Q (.ref p) (upd H1 p (.lst xs))
theorem pe_tup {x1} (h : PA X es t) : PE X (.Tuple es x1 pos) (tTup t) := by
 intro pins s σ H Q I hq
 refine wpAny_Tuple_spliced (thn (h pos pins s σ H _ I hq) fun us s1 ⟨xs, H1, I1, r, z, q⟩ => ⟨by rw [← r.length]; exact z, ?_⟩)
 have hf : H1 s1.heap.objs.size = none := I1.hok.fresh (Nat.le_refl _)
 refine ⟨.ref s1.heap.objs.size, upd H1 s1.heap.objs.size (.tup xs), I1.laid (t' := s1.toks) (fun b u e => Heap.get?_push_of_some _ e) (Nat.le_refl _) ?_, rfl, q _ hf⟩
 exact ⟨z, us, r, TupO.new _ _⟩
theorem pe_lst (h : PA X es t) : PE X (.List es pos) (tLst t) := by
 intro pins s σ H Q I hq
 refine wpAny_List_spliced (thn (h pos pins s σ H _ I hq) fun us s1 ⟨xs, H1, I1, r, z, q⟩ => ⟨by rw [← r.length]; exact z, ?_⟩)
 have hf : H1 s1.heap.objs.size = none := I1.hok.fresh (Nat.le_refl _)
 refine ⟨.ref s1.heap.objs.size, upd H1 s1.heap.objs.size (.lst xs), I1.laid (t' := s1.toks) (fun b u e => Heap.get?_push_of_some _ e) (Nat.le_refl _) ?_, rfl, q _ hf⟩
 exact ⟨z, us, 0, r, Heap.get?_push_size _ rfl⟩
end
noncomputable abbrev Sp := List V → Hp → VK → XK → Prop
noncomputable abbrev CXT := List Env → Hp → Shared → XK → Value → Shared → Prop
structure Env0 (P : Program) (w : World) (K : W.Frag) (mg : Str → Option Value) (base : Heap) (A : Around) (outer : List Env) (s : Shared) (H : Hp) : Prop where
 frames : A.frames = some outer
 mod : Mod K mg base
 bs : ∀ b o, base.get? b = some o → s.heap.get? b = some o ∧ H b = none
 bsz : base.objs.size ≤ s.heap.objs.size
 funs : s.heap.FunFrames base outer
 frf : ∀ b ∈ frs outer, H b = none
 hok : HOk P w H s.heap
 bare : AllBare s.gens
noncomputable def CE (outer : List Env) (P : Program) (w : World) (H : Hp) (s : Shared) (Q : VK) (u : Value) (s' : Shared) : Prop :=
 ∃ v H', s'.os = s.os ∧ AllBare s'.gens ∧ Un (frs outer) [] H H' s.heap s'.heap ∧ HOk P w H' s'.heap ∧ RelV v u ∧ Q v H'
noncomputable def CR (CX : CXT) (outer : List Env) (P : Program) (w : World) (H : Hp) (s : Shared) (Q : VK) (E : XK) (r : Result) (s' : Shared) : Prop :=
 match r with
 | .ok (.ret u) => CE outer P w H s Q u s'
 | .ok _ => False
 | .error e => CX outer H s E e s'
structure FnOk (P : Program) (w : World) (K : W.Frag) (mg : Str → Option Value) (base : Heap) (CX : CXT) (k : Nat) (f : Addr) (fd : FuncData) (ps : List Str) (sp : Sp) : Prop where
 len : ∀ vs H Q E, sp vs H Q E → vs.length = ps.length
 run : ∀ (A : Around) (outer : List Env) (s : Shared) (H : Hp) (args : Args) (us : List Value) (vs : List V) (Q : VK) (E : XK), Room k A → Env0 P w K mg base A outer s H → BindsTo s fd args (ps.zip us) → Vals vs us → sp vs H Q E →
   codeAny (model P w) A (.call (.ref f) args) (CR CX outer P w H s Q E) s
section
variable {X : Cx} {pins : List (Addr × Obj)} {σ : St} {H : Hp} {s s' : Shared}
theorem Inv.env0 (I : Inv X pins σ H s) : Env0 X.prog X.w X.K X.mg X.base X.A X.stack s H :=
 ⟨I.ok.frames, I.ok.mod, I.bs, Nat.le_trans I.ok.bsz I.sz, I.stack, I.stkFree, I.hok, I.bare⟩
theorem Inv.after {Q : VK} {u : Value} (I : Inv X pins σ H s) (h : CE X.stack X.prog X.w H s Q u s') : EP X pins σ Q u s' := by
 obtain ⟨v, H', os, bare, un, hok, r, q⟩ := h
 obtain ⟨hh, g, d, t, os'⟩ := s'
 obtain rfl : os' = s.os := os
 exact ⟨v, H', I.call (h' := hh) (g' := g) (d' := d) (t' := t) (ch := []) un hok bare (fun b z => absurd z (by simp)), r, q⟩
end
noncomputable def tCall (sp : Sp) (dvs : List V) (E : XK) (t : TA) : TE := fun σ H Q => t σ H fun vs H1 => sp (vs ++ dvs) H1 Q E
noncomputable def Binds (K : W.Frag) (fd : FuncData) (ps : List Str) (ds : List Value) : Prop :=
 ∀ (s : Shared) (us : List Value), K.In s.heap → (us ++ ds).length = ps.length → BindsTo s fd ⟨us, []⟩ (ps.zip (us ++ ds))
theorem Binds.all {K : W.Frag} {fd : FuncData} {ps : List Str} (h : ∀ us : List Value, us.length = ps.length → bindArgs fd ⟨us, []⟩ = pure (ps.zip us)) : Binds K fd ps [] := fun s us _ hl => by
 rw [List.append_nil] at hl ⊢
 exact .of_eq (h us hl)
noncomputable def Passes (CX : CXT) (X : Cx) (E : XK) : Prop := ∀ (pins : List (Addr × Obj)) (σ : St) (H : Hp) (s : Shared) (e : Value) (s' : Shared), Inv X pins σ H s → CX X.stack H s E e s' → X.xe e s'
section
variable {X : Cx} {CX : CXT} {k : Nat} {f C : Addr} {fd : FuncData} {ps : List Str} {sp : Sp} {dvs : List V} {ds : List Value} {E : XK} {x m : Str} {p pos apos : Pos} {e o : Expr} {es : List Expr} {ta : TE} {t : TA}
theorem run_fn {pins : List (Addr × Obj)} {σ : St} {H : Hp} {s : Shared} {Q : VK} {us : List Value} {vs : List V} (F : FnOk X.prog X.w X.K X.mg X.base CX k f fd ps sp) (hr : Room k X.A) (hb : Binds X.K fd ps ds) (hd : Vals dvs ds) (hx : Passes CX X E)
   (I : Inv X pins σ H s) (r : Vals vs us) (h : sp (vs ++ dvs) H Q E) : wpAny (model X.prog X.w) X.A (call (.ref f) us) (EP X pins σ Q) X.xe s := by
 have r2 : Vals (vs ++ dvs) (us ++ ds) := r.append hd
 have hl : (us ++ ds).length = ps.length := by rw [← r2.length]; exact F.len _ _ _ _ h
 refine wpAny_call (codeAny_mono (F.run X.A X.stack s H ⟨us, []⟩ (us ++ ds) (vs ++ dvs) Q E hr I.env0 (hb s us I.kIn hl) r2 h) fun r s' hq => ?_)
 cases r with
 | error e => exact hx pins σ H s e s' I hq
 | ok fl =>
   cases fl with
   | ret u => exact I.after hq
   | next => exact False.elim hq
   | brk => exact False.elim hq
   | cont => exact False.elim hq
theorem pe_call (F : FnOk X.prog X.w X.K X.mg X.base CX k f fd ps sp) (hr : Room k X.A) (hg : Gl X x) (hm : X.mg x = some (.ref f)) (hk : PySem.W.keepIn X.K (.ref f) = true) (hb : Binds X.K fd ps ds) (hd : Vals dvs ds) (hx : Passes CX X E)
   (ha : PA X (e :: es) t) (hdb : (x == ("__debug__" : Str)) = false := by decide) (he : starEach (e :: es) X.env = (false, eval e X.env) :: starEach es X.env := by rfl) (hpl : (backTo pos (starEach es X.env)).any (·.1) = false := by rfl) :
   PE X (.Call (.Name x p) (e :: es) [] pos) (tCall sp dvs E t) := by
 intro pins s σ H Q I h
 refine wpAny_Call_Name_kw (ld_glob I hg hm ?_ hdb)
 refine PySem.W.callWith_K (h₀ := X.base) I.ok.mod.kin hk (thn (ha pos pins s σ H _ I h) fun us s1 ⟨vs, H1, I1, r, q⟩ => ⟨I1.kIn, ?_⟩) he hpl
 exact run_fn F hr hb hd hx I1 r q
end
section
variable {X : Cx} {CX : CXT} {k : Nat} {f C : Addr} {fd : FuncData} {ps ks : List Str} {sp : Sp} {E : XK} {x m : Str} {p pos apos kpos : Pos} {e o : Expr} {es : List Expr} {kws : List Keyword} {te ta : TE} {t tk : TA} {nm : Option Str}
variable {g : List Value → List Value → List Value} {gV : List V → List V → List V}
end
structure FnScope (N P : List Str) (sc : Scope) : Prop where
 kind : sc.kind = .function
 co : sc.isCoroutine = false
 gen : sc.isGenerator = false
 nd : N.Nodup
 pre : N.take P.length = P
 par : ∀ x ∈ P, sc.names.lookup x = some .local ∨ sc.names.lookup x = some .cell
 nofree : ∀ y ∈ sc.names, y.2 ≠ .free
theorem bindL_out {kindOf : Str → Option NameKind} {x : Str} : ∀ {binds : List (Str × Value)} {m : Str → Option Value}, (∀ v, (x, v) ∉ binds) → bindL kindOf binds m x = m x
 | [], _, _ => rfl
 | (n, v) :: r, m, h => by
   unfold bindL
   rw [bindL_out fun w hw => h w (List.mem_cons_of_mem _ hw)]
   split
   · have : x ≠ n := by rintro rfl; exact h v List.mem_cons_self
     simp [this]
   · rfl
theorem bindC_out {kindOf : Str → Option NameKind} {x : Str} : ∀ {binds : List (Str × Value)} {m : Str → Option Value}, (∀ v, (x, v) ∉ binds) → bindC kindOf binds m x = m x
 | [], _, _ => rfl
 | (n, v) :: r, m, h => by
   unfold bindC
   rw [bindC_out fun w hw => h w (List.mem_cons_of_mem _ hw)]
   split
   · rfl
   · have : x ≠ n := by rintro rfl; exact h v List.mem_cons_self
     simp [this]
theorem bindL_get {kindOf : Str → Option NameKind} {x : Str} {v : Value} : ∀ {P : List Str} {vs : List Value} {i : Nat} {m : Str → Option Value}, P.Nodup → P[i]? = some x → vs[i]? = some v → kindOf x = some .local →
   bindL kindOf (P.zip vs) m x = some v
 | [], _, _, _, _, h, _, _ => by simp at h
 | _ :: _, [], _, _, _, _, h, _ => by simp at h
 | p :: P, w :: vs, 0, m, nd, h1, h2, hk => by
   simp at h1 h2; subst h1; subst h2
   show bindL kindOf ((p, w) :: P.zip vs) m p = _
   unfold bindL
   rw [bindL_out fun v hv => (List.nodup_cons.mp nd).1 (List.of_mem_zip hv).1, if_pos hk]
   simp
 | p :: P, w :: vs, i + 1, m, nd, h1, h2, hk => by
   show bindL kindOf ((p, w) :: P.zip vs) m x = _
   unfold bindL
   exact bindL_get (i := i) (List.nodup_cons.mp nd).2 (by simpa using h1) (by simpa using h2) hk
theorem bindC_get {kindOf : Str → Option NameKind} {x : Str} {v : Value} : ∀ {P : List Str} {vs : List Value} {i : Nat} {m : Str → Option Value}, P.Nodup → P[i]? = some x → vs[i]? = some v → kindOf x ≠ some .local →
   bindC kindOf (P.zip vs) m x = some v
 | [], _, _, _, _, h, _, _ => by simp at h
 | _ :: _, [], _, _, _, _, h, _ => by simp at h
 | p :: P, w :: vs, 0, m, nd, h1, h2, hk => by
   simp at h1 h2; subst h1; subst h2
   show bindC kindOf ((p, w) :: P.zip vs) m p = _
   unfold bindC
   rw [bindC_out fun v hv => (List.nodup_cons.mp nd).1 (List.of_mem_zip hv).1, if_neg hk]
   simp
 | p :: P, w :: vs, i + 1, m, nd, h1, h2, hk => by
   show bindC kindOf ((p, w) :: P.zip vs) m x = _
   unfold bindC
   exact bindC_get (i := i) (List.nodup_cons.mp nd).2 (by simpa using h1) (by simpa using h2) hk
noncomputable def kR (N : List Str) (vs : List V) : St := vs.map some ++ List.replicate (N.length - vs.length) none
noncomputable def cxOf (CX : CXT) (P : Program) (w : World) (K : W.Frag) (mg : Str → Option Value) (base : Heap) (N : List Str) (qual : Str) (scope : Scope) (f : Addr) (cd : Value) (A : Around) (outer : List Env) (s : Shared) (H : Hp) (E : XK) : Cx where
 prog := P
 w := w
 K := K
 mg := mg
 base := base
 A := A.deeper (envOfC qual scope s.heap.objs.size f cd)
 N := N
 s₀ := s
 H₀ := H
 env := envOfC qual scope s.heap.objs.size f cd
 outer := outer
 stack := envOfC qual scope s.heap.objs.size f cd :: outer
 ex := []
 calm := true
 fn := fun _ => true
 pn := []
 xe := fun e s' => wpAny (model P w) (A.deeper (envOfC qual scope s.heap.objs.size f cd)) (leaving (envOfC qual scope s.heap.objs.size f cd) e) (fun _ s'' => CX outer H s E e s'') (fun e' s'' => CX outer H s E e' s'') s'
theorem cell_has {sc : Scope} {n : Nat} {x : Str} (h : sc.names.lookup x = some .cell) : ∃ c, (cellsFrom n sc.names []).lookup x = some c := by
 have q := PySem.W.cellsFrom_some sc.names n [] (.inl h)
 exact Option.isSome_iff_exists.mp q
theorem inv_start {CX : CXT} {P : Program} {w : World} {K : W.Frag} {mg : Str → Option Value} {base : Heap} {N ps : List Str} {qual : Str} {scope : Scope} {f : Addr} {cd : Value} {A : Around} {outer : List Env} {s s1 : Shared} {H : Hp} {E : XK} {us : List Value} {vs : List V}
   (S : FnScope N ps scope) (hd : A.handled = none) (e0 : Env0 P w K mg base A outer s H) (hl : vs.length = ps.length) (r : Vals vs us)
   (x : InCallC s s.heap.objs.size (bindL (envOfC qual scope s.heap.objs.size f cd).kindOf (ps.zip us) fun _ => none) (cellsFrom (s.heap.objs.size + 1) scope.names []) (bindC (envOfC qual scope s.heap.objs.size f cd).kindOf (ps.zip us) fun _ => none) s1) :
   Inv (cxOf CX P w K mg base N qual scope f cd A outer s H E) [] (kR N vs) H s1 := by
 have hpl : ps.length ≤ N.length := by have := congrArg List.length S.pre; rw [List.length_take] at this; lia
 obtain ⟨h1, tk, rfl, hk⟩ := x.done
 have noA : ∀ b : Addr, b ∉ (cxOf CX P w K mg base N qual scope f cd A outer s H E).ex := fun b z => absurd (show b ∈ ([] : List Addr) from z) (by simp)
 refine ⟨⟨e0.mod, S.kind, rfl, rfl, Nat.le_refl _, fun y z c h1 h2 => ?_, fun y hy => ?_, fun y c _ h => ?_, fun _ => hd, Around.frames_deeper e0.frames, .inr ⟨rfl, rfl⟩, fun b z => absurd z (noA b), e0.bs, e0.bsz, fun b _ _ => noA b, fun b z => absurd z (noA b), e0.funs, e0.frf⟩,
   rfl, e0.bare, Un.kept hk, ⟨_, x.toInCall.ns, fun i y v h1 h2 h3 => ?_⟩, fun y c h => ⟨_, x.cell y c h⟩, e0.hok.fresh (Nat.le_refl _), fun y c h => ?_, fun p hp => absurd (show p ∈ ([] : List (Addr × Obj)) from hp) (by simp), e0.hok.kept hk, ?_⟩
 · exact name_of_addr x.apart (PySem.mem_of_lookup h1) (PySem.mem_of_lookup h2)
 · have hy : scope.names.lookup y = some .cell ∨ scope.names.lookup y = some .free := hy
   rcases hy with hy | hy
   · exact cell_has hy
   · exact absurd rfl (S.nofree _ (PySem.mem_of_lookup hy))
 · exact Nat.le_of_lt (x.above y c (PySem.mem_of_lookup h))
 · have hi : i < vs.length := by
     unfold kR at h2
     by_cases hi : i < vs.length
     · exact hi
     · rw [List.getElem?_append_right (by simpa using hi)] at h2
       rw [List.getElem?_replicate] at h2
       split at h2 <;> cases h2
   have ha : vs[i]? = some v := by
     unfold kR at h2
     rw [List.getElem?_append_left (by simpa using hi), List.getElem?_map] at h2
     cases e : vs[i]? with
     | none => rw [e] at h2; cases h2
     | some a => rw [e] at h2; cases h2; rfl
   obtain ⟨u, hu, rv⟩ := r.get ha
   have hp : ps[i]? = some y := by
     rw [← S.pre, List.getElem?_take_of_lt (by lia)]; exact h1
   have ndP : ps.Nodup := by rw [← S.pre]; exact S.nd.sublist (List.take_sublist _ _)
   refine ⟨u, rv, ?_⟩
   rcases S.par y (List.mem_of_getElem? hp) with k | k
   · exact .inl ⟨k, bindL_get ndP hp hu k⟩
   · obtain ⟨c, e⟩ := cell_has (n := s.heap.objs.size + 1) k
     refine .inr ⟨.inl k, c, e, ?_⟩
     have q := x.cell y c e
     rw [bindC_get ndP hp hu (by show scope.names.lookup y ≠ _; rw [k]; decide)] at q
     exact q
 · exact e0.hok.fresh (Nat.le_of_lt (x.above y c (PySem.mem_of_lookup h)))
 · unfold kR
   show _ = N.length
   rw [List.length_append, List.length_map, List.length_replicate]
   lia
theorem fn_of {CX : CXT} {P : Program} {w : World} {K : W.Frag} {mg : Str → Option Value} {base : Heap} {k : Nat} {f : Addr} {name qual : Str} {params : Arguments} {body : List Stmt} {scope : Scope} {dV kV doc pm cdv ct oc : Value} {an od : Option Addr}
   {osl : Array (Option Value)} {N ps : List Str} {sp : Sp} (lk : K.lookup f = some ⟨oc, od, .func (PySem.W.fnOf name qual params body scope dV kV doc pm an cdv ct), osl⟩) (hcd : PySem.W.codeIn K cdv qual = true) (S : FnScope N ps scope)
   (len : ∀ vs H Q E, sp vs H Q E → vs.length = ps.length)
   (hbody : ∀ (A : Around) (outer : List Env) (s : Shared) (H : Hp) (vs : List V) (Q : VK) (E : XK), Room k (A.deeper (envOfC qual scope s.heap.objs.size f cdv)) → sp vs H Q E →
     ∃ t, PSs (cxOf CX P w K mg base N qual scope f cdv A outer s H E) body t ∧ t { nx := fun _ H' => Q .non H', rt := Q } (kR N vs) H) :
   FnOk P w K mg base CX (k + 1) f (PySem.W.fnOf name qual params body scope dV kV doc pm an cdv ct) ps sp := by
 refine ⟨len, fun A outer s H args us vs Q E hr e0 hb r hsp => ?_⟩
 have hl := len _ _ _ _ hsp
 have KX : K.In s.heap := e0.mod.kin.keeps fun b o e => (e0.bs b o e).1
 have lim : s.heap.NoLimit := e0.mod.nolimit.keeps fun b o e => (e0.bs b o e).1
 have hkind : ∀ y ∈ ps.zip us, scope.names.lookup y.1 = some .local ∨ (scope.names.lookup y.1 = some .cell ∧ ((cellsFrom (s.heap.objs.size + 1) scope.names []).lookup y.1).isSome = true) := fun ⟨n, v⟩ hy => by
   rcases S.par n (List.of_mem_zip hy).1 with q | q
   · exact .inl q
   · exact .inr ⟨q, PySem.W.cellsFrom_some _ _ _ (.inl q)⟩
 refine codeAny_call_function hr.depth (KX _ _ lk) rfl S.co S.gen rfl (PySem.W.codeRec_of KX hcd) (hb _ _ _ _ ?_)
 refine wpAny_newFunctionEnv_cells S.kind hkind fun env he s1 x => ?_
 subst he
 refine ⟨lim.keeps x.toInCall.keep, codeAny_func ?_⟩
 obtain ⟨t, ht, hq⟩ := hbody A outer s H vs Q E (hr.deeper _) hsp
 have I : Inv (cxOf CX P w K mg base N qual scope f cdv A outer s H E) [] (kR N vs) H s1 := inv_start S hr.hd e0 hl r x
 refine wpAny_mono (ht [] s1 (kR N vs) H _ I hq) (fun fl s' hs => ?_) fun e s' hs => hs
 have fin : ∀ {σ' : St} {H' : Hp} {v : V} {u : Value}, Inv (cxOf CX P w K mg base N qual scope f cdv A outer s H E) [] σ' H' s' → RelV v u → Q v H' → CE outer P w H s Q u s' :=
   fun {σ' H' v u} J rv q => ⟨v, H', J.os, J.bare, J.base, J.hok, rv, q⟩
 cases fl with
 | ret u =>
   obtain ⟨v, σ', H', J, rv, q⟩ := hs
   exact fin J rv q
 | next =>
   obtain ⟨σ', H', J, q⟩ := hs
   exact fin (v := V.non) (u := Value.none) J rfl q
 | brk =>
   obtain ⟨_, _, _, q⟩ := hs
   exact False.elim q
 | cont =>
   obtain ⟨_, _, _, q⟩ := hs
   exact False.elim q
end L2
namespace L2
open PySem PySem.Spec PyProof.Rows
section
variable {X : Cx} {x : Str} {p pos : Pos} {e : Expr} {es : List Expr} {t : TA} {id T : String} {r : List V → Hp → VK → Prop}
noncomputable def tCB (r : List V → Hp → VK → Prop) (t : TA) : TE := fun σ H Q => t σ H fun vs H1 => r vs H1 Q
theorem pe_callB (hc : yD X (.builtin id) r) (hg : Gl X x) (hm : X.mg x = none) (hv : bootBuiltins x = some (.builtin id)) (ha : PA X (e :: es) t) (hn : x ≠ "__name__" := by decide) (hdb : (x == ("__debug__" : Str)) = false := by decide)
   (he : starEach (e :: es) X.env = (false, eval e X.env) :: starEach es X.env := by rfl) (hpl : (backTo pos (starEach es X.env)).any (·.1) = false := by rfl) : PE X (.Call (.Name x p) (e :: es) [] pos) (tCB r t) := by
 intro pins s σ H Q I h
 refine wpAny_Call_Name_kw (ld_blt I hg hm hv ?_ hn hdb)
 exact PyProof.Rows.callWith_builtin1 (thn (ha pos pins s σ H _ I h) fun us s1 ⟨vs, H1, I1, r1, q1⟩ => hc pins s1 σ H1 vs us Q I1 r1 q1) he hpl
theorem pe_callTy (hc : yD X (.type T) r) (hg : Gl X x) (hm : X.mg x = none) (hv : bootBuiltins x = some (.type T)) (ha : PA X (e :: es) t) (hn : x ≠ "__name__" := by decide) (hdb : (x == ("__debug__" : Str)) = false := by decide)
   (he : starEach (e :: es) X.env = (false, eval e X.env) :: starEach es X.env := by rfl) (hpl : (backTo pos (starEach es X.env)).any (·.1) = false := by rfl) : PE X (.Call (.Name x p) (e :: es) [] pos) (tCB r t) := by
 intro pins s σ H Q I h
 refine wpAny_Call_Name_kw (ld_blt I hg hm hv ?_ hn hdb)
 exact PyProof.Rows.callWith_type1 (thn (ha pos pins s σ H _ I h) fun us s1 ⟨vs, H1, I1, r1, q1⟩ => hc pins s1 σ H1 vs us Q I1 r1 q1) he hpl
end
end L2
namespace HT
open PySem PyProof.Rows
section
open PySem.SeqAt
open PySem.AutoSeq1 (wpAny_loadPart')
open PySem.MeetsSeq PySem.MeetsSeq2 PySem.MeetsSeq3
end
section
variable {prog : Program} {w : World} {A : Around} {E : Value → Shared → Prop} {s : Shared}
theorem cat_tup {t b : Addr} {vs ws : List Value} {Q : Value → Shared → Prop} (ht : IsTup s.heap t vs.toArray) (hb : IsTup s.heap b ws.toArray) (hv : vs ≠ [])
   (h1 : ws = [] → Q (.ref t) s) (h2 : ws ≠ [] → Q (.ref s.heap.objs.size) { s with heap := s.heap.push { cls := .type "tuple", data := .seq (vs ++ ws).toArray } })
   (hsz : vs.length + ws.length ≤ sizeLine) : wpAny (model prog w) A (binaryOp .Add (.ref t) (.ref b)) Q E s := by
 obtain ⟨⟨cls, dd, data, sl⟩, ho, hc, n, hd⟩ := id ht
 obtain ⟨⟨cls2, dd2, data2, sl2⟩, ho2, hc2, n2, hd2⟩ := id hb
 simp only at hc hd hc2 hd2
 subst hc hd hc2 hd2
 have e : vs.toArray ++ ws.toArray = (vs ++ ws).toArray := by simp
 by_cases hw : ws = []
 · exact concat_meets ⟨_, ho, rfl⟩ ⟨_, ho2, rfl⟩ noFill_tuple_add seq_tuple_add PySem.F.slot_tuple_add PySem.F.entry_tuple_add (PySem.F.args_tuple_add_2 _ _)
     (tuple_addW1 t b vs.toArray ws.toArray n n2 dd dd2 sl sl2 (by simpa using hv) (by simp [hw])) ⟨ho, ho2, h1 hw⟩
 · refine concat_meets ⟨_, ho, rfl⟩ ⟨_, ho2, rfl⟩ noFill_tuple_add seq_tuple_add PySem.F.slot_tuple_add PySem.F.entry_tuple_add (PySem.F.args_tuple_add_2 _ _)
     (tuple_addW2 t b vs.toArray ws.toArray n n2 dd dd2 sl sl2 (by simpa using hv) (by simpa using hw) (by rw [List.size_toArray, List.size_toArray]; exact hsz)) ⟨ho, ho2, ?_⟩
   rw [e]
   exact h2 hw
noncomputable def sIx (n d : Nat) : Option Int → Nat
 | none => d
 | some v => if v < 0 then (v + (n : Int)).toNat else min v.toNat n
theorem sIx_le (n d : Nat) (hd : d ≤ n) (o : Option Int) : sIx n d o ≤ n := by
 cases o with
 | none => exact hd
 | some v =>
   show (if v < 0 then (v + (n : Int)).toNat else min v.toNat n) ≤ n
   by_cases hv : v < 0
   · rw [if_pos hv]; lia
   · rw [if_neg hv]; exact Nat.min_le_right _ _
theorem clip_eq (v : Int) (n d : Nat) : (if v < 0 then max (v + (n : Int)) 0 else min v (n : Int)) = ((sIx n d (some v) : Nat) : Int) := by
 show (if v < 0 then max (v + (n : Int)) 0 else min v (n : Int)) = (((if v < 0 then (v + (n : Int)).toNat else min v.toNat n) : Nat) : Int)
 by_cases hv : v < 0
 · simp only [if_pos hv]; lia
 · simp only [if_neg hv]; lia
theorem adjust_gen (lo hi : Option Int) (n : Nat) : Builtin.Slice.sliceAdjust lo hi 1 (n : Int) = (((sIx n 0 lo : Nat) : Int), ((sIx n n hi : Nat) : Int)) := by
 have h1 : ¬ ((1 : Int) < 0) := by lia
 unfold Builtin.Slice.sliceAdjust
 simp only [h1, if_false]
 refine Prod.ext ?_ ?_
 · cases lo with
   | none => rfl
   | some v => exact clip_eq v n 0
 · cases hi with
   | none => rfl
   | some v => exact clip_eq v n n
theorem places_gen (i j : Nat) : Builtin.Slice.slicePlaces (i : Int) (j : Int) 1 = j - i := by
 unfold Builtin.Slice.slicePlaces
 have h1 : (1 : Int) > 0 := by lia
 simp only [h1, if_true, Int.ediv_one]
 split <;> lia
theorem slicePart_ {v : Value} {o : Option Int} {Q : Option Int → Shared → Prop} (p : IsPart v o) (h : Q o s) : wpAny (model prog w) A (Builtin.Slice.slicePartIndex v) Q E s := by
 cases p with
 | none => exact slicePart_none h
 | int i t => exact slicePart_int h
theorem sliceApplied_gen {sl : Addr} {vl vu : Value} {lo hi : Option Int} {n : Nat} {Q : Int × Int × Nat → Shared → Prop} (hs : s.heap.IsSliceOf sl vl vu .none) (pl : IsPart vl lo) (pu : IsPart vu hi)
   (h : Q (((sIx n 0 lo : Nat) : Int), 1, sIx n n hi - sIx n 0 lo) s) : wpAny (model prog w) A (Builtin.Slice.sliceApplied (.ref sl) (pure (n : Int))) Q E s := by
 obtain ⟨os, hos, hcs, hds⟩ := id hs
 unfold Builtin.Slice.sliceApplied Builtin.Slice.sliceFields
 refine wpAny_bind (wpAny_bind (wpAny_field hos hds (x := vl) rfl (wpAny_bind (wpAny_field hos hds (x := vu) rfl (wpAny_bind (wpAny_field hos hds (x := .none) rfl (wpAny_pure ?_)))))))
 refine wpAny_bind (slicePart_none ?_)
 show wpAny _ _ (if ((1 : Int) == 0) = true then _ else _) _ _ s
 rw [if_neg (by decide)]
 refine wpAny_bind (slicePart_ pl (wpAny_bind (slicePart_ pu (wpAny_bind (wpAny_pure ?_)))))
 show wpAny _ _ (match Builtin.Slice.sliceAdjust lo hi 1 (n : Int) with | (lo, hi) => pure (lo, (1 : Int), Builtin.Slice.slicePlaces lo hi 1)) _ _ s
 rw [adjust_gen lo hi n]
 show wpAny _ _ (pure (((sIx n 0 lo : Nat) : Int), (1 : Int), Builtin.Slice.slicePlaces ((sIx n 0 lo : Nat) : Int) ((sIx n n hi : Nat) : Int) 1)) _ _ s
 rw [places_gen]
 exact wpAny_pure h
theorem pick_gen (xs : Array Value) (i k : Nat) : ((List.range k).filterMap fun (m : Nat) => xs[((i : Int) + (m : Int) * 1).toNat]?).toArray = ((xs.toList.drop i).take k).toArray := by
 have e : (fun (m : Nat) => xs[((i : Int) + (m : Int) * 1).toNat]?) = fun m => xs[i + m]? := by
   funext m
   have : ((i : Int) + (m : Int) * 1).toNat = i + m := by lia
   rw [this]
 rw [e]
 have := pick_run xs i k
 rw [List.filterMap_map] at this
 have e2 : ((fun x => xs[x]?) ∘ fun x => i + x) = fun m => xs[i + m]? := rfl
 rw [e2] at this
 rw [this]
theorem getItem_tuple_cut {t sl : Addr} {items : Array Value} {vl vu : Value} {lo hi : Option Int} {Q : Value → Shared → Prop} (ht : IsTup s.heap t items) (hs : s.heap.IsSliceOf sl vl vu .none) (pl : IsPart vl lo) (pu : IsPart vu hi)
   (hw : ¬ (sIx items.size 0 lo = 0 ∧ sIx items.size items.size hi = items.size))
   (h : Q (.ref s.heap.objs.size) { s with heap := s.heap.push { cls := .type "tuple", data := .seq ((items.toList.drop (sIx items.size 0 lo)).take (sIx items.size items.size hi - sIx items.size 0 lo)).toArray } })
   (hsz : items.size ≤ sizeLine) : wpAny (model prog w) A (getItem (.ref t) (.ref sl)) Q E s := by
 have htake : sizeOk (.seq ((items.toList.drop (sIx items.size 0 lo)).take (sIx items.size items.size hi - sIx items.size 0 lo)).toArray) := by
   show ((items.toList.drop (sIx items.size 0 lo)).take (sIx items.size items.size hi - sIx items.size 0 lo)).toArray.size ≤ sizeLine
   rw [List.size_toArray, List.length_take, List.length_drop, Array.length_toList]
   lia
 have hj : sIx items.size items.size hi ≤ items.size := sIx_le _ _ (Nat.le_refl _) hi
 obtain ⟨os, hos, hcs, hds⟩ := id hs
 have hTs : s.TypeIs (.ref sl) "slice" := ⟨os, hos, hcs⟩
 unfold getItem
 try with_reducible refine wpAny_holding ?_
 first | refine wpAny_bind (wpAny_pure ?_) | skip
 refine wpAny_bind (wpAny_sequenceKey ht.typeIs (by decide) ?_)
 refine wpAny_bind (wpAny_callSpecial?_slot (name := Str.ofString "__getitem__") ht.typeIs PyProof.Rows.slot_tuple_getitem
   (wpAny_call_entry PyProof.Rows.slot_tuple_getitem ht.typeIs entry_tuple_getitem ?_ (args_tuple_getitem _ _)))
 show wpAny _ _ (Builtin.Tuple.tupleItemsOf (.ref t) >>= _) _ _ s
 refine wpAny_bind (tupleItemsOf_ ht ?_)
 refine wpAny_bind (wpAny_typeOf hTs ?_)
 rw [if_pos (by decide)]
 refine wpAny_bind (sliceApplied_gen hs pl pu ?_)
 have hno : ¬ ((((sIx items.size 0 lo : Nat) : Int) == 0 && (1 : Int) == 1 && (sIx items.size items.size hi - sIx items.size 0 lo) == items.size) = true) := by
   intro q
   rw [Bool.and_eq_true, Bool.and_eq_true] at q
   have q1 : ((sIx items.size 0 lo : Nat) : Int) = 0 := eq_of_beq q.1.1
   have q2 : sIx items.size items.size hi - sIx items.size 0 lo = items.size := eq_of_beq q.2
   exact hw ⟨by lia, by lia⟩
 show wpAny _ _ (if (((sIx items.size 0 lo : Nat) : Int) == 0 && (1 : Int) == 1 && (sIx items.size items.size hi - sIx items.size 0 lo) == items.size) = true then _ else _) _ _ s
 rw [if_neg hno, pick_gen]
 first
   | exact wpAny_bind (m := Builtin.Tuple.tupleExact _) (wpAny_newObj_type (wpAny_pure ⟨_, rfl, wpAny_pure h⟩) htake)
   | exact wpAny_bind (m := Builtin.Tuple.tupleExact _) (wpAny_newObj_type (wpAny_bind (wpAny_pure (wpAny_pure ⟨_, rfl, wpAny_pure h⟩))) htake)
   | exact wpAny_bind (wpAny_bind (m := Builtin.Tuple.tupleExact _) (wpAny_newObj_type (wpAny_pure (wpAny_pure ⟨_, rfl, wpAny_pure h⟩)) htake))
   | exact wpAny_bind (wpAny_bind (m := Builtin.Tuple.tupleExact _) (wpAny_newObj_type (wpAny_pure ⟨_, rfl, wpAny_pure h⟩) htake))
end
end HT
namespace L2
open PySem PySem.Spec PyProof.Rows
noncomputable abbrev TO := St → Hp → (Option Int → Hp → Prop) → Prop
noncomputable def PO (X : Cx) (e : Option Expr) (t : TO) : Prop :=
 ∀ (pins : List (Addr × Obj)) (s : Shared) (σ : St) (H : Hp) (Q : Option Int → Hp → Prop), Inv X pins σ H s → t σ H Q →
   wpAny (model X.prog X.w) X.A (evalPart e X.env) (fun u s' => ∃ o H', Inv X pins σ H' s' ∧ IsPart u o ∧ Q o H') X.xe s
noncomputable def tNoPart : TO := fun _ H Q => Q none H
noncomputable def tPart (t : TE) : TO := fun σ H Q => t σ H fun x H1 => ∃ i, x = .int i ∧ Q (some i) H1
section
variable {X : Cx} {e : Expr} {te : TE} {lo hi : Option Expr} {tl th : TO} {pos p2 : Pos}
theorem po_none : PO X none tNoPart := by
 intro pins s σ H Q I h
 rw [evalPart_none]
 exact wpAny_pure ⟨none, H, I, .none, h⟩
theorem po_some (h : PE X e te) : PO X (some e) (tPart te) := by
 intro pins s σ H Q I hw
 rw [evalPart_some]
 refine thn (h pins s σ H _ I hw) fun u s1 ⟨x, H1, I1, r1, q1⟩ => ?_
 obtain ⟨i, rfl, q⟩ := q1
 obtain ⟨t, rfl⟩ := r1
 exact ⟨some i, H1, I1, .int i t, q⟩
noncomputable def SlR (X : Cx) (r : V → Option Int → Option Int → Hp → VK → Prop) : Prop :=
 ∀ (pins : List (Addr × Obj)) (s : Shared) (σ : St) (H : Hp) (x : V) (v vl vu : Value) (lo hi : Option Int) (sl : Addr) (Q : VK), Inv X pins σ H s → RelV x v → s.heap.IsSliceOf sl vl vu .none → IsPart vl lo → IsPart vu hi → r x lo hi H Q →
   ∃ T id, typeLookup (.type T) "__getitem__" = pure (some (.builtin id)) ∧ s.TypeIs v T ∧ wpAny (model X.prog X.w) X.A (getItem v (.ref sl)) (EP X pins σ Q) X.xe s
noncomputable def tSl (r : V → Option Int → Option Int → Hp → VK → Prop) (te : TE) (tl th : TO) : TE := fun σ H Q => te σ H fun x H1 => tl σ H1 fun l H2 => th σ H2 fun u H3 => r x l u H3 Q
theorem pe_slice {r : V → Option Int → Option Int → Hp → VK → Prop} (hr : SlR X r) (he : PE X e te) (hl : PO X lo tl) (hu : PO X hi th) : PE X (.Subscript e (.Slice lo hi none p2) pos) (tSl r te tl th) := by
 intro pins s σ H Q I h
 refine Subscript_ (thn (he pins s σ H _ I h) fun v s1 ⟨x, H1, I1, r1, q1⟩ => ?_)
 refine wpAny_Slice (thn (hl pins s1 σ H1 _ I1 q1) fun vl s2 ⟨l, H2, I2, pl, q2⟩ => thn (hu pins s2 σ H2 _ I2 q2) fun vu s3 ⟨u, H3, I3, pu, q3⟩ => ?_)
 rw [evalPart_none]
 refine wpAny_pure ?_
 have I4 : Inv X pins σ H3 { s3 with heap := s3.heap.push { cls := .type "slice", data := .fields #[vl, vu, .none] } } := I3.kept (t' := s3.toks) fun b ob q => Heap.get?_push_of_some _ q
 obtain ⟨T, id, hT, ht, hg⟩ := hr pins { s3 with heap := s3.heap.push { cls := .type "slice", data := .fields #[vl, vu, .none] } } σ H3 x v vl vu l u s3.heap.objs.size Q I4 r1 (Heap.IsSliceOf.new ..) pl pu q3
 show wpAny (model X.prog X.w) X.A (subscriptTail e (.Slice lo hi none p2) v (.ref s3.heap.objs.size)) (EP X pins σ Q) X.xe { s3 with heap := s3.heap.push { cls := .type "slice", data := .fields #[vl, vu, .none] } }
 exact tail_any (ops := [.ref s3.heap.objs.size, v]) ht hT hg (by with_unfolding_all rfl)
noncomputable def cutV (xs : List V) (lo hi : Option Int) : List V := (xs.drop (HT.sIx xs.length 0 lo)).take (HT.sIx xs.length xs.length hi - HT.sIx xs.length 0 lo)
theorem cutV_length (xs : List V) (lo hi : Option Int) : (cutV xs lo hi).length ≤ xs.length := by
 unfold cutV
 rw [List.length_take, List.length_drop]
 lia
noncomputable def rSlT (K : W.Frag) : V → Option Int → Option Int → Hp → VK → Prop := fun x lo hi H Q => ∃ a xs, x = .ref a ∧ SqT K H a xs ∧
 ¬ (HT.sIx xs.length 0 lo = 0 ∧ HT.sIx xs.length xs.length hi = xs.length) ∧ ∀ p, H p = none → Q (.ref p) (upd H p (.tup (cutV xs lo hi)))
theorem sl_tup : SlR X (rSlT X.K) := by
 intro pins s σ H x v vl vu lo hi sl Q I rx hs pl pu h
 obtain ⟨a, xs, rfl, hx, hw, q⟩ := h
 cases rx
 obtain ⟨its, r, ht, hz⟩ := I.tuple hx
 have hlen : its.toArray.size = xs.length := by rw [List.size_toArray]; exact r.length.symm
 refine ⟨"tuple", _, PyProof.Rows.slot_tuple_getitem.lookup, ht.typeIs, ?_⟩
 refine HT.getItem_tuple_cut ht hs pl pu (by rw [hlen]; exact hw) ?_ (by rw [hlen]; exact hz)
 rw [hlen]
 refine ⟨.ref s.heap.objs.size, _, I.laid (t' := s.toks) (o := .tup (cutV xs lo hi)) (fun b ob q => Heap.get?_push_of_some _ q) (Nat.le_refl _) ?_, rfl, q _ (I.hok.fresh (Nat.le_refl _))⟩
 exact ⟨Nat.le_trans (cutV_length xs lo hi) hz, _, (r.drop (HT.sIx xs.length 0 lo)).take (HT.sIx xs.length xs.length hi - HT.sIx xs.length 0 lo), TupO.new _ _⟩
noncomputable def rCatT (K : W.Frag) : R2 := fun x y H Q => ∃ a b xs ys, x = .ref a ∧ y = .ref b ∧ SqT K H a xs ∧ SqT K H b ys ∧ xs ≠ [] ∧ xs.length + ys.length ≤ sizeLine ∧
 (ys = [] → Q (.ref a) H) ∧ (ys ≠ [] → ∀ p, H p = none → Q (.ref p) (upd H p (.tup (xs ++ ys))))
theorem Vals.nil_iff {xs : List V} {us : List Value} (r : Vals xs us) : us = [] ↔ xs = [] := by
 cases r with
 | nil => simp
 | cons _ _ => simp
theorem op_catT : OpR X (binaryOp .Add) (rCatT X.K) := by
 intro pins s σ H x y v u Q I rx ry h
 obtain ⟨a, b, xs, ys, rfl, rfl, ha, hb, hx, hz, q1, q2⟩ := h
 cases rx
 cases ry
 obtain ⟨its, r1, p1, _⟩ := I.tuple ha
 obtain ⟨its2, r2, p2, _⟩ := I.tuple hb
 refine HT.cat_tup p1 p2 (fun z => hx (r1.nil_iff.mp z)) (fun z => ⟨.ref a, H, I, rfl, q1 (r2.nil_iff.mp z)⟩) (fun z => ?_) (by rw [← r1.length, ← r2.length]; exact hz)
 refine ⟨.ref s.heap.objs.size, _, I.laid (t' := s.toks) (o := .tup (xs ++ ys)) (fun b ob q => Heap.get?_push_of_some _ q) (Nat.le_refl _) ?_, rfl, q2 (fun w => z (r2.nil_iff.mpr w)) _ (I.hok.fresh (Nat.le_refl _))⟩
 exact ⟨by rw [List.length_append]; exact hz, _, r1.append r2, TupO.new _ _⟩
end
end L2
namespace L2
open PySem PySem.Spec PyProof.Rows
noncomputable def ixN (n : Nat) (i : Int) : Option Nat := if 0 ≤ i then (if i < n then some i.toNat else none) else if -(n : Int) ≤ i then some (i + n).toNat else none
noncomputable def atI {α : Type} (xs : List α) (i : Int) : Option α := (ixN xs.length i).bind fun j => xs[j]?
theorem ixN_seq {n : Nat} {i : Int} {j : Nat} (h : ixN n i = some j) : seqIndex? i n = some j ∧ j < n ∧ -(n : Int) ≤ i ∧ i < n := by
 unfold ixN at h
 by_cases h0 : 0 ≤ i
 · rw [if_pos h0] at h
   by_cases h1 : i < n
   · rw [if_pos h1] at h
     have e : i.toNat = j := Option.some.inj h
     exact ⟨by rw [seqIndex_of h0 h1, e], by lia, by lia, h1⟩
   · rw [if_neg h1] at h; cases h
 · rw [if_neg h0] at h
   by_cases h1 : -(n : Int) ≤ i
   · rw [if_pos h1] at h
     have e : (i + n).toNat = j := Option.some.inj h
     exact ⟨by rw [seqIndex_neg (by lia) h1, e], by lia, h1, by lia⟩
   · rw [if_neg h1] at h; cases h
theorem atI_get {α : Type} {xs : List α} {i : Int} {v : α} (h : atI xs i = some v) : ∃ j, seqIndex? i xs.length = some j ∧ xs[j]? = some v ∧ j < xs.length ∧ -(xs.length : Int) ≤ i ∧ i < xs.length := by
 unfold atI at h
 cases e : ixN xs.length i with
 | none => rw [e] at h; cases h
 | some j =>
   rw [e] at h
   obtain ⟨h1, h2, h3, h4⟩ := ixN_seq e
   exact ⟨j, h1, h, h2, h3, h4⟩
theorem atI_nat {α : Type} {xs : List α} {j : Nat} {v : α} (h : xs[j]? = some v) : atI xs (j : Int) = some v := by
 have hj : j < xs.length := (List.getElem?_eq_some_iff.mp h).1
 have e : ixN xs.length (j : Int) = some j := by
   unfold ixN
   rw [if_pos (by lia), if_pos (by lia)]; simp
 unfold atI; rw [e]; exact h
noncomputable def PlainIx (b : Expr) : Prop := ∀ o i, subscripted b false o i = operate [o, i] (getItem o i)
noncomputable def IxR (X : Cx) (r : R2) : Prop :=
 ∀ (value slice : Expr) (pins : List (Addr × Obj)) (s : Shared) (σ : St) (H : Hp) (x y : V) (v u : Value) (Q : VK), Inv X pins σ H s → RelV x v → RelV y u → r x y H Q →
   subscripted slice false v u = operate [v, u] (getItem v u) → wpAny (model X.prog X.w) X.A (subscriptTail value slice v u) (EP X pins σ Q) X.xe s
noncomputable def MtR (X : Cx) (id : String) (r : V → List V → Hp → VK → Prop) : Prop :=
 ∀ (pins : List (Addr × Obj)) (s : Shared) (σ : St) (H : Hp) (x : V) (xs : List V) (v : Value) (us : List Value) (Q : VK), Inv X pins σ H s → RelV x v → Vals xs us → r x xs H Q →
   wpAny (model X.prog X.w) X.A (call (.builtin id) (v :: us)) (EP X pins σ Q) X.xe s
section
variable {X : Cx} {a b : Expr} {ta tb : TE} {pos : Pos}
theorem pe_ix {r : R2} (hr : IxR X r) (ha : PE X a ta) (hb : PE X b tb) (hs : PlainIx b) : PE X (.Subscript a b pos) (tOp r ta tb) := by
 intro pins s σ H Q I h
 exact Subscript_ (binT ha hb I h fun v u s2 x y H2 I2 rx ry q => hr a b pins s2 σ H2 x y v u Q I2 rx ry q (hs _ _))
noncomputable def rIxL (K : W.Frag) : R2 := fun x y H Q => ∃ p xs i v, x = .ref p ∧ y = .int i ∧ SqL K H p xs ∧ atI xs i = some v ∧ Q v H
noncomputable def rIxT (K : W.Frag) : R2 := fun x y H Q => ∃ p xs i v, x = .ref p ∧ y = .int i ∧ SqT K H p xs ∧ atI xs i = some v ∧ Q v H
theorem ix_list : IxR X (rIxL X.K) := by
 intro value slice pins s σ H x y v u Q I rx ry h hs
 obtain ⟨p, xs, i, z, rfl, rfl, hq, he, q⟩ := h
 cases rx
 obtain ⟨t, rfl⟩ := ry
 obtain ⟨its, r, pl, hz⟩ := I.list hq
 obtain ⟨j, h1, h2, h3, h4, h5⟩ := atI_get he
 obtain ⟨w, ew, rw'⟩ := r.get h2
 have hl := r.length
 have hn := line63
 have fin : EP X pins σ Q w s := ⟨z, H, I, rw', q⟩
 by_cases h0 : 0 ≤ i
 · have hj : i.toNat = j := by
     rw [seqIndex_of h0 h5] at h1
     exact Option.some.inj h1
   exact item_listR pl.isList h0 (by lia) (by rw [hj]; simpa using ew) fin hs
 · have hj : (i + (its.toArray.size : Int)).toNat = j := by
     rw [seqIndex_neg (by lia) h4] at h1
     rw [List.size_toArray, ← hl]
     exact Option.some.inj h1
   exact subscriptTail_builtinR (x := w) pl.isList.typeIs slot_list_getitem.lookup
     (wpAny_getItem_list_neg (Q := fun r s' => r = w ∧ EP X pins σ Q r s') pl.isList (by lia) (by rw [List.size_toArray] <;> lia) (by lia) (by rw [hj]; simpa using ew) ⟨rfl, fin⟩) hs
theorem yB : IxR X (rIxT X.K) := by
 intro value slice pins s σ H x y v u Q I rx ry h hs
 obtain ⟨p, xs, i, z, rfl, rfl, hq, he, q⟩ := h
 cases rx
 obtain ⟨t, rfl⟩ := ry
 obtain ⟨its, r, pl, hz⟩ := I.tuple hq
 obtain ⟨j, h1, h2, h3, h4, h5⟩ := atI_get he
 obtain ⟨w, ew, rw'⟩ := r.get h2
 have hl := r.length
 have hn := line63
 have fin : EP X pins σ Q w s := ⟨z, H, I, rw', q⟩
 exact subscriptTail_builtinR (x := w) pl.typeIs slot_tuple_getitem.lookup
   (getItem_tuple (j := j) (Q := fun r s' => r = w ∧ EP X pins σ Q r s') pl (by lia) (by lia) (by rw [List.size_toArray, ← hl]; exact h1) (by simpa using ew) ⟨rfl, fin⟩) hs
theorem mapSeq_set (its : List Value) (n j : Nat) (u : Value) : Obj.mapSeq (·.setIfInBounds j u) { cls := .type "list", data := .seq its.toArray n } = { cls := .type "list", data := .seq (its.set j u).toArray n } := by
 simp [Obj.mapSeq]
theorem Inv.lst {pins : List (Addr × Obj)} {σ : St} {H : Hp} {s : Shared} {p : Addr} {xs : List V} (I : Inv X pins σ H s) (h : H p = some (.lst xs)) :
   ∃ (its : List Value) (n : Nat), Vals xs its ∧ s.heap.get? p = some { cls := .type "list", data := .seq its.toArray n } ∧ xs.length ≤ sizeLine := by
 obtain ⟨z, its, n, r, e⟩ := I.hok p _ h
 exact ⟨its, n, r, e, z⟩
theorem Inv.lstUpd {pins : List (Addr × Obj)} {σ : St} {H : Hp} {s : Shared} {p : Addr} {xs ys : List V} {its its' : List Value} {n n' : Nat} {f : Obj → Obj} (I : Inv X pins σ H s) (h : H p = some (.lst xs))
   (ho : s.heap.get? p = some { cls := .type "list", data := .seq its.toArray n }) (hf : f { cls := .type "list", data := .seq its.toArray n } = { cls := .type "list", data := .seq its'.toArray n' }) (r : Vals ys its') (hz : ys.length ≤ sizeLine) (t : Nat) :
   Inv X pins σ (upd H p (.lst ys)) { s with heap := s.heap.update p f, toks := t } := by
 have e : (s.heap.update p f).get? p = some { cls := .type "list", data := .seq its'.toArray n' } := by
   rw [Heap.get?_update_self f ho (by rw [hf] <;> rfl), hf]
 refine I.write (x := p) (e := p) (by rw [h]; trivial) (.inl rfl) (fun b u hb q => (Heap.get?_update_other _ _ (Ne.symm hb)).trans q) ⟨_, e⟩ ?_
 exact ⟨hz, its', n', r, e⟩
noncomputable def rSetL : V → V → V → Hp → (Hp → Prop) → Prop := fun o i v H Q => ∃ p xs k j, o = .ref p ∧ i = .int k ∧ H p = some (.lst xs) ∧ ixN xs.length k = some j ∧ Q (upd H p (.lst (xs.set j v)))
theorem set_list : PSet X rSetL := by
 intro pins s σ H o i v ov iv u Q I ro ri rv h
 obtain ⟨p, xs, k, j, rfl, rfl, hp, hj, q⟩ := h
 cases ro
 obtain ⟨t, rfl⟩ := ri
 obtain ⟨its, n, r, ho, hz⟩ := I.lst hp
 obtain ⟨h1, h2, h3, h4⟩ := ixN_seq hj
 have hl := r.length
 have hn := line63
 have I' : Inv X pins σ (upd H p (.lst (xs.set j v))) { s with heap := s.heap.update p (Obj.mapSeq (·.setIfInBounds j u)) } :=
   I.lstUpd hp ho (mapSeq_set its n j u) (r.set rv j) (by rw [List.length_set]; exact hz) s.toks
 by_cases h0 : 0 ≤ k
 · have hk : k.toNat = j := by
     rw [seqIndex_of h0 h4] at h1
     exact Option.some.inj h1
   exact PySem.W.ki_setAt ho h0 (by lia) (by rw [List.size_toArray, ← hl]; exact h4) (by rw [hk]; exact ⟨_, I', q⟩)
 · have hk : (k + (its.toArray.size : Int)).toNat = j := by
     rw [seqIndex_neg (by lia) h3] at h1
     rw [List.size_toArray, ← hl]
     exact Option.some.inj h1
   exact PySem.W.ki_setBack ho (by lia) (by rw [List.size_toArray, ← hl]; exact h3) (by lia) (by rw [hk]; exact ⟨_, I', q⟩)
theorem slice_bounds (lo hi : Option Int) (n : Nat) : (sliceBounds lo hi none n).1 = ((HT.sIx n 0 lo : Nat) : Int) ∧ (sliceBounds lo hi none n).2.1 = ((HT.sIx n n hi : Nat) : Int) ∧ (sliceBounds lo hi none n).2.2 = 1 := by
 refine ⟨?_, ?_, rfl⟩
 · cases lo with
   | none => simp [sliceBounds, HT.sIx]
   | some i =>
     simp only [sliceBounds, HT.sIx, Option.getD_none, show (1 : Int) > 0 by decide, if_true]
     by_cases h : i < 0
     · simp only [h, if_true] <;> lia
     · simp only [h, if_false] <;> lia
 · cases hi with
   | none => simp [sliceBounds, HT.sIx]
   | some i =>
     simp only [sliceBounds, HT.sIx, Option.getD_none, show (1 : Int) > 0 by decide, if_true]
     by_cases h : i < 0
     · simp only [h, if_true] <;> lia
     · simp only [h, if_false] <;> lia
theorem slicePick_cut (its : List Value) (lo hi : Option Int) : slicePick its.toArray lo hi none = ((its.drop (HT.sIx its.length 0 lo)).take (HT.sIx its.length its.length hi - HT.sIx its.length 0 lo)).toArray := by
 obtain ⟨h1, h2, h3⟩ := slice_bounds lo hi its.toArray.size
 unfold slicePick
 rw [h1, h2, h3]
 simp only [sliceRange_one, pick_run, List.size_toArray] <;> rfl
noncomputable def rSlL (K : W.Frag) : V → Option Int → Option Int → Hp → VK → Prop := fun x lo hi H Q => ∃ a xs, x = .ref a ∧ SqL K H a xs ∧ ∀ p, H p = none → Q (.ref p) (upd H p (.lst (cutV xs lo hi)))
theorem sl_list : SlR X (rSlL X.K) := by
 intro pins s σ H x v vl vu lo hi sl Q I rx hs pl pu h
 obtain ⟨a, xs, rfl, hx, q⟩ := h
 cases rx
 obtain ⟨its, r, ht, hz⟩ := I.list hx
 have hlen := r.length
 refine ⟨"list", _, slot_list_getitem.lookup, ht.isList.typeIs, ?_⟩
 refine wpAny_getItem_list_slice ht.isList hs pl pu .none (by simp) ?_ (by rw [List.size_toArray] <;> lia)
 rw [slicePick_cut, ← hlen]
 refine ⟨.ref s.heap.objs.size, _, I.laid (t' := s.toks) (o := .lst (cutV xs lo hi)) (fun b ob q => Heap.get?_push_of_some _ q) (Nat.le_refl _) ?_, rfl, q _ (I.hok.fresh (Nat.le_refl _))⟩
 exact ⟨Nat.le_trans (cutV_length xs lo hi) hz, _, 0, (r.drop (HT.sIx xs.length 0 lo)).take (HT.sIx xs.length xs.length hi - HT.sIx xs.length 0 lo), Heap.get?_push_size _ rfl⟩
noncomputable def flatV : V → Bool
 | .non => true
 | .bl _ => true
 | .int _ => true
 | .str _ => true
 | _ => false
noncomputable def eqV : V → V → Bool
 | .non, .non => true
 | .bl a, .bl b => a == b
 | .bl a, .int b => (if a then 1 else 0) == b
 | .int a, .bl b => a == (if b then 1 else 0)
 | .int a, .int b => a == b
 | .str a, .str b => a == b
 | _, _ => false
theorem eqAt_V {A : Around} {s : Shared} {y x : V} {u v : Value} (ry : RelV y u) (rx : RelV x v) (fy : flatV y = true) (fx : flatV x = true) : SeqAt.EqAt A s u v (eqV y x) := by
 cases y with
 | non =>
   cases ry
   cases x with
   | non => cases rx; exact SeqAt.EqAt.same _
   | bl b => cases rx; exact SeqAt.EqAt.none_bool b
   | int b => obtain ⟨t, rfl⟩ := rx; exact SeqAt.EqAt.none_int b t
   | str b => obtain ⟨t, rfl⟩ := rx; exact SeqAt.EqAt.none_str b t
   | _ => exact absurd (show false = true from fx) Bool.false_ne_true
 | bl a =>
   cases ry
   cases x with
   | non => cases rx; exact SeqAt.EqAt.bool_none a
   | bl b => cases rx; exact SeqAt.EqAt.bool_bool a b
   | int b => obtain ⟨t, rfl⟩ := rx; exact SeqAt.EqAt.bool_int a b t
   | str b => obtain ⟨t, rfl⟩ := rx; exact SeqAt.EqAt.bool_str a b t
   | _ => exact absurd (show false = true from fx) Bool.false_ne_true
 | int a =>
   obtain ⟨t', rfl⟩ := ry
   cases x with
   | non => cases rx; exact SeqAt.EqAt.int_none a t'
   | bl b => cases rx; exact SeqAt.EqAt.int_bool a t' b
   | int b => obtain ⟨t, rfl⟩ := rx; exact SeqAt.EqAt.int_int a t' b t
   | str b => obtain ⟨t, rfl⟩ := rx; exact SeqAt.EqAt.int_str a t' b t
   | _ => exact absurd (show false = true from fx) Bool.false_ne_true
 | str a =>
   obtain ⟨t', rfl⟩ := ry
   cases x with
   | non => cases rx; exact SeqAt.EqAt.str_none a t'
   | bl b => cases rx; exact SeqAt.EqAt.str_bool a t' b
   | int b => obtain ⟨t, rfl⟩ := rx; exact SeqAt.EqAt.str_int a t' b t
   | str b => obtain ⟨t, rfl⟩ := rx; exact SeqAt.EqAt.str_str a t' b t
   | _ => exact absurd (show false = true from fx) Bool.false_ne_true
 | _ => exact absurd (show false = true from fy) Bool.false_ne_true
noncomputable def eqU (x : V) (u : Value) : Bool := match u with
 | .none => eqV .non x
 | .bool b => eqV (.bl b) x
 | .int i _ => eqV (.int i) x
 | .str z _ => eqV (.str z) x
 | _ => false
theorem eqU_of {x y : V} {u : Value} (r : RelV y u) (f : flatV y = true) : eqU x u = eqV y x := by
 cases y with
 | non => cases r; rfl
 | bl b => cases r; rfl
 | int i => obtain ⟨t, rfl⟩ := r; rfl
 | str z => obtain ⟨t, rfl⟩ := r; rfl
 | _ => exact absurd (show false = true from f) Bool.false_ne_true
theorem any_eqU {x : V} : ∀ {xs : List V} {us : List Value}, Vals xs us → xs.all flatV = true → us.any (eqU x) = xs.any fun y => eqV y x
 | _, _, .nil, _ => rfl
 | y :: xs, u :: us, .cons r t, f => by
   rw [List.all_cons, Bool.and_eq_true] at f
   rw [List.any_cons, List.any_cons, eqU_of r f.1, any_eqU t f.2]
theorem mem_eqAt {A : Around} {s : Shared} {x : V} {v : Value} (rx : RelV x v) (fx : flatV x = true) : ∀ {xs : List V} {us : List Value}, Vals xs us → xs.all flatV = true → ∀ u ∈ us, SeqAt.EqAt A s u v (eqU x u)
 | _, _, .nil, _ => fun u hu => by cases hu
 | y :: xs, u :: us, .cons r t, f => fun u' hu => by
   rw [List.all_cons, Bool.and_eq_true] at f
   rcases List.mem_cons.mp hu with rfl | hu
   · rw [eqU_of r f.1]; exact eqAt_V r rx f.1 fx
   · exact mem_eqAt rx fx t f.2 u' hu
noncomputable def inV (x : V) (xs : List V) : Bool := xs.any fun y => eqV y x
noncomputable def rIn (K : W.Frag) (neg : Bool) : R2 := fun x y H Q => ∃ p xs, y = .ref p ∧ (SqL K H p xs ∨ SqT K H p xs) ∧ flatV x = true ∧ xs.all flatV = true ∧ Q (.bl (if neg then !inV x xs else inV x xs)) H
theorem op_in_seq : OpR X (compareOp .In) (rIn X.K false) := by
 intro pins s σ H x y v u Q I rx ry h
 obtain ⟨p, xs, rfl, hq, fx, fs, q⟩ := h
 cases ry
 rcases hq with hq | hq
 · obtain ⟨its, r, pl, hz⟩ := I.list hq
   refine SeqAt.in_listAt (eqU x) pl.isList (fun w hw => mem_eqAt rx fx r fs w (by simpa using hw)) ⟨.bl _, H, I, rfl, ?_⟩
   rw [show its.toArray.any (eqU x) = its.any (eqU x) by simp, any_eqU r fs]
   exact q
 · obtain ⟨its, r, pl, hz⟩ := I.tuple hq
   refine SeqAt.in_tupleAt (eqU x) pl (fun w hw => mem_eqAt rx fx r fs w (by simpa using hw)) ⟨.bl _, H, I, rfl, ?_⟩
   rw [show its.toArray.any (eqU x) = its.any (eqU x) by simp, any_eqU r fs]
   exact q
theorem call_len_seq : yD X (.builtin "len") (fun xs H Q => ∃ p ys, xs = [.ref p] ∧ (SqL X.K H p ys ∨ SqT X.K H p ys) ∧ Q (.int ys.length) H) := by
 intro pins s σ H xs us Q I r h
 obtain ⟨p, ys, rfl, hq, q⟩ := h
 obtain ⟨u, rfl, rx⟩ := vals1 r
 cases rx
 have hn := line63
 rcases hq with hq | hq
 · obtain ⟨its, r', pl, hz⟩ := I.list hq
   have hlen := r'.length
   exact Calls.call_len_list pl.isList (by simp only [List.size_toArray] <;> lia) ⟨.int ys.length, H, I.tok _, ⟨s.toks + 1, by rw [List.size_toArray, hlen]⟩, q⟩
 · obtain ⟨its, r', pl, hz⟩ := I.tuple hq
   have hlen := r'.length
   exact len_tuple pl (by simp only [List.size_toArray] <;> lia) ⟨.int ys.length, H, I.tok _, ⟨s.toks + 1, by rw [List.size_toArray, hlen]⟩, q⟩
theorem call_list_of : yD X (.type "list") (fun xs H Q => ∃ p ys, xs = [.ref p] ∧ (SqL X.K H p ys ∨ SqT X.K H p ys) ∧ ∀ l, H l = none → Q (.ref l) (upd H l (.lst ys))) := by
 intro pins s σ H xs us Q I r h
 obtain ⟨p, ys, rfl, hq, q⟩ := h
 obtain ⟨u, rfl, rx⟩ := vals1 r
 cases rx
 have fin : ∀ (its : List Value), Vals ys its → ys.length ≤ sizeLine → ∀ (h' : Heap) (c' : Nat), (∀ b o', s.heap.get? b = some o' → h'.get? b = some o') →
     h'.get? s.heap.objs.size = some { cls := .type "list", dict := none, data := .seq its.toArray c', slots := #[] } → EP X pins σ Q (.ref s.heap.objs.size) { s with heap := h' } := fun its r' hz h' c' kp e =>
   ⟨.ref s.heap.objs.size, _, I.laid (t' := s.toks) kp (Nat.le_refl _) (show ObjOk X.prog X.w _ h' _ (.lst ys) from ⟨hz, its, c', r', e⟩), rfl, q _ (I.hok.fresh (Nat.le_refl _))⟩
 rcases hq with hq | hq
 · obtain ⟨its, r', pl, hz⟩ := I.list hq
   have hlen := r'.length
   obtain ⟨o, ho, hc, n, hd⟩ := pl.isList
   exact call_list_seq p (.inl rfl) ho hc hd (fun h' c' kp e => fin its r' hz h' c' kp e) (by simp only [List.size_toArray] <;> lia)
 · obtain ⟨its, r', pl, hz⟩ := I.tuple hq
   have hlen := r'.length
   obtain ⟨o, ho, hc, n, hd⟩ := pl
   exact call_list_seq p (.inr rfl) ho hc hd (fun h' c' kp e => fin its r' hz h' c' kp e) (by simp only [List.size_toArray] <;> lia)
theorem jO : yD X (.type "tuple") (fun xs H Q => ∃ p ys, xs = [.ref p] ∧ ((SqL X.K H p ys ∧ ∀ l, H l = none → Q (.ref l) (upd H l (.tup ys))) ∨ (SqT X.K H p ys ∧ Q (.ref p) H))) := by
 intro pins s σ H xs us Q I r h
 obtain ⟨p, ys, rfl, h⟩ := h
 obtain ⟨u, rfl, rx⟩ := vals1 r
 cases rx
 rcases h with ⟨hq, q⟩ | ⟨hq, q⟩
 · obtain ⟨its, r', pl, hz⟩ := I.list hq
   have hlen := r'.length
   refine call_tuple_list pl.isList (fun h' kp => ?_) (by simp only [List.size_toArray] <;> lia)
   have I1 : Inv X pins σ H { s with heap := h' } := I.kept (t' := s.toks) kp
   have I2 : Inv X pins σ (upd H h'.objs.size (.tup ys)) { s with heap := h'.push { cls := .type "tuple", data := .seq its.toArray } } :=
     I1.laid (t' := s.toks) (fun b o e => Heap.get?_push_of_some _ e) (Nat.le_refl _) (show ObjOk X.prog X.w _ _ _ (.tup ys) from ⟨hz, its, r', TupO.new _ _⟩)
   exact ⟨.ref h'.objs.size, _, I2, rfl, q _ (I1.hok.fresh (Nat.le_refl _))⟩
 · obtain ⟨its, r', pl, hz⟩ := I.tuple hq
   exact call_tuple_same pl ⟨.ref p, H, I, rfl, q⟩
noncomputable def tyV (K : W.Frag) (T : String) (x : V) (H : Hp) : Prop := match x with
 | .str _ => T = "str"
 | .int _ => T = "int"
 | .ref p => (T = "list" ∧ ∃ xs, SqL K H p xs) ∨ (T = "tuple" ∧ ∃ o, K.lookup p = some o ∧ o.cls = .type "tuple" ∧ o.dict = none) ∨
     (T = "dict" ∧ ((∃ kvs, H p = some (.dK kvs)) ∨ ∃ kvs, H p = some (.dT kvs))) ∨ (T = "set" ∧ ∃ S n, H p = some (.set S n))
 | _ => False
theorem tyV_is {pins : List (Addr × Obj)} {σ : St} {H : Hp} {s : Shared} {T : String} {x : V} {v : Value} (I : Inv X pins σ H s) (r : RelV x v) (ty : tyV X.K T x H) :
   s.TypeIs v T ∧ ∀ a, v = .ref a → ∃ ob, s.heap.get? a = some ob ∧ ob.dict = none := by
 cases x with
 | str z =>
   obtain ⟨t, rfl⟩ := r
   cases (show T = "str" from ty)
   exact ⟨typeIs_str s z t, fun _ e => nomatch e⟩
 | int i =>
   obtain ⟨t, rfl⟩ := r
   cases (show T = "int" from ty)
   exact ⟨typeIs_int s i t, fun _ e => nomatch e⟩
 | ref p =>
   cases r
   rcases ty with ⟨rfl, xs, hq⟩ | ⟨rfl, o, hk, hc, hd⟩ | ⟨rfl, hk⟩ | ⟨rfl, S, n, hk⟩
   · obtain ⟨its, _, pl, _⟩ := I.list hq
     refine ⟨pl.isList.typeIs, fun a e => ?_⟩
     cases e
     obtain ⟨o, n, e, c, hd, _⟩ := pl
     exact ⟨o, e, hd⟩
   · refine ⟨⟨o, I.kIn p o hk, hc⟩, fun a e => ?_⟩
     cases e
     exact ⟨o, I.kIn _ o hk, hd⟩
   · have z : ∃ o, s.heap.get? p = some o ∧ o.ExactDict := by
       rcases hk with ⟨kvs, hk⟩ | ⟨kvs, hk⟩
       · obtain ⟨_, _, _, _, o, _, _, e, ex, _⟩ := I.hok p _ hk
         exact ⟨o, e, ex⟩
       · obtain ⟨_, _, _, _, o, _, _, e, ex, _⟩ := I.hok p _ hk
         exact ⟨o, e, ex⟩
     obtain ⟨o, e, ex⟩ := z
     refine ⟨⟨o, e, ex.1⟩, fun a e2 => ?_⟩
     cases e2
     exact ⟨o, e, ex.2.1⟩
   · obtain ⟨o, _, _, _, e, ex, _⟩ := I.hok p _ hk
     refine ⟨⟨o, e, ex.1⟩, fun a e2 => ?_⟩
     cases e2
     exact ⟨o, e, ex.2.1⟩
 | _ => exact False.elim ty
noncomputable def tBM (K : W.Frag) (T : String) (r : V → List V → Hp → VK → Prop) (to : TE) (t : TA) : TE := fun σ H Q => to σ H fun x H1 => tyV K T x H1 ∧ t σ H1 fun xs H2 => r x xs H2 Q
variable {o e : Expr} {es : List Expr} {to : TE} {t : TA} {name : Str} {apos cpos : Pos} {T id : String} {r : V → List V → Hp → VK → Prop}
theorem pe_bm (pa : PlainAttrs T) (slot : Slot T name id) (hty : typeOf (.builtin id) = pure (.type "method_descriptor")) (hm : MtR X id r) (ho : PE X o to) (ha : PA X (e :: es) t)
   (hbase : attributeBase o name X.env (eval o X.env) = eval o X.env := by rfl)
   (hfew : ((backTo cpos (starEach (e :: es) X.env)).all (fun x => !x.1) && (backToKw cpos (keywordEach [] X.env)).all (fun x => x.1.isSome)
     && decide ((e :: es).length + ([] : List Keyword).length + (if ([] : List Keyword).isEmpty then 0 else 1) < 30)) = true := by rfl)
   (hline : (apos.endLine == cpos.line) = true := by rfl) (hs : starEach (e :: es) X.env = (false, eval e X.env) :: starEach es X.env := by rfl) (hplain : (backTo cpos (starEach es X.env)).any (·.1) = false := by rfl) :
   PE X (.Call (.Attribute o name apos) (e :: es) [] cpos) (tBM X.K T r to t) := by
 intro pins s σ H Q I h
 refine wpAny_Call_method_late hbase hfew hline rfl (thn (ho pins s σ H _ I h) fun v s1 ⟨x, H1, I1, r1, ty, q1⟩ => ?_)
 obtain ⟨h1, h2⟩ := tyV_is I1 r1 ty
 refine ⟨T, id, pa, slot, hty, h1, h2, ?_⟩
 have hA := ha cpos pins s1 σ H1 _ I1 q1
 rw [hs] at hA ⊢
 refine Calls.callWith_builtin (by show (false || (backTo cpos (starEach es X.env)).any (·.1)) = false; rw [hplain] <;> rfl) (Calls.evalArgs_plain ?_)
 exact thn hA fun us s2 ⟨vs, H2, I2, r2, q2⟩ => hm pins s2 σ H2 x vs v us Q I2 r1 r2 q2
/- xs.append(e), list.index on a module's tuple .. are MtR facts of 06m -/
end
end L2
namespace L2
open PySem PySem.Spec PyProof.Rows
noncomputable def MtM (X : Cx) (id : String) (r : V → List V → Hp → VK → Prop) : Prop :=
 ∀ (pins : List (Addr × Obj)) (s : Shared) (σ : St) (H : Hp) (x : V) (xs : List V) (v : Value) (us : List Value) (Q : VK), Inv X pins σ H s → RelV x v → Vals xs us → r x xs H Q →
   wpAny (model X.prog X.w) X.A (call (.builtin id) (v :: us)) (EP X pins σ Q) X.xe s
theorem Vals.one : ∀ {x : V} {us : List Value}, Vals [x] us → ∃ u, us = [u] ∧ RelV x u
 | _, _, .cons r .nil => ⟨_, rfl, r⟩
theorem Vals.two : ∀ {x y : V} {us : List Value}, Vals [x, y] us → ∃ u v, us = [u, v] ∧ RelV x u ∧ RelV y v
 | _, _, _, .cons r (.cons q .nil) => ⟨_, _, rfl, r, q⟩
theorem Vals.zero : ∀ {us : List Value}, Vals [] us → us = []
 | _, .nil => rfl
theorem Vals.reverse {xs : List V} {us : List Value} (h : Vals xs us) : Vals xs.reverse us.reverse := by
 induction h with
 | nil => exact .nil
 | cons r t ih => rw [List.reverse_cons, List.reverse_cons]; exact Vals.append ih (.cons r .nil)
theorem Vals.rep {xs : List V} {us : List Value} (h : Vals xs us) : ∀ k : Nat, Vals (List.replicate k xs).flatten (List.replicate k us).flatten
 | 0 => .nil
 | k + 1 => by
   rw [List.replicate_succ, List.replicate_succ, List.flatten_cons, List.flatten_cons]
   exact Vals.append h (Vals.rep h k)
theorem foldl_rep (its : List Value) : ∀ (k : Nat) (acc : List Value),
   List.foldl (fun x1 x2 => x1 ++ x2) acc.toArray (List.replicate k its.toArray) = (acc ++ (List.replicate k its).flatten).toArray
 | 0, acc => by simp
 | k + 1, acc => by
   have e : acc.toArray ++ its.toArray = (acc ++ its).toArray := by simp
   have e2 : (acc ++ its) ++ (List.replicate k its).flatten = acc ++ (List.replicate (k + 1) its).flatten := by
     rw [List.replicate_succ, List.flatten_cons, List.append_assoc]
   rw [← e2, ← foldl_rep its k (acc ++ its), ← e, List.replicate_succ, List.foldl_cons]
section
variable {X : Cx} {pins : List (Addr × Obj)} {σ : St} {H : Hp} {s : Shared} {l b : Addr} {xs ys zs : List V}
theorem Inv.lset {its its' : List Value} {n : Nat} {f : Array Value → Array Value} {t' : Nat} (I : Inv X pins σ H s) (hH : H l = some (.lst xs))
   (e : s.heap.get? l = some { cls := .type "list", data := .seq its.toArray n }) (hf : f its.toArray = its'.toArray) (hv : Vals ys its') (hz : ys.length ≤ sizeLine) :
   Inv X pins σ (upd H l (.lst ys)) { s with heap := s.heap.update l (Obj.mapSeq f), toks := t' } := by
 have q := PySem.IsL.update e f
 rw [hf] at q
 refine I.write (x := l) (e := l) (by rw [hH]; exact trivial) (.inl rfl) (fun b' u hb hu => (Heap.get?_update_other s.heap (Obj.mapSeq f) (Ne.symm hb)).trans hu) ⟨_, q⟩ ?_
 exact ⟨hz, its', _, hv, q⟩
theorem Inv.lnew {its : List Value} {t' : Nat} (I : Inv X pins σ H s) (hv : Vals ys its) (hz : ys.length ≤ sizeLine) :
   Inv X pins σ (upd H s.heap.objs.size (.lst ys)) { s with heap := s.heap.push { cls := .type "list", data := .seq its.toArray }, toks := t' } :=
 I.laid (fun _ _ q => Heap.get?_push_of_some _ q) (Nat.le_refl _) ⟨hz, its, 0, hv, Heap.get?_push_size _ rfl⟩
theorem Inv.fresh (I : Inv X pins σ H s) : H s.heap.objs.size = none := I.hok.fresh (Nat.le_refl _)
theorem Inv.lstM (I : Inv X pins σ H s) (hH : H l = some (.lst xs)) : xs.length ≤ sizeLine ∧ ∃ (its : List Value) (n : Nat), Vals xs its ∧ xs.length = its.length ∧ s.heap.get? l = some { cls := .type "list", data := .seq its.toArray n } := by
 obtain ⟨z, its, n, r, e⟩ := I.hok l _ hH
 exact ⟨z, its, n, r, r.length, e⟩
end
section
variable {X : Cx}
noncomputable def rAppend : V → List V → Hp → VK → Prop := fun x vs H Q => ∃ l xs y, x = .ref l ∧ vs = [y] ∧ H l = some (.lst xs) ∧ xs.length < sizeLine ∧ Q .non (upd H l (.lst (xs ++ [y])))
theorem mt_append : MtM X "list.append" rAppend := by
 intro pins s σ H x vs v us Q I rx rv h
 obtain ⟨l, xs, y, rfl, rfl, hH, hz, q⟩ := h
 cases rx
 obtain ⟨u, rfl, ru⟩ := rv.one
 obtain ⟨z, its, n, r, hl, e⟩ := I.lstM hH
 refine call_meets F.slot_list_append ⟨_, e, rfl⟩ F.entry_list_append (F.args_list_append_2 _ _) (PySem.list_append l its.toArray n u (by rw [List.size_toArray]; lia)) ⟨e, ?_⟩
 refine ⟨.non, _, I.lset (its' := its ++ [u]) hH e (by simp) (r.append (.cons ru .nil)) ?_, rfl, q⟩
 rw [List.length_append, List.length_singleton]
 lia
noncomputable def rCat : R2 := fun x y H Q => ∃ l b xs zs, x = .ref l ∧ y = .ref b ∧ H l = some (.lst xs) ∧ H b = some (.lst zs) ∧ xs.length + zs.length ≤ sizeLine ∧ ∀ p, H p = none → Q (.ref p) (upd H p (.lst (xs ++ zs)))
theorem op_cat : OpR X (binaryOp .Add) rCat := by
 intro pins s σ H x y v u Q I rx ry h
 obtain ⟨l, b, xs, zs, rfl, rfl, hH, hB, hz, q⟩ := h
 cases rx
 cases ry
 obtain ⟨z, its, n, r, hl, e⟩ := I.lstM hH
 obtain ⟨z2, its2, n2, r2, hl2, e2⟩ := I.lstM hB
 refine PySem.P.add_list e e2 ?_ (by rw [List.size_toArray, List.size_toArray]; lia)
 have ea : its.toArray ++ its2.toArray = (its ++ its2).toArray := by simp
 rw [ea]
 exact ⟨.ref _, _, I.lnew (t' := s.toks) (r.append r2) (by rw [List.length_append]; lia), rfl, q _ I.fresh⟩
theorem len_rep {α : Type} (xs : List α) (k : Nat) : (List.replicate k xs).flatten.length = k * xs.length := by
 induction k with
 | zero => simp
 | succ k ih => rw [List.replicate_succ, List.flatten_cons, List.length_append, ih, Nat.succ_mul, Nat.add_comm]
end
section
variable {prog : Program} {w : World} {A : Around} {E : Value → Shared → Prop} {s : Shared}
set_option maxRecDepth 100000 in
end
section
variable {X : Cx}
end
end L2
namespace Att
open PySem PySem.W PySem.Calls PyProof.Rows
theorem ints_of_wellAll {P : Params} {h : Heap} : ∀ (ns : List Int) (vs : List Value), WellAll P h vs (ns.map WData.int) → IntsAre vs ns := by
 intro ns
 induction ns with
 | nil =>
   intro vs w
   rw [List.map_nil] at w
   cases w
   exact .nil
 | cons n ns ih =>
   intro vs w
   rw [List.map_cons] at w
   cases w with
   | cons a b =>
     cases a
     exact .cons _ _ (ih _ b)
theorem script_of {l : OpenLaw} {n : Nat} (hn : l.most = some n) {P : Params} {h : Heap} {args : List WData} {vals : List Value}
   (hpre : l.row.toRowW.claim.pre args = true) (hwl : WellAll P h vals args) :
   ∃ a vs ns, vals = [Value.ref a] ∧ args = [WData.list (ns.map WData.int)] ∧ h.get? a = some { cls := .type "list", data := .seq vs.toArray } ∧ IntsAre vs ns ∧ ns.length ≤ n := by
 have hsh : WShape.hasAll [] args [.list .int] = true := (pre_splitW hpre).1
 have hc : l.pre.holds [] { args := args } = true := (pre_splitW hpre).2
 obtain ⟨d, r, rfl, h1, h2⟩ := hasAllW_cons hsh
 obtain rfl := hasAllW_nil h2
 obtain ⟨xs, rfl, h3⟩ := hasW_list h1
 obtain ⟨ns, rfl⟩ := items_int h3
 have hlen : ns.length ≤ n := by
   unfold OpenLaw.pre at hc
   have h4 : (WTm.not (.lt (.lit (.int (n : Int))) (.len (.arg 0)))).holds [] { args := [.list (ns.map .int)] } = true := by
     have h4 := (holds_andW hc).1
     rw [hn] at h4
     exact h4
   have h5 := condW_of h4 (w_not (w_lt w_lit (w_len_list (w_arg rfl))))
   rw [List.length_map] at h5
   refine Nat.le_of_not_lt fun q => ?_
   have q' : (n : Int) < ((ns.length : Nat) : Int) := by lia
   first
     | (rw [decide_eq_true q'] at h5; exact absurd h5 (by decide))
     | (simp at h5; lia)
 cases hwl with
 | cons w1 w2 =>
   cases w2
   cases w1 with
   | list ho hall => exact ⟨_, _, ns, rfl, rfl, ho, ints_of_wellAll ns _ hall, hlen⟩
theorem post_true (l : OpenLaw) (args : List WData) : l.row.toRowW.claim.post args (.bool true) args = true :=
 postW_of (r := l.row.toRowW) (X := (true == true))
   (show WShape.has [] (.bool true) .bool = true by first | rfl | decide | simp [WShape.has, WShape.arms, WShape.armsAll])
   (show (WTm.eq .res (.lit (.bool true))).value [] { args := args, res := some (.bool true), after := args } = some (.bool (true == true)) from w_eq_bool (w_res rfl) w_lit) rfl
theorem attach_call {l : OpenLaw} {n : Nat} {q : Program} {loose : List Str} {XP : (Str → Option Value) → Heap → Prop} {YP : World → Heap → Prop} {d : DefRec}
   (hn : l.most = some n) (hdf : d.params.defaults = [])
   (call : ∀ (w : World) (s₀ s₁ : Shared) (mg mb : Str → Option Value) (fa : Addr) (o : Obj) (pm cd doc : Value) (a : Addr) (vs : List Value) (ns : List Int),
     Ground q loose [] XP w s₀ mg mb s₁.heap → YP w s₁.heap →
     s₁.heap.get? fa = some o → o.data = .func (docDef d.name d.params d.body d.scope pm cd doc) → s₁.heap.CodeRec cd d.name → mg d.name = some (.ref fa) →
     s₁.heap.get? a = some { cls := .type "list", data := .seq vs.toArray } → IntsAre vs ns → ns.length ≤ n → s₁.gens = #[] →
     codeAny (model l.prog w) callerA (.call (.ref fa) ⟨[.ref a], []⟩) (fun r s' => r = .ok (.ret (.bool true)) ∧ OldK s₁.heap s'.heap ∧ s'.os = s₁.os ∧ AllBare s'.gens) s₁) :
   WalkO q loose XP YP l.row.toRowW d [] (fun f vs => PySem.call f vs) := by
 intro w s₀ s₁ mg mb G Y fa o pm cd doc dV kV ho hd hcd hD hmg hg args vals as hpre hlay hrd hwl hlo
 obtain rfl : dV = .none := Dflts.none hD hdf
 obtain rfl : kV = .none := Dflts.noKw hD
 obtain ⟨a, vs, ns, rfl, rfl, hobj, hints, hlen⟩ := script_of hn hpre hwl
 refine enter_call (codeAny_mono (call w s₀ s₁ mg mb fa o pm cd doc a vs ns G Y ho (fd_plain hd) hcd hmg hobj hints hlen hg) fun r s' hq => ?_)
 obtain ⟨rfl, h2, h3, h4⟩ := hq
 exact ⟨.inl ⟨.bool true, .bool true, [], rfl, fun _ => rfl, .bool true, post_true l _, fun _ => ⟨List.Pairwise.nil, fun _ hm => (nomatch hm)⟩⟩, h2, h3, h4⟩
section
variable {prog : Program} {w : World} {A : Around} {E : Value → Shared → Prop} {s : Shared} {K : Frag}
end
end Att
namespace L2
open PySem PySem.Spec PyProof.Rows
theorem vals_ints : ∀ {vs : List Value} {ns : List Int}, IntsAre vs ns → Vals (ns.map V.int) vs
 | _, _, .nil => .nil
 | _, _, .cons n t h => .cons ⟨t, rfl⟩ (vals_ints h)
end L2
namespace L2
open PySem PySem.Spec PyProof.Rows
end L2
/- THE LAST THEOREM (shape; LID, My.* are yours):
  My.Adr: a structure of the addresses that your layer names (classes, functions); My.Txt K t: a structure (Prop) of the equations over K;
  My.txt_mk : {K} {implicit addresses ..} (e1 : nsIn K mainGlobals "law" = some (some (.ref f))) (e2 : K.lookup f = some ⟨oc, od, .func (fnOf "law" "law" params body scope dV kV doc pm an cdv ct), sl⟩) (e3 : codeIn K cdv "law" = true) .. : ∃ t, My.Txt K t
set_option maxRecDepth 100000 in
set_option maxHeartbeats 0 in
theorem PySem.Challenge.cw_LID_holds : PySem.Challenge.rw_LID.Holds := by
 w_on; o_law; k_head; (case hw => w_witness2)
 k_fill
 refine L2.walk_of (l := PySem.Challenge.rw_LID) (n := 63) (k := 40) (x := "script") (CX := fun w => ..) (sp := fun _ => My.sp_law) rfl (by decide) rfl ⟨rfl, by decide, by decide⟩ (fun w h Y => PySem.W.kIn_of Y) ?F ?S ?C
 case F =>
   intro w mg fa h KX G hmg
   have T : ∃ t, My.Txt (L2.KOf KX) t := by
     dsimp only [L2.KOf]                          -- K must stand as «<heap const> w.params» for k_is
     refine' My.txt_mk ?e1 ?e2 ?e3 ..
     (case e1 => PySem.W.k_is)                    -- in the order: a name -> its address -> its object -> its parts
     (case e2 => PySem.W.k_is)
     ..
   obtain ⟨t, T⟩ := T
   have e0 := hmg.symm.trans (PySem.W.mg_of KX G T.law)
   cases e0                                       -- fa is the law's own address
   exact ⟨_, fun s u => .of_eq rfl, fun base kb nb => My.law_fn T kb nb⟩     -- if «.of_eq rfl» comes too early: refine' ⟨_, ?b, fun base kb nb => My.law_fn T kb nb⟩; exact fun s u => .of_eq rfl
 case S => exact fun w H a ns hl hO hS => ..
 case C => exact ..
(the tactic k_is has no namespace: write k_is) -/
namespace L2
open PySem PySem.Spec PyProof.Rows
noncomputable abbrev CX0 : CXT := fun _ _ _ _ _ _ => False
noncomputable abbrev E0 : XK := fun _ _ _ => False
theorem pass0 {X : Cx} : Passes CX0 X E0 := fun _ _ _ _ _ _ _ h => h.elim
structure Fun (K : W.Frag) (x qual : Str) (st : Stmt) (f : Addr) (fd : FuncData) : Prop where
 ex : ∃ (oc : Value) (od : Option Addr) (kV doc pm : Value) (an : Option Addr) (cdv ct : Value) (osl : Array (Option Value)),
   fd = PySem.W.fnOf x qual (jM st) (jC st) (j8 st) .none kV doc pm an cdv ct ∧ K.lookup f = some ⟨oc, od, .func fd, osl⟩ ∧ PySem.W.codeIn K cdv qual = true
 kp : PySem.W.keepIn K (.ref f) = true
section
variable {P : Program} {w : World} {K : W.Frag} {mg : Str → Option Value} {base : Heap}
theorem Fun.ok {x qual : Str} {st : Stmt} {f : Addr} {fd : FuncData} {N ps : List Str} {k : Nat} {sp : Sp} (F : Fun K x qual st f fd) (S : FnScope N ps (j8 st)) (len : ∀ vs H Q E, sp vs H Q E → vs.length = ps.length)
   (hbody : ∀ (cdv : Value) (A : Around) (outer : List Env) (s : Shared) (H : Hp) (vs : List V) (Q : VK) (E : XK), Room k (A.deeper (envOfC qual (j8 st) s.heap.objs.size f cdv)) → sp vs H Q E →
     ∃ t, PSs (cxOf CX0 P w K mg base N qual (j8 st) f cdv A outer s H E).nox (jC st) t ∧ t { nx := fun _ H' => Q .non H', rt := Q } (kR N vs) H) : FnOk P w K mg base CX0 (k + 1) f fd ps sp := by
 obtain ⟨oc, od, kV, doc, pm, an, cdv, ct, osl, rfl, lk, hcd⟩ := F.ex
 refine fn_of lk hcd S len fun A outer s H vs Q E hr hsp => ?_
 obtain ⟨t, h, q⟩ := hbody cdv A outer s H vs Q E hr hsp
 exact ⟨t, h.nox, q⟩
theorem Fun.binds {x qual : Str} {st : Stmt} {f : Addr} {fd : FuncData} {ps : List Str} (F : Fun K x qual st f fd)
   (h : ∀ (kV doc pm : Value) (an : Option Addr) (cdv ct : Value) (us : List Value), us.length = ps.length → bindArgs (PySem.W.fnOf x qual (jM st) (jC st) (j8 st) .none kV doc pm an cdv ct) ⟨us, []⟩ = pure (ps.zip us)) : Binds K fd ps [] := by
 obtain ⟨oc, od, kV, doc, pm, an, cdv, ct, osl, rfl, lk, hcd⟩ := F.ex
 exact .all (h kV doc pm an cdv ct)
theorem kP {x qual : Str} {st : Stmt} {f : Addr} {oc : Value} {od an : Option Addr} {osl : Array (Option Value)} {kV doc pm cdv ct : Value} (l : K.lookup f = some ⟨oc, od, .func (PySem.W.fnOf x qual (jM st) (jC st) (j8 st) .none kV doc pm an cdv ct), osl⟩)
   (c : PySem.W.codeIn K cdv qual = true) (k : PySem.W.keepIn K (.ref f) = true) : Fun K x qual st f (PySem.W.fnOf x qual (jM st) (jC st) (j8 st) .none kV doc pm an cdv ct) := ⟨⟨oc, od, kV, doc, pm, an, cdv, ct, osl, rfl, l, c⟩, k⟩
end
theorem hu_of {A : Around} {k : Nat} (hr : Room k A) : A.units + 1 < cLine := Nat.lt_of_le_of_lt (Nat.add_le_add_left (by decide : 1 ≤ 64) _) hr.units
section
variable {X : Cx}
theorem pv (i : Nat) {x : Str} {pos : Pos} (hN : X.N[i]? = some x := by rfl) (hv : Vis X.env.scope x := by first | exact Or.inl rfl | exact Or.inr (Or.inl rfl) | exact Or.inr (Or.inr rfl)) (hd : (x == ("__debug__" : Str)) = false := by decide)
   (hcd : (x == ("__classdict__" : Str)) = false := by decide) : PE X (.Name x pos) (tVar i) := pe_var hN hv hd hcd
end
theorem iteF {A B : Prop} (h : B) : if false = true then A else B := by
 rw [if_neg Bool.false_ne_true]
 exact h
theorem iteT {A B : Prop} (h : A) : if true = true then A else B := by
 rw [if_pos rfl]
 exact h
theorem ite2 {c A B : Prop} [Decidable c] (h1 : c → A) (h2 : ¬ c → B) : if c then A else B := by
 by_cases h : c
 · rw [if_pos h]
   exact h1 h
 · rw [if_neg h]
   exact h2 h
end L2
end
section
namespace L2
open PySem PySem.Spec PyProof.Rows
noncomputable def jK (cells : List (Str × Addr)) : List (Str × NameKind) → List (Str × Addr) → List (Str × Addr)
 | [], acc => acc
 | (n, k) :: r, acc => if k = .free then jK cells r ((n, (cells.lookup n).getD 0) :: acc) else jK cells r acc
theorem closFor_go {env : Env} : ∀ (l : List (Str × NameKind)) (acc : List (Str × Addr)), (∀ y ∈ l, y.2 = .free → ∃ c, env.cells.lookup y.1 = some c) →
   (forIn l acc fun (x : Str × NameKind) (cs : List (Str × Addr)) => (if (x.2 == NameKind.free) = true then (do let a ← cellOf env x.1; pure (ForInStep.yield ((x.1, a) :: cs))) else pure (ForInStep.yield cs) : Sem (ForInStep (List (Str × Addr))))) = pure (jK env.cells l acc)
 | [], acc, _ => rfl
 | (n, k) :: r, acc, h => by
   have hr : ∀ y ∈ r, y.2 = .free → ∃ c, env.cells.lookup y.1 = some c := fun y hy => h y (List.mem_cons_of_mem _ hy)
   rw [List.forIn_cons]
   by_cases hk : k = .free
   · subst hk
     obtain ⟨c, hc⟩ := h (n, .free) List.mem_cons_self rfl
     have e : cellOf env n = pure c := by unfold cellOf; rw [hc]
     have e2 : jK env.cells ((n, NameKind.free) :: r) acc = jK env.cells r ((n, c) :: acc) := by
       show (if NameKind.free = NameKind.free then jK env.cells r ((n, (env.cells.lookup n).getD 0) :: acc) else _) = _
       rw [if_pos rfl, hc]; rfl
     rw [e2, ← closFor_go r ((n, c) :: acc) hr]
     show ((do let a ← cellOf env n; pure (ForInStep.yield ((n, a) :: acc))) >>= _) = _
     rw [e]; rfl
   · have hb : (k == NameKind.free) = false := by cases k <;> first | rfl | exact absurd rfl hk
     have e2 : jK env.cells ((n, k) :: r) acc = jK env.cells r acc := by
       show (if k = NameKind.free then _ else jK env.cells r acc) = _
       rw [if_neg hk]
     rw [e2, ← closFor_go r acc hr]
     show ((if (k == NameKind.free) = true then _ else pure (ForInStep.yield acc)) >>= _) = _
     rw [hb]; rfl
theorem closFor {env : Env} {sc : Scope} (h : ∀ y ∈ sc.names, y.2 = .free → ∃ c, env.cells.lookup y.1 = some c) : closureFor sc env = pure (jK env.cells sc.names []) := by
 unfold closureFor
 show (forIn sc.names [] _ >>= fun cs => pure cs) = _
 rw [show (forIn sc.names ([] : List (Str × Addr)) _ : Sem _) = _ from closFor_go sc.names [] h]
 rfl
theorem closOf_sub {cells : List (Str × Addr)} : ∀ (l : List (Str × NameKind)) (acc : List (Str × Addr)), (∀ y ∈ l, y.2 = .free → ∃ c, cells.lookup y.1 = some c) →
   (∀ x c, acc.lookup x = some c → cells.lookup x = some c) → ∀ x c, (jK cells l acc).lookup x = some c → cells.lookup x = some c
 | [], acc, _, ha => ha
 | (n, k) :: r, acc, h, ha => by
   have hr : ∀ y ∈ r, y.2 = .free → ∃ c, cells.lookup y.1 = some c := fun y hy => h y (List.mem_cons_of_mem _ hy)
   unfold jK
   by_cases hk : k = .free
   · rw [if_pos hk]
     obtain ⟨c0, hc⟩ := h (n, k) List.mem_cons_self hk
     refine closOf_sub r _ hr fun x c e => ?_
     rw [List.lookup_cons] at e
     cases hx : x == n with
     | true =>
       rw [hx] at e
       have exn : x = n := eq_of_beq hx
       subst exn
       have hc' : cells.lookup x = some c0 := hc
       rw [hc'] at e ⊢
       exact e
     | false => rw [hx] at e; exact ha x c e
   · rw [if_neg hk]; exact closOf_sub r acc hr ha
theorem closOf_has {cells : List (Str × Addr)} {x : Str} : ∀ (l : List (Str × NameKind)) (acc : List (Str × Addr)), ((x, NameKind.free) ∈ l ∨ ∃ c, acc.lookup x = some c) → ∃ c, (jK cells l acc).lookup x = some c
 | [], acc, h => by
   rcases h with h | h
   · cases h
   · exact h
 | (n, k) :: r, acc, h => by
   unfold jK
   by_cases hk : k = .free
   · rw [if_pos hk]
     refine closOf_has r _ ?_
     by_cases e : x = n
     · subst e
       exact .inr ⟨_, by rw [List.lookup_cons, beq_self_eq_true]⟩
     · rcases h with h | ⟨c, h⟩
       · rcases List.mem_cons.mp h with q | q
         · cases q; exact absurd rfl e
         · exact .inl q
       · refine .inr ⟨c, ?_⟩
         rw [List.lookup_cons, beq_eq_false_iff_ne.mpr e]
         exact h
   · rw [if_neg hk]
     refine closOf_has r _ ?_
     rcases h with h | h
     · rcases List.mem_cons.mp h with q | q
       · cases q; exact absurd rfl hk
       · exact .inl q
     · exact .inr h
theorem mem_lookup {x : Str} {k : NameKind} : ∀ {l : List (Str × NameKind)}, l.lookup x = some k → (x, k) ∈ l
 | [], h => by cases h
 | (n, k') :: r, h => by
   rw [List.lookup_cons] at h
   cases hx : x == n with
   | true => rw [hx] at h; cases h; rw [eq_of_beq hx]; exact List.mem_cons_self
   | false => rw [hx] at h; exact List.mem_cons_of_mem _ (mem_lookup h)
theorem relab_free {env : Env} {x : Str} {k : NameKind} (hk : k = .cell ∨ k = .free) : ∀ {l : List (Str × NameKind)}, (∀ y ∈ l, y.2 ≠ .cell) →
   (l.map fun (n, k) => if (k == NameKind.free && env.scope.kind == .function && env.kindOf n == some .cell) then (n, NameKind.cell) else (n, k)).lookup x = some k → l.lookup x = some .free
 | [], _, h => by simp at h
 | (n, k') :: r, hc, h => by
   have ih := @relab_free env x k hk r (fun y hy => hc y (List.mem_cons_of_mem _ hy))
   have hc0 : k' ≠ .cell := hc (n, k') List.mem_cons_self
   rw [List.lookup_cons]
   rw [List.map_cons] at h
   dsimp only at h
   by_cases hb : (k' == NameKind.free && env.scope.kind == .function && env.kindOf n == some .cell) = true
   · rw [if_pos hb, List.lookup_cons] at h
     cases hx : x == n with
     | true =>
       have : k' = .free := by
         simp only [Bool.and_eq_true] at hb
         exact eq_of_beq hb.1.1
       rw [this]
     | false => rw [hx] at h; exact ih h
   · rw [if_neg hb, List.lookup_cons] at h
     cases hx : x == n with
     | true =>
       rw [hx] at h
       have e : k' = k := Option.some.inj h
       rcases hk with q | q
       · exact absurd (e.trans q) hc0
       · rw [e, q]
     | false => rw [hx] at h; exact ih h
theorem free_relab {env : Env} {x : Str} : ∀ {l : List (Str × NameKind)}, l.lookup x = some .free →
   (l.map fun (n, k) => if (k == NameKind.free && env.scope.kind == .function && env.kindOf n == some .cell) then (n, NameKind.cell) else (n, k)).lookup x = some .cell ∨
   (l.map fun (n, k) => if (k == NameKind.free && env.scope.kind == .function && env.kindOf n == some .cell) then (n, NameKind.cell) else (n, k)).lookup x = some .free
 | [], h => by cases h
 | (n, k') :: r, h => by
   have ih := @free_relab env x r
   rw [List.lookup_cons] at h
   rw [List.map_cons]
   dsimp only
   by_cases hb : (k' == NameKind.free && env.scope.kind == .function && env.kindOf n == some .cell) = true
   · rw [if_pos hb, List.lookup_cons]
     cases hx : x == n with
     | true => exact .inl rfl
     | false => rw [hx] at h; exact ih h
   · rw [if_neg hb, List.lookup_cons]
     cases hx : x == n with
     | true => rw [hx] at h; exact .inr h
     | false => rw [hx] at h; exact ih h
section
variable {prog : Program} {w : World} {A : Around} {R : Result → Shared → Prop} {s : Shared}
noncomputable abbrev testsOf (ifs : List Expr) (env : Env) : Sem Bool := forIn ifs true fun c r => if r = true then do let ok ← isTrue c env (eval c env); pure (ForInStep.yield ok) else pure (ForInStep.yield r)
theorem comp_turns {elt tg iter : Expr} {ifs : List Expr} {sc : Scope} {pos : Pos} {it acc : Value} {env : Env} (J : Nat → Shared → Prop)
   (turn : ∀ n z, J n z → wpAny (model prog w) A (pyNext it) (fun r z1 => match r with
     | none => R (.ok .next) z1
     | some v => wpAny (model prog w) A (letOwnedTupleGo tg it v) (fun _ z2 => wpAny (model prog w) A (assign tg env v) (fun _ z3 => wpAny (model prog w) A (testsOf ifs env) (fun ok z4 =>
         if ok = true then wpAny (model prog w) A (eval elt env) (fun x z5 => wpAny (model prog w) A (call (.builtin "list.append") [acc, x]) (fun _ z6 => ∃ k, k < n ∧ J k z6) (fun _ _ => False) z5) (fun _ _ => False) z4
         else ∃ k, k < n ∧ J k z4) (fun _ _ => False) z3) (fun _ _ => False) z2) (fun _ _ => False) z1) (fun _ _ => False) z)
   (n : Nat) (h : J n s) : codeAny (model prog w) A (.compLoop (.ListComp elt [⟨tg, iter, ifs, 0⟩] sc pos) 0 it acc env) R s := by
 refine codeAny_loop rfl J (fun k z hJ => ?_) n h
 have noE : ∀ {α : Type} {t : Sem α} {Q : α → Shared → Prop} {E : Value → Shared → Prop} {z : Shared}, wpAny (model prog w) A t Q (fun _ _ => False) z → wpAny (model prog w) A t Q E z :=
   fun q => wpAny_mono q (fun _ _ a => a) fun _ _ f => f.elim
 show wpAny _ A ((compTurn (.ListComp elt [⟨tg, iter, ifs, 0⟩] sc pos) 0 it acc env).onRaise (fun x => do noteFrame x env; theTreesLotGoes x)) _ _ z
 refine wpAny_noted ?_
 rw [compTurn_list]
 refine wpAny_bind (wpAny_standAt (wpAny_bind (wpAny_mono (turn k z hJ) (fun r z1 q1 => ?_) fun _ _ f => f.elim)))
 cases r with
 | none => exact wpAny_pure q1
 | some v =>
   refine wpAny_bind (wpAny_mono q1 (fun _ z2 q2 => ?_) fun _ _ f => f.elim)
   refine wpAny_bind (wpAny_mono q2 (fun _ z3 q3 => ?_) fun _ _ f => f.elim)
   refine wpAny_bind (wpAny_mono q3 (fun ok z4 q4 => ?_) fun _ _ f => f.elim)
   cases ok with
   | false => exact wpAny_pure ⟨rfl, q4⟩
   | true =>
     refine wpAny_bind (wpAny_bind (wpAny_mono q4 (fun x z5 q5 => ?_) fun _ _ f => f.elim))
     exact wpAny_bind (wpAny_mono q5 (fun _ z6 q6 => wpAny_pure (wpAny_pure ⟨rfl, q6⟩)) fun _ _ f => f.elim)
end
noncomputable def blk (X : Cx) (sc : Scope) (cl : List (Str × Addr)) (C : Addr) (Nc : List Str) (fp : List Addr) (s : Shared) (H : Hp) : Cx where
 prog := X.prog
 w := X.w
 K := X.K
 mg := X.mg
 base := X.base
 A := X.A
 N := Nc
 s₀ := s
 H₀ := H
 env := compEnvC sc cl C X.env
 outer := X.stack
 stack := X.stack
 ex := fp
 fn := fun _ => false
 calm := X.calm
 pn := []
 xe := fun _ _ => False
noncomputable def blkσ (m : List (Option Nat)) (σ : St) : St := m.map fun o => match o with
 | none => none
 | some i => (σ[i]?).getD none
noncomputable def PTs (X : Cx) (ifs : List Expr) (t : TT) : Prop :=
 ∀ (pins : List (Addr × Obj)) (s : Shared) (σ : St) (H : Hp) (Q : Bool → Hp → Prop), Inv X pins σ H s → t σ H Q → wpAny (model X.prog X.w) X.A (testsOf ifs X.env) (TP X pins σ Q) X.xe s
noncomputable def yR : TT := fun _ H Q => Q true H
theorem pts_nil {X : Cx} : PTs X [] yR := fun _ _ _ H _ I h => wpAny_tests_nil ⟨H, I, h⟩
theorem pts_one {X : Cx} {c : Expr} {t : TT} (h : PT X c t) : PTs X [c] t := fun pins s σ H Q I q => wpAny_tests_one (h pins s σ H Q I q)
noncomputable def yW (m : List (Option Nat)) (g : TG) (tt : TT) (te : TE) (σ : St) (Q : VK) (J : It) (H1 : Hp) : Prop := ∀ D, H1 D = none → ∃ W : Nat → Nat → St → Hp → List V → Prop,
   (∃ n, W 0 n (blkσ m σ) (upd H1 D (.lst [])) []) ∧ ∀ i n σ' H' ys, W i n σ' H' ys → H' D = some (.lst ys) ∧ ys.length < sizeLine ∧
     ((J.stop i H' ∧ Q (.ref D) H') ∨ (J.go i H' ∧ ∃ N : St → Hp → List V → Prop, (∀ σ2 H2 zs, N σ2 H2 zs → ∃ n', n' < n ∧ W (i + 1) n' σ2 H2 zs) ∧ ∀ x H'', J.yld i H' x H'' → g x σ' H'' fun σ2 H2 => tt σ2 H2 fun b H3 =>
       if b = true then te σ2 H3 fun v H4 => H4 D = some (.lst ys) ∧ N σ2 (upd H4 D (.lst (ys ++ [v]))) (ys ++ [v])
       else N σ2 H3 ys))
noncomputable def tComp (m : List (Option Nat)) (wi : TI) (g : TG) (tt : TT) (te : TE) : TE := fun σ H Q => wi σ H (yW m g tt te σ Q)
theorem Un.sameBut {fs ex : List Addr} {H H' : Hp} {h h1 h2 : Heap} {C : Addr} (u : Un fs ex H H' h h1) (sb : Heap.SameBut C h1 h2) (hC : h.objs.size ≤ C) : Un fs ex H H' h h2 := by
 have ne : ∀ {b : Addr} {o : Obj}, h.get? b = some o → b ≠ C := fun e => Nat.ne_of_lt (Nat.lt_of_lt_of_le (Heap.lt_size e) hC)
 refine ⟨fun b o e n hf hx => (sb.2 b (ne e)).trans (u.keep b o e n hf hx), fun b o e n hf hx => ?_, u.free, fun b o e hx => ?_, u.tups, u.frzs, u.tbls⟩
 · obtain ⟨sl, q⟩ := u.slot b o e n hf hx
   exact ⟨sl, (sb.2 b (ne e)).trans q⟩
 · obtain ⟨o', q⟩ := u.there b o e hx
   exact ⟨o', (sb.2 b (ne e)).trans q⟩
theorem HOk.sameBut {P : Program} {w : World} {H : Hp} {h1 h2 : Heap} {C : Addr} (x : HOk P w H h1) (sb : Heap.SameBut C h1 h2) (hC : H C = none) : HOk P w H h2 := fun a o e =>
 (x a o e).stay (fun b u hb q => (sb.2 b (by
   rintro rfl
   rcases hb with rfl | hb
   · rw [hC] at e; cases e
   · rw [hC] at hb; cases hb)).trans q) (fun _ q => q) fun _ _ q => q
section
variable {X : Cx} {tg iter elt : Expr} {ifs : List Expr} {sc : Scope} {pos : Pos} {wi : TI} {g : TG} {tt : TT} {te : TE} {m : List (Option Nat)} {Nc : List Str}
noncomputable def FreeAt (X : Cx) (sc : Scope) (Nc : List Str) (m : List (Option Nat)) : Prop :=
 m.length = Nc.length ∧ ∀ (k i : Nat), m[k]? = some (some i) → ∃ x, Nc[k]? = some x ∧ X.N[i]? = some x ∧ sc.names.lookup x = some .free
theorem blk_start {pins : List (Addr × Obj)} {s : Shared} {σ : St} {H : Hp} {fp : List Addr} (I : Inv X pins σ H s) (hkind : sc.kind = .function) (hcell : ∀ y ∈ sc.names, y.2 ≠ .cell)
   (hfree : ∀ y ∈ sc.names, y.2 = .free → X.env.scope.names.lookup y.1 = some .cell ∨ X.env.scope.names.lookup y.1 = some .free) (hm : FreeAt X sc Nc m) (hfp : ∀ b ∈ fp, FpOk X pins H b) (hlt : ∀ b ∈ fp, b < s.heap.objs.size)
   {h1 : Heap} {tk : Nat} {md : Str → Option Value} (hns : h1.Ns s.heap.objs.size md) (old : ∀ b o, s.heap.get? b = some o → h1.get? b = some o) :
   Inv (blk X sc (jK X.env.cells sc.names []) s.heap.objs.size Nc fp s H) [] (blkσ m σ) H { s with heap := h1, toks := tk } := by
 have hcl : ∀ y ∈ sc.names, y.2 = .free → ∃ c, X.env.cells.lookup y.1 = some c := fun y hy hf => I.ok.has y.1 (hfree y hy hf)
 have sub : ∀ x c, (jK X.env.cells sc.names []).lookup x = some c → X.env.cells.lookup x = some c := closOf_sub sc.names [] hcl (fun x c e => by cases e)
 have isfree : ∀ x, (compEnvC sc (jK X.env.cells sc.names []) s.heap.objs.size X.env).kindOf x = some .cell ∨ (compEnvC sc (jK X.env.cells sc.names []) s.heap.objs.size X.env).kindOf x = some .free → sc.names.lookup x = some .free := fun x h => by
   rcases h with h | h
   · exact relab_free (.inl rfl) hcell h
   · exact relab_free (.inr rfl) hcell h
 refine ⟨⟨I.ok.mod, hkind, I.ok.glob, I.ok.blt, Nat.le_refl _, fun x y c h1 h2 => I.ok.inj x y c (sub x c h1) (sub y c h2), fun x hx => ?_, fun x c hf _ => ?_, I.ok.hd, I.ok.frames, .inl rfl, fun b hb => ?_, I.bs, Nat.le_trans I.ok.bsz I.sz, fun b o e hb => ?_, fun b hb hz => ?_, I.stack, I.stkFree⟩,
   rfl, I.bare, Un.kept old, ⟨md, hns, fun k x v e1 e2 e3 => ?_⟩, fun x c e => ?_, I.hok.fresh (Nat.le_refl _), fun x c e => I.freeC x c (sub x c e), fun p hp => absurd (show p ∈ ([] : List (Addr × Obj)) from hp) (by simp), I.hok.kept old, ?_⟩
 · exact closOf_has sc.names [] (.inl (mem_lookup (isfree x hx)))
 · exact absurd (show false = true from hf) Bool.false_ne_true
 · obtain ⟨f0, f1, f2, f3, f4, f5⟩ := hfp b hb
   exact ⟨Nat.ne_of_lt (hlt b hb), fun x c e => f4 x c (sub x c e)⟩
 · obtain ⟨f0, f1, f2, f3, f4, f5⟩ := hfp b hb
   rcases f3 with q | q
   · exact I.ok.noex b o e q
   · exact absurd (Nat.lt_of_lt_of_le (Heap.lt_size (I.ok.bs b o e).1) q) (Nat.lt_irrefl _)
 · obtain ⟨f0, f1, f2, f3, f4, f5⟩ := hfp b hb
   rcases List.mem_cons.mp (I.stkSub b hz) with q | q
   · exact f1 q
   · exact f2 q
 · have e2' : ∃ i, m[k]? = some (some i) ∧ σ[i]? = some (some v) := by
     unfold blkσ at e2
     rw [List.getElem?_map] at e2
     cases q : m[k]? with
     | none => rw [q] at e2; cases e2
     | some o =>
       rw [q] at e2
       cases o with
       | none => cases e2
       | some i =>
         refine ⟨i, rfl, ?_⟩
         have e2 : (σ[i]?).getD none = some v := Option.some.inj e2
         cases r : σ[i]? with
         | none => rw [r] at e2; cases e2
         | some z => rw [r] at e2; exact congrArg some e2
   obtain ⟨i, q1, q2⟩ := e2'
   obtain ⟨x', a1, a2, a3⟩ := hm.2 k i q1
   have e1' : Nc[k]? = some x := e1
   rw [e1'] at a1
   cases a1
   have vis := hfree (x, .free) (mem_lookup a3) rfl
   obtain ⟨m0, hn0, hl0⟩ := I.loc
   obtain ⟨u, r, l⟩ := hl0 i x v a2 q2 (.inr vis)
   refine ⟨u, r, .inr ⟨free_relab a3, ?_⟩⟩
   obtain ⟨c, hc⟩ := closOf_has (cells := X.env.cells) (x := x) sc.names [] (.inl (mem_lookup a3))
   rcases l with ⟨lk, _⟩ | ⟨_, c', hc', o, ho, hd⟩
   · have lk' : X.env.scope.names.lookup x = some .local := lk
     rcases vis with z | z
     · rw [lk'] at z; cases z
     · rw [lk'] at z; cases z
   · have := sub x c hc
     rw [hc'] at this
     cases this
     exact ⟨c, hc, o, old _ _ ho, hd⟩
 · obtain ⟨v, o, ho, hd⟩ := I.cell x c (sub x c e)
   exact ⟨v, o, old _ _ ho, hd⟩
 · show (blkσ m σ).length = Nc.length
   unfold blkσ
   rw [List.length_map]
   exact hm.1
theorem pe_comp (hc : X.calm = true) (hi : PI X tg iter wi) (hkind : sc.kind = .function) (hcell : ∀ y ∈ sc.names, y.2 ≠ .cell) (hnames : ∀ y ∈ sc.names, y.2 = .local → sc.names.lookup y.1 = some .local)
   (hfree : ∀ y ∈ sc.names, y.2 = .free → X.env.scope.names.lookup y.1 = some .cell ∨ X.env.scope.names.lookup y.1 = some .free) (hm : FreeAt X sc Nc m)
   (hg : ∀ cl C fp s H, PG (blk X sc cl C Nc fp s H) tg g) (ht : ∀ cl C fp s H, PTs (blk X sc cl C Nc fp s H) ifs tt) (he : ∀ cl C fp s H, PE (blk X sc cl C Nc fp s H) elt te)
   (hs : ∀ x, foldedSetIterable iter X.env x = pure x := by intro _; rfl) : PE X (.ListComp elt [⟨tg, iter, ifs, 0⟩] sc pos) (tComp m wi g tt te) := by
 intro pins s σ H Q I h
 rw [eval_ListComp]
 have hcl : ∀ y ∈ sc.names, y.2 = .free → ∃ c, X.env.cells.lookup y.1 = some c := fun y hy hf => I.ok.has y.1 (hfree y hy hf)
 refine wpAny_comprehension_free (use := none) rfl hs (closFor hcl) hkind hnames (thn (hi pins s σ H _ I h) fun v s1 h1 => thn h1 fun itv s2 h2 => ?_)
 obtain ⟨it, fp, tn, J, H2, e, I2, T, st2, f2, hQ⟩ := h2
 subst e
 have hlt : ∀ b ∈ fp, b < s2.heap.objs.size := fun b hb => by
   obtain ⟨o, e, _⟩ := T.obj 0 _ st2 b hb
   exact Heap.lt_size e
 refine wpAny_newObj_type (wpAny_newFunctionEnv hcell (by intro y hy; simp at hy) (fun h₁ hns₁ hsb₁ => ?_) hkind)
 have I3 : Inv X pins σ (upd H2 s2.heap.objs.size (.lst [])) { s2 with heap := s2.heap.push { cls := .type "list", data := .seq ([] : List Value).toArray } } := I2.lnew (t' := s2.toks) .nil (Nat.zero_le _)
 obtain ⟨W, ⟨n0, w0⟩, turn⟩ := hQ s2.heap.objs.size I2.fresh
 have hD3 : ∀ b ∈ fp, b ≠ s2.heap.objs.size := fun b hb => Nat.ne_of_lt (hlt b hb)
 have f3 : ∀ b ∈ fp, FpOk X pins (upd H2 s2.heap.objs.size (.lst [])) b := fun b hb => by
   obtain ⟨a0, a1⟩ := f2 b hb
   exact ⟨by rw [jA (hD3 b hb)]; exact a0, a1⟩
 generalize hE : ({ s2 with heap := s2.heap.push { cls := .type "list", data := .seq ([] : List Value).toArray } } : Shared) = s3 at I3 hns₁ hsb₁ ⊢
 generalize hH3 : upd H2 s2.heap.objs.size (.lst []) = H3 at I3 f3 w0
 have hsz3 : s3.heap.objs.size = s2.heap.objs.size + 1 := by rw [← hE]; exact Heap.size_push _ _
 have old : ∀ b o, s3.heap.get? b = some o → h₁.get? b = some o := fun b o e => hsb₁.extBut b o (Nat.ne_of_lt (Heap.lt_size e)) (Heap.get?_push_of_some _ e)
 have old2 : ∀ b o, s2.heap.get? b = some o → h₁.get? b = some o := fun b o e => old b o (by rw [← hE]; exact Heap.get?_push_of_some _ e)
 have I4 := blk_start (fp := fp) (tk := s3.toks + ([] : List (Str × Value)).length) I3 hkind hcell hfree hm f3 (fun b hb => show b < s3.heap.objs.size by rw [hsz3]; exact Nat.lt_succ_of_lt (hlt b hb)) hns₁ old
 have st4 : tn 0 h₁ := T.keep _ _ _ st2 fun b hb o e => old2 b o e
 have loop : codeAny (model X.prog X.w) X.A (.compLoop (.ListComp elt [⟨tg, iter, ifs, 0⟩] sc pos) 0 (.ref it) (.ref s2.heap.objs.size) (compEnvC sc (jK X.env.cells sc.names []) s3.heap.objs.size X.env))
     (compPost (model X.prog X.w) X.A X.xe none (EP X pins σ Q) (.ref s2.heap.objs.size) s3.heap.objs.size) { s3 with heap := h₁, toks := s3.toks + ([] : List (Str × Value)).length } := by
   generalize hX : blk X sc (jK X.env.cells sc.names []) s3.heap.objs.size Nc fp s3 H3 = Xb at I4
   have eP : Xb.prog = X.prog := by rw [← hX]; rfl
   have ew : Xb.w = X.w := by rw [← hX]; rfl
   have eK : Xb.K = X.K := by rw [← hX]; rfl
   have eA : Xb.A = X.A := by rw [← hX]; rfl
   have ec : Xb.calm = true := by rw [← hX]; exact hc
   have ee : Xb.env = compEnvC sc (jK X.env.cells sc.names []) s3.heap.objs.size X.env := by rw [← hX]; rfl
   have ex : Xb.xe = fun _ _ => False := by rw [← hX]; rfl
   have hgb : PG Xb tg g := by rw [← hX]; exact hg _ _ _ _ _
   have htb : PTs Xb ifs tt := by rw [← hX]; exact ht _ _ _ _ _
   have heb : PE Xb elt te := by rw [← hX]; exact he _ _ _ _ _
   have stat : ∀ {H' : Hp}, (∀ b ∈ fp, H' b = none) → ∀ b ∈ fp, FpOk Xb [] H' b := fun {H'} hn b hb => by
     obtain ⟨o, eo, _⟩ := T.obj _ _ st4 b hb
     have q := I4.ok.exf b (by rw [← hX]; exact hb)
     exact ⟨hn b hb, q.1, I4.ok.exfs b (by rw [← hX]; exact hb), .inl (by rw [← hX]; exact hb), q.2, fun p hp => absurd hp (by rw [← hX]; simp [blk])⟩
   have fr4 : ∀ b ∈ fp, H3 b = none := fun b hb => (f3 b hb).1
   unfold PG at hgb
   unfold PTs at htb
   unfold PE at heb
   rw [eP, ew, eA, ee, ex] at hgb htb heb
   refine comp_turns (fun n z => ∃ i σ' H' ys, Inv Xb [] σ' H' z ∧ tn i z.heap ∧ (∀ b ∈ fp, H' b = none) ∧ W i n σ' H' ys) ?_ n0 ⟨0, _, H3, [], I4, st4, fr4, w0⟩
   rintro n z ⟨i, σ5, H5, ys, I5, st5, fr5, w5⟩
   obtain ⟨hD, hlen, way⟩ := turn i n σ5 H5 ys w5
   rcases way with ⟨stop, q⟩ | ⟨go, N, hN, step⟩
   · have R := T.done Xb eP ew eK ec i [] z σ5 H5 (fun _ _ => False) I5 (stat fr5) st5 stop
     rw [eA] at R
     refine thn R fun r z1 ⟨hr, I6⟩ => ?_
     subst hr
     obtain ⟨mm, hn6, _⟩ := I6.loc
     rw [ee] at hn6
     refine ⟨mm, hn6, fun h' sb => ?_⟩
     have u6 : Un (frs X.stack) fp H3 H5 s3.heap z1.heap := by
       have := I6.base
       rw [← hX] at this
       exact this
     have fC : H5 s3.heap.objs.size = none := by
       have := I6.free
       rw [ee] at this
       exact this
     have hok6 : HOk X.prog X.w H5 z1.heap := by
       have := I6.hok
       rw [eP, ew] at this
       exact this
     have os6 : z1.os = s3.os := by
       have := I6.os
       rw [← hX] at this
       exact this
     refine ⟨.ref s2.heap.objs.size, H5, I3.call' (s' := { z1 with heap := h' }) (ch := fp) os6 (u6.sameBut sb (Nat.le_refl _)) (hok6.sameBut sb fC) I6.bare (fun b hb => ?_), rfl, q⟩
     obtain ⟨a0, a1, a2, a3, a4, a5⟩ := f3 b hb
     exact ⟨a3, a1, a4, a5⟩
   · have R := T.item Xb eP ew eK ec i [] z σ5 H5 (fun _ _ => False) I5 (stat fr5) st5 go
     rw [eA] at R
     refine thn R fun r z1 ⟨u, hr, h6⟩ => ?_
     subst hr
     refine thn h6 fun _ z2 ⟨x, H7, I7, r7, y7, st7, fr7⟩ => ?_
     have I7' := I7.pinned (stat fr7) (T.obj _ _ st7)
     refine thn (hgb _ z2 σ5 H7 x u _ I7' r7 (step x H7 y7)) fun _ z3 ⟨σ8, H8, I8, q8⟩ => ?_
     refine thn (htb _ z3 σ8 H8 _ I8 q8) fun ok z4 ⟨H9, I9, q9⟩ => ?_
     have again : ∀ {σ7 : St} {Hz : Hp} {zz : Shared} {yy : List V} {n' : Nat}, Inv Xb ([] ++ pinsAt fp z2.heap) σ7 Hz zz → n' < n → W (i + 1) n' σ7 Hz yy → ∃ k, k < n ∧ ∃ i σ' H' ys, Inv Xb [] σ' H' zz ∧ tn i zz.heap ∧ (∀ b ∈ fp, H' b = none) ∧ W i k σ' H' ys := fun {σ7 Hz zz yy n'} Iz hn wz => by
       refine ⟨n', hn, i + 1, σ7, Hz, yy, Iz.unpinned, T.keep _ _ _ st7 fun b hb o e => (Iz.pin (b, o) (List.mem_append_right _ (List.mem_append_right _ (mem_pinsAt hb e)))).1, fun b hb => ?_, wz⟩
       obtain ⟨o, e, d⟩ := T.obj _ _ st7 b hb
       exact (Iz.pin (b, o) (List.mem_append_right _ (List.mem_append_right _ (mem_pinsAt hb e)))).2.1
     cases ok with
     | false =>
       obtain ⟨n', hn, w9⟩ := hN _ _ _ (show N σ8 H9 ys from q9)
       exact again I9 hn w9
     | true =>
       refine thn (heb _ z4 σ8 H9 _ I9 q9) fun xv z5 ⟨vv, H10, I10, r10, hD10, n10⟩ => ?_
       obtain ⟨n', hn, w10⟩ := hN _ _ _ n10
       have R := mt_append (X := Xb) _ z5 σ8 H10 (.ref s2.heap.objs.size) [vv] (.ref s2.heap.objs.size) [xv] (fun _ H' => H' = upd H10 s2.heap.objs.size (.lst (ys ++ [vv]))) I10 rfl (.cons r10 .nil) ⟨_, ys, vv, rfl, rfl, hD10, hlen, rfl⟩
       rw [eP, ew, eA, ex] at R
       refine thn R fun _ z6 ⟨_, H11, I11, _, e11⟩ => ?_
       subst e11
       exact again I11 hn w10
 exact codeAny_compStart_list loop (T.self _ 0 _ _ _ st4 loop)
end
theorem jY {X : Cx} {sc psc : Scope} (h : (sc.names.all fun y => decide (y.2 = .free → psc.names.lookup y.1 = some .cell ∨ psc.names.lookup y.1 = some .free)) = true) (e : X.env.scope = psc := by rfl) :
   ∀ y ∈ sc.names, y.2 = .free → X.env.scope.names.lookup y.1 = some .cell ∨ X.env.scope.names.lookup y.1 = some .free := by
 rw [e]
 intro y hy
 exact of_decide_eq_true (List.all_eq_true.mp h y hy)
noncomputable def freeAtB (sc : Scope) (N Nc : List Str) (m : List (Option Nat)) (k : Nat) : Bool := match m[k]? with
 | some (some i) => match Nc[k]? with
   | some x => decide (N[i]? = some x) && decide (sc.names.lookup x = some .free)
   | none => false
 | _ => true
theorem jS {X : Cx} {sc : Scope} {N Nc : List Str} {m : List (Option Nat)} (e : X.N = N) (hl : m.length = Nc.length) (h : ((List.range m.length).all (freeAtB sc N Nc m)) = true) : FreeAt X sc Nc m := by
 refine ⟨hl, fun k i hk => ?_⟩
 have hlt : k < m.length := (List.getElem?_eq_some_iff.mp hk).1
 have q := List.all_eq_true.mp h k (List.mem_range.mpr hlt)
 unfold freeAtB at q
 rw [hk] at q
 cases e2 : Nc[k]? with
 | none => rw [e2] at q; cases q
 | some x =>
   rw [e2] at q
   have q : (decide (N[i]? = some x) && decide (sc.names.lookup x = some .free)) = true := q
   rw [Bool.and_eq_true] at q
   exact ⟨x, rfl, by rw [e]; exact of_decide_eq_true q.1, of_decide_eq_true q.2⟩
section
variable {m : List (Option Nat)} {g : TG} {tt : TT} {te : TE} {σ : St} {H1 : Hp} {Q : VK}
theorem comp_rng {lo : Int} {n : Nat} (hn : n < sizeLine) (Pv : Addr → Nat → St → Hp → List V → Prop) (h0 : ∀ D, H1 D = none → Pv D 0 (blkσ m σ) (upd H1 D (.lst [])) [])
   (hD : ∀ D i σ' H' ys, H1 D = none → i ≤ n → Pv D i σ' H' ys → H' D = some (.lst ys) ∧ ys.length ≤ i)
   (hs : ∀ D i σ' H' ys, H1 D = none → i < n → Pv D i σ' H' ys → g (.int (lo + i)) σ' H' fun σ2 H2 => tt σ2 H2 fun b H3 => if b = true then te σ2 H3 fun v H4 => H4 D = some (.lst ys) ∧ Pv D (i + 1) σ2 (upd H4 D (.lst (ys ++ [v]))) (ys ++ [v]) else Pv D (i + 1) σ2 H3 ys)
   (hd : ∀ D σ' H' ys, H1 D = none → Pv D n σ' H' ys → Q (.ref D) H') : yW m g tt te σ Q (Itr lo n) H1 := by
 intro D hDn
 refine ⟨fun i k σ' H' ys => k = n - i ∧ i ≤ n ∧ Pv D i σ' H' ys, ⟨n, rfl, Nat.zero_le _, h0 D hDn⟩, ?_⟩
 rintro i k σ' H' ys ⟨rfl, hi, p⟩
 obtain ⟨q1, q2⟩ := hD D i σ' H' ys hDn hi p
 refine ⟨q1, by lia, ?_⟩
 by_cases hlt : i < n
 · refine .inr ⟨hlt, Pv D (i + 1), fun σ2 H2 zs z => ⟨n - (i + 1), by lia, rfl, hlt, z⟩, fun x H'' y => ?_⟩
   obtain ⟨e1, e2⟩ := y
   subst e1 e2
   exact hs D i σ' _ ys hDn hlt p
 · have e : i = n := by lia
   subst e
   exact .inl ⟨Nat.le_refl _, hd D σ' H' ys hDn p⟩
end
end L2
end
section
namespace SS
open PySem PySem.SetTable
noncomputable abbrev Ris (xs : Array Nat) : Prop := xs.toList.Pairwise (· < ·)
theorem ris_get {xs : Array Nat} (h : Ris xs) {a b : Nat} (hab : a < b) (hb : b < xs.size) : xs.getD a 0 < xs.getD b 0 := by
 have h1 : a < xs.size := Nat.lt_trans hab hb
 have := List.pairwise_iff_getElem.mp h a b (by simpa using h1) (by simpa using hb) hab
 simpa [Array.getD, h1, hb] using this
theorem go_spec {xs : Array Nat} {j : Nat} (hr : Ris xs) : ∀ (fuel lo hi : Nat), hi - lo ≤ fuel → lo ≤ hi → hi ≤ xs.size → (∀ a, a < lo → xs.getD a 0 < j) → (∀ a, hi ≤ a → a < xs.size → j ≤ xs.getD a 0) →
   (below.go xs j fuel lo hi ≤ xs.size ∧ (∀ a, a < below.go xs j fuel lo hi → xs.getD a 0 < j) ∧ (∀ a, below.go xs j fuel lo hi ≤ a → a < xs.size → j ≤ xs.getD a 0)) := by
 intro fuel
 induction fuel with
 | zero =>
   intro lo hi h1 h2 h3 h4 h5
   have e : lo = hi := by lia
   subst e
   exact ⟨h3, h4, h5⟩
 | succ fuel ih =>
   intro lo hi h1 h2 h3 h4 h5
   unfold below.go
   by_cases hlt : lo < hi
   · rw [if_pos hlt]
     have hm : (lo + hi) / 2 < xs.size := by lia
     have e : xs.getD ((lo + hi) / 2) j = xs.getD ((lo + hi) / 2) 0 := by simp [Array.getD, hm]
     dsimp only
     rw [e]
     by_cases hc : xs.getD ((lo + hi) / 2) 0 < j
     · rw [if_pos hc]
       refine ih _ _ (by lia) (by lia) h3 (fun a ha => ?_) h5
       by_cases e2 : a = (lo + hi) / 2
       · rw [e2]; exact hc
       · exact Nat.lt_trans (ris_get hr (by lia) hm) hc
     · rw [if_neg hc]
       refine ih _ _ (by lia) (by lia) (by lia) h4 (fun a ha hs => ?_)
       by_cases e2 : a = (lo + hi) / 2
       · rw [e2]; lia
       · have := ris_get hr (show (lo + hi) / 2 < a by lia) hs
         lia
   · rw [if_neg hlt]
     have e : lo = hi := by lia
     subst e
     exact ⟨h3, h4, h5⟩
theorem below_spec {xs : Array Nat} (hr : Ris xs) (j : Nat) : below xs j ≤ xs.size ∧ (∀ a, a < below xs j → xs.getD a 0 < j) ∧ (∀ a, below xs j ≤ a → a < xs.size → j ≤ xs.getD a 0) :=
 go_spec hr xs.size 0 xs.size (by lia) (Nat.zero_le _) (Nat.le_refl _) (fun a h => absurd h (Nat.not_lt_zero _)) (fun a h1 h2 => absurd h2 (by lia))
theorem below_eq {xs : Array Nat} (hr : Ris xs) {j i : Nat} (hi : i ≤ xs.size) (h1 : ∀ a, a < i → xs.getD a 0 < j) (h2 : ∀ a, i ≤ a → a < xs.size → j ≤ xs.getD a 0) : below xs j = i := by
 obtain ⟨b1, b2, b3⟩ := below_spec hr j
 rcases Nat.lt_trichotomy (below xs j) i with h | h | h
 · have q1 := h1 _ h
   have q2 := b3 _ (Nat.le_refl _) (by lia)
   lia
 · exact h
 · have q1 := b2 _ h
   have q2 := h2 _ (Nat.le_refl _) (by lia)
   lia
theorem toList_insertAt {α : Type} (xs : Array α) (p : Nat) (x : α) : (insertAt xs p x).toList = xs.toList.take p ++ x :: xs.toList.drop p := by
 unfold insertAt
 simp [Array.toList_extract, List.extract]
 rw [List.take_of_length_le (by simp)]
theorem size_insertAt {α : Type} (xs : Array α) (p : Nat) (x : α) : (insertAt xs p x).size = xs.size + 1 := by
 rw [← Array.length_toList, toList_insertAt]
 simp
 lia
theorem ris_insert {xs : Array Nat} {j : Nat} (hr : Ris xs) (hj : j ∉ xs.toList) : Ris (insertAt xs (below xs j) j) := by
 obtain ⟨b1, b2, b3⟩ := below_spec hr j
 show (insertAt xs (below xs j) j).toList.Pairwise (· < ·)
 rw [toList_insertAt, List.pairwise_append, List.pairwise_cons]
 have hl : ∀ a ∈ xs.toList.take (below xs j), a < j := by
   intro a ha
   obtain ⟨i, hi, e⟩ := List.mem_take_iff_getElem.mp ha
   have := b2 i (by lia)
   have hs : i < xs.size := by simp at hi; lia
   simp [Array.getD, hs] at this
   simp at e
   lia
 have hg : ∀ a ∈ xs.toList.drop (below xs j), j < a := by
   intro a ha
   obtain ⟨i, hi, e⟩ := List.mem_drop_iff_getElem.mp ha
   have hs : i + below xs j < xs.size := by simpa [Nat.add_comm] using hi
   have := b3 (i + below xs j) (by lia) hs
   simp [Array.getD, hs] at this
   have e' : xs[i + below xs j] = a := by simpa [Nat.add_comm] using e
   have hne : a ≠ j := by
     intro z
     apply hj
     rw [← z]
     exact List.mem_of_mem_drop ha
   lia
 refine ⟨hr.sublist (List.take_sublist _ _), ⟨hg, hr.sublist (List.drop_sublist _ _)⟩, ?_⟩
 intro a ha b hb
 rcases List.mem_cons.mp hb with rfl | hb
 · exact hl a ha
 · exact Nat.lt_trans (hl a ha) (hg b hb)
theorem not_mem_of_slot {t : SetTable} {j : Nat} (hr : Ris t.place) (h : t.slot j = .empty) : j ∉ t.place.toList := by
 intro hm
 obtain ⟨i, hi, e⟩ := List.getElem_of_mem hm
 have hs : i < t.place.size := by simpa using hi
 have e0 : t.place[i] = j := by simpa using e
 have eb : below t.place j = i := by
   refine below_eq hr (Nat.le_of_lt hs) (fun a ha => ?_) (fun a h1 h2 => ?_)
   · have := ris_get hr ha hs
     simp only [Array.getD, hs] at this ⊢
     simp [e0] at this ⊢
     exact this
   · by_cases e2 : a = i
     · subst e2
       simp [Array.getD, hs, e0]
     · have := ris_get hr (show i < a by lia) h2
       simp only [Array.getD, hs] at this
       simp [e0] at this
       simp [Array.getD]
       lia
 unfold SetTable.slot at h
 dsimp only at h
 rw [eb] at h
 rw [if_pos (by simp [hs, e0])] at h
 cases h
theorem has_nil (j : Nat) : has #[] j = false := by
 unfold has
 simp
theorem probe_go {t : SetTable} (hd : t.dummies = #[]) {f : Nat → Int} {h : Int} : ∀ (fuel : Nat) (p : Probe) (m : Met), p.dummy = none → probe.go t f h fuel p = some m →
   (∃ j, m = .empty j none ∧ t.slot j = .empty) ∨ (∃ j i n, m = .candidate j i n) := by
 intro fuel
 induction fuel with
 | zero => intro p m _ e; simp [probe.go] at e
 | succ fuel ih =>
   intro p m hp e
   unfold probe.go at e
   cases hs : t.slot p.j with
   | empty =>
     rw [hs] at e
     simp only [Option.some.injEq] at e
     subst e
     exact .inl ⟨p.j, by rw [hp], hs⟩
   | dummy =>
     unfold SetTable.slot at hs
     dsimp only at hs
     rw [hd, has_nil] at hs
     split at hs
     · cases hs
     · simp at hs
   | live i =>
     rw [hs] at e
     dsimp only at e
     split at e
     · simp only [Option.some.injEq] at e
       subst e
       exact .inr ⟨_, _, _, rfl⟩
     · refine ih _ _ ?_ e
       unfold advance
       split
       · exact hp
       · exact hp
theorem freeSlot_free {t : SetTable} (hr : Ris t.place) (hd : t.dummies = #[]) {h : Int} {slot : Nat} {d : Bool} (e : t.freeSlot h = some (slot, d)) : slot ∉ t.place.toList := by
 unfold SetTable.freeSlot at e
 split at e
 · rename_i j dummy hp
   simp only [Option.some.injEq, Prod.mk.injEq] at e
   have hp' : probe.go t (fun _ => h + 1) h (10 * turns t.mask) (t.probeStart h) = some (.empty j dummy) := hp
   rcases probe_go hd _ _ _ (by unfold probeStart; rfl) hp' with ⟨j', em, hs⟩ | ⟨_, _, _, em⟩
   · cases em
     have : slot = j := by rw [← e.1]; rfl
     rw [this]
     exact not_mem_of_slot hr hs
   · cases em
 · cases e
theorem slot_cases {t : SetTable} {j : Nat} (hd : t.dummies = #[]) (h : t.slot j ≠ .empty) : (∃ i, t.slot j = .live i) ∧ j ∈ t.place.toList := by
 unfold SetTable.slot at h ⊢
 dsimp only at h ⊢
 by_cases q : (t.place[below t.place j]? == some j) = true
 · rw [if_pos q]
   refine ⟨⟨_, rfl⟩, ?_⟩
   have e : t.place[below t.place j]? = some j := eq_of_beq q
   obtain ⟨hi, e⟩ := Array.getElem?_eq_some_iff.mp e
   rw [← e]
   exact Array.getElem_mem_toList hi
 · rw [if_neg q, hd, has_nil] at h
   exact absurd rfl h
theorem run7 (i : Nat) : runEnd 7 i = i := by unfold runEnd; rw [if_neg (by lia)]
theorem probe_all {t : SetTable} (hm : t.mask = 7) (hd : t.dummies = #[]) {h : Int} : ∀ (k fuel : Nat) (p : Probe), p.j = p.i → p.more = 0 → p.i < 8 → p.perturb < 32 → k ≤ fuel →
   probe.go t (fun _ => h + 1) h fuel p = none → ∀ r, r < k → Nat.repeat (fun i => (i * 5 + 1) % 8) r p.i ∈ t.place.toList := by
 intro k
 induction k with
 | zero => intro fuel p _ _ _ _ _ _ r hr; lia
 | succ k ih =>
   intro fuel p h1 h2 h3 h4 h5 h6 r hr
   obtain ⟨f, rfl⟩ : ∃ f, fuel = f + 1 := ⟨fuel - 1, by lia⟩
   unfold probe.go at h6
   by_cases he : t.slot p.j = .empty
   · rw [he] at h6; cases h6
   · obtain ⟨⟨i, hl⟩, hmem⟩ := slot_cases hd he
     rw [hl] at h6
     dsimp only at h6
     rw [if_neg (by simp; lia)] at h6
     have hz : p.perturb / 32 = 0 := by lia
     have ea : t.advance p = { p with j := (p.i * 5 + 1) % 8, more := 0, i := (p.i * 5 + 1) % 8, perturb := 0 } := by
       unfold advance leap
       rw [if_neg (by lia), hm, hz]
       simp [run7]
     rw [ea] at h6
     cases r with
     | zero => show p.i ∈ _; rw [← h1]; exact hmem
     | succ r =>
       have q := ih f _ (by rfl) (by rfl) (by show (p.i * 5 + 1) % 8 < 8; lia) (by show 0 < 32; lia) (by lia) h6 r (by lia)
       have e : ∀ (r i : Nat), Nat.repeat (fun i => (i * 5 + 1) % 8) (r + 1) i = Nat.repeat (fun i => (i * 5 + 1) % 8) r ((i * 5 + 1) % 8) := by
         intro r
         induction r with
         | zero => intro i; rfl
         | succ r ihr =>
           intro i
           show ((Nat.repeat _ (r + 1) i) * 5 + 1) % 8 = ((Nat.repeat _ r ((i * 5 + 1) % 8)) * 5 + 1) % 8
           rw [ihr]
       rw [e]
       exact q
theorem all_eight : ∀ i, i < 8 → ∀ j, j < 8 → ∃ r, r < 8 ∧ Nat.repeat (fun i => (i * 5 + 1) % 8) r i = j := by decide +kernel
theorem freeSlot_some {t : SetTable} (hm : t.mask = 7) (hd : t.dummies = #[]) (hz : t.place.size < 8) {h : Int} (h0 : 0 ≤ h) (h1 : h < 32) : ∃ q, t.freeSlot h = some q := by
 unfold SetTable.freeSlot
 have hb : bits h < 32 := by unfold bits; lia
 have hps : t.probeStart h = { j := bits h % 8, more := 0, i := bits h % 8, perturb := bits h, dummy := none } := by
   unfold probeStart
   rw [hm]
   simp [run7]
 cases e : t.probe (fun _ => h + 1) h (t.probeStart h) with
 | none =>
   exfalso
   have e' : probe.go t (fun _ => h + 1) h (10 * turns t.mask) (t.probeStart h) = none := e
   rw [hps] at e'
   have q := probe_all hm hd 8 _ _ (by rfl) (by rfl) (by show bits h % 8 < 8; lia) (by exact hb) (by rw [hm]; decide) e'
   have sub : List.range 8 ⊆ t.place.toList := by
     intro j hj
     obtain ⟨r, hr, er⟩ := all_eight (bits h % 8) (by lia) j (List.mem_range.mp hj)
     rw [← er]
     exact q r hr
   have := List.Nodup.length_le_of_subset (List.nodup_range (n := 8)) sub
   simp at this
   lia
 | some m =>
   rcases probe_go hd _ _ _ (by rw [hps]) (show probe.go t (fun _ => h + 1) h (10 * turns t.mask) (t.probeStart h) = some m from e) with ⟨j, rfl, _⟩ | ⟨j, i, n, rfl⟩
   · exact ⟨_, rfl⟩
   · exfalso
     have nc : ∀ (fuel : Nat) (p : Probe) (j i : Nat) (n : Probe), probe.go t (fun _ => h + 1) h fuel p ≠ some (.candidate j i n) := by
       intro fuel
       induction fuel with
       | zero => intro p j i n; simp [probe.go]
       | succ f ih =>
         intro p j i n
         unfold probe.go
         cases t.slot p.j with
         | empty => simp
         | dummy => exact ih _ _ _ _
         | live i' =>
           dsimp only
           rw [if_neg (by simp; lia)]
           exact ih _ _ _ _
     exact nc _ _ _ _ _ e
structure Tab (t : SetTable) (n : Nat) (led : Bool) : Prop where
 ris : Ris t.place
 sz : t.place.size = n
 dm : t.dummies = #[]
 msk : t.mask = 7
 pl : t.plain = true
 ld : t.led = led
theorem Tab.fits {t : SetTable} {n : Nat} {led : Bool} (T : Tab t n led) (hn : n ≤ 4) : t.fits n = true := by
 unfold SetTable.fits fill
 simp [T.sz, T.dm, T.msk]
 lia
theorem Tab.full {t : SetTable} {n : Nat} {led : Bool} (T : Tab t n led) (hn : n ≤ 4) : t.tooFull = false := by
 unfold tooFull fill
 simp [T.sz, T.dm, T.msk]
 lia
theorem tab_fresh (led : Bool) : Tab (fresh 0 0 led) 0 led := ⟨List.Pairwise.nil, rfl, rfl, rfl, rfl, rfl⟩
theorem layNew_tab {t : SetTable} {n : Nat} {led : Bool} (T : Tab t n led) (hn : n + 1 ≤ 4) (es : Array (Int × Value)) (he : es.size = n) {h : Int} (h0 : 0 ≤ h) (h1 : h < 32) (x : Value) :
   Tab (layNew t es h x).2.1 (n + 1) led ∧ ∃ p, (layNew t es h x).1.toList = es.toList.take p ++ (h, x) :: es.toList.drop p := by
 obtain ⟨⟨slot, d⟩, hf⟩ := freeSlot_some T.msk T.dm (by rw [T.sz]; lia) h0 h1
 unfold layNew
 rw [hf]
 dsimp only [SetTable.put]
 have hnm := freeSlot_free T.ris T.dm hf
 have T2 : Tab { t with place := insertAt t.place (below t.place slot) slot, dummies := if has t.dummies slot then eraseAt t.dummies (below t.dummies slot) else t.dummies } (n + 1) led := by
   refine ⟨ris_insert T.ris hnm, by rw [size_insertAt, T.sz], ?_, T.msk, T.pl, T.ld⟩
   rw [T.dm, has_nil]
   rfl
 refine ⟨?_, _, toList_insertAt _ _ _⟩
 unfold SetTable.orStandIn
 rw [size_insertAt, he, T2.fits hn]
 exact T2
noncomputable def slotAt (xs : Array Nat) : Nat → Nat
 | 0 => 0
 | i + 1 => xs.getD i 0 + 1
theorem below_slotAt {xs : Array Nat} (hr : Ris xs) {i : Nat} (hi : i ≤ xs.size) : below xs (slotAt xs i) = i := by
 cases i with
 | zero => exact below_eq hr (Nat.zero_le _) (fun a h => absurd h (Nat.not_lt_zero _)) (fun a _ _ => Nat.zero_le _)
 | succ i =>
   refine below_eq hr hi (fun a ha => ?_) (fun a h1 h2 => ?_)
   · show _ < xs.getD i 0 + 1
     by_cases e : a = i
     · rw [e]; lia
     · have := ris_get hr (show a < i by lia) (show i < xs.size by lia)
       lia
   · show xs.getD i 0 + 1 ≤ _
     exact ris_get hr (show i < a by lia) h2
theorem erase_perm {α : Type} {l : List α} {i : Nat} (h : i < l.length) : (l[i] :: l.eraseIdx i).Perm l := by
 rw [List.eraseIdx_eq_take_drop_succ]
 have e : l = l.take i ++ l[i] :: l.drop (i + 1) := by rw [← List.drop_eq_getElem_cons h, List.take_append_drop]
 conv => rhs; rw [e]
 exact List.perm_middle.symm
theorem pick_go {α : Type} (next : Nat → Nat) : ∀ (fuel k : Nat) (left : List α) (out : Array α), fuel = left.length → (pickOrder.go next fuel k left out).toList.Perm (out.toList ++ left) := by
 intro fuel
 induction fuel with
 | zero =>
   intro k left out h
   have : left = [] := List.length_eq_zero_iff.mp h.symm
   subst this
   simp [pickOrder.go]
 | succ f ih =>
   intro k left out h
   have hl : next k % left.length < left.length := Nat.mod_lt _ (by lia)
   unfold pickOrder.go
   rw [List.getElem?_eq_getElem hl]
   dsimp only
   refine (ih _ _ _ (by rw [List.length_eraseIdx_of_lt hl]; lia)).trans ?_
   rw [Array.toList_push, List.append_assoc]
   exact List.Perm.append_left _ (erase_perm hl)
theorem pick_perm {α : Type} (next : Nat → Nat) (xs : Array α) : (pickOrder next xs).toList.Perm xs.toList := by
 unfold pickOrder
 have := pick_go next xs.size 0 xs.toList #[] (by simp)
 simpa using this
end SS
end
section
namespace SS
open PySem
noncomputable abbrev ledW (w : World) : Bool := !(w.params.followText "set-order")
noncomputable def El (e : Int × Value) (k : Int) : Prop := e.1 = hashInt k ∧ ∃ t, e.2 = .int k t
theorem paired_left {α β : Type} {F : α → β → Prop} : ∀ {l : List α} {r : List β}, Paired F l r → ∀ a ∈ l, ∃ b ∈ r, F a b
 | _, _, .nil => fun a h => by cases h
 | _, _, .cons f t => fun a h => by
   rcases List.mem_cons.mp h with rfl | h
   · exact ⟨_, List.mem_cons_self, f⟩
   · obtain ⟨b, hb, q⟩ := paired_left t a h
     exact ⟨b, List.mem_cons_of_mem _ hb, q⟩
theorem paired_right {α β : Type} {F : α → β → Prop} : ∀ {l : List α} {r : List β}, Paired F l r → ∀ b ∈ r, ∃ a ∈ l, F a b
 | _, _, .nil => fun a h => by cases h
 | _, _, .cons f t => fun b h => by
   rcases List.mem_cons.mp h with rfl | h
   · exact ⟨_, List.mem_cons_self, f⟩
   · obtain ⟨a, ha, q⟩ := paired_right t b h
     exact ⟨a, List.mem_cons_of_mem _ ha, q⟩
theorem paired_put {α β : Type} {F : α → β → Prop} {a : α} {b : β} (f : F a b) : ∀ {l : List α} {r : List β} (p : Nat), Paired F l r → Paired F (l.take p ++ a :: l.drop p) (r.take p ++ b :: r.drop p)
 | _, _, 0, q => by simpa using Paired.cons f q
 | _, _, p + 1, .nil => by simpa using Paired.cons f .nil
 | _, _, p + 1, .cons g t => by
   simp only [List.take_succ_cons, List.drop_succ_cons, List.cons_append]
   exact .cons g (paired_put f p t)
theorem put_mem {α : Type} (l : List α) (p : Nat) (x z : α) : z ∈ l.take p ++ x :: l.drop p ↔ z = x ∨ z ∈ l := by
 conv => rhs; rw [← List.take_append_drop p l]
 simp only [List.mem_append, List.mem_cons]
 constructor
 · rintro (h | h | h)
   · exact .inr (.inl h)
   · exact .inl h
   · exact .inr (.inr h)
 · rintro (h | h | h)
   · exact .inr (.inl h)
   · exact .inl h
   · exact .inr (.inr h)
theorem put_perm {α : Type} (l : List α) (p : Nat) (x : α) : (l.take p ++ x :: l.drop p).Perm (x :: l) := by
 have h : (l.take p ++ x :: l.drop p).Perm (x :: (l.take p ++ l.drop p)) := List.perm_middle
 rw [List.take_append_drop] at h
 exact h
structure SetG (w : World) (h : Heap) (a : Addr) (ks : List Int) : Prop where
 ex : ∃ o es ep t, h.get? a = some o ∧ o.ExactSet ∧ o.data = .set es ep t ∧ Paired El es.toList ks ∧ Tab t es.size (ledW w)
 nd : ks.Nodup
 len : ks.length ≤ 4
section
variable {prog : Program} {w : World} {A : Around} {E : Value → Shared → Prop} {s : Shared} {a : Addr} {ks : List Int} {k : Int} {tk : Tok}
theorem elems {es : List (Int × Value)} (h : Paired El es ks) : ElemsOf (intKind prog w) es := fun e he => by
 obtain ⟨k, _, h1, t, h2⟩ := paired_left h e he
 rw [h2]
 exact ⟨⟨k, by show Value.isInt k (.int k t) = true; simp [Value.isInt], h1⟩, rfl⟩
theorem SetG.at {h h' : Heap} (S : SetG w h a ks) (e : ∀ o, h.get? a = some o → h'.get? a = some o) : SetG w h' a ks := by
 obtain ⟨⟨o, es, ep, t, ho, r⟩, nd, len⟩ := S
 exact ⟨⟨o, es, ep, t, e _ ho, r⟩, nd, len⟩
theorem hashInt_small (k0 : 0 ≤ k) (k1 : k < 32) : hashInt k = k := by
 obtain ⟨n, rfl⟩ := Int.eq_ofNat_of_zero_le k0
 have e : ∀ n : Nat, n < 32 → hashInt (n : Int) = (n : Int) := by decide +kernel
 exact e n (by lia)
theorem add_ok {Q : Bool → Shared → Prop} (S : SetG w s.heap a ks) (hl : ks.length + 1 ≤ 4) (k0 : 0 ≤ k) (k1 : k < 32)
   (h : ∀ b h' ks', Heap.SameBut a s.heap h' → SetG w h' a ks' → (∀ z, z ∈ ks' ↔ z = k ∨ z ∈ ks) → ks'.length ≤ ks.length + 1 → Q b { s with heap := h' }) :
   wpAny (model prog w) A (setAddHashed a (.int k tk) (hashInt k)) Q E s := by
 obtain ⟨o, es, ep, t, ho, hex, hd, hp, T⟩ := id S.ex
 have hn : es.size = ks.length := by rw [← Array.length_toList]; exact Paired.length hp
 have hf := T.fits (by lia)
 have hel : ElemsOf (intKind prog w) es.toList := elems hp
 have hb : es.size < scanBound := by unfold scanBound; lia
 have hi : ∀ (j : Int) (t : Tok), Value.isInt k (.int j t) = true → j = k := fun j t e => by simpa [Value.isInt] using e
 unfold setAddHashed setAddHashedIn
 refine wpAny_holding (wpAny_bind (wpAny_setState_of ho hd hf ?_))
 dsimp only
 rw [byScan_of (knd := intKind prog w) rfl hb hel, if_pos rfl]
 unfold setAddByScan
 refine wpAny_bind (wpAny_bind (wpAny_rule (wpAny_bind ?_)))
 refine wpAny_setScan_of (knd := intKind prog w) (k := k) (by show Value.isInt k (.int k tk) = true; simp [Value.isInt]) ho hd hf hel ?_
 have es0 : s = { s with heap := s.heap } := by cases s; rfl
 cases hr : List.findIdx? (fun e => (intKind prog w).is k e.2) es.toList with
 | some j =>
   obtain ⟨hj, hpj, _⟩ := List.findIdx?_eq_some_iff_getElem.mp hr
   obtain ⟨k', hk', _, t', e'⟩ := paired_left hp _ (List.getElem_mem hj)
   have hkk : k' = k := hi k' t' (by rw [← e']; exact hpj)
   subst hkk
   refine wpAny_pure (wpAny_pure ?_)
   rw [es0]
   exact h false s.heap ks (Heap.SameBut.refl a s.heap) S (fun z => ⟨.inr, fun q => q.elim (fun e => e ▸ hk') id⟩) (by lia)
 | none =>
   have hnk : k ∉ ks := fun hm => by
     obtain ⟨e, he, _, t', e'⟩ := paired_right hp k hm
     have q := List.findIdx?_eq_none_iff.mp hr e he
     rw [e'] at q
     have q' : Value.isInt k (.int k t') = false := q
     simp [Value.isInt] at q'
   obtain ⟨T1, p, hp1⟩ := layNew_tab T (by lia) es rfl (h := hashInt k) (by rw [hashInt_small k0 k1]; exact k0) (by rw [hashInt_small k0 k1]; exact k1) (.int k tk)
   dsimp only
   show wpAny _ A (match layNew t es (hashInt k) (Value.int k tk) with | (es, t, wasDummy, gave) => _) _ E s
   generalize layNew t es (hashInt k) (Value.int k tk) = L at T1 hp1 ⊢
   obtain ⟨es1, t1, wd, gv⟩ := L
   dsimp only at T1 hp1 ⊢
   have hp2 : Paired El es1.toList (ks.take p ++ k :: ks.drop p) := by
     rw [hp1]
     exact paired_put ⟨rfl, tk, rfl⟩ p hp
   have hz1 : es1.size = es.size + 1 := by
     rw [← Array.length_toList, hp1, (put_perm es.toList p (hashInt k, Value.int k tk)).length_eq]
     simp
   have hlen : (ks.take p ++ k :: ks.drop p).length = ks.length + 1 := (put_perm ks p k).length_eq
   have T1' : Tab t1 es1.size (ledW w) := by rw [hz1]; exact T1
   have hg : (s.heap.update a (Obj.putSet es1 t1)).get? a = some { o with data := .set es1 (ep + 1) t1 } := by
     have q := Heap.get?_update_self (Obj.putSet es1 t1) ho (by rw [putSet_of es1 t1 hd]; rfl)
     rw [putSet_of es1 t1 hd] at q
     exact q
   have fin : Q true { s with heap := s.heap.update a (Obj.putSet es1 t1) } :=
     h true _ _ (Heap.SameBut.update ..) ⟨⟨_, es1, ep + 1, t1, hg, hex, rfl, hp2, T1'⟩, (put_perm ks p k).nodup_iff.mpr (List.nodup_cons.mpr ⟨hnk, S.nd⟩), by lia⟩ (fun z => put_mem ks p k z) (by lia)
   have hfull : t1.tooFull = false := T1'.full (by lia)
   refine wpAny_bind (show wpAny _ A (match gv with | true => rule "set.scan.the-table-gave-way" | false => pure ()) _ E s from ?_)
   have hzl : es1.size ≤ sizeLine := by rw [hz1, show sizeLine = 2 ^ 24 from rfl]; lia
   cases gv with
   | true =>
     refine wpAny_rule ?_
     split
     all_goals
       refine wpAny_bind (show wpAny _ A (pure true : Sem Bool) _ E s from wpAny_pure ?_)
       simp only [if_true]
       refine wpAny_bind (wpAny_storeSet_of ho hd ?_ hzl)
       rw [hfull, Bool.and_false, if_neg Bool.false_ne_true]
       exact wpAny_pure (wpAny_pure fin)
   | false =>
     refine wpAny_pure ?_
     split
     all_goals
       refine wpAny_bind (show wpAny _ A (pure true : Sem Bool) _ E s from wpAny_pure ?_)
       simp only [if_true]
       refine wpAny_bind (wpAny_storeSet_of ho hd ?_ hzl)
       rw [hfull, Bool.and_false, if_neg Bool.false_ne_true]
       exact wpAny_pure (wpAny_pure fin)
end
end SS
end
section
namespace SS
open PySem
theorem entry_upd_loop : entryFor table "set.update.loop" = some Builtin.«set.update.loop» := entryFor_of_fast (by kernel_rfl)
theorem plain_upd_loop : plainId "set.update.loop" = true := by decide +kernel
section
variable {prog : Program} {w : World} {A : Around} {R : Result → Shared → Prop} {I : Addr} {fp wr : List Addr} {n : Nat} {P : Nat → Value → Prop} {St : Nat → Shared → Prop}
theorem upd_loop (W : WalksS prog w A.in1 I fp wr (fun a b => b = a) n P St) (S : Addr) (hSf : S ∉ fp) (val : Nat → Int) (hval : ∀ i v, P i v → ∃ t, v = .int (val i) t) (hv : ∀ i, i < n → 0 ≤ val i ∧ val i < 32) (hn : n ≤ 4) :
   ∀ (k i : Nat) (s : Shared) (ks : List Int), n - i = k → i ≤ n → St i s → SetG w s.heap S ks → ks.length ≤ i → (∀ z, z ∈ ks ↔ ∃ j, j < i ∧ val j = z) →
     (∀ s' ks', Moved (S :: wr) (fun a b => b = a) s s' → SetG w s'.heap S ks' → (∀ z, z ∈ ks' ↔ ∃ j, j < n ∧ val j = z) → R (.ok (.ret .none)) s') →
     codeAny (model prog w) A (.builtin "set.update.loop" ⟨[.ref S, .ref I], []⟩) R s := by
 have hSw : S ∉ wr := fun h => hSf (W.sub _ h)
 have sub1 : ∀ b ∈ wr, b ∈ S :: wr := fun b hb => List.mem_cons_of_mem _ hb
 intro k
 induction k with
 | zero =>
   intro i s ks hk hi hst hS hl hm hR
   obtain rfl : i = n := by lia
   refine codeAny_builtin entry_upd_loop ?_
   rw [Around.under_plainId plain_upd_loop _]
   show wpAny _ A.in1 (pyNext (.ref I) >>= _) _ _ s
   refine wpAny_bind (W.done s _ _ hst fun s' mv => ?_)
   show wpAny _ A.in1 (ret Value.none) _ _ s'
   exact wpAny_pure (hR s' ks (mv.mono sub1) (hS.at fun o e => mv.heap S o hSw e) hm)
 | succ k ih =>
   intro i s ks hk hi hst hS hl hm hR
   have hlt : i < n := by lia
   refine codeAny_builtin entry_upd_loop ?_
   rw [Around.under_plainId plain_upd_loop _]
   show wpAny _ A.in1 (pyNext (.ref I) >>= _) _ _ s
   refine wpAny_bind (W.item i s _ _ hlt hst fun v s' hP hst' mv => ?_)
   obtain ⟨t, rfl⟩ := hval i v hP
   have hS' := hS.at (h' := s'.heap) fun o e => mv.heap S o hSw e
   show wpAny _ A.in1 (holding [Value.int (val i) t] (setAdd S (.int (val i) t)) >>= _) _ _ s'
   refine wpAny_bind (wpAny_holding ?_)
   unfold setAdd
   refine wpAny_holding (wpAny_bind (wpAny_pyHash_int ?_))
   refine add_ok (s := { s' with toks := s'.toks + 1 }) hS' (by lia) (hv i hlt).1 (hv i hlt).2 fun b h' ks' sb hS2 hm2 hl2 => ?_
   refine wpAny_pure ⟨plainId_quiet plain_upd_loop _, ih (i + 1) _ ks' (by lia) hlt (W.frame _ s' _ _ hst' (Nat.le_succ _) fun b hb o e => ?_) hS2 (by lia) (fun z => ?_) fun s'' ks'' mv2 hS3 hm3 => ?_⟩
   · rw [sb.2 b (fun h : b = S => hSf (by rw [← h]; exact hb))]
     exact e
   · rw [hm2, hm]
     constructor
     · rintro (h | ⟨j, hj, e⟩)
       · exact ⟨i, by lia, h.symm⟩
       · exact ⟨j, by lia, e⟩
     · rintro ⟨j, hj, e⟩
       by_cases hji : j = i
       · exact .inl (by rw [← e, hji])
       · exact .inr ⟨j, by lia, e⟩
   · refine hR s'' ks'' (Moved.trans W.gtrans ((mv.mono sub1).then_heap (Nat.le_succ _) fun b o hb e => ?_) mv2) hS3 hm3
     rw [sb.2 b (fun h : b = S => hb (by rw [h]; exact List.mem_cons_self))]
     exact e
end
end SS
end
section
namespace SS
open PySem
section
variable {prog : Program} {w : World} {A : Around} {E : Value → Shared → Prop} {s : Shared}
theorem new_led (a : Value) {Q : Value → Shared → Prop}
   (h : Q (.ref s.heap.objs.size) { s with heap := s.heap.push { cls := .type "set", dict := none, data := .set #[] 0 (.fresh 0 0 (ledW w)) } }) :
   codeAny (model prog w) A (.call (.builtin "set.__new__") ⟨[.type "set", a], []⟩) (wants Q E) s := by
 refine codeAny_of_tree (show wpAny _ A.in1 (do checkBuiltinCall "set.__new__" ⟨[.type "set", a], []⟩; again (.builtin "set.__new__" ⟨[.type "set", a], []⟩)) _ _ s from ?_)
 refine wpAny_bind (wpAny_of_eq (F.newCall_set_1 a) (wpAny_pure ⟨plainId_quiet F.plain_set_new _, codeAny_builtin F.entry_set_new ?_⟩))
 rw [Around.under_plainId F.plain_set_new _]
 unfold Builtin.«set.__new__» Builtin.Frozenset.newClass
 have q := sub_set_self
 obtain ⟨hp, g, d, tk, os⟩ := s
 dsimp only
 wp_walk
 refine wpAny_askSetting (wpAny_pure ?_)
 dsimp only
 simp only [newObj]
 exact wpAny_bind (wpAny_alloc (wpAny_pure (wpAny_pure h)))
set_option maxHeartbeats 3200000 in
theorem set_of_list {l : Addr} {items : Array Value} {ns : List Int} {Q : Value → Shared → Prop} (hh : A.handled = none) (hl : s.heap.IsList l items) (hi : PyProof.Rows.IntsAre items.toList ns)
   (hn : items.size ≤ 4) (hv : ∀ z ∈ ns, 0 ≤ z ∧ z < 32)
   (h : ∀ (h' : Heap) (tk : Nat) (ks : List Int), SetG w h' s.heap.objs.size ks → (∀ z, z ∈ ks ↔ z ∈ ns) → (∀ b o, s.heap.get? b = some o → h'.get? b = some o) → Q (.ref s.heap.objs.size) { s with heap := h', toks := tk }) :
   wpAny (model prog w) A (call (.type "set") [.ref l]) Q E s := by
 obtain ⟨c, tl, hmro⟩ := F.called_set.mro
 have hmade := F.called_set.made
 have hsub := F.called_set.sub
 have g1 := F.called_set.notType
 have g2 := F.called_set.canCreate
 have g3 := F.typeCall_set_1 (.ref l)
 refine wpAny_call (codeAny_of_tree (show wpAny _ _ (callAny (.type "set") _) _ _ _ from ?_))
 refine wpAny_pure ⟨Code.quiet_builtin _ (by decide +kernel), codeAny_builtin F.entry_type_call ?_⟩
 rw [Around.under_plain (weight_type_call_type "set" [.ref l] []) rfl]
 repeat (any_goals (first | assumption | wp_step))
 have hlen : items.size = ns.length := by rw [← Array.length_toList]; exact hi.length
 refine codeAny_mono (new_led (.ref l) (E := E) (Q := fun obj z => obj = .ref s.heap.objs.size ∧ z = { s with heap := s.heap.push { cls := .type "set", dict := none, data := .set #[] 0 (.fresh 0 0 (ledW w)) } }) ⟨rfl, rfl⟩) fun r z hr => ?_
 cases r with
 | error e => exact hr
 | ok fl =>
   cases fl with
   | ret obj =>
     obtain ⟨rfl, rfl⟩ := hr
     generalize hO : ({ cls := .type "set", dict := none, data := .set #[] 0 (.fresh 0 0 (ledW w)) } : Obj) = oS
     have hS : (s.heap.push oS).get? s.heap.objs.size = some oS := Heap.get?_push_size _ (by rw [← hO]; rfl)
     have hT : Shared.TypeIs { s with heap := s.heap.push oS } (.ref s.heap.objs.size) "set" := ⟨_, hS, by rw [← hO]⟩
     have hli := F.called_set.init.lookup
     have hbi := F.called_set.init.bind (.ref s.heap.objs.size)
     repeat (any_goals (first | assumption | wp_step))
     refine codeAny_mono (codeAny_call_builtin (R := wants (fun r z2 => r = .none ∧ ∃ h' tk ks, z2 = { s with heap := h', toks := tk } ∧ SetG w h' s.heap.objs.size ks ∧ (∀ z, z ∈ ks ↔ z ∈ ns) ∧ (∀ b o, s.heap.get? b = some o → h'.get? b = some o)) E)
       F.called_set.init.plain F.entry_set_init (check_set_init_1 hT ?_)) fun r2 z2 hr2 => ?_
     · obtain ⟨ol, hol, hcl, nl, hdl⟩ := hl
       obtain ⟨ocls, odict, odata, oslots⟩ := ol
       simp only at hcl hdl
       subst hcl; subst hdl
       have hol' : (s.heap.push oS).get? l = some { cls := .type "list", dict := odict, data := .seq items nl, slots := oslots } := Heap.get?_push_of_some _ hol
       have y1 := F.sub_list_set
       have y2 := F.sub_list_frozenset
       have y3 : (Value.type "list" == Value.type "dict") = false := by decide
       have hl1 : (s.heap.push oS).IsList l items := ⟨_, hol', rfl, nl, rfl⟩
       subst hO
       unfold Builtin.«set.__init__» noKeywords Builtin.Frozenset.updateFrom
       generalize hPI : pyIter = PI
       wp_walk
       subst hPI
       refine wpAny_pyIter_list hl1 (wpAny_bind (wpAny_runValue ?_))
       have hlS : l < s.heap.objs.size := Heap.lt_size hol
       have hz1 : (s.heap.push { cls := .type "set", dict := none, data := .set #[] 0 (.fresh 0 0 (ledW w)) }).objs.size = s.heap.objs.size + 1 := Heap.size_push _ _
       have nI : l ≠ (s.heap.push { cls := .type "set", dict := none, data := .set #[] 0 (.fresh 0 0 (ledW w)) }).objs.size := by
         rw [hz1]
         exact Nat.ne_of_lt (Nat.lt_succ_of_lt hlS)
       have nS : s.heap.objs.size ∉ [(s.heap.push { cls := .type "set", dict := none, data := .set #[] 0 (.fresh 0 0 (ledW w)) }).objs.size, l] := by
         rw [hz1]
         simp only [List.mem_cons, List.not_mem_nil, or_false, not_or]
         exact ⟨Nat.ne_of_lt (Nat.lt_succ_self _), Nat.ne_of_gt hlS⟩
       have hget : ((s.heap.push { cls := .type "set", dict := none, data := .set #[] 0 (.fresh 0 0 (ledW w)) }).push { cls := .type "list_iterator", data := .fields #[.ref l, .int 0 0] }).get? s.heap.objs.size
           = some { cls := .type "set", dict := none, data := .set #[] 0 (.fresh 0 0 (ledW w)) } := Heap.get?_push_of_some _ hS
       refine upd_loop ((Walks.list (by simp [hh]) _ l nI items).toS) s.heap.objs.size nS (fun i => ns.getD i 0) (fun i v q => PyProof.Rows.IntsAre.int_at hi i v (by rw [Array.getElem?_toList]; exact q))
         (fun i q => hv _ ?_) hn (items.size - 0) 0 _ [] rfl (Nat.zero_le _) ⟨⟨_, Heap.get?_push_size _ rfl, rfl, rfl⟩, hl1.push _⟩ ⟨⟨_, #[], 0, _, hget, ⟨rfl, rfl, rfl⟩, rfl, .nil, tab_fresh _⟩, List.nodup_nil, Nat.zero_le _⟩ (Nat.le_refl _) (fun z => ⟨fun q => by (cases q), fun ⟨j, q, _⟩ => absurd q (Nat.not_lt_zero _)⟩) ?_
       · have q' : i < ns.length := by rw [← hlen]; exact q
         simp [List.getD, q']
       · intro s' ks mv S' hm
         obtain ⟨h', g', d', tk', os'⟩ := s'
         have e1 : g' = s.gens := mv.gens
         have e2 : d' = s.drawn := mv.drawn
         have e3 : os' = s.os := mv.os
         subst e1; subst e2; subst e3
         refine wpAny_pure (wpAny_pure ⟨rfl, h', tk', ks, rfl, S', fun z => ?_, fun b o e => ?_⟩)
         · rw [hm]
           constructor
           · rintro ⟨j, hj, e⟩
             have hj' : j < ns.length := by rw [← hlen]; exact hj
             rw [← e]
             simp [List.getD, hj']
           · intro hz
             obtain ⟨j, hj, e⟩ := List.getElem_of_mem hz
             exact ⟨j, by rw [hlen]; exact hj, by simp [List.getD, hj, e]⟩
         · have hb := Heap.lt_size e
           refine mv.heap b o ?_ (Heap.get?_push_of_some _ (Heap.get?_push_of_some _ e))
           rw [hz1]
           simp only [List.mem_cons, List.not_mem_nil, or_false, not_or]
           exact ⟨Nat.ne_of_lt hb, Nat.ne_of_lt (Nat.lt_succ_of_lt hb)⟩
     · cases r2 with
       | error e => exact hr2
       | ok fl2 =>
         cases fl2 with
         | ret r =>
           obtain ⟨rfl, h', tk, ks, rfl, hS', hm, hk⟩ := hr2
           repeat (any_goals (first | assumption | wp_step))
           exact h _ _ _ hS' hm hk
         | _ => exact hr2.elim
   | _ => exact hr.elim
end
end SS
end
section
namespace SS
open PySem
theorem slot_si_next : Slot "set_iterator" "__next__" "set_iterator.__next__" :=
 .of (owner := "set_iterator") (n := "__next__") (by
     rw [typeLookup_type, builtinLookup_eq_fast]
     kernel_rfl) (by decide +kernel) (by decide +kernel)
   (by decide +kernel)
   (by first
     | exact .inl (by decide +kernel)
     | exact .inr (by decide +kernel))
   (by
     rw [isSubtype_type]
     kernel_rfl)
theorem slot_si_iter : Slot "set_iterator" "__iter__" "set_iterator.__iter__" :=
 .of (owner := "set_iterator") (n := "__iter__") (by
     rw [typeLookup_type, builtinLookup_eq_fast]
     kernel_rfl) (by decide +kernel) (by decide +kernel)
   (by decide +kernel)
   (by first
     | exact .inl (by decide +kernel)
     | exact .inr (by decide +kernel))
   (by
     rw [isSubtype_type]
     kernel_rfl)
theorem entry_si_next : entryFor table "set_iterator.__next__" = some Builtin.«set_iterator.__next__» := entryFor_of_tree (by kernel_rfl)
theorem entry_set_iter : entryFor table "set.__iter__" = some Builtin.«frozenset.__iter__» :=
 entryFor_alias (id' := "frozenset.__iter__") (by kernel_rfl) rfl (by decide +kernel) (by kernel_rfl)
theorem entry_si_iter : entryFor table "set_iterator.__iter__" = some Builtin.«dict_keyiterator.__iter__» :=
 entryFor_alias (id' := "dict_keyiterator.__iter__") (by kernel_rfl) (by first | rfl | decide +kernel | (unfold String.splitOn; simp +decide [String.splitOnAux])) (by decide +kernel)
   (by kernel_rfl)
theorem args_si_next (a : Value) : argsOk "set_iterator.__next__" ⟨[a], []⟩ := by unfold argsOk; kernel_rfl
theorem args_si_iter (a : Value) : argsOk "set_iterator.__iter__" ⟨[a], []⟩ := by unfold argsOk; kernel_rfl
theorem args_set_iter (a : Value) : argsOk "set.__iter__" ⟨[a], []⟩ := by unfold argsOk; kernel_rfl
end SS
end
section
namespace SS
open PySem
noncomputable abbrev byTxt (w : World) : Bool := w.params.followText "set-order"
noncomputable abbrev IsSI (h : Heap) (I : Addr) (slot i : Nat) (a : Addr) (n ep : Nat) : Prop :=
 h.get? I = some { cls := .type "set_iterator", dict := none, data := .fields #[rawInt slot, rawInt i, .ref a, rawInt n, rawInt ep], slots := #[] }
noncomputable def yL (w : World) (t : SetTable) (i : Nat) : Nat := if byTxt w = true then 0 else slotAt t.place i
noncomputable def told (w : World) (a : Addr) (ep : Nat) (es : Array (Int × Value)) : List Value := (if byTxt w = true then (pickOrder (w.params.setOrder a ep) es).toList else es.toList).map (·.2)
theorem told_len (w : World) (a : Addr) (ep : Nat) (es : Array (Int × Value)) : (told w a ep es).length = es.size := by
 unfold told
 rw [List.length_map]
 split
 · rw [(pick_perm _ es).length_eq]; simp
 · simp
theorem told_perm (w : World) (a : Addr) (ep : Nat) (es : Array (Int × Value)) : (told w a ep es).Perm (es.toList.map (·.2)) := by
 unfold told
 split
 · exact (pick_perm _ es).map _
 · exact .refl _
section
variable {prog : Program} {w : World} {A : Around} {E : Value → Shared → Prop} {s : Shared} {a I : Addr} {o : Obj} {es : Array (Int × Value)} {ep : Nat} {t : SetTable}
theorem next_ok {i : Nat} {Q : Option (Value × Nat) → Shared → Prop} (ho : s.heap.get? a = some o) (hd : o.data = .set es ep t) (T : Tab t es.size (ledW w)) (hn : es.size ≤ 4) (hi : i ≤ es.size)
   (h : Q ((told w a ep es)[i]?.map fun v => (v, yL w t (i + 1))) s) : wpAny (model prog w) A (setNext a (yL w t i) i ep) Q E s := by
 unfold setNext
 refine wpAny_bind (wpAny_setState_of ho hd (T.fits hn) ?_)
 dsimp only
 unfold setsByText
 refine wpAny_bind (wpAny_bind (wpAny_askSetting (wpAny_pure ?_)))
 show wpAny _ A (if byTxt w = true then _ else _) Q E s
 have hl := told_len w a ep es
 by_cases hb : byTxt w = true
 · rw [if_pos hb, if_neg (by simp)]
   unfold setWalk
   refine wpAny_bind (wpAny_bind (wpAny_setState_of ho hd (T.fits hn) ?_))
   dsimp only
   unfold setsByText
   refine wpAny_bind (wpAny_bind (wpAny_askSetting (wpAny_pure ?_)))
   show wpAny _ A (if byTxt w = true then _ else _) _ E s
   rw [if_pos hb]
   refine wpAny_bind (wpAny_askSetting (wpAny_pure (wpAny_pure ?_)))
   have e : (told w a ep es)[i]?.map (fun v => (v, yL w t (i + 1))) = (pickOrder (w.params.setOrder a ep) es)[i]?.map (fun e => (e.snd, yL w t i)) := by
     unfold told yL
     rw [if_pos hb, if_pos hb, if_pos hb, List.getElem?_map, Array.getElem?_toList, Option.map_map]
     rfl
   rw [e] at h
   exact h
 · rw [if_neg hb]
   have hb' : byTxt w = false := by simpa using hb
   have hld : t.led = true := by rw [T.ld]; show (!byTxt w) = true; rw [hb']; rfl
   show wpAny _ A (if (!t.plain && decide (es.size > 1)) = true then _ else _) Q E s
   rw [T.pl, Bool.not_true, Bool.false_and, if_neg Bool.false_ne_true]
   refine wpAny_bind ?_
   show wpAny _ A (if (!t.led && !es.isEmpty) = true then _ else pure ()) _ E s
   rw [hld, Bool.not_true, Bool.false_and, if_neg Bool.false_ne_true]
   refine wpAny_pure (wpAny_pure ?_)
   have eb : SetTable.below t.place (yL w t i) = i := by
     unfold yL
     rw [if_neg hb]
     exact below_slotAt T.ris (by rw [T.sz]; exact hi)
   rw [eb]
   have et : (told w a ep es)[i]? = es[i]?.map (·.2) := by
     unfold told
     rw [if_neg hb, List.getElem?_map, Array.getElem?_toList]
   rw [et] at h
   by_cases hlt : i < es.size
   · have h1 : es[i]? = some es[i] := by simp [hlt]
     have hlt2 : i < t.place.size := by rw [T.sz]; exact hlt
     have h2 : t.place[i]? = some t.place[i] := by simp [hlt2]
     have h3 : yL w t (i + 1) = t.place[i] + 1 := by
       unfold yL slotAt
       rw [if_neg hb]
       simp [Array.getD, hlt2]
     rw [h1, h3] at h
     rw [h1, h2]
     exact h
   · have h1 : es[i]? = none := by simp; lia
     rw [h1] at h
     rw [h1]
     exact h
theorem si_next_item {i : Nat} {v : Value} {Q : Option Value → Shared → Prop} (ho : s.heap.get? a = some o) (hd : o.data = .set es ep t) (T : Tab t es.size (ledW w)) (hn : es.size ≤ 4)
   (hit : IsSI s.heap I (yL w t i) i a es.size ep) (hv : (told w a ep es)[i]? = some v)
   (hQ : ∀ h', IsSI h' I (yL w t (i + 1)) (i + 1) a es.size ep → Heap.SameBut I s.heap h' → Q (some v) { s with heap := h' }) : wpAny (model prog w) A (pyNext (.ref I)) Q E s := by
 have hT : s.TypeIs (.ref I) "set_iterator" := ⟨_, hit, rfl⟩
 have hi : i < es.size := by
   rw [← told_len w a ep es]
   exact (List.getElem?_eq_some_iff.mp hv).1
 unfold pyNext
 refine wpAny_bind (wpAny_attempt (wpAny_callSpecial?_slot (name := Str.ofString "__next__") hT slot_si_next (wpAny_call_entry slot_si_next hT entry_si_next ?_ (args_si_next _))))
 unfold Builtin.«set_iterator.__next__»
 refine wpAny_bind (m := slotArgs "__next__" 0 _) (wpAny_pure ?_)
 dsimp only
 unfold fieldsOf
 refine wpAny_bind (wpAny_bind (wpAny_load hit ?_))
 refine wpAny_pure ?_
 dsimp only [rawInt]
 unfold setEntries
 refine wpAny_bind (wpAny_bind (wpAny_setState_of ho hd (T.fits hn) (wpAny_pure ?_)))
 rw [if_neg (by simp)]
 simp only [Int.toNat_natCast]
 refine wpAny_bind (next_ok ho hd T hn (Nat.le_of_lt hi) ?_)
 rw [hv]
 dsimp only [Option.map]
 refine wpAny_bind (wpAny_setField_rec hit (by simp) fun h1 hit1 sb1 => ?_)
 refine wpAny_bind (wpAny_setField_rec hit1 (by simp) fun h2 hit2 sb2 => ?_)
 refine wpAny_pure ⟨v, rfl, wpAny_pure (hQ h2 ?_ (sb1.trans sb2))⟩
 show h2.get? I = _
 rw [hit2]
 simp [rawInt]
theorem si_next_end {Q : Option Value → Shared → Prop} (hh : A.handled = none) (ho : s.heap.get? a = some o) (hd : o.data = .set es ep t) (T : Tab t es.size (ledW w)) (hn : es.size ≤ 4)
   (hit : IsSI s.heap I (yL w t es.size) es.size a es.size ep)
   (hQ : ∀ h', Heap.ExtBut I s.heap h' → Q none { s with heap := h' }) : wpAny (model prog w) A (pyNext (.ref I)) Q E s := by
 have hT : s.TypeIs (.ref I) "set_iterator" := ⟨_, hit, rfl⟩
 unfold pyNext
 refine wpAny_bind (wpAny_attempt (wpAny_callSpecial?_slot (name := Str.ofString "__next__") hT slot_si_next (wpAny_call_entry slot_si_next hT entry_si_next ?_ (args_si_next _))))
 unfold Builtin.«set_iterator.__next__»
 refine wpAny_bind (m := slotArgs "__next__" 0 _) (wpAny_pure ?_)
 dsimp only
 unfold fieldsOf
 refine wpAny_bind (wpAny_bind (wpAny_load hit ?_))
 refine wpAny_pure ?_
 dsimp only [rawInt]
 unfold setEntries
 refine wpAny_bind (wpAny_bind (wpAny_setState_of ho hd (T.fits hn) (wpAny_pure ?_)))
 rw [if_neg (by simp)]
 simp only [Int.toNat_natCast]
 refine wpAny_bind (next_ok ho hd T hn (Nat.le_refl _) ?_)
 rw [List.getElem?_eq_none (by rw [told_len]; exact Nat.le_refl _)]
 dsimp only [Option.map]
 refine wpAny_bind (wpAny_setField_rec hit (by simp) fun h1 hit1 sb1 => ?_)
 refine wpAny_bind ?_
 simp only [newExc, newTuple]
 refine wpAny_bind (wpAny_newObj_type ?_ (by size_fits))
 refine wpAny_bind (m := firstArgMember _ _) (wpAny_of_eq (a := Value.none) (by first | rfl | (simp only [firstArgMember]; rfl)) ?_)
 refine wpAny_newObj_type ?_ (by size_fits)
 simp only [raiseNew]
 refine wpAny_bind (wpAny_handled ?_)
 rw [show A.in1.handled = none from hh]
 refine wpAny_bind (wpAny_pure (wpAny_throw ?_))
 refine wpAny_bind (wpAny_isInstance (T := "StopIteration") (b := true) ⟨_, Heap.get?_push_size _ rfl, rfl⟩ isSubtype_stop ?_)
 exact wpAny_pure (hQ _ ((sb1.extBut.push _).push _))
theorem si_self {i : Nat} {slot n : Nat} {Q : Value → Shared → Prop} (hit : IsSI s.heap I slot i a n ep) (h : Q (.ref I) s) : wpAny (model prog w) A (pyIter (.ref I)) Q E s := by
 have hT : s.TypeIs (.ref I) "set_iterator" := ⟨_, hit, rfl⟩
 refine wpAny_pyIter_slot hT slot_si_iter (wpAny_call_entry slot_si_iter hT entry_si_iter ?_ (args_si_iter _))
 show wpAny _ _ (ret (.ref I)) _ _ s
 exact wpAny_pure ⟨_, rfl, "set_iterator", _, hT, slot_si_next.lookup, h⟩
theorem set_iter {Q : Value → Shared → Prop} (hx : o.ExactSet) (ho : s.heap.get? a = some o) (hd : o.data = .set es ep t) (T : Tab t es.size (ledW w)) (hn : es.size ≤ 4)
   (hQ : ∀ h', h'.get? s.heap.objs.size = some { cls := .type "set_iterator", dict := none, data := .fields #[rawInt (yL w t 0), rawInt 0, .ref a, rawInt es.size, rawInt ep], slots := #[] } → (∀ b u, s.heap.get? b = some u → h'.get? b = some u) →
     h'.objs.size = s.heap.objs.size + 1 → Q (.ref s.heap.objs.size) { s with heap := h' }) : wpAny (model prog w) A (pyIter (.ref a)) Q E s := by
 have hT : s.TypeIs (.ref a) "set" := ⟨o, ho, hx.1⟩
 refine wpAny_pyIter_slot hT PySem.F.slot_set_iter (wpAny_call_entry PySem.F.slot_set_iter hT entry_set_iter ?_ (args_set_iter _))
 unfold Builtin.«frozenset.__iter__»
 refine wpAny_bind (show wpAny _ _ (pure a : Sem Addr) _ _ s from wpAny_pure ?_)
 unfold Builtin.Frozenset.sizeOf setEntries
 refine wpAny_bind (wpAny_bind (wpAny_bind (wpAny_setState_of ho hd (T.fits hn) (wpAny_pure (wpAny_pure ?_)))))
 dsimp only
 unfold setDrawn
 refine wpAny_bind (wpAny_bind (wpAny_setState_of ho hd (T.fits hn) ?_))
 dsimp only
 unfold setsByText
 refine wpAny_bind (wpAny_bind (wpAny_askSetting (wpAny_pure (wpAny_pure ?_))))
 show wpAny _ _ (if (!byTxt w && (!t.plain && decide (es.size > 1))) = true then _ else _) _ _ s
 rw [T.pl, Bool.not_true, Bool.false_and, Bool.and_false, if_neg Bool.false_ne_true]
 refine wpAny_bind (wpAny_pure ?_)
 refine wpAny_bind (wpAny_setEpoch_of ho hd (T.fits hn) ?_)
 refine wpAny_bind (wpAny_newObj_type (wpAny_pure ⟨_, rfl, "set_iterator", _, ⟨_, Heap.get?_push_size _ rfl, rfl⟩, slot_si_next.lookup, hQ _ ?_ (fun b u e => Heap.get?_push_of_some _ e) (Heap.size_push _ _)⟩) (by size_fits))
 have e0 : yL w t 0 = 0 := by unfold yL slotAt; split <;> rfl
 rw [e0]
 exact Heap.get?_push_size _ rfl
theorem walks_set (hh : A.handled = none) (hne : a ≠ I) (hd : o.data = .set es ep t) (T : Tab t es.size (ledW w)) (hn : es.size ≤ 4) :
   Walks prog w A I [I, a] [I] es.size (fun i v => (told w a ep es)[i]? = some v) (fun i h => IsSI h I (yL w t i) i a es.size ep ∧ h.get? a = some o) where
 sub := fun b hb => by simp at hb; simp [hb]
 frame := fun _ _ _ st hk => ⟨hk I (by simp) _ st.1, hk a (by simp) _ st.2⟩
 item := fun i s Q E hi st hQ => by
   obtain ⟨v, hv⟩ : ∃ v, (told w a ep es)[i]? = some v := ⟨_, List.getElem?_eq_getElem (by rw [told_len]; exact hi)⟩
   exact si_next_item st.2 hd T hn st.1 hv fun h' hit' sb => hQ v h' s.toks hv ⟨hit', (sb.2 a hne).trans st.2⟩ fun b o hb e => (sb.2 b (fun z => hb (by simp [z]))).trans e
 done := fun s Q E st hQ => si_next_end hh st.2 hd T hn st.1 fun h' eb => hQ h' s.toks fun b o hb e => eb b o (fun z => hb (by simp [z])) e
 self := fun _ _ _ _ st hQ => si_self st.1 hQ
end
end SS
end
section
namespace SS
open PySem
theorem slot_set_len : typeLookup (.type "set") "__len__" = pure (some (.builtin "set.__len__")) := by rw [typeLookup_type, builtinLookup_eq_fast]; kernel_rfl
section
variable {prog : Program} {w : World} {A : Around} {E : Value → Shared → Prop} {s : Shared} {a : Addr} {o : Obj} {es : Array (Int × Value)} {ep : Nat} {t : SetTable}
theorem hint_set {Q : Bool → Shared → Prop} (hT : s.TypeIs (.ref a) "set") (h : Q false s) : wpAny (model prog w) A (Builtin.List.listLengthHint (.ref a)) Q E s := by
 unfold Builtin.List.listLengthHint
 refine wpAny_bind (wpAny_specialOf hT slot_set_len ?_)
 generalize hid : ("set.__len__" : String) = id0
 wp_delta
 rw [show splitId id0 = some ("set", "__len__") from by subst hid; decide +kernel]
 subst hid
 refine wpAny_bind (wpAny_isInstance (b := true) hT (by rw [isSubtype_type]; kernel_rfl) ?_)
 refine wpAny_ite_split (fun q => absurd q (by decide)) (fun _ => ?_)
 refine wpAny_ite_split (fun _ => ?_) (fun q => absurd (by decide +kernel) q)
 exact wpAny_bind (wpAny_typeOf hT (wpAny_pure h))
theorem collect_set {Q : List Value → Shared → Prop} (hh : A.handled = none) (hx : o.ExactSet) (ho : s.heap.get? a = some o) (hd : o.data = .set es ep t) (T : Tab t es.size (ledW w)) (hn : es.size ≤ 4)
   (hQ : ∀ s', (∀ b u, s.heap.get? b = some u → s'.heap.get? b = some u) → s'.gens = s.gens → s'.drawn = s.drawn → s'.os = s.os → s.heap.objs.size < s'.heap.objs.size → Q (told w a ep es) s') : wpAny (model prog w) A (collect (.ref a)) Q E s := by
 have ha : a < s.heap.objs.size := Heap.lt_size ho
 have hSa : s.heap.objs.size ≠ a := Nat.ne_of_gt ha
 unfold collect
 refine wpAny_bind (wpAny_runValue (codeAny_builtin PySem.F.entry_proto_collect ?_))
 rw [Around.under_plainId PySem.F.plain_proto_collect _]
 show wpAny _ A.in1 (newList [] >>= fun l => again (.builtin "list.__iadd__" ⟨[l, .ref a], []⟩)) _ _ s
 refine wpAny_bind (wpAny_newObj_type (wpAny_pure ⟨plainId_quiet PySem.F.plain_list_iadd _, codeAny_builtin PySem.F.entry_list_iadd ?_⟩))
 rw [Around.under_plainId PySem.F.plain_list_iadd _]
 generalize hE : ({ s with heap := s.heap.push { cls := .type "list", dict := none, data := .seq ([] : List Value).toArray } } : Shared) = s1
 have ho1 : s1.heap.get? a = some o := by rw [← hE]; exact Heap.get?_push_of_some _ ho
 have hL1 : s1.heap.get? s.heap.objs.size = some { cls := .type "list", dict := none, data := .seq ([] : List Value).toArray } := by rw [← hE]; exact Heap.get?_push_size _ rfl
 have hz1 : s1.heap.objs.size = s.heap.objs.size + 1 := by rw [← hE]; exact Heap.size_push _ _
 have hT1 : s1.TypeIs (.ref a) "set" := ⟨o, ho1, hx.1⟩
 show wpAny _ A.in1 (Builtin.List.listExtendWith (.ref s.heap.objs.size) (.ref a) (.ref s.heap.objs.size)) _ _ _
 unfold Builtin.List.listExtendWith
 refine wpAny_bind (wpAny_typeOf hT1 ?_)
 have q1 : Builtin.List.listSameRef (.ref s.heap.objs.size) (.ref a) = false := by simp [Builtin.List.listSameRef, hSa]
 rw [if_neg (by rw [q1]; decide)]
 refine wpAny_bind (set_iter hx ho1 hd T hn fun h2 hI2 k2 z2 => ?_)
 refine wpAny_bind (wpAny_holding ?_)
 have ho2 : h2.get? a = some o := k2 _ _ ho1
 have hT2 : Shared.TypeIs { s1 with heap := h2 } (.ref a) "set" := ⟨o, ho2, hx.1⟩
 have hL2 := k2 _ _ hL1
 refine hint_set hT2 ?_
 rw [if_pos (by decide +kernel)]
 refine wpAny_bind (wpAny_rule ?_)
 have hne : s.heap.objs.size ≠ s1.heap.objs.size := by lia
 refine wpAny_bind ?_
 show wpAny _ A.in1 (updateSeq s.heap.objs.size (·.push .none) >>= fun _ => updateSeq s.heap.objs.size (·.pop)) _ _ _
 refine wpAny_bind (wpAny_updateSeq hL2 rfl ?_)
 have hL3 := Heap.get?_update_self (Obj.mapSeq (·.push Value.none)) hL2 rfl
 refine wpAny_updateSeq hL3 rfl ?_
 have hL4 := Heap.get?_update_self (Obj.mapSeq (·.pop)) hL3 rfl
 have oth : ∀ b u, b ≠ s.heap.objs.size → h2.get? b = some u → ((h2.update s.heap.objs.size (Obj.mapSeq (·.push Value.none))).update s.heap.objs.size (Obj.mapSeq (·.pop))).get? b = some u :=
   fun b u hb e => (Heap.get?_update_other _ _ (Ne.symm hb)).trans ((Heap.get?_update_other _ _ (Ne.symm hb)).trans e)
 have W := (walks_set (prog := prog) (A := A.in1) (a := a) (I := s1.heap.objs.size) hh (Nat.ne_of_lt (show a < s1.heap.objs.size by rw [hz1]; exact Nat.lt_succ_of_lt ha)) hd T hn).toS
 have z24 : es.size ≤ sizeLine := by rw [show sizeLine = 2 ^ 24 from rfl]; lia
 refine wpAny_pure ⟨plainId_quiet PySem.F.plain_extend_loop _, codeAny_extend_loopS W z24 s.heap.objs.size (by simp [hne, hSa]) _ es.size 0 _ _ _ rfl (Nat.zero_le _) ⟨oth _ _ (Ne.symm hne) hI2, oth _ _ (Ne.symm hSa) ho2⟩ hL4 (ItemsOf.nil _) fun s' acc' c' hm hS' hacc => ?_⟩
 show wpAny _ A (load s.heap.objs.size >>= _) _ _ s'
 refine wpAny_bind (wpAny_load hS' ?_)
 have eacc : acc'.toList = told w a ep es := by
   apply List.ext_getElem?
   intro i
   by_cases hi : i < es.size
   · have hi' : i < acc'.size := by rw [hacc.1]; exact hi
     have := hacc.2 i acc'[i] (by simp [hi'])
     rw [this]
     simp [hi']
   · rw [List.getElem?_eq_none (by rw [Array.length_toList, hacc.1]; lia), List.getElem?_eq_none (by rw [told_len]; lia)]
 refine wpAny_pure ?_
 rw [eacc]
 refine hQ s' (fun b u e => ?_) ?_ ?_ ?_ (Heap.lt_size hS')
 · have hb : b ≠ s.heap.objs.size := Nat.ne_of_lt (Heap.lt_size e)
   have hb1 : b ≠ s1.heap.objs.size := Nat.ne_of_lt (show b < s1.heap.objs.size by rw [hz1]; exact Nat.lt_succ_of_lt (Heap.lt_size e))
   exact hm.heap b u (by simp [hb, hb1]) (oth b u hb (k2 b u (by rw [← hE]; exact Heap.get?_push_of_some _ e)))
 · have := hm.gens; rw [← hE] at this; exact this
 · have := hm.drawn; rw [← hE] at this; exact this
 · have := hm.os; rw [← hE] at this; exact this
end
end SS
end
section
namespace SS
open PySem PyProof.Rows
section
variable {prog : Program} {w : World} {A : Around} {E : Value → Shared → Prop} {s : Shared} {a : Addr} {ks : List Int}
theorem ints_of : ∀ {vs : List Value} {ks : List Int}, Paired (fun v k => ∃ t, v = Value.int k t) vs ks → IntsAre vs ks
 | _, _, .nil => .nil
 | _, _, .cons ⟨t, e⟩ r => by subst e; exact .cons _ t (ints_of r)
theorem paired_map {es : List (Int × Value)} : ∀ {ks : List Int}, Paired El es ks → Paired (fun v k => ∃ t, v = Value.int k t) (es.map (·.2)) ks
 | _, .nil => .nil
 | _, .cons ⟨_, q⟩ r => .cons q (paired_map r)
theorem paired_perm {α β : Type} {F : α → β → Prop} {l l' : List α} (p : l'.Perm l) : ∀ {r : List β}, Paired F l r → ∃ r', Paired F l' r' ∧ r'.Perm r := by
 induction p with
 | nil => intro r h; cases h; exact ⟨[], .nil, .nil⟩
 | cons x _ ih =>
   intro r h
   cases h with
   | cons f t =>
     obtain ⟨r', h1, h2⟩ := ih t
     exact ⟨_ :: r', .cons f h1, h2.cons _⟩
 | swap x y l =>
   intro r h
   cases h with
   | cons f t =>
     cases t with
     | cons g t => exact ⟨_, .cons g (.cons f t), .swap _ _ _⟩
 | trans _ _ ih1 ih2 =>
   intro r h
   obtain ⟨r1, h1, h2⟩ := ih2 h
   obtain ⟨r2, h3, h4⟩ := ih1 h1
   exact ⟨r2, h3, h4.trans h2⟩
theorem sorted_set {Q : Value → Shared → Prop} (hh : A.handled = none) (S : SetG w s.heap a ks)
   (h : ∀ (s' : Shared) (l : Addr) (vs : List Value) (ns : List Int) (e : Nat), s.heap.objs.size ≤ l → (∀ b u, s.heap.get? b = some u → s'.heap.get? b = some u) → s'.gens = s.gens → s'.drawn = s.drawn → s'.os = s.os →
     s'.heap.get? l = some { cls := .type "list", data := .seq vs.toArray e } → IntsAre vs ns → ns.Perm ks → ns.Pairwise (· ≤ ·) → Q (.ref l) s') :
   wpAny (model prog w) A (call (.builtin "sorted") [.ref a]) Q E s := by
 obtain ⟨o, es, ep, t, ho, hex, hd, hp, T⟩ := S.ex
 have hn : es.size ≤ 4 := by
   have := Paired.length hp
   rw [Array.length_toList] at this
   have := S.len
   lia
 refine Calls.call_function_entry kind_sorted plain_sorted entry_sorted (args_sorted1 _) ?_
 unfold Builtin.«sorted»
 refine wpAny_bind (m := checkCount "sorted" 1 1 _) (wpAny_pure ?_)
 refine wpAny_bind (collect_set (A := A.in1) hh hex ho hd T hn fun s1 k1 g1 d1 o1 z1 => ?_)
 refine wpAny_bind (wpAny_newList ?_ (by rw [told_len, show sizeLine = 2 ^ 24 from rfl]; lia))
 obtain ⟨ks1, hp1, pm1⟩ := paired_perm (told_perm w a ep es) (paired_map hp)
 have hI := ints_of hp1
 have hl : (told w a ep es).length < 64 := by rw [told_len]; lia
 have hL : (s1.heap.push (seqObj "list" (told w a ep es).toArray 0)).get? s1.heap.objs.size = some (seqObj "list" (told w a ep es).toArray 0) := Heap.get?_push_size _ rfl
 show wpAny _ _ _ _ _ { s1 with heap := s1.heap.push (seqObj "list" (told w a ep es).toArray 0) }
 refine wpAny_bind (wpAny_holding (wpAny_call_entry slot_list_sort ⟨_, hL, rfl⟩ entry_list_sort (list_sort_tree hL hI hl fun out ns' a1 a2 a3 => ⟨_, rfl, ?_⟩) (args_list_sort _)))
 obtain ⟨e, he⟩ := sortedHeap_at (out := out) hL
 have kept : ∀ b u, s.heap.get? b = some u → (sortedHeap (s1.heap.push (seqObj "list" (told w a ep es).toArray 0)) s1.heap.objs.size (told w a ep es) out).get? b = some u := fun b u q => by
   have q1 := k1 b u q
   have hb : b < s1.heap.objs.size := Heap.lt_size q1
   rw [sortedHeap_old (Nat.ne_of_lt hb) (by rw [size_push']; exact Nat.lt_succ_of_lt hb)]
   exact Heap.get?_push_of_some _ q1
 generalize sortedHeap (s1.heap.push (seqObj "list" (told w a ep es).toArray 0)) s1.heap.objs.size (told w a ep es) out = hf at he kept ⊢
 exact wpAny_pure ⟨_, rfl, h { s1 with heap := hf } s1.heap.objs.size out.toList ns' e (Nat.le_of_lt z1) kept g1 d1 o1 (by rw [Array.toArray_toList]; exact he) a1 (a2.trans pm1) a3⟩
end
end SS
end
section
namespace L2
open PySem PySem.Spec PyProof.Rows
section
variable {es : List Expr} {env : Env} {a b : Expr} {pos : Pos} {xs ys : List Expr}
theorem yA {op : Operator} : starEach (.BinOp a op b pos :: es) env = (false, eval (.BinOp a op b pos) env) :: starEach es env := rfl
theorem se_un {op : UnaryOp} : starEach (.UnaryOp op a pos :: es) env = (false, eval (.UnaryOp op a pos) env) :: starEach es env := rfl
theorem se_cmp {ops : List CmpOp} : starEach (.Compare a ops xs pos :: es) env = (false, eval (.Compare a ops xs pos) env) :: starEach es env := rfl
theorem jG {kw : List Keyword} : starEach (.Call a xs kw pos :: es) env = (false, eval (.Call a xs kw pos) env) :: starEach es env := rfl
theorem kN : starEach (.Subscript a b pos :: es) env = (false, eval (.Subscript a b pos) env) :: starEach es env := rfl
theorem jP {gs sc} : starEach (.ListComp a gs sc pos :: es) env = (false, eval (.ListComp a gs sc pos) env) :: starEach es env := rfl
theorem se_tup {x1} : starEach (.Tuple xs x1 pos :: es) env = (false, eval (.Tuple xs x1 pos) env) :: starEach es env := rfl
theorem jF {c k} : starEach (.Constant c k pos :: es) env = (false, eval (.Constant c k pos) env) :: starEach es env := rfl
theorem j6 {x : Str} : starEach (.Name x pos :: es) env = (false, eval (.Name x pos) env) :: starEach es env := rfl
end
section
variable {X : Cx}
noncomputable def CDivL (i j : Int) : Prop := 0 < j ∧ j < 2 ^ 64
theorem op_fdivL : OpR X (binaryOp .FloorDiv) (rI CDivL fun i j => .int (i / j)) := opI fun i j _ _ _ _ _ hc q => by
 have h1 : (0 : Int) < j := hc.1
 have h2 : j < 2 ^ 64 := hc.2
 refine floordiv_int (by lia) (by rw [Int.fdiv_eq_ediv_of_nonneg i (by lia)]; exact q) (.inl (PyProof.noPylong_of_log2 ?_))
 have h3 : j.natAbs < 2 ^ 64 := by lia
 have h4 : j.natAbs ≠ 0 := by lia
 have := (Nat.log2_lt h4).mpr h3
 lia
theorem call_isinst : yD X (.builtin "isinstance") (fun xs H Q => ∃ x T t b, xs = [x, .ty T] ∧ TyOf X.K H x t ∧ PySem.W.kitOne X.K t (.type T) = some b ∧ Q (.bl b) H) := by
 intro pins s σ H xs us Q I r h
 obtain ⟨x, T, t, b, rfl, ty, e, q⟩ := h
 obtain ⟨u, v, rfl, ru, rv⟩ := r.two
 cases rv
 exact isinst_ok I ru ty e fun tk => ⟨.bl b, H, I.tok tk, rfl, q⟩
noncomputable def rInsert : V → List V → Hp → VK → Prop := fun x vs H Q => ∃ l xs i y, x = .ref l ∧ vs = [.int i, y] ∧ H l = some (.lst xs) ∧ 0 ≤ i ∧ i ≤ xs.length ∧ xs.length < sizeLine ∧ Q .non (upd H l (.lst (xs.take i.toNat ++ y :: xs.drop i.toNat)))
theorem Vals.put {y : V} {v : Value} (r : RelV y v) {xs : List V} {us : List Value} (h : Vals xs us) (k : Nat) : Vals (xs.take k ++ y :: xs.drop k) (us.take k ++ v :: us.drop k) := (h.take k).append (.cons r (h.drop k))
theorem mt_insert : MtM X "list.insert" rInsert := by
 intro pins s σ H x vs v us Q I rx rv h
 obtain ⟨l, xs, i, y, rfl, rfl, hH, h0, h1, hz, q⟩ := h
 cases rx
 obtain ⟨a, b, rfl, ra, rb⟩ := rv.two
 obtain ⟨t, rfl⟩ := ra
 obtain ⟨z, its, n, r, hl, e⟩ := I.lstM hH
 have line := line63
 have hf : Builtin.List.listFitsIndex i = true := fitsIndex_both (by lia) (by lia)
 refine call_meets F.slot_list_insert ⟨_, e, rfl⟩ F.entry_list_insert (F.args_list_insert_3 _ _ _) (AutoSeq1.list_insert_list_int_val_1 l its.toArray n i t b (by simp [hf]) (by rw [List.size_toArray]; lia)) ⟨e, ?_⟩
 refine ⟨.non, _, I.lset (its' := its.take i.toNat ++ b :: its.drop i.toNat) hH e ?_ (Vals.put rb r i.toNat) ?_, rfl, q⟩
 · have hk : (if i < 0 then (i + (its.toArray.size : Int)).toNat else min i.toNat its.toArray.size) = i.toNat := by
     rw [if_neg (by lia), List.size_toArray]
     lia
   show (its.toArray.extract 0 (if i < 0 then (i + (its.toArray.size : Int)).toNat else min i.toNat its.toArray.size)).push b ++ its.toArray.extract (if i < 0 then (i + (its.toArray.size : Int)).toNat else min i.toNat its.toArray.size) = _
   rw [hk]
   apply Array.ext'
   simp [List.extract_eq_take_drop, List.take_of_length_le]
 · rw [List.length_append, List.length_cons, List.length_take, List.length_drop]
   lia
noncomputable def tBMT (r : V → List V → Hp → VK → Prop) (to : TE) (t : TA) : TE := fun σ H Q => to σ H fun x H1 => (∃ p xs, x = .ref p ∧ H1 p = some (.tup xs)) ∧ t σ H1 fun xs H2 => r x xs H2 Q
theorem pe_bmT {o e : Expr} {es : List Expr} {to : TE} {t : TA} {name : Str} {apos cpos : Pos} {id : String} {r : V → List V → Hp → VK → Prop} (slot : Slot "tuple" name id) (hty : typeOf (.builtin id) = pure (.type "method_descriptor")) (hm : MtM X id r) (ho : PE X o to) (ha : PA X (e :: es) t)
   (hbase : attributeBase o name X.env (eval o X.env) = eval o X.env := by rfl)
   (hfew : ((backTo cpos (starEach (e :: es) X.env)).all (fun x => !x.1) && (backToKw cpos (keywordEach [] X.env)).all (fun x => x.1.isSome)
     && decide ((e :: es).length + ([] : List Keyword).length + (if ([] : List Keyword).isEmpty then 0 else 1) < 30)) = true := by rfl)
   (hline : (apos.endLine == cpos.line) = true := by rfl) (hs : starEach (e :: es) X.env = (false, eval e X.env) :: starEach es X.env := by rfl) (hplain : (backTo cpos (starEach es X.env)).any (·.1) = false := by rfl) :
   PE X (.Call (.Attribute o name apos) (e :: es) [] cpos) (tBMT r to t) := by
 intro pins s σ H Q I h
 refine wpAny_Call_method_late hbase hfew hline rfl (thn (ho pins s σ H _ I h) fun v s1 ⟨x, H1, I1, r1, ⟨p, xs, ex, hp⟩, q1⟩ => ?_)
 subst ex
 cases r1
 obtain ⟨_, its, _, n, e0⟩ := I1.hok p _ hp
 refine ⟨"tuple", id, PySem.F.plainAttrs_tuple, slot, hty, ⟨_, e0, rfl⟩, fun a ea => ?_, ?_⟩
 · cases ea
   exact ⟨_, e0, rfl⟩
 have hA := ha cpos pins s1 σ H1 _ I1 q1
 rw [hs] at hA ⊢
 refine Calls.callWith_builtin (by show (false || (backTo cpos (starEach es X.env)).any (·.1)) = false; rw [hplain] <;> rfl) (Calls.evalArgs_plain ?_)
 exact thn hA fun us s2 ⟨vs, H2, I2, r2, q2⟩ => hm pins s2 σ H2 (.ref p) vs (.ref p) us Q I2 rfl r2 q2
noncomputable def rEqE (K : W.Frag) : R2 := fun x y H Q => ∃ p q xs, x = .ref p ∧ y = .ref q ∧ SqT K H p xs ∧ SqT K H q [] ∧ Q (.bl (decide (xs = []))) H
theorem op_eqE (hu : X.A.units < cLine) : OpR X (compareOp .Eq) (rEqE X.K) := by
 intro pins s σ H x y v u Q I rx ry h
 obtain ⟨p, q, xs, rfl, rfl, hp, hq, k⟩ := h
 cases rx
 cases ry
 obtain ⟨its, r, t1, _⟩ := I.tuple hp
 obtain ⟨its2, r2, t2, _⟩ := I.tuple hq
 have e2 : its2 = [] := r2.zero
 subst e2
 refine SeqAt.eq_tupleAt (e := fun _ => true) (show s.heap.IsTuple p its.toArray from t1) (show s.heap.IsTuple q ([] : List Value).toArray from t2) hu (fun j h1 h2 => absurd h2 (by simp)) ⟨.bl _, H, I, rfl, ?_⟩
 have hl := r.length
 have e : ((List.range (min its.toArray.size ([] : List Value).toArray.size)).all (fun _ => true) && its.toArray.size == ([] : List Value).toArray.size) = decide (xs = []) := by
   cases xs with
   | nil =>
     have : its = [] := by simpa using hl.symm
     subst this
     rfl
   | cons a b =>
     have : its.length ≠ 0 := by rw [← hl]; simp
     simp [this]
 rw [e]
 exact k
theorem call_allL (hc : X.calm = true) : yD X (.builtin "all") (fun xs H Q => ∃ (p : Addr) (bs : List Bool), xs = [.ref p] ∧ SqL X.K H p (bs.map V.bl) ∧ Q (.bl (bs.all id)) H) := by
 intro pins s σ H xs us Q I r h
 obtain ⟨p, bs, rfl, hq, q⟩ := h
 obtain ⟨u, rfl, rx⟩ := r.one
 cases rx
 obtain ⟨its, r', pl, hz⟩ := I.list hq
 have hlen := r'.length
 rw [List.length_map] at hlen
 refine call_all_walk (wpAny_pyIter_list pl.isList ?_)
 have hne : p ≠ s.heap.objs.size := by
   obtain ⟨o, ho, _⟩ := pl.isList
   exact Nat.ne_of_lt (Heap.lt_size ho)
 refine ⟨s.heap.objs.size, _, _, _, _, _, fun i => bs.getD i true, rfl, Walks.list (by simpa using I.ok.hd hc) _ p hne its.toArray, ⟨⟨_, Heap.get?_push_size _ rfl, rfl, rfl⟩, pl.isList.push _⟩, fun i v z Q' E' hP hQ' => ?_, fun h' tk hk => ?_⟩
 · have hi : its[i]? = some v := by simpa using hP
   have hb : i < bs.length := by
     rw [hlen]
     exact (List.getElem?_eq_some_iff.mp hi).1
   obtain ⟨u, hu, ru⟩ := r'.get (i := i) (x := .bl (bs[i])) (by simp [hb])
   rw [hi] at hu
   cases hu
   cases ru
   have e : bs.getD i true = bs[i] := by simp [List.getD, hb]
   have hQ2 : Q' (bs.getD i true) z := hQ'
   rw [e] at hQ2
   exact wpAny_pure hQ2
 · have e : (List.range its.toArray.size).all (fun i => bs.getD i true) = bs.all id := by
     rw [List.size_toArray, ← hlen]
     rw [Bool.eq_iff_iff, List.all_eq_true, List.all_eq_true]
     constructor
     · intro a b hb
       obtain ⟨i, hi, rfl⟩ := List.getElem_of_mem hb
       have := a i (List.mem_range.mpr hi)
       simpa [List.getD, hi] using this
     · intro a i hi
       have hi := List.mem_range.mp hi
       have := a bs[i] (List.getElem_mem hi)
       simpa [List.getD, hi] using this
   rw [e]
   exact ⟨.bl _, H, I.kept (t' := tk) fun b o e => hk b o (by
     intro z
     have z : b = s.heap.objs.size := by simpa using z
     exact absurd (Heap.lt_size e) (by rw [z]; exact Nat.lt_irrefl _)) (Heap.get?_push_of_some _ e), rfl, q⟩
noncomputable def intsTo (n : Nat) : List V := (List.range n).map fun (i : Nat) => V.int (i : Int)
theorem vals_items {n : Nat} {acc : Array Value} (h : ItemsOf (fun i v => ∃ t, v = Value.int (0 + (i : Int) * 1) t) acc n) : Vals (intsTo n) acc.toList := by
 have key : ∀ (l : List Value) (k : Nat), (∀ j v, l[j]? = some v → ∃ t, v = Value.int ((k + j : Nat) : Int) t) → Vals ((List.range' k l.length).map fun (i : Nat) => V.int (i : Int)) l := by
   intro l
   induction l with
   | nil => intro k _; exact .nil
   | cons v l ih =>
     intro k hk
     rw [List.length_cons, List.range'_succ, List.map_cons]
     refine .cons ?_ (ih (k + 1) fun j u hj => ?_)
     · obtain ⟨t, e⟩ := hk 0 v rfl
       exact ⟨t, by simpa using e⟩
     · obtain ⟨t, e⟩ := hk (j + 1) u (by simpa using hj)
       exact ⟨t, by rw [e]; congr 1; lia⟩
 have := key acc.toList 0 fun j v hj => by
   obtain ⟨t, e⟩ := h.2 j v (by simpa using hj)
   exact ⟨t, by rw [e]; congr 1; lia⟩
 rw [Array.length_toList, h.1] at this
 unfold intsTo
 rw [List.range_eq_range']
 exact this
theorem call_rangeV : yD X (.type "range") (fun xs H Q => ∃ j : Int, xs = [.int j] ∧ ∀ p, H p = none → Q (.ref p) (upd H p (.rng 0 j))) := by
 intro pins s σ H xs us Q I r h
 obtain ⟨j, rfl, q⟩ := h
 obtain ⟨u, rfl, t, rfl⟩ := r.one
 refine call_range_1 ⟨.ref s.heap.objs.size, _, I.laid (o := .rng 0 j) (fun b o e => Heap.get?_push_of_some _ e) (Nat.le_refl _) ?_, rfl, q _ I.fresh⟩
 exact ⟨_, _, _, Heap.get?_push_size _ rfl⟩
theorem call_listRng (hc : X.calm = true) : yD X (.type "list") (fun xs H Q => ∃ p j, xs = [.ref p] ∧ H p = some (.rng 0 j) ∧ 0 ≤ j ∧ j ≤ 1000 ∧ ∀ l, H l = none → Q (.ref l) (upd H l (.lst (intsTo j.toNat)))) := by
 intro pins s σ H xs us Q I r h
 obtain ⟨p, j, rfl, hp, h0, h1, q⟩ := h
 obtain ⟨u, rfl, rx⟩ := r.one
 cases rx
 obtain ⟨t, u, v, e⟩ := I.hok p _ hp
 have en : Builtin.Range.rangeSize 0 j 1 = (j.toNat : Int) := by
   rw [rangeSize_one]
   split <;> lia
 refine call_list_range (I.ok.hd hc) (show IsRange s.heap p 0 j 1 t u v from e) (small_one (by lia) (by lia) (by lia) (by lia)) en (by lia) fun h' tk acc' c' kp hS hacc => ?_
 refine ⟨.ref s.heap.objs.size, _, I.laid (t' := tk) (o := .lst (intsTo j.toNat)) kp (Nat.le_refl _) ?_, rfl, q _ I.fresh⟩
 refine ⟨?_, acc'.toList, c', vals_items hacc, by rw [Array.toArray_toList]; exact hS⟩
 unfold intsTo
 rw [List.length_map, List.length_range, sizeLine_eq]
 lia
noncomputable def SetO (w : World) (a : Addr) (ks : List Int) : HO := .ext fun h => SS.SetG w h a ks
theorem vals_intsAre {ns : List Int} : ∀ {us : List Value}, Vals (ns.map V.int) us → IntsAre us ns := by
 induction ns with
 | nil => intro us h; cases h; exact .nil
 | cons n ns ih =>
   intro us h
   cases h with
   | cons r t =>
     obtain ⟨k, rfl⟩ := r
     exact .cons n k (ih t)
theorem intsAre_vals : ∀ {us : List Value} {ns : List Int}, IntsAre us ns → Vals (ns.map V.int) us
 | _, _, .nil => .nil
 | _, _, .cons n t r => .cons ⟨t, rfl⟩ (intsAre_vals r)
theorem call_set4 (hc : X.calm = true) : yD X (.type "set") (fun xs H Q => ∃ (p : Addr) (ns : List Int), xs = [.ref p] ∧ SqL X.K H p (ns.map V.int) ∧ ns.length ≤ 4 ∧ (∀ z ∈ ns, 0 ≤ z ∧ z < 32) ∧
   ∀ (l : Addr) (ks : List Int), H l = none → (∀ z, z ∈ ks ↔ z ∈ ns) → Q (.ref l) (upd H l (SetO X.w l ks))) := by
 intro pins s σ H xs us Q I r h
 obtain ⟨p, ns, rfl, hq, hl, hv, q⟩ := h
 obtain ⟨u, rfl, rx⟩ := r.one
 cases rx
 obtain ⟨its, r', pl, hz⟩ := I.list hq
 have hlen := r'.length
 rw [List.length_map] at hlen
 refine SS.set_of_list (I.ok.hd hc) pl.isList (vals_intsAre r') (by rw [List.size_toArray]; lia) hv fun h' tk ks S hm kp => ?_
 have hg : ∃ o, h'.get? s.heap.objs.size = some o := let ⟨o, _, _, _, e, _⟩ := S.ex; ⟨o, e⟩
 exact ⟨.ref s.heap.objs.size, _, I.laid (t' := tk) (o := SetO X.w s.heap.objs.size ks) kp (Nat.le_refl _) ⟨S, hg, fun h1 h2 a b => a.at b⟩, rfl, q _ ks I.fresh hm⟩
theorem call_sortedSet (hc : X.calm = true) : yD X (.builtin "sorted") (fun xs H Q => ∃ (p : Addr) (ks : List Int), xs = [.ref p] ∧ H p = some (SetO X.w p ks) ∧
   ∀ (l : Addr) (ns : List Int), H l = none → ns.Pairwise (· < ·) → (∀ z, z ∈ ns ↔ z ∈ ks) → Q (.ref l) (upd H l (.lst (ns.map V.int)))) := by
 intro pins s σ H xs us Q I r h
 obtain ⟨p, ks, rfl, hp, q⟩ := h
 obtain ⟨u, rfl, rx⟩ := r.one
 cases rx
 obtain ⟨S, _, _⟩ := I.hok p _ hp
 refine SS.sorted_set (I.ok.hd hc) S fun s' l vs ns e hl kp g d o he hi pm srt => ?_
 obtain ⟨h', g', d', t', o'⟩ := s'
 have g : g' = s.gens := g
 have o : o' = s.os := o
 have d : d' = s.drawn := d
 subst g; subst o; subst d
 have nd : ns.Nodup := pm.nodup_iff.mpr S.nd
 have lt : ns.Pairwise (· < ·) := by
   have := List.Pairwise.and srt nd
   exact this.imp fun {a b} ⟨x, y⟩ => by lia
 have hz : (ns.map V.int).length ≤ sizeLine := by
   rw [List.length_map, pm.length_eq, sizeLine_eq]
   have := S.len
   lia
 have I2 : Inv X pins σ (upd H l (.lst (ns.map V.int))) { s with heap := h', toks := t' } := I.laid (t' := t') kp hl ⟨hz, vs, e, intsAre_vals hi, he⟩
 exact ⟨.ref l, _, I2, rfl, q l ns (I.hok.fresh hl) lt fun z => pm.mem_iff⟩
end
section
variable {X : Cx} {p1 p2 p3 p4 p5 p6 p7 : Pos} {k1 k2 k3 k4 : Nat}
theorem pe_cpow {i j r : Int} (hj : 0 ≤ j) (hj2 : j ≤ 1000000) (hi : i.natAbs < 2 ^ 64) (e : i ^ j.toNat = r) : PE X (.BinOp (.Constant (.int i) k2 p2) .Pow (.Constant (.int j) k3 p3) p4) (tC (.int r)) := fun pins s σ H Q I h =>
 (jV (X := X) op_pow jL jL) pins s σ H Q I ⟨_, _, rfl, rfl, ⟨hj, hj2, hi⟩, by subst e; exact h⟩
theorem pe_cmul {a b : Expr} {i j r : Int} (ha : PE X a (tC (.int i))) (hb : PE X b (tC (.int j))) (hc : CMul i j) (e : i * j = r) : PE X (.BinOp a .Mult b p1) (tC (.int r)) := fun pins s σ H Q I h =>
 (jV (X := X) op_mul ha hb) pins s σ H Q I ⟨_, _, rfl, rfl, hc, by subst e; exact h⟩
theorem pe_cadd {a b : Expr} {i j r : Int} (ha : PE X a (tC (.int i))) (hb : PE X b (tC (.int j))) (e : i + j = r) : PE X (.BinOp a .Add b p1) (tC (.int r)) := fun pins s σ H Q I h =>
 (jV (X := X) yI ha hb) pins s σ H Q I ⟨_, _, rfl, rfl, by subst e; exact h⟩
theorem pe_big : PE X (.BinOp (.BinOp (.Constant (.int 2) k1 p1) .Mult (.BinOp (.Constant (.int 10) k2 p2) .Pow (.Constant (.int 12) k3 p3) p4) p5) .Add (.Constant (.int 1) k4 p6) p7) (tC (.int 2000000000001)) :=
 pe_cadd (i := 2000000000000) (pe_cmul (j := 1000000000000) jL (pe_cpow (by decide) (by decide) (by decide) (by decide)) (.inl ⟨by decide, by decide⟩) (by decide)) jL (by decide)
end
end L2
end
section
namespace L2
open PySem PySem.Spec PyProof.Rows
noncomputable def ItAt (tp : Bool) (h : Heap) (it a : Addr) (i : Nat) : Prop := match tp with
 | false => h.IsListIter it a i
 | true => h.IsTupleIter it a i
noncomputable def ObAt (tp : Bool) (h : Heap) (a : Addr) (xs : Array Value) : Prop := match tp with
 | false => h.IsList a xs
 | true => h.IsTuple a xs
theorem ItAt.but {tp : Bool} {h h' : Heap} {it a b : Addr} {i : Nat} (x : ItAt tp h it a i) (e : Heap.ExtBut b h h') (n : it ≠ b) : ItAt tp h' it a i := by
 cases tp with
 | false => exact Heap.IsListIter.extBut x e n
 | true => exact Heap.IsTupleIter.extBut x e n
theorem ItAt.at {tp : Bool} {h h' : Heap} {it a : Addr} {i : Nat} (x : ItAt tp h it a i) (e : ∀ o, h.get? it = some o → h'.get? it = some o) : ItAt tp h' it a i := by
 cases tp with
 | false => exact Heap.IsListIter.at x e
 | true => exact Heap.IsTupleIter.at x e
theorem ItAt.obj {tp : Bool} {h : Heap} {it a : Addr} {i : Nat} (x : ItAt tp h it a i) : ∃ o, h.get? it = some o ∧ ∀ v, o.data ≠ .cell v := by
 cases tp with
 | false => obtain ⟨o, e, _, d⟩ := x; exact ⟨o, e, fun v q => by rw [d] at q; cases q⟩
 | true => obtain ⟨o, e, _, d⟩ := x; exact ⟨o, e, fun v q => by rw [d] at q; cases q⟩
section
variable {prog : Program} {w : World} {A : Around} {E : Value → Shared → Prop} {s : Shared}
theorem next1 {tp : Bool} {it a : Addr} {i : Nat} {xs : Array Value} {x : Value} {Q : Value → Shared → Prop} (hi : ItAt tp s.heap it a i) (ha : ObAt tp s.heap a xs) (hx : xs[i]? = some x)
   (k : ∀ h', ItAt tp h' it a (i + 1) → Heap.SameBut it s.heap h' → Q x { s with heap := h' }) : wpAny (model prog w) A (Builtin.SmallTypes.nextOf (.ref it)) Q E s := by
 cases tp with
 | false => exact wpAny_nextOf_list_item hi ha hx k
 | true =>
   obtain ⟨o, e, c, d⟩ := id (show s.heap.IsTupleIter it a i from hi)
   obtain ⟨u, eu, _, n, du⟩ := (show s.heap.IsTuple a xs from ha)
   have ty := Heap.IsTupleIter.typeIs (show s.heap.IsTupleIter it a i from hi)
   unfold Builtin.SmallTypes.nextOf
   refine wpAny_bind (wpAny_callSpecial?_slot (name := Str.ofString "__next__") ty F.slot_tuple_iterator_next (wpAny_call_entry F.slot_tuple_iterator_next ty F.entry_tuple_iterator_next (?_ : wpAny (model prog w) _ (field (.ref it) 0 >>= _) _ _ s) (F.args_tuple_iterator_next_1 _)))
   refine wpAny_bind (wpAny_field e d (x := .ref a) rfl (?_ : wpAny (model prog w) _ (if (Value.ref a == Value.none) = true then _ else _) _ _ s))
   rw [if_neg (by exact Bool.false_ne_true)]
   show wpAny (model prog w) _ (field (.ref it) 1 >>= _) _ _ s
   refine wpAny_bind (wpAny_field e d (x := .int i 0) rfl ?_)
   show wpAny (model prog w) _ (seqItems? (.ref a) >>= _) _ _ s
   refine wpAny_bind (wpAny_seqItems eu du ?_)
   simp only [Int.toNat_natCast, hx]
   refine wpAny_bind (wpAny_setField e d (by simp) (wpAny_pure ⟨x, rfl, wpAny_pure (k _ ⟨_, Heap.get?_update_self _ e (Obj.isFreed_of_fields (Obj.data_mapFields d _)), (Obj.cls_mapFields ..).trans c, ?_⟩ (Heap.SameBut.update ..))⟩))
   rw [Obj.data_mapFields d]
   simp [rawInt]
theorem next0 {tp : Bool} {it a : Addr} {i : Nat} {xs : Array Value} {Q : Value → Shared → Prop} (hh : A.handled = none) (hi : ItAt tp s.heap it a i) (ha : ObAt tp s.heap a xs) (hx : xs[i]? = none)
   (k : ∀ h' e, Heap.ExtBut it s.heap h' → (∃ o, h'.get? e = some o ∧ o.cls = .type "StopIteration") → E (.ref e) { s with heap := h' }) : wpAny (model prog w) A (Builtin.SmallTypes.nextOf (.ref it)) Q E s := by
 cases tp with
 | false => exact wpAny_nextOf_list_end hh hi ha hx k
 | true =>
   obtain ⟨o, e, c, d⟩ := id (show s.heap.IsTupleIter it a i from hi)
   obtain ⟨u, eu, _, n, du⟩ := (show s.heap.IsTuple a xs from ha)
   have ty := Heap.IsTupleIter.typeIs (show s.heap.IsTupleIter it a i from hi)
   unfold Builtin.SmallTypes.nextOf
   refine wpAny_bind (wpAny_callSpecial?_slot (name := Str.ofString "__next__") ty F.slot_tuple_iterator_next (wpAny_call_entry F.slot_tuple_iterator_next ty F.entry_tuple_iterator_next (?_ : wpAny (model prog w) _ (field (.ref it) 0 >>= _) _ _ s) (F.args_tuple_iterator_next_1 _)))
   refine wpAny_bind (wpAny_field e d (x := .ref a) rfl (?_ : wpAny (model prog w) _ (if (Value.ref a == Value.none) = true then _ else _) _ _ s))
   rw [if_neg (by exact Bool.false_ne_true)]
   show wpAny (model prog w) _ (field (.ref it) 1 >>= _) _ _ s
   refine wpAny_bind (wpAny_field e d (x := .int i 0) rfl ?_)
   show wpAny (model prog w) _ (seqItems? (.ref a) >>= _) _ _ s
   refine wpAny_bind (wpAny_seqItems eu du ?_)
   simp only [Int.toNat_natCast, hx]
   refine wpAny_bind (wpAny_rule (wpAny_bind (wpAny_setField e d (by simp) (?_ : wpAny (model prog w) _ (newExc (.type "StopIteration") [] >>= _) _ _ _))))
   refine wpAny_bind (by
     simp only [newExc, newTuple]
     refine wpAny_bind (wpAny_newObj_type (wpAny_bind (m := firstArgMember _ _) (wpAny_of_eq (a := Value.none) (by first | rfl | (simp only [firstArgMember]; rfl)) (wpAny_newObj_type ?_ (by size_fits)))) (by size_fits))
     simp only [raiseNew]
     refine wpAny_bind (wpAny_handled ?_)
     first | rw [show A.in1.handled = none from hh] | rw [hh]
     exact wpAny_bind (wpAny_pure (wpAny_throw (k _ _ (((Heap.SameBut.update ..).extBut.push _).push _) ⟨_, Heap.get?_push_size _ rfl, rfl⟩))))
end
noncomputable def iterO (tp : Bool) (a : Addr) : Obj := match tp with
 | false => { cls := .type "list_iterator", data := .fields #[.ref a, .int 0 0] }
 | true => { cls := .type "tuple_iterator", data := .fields #[.ref a, .int 0 0] }
theorem iterO_live (tp : Bool) (a : Addr) : (iterO tp a).isFreed = false := by cases tp <;> rfl
theorem pyIterT {prog : Program} {w : World} {A : Around} {E : Value → Shared → Prop} {s : Shared} {tp : Bool} {a : Addr} {xs : Array Value} {Q : Value → Shared → Prop} (h : ObAt tp s.heap a xs) (q : Q (.ref s.heap.objs.size) { s with heap := s.heap.push (iterO tp a) }) :
   wpAny (model prog w) A (pyIter (.ref a)) Q E s := by
 cases tp with
 | false => exact wpAny_pyIter_list h q
 | true => exact wpAny_pyIter_tuple h q
theorem ItAt.new (tp : Bool) {h : Heap} {it a : Addr} (e : h.get? it = some (iterO tp a)) : ItAt tp h it a 0 := by
 cases tp with
 | false => exact ⟨_, e, rfl, rfl⟩
 | true => exact ⟨_, e, rfl, rfl⟩
section
variable {X : Cx}
noncomputable def Sq (tp : Bool) (K : W.Frag) (H : Hp) (a : Addr) (xs : List V) : Prop := match tp with
 | false => SqL K H a xs
 | true => SqT K H a xs
theorem Inv.sq {X : Cx} {pins : List (Addr × Obj)} {σ : St} {H : Hp} {s : Shared} {tp : Bool} {a : Addr} {xs : List V} (I : Inv X pins σ H s) (h : Sq tp X.K H a xs) : ∃ its : List Value, Vals xs its ∧ ObAt tp s.heap a its.toArray ∧ xs.length ≤ sizeLine := by
 cases tp with
 | false =>
   obtain ⟨its, r, p, z⟩ := I.list h
   exact ⟨its, r, p.isList, z⟩
 | true => exact I.tuple h
theorem Inv.sq_inj {X : Cx} {pins : List (Addr × Obj)} {σ : St} {H : Hp} {s : Shared} {tp : Bool} {a : Addr} {xs ys : List V} (I : Inv X pins σ H s) (h : Sq tp X.K H a xs) (h' : Sq tp X.K H a ys) : xs = ys := by
 cases tp with
 | false => exact I.list_inj h h'
 | true => exact I.tuple_inj h h'
end
end L2
end
section
namespace L2
open PySem PySem.Spec PyProof.Rows
structure JE (X : Cx) (e : Expr) (t : TE) : Prop where
 h : PE X e t
structure JA (X : Cx) (es : List Expr) (t : TA) : Prop where
 h : PA X es t
structure JT (X : Cx) (e : Expr) (t : TT) : Prop where
 h : PT X e t
structure JTs (X : Cx) (e : List Expr) (t : TT) : Prop where
 h : PTs X e t
structure JS (X : Cx) (e : Stmt) (t : TS) : Prop where
 h : PS X e t
structure JSs (X : Cx) (e : List Stmt) (t : TS) : Prop where
 h : PSs X e t
structure JG (X : Cx) (e : Expr) (t : TG) : Prop where
 h : PG X e t
structure JGs (X : Cx) (e : List Expr) (t : TGs) : Prop where
 h : PGs X e t
structure JI (X : Cx) (tg e : Expr) (t : TI) : Prop where
 h : PI X tg e t
structure JO (X : Cx) (e : Option Expr) (t : TO) : Prop where
 h : PO X e t
structure Loc1 (X : Cx) (x : Str) : Prop where
 a : Loc X.env.scope x
 b : X.fn x = true ∨ X.env.scope.names.lookup x = some .local
structure Vis1 (X : Cx) (x : Str) : Prop where
 a : Vis X.env.scope x
structure Gl1 (X : Cx) (x : Str) : Prop where
 a : Gl X x
section
variable {a b : Expr} {pos : Pos} {xs : List Expr} {o : Option Expr} {l : Nat} {env : Env}
structure SwOk (e : Expr) (o : Option Expr) : Prop where
 h : ∀ l env, swapsWith e o l env = pure false
theorem sw_bin {op : Operator} : SwOk (.BinOp a op b pos) o := ⟨fun _ _ => rfl⟩
theorem kJ {kw : List Keyword} : SwOk (.Call a xs kw pos) o := ⟨fun _ _ => rfl⟩
theorem sw_sub : SwOk (.Subscript a b pos) o := ⟨fun _ _ => rfl⟩
theorem sw_tup {x1} : SwOk (.Tuple xs x1 pos) o := ⟨fun _ _ => rfl⟩
theorem sw_lst : SwOk (.List xs pos) o := ⟨fun _ _ => rfl⟩
theorem px_bin {op : Operator} : PlainIx (.BinOp a op b pos) := fun _ _ => rfl
theorem px_call {kw : List Keyword} : PlainIx (.Call a xs kw pos) := fun _ _ => rfl
theorem jT {i : Int} {k} : PlainIx (.Constant (.int i) k pos) := fun _ _ => rfl
theorem px_name {x : Str} : PlainIx (.Name x pos) := fun _ _ => rfl
structure FoOk (iter : Expr) : Prop where
 h : ∀ env x, foldedSetIterable iter env x = pure x
theorem fo_call {kw : List Keyword} : FoOk (.Call a xs kw pos) := ⟨fun _ _ => rfl⟩
theorem fo_name {x : Str} : FoOk (.Name x pos) := ⟨fun _ _ => rfl⟩
theorem fo_sub : FoOk (.Subscript a b pos) := ⟨fun _ _ => rfl⟩
structure TvOk (e : Expr) : Prop where
 h : ∀ env whole, isTrue e env whole = (do let v ← whole; standAt e.pos; holding [v] (truthy v))
theorem tv_call {kw : List Keyword} : TvOk (.Call a xs kw pos) := ⟨fun _ _ => rfl⟩
end
section
variable {X : Cx} {a b e o : Expr} {ta tb te to : TE} {es : List Expr} {t : TA} {pos p p2 cpos apos : Pos} {x : Str} {T : String} {id : String}
theorem jv (i : Nat) (hN : X.N[i]? = some x) (hv : Vis1 X x) (hd : (x == ("__debug__" : Str)) = false := by decide) (hcd : (x == ("__classdict__" : Str)) = false := by decide) : JE X (.Name x pos) (tVar i) := ⟨pe_var hN hv.a hd hcd⟩
theorem jD {i j} : JE X (.Constant (.int i) j pos) (tC (.int i)) := ⟨jL⟩
theorem yV {i j} : JE X (.Constant (.bool i) j pos) (tC (.bl i)) := ⟨pe_bl⟩
theorem je_non {j} : JE X (.Constant .none j pos) (tC .non) := ⟨pe_non⟩
theorem je_str {i j} : JE X (.Constant (.str i) j pos) (tC (.str i)) := ⟨pe_str⟩
theorem je_bltn {v : V} {u : Value} (hg : Gl1 X x) (hm : X.mg x = none) (hv : bootBuiltins x = some u) (r : RelV v u) (hn : x ≠ "__name__" := by decide) (hd : (x == ("__debug__" : Str)) = false := by decide) : JE X (.Name x pos) (tC v) := ⟨pe_bltn hg.a hm hv r hn hd⟩
theorem kY {op : Operator} {r : R2} (ho : OpR X (binaryOp op) r) (ha : JE X a ta) (hb : JE X b tb) : JE X (.BinOp a op b pos) (tOp r ta tb) := ⟨jV ho ha.h hb.h⟩
theorem je_un {op : UnaryOp} {r : V → Hp → VK → Prop} (ho : UnR X (unaryOp op) r) (ha : JE X a ta) : JE X (.UnaryOp op a pos) (tUn r ta) := ⟨pe_un ho ha.h⟩
theorem je_not (ha : JE X a ta) : JE X (.UnaryOp .Not a pos) (tNotV ta) := ⟨pe_not ha.h⟩
theorem je_cmpR {op : CmpOp} {r : R2} (ho : OpR X (compareOp op) r) (ha : JE X a ta) (hb : JE X b tb) (hm : behindInMarks op b = false) : JE X (.Compare a [op] [b] pos) (tOp r ta tb) := ⟨pe_cmpR ho ha.h hb.h hm⟩
theorem je_and {rest : List Expr} (ha : JE X a ta) (hb : JE X (.BoolOp .And (b :: rest) pos) tb) : JE X (.BoolOp .And (a :: b :: rest) pos) (tAndV ta tb) := ⟨pe_and ha.h hb.h⟩
theorem je_or {rest : List Expr} (ha : JE X a ta) (hb : JE X (.BoolOp .Or (b :: rest) pos) tb) : JE X (.BoolOp .Or (a :: b :: rest) pos) (tOrV ta tb) := ⟨pe_or ha.h hb.h⟩
theorem je_one {op} (ha : JE X a ta) : JE X (.BoolOp op [a] pos) ta := ⟨pe_one ha.h⟩
theorem je_lst (h : JA X es t) : JE X (.List es pos) (tLst t) := ⟨pe_lst h.h⟩
theorem je_tup {x1} (h : JA X es t) : JE X (.Tuple es x1 pos) (tTup t) := ⟨pe_tup h.h⟩
theorem je_slice {lo hi : Option Expr} {tl th : TO} {r : V → Option Int → Option Int → Hp → VK → Prop} (hr : SlR X r) (he : JE X e te) (hl : JO X lo tl) (hu : JO X hi th) : JE X (.Subscript e (.Slice lo hi none p2) pos) (tSl r te tl th) := ⟨pe_slice hr he.h hl.h hu.h⟩
theorem kX {r : R2} (hr : IxR X r) (ha : JE X a ta) (hb : JE X b tb) (hs : PlainIx b) : JE X (.Subscript a b pos) (tOp r ta tb) := ⟨pe_ix hr ha.h hb.h hs⟩
theorem jR {T} {r : List V → Hp → VK → Prop} (hc : yD X (.type T) r) (hg : Gl1 X x) (hm : X.mg x = none) (hv : bootBuiltins x = some (.type T)) (ha : JA X (e :: es) t) (he : starEach (e :: es) X.env = (false, eval e X.env) :: starEach es X.env) (hn : x ≠ "__name__" := by decide) (hdb : (x == ("__debug__" : Str)) = false := by decide)
   (hpl : (backTo pos (starEach es X.env)).any (·.1) = false := by rfl) : JE X (.Call (.Name x p) (e :: es) [] pos) (tCB r t) := ⟨pe_callTy hc hg.a hm hv ha.h hn hdb he hpl⟩
theorem jI {id} {r : List V → Hp → VK → Prop} (hc : yD X (.builtin id) r) (hg : Gl1 X x) (hm : X.mg x = none) (hv : bootBuiltins x = some (.builtin id)) (ha : JA X (e :: es) t) (he : starEach (e :: es) X.env = (false, eval e X.env) :: starEach es X.env) (hn : x ≠ "__name__" := by decide) (hdb : (x == ("__debug__" : Str)) = false := by decide)
   (hpl : (backTo pos (starEach es X.env)).any (·.1) = false := by rfl) : JE X (.Call (.Name x p) (e :: es) [] pos) (tCB r t) := ⟨pe_callB hc hg.a hm hv ha.h hn hdb he hpl⟩
theorem j9 : JA X [] tNil := ⟨kS⟩
theorem j4 (ha : JE X e te) (hr : JA X es t) (hs : starEach (e :: es) X.env = (false, eval e X.env) :: starEach es X.env) : JA X (e :: es) (tCons te t) := ⟨jN ha.h hr.h hs⟩
theorem jt_cmpR {op : CmpOp} {r : R2} (ho : OpR X (compareOp op) r) (ha : JE X a ta) (hb : JE X b tb) (hm : behindInMarks op b = false) : JT X (.Compare a [op] [b] pos) (tTest (tOp r ta tb)) := ⟨pt_cmpR ho ha.h hb.h hm⟩
theorem jt_val (h : JE X e te) (he : TvOk e) : JT X e (tB te) := ⟨pt_val h.h (he.h _)⟩
theorem jt_not {tA : TT} (ha : JT X a tA) : JT X (.UnaryOp .Not a pos) (tNot tA) := ⟨pt_not ha.h⟩
theorem jts_nil : JTs X [] yR := ⟨pts_nil⟩
theorem jts_one {t : TT} (h : JT X e t) : JTs X [e] t := ⟨pts_one h.h⟩
theorem kL {i : Nat} (hN : X.N.Nodup) (hi : X.N[i]? = some x) (hx : Loc1 X x) : JG X (.Name x pos) (kZ i) := ⟨pg_name hN hi hx.a hx.b⟩
theorem ji_range1 {tg : Expr} (hg : Gl1 X "range") (hm : X.mg "range" = none) (ha : JA X [a] t) (hs : starEach [a] X.env = (false, eval a X.env) :: starEach [] X.env) : JI X tg (.Call (.Name "range" p) [a] [] pos) (iRng1 t) := ⟨pi_range1 hg.a hm ha.h hs⟩
theorem ji_list {tg : Expr} (hl : JE X a ta) : JI X tg a (iList X.K ta) := ⟨pi_list hl.h⟩
theorem ji_tup {tg : Expr} (hl : JE X a ta) : JI X tg a (iTup X.K ta) := ⟨pi_tup hl.h⟩
theorem jo_none : JO X none tNoPart := ⟨po_none⟩
theorem jo_some (h : JE X e te) : JO X (some e) (tPart te) := ⟨po_some h.h⟩
theorem jU {i : Nat} {pos' : Pos} (hN : X.N.Nodup) (hi : X.N[i]? = some x) (hx : Loc1 X x) (he : JE X e te) (hs : SwOk e (some (.Name x pos'))) : JS X (.Assign [.Name x pos'] e pos) (tAsg te (kZ i)) := ⟨yN hN hi hx.a he.h (hs.h _ _) hx.b⟩
theorem kI (he : JE X e te) : JS X (.Return (some e) pos) (tRet te) := ⟨ps_ret he.h⟩
theorem js_expr (he : JE X e te) (hs : SwOk e none) : JS X (.Expr e pos) (tDrop te) := ⟨ps_expr he.h (hs.h _ _)⟩
theorem y8 : JSs X [] tNext := ⟨pss_nil⟩
theorem jJ {st : Stmt} {t : TS} (h1 : JS X st t) : JSs X [st] t := ⟨pss_one h1.h⟩
theorem jE {st : Stmt} {rest : List Stmt} {t u : TS} (h1 : JS X st t) (h2 : JSs X rest u) : JSs X (st :: rest) (tSeq t u) := ⟨kG h1.h h2.h⟩
theorem yT {c : Expr} {a b : List Stmt} {tc : TT} {t u : TS} (hc : JT X c tc) (ha : JSs X a t) (hb : JSs X b u) : JS X (.If c a b pos) (tIfS tc t u) := ⟨ps_if hc.h ha.h hb.h⟩
theorem js_for {tg iter : Expr} {body : List Stmt} {wi : TI} {g : TG} {tb : TS} (hp : PassesOwn (model X.prog X.w) X.A X.env X.xe) (hc : X.calm = true) (hi : JI X tg iter wi) (hg : JG X tg g) (hb : JSs X body tb) (hs : FoOk iter) : JS X (.For tg iter body [] pos) (tFor wi g tb) := ⟨ps_for hp hc hi.h hg.h hb.h (hs.h _)⟩
theorem je_bm {T : String} {name : Str} {r} (pa : PlainAttrs T) (slot : Slot T name id) (hty : typeOf (.builtin id) = pure (.type "method_descriptor")) (hm : MtR X id r) (ho : JE X o to) (ha : JA X (e :: es) t)
   (hs : starEach (e :: es) X.env = (false, eval e X.env) :: starEach es X.env)
   (hbase : attributeBase o name X.env (eval o X.env) = eval o X.env := by rfl)
   (hfew : ((backTo cpos (starEach (e :: es) X.env)).all (fun x => !x.1) && (backToKw cpos (keywordEach [] X.env)).all (fun x => x.1.isSome)
     && decide ((e :: es).length + ([] : List Keyword).length + (if ([] : List Keyword).isEmpty then 0 else 1) < 30)) = true := by rfl)
   (hline : (apos.endLine == cpos.line) = true := by rfl) (hplain : (backTo cpos (starEach es X.env)).any (·.1) = false := by rfl) :
   JE X (.Call (.Attribute o name apos) (e :: es) [] cpos) (tBM X.K T r to t) := ⟨pe_bm pa slot hty hm ho.h ha.h hbase hfew hline hs hplain⟩
theorem je_bmT {name : Str} {r} (slot : Slot "tuple" name id) (hty : typeOf (.builtin id) = pure (.type "method_descriptor")) (hm : MtM X id r) (ho : JE X o to) (ha : JA X (e :: es) t)
   (hs : starEach (e :: es) X.env = (false, eval e X.env) :: starEach es X.env)
   (hbase : attributeBase o name X.env (eval o X.env) = eval o X.env := by rfl)
   (hfew : ((backTo cpos (starEach (e :: es) X.env)).all (fun x => !x.1) && (backToKw cpos (keywordEach [] X.env)).all (fun x => x.1.isSome)
     && decide ((e :: es).length + ([] : List Keyword).length + (if ([] : List Keyword).isEmpty then 0 else 1) < 30)) = true := by rfl)
   (hline : (apos.endLine == cpos.line) = true := by rfl) (hplain : (backTo cpos (starEach es X.env)).any (·.1) = false := by rfl) :
   JE X (.Call (.Attribute o name apos) (e :: es) [] cpos) (tBMT r to t) := ⟨pe_bmT slot hty hm ho.h ha.h hbase hfew hline hs hplain⟩
theorem y9 {tg iter elt : Expr} {ifs : List Expr} {sc : Scope} {wi : TI} {g : TG} {tt : TT} {m : List (Option Nat)} {Nc : List Str} (hc : X.calm = true) (hi : JI X tg iter wi) (hkind : sc.kind = .function) (hcell : ∀ y ∈ sc.names, y.2 ≠ .cell) (hnames : ∀ y ∈ sc.names, y.2 = .local → sc.names.lookup y.1 = some .local)
   (hfree : ∀ y ∈ sc.names, y.2 = .free → X.env.scope.names.lookup y.1 = some .cell ∨ X.env.scope.names.lookup y.1 = some .free) (hm : FreeAt X sc Nc m)
   (hg : ∀ cl C fp s H, JG (blk X sc cl C Nc fp s H) tg g) (ht : ∀ cl C fp s H, JTs (blk X sc cl C Nc fp s H) ifs tt) (he : ∀ cl C fp s H, JE (blk X sc cl C Nc fp s H) elt te)
   (hs : FoOk iter) : JE X (.ListComp elt [⟨tg, iter, ifs, 0⟩] sc pos) (tComp m wi g tt te) := ⟨pe_comp hc hi.h hkind hcell hnames hfree hm (fun cl C fp s H => (hg cl C fp s H).h) (fun cl C fp s H => (ht cl C fp s H).h) (fun cl C fp s H => (he cl C fp s H).h) (hs.h _)⟩
theorem je_big {p1 p2 p3 p4 p5 p6 p7 : Pos} {k1 k2 k3 k4 : Nat} : JE X (.BinOp (.BinOp (.Constant (.int 2) k1 p1) .Mult (.BinOp (.Constant (.int 10) k2 p2) .Pow (.Constant (.int 12) k3 p3) p4) p5) .Add (.Constant (.int 1) k4 p6) p7) (tC (.int 2000000000001)) := ⟨pe_big⟩
end
section
variable {P : Program} {w : World} {K : W.Frag} {mg : Str → Option Value} {base : Heap} {N : List Str} {qual : Str} {sc : Scope} {f : Addr} {cdv : Value} {A : Around} {outer : List Env} {s : Shared} {H : Hp} {E : XK} {x : Str}
theorem gl_d (h : sc.names.lookup x = some .globalImplicit) : Gl1 (cxOf CX0 P w K mg base N qual sc f cdv A outer s H E).nox x := ⟨h⟩
theorem gD (h : sc.names.lookup x = some .globalImplicit := by decide +kernel) : Gl1 (cxOf CX0 P w K mg base N qual sc f cdv A outer s H E).nox x := gl_d h
theorem vis_l (h : sc.names.lookup x = some .local) : Vis1 (cxOf CX0 P w K mg base N qual sc f cdv A outer s H E).nox x := ⟨.inl h⟩
theorem vL (h : sc.names.lookup x = some .local := by decide +kernel) : Vis1 (cxOf CX0 P w K mg base N qual sc f cdv A outer s H E).nox x := vis_l h
theorem vis_c (h : sc.names.lookup x = some .cell) : Vis1 (cxOf CX0 P w K mg base N qual sc f cdv A outer s H E).nox x := ⟨.inr (.inl h)⟩
theorem vC (h : sc.names.lookup x = some .cell := by decide +kernel) : Vis1 (cxOf CX0 P w K mg base N qual sc f cdv A outer s H E).nox x := vis_c h
end
theorem keep_relab {env : Env} {x : Str} {k : NameKind} (hk : k ≠ .free) : ∀ {l : List (Str × NameKind)}, l.lookup x = some k →
   (l.map fun (n, k) => if (k == NameKind.free && env.scope.kind == .function && env.kindOf n == some .cell) then (n, NameKind.cell) else (n, k)).lookup x = some k
 | [], h => by cases h
 | (n, k') :: r, h => by
   have ih := @keep_relab env x k hk r
   rw [List.lookup_cons] at h
   rw [List.map_cons]
   dsimp only
   by_cases hb : (k' == NameKind.free && env.scope.kind == .function && env.kindOf n == some .cell) = true
   · rw [if_pos hb, List.lookup_cons]
     cases hx : x == n with
     | true =>
       rw [hx] at h
       have e : k' = k := Option.some.inj h
       simp only [Bool.and_eq_true] at hb
       exact absurd (e.symm.trans (eq_of_beq hb.1.1)) hk
     | false => rw [hx] at h; exact ih h
   · rw [if_neg hb, List.lookup_cons]
     cases hx : x == n with
     | true => rw [hx] at h; exact h
     | false => rw [hx] at h; exact ih h
section
variable {X : Cx} {sc : Scope} {cl : List (Str × Addr)} {C : Addr} {Nc : List Str} {fp : List Addr} {s : Shared} {H : Hp} {x : Str}
theorem gl_b (h : sc.names.lookup x = some .globalImplicit) : Gl1 (blk X sc cl C Nc fp s H) x := ⟨keep_relab (by decide) h⟩
theorem kD (h : sc.names.lookup x = some .local) : Vis1 (blk X sc cl C Nc fp s H) x := ⟨.inl (keep_relab (by decide) h)⟩
theorem y0 (h : sc.names.lookup x = some .free) : Vis1 (blk X sc cl C Nc fp s H) x := ⟨.inr (free_relab h)⟩
theorem yQ (h : sc.names.lookup x = some .local) : Loc1 (blk X sc cl C Nc fp s H) x := ⟨.inl (keep_relab (by decide) h), .inr (keep_relab (by decide) h)⟩
end
section
variable {P : Program} {w : World} {K : W.Frag} {mg : Str → Option Value} {base : Heap} {N : List Str} {qual : Str} {sc : Scope} {f : Addr} {cdv : Value} {A : Around} {outer : List Env} {s : Shared} {H : Hp} {E : XK} {x : Str}
theorem loc_l (h : sc.names.lookup x = some .local) : Loc1 (cxOf CX0 P w K mg base N qual sc f cdv A outer s H E).nox x := ⟨.inl h, .inl rfl⟩
theorem lL (h : sc.names.lookup x = some .local := by decide +kernel) : Loc1 (cxOf CX0 P w K mg base N qual sc f cdv A outer s H E).nox x := loc_l h
theorem loc_c (h : sc.names.lookup x = some .cell) : Loc1 (cxOf CX0 P w K mg base N qual sc f cdv A outer s H E).nox x := ⟨.inr h, .inl rfl⟩
end
structure JW (X : Cx) (e : Expr) (t : TT) : Prop where
 h : PW X e t
section
variable {X : Cx} {a b : Expr} {rest : List Expr} {pos : Pos} {tA tB' : TT}
theorem jw_or1 (ha : JT X a tA) : JW X (.BoolOp .Or [a] pos) tA := ⟨pw_or1 ha.h⟩
theorem jw_or (ha : JT X a tA) (hb : JW X (.BoolOp .Or (b :: rest) pos) tB') : JW X (.BoolOp .Or (a :: b :: rest) pos) (tOr tA tB') := ⟨pw_or ha.h hb.h⟩
theorem jt_w (h : JW X a tA) : JT X a tA := ⟨h.h.pt⟩
theorem jgs_nil : JGs X [] gNil := ⟨pgs_nil⟩
structure AsOk (e : Expr) : Prop where
 h : ∀ es env, assignEach (e :: es) env = (false, assign e env) :: assignEach es env
theorem as_name {x : Str} : AsOk (.Name x pos) := ⟨fun _ _ => rfl⟩
theorem jgs_cons {e : Expr} {es : List Expr} {t : TG} {u : TGs} (h1 : JG X e t) (h2 : JGs X es u) (hs : AsOk e) : JGs X (e :: es) (gCons t u) := ⟨pgs_cons h1.h h2.h (by rw [hs.h]; rfl)⟩
theorem jg_tup {es : List Expr} {k : Nat} {t : TGs} {n : Nat} (hc : X.calm = true) (h : JGs X es t) (hn : (assignEach es X.env).length = n := by rfl) (hst : (assignEach es X.env).findIdx? (·.1) = none := by rfl) : JG X (.Tuple es k pos) (gTup X.K n t) := ⟨pg_tup hc h.h hn hst⟩
theorem nm_name {op : CmpOp} {x : Str} : behindInMarks op (.Name x pos) = false := by cases op <;> rfl
end
theorem jg_pair_b {X : Cx} {sc : Scope} {cl : List (Str × Addr)} {C : Addr} {Nc : List Str} {fp : List Addr} {s : Shared} {H : Hp} {x y : Str} {p1 p2 pos : Pos} {k : Nat} {i j : Nat} (hc : X.calm = true) (hN : Nc.Nodup) (hi : Nc[i]? = some x) (hj : Nc[j]? = some y) (hx : sc.names.lookup x = some .local) (hy : sc.names.lookup y = some .local) :
   JG (blk X sc cl C Nc fp s H) (.Tuple [.Name x p1, .Name y p2] k pos) (gTup X.K 2 (gCons (kZ i) (gCons (kZ j) gNil))) :=
 jg_tup (X := blk X sc cl C Nc fp s H) hc (jgs_cons (kL hN hi (yQ hx)) (jgs_cons (kL hN hj (yQ hy)) jgs_nil as_name) as_name)
section
variable {K : W.Frag} {m : List (Option Nat)} {g : TG} {tt : TT} {te : TE} {σ : St} {H1 : Hp} {Q : VK}
end
section
variable {X : Cx} {sc : Scope} {cl : List (Str × Addr)} {C : Addr} {Nc : List Str} {fp : List Addr} {s : Shared} {H : Hp}
theorem op_in_b : OpR (blk X sc cl C Nc fp s H) (compareOp .In) (rIn X.K false) := op_in_seq
theorem ix_tup_b : IxR (blk X sc cl C Nc fp s H) (rIxT X.K) := yB
end
end L2
end
section
namespace L2
open PySem PySem.Spec PyProof.Rows
noncomputable def Ext (H H' : Hp) : Prop := ∀ b o, H b = some o → H' b = some o
theorem Ext.refl (H : Hp) : Ext H H := fun _ _ h => h
theorem Ext.trans {H H1 H2 : Hp} (a : Ext H H1) (b : Ext H1 H2) : Ext H H2 := fun c o h => b c o (a c o h)
theorem Ext.new {H H1 : Hp} {l : Addr} (a : Ext H H1) (hl : H1 l = none) (o : HO) : Ext H (upd H1 l o) := fun c u h => by
 have := a c u h
 rw [jA (jB this hl)]
 exact this
theorem Ext.updNew {H H1 : Hp} {l : Addr} (a : Ext H H1) (hl : H l = none) (o : HO) : Ext H (upd H1 l o) := fun c u h => by
 rw [jA (jB h hl)]
 exact a c u h
noncomputable def TupR (H : Hp) (xs : List V) (Q : VK) : Prop := ∀ r H', H' r = some (.tup xs) → Ext H H' → Q (.ref r) H'
theorem TupR.new {H : Hp} {xs : List V} {Q : VK} (q : TupR H xs Q) {p : Addr} (hp : H p = none) : Q (.ref p) (upd H p (.tup xs)) := q p _ j7 ((Ext.refl H).new hp _)
theorem TupR.old {H : Hp} {xs : List V} {Q : VK} (q : TupR H xs Q) {p : Addr} (hp : H p = some (.tup xs)) : Q (.ref p) H := q p H hp (Ext.refl H)
section
variable {X : Cx}
noncomputable def rCatU : R2 := fun x y H Q => ∃ a b xs ys, x = .ref a ∧ y = .ref b ∧ H a = some (.tup xs) ∧ H b = some (.tup ys) ∧ xs.length + ys.length ≤ sizeLine ∧ TupR H (xs ++ ys) Q
theorem op_catU : OpR X (binaryOp .Add) rCatU := by
 intro pins s σ H x y v u Q I rx ry h
 obtain ⟨a, b, xs, ys, rfl, rfl, ha, hb, hz, q⟩ := h
 by_cases hx : xs = []
 · subst hx
   cases rx
   cases ry
   obtain ⟨_, its, r1, n1, e1⟩ := I.hok a _ ha
   obtain ⟨_, its2, r2, n2, e2⟩ := I.hok b _ hb
   cases r1
   exact concat_meets ⟨_, e1, rfl⟩ ⟨_, e2, rfl⟩ noFill_tuple_add seq_tuple_add PySem.F.slot_tuple_add PySem.F.entry_tuple_add (PySem.F.args_tuple_add_2 _ _) (AutoSeq1.tuple___add___tuple_tuple_0 a _ n1 b its2.toArray n2 (by simp)) ⟨e1, e2, .ref b, H, I, rfl, q.old hb⟩
 · refine op_catT pins s σ H _ _ v u Q I rx ry ⟨a, b, xs, ys, rfl, rfl, SqT.of ha, SqT.of hb, hx, hz, fun e => ?_, fun _ p hp => q.new hp⟩
   subst e
   rw [List.append_nil] at q
   exact q.old ha
theorem noFill_tuple_mul : fillsNumberSlot (.type "tuple") "mul" = pure false :=
 PySem.fillsNumberSlot_seq (id := "tuple.__mul__") (r := some (.builtin "tuple.__rmul__")) PySem.F.slot_tuple_mul.lookup (by decide +kernel) PySem.F.slot_tuple_rmul.lookup (by decide +kernel)
theorem repeat_tuple : seqRepeat? (.type "tuple") = pure (some (.builtin "tuple.__mul__")) := by
 unfold seqRepeat?
 rw [PySem.seqSlot_of (T := "tuple") (name := "__mul__") (id := "tuple.__mul__") PySem.F.slot_tuple_mul.lookup (by decide +kernel), PySem.seqSlot_of (T := "tuple") (name := "__rmul__") (id := "tuple.__rmul__") PySem.F.slot_tuple_rmul.lookup (by decide +kernel)]
 rfl
theorem rmul_tuple (a : Int) (t : Tok) (l : Addr) (items : Array Value) (n : Nat) :
   Meets (Builtin.«int.__rmul__» ⟨[.int a t, .ref l], []⟩) (fun _ R s => s.heap.get? l = some { cls := .type "tuple", dict := none, data := .seq items n, slots := #[] } ∧ R (.ok (.ret Value.notImplemented)) s) :=
 .of_wp fun prog w A R s h => by
   obtain ⟨hp, g, d, tk, os⟩ := s
   obtain ⟨hl, h⟩ := h
   wp_walk
   exact ⟨_, rfl, h⟩
section
variable (l : Addr) (items : Array Value) (n : Nat) (x : Int) (u : Tok) (h1 : ¬ (decide (x < -(2 ^ 63)) || decide (x ≥ 2 ^ 63)) = true)
include h1
theorem mul_tuple1 (h2 : (items.isEmpty || x == 1) = true) :
   Meets (Builtin.«tuple.__mul__» ⟨[.ref l, .int x u], []⟩) (fun _ R s => s.heap.get? l = some { cls := .type "tuple", dict := none, data := .seq items n, slots := #[] } ∧ R (.ok (.ret (.ref l))) s) :=
 .of_wp fun prog w A R s h => by
   obtain ⟨hp, g, d, tk, os⟩ := s
   obtain ⟨hl, h⟩ := h
   have f1 := AutoSeq1.idx_int
   wp_walk using AutoSeq1.wpAny_loadPart' hl
   refine wpAny_ite_false (decide_eq_false h1) ?_
   wp_walk using AutoSeq1.wpAny_loadPart' hl
   exact ⟨_, rfl, h⟩
theorem mul_tuple2 (h2 : ¬ (items.isEmpty || x == 1) = true) (h3 : (decide (x ≤ 0) || items.isEmpty) = true) :
   Meets (Builtin.«tuple.__mul__» ⟨[.ref l, .int x u], []⟩) (fun _ R s => s.heap.get? l = some { cls := .type "tuple", dict := none, data := .seq items n, slots := #[] } ∧ R (.ok (.ret (.ref s.heap.objs.size))) { s with heap := s.heap.push { cls := .type "tuple", data := .seq #[] } }) :=
 .of_wp fun prog w A R s h => by
   obtain ⟨hp, g, d, tk, os⟩ := s
   obtain ⟨hl, h⟩ := h
   have f1 := AutoSeq1.idx_int
   wp_walk using AutoSeq1.wpAny_loadPart' hl
   refine wpAny_ite_false (decide_eq_false h1) ?_
   wp_walk using AutoSeq1.wpAny_loadPart' hl
   exact ⟨_, rfl, h⟩
theorem mul_tuple3 (h2 : ¬ (items.isEmpty || x == 1) = true) (h3 : ¬ (decide (x ≤ 0) || items.isEmpty) = true) (h4 : ¬ (items.size : Int) * x > (2 ^ 63 - 1) / 8) (h5 : ¬ Builtin.Tuple.tupleTooMany ((items.size : Int) * x) = true) (h6 : (List.foldl (fun x1 x2 => x1 ++ x2) #[] (List.replicate x.toNat items)).size ≤ sizeLine) :
   Meets (Builtin.«tuple.__mul__» ⟨[.ref l, .int x u], []⟩) (fun _ R s => s.heap.get? l = some { cls := .type "tuple", dict := none, data := .seq items n, slots := #[] } ∧ R (.ok (.ret (.ref s.heap.objs.size))) { s with heap := s.heap.push { cls := .type "tuple", data := .seq (List.foldl (fun x1 x2 => x1 ++ x2) #[] (List.replicate x.toNat items)) } }) :=
 .of_wp fun prog w A R s h => by
   obtain ⟨hp, g, d, tk, os⟩ := s
   obtain ⟨hl, h⟩ := h
   have f1 := AutoSeq1.idx_int
   wp_walk using AutoSeq1.wpAny_loadPart' hl
   refine wpAny_ite_false (decide_eq_false h1) ?_
   wp_walk using AutoSeq1.wpAny_loadPart' hl
   refine wpAny_ite_false (decide_eq_false h4) ?_
   wp_walk using AutoSeq1.wpAny_loadPart' hl
   exact ⟨_, rfl, h⟩
end
noncomputable def rRepT : R2 := fun x y H Q => ∃ a k xs, x = .ref a ∧ y = .int k ∧ H a = some (.tup xs) ∧ -(2 ^ 63) ≤ k ∧ k < 2 ^ 63 ∧ xs.length * k.toNat ≤ sizeLine ∧ TupR H (List.replicate k.toNat xs).flatten Q
theorem op_repT : OpR X (binaryOp .Mult) rRepT := by
 intro pins s σ H x y v u Q I rx ry h
 obtain ⟨a, k, xs, rfl, rfl, ha, h1, h2, hz, q⟩ := h
 cases rx
 obtain ⟨t, rfl⟩ := ry
 obtain ⟨_, its, r, n, e⟩ := I.hok a _ ha
 have hl := r.length
 have fit : ¬ (decide (k < -(2 ^ 63)) || decide (k ≥ 2 ^ 63)) = true := by
   simp only [Bool.or_eq_true, decide_eq_true_eq]
   lia
 refine wpAny_binaryOp_repeat_ref (T := "tuple") (U := "int") (by decide) ⟨_, e, rfl⟩ (fun s' => typeIs_int s' k t) noFill_tuple_mul F.fills_int_mul F.slot_int_rmul repeat_tuple F.slot_int_index.lookup
   (call_meets F.slot_int_rmul (typeIs_int s k t) F.entry_int_rmul (F.args_int_rmul_2 _ _) (rmul_tuple k t a its.toArray n) ⟨e, rfl, ⟨_, e, rfl⟩, ?_⟩)
 have hsl : (sizeLine : Nat) ≤ (2 ^ 63 - 1) / 8 := by decide
 by_cases c1 : (its.toArray.isEmpty || k == 1) = true
 · refine call_meets F.slot_tuple_mul ⟨_, e, rfl⟩ F.entry_tuple_mul (F.args_tuple_mul_2 _ _) (mul_tuple1 a its.toArray n k t fit c1) ⟨e, .ref a, H, I, rfl, q.old ?_⟩
   rw [ha]
   congr 2
   rw [Bool.or_eq_true] at c1
   rcases c1 with c | c
   · have : its = [] := by simpa using c
     subst this
     have : xs = [] := by simpa using hl
     subst this
     simp
   · have : k = 1 := eq_of_beq c
     subst this
     show xs = (List.replicate 1 xs).flatten
     simp
 · by_cases c2 : (decide (k ≤ 0) || its.toArray.isEmpty) = true
   · refine call_meets F.slot_tuple_mul ⟨_, e, rfl⟩ F.entry_tuple_mul (F.args_tuple_mul_2 _ _) (mul_tuple2 a its.toArray n k t fit c1 c2) ⟨e, ?_⟩
     refine ⟨.ref s.heap.objs.size, _, I.laid (t' := s.toks) (o := .tup []) (fun b ob q => Heap.get?_push_of_some _ q) (Nat.le_refl _) ⟨Nat.zero_le _, [], .nil, TupO.new _ _⟩, rfl, ?_⟩
     have k0 : k.toNat = 0 := by
       rw [Bool.or_eq_true] at c2
       rcases c2 with c | c
       · have := of_decide_eq_true c
         lia
       · exact absurd (by rw [c]; rfl) c1
     have e0 : (List.replicate k.toNat xs).flatten = [] := by rw [k0]; rfl
     rw [e0] at q
     exact q.new (I.hok.fresh (Nat.le_refl _))
   · have f0 : List.foldl (fun x1 x2 => x1 ++ x2) #[] (List.replicate k.toNat its.toArray) = (List.replicate k.toNat its).flatten.toArray := by
       have := foldl_rep its k.toNat []
       rw [List.nil_append] at this
       exact this
     have kp : 0 < k := by
       simp only [Bool.or_eq_true, decide_eq_true_eq, not_or] at c2
       lia
     have ek : ((its.toArray.size : Nat) : Int) * k = ((xs.length * k.toNat : Nat) : Int) := by
       rw [List.size_toArray, ← hl, Int.natCast_mul]
       congr 1
       lia
     refine call_meets F.slot_tuple_mul ⟨_, e, rfl⟩ F.entry_tuple_mul (F.args_tuple_mul_2 _ _) (mul_tuple3 a its.toArray n k t fit c1 c2 (by rw [ek]; lia) ?_ ?_) ⟨e, ?_⟩
     · rw [ek]
       unfold Builtin.Tuple.tupleTooMany
       simp only [decide_eq_true_eq]
       lia
     · rw [f0, List.size_toArray, len_rep, ← hl, Nat.mul_comm]
       exact hz
     · rw [f0]
       exact ⟨.ref s.heap.objs.size, _, I.laid (t' := s.toks) (o := .tup (List.replicate k.toNat xs).flatten) (fun b ob q => Heap.get?_push_of_some _ q) (Nat.le_refl _) ⟨by rw [len_rep, Nat.mul_comm]; exact hz, _, r.rep k.toNat, TupO.new _ _⟩, rfl, q.new (I.hok.fresh (Nat.le_refl _))⟩
theorem getItem_tuple_all {prog : Program} {w : World} {A : Around} {E : Value → Shared → Prop} {s : Shared} {t sl : Addr} {items : Array Value} {n : Nat} {vl vu : Value} {lo hi : Option Int} {Q : Value → Shared → Prop}
   (e0 : s.heap.get? t = some { cls := .type "tuple", data := .seq items n }) (hs : s.heap.IsSliceOf sl vl vu .none) (pl : IsPart vl lo) (pu : IsPart vu hi)
   (hw : HT.sIx items.size 0 lo = 0 ∧ HT.sIx items.size items.size hi = items.size) (h : Q (.ref t) s) : wpAny (model prog w) A (getItem (.ref t) (.ref sl)) Q E s := by
 have ht : IsTup s.heap t items := ⟨_, e0, rfl, n, rfl⟩
 obtain ⟨os, hos, hcs, hds⟩ := id hs
 have hTs : s.TypeIs (.ref sl) "slice" := ⟨os, hos, hcs⟩
 unfold getItem
 try with_reducible refine wpAny_holding ?_
 first | refine wpAny_bind (wpAny_pure ?_) | skip
 refine wpAny_bind (wpAny_sequenceKey ht.typeIs (by decide) (wpAny_bind (wpAny_callSpecial?_slot (name := Str.ofString "__getitem__") ht.typeIs PyProof.Rows.slot_tuple_getitem
   (wpAny_call_entry PyProof.Rows.slot_tuple_getitem ht.typeIs entry_tuple_getitem (?_ : wpAny (model prog w) _ (Builtin.Tuple.tupleItemsOf (.ref t) >>= _) _ _ s) (args_tuple_getitem _ _)))))
 refine wpAny_bind (tupleItemsOf_ ht (wpAny_bind (wpAny_typeOf hTs ?_)))
 rw [if_pos (by decide)]
 refine wpAny_bind (HT.sliceApplied_gen hs pl pu ?_)
 have yes : (((HT.sIx items.size 0 lo : Nat) : Int) == 0 && (1 : Int) == 1 && (HT.sIx items.size items.size hi - HT.sIx items.size 0 lo) == items.size) = true := by
   rw [hw.1, hw.2]
   simp
 show wpAny (model prog w) _ (if (((HT.sIx items.size 0 lo : Nat) : Int) == 0 && (1 : Int) == 1 && (HT.sIx items.size items.size hi - HT.sIx items.size 0 lo) == items.size) = true then _ else _) _ _ s
 rw [if_pos yes]
 have ex : ∀ {A : Around} {Q : Bool → Shared → Prop}, Q true s → wpAny (model prog w) A (Builtin.Tuple.tupleIsExact (.ref t)) Q E s := fun q => by
   unfold Builtin.Tuple.tupleIsExact
   exact wpAny_bind (wpAny_typeOf ⟨_, e0, rfl⟩ (wpAny_pure q))
 refine wpAny_bind (ex ?_)
 rw [if_pos rfl]
 exact wpAny_bind (wpAny_rule (wpAny_pure ⟨_, rfl, wpAny_pure h⟩))
noncomputable def rSlU : V → Option Int → Option Int → Hp → VK → Prop := fun x lo hi H Q => ∃ a xs, x = .ref a ∧ H a = some (.tup xs) ∧ TupR H (cutV xs lo hi) Q
theorem sl_tupU : SlR X rSlU := by
 intro pins s σ H x v vl vu lo hi sl Q I rx hs pl pu h
 obtain ⟨a, xs, rfl, hx, q⟩ := h
 by_cases hw : HT.sIx xs.length 0 lo = 0 ∧ HT.sIx xs.length xs.length hi = xs.length
 · cases rx
   obtain ⟨_, its, r, n, e⟩ := I.hok a _ hx
   have hlen : its.toArray.size = xs.length := by rw [List.size_toArray]; exact r.length.symm
   refine ⟨"tuple", _, PyProof.Rows.slot_tuple_getitem.lookup, ⟨_, e, rfl⟩, getItem_tuple_all e hs pl pu (by rw [hlen]; exact hw) ⟨.ref a, H, I, rfl, q.old ?_⟩⟩
   rw [hx]
   congr 2
   unfold cutV
   rw [hw.1, hw.2]
   simp
 · exact sl_tup pins s σ H _ v vl vu lo hi sl Q I rx hs pl pu ⟨a, xs, rfl, SqT.of hx, hw, fun p hp => q.new hp⟩
theorem Inv.big' {pins : List (Addr × Obj)} {σ : St} {H : Hp} {s : Shared} (I : Inv X pins σ H s) : sysModules < s.heap.objs.size := Nat.lt_trans (by decide) (I.mod.glob.keeps I.bk).lt
noncomputable def tDict0 : TE := fun _ H Q => ∀ p, H p = none → Q (.ref p) (upd H p (.dK []))
theorem je_dict0 {pos : Pos} : JE X (.Dict [] [] pos) tDict0 := ⟨fun pins s σ H Q I h =>
 wpAny_Dict_empty ⟨.ref s.heap.objs.size, _, I.laid (a := s.heap.objs.size) (o := .dK []) (t' := s.toks) (fun _ _ q => Heap.get?_push_of_some _ q) (Nat.le_refl _)
   ⟨Nat.zero_le _, beq_eq_false_iff_ne.mpr (Ne.symm (Nat.ne_of_lt I.big')), [], .nil, Heap.DictOf.new s.heap⟩, rfl, h _ (I.hok.fresh (Nat.le_refl _))⟩⟩
theorem je_glob {x : Str} {v : V} {u : Value} {pos : Pos} (hg : Gl1 X x) (hm : X.mg x = some u) (r : RelV v u) (hd : (x == ("__debug__" : Str)) = false := by decide) : JE X (.Name x pos) (tC v) := ⟨pe_glob hg.a hm r hd⟩
theorem ji_range2 {tg a b : Expr} {t : TA} {p pos : Pos} (hg : Gl1 X "range") (hm : X.mg "range" = none) (ha : JA X [a, b] t) (hs : starEach [a, b] X.env = (false, eval a X.env) :: starEach [b] X.env) (hs2 : starEach [b] X.env = (false, eval b X.env) :: starEach [] X.env) :
   JI X tg (.Call (.Name "range" p) [a, b] [] pos) (iRng2 t) := ⟨pi_range2 hg.a hm ha.h (by rw [hs, hs2]; rfl) hs2⟩
end
section
variable {K : W.Frag} {m : List (Option Nat)} {g : TG} {tt : TT} {te : TE} {σ : St} {H1 : Hp} {Q : VK}
theorem comp_tup {a : Addr} {xs : List V} (hn : xs.length < sizeLine) (Pv : Addr → Nat → St → Hp → List V → Prop) (h0 : ∀ D, H1 D = none → Pv D 0 (blkσ m σ) (upd H1 D (.lst [])) [])
   (hD : ∀ D i σ' H' zs, H1 D = none → Pv D i σ' H' zs → H' a = some (.tup xs) ∧ H' D = some (.lst zs) ∧ zs.length ≤ i)
   (hs : ∀ D i σ' H' zs x, H1 D = none → xs[i]? = some x → Pv D i σ' H' zs → g x σ' H' fun σ2 H2 => tt σ2 H2 fun b H3 => if b = true then te σ2 H3 fun v H4 => H4 D = some (.lst zs) ∧ Pv D (i + 1) σ2 (upd H4 D (.lst (zs ++ [v]))) (zs ++ [v]) else Pv D (i + 1) σ2 H3 zs)
   (hd : ∀ D σ' H' zs, H1 D = none → Pv D xs.length σ' H' zs → Q (.ref D) H') : yW m g tt te σ Q (Itt K a) H1 := by
 intro D hDn
 refine ⟨fun i k σ' H' zs => k = xs.length - i ∧ i ≤ xs.length ∧ Pv D i σ' H' zs, ⟨_, rfl, Nat.zero_le _, h0 D hDn⟩, ?_⟩
 rintro i k σ' H' zs ⟨rfl, hi, p⟩
 obtain ⟨s1, q1, q2⟩ := hD D i σ' H' zs hDn p
 refine ⟨q1, by lia, ?_⟩
 by_cases hlt : i < xs.length
 · refine .inr ⟨⟨xs, xs[i], SqT.of s1, by simp [hlt]⟩, Pv D (i + 1), fun σ2 H2 zs z => ⟨xs.length - (i + 1), by lia, rfl, hlt, z⟩, fun v H'' y => ?_⟩
   obtain ⟨e1, e2⟩ := y
   subst e1
   exact hs D i σ' _ zs v hDn (e2 xs (SqT.of s1)) p
 · have e : i = xs.length := by lia
   subst e
   exact .inl ⟨⟨xs, SqT.of s1, Nat.le_refl _⟩, hd D σ' H' zs hDn p⟩
end
end L2
end
section
namespace L2
open PySem PySem.Spec PyProof.Rows
inductive Tr where
 | non
 | bl (b : Bool)
 | int (i : Int)
 | str (x : Str)
 | lst (ts : List Tr)
 | tup (ts : List Tr)
mutual
noncomputable def TAt (H : Hp) : Tr → V → Prop
 | .non, v => v = .non
 | .bl b, v => v = .bl b
 | .int i, v => v = .int i
 | .str x, v => v = .str x
 | .lst ts, v => ∃ a vs, v = .ref a ∧ H a = some (.lst vs) ∧ TsAt H ts vs
 | .tup ts, v => ∃ a vs, v = .ref a ∧ H a = some (.tup vs) ∧ TsAt H ts vs
noncomputable def TsAt (H : Hp) : List Tr → List V → Prop
 | [], vs => vs = []
 | t :: ts, vs => ∃ v r, vs = v :: r ∧ TAt H t v ∧ TsAt H ts r
end
mutual
noncomputable def dep : Tr → Nat
 | .lst ts => deps ts + 1
 | .tup ts => deps ts + 1
 | _ => 0
noncomputable def deps : List Tr → Nat
 | [] => 0
 | t :: ts => max (dep t) (deps ts)
end
mutual
noncomputable def eqT : Tr → Tr → Bool
 | .non, .non => true
 | .bl a, .bl b => a == b
 | .bl a, .int b => (if a then 1 else 0) == b
 | .int a, .bl b => a == (if b then 1 else 0)
 | .int a, .int b => a == b
 | .str a, .str b => a == b
 | .lst a, .lst b => eqTs a b
 | .tup a, .tup b => eqTs a b
 | _, _ => false
noncomputable def eqTs : List Tr → List Tr → Bool
 | [], [] => true
 | a :: as, b :: bs => eqT a b && eqTs as bs
 | _, _ => false
end
mutual
theorem eqT_self : ∀ t : Tr, eqT t t = true
 | .non => by simp [eqT]
 | .bl b => by simp [eqT]
 | .int i => by simp [eqT]
 | .str x => by simp [eqT]
 | .lst ts => by rw [eqT]; exact eqTs_self ts
 | .tup ts => by rw [eqT]; exact eqTs_self ts
theorem eqTs_self : ∀ ts : List Tr, eqTs ts ts = true
 | [] => by simp [eqTs]
 | t :: ts => by rw [eqTs, eqT_self t, eqTs_self ts]; rfl
end
mutual
theorem TAt.ext {H H' : Hp} (e : Ext H H') : ∀ {t : Tr} {v : V}, TAt H t v → TAt H' t v
 | .non, _, h => h
 | .bl _, _, h => h
 | .int _, _, h => h
 | .str _, _, h => h
 | .lst ts, _, ⟨a, vs, q, h, r⟩ => ⟨a, vs, q, e _ _ h, TsAt.ext e r⟩
 | .tup ts, _, ⟨a, vs, q, h, r⟩ => ⟨a, vs, q, e _ _ h, TsAt.ext e r⟩
theorem TsAt.ext {H H' : Hp} (e : Ext H H') : ∀ {ts : List Tr} {vs : List V}, TsAt H ts vs → TsAt H' ts vs
 | [], _, h => h
 | t :: ts, _, ⟨v, r, q, h, s⟩ => ⟨v, r, q, TAt.ext e h, TsAt.ext e s⟩
end
mutual
theorem TAt.inj {H : Hp} : ∀ {t u : Tr} {v : V}, TAt H t v → TAt H u v → t = u
 | .non, u, _, h, h' => by
   cases (show _ = V.non from h)
   cases u with
   | non => rfl
   | bl b => cases (show V.non = _ from h')
   | int b => cases (show V.non = _ from h')
   | str b => cases (show V.non = _ from h')
   | lst ts => obtain ⟨_, _, q, _⟩ := h'; cases q
   | tup ts => obtain ⟨_, _, q, _⟩ := h'; cases q
 | .bl b, u, _, h, h' => by
   cases (show _ = V.bl b from h)
   cases u with
   | non => cases (show V.bl b = _ from h')
   | bl b => cases (show V.bl _ = V.bl b from h'); rfl
   | int i => cases (show V.bl b = V.int i from h')
   | str i => cases (show V.bl b = V.str i from h')
   | lst ts => obtain ⟨_, _, q, _⟩ := h'; cases q
   | tup ts => obtain ⟨_, _, q, _⟩ := h'; cases q
 | .int b, u, _, h, h' => by
   cases (show _ = V.int b from h)
   cases u with
   | non => cases (show V.int b = _ from h')
   | bl i => cases (show V.int b = V.bl i from h')
   | int b => cases (show V.int _ = V.int b from h'); rfl
   | str i => cases (show V.int b = V.str i from h')
   | lst ts => obtain ⟨_, _, q, _⟩ := h'; cases q
   | tup ts => obtain ⟨_, _, q, _⟩ := h'; cases q
 | .str b, u, _, h, h' => by
   cases (show _ = V.str b from h)
   cases u with
   | non => cases (show V.str b = _ from h')
   | bl i => cases (show V.str b = V.bl i from h')
   | int i => cases (show V.str b = V.int i from h')
   | str b => cases (show V.str _ = V.str b from h'); rfl
   | lst ts => obtain ⟨_, _, q, _⟩ := h'; cases q
   | tup ts => obtain ⟨_, _, q, _⟩ := h'; cases q
 | .lst ts, u, _, ⟨a, vs, q, h, r⟩, h' => by
   subst q
   cases u with
   | non => cases (show V.ref a = _ from h')
   | bl i => cases (show V.ref a = V.bl i from h')
   | int i => cases (show V.ref a = V.int i from h')
   | str i => cases (show V.ref a = V.str i from h')
   | lst us =>
     obtain ⟨a', vs', q', h2, r'⟩ := h'
     cases q'
     rw [h] at h2
     cases h2
     rw [TsAt.inj r r']
   | tup us =>
     obtain ⟨a', vs', q', h2, r'⟩ := h'
     cases q'
     rw [h] at h2
     cases h2
 | .tup ts, u, _, ⟨a, vs, q, h, r⟩, h' => by
   subst q
   cases u with
   | non => cases (show V.ref a = _ from h')
   | bl i => cases (show V.ref a = V.bl i from h')
   | int i => cases (show V.ref a = V.int i from h')
   | str i => cases (show V.ref a = V.str i from h')
   | lst us =>
     obtain ⟨a', vs', q', h2, r'⟩ := h'
     cases q'
     rw [h] at h2
     cases h2
   | tup us =>
     obtain ⟨a', vs', q', h2, r'⟩ := h'
     cases q'
     rw [h] at h2
     cases h2
     rw [TsAt.inj r r']
theorem TsAt.inj {H : Hp} : ∀ {ts us : List Tr} {vs : List V}, TsAt H ts vs → TsAt H us vs → ts = us
 | [], us, _, h, h' => by
   cases (show _ = [] from h)
   cases us with
   | nil => rfl
   | cons u us => obtain ⟨_, _, q, _⟩ := h'; cases q
 | t :: ts, us, _, ⟨v, r, q, h, s⟩, h' => by
   subst q
   cases us with
   | nil => cases (show v :: r = [] from h')
   | cons u us =>
     obtain ⟨v', r', q, h2, s2⟩ := h'
     cases q
     rw [TAt.inj h h2, TsAt.inj s s2]
end
theorem TsAt.len {H : Hp} : ∀ {ts : List Tr} {vs : List V}, TsAt H ts vs → vs.length = ts.length
 | [], _, h => by cases (show _ = [] from h); rfl
 | t :: ts, _, ⟨v, r, q, _, s⟩ => by rw [q, List.length_cons, List.length_cons, TsAt.len s]
theorem TsAt.get {H : Hp} : ∀ {ts : List Tr} {vs : List V}, TsAt H ts vs → ∀ {i : Nat} {v : V}, vs[i]? = some v → ∃ t, ts[i]? = some t ∧ TAt H t v
 | [], _, h, i, v, e => by cases (show _ = [] from h); cases e
 | t :: ts, _, ⟨v, r, q, h, s⟩, 0, v', e => by subst q; cases e; exact ⟨t, rfl, h⟩
 | t :: ts, _, ⟨v, r, q, h, s⟩, i + 1, v', e => by subst q; exact TsAt.get s (i := i) e
theorem eqTs_eq : ∀ ts us : List Tr, eqTs ts us = ((List.range (min ts.length us.length)).all (fun j => eqT (ts.getD j .non) (us.getD j .non)) && ts.length == us.length)
 | [], [] => by simp [eqTs]
 | [], u :: us => by simp [eqTs]
 | t :: ts, [] => by simp [eqTs]
 | t :: ts, u :: us => by
   rw [eqTs, eqTs_eq ts us, List.length_cons, List.length_cons, show min (ts.length + 1) (us.length + 1) = min ts.length us.length + 1 by lia, List.range_succ_eq_map, List.all_cons, List.all_map]
   have e : (ts.length + 1 == us.length + 1) = (ts.length == us.length) := by
     rw [Bool.eq_iff_iff]
     simp
   rw [e, Bool.and_assoc]
   rfl
theorem dep_mem {ts : List Tr} {t : Tr} (h : t ∈ ts) : dep t ≤ deps ts := by
 induction ts with
 | nil => cases h
 | cons a r ih =>
   rw [deps]
   rcases List.mem_cons.mp h with q | q
   · subst q; lia
   · have := ih q; lia
noncomputable def flatT : Tr → Bool
 | .lst _ => false
 | .tup _ => false
 | _ => true
theorem flat_TV {H : Hp} {t : Tr} {x : V} (h : TAt H t x) (f : flatT t = true) : flatV x = true := by
 cases t with
 | non => cases (show x = _ from h); rfl
 | bl b => cases (show x = V.bl b from h); rfl
 | int b => cases (show x = V.int b from h); rfl
 | str b => cases (show x = V.str b from h); rfl
 | lst ts => cases f
 | tup ts => cases f
theorem flat_eq {H : Hp} {t u : Tr} {x y : V} (h : TAt H t x) (h' : TAt H u y) (f : flatT t = true) (f' : flatT u = true) : eqV x y = eqT t u := by
 cases t with
 | non =>
   cases (show x = _ from h)
   cases u with
   | non => cases (show y = _ from h'); simp [eqV, eqT]
   | bl b => cases (show y = V.bl b from h'); simp [eqV, eqT]
   | int b => cases (show y = V.int b from h'); simp [eqV, eqT]
   | str b => cases (show y = V.str b from h'); simp [eqV, eqT]
   | lst ts => cases f'
   | tup ts => cases f'
 | bl c =>
   cases (show x = V.bl c from h)
   cases u with
   | non => cases (show y = _ from h'); simp [eqV, eqT]
   | bl b => cases (show y = V.bl b from h'); simp [eqV, eqT]
   | int b => cases (show y = V.int b from h'); simp [eqV, eqT]
   | str b => cases (show y = V.str b from h'); simp [eqV, eqT]
   | lst ts => cases f'
   | tup ts => cases f'
 | int c =>
   cases (show x = V.int c from h)
   cases u with
   | non => cases (show y = _ from h'); simp [eqV, eqT]
   | bl b => cases (show y = V.bl b from h'); simp [eqV, eqT]
   | int b => cases (show y = V.int b from h'); simp [eqV, eqT]
   | str b => cases (show y = V.str b from h'); simp [eqV, eqT]
   | lst ts => cases f'
   | tup ts => cases f'
 | str c =>
   cases (show x = V.str c from h)
   cases u with
   | non => cases (show y = _ from h'); simp [eqV, eqT]
   | bl b => cases (show y = V.bl b from h'); simp [eqV, eqT]
   | int b => cases (show y = V.int b from h'); simp [eqV, eqT]
   | str b => cases (show y = V.str b from h'); simp [eqV, eqT]
   | lst ts => cases f'
   | tup ts => cases f'
 | lst ts => cases f
 | tup ts => cases f
section
variable {X : Cx} {pins : List (Addr × Obj)} {σ : St} {H : Hp} {s : Shared}
theorem TsAt.both {ts us : List Tr} {vs ws : List V} {its its2 : List Value} (h1 : TsAt H ts vs) (h2 : TsAt H us ws) (r1 : Vals vs its) (r2 : Vals ws its2) {j : Nat} (a1 : j < its.toArray.size) (a2 : j < its2.toArray.size) :
   ∃ t u x y, ts.getD j .non = t ∧ us.getD j .non = u ∧ t ∈ ts ∧ TAt H t x ∧ TAt H u y ∧ RelV x its.toArray[j] ∧ RelV y its2.toArray[j] := by
 have l1 := r1.length
 have l2 := r2.length
 rw [List.size_toArray] at a1 a2
 obtain ⟨x, hx⟩ : ∃ x, vs[j]? = some x := ⟨vs[j]'(by lia), by simp [show j < vs.length by lia]⟩
 obtain ⟨y, hy⟩ : ∃ y, ws[j]? = some y := ⟨ws[j]'(by lia), by simp [show j < ws.length by lia]⟩
 obtain ⟨t, ht, hxt⟩ := h1.get hx
 obtain ⟨u, hu, hyu⟩ := h2.get hy
 obtain ⟨v, hv, rv⟩ := r1.get hx
 obtain ⟨w, hw, rw'⟩ := r2.get hy
 have e1 : its.toArray[j] = v := by
   have : its[j]? = some its[j] := by simp [a1]
   rw [hv] at this
   simpa using (Option.some.inj this).symm
 have e2 : its2.toArray[j] = w := by
   have : its2[j]? = some its2[j] := by simp [a2]
   rw [hw] at this
   simpa using (Option.some.inj this).symm
 refine ⟨t, u, x, y, by rw [List.getD_eq_getElem?_getD, ht]; rfl, by rw [List.getD_eq_getElem?_getD, hu]; rfl, List.mem_of_getElem? ht, hxt, hyu, by rw [e1]; exact rv, by rw [e2]; exact rw'⟩
theorem eqAt_T (I : Inv X pins σ H s) : ∀ (n : Nat) (t u : Tr) (x y : V) (vx vy : Value) (A : Around), dep t = n → TAt H t x → TAt H u y → RelV x vx → RelV y vy → A.units + n < cLine → SeqAt.EqAt A s vx vy (eqT t u) := by
 intro n
 induction n using Nat.strongRecOn with
 | ind n ih =>
   intro t u x y vx vy A hn ht hu rx ry hc
   have hcu : A.units < cLine := by lia
   cases ft : flatT t with
   | true =>
     cases fu : flatT u with
     | true =>
       rw [← flat_eq ht hu ft fu]
       exact eqAt_V rx ry (flat_TV ht ft) (flat_TV hu fu)
     | false =>
       cases u with
       | lst us =>
         obtain ⟨b, ws, rfl, hb, _⟩ := hu
         cases ry
         obtain ⟨its, _, pl, _⟩ := I.list (SqL.of hb)
         cases t with
         | non => cases (show x = _ from ht); cases rx; rw [show eqT .non (.lst us) = false by simp [eqT]]; exact .none_list pl.isList hcu
         | bl c => cases (show x = V.bl c from ht); cases rx; rw [show eqT (.bl c) (.lst us) = false by simp [eqT]]; exact .bool_list c pl.isList hcu
         | int c => cases (show x = V.int c from ht); obtain ⟨k, rfl⟩ := rx; rw [show eqT (.int c) (.lst us) = false by simp [eqT]]; exact .int_list c k pl.isList hcu
         | str c => cases (show x = V.str c from ht); obtain ⟨k, rfl⟩ := rx; rw [show eqT (.str c) (.lst us) = false by simp [eqT]]; exact .str_list c k pl.isList hcu
         | lst ts => cases ft
         | tup ts => cases ft
       | tup us =>
         obtain ⟨b, ws, rfl, hb, _⟩ := hu
         cases ry
         obtain ⟨its, _, pl, _⟩ := I.tuple (SqT.of hb)
         cases t with
         | non => cases (show x = _ from ht); cases rx; rw [show eqT .non (.tup us) = false by simp [eqT]]; exact .none_tuple pl hcu
         | bl c => cases (show x = V.bl c from ht); cases rx; rw [show eqT (.bl c) (.tup us) = false by simp [eqT]]; exact .bool_tuple c pl hcu
         | int c => cases (show x = V.int c from ht); obtain ⟨k, rfl⟩ := rx; rw [show eqT (.int c) (.tup us) = false by simp [eqT]]; exact .int_tuple c k pl hcu
         | str c => cases (show x = V.str c from ht); obtain ⟨k, rfl⟩ := rx; rw [show eqT (.str c) (.tup us) = false by simp [eqT]]; exact .str_tuple c k pl hcu
         | lst ts => cases ft
         | tup ts => cases ft
       | non => cases fu
       | bl c => cases fu
       | int c => cases fu
       | str c => cases fu
   | false =>
     cases t with
     | non => cases ft
     | bl c => cases ft
     | int c => cases ft
     | str c => cases ft
     | lst ts =>
       have ht0 := ht
       obtain ⟨a, vs, rfl, ha, hts⟩ := ht
       cases rx
       obtain ⟨its, r1, pl, _⟩ := I.list (SqL.of ha)
       cases u with
       | non => cases (show y = _ from hu); cases ry; rw [show eqT (.lst ts) .non = false by simp [eqT]]; exact .list_none pl.isList hcu
       | bl c => cases (show y = V.bl c from hu); cases ry; rw [show eqT (.lst ts) (.bl c) = false by simp [eqT]]; exact .list_bool c pl.isList hcu
       | int c => cases (show y = V.int c from hu); obtain ⟨k, rfl⟩ := ry; rw [show eqT (.lst ts) (.int c) = false by simp [eqT]]; exact .list_int c k pl.isList hcu
       | str c => cases (show y = V.str c from hu); obtain ⟨k, rfl⟩ := ry; rw [show eqT (.lst ts) (.str c) = false by simp [eqT]]; exact .list_str c k pl.isList hcu
       | tup us =>
         obtain ⟨b, ws, rfl, hb, _⟩ := hu
         cases ry
         obtain ⟨its2, _, pl2, _⟩ := I.tuple (SqT.of hb)
         rw [show eqT (.lst ts) (.tup us) = false by simp [eqT]]
         exact .list_tuple pl.isList pl2 hcu
       | lst us =>
         have hu0 := hu
         obtain ⟨b, ws, rfl, hb, hus⟩ := hu
         cases ry
         by_cases e : a = b
         · subst e
           rw [← TAt.inj ht0 hu0, eqT_self]
           exact .same _
         · obtain ⟨its2, r2, pl2, _⟩ := I.list (SqL.of hb)
           refine .of_refs e ?_
           have l1 := r1.length
           have l2 := r2.length
           have m1 := hts.len
           have m2 := hus.len
           rw [eqT, eqTs_eq]
           by_cases hl : ts.length = us.length
           · have key := SeqAt.RcAt.lists (e := fun j => eqT (ts.getD j .non) (us.getD j .non)) pl.isList pl2.isList (by rw [List.size_toArray, List.size_toArray]; lia) hcu fun j a1 a2 => by
               obtain ⟨t', u', x', y', e1, e2, hm, q1, q2, q3, q4⟩ := TsAt.both hts hus r1 r2 a1 a2
               rw [e1, e2]
               have hd := dep_mem hm
               have hn' : deps ts + 1 = n := by rw [← hn, dep]
               exact ih (dep t') (by lia) t' u' x' y' _ _ _ rfl q1 q2 q3 q4 (by rw [Around.in1_units]; lia)
             have ez : its.toArray.size = min ts.length us.length := by rw [List.size_toArray]; lia
             rw [ez] at key
             rw [show (ts.length == us.length) = true by simp [hl], Bool.and_true]
             exact key
           · rw [show (ts.length == us.length) = false by simp [hl], Bool.and_false]
             refine SeqAt.RcAt.lists_lengths pl.isList pl2.isList ?_ hcu
             rw [List.size_toArray, List.size_toArray]
             simp
             lia
     | tup ts =>
       have ht0 := ht
       obtain ⟨a, vs, rfl, ha, hts⟩ := ht
       cases rx
       obtain ⟨its, r1, pl, _⟩ := I.tuple (SqT.of ha)
       cases u with
       | non => cases (show y = _ from hu); cases ry; rw [show eqT (.tup ts) .non = false by simp [eqT]]; exact .tuple_none pl hcu
       | bl c => cases (show y = V.bl c from hu); cases ry; rw [show eqT (.tup ts) (.bl c) = false by simp [eqT]]; exact .tuple_bool c pl hcu
       | int c => cases (show y = V.int c from hu); obtain ⟨k, rfl⟩ := ry; rw [show eqT (.tup ts) (.int c) = false by simp [eqT]]; exact .tuple_int c k pl hcu
       | str c => cases (show y = V.str c from hu); obtain ⟨k, rfl⟩ := ry; rw [show eqT (.tup ts) (.str c) = false by simp [eqT]]; exact .tuple_str c k pl hcu
       | lst us =>
         obtain ⟨b, ws, rfl, hb, _⟩ := hu
         cases ry
         obtain ⟨its2, _, pl2, _⟩ := I.list (SqL.of hb)
         rw [show eqT (.tup ts) (.lst us) = false by simp [eqT]]
         exact .tuple_list pl pl2.isList hcu
       | tup us =>
         have hu0 := hu
         obtain ⟨b, ws, rfl, hb, hus⟩ := hu
         cases ry
         by_cases e : a = b
         · subst e
           rw [← TAt.inj ht0 hu0, eqT_self]
           exact .same _
         · obtain ⟨its2, r2, pl2, _⟩ := I.tuple (SqT.of hb)
           refine .of_refs e ?_
           have l1 := r1.length
           have l2 := r2.length
           have m1 := hts.len
           have m2 := hus.len
           rw [eqT, eqTs_eq]
           have key := SeqAt.RcAt.tuples (e := fun j => eqT (ts.getD j .non) (us.getD j .non)) pl pl2 hcu fun j a1 a2 => by
             obtain ⟨t', u', x', y', e1, e2, hm, q1, q2, q3, q4⟩ := TsAt.both hts hus r1 r2 a1 a2
             rw [e1, e2]
             have hd := dep_mem hm
             have hn' : deps ts + 1 = n := by rw [← hn, dep]
             exact ih (dep t') (by lia) t' u' x' y' _ _ _ rfl q1 q2 q3 q4 (by rw [Around.in1_units]; lia)
           have z1 : its.toArray.size = ts.length := by rw [List.size_toArray]; lia
           have z2 : its2.toArray.size = us.length := by rw [List.size_toArray]; lia
           rw [z1, z2] at key
           exact key
theorem items_T (I : Inv X pins σ H s) {ts us : List Tr} {vs ws : List V} {its its2 : List Value} (h1 : TsAt H ts vs) (h2 : TsAt H us ws) (r1 : Vals vs its) (r2 : Vals ws its2) {A : Around} (hc : A.units + deps ts < cLine) :
   ∀ j (a1 : j < its.toArray.size) (a2 : j < its2.toArray.size), SeqAt.EqAt A s its.toArray[j] its2.toArray[j] (eqT (ts.getD j .non) (us.getD j .non)) := fun j a1 a2 => by
 obtain ⟨t', u', x', y', e1, e2, hm, q1, q2, q3, q4⟩ := TsAt.both h1 h2 r1 r2 a1 a2
 rw [e1, e2]
 have hd := dep_mem hm
 exact eqAt_T I (dep t') t' u' x' y' _ _ _ rfl q1 q2 q3 q4 (by lia)
theorem op_neTT (hu : X.A.units + 101 < cLine) : OpR X (compareOp .NotEq) (fun x y H Q => ∃ ts us, TAt H (.tup ts) x ∧ TAt H (.tup us) y ∧ deps ts ≤ 100 ∧ Q (.bl (!eqTs ts us)) H) := by
 intro pins s σ H x y v u Q I rx ry h
 obtain ⟨ts, us, ⟨a, vs, rfl, ha, hts⟩, ⟨b, ws, rfl, hb, hus⟩, hd, q⟩ := h
 cases rx
 cases ry
 obtain ⟨its, r1, p1, _⟩ := I.tuple (SqT.of ha)
 obtain ⟨its2, r2, p2, _⟩ := I.tuple (SqT.of hb)
 have l1 := r1.length
 have l2 := r2.length
 have m1 := hts.len
 have m2 := hus.len
 refine SeqAt.RcNeAt.tuples (e := fun j => eqT (ts.getD j .non) (us.getD j .non)) p1 p2 (by lia) (items_T I hts hus r1 r2 (by rw [Around.in1_units]; lia)) _ _ _ _ ⟨.bl _, H, I, rfl, ?_⟩
 have z1 : its.toArray.size = ts.length := by rw [List.size_toArray]; lia
 have z2 : its2.toArray.size = us.length := by rw [List.size_toArray]; lia
 rw [z1, z2, ← eqTs_eq]
 exact q
theorem op_eqLL (hu : X.A.units + 101 < cLine) : OpR X (compareOp .Eq) (fun x y H Q => ∃ ts us, TAt H (.lst ts) x ∧ TAt H (.lst us) y ∧ deps ts ≤ 100 ∧ Q (.bl (eqTs ts us)) H) := by
 intro pins s σ H x y v u Q I rx ry h
 obtain ⟨ts, us, ⟨a, vs, rfl, ha, hts⟩, ⟨b, ws, rfl, hb, hus⟩, hd, q⟩ := h
 cases rx
 cases ry
 obtain ⟨its, r1, p1, _⟩ := I.list (SqL.of ha)
 obtain ⟨its2, r2, p2, _⟩ := I.list (SqL.of hb)
 have l1 := r1.length
 have l2 := r2.length
 have m1 := hts.len
 have m2 := hus.len
 rw [eqTs_eq] at q
 by_cases hl : ts.length = us.length
 · refine SeqAt.eq_listAt (e := fun j => eqT (ts.getD j .non) (us.getD j .non)) p1.isList p2.isList (by rw [List.size_toArray, List.size_toArray]; lia) (by lia) (items_T I hts hus r1 r2 (by rw [Around.in1_units]; lia)) ⟨.bl _, H, I, rfl, ?_⟩
   have ez : its.toArray.size = min ts.length us.length := by rw [List.size_toArray]; lia
   rw [ez]
   rw [show (ts.length == us.length) = true by simp [hl], Bool.and_true] at q
   exact q
 · rw [show (ts.length == us.length) = false by simp [hl], Bool.and_false] at q
   refine SeqAt.eq_list_lengthsAt p1.isList p2.isList ?_ (by lia) ⟨.bl _, H, I, rfl, q⟩
   rw [List.size_toArray, List.size_toArray]
   simp
   lia
theorem Room.units101 {k : Nat} {A : Around} (r : Room k A) : A.units + 101 < cLine := by have := r.un; lia
end
end L2
end
section
namespace L2
open PySem PySem.Spec PyProof.Rows
section
variable {X : Cx} {tg iter elt : Expr} {ifs : List Expr} {sc : Scope} {pos : Pos} {wi : TI} {g : TG} {tt : TT} {te : TE} {m : List (Option Nat)} {Nc : List Str}
end
section
variable {X : Cx} {sc : Scope} {cl : List (Str × Addr)} {C : Addr} {Nc : List Str} {fp : List Addr} {s : Shared} {H : Hp} {x : Str}
variable {sc2 : Scope} {cl2 : List (Str × Addr)} {C2 : Addr} {Nc2 : List Str} {fp2 : List Addr} {s2 : Shared} {H2 : Hp}
end
end L2
end
section
namespace L2
open PySem PySem.Spec PyProof.Rows
section
variable {X : Cx}
noncomputable def rAny (K : W.Frag) : List V → Hp → VK → Prop := fun xs H Q => ∃ (p : Addr) (bs : List Bool), xs = [.ref p] ∧ SqL K H p (bs.map V.bl) ∧ Q (.bl (bs.any id)) H
theorem call_anyL (hc : X.calm = true) : yD X (.builtin "any") (rAny X.K) := by
 intro pins s σ H xs us Q I r h
 obtain ⟨p, bs, rfl, hq, q⟩ := h
 obtain ⟨u, rfl, rx⟩ := r.one
 cases rx
 obtain ⟨its, r', pl, hz⟩ := I.list hq
 have hlen := r'.length
 rw [List.length_map] at hlen
 refine call_any_walk (wpAny_pyIter_list pl.isList ?_)
 have hne : p ≠ s.heap.objs.size := by
   obtain ⟨o, ho, _⟩ := pl.isList
   exact Nat.ne_of_lt (Heap.lt_size ho)
 refine ⟨s.heap.objs.size, _, _, _, _, _, fun i => bs.getD i true, rfl, Walks.list (by simpa using I.ok.hd hc) _ p hne its.toArray, ⟨⟨_, Heap.get?_push_size _ rfl, rfl, rfl⟩, pl.isList.push _⟩, fun i v z Q' E' hP hQ' => ?_, fun h' tk hk => ?_⟩
 · have hi : its[i]? = some v := by simpa using hP
   have hb : i < bs.length := by
     rw [hlen]
     exact (List.getElem?_eq_some_iff.mp hi).1
   obtain ⟨u, hu, ru⟩ := r'.get (i := i) (x := .bl (bs[i])) (by simp [hb])
   rw [hi] at hu
   cases hu
   cases ru
   have e : bs.getD i true = bs[i] := by simp [List.getD, hb]
   have hQ2 : Q' (bs.getD i true) z := hQ'
   rw [e] at hQ2
   exact wpAny_pure hQ2
 · have e : (List.range its.toArray.size).any (fun i => bs.getD i true) = bs.any id := by
     rw [List.size_toArray, ← hlen]
     rw [Bool.eq_iff_iff, List.any_eq_true, List.any_eq_true]
     constructor
     · rintro ⟨i, hi, hb⟩
       have hi := List.mem_range.mp hi
       exact ⟨bs[i], List.getElem_mem hi, by simpa [List.getD, hi] using hb⟩
     · rintro ⟨b, hb, hq⟩
       obtain ⟨i, hi, rfl⟩ := List.getElem_of_mem hb
       exact ⟨i, List.mem_range.mpr hi, by simpa [List.getD, hi] using hq⟩
   rw [e]
   exact ⟨.bl _, H, I.kept (t' := tk) fun b o e => hk b o (by
     intro z
     have z : b = s.heap.objs.size := by simpa using z
     exact absurd (Heap.lt_size e) (by rw [z]; exact Nat.lt_irrefl _)) (Heap.get?_push_of_some _ e), rfl, q⟩
theorem call_sortedL : yD X (.builtin "sorted") (fun xs H Q => ∃ (p : Addr) (ks : List Int), xs = [.ref p] ∧ SqL X.K H p (ks.map V.int) ∧ ks.length < 64 ∧
   ∀ (l : Addr) (ns : List Int), H l = none → ns.Pairwise (· ≤ ·) → ns.Perm ks → Q (.ref l) (upd H l (.lst (ns.map V.int)))) := by
 intro pins s σ H xs us Q I r h
 obtain ⟨p, ks, rfl, hp, hn, q⟩ := h
 obtain ⟨u, rfl, rx⟩ := r.one
 cases rx
 obtain ⟨its, r', pl, hz⟩ := I.list hp
 have hlen := r'.length
 rw [List.length_map] at hlen
 refine sorted_ints pl.isList (vals_intsAre r') (by lia) fun out ns' a1 a2 a3 => ?_
 obtain ⟨e, he⟩ := sortedAll_at s.heap its out
 have hz : (ns'.map V.int).length ≤ sizeLine := by
   rw [List.length_map, a2.length_eq, sizeLine_eq]
   lia
 have I2 : Inv X pins σ (upd H (s.heap.objs.size + 1) (.lst (ns'.map V.int))) { s with heap := sortedAll s.heap its out } := I.laid (t' := s.toks) (fun b o e => sortedAll_old e) (Nat.le_succ _) ⟨hz, out.toList, e, intsAre_vals a1, by rw [Array.toArray_toList]; exact he⟩
 exact ⟨.ref _, _, I2, rfl, q _ ns' (I.hok.fresh (Nat.le_succ _)) a3 a2⟩
theorem sliceApplied_rev {prog : Program} {w : World} {A : Around} {E : Value → Shared → Prop} {s : Shared} {sl : Addr} {vs : Value} {n : Nat} {Q : Int × Int × Nat → Shared → Prop} (hs : s.heap.IsSliceOf sl .none .none vs) (ps : IsPart vs (some (-1)))
   (h : Q (((n : Int) - 1), -1, n) s) : wpAny (model prog w) A (Builtin.Slice.sliceApplied (.ref sl) (pure (n : Int))) Q E s := by
 obtain ⟨os, hos, hcs, hds⟩ := id hs
 unfold Builtin.Slice.sliceApplied Builtin.Slice.sliceFields
 refine wpAny_bind (wpAny_bind (wpAny_field hos hds (x := .none) rfl (wpAny_bind (wpAny_field hos hds (x := .none) rfl (wpAny_bind (wpAny_field hos hds (x := vs) rfl (wpAny_pure ?_)))))))
 refine wpAny_bind (HT.slicePart_ ps ?_)
 show wpAny _ _ (if ((-1 : Int) == 0) = true then _ else _) _ _ s
 rw [if_neg (by decide)]
 refine wpAny_bind (slicePart_none (wpAny_bind (slicePart_none (wpAny_bind (wpAny_pure ?_)))))
 show wpAny _ _ (pure (((n : Int) - 1), (-1 : Int), Builtin.Slice.slicePlaces ((n : Int) - 1) (-1) (-1))) _ _ s
 have e : Builtin.Slice.slicePlaces ((n : Int) - 1) (-1) (-1) = n := by
   unfold Builtin.Slice.slicePlaces
   rw [if_neg (by decide)]
   have : (-(-1 : Int)) = 1 := rfl
   rw [this]
   split <;> lia
 rw [e]
 exact wpAny_pure h
theorem filterMap_some {α β : Type} {f : α → Option β} {g : α → β} : ∀ {l : List α}, (∀ k ∈ l, f k = some (g k)) → l.filterMap f = l.map g
 | [], _ => rfl
 | a :: r, h => by
   rw [List.filterMap_cons, h a List.mem_cons_self, List.map_cons, filterMap_some fun k hk => h k (List.mem_cons_of_mem _ hk)]
theorem rev_pick (xs : List Value) : ((List.range xs.length).filterMap fun (k : Nat) => xs.toArray[(((xs.length : Int) - 1) + (k : Int) * (-1)).toNat]?) = xs.reverse := by
 rw [filterMap_some (g := fun k => xs.reverse.getD k .none) fun k hk => ?_]
 · apply List.ext_getElem
   · simp
   · intro i h1 h2
     have h3 : i < xs.length := by simpa using h2
     simp [List.getD, h3]
 · have hk := List.mem_range.mp hk
   have e1 : (((xs.length : Int) - 1) + (k : Int) * (-1)).toNat = xs.length - 1 - k := by lia
   rw [e1]
   have h1 : xs.length - 1 - k < xs.length := by lia
   simp [List.getD, hk, h1]
theorem getItem_tuple_rev {prog : Program} {w : World} {A : Around} {E : Value → Shared → Prop} {s : Shared} {t sl : Addr} {its : List Value} {n : Nat} {vs : Value} {Q : Value → Shared → Prop}
   (e0 : s.heap.get? t = some { cls := .type "tuple", data := .seq its.toArray n }) (hs : s.heap.IsSliceOf sl .none .none vs) (ps : IsPart vs (some (-1))) (hz : its.length ≤ sizeLine)
   (h : Q (.ref s.heap.objs.size) { s with heap := s.heap.push { cls := .type "tuple", data := .seq its.reverse.toArray } }) : wpAny (model prog w) A (getItem (.ref t) (.ref sl)) Q E s := by
 have ht : IsTup s.heap t its.toArray := ⟨_, e0, rfl, n, rfl⟩
 obtain ⟨os, hos, hcs, hds⟩ := id hs
 have hTs : s.TypeIs (.ref sl) "slice" := ⟨os, hos, hcs⟩
 have htake : sizeOk (.seq its.reverse.toArray) := by
   show its.reverse.toArray.size ≤ sizeLine
   rw [List.size_toArray, List.length_reverse]
   exact hz
 unfold getItem
 try with_reducible refine wpAny_holding ?_
 first | refine wpAny_bind (wpAny_pure ?_) | skip
 refine wpAny_bind (wpAny_sequenceKey ht.typeIs (by decide) (wpAny_bind (wpAny_callSpecial?_slot (name := Str.ofString "__getitem__") ht.typeIs PyProof.Rows.slot_tuple_getitem
   (wpAny_call_entry PyProof.Rows.slot_tuple_getitem ht.typeIs entry_tuple_getitem (?_ : wpAny (model prog w) _ (Builtin.Tuple.tupleItemsOf (.ref t) >>= _) _ _ s) (args_tuple_getitem _ _)))))
 refine wpAny_bind (tupleItemsOf_ ht (wpAny_bind (wpAny_typeOf hTs ?_)))
 rw [if_pos (by decide)]
 refine wpAny_bind (sliceApplied_rev (n := its.toArray.size) hs ps ?_)
 have hno : ¬ ((((its.toArray.size : Int) - 1) == 0 && (-1 : Int) == 1 && its.toArray.size == its.toArray.size) = true) := by
   intro q
   rw [Bool.and_eq_true, Bool.and_eq_true] at q
   exact absurd q.1.2 (by decide)
 show wpAny _ _ (if (((its.toArray.size : Int) - 1) == 0 && (-1 : Int) == 1 && its.toArray.size == its.toArray.size) = true then _ else _) _ _ s
 rw [if_neg hno, List.size_toArray, rev_pick]
 first
   | exact wpAny_bind (m := Builtin.Tuple.tupleExact _) (wpAny_newObj_type (wpAny_pure ⟨_, rfl, wpAny_pure h⟩) htake)
   | exact wpAny_bind (m := Builtin.Tuple.tupleExact _) (wpAny_newObj_type (wpAny_bind (wpAny_pure (wpAny_pure ⟨_, rfl, wpAny_pure h⟩))) htake)
   | exact wpAny_bind (wpAny_bind (m := Builtin.Tuple.tupleExact _) (wpAny_newObj_type (wpAny_pure (wpAny_pure ⟨_, rfl, wpAny_pure h⟩)) htake))
   | exact wpAny_bind (wpAny_bind (m := Builtin.Tuple.tupleExact _) (wpAny_newObj_type (wpAny_pure ⟨_, rfl, wpAny_pure h⟩) htake))
noncomputable def tRev (te : TE) (ts : TO) : TE := fun σ H Q => te σ H fun x H1 => ts σ H1 fun o H2 => o = some (-1) ∧ ∃ a xs, x = .ref a ∧ H2 a = some (.tup xs) ∧ TupR H2 xs.reverse Q
theorem je_rev {e st : Expr} {te : TE} {ts : TO} {p2 pos : Pos} (he : JE X e te) (hst : JO X (some st) ts) : JE X (.Subscript e (.Slice none none (some st) p2) pos) (tRev te ts) := ⟨by
 intro pins s σ H Q I h
 refine Subscript_ (thn (he.h pins s σ H _ I h) fun v s1 ⟨x, H1, I1, r1, q1⟩ => ?_)
 refine wpAny_Slice ?_
 rw [evalPart_none]
 refine wpAny_pure (wpAny_pure (thn (hst.h pins s1 σ H1 _ I1 q1) fun vst s2 ⟨o, H2, I2, ps, eo, a, xs, ex, hx, q⟩ => ?_))
 subst eo
 subst ex
 cases r1
 have I4 : Inv X pins σ H2 { s2 with heap := s2.heap.push { cls := .type "slice", data := .fields #[.none, .none, vst] } } := I2.kept (t' := s2.toks) fun b ob q => Heap.get?_push_of_some _ q
 obtain ⟨hz, its, r, n, e0⟩ := I4.hok a _ hx
 have hlen := r.length
 show wpAny (model X.prog X.w) X.A (subscriptTail e (.Slice none none (some st) p2) (.ref a) (.ref s2.heap.objs.size)) (EP X pins σ Q) X.xe { s2 with heap := s2.heap.push { cls := .type "slice", data := .fields #[.none, .none, vst] } }
 refine tail_any (ops := [.ref a, .ref s2.heap.objs.size]) ⟨_, e0, rfl⟩ PyProof.Rows.slot_tuple_getitem.lookup ?_ (by with_unfolding_all rfl)
 refine getItem_tuple_rev e0 (Heap.IsSliceOf.new ..) ps (by lia) ?_
 refine ⟨.ref _, _, I4.laid (t' := s2.toks) (o := .tup xs.reverse) (fun b ob q => Heap.get?_push_of_some _ q) (Nat.le_refl _) ⟨by rw [List.length_reverse]; exact hz, its.reverse, r.reverse, TupO.new _ _⟩, rfl, q.new (I4.hok.fresh (Nat.le_refl _))⟩⟩
theorem fo_lst {xs : List Expr} {pos : Pos} : FoOk (.List xs pos) := ⟨fun _ _ => rfl⟩
end
section
variable {X : Cx} {sc : Scope} {cl : List (Str × Addr)} {C : Addr} {Nc : List Str} {fp : List Addr} {s : Shared} {H : Hp}
end
end L2
end
section
namespace L2
open PySem
theorem se_dict {es : List Expr} {env : Env} {pos : Pos} {ks : List (Option Expr)} {vs : List Expr} : starEach (.Dict ks vs pos :: es) env = (false, eval (.Dict ks vs pos) env) :: starEach es env := rfl
noncomputable def LstR (H : Hp) (xs : List V) (Q : VK) : Prop := ∀ r H', H' r = some (.lst xs) → Ext H H' → H r = none → Q (.ref r) H'
theorem LstR.new {H : Hp} {xs : List V} {Q : VK} (q : LstR H xs Q) {p : Addr} (hp : H p = none) : Q (.ref p) (upd H p (.lst xs)) := q p _ j7 ((Ext.refl H).new hp _) hp
noncomputable def tTupU (t : TA) : TE := fun σ H Q => t σ H fun xs H1 => xs.length ≤ sizeLine ∧ TupR H1 xs Q
noncomputable def tLstU (t : TA) : TE := fun σ H Q => t σ H fun xs H1 => xs.length ≤ sizeLine ∧ LstR H1 xs Q
noncomputable def tDictU : TE := fun _ H Q => ∀ r H', H' r = some (.dK []) → Ext H H' → Q (.ref r) H'
section
variable {X : Cx} {es : List Expr} {t : TA} {pos : Pos}
theorem kQ {x1} (h : JA X es t) : JE X (.Tuple es x1 pos) (tTupU t) := ⟨fun pins s σ H Q I hq => by
 refine wpAny_Tuple_spliced (thn (h.h pos pins s σ H _ I hq) fun us s1 ⟨xs, H1, I1, r, z, q⟩ => ⟨by rw [← r.length]; exact z, ?_⟩)
 have hf : H1 s1.heap.objs.size = none := I1.hok.fresh (Nat.le_refl _)
 exact ⟨.ref s1.heap.objs.size, upd H1 s1.heap.objs.size (.tup xs), I1.laid (t' := s1.toks) (fun b u e => Heap.get?_push_of_some _ e) (Nat.le_refl _) ⟨z, us, r, TupO.new _ _⟩, rfl, q.new hf⟩⟩
theorem je_lstU (h : JA X es t) : JE X (.List es pos) (tLstU t) := ⟨fun pins s σ H Q I hq => by
 refine wpAny_List_spliced (thn (h.h pos pins s σ H _ I hq) fun us s1 ⟨xs, H1, I1, r, z, q⟩ => ⟨by rw [← r.length]; exact z, ?_⟩)
 have hf : H1 s1.heap.objs.size = none := I1.hok.fresh (Nat.le_refl _)
 exact ⟨.ref s1.heap.objs.size, upd H1 s1.heap.objs.size (.lst xs), I1.laid (t' := s1.toks) (fun b u e => Heap.get?_push_of_some _ e) (Nat.le_refl _) ⟨z, us, 0, r, Heap.get?_push_size _ rfl⟩, rfl, q.new hf⟩⟩
theorem je_dictU : JE X (.Dict [] [] pos) tDictU := ⟨fun pins s σ H Q I h => je_dict0.h pins s σ H Q I fun p hp => h p _ j7 ((Ext.refl H).new hp _)⟩
theorem call_listU : yD X (.type "list") (fun xs H Q => ∃ p ys, xs = [.ref p] ∧ H p = some (.tup ys) ∧ LstR H ys Q) := by
 intro pins s σ H xs us Q I r h
 obtain ⟨p, ys, rfl, hp, q⟩ := h
 exact call_list_of pins s σ H _ us Q I r ⟨p, ys, rfl, .inr (SqT.of hp), fun l hl => q.new hl⟩
theorem op_catLU : OpR X (binaryOp .Add) (fun x y H Q => ∃ l b xs zs, x = .ref l ∧ y = .ref b ∧ H l = some (.lst xs) ∧ H b = some (.lst zs) ∧ xs.length + zs.length ≤ sizeLine ∧ LstR H (xs ++ zs) Q) := by
 intro pins s σ H x y v u Q I rx ry h
 obtain ⟨l, b, xs, zs, rfl, rfl, h1, h2, h3, q⟩ := h
 exact op_cat pins s σ H _ _ v u Q I rx ry ⟨l, b, xs, zs, rfl, rfl, h1, h2, h3, fun p hp => q.new hp⟩
end
end L2
end
section
namespace L2
open PySem PySem.Spec PyProof.Rows
section
variable {X : Cx}
end
end L2
end
section
namespace L2
open PySem PySem.Spec PyProof.Rows
section
variable {X : Cx}
variable {sc : Scope} {cl : List (Str × Addr)} {C : Addr} {Nc : List Str} {fp : List Addr} {s : Shared} {H : Hp}
end
end L2
end
section
namespace L2
open PySem
section
variable {X : Cx} {tg iter elt : Expr} {ifs : List Expr} {sc : Scope} {pos : Pos} {wi : TI} {g : TG} {tt : TT} {te : TE} {m : List (Option Nat)} {Nc : List Str}
end
section
variable {X : Cx}
end
end L2
end
section
namespace L2
open PySem PySem.Spec PyProof.Rows
section
variable {prog : Program} {w : World} {A : Around} {E : Value → Shared → Prop}
end
section
variable {X : Cx}
end
end L2
end
section
namespace L2
open PySem PySem.Spec PyProof.Rows
theorem ent_unchain : entryFor table "proto.unchain" = some Builtin.«proto.unchain» := entryFor_of_fast (by kernel_rfl)
noncomputable def Hnd (h : Heap) (x : Addr) : Prop := ∃ o vs, h.get? x = some o ∧ o.data = .fields vs ∧ vs[2]? = some .none
section
variable {prog : Program} {w : World} {A : Around} {E : Value → Shared → Prop} {s : Shared}
theorem raiseNew_in {α : Type} {e x : Addr} {oe : Obj} {es : Array Value} {Q : α → Shared → Prop} (hh : A.handled = some (.ref x)) (ne : x ≠ e) (hx : Hnd s.heap x) (he : s.heap.get? e = some oe) (hd : oe.data = .fields es) (hz : 2 < es.size)
   (h : E (.ref e) { s with heap := s.heap.update e (Obj.mapFields (·.setIfInBounds 2 (.ref x))) }) : wpAny (model prog w) A (raiseNew (.ref e) : Sem α) Q E s := by
 obtain ⟨ox, vs, hox, hdx, h2⟩ := hx
 unfold raiseNew
 refine wpAny_bind (wpAny_handled ?_)
 rw [hh]
 have hne : (Value.ref x != Value.ref e) = true := by simp [ne]
 dsimp only
 rw [if_pos hne]
 refine wpAny_bind (wpAny_holding (wpAny_runValue (codeAny_builtin ent_unchain ?_)))
 show wpAny _ _ (bind (field (.ref x) 2) _) _ _ _
 refine wpAny_bind (wpAny_field hox hdx h2 ?_)
 rw [if_pos (by rfl)]
 refine wpAny_pure ?_
 obtain ⟨c, d, dt, sl⟩ := oe
 simp only at hd
 subst hd
 simp only [updateField]
 refine wpAny_bind (wpAny_bind (wpAny_load he ?_))
 dsimp only
 rw [if_pos hz]
 exact wpAny_update he (wpAny_throw h)
structure NoteX (fs R : List Addr) (h h' : Heap) : Prop where
 keep : ∀ b o, h.get? b = some o → b ∉ fs → b ∉ R → h'.get? b = some o
 slot : ∀ b o, h.get? b = some o → b ∉ R → ∃ sl, h'.get? b = some { o with slots := sl }
 size : h.objs.size ≤ h'.objs.size
noncomputable def ExcX (h : Heap) (x C T : Addr) : Prop := ∃ vs oT ts, h.get? x = some { cls := .ref C, data := .fields vs } ∧ vs.size = 6 ∧ vs[1]? = some (.ref T) ∧ vs[2]? = some .none ∧ T ≠ x ∧ h.get? T = some oT ∧ oT.data = .fields ts ∧ ts[3]? = some .none
theorem entry_go {env : Env} {outer : List Env} {L x C : Addr} {base : Heap} {vs : Array Value} {head : Value} {had : Bool} {Q : Unit → Shared → Prop} (hfr : A.frames = some (env :: outer)) (hl : s.heap.FunFrames base (env :: outer)) (hf : env.frame = some L)
   (hx : s.heap.get? x = some { cls := .ref C, data := .fields vs }) (v6 : vs.size = 6) (v2 : vs[2]? = some .none)
   (h : ∀ h' T, NoteX (frs (env :: outer)) [x] s.heap h' → ExcX h' x C T → s.heap.objs.size ≤ T → Q () { s with heap := h' }) :
   wpAny (model prog w) A (do let a ← frameOf env; let pl ← entryPlaceOf L had; let b ← EntryCells.newEntry head a .none (rawInt L) .none pl; setField (.ref x) 1 b) (fun _ s' => wpAny (model prog w) A (setFlight (.ref x) none) Q E s') E s := by
 have xf : x ∉ frs (env :: outer) := fun hm => by
   obtain ⟨_, o, ho, hn⟩ := hl.mem hm
   rw [hx] at ho
   cases ho
   exact hn _ rfl
 refine wpAny_bind (wpAny_frameOf_fun hfr hl hf fun h1 so => wpAny_bind (wpAny_entryPlaceOf fun pl hpl => ?_))
 have hx1 := (so.2.1 x xf).trans hx
 unfold EntryCells.newEntry newFields
 refine wpAny_bind (wpAny_newObj_type ?_ (hpl.sizeOk5 _ _ _ _ _))
 generalize hts : ([head, .ref L, .none, rawInt L, .none] ++ (if pl.isEmpty then List.replicate 6 Value.none else pl)).toArray = ts
 have ts3 : 3 < ts.size := by
   rw [← hts]
   simp
 have h2x := Heap.get?_push_of_some (h := h1) { cls := .type "traceback", data := .fields ts } hx1
 have h2T : (h1.push { cls := .type "traceback", data := .fields ts }).get? h1.objs.size = some { cls := .type "traceback", data := .fields ts } := Heap.get?_push_size h1 rfl
 have sz2 : (h1.push { cls := .type "traceback", data := .fields ts }).objs.size = h1.objs.size + 1 := Heap.size_push ..
 have nTx : h1.objs.size ≠ x := Nat.ne_of_gt (Heap.lt_size hx1)
 have k2 : ∀ b o, h1.get? b = some o → (h1.push { cls := .type "traceback", data := .fields ts }).get? b = some o := fun b o e => Heap.get?_push_of_some _ e
 generalize h1.push { cls := .type "traceback", data := .fields ts } = h2 at h2x h2T sz2 k2 ⊢
 refine wpAny_setField h2x rfl (by lia) ?_
 have h3x := Heap.get?_update_self (Obj.mapFields (·.setIfInBounds 1 (Value.ref h1.objs.size))) h2x rfl
 have h3o : ∀ b, b ≠ x → (h2.update x (Obj.mapFields (·.setIfInBounds 1 (Value.ref h1.objs.size)))).get? b = h2.get? b := fun b n => Heap.get?_update_other _ _ (Ne.symm n)
 have h3T := (h3o _ nTx).trans h2T
 have sz3 : (h2.update x (Obj.mapFields (·.setIfInBounds 1 (Value.ref h1.objs.size)))).objs.size = h2.objs.size := Heap.size_update ..
 generalize h2.update x (Obj.mapFields (·.setIfInBounds 1 (Value.ref h1.objs.size))) = h3 at h3x h3o h3T sz3 ⊢
 have w1 : (vs.setIfInBounds 1 (Value.ref h1.objs.size))[1]? = some (.ref h1.objs.size) := by simp [v6]
 have w2 : (vs.setIfInBounds 1 (Value.ref h1.objs.size))[2]? = some .none := by rw [Array.getElem?_setIfInBounds_ne (by decide)]; exact v2
 unfold setFlight
 refine wpAny_bind (wpAny_field (x := .ref h1.objs.size) h3x rfl w1 ?_)
 rw [if_pos (show (Value.ref h1.objs.size != Value.none) = true by rfl)]
 refine wpAny_setField h3T rfl ts3 ?_
 have h4T := Heap.get?_update_self (Obj.mapFields (·.setIfInBounds 3 Value.none)) h3T rfl
 have h4o : ∀ b, b ≠ h1.objs.size → (h3.update h1.objs.size (Obj.mapFields (·.setIfInBounds 3 Value.none))).get? b = h3.get? b := fun b n => Heap.get?_update_other _ _ (Ne.symm n)
 have sz4 : (h3.update h1.objs.size (Obj.mapFields (·.setIfInBounds 3 Value.none))).objs.size = h3.objs.size := Heap.size_update ..
 have sz1 := so.1
 refine h (h3.update h1.objs.size (Obj.mapFields (·.setIfInBounds 3 Value.none))) h1.objs.size ⟨fun b o hb n1 n2 => ?_, fun b o hb n2 => ?_, by lia⟩ ⟨_, _, _, (h4o x (Ne.symm nTx)).trans h3x, by simp [v6], w1, w2, nTx, h4T, rfl, ?_⟩ (by lia)
 · have hb1 := (so.2.1 b n1).trans hb
   have nx : b ≠ x := fun z => n2 (by rw [z]; exact List.mem_singleton.mpr rfl)
   rw [h4o b (Nat.ne_of_lt (Heap.lt_size hb1)), h3o b nx]
   exact k2 b o hb1
 · obtain ⟨sl, hb1⟩ := so.2.2 b o hb
   have nx : b ≠ x := fun z => n2 (by rw [z]; exact List.mem_singleton.mpr rfl)
   refine ⟨sl, ?_⟩
   rw [h4o b (Nat.ne_of_lt (Heap.lt_size hb1)), h3o b nx]
   exact k2 b _ hb1
 · simp [ts3]
theorem leave_one {env : Env} {outer : List Env} {L x C t : Addr} {base : Heap} {Q : Unit → Shared → Prop} (hfr : A.frames = some (env :: outer)) (hl : s.heap.FunFrames base (env :: outer)) (hf : env.frame = some L)
   (hx : s.heap.get? x = some { cls := .ref C, data := .fields #[.ref t, .none, .none, .none, .bool false, .none] })
   (h : ∀ h' T, NoteX (frs (env :: outer)) [x] s.heap h' → ExcX h' x C T → s.heap.objs.size ≤ T → Q () { s with heap := h' }) : wpAny (model prog w) A (leaving env (.ref x)) Q E s := by
 unfold leaving noteFrame
 simp only [hf]
 refine wpAny_bind (wpAny_bind (wpAny_field (x := Value.none) hx rfl rfl ?_))
 rw [if_neg (by decide)]
 exact entry_go hfr hl hf hx rfl rfl h
theorem note_two {env : Env} {outer : List Env} {L x C T : Addr} {base : Heap} {Q : Unit → Shared → Prop} (hfr : A.frames = some (env :: outer)) (hl : s.heap.FunFrames base (env :: outer)) (hf : env.frame = some L) (hx : ExcX s.heap x C T)
   (h : ∀ h' T', NoteX (frs (env :: outer)) [x, T] s.heap h' → ExcX h' x C T' → s.heap.objs.size ≤ T' → Q () { s with heap := h' }) :
   wpAny (model prog w) A (noteFrame (.ref x) env) (fun _ s' => wpAny (model prog w) A (setFlight (.ref x) none) Q E s') E s := by
 obtain ⟨vs, oT, ts, hx, v6, v1, v2, nTx, hT, hd, t3⟩ := hx
 have t3s : 3 < ts.size := (Array.getElem?_eq_some_iff.mp t3).1
 unfold noteFrame
 simp only [hf]
 refine wpAny_bind (wpAny_field hx rfl v1 ?_)
 rw [if_pos (show (Value.ref T != Value.none) = true by rfl)]
 refine wpAny_bind (wpAny_field hT hd t3 ?_)
 rw [if_neg (show ¬ ((Value.none == rawInt L) = true) by simp [rawInt])]
 refine wpAny_bind (wpAny_setField hT hd t3s ?_)
 have uo : ∀ b, b ≠ T → (s.heap.update T (Obj.mapFields (·.setIfInBounds 3 Value.none))).get? b = s.heap.get? b := fun b n => Heap.get?_update_other _ _ (Ne.symm n)
 have us : (s.heap.update T (Obj.mapFields (·.setIfInBounds 3 Value.none))).objs.size = s.heap.objs.size := Heap.size_update ..
 have nT : ∀ b o, s.heap.get? b = some o → (∀ vs, o.data ≠ .fields vs) → b ≠ T := fun b o hb hn z => by
   rw [z, hT] at hb
   cases hb
   exact hn _ hd
 generalize s.heap.update T (Obj.mapFields (·.setIfInBounds 3 Value.none)) = h1 at uo us ⊢
 refine entry_go (s := { s with heap := h1 }) (C := C) hfr (hl.of_keeps fun b o hb hn => ⟨o, (uo b (nT b o hb hn)).trans hb, rfl⟩) hf ((uo x (Ne.symm nTx)).trans hx) v6 v2 fun h' T' n e z => h h' T' ⟨fun b o hb m1 m2 => ?_, fun b o hb m2 => ?_, by have := n.size; show s.heap.objs.size ≤ _; rw [← us]; exact this⟩ e (by rw [← us]; exact z)
 · have b1 : b ≠ T := fun z => m2 (by rw [z]; simp)
   have b2 : b ≠ x := fun z => m2 (by rw [z]; simp)
   exact n.keep b o ((uo b b1).trans hb) m1 (by simpa using b2)
 · have b1 : b ≠ T := fun z => m2 (by rw [z]; simp)
   have b2 : b ≠ x := fun z => m2 (by rw [z]; simp)
   exact n.slot b o ((uo b b1).trans hb) (by simpa using b2)
end
end L2
namespace L2
open PySem PySem.Spec PyProof.Rows
noncomputable abbrev bmVE : List Value := [.type "ValueError", .type "Exception", .type "BaseException", .type "object"]
noncomputable def ExcK (K : W.Frag) (C : Addr) : Prop := ∃ (nm q : Str) (N : Addr) (bs bm : List Value) (hdct : Bool) (sn : List Str) (sub : List Value) (ab : Bool) (col : Option Bool) (dd : Option Addr) (k0 k1 k2 k3 k5 : Option Value) (mN : Str → Option Value),
 mN "__init__" = none ∧ bm.contains (.type "BaseException") = true ∧ ∀ h : Heap, K.In h → h.get? C = some (excClassObj nm q C N bs bm hdct sn sub ab col dd k0 k1 k2 k3 k5 "ValueError.__new__") ∧ h.Ns N mN ∧ OwnTail h bmVE bm
section
variable {X : Cx} {x : Str} {C : Addr} {W : Hp → Prop} {e : Expr} {t : TA} {np cpos pos : Pos}
theorem ps_raiseX (hc : X.calm = true) (ek : ExcK X.K C) (hg : Gl X x) (hm : X.mg x = some (.ref C)) (ha : PA X [e] t)
   (hx : ∀ pins σ H s h' a us, Inv X pins σ H s → Heap.MadeExcOf s.heap h' a (.ref C) us → W H → X.xe (.ref a) { s with heap := h' })
   (hd : (x == ("__debug__" : Str)) = false := by decide) (he : starEach [e] X.env = (false, eval e X.env) :: starEach [] X.env := by rfl) (hpl : (backTo cpos (starEach [e] X.env)).any (·.1) = false := by rfl) :
   PS X (.Raise (some (.Call (.Name x np) [e] [] cpos)) none pos) (fun _ σ H => t σ H fun vs H1 => vs.length ≤ sizeLine ∧ W H1) := by
 intro pins s σ H D I h
 obtain ⟨nm, q, N, bs, bm, hdct, sn, sub, ab, col, dd, k0, k1, k2, k3, k5, mN, hni, hb, hK⟩ := ek
 refine wpAny_Raise_call_subU (C := C) (N := N) (bs := bs) (bm := bm) (hdct := hdct) (sn := sn) (sub := sub) (ab := ab) (col := col) (dd := dd) (k0 := k0) (k1 := k1) (k2 := k2) (k3 := k3) (k5 := k5) (nm := nm) (q := q) PySem.F.excBase_ValueError (by decide) PySem.F.excBase_ValueError hb (I.ok.hd hc) hpl hni (ld_glob I hg hm ⟨rfl, ?_⟩ hd)
 obtain ⟨y, r, hy⟩ : ∃ y r, backTo cpos (starEach [e] X.env) = (false, y) :: r := by
   rw [he]
   exact ⟨_, _, rfl⟩
 have h2 := ha cpos pins s σ H _ I h
 rw [hy] at h2 ⊢
 refine Calls.evalArgs_plain (thn h2 fun us s1 ⟨vs, H1, I1, r1, z, w1⟩ => ?_)
 obtain ⟨c1, c2, c3⟩ := hK s1.heap I1.kIn
 exact ⟨rfl, by rw [← r1.length]; exact z, c1, c2, c3, fun h' a m => hx pins σ H1 s1 h' a us I1 m w1⟩
end
end L2
namespace L2
open PySem PySem.Spec PyProof.Rows
theorem HOk.note {P : Program} {w : World} {H : Hp} {h h' : Heap} {fs R : List Addr} (x : HOk P w H h) (n : NoteX fs R h h') (hf : ∀ b ∈ fs, H b = none) (hR : ∀ b ∈ R, H b = none) : HOk P w H h' := fun a o e =>
 (x a o e).stay (fun b u hb q => n.keep b u q (fun z => by
     have := hf b z
     rcases hb with rfl | hb
     · rw [e] at this; cases this
     · rw [hb] at this; cases this) (fun z => by
     have := hR b z
     rcases hb with rfl | hb
     · rw [e] at this; cases this
     · rw [hb] at this; cases this)) (fun _ q => q) fun _ _ q => q
theorem ObjOk.is {P : Program} {w : World} {H : Hp} {h : Heap} {a : Addr} {o : HO} (x : ObjOk P w H h a o) : ∃ u, h.get? a = some u := by
 cases o with
 | lst xs => obtain ⟨_, _, _, _, e⟩ := x; exact ⟨_, e⟩
 | tup xs => obtain ⟨_, _, _, _, e⟩ := x; exact ⟨_, e⟩
 | dK kvs => obtain ⟨_, _, _, _, o, _, _, e, _⟩ := x; exact ⟨_, e⟩
 | dT kvs => obtain ⟨_, _, _, _, o, _, _, e, _⟩ := x; exact ⟨_, e⟩
 | set S n => obtain ⟨o, _, _, _, e, _⟩ := x; exact ⟨_, e⟩
 | ins C dx fs => obtain ⟨_, _, _, e, _⟩ := x; exact ⟨_, e⟩
 | own y => exact x
 | xd fs => obtain ⟨_, ⟨_, _, _, e, _⟩, _⟩ := x; exact ⟨_, e⟩
 | rng lo hi => obtain ⟨_, _, _, e⟩ := x; exact ⟨_, e⟩
 | frz ob u => obtain ⟨e, _⟩ := x; exact ⟨_, e⟩
 | tbl ps => exact ⟨_, x⟩
 | met f y => exact ⟨_, x⟩
 | ext φ => obtain ⟨_, q, _⟩ := x; exact q
noncomputable def CXX (P : Program) (w : World) (C : Addr) : CXT := fun outer H s E e s' => ∃ x T H', e = .ref x ∧ s'.os = s.os ∧ AllBare s'.gens ∧ Un (frs outer) [] H H' s.heap s'.heap ∧ HOk P w H' s'.heap ∧ s.heap.get? x = none ∧ s.heap.objs.size ≤ T ∧ H' x = none ∧ H' T = none ∧ ExcX s'.heap x C T ∧ E e (some x) H'
theorem xe_cx {P : Program} {w : World} {K : W.Frag} {mg : Str → Option Value} {base : Heap} {N : List Str} {qual : Str} {sc : Scope} {f : Addr} {cdv : Value} {A : Around} {outer : List Env} {s : Shared} {H : Hp} {E : XK} {C : Addr}
   {pins : List (Addr × Obj)} {σ : St} {H1 : Hp} {s1 : Shared} {h' : Heap} {a : Addr} {us : List Value} (I : Inv (cxOf (CXX P w C) P w K mg base N qual sc f cdv A outer s H E) pins σ H1 s1) (m : Heap.MadeExcOf s1.heap h' a (.ref C) us) (w1 : ∀ a, E (.ref a) (some a) H1) :
   (cxOf (CXX P w C) P w K mg base N qual sc f cdv A outer s H E).xe (.ref a) { s1 with heap := h' } := by
 obtain ⟨t, ha, ht, _⟩ := m.there
 have fr := I.ok.frames
 have st : s1.heap.FunFrames base (PyProof.Rows.envOfC qual sc s.heap.objs.size f cdv :: outer) := I.stack
 have an := m.new
 have sz : s.heap.objs.size ≤ s1.heap.objs.size := I.sz
 have aH : H1 a = none := by
   cases q : H1 a with
   | none => rfl
   | some o =>
     obtain ⟨u, hu⟩ := (I.hok a o q).is
     rw [an] at hu
     cases hu
 have hs : s.heap.objs.size < h'.objs.size := by
   obtain ⟨mm, ⟨o, es, ep, hL, _⟩, _⟩ := I.loc
   exact Heap.lt_size (m.keeps _ _ hL)
 refine leave_one (s := { s1 with heap := h' }) (base := base) fr (st.of_keeps fun b o hb _ => ⟨o, m.keeps b o hb, rfl⟩) rfl ha fun h2 T n e z => ?_
 have z : h'.objs.size ≤ T := z
 have un : Un (frs outer) [] H H1 s.heap s1.heap := I.base
 have nl : ∀ b o, s.heap.get? b = some o → b ∉ frs outer → b ∉ frs (PyProof.Rows.envOfC qual sc s.heap.objs.size f cdv :: outer) := fun b o hb n1 hm => by
   rcases List.mem_cons.mp (show b ∈ s.heap.objs.size :: frs outer from hm) with q | q
   · exact absurd (Heap.lt_size hb) (by rw [q]; exact Nat.lt_irrefl _)
   · exact n1 q
 have na : ∀ b o, s.heap.get? b = some o → b ∉ [a] := fun b o hb hm => by
   obtain ⟨o', q⟩ := un.there b o hb (by simp)
   rw [List.mem_singleton.mp hm, an] at q
   cases q
 refine ⟨a, T, H1, rfl, I.os, I.bare, ⟨fun b o hb n1 n2 n3 => ?_, fun b o hb n1 n2 n3 => ?_, un.free, fun b o hb n3 => ?_, un.tups, un.frzs, un.tbls⟩, ?_, ?_, by lia, aH, (I.hok.kept m.keeps).fresh z, e, w1 a⟩
 · exact n.keep b o (m.keeps _ _ (un.keep b o hb n1 n2 n3)) (nl b o hb n2) (na b o hb)
 · obtain ⟨sl, q⟩ := un.slot b o hb n1 n2 n3
   obtain ⟨sl2, q2⟩ := n.slot b _ (m.keeps _ _ q) (na b o hb)
   exact ⟨sl2, q2⟩
 · obtain ⟨o', q⟩ := un.there b o hb n3
   obtain ⟨sl2, q2⟩ := n.slot b _ (m.keeps _ _ q) (na b o hb)
   exact ⟨_, q2⟩
 · refine (I.hok.kept m.keeps).note n (fun b hb => I.stkFree b hb) fun b hb => ?_
   rw [List.mem_singleton.mp hb]
   exact aH
 · cases q : s.heap.get? a with
   | none => rfl
   | some o => exact absurd (List.mem_singleton.mpr rfl) (na a o q)
end L2
namespace L2
open PySem PySem.Spec PyProof.Rows
section
variable {M : Model} {A : Around} {E : Value → Shared → Prop} {h : Heap} {g : Array GenState} {d : Drawn} {tk : Nat} {os : OsState}
theorem match_up {nm q nm' q' : Str} {C N B N' x : Addr} {bs bm bs' bm' : List Value} {hdct hdct' : Bool} {sn sn' : List Str} {sub sub' : List Value} {ab ab' : Bool} {col col' : Option Bool} {dd dd' : Option Addr} {k0 k1 k2 k3 k5 j0 j1 j2 j3 j5 : Option Value} {ni ni' : String} {ox : Obj} {Q : Bool → Shared → Prop}
   (hC : h.get? C = some (excClassObj nm q C N bs bm hdct sn sub ab col dd k0 k1 k2 k3 k5 ni)) (hB : h.get? B = some (excClassObj nm' q' B N' bs' bm' hdct' sn' sub' ab' col' dd' j0 j1 j2 j3 j5 ni')) (hx : h.get? x = some ox) (hc : ox.cls = .ref C)
   (hb : bm'.contains (.type "BaseException") = true) (hin : bm.contains (.ref B) = true) (z : Q true ⟨h, g, d, tk, os⟩) : wpAny M A (excMatches (.ref x) (.ref B)) Q E ⟨h, g, d, tk, os⟩ := by
 have b1 : (Value.ref B :: bm').contains (.type "BaseException") = true := by rw [List.contains_cons, hb, Bool.or_true]
 have b2 : (Value.ref C :: bm).contains (.ref B) = true := by rw [List.contains_cons, hin, Bool.or_true]
 have f0 := tc_notTuple
 unfold excMatches
 repeat (first | (with_reducible refine wpAny_loadPart_at hx ?_; rw [hc]) | with_reducible refine wpAny_loadPart_at hB ?_ | (with_reducible refine wpAny_isSubtype_exc hB ?_; rw [b1]) | (with_reducible refine wpAny_isSubtype_exc hC ?_; rw [b2]) | wp_step)
 exact z
end
end L2
namespace L2
open PySem PySem.Spec PyProof.Rows
structure ExcIs (K : W.Frag) (C : Addr) : Prop where
 ga : PySem.W.findIn K (.ref C) "__getattribute__" = some (some (.builtin "BaseException.__getattribute__"))
 gr : PySem.W.findIn K (.ref C) "__getattr__" = some none
 hc : (PySem.W.clsIn K C).isSome = true
 ha : PySem.W.findIn K (.ref C) "__class__" = some (some (.builtin "object.__class__"))
 hn : PySem.W.specialIn K (.builtin "object.__class__") "__get__" = some (some (.builtin "getset_descriptor.__get__"))
 tk : PySem.W.takesIn K (.builtin "object.__class__") = some true
 hm : PySem.W.mroIn K C (.type "object") = some true
 hb : PySem.W.mroIn K C (.type "BaseException") = some true
noncomputable def excP (x C : Addr) : Heap → Prop := fun h => ∃ vs, h.get? x = some { cls := .ref C, data := .fields vs } ∧ vs[2]? = some .none
theorem excP.inst {x C : Addr} {h : Heap} (p : excP x C h) : ∃ ox, PySem.W.InstAt h x ox C none := by
 obtain ⟨vs, e, _⟩ := p
 exact ⟨_, e, rfl, rfl, True.intro⟩
theorem exc_class {K : W.Frag} {x C : Addr} {ox : Obj} {prog : Program} {w : World} {A : Around} {E : Value → Shared → Prop} {Q : Option Value → Shared → Prop} {s : Shared} (c : ExcIs K C) (X : K.In s.heap) (I : PySem.W.InstAt s.heap x ox C none) (k : Q (some (.ref C)) { s with toks := s.toks + 1 }) : wpAny (model prog w) A (getAttr? (.ref x) "__class__") Q E s := by
 have hf : PySem.W.findObj K C none "__class__" = some (.bind (.builtin "getset_descriptor.__get__") (.builtin "object.__class__")) := by
   obtain ⟨cd, hcd⟩ := Option.isSome_iff_exists.mp c.hc
   unfold PySem.W.findObj
   rw [hcd, Option.bind_some, c.ha, Option.bind_some]
   simp [c.hn, c.tk]
 obtain ⟨hh, g, d, t, os⟩ := s
 have L0 := I.type (M := model prog w)
 have L1 := PySem.W.looks_findIn (M := model prog w) X c.ga
 have L2 := PySem.W.looks_findIn (M := model prog w) X c.gr
 have L3 := PySem.W.looks_find (M := model prog w) X I hf
 have L4 : PySem.W.Looks (model prog w) hh (isInstance (.ref x) (.type "BaseException")) true := L0.andThen (PySem.W.looks_mroIn (M := model prog w) X c.hb)
 have e1 : (onTheHeap (.ref C) && (Value.builtin "BaseException.__getattribute__" == .builtin "object.__getattribute__")) = false := by
   have z : (Value.builtin "BaseException.__getattribute__" == .builtin "object.__getattribute__") = false := by decide +kernel
   rw [z, Bool.and_false]
 unfold getAttr? getAttrBy? getAttrBy
 refine wpAny_bind (wpAny_mkText (wpAny_bind (wpAny_attempt (wpAny_holding (wpAny_bind (L0.at (wpAny_bind (L1.at ?_))))))))
 dsimp only
 rw [e1, if_neg (by decide)]
 unfold getAttrByItsOwn hookBefore
 rw [if_pos (by rfl)]
 refine wpAny_bind (L2.at (wpAny_bind (wpAny_attempt (wpAny_holding ?_))))
 unfold callGetattribute boundAndCalled
 rw [if_neg (by decide), PySem.F.attr_ValueError.ga.bind]
 refine wpAny_bind (wpAny_pure (wpAny_call (codeAny_call_builtin PySem.F.attr_ValueError.ga.plain PySem.F.entry_bexc_ga ?_)))
 have hk : builtinKind "BaseException.__getattribute__" = some .slot ∧ splitId "BaseException.__getattribute__" = some ("BaseException", "__getattribute__") := by decide +kernel
 have ha := PySem.F.args_bexc_ga (.ref x) (.str "__class__" t)
 simp only [checkBuiltinCall, hk.1, hk.2]
 refine wpAny_bind (L4.at ?_)
 rw [if_neg (by decide)]
 refine wpAny_of_eq (a := ()) ha (wpAny_bind (wpAny_pure (wpAny_bind (wpAny_pure (wpAny_bind (L0.at (wpAny_bind (L3.at ?_))))))))
 refine (show wpAny _ _ (holding [.builtin "object.__class__"] (call (.builtin "getset_descriptor.__get__") [.builtin "object.__class__", .ref x, .ref C]) >>= ret) _ _ _ from wpAny_bind (wpAny_holding (wpAny_call ?_)))
 exact PySem.W.class_get (s := ⟨hh, g, d, t + 1, os⟩) (ox := ox) (od := none) X I c.hm (wpAny_pure (PySem.W.handed_on rfl (wpAny_pure k)))
theorem kitx_exc {K : W.Frag} {x C : Addr} (c : ExcIs K C) : PySem.W.KitX K (.ref x) (.ref C) (excP x C) where
 ty := fun _ _ _ p => by
   obtain ⟨ox, I⟩ := p.inst
   exact I.type
 it := fun _ _ X _ => by
   obtain ⟨cd, hcd⟩ := Option.isSome_iff_exists.mp c.hc
   unfold PySem.W.clsIn at hcd
   split at hcd
   · rename_i c' d' cd' sl' ho
     intro A' Q' E' s' k q
     unfold isType loadHead
     exact wpAny_bind (wpAny_loadPart (k _ _ (X _ _ ho)) (wpAny_pure q))
   · cases hcd
 ne := fun h tp dd its n sl X htp => by
   obtain ⟨cd, hcd⟩ := Option.isSome_iff_exists.mp c.hc
   refine Bool.eq_false_iff.mpr fun q => ?_
   have e : C = tp := Value.ref.inj (beq_iff_eq.mp q)
   subst e
   unfold PySem.W.clsIn at hcd
   split at hcd
   · rename_i c' d' cd' sl' ho
     have z := (X _ _ ho).symm.trans htp
     cases z
   · cases hcd
 ca := fun {prog w A E Q s} X p k => by
   obtain ⟨ox, I⟩ := p.inst
   exact exc_class c X I k
theorem jQ {X : Cx} {C : Addr} (ci : ExcIs X.K C) : yD X (.builtin "isinstance") (fun xs H Q => ∃ x c u b, xs = [.ref x, c] ∧ H x = some (.ext (excP x C)) ∧ (∀ v, RelV c v → v = u) ∧ PySem.W.kitOne X.K (.ref C) u = some b ∧ Q (.bl b) H) := by
 intro pins s σ H xs us Q I r h
 obtain ⟨x, c, u, b, rfl, hx, hu, e, q⟩ := h
 obtain ⟨v, y, rfl, rv, ry⟩ := r.two
 cases (show v = Value.ref x from rv)
 cases hu y ry
 obtain ⟨p, _, _⟩ := (show ObjOk X.prog X.w H s.heap x (.ext (excP x C)) from I.hok x _ hx)
 exact PySem.W.kia_one (kitx_exc ci) I.kIn p e (fun z => nomatch z) fun tk => ⟨.bl b, H, I.tok tk, rfl, q⟩
end L2
namespace L2
open PySem PySem.Spec PyProof.Rows
section
variable {X : Cx} {pins : List (Addr × Obj)} {σ : List (Option V)} {H H' : Hp} {s : Shared} {h' : Heap}
theorem Inv.stepX {g' : Array GenState} {t' : Nat} {d' : Drawn} {ch : List Addr} (I : Inv X pins σ H s)
   (hch : ∀ b ∈ ch, X.s₀.heap.get? b = none ∧ b ≠ X.env.locals ∧ (∀ x c, X.env.cells.lookup x = some c → c ≠ b) ∧ ∀ p ∈ X.pn ++ pins, p.1 ≠ b)
   (keep : ∀ b o, b ≠ X.env.locals → b ∉ X.fs → b ∉ ch → s.heap.get? b = some o → H b = none → h'.get? b = some o)
   (slot : ∀ b o, b ≠ X.env.locals → b ∈ X.fs → b ∉ ch → s.heap.get? b = some o → H b = none → ∃ sl, h'.get? b = some { o with slots := sl }) (free : ∀ b o, b ∉ ch → s.heap.get? b = some o → H b = none → H' b = none)
   (there : ∀ b o, b ∉ ch → s.heap.get? b = some o → ∃ o', h'.get? b = some o')
   (tups : ∀ b xs, H b = some (.tup xs) → H' b = some (.tup xs)) (frzs : ∀ b o u, H b = some (.frz o u) → H' b = some (.frz o u)) (tbls : ∀ b ps, H b = some (.tbl ps) → ∃ more, H' b = some (.tbl (ps ++ more)))
   (ns : ∀ m, s.heap.Ns X.env.locals m → h'.Ns X.env.locals m) (hok : HOk X.prog X.w H' h') (hg : AllBare g') :
   Inv X pins σ H' { s with heap := h', gens := g', drawn := d', toks := t' } := by
 have neL : ∀ b o, X.s₀.heap.get? b = some o → b ≠ X.env.locals := fun b o e => Nat.ne_of_lt (Nat.lt_of_lt_of_le (Heap.lt_size e) I.ok.above)
 have neC : ∀ b o, X.s₀.heap.get? b = some o → b ∉ X.ex → b ∉ ch := fun b o e hx hb => by
   have z := (hch b hb).1
   rw [e] at z
   cases z
 have cellK : ∀ x c, X.env.cells.lookup x = some c → ∀ v, s.heap.IsCell c v → h'.IsCell c v := fun x c e v ⟨o, ho, hd⟩ => by
   have nch : c ∉ ch := fun z => (hch c z).2.2.1 x c e rfl
   by_cases hc : c ∈ X.fs
   · obtain ⟨sl, q⟩ := slot c o (I.cne x c e) hc nch ho (I.freeC x c e)
     exact ⟨_, q, hd⟩
   · exact ⟨o, keep c o (I.cne x c e) hc nch ho (I.freeC x c e), hd⟩
 refine ⟨I.ok, I.os, hg, ⟨fun b o e n hb hx => ?_, fun b o e n hb hx => ?_, fun b o e n hx => ?_, fun b o e hx => ?_, fun b xs e => tups b xs (I.base.tups b xs e), fun b o xs e => frzs b o xs (I.base.frzs b o xs e), fun b ps e => ?_⟩, ?_, fun x c e => ?_, ?_, fun x c e => ?_, fun p hp => ?_, hok, I.len⟩
 · exact keep b o (neL b o e) hb (neC b o e hx) (I.base.keep b o e n hb hx) (I.base.free b o e n hx)
 · obtain ⟨sl, e1⟩ := I.base.slot b o e n hb hx
   obtain ⟨sl', e2⟩ := slot b _ (neL b o e) hb (neC b o e hx) e1 (I.base.free b o e n hx)
   exact ⟨sl', e2⟩
 · obtain ⟨o', e1⟩ := I.base.there b o e hx
   exact free b o' (neC b o e hx) e1 (I.base.free b o e n hx)
 · obtain ⟨o', e1⟩ := I.base.there b o e hx
   exact there b o' (neC b o e hx) e1
 · obtain ⟨m1, e1⟩ := I.base.tbls b ps e
   obtain ⟨m2, e2⟩ := tbls b _ e1
   exact ⟨m1 ++ m2, by rw [e2, Array.append_assoc]⟩
 · obtain ⟨m, hn, hl⟩ := I.loc
   refine ⟨m, ns m hn, fun i x v e1 e2 e3 => ?_⟩
   obtain ⟨u, r, l⟩ := hl i x v e1 e2 e3
   refine ⟨u, r, ?_⟩
   rcases l with l | ⟨k, c, e, z⟩
   · exact .inl l
   · exact .inr ⟨k, c, e, cellK x c e _ z⟩
 · obtain ⟨v, z⟩ := I.cell x c e
   exact ⟨v, cellK x c e v z⟩
 · obtain ⟨m, ⟨o, _, _, ho, _⟩, _⟩ := I.loc
   exact free _ o (fun z => (hch _ z).2.1 rfl) ho I.free
 · obtain ⟨v, o, ho, hd⟩ := I.cell x c e
   exact free c o (fun z => (hch c z).2.2.1 x c e rfl) ho (I.freeC x c e)
 · obtain ⟨e, n, ne, nf, d⟩ := I.pin p hp
   have nch : p.1 ∉ ch := fun z => (hch p.1 z).2.2.2 p hp rfl
   exact ⟨keep p.1 p.2 ne nf nch e n, free p.1 p.2 nch e n, ne, nf, d⟩
theorem Inv.callX {g' : Array GenState} {t' : Nat} {d' : Drawn} {ch : List Addr} (I : Inv X pins σ H s) (u : Un (frs X.stack) ch H H' s.heap h') (hok : HOk X.prog X.w H' h') (hg : AllBare g')
   (hch : ∀ b ∈ ch, X.s₀.heap.get? b = none ∧ b ≠ X.env.locals ∧ (∀ x c, X.env.cells.lookup x = some c → c ≠ b) ∧ ∀ p ∈ X.pn ++ pins, p.1 ≠ b) :
   Inv X pins σ H' { s with heap := h', gens := g', drawn := d', toks := t' } := by
 obtain ⟨m, ⟨o, es, ep, ho, r⟩, _⟩ := id I.loc
 obtain ⟨sl, hL⟩ := u.any ho I.free fun z => (hch _ z).2.1 rfl
 exact I.stepX (ch := ch) hch (fun b o hL hb hc e n => u.keep b o e n (fun z => (List.mem_cons.mp (I.stkSub b z)).elim hL hb) hc) (fun b o _ _ hc e n => u.any e n hc) (fun b o hc e n => u.free b o e n hc) (fun b o hc e => u.there b o e hc) u.tups u.frzs u.tbls (fun m' hm => by
   obtain ⟨o', es', ep', ho', r'⟩ := hm
   rw [ho] at ho'; cases ho'
   exact ⟨_, es', ep', hL, r'⟩) hok hg
end
end L2
namespace L2
open PySem PySem.Spec PyProof.Rows
theorem excP.of {h : Heap} {x C T : Addr} (e : ExcX h x C T) : excP x C h := by
 obtain ⟨vs, _, _, h1, _, _, h2, _⟩ := e
 exact ⟨vs, h1, h2⟩
theorem excP.stay {x C : Addr} (h1 h2 : Heap) (p : excP x C h1) (k : ∀ o, h1.get? x = some o → h2.get? x = some o) : excP x C h2 := by
 obtain ⟨vs, e, c⟩ := p
 exact ⟨vs, k _ e, c⟩
section
variable {X : Cx} {pins : List (Addr × Obj)} {σ : St} {H H' : Hp} {s : Shared} {h2 : Heap} {x C T T' : Addr}
theorem Inv.apart (I : Inv X pins σ H s) (hex : X.ex = []) {b : Addr} (hb : s.heap.get? b = none) : X.s₀.heap.get? b = none ∧ b ≠ X.env.locals ∧ (∀ y c, X.env.cells.lookup y = some c → c ≠ b) ∧ ∀ p ∈ X.pn ++ pins, p.1 ≠ b := by
 refine ⟨?_, fun z => ?_, fun y c e z => ?_, fun p hp z => ?_⟩
 · cases q : X.s₀.heap.get? b with
   | none => rfl
   | some o =>
     obtain ⟨o', e⟩ := I.base.there b o q (by rw [hex]; simp)
     rw [hb] at e
     cases e
 · obtain ⟨m, ⟨o, es, ep, hL, _⟩, _⟩ := I.loc
   rw [← z, hb] at hL
   cases hL
 · obtain ⟨v, o, ho, _⟩ := I.cell y c e
   rw [z, hb] at ho
   cases ho
 · have := (I.pin p hp).1
   rw [z, hb] at this
   cases this
theorem Inv.held (I : Inv X pins σ H' s) (n : NoteX (frs X.stack) [x, T] s.heap h2) (e : ExcX h2 x C T') (hx : H' x = none) (hT : H' T = none)
   (ax : X.s₀.heap.get? x = none ∧ x ≠ X.env.locals ∧ (∀ y c, X.env.cells.lookup y = some c → c ≠ x) ∧ ∀ p ∈ X.pn ++ pins, p.1 ≠ x)
   (aT : X.s₀.heap.get? T = none ∧ T ≠ X.env.locals ∧ (∀ y c, X.env.cells.lookup y = some c → c ≠ T) ∧ ∀ p ∈ X.pn ++ pins, p.1 ≠ T) :
   Inv X pins σ (upd H' x (.ext (excP x C))) { s with heap := h2 } := by
 have nx : ∀ {b : Addr} {o : HO}, H' b = some o → b ≠ x := fun {b o} q z => by
   rw [z, hx] at q
   cases q
 refine I.callX (g' := s.gens) (d' := s.drawn) (t' := s.toks) (ch := [x, T]) ⟨fun b o q z n1 n2 => n.keep b o q n1 n2, fun b o q z n1 n2 => n.slot b o q n2, fun b o q z n2 => ?_, fun b o q n2 => ?_, fun b xs q => by rw [jA (nx q)]; exact q, fun b o u q => by rw [jA (nx q)]; exact q, fun b ps q => ⟨#[], by rw [jA (nx q), q]; simp⟩⟩ (fun a o q => ?_) I.bare (fun b hb => ?_)
 · rw [jA (fun z => n2 (by rw [z]; simp))]
   exact z
 · obtain ⟨sl, w⟩ := n.slot b o q n2
   exact ⟨_, w⟩
 · by_cases ha : a = x
   · subst ha
     rw [j7] at q
     cases q
     obtain ⟨vs, _, _, w, _⟩ := id e
     exact ⟨.of e, ⟨_, w⟩, excP.stay⟩
   · rw [jA ha] at q
     have hk := I.hok.note n I.stkFree fun b hb => by
       rcases List.mem_cons.mp hb with z | z
       · rw [z]; exact hx
       · rw [List.mem_singleton.mp z]; exact hT
     exact (hk a o q).stay (fun _ _ _ w => w) (fun b w => by rw [jA (nx w)]; exact w) fun b xs w => by rw [jA (nx w)]; exact w
 · rcases List.mem_cons.mp hb with z | z
   · rw [z]; exact ax
   · rw [List.mem_singleton.mp z]; exact aT
end
end L2
end
section
namespace L2
open PySem PySem.Spec PyProof.Rows
noncomputable def suiteCx (X : Cx) (x : Addr) : Cx := { X with A := X.A.mark (some (.ref x)), calm := false, xe := fun _ _ => False }
section
variable {X : Cx} {pins : List (Addr × Obj)} {σ : St} {H : Hp} {s : Shared} {x : Addr}
theorem Cx.Ok.suite (ok : X.Ok) (x : Addr) : (suiteCx X x).Ok :=
 ⟨ok.mod, ok.kind, ok.glob, ok.blt, ok.above, ok.inj, ok.has, ok.cab, fun z => (nomatch z), ok.frames, ok.stk, ok.exf, ok.bs, ok.bsz, ok.noex, ok.exfs, ok.funs, ok.frf⟩
theorem Inv.suite (I : Inv X pins σ H s) (x : Addr) : Inv (suiteCx X x) pins σ H s := ⟨I.ok.suite x, I.os, I.bare, I.base, I.loc, I.cell, I.free, I.freeC, I.pin, I.hok, I.len⟩
theorem Inv.unsuite (ok : X.Ok) (I : Inv (suiteCx X x) pins σ H s) : Inv X pins σ H s := ⟨ok, I.os, I.bare, I.base, I.loc, I.cell, I.free, I.freeC, I.pin, I.hok, I.len⟩
end
section
variable {M : Model} {A : Around} {E : Value → Shared → Prop} {s : Shared} {x C T : Addr} {Q : Unit → Shared → Prop}
theorem flight_same (e : ExcX s.heap x C T) (h : ∀ h', (∀ b o, s.heap.get? b = some o → h'.get? b = some o) → Q () { s with heap := h' }) : wpAny M A (setFlight (.ref x) none) Q E s := by
 obtain ⟨vs, oT, ts, hx, v6, v1, v2, nTx, hT, hd, t3⟩ := e
 have t3s : 3 < ts.size := (Array.getElem?_eq_some_iff.mp t3).1
 unfold setFlight
 refine wpAny_bind (wpAny_field (x := .ref T) hx rfl v1 ?_)
 rw [if_pos (show (Value.ref T != Value.none) = true by rfl)]
 refine wpAny_setField hT hd t3s (h _ fun b o hb => ?_)
 by_cases hbT : b = T
 · subst hbT
   rw [hT] at hb
   cases hb
   obtain ⟨c, d, dt, sl⟩ := oT
   simp only at hd
   subst hd
   refine (Heap.get?_update_self (Obj.mapFields (·.setIfInBounds 3 Value.none)) hT rfl).trans ?_
   have e3 : ts.setIfInBounds 3 Value.none = ts := by
     apply Array.ext_getElem?
     intro i
     by_cases hi : i = 3
     · subst hi
       rw [t3]
       simp [t3s]
     · rw [Array.getElem?_setIfInBounds_ne (Ne.symm hi)]
   show some ({ cls := c, dict := d, data := .fields (ts.setIfInBounds 3 Value.none), slots := sl } : Obj) = _
   rw [e3]
 · exact (Heap.get?_update_other _ _ (Ne.symm hbT)).trans hb
end
noncomputable def Above (K : W.Frag) (C B : Addr) : Prop := ∃ (nm q nm' q' : Str) (N N' : Addr) (bs bm bs' bm' : List Value) (hdct hdct' : Bool) (sn sn' : List Str) (sub sub' : List Value) (ab ab' : Bool) (col col' : Option Bool) (dd dd' : Option Addr) (k0 k1 k2 k3 k5 j0 j1 j2 j3 j5 : Option Value) (ni ni' : String),
 bm'.contains (.type "BaseException") = true ∧ bm.contains (.ref B) = true ∧ ∀ h : Heap, K.In h → h.get? C = some (excClassObj nm q C N bs bm hdct sn sub ab col dd k0 k1 k2 k3 k5 ni) ∧ h.get? B = some (excClassObj nm' q' B N' bs' bm' hdct' sn' sub' ab' col' dd' j0 j1 j2 j3 j5 ni')
section
variable {X : Cx} {y n g c : Str} {i j k : Nat} {f B C : Addr} {fd : FuncData} {ps : List Str} {sp : Sp} {e r : Expr} {es : List Expr} {t : TA} {te : Addr → TE} {yp gp cp ap np rp hp tp : Pos}
end
end L2
end
section
namespace L2
open PySem PySem.Spec PyProof.Rows
theorem Hnd.kept {h h' : Heap} {x : Addr} (n : Hnd h x) (k : ∀ b o, h.get? b = some o → h'.get? b = some o) : Hnd h' x := by
 obtain ⟨o, vs, e, d, z⟩ := n
 exact ⟨o, vs, k _ _ e, d, z⟩
theorem excP.hnd {h : Heap} {x C : Addr} (p : excP x C h) : Hnd h x := by
 obtain ⟨vs, e, z⟩ := p
 exact ⟨_, vs, e, rfl, z⟩
section
variable {prog : Program} {w : World} {A : Around} {E : Value → Shared → Prop} {s : Shared}
theorem range_end_in {it x : Addr} {lo left step : Int} {Q : Option Value → Shared → Prop} (hh : A.handled = some (.ref x)) (hx : Hnd s.heap x) (hit : IsRangeIter s.heap it lo left step) (hl : left ≤ 0)
   (hQ : ∀ h', (∀ b o, s.heap.get? b = some o → h'.get? b = some o) → Q none { s with heap := h' }) : wpAny (model prog w) A (pyNext (.ref it)) Q E s := by
 have ty : s.TypeIs (.ref it) "range_iterator" := ⟨_, hit, rfl⟩
 unfold pyNext
 refine wpAny_bind (wpAny_attempt (wpAny_callSpecial?_slot (name := Str.ofString "__next__") ty F.slot_range_iterator_next (wpAny_call_entry F.slot_range_iterator_next ty F.entry_range_iterator_next ?_ (F.args_range_iterator_next_1 _))))
 refine (show wpAny _ _ (field (.ref it) 0 >>= _) _ _ s from wpAny_bind (wpAny_field hit rfl (x := rawInt lo) rfl ?_))
 refine (show wpAny _ _ (field (.ref it) 1 >>= _) _ _ s from wpAny_bind (wpAny_field hit rfl (x := rawInt left) rfl ?_))
 refine (show wpAny _ _ (field (.ref it) 2 >>= _) _ _ s from wpAny_bind (wpAny_field hit rfl (x := rawInt step) rfl ?_))
 refine (show wpAny _ _ (if left ≤ 0 then _ else _) _ _ s from ?_)
 rw [if_pos hl]
 refine wpAny_bind (wpAny_rule (wpAny_bind ?_))
 refine (show wpAny _ _ (newExc (.type "StopIteration") [] >>= _) _ _ _ from wpAny_bind ?_)
 simp only [newExc, newTuple]
 refine wpAny_bind (wpAny_newObj_type (wpAny_bind (m := firstArgMember _ _) (wpAny_of_eq (a := Value.none) (by first | rfl | (simp only [firstArgMember]; rfl)) (wpAny_newObj_type ?_ (by size_fits)))) (by size_fits))
 have xl : x < s.heap.objs.size := by
   obtain ⟨o, _, e, _⟩ := hx
   exact Heap.lt_size e
 refine raiseNew_in hh (Nat.ne_of_lt (Nat.lt_of_lt_of_le xl ?_)) (hx.kept fun b o e => Heap.get?_push_of_some _ (Heap.get?_push_of_some _ e)) (Heap.get?_push_size _ rfl) rfl (by simp only [Array.size_append, List.size_toArray, List.length_cons, List.length_nil]; lia) ?_
 · exact Nat.le_of_lt (by rw [Heap.size_push]; exact Nat.lt_succ_self _)
 · refine wpAny_bind (wpAny_isInstance (T := "StopIteration") (b := true) ⟨_, Heap.get?_update_self _ (Heap.get?_push_size _ rfl) rfl, rfl⟩ isSubtype_stop (wpAny_pure (hQ _ fun b o e => ?_)))
   rw [Heap.get?_update_other _ _ (Ne.symm (Nat.ne_of_lt (Nat.lt_of_lt_of_le (Heap.lt_size e) (Nat.le_of_lt (by rw [Heap.size_push]; exact Nat.lt_succ_self _)))))]
   exact Heap.get?_push_of_some _ (Heap.get?_push_of_some _ e)
end
noncomputable def ItrS (x : Addr) (lo : Int) (n : Nat) : It := ⟨fun i _ => i < n, fun i H y H' => H' = H ∧ y = .int (lo + i), fun i H => n ≤ i ∧ ∃ C, H x = some (.ext (excP x C))⟩
noncomputable def iRngS (x : Addr) (ta : TA) : TI := fun σ H R => ta σ H fun vs H1 => ∃ j : Int, vs = [.int j] ∧ -(2 ^ 62) ≤ j ∧ j < 2 ^ 62 ∧ R (ItrS x 0 j.toNat) H1
structure TurnS (x : Addr) (P : Program) (w : World) (K : W.Frag) (tg : Expr) (J : It) (fp : List Addr) (it : Addr) (tn : Nat → Heap → Prop) : Prop where
 mem : it ∈ fp
 obj : ∀ i h, tn i h → ∀ b ∈ fp, ∃ o, h.get? b = some o ∧ ∀ v, o.data ≠ .cell v
 keep : ∀ i h h', tn i h → (∀ b ∈ fp, ∀ o, h.get? b = some o → h'.get? b = some o) → tn i h'
 item : ∀ (X : Cx), X.prog = P → X.w = w → X.K = K → X.A.handled = some (.ref x) → ∀ (i : Nat) (pins : List (Addr × Obj)) (s : Shared) (σ : St) (H : Hp) (E : Value → Shared → Prop), Inv X pins σ H s → (∀ b ∈ fp, FpOk X pins H b) → tn i s.heap → J.go i H →
   wpAny (model P w) X.A (pyNext (.ref it)) (fun r s1 => ∃ u, r = some u ∧
     wpAny (model P w) X.A (letOwnedTupleGo tg (.ref it) u) (fun _ s2 => ∃ x H', Inv X pins σ H' s2 ∧ RelV x u ∧ J.yld i H x H' ∧ tn (i + 1) s2.heap ∧ ∀ b ∈ fp, H' b = none) E s1) E s
 done : ∀ (X : Cx), X.prog = P → X.w = w → X.K = K → X.A.handled = some (.ref x) → ∀ (i : Nat) (pins : List (Addr × Obj)) (s : Shared) (σ : St) (H : Hp) (E : Value → Shared → Prop), Inv X pins σ H s → (∀ b ∈ fp, FpOk X pins H b) → tn i s.heap → J.stop i H →
   wpAny (model P w) X.A (pyNext (.ref it)) (fun r s1 => r = none ∧ Inv X pins σ H s1) E s
 self : ∀ (A : Around) (i : Nat) (s : Shared) (Q : Value → Shared → Prop) (E : Value → Shared → Prop), tn i s.heap → Q (.ref it) s → wpAny (model P w) A (pyIter (.ref it)) Q E s
noncomputable def PISE (x : Addr) (X : Cx) (pins : List (Addr × Obj)) (σ : St) (tg : Expr) (R : It → Hp → Prop) (itv : Value) (s2 : Shared) : Prop :=
 ∃ (it : Addr) (fp : List Addr) (tn : Nat → Heap → Prop) (J : It) (H' : Hp), itv = .ref it ∧ Inv X pins σ H' s2 ∧ TurnS x X.prog X.w X.K tg J fp it tn ∧ tn 0 s2.heap ∧ (∀ b ∈ fp, FpOk X pins H' b) ∧ R J H'
noncomputable def PIS (x : Addr) (X : Cx) (tg iter : Expr) (wi : TI) : Prop :=
 ∀ (pins : List (Addr × Obj)) (s : Shared) (σ : St) (H : Hp) (R : It → Hp → Prop), Inv X pins σ H s → wi σ H R →
   wpAny (model X.prog X.w) X.A (eval iter X.env) (fun v s1 => wpAny (model X.prog X.w) X.A (pyIter v) (PISE x X pins σ tg R) X.xe s1) X.xe s
theorem turn_rangeS {x : Addr} {P : Program} {w : World} {K : W.Frag} {tg : Expr} (it : Addr) (lo : Int) (n : Nat) : TurnS x P w K tg (ItrS x lo n) [it] it (fun i h => IsRangeIter h it (lo + (i : Nat) * 1) ((n : Int) - (i : Nat)) 1) where
 mem := by simp
 obj := fun i h st b hb => by
   have e : b = it := by simpa using hb
   subst e
   exact ⟨_, st, fun v z => by
     have z' : Data.fields _ = Data.cell v := z
     cases z'⟩
 keep := fun i h h' st k => k it (by simp) _ st
 item := by
   intro X hP hw hK hc i pins s σ H E I hf st hg
   subst hP hw hK
   obtain ⟨f0, f1, f2, f3, f4, f5⟩ := hf it (by simp)
   refine wpAny_pyNext_range_item st (by have : i < n := hg; lia) fun h' st' sb => ?_
   replace st' : IsRangeIter h' it (lo + ((i + 1 : Nat) : Int) * 1) ((n : Int) - ((i + 1 : Nat) : Int)) 1 := by
     have e1 : lo + ((i + 1 : Nat) : Int) * 1 = lo + (i : Int) * 1 + 1 := by lia
     have e2 : (n : Int) - ((i + 1 : Nat) : Int) = (n : Int) - (i : Int) - 1 := by lia
     rw [e1, e2]
     exact st'
   have kk : ∀ b o, b ≠ it → s.heap.get? b = some o → h'.get? b = some o := fun b o hb e => sb.extBut b o hb e
   have I1 : Inv X pins σ H { s with heap := h', toks := s.toks + 1 } := I.turned kk f0 f1 f3 f4 f5
   refine ⟨_, rfl, go_of (s := { s with heap := h', toks := s.toks + 1 }) (n := "range_iterator") st' rfl rfl (by decide) ⟨.int (lo + i), H, I1, ⟨s.toks, ?_⟩, ⟨rfl, rfl⟩, st', fun b hb => (hf b hb).1⟩⟩
   rw [Int.mul_one]
 done := by
   intro X hP hw hK hc i pins s σ H E I hf st hg
   subst hP hw hK
   obtain ⟨f0, f1, f2, f3, f4, f5⟩ := hf it (by simp)
   obtain ⟨hg, C, hC⟩ := hg
   obtain ⟨p, _, _⟩ := (show ObjOk X.prog X.w H s.heap x (.ext (excP x C)) from I.hok x _ hC)
   exact range_end_in hc p.hnd st (by lia) fun h' eb => ⟨rfl, I.kept (t' := s.toks) eb⟩
 self := fun _ _ _ _ _ st h => wpAny_pyIter_rangeiter st h
section
variable {X : Cx} {tg : Expr}
theorem range_itS {x : Addr} {pins : List (Addr × Obj)} {σ : St} {H : Hp} {s : Shared} {R : It → Hp → Prop} {E : Value → Shared → Prop} {lo hi : Int} {t u v : Tok} {tk : Nat} (I : Inv X pins σ H s) (h1 : -(2 ^ 62) ≤ lo) (h2 : lo < 2 ^ 62) (h3 : -(2 ^ 62) ≤ hi) (h4 : hi < 2 ^ 62)
   (q : R (ItrS x lo (hi - lo).toNat) H) : wpAny (model X.prog X.w) X.A (pyIter (.ref s.heap.objs.size)) (PISE x X pins σ tg R) E { s with heap := s.heap.push { cls := .type "range", data := .fields #[.int lo t, .int hi u, .int 1 v] }, toks := tk } := by
 refine wpAny_pyIter_range (IsRange.new ..) (small_one h1 h2 h3 h4) ?_
 have I1 : Inv X pins σ H { s with heap := s.heap.push { cls := .type "range", data := .fields #[.int lo t, .int hi u, .int 1 v] }, toks := tk } := I.kept fun b o e => Heap.get?_push_of_some _ e
 refine ⟨(s.heap.push { cls := .type "range", data := .fields #[.int lo t, .int hi u, .int 1 v] }).objs.size, [(s.heap.push { cls := .type "range", data := .fields #[.int lo t, .int hi u, .int 1 v] }).objs.size], _, _, H, rfl,
   I1.kept (t' := tk) fun b o e => Heap.get?_push_of_some _ e, turn_rangeS _ lo (hi - lo).toNat, ?_, fun b hb => ?_, q⟩
 · have e1 : lo + ((0 : Nat) : Int) * 1 = lo := by simp
   have e2 : (((hi - lo).toNat : Nat) : Int) - ((0 : Nat) : Int) = Builtin.Range.rangeSize lo hi 1 := by rw [rangeSize_one]; split <;> lia
   show IsRangeIter _ _ (lo + ((0 : Nat) : Int) * 1) ((((hi - lo).toNat : Nat) : Int) - ((0 : Nat) : Int)) 1
   rw [e1, e2]
   exact Heap.get?_push_size _ rfl
 · have e : b = (s.heap.push { cls := .type "range", data := .fields #[.int lo t, .int hi u, .int 1 v] }).objs.size := by simpa using hb
   subst e
   exact I1.fpOk (Nat.le_refl _) (I1.hok.fresh (Nat.le_refl _))
theorem pi_range1S {x : Addr} {a : Expr} {ta : TA} {p pos : Pos} (hg : Gl X "range") (hm : X.mg "range" = none) (ha : PA X [a] ta) (hs : starEach [a] X.env = [(false, eval a X.env)] := by rfl) : PIS x X tg (.Call (.Name "range" p) [a] [] pos) (iRngS x ta) := by
 intro pins s σ H R I h
 refine Call_ (ld_blt I hg hm boot_range (PyProof.Rows.callWith_type1 (thn (ha pos pins s σ H _ I h) fun us s1 ⟨vs, H1, I1, r1, q1⟩ => ?_) hs rfl))
 obtain ⟨j, e, q1, q2, q⟩ := q1
 subst e
 cases r1 with
 | cons r rr =>
   cases rr
   obtain ⟨t, rfl⟩ := r
   exact call_range_1 (range_itS I1 (by lia) (by lia) q1 q2 (by simpa using q))
end
section
variable {X : Cx} {tg iter elt : Expr} {ifs : List Expr} {sc : Scope} {pos : Pos} {wi : TI} {g : TG} {tt : TT} {te : TE} {m : List (Option Nat)} {Nc : List Str}
theorem pe_compS {x : Addr} (hc : X.A.handled = some (.ref x)) (hi : PIS x X tg iter wi) (hkind : sc.kind = .function) (hcell : ∀ y ∈ sc.names, y.2 ≠ .cell) (hnames : ∀ y ∈ sc.names, y.2 = .local → sc.names.lookup y.1 = some .local)
   (hfree : ∀ y ∈ sc.names, y.2 = .free → X.env.scope.names.lookup y.1 = some .cell ∨ X.env.scope.names.lookup y.1 = some .free) (hm : FreeAt X sc Nc m)
   (hg : ∀ cl C fp s H, PG (blk X sc cl C Nc fp s H) tg g) (ht : ∀ cl C fp s H, PTs (blk X sc cl C Nc fp s H) ifs tt) (he : ∀ cl C fp s H, PE (blk X sc cl C Nc fp s H) elt te)
   (hs : ∀ x, foldedSetIterable iter X.env x = pure x := by intro _; rfl) : PE X (.ListComp elt [⟨tg, iter, ifs, 0⟩] sc pos) (tComp m wi g tt te) := by
 intro pins s σ H Q I h
 rw [eval_ListComp]
 have hcl : ∀ y ∈ sc.names, y.2 = .free → ∃ c, X.env.cells.lookup y.1 = some c := fun y hy hf => I.ok.has y.1 (hfree y hy hf)
 refine wpAny_comprehension_free (use := none) rfl hs (closFor hcl) hkind hnames (thn (hi pins s σ H _ I h) fun v s1 h1 => thn h1 fun itv s2 h2 => ?_)
 obtain ⟨it, fp, tn, J, H2, e, I2, T, st2, f2, hQ⟩ := h2
 subst e
 have hlt : ∀ b ∈ fp, b < s2.heap.objs.size := fun b hb => by
   obtain ⟨o, e, _⟩ := T.obj 0 _ st2 b hb
   exact Heap.lt_size e
 refine wpAny_newObj_type (wpAny_newFunctionEnv hcell (by intro y hy; simp at hy) (fun h₁ hns₁ hsb₁ => ?_) hkind)
 have I3 : Inv X pins σ (upd H2 s2.heap.objs.size (.lst [])) { s2 with heap := s2.heap.push { cls := .type "list", data := .seq ([] : List Value).toArray } } := I2.lnew (t' := s2.toks) .nil (Nat.zero_le _)
 obtain ⟨W, ⟨n0, w0⟩, turn⟩ := hQ s2.heap.objs.size I2.fresh
 have hD3 : ∀ b ∈ fp, b ≠ s2.heap.objs.size := fun b hb => Nat.ne_of_lt (hlt b hb)
 have f3 : ∀ b ∈ fp, FpOk X pins (upd H2 s2.heap.objs.size (.lst [])) b := fun b hb => by
   obtain ⟨a0, a1⟩ := f2 b hb
   exact ⟨by rw [jA (hD3 b hb)]; exact a0, a1⟩
 generalize hE : ({ s2 with heap := s2.heap.push { cls := .type "list", data := .seq ([] : List Value).toArray } } : Shared) = s3 at I3 hns₁ hsb₁ ⊢
 generalize hH3 : upd H2 s2.heap.objs.size (.lst []) = H3 at I3 f3 w0
 have hsz3 : s3.heap.objs.size = s2.heap.objs.size + 1 := by rw [← hE]; exact Heap.size_push _ _
 have old : ∀ b o, s3.heap.get? b = some o → h₁.get? b = some o := fun b o e => hsb₁.extBut b o (Nat.ne_of_lt (Heap.lt_size e)) (Heap.get?_push_of_some _ e)
 have old2 : ∀ b o, s2.heap.get? b = some o → h₁.get? b = some o := fun b o e => old b o (by rw [← hE]; exact Heap.get?_push_of_some _ e)
 have I4 := blk_start (fp := fp) (tk := s3.toks + ([] : List (Str × Value)).length) I3 hkind hcell hfree hm f3 (fun b hb => show b < s3.heap.objs.size by rw [hsz3]; exact Nat.lt_succ_of_lt (hlt b hb)) hns₁ old
 have st4 : tn 0 h₁ := T.keep _ _ _ st2 fun b hb o e => old2 b o e
 have loop : codeAny (model X.prog X.w) X.A (.compLoop (.ListComp elt [⟨tg, iter, ifs, 0⟩] sc pos) 0 (.ref it) (.ref s2.heap.objs.size) (compEnvC sc (jK X.env.cells sc.names []) s3.heap.objs.size X.env))
     (compPost (model X.prog X.w) X.A X.xe none (EP X pins σ Q) (.ref s2.heap.objs.size) s3.heap.objs.size) { s3 with heap := h₁, toks := s3.toks + ([] : List (Str × Value)).length } := by
   generalize hX : blk X sc (jK X.env.cells sc.names []) s3.heap.objs.size Nc fp s3 H3 = Xb at I4
   have eP : Xb.prog = X.prog := by rw [← hX]; rfl
   have ew : Xb.w = X.w := by rw [← hX]; rfl
   have eK : Xb.K = X.K := by rw [← hX]; rfl
   have eA : Xb.A = X.A := by rw [← hX]; rfl
   have ec : Xb.A.handled = some (.ref x) := by rw [← hX]; exact hc
   have ee : Xb.env = compEnvC sc (jK X.env.cells sc.names []) s3.heap.objs.size X.env := by rw [← hX]; rfl
   have ex : Xb.xe = fun _ _ => False := by rw [← hX]; rfl
   have hgb : PG Xb tg g := by rw [← hX]; exact hg _ _ _ _ _
   have htb : PTs Xb ifs tt := by rw [← hX]; exact ht _ _ _ _ _
   have heb : PE Xb elt te := by rw [← hX]; exact he _ _ _ _ _
   have stat : ∀ {H' : Hp}, (∀ b ∈ fp, H' b = none) → ∀ b ∈ fp, FpOk Xb [] H' b := fun {H'} hn b hb => by
     obtain ⟨o, eo, _⟩ := T.obj _ _ st4 b hb
     have q := I4.ok.exf b (by rw [← hX]; exact hb)
     exact ⟨hn b hb, q.1, I4.ok.exfs b (by rw [← hX]; exact hb), .inl (by rw [← hX]; exact hb), q.2, fun p hp => absurd hp (by rw [← hX]; simp [blk])⟩
   have fr4 : ∀ b ∈ fp, H3 b = none := fun b hb => (f3 b hb).1
   unfold PG at hgb
   unfold PTs at htb
   unfold PE at heb
   rw [eP, ew, eA, ee, ex] at hgb htb heb
   refine comp_turns (fun n z => ∃ i σ' H' ys, Inv Xb [] σ' H' z ∧ tn i z.heap ∧ (∀ b ∈ fp, H' b = none) ∧ W i n σ' H' ys) ?_ n0 ⟨0, _, H3, [], I4, st4, fr4, w0⟩
   rintro n z ⟨i, σ5, H5, ys, I5, st5, fr5, w5⟩
   obtain ⟨hD, hlen, way⟩ := turn i n σ5 H5 ys w5
   rcases way with ⟨stop, q⟩ | ⟨go, N, hN, step⟩
   · have R := T.done Xb eP ew eK ec i [] z σ5 H5 (fun _ _ => False) I5 (stat fr5) st5 stop
     rw [eA] at R
     refine thn R fun r z1 ⟨hr, I6⟩ => ?_
     subst hr
     obtain ⟨mm, hn6, _⟩ := I6.loc
     rw [ee] at hn6
     refine ⟨mm, hn6, fun h' sb => ?_⟩
     have u6 : Un (frs X.stack) fp H3 H5 s3.heap z1.heap := by
       have := I6.base
       rw [← hX] at this
       exact this
     have fC : H5 s3.heap.objs.size = none := by
       have := I6.free
       rw [ee] at this
       exact this
     have hok6 : HOk X.prog X.w H5 z1.heap := by
       have := I6.hok
       rw [eP, ew] at this
       exact this
     have os6 : z1.os = s3.os := by
       have := I6.os
       rw [← hX] at this
       exact this
     refine ⟨.ref s2.heap.objs.size, H5, I3.call' (s' := { z1 with heap := h' }) (ch := fp) os6 (u6.sameBut sb (Nat.le_refl _)) (hok6.sameBut sb fC) I6.bare (fun b hb => ?_), rfl, q⟩
     obtain ⟨a0, a1, a2, a3, a4, a5⟩ := f3 b hb
     exact ⟨a3, a1, a4, a5⟩
   · have R := T.item Xb eP ew eK ec i [] z σ5 H5 (fun _ _ => False) I5 (stat fr5) st5 go
     rw [eA] at R
     refine thn R fun r z1 ⟨u, hr, h6⟩ => ?_
     subst hr
     refine thn h6 fun _ z2 ⟨y, H7, I7, r7, y7, st7, fr7⟩ => ?_
     have I7' := I7.pinned (stat fr7) (T.obj _ _ st7)
     refine thn (hgb _ z2 σ5 H7 y u _ I7' r7 (step y H7 y7)) fun _ z3 ⟨σ8, H8, I8, q8⟩ => ?_
     refine thn (htb _ z3 σ8 H8 _ I8 q8) fun ok z4 ⟨H9, I9, q9⟩ => ?_
     have again : ∀ {σ7 : St} {Hz : Hp} {zz : Shared} {yy : List V} {n' : Nat}, Inv Xb ([] ++ pinsAt fp z2.heap) σ7 Hz zz → n' < n → W (i + 1) n' σ7 Hz yy → ∃ k, k < n ∧ ∃ i σ' H' ys, Inv Xb [] σ' H' zz ∧ tn i zz.heap ∧ (∀ b ∈ fp, H' b = none) ∧ W i k σ' H' ys := fun {σ7 Hz zz yy n'} Iz hn wz => by
       refine ⟨n', hn, i + 1, σ7, Hz, yy, Iz.unpinned, T.keep _ _ _ st7 fun b hb o e => (Iz.pin (b, o) (List.mem_append_right _ (List.mem_append_right _ (mem_pinsAt hb e)))).1, fun b hb => ?_, wz⟩
       obtain ⟨o, e, d⟩ := T.obj _ _ st7 b hb
       exact (Iz.pin (b, o) (List.mem_append_right _ (List.mem_append_right _ (mem_pinsAt hb e)))).2.1
     cases ok with
     | false =>
       obtain ⟨n', hn, w9⟩ := hN _ _ _ (show N σ8 H9 ys from q9)
       exact again I9 hn w9
     | true =>
       refine thn (heb _ z4 σ8 H9 _ I9 q9) fun xv z5 ⟨vv, H10, I10, r10, hD10, n10⟩ => ?_
       obtain ⟨n', hn, w10⟩ := hN _ _ _ n10
       have R := mt_append (X := Xb) _ z5 σ8 H10 (.ref s2.heap.objs.size) [vv] (.ref s2.heap.objs.size) [xv] (fun _ H' => H' = upd H10 s2.heap.objs.size (.lst (ys ++ [vv]))) I10 rfl (.cons r10 .nil) ⟨_, ys, vv, rfl, rfl, hD10, hlen, rfl⟩
       rw [eP, ew, eA, ex] at R
       refine thn R fun _ z6 ⟨_, H11, I11, _, e11⟩ => ?_
       subst e11
       exact again I11 hn w10
 exact codeAny_compStart_list loop (T.self _ 0 _ _ _ st4 loop)
end
end L2
end
section
namespace L2
open PySem PySem.Spec PyProof.Rows
structure RoomS (k : Nat) (A : Around) (x : Addr) : Prop where
 hd : A.handled = some (.ref x)
 dp : A.depth + 3 * k + 5 < recursionLimit
 un : A.units + 16 * k + 200 < cLine
theorem Room.suite {k : Nat} {A : Around} (r : Room k A) (x : Addr) : RoomS k (A.mark (some (.ref x))) x := ⟨rfl, r.dp, r.un⟩
theorem RoomS.deeper {k : Nat} {A : Around} {x : Addr} (r : RoomS (k + 1) A x) (env : Env) : RoomS k (A.deeper env) x :=
 ⟨r.hd, by have := r.dp; show A.depth + 1 + 3 * k + 5 < _; lia, by have := r.un; show A.units + 3 + 16 * k + 200 < _; lia⟩
structure FnS (P : Program) (w : World) (K : W.Frag) (mg : Str → Option Value) (base : Heap) (k : Nat) (f : Addr) (fd : FuncData) (ps : List Str) (sp : Addr → Sp) : Prop where
 len : ∀ x vs H Q E, sp x vs H Q E → vs.length = ps.length
 run : ∀ (A : Around) (outer : List Env) (s : Shared) (H : Hp) (args : Args) (us : List Value) (vs : List V) (Q : VK) (E : XK) (x : Addr), RoomS k A x → Env0 P w K mg base A outer s H → BindsTo s fd args (ps.zip us) → Vals vs us → sp x vs H Q E →
   codeAny (model P w) A (.call (.ref f) args) (CR CX0 outer P w H s Q E) s
noncomputable def cxS (P : Program) (w : World) (K : W.Frag) (mg : Str → Option Value) (base : Heap) (N : List Str) (qual : Str) (scope : Scope) (f : Addr) (cd : Value) (A : Around) (outer : List Env) (s : Shared) (H : Hp) (E : XK) : Cx := { (cxOf CX0 P w K mg base N qual scope f cd A outer s H E).nox with calm := false }
theorem fn_ofS {P : Program} {w : World} {K : W.Frag} {mg : Str → Option Value} {base : Heap} {k : Nat} {x qual : Str} {st : Stmt} {f : Addr} {fd : FuncData} {N ps : List Str} {sp : Addr → Sp} (F : Fun K x qual st f fd) (S : FnScope N ps (j8 st)) (len : ∀ x vs H Q E, sp x vs H Q E → vs.length = ps.length)
   (hbody : ∀ (cdv : Value) (A : Around) (outer : List Env) (s : Shared) (H : Hp) (vs : List V) (Q : VK) (E : XK) (x : Addr), RoomS k (A.deeper (envOfC qual (j8 st) s.heap.objs.size f cdv)) x → sp x vs H Q E →
     ∃ t, PSs (cxS P w K mg base N qual (j8 st) f cdv A outer s H E) (jC st) t ∧ t { nx := fun _ H' => Q .non H', rt := Q } (kR N vs) H) :
   FnS P w K mg base (k + 1) f fd ps sp := by
 obtain ⟨oc, od, kV, doc, pm, an, cdv, ct, osl, rfl, lk, hcd⟩ := F.ex
 refine ⟨len, fun A outer s H args us vs Q E x hr e0 hb r hsp => ?_⟩
 have hl := len _ _ _ _ _ hsp
 have KX : K.In s.heap := e0.mod.kin.keeps fun b o e => (e0.bs b o e).1
 have lim : s.heap.NoLimit := e0.mod.nolimit.keeps fun b o e => (e0.bs b o e).1
 have hkind : ∀ y ∈ ps.zip us, (j8 st).names.lookup y.1 = some .local ∨ ((j8 st).names.lookup y.1 = some .cell ∧ ((cellsFrom (s.heap.objs.size + 1) (j8 st).names []).lookup y.1).isSome = true) := fun ⟨n, v⟩ hy => by
   rcases S.par n (List.of_mem_zip hy).1 with q | q
   · exact .inl q
   · exact .inr ⟨q, PySem.W.cellsFrom_some _ _ _ (.inl q)⟩
 refine codeAny_call_function (by have := hr.dp; lia) (KX _ _ lk) rfl S.co S.gen rfl (PySem.W.codeRec_of KX hcd) (hb _ _ _ _ ?_)
 refine wpAny_newFunctionEnv_cells S.kind hkind fun env he s1 z => ?_
 subst he
 refine ⟨lim.keeps z.toInCall.keep, codeAny_func ?_⟩
 obtain ⟨t, ht, hq⟩ := hbody cdv A outer s H vs Q E x (hr.deeper _) hsp
 have J : Inv (cxOf CX0 P w K mg base N qual (j8 st) f cdv { A with handled := none } outer s H E) [] (kR N vs) H s1 := inv_start S rfl ⟨e0.frames, e0.mod, e0.bs, e0.bsz, e0.funs, e0.frf, e0.hok, e0.bare⟩ hl r z
 have ok := J.ok
 have I : Inv (cxS P w K mg base N qual (j8 st) f cdv A outer s H E) [] (kR N vs) H s1 :=
   ⟨⟨ok.mod, ok.kind, ok.glob, ok.blt, ok.above, ok.inj, ok.has, ok.cab, fun z => (nomatch z), Around.frames_deeper e0.frames, ok.stk, ok.exf, ok.bs, ok.bsz, ok.noex, ok.exfs, ok.funs, ok.frf⟩, J.os, J.bare, J.base, J.loc, J.cell, J.free, J.freeC, J.pin, J.hok, J.len⟩
 refine wpAny_mono (ht [] s1 (kR N vs) H _ I hq) (fun fl s' hs => ?_) fun e s' hs => False.elim hs
 have fin : ∀ {σ' : St} {H' : Hp} {v : V} {u : Value}, Inv (cxS P w K mg base N qual (j8 st) f cdv A outer s H E) [] σ' H' s' → RelV v u → Q v H' → CE outer P w H s Q u s' :=
   fun {σ' H' v u} J rv q => ⟨v, H', J.os, J.bare, J.base, J.hok, rv, q⟩
 cases fl with
 | ret u =>
   obtain ⟨v, σ', H', J, rv, q⟩ := hs
   exact fin J rv q
 | next =>
   obtain ⟨σ', H', J, q⟩ := hs
   exact fin (v := V.non) (u := Value.none) J rfl q
 | brk =>
   obtain ⟨_, _, _, q⟩ := hs
   exact False.elim q
 | cont =>
   obtain ⟨_, _, _, q⟩ := hs
   exact False.elim q
section
variable {X : Cx} {k : Nat} {f a : Addr} {fd : FuncData} {ps : List Str} {sp : Addr → Sp} {x : Str} {p pos : Pos} {e : Expr} {es : List Expr} {t : TA}
theorem je_callS (F : FnS X.prog X.w X.K X.mg X.base k f fd ps sp) (hr : RoomS k X.A a) (hg : Gl1 X x) (hm : X.mg x = some (.ref f)) (hk : PySem.W.keepIn X.K (.ref f) = true) (hb : Binds X.K fd ps [])
   (ha : JA X (e :: es) t) (he : starEach (e :: es) X.env = (false, eval e X.env) :: starEach es X.env) (hdb : (x == ("__debug__" : Str)) = false := by decide) (hpl : (backTo pos (starEach es X.env)).any (·.1) = false := by rfl) :
   JE X (.Call (.Name x p) (e :: es) [] pos) (tCall (sp a) [] E0 t) := by
 refine ⟨fun pins s σ H Q I h => ?_⟩
 refine wpAny_Call_Name_kw (ld_glob I hg.a hm ?_ hdb)
 refine PySem.W.callWith_K (h₀ := X.base) I.ok.mod.kin hk (thn (ha.h pos pins s σ H _ I h) fun us s1 ⟨vs, H1, I1, r, q⟩ => ⟨I1.kIn, ?_⟩) he hpl
 replace q : sp a (vs ++ []) H1 Q E0 := q
 rw [List.append_nil] at q
 have hl : us.length = ps.length := by rw [← r.length]; exact F.len _ _ _ _ _ q
 have hbb := hb s1 us I1.kIn (by rw [List.append_nil]; exact hl)
 rw [List.append_nil] at hbb
 refine wpAny_call (codeAny_mono (F.run X.A X.stack s1 H1 ⟨us, []⟩ us vs Q E0 a hr I1.env0 hbb r q) fun r s' hq => ?_)
 cases r with
 | error e => exact hq.elim
 | ok fl =>
   cases fl with
   | ret u => exact I1.after hq
   | next => exact False.elim hq
   | brk => exact False.elim hq
   | cont => exact False.elim hq
end
section
variable {CX : CXT} {P : Program} {w : World} {K : W.Frag} {mg : Str → Option Value} {base : Heap} {N : List Str} {qual : Str} {sc : Scope} {f : Addr} {cdv : Value} {A : Around} {outer : List Env} {s : Shared} {H : Hp} {E : XK} {x : Str}
theorem gl_x (h : sc.names.lookup x = some .globalImplicit) : Gl1 (cxOf CX P w K mg base N qual sc f cdv A outer s H E).nox x := ⟨h⟩
theorem vis_x (h : sc.names.lookup x = some .local) : Vis1 (cxOf CX P w K mg base N qual sc f cdv A outer s H E).nox x := ⟨.inl h⟩
theorem vis_xc (h : sc.names.lookup x = some .cell) : Vis1 (cxOf CX P w K mg base N qual sc f cdv A outer s H E).nox x := ⟨.inr (.inl h)⟩
theorem gl_s (h : sc.names.lookup x = some .globalImplicit) : Gl1 (cxS P w K mg base N qual sc f cdv A outer s H E) x := ⟨h⟩
theorem yO (h : sc.names.lookup x = some .local) : Vis1 (cxS P w K mg base N qual sc f cdv A outer s H E) x := ⟨.inl h⟩
theorem loc_s (h : sc.names.lookup x = some .local) : Loc1 (cxS P w K mg base N qual sc f cdv A outer s H E) x := ⟨.inl h, .inl rfl⟩
theorem gl_u {X : Cx} {a : Addr} (h : Gl1 X x) : Gl1 (suiteCx X a) x := ⟨h.a⟩
theorem vis_u {X : Cx} {a : Addr} (h : Vis1 X x) : Vis1 (suiteCx X a) x := ⟨h.a⟩
end
section
variable {X : Cx} {e : Expr} {es : List Expr} {t : TA} {a : Addr} {p pos : Pos}
structure JIS (x : Addr) (X : Cx) (tg e : Expr) (t : TI) : Prop where
 h : PIS x X tg e t
theorem ji_rangeS {tg : Expr} (hg : Gl1 X "range") (hm : X.mg "range" = none) (ha : JA X [e] t) (hs : starEach [e] X.env = [(false, eval e X.env)]) : JIS a X tg (.Call (.Name "range" p) [e] [] pos) (iRngS a t) := ⟨pi_range1S hg.a hm ha.h hs⟩
theorem je_compS {tg iter elt : Expr} {ifs : List Expr} {sc : Scope} {wi : TI} {g : TG} {tt : TT} {te : TE} {m : List (Option Nat)} {Nc : List Str} (hc : X.A.handled = some (.ref a)) (hi : JIS a X tg iter wi) (hkind : sc.kind = .function) (hcell : ∀ y ∈ sc.names, y.2 ≠ .cell) (hnames : ∀ y ∈ sc.names, y.2 = .local → sc.names.lookup y.1 = some .local)
   (hfree : ∀ y ∈ sc.names, y.2 = .free → X.env.scope.names.lookup y.1 = some .cell ∨ X.env.scope.names.lookup y.1 = some .free) (hm : FreeAt X sc Nc m)
   (hg : ∀ cl C fp s H, JG (blk X sc cl C Nc fp s H) tg g) (ht : ∀ cl C fp s H, JTs (blk X sc cl C Nc fp s H) ifs tt) (he : ∀ cl C fp s H, JE (blk X sc cl C Nc fp s H) elt te)
   (hs : FoOk iter) : JE X (.ListComp elt [⟨tg, iter, ifs, 0⟩] sc pos) (tComp m wi g tt te) := ⟨pe_compS hc hi.h hkind hcell hnames hfree hm (fun cl C fp s H => (hg cl C fp s H).h) (fun cl C fp s H => (ht cl C fp s H).h) (fun cl C fp s H => (he cl C fp s H).h) (hs.h _)⟩
end
end L2
end
section
namespace L2
open PySem PySem.Spec PyProof.Rows
noncomputable abbrev WX := Addr → Addr → St → Hp → Prop
noncomputable def RZ (X : Cx) (pins : List (Addr × Obj)) (W : WX) : Value → Shared → Prop := fun ev s2 => ∃ x T C σ2 H2, ev = .ref x ∧ Inv X pins σ2 H2 s2 ∧ H2 x = none ∧ H2 T = none ∧ ExcX s2.heap x C T ∧
 (X.s₀.heap.get? x = none ∧ x ≠ X.env.locals ∧ (∀ y c, X.env.cells.lookup y = some c → c ≠ x) ∧ ∀ p ∈ X.pn ++ pins, p.1 ≠ x) ∧ (X.s₀.heap.get? T = none ∧ T ≠ X.env.locals ∧ (∀ y c, X.env.cells.lookup y = some c → c ≠ T) ∧ ∀ p ∈ X.pn ++ pins, p.1 ≠ T) ∧ W x C σ2 H2
noncomputable abbrev TEX := St → Hp → VK → (Addr → Addr → Hp → Prop) → Prop
noncomputable abbrev TBX := Ends → WX → St → Hp → Prop
structure JX (X : Cx) (e : Expr) (t : TEX) : Prop where
 h : ∀ (pins : List (Addr × Obj)) (s : Shared) (σ : St) (H : Hp) (Q : VK) (W : Addr → Addr → Hp → Prop), Inv X pins σ H s → t σ H Q W → wpAny (model X.prog X.w) X.A (eval e X.env) (EP X pins σ Q) (RZ X pins fun x C σ2 H2 => σ2 = σ ∧ W x C H2) s
structure JB (X : Cx) (body : List Stmt) (t : TBX) : Prop where
 h : ∀ (pins : List (Addr × Obj)) (s : Shared) (σ : St) (H : Hp) (D : Ends) (W : WX), Inv X pins σ H s → t D W σ H → wpAny (model X.prog X.w) X.A (execs body X.env) (SP X pins D) (RZ X pins W) s
noncomputable def tCallX (C : Addr) (t : TA) (sp : Sp) : TEX := fun σ H Q W => t σ H fun vs H1 => sp vs H1 Q fun e ox H2 => ∀ x, e = .ref x → ox = some x → H2 x = none → W x C H2
noncomputable def bExpr (t : TEX) : TBX := fun D W σ H => t σ H (fun _ H1 => D.nx σ H1) fun x C H2 => W x C σ H2
noncomputable def Dh (D : Ends) (j : Nat) : Ends := { nx := fun σ H => D.nx (σ.set j none) H, rt := D.rt, bk := fun σ H => D.bk (σ.set j none) H, ct := fun σ H => D.ct (σ.set j none) H }
noncomputable def tTryB (K : W.Frag) (B : Addr) (j : Nat) (tb : TBX) (ts : Addr → TS) : TS := fun D σ H => tb D (fun x C σ2 H2 => Above K C B ∧ ts x (Dh D j) (σ2.set j (some (.ref x))) (upd H2 x (.ext (excP x C)))) σ H
section
variable {X : Cx} {y n g c : Str} {i j k : Nat} {f B C : Addr} {fd : FuncData} {ps : List Str} {sp : Sp} {e : Expr} {es : List Expr} {t : TA} {te t1 : TEX} {yp gp cp ap np rp hp tp pos : Pos}
theorem nox_is (h : X.xe = fun _ _ => False) : X = X.nox := by
 cases X
 cases h
 rfl
theorem jx_call (F : FnOk X.prog X.w X.K X.mg X.base (CXX X.prog X.w C) k f fd ps sp) (hr : Room k X.A) (hg : Gl1 X g) (hm : X.mg g = some (.ref f)) (hk : PySem.W.keepIn X.K (.ref f) = true) (hb : Binds X.K fd ps []) (ha0 : JA X (e :: es) t) (hex : X.ex = [])
   (he : starEach (e :: es) X.env = (false, eval e X.env) :: starEach es X.env) (hdb : (g == ("__debug__" : Str)) = false := by decide) (hpl : (backTo cp (starEach es X.env)).any (·.1) = false := by rfl) (hxe : X.xe = fun _ _ => False := by rfl) :
   JX X (.Call (.Name g gp) (e :: es) [] cp) (tCallX C t sp) := by
 have ha : JA X.nox (e :: es) t := nox_is hxe ▸ ha0
 refine ⟨fun pins s σ H Q W I h => wpAny_Call_Name_kw (ld_glob I hg.a hm ?_ hdb)⟩
 refine PySem.W.callWith_K (h₀ := X.base) I.ok.mod.kin hk (wpAny_mono (ha.h cp pins s σ H _ (I.wish _) h) (fun us s1 ⟨vs, H1, I1, r1, q⟩ => ⟨I1.unwish.kIn, ?_⟩) fun _ _ z => False.elim z) he hpl
 have I1 := I1.unwish
 have hl : us.length = ps.length := by rw [← r1.length]; exact F.len _ _ _ _ q
 have hbb := hb s1 us I1.kIn (by rw [List.append_nil]; exact hl)
 rw [List.append_nil] at hbb
 refine wpAny_call (codeAny_mono (F.run X.A X.stack s1 H1 ⟨us, []⟩ us vs _ _ hr I1.env0 hbb r1 q) fun res s2 hq => ?_)
 cases res with
 | ok fl =>
   cases fl with
   | ret u => exact I1.after hq
   | next => exact False.elim hq
   | brk => exact False.elim hq
   | cont => exact False.elim hq
 | error ev =>
   obtain ⟨x, T, H2, rfl, os2, bare2, un2, hok2, fx, fT, hx, hT, ex2, q2⟩ := hq
   have I2 : Inv X pins σ H2 s2 := I1.call' os2 un2 hok2 bare2 fun b z => absurd z (by simp)
   have hT1 : s1.heap.get? T = none := by
     cases z : s1.heap.get? T with
     | none => rfl
     | some o => exact absurd (Heap.lt_size z) (Nat.not_lt.mpr fT)
   exact ⟨x, T, C, σ, H2, rfl, I2, hx, hT, ex2, I1.apart hex fx, I1.apart hex hT1, rfl, q2 x rfl rfl hx⟩
theorem RZ.out {pins : List (Addr × Obj)} {σ : St} {W' : Addr → Addr → Hp → Prop} {W : WX} {ev : Value} {s : Shared} (h : RZ X pins (fun x C σ2 H2 => σ2 = σ ∧ W' x C H2) ev s) (k : ∀ x C H2, W' x C H2 → W x C σ H2) : RZ X pins W ev s := by
 obtain ⟨x, T, C, σ2, H2, e1, I2, a1, a2, a3, a4, a5, rfl, a6⟩ := h
 exact ⟨x, T, C, _, H2, e1, I2, a1, a2, a3, a4, a5, k _ _ _ a6⟩
theorem jb_expr (h : JX X e te) (hs : SwOk e none) : JB X [.Expr e rp] (bExpr te) := by
 refine ⟨fun pins s σ H D W I hq => wpAny_execs_cons (wpAny_Expr_any (wpAny_mono (h.h pins s σ H _ _ I hq) (fun u s1 ⟨x, H1, I1, r1, q1⟩ => ?_) fun ev s1 z => z.out fun _ _ _ q => q) I.quiet (hs.h _ _))⟩
 exact wpAny_execs_nil ⟨σ, H1, I1, q1⟩
theorem Inv.lost {pins : List (Addr × Obj)} {σ : St} {H : Hp} {s : Shared} {h' : Heap} {t' : Nat} {v : Option Value} {m : Str → Option Value} (I : Inv X pins σ H s) (hN : X.N.Nodup) (hj : X.N[j]? = some n) (ln : X.env.scope.names.lookup n = some .local) (hm : s.heap.Ns X.env.locals m) (hl : ∀ (i : Nat) (y : Str) (v : V), X.N[i]? = some y → σ[i]? = some (some v) → Vis X.env.scope y → ∃ u, RelV v u ∧ Look X.env s.heap m y u)
   (hn : h'.Ns X.env.locals (fun x => if x = n then v else m x)) (sb : Heap.SameBut X.env.locals s.heap h') : Inv X pins (σ.set j none) H { s with heap := h', toks := t' } := by
 refine ⟨I.ok, I.os, I.bare, I.base.sameBut sb I.ok.above, ⟨_, hn, fun i y v e1 e2 e3 => ?_⟩, fun y c e => ?_, I.free, I.freeC, fun p hp => ?_, I.hok.sameBut sb I.free, by rw [List.length_set]; exact I.len⟩
 · have nij : i ≠ j := fun z => by
     subst z
     by_cases hlt : i < σ.length
     · rw [List.getElem?_set_self hlt] at e2
       cases e2
     · rw [List.getElem?_eq_none (by rw [List.length_set]; lia)] at e2
       cases e2
   rw [List.getElem?_set_ne (Ne.symm nij)] at e2
   have yn : y ≠ n := fun z => by
     subst z
     exact nij ((List.getElem?_inj (List.getElem?_eq_some_iff.mp e1).1 hN).mp (e1.trans hj.symm))
   obtain ⟨u, r, l⟩ := hl i y v e1 e2 e3
   refine ⟨u, r, ?_⟩
   rcases l with ⟨lk, l⟩ | ⟨lk, c, hc, o, ho, hd⟩
   · exact .inl ⟨lk, (if_neg yn).trans l⟩
   · exact .inr ⟨lk, c, hc, o, (sb.2 c (I.cne y c hc)).trans ho, hd⟩
 · obtain ⟨v, o, ho, hd⟩ := I.cell y c e
   exact ⟨v, o, (sb.2 c (I.cne y c e)).trans ho, hd⟩
 · obtain ⟨e, n, ne, nf, d⟩ := I.pin p hp
   exact ⟨(sb.2 _ ne).trans e, n, ne, nf, d⟩
theorem js_try {body : List Stmt} {s0 : Stmt} {suite : List Stmt} {tb : TBX} {ts : Addr → TS} (hN : X.N.Nodup) (hn : X.N[j]? = some n) (ln : X.env.scope.names.lookup n = some .local) (hb : JB X body tb)
   (hc : Gl1 X c) (hmc : X.mg c = some (.ref B)) (hst : X.stack = X.env :: X.outer) (hfr : X.env.frame = some X.env.locals) (hs : ∀ x, JSs (suiteCx X x) (s0 :: suite) (ts x)) (hdc : (c == ("__debug__" : Str)) = false := by decide) :
   JS X (.Try body [.ExceptHandler (some (.Name c np)) (some n) (s0 :: suite) hp] [] [] tp) (tTryB X.K B j tb ts) := by
 refine ⟨fun pins s σ H D I h => wpAny_Try_except (wpAny_mono (hb.h pins s σ H D _ I h) (fun fl s1 q => ?_) fun ev s2 hz => ?_)⟩
 · cases fl with
   | next => exact wpAny_execs_nil q
   | brk => exact q
   | cont => exact q
   | ret u => exact q
 · obtain ⟨x, T, C, σ2, H2, rfl, I2, hx, hT, ex2, ax, aT, ab, q3⟩ := hz
   have fr := I.ok.frames
   have st2 := I2.stack
   rw [hst] at fr st2
   refine note_two (base := X.base) fr st2 hfr ex2 fun h3 T3 n3 e3 z3 => ?_
   have I3 : Inv X pins σ2 (upd H2 x (.ext (excP x C))) { s2 with heap := h3 } := I2.held (by rw [hst]; exact n3) e3 hx hT ax aT
   refine wpAny_handleBy_cons (codeAny_handlers_test (ld_glob (X := suiteCx X x) (I3.suite x) hc.a hmc ?_ hdc)) (by intro q; cases q)
   obtain ⟨nm, q, nm', q', N, N', bs, bm, bs', bm', hdct, hdct', sn, sn', sub, sub', ab, ab', col, col', dd, dd', k0, k1, k2, k3, k5, j0, j1, j2, j3, j5, ni, ni', b1, b2, hK⟩ := ab
   obtain ⟨c1, c2⟩ := hK h3 I3.kIn
   obtain ⟨vs3, _, _, hx3, _⟩ := id e3
   refine match_up c1 c2 hx3 rfl b1 b2 ?_
   refine codeAny_handlers_suite_as (flight_same (s := { s2 with heap := h3 }) e3 fun h4 k4 => ?_)
   have I4 : Inv X pins σ2 (upd H2 x (.ext (excP x C))) { s2 with heap := h4 } := I3.kept (h' := h4) (t' := s2.toks) k4
   refine store_ok (X := suiteCx X x) (v := .ref x) (I4.suite x) hN hn (.inl ln) rfl (fun s5 I5 => ?_) (.inr ln)
   refine wpAny_mono ((hs x).h pins s5 _ _ (Dh D j) I5 q3) (fun fl s6 q6 => ?_) fun _ _ z => False.elim z
   have go : ∀ {σ6 : St} {H6 : Hp} {Q : Shared → Prop}, Inv (suiteCx X x) pins σ6 H6 s6 → (∀ s7, Inv X pins (σ6.set j none) H6 s7 → Q s7) → wpAny (model X.prog X.w) X.A (do bindName X.env n .none; unbindBehindTheSuite X.env n hp) (fun _ s7 => Q s7) X.xe s6 := fun {σ6 H6 Q} I6 k => by
     have I6 := I6.unsuite I.ok
     obtain ⟨m6, hn6, hl6⟩ := id I6.loc
     exact wpAny_nameGoes_keeps ln hn6 (by rw [I.ok.kind]; rfl) fun h7 v hn7 sb7 => k _ (I6.lost hN hn ln hn6 hl6 hn7 sb7)
   cases fl with
   | next =>
     obtain ⟨σ6, H6, I6, d6⟩ := q6
     exact go I6 fun s7 I7 => ⟨_, H6, I7, d6⟩
   | brk =>
     obtain ⟨σ6, H6, I6, d6⟩ := q6
     exact go I6 fun s7 I7 => ⟨_, H6, I7, d6⟩
   | cont =>
     obtain ⟨σ6, H6, I6, d6⟩ := q6
     exact go I6 fun s7 I7 => ⟨_, H6, I7, d6⟩
   | ret u =>
     obtain ⟨v, σ6, H6, I6, r6, d6⟩ := q6
     exact go I6 fun s7 I7 => ⟨v, _, H6, I7, r6, d6⟩
end
end L2
end
section
namespace L2
open PySem PySem.Spec PyProof.Rows
noncomputable def nfP (x q : Str) (args : Arguments) (body : List Stmt) (scope : Scope) (cl : List (Str × Addr)) (a c : Addr) : Heap → Prop := fun h => ∃ doc pm ctv, h.get? a = some (PySem.W.fnMade x q args body scope cl doc pm c ctv)
noncomputable def ncP (q : Str) (c : Addr) : Heap → Prop := fun h => h.CodeRec (.ref c) q
noncomputable abbrev onePs (pos : Pos) (c : Addr) : Array Value := #[rawInt pos.line, rawInt pos.col, .ref c]
noncomputable def TabOk (H : Hp) (T : Addr) (pos : Pos) (q : Str) : Prop := H T = some (.tbl #[]) ∨ ∃ c, H T = some (.tbl (onePs pos c)) ∧ H c = some (.ext (ncP q c))
noncomputable def ExtT (T : Addr) (H H' : Hp) : Prop := ∀ b o, H b = some o → b ≠ T → H' b = some o
noncomputable def BltAt (base : Heap) (mg : Str → Option Value) : Prop := ∃ bm o, mg "__builtins__" = some (.ref bm) ∧ bm ≠ builtinsNs ∧ bm ≠ mainGlobals ∧ base.get? bm = some o ∧ o.cls = .type "module" ∧ o.dict = some builtinsNs ∧ o.data = .plain
theorem nfP.stay {x q : Str} {args : Arguments} {body : List Stmt} {scope : Scope} {cl : List (Str × Addr)} {a c : Addr} (h1 h2 : Heap) (p : nfP x q args body scope cl a c h1) (k : ∀ o, h1.get? a = some o → h2.get? a = some o) : nfP x q args body scope cl a c h2 := by
 obtain ⟨d, m, t, e⟩ := p
 exact ⟨d, m, t, k _ e⟩
theorem ncP.stay {q : Str} {c : Addr} (h1 h2 : Heap) (p : ncP q c h1) (k : ∀ o, h1.get? c = some o → h2.get? c = some o) : ncP q c h2 := by
 obtain ⟨c', o, vs, t, e, g, r⟩ := p
 cases e
 exact ⟨c, o, vs, t, rfl, k _ g, r⟩
theorem ncP.is {q : Str} {c : Addr} {h : Heap} (p : ncP q c h) : ∃ o, h.get? c = some o := by
 obtain ⟨c', o, vs, t, e, g, r⟩ := p
 cases e
 exact ⟨o, g⟩
noncomputable def tDef (x q : Str) (args : Arguments) (body : List Stmt) (scope : Scope) (cl : List (Str × Addr)) (T : Addr) (pos : Pos) (j : Nat) : TS := fun D σ H => TabOk H T pos q ∧ ∀ a c H', H' a = some (.ext (nfP x q args body scope cl a c)) → H' c = some (.ext (ncP q c)) → H' T = some (.tbl (onePs pos c)) → ExtT T H H' → H a = none → D.nx (σ.set j (some (.ref a))) H'
section
variable {X : Cx} {pins : List (Addr × Obj)} {σ : St} {H : Hp} {s : Shared}
theorem Inv.laidX {h' : Heap} {t' : Nat} {φ : Heap → Prop} {a : Addr} (I : Inv X pins σ H s) (k : ∀ b u, s.heap.get? b = some u → h'.get? b = some u) (hp : s.heap.objs.size ≤ a) (p : φ h') (ho : ∃ o, h'.get? a = some o) (st : ∀ h1 h2 : Heap, φ h1 → (∀ o, h1.get? a = some o → h2.get? a = some o) → φ h2) : Inv X pins σ (upd H a (.ext φ)) { s with heap := h', toks := t' } :=
 I.laid k hp ⟨p, ho, st⟩
theorem Inv.grown {h' : Heap} {t' : Nat} {T c : Addr} {ps more : Array Value} {φ : Heap → Prop} (I : Inv X pins σ H s) (hT : H T = some (.tbl ps)) (k : Heap.ExtBut T s.heap h') (e : h'.get? T = some { cls := .none, data := .fields (ps ++ more) })
   (hc : s.heap.objs.size ≤ c) (p : φ h') (ho : ∃ o, h'.get? c = some o) (st : ∀ h1 h2 : Heap, φ h1 → (∀ o, h1.get? c = some o → h2.get? c = some o) → φ h2) : Inv X pins σ (upd (upd H T (.tbl (ps ++ more))) c (.ext φ)) { s with heap := h', toks := t' } := by
 have hcn : H c = none := I.hok.fresh hc
 have nT : ∀ {b : Addr}, H b = none → b ≠ T := fun n z => by rw [z, hT] at n; cases n
 have cT : T ≠ c := fun z => by rw [z, hcn] at hT; cases hT
 have nc : ∀ {b : Addr} {o : Obj}, s.heap.get? b = some o → b ≠ c := fun q z => absurd (Heap.lt_size q) (by rw [z]; exact Nat.not_lt.mpr hc)
 have mc : ∀ {b : Addr} {o : HO}, H b = some o → b ≠ c := fun q => jB q hcn
 refine I.un ⟨fun b o q n _ _ => k b o (nT n) q, fun b o q n _ _ => ⟨o.slots, k b o (nT n) q⟩, fun b o q n _ => by rw [jA (nc q), jA (nT n)]; exact n, fun b o q _ => ?_, fun b xs q => ?_, fun b o u q => ?_, fun b qs q => ?_⟩ fun b o q => ?_
 · by_cases hb : b = T
   · rw [hb]; exact ⟨_, e⟩
   · exact ⟨o, k b o hb q⟩
 · rw [jA (mc q), jA (fun z => by rw [z, hT] at q; cases q)]; exact q
 · rw [jA (mc q), jA (fun z => by rw [z, hT] at q; cases q)]; exact q
 · by_cases hb : b = T
   · subst hb
     rw [hT] at q
     cases q
     exact ⟨more, by rw [jA cT, j7]⟩
   · exact ⟨#[], by rw [jA (mc q), jA hb, q]; simp⟩
 · by_cases hb1 : b = c
   · subst hb1
     rw [j7] at q
     cases q
     exact ⟨p, ho, st⟩
   rw [jA hb1] at q
   by_cases hb : b = T
   · subst hb
     rw [j7] at q
     cases q
     exact e
   · rw [jA hb] at q
     refine (I.hok b o q).stay (fun d u hd z => k d u ?_ z) (fun d z => ?_) fun d xs z => ?_
     · rcases hd with rfl | hd
       · exact hb
       · exact fun y => by rw [y, hT] at hd; cases hd
     · rw [jA (mc z), jA (fun y => by rw [y, hT] at z; cases z)]; exact z
     · rw [jA (mc z), jA (fun y => by rw [y, hT] at z; cases z)]; exact z
theorem ps_def {x : Str} {args : Arguments} {body : List Stmt} {scope : Scope} {pos : Pos} {c0 T : Addr} {j : Nat} (hN : X.N.Nodup) (hj : X.N[j]? = some x) (lx : Loc X.env.scope x) (hcode : X.env.code = .ref c0) (CH : PySem.W.CodeHd X.base c0 T) (hbm : BltAt X.base X.mg)
   (hfree : ∀ y ∈ scope.names, y.2 = .free → X.env.scope.names.lookup y.1 = some .cell ∨ X.env.scope.names.lookup y.1 = some .free) (hdf : defaultsOf args X.env = ([], [])) (han : annTrees args none X.env = [])
   (hf : X.fn x = true ∨ X.env.scope.names.lookup x = some .local := by first | exact .inl rfl | exact .inr rfl | assumption) :
   PS X (.FunctionDef x args body [] none [] scope none x pos) (tDef x (qualnameIn X.env x x) args body scope (jK X.env.cells scope.names []) T pos j) := by
 intro pins s σ H D I h
 obtain ⟨tab, h⟩ := h
 rw [exec_def, hdf, han]
 refine wpAny_bind (wpAny_standAt (wpAny_bind (wpAny_holding ?_)))
 refine wpAny_bind (wpAny_pure (wpAny_bind (wpAny_holding (wpAny_pure (wpAny_holding (wpAny_bind (wpAny_pure ?_)))))))
 have hcl : closureFor scope X.env = pure (jK X.env.cells scope.names []) := closFor fun y hy hz => I.ok.has y.1 (hfree y hy hz)
 have hg : s.heap.Ns mainGlobals X.mg := I.mod.glob.keeps I.bk
 have C := CH.keeps I.bk
 have gT : ∀ {ps : Array Value}, H T = some (.tbl ps) → mainGlobals ≠ T := fun hT z => by
   obtain ⟨o, es, ep, e, _⟩ := I.mod.glob
   have := (I.bs _ _ e).2
   rw [z, hT] at this
   cases this
 have bT : ∀ {ps : Array Value}, H T = some (.tbl ps) → s.heap.BuiltinsAt X.mg T := fun hT => by
   obtain ⟨bm, o, h1, h2, h3, h4, h5, h6, h7⟩ := hbm
   refine ⟨bm, o, h1, h2, h3, fun z => ?_, (I.bs _ _ h4).1, h5, h6, h7⟩
   have := (I.bs _ _ h4).2
   rw [z, hT] at this
   cases this
 rcases tab with hT | ⟨c, hT, hc⟩
 · refine PySem.W.makeFunction_K hcl I.ok.glob hg hcode C (I.hok T _ hT) trivial rfl (gT hT) (bT hT) fun c ctv doc h' tk k1 k2 k3 k4 k5 => ?_
   obtain ⟨oc, hoc⟩ := ncP.is (q := qualnameIn X.env x x) k4
   have I1 : Inv X pins σ (upd (upd H T (.tbl (#[] ++ onePs pos c))) c (.ext (ncP (qualnameIn X.env x x) c))) { s with heap := h', toks := tk } := I.grown hT k1 k5 k2 k4 ⟨oc, hoc⟩ ncP.stay
   have I2 := I1.laidX (t' := tk) (a := h'.objs.size) (φ := nfP x (qualnameIn X.env x x) args body scope (jK X.env.cells scope.names []) h'.objs.size c) (h' := h'.push (PySem.W.fnMade x (qualnameIn X.env x x) args body scope (jK X.env.cells scope.names []) doc ((X.mg "__name__").getD .none) c ctv)) (fun b u q => Heap.get?_push_of_some _ q) (Nat.le_refl _) ⟨doc, _, ctv, Heap.get?_push_size _ rfl⟩ ⟨_, Heap.get?_push_size _ rfl⟩ nfP.stay
   have hcn : H c = none := I.hok.fresh k2
   have han : H h'.objs.size = none := I.hok.fresh (Nat.le_trans k2 (Nat.le_of_lt k3))
   have ca : c ≠ h'.objs.size := Nat.ne_of_lt k3
   have Tc : T ≠ c := fun z => by rw [z, hcn] at hT; cases hT
   have Ta : T ≠ h'.objs.size := fun z => by rw [z, han] at hT; cases hT
   refine wpAny_bind (wpAny_standAt (wpAny_bind (wpAny_bindName (store_ok (v := .ref h'.objs.size) I2 hN hj lx rfl (fun s' I' => wpAny_pure ⟨_, _, I', ?_⟩) hf))))
   refine h _ c _ j7 (by rw [jA ca, j7]) (by rw [jA Ta, jA Tc, j7, Array.empty_append]) (fun b o e n => ?_) han
   rw [jA (jB e han), jA (jB e hcn), jA n]
   exact e
 · refine PySem.W.makeFunction_hit (cv := .ref c) hcl I.ok.glob hg hcode C (I.hok T _ hT) (by exact trivial) (by simp [codeAmong, rawInt]) (bT hT) fun ctv doc h' tk k1 k2 => ?_
   have I2 := I.laidX (t' := tk) (a := h'.objs.size) (φ := nfP x (qualnameIn X.env x x) args body scope (jK X.env.cells scope.names []) h'.objs.size c) (h' := h'.push (PySem.W.fnMade x (qualnameIn X.env x x) args body scope (jK X.env.cells scope.names []) doc ((X.mg "__name__").getD .none) c ctv)) (fun b u q => Heap.get?_push_of_some _ (k1 b u q)) k2 ⟨doc, _, ctv, Heap.get?_push_size _ rfl⟩ ⟨_, Heap.get?_push_size _ rfl⟩ nfP.stay
   have han : H h'.objs.size = none := I.hok.fresh k2
   refine wpAny_bind (wpAny_standAt (wpAny_bind (wpAny_bindName (store_ok (v := .ref h'.objs.size) I2 hN hj lx rfl (fun s' I' => wpAny_pure ⟨_, _, I', ?_⟩) hf))))
   refine h _ c _ j7 (by rw [jA (jB hc han)]; exact hc) (by rw [jA (jB hT han)]; exact hT) (fun b o e n => ?_) han
   rw [jA (jB e han)]
   exact e
end
end L2
end
section
namespace L2
open PySem PySem.Spec PyProof.Rows
theorem lookup_no {β : Type} {x : Str} : ∀ {l : List (Str × β)}, (∀ v, (x, v) ∉ l) → l.lookup x = none
 | [], _ => rfl
 | (y, v) :: r, h => by
   rw [List.lookup_cons, beq_eq_false_iff_ne.mpr (fun e => h v (by rw [e]; exact List.mem_cons_self))]
   exact lookup_no fun w hw => h w (List.mem_cons_of_mem _ hw)
theorem lookup_app {β : Type} {x : Str} : ∀ {l m : List (Str × β)}, (l ++ m).lookup x = (l.lookup x).or (m.lookup x)
 | [], _ => rfl
 | (y, v) :: r, m => by
   rw [List.cons_append, List.lookup_cons, List.lookup_cons, lookup_app]
   cases x == y <;> rfl
theorem rev_lookup : ∀ {ps : List Str} {us : List Value} {i : Nat} {x : Str} {u : Value}, ps.Nodup → ps[i]? = some x → us[i]? = some u → (ps.zip us).reverse.lookup x = some u
 | [], _, _, _, _, _, h, _ => by simp at h
 | _ :: _, [], _, _, _, _, _, h => by simp at h
 | p :: ps, w :: us, 0, x, u, nd, h1, h2 => by
   simp at h1 h2
   subst h1 h2
   rw [List.zip_cons_cons, List.reverse_cons, lookup_app, lookup_no fun v hv => (List.nodup_cons.mp nd).1 (List.of_mem_zip (List.mem_reverse.mp hv)).1, List.lookup_cons, beq_self_eq_true]
   rfl
 | p :: ps, w :: us, i + 1, x, u, nd, h1, h2 => by
   rw [List.zip_cons_cons, List.reverse_cons, lookup_app, rev_lookup (i := i) (List.nodup_cons.mp nd).2 (by simpa using h1) (by simpa using h2)]
   rfl
noncomputable def cxN (P : Program) (w : World) (K : W.Frag) (mg : Str → Option Value) (base : Heap) (N : List Str) (qual : Str) (scope : Scope) (f : Addr) (cd : Value) (cl : List (Str × Addr)) (A : Around) (outer : List Env) (s : Shared) (H : Hp) : Cx where
 prog := P
 w := w
 K := K
 mg := mg
 base := base
 A := A.deeper (PySem.W.envX qual scope s.heap.objs.size f cd cl)
 N := N
 s₀ := s
 H₀ := H
 env := PySem.W.envX qual scope s.heap.objs.size f cd cl
 outer := outer
 stack := PySem.W.envX qual scope s.heap.objs.size f cd cl :: outer
 ex := []
 calm := true
 fn := fun _ => false
 pn := []
 xe := fun _ _ => False
structure ClOk (cl : List (Str × Addr)) (s : Shared) (H : Hp) : Prop where
 inj : ∀ x y c, cl.lookup x = some c → cl.lookup y = some c → x = y
 cell : ∀ x c, cl.lookup x = some c → (∃ v, s.heap.IsCell c v) ∧ H c = none
noncomputable def FvOk (fs : List Str) (fv : List V) (cl : List (Str × Addr)) (s : Shared) : Prop := fv.length = fs.length ∧ ∀ (i : Nat) (x : Str) (v : V), fs[i]? = some x → fv[i]? = some v → ∃ c u, cl.lookup x = some c ∧ RelV v u ∧ s.heap.IsCell c (some u)
structure NScope (N ps fs : List Str) (sc : Scope) : Prop where
 kind : sc.kind = .function
 co : sc.isCoroutine = false
 gen : sc.isGenerator = false
 nd : N.Nodup
 pre : N.take (ps.length + fs.length) = ps ++ fs
 par : ∀ x ∈ ps, sc.names.lookup x = some .local
 fre : ∀ x ∈ fs, sc.names.lookup x = some .free
 all : ∀ x, sc.names.lookup x = some .free → x ∈ fs
 nocell : ∀ y ∈ sc.names, y.2 ≠ .cell
noncomputable def startN (N : List Str) (vs fv : List V) : St := kR N (vs ++ fv)
section
variable {P : Program} {w : World} {K : W.Frag} {mg : Str → Option Value} {base : Heap} {N ps fs : List Str} {qual : Str} {scope : Scope} {f : Addr} {cd : Value} {cl : List (Str × Addr)} {A : Around} {outer : List Env} {s : Shared} {H : Hp} {us : List Value} {vs fv : List V}
theorem inv_startN {h1 : Heap} {tk : Nat} (S : NScope N ps fs scope) (hd : A.handled = none) (e0 : Env0 P w K mg base A outer s H) (hl : us.length = ps.length) (r : Vals vs us) (C : ClOk cl s H) (Fv : FvOk fs fv cl s)
   (ns : h1.Ns s.heap.objs.size fun x => (ps.zip us).reverse.lookup x) (hk : ∀ b o, s.heap.get? b = some o → h1.get? b = some o) :
   Inv (cxN P w K mg base N qual scope f cd cl A outer s H) [] (startN N vs fv) H { s with heap := h1, toks := tk } := by
 have hpl : ps.length + fs.length ≤ N.length := by have := congrArg List.length S.pre; rw [List.length_take, List.length_append] at this; lia
 have noA : ∀ b : Addr, b ∉ (cxN P w K mg base N qual scope f cd cl A outer s H).ex := fun b z => absurd (show b ∈ ([] : List Addr) from z) (by simp)
 have vl : vs.length = ps.length := r.length.trans hl
 refine ⟨⟨e0.mod, S.kind, rfl, rfl, Nat.le_refl _, C.inj, fun y hy => ?_, fun y c z => (nomatch z), fun _ => hd, Around.frames_deeper e0.frames, .inr ⟨rfl, rfl⟩, fun b z => absurd z (noA b), e0.bs, e0.bsz, fun b _ _ => noA b, fun b z => absurd z (noA b), e0.funs, e0.frf⟩,
   rfl, e0.bare, Un.kept hk, ⟨_, ns, fun i y v h1' h2 h3 => ?_⟩, fun y c h => ?_, e0.hok.fresh (Nat.le_refl _), fun y c h => (C.cell y c h).2, fun p hp => absurd (show p ∈ ([] : List (Addr × Obj)) from hp) (by simp), e0.hok.kept hk, ?_⟩
 · have hy : scope.names.lookup y = some .cell ∨ scope.names.lookup y = some .free := hy
   rcases hy with hy | hy
   · exact absurd rfl (S.nocell _ (PySem.mem_of_lookup hy))
   · have m := S.all y hy
     obtain ⟨i, hi⟩ := List.getElem?_of_mem m
     have hi2 : i < fv.length := by rw [Fv.1]; exact (List.getElem?_eq_some_iff.mp hi).1
     obtain ⟨c, u, e, _⟩ := Fv.2 i y fv[i] hi (by simp [hi2])
     exact ⟨c, e⟩
 · have h1' : N[i]? = some y := h1'
   have hlen : (vs ++ fv).length = ps.length + fs.length := by rw [List.length_append, vl, Fv.1]
   have hi : i < (vs ++ fv).length := by
     unfold startN kR at h2
     by_cases hi : i < (vs ++ fv).length
     · exact hi
     · rw [List.getElem?_append_right (by simpa using hi)] at h2
       rw [List.getElem?_replicate] at h2
       split at h2 <;> cases h2
   have hv : (vs ++ fv)[i]? = some v := by
     unfold startN kR at h2
     rw [List.getElem?_append_left (by simpa using hi), List.getElem?_map] at h2
     cases e : (vs ++ fv)[i]? with
     | none => rw [e] at h2; cases h2
     | some a => rw [e] at h2; cases h2; rfl
   have hy : (ps ++ fs)[i]? = some y := by
     rw [← S.pre, List.getElem?_take_of_lt (by lia)]
     exact h1'
   by_cases hi1 : i < ps.length
   · rw [List.getElem?_append_left hi1] at hy
     rw [List.getElem?_append_left (by lia)] at hv
     obtain ⟨u, hu, rv⟩ := r.get hv
     have ndP : ps.Nodup := by
       have : (ps ++ fs).Nodup := by rw [← S.pre]; exact S.nd.sublist (List.take_sublist _ _)
       exact (List.nodup_append.mp this).1
     exact ⟨u, rv, .inl ⟨S.par y (List.mem_of_getElem? hy), rev_lookup ndP hy hu⟩⟩
   · rw [List.getElem?_append_right (by lia)] at hy
     rw [List.getElem?_append_right (by lia), vl] at hv
     obtain ⟨c, u, e, rv, o, ho, hd⟩ := Fv.2 _ y v hy hv
     exact ⟨u, rv, .inr ⟨.inr (S.fre y (List.mem_of_getElem? hy)), c, e, o, hk _ _ ho, hd⟩⟩
 · obtain ⟨⟨v, o, ho, hd⟩, _⟩ := C.cell y c h
   exact ⟨v, o, hk _ _ ho, hd⟩
 · unfold startN kR
   show _ = N.length
   rw [List.length_append, List.length_map, List.length_replicate, List.length_append, vl, Fv.1]
   lia
end
structure FnN (P : Program) (w : World) (K : W.Frag) (mg : Str → Option Value) (base : Heap) (k : Nat) (x q : Str) (args : Arguments) (body : List Stmt) (scope : Scope) (ps fs : List Str) (sp : List V → Sp) : Prop where
 len : ∀ fv vs H Q E, sp fv vs H Q E → vs.length = ps.length
 run : ∀ (A : Around) (outer : List Env) (s : Shared) (H : Hp) (a c : Addr) (cl : List (Str × Addr)) (us : List Value) (vs fv : List V) (Q : VK) (E : XK), Room k A → Env0 P w K mg base A outer s H → nfP x q args body scope cl a c s.heap → ncP q c s.heap → ClOk cl s H → FvOk fs fv cl s → Vals vs us → sp fv vs H Q E →
   codeAny (model P w) A (.call (.ref a) ⟨us, []⟩) (CR CX0 outer P w H s Q E) s
theorem fn_ofN {P : Program} {w : World} {K : W.Frag} {mg : Str → Option Value} {base : Heap} {k : Nat} {x q : Str} {args : Arguments} {body : List Stmt} {scope : Scope} {N ps fs : List Str} {sp : List V → Sp} (S : NScope N ps fs scope) (len : ∀ fv vs H Q E, sp fv vs H Q E → vs.length = ps.length)
   (hb : ∀ cl doc pm c ctv (us : List Value), us.length = ps.length → bindArgs (PySem.W.fnX x q args body scope cl .none .none doc pm none (.ref c) ctv) ⟨us, []⟩ = pure (ps.zip us))
   (hbody : ∀ (A : Around) (outer : List Env) (s : Shared) (H : Hp) (a c : Addr) (cl : List (Str × Addr)) (vs fv : List V) (Q : VK) (E : XK), Room k (A.deeper (PySem.W.envX q scope s.heap.objs.size a (.ref c) cl)) → sp fv vs H Q E →
     ∃ t, PSs (cxN P w K mg base N q scope a (.ref c) cl A outer s H) body t ∧ t { nx := fun _ H' => Q .non H', rt := Q } (startN N vs fv) H) :
   FnN P w K mg base (k + 1) x q args body scope ps fs sp := by
 refine ⟨len, fun A outer s H a c cl us vs fv Q E hr e0 hf hc C Fv r hsp => ?_⟩
 have hl : us.length = ps.length := r.length.symm.trans (len _ _ _ _ _ hsp)
 obtain ⟨doc, pm, ctv, ho⟩ := hf
 have lim : s.heap.NoLimit := e0.mod.nolimit.keeps fun b o e => (e0.bs b o e).1
 refine codeAny_call_def (body := body) (binds := ps.zip us) hr.depth ho rfl lim hc rfl (.of_eq (hb cl doc pm c ctv us hl)) S.nocell (fun y hy => S.par y.1 (List.of_mem_zip hy).1) (fun h1 ns hk => ?_) S.co S.gen S.kind
 obtain ⟨t, ht, hq⟩ := hbody A outer s H a c cl vs fv Q E (hr.deeper _) hsp
 have I : Inv (cxN P w K mg base N q scope a (.ref c) cl A outer s H) [] (startN N vs fv) H { s with heap := h1, toks := s.toks + (ps.zip us).length } := inv_startN S hr.hd e0 hl r C Fv ns hk
 refine wpAny_mono (ht [] _ (startN N vs fv) H _ I hq) (fun fl s' hs => ?_) fun e s' hs => False.elim hs
 have fin : ∀ {σ' : St} {H' : Hp} {v : V} {u : Value}, Inv (cxN P w K mg base N q scope a (.ref c) cl A outer s H) [] σ' H' s' → RelV v u → Q v H' → CE outer P w H s Q u s' :=
   fun {σ' H' v u} J rv q => ⟨v, H', J.os, J.bare, J.base, J.hok, rv, q⟩
 cases fl with
 | ret u =>
   obtain ⟨v, σ', H', J, rv, q⟩ := hs
   exact fin J rv q
 | next =>
   obtain ⟨σ', H', J, q⟩ := hs
   exact fin (v := V.non) (u := Value.none) J rfl q
 | brk =>
   obtain ⟨_, _, _, q⟩ := hs
   exact False.elim q
 | cont =>
   obtain ⟨_, _, _, q⟩ := hs
   exact False.elim q
end L2
end
section
namespace L2
open PySem PySem.Spec PyProof.Rows
noncomputable def slotsAre (σ : St) (is : List Nat) (fv : List V) : Prop := is.map (fun i => (σ[i]?).getD none) = fv.map some
noncomputable def tNest (σ0 : Option St) (j : Nat) (is : List Nat) (x q : Str) (args : Arguments) (body : List Stmt) (scope : Scope) (cl : List (Str × Addr)) (sp : List V → Sp) (t : TA) : TE := fun σ H Q => ∃ a, σ[j]? = some (some (.ref a)) ∧ t σ H fun vs H1 => ∃ c fv, H1 a = some (.ext (nfP x q args body scope cl a c)) ∧ H1 c = some (.ext (ncP q c)) ∧ slotsAre (σ0.getD σ) is fv ∧ sp fv vs H1 Q E0
section
variable {X : Cx} {pins : List (Addr × Obj)} {σ : St} {H : Hp} {s : Shared} {fs : List Str} {fv : List V} {is : List Nat} {scope : Scope}
noncomputable def FsAt (X : Cx) (fs : List Str) (is : List Nat) : Prop := is.length = fs.length ∧ ∀ (k : Nat) (x : Str), fs[k]? = some x → ∃ i, is[k]? = some i ∧ X.N[i]? = some x ∧ (X.env.scope.names.lookup x = some .cell ∨ X.env.scope.names.lookup x = some .free)
theorem Inv.clOk (I : Inv X pins σ H s) (hfree : ∀ y ∈ scope.names, y.2 = .free → X.env.scope.names.lookup y.1 = some .cell ∨ X.env.scope.names.lookup y.1 = some .free) : ClOk (jK X.env.cells scope.names []) s H := by
 have sub : ∀ x c, (jK X.env.cells scope.names []).lookup x = some c → X.env.cells.lookup x = some c := closOf_sub scope.names [] (fun y hy hf => I.ok.has y.1 (hfree y hy hf)) (fun x c e => by cases e)
 exact ⟨fun x y c h1 h2 => I.ok.inj x y c (sub x c h1) (sub y c h2), fun x c h => ⟨I.cell x c (sub x c h), I.freeC x c (sub x c h)⟩⟩
theorem Inv.fvOk (I : Inv X pins σ H s) (hfree : ∀ y ∈ scope.names, y.2 = .free → X.env.scope.names.lookup y.1 = some .cell ∨ X.env.scope.names.lookup y.1 = some .free) (hfs : ∀ x ∈ fs, scope.names.lookup x = some .free) (ha : FsAt X fs is) (hs : slotsAre σ is fv) : FvOk fs fv (jK X.env.cells scope.names []) s := by
 have hl : fv.length = fs.length := by
   have := congrArg List.length hs
   rw [List.length_map, List.length_map] at this
   rw [← this, ha.1]
 refine ⟨hl, fun k x v h1 h2 => ?_⟩
 obtain ⟨i, hi, hN, hk⟩ := ha.2 k x h1
 have e : (σ[i]?).getD none = some v := by
   have := congrArg (fun l => l[k]?) hs
   simp only [List.getElem?_map, hi, h2, Option.map_some] at this
   exact Option.some.inj this
 have e2 : σ[i]? = some (some v) := by
   cases q : σ[i]? with
   | none => rw [q] at e; cases e
   | some z => rw [q] at e; exact congrArg some e
 obtain ⟨m, hn, hl⟩ := I.loc
 obtain ⟨u, r, l⟩ := hl i x v hN e2 (.inr hk)
 obtain ⟨c, hc⟩ := closOf_has (cells := X.env.cells) (x := x) scope.names [] (.inl (mem_lookup (hfs x (List.mem_of_getElem? h1))))
 have sub := closOf_sub (cells := X.env.cells) scope.names [] (fun y hy hf => I.ok.has y.1 (hfree y hy hf)) (fun x c e => by cases e) x c hc
 rcases l with ⟨lk, _⟩ | ⟨_, c', hc', z⟩
 · have lk' : X.env.scope.names.lookup x = some .local := lk
   rcases hk with z | z <;> rw [lk'] at z <;> cases z
 · rw [sub] at hc'
   cases hc'
   exact ⟨c, u, hc, r, z⟩
end
section
variable {X : Cx} {k : Nat} {x q : Str} {args : Arguments} {body : List Stmt} {scope : Scope} {ps fs : List Str} {is : List Nat} {sp : List V → Sp} {p pos : Pos} {e : Expr} {es : List Expr} {t : TA} {j : Nat}
theorem run_nest {Y : Cx} {pins : List (Addr × Obj)} {σ : St} {H : Hp} {s : Shared} {Q : VK} {cl : List (Str × Addr)} {a c : Addr} {us : List Value} {vs fv : List V} (F : FnN Y.prog Y.w Y.K Y.mg Y.base k x q args body scope ps fs sp) (hr : Room k Y.A) (I : Inv Y pins σ H s) (h1 : H a = some (.ext (nfP x q args body scope cl a c))) (h2 : H c = some (.ext (ncP q c))) (C : ClOk cl s H) (Fv : FvOk fs fv cl s) (r : Vals vs us) (hs : sp fv vs H Q E0) :
   wpAny (model Y.prog Y.w) Y.A (call (.ref a) us) (EP Y pins σ Q) Y.xe s := by
 obtain ⟨p1, _, _⟩ := (show ObjOk Y.prog Y.w H s.heap a (.ext _) from I.hok a _ h1)
 obtain ⟨p2, _, _⟩ := (show ObjOk Y.prog Y.w H s.heap c (.ext _) from I.hok c _ h2)
 refine wpAny_call (codeAny_mono (F.run Y.A Y.stack s H a c cl us vs fv Q E0 hr I.env0 p1 p2 C Fv r hs) fun r s' hq => ?_)
 cases r with
 | error e => exact hq.elim
 | ok fl =>
   cases fl with
   | ret u => exact I.after hq
   | next => exact False.elim hq
   | brk => exact False.elim hq
   | cont => exact False.elim hq
theorem fnAt_of {Y : Cx} {pins : List (Addr × Obj)} {σ : St} {H : Hp} {s : Shared} {cl : List (Str × Addr)} {a c : Addr} (I : Inv Y pins σ H s) (h1 : H a = some (.ext (nfP x q args body scope cl a c))) : PySem.W.FnAt a s.heap := by
 obtain ⟨⟨d, m, t, e⟩, _, _⟩ := (show ObjOk Y.prog Y.w H s.heap a (.ext _) from I.hok a _ h1)
 exact ⟨_, _, _, _, e⟩
theorem je_nest (F : FnN X.prog X.w X.K X.mg X.base k x q args body scope ps fs sp) (hr : Room k X.A) (hN : X.N[j]? = some x) (hv : Vis1 X x) (hfree : ∀ y ∈ scope.names, y.2 = .free → X.env.scope.names.lookup y.1 = some .cell ∨ X.env.scope.names.lookup y.1 = some .free) (hfs : ∀ x ∈ fs, scope.names.lookup x = some .free) (hat : FsAt X fs is)
   (ha : JA X (e :: es) t) (he : starEach (e :: es) X.env = (false, eval e X.env) :: starEach es X.env) (hdb : (x == ("__debug__" : Str)) = false := by decide) (hcd : (x == ("__classdict__" : Str)) = false := by decide) (hpl : (backTo pos (starEach es X.env)).any (·.1) = false := by rfl) :
   JE X (.Call (.Name x p) (e :: es) [] pos) (tNest none j is x q args body scope (jK X.env.cells scope.names []) sp t) := by
 refine ⟨fun pins s σ H Q I h => ?_⟩
 obtain ⟨a, hj, h⟩ := h
 refine wpAny_Call_Name_kw (thn (pe_var (pos := p) hN hv.a hdb hcd pins s σ H (fun v H' => v = .ref a ∧ H' = H) I ⟨_, hj, rfl, rfl⟩) fun v s1 ⟨v', H1, I1, r1, q1, q2⟩ => ?_)
 subst q1 q2
 cases (show v = Value.ref a from r1)
 have hX := thn (ha.h pos pins s1 σ H1 _ I1 h) fun us s2 (z : AP X pins σ _ us s2) => show PySem.W.FnAt a s2.heap ∧ wpAny (model X.prog X.w) X.A (call (.ref a) ([] ++ us)) (EP X pins σ Q) X.xe s2 from by
   obtain ⟨vs, H2, I2, r, c, fv, h1, h2, h3, h4⟩ := z
   exact ⟨fnAt_of I2 h1, run_nest F hr I2 h1 h2 (I2.clOk hfree) (I2.fvOk hfree hfs hat h3) r h4⟩
 rw [he] at hX ⊢
 exact PySem.W.callWith_of (by show ((false || (backTo pos (starEach es X.env)).any (·.1)) || false) = false; rw [hpl]; rfl) PySem.W.keeps_F (Calls.evalArgs_plain hX)
theorem je_nestB {sc : Scope} {cl : List (Str × Addr)} {C : Addr} {Nc : List Str} {fp : List Addr} {s0 : Shared} {H0 : Hp} {pins0 : List (Addr × Obj)} {σ0 : St} (I0 : Inv X pins0 σ0 H0 s0) (hfp : ∀ b ∈ fp, FpOk X pins0 H0 b)
   (F : FnN X.prog X.w X.K X.mg X.base k x q args body scope ps fs sp) (hr : Room k X.A) (hN : Nc[j]? = some x) (hv : Vis1 (blk X sc cl C Nc fp s0 H0) x) (hfree : ∀ y ∈ scope.names, y.2 = .free → X.env.scope.names.lookup y.1 = some .cell ∨ X.env.scope.names.lookup y.1 = some .free) (hfs : ∀ x ∈ fs, scope.names.lookup x = some .free) (hat : FsAt X fs is)
   (ha : JA (blk X sc cl C Nc fp s0 H0) (e :: es) t) (he : starEach (e :: es) (blk X sc cl C Nc fp s0 H0).env = (false, eval e (blk X sc cl C Nc fp s0 H0).env) :: starEach es (blk X sc cl C Nc fp s0 H0).env) (hdb : (x == ("__debug__" : Str)) = false := by decide) (hcd : (x == ("__classdict__" : Str)) = false := by decide) (hpl : (backTo pos (starEach es (blk X sc cl C Nc fp s0 H0).env)).any (·.1) = false := by rfl) :
   JE (blk X sc cl C Nc fp s0 H0) (.Call (.Name x p) (e :: es) [] pos) (tNest (some σ0) j is x q args body scope (jK X.env.cells scope.names []) sp t) := by
 have sub : ∀ x c, (jK X.env.cells scope.names []).lookup x = some c → X.env.cells.lookup x = some c := closOf_sub scope.names [] (fun y hy hf => I0.ok.has y.1 (hfree y hy hf)) (fun x c e => by cases e)
 have nfp : ∀ {x c}, X.env.cells.lookup x = some c → c ∉ fp := fun {x c} h z => (hfp c z).2.2.2.2.1 x c h rfl
 refine ⟨fun pins s σ H Q I h => ?_⟩
 obtain ⟨a, hj, h⟩ := h
 refine wpAny_Call_Name_kw (thn (pe_var (pos := p) (show (blk X sc cl C Nc fp s0 H0).N[j]? = some x from hN) hv.a hdb hcd pins s σ H (fun v H' => v = .ref a ∧ H' = H) I ⟨_, hj, rfl, rfl⟩) fun v s1 ⟨v', H1, I1, r1, q1, q2⟩ => ?_)
 subst q1 q2
 cases (show v = Value.ref a from r1)
 have hX := thn (ha.h pos pins s1 σ H1 _ I1 h) fun us s2 (z : AP (blk X sc cl C Nc fp s0 H0) pins σ _ us s2) => show PySem.W.FnAt a s2.heap ∧ wpAny (model X.prog X.w) X.A (call (.ref a) ([] ++ us)) (EP (blk X sc cl C Nc fp s0 H0) pins σ Q) (blk X sc cl C Nc fp s0 H0).xe s2 from by
   obtain ⟨vs, H2, I2, r, c, fv, h1, h2, h3, h4⟩ := z
   have un : Un (frs X.stack) fp H0 H2 s0.heap s2.heap := I2.base
   have cellK : ∀ {y d v}, X.env.cells.lookup y = some d → s0.heap.IsCell d v → s2.heap.IsCell d v := fun {y d v} hd ⟨o, ho, hq⟩ => by
     obtain ⟨sl, e⟩ := un.any ho (I0.freeC y d hd) (nfp hd)
     exact ⟨_, e, hq⟩
   have C0 := I0.clOk hfree
   obtain ⟨f1, f2⟩ := I0.fvOk hfree hfs hat h3
   refine ⟨fnAt_of I2 h1, run_nest (Y := blk X sc cl C Nc fp s0 H0) F hr I2 h1 h2 ⟨C0.inj, fun y d hd => ?_⟩ ⟨f1, fun i y v e1 e2 => ?_⟩ r h4⟩
   · obtain ⟨⟨v, z⟩, n⟩ := C0.cell y d hd
     obtain ⟨o, ho, hq⟩ := id z
     exact ⟨⟨v, cellK (sub y d hd) z⟩, un.free d o ho n (nfp (sub y d hd))⟩
   · obtain ⟨d, u, g1, g2, g3⟩ := f2 i y v e1 e2
     exact ⟨d, u, g1, g2, cellK (sub y d g1) g3⟩
 rw [he] at hX ⊢
 exact PySem.W.callWith_of (by show ((false || (backTo pos (starEach es (blk X sc cl C Nc fp s0 H0).env)).any (·.1)) || false) = false; rw [hpl]; rfl) PySem.W.keeps_F (Calls.evalArgs_plain hX)
end
noncomputable def tCompN (m : List (Option Nat)) (wi : TI) (g : TG) (tt : TT) (te : St → TE) : TE := fun σ H Q => wi σ H (yW m g tt (te σ) σ Q)
section
variable {X : Cx} {tg iter elt : Expr} {ifs : List Expr} {sc : Scope} {pos : Pos} {wi : TI} {g : TG} {tt : TT} {te : St → TE} {m : List (Option Nat)} {Nc : List Str}
theorem pe_compN (hc : X.calm = true) (hi : PI X tg iter wi) (hkind : sc.kind = .function) (hcell : ∀ y ∈ sc.names, y.2 ≠ .cell) (hnames : ∀ y ∈ sc.names, y.2 = .local → sc.names.lookup y.1 = some .local)
   (hfree : ∀ y ∈ sc.names, y.2 = .free → X.env.scope.names.lookup y.1 = some .cell ∨ X.env.scope.names.lookup y.1 = some .free) (hm : FreeAt X sc Nc m)
   (hg : ∀ cl C fp s H, PG (blk X sc cl C Nc fp s H) tg g) (ht : ∀ cl C fp s H, PTs (blk X sc cl C Nc fp s H) ifs tt) (he : ∀ cl C fp s H pins σ, Inv X pins σ H s → (∀ b ∈ fp, FpOk X pins H b) → PE (blk X sc cl C Nc fp s H) elt (te σ))
   (hs : ∀ x, foldedSetIterable iter X.env x = pure x := by intro _; rfl) : PE X (.ListComp elt [⟨tg, iter, ifs, 0⟩] sc pos) (tCompN m wi g tt te) := by
 intro pins s σ H Q I h
 rw [eval_ListComp]
 have hcl : ∀ y ∈ sc.names, y.2 = .free → ∃ c, X.env.cells.lookup y.1 = some c := fun y hy hf => I.ok.has y.1 (hfree y hy hf)
 refine wpAny_comprehension_free (use := none) rfl hs (closFor hcl) hkind hnames (thn (hi pins s σ H _ I h) fun v s1 h1 => thn h1 fun itv s2 h2 => ?_)
 obtain ⟨it, fp, tn, J, H2, e, I2, T, st2, f2, hQ⟩ := h2
 subst e
 have hlt : ∀ b ∈ fp, b < s2.heap.objs.size := fun b hb => by
   obtain ⟨o, e, _⟩ := T.obj 0 _ st2 b hb
   exact Heap.lt_size e
 refine wpAny_newObj_type (wpAny_newFunctionEnv hcell (by intro y hy; simp at hy) (fun h₁ hns₁ hsb₁ => ?_) hkind)
 have I3 : Inv X pins σ (upd H2 s2.heap.objs.size (.lst [])) { s2 with heap := s2.heap.push { cls := .type "list", data := .seq ([] : List Value).toArray } } := I2.lnew (t' := s2.toks) .nil (Nat.zero_le _)
 obtain ⟨W, ⟨n0, w0⟩, turn⟩ := hQ s2.heap.objs.size I2.fresh
 have hD3 : ∀ b ∈ fp, b ≠ s2.heap.objs.size := fun b hb => Nat.ne_of_lt (hlt b hb)
 have f3 : ∀ b ∈ fp, FpOk X pins (upd H2 s2.heap.objs.size (.lst [])) b := fun b hb => by
   obtain ⟨a0, a1⟩ := f2 b hb
   exact ⟨by rw [jA (hD3 b hb)]; exact a0, a1⟩
 generalize hE : ({ s2 with heap := s2.heap.push { cls := .type "list", data := .seq ([] : List Value).toArray } } : Shared) = s3 at I3 hns₁ hsb₁ ⊢
 generalize hH3 : upd H2 s2.heap.objs.size (.lst []) = H3 at I3 f3 w0
 have hsz3 : s3.heap.objs.size = s2.heap.objs.size + 1 := by rw [← hE]; exact Heap.size_push _ _
 have old : ∀ b o, s3.heap.get? b = some o → h₁.get? b = some o := fun b o e => hsb₁.extBut b o (Nat.ne_of_lt (Heap.lt_size e)) (Heap.get?_push_of_some _ e)
 have old2 : ∀ b o, s2.heap.get? b = some o → h₁.get? b = some o := fun b o e => old b o (by rw [← hE]; exact Heap.get?_push_of_some _ e)
 have I4 := blk_start (fp := fp) (tk := s3.toks + ([] : List (Str × Value)).length) I3 hkind hcell hfree hm f3 (fun b hb => show b < s3.heap.objs.size by rw [hsz3]; exact Nat.lt_succ_of_lt (hlt b hb)) hns₁ old
 have st4 : tn 0 h₁ := T.keep _ _ _ st2 fun b hb o e => old2 b o e
 have loop : codeAny (model X.prog X.w) X.A (.compLoop (.ListComp elt [⟨tg, iter, ifs, 0⟩] sc pos) 0 (.ref it) (.ref s2.heap.objs.size) (compEnvC sc (jK X.env.cells sc.names []) s3.heap.objs.size X.env))
     (compPost (model X.prog X.w) X.A X.xe none (EP X pins σ Q) (.ref s2.heap.objs.size) s3.heap.objs.size) { s3 with heap := h₁, toks := s3.toks + ([] : List (Str × Value)).length } := by
   generalize hX : blk X sc (jK X.env.cells sc.names []) s3.heap.objs.size Nc fp s3 H3 = Xb at I4
   have eP : Xb.prog = X.prog := by rw [← hX]; rfl
   have ew : Xb.w = X.w := by rw [← hX]; rfl
   have eK : Xb.K = X.K := by rw [← hX]; rfl
   have eA : Xb.A = X.A := by rw [← hX]; rfl
   have ec : Xb.calm = true := by rw [← hX]; exact hc
   have ee : Xb.env = compEnvC sc (jK X.env.cells sc.names []) s3.heap.objs.size X.env := by rw [← hX]; rfl
   have ex : Xb.xe = fun _ _ => False := by rw [← hX]; rfl
   have hgb : PG Xb tg g := by rw [← hX]; exact hg _ _ _ _ _
   have htb : PTs Xb ifs tt := by rw [← hX]; exact ht _ _ _ _ _
   have heb : PE Xb elt (te σ) := by rw [← hX]; exact he _ _ _ _ _ _ _ I3 f3
   have stat : ∀ {H' : Hp}, (∀ b ∈ fp, H' b = none) → ∀ b ∈ fp, FpOk Xb [] H' b := fun {H'} hn b hb => by
     obtain ⟨o, eo, _⟩ := T.obj _ _ st4 b hb
     have q := I4.ok.exf b (by rw [← hX]; exact hb)
     exact ⟨hn b hb, q.1, I4.ok.exfs b (by rw [← hX]; exact hb), .inl (by rw [← hX]; exact hb), q.2, fun p hp => absurd hp (by rw [← hX]; simp [blk])⟩
   have fr4 : ∀ b ∈ fp, H3 b = none := fun b hb => (f3 b hb).1
   unfold PG at hgb
   unfold PTs at htb
   unfold PE at heb
   rw [eP, ew, eA, ee, ex] at hgb htb heb
   refine comp_turns (fun n z => ∃ i σ' H' ys, Inv Xb [] σ' H' z ∧ tn i z.heap ∧ (∀ b ∈ fp, H' b = none) ∧ W i n σ' H' ys) ?_ n0 ⟨0, _, H3, [], I4, st4, fr4, w0⟩
   rintro n z ⟨i, σ5, H5, ys, I5, st5, fr5, w5⟩
   obtain ⟨hD, hlen, way⟩ := turn i n σ5 H5 ys w5
   rcases way with ⟨stop, q⟩ | ⟨go, N, hN, step⟩
   · have R := T.done Xb eP ew eK ec i [] z σ5 H5 (fun _ _ => False) I5 (stat fr5) st5 stop
     rw [eA] at R
     refine thn R fun r z1 ⟨hr, I6⟩ => ?_
     subst hr
     obtain ⟨mm, hn6, _⟩ := I6.loc
     rw [ee] at hn6
     refine ⟨mm, hn6, fun h' sb => ?_⟩
     have u6 : Un (frs X.stack) fp H3 H5 s3.heap z1.heap := by
       have := I6.base
       rw [← hX] at this
       exact this
     have fC : H5 s3.heap.objs.size = none := by
       have := I6.free
       rw [ee] at this
       exact this
     have hok6 : HOk X.prog X.w H5 z1.heap := by
       have := I6.hok
       rw [eP, ew] at this
       exact this
     have os6 : z1.os = s3.os := by
       have := I6.os
       rw [← hX] at this
       exact this
     refine ⟨.ref s2.heap.objs.size, H5, I3.call' (s' := { z1 with heap := h' }) (ch := fp) os6 (u6.sameBut sb (Nat.le_refl _)) (hok6.sameBut sb fC) I6.bare (fun b hb => ?_), rfl, q⟩
     obtain ⟨a0, a1, a2, a3, a4, a5⟩ := f3 b hb
     exact ⟨a3, a1, a4, a5⟩
   · have R := T.item Xb eP ew eK ec i [] z σ5 H5 (fun _ _ => False) I5 (stat fr5) st5 go
     rw [eA] at R
     refine thn R fun r z1 ⟨u, hr, h6⟩ => ?_
     subst hr
     refine thn h6 fun _ z2 ⟨x, H7, I7, r7, y7, st7, fr7⟩ => ?_
     have I7' := I7.pinned (stat fr7) (T.obj _ _ st7)
     refine thn (hgb _ z2 σ5 H7 x u _ I7' r7 (step x H7 y7)) fun _ z3 ⟨σ8, H8, I8, q8⟩ => ?_
     refine thn (htb _ z3 σ8 H8 _ I8 q8) fun ok z4 ⟨H9, I9, q9⟩ => ?_
     have again : ∀ {σ7 : St} {Hz : Hp} {zz : Shared} {yy : List V} {n' : Nat}, Inv Xb ([] ++ pinsAt fp z2.heap) σ7 Hz zz → n' < n → W (i + 1) n' σ7 Hz yy → ∃ k, k < n ∧ ∃ i σ' H' ys, Inv Xb [] σ' H' zz ∧ tn i zz.heap ∧ (∀ b ∈ fp, H' b = none) ∧ W i k σ' H' ys := fun {σ7 Hz zz yy n'} Iz hn wz => by
       refine ⟨n', hn, i + 1, σ7, Hz, yy, Iz.unpinned, T.keep _ _ _ st7 fun b hb o e => (Iz.pin (b, o) (List.mem_append_right _ (List.mem_append_right _ (mem_pinsAt hb e)))).1, fun b hb => ?_, wz⟩
       obtain ⟨o, e, d⟩ := T.obj _ _ st7 b hb
       exact (Iz.pin (b, o) (List.mem_append_right _ (List.mem_append_right _ (mem_pinsAt hb e)))).2.1
     cases ok with
     | false =>
       obtain ⟨n', hn, w9⟩ := hN _ _ _ (show N σ8 H9 ys from q9)
       exact again I9 hn w9
     | true =>
       refine thn (heb _ z4 σ8 H9 _ I9 q9) fun xv z5 ⟨vv, H10, I10, r10, hD10, n10⟩ => ?_
       obtain ⟨n', hn, w10⟩ := hN _ _ _ n10
       have R := mt_append (X := Xb) _ z5 σ8 H10 (.ref s2.heap.objs.size) [vv] (.ref s2.heap.objs.size) [xv] (fun _ H' => H' = upd H10 s2.heap.objs.size (.lst (ys ++ [vv]))) I10 rfl (.cons r10 .nil) ⟨_, ys, vv, rfl, rfl, hD10, hlen, rfl⟩
       rw [eP, ew, eA, ex] at R
       refine thn R fun _ z6 ⟨_, H11, I11, _, e11⟩ => ?_
       subst e11
       exact again I11 hn w10
 exact codeAny_compStart_list loop (T.self _ 0 _ _ _ st4 loop)
theorem je_compN (hc : X.calm = true) (hi : JI X tg iter wi) (hkind : sc.kind = .function) (hcell : ∀ y ∈ sc.names, y.2 ≠ .cell) (hnames : ∀ y ∈ sc.names, y.2 = .local → sc.names.lookup y.1 = some .local)
   (hfree : ∀ y ∈ sc.names, y.2 = .free → X.env.scope.names.lookup y.1 = some .cell ∨ X.env.scope.names.lookup y.1 = some .free) (hm : FreeAt X sc Nc m)
   (hg : ∀ cl C fp s H, JG (blk X sc cl C Nc fp s H) tg g) (ht : ∀ cl C fp s H, JTs (blk X sc cl C Nc fp s H) ifs tt) (he : ∀ cl C fp s H pins σ, Inv X pins σ H s → (∀ b ∈ fp, FpOk X pins H b) → JE (blk X sc cl C Nc fp s H) elt (te σ))
   (hs : FoOk iter) : JE X (.ListComp elt [⟨tg, iter, ifs, 0⟩] sc pos) (tCompN m wi g tt te) := ⟨pe_compN hc hi.h hkind hcell hnames hfree hm (fun cl C fp s H => (hg cl C fp s H).h) (fun cl C fp s H => (ht cl C fp s H).h) (fun cl C fp s H pins σ I f => (he cl C fp s H pins σ I f).h) (hs.h _)⟩
end
end L2
end
section
namespace L2
open PySem PySem.Spec PyProof.Rows
noncomputable def OnlyTs (Ts : List Addr) (H : Hp) : Prop := ∀ b, H b = none ∨ (∃ o xs, H b = some (.frz o (.lst xs))) ∨ b ∈ Ts
theorem law_callTs {cts : List (Addr × Addr)} {P : Program} {w : World} {K : W.Frag} {mg mb : Str → Option Value} {CX : CXT} {k : Nat} {fa a : Addr} {fd : FuncData} {x : Str} {sp : Sp} {s₁ : Shared} {vs : List Value} {ns : List Int}
   (KX : K.In s₁.heap) (hns : s₁.heap.Ns mainGlobals mg) (hb : s₁.heap.Ns builtinsNs mb) (hbb : ∀ x : Str, x ≠ "__name__" → mb x = bootBuiltins x) (hlim : s₁.heap.NoLimit) (hg : s₁.gens = #[])
   (ha : s₁.heap.get? a = some { cls := .type "list", data := .seq vs.toArray }) (hi : IntsAre vs ns) (hl : ns.length ≤ sizeLine) (hr : Room k callerA) (hT : ∀ T ∈ cts.map (·.2), s₁.heap.get? T = some (PySem.W.tabObj #[])) (CH : ∀ p ∈ cts, PySem.W.CodeHd s₁.heap p.1 p.2) (hKT : ∀ T ∈ cts.map (·.2), K.lookup T = none)
   (F : ∀ base : Heap, K.In base → base.Ns mainGlobals mg → FnOk P w K mg base CX k fa fd [x] sp) (hbind : ∀ (s : Shared) (u : Value), BindsTo s fd ⟨[u], []⟩ [(x, u)])
   (hsp : ∀ H : Hp, (∀ T ∈ cts.map (·.2), H T = some (.tbl #[])) → SqL K H a (ns.map V.int) → sp [.ref a] H (fun v _ => v = .bl true) fun _ _ _ => False)
   (hCX : ∀ H e s', CX [] H s₁ (fun _ _ _ => False) e s' → False) :
   codeAny (model P w) callerA (.call (.ref fa) ⟨[.ref a], []⟩) (fun r s' => r = .ok (.ret (.bool true)) ∧ OldK s₁.heap s'.heap ∧ s'.os = s₁.os ∧ AllBare s'.gens) s₁ := by
 have rv := vals_ints hi
 have lenV := hi.length
 have core : ∀ H : Hp, OnlyTs (cts.map (·.2)) H → (∀ T ∈ cts.map (·.2), H T = some (.tbl #[])) → SqL K H a (ns.map V.int) → HOk P w H s₁.heap → (∀ b, H b ≠ none → b = a ∨ b ∈ cts.map (·.2)) → (H a ≠ none → K.lookup a = none) →
     codeAny (model P w) callerA (.call (.ref fa) ⟨[.ref a], []⟩) (fun r s' => r = .ok (.ret (.bool true)) ∧ OldK s₁.heap s'.heap ∧ s'.os = s₁.os ∧ AllBare s'.gens) s₁ := by
   intro H hO hHT hS hok hA hK
   have base_of : ∀ {b : Addr} {o : Obj}, s₁.heap.get? b = some o → H b = none → (hidT s₁.heap H).get? b = some o := fun e n => hidT_get e n
   have noA : ∀ {b : Addr} {o : Obj} {es : Array DictEntry} {ep : Nat}, s₁.heap.get? b = some o → o.data = .dict es ep → H b = none := fun {b o es ep} e d => by
     cases q : H b with
     | none => rfl
     | some u =>
       rcases hA b (by rw [q]; simp) with e' | e'
       · subst e'
         rw [ha] at e; cases e
         have d' : Data.seq vs.toArray _ = Data.dict es ep := d
         cases d'
       · rw [hT b e'] at e; cases e
         have d' : Data.fields _ = Data.dict es ep := d
         cases d'
   have nsK : ∀ {b : Addr} {m : Str → Option Value}, s₁.heap.Ns b m → (hidT s₁.heap H).Ns b m := fun {b m} ⟨o, es, ep, e, d, r⟩ => ⟨o, es, ep, base_of e (noA e d), d, r⟩
   have hKb : K.In (hidT s₁.heap H) := fun b o e => base_of (KX b o e) (by
     cases q : H b with
     | none => rfl
     | some u =>
       rcases hA b (by rw [q]; simp) with e' | e'
       · subst e'
         rw [hK (by rw [q]; simp)] at e; cases e
       · rw [hKT b e'] at e; cases e)
   have hM : Mod K mg (hidT s₁.heap H) := ⟨hKb, nsK hns, ⟨mb, nsK hb, hbb⟩, let ⟨mc, h1, h2⟩ := hlim; ⟨mc, nsK h1, h2⟩⟩
   have e0 : Env0 P w K mg (hidT s₁.heap H) callerA [] s₁ H := ⟨rfl, hM, fun b o e => of_hidT e, Nat.le_of_eq (hidT_size _ _), trivial, fun b hb => absurd (show b ∈ ([] : List Addr) from hb) (by simp), hok, .of_eq hg⟩
   refine codeAny_mono ((F _ hKb (nsK hns)).run callerA [] s₁ H ⟨[.ref a], []⟩ [.ref a] [.ref a] _ _ hr e0 (hbind s₁ (.ref a)) (.cons rfl .nil) (hsp H hHT hS)) fun r s' h => ?_
   cases r with
   | error e => exact (hCX H e s' h).elim
   | ok fl =>
     cases fl with
     | next => exact False.elim h
     | brk => exact False.elim h
     | cont => exact False.elim h
     | ret u =>
       obtain ⟨v, H', os, bare, un, hok', r', q⟩ := h
       have q' : v = .bl true := q
       subst q'
       obtain rfl : u = Value.bool true := r'
       have gr : ∀ T ∈ cts.map (·.2), ∃ more, s'.heap.get? T = some (PySem.W.tabObj (#[] ++ more)) := fun T hTm => by
         obtain ⟨more, z⟩ := un.tbls T _ (hHT T hTm)
         exact ⟨more, hok' T _ z⟩
       have kp : ∀ b o, b ∉ cts.map (·.2) → s₁.heap.get? b = some o → s'.heap.get? b = some o := fun b o hbT e => ?_
       · refine ⟨rfl, ⟨fun b o e => ?_, fun b o e => ?_⟩, os, bare⟩
         · by_cases hb : b ∈ cts.map (·.2)
           · obtain ⟨p, hp, rfl⟩ := List.mem_map.mp hb
             have q := hT _ hb
             rw [q] at e
             cases e
             obtain ⟨more, z⟩ := gr _ hb
             exact .inr (.inl ⟨((CH p hp).tab q).isCodeTable, rfl, #[], more, rfl, z⟩)
           · exact .inl (kp b o hb e)
         · by_cases hb : b ∈ cts.map (·.2)
           · obtain ⟨more, z⟩ := gr _ hb
             exact ⟨_, z⟩
           · exact ⟨o, kp b o hb e⟩
       cases q : H b with
       | none => exact un.keep b o e q (by intro z; exact absurd (show b ∈ ([] : List Addr) from z) (by simp)) (by simp)
       | some u =>
         rcases hO b with z | ⟨ob, xs, z⟩ | z
         · rw [q] at z; cases z
         · have z2 := un.frzs b ob _ z
           obtain ⟨e1, _⟩ := hok b _ z
           obtain ⟨e2, _⟩ := hok' b _ z2
           rw [e] at e1; cases e1
           exact e2
         · exact absurd z hbT
 have aT : a ∉ cts.map (·.2) := fun z => by rw [hT a z] at ha; cases ha
 cases hk : K.lookup a with
 | some o =>
   have e := KX a o hk
   rw [ha] at e
   cases e
   refine core (fun b => if b ∈ cts.map (·.2) then some (.tbl #[]) else none) (fun b => ?_) (fun T hm => if_pos hm) (.inr ⟨_, vs.toArray, _, hk, rfl, rfl, rfl, by rw [List.size_toArray, lenV]; exact hl, by simpa using rv⟩) (fun b u z => ?_) (fun b z => ?_) fun z => absurd (if_neg aT) z
   · by_cases hb : b ∈ cts.map (·.2)
     · exact .inr (.inr hb)
     · exact .inl (if_neg hb)
   · by_cases hb : b ∈ cts.map (·.2)
     · have z' := (if_pos hb).symm.trans z
       cases z'
       exact hT b hb
     · have z' := (if_neg hb).symm.trans z
       cases z'
   · by_cases hb : b ∈ cts.map (·.2)
     · exact .inr hb
     · exact absurd (if_neg hb) z
 | none =>
   refine core (fun b => if b ∈ cts.map (·.2) then some (.tbl #[]) else if b = a then some (.frz { cls := .type "list", data := .seq vs.toArray } (.lst (ns.map V.int))) else none) (fun b => ?_) (fun T hm => if_pos hm) (.inl (.inr ⟨{ cls := .type "list", data := .seq vs.toArray }, by dsimp only; rw [if_neg aT, if_pos rfl]⟩)) (fun b u z => ?_) (fun b z => ?_) fun _ => hk
   · by_cases hT' : b ∈ cts.map (·.2)
     · exact .inr (.inr hT')
     · by_cases hb : b = a
       · exact .inr (.inl ⟨_, _, by dsimp only; rw [if_neg hT', if_pos hb]⟩)
       · exact .inl (by dsimp only; rw [if_neg hT', if_neg hb])
   · dsimp only at z
     by_cases hT' : b ∈ cts.map (·.2)
     · rw [if_pos hT'] at z
       cases z
       exact hT b hT'
     · rw [if_neg hT'] at z
       by_cases hb : b = a
       · rw [if_pos hb] at z
         cases z
         subst hb
         exact ⟨ha, by rw [List.length_map]; exact hl, vs, _, rv, ha⟩
       · rw [if_neg hb] at z
         cases z
   · replace z : (if b ∈ cts.map (·.2) then some (HO.tbl #[]) else if b = a then some (HO.frz { cls := .type "list", data := .seq vs.toArray } (.lst (ns.map V.int))) else none) ≠ none := z
     by_cases hT' : b ∈ cts.map (·.2)
     · exact .inr hT'
     · by_cases hb : b = a
       · exact .inl hb
       · rw [if_neg hT', if_neg hb] at z
         exact absurd rfl z
theorem walk_ofTs {cts : List (Addr × Addr)} {l : PySem.W.OpenLaw} {n k : Nat} {q : Program} {loose : List Str} {XP : (Str → Option Value) → Heap → Prop} {YP : World → Heap → Prop} {d : DefRec} {K : Params → W.Frag} {CX : World → CXT} {sp : World → Sp} {x : Str}
   (hn : l.most = some n) (hn2 : n ≤ sizeLine) (hdf : d.params.defaults = []) (hr : Room k callerA)
   (hY : ∀ (w : World) (h : Heap), YP w h → (K w.params).In h ∧ ∀ T ∈ cts.map (·.2), h.get? T = some (PySem.W.tabObj #[])) (hcd : ∀ w : World, ∀ p ∈ cts, PySem.W.codeHdIn (K w.params) p.1 p.2 = true) (hKT : ∀ w : World, ∀ T ∈ cts.map (·.2), (K w.params).lookup T = none)
   (F : ∀ (w : World) (mg : Str → Option Value) (fa : Addr) (h : Heap), (K w.params).In h → h.Ns mainGlobals mg → mg d.name = some (.ref fa) →
     ∃ fd : FuncData, (∀ (s : Shared) (u : Value), BindsTo s fd ⟨[u], []⟩ [(x, u)]) ∧
       ∀ base : Heap, (K w.params).In base → base.Ns mainGlobals mg → FnOk l.prog w (K w.params) mg base (CX w) k fa fd [x] (sp w))
   (hsp : ∀ (w : World) (H : Hp) (a : Addr) (ns : List Int), ns.length ≤ n → (∀ T ∈ cts.map (·.2), H T = some (.tbl #[])) → SqL (K w.params) H a (ns.map V.int) → sp w [.ref a] H (fun v _ => v = .bl true) fun _ _ _ => False)
   (hCX : ∀ (w : World) (H : Hp) (s : Shared) (e : Value) (s' : Shared), CX w [] H s (fun _ _ _ => False) e s' → False) :
   PySem.W.WalkO q loose XP YP l.row.toRowW d [] (fun f vs => PySem.call f vs) := by
 refine Att.attach_call hn hdf fun w s₀ s₁ mg mb fa o pm cd doc a vs ns G Y ho hd _ hmg hobj hints hlen hg => ?_
 obtain ⟨KX, hT⟩ := hY w _ Y
 obtain ⟨fd, hb, hF⟩ := F w mg fa _ KX G.T.g hmg
 exact law_callTs KX G.T.g G.T.b G.T.builtins G.T.nolimit hg hobj hints (Nat.le_trans hlen hn2) hr hT (fun p hp => PySem.W.codeHd_of_K KX (hcd w p hp)) (hKT w) hF hb (fun H hO hS => hsp w H a ns hlen hO hS) fun H e s' => hCX w H s₁ e s'
end L2
end
section
namespace L2
open PySem PySem.Spec PyProof.Rows
open PySem.AutoSeq1 (wpAny_loadPart')
section
variable {prog : Program} {w : World} {A : Around} {E : Value → Shared → Prop} {s : Shared}
theorem enT_item {tp : Bool} {e it l : Addr} {i : Nat} {xs : Array Value} {x old : Value} {Q : Value → Shared → Prop} (ee : IsEnum s.heap e it i old) (g1 : ItAt tp s.heap it l i) (o1 : ObAt tp s.heap l xs) (hx : xs[i]? = some x) (ne : e ≠ it)
   (k : ∀ h', IsEnumOut h' e it ((i : Int) + 1) x s.heap.objs.size → ItAt tp h' it l (i + 1) → h'.get? s.heap.objs.size = some { cls := .type "tuple", data := .seq #[.int i s.toks, x] } → h'.objs.size = s.heap.objs.size + 1 →
     (∀ c o, c ≠ e → c ≠ it → s.heap.get? c = some o → h'.get? c = some o) → Q (.ref s.heap.objs.size) { s with heap := h', toks := s.toks + 1 }) :
   wpAny (model prog w) A (Builtin.«enumerate.__next__» ⟨[.ref e], []⟩) (fun fin s' => ∃ v, fin = .done (.ret v) ∧ Q v s') E s := by
 obtain ⟨hp, g, d, tk, os⟩ := s
 show wpAny (model prog w) A (field (.ref e) 2 >>= _) _ _ _
 refine wpAny_bind (wpAny_field ee rfl (x := .ref it) rfl (wpAny_bind (next1 g1 o1 hx fun p1 r1 q1 => ?_)))
 have q1 : Heap.SameBut it hp p1 := q1
 have e1 : IsEnum p1 e it i old := (q1.2 e ne).trans ee
 show wpAny (model prog w) A (field (.ref e) 3 >>= _) _ _ ⟨p1, g, d, tk, os⟩
 refine wpAny_bind (wpAny_field e1 rfl (x := rawInt i) rfl (?_ : wpAny (model prog w) A (field (.ref e) 4 >>= _) _ _ ⟨p1, g, d, tk, os⟩))
 refine wpAny_bind (wpAny_field e1 rfl (x := .none) rfl (?_ : wpAny (model prog w) A (mkInt i >>= _) _ _ ⟨p1, g, d, tk, os⟩))
 refine wpAny_bind (wpAny_mkInt (?_ : wpAny (model prog w) A (setField (.ref e) 3 (rawInt ((i : Int) + 1)) >>= _) _ _ ⟨p1, g, d, tk + 1, os⟩))
 refine wpAny_bind (wpAny_setField_rec e1 (by simp) fun p2 e2 q2 => ?_)
 have q2 : Heap.SameBut e p1 p2 := q2
 have e2 : IsEnum p2 e it ((i : Int) + 1) old := e2
 show wpAny (model prog w) A (setField (.ref e) 4 .none >>= _) _ _ ⟨p2, g, d, tk + 1, os⟩
 refine wpAny_bind (wpAny_setField_rec e2 (by simp) fun p3 e3 q3 => ?_)
 have q3 : Heap.SameBut e p2 p3 := q3
 have e3 : IsEnum p3 e it ((i : Int) + 1) old := e3
 show wpAny (model prog w) A (newTuple [.int i tk, x] >>= _) _ _ ⟨p3, g, d, tk + 1, os⟩
 refine wpAny_bind (wpAny_newTuple ?_)
 have e4 : IsEnum (p3.push { cls := .type "tuple", data := .seq #[.int i tk, x] }) e it ((i : Int) + 1) old := Heap.get?_push_of_some _ e3
 have sz : p3.objs.size = hp.objs.size := by rw [q3.1, q2.1, q1.1]
 have lt : e < hp.objs.size := Heap.lt_size ee
 have t4 : (p3.push { cls := .type "tuple", data := .seq #[.int i tk, x] }).get? hp.objs.size = some { cls := .type "tuple", data := .seq #[.int i tk, x] } := by rw [← sz]; exact Heap.get?_push_size _ rfl
 have z4 : (p3.push { cls := .type "tuple", data := .seq #[.int i tk, x] }).objs.size = hp.objs.size + 1 := by rw [Heap.size_push, sz]
 have k4 : ∀ c o, c ≠ e → c ≠ it → hp.get? c = some o → (p3.push { cls := .type "tuple", data := .seq #[.int i tk, x] }).get? c = some o := fun c o n1 n2 v => Heap.get?_push_of_some _ (q3.extBut c o n1 (q2.extBut c o n1 (q1.extBut c o n2 v)))
 have r4 : ItAt tp (p3.push { cls := .type "tuple", data := .seq #[.int i tk, x] }) it l (i + 1) := ((r1.but q2.extBut ne.symm).but q3.extBut ne.symm).at fun o v => Heap.get?_push_of_some _ v
 generalize p3.push { cls := .type "tuple", data := .seq #[.int i tk, x] } = p4 at e4 t4 z4 k4 r4 ⊢
 show wpAny (model prog w) A (Builtin.SmallTypes.ownedTupleIsFree (.ref e) >>= _) _ _ ⟨p4, g, d, tk + 1, os⟩
 rw [sz]
 refine wpAny_bind (by
   unfold Builtin.SmallTypes.ownedTupleIsFree
   refine wpAny_bind (wpAny_field e4 rfl (x := .none) rfl (wpAny_pure ?_))
   simp only [if_true]
   refine wpAny_bind (wpAny_rule (wpAny_bind (wpAny_field e4 rfl (x := old) rfl (wpAny_bind (wpAny_setField_rec e4 (by simp) fun p5 e5 q5 => ?_)))))
   have q5 : Heap.SameBut e p4 p5 := q5
   have e5 : IsEnum p5 e it ((i : Int) + 1) x := e5
   refine wpAny_bind (m := Builtin.SmallTypes.ownedTupleHandOut (.ref e) (.ref hp.objs.size)) ?_
   unfold Builtin.SmallTypes.ownedTupleHandOut
   refine wpAny_bind (wpAny_setField_rec e5 (by simp) fun p6 e6 q6 => ?_)
   have q6 : Heap.SameBut e p5 p6 := q6
   have e6 : IsEnumOut p6 e it ((i : Int) + 1) x hp.objs.size := e6
   refine wpAny_setField_rec e6 (by simp) fun p7 e7 q7 => ?_
   have q7 : Heap.SameBut e p6 p7 := q7
   have e7 : IsEnumOut p7 e it ((i : Int) + 1) x hp.objs.size := e7
   have up : ∀ c o, c ≠ e → p4.get? c = some o → p7.get? c = some o := fun c o n v => q7.extBut _ _ n (q6.extBut _ _ n (q5.extBut _ _ n v))
   exact wpAny_bind (wpAny_letGo (wpAny_pure ⟨_, rfl, k p7 e7 (r4.at fun o v => up _ o ne.symm v) (up _ _ (Nat.ne_of_gt lt) t4) (by rw [q7.1, q6.1, q5.1, z4]) fun c o n1 n2 v => up c o n1 (k4 c o n1 n2 v)⟩)))
theorem pyNext_enT {tp : Bool} {e it l : Addr} {i : Nat} {xs : Array Value} {x old : Value} {Q : Option Value → Shared → Prop} (ee : IsEnum s.heap e it i old) (g1 : ItAt tp s.heap it l i) (o1 : ObAt tp s.heap l xs) (hx : xs[i]? = some x) (ne : e ≠ it)
   (k : ∀ h', IsEnumOut h' e it ((i : Int) + 1) x s.heap.objs.size → ItAt tp h' it l (i + 1) → h'.get? s.heap.objs.size = some { cls := .type "tuple", data := .seq #[.int i s.toks, x] } → h'.objs.size = s.heap.objs.size + 1 →
     (∀ c o, c ≠ e → c ≠ it → s.heap.get? c = some o → h'.get? c = some o) → Q (some (.ref s.heap.objs.size)) { s with heap := h', toks := s.toks + 1 }) :
   wpAny (model prog w) A (pyNext (.ref e)) Q E s := by
 have ty : s.TypeIs (.ref e) "enumerate" := ⟨_, ee, rfl⟩
 unfold pyNext
 exact wpAny_bind (wpAny_attempt (wpAny_callSpecial?_slot (name := Str.ofString "__next__") ty F.slot_enumerate_next (wpAny_call_entry F.slot_enumerate_next ty F.entry_enumerate_next (enT_item ee g1 o1 hx ne fun h' b1 b2 b3 b4 b5 => wpAny_pure (k h' b1 b2 b3 b4 b5)) (F.args_enumerate_next_1 _))))
theorem pyNext_enE {tp : Bool} {e it l : Addr} {i : Nat} {xs : Array Value} {old : Value} {Q : Option Value → Shared → Prop} (hh : A.handled = none) (ee : IsEnum s.heap e it i old) (g1 : ItAt tp s.heap it l i) (o1 : ObAt tp s.heap l xs) (hx : xs[i]? = none)
   (k : ∀ h', (∀ c o, c ≠ e → c ≠ it → s.heap.get? c = some o → h'.get? c = some o) → Q none { s with heap := h' }) : wpAny (model prog w) A (pyNext (.ref e)) Q E s := by
 have ty : s.TypeIs (.ref e) "enumerate" := ⟨_, ee, rfl⟩
 unfold pyNext
 refine wpAny_bind (wpAny_attempt (wpAny_callSpecial?_slot (name := Str.ofString "__next__") ty F.slot_enumerate_next (wpAny_call_entry F.slot_enumerate_next ty F.entry_enumerate_next (?_ : wpAny (model prog w) _ (field (.ref e) 2 >>= _) _ _ _) (F.args_enumerate_next_1 _))))
 refine wpAny_bind (wpAny_field ee rfl (x := .ref it) rfl (wpAny_bind (next0 hh g1 o1 hx fun h' x kp ⟨u, eu, cu⟩ => ?_)))
 exact wpAny_bind (wpAny_isInstance (T := "StopIteration") (b := true) ⟨u, eu, cu⟩ isSubtype_stop (wpAny_pure (k _ fun c o _ n v => kp c o n v)))
end
set_option maxHeartbeats 2000000 in
theorem meets_enT (tp : Bool) (l : Addr) (xs : Array Value) (u : Obj) :
   Meets (Builtin.«enumerate.__new__» ⟨[.type "enumerate", .ref l], []⟩) (fun _ R s => s.heap.get? l = some u ∧ ObAt tp s.heap l xs ∧
     R (.ok (.ret (.ref (s.heap.push (iterO tp l)).objs.size))) { s with heap := (s.heap.push (iterO tp l)).push { cls := .type "enumerate", data := .fields #[.none, .bool false, .ref s.heap.objs.size, rawInt 0, .none, .none] } }) :=
 .of_wp fun prog w A R s h => by
   obtain ⟨hp, g, d, tk, os⟩ := s
   obtain ⟨a0, a1, q⟩ := h
   have sub := sub_enumerate
   have e1 : ObAt tp (Shared.heap ⟨hp, g, d, tk, os⟩) l xs := a1
   obtain ⟨c, dct, dt, sl⟩ := u
   obtain ⟨n, hc, hd⟩ : ∃ n, c = (if tp then .type "tuple" else .type "list") ∧ dt = .seq xs n := by
     cases tp with
     | false => obtain ⟨o, e, hc, n, hd⟩ := a1; cases (a0.symm.trans e); exact ⟨n, hc, hd⟩
     | true => obtain ⟨o, e, hc, n, hd⟩ := a1; cases (a0.symm.trans e); exact ⟨n, hc, hd⟩
   subst hd
   cases tp with
   | false =>
     subst hc
     wp_walk using wpAny_loadPart' a0
     refine wpAny_stack_any fun _ => wpAny_pure ?_
     split
     · rename_i c _ _ _ _ _
       cases hcc : (c == Value.type "enumerate")
       all_goals (wp_walk using wpAny_loadPart' a0, pyIterT e1; exact ⟨_, rfl, q⟩)
     · wp_walk using wpAny_loadPart' a0, pyIterT e1
       exact ⟨_, rfl, q⟩
   | true =>
     subst hc
     wp_walk using wpAny_loadPart' a0
     refine wpAny_stack_any fun _ => wpAny_pure ?_
     split
     · rename_i c _ _ _ _ _
       cases hcc : (c == Value.type "enumerate")
       all_goals (wp_walk using wpAny_loadPart' a0, pyIterT e1; exact ⟨_, rfl, q⟩)
     · wp_walk using wpAny_loadPart' a0, pyIterT e1
       exact ⟨_, rfl, q⟩
theorem call_enT {prog : Program} {w : World} {A : Around} {E : Value → Shared → Prop} {s : Shared} {tp : Bool} {l : Addr} {xs : Array Value} {Q : Value → Shared → Prop} (a1 : ObAt tp s.heap l xs)
   (k : ∀ h', IsEnum h' (s.heap.objs.size + 1) s.heap.objs.size 0 .none → ItAt tp h' s.heap.objs.size l 0 → (∀ c o, s.heap.get? c = some o → h'.get? c = some o) → Q (.ref (s.heap.objs.size + 1)) { s with heap := h' }) :
   wpAny (model prog w) A (call (.type "enumerate") [.ref l]) Q E s := by
 obtain ⟨u, eu⟩ : ∃ u, s.heap.get? l = some u := by
   cases tp with
   | false => obtain ⟨o, e, _⟩ := a1; exact ⟨o, e⟩
   | true => obtain ⟨o, e, _⟩ := a1; exact ⟨o, e⟩
 refine callType_new F.called_enumerate (by decide) (F.typeCall_enumerate_1 _) (F.newCall_enumerate_1 _) (fun obj => F.args_object_init_2 obj _) F.entry_enumerate_new (meets_enT tp l xs u) ⟨eu, a1, ?_⟩
 have z1 : (s.heap.push (iterO tp l)).objs.size = s.heap.objs.size + 1 := Heap.size_push ..
 have y2 : IsEnum ((s.heap.push (iterO tp l)).push { cls := .type "enumerate", data := .fields #[.none, .bool false, .ref s.heap.objs.size, rawInt 0, .none, .none] }) (s.heap.push (iterO tp l)).objs.size s.heap.objs.size 0 .none := Heap.get?_push_size _ rfl
 have y1 : ((s.heap.push (iterO tp l)).push { cls := .type "enumerate", data := .fields #[.none, .bool false, .ref s.heap.objs.size, rawInt 0, .none, .none] }).get? s.heap.objs.size = some (iterO tp l) := Heap.get?_push_of_some _ (Heap.get?_push_size _ (iterO_live _ _))
 show _ ∧ _
 rw [z1] at y2 ⊢
 exact ⟨⟨_, y2, rfl⟩, k _ y2 (.new tp y1) fun c o e => Heap.get?_push_of_some _ (Heap.get?_push_of_some _ e)⟩
section
variable {X : Cx}
noncomputable def Ite (tp : Bool) (K : W.Frag) (l : Addr) : It :=
 ⟨fun i H => ∃ xs x, Sq tp K H l xs ∧ xs[i]? = some x,
  fun i H v H' => ∃ T x, H T = none ∧ v = .ref T ∧ H' = upd H T (.tup [.int (i : Int), x]) ∧ ∀ xs, Sq tp K H l xs → xs[i]? = some x,
  fun i H => ∃ xs, Sq tp K H l xs ∧ xs.length ≤ i⟩
theorem turn_enum {P : Program} {w : World} {K : W.Frag} {elts : List Expr} {x1 : Nat} {tps : Pos} (tp : Bool) (l e it : Addr) (ne : e ≠ it) :
   Turn P w K (.Tuple elts x1 tps) (Ite tp K l) [e, it] e (fun i h => (∃ old, IsEnum h e it ((i : Nat) : Int) old) ∧ ItAt tp h it l i) where
 mem := by simp
 obj := fun i h st b hb => by
   obtain ⟨⟨old, he⟩, y1⟩ := st
   simp only [List.mem_cons, List.not_mem_nil, or_false] at hb
   rcases hb with rfl | rfl
   · exact ⟨_, he, fun v q => by cases q⟩
   · exact y1.obj
 keep := fun i h h' st k => by
   obtain ⟨⟨old, he⟩, h1⟩ := st
   exact ⟨⟨old, k e (by simp) _ he⟩, h1.at fun o z => k it (by simp) o z⟩
 item := by
   intro X hP hw hK hc i pins s σ H E I hf st hg
   subst hP hw hK
   obtain ⟨xs, x, hq1, hx⟩ := hg
   obtain ⟨⟨old, he⟩, h1⟩ := st
   obtain ⟨its1, r1, p1, _⟩ := I.sq hq1
   obtain ⟨u, hu, ru⟩ := r1.get hx
   refine pyNext_enT he h1 p1 (x := u) (by simpa using hu) ne fun h' a1 a2 a3 a4 a5 => ?_
   refine ⟨_, rfl, wpAny_letOwnedTupleGo_enum (s := { s with heap := h', toks := s.toks + 1 }) a1 fun h'' b1 sb => ?_⟩
   have fresh : H s.heap.objs.size = none := I.fresh
   have ntr : ∀ b o, H b = some o → b ∉ ([e, it] : List Addr) := fun b o z hb => by
     have := (hf b hb).1
     rw [z] at this; cases this
   have kp : ∀ b o, b ∉ ([e, it] : List Addr) → s.heap.get? b = some o → h''.get? b = some o := fun b o hb z => by
     simp only [List.mem_cons, List.not_mem_nil, or_false, not_or] at hb
     exact (sb.2 b hb.1).trans (a5 b o hb.1 hb.2 z)
   have nz : s.heap.objs.size ≠ e := Nat.ne_of_gt (Heap.lt_size he)
   have hT2 : h''.get? s.heap.objs.size = some { cls := .type "tuple", data := .seq #[.int i s.toks, u] } := (sb.2 _ nz).trans a3
   have I2 : Inv X pins σ (upd H s.heap.objs.size (.tup [.int (i : Int), x])) { s with heap := h'', toks := s.toks + 1 } := by
     refine I.step (g' := s.gens) (d' := s.drawn) (t' := s.toks + 1) (ch := [e, it]) (fun b hb => ?_) (fun b o _ _ hb z _ => kp b o hb z) (fun b o _ _ hb z _ => ⟨o.slots, kp b o hb z⟩)
       (fun b o _ z n => by rw [jA (Nat.ne_of_lt (Heap.lt_size z))]; exact n) (fun b o hb z => ⟨o, kp b o hb z⟩) (fun b ws z => by rw [jA (jB z fresh)]; exact z) (fun b o ws z => by rw [jA (jB z fresh)]; exact z)
       (fun b ps z => ⟨#[], by rw [jA (jB z fresh), z]; simp⟩) (fun m hm => ?_) (fun b o z => ?_) I.bare
     · obtain ⟨f0, f1, f2, f3, f4, f5⟩ := hf b hb
       exact ⟨f3, f1, f4, f5⟩
     · obtain ⟨o, es, ep, ho, r⟩ := hm
       exact ⟨o, es, ep, kp _ o (fun hb => (hf _ hb).2.1 rfl) ho, r⟩
     · by_cases hb : b = s.heap.objs.size
       · subst hb
         rw [j7] at z
         cases z
         exact ⟨by rw [sizeLine_eq]; show 2 ≤ _; decide, [.int i s.toks, u], .cons ⟨_, rfl⟩ (.cons ru .nil), 0, hT2⟩
       · rw [jA hb] at z
         refine (I.hok b o z).stay (fun c w hc q => kp c w ?_ q) (fun c q => by rw [jA (jB q fresh)]; exact q) (fun c ws q => by rw [jA (jB q fresh)]; exact q)
         rcases hc with rfl | hc
         · exact ntr _ _ z
         · exact ntr _ _ hc
   refine ⟨.ref s.heap.objs.size, _, I2, rfl, ⟨_, x, fresh, rfl, rfl, fun xs' q1 => by rw [I.sq_inj q1 hq1]; exact hx⟩, ⟨⟨_, b1⟩, ?_⟩, fun b hb => ?_⟩
   · exact a2.at fun o z => (sb.2 it ne.symm).trans z
   · rw [jA (fun q => by
       obtain ⟨o, eo⟩ : ∃ o, s.heap.get? b = some o := by
         simp only [List.mem_cons, List.not_mem_nil, or_false] at hb
         rcases hb with rfl | rfl
         · exact ⟨_, he⟩
         · obtain ⟨o, z, _⟩ := h1.obj; exact ⟨o, z⟩
       exact absurd (Heap.lt_size eo) (by rw [q]; exact Nat.lt_irrefl _))]
     exact (hf b hb).1
 done := by
   intro X hP hw hK hc i pins s σ H E I hf st hg
   subst hP hw hK
   obtain ⟨xs, hq1, hend⟩ := hg
   obtain ⟨⟨old, he⟩, h1⟩ := st
   obtain ⟨its1, r1, p1, _⟩ := I.sq hq1
   have e1 := r1.length
   refine pyNext_enE (I.ok.hd hc) he h1 p1 (by simp; lia) fun h' kp => ⟨rfl, ?_⟩
   have kp2 : ∀ b o, b ∉ ([e, it] : List Addr) → s.heap.get? b = some o → h'.get? b = some o := fun b o hb z => by
     simp only [List.mem_cons, List.not_mem_nil, or_false, not_or] at hb
     exact kp b o hb.1 hb.2 z
   have ntr : ∀ b o, H b = some o → b ∉ ([e, it] : List Addr) := fun b o z hb => by
     have := (hf b hb).1
     rw [z] at this; cases this
   refine I.step (g' := s.gens) (d' := s.drawn) (t' := s.toks) (ch := [e, it]) (fun b hb => ?_) (fun b o _ _ hb z _ => kp2 b o hb z) (fun b o _ _ hb z _ => ⟨o.slots, kp2 b o hb z⟩)
     (fun b o _ z n => n) (fun b o hb z => ⟨o, kp2 b o hb z⟩) (fun b ws z => z) (fun b o ws z => z) (fun b ps z => ⟨#[], by rw [z]; simp⟩) (fun m hm => ?_) (fun b o z => ?_) I.bare
   · obtain ⟨f0, f1, f2, f3, f4, f5⟩ := hf b hb
     exact ⟨f3, f1, f4, f5⟩
   · obtain ⟨o, es, ep, ho, r⟩ := hm
     exact ⟨o, es, ep, kp2 _ o (fun hb => (hf _ hb).2.1 rfl) ho, r⟩
   · refine (I.hok b o z).stay (fun c w hc q => kp2 c w ?_ q) (fun _ q => q) fun _ _ q => q
     rcases hc with rfl | hc
     · exact ntr _ _ z
     · exact ntr _ _ hc
 self := fun _ _ _ _ _ st h => wpAny_pyIter_enum st.1.choose_spec h
noncomputable def iEnum (K : W.Frag) (ta : TA) : TI := fun σ H R => ta σ H fun vs H1 => ∃ tp l, vs = [.ref l] ∧ (∃ xs, Sq tp K H1 l xs) ∧ R (Ite tp K l) H1
theorem pi_enum {a : Expr} {ta : TA} {p pos : Pos} {elts : List Expr} {x1 : Nat} {tp : Pos} (hg : Gl X "enumerate") (hm : X.mg "enumerate" = none) (ha : PA X [a] ta) (hv : bootBuiltins "enumerate" = some (.type "enumerate") := by decide +kernel)
   (he : starEach [a] X.env = (false, eval a X.env) :: starEach [] X.env := by rfl) (hpl : (backTo pos (starEach [] X.env)).any (·.1) = false := by rfl) :
   PI X (.Tuple elts x1 tp) (.Call (.Name "enumerate" p) [a] [] pos) (iEnum X.K ta) := by
 intro pins s σ H R I h
 refine Call_ (ld_blt I hg hm hv (PyProof.Rows.callWith_type1 (thn (ha pos pins s σ H _ I h) fun us s1 ⟨vs, H1, I1, r1, q1⟩ => ?_) he hpl))
 obtain ⟨t1, l1, rfl, ⟨xs, hq1⟩, q⟩ := q1
 obtain ⟨u, rfl, ru⟩ := r1.one
 cases ru
 obtain ⟨its1, _, p1, _⟩ := I1.sq hq1
 refine call_enT p1 fun h' a1 a2 kp => ?_
 have I2 : Inv X pins σ H1 { s1 with heap := h' } := I1.kept (t' := s1.toks) kp
 refine wpAny_pyIter_enum a1 ⟨s1.heap.objs.size + 1, [s1.heap.objs.size + 1, s1.heap.objs.size], _, Ite t1 X.K l1, H1, rfl, I2, turn_enum t1 l1 _ _ (Nat.succ_ne_self _), ⟨⟨_, a1⟩, a2⟩, fun b hb => ?_, q⟩
 have hge : s1.heap.objs.size ≤ b := by
   simp only [List.mem_cons, List.not_mem_nil, or_false] at hb
   rcases hb with rfl | rfl
   · exact Nat.le_add_right _ 1
   · exact Nat.le_refl _
 exact I1.fpOk hge (I1.hok.fresh hge)
theorem ji_enum {a : Expr} {t : TA} {p pos : Pos} {elts : List Expr} {x1 : Nat} {tp : Pos} (hg : Gl1 X "enumerate") (hm : X.mg "enumerate" = none) (ha : JA X [a] t) (he : starEach [a] X.env = (false, eval a X.env) :: starEach [] X.env) (hv : bootBuiltins "enumerate" = some (.type "enumerate") := by decide +kernel)
   (hpl : (backTo pos (starEach [] X.env)).any (·.1) = false := by rfl) : JI X (.Tuple elts x1 tp) (.Call (.Name "enumerate" p) [a] [] pos) (iEnum X.K t) := ⟨pi_enum hg.a hm ha.h hv he hpl⟩
end
section
variable {K : W.Frag} {m : List (Option Nat)} {g : TG} {tt : TT} {te : TE} {σ : St} {H1 : Hp} {Q : VK}
theorem comp_enum {tp : Bool} {l : Addr} {xs : List V} (hn : xs.length < sizeLine) (Pv : Addr → Nat → St → Hp → List V → Prop) (h0 : ∀ D, H1 D = none → Pv D 0 (blkσ m σ) (upd H1 D (.lst [])) [])
   (hD : ∀ D i σ' H' zs, H1 D = none → Pv D i σ' H' zs → Sq tp K H' l xs ∧ H' D = some (.lst zs) ∧ zs.length ≤ i)
   (hs : ∀ D i σ' H' zs x T, H1 D = none → xs[i]? = some x → H' T = none → Pv D i σ' H' zs → g (.ref T) σ' (upd H' T (.tup [.int (i : Int), x])) fun σ2 H2 => tt σ2 H2 fun b H3 => if b = true then te σ2 H3 fun v H4 => H4 D = some (.lst zs) ∧ Pv D (i + 1) σ2 (upd H4 D (.lst (zs ++ [v]))) (zs ++ [v]) else Pv D (i + 1) σ2 H3 zs)
   (hd : ∀ D σ' H' zs, H1 D = none → Pv D xs.length σ' H' zs → Q (.ref D) H') : yW m g tt te σ Q (Ite tp K l) H1 := by
 intro D hDn
 refine ⟨fun i k σ' H' zs => k = xs.length - i ∧ i ≤ xs.length ∧ Pv D i σ' H' zs, ⟨_, rfl, Nat.zero_le _, h0 D hDn⟩, ?_⟩
 rintro i k σ' H' zs ⟨rfl, hi, p⟩
 obtain ⟨s1, q1, q2⟩ := hD D i σ' H' zs hDn p
 refine ⟨q1, by lia, ?_⟩
 by_cases hlt : i < xs.length
 · refine .inr ⟨⟨xs, xs[i], s1, by simp [hlt]⟩, Pv D (i + 1), fun σ2 H2 zs z => ⟨xs.length - (i + 1), by lia, rfl, hlt, z⟩, fun v H'' y => ?_⟩
   obtain ⟨T, x, e1, e2, e3, e4⟩ := y
   subst e2 e3
   exact hs D i σ' _ zs x T hDn (e4 xs s1) e1 p
 · have e : i = xs.length := by lia
   subst e
   exact .inl ⟨⟨xs, s1, Nat.le_refl _⟩, hd D σ' H' zs hDn p⟩
end
end L2
end
section
namespace L2
open PySem PySem.Spec PyProof.Rows
section
variable {κ : Type} [DecidableEq κ]
noncomputable def valV (kvs : List (κ × V)) (k : κ) : Option V := (kvs.find? fun kv => decide (kv.1 = k)).map (·.2)
theorem valV_pos {p : κ × V} {r : List (κ × V)} {k : κ} (e : p.1 = k) : valV (p :: r) k = some p.2 := by simp [valV, List.find?_cons, e]
theorem valV_neg {p : κ × V} {r : List (κ × V)} {k : κ} (e : ¬ p.1 = k) : valV (p :: r) k = valV r k := by simp [valV, List.find?_cons, e]
theorem RelO.isSome_eq {o : Option V} {u : Option Value} (r : RelO o u) : o.isSome = u.isSome := by
 cases o with
 | none => cases u with
   | none => rfl
   | some _ => exact (show False from r).elim
 | some _ => cases u with
   | none => exact (show False from r).elim
   | some _ => rfl
theorem KV.val {kvs : List (κ × V)} {vs : List (κ × Value)} (r : KV kvs vs) (k : κ) : RelO (valV kvs k) (valueAt vs k) := by
 unfold KV at r
 induction r with
 | nil => exact True.intro
 | @cons p q ps qs h t ih =>
   obtain ⟨h1, h2⟩ := h
   by_cases e : p.1 = k
   · have e' : q.1 = k := h1.symm.trans e
     have b : valueAt (q :: qs) k = some q.2 := by simp [valueAt, List.find?_cons, e']
     rw [valV_pos e, b]; exact h2
   · have e' : ¬ q.1 = k := fun z => e (h1.trans z)
     have b : valueAt (q :: qs) k = valueAt qs k := by simp [valueAt, List.find?_cons, e']
     rw [valV_neg e, b]; exact ih
theorem KV.keys {kvs : List (κ × V)} {vs : List (κ × Value)} (r : KV kvs vs) : kvs.map (·.1) = vs.map (·.1) := by
 unfold KV at r
 induction r with
 | nil => rfl
 | cons h t ih => rw [List.map_cons, List.map_cons, ih, h.1]
end
theorem kV_is {P : Program} {w : World} {k : Key} {u : Value} (r : RelV (kV k) u) : (y6 P w).is k u = true := by
 cases k with
 | inl i => obtain ⟨t, e⟩ := (show ∃ t, u = Value.int i t from r); subst e; exact mixKind_int P w i t
 | inr x => obtain ⟨t, e⟩ := (show ∃ t, u = Value.str x t from r); subst e; exact mixKind_str P w x t
theorem items_are {P : Program} {w : World} : ∀ {ks : List Key} {us : List Value}, Vals (ks.map kV) us → ItemsAre (y6 P w) ks us
 | [], _, r => by rw [List.map_nil] at r; cases r; exact .nil
 | k :: ks, _, r => by
   rw [List.map_cons] at r
   cases r with
   | cons h t => exact .cons (kV_is h) (items_are t)
noncomputable abbrev KT (H : Hp) : List (List Key × V) → List (List Key × Addr × Value) → Prop := Paired fun p q => p.1 = q.1 ∧ H q.2.1 = some (.tup (p.1.map kV)) ∧ RelV p.2 q.2.2
theorem KT.val {H : Hp} {kvs : List (List Key × V)} {xs : List (List Key × Addr × Value)} (r : KT H kvs xs) (k : List Key) : RelO (valV kvs k) ((atKey xs k).map (·.2)) := by
 induction r with
 | nil => exact True.intro
 | @cons p q ps qs h t ih =>
   obtain ⟨h1, _, h2⟩ := h
   by_cases e : p.1 = k
   · have e' : q.1 = k := h1.symm.trans e
     have b : atKey (q :: qs) k = some q.2 := by simp [atKey, List.find?_cons, e']
     rw [valV_pos e, b]; exact h2
   · have e' : ¬ q.1 = k := fun z => e (h1.trans z)
     have b : atKey (q :: qs) k = atKey qs k := by simp [atKey, List.find?_cons, e']
     rw [valV_neg e, b]; exact ih
section
variable {P : Program} {w : World} {H : Hp} {h : Heap} {a : Addr}
theorem rd_of {u : HO} (ok : HOk P w H h) (e : Rd H a u) : ObjOk P w H h a u := e.ok ok
theorem dk_rd {kvs : List (Key × V)} (ok : HOk P w H h) (e : Rd H a (.dK kvs)) : kvs.length ≤ sizeLine ∧ (a == sysModules) = false ∧ ∃ vs, KV kvs vs ∧ h.DictOf (y6 P w) a vs :=
 show ObjOk P w H h a (.dK kvs) from rd_of ok e
theorem key_of {ks : List Key} (ok : HOk P w H h) (e : H a = some (.tup (ks.map kV))) : (tupleKind (y6 P w)).is h ks a := by
 obtain ⟨_, its, r, p⟩ := (show ObjOk P w H h a (.tup (ks.map kV)) from ok a _ e)
 obtain ⟨o, h1, h2, n, h3⟩ := p.isTup
 exact ⟨o, its.toArray, n, h1, h2, h3, by simpa using items_are r⟩
theorem dt_rd {kvs : List (List Key × V)} (ok : HOk P w H h) (e : Rd H a (.dT kvs)) : kvs.length ≤ sizeLine ∧ (a == sysModules) = false ∧
   ∃ xs, KT H kvs xs ∧ h.DictOfH (tupleKind (y6 P w)) a xs := by
 obtain ⟨z, y, xs, r, o, es, ep, h1, h2, h3, h4, h5⟩ := (show ObjOk P w H h a (.dT kvs) from rd_of ok e)
 refine ⟨z, y, xs, r, o, es, ep, h1, h2, h3, h4, fun x hx => ?_, h5⟩
 have all : ∀ {l : List (List Key × V)} {m : List (List Key × Addr × Value)}, KT H l m → ∀ x ∈ m, (tupleKind (y6 P w)).is h x.1 x.2.1 := by
   intro l m q
   induction q with
   | nil => intro x hx; exact nomatch hx
   | @cons p q ps qs hq t ih =>
     intro x hx
     rcases List.mem_cons.mp hx with e | hx
     · subst e
       exact key_of ok (by rw [← hq.1]; exact hq.2.1)
     · exact ih x hx
 exact all r x hx
end
noncomputable def DGet (H : Hp) (a : Addr) (y : V) (r : Option V) : Prop :=
 (∃ kvs k, Rd H a (.dK kvs) ∧ y = kV k ∧ r = valV kvs k) ∨ ∃ kvs k b, Rd H a (.dT kvs) ∧ y = .ref b ∧ H b = some (.tup (k.map kV)) ∧ r = valV kvs k
theorem DGet.k {H : Hp} {a : Addr} {kvs : List (Key × V)} {k : Key} (e : H a = some (.dK kvs)) : DGet H a (kV k) (valV kvs k) := .inl ⟨kvs, k, .inl e, rfl, rfl⟩
section
variable {X : Cx} {pins : List (Addr × Obj)} {σ : St} {H : Hp} {s : Shared} {a : Addr} {y v : V} {u r : Value} {o : Option V} {A : Around} {E : Value → Shared → Prop}
theorem Inv.big (I : Inv X pins σ H s) : sysModules < s.heap.objs.size := by
 have h : mainGlobals < s.heap.objs.size := (I.mod.glob.keeps I.bk).lt
 exact Nat.lt_trans (by decide) h
theorem d_getItem {Q : Value → Shared → Prop} (hu : A.units + 1 < cLine) (I : Inv X pins σ H s) (g : DGet H a y (some v)) (ry : RelV y u) (h : ∀ w' s', Inv X pins σ H s' → RelV v w' → Q w' s') :
   wpAny (model X.prog X.w) A (getItem (.ref a) u) Q E s := by
 rcases g with ⟨kvs, k, e, ey, l⟩ | ⟨kvs, k, b, e, ey, eb, l⟩
 · subst ey
   obtain ⟨z, hd, vs, rel, dd⟩ := dk_rd I.hok e
   obtain ⟨w', hw, rw'⟩ := RelO.some_of (v := v) (o := valueAt vs k) (by rw [l]; exact rel.val k)
   exact wpAny_getItem_of (kV_is ry) dd.mapOf hw (h w' _ (I.tok _) rw')
 · subst ey
   cases (show u = Value.ref b from ry)
   obtain ⟨z, hd, xs, rel, dd⟩ := dt_rd I.hok e
   obtain ⟨w', hw, rw'⟩ := RelO.some_of (v := v) (o := (atKey xs k).map (·.2)) (by rw [l]; exact rel.val k)
   obtain ⟨p, hp, hp2⟩ := Option.map_eq_some_iff.mp hw
   refine wpAny_getItem_heap (tupleKind_room_in1 hu) (key_of I.hok eb) dd hp ?_
   rw [hp2]
   exact h w' _ (I.tok _) rw'
theorem d_in {Q : Value → Shared → Prop} (hu : A.units + 1 < cLine) (I : Inv X pins σ H s) (g : DGet H a y o) (ry : RelV y u) (h : ∀ s', Inv X pins σ H s' → Q (.bool o.isSome) s') :
   wpAny (model X.prog X.w) A (compareOp .In u (.ref a)) Q E s := by
 rcases g with ⟨kvs, k, e, ey, l⟩ | ⟨kvs, k, b, e, ey, eb, l⟩
 · subst ey
   obtain ⟨z, hd, vs, rel, dd⟩ := dk_rd I.hok e
   refine wpAny_in_of (kV_is ry) hd dd.mapOf ?_
   rw [← (rel.val k).isSome_eq, ← l]
   exact h _ (I.tok _)
 · subst ey
   cases (show u = Value.ref b from ry)
   obtain ⟨z, hd, xs, rel, dd⟩ := dt_rd I.hok e
   refine wpAny_in_heap (tupleKind_room_in1 hu) (key_of I.hok eb) hd dd ?_
   have q := (rel.val k).isSome_eq
   rw [Option.isSome_map] at q
   rw [← q, ← l]
   exact h _ (I.tok _)
end
section
variable {X : Cx} {pins : List (Addr × Obj)} {σ : St} {H : Hp} {s : Shared} {a : Addr} {kvs : List (Key × V)} {k : Key} {u : Value} {A : Around} {E : Value → Shared → Prop}
end
noncomputable def NoSl (i : Expr) : Prop := ∀ ov iv, subscripted i false ov iv = operate [ov, iv] (getItem ov iv)
theorem subD_of {prog : Program} {w : World} {A : Around} {E : Value → Shared → Prop} {s : Shared} {env : Env} {value slice : Expr} {pos : Pos} {T id : String} {Q : Value → Shared → Prop}
   (hl : typeLookup (.type T) "__getitem__" = pure (some (.builtin id))) (hs : NoSl slice)
   (h : wpAny (model prog w) A (eval value env) (fun o s₁ => wpAny (model prog w) A (eval slice env) (fun i s₂ => s₂.TypeIs o T ∧ wpAny (model prog w) A (getItem o i) Q E s₂) E s₁) E s) :
   wpAny (model prog w) A (eval (.Subscript value slice pos) env) Q E s := by
 refine Subscript_ (wpAny_mono h (fun o s₁ h₁ => wpAny_mono h₁ (fun i s₂ h₂ => ?_) fun _ _ x => x) fun _ _ x => x)
 obtain ⟨hT, h₂⟩ := h₂
 unfold subscriptTail
 refine wpAny_bind ?_
 rw [getitemInPython_of_ne hT.not_modules]
 refine wpAny_bind (wpAny_specialOf hT hl ?_)
 have fin : wpAny (model prog w) A (subscripted slice false o i) (fun r s₃ => wpAny (model prog w) A (letTemporaryGo value o r >>= fun _ => pure r) Q E s₃) E s₂ := by
   rw [hs o i]
   exact wpAny_operating (wpAny_mono h₂ (fun r s₃ h₃ => wpAny_bind (wpAny_letTemporaryGo (wpAny_pure h₃))) fun _ _ x => x)
 first
   | exact wpAny_pure (wpAny_bind fin)
   | exact wpAny_bind (wpAny_pure (wpAny_bind fin))
   | exact wpAny_bind fin
theorem dict_typeIs {X : Cx} {pins : List (Addr × Obj)} {σ : St} {H : Hp} {s : Shared} {a : Addr} {y : V} {o : Option V} (I : Inv X pins σ H s) (g : DGet H a y o) : s.TypeIs (.ref a) "dict" := by
 rcases g with ⟨kvs, k, e, _, _⟩ | ⟨kvs, k, b, e, _, _, _⟩
 · obtain ⟨_, _, vs, _, dd⟩ := dk_rd I.hok e
   exact dd.typeIs
 · obtain ⟨_, _, xs, _, dd⟩ := dt_rd I.hok e
   exact dd.typeIs
noncomputable def tDGet (td ty : TE) : TE := fun σ H Q => td σ H fun x H1 => ty σ H1 fun y H2 => ∃ a v, x = .ref a ∧ DGet H2 a y (some v) ∧ Q v H2
noncomputable def tDIn (ty td : TE) : TE := fun σ H Q => ty σ H fun y H1 => td σ H1 fun x H2 => ∃ a o, x = .ref a ∧ DGet H2 a y o ∧ Q (.bl o.isSome) H2
section
variable {X : Cx} {o i e value : Expr} {pos pos' tpos : Pos} {td ty tv : TE}
theorem pe_dget (hu : X.A.units + 1 < cLine) (ho : PE X o td) (hi : PE X i ty) (hs : NoSl i) : PE X (.Subscript o i pos) (tDGet td ty) := by
 intro pins s σ H Q I h
 refine subD_of PySem.F.slot_dict_getitem.lookup hs (thn (ho pins s σ H _ I h) fun u s1 ⟨x, H1, I1, rx, q1⟩ => thn (hi pins s1 σ H1 _ I1 q1) fun iv s2 ⟨y, H2, I2, ry, a, v, ex, g, q2⟩ => ?_)
 subst ex
 obtain rfl : u = Value.ref a := rx
 exact ⟨dict_typeIs I2 g, d_getItem hu I2 g ry fun w' s3 I3 rw' => ⟨v, H2, I3, rw', q2⟩⟩
theorem pc_din (hu : X.A.units + 1 < cLine) (hi : PE X i ty) (ho : PE X o td) : PC X .In i o (tDIn ty td) := by
 intro pins s σ H Q I h
 refine thn (hi pins s σ H _ I h) fun iv s1 ⟨y, H1, I1, ry, q1⟩ => thn (ho pins s1 σ H1 _ I1 q1) fun u s2 ⟨x, H2, I2, rx, a, ov, ex, g, q2⟩ => ?_
 subst ex
 obtain rfl : u = Value.ref a := rx
 exact d_in hu I2 g ry fun s3 I3 => ⟨.bl ov.isSome, H2, I3, rfl, q2⟩
end
section
variable {X : Cx} {pos : Pos}
end
section
variable {X : Cx} {pins : List (Addr × Obj)} {σ : St} {H : Hp} {s : Shared} {a : Addr} {y d : V} {u r : Value} {o : Option V} {A : Around} {E : Value → Shared → Prop}
end
section
variable {X : Cx} {o e f : Expr} {apos cpos : Pos} {td ty tx : TE}
end
section
variable {X : Cx} {pins : List (Addr × Obj)} {σ : St} {H : Hp} {s : Shared} {a : Addr} {kvs : List (Key × V)} {A : Around} {E : Value → Shared → Prop}
end
section
variable {X : Cx} {pins : List (Addr × Obj)} {σ : St} {H : Hp} {s : Shared} {a : Addr} {y : V} {u : Value} {A : Around} {E : Value → Shared → Prop}
end
section
variable {κ : Type} [DecidableEq κ]
end
end L2
end
section
namespace L2
open PySem PySem.Spec PyProof.Rows
section
variable {prog : Program} {w : World} {A : Around} {E : Value → Shared → Prop} {s : Shared} {d : Addr} {kvs : List (Key × Value)}
end
section
variable {X : Cx} {o i e f value : Expr} {td ty tv tx : TE} {pos pos' apos cpos : Pos}
theorem je_dget (hu : X.A.units + 1 < cLine) (ho : JE X o td) (hi : JE X i ty) (hs : PlainIx i) : JE X (.Subscript o i pos) (tDGet td ty) := ⟨pe_dget hu ho.h hi.h hs⟩
end
end L2
end
section
namespace L2
open PySem PySem.Spec PyProof.Rows
theorem upl_entry : entryFor table "dict.update.loop" = some Builtin.«dict.update.loop» := entryFor_of_fast (by kernel_rfl)
theorem upl_plain : plainId "dict.update.loop" = true := by decide +kernel
theorem list_no_keys : typeLookup (.type "list") "keys" = pure none := am_miss_of_fast (by kernel_rfl)
theorem list_no_getattr : typeLookup (.type "list") "__getattr__" = pure none := am_miss_of_fast (by kernel_rfl)
section
variable {prog : Program} {w : World} {A : Around} {E : Value → Shared → Prop} {s : Shared}
theorem miss_list (a : Addr) (name : Str) (u : Tok) (hmiss : typeLookup (.type "list") name = pure none) (hsz : name.length + 100 ≤ sizeLine) (hgd : [Str.ofString "__module__", Str.ofString "__name__", Str.ofString "__qualname__", Str.ofString "__doc__", Str.ofString "__annotations__"].contains name = false) : Meets (Builtin.«object.__getattribute__» ⟨[.ref a, .str name u], []⟩) (fun A R s => (∃ its n, s.heap.get? a = some { cls := .type "list", data := .seq its n }) ∧ raisesAttr (.ref a) name A R s) :=
 Meets.of_wp fun prog w A R s hs => by
   obtain ⟨⟨its, n, ho⟩, hs⟩ := hs
   obtain ⟨hp, g, d, tk, os⟩ := s
   have hT : (⟨hp, g, d, tk, os⟩ : Shared).TypeIs (.ref a) "list" := ⟨_, ho, rfl⟩
   unfold Builtin.«object.__getattribute__»
   repeat (any_goals (first | assumption | wp_step))
   rw [hgd, if_neg Bool.false_ne_true]
   repeat (any_goals (first | assumption | wp_step))
   exact wpAny_raiseAttrError hs.1 hs.2 (attrMsg_fits (by decide +kernel) hsz)
theorem keys_list {a : Addr} {name : Str} (hmiss : typeLookup (.type "list") name = pure none) (hsz : name.length + 100 ≤ sizeLine) (hgd : [Str.ofString "__module__", Str.ofString "__name__", Str.ofString "__qualname__", Str.ofString "__doc__", Str.ofString "__annotations__"].contains name = false) {its : Array Value} {n : Nat} {Q : Option Value → Shared → Prop} (hA : A.handled = none) (ho : s.heap.get? a = some { cls := .type "list", data := .seq its n })
   (h : ∀ h' tk, (∀ b u, s.heap.get? b = some u → h'.get? b = some u) → Q none { s with heap := h', toks := tk }) : wpAny (model prog w) A (getAttr? (.ref a) name) Q E s := by
 obtain ⟨hp, g, d, tk, os⟩ := s
 have hT : ∀ tk', (⟨hp, g, d, tk', os⟩ : Shared).TypeIs (.ref a) "list" := fun _ => ⟨_, ho, rfl⟩
 have f1 := sub_AttributeError
 have f3 := F.slot_list_getattribute.lookup
 have f4 := F.slot_list_getattribute.bind (.ref a)
 have f5 := list_no_getattr
 unfold getAttr? getAttrBy? getAttrBy
 repeat (any_goals (first | assumption | ((with_reducible show wpAny _ _ (call (Value.builtin "list.__getattribute__") _ _) _ _ _); refine call_meets F.slot_list_getattribute (hT _) F.entry_list_ga (F.args_list_getattribute_2 _ _) (miss_list a name _ hmiss hsz hgd) ⟨⟨its, n, ho⟩, hA, fun h' tk' e hx => ?_⟩) | wp_step))
 obtain ⟨t', u', he⟩ := hx.there
 show wpAny _ _ (getattributeRaised _ _ _ _ _ _ _) _ _ _
 unfold getattributeRaised
 repeat (any_goals (first | assumption | wp_step))
 exact h _ _ fun b u q => hx.keeps b u q
theorem pair_items {a : Addr} {k v : Value} {m : Nat} {Q : List Value → Shared → Prop} (ho : s.heap.get? a = some { cls := .type "tuple", data := .seq #[k, v] m }) (h : Q [k, v] s) : wpAny (model prog w) A (Builtin.Dict.pairItems (.ref a)) Q E s := by
 obtain ⟨hp, g, d, tk, os⟩ := s
 have hT : (⟨hp, g, d, tk, os⟩ : Shared).TypeIs (.ref a) "tuple" := ⟨_, ho, rfl⟩
 unfold Builtin.Dict.pairItems
 repeat (any_goals (first | assumption | wp_step))
end
section
variable {prog : Program} {w : World} {K : Type} [DecidableEq K] {knd : KeyKind prog w K} {A : Around} {R : Result → Shared → Prop} {I : Addr} {fp wr : List Addr} {n : Nat} {P : Nat → Value → Prop} {St : Nat → Shared → Prop}
noncomputable def PairAt (knd : KeyKind prog w K) (h : Heap) (a : Addr) (p : K × Value) : Prop := ∃ key m, h.get? a = some { cls := .type "tuple", data := .seq #[key, p.2] m } ∧ knd.is p.1 key = true
theorem upl (W : WalksS prog w A.in1 I fp wr (fun a b => b = a) n P St) (d : Addr) (hd : d ∉ fp) (more : List (K × Value)) (hmn : more.length = n) (pa : Nat → Addr) (hpd : ∀ i, i < n → pa i ≠ d ∧ pa i ∉ wr) (hP : ∀ i v, P i v → v = .ref (pa i)) (hn : n ≤ sizeLine) :
   ∀ (k i : Nat) (z : Int) (s : Shared), n - i = k → i ≤ n → St i s → s.heap.DictOf knd d (merged [] (more.take i)) → (∀ j p, more[j]? = some p → PairAt knd s.heap (pa j) p) →
     (∀ s', Moved (d :: wr) (fun a b => b = a) s s' → s'.heap.DictOf knd d (merged [] more) → R (.ok (.ret .none)) s') →
     codeAny (model prog w) A (.builtin "dict.update.loop" ⟨[.ref d, .ref I, rawInt z, .none], []⟩) R s := by
 have hdw : d ∉ wr := fun h => hd (W.sub _ h)
 have sub1 : ∀ b ∈ wr, b ∈ d :: wr := fun b hb => List.mem_cons_of_mem _ hb
 intro k
 induction k with
 | zero =>
   intro i z s hk hi hst hS hp hR
   obtain rfl : i = n := by lia
   refine codeAny_builtin upl_entry ?_
   rw [Around.under_plainId upl_plain _]
   show wpAny _ A.in1 (pyNext (.ref I) >>= _) _ _ s
   refine wpAny_bind (W.done s _ _ hst fun s' mv => ?_)
   show wpAny _ A.in1 (Builtin.Dict.addKeywords d [] >>= fun _ => ret Value.none) _ _ s'
   refine wpAny_bind (wpAny_pure (wpAny_pure (hR s' (mv.mono sub1) ?_)))
   obtain ⟨o, es, ep, ho, r⟩ := hS
   rw [← hmn, List.take_length] at r
   exact ⟨o, es, ep, mv.heap d o hdw ho, r⟩
 | succ k ih =>
   intro i z s hk hi hst hS hp hR
   have hlt : i < n := by lia
   refine codeAny_builtin upl_entry ?_
   rw [Around.under_plainId upl_plain _]
   show wpAny _ A.in1 (pyNext (.ref I) >>= _) _ _ s
   refine wpAny_bind (W.item i s _ _ hlt hst fun v s' hPv hst' mv => ?_)
   obtain rfl := hP i v hPv
   have hS' : s'.heap.DictOf knd d (merged [] (more.take i)) := by
     obtain ⟨o, es, ep, ho, r⟩ := hS
     exact ⟨o, es, ep, mv.heap d o hdw ho, r⟩
   have hp' : ∀ j p, more[j]? = some p → PairAt knd s'.heap (pa j) p := fun j p hj => by
     obtain ⟨key, m, e, q⟩ := hp j p hj
     have hjn : j < n := by rw [← hmn]; exact (List.getElem?_eq_some_iff.mp hj).1
     exact ⟨key, m, mv.heap _ _ (hpd j hjn).2 e, q⟩
   obtain ⟨p, hpi⟩ : ∃ p, more[i]? = some p := ⟨more[i], by simp [hmn, hlt]⟩
   obtain ⟨key, m, e1, hk1⟩ := hp' i p hpi
   show wpAny _ A.in1 (holding [Value.ref (pa i)] _ >>= _) _ _ s'
   refine wpAny_bind (wpAny_holding (wpAny_bind ?_))
   refine wpAny_tryCatch (pair_items e1 ?_)
   refine wpAny_holding (wpAny_dictSet_pairs hk1 hS' (fun h' hd' sb => ?_) (by
     have := merged_length_le (K := K) [] (more.take i)
     have h2 := List.length_take_le i more
     have : (merged [] (more.take i)).length ≤ i := by
       refine Nat.le_trans (merged_length_le (K := K) [] (more.take i)) ?_
       simp only [List.length_nil, Nat.zero_add]
       exact List.length_take_le _ _
     lia))
   refine wpAny_pure ⟨plainId_quiet upl_plain _, ih (i + 1) (z + 1) _ (by lia) hlt (W.frame _ s' _ _ hst' (Nat.le_succ _) fun b hb o e => ?_) ?_ (fun j p hj => ?_) fun s'' mv2 hS3 => ?_⟩
   · rw [sb.2 b (fun h : b = d => hd (by rw [← h]; exact hb))]
     exact e
   · rw [merged_take_succ _ _ _ _ hpi]
     exact hd'
   · obtain ⟨key, m, e, q⟩ := hp' j p hj
     have hjn : j < n := by rw [← hmn]; exact (List.getElem?_eq_some_iff.mp hj).1
     exact ⟨key, m, by show h'.get? _ = _; rw [sb.2 _ (hpd j hjn).1]; exact e, q⟩
   · refine hR s'' (Moved.trans W.gtrans ((mv.mono sub1).then_heap (Nat.le_succ _) fun b o hb e => ?_) mv2) hS3
     rw [sb.2 b (fun h : b = d => hb (by rw [h]; exact List.mem_cons_self))]
     exact e
end
section
variable {prog : Program} {w : World} {K : Type} [DecidableEq K] {knd : KeyKind prog w K} {A : Around} {E : Value → Shared → Prop} {s : Shared}
theorem call_dict_list {l : Addr} {its : List Value} {nl : Nat} {more : List (K × Value)} {Q : Value → Shared → Prop} (hA : A.handled = none) (hl : s.heap.get? l = some { cls := .type "list", data := .seq its.toArray nl }) (hsz : its.length ≤ sizeLine)
   (pa : Nat → Addr) (hit : ∀ i v, its[i]? = some v → v = Value.ref (pa i)) (hlen : more.length = its.length) (hp : ∀ j p, more[j]? = some p → PairAt knd s.heap (pa j) p)
   (h : ∀ h' tk, h'.DictOf knd s.heap.objs.size (merged [] more) → (∀ b u, s.heap.get? b = some u → h'.get? b = some u) → Q (.ref s.heap.objs.size) { s with heap := h', toks := tk }) :
   wpAny (model prog w) A (call (.type "dict") [.ref l]) Q E s := by
 refine callType_codes (Q₁ := fun obj s₁ => obj = .ref s.heap.objs.size ∧ s₁ = { s with heap := s.heap.push { cls := .type "dict", data := .dict #[] } }) F.kt_called_dict (F.kt_typeCall_dict_1 _) F.entry_dict_init (kt_code_dict_new _ ⟨rfl, rfl⟩) ?_
 rintro obj s₁ ⟨rfl, rfl⟩
 have hnew : (s.heap.push { cls := .type "dict", data := .dict #[] }).DictOf knd s.heap.objs.size [] := Heap.DictOf.new s.heap
 have hl1 : (s.heap.push { cls := .type "dict", data := .dict #[] }).get? l = some { cls := .type "list", data := .seq its.toArray nl } := Heap.get?_push_of_some _ hl
 have hls : l < s.heap.objs.size := Heap.lt_size hl
 have hT : Shared.TypeIs { s with heap := s.heap.push { cls := .type "dict", data := .dict #[] } } (.ref l) "list" := ⟨_, hl1, rfl⟩
 refine ⟨hnew.typeIs, F.args_dict_init_2 _ _, ?_⟩
 unfold Builtin.«dict.__init__»
 refine wpAny_bind ?_
 unfold Builtin.Dict.selfAndRest
 refine wpAny_bind (wpAny_notOrdered_dict hnew.typeIs ?_)
 show wpAny _ _ (pure (s.heap.objs.size, [Value.ref l])) _ _ _
 refine wpAny_pure ?_
 show wpAny _ _ (Builtin.Dict.updateFrom "dict.__init__" s.heap.objs.size (.ref l) [] .none) _ _ _
 unfold Builtin.Dict.updateFrom
 refine wpAny_bind (wpAny_typeOf hT ?_)
 rw [if_pos (by decide)]
 refine wpAny_bind (keys_list list_no_keys (by decide +kernel) (by decide +kernel) (by simpa using hA) hl1 fun h2 tk2 k2 => ?_)
 rw [if_pos (by rfl)]
 refine wpAny_bind (wpAny_rule (wpAny_bind ?_))
 have hl2 : h2.IsList l its.toArray := ⟨_, k2 _ _ hl1, rfl, nl, rfl⟩
 refine wpAny_pyIter_list hl2 ?_
 have z2 : s.heap.objs.size < h2.objs.size := by
   have := Heap.lt_size (k2 _ _ (Heap.get?_push_size s.heap (o := { cls := .type "dict", data := .dict #[] }) rfl))
   exact this
 have hlI : l ≠ h2.objs.size := Nat.ne_of_lt (Nat.lt_trans hls z2)
 have hdI : s.heap.objs.size ≠ h2.objs.size := Nat.ne_of_lt z2
 have hdl : s.heap.objs.size ≠ l := Nat.ne_of_gt hls
 have hplt : ∀ i, i < its.length → pa i < s.heap.objs.size := fun i hi => by
   obtain ⟨key, m, e, _⟩ := hp i more[i] (by simp [hlen, hi])
   exact Heap.lt_size e
 have keep : ∀ b u, s.heap.get? b = some u → (h2.push { cls := .type "list_iterator", data := .fields #[.ref l, .int 0 0] }).get? b = some u := fun b u e => Heap.get?_push_of_some _ (k2 _ _ (Heap.get?_push_of_some _ e))
 refine wpAny_pure ⟨plainId_quiet upl_plain _, upl (knd := knd) ((Walks.list (by simp [hA]) _ l hlI its.toArray).toS) s.heap.objs.size ?_ more (by simp [hlen]) pa (fun i hi => ?_) (fun i v q => hit i v (by simpa using q)) (by simpa using hsz) (its.toArray.size - 0) 0 0 _ rfl (Nat.zero_le _) ⟨⟨_, Heap.get?_push_size _ rfl, rfl, rfl⟩, hl2.push _⟩ ?_ (fun j p hj => ?_) fun s' mv hD => ?_⟩
 · simp only [List.mem_cons, List.not_mem_nil, or_false, not_or]
   exact ⟨hdI, hdl⟩
 · have := hplt i (by simpa using hi)
   refine ⟨Nat.ne_of_lt this, ?_⟩
   simp only [List.mem_cons, List.not_mem_nil, or_false]
   exact Nat.ne_of_lt (Nat.lt_trans this z2)
 · obtain ⟨o, es, ep, ho, r⟩ := hnew
   exact ⟨o, es, ep, Heap.get?_push_of_some _ (k2 _ _ ho), r⟩
 · obtain ⟨key, m, e, q⟩ := hp j p hj
   exact ⟨key, m, keep _ _ e, q⟩
 · obtain ⟨h', g', d', tk', os'⟩ := s'
   have e1 : g' = s.gens := mv.gens
   have e2 : d' = s.drawn := mv.drawn
   have e3 : os' = s.os := mv.os
   subst e1; subst e2; subst e3
   refine ⟨rfl, h h' tk' hD fun b u e => mv.heap b u ?_ (keep b u e)⟩
   have hb := Heap.lt_size e
   simp only [List.mem_cons, List.not_mem_nil, or_false, not_or]
   exact ⟨Nat.ne_of_lt hb, Nat.ne_of_lt (Nat.lt_trans hb z2)⟩
end
section
variable {X : Cx}
theorem mk_more {P : Program} {w : World} {h : Heap} : ∀ (kvs : List (Key × V)) (pa : Nat → Addr), (∀ i k v, kvs[i]? = some (k, v) → ∃ key u m, h.get? (pa i) = some { cls := .type "tuple", data := .seq #[key, u] m } ∧ RelV (kV k) key ∧ RelV v u) →
   ∃ more : List (Key × Value), KV kvs more ∧ ∀ j p, more[j]? = some p → PairAt (y6 P w) h (pa j) p
 | [], _, _ => ⟨[], .nil, fun j p e => by simp at e⟩
 | (k, v) :: r, pa, hk => by
   obtain ⟨more, k1, k2⟩ := mk_more (P := P) (w := w) r (fun i => pa (i + 1)) fun i k v e => hk (i + 1) k v (by simpa using e)
   obtain ⟨key, u, m, e, r1, r2⟩ := hk 0 k v rfl
   refine ⟨(k, u) :: more, .cons ⟨rfl, r2⟩ k1, fun j p hj => ?_⟩
   cases j with
   | zero =>
     simp at hj
     subst hj
     exact ⟨key, m, e, kV_is r1⟩
   | succ j => exact k2 j p (by simpa using hj)
theorem call_dictL (hc : X.calm = true) : yD X (.type "dict") (fun xs H Q => ∃ (p : Addr) (vs : List V) (kvs : List (Key × V)), xs = [.ref p] ∧ H p = some (.lst vs) ∧ vs.length = kvs.length ∧ (∀ (i : Nat) (k : Key) (v : V), kvs[i]? = some (k, v) → ∃ a : Addr, vs[i]? = some (V.ref a) ∧ H a = some (.tup [kV k, v])) ∧ (kvs.map (·.1)).Nodup ∧ ∀ l : Addr, H l = none → Q (.ref l) (upd H l (.dK kvs))) := by
 intro pins s σ H xs us Q I r h
 obtain ⟨p, vs, kvs, rfl, hq, hl, hkv, hnd, q⟩ := h
 obtain ⟨u, rfl, rx⟩ := r.one
 cases rx
 obtain ⟨hz, its, nl, r', e0⟩ := I.hok p _ hq
 have hli := r'.length
 obtain ⟨more, k1, k2⟩ := mk_more (P := X.prog) (w := X.w) (h := s.heap) kvs (fun i => match vs[i]? with | some (.ref a) => a | _ => 0) fun i k v e => by
   obtain ⟨a, e1, e2⟩ := hkv i k v e
   obtain ⟨_, it2, r2, m, e3⟩ := I.hok a _ e2
   have l2 := r2.length
   obtain ⟨k', rest, rfl⟩ : ∃ k' rest, it2 = k' :: rest := by
     cases it2 with
     | nil => simp at l2
     | cons a b => exact ⟨a, b, rfl⟩
   obtain ⟨u', rest', rfl⟩ : ∃ u' rest', rest = u' :: rest' := by
     cases rest with
     | nil => simp at l2
     | cons a b => exact ⟨a, b, rfl⟩
   obtain rfl : rest' = [] := by
     cases rest' with
     | nil => rfl
     | cons a b => simp at l2
   rw [e1]
   cases r2 with
   | cons a1 a2 =>
     cases a2 with
     | cons b1 b2 => exact ⟨k', u', m, e3, a1, b1⟩
 have lm : more.length = kvs.length := (Paired.length k1).symm
 refine call_dict_list (knd := y6 X.prog X.w) (I.ok.hd hc) e0 (by lia) (fun i => match vs[i]? with | some (.ref a) => a | _ => 0) (fun i v hv => ?_) (by lia) k2 fun h' tk hD kp => ?_
 · have hi : i < its.length := (List.getElem?_eq_some_iff.mp hv).1
   have hik : i < kvs.length := by lia
   obtain ⟨a, e1, e2⟩ := hkv i kvs[i].1 kvs[i].2 (by simp [hik])
   obtain ⟨u, e3, e4⟩ := r'.get e1
   rw [hv] at e3
   cases e3
   simp only [e1]
   exact e4
 · rw [merged_nil_of_nodup _ (by rw [← KV.keys k1]; exact hnd)] at hD
   have hsz : (s.heap.objs.size == sysModules) = false := by
     have := I.big
     exact beq_eq_false_iff_ne.mpr (Nat.ne_of_gt this)
   exact ⟨.ref s.heap.objs.size, _, I.laid (t' := tk) (o := .dK kvs) kp (Nat.le_refl _) ⟨by lia, hsz, more, k1, hD⟩, rfl, q _ I.fresh⟩
end
end L2
end
section
namespace L2
open PySem PySem.Spec PyProof.Rows
theorem tuple_indexAt (l : Addr) (items : Array Value) (n : Nat) (dd : Option Addr) (sl : Array (Option Value)) (x : Value) (e : Value → Bool) (j : Nat) (hj : j < items.size) (hit : e items[j] = true) (hno : ∀ m (hm : m < items.size), m < j → e items[m] = false) :
   Meets (Builtin.«tuple.index» ⟨[.ref l, x], []⟩)
     (fun A R s => s.heap.get? l = some { cls := .type "tuple", dict := dd, data := .seq items n, slots := sl } ∧ (∀ y, y ∈ items → SeqAt.EqAt A.in1 s y x (e y)) ∧ R (.ok (.ret (.int j s.toks))) { s with toks := s.toks + 1 }) :=
 .of_wp fun prog w A R s h => by
   obtain ⟨hp, g, d, tk, os⟩ := s; obtain ⟨hl, he, h⟩ := h
   unfold Builtin.«tuple.index»
   simp only [Std.Legacy.Range.forIn_eq_forIn_range']
   wp_walk using wpAny_loadPart' hl, wpAny_forIn_list _ (fun rest b s' => b.1 = none ∧ s' = ⟨hp, g, d, tk, os⟩ ∧ ∃ i, i ≤ j ∧ rest = List.range' i (items.size - i)) _
   case turn =>
     rintro y rest b s' ⟨hb, rfl, i, hij, hr⟩
     have hi : i < items.size := by lia
     rw [show items.size - i = (items.size - (i + 1)) + 1 by lia, List.range'_succ] at hr
     obtain ⟨rfl, rfl⟩ := List.cons.inj hr
     rw [show items[y]? = some items[y] by simp [hi]]
     refine wpAny_bind (he _ (Array.getElem_mem hi) prog w _ _ ?_)
     by_cases hyj : y = j
     · subst hyj
       rw [hit]
       wp_walk
       exact ⟨_, rfl, h⟩
     · rw [hno y hi (by lia)]
       wp_walk
       exact ⟨rfl, rfl, y + 1, by lia, rfl⟩
   case fin =>
     rintro b s' ⟨hb, rfl, i, hij, hr⟩
     have := congrArg List.length hr
     rw [List.length_range'] at this
     have : (0 : Nat) = items.size - i := this
     lia
   case h =>
     exact ⟨rfl, rfl, 0, Nat.zero_le _, by simp [Std.Legacy.Range.size]⟩
section
variable {X : Cx}
noncomputable def rIndexT : V → List V → Hp → VK → Prop := fun x vs H Q => ∃ (p : Addr) (ns : List Int) (i : Int) (k : Nat), x = .ref p ∧ vs = [.int i] ∧ H p = some (.tup (ns.map V.int)) ∧ ns[k]? = some i ∧ (∀ m, m < k → ns[m]? ≠ some i) ∧ Q (.int (k : Int)) H
theorem mt_indexT : MtM X "tuple.index" rIndexT := by
 intro pins s σ H x vs v us Q I rx rv h
 obtain ⟨p, ns, i, k, rfl, rfl, hp, hk, hno, q⟩ := h
 cases rx
 obtain ⟨u, rfl, ru⟩ := rv.one
 obtain ⟨_, its, r, n, e0⟩ := I.hok p _ hp
 have hl := r.length
 rw [List.length_map] at hl
 have hkl : k < its.length := by rw [← hl]; exact (List.getElem?_eq_some_iff.mp hk).1
 have at_ : ∀ m (hm : m < its.length), ∃ (z : Int) (t : Tok), ns[m]? = some z ∧ its[m] = .int z t := fun m hm => by
   have hz : (ns.map V.int)[m]? = some (.int ns[m]) := by simp [show m < ns.length by lia]
   obtain ⟨w, hw, t, rw'⟩ := r.get hz
   refine ⟨ns[m], t, by simp [show m < ns.length by lia], ?_⟩
   rw [List.getElem?_eq_getElem hm] at hw
   rw [Option.some.inj hw]
   exact rw'
 refine call_meets F.slot_tuple_index ⟨_, e0, rfl⟩ F.entry_tuple_index (F.args_tuple_index_2 _ _) (tuple_indexAt p its.toArray n none #[] u (eqU (.int i)) k (by simpa using hkl) ?_ fun m hm hmk => ?_) ⟨e0, fun w hw => mem_eqAt ru rfl r ?_ w (by simpa using hw), ?_⟩
 · obtain ⟨z, t, h1, h2⟩ := at_ k hkl
   rw [hk] at h1
   cases h1
   show eqU (.int i) its[k] = true
   rw [h2]
   show (i == i) = true
   simp
 · have hm' : m < its.length := by simpa using hm
   obtain ⟨z, t, h1, h2⟩ := at_ m hm'
   show eqU (.int i) its[m] = false
   rw [h2]
   show (z == i) = false
   rw [beq_eq_false_iff_ne]
   exact fun e => hno m hmk (by rw [h1, e])
 · rw [List.all_eq_true]
   intro x hx
   obtain ⟨z, _, rfl⟩ := List.mem_map.mp hx
   rfl
 · exact ⟨.int _, H, I.tok _, ⟨s.toks, rfl⟩, q⟩
end
end L2
end
section
namespace L2
open PySem PySem.Spec PyProof.Rows
section
variable {P : Program} {w : World} {K : W.Frag} {mg : Str → Option Value} {base : Heap} {N : List Str} {qual : Str} {sc : Scope} {f : Addr} {cd : Value} {cl : List (Str × Addr)} {A : Around} {outer : List Env} {s : Shared} {H : Hp} {x : Str}
theorem gl_n (h : sc.names.lookup x = some .globalImplicit) : Gl1 (cxN P w K mg base N qual sc f cd cl A outer s H) x := ⟨h⟩
theorem vis_n (h : sc.names.lookup x = some .local) : Vis1 (cxN P w K mg base N qual sc f cd cl A outer s H) x := ⟨.inl h⟩
end
section
variable {X : Cx}
theorem js_def {x : Str} {args : Arguments} {body : List Stmt} {scope : Scope} {pos : Pos} {c0 T : Addr} {j : Nat} (hN : X.N.Nodup) (hj : X.N[j]? = some x) (lx : Loc1 X x) (hcode : X.env.code = .ref c0) (CH : PySem.W.CodeHd X.base c0 T) (hbm : BltAt X.base X.mg)
   (hfree : ∀ y ∈ scope.names, y.2 = .free → X.env.scope.names.lookup y.1 = some .cell ∨ X.env.scope.names.lookup y.1 = some .free) (hdf : defaultsOf args X.env = ([], [])) (han : annTrees args none X.env = []) :
   JS X (.FunctionDef x args body [] none [] scope none x pos) (tDef x (qualnameIn X.env x x) args body scope (jK X.env.cells scope.names []) T pos j) := ⟨ps_def hN hj lx.a hcode CH hbm hfree hdf han lx.b⟩
noncomputable def iSeq (K : W.Frag) (te : TE) : TI := fun σ H R => iList K te σ H R ∨ iTup K te σ H R
theorem ji_seq {tg a : Expr} {ta : TE} (hl : JE X a ta) : JI X tg a (iSeq X.K ta) := ⟨fun pins s σ H R I h => by
 rcases h with h | h
 · exact (ji_list hl).h pins s σ H R I h
 · exact (ji_tup hl).h pins s σ H R I h⟩
noncomputable def AtS (tp : Bool) (H : Hp) (a : Addr) (xs : List V) : Prop := match tp with
 | false => H a = some (.lst xs)
 | true => H a = some (.tup xs)
theorem AtS.sq {tp : Bool} {K : W.Frag} {H : Hp} {a : Addr} {xs : List V} (h : AtS tp H a xs) : Sq tp K H a xs := by
 cases tp with
 | false => exact SqL.of h
 | true => exact SqT.of h
theorem AtS.or {tp : Bool} {K : W.Frag} {H : Hp} {a : Addr} {xs : List V} (h : AtS tp H a xs) : SqL K H a xs ∨ SqT K H a xs := by
 cases tp with
 | false => exact .inl (SqL.of h)
 | true => exact .inr (SqT.of h)
noncomputable def AtS.ob (tp : Bool) (xs : List V) : HO := match tp with
 | false => .lst xs
 | true => .tup xs
theorem AtS.is {tp : Bool} {H : Hp} {a : Addr} {xs : List V} : AtS tp H a xs ↔ H a = some (AtS.ob tp xs) := by cases tp <;> exact Iff.rfl
theorem AtS.ext {tp : Bool} {H H' : Hp} {a : Addr} {xs : List V} (h : AtS tp H a xs) (e : Ext H H') : AtS tp H' a xs := AtS.is.mpr (e _ _ (AtS.is.mp h))
theorem je_din {i o : Expr} {ty td : TE} {pos : Pos} (hu : X.A.units + 1 < cLine) (hi : JE X i ty) (ho : JE X o td) (h1 : behindInMarks .In o = false) : JT X (.Compare i [.In] [o] pos) (tB (tDIn ty td)) := ⟨pt_cmp (pc_din hu hi.h ho.h) h1⟩
end
section
variable {K : W.Frag} {m : List (Option Nat)} {g : TG} {tt : TT} {te : TE} {σ : St} {H1 : Hp} {Q : VK}
theorem comp_lstS {a : Addr} {xs : List V} (hn : xs.length < sizeLine) (Pv : Addr → Nat → St → Hp → List V → Prop) (h0 : ∀ D, H1 D = none → Pv D 0 (blkσ m σ) (upd H1 D (.lst [])) [])
   (hD : ∀ D i σ' H' zs, H1 D = none → Pv D i σ' H' zs → H' a = some (.lst xs) ∧ H' D = some (.lst zs) ∧ zs.length ≤ i)
   (hs : ∀ D i σ' H' zs x, H1 D = none → xs[i]? = some x → Pv D i σ' H' zs → g x σ' H' fun σ2 H2 => tt σ2 H2 fun b H3 => if b = true then te σ2 H3 fun v H4 => H4 D = some (.lst zs) ∧ Pv D (i + 1) σ2 (upd H4 D (.lst (zs ++ [v]))) (zs ++ [v]) else Pv D (i + 1) σ2 H3 zs)
   (hd : ∀ D σ' H' zs, H1 D = none → Pv D xs.length σ' H' zs → Q (.ref D) H') : yW m g tt te σ Q (Itl K a) H1 := by
 intro D hDn
 refine ⟨fun i k σ' H' zs => k = xs.length - i ∧ i ≤ xs.length ∧ Pv D i σ' H' zs, ⟨_, rfl, Nat.zero_le _, h0 D hDn⟩, ?_⟩
 rintro i k σ' H' zs ⟨rfl, hi, p⟩
 obtain ⟨s1, q1, q2⟩ := hD D i σ' H' zs hDn p
 refine ⟨q1, by lia, ?_⟩
 by_cases hlt : i < xs.length
 · refine .inr ⟨⟨xs, xs[i], SqL.of s1, by simp [hlt]⟩, Pv D (i + 1), fun σ2 H2 zs z => ⟨xs.length - (i + 1), by lia, rfl, hlt, z⟩, fun v H'' y => ?_⟩
   obtain ⟨e1, e2⟩ := y
   subst e1
   exact hs D i σ' _ zs v hDn (e2 xs (SqL.of s1)) p
 · have e : i = xs.length := by lia
   subst e
   exact .inl ⟨⟨xs, SqL.of s1, Nat.le_refl _⟩, hd D σ' H' zs hDn p⟩
theorem comp_seq {tp : Bool} {ta : TE} {a : Addr} {xs : List V} (ha : AtS tp H1 a xs) (hta : ∀ Q : VK, Q (.ref a) H1 → ta σ H1 Q) (hn : xs.length < sizeLine) (Pv : Addr → Nat → St → Hp → List V → Prop) (h0 : ∀ D, H1 D = none → Pv D 0 (blkσ m σ) (upd H1 D (.lst [])) [])
   (hD : ∀ D i σ' H' zs, H1 D = none → Pv D i σ' H' zs → AtS tp H' a xs ∧ H' D = some (.lst zs) ∧ zs.length ≤ i)
   (hs : ∀ D i σ' H' zs x, H1 D = none → xs[i]? = some x → Pv D i σ' H' zs → g x σ' H' fun σ2 H2 => tt σ2 H2 fun b H3 => if b = true then te σ2 H3 fun v H4 => H4 D = some (.lst zs) ∧ Pv D (i + 1) σ2 (upd H4 D (.lst (zs ++ [v]))) (zs ++ [v]) else Pv D (i + 1) σ2 H3 zs)
   (hd : ∀ D σ' H' zs, H1 D = none → Pv D xs.length σ' H' zs → Q (.ref D) H') : iSeq K ta σ H1 (yW m g tt te σ Q) := by
 cases tp with
 | false => exact .inl (hta _ ⟨a, rfl, ⟨xs, SqL.of ha⟩, comp_lstS hn Pv h0 hD hs hd⟩)
 | true => exact .inr (hta _ ⟨a, rfl, ⟨xs, SqT.of ha⟩, comp_tup hn Pv h0 hD hs hd⟩)
end
theorem ExtT.of {T : Addr} {H H' : Hp} (e : Ext H H') : ExtT T H H' := fun b o h _ => e b o h
theorem ExtT.refl {T : Addr} (H : Hp) : ExtT T H H := fun b o h _ => h
theorem ExtT.trans {T : Addr} {H H' H'' : Hp} (a : ExtT T H H') (b : ExtT T H' H'') : ExtT T H H'' := fun c o h n => b c o (a c o h n) n
theorem TabOk.is {H : Hp} {T : Addr} {pos : Pos} {q : Str} (t : TabOk H T pos q) : ∃ ps, H T = some (.tbl ps) := by
 rcases t with h | ⟨c, h, _⟩
 · exact ⟨_, h⟩
 · exact ⟨_, h⟩
theorem TabOk.ne {H : Hp} {T : Addr} {pos : Pos} {q : Str} (t : TabOk H T pos q) {b : Addr} {o : HO} (h : H b = some o) (ho : ∀ ps, o ≠ .tbl ps) : b ≠ T := fun e => by
 obtain ⟨ps, z⟩ := t.is
 rw [e, z] at h
 cases h
 exact ho ps rfl
theorem TabOk.ext {H H' : Hp} {T : Addr} {pos : Pos} {q : Str} (t : TabOk H T pos q) (e : Ext H H') : TabOk H' T pos q := by
 rcases t with h | ⟨c, h, h2⟩
 · exact .inl (e _ _ h)
 · exact .inr ⟨c, e _ _ h, e _ _ h2⟩
theorem ExtT.at {T : Addr} {H H' : Hp} (e : ExtT T H H') {pos : Pos} {q : Str} (t : TabOk H T pos q) {b : Addr} {o : HO} (h : H b = some o) (ho : ∀ ps, o ≠ .tbl ps := by intro _ z; cases z) : H' b = some o := e b o h (t.ne h ho)
theorem ExtT.seq {T : Addr} {H H' : Hp} (e : ExtT T H H') {pos : Pos} {q : Str} (t : TabOk H T pos q) {tp : Bool} {b : Addr} {xs : List V} (h : AtS tp H b xs) : AtS tp H' b xs := by
 cases tp with
 | false => exact e.at t (show H b = some (.lst xs) from h)
 | true => exact e.at t (show H b = some (.tup xs) from h)
structure FunC (K : W.Frag) (x qual : Str) (st : Stmt) (f : Addr) (fd : FuncData) (c0 : Addr) : Prop where
 ex : ∃ (oc : Value) (od : Option Addr) (kV doc pm : Value) (an : Option Addr) (ct : Value) (osl : Array (Option Value)), fd = PySem.W.fnOf x qual (jM st) (jC st) (j8 st) .none kV doc pm an (.ref c0) ct ∧ K.lookup f = some ⟨oc, od, .func fd, osl⟩ ∧ PySem.W.codeIn K (.ref c0) qual = true
theorem FunC.ok {P : Program} {w : World} {K : W.Frag} {mg : Str → Option Value} {base : Heap} {x qual : Str} {st : Stmt} {f c0 : Addr} {fd : FuncData} {N ps : List Str} {k : Nat} {sp : Sp} (F : FunC K x qual st f fd c0) (S : FnScope N ps (j8 st)) (len : ∀ vs H Q E, sp vs H Q E → vs.length = ps.length)
   (hbody : ∀ (A : Around) (outer : List Env) (s : Shared) (H : Hp) (vs : List V) (Q : VK) (E : XK), Room k (A.deeper (envOfC qual (j8 st) s.heap.objs.size f (.ref c0))) → sp vs H Q E →
     ∃ t, PSs (cxOf CX0 P w K mg base N qual (j8 st) f (.ref c0) A outer s H E).nox (jC st) t ∧ t { nx := fun _ H' => Q .non H', rt := Q } (kR N vs) H) : FnOk P w K mg base CX0 (k + 1) f fd ps sp := by
 obtain ⟨oc, od, kV, doc, pm, an, ct, osl, rfl, lk, hcd⟩ := F.ex
 refine fn_of lk hcd S len fun A outer s H vs Q E hr hsp => ?_
 obtain ⟨t, ht, hq⟩ := hbody A outer s H vs Q E hr hsp
 exact ⟨t, ht.nox, hq⟩
end L2
end
section
namespace L2
open PySem PySem.Spec PyProof.Rows
section
variable {X : Cx} {sc : Scope} {cl : List (Str × Addr)} {C : Addr} {Nc : List Str} {fp : List Addr} {s : Shared} {H : Hp}
variable {sc2 : Scope} {cl2 : List (Str × Addr)} {C2 : Addr} {Nc2 : List Str} {fp2 : List Addr} {s2 : Shared} {H2 : Hp}
end
end L2
end
section
namespace L2
open PySem PySem.Spec PyProof.Rows
section
variable {K : W.Frag} {m : List (Option Nat)} {g : TG} {tt : TT} {te : TE} {σ : St} {H : Hp} {Q : VK}
end
section
variable {X : Cx} {sc : Scope} {cl : List (Str × Addr)} {C : Addr} {Nc : List Str} {fp : List Addr} {s : Shared} {H : Hp}
end
end L2
end
section
namespace L2
open PySem PySem.Spec PyProof.Rows
section
variable {X : Cx} {st : Stmt} {sts : List Stmt} {t : TS} {e : Expr} {tt : TT}
theorem JT.nox (h : JT X.nox e tt) : JT X e tt := ⟨h.h.nox⟩
theorem JSs.nox (h : JSs X.nox sts t) : JSs X sts t := ⟨h.h.nox⟩
end
noncomputable def tRaise (E : XK) (t : TA) : TS := fun _ σ H => t σ H fun vs H1 => vs.length ≤ sizeLine ∧ ∀ a, E (.ref a) (some a) H1
theorem js_raiseX {P : Program} {w : World} {K : W.Frag} {mg : Str → Option Value} {base : Heap} {N : List Str} {qual : Str} {sc : Scope} {f : Addr} {cdv : Value} {A : Around} {outer : List Env} {s : Shared} {H : Hp} {E : XK} {x : Str} {C : Addr} {c : Const} {k : Nat} {t : TA} {np cpos pos p : Pos}
   (hc : (cxOf (CXX P w C) P w K mg base N qual sc f cdv A outer s H E).calm = true) (ek : ExcK K C) (hg : Gl1 (cxOf (CXX P w C) P w K mg base N qual sc f cdv A outer s H E).nox x) (hm : mg x = some (.ref C)) (ha : JA (cxOf (CXX P w C) P w K mg base N qual sc f cdv A outer s H E) [.Constant c k p] t) (hd : (x == ("__debug__" : Str)) = false := by decide) :
   JS (cxOf (CXX P w C) P w K mg base N qual sc f cdv A outer s H E) (.Raise (some (.Call (.Name x np) [.Constant c k p] [] cpos)) none pos) (tRaise E t) :=
 ⟨ps_raiseX hc ek hg.a hm ha.h (fun _ _ _ _ _ _ _ I m w1 => xe_cx I m w1) hd rfl rfl⟩
end L2
namespace L2
open PySem PySem.Spec PyProof.Rows
theorem Fun.okX {P : Program} {w : World} {K : W.Frag} {mg : Str → Option Value} {base : Heap} {C : Addr} {x qual : Str} {st : Stmt} {f : Addr} {fd : FuncData} {N ps : List Str} {k : Nat} {sp : Sp} (F : Fun K x qual st f fd) (S : FnScope N ps (j8 st)) (len : ∀ vs H Q E, sp vs H Q E → vs.length = ps.length)
   (hbody : ∀ (cdv : Value) (A : Around) (outer : List Env) (s : Shared) (H : Hp) (vs : List V) (Q : VK) (E : XK), Room k (A.deeper (envOfC qual (j8 st) s.heap.objs.size f cdv)) → sp vs H Q E →
     ∃ t, PSs (cxOf (CXX P w C) P w K mg base N qual (j8 st) f cdv A outer s H E) (jC st) t ∧ t { nx := fun _ H' => Q .non H', rt := Q } (kR N vs) H) : FnOk P w K mg base (CXX P w C) (k + 1) f fd ps sp := by
 obtain ⟨oc, od, kV, doc, pm, an, cdv, ct, osl, rfl, lk, hcd⟩ := F.ex
 exact fn_of lk hcd S len fun A outer s H vs Q E hr hsp => hbody cdv A outer s H vs Q E hr hsp
end L2
namespace L2
open PySem
structure CanS (P : Program) (w : World) (K : W.Frag) (mg : Str → Option Value) (base : Heap) (x : Str) (k : Nat) (f : Addr) (fd : FuncData) (ps : List Str) (sp : Addr → Sp) : Prop where
 G : FnS P w K mg base k f fd ps sp
 m : mg x = some (.ref f)
 kp : PySem.W.keepIn K (.ref f) = true
 b : Binds K fd ps []
structure CanX (C : Addr) (P : Program) (w : World) (K : W.Frag) (mg : Str → Option Value) (base : Heap) (x : Str) (k : Nat) (f : Addr) (fd : FuncData) (ps : List Str) (sp : Sp) : Prop where
 G : FnOk P w K mg base (CXX P w C) k f fd ps sp
 m : mg x = some (.ref f)
 kp : PySem.W.keepIn K (.ref f) = true
 b : Binds K fd ps []
end L2
namespace L2
open PySem PySem.Spec PyProof.Rows
theorem RoomS.units101 {k : Nat} {A : Around} {x : Addr} (r : RoomS k A x) : A.units + 101 < cLine := by have := r.un; lia
section
variable {m : List (Option Nat)} {g : TG} {tt : TT} {te : TE} {σ : St} {H1 : Hp} {Q : VK}
theorem comp_rngS {x : Addr} {n : Nat} (hn : n < sizeLine) (Pv : Addr → Nat → St → Hp → List V → Prop) (h0 : ∀ D, H1 D = none → Pv D 0 (blkσ m σ) (upd H1 D (.lst [])) [])
   (hD : ∀ D i σ' H' ys, H1 D = none → i ≤ n → Pv D i σ' H' ys → (∃ C, H' x = some (.ext (excP x C))) ∧ H' D = some (.lst ys) ∧ ys.length ≤ i)
   (hs : ∀ D i σ' H' ys, H1 D = none → i < n → Pv D i σ' H' ys → g (.int (0 + i)) σ' H' fun σ2 H2 => tt σ2 H2 fun b H3 => if b = true then te σ2 H3 fun v H4 => H4 D = some (.lst ys) ∧ Pv D (i + 1) σ2 (upd H4 D (.lst (ys ++ [v]))) (ys ++ [v]) else Pv D (i + 1) σ2 H3 ys)
   (hd : ∀ D σ' H' ys, H1 D = none → Pv D n σ' H' ys → Q (.ref D) H') : yW m g tt te σ Q (ItrS x 0 n) H1 := by
 intro D hDn
 obtain ⟨W, w0, k⟩ := comp_rng (lo := 0) (m := m) (g := g) (tt := tt) (te := te) (σ := σ) (Q := fun v H' => (∃ C, H' x = some (.ext (excP x C))) ∧ Q v H') hn Pv h0 (fun D i σ' H' ys a b c => (hD D i σ' H' ys a b c).2) hs (fun D σ' H' ys a c => ⟨(hD D n σ' H' ys a (Nat.le_refl _) c).1, hd D σ' H' ys a c⟩) D hDn
 refine ⟨W, w0, fun i n σ' H' ys w => ?_⟩
 obtain ⟨a, b, c⟩ := k i n σ' H' ys w
 refine ⟨a, b, ?_⟩
 rcases c with ⟨c1, c2, c3⟩ | c
 · exact .inl ⟨⟨c1, c2⟩, c3⟩
 · exact .inr c
end
end L2
end
section
namespace L2
open PySem PySem.Spec PyProof.Rows
theorem passes_x {P : Program} {w : World} {K : W.Frag} {mg : Str → Option Value} {base : Heap} {N : List Str} {qual : Str} {sc : Scope} {f : Addr} {cdv : Value} {A : Around} {outer : List Env} {s : Shared} {H : Hp} {E : XK} {C : Addr} :
   Passes (CXX P w C) (cxOf (CXX P w C) P w K mg base N qual sc f cdv A outer s H E) E := by
 intro pins σ H1 s1 e s2 I hq
 obtain ⟨x, T, H2, rfl, os2, bare2, un2, hok2, fx, fT, hx, hT, ex2, q2⟩ := hq
 have I2 : Inv (cxOf (CXX P w C) P w K mg base N qual sc f cdv A outer s H E) pins σ H2 s2 := by
   obtain ⟨hh, g, d, t, os'⟩ := s2
   obtain rfl : os' = s1.os := os2
   exact I.call (h' := hh) (g' := g) (d' := d) (t' := t) (ch := []) un2 hok2 bare2 (fun b z => absurd z (by simp))
 have st : s2.heap.FunFrames base (PyProof.Rows.envOfC qual sc s.heap.objs.size f cdv :: outer) := I2.stack
 have sz : s.heap.objs.size ≤ s1.heap.objs.size := I.sz
 have un : Un (frs outer) [] H H2 s.heap s2.heap := I2.base
 have un1 : Un (frs outer) [] H H1 s.heap s1.heap := I.base
 have nl : ∀ b o, s.heap.get? b = some o → b ∉ frs outer → b ∉ frs (PyProof.Rows.envOfC qual sc s.heap.objs.size f cdv :: outer) := fun b o hb n1 hm => by
   rcases List.mem_cons.mp (show b ∈ s.heap.objs.size :: frs outer from hm) with q | q
   · exact absurd (Heap.lt_size hb) (by rw [q]; exact Nat.lt_irrefl _)
   · exact n1 q
 have na : ∀ b o, s.heap.get? b = some o → b ∉ [x, T] := fun b o hb hm => by
   obtain ⟨o', q⟩ := un1.there b o hb (by simp)
   have hl := Heap.lt_size hb
   rcases List.mem_cons.mp hm with z | z
   · rw [z, fx] at q
     cases q
   · rw [List.mem_singleton.mp z] at hl
     exact absurd hl (Nat.not_lt.mpr (Nat.le_trans sz fT))
 show wpAny _ _ (leaving _ (.ref x)) _ _ s2
 unfold leaving
 refine wpAny_bind (note_two (base := base) I2.ok.frames st rfl ex2 fun h' T' n e z => ?_)
 refine ⟨x, T', H2, rfl, I2.os, I2.bare, ⟨fun b o hb n1 n2 n3 => ?_, fun b o hb n1 n2 n3 => ?_, un.free, fun b o hb n3 => ?_, un.tups, un.frzs, un.tbls⟩, ?_, ?_, ?_, hx, ?_, e, q2⟩
 · exact n.keep b o (un.keep b o hb n1 n2 n3) (nl b o hb n2) (na b o hb)
 · obtain ⟨sl, q⟩ := un.slot b o hb n1 n2 n3
   obtain ⟨sl2, q2⟩ := n.slot b _ q (na b o hb)
   exact ⟨sl2, q2⟩
 · obtain ⟨o', q⟩ := un.there b o hb n3
   obtain ⟨sl2, q2⟩ := n.slot b _ q (na b o hb)
   exact ⟨_, q2⟩
 · refine I2.hok.note n (fun b hb => I2.stkFree b hb) fun b hb => ?_
   rcases List.mem_cons.mp hb with z | z
   · rw [z]
     exact hx
   · rw [List.mem_singleton.mp z]
     exact hT
 · cases q : s.heap.get? x with
   | none => rfl
   | some o => exact absurd (List.mem_cons_self) (na x o q)
 · have sz2 : s.heap.objs.size ≤ s2.heap.objs.size := I2.sz
   exact Nat.le_trans sz2 z
 · exact I2.hok.fresh z
end L2
end
section
namespace L2
open PySem PySem.Spec PyProof.Rows
open PySem.AutoSeq1 (wpAny_loadPart')
section
variable {prog : Program} {w : World} {A : Around} {E : Value → Shared → Prop} {s : Shared}
theorem code_collect_rng {R : Result → Shared → Prop} (hh : A.handled = none) {r : Addr} {a b c : Int} {t u v : Tok} {n : Nat} (hr : IsRange s.heap r a b c t u v) (hsm : Builtin.Range.small a b c = true) (hn : Builtin.Range.rangeSize a b c = n) (hlen : n ≤ 2 ^ 24)
   (k : ∀ (h' : Heap) (tk : Nat) (acc : Array Value) (c' : Nat), (∀ b o, s.heap.get? b = some o → h'.get? b = some o) → h'.get? s.heap.objs.size = some { cls := .type "list", dict := none, data := .seq acc c', slots := #[] } → ItemsOf (fun i v => ∃ t, v = .int (a + i * c) t) acc n → R (.ok (.ret (.ref s.heap.objs.size))) { s with heap := h', toks := tk }) :
   codeAny (model prog w) A (.builtin "proto.collect" ⟨[.ref r], []⟩) R s := by
 refine codeAny_builtin F.entry_proto_collect ?_
 rw [Around.under_plainId F.plain_proto_collect _]
 refine (?_ : wpAny _ A.in1 (newList [] >>= fun l => again (.builtin "list.__iadd__" ⟨[l, .ref r], []⟩)) _ _ s)
 refine wpAny_bind (wpAny_newObj_type (wpAny_pure ⟨plainId_quiet F.plain_list_iadd _, codeAny_builtin F.entry_list_iadd ?_⟩))
 rw [Around.under_plainId F.plain_list_iadd _]
 refine (?_ : wpAny _ A.in1 (Builtin.List.listExtendWith (.ref s.heap.objs.size) (.ref r) (.ref s.heap.objs.size)) _ _ _)
 have hr1 : IsRange (s.heap.push { cls := .type "list", data := .seq ([] : List Value).toArray }) r a b c t u v := Heap.get?_push_of_some _ hr
 have hS1 : (s.heap.push { cls := .type "list", data := .seq ([] : List Value).toArray }).get? s.heap.objs.size = some { cls := .type "list", data := .seq #[] } := Heap.get?_push_size _ rfl
 exact wpAny_extend_range (R := R) (s := { s with heap := s.heap.push { cls := .type "list", data := .seq ([] : List Value).toArray } }) hh hr1 hsm hn hlen s.heap.objs.size _ 0 hS1 fun h' tk acc' c' kp hS' hacc => k h' tk acc' c' (fun b o e => kp b o (Nat.ne_of_lt (Heap.lt_size e)) (Heap.get?_push_of_some _ e)) hS' hacc
theorem collect_rng {Q : List Value → Shared → Prop} (hh : A.handled = none) {r : Addr} {a b c : Int} {t u v : Tok} {n : Nat} (hr : IsRange s.heap r a b c t u v) (hsm : Builtin.Range.small a b c = true) (hn : Builtin.Range.rangeSize a b c = n) (hlen : n ≤ 2 ^ 24)
   (k : ∀ (h' : Heap) (tk : Nat) (acc : Array Value), (∀ b o, s.heap.get? b = some o → h'.get? b = some o) → s.heap.objs.size ≤ h'.objs.size → ItemsOf (fun i v => ∃ t, v = .int (a + i * c) t) acc n → Q acc.toList { s with heap := h', toks := tk }) :
   wpAny (model prog w) A (collect (.ref r)) Q E s := by
 unfold collect
 refine wpAny_bind (wpAny_runValue (code_collect_rng hh hr hsm hn hlen fun h' tk acc c' kp hS' hacc => ?_))
 refine (?_ : wpAny _ A (load s.heap.objs.size >>= _) _ _ _)
 exact wpAny_bind (wpAny_load hS' (wpAny_pure (k h' tk acc kp (Nat.le_of_lt (Heap.lt_size hS')) hacc)))
end
theorem meets_tuple_rng (r : Addr) (a b c : Int) (t u v : Tok) (n : Nat) (hsm : Builtin.Range.small a b c = true) (hn : Builtin.Range.rangeSize a b c = n) (hlen : n ≤ 2 ^ 24) :
   Meets (Builtin.«tuple.__new__» ⟨[.type "tuple", .ref r], []⟩) (fun A R s => A.handled = none ∧ IsRange s.heap r a b c t u v ∧ ∀ (h' : Heap) (tk : Nat) (acc : Array Value), (∀ b o, s.heap.get? b = some o → h'.get? b = some o) → s.heap.objs.size ≤ h'.objs.size → ItemsOf (fun i v => ∃ t, v = .int (a + i * c) t) acc n →
     R (.ok (.ret (.ref h'.objs.size))) { s with heap := h'.push { cls := .type "tuple", data := .seq acc }, toks := tk }) :=
 .of_wp fun prog w A R s h => by
   obtain ⟨hh, hr, k⟩ := h
   have sub := sub_tuple_self
   have ini := init_tuple_lookup
   have mh := madeHere_tuple
   have ty : s.TypeIs (.ref r) "range" := ⟨_, hr, rfl⟩
   have hh1 : A.in1.handled = none := hh
   have nt : (Value.type "range" == Value.type "tuple") = false := by decide
   wp_walk using wpAny_typeOf ty, collect_rng hh1 hr hsm hn hlen
   intro h' tk acc kp hsz hacc
   refine (?_ : wpAny _ _ (Builtin.Tuple.tupleExact acc.toList.toArray >>= fun v => ret v) _ _ _)
   unfold Builtin.Tuple.tupleExact
   refine wpAny_bind (wpAny_newObj_type (wpAny_pure ⟨_, rfl, ?_⟩) (show acc.toList.toArray.size ≤ sizeLine by rw [Array.toArray_toList, hacc.1, sizeLine_eq]; lia))
   rw [Array.toArray_toList]
   exact k h' tk acc kp hsz hacc
noncomputable def yK (a : Int) (n : Nat) : List Int := (List.range n).map fun (i : Nat) => a + (i : Int)
theorem vals_from {a : Int} {n : Nat} {acc : Array Value} (h : ItemsOf (fun i v => ∃ t, v = Value.int (a + (i : Int) * 1) t) acc n) : Vals ((yK a n).map V.int) acc.toList := by
 have key : ∀ (l : List Value) (k : Nat), (∀ j v, l[j]? = some v → ∃ t, v = Value.int (a + ((k + j : Nat) : Int)) t) → Vals ((List.range' k l.length).map fun (i : Nat) => V.int (a + (i : Int))) l := by
   intro l
   induction l with
   | nil => intro k _; exact .nil
   | cons v l ih =>
     intro k hk
     rw [List.length_cons, List.range'_succ, List.map_cons]
     refine .cons ?_ (ih (k + 1) fun j u hj => ?_)
     · obtain ⟨t, e⟩ := hk 0 v rfl
       exact ⟨t, by simpa using e⟩
     · obtain ⟨t, e⟩ := hk (j + 1) u (by simpa using hj)
       exact ⟨t, by rw [e]; congr 2; lia⟩
 have := key acc.toList 0 fun j v hj => by
   obtain ⟨t, e⟩ := h.2 j v (by simpa using hj)
   exact ⟨t, by rw [e, Int.mul_one, Nat.zero_add]⟩
 rw [Array.length_toList, h.1, ← List.range_eq_range'] at this
 unfold yK
 rw [List.map_map]
 exact this
section
variable {X : Cx}
theorem call_tupRng (hc : X.calm = true) : yD X (.type "tuple") (fun xs H Q => ∃ p i j, xs = [.ref p] ∧ H p = some (.rng i j) ∧ 0 ≤ i ∧ i ≤ j ∧ j ≤ 1000 ∧ ∀ l, H l = none → Q (.ref l) (upd H l (.tup ((yK i (j - i).toNat).map V.int)))) := by
 intro pins s σ H xs us Q I r h
 obtain ⟨p, i, j, rfl, hp, h0, h1, h2, q⟩ := h
 obtain ⟨u, rfl, rx⟩ := r.one
 cases rx
 obtain ⟨t, u, v, e⟩ := I.hok p _ hp
 have en : Builtin.Range.rangeSize i j 1 = ((j - i).toNat : Int) := by
   rw [rangeSize_one]
   split <;> lia
 refine callType_new F.called_tuple (by decide) (F.typeCall_tuple_1 _) (F.newCall_tuple_1 _) (fun obj => F.args_object_init_2 obj _) F.entry_tuple_new
   (meets_tuple_rng p i j 1 t u v (j - i).toNat (small_one (by lia) (by lia) (by lia) (by lia)) en (by lia)) ⟨I.ok.hd hc, e, fun h' tk acc kp hsz hacc => ⟨⟨_, Heap.get?_push_size _ rfl, rfl⟩, ?_⟩⟩
 have hv := vals_from hacc
 refine ⟨.ref h'.objs.size, _, I.laid (a := h'.objs.size) (t' := tk) (o := .tup ((yK i (j - i).toNat).map V.int)) (fun b o e => Heap.get?_push_of_some _ (kp b o e)) hsz ?_, rfl, q _ (I.hok.fresh hsz)⟩
 refine ⟨?_, acc.toList, hv, 0, ?_⟩
 · unfold yK
   rw [List.length_map, List.length_map, List.length_range, sizeLine_eq]
   lia
 · have : acc.toList.toArray = acc := by simp
   rw [this]
   exact Heap.get?_push_size _ rfl
variable {sc : Scope} {cl : List (Str × Addr)} {C : Addr} {Nc : List Str} {fp : List Addr} {s : Shared} {H : Hp}
end
end L2
end
section
end
section
namespace Eo
open PySem L2
noncomputable def Keep (H H' : Hp) (p : Addr) : Prop := ∀ b o, H b = some o → b ≠ p → H' b = some o
structure Txt (mg : Str → Option Value) : Prop where
 len : mg "len" = none
 range : mg "range" = none
 tuple : mg "tuple" = none
 sorted : mg "sorted" = none
 set : mg "set" = none
 list : mg "list" = none
 int : mg "int" = none
 isinstance : mg "isinstance" = none
 bool : mg "bool" = none
 str : mg "str" = none
 all : mg "all" = none
 zip : mg "zip" = none
 max : mg "max" = none
 min : mg "min" = none
 any : mg "any" = none
 abs : mg "abs" = none
 sum : mg "sum" = none
 enumerate : mg "enumerate" = none
 dict : mg "dict" = none
 ValueError : mg "ValueError" = none
structure Can (P : Program) (w : World) (K : W.Frag) (mg : Str → Option Value) (base : Heap) (x : Str) (k : Nat) (f : Addr) (fd : FuncData) (ps : List Str) (sp : Sp) : Prop where
 G : FnOk P w K mg base CX0 k f fd ps sp
 m : mg x = some (.ref f)
 kp : PySem.W.keepIn K (.ref f) = true
 b : Binds K fd ps []
theorem Can.pe {X : Cx} {x : Str} {k : Nat} {f : Addr} {fd : FuncData} {ps : List Str} {sp : Sp} {e : Expr} {es : List Expr} {t : TA} {p pos : Pos} (C : Can X.prog X.w X.K X.mg X.base x k f fd ps sp) (hr : Room k X.A) (hg : Gl X x) (ha : PA X (e :: es) t) (hdb : (x == ("__debug__" : Str)) = false := by decide)
   (he : starEach (e :: es) X.env = (false, eval e X.env) :: starEach es X.env := by rfl) (hpl : (backTo pos (starEach es X.env)).any (·.1) = false := by rfl) : PE X (.Call (.Name x p) (e :: es) [] pos) (tCall sp [] E0 t) :=
 pe_call C.G hr hg C.m C.kp C.b .nil pass0 ha hdb he hpl
theorem Can.je {X : Cx} {x : Str} {k : Nat} {f : Addr} {fd : FuncData} {ps : List Str} {sp : Sp} {e : Expr} {es : List Expr} {t : TA} {p pos : Pos} (C : Can X.prog X.w X.K X.mg X.base x k f fd ps sp) (hr : Room k X.A) (hg : Gl1 X x) (ha : JA X (e :: es) t) (he : starEach (e :: es) X.env = (false, eval e X.env) :: starEach es X.env)
   (hdb : (x == ("__debug__" : Str)) = false := by decide) (hpl : (backTo pos (starEach es X.env)).any (·.1) = false := by rfl) : JE X (.Call (.Name x p) (e :: es) [] pos) (tCall sp [] E0 t) :=
 ⟨C.pe hr hg.a ha.h hdb he hpl⟩
section
variable {P : Program} {w : World} {K : W.Frag} {mg : Str → Option Value} {base : Heap}
noncomputable def yJ (K : W.Frag) : Sp := fun vs H Q _ => ∃ (a : Addr) (ns : List Int) (k : Int), vs = [.ref a, .int k] ∧ SqL K H a (ns.map V.int) ∧ 0 ≤ k ∧ ∀ c : Int, Q (.int c) H
theorem scCell : FnScope ["script", "k"] ["script", "k"] (j8 sCell) := ⟨rfl, rfl, rfl, by decide +kernel, rfl, by decide +kernel, by decide +kernel⟩
theorem ok_cell {f : Addr} {fd : FuncData} (F : Fun K "_law_cell_at" "_law_cell_at" sCell f fd) (T : Txt mg) : FnOk P w K mg base CX0 1 f fd ["script", "k"] (yJ K) := by
 refine F.ok scCell (fun vs H Q E h => ?_) (fun cdv A outer s H vs Q E hr h => ?_)
 · obtain ⟨a, ns, k, rfl, _⟩ := h
   rfl
 · obtain ⟨a, ns, k, rfl, hS, h0, q⟩ := h
   refine ⟨_, kG (ps_if (pt_cmpR op_lt (pv 1) (pe_callB call_len_seq (by rfl) T.len PySem.boot_len (jN (pv 0) kS)) (kO _)) (pss_one (ps_ret (pe_ix ix_list (pv 0) (pv 1) (fun _ _ => rfl)))) pss_nil) (pss_one (ps_ret jL)), ?_⟩
   refine ⟨_, rfl, _, rfl, a, _, rfl, .inl hS, _, _, rfl, rfl, _, rfl, ?_⟩
   refine ite2 (fun hlt => ?_) (fun _ => ?_)
   · have hlt : k < ((ns.map V.int).length : Int) := of_decide_eq_true hlt
     have hk : k.toNat < ns.length := by rw [List.length_map] at hlt; lia
     refine ⟨_, rfl, _, rfl, a, _, k, .int (ns[k.toNat]), rfl, rfl, hS, ?_, q _⟩
     have e : (k.toNat : Int) = k := by lia
     have q2 := atI_nat (xs := ns.map V.int) (j := k.toNat) (v := V.int ns[k.toNat]) (by simp [hk])
     rw [e] at q2
     exact q2
   · exact q 0
noncomputable def jW : Sp := fun vs H Q _ => ∃ (p : Addr) (N w : Int), vs = [.ref p, .int w] ∧ H p = some (.lst [.int N]) ∧ 0 ≤ N ∧ 0 < w ∧ w < 2 ^ 64 ∧ ∀ N' r : Int, 0 ≤ N' → 0 ≤ r → r < w → Q (.int r) (upd H p (.lst [.int N']))
theorem scTake : FnScope ["pot", "wide", "found"] ["pot", "wide"] (j8 sTake) := ⟨rfl, rfl, rfl, by decide +kernel, rfl, by decide +kernel, by decide +kernel⟩
theorem ok_take {f : Addr} {fd : FuncData} (F : Fun K "_law_take" "_law_take" sTake f fd) : FnOk P w K mg base CX0 1 f fd ["pot", "wide"] jW := by
 refine F.ok scTake (fun vs H Q E h => ?_) (fun cdv A outer s H vs Q E hr h => ?_)
 · obtain ⟨a, ns, k, rfl, _⟩ := h
   rfl
 · obtain ⟨p, N, w, rfl, hp, h0, h1, h2, q⟩ := h
   refine ⟨_, kG (yN (i := 2) scTake.nd rfl (Or.inl rfl) (jV op_mod (pe_ix ix_list (pv 0) jL (fun _ _ => rfl)) (pv 1)))
     (kG (ps_asg (jV op_fdivL (pe_ix ix_list (pv 0) jL (fun _ _ => rfl)) (pv 1)) (pg_sub (pv 0) jL set_list))
     (pss_one (ps_ret (pv 2)))), ?_⟩
   refine ⟨_, rfl, p, _, 0, .int N, rfl, rfl, SqL.of hp, rfl, _, rfl, _, _, rfl, rfl, h1, ?_⟩
   refine ⟨_, rfl, p, _, 0, .int N, rfl, rfl, SqL.of hp, rfl, _, rfl, _, _, rfl, rfl, ⟨h1, h2⟩, ?_⟩
   refine ⟨_, rfl, p, _, 0, 0, rfl, rfl, hp, rfl, _, rfl, ?_⟩
   exact q _ _ (Int.ediv_nonneg h0 (by lia)) (Int.emod_nonneg _ (by lia)) (Int.emod_lt_of_pos _ h1)
noncomputable def yS : Sp := fun vs H Q _ => ∃ c : Int, vs = [.int c] ∧ ∀ (p : Addr) (N : Int), H p = none → 0 ≤ N → Q (.ref p) (upd H p (.lst [.int N]))
theorem scPot : FnScope ["cell", "number", "j", "more"] ["cell"] (j8 sPot) := ⟨rfl, rfl, rfl, by decide +kernel, rfl, by decide +kernel, by decide +kernel⟩
theorem ok_pot {f : Addr} {fd : FuncData} (F : Fun K "_law_pot" "_law_pot" sPot f fd) (T : Txt mg) : FnOk P w K mg base CX0 1 f fd ["cell"] yS := by
 refine F.ok scPot (fun vs H Q E h => ?_) (fun cdv A outer s H vs Q E hr h => ?_)
 · obtain ⟨c, rfl, _⟩ := h
   rfl
 · obtain ⟨c, rfl, q⟩ := h
   have one : [V.int 0].length ≤ sizeLine := by show 1 ≤ sizeLine; decide
   refine ⟨_, kG (ps_if (pt_cmpR op_ge (pv 0) (jV op_pow jL jL) (kO _)) (pss_one (ps_ret (pe_lst (jN (jV op_sub (pv 0) (jV op_pow jL jL)) kS)))) pss_nil)
     (kG (yN (i := 1) scPot.nd rfl (Or.inl rfl) jL)
     (kG (ps_for PassesOwn.never rfl (pi_range1 rfl T.range (jN jL kS)) (pg_name (i := 2) scPot.nd rfl (Or.inl rfl))
       (kG (yN (i := 3) scPot.nd rfl (Or.inl rfl) (jV op_mod (jV op_mul (jV yI (jV yI (jV op_mod (pv 0) jL) (jV op_mul jL (pv 2))) jL) jL) jL))
       (kG (yN (i := 3) scPot.nd rfl (Or.inl rfl) (jV op_mod (jV yI (jV yI (jV op_mul (pv 3) (pv 3)) (jV op_mul jL (pv 2))) jL) jL))
       (pss_one (yN (i := 1) scPot.nd rfl (Or.inl rfl) (jV yI (jV op_mul (pv 1) jL) (pv 3)))))))
     (pss_one (ps_ret (pe_lst (jN (pv 1) kS)))))), ?_⟩
   refine ⟨_, rfl, _, _, rfl, rfl, ⟨by decide, by decide, by decide⟩, _, _, rfl, rfl, _, rfl, ?_⟩
   refine ite2 (fun hge => ?_) (fun _ => ?_)
   · refine ⟨_, rfl, _, _, rfl, rfl, ⟨by decide, by decide, by decide⟩, _, _, rfl, rfl, one, fun p hp => q p _ hp ?_⟩
     exact Int.sub_nonneg_of_le (of_decide_eq_true hge)
   · refine ⟨64, rfl, by decide, by decide, for_range (n := 64) (fun i σ H2 => ∃ (num : Int) (v1 v2 : Option V), σ = [some (.int c), some (.int num), v1, v2] ∧ 0 ≤ num ∧ H2 = H) ⟨0, none, none, rfl, Int.le_refl _, rfl⟩ ?_ ?_⟩
     · rintro i σ H2 hi ⟨num, v1, v2, rfl, hn, rfl⟩
       refine ⟨_, rfl, _, _, rfl, rfl, (by show (0 : Int) < 2147483629; decide), _, rfl, _, _, rfl, rfl, .inl ⟨by decide, by decide⟩, _, _, rfl, rfl, _, _, rfl, rfl, _, _, rfl, rfl, .inr ⟨by decide, by decide⟩, _, _, rfl, rfl, (by show (0 : Int) < 2147483647; decide), ?_⟩
       refine ⟨_, rfl, _, rfl, _, _, rfl, rfl, .inl ⟨?_, ?_⟩, _, rfl, _, _, rfl, rfl, .inl ⟨by decide, by decide⟩, _, _, rfl, rfl, _, _, rfl, rfl, _, _, rfl, rfl, (by show (0 : Int) < 2147483587; decide), ?_⟩
       · lia
       · lia
       · refine ⟨_, rfl, _, _, rfl, rfl, .inr ⟨by decide, by decide⟩, _, rfl, _, _, rfl, rfl, ?_⟩
         refine ⟨_, _, _, rfl, ?_, rfl⟩
         lia
     · rintro σ H2 ⟨num, v1, v2, rfl, hn, rfl⟩
       exact ⟨_, rfl, one, fun p hp => q p num hp hn⟩
end
end Eo
end
section
namespace Eo
open PySem L2
theorem upd_upd {H : Hp} {a : Addr} {o o' : HO} : upd (upd H a o) a o' = upd H a o' := by
 funext b
 unfold upd
 by_cases h : b = a
 · rw [if_pos h, if_pos h]
 · rw [if_neg h, if_neg h, if_neg h]
theorem kT {H : Hp} {a b : Addr} {o : HO} (h : upd H a o b = none) : b ≠ a ∧ H b = none := by
 have h1 : b ≠ a := fun e => by rw [e, j7] at h; cases h
 exact ⟨h1, by rw [jA h1] at h; exact h⟩
theorem Keep.refl (H : Hp) (p : Addr) : Keep H H p := fun _ _ h _ => h
theorem Keep.trans {H H1 H2 : Hp} {p : Addr} (a : Keep H H1 p) (b : Keep H1 H2 p) : Keep H H2 p := fun c o h n => b c o (a c o h n) n
theorem Keep.upd {H H1 : Hp} {p : Addr} (a : Keep H H1 p) (o : HO) : Keep H (upd H1 p o) p := fun c u h n => by rw [jA n]; exact a c u h n
theorem Keep.new {H H1 : Hp} {p l : Addr} (a : Keep H H1 p) (hl : H1 l = none) (o : HO) : Keep H (L2.upd H1 l o) p := fun c u h n => by
 have := a c u h n
 rw [jA (jB this hl)]
 exact this
theorem pw {w : Int} (h1 : 1 ≤ w) (h2 : w ≤ 16) : (2 : Int) ≤ 2 ^ w.toNat ∧ (2 : Int) ^ w.toNat ≤ 65536 := by
 have e : ∀ n : Nat, n < 17 → 1 ≤ n → (2 : Int) ≤ 2 ^ n ∧ (2 : Int) ^ n ≤ 65536 := by decide +kernel
 exact e w.toNat (by lia) (by lia)
structure Lot (w : Int) (ts : List Int) : Prop where
 ris : ts.Pairwise (· < ·)
 bnd : ∀ z ∈ ts, 0 ≤ z ∧ z < w
 ne : ts ≠ []
noncomputable def bits (n : Int) (k : Nat) : List Int := ((List.range k).filter fun t => decide (Builtin.bitAnd (n / 2 ^ t) 1 = 1)).map fun (t : Nat) => (t : Int)
theorem bits_succ (n : Int) (k : Nat) : bits n (k + 1) = bits n k ++ (if decide (Builtin.bitAnd (n / 2 ^ k) 1 = 1) = true then [(k : Int)] else []) := by
 unfold bits
 rw [List.range_succ, List.filter_append, List.map_append]
 congr 1
 rw [List.filter_cons]
 split <;> rfl
theorem bits_lot {n w : Int} (h1 : 1 ≤ n) (hw : 0 ≤ w) (h2 : n < 2 ^ w.toNat) : Lot w (bits n w.toNat) := by
 refine ⟨?_, fun z hz => ?_, ?_⟩
 · unfold bits
   rw [List.pairwise_map]
   have := (List.pairwise_lt_range (n := w.toNat)).filter (fun t => decide (Builtin.bitAnd (n / 2 ^ t) 1 = 1))
   exact this.imp fun h => by lia
 · unfold bits at hz
   obtain ⟨t, ht, rfl⟩ := List.mem_map.mp hz
   have := List.mem_range.mp (List.mem_filter.mp ht).1
   lia
 · obtain ⟨m, rfl⟩ : ∃ m : Nat, n = (m : Int) := ⟨n.toNat, by lia⟩
   have hm : m ≠ 0 := by lia
   have hlt : m < 2 ^ w.toNat := by
     have : ((m : Nat) : Int) < ((2 ^ w.toNat : Nat) : Int) := by rw [Int.natCast_pow]; exact h2
     lia
   obtain ⟨i, hi⟩ := Nat.exists_testBit_of_ne_zero hm
   have hiw : i < w.toNat := by
     rcases Nat.lt_or_ge i w.toNat with h | h
     · exact h
     · rw [Nat.testBit_lt_two_pow (Nat.lt_of_lt_of_le hlt (Nat.pow_le_pow_right (by lia) h))] at hi
       cases hi
   have hb : Builtin.bitAnd ((m : Int) / 2 ^ i) 1 = 1 := by
     have e : ((m : Int) / 2 ^ i) = ((m / 2 ^ i : Nat) : Int) := by rw [Int.natCast_ediv, Int.natCast_pow]; rfl
     rw [e, PyProof.Rows.bitAnd_pp (Int.natCast_nonneg _) (by decide)]
     have e2 : (((m / 2 ^ i : Nat) : Int).toNat &&& (1 : Int).toNat) = 1 := by
       rw [Int.toNat_natCast]
       show (m / 2 ^ i) &&& 1 = 1
       rw [Nat.and_one_is_mod]
       have := hi
       rw [Nat.testBit_eq_decide_div_mod_eq] at this
       exact of_decide_eq_true this
     rw [e2]
     rfl
   intro z
   have hmem : (i : Int) ∈ bits (m : Int) w.toNat := by
     unfold bits
     exact List.mem_map.mpr ⟨i, List.mem_filter.mpr ⟨List.mem_range.mpr hiw, decide_eq_true hb⟩, rfl⟩
   rw [z] at hmem
   cases hmem
section
variable {P : Program} {w : World} {K : W.Frag} {mg : Str → Option Value} {base : Heap}
noncomputable def yP : Sp := fun vs H Q _ => ∃ (p : Addr) (N w : Int), vs = [.ref p, .int w] ∧ H p = some (.lst [.int N]) ∧ 0 ≤ N ∧ 1 ≤ w ∧ w ≤ 16 ∧
 ∀ (q : Addr) (N' : Int) (ts : List Int) (H' : Hp), 0 ≤ N' → Lot w ts → H' q = some (.tup (ts.map V.int)) → H' p = some (.lst [.int N']) → Keep H H' p → Q (.ref q) H'
theorem scLot : FnScope ["pot", "wide", "way", "number", "start", "step", "size"] ["pot", "wide"] (j8 sLot) := ⟨rfl, rfl, rfl, by decide +kernel, rfl, by decide +kernel, by decide +kernel⟩
theorem ok_lot {f fT : Addr} {fd fdT : FuncData} (F : Fun K "_law_lot" "_law_lot" sLot f fd) (T : Txt mg) (CT : Can P w K mg base "_law_take" 1 fT fdT ["pot", "wide"] jW) : FnOk P w K mg base CX0 2 f fd ["pot", "wide"] yP := by
 refine F.ok scLot (fun vs H Q E h => ?_) (fun cdv A outer s H vs Q E hr h => ?_)
 · obtain ⟨a, ns, k, rfl, _⟩ := h
   rfl
 · obtain ⟨p, N, w, rfl, hp, hN, h1, h2, q⟩ := h
   have hpw := pw h1 h2
   have nd := scLot.nd
   refine ⟨_, kG (yN (i := 2) nd rfl (Or.inl rfl) (CT.pe hr rfl (jN (pv 0) (jN jL kS))))
     (kG (ps_if (pt_cmpR op_eq (pv 2) jL (kO _))
       (kG (yN (i := 3) nd rfl (Or.inr rfl) (jV yI jL (CT.pe hr rfl (jN (pv 0) (jN (jV op_sub (jV op_shl jL (pv 1)) jL) kS)))))
       (pss_one (ps_ret (pe_callTy jO rfl T.tuple (by decide +kernel) (jN
         (pe_comp (m := [none, some 3]) (Nc := ["t", "number"]) rfl (pi_range1 rfl T.range (jN (pv 1) kS)) rfl (by decide +kernel) (by decide +kernel) (jY (psc := j8 sLot) (by decide +kernel))
           (jS (N := ["pot", "wide", "way", "number", "start", "step", "size"]) rfl rfl (by decide +kernel))
           (fun cl C fp s H => pg_name (i := 0) (show (["t", "number"] : List Str).Nodup by decide +kernel) rfl (Or.inl rfl))
           (fun cl C fp s H => pts_one (pt_cmpR op_eq (jV op_and (jV op_shr (pv 1) (pv 0)) jL) jL (kO _)))
           (fun cl C fp s H => pv 0)) kS)))))
       pss_nil)
     (kG (yN (i := 4) nd rfl (Or.inr rfl) (CT.pe hr rfl (jN (pv 0) (jN (pv 1) kS))))
     (kG (yN (i := 5) nd rfl (Or.inr rfl) (jV yI jL (CT.pe hr rfl (jN (pv 0) (jN jL kS)))))
     (kG (yN (i := 6) nd rfl (Or.inl rfl) (jV yI jL (CT.pe hr rfl (jN (pv 0) (jN (pe_ix ix_list (pe_lst (jN jL (jN jL (jN jL kS)))) (jV op_sub (pv 2) jL) (fun _ _ => rfl)) kS)))))
     (pss_one (ps_ret (pe_callTy jO rfl T.tuple (by decide +kernel) (jN (pe_callB (call_sortedSet rfl) rfl T.sorted (by decide +kernel) (jN (pe_callTy (call_set4 rfl) rfl T.set (by decide +kernel) (jN
         (pe_comp (m := [none, some 4, some 5, some 1]) (Nc := ["j", "start", "step", "wide"]) rfl (pi_range1 rfl T.range (jN (pv 6) kS)) rfl (by decide +kernel) (by decide +kernel) (jY (psc := j8 sLot) (by decide +kernel))
           (jS (N := ["pot", "wide", "way", "number", "start", "step", "size"]) rfl rfl (by decide +kernel))
           (fun cl C fp s H => pg_name (i := 0) (show (["j", "start", "step", "wide"] : List Str).Nodup by decide +kernel) rfl (Or.inl rfl))
           (fun cl C fp s H => pts_nil)
           (fun cl C fp s H => jV op_mod (jV yI (pv 1) (jV op_mul (pv 2) (pv 0))) (pv 3))) kS)) kS)) kS)))))))), ?_⟩
   refine ⟨_, rfl, p, N, 4, rfl, hp, hN, by decide, by decide, fun N1 way b1 b2 b3 => ?_⟩
   have hp1 : ∀ M, (upd H p (.lst [.int M])) p = some (.lst [.int M]) := fun _ => j7
   refine ⟨_, rfl, rfl, _, rfl, ?_⟩
   refine ite2 (fun _ => ?_) (fun hw0 => ?_)
   · refine ⟨_, rfl, _, rfl, _, _, rfl, rfl, ⟨by lia, by lia, by decide⟩, _, _, rfl, rfl, p, N1, _, rfl, hp1 _, b1, by lia, by lia, fun N2 r2 c1 c2 c3 => ⟨_, _, rfl, rfl, ?_⟩⟩
     have hnum : 1 + r2 < 2 ^ w.toNat := by lia
     refine ⟨_, rfl, w, rfl, by lia, by lia, comp_rng (n := w.toNat) (by rw [PySem.sizeLine_eq]; lia) (fun D i σ' H' ys => (∃ v, σ' = [v, some (.int (1 + r2))]) ∧ ys = (bits (1 + r2) i).map V.int ∧ H' = upd (upd (upd H p (.lst [.int N1])) p (.lst [.int N2])) D (.lst ys)) ?_ ?_ ?_ ?_⟩
     · intro D hD
       exact ⟨⟨_, rfl⟩, rfl, rfl⟩
     · rintro D i σ' H' ys hD hi ⟨_, e1, e2⟩
       refine ⟨by rw [e2]; exact j7, ?_⟩
       rw [e1, List.length_map]
       unfold bits
       rw [List.length_map]
       exact Nat.le_trans (List.length_filter_le _ _) (by rw [List.length_range]; exact Nat.le_refl _)
     · rintro D i σ' H' ys hD hi ⟨⟨v, rfl⟩, rfl, rfl⟩
       refine ⟨_, rfl, _, rfl, _, _, rfl, rfl, (by show (0 : Int) ≤ 0 + (i : Int); lia), _, _, rfl, rfl, rfl, _, rfl, ?_⟩
       have ei : (0 + (i : Int)).toNat = i := by lia
       refine ite2 (fun hb => ?_) (fun hb => ?_)
       · have hb : Builtin.bitAnd ((1 + r2) / 2 ^ i) 1 = 1 := by
           have := of_decide_eq_true hb
           rw [ei] at this
           exact V.int.inj this
         refine ⟨_, rfl, j7, ⟨_, rfl⟩, ?_, upd_upd⟩
         rw [bits_succ, if_pos (decide_eq_true hb), List.map_append]
         congr 1
         show [V.int (0 + (i : Int))] = [V.int (i : Int)]
         rw [Int.zero_add]
       · have hb : ¬ Builtin.bitAnd ((1 + r2) / 2 ^ i) 1 = 1 := fun e => hb (decide_eq_true (by rw [ei]; exact congrArg V.int e))
         refine ⟨⟨_, rfl⟩, ?_, rfl⟩
         rw [bits_succ, if_neg (by simpa using hb), List.append_nil]
     · rintro D σ' H' ys hD ⟨_, rfl, rfl⟩
       refine ⟨D, _, rfl, .inl ⟨SqL.of j7, fun qq hqq => ?_⟩⟩
       obtain ⟨n1, n2⟩ := kT hqq
       have pD : p ≠ D := jB j7 hD
       have pq : p ≠ qq := jB j7 n2
       exact q qq N2 (bits (1 + r2) w.toNat) _ c1 (bits_lot (by lia) (by lia) hnum) j7 (by rw [jA pq, jA pD, j7]) (((((Keep.refl H p).upd _).upd _).new hD _).new hqq _)
   · have hway : 1 ≤ way := by
       have : ¬ way = 0 := fun e => hw0 (decide_eq_true (by rw [e]))
       lia
     refine ⟨_, rfl, _, rfl, p, N1, w, rfl, hp1 _, b1, by lia, by lia, fun N2 kR c1 c2 c3 => ?_⟩
     rw [upd_upd]
     refine ⟨_, rfl, p, N2, 3, rfl, hp1 _, c1, by decide, by decide, fun N3 st d1 d2 d3 => ⟨_, _, rfl, rfl, ?_⟩⟩
     rw [upd_upd]
     refine ⟨_, rfl, (by show 3 ≤ sizeLine; decide), fun l hl => ?_⟩
     have pl : p ≠ l := jB (hp1 _) hl
     obtain ⟨wd, hwd, e1, e2⟩ : ∃ wd : Int, atI [V.int 1, V.int 2, V.int 4] (way - 1) = some (.int wd) ∧ 1 ≤ wd ∧ wd ≤ 4 := by
       rcases (show way = 1 ∨ way = 2 ∨ way = 3 by lia) with e | e | e
       · subst e; exact ⟨1, rfl, by decide, by decide⟩
       · subst e; exact ⟨2, rfl, by decide, by decide⟩
       · subst e; exact ⟨4, rfl, by decide, by decide⟩
     refine ⟨_, rfl, _, _, rfl, rfl, l, _, _, _, rfl, rfl, SqL.of j7, hwd, p, N3, wd, rfl, by rw [jA pl]; exact hp1 _, d1, by lia, by lia, fun N4 r4 g1 g2 g3 => ⟨_, _, rfl, rfl, ?_⟩⟩
     have kp : Keep H (upd (upd (upd H p (.lst [.int N3])) l (.lst [V.int 1, V.int 2, V.int 4])) p (.lst [.int N4])) p := (((Keep.refl H p).upd _).new hl _).upd _
     have hp4 : (upd (upd (upd H p (.lst [.int N3])) l (.lst [V.int 1, V.int 2, V.int 4])) p (.lst [.int N4])) p = some (.lst [.int N4]) := j7
     generalize (upd (upd (upd H p (.lst [.int N3])) l (.lst [V.int 1, V.int 2, V.int 4])) p (.lst [.int N4])) = H4 at kp hp4 ⊢
     refine ⟨_, rfl, 1 + r4, rfl, by lia, by lia, comp_rng (n := (1 + r4).toNat) (by rw [PySem.sizeLine_eq]; lia) (fun D i σ' H' ys => (∃ v, σ' = [v, some (.int kR), some (.int (1 + st)), some (.int w)]) ∧ (∃ ns : List Int, ys = ns.map V.int ∧ ns.length = i ∧ ∀ z ∈ ns, 0 ≤ z ∧ z < w) ∧ H' = upd H4 D (.lst ys)) ?_ ?_ ?_ ?_⟩
     · intro D hD
       exact ⟨⟨_, rfl⟩, ⟨[], rfl, rfl, fun z hz => by cases hz⟩, rfl⟩
     · rintro D i σ' H' ys hD hi ⟨_, ⟨ns, rfl, e, _⟩, rfl⟩
       exact ⟨j7, by rw [List.length_map, e]; exact Nat.le_refl _⟩
     · rintro D i σ' H' ys hD hi ⟨⟨v, rfl⟩, ⟨ns, rfl, e, hb⟩, rfl⟩
       dsimp only [kZ, yR]
       rw [if_pos rfl]
       refine ⟨_, rfl, _, rfl, _, rfl, _, _, rfl, rfl, .inl ⟨by lia, by lia⟩, _, _, rfl, rfl, _, rfl, _, _, rfl, rfl, (by show 0 < w; lia), j7, ⟨_, rfl⟩, ⟨ns ++ [(kR + (1 + st) * (0 + (i : Int))) % w], by simp, by simp [e], fun z hz => ?_⟩, upd_upd⟩
       rcases List.mem_append.mp hz with hz | hz
       · exact hb z hz
       · have : z = (kR + (1 + st) * (0 + (i : Int))) % w := by simpa using hz
         rw [this]
         exact ⟨Int.emod_nonneg _ (by lia), Int.emod_lt_of_pos _ (by lia)⟩
     · rintro D σ' H' ys hD ⟨_, ⟨ns, rfl, e, hb⟩, rfl⟩
       refine ⟨D, ns, rfl, SqL.of j7, by lia, fun z hz => ⟨(hb z hz).1, by have := (hb z hz).2; lia⟩, fun l1 ks h11 hm1 => ?_⟩
       refine ⟨l1, ks, rfl, j7, fun l2 ms h12 srt hm2 => ?_⟩
       refine ⟨l2, _, rfl, .inl ⟨SqL.of j7, fun qq hqq => ?_⟩⟩
       have pD : p ≠ D := jB hp4 hD
       have p1 : p ≠ l1 := jB hp4 (kT h11).2
       have p2 : p ≠ l2 := jB hp4 (kT (kT h12).2).2
       have pq : p ≠ qq := jB hp4 (kT (kT (kT hqq).2).2).2
       refine q qq N4 ms _ g1 ⟨srt, fun z hz => hb z ((hm1 z).mp ((hm2 z).mp hz)), fun z => ?_⟩ j7 (by rw [jA pq, jA p2, jA p1, jA pD]; exact hp4) ((((kp.new hD _).new h11 _).new h12 _).new hqq _)
       subst z
       cases ns with
       | nil => simp at e; lia
       | cons x r =>
         have := (hm2 x).mpr ((hm1 x).mpr List.mem_cons_self)
         cases this
end
end Eo
end
section
namespace Eo
open PySem L2
structure Ris (w : Int) (ts : List Int) : Prop where
 ris : ts.Pairwise (· < ·)
 bnd : ∀ z ∈ ts, 0 ≤ z ∧ z < w
theorem Ris.nil (w : Int) : Ris w [] := ⟨.nil, fun z hz => by cases hz⟩
theorem Ris.take {w : Int} {ts : List Int} (h : Ris w ts) (k : Nat) : Ris w (ts.take k) := ⟨h.ris.sublist (List.take_sublist _ _), fun z hz => h.bnd z (List.mem_of_mem_take hz)⟩
theorem Ris.drop {w : Int} {ts : List Int} (h : Ris w ts) (k : Nat) : Ris w (ts.drop k) := ⟨h.ris.sublist (List.drop_sublist _ _), fun z hz => h.bnd z (List.mem_of_mem_drop hz)⟩
theorem Ris.snoc {i : Nat} {ts : List Int} (h : Ris i ts) : Ris (i + 1 : Nat) (ts ++ [(i : Int)]) := by
 refine ⟨List.pairwise_append.mpr ⟨h.ris, List.pairwise_singleton _ _, fun a ha b hb => ?_⟩, fun z hz => ?_⟩
 · have := (h.bnd a ha).2
   have e : b = i := by simpa using hb
   lia
 · rcases List.mem_append.mp hz with q | q
   · have := h.bnd z q
     lia
   · have e : z = i := by simpa using q
     lia
theorem Ris.step {i : Nat} {ts : List Int} (h : Ris i ts) : Ris (i + 1 : Nat) ts := ⟨h.ris, fun z hz => by have := h.bnd z hz; lia⟩
noncomputable def upto (n : Nat) : List Int := (List.range n).map fun (i : Nat) => (i : Int)
theorem intsTo_eq (n : Nat) : intsTo n = (upto n).map V.int := by
 unfold intsTo upto
 rw [List.map_map]
 rfl
theorem upto_ris (n : Nat) : Ris n (upto n) := by
 refine ⟨?_, fun z hz => ?_⟩
 · unfold upto
   rw [List.pairwise_map]
   exact List.pairwise_lt_range.imp fun h => by lia
 · unfold upto at hz
   obtain ⟨t, ht, rfl⟩ := List.mem_map.mp hz
   have := List.mem_range.mp ht
   lia
noncomputable def Tups (H H' : Hp) : Prop := ∀ b xs, H b = some (.tup xs) → H' b = some (.tup xs)
theorem Tups.trans {H H1 H2 : Hp} (a : Tups H H1) (b : Tups H1 H2) : Tups H H2 := fun c o h => b c o (a c o h)
theorem Keep.tups {H H' : Hp} {p : Addr} {xs : List V} (k : Keep H H' p) (hp : H p = some (.lst xs)) : Tups H H' := fun b ys hb => k b _ hb fun e => by
 subst e
 rw [hb] at hp
 cases hp
theorem Tups.upd {H : Hp} {p : Addr} {xs : List V} (hp : H p = some (.lst xs)) (o : HO) : Tups H (upd H p o) := fun b ys hb => by
 rw [jA (fun e => by subst e; rw [hb] at hp; cases hp)]
 exact hb
theorem Tups.new {H : Hp} {p : Addr} (hp : H p = none) (o : HO) : Tups H (L2.upd H p o) := fun b ys hb => by
 rw [jA (jB hb hp)]
 exact hb
noncomputable def PcAt (H : Hp) (v : V) (pc : List Int × Int) : Prop := ∃ a q, v = .ref a ∧ H a = some (.tup [.ref q, .int pc.2]) ∧ H q = some (.tup (pc.1.map V.int))
noncomputable def PcsAt (H : Hp) : List V → List (List Int × Int) → Prop
 | [], [] => True
 | v :: vs, p :: ps => PcAt H v p ∧ PcsAt H vs ps
 | _, _ => False
theorem PcAt.mono {H H' : Hp} {v : V} {pc : List Int × Int} (h : PcAt H v pc) (t : Tups H H') : PcAt H' v pc := by
 obtain ⟨a, q, rfl, h1, h2⟩ := h
 exact ⟨a, q, rfl, t _ _ h1, t _ _ h2⟩
theorem PcsAt.mono {H H' : Hp} (t : Tups H H') : ∀ {vs : List V} {ps : List (List Int × Int)}, PcsAt H vs ps → PcsAt H' vs ps
 | [], [], _ => trivial
 | _ :: _, _ :: _, h => ⟨h.1.mono t, PcsAt.mono t h.2⟩
 | [], _ :: _, h => h.elim
 | _ :: _, [], h => h.elim
theorem PcsAt.len {H : Hp} : ∀ {vs : List V} {ps : List (List Int × Int)}, PcsAt H vs ps → vs.length = ps.length
 | [], [], _ => rfl
 | _ :: _, _ :: _, h => congrArg (· + 1) (PcsAt.len h.2)
 | [], _ :: _, h => h.elim
 | _ :: _, [], h => h.elim
theorem PcsAt.put {H : Hp} {v : V} {p : List Int × Int} (hv : PcAt H v p) : ∀ (k : Nat) {vs : List V} {ps : List (List Int × Int)}, PcsAt H vs ps → PcsAt H (vs.take k ++ v :: vs.drop k) (ps.take k ++ p :: ps.drop k)
 | 0, _, _, h => ⟨hv, h⟩
 | _ + 1, [], [], _ => ⟨hv, trivial⟩
 | k + 1, _ :: _, _ :: _, h => ⟨h.1, PcsAt.put hv k h.2⟩
 | _ + 1, [], _ :: _, h => h.elim
 | _ + 1, _ :: _, [], h => h.elim
structure GoodPc (w : Int) (pc : List Int × Int) : Prop where
 lot : Lot w pc.1
 lo : -1000000000000 ≤ pc.2
 hi : pc.2 ≤ 1000000000000
structure BoxAt (H : Hp) (b : Addr) (w : Int) (mays : List Int) (pcs : List (List Int × Int)) : Prop where
 ex : ∃ qm qp vs, H b = some (.tup [.int w, .ref qm, .ref qp]) ∧ H qm = some (.tup (mays.map V.int)) ∧ H qp = some (.tup vs) ∧ PcsAt H vs pcs
theorem BoxAt.mono {H H' : Hp} {b : Addr} {w : Int} {mays : List Int} {pcs : List (List Int × Int)} (h : BoxAt H b w mays pcs) (t : Tups H H') : BoxAt H' b w mays pcs := by
 obtain ⟨qm, qp, vs, h1, h2, h3, h4⟩ := h.ex
 exact ⟨qm, qp, vs, t _ _ h1, t _ _ h2, t _ _ h3, h4.mono t⟩
structure Good (mt mp : Int) (w : Int) (mays : List Int) (pcs : List (List Int × Int)) : Prop where
 w0 : 0 ≤ w
 w1 : w ≤ mt
 mr : Ris w mays
 pl : (pcs.length : Int) ≤ mp
 pg : ∀ pc ∈ pcs, GoodPc w pc
theorem Keep.updNew {H H1 : Hp} {p l : Addr} (a : Keep H H1 p) (hl : H l = none) (o : HO) : Keep H (L2.upd H1 l o) p := fun c u h n => by
 rw [jA (jB h hl)]
 exact a c u h n
section
variable {P : Program} {w : World} {K : W.Frag} {mg : Str → Option Value} {base : Heap}
noncomputable def spBox : Sp := fun vs H Q _ => ∃ (p : Addr) (N mt mp : Int), vs = [.ref p, .int mt, .int mp] ∧ H p = some (.lst [.int N]) ∧ 0 ≤ N ∧ 0 ≤ mt ∧ mt ≤ 16 ∧ 0 ≤ mp ∧ mp ≤ 32 ∧
 ∀ (b : Addr) (N' w : Int) (mays : List Int) (pcs : List (List Int × Int)) (H' : Hp), 0 ≤ N' → H' p = some (.lst [.int N']) → BoxAt H' b w mays pcs → Good mt mp w mays pcs → Keep H H' p → Q (.ref b) H'
noncomputable abbrev nBox : List Str := ["pot", "most_things", "most_pieces", "wide", "mays", "left", "far", "pieces", "k", "size", "things"]
theorem scBox : FnScope nBox ["pot", "most_things", "most_pieces"] (j8 sBox) := ⟨rfl, rfl, rfl, by decide +kernel, rfl, by decide +kernel, by decide +kernel⟩
end
end Eo
end
section
namespace Eo
open PySem L2
section
variable {P : Program} {w : World} {K : W.Frag} {mg : Str → Option Value} {base : Heap}
noncomputable abbrev XBox (P : Program) (w : World) (K : W.Frag) (mg : Str → Option Value) (base : Heap) (f : Addr) (cdv : Value) (A : Around) (outer : List Env) (s : Shared) (H : Hp) (E : XK) : Cx := (cxOf CX0 P w K mg base nBox "_law_box" (j8 sBox) f cdv A outer s H E).nox
noncomputable def loopOf : Stmt → List Stmt
 | .For _ _ b _ _ => b
 | _ => []
noncomputable def boxI {f fT fL : Addr} {fdT fdL : FuncData} {cdv : Value} {A : Around} {outer : List Env} {s : Shared} {H : Hp} {E : XK} (T : Txt mg) (CT : Can P w K mg base "_law_take" 1 fT fdT ["pot", "wide"] jW) (CL : Can P w K mg base "_law_lot" 2 fL fdL ["pot", "wide"] yP) (hr : Room 2 (XBox P w K mg base f cdv A outer s H E).A) : { t : TS // JSs (XBox P w K mg base f cdv A outer s H E) ((loopOf ((jC sBox).getD 7 (.Pass ⟨0, 0, 0, 0⟩))).drop 4) t } :=
 have nd := scBox.nd
 ⟨_, (jJ (js_expr (je_bm PySem.F.plainAttrs_list PySem.F.slot_list_insert PySem.F.type_list_insert mt_insert (jv 7 rfl vL) (j4 (CT.je (hr.mono (by decide)) gD (j4 (jv 0 rfl vC) (j4 (kY yI (jI call_len_seq gD T.len (by decide +kernel) (j4 (jv 7 rfl vL) j9 j6) j6) (jD)) j9 yA) j6) j6) (j4 (je_tup (j4 (jv 10 rfl vL) (j4 (kY op_sub (CT.je (hr.mono (by decide)) gD (j4 (jv 0 rfl vC) (j4 (jv 6 rfl vL) j9 j6) j6) j6) (kY op_fdivL (jv 6 rfl vL) (jD))) j9 yA) j6)) j9 se_tup) jG) jG) kJ))⟩
noncomputable def boxL {f fT fL : Addr} {fdT fdL : FuncData} {cdv : Value} {A : Around} {outer : List Env} {s : Shared} {H : Hp} {E : XK} (T : Txt mg) (CT : Can P w K mg base "_law_take" 1 fT fdT ["pot", "wide"] jW) (CL : Can P w K mg base "_law_lot" 2 fL fdL ["pot", "wide"] yP) (hr : Room 2 (XBox P w K mg base f cdv A outer s H E).A) : { t : TS // JSs (XBox P w K mg base f cdv A outer s H E) (loopOf ((jC sBox).getD 7 (.Pass ⟨0, 0, 0, 0⟩))) t } :=
 have nd := scBox.nd
 ⟨_, (jE (jU (i := 9) nd rfl lL (kY yI (jD) (CT.je (hr.mono (by decide)) gD (j4 (jv 0 rfl vC) (j4 (jD) j9 jF) j6) j6)) sw_bin)
     (jE (jU (i := 10) nd rfl lL (jR jO gD T.tuple (by decide +kernel) (j4 (je_slice sl_list (jv 5 rfl vL) jo_none (jo_some (jv 9 rfl vL))) j9 kN) kN) kJ)
     (jE (jU (i := 5) nd rfl lL (je_slice sl_list (jv 5 rfl vL) (jo_some (jv 9 rfl vL)) jo_none) sw_sub)
     (jE (yT (jt_cmpR (op_eqE hr.units0) (jv 10 rfl vL) (je_tup j9) (kO _)) (jJ (jU (i := 10) nd rfl lL (CL.je hr gD (j4 (jv 0 rfl vC) (j4 (jv 3 rfl vL) j9 j6) j6) j6) kJ)) y8)
     (boxI T CT CL hr).2))))⟩
noncomputable def boxC {f fT fL : Addr} {fdT fdL : FuncData} {cdv : Value} {A : Around} {outer : List Env} {s : Shared} {H : Hp} {E : XK} (T : Txt mg) (CT : Can P w K mg base "_law_take" 1 fT fdT ["pot", "wide"] jW) (CL : Can P w K mg base "_law_lot" 2 fL fdL ["pot", "wide"] yP) (hr : Room 2 (XBox P w K mg base f cdv A outer s H E).A) : { t : TS // JSs (XBox P w K mg base f cdv A outer s H E) ((jC sBox).drop 5) t } :=
 have nd := scBox.nd
 ⟨_, (jE (jU (i := 6) nd rfl lL (kX ix_list (je_lst (j4 (jD) (j4 (jD) (j4 (je_big) j9 yA) jF) jF)) (CT.je (hr.mono (by decide)) gD (j4 (jv 0 rfl vC) (j4 (jD) j9 jF) j6) j6) px_call) sw_sub)
     (jE (jU (i := 7) nd rfl lL (je_lst j9) sw_lst)
     (jE (js_for PassesOwn.never rfl (ji_range1 gD T.range (j4 (kY op_mul (CT.je (hr.mono (by decide)) gD (j4 (jv 0 rfl vC) (j4 (kY yI (jv 2 rfl vL) (jD)) j9 yA) j6) j6) (jR call_int1 gD T.int (by decide +kernel) (j4 (je_cmpR op_gt (jv 3 rfl vL) (jD) (kO _)) j9 se_cmp) se_cmp)) j9 yA) yA) (kL (i := 8) nd rfl lL) (boxL T CT CL hr).2 fo_call)
     (jJ (kI (je_tup (j4 (jv 3 rfl vL) (j4 (jv 4 rfl vL) (j4 (jR jO gD T.tuple (by decide +kernel) (j4 (jv 7 rfl vL) j9 j6) j6) j9 jG) j6) j6)))))))⟩
noncomputable def boxB {f fT fL : Addr} {fdT fdL : FuncData} {cdv : Value} {A : Around} {outer : List Env} {s : Shared} {H : Hp} {E : XK} (T : Txt mg) (CT : Can P w K mg base "_law_take" 1 fT fdT ["pot", "wide"] jW) (CL : Can P w K mg base "_law_lot" 2 fL fdL ["pot", "wide"] yP) (hr : Room 2 (XBox P w K mg base f cdv A outer s H E).A) : { t : TS // JSs (XBox P w K mg base f cdv A outer s H E) ((jC sBox).drop 3) t } :=
 have nd := scBox.nd
 ⟨_, (jE (jU (i := 5) nd rfl lL (jR (call_listRng rfl) gD T.list (by decide +kernel) (j4 (jR call_rangeV gD T.range (by decide +kernel) (j4 (jv 3 rfl vL) j9 j6) j6) j9 jG) jG) kJ)
     (jE (yT (jt_cmpR op_eq (CT.je (hr.mono (by decide)) gD (j4 (jv 0 rfl vC) (j4 (jD) j9 jF) j6) j6) (jD) (kO _)) (jJ (jU (i := 5) nd rfl lL (je_lst j9) sw_lst)) y8)
     (boxC T CT CL hr).2))⟩
noncomputable def boxA {f fT fL : Addr} {fdT fdL : FuncData} {cdv : Value} {A : Around} {outer : List Env} {s : Shared} {H : Hp} {E : XK} (T : Txt mg) (CT : Can P w K mg base "_law_take" 1 fT fdT ["pot", "wide"] jW) (CL : Can P w K mg base "_law_lot" 2 fL fdL ["pot", "wide"] yP) (hr : Room 2 (XBox P w K mg base f cdv A outer s H E).A) : { t : TS // JSs (XBox P w K mg base f cdv A outer s H E) (jC sBox) t } :=
 have nd := scBox.nd
 ⟨_, (jE (jU (i := 3) nd rfl lL (CT.je (hr.mono (by decide)) gD (j4 (jv 0 rfl vC) (j4 (kY yI (jv 1 rfl vL) (jD)) j9 yA) j6) j6) kJ)
     (jE (jU (i := 4) nd rfl lL (je_tup j9) sw_tup)
     (jE (yT (jt_cmpR op_eq (CT.je (hr.mono (by decide)) gD (j4 (jv 0 rfl vC) (j4 (jD) j9 jF) j6) j6) (jD) (kO _)) (jJ (jU (i := 4) nd rfl lL (jR jO gD T.tuple (by decide +kernel) (j4 (y9 (m := [none, some 0]) (Nc := ["t", "pot"]) rfl (ji_range1 gD T.range (j4 (jv 3 rfl vL) j9 j6) j6) rfl (by decide +kernel) (by decide +kernel) (jY (psc := j8 sBox) (by decide +kernel)) (jS (N := nBox) rfl rfl (by decide +kernel)) (fun cl C fp s H => kL (i := 0) (show (["t", "pot"] : List Str).Nodup by decide +kernel) rfl (yQ (by decide +kernel))) (fun cl C fp s H => jts_one (jt_cmpR op_eq (CT.je (hr.mono (by decide)) (gl_b (by decide +kernel)) (j4 (jv 1 rfl (y0 (by decide +kernel))) (j4 (jD) j9 jF) j6) j6) (jD) (kO _))) (fun cl C fp s H => (jv 0 rfl (kD (by decide +kernel)))) fo_call) j9 jP) jP) kJ)) y8)
     (boxB T CT CL hr).2)))⟩
end
end Eo
end
section
namespace Eo
open PySem L2
structure St0 (H H2 : Hp) (p : Addr) (w : Int) (qm ql : Addr) (mays lf : List Int) (N : Int) : Prop where
 hp : H2 p = some (.lst [.int N])
 hN : 0 ≤ N
 hm : H2 qm = some (.tup (mays.map V.int))
 rm : Ris w mays
 hl : H2 ql = some (.lst (lf.map V.int))
 rl : Ris w lf
 ne : ql ≠ p
 kp : Keep H H2 p
theorem St0.step {H H2 H3 : Hp} {p : Addr} {w : Int} {qm ql : Addr} {mays lf : List Int} {N N' : Int} (S : St0 H H2 p w qm ql mays lf N) (k : Keep H2 H3 p) (hp : H3 p = some (.lst [.int N'])) (hN : 0 ≤ N') : St0 H H3 p w qm ql mays lf N' :=
 ⟨hp, hN, k qm _ S.hm (ne_of S.hm S.hp (by intro z; cases z)), S.rm, k ql _ S.hl S.ne, S.rl, S.ne, S.kp.trans k⟩
theorem cut_ris {w : Int} {lf : List Int} (h : Ris w lf) (lo hi : Option Int) : ∃ l', cutV (lf.map V.int) lo hi = l'.map V.int ∧ Ris w l' := by
 refine ⟨(lf.drop (HT.sIx lf.length 0 lo)).take (HT.sIx lf.length lf.length hi - HT.sIx lf.length 0 lo), ?_, (h.drop _).take _⟩
 unfold cutV
 rw [List.length_map, List.map_take, List.map_drop]
section
variable {P : Program} {w : World} {K : W.Frag} {mg : Str → Option Value} {base : Heap}
variable {f fT fL : Addr} {fdT fdL : FuncData} {cdv : Value} {A : Around} {outer : List Env} {s : Shared} {H0 : Hp} {E : XK}
theorem boxI_read (T : Txt mg) (CT : Can P w K mg base "_law_take" 1 fT fdT ["pot", "wide"] jW) (CL : Can P w K mg base "_law_lot" 2 fL fdL ["pot", "wide"] yP) (hr : Room 2 (XBox P w K mg base f cdv A outer s H0 E).A)
   {D : Ends} {H H5 : Hp} {p qm ql qp qt : Addr} {mt mp w N far : Int} {mays lf ts : List Int} {vs : List V} {pcs : List (List Int × Int)} {v8 v9 : Option V}
   (S : St0 H H5 p w qm ql mays lf N) (hqp : H5 qp = some (.lst vs)) (hv : PcsAt H5 vs pcs) (hg : ∀ pc ∈ pcs, GoodPc w pc) (hqt : H5 qt = some (.tup (ts.map V.int))) (lt : Lot w ts) (hf : far = 1 ∨ far = 10 ∨ far = 2000000000001) (hn : pcs.length ≤ 100) (hH : H qp = none) (hne : ql ≠ qp) (hpp : p ≠ qp)
   (nx : ∀ H6 N' vs' pcs', St0 H H6 p w qm ql mays lf N' → H6 qp = some (.lst vs') → PcsAt H6 vs' pcs' → (∀ pc ∈ pcs', GoodPc w pc) → pcs'.length = pcs.length + 1 → D.nx [some (.ref p), some (.int mt), some (.int mp), some (.int w), some (.ref qm), some (.ref ql), some (.int far), some (.ref qp), v8, v9, some (.ref qt)] H6) :
   (boxI T CT CL hr).1 D [some (.ref p), some (.int mt), some (.int mp), some (.int w), some (.ref qm), some (.ref ql), some (.int far), some (.ref qp), v8, v9, some (.ref qt)] H5 := by
 have hlen := hv.len
 have h64 : (0 : Int) < far ∧ far < 2 ^ 64 := by rcases hf with e | e | e <;> subst e <;> decide
 refine ⟨_, rfl, .inl ⟨rfl, _, SqL.of hqp⟩, _, rfl, _, rfl, qp, vs, rfl, .inl (SqL.of hqp), _, _, rfl, rfl, p, N, _, rfl, S.hp, S.hN, by lia, by lia, fun N1 i a1 a2 a3 => ?_⟩
 refine ⟨_, rfl, _, rfl, _, rfl, p, N1, far, rfl, j7, a1, h64.1, h64.2, fun N2 r b1 b2 b3 => ?_⟩
 rw [upd_upd]
 refine ⟨_, rfl, _, _, rfl, rfl, ⟨by decide, by decide⟩, _, _, rfl, rfl, (by show 2 ≤ sizeLine; decide), fun tq htq => ?_⟩
 obtain ⟨t1, t2⟩ := kT htq
 have ht : tq ≠ qp := fun e => by subst e; rw [hqp] at t2; cases t2
 refine ⟨qp, vs, i, _, rfl, rfl, by rw [jA ht.symm, jA hpp.symm]; exact hqp, a2, by lia, by rw [PySem.sizeLine_eq]; lia, ?_⟩
 have T1 : Tups H5 (upd (upd H5 p (.lst [.int N2])) tq (.tup [.ref qt, .int (r - far / 2)])) := (Tups.upd S.hp _).trans (Tups.new htq _)
 have k1 : Keep H5 (upd (upd H5 p (.lst [.int N2])) tq (.tup [.ref qt, .int (r - far / 2)])) p := ((Keep.refl _ _).upd _).new htq _
 have S1 := S.step k1 (by rw [jA t1.symm]; exact j7) b1
 have hq1 : (upd (upd H5 p (.lst [.int N2])) tq (.tup [.ref qt, .int (r - far / 2)])) qp = some (.lst vs) := by rw [jA ht.symm, jA hpp.symm]; exact hqp
 have T2 := T1.trans (Tups.upd hq1 (.lst (vs.take i.toNat ++ V.ref tq :: vs.drop i.toNat)))
 have pc : PcAt (upd (upd H5 p (.lst [.int N2])) tq (.tup [.ref qt, .int (r - far / 2)])) (.ref tq) (ts, r - far / 2) := ⟨tq, qt, rfl, j7, T1 _ _ hqt⟩
 refine nx _ N2 _ (pcs.take i.toNat ++ (ts, r - far / 2) :: pcs.drop i.toNat) ⟨?_, b1, ?_, S.rm, ?_, S.rl, S.ne, S1.kp.updNew hH _⟩ j7 ?_ ?_ ?_
 · rw [jA hpp]; exact S1.hp
 · exact (Tups.upd hq1 _) _ _ S1.hm
 · rw [jA hne]; exact S1.hl
 · exact PcsAt.put (pc.mono (Tups.upd hq1 _)) _ (hv.mono T2)
 · intro c hc
   rcases List.mem_append.mp hc with h | h
   · exact hg c (List.mem_of_mem_take h)
   · rcases List.mem_cons.mp h with h | h
     · subst h
       refine ⟨lt, ?_, ?_⟩
       · show -1000000000000 ≤ r - far / 2
         rcases hf with e | e | e <;> subst e <;> lia
       · show r - far / 2 ≤ 1000000000000
         rcases hf with e | e | e <;> subst e <;> lia
     · exact hg c (List.mem_of_mem_drop h)
 · rw [List.length_append, List.length_cons, List.length_take, List.length_drop]
   lia
end
end Eo
end
section
namespace Eo
open PySem L2
section
variable {P : Program} {w : World} {K : W.Frag} {mg : Str → Option Value} {base : Heap}
variable {f fT fL : Addr} {fdT fdL : FuncData} {cdv : Value} {A : Around} {outer : List Env} {s : Shared} {H0 : Hp} {E : XK}
theorem boxL_read (T : Txt mg) (CT : Can P w K mg base "_law_take" 1 fT fdT ["pot", "wide"] jW) (CL : Can P w K mg base "_law_lot" 2 fL fdL ["pot", "wide"] yP) (hr : Room 2 (XBox P w K mg base f cdv A outer s H0 E).A)
   {D : Ends} {H H5 : Hp} {p qm ql qp : Addr} {mt mp w N far : Int} {mays lf : List Int} {vs : List V} {pcs : List (List Int × Int)} {v8 v9 v10 : Option V}
   (S : St0 H H5 p w qm ql mays lf N) (hqp : H5 qp = some (.lst vs)) (hv : PcsAt H5 vs pcs) (hg : ∀ pc ∈ pcs, GoodPc w pc) (hf : far = 1 ∨ far = 10 ∨ far = 2000000000001) (hn : pcs.length ≤ 100) (hH : H qp = none) (hpp : p ≠ qp) (w1 : 1 ≤ w) (w2 : w ≤ 16)
   (nx : ∀ H6 N' vs' pcs' ql' lf' v9' v10', St0 H H6 p w qm ql' mays lf' N' → ql' ≠ qp → H6 qp = some (.lst vs') → PcsAt H6 vs' pcs' → (∀ pc ∈ pcs', GoodPc w pc) → pcs'.length = pcs.length + 1 → D.nx [some (.ref p), some (.int mt), some (.int mp), some (.int w), some (.ref qm), some (.ref ql'), some (.int far), some (.ref qp), v8, v9', v10'] H6) :
   (boxL T CT CL hr).1 D [some (.ref p), some (.int mt), some (.int mp), some (.int w), some (.ref qm), some (.ref ql), some (.int far), some (.ref qp), v8, v9, v10] H5 := by
 refine ⟨_, rfl, p, N, 3, rfl, S.hp, S.hN, by decide, by decide, fun N1 r1 a1 a2 a3 => ⟨_, _, rfl, rfl, ?_⟩⟩
 have S1 := S.step ((Keep.refl _ _).upd (.lst [.int N1])) j7 a1
 have hq1 : (upd H5 p (.lst [.int N1])) qp = some (.lst vs) := by rw [jA hpp.symm]; exact hqp
 have hv1 := hv.mono (Tups.upd S.hp (.lst [.int N1]))
 generalize upd H5 p (.lst [.int N1]) = H6 at S1 hq1 hv1 ⊢
 clear S hqp hv
 obtain ⟨l1, e1, g1⟩ := cut_ris S1.rl none (some (1 + r1))
 obtain ⟨l2, e2, g2⟩ := cut_ris S1.rl (some (1 + r1)) none
 refine ⟨_, rfl, _, rfl, 1 + r1, rfl, ql, _, rfl, SqL.of S1.hl, fun x hx => ⟨x, _, rfl, .inl ⟨SqL.of j7, fun qt hqt => ?_⟩⟩⟩
 rw [e1] at hqt ⊢
 have k1 : Keep H6 (upd (upd H6 x (.lst (l1.map V.int))) qt (.tup (l1.map V.int))) p := ((Keep.refl _ _).new hx _).new hqt _
 obtain ⟨t1, t2⟩ := kT hqt
 have px : p ≠ x := jB S1.hp hx
 have pt : p ≠ qt := jB S1.hp t2
 have qx : qp ≠ x := jB hq1 hx
 have qq : qp ≠ qt := jB hq1 t2
 have S2 := S1.step k1 (by rw [jA pt, jA px]; exact S1.hp) S1.hN
 have hq2 : (upd (upd H6 x (.lst (l1.map V.int))) qt (.tup (l1.map V.int))) qp = some (.lst vs) := by rw [jA qq, jA qx]; exact hq1
 have hv2 := hv1.mono (k1.tups S1.hp)
 have ht2 : (upd (upd H6 x (.lst (l1.map V.int))) qt (.tup (l1.map V.int))) qt = some (.tup (l1.map V.int)) := j7
 generalize upd (upd H6 x (.lst (l1.map V.int))) qt (.tup (l1.map V.int)) = H7 at S2 hq2 hv2 ht2 ⊢
 clear k1 hqt t2 hx S1 hq1 hv1
 refine ⟨_, rfl, _, rfl, 1 + r1, rfl, ql, _, rfl, SqL.of S2.hl, fun ql' hql => ?_⟩
 rw [e2]
 have pl : p ≠ ql' := jB S2.hp hql
 have k2 : Keep H7 (upd H7 ql' (.lst (l2.map V.int))) p := (Keep.refl _ _).new hql _
 have S3' := S2.step k2 (by rw [jA pl]; exact S2.hp) S2.hN
 have S3 : St0 H (upd H7 ql' (.lst (l2.map V.int))) p w qm ql' mays l2 N1 := ⟨S3'.hp, S3'.hN, S3'.hm, S3'.rm, j7, g2, pl.symm, S3'.kp⟩
 have hne : qp ≠ ql' := jB hq2 hql
 have hq3 : (upd H7 ql' (.lst (l2.map V.int))) qp = some (.lst vs) := by rw [jA hne]; exact hq2
 have hv3 := hv2.mono (k2.tups S2.hp)
 have ht3 := k2.tups S2.hp _ _ ht2
 generalize upd H7 ql' (.lst (l2.map V.int)) = H8 at S3 hq3 hv3 ht3 ⊢
 clear k2 S3' S2 hq2 hv2 ht2 hql
 refine ⟨_, rfl, (by show 0 ≤ sizeLine; exact Nat.zero_le _), fun z hz => ⟨qt, z, l1.map V.int, rfl, rfl, SqT.of ?_, SqT.of j7, _, rfl, ?_⟩⟩
 · rw [jA (jB ht3 hz)]; exact ht3
 have pz : p ≠ z := jB S3.hp hz
 have qz : qp ≠ z := jB hq3 hz
 have k3 : Keep H8 (upd H8 z (.tup [])) p := (Keep.refl _ _).new hz _
 have S4 := S3.step k3 (by rw [jA pz]; exact S3.hp) S3.hN
 have hq4 : (upd H8 z (.tup [])) qp = some (.lst vs) := by rw [jA qz]; exact hq3
 have hv4 := hv3.mono (k3.tups S3.hp)
 have ht4 := k3.tups S3.hp _ _ ht3
 generalize upd H8 z (.tup []) = H9 at S4 hq4 hv4 ht4 ⊢
 clear k3 S3 hq3 hv3 ht3 hz pz qz
 refine ite2 (fun hy => ?_) (fun hy => ?_)
 · refine ⟨_, rfl, _, rfl, p, N1, w, rfl, S4.hp, S4.hN, w1, w2, fun q N2 ts H' b1 lt b2 b3 b4 => ?_⟩
   exact boxI_read T CT CL hr (S4.step b4 b3 b1) (b4 _ _ hq4 hpp.symm) (hv4.mono (b4.tups S4.hp)) hg b2 lt hf hn hH hne.symm hpp fun H6 N' vs' pcs' z1 z2 z3 z4 z5 => nx H6 N' vs' pcs' ql' l2 _ _ z1 hne.symm z2 z3 z4 z5
 · have nl : l1 ≠ [] := fun e => hy (decide_eq_true (by rw [e]; rfl))
   exact boxI_read T CT CL hr S4 hq4 hv4 hg ht4 ⟨g1.ris, g1.bnd, nl⟩ hf hn hH hne.symm hpp fun H6 N' vs' pcs' z1 z2 z3 z4 z5 => nx H6 N' vs' pcs' ql' l2 _ _ z1 hne.symm z2 z3 z4 z5
end
end Eo
end
section
namespace Eo
open PySem L2
section
variable {P : Program} {w : World} {K : W.Frag} {mg : Str → Option Value} {base : Heap}
variable {f fT fL : Addr} {fdT fdL : FuncData} {cdv : Value} {A : Around} {outer : List Env} {s : Shared} {H0 : Hp} {E : XK}
noncomputable def Told (H : Hp) (p : Addr) (mt mp : Int) (R : VK) : Prop := ∀ (b : Addr) (N' w : Int) (mays : List Int) (pcs : List (List Int × Int)) (H' : Hp), 0 ≤ N' → H' p = some (.lst [.int N']) → BoxAt H' b w mays pcs → Good mt mp w mays pcs → Keep H H' p → R (.ref b) H'
theorem boxC_read (T : Txt mg) (CT : Can P w K mg base "_law_take" 1 fT fdT ["pot", "wide"] jW) (CL : Can P w K mg base "_law_lot" 2 fL fdL ["pot", "wide"] yP) (hr : Room 2 (XBox P w K mg base f cdv A outer s H0 E).A)
   {D : Ends} {H H5 : Hp} {p qm ql : Addr} {mt mp w N : Int} {mays lf : List Int} {v6 v7 v8 v9 v10 : Option V}
   (S : St0 H H5 p w qm ql mays lf N) (hpH : ∃ o, H p = some o) (w0 : 0 ≤ w) (w1 : w ≤ mt) (w2 : mt ≤ 16) (n0 : 0 ≤ mp) (n1 : mp ≤ 32) (q : Told H p mt mp D.rt) :
   (boxC T CT CL hr).1 D [some (.ref p), some (.int mt), some (.int mp), some (.int w), some (.ref qm), some (.ref ql), v6, v7, v8, v9, v10] H5 := by
 refine ⟨(by show 3 ≤ sizeLine; decide), fun l hl => ?_⟩
 have pl : p ≠ l := jB S.hp hl
 refine ⟨_, rfl, p, N, 3, rfl, by rw [jA pl]; exact S.hp, S.hN, by decide, by decide, fun N1 r a1 a2 a3 => ?_⟩
 obtain ⟨far, hfar, hf⟩ : ∃ far : Int, atI [V.int 1, V.int 10, V.int 2000000000001] r = some (.int far) ∧ (far = 1 ∨ far = 10 ∨ far = 2000000000001) := by
   rcases (show r = 0 ∨ r = 1 ∨ r = 2 by lia) with e | e | e
   · subst e; exact ⟨_, rfl, .inl rfl⟩
   · subst e; exact ⟨_, rfl, .inr (.inl rfl)⟩
   · subst e; exact ⟨_, rfl, .inr (.inr rfl)⟩
 refine ⟨l, _, r, _, rfl, rfl, SqL.of (by rw [jA pl.symm]; exact j7), hfar, ?_⟩
 have S1 := S.step ((((Keep.refl _ _).new hl (.lst [V.int 1, V.int 10, V.int 2000000000001])).upd (.lst [.int N1]))) j7 a1
 generalize upd (upd H5 l (.lst [V.int 1, V.int 10, V.int 2000000000001])) p (.lst [.int N1]) = H6 at S1 ⊢
 clear hl S
 refine ⟨(by show 0 ≤ sizeLine; exact Nat.zero_le _), fun qp hqp => ?_⟩
 have pq : p ≠ qp := jB S1.hp hqp
 have hHq : H qp = none := by
   cases e : H qp with
   | none => rfl
   | some o =>
     have := S1.kp _ _ e pq.symm
     rw [hqp] at this
     cases this
 have lq : ql ≠ qp := jB S1.hl hqp
 have S2 := S1.step ((Keep.refl _ _).new hqp (.lst [])) (by rw [jA pq]; exact S1.hp) S1.hN
 have hq2 : (upd H6 qp (.lst [])) qp = some (.lst []) := j7
 generalize upd H6 qp (.lst []) = H7 at S2 hq2 ⊢
 clear hqp S1
 refine ⟨_, rfl, _, rfl, _, _, rfl, rfl, p, N1, _, rfl, S2.hp, S2.hN, by lia, by lia, fun N2 n b1 b2 b3 => ?_⟩
 refine ⟨_, rfl, _, _, rfl, rfl, .inr ⟨_, rfl, _, _, rfl, rfl, .inl ⟨by lia, by lia⟩, _, rfl, ?_⟩⟩
 have S3 := S2.step ((Keep.refl _ _).upd (.lst [.int N2])) j7 b1
 have hq3 : (upd H7 p (.lst [.int N2])) qp = some (.lst []) := by rw [jA pq.symm]; exact hq2
 generalize upd H7 p (.lst [.int N2]) = H8 at S3 hq3 ⊢
 clear S2 hq2
 obtain ⟨m, em, hm, hw⟩ : ∃ m : Int, n * (if decide (0 < w) = true then 1 else 0) = m ∧ (0 ≤ m ∧ m ≤ mp) ∧ (0 < m → 1 ≤ w) := by
   by_cases h : 0 < w
   · exact ⟨n, by simp [h], ⟨b2, by lia⟩, fun _ => h⟩
   · exact ⟨0, by simp [h], ⟨by lia, n0⟩, fun z => by lia⟩
 show _ ∧ _ ∧ _
 rw [show (n * (if decide (0 < w) = true then 1 else 0)) = m from em]
 refine ⟨by lia, by lia, for_range (n := m.toNat) (fun i σ H5 => ∃ ql' lf' N' vs pcs v8 v9 v10, σ = [some (.ref p), some (.int mt), some (.int mp), some (.int w), some (.ref qm), some (.ref ql'), some (.int far), some (.ref qp), v8, v9, v10] ∧ St0 H H5 p w qm ql' mays lf' N' ∧ ql' ≠ qp ∧ H5 qp = some (.lst vs) ∧ PcsAt H5 vs pcs ∧ (∀ pc ∈ pcs, GoodPc w pc) ∧ pcs.length = i) ?_ ?_ ?_⟩
 · exact ⟨ql, lf, N2, [], [], _, _, _, rfl, S3, lq, hq3, trivial, (fun _ h => by cases h), rfl⟩
 · rintro i σ H9 hi ⟨ql', lf', N', vs, pcs, x8, x9, x10, rfl, S4, l4, hq4, hv4, hg4, e4⟩
   exact boxL_read T CT CL hr S4 hq4 hv4 hg4 hf (by lia) hHq pq (hw (by lia)) (by lia) fun H6 N' vs' pcs' ql' lf' v9' v10' z1 z2 z3 z4 z5 z6 => ⟨ql', lf', N', vs', pcs', _, _, _, rfl, z1, z2, z3, z4, z5, by lia⟩
 · rintro σ H9 ⟨ql', lf', N', vs, pcs, x8, x9, x10, rfl, S4, l4, hq4, hv4, hg4, e4⟩
   refine ⟨_, rfl, _, rfl, _, rfl, qp, vs, rfl, .inl ⟨SqL.of hq4, fun tq htq => ⟨(by show 3 ≤ sizeLine; decide), fun b hb => ?_⟩⟩⟩
   have k1 : Keep H9 (upd H9 tq (.tup vs)) p := (Keep.refl _ _).new htq _
   have k2 : Keep H9 (upd (upd H9 tq (.tup vs)) b (.tup [.int w, .ref qm, .ref tq])) p := k1.new hb _
   have tb := jB j7 hb
   have S5 := S4.step k2 (by rw [jA (kT hb |>.2 |> fun h => jB S4.hp h), jA (jB S4.hp htq)]; exact S4.hp) S4.hN
   exact q b N' w mays pcs _ S4.hN S5.hp ⟨qm, tq, vs, j7, S5.hm, by rw [jA tb]; exact j7, hv4.mono (k2.tups S4.hp)⟩ ⟨w0, w1, S4.rm, by lia, hg4⟩ S5.kp
end
end Eo
end
section
namespace Eo
open PySem L2
section
variable {P : Program} {w : World} {K : W.Frag} {mg : Str → Option Value} {base : Heap}
section
variable {f fT fL : Addr} {fdT fdL : FuncData} {cdv : Value} {A : Around} {outer : List Env} {s : Shared} {H0 : Hp} {E : XK}
theorem boxB_read (T : Txt mg) (CT : Can P w K mg base "_law_take" 1 fT fdT ["pot", "wide"] jW) (CL : Can P w K mg base "_law_lot" 2 fL fdL ["pot", "wide"] yP) (hr : Room 2 (XBox P w K mg base f cdv A outer s H0 E).A)
   {D : Ends} {H H5 : Hp} {p qm : Addr} {mt mp w N : Int} {mays : List Int} {v5 v6 v7 v8 v9 v10 : Option V}
   (hp : H5 p = some (.lst [.int N])) (hN : 0 ≤ N) (hm : H5 qm = some (.tup (mays.map V.int))) (rm : Ris w mays) (kp : Keep H H5 p) (hpH : ∃ o, H p = some o) (w0 : 0 ≤ w) (w1 : w ≤ mt) (w2 : mt ≤ 16) (n0 : 0 ≤ mp) (n1 : mp ≤ 32) (q : Told H p mt mp D.rt) :
   (boxB T CT CL hr).1 D [some (.ref p), some (.int mt), some (.int mp), some (.int w), some (.ref qm), v5, v6, v7, v8, v9, v10] H5 := by
 refine ⟨_, rfl, w, rfl, fun x hx => ⟨x, w, rfl, j7, w0, by lia, fun ql hql => ?_⟩⟩
 rw [intsTo_eq]
 have px : p ≠ x := jB hp hx
 have pl : p ≠ ql := jB hp (kT hql).2
 have k1 : Keep H5 (upd (upd H5 x (.rng 0 w)) ql (.lst ((upto w.toNat).map V.int))) p := ((Keep.refl _ _).new hx _).new hql _
 have e : ((w.toNat : Nat) : Int) = w := by lia
 have rl : Ris w (upto w.toNat) := by
   have := upto_ris w.toNat
   rw [e] at this
   exact this
 have S : St0 H (upd (upd H5 x (.rng 0 w)) ql (.lst ((upto w.toNat).map V.int))) p w qm ql mays (upto w.toNat) N :=
   ⟨by rw [jA pl, jA px]; exact hp, hN, k1 qm _ hm (ne_of hm hp (by intro z; cases z)), rm, j7, rl, pl.symm, kp.trans k1⟩
 generalize upd (upd H5 x (.rng 0 w)) ql (.lst ((upto w.toNat).map V.int)) = H6 at S ⊢
 clear k1 hql hx hp hm kp
 refine ⟨_, rfl, p, N, 3, rfl, S.hp, S.hN, by decide, by decide, fun N1 r a1 a2 a3 => ⟨rfl, _, rfl, ?_⟩⟩
 have S1 := S.step ((Keep.refl _ _).upd (.lst [.int N1])) j7 a1
 generalize upd H6 p (.lst [.int N1]) = H7 at S1 ⊢
 clear S
 refine ite2 (fun hy => ?_) (fun hy => ?_)
 · refine ⟨(by show 0 ≤ sizeLine; exact Nat.zero_le _), fun l hl => ?_⟩
   have pl2 : p ≠ l := jB S1.hp hl
   have S2 := S1.step ((Keep.refl _ _).new hl (.lst [])) (by rw [jA pl2]; exact S1.hp) S1.hN
   have S3 : St0 H (upd H7 l (.lst [])) p w qm l mays [] N1 := ⟨S2.hp, S2.hN, S2.hm, S2.rm, j7, Ris.nil w, pl2.symm, S2.kp⟩
   exact boxC_read T CT CL hr S3 hpH w0 w1 w2 n0 n1 q
 · exact boxC_read T CT CL hr S1 hpH w0 w1 w2 n0 n1 q
theorem boxA_read (T : Txt mg) (CT : Can P w K mg base "_law_take" 1 fT fdT ["pot", "wide"] jW) (CL : Can P w K mg base "_law_lot" 2 fL fdL ["pot", "wide"] yP) (hr : Room 2 (XBox P w K mg base f cdv A outer s H0 E).A)
   {D : Ends} {H : Hp} {p : Addr} {mt mp N : Int}
   (hp : H p = some (.lst [.int N])) (hN : 0 ≤ N) (w0 : 0 ≤ mt) (w2 : mt ≤ 16) (n0 : 0 ≤ mp) (n1 : mp ≤ 32) (q : Told H p mt mp D.rt) :
   (boxA T CT CL hr).1 D [some (.ref p), some (.int mt), some (.int mp), none, none, none, none, none, none, none, none] H := by
 refine ⟨_, rfl, _, rfl, _, _, rfl, rfl, p, N, _, rfl, hp, hN, by lia, by lia, fun N1 w a1 a2 a3 => ?_⟩
 refine ⟨(by show 0 ≤ sizeLine; exact Nat.zero_le _), fun t ht => ?_⟩
 have pt : p ≠ t := (kT ht).1.symm
 refine ⟨_, rfl, p, N1, 3, rfl, by rw [jA pt]; exact j7, a1, by decide, by decide, fun N2 r b1 b2 b3 => ⟨rfl, _, rfl, ?_⟩⟩
 have k1 : Keep H (upd (upd (upd H p (.lst [.int N1])) t (.tup [])) p (.lst [.int N2])) p := (((Keep.refl _ _).upd _).new ht _).upd _
 have hp1 : (upd (upd (upd H p (.lst [.int N1])) t (.tup [])) p (.lst [.int N2])) p = some (.lst [.int N2]) := j7
 have ht1 : (upd (upd (upd H p (.lst [.int N1])) t (.tup [])) p (.lst [.int N2])) t = some (.tup []) := by rw [jA pt.symm]; exact j7
 generalize upd (upd (upd H p (.lst [.int N1])) t (.tup [])) p (.lst [.int N2]) = H1 at k1 hp1 ht1 ⊢
 clear ht
 refine ite2 (fun hy => ?_) (fun hy => ?_)
 · refine ⟨_, rfl, w, rfl, by lia, by lia, comp_rng (n := w.toNat) (by rw [PySem.sizeLine_eq]; lia) (fun D i σ' H' ys => (∃ v, σ' = [v, some (.ref p)]) ∧ (∃ (ms : List Int) (N' : Int), ys = ms.map V.int ∧ ms.length ≤ i ∧ Ris i ms ∧ 0 ≤ N' ∧ H' p = some (.lst [.int N'])) ∧ Keep H1 H' p ∧ H' D = some (.lst ys) ∧ D ≠ p ∧ H1 D = none) ?_ ?_ ?_ ?_⟩
   · intro D hD
     have : p ≠ D := jB hp1 hD
     exact ⟨⟨_, rfl⟩, ⟨[], N2, rfl, Nat.le_refl _, Ris.nil _, b1, by rw [jA this]; exact hp1⟩, (Keep.refl _ _).new hD _, j7, this.symm, hD⟩
   · rintro D i σ' H' ys hD hi ⟨_, ⟨ms, N', rfl, e, _⟩, _, e2, _⟩
     exact ⟨e2, by rw [List.length_map]; exact e⟩
   · rintro D i σ' H' ys hD hi ⟨⟨v, rfl⟩, ⟨ms, N', rfl, e, rs, n', hp'⟩, kk, e2, dp, hn⟩
     refine ⟨_, rfl, p, N', 3, rfl, hp', n', by decide, by decide, fun N3 r3 c1 c2 c3 => ⟨rfl, _, rfl, ?_⟩⟩
     have k2 : Keep H1 (upd H' p (.lst [.int N3])) p := kk.upd _
     have e3 : (upd H' p (.lst [.int N3])) D = some (.lst (ms.map V.int)) := by rw [jA dp]; exact e2
     have hp3 : (upd H' p (.lst [.int N3])) p = some (.lst [.int N3]) := j7
     generalize upd H' p (.lst [.int N3]) = H'' at k2 e3 hp3 ⊢
     refine ite2 (fun hz => ?_) (fun hz => ?_)
     · refine ⟨_, rfl, e3, ⟨_, rfl⟩, ⟨ms ++ [(i : Int)], N3, ?_, ?_, rs.snoc, c1, by rw [jA dp.symm]; exact hp3⟩, k2.updNew hn _, j7, dp, hn⟩
       · rw [List.map_append]
         show _ ++ [V.int (0 + (i : Int))] = _ ++ [V.int (i : Int)]
         rw [Int.zero_add]
       · rw [List.length_append]
         show ms.length + 1 ≤ i + 1
         lia
     · exact ⟨⟨_, rfl⟩, ⟨ms, N3, rfl, by lia, rs.step, c1, hp3⟩, k2, e3, dp, hn⟩
   · rintro D σ' H' ys hD ⟨_, ⟨ms, N', rfl, e, rs, n', hp'⟩, kk, e2, dp, hn⟩
     refine ⟨D, _, rfl, .inl ⟨SqL.of e2, fun qm hqm => ?_⟩⟩
     have pm : p ≠ qm := jB hp' hqm
     have e' : ((w.toNat : Nat) : Int) = w := by lia
     rw [e'] at rs
     exact boxB_read T CT CL hr (by rw [jA pm]; exact hp') n' j7 rs ((k1.trans kk).new hqm _) ⟨_, hp⟩ a2 (by lia) w2 n0 n1 q
 · exact boxB_read T CT CL hr hp1 b1 (mays := []) ht1 (Ris.nil w) k1 ⟨_, hp⟩ a2 (by lia) w2 n0 n1 q
end
theorem ok_box {f fT fL : Addr} {fd fdT fdL : FuncData} (F : Fun K "_law_box" "_law_box" sBox f fd) (T : Txt mg) (CT : Can P w K mg base "_law_take" 1 fT fdT ["pot", "wide"] jW) (CL : Can P w K mg base "_law_lot" 2 fL fdL ["pot", "wide"] yP) :
   FnOk P w K mg base CX0 3 f fd ["pot", "most_things", "most_pieces"] spBox := by
 refine F.ok scBox (fun vs H Q E h => ?_) (fun cdv A outer s H vs Q E hr h => ?_)
 · obtain ⟨_, _, _, _, rfl, _⟩ := h
   rfl
 · obtain ⟨p, N, mt, mp, rfl, hp, hN, m0, m1, n0, n1, q⟩ := h
   exact ⟨_, (boxA T CT CL hr).2.h, boxA_read T CT CL hr hp hN m0 m1 n0 n1 q⟩
end
end Eo
end
section
namespace Eo
open PySem L2
inductive Ob where
 | int (i : Int)
 | oth
 | tup (os : List Ob)
noncomputable def OthAt (H : Hp) (v : V) : Prop := v = .non ∨ (∃ b, v = .bl b) ∨ (∃ x, v = .str x) ∨ ∃ a, v = .ref a ∧ ((∃ xs, H a = some (.lst xs)) ∨ ∃ kvs, H a = some (.dK kvs))
mutual
noncomputable def At (H : Hp) : Ob → V → Prop
 | .int i, v => v = .int i
 | .oth, v => OthAt H v
 | .tup os, v => ∃ a vs, v = .ref a ∧ H a = some (.tup vs) ∧ vs.length ≤ 100 ∧ Ats H os vs
noncomputable def Ats (H : Hp) : List Ob → List V → Prop
 | [], vs => vs = []
 | o :: os, vs => ∃ v r, vs = v :: r ∧ At H o v ∧ Ats H os r
end
structure Kp (H H' : Hp) : Prop where
 t : Tups H H'
 l : ∀ a xs, H a = some (.lst xs) → ∃ ys, H' a = some (.lst ys)
 d : ∀ a xs, H a = some (.dK xs) → ∃ ys, H' a = some (.dK ys)
theorem Kp.of {H H' : Hp} (e : Ext H H') : Kp H H' := ⟨fun b xs h => e b _ h, fun a xs h => ⟨xs, e a _ h⟩, fun a xs h => ⟨xs, e a _ h⟩⟩
theorem OthAt.mono {H H' : Hp} (k : Kp H H') {v : V} (h : OthAt H v) : OthAt H' v := by
 rcases h with h | h | h | ⟨a, rfl, ⟨xs, h⟩ | ⟨xs, h⟩⟩
 · exact .inl h
 · exact .inr (.inl h)
 · exact .inr (.inr (.inl h))
 · exact .inr (.inr (.inr ⟨a, rfl, .inl (k.l _ _ h)⟩))
 · exact .inr (.inr (.inr ⟨a, rfl, .inr (k.d _ _ h)⟩))
mutual
theorem At.mono {H H' : Hp} (k : Kp H H') : ∀ (o : Ob) (v : V), At H o v → At H' o v
 | .int _, _, h => h
 | .oth, _, h => OthAt.mono k h
 | .tup os, _, ⟨a, vs, e, h, n, r⟩ => ⟨a, vs, e, k.t _ _ h, n, Ats.mono k os vs r⟩
theorem Ats.mono {H H' : Hp} (k : Kp H H') : ∀ (os : List Ob) (vs : List V), Ats H os vs → Ats H' os vs
 | [], _, h => h
 | o :: os, _, ⟨v, r, e, h, t⟩ => ⟨v, r, e, At.mono k o v h, Ats.mono k os r t⟩
end
theorem At.ext {H H' : Hp} (e : Ext H H') {o : Ob} {v : V} (h : At H o v) : At H' o v := At.mono (.of e) o v h
theorem Ats.len {H : Hp} : ∀ {os : List Ob} {vs : List V}, Ats H os vs → vs.length = os.length
 | [], _, h => by cases (show _ = [] from h); rfl
 | o :: os, _, ⟨v, r, e, h, t⟩ => by rw [e, List.length_cons, List.length_cons, Ats.len t]
theorem Ats.get {H : Hp} : ∀ {os : List Ob} {vs : List V}, Ats H os vs → ∀ {i : Nat} {v : V}, vs[i]? = some v → ∃ o, os[i]? = some o ∧ At H o v
 | [], _, h, i, v, e => by cases (show _ = [] from h); cases e
 | o :: os, _, ⟨v, r, e, h, t⟩, 0, v', e' => by subst e; cases e'; exact ⟨o, rfl, h⟩
 | o :: os, _, ⟨v, r, e, h, t⟩, i + 1, v', e' => by subst e; exact Ats.get t (i := i) e'
theorem Ats.ints {H : Hp} : ∀ (l : List Int), Ats H (l.map Ob.int) (l.map V.int)
 | [] => rfl
 | i :: r => ⟨.int i, _, rfl, rfl, Ats.ints r⟩
noncomputable def isInt : Ob → Bool
 | .int _ => true
 | _ => false
noncomputable def isTup : Ob → Bool
 | .tup _ => true
 | _ => false
noncomputable def upB (lo hi : Int) : Ob → Bool
 | .int i => decide (lo ≤ i) && decide (i ≤ hi)
 | _ => false
noncomputable def val : Ob → Int
 | .int i => i
 | _ => 0
noncomputable def adj (is : List Int) : List Bool := (List.range (is.length - 1)).map fun k => decide (is.getD k 0 < is.getD (k + 1) 0)
noncomputable def risB : Ob → Bool
 | .tup os => os.all isInt && (adj (os.map val)).all id
 | _ => false
noncomputable def lotB (w : Int) : Ob → Bool
 | .tup os => os.all (upB 0 (w - 1)) && (adj (os.map val)).all id
 | _ => false
noncomputable def lotB' (w : Int) (o : Ob) : Bool := risB o && match o with
 | .tup os => decide (os = []) || (decide (0 ≤ (os.map val).getD 0 0) && decide ((os.map val).getLastD 0 < w))
 | _ => false
theorem adj_get {is : List Int} (h : (adj is).all id = true) {k : Nat} (hk : k + 1 < is.length) : is.getD k 0 < is.getD (k + 1) 0 := by
 rw [List.all_eq_true] at h
 exact of_decide_eq_true (h _ (List.mem_map.mpr ⟨k, List.mem_range.mpr (by lia), rfl⟩))
theorem adj_le {is : List Int} (h : (adj is).all id = true) : ∀ (j k : Nat), j ≤ k → k < is.length → is.getD j 0 ≤ is.getD k 0
 | j, 0, h1, _ => by
   have : j = 0 := by lia
   subst this
   exact Int.le_refl _
 | j, k + 1, h1, h2 => by
   rcases Nat.lt_or_ge k j with q | q
   · have : j = k + 1 := by lia
     subst this
     exact Int.le_refl _
   · have a := adj_le h j k q (by lia)
     have b := adj_get h h2
     lia
theorem lot_eq (w : Int) (o : Ob) : lotB' w o = lotB w o := by
 cases o with
 | int i => rfl
 | oth => rfl
 | tup os =>
   rw [Bool.eq_iff_iff]
   unfold lotB' risB lotB
   simp only [Bool.and_eq_true, Bool.or_eq_true, decide_eq_true_eq]
   constructor
   · rintro ⟨⟨a, b⟩, c⟩
     refine ⟨?_, b⟩
     rw [List.all_eq_true] at a ⊢
     intro x hx
     obtain ⟨j, hj, rfl⟩ := List.getElem_of_mem hx
     have hi := a _ hx
     have e : os ≠ [] := fun e => by subst e; cases hx
     obtain ⟨c1, c2⟩ := c.resolve_left e
     have hl : (os.map val).length = os.length := List.length_map _
     have g : (os.map val).getD j 0 = val os[j] := by
       rw [List.getD_eq_getElem?_getD, List.getElem?_map]
       simp [hj]
     have l1 := adj_le b 0 j (by lia) (by lia)
     have l2 := adj_le b j (os.length - 1) (by lia) (by lia)
     have l3 : (os.map val).getLastD 0 = (os.map val).getD (os.length - 1) 0 := by
       rw [List.getLastD_eq_getLast?, List.getLast?_eq_getElem?, List.getD_eq_getElem?_getD, hl]
     rw [g] at l1 l2
     rw [l3] at c2
     cases e2 : os[j] with
     | int i =>
       rw [e2] at l1 l2
       simp only [val] at l1 l2
       simp only [upB, Bool.and_eq_true, decide_eq_true_eq]
       lia
     | oth => rw [e2] at hi; cases hi
     | tup r => rw [e2] at hi; cases hi
   · rintro ⟨a, b⟩
     rw [List.all_eq_true] at a
     refine ⟨⟨?_, b⟩, ?_⟩
     · rw [List.all_eq_true]
       intro x hx
       have := a x hx
       cases x with
       | int i => rfl
       | oth => cases this
       | tup r => cases this
     · by_cases e : os = []
       · exact .inl e
       · refine .inr ?_
         have key : ∀ j, j < os.length → 0 ≤ (os.map val).getD j 0 ∧ (os.map val).getD j 0 < w := fun j hj => by
           have g : (os.map val).getD j 0 = val os[j] := by
             rw [List.getD_eq_getElem?_getD, List.getElem?_map]
             simp [hj]
           have := a os[j] (List.getElem_mem hj)
           rw [g]
           cases e2 : os[j] with
           | int i =>
             rw [e2] at this
             simp only [upB, Bool.and_eq_true, decide_eq_true_eq] at this
             simp only [val]
             lia
           | oth => rw [e2] at this; cases this
           | tup r => rw [e2] at this; cases this
         have hpos : 0 < os.length := by
           cases os with
           | nil => exact absurd rfl e
           | cons _ _ => simp
         have l3 : (os.map val).getLastD 0 = (os.map val).getD (os.length - 1) 0 := by
           rw [List.getLastD_eq_getLast?, List.getLast?_eq_getElem?, List.getD_eq_getElem?_getD, List.length_map]
         rw [l3]
         exact ⟨(key 0 hpos).1, (key (os.length - 1) (by lia)).2⟩
theorem Ats.allInt {H : Hp} : ∀ {os : List Ob} {vs : List V}, Ats H os vs → os.all isInt = true → vs = (os.map val).map V.int
 | [], _, h, _ => by cases (show _ = [] from h); rfl
 | o :: os, _, ⟨v, r, e, h, t⟩, ha => by
   rw [List.all_cons, Bool.and_eq_true] at ha
   subst e
   rw [List.map_cons, List.map_cons, ← Ats.allInt t ha.2]
   cases o with
   | int i => cases (show v = .int i from h); rfl
   | oth => cases ha.1
   | tup _ => cases ha.1
theorem all_bl (l : List Ob) (F : Ob → Bool) : (l.map F).all id = l.all F := by
 rw [List.all_map]
 rfl
theorem adj_len (is : List Int) : (adj is).length = is.length - 1 := by
 unfold adj
 rw [List.length_map, List.length_range]
theorem adj_at {is : List Int} {k : Nat} (h : k < is.length - 1) : (adj is)[k]? = some (decide (is.getD k 0 < is.getD (k + 1) 0)) := by
 unfold adj
 rw [List.getElem?_map, List.getElem?_range h]
 rfl
theorem adj_take {is : List Int} {k : Nat} (h : k < is.length - 1) : (adj is).take (k + 1) = (adj is).take k ++ [decide (is.getD k 0 < is.getD (k + 1) 0)] := by
 rw [List.take_add_one, adj_at h]
 rfl
theorem getI {is : List Int} {k : Nat} (h : k < is.length) : (is.map V.int)[k]? = some (.int (is.getD k 0)) := by
 rw [List.getElem?_map, List.getD_eq_getElem?_getD]
 simp [h]
end Eo
end
section
namespace Eo
open PySem L2
theorem At.ty (K : W.Frag) {H : Hp} {o : Ob} {v : V} (h : At H o v) : ∃ t, TyOf K H v t ∧ PySem.W.kitOne K t (.type "tuple") = some (isTup o) ∧ ∃ b1 b2, PySem.W.kitOne K t (.type "int") = some b1 ∧ PySem.W.kitOne K t (.type "bool") = some b2 ∧ (b1 && !b2) = isInt o := by
 cases o with
 | int i =>
   cases (show v = .int i from h)
   exact ⟨_, .int i, rfl, true, false, rfl, rfl, rfl⟩
 | oth =>
   rcases (show OthAt H v from h) with rfl | ⟨b, rfl⟩ | ⟨x, rfl⟩ | ⟨a, rfl, ⟨xs, e⟩ | ⟨xs, e⟩⟩
   · exact ⟨_, .non, rfl, false, false, rfl, rfl, rfl⟩
   · exact ⟨_, .bl b, rfl, true, true, rfl, rfl, rfl⟩
   · exact ⟨_, .str x, rfl, false, false, rfl, rfl, rfl⟩
   · exact ⟨_, .lst e, rfl, false, false, rfl, rfl, rfl⟩
   · exact ⟨_, .dK e, rfl, false, false, rfl, rfl, rfl⟩
 | tup os =>
   obtain ⟨a, vs, rfl, e, _⟩ := h
   exact ⟨_, .tup e, rfl, false, false, rfl, rfl, rfl⟩
theorem At.tupOf {H : Hp} {o : Ob} {v : V} (h : At H o v) (t : isTup o = true) : ∃ os a vs, o = .tup os ∧ v = .ref a ∧ H a = some (.tup vs) ∧ vs.length ≤ 100 ∧ Ats H os vs := by
 cases o with
 | int i => cases t
 | oth => cases t
 | tup os =>
   obtain ⟨a, vs, e1, e2, e4, e3⟩ := h
   exact ⟨os, a, vs, rfl, e1, e2, e4, e3⟩
theorem comp_tupB {K : W.Frag} {m : List (Option Nat)} {g : TG} {tt : TT} {te : TE} {σ : St} {H1 : Hp} {Q : VK} {a : Addr} {xs : List V} {os : List Ob} {F : Ob → Bool} (ha : H1 a = some (.tup xs)) (hx : Ats H1 os xs) (hn : xs.length < sizeLine) (σP : St → Prop) (h0 : σP (blkσ m σ))
   (step : ∀ (σ' : St) (H' : Hp) (v : V) (o : Ob) (R : St → V → Hp → Prop) (S : St → Hp → Prop), σP σ' → Ext H1 H' → At H' o v → (∀ σ2 H'', σP σ2 → Ext H' H'' → R σ2 (.bl (F o)) H'') → g v σ' H' fun σ2 H2 => tt σ2 H2 fun b H3 => if b = true then te σ2 H3 (R σ2) else S σ2 H3)
   (hd : ∀ D H', Ext H1 H' → H' D = some (.lst ((os.map F).map V.bl)) → Q (.ref D) H') : yW m g tt te σ Q (Itt K a) H1 := by
 have hl := hx.len
 refine comp_tup (xs := xs) hn (fun D i σ' H' zs => σP σ' ∧ Ext H1 H' ∧ H' D = some (.lst zs) ∧ H1 D = none ∧ zs = ((os.take i).map F).map V.bl) ?_ ?_ ?_ ?_
 · intro D hD
   exact ⟨h0, (Ext.refl _).new hD _, j7, hD, rfl⟩
 · rintro D i σ' H' zs hD ⟨_, e, h2, _, rfl⟩
   refine ⟨e _ _ ha, h2, ?_⟩
   rw [List.length_map, List.length_map, List.length_take]
   lia
 · rintro D i σ' H' zs x hD hi ⟨p, e, h2, hn, rfl⟩
   obtain ⟨o, ho, hAt⟩ := hx.get hi
   refine step σ' H' x o _ _ p e (hAt.ext e) fun σ2 H'' p2 e2 => ⟨e2 _ _ h2, p2, (e.trans e2).updNew hn _, j7, hn, ?_⟩
   have : os.take (i + 1) = os.take i ++ [o] := by
     rw [List.take_add_one, ho]
     rfl
   rw [this, List.map_append, List.map_append]
   rfl
 · rintro D σ' H' zs hD ⟨_, e, h2, _, rfl⟩
   rw [hl, List.take_length] at h2
   exact hd D H' e h2
section
variable {P : Program} {w : World} {K : W.Frag} {mg : Str → Option Value} {base : Heap}
noncomputable abbrev XOf (N : List Str) (q : Str) (st : Stmt) (P : Program) (w : World) (K : W.Frag) (mg : Str → Option Value) (base : Heap) (f : Addr) (cdv : Value) (A : Around) (outer : List Env) (s : Shared) (H : Hp) (E : XK) : Cx := (cxOf CX0 P w K mg base N q (j8 st) f cdv A outer s H E).nox
variable {f fW fR : Addr} {fdW fdR : FuncData} {cdv : Value} {A : Around} {outer : List Env} {s : Shared} {H0 : Hp} {E : XK}
noncomputable abbrev nWhole0 : List Str := ["thing"]
theorem scWhole0 : FnScope nWhole0 ["thing"] (j8 sWhole0) := ⟨rfl, rfl, rfl, by decide +kernel, rfl, by decide +kernel, by decide +kernel⟩
noncomputable def spWh : Sp := fun vs H Q _ => ∃ v o, vs = [v] ∧ At H o v ∧ Q (.bl (isInt o)) H
noncomputable def whole0A (T : Txt mg) : { t : TS // JSs (XOf nWhole0 "is_whole" sWhole0 P w K mg base f cdv A outer s H0 E) (jC sWhole0) t } :=
 have nd := scWhole0.nd
 ⟨_, (jJ (kI ((je_and (jI call_isinst gD T.isinstance (by decide +kernel) (j4 (jv 0 rfl vL) (j4 (je_bltn (v := .ty "int") gD T.int (by decide +kernel) rfl) j9 j6) j6) j6) (je_one (je_not (jI call_isinst gD T.isinstance (by decide +kernel) (j4 (jv 0 rfl vL) (j4 (je_bltn (v := .ty "bool") gD T.bool (by decide +kernel) rfl) j9 j6) j6) j6)))))))⟩
theorem ok_whole0 {fd : FuncData} (F : Fun K "is_whole" "is_whole" sWhole0 f fd) (T : Txt mg) : FnOk P w K mg base CX0 1 f fd ["thing"] spWh := by
 refine F.ok scWhole0 (fun vs H Q E h => ?_) (fun cdv A outer s H vs Q E hr h => ?_)
 · obtain ⟨_, _, rfl, _⟩ := h
   rfl
 · obtain ⟨v, o, rfl, hA, q⟩ := h
   obtain ⟨t, ty, _, b1, b2, k1, k2, e⟩ := hA.ty K
   refine ⟨_, (whole0A T).2.h, ?_⟩
   refine ⟨_, rfl, _, _, _, b1, rfl, ty, k1, b1, rfl, ?_⟩
   rw [← e] at q
   cases b1 with
   | true => exact iteT ⟨_, rfl, _, _, _, b2, rfl, ty, k2, b2, rfl, q⟩
   | false => exact iteF q
noncomputable abbrev nRising : List Str := ["thing"]
theorem scRising : FnScope nRising ["thing"] (j8 y4) := ⟨rfl, rfl, rfl, by decide +kernel, rfl, by decide +kernel, by decide +kernel⟩
noncomputable def spB (F : Ob → Bool) : Sp := fun vs H Q _ => ∃ v o, vs = [v] ∧ At H o v ∧ ∀ H', Ext H H' → Q (.bl (F o)) H'
noncomputable def risingA (T : Txt mg) (CW : Can P w K mg base "is_whole" 1 fW fdW ["thing"] spWh) (hr : Room 1 (XOf nRising "is_rising" y4 P w K mg base f cdv A outer s H0 E).A) : { t : TS // JSs (XOf nRising "is_rising" y4 P w K mg base f cdv A outer s H0 E) (jC y4) t } :=
 have nd := scRising.nd
 ⟨_, (jE (yT (jt_not (jt_val (jI call_isinst gD T.isinstance (by decide +kernel) (j4 (jv 0 rfl vC) (j4 (je_bltn (v := .ty "tuple") gD T.tuple (by decide +kernel) rfl) j9 j6) j6) j6) tv_call)) (jJ (kI (yV))) y8)
     (jE (yT (jt_not (jt_val (jI (call_allL rfl) gD T.all (by decide +kernel) (j4 (y9 (m := [none]) (Nc := ["number"]) rfl (ji_tup (jv 0 rfl vC)) rfl (by decide +kernel) (by decide +kernel) (jY (psc := j8 y4) (by decide +kernel)) (jS (N := nRising) rfl rfl (by decide +kernel)) (fun cl C fp s H => kL (i := 0) (show (["number"] : List Str).Nodup by decide +kernel) rfl (yQ (by decide +kernel))) (fun cl C fp s H => jts_nil) (fun cl C fp s H => (CW.je hr (gl_b (by decide +kernel)) (j4 (jv 0 rfl (kD (by decide +kernel))) j9 j6) j6)) fo_name) j9 jP) jP) tv_call)) (jJ (kI (yV))) y8)
     (jJ (kI (jI (call_allL rfl) gD T.all (by decide +kernel) (j4 (y9 (m := [none, some 0]) (Nc := ["k", "thing"]) rfl (ji_range2 gD T.range (j4 (jD) (j4 (jI call_len_seq gD T.len (by decide +kernel) (j4 (jv 0 rfl vC) j9 j6) j6) j9 jG) jF) jF jG) rfl (by decide +kernel) (by decide +kernel) (jY (psc := j8 y4) (by decide +kernel)) (jS (N := nRising) rfl rfl (by decide +kernel)) (fun cl C fp s H => kL (i := 0) (show (["k", "thing"] : List Str).Nodup by decide +kernel) rfl (yQ (by decide +kernel))) (fun cl C fp s H => jts_nil) (fun cl C fp s H => (je_cmpR op_lt (kX ix_tup_b (jv 1 rfl (y0 (by decide +kernel))) (kY op_sub (jv 0 rfl (kD (by decide +kernel))) (jD)) px_bin) (kX ix_tup_b (jv 1 rfl (y0 (by decide +kernel))) (jv 0 rfl (kD (by decide +kernel))) px_name) (kO _))) fo_call) j9 jP) jP)))))⟩
theorem ok_rising {fd : FuncData} (F : Fun K "is_rising" "is_rising" y4 f fd) (T : Txt mg) (CW : Can P w K mg base "is_whole" 1 fW fdW ["thing"] spWh) : FnOk P w K mg base CX0 2 f fd ["thing"] (spB risB) := by
 refine F.ok scRising (fun vs H Q E h => ?_) (fun cdv A outer s H vs Q E hr h => ?_)
 · obtain ⟨_, _, rfl, _⟩ := h
   rfl
 · obtain ⟨v, o, rfl, hA, q⟩ := h
   obtain ⟨t, ty, kt, _⟩ := hA.ty K
   refine ⟨_, (risingA T CW hr).2.h, ?_⟩
   refine ⟨_, rfl, _, _, _, _, rfl, ty, kt, _, rfl, ?_⟩
   cases ht : isTup o with
   | false =>
     refine iteT ?_
     have : risB o = false := by cases o <;> first | rfl | cases ht
     rw [← this]
     exact q H (Ext.refl H)
   | true =>
     refine iteF ?_
     obtain ⟨os, a, vs, rfl, rfl, ha, h100, hx⟩ := hA.tupOf ht
     have hl := hx.len
     have hn : vs.length < sizeLine := by rw [PySem.sizeLine_eq]; lia
     · refine ⟨_, rfl, a, rfl, ⟨_, SqT.of ha⟩, comp_tupB (F := isInt) ha hx hn (fun σ' => ∃ v, σ' = [v]) ⟨_, rfl⟩ ?_ ?_⟩
       · rintro σ' H' v o R S ⟨u, rfl⟩ e hA k
         dsimp only [kZ, yR]
         rw [if_pos rfl]
         exact ⟨_, rfl, v, o, rfl, hA, k _ H' ⟨_, rfl⟩ (Ext.refl _)⟩
       · intro D H1 e1 hD
         refine ⟨D, _, rfl, SqL.of hD, _, rfl, ?_⟩
         rw [all_bl]
         cases hi : os.all isInt with
         | false =>
           refine iteT ?_
           have : risB (.tup os) = false := by
             show (os.all isInt && _) = false
             rw [hi]
             rfl
           rw [← this]
           exact q H1 e1
         | true =>
           refine iteF ?_
           have hv := hx.allInt hi
           have hN : (os.map val).length = os.length := List.length_map _
           refine ⟨_, rfl, a, _, rfl, .inr (SqT.of (e1 _ _ ha)), 1, _, rfl, ⟨by decide, by decide, by lia, by rw [PySem.sizeLine_eq] at hn; lia⟩, comp_rng (n := ((vs.length : Int) - 1).toNat) (by lia) (fun D i σ' H' zs => (∃ v, σ' = [v, some (.ref a)]) ∧ zs = ((adj (os.map val)).take i).map V.bl ∧ H' = upd H1 D (.lst zs)) ?_ ?_ ?_ ?_⟩
           · intro D hD
             exact ⟨⟨_, rfl⟩, rfl, rfl⟩
           · rintro D i σ' H' zs hD hi2 ⟨_, rfl, rfl⟩
             refine ⟨j7, ?_⟩
             rw [List.length_map, List.length_take]
             lia
           · rintro D i σ' H' zs hD hi2 ⟨⟨v, rfl⟩, rfl, rfl⟩
             have hi3 : i < (os.map val).length - 1 := by lia
             have ha' : (upd H1 D (.lst (((adj (os.map val)).take i).map V.bl))) a = some (.tup ((os.map val).map V.int)) := by
               rw [jA (jB (e1 _ _ ha) hD), e1 _ _ ha, hv]
             dsimp only [kZ, yR]
             rw [if_pos rfl]
             have e0 : (1 + (i : Int)) - 1 = (i : Int) := by lia
             have e2 : (1 + (i : Int)) = ((i + 1 : Nat) : Int) := by lia
             refine ⟨_, rfl, _, rfl, _, _, rfl, rfl, a, _, _, _, rfl, rfl, SqT.of ha', by rw [e0]; exact atI_nat (getI (by lia)), _, rfl, _, rfl, a, _, _, _, rfl, rfl, SqT.of ha', by rw [e2]; exact atI_nat (getI (by lia)), _, _, rfl, rfl, j7, ⟨_, rfl⟩, ?_, upd_upd⟩
             rw [adj_take hi3, List.map_append]
             rfl
           · rintro D2 σ' H' zs hD2 ⟨_, rfl, rfl⟩
             have hlen : ((vs.length : Int) - 1).toNat = (adj (os.map val)).length := by rw [adj_len]; lia
             rw [hlen, List.take_length]
             refine ⟨D2, _, rfl, SqL.of j7, ?_⟩
             have : (adj (os.map val)).all id = risB (.tup os) := by
               show _ = (os.all isInt && (adj (os.map val)).all id)
               rw [hi, Bool.true_and]
             rw [this]
             exact q _ (e1.new hD2 _)
end
end Eo
end
section
namespace L2
open PySem
theorem px_un {op : UnaryOp} {a : Expr} {pos : Pos} : PlainIx (.UnaryOp op a pos) := fun _ _ => rfl
theorem atI_end {α : Type} {xs : List α} {v : α} (h : xs[xs.length - 1]? = some v) : atI xs (-1) = some v := by
 have hj : xs.length - 1 < xs.length := (List.getElem?_eq_some_iff.mp h).1
 have e : ixN xs.length (-1) = some (xs.length - 1) := by
   unfold ixN
   rw [if_neg (by lia), if_pos (by lia)]
   congr 1
   lia
 unfold atI
 rw [e]
 exact h
theorem qb {Q : VK} {H : Hp} {a b : Bool} (q : Q (.bl a) H) (e : a = b) : Q (.bl b) H := e ▸ q
end L2
namespace Eo
open PySem L2
section
variable {P : Program} {w : World} {K : W.Frag} {mg : Str → Option Value} {base : Heap}
variable {f fW fR fL fG fI fPs : Addr} {fdW fdR fdL fdG fdI fdPs : FuncData} {cdv : Value} {A : Around} {outer : List Env} {s : Shared} {H0 : Hp} {E : XK}
noncomputable abbrev nIsLot : List Str := ["thing", "many"]
theorem scIsLot : FnScope nIsLot ["thing", "many"] (j8 sIsLot) := ⟨rfl, rfl, rfl, by decide +kernel, rfl, by decide +kernel, by decide +kernel⟩
noncomputable def spB2 (F : Int → Ob → Bool) : Sp := fun vs H Q _ => ∃ v o w, vs = [v, .int w] ∧ At H o v ∧ ∀ H', Ext H H' → Q (.bl (F w o)) H'
noncomputable def isLotA (T : Txt mg) (CR : Can P w K mg base "is_rising" 2 fR fdR ["thing"] (spB risB)) (hr : Room 2 (XOf nIsLot "is_lot" sIsLot P w K mg base f cdv A outer s H0 E).A) : { t : TS // JSs (XOf nIsLot "is_lot" sIsLot P w K mg base f cdv A outer s H0 E) (jC sIsLot) t } :=
 have nd := scIsLot.nd
 ⟨_, (jE (yT (jt_not (jt_val (CR.je hr gD (j4 (jv 0 rfl vL) j9 j6) j6) tv_call)) (jJ (kI (yV))) y8)
     (jJ (kI ((je_or (je_cmpR op_eq (jI call_len_seq gD T.len (by decide +kernel) (j4 (jv 0 rfl vL) j9 j6) j6) (jD) (kO _)) (je_one ((je_and (je_cmpR op_ge (kX yB (jv 0 rfl vL) (jD) jT) (jD) (kO _)) (je_one (je_cmpR op_lt (kX yB (jv 0 rfl vL) (je_un un_neg (jD)) px_un) (jv 1 rfl vL) (kO _)))))))))))⟩
theorem ok_isLot {fd : FuncData} (F : Fun K "is_lot" "is_lot" sIsLot f fd) (T : Txt mg) (CR : Can P w K mg base "is_rising" 2 fR fdR ["thing"] (spB risB)) : FnOk P w K mg base CX0 3 f fd ["thing", "many"] (spB2 lotB) := by
 refine F.ok scIsLot (fun vs H Q E h => ?_) (fun cdv A outer s H vs Q E hr h => ?_)
 · obtain ⟨_, _, _, rfl, _⟩ := h
   rfl
 · obtain ⟨v, o, w, rfl, hA, q⟩ := h
   refine ⟨_, (isLotA T CR hr).2.h, ?_⟩
   refine ⟨_, rfl, v, o, rfl, hA, fun H1 e1 => ⟨_, rfl, ?_⟩⟩
   have eq := lot_eq w o
   cases hR : risB o with
   | false =>
     refine iteT (qb (q H1 e1) ?_)
     rw [← eq]
     unfold lotB'
     rw [hR]
     rfl
   | true =>
     refine iteF ?_
     have ht : isTup o = true := by cases o <;> first | rfl | cases hR
     obtain ⟨os, a, vs, rfl, rfl, ha, h100, hx⟩ := hA.tupOf ht
     have hl := hx.len
     have hi : os.all isInt = true := by
       have : (os.all isInt && (adj (os.map val)).all id) = true := hR
       rw [Bool.and_eq_true] at this
       exact this.1
     have hv := hx.allInt hi
     have ha1 := e1 _ _ ha
     refine ⟨_, rfl, a, _, rfl, .inr (SqT.of ha1), rfl, _, rfl, ite2 (fun hy => ?_) (fun hy => ?_)⟩
     · have h0 := V.int.inj (of_decide_eq_true hy)
       have e0 : os = [] := List.length_eq_zero_iff.mp (by lia)
       refine qb (q H1 e1) ?_
       rw [← eq]
       unfold lotB'
       rw [hR]
       simp [e0]
     · have h0 : 0 < vs.length := Nat.pos_of_ne_zero fun h => hy (decide_eq_true (by rw [h]; rfl))
       have hml : (os.map val).length = vs.length := by rw [List.length_map, hl]
       refine ⟨_, rfl, a, _, 0, .int ((os.map val).getD 0 0), rfl, rfl, SqT.of ha1, ?_, _, _, rfl, rfl, _, rfl, ite2 (fun hz => ?_) (fun hz => ?_)⟩
       · rw [hv]
         exact atI_nat (j := 0) (getI (by lia))
       · refine ⟨_, rfl, _, rfl, a, _, _, .int ((os.map val).getLastD 0), rfl, rfl, SqT.of ha1, ?_, _, rfl, _, _, rfl, rfl, qb (q H1 e1) ?_⟩
         · show atI vs (-1) = _
           refine atI_end ?_
           rw [hv, List.length_map, getI (by lia), List.getLastD_eq_getLast?, List.getLast?_eq_getElem?, List.getD_eq_getElem?_getD]
         · rw [← eq]
           unfold lotB'
           rw [hR]
           have e0 : ¬ os = [] := fun e => by rw [e] at hl; have : vs.length = 0 := hl; lia
           have hz := of_decide_eq_true hz
           simp [e0]
           intro hh
           simpa using hz
       · refine qb (q H1 e1) ?_
         rw [← eq]
         unfold lotB'
         rw [hR]
         have e0 : ¬ os = [] := fun e => by rw [e] at hl; have : vs.length = 0 := hl; lia
         have hz : ¬ (0 ≤ (os.map val).getD 0 0) := fun h => hz (decide_eq_true h)
         simp only [e0, decide_false, Bool.false_or, Bool.true_and, decide_eq_false hz, Bool.false_and]
end
end Eo
end
section
namespace L2
open PySem
section
variable {P : Program} {w : World} {K : W.Frag} {mg : Str → Option Value} {base : Heap} {N : List Str} {qual : Str} {sc : Scope} {f : Addr} {cdv : Value} {A : Around} {outer : List Env} {s : Shared} {H : Hp} {E : XK} {x y z : Str} {p1 p2 p3 pos : Pos} {k i j l : Nat}
theorem jg_two_d (hN : N.Nodup) (hi : N[i]? = some x) (hj : N[j]? = some y) (hx : sc.names.lookup x = some .local) (hy : sc.names.lookup y = some .local) :
   JG (cxOf CX0 P w K mg base N qual sc f cdv A outer s H E).nox (.Tuple [.Name x p1, .Name y p2] k pos) (gTup K 2 (gCons (kZ i) (gCons (kZ j) gNil))) :=
 jg_tup (X := (cxOf CX0 P w K mg base N qual sc f cdv A outer s H E).nox) rfl (jgs_cons (kL hN hi (loc_l hx)) (jgs_cons (kL hN hj (loc_l hy)) jgs_nil as_name) as_name)
end
end L2
namespace L2
open PySem
section
variable {K : W.Frag} {m : List (Option Nat)} {g : TG} {tt : TT} {te : TE} {σ : St} {H1 : Hp} {Q : VK}
end
end L2
namespace Eo
open PySem L2
theorem getD_at {α : Type} {l : List α} {i : Nat} {d : α} (h : i < l.length) : l.getD i d = l[i] := by
 rw [List.getD_eq_getElem?_getD, List.getElem?_eq_getElem h]
 rfl
theorem flat_ints (l : List Int) : (l.map V.int).all flatV = true := by
 rw [List.all_eq_true]
 intro x hx
 obtain ⟨i, _, rfl⟩ := List.mem_map.mp hx
 rfl
theorem inV_ints (i : Int) (l : List Int) : inV (.int i) (l.map V.int) = decide (i ∈ l) := by
 unfold inV
 rw [Bool.eq_iff_iff, List.any_eq_true, decide_eq_true_iff]
 constructor
 · rintro ⟨x, hx, e⟩
   obtain ⟨j, hj, rfl⟩ := List.mem_map.mp hx
   have : j = i := eq_of_beq e
   rw [← this]
   exact hj
 · intro h
   exact ⟨.int i, List.mem_map.mpr ⟨i, h, rfl⟩, by simp [eqV]⟩
theorem ris_len : ∀ (ts : List Int) (lo w : Int), ts.Pairwise (· < ·) → (∀ z ∈ ts, lo ≤ z ∧ z < w) → (ts.length : Int) ≤ max (w - lo) 0
 | [], lo, w, _, _ => by show (0 : Int) ≤ _; lia
 | a :: r, lo, w, hp, hb => by
   have h1 := hb a List.mem_cons_self
   have hp' := List.pairwise_cons.mp hp
   have := ris_len r (a + 1) w hp'.2 fun z hz => ⟨by have := hp'.1 z hz; lia, (hb z (List.mem_cons_of_mem _ hz)).2⟩
   rw [List.length_cons]
   lia
noncomputable def jH (pcs : List (List Int × Int)) (k : Int) : List Int := (pcs.getD k.toNat ([], 0)).1
theorem PcsAt.get {H : Hp} : ∀ {vs : List V} {ps : List (List Int × Int)}, PcsAt H vs ps → ∀ {k : Nat}, k < ps.length → ∃ v, vs[k]? = some v ∧ PcAt H v (ps.getD k ([], 0))
 | v :: vs, p :: ps, h, 0, _ => ⟨v, rfl, h.1⟩
 | v :: vs, p :: ps, h, k + 1, hk => PcsAt.get h.2 (k := k) (by simpa using hk)
 | [], [], _, k, hk => absurd hk (Nat.not_lt_zero _)
 | [], _ :: _, h, _, _ => h.elim
 | _ :: _, [], h, _, _ => h.elim
theorem Good.at {mt mp w : Int} {ms : List Int} {pcs : List (List Int × Int)} (g : Good mt mp w ms pcs) {k : Nat} (hk : k < pcs.length) : GoodPc w (pcs.getD k ([], 0)) := by
 have e : pcs.getD k ([], 0) = pcs[k] := by simp [List.getD, hk]
 rw [e]
 exact g.pg _ (List.getElem_mem hk)
theorem upto_len (n : Nat) : (upto n).length = n := by
 unfold upto
 rw [List.length_map, List.length_range]
theorem upto_get {n i : Nat} (h : i < n) : (upto n)[i]? = some (i : Int) := by
 unfold upto
 rw [List.getElem?_map, List.getElem?_range h]
 rfl
theorem at_non (H : Hp) : At H .oth .non := .inl rfl
theorem at_bl (H : Hp) (b : Bool) : At H .oth (.bl b) := .inr (.inl ⟨b, rfl⟩)
theorem at_str (H : Hp) (x : Str) : At H .oth (.str x) := .inr (.inr (.inl ⟨x, rfl⟩))
theorem at_int (H : Hp) (i : Int) : At H (.int i) (.int i) := rfl
theorem at_lst {H : Hp} {a : Addr} {xs : List V} (h : H a = some (.lst xs)) : At H .oth (.ref a) := .inr (.inr (.inr ⟨a, rfl, .inl ⟨xs, h⟩⟩))
theorem at_dct {H : Hp} {a : Addr} {xs : List (Key × V)} (h : H a = some (.dK xs)) : At H .oth (.ref a) := .inr (.inr (.inr ⟨a, rfl, .inr ⟨xs, h⟩⟩))
theorem at_tup {H : Hp} {a : Addr} {vs : List V} {os : List Ob} (h : H a = some (.tup vs)) (n : vs.length ≤ 100) (r : Ats H os vs) : At H (.tup os) (.ref a) := ⟨a, vs, rfl, h, n, r⟩
theorem ats0 (H : Hp) : Ats H [] [] := rfl
theorem ats1 {H : Hp} {o : Ob} {v : V} {os : List Ob} {vs : List V} (h : At H o v) (r : Ats H os vs) : Ats H (o :: os) (v :: vs) := ⟨v, vs, rfl, h, r⟩
end Eo
end
section
namespace Eo
open PySem L2
section
variable {P : Program} {w : World} {K : W.Frag} {mg : Str → Option Value} {base : Heap}
variable {f fW fR fU : Addr} {fdW fdR fdU : FuncData} {cdv : Value} {A : Around} {outer : List Env} {s : Shared} {H0 : Hp} {E : XK}
noncomputable abbrev nWhole : List Str := ["found"]
theorem scWhole : FnScope nWhole ["found"] (j8 sWhole) := ⟨rfl, rfl, rfl, by decide +kernel, rfl, by decide +kernel, by decide +kernel⟩
noncomputable def wholeA (T : Txt mg) : { t : TS // JSs (XOf nWhole "_law_whole" sWhole P w K mg base f cdv A outer s H0 E) (jC sWhole) t } :=
 have nd := scWhole.nd
 ⟨_, (jJ (kI ((je_and (jI call_isinst gD T.isinstance (by decide +kernel) (j4 (jv 0 rfl vL) (j4 (je_bltn (v := .ty "int") gD T.int (by decide +kernel) rfl) j9 j6) j6) j6) (je_one (je_not (jI call_isinst gD T.isinstance (by decide +kernel) (j4 (jv 0 rfl vL) (j4 (je_bltn (v := .ty "bool") gD T.bool (by decide +kernel) rfl) j9 j6) j6) j6)))))))⟩
theorem ok_whole {fd : FuncData} (F : Fun K "_law_whole" "_law_whole" sWhole f fd) (T : Txt mg) : FnOk P w K mg base CX0 1 f fd ["found"] spWh := by
 refine F.ok scWhole (fun vs H Q E h => ?_) (fun cdv A outer s H vs Q E hr h => ?_)
 · obtain ⟨_, _, rfl, _⟩ := h
   rfl
 · obtain ⟨v, o, rfl, hA, q⟩ := h
   obtain ⟨t, ty, _, b1, b2, k1, k2, e⟩ := hA.ty K
   refine ⟨_, (wholeA T).2.h, ?_⟩
   refine ⟨_, rfl, _, _, _, b1, rfl, ty, k1, b1, rfl, ?_⟩
   rw [← e] at q
   cases b1 with
   | true => exact iteT ⟨_, rfl, _, _, _, b2, rfl, ty, k2, b2, rfl, q⟩
   | false => exact iteF q
end
end Eo
end
section
namespace Eo
open PySem L2
theorem _root_.L2.Ext.tups {H H' : Hp} (e : Ext H H') : Tups H H' := fun b xs h => e b _ h
theorem PcsAt.snoc {H : Hp} {v : V} {p : List Int × Int} (hv : PcAt H v p) : ∀ {vs : List V} {ps : List (List Int × Int)}, PcsAt H vs ps → PcsAt H (vs ++ [v]) (ps ++ [p])
 | [], [], _ => ⟨hv, trivial⟩
 | x :: vs, q :: ps, h => ⟨h.1, PcsAt.snoc hv h.2⟩
 | [], _ :: _, h => h.elim
 | _ :: _, [], h => h.elim
theorem Keep.ext {H H' : Hp} {p : Addr} {o : HO} (k : Keep (L2.upd H p o) H' p) (hp : H p = none) : Ext H H' := fun b u hb => by
 have n : b ≠ p := jB hb hp
 exact k b u (by rw [jA n]; exact hb) n
theorem Good.wide {mt mp w mt' mp' : Int} {ms : List Int} {pcs : List (List Int × Int)} (g : Good mt mp w ms pcs) (h1 : mt ≤ mt') (h2 : mp ≤ mp') : Good mt' mp' w ms pcs := ⟨g.w0, Int.le_trans g.w1 h1, g.mr, Int.le_trans g.pl h2, g.pg⟩
end Eo
end
section
namespace Eo
open PySem L2
section
variable {P : Program} {w : World} {K : W.Frag} {mg : Str → Option Value} {base : Heap}
variable {f fC fP fT fB fW : Addr} {fdC fdP fdT fdB fdW : FuncData} {cdv : Value} {A : Around} {outer : List Env} {s : Shared} {H0 : Hp} {E : XK}
noncomputable def spDrawn (K : W.Frag) : Sp := fun vs H Q _ => ∃ (sc : Addr) (ns : List Int) (k mt mp : Int), vs = [.ref sc, .int k, .int mt, .int mp] ∧ SqL K H sc (ns.map V.int) ∧ 0 ≤ k ∧ 0 ≤ mt ∧ mt ≤ 16 ∧ 0 ≤ mp ∧ mp ≤ 16 ∧
 ∀ b w ms pcs H', BoxAt H' b w ms pcs → Good 16 16 w ms pcs → Ext H H' → Q (.ref b) H'
noncomputable abbrev nDrawn : List Str := ["script", "k", "things", "pieces", "pot"]
theorem scDrawn : FnScope nDrawn ["script", "k", "things", "pieces"] (j8 sDrawn) := ⟨rfl, rfl, rfl, by decide +kernel, rfl, by decide +kernel, by decide +kernel⟩
noncomputable def drawnA (T : Txt mg) (CC : Can P w K mg base "_law_cell_at" 1 fC fdC ["script", "k"] (yJ K)) (CP : Can P w K mg base "_law_pot" 1 fP fdP ["cell"] yS) (CT : Can P w K mg base "_law_take" 1 fT fdT ["pot", "wide"] jW) (CB : Can P w K mg base "_law_box" 3 fB fdB ["pot", "most_things", "most_pieces"] spBox) (hr : Room 3 (XOf nDrawn "_law_drawn" sDrawn P w K mg base f cdv A outer s H0 E).A) : { t : TS // JSs (XOf nDrawn "_law_drawn" sDrawn P w K mg base f cdv A outer s H0 E) (jC sDrawn) t } :=
 have nd := scDrawn.nd
 ⟨_, (jE (jU (i := 4) nd rfl lL (CP.je (hr.mono (by decide)) gD (j4 (CC.je (hr.mono (by decide)) gD (j4 (jv 0 rfl vL) (j4 (jv 1 rfl vL) j9 j6) j6) j6) j9 jG) jG) kJ)
     (jE (yT (jt_cmpR op_eq (CT.je (hr.mono (by decide)) gD (j4 (jv 4 rfl vL) (j4 (jD) j9 jF) j6) j6) (jD) (kO _)) (jJ (kI (CB.je hr gD (j4 (jv 4 rfl vL) (j4 (jD) (j4 (jD) j9 jF) jF) j6) j6))) y8)
     (jJ (kI (CB.je hr gD (j4 (jv 4 rfl vL) (j4 (jv 2 rfl vL) (j4 (jv 3 rfl vL) j9 j6) j6) j6) j6)))))⟩
theorem ok_drawn {fd : FuncData} (F : Fun K "_law_drawn" "_law_drawn" sDrawn f fd) (T : Txt mg) (CC : Can P w K mg base "_law_cell_at" 1 fC fdC ["script", "k"] (yJ K)) (CP : Can P w K mg base "_law_pot" 1 fP fdP ["cell"] yS) (CT : Can P w K mg base "_law_take" 1 fT fdT ["pot", "wide"] jW) (CB : Can P w K mg base "_law_box" 3 fB fdB ["pot", "most_things", "most_pieces"] spBox) : FnOk P w K mg base CX0 4 f fd ["script", "k", "things", "pieces"] (spDrawn K) := by
 refine F.ok scDrawn (fun vs H Q E h => ?_) (fun cdv A outer s H vs Q E hr h => ?_)
 · obtain ⟨_, _, _, _, _, rfl, _⟩ := h
   rfl
 · obtain ⟨a, ns, k, mt, mp, rfl, hS, k0, m0, m1, p0, p1, q⟩ := h
   refine ⟨_, (drawnA T CC CP CT CB hr).2.h, ?_⟩
   refine ⟨_, rfl, _, rfl, a, ns, k, rfl, hS, k0, fun c => ?_⟩
   refine ⟨c, rfl, fun p N hp hN => ?_⟩
   refine ⟨_, rfl, p, N, 8, rfl, j7, hN, by decide, by decide, fun N1 r a1 a2 a3 => ?_⟩
   rw [upd_upd]
   refine ⟨rfl, _, rfl, ite2 (fun _ => ?_) (fun _ => ?_)⟩
   · refine ⟨_, rfl, p, N1, 16, 7, rfl, j7, a1, by decide, by decide, by decide, by decide, fun b N' w ms pcs H1 c1 c2 c3 c4 c5 => ?_⟩
     exact q b w ms pcs H1 c3 (c4.wide (by decide) (by decide)) (c5.ext hp)
   · refine ⟨_, rfl, _, rfl, _, rfl, p, N1, mt, mp, rfl, j7, a1, m0, m1, p0, by lia, fun b N' w ms pcs H1 c1 c2 c3 c4 c5 => ?_⟩
     exact q b w ms pcs H1 c3 (c4.wide m1 p1) (c5.ext hp)
end
end Eo
end
section
namespace Eo
open PySem L2
section
variable {P : Program} {w : World} {K : W.Frag} {mg : Str → Option Value} {base : Heap}
variable {f fC fP fT fB fW : Addr} {fdC fdP fdT fdB fdW : FuncData} {cdv : Value} {A : Around} {outer : List Env} {s : Shared} {H0 : Hp} {E : XK}
noncomputable abbrev nWholes : List Str := ["found"]
theorem scWholes : FnScope nWholes ["found"] (j8 yE) := ⟨rfl, rfl, rfl, by decide +kernel, rfl, by decide +kernel, by decide +kernel⟩
noncomputable def spWholes : Sp := fun vs H Q _ => ∃ (a : Addr) (ks : List Int), vs = [.ref a] ∧ H a = some (.tup (ks.map V.int)) ∧ ks.length ≤ 100 ∧ ∀ H', Ext H H' → Q (.bl true) H'
noncomputable def wholesA (T : Txt mg) (CW : Can P w K mg base "_law_whole" 1 fW fdW ["found"] spWh) (hr : Room 1 (XOf nWholes "_law_wholes" yE P w K mg base f cdv A outer s H0 E).A) : { t : TS // JSs (XOf nWholes "_law_wholes" yE P w K mg base f cdv A outer s H0 E) (jC yE) t } :=
 have nd := scWholes.nd
 ⟨_, (jJ (kI ((je_and (jI call_isinst gD T.isinstance (by decide +kernel) (j4 (jv 0 rfl vL) (j4 (je_bltn (v := .ty "tuple") gD T.tuple (by decide +kernel) rfl) j9 j6) j6) j6) (je_one (jI (call_allL rfl) gD T.all (by decide +kernel) (j4 (y9 (m := [none]) (Nc := ["one"]) rfl (ji_tup (jv 0 rfl vL)) rfl (by decide +kernel) (by decide +kernel) (jY (psc := j8 yE) (by decide +kernel)) (jS (N := nWholes) rfl rfl (by decide +kernel)) (fun cl C fp s H => kL (i := 0) (show (["one"] : List Str).Nodup by decide +kernel) rfl (yQ (by decide +kernel))) (fun cl C fp s H => jts_nil) (fun cl C fp s H => (CW.je hr (gl_b (by decide +kernel)) (j4 (jv 0 rfl (kD (by decide +kernel))) j9 j6) j6)) fo_name) j9 jP) jP))))))⟩
theorem ok_wholes {fd : FuncData} (F : Fun K "_law_wholes" "_law_wholes" yE f fd) (T : Txt mg) (CW : Can P w K mg base "_law_whole" 1 fW fdW ["found"] spWh) : FnOk P w K mg base CX0 2 f fd ["found"] spWholes := by
 refine F.ok scWholes (fun vs H Q E h => ?_) (fun cdv A outer s H vs Q E hr h => ?_)
 · obtain ⟨_, _, rfl, _⟩ := h
   rfl
 · obtain ⟨a, ks, rfl, ha, hl, k⟩ := h
   refine ⟨_, (wholesA T CW hr).2.h, ?_⟩
   refine ⟨_, rfl, _, _, _, true, rfl, .tup ha, rfl, _, rfl, iteT ?_⟩
   refine ⟨_, rfl, a, rfl, ⟨_, SqT.of ha⟩, comp_tup (xs := ks.map V.int) (by rw [List.length_map, PySem.sizeLine_eq]; lia) (fun D j σ' H' zs => (∃ v, σ' = [v]) ∧ Ext H H' ∧ H' D = some (.lst zs) ∧ H D = none ∧ zs = (List.replicate j true).map V.bl) ?_ ?_ ?_ ?_⟩
   · intro D hD
     exact ⟨⟨_, rfl⟩, (Ext.refl _).new hD _, j7, hD, rfl⟩
   · rintro D j σ' H' zs hD ⟨_, e, h2, _, rfl⟩
     refine ⟨e _ _ ha, h2, ?_⟩
     rw [List.length_map, List.length_replicate]
     exact Nat.le_refl _
   · rintro D j σ' H' zs x hD hx ⟨⟨v, rfl⟩, e, h2, hn, rfl⟩
     obtain ⟨z, hz, rfl⟩ : ∃ z : Int, ks[j]? = some z ∧ V.int z = x := by
       rw [List.getElem?_map] at hx
       cases hq : ks[j]? with
       | none => rw [hq] at hx; cases hx
       | some z => rw [hq] at hx; cases hx; exact ⟨z, rfl, rfl⟩
     dsimp only [kZ, yR]
     rw [if_pos rfl]
     refine ⟨_, rfl, _, .int z, rfl, at_int _ _, h2, ⟨_, rfl⟩, e.updNew hn _, j7, hn, ?_⟩
     rw [List.replicate_succ', List.map_append]
     rfl
   · rintro D σ' H' zs hD ⟨_, e, h2, hn, rfl⟩
     refine ⟨D, _, rfl, SqL.of h2, ?_⟩
     have : (List.replicate (ks.map V.int).length true).all id = true := by rw [List.all_eq_true]; intro x hx; exact (List.mem_replicate.mp hx).2
     rw [this]
     exact k H' e
end
end Eo
end
section
namespace Eo
open PySem L2
noncomputable def pcT (pc : List Int × Int) : Tr := .tup [.tup (pc.1.map Tr.int), .int pc.2]
noncomputable def boxT (w : Int) (ms : List Int) (pcs : List (List Int × Int)) : Tr := .tup [.int w, .tup (ms.map Tr.int), .tup (pcs.map pcT)]
theorem ints_T {H : Hp} : ∀ l : List Int, TsAt H (l.map Tr.int) (l.map V.int)
 | [] => rfl
 | i :: r => ⟨.int i, _, rfl, rfl, ints_T r⟩
theorem pcs_T {H : Hp} : ∀ {vs : List V} {pcs : List (List Int × Int)}, PcsAt H vs pcs → TsAt H (pcs.map pcT) vs
 | [], [], _ => rfl
 | v :: vs, p :: ps, h => by
   obtain ⟨a, q, e, h1, h2⟩ := h.1
   exact ⟨v, vs, rfl, ⟨a, _, e, h1, .ref q, _, rfl, ⟨q, _, rfl, h2, ints_T _⟩, .int p.2, [], rfl, rfl, rfl⟩, pcs_T h.2⟩
 | [], _ :: _, h => h.elim
 | _ :: _, [], h => h.elim
theorem box_T {H : Hp} {b : Addr} {w : Int} {ms : List Int} {pcs : List (List Int × Int)} (h : BoxAt H b w ms pcs) : TAt H (boxT w ms pcs) (.ref b) := by
 obtain ⟨qm, qp, ps, b1, b2, b3, b4⟩ := h.ex
 exact ⟨b, _, rfl, b1, .int w, _, rfl, rfl, .ref qm, _, rfl, ⟨qm, _, rfl, b2, ints_T _⟩, .ref qp, [], rfl, ⟨qp, _, rfl, b3, pcs_T b4⟩, rfl⟩
theorem deps_ints : ∀ l : List Int, deps (l.map Tr.int) = 0
 | [] => by simp [deps]
 | i :: r => by simp [deps, dep, deps_ints r]
theorem deps_pcs : ∀ l : List (List Int × Int), deps (l.map pcT) ≤ 2
 | [] => by simp [deps]
 | p :: r => by
   have := deps_pcs r
   simp only [List.map_cons, deps, pcT, dep, deps_ints]
   lia
theorem box_dep (w : Int) (ms : List Int) (pcs : List (List Int × Int)) : dep (boxT w ms pcs) ≤ 4 := by
 have := deps_pcs pcs
 simp only [boxT, dep, deps, deps_ints]
 lia
theorem iteN {A B : Prop} {c : Bool} (hc : c = false) (h : B) : if c = true then A else B := by
 rw [hc]
 exact iteF h
end Eo
end
section
namespace Eo
open PySem L2
section
variable {P : Program} {w : World} {K : W.Frag} {mg : Str → Option Value} {base : Heap}
variable {f fW fS : Addr} {fdW fdS : FuncData} {cdv : Value} {A : Around} {outer : List Env} {s : Shared} {H0 : Hp} {E : XK}
noncomputable abbrev nIsBox : List Str := ["found", "due"]
theorem scIsBox : FnScope nIsBox ["found", "due"] (j8 yM) := ⟨rfl, rfl, rfl, by decide +kernel, rfl, by decide +kernel, by decide +kernel⟩
noncomputable def spIsBox : Sp := fun vs H Q _ => ∃ (a b : Addr) (w : Int) (ms : List Int) (pcs : List (List Int × Int)), vs = [.ref a, .ref b] ∧ BoxAt H a w ms pcs ∧ BoxAt H b w ms pcs ∧ ms.length ≤ 100 ∧ pcs.length ≤ 100 ∧ (∀ p ∈ pcs, p.1.length ≤ 100) ∧ ∀ H', Ext H H' → Q (.bl true) H'
noncomputable def isBoxA (T : Txt mg) (CW : Can P w K mg base "_law_whole" 1 fW fdW ["found"] spWh) (CWs : Can P w K mg base "_law_wholes" 2 fS fdS ["found"] spWholes) (hr : Room 2 (XOf nIsBox "_law_is_box" yM P w K mg base f cdv A outer s H0 E).A) : { t : TS // JSs (XOf nIsBox "_law_is_box" yM P w K mg base f cdv A outer s H0 E) (jC yM) t } :=
 have nd := scIsBox.nd
 ⟨_, (jE (yT (jt_w (jw_or (jt_not (jt_val (jI call_isinst gD T.isinstance (by decide +kernel) (j4 (jv 0 rfl vL) (j4 (je_bltn (v := .ty "tuple") gD T.tuple (by decide +kernel) rfl) j9 j6) j6) j6) tv_call)) (jw_or (jt_cmpR (op_neTT hr.units101) (jv 0 rfl vL) (jv 1 rfl vL) (kO _)) (jw_or (jt_not (jt_val (CW.je (hr.mono (by decide)) gD (j4 (kX yB (jv 0 rfl vL) (jD) jT) j9 kN) kN) tv_call)) (jw_or1 (jt_not (jt_val (CWs.je hr gD (j4 (kX yB (jv 0 rfl vL) (jD) jT) j9 kN) kN) tv_call))))))) (jJ (kI (yV))) y8)
     (jJ (kI (jI (call_allL rfl) gD T.all (by decide +kernel) (j4 (y9 (m := [none, none]) (Nc := ["things", "weight"]) rfl (ji_tup (kX yB (jv 0 rfl vL) (jD) jT)) rfl (by decide +kernel) (by decide +kernel) (jY (psc := j8 yM) (by decide +kernel)) (jS (N := nIsBox) rfl rfl (by decide +kernel)) (fun cl C fp s H => jg_pair_b (i := 0) (j := 1) rfl (show (["things", "weight"] : List Str).Nodup by decide +kernel) rfl rfl (by decide +kernel) (by decide +kernel)) (fun cl C fp s H => jts_nil) (fun cl C fp s H => ((je_and (CWs.je hr (gl_b (by decide +kernel)) (j4 (jv 0 rfl (kD (by decide +kernel))) j9 j6) j6) (je_one (CW.je (hr.mono (by decide)) (gl_b (by decide +kernel)) (j4 (jv 1 rfl (kD (by decide +kernel))) j9 j6) j6))))) fo_sub) j9 jP) jP))))⟩
theorem ok_isBox {fd : FuncData} (F : Fun K "_law_is_box" "_law_is_box" yM f fd) (T : Txt mg) (CW : Can P w K mg base "_law_whole" 1 fW fdW ["found"] spWh) (CWs : Can P w K mg base "_law_wholes" 2 fS fdS ["found"] spWholes) : FnOk P w K mg base CX0 3 f fd ["found", "due"] spIsBox := by
 refine F.ok scIsBox (fun vs H Q E h => ?_) (fun cdv A outer s H vs Q E hr h => ?_)
 · obtain ⟨_, _, _, _, _, rfl, _⟩ := h
   rfl
 · obtain ⟨a, b, w, ms, pcs, rfl, B1, B2, lm, lp, lt, q⟩ := h
   refine ⟨_, (isBoxA T CW CWs hr).2.h, ?_⟩
   obtain ⟨qm, qp, vs, a1, a2, a3, a4⟩ := id B1.ex
   refine ⟨_, rfl, _, _, _, true, rfl, .tup a1, rfl, _, rfl, iteF ?_⟩
   have T1 := box_T B1
   have T2 := box_T B2
   refine ⟨_, rfl, _, rfl, _, _, T1, T2, ?_, _, rfl, iteN (by rw [eqTs_self]; rfl) ?_⟩
   · have h := box_dep w ms pcs
     unfold boxT at h
     rw [dep] at h
     lia
   refine ⟨_, rfl, _, _, 0, _, rfl, rfl, SqT.of a1, rfl, _, .int w, rfl, at_int _ _, _, rfl, iteF ?_⟩
   refine ⟨_, rfl, _, _, 1, _, rfl, rfl, SqT.of a1, rfl, qm, ms, rfl, a2, lm, fun H1 e1 => ⟨_, rfl, iteF ?_⟩⟩
   refine ⟨_, rfl, _, _, 2, _, rfl, rfl, SqT.of (e1 _ _ a1), rfl, qp, rfl, ⟨_, SqT.of (e1 _ _ a3)⟩, comp_tup (xs := vs) (by rw [a4.len, PySem.sizeLine_eq]; lia) (fun D j σ' H' zs => (∃ v v', σ' = [v, v']) ∧ Ext H1 H' ∧ H' D = some (.lst zs) ∧ H1 D = none ∧ zs = (List.replicate j true).map V.bl) ?_ ?_ ?_ ?_⟩
   · intro D hD
     exact ⟨⟨_, _, rfl⟩, (Ext.refl _).new hD _, j7, hD, rfl⟩
   · rintro D j σ' H' zs hD ⟨_, e, h2, _, rfl⟩
     refine ⟨e _ _ (e1 _ _ a3), h2, ?_⟩
     rw [List.length_map, List.length_replicate]
     exact Nat.le_refl _
   · rintro D j σ' H' zs x hD hx ⟨⟨v, v', rfl⟩, e, h2, hn, rfl⟩
     have hj : j < pcs.length := by
       rw [← a4.len]
       exact (List.getElem?_eq_some_iff.mp hx).1
     obtain ⟨x', hx', ax, qx, rfl, c1, c2⟩ := a4.get hj
     rw [hx] at hx'
     cases hx'
     have lj : (pcs.getD j ([], 0)).1.length ≤ 100 := by
       have ee : pcs.getD j ([], 0) = pcs[j] := by simp [List.getD, hj]
       rw [ee]
       exact lt _ (List.getElem_mem hj)
     generalize pcs.getD j ([], 0) = pc at c1 c2 lj
     refine ⟨ax, _, rfl, SqT.of (e _ _ (e1 _ _ c1)), rfl, _, _, rfl, _, _, rfl, rfl, ?_⟩
     dsimp only [kZ, yR]
     rw [if_pos rfl]
     refine ⟨_, rfl, qx, pc.1, rfl, e _ _ (e1 _ _ c2), lj, fun H2 e2 => ⟨_, rfl, iteT ?_⟩⟩
     refine ⟨_, rfl, _, .int pc.2, rfl, at_int _ _, e2 _ _ h2, ⟨_, _, rfl⟩, (e.trans e2).updNew hn _, j7, hn, ?_⟩
     rw [List.replicate_succ', List.map_append]
     rfl
   · rintro D σ' H' zs hD ⟨_, e, h2, hn, rfl⟩
     refine ⟨D, _, rfl, SqL.of h2, ?_⟩
     have : (List.replicate vs.length true).all id = true := by rw [List.all_eq_true]; intro x hx; exact (List.mem_replicate.mp hx).2
     rw [this]
     exact q H' (e1.trans e)
end
end Eo
end
section
namespace Eo
open PySem L2
noncomputable abbrev leI : Int → Int → Bool := fun a b => decide (a ≤ b)
noncomputable def srt (l : List Int) : List Int := l.mergeSort leI
theorem srt_perm (l : List Int) : (srt l).Perm l := List.mergeSort_perm _ _
theorem srt_le (l : List Int) : (srt l).Pairwise (· ≤ ·) := by
 have := List.pairwise_mergeSort (le := leI) (fun a b c h1 h2 => decide_eq_true (Int.le_trans (of_decide_eq_true h1) (of_decide_eq_true h2))) (fun a b => by
   rw [Bool.or_eq_true]
   rcases Int.le_total a b with h | h
   · exact .inl (decide_eq_true h)
   · exact .inr (decide_eq_true h)) l
 exact this.imp fun h => of_decide_eq_true h
theorem srt_eq {l m : List Int} (h1 : m.Pairwise (· ≤ ·)) (h2 : m.Perm l) : m = srt l :=
 List.Perm.eq_of_pairwise (fun a b _ _ h1 h2 => Int.le_antisymm h1 h2) h1 (srt_le l) (h2.trans (srt_perm l).symm)
theorem srt_id {l : List Int} (h : l.Pairwise (· ≤ ·)) : srt l = l := (srt_eq h (.refl _)).symm
theorem srt_len (l : List Int) : (srt l).length = l.length := (srt_perm l).length_eq
noncomputable def plcs (ts lot : List Int) : List Int := (lot.filter fun t => decide (t ∈ ts)).map fun t => ((ts.idxOf t : Nat) : Int)
noncomputable def nmd (ts lot : List Int) : List Int := srt (plcs ts lot)
theorem plcs_len (ts lot : List Int) : (plcs ts lot).length ≤ lot.length := by
 unfold plcs
 rw [List.length_map]
 exact List.length_filter_le _ _
theorem nmd_len (ts lot : List Int) : (nmd ts lot).length ≤ lot.length := by
 unfold nmd
 rw [srt_len]
 exact plcs_len _ _
noncomputable def plKv (ts : List Int) : List (Key × V) := (List.range ts.length).map fun i => (Sum.inl (ts.getD i 0), V.int (i : Int))
theorem plKv_len (ts : List Int) : (plKv ts).length = ts.length := by
 unfold plKv
 rw [List.length_map, List.length_range]
theorem plKv_keys (ts : List Int) : (plKv ts).map (·.1) = ts.map Sum.inl := by
 unfold plKv
 rw [List.map_map]
 refine List.ext_getElem (by simp) fun i h1 h2 => ?_
 have : i < ts.length := by simpa using h1
 simp [List.getD, this]
theorem plKv_get {ts : List Int} {i : Nat} {k : Key} {v : V} (h : (plKv ts)[i]? = some (k, v)) : ∃ t, ts[i]? = some t ∧ k = Sum.inl t ∧ v = V.int (i : Int) := by
 unfold plKv at h
 rw [List.getElem?_map] at h
 by_cases hi : i < ts.length
 · rw [List.getElem?_range hi] at h
   simp only [Option.map_some, Option.some.injEq, Prod.mk.injEq] at h
   refine ⟨ts[i], by simp [hi], ?_, h.2.symm⟩
   rw [← h.1]
   simp [List.getD, hi]
 · rw [List.getElem?_eq_none (by simp; lia)] at h
   cases h
theorem val_none {κ : Type} [DecidableEq κ] {kvs : List (κ × V)} {k : κ} (h : k ∉ kvs.map (·.1)) : valV kvs k = none := by
 unfold valV
 rw [List.find?_eq_none.mpr fun x hx => ?_]
 · rfl
 · intro e
   exact h (List.mem_map.mpr ⟨x, hx, of_decide_eq_true e⟩)
theorem val_at {κ : Type} [DecidableEq κ] : ∀ {kvs : List (κ × V)} {i : Nat} {k : κ} {v : V}, (kvs.map (·.1)).Nodup → kvs[i]? = some (k, v) → valV kvs k = some v
 | [], _, _, _, _, h => by simp at h
 | p :: r, 0, k, v, _, h => by
   simp at h
   subst h
   exact valV_pos rfl
 | p :: r, i + 1, k, v, nd, h => by
   rw [List.map_cons, List.nodup_cons] at nd
   have h : r[i]? = some (k, v) := by simpa using h
   have hm : k ∈ r.map (·.1) := List.mem_map.mpr ⟨_, List.mem_of_getElem? h, rfl⟩
   have ne : ¬ p.1 = k := fun e => nd.1 (by rw [e]; exact hm)
   have := val_at (i := i) nd.2 h
   unfold valV at this ⊢
   rw [List.find?_cons, decide_eq_false ne]
   exact this
theorem nodup_inl {ts : List Int} (h : ts.Nodup) : (ts.map (Sum.inl : Int → Key)).Nodup := by
 rw [List.Nodup, List.pairwise_map]
 exact h.imp fun hne e => hne (Sum.inl.inj e)
theorem plKv_val {ts : List Int} (nd : ts.Nodup) (t : Int) : valV (plKv ts) (Sum.inl t) = if t ∈ ts then some (.int ((ts.idxOf t : Nat) : Int)) else none := by
 by_cases h : t ∈ ts
 · rw [if_pos h]
   have hi := List.idxOf_lt_length_iff.mpr h
   refine val_at (i := ts.idxOf t) (by rw [plKv_keys]; exact nodup_inl nd) ?_
   unfold plKv
   rw [List.getElem?_map, List.getElem?_range hi]
   show some (Sum.inl (ts.getD (ts.idxOf t) 0), _) = _
   rw [show ts.getD (ts.idxOf t) 0 = t by simp [List.getD, hi, List.getElem_idxOf]]
 · rw [if_neg h]
   refine val_none ?_
   rw [plKv_keys]
   intro z
   obtain ⟨x, hx, e⟩ := List.mem_map.mp z
   exact h (Sum.inl.inj e ▸ hx)
section
variable {P : Program} {w : World} {K : W.Frag} {mg : Str → Option Value} {base : Heap}
variable {f : Addr} {cd : Value} {cl : List (Str × Addr)} {A : Around} {outer : List Env} {s : Shared} {H0 : Hp}
noncomputable abbrev yH : Stmt := (jC jX).getD 1 (.Pass ⟨0, 0, 0, 0⟩)
noncomputable abbrev nNamed : List Str := ["lot", "places"]
theorem scNamed : NScope nNamed ["lot"] ["places"] (j8 yH) := ⟨rfl, rfl, rfl, by decide +kernel, rfl, by decide +kernel, by decide +kernel, fun x h => by
 have := PySem.mem_of_lookup h
 revert this
 have hl : ∀ y ∈ (j8 yH).names, y.2 = .free → y.1 = "places" := by decide +kernel
 intro m
 have := hl _ m rfl
 exact this ▸ List.mem_cons_self, by decide +kernel⟩
noncomputable def spNamed : List V → Sp := fun fv vs H Q _ => ∃ (d a : Addr) (ts lot : List Int), fv = [.ref d] ∧ vs = [.ref a] ∧ ts.Nodup ∧ H d = some (.dK (plKv ts)) ∧ H a = some (.tup (lot.map V.int)) ∧ lot.length < 64 ∧ ∀ r H', H' r = some (.tup ((nmd ts lot).map V.int)) → Ext H H' → Q (.ref r) H'
noncomputable def namedA (T : Txt mg) (hr : Room 0 (cxN P w K mg base nNamed "picked.<locals>.named" (j8 yH) f cd cl A outer s H0).A) : { t : TS // JSs (cxN P w K mg base nNamed "picked.<locals>.named" (j8 yH) f cd cl A outer s H0) (jC yH) t } :=
 have nd := scNamed.nd
 ⟨_, (jJ (kI (jR jO (gl_n (by decide +kernel)) T.tuple (by decide +kernel) (j4 (jI call_sortedL (gl_n (by decide +kernel)) T.sorted (by decide +kernel) (j4 (y9 (m := [none, some 1]) (Nc := ["thing", "places"]) rfl (ji_tup (jv 0 rfl (vis_n (by decide +kernel)))) rfl (by decide +kernel) (by decide +kernel) (jY (psc := j8 yH) (by decide +kernel)) (jS (N := nNamed) rfl rfl (by decide +kernel)) (fun cl C fp s H => kL (i := 0) (show (["thing", "places"] : List Str).Nodup by decide +kernel) rfl (yQ (by decide +kernel))) (fun cl C fp s H => jts_one (je_din (hu_of hr) (jv 0 rfl (kD (by decide +kernel))) (jv 1 rfl (y0 (by decide +kernel))) rfl)) (fun cl C fp s H => (je_dget (hu_of hr) (jv 1 rfl (y0 (by decide +kernel))) (jv 0 rfl (kD (by decide +kernel))) px_name)) fo_name) j9 jP) jP) j9 jG) jG)))⟩
theorem ok_named (T : Txt mg) : FnN P w K mg base 1 "named" "picked.<locals>.named" (jM yH) (jC yH) (j8 yH) ["lot"] ["places"] spNamed := by
 refine fn_ofN scNamed (fun fv vs H Q E h => ?_) (fun cl doc pm c ctv us hl => ?_) (fun A outer s H a c cl vs fv Q E hr h => ?_)
 · obtain ⟨_, _, _, _, _, rfl, _⟩ := h
   rfl
 · match us, hl with
   | [u], _ => rfl
 · obtain ⟨d, a, ts, lot, rfl, rfl, nd, hd, ha, hl, q⟩ := h
   refine ⟨_, (namedA T hr).2.h, ?_⟩
   refine ⟨_, rfl, a, rfl, ⟨_, SqT.of ha⟩, comp_tup (xs := lot.map V.int) (by rw [List.length_map, PySem.sizeLine_eq]; lia) (fun D j σ' H' zs => (∃ v, σ' = [v, some (.ref d)]) ∧ Ext H H' ∧ H' D = some (.lst zs) ∧ H D = none ∧ zs = (plcs ts (lot.take j)).map V.int) ?_ ?_ ?_ ?_⟩
   · intro D hD
     exact ⟨⟨_, rfl⟩, (Ext.refl _).new hD _, j7, hD, rfl⟩
   · rintro D j σ' H' zs hD ⟨_, e, h2, _, rfl⟩
     refine ⟨e _ _ ha, h2, ?_⟩
     rw [List.length_map]
     have := plcs_len ts (lot.take j)
     have := List.length_take_le j lot
     lia
   · rintro D j σ' H' zs x hD hx ⟨⟨v, rfl⟩, e, h2, hn, rfl⟩
     obtain ⟨z, hz, rfl⟩ : ∃ z : Int, lot[j]? = some z ∧ V.int z = x := by
       rw [List.getElem?_map] at hx
       cases hq : lot[j]? with
       | none => rw [hq] at hx; cases hx
       | some z => rw [hq] at hx; cases hx; exact ⟨z, rfl, rfl⟩
     have ht : plcs ts (lot.take (j + 1)) = plcs ts (lot.take j) ++ (if z ∈ ts then [((ts.idxOf z : Nat) : Int)] else []) := by
       unfold plcs
       rw [List.take_add_one, hz, List.filter_append, List.map_append]
       congr 1
       by_cases hzz : z ∈ ts <;> simp [hzz]
     have hD' : H' d = some (.dK (plKv ts)) := e _ _ hd
     have gv := plKv_val nd z
     refine ⟨_, rfl, _, rfl, d, _, rfl, DGet.k (k := Sum.inl z) hD', _, rfl, ?_⟩
     rw [gv]
     by_cases hzz : z ∈ ts
     · rw [if_pos hzz] at gv ht ⊢
       refine ⟨_, rfl, _, rfl, d, _, rfl, by rw [← gv]; exact DGet.k (k := Sum.inl z) hD', h2, ⟨_, rfl⟩, e.updNew hn _, j7, hn, ?_⟩
       rw [ht, List.map_append]
       rfl
     · rw [if_neg hzz] at gv ht ⊢
       refine ⟨⟨_, rfl⟩, e, h2, hn, ?_⟩
       rw [ht, List.append_nil]
   · rintro D σ' H' zs hD ⟨_, e, h2, hn, rfl⟩
     rw [List.length_map, List.take_length] at h2
     refine ⟨D, _, rfl, SqL.of h2, ?_, fun l ns hl hs hp => ?_⟩
     · have := plcs_len ts lot
       lia
     refine ⟨l, _, rfl, .inl ⟨SqL.of j7, fun r hr => ?_⟩⟩
     refine q r _ ?_ ((e.new hl _).new hr _)
     rw [j7, srt_eq hs hp]
     rfl
end
end Eo
end
section
namespace Eo
open PySem L2
noncomputable def pick (ts : List Int) (pcs : List (List Int × Int)) (ks : List Int) : List (List Int × Int) := ks.map fun k => (nmd ts (jH pcs k), (pcs.getD k.toNat ([], 0)).2)
theorem piece_at2 {H : Hp} {vs : List V} {pcs : List (List Int × Int)} (h : PcsAt H vs pcs) {k : Int} (h0 : 0 ≤ k) (h1 : k < pcs.length) : ∃ a q, atI vs k = some (.ref a) ∧ H a = some (.tup [.ref q, .int (pcs.getD k.toNat ([], 0)).2]) ∧ H q = some (.tup ((jH pcs k).map V.int)) := by
 obtain ⟨v, hv, a, q, rfl, b1, b2⟩ := h.get (k := k.toNat) (by lia)
 refine ⟨a, q, ?_, b1, b2⟩
 have e : ((k.toNat : Nat) : Int) = k := by lia
 have := atI_nat hv
 rw [e] at this
 exact this
section
variable {P : Program} {w : World} {K : W.Frag} {mg : Str → Option Value} {base : Heap}
variable {f c0 tb : Addr} {A : Around} {outer : List Env} {s : Shared} {H0 : Hp} {E : XK}
noncomputable abbrev nPicked : List Str := ["box", "things", "pieces", "places", "named"]
theorem scPicked : FnScope nPicked ["box", "things", "pieces"] (j8 jX) := ⟨rfl, rfl, rfl, by decide +kernel, rfl, by decide +kernel, by decide +kernel⟩
noncomputable abbrev pNamed : Pos := match yH with
 | .FunctionDef _ _ _ _ _ _ _ _ _ p => p
 | _ => ⟨0, 0, 0, 0⟩
noncomputable abbrev TabP (H : Hp) (tb : Addr) : Prop := TabOk H tb pNamed "picked.<locals>.named"
theorem fs_named : ∀ x ∈ (["places"] : List Str), (j8 yH).names.lookup x = some .free := by decide +kernel
theorem fsAt_picked : FsAt (XOf nPicked "picked" jX P w K mg base f (.ref c0) A outer s H0 E) ["places"] [3] := ⟨rfl, fun k x h => by
 cases k with
 | zero => cases h; exact ⟨3, rfl, rfl, .inl (show (j8 jX).names.lookup ("places" : Str) = some NameKind.cell by decide +kernel)⟩
 | succ k => cases h⟩
noncomputable def spPicked (tb : Addr) : Sp := fun vs H Q _ => ∃ (b a c : Addr) (tp tq : Bool) (w : Int) (ms : List Int) (pcs : List (List Int × Int)) (ts ks : List Int), vs = [.ref b, .ref a, .ref c] ∧ BoxAt H b w ms pcs ∧ AtS tp H a (ts.map V.int) ∧ AtS tq H c (ks.map V.int) ∧ ts.Nodup ∧ ts.length ≤ 100 ∧ ms.length < 64 ∧ (∀ p ∈ pcs, p.1.length < 64) ∧ (∀ k ∈ ks, 0 ≤ k ∧ k < pcs.length) ∧ ks.length ≤ 1000 ∧ TabP H tb ∧
 ∀ r H', BoxAt H' r ts.length (nmd ts ms) (pick ts pcs ks) → ExtT tb H H' → TabP H' tb → Q (.ref r) H'
noncomputable def pickedA (T : Txt mg) (CH : PySem.W.CodeHd base c0 tb) (BM : BltAt base mg) (FN : FnN P w K mg base 1 "named" "picked.<locals>.named" (jM yH) (jC yH) (j8 yH) ["lot"] ["places"] spNamed) (hr : Room 1 (XOf nPicked "picked" jX P w K mg base f (.ref c0) A outer s H0 E).A) : { t : TS // JSs (XOf nPicked "picked" jX P w K mg base f (.ref c0) A outer s H0 E) (jC jX) t } :=
 have nd := scPicked.nd
 ⟨_, (jE (jU (i := 3) nd rfl (loc_c (by decide +kernel)) (jR (call_dictL rfl) gD T.dict (by decide +kernel) (j4 (y9 (m := [none, none]) (Nc := ["place", "thing"]) rfl (ji_enum gD T.enumerate (j4 (jv 1 rfl vL) j9 j6) j6) rfl (by decide +kernel) (by decide +kernel) (jY (psc := j8 jX) (by decide +kernel)) (jS (N := nPicked) rfl rfl (by decide +kernel)) (fun cl C fp s H => jg_pair_b (i := 0) (j := 1) rfl (show (["place", "thing"] : List Str).Nodup by decide +kernel) rfl rfl (by decide +kernel) (by decide +kernel)) (fun cl C fp s H => jts_nil) (fun cl C fp s H => (kQ (j4 (jv 1 rfl (kD (by decide +kernel))) (j4 (jv 0 rfl (kD (by decide +kernel))) j9 j6) j6))) fo_call) j9 jP) jP) kJ)
     (jE (js_def (j := 4) nd rfl (loc_c (by decide +kernel)) rfl CH BM (jY (psc := j8 jX) (by decide +kernel)) rfl rfl)
     (jJ (kI (kQ (j4 (jI call_len_seq gD T.len (by decide +kernel) (j4 (jv 1 rfl vL) j9 j6) j6) (j4 (je_nest (j := 4) FN hr rfl vC (jY (psc := j8 jX) (by decide +kernel)) fs_named fsAt_picked (j4 (kX yB (jv 0 rfl vC) (jD) jT) j9 kN) kN) (j4 (jR jO gD T.tuple (by decide +kernel) (j4 (je_compN (m := [none, some 4, some 0]) (Nc := ["piece", "named", "box"]) rfl (ji_seq (jv 2 rfl vL)) rfl (by decide +kernel) (by decide +kernel) (jY (psc := j8 jX) (by decide +kernel)) (jS (N := nPicked) rfl rfl (by decide +kernel)) (fun cl C fp s H => kL (i := 0) (show (["piece", "named", "box"] : List Str).Nodup by decide +kernel) rfl (yQ (by decide +kernel))) (fun cl C fp s H => jts_nil) (fun cl C fp s H pins σ I0 hfp => (kQ (j4 (je_nestB (j := 1) I0 hfp FN hr rfl (y0 (by decide +kernel)) (jY (psc := j8 jX) (by decide +kernel)) fs_named fsAt_picked (j4 (kX ix_tup_b (kX ix_tup_b (kX ix_tup_b (jv 2 rfl (y0 (by decide +kernel))) (jD) jT) (jv 0 rfl (kD (by decide +kernel))) px_name) (jD) jT) j9 kN) kN) (j4 (kX ix_tup_b (kX ix_tup_b (kX ix_tup_b (jv 2 rfl (y0 (by decide +kernel))) (jD) jT) (jv 0 rfl (kD (by decide +kernel))) px_name) (jD) jT) j9 kN) jG))) fo_name) j9 jP) jP) j9 jG) jG) jG))))))⟩
theorem ok_picked {fd : FuncData} (F : FunC K "picked" "picked" jX f fd c0) (T : Txt mg) (CH : PySem.W.CodeHd base c0 tb) (BM : BltAt base mg) : FnOk P w K mg base CX0 2 f fd ["box", "things", "pieces"] (spPicked tb) := by
 refine F.ok scPicked (fun vs H Q E h => ?_) (fun A outer s H vs Q E hr h => ?_)
 · obtain ⟨_, _, _, _, _, _, _, _, _, _, rfl, _⟩ := h
   rfl
 · obtain ⟨b, a, c, tp, tq, w, ms, pcs, ts, ks, rfl, hB, ha, hc, nd, lts, lms, lpc, hks, lks, tab, q⟩ := h
   refine ⟨_, (pickedA T CH BM (ok_named T) hr).2.h, ?_⟩
   obtain ⟨qm, qp, ps, b1, b2, b3, b4⟩ := id hB.ex
   have pl := b4.len
   refine ⟨_, rfl, tp, a, rfl, ⟨_, ha.sq⟩, comp_enum (xs := ts.map V.int) (by rw [List.length_map, PySem.sizeLine_eq]; lia) (fun D j σ' H' zs => (∃ v v', σ' = [v, v']) ∧ Ext H H' ∧ H' D = some (.lst zs) ∧ H D = none ∧ zs.length = j ∧ ∀ i, i < j → ∃ r : Addr, zs[i]? = some (V.ref r) ∧ H' r = some (.tup [.int (ts.getD i 0), .int (i : Int)])) ?_ ?_ ?_ ?_⟩
   · intro D hD
     exact ⟨⟨_, _, rfl⟩, (Ext.refl _).new hD _, j7, hD, rfl, fun i hi => absurd hi (Nat.not_lt_zero _)⟩
   · rintro D j σ' H' zs hD ⟨_, e, h2, _, hl, _⟩
     exact ⟨(ha.ext e).sq, h2, by lia⟩
   · rintro D j σ' H' zs x X hD hx hX ⟨⟨v, v', rfl⟩, e, h2, hn, hl, hz⟩
     obtain ⟨z, hz1, rfl⟩ : ∃ z : Int, ts[j]? = some z ∧ V.int z = x := by
       rw [List.getElem?_map] at hx
       cases hq : ts[j]? with
       | none => rw [hq] at hx; cases hx
       | some z => rw [hq] at hx; cases hx; exact ⟨z, rfl, rfl⟩
     have hgd : ts.getD j 0 = z := by rw [List.getD_eq_getElem?_getD, hz1]; rfl
     refine ⟨X, _, rfl, SqT.of j7, rfl, _, _, rfl, _, _, rfl, rfl, ?_⟩
     dsimp only [kZ, yR]
     rw [if_pos rfl]
     refine ⟨_, rfl, _, rfl, by show (2 : Nat) ≤ _; decide, fun r H2 d2 e2 => ?_⟩
     have e1 : Ext H' (L2.upd H' X (.tup [.int (j : Int), .int z])) := (Ext.refl _).new hX _
     have hD2 : H2 D = some (.lst zs) := e2 _ _ (e1 _ _ h2)
     have rD : r ≠ D := fun z => by rw [z, hD2] at d2; cases d2
     refine ⟨hD2, ⟨_, _, rfl⟩, ((e.trans e1).trans e2).updNew hn _, j7, hn, by rw [List.length_append, hl]; rfl, fun i hi => ?_⟩
     by_cases hij : i = j
     · subst hij
       refine ⟨r, ?_, ?_⟩
       · rw [List.getElem?_append_right (by lia), hl, Nat.sub_self]
         rfl
       · rw [jA rD, d2, hgd]
     · obtain ⟨r', z1, z2⟩ := hz i (by lia)
       have z3 := e2 _ _ (e1 _ _ z2)
       refine ⟨r', ?_, ?_⟩
       · rw [List.getElem?_append_left (by lia)]
         exact z1
       · rw [jA (fun y => by rw [y, hD2] at z3; cases z3)]
         exact z3
   · rintro D σ' H1 zs hD ⟨_, e1, h2, hn, hl, hz⟩
     rw [List.length_map] at hl hz
     refine ⟨D, zs, plKv ts, rfl, h2, by rw [plKv_len]; exact hl, fun i k v hk => ?_, by rw [plKv_keys]; exact nodup_inl nd, fun d hd => ?_⟩
     · obtain ⟨t, z1, rfl, rfl⟩ := plKv_get hk
       obtain ⟨r, z2, z3⟩ := hz i (List.getElem?_eq_some_iff.mp z1).1
       refine ⟨r, z2, ?_⟩
       rw [z3]
       show _ = some (HO.tup [V.int t, V.int (i : Int)])
       rw [List.getD_eq_getElem?_getD, z1]
       rfl
     have e2 : Ext H (L2.upd H1 d (.dK (plKv ts))) := e1.new hd _
     have d2 : (L2.upd H1 d (.dK (plKv ts))) d = some (.dK (plKv ts)) := j7
     generalize L2.upd H1 d (.dK (plKv ts)) = H2 at e2 d2
     refine ⟨tab.ext e2, fun fa fc H3 k1 k2 k3 k4 k5 => ?_⟩
     have tab3 : TabP H3 tb := .inr ⟨fc, k3, k2⟩
     have E3 : ExtT tb H H3 := (ExtT.of e2).trans k4
     have B1 := E3.at tab b1
     have B2 := E3.at tab b2
     have B3 := E3.at tab b3
     have dd := k4.at (tab.ext e2) d2
     have aa := E3.seq tab ha
     have cc := E3.seq tab hc
     refine ⟨_, rfl, a, _, rfl, aa.or, ?_⟩
     refine ⟨fa, rfl, _, rfl, b, _, 1, _, rfl, rfl, SqT.of B1, rfl, fc, [.ref d], k1, k2, rfl, d, qm, ts, ms, rfl, rfl, nd, dd, B2, lms, fun r1 H4 d4 e4 => ?_⟩
     refine comp_seq (tp := tq) (xs := ks.map V.int) (cc.ext e4) (fun Q h => ⟨_, rfl, h⟩) (by rw [List.length_map, PySem.sizeLine_eq]; lia) (fun D j σ' H' zs => (∃ v, σ' = [v, some (.ref fa), some (.ref b)]) ∧ Ext H4 H' ∧ H' D = some (.lst zs) ∧ H4 D = none ∧ PcsAt H' zs (pick ts pcs (ks.take j))) ?_ ?_ ?_ ?_
     · intro D hD
       exact ⟨⟨_, rfl⟩, (Ext.refl _).new hD _, j7, hD, trivial⟩
     · rintro D j σ' H' zs hD ⟨_, e, h2, _, pz⟩
       refine ⟨cc.ext (e4.trans e), h2, ?_⟩
       rw [pz.len]
       unfold pick
       rw [List.length_map]
       exact List.length_take_le _ _
     · rintro D j σ' H' zs x hD hx ⟨⟨v, rfl⟩, e, h2, hn, pz⟩
       obtain ⟨k, hk, rfl⟩ : ∃ z : Int, ks[j]? = some z ∧ V.int z = x := by
         rw [List.getElem?_map] at hx
         cases hq : ks[j]? with
         | none => rw [hq] at hx; cases hx
         | some z => rw [hq] at hx; cases hx; exact ⟨z, rfl, rfl⟩
       have hkb := hks k (List.mem_of_getElem? hk)
       have e34 := e4.trans e
       obtain ⟨pa, pq, g1, g2, g3⟩ := piece_at2 b4 hkb.1 hkb.2
       have g2' := e34 _ _ (E3.at tab g2)
       have g3' := e34 _ _ (E3.at tab g3)
       have hlen : (jH pcs k).length < 64 := by
         unfold jH
         rw [getD_at (by lia)]
         exact lpc _ (List.getElem_mem _)
       dsimp only [kZ, yR]
       rw [if_pos rfl]
       refine ⟨fa, rfl, _, rfl, b, _, 2, _, rfl, rfl, SqT.of (e34 _ _ B1), rfl, _, rfl, qp, _, k, _, rfl, rfl, SqT.of (e34 _ _ B3), g1, pa, _, 0, _, rfl, rfl, SqT.of g2', rfl, fc, [.ref d], e34 _ _ k1, e34 _ _ k2, rfl, d, pq, ts, jH pcs k, rfl, rfl, nd, e34 _ _ dd, g3', hlen, fun r2 H5 d5 e5 => ?_⟩
       have e35 := e34.trans e5
       refine ⟨_, rfl, b, _, 2, _, rfl, rfl, SqT.of (e35 _ _ B1), rfl, _, rfl, qp, _, k, _, rfl, rfl, SqT.of (e35 _ _ B3), g1, pa, _, 1, _, rfl, rfl, SqT.of (e5 _ _ g2'), rfl, by show (2 : Nat) ≤ _; decide, fun r3 H6 d6 e6 => ?_⟩
       have hD6 : H6 D = some (.lst zs) := e6 _ _ (e5 _ _ h2)
       refine ⟨hD6, ⟨_, rfl⟩, ((e.trans e5).trans e6).updNew hn _, j7, hn, ?_⟩
       have ez : pick ts pcs (ks.take (j + 1)) = pick ts pcs (ks.take j) ++ [(nmd ts (jH pcs k), (pcs.getD k.toNat ([], 0)).2)] := by
         unfold pick
         rw [List.take_add_one, hk, List.map_append]
         rfl
       rw [ez]
       exact PcsAt.mono (Tups.upd hD6 _) (PcsAt.snoc (p := (nmd ts (jH pcs k), (pcs.getD k.toNat ([], 0)).2)) ⟨r3, r2, rfl, d6, e6 _ _ d5⟩ (pz.mono (e5.trans e6).tups))
     · rintro D σ' H5 zs hD ⟨_, e5, h5, hn5, pz⟩
       rw [List.length_map, List.take_length] at pz
       refine ⟨D, _, rfl, .inl ⟨SqL.of h5, fun l hl => ?_⟩⟩
       have e6 : Ext H5 (L2.upd H5 l (.tup zs)) := (Ext.refl _).new hl _
       have d6 : (L2.upd H5 l (.tup zs)) l = some (.tup zs) := j7
       generalize L2.upd H5 l (.tup zs) = H6 at e6 d6
       refine ⟨by show (3 : Nat) ≤ _; decide, fun r H7 d7 e7 => ?_⟩
       have e47 := (e5.trans e6).trans e7
       refine q r H7 ⟨r1, l, zs, ?_, e47 _ _ d4, e7 _ _ d6, pz.mono (e6.trans e7).tups⟩ (E3.trans (ExtT.of (e4.trans e47))) (tab3.ext (e4.trans e47))
       rw [d7, List.length_map]
end
end Eo
end
section
namespace Eo
open PySem L2
theorem lot_ints {H : Hp} {n : Int} {os : List Ob} {vs : List V} (h : lotB n (.tup os) = true) (hx : Ats H os vs) : vs = (os.map val).map V.int ∧ (os.map val).Pairwise (· < ·) ∧ ∀ k ∈ os.map val, 0 ≤ k ∧ k < n := by
 have h : (os.all (upB 0 (n - 1)) && (adj (os.map val)).all id) = true := h
 rw [Bool.and_eq_true] at h
 obtain ⟨h1, h2⟩ := h
 rw [List.all_eq_true] at h1
 have hi : os.all isInt = true := by
   rw [List.all_eq_true]
   intro x hx
   have := h1 x hx
   cases x with
   | int i => rfl
   | oth => cases this
   | tup r => cases this
 refine ⟨hx.allInt hi, ?_, fun k hk => ?_⟩
 · rw [List.pairwise_iff_getElem]
   intro i j hi hj hij
   have a1 := adj_get h2 (k := i) (by lia)
   have a2 := adj_le h2 (i + 1) j (by lia) hj
   have e1 : (os.map val).getD i 0 = (os.map val)[i] := getD_at hi
   have e2 : (os.map val).getD j 0 = (os.map val)[j] := getD_at hj
   lia
 · obtain ⟨o, ho, rfl⟩ := List.mem_map.mp hk
   have := h1 o ho
   cases o with
   | int i =>
     have this : (decide (0 ≤ i) && decide (i ≤ n - 1)) = true := this
     rw [Bool.and_eq_true] at this
     have q1 := of_decide_eq_true this.1
     have q2 := of_decide_eq_true this.2
     show 0 ≤ i ∧ i < n
     lia
   | oth => cases this
   | tup r => cases this
theorem lot_of_ints {n : Int} {ks : List Int} (h : ks.Pairwise (· < ·)) (hb : ∀ k ∈ ks, 0 ≤ k ∧ k < n) : lotB n (.tup (ks.map Ob.int)) = true := by
 have hv : (ks.map Ob.int).map val = ks := by rw [List.map_map]; exact List.map_id _
 show ((ks.map Ob.int).all (upB 0 (n - 1)) && (adj ((ks.map Ob.int).map val)).all id) = true
 rw [hv, Bool.and_eq_true, List.all_eq_true, List.all_eq_true]
 refine ⟨fun x hx => ?_, fun x hx => ?_⟩
 · obtain ⟨k, hk, rfl⟩ := List.mem_map.mp hx
   have := hb k hk
   show (decide (0 ≤ k) && decide (k ≤ n - 1)) = true
   rw [decide_eq_true (by lia), decide_eq_true (by lia)]
   rfl
 · unfold adj at hx
   obtain ⟨i, hi, rfl⟩ := List.mem_map.mp hx
   have hi := List.mem_range.mp hi
   refine decide_eq_true ?_
   rw [getD_at (by lia), getD_at (by lia)]
   exact List.pairwise_iff_getElem.mp h i (i + 1) (by lia) (by lia) (by lia)
theorem filt_take {α : Type} {p : α → Bool} {l : List α} {i : Nat} {x : α} (h : l[i]? = some x) : (l.take (i + 1)).filter p = (l.take i).filter p ++ (if p x = true then [x] else []) := by
 rw [List.take_add_one, h, List.filter_append]
 congr 1
 rw [Option.toList, List.filter_cons]
 split <;> rfl
theorem lot_len {w : Int} {ts : List Int} (h : ts.Pairwise (· < ·)) (b : ∀ z ∈ ts, 0 ≤ z ∧ z < w) (hw : w ≤ 16) : ts.length ≤ 16 := by
 have := ris_len ts 0 w h b
 lia
theorem things_len {w : Int} {ms : List Int} {pcs : List (List Int × Int)} (g : Good 16 32 w ms pcs) {k : Int} (h0 : 0 ≤ k) (h1 : k < pcs.length) : (jH pcs k).length ≤ 16 := by
 have := g.at (k := k.toNat) (by lia)
 exact lot_len this.lot.ris this.lot.bnd g.w1
theorem in_comp {K : W.Frag} {m : List (Option Nat)} {σ : St} {H : Hp} {Q : VK} {q t : Addr} {tp : Bool} {lot ts : List Int} (hq : H q = some (.tup (lot.map V.int))) (ht : AtS tp H t (ts.map V.int)) (hl : lot.length ≤ 1000) (h0 : blkσ m σ = [none, some (.ref t)])
   (k : ∀ D H', H' D = some (.lst ((lot.map fun x => decide (x ∈ ts)).map V.bl)) → Ext H H' → H D = none → Q (.ref D) H') : yW m (kZ 0) yR (tOp (rIn K false) (tVar 0) (tVar 1)) σ Q (Itt K q) H := by
 refine comp_tup (xs := lot.map V.int) (by rw [List.length_map, PySem.sizeLine_eq]; lia) (fun D j σ' H' zs => (∃ v, σ' = [v, some (.ref t)]) ∧ Ext H H' ∧ H' D = some (.lst zs) ∧ H D = none ∧ zs = ((lot.take j).map fun x => decide (x ∈ ts)).map V.bl) ?_ ?_ ?_ ?_
 · intro D hD
   exact ⟨⟨_, h0⟩, (Ext.refl _).new hD _, j7, hD, rfl⟩
 · rintro D j σ' H' zs hD ⟨_, e, h2, _, rfl⟩
   refine ⟨e _ _ hq, h2, ?_⟩
   rw [List.length_map, List.length_map]
   exact List.length_take_le _ _
 · rintro D j σ' H' zs x hD hx ⟨⟨v, rfl⟩, e, h2, hn, rfl⟩
   obtain ⟨z, hz, rfl⟩ : ∃ z : Int, lot[j]? = some z ∧ V.int z = x := by
     rw [List.getElem?_map] at hx
     cases hq : lot[j]? with
     | none => rw [hq] at hx; cases hx
     | some z => rw [hq] at hx; cases hx; exact ⟨z, rfl, rfl⟩
   dsimp only [kZ, yR]
   rw [if_pos rfl]
   refine ⟨_, rfl, _, rfl, t, _, rfl, (ht.ext e).or, rfl, flat_ints _, h2, ⟨_, rfl⟩, e.updNew hn _, j7, hn, ?_⟩
   have : lot.take (j + 1) = lot.take j ++ [z] := by
     rw [List.take_add_one, hz]
     rfl
   rw [this, List.map_append, List.map_append]
   show _ ++ [V.bl (inV (.int z) (ts.map V.int))] = _
   rw [inV_ints]
   rfl
 · rintro D σ' H' zs hD ⟨_, e, h2, hn, rfl⟩
   rw [List.length_map, List.take_length] at h2
   exact k D H' h2 e hn
theorem any_id {lot : List Int} {p : Int → Bool} : (lot.map p).any id = lot.any p := by rw [List.any_map]; rfl
theorem pc_lt {w : Int} {ms : List Int} {pcs : List (List Int × Int)} (g : Good 16 32 w ms pcs) : ∀ p ∈ pcs, p.1.length < 64 := fun p hp => by
 have := g.pg p hp
 have := lot_len this.lot.ris this.lot.bnd g.w1
 lia
theorem idx_lt {ts : List Int} (h : ts.Pairwise (· < ·)) {a b : Int} (ha : a ∈ ts) (hb : b ∈ ts) (hab : a < b) : ts.idxOf a < ts.idxOf b := by
 have ia := List.idxOf_lt_length_iff.mpr ha
 have ib := List.idxOf_lt_length_iff.mpr hb
 have ea := List.getElem_idxOf ia
 have eb := List.getElem_idxOf ib
 rcases Nat.lt_trichotomy (ts.idxOf a) (ts.idxOf b) with q | q | q
 · exact q
 · exfalso
   have e2 : ts[ts.idxOf a] = ts[ts.idxOf b] := by congr 1
   lia
 · exfalso
   have := List.pairwise_iff_getElem.mp h _ _ ib ia q
   lia
theorem plcs_ris {ts lot : List Int} (h : ts.Pairwise (· < ·)) (hl : lot.Pairwise (· < ·)) : (plcs ts lot).Pairwise (· < ·) := by
 unfold plcs
 rw [List.pairwise_map]
 refine List.Pairwise.imp_of_mem (R := fun a b => a < b) (fun {a b} ha hb hab => ?_) (hl.sublist List.filter_sublist)
 have := idx_lt h (of_decide_eq_true (List.mem_filter.mp ha).2) (of_decide_eq_true (List.mem_filter.mp hb).2) hab
 lia
theorem nmd_ris {ts lot : List Int} (h : ts.Pairwise (· < ·)) (hl : lot.Pairwise (· < ·)) : nmd ts lot = plcs ts lot := srt_id ((plcs_ris h hl).imp fun h => by lia)
theorem idxOf_get {ts : List Int} {t : Int} (h : t ∈ ts) : ts[ts.idxOf t]? = some t ∧ ∀ m, m < ts.idxOf t → ts[m]? ≠ some t := by
 have hi := List.idxOf_lt_length_iff.mpr h
 refine ⟨by rw [List.getElem?_eq_getElem hi, List.getElem_idxOf], fun m hm e => ?_⟩
 have hm' : m < ts.length := by lia
 rw [List.getElem?_eq_getElem hm'] at e
 have := List.not_of_lt_findIdx (p := (· == t)) (xs := ts) (i := m) (by unfold List.idxOf at hm; exact hm)
 rw [Option.some.inj e] at this
 simp at this
theorem idxIf_comp {K : W.Frag} {m : List (Option Nat)} {σ : St} {H : Hp} {Q : VK} {q t : Addr} {lot ts : List Int} (hq : H q = some (.tup (lot.map V.int))) (ht : H t = some (.tup (ts.map V.int))) (hl : lot.length ≤ 1000) (h0 : blkσ m σ = [none, some (.ref t)])
   (k : ∀ D H', H' D = some (.lst ((plcs ts lot).map V.int)) → Ext H H' → H D = none → Q (.ref D) H') : yW m (kZ 0) (tB (tOp (rIn K false) (tVar 0) (tVar 1))) (tBMT rIndexT (tVar 1) (tCons (tVar 0) tNil)) σ Q (Itt K q) H := by
 refine comp_tup (xs := lot.map V.int) (by rw [List.length_map, PySem.sizeLine_eq]; lia) (fun D j σ' H' zs => (∃ v, σ' = [v, some (.ref t)]) ∧ Ext H H' ∧ H' D = some (.lst zs) ∧ H D = none ∧ zs = (plcs ts (lot.take j)).map V.int) ?_ ?_ ?_ ?_
 · intro D hD
   exact ⟨⟨_, h0⟩, (Ext.refl _).new hD _, j7, hD, rfl⟩
 · rintro D j σ' H' zs hD ⟨_, e, h2, _, rfl⟩
   refine ⟨e _ _ hq, h2, ?_⟩
   rw [List.length_map]
   exact Nat.le_trans (plcs_len _ _) (List.length_take_le _ _)
 · rintro D j σ' H' zs x hD hx ⟨⟨v, rfl⟩, e, h2, hn, rfl⟩
   obtain ⟨z, hz, rfl⟩ : ∃ z : Int, lot[j]? = some z ∧ V.int z = x := by
     rw [List.getElem?_map] at hx
     cases hq : lot[j]? with
     | none => rw [hq] at hx; cases hx
     | some z => rw [hq] at hx; cases hx; exact ⟨z, rfl, rfl⟩
   have hp : plcs ts (lot.take (j + 1)) = plcs ts (lot.take j) ++ (if z ∈ ts then [((ts.idxOf z : Nat) : Int)] else []) := by
     unfold plcs
     rw [List.take_add_one, hz, List.filter_append, List.map_append]
     congr 1
     by_cases hzz : z ∈ ts <;> simp [hzz]
   dsimp only [kZ]
   refine ⟨_, rfl, _, rfl, t, _, rfl, .inr (SqT.of (e _ _ ht)), rfl, flat_ints _, _, rfl, ?_⟩
   rw [inV_ints]
   refine ite2 (fun hzz => ?_) (fun hzz => ?_)
   · have hzt : z ∈ ts := of_decide_eq_true hzz
     refine ⟨_, rfl, ⟨t, _, rfl, e _ _ ht⟩, _, rfl, t, ts, z, ts.idxOf z, rfl, rfl, e _ _ ht, (idxOf_get hzt).1, (idxOf_get hzt).2, h2, ⟨_, rfl⟩, e.updNew hn _, j7, hn, ?_⟩
     rw [hp, if_pos hzt, List.map_append]
     rfl
   · have hzt : ¬ z ∈ ts := fun y => hzz (decide_eq_true y)
     refine ⟨⟨_, rfl⟩, e, h2, hn, ?_⟩
     rw [hp, if_neg hzt, List.append_nil]
 · rintro D σ' H' zs hD ⟨_, e, h2, hn, rfl⟩
   rw [List.length_map, List.take_length] at h2
   exact k D H' h2 e hn
end Eo
end
section
namespace Eo
open PySem L2
section
variable {P : Program} {w : World} {K : W.Frag} {mg : Str → Option Value} {base : Heap}
variable {f fW : Addr} {fdW : FuncData} {cdv : Value} {A : Around} {outer : List Env} {s : Shared} {H0 : Hp} {E : XK}
noncomputable abbrev nOthers : List Str := ["e", "own", "kinds"]
theorem scOthers : FnScope nOthers ["e", "own"] (j8 yF) := ⟨rfl, rfl, rfl, by decide +kernel, rfl, by decide +kernel, by decide +kernel⟩
noncomputable abbrev refusals : List Str := ["Held", "NoCovering", "NoDeed", "NoOrder", "NoPiece", "NoRow", "NoText", "NoThing", "NoWeight", "TooMany"]
structure Kinds (K : W.Frag) (mg : Str → Option Value) (C : Addr) (cl : Nat → Addr) (ks : Nat → Bool) : Prop where
 ei : ExcIs K C
 ml : ∀ i x, refusals[i]? = some x → mg x = some (.ref (cl i))
 is_ : ∀ i, i < 10 → PySem.W.kitOne K (.ref C) (.ref (cl i)) = some (ks i)
 ve : PySem.W.kitOne K (.ref C) (.type "ValueError") = some true
noncomputable def oneOf (own : Int) (n : Nat) : List Tr := (List.range n).map fun (i : Nat) => Tr.bl (decide ((i : Int) = own))
noncomputable def spOthers (C : Addr) (ks : Nat → Bool) : Addr → Sp := fun x vs H Q _ => ∃ own : Int, vs = [.ref x, .int own] ∧ H x = some (.ext (excP x C)) ∧ ∀ H', Ext H H' → Q (.bl (eqTs [.bl (ks 0), .bl (ks 1), .bl (ks 2), .bl (ks 3), .bl (ks 4), .bl (ks 5), .bl (ks 6), .bl (ks 7), .bl (ks 8), .bl (ks 9), .bl false] (oneOf own 11))) H'
noncomputable def othersA {C x : Addr} {cl : Nat → Addr} (T : Txt mg) (EI : ExcIs K C) (ML : ∀ i x, refusals[i]? = some x → mg x = some (.ref (cl i))) (hr : RoomS 0 (cxS P w K mg base nOthers "_law_others" (j8 yF) f cdv A outer s H0 E).A x) : { t : TS // JSs (cxS P w K mg base nOthers "_law_others" (j8 yF) f cdv A outer s H0 E) (jC yF) t } :=
 have nd := scOthers.nd
 ⟨_, (jE (jU (i := 2) nd rfl (loc_s (by decide +kernel)) (je_lstU (j4 (jI (jQ EI) (gl_s (by decide +kernel)) T.isinstance (by decide +kernel) (j4 (jv 0 rfl (yO (by decide +kernel))) (j4 (je_glob (v := .ref (cl 0)) (gl_s (by decide +kernel)) (ML 0 _ rfl) rfl) j9 j6) j6) j6) (j4 (jI (jQ EI) (gl_s (by decide +kernel)) T.isinstance (by decide +kernel) (j4 (jv 0 rfl (yO (by decide +kernel))) (j4 (je_glob (v := .ref (cl 1)) (gl_s (by decide +kernel)) (ML 1 _ rfl) rfl) j9 j6) j6) j6) (j4 (jI (jQ EI) (gl_s (by decide +kernel)) T.isinstance (by decide +kernel) (j4 (jv 0 rfl (yO (by decide +kernel))) (j4 (je_glob (v := .ref (cl 2)) (gl_s (by decide +kernel)) (ML 2 _ rfl) rfl) j9 j6) j6) j6) (j4 (jI (jQ EI) (gl_s (by decide +kernel)) T.isinstance (by decide +kernel) (j4 (jv 0 rfl (yO (by decide +kernel))) (j4 (je_glob (v := .ref (cl 3)) (gl_s (by decide +kernel)) (ML 3 _ rfl) rfl) j9 j6) j6) j6) j9 jG) jG) jG) jG)) sw_lst)
     (jE (jU (i := 2) nd rfl (loc_s (by decide +kernel)) (kY op_catLU (jv 2 rfl (yO (by decide +kernel))) (je_lstU (j4 (jI (jQ EI) (gl_s (by decide +kernel)) T.isinstance (by decide +kernel) (j4 (jv 0 rfl (yO (by decide +kernel))) (j4 (je_glob (v := .ref (cl 4)) (gl_s (by decide +kernel)) (ML 4 _ rfl) rfl) j9 j6) j6) j6) (j4 (jI (jQ EI) (gl_s (by decide +kernel)) T.isinstance (by decide +kernel) (j4 (jv 0 rfl (yO (by decide +kernel))) (j4 (je_glob (v := .ref (cl 5)) (gl_s (by decide +kernel)) (ML 5 _ rfl) rfl) j9 j6) j6) j6) (j4 (jI (jQ EI) (gl_s (by decide +kernel)) T.isinstance (by decide +kernel) (j4 (jv 0 rfl (yO (by decide +kernel))) (j4 (je_glob (v := .ref (cl 6)) (gl_s (by decide +kernel)) (ML 6 _ rfl) rfl) j9 j6) j6) j6) (j4 (jI (jQ EI) (gl_s (by decide +kernel)) T.isinstance (by decide +kernel) (j4 (jv 0 rfl (yO (by decide +kernel))) (j4 (je_glob (v := .ref (cl 7)) (gl_s (by decide +kernel)) (ML 7 _ rfl) rfl) j9 j6) j6) j6) j9 jG) jG) jG) jG))) sw_bin)
     (jE (jU (i := 2) nd rfl (loc_s (by decide +kernel)) (kY op_catLU (jv 2 rfl (yO (by decide +kernel))) (je_lstU (j4 (jI (jQ EI) (gl_s (by decide +kernel)) T.isinstance (by decide +kernel) (j4 (jv 0 rfl (yO (by decide +kernel))) (j4 (je_glob (v := .ref (cl 8)) (gl_s (by decide +kernel)) (ML 8 _ rfl) rfl) j9 j6) j6) j6) (j4 (jI (jQ EI) (gl_s (by decide +kernel)) T.isinstance (by decide +kernel) (j4 (jv 0 rfl (yO (by decide +kernel))) (j4 (je_glob (v := .ref (cl 9)) (gl_s (by decide +kernel)) (ML 9 _ rfl) rfl) j9 j6) j6) j6) (j4 (je_not (jI (jQ EI) (gl_s (by decide +kernel)) T.isinstance (by decide +kernel) (j4 (jv 0 rfl (yO (by decide +kernel))) (j4 (je_bltn (v := .ty "ValueError") (gl_s (by decide +kernel)) T.ValueError (by decide +kernel) rfl) j9 j6) j6) j6)) j9 se_un) jG) jG))) sw_bin)
     (jJ (kI (je_cmpR (op_eqLL hr.units101) (jv 2 rfl (yO (by decide +kernel))) (je_compS (m := [none, some 1]) (Nc := ["place", "own"]) hr.hd (ji_rangeS (gl_s (by decide +kernel)) T.range (j4 (jD) j9 jF) jF) rfl (by decide +kernel) (by decide +kernel) (jY (psc := j8 yF) (by decide +kernel)) (jS (N := nOthers) rfl rfl (by decide +kernel)) (fun cl C fp s H => kL (i := 0) (show (["place", "own"] : List Str).Nodup by decide +kernel) rfl (yQ (by decide +kernel))) (fun cl C fp s H => jts_nil) (fun cl C fp s H => (je_cmpR op_eq (jv 0 rfl (kD (by decide +kernel))) (jv 1 rfl (y0 (by decide +kernel))) (kO _))) fo_call) (kO _)))))))⟩
end
end Eo
namespace Eo
open PySem L2
theorem bls_at {H : Hp} : ∀ bs : List Bool, TsAt H (bs.map Tr.bl) (bs.map V.bl)
 | [] => by rw [List.map_nil, List.map_nil, TsAt]
 | b :: r => by
   rw [List.map_cons, List.map_cons, TsAt]
   exact ⟨_, _, rfl, by rw [TAt], bls_at r⟩
theorem bls_deps : ∀ bs : List Bool, deps (bs.map Tr.bl) = 0
 | [] => by rw [List.map_nil, deps]
 | b :: r => by
   rw [List.map_cons, deps, bls_deps r, dep]
   · rfl
   · intro _ z; cases z
   · intro _ z; cases z
section
variable {P : Program} {w : World} {K : W.Frag} {mg : Str → Option Value} {base : Heap}
variable {f C : Addr} {cl : Nat → Addr} {ks : Nat → Bool}
theorem ok_others {fd : FuncData} (F : Fun K "_law_others" "_law_others" yF f fd) (T : Txt mg) (k : Kinds K mg C cl ks) : FnS P w K mg base 1 f fd ["e", "own"] (spOthers C ks) := by
 refine fn_ofS F scOthers (fun x vs H Q E h => ?_) (fun cdv A outer s H vs Q E x hr h => ?_)
 · obtain ⟨_, rfl, _⟩ := h
   rfl
 · obtain ⟨own, rfl, hx, q⟩ := h
   refine ⟨_, (othersA T k.ei k.ml hr).2.h, ?_⟩
   have ki := k.is_
   have rr : ∀ {a : Addr} (v : Value), RelV (.ref a) v → v = .ref a := fun v h => h
   refine ⟨_, rfl, x, _, _, _, rfl, hx, rr, ki 0 (by decide), _, rfl, x, _, _, _, rfl, hx, rr, ki 1 (by decide), _, rfl, x, _, _, _, rfl, hx, rr, ki 2 (by decide), _, rfl, x, _, _, _, rfl, hx, rr, ki 3 (by decide), by show (4 : Nat) ≤ _; decide, fun l1 H1 d1 e1 _ => ?_⟩
   have hx := e1 _ _ hx
   refine ⟨_, rfl, _, rfl, x, _, _, _, rfl, hx, rr, ki 4 (by decide), _, rfl, x, _, _, _, rfl, hx, rr, ki 5 (by decide), _, rfl, x, _, _, _, rfl, hx, rr, ki 6 (by decide), _, rfl, x, _, _, _, rfl, hx, rr, ki 7 (by decide), by show (4 : Nat) ≤ _; decide, fun l2 H2 d2 e2 _ => ?_⟩
   refine ⟨l1, l2, _, _, rfl, rfl, e2 _ _ d1, d2, by show (8 : Nat) ≤ _; decide, fun l3 H3 d3 e3 _ => ?_⟩
   have hx := e3 _ _ (e2 _ _ hx)
   refine ⟨_, rfl, _, rfl, x, _, _, _, rfl, hx, rr, ki 8 (by decide), _, rfl, x, _, _, _, rfl, hx, rr, ki 9 (by decide), _, rfl, x, _, _, _, rfl, hx, (fun _ h => h), k.ve, _, rfl, by show (3 : Nat) ≤ _; decide, fun l4 H4 d4 e4 _ => ?_⟩
   refine ⟨l3, l4, _, _, rfl, rfl, e4 _ _ d3, d4, by show (11 : Nat) ≤ _; decide, fun l5 H5 d5 e5 _ => ?_⟩
   have hx := e5 _ _ (e4 _ _ hx)
   have e05 : Ext H H5 := (((e1.trans e2).trans e3).trans e4).trans e5
   refine ⟨_, rfl, 11, rfl, by decide, by decide, comp_rngS (n := 11) (by decide) (fun D j σ' H' zs => (∃ v, σ' = [v, some (.int own)]) ∧ Ext H5 H' ∧ H' D = some (.lst zs) ∧ H5 D = none ∧ zs = ((List.range j).map fun (i : Nat) => decide ((i : Int) = own)).map V.bl) ?_ ?_ ?_ ?_⟩
   · intro D hD
     exact ⟨⟨_, rfl⟩, (Ext.refl _).new hD _, j7, hD, rfl⟩
   · rintro D j σ' H' zs hD hj ⟨_, e, h2, _, rfl⟩
     refine ⟨⟨C, e _ _ hx⟩, h2, ?_⟩
     rw [List.length_map, List.length_map, List.length_range]
     exact Nat.le_refl _
   · rintro D j σ' H' zs hD hj ⟨⟨v, rfl⟩, e, h2, hn, rfl⟩
     dsimp only [kZ, yR]
     rw [if_pos rfl]
     refine ⟨_, rfl, _, rfl, rfl, h2, ⟨_, rfl⟩, e.updNew hn _, j7, hn, ?_⟩
     have ed : decide (V.int (0 + (j : Int)) = V.int own) = decide ((j : Int) = own) := by
       rw [Int.zero_add]
       exact decide_eq_decide.mpr ⟨fun z => V.int.inj z, fun z => by rw [z]⟩
     rw [ed, List.range_succ, List.map_append, List.map_append]
     rfl
   · rintro D σ' H' zs hD ⟨_, e, h2, hn, rfl⟩
     refine ⟨_, oneOf own 11, ⟨l5, _, rfl, e _ _ d5, bls_at [ks 0, ks 1, ks 2, ks 3, ks 4, ks 5, ks 6, ks 7, ks 8, ks 9, false]⟩, ⟨D, _, rfl, h2, ?_⟩, ?_, q H' (e05.trans e)⟩
     · have := bls_at (H := H') ((List.range 11).map fun (i : Nat) => decide ((i : Int) = own))
       rw [List.map_map] at this
       exact this
     · rw [bls_deps]
       exact Nat.zero_le _
end
end Eo
end
section
namespace L2
open PySem PySem.Spec PyProof.Rows
theorem FnOk.never {P : Program} {w : World} {K : W.Frag} {mg : Str → Option Value} {base : Heap} {CX : CXT} {k : Nat} {f : Addr} {fd : FuncData} {ps : List Str} : FnOk P w K mg base CX k f fd ps (fun _ _ _ _ => False) :=
 ⟨fun _ _ _ _ h => h.elim, fun _ _ _ _ _ _ _ _ _ _ _ _ _ h => h.elim⟩
end L2
namespace Eo
open PySem L2
section
variable {P : Program} {w : World} {K : W.Frag} {mg : Str → Option Value} {base : Heap}
variable {f fL fK fH fM fN tb cE : Addr} {fdL fdK fdH fdM fdN : FuncData} {cdv : Value} {A : Around} {outer : List Env} {s : Shared} {H0 : Hp} {E : XK}
noncomputable abbrev nCommon : List Str := ["one", "other"]
theorem scCommon : FnScope nCommon ["one", "other"] (j8 sCommon) := ⟨rfl, rfl, rfl, by decide +kernel, rfl, by decide +kernel, by decide +kernel⟩
noncomputable def spCommon : Sp := fun vs H Q _ => ∃ (q t : Addr) (lot ts : List Int), vs = [.ref q, .ref t] ∧ H q = some (.tup (lot.map V.int)) ∧ H t = some (.tup (ts.map V.int)) ∧ lot.length ≤ 1000 ∧ ∀ H', Ext H H' → Q (.bl (lot.any fun x => decide (x ∈ ts))) H'
noncomputable def commonA (T : Txt mg) : { t : TS // JSs (XOf nCommon "have_common" sCommon P w K mg base f cdv A outer s H0 E) (jC sCommon) t } :=
 have nd := scCommon.nd
 ⟨_, (jJ (kI (jI (call_anyL rfl) gD T.any (by decide +kernel) (j4 (y9 (m := [none, some 1]) (Nc := ["thing", "other"]) rfl (ji_tup (jv 0 rfl vL)) rfl (by decide +kernel) (by decide +kernel) (jY (psc := j8 sCommon) (by decide +kernel)) (jS (N := nCommon) rfl rfl (by decide +kernel)) (fun cl C fp s H => kL (i := 0) (show (["thing", "other"] : List Str).Nodup by decide +kernel) rfl (yQ (by decide +kernel))) (fun cl C fp s H => jts_nil) (fun cl C fp s H => (je_cmpR op_in_b (jv 0 rfl (kD (by decide +kernel))) (jv 1 rfl (y0 (by decide +kernel))) nm_name)) fo_name) j9 jP) jP)))⟩
theorem ok_common {fd : FuncData} (F : Fun K "have_common" "have_common" sCommon f fd) (T : Txt mg) : FnOk P w K mg base CX0 1 f fd ["one", "other"] spCommon := by
 refine F.ok scCommon (fun vs H Q E h => ?_) (fun cdv A outer s H vs Q E hr h => ?_)
 · obtain ⟨_, _, _, _, rfl, _⟩ := h
   rfl
 · obtain ⟨q, t, lot, ts, rfl, hq, ht, hl, k⟩ := h
   refine ⟨_, (commonA T).2.h, ?_⟩
   refine ⟨_, rfl, q, rfl, ⟨_, SqT.of hq⟩, in_comp (tp := true) hq ht hl rfl fun D H1 k1 e1 n1 => ?_⟩
   refine ⟨D, _, rfl, SqL.of k1, ?_⟩
   rw [any_id]
   exact k H1 e1
noncomputable abbrev nNarrow : List Str := ["box", "lot"]
theorem scNarrow : FnScope nNarrow ["box", "lot"] (j8 yG) := ⟨rfl, rfl, rfl, by decide +kernel, rfl, by decide +kernel, by decide +kernel⟩
noncomputable def obs (o : Ob) : List Int := match o with
 | .tup os => os.map val
 | _ => []
noncomputable def lkP (pcs : List (List Int × Int)) (ts : List Int) : List Int := (upto pcs.length).filter fun k => (jH pcs k).any fun t => decide (t ∈ ts)
noncomputable def jZ (tb : Addr) : Sp := fun vs H Q E => ∃ (b : Addr) (v : V) (o : Ob) (w : Int) (ms : List Int) (pcs : List (List Int × Int)), vs = [.ref b, v] ∧ BoxAt H b w ms pcs ∧ Good 16 32 w ms pcs ∧ At H o v ∧ TabP H tb ∧
 (lotB w o = true → ∀ r H', BoxAt H' r (obs o).length (nmd (obs o) ms) (pick (obs o) pcs (lkP pcs (obs o))) → ExtT tb H H' → TabP H' tb → Q (.ref r) H') ∧ (lotB w o = false → ∀ a H', Ext H H' → E (.ref a) (some a) H')
noncomputable abbrev XOfX (C : Addr) (N : List Str) (q : Str) (st : Stmt) (P : Program) (w : World) (K : W.Frag) (mg : Str → Option Value) (base : Heap) (f : Addr) (cdv : Value) (A : Around) (outer : List Env) (s : Shared) (H : Hp) (E : XK) : Cx := cxOf (CXX P w C) P w K mg base N q (j8 st) f cdv A outer s H E
noncomputable def narrowA (T : Txt mg) (CL : Can P w K mg base "is_lot" 3 fL fdL ["thing", "many"] (spB2 lotB)) (CK : Can P w K mg base "picked" 2 fK fdK ["box", "things", "pieces"] (spPicked tb)) (CH : Can P w K mg base "have_common" 1 fH fdH ["one", "other"] spCommon) (EK : ExcK K cE) (MX : mg "NoThing" = some (.ref cE)) (hr : Room 3 (XOfX cE nNarrow "narrowed" yG P w K mg base f cdv A outer s H0 E).nox.A) : { t : TS // JSs (XOfX cE nNarrow "narrowed" yG P w K mg base f cdv A outer s H0 E) (jC yG) t } :=
 have nd := scNarrow.nd
 ⟨_, (jE (yT (JT.nox (jt_not (jt_val (CL.je (hr.mono (by decide)) (gl_x (by decide +kernel)) (j4 (jv 1 rfl (vis_xc (by decide +kernel))) (j4 (kX yB (jv 0 rfl (vis_x (by decide +kernel))) (jD) jT) j9 kN) j6) j6) tv_call))) (jJ (js_raiseX rfl EK (gl_x (by decide +kernel)) MX (j4 je_str j9 jF))) y8) (JSs.nox (jJ (kI (CK.je (hr.mono (by decide)) (gl_x (by decide +kernel)) (j4 (jv 0 rfl (vis_x (by decide +kernel))) (j4 (jv 1 rfl (vis_xc (by decide +kernel))) (j4 (y9 (m := [none, none, some 1]) (Nc := ["number", "piece", "lot"]) rfl (ji_enum (gl_x (by decide +kernel)) T.enumerate (j4 (kX yB (jv 0 rfl (vis_x (by decide +kernel))) (jD) jT) j9 kN) kN) rfl (by decide +kernel) (by decide +kernel) (jY (psc := j8 yG) (by decide +kernel)) (jS (N := nNarrow) rfl rfl (by decide +kernel)) (fun cl C fp s H => jg_pair_b (i := 0) (j := 1) rfl (show (["number", "piece", "lot"] : List Str).Nodup by decide +kernel) rfl rfl (by decide +kernel) (by decide +kernel)) (fun cl C fp s H => jts_one (jt_val (CH.je (hr.mono (by decide)) (gl_b (by decide +kernel)) (j4 (kX ix_tup_b (jv 1 rfl (kD (by decide +kernel))) (jD) jT) (j4 (jv 2 rfl (y0 (by decide +kernel))) j9 j6) kN) kN) tv_call)) (fun cl C fp s H => (jv 0 rfl (kD (by decide +kernel)))) fo_call) j9 jP) j6) j6) j6)))))⟩
theorem lkP_bnd {pcs : List (List Int × Int)} {ts : List Int} : ∀ k ∈ lkP pcs ts, 0 ≤ k ∧ k < pcs.length := fun k hk => (upto_ris pcs.length).bnd k (List.mem_filter.mp hk).1
theorem lkP_len (pcs : List (List Int × Int)) (ts : List Int) : (lkP pcs ts).length ≤ pcs.length := by
 have := List.length_filter_le (fun k => (jH pcs k).any fun t => decide (t ∈ ts)) (upto pcs.length)
 rw [upto_len] at this
 exact this
theorem ok_narrowX {fd : FuncData} (F : Fun K "narrowed" "narrowed" yG f fd) (T : Txt mg) (CL : Can P w K mg base "is_lot" 3 fL fdL ["thing", "many"] (spB2 lotB)) (CK : Can P w K mg base "picked" 2 fK fdK ["box", "things", "pieces"] (spPicked tb)) (CH : Can P w K mg base "have_common" 1 fH fdH ["one", "other"] spCommon) (EK : ExcK K cE) (MX : mg "NoThing" = some (.ref cE)) : FnOk P w K mg base (CXX P w cE) 4 f fd ["box", "lot"] (jZ tb) := by
 refine F.okX scNarrow (fun vs H Q E h => ?_) (fun cdv A outer s H vs Q E hr h => ?_)
 · obtain ⟨_, _, _, _, _, _, rfl, _⟩ := h
   rfl
 · obtain ⟨b, v, o, w, ms, pcs, rfl, hB, g, hAt, tab, q, qE⟩ := h
   refine ⟨_, (narrowA T CL CK CH EK MX hr).2.h, ?_⟩
   obtain ⟨qm, qp, ps, b1, b2, b3, b4⟩ := id hB.ex
   have pl := b4.len
   have w0 := g.w0
   have w1 := g.w1
   have gpl := g.pl
   refine ⟨_, rfl, _, rfl, b, _, 0, _, rfl, rfl, SqT.of b1, rfl, v, o, _, rfl, hAt, fun H1 e1 => ⟨_, rfl, ?_⟩⟩
   cases hlot : lotB w o with
   | false => exact iteT ⟨by show (1 : Nat) ≤ _; decide, fun a => qE hlot a H1 e1⟩
   | true =>
   refine iteF ?_
   obtain ⟨os, a, vs, rfl, rfl, ha, hvl, hats⟩ := hAt.tupOf (by cases o with | tup os => rfl | int i => cases hlot | oth => cases hlot)
   obtain ⟨hvs, kris, kbnd⟩ := lot_ints hlot hats
   have q := q hlot
   have eo : obs (.tup os) = os.map val := rfl
   rw [eo] at q
   generalize hks : os.map val = ts at hvs kris kbnd q
   subst hvs
   have ha1 := e1 _ _ ha
   refine ⟨_, rfl, _, rfl, _, rfl, b, _, 2, _, rfl, rfl, SqT.of (e1 _ _ b1), rfl, true, qp, rfl, ⟨_, SqT.of (e1 _ _ b3)⟩, comp_enum (xs := ps) (by rw [pl, PySem.sizeLine_eq]; lia) (fun D j σ' H' zs => (∃ v v', σ' = [v, v', some (.ref a)]) ∧ Ext H1 H' ∧ H' D = some (.lst zs) ∧ H1 D = none ∧ zs = (((upto pcs.length).take j).filter fun k => (jH pcs k).any fun x => decide (x ∈ ts)).map V.int) ?_ ?_ ?_ ?_⟩
   · intro D hD
     exact ⟨⟨_, _, rfl⟩, (Ext.refl _).new hD _, j7, hD, rfl⟩
   · rintro D j σ' H' zs hD ⟨_, e, h2, _, rfl⟩
     refine ⟨SqT.of (e _ _ (e1 _ _ b3)), h2, ?_⟩
     rw [List.length_map]
     exact Nat.le_trans (List.length_filter_le _ _) (List.length_take_le _ _)
   · rintro D j σ' H' zs x X hD hx hX ⟨⟨v, v', rfl⟩, e, h2, hn, rfl⟩
     have hj : j < pcs.length := by
       rw [← pl]
       exact (List.getElem?_eq_some_iff.mp hx).1
     obtain ⟨x', hx', pa, pq, rfl, c1, c2⟩ := b4.get hj
     rw [hx] at hx'
     cases hx'
     have e7 : Ext H' (L2.upd H' X (.tup [.int (j : Int), .ref pa])) := (Ext.refl _).new hX _
     have E7 := (e1.trans e).trans e7
     refine ⟨X, _, rfl, SqT.of j7, rfl, _, _, rfl, _, _, rfl, rfl, ?_⟩
     dsimp only [kZ]
     have ll : (pcs.getD j ([], 0)).1.length ≤ 16 := by
       have := things_len g (k := j) (by lia) (by lia)
       unfold jH at this
       rw [Int.toNat_natCast] at this
       exact this
     refine ⟨_, rfl, pa, _, 0, _, rfl, rfl, SqT.of (E7 _ _ c1), rfl, _, rfl, pq, a, _, ts, rfl, E7 _ _ c2, e7 _ _ (e _ _ ha1), by lia, fun H8 e8 => ⟨_, rfl, ?_⟩⟩
     have h8 := e8 _ _ (e7 _ _ h2)
     have et : jH pcs (j : Int) = (pcs.getD j ([], 0)).1 := by unfold jH; rw [Int.toNat_natCast]
     have E8 := (e.trans e7).trans e8
     rw [← et, filt_take (upto_get hj)]
     refine ite2 (fun hz => ?_) (fun hz => ?_)
     · refine ⟨_, rfl, h8, ⟨_, _, rfl⟩, E8.updNew hn _, j7, hn, ?_⟩
       rw [if_pos hz, List.map_append]
       rfl
     · refine ⟨⟨_, _, rfl⟩, E8, h8, hn, ?_⟩
       rw [if_neg hz, List.append_nil]
   · rintro D σ' H7 zs hD ⟨_, e7, h7, n7, rfl⟩
     have hap : ((upto pcs.length).take ps.length).filter (fun k => (jH pcs k).any fun x => decide (x ∈ ts)) = lkP pcs ts := by
       rw [pl, List.take_of_length_le (by rw [upto_len]; exact Nat.le_refl _)]
       rfl
     rw [hap] at h7
     have E7 := e1.trans e7
     have tln := lot_len kris kbnd w1
     have aln := lkP_len pcs ts
     refine ⟨b, a, D, true, false, w, ms, pcs, ts, lkP pcs ts, rfl, hB.mono E7.tups, E7 _ _ ha, h7, kris.imp fun h => by lia, by lia, ?_, pc_lt g, lkP_bnd, by lia, tab.ext E7, fun r1 H8 B8 e8 t8 => ?_⟩
     · have := lot_len g.mr.ris g.mr.bnd w1
       lia
     exact q r1 H8 B8 ((ExtT.of E7).trans e8) t8
noncomputable abbrev nBar : List Str := ["box", "lot"]
theorem scBar : FnScope nBar ["box", "lot"] (j8 sBar) := ⟨rfl, rfl, rfl, by decide +kernel, rfl, by decide +kernel, by decide +kernel⟩
noncomputable def spBarX (tb : Addr) : Sp := fun vs H _ E => ∃ (b : Addr) (v : V) (o : Ob) (w : Int) (ms : List Int) (pcs : List (List Int × Int)), vs = [.ref b, v] ∧ BoxAt H b w ms pcs ∧ Good 16 32 w ms pcs ∧ At H o v ∧ TabP H tb ∧ lotB w o = false ∧ ∀ a H', Ext H H' → E (.ref a) (some a) H'
theorem ok_barX {fd : FuncData} (F : Fun K "is_bar" "is_bar" sBar f fd) (CN : CanX cE P w K mg base "narrowed" 4 fN fdN ["box", "lot"] (jZ tb)) (CM : CanX cE P w K mg base "many" 4 fM fdM ["box"] (fun _ _ _ _ => False)) : FnOk P w K mg base (CXX P w cE) 5 f fd ["box", "lot"] (spBarX tb) := by
 refine F.okX scBar (fun vs H Q E h => ?_) (fun cdv A outer s H vs Q E hr h => ?_)
 · obtain ⟨_, _, _, _, _, _, rfl, _⟩ := h
   rfl
 · obtain ⟨b, v, o, w, ms, pcs, rfl, hB, g, hAt, tab, hn, qE⟩ := h
   refine ⟨_, pss_one (ps_ret (pe_cmpR op_eq (pe_call CM.G hr (show (j8 sBar).names.lookup (("many" : String) : Str) = some NameKind.globalImplicit by decide +kernel) CM.m CM.kp CM.b .nil passes_x (jN (pe_call CN.G hr (show (j8 sBar).names.lookup (("narrowed" : String) : Str) = some NameKind.globalImplicit by decide +kernel) CN.m CN.kp CN.b .nil passes_x (jN (pv 0) (jN (pv 1) kS))) kS)) jL (kO _))), ?_⟩
   refine ⟨_, rfl, _, rfl, b, v, o, w, ms, pcs, rfl, hB, g, hAt, tab, fun z => ?_, fun _ a H' e => qE a H' e⟩
   rw [hn] at z
   cases z
end
end Eo
end
section
namespace Eo
open PySem L2
section
variable {P : Program} {w : World} {K : W.Frag} {mg : Str → Option Value} {base : Heap}
variable {f : Addr} {cdv : Value} {A : Around} {outer : List Env} {s : Shared} {H0 : Hp} {E : XK}
noncomputable abbrev nWNarrow : List Str := ["box", "lot", "pieces", "things", "weight", "some"]
theorem scWNarrow : FnScope nWNarrow ["box", "lot"] (j8 kU) := ⟨rfl, rfl, rfl, by decide +kernel, rfl, by decide +kernel, by decide +kernel⟩
noncomputable def spWNarrow : Sp := fun vs H Q _ => ∃ (b a : Addr) (w : Int) (ms : List Int) (pcs : List (List Int × Int)) (ts : List Int), vs = [.ref b, .ref a] ∧ BoxAt H b w ms pcs ∧ Good 16 32 w ms pcs ∧ H a = some (.tup (ts.map V.int)) ∧ Ris w ts ∧
 ∀ r H', BoxAt H' r ts.length (nmd ts ms) (pick ts pcs (lkP pcs ts)) → Ext H H' → Q (.ref r) H'
noncomputable def wnarrowA (T : Txt mg) (hr : Room 0 (XOf nWNarrow "_law_narrowed" kU P w K mg base f cdv A outer s H0 E).A) : { t : TS // JSs (XOf nWNarrow "_law_narrowed" kU P w K mg base f cdv A outer s H0 E) (jC kU) t } :=
 have nd := scWNarrow.nd
 ⟨_, (jE (jU (i := 2) nd rfl lL (je_lstU j9) sw_lst)
     (jE (js_for PassesOwn.never rfl (ji_tup (kX yB (jv 0 rfl vL) (jD) jT)) (jg_two_d (i := 3) (j := 4) nd rfl rfl (by decide +kernel) (by decide +kernel)) (jE (jU (i := 5) nd rfl lL (jR jO gD T.tuple (by decide +kernel) (j4 (y9 (m := [none, some 1]) (Nc := ["t", "lot"]) rfl (ji_tup (jv 3 rfl vL)) rfl (by decide +kernel) (by decide +kernel) (jY (psc := j8 kU) (by decide +kernel)) (jS (N := nWNarrow) rfl rfl (by decide +kernel)) (fun cl C fp s H => kL (i := 0) (show (["t", "lot"] : List Str).Nodup by decide +kernel) rfl (yQ (by decide +kernel))) (fun cl C fp s H => jts_one (jt_cmpR op_in_b (jv 0 rfl (kD (by decide +kernel))) (jv 1 rfl (y0 (by decide +kernel))) nm_name)) (fun cl C fp s H => (je_bmT PySem.F.slot_tuple_index PySem.F.type_tuple_index mt_indexT (jv 1 rfl (y0 (by decide +kernel))) (j4 (jv 0 rfl (kD (by decide +kernel))) j9 j6) j6)) fo_name) j9 jP) jP) kJ)
     (jJ (yT (jt_cmpR (op_neTT hr.units101) (jv 5 rfl vL) (kQ j9) (kO _)) (jJ (js_expr (je_bm PySem.F.plainAttrs_list PySem.F.slot_list_append PySem.F.type_list_append mt_append (jv 2 rfl vL) (j4 (kQ (j4 (jv 5 rfl vL) (j4 (jv 4 rfl vL) j9 j6) j6)) j9 se_tup) se_tup) kJ)) y8))) fo_sub)
     (jJ (kI (kQ (j4 (jI call_len_seq gD T.len (by decide +kernel) (j4 (jv 1 rfl vC) j9 j6) j6) (j4 (jR jO gD T.tuple (by decide +kernel) (j4 (y9 (m := [none, some 1]) (Nc := ["t", "lot"]) rfl (ji_tup (kX yB (jv 0 rfl vL) (jD) jT)) rfl (by decide +kernel) (by decide +kernel) (jY (psc := j8 kU) (by decide +kernel)) (jS (N := nWNarrow) rfl rfl (by decide +kernel)) (fun cl C fp s H => kL (i := 0) (show (["t", "lot"] : List Str).Nodup by decide +kernel) rfl (yQ (by decide +kernel))) (fun cl C fp s H => jts_one (jt_cmpR op_in_b (jv 0 rfl (kD (by decide +kernel))) (jv 1 rfl (y0 (by decide +kernel))) nm_name)) (fun cl C fp s H => (je_bmT PySem.F.slot_tuple_index PySem.F.type_tuple_index mt_indexT (jv 1 rfl (y0 (by decide +kernel))) (j4 (jv 0 rfl (kD (by decide +kernel))) j9 j6) j6)) fo_sub) j9 jP) jP) (j4 (jR jO gD T.tuple (by decide +kernel) (j4 (jv 2 rfl vL) j9 j6) j6) j9 jG) jG) jG))))))⟩
theorem eqTs_nil {l : List Int} : eqTs (l.map Tr.int) [] = decide (l = []) := by
 cases l <;> rfl
theorem plcs_any {ts lot : List Int} : (!decide (plcs ts lot = [])) = lot.any fun x => decide (x ∈ ts) := by
 unfold plcs
 rw [Bool.eq_iff_iff, List.any_eq_true, Bool.not_eq_true', decide_eq_false_iff_not, List.map_eq_nil_iff, List.filter_eq_nil_iff]
 constructor
 · intro h
   refine Classical.byContradiction fun z => h fun x hx y => z ⟨x, hx, y⟩
 · rintro ⟨x, hx, y⟩ h
   exact h x hx y
theorem ok_wnarrow {fd : FuncData} (F : Fun K "_law_narrowed" "_law_narrowed" kU f fd) (T : Txt mg) : FnOk P w K mg base CX0 1 f fd ["box", "lot"] spWNarrow := by
 refine F.ok scWNarrow (fun vs H Q E h => ?_) (fun cdv A outer s H vs Q E hr h => ?_)
 · obtain ⟨_, _, _, _, _, _, rfl, _⟩ := h
   rfl
 · obtain ⟨b, a, w, ms, pcs, ts, rfl, hB, g, ha, rk, q⟩ := h
   refine ⟨_, (wnarrowA T hr).2.h, ?_⟩
   obtain ⟨qm, qp, ps, b1, b2, b3, b4⟩ := id hB.ex
   have pl := b4.len
   have w0 := g.w0
   have w1 := g.w1
   have gpl := g.pl
   have tln := lot_len rk.ris rk.bnd w1
   refine ⟨by show (0 : Nat) ≤ _; decide, fun l H2 d2 e2 n2 => ?_⟩
   refine ⟨_, rfl, b, _, 2, _, rfl, rfl, SqT.of (e2 _ _ b1), rfl, qp, rfl, ⟨_, SqT.of (e2 _ _ b3)⟩, for_tup (xs := ps) (fun i σ H' => (∃ v3 v4 v5, σ = [some (.ref b), some (.ref a), some (.ref l), v3, v4, v5]) ∧ Ext H H' ∧ ∃ zs, H' l = some (.lst zs) ∧ PcsAt H' zs (pick ts pcs (((upto pcs.length).take i).filter fun k => (jH pcs k).any fun x => decide (x ∈ ts)))) ⟨⟨_, _, _, rfl⟩, e2, [], d2, trivial⟩ (fun i σ H' _ ⟨_, e, _⟩ => SqT.of (e _ _ b3)) ?_ ?_⟩
   · rintro i x σ H' hx ⟨⟨v3, v4, v5, rfl⟩, e, zs, h3, pz⟩
     have hj : i < pcs.length := by
       rw [← pl]
       exact (List.getElem?_eq_some_iff.mp hx).1
     obtain ⟨x', hx', pa, pq, rfl, c1, c2⟩ := b4.get hj
     rw [hx] at hx'
     cases hx'
     have ll := things_len g (k := i) (by lia) (by lia)
     have et : jH pcs (i : Int) = (pcs.getD i ([], 0)).1 := by unfold jH; rw [Int.toNat_natCast]
     have gr : (jH pcs (i : Int)).Pairwise (· < ·) := by
       have := (g.at (k := i) hj).lot.ris
       rw [et]
       exact this
     rw [← et] at c2
     refine ⟨pa, _, rfl, SqT.of (e _ _ c1), rfl, _, _, rfl, _, _, rfl, rfl, ?_⟩
     dsimp only [kZ]
     refine ⟨_, rfl, pq, rfl, ⟨_, SqT.of (e _ _ c2)⟩, idxIf_comp (e _ _ c2) (e _ _ ha) (by lia) rfl fun D HA kA eA nA => ?_⟩
     refine ⟨D, _, rfl, .inl ⟨SqL.of kA, fun r hr' => ?_⟩⟩
     rw [← nmd_ris rk.ris gr] at *
     have eB : Ext HA (L2.upd HA r (.tup ((nmd ts (jH pcs (i : Int))).map V.int))) := (Ext.refl _).new hr' _
     have dB : (L2.upd HA r (.tup ((nmd ts (jH pcs (i : Int))).map V.int))) r = some (.tup ((nmd ts (jH pcs (i : Int))).map V.int)) := j7
     generalize L2.upd HA r (.tup ((nmd ts (jH pcs (i : Int))).map V.int)) = HB at eB dB
     refine ⟨_, rfl, by show (0 : Nat) ≤ _; decide, fun r0 HC dC eC => ?_⟩
     have eAC := (eA.trans eB).trans eC
     have h3C := eAC _ _ h3
     refine ⟨_, [], ⟨r, _, rfl, eC _ _ dB, ints_T _⟩, ⟨r0, _, rfl, dC, rfl⟩, by rw [deps_ints]; decide, _, rfl, ?_⟩
     have ep : (!eqTs ((nmd ts (jH pcs (i : Int))).map Tr.int) []) = (jH pcs (i : Int)).any fun x => decide (x ∈ ts) := by
       rw [eqTs_nil, nmd_ris rk.ris gr, plcs_any]
     rw [ep, filt_take (upto_get hj)]
     refine ite2 (fun hz => ?_) (fun hz => ?_)
     · rw [if_pos hz]
       refine ⟨_, rfl, .inl ⟨rfl, _, SqL.of h3C⟩, _, rfl, _, rfl, by show (2 : Nat) ≤ _; decide, fun r3 HD dD eD => ?_⟩
       have hDD := eD _ _ h3C
       refine ⟨l, _, _, rfl, rfl, hDD, ?_, ⟨_, _, _, rfl⟩, ((e.trans eAC).trans eD).updNew n2 _, _, j7, ?_⟩
       · rw [pz.len]
         unfold pick
         rw [List.length_map]
         have := List.length_filter_le (fun k => (jH pcs k).any fun x => decide (x ∈ ts)) ((upto pcs.length).take i)
         have := List.length_take_le i (upto pcs.length)
         rw [PySem.sizeLine_eq]
         lia
       have ez : pick ts pcs ((((upto pcs.length).take i).filter fun k => (jH pcs k).any fun x => decide (x ∈ ts)) ++ [(i : Int)]) = pick ts pcs (((upto pcs.length).take i).filter fun k => (jH pcs k).any fun x => decide (x ∈ ts)) ++ [(nmd ts (jH pcs (i : Int)), (pcs.getD i ([], 0)).2)] := by
         unfold pick
         rw [List.map_append]
         rfl
       rw [ez]
       exact PcsAt.mono (Tups.upd hDD _) (PcsAt.snoc (p := (nmd ts (jH pcs (i : Int)), (pcs.getD i ([], 0)).2)) ⟨r3, r, rfl, dD, eD _ _ (eC _ _ dB)⟩ (pz.mono (eAC.trans eD).tups))
     · rw [if_neg hz, List.append_nil]
       exact ⟨⟨_, _, _, rfl⟩, e.trans eAC, zs, h3C, pz.mono eAC.tups⟩
   · rintro σ H3 ⟨⟨v3, v4, v5, rfl⟩, e3, zs, h3, pz⟩
     have hap : ((upto pcs.length).take ps.length).filter (fun k => (jH pcs k).any fun x => decide (x ∈ ts)) = lkP pcs ts := by
       rw [pl, List.take_of_length_le (by rw [upto_len]; exact Nat.le_refl _)]
       rfl
     rw [hap] at pz
     have lm := lot_len g.mr.ris g.mr.bnd w1
     have t9 := e3 _ _ ha
     refine ⟨_, rfl, a, _, rfl, .inr (SqT.of t9), _, rfl, b, _, 1, _, rfl, rfl, SqT.of (e3 _ _ b1), rfl, qm, rfl, ⟨_, SqT.of (e3 _ _ b2)⟩, idxIf_comp (e3 _ _ b2) t9 (by lia) rfl fun D2 HA kA eA nA => ?_⟩
     refine ⟨D2, _, rfl, .inl ⟨SqL.of kA, fun r hr' => ?_⟩⟩
     rw [← nmd_ris rk.ris g.mr.ris]
     have eB : Ext HA (L2.upd HA r (.tup ((nmd ts ms).map V.int))) := (Ext.refl _).new hr' _
     have dB : (L2.upd HA r (.tup ((nmd ts ms).map V.int))) r = some (.tup ((nmd ts ms).map V.int)) := j7
     show tCons _ _ _ (L2.upd HA r (.tup ((nmd ts ms).map V.int))) _
     generalize L2.upd HA r (.tup ((nmd ts ms).map V.int)) = HB at eB dB
     have hB9 := eB _ _ (eA _ _ h3)
     refine ⟨_, rfl, l, _, rfl, .inl ⟨SqL.of hB9, fun r4 hr4 => ?_⟩⟩
     have eC : Ext HB (L2.upd HB r4 (.tup zs)) := (Ext.refl _).new hr4 _
     have dC : (L2.upd HB r4 (.tup zs)) r4 = some (.tup zs) := j7
     generalize L2.upd HB r4 (.tup zs) = HC at eC dC
     refine ⟨by show (3 : Nat) ≤ _; decide, fun r5 HD dD eD => ?_⟩
     have eAD := ((eA.trans eB).trans eC).trans eD
     exact q r5 HD ⟨r, r4, zs, by rw [dD, List.length_map], eD _ _ (eC _ _ dB), eD _ _ dC, pz.mono eAD.tups⟩ (e3.trans eAD)
end
end Eo
end
section
namespace Eo
open PySem L2
section
variable {P : Program} {w : World} {K : W.Frag} {mg : Str → Option Value} {base : Heap}
variable {f fN fB fO cE cO tb : Addr} {fdN fdB fdO : FuncData} {cdv : Value} {A : Around} {outer : List Env} {s : Shared} {H0 : Hp} {E : XK} {ks : Nat → Bool}
noncomputable abbrev nRefused : List Str := ["box", "thing", "told", "e"]
theorem scRefused : FnScope nRefused ["box", "thing"] (j8 kW) := ⟨rfl, rfl, rfl, by decide +kernel, rfl, by decide +kernel, by decide +kernel⟩
noncomputable def spRefused (tb : Addr) : Sp := fun vs H Q _ => ∃ (b : Addr) (v : V) (o : Ob) (w : Int) (ms : List Int) (pcs : List (List Int × Int)), vs = [.ref b, v] ∧ BoxAt H b w ms pcs ∧ Good 16 32 w ms pcs ∧ At H o v ∧ TabP H tb ∧ lotB w o = false ∧ ∀ H', Ext H H' → Q (.bl true) H'
noncomputable def refusedA (T : Txt mg) (CN : CanX cE P w K mg base "narrowed" 4 fN fdN ["box", "lot"] (jZ tb)) (CB : CanX cE P w K mg base "is_bar" 5 fB fdB ["box", "lot"] (spBarX tb)) (CO : CanS P w K mg base "_law_others" 1 fO fdO ["e", "own"] (spOthers cE ks)) (MO : mg "OnceError" = some (.ref cO)) (hr : Room 5 (XOf nRefused "_law_refused" kW P w K mg base f cdv A outer s H0 E).A) : { t : TS // JSs (XOf nRefused "_law_refused" kW P w K mg base f cdv A outer s H0 E) (jC kW) t } :=
 have nd := scRefused.nd
 ⟨_, (jE (jU (i := 2) nd rfl lL (je_lstU j9) sw_lst) (jE (js_try (j := 3) nd rfl (show (j8 kW).names.lookup (("e" : String) : Str) = some NameKind.local by decide +kernel) (jb_expr (jx_call CN.G (hr.mono (by decide)) gD CN.m CN.kp CN.b (j4 (jv 0 rfl vL) (j4 (jv 1 rfl vL) j9 j6) j6) rfl j6) kJ) gD MO rfl rfl (fun x => (jJ (js_expr (je_bm PySem.F.plainAttrs_list PySem.F.slot_list_append PySem.F.type_list_append mt_append (jv 2 rfl (vis_u vL)) (j4 (je_callS CO.G (Room.suite (hr.mono (by decide)) x) (gl_u gD) CO.m CO.kp CO.b (j4 (jv 3 rfl (vis_u vL)) (j4 jD j9 jF) j6) j6) j9 jG) jG) kJ)))) (jE (js_try (j := 3) nd rfl (show (j8 kW).names.lookup (("e" : String) : Str) = some NameKind.local by decide +kernel) (jb_expr (jx_call CB.G (hr.mono (by decide)) gD CB.m CB.kp CB.b (j4 (jv 0 rfl vL) (j4 (jv 1 rfl vL) j9 j6) j6) rfl j6) kJ) gD MO rfl rfl (fun x => (jJ (js_expr (je_bm PySem.F.plainAttrs_list PySem.F.slot_list_append PySem.F.type_list_append mt_append (jv 2 rfl (vis_u vL)) (j4 (je_callS CO.G (Room.suite (hr.mono (by decide)) x) (gl_u gD) CO.m CO.kp CO.b (j4 (jv 3 rfl (vis_u vL)) (j4 jD j9 jF) j6) j6) j9 jG) jG) kJ)))) (jJ (kI (je_cmpR (op_eqLL hr.units101) (jv 2 rfl vL) (je_lstU (j4 (yV) (j4 (yV) j9 jF) jF)) (kO _)))))))⟩
theorem ok_refused {fd : FuncData} (F : Fun K "_law_refused" "_law_refused" kW f fd) (T : Txt mg) (CN : CanX cE P w K mg base "narrowed" 4 fN fdN ["box", "lot"] (jZ tb)) (CB : CanX cE P w K mg base "is_bar" 5 fB fdB ["box", "lot"] (spBarX tb)) (CO : CanS P w K mg base "_law_others" 1 fO fdO ["e", "own"] (spOthers cE fun i => decide (i = 7))) (MO : mg "OnceError" = some (.ref cO)) (AB : Above K cE cO) : FnOk P w K mg base CX0 6 f fd ["box", "thing"] (spRefused tb) := by
 refine F.ok scRefused (fun vs H Q E h => ?_) (fun cdv A outer s H vs Q E hr h => ?_)
 · obtain ⟨_, _, _, _, _, _, rfl, _⟩ := h
   rfl
 · obtain ⟨b, v, o, w, ms, pcs, rfl, hB, g, hAt, tab, hn, q⟩ := h
   refine ⟨_, (refusedA T CN CB CO MO hr).2.h, ?_⟩
   have ek : eqTs [.bl (decide (0 = 7)), .bl (decide (1 = 7)), .bl (decide (2 = 7)), .bl (decide (3 = 7)), .bl (decide (4 = 7)), .bl (decide (5 = 7)), .bl (decide (6 = 7)), .bl (decide (7 = 7)), .bl (decide (8 = 7)), .bl (decide (9 = 7)), .bl false] (oneOf 7 11) = true := by decide +kernel
   refine ⟨by show (0 : Nat) ≤ _; decide, fun l H1 d1 e1 n1 => ?_⟩
   refine ⟨_, rfl, _, rfl, b, v, o, w, ms, pcs, rfl, hB.mono e1.tups, g, hAt.ext e1, tab.ext e1, fun z => (by rw [hn] at z; cases z), fun _ a H2 e2 => ?_⟩
   rintro x hx1 hx2 hx
   refine ⟨AB, ?_⟩
   have e3 : Ext H2 (L2.upd H2 x (.ext (excP x cE))) := (Ext.refl _).new hx _
   have d3 : (L2.upd H2 x (.ext (excP x cE))) x = some (.ext (excP x cE)) := j7
   generalize L2.upd H2 x (.ext (excP x cE)) = H3 at e3 d3
   have E3 := (e1.trans e2).trans e3
   have l3 : H3 l = some (.lst []) := e3 _ _ (e2 _ _ d1)
   refine ⟨_, rfl, .inl ⟨rfl, _, SqL.of l3⟩, _, rfl, 7, rfl, d3, fun H4 e4 => ?_⟩
   rw [ek]
   have l4 := e4 _ _ l3
   refine ⟨l, _, _, rfl, rfl, l4, by show (0 : Nat) < _; decide, ?_⟩
   have E5 : Ext H (L2.upd H4 l (.lst ([] ++ [V.bl true]))) := (E3.trans e4).updNew n1 _
   have d5 : (L2.upd H4 l (.lst ([] ++ [V.bl true]))) l = some (.lst [V.bl true]) := j7
   generalize L2.upd H4 l (.lst ([] ++ [V.bl true])) = H5 at E5 d5
   refine ⟨_, rfl, _, rfl, b, v, o, w, ms, pcs, rfl, hB.mono E5.tups, g, hAt.ext E5, tab.ext E5, hn, fun a H6 e6 => ?_⟩
   rintro y hy1 hy2 hy
   refine ⟨AB, ?_⟩
   have e7 : Ext H6 (L2.upd H6 y (.ext (excP y cE))) := (Ext.refl _).new hy _
   have d7 : (L2.upd H6 y (.ext (excP y cE))) y = some (.ext (excP y cE)) := j7
   generalize L2.upd H6 y (.ext (excP y cE)) = H7 at e7 d7
   have E7 := (E5.trans e6).trans e7
   have l7 : H7 l = some (.lst [V.bl true]) := e7 _ _ (e6 _ _ d5)
   refine ⟨_, rfl, .inl ⟨rfl, _, SqL.of l7⟩, _, rfl, 7, rfl, d7, fun H8 e8 => ?_⟩
   rw [ek]
   have l8 := e8 _ _ l7
   refine ⟨l, _, _, rfl, rfl, l8, by show (1 : Nat) < _; decide, ?_⟩
   have E9 : Ext H (L2.upd H8 l (.lst ([V.bl true] ++ [V.bl true]))) := (E7.trans e8).updNew n1 _
   have d9 : (L2.upd H8 l (.lst ([V.bl true] ++ [V.bl true]))) l = some (.lst [V.bl true, V.bl true]) := j7
   generalize L2.upd H8 l (.lst ([V.bl true] ++ [V.bl true])) = H9 at E9 d9
   refine ⟨_, rfl, by show (2 : Nat) ≤ _; decide, fun m HA dA eA nA => ?_⟩
   refine ⟨[.bl true, .bl true], [.bl true, .bl true], ⟨l, _, rfl, eA _ _ d9, _, _, rfl, rfl, _, _, rfl, rfl, rfl⟩, ⟨m, _, rfl, dA, _, _, rfl, rfl, _, _, rfl, rfl, rfl⟩, by decide, ?_⟩
   exact q HA (E9.trans eA)
end
end Eo
end
section
namespace L2
open PySem
theorem je_p40 {X : Cx} {p2 p3 p4 : Pos} {k2 k3 : Nat} : JE X (.BinOp (.Constant (.int 10) k2 p2) .Pow (.Constant (.int 40) k3 p3) p4) (tC (.int 10000000000000000000000000000000000000000)) := ⟨pe_cpow (by decide) (by decide) (by decide) (by decide)⟩
open PySem.Spec PyProof.Rows in
theorem FnOk.noX {P : Program} {w : World} {K : W.Frag} {mg : Str → Option Value} {base : Heap} {C : Addr} {k : Nat} {f : Addr} {fd : FuncData} {ps : List Str} {sp : Sp} (F : FnOk P w K mg base (CXX P w C) k f fd ps sp) : FnOk P w K mg base CX0 k f fd ps (fun vs H Q _ => sp vs H Q fun _ _ _ => False) := by
 refine ⟨fun vs H Q E h => F.len _ _ _ _ h, fun A outer s H args us vs Q E hr e0 hb r hsp => codeAny_mono (F.run A outer s H args us vs Q _ hr e0 hb r hsp) fun res s' hq => ?_⟩
 cases res with
 | ok fl => cases fl <;> exact hq
 | error ev =>
   obtain ⟨x, T, H2, rfl, os2, bare2, un2, hok2, fx, fT, hx, hT, ex2, q2⟩ := hq
   exact q2.elim
end L2
namespace Eo
open PySem L2
theorem CanX.noX {C : Addr} {P : Program} {w : World} {K : W.Frag} {mg : Str → Option Value} {base : Heap} {x : Str} {k : Nat} {f : Addr} {fd : FuncData} {ps : List Str} {sp : Sp} (c : CanX C P w K mg base x k f fd ps sp) : Can P w K mg base x k f fd ps (fun vs H Q _ => sp vs H Q fun _ _ _ => False) := ⟨c.G.noX, c.m, c.kp, c.b⟩
theorem _root_.L2.SqL.extT {K : W.Frag} {tb : Addr} {H H' : Hp} {a : Addr} {xs : List V} (h : SqL K H a xs) (e : ExtT tb H H') (t : TabP H tb) : SqL K H' a xs := by
 rcases h with (h | ⟨o, h⟩) | h
 · exact .inl (.inl (e.at t h))
 · exact .inl (.inr ⟨o, e.at t h⟩)
 · exact .inr h
theorem Tups.ofT {tb : Addr} {H H' : Hp} (e : ExtT tb H H') (t : TabP H tb) : Tups H H' := fun b xs h => e.at t h
theorem ints_val (ks : List Int) : obs (.tup (ks.map Ob.int)) = ks := by
 show (ks.map Ob.int).map val = ks
 rw [List.map_map]
 exact List.map_id _
noncomputable def LotT (H : Hp) (w : Int) (v : V) : Prop := ∃ (a : Addr) (ks : List Int), v = .ref a ∧ H a = some (.tup (ks.map V.int)) ∧ Ris w ks
noncomputable def BadL (H : Hp) (w : Int) (v : V) : Prop := ∃ o, At H o v ∧ lotB w o = false
structure KeepP (tb p : Addr) (H H' : Hp) : Prop where
 k : ∀ c o, H c = some o → c ≠ tb → c ≠ p → H' c = some o
 p0 : ∃ N : Int, H p = some (.lst [.int N])
 p1 : ∃ N : Int, H' p = some (.lst [.int N]) ∧ 0 ≤ N
theorem KeepP.at {tb p : Addr} {H H' : Hp} (h : KeepP tb p H H') (t : TabP H tb) {c : Addr} {o : HO} (hc : H c = some o) (n1 : ∀ ps, o ≠ .tbl ps) (n2 : ∀ xs, o ≠ .lst xs) : H' c = some o := by
 refine h.k c o hc (fun z => ?_) fun z => ?_
 · subst z
   rcases t with t | ⟨d, t, _⟩
   · rw [t] at hc; cases hc; exact n1 _ rfl
   · rw [t] at hc; cases hc; exact n1 _ rfl
 · subst z
   obtain ⟨N, q⟩ := h.p0
   rw [q] at hc; cases hc
   exact n2 _ rfl
theorem KeepP.tups {tb p : Addr} {H H' : Hp} (h : KeepP tb p H H') (t : TabP H tb) : Tups H H' := fun b xs q => h.at t q (by intro _ z; cases z) (by intro _ z; cases z)
theorem KeepP.bad {tb p : Addr} {H H' : Hp} (h : KeepP tb p H H') (t : TabP H tb) {w : Int} {v : V} (b : BadL H w v) : BadL H' w v := by
 obtain ⟨o, h1, h2⟩ := b
 refine ⟨o, At.mono ⟨fun b xs q => h.tups t b xs q, fun b xs q => ?_, fun b xs q => ⟨xs, h.at t q (by intro _ z; cases z) (by intro _ z; cases z)⟩⟩ o v h1, h2⟩
 by_cases hb : b = p
 · obtain ⟨N, z, _⟩ := h.p1
   rw [hb]
   exact ⟨_, z⟩
 · refine ⟨xs, h.k b _ q (fun z => ?_) hb⟩
   subst z
   rcases t with t | ⟨d, t, _⟩
   · rw [t] at q; cases q
   · rw [t] at q; cases q
theorem KeepP.lot {tb p : Addr} {H H' : Hp} (h : KeepP tb p H H') (t : TabP H tb) {w : Int} {v : V} (b : LotT H w v) : LotT H' w v := by
 obtain ⟨a, ks, e, h1, h2⟩ := b
 exact ⟨a, ks, e, h.tups t _ _ h1, h2⟩
theorem KeepP.trans {tb p : Addr} {H H1 H2 : Hp} (h : KeepP tb p H H1) (h' : KeepP tb p H1 H2) : KeepP tb p H H2 := ⟨fun c o q n1 n2 => h'.k _ _ (h.k _ _ q n1 n2) n1 n2, h.p0, h'.p1⟩
theorem tab_upd {tb p : Addr} {H : Hp} {N N1 : Int} (t : TabP H tb) (hp : H p = some (.lst [.int N])) : TabP (L2.upd H p (.lst [.int N1])) tb := by
 have kp : ∀ c o, H c = some o → c ≠ p → (L2.upd H p (.lst [.int N1])) c = some o := fun c o h n => by rw [jA n]; exact h
 rcases t with h | ⟨c, h, h2⟩
 · exact .inl (kp _ _ h fun z => by rw [z, hp] at h; cases h)
 · exact .inr ⟨c, kp _ _ h fun z => (by rw [z, hp] at h; cases h), kp _ _ h2 fun z => (by rw [z, hp] at h2; cases h2)⟩
noncomputable abbrev nLaw : List Str := ["script", "box", "k", "pot", "number", "lot", "odd", "one"]
theorem scLaw : FnScope nLaw ["script"] (j8 sLaw) := ⟨rfl, rfl, rfl, by decide +kernel, rfl, by decide +kernel, by decide +kernel⟩
section
variable {P : Program} {w : World} {K : W.Frag} {mg : Str → Option Value} {base : Heap}
variable {f fC fP fT fD fI fN fW fR tb : Addr} {fdC fdP fdT fdD fdI fdN fdW fdR : FuncData} {cdv : Value} {A : Around} {outer : List Env} {s : Shared} {H0 : Hp} {E : XK}
noncomputable abbrev XLaw (P : Program) (w : World) (K : W.Frag) (mg : Str → Option Value) (base : Heap) (f : Addr) (cdv : Value) (A : Around) (outer : List Env) (s : Shared) (H : Hp) (E : XK) : Cx := XOf nLaw "law" sLaw P w K mg base f cdv A outer s H E
noncomputable abbrev lawL : List Stmt := loopOf ((jC sLaw).getD 1 (.Pass ⟨0, 0, 0, 0⟩))
noncomputable def turn2A (T : Txt mg) (CC : Can P w K mg base "_law_cell_at" 1 fC fdC ["script", "k"] (yJ K)) (CP : Can P w K mg base "_law_pot" 1 fP fdP ["cell"] yS) (CT : Can P w K mg base "_law_take" 1 fT fdT ["pot", "wide"] jW) (CD : Can P w K mg base "_law_drawn" 4 fD fdD ["script", "k", "things", "pieces"] (spDrawn K)) (CI : Can P w K mg base "_law_is_box" 3 fI fdI ["found", "due"] spIsBox) (CN : Can P w K mg base "narrowed" 4 fN fdN ["box", "lot"] (fun vs H Q _ => jZ tb vs H Q fun _ _ _ => False)) (CW : Can P w K mg base "_law_narrowed" 1 fW fdW ["box", "lot"] spWNarrow) (CR : Can P w K mg base "_law_refused" 6 fR fdR ["box", "thing"] (spRefused tb)) (hr : Room 6 (XLaw P w K mg base f cdv A outer s H0 E).A) : { t : TS // JSs (XLaw P w K mg base f cdv A outer s H0 E) (loopOf (lawL.getD 5 (.Pass ⟨0, 0, 0, 0⟩))) t } :=
 have nd := scLaw.nd
 ⟨_, (jE (yT (jt_not (jt_val (CI.je (hr.mono (by decide)) gD (j4 (CN.je (hr.mono (by decide)) gD (j4 (jv 1 rfl vL) (j4 (jv 7 rfl vL) j9 j6) j6) j6) (j4 (CW.je (hr.mono (by decide)) gD (j4 (jv 1 rfl vL) (j4 (jv 7 rfl vL) j9 j6) j6) j6) j9 jG) jG) jG) tv_call)) (jJ (kI (yV))) y8)
     (jJ (yT (jt_not (jt_val (CR.je hr gD (j4 (jv 1 rfl vL) (j4 (kX ix_list (jv 6 rfl vL) (CT.je (hr.mono (by decide)) gD (j4 (jv 3 rfl vL) (j4 (jI call_len_seq gD T.len (by decide +kernel) (j4 (jv 6 rfl vL) j9 j6) j6) j9 jG) j6) j6) px_call) j9 kN) j6) j6) tv_call)) (jJ (kI (yV))) y8)))⟩
noncomputable def tailA (T : Txt mg) (CC : Can P w K mg base "_law_cell_at" 1 fC fdC ["script", "k"] (yJ K)) (CP : Can P w K mg base "_law_pot" 1 fP fdP ["cell"] yS) (CT : Can P w K mg base "_law_take" 1 fT fdT ["pot", "wide"] jW) (CD : Can P w K mg base "_law_drawn" 4 fD fdD ["script", "k", "things", "pieces"] (spDrawn K)) (CI : Can P w K mg base "_law_is_box" 3 fI fdI ["found", "due"] spIsBox) (CN : Can P w K mg base "narrowed" 4 fN fdN ["box", "lot"] (fun vs H Q _ => jZ tb vs H Q fun _ _ _ => False)) (CW : Can P w K mg base "_law_narrowed" 1 fW fdW ["box", "lot"] spWNarrow) (CR : Can P w K mg base "_law_refused" 6 fR fdR ["box", "thing"] (spRefused tb)) (hr : Room 6 (XLaw P w K mg base f cdv A outer s H0 E).A) : { t : TS // JSs (XLaw P w K mg base f cdv A outer s H0 E) (lawL.drop 3) t } :=
 have nd := scLaw.nd
 ⟨_, (jE (jU (i := 6) nd rfl lL (je_lstU (j4 (je_non) (j4 (jR call_listU gD T.list (by decide +kernel) (j4 (jv 5 rfl vL) j9 j6) j6) (j4 (kY op_catU (jv 5 rfl vL) (kQ (j4 (kX yB (jv 1 rfl vL) (jD) jT) j9 kN))) (j4 (kY op_catU (kQ (j4 (kY op_sub (jD) (jD)) j9 yA)) (jv 5 rfl vL)) (j4 (kY op_catU (kY op_catU (jv 5 rfl vL) (kY op_repT (je_slice sl_tupU (jv 5 rfl vL) (jo_some (je_un un_neg (jD))) jo_none) (jD))) (kQ (j4 (jD) j9 jF))) (j4 (kQ (j4 (yV) j9 jF)) (j4 (je_str) (j4 (jD) (j4 (je_dictU) j9 se_dict) jF) jF) se_tup) yA) yA) yA) jG) jF)) sw_lst) (jE (jU (i := 6) nd rfl lL (kY op_catLU (jv 6 rfl vL) (je_lstU (j4 (kY op_catU (je_rev (jv 5 rfl vL) (jo_some (je_un un_neg (jD)))) (kQ (j4 (jD) (j4 (jD) j9 jF) jF))) (j4 (kQ (j4 (je_non) j9 jF)) (j4 (kQ (j4 (kQ (j4 (jD) j9 jF)) j9 se_tup)) (j4 (kY op_catU (jv 5 rfl vL) (kQ (j4 (je_p40) j9 yA))) (j4 (yV) j9 jF) yA) se_tup) se_tup) yA))) sw_bin) (jJ (js_for PassesOwn.never rfl (ji_list (je_lstU (j4 (jv 5 rfl vL) (j4 (kQ j9) (j4 (jR (call_tupRng rfl) gD T.tuple (by decide +kernel) (j4 (jR call_rangeV gD T.range (by decide +kernel) (j4 (kX yB (jv 1 rfl vL) (jD) jT) j9 kN) kN) j9 jG) jG) (j4 (jv 5 rfl vL) j9 j6) jG) se_tup) j6))) (kL (i := 7) nd rfl lL) (turn2A T CC CP CT CD CI CN CW CR hr).2 fo_lst))))⟩
noncomputable def turn1A (T : Txt mg) (CC : Can P w K mg base "_law_cell_at" 1 fC fdC ["script", "k"] (yJ K)) (CP : Can P w K mg base "_law_pot" 1 fP fdP ["cell"] yS) (CT : Can P w K mg base "_law_take" 1 fT fdT ["pot", "wide"] jW) (CD : Can P w K mg base "_law_drawn" 4 fD fdD ["script", "k", "things", "pieces"] (spDrawn K)) (CI : Can P w K mg base "_law_is_box" 3 fI fdI ["found", "due"] spIsBox) (CN : Can P w K mg base "narrowed" 4 fN fdN ["box", "lot"] (fun vs H Q _ => jZ tb vs H Q fun _ _ _ => False)) (CW : Can P w K mg base "_law_narrowed" 1 fW fdW ["box", "lot"] spWNarrow) (CR : Can P w K mg base "_law_refused" 6 fR fdR ["box", "thing"] (spRefused tb)) (hr : Room 6 (XLaw P w K mg base f cdv A outer s H0 E).A) : { t : TS // JSs (XLaw P w K mg base f cdv A outer s H0 E) lawL t } :=
 have nd := scLaw.nd
 ⟨_, (jE (jU (i := 3) nd rfl lL (CP.je (hr.mono (by decide)) gD (j4 (CC.je (hr.mono (by decide)) gD (j4 (jv 0 rfl vL) (j4 (jv 2 rfl vL) j9 j6) j6) j6) j9 jG) jG) kJ) (jE (jU (i := 4) nd rfl (loc_c (by decide +kernel)) (CT.je (hr.mono (by decide)) gD (j4 (jv 3 rfl vL) (j4 (kY op_shl (jD) (kX yB (jv 1 rfl vL) (jD) jT)) j9 yA) j6) j6) kJ) (jE (jU (i := 5) nd rfl lL (jR jO gD T.tuple (by decide +kernel) (j4 (y9 (m := [none, some 4]) (Nc := ["t", "number"]) rfl (ji_range1 gD T.range (j4 (kX yB (jv 1 rfl vL) (jD) jT) j9 kN) kN) rfl (by decide +kernel) (by decide +kernel) (jY (psc := j8 sLaw) (by decide +kernel)) (jS (N := nLaw) rfl rfl (by decide +kernel)) (fun cl C fp s H => kL (i := 0) (show (["t", "number"] : List Str).Nodup by decide +kernel) rfl (yQ (by decide +kernel))) (fun cl C fp s H => jts_one (jt_cmpR op_eq (kY op_and (kY op_shr (jv 1 rfl (y0 (by decide +kernel))) (jv 0 rfl (kD (by decide +kernel)))) (jD)) (jD) (kO _))) (fun cl C fp s H => (jv 0 rfl (kD (by decide +kernel)))) fo_call) j9 jP) jP) kJ) (tailA T CC CP CT CD CI CN CW CR hr).2)))⟩
noncomputable def lawA (T : Txt mg) (CC : Can P w K mg base "_law_cell_at" 1 fC fdC ["script", "k"] (yJ K)) (CP : Can P w K mg base "_law_pot" 1 fP fdP ["cell"] yS) (CT : Can P w K mg base "_law_take" 1 fT fdT ["pot", "wide"] jW) (CD : Can P w K mg base "_law_drawn" 4 fD fdD ["script", "k", "things", "pieces"] (spDrawn K)) (CI : Can P w K mg base "_law_is_box" 3 fI fdI ["found", "due"] spIsBox) (CN : Can P w K mg base "narrowed" 4 fN fdN ["box", "lot"] (fun vs H Q _ => jZ tb vs H Q fun _ _ _ => False)) (CW : Can P w K mg base "_law_narrowed" 1 fW fdW ["box", "lot"] spWNarrow) (CR : Can P w K mg base "_law_refused" 6 fR fdR ["box", "thing"] (spRefused tb)) (hr : Room 6 (XLaw P w K mg base f cdv A outer s H0 E).A) : { t : TS // JSs (XLaw P w K mg base f cdv A outer s H0 E) (jC sLaw) t } :=
 have nd := scLaw.nd
 ⟨_, (jE (jU (i := 1) nd rfl lL (CD.je (hr.mono (by decide)) gD (j4 (jv 0 rfl vL) (j4 (jD) (j4 (jD) (j4 (jD) j9 jF) jF) jF) j6) j6) kJ) (jE (js_for PassesOwn.never rfl (ji_range2 gD T.range (j4 (jD) (j4 (jD) j9 jF) jF) jF jF) (kL (i := 2) nd rfl lL) (turn1A T CC CP CT CD CI CN CW CR hr).2 fo_call) (jJ (kI (yV)))))⟩
theorem turn2_read (T : Txt mg) (CC : Can P w K mg base "_law_cell_at" 1 fC fdC ["script", "k"] (yJ K)) (CP : Can P w K mg base "_law_pot" 1 fP fdP ["cell"] yS) (CT : Can P w K mg base "_law_take" 1 fT fdT ["pot", "wide"] jW) (CD : Can P w K mg base "_law_drawn" 4 fD fdD ["script", "k", "things", "pieces"] (spDrawn K)) (CI : Can P w K mg base "_law_is_box" 3 fI fdI ["found", "due"] spIsBox) (CN : Can P w K mg base "narrowed" 4 fN fdN ["box", "lot"] (fun vs H Q _ => jZ tb vs H Q fun _ _ _ => False)) (CW : Can P w K mg base "_law_narrowed" 1 fW fdW ["box", "lot"] spWNarrow) (CR : Can P w K mg base "_law_refused" 6 fR fdR ["box", "thing"] (spRefused tb)) (hr : Room 6 (XLaw P w K mg base f cdv A outer s H0 E).A)
   {D : Ends} {H : Hp} {p b l : Addr} {N : Int} {L : List V} {wi : Int} {ms : List Int} {pcs : List (List Int × Int)} {v0 v2 v4 v5 : Option V} {v : V} (hp : H p = some (.lst [.int N])) (hN : 0 ≤ N) (hB : BoxAt H b wi ms pcs) (g : Good 16 32 wi ms pcs) (hv : LotT H wi v) (tab : TabP H tb) (lt : l ≠ tb) (lp : l ≠ p) (hl : H l = some (.lst L)) (hL : L.length = 14) (bad : ∀ v ∈ L, BadL H wi v)
   (nx : ∀ H', KeepP tb p H H' → TabP H' tb → D.nx [v0, some (.ref b), v2, some (.ref p), v4, v5, some (.ref l), some v] H') :
   (turn2A T CC CP CT CD CI CN CW CR hr).1 D [v0, some (.ref b), v2, some (.ref p), v4, v5, some (.ref l), some v] H := by
 obtain ⟨a, ks, rfl, ha, rk⟩ := hv
 have w1 := g.w1
 have lk := lot_len rk.ris rk.bnd w1
 have lm := lot_len g.mr.ris g.mr.bnd w1
 have gpl := g.pl
 have hAt : At H (.tup (ks.map Ob.int)) (.ref a) := at_tup ha (by rw [List.length_map]; lia) (Ats.ints ks)
 have yes := lot_of_ints rk.ris rk.bnd
 refine ⟨_, rfl, _, rfl, b, .ref a, _, wi, ms, pcs, rfl, hB, g, hAt, tab, fun _ r1 H1 B1 e1 t1 => ?_, fun z => (by rw [yes] at z; cases z)⟩
 rw [ints_val] at B1
 have T1 := Tups.ofT e1 tab
 refine ⟨_, rfl, _, rfl, b, a, wi, ms, pcs, ks, rfl, hB.mono T1, g, T1 _ _ ha, rk, fun r2 H2 B2 e2 => ?_⟩
 refine ⟨r1, r2, _, _, _, rfl, B1.mono e2.tups, B2, ?_, ?_, fun pc hpc => ?_, fun H3 e3 => ⟨_, rfl, iteF ?_⟩⟩
 · have := nmd_len ks ms
   lia
 · unfold pick
   rw [List.length_map]
   have := lkP_len pcs ks
   lia
 · unfold pick at hpc
   obtain ⟨k, hk, rfl⟩ := List.mem_map.mp hpc
   have := nmd_len ks (jH pcs k)
   have := things_len g (lkP_bnd k hk).1 (lkP_bnd k hk).2
   show (nmd ks (jH pcs k)).length ≤ 100
   lia
 have X3 : ExtT tb H H3 := (e1.trans (ExtT.of e2)).trans (ExtT.of e3)
 have t3 := (t1.ext e2).ext e3
 have p3 : H3 p = some (.lst [.int N]) := X3.at tab hp
 have l3 : H3 l = some (.lst L) := X3.at tab hl
 refine ⟨_, rfl, _, rfl, _, rfl, _, rfl, l, _, rfl, .inl (SqL.of l3), p, N, 14, by rw [hL]; rfl, p3, hN, by decide, by decide, fun N1 r a1 a2 a3 => ?_⟩
 have tB : TabP (L2.upd H3 p (.lst [.int N1])) tb := tab_upd t3 p3
 have kB : KeepP tb p H (L2.upd H3 p (.lst [.int N1])) := ⟨fun c o h n1 n2 => by rw [jA n2]; exact X3 _ _ h n1, ⟨N, hp⟩, N1, j7, a1⟩
 have lB : (L2.upd H3 p (.lst [.int N1])) l = some (.lst L) := by rw [jA lp]; exact l3
 generalize L2.upd H3 p (.lst [.int N1]) = HB at tB kB lB
 obtain ⟨v, hv1, hv2⟩ : ∃ v, atI L r = some v ∧ v ∈ L := by
   have hr' : r.toNat < L.length := by lia
   refine ⟨L[r.toNat], ?_, List.getElem_mem hr'⟩
   have := atI_nat (xs := L) (j := r.toNat) (v := L[r.toNat]) (by simp [hr'])
   rw [show ((r.toNat : Nat) : Int) = r by lia] at this
   exact this
 obtain ⟨o, ho, hb⟩ := kB.bad tab (bad v hv2)
 refine ⟨l, _, r, v, rfl, rfl, SqL.of lB, hv1, b, v, o, wi, ms, pcs, rfl, hB.mono (kB.tups tab), g, ho, tB, hb, fun HC eC => ⟨_, rfl, iteF ?_⟩⟩
 obtain ⟨N2, q1, q2⟩ := kB.p1
 exact nx HC ⟨fun c o h n1 n2 => eC _ _ (kB.k _ _ h n1 n2), kB.p0, N2, eC _ _ q1, q2⟩ (tB.ext eC)
theorem lotT_of {H : Hp} {w : Int} {a : Addr} {ks : List Int} (h : H a = some (.tup (ks.map V.int))) (r : Ris w ks) : LotT H w (.ref a) := ⟨a, ks, rfl, h, r⟩
theorem badI {H : Hp} {w : Int} {a : Addr} {ks : List Int} (h : H a = some (.tup (ks.map V.int))) (hl : ks.length ≤ 100) (n : ¬ Ris w ks) : BadL H w (.ref a) := by
 refine ⟨_, at_tup h (by rw [List.length_map]; exact hl) (Ats.ints ks), Bool.eq_false_iff.mpr fun z => n ?_⟩
 have hv : (ks.map Ob.int).map val = ks := by rw [List.map_map]; exact List.map_id _
 obtain ⟨_, a, b⟩ := lot_ints (H := fun _ => none) z (Ats.ints ks)
 rw [hv] at a b
 exact ⟨a, b⟩
theorem bad1 {H : Hp} {w : Int} {r : Addr} {v : V} {o : Ob} (h : H r = some (.tup [v])) (ho : At H o v) (hi : isInt o = false) : BadL H w (.ref r) := by
 refine ⟨.tup [o], at_tup h (by show (1 : Nat) ≤ 100; decide) (ats1 ho (ats0 _)), ?_⟩
 cases o with
 | int i => cases hi
 | oth => rfl
 | tup os => rfl
theorem intsFr_upto (n : Int) : yK 0 (n - 0).toNat = upto n.toNat := by
 unfold yK upto
 rw [Int.sub_zero]
 exact List.map_congr_left fun i _ => Int.zero_add _
theorem cut_ints {ks : List Int} (lk : ks.length ≤ 16) : ∃ cs : List Int, cutV (ks.map V.int) (some (-1)) none = cs.map V.int ∧ cs.length ≤ 16 := by
 unfold cutV
 rw [← List.map_drop, ← List.map_take]
 refine ⟨_, rfl, ?_⟩
 rw [List.length_take, List.length_drop]
 lia
theorem tail_read (T : Txt mg) (CC : Can P w K mg base "_law_cell_at" 1 fC fdC ["script", "k"] (yJ K)) (CP : Can P w K mg base "_law_pot" 1 fP fdP ["cell"] yS) (CT : Can P w K mg base "_law_take" 1 fT fdT ["pot", "wide"] jW) (CD : Can P w K mg base "_law_drawn" 4 fD fdD ["script", "k", "things", "pieces"] (spDrawn K)) (CI : Can P w K mg base "_law_is_box" 3 fI fdI ["found", "due"] spIsBox) (CN : Can P w K mg base "narrowed" 4 fN fdN ["box", "lot"] (fun vs H Q _ => jZ tb vs H Q fun _ _ _ => False)) (CW : Can P w K mg base "_law_narrowed" 1 fW fdW ["box", "lot"] spWNarrow) (CR : Can P w K mg base "_law_refused" 6 fR fdR ["box", "thing"] (spRefused tb)) (hr : Room 6 (XLaw P w K mg base f cdv A outer s H0 E).A)
   {D : Ends} {H : Hp} {p a b : Addr} {N : Int} {wi : Int} {ms : List Int} {pcs : List (List Int × Int)} {ks : List Int} {v0 v2 v4 v6 v7 : Option V} (hp : H p = some (.lst [.int N])) (hN : 0 ≤ N) (hB : BoxAt H b wi ms pcs) (g : Good 16 32 wi ms pcs) (ha : H a = some (.tup (ks.map V.int))) (rk : Ris wi ks) (tab : TabP H tb)
   (nx : ∀ H' v6 v7, (∀ c o, H c = some o → c ≠ tb → c ≠ p → H' c = some o) → TabP H' tb → D.nx [v0, some (.ref b), v2, some (.ref p), v4, some (.ref a), v6, v7] H') :
   (tailA T CC CP CT CD CI CN CW CR hr).1 D [v0, some (.ref b), v2, some (.ref p), v4, some (.ref a), v6, v7] H := by
 have w0 := g.w0
 have w1 := g.w1
 have lk := lot_len rk.ris rk.bnd w1
 obtain ⟨qm, qp, ps, b1, b2, b3, b4⟩ := id hB.ex
 have sz : ∀ n : Nat, n ≤ 64 → n ≤ PySem.sizeLine := fun n h => by rw [PySem.sizeLine_eq]; lia
 refine ⟨_, rfl, a, _, rfl, ha, fun l1 H1 d1 e1 _ => ?_⟩
 refine ⟨_, rfl, _, rfl, b, _, 0, _, rfl, rfl, SqT.of (e1 _ _ b1), rfl, by show (1 : Nat) ≤ _; decide, fun q2 H2 d2 e2 => ?_⟩
 have e02 := e1.trans e2
 refine ⟨a, q2, _, _, rfl, rfl, e02 _ _ ha, d2, by rw [List.length_map]; exact sz _ (by show _ + 1 ≤ 64; lia), fun q3 H3 d3 e3 => ?_⟩
 have e03 := e02.trans e3
 refine ⟨_, _, rfl, rfl, by show (1 : Nat) ≤ _; decide, fun q4 H4 d4 e4 => ?_⟩
 have e04 := e03.trans e4
 refine ⟨_, rfl, q4, a, _, _, rfl, rfl, d4, e04 _ _ ha, by rw [List.length_map]; exact sz _ (by show 1 + _ ≤ 64; lia), fun q5 H5 d5 e5 => ?_⟩
 have e05 := e04.trans e5
 obtain ⟨cs, hcs, lcs⟩ : ∃ cs : List Int, cutV (ks.map V.int) (some (-1)) none = cs.map V.int ∧ cs.length ≤ 16 := cut_ints lk
 refine ⟨_, rfl, _, rfl, _, rfl, _, rfl, a, _, rfl, e05 _ _ ha, fun q6 H6 d6 e6 => ?_⟩
 rw [hcs] at d6
 have e06 := e05.trans e6
 refine ⟨q6, 2, _, rfl, rfl, d6, by decide, by decide, by rw [List.length_map]; exact sz _ (by show _ * 2 ≤ 64; lia), fun q7 H7 d7 e7 => ?_⟩
 have e07 := e06.trans e7
 have d7 : H7 q7 = some (.tup ((cs ++ cs).map V.int)) := by rw [d7, List.map_append]; simp
 refine ⟨a, q7, _, _, rfl, rfl, e07 _ _ ha, d7, by rw [List.length_map, List.length_map, List.length_append]; exact sz _ (by lia), fun q8 H8 d8 e8 => ?_⟩
 have e08 := e07.trans e8
 refine ⟨by show (1 : Nat) ≤ _; decide, fun q9 H9 d9 e9 => ?_⟩
 have e09 := e08.trans e9
 rw [← List.map_append] at d8
 refine ⟨q8, q9, _, _, rfl, rfl, e9 _ _ d8, d9, by rw [List.length_map, List.length_append, List.length_append]; exact sz _ (by show _ + 1 ≤ 64; lia), fun qa HA dA eA => ?_⟩
 have e0A := e09.trans eA
 refine ⟨by show (1 : Nat) ≤ _; decide, fun qb HB dB eB => ?_⟩
 have e0B := e0A.trans eB
 refine fun qc HC dC eC => ?_
 have e0C := e0B.trans eC
 refine ⟨by show (9 : Nat) ≤ _; decide, fun l2 HD dD eD nD => ?_⟩
 have e0D := e0C.trans eD
 refine ⟨_, rfl, _, rfl, _, rfl, _, rfl, rfl, a, _, rfl, e0D _ _ ha, fun qe HE dE eE => ?_⟩
 have e0E := e0D.trans eE
 refine ⟨by show (2 : Nat) ≤ _; decide, fun qf HF dF eF => ?_⟩
 have e0F := e0E.trans eF
 refine ⟨qe, qf, _, _, rfl, rfl, eF _ _ dE, dF, by rw [List.length_reverse, List.length_map]; exact sz _ (by show _ + 2 ≤ 64; lia), fun qg HG dG eG => ?_⟩
 have e0G := e0F.trans eG
 refine ⟨by show (1 : Nat) ≤ _; decide, fun qh HH dH eH => ?_⟩
 have e0H := e0G.trans eH
 refine ⟨by show (1 : Nat) ≤ _; decide, fun qi HI dI eI => ?_⟩
 have e0I := e0H.trans eI
 refine ⟨by show (1 : Nat) ≤ _; decide, fun qj HJ dJ eJ => ?_⟩
 have e0J := e0I.trans eJ
 refine ⟨_, rfl, by show (1 : Nat) ≤ _; decide, fun qk HK dK eK => ?_⟩
 have e0K := e0J.trans eK
 refine ⟨a, qk, _, _, rfl, rfl, e0K _ _ ha, dK, by rw [List.length_map]; exact sz _ (by show _ + 1 ≤ 64; lia), fun ql HL dL eL => ?_⟩
 have e0L := e0K.trans eL
 refine ⟨by show (5 : Nat) ≤ _; decide, fun l3 HM dM eM nM => ?_⟩
 have e0M := e0L.trans eM
 have eDM : Ext HD HM := (((((((eE.trans eF).trans eG).trans eH).trans eI).trans eJ).trans eK).trans eL).trans eM
 refine ⟨l2, l3, _, _, rfl, rfl, eDM _ _ dD, dM, by show (14 : Nat) ≤ _; decide, fun l4 HN dN eN nN => ?_⟩
 have e0N := e0M.trans eN
 have eLN := eM.trans eN
 have eKN := eL.trans eLN
 have eJN := eK.trans eKN
 have eIN := eJ.trans eJN
 have eHN := eI.trans eIN
 have eGN := eH.trans eHN
 have eFN := eG.trans eGN
 have eEN := eF.trans eFN
 have eDN := eE.trans eEN
 have eCN := eD.trans eDN
 have eBN := eC.trans eCN
 have eAN := eB.trans eBN
 have e9N := eA.trans eAN
 have e8N := e9.trans e9N
 have e7N := e8.trans e8N
 have e6N := e7.trans e7N
 have e5N := e6.trans e6N
 have e4N := e5.trans e5N
 have e3N := e4.trans e4N
 have e2N := e3.trans e3N
 have e1N := e2.trans e2N
 have bad : ∀ v ∈ [V.non, V.ref l1, V.ref q3, V.ref q5, V.ref qa, V.ref qb, V.str "0", V.int 0, V.ref qc] ++ [V.ref qg, V.ref qh, V.ref qj, V.ref ql, V.bl false], BadL HN wi v := fun v hv => by
   simp only [List.cons_append, List.nil_append, List.mem_cons, List.not_mem_nil, or_false] at hv
   rcases hv with rfl | rfl | rfl | rfl | rfl | rfl | rfl | rfl | rfl | rfl | rfl | rfl | rfl | rfl
   · exact ⟨.oth, at_non _, rfl⟩
   · exact ⟨.oth, at_lst (e1N _ _ d1), rfl⟩
   · refine badI (ks := ks ++ [wi]) (by rw [e3N _ _ d3, List.map_append]; rfl) (by rw [List.length_append]; show _ + 1 ≤ _; lia) fun z => ?_
     have := (z.bnd wi (by simp)).2
     lia
   · refine badI (ks := (0 - 1) :: ks) (e5N _ _ d5) (by rw [List.length_cons]; lia) fun z => ?_
     have := (z.bnd (0 - 1) (by simp)).1
     lia
   · refine badI (ks := (ks ++ (cs ++ cs)) ++ [99]) (by rw [eAN _ _ dA, List.map_append (l₁ := ks ++ (cs ++ cs))]; rfl) (by rw [List.length_append, List.length_append, List.length_append]; show _ + 1 ≤ _; lia) fun z => ?_
     have := (z.bnd 99 (by simp)).2
     lia
   · exact bad1 (eBN _ _ dB) (at_bl _ _) rfl
   · exact ⟨.oth, at_str _ _, rfl⟩
   · exact ⟨.int 0, at_int _ _, rfl⟩
   · exact ⟨.oth, at_dct (eCN _ _ dC), rfl⟩
   · refine badI (ks := ks.reverse ++ [0, 0]) (by rw [eGN _ _ dG, List.map_append, List.map_reverse]; rfl) (by rw [List.length_append, List.length_reverse]; show _ + 2 ≤ _; lia) fun z => ?_
     have := (List.pairwise_append.mp z.ris).2.1
     rw [List.pairwise_cons] at this
     have := this.1 0 (by simp)
     lia
   · exact bad1 (eHN _ _ dH) (at_non _) rfl
   · exact bad1 (eJN _ _ dJ) (at_tup (eIN _ _ dI) (by show (1 : Nat) ≤ 100; decide) (ats1 (at_int _ 0) (ats0 _))) rfl
   · refine badI (ks := ks ++ [10000000000000000000000000000000000000000]) (by rw [eLN _ _ dL, List.map_append]; rfl) (by rw [List.length_append]; show _ + 1 ≤ _; lia) fun z => ?_
     have := (z.bnd 10000000000000000000000000000000000000000 (by simp)).2
     lia
   · exact ⟨.oth, at_bl _ _, rfl⟩
 generalize hL : [V.non, V.ref l1, V.ref q3, V.ref q5, V.ref qa, V.ref qb, V.str "0", V.int 0, V.ref qc] ++ [V.ref qg, V.ref qh, V.ref qj, V.ref ql, V.bl false] = L at dN bad
 have hLl : L.length = 14 := by rw [← hL]; rfl
 clear e1N e2N e3N e4N e5N e6N e7N e8N e9N eAN eBN eCN eDN eEN eFN eGN eHN eIN eJN eKN eLN
 have tabN := tab.ext e0N
 have lp : l4 ≠ p := fun z => by
   rw [z, e0M _ _ hp] at nN
   cases nN
 have lt : l4 ≠ tb := fun z => by
   rw [z] at nN
   rcases tab.ext e0M with t | ⟨d, t, _⟩
   · rw [t] at nN; cases nN
   · rw [t] at nN; cases nN
 refine ⟨_, rfl, by show (0 : Nat) ≤ _; decide, fun qm HO dO eO => ?_⟩
 refine ⟨_, rfl, b, _, 0, _, rfl, rfl, SqT.of (eO _ _ (e0N _ _ b1)), rfl, wi, rfl, fun rg hrg => ?_⟩
 have eP : Ext HO (L2.upd HO rg (.rng 0 wi)) := (Ext.refl _).new hrg _
 have dP : (L2.upd HO rg (.rng 0 wi)) rg = some (.rng 0 wi) := j7
 generalize L2.upd HO rg (.rng 0 wi) = HP at eP dP
 refine ⟨rg, 0, wi, rfl, dP, by decide, w0, by lia, fun qt hqt => ?_⟩
 have eQ : Ext HP (L2.upd HP qt (.tup ((yK 0 (wi - 0).toNat).map V.int))) := (Ext.refl _).new hqt _
 have dQ : (L2.upd HP qt (.tup ((yK 0 (wi - 0).toNat).map V.int))) qt = some (.tup ((yK 0 (wi - 0).toNat).map V.int)) := j7
 show tCons _ _ _ (L2.upd HP qt (.tup ((yK 0 (wi - 0).toNat).map V.int))) _
 generalize L2.upd HP qt (.tup ((yK 0 (wi - 0).toNat).map V.int)) = HQ at eQ dQ
 refine ⟨_, rfl, by show (4 : Nat) ≤ _; decide, fun l5 HR dR eR nR => ?_⟩
 have eNR := ((eO.trans eP).trans eQ).trans eR
 have e0R := e0N.trans eNR
 have tabR := tab.ext e0R
 have k0 : KeepP tb p HN HR := ⟨fun c o h _ _ => eNR _ _ h, ⟨N, e0N _ _ hp⟩, N, e0R _ _ hp, hN⟩
 have lots : ∀ v ∈ [V.ref a, V.ref qm, V.ref qt, V.ref a], LotT HR wi v := fun v hv => by
   simp only [List.mem_cons, List.not_mem_nil, or_false] at hv
   rcases hv with rfl | rfl | rfl | rfl
   · exact lotT_of (e0R _ _ ha) rk
   · exact lotT_of (ks := []) (eR _ _ (eQ _ _ (eP _ _ dO))) (Ris.nil _)
   · refine lotT_of (eR _ _ dQ) ?_
     rw [intsFr_upto]
     have := upto_ris wi.toNat
     refine ⟨this.ris, fun z hz => ?_⟩
     have := this.bnd z hz
     lia
   · exact lotT_of (e0R _ _ ha) rk
 have lR : HR l4 = some (.lst L) := eNR _ _ dN
 have badR : ∀ v ∈ L, BadL HR wi v := fun v hv => k0.bad tabN (bad v hv)
 have l5p : l5 ≠ p := fun z => by
   rw [z, eQ _ _ (eP _ _ (eO _ _ (e0N _ _ hp)))] at nR
   cases nR
 have l5t : l5 ≠ tb := fun z => by
   rw [z] at nR
   rcases ((tabN.ext eO).ext eP).ext eQ with t | ⟨d, t, _⟩
   · rw [t] at nR; cases nR
   · rw [t] at nR; cases nR
 refine ⟨l5, rfl, ⟨_, SqL.of dR⟩, for_list (xs := [V.ref a, V.ref qm, V.ref qt, V.ref a]) (fun i σ H' => (∃ v7, σ = [v0, some (.ref b), v2, some (.ref p), v4, some (.ref a), some (.ref l4), v7]) ∧ KeepP tb p HR H' ∧ TabP H' tb) ⟨⟨_, rfl⟩, ⟨fun c o h _ _ => h, ⟨N, e0R _ _ hp⟩, N, e0R _ _ hp, hN⟩, tabR⟩ (fun i σ H' _ ⟨_, k, _⟩ => SqL.of (k.k _ _ dR l5t l5p)) ?_ ?_⟩
 · rintro i x σ H' hx ⟨⟨v7, rfl⟩, kk, t'⟩
   obtain ⟨N', p1, p2⟩ := kk.p1
   exact turn2_read T CC CP CT CD CI CN CW CR hr p1 p2 ((hB.mono e0R.tups).mono (kk.tups tabR)) g (kk.lot tabR (lots x (List.mem_of_getElem? hx))) t' lt lp (kk.k _ _ lR lt lp) hLl (fun v hv => kk.bad tabR (badR v hv)) fun H2 k2 t2 => ⟨⟨_, rfl⟩, kk.trans k2, t2⟩
 · rintro σ H' ⟨⟨v7, rfl⟩, kk, t'⟩
   exact nx H' _ _ (fun c o h n1 n2 => kk.k _ _ (e0R _ _ h) n1 n2) t'
theorem bits_ris (n : Int) {w : Int} (w0 : 0 ≤ w) : Ris w (bits n w.toNat) := by
 refine ⟨?_, fun z hz => ?_⟩
 · unfold bits
   rw [List.pairwise_map]
   have := (List.pairwise_lt_range (n := w.toNat)).filter (fun t => decide (Builtin.bitAnd (n / 2 ^ t) 1 = 1))
   exact this.imp fun h => by lia
 · unfold bits at hz
   obtain ⟨t, ht, rfl⟩ := List.mem_map.mp hz
   have := List.mem_range.mp (List.mem_filter.mp ht).1
   lia
theorem turn1_read (T : Txt mg) (CC : Can P w K mg base "_law_cell_at" 1 fC fdC ["script", "k"] (yJ K)) (CP : Can P w K mg base "_law_pot" 1 fP fdP ["cell"] yS) (CT : Can P w K mg base "_law_take" 1 fT fdT ["pot", "wide"] jW) (CD : Can P w K mg base "_law_drawn" 4 fD fdD ["script", "k", "things", "pieces"] (spDrawn K)) (CI : Can P w K mg base "_law_is_box" 3 fI fdI ["found", "due"] spIsBox) (CN : Can P w K mg base "narrowed" 4 fN fdN ["box", "lot"] (fun vs H Q _ => jZ tb vs H Q fun _ _ _ => False)) (CW : Can P w K mg base "_law_narrowed" 1 fW fdW ["box", "lot"] spWNarrow) (CR : Can P w K mg base "_law_refused" 6 fR fdR ["box", "thing"] (spRefused tb)) (hr : Room 6 (XLaw P w K mg base f cdv A outer s H0 E).A)
   {D : Ends} {H : Hp} {a b : Addr} {ns : List Int} {k : Int} {wi : Int} {ms : List Int} {pcs : List (List Int × Int)} {v3 v4 v5 v6 v7 : Option V} (hS : SqL K H a (ns.map V.int)) (k0 : 0 ≤ k) (hB : BoxAt H b wi ms pcs) (g : Good 16 32 wi ms pcs) (tab : TabP H tb)
   (nx : ∀ H' v3 v4 v5 v6 v7, ExtT tb H H' → TabP H' tb → D.nx [some (.ref a), some (.ref b), some (.int k), v3, v4, v5, v6, v7] H') :
   (turn1A T CC CP CT CD CI CN CW CR hr).1 D [some (.ref a), some (.ref b), some (.int k), v3, v4, v5, v6, v7] H := by
 have w0 := g.w0
 have w1 := g.w1
 obtain ⟨qm, qp, ps, b1, b2, b3, b4⟩ := id hB.ex
 refine ⟨_, rfl, _, rfl, a, ns, k, rfl, hS, k0, fun c => ?_⟩
 refine ⟨c, rfl, fun p N hp hN => ?_⟩
 have e1 : Ext H (L2.upd H p (.lst [.int N])) := (Ext.refl _).new hp _
 have d1 : (L2.upd H p (.lst [.int N])) p = some (.lst [.int N]) := j7
 generalize L2.upd H p (.lst [.int N]) = H1 at e1 d1
 have pw : (2 : Int) ^ wi.toNat = ((2 ^ wi.toNat : Nat) : Int) := by rw [Int.natCast_pow]; rfl
 have pw1 : 1 ≤ 2 ^ wi.toNat := Nat.one_le_two_pow
 have pw2 : 2 ^ wi.toNat ≤ 2 ^ 16 := Nat.pow_le_pow_right (by decide) (by lia)
 refine ⟨_, rfl, _, rfl, b, _, 0, _, rfl, rfl, SqT.of (e1 _ _ b1), rfl, _, _, rfl, rfl, ⟨by lia, by lia, by decide⟩, p, N, _, rfl, d1, hN, ?_, ?_, fun N2 r a1 a2 a3 => ?_⟩
 · rw [pw]
   generalize 2 ^ wi.toNat = m at pw1 pw2
   lia
 · rw [pw]
   generalize 2 ^ wi.toNat = m at pw1 pw2
   lia
 have e2 : Ext H (L2.upd H1 p (.lst [.int N2])) := fun c o h => by
   rw [jA (fun z => by rw [z, hp] at h; cases h)]
   exact e1 _ _ h
 have d2 : (L2.upd H1 p (.lst [.int N2])) p = some (.lst [.int N2]) := j7
 generalize L2.upd H1 p (.lst [.int N2]) = H2 at e2 d2
 refine ⟨_, rfl, b, _, 0, _, rfl, rfl, SqT.of (e2 _ _ b1), rfl, wi, rfl, by lia, by lia, comp_rng (n := wi.toNat) (by rw [PySem.sizeLine_eq]; lia) (fun D i σ' H' ys => (∃ v, σ' = [v, some (.int r)]) ∧ ys = (bits r i).map V.int ∧ Ext H2 H' ∧ H' D = some (.lst ys) ∧ H2 D = none) ?_ ?_ ?_ ?_⟩
 · intro D hD
   exact ⟨⟨_, rfl⟩, rfl, (Ext.refl _).new hD _, j7, hD⟩
 · rintro D i σ' H' ys hD hi ⟨_, rfl, e, h2, _⟩
   refine ⟨h2, ?_⟩
   rw [List.length_map]
   unfold bits
   rw [List.length_map]
   exact Nat.le_trans (List.length_filter_le _ _) (by rw [List.length_range]; exact Nat.le_refl _)
 · rintro D i σ' H' ys hD hi ⟨⟨v, rfl⟩, rfl, e, h2, hn⟩
   refine ⟨_, rfl, _, rfl, _, _, rfl, rfl, (by show (0 : Int) ≤ 0 + (i : Int); lia), _, _, rfl, rfl, rfl, _, rfl, ?_⟩
   have ei : (0 + (i : Int)).toNat = i := by lia
   refine ite2 (fun hb => ?_) (fun hb => ?_)
   · have hb : Builtin.bitAnd (r / 2 ^ i) 1 = 1 := by
       have := of_decide_eq_true hb
       rw [ei] at this
       exact V.int.inj this
     refine ⟨_, rfl, h2, ⟨_, rfl⟩, ?_, e.updNew hn _, j7, hn⟩
     rw [bits_succ, if_pos (decide_eq_true hb), List.map_append]
     congr 1
     show [V.int (0 + (i : Int))] = [V.int (i : Int)]
     rw [Int.zero_add]
   · have hb : ¬ Builtin.bitAnd (r / 2 ^ i) 1 = 1 := fun e => hb (decide_eq_true (by rw [ei]; exact congrArg V.int e))
     have eb : bits r (i + 1) = bits r i := by rw [bits_succ, if_neg (by simpa using hb), List.append_nil]
     exact ⟨⟨_, rfl⟩, by rw [eb], e, h2, hn⟩
 · rintro D' σ' H3 ys hD ⟨_, rfl, e3, h3, n3⟩
   refine ⟨D', _, rfl, .inl ⟨SqL.of h3, fun qq hqq => ?_⟩⟩
   have e4 : Ext H3 (L2.upd H3 qq (.tup ((bits r wi.toNat).map V.int))) := (Ext.refl _).new hqq _
   have d4 : (L2.upd H3 qq (.tup ((bits r wi.toNat).map V.int))) qq = some (.tup ((bits r wi.toNat).map V.int)) := j7
   generalize L2.upd H3 qq (.tup ((bits r wi.toNat).map V.int)) = H4 at e4 d4
   have E4 := (e2.trans e3).trans e4
   have p4 := e4 _ _ (e3 _ _ d2)
   exact tail_read T CC CP CT CD CI CN CW CR hr p4 a1 (hB.mono E4.tups) g d4 (bits_ris r w0) (tab.ext E4) fun H5 v6 v7 k5 t5 => nx H5 _ _ _ _ _ (fun c o h n => k5 _ _ (E4 _ _ h) n fun z => by rw [z, hp] at h; cases h) t5
noncomputable def spLaw (K : W.Frag) (tb : Addr) : Sp := fun vs H Q _ => ∃ (a : Addr) (ns : List Int), vs = [.ref a] ∧ SqL K H a (ns.map V.int) ∧ ns.length ≤ 63 ∧ TabP H tb ∧ ∀ H', Q (.bl true) H'
theorem ok_law {fd : FuncData} (F : Fun K "law" "law" sLaw f fd) (T : Txt mg) (CC : Can P w K mg base "_law_cell_at" 1 fC fdC ["script", "k"] (yJ K)) (CP : Can P w K mg base "_law_pot" 1 fP fdP ["cell"] yS) (CT : Can P w K mg base "_law_take" 1 fT fdT ["pot", "wide"] jW) (CD : Can P w K mg base "_law_drawn" 4 fD fdD ["script", "k", "things", "pieces"] (spDrawn K)) (CI : Can P w K mg base "_law_is_box" 3 fI fdI ["found", "due"] spIsBox) (CN : Can P w K mg base "narrowed" 4 fN fdN ["box", "lot"] (fun vs H Q _ => jZ tb vs H Q fun _ _ _ => False)) (CW : Can P w K mg base "_law_narrowed" 1 fW fdW ["box", "lot"] spWNarrow) (CR : Can P w K mg base "_law_refused" 6 fR fdR ["box", "thing"] (spRefused tb)) : FnOk P w K mg base CX0 7 f fd ["script"] (spLaw K tb) := by
 refine F.ok scLaw (fun vs H Q E h => ?_) (fun cdv A outer s H vs Q E hr h => ?_)
 · obtain ⟨_, _, rfl, _⟩ := h
   rfl
 · obtain ⟨a, ns, rfl, hS, hn, tab, q⟩ := h
   refine ⟨_, (lawA T CC CP CT CD CI CN CW CR hr).2.h, ?_⟩
   refine ⟨_, rfl, a, ns, 0, 6, 10, rfl, hS, by decide, by decide, by decide, by decide, by decide, fun b wi ms pcs H1 B1 g0 e1 => ?_⟩
   have g : Good 16 32 wi ms pcs := g0.wide (by decide) (by decide)
   have tab1 := tab.ext e1
   have S1 := hS.extT (ExtT.of e1) tab
   refine ⟨1, 6, rfl, by decide, for_range (n := 5) (fun i σ H' => (∃ v2 v3 v4 v5 v6 v7, σ = [some (.ref a), some (.ref b), v2, v3, v4, v5, v6, v7]) ∧ ExtT tb H1 H' ∧ TabP H' tb) ⟨⟨_, _, _, _, _, _, rfl⟩, ExtT.refl _, tab1⟩ ?_ ?_⟩
   · rintro i σ H' hi ⟨⟨v2, v3, v4, v5, v6, v7, rfl⟩, e, t'⟩
     exact turn1_read T CC CP CT CD CI CN CW CR hr (S1.extT e tab1) (by lia) (B1.mono (Tups.ofT e tab1)) g t' fun H2 v3 v4 v5 v6 v7 e2 t2 => ⟨⟨_, _, _, _, _, _, rfl⟩, e.trans e2, t2⟩
   · rintro σ H2 ⟨⟨v2, v3, v4, v5, v6, v7, rfl⟩, e2, t2⟩
     exact q H2
end
end Eo
end
section
namespace Eo
open PySem L2
theorem lenU1 {P : List Value → Prop} : ∀ {us : List Value}, us.length = 1 → (∀ a, P [a]) → P us
 | [a], _, h => h a
theorem yU {P : List Value → Prop} : ∀ {us : List Value}, us.length = 2 → (∀ a b, P [a, b]) → P us
 | [a, b], _, h => h a b
theorem lenU3 {P : List Value → Prop} : ∀ {us : List Value}, us.length = 3 → (∀ a b c, P [a, b, c]) → P us
 | [a, b, c], _, h => h a b c
theorem lenU4 {P : List Value → Prop} : ∀ {us : List Value}, us.length = 4 → (∀ a b c d, P [a, b, c, d]) → P us
 | [a, b, c, d], _, h => h a b c d
set_option maxHeartbeats 8000000 in
theorem all_mk {l : PySem.W.OpenLaw} {w : World} {K : W.Frag} {h : Heap} {mg : Str → Option Value} {fa f1 f2 f3 f4 f5 f6 f7 f8 f9 f10 f11 f12 f13 f14 f15 f16 f17 f18 f19 f20 f21 : Addr} (X : K.In h) (G : h.Ns mainGlobals mg) (hfa : mg "law" = some (.ref fa))
   {od1 an1 od2 an2 od3 an3 od4 an4 od5 an5 od6 an6 od7 an7 od8 an8 od9 an9 od10 an10 od11 an11 od12 an12 od13 an13 od14 an14 od15 an15 od16 an16 od17 an17 od18 an18 od19 an19 od20 an20 od21 an21 : Option Addr} {sl1 sl2 sl3 sl4 sl5 sl6 sl7 sl8 sl9 sl10 sl11 sl12 sl13 sl14 sl15 sl16 sl17 sl18 sl19 sl20 sl21 : Array (Option Value)} {oc1 kV1 dc1 pm1 cd1 ct1 oc2 kV2 dc2 pm2 cd2 ct2 oc3 kV3 dc3 pm3 cd3 ct3 oc4 kV4 dc4 pm4 cd4 ct4 oc5 kV5 dc5 pm5 cd5 ct5 oc6 kV6 dc6 pm6 cd6 ct6 oc7 kV7 dc7 pm7 cd7 ct7 oc8 kV8 dc8 pm8 cd8 ct8 oc9 kV9 dc9 pm9 cd9 ct9 oc10 kV10 dc10 pm10 cd10 ct10 oc11 kV11 dc11 pm11 cd11 ct11 oc12 kV12 dc12 pm12 cd12 ct12 oc13 kV13 dc13 pm13 cd13 ct13 oc14 kV14 dc14 pm14 cd14 ct14 oc15 kV15 dc15 pm15 cd15 ct15 oc16 kV16 dc16 pm16 cd16 ct16 oc17 kV17 dc17 pm17 cd17 ct17 oc18 kV18 dc18 pm18 cd18 ct18 oc19 kV19 dc19 pm19 cd19 ct19 oc20 kV20 dc20 pm20 cd20 ct20 oc21 kV21 dc21 pm21 cd21 ct21 : Value}
   (a1 : PySem.W.nsIn K mainGlobals "is_whole" = some (some (.ref f1))) (l1 : K.lookup f1 = some ⟨oc1, od1, .func (PySem.W.fnOf "is_whole" "is_whole" (jM sWhole0) (jC sWhole0) (j8 sWhole0) .none kV1 dc1 pm1 an1 cd1 ct1), sl1⟩) (c1 : PySem.W.codeIn K cd1 "is_whole" = true) (k1 : PySem.W.keepIn K (.ref f1) = true)
   (a2 : PySem.W.nsIn K mainGlobals "is_rising" = some (some (.ref f2))) (l2 : K.lookup f2 = some ⟨oc2, od2, .func (PySem.W.fnOf "is_rising" "is_rising" (jM y4) (jC y4) (j8 y4) .none kV2 dc2 pm2 an2 cd2 ct2), sl2⟩) (c2 : PySem.W.codeIn K cd2 "is_rising" = true) (k2 : PySem.W.keepIn K (.ref f2) = true)
   (a3 : PySem.W.nsIn K mainGlobals "is_lot" = some (some (.ref f3))) (l3 : K.lookup f3 = some ⟨oc3, od3, .func (PySem.W.fnOf "is_lot" "is_lot" (jM sIsLot) (jC sIsLot) (j8 sIsLot) .none kV3 dc3 pm3 an3 cd3 ct3), sl3⟩) (c3 : PySem.W.codeIn K cd3 "is_lot" = true) (k3 : PySem.W.keepIn K (.ref f3) = true)
   (a4 : PySem.W.nsIn K mainGlobals "picked" = some (some (.ref f4))) (l4 : K.lookup f4 = some ⟨oc4, od4, .func (PySem.W.fnOf "picked" "picked" (jM jX) (jC jX) (j8 jX) .none kV4 dc4 pm4 an4 cd4 ct4), sl4⟩) (c4 : PySem.W.codeIn K cd4 "picked" = true) (k4 : PySem.W.keepIn K (.ref f4) = true)
   (a5 : PySem.W.nsIn K mainGlobals "many" = some (some (.ref f5))) (l5 : K.lookup f5 = some ⟨oc5, od5, .func (PySem.W.fnOf "many" "many" (jM sMany) (jC sMany) (j8 sMany) .none kV5 dc5 pm5 an5 cd5 ct5), sl5⟩) (c5 : PySem.W.codeIn K cd5 "many" = true) (k5 : PySem.W.keepIn K (.ref f5) = true)
   (a6 : PySem.W.nsIn K mainGlobals "have_common" = some (some (.ref f6))) (l6 : K.lookup f6 = some ⟨oc6, od6, .func (PySem.W.fnOf "have_common" "have_common" (jM sCommon) (jC sCommon) (j8 sCommon) .none kV6 dc6 pm6 an6 cd6 ct6), sl6⟩) (c6 : PySem.W.codeIn K cd6 "have_common" = true) (k6 : PySem.W.keepIn K (.ref f6) = true)
   (a7 : PySem.W.nsIn K mainGlobals "narrowed" = some (some (.ref f7))) (l7 : K.lookup f7 = some ⟨oc7, od7, .func (PySem.W.fnOf "narrowed" "narrowed" (jM yG) (jC yG) (j8 yG) .none kV7 dc7 pm7 an7 cd7 ct7), sl7⟩) (c7 : PySem.W.codeIn K cd7 "narrowed" = true) (k7 : PySem.W.keepIn K (.ref f7) = true)
   (a8 : PySem.W.nsIn K mainGlobals "is_bar" = some (some (.ref f8))) (l8 : K.lookup f8 = some ⟨oc8, od8, .func (PySem.W.fnOf "is_bar" "is_bar" (jM sBar) (jC sBar) (j8 sBar) .none kV8 dc8 pm8 an8 cd8 ct8), sl8⟩) (c8 : PySem.W.codeIn K cd8 "is_bar" = true) (k8 : PySem.W.keepIn K (.ref f8) = true)
   (a9 : PySem.W.nsIn K mainGlobals "_law_cell_at" = some (some (.ref f9))) (l9 : K.lookup f9 = some ⟨oc9, od9, .func (PySem.W.fnOf "_law_cell_at" "_law_cell_at" (jM sCell) (jC sCell) (j8 sCell) .none kV9 dc9 pm9 an9 cd9 ct9), sl9⟩) (c9 : PySem.W.codeIn K cd9 "_law_cell_at" = true) (k9 : PySem.W.keepIn K (.ref f9) = true)
   (a10 : PySem.W.nsIn K mainGlobals "_law_pot" = some (some (.ref f10))) (l10 : K.lookup f10 = some ⟨oc10, od10, .func (PySem.W.fnOf "_law_pot" "_law_pot" (jM sPot) (jC sPot) (j8 sPot) .none kV10 dc10 pm10 an10 cd10 ct10), sl10⟩) (c10 : PySem.W.codeIn K cd10 "_law_pot" = true) (k10 : PySem.W.keepIn K (.ref f10) = true)
   (a11 : PySem.W.nsIn K mainGlobals "_law_take" = some (some (.ref f11))) (l11 : K.lookup f11 = some ⟨oc11, od11, .func (PySem.W.fnOf "_law_take" "_law_take" (jM sTake) (jC sTake) (j8 sTake) .none kV11 dc11 pm11 an11 cd11 ct11), sl11⟩) (c11 : PySem.W.codeIn K cd11 "_law_take" = true) (k11 : PySem.W.keepIn K (.ref f11) = true)
   (a12 : PySem.W.nsIn K mainGlobals "_law_lot" = some (some (.ref f12))) (l12 : K.lookup f12 = some ⟨oc12, od12, .func (PySem.W.fnOf "_law_lot" "_law_lot" (jM sLot) (jC sLot) (j8 sLot) .none kV12 dc12 pm12 an12 cd12 ct12), sl12⟩) (c12 : PySem.W.codeIn K cd12 "_law_lot" = true) (k12 : PySem.W.keepIn K (.ref f12) = true)
   (a13 : PySem.W.nsIn K mainGlobals "_law_box" = some (some (.ref f13))) (l13 : K.lookup f13 = some ⟨oc13, od13, .func (PySem.W.fnOf "_law_box" "_law_box" (jM sBox) (jC sBox) (j8 sBox) .none kV13 dc13 pm13 an13 cd13 ct13), sl13⟩) (c13 : PySem.W.codeIn K cd13 "_law_box" = true) (k13 : PySem.W.keepIn K (.ref f13) = true)
   (a14 : PySem.W.nsIn K mainGlobals "_law_whole" = some (some (.ref f14))) (l14 : K.lookup f14 = some ⟨oc14, od14, .func (PySem.W.fnOf "_law_whole" "_law_whole" (jM sWhole) (jC sWhole) (j8 sWhole) .none kV14 dc14 pm14 an14 cd14 ct14), sl14⟩) (c14 : PySem.W.codeIn K cd14 "_law_whole" = true) (k14 : PySem.W.keepIn K (.ref f14) = true)
   (a15 : PySem.W.nsIn K mainGlobals "_law_wholes" = some (some (.ref f15))) (l15 : K.lookup f15 = some ⟨oc15, od15, .func (PySem.W.fnOf "_law_wholes" "_law_wholes" (jM yE) (jC yE) (j8 yE) .none kV15 dc15 pm15 an15 cd15 ct15), sl15⟩) (c15 : PySem.W.codeIn K cd15 "_law_wholes" = true) (k15 : PySem.W.keepIn K (.ref f15) = true)
   (a16 : PySem.W.nsIn K mainGlobals "_law_drawn" = some (some (.ref f16))) (l16 : K.lookup f16 = some ⟨oc16, od16, .func (PySem.W.fnOf "_law_drawn" "_law_drawn" (jM sDrawn) (jC sDrawn) (j8 sDrawn) .none kV16 dc16 pm16 an16 cd16 ct16), sl16⟩) (c16 : PySem.W.codeIn K cd16 "_law_drawn" = true) (k16 : PySem.W.keepIn K (.ref f16) = true)
   (a17 : PySem.W.nsIn K mainGlobals "_law_narrowed" = some (some (.ref f17))) (l17 : K.lookup f17 = some ⟨oc17, od17, .func (PySem.W.fnOf "_law_narrowed" "_law_narrowed" (jM kU) (jC kU) (j8 kU) .none kV17 dc17 pm17 an17 cd17 ct17), sl17⟩) (c17 : PySem.W.codeIn K cd17 "_law_narrowed" = true) (k17 : PySem.W.keepIn K (.ref f17) = true)
   (a18 : PySem.W.nsIn K mainGlobals "_law_others" = some (some (.ref f18))) (l18 : K.lookup f18 = some ⟨oc18, od18, .func (PySem.W.fnOf "_law_others" "_law_others" (jM yF) (jC yF) (j8 yF) .none kV18 dc18 pm18 an18 cd18 ct18), sl18⟩) (c18 : PySem.W.codeIn K cd18 "_law_others" = true) (k18 : PySem.W.keepIn K (.ref f18) = true)
   (a19 : PySem.W.nsIn K mainGlobals "_law_is_box" = some (some (.ref f19))) (l19 : K.lookup f19 = some ⟨oc19, od19, .func (PySem.W.fnOf "_law_is_box" "_law_is_box" (jM yM) (jC yM) (j8 yM) .none kV19 dc19 pm19 an19 cd19 ct19), sl19⟩) (c19 : PySem.W.codeIn K cd19 "_law_is_box" = true) (k19 : PySem.W.keepIn K (.ref f19) = true)
   (a20 : PySem.W.nsIn K mainGlobals "_law_refused" = some (some (.ref f20))) (l20 : K.lookup f20 = some ⟨oc20, od20, .func (PySem.W.fnOf "_law_refused" "_law_refused" (jM kW) (jC kW) (j8 kW) .none kV20 dc20 pm20 an20 cd20 ct20), sl20⟩) (c20 : PySem.W.codeIn K cd20 "_law_refused" = true) (k20 : PySem.W.keepIn K (.ref f20) = true)
   (a21 : PySem.W.nsIn K mainGlobals "law" = some (some (.ref f21))) (l21 : K.lookup f21 = some ⟨oc21, od21, .func (PySem.W.fnOf "law" "law" (jM sLaw) (jC sLaw) (j8 sLaw) .none kV21 dc21 pm21 an21 cd21 ct21), sl21⟩) (c21 : PySem.W.codeIn K cd21 "law" = true) (k21 : PySem.W.keepIn K (.ref f21) = true)
    (z1 : PySem.W.nsIn K mainGlobals "len" = some none) (z2 : PySem.W.nsIn K mainGlobals "range" = some none) (z3 : PySem.W.nsIn K mainGlobals "tuple" = some none) (z4 : PySem.W.nsIn K mainGlobals "sorted" = some none) (z5 : PySem.W.nsIn K mainGlobals "set" = some none) (z6 : PySem.W.nsIn K mainGlobals "list" = some none) (z7 : PySem.W.nsIn K mainGlobals "int" = some none) (z8 : PySem.W.nsIn K mainGlobals "isinstance" = some none) (z9 : PySem.W.nsIn K mainGlobals "bool" = some none) (z10 : PySem.W.nsIn K mainGlobals "str" = some none) (z11 : PySem.W.nsIn K mainGlobals "all" = some none) (z12 : PySem.W.nsIn K mainGlobals "zip" = some none) (z13 : PySem.W.nsIn K mainGlobals "max" = some none) (z14 : PySem.W.nsIn K mainGlobals "min" = some none) (z15 : PySem.W.nsIn K mainGlobals "any" = some none) (z16 : PySem.W.nsIn K mainGlobals "abs" = some none) (z17 : PySem.W.nsIn K mainGlobals "sum" = some none) (z18 : PySem.W.nsIn K mainGlobals "enumerate" = some none) (z19 : PySem.W.nsIn K mainGlobals "dict" = some none) (z20 : PySem.W.nsIn K mainGlobals "ValueError" = some none)
   {cT cO : Addr} {cl : Nat → Addr} (x0 : PySem.W.nsIn K mainGlobals "OnceError" = some (some (.ref cO))) (x1 : PySem.W.nsIn K mainGlobals "NoThing" = some (some (.ref cT))) (x2 : ExcK K cT) (x3 : Above K cT cO) (x4 : ExcIs K cT) (x5 : ∀ i x, refusals[i]? = some x → PySem.W.nsIn K mainGlobals x = some (some (.ref (cl i)))) (x6 : ∀ i, i < 10 → PySem.W.kitOne K (.ref cT) (.ref (cl i)) = some (decide (i = 7))) (x7 : PySem.W.kitOne K (.ref cT) (.type "ValueError") = some true) {tb1 cc1 : Addr} (cde1 : cd4 = .ref cc1) (hcd1 : PySem.W.codeHdIn K cc1 tb1 = true) {bmA : Addr} (xb1 : PySem.W.nsIn K mainGlobals "__builtins__" = some (some (.ref bmA))) (xb2 : K.lookup bmA = some ⟨.type "module", some builtinsNs, .plain, #[]⟩) (xb3 : bmA ≠ builtinsNs) (xb4 : bmA ≠ mainGlobals) :
   ∃ fd : FuncData, (∀ (s : Shared) (v : Value), BindsTo s fd ⟨[v], []⟩ [("script", v)]) ∧ ∀ base : Heap, K.In base → base.Ns mainGlobals mg → FnOk l.prog w K mg base CX0 7 fa fd ["script"] (spLaw K tb1) := by
 have e := hfa.symm.trans (PySem.W.mg_of X G a21)
 cases e
 have T : Txt mg := ⟨PySem.W.mg_none_of X G z1, PySem.W.mg_none_of X G z2, PySem.W.mg_none_of X G z3, PySem.W.mg_none_of X G z4, PySem.W.mg_none_of X G z5, PySem.W.mg_none_of X G z6, PySem.W.mg_none_of X G z7, PySem.W.mg_none_of X G z8, PySem.W.mg_none_of X G z9, PySem.W.mg_none_of X G z10, PySem.W.mg_none_of X G z11, PySem.W.mg_none_of X G z12, PySem.W.mg_none_of X G z13, PySem.W.mg_none_of X G z14, PySem.W.mg_none_of X G z15, PySem.W.mg_none_of X G z16, PySem.W.mg_none_of X G z17, PySem.W.mg_none_of X G z18, PySem.W.mg_none_of X G z19, PySem.W.mg_none_of X G z20⟩
 have F1 := kP (st := sWhole0) l1 c1 k1
 have b1 := F1.binds (ps := ["thing"]) fun _ _ _ _ _ _ us hl => lenU1 (P := fun us => bindArgs _ ⟨us, []⟩ = pure (List.zip _ us)) hl fun _ => rfl
 have F2 := kP (st := y4) l2 c2 k2
 have b2 := F2.binds (ps := ["thing"]) fun _ _ _ _ _ _ us hl => lenU1 (P := fun us => bindArgs _ ⟨us, []⟩ = pure (List.zip _ us)) hl fun _ => rfl
 have F3 := kP (st := sIsLot) l3 c3 k3
 have b3 := F3.binds (ps := ["thing", "many"]) fun _ _ _ _ _ _ us hl => yU (P := fun us => bindArgs _ ⟨us, []⟩ = pure (List.zip _ us)) hl fun _ _ => rfl
 have F4 := kP (st := jX) l4 c4 k4
 have b4 := F4.binds (ps := ["box", "things", "pieces"]) fun _ _ _ _ _ _ us hl => lenU3 (P := fun us => bindArgs _ ⟨us, []⟩ = pure (List.zip _ us)) hl fun _ _ _ => rfl
 have F5 := kP (st := sMany) l5 c5 k5
 have b5 := F5.binds (ps := ["box"]) fun _ _ _ _ _ _ us hl => lenU1 (P := fun us => bindArgs _ ⟨us, []⟩ = pure (List.zip _ us)) hl fun _ => rfl
 have F6 := kP (st := sCommon) l6 c6 k6
 have b6 := F6.binds (ps := ["one", "other"]) fun _ _ _ _ _ _ us hl => yU (P := fun us => bindArgs _ ⟨us, []⟩ = pure (List.zip _ us)) hl fun _ _ => rfl
 have F7 := kP (st := yG) l7 c7 k7
 have b7 := F7.binds (ps := ["box", "lot"]) fun _ _ _ _ _ _ us hl => yU (P := fun us => bindArgs _ ⟨us, []⟩ = pure (List.zip _ us)) hl fun _ _ => rfl
 have F8 := kP (st := sBar) l8 c8 k8
 have b8 := F8.binds (ps := ["box", "lot"]) fun _ _ _ _ _ _ us hl => yU (P := fun us => bindArgs _ ⟨us, []⟩ = pure (List.zip _ us)) hl fun _ _ => rfl
 have F9 := kP (st := sCell) l9 c9 k9
 have b9 := F9.binds (ps := ["script", "k"]) fun _ _ _ _ _ _ us hl => yU (P := fun us => bindArgs _ ⟨us, []⟩ = pure (List.zip _ us)) hl fun _ _ => rfl
 have F10 := kP (st := sPot) l10 c10 k10
 have b10 := F10.binds (ps := ["cell"]) fun _ _ _ _ _ _ us hl => lenU1 (P := fun us => bindArgs _ ⟨us, []⟩ = pure (List.zip _ us)) hl fun _ => rfl
 have F11 := kP (st := sTake) l11 c11 k11
 have b11 := F11.binds (ps := ["pot", "wide"]) fun _ _ _ _ _ _ us hl => yU (P := fun us => bindArgs _ ⟨us, []⟩ = pure (List.zip _ us)) hl fun _ _ => rfl
 have F12 := kP (st := sLot) l12 c12 k12
 have b12 := F12.binds (ps := ["pot", "wide"]) fun _ _ _ _ _ _ us hl => yU (P := fun us => bindArgs _ ⟨us, []⟩ = pure (List.zip _ us)) hl fun _ _ => rfl
 have F13 := kP (st := sBox) l13 c13 k13
 have b13 := F13.binds (ps := ["pot", "most_things", "most_pieces"]) fun _ _ _ _ _ _ us hl => lenU3 (P := fun us => bindArgs _ ⟨us, []⟩ = pure (List.zip _ us)) hl fun _ _ _ => rfl
 have F14 := kP (st := sWhole) l14 c14 k14
 have b14 := F14.binds (ps := ["found"]) fun _ _ _ _ _ _ us hl => lenU1 (P := fun us => bindArgs _ ⟨us, []⟩ = pure (List.zip _ us)) hl fun _ => rfl
 have F15 := kP (st := yE) l15 c15 k15
 have b15 := F15.binds (ps := ["found"]) fun _ _ _ _ _ _ us hl => lenU1 (P := fun us => bindArgs _ ⟨us, []⟩ = pure (List.zip _ us)) hl fun _ => rfl
 have F16 := kP (st := sDrawn) l16 c16 k16
 have b16 := F16.binds (ps := ["script", "k", "things", "pieces"]) fun _ _ _ _ _ _ us hl => lenU4 (P := fun us => bindArgs _ ⟨us, []⟩ = pure (List.zip _ us)) hl fun _ _ _ _ => rfl
 have F17 := kP (st := kU) l17 c17 k17
 have b17 := F17.binds (ps := ["box", "lot"]) fun _ _ _ _ _ _ us hl => yU (P := fun us => bindArgs _ ⟨us, []⟩ = pure (List.zip _ us)) hl fun _ _ => rfl
 have F18 := kP (st := yF) l18 c18 k18
 have b18 := F18.binds (ps := ["e", "own"]) fun _ _ _ _ _ _ us hl => yU (P := fun us => bindArgs _ ⟨us, []⟩ = pure (List.zip _ us)) hl fun _ _ => rfl
 have F19 := kP (st := yM) l19 c19 k19
 have b19 := F19.binds (ps := ["found", "due"]) fun _ _ _ _ _ _ us hl => yU (P := fun us => bindArgs _ ⟨us, []⟩ = pure (List.zip _ us)) hl fun _ _ => rfl
 have F20 := kP (st := kW) l20 c20 k20
 have b20 := F20.binds (ps := ["box", "thing"]) fun _ _ _ _ _ _ us hl => yU (P := fun us => bindArgs _ ⟨us, []⟩ = pure (List.zip _ us)) hl fun _ _ => rfl
 have F21 := kP (st := sLaw) l21 c21 k21
 refine ⟨PySem.W.fnOf "law" "law" (jM sLaw) (jC sLaw) (j8 sLaw) .none kV21 dc21 pm21 an21 cd21 ct21, fun s v => .of_eq rfl, fun base KB _ => ?_⟩
 have M := fun {x : Str} {f : Addr} (a : PySem.W.nsIn K mainGlobals x = some (some (.ref f))) => PySem.W.mg_of X G a
 have M' := fun {x : Str} {v : Value} (a : PySem.W.nsIn K mainGlobals x = some (some v)) => PySem.W.mg_of X G a
 have CD1 : PySem.W.CodeHd base cc1 tb1 := PySem.W.codeHd_of_K KB hcd1
 have FC1 : FunC K "picked" "picked" jX f4 _ cc1 := ⟨_, _, _, _, _, _, _, _, rfl, cde1 ▸ l4, cde1 ▸ c4⟩
 have BM : BltAt base mg := ⟨bmA, _, PySem.W.mg_of X G xb1, xb3, xb4, KB _ _ xb2, rfl, rfl, rfl⟩
 have KD : Kinds K mg cT cl (fun i => decide (i = 7)) := ⟨x4, fun i x h => M (x5 i x h), x6, x7⟩
 have C1 : Can l.prog w K mg base "is_whole" 1 f1 _ ["thing"] spWh := ⟨ok_whole0 F1 T, M a1, k1, b1⟩
 have C2 : Can l.prog w K mg base "is_rising" 2 f2 _ ["thing"] (spB risB) := ⟨ok_rising F2 T C1, M a2, k2, b2⟩
 have C3 : Can l.prog w K mg base "is_lot" 3 f3 _ ["thing", "many"] (spB2 lotB) := ⟨ok_isLot F3 T C2, M a3, k3, b3⟩
 have C4 : Can l.prog w K mg base "picked" 2 f4 _ ["box", "things", "pieces"] (spPicked tb1) := ⟨ok_picked FC1 T CD1 BM, M a4, k4, b4⟩
 have C5 : CanX cT l.prog w K mg base "many" 4 f5 _ ["box"] (fun _ _ _ _ => False) := ⟨FnOk.never, M a5, k5, b5⟩
 have C6 : Can l.prog w K mg base "have_common" 1 f6 _ ["one", "other"] spCommon := ⟨ok_common F6 T, M a6, k6, b6⟩
 have C7 : CanX cT l.prog w K mg base "narrowed" 4 f7 _ ["box", "lot"] (jZ tb1) := ⟨ok_narrowX F7 T C3 C4 C6 x2 (M x1), M a7, k7, b7⟩
 have C8 : CanX cT l.prog w K mg base "is_bar" 5 f8 _ ["box", "lot"] (spBarX tb1) := ⟨ok_barX F8 C7 C5, M a8, k8, b8⟩
 have C9 : Can l.prog w K mg base "_law_cell_at" 1 f9 _ ["script", "k"] (yJ K) := ⟨ok_cell F9 T, M a9, k9, b9⟩
 have C10 : Can l.prog w K mg base "_law_pot" 1 f10 _ ["cell"] yS := ⟨ok_pot F10 T, M a10, k10, b10⟩
 have C11 : Can l.prog w K mg base "_law_take" 1 f11 _ ["pot", "wide"] jW := ⟨ok_take F11, M a11, k11, b11⟩
 have C12 : Can l.prog w K mg base "_law_lot" 2 f12 _ ["pot", "wide"] yP := ⟨ok_lot F12 T C11, M a12, k12, b12⟩
 have C13 : Can l.prog w K mg base "_law_box" 3 f13 _ ["pot", "most_things", "most_pieces"] spBox := ⟨ok_box F13 T C11 C12, M a13, k13, b13⟩
 have C14 : Can l.prog w K mg base "_law_whole" 1 f14 _ ["found"] spWh := ⟨ok_whole F14 T, M a14, k14, b14⟩
 have C15 : Can l.prog w K mg base "_law_wholes" 2 f15 _ ["found"] spWholes := ⟨ok_wholes F15 T C14, M a15, k15, b15⟩
 have C16 : Can l.prog w K mg base "_law_drawn" 4 f16 _ ["script", "k", "things", "pieces"] (spDrawn K) := ⟨ok_drawn F16 T C9 C10 C11 C13, M a16, k16, b16⟩
 have C17 : Can l.prog w K mg base "_law_narrowed" 1 f17 _ ["box", "lot"] spWNarrow := ⟨ok_wnarrow F17 T, M a17, k17, b17⟩
 have C18 : CanS l.prog w K mg base "_law_others" 1 f18 _ ["e", "own"] (spOthers cT fun i => decide (i = 7)) := ⟨ok_others F18 T KD, M a18, k18, b18⟩
 have C19 : Can l.prog w K mg base "_law_is_box" 3 f19 _ ["found", "due"] spIsBox := ⟨ok_isBox F19 T C14 C15, M a19, k19, b19⟩
 have C20 : Can l.prog w K mg base "_law_refused" 6 f20 _ ["box", "thing"] (spRefused tb1) := ⟨ok_refused F20 T C7 C8 C18 (M x0) x3, M a20, k20, b20⟩
 exact ok_law F21 T C9 C10 C11 C16 C19 (CanX.noX C7) C17 C20
noncomputable def kcl (i : Nat) : Addr := [157, 85, 169, 145, 121, 181, 73, 109, 133, 97].getD i 0
theorem kcC (P : Params) {h : Heap} (X : (kK P).In h) : h.get? 109 = some (excClassObj "NoThing" "NoThing" 109 108 [.ref 53] [.ref 53, .type "ValueError", .type "Exception", .type "BaseException", .type "object"] true [] [] false none none (some (.ref 100)) (none) (some (.str "NoThing" 301)) (some (.str "NoThing" 309)) (some (.bool true)) "ValueError.__new__") := X 109 _ (by kernel_rfl)
noncomputable def kesC (P : Params) : Array DictEntry := #[kE P "__module__" 308 (.str "eachonce.errors" 224), kE P "__firstlineno__" 312 (.int 35 311), kE P "__static_attributes__" 313 (.ref 107), kE P "__doc__" 314 (.none)]
theorem kNC (P : Params) {h : Heap} (X : (kK P).In h) : h.Ns 108 (nsFind (kesC P)) := ⟨⟨.type "dict", none, .dict (kesC P) 2, #[]⟩, _, _, X 108 _ (by kernel_rfl), rfl, fun e he => by
   unfold kesC at he
   simp only [List.mem_toArray, List.mem_cons, List.not_mem_nil, or_false] at he
   rcases he with rfl | rfl | rfl | rfl <;> exact ⟨_, _, rfl⟩, fun _ => rfl⟩
theorem kcB (P : Params) {h : Heap} (X : (kK P).In h) : h.get? 53 = some (excClassObj "OnceError" "OnceError" 53 52 [.type "ValueError"] [.type "ValueError", .type "Exception", .type "BaseException", .type "object"] true [] [.ref 73, .ref 85, .ref 97, .ref 109, .ref 121, .ref 133, .ref 145, .ref 157, .ref 169, .ref 181] false none none (some (.ref 44)) (none) (some (.str "OnceError" 226)) (some (.str "OnceError" 234)) (some (.bool true)) "ValueError.__new__") := X 53 _ (by kernel_rfl)
noncomputable def kesB (P : Params) : Array DictEntry := #[kE P "__module__" 233 (.str "eachonce.errors" 224), kE P "__firstlineno__" 237 (.int 24 236), kE P "__static_attributes__" 238 (.ref 51), kE P "__weakref__" 240 (.ref 54), kE P "__doc__" 241 (.none)]
theorem kNB (P : Params) {h : Heap} (X : (kK P).In h) : h.Ns 52 (nsFind (kesB P)) := ⟨⟨.type "dict", none, .dict (kesB P) 3, #[]⟩, _, _, X 52 _ (by kernel_rfl), rfl, fun e he => by
   unfold kesB at he
   simp only [List.mem_toArray, List.mem_cons, List.not_mem_nil, or_false] at he
   rcases he with rfl | rfl | rfl | rfl | rfl <;> exact ⟨_, _, rfl⟩, fun _ => rfl⟩
theorem kx2 (P : Params) : ExcK (kK P) 109 := ⟨"NoThing", "NoThing", 108, [.ref 53], [.ref 53, .type "ValueError", .type "Exception", .type "BaseException", .type "object"], true, [], [], false, none, none, some (.ref 100), none, some (.str "NoThing" 301), some (.str "NoThing" 309), some (.bool true), nsFind (kesC P), by kernel_rfl, by kernel_rfl, fun h X => ⟨kcC P X, kNC P X, .own (kcB P X) (kNB P X) (by kernel_rfl) .base⟩⟩
theorem kx3 (P : Params) : Above (kK P) 109 53 := ⟨"NoThing", "NoThing", "OnceError", "OnceError", 108, 52, [.ref 53], [.ref 53, .type "ValueError", .type "Exception", .type "BaseException", .type "object"], [.type "ValueError"], [.type "ValueError", .type "Exception", .type "BaseException", .type "object"], true, true, [], [], [], [.ref 73, .ref 85, .ref 97, .ref 109, .ref 121, .ref 133, .ref 145, .ref 157, .ref 169, .ref 181], false, false, none, none, none, none, some (.ref 100), none, some (.str "NoThing" 301), some (.str "NoThing" 309), some (.bool true), some (.ref 44), none, some (.str "OnceError" 226), some (.str "OnceError" 234), some (.bool true), "ValueError.__new__", "ValueError.__new__", by kernel_rfl, by kernel_rfl, fun h X => ⟨kcC P X, kcB P X⟩⟩
theorem kx4 (P : Params) : ExcIs (kK P) 109 := ⟨by kernel_rfl, by kernel_rfl, by kernel_rfl, by kernel_rfl, by kernel_rfl, by kernel_rfl, by kernel_rfl, by kernel_rfl⟩
theorem kx5 (P : Params) : ∀ i x, refusals[i]? = some x → PySem.W.nsIn (kK P) mainGlobals x = some (some (.ref (kcl i)))
 | 0, _, rfl | 1, _, rfl | 2, _, rfl | 3, _, rfl | 4, _, rfl | 5, _, rfl | 6, _, rfl | 7, _, rfl | 8, _, rfl | 9, _, rfl => by kernel_rfl
 | _ + 10, _, h => by cases h
theorem kx6 (P : Params) : ∀ i, i < 10 → PySem.W.kitOne (kK P) (.ref 109) (.ref (kcl i)) = some (decide (i = 7))
 | 0, _ | 1, _ | 2, _ | 3, _ | 4, _ | 5, _ | 6, _ | 7, _ | 8, _ | 9, _ => by kernel_rfl
 | _ + 10, h => by lia
theorem kx7 (P : Params) : PySem.W.kitOne (kK P) (.ref 109) (.type "ValueError") = some true := by kernel_rfl
theorem walk {l : PySem.W.OpenLaw} {q : Program} {loose : List Str} {XP : (Str → Option Value) → Heap → Prop} {YP : World → Heap → Prop} {d : DefRec} {K : Params → W.Frag} (hn : l.most = some 63) (hdf : d.params.defaults = []) {tb1 : Addr} {cc1 : Addr}
   (hY : ∀ (w : World) (h : Heap), YP w h → (K w.params).In h ∧ ∀ T ∈ [tb1], h.get? T = some (PySem.W.tabObj #[])) (hcd : ∀ w : World, PySem.W.codeHdIn (K w.params) cc1 tb1 = true) (hKT : ∀ w : World, ∀ T ∈ [tb1], (K w.params).lookup T = none) (hnd : ([tb1] : List Addr).Nodup)
   (F : ∀ (w : World) (mg : Str → Option Value) (fa : Addr) (h : Heap), (K w.params).In h → h.Ns mainGlobals mg → mg d.name = some (.ref fa) →
     ∃ fd : FuncData, (∀ (s : Shared) (u : Value), BindsTo s fd ⟨[u], []⟩ [("script", u)]) ∧ ∀ base : Heap, (K w.params).In base → base.Ns mainGlobals mg → FnOk l.prog w (K w.params) mg base CX0 7 fa fd ["script"] (spLaw (K w.params) tb1)) :
   PySem.W.WalkO q loose XP YP l.row.toRowW d [] (fun f vs => PySem.call f vs) :=
 L2.walk_ofTs (cts := [(cc1, tb1)]) (n := 63) (k := 7) (x := "script") (CX := fun _ => CX0) (sp := fun w => spLaw (K w.params) tb1) hn (by decide) hdf ⟨rfl, by decide, by decide⟩ hY (fun w p hp => by
   obtain _h0 := hcd w
   simp only [List.mem_cons, List.not_mem_nil, or_false] at hp
   rcases hp with rfl <;> assumption) hKT F (fun _ H a ns hl hT hS => ⟨a, ns, rfl, hS, hl, .inl (hT _ List.mem_cons_self), fun _ => rfl⟩) fun _ _ _ _ _ z => z
end Eo
open PySem PySem.W PyProof.Rows
set_option maxRecDepth 100000 in
set_option maxHeartbeats 0 in
theorem PySem.Challenge.cw_eachonce_k61_boxes_narrowed_holds : PySem.Challenge.rw_eachonce_k61_boxes_narrowed.Holds := by
 w_on
 refine holds_law (by decide +kernel) fun said => ?_
 refine holds_open (q := Eo.vw) (loose := []) (Xt := fun s => xlAt Eo.vw [] s && recOk (RowW.records (OpenRow.toRowW PySem.Challenge.rw_eachonce_k61_boxes_narrowed.row)) s) (XP := XL Eo.vw []) (Yf := Hook.obs Eo.kH) (Ya := Hook.val Eo.kH) (YP := Hook.says Eo.kH) (N := 7100) Eo.left (Hook.of Eo.kH) (Hook.keeps Eo.kH) (fun s e => xl_of s (Bool.and_eq_true_iff.mp e).1) XL.keeps (by rfl) (by rfl) (by rfl) (fun s e => recFacts_of (Bool.and_eq_true_iff.mp e).2) rfl said (by decide +kernel) ⟨rfl, rfl, rfl, rfl, rfl, by decide +kernel⟩ ?hw ?hc
 case hw => w_witness2
 refine Eo.walk (l := PySem.Challenge.rw_eachonce_k61_boxes_narrowed) (K := Eo.kK) rfl rfl (tb1 := 40) (cc1 := 42) (fun w h Y => ⟨PySem.W.km_in_of Y, PySem.W.km_tabs_of Y⟩) (fun w => by kernel_rfl) (fun w T hm => by
     simp only [List.mem_cons, List.not_mem_nil, or_false] at hm
     rcases hm with rfl <;> kernel_rfl) (by decide) ?F
 case F =>
   intro w mg fa h KX G hmg
   k_fill
   refine' Eo.all_mk KX G hmg _ _ _ _ _ _ _ _ _ _ _ _ _ _ _ _ _ _ _ _ _ _ _ _ _ _ _ _ _ _ _ _ _ _ _ _ _ _ _ _ _ _ _ _ _ _ _ _ _ _ _ _ _ _ _ _ _ _ _ _ _ _ _ _ _ _ _ _ _ _ _ _ _ _ _ _ _ _ _ _ _ _ _ _ _ _ _ _ _ _ _ _ _ _ _ _ _ _ _ _ _ _ _ _ _ _ (Eo.kx2 _) (Eo.kx3 _) (Eo.kx4 _) (Eo.kx5 _) (Eo.kx6 _) (Eo.kx7 _) (tb1 := 40) rfl (by kernel_rfl) (bmA := 4) (by kernel_rfl) (by kernel_rfl) (by decide) (by decide)
   all_goals try k_is
end
