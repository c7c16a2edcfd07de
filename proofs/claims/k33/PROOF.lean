import PyProof.Rows.All
import Wide.All
import OpenK.AllK
import Wide.FinOn
import PyProof.EqAt
import PyProof.EqKinds
import PyProof.TupleCall
import Lean
import PySem.SetOps
import PyProof.SetKind
import PyProof.DictKinds
import PyProof.CompMap
import PyProof.Walks
import PyProof.ZipIter
import PyProof.FactsAll.set_1
import PyProof.CollectWalk
import PyProof.WalksS
import PyProof.SetNew
import PyProof.Rows.SetFrom
import PyProof.Rows.SortShell
import PyProof.Rows.SortWalk
import PyProof.NeKinds
import PyProof.SumWalkG
import PyProof.FitsBits
import PyProof.Rows.IntMath
import PySem.Challenge.RW_eachonce_k33_papers_of_anything
set_option Elab.async false
set_option linter.all false
set_option maxRecDepth 100000
section
namespace SS
open PySem PySem.SetTable
abbrev Ris (xs : Array Nat) : Prop := xs.toList.Pairwise (· < ·)
theorem ris_get {xs : Array Nat} (h : Ris xs) {a b : Nat} (hab : a < b) (hb : b < xs.size) : xs.getD a 0 < xs.getD b 0 := by
 have h1 : a < xs.size := Nat.lt_trans hab hb
 have := List.pairwise_iff_getElem.mp h a b (by simpa using h1) (by simpa using hb) hab
 simpa [Array.getD, h1, hb] using this
theorem go_spec {xs : Array Nat} {j : Nat} (hr : Ris xs) : ∀ (fuel lo hi : Nat), hi - lo ≤ fuel → lo ≤ hi → hi ≤ xs.size → (∀ a, a < lo → xs.getD a 0 < j) → (∀ a, hi ≤ a → a < xs.size → j ≤ xs.getD a 0) →
   (below.go xs j fuel lo hi ≤ xs.size ∧ (∀ a, a < below.go xs j fuel lo hi → xs.getD a 0 < j) ∧ (∀ a, below.go xs j fuel lo hi ≤ a → a < xs.size → j ≤ xs.getD a 0)) := by
 intro fuel
 induction fuel with
 | zero =>
   intro lo hi h1 h2 h3 h4 h5
   have e : lo = hi := by omega
   subst e
   exact ⟨h3, h4, h5⟩
 | succ fuel ih =>
   intro lo hi h1 h2 h3 h4 h5
   unfold below.go
   by_cases hlt : lo < hi
   · rw [if_pos hlt]
     have hm : (lo + hi) / 2 < xs.size := by omega
     have e : xs.getD ((lo + hi) / 2) j = xs.getD ((lo + hi) / 2) 0 := by simp [Array.getD, hm]
     dsimp only
     rw [e]
     by_cases hc : xs.getD ((lo + hi) / 2) 0 < j
     · rw [if_pos hc]
       refine ih _ _ (by omega) (by omega) h3 (fun a ha => ?_) h5
       by_cases e2 : a = (lo + hi) / 2
       · rw [e2]; exact hc
       · exact Nat.lt_trans (ris_get hr (by omega) hm) hc
     · rw [if_neg hc]
       refine ih _ _ (by omega) (by omega) (by omega) h4 (fun a ha hs => ?_)
       by_cases e2 : a = (lo + hi) / 2
       · rw [e2]; omega
       · have := ris_get hr (show (lo + hi) / 2 < a by omega) hs
         omega
   · rw [if_neg hlt]
     have e : lo = hi := by omega
     subst e
     exact ⟨h3, h4, h5⟩
theorem below_spec {xs : Array Nat} (hr : Ris xs) (j : Nat) : below xs j ≤ xs.size ∧ (∀ a, a < below xs j → xs.getD a 0 < j) ∧ (∀ a, below xs j ≤ a → a < xs.size → j ≤ xs.getD a 0) :=
 go_spec hr xs.size 0 xs.size (by omega) (Nat.zero_le _) (Nat.le_refl _) (fun a h => absurd h (Nat.not_lt_zero _)) (fun a h1 h2 => absurd h2 (by omega))
theorem below_eq {xs : Array Nat} (hr : Ris xs) {j i : Nat} (hi : i ≤ xs.size) (h1 : ∀ a, a < i → xs.getD a 0 < j) (h2 : ∀ a, i ≤ a → a < xs.size → j ≤ xs.getD a 0) : below xs j = i := by
 obtain ⟨b1, b2, b3⟩ := below_spec hr j
 rcases Nat.lt_trichotomy (below xs j) i with h | h | h
 · have q1 := h1 _ h
   have q2 := b3 _ (Nat.le_refl _) (by omega)
   omega
 · exact h
 · have q1 := b2 _ h
   have q2 := h2 _ (Nat.le_refl _) (by omega)
   omega
theorem toList_insertAt {α : Type} (xs : Array α) (p : Nat) (x : α) : (insertAt xs p x).toList = xs.toList.take p ++ x :: xs.toList.drop p := by
 unfold insertAt
 simp [Array.toList_extract, List.extract]
 rw [List.take_of_length_le (by simp)]
theorem size_insertAt {α : Type} (xs : Array α) (p : Nat) (x : α) : (insertAt xs p x).size = xs.size + 1 := by
 rw [← Array.length_toList, toList_insertAt]
 simp
 omega
theorem ris_insert {xs : Array Nat} {j : Nat} (hr : Ris xs) (hj : j ∉ xs.toList) : Ris (insertAt xs (below xs j) j) := by
 obtain ⟨b1, b2, b3⟩ := below_spec hr j
 show (insertAt xs (below xs j) j).toList.Pairwise (· < ·)
 rw [toList_insertAt, List.pairwise_append, List.pairwise_cons]
 have hl : ∀ a ∈ xs.toList.take (below xs j), a < j := by
   intro a ha
   obtain ⟨i, hi, e⟩ := List.mem_take_iff_getElem.mp ha
   have := b2 i (by omega)
   have hs : i < xs.size := by simp at hi; omega
   simp [Array.getD, hs] at this
   simp at e
   omega
 have hg : ∀ a ∈ xs.toList.drop (below xs j), j < a := by
   intro a ha
   obtain ⟨i, hi, e⟩ := List.mem_drop_iff_getElem.mp ha
   have hs : i + below xs j < xs.size := by simpa [Nat.add_comm] using hi
   have := b3 (i + below xs j) (by omega) hs
   simp [Array.getD, hs] at this
   have e' : xs[i + below xs j] = a := by simpa [Nat.add_comm] using e
   have hne : a ≠ j := by
     intro z
     apply hj
     rw [← z]
     exact List.mem_of_mem_drop ha
   omega
 refine ⟨hr.sublist (List.take_sublist _ _), ⟨hg, hr.sublist (List.drop_sublist _ _)⟩, ?_⟩
 intro a ha b hb
 rcases List.mem_cons.mp hb with rfl | hb
 · exact hl a ha
 · exact Nat.lt_trans (hl a ha) (hg b hb)
theorem not_mem_of_slot {t : SetTable} {j : Nat} (hr : Ris t.place) (h : t.slot j = .empty) : j ∉ t.place.toList := by
 intro hm
 obtain ⟨i, hi, e⟩ := List.getElem_of_mem hm
 have hs : i < t.place.size := by simpa using hi
 have e0 : t.place[i] = j := by simpa using e
 have eb : below t.place j = i := by
   refine below_eq hr (Nat.le_of_lt hs) (fun a ha => ?_) (fun a h1 h2 => ?_)
   · have := ris_get hr ha hs
     simp only [Array.getD, hs] at this ⊢
     simp [e0] at this ⊢
     exact this
   · by_cases e2 : a = i
     · subst e2
       simp [Array.getD, hs, e0]
     · have := ris_get hr (show i < a by omega) h2
       simp only [Array.getD, hs] at this
       simp [e0] at this
       simp [Array.getD]
       omega
 unfold SetTable.slot at h
 dsimp only at h
 rw [eb] at h
 rw [if_pos (by simp [hs, e0])] at h
 cases h
theorem has_nil (j : Nat) : has #[] j = false := by
 unfold has
 simp
theorem probe_go {t : SetTable} (hd : t.dummies = #[]) {f : Nat → Int} {h : Int} : ∀ (fuel : Nat) (p : Probe) (m : Met), p.dummy = none → probe.go t f h fuel p = some m →
   (∃ j, m = .empty j none ∧ t.slot j = .empty) ∨ (∃ j i n, m = .candidate j i n) := by
 intro fuel
 induction fuel with
 | zero => intro p m _ e; simp [probe.go] at e
 | succ fuel ih =>
   intro p m hp e
   unfold probe.go at e
   cases hs : t.slot p.j with
   | empty =>
     rw [hs] at e
     simp only [Option.some.injEq] at e
     subst e
     exact .inl ⟨p.j, by rw [hp], hs⟩
   | dummy =>
     unfold SetTable.slot at hs
     dsimp only at hs
     rw [hd, has_nil] at hs
     split at hs
     · cases hs
     · simp at hs
   | live i =>
     rw [hs] at e
     dsimp only at e
     split at e
     · simp only [Option.some.injEq] at e
       subst e
       exact .inr ⟨_, _, _, rfl⟩
     · refine ih _ _ ?_ e
       unfold advance
       split
       · exact hp
       · exact hp
theorem freeSlot_free {t : SetTable} (hr : Ris t.place) (hd : t.dummies = #[]) {h : Int} {slot : Nat} {d : Bool} (e : t.freeSlot h = some (slot, d)) : slot ∉ t.place.toList := by
 unfold SetTable.freeSlot at e
 split at e
 · rename_i j dummy hp
   simp only [Option.some.injEq, Prod.mk.injEq] at e
   have hp' : probe.go t (fun _ => h + 1) h (10 * turns t.mask) (t.probeStart h) = some (.empty j dummy) := hp
   rcases probe_go hd _ _ _ (by unfold probeStart; rfl) hp' with ⟨j', em, hs⟩ | ⟨_, _, _, em⟩
   · cases em
     have : slot = j := by rw [← e.1]; rfl
     rw [this]
     exact not_mem_of_slot hr hs
   · cases em
 · cases e
theorem slot_cases {t : SetTable} {j : Nat} (hd : t.dummies = #[]) (h : t.slot j ≠ .empty) : (∃ i, t.slot j = .live i) ∧ j ∈ t.place.toList := by
 unfold SetTable.slot at h ⊢
 dsimp only at h ⊢
 by_cases q : (t.place[below t.place j]? == some j) = true
 · rw [if_pos q]
   refine ⟨⟨_, rfl⟩, ?_⟩
   have e : t.place[below t.place j]? = some j := eq_of_beq q
   obtain ⟨hi, e⟩ := Array.getElem?_eq_some_iff.mp e
   rw [← e]
   exact Array.getElem_mem_toList hi
 · rw [if_neg q, hd, has_nil] at h
   exact absurd rfl h
theorem run7 (i : Nat) : runEnd 7 i = i := by unfold runEnd; rw [if_neg (by omega)]
theorem probe_all {t : SetTable} (hm : t.mask = 7) (hd : t.dummies = #[]) {h : Int} : ∀ (k fuel : Nat) (p : Probe), p.j = p.i → p.more = 0 → p.i < 8 → p.perturb < 32 → k ≤ fuel →
   probe.go t (fun _ => h + 1) h fuel p = none → ∀ r, r < k → Nat.repeat (fun i => (i * 5 + 1) % 8) r p.i ∈ t.place.toList := by
 intro k
 induction k with
 | zero => intro fuel p _ _ _ _ _ _ r hr; omega
 | succ k ih =>
   intro fuel p h1 h2 h3 h4 h5 h6 r hr
   obtain ⟨f, rfl⟩ : ∃ f, fuel = f + 1 := ⟨fuel - 1, by omega⟩
   unfold probe.go at h6
   by_cases he : t.slot p.j = .empty
   · rw [he] at h6; cases h6
   · obtain ⟨⟨i, hl⟩, hmem⟩ := slot_cases hd he
     rw [hl] at h6
     dsimp only at h6
     rw [if_neg (by simp; omega)] at h6
     have hz : p.perturb / 32 = 0 := by omega
     have ea : t.advance p = { p with j := (p.i * 5 + 1) % 8, more := 0, i := (p.i * 5 + 1) % 8, perturb := 0 } := by
       unfold advance leap
       rw [if_neg (by omega), hm, hz]
       simp [run7]
     rw [ea] at h6
     cases r with
     | zero => show p.i ∈ _; rw [← h1]; exact hmem
     | succ r =>
       have q := ih f _ (by rfl) (by rfl) (by show (p.i * 5 + 1) % 8 < 8; omega) (by show 0 < 32; omega) (by omega) h6 r (by omega)
       have e : ∀ (r i : Nat), Nat.repeat (fun i => (i * 5 + 1) % 8) (r + 1) i = Nat.repeat (fun i => (i * 5 + 1) % 8) r ((i * 5 + 1) % 8) := by
         intro r
         induction r with
         | zero => intro i; rfl
         | succ r ihr =>
           intro i
           show ((Nat.repeat _ (r + 1) i) * 5 + 1) % 8 = ((Nat.repeat _ r ((i * 5 + 1) % 8)) * 5 + 1) % 8
           rw [ihr]
       rw [e]
       exact q
theorem all_eight : ∀ i, i < 8 → ∀ j, j < 8 → ∃ r, r < 8 ∧ Nat.repeat (fun i => (i * 5 + 1) % 8) r i = j := by decide +kernel
theorem freeSlot_some {t : SetTable} (hm : t.mask = 7) (hd : t.dummies = #[]) (hz : t.place.size < 8) {h : Int} (h0 : 0 ≤ h) (h1 : h < 32) : ∃ q, t.freeSlot h = some q := by
 unfold SetTable.freeSlot
 have hb : bits h < 32 := by unfold bits; omega
 have hps : t.probeStart h = { j := bits h % 8, more := 0, i := bits h % 8, perturb := bits h, dummy := none } := by
   unfold probeStart
   rw [hm]
   simp [run7]
 cases e : t.probe (fun _ => h + 1) h (t.probeStart h) with
 | none =>
   exfalso
   have e' : probe.go t (fun _ => h + 1) h (10 * turns t.mask) (t.probeStart h) = none := e
   rw [hps] at e'
   have q := probe_all hm hd 8 _ _ (by rfl) (by rfl) (by show bits h % 8 < 8; omega) (by exact hb) (by rw [hm]; decide) e'
   have sub : List.range 8 ⊆ t.place.toList := by
     intro j hj
     obtain ⟨r, hr, er⟩ := all_eight (bits h % 8) (by omega) j (List.mem_range.mp hj)
     rw [← er]
     exact q r hr
   have := List.Nodup.length_le_of_subset (List.nodup_range (n := 8)) sub
   simp at this
   omega
 | some m =>
   rcases probe_go hd _ _ _ (by rw [hps]) (show probe.go t (fun _ => h + 1) h (10 * turns t.mask) (t.probeStart h) = some m from e) with ⟨j, rfl, _⟩ | ⟨j, i, n, rfl⟩
   · exact ⟨_, rfl⟩
   · exfalso
     have nc : ∀ (fuel : Nat) (p : Probe) (j i : Nat) (n : Probe), probe.go t (fun _ => h + 1) h fuel p ≠ some (.candidate j i n) := by
       intro fuel
       induction fuel with
       | zero => intro p j i n; simp [probe.go]
       | succ f ih =>
         intro p j i n
         unfold probe.go
         cases t.slot p.j with
         | empty => simp
         | dummy => exact ih _ _ _ _
         | live i' =>
           dsimp only
           rw [if_neg (by simp; omega)]
           exact ih _ _ _ _
     exact nc _ _ _ _ _ e
structure Tab (t : SetTable) (n : Nat) (led : Bool) : Prop where
 ris : Ris t.place
 sz : t.place.size = n
 dm : t.dummies = #[]
 msk : t.mask = 7
 pl : t.plain = true
 ld : t.led = led
theorem Tab.fits {t : SetTable} {n : Nat} {led : Bool} (T : Tab t n led) (hn : n ≤ 4) : t.fits n = true := by
 unfold SetTable.fits fill
 simp [T.sz, T.dm, T.msk]
 omega
theorem Tab.full {t : SetTable} {n : Nat} {led : Bool} (T : Tab t n led) (hn : n ≤ 4) : t.tooFull = false := by
 unfold tooFull fill
 simp [T.sz, T.dm, T.msk]
 omega
theorem tab_fresh (led : Bool) : Tab (fresh 0 0 led) 0 led := ⟨List.Pairwise.nil, rfl, rfl, rfl, rfl, rfl⟩
theorem layNew_tab {t : SetTable} {n : Nat} {led : Bool} (T : Tab t n led) (hn : n + 1 ≤ 4) (es : Array (Int × Value)) (he : es.size = n) {h : Int} (h0 : 0 ≤ h) (h1 : h < 32) (x : Value) :
   Tab (layNew t es h x).2.1 (n + 1) led ∧ ∃ p, (layNew t es h x).1.toList = es.toList.take p ++ (h, x) :: es.toList.drop p := by
 obtain ⟨⟨slot, d⟩, hf⟩ := freeSlot_some T.msk T.dm (by rw [T.sz]; omega) h0 h1
 unfold layNew
 rw [hf]
 dsimp only [SetTable.put]
 have hnm := freeSlot_free T.ris T.dm hf
 have T2 : Tab { t with place := insertAt t.place (below t.place slot) slot, dummies := if has t.dummies slot then eraseAt t.dummies (below t.dummies slot) else t.dummies } (n + 1) led := by
   refine ⟨ris_insert T.ris hnm, by rw [size_insertAt, T.sz], ?_, T.msk, T.pl, T.ld⟩
   rw [T.dm, has_nil]
   rfl
 refine ⟨?_, _, toList_insertAt _ _ _⟩
 unfold SetTable.orStandIn
 rw [size_insertAt, he, T2.fits hn]
 exact T2
def slotAt (xs : Array Nat) : Nat → Nat
 | 0 => 0
 | i + 1 => xs.getD i 0 + 1
theorem below_slotAt {xs : Array Nat} (hr : Ris xs) {i : Nat} (hi : i ≤ xs.size) : below xs (slotAt xs i) = i := by
 cases i with
 | zero => exact below_eq hr (Nat.zero_le _) (fun a h => absurd h (Nat.not_lt_zero _)) (fun a _ _ => Nat.zero_le _)
 | succ i =>
   refine below_eq hr hi (fun a ha => ?_) (fun a h1 h2 => ?_)
   · show _ < xs.getD i 0 + 1
     by_cases e : a = i
     · rw [e]; omega
     · have := ris_get hr (show a < i by omega) (show i < xs.size by omega)
       omega
   · show xs.getD i 0 + 1 ≤ _
     exact ris_get hr (show i < a by omega) h2
theorem erase_perm {α : Type} {l : List α} {i : Nat} (h : i < l.length) : (l[i] :: l.eraseIdx i).Perm l := by
 rw [List.eraseIdx_eq_take_drop_succ]
 have e : l = l.take i ++ l[i] :: l.drop (i + 1) := by rw [← List.drop_eq_getElem_cons h, List.take_append_drop]
 conv => rhs; rw [e]
 exact List.perm_middle.symm
theorem pick_go {α : Type} (next : Nat → Nat) : ∀ (fuel k : Nat) (left : List α) (out : Array α), fuel = left.length → (pickOrder.go next fuel k left out).toList.Perm (out.toList ++ left) := by
 intro fuel
 induction fuel with
 | zero =>
   intro k left out h
   have : left = [] := List.length_eq_zero_iff.mp h.symm
   subst this
   simp [pickOrder.go]
 | succ f ih =>
   intro k left out h
   have hl : next k % left.length < left.length := Nat.mod_lt _ (by omega)
   unfold pickOrder.go
   rw [List.getElem?_eq_getElem hl]
   dsimp only
   refine (ih _ _ _ (by rw [List.length_eraseIdx_of_lt hl]; omega)).trans ?_
   rw [Array.toList_push, List.append_assoc]
   exact List.Perm.append_left _ (erase_perm hl)
theorem pick_perm {α : Type} (next : Nat → Nat) (xs : Array α) : (pickOrder next xs).toList.Perm xs.toList := by
 unfold pickOrder
 have := pick_go next xs.size 0 xs.toList #[] (by simp)
 simpa using this
end SS
end
section
namespace SS
open PySem
abbrev ledW (w : World) : Bool := !(w.params.followText "set-order")
def El (e : Int × Value) (k : Int) : Prop := e.1 = hashInt k ∧ ∃ t, e.2 = .int k t
theorem paired_left {α β : Type} {F : α → β → Prop} : ∀ {l : List α} {r : List β}, Paired F l r → ∀ a ∈ l, ∃ b ∈ r, F a b
 | _, _, .nil => fun a h => by cases h
 | _, _, .cons f t => fun a h => by
   rcases List.mem_cons.mp h with rfl | h
   · exact ⟨_, List.mem_cons_self, f⟩
   · obtain ⟨b, hb, q⟩ := paired_left t a h
     exact ⟨b, List.mem_cons_of_mem _ hb, q⟩
theorem paired_right {α β : Type} {F : α → β → Prop} : ∀ {l : List α} {r : List β}, Paired F l r → ∀ b ∈ r, ∃ a ∈ l, F a b
 | _, _, .nil => fun a h => by cases h
 | _, _, .cons f t => fun b h => by
   rcases List.mem_cons.mp h with rfl | h
   · exact ⟨_, List.mem_cons_self, f⟩
   · obtain ⟨a, ha, q⟩ := paired_right t b h
     exact ⟨a, List.mem_cons_of_mem _ ha, q⟩
theorem paired_put {α β : Type} {F : α → β → Prop} {a : α} {b : β} (f : F a b) : ∀ {l : List α} {r : List β} (p : Nat), Paired F l r → Paired F (l.take p ++ a :: l.drop p) (r.take p ++ b :: r.drop p)
 | _, _, 0, q => by simpa using Paired.cons f q
 | _, _, p + 1, .nil => by simpa using Paired.cons f .nil
 | _, _, p + 1, .cons g t => by
   simp only [List.take_succ_cons, List.drop_succ_cons, List.cons_append]
   exact .cons g (paired_put f p t)
theorem put_mem {α : Type} (l : List α) (p : Nat) (x z : α) : z ∈ l.take p ++ x :: l.drop p ↔ z = x ∨ z ∈ l := by
 conv => rhs; rw [← List.take_append_drop p l]
 simp only [List.mem_append, List.mem_cons]
 constructor
 · rintro (h | h | h)
   · exact .inr (.inl h)
   · exact .inl h
   · exact .inr (.inr h)
 · rintro (h | h | h)
   · exact .inr (.inl h)
   · exact .inl h
   · exact .inr (.inr h)
theorem put_perm {α : Type} (l : List α) (p : Nat) (x : α) : (l.take p ++ x :: l.drop p).Perm (x :: l) := by
 have h : (l.take p ++ x :: l.drop p).Perm (x :: (l.take p ++ l.drop p)) := List.perm_middle
 rw [List.take_append_drop] at h
 exact h
structure SetG (w : World) (h : Heap) (a : Addr) (ks : List Int) : Prop where
 ex : ∃ o es ep t, h.get? a = some o ∧ o.ExactSet ∧ o.data = .set es ep t ∧ Paired El es.toList ks ∧ Tab t es.size (ledW w)
 nd : ks.Nodup
 len : ks.length ≤ 4
section
variable {prog : Program} {w : World} {A : Around} {E : Value → Shared → Prop} {s : Shared} {a : Addr} {ks : List Int} {k : Int} {tk : Tok}
theorem elems {es : List (Int × Value)} (h : Paired El es ks) : ElemsOf (intKind prog w) es := fun e he => by
 obtain ⟨k, _, h1, t, h2⟩ := paired_left h e he
 rw [h2]
 exact ⟨⟨k, by show Value.isInt k (.int k t) = true; simp [Value.isInt], h1⟩, rfl⟩
theorem SetG.at {h h' : Heap} (S : SetG w h a ks) (e : ∀ o, h.get? a = some o → h'.get? a = some o) : SetG w h' a ks := by
 obtain ⟨⟨o, es, ep, t, ho, r⟩, nd, len⟩ := S
 exact ⟨⟨o, es, ep, t, e _ ho, r⟩, nd, len⟩
theorem hashInt_small (k0 : 0 ≤ k) (k1 : k < 32) : hashInt k = k := by
 obtain ⟨n, rfl⟩ := Int.eq_ofNat_of_zero_le k0
 have e : ∀ n : Nat, n < 32 → hashInt (n : Int) = (n : Int) := by decide +kernel
 exact e n (by omega)
theorem add_ok {Q : Bool → Shared → Prop} (S : SetG w s.heap a ks) (hl : ks.length + 1 ≤ 4) (k0 : 0 ≤ k) (k1 : k < 32)
   (h : ∀ b h' ks', Heap.SameBut a s.heap h' → SetG w h' a ks' → (∀ z, z ∈ ks' ↔ z = k ∨ z ∈ ks) → ks'.length ≤ ks.length + 1 → Q b { s with heap := h' }) :
   wpAny (model prog w) A (setAddHashed a (.int k tk) (hashInt k)) Q E s := by
 obtain ⟨o, es, ep, t, ho, hex, hd, hp, T⟩ := id S.ex
 have hn : es.size = ks.length := by rw [← Array.length_toList]; exact Paired.length hp
 have hf := T.fits (by omega)
 have hel : ElemsOf (intKind prog w) es.toList := elems hp
 have hb : es.size < scanBound := by unfold scanBound; omega
 have hi : ∀ (j : Int) (t : Tok), Value.isInt k (.int j t) = true → j = k := fun j t e => by simpa [Value.isInt] using e
 unfold setAddHashed setAddHashedIn
 refine wpAny_holding (wpAny_bind (wpAny_setState_of ho hd hf ?_))
 dsimp only
 rw [byScan_of (knd := intKind prog w) rfl hb hel, if_pos rfl]
 unfold setAddByScan
 refine wpAny_bind (wpAny_bind (wpAny_rule (wpAny_bind ?_)))
 refine wpAny_setScan_of (knd := intKind prog w) (k := k) (by show Value.isInt k (.int k tk) = true; simp [Value.isInt]) ho hd hf hel ?_
 have es0 : s = { s with heap := s.heap } := by cases s; rfl
 cases hr : List.findIdx? (fun e => (intKind prog w).is k e.2) es.toList with
 | some j =>
   obtain ⟨hj, hpj, _⟩ := List.findIdx?_eq_some_iff_getElem.mp hr
   obtain ⟨k', hk', _, t', e'⟩ := paired_left hp _ (List.getElem_mem hj)
   have hkk : k' = k := hi k' t' (by rw [← e']; exact hpj)
   subst hkk
   refine wpAny_pure (wpAny_pure ?_)
   rw [es0]
   exact h false s.heap ks (Heap.SameBut.refl a s.heap) S (fun z => ⟨.inr, fun q => q.elim (fun e => e ▸ hk') id⟩) (by omega)
 | none =>
   have hnk : k ∉ ks := fun hm => by
     obtain ⟨e, he, _, t', e'⟩ := paired_right hp k hm
     have q := List.findIdx?_eq_none_iff.mp hr e he
     rw [e'] at q
     have q' : Value.isInt k (.int k t') = false := q
     simp [Value.isInt] at q'
   obtain ⟨T1, p, hp1⟩ := layNew_tab T (by omega) es rfl (h := hashInt k) (by rw [hashInt_small k0 k1]; exact k0) (by rw [hashInt_small k0 k1]; exact k1) (.int k tk)
   dsimp only
   show wpAny _ A (match layNew t es (hashInt k) (Value.int k tk) with | (es, t, wasDummy, gave) => _) _ E s
   generalize layNew t es (hashInt k) (Value.int k tk) = L at T1 hp1 ⊢
   obtain ⟨es1, t1, wd, gv⟩ := L
   dsimp only at T1 hp1 ⊢
   have hp2 : Paired El es1.toList (ks.take p ++ k :: ks.drop p) := by
     rw [hp1]
     exact paired_put ⟨rfl, tk, rfl⟩ p hp
   have hz1 : es1.size = es.size + 1 := by
     rw [← Array.length_toList, hp1, (put_perm es.toList p (hashInt k, Value.int k tk)).length_eq]
     simp
   have hlen : (ks.take p ++ k :: ks.drop p).length = ks.length + 1 := (put_perm ks p k).length_eq
   have T1' : Tab t1 es1.size (ledW w) := by rw [hz1]; exact T1
   have hg : (s.heap.update a (Obj.putSet es1 t1)).get? a = some { o with data := .set es1 (ep + 1) t1 } := by
     have q := Heap.get?_update_self (Obj.putSet es1 t1) ho (by rw [putSet_of es1 t1 hd]; rfl)
     rw [putSet_of es1 t1 hd] at q
     exact q
   have fin : Q true { s with heap := s.heap.update a (Obj.putSet es1 t1) } :=
     h true _ _ (Heap.SameBut.update ..) ⟨⟨_, es1, ep + 1, t1, hg, hex, rfl, hp2, T1'⟩, (put_perm ks p k).nodup_iff.mpr (List.nodup_cons.mpr ⟨hnk, S.nd⟩), by omega⟩ (fun z => put_mem ks p k z) (by omega)
   have hfull : t1.tooFull = false := T1'.full (by omega)
   refine wpAny_bind (show wpAny _ A (match gv with | true => rule "set.scan.the-table-gave-way" | false => pure ()) _ E s from ?_)
   have hzl : es1.size ≤ sizeLine := by rw [hz1, show sizeLine = 2 ^ 24 from rfl]; omega
   cases gv with
   | true =>
     refine wpAny_rule ?_
     split
     all_goals
       refine wpAny_bind (show wpAny _ A (pure true : Sem Bool) _ E s from wpAny_pure ?_)
       simp only [if_true]
       refine wpAny_bind (wpAny_storeSet_of ho hd ?_ hzl)
       rw [hfull, Bool.and_false, if_neg Bool.false_ne_true]
       exact wpAny_pure (wpAny_pure fin)
   | false =>
     refine wpAny_pure ?_
     split
     all_goals
       refine wpAny_bind (show wpAny _ A (pure true : Sem Bool) _ E s from wpAny_pure ?_)
       simp only [if_true]
       refine wpAny_bind (wpAny_storeSet_of ho hd ?_ hzl)
       rw [hfull, Bool.and_false, if_neg Bool.false_ne_true]
       exact wpAny_pure (wpAny_pure fin)
end
end SS
end
section
namespace SS
open PySem
theorem slot_si_next : Slot "set_iterator" "__next__" "set_iterator.__next__" :=
 .of (owner := "set_iterator") (n := "__next__") (by
     rw [typeLookup_type, builtinLookup_eq_fast]
     kernel_rfl) (by decide +kernel) (by decide +kernel)
   (by decide +kernel)
   (by first
     | exact .inl (by decide +kernel)
     | exact .inr (by decide +kernel))
   (by
     rw [isSubtype_type]
     kernel_rfl)
theorem slot_si_iter : Slot "set_iterator" "__iter__" "set_iterator.__iter__" :=
 .of (owner := "set_iterator") (n := "__iter__") (by
     rw [typeLookup_type, builtinLookup_eq_fast]
     kernel_rfl) (by decide +kernel) (by decide +kernel)
   (by decide +kernel)
   (by first
     | exact .inl (by decide +kernel)
     | exact .inr (by decide +kernel))
   (by
     rw [isSubtype_type]
     kernel_rfl)
theorem entry_si_next : entryFor table "set_iterator.__next__" = some Builtin.«set_iterator.__next__» := entryFor_of_tree (by kernel_rfl)
theorem entry_set_iter : entryFor table "set.__iter__" = some Builtin.«frozenset.__iter__» :=
 entryFor_alias (id' := "frozenset.__iter__") (by kernel_rfl) rfl (by decide +kernel) (by kernel_rfl)
theorem entry_si_iter : entryFor table "set_iterator.__iter__" = some Builtin.«dict_keyiterator.__iter__» :=
 entryFor_alias (id' := "dict_keyiterator.__iter__") (by kernel_rfl) (by first | rfl | decide +kernel | (unfold String.splitOn; simp +decide [String.splitOnAux])) (by decide +kernel)
   (by kernel_rfl)
theorem args_si_next (a : Value) : argsOk "set_iterator.__next__" ⟨[a], []⟩ := by unfold argsOk; kernel_rfl
theorem args_si_iter (a : Value) : argsOk "set_iterator.__iter__" ⟨[a], []⟩ := by unfold argsOk; kernel_rfl
theorem args_set_iter (a : Value) : argsOk "set.__iter__" ⟨[a], []⟩ := by unfold argsOk; kernel_rfl
end SS
end
section
namespace SS
open PySem
abbrev byTxt (w : World) : Bool := w.params.followText "set-order"
abbrev IsSI (h : Heap) (I : Addr) (slot i : Nat) (a : Addr) (n ep : Nat) : Prop :=
 h.get? I = some { cls := .type "set_iterator", dict := none, data := .fields #[rawInt slot, rawInt i, .ref a, rawInt n, rawInt ep], slots := #[] }
def qU (w : World) (t : SetTable) (i : Nat) : Nat := if byTxt w = true then 0 else slotAt t.place i
def told (w : World) (a : Addr) (ep : Nat) (es : Array (Int × Value)) : List Value := (if byTxt w = true then (pickOrder (w.params.setOrder a ep) es).toList else es.toList).map (·.2)
theorem told_len (w : World) (a : Addr) (ep : Nat) (es : Array (Int × Value)) : (told w a ep es).length = es.size := by
 unfold told
 rw [List.length_map]
 split
 · rw [(pick_perm _ es).length_eq]; simp
 · simp
theorem told_perm (w : World) (a : Addr) (ep : Nat) (es : Array (Int × Value)) : (told w a ep es).Perm (es.toList.map (·.2)) := by
 unfold told
 split
 · exact (pick_perm _ es).map _
 · exact .refl _
section
variable {prog : Program} {w : World} {A : Around} {E : Value → Shared → Prop} {s : Shared} {a I : Addr} {o : Obj} {es : Array (Int × Value)} {ep : Nat} {t : SetTable}
theorem next_ok {i : Nat} {Q : Option (Value × Nat) → Shared → Prop} (ho : s.heap.get? a = some o) (hd : o.data = .set es ep t) (T : Tab t es.size (ledW w)) (hn : es.size ≤ 4) (hi : i ≤ es.size)
   (h : Q ((told w a ep es)[i]?.map fun v => (v, qU w t (i + 1))) s) : wpAny (model prog w) A (setNext a (qU w t i) i ep) Q E s := by
 unfold setNext
 refine wpAny_bind (wpAny_setState_of ho hd (T.fits hn) ?_)
 dsimp only
 unfold setsByText
 refine wpAny_bind (wpAny_bind (wpAny_askSetting (wpAny_pure ?_)))
 show wpAny _ A (if byTxt w = true then _ else _) Q E s
 have hl := told_len w a ep es
 by_cases hb : byTxt w = true
 · rw [if_pos hb, if_neg (by simp)]
   unfold setWalk
   refine wpAny_bind (wpAny_bind (wpAny_setState_of ho hd (T.fits hn) ?_))
   dsimp only
   unfold setsByText
   refine wpAny_bind (wpAny_bind (wpAny_askSetting (wpAny_pure ?_)))
   show wpAny _ A (if byTxt w = true then _ else _) _ E s
   rw [if_pos hb]
   refine wpAny_bind (wpAny_askSetting (wpAny_pure (wpAny_pure ?_)))
   have e : (told w a ep es)[i]?.map (fun v => (v, qU w t (i + 1))) = (pickOrder (w.params.setOrder a ep) es)[i]?.map (fun e => (e.snd, qU w t i)) := by
     unfold told qU
     rw [if_pos hb, if_pos hb, if_pos hb, List.getElem?_map, Array.getElem?_toList, Option.map_map]
     rfl
   rw [e] at h
   exact h
 · rw [if_neg hb]
   have hb' : byTxt w = false := by simpa using hb
   have hld : t.led = true := by rw [T.ld]; show (!byTxt w) = true; rw [hb']; rfl
   show wpAny _ A (if (!t.plain && decide (es.size > 1)) = true then _ else _) Q E s
   rw [T.pl, Bool.not_true, Bool.false_and, if_neg Bool.false_ne_true]
   refine wpAny_bind ?_
   show wpAny _ A (if (!t.led && !es.isEmpty) = true then _ else pure ()) _ E s
   rw [hld, Bool.not_true, Bool.false_and, if_neg Bool.false_ne_true]
   refine wpAny_pure (wpAny_pure ?_)
   have eb : SetTable.below t.place (qU w t i) = i := by
     unfold qU
     rw [if_neg hb]
     exact below_slotAt T.ris (by rw [T.sz]; exact hi)
   rw [eb]
   have et : (told w a ep es)[i]? = es[i]?.map (·.2) := by
     unfold told
     rw [if_neg hb, List.getElem?_map, Array.getElem?_toList]
   rw [et] at h
   by_cases hlt : i < es.size
   · have h1 : es[i]? = some es[i] := by simp [hlt]
     have hlt2 : i < t.place.size := by rw [T.sz]; exact hlt
     have h2 : t.place[i]? = some t.place[i] := by simp [hlt2]
     have h3 : qU w t (i + 1) = t.place[i] + 1 := by
       unfold qU slotAt
       rw [if_neg hb]
       simp [Array.getD, hlt2]
     rw [h1, h3] at h
     rw [h1, h2]
     exact h
   · have h1 : es[i]? = none := by simp; omega
     rw [h1] at h
     rw [h1]
     exact h
theorem si_next_item {i : Nat} {v : Value} {Q : Option Value → Shared → Prop} (ho : s.heap.get? a = some o) (hd : o.data = .set es ep t) (T : Tab t es.size (ledW w)) (hn : es.size ≤ 4)
   (hit : IsSI s.heap I (qU w t i) i a es.size ep) (hv : (told w a ep es)[i]? = some v)
   (hQ : ∀ h', IsSI h' I (qU w t (i + 1)) (i + 1) a es.size ep → Heap.SameBut I s.heap h' → Q (some v) { s with heap := h' }) : wpAny (model prog w) A (pyNext (.ref I)) Q E s := by
 have hT : s.TypeIs (.ref I) "set_iterator" := ⟨_, hit, rfl⟩
 have hi : i < es.size := by
   rw [← told_len w a ep es]
   exact (List.getElem?_eq_some_iff.mp hv).1
 unfold pyNext
 refine wpAny_bind (wpAny_attempt (wpAny_callSpecial?_slot (name := Str.ofString "__next__") hT slot_si_next (wpAny_call_entry slot_si_next hT entry_si_next ?_ (args_si_next _))))
 unfold Builtin.«set_iterator.__next__»
 refine wpAny_bind (m := slotArgs "__next__" 0 _) (wpAny_pure ?_)
 dsimp only
 unfold fieldsOf
 refine wpAny_bind (wpAny_bind (wpAny_load hit ?_))
 refine wpAny_pure ?_
 dsimp only [rawInt]
 unfold setEntries
 refine wpAny_bind (wpAny_bind (wpAny_setState_of ho hd (T.fits hn) (wpAny_pure ?_)))
 rw [if_neg (by simp)]
 simp only [Int.toNat_natCast]
 refine wpAny_bind (next_ok ho hd T hn (Nat.le_of_lt hi) ?_)
 rw [hv]
 dsimp only [Option.map]
 refine wpAny_bind (wpAny_setField_rec hit (by simp) fun h1 hit1 sb1 => ?_)
 refine wpAny_bind (wpAny_setField_rec hit1 (by simp) fun h2 hit2 sb2 => ?_)
 refine wpAny_pure ⟨v, rfl, wpAny_pure (hQ h2 ?_ (sb1.trans sb2))⟩
 show h2.get? I = _
 rw [hit2]
 simp [rawInt]
theorem si_next_end {Q : Option Value → Shared → Prop} (hh : A.handled = none) (ho : s.heap.get? a = some o) (hd : o.data = .set es ep t) (T : Tab t es.size (ledW w)) (hn : es.size ≤ 4)
   (hit : IsSI s.heap I (qU w t es.size) es.size a es.size ep)
   (hQ : ∀ h', Heap.ExtBut I s.heap h' → Q none { s with heap := h' }) : wpAny (model prog w) A (pyNext (.ref I)) Q E s := by
 have hT : s.TypeIs (.ref I) "set_iterator" := ⟨_, hit, rfl⟩
 unfold pyNext
 refine wpAny_bind (wpAny_attempt (wpAny_callSpecial?_slot (name := Str.ofString "__next__") hT slot_si_next (wpAny_call_entry slot_si_next hT entry_si_next ?_ (args_si_next _))))
 unfold Builtin.«set_iterator.__next__»
 refine wpAny_bind (m := slotArgs "__next__" 0 _) (wpAny_pure ?_)
 dsimp only
 unfold fieldsOf
 refine wpAny_bind (wpAny_bind (wpAny_load hit ?_))
 refine wpAny_pure ?_
 dsimp only [rawInt]
 unfold setEntries
 refine wpAny_bind (wpAny_bind (wpAny_setState_of ho hd (T.fits hn) (wpAny_pure ?_)))
 rw [if_neg (by simp)]
 simp only [Int.toNat_natCast]
 refine wpAny_bind (next_ok ho hd T hn (Nat.le_refl _) ?_)
 rw [List.getElem?_eq_none (by rw [told_len]; exact Nat.le_refl _)]
 dsimp only [Option.map]
 refine wpAny_bind (wpAny_setField_rec hit (by simp) fun h1 hit1 sb1 => ?_)
 refine wpAny_bind ?_
 simp only [newExc, newTuple]
 refine wpAny_bind (wpAny_newObj_type ?_ (by size_fits))
 refine wpAny_bind (m := firstArgMember _ _) (wpAny_of_eq (a := Value.none) (by first | rfl | (simp only [firstArgMember]; rfl)) ?_)
 refine wpAny_newObj_type ?_ (by size_fits)
 simp only [raiseNew]
 refine wpAny_bind (wpAny_handled ?_)
 rw [show A.in1.handled = none from hh]
 refine wpAny_bind (wpAny_pure (wpAny_throw ?_))
 refine wpAny_bind (wpAny_isInstance (T := "StopIteration") (b := true) ⟨_, Heap.get?_push_size _ rfl, rfl⟩ isSubtype_stop ?_)
 exact wpAny_pure (hQ _ ((sb1.extBut.push _).push _))
theorem si_self {i : Nat} {slot n : Nat} {Q : Value → Shared → Prop} (hit : IsSI s.heap I slot i a n ep) (h : Q (.ref I) s) : wpAny (model prog w) A (pyIter (.ref I)) Q E s := by
 have hT : s.TypeIs (.ref I) "set_iterator" := ⟨_, hit, rfl⟩
 refine wpAny_pyIter_slot hT slot_si_iter (wpAny_call_entry slot_si_iter hT entry_si_iter ?_ (args_si_iter _))
 show wpAny _ _ (ret (.ref I)) _ _ s
 exact wpAny_pure ⟨_, rfl, "set_iterator", _, hT, slot_si_next.lookup, h⟩
theorem set_iter {Q : Value → Shared → Prop} (hx : o.ExactSet) (ho : s.heap.get? a = some o) (hd : o.data = .set es ep t) (T : Tab t es.size (ledW w)) (hn : es.size ≤ 4)
   (hQ : ∀ h', h'.get? s.heap.objs.size = some { cls := .type "set_iterator", dict := none, data := .fields #[rawInt (qU w t 0), rawInt 0, .ref a, rawInt es.size, rawInt ep], slots := #[] } → (∀ b u, s.heap.get? b = some u → h'.get? b = some u) →
     h'.objs.size = s.heap.objs.size + 1 → Q (.ref s.heap.objs.size) { s with heap := h' }) : wpAny (model prog w) A (pyIter (.ref a)) Q E s := by
 have hT : s.TypeIs (.ref a) "set" := ⟨o, ho, hx.1⟩
 refine wpAny_pyIter_slot hT PySem.F.slot_set_iter (wpAny_call_entry PySem.F.slot_set_iter hT entry_set_iter ?_ (args_set_iter _))
 unfold Builtin.«frozenset.__iter__»
 refine wpAny_bind (show wpAny _ _ (pure a : Sem Addr) _ _ s from wpAny_pure ?_)
 unfold Builtin.Frozenset.sizeOf setEntries
 refine wpAny_bind (wpAny_bind (wpAny_bind (wpAny_setState_of ho hd (T.fits hn) (wpAny_pure (wpAny_pure ?_)))))
 dsimp only
 unfold setDrawn
 refine wpAny_bind (wpAny_bind (wpAny_setState_of ho hd (T.fits hn) ?_))
 dsimp only
 unfold setsByText
 refine wpAny_bind (wpAny_bind (wpAny_askSetting (wpAny_pure (wpAny_pure ?_))))
 show wpAny _ _ (if (!byTxt w && (!t.plain && decide (es.size > 1))) = true then _ else _) _ _ s
 rw [T.pl, Bool.not_true, Bool.false_and, Bool.and_false, if_neg Bool.false_ne_true]
 refine wpAny_bind (wpAny_pure ?_)
 refine wpAny_bind (wpAny_setEpoch_of ho hd (T.fits hn) ?_)
 refine wpAny_bind (wpAny_newObj_type (wpAny_pure ⟨_, rfl, "set_iterator", _, ⟨_, Heap.get?_push_size _ rfl, rfl⟩, slot_si_next.lookup, hQ _ ?_ (fun b u e => Heap.get?_push_of_some _ e) (Heap.size_push _ _)⟩) (by size_fits))
 have e0 : qU w t 0 = 0 := by unfold qU slotAt; split <;> rfl
 rw [e0]
 exact Heap.get?_push_size _ rfl
theorem walks_set (hh : A.handled = none) (hne : a ≠ I) (hd : o.data = .set es ep t) (T : Tab t es.size (ledW w)) (hn : es.size ≤ 4) :
   Walks prog w A I [I, a] [I] es.size (fun i v => (told w a ep es)[i]? = some v) (fun i h => IsSI h I (qU w t i) i a es.size ep ∧ h.get? a = some o) where
 sub := fun b hb => by simp at hb; simp [hb]
 frame := fun _ _ _ st hk => ⟨hk I (by simp) _ st.1, hk a (by simp) _ st.2⟩
 item := fun i s Q E hi st hQ => by
   obtain ⟨v, hv⟩ : ∃ v, (told w a ep es)[i]? = some v := ⟨_, List.getElem?_eq_getElem (by rw [told_len]; exact hi)⟩
   exact si_next_item st.2 hd T hn st.1 hv fun h' hit' sb => hQ v h' s.toks hv ⟨hit', (sb.2 a hne).trans st.2⟩ fun b o hb e => (sb.2 b (fun z => hb (by simp [z]))).trans e
 done := fun s Q E st hQ => si_next_end hh st.2 hd T hn st.1 fun h' eb => hQ h' s.toks fun b o hb e => eb b o (fun z => hb (by simp [z])) e
 self := fun _ _ _ _ st hQ => si_self st.1 hQ
end
end SS
end
section
namespace SS
open PySem
theorem slot_set_len : typeLookup (.type "set") "__len__" = pure (some (.builtin "set.__len__")) := by rw [typeLookup_type, builtinLookup_eq_fast]; kernel_rfl
section
variable {prog : Program} {w : World} {A : Around} {E : Value → Shared → Prop} {s : Shared} {a : Addr} {o : Obj} {es : Array (Int × Value)} {ep : Nat} {t : SetTable}
theorem hint_set {Q : Bool → Shared → Prop} (hT : s.TypeIs (.ref a) "set") (h : Q false s) : wpAny (model prog w) A (Builtin.List.listLengthHint (.ref a)) Q E s := by
 unfold Builtin.List.listLengthHint
 refine wpAny_bind (wpAny_specialOf hT slot_set_len ?_)
 generalize hid : ("set.__len__" : String) = id0
 wp_delta
 rw [show splitId id0 = some ("set", "__len__") from by subst hid; decide +kernel]
 subst hid
 refine wpAny_bind (wpAny_isInstance (b := true) hT (by rw [isSubtype_type]; kernel_rfl) ?_)
 refine wpAny_ite_split (fun q => absurd q (by decide)) (fun _ => ?_)
 refine wpAny_ite_split (fun _ => ?_) (fun q => absurd (by decide +kernel) q)
 exact wpAny_bind (wpAny_typeOf hT (wpAny_pure h))
theorem collect_set {Q : List Value → Shared → Prop} (hh : A.handled = none) (hx : o.ExactSet) (ho : s.heap.get? a = some o) (hd : o.data = .set es ep t) (T : Tab t es.size (ledW w)) (hn : es.size ≤ 4)
   (hQ : ∀ s', (∀ b u, s.heap.get? b = some u → s'.heap.get? b = some u) → s'.gens = s.gens → s'.drawn = s.drawn → s'.os = s.os → s.heap.objs.size < s'.heap.objs.size → Q (told w a ep es) s') : wpAny (model prog w) A (collect (.ref a)) Q E s := by
 have ha : a < s.heap.objs.size := Heap.lt_size ho
 have hSa : s.heap.objs.size ≠ a := Nat.ne_of_gt ha
 unfold collect
 refine wpAny_bind (wpAny_runValue (codeAny_builtin PySem.F.entry_proto_collect ?_))
 rw [Around.under_plainId PySem.F.plain_proto_collect _]
 show wpAny _ A.in1 (newList [] >>= fun l => again (.builtin "list.__iadd__" ⟨[l, .ref a], []⟩)) _ _ s
 refine wpAny_bind (wpAny_newObj_type (wpAny_pure ⟨plainId_quiet PySem.F.plain_list_iadd _, codeAny_builtin PySem.F.entry_list_iadd ?_⟩))
 rw [Around.under_plainId PySem.F.plain_list_iadd _]
 generalize hE : ({ s with heap := s.heap.push { cls := .type "list", dict := none, data := .seq ([] : List Value).toArray } } : Shared) = s1
 have ho1 : s1.heap.get? a = some o := by rw [← hE]; exact Heap.get?_push_of_some _ ho
 have hL1 : s1.heap.get? s.heap.objs.size = some { cls := .type "list", dict := none, data := .seq ([] : List Value).toArray } := by rw [← hE]; exact Heap.get?_push_size _ rfl
 have hz1 : s1.heap.objs.size = s.heap.objs.size + 1 := by rw [← hE]; exact Heap.size_push _ _
 have hT1 : s1.TypeIs (.ref a) "set" := ⟨o, ho1, hx.1⟩
 show wpAny _ A.in1 (Builtin.List.listExtendWith (.ref s.heap.objs.size) (.ref a) (.ref s.heap.objs.size)) _ _ _
 unfold Builtin.List.listExtendWith
 refine wpAny_bind (wpAny_typeOf hT1 ?_)
 have q1 : Builtin.List.listSameRef (.ref s.heap.objs.size) (.ref a) = false := by simp [Builtin.List.listSameRef, hSa]
 rw [if_neg (by rw [q1]; decide)]
 refine wpAny_bind (set_iter hx ho1 hd T hn fun h2 hI2 k2 z2 => ?_)
 refine wpAny_bind (wpAny_holding ?_)
 have ho2 : h2.get? a = some o := k2 _ _ ho1
 have hT2 : Shared.TypeIs { s1 with heap := h2 } (.ref a) "set" := ⟨o, ho2, hx.1⟩
 have hL2 := k2 _ _ hL1
 refine hint_set hT2 ?_
 rw [if_pos (by decide +kernel)]
 refine wpAny_bind (wpAny_rule ?_)
 have hne : s.heap.objs.size ≠ s1.heap.objs.size := by omega
 refine wpAny_bind ?_
 show wpAny _ A.in1 (updateSeq s.heap.objs.size (·.push .none) >>= fun _ => updateSeq s.heap.objs.size (·.pop)) _ _ _
 refine wpAny_bind (wpAny_updateSeq hL2 rfl ?_)
 have hL3 := Heap.get?_update_self (Obj.mapSeq (·.push Value.none)) hL2 rfl
 refine wpAny_updateSeq hL3 rfl ?_
 have hL4 := Heap.get?_update_self (Obj.mapSeq (·.pop)) hL3 rfl
 have oth : ∀ b u, b ≠ s.heap.objs.size → h2.get? b = some u → ((h2.update s.heap.objs.size (Obj.mapSeq (·.push Value.none))).update s.heap.objs.size (Obj.mapSeq (·.pop))).get? b = some u :=
   fun b u hb e => (Heap.get?_update_other _ _ (Ne.symm hb)).trans ((Heap.get?_update_other _ _ (Ne.symm hb)).trans e)
 have W := (walks_set (prog := prog) (A := A.in1) (a := a) (I := s1.heap.objs.size) hh (Nat.ne_of_lt (show a < s1.heap.objs.size by rw [hz1]; exact Nat.lt_succ_of_lt ha)) hd T hn).toS
 have z24 : es.size ≤ sizeLine := by rw [show sizeLine = 2 ^ 24 from rfl]; omega
 refine wpAny_pure ⟨plainId_quiet PySem.F.plain_extend_loop _, codeAny_extend_loopS W z24 s.heap.objs.size (by simp [hne, hSa]) _ es.size 0 _ _ _ rfl (Nat.zero_le _) ⟨oth _ _ (Ne.symm hne) hI2, oth _ _ (Ne.symm hSa) ho2⟩ hL4 (ItemsOf.nil _) fun s' acc' c' hm hS' hacc => ?_⟩
 show wpAny _ A (load s.heap.objs.size >>= _) _ _ s'
 refine wpAny_bind (wpAny_load hS' ?_)
 have eacc : acc'.toList = told w a ep es := by
   apply List.ext_getElem?
   intro i
   by_cases hi : i < es.size
   · have hi' : i < acc'.size := by rw [hacc.1]; exact hi
     have := hacc.2 i acc'[i] (by simp [hi'])
     rw [this]
     simp [hi']
   · rw [List.getElem?_eq_none (by rw [Array.length_toList, hacc.1]; omega), List.getElem?_eq_none (by rw [told_len]; omega)]
 refine wpAny_pure ?_
 rw [eacc]
 refine hQ s' (fun b u e => ?_) ?_ ?_ ?_ (Heap.lt_size hS')
 · have hb : b ≠ s.heap.objs.size := Nat.ne_of_lt (Heap.lt_size e)
   have hb1 : b ≠ s1.heap.objs.size := Nat.ne_of_lt (show b < s1.heap.objs.size by rw [hz1]; exact Nat.lt_succ_of_lt (Heap.lt_size e))
   exact hm.heap b u (by simp [hb, hb1]) (oth b u hb (k2 b u (by rw [← hE]; exact Heap.get?_push_of_some _ e)))
 · have := hm.gens; rw [← hE] at this; exact this
 · have := hm.drawn; rw [← hE] at this; exact this
 · have := hm.os; rw [← hE] at this; exact this
end
end SS
end
section
namespace SS
open PySem
theorem entry_upd_loop : entryFor table "set.update.loop" = some Builtin.«set.update.loop» := entryFor_of_fast (by kernel_rfl)
theorem plain_upd_loop : plainId "set.update.loop" = true := by decide +kernel
section
variable {prog : Program} {w : World} {A : Around} {R : Result → Shared → Prop} {I : Addr} {fp wr : List Addr} {n : Nat} {P : Nat → Value → Prop} {St : Nat → Shared → Prop}
theorem upd_loop (W : WalksS prog w A.in1 I fp wr (fun a b => b = a) n P St) (S : Addr) (hSf : S ∉ fp) (val : Nat → Int) (hval : ∀ i v, P i v → ∃ t, v = .int (val i) t) (hv : ∀ i, i < n → 0 ≤ val i ∧ val i < 32) (hn : n ≤ 4) :
   ∀ (k i : Nat) (s : Shared) (ks : List Int), n - i = k → i ≤ n → St i s → SetG w s.heap S ks → ks.length ≤ i → (∀ z, z ∈ ks ↔ ∃ j, j < i ∧ val j = z) →
     (∀ s' ks', Moved (S :: wr) (fun a b => b = a) s s' → SetG w s'.heap S ks' → (∀ z, z ∈ ks' ↔ ∃ j, j < n ∧ val j = z) → R (.ok (.ret .none)) s') →
     codeAny (model prog w) A (.builtin "set.update.loop" ⟨[.ref S, .ref I], []⟩) R s := by
 have hSw : S ∉ wr := fun h => hSf (W.sub _ h)
 have sub1 : ∀ b ∈ wr, b ∈ S :: wr := fun b hb => List.mem_cons_of_mem _ hb
 intro k
 induction k with
 | zero =>
   intro i s ks hk hi hst hS hl hm hR
   obtain rfl : i = n := by omega
   refine codeAny_builtin entry_upd_loop ?_
   rw [Around.under_plainId plain_upd_loop _]
   show wpAny _ A.in1 (pyNext (.ref I) >>= _) _ _ s
   refine wpAny_bind (W.done s _ _ hst fun s' mv => ?_)
   show wpAny _ A.in1 (ret Value.none) _ _ s'
   exact wpAny_pure (hR s' ks (mv.mono sub1) (hS.at fun o e => mv.heap S o hSw e) hm)
 | succ k ih =>
   intro i s ks hk hi hst hS hl hm hR
   have hlt : i < n := by omega
   refine codeAny_builtin entry_upd_loop ?_
   rw [Around.under_plainId plain_upd_loop _]
   show wpAny _ A.in1 (pyNext (.ref I) >>= _) _ _ s
   refine wpAny_bind (W.item i s _ _ hlt hst fun v s' hP hst' mv => ?_)
   obtain ⟨t, rfl⟩ := hval i v hP
   have hS' := hS.at (h' := s'.heap) fun o e => mv.heap S o hSw e
   show wpAny _ A.in1 (holding [Value.int (val i) t] (setAdd S (.int (val i) t)) >>= _) _ _ s'
   refine wpAny_bind (wpAny_holding ?_)
   unfold setAdd
   refine wpAny_holding (wpAny_bind (wpAny_pyHash_int ?_))
   refine add_ok (s := { s' with toks := s'.toks + 1 }) hS' (by omega) (hv i hlt).1 (hv i hlt).2 fun b h' ks' sb hS2 hm2 hl2 => ?_
   refine wpAny_pure ⟨plainId_quiet plain_upd_loop _, ih (i + 1) _ ks' (by omega) hlt (W.frame _ s' _ _ hst' (Nat.le_succ _) fun b hb o e => ?_) hS2 (by omega) (fun z => ?_) fun s'' ks'' mv2 hS3 hm3 => ?_⟩
   · rw [sb.2 b (fun h : b = S => hSf (by rw [← h]; exact hb))]
     exact e
   · rw [hm2, hm]
     constructor
     · rintro (h | ⟨j, hj, e⟩)
       · exact ⟨i, by omega, h.symm⟩
       · exact ⟨j, by omega, e⟩
     · rintro ⟨j, hj, e⟩
       by_cases hji : j = i
       · exact .inl (by rw [← e, hji])
       · exact .inr ⟨j, by omega, e⟩
   · refine hR s'' ks'' (Moved.trans W.gtrans ((mv.mono sub1).then_heap (Nat.le_succ _) fun b o hb e => ?_) mv2) hS3 hm3
     rw [sb.2 b (fun h : b = S => hb (by rw [h]; exact List.mem_cons_self))]
     exact e
end
end SS
end
section
namespace SS
open PySem
section
variable {prog : Program} {w : World} {A : Around} {E : Value → Shared → Prop} {s : Shared}
theorem new_led (a : Value) {Q : Value → Shared → Prop}
   (h : Q (.ref s.heap.objs.size) { s with heap := s.heap.push { cls := .type "set", dict := none, data := .set #[] 0 (.fresh 0 0 (ledW w)) } }) :
   codeAny (model prog w) A (.call (.builtin "set.__new__") ⟨[.type "set", a], []⟩) (wants Q E) s := by
 refine codeAny_of_tree (show wpAny _ A.in1 (do checkBuiltinCall "set.__new__" ⟨[.type "set", a], []⟩; again (.builtin "set.__new__" ⟨[.type "set", a], []⟩)) _ _ s from ?_)
 refine wpAny_bind (wpAny_of_eq (F.newCall_set_1 a) (wpAny_pure ⟨plainId_quiet F.plain_set_new _, codeAny_builtin F.entry_set_new ?_⟩))
 rw [Around.under_plainId F.plain_set_new _]
 unfold Builtin.«set.__new__» Builtin.Frozenset.newClass
 have q := sub_set_self
 obtain ⟨hp, g, d, tk, os⟩ := s
 dsimp only
 wp_walk
 refine wpAny_askSetting (wpAny_pure ?_)
 dsimp only
 simp only [newObj]
 exact wpAny_bind (wpAny_alloc (wpAny_pure (wpAny_pure h)))
set_option maxHeartbeats 3200000 in
theorem set_of_list {l : Addr} {items : Array Value} {ns : List Int} {Q : Value → Shared → Prop} (hh : A.handled = none) (hl : s.heap.IsList l items) (hi : PyProof.Rows.IntsAre items.toList ns)
   (hn : items.size ≤ 4) (hv : ∀ z ∈ ns, 0 ≤ z ∧ z < 32)
   (h : ∀ (h' : Heap) (tk : Nat) (ks : List Int), SetG w h' s.heap.objs.size ks → (∀ z, z ∈ ks ↔ z ∈ ns) → (∀ b o, s.heap.get? b = some o → h'.get? b = some o) → Q (.ref s.heap.objs.size) { s with heap := h', toks := tk }) :
   wpAny (model prog w) A (call (.type "set") [.ref l]) Q E s := by
 obtain ⟨c, tl, hmro⟩ := F.called_set.mro
 have hmade := F.called_set.made
 have hsub := F.called_set.sub
 have g1 := F.called_set.notType
 have g2 := F.called_set.canCreate
 have g3 := F.typeCall_set_1 (.ref l)
 refine wpAny_call (codeAny_of_tree (show wpAny _ _ (callAny (.type "set") _) _ _ _ from ?_))
 refine wpAny_pure ⟨Code.quiet_builtin _ (by decide +kernel), codeAny_builtin F.entry_type_call ?_⟩
 rw [Around.under_plain (weight_type_call_type "set" [.ref l] []) rfl]
 repeat (any_goals (first | assumption | wp_step))
 have hlen : items.size = ns.length := by rw [← Array.length_toList]; exact hi.length
 refine codeAny_mono (new_led (.ref l) (E := E) (Q := fun obj z => obj = .ref s.heap.objs.size ∧ z = { s with heap := s.heap.push { cls := .type "set", dict := none, data := .set #[] 0 (.fresh 0 0 (ledW w)) } }) ⟨rfl, rfl⟩) fun r z hr => ?_
 cases r with
 | error e => exact hr
 | ok fl =>
   cases fl with
   | ret obj =>
     obtain ⟨rfl, rfl⟩ := hr
     generalize hO : ({ cls := .type "set", dict := none, data := .set #[] 0 (.fresh 0 0 (ledW w)) } : Obj) = oS
     have hS : (s.heap.push oS).get? s.heap.objs.size = some oS := Heap.get?_push_size _ (by rw [← hO]; rfl)
     have hT : Shared.TypeIs { s with heap := s.heap.push oS } (.ref s.heap.objs.size) "set" := ⟨_, hS, by rw [← hO]⟩
     have hli := F.called_set.init.lookup
     have hbi := F.called_set.init.bind (.ref s.heap.objs.size)
     repeat (any_goals (first | assumption | wp_step))
     refine codeAny_mono (codeAny_call_builtin (R := wants (fun r z2 => r = .none ∧ ∃ h' tk ks, z2 = { s with heap := h', toks := tk } ∧ SetG w h' s.heap.objs.size ks ∧ (∀ z, z ∈ ks ↔ z ∈ ns) ∧ (∀ b o, s.heap.get? b = some o → h'.get? b = some o)) E)
       F.called_set.init.plain F.entry_set_init (check_set_init_1 hT ?_)) fun r2 z2 hr2 => ?_
     · obtain ⟨ol, hol, hcl, nl, hdl⟩ := hl
       obtain ⟨ocls, odict, odata, oslots⟩ := ol
       simp only at hcl hdl
       subst hcl; subst hdl
       have hol' : (s.heap.push oS).get? l = some { cls := .type "list", dict := odict, data := .seq items nl, slots := oslots } := Heap.get?_push_of_some _ hol
       have y1 := F.sub_list_set
       have y2 := F.sub_list_frozenset
       have y3 : (Value.type "list" == Value.type "dict") = false := by decide
       have hl1 : (s.heap.push oS).IsList l items := ⟨_, hol', rfl, nl, rfl⟩
       subst hO
       unfold Builtin.«set.__init__» noKeywords Builtin.Frozenset.updateFrom
       generalize hPI : pyIter = PI
       wp_walk
       subst hPI
       refine wpAny_pyIter_list hl1 (wpAny_bind (wpAny_runValue ?_))
       have hlS : l < s.heap.objs.size := Heap.lt_size hol
       have hz1 : (s.heap.push { cls := .type "set", dict := none, data := .set #[] 0 (.fresh 0 0 (ledW w)) }).objs.size = s.heap.objs.size + 1 := Heap.size_push _ _
       have nI : l ≠ (s.heap.push { cls := .type "set", dict := none, data := .set #[] 0 (.fresh 0 0 (ledW w)) }).objs.size := by
         rw [hz1]
         exact Nat.ne_of_lt (Nat.lt_succ_of_lt hlS)
       have nS : s.heap.objs.size ∉ [(s.heap.push { cls := .type "set", dict := none, data := .set #[] 0 (.fresh 0 0 (ledW w)) }).objs.size, l] := by
         rw [hz1]
         simp only [List.mem_cons, List.not_mem_nil, or_false, not_or]
         exact ⟨Nat.ne_of_lt (Nat.lt_succ_self _), Nat.ne_of_gt hlS⟩
       have hget : ((s.heap.push { cls := .type "set", dict := none, data := .set #[] 0 (.fresh 0 0 (ledW w)) }).push { cls := .type "list_iterator", data := .fields #[.ref l, .int 0 0] }).get? s.heap.objs.size
           = some { cls := .type "set", dict := none, data := .set #[] 0 (.fresh 0 0 (ledW w)) } := Heap.get?_push_of_some _ hS
       refine upd_loop ((Walks.list (by simp [hh]) _ l nI items).toS) s.heap.objs.size nS (fun i => ns.getD i 0) (fun i v q => PyProof.Rows.IntsAre.int_at hi i v (by rw [Array.getElem?_toList]; exact q))
         (fun i q => hv _ ?_) hn (items.size - 0) 0 _ [] rfl (Nat.zero_le _) ⟨⟨_, Heap.get?_push_size _ rfl, rfl, rfl⟩, hl1.push _⟩ ⟨⟨_, #[], 0, _, hget, ⟨rfl, rfl, rfl⟩, rfl, .nil, tab_fresh _⟩, List.nodup_nil, Nat.zero_le _⟩ (Nat.le_refl _) (fun z => ⟨fun q => by (cases q), fun ⟨j, q, _⟩ => absurd q (Nat.not_lt_zero _)⟩) ?_
       · have q' : i < ns.length := by rw [← hlen]; exact q
         simp [List.getD, q']
       · intro s' ks mv S' hm
         obtain ⟨h', g', d', tk', os'⟩ := s'
         have e1 : g' = s.gens := mv.gens
         have e2 : d' = s.drawn := mv.drawn
         have e3 : os' = s.os := mv.os
         subst e1; subst e2; subst e3
         refine wpAny_pure (wpAny_pure ⟨rfl, h', tk', ks, rfl, S', fun z => ?_, fun b o e => ?_⟩)
         · rw [hm]
           constructor
           · rintro ⟨j, hj, e⟩
             have hj' : j < ns.length := by rw [← hlen]; exact hj
             rw [← e]
             simp [List.getD, hj']
           · intro hz
             obtain ⟨j, hj, e⟩ := List.getElem_of_mem hz
             exact ⟨j, by rw [hlen]; exact hj, by simp [List.getD, hj, e]⟩
         · have hb := Heap.lt_size e
           refine mv.heap b o ?_ (Heap.get?_push_of_some _ (Heap.get?_push_of_some _ e))
           rw [hz1]
           simp only [List.mem_cons, List.not_mem_nil, or_false, not_or]
           exact ⟨Nat.ne_of_lt hb, Nat.ne_of_lt (Nat.lt_succ_of_lt hb)⟩
     · cases r2 with
       | error e => exact hr2
       | ok fl2 =>
         cases fl2 with
         | ret r =>
           obtain ⟨rfl, h', tk, ks, rfl, hS', hm, hk⟩ := hr2
           repeat (any_goals (first | assumption | wp_step))
           exact h _ _ _ hS' hm hk
         | _ => exact hr2.elim
   | _ => exact hr.elim
end
end SS
end
section
namespace SS
open PySem PyProof.Rows
section
variable {prog : Program} {w : World} {A : Around} {E : Value → Shared → Prop} {s : Shared} {a : Addr} {ks : List Int}
theorem ints_of : ∀ {vs : List Value} {ks : List Int}, Paired (fun v k => ∃ t, v = Value.int k t) vs ks → IntsAre vs ks
 | _, _, .nil => .nil
 | _, _, .cons ⟨t, e⟩ r => by subst e; exact .cons _ t (ints_of r)
theorem paired_map {es : List (Int × Value)} : ∀ {ks : List Int}, Paired El es ks → Paired (fun v k => ∃ t, v = Value.int k t) (es.map (·.2)) ks
 | _, .nil => .nil
 | _, .cons ⟨_, q⟩ r => .cons q (paired_map r)
theorem paired_perm {α β : Type} {F : α → β → Prop} {l l' : List α} (p : l'.Perm l) : ∀ {r : List β}, Paired F l r → ∃ r', Paired F l' r' ∧ r'.Perm r := by
 induction p with
 | nil => intro r h; cases h; exact ⟨[], .nil, .nil⟩
 | cons x _ ih =>
   intro r h
   cases h with
   | cons f t =>
     obtain ⟨r', h1, h2⟩ := ih t
     exact ⟨_ :: r', .cons f h1, h2.cons _⟩
 | swap x y l =>
   intro r h
   cases h with
   | cons f t =>
     cases t with
     | cons g t => exact ⟨_, .cons g (.cons f t), .swap _ _ _⟩
 | trans _ _ ih1 ih2 =>
   intro r h
   obtain ⟨r1, h1, h2⟩ := ih2 h
   obtain ⟨r2, h3, h4⟩ := ih1 h1
   exact ⟨r2, h3, h4.trans h2⟩
theorem sorted_set {Q : Value → Shared → Prop} (hh : A.handled = none) (S : SetG w s.heap a ks)
   (h : ∀ (s' : Shared) (l : Addr) (vs : List Value) (ns : List Int) (e : Nat), s.heap.objs.size ≤ l → (∀ b u, s.heap.get? b = some u → s'.heap.get? b = some u) → s'.gens = s.gens → s'.drawn = s.drawn → s'.os = s.os →
     s'.heap.get? l = some { cls := .type "list", data := .seq vs.toArray e } → IntsAre vs ns → ns.Perm ks → ns.Pairwise (· ≤ ·) → Q (.ref l) s') :
   wpAny (model prog w) A (call (.builtin "sorted") [.ref a]) Q E s := by
 obtain ⟨o, es, ep, t, ho, hex, hd, hp, T⟩ := S.ex
 have hn : es.size ≤ 4 := by
   have := Paired.length hp
   rw [Array.length_toList] at this
   have := S.len
   omega
 refine Calls.call_function_entry kind_sorted plain_sorted entry_sorted (args_sorted1 _) ?_
 unfold Builtin.«sorted»
 refine wpAny_bind (m := checkCount "sorted" 1 1 _) (wpAny_pure ?_)
 refine wpAny_bind (collect_set (A := A.in1) hh hex ho hd T hn fun s1 k1 g1 d1 o1 z1 => ?_)
 refine wpAny_bind (wpAny_newList ?_ (by rw [told_len, show sizeLine = 2 ^ 24 from rfl]; omega))
 obtain ⟨ks1, hp1, pm1⟩ := paired_perm (told_perm w a ep es) (paired_map hp)
 have hI := ints_of hp1
 have hl : (told w a ep es).length < 64 := by rw [told_len]; omega
 have hL : (s1.heap.push (seqObj "list" (told w a ep es).toArray 0)).get? s1.heap.objs.size = some (seqObj "list" (told w a ep es).toArray 0) := Heap.get?_push_size _ rfl
 show wpAny _ _ _ _ _ { s1 with heap := s1.heap.push (seqObj "list" (told w a ep es).toArray 0) }
 refine wpAny_bind (wpAny_holding (wpAny_call_entry slot_list_sort ⟨_, hL, rfl⟩ entry_list_sort (list_sort_tree hL hI hl fun out ns' a1 a2 a3 => ⟨_, rfl, ?_⟩) (args_list_sort _)))
 obtain ⟨e, he⟩ := sortedHeap_at (out := out) hL
 have kept : ∀ b u, s.heap.get? b = some u → (sortedHeap (s1.heap.push (seqObj "list" (told w a ep es).toArray 0)) s1.heap.objs.size (told w a ep es) out).get? b = some u := fun b u q => by
   have q1 := k1 b u q
   have hb : b < s1.heap.objs.size := Heap.lt_size q1
   rw [sortedHeap_old (Nat.ne_of_lt hb) (by rw [size_push']; exact Nat.lt_succ_of_lt hb)]
   exact Heap.get?_push_of_some _ q1
 generalize sortedHeap (s1.heap.push (seqObj "list" (told w a ep es).toArray 0)) s1.heap.objs.size (told w a ep es) out = hf at he kept ⊢
 exact wpAny_pure ⟨_, rfl, h { s1 with heap := hf } s1.heap.objs.size out.toList ns' e (Nat.le_of_lt z1) kept g1 d1 o1 (by rw [Array.toArray_toList]; exact he) a1 (a2.trans pm1) a3⟩
end
end SS
end
section
namespace L2
open PySem PySem.Spec PyProof.Rows
abbrev Key := Sum Int Str
def keyIs : Key → Value → Bool
 | .inl k, v => Value.isInt k v
 | .inr x, v => Value.isStrOf x v
def keyH (w : World) : Key → Int
 | .inl k => hashInt k
 | .inr x => hashStr w x
theorem keyIs_shape : ∀ {k : Key} {v : Value}, keyIs k v = true → (∃ i t, k = Sum.inl i ∧ v = Value.int i t) ∨ (∃ x t, k = Sum.inr x ∧ v = Value.str x t)
 | .inl i, v, h => by
   obtain ⟨t, e⟩ := Value.isInt_shape (k := i) (v := v) h
   exact .inl ⟨i, t, rfl, e⟩
 | .inr x, v, h => by
   obtain ⟨t, e⟩ := Value.isStrOf_shape (x := x) (v := v) h
   exact .inr ⟨x, t, rfl, e⟩
theorem keyIs_int (i : Int) (t : Tok) : keyIs (.inl i) (.int i t) = true := by simp [keyIs, Value.isInt]
theorem keyIs_str (x : Str) (t : Tok) : keyIs (.inr x) (.str x t) = true := by simp [keyIs, Value.isStrOf]
theorem key_ll (a b : Int) : decide ((Sum.inl a : Key) = Sum.inl b) = (a == b) := by
 by_cases e : a = b
 · subst e; simp
 · have h : ¬ (Sum.inl a : Key) = Sum.inl b := fun q => e (Sum.inl.inj q)
   rw [decide_eq_false h]
   exact (beq_eq_false_iff_ne.mpr e).symm
theorem key_rr (a b : Str) : decide ((Sum.inr a : Key) = Sum.inr b) = decide (a = b) := by
 by_cases e : a = b
 · subst e; simp
 · have h : ¬ (Sum.inr a : Key) = Sum.inr b := fun q => e (Sum.inr.inj q)
   rw [decide_eq_false h, decide_eq_false e]
theorem key_lr (a : Int) (b : Str) : decide ((Sum.inl a : Key) = Sum.inr b) = false := decide_eq_false (fun q => nomatch q)
theorem key_rl (a : Str) (b : Int) : decide ((Sum.inr a : Key) = Sum.inl b) = false := decide_eq_false (fun q => nomatch q)
def mixKind (prog : Program) (w : World) : PySem.KeyKind prog w Key where
 is := keyIs
 hash := keyH w
 inj := fun v a b ha hb => by
   rcases keyIs_shape ha with ⟨i, t, rfl, rfl⟩ | ⟨x, t, rfl, rfl⟩
   · rcases keyIs_shape hb with ⟨j, u, rfl, e⟩ | ⟨y, u, rfl, e⟩
     · injection e with e1 _; rw [e1]
     · exact nomatch e
   · rcases keyIs_shape hb with ⟨j, u, rfl, e⟩ | ⟨y, u, rfl, e⟩
     · exact nomatch e
     · injection e with e1 _; rw [e1]
 byValue := fun k v h => by
   rcases keyIs_shape h with ⟨i, t, rfl, rfl⟩ | ⟨x, t, rfl, rfl⟩ <;> rfl
 pyHash := fun hv h => by
   rcases keyIs_shape hv with ⟨i, t, rfl, rfl⟩ | ⟨x, t, rfl, rfl⟩
   · exact wpAny_pyHash_int h
   · exact wpAny_pyHash_str h
 eqBool := fun hu hv h => by
   rcases keyIs_shape hu with ⟨i, t, rfl, rfl⟩ | ⟨x, t, rfl, rfl⟩
   · rcases keyIs_shape hv with ⟨j, u, rfl, rfl⟩ | ⟨y, u, rfl, rfl⟩
     · rw [key_ll] at h; exact wpAny_eqBool_int h
     · rw [key_lr] at h; exact SeqAt.EqAt.int_str i t y u _ _ _ _ h
   · rcases keyIs_shape hv with ⟨j, u, rfl, rfl⟩ | ⟨y, u, rfl, rfl⟩
     · rw [key_rl] at h; exact SeqAt.EqAt.str_int x t j u _ _ _ _ h
     · rw [key_rr] at h; exact wpAny_eqBool_str h
 «strs» := fun k x t v h => by
   rcases keyIs_shape h with ⟨i, u, rfl, e⟩ | ⟨y, u, rfl, e⟩
   · exact nomatch e
   · injection e with e1 _
     subst e1
     cases v <;> rfl
theorem mixKind_int (prog : Program) (w : World) (i : Int) (t : Tok) : (mixKind prog w).is (.inl i) (.int i t) = true := keyIs_int i t
theorem mixKind_str (prog : Program) (w : World) (x : Str) (t : Tok) : (mixKind prog w).is (.inr x) (.str x t) = true := keyIs_str x t
end L2
namespace L2
open PySem PySem.Spec PyProof.Rows
inductive V where
 | non | bl (b : Bool) | int (i : Int) | str (x : Str) | byt (b : Array UInt8) | flt (b : UInt64) | ref (a : Addr) | ty (n : String)
 deriving DecidableEq
def RelV : V → Value → Prop
 | .non, u => u = Value.none
 | .bl b, u => u = Value.bool b
 | .int i, u => ∃ t, u = Value.int i t
 | .str x, u => ∃ t, u = Value.str x t
 | .byt b, u => ∃ t, u = Value.bytes b t
 | .flt b, u => ∃ t, u = Value.float b t
 | .ref a, u => u = Value.ref a
 | .ty n, u => u = Value.type n
abbrev Vals : List V → List Value → Prop := Paired RelV
theorem Vals.length {xs : List V} {us : List Value} (r : Vals xs us) : xs.length = us.length := Paired.length r
theorem Vals.get : ∀ {xs : List V} {us : List Value} {i : Nat} {x : V}, Vals xs us → xs[i]? = some x → ∃ u, us[i]? = some u ∧ RelV x u
 | _, _, _, _, .nil, e => by simp at e
 | _, _, 0, _, .cons r _, e => by simp at e; subst e; exact ⟨_, rfl, r⟩
 | _, _, i + 1, x, .cons _ t, e => by
   obtain ⟨u, h1, h2⟩ := Vals.get (i := i) (x := x) t (by simpa using e)
   exact ⟨u, by simpa using h1, h2⟩
theorem Vals.set {x : V} {u : Value} (r : RelV x u) : ∀ {xs : List V} {us : List Value} (i : Nat), Vals xs us → Vals (xs.set i x) (us.set i u)
 | _, _, _, .nil => .nil
 | _, _, 0, .cons _ t => .cons r t
 | _, _, i + 1, .cons q t => .cons q (Vals.set r i t)
theorem Vals.append : ∀ {xs ys : List V} {us ws : List Value}, Vals xs us → Vals ys ws → Vals (xs ++ ys) (us ++ ws)
 | _, _, _, _, .nil, s => s
 | _, _, _, _, .cons r t, s => .cons r (Vals.append t s)
theorem Vals.take : ∀ {xs : List V} {us : List Value} (n : Nat), Vals xs us → Vals (xs.take n) (us.take n)
 | _, _, 0, _ => .nil
 | _, _, _ + 1, .nil => .nil
 | _, _, n + 1, .cons r t => .cons r (Vals.take n t)
theorem Vals.drop : ∀ {xs : List V} {us : List Value} (n : Nat), Vals xs us → Vals (xs.drop n) (us.drop n)
 | _, _, 0, r => r
 | _, _, _ + 1, .nil => .nil
 | _, _, n + 1, .cons _ t => Vals.drop n t
def RelO : Option V → Option Value → Prop
 | some v, some u => RelV v u
 | none, none => True
 | _, _ => False
def KV {κ : Type} : List (κ × V) → List (κ × Value) → Prop := Paired fun (p : κ × V) (q : κ × Value) => p.1 = q.1 ∧ RelV p.2 q.2
def kV : Key → V
 | .inl i => .int i
 | .inr x => .str x
def TupO (h : Heap) (a : Addr) (items : Array Value) : Prop := ∃ n, h.get? a = some { cls := .type "tuple", data := .seq items n }
theorem TupO.isTup {h : Heap} {a : Addr} {items : Array Value} (x : TupO h a items) : IsTup h a items := let ⟨n, e⟩ := x; ⟨_, e, rfl, n, rfl⟩
theorem TupO.new (h : Heap) (items : Array Value) : TupO (h.push { cls := .type "tuple", data := .seq items }) h.objs.size items := ⟨0, Heap.get?_push_size _ rfl⟩
inductive HO where
   | lst (xs : List V)
   | tup (xs : List V)
   | dK (kvs : List (Key × V)) | dT (kvs : List (List Key × V))
   | set (S : Int → Bool) (n : Nat)
   | ins (C dx : Addr) (fs : List (Str × V))
   | own (x : Addr)
   | xd (fs : List (Str × V))
   | met (f x : Addr)
   | rng (lo hi : Int)
   | frz (o : Obj) (u : HO)
   | tbl (ps : Array Value)
   | ext (φ : Heap → Prop)
abbrev Hp := Addr → Option HO
def upd (H : Hp) (a : Addr) (o : HO) : Hp := fun b => if b = a then some o else H b
theorem j4 {H : Hp} {a : Addr} {o : HO} : upd H a o a = some o := by unfold upd; rw [if_pos rfl]
theorem jD {H : Hp} {a b : Addr} {o : HO} (h : b ≠ a) : upd H a o b = H b := by unfold upd; rw [if_neg h]
theorem ne_of {H : Hp} {a b : Addr} {o u : HO} (h : H a = some o) (h' : H b = some u) (d : o ≠ u) : a ≠ b := by
 intro e; subst e; rw [h] at h'; exact d (Option.some.inj h')
theorem jC {H : Hp} {a b : Addr} {o : HO} (h : H a = some o) (h' : H b = none) : a ≠ b := by
 intro e; subst e; rw [h] at h'; cases h'
section
variable (P : Program) (w : World)
def ObjOk (H : Hp) (h : Heap) (a : Addr) : HO → Prop
 | .lst xs => xs.length ≤ sizeLine ∧ ∃ (its : List Value) (n : Nat), Vals xs its ∧ h.get? a = some { cls := .type "list", data := .seq its.toArray n }
 | .tup xs => xs.length ≤ sizeLine ∧ ∃ its : List Value, Vals xs its ∧ TupO h a its.toArray
 | .dK kvs => kvs.length ≤ sizeLine ∧ (a == sysModules) = false ∧ ∃ vs, KV kvs vs ∧ h.DictOf (mixKind P w) a vs
 | .dT kvs => kvs.length ≤ sizeLine ∧ (a == sysModules) = false ∧ ∃ xs : List (List Key × Addr × Value),
     Paired (fun (p : List Key × V) (q : List Key × Addr × Value) => p.1 = q.1 ∧ H q.2.1 = some (.tup (p.1.map kV)) ∧ RelV p.2 q.2.2) kvs xs ∧
     ∃ o es ep, h.get? a = some o ∧ o.ExactDict ∧ o.data = .dict es ep ∧ es.toList = xs.map (entryOfKey (tupleKind (mixKind P w))) ∧ (xs.map (·.1)).Nodup
 | .set S n => h.SetOf (intKind P w) a S n
 | .ins C dx fs => H dx = some (.own a) ∧ fs.length ≤ 1000 ∧ dx ≠ a ∧ h.get? a = some (PySem.W.instObj C dx) ∧
     ∃ mA, h.Ns1 dx mA ∧ (∀ f, RelO (fs.lookup f) (mA f)) ∧ PySem.Within mA (fs.map (·.1))
 | .own _ => ∃ o, h.get? a = some o
 | .xd fs => ∃ mA, h.Ns1 a mA ∧ ∀ f, RelO (fs.lookup f) (mA f)
 | .rng lo hi => ∃ t u v, h.get? a = some { cls := .type "range", data := .fields #[.int lo t, .int hi u, .int 1 v] }
 | .frz o u => h.get? a = some o ∧ ObjOk H h a u
 | .tbl ps => h.get? a = some { cls := .none, data := .fields ps }
 | .met f x => h.get? a = some (PySem.W.methodObj (.ref f) (.ref x))
 | .ext φ => φ h ∧ (∃ o, h.get? a = some o) ∧ ∀ h1 h2 : Heap, φ h1 → (∀ o, h1.get? a = some o → h2.get? a = some o) → φ h2
def HOk (H : Hp) (h : Heap) : Prop := ∀ a o, H a = some o → ObjOk P w H h a o
end
section
variable {P : Program} {w : World} {H H' : Hp} {h h' : Heap} {a : Addr} {o : HO}
theorem ObjOk.lt (x : ObjOk P w H h a o) : a < h.objs.size := by
 cases o with
 | lst xs => obtain ⟨_, _, _, _, e⟩ := x; exact Heap.lt_size e
 | tup xs => obtain ⟨_, _, _, _, e⟩ := x; exact Heap.lt_size e
 | dK kvs => obtain ⟨_, _, _, _, o, _, _, e, _⟩ := x; exact Heap.lt_size e
 | dT kvs => obtain ⟨_, _, _, _, o, _, _, e, _⟩ := x; exact Heap.lt_size e
 | set S n => obtain ⟨o, _, _, _, e, _⟩ := x; exact Heap.lt_size e
 | ins C dx fs => obtain ⟨_, _, _, e, _⟩ := x; exact Heap.lt_size e
 | own y => obtain ⟨_, e⟩ := x; exact Heap.lt_size e
 | xd fs => obtain ⟨_, ⟨_, _, _, e, _⟩, _⟩ := x; exact Heap.lt_size e
 | rng lo hi => obtain ⟨_, _, _, e⟩ := x; exact Heap.lt_size e
 | frz ob u => obtain ⟨e, _⟩ := x; exact Heap.lt_size e
 | tbl ps => exact Heap.lt_size (show h.get? a = some _ from x)
 | met f y => exact Heap.lt_size (show h.get? a = some _ from x)
 | ext φ => obtain ⟨_, ⟨_, e⟩, _⟩ := x; exact Heap.lt_size e
theorem Paired.mapP {α β : Type} {F G : α → β → Prop} : ∀ {l₁ : List α} {l₂ : List β}, Paired F l₁ l₂ → (∀ a b, F a b → G a b) → Paired G l₁ l₂
 | _, _, .nil, _ => .nil
 | _, _, .cons r t, f => .cons (f _ _ r) (Paired.mapP t f)
theorem ObjOk.stay (x : ObjOk P w H h a o) (k : ∀ b u, (b = a ∨ H b = some (.own a)) → h.get? b = some u → h'.get? b = some u)
   (ho : ∀ b, H b = some (.own a) → H' b = some (.own a)) (ht : ∀ b xs, H b = some (.tup xs) → H' b = some (.tup xs)) : ObjOk P w H' h' a o := by
 induction o with
 | lst xs => obtain ⟨z, its, n, r, e⟩ := x; exact ⟨z, its, n, r, k _ _ (.inl rfl) e⟩
 | tup xs => obtain ⟨z, its, r, n, e⟩ := x; exact ⟨z, its, r, n, k _ _ (.inl rfl) e⟩
 | dK kvs => obtain ⟨z, y, vs, r, ob, es, ep, e, c⟩ := x; exact ⟨z, y, vs, r, ob, es, ep, k _ _ (.inl rfl) e, c⟩
 | dT kvs =>
   obtain ⟨z, y, xs, r, ob, es, ep, e, c⟩ := x
   exact ⟨z, y, xs, Paired.mapP r fun p q z => ⟨z.1, ht _ _ z.2.1, z.2.2⟩, ob, es, ep, k _ _ (.inl rfl) e, c⟩
 | set S n => obtain ⟨ob, es, ep, t, e, c⟩ := x; exact ⟨ob, es, ep, t, k _ _ (.inl rfl) e, c⟩
 | ins C dx fs =>
   obtain ⟨d, z, ne, e, mA, ⟨od, es, ep, e2, c⟩, r⟩ := x
   exact ⟨ho _ d, z, ne, k _ _ (.inl rfl) e, mA, ⟨od, es, ep, k _ _ (.inr d) e2, c⟩, r⟩
 | own y => obtain ⟨ob, e⟩ := x; exact ⟨ob, k _ _ (.inl rfl) e⟩
 | xd fs => obtain ⟨mA, ⟨od, es, ep, e, c⟩, r⟩ := x; exact ⟨mA, ⟨od, es, ep, k _ _ (.inl rfl) e, c⟩, r⟩
 | rng lo hi => obtain ⟨t, u, v, e⟩ := x; exact ⟨t, u, v, k _ _ (.inl rfl) e⟩
 | frz ob u ih => obtain ⟨e, q⟩ := x; exact ⟨k _ _ (.inl rfl) e, ih q⟩
 | tbl ps =>
   have e : h.get? a = some { cls := .none, data := .fields ps } := x
   show h'.get? a = some { cls := .none, data := .fields ps }
   exact k a _ (.inl rfl) e
 | met f y =>
   have e : h.get? a = some (PySem.W.methodObj (.ref f) (.ref y)) := x
   show h'.get? a = some (PySem.W.methodObj (.ref f) (.ref y))
   exact k a _ (.inl rfl) e
 | ext φ => obtain ⟨p, ⟨o, e⟩, st⟩ := x; exact ⟨st _ _ p fun o q => k _ _ (.inl rfl) q, ⟨o, k _ _ (.inl rfl) e⟩, st⟩
theorem HOk.lt (x : HOk P w H h) (e : H a = some o) : a < h.objs.size := (x a o e).lt
theorem HOk.fresh (x : HOk P w H h) (e : h.objs.size ≤ a) : H a = none := by
 cases q : H a with
 | none => rfl
 | some u => exact absurd (Nat.lt_of_lt_of_le (x.lt q) e) (Nat.lt_irrefl _)
theorem HOk.kept (x : HOk P w H h) (k : ∀ b u, h.get? b = some u → h'.get? b = some u) : HOk P w H h' := fun a o e =>
 (x a o e).stay (fun b u _ q => k b u q) (fun _ q => q) fun _ _ q => q
theorem HOk.laid (x : HOk P w H h) (k : ∀ b u, h.get? b = some u → h'.get? b = some u) (hp : h.objs.size ≤ a) (new : ObjOk P w (upd H a o) h' a o) : HOk P w (upd H a o) h' := fun b u e => by
 have hn := x.fresh hp
 by_cases hb : b = a
 · subst hb; rw [j4] at e; cases e; exact new
 · rw [jD hb] at e
   exact (x b u e).stay (fun c v _ q => k c v q) (fun c q => by rw [jD (jC q hn)]; exact q) fun c xs q => by rw [jD (jC q hn)]; exact q
end
def Rd (H : Hp) (a : Addr) (u : HO) : Prop := H a = some u ∨ ∃ o, H a = some (.frz o u)
theorem Rd.ok {P : Program} {w : World} {H : Hp} {h : Heap} {a : Addr} {u : HO} (r : Rd H a u) (x : HOk P w H h) : ObjOk P w H h a u := by
 rcases r with r | ⟨o, r⟩
 · exact x a u r
 · obtain ⟨_, q⟩ := x a _ r
   exact q
def Mut : Option HO → Prop
 | some (.lst _) => True
 | some (.dK _) => True
 | some (.dT _) => True
 | some (.set _ _) => True
 | some (.ins _ _ _) => True
 | some (.ext _) => True
 | _ => False
section
variable {P : Program} {w : World} {H : Hp} {h h' : Heap} {x e : Addr} {o' : HO}
theorem HOk.write (ok : HOk P w H h) (mu : Mut (H x)) (he : e = x ∨ H e = some (.own x)) (k : ∀ b u, b ≠ e → h.get? b = some u → h'.get? b = some u) (heo : ∃ u, h'.get? e = some u)
   (new : ObjOk P w (upd H x o') h' x o') : HOk P w (upd H x o') h' := fun b u q => by
 have nown : ∀ c y, H c = some (.own y) → c ≠ x := fun c y r z => by subst z; rw [r] at mu; exact mu
 have ntup : ∀ c xs, H c = some (.tup xs) → c ≠ x := fun c xs r z => by subst z; rw [r] at mu; exact mu
 by_cases hb : b = x
 · subst hb; rw [j4] at q; cases q; exact new
 · rw [jD hb] at q
   by_cases hbe : b = e
   · have q' : H b = some (.own x) := by
       rcases he with z | z
       · exact absurd (hbe.trans z) hb
       · rw [hbe]; exact z
     rw [q] at q'; cases q'
     obtain ⟨v, hv⟩ := heo
     exact ⟨v, by rw [hbe]; exact hv⟩
   · refine (ok b u q).stay (fun c v hc r => k c v ?_ r) (fun c r => by rw [jD (nown c b r)]; exact r) fun c xs r => by rw [jD (ntup c xs r)]; exact r
     rcases hc with rfl | hc
     · exact hbe
     · rintro rfl
       rcases he with z | z
       · exact nown c b hc z
       · rw [hc] at z; cases z; exact hb rfl
end
structure Un (fs ex : List Addr) (H H' : Hp) (h h' : Heap) : Prop where
 keep : ∀ b o, h.get? b = some o → H b = none → b ∉ fs → b ∉ ex → h'.get? b = some o
 slot : ∀ b o, h.get? b = some o → H b = none → b ∈ fs → b ∉ ex → ∃ sl, h'.get? b = some { o with slots := sl }
 free : ∀ b o, h.get? b = some o → H b = none → b ∉ ex → H' b = none
 there : ∀ b o, h.get? b = some o → b ∉ ex → ∃ o', h'.get? b = some o'
 tups : ∀ b xs, H b = some (.tup xs) → H' b = some (.tup xs)
 frzs : ∀ b o u, H b = some (.frz o u) → H' b = some (.frz o u)
 tbls : ∀ b ps, H b = some (.tbl ps) → ∃ more, H' b = some (.tbl (ps ++ more))
section
variable {fs fs' ex ex' : List Addr} {H H1 H2 : Hp} {h h1 h2 h' : Heap} {a x e : Addr} {o : HO}
theorem Un.any (u : Un fs ex H H1 h h1) {b : Addr} {ob : Obj} (q : h.get? b = some ob) (n : H b = none) (hx : b ∉ ex) : ∃ sl, h1.get? b = some { ob with slots := sl } := by
 by_cases hb : b ∈ fs
 · exact u.slot b ob q n hb hx
 · exact ⟨ob.slots, u.keep b ob q n hb hx⟩
theorem Un.kept (k : ∀ b u, h.get? b = some u → h'.get? b = some u) : Un fs ex H H h h' :=
 ⟨fun b ob q _ _ _ => k b ob q, fun b ob q _ _ _ => ⟨ob.slots, k b ob q⟩, fun _ _ _ n _ => n, fun b ob q _ => ⟨ob, k b ob q⟩, fun _ _ q => q, fun _ _ _ q => q, fun _ ps q => ⟨#[], by rw [q]; simp⟩⟩
theorem Un.refl : Un fs ex H H h h := Un.kept fun _ _ q => q
theorem Un.laid (k : ∀ b u, h.get? b = some u → h'.get? b = some u) (hp : h.objs.size ≤ a) (hn : H a = none) : Un fs ex H (upd H a o) h h' where
 keep := fun b u q _ _ _ => k b u q
 slot := fun b u q _ _ _ => ⟨u.slots, k b u q⟩
 free := fun b u q n _ => by rw [jD (Nat.ne_of_lt (Nat.lt_of_lt_of_le (Heap.lt_size q) hp))]; exact n
 there := fun b u q _ => ⟨u, k b u q⟩
 tups := fun b xs q => by rw [jD (jC q hn)]; exact q
 frzs := fun b u xs q => by rw [jD (jC q hn)]; exact q
 tbls := fun b ps q => ⟨#[], by rw [jD (jC q hn), q]; simp⟩
theorem Un.write (mu : Mut (H x)) (he : e = x ∨ H e = some (.own x)) (k : ∀ b u, b ≠ e → h.get? b = some u → h'.get? b = some u) (heo : ∃ u, h'.get? e = some u) : Un fs ex H (upd H x o) h h' := by
 have hx : ∀ b, H b = none → b ≠ x := fun b n z => by subst z; rw [n] at mu; exact mu
 have hb : ∀ b, H b = none → b ≠ e := fun b n z => by
   subst z
   rcases he with r | r
   · exact hx b n r
   · rw [n] at r; cases r
 have hm : ∀ b u, H b = some u → ¬ Mut (some u) → b ≠ x := fun b u q nm z => by subst z; rw [q] at mu; exact nm mu
 refine ⟨fun b u q n _ _ => k b u (hb b n) q, fun b u q n _ _ => ⟨u.slots, k b u (hb b n) q⟩, fun b u q n _ => by rw [jD (hx b n)]; exact n, fun b u q _ => ?_,
   fun b xs q => by rw [jD (hm b _ q fun z => z)]; exact q, fun b u xs q => by rw [jD (hm b _ q fun z => z)]; exact q, fun b ps q => ⟨#[], by rw [jD (hm b _ q fun z => z), q]; simp⟩⟩
 by_cases hbe : b = e
 · subst hbe; exact heo
 · exact ⟨u, k b u hbe q⟩
end
def trk (h : Heap) (H : Hp) : List Addr := (List.range h.objs.size).filter fun a => (H a).isSome
def hidT (h : Heap) (H : Hp) : Heap := PySem.W.hideAll h (trk h H)
theorem hidT_size (h : Heap) (H : Hp) : (hidT h H).objs.size = h.objs.size := PySem.W.hideAll_size _ _
theorem hidT_get {h : Heap} {H : Hp} {b : Addr} {o : Obj} (e : h.get? b = some o) (n : H b = none) : (hidT h H).get? b = some o :=
 PySem.W.hideAll_get _ e fun hm => by
   have q : (H b).isSome = true := (List.mem_filter.mp hm).2
   rw [n] at q; simp at q
theorem of_hidT {h : Heap} {H : Hp} {b : Addr} {o : Obj} (e : (hidT h H).get? b = some o) : h.get? b = some o ∧ H b = none := by
 have e' : h.get? b = some o := PySem.W.of_hideAll (trk h H) e
 refine ⟨e', ?_⟩
 cases q : H b with
 | none => rfl
 | some x =>
   have hm : b ∈ trk h H := List.mem_filter.mpr ⟨List.mem_range.mpr (Heap.lt_size e'), by simp [q]⟩
   have z : (hidT h H).get? b = none := PySem.W.hideAll_none (trk h H) hm
   rw [z] at e; cases e
end L2
namespace L2
open PySem PySem.Spec PyProof.Rows
structure Mod (K : W.Frag) (mg : Str → Option Value) (base : Heap) : Prop where
 kin : K.In base
 glob : base.Ns mainGlobals mg
 blt : ∃ mb, base.Ns builtinsNs mb ∧ ∀ x : Str, x ≠ "__name__" → mb x = bootBuiltins x
 nolimit : base.NoLimit
structure Cx where
 prog : Program
 w : World
 K : W.Frag
 mg : Str → Option Value
 base : Heap
 A : Around
 N : List Str
 s₀ : Shared
 H₀ : Hp
 env : Env
 outer : List Env
 stack : List Env
 ex : List Addr
 fn : Str → Bool
 calm : Bool
 pn : List (Addr × Obj)
 xe : Value → Shared → Prop
def frs (l : List Env) : List Addr := l.filterMap (·.frame)
abbrev Cx.fs (X : Cx) : List Addr := frs X.outer
def Vis (sc : Scope) (x : Str) : Prop := sc.names.lookup x = some .local ∨ sc.names.lookup x = some .cell ∨ sc.names.lookup x = some .free
def Loc (sc : Scope) (x : Str) : Prop := sc.names.lookup x = some .local ∨ sc.names.lookup x = some .cell
def Look (env : Env) (h : Heap) (m : Str → Option Value) (x : Str) (u : Value) : Prop :=
 (env.kindOf x = some .local ∧ m x = some u) ∨ ((env.kindOf x = some .cell ∨ env.kindOf x = some .free) ∧ ∃ c, env.cells.lookup x = some c ∧ h.IsCell c (some u))
structure Cx.Ok (X : Cx) : Prop where
 mod : Mod X.K X.mg X.base
 kind : X.env.scope.kind = .function
 glob : X.env.globals = mainGlobals
 blt : X.env.builtins = builtinsNs
 above : X.s₀.heap.objs.size ≤ X.env.locals
 inj : ∀ x y c, X.env.cells.lookup x = some c → X.env.cells.lookup y = some c → x = y
 has : ∀ x, (X.env.kindOf x = some .cell ∨ X.env.kindOf x = some .free) → ∃ c, X.env.cells.lookup x = some c
 cab : ∀ x c, X.fn x = true → X.env.cells.lookup x = some c → X.s₀.heap.objs.size ≤ c
 hd : X.calm = true → X.A.handled = none
 frames : X.A.frames = some X.stack
 stk : X.stack = X.outer ∨ (X.stack = X.env :: X.outer ∧ X.env.frame = some X.env.locals)
 exf : ∀ b ∈ X.ex, b ≠ X.env.locals ∧ ∀ x c, X.env.cells.lookup x = some c → c ≠ b
 bs : ∀ b o, X.base.get? b = some o → X.s₀.heap.get? b = some o ∧ X.H₀ b = none
 bsz : X.base.objs.size ≤ X.s₀.heap.objs.size
 noex : ∀ b o, X.base.get? b = some o → b ∉ X.ex
 exfs : ∀ b ∈ X.ex, b ∉ X.fs
 funs : X.s₀.heap.FunFrames X.base X.outer
 frf : ∀ b ∈ X.fs, X.H₀ b = none
structure Inv (X : Cx) (pins : List (Addr × Obj)) (σ : List (Option V)) (H : Hp) (s : Shared) : Prop where
 ok : X.Ok
 os : s.os = X.s₀.os
 bare : AllBare s.gens
 base : Un X.fs X.ex X.H₀ H X.s₀.heap s.heap
 loc : ∃ m, s.heap.Ns X.env.locals m ∧ ∀ (i : Nat) (x : Str) (v : V), X.N[i]? = some x → σ[i]? = some (some v) → Vis X.env.scope x → ∃ u, RelV v u ∧ Look X.env s.heap m x u
 cell : ∀ x c, X.env.cells.lookup x = some c → ∃ v, s.heap.IsCell c v
 free : H X.env.locals = none
 freeC : ∀ x c, X.env.cells.lookup x = some c → H c = none
 pin : ∀ p ∈ X.pn ++ pins, s.heap.get? p.1 = some p.2 ∧ H p.1 = none ∧ p.1 ≠ X.env.locals ∧ p.1 ∉ X.fs ∧ ∀ v, p.2.data ≠ .cell v
 hok : HOk X.prog X.w H s.heap
 len : σ.length = X.N.length
section
variable {X : Cx} {pins : List (Addr × Obj)} {σ : List (Option V)} {H H' : Hp} {s : Shared} {h' : Heap}
theorem Cx.Ok.nofr (ok : X.Ok) {b : Addr} {o : Obj} (e : X.base.get? b = some o) : b ∉ X.fs := fun hb => by
 have := (ok.funs.mem hb).1
 rw [e] at this; cases this
theorem Inv.bs (I : Inv X pins σ H s) : ∀ b o, X.base.get? b = some o → s.heap.get? b = some o ∧ H b = none := fun b o e =>
 ⟨I.base.keep b o (I.ok.bs b o e).1 (I.ok.bs b o e).2 (I.ok.nofr e) (I.ok.noex b o e), I.base.free b o (I.ok.bs b o e).1 (I.ok.bs b o e).2 (I.ok.noex b o e)⟩
theorem Inv.bk (I : Inv X pins σ H s) : ∀ b o, X.base.get? b = some o → s.heap.get? b = some o := fun b o e => (I.bs b o e).1
theorem Inv.mod (I : Inv X pins σ H s) : Mod X.K X.mg X.base := I.ok.mod
theorem Inv.kIn (I : Inv X pins σ H s) : X.K.In s.heap := I.ok.mod.kin.keeps I.bk
theorem Inv.lt (I : Inv X pins σ H s) : X.env.locals < s.heap.objs.size := let ⟨_, hn, _⟩ := I.loc; hn.lt
theorem Inv.sz (I : Inv X pins σ H s) : X.s₀.heap.objs.size ≤ s.heap.objs.size := Nat.le_trans I.ok.above (Nat.le_of_lt I.lt)
theorem Inv.nofs (I : Inv X pins σ H s) {a : Addr} (h : s.heap.objs.size ≤ a) : a ∉ X.fs := fun hb => by
 obtain ⟨_, o, ho, _⟩ := I.ok.funs.mem hb
 exact absurd (Nat.lt_of_lt_of_le (Heap.lt_size ho) (Nat.le_trans I.sz h)) (Nat.lt_irrefl _)
theorem Inv.cne (I : Inv X pins σ H s) : ∀ x c, X.env.cells.lookup x = some c → c ≠ X.env.locals := fun x c e z => by
 obtain ⟨v, o, ho, hd⟩ := I.cell x c e
 obtain ⟨m, ⟨o', es, ep, ho', hd', _⟩, _⟩ := I.loc
 rw [z, ho'] at ho; cases ho; rw [hd'] at hd; cases hd
theorem Inv.funs (I : Inv X pins σ H s) : s.heap.FunFrames X.base X.outer := by
 have all : ∀ (l : List Env), (∀ b ∈ frs l, b ∈ X.fs) → X.s₀.heap.FunFrames X.base l → s.heap.FunFrames X.base l := by
   intro l
   induction l with
   | nil => intro _ _; trivial
   | cons env r ih =>
     intro hs hl
     obtain ⟨hk, ⟨L, o, hf, hn, ho, hd⟩, hr⟩ := hl
     have hL : L ∈ X.fs := hs L (by unfold frs; rw [List.filterMap_cons, hf]; exact List.mem_cons_self)
     obtain ⟨sl, e⟩ := I.base.slot L o ho (I.ok.frf L hL) hL fun z => I.ok.exfs L z hL
     exact ⟨hk, ⟨L, _, hf, hn, e, hd⟩, ih (fun b hb => hs b (by unfold frs; rw [List.filterMap_cons, hf]; exact List.mem_cons_of_mem _ hb)) hr⟩
 exact all X.outer (fun _ hb => hb) I.ok.funs
theorem Inv.stack (I : Inv X pins σ H s) : s.heap.FunFrames X.base X.stack := by
 rcases I.ok.stk with e | ⟨e, hf⟩
 · rw [e]; exact I.funs
 · rw [e]
   obtain ⟨m, hn, _⟩ := I.loc
   refine .cons (by rw [I.ok.kind]; decide) hf hn ?_ I.funs
   exact Heap.get?_none_of_le (Nat.le_trans I.ok.bsz I.ok.above)
theorem Inv.stkSub (I : Inv X pins σ H s) : ∀ b ∈ frs X.stack, b ∈ X.env.locals :: X.fs := fun b hb => by
 rcases I.ok.stk with e | ⟨e, hf⟩
 · rw [e] at hb; exact List.mem_cons_of_mem _ hb
 · rw [e] at hb
   unfold frs at hb
   rw [List.filterMap_cons, hf] at hb
   exact hb
theorem Inv.stkFree (I : Inv X pins σ H s) : ∀ b ∈ frs X.stack, H b = none := fun b hb => by
 rcases List.mem_cons.mp (I.stkSub b hb) with e | hb
 · rw [e]; exact I.free
 · obtain ⟨_, o, ho, _⟩ := I.ok.funs.mem hb
   exact I.base.free b o ho (I.ok.frf b hb) fun z => I.ok.exfs b z hb
theorem Inv.step {g' : Array GenState} {t' : Nat} {d' : Drawn} {ch : List Addr} (I : Inv X pins σ H s)
   (hch : ∀ b ∈ ch, (b ∈ X.ex ∨ X.s₀.heap.objs.size ≤ b) ∧ b ≠ X.env.locals ∧ (∀ x c, X.env.cells.lookup x = some c → c ≠ b) ∧ ∀ p ∈ X.pn ++ pins, p.1 ≠ b)
   (keep : ∀ b o, b ≠ X.env.locals → b ∉ X.fs → b ∉ ch → s.heap.get? b = some o → H b = none → h'.get? b = some o)
   (slot : ∀ b o, b ≠ X.env.locals → b ∈ X.fs → b ∉ ch → s.heap.get? b = some o → H b = none → ∃ sl, h'.get? b = some { o with slots := sl }) (free : ∀ b o, b ∉ ch → s.heap.get? b = some o → H b = none → H' b = none)
   (there : ∀ b o, b ∉ ch → s.heap.get? b = some o → ∃ o', h'.get? b = some o')
   (tups : ∀ b xs, H b = some (.tup xs) → H' b = some (.tup xs)) (frzs : ∀ b o u, H b = some (.frz o u) → H' b = some (.frz o u)) (tbls : ∀ b ps, H b = some (.tbl ps) → ∃ more, H' b = some (.tbl (ps ++ more)))
   (ns : ∀ m, s.heap.Ns X.env.locals m → h'.Ns X.env.locals m) (hok : HOk X.prog X.w H' h') (hg : AllBare g') :
   Inv X pins σ H' { s with heap := h', gens := g', drawn := d', toks := t' } := by
 have neL : ∀ b o, X.s₀.heap.get? b = some o → b ≠ X.env.locals := fun b o e => Nat.ne_of_lt (Nat.lt_of_lt_of_le (Heap.lt_size e) I.ok.above)
 have neC : ∀ b o, X.s₀.heap.get? b = some o → b ∉ X.ex → b ∉ ch := fun b o e hx hb => by
   rcases (hch b hb).1 with z | z
   · exact hx z
   · exact absurd (Nat.lt_of_lt_of_le (Heap.lt_size e) z) (Nat.lt_irrefl _)
 have cellK : ∀ x c, X.env.cells.lookup x = some c → ∀ v, s.heap.IsCell c v → h'.IsCell c v := fun x c e v ⟨o, ho, hd⟩ => by
   have nch : c ∉ ch := fun z => (hch c z).2.2.1 x c e rfl
   by_cases hc : c ∈ X.fs
   · obtain ⟨sl, q⟩ := slot c o (I.cne x c e) hc nch ho (I.freeC x c e)
     exact ⟨_, q, hd⟩
   · exact ⟨o, keep c o (I.cne x c e) hc nch ho (I.freeC x c e), hd⟩
 refine ⟨I.ok, I.os, hg, ⟨fun b o e n hb hx => ?_, fun b o e n hb hx => ?_, fun b o e n hx => ?_, fun b o e hx => ?_, fun b xs e => tups b xs (I.base.tups b xs e), fun b o xs e => frzs b o xs (I.base.frzs b o xs e), fun b ps e => ?_⟩, ?_, fun x c e => ?_, ?_, fun x c e => ?_, fun p hp => ?_, hok, I.len⟩
 · exact keep b o (neL b o e) hb (neC b o e hx) (I.base.keep b o e n hb hx) (I.base.free b o e n hx)
 · obtain ⟨sl, e1⟩ := I.base.slot b o e n hb hx
   obtain ⟨sl', e2⟩ := slot b _ (neL b o e) hb (neC b o e hx) e1 (I.base.free b o e n hx)
   exact ⟨sl', e2⟩
 · obtain ⟨o', e1⟩ := I.base.there b o e hx
   exact free b o' (neC b o e hx) e1 (I.base.free b o e n hx)
 · obtain ⟨o', e1⟩ := I.base.there b o e hx
   exact there b o' (neC b o e hx) e1
 · obtain ⟨m1, e1⟩ := I.base.tbls b ps e
   obtain ⟨m2, e2⟩ := tbls b _ e1
   exact ⟨m1 ++ m2, by rw [e2, Array.append_assoc]⟩
 · obtain ⟨m, hn, hl⟩ := I.loc
   refine ⟨m, ns m hn, fun i x v e1 e2 e3 => ?_⟩
   obtain ⟨u, r, l⟩ := hl i x v e1 e2 e3
   refine ⟨u, r, ?_⟩
   rcases l with l | ⟨k, c, e, z⟩
   · exact .inl l
   · exact .inr ⟨k, c, e, cellK x c e _ z⟩
 · obtain ⟨v, z⟩ := I.cell x c e
   exact ⟨v, cellK x c e v z⟩
 · obtain ⟨m, ⟨o, _, _, ho, _⟩, _⟩ := I.loc
   exact free _ o (fun z => (hch _ z).2.1 rfl) ho I.free
 · obtain ⟨v, o, ho, hd⟩ := I.cell x c e
   exact free c o (fun z => (hch c z).2.2.1 x c e rfl) ho (I.freeC x c e)
 · obtain ⟨e, n, ne, nf, d⟩ := I.pin p hp
   have nch : p.1 ∉ ch := fun z => (hch p.1 z).2.2.2 p hp rfl
   exact ⟨keep p.1 p.2 ne nf nch e n, free p.1 p.2 nch e n, ne, nf, d⟩
theorem Inv.un {t' : Nat} (I : Inv X pins σ H s) (u : Un X.fs [] H H' s.heap h') (hok : HOk X.prog X.w H' h') : Inv X pins σ H' { s with heap := h', toks := t' } := by
 obtain ⟨m, ⟨o, es, ep, ho, r⟩, _⟩ := id I.loc
 obtain ⟨sl, hL⟩ := u.any ho I.free (by simp)
 exact I.step (g' := s.gens) (d' := s.drawn) (ch := []) (fun _ z => nomatch z) (fun b o _ hb _ e n => u.keep b o e n hb (by simp)) (fun b o _ hb _ e n => u.slot b o e n hb (by simp)) (fun b o _ e n => u.free b o e n (by simp)) (fun b o _ e => u.there b o e (by simp)) u.tups u.frzs u.tbls (fun m' hm => by
   obtain ⟨o', es', ep', ho', r'⟩ := hm
   rw [ho] at ho'; cases ho'
   exact ⟨_, es', ep', hL, r'⟩) hok I.bare
theorem Inv.call {g' : Array GenState} {t' : Nat} {d' : Drawn} {ch : List Addr} (I : Inv X pins σ H s) (u : Un (frs X.stack) ch H H' s.heap h') (hok : HOk X.prog X.w H' h') (hg : AllBare g')
   (hch : ∀ b ∈ ch, (b ∈ X.ex ∨ X.s₀.heap.objs.size ≤ b) ∧ b ≠ X.env.locals ∧ (∀ x c, X.env.cells.lookup x = some c → c ≠ b) ∧ ∀ p ∈ X.pn ++ pins, p.1 ≠ b) :
   Inv X pins σ H' { s with heap := h', gens := g', drawn := d', toks := t' } := by
 obtain ⟨m, ⟨o, es, ep, ho, r⟩, _⟩ := id I.loc
 obtain ⟨sl, hL⟩ := u.any ho I.free fun z => (hch _ z).2.1 rfl
 exact I.step (ch := ch) hch (fun b o hL hb hc e n => u.keep b o e n (fun z => (List.mem_cons.mp (I.stkSub b z)).elim hL hb) hc) (fun b o _ _ hc e n => u.any e n hc) (fun b o hc e n => u.free b o e n hc) (fun b o hc e => u.there b o e hc) u.tups u.frzs u.tbls (fun m' hm => by
   obtain ⟨o', es', ep', ho', r'⟩ := hm
   rw [ho] at ho'; cases ho'
   exact ⟨_, es', ep', hL, r'⟩) hok hg
theorem Inv.turned {t' : Nat} {it : Addr} (I : Inv X pins σ H s) (k : ∀ b o, b ≠ it → s.heap.get? b = some o → h'.get? b = some o) (hn : H it = none) (hL : it ≠ X.env.locals)
   (h1 : it ∈ X.ex ∨ X.s₀.heap.objs.size ≤ it) (h2 : ∀ x c, X.env.cells.lookup x = some c → c ≠ it) (h3 : ∀ p ∈ X.pn ++ pins, p.1 ≠ it) : Inv X pins σ H { s with heap := h', toks := t' } := by
 have nit : ∀ b u, H b = some u → b ≠ it := fun b u e z => by rw [z, hn] at e; cases e
 refine I.step (g' := s.gens) (d' := s.drawn) (ch := [it]) (fun b hb => ?_) (fun b o _ _ hc e _ => k b o (fun z => hc (by simp [z])) e) (fun b o _ _ hc e _ => ⟨o.slots, k b o (fun z => hc (by simp [z])) e⟩) (fun _ _ _ _ n => n)
   (fun b o hc e => ⟨o, k b o (fun z => hc (by simp [z])) e⟩) (fun _ _ e => e) (fun _ _ _ e => e) (fun b ps e => ⟨#[], by rw [e]; simp⟩) (fun m hm => ?_) (fun b u e => ?_) I.bare
 · have e : b = it := by simpa using hb
   subst e
   exact ⟨h1, hL, h2, h3⟩
 · obtain ⟨o, es, ep, ho, r⟩ := hm
   exact ⟨o, es, ep, k _ o (Ne.symm hL) ho, r⟩
 · refine (I.hok b u e).stay (fun c v hc q => k c v ?_ q) (fun _ q => q) fun _ _ q => q
   rcases hc with z | z
   · rw [z]; exact nit b u e
   · exact nit c _ z
theorem Inv.tok (I : Inv X pins σ H s) (t : Nat) : Inv X pins σ H { s with toks := t } := I.un (h' := s.heap) (t' := t) Un.refl I.hok
theorem Inv.kept {t' : Nat} (I : Inv X pins σ H s) (k : ∀ b u, s.heap.get? b = some u → h'.get? b = some u) : Inv X pins σ H { s with heap := h', toks := t' } := I.un (Un.kept k) (I.hok.kept k)
theorem Inv.laid {a : Addr} {o : HO} {t' : Nat} (I : Inv X pins σ H s) (k : ∀ b u, s.heap.get? b = some u → h'.get? b = some u) (hp : s.heap.objs.size ≤ a) (new : ObjOk X.prog X.w (upd H a o) h' a o) :
   Inv X pins σ (upd H a o) { s with heap := h', toks := t' } := I.un (Un.laid k hp (I.hok.fresh hp)) (I.hok.laid k hp new)
theorem Inv.write {x e : Addr} {o : HO} {t' : Nat} (I : Inv X pins σ H s) (mu : Mut (H x)) (he : e = x ∨ H e = some (.own x)) (k : ∀ b u, b ≠ e → s.heap.get? b = some u → h'.get? b = some u) (heo : ∃ u, h'.get? e = some u)
   (new : ObjOk X.prog X.w (upd H x o) h' x o) : Inv X pins σ (upd H x o) { s with heap := h', toks := t' } := I.un (Un.write mu he k heo) (I.hok.write mu he k heo new)
theorem Inv.pins_of {pins' : List (Addr × Obj)} (I : Inv X pins σ H s) (h : ∀ p ∈ pins', s.heap.get? p.1 = some p.2 ∧ H p.1 = none ∧ p.1 ≠ X.env.locals ∧ p.1 ∉ X.fs ∧ ∀ v, p.2.data ≠ .cell v) : Inv X pins' σ H s :=
 ⟨I.ok, I.os, I.bare, I.base, I.loc, I.cell, I.free, I.freeC, fun p hp => (List.mem_append.mp hp).elim (fun z => I.pin p (List.mem_append_left _ z)) (h p), I.hok, I.len⟩
theorem nodup_ix {N : List Str} (hN : N.Nodup) {i j : Nat} {x : Str} (a : N[i]? = some x) (b : N[j]? = some x) : i = j := by
 obtain ⟨h1, e1⟩ := List.getElem?_eq_some_iff.mp a
 obtain ⟨h2, e2⟩ := List.getElem?_eq_some_iff.mp b
 exact (List.getElem_inj hN).mp (e1.trans e2.symm)
theorem store_ok2 {M : Model} {A : Around} {E : Value → Shared → Prop} {i : Nat} {x : Str} {v : V} {u : Value} {Q : Unit → Shared → Prop} (I : Inv X pins σ H s) (hN : X.N.Nodup) (hi : X.N[i]? = some x) (hx : Loc X.env.scope x) (r : RelV v u)
   (h : ∀ s', Inv X pins (σ.set i (some v)) H s' → (∃ a, Heap.SameBut a s.heap s'.heap ∧ (a = X.env.locals ∨ X.env.cells.lookup x = some a)) → Q () s') (hf : X.fn x = true ∨ X.env.scope.names.lookup x = some .local := by first | exact .inl rfl | exact .inr rfl | assumption) : wpAny M A (storeName X.env x u) Q E s := by
 obtain ⟨m, hn, hl⟩ := id I.loc
 have hcls : (X.env.scope.kind == .class || (X.env.scope.kind == .module && X.env.locals != X.env.globals)) = false := by rw [I.ok.kind]; rfl
 have hiσ : i < σ.length := by rw [I.len]; exact (List.getElem?_eq_some_iff.mp hi).1
 have cne := I.cne
 have tracked : ∀ {a : Addr} {h' : Heap}, (∃ o, s.heap.get? a = some o ∧ H a = none) → Heap.SameBut a s.heap h' → HOk X.prog X.w H h' := fun {a h'} ha hs b ob e => by
   obtain ⟨_, _, hfree⟩ := ha
   refine (I.hok b ob e).stay (fun c w' hc q => (hs.2 c ?_).trans q) (fun _ q => q) fun _ _ q => q
   rintro rfl
   rcases hc with rfl | hc
   · rw [hfree] at e; cases e
   · rw [hfree] at hc; cases hc
 rcases hx with hk | hk
 · refine wpAny_storeName_local hk hn (fun h' hn' hs => ?_) hcls
   obtain ⟨oL, _, _, hoL, _⟩ := id hn
   refine h _ ⟨I.ok, I.os, I.bare, ⟨fun b o e n hb hx => ?_, fun b o e n hb hx => ?_, I.base.free, fun b o e hx => ?_, I.base.tups, I.base.frzs, I.base.tbls⟩, ⟨_, hn', fun j y v' e1 e2 e3 => ?_⟩, fun y c e => ?_, I.free, I.freeC, fun p hp => ?_, tracked ⟨oL, hoL, I.free⟩ hs, by simpa using I.len⟩ ⟨_, hs, .inl rfl⟩
   · exact (hs.2 b (Nat.ne_of_lt (Nat.lt_of_lt_of_le (Heap.lt_size e) I.ok.above))).trans (I.base.keep b o e n hb hx)
   · obtain ⟨sl, e1⟩ := I.base.slot b o e n hb hx
     exact ⟨sl, (hs.2 b (Nat.ne_of_lt (Nat.lt_of_lt_of_le (Heap.lt_size e) I.ok.above))).trans e1⟩
   · obtain ⟨o', e1⟩ := I.base.there b o e hx
     exact ⟨o', (hs.2 b (Nat.ne_of_lt (Nat.lt_of_lt_of_le (Heap.lt_size e) I.ok.above))).trans e1⟩
   · by_cases hj : j = i
     · subst hj
       rw [hi] at e1; cases e1
       rw [List.getElem?_set_self hiσ] at e2
       cases e2
       exact ⟨u, r, .inl ⟨hk, by simp⟩⟩
     · rw [List.getElem?_set_ne (Ne.symm hj)] at e2
       obtain ⟨u', r', q⟩ := hl j y v' e1 e2 e3
       refine ⟨u', r', ?_⟩
       rcases q with ⟨k, e⟩ | ⟨k, c, e, z⟩
       · refine .inl ⟨k, ?_⟩
         have : y ≠ x := fun e => hj (nodup_ix hN e1 (e ▸ hi))
         simp [this, e]
       · exact .inr ⟨k, c, e, z.sameBut hs (cne y c e)⟩
   · obtain ⟨w', z⟩ := I.cell y c e
     exact ⟨w', z.sameBut hs (cne y c e)⟩
   · obtain ⟨e, n, ne, nf, d⟩ := I.pin p hp
     exact ⟨(hs.2 p.1 ne).trans e, n, ne, nf, d⟩
 · have hfn : X.fn x = true := by
     rcases hf with z | z
     · exact z
     · rw [z] at hk; cases hk
   obtain ⟨c, hc⟩ := I.ok.has x (.inl hk)
   obtain ⟨w', z⟩ := I.cell x c hc
   refine wpAny_storeName_cell I.ok.kind hk hc z (fun h' hc' hs => ?_)
   obtain ⟨oc, hoc, hocd⟩ := id z
   refine h { s with heap := h' } ⟨I.ok, I.os, I.bare, ⟨fun b o e n hb hx => ?_, fun b o e n hb hx => ?_, I.base.free, fun b o e hx => ?_, I.base.tups, I.base.frzs, I.base.tbls⟩, ⟨m, hn.sameBut hs (Ne.symm (cne x c hc)), fun j y v' e1 e2 e3 => ?_⟩, fun y c' e => ?_, I.free, I.freeC, fun p hp => ?_, tracked ⟨oc, hoc, I.freeC x c hc⟩ hs, by simpa using I.len⟩ ⟨c, hs, .inr hc⟩
   · exact (hs.2 b (Nat.ne_of_lt (Nat.lt_of_lt_of_le (Heap.lt_size e) (I.ok.cab x c hfn hc)))).trans (I.base.keep b o e n hb hx)
   · obtain ⟨sl, e1⟩ := I.base.slot b o e n hb hx
     exact ⟨sl, (hs.2 b (Nat.ne_of_lt (Nat.lt_of_lt_of_le (Heap.lt_size e) (I.ok.cab x c hfn hc)))).trans e1⟩
   · obtain ⟨o', e1⟩ := I.base.there b o e hx
     exact ⟨o', (hs.2 b (Nat.ne_of_lt (Nat.lt_of_lt_of_le (Heap.lt_size e) (I.ok.cab x c hfn hc)))).trans e1⟩
   · by_cases hj : j = i
     · subst hj
       rw [hi] at e1; cases e1
       rw [List.getElem?_set_self hiσ] at e2
       cases e2
       exact ⟨u, r, .inr ⟨.inl hk, c, hc, hc'⟩⟩
     · rw [List.getElem?_set_ne (Ne.symm hj)] at e2
       obtain ⟨u', r', q⟩ := hl j y v' e1 e2 e3
       refine ⟨u', r', ?_⟩
       rcases q with q | ⟨k, c', e, z'⟩
       · exact .inl q
       · refine .inr ⟨k, c', e, z'.sameBut hs ?_⟩
         rintro rfl
         exact hj (nodup_ix hN e1 (I.ok.inj _ _ _ e hc ▸ hi))
   · by_cases hcc : c' = c
     · subst hcc; exact ⟨_, hc'⟩
     · obtain ⟨w2, z2⟩ := I.cell y c' e
       exact ⟨w2, z2.sameBut hs hcc⟩
   · obtain ⟨e, n, ne, nf, d⟩ := I.pin p hp
     refine ⟨(hs.2 p.1 ?_).trans e, n, ne, nf, d⟩
     intro q
     rw [q, hoc] at e
     have q' : oc = p.2 := Option.some.inj e
     exact d w' (by rw [← q']; exact hocd)
theorem store_ok {M : Model} {A : Around} {E : Value → Shared → Prop} {i : Nat} {x : Str} {v : V} {u : Value} {Q : Unit → Shared → Prop} (I : Inv X pins σ H s) (hN : X.N.Nodup) (hi : X.N[i]? = some x) (hx : Loc X.env.scope x) (r : RelV v u)
   (h : ∀ s', Inv X pins (σ.set i (some v)) H s' → Q () s') (hf : X.fn x = true ∨ X.env.scope.names.lookup x = some .local := by first | exact .inl rfl | exact .inr rfl | assumption) : wpAny M A (storeName X.env x u) Q E s :=
 store_ok2 I hN hi hx r (fun s' I' _ => h s' I') hf
theorem Inv.call' {s' : Shared} {ch : List Addr} (I : Inv X pins σ H s) (ho : s'.os = s.os) (u : Un (frs X.stack) ch H H' s.heap s'.heap) (hok : HOk X.prog X.w H' s'.heap) (hg : AllBare s'.gens)
   (hch : ∀ b ∈ ch, (b ∈ X.ex ∨ X.s₀.heap.objs.size ≤ b) ∧ b ≠ X.env.locals ∧ (∀ x c, X.env.cells.lookup x = some c → c ≠ b) ∧ ∀ p ∈ X.pn ++ pins, p.1 ≠ b) : Inv X pins σ H' s' := by
 obtain ⟨h', g', d', t', o'⟩ := s'
 have e : o' = s.os := ho
 subst e
 exact I.call (g' := g') (t' := t') (d' := d') u hok hg hch
end
abbrev XK := Value → Option Addr → Hp → Prop
abbrev St := List (Option V)
abbrev VK := V → Hp → Prop
abbrev TE := St → Hp → VK → Prop
abbrev TT := St → Hp → (Bool → Hp → Prop) → Prop
abbrev TA := St → Hp → (List V → Hp → Prop) → Prop
structure Ends where
 nx : St → Hp → Prop
 rt : VK
 bk : St → Hp → Prop := fun _ _ => False
 ct : St → Hp → Prop := fun _ _ => False
abbrev TS := Ends → St → Hp → Prop
def EP (X : Cx) (pins : List (Addr × Obj)) (σ : St) (Q : VK) (u : Value) (s' : Shared) : Prop := ∃ v H', Inv X pins σ H' s' ∧ RelV v u ∧ Q v H'
def TP (X : Cx) (pins : List (Addr × Obj)) (σ : St) (Q : Bool → Hp → Prop) (b : Bool) (s' : Shared) : Prop := ∃ H', Inv X pins σ H' s' ∧ Q b H'
def AP (X : Cx) (pins : List (Addr × Obj)) (σ : St) (Q : List V → Hp → Prop) (us : List Value) (s' : Shared) : Prop := ∃ vs H', Inv X pins σ H' s' ∧ Vals vs us ∧ Q vs H'
def SP (X : Cx) (pins : List (Addr × Obj)) (D : Ends) (f : Flow) (s' : Shared) : Prop :=
 match f with
 | .next => ∃ σ' H', Inv X pins σ' H' s' ∧ D.nx σ' H'
 | .brk => ∃ σ' H', Inv X pins σ' H' s' ∧ D.bk σ' H'
 | .cont => ∃ σ' H', Inv X pins σ' H' s' ∧ D.ct σ' H'
 | .ret u => ∃ v σ' H', Inv X pins σ' H' s' ∧ RelV v u ∧ D.rt v H'
def PE (X : Cx) (e : Expr) (t : TE) : Prop :=
 ∀ (pins : List (Addr × Obj)) (s : Shared) (σ : St) (H : Hp) (Q : VK), Inv X pins σ H s → t σ H Q → wpAny (model X.prog X.w) X.A (eval e X.env) (EP X pins σ Q) X.xe s
def PT (X : Cx) (e : Expr) (t : TT) : Prop :=
 ∀ (pins : List (Addr × Obj)) (s : Shared) (σ : St) (H : Hp) (Q : Bool → Hp → Prop), Inv X pins σ H s → t σ H Q → wpAny (model X.prog X.w) X.A (isTrue e X.env (eval e X.env)) (TP X pins σ Q) X.xe s
def PW (X : Cx) (e : Expr) (t : TT) : Prop :=
 ∀ (whole : Sem Value) (pins : List (Addr × Obj)) (s : Shared) (σ : St) (H : Hp) (Q : Bool → Hp → Prop), Inv X pins σ H s → t σ H Q → wpAny (model X.prog X.w) X.A (isTrue e X.env whole) (TP X pins σ Q) X.xe s
theorem PW.pt {X : Cx} {e : Expr} {t : TT} (h : PW X e t) : PT X e t := h _
def PA (X : Cx) (es : List Expr) (t : TA) : Prop :=
 ∀ (pos : Pos) (pins : List (Addr × Obj)) (s : Shared) (σ : St) (H : Hp) (Q : List V → Hp → Prop), Inv X pins σ H s → t σ H Q → wpAny (model X.prog X.w) X.A (spliced (backTo pos (starEach es X.env))) (AP X pins σ Q) X.xe s
def PS (X : Cx) (st : Stmt) (t : TS) : Prop :=
 ∀ (pins : List (Addr × Obj)) (s : Shared) (σ : St) (H : Hp) (D : Ends), Inv X pins σ H s → t D σ H → wpAny (model X.prog X.w) X.A (exec st X.env) (SP X pins D) X.xe s
def PSs (X : Cx) (st : List Stmt) (t : TS) : Prop :=
 ∀ (pins : List (Addr × Obj)) (s : Shared) (σ : St) (H : Hp) (D : Ends), Inv X pins σ H s → t D σ H → wpAny (model X.prog X.w) X.A (execs st X.env) (SP X pins D) X.xe s
theorem thn {α : Type} {t : Sem α} {Q Q' : α → Shared → Prop} {M : Model} {A : Around} {E : Value → Shared → Prop} {s : Shared} (h : wpAny M A t Q E s) (hQ : ∀ a s, Q a s → Q' a s) : wpAny M A t Q' E s := wpAny_mono h hQ fun _ _ x => x
end L2
namespace L2
open PySem PySem.Spec PyProof.Rows
section
variable {X : Cx}
def tVar (i : Nat) : TE := fun σ H Q => ∃ v, σ[i]? = some (some v) ∧ Q v H
def tC (v : V) : TE := fun _ H Q => Q v H
theorem pe_var {i : Nat} {x : Str} {pos : Pos} (hN : X.N[i]? = some x) (hv : Vis X.env.scope x) (hd : (x == ("__debug__" : Str)) = false := by decide) (hcd : (x == ("__classdict__" : Str)) = false := by decide) : PE X (.Name x pos) (tVar i) := by
 intro pins s σ H Q I h
 obtain ⟨v, e, h⟩ := h
 obtain ⟨m, hn, hl⟩ := I.loc
 obtain ⟨u, r, l⟩ := hl i x v hN e hv
 have fin : EP X pins σ Q u s := ⟨v, H, I, r, h⟩
 rcases l with ⟨hk, hm⟩ | ⟨hk, c, hc, hcell⟩
 · exact wpAny_Name (wpAny_loadName_local I.ok.kind hk hn hm fin) hd
 · rcases hk with hk | hk
   · exact wpAny_Name (wpAny_loadName_cell I.ok.kind hk hc hcell fin) hd
   · exact wpAny_Name (wpAny_loadName_free I.ok.kind hk hc hcell fin hcd) hd
theorem jV {i j pos} : PE X (.Constant (.int i) j pos) (tC (.int i)) := fun _ _ _ H _ I h => wpAny_Constant_int ⟨.int i, H, I.tok _, ⟨_, rfl⟩, h⟩
theorem pe_bl {b j pos} : PE X (.Constant (.bool b) j pos) (tC (.bl b)) := fun _ _ _ H _ I h => Constant_bool ⟨.bl b, H, I, rfl, h⟩
theorem pe_non {j pos} : PE X (.Constant .none j pos) (tC .non) := fun _ _ _ H _ I h => Constant_none ⟨.non, H, I, rfl, h⟩
theorem pe_str {x j pos} : PE X (.Constant (.str x) j pos) (tC (.str x)) := fun _ _ _ H _ I h => Calls.Constant_str ⟨.str x, H, I.tok _, ⟨_, rfl⟩, h⟩
def Gl (X : Cx) (x : Str) : Prop := X.env.kindOf x = some .globalImplicit
theorem ld_glob {E : Value → Shared → Prop} {pins : List (Addr × Obj)} {s : Shared} {σ : St} {H : Hp} {x : Str} {u : Value} {pos : Pos} {Q : Value → Shared → Prop} (I : Inv X pins σ H s) (hg : Gl X x) (hm : X.mg x = some u) (h : Q u s)
   (hd : (x == ("__debug__" : Str)) = false := by decide) : wpAny (model X.prog X.w) X.A (eval (.Name x pos) X.env) Q E s :=
 Calls.Name_function_global I.ok.kind hg (Calls.loadGlobal_global (by rw [I.ok.glob]; exact I.mod.glob.keeps I.bk) hm h) hd
theorem ld_blt {E : Value → Shared → Prop} {pins : List (Addr × Obj)} {s : Shared} {σ : St} {H : Hp} {x : Str} {u : Value} {pos : Pos} {Q : Value → Shared → Prop} (I : Inv X pins σ H s) (hg : Gl X x) (hm : X.mg x = none) (hv : bootBuiltins x = some u) (h : Q u s)
   (hn : x ≠ "__name__" := by decide) (hd : (x == ("__debug__" : Str)) = false := by decide) : wpAny (model X.prog X.w) X.A (eval (.Name x pos) X.env) Q E s := by
 obtain ⟨mb, h1, h2⟩ := I.mod.blt
 exact Calls.Name_function_global I.ok.kind hg (Calls.loadGlobal_builtin (by rw [I.ok.glob]; exact I.mod.glob.keeps I.bk) hm (by rw [I.ok.blt]; exact h1.keeps I.bk) ((h2 x hn).trans hv) h) hd
theorem pe_bltn {x : Str} {v : V} {u : Value} {pos : Pos} (hg : Gl X x) (hm : X.mg x = none) (hv : bootBuiltins x = some u) (r : RelV v u) (hn : x ≠ "__name__" := by decide) (hd : (x == ("__debug__" : Str)) = false := by decide) : PE X (.Name x pos) (tC v) :=
 fun _ _ _ H _ I h => ld_blt I hg hm hv ⟨v, H, I, r, h⟩ hn hd
variable {a b : Expr} {ta tb : TE} {pos : Pos}
def tB (t : TE) : TT := fun σ H Q => t σ H fun x H1 => ∃ c, x = .bl c ∧ Q c H1
theorem pt_val {e : Expr} {t : TE} (h : PE X e t) (he : ∀ whole, isTrue e X.env whole = (do let v ← whole; standAt e.pos; holding [v] (truthy v)) := by intro _; rfl) : PT X e (tB t) := by
 intro pins s σ H Q I hw
 refine isTrue_plain (thn (h pins s σ H _ I hw) fun v s1 ⟨x, H1, I1, r1, q1⟩ => ?_) (he _)
 obtain ⟨d, rfl, q⟩ := q1
 cases r1
 exact wpAny_truthy_bool ⟨H1, I1, q⟩
variable {tA tB' : TT} {rest : List Expr}
def tAnd (t u : TT) : TT := fun σ H Q => t σ H fun c H1 => if c = true then u σ H1 Q else Q false H1
def tOr (t u : TT) : TT := fun σ H Q => t σ H fun c H1 => if c = true then Q true H1 else u σ H1 Q
def tNot (t : TT) : TT := fun σ H Q => t σ H fun c H1 => Q (!c) H1
theorem pw_and1 (ha : PT X a tA) : PW X (.BoolOp .And [a] pos) tA := by
 intro wh pins s σ H Q I h
 refine isTrue_and (thn (ha pins s σ H Q I h) fun c s1 e => ?_)
 cases c with
 | true => exact isTrue_and_nil e
 | false => exact e
theorem pw_or1 (ha : PT X a tA) : PW X (.BoolOp .Or [a] pos) tA := by
 intro wh pins s σ H Q I h
 refine isTrue_or (thn (ha pins s σ H Q I h) fun c s1 e => ?_)
 cases c with
 | false => exact isTrue_or_nil e
 | true => exact e
theorem pw_and (ha : PT X a tA) (hb : PW X (.BoolOp .And (b :: rest) pos) tB') : PW X (.BoolOp .And (a :: b :: rest) pos) (tAnd tA tB') := by
 intro wh pins s σ H Q I h
 refine isTrue_and (thn (ha pins s σ H _ I h) fun c s1 ⟨H1, I1, q1⟩ => ?_)
 cases c with
 | true => exact hb wh pins s1 σ H1 Q I1 q1
 | false => exact ⟨H1, I1, q1⟩
theorem pw_or (ha : PT X a tA) (hb : PW X (.BoolOp .Or (b :: rest) pos) tB') : PW X (.BoolOp .Or (a :: b :: rest) pos) (tOr tA tB') := by
 intro wh pins s σ H Q I h
 refine isTrue_or (thn (ha pins s σ H _ I h) fun c s1 ⟨H1, I1, q1⟩ => ?_)
 cases c with
 | true => exact ⟨H1, I1, q1⟩
 | false => exact hb wh pins s1 σ H1 Q I1 q1
theorem pt_not (ha : PT X a tA) : PT X (.UnaryOp .Not a pos) (tNot tA) := by
 intro pins s σ H Q I h
 exact isTrue_not (ha pins s σ H (fun c H1 => Q (!c) H1) I h)
def tAndV (ta tb : TE) : TE := fun σ H Q => ta σ H fun x H1 => ∃ c, x = .bl c ∧ if c = true then tb σ H1 Q else Q (.bl false) H1
def tOrV (ta tb : TE) : TE := fun σ H Q => ta σ H fun x H1 => ∃ c, x = .bl c ∧ if c = true then Q (.bl true) H1 else tb σ H1 Q
def tNotV (ta : TE) : TE := fun σ H Q => ta σ H fun x H1 => ∃ c, x = .bl c ∧ Q (.bl (!c)) H1
theorem pe_one {op} {t : TE} (h : PE X a t) : PE X (.BoolOp op [a] pos) t := fun pins s σ H Q I hw => BoolOp_one (h pins s σ H Q I hw)
theorem pe_and (ha : PE X a ta) (hb : PE X (.BoolOp .And (b :: rest) pos) tb) : PE X (.BoolOp .And (a :: b :: rest) pos) (tAndV ta tb) := by
 intro pins s σ H Q I h
 refine BoolOp_and (thn (ha pins s σ H _ I h) fun v s1 ⟨x, H1, I1, r1, q1⟩ => ?_)
 obtain ⟨c, rfl, q1⟩ := q1
 cases r1
 refine wpAny_truthy_bool ?_
 cases c with
 | true => exact hb pins s1 σ H1 Q I1 q1
 | false => exact ⟨.bl false, H1, I1, rfl, q1⟩
theorem pe_or (ha : PE X a ta) (hb : PE X (.BoolOp .Or (b :: rest) pos) tb) : PE X (.BoolOp .Or (a :: b :: rest) pos) (tOrV ta tb) := by
 intro pins s σ H Q I h
 refine BoolOp_or (thn (ha pins s σ H _ I h) fun v s1 ⟨x, H1, I1, r1, q1⟩ => ?_)
 obtain ⟨c, rfl, q1⟩ := q1
 cases r1
 refine wpAny_truthy_bool ?_
 cases c with
 | false => exact hb pins s1 σ H1 Q I1 q1
 | true => exact ⟨.bl true, H1, I1, rfl, q1⟩
theorem pe_not (ha : PE X a ta) : PE X (.UnaryOp .Not a pos) (tNotV ta) := by
 intro pins s σ H Q I h
 refine UnaryOp_ (thn (ha pins s σ H _ I h) fun v s1 ⟨x, H1, I1, r1, q1⟩ => ?_)
 obtain ⟨c, rfl, q1⟩ := q1
 cases r1
 exact not_of (wpAny_truthy_bool ⟨.bl (!c), H1, I1, rfl, q1⟩)
def tIf (t : TT) (ta tb : TE) : TE := fun σ H Q => t σ H fun c H1 => if c = true then ta σ H1 Q else tb σ H1 Q
theorem pe_ifExp {c : Expr} (hc : PT X c tA) (ha : PE X a ta) (hb : PE X b tb) : PE X (.IfExp c a b pos) (tIf tA ta tb) := by
 intro pins s σ H Q I h
 refine wpAny_IfExp (thn (hc pins s σ H _ I h) fun d s1 ⟨H1, I1, q1⟩ => ?_)
 cases d with
 | true => exact ha pins s1 σ H1 Q I1 q1
 | false => exact hb pins s1 σ H1 Q I1 q1
end
end L2
namespace L2
open PySem PySem.Spec PyProof.Rows
def SqL (K : W.Frag) (H : Hp) (a : Addr) (xs : List V) : Prop :=
 Rd H a (.lst xs) ∨
   ∃ (o : Obj) (its : Array Value) (n : Nat), K.lookup a = some o ∧ o.cls = .type "list" ∧ o.dict = none ∧ o.data = .seq its n ∧ its.size ≤ sizeLine ∧ Vals xs its.toList
def SqT (K : W.Frag) (H : Hp) (a : Addr) (xs : List V) : Prop :=
 Rd H a (.tup xs) ∨
   ∃ (o : Obj) (its : Array Value) (n : Nat), K.lookup a = some o ∧ o.cls = .type "tuple" ∧ o.data = .seq its n ∧ its.size ≤ sizeLine ∧ Vals xs its.toList
def absV : Value → Option V
 | .none => some .non
 | .bool b => some (.bl b)
 | .int i _ => some (.int i)
 | .str x _ => some (.str x)
 | .bytes b _ => some (.byt b)
 | .float b _ => some (.flt b)
 | .ref a => some (.ref a)
 | .type n => some (.ty n)
 | _ => none
theorem RelV.abs {x : V} {u : Value} (r : RelV x u) : absV u = some x := by
 cases x with
 | non => cases r; rfl
 | bl _ => cases r; rfl
 | int _ => obtain ⟨t, rfl⟩ := r; rfl
 | str _ => obtain ⟨t, rfl⟩ := r; rfl
 | byt _ => obtain ⟨t, rfl⟩ := r; rfl
 | flt _ => obtain ⟨t, rfl⟩ := r; rfl
 | ref _ => cases r; rfl
 | ty _ => cases r; rfl
theorem RelV.inj {x y : V} {u : Value} (r : RelV x u) (q : RelV y u) : x = y := Option.some.inj (r.abs.symm.trans q.abs)
theorem Vals.inj : ∀ {xs ys : List V} {us : List Value}, Vals xs us → Vals ys us → xs = ys
 | _, _, _, .nil, .nil => rfl
 | _, _, _, .cons r t, .cons r' t' => by rw [r.inj r', Vals.inj t t']
section
variable {X : Cx} {pins : List (Addr × Obj)} {σ : St} {H : Hp} {s : Shared} {a : Addr} {xs ys : List V}
theorem SqL.of {K : W.Frag} (h : H a = some (.lst xs)) : SqL K H a xs := .inl (.inl h)
theorem SqT.of {K : W.Frag} (h : H a = some (.tup xs)) : SqT K H a xs := .inl (.inl h)
theorem Inv.list (I : Inv X pins σ H s) (h : SqL X.K H a xs) : ∃ its : List Value, Vals xs its ∧ PlainL s.heap a its.toArray ∧ xs.length ≤ sizeLine := by
 rcases h with h | ⟨o, its, n, hk, hc, hd, hs, hz, r⟩
 · obtain ⟨z, its, n, r, e⟩ := h.ok I.hok
   exact ⟨its, r, ⟨_, n, e, rfl, rfl, rfl⟩, z⟩
 · refine ⟨its.toList, r, ⟨o, n, I.kIn a o hk, hc, hd, by simpa using hs⟩, ?_⟩
   have e := r.length
   simp only [Array.length_toList] at e
   omega
theorem Inv.tuple (I : Inv X pins σ H s) (h : SqT X.K H a xs) : ∃ its : List Value, Vals xs its ∧ IsTup s.heap a its.toArray ∧ xs.length ≤ sizeLine := by
 rcases h with h | ⟨o, its, n, hk, hc, hs, hz, r⟩
 · obtain ⟨z, its, r, p⟩ := h.ok I.hok
   exact ⟨its, r, p.isTup, z⟩
 · refine ⟨its.toList, r, ⟨o, I.kIn a o hk, hc, n, by simpa using hs⟩, ?_⟩
   have e := r.length
   simp only [Array.length_toList] at e
   omega
theorem Inv.list_inj (I : Inv X pins σ H s) (h : SqL X.K H a xs) (h' : SqL X.K H a ys) : xs = ys := by
 obtain ⟨its, r, ⟨o, n, e, _, _, d⟩, _⟩ := I.list h
 obtain ⟨its', r', ⟨o', n', e', _, _, d'⟩, _⟩ := I.list h'
 rw [e] at e'; cases e'
 rw [d] at d'
 injection d' with d1 _
 have : its = its' := by simpa using congrArg Array.toList d1
 subst this
 exact r.inj r'
theorem Inv.tuple_inj (I : Inv X pins σ H s) (h : SqT X.K H a xs) (h' : SqT X.K H a ys) : xs = ys := by
 obtain ⟨its, r, ⟨o, e, _, n, d⟩, _⟩ := I.tuple h
 obtain ⟨its', r', ⟨o', e', _, n', d'⟩, _⟩ := I.tuple h'
 rw [e] at e'; cases e'
 rw [d] at d'
 injection d' with d1 _
 have : its = its' := by simpa using congrArg Array.toList d1
 subst this
 exact r.inj r'
end
abbrev Cx.wish (X : Cx) (E : Value → Shared → Prop) : Cx := { X with xe := E }
abbrev Cx.nox (X : Cx) : Cx := X.wish fun _ _ => False
theorem Cx.Ok.wish {X : Cx} (ok : X.Ok) (E : Value → Shared → Prop) : (X.wish E).Ok :=
 ⟨ok.mod, ok.kind, ok.glob, ok.blt, ok.above, ok.inj, ok.has, ok.cab, ok.hd, ok.frames, ok.stk, ok.exf, ok.bs, ok.bsz, ok.noex, ok.exfs, ok.funs, ok.frf⟩
theorem Cx.Ok.unwish {X : Cx} {E : Value → Shared → Prop} (ok : (X.wish E).Ok) : X.Ok :=
 ⟨ok.mod, ok.kind, ok.glob, ok.blt, ok.above, ok.inj, ok.has, ok.cab, ok.hd, ok.frames, ok.stk, ok.exf, ok.bs, ok.bsz, ok.noex, ok.exfs, ok.funs, ok.frf⟩
section
variable {X : Cx} {pins : List (Addr × Obj)} {σ : St} {H : Hp} {s : Shared} {E : Value → Shared → Prop}
theorem Inv.wish (I : Inv X pins σ H s) (E : Value → Shared → Prop) : Inv (X.wish E) pins σ H s := ⟨I.ok.wish E, I.os, I.bare, I.base, I.loc, I.cell, I.free, I.freeC, I.pin, I.hok, I.len⟩
theorem Inv.unwish (I : Inv (X.wish E) pins σ H s) : Inv X pins σ H s := ⟨I.ok.unwish, I.os, I.bare, I.base, I.loc, I.cell, I.free, I.freeC, I.pin, I.hok, I.len⟩
theorem SP.unwish {D : Ends} {f : Flow} {s' : Shared} (h : SP (X.wish E) pins D f s') : SP X pins D f s' := by
 cases f with
 | next => obtain ⟨σ', H', I, q⟩ := h; exact ⟨σ', H', I.unwish, q⟩
 | brk => obtain ⟨σ', H', I, q⟩ := h; exact ⟨σ', H', I.unwish, q⟩
 | cont => obtain ⟨σ', H', I, q⟩ := h; exact ⟨σ', H', I.unwish, q⟩
 | ret u => obtain ⟨v, σ', H', I, r, q⟩ := h; exact ⟨v, σ', H', I.unwish, r, q⟩
theorem PSs.nox {st : List Stmt} {t : TS} (h : PSs X.nox st t) : PSs X st t := fun pins s σ H D I hw =>
 wpAny_mono (h pins s σ H D (I.wish _) hw) (fun _ _ q => q.unwish) fun _ _ z => False.elim z
end
section
variable {X : Cx} {st : Stmt} {rest : List Stmt} {t u : TS} {e : Expr} {te : TE} {pos : Pos}
def tNext : TS := fun D σ H => D.nx σ H
def tSeq (t u : TS) : TS := fun D σ H => t { D with nx := u D } σ H
theorem pss_nil : PSs X [] tNext := fun _ _ σ H _ I h => wpAny_execs_nil ⟨σ, H, I, h⟩
theorem yD (h1 : PS X st t) (h2 : PSs X rest u) : PSs X (st :: rest) (tSeq t u) := by
 intro pins s σ H D I h
 refine wpAny_execs_cons (thn (h1 pins s σ H { D with nx := u D } I h) fun f s1 q => ?_)
 cases f with
 | next =>
   obtain ⟨σ', H', I', q⟩ := q
   exact h2 pins s1 σ' H' D I' q
 | ret v => exact q
 | brk => exact q
 | cont => exact q
theorem pss_one (h1 : PS X st t) : PSs X [st] t := by
 intro pins s σ H D I h
 refine wpAny_execs_cons (thn (h1 pins s σ H D I h) fun f s1 q => ?_)
 cases f with
 | next => exact wpAny_execs_nil q
 | ret v => exact q
 | brk => exact q
 | cont => exact q
theorem Inv.quiet {pins : List (Addr × Obj)} {σ : St} {H : Hp} {s : Shared} (I : Inv X pins σ H s) : interactive X.env = false := by simp [interactive, I.ok.kind]
def tDrop (te : TE) : TS := fun D σ H => te σ H fun _ H1 => D.nx σ H1
theorem ps_expr (he : PE X e te) (hs : swapsWith e none pos.line X.env = pure false := by rfl) : PS X (.Expr e pos) (tDrop te) := by
 intro pins s σ H D I h
 exact wpAny_Expr_any (thn (he pins s σ H _ I h) fun v s1 ⟨x, H1, I1, r1, q1⟩ => ⟨σ, H1, I1, q1⟩) I.quiet hs
def tRet (te : TE) : TS := fun D σ H => te σ H D.rt
theorem ps_ret (he : PE X e te) : PS X (.Return (some e) pos) (tRet te) := by
 intro pins s σ H D I h
 exact wpAny_Return_some (thn (he pins s σ H _ I h) fun v s1 ⟨x, H1, I1, r1, q1⟩ => ⟨x, σ, H1, I1, r1, q1⟩)
def tIfS (c : TT) (t u : TS) : TS := fun D σ H => c σ H fun b H1 => if b = true then t D σ H1 else u D σ H1
theorem ps_if {c : Expr} {a b : List Stmt} {tc : TT} (hc : PT X c tc) (ha : PSs X a t) (hb : PSs X b u) : PS X (.If c a b pos) (tIfS tc t u) := by
 intro pins s σ H D I h
 refine wpAny_If (thn (hc pins s σ H _ I h) fun d s1 ⟨H1, I1, q1⟩ => ?_)
 cases d with
 | true => exact ha pins s1 σ H1 D I1 q1
 | false => exact hb pins s1 σ H1 D I1 q1
end
abbrev TG := V → St → Hp → (St → Hp → Prop) → Prop
abbrev TGs := List V → St → Hp → (St → Hp → Prop) → Prop
def PG (X : Cx) (target : Expr) (t : TG) : Prop :=
 ∀ (pins : List (Addr × Obj)) (s : Shared) (σ : St) (H : Hp) (v : V) (u : Value) (Q : St → Hp → Prop), Inv X pins σ H s → RelV v u → t v σ H Q →
   wpAny (model X.prog X.w) X.A (assign target X.env u) (fun _ s' => ∃ σ' H', Inv X pins σ' H' s' ∧ Q σ' H') X.xe s
def PGs (X : Cx) (ts : List Expr) (t : TGs) : Prop :=
 ∀ (pins : List (Addr × Obj)) (s : Shared) (σ : St) (H : Hp) (vs : List V) (us : List Value) (Q : St → Hp → Prop), Inv X pins σ H s → Vals vs us → t vs σ H Q →
   wpAny (model X.prog X.w) X.A (assignInOrder ((assignEach ts X.env).map (·.2)) us) (fun _ s' => ∃ σ' H', Inv X pins σ' H' s' ∧ Q σ' H') X.xe s
abbrev TSet := V → V → V → Hp → (Hp → Prop) → Prop
def PSet (X : Cx) (t : TSet) : Prop :=
 ∀ (pins : List (Addr × Obj)) (s : Shared) (σ : St) (H : Hp) (o i v : V) (ov iv u : Value) (Q : Hp → Prop), Inv X pins σ H s → RelV o ov → RelV i iv → RelV v u → t o i v H Q →
   wpAny (model X.prog X.w) X.A (setItem ov iv u) (fun _ s' => ∃ H', Inv X pins σ H' s' ∧ Q H') X.xe s
abbrev TIp := V → V → Hp → VK → Prop
def PIp (X : Cx) (op : Operator) (t : TIp) : Prop :=
 ∀ (pins : List (Addr × Obj)) (s : Shared) (σ : St) (H : Hp) (x y : V) (v u : Value) (Q : VK), Inv X pins σ H s → RelV x v → RelV y u → t x y H Q →
   wpAny (model X.prog X.w) X.A (inplaceOp op v u) (EP X pins σ Q) X.xe s
section
variable {X : Cx} {pos : Pos}
def yJ (i : Nat) : TG := fun v σ H Q => Q (σ.set i (some v)) H
theorem pg_name {i : Nat} {x : Str} (hN : X.N.Nodup) (hi : X.N[i]? = some x) (hx : Loc X.env.scope x) (hf : X.fn x = true ∨ X.env.scope.names.lookup x = some .local := by first | exact .inl rfl | exact .inr rfl | assumption) : PG X (.Name x pos) (yJ i) := by
 intro pins s σ H v u Q I r h
 exact wpAny_assign_Name (store_ok I hN hi hx r (fun s' I' => ⟨_, H, I', h⟩) hf)
def gNil : TGs := fun vs σ H Q => vs = [] ∧ Q σ H
def gCons (t : TG) (u : TGs) : TGs := fun vs σ H Q => ∃ v r, vs = v :: r ∧ t v σ H fun σ' H' => u r σ' H' Q
theorem pgs_nil : PGs X [] gNil := by
 intro pins s σ H vs us Q I r h
 obtain ⟨e, h⟩ := h
 subst e
 cases r
 exact assignInOrder_nil ⟨σ, H, I, h⟩
theorem pgs_cons {e : Expr} {es : List Expr} {t : TG} {u : TGs} (h1 : PG X e t) (h2 : PGs X es u)
   (hs : (assignEach (e :: es) X.env).map (·.2) = assign e X.env :: (assignEach es X.env).map (·.2) := by rfl) : PGs X (e :: es) (gCons t u) := by
 intro pins s σ H vs us Q I r h
 obtain ⟨v, vr, e1, h⟩ := h
 subst e1
 cases r with
 | cons r rr =>
   rw [hs]
   refine assignInOrder_cons (thn (h1 pins s σ H _ _ _ I r h) fun _ s1 ⟨σ1, H1, I1, q1⟩ => ?_)
   exact h2 pins s1 σ1 H1 _ _ Q I1 rr q1
def gTup (K : W.Frag) (n : Nat) (t : TGs) : TG := fun v σ H Q => ∃ a xs, v = .ref a ∧ SqT K H a xs ∧ xs.length = n ∧ t xs σ H Q
theorem pg_tup {es : List Expr} {k : Nat} {t : TGs} {n : Nat} (hc : X.calm = true) (h : PGs X es t)
   (hn : (assignEach es X.env).length = n := by rfl) (hst : (assignEach es X.env).findIdx? (·.1) = none := by rfl) : PG X (.Tuple es k pos) (gTup X.K n t) := by
 intro pins s σ H v u Q I r hw
 obtain ⟨a, xs, e1, hq, hl, hw⟩ := hw
 subst e1
 cases r
 obtain ⟨its, rv, ht, hz⟩ := I.tuple hq
 refine assign_Tuple_tuple (I.ok.hd hc) ht (by simp [hn, ← hl, rv.length]) hst fun h' hx => ?_
 have I1 : Inv X pins σ H { s with heap := h' } := I.kept (t' := s.toks) fun b o e => hx b o (Nat.ne_of_lt (Heap.lt_size e)) e
 exact h pins _ σ H xs _ Q I1 (by simpa using rv) hw
def gSub (to ti : TE) (t : TSet) : TG := fun v σ H Q => to σ H fun o H1 => ti σ H1 fun i H2 => t o i v H2 fun H3 => Q σ H3
theorem pg_sub {o i : Expr} {to ti : TE} {t : TSet} (ho : PE X o to) (hi : PE X i ti) (hs : PSet X t)
   (ha : ∀ v, assign (.Subscript o i pos) X.env v = (do
     let ov ← holding [v] (eval o X.env)
     let iv ← holding [v, ov] (eval i X.env)
     standAt pos
     holding [v, ov, iv] (setItem ov iv v)
     release [v, ov, iv] []) := by intro _; rfl) : PG X (.Subscript o i pos) (gSub to ti t) := by
 intro pins s σ H v u Q I r h
 rw [ha]
 refine wpAny_bind (wpAny_holding (thn (ho pins s σ H _ I h) fun ov s1 ⟨x, H1, I1, r1, q1⟩ => ?_))
 refine wpAny_bind (wpAny_holding (thn (hi pins s1 σ H1 _ I1 q1) fun iv s2 ⟨y, H2, I2, r2, q2⟩ => ?_))
 refine wpAny_bind (wpAny_standAt (wpAny_bind (wpAny_holding (thn (hs pins s2 σ H2 x y v ov iv u _ I2 r1 r2 r q2) fun _ s3 ⟨H3, I3, q3⟩ => ?_))))
 exact wpAny_release ⟨σ, H3, I3, q3⟩
def tAsg (te : TE) (g : TG) : TS := fun D σ H => te σ H fun x H1 => g x σ H1 D.nx
theorem ps_asg {tg e : Expr} {te : TE} {g : TG} (he : PE X e te) (hg : PG X tg g) (hs : swapsWithSole [tg] e pos.line X.env = pure false := by rfl) (hw : swappedStores [tg] e X.env = pure none := by rfl)
   (h1 : (assignEach [tg] X.env).map (·.2) = [assign tg X.env] := by rfl) : PS X (.Assign [tg] e pos) (tAsg te g) := by
 intro pins s σ H D I h
 refine wpAny_Assign_stores (thn (he pins s σ H _ I h) fun v s1 ⟨x, H1, I1, r1, q1⟩ => ?_) hs hw
 rw [h1]
 exact thn (hg pins s1 σ H1 x v _ I1 r1 q1) fun _ s2 q => q
theorem xB {i : Nat} {x : Str} {e : Expr} {te : TE} {pos' : Pos} (hN : X.N.Nodup) (hi : X.N[i]? = some x) (hx : Loc X.env.scope x) (he : PE X e te) (hs : swapsWith e (some (.Name x pos')) pos.line X.env = pure false := by rfl) (hf : X.fn x = true ∨ X.env.scope.names.lookup x = some .local := by first | exact .inl rfl | exact .inr rfl | assumption) :
   PS X (.Assign [.Name x pos'] e pos) (tAsg te (yJ i)) := by
 intro pins s σ H D I h
 refine wpAny_Assign_Name (thn (he pins s σ H _ I h) fun v s1 ⟨y, H1, I1, r1, q1⟩ => ?_) hs
 exact store_ok I1 hN hi hx r1 (fun s2 I2 => ⟨_, H1, I2, q1⟩) hf
def tPar (i j : Nat) (ta : TA) : TS := fun D σ H => ta σ H fun vs H1 => ∃ v w, vs = [v, w] ∧ D.nx ((σ.set i (some v)).set j (some w)) H1
theorem ps_par {i j : Nat} {x y : Str} {a b : Expr} {ta : TA} {px py pt : Pos} {kt k2 pt2} (hc : X.calm = true) (hN : X.N.Nodup) (hi : X.N[i]? = some x) (hj : X.N[j]? = some y) (hij : i ≠ j)
   (hx : X.env.scope.names.lookup x = some .local) (hy : X.env.scope.names.lookup y = some .local) (ha : PA X [a, b] ta)
   (hw : swappedStores [.Tuple [.Name x px, .Name y py] kt pt] (.Tuple [a, b] k2 pt2) X.env = pure (some [x, y]))
   (hs : swapsWithSole [.Tuple [.Name x px, .Name y py] kt pt] (.Tuple [a, b] k2 pt2) pos.line X.env = pure false := by rfl) :
   PS X (.Assign [.Tuple [.Name x px, .Name y py] kt pt] (.Tuple [a, b] k2 pt2) pos) (tPar i j ta) := by
 intro pins s σ H D I h
 rw [exec_Assign_arm]
 refine wpAny_bind (wpAny_standAt ?_)
 rw [hs]
 refine wpAny_bind (wpAny_pure ?_)
 rw [if_neg (by decide)]
 refine wpAny_bind (Tuple_ (thn (ha _ pins s σ H _ I h) fun us s1 ⟨vs, H1, I1, r1, q1⟩ => ?_))
 obtain ⟨v, w, e1, q1⟩ := q1
 subst e1
 obtain ⟨u1, u2, rfl, rv, rw'⟩ : ∃ u1 u2, us = [u1, u2] ∧ RelV v u1 ∧ RelV w u2 := by
   cases r1 with
   | cons p q =>
     cases q with
     | cons p' q' =>
       cases q'
       exact ⟨_, _, rfl, p, p'⟩
 refine wpAny_newObj_type ?_ (by show 2 ≤ sizeLine; decide)
 have I2 : Inv X pins σ H1 { s1 with heap := s1.heap.push { cls := .type "tuple", data := .seq [u1, u2].toArray } } := I1.kept (t' := s1.toks) fun b o e => Heap.get?_push_of_some _ e
 rw [hw]
 refine wpAny_bind (wpAny_pure ?_)
 show wpAny (model X.prog X.w) X.A (do rule "assign.swapped-stores"; let items ← unpackItems (.ref s1.heap.objs.size) 2 none; assignInOrder [fun v => bindName X.env y v, fun v => bindName X.env x v] items.reverse; pure Flow.next) _ _ _
 refine wpAny_bind (wpAny_rule (wpAny_bind (unpackItems_tuple (items := #[u1, u2]) (I.ok.hd hc) (IsTup.new s1.heap _) fun h' hx' => ?_)))
 have I3 := I2.kept (h' := h') (t' := s1.toks) fun b o e => hx' b o (Nat.ne_of_lt (Heap.lt_size e)) e
 show wpAny _ _ (assignInOrder [fun v => bindName X.env y v, fun v => bindName X.env x v] [u2, u1] >>= fun _ => pure Flow.next) _ _ _
 refine wpAny_bind (assignInOrder_cons (wpAny_bindName (store_ok I3 hN hj (.inl hy) rw' (fun s2 I4 => ?_) (.inr hy))))
 refine assignInOrder_cons (wpAny_bindName (store_ok I4 hN hi (.inl hx) rv (fun s3 I5 => assignInOrder_nil (wpAny_pure ?_)) (.inr hx)))
 rw [List.set_comm _ _ (Ne.symm hij)] at I5
 exact ⟨_, H1, I5, q1⟩
def tAug (i : Nat) (te : TE) (ti : TIp) : TS := fun D σ H => ∃ x, σ[i]? = some (some x) ∧ te σ H fun y H1 => ti x y H1 fun z H2 => D.nx (σ.set i (some z)) H2
theorem ps_aug {i : Nat} {x : Str} {e : Expr} {te : TE} {op : Operator} {ti : TIp} {pos' : Pos} (hN : X.N.Nodup) (hi : X.N[i]? = some x) (hx : Loc X.env.scope x) (he : PE X e te) (ho : PIp X op ti) (hf : X.fn x = true ∨ X.env.scope.names.lookup x = some .local := by first | exact .inl rfl | exact .inr rfl | assumption) :
   PS X (.AugAssign (.Name x pos') op e pos) (tAug i te ti) := by
 intro pins s σ H D I h
 obtain ⟨v, e1, h⟩ := h
 obtain ⟨m, hn, hl⟩ := I.loc
 have vis : Vis X.env.scope x := by rcases hx with k | k; exact .inl k; exact .inr (.inl k)
 obtain ⟨u, r, l⟩ := hl i x v hi e1 vis
 refine wpAny_AugAssign_Name ?_
 have go : wpAny (model X.prog X.w) X.A (eval e X.env) (fun w s₂ => wpAny (model X.prog X.w) X.A (inplaceOp op u w) (fun r s₃ => wpAny (model X.prog X.w) X.A (storeName X.env x r) (fun _ => SP X pins D .next) X.xe s₃) X.xe s₂) X.xe s := by
   refine thn (he pins s σ H _ I h) fun w s1 ⟨y, H1, I1, r1, q1⟩ => ?_
   refine thn (ho pins s1 σ H1 v y u w _ I1 r r1 q1) fun z s2 ⟨zv, H2, I2, r2, q2⟩ => ?_
   exact store_ok I2 hN hi hx r2 (fun s3 I3 => ⟨_, H2, I3, q2⟩) hf
 rcases l with ⟨hk, hm⟩ | ⟨hk, c, hc, hcell⟩
 · exact wpAny_loadName_local I.ok.kind hk hn hm go
 · rcases hk with hk | hk
   · exact wpAny_loadName_cell I.ok.kind hk hc hcell go
   · rcases hx with k | k
     · have : X.env.scope.names.lookup x = some .free := hk
       rw [k] at this; cases this
     · have : X.env.scope.names.lookup x = some .free := hk
       rw [k] at this; cases this
end
section
variable {X : Cx} {pos : Pos}
def tWhile (c : TT) (tb : TS) : TS := fun D σ H => ∃ W : Nat → St → Hp → Prop, (∃ m, W m σ H) ∧ ∀ m σ H, W m σ H →
 c σ H fun b H1 => if b = true then ∃ N : St → Hp → Prop, (∀ σ' H', N σ' H' → ∃ m', m' < m ∧ W m' σ' H') ∧ tb { D with nx := N, ct := N, bk := D.nx } σ H1 else D.nx σ H1
theorem ps_while {c : Expr} {body : List Stmt} {tc : TT} {tb : TS} (hp : PassesOwn (model X.prog X.w) X.A X.env X.xe) (hc : PT X c tc) (hb : PSs X body tb) : PS X (.While c body [] pos) (tWhile tc tb) := by
 intro pins s σ H D I h
 obtain ⟨W, ⟨m0, w0⟩, turn⟩ := h
 refine wpAny_While (codeAny_whileLoop (fun n s' => ∃ σ' H', Inv X pins σ' H' s' ∧ W n σ' H') ?_ m0 ⟨σ, H, I, w0⟩)
 rintro n s1 ⟨σ1, H1, I1, w1⟩
 refine wpAny_passesOwn hp (thn (hc pins s1 σ1 H1 _ I1 (turn n σ1 H1 w1)) fun b s2 ⟨H2, I2, q2⟩ => ?_)
 cases b with
 | true =>
   obtain ⟨N, hN, q2⟩ := q2
   rw [if_pos rfl]
   refine wpAny_passesOwn hp (thn (hb pins s2 σ1 H2 _ I2 q2) fun f s3 q3 => ?_)
   cases f with
   | next =>
     obtain ⟨σ3, H3, I3, n3⟩ := q3
     obtain ⟨m', hm, w3⟩ := hN σ3 H3 n3
     exact ⟨m', hm, σ3, H3, I3, w3⟩
   | cont =>
     obtain ⟨σ3, H3, I3, n3⟩ := q3
     obtain ⟨m', hm, w3⟩ := hN σ3 H3 n3
     exact ⟨m', hm, σ3, H3, I3, w3⟩
   | brk => exact q3
   | ret v => exact q3
 | false =>
   rw [if_neg Bool.false_ne_true]
   exact wpAny_execs_nil ⟨σ1, H2, I2, q2⟩
end
structure It where
 go : Nat → Hp → Prop
 yld : Nat → Hp → V → Hp → Prop
 stop : Nat → Hp → Prop
def FpOk (X : Cx) (pins : List (Addr × Obj)) (H : Hp) (b : Addr) : Prop :=
 H b = none ∧ b ≠ X.env.locals ∧ b ∉ X.fs ∧ (b ∈ X.ex ∨ X.s₀.heap.objs.size ≤ b) ∧ (∀ x c, X.env.cells.lookup x = some c → c ≠ b) ∧ ∀ p ∈ X.pn ++ pins, p.1 ≠ b
theorem Inv.fpOk {X : Cx} {pins : List (Addr × Obj)} {σ : St} {H H' : Hp} {s : Shared} {b : Addr} (I : Inv X pins σ H s) (hb : s.heap.objs.size ≤ b) (hn : H' b = none) : FpOk X pins H' b := by
 refine ⟨hn, Nat.ne_of_gt (Nat.lt_of_lt_of_le I.lt hb), I.nofs hb, .inr (Nat.le_trans I.sz hb), fun x c e z => ?_, fun p hp z => ?_⟩
 · obtain ⟨v, q⟩ := I.cell x c e
   exact absurd (Nat.lt_of_lt_of_le q.lt (by rw [z]; exact hb)) (Nat.lt_irrefl _)
 · exact absurd (Nat.lt_of_lt_of_le (Heap.lt_size (I.pin p hp).1) (by rw [z]; exact hb)) (Nat.lt_irrefl _)
structure Turn (P : Program) (w : World) (K : W.Frag) (tg : Expr) (J : It) (fp : List Addr) (it : Addr) (tn : Nat → Heap → Prop) : Prop where
 mem : it ∈ fp
 obj : ∀ i h, tn i h → ∀ b ∈ fp, ∃ o, h.get? b = some o ∧ ∀ v, o.data ≠ .cell v
 keep : ∀ i h h', tn i h → (∀ b ∈ fp, ∀ o, h.get? b = some o → h'.get? b = some o) → tn i h'
 item : ∀ (X : Cx), X.prog = P → X.w = w → X.K = K → X.calm = true → ∀ (i : Nat) (pins : List (Addr × Obj)) (s : Shared) (σ : St) (H : Hp) (E : Value → Shared → Prop), Inv X pins σ H s → (∀ b ∈ fp, FpOk X pins H b) → tn i s.heap → J.go i H →
   wpAny (model P w) X.A (pyNext (.ref it)) (fun r s1 => ∃ u, r = some u ∧
     wpAny (model P w) X.A (letOwnedTupleGo tg (.ref it) u) (fun _ s2 => ∃ x H', Inv X pins σ H' s2 ∧ RelV x u ∧ J.yld i H x H' ∧ tn (i + 1) s2.heap ∧ ∀ b ∈ fp, H' b = none) E s1) E s
 done : ∀ (X : Cx), X.prog = P → X.w = w → X.K = K → X.calm = true → ∀ (i : Nat) (pins : List (Addr × Obj)) (s : Shared) (σ : St) (H : Hp) (E : Value → Shared → Prop), Inv X pins σ H s → (∀ b ∈ fp, FpOk X pins H b) → tn i s.heap → J.stop i H →
   wpAny (model P w) X.A (pyNext (.ref it)) (fun r s1 => r = none ∧ Inv X pins σ H s1) E s
 self : ∀ (A : Around) (i : Nat) (s : Shared) (Q : Value → Shared → Prop) (E : Value → Shared → Prop), tn i s.heap → Q (.ref it) s → wpAny (model P w) A (pyIter (.ref it)) Q E s
abbrev TI := St → Hp → (It → Hp → Prop) → Prop
def PIE (X : Cx) (pins : List (Addr × Obj)) (σ : St) (tg : Expr) (R : It → Hp → Prop) (itv : Value) (s2 : Shared) : Prop :=
 ∃ (it : Addr) (fp : List Addr) (tn : Nat → Heap → Prop) (J : It) (H' : Hp), itv = .ref it ∧ Inv X pins σ H' s2 ∧ Turn X.prog X.w X.K tg J fp it tn ∧ tn 0 s2.heap ∧ (∀ b ∈ fp, FpOk X pins H' b) ∧ R J H'
def PI (X : Cx) (tg iter : Expr) (wi : TI) : Prop :=
 ∀ (pins : List (Addr × Obj)) (s : Shared) (σ : St) (H : Hp) (R : It → Hp → Prop), Inv X pins σ H s → wi σ H R →
   wpAny (model X.prog X.w) X.A (eval iter X.env) (fun v s1 => wpAny (model X.prog X.w) X.A (pyIter v) (PIE X pins σ tg R) X.xe s1) X.xe s
theorem go_of {M : Model} {A : Around} {E : Value → Shared → Prop} {s : Shared} {tg : Expr} {it : Addr} {u : Value} {o : Obj} {n : String} {vs : Array Value} {Q : Unit → Shared → Prop} (ho : s.heap.get? it = some o) (hc : o.cls = .type n) (hd : o.data = .fields vs)
   (hn : ["enumerate", "zip", "dict_itemiterator", "dict_reverseitemiterator", "odict_iterator", "itertools.zip_longest", "itertools.pairwise"].contains n = false) (hQ : Q () s) : wpAny M A (letOwnedTupleGo tg (.ref it) u) Q E s := by
 unfold letOwnedTupleGo
 cases tg <;> first
   | exact wpAny_pure hQ
   | (cases u <;> first
       | exact wpAny_pure hQ
       | (refine wpAny_bind (wpAny_load ho ?_)
          rw [hc, hd]
          show wpAny M A (if (["enumerate", "zip", "dict_itemiterator", "dict_reverseitemiterator", "odict_iterator", "itertools.zip_longest", "itertools.pairwise"].contains n && vs[0]? == some (rawInt _)) = true then _ else _) Q E s
          rw [if_neg (by intro h; rw [hn, Bool.false_and] at h; cases h)]
          exact wpAny_pure hQ))
def Itl (K : W.Frag) (a : Addr) : It :=
 ⟨fun i H => ∃ xs x, SqL K H a xs ∧ xs[i]? = some x, fun i H x H' => H' = H ∧ ∀ xs, SqL K H a xs → xs[i]? = some x, fun i H => ∃ xs, SqL K H a xs ∧ xs.length ≤ i⟩
def Itt (K : W.Frag) (a : Addr) : It :=
 ⟨fun i H => ∃ xs x, SqT K H a xs ∧ xs[i]? = some x, fun i H x H' => H' = H ∧ ∀ xs, SqT K H a xs → xs[i]? = some x, fun i H => ∃ xs, SqT K H a xs ∧ xs.length ≤ i⟩
def Itr (lo : Int) (n : Nat) : It := ⟨fun i _ => i < n, fun i H x H' => H' = H ∧ x = .int (lo + i), fun i _ => n ≤ i⟩
theorem turn_list {P : Program} {w : World} {K : W.Frag} {tg : Expr} (a it : Addr) : Turn P w K tg (Itl K a) [it] it (fun i h => h.IsListIter it a i) where
 mem := by simp
 obj := fun i h st b hb => by
   have e : b = it := by simpa using hb
   subst e
   obtain ⟨o, e, c, d⟩ := st
   exact ⟨o, e, fun v z => by rw [d] at z; cases z⟩
 keep := fun i h h' st k => st.at fun o e => k it (by simp) o e
 item := by
   intro X hP hw hK hc i pins s σ H E I hf st hg
   subst hP hw hK
   obtain ⟨xs, x, hq, hx⟩ := hg
   obtain ⟨its, rv, p, hz⟩ := I.list hq
   obtain ⟨u, hu, ru⟩ := rv.get hx
   obtain ⟨f0, f1, f2, f3, f4, f5⟩ := hf it (by simp)
   refine wpAny_pyNext_list_item st p.isList (x := u) (by simpa using hu) fun h' st' sb => ?_
   have I1 : Inv X pins σ H { s with heap := h' } := I.turned (t' := s.toks) (fun b o hb e => (sb.2 b hb).trans e) f0 f1 f3 f4 f5
   obtain ⟨o, e, c, d⟩ := id st'
   exact ⟨u, rfl, go_of (s := { s with heap := h' }) e c d (by decide) ⟨x, H, I1, ru, ⟨rfl, fun ys hy => by rw [I.list_inj hy hq]; exact hx⟩, st', fun b hb => (hf b hb).1⟩⟩
 done := by
   intro X hP hw hK hc i pins s σ H E I hf st hg
   subst hP hw hK
   obtain ⟨xs, hq, hx⟩ := hg
   obtain ⟨its, rv, p, hz⟩ := I.list hq
   obtain ⟨f0, f1, f2, f3, f4, f5⟩ := hf it (by simp)
   have hl := rv.length
   exact wpAny_pyNext_list_end (I.ok.hd hc) st p.isList (by simp; omega) fun h' eb => ⟨rfl, I.turned (t' := s.toks) (fun b o hb e => eb b o hb e) f0 f1 f3 f4 f5⟩
 self := fun _ _ _ _ _ st h => wpAny_pyIter_listiter st h
theorem turn_tuple {P : Program} {w : World} {K : W.Frag} {tg : Expr} (a it : Addr) : Turn P w K tg (Itt K a) [it] it (fun i h => h.IsTupleIter it a i) where
 mem := by simp
 obj := fun i h st b hb => by
   have e : b = it := by simpa using hb
   subst e
   obtain ⟨o, e, c, d⟩ := st
   exact ⟨o, e, fun v z => by rw [d] at z; cases z⟩
 keep := fun i h h' st k => st.at fun o e => k it (by simp) o e
 item := by
   intro X hP hw hK hc i pins s σ H E I hf st hg
   subst hP hw hK
   obtain ⟨xs, x, hq, hx⟩ := hg
   obtain ⟨its, rv, p, hz⟩ := I.tuple hq
   obtain ⟨u, hu, ru⟩ := rv.get hx
   obtain ⟨f0, f1, f2, f3, f4, f5⟩ := hf it (by simp)
   refine wpAny_pyNext_tuple_item st (show s.heap.IsTuple a its.toArray from p) (x := u) (by simpa using hu) fun h' st' sb => ?_
   have I1 : Inv X pins σ H { s with heap := h' } := I.turned (t' := s.toks) (fun b o hb e => (sb.2 b hb).trans e) f0 f1 f3 f4 f5
   obtain ⟨o, e, c, d⟩ := id st'
   exact ⟨u, rfl, go_of (s := { s with heap := h' }) e c d (by decide) ⟨x, H, I1, ru, ⟨rfl, fun ys hy => by rw [I.tuple_inj hy hq]; exact hx⟩, st', fun b hb => (hf b hb).1⟩⟩
 done := by
   intro X hP hw hK hc i pins s σ H E I hf st hg
   subst hP hw hK
   obtain ⟨xs, hq, hx⟩ := hg
   obtain ⟨its, rv, p, hz⟩ := I.tuple hq
   obtain ⟨f0, f1, f2, f3, f4, f5⟩ := hf it (by simp)
   have hl := rv.length
   exact wpAny_pyNext_tuple_end (I.ok.hd hc) st (show s.heap.IsTuple a its.toArray from p) (by simp; omega) fun h' eb => ⟨rfl, I.turned (t' := s.toks) (fun b o hb e => eb b o hb e) f0 f1 f3 f4 f5⟩
 self := fun _ _ _ _ _ st h => wpAny_pyIter_tupleiter st h
theorem turn_range {P : Program} {w : World} {K : W.Frag} {tg : Expr} (it : Addr) (lo : Int) (n : Nat) : Turn P w K tg (Itr lo n) [it] it (fun i h => IsRangeIter h it (lo + (i : Nat) * 1) ((n : Int) - (i : Nat)) 1) where
 mem := by simp
 obj := fun i h st b hb => by
   have e : b = it := by simpa using hb
   subst e
   exact ⟨_, st, fun v z => by
     have z' : Data.fields _ = Data.cell v := z
     cases z'⟩
 keep := fun i h h' st k => k it (by simp) _ st
 item := by
   intro X hP hw hK hc i pins s σ H E I hf st hg
   subst hP hw hK
   obtain ⟨f0, f1, f2, f3, f4, f5⟩ := hf it (by simp)
   have W := Walks.range (prog := X.prog) (w := X.w) (I.ok.hd hc) it lo 1 n
   refine W.item i s _ _ hg st fun v h' tk hv st' kk => ?_
   obtain ⟨t, rfl⟩ := hv
   have I1 : Inv X pins σ H { s with heap := h', toks := tk } := I.turned (fun b o hb e => kk b o (by simpa using hb) e) f0 f1 f3 f4 f5
   refine ⟨_, rfl, go_of (s := { s with heap := h', toks := tk }) (n := "range_iterator") st' rfl rfl (by decide) ⟨.int (lo + i), H, I1, ⟨t, ?_⟩, ⟨rfl, rfl⟩, st', fun b hb => (hf b hb).1⟩⟩
   rw [Int.mul_one]
 done := by
   intro X hP hw hK hc i pins s σ H E I hf st hg
   subst hP hw hK
   obtain ⟨f0, f1, f2, f3, f4, f5⟩ := hf it (by simp)
   exact wpAny_pyNext_range_end (I.ok.hd hc) st (by have : n ≤ i := hg; omega) fun h' eb => ⟨rfl, I.turned (t' := s.toks) (fun b o hb e => eb b o hb e) f0 f1 f3 f4 f5⟩
 self := fun _ _ _ _ _ st h => wpAny_pyIter_rangeiter st h
end L2
namespace L2
open PySem PySem.Spec PyProof.Rows
section
variable {X : Cx} {tg : Expr}
def iList (K : W.Frag) (tl : TE) : TI := fun σ H R => tl σ H fun x H1 => ∃ a, x = .ref a ∧ (∃ xs, SqL K H1 a xs) ∧ R (Itl K a) H1
def iTup (K : W.Frag) (tl : TE) : TI := fun σ H R => tl σ H fun x H1 => ∃ a, x = .ref a ∧ (∃ xs, SqT K H1 a xs) ∧ R (Itt K a) H1
theorem pi_list {l : Expr} {tl : TE} (hl : PE X l tl) : PI X tg l (iList X.K tl) := by
 intro pins s σ H R I h
 refine thn (hl pins s σ H _ I h) fun v s1 ⟨x, H1, I1, r1, q1⟩ => ?_
 obtain ⟨a, e, ⟨xs, hq⟩, q⟩ := q1
 subst e
 cases r1
 obtain ⟨its, rv, p, hz⟩ := I1.list hq
 refine wpAny_pyIter_list p.isList ?_
 refine ⟨s1.heap.objs.size, [s1.heap.objs.size], _, _, H1, rfl, I1.kept (t' := s1.toks) fun b o e => Heap.get?_push_of_some _ e, turn_list a _, ⟨_, Heap.get?_push_size _ rfl, rfl, rfl⟩, fun b hb => ?_, q⟩
 have e : b = s1.heap.objs.size := by simpa using hb
 subst e
 exact I1.fpOk (Nat.le_refl _) (I1.hok.fresh (Nat.le_refl _))
theorem pi_tup {l : Expr} {tl : TE} (hl : PE X l tl) : PI X tg l (iTup X.K tl) := by
 intro pins s σ H R I h
 refine thn (hl pins s σ H _ I h) fun v s1 ⟨x, H1, I1, r1, q1⟩ => ?_
 obtain ⟨a, e, ⟨xs, hq⟩, q⟩ := q1
 subst e
 cases r1
 obtain ⟨its, rv, p, hz⟩ := I1.tuple hq
 refine wpAny_pyIter_tuple (show s1.heap.IsTuple a its.toArray from p) ?_
 refine ⟨s1.heap.objs.size, [s1.heap.objs.size], _, _, H1, rfl, I1.kept (t' := s1.toks) fun b o e => Heap.get?_push_of_some _ e, turn_tuple a _, ⟨_, Heap.get?_push_size _ rfl, rfl, rfl⟩, fun b hb => ?_, q⟩
 have e : b = s1.heap.objs.size := by simpa using hb
 subst e
 exact I1.fpOk (Nat.le_refl _) (I1.hok.fresh (Nat.le_refl _))
theorem range_it {pins : List (Addr × Obj)} {σ : St} {H : Hp} {s : Shared} {R : It → Hp → Prop} {E : Value → Shared → Prop} {lo hi : Int} {t u v : Tok} {tk : Nat} (I : Inv X pins σ H s) (h1 : -(2 ^ 62) ≤ lo) (h2 : lo < 2 ^ 62) (h3 : -(2 ^ 62) ≤ hi) (h4 : hi < 2 ^ 62)
   (q : R (Itr lo (hi - lo).toNat) H) : wpAny (model X.prog X.w) X.A (pyIter (.ref s.heap.objs.size)) (PIE X pins σ tg R) E { s with heap := s.heap.push { cls := .type "range", data := .fields #[.int lo t, .int hi u, .int 1 v] }, toks := tk } := by
 refine wpAny_pyIter_range (IsRange.new ..) (small_one h1 h2 h3 h4) ?_
 have I1 : Inv X pins σ H { s with heap := s.heap.push { cls := .type "range", data := .fields #[.int lo t, .int hi u, .int 1 v] }, toks := tk } := I.kept fun b o e => Heap.get?_push_of_some _ e
 refine ⟨(s.heap.push { cls := .type "range", data := .fields #[.int lo t, .int hi u, .int 1 v] }).objs.size, [(s.heap.push { cls := .type "range", data := .fields #[.int lo t, .int hi u, .int 1 v] }).objs.size], _, _, H, rfl,
   I1.kept (t' := tk) fun b o e => Heap.get?_push_of_some _ e, turn_range _ lo (hi - lo).toNat, ?_, fun b hb => ?_, q⟩
 · have e1 : lo + ((0 : Nat) : Int) * 1 = lo := by simp
   have e2 : (((hi - lo).toNat : Nat) : Int) - ((0 : Nat) : Int) = Builtin.Range.rangeSize lo hi 1 := by rw [rangeSize_one]; split <;> omega
   show IsRangeIter _ _ (lo + ((0 : Nat) : Int) * 1) ((((hi - lo).toNat : Nat) : Int) - ((0 : Nat) : Int)) 1
   rw [e1, e2]
   exact Heap.get?_push_size _ rfl
 · have e : b = (s.heap.push { cls := .type "range", data := .fields #[.int lo t, .int hi u, .int 1 v] }).objs.size := by simpa using hb
   subst e
   exact I1.fpOk (Nat.le_refl _) (I1.hok.fresh (Nat.le_refl _))
def iRng1 (ta : TA) : TI := fun σ H R => ta σ H fun vs H1 => ∃ j : Int, vs = [.int j] ∧ -(2 ^ 62) ≤ j ∧ j < 2 ^ 62 ∧ R (Itr 0 j.toNat) H1
def iRng2 (ta : TA) : TI := fun σ H R => ta σ H fun vs H1 => ∃ i j : Int, vs = [.int i, .int j] ∧ (-(2 ^ 62) ≤ i ∧ i < 2 ^ 62 ∧ -(2 ^ 62) ≤ j ∧ j < 2 ^ 62) ∧ R (Itr i (j - i).toNat) H1
theorem pi_range1 {a : Expr} {ta : TA} {p pos : Pos} (hg : Gl X "range") (hm : X.mg "range" = none) (ha : PA X [a] ta) (hs : starEach [a] X.env = [(false, eval a X.env)] := by rfl) : PI X tg (.Call (.Name "range" p) [a] [] pos) (iRng1 ta) := by
 intro pins s σ H R I h
 refine Call_ (ld_blt I hg hm boot_range (PyProof.Rows.callWith_type1 (thn (ha pos pins s σ H _ I h) fun us s1 ⟨vs, H1, I1, r1, q1⟩ => ?_) hs rfl))
 obtain ⟨j, e, q1, q2, q⟩ := q1
 subst e
 cases r1 with
 | cons r rr =>
   cases rr
   obtain ⟨t, rfl⟩ := r
   exact call_range_1 (range_it I1 (by omega) (by omega) q1 q2 (by simpa using q))
theorem pi_range2 {a b : Expr} {ta : TA} {p pos : Pos} (hg : Gl X "range") (hm : X.mg "range" = none) (ha : PA X [a, b] ta) (hs : starEach [a, b] X.env = [(false, eval a X.env), (false, eval b X.env)] := by rfl) (hs2 : starEach [b] X.env = [(false, eval b X.env)] := by rfl) :
   PI X tg (.Call (.Name "range" p) [a, b] [] pos) (iRng2 ta) := by
 intro pins s σ H R I h
 refine Call_ (ld_blt I hg hm boot_range (PyProof.Rows.callWith_type1 (thn (ha pos pins s σ H _ I h) fun us s1 ⟨vs, H1, I1, r1, q1⟩ => ?_) (by rw [hs, hs2]) (by rw [hs2]; rfl)))
 obtain ⟨i, j, e, ⟨q1, q2, q3, q4⟩, q⟩ := q1
 subst e
 cases r1 with
 | cons r rr =>
   cases rr with
   | cons r' rr =>
     cases rr
     obtain ⟨t, rfl⟩ := r
     obtain ⟨t', rfl⟩ := r'
     exact call_range_2 (range_it I1 q1 q2 q3 q4 q)
def tFor (wi : TI) (g : TG) (tb : TS) : TS := fun D σ H => wi σ H fun J H1 => ∃ W : Nat → Nat → St → Hp → Prop, (∃ m, W 0 m σ H1) ∧ ∀ i m σ H, W i m σ H →
 (J.stop i H ∧ D.nx σ H) ∨ (J.go i H ∧ ∃ N : St → Hp → Prop, (∀ σ' H', N σ' H' → ∃ m', m' < m ∧ W (i + 1) m' σ' H') ∧ ∀ x H', J.yld i H x H' → g x σ H' fun σ2 H2 => tb { D with nx := N, ct := N, bk := D.nx } σ2 H2)
def pinsAt (fp : List Addr) (h : Heap) : List (Addr × Obj) := fp.filterMap fun b => (h.get? b).map fun o => (b, o)
theorem mem_pinsAt {fp : List Addr} {h : Heap} {b : Addr} {o : Obj} (hb : b ∈ fp) (e : h.get? b = some o) : (b, o) ∈ pinsAt fp h := List.mem_filterMap.mpr ⟨b, hb, by rw [e]; rfl⟩
theorem of_pinsAt {fp : List Addr} {h : Heap} {p : Addr × Obj} (hp : p ∈ pinsAt fp h) : p.1 ∈ fp ∧ h.get? p.1 = some p.2 := by
 obtain ⟨b, hb, e⟩ := List.mem_filterMap.mp hp
 cases q : h.get? b with
 | none => rw [q] at e; cases e
 | some o =>
   rw [q] at e
   have e' : (b, o) = p := Option.some.inj e
   subst e'
   exact ⟨hb, q⟩
theorem Inv.pinned {pins : List (Addr × Obj)} {σ : St} {H : Hp} {s : Shared} {fp : List Addr} (I : Inv X pins σ H s) (hf : ∀ b ∈ fp, FpOk X pins H b) (ho : ∀ b ∈ fp, ∃ o, s.heap.get? b = some o ∧ ∀ v, o.data ≠ .cell v) : Inv X (pins ++ pinsAt fp s.heap) σ H s :=
 I.pins_of fun p hp => (List.mem_append.mp hp).elim (fun z => I.pin p (List.mem_append_right _ z)) fun z => by
   obtain ⟨hb, e⟩ := of_pinsAt z
   obtain ⟨f0, f1, f2, _⟩ := hf p.1 hb
   obtain ⟨o, e', d⟩ := ho p.1 hb
   rw [e] at e'; cases e'
   exact ⟨e, f0, f1, f2, d⟩
theorem Inv.unpinned {pins pl : List (Addr × Obj)} {σ : St} {H : Hp} {s : Shared} (I : Inv X (pins ++ pl) σ H s) : Inv X pins σ H s := I.pins_of fun p hp => I.pin p (List.mem_append_right _ (List.mem_append_left _ hp))
theorem ps_for {iter : Expr} {body : List Stmt} {wi : TI} {g : TG} {tb : TS} {pos : Pos} (hp : PassesOwn (model X.prog X.w) X.A X.env X.xe) (hc : X.calm = true) (hi : PI X tg iter wi) (hg : PG X tg g) (hb : PSs X body tb)
   (hs : ∀ x, foldedSetIterable iter X.env x = pure x := by intro _; rfl) : PS X (.For tg iter body [] pos) (tFor wi g tb) := by
 intro pins s σ H D I h
 refine wpAny_For (thn (hi pins s σ H _ I h) fun v s1 h1 => thn h1 fun itv s2 h2 => ?_) hs
 obtain ⟨it, fp, tn, J, H2, e, I2, T, st2, f2, W, ⟨m0, w0⟩, turn⟩ := h2
 subst e
 have stat : ∀ {H' : Hp}, (∀ b ∈ fp, H' b = none) → ∀ b ∈ fp, FpOk X pins H' b := fun hn b hb => ⟨hn b hb, (f2 b hb).2⟩
 refine codeAny_forLoop_any (fun n s' => ∃ i σ' H', Inv X pins σ' H' s' ∧ tn i s'.heap ∧ (∀ b ∈ fp, H' b = none) ∧ W i n σ' H') ?_ m0 ⟨0, σ, H2, I2, st2, fun b hb => (f2 b hb).1, w0⟩
 rintro n s3 ⟨i, σ3, H3, I3, st3, fr3, w3⟩
 rcases turn i n σ3 H3 w3 with ⟨stop, qn⟩ | ⟨go, N, hN, step⟩
 · refine wpAny_passesOwn hp (thn (T.done X rfl rfl rfl hc i pins s3 σ3 H3 X.xe I3 (stat fr3) st3 stop) fun r s4 ⟨hr, I4⟩ => ?_)
   subst hr
   exact wpAny_execs_nil ⟨σ3, H3, I4, qn⟩
 · refine wpAny_passesOwn hp (thn (T.item X rfl rfl rfl hc i pins s3 σ3 H3 X.xe I3 (stat fr3) st3 go) fun r s4 ⟨u, hr, h4⟩ => ?_)
   subst hr
   refine wpAny_passesOwn hp (thn h4 fun _ s5 ⟨x, H5, I5, r5, y5, st5, fr5⟩ => ?_)
   have I5' := I5.pinned (stat fr5) (T.obj _ _ st5)
   refine wpAny_passesOwn hp (thn (hg _ s5 σ3 H5 x u _ I5' r5 (step x H5 y5)) fun _ s6 ⟨σ6, H6, I6, q6⟩ => ?_)
   refine wpAny_passesOwn hp (thn (hb _ s6 σ6 H6 _ I6 q6) fun f s7 q7 => ?_)
   have again : ∀ {σ7 : St} {H7 : Hp}, Inv X (pins ++ pinsAt fp s5.heap) σ7 H7 s7 → N σ7 H7 → ∃ m, m < n ∧ ∃ i σ' H', Inv X pins σ' H' s7 ∧ tn i s7.heap ∧ (∀ b ∈ fp, H' b = none) ∧ W i m σ' H' := fun {σ7 H7} I7 n7 => by
     obtain ⟨m', hm, w7⟩ := hN σ7 H7 n7
     refine ⟨m', hm, i + 1, σ7, H7, I7.unpinned, T.keep _ _ _ st5 fun b hb o e => (I7.pin (b, o) (List.mem_append_right _ (List.mem_append_right _ (mem_pinsAt hb e)))).1, fun b hb => ?_, w7⟩
     obtain ⟨o, e, d⟩ := T.obj _ _ st5 b hb
     exact (I7.pin (b, o) (List.mem_append_right _ (List.mem_append_right _ (mem_pinsAt hb e)))).2.1
   cases f with
   | next => obtain ⟨σ7, H7, I7, n7⟩ := q7; exact again I7 n7
   | cont => obtain ⟨σ7, H7, I7, n7⟩ := q7; exact again I7 n7
   | brk => obtain ⟨σ7, H7, I7, q7⟩ := q7; exact ⟨σ7, H7, I7.unpinned, q7⟩
   | ret v => obtain ⟨x7, σ7, H7, I7, r7, q7⟩ := q7; exact ⟨x7, σ7, H7, I7.unpinned, r7, q7⟩
end
theorem for_list {K : W.Frag} {a : Addr} {xs : List V} {g : TG} {tb : TS} {D : Ends} {σ : St} {H : Hp} (Pv : Nat → St → Hp → Prop) (h0 : Pv 0 σ H) (hl : ∀ i σ H, i ≤ xs.length → Pv i σ H → SqL K H a xs)
   (hs : ∀ i x σ H, xs[i]? = some x → Pv i σ H → g x σ H fun σ2 H2 => tb { D with nx := Pv (i + 1), ct := Pv (i + 1), bk := D.nx } σ2 H2) (hd : ∀ σ H, Pv xs.length σ H → D.nx σ H) :
   ∃ W : Nat → Nat → St → Hp → Prop, (∃ m, W 0 m σ H) ∧ ∀ i m σ H, W i m σ H →
     ((Itl K a).stop i H ∧ D.nx σ H) ∨ ((Itl K a).go i H ∧ ∃ N : St → Hp → Prop, (∀ σ' H', N σ' H' → ∃ m', m' < m ∧ W (i + 1) m' σ' H') ∧ ∀ x H', (Itl K a).yld i H x H' → g x σ H' fun σ2 H2 => tb { D with nx := N, ct := N, bk := D.nx } σ2 H2) := by
 refine ⟨fun i m σ H => m = xs.length - i ∧ i ≤ xs.length ∧ Pv i σ H, ⟨xs.length, by simp, Nat.zero_le _, h0⟩, ?_⟩
 rintro i m σ H ⟨rfl, hi, p⟩
 have q := hl i σ H hi p
 by_cases hlt : i < xs.length
 · refine .inr ⟨⟨xs, xs[i], q, by simp [hlt]⟩, Pv (i + 1), fun σ' H' p' => ⟨xs.length - (i + 1), by omega, rfl, hlt, p'⟩, fun x H' y => ?_⟩
   obtain ⟨e, y⟩ := y
   subst e
   exact hs i x σ _ (y xs q) p
 · have e : i = xs.length := by omega
   subst e
   exact .inl ⟨⟨xs, q, Nat.le_refl _⟩, hd σ H p⟩
theorem for_range {lo : Int} {n : Nat} {g : TG} {tb : TS} {D : Ends} {σ : St} {H : Hp} (Pv : Nat → St → Hp → Prop) (h0 : Pv 0 σ H)
   (hs : ∀ i σ H, i < n → Pv i σ H → g (.int (lo + i)) σ H fun σ2 H2 => tb { D with nx := Pv (i + 1), ct := Pv (i + 1), bk := D.nx } σ2 H2) (hd : ∀ σ H, Pv n σ H → D.nx σ H) :
   ∃ W : Nat → Nat → St → Hp → Prop, (∃ m, W 0 m σ H) ∧ ∀ i m σ H, W i m σ H →
     ((Itr lo n).stop i H ∧ D.nx σ H) ∨ ((Itr lo n).go i H ∧ ∃ N : St → Hp → Prop, (∀ σ' H', N σ' H' → ∃ m', m' < m ∧ W (i + 1) m' σ' H') ∧ ∀ x H', (Itr lo n).yld i H x H' → g x σ H' fun σ2 H2 => tb { D with nx := N, ct := N, bk := D.nx } σ2 H2) := by
 refine ⟨fun i m σ H => m = n - i ∧ i ≤ n ∧ Pv i σ H, ⟨n, by simp, Nat.zero_le _, h0⟩, ?_⟩
 rintro i m σ H ⟨rfl, hi, p⟩
 by_cases hlt : i < n
 · refine .inr ⟨hlt, Pv (i + 1), fun σ' H' p' => ⟨n - (i + 1), by omega, rfl, hlt, p'⟩, fun x H' y => ?_⟩
   obtain ⟨e, y⟩ := y
   subst e y
   exact hs i σ _ hlt p
 · have e : i = n := by omega
   subst e
   exact .inl ⟨Nat.le_refl _, hd σ H p⟩
end L2
namespace L2
open PySem PySem.Spec PyProof.Rows
abbrev R2 := V → V → Hp → VK → Prop
def OpR (X : Cx) (f : Value → Value → Sem Value) (r : R2) : Prop :=
 ∀ (pins : List (Addr × Obj)) (s : Shared) (σ : St) (H : Hp) (x y : V) (v u : Value) (Q : VK), Inv X pins σ H s → RelV x v → RelV y u → r x y H Q →
   wpAny (model X.prog X.w) X.A (f v u) (EP X pins σ Q) X.xe s
def UnR (X : Cx) (f : Value → Sem Value) (r : V → Hp → VK → Prop) : Prop :=
 ∀ (pins : List (Addr × Obj)) (s : Shared) (σ : St) (H : Hp) (x : V) (v : Value) (Q : VK), Inv X pins σ H s → RelV x v → r x H Q →
   wpAny (model X.prog X.w) X.A (f v) (EP X pins σ Q) X.xe s
def qF (X : Cx) (f : Value) (r : List V → Hp → VK → Prop) : Prop :=
 ∀ (pins : List (Addr × Obj)) (s : Shared) (σ : St) (H : Hp) (xs : List V) (us : List Value) (Q : VK), Inv X pins σ H s → Vals xs us → r xs H Q →
   wpAny (model X.prog X.w) X.A (call f us) (EP X pins σ Q) X.xe s
def tOp (r : R2) (ta tb : TE) : TE := fun σ H Q => ta σ H fun x H1 => tb σ H1 fun y H2 => r x y H2 Q
def tUn (r : V → Hp → VK → Prop) (ta : TE) : TE := fun σ H Q => ta σ H fun x H1 => r x H1 Q
def rI (C : Int → Int → Prop) (g : Int → Int → V) : R2 := fun x y H Q => ∃ i j, x = .int i ∧ y = .int j ∧ C i j ∧ Q (g i j) H
def rI0 (g : Int → Int → V) : R2 := fun x y H Q => ∃ i j, x = .int i ∧ y = .int j ∧ Q (g i j) H
def rU (g : Int → V) : V → Hp → VK → Prop := fun x H Q => ∃ i, x = .int i ∧ Q (g i) H
section
variable {X : Cx} {a b c : Expr} {ta tb tc : TE} {pos : Pos}
theorem binT (ha : PE X a ta) (hb : PE X b tb) {pins : List (Addr × Obj)} {s : Shared} {σ : St} {H : Hp} {R : V → V → Hp → Prop} (I : Inv X pins σ H s)
   (h : ta σ H fun x H1 => tb σ H1 fun y H2 => R x y H2) {Q : Value → Shared → Prop} {f : Value → Value → Sem Value}
   (hf : ∀ v u s2 x y H2, Inv X pins σ H2 s2 → RelV x v → RelV y u → R x y H2 → wpAny (model X.prog X.w) X.A (f v u) Q X.xe s2) :
   wpAny (model X.prog X.w) X.A (eval a X.env) (fun v s₁ => wpAny (model X.prog X.w) X.A (eval b X.env) (fun u s₂ => wpAny (model X.prog X.w) X.A (f v u) Q X.xe s₂) X.xe s₁) X.xe s := by
 refine thn (ha pins s σ H _ I h) fun v s1 ⟨x, H1, I1, r1, q1⟩ => ?_
 refine thn (hb pins s1 σ H1 _ I1 q1) fun u s2 ⟨y, H2, I2, r2, q2⟩ => ?_
 exact hf v u s2 x y H2 I2 r1 r2 q2
theorem yA {op : Operator} {r : R2} (ho : OpR X (binaryOp op) r) (ha : PE X a ta) (hb : PE X b tb) : PE X (.BinOp a op b pos) (tOp r ta tb) := by
 intro pins s σ H Q I h
 exact wpAny_BinOp (binT ha hb I h fun v u s2 x y H2 I2 rx ry q => ho pins s2 σ H2 x y v u Q I2 rx ry q)
theorem pe_un {op : UnaryOp} {r : V → Hp → VK → Prop} (ho : UnR X (unaryOp op) r) (ha : PE X a ta) : PE X (.UnaryOp op a pos) (tUn r ta) := by
 intro pins s σ H Q I h
 exact UnaryOp_ (thn (ha pins s σ H _ I h) fun v s1 ⟨x, H1, I1, r1, q1⟩ => ho pins s1 σ H1 x v Q I1 r1 q1)
theorem opI {f : Value → Value → Sem Value} {C : Int → Int → Prop} {g : Int → Int → Int}
   (rule : ∀ (i j : Int) (t u : Tok) (s : Shared) (Q : Value → Shared → Prop) (E : Value → Shared → Prop), C i j → Q (.int (g i j) s.toks) { s with toks := s.toks + 1 } → wpAny (model X.prog X.w) X.A (f (.int i t) (.int j u)) Q E s) :
   OpR X f (rI C fun i j => .int (g i j)) := by
 intro pins s σ H x y v u Q I rx ry h
 obtain ⟨i, j, rfl, rfl, hc, q⟩ := h
 obtain ⟨t, rfl⟩ := rx
 obtain ⟨t', rfl⟩ := ry
 exact rule i j t t' s _ _ hc ⟨.int (g i j), H, I.tok _, ⟨_, rfl⟩, q⟩
theorem opI0 {f : Value → Value → Sem Value} {g : Int → Int → Int}
   (rule : ∀ (i j : Int) (t u : Tok) (s : Shared) (Q : Value → Shared → Prop) (E : Value → Shared → Prop), Q (.int (g i j) s.toks) { s with toks := s.toks + 1 } → wpAny (model X.prog X.w) X.A (f (.int i t) (.int j u)) Q E s) :
   OpR X f (rI0 fun i j => .int (g i j)) := by
 intro pins s σ H x y v u Q I rx ry h
 obtain ⟨i, j, rfl, rfl, q⟩ := h
 obtain ⟨t, rfl⟩ := rx
 obtain ⟨t', rfl⟩ := ry
 exact rule i j t t' s _ _ ⟨.int (g i j), H, I.tok _, ⟨_, rfl⟩, q⟩
theorem opB0 {f : Value → Value → Sem Value} {g : Int → Int → Bool}
   (rule : ∀ (i j : Int) (t u : Tok) (s : Shared) (Q : Value → Shared → Prop) (E : Value → Shared → Prop), Q (.bool (g i j)) s → wpAny (model X.prog X.w) X.A (f (.int i t) (.int j u)) Q E s) :
   OpR X f (rI0 fun i j => .bl (g i j)) := by
 intro pins s σ H x y v u Q I rx ry h
 obtain ⟨i, j, rfl, rfl, q⟩ := h
 obtain ⟨t, rfl⟩ := rx
 obtain ⟨t', rfl⟩ := ry
 exact rule i j t t' s _ _ ⟨.bl (g i j), H, I, rfl, q⟩
def CPow (i j : Int) : Prop := 0 ≤ j ∧ j ≤ 1000000 ∧ i.natAbs < 2 ^ 64
def CMul (i j : Int) : Prop := (-(2 ^ 64) < i ∧ i < 2 ^ 64) ∨ (-(2 ^ 64) < j ∧ j < 2 ^ 64)
theorem CMul.ok {i j : Int} (h : CMul i j) : IntMulOk i j := by
 rcases h with ⟨h1, h2⟩ | ⟨h1, h2⟩
 · exact .of_left (intBits_le_64 h1 h2)
 · exact .of_right (intBits_le_64 h1 h2)
theorem two_pow_nn (k : Nat) : (0 : Int) ≤ 2 ^ k := by
 rw [two_pow_cast]
 exact Int.natCast_nonneg _
theorem kU : OpR X (binaryOp .Add) (rI0 fun i j => .int (i + j)) := opI0 fun _ _ _ _ _ _ _ q => add_int q
theorem op_sub : OpR X (binaryOp .Sub) (rI0 fun i j => .int (i - j)) := opI0 fun _ _ _ _ _ _ _ q => sub_int q
theorem yR : OpR X (binaryOp .Mult) (rI CMul fun i j => .int (i * j)) := opI fun _ _ _ _ _ _ _ hc q => mul_int q hc.ok
theorem op_mod : OpR X (binaryOp .Mod) (rI (fun _ j => 0 < j) fun i j => .int (i % j)) := opI fun i j _ _ _ _ _ hc q => by
 have h1 : (0 : Int) < j := hc
 exact mod_int' (by omega) (by rw [Int.fmod_eq_emod_of_nonneg i (by omega)]; exact q)
theorem op_pow : OpR X (binaryOp .Pow) (rI CPow fun i j => .int (i ^ j.toNat)) := opI fun _ _ _ _ _ _ _ hc q => pow_int_small hc.1 hc.2.1 hc.2.2 q
theorem op_shl : OpR X (binaryOp .LShift) (rI CPow fun i j => .int (i * 2 ^ j.toNat)) := opI fun _ _ _ _ _ _ _ hc q => lshift_int_small hc.1 hc.2.1 hc.2.2 q
theorem op_shr : OpR X (binaryOp .RShift) (rI (fun _ j => 0 ≤ j) fun i j => .int (i / 2 ^ j.toNat)) := opI fun i j _ _ _ _ _ hc q =>
 rshift_int hc (by rw [Int.fdiv_eq_ediv_of_nonneg i (two_pow_nn _)]; exact q)
theorem op_and : OpR X (binaryOp .BitAnd) (rI0 fun i j => .int (Builtin.bitAnd i j)) := opI0 fun _ _ _ _ _ _ _ q => and_int q
theorem op_or : OpR X (binaryOp .BitOr) (rI0 fun i j => .int (Builtin.bitOr i j)) := opI0 fun _ _ _ _ _ _ _ q => or_int q
theorem unI {f : Value → Sem Value} {g : Int → Int}
   (rule : ∀ (i : Int) (t : Tok) (s : Shared) (Q : Value → Shared → Prop) (E : Value → Shared → Prop), Q (.int (g i) s.toks) { s with toks := s.toks + 1 } → wpAny (model X.prog X.w) X.A (f (.int i t)) Q E s) :
   UnR X f (rU fun i => .int (g i)) := by
 intro pins s σ H x v Q I rx h
 obtain ⟨i, rfl, q⟩ := h
 obtain ⟨t, rfl⟩ := rx
 exact rule i t s _ _ ⟨.int (g i), H, I.tok _, ⟨_, rfl⟩, q⟩
theorem un_neg : UnR X (unaryOp .USub) (rU fun i => .int (-i)) := unI fun _ _ _ _ _ q => neg_int q
end
def scal : V → V → Bool
 | .non, .non => true | .non, .int _ => true | .int _, .non => true | .non, .bl _ => true | .bl _, .non => true | .non, .str _ => true | .str _, .non => true
 | .int _, .int _ => true | .bl _, .bl _ => true | .str _, .str _ => true | .byt _, .byt _ => true
 | .int _, .str _ => true | .str _, .int _ => true | .bl _, .str _ => true | .str _, .bl _ => true
 | _, _ => false
def rEq : R2 := fun x y H Q => scal x y = true ∧ Q (.bl (decide (x = y))) H
def rNe : R2 := fun x y H Q => scal x y = true ∧ Q (.bl (!decide (x = y))) H
theorem dec_int {i j : Int} : decide (V.int i = V.int j) = (i == j) := by
 rw [Bool.eq_iff_iff]
 simp
theorem dec_bl {i j : Bool} : decide (V.bl i = V.bl j) = (i == j) := by
 rw [Bool.eq_iff_iff]
 simp
theorem dec_str {i j : Str} : decide (V.str i = V.str j) = (i == j) := by
 rw [Bool.eq_iff_iff]
 simp
theorem dec_byt {i j : Array UInt8} : decide (V.byt i = V.byt j) = (i.toList == j.toList) := by
 rw [Bool.eq_iff_iff]
 cases i
 cases j
 simp
section
variable {X : Cx} {a b c : Expr} {ta tb tc : TE} {pos : Pos}
theorem kJ {pins : List (Addr × Obj)} {σ : St} {H : Hp} {s : Shared} {Q : VK} {k k' : Bool} (I : Inv X pins σ H s) (q : Q (.bl k) H) (e : k = k') : EP X pins σ Q (.bool k') s := by
 subst e
 exact ⟨.bl k, H, I, rfl, q⟩
theorem yP : OpR X (compareOp .Eq) rEq := by
 intro pins s σ H x y v u Q I rx ry h
 obtain ⟨hs, q⟩ := h
 cases x with
 | non =>
   cases rx
   cases y with
   | non => cases ry; exact PySem.EqNone.eq_none_none (kJ I q (by simp))
   | bl j => cases ry; exact PySem.EqNone.eq_none_bool (kJ I q (by simp))
   | int j => obtain ⟨t', rfl⟩ := ry; exact PySem.EqNone.eq_none_int (kJ I q (by simp))
   | str j => obtain ⟨t', rfl⟩ := ry; exact PySem.EqNone.eq_none_str (kJ I q (by simp))
   | _ => exact absurd (show false = true from hs) Bool.false_ne_true
 | bl i =>
   cases rx
   cases y with
   | non => cases ry; exact PySem.EqNone.eq_bool_none (kJ I q (by simp))
   | bl j => cases ry; exact eq_bool (kJ I q dec_bl)
   | str j => obtain ⟨t', rfl⟩ := ry; exact PySem.EqMixed.eq_bool_str (kJ I q (by simp))
   | _ => exact absurd (show false = true from hs) Bool.false_ne_true
 | int i =>
   obtain ⟨t, rfl⟩ := rx
   cases y with
   | non => cases ry; exact PySem.EqNone.eq_int_none (kJ I q (by simp))
   | int j => obtain ⟨t', rfl⟩ := ry; exact eq_int (kJ I q dec_int)
   | str j => obtain ⟨t', rfl⟩ := ry; exact PySem.EqMixed.eq_int_str (kJ I q (by simp))
   | _ => exact absurd (show false = true from hs) Bool.false_ne_true
 | str i =>
   obtain ⟨t, rfl⟩ := rx
   cases y with
   | non => cases ry; exact PySem.EqNone.eq_str_none (kJ I q (by simp))
   | bl j => cases ry; exact PySem.EqMixed.eq_str_bool (kJ I q (by simp))
   | int j => obtain ⟨t', rfl⟩ := ry; exact PySem.EqMixed.eq_str_int (kJ I q (by simp))
   | str j => obtain ⟨t', rfl⟩ := ry; exact eq_str (kJ I q dec_str)
   | _ => exact absurd (show false = true from hs) Bool.false_ne_true
 | byt i =>
   obtain ⟨t, rfl⟩ := rx
   cases y with
   | byt j => obtain ⟨t', rfl⟩ := ry; exact PySem.W.eq_bytes (kJ I q dec_byt)
   | _ => exact absurd (show false = true from hs) Bool.false_ne_true
 | _ => cases y <;> exact absurd (show false = true from hs) Bool.false_ne_true
theorem op_ne : OpR X (compareOp .NotEq) rNe := by
 intro pins s σ H x y v u Q I rx ry h
 obtain ⟨hs, q⟩ := h
 cases x with
 | non =>
   cases rx
   cases y with
   | non => cases ry; exact PySem.EqNone.ne_none_none (kJ I q (by simp))
   | bl j => cases ry; exact PySem.EqNone.ne_none_bool (kJ I q (by simp))
   | int j => obtain ⟨t', rfl⟩ := ry; exact PySem.EqNone.ne_none_int (kJ I q (by simp))
   | str j => obtain ⟨t', rfl⟩ := ry; exact PySem.EqNone.ne_none_str (kJ I q (by simp))
   | _ => exact absurd (show false = true from hs) Bool.false_ne_true
 | bl i =>
   cases rx
   cases y with
   | non => cases ry; exact PySem.EqNone.ne_bool_none (kJ I q (by simp))
   | bl j => cases ry; exact ne_bool (kJ I q (congrArg not dec_bl))
   | str j => obtain ⟨t', rfl⟩ := ry; exact PySem.EqMixed.ne_bool_str (kJ I q (by simp))
   | _ => exact absurd (show false = true from hs) Bool.false_ne_true
 | int i =>
   obtain ⟨t, rfl⟩ := rx
   cases y with
   | non => cases ry; exact PySem.EqNone.ne_int_none (kJ I q (by simp))
   | int j => obtain ⟨t', rfl⟩ := ry; exact ne_int (kJ I q (congrArg not dec_int))
   | str j => obtain ⟨t', rfl⟩ := ry; exact PySem.EqMixed.ne_int_str (kJ I q (by simp))
   | _ => exact absurd (show false = true from hs) Bool.false_ne_true
 | str i =>
   obtain ⟨t, rfl⟩ := rx
   cases y with
   | non => cases ry; exact PySem.EqNone.ne_str_none (kJ I q (by simp))
   | bl j => cases ry; exact PySem.EqMixed.ne_str_bool (kJ I q (by simp))
   | int j => obtain ⟨t', rfl⟩ := ry; exact PySem.EqMixed.ne_str_int (kJ I q (by simp))
   | str j => obtain ⟨t', rfl⟩ := ry; exact ne_str (kJ I q (congrArg not dec_str))
   | _ => exact absurd (show false = true from hs) Bool.false_ne_true
 | byt i =>
   obtain ⟨t, rfl⟩ := rx
   cases y with
   | byt j => obtain ⟨t', rfl⟩ := ry; exact PySem.W.ne_bytes (kJ I q (congrArg not dec_byt))
   | _ => exact absurd (show false = true from hs) Bool.false_ne_true
 | _ => cases y <;> exact absurd (show false = true from hs) Bool.false_ne_true
theorem xJ : OpR X (compareOp .Lt) (rI0 fun i j => .bl (decide (i < j))) := opB0 fun _ _ _ _ _ _ _ q => lt_int q
theorem op_le : OpR X (compareOp .LtE) (rI0 fun i j => .bl (decide (i ≤ j))) := opB0 fun _ _ _ _ _ _ _ q => le_int q
theorem op_gt : OpR X (compareOp .Gt) (rI0 fun i j => .bl (decide (j < i))) := opB0 fun _ _ _ _ _ _ _ q => gt_int q
theorem op_ge : OpR X (compareOp .GtE) (rI0 fun i j => .bl (decide (j ≤ i))) := opB0 fun _ _ _ _ _ _ _ q => ge_int q
theorem op_isN : OpR X (compareOp .Is) (fun x y H Q => y = .non ∧ Q (.bl (decide (x = .non))) H) := by
 intro pins s σ H x y v u Q I rx ry h
 obtain ⟨rfl, q⟩ := h
 cases ry
 refine is_none_gen (kJ I q ?_)
 cases x <;> first
   | (cases rx; rfl)
   | (obtain ⟨t, rfl⟩ := rx; rfl)
theorem jK (b : Expr) {op : CmpOp} (h : op ≠ .In := by decide) (h2 : op ≠ .NotIn := by decide) : behindInMarks op b = false := by
 have e1 : (op == CmpOp.In) = false := by cases op <;> first | rfl | exact absurd rfl h
 have e2 : (op == CmpOp.NotIn) = false := by cases op <;> first | rfl | exact absurd rfl h2
 cases b <;> simp [behindInMarks, e1, e2]
theorem pe_cmpR {op : CmpOp} {r : R2} (ho : OpR X (compareOp op) r) (ha : PE X a ta) (hb : PE X b tb) (hm : behindInMarks op b = false) : PE X (.Compare a [op] [b] pos) (tOp r ta tb) := by
 intro pins s σ H Q I h
 exact wpAny_Compare1 (binT ha hb I h fun v u s2 x y H2 I2 rx ry q => ho pins s2 σ H2 x y v u Q I2 rx ry q) hm
def tTest (t : TE) : TT := fun σ H Q => t σ H fun x H' => ∃ k, x = .bl k ∧ Q k H'
theorem pt_cmpR {op : CmpOp} {r : R2} (ho : OpR X (compareOp op) r) (ha : PE X a ta) (hb : PE X b tb) (hm : behindInMarks op b = false) : PT X (.Compare a [op] [b] pos) (tTest (tOp r ta tb)) := by
 intro pins s σ H Q I h
 refine wpAny_isTrue_Compare1 (thn (ha pins s σ H _ I h) fun v s1 ⟨x, H1, I1, r1, q1⟩ => thn (hb pins s1 σ H1 _ I1 q1) fun u s2 ⟨y, H2, I2, r2, q2⟩ =>
   thn (ho pins s2 σ H2 x y v u _ I2 r1 r2 q2) fun c s3 ⟨z, H3, I3, r3, k, e, q3⟩ => ?_) hm
 subst e
 cases r3
 exact wpAny_truthy_bool ⟨H3, I3, q3⟩
def tChain (r r' : R2) (ta tb tc : TE) : TE := fun σ H Q => ta σ H fun x H1 => tb σ H1 fun y H2 => r x y H2 fun z H3 => ∃ k, z = .bl k ∧
 (if k = true then tc σ H3 fun w' H4 => r' y w' H4 Q else Q (.bl false) H3)
theorem pt_chain {op op' : CmpOp} {r r' : R2} (ho : OpR X (compareOp op) r) (ho' : OpR X (compareOp op') r') (ha : PE X a ta) (hb : PE X b tb) (hc : PE X c tc)
   (hm : lastMarks [op, op'] [b, c] = false := by with_unfolding_all rfl) : PT X (.Compare a [op, op'] [b, c] pos) (tTest (tChain r r' ta tb tc)) := by
 intro pins s σ H Q I h
 refine isTrue_chain (thn (ha pins s σ H _ I h) fun v s1 ⟨x, H1, I1, r1, q1⟩ => test_link (thn (hb pins s1 σ H1 _ I1 q1) fun u s2 ⟨y, H2, I2, r2, q2⟩ =>
   thn (ho pins s2 σ H2 x y v u _ I2 r1 r2 q2) fun d s3 ⟨z, H3, I3, r3, k, e, q3⟩ => ?_)) hm
 subst e
 cases r3
 refine wpAny_truthy_bool ?_
 cases k with
 | false =>
   obtain ⟨k', e', q'⟩ := q3
   cases e'
   exact ite_ff ⟨H3, I3, q'⟩
 | true =>
   refine ite_tt (test_last (thn (hc pins s3 σ H3 _ I3 q3) fun w' s4 ⟨z', H4, I4, r4, q4⟩ => thn (ho' pins s4 σ H4 y z' u w' _ I4 r2 r4 q4) fun d' s5 ⟨z2, H5, I5, r5, k2, e2, q5⟩ => ?_))
   subst e2
   cases r5
   exact wpAny_truthy_bool ⟨H5, I5, q5⟩
theorem line63 : (sizeLine : Nat) < 2 ^ 63 := by rw [sizeLine_eq]; decide
theorem vals1 {x : V} {us : List Value} (r : Vals [x] us) : ∃ u, us = [u] ∧ RelV x u := by
 cases r with
 | cons r1 r2 => cases r2; exact ⟨_, rfl, r1⟩
theorem call_abs : qF X (.builtin "abs") (fun xs H Q => ∃ i, xs = [.int i] ∧ Q (.int (if i < 0 then -i else i)) H) := by
 intro pins s σ H xs us Q I r h
 obtain ⟨i, rfl, q⟩ := h
 obtain ⟨u, rfl, t, rfl⟩ := vals1 r
 exact call_abs_int fun u tk => ⟨.int (if i < 0 then -i else i), H, I.tok _, ⟨_, rfl⟩, q⟩
theorem call_int1 : qF X (.type "int") (fun xs H Q => (∃ i, xs = [.int i] ∧ Q (.int i) H) ∨ ∃ k, xs = [.bl k] ∧ Q (.int (if k then 1 else 0)) H) := by
 intro pins s σ H xs us Q I r h
 rcases h with ⟨i, rfl, q⟩ | ⟨k, rfl, q⟩
 · obtain ⟨u, rfl, t, rfl⟩ := vals1 r
   exact call_int_int ⟨.int i, H, I, ⟨_, rfl⟩, q⟩
 · obtain ⟨u, rfl, r1⟩ := vals1 r
   cases r1
   exact call_int_bool ⟨.int (if k then 1 else 0), H, I.tok _, ⟨_, rfl⟩, q⟩
theorem call_bool1 : qF X (.type "bool") (fun xs H Q => (∃ i, xs = [.int i] ∧ Q (.bl (i != 0)) H) ∨ ∃ k, xs = [.bl k] ∧ Q (.bl k) H) := by
 intro pins s σ H xs us Q I r h
 rcases h with ⟨i, rfl, q⟩ | ⟨k, rfl, q⟩
 · obtain ⟨u, rfl, t, rfl⟩ := vals1 r
   exact call_bool_int ⟨.bl (i != 0), H, I, rfl, q⟩
 · obtain ⟨u, rfl, r1⟩ := vals1 r
   cases r1
   exact call_bool_bool ⟨.bl k, H, I, rfl, q⟩
end
end L2
namespace L2
open PySem PySem.Spec PyProof.Rows
structure ObjM (h : Heap) (x dx C : Addr) (mA : Str → Option Value) : Prop where
 obj : h.get? x = some (PySem.W.instObj C dx)
 ns : h.Ns1 dx mA
 ne : dx ≠ x
theorem lookIn_ns {h : Heap} {dx : Addr} {mA : Str → Option Value} (n : h.Ns1 dx mA) : ∃ od, h.get? dx = some od ∧ ∀ name, PySem.W.lookIn name od = some (mA name) := by
 obtain ⟨o, es, ep, ho, hd, hk, _, hm⟩ := n
 refine ⟨o, ho, fun name => ?_⟩
 have e := hm name
 unfold nsFind findBy at e
 rw [← Array.find?_toList] at e
 unfold PySem.W.lookIn
 rw [hd]
 dsimp only
 split
 · rename_i y q
   rw [q] at e
   exact congrArg some e
 · rename_i q
   rw [q] at e
   have a : es.toList.any (·.refKey) = false := by
     rw [List.any_eq_false]
     intro y hy
     obtain ⟨z, t, hkey⟩ := hk y (Array.mem_toList_iff.mp hy)
     simp [DictEntry.refKey, hkey]
   have a' : ¬ es.toList.any (·.refKey) = true := by rw [a]; exact Bool.false_ne_true
   rw [if_neg a']
   exact congrArg some e
theorem ObjM.look {h : Heap} {x dx C : Addr} {mA : Str → Option Value} (I : ObjM h x dx C mA) : ∃ od, PySem.W.InstAt h x (PySem.W.instObj C dx) C (some od) ∧ ∀ name, PySem.W.lookIn name od = some (mA name) :=
 let ⟨od, ho, hl⟩ := lookIn_ns I.ns
 ⟨od, ⟨I.obj, rfl, rfl, ho⟩, hl⟩
section
variable {prog : Program} {w : World} {A : Around} {E : Value → Shared → Prop} {s : Shared} {K : W.Frag} {x dx C f : Addr} {mA : Str → Option Value} {name : Str} {v : Value}
end
section
variable {P : Program} {w : World} {H H' : Hp} {h h' : Heap} {a C dx : Addr} {fs fs' : List (Str × V)}
theorem ins_get (hok : HOk P w H h) (e : H a = some (.ins C dx fs)) : ∃ mA, ObjM h a dx C mA ∧ (∀ f, RelO (fs.lookup f) (mA f)) ∧ PySem.Within mA (fs.map (·.1)) ∧ fs.length ≤ 1000 ∧ H dx = some (.own a) := by
 obtain ⟨d, z, ne, ob, mA, n, r, q⟩ := (show ObjOk P w H h a (.ins C dx fs) from hok a _ e)
 exact ⟨mA, ⟨ob, n, ne⟩, r, q, z, d⟩
end
structure Cls (K : W.Frag) (C : Addr) : Prop where
 pg : PySem.W.plainGet K C Str.empty = true
 hd : PySem.W.hasDictIn K C = true
 po : PySem.W.plainOver K C = true
 sa : PySem.W.findIn K (.ref C) "__setattr__" = some (some (.builtin "object.__setattr__"))
theorem Cls.get {K : W.Frag} {C : Addr} (c : Cls K C) (f : Str) : PySem.W.plainGet K C f = true := c.pg
section
variable {X : Cx} {pins : List (Addr × Obj)} {σ : St} {H : Hp} {s : Shared} {a C dx : Addr} {fs : List (Str × V)} {f : Str} {v : V} {A : Around} {E : Value → Shared → Prop}
end
section
variable {X : Cx} {o e value : Expr} {f : Str} {pos pos' tpos : Pos} {ta tv : TE}
end
section
variable {X : Cx} {pins : List (Addr × Obj)} {σ : St} {H : Hp} {s : Shared} {A : Around} {E : Value → Shared → Prop} {Q : Value → Shared → Prop} {c : Value} {b : Bool}
inductive TyOf (K : W.Frag) (H : Hp) : V → Value → Prop where
 | non : TyOf K H .non (.type "NoneType")
 | bl (x : Bool) : TyOf K H (.bl x) (.type "bool")
 | int (i : Int) : TyOf K H (.int i) (.type "int")
 | str (x : Str) : TyOf K H (.str x) (.type "str")
 | flt (x : UInt64) : TyOf K H (.flt x) (.type "float")
 | lst {a : Addr} {xs : List V} (e : H a = some (.lst xs)) : TyOf K H (.ref a) (.type "list")
 | frz {a : Addr} {o : Obj} {xs : List V} (e : H a = some (.frz o (.lst xs))) : TyOf K H (.ref a) (.type "list")
 | tup {a : Addr} {xs : List V} (e : H a = some (.tup xs)) : TyOf K H (.ref a) (.type "tuple")
 | dK {a : Addr} {kvs : List (Key × V)} (e : H a = some (.dK kvs)) : TyOf K H (.ref a) (.type "dict")
 | dT {a : Addr} {kvs : List (List Key × V)} (e : H a = some (.dT kvs)) : TyOf K H (.ref a) (.type "dict")
 | ins {a C dx : Addr} {fs : List (Str × V)} (e : H a = some (.ins C dx fs)) (cl : Cls K C) (ha : PySem.W.findIn K (.ref C) "__class__" = some (some (.builtin "object.__class__")))
     (hn : PySem.W.specialIn K (.builtin "object.__class__") "__get__" = some (some (.builtin "getset_descriptor.__get__"))) (htk : PySem.W.takesIn K (.builtin "object.__class__") = some true)
     (hm : PySem.W.mroIn K C (.type "object") = some true) : TyOf K H (.ref a) (.ref C)
theorem isinst_ok {x : V} {u t : Value} (I : Inv X pins σ H s) (rx : RelV x u) (ty : TyOf X.K H x t) (e : PySem.W.kitOne X.K t c = some b) (h : ∀ tk, Q (.bool b) { s with toks := tk }) :
   wpAny (model X.prog X.w) A (call (.builtin "isinstance") [u, c]) Q E s := by
 cases ty with
 | non => cases (show u = Value.none from rx); exact PySem.W.kia_one PySem.W.kitx_none I.kIn True.intro e (fun z => nomatch z) h
 | bl y => cases (show u = Value.bool y from rx); exact PySem.W.kia_one PySem.W.kitx_bool I.kIn True.intro e (fun z => nomatch z) h
 | int i => obtain ⟨t, q⟩ := (show ∃ t, u = Value.int i t from rx); cases q; exact PySem.W.kia_one PySem.W.kitx_int I.kIn True.intro e (fun z => nomatch z) h
 | str y => obtain ⟨t, q⟩ := (show ∃ t, u = Value.str y t from rx); cases q; exact PySem.W.kia_one PySem.W.kitx_str I.kIn True.intro e (fun z => nomatch z) h
 | flt y => obtain ⟨t, q⟩ := (show ∃ t, u = Value.float y t from rx); cases q; exact PySem.W.kia_one PySem.W.kitx_float I.kIn True.intro e (fun z => nomatch z) h
 | @lst a xs ea =>
   cases (show u = Value.ref a from rx)
   obtain ⟨_, _, n, _, h1⟩ := (show ObjOk X.prog X.w H s.heap a (.lst xs) from I.hok a _ ea)
   exact PySem.W.kia_one PySem.W.kitx_list I.kIn ⟨_, h1, rfl⟩ e (fun z => nomatch z) h
 | @frz a ob xs ea =>
   cases (show u = Value.ref a from rx)
   obtain ⟨_, _, _, n, _, h1⟩ := (show ObjOk X.prog X.w H s.heap a (.frz ob (.lst xs)) from I.hok a _ ea)
   exact PySem.W.kia_one PySem.W.kitx_list I.kIn ⟨_, h1, rfl⟩ e (fun z => nomatch z) h
 | @tup a xs ea =>
   cases (show u = Value.ref a from rx)
   obtain ⟨_, _, _, p⟩ := (show ObjOk X.prog X.w H s.heap a (.tup xs) from I.hok a _ ea)
   obtain ⟨o, h1, h2, _⟩ := p.isTup
   exact PySem.W.kia_one PySem.W.kitx_tuple I.kIn ⟨o, h1, h2⟩ e (fun z => nomatch z) h
 | @dK a kvs ea =>
   cases (show u = Value.ref a from rx)
   obtain ⟨_, _, vs, _, p⟩ := (show ObjOk X.prog X.w H s.heap a (.dK kvs) from I.hok a _ ea)
   obtain ⟨o, es, ep, h1, h2, _⟩ := p
   exact PySem.W.kia_one PySem.W.kitx_dict I.kIn ⟨o, h1, h2.1⟩ e (fun z => nomatch z) h
 | @dT a kvs ea =>
   cases (show u = Value.ref a from rx)
   obtain ⟨_, _, xs, _, o, es, ep, h1, h2, _⟩ := (show ObjOk X.prog X.w H s.heap a (.dT kvs) from I.hok a _ ea)
   exact PySem.W.kia_one PySem.W.kitx_dict I.kIn ⟨o, h1, h2.1⟩ e (fun z => nomatch z) h
 | @ins a C dx fs ea cl ha hn htk hm =>
   cases (show u = Value.ref a from rx)
   obtain ⟨mA, O, _⟩ := ins_get I.hok ea
   obtain ⟨od, J, _⟩ := O.look
   exact PySem.W.kia_one (PySem.W.kitx_own (cl.get _) cl.hd ha hn htk hm) I.kIn J e (fun z => nomatch z) h
end
end L2
namespace L2
open PySem PySem.Spec PyProof.Rows
structure Room (k : Nat) (A : Around) : Prop where
 hd : A.handled = none
 dp : A.depth + 3 * k + 5 < recursionLimit
 un : A.units + 16 * k + 200 < cLine
theorem Room.mono {j k : Nat} {A : Around} (r : Room k A) (h : j ≤ k) : Room j A := ⟨r.hd, by have := r.dp; omega, by have := r.un; omega⟩
theorem Room.deeper {k : Nat} {A : Around} (r : Room (k + 1) A) (env : Env) : Room k (A.deeper env) :=
 ⟨r.hd, by have := r.dp; show A.depth + 1 + 3 * k + 5 < _; omega, by have := r.un; show A.units + 3 + 16 * k + 200 < _; omega⟩
theorem Room.depth {k : Nat} {A : Around} (r : Room k A) : A.depth < recursionLimit := by have := r.dp; omega
theorem Room.units0 {k : Nat} {A : Around} (r : Room k A) : A.units < cLine := by have := r.un; omega
def tNil : TA := fun _ H Q => Q [] H
def tCons (ta : TE) (tr : TA) : TA := fun σ H Q => ta σ H fun x H1 => tr σ H1 fun xs H2 => Q (x :: xs) H2
section
variable {X : Cx} {e : Expr} {es : List Expr} {te : TE} {t : TA} {pos : Pos}
theorem yV : PA X [] tNil := fun _ _ _ _ H Q I h => Calls.spliced_nil ⟨[], H, I, .nil, h⟩
theorem kL (ha : PE X e te) (hr : PA X es t) (hs : starEach (e :: es) X.env = (false, eval e X.env) :: starEach es X.env := by rfl) : PA X (e :: es) (tCons te t) := by
 intro pos pins s σ H Q I h
 rw [hs]
 show wpAny _ _ (spliced ((false, eval e X.env) :: backTo pos (starEach es X.env))) _ _ s
 refine Calls.spliced_cons (thn (ha pins s σ H _ I h) fun u s1 ⟨x, H1, I1, r1, q1⟩ => ?_)
 exact thn (hr pos pins s1 σ H1 _ I1 q1) fun us s2 ⟨xs, H2, I2, r2, q2⟩ => ⟨x :: xs, H2, I2, .cons r1 r2, q2⟩
def tTup (t : TA) : TE := fun σ H Q => t σ H fun xs H1 => xs.length ≤ sizeLine ∧ ∀ p, H1 p = none → Q (.ref p) (upd H1 p (.tup xs))
def tLst (t : TA) : TE := fun σ H Q => t σ H fun xs H1 => xs.length ≤ sizeLine ∧ ∀ p, H1 p = none → Q (.ref p) (upd H1 p (.lst xs))
theorem pe_tup {x1} (h : PA X es t) : PE X (.Tuple es x1 pos) (tTup t) := by
 intro pins s σ H Q I hq
 refine wpAny_Tuple_spliced (thn (h pos pins s σ H _ I hq) fun us s1 ⟨xs, H1, I1, r, z, q⟩ => ⟨by rw [← r.length]; exact z, ?_⟩)
 have hf : H1 s1.heap.objs.size = none := I1.hok.fresh (Nat.le_refl _)
 refine ⟨.ref s1.heap.objs.size, upd H1 s1.heap.objs.size (.tup xs), I1.laid (t' := s1.toks) (fun b u e => Heap.get?_push_of_some _ e) (Nat.le_refl _) ?_, rfl, q _ hf⟩
 exact ⟨z, us, r, TupO.new _ _⟩
theorem pe_lst (h : PA X es t) : PE X (.List es pos) (tLst t) := by
 intro pins s σ H Q I hq
 refine wpAny_List_spliced (thn (h pos pins s σ H _ I hq) fun us s1 ⟨xs, H1, I1, r, z, q⟩ => ⟨by rw [← r.length]; exact z, ?_⟩)
 have hf : H1 s1.heap.objs.size = none := I1.hok.fresh (Nat.le_refl _)
 refine ⟨.ref s1.heap.objs.size, upd H1 s1.heap.objs.size (.lst xs), I1.laid (t' := s1.toks) (fun b u e => Heap.get?_push_of_some _ e) (Nat.le_refl _) ?_, rfl, q _ hf⟩
 exact ⟨z, us, 0, r, Heap.get?_push_size _ rfl⟩
end
abbrev Sp := List V → Hp → VK → XK → Prop
abbrev CXT := List Env → Hp → Shared → XK → Value → Shared → Prop
structure Env0 (P : Program) (w : World) (K : W.Frag) (mg : Str → Option Value) (base : Heap) (A : Around) (outer : List Env) (s : Shared) (H : Hp) : Prop where
 frames : A.frames = some outer
 mod : Mod K mg base
 bs : ∀ b o, base.get? b = some o → s.heap.get? b = some o ∧ H b = none
 bsz : base.objs.size ≤ s.heap.objs.size
 funs : s.heap.FunFrames base outer
 frf : ∀ b ∈ frs outer, H b = none
 hok : HOk P w H s.heap
 bare : AllBare s.gens
def CE (outer : List Env) (P : Program) (w : World) (H : Hp) (s : Shared) (Q : VK) (u : Value) (s' : Shared) : Prop :=
 ∃ v H', s'.os = s.os ∧ AllBare s'.gens ∧ Un (frs outer) [] H H' s.heap s'.heap ∧ HOk P w H' s'.heap ∧ RelV v u ∧ Q v H'
def CR (CX : CXT) (outer : List Env) (P : Program) (w : World) (H : Hp) (s : Shared) (Q : VK) (E : XK) (r : Result) (s' : Shared) : Prop :=
 match r with
 | .ok (.ret u) => CE outer P w H s Q u s'
 | .ok _ => False
 | .error e => CX outer H s E e s'
structure FnOk (P : Program) (w : World) (K : W.Frag) (mg : Str → Option Value) (base : Heap) (CX : CXT) (k : Nat) (f : Addr) (fd : FuncData) (ps : List Str) (sp : Sp) : Prop where
 len : ∀ vs H Q E, sp vs H Q E → vs.length = ps.length
 run : ∀ (A : Around) (outer : List Env) (s : Shared) (H : Hp) (args : Args) (us : List Value) (vs : List V) (Q : VK) (E : XK), Room k A → Env0 P w K mg base A outer s H → BindsTo s fd args (ps.zip us) → Vals vs us → sp vs H Q E →
   codeAny (model P w) A (.call (.ref f) args) (CR CX outer P w H s Q E) s
section
variable {X : Cx} {pins : List (Addr × Obj)} {σ : St} {H : Hp} {s s' : Shared}
theorem Inv.env0 (I : Inv X pins σ H s) : Env0 X.prog X.w X.K X.mg X.base X.A X.stack s H :=
 ⟨I.ok.frames, I.ok.mod, I.bs, Nat.le_trans I.ok.bsz I.sz, I.stack, I.stkFree, I.hok, I.bare⟩
theorem Inv.after {Q : VK} {u : Value} (I : Inv X pins σ H s) (h : CE X.stack X.prog X.w H s Q u s') : EP X pins σ Q u s' := by
 obtain ⟨v, H', os, bare, un, hok, r, q⟩ := h
 obtain ⟨hh, g, d, t, os'⟩ := s'
 obtain rfl : os' = s.os := os
 exact ⟨v, H', I.call (h' := hh) (g' := g) (d' := d) (t' := t) (ch := []) un hok bare (fun b z => absurd z (by simp)), r, q⟩
end
def tCall (sp : Sp) (dvs : List V) (E : XK) (t : TA) : TE := fun σ H Q => t σ H fun vs H1 => sp (vs ++ dvs) H1 Q E
def Binds (K : W.Frag) (fd : FuncData) (ps : List Str) (ds : List Value) : Prop :=
 ∀ (s : Shared) (us : List Value), K.In s.heap → (us ++ ds).length = ps.length → BindsTo s fd ⟨us, []⟩ (ps.zip (us ++ ds))
theorem Binds.all {K : W.Frag} {fd : FuncData} {ps : List Str} (h : ∀ us : List Value, us.length = ps.length → bindArgs fd ⟨us, []⟩ = pure (ps.zip us)) : Binds K fd ps [] := fun s us _ hl => by
 rw [List.append_nil] at hl ⊢
 exact .of_eq (h us hl)
def Passes (CX : CXT) (X : Cx) (E : XK) : Prop := ∀ (pins : List (Addr × Obj)) (σ : St) (H : Hp) (s : Shared) (e : Value) (s' : Shared), Inv X pins σ H s → CX X.stack H s E e s' → X.xe e s'
section
variable {X : Cx} {CX : CXT} {k : Nat} {f C : Addr} {fd : FuncData} {ps : List Str} {sp : Sp} {dvs : List V} {ds : List Value} {E : XK} {x m : Str} {p pos apos : Pos} {e o : Expr} {es : List Expr} {ta : TE} {t : TA}
theorem run_fn {pins : List (Addr × Obj)} {σ : St} {H : Hp} {s : Shared} {Q : VK} {us : List Value} {vs : List V} (F : FnOk X.prog X.w X.K X.mg X.base CX k f fd ps sp) (hr : Room k X.A) (hb : Binds X.K fd ps ds) (hd : Vals dvs ds) (hx : Passes CX X E)
   (I : Inv X pins σ H s) (r : Vals vs us) (h : sp (vs ++ dvs) H Q E) : wpAny (model X.prog X.w) X.A (call (.ref f) us) (EP X pins σ Q) X.xe s := by
 have r2 : Vals (vs ++ dvs) (us ++ ds) := r.append hd
 have hl : (us ++ ds).length = ps.length := by rw [← r2.length]; exact F.len _ _ _ _ h
 refine wpAny_call (codeAny_mono (F.run X.A X.stack s H ⟨us, []⟩ (us ++ ds) (vs ++ dvs) Q E hr I.env0 (hb s us I.kIn hl) r2 h) fun r s' hq => ?_)
 cases r with
 | error e => exact hx pins σ H s e s' I hq
 | ok fl =>
   cases fl with
   | ret u => exact I.after hq
   | next => exact False.elim hq
   | brk => exact False.elim hq
   | cont => exact False.elim hq
theorem pe_call (F : FnOk X.prog X.w X.K X.mg X.base CX k f fd ps sp) (hr : Room k X.A) (hg : Gl X x) (hm : X.mg x = some (.ref f)) (hk : PySem.W.keepIn X.K (.ref f) = true) (hb : Binds X.K fd ps ds) (hd : Vals dvs ds) (hx : Passes CX X E)
   (ha : PA X (e :: es) t) (hdb : (x == ("__debug__" : Str)) = false := by decide) (he : starEach (e :: es) X.env = (false, eval e X.env) :: starEach es X.env := by rfl) (hpl : (backTo pos (starEach es X.env)).any (·.1) = false := by rfl) :
   PE X (.Call (.Name x p) (e :: es) [] pos) (tCall sp dvs E t) := by
 intro pins s σ H Q I h
 refine wpAny_Call_Name_kw (ld_glob I hg hm ?_ hdb)
 refine PySem.W.callWith_K (h₀ := X.base) I.ok.mod.kin hk (thn (ha pos pins s σ H _ I h) fun us s1 ⟨vs, H1, I1, r, q⟩ => ⟨I1.kIn, ?_⟩) he hpl
 exact run_fn F hr hb hd hx I1 r q
end
section
variable {X : Cx} {CX : CXT} {k : Nat} {f C : Addr} {fd : FuncData} {ps ks : List Str} {sp : Sp} {E : XK} {x m : Str} {p pos apos kpos : Pos} {e o : Expr} {es : List Expr} {kws : List Keyword} {te ta : TE} {t tk : TA} {nm : Option Str}
variable {g : List Value → List Value → List Value} {gV : List V → List V → List V}
end
structure FnScope (N P : List Str) (sc : Scope) : Prop where
 kind : sc.kind = .function
 co : sc.isCoroutine = false
 gen : sc.isGenerator = false
 nd : N.Nodup
 pre : N.take P.length = P
 par : ∀ x ∈ P, sc.names.lookup x = some .local ∨ sc.names.lookup x = some .cell
 nofree : ∀ y ∈ sc.names, y.2 ≠ .free
theorem bindL_out {kindOf : Str → Option NameKind} {x : Str} : ∀ {binds : List (Str × Value)} {m : Str → Option Value}, (∀ v, (x, v) ∉ binds) → bindL kindOf binds m x = m x
 | [], _, _ => rfl
 | (n, v) :: r, m, h => by
   unfold bindL
   rw [bindL_out fun w hw => h w (List.mem_cons_of_mem _ hw)]
   split
   · have : x ≠ n := by rintro rfl; exact h v List.mem_cons_self
     simp [this]
   · rfl
theorem bindC_out {kindOf : Str → Option NameKind} {x : Str} : ∀ {binds : List (Str × Value)} {m : Str → Option Value}, (∀ v, (x, v) ∉ binds) → bindC kindOf binds m x = m x
 | [], _, _ => rfl
 | (n, v) :: r, m, h => by
   unfold bindC
   rw [bindC_out fun w hw => h w (List.mem_cons_of_mem _ hw)]
   split
   · rfl
   · have : x ≠ n := by rintro rfl; exact h v List.mem_cons_self
     simp [this]
theorem bindL_get {kindOf : Str → Option NameKind} {x : Str} {v : Value} : ∀ {P : List Str} {vs : List Value} {i : Nat} {m : Str → Option Value}, P.Nodup → P[i]? = some x → vs[i]? = some v → kindOf x = some .local →
   bindL kindOf (P.zip vs) m x = some v
 | [], _, _, _, _, h, _, _ => by simp at h
 | _ :: _, [], _, _, _, _, h, _ => by simp at h
 | p :: P, w :: vs, 0, m, nd, h1, h2, hk => by
   simp at h1 h2; subst h1; subst h2
   show bindL kindOf ((p, w) :: P.zip vs) m p = _
   unfold bindL
   rw [bindL_out fun v hv => (List.nodup_cons.mp nd).1 (List.of_mem_zip hv).1, if_pos hk]
   simp
 | p :: P, w :: vs, i + 1, m, nd, h1, h2, hk => by
   show bindL kindOf ((p, w) :: P.zip vs) m x = _
   unfold bindL
   exact bindL_get (i := i) (List.nodup_cons.mp nd).2 (by simpa using h1) (by simpa using h2) hk
theorem bindC_get {kindOf : Str → Option NameKind} {x : Str} {v : Value} : ∀ {P : List Str} {vs : List Value} {i : Nat} {m : Str → Option Value}, P.Nodup → P[i]? = some x → vs[i]? = some v → kindOf x ≠ some .local →
   bindC kindOf (P.zip vs) m x = some v
 | [], _, _, _, _, h, _, _ => by simp at h
 | _ :: _, [], _, _, _, _, h, _ => by simp at h
 | p :: P, w :: vs, 0, m, nd, h1, h2, hk => by
   simp at h1 h2; subst h1; subst h2
   show bindC kindOf ((p, w) :: P.zip vs) m p = _
   unfold bindC
   rw [bindC_out fun v hv => (List.nodup_cons.mp nd).1 (List.of_mem_zip hv).1, if_neg hk]
   simp
 | p :: P, w :: vs, i + 1, m, nd, h1, h2, hk => by
   show bindC kindOf ((p, w) :: P.zip vs) m x = _
   unfold bindC
   exact bindC_get (i := i) (List.nodup_cons.mp nd).2 (by simpa using h1) (by simpa using h2) hk
def qR (N : List Str) (vs : List V) : St := vs.map some ++ List.replicate (N.length - vs.length) none
def cxOf (CX : CXT) (P : Program) (w : World) (K : W.Frag) (mg : Str → Option Value) (base : Heap) (N : List Str) (qual : Str) (scope : Scope) (f : Addr) (cd : Value) (A : Around) (outer : List Env) (s : Shared) (H : Hp) (E : XK) : Cx where
 prog := P
 w := w
 K := K
 mg := mg
 base := base
 A := A.deeper (envOfC qual scope s.heap.objs.size f cd)
 N := N
 s₀ := s
 H₀ := H
 env := envOfC qual scope s.heap.objs.size f cd
 outer := outer
 stack := envOfC qual scope s.heap.objs.size f cd :: outer
 ex := []
 calm := true
 fn := fun _ => true
 pn := []
 xe := fun e s' => wpAny (model P w) (A.deeper (envOfC qual scope s.heap.objs.size f cd)) (leaving (envOfC qual scope s.heap.objs.size f cd) e) (fun _ s'' => CX outer H s E e s'') (fun e' s'' => CX outer H s E e' s'') s'
theorem cell_has {sc : Scope} {n : Nat} {x : Str} (h : sc.names.lookup x = some .cell) : ∃ c, (cellsFrom n sc.names []).lookup x = some c := by
 have q := PySem.W.cellsFrom_some sc.names n [] (.inl h)
 exact Option.isSome_iff_exists.mp q
theorem inv_start {CX : CXT} {P : Program} {w : World} {K : W.Frag} {mg : Str → Option Value} {base : Heap} {N ps : List Str} {qual : Str} {scope : Scope} {f : Addr} {cd : Value} {A : Around} {outer : List Env} {s s1 : Shared} {H : Hp} {E : XK} {us : List Value} {vs : List V}
   (S : FnScope N ps scope) (hd : A.handled = none) (e0 : Env0 P w K mg base A outer s H) (hl : vs.length = ps.length) (r : Vals vs us)
   (x : InCallC s s.heap.objs.size (bindL (envOfC qual scope s.heap.objs.size f cd).kindOf (ps.zip us) fun _ => none) (cellsFrom (s.heap.objs.size + 1) scope.names []) (bindC (envOfC qual scope s.heap.objs.size f cd).kindOf (ps.zip us) fun _ => none) s1) :
   Inv (cxOf CX P w K mg base N qual scope f cd A outer s H E) [] (qR N vs) H s1 := by
 have hpl : ps.length ≤ N.length := by have := congrArg List.length S.pre; rw [List.length_take] at this; omega
 obtain ⟨h1, tk, rfl, hk⟩ := x.done
 have noA : ∀ b : Addr, b ∉ (cxOf CX P w K mg base N qual scope f cd A outer s H E).ex := fun b z => absurd (show b ∈ ([] : List Addr) from z) (by simp)
 refine ⟨⟨e0.mod, S.kind, rfl, rfl, Nat.le_refl _, fun y z c h1 h2 => ?_, fun y hy => ?_, fun y c _ h => ?_, fun _ => hd, Around.frames_deeper e0.frames, .inr ⟨rfl, rfl⟩, fun b z => absurd z (noA b), e0.bs, e0.bsz, fun b _ _ => noA b, fun b z => absurd z (noA b), e0.funs, e0.frf⟩,
   rfl, e0.bare, Un.kept hk, ⟨_, x.toInCall.ns, fun i y v h1 h2 h3 => ?_⟩, fun y c h => ⟨_, x.cell y c h⟩, e0.hok.fresh (Nat.le_refl _), fun y c h => ?_, fun p hp => absurd (show p ∈ ([] : List (Addr × Obj)) from hp) (by simp), e0.hok.kept hk, ?_⟩
 · exact name_of_addr x.apart (PySem.mem_of_lookup h1) (PySem.mem_of_lookup h2)
 · have hy : scope.names.lookup y = some .cell ∨ scope.names.lookup y = some .free := hy
   rcases hy with hy | hy
   · exact cell_has hy
   · exact absurd rfl (S.nofree _ (PySem.mem_of_lookup hy))
 · exact Nat.le_of_lt (x.above y c (PySem.mem_of_lookup h))
 · have hi : i < vs.length := by
     unfold qR at h2
     by_cases hi : i < vs.length
     · exact hi
     · rw [List.getElem?_append_right (by simpa using hi)] at h2
       rw [List.getElem?_replicate] at h2
       split at h2 <;> cases h2
   have ha : vs[i]? = some v := by
     unfold qR at h2
     rw [List.getElem?_append_left (by simpa using hi), List.getElem?_map] at h2
     cases e : vs[i]? with
     | none => rw [e] at h2; cases h2
     | some a => rw [e] at h2; cases h2; rfl
   obtain ⟨u, hu, rv⟩ := r.get ha
   have hp : ps[i]? = some y := by
     rw [← S.pre, List.getElem?_take_of_lt (by omega)]; exact h1
   have ndP : ps.Nodup := by rw [← S.pre]; exact S.nd.sublist (List.take_sublist _ _)
   refine ⟨u, rv, ?_⟩
   rcases S.par y (List.mem_of_getElem? hp) with k | k
   · exact .inl ⟨k, bindL_get ndP hp hu k⟩
   · obtain ⟨c, e⟩ := cell_has (n := s.heap.objs.size + 1) k
     refine .inr ⟨.inl k, c, e, ?_⟩
     have q := x.cell y c e
     rw [bindC_get ndP hp hu (by show scope.names.lookup y ≠ _; rw [k]; decide)] at q
     exact q
 · exact e0.hok.fresh (Nat.le_of_lt (x.above y c (PySem.mem_of_lookup h)))
 · unfold qR
   show _ = N.length
   rw [List.length_append, List.length_map, List.length_replicate]
   omega
theorem fn_of {CX : CXT} {P : Program} {w : World} {K : W.Frag} {mg : Str → Option Value} {base : Heap} {k : Nat} {f : Addr} {name qual : Str} {params : Arguments} {body : List Stmt} {scope : Scope} {dV kV doc pm cdv ct oc : Value} {an od : Option Addr}
   {osl : Array (Option Value)} {N ps : List Str} {sp : Sp} (lk : K.lookup f = some ⟨oc, od, .func (PySem.W.fnOf name qual params body scope dV kV doc pm an cdv ct), osl⟩) (hcd : PySem.W.codeIn K cdv qual = true) (S : FnScope N ps scope)
   (len : ∀ vs H Q E, sp vs H Q E → vs.length = ps.length)
   (hbody : ∀ (A : Around) (outer : List Env) (s : Shared) (H : Hp) (vs : List V) (Q : VK) (E : XK), Room k (A.deeper (envOfC qual scope s.heap.objs.size f cdv)) → sp vs H Q E →
     ∃ t, PSs (cxOf CX P w K mg base N qual scope f cdv A outer s H E) body t ∧ t { nx := fun _ H' => Q .non H', rt := Q } (qR N vs) H) :
   FnOk P w K mg base CX (k + 1) f (PySem.W.fnOf name qual params body scope dV kV doc pm an cdv ct) ps sp := by
 refine ⟨len, fun A outer s H args us vs Q E hr e0 hb r hsp => ?_⟩
 have hl := len _ _ _ _ hsp
 have KX : K.In s.heap := e0.mod.kin.keeps fun b o e => (e0.bs b o e).1
 have lim : s.heap.NoLimit := e0.mod.nolimit.keeps fun b o e => (e0.bs b o e).1
 have hkind : ∀ y ∈ ps.zip us, scope.names.lookup y.1 = some .local ∨ (scope.names.lookup y.1 = some .cell ∧ ((cellsFrom (s.heap.objs.size + 1) scope.names []).lookup y.1).isSome = true) := fun ⟨n, v⟩ hy => by
   rcases S.par n (List.of_mem_zip hy).1 with q | q
   · exact .inl q
   · exact .inr ⟨q, PySem.W.cellsFrom_some _ _ _ (.inl q)⟩
 refine codeAny_call_function hr.depth (KX _ _ lk) rfl S.co S.gen rfl (PySem.W.codeRec_of KX hcd) (hb _ _ _ _ ?_)
 refine wpAny_newFunctionEnv_cells S.kind hkind fun env he s1 x => ?_
 subst he
 refine ⟨lim.keeps x.toInCall.keep, codeAny_func ?_⟩
 obtain ⟨t, ht, hq⟩ := hbody A outer s H vs Q E (hr.deeper _) hsp
 have I : Inv (cxOf CX P w K mg base N qual scope f cdv A outer s H E) [] (qR N vs) H s1 := inv_start S hr.hd e0 hl r x
 refine wpAny_mono (ht [] s1 (qR N vs) H _ I hq) (fun fl s' hs => ?_) fun e s' hs => hs
 have fin : ∀ {σ' : St} {H' : Hp} {v : V} {u : Value}, Inv (cxOf CX P w K mg base N qual scope f cdv A outer s H E) [] σ' H' s' → RelV v u → Q v H' → CE outer P w H s Q u s' :=
   fun {σ' H' v u} J rv q => ⟨v, H', J.os, J.bare, J.base, J.hok, rv, q⟩
 cases fl with
 | ret u =>
   obtain ⟨v, σ', H', J, rv, q⟩ := hs
   exact fin J rv q
 | next =>
   obtain ⟨σ', H', J, q⟩ := hs
   exact fin (v := V.non) (u := Value.none) J rfl q
 | brk =>
   obtain ⟨_, _, _, q⟩ := hs
   exact False.elim q
 | cont =>
   obtain ⟨_, _, _, q⟩ := hs
   exact False.elim q
end L2
namespace L2
open PySem PySem.Spec PyProof.Rows
section
variable {X : Cx} {x : Str} {p pos : Pos} {e : Expr} {es : List Expr} {t : TA} {id T : String} {r : List V → Hp → VK → Prop}
def tCB (r : List V → Hp → VK → Prop) (t : TA) : TE := fun σ H Q => t σ H fun vs H1 => r vs H1 Q
theorem pe_callB (hc : qF X (.builtin id) r) (hg : Gl X x) (hm : X.mg x = none) (hv : bootBuiltins x = some (.builtin id)) (ha : PA X (e :: es) t) (hn : x ≠ "__name__" := by decide) (hdb : (x == ("__debug__" : Str)) = false := by decide)
   (he : starEach (e :: es) X.env = (false, eval e X.env) :: starEach es X.env := by rfl) (hpl : (backTo pos (starEach es X.env)).any (·.1) = false := by rfl) : PE X (.Call (.Name x p) (e :: es) [] pos) (tCB r t) := by
 intro pins s σ H Q I h
 refine wpAny_Call_Name_kw (ld_blt I hg hm hv ?_ hn hdb)
 exact PyProof.Rows.callWith_builtin1 (thn (ha pos pins s σ H _ I h) fun us s1 ⟨vs, H1, I1, r1, q1⟩ => hc pins s1 σ H1 vs us Q I1 r1 q1) he hpl
theorem pe_callTy (hc : qF X (.type T) r) (hg : Gl X x) (hm : X.mg x = none) (hv : bootBuiltins x = some (.type T)) (ha : PA X (e :: es) t) (hn : x ≠ "__name__" := by decide) (hdb : (x == ("__debug__" : Str)) = false := by decide)
   (he : starEach (e :: es) X.env = (false, eval e X.env) :: starEach es X.env := by rfl) (hpl : (backTo pos (starEach es X.env)).any (·.1) = false := by rfl) : PE X (.Call (.Name x p) (e :: es) [] pos) (tCB r t) := by
 intro pins s σ H Q I h
 refine wpAny_Call_Name_kw (ld_blt I hg hm hv ?_ hn hdb)
 exact PyProof.Rows.callWith_type1 (thn (ha pos pins s σ H _ I h) fun us s1 ⟨vs, H1, I1, r1, q1⟩ => hc pins s1 σ H1 vs us Q I1 r1 q1) he hpl
end
end L2
namespace HT
open PySem PyProof.Rows
section
open PySem.SeqAt
open PySem.AutoSeq1 (wpAny_loadPart')
open PySem.MeetsSeq PySem.MeetsSeq2 PySem.MeetsSeq3
end
section
variable {prog : Program} {w : World} {A : Around} {E : Value → Shared → Prop} {s : Shared}
theorem cat_tup {t b : Addr} {vs ws : List Value} {Q : Value → Shared → Prop} (ht : IsTup s.heap t vs.toArray) (hb : IsTup s.heap b ws.toArray) (hv : vs ≠ [])
   (h1 : ws = [] → Q (.ref t) s) (h2 : ws ≠ [] → Q (.ref s.heap.objs.size) { s with heap := s.heap.push { cls := .type "tuple", data := .seq (vs ++ ws).toArray } })
   (hsz : vs.length + ws.length ≤ sizeLine) : wpAny (model prog w) A (binaryOp .Add (.ref t) (.ref b)) Q E s := by
 obtain ⟨⟨cls, dd, data, sl⟩, ho, hc, n, hd⟩ := id ht
 obtain ⟨⟨cls2, dd2, data2, sl2⟩, ho2, hc2, n2, hd2⟩ := id hb
 simp only at hc hd hc2 hd2
 subst hc hd hc2 hd2
 have e : vs.toArray ++ ws.toArray = (vs ++ ws).toArray := by simp
 by_cases hw : ws = []
 · exact concat_meets ⟨_, ho, rfl⟩ ⟨_, ho2, rfl⟩ noFill_tuple_add seq_tuple_add PySem.F.slot_tuple_add PySem.F.entry_tuple_add (PySem.F.args_tuple_add_2 _ _)
     (tuple_addW1 t b vs.toArray ws.toArray n n2 dd dd2 sl sl2 (by simpa using hv) (by simp [hw])) ⟨ho, ho2, h1 hw⟩
 · refine concat_meets ⟨_, ho, rfl⟩ ⟨_, ho2, rfl⟩ noFill_tuple_add seq_tuple_add PySem.F.slot_tuple_add PySem.F.entry_tuple_add (PySem.F.args_tuple_add_2 _ _)
     (tuple_addW2 t b vs.toArray ws.toArray n n2 dd dd2 sl sl2 (by simpa using hv) (by simpa using hw) (by rw [List.size_toArray, List.size_toArray]; exact hsz)) ⟨ho, ho2, ?_⟩
   rw [e]
   exact h2 hw
def sIx (n d : Nat) : Option Int → Nat
 | none => d
 | some v => if v < 0 then (v + (n : Int)).toNat else min v.toNat n
theorem sIx_le (n d : Nat) (hd : d ≤ n) (o : Option Int) : sIx n d o ≤ n := by
 cases o with
 | none => exact hd
 | some v =>
   show (if v < 0 then (v + (n : Int)).toNat else min v.toNat n) ≤ n
   by_cases hv : v < 0
   · rw [if_pos hv]; omega
   · rw [if_neg hv]; exact Nat.min_le_right _ _
theorem clip_eq (v : Int) (n d : Nat) : (if v < 0 then max (v + (n : Int)) 0 else min v (n : Int)) = ((sIx n d (some v) : Nat) : Int) := by
 show (if v < 0 then max (v + (n : Int)) 0 else min v (n : Int)) = (((if v < 0 then (v + (n : Int)).toNat else min v.toNat n) : Nat) : Int)
 by_cases hv : v < 0
 · simp only [if_pos hv]; omega
 · simp only [if_neg hv]; omega
theorem adjust_gen (lo hi : Option Int) (n : Nat) : Builtin.Slice.sliceAdjust lo hi 1 (n : Int) = (((sIx n 0 lo : Nat) : Int), ((sIx n n hi : Nat) : Int)) := by
 have h1 : ¬ ((1 : Int) < 0) := by omega
 unfold Builtin.Slice.sliceAdjust
 simp only [h1, if_false]
 refine Prod.ext ?_ ?_
 · cases lo with
   | none => rfl
   | some v => exact clip_eq v n 0
 · cases hi with
   | none => rfl
   | some v => exact clip_eq v n n
theorem places_gen (i j : Nat) : Builtin.Slice.slicePlaces (i : Int) (j : Int) 1 = j - i := by
 unfold Builtin.Slice.slicePlaces
 have h1 : (1 : Int) > 0 := by omega
 simp only [h1, if_true, Int.ediv_one]
 split <;> omega
theorem slicePart_ {v : Value} {o : Option Int} {Q : Option Int → Shared → Prop} (p : IsPart v o) (h : Q o s) : wpAny (model prog w) A (Builtin.Slice.slicePartIndex v) Q E s := by
 cases p with
 | none => exact slicePart_none h
 | int i t => exact slicePart_int h
theorem sliceApplied_gen {sl : Addr} {vl vu : Value} {lo hi : Option Int} {n : Nat} {Q : Int × Int × Nat → Shared → Prop} (hs : s.heap.IsSliceOf sl vl vu .none) (pl : IsPart vl lo) (pu : IsPart vu hi)
   (h : Q (((sIx n 0 lo : Nat) : Int), 1, sIx n n hi - sIx n 0 lo) s) : wpAny (model prog w) A (Builtin.Slice.sliceApplied (.ref sl) (pure (n : Int))) Q E s := by
 obtain ⟨os, hos, hcs, hds⟩ := id hs
 unfold Builtin.Slice.sliceApplied Builtin.Slice.sliceFields
 refine wpAny_bind (wpAny_bind (wpAny_field hos hds (x := vl) rfl (wpAny_bind (wpAny_field hos hds (x := vu) rfl (wpAny_bind (wpAny_field hos hds (x := .none) rfl (wpAny_pure ?_)))))))
 refine wpAny_bind (slicePart_none ?_)
 show wpAny _ _ (if ((1 : Int) == 0) = true then _ else _) _ _ s
 rw [if_neg (by decide)]
 refine wpAny_bind (slicePart_ pl (wpAny_bind (slicePart_ pu (wpAny_bind (wpAny_pure ?_)))))
 show wpAny _ _ (match Builtin.Slice.sliceAdjust lo hi 1 (n : Int) with | (lo, hi) => pure (lo, (1 : Int), Builtin.Slice.slicePlaces lo hi 1)) _ _ s
 rw [adjust_gen lo hi n]
 show wpAny _ _ (pure (((sIx n 0 lo : Nat) : Int), (1 : Int), Builtin.Slice.slicePlaces ((sIx n 0 lo : Nat) : Int) ((sIx n n hi : Nat) : Int) 1)) _ _ s
 rw [places_gen]
 exact wpAny_pure h
theorem pick_gen (xs : Array Value) (i k : Nat) : ((List.range k).filterMap fun (m : Nat) => xs[((i : Int) + (m : Int) * 1).toNat]?).toArray = ((xs.toList.drop i).take k).toArray := by
 have e : (fun (m : Nat) => xs[((i : Int) + (m : Int) * 1).toNat]?) = fun m => xs[i + m]? := by
   funext m
   have : ((i : Int) + (m : Int) * 1).toNat = i + m := by omega
   rw [this]
 rw [e]
 have := pick_run xs i k
 rw [List.filterMap_map] at this
 have e2 : ((fun x => xs[x]?) ∘ fun x => i + x) = fun m => xs[i + m]? := rfl
 rw [e2] at this
 rw [this]
theorem getItem_tuple_cut {t sl : Addr} {items : Array Value} {vl vu : Value} {lo hi : Option Int} {Q : Value → Shared → Prop} (ht : IsTup s.heap t items) (hs : s.heap.IsSliceOf sl vl vu .none) (pl : IsPart vl lo) (pu : IsPart vu hi)
   (hw : ¬ (sIx items.size 0 lo = 0 ∧ sIx items.size items.size hi = items.size))
   (h : Q (.ref s.heap.objs.size) { s with heap := s.heap.push { cls := .type "tuple", data := .seq ((items.toList.drop (sIx items.size 0 lo)).take (sIx items.size items.size hi - sIx items.size 0 lo)).toArray } })
   (hsz : items.size ≤ sizeLine) : wpAny (model prog w) A (getItem (.ref t) (.ref sl)) Q E s := by
 have htake : sizeOk (.seq ((items.toList.drop (sIx items.size 0 lo)).take (sIx items.size items.size hi - sIx items.size 0 lo)).toArray) := by
   show ((items.toList.drop (sIx items.size 0 lo)).take (sIx items.size items.size hi - sIx items.size 0 lo)).toArray.size ≤ sizeLine
   rw [List.size_toArray, List.length_take, List.length_drop, Array.length_toList]
   omega
 have hj : sIx items.size items.size hi ≤ items.size := sIx_le _ _ (Nat.le_refl _) hi
 obtain ⟨os, hos, hcs, hds⟩ := id hs
 have hTs : s.TypeIs (.ref sl) "slice" := ⟨os, hos, hcs⟩
 unfold getItem
 try with_reducible refine wpAny_holding ?_
 first | refine wpAny_bind (wpAny_pure ?_) | skip
 refine wpAny_bind (wpAny_sequenceKey ht.typeIs (by decide) ?_)
 refine wpAny_bind (wpAny_callSpecial?_slot (name := Str.ofString "__getitem__") ht.typeIs PyProof.Rows.slot_tuple_getitem
   (wpAny_call_entry PyProof.Rows.slot_tuple_getitem ht.typeIs entry_tuple_getitem ?_ (args_tuple_getitem _ _)))
 show wpAny _ _ (Builtin.Tuple.tupleItemsOf (.ref t) >>= _) _ _ s
 refine wpAny_bind (tupleItemsOf_ ht ?_)
 refine wpAny_bind (wpAny_typeOf hTs ?_)
 rw [if_pos (by decide)]
 refine wpAny_bind (sliceApplied_gen hs pl pu ?_)
 have hno : ¬ ((((sIx items.size 0 lo : Nat) : Int) == 0 && (1 : Int) == 1 && (sIx items.size items.size hi - sIx items.size 0 lo) == items.size) = true) := by
   intro q
   rw [Bool.and_eq_true, Bool.and_eq_true] at q
   have q1 : ((sIx items.size 0 lo : Nat) : Int) = 0 := eq_of_beq q.1.1
   have q2 : sIx items.size items.size hi - sIx items.size 0 lo = items.size := eq_of_beq q.2
   exact hw ⟨by omega, by omega⟩
 show wpAny _ _ (if (((sIx items.size 0 lo : Nat) : Int) == 0 && (1 : Int) == 1 && (sIx items.size items.size hi - sIx items.size 0 lo) == items.size) = true then _ else _) _ _ s
 rw [if_neg hno, pick_gen]
 first
   | exact wpAny_bind (m := Builtin.Tuple.tupleExact _) (wpAny_newObj_type (wpAny_pure ⟨_, rfl, wpAny_pure h⟩) htake)
   | exact wpAny_bind (m := Builtin.Tuple.tupleExact _) (wpAny_newObj_type (wpAny_bind (wpAny_pure (wpAny_pure ⟨_, rfl, wpAny_pure h⟩))) htake)
   | exact wpAny_bind (wpAny_bind (m := Builtin.Tuple.tupleExact _) (wpAny_newObj_type (wpAny_pure (wpAny_pure ⟨_, rfl, wpAny_pure h⟩)) htake))
   | exact wpAny_bind (wpAny_bind (m := Builtin.Tuple.tupleExact _) (wpAny_newObj_type (wpAny_pure ⟨_, rfl, wpAny_pure h⟩) htake))
end
end HT
namespace L2
open PySem PySem.Spec PyProof.Rows
abbrev TO := St → Hp → (Option Int → Hp → Prop) → Prop
def PO (X : Cx) (e : Option Expr) (t : TO) : Prop :=
 ∀ (pins : List (Addr × Obj)) (s : Shared) (σ : St) (H : Hp) (Q : Option Int → Hp → Prop), Inv X pins σ H s → t σ H Q →
   wpAny (model X.prog X.w) X.A (evalPart e X.env) (fun u s' => ∃ o H', Inv X pins σ H' s' ∧ IsPart u o ∧ Q o H') X.xe s
def tNoPart : TO := fun _ H Q => Q none H
def tPart (t : TE) : TO := fun σ H Q => t σ H fun x H1 => ∃ i, x = .int i ∧ Q (some i) H1
section
variable {X : Cx} {e : Expr} {te : TE} {lo hi : Option Expr} {tl th : TO} {pos p2 : Pos}
theorem po_none : PO X none tNoPart := by
 intro pins s σ H Q I h
 rw [evalPart_none]
 exact wpAny_pure ⟨none, H, I, .none, h⟩
theorem po_some (h : PE X e te) : PO X (some e) (tPart te) := by
 intro pins s σ H Q I hw
 rw [evalPart_some]
 refine thn (h pins s σ H _ I hw) fun u s1 ⟨x, H1, I1, r1, q1⟩ => ?_
 obtain ⟨i, rfl, q⟩ := q1
 obtain ⟨t, rfl⟩ := r1
 exact ⟨some i, H1, I1, .int i t, q⟩
def SlR (X : Cx) (r : V → Option Int → Option Int → Hp → VK → Prop) : Prop :=
 ∀ (pins : List (Addr × Obj)) (s : Shared) (σ : St) (H : Hp) (x : V) (v vl vu : Value) (lo hi : Option Int) (sl : Addr) (Q : VK), Inv X pins σ H s → RelV x v → s.heap.IsSliceOf sl vl vu .none → IsPart vl lo → IsPart vu hi → r x lo hi H Q →
   ∃ T id, typeLookup (.type T) "__getitem__" = pure (some (.builtin id)) ∧ s.TypeIs v T ∧ wpAny (model X.prog X.w) X.A (getItem v (.ref sl)) (EP X pins σ Q) X.xe s
def tSl (r : V → Option Int → Option Int → Hp → VK → Prop) (te : TE) (tl th : TO) : TE := fun σ H Q => te σ H fun x H1 => tl σ H1 fun l H2 => th σ H2 fun u H3 => r x l u H3 Q
theorem pe_slice {r : V → Option Int → Option Int → Hp → VK → Prop} (hr : SlR X r) (he : PE X e te) (hl : PO X lo tl) (hu : PO X hi th) : PE X (.Subscript e (.Slice lo hi none p2) pos) (tSl r te tl th) := by
 intro pins s σ H Q I h
 refine Subscript_ (thn (he pins s σ H _ I h) fun v s1 ⟨x, H1, I1, r1, q1⟩ => ?_)
 refine wpAny_Slice (thn (hl pins s1 σ H1 _ I1 q1) fun vl s2 ⟨l, H2, I2, pl, q2⟩ => thn (hu pins s2 σ H2 _ I2 q2) fun vu s3 ⟨u, H3, I3, pu, q3⟩ => ?_)
 rw [evalPart_none]
 refine wpAny_pure ?_
 have I4 : Inv X pins σ H3 { s3 with heap := s3.heap.push { cls := .type "slice", data := .fields #[vl, vu, .none] } } := I3.kept (t' := s3.toks) fun b ob q => Heap.get?_push_of_some _ q
 obtain ⟨T, id, hT, ht, hg⟩ := hr pins { s3 with heap := s3.heap.push { cls := .type "slice", data := .fields #[vl, vu, .none] } } σ H3 x v vl vu l u s3.heap.objs.size Q I4 r1 (Heap.IsSliceOf.new ..) pl pu q3
 show wpAny (model X.prog X.w) X.A (subscriptTail e (.Slice lo hi none p2) v (.ref s3.heap.objs.size)) (EP X pins σ Q) X.xe { s3 with heap := s3.heap.push { cls := .type "slice", data := .fields #[vl, vu, .none] } }
 exact tail_any (ops := [.ref s3.heap.objs.size, v]) ht hT hg (by with_unfolding_all rfl)
def cutV (xs : List V) (lo hi : Option Int) : List V := (xs.drop (HT.sIx xs.length 0 lo)).take (HT.sIx xs.length xs.length hi - HT.sIx xs.length 0 lo)
theorem cutV_length (xs : List V) (lo hi : Option Int) : (cutV xs lo hi).length ≤ xs.length := by
 unfold cutV
 rw [List.length_take, List.length_drop]
 omega
def rSlT (K : W.Frag) : V → Option Int → Option Int → Hp → VK → Prop := fun x lo hi H Q => ∃ a xs, x = .ref a ∧ SqT K H a xs ∧
 ¬ (HT.sIx xs.length 0 lo = 0 ∧ HT.sIx xs.length xs.length hi = xs.length) ∧ ∀ p, H p = none → Q (.ref p) (upd H p (.tup (cutV xs lo hi)))
theorem sl_tup : SlR X (rSlT X.K) := by
 intro pins s σ H x v vl vu lo hi sl Q I rx hs pl pu h
 obtain ⟨a, xs, rfl, hx, hw, q⟩ := h
 cases rx
 obtain ⟨its, r, ht, hz⟩ := I.tuple hx
 have hlen : its.toArray.size = xs.length := by rw [List.size_toArray]; exact r.length.symm
 refine ⟨"tuple", _, PyProof.Rows.slot_tuple_getitem.lookup, ht.typeIs, ?_⟩
 refine HT.getItem_tuple_cut ht hs pl pu (by rw [hlen]; exact hw) ?_ (by rw [hlen]; exact hz)
 rw [hlen]
 refine ⟨.ref s.heap.objs.size, _, I.laid (t' := s.toks) (o := .tup (cutV xs lo hi)) (fun b ob q => Heap.get?_push_of_some _ q) (Nat.le_refl _) ?_, rfl, q _ (I.hok.fresh (Nat.le_refl _))⟩
 exact ⟨Nat.le_trans (cutV_length xs lo hi) hz, _, (r.drop (HT.sIx xs.length 0 lo)).take (HT.sIx xs.length xs.length hi - HT.sIx xs.length 0 lo), TupO.new _ _⟩
def rCatT (K : W.Frag) : R2 := fun x y H Q => ∃ a b xs ys, x = .ref a ∧ y = .ref b ∧ SqT K H a xs ∧ SqT K H b ys ∧ xs ≠ [] ∧ xs.length + ys.length ≤ sizeLine ∧
 (ys = [] → Q (.ref a) H) ∧ (ys ≠ [] → ∀ p, H p = none → Q (.ref p) (upd H p (.tup (xs ++ ys))))
theorem Vals.nil_iff {xs : List V} {us : List Value} (r : Vals xs us) : us = [] ↔ xs = [] := by
 cases r with
 | nil => simp
 | cons _ _ => simp
theorem op_catT : OpR X (binaryOp .Add) (rCatT X.K) := by
 intro pins s σ H x y v u Q I rx ry h
 obtain ⟨a, b, xs, ys, rfl, rfl, ha, hb, hx, hz, q1, q2⟩ := h
 cases rx
 cases ry
 obtain ⟨its, r1, p1, _⟩ := I.tuple ha
 obtain ⟨its2, r2, p2, _⟩ := I.tuple hb
 refine HT.cat_tup p1 p2 (fun z => hx (r1.nil_iff.mp z)) (fun z => ⟨.ref a, H, I, rfl, q1 (r2.nil_iff.mp z)⟩) (fun z => ?_) (by rw [← r1.length, ← r2.length]; exact hz)
 refine ⟨.ref s.heap.objs.size, _, I.laid (t' := s.toks) (o := .tup (xs ++ ys)) (fun b ob q => Heap.get?_push_of_some _ q) (Nat.le_refl _) ?_, rfl, q2 (fun w => z (r2.nil_iff.mpr w)) _ (I.hok.fresh (Nat.le_refl _))⟩
 exact ⟨by rw [List.length_append]; exact hz, _, r1.append r2, TupO.new _ _⟩
end
end L2
namespace L2
open PySem PySem.Spec PyProof.Rows
def ixN (n : Nat) (i : Int) : Option Nat := if 0 ≤ i then (if i < n then some i.toNat else none) else if -(n : Int) ≤ i then some (i + n).toNat else none
def atI {α : Type} (xs : List α) (i : Int) : Option α := (ixN xs.length i).bind fun j => xs[j]?
theorem ixN_seq {n : Nat} {i : Int} {j : Nat} (h : ixN n i = some j) : seqIndex? i n = some j ∧ j < n ∧ -(n : Int) ≤ i ∧ i < n := by
 unfold ixN at h
 by_cases h0 : 0 ≤ i
 · rw [if_pos h0] at h
   by_cases h1 : i < n
   · rw [if_pos h1] at h
     have e : i.toNat = j := Option.some.inj h
     exact ⟨by rw [seqIndex_of h0 h1, e], by omega, by omega, h1⟩
   · rw [if_neg h1] at h; cases h
 · rw [if_neg h0] at h
   by_cases h1 : -(n : Int) ≤ i
   · rw [if_pos h1] at h
     have e : (i + n).toNat = j := Option.some.inj h
     exact ⟨by rw [seqIndex_neg (by omega) h1, e], by omega, h1, by omega⟩
   · rw [if_neg h1] at h; cases h
theorem atI_get {α : Type} {xs : List α} {i : Int} {v : α} (h : atI xs i = some v) : ∃ j, seqIndex? i xs.length = some j ∧ xs[j]? = some v ∧ j < xs.length ∧ -(xs.length : Int) ≤ i ∧ i < xs.length := by
 unfold atI at h
 cases e : ixN xs.length i with
 | none => rw [e] at h; cases h
 | some j =>
   rw [e] at h
   obtain ⟨h1, h2, h3, h4⟩ := ixN_seq e
   exact ⟨j, h1, h, h2, h3, h4⟩
theorem yT {α : Type} {xs : List α} {j : Nat} {v : α} (h : xs[j]? = some v) : atI xs (j : Int) = some v := by
 have hj : j < xs.length := (List.getElem?_eq_some_iff.mp h).1
 have e : ixN xs.length (j : Int) = some j := by
   unfold ixN
   rw [if_pos (by omega), if_pos (by omega)]; simp
 unfold atI; rw [e]; exact h
def PlainIx (b : Expr) : Prop := ∀ o i, subscripted b false o i = operate [o, i] (getItem o i)
def IxR (X : Cx) (r : R2) : Prop :=
 ∀ (value slice : Expr) (pins : List (Addr × Obj)) (s : Shared) (σ : St) (H : Hp) (x y : V) (v u : Value) (Q : VK), Inv X pins σ H s → RelV x v → RelV y u → r x y H Q →
   subscripted slice false v u = operate [v, u] (getItem v u) → wpAny (model X.prog X.w) X.A (subscriptTail value slice v u) (EP X pins σ Q) X.xe s
def MtR (X : Cx) (id : String) (r : V → List V → Hp → VK → Prop) : Prop :=
 ∀ (pins : List (Addr × Obj)) (s : Shared) (σ : St) (H : Hp) (x : V) (xs : List V) (v : Value) (us : List Value) (Q : VK), Inv X pins σ H s → RelV x v → Vals xs us → r x xs H Q →
   wpAny (model X.prog X.w) X.A (call (.builtin id) (v :: us)) (EP X pins σ Q) X.xe s
section
variable {X : Cx} {a b : Expr} {ta tb : TE} {pos : Pos}
theorem pe_ix {r : R2} (hr : IxR X r) (ha : PE X a ta) (hb : PE X b tb) (hs : PlainIx b) : PE X (.Subscript a b pos) (tOp r ta tb) := by
 intro pins s σ H Q I h
 exact Subscript_ (binT ha hb I h fun v u s2 x y H2 I2 rx ry q => hr a b pins s2 σ H2 x y v u Q I2 rx ry q (hs _ _))
def rIxL (K : W.Frag) : R2 := fun x y H Q => ∃ p xs i v, x = .ref p ∧ y = .int i ∧ SqL K H p xs ∧ atI xs i = some v ∧ Q v H
def rIxT (K : W.Frag) : R2 := fun x y H Q => ∃ p xs i v, x = .ref p ∧ y = .int i ∧ SqT K H p xs ∧ atI xs i = some v ∧ Q v H
theorem kX : IxR X (rIxL X.K) := by
 intro value slice pins s σ H x y v u Q I rx ry h hs
 obtain ⟨p, xs, i, z, rfl, rfl, hq, he, q⟩ := h
 cases rx
 obtain ⟨t, rfl⟩ := ry
 obtain ⟨its, r, pl, hz⟩ := I.list hq
 obtain ⟨j, h1, h2, h3, h4, h5⟩ := atI_get he
 obtain ⟨w, ew, rw'⟩ := r.get h2
 have hl := r.length
 have hn := line63
 have fin : EP X pins σ Q w s := ⟨z, H, I, rw', q⟩
 by_cases h0 : 0 ≤ i
 · have hj : i.toNat = j := by
     rw [seqIndex_of h0 h5] at h1
     exact Option.some.inj h1
   exact item_listR pl.isList h0 (by omega) (by rw [hj]; simpa using ew) fin hs
 · have hj : (i + (its.toArray.size : Int)).toNat = j := by
     rw [seqIndex_neg (by omega) h4] at h1
     rw [List.size_toArray, ← hl]
     exact Option.some.inj h1
   exact subscriptTail_builtinR (x := w) pl.isList.typeIs slot_list_getitem.lookup
     (wpAny_getItem_list_neg (Q := fun r s' => r = w ∧ EP X pins σ Q r s') pl.isList (by omega) (by rw [List.size_toArray] <;> omega) (by omega) (by rw [hj]; simpa using ew) ⟨rfl, fin⟩) hs
theorem jA : IxR X (rIxT X.K) := by
 intro value slice pins s σ H x y v u Q I rx ry h hs
 obtain ⟨p, xs, i, z, rfl, rfl, hq, he, q⟩ := h
 cases rx
 obtain ⟨t, rfl⟩ := ry
 obtain ⟨its, r, pl, hz⟩ := I.tuple hq
 obtain ⟨j, h1, h2, h3, h4, h5⟩ := atI_get he
 obtain ⟨w, ew, rw'⟩ := r.get h2
 have hl := r.length
 have hn := line63
 have fin : EP X pins σ Q w s := ⟨z, H, I, rw', q⟩
 exact subscriptTail_builtinR (x := w) pl.typeIs slot_tuple_getitem.lookup
   (getItem_tuple (j := j) (Q := fun r s' => r = w ∧ EP X pins σ Q r s') pl (by omega) (by omega) (by rw [List.size_toArray, ← hl]; exact h1) (by simpa using ew) ⟨rfl, fin⟩) hs
theorem mapSeq_set (its : List Value) (n j : Nat) (u : Value) : Obj.mapSeq (·.setIfInBounds j u) { cls := .type "list", data := .seq its.toArray n } = { cls := .type "list", data := .seq (its.set j u).toArray n } := by
 simp [Obj.mapSeq]
theorem Inv.lst {pins : List (Addr × Obj)} {σ : St} {H : Hp} {s : Shared} {p : Addr} {xs : List V} (I : Inv X pins σ H s) (h : H p = some (.lst xs)) :
   ∃ (its : List Value) (n : Nat), Vals xs its ∧ s.heap.get? p = some { cls := .type "list", data := .seq its.toArray n } ∧ xs.length ≤ sizeLine := by
 obtain ⟨z, its, n, r, e⟩ := I.hok p _ h
 exact ⟨its, n, r, e, z⟩
theorem Inv.lstUpd {pins : List (Addr × Obj)} {σ : St} {H : Hp} {s : Shared} {p : Addr} {xs ys : List V} {its its' : List Value} {n n' : Nat} {f : Obj → Obj} (I : Inv X pins σ H s) (h : H p = some (.lst xs))
   (ho : s.heap.get? p = some { cls := .type "list", data := .seq its.toArray n }) (hf : f { cls := .type "list", data := .seq its.toArray n } = { cls := .type "list", data := .seq its'.toArray n' }) (r : Vals ys its') (hz : ys.length ≤ sizeLine) (t : Nat) :
   Inv X pins σ (upd H p (.lst ys)) { s with heap := s.heap.update p f, toks := t } := by
 have e : (s.heap.update p f).get? p = some { cls := .type "list", data := .seq its'.toArray n' } := by
   rw [Heap.get?_update_self f ho (by rw [hf] <;> rfl), hf]
 refine I.write (x := p) (e := p) (by rw [h]; trivial) (.inl rfl) (fun b u hb q => (Heap.get?_update_other _ _ (Ne.symm hb)).trans q) ⟨_, e⟩ ?_
 exact ⟨hz, its', n', r, e⟩
def rSetL : V → V → V → Hp → (Hp → Prop) → Prop := fun o i v H Q => ∃ p xs k j, o = .ref p ∧ i = .int k ∧ H p = some (.lst xs) ∧ ixN xs.length k = some j ∧ Q (upd H p (.lst (xs.set j v)))
theorem set_list : PSet X rSetL := by
 intro pins s σ H o i v ov iv u Q I ro ri rv h
 obtain ⟨p, xs, k, j, rfl, rfl, hp, hj, q⟩ := h
 cases ro
 obtain ⟨t, rfl⟩ := ri
 obtain ⟨its, n, r, ho, hz⟩ := I.lst hp
 obtain ⟨h1, h2, h3, h4⟩ := ixN_seq hj
 have hl := r.length
 have hn := line63
 have I' : Inv X pins σ (upd H p (.lst (xs.set j v))) { s with heap := s.heap.update p (Obj.mapSeq (·.setIfInBounds j u)) } :=
   I.lstUpd hp ho (mapSeq_set its n j u) (r.set rv j) (by rw [List.length_set]; exact hz) s.toks
 by_cases h0 : 0 ≤ k
 · have hk : k.toNat = j := by
     rw [seqIndex_of h0 h4] at h1
     exact Option.some.inj h1
   exact PySem.W.ki_setAt ho h0 (by omega) (by rw [List.size_toArray, ← hl]; exact h4) (by rw [hk]; exact ⟨_, I', q⟩)
 · have hk : (k + (its.toArray.size : Int)).toNat = j := by
     rw [seqIndex_neg (by omega) h3] at h1
     rw [List.size_toArray, ← hl]
     exact Option.some.inj h1
   exact PySem.W.ki_setBack ho (by omega) (by rw [List.size_toArray, ← hl]; exact h3) (by omega) (by rw [hk]; exact ⟨_, I', q⟩)
theorem slice_bounds (lo hi : Option Int) (n : Nat) : (sliceBounds lo hi none n).1 = ((HT.sIx n 0 lo : Nat) : Int) ∧ (sliceBounds lo hi none n).2.1 = ((HT.sIx n n hi : Nat) : Int) ∧ (sliceBounds lo hi none n).2.2 = 1 := by
 refine ⟨?_, ?_, rfl⟩
 · cases lo with
   | none => simp [sliceBounds, HT.sIx]
   | some i =>
     simp only [sliceBounds, HT.sIx, Option.getD_none, show (1 : Int) > 0 by decide, if_true]
     by_cases h : i < 0
     · simp only [h, if_true] <;> omega
     · simp only [h, if_false] <;> omega
 · cases hi with
   | none => simp [sliceBounds, HT.sIx]
   | some i =>
     simp only [sliceBounds, HT.sIx, Option.getD_none, show (1 : Int) > 0 by decide, if_true]
     by_cases h : i < 0
     · simp only [h, if_true] <;> omega
     · simp only [h, if_false] <;> omega
theorem slicePick_cut (its : List Value) (lo hi : Option Int) : slicePick its.toArray lo hi none = ((its.drop (HT.sIx its.length 0 lo)).take (HT.sIx its.length its.length hi - HT.sIx its.length 0 lo)).toArray := by
 obtain ⟨h1, h2, h3⟩ := slice_bounds lo hi its.toArray.size
 unfold slicePick
 rw [h1, h2, h3]
 simp only [sliceRange_one, pick_run, List.size_toArray] <;> rfl
def rSlL (K : W.Frag) : V → Option Int → Option Int → Hp → VK → Prop := fun x lo hi H Q => ∃ a xs, x = .ref a ∧ SqL K H a xs ∧ ∀ p, H p = none → Q (.ref p) (upd H p (.lst (cutV xs lo hi)))
theorem sl_list : SlR X (rSlL X.K) := by
 intro pins s σ H x v vl vu lo hi sl Q I rx hs pl pu h
 obtain ⟨a, xs, rfl, hx, q⟩ := h
 cases rx
 obtain ⟨its, r, ht, hz⟩ := I.list hx
 have hlen := r.length
 refine ⟨"list", _, slot_list_getitem.lookup, ht.isList.typeIs, ?_⟩
 refine wpAny_getItem_list_slice ht.isList hs pl pu .none (by simp) ?_ (by rw [List.size_toArray] <;> omega)
 rw [slicePick_cut, ← hlen]
 refine ⟨.ref s.heap.objs.size, _, I.laid (t' := s.toks) (o := .lst (cutV xs lo hi)) (fun b ob q => Heap.get?_push_of_some _ q) (Nat.le_refl _) ?_, rfl, q _ (I.hok.fresh (Nat.le_refl _))⟩
 exact ⟨Nat.le_trans (cutV_length xs lo hi) hz, _, 0, (r.drop (HT.sIx xs.length 0 lo)).take (HT.sIx xs.length xs.length hi - HT.sIx xs.length 0 lo), Heap.get?_push_size _ rfl⟩
def flatV : V → Bool
 | .non => true
 | .bl _ => true
 | .int _ => true
 | .str _ => true
 | _ => false
def eqV : V → V → Bool
 | .non, .non => true
 | .bl a, .bl b => a == b
 | .bl a, .int b => (if a then 1 else 0) == b
 | .int a, .bl b => a == (if b then 1 else 0)
 | .int a, .int b => a == b
 | .str a, .str b => a == b
 | _, _ => false
theorem eqAt_V {A : Around} {s : Shared} {y x : V} {u v : Value} (ry : RelV y u) (rx : RelV x v) (fy : flatV y = true) (fx : flatV x = true) : SeqAt.EqAt A s u v (eqV y x) := by
 cases y with
 | non =>
   cases ry
   cases x with
   | non => cases rx; exact SeqAt.EqAt.same _
   | bl b => cases rx; exact SeqAt.EqAt.none_bool b
   | int b => obtain ⟨t, rfl⟩ := rx; exact SeqAt.EqAt.none_int b t
   | str b => obtain ⟨t, rfl⟩ := rx; exact SeqAt.EqAt.none_str b t
   | _ => exact absurd (show false = true from fx) Bool.false_ne_true
 | bl a =>
   cases ry
   cases x with
   | non => cases rx; exact SeqAt.EqAt.bool_none a
   | bl b => cases rx; exact SeqAt.EqAt.bool_bool a b
   | int b => obtain ⟨t, rfl⟩ := rx; exact SeqAt.EqAt.bool_int a b t
   | str b => obtain ⟨t, rfl⟩ := rx; exact SeqAt.EqAt.bool_str a b t
   | _ => exact absurd (show false = true from fx) Bool.false_ne_true
 | int a =>
   obtain ⟨t', rfl⟩ := ry
   cases x with
   | non => cases rx; exact SeqAt.EqAt.int_none a t'
   | bl b => cases rx; exact SeqAt.EqAt.int_bool a t' b
   | int b => obtain ⟨t, rfl⟩ := rx; exact SeqAt.EqAt.int_int a t' b t
   | str b => obtain ⟨t, rfl⟩ := rx; exact SeqAt.EqAt.int_str a t' b t
   | _ => exact absurd (show false = true from fx) Bool.false_ne_true
 | str a =>
   obtain ⟨t', rfl⟩ := ry
   cases x with
   | non => cases rx; exact SeqAt.EqAt.str_none a t'
   | bl b => cases rx; exact SeqAt.EqAt.str_bool a t' b
   | int b => obtain ⟨t, rfl⟩ := rx; exact SeqAt.EqAt.str_int a t' b t
   | str b => obtain ⟨t, rfl⟩ := rx; exact SeqAt.EqAt.str_str a t' b t
   | _ => exact absurd (show false = true from fx) Bool.false_ne_true
 | _ => exact absurd (show false = true from fy) Bool.false_ne_true
def eqU (x : V) (u : Value) : Bool := match u with
 | .none => eqV .non x
 | .bool b => eqV (.bl b) x
 | .int i _ => eqV (.int i) x
 | .str z _ => eqV (.str z) x
 | _ => false
theorem eqU_of {x y : V} {u : Value} (r : RelV y u) (f : flatV y = true) : eqU x u = eqV y x := by
 cases y with
 | non => cases r; rfl
 | bl b => cases r; rfl
 | int i => obtain ⟨t, rfl⟩ := r; rfl
 | str z => obtain ⟨t, rfl⟩ := r; rfl
 | _ => exact absurd (show false = true from f) Bool.false_ne_true
theorem any_eqU {x : V} : ∀ {xs : List V} {us : List Value}, Vals xs us → xs.all flatV = true → us.any (eqU x) = xs.any fun y => eqV y x
 | _, _, .nil, _ => rfl
 | y :: xs, u :: us, .cons r t, f => by
   rw [List.all_cons, Bool.and_eq_true] at f
   rw [List.any_cons, List.any_cons, eqU_of r f.1, any_eqU t f.2]
theorem mem_eqAt {A : Around} {s : Shared} {x : V} {v : Value} (rx : RelV x v) (fx : flatV x = true) : ∀ {xs : List V} {us : List Value}, Vals xs us → xs.all flatV = true → ∀ u ∈ us, SeqAt.EqAt A s u v (eqU x u)
 | _, _, .nil, _ => fun u hu => by cases hu
 | y :: xs, u :: us, .cons r t, f => fun u' hu => by
   rw [List.all_cons, Bool.and_eq_true] at f
   rcases List.mem_cons.mp hu with rfl | hu
   · rw [eqU_of r f.1]; exact eqAt_V r rx f.1 fx
   · exact mem_eqAt rx fx t f.2 u' hu
def inV (x : V) (xs : List V) : Bool := xs.any fun y => eqV y x
def rIn (K : W.Frag) (neg : Bool) : R2 := fun x y H Q => ∃ p xs, y = .ref p ∧ (SqL K H p xs ∨ SqT K H p xs) ∧ flatV x = true ∧ xs.all flatV = true ∧ Q (.bl (if neg then !inV x xs else inV x xs)) H
theorem op_in_seq : OpR X (compareOp .In) (rIn X.K false) := by
 intro pins s σ H x y v u Q I rx ry h
 obtain ⟨p, xs, rfl, hq, fx, fs, q⟩ := h
 cases ry
 rcases hq with hq | hq
 · obtain ⟨its, r, pl, hz⟩ := I.list hq
   refine SeqAt.in_listAt (eqU x) pl.isList (fun w hw => mem_eqAt rx fx r fs w (by simpa using hw)) ⟨.bl _, H, I, rfl, ?_⟩
   rw [show its.toArray.any (eqU x) = its.any (eqU x) by simp, any_eqU r fs]
   exact q
 · obtain ⟨its, r, pl, hz⟩ := I.tuple hq
   refine SeqAt.in_tupleAt (eqU x) pl (fun w hw => mem_eqAt rx fx r fs w (by simpa using hw)) ⟨.bl _, H, I, rfl, ?_⟩
   rw [show its.toArray.any (eqU x) = its.any (eqU x) by simp, any_eqU r fs]
   exact q
theorem op_notIn_seq : OpR X (compareOp .NotIn) (rIn X.K true) := by
 intro pins s σ H x y v u Q I rx ry h
 obtain ⟨p, xs, rfl, hq, fx, fs, q⟩ := h
 cases ry
 rcases hq with hq | hq
 · obtain ⟨its, r, pl, hz⟩ := I.list hq
   refine SeqAt.notIn_listAt (eqU x) pl.isList (fun w hw => mem_eqAt rx fx r fs w (by simpa using hw)) ⟨.bl _, H, I, rfl, ?_⟩
   rw [show its.toArray.any (eqU x) = its.any (eqU x) by simp, any_eqU r fs]
   exact q
 · obtain ⟨its, r, pl, hz⟩ := I.tuple hq
   refine SeqAt.notIn_tupleAt (eqU x) pl (fun w hw => mem_eqAt rx fx r fs w (by simpa using hw)) ⟨.bl _, H, I, rfl, ?_⟩
   rw [show its.toArray.any (eqU x) = its.any (eqU x) by simp, any_eqU r fs]
   exact q
theorem jJ : qF X (.builtin "len") (fun xs H Q => ∃ p ys, xs = [.ref p] ∧ (SqL X.K H p ys ∨ SqT X.K H p ys) ∧ Q (.int ys.length) H) := by
 intro pins s σ H xs us Q I r h
 obtain ⟨p, ys, rfl, hq, q⟩ := h
 obtain ⟨u, rfl, rx⟩ := vals1 r
 cases rx
 have hn := line63
 rcases hq with hq | hq
 · obtain ⟨its, r', pl, hz⟩ := I.list hq
   have hlen := r'.length
   exact Calls.call_len_list pl.isList (by simp only [List.size_toArray] <;> omega) ⟨.int ys.length, H, I.tok _, ⟨s.toks + 1, by rw [List.size_toArray, hlen]⟩, q⟩
 · obtain ⟨its, r', pl, hz⟩ := I.tuple hq
   have hlen := r'.length
   exact len_tuple pl (by simp only [List.size_toArray] <;> omega) ⟨.int ys.length, H, I.tok _, ⟨s.toks + 1, by rw [List.size_toArray, hlen]⟩, q⟩
theorem call_list_of : qF X (.type "list") (fun xs H Q => ∃ p ys, xs = [.ref p] ∧ (SqL X.K H p ys ∨ SqT X.K H p ys) ∧ ∀ l, H l = none → Q (.ref l) (upd H l (.lst ys))) := by
 intro pins s σ H xs us Q I r h
 obtain ⟨p, ys, rfl, hq, q⟩ := h
 obtain ⟨u, rfl, rx⟩ := vals1 r
 cases rx
 have fin : ∀ (its : List Value), Vals ys its → ys.length ≤ sizeLine → ∀ (h' : Heap) (c' : Nat), (∀ b o', s.heap.get? b = some o' → h'.get? b = some o') →
     h'.get? s.heap.objs.size = some { cls := .type "list", dict := none, data := .seq its.toArray c', slots := #[] } → EP X pins σ Q (.ref s.heap.objs.size) { s with heap := h' } := fun its r' hz h' c' kp e =>
   ⟨.ref s.heap.objs.size, _, I.laid (t' := s.toks) kp (Nat.le_refl _) (show ObjOk X.prog X.w _ h' _ (.lst ys) from ⟨hz, its, c', r', e⟩), rfl, q _ (I.hok.fresh (Nat.le_refl _))⟩
 rcases hq with hq | hq
 · obtain ⟨its, r', pl, hz⟩ := I.list hq
   have hlen := r'.length
   obtain ⟨o, ho, hc, n, hd⟩ := pl.isList
   exact call_list_seq p (.inl rfl) ho hc hd (fun h' c' kp e => fin its r' hz h' c' kp e) (by simp only [List.size_toArray] <;> omega)
 · obtain ⟨its, r', pl, hz⟩ := I.tuple hq
   have hlen := r'.length
   obtain ⟨o, ho, hc, n, hd⟩ := pl
   exact call_list_seq p (.inr rfl) ho hc hd (fun h' c' kp e => fin its r' hz h' c' kp e) (by simp only [List.size_toArray] <;> omega)
theorem kG : qF X (.type "tuple") (fun xs H Q => ∃ p ys, xs = [.ref p] ∧ ((SqL X.K H p ys ∧ ∀ l, H l = none → Q (.ref l) (upd H l (.tup ys))) ∨ (SqT X.K H p ys ∧ Q (.ref p) H))) := by
 intro pins s σ H xs us Q I r h
 obtain ⟨p, ys, rfl, h⟩ := h
 obtain ⟨u, rfl, rx⟩ := vals1 r
 cases rx
 rcases h with ⟨hq, q⟩ | ⟨hq, q⟩
 · obtain ⟨its, r', pl, hz⟩ := I.list hq
   have hlen := r'.length
   refine call_tuple_list pl.isList (fun h' kp => ?_) (by simp only [List.size_toArray] <;> omega)
   have I1 : Inv X pins σ H { s with heap := h' } := I.kept (t' := s.toks) kp
   have I2 : Inv X pins σ (upd H h'.objs.size (.tup ys)) { s with heap := h'.push { cls := .type "tuple", data := .seq its.toArray } } :=
     I1.laid (t' := s.toks) (fun b o e => Heap.get?_push_of_some _ e) (Nat.le_refl _) (show ObjOk X.prog X.w _ _ _ (.tup ys) from ⟨hz, its, r', TupO.new _ _⟩)
   exact ⟨.ref h'.objs.size, _, I2, rfl, q _ (I1.hok.fresh (Nat.le_refl _))⟩
 · obtain ⟨its, r', pl, hz⟩ := I.tuple hq
   exact call_tuple_same pl ⟨.ref p, H, I, rfl, q⟩
def tyV (K : W.Frag) (T : String) (x : V) (H : Hp) : Prop := match x with
 | .str _ => T = "str"
 | .int _ => T = "int"
 | .ref p => (T = "list" ∧ ∃ xs, SqL K H p xs) ∨ (T = "tuple" ∧ ∃ o, K.lookup p = some o ∧ o.cls = .type "tuple" ∧ o.dict = none) ∨
     (T = "dict" ∧ ((∃ kvs, H p = some (.dK kvs)) ∨ ∃ kvs, H p = some (.dT kvs))) ∨ (T = "set" ∧ ∃ S n, H p = some (.set S n))
 | _ => False
theorem tyV_is {pins : List (Addr × Obj)} {σ : St} {H : Hp} {s : Shared} {T : String} {x : V} {v : Value} (I : Inv X pins σ H s) (r : RelV x v) (ty : tyV X.K T x H) :
   s.TypeIs v T ∧ ∀ a, v = .ref a → ∃ ob, s.heap.get? a = some ob ∧ ob.dict = none := by
 cases x with
 | str z =>
   obtain ⟨t, rfl⟩ := r
   cases (show T = "str" from ty)
   exact ⟨typeIs_str s z t, fun _ e => nomatch e⟩
 | int i =>
   obtain ⟨t, rfl⟩ := r
   cases (show T = "int" from ty)
   exact ⟨typeIs_int s i t, fun _ e => nomatch e⟩
 | ref p =>
   cases r
   rcases ty with ⟨rfl, xs, hq⟩ | ⟨rfl, o, hk, hc, hd⟩ | ⟨rfl, hk⟩ | ⟨rfl, S, n, hk⟩
   · obtain ⟨its, _, pl, _⟩ := I.list hq
     refine ⟨pl.isList.typeIs, fun a e => ?_⟩
     cases e
     obtain ⟨o, n, e, c, hd, _⟩ := pl
     exact ⟨o, e, hd⟩
   · refine ⟨⟨o, I.kIn p o hk, hc⟩, fun a e => ?_⟩
     cases e
     exact ⟨o, I.kIn _ o hk, hd⟩
   · have z : ∃ o, s.heap.get? p = some o ∧ o.ExactDict := by
       rcases hk with ⟨kvs, hk⟩ | ⟨kvs, hk⟩
       · obtain ⟨_, _, _, _, o, _, _, e, ex, _⟩ := I.hok p _ hk
         exact ⟨o, e, ex⟩
       · obtain ⟨_, _, _, _, o, _, _, e, ex, _⟩ := I.hok p _ hk
         exact ⟨o, e, ex⟩
     obtain ⟨o, e, ex⟩ := z
     refine ⟨⟨o, e, ex.1⟩, fun a e2 => ?_⟩
     cases e2
     exact ⟨o, e, ex.2.1⟩
   · obtain ⟨o, _, _, _, e, ex, _⟩ := I.hok p _ hk
     refine ⟨⟨o, e, ex.1⟩, fun a e2 => ?_⟩
     cases e2
     exact ⟨o, e, ex.2.1⟩
 | _ => exact False.elim ty
def tBM (K : W.Frag) (T : String) (r : V → List V → Hp → VK → Prop) (to : TE) (t : TA) : TE := fun σ H Q => to σ H fun x H1 => tyV K T x H1 ∧ t σ H1 fun xs H2 => r x xs H2 Q
variable {o e : Expr} {es : List Expr} {to : TE} {t : TA} {name : Str} {apos cpos : Pos} {T id : String} {r : V → List V → Hp → VK → Prop}
theorem pe_bm (pa : PlainAttrs T) (slot : Slot T name id) (hty : typeOf (.builtin id) = pure (.type "method_descriptor")) (hm : MtR X id r) (ho : PE X o to) (ha : PA X (e :: es) t)
   (hbase : attributeBase o name X.env (eval o X.env) = eval o X.env := by rfl)
   (hfew : ((backTo cpos (starEach (e :: es) X.env)).all (fun x => !x.1) && (backToKw cpos (keywordEach [] X.env)).all (fun x => x.1.isSome)
     && decide ((e :: es).length + ([] : List Keyword).length + (if ([] : List Keyword).isEmpty then 0 else 1) < 30)) = true := by rfl)
   (hline : (apos.endLine == cpos.line) = true := by rfl) (hs : starEach (e :: es) X.env = (false, eval e X.env) :: starEach es X.env := by rfl) (hplain : (backTo cpos (starEach es X.env)).any (·.1) = false := by rfl) :
   PE X (.Call (.Attribute o name apos) (e :: es) [] cpos) (tBM X.K T r to t) := by
 intro pins s σ H Q I h
 refine wpAny_Call_method_late hbase hfew hline rfl (thn (ho pins s σ H _ I h) fun v s1 ⟨x, H1, I1, r1, ty, q1⟩ => ?_)
 obtain ⟨h1, h2⟩ := tyV_is I1 r1 ty
 refine ⟨T, id, pa, slot, hty, h1, h2, ?_⟩
 have hA := ha cpos pins s1 σ H1 _ I1 q1
 rw [hs] at hA ⊢
 refine Calls.callWith_builtin (by show (false || (backTo cpos (starEach es X.env)).any (·.1)) = false; rw [hplain] <;> rfl) (Calls.evalArgs_plain ?_)
 exact thn hA fun us s2 ⟨vs, H2, I2, r2, q2⟩ => hm pins s2 σ H2 x vs v us Q I2 r1 r2 q2
/- xs.append(e), list.index on a module's tuple .. are MtR facts of 06m -/
end
end L2
namespace L2
open PySem PySem.Spec PyProof.Rows
def MtM (X : Cx) (id : String) (r : V → List V → Hp → VK → Prop) : Prop :=
 ∀ (pins : List (Addr × Obj)) (s : Shared) (σ : St) (H : Hp) (x : V) (xs : List V) (v : Value) (us : List Value) (Q : VK), Inv X pins σ H s → RelV x v → Vals xs us → r x xs H Q →
   wpAny (model X.prog X.w) X.A (call (.builtin id) (v :: us)) (EP X pins σ Q) X.xe s
theorem Vals.one : ∀ {x : V} {us : List Value}, Vals [x] us → ∃ u, us = [u] ∧ RelV x u
 | _, _, .cons r .nil => ⟨_, rfl, r⟩
theorem Vals.two : ∀ {x y : V} {us : List Value}, Vals [x, y] us → ∃ u v, us = [u, v] ∧ RelV x u ∧ RelV y v
 | _, _, _, .cons r (.cons q .nil) => ⟨_, _, rfl, r, q⟩
theorem Vals.zero : ∀ {us : List Value}, Vals [] us → us = []
 | _, .nil => rfl
theorem Vals.eraseIdx : ∀ {xs : List V} {us : List Value} (i : Nat), Vals xs us → Vals (xs.eraseIdx i) (us.eraseIdx i)
 | _, _, _, .nil => .nil
 | _, _, 0, .cons _ t => t
 | _, _, i + 1, .cons r t => .cons r (Vals.eraseIdx i t)
theorem Vals.rep {xs : List V} {us : List Value} (h : Vals xs us) : ∀ k : Nat, Vals (List.replicate k xs).flatten (List.replicate k us).flatten
 | 0 => .nil
 | k + 1 => by
   rw [List.replicate_succ, List.replicate_succ, List.flatten_cons, List.flatten_cons]
   exact Vals.append h (Vals.rep h k)
theorem len_erase {α : Type} : ∀ (l : List α) (i : Nat), (l.eraseIdx i).length ≤ l.length
 | [], _ => Nat.le_refl _
 | _ :: _, 0 => Nat.le_succ _
 | _ :: r, i + 1 => Nat.succ_le_succ (len_erase r i)
theorem foldl_rep (its : List Value) : ∀ (k : Nat) (acc : List Value),
   List.foldl (fun x1 x2 => x1 ++ x2) acc.toArray (List.replicate k its.toArray) = (acc ++ (List.replicate k its).flatten).toArray
 | 0, acc => by simp
 | k + 1, acc => by
   have e : acc.toArray ++ its.toArray = (acc ++ its).toArray := by simp
   have e2 : (acc ++ its) ++ (List.replicate k its).flatten = acc ++ (List.replicate (k + 1) its).flatten := by
     rw [List.replicate_succ, List.flatten_cons, List.append_assoc]
   rw [← e2, ← foldl_rep its k (acc ++ its), ← e, List.replicate_succ, List.foldl_cons]
section
variable {X : Cx} {pins : List (Addr × Obj)} {σ : St} {H : Hp} {s : Shared} {l b : Addr} {xs ys zs : List V}
theorem Inv.lset {its its' : List Value} {n : Nat} {f : Array Value → Array Value} {t' : Nat} (I : Inv X pins σ H s) (hH : H l = some (.lst xs))
   (e : s.heap.get? l = some { cls := .type "list", data := .seq its.toArray n }) (hf : f its.toArray = its'.toArray) (hv : Vals ys its') (hz : ys.length ≤ sizeLine) :
   Inv X pins σ (upd H l (.lst ys)) { s with heap := s.heap.update l (Obj.mapSeq f), toks := t' } := by
 have q := PySem.IsL.update e f
 rw [hf] at q
 refine I.write (x := l) (e := l) (by rw [hH]; exact trivial) (.inl rfl) (fun b' u hb hu => (Heap.get?_update_other s.heap (Obj.mapSeq f) (Ne.symm hb)).trans hu) ⟨_, q⟩ ?_
 exact ⟨hz, its', _, hv, q⟩
theorem Inv.lnew {its : List Value} {t' : Nat} (I : Inv X pins σ H s) (hv : Vals ys its) (hz : ys.length ≤ sizeLine) :
   Inv X pins σ (upd H s.heap.objs.size (.lst ys)) { s with heap := s.heap.push { cls := .type "list", data := .seq its.toArray }, toks := t' } :=
 I.laid (fun _ _ q => Heap.get?_push_of_some _ q) (Nat.le_refl _) ⟨hz, its, 0, hv, Heap.get?_push_size _ rfl⟩
theorem Inv.fresh (I : Inv X pins σ H s) : H s.heap.objs.size = none := I.hok.fresh (Nat.le_refl _)
theorem Inv.lstM (I : Inv X pins σ H s) (hH : H l = some (.lst xs)) : xs.length ≤ sizeLine ∧ ∃ (its : List Value) (n : Nat), Vals xs its ∧ xs.length = its.length ∧ s.heap.get? l = some { cls := .type "list", data := .seq its.toArray n } := by
 obtain ⟨z, its, n, r, e⟩ := I.hok l _ hH
 exact ⟨z, its, n, r, r.length, e⟩
theorem notLongL {n : Nat} (h : n ≤ sizeLine) : Builtin.List.listTooLong n = false := by
 unfold Builtin.List.listTooLong
 exact decide_eq_false (by omega)
end
section
variable {X : Cx}
def rAppend : V → List V → Hp → VK → Prop := fun x vs H Q => ∃ l xs y, x = .ref l ∧ vs = [y] ∧ H l = some (.lst xs) ∧ xs.length < sizeLine ∧ Q .non (upd H l (.lst (xs ++ [y])))
theorem mt_append : MtM X "list.append" rAppend := by
 intro pins s σ H x vs v us Q I rx rv h
 obtain ⟨l, xs, y, rfl, rfl, hH, hz, q⟩ := h
 cases rx
 obtain ⟨u, rfl, ru⟩ := rv.one
 obtain ⟨z, its, n, r, hl, e⟩ := I.lstM hH
 refine call_meets F.slot_list_append ⟨_, e, rfl⟩ F.entry_list_append (F.args_list_append_2 _ _) (PySem.list_append l its.toArray n u (by rw [List.size_toArray]; omega)) ⟨e, ?_⟩
 refine ⟨.non, _, I.lset (its' := its ++ [u]) hH e (by simp) (r.append (.cons ru .nil)) ?_, rfl, q⟩
 rw [List.length_append, List.length_singleton]
 omega
def rExtend : V → List V → Hp → VK → Prop := fun x vs H Q => ∃ l b xs zs, x = .ref l ∧ vs = [.ref b] ∧ H l = some (.lst xs) ∧ H b = some (.lst zs) ∧ xs.length + zs.length ≤ sizeLine ∧ Q .non (upd H l (.lst (xs ++ zs)))
theorem mt_extend : MtM X "list.extend" rExtend := by
 intro pins s σ H x vs v us Q I rx rv h
 obtain ⟨l, b, xs, zs, rfl, rfl, hH, hB, hz, q⟩ := h
 cases rx
 obtain ⟨u, rfl, ru⟩ := rv.one
 cases ru
 obtain ⟨z, its, n, r, hl, e⟩ := I.lstM hH
 obtain ⟨z2, its2, n2, r2, hl2, e2⟩ := I.lstM hB
 have hsz : its.toArray.size + its2.toArray.size ≤ sizeLine := by rw [List.size_toArray, List.size_toArray]; omega
 have hlong : ¬ (!its.toArray.isEmpty && Builtin.List.listTooLong (its.toArray.size + its2.toArray.size)) = true := by
   rw [notLongL hsz, Bool.and_false]
   exact Bool.false_ne_true
 refine call_meets F.slot_list_extend ⟨_, e, rfl⟩ F.entry_list_extend (F.args_list_extend_2 _ _)
   (AutoSeq1.list_extend_list_list_0 l its.toArray n b its2.toArray n2 hlong (by rw [List.size_toArray]; omega) (by omega)) ⟨e, e2, ?_⟩
 refine ⟨.non, _, I.lset (its' := its ++ its2) hH e (by simp) (r.append r2) ?_, rfl, q⟩
 rw [List.length_append]
 omega
def rPopAt : V → List V → Hp → VK → Prop := fun x vs H Q => ∃ l xs i k y, x = .ref l ∧ vs = [.int i] ∧ H l = some (.lst xs) ∧ -(2 ^ 63) ≤ i ∧ i < 2 ^ 63 ∧ seqIndex? i xs.length = some k ∧ xs[k]? = some y ∧ Q y (upd H l (.lst (xs.eraseIdx k)))
theorem mt_popAt : MtM X "list.pop" rPopAt := by
 intro pins s σ H x vs v us Q I rx rv h
 obtain ⟨l, xs, i, k, y, rfl, rfl, hH, h1, h2, hk, hy, q⟩ := h
 cases rx
 obtain ⟨u, rfl, ru⟩ := rv.one
 obtain ⟨t, rfl⟩ := ru
 obtain ⟨z, its, n, r, hl, e⟩ := I.lstM hH
 obtain ⟨w, hw, rw'⟩ := r.get hy
 refine call_meets F.slot_list_pop ⟨_, e, rfl⟩ F.entry_list_pop (F.args_list_pop_2 _ _)
   (MeetsSeq.list_pop_at l its.toArray n i t k w (fitsIndex_both h1 h2) (by rw [List.size_toArray, ← hl]; exact hk) (by rw [← Array.getElem?_toList]; exact hw) (by rw [List.size_toArray]; omega)) ⟨e, ?_⟩
 refine ⟨y, _, I.lset (its' := its.eraseIdx k) hH e ?_ (r.eraseIdx k) ?_, rw', q⟩
 · show its.toArray.eraseIdxIfInBounds k = (its.eraseIdx k).toArray
   rw [List.eraseIdxIfInBounds_toArray]
 · have := len_erase xs k
   omega
def rCat : R2 := fun x y H Q => ∃ l b xs zs, x = .ref l ∧ y = .ref b ∧ H l = some (.lst xs) ∧ H b = some (.lst zs) ∧ xs.length + zs.length ≤ sizeLine ∧ ∀ p, H p = none → Q (.ref p) (upd H p (.lst (xs ++ zs)))
theorem op_cat : OpR X (binaryOp .Add) rCat := by
 intro pins s σ H x y v u Q I rx ry h
 obtain ⟨l, b, xs, zs, rfl, rfl, hH, hB, hz, q⟩ := h
 cases rx
 cases ry
 obtain ⟨z, its, n, r, hl, e⟩ := I.lstM hH
 obtain ⟨z2, its2, n2, r2, hl2, e2⟩ := I.lstM hB
 refine PySem.P.add_list e e2 ?_ (by rw [List.size_toArray, List.size_toArray]; omega)
 have ea : its.toArray ++ its2.toArray = (its ++ its2).toArray := by simp
 rw [ea]
 exact ⟨.ref _, _, I.lnew (t' := s.toks) (r.append r2) (by rw [List.length_append]; omega), rfl, q _ I.fresh⟩
theorem len_rep {α : Type} (xs : List α) (k : Nat) : (List.replicate k xs).flatten.length = k * xs.length := by
 induction k with
 | zero => simp
 | succ k ih => rw [List.replicate_succ, List.flatten_cons, List.length_append, ih, Nat.succ_mul, Nat.add_comm]
end
section
variable {prog : Program} {w : World} {A : Around} {E : Value → Shared → Prop} {s : Shared}
set_option maxRecDepth 100000 in
end
section
variable {X : Cx}
end
end L2
namespace Att
open PySem PySem.W PySem.Calls PyProof.Rows
theorem ints_of_wellAll {P : Params} {h : Heap} : ∀ (ns : List Int) (vs : List Value), WellAll P h vs (ns.map WData.int) → IntsAre vs ns := by
 intro ns
 induction ns with
 | nil =>
   intro vs w
   rw [List.map_nil] at w
   cases w
   exact .nil
 | cons n ns ih =>
   intro vs w
   rw [List.map_cons] at w
   cases w with
   | cons a b =>
     cases a
     exact .cons _ _ (ih _ b)
theorem script_of {l : OpenLaw} {n : Nat} (hn : l.most = some n) {P : Params} {h : Heap} {args : List WData} {vals : List Value}
   (hpre : l.row.toRowW.claim.pre args = true) (hwl : WellAll P h vals args) :
   ∃ a vs ns, vals = [Value.ref a] ∧ args = [WData.list (ns.map WData.int)] ∧ h.get? a = some { cls := .type "list", data := .seq vs.toArray } ∧ IntsAre vs ns ∧ ns.length ≤ n := by
 have hsh : WShape.hasAll [] args [.list .int] = true := (pre_splitW hpre).1
 have hc : l.pre.holds [] { args := args } = true := (pre_splitW hpre).2
 obtain ⟨d, r, rfl, h1, h2⟩ := hasAllW_cons hsh
 obtain rfl := hasAllW_nil h2
 obtain ⟨xs, rfl, h3⟩ := hasW_list h1
 obtain ⟨ns, rfl⟩ := items_int h3
 have hlen : ns.length ≤ n := by
   unfold OpenLaw.pre at hc
   have h4 : (WTm.not (.lt (.lit (.int (n : Int))) (.len (.arg 0)))).holds [] { args := [.list (ns.map .int)] } = true := by
     have h4 := (holds_andW hc).1
     rw [hn] at h4
     exact h4
   have h5 := condW_of h4 (w_not (w_lt w_lit (w_len_list (w_arg rfl))))
   rw [List.length_map] at h5
   refine Nat.le_of_not_lt fun q => ?_
   have q' : (n : Int) < ((ns.length : Nat) : Int) := by omega
   first
     | (rw [decide_eq_true q'] at h5; exact absurd h5 (by decide))
     | (simp at h5; omega)
 cases hwl with
 | cons w1 w2 =>
   cases w2
   cases w1 with
   | list ho hall => exact ⟨_, _, ns, rfl, rfl, ho, ints_of_wellAll ns _ hall, hlen⟩
theorem post_true (l : OpenLaw) (args : List WData) : l.row.toRowW.claim.post args (.bool true) args = true :=
 postW_of (r := l.row.toRowW) (X := (true == true))
   (show WShape.has [] (.bool true) .bool = true by first | rfl | decide | simp [WShape.has, WShape.arms, WShape.armsAll])
   (show (WTm.eq .res (.lit (.bool true))).value [] { args := args, res := some (.bool true), after := args } = some (.bool (true == true)) from w_eq_bool (w_res rfl) w_lit) rfl
theorem attach_call {l : OpenLaw} {n : Nat} {q : Program} {loose : List Str} {XP : (Str → Option Value) → Heap → Prop} {YP : World → Heap → Prop} {d : DefRec}
   (hn : l.most = some n) (hdf : d.params.defaults = [])
   (call : ∀ (w : World) (s₀ s₁ : Shared) (mg mb : Str → Option Value) (fa : Addr) (o : Obj) (pm cd doc : Value) (a : Addr) (vs : List Value) (ns : List Int),
     Ground q loose [] XP w s₀ mg mb s₁.heap → YP w s₁.heap →
     s₁.heap.get? fa = some o → o.data = .func (docDef d.name d.params d.body d.scope pm cd doc) → s₁.heap.CodeRec cd d.name → mg d.name = some (.ref fa) →
     s₁.heap.get? a = some { cls := .type "list", data := .seq vs.toArray } → IntsAre vs ns → ns.length ≤ n → s₁.gens = #[] →
     codeAny (model l.prog w) callerA (.call (.ref fa) ⟨[.ref a], []⟩) (fun r s' => r = .ok (.ret (.bool true)) ∧ OldK s₁.heap s'.heap ∧ s'.os = s₁.os ∧ AllBare s'.gens) s₁) :
   WalkO q loose XP YP l.row.toRowW d [] (fun f vs => PySem.call f vs) := by
 intro w s₀ s₁ mg mb G Y fa o pm cd doc dV kV ho hd hcd hD hmg hg args vals as hpre hlay hrd hwl hlo
 obtain rfl : dV = .none := Dflts.none hD hdf
 obtain rfl : kV = .none := Dflts.noKw hD
 obtain ⟨a, vs, ns, rfl, rfl, hobj, hints, hlen⟩ := script_of hn hpre hwl
 refine enter_call (codeAny_mono (call w s₀ s₁ mg mb fa o pm cd doc a vs ns G Y ho (fd_plain hd) hcd hmg hobj hints hlen hg) fun r s' hq => ?_)
 obtain ⟨rfl, h2, h3, h4⟩ := hq
 exact ⟨.inl ⟨.bool true, .bool true, [], rfl, fun _ => rfl, .bool true, post_true l _, fun _ => ⟨List.Pairwise.nil, fun _ hm => (nomatch hm)⟩⟩, h2, h3, h4⟩
section
variable {prog : Program} {w : World} {A : Around} {E : Value → Shared → Prop} {s : Shared} {K : Frag}
end
end Att
namespace L2
open PySem PySem.Spec PyProof.Rows
theorem vals_ints : ∀ {vs : List Value} {ns : List Int}, IntsAre vs ns → Vals (ns.map V.int) vs
 | _, _, .nil => .nil
 | _, _, .cons n t h => .cons ⟨t, rfl⟩ (vals_ints h)
def Only (H : Hp) : Prop := ∀ b, H b = none ∨ ∃ o xs, H b = some (.frz o (.lst xs))
theorem law_call {P : Program} {w : World} {K : W.Frag} {mg mb : Str → Option Value} {CX : CXT} {k : Nat} {fa a : Addr} {fd : FuncData} {x : Str} {sp : Sp} {s₁ : Shared} {vs : List Value} {ns : List Int}
   (KX : K.In s₁.heap) (hns : s₁.heap.Ns mainGlobals mg) (hb : s₁.heap.Ns builtinsNs mb) (hbb : ∀ x : Str, x ≠ "__name__" → mb x = bootBuiltins x) (hlim : s₁.heap.NoLimit) (hg : s₁.gens = #[])
   (ha : s₁.heap.get? a = some { cls := .type "list", data := .seq vs.toArray }) (hi : IntsAre vs ns) (hl : ns.length ≤ sizeLine) (hr : Room k callerA)
   (F : ∀ base : Heap, K.In base → base.Ns mainGlobals mg → FnOk P w K mg base CX k fa fd [x] sp) (hbind : ∀ (s : Shared) (u : Value), BindsTo s fd ⟨[u], []⟩ [(x, u)])
   (hsp : ∀ H : Hp, Only H → SqL K H a (ns.map V.int) → sp [.ref a] H (fun v _ => v = .bl true) fun _ _ _ => False)
   (hCX : ∀ H e s', CX [] H s₁ (fun _ _ _ => False) e s' → False) :
   codeAny (model P w) callerA (.call (.ref fa) ⟨[.ref a], []⟩) (fun r s' => r = .ok (.ret (.bool true)) ∧ OldK s₁.heap s'.heap ∧ s'.os = s₁.os ∧ AllBare s'.gens) s₁ := by
 have rv := vals_ints hi
 have lenV := hi.length
 have core : ∀ H : Hp, Only H → SqL K H a (ns.map V.int) → HOk P w H s₁.heap → (∀ b, H b ≠ none → b = a) → (H a ≠ none → K.lookup a = none) →
     codeAny (model P w) callerA (.call (.ref fa) ⟨[.ref a], []⟩) (fun r s' => r = .ok (.ret (.bool true)) ∧ OldK s₁.heap s'.heap ∧ s'.os = s₁.os ∧ AllBare s'.gens) s₁ := by
   intro H hO hS hok hA hK
   have base_of : ∀ {b : Addr} {o : Obj}, s₁.heap.get? b = some o → H b = none → (hidT s₁.heap H).get? b = some o := fun e n => hidT_get e n
   have noA : ∀ {b : Addr} {o : Obj} {es : Array DictEntry} {ep : Nat}, s₁.heap.get? b = some o → o.data = .dict es ep → H b = none := fun {b o es ep} e d => by
     cases q : H b with
     | none => rfl
     | some u =>
       have e' : b = a := hA b (by rw [q]; simp)
       subst e'
       rw [ha] at e; cases e
       have d' : Data.seq vs.toArray _ = Data.dict es ep := d
       cases d'
   have nsK : ∀ {b : Addr} {m : Str → Option Value}, s₁.heap.Ns b m → (hidT s₁.heap H).Ns b m := fun {b m} ⟨o, es, ep, e, d, r⟩ => ⟨o, es, ep, base_of e (noA e d), d, r⟩
   have hKb : K.In (hidT s₁.heap H) := fun b o e => base_of (KX b o e) (by
     cases q : H b with
     | none => rfl
     | some u =>
       have e' : b = a := hA b (by rw [q]; simp)
       subst e'
       rw [hK (by rw [q]; simp)] at e; cases e)
   have hM : Mod K mg (hidT s₁.heap H) := ⟨hKb, nsK hns, ⟨mb, nsK hb, hbb⟩, let ⟨mc, h1, h2⟩ := hlim; ⟨mc, nsK h1, h2⟩⟩
   have e0 : Env0 P w K mg (hidT s₁.heap H) callerA [] s₁ H := ⟨rfl, hM, fun b o e => of_hidT e, Nat.le_of_eq (hidT_size _ _), trivial, fun b hb => absurd (show b ∈ ([] : List Addr) from hb) (by simp), hok, .of_eq hg⟩
   refine codeAny_mono ((F _ hKb (nsK hns)).run callerA [] s₁ H ⟨[.ref a], []⟩ [.ref a] [.ref a] _ _ hr e0 (hbind s₁ (.ref a)) (.cons rfl .nil) (hsp H hO hS)) fun r s' h => ?_
   cases r with
   | error e => exact (hCX H e s' h).elim
   | ok fl =>
     cases fl with
     | next => exact False.elim h
     | brk => exact False.elim h
     | cont => exact False.elim h
     | ret u =>
       obtain ⟨v, H', os, bare, un, hok', r', q⟩ := h
       have q' : v = .bl true := q
       subst q'
       obtain rfl : u = Value.bool true := r'
       refine ⟨rfl, OldK.of_keep fun b o e => ?_, os, bare⟩
       cases q : H b with
       | none => exact un.keep b o e q (by intro z; exact absurd (show b ∈ ([] : List Addr) from z) (by simp)) (by simp)
       | some u =>
         rcases hO b with z | ⟨ob, xs, z⟩
         · rw [q] at z; cases z
         · have z2 := un.frzs b ob _ z
           obtain ⟨e1, _⟩ := hok b _ z
           obtain ⟨e2, _⟩ := hok' b _ z2
           rw [e] at e1; cases e1
           exact e2
 cases hk : K.lookup a with
 | some o =>
   have e := KX a o hk
   rw [ha] at e
   cases e
   refine core (fun _ => none) (fun _ => .inl rfl) (.inr ⟨_, vs.toArray, _, hk, rfl, rfl, rfl, by rw [List.size_toArray, lenV]; exact hl, by simpa using rv⟩) (fun b u z => by have z' : (none : Option HO) = some u := z; cases z') (fun b z => absurd rfl z) fun z => absurd rfl z
 | none =>
   refine core (fun b => if b = a then some (.frz { cls := .type "list", data := .seq vs.toArray } (.lst (ns.map V.int))) else none) (fun b => ?_) (.inl (.inr ⟨{ cls := .type "list", data := .seq vs.toArray }, if_pos rfl⟩)) (fun b u z => ?_) (fun b z => ?_) fun _ => hk
   · by_cases hb : b = a
     · exact .inr ⟨_, _, if_pos hb⟩
     · exact .inl (if_neg hb)
   · by_cases hb : b = a
     · have z' := (if_pos hb).symm.trans z
       cases z'
       subst hb
       exact ⟨ha, by rw [List.length_map]; exact hl, vs, _, rv, ha⟩
     · have z' := (if_neg hb).symm.trans z
       cases z'
   · by_cases hb : b = a
     · exact hb
     · exact absurd (if_neg hb) z
end L2
namespace L2
open PySem PySem.Spec PyProof.Rows
theorem walk_of {l : PySem.W.OpenLaw} {n k : Nat} {q : Program} {loose : List Str} {XP : (Str → Option Value) → Heap → Prop} {YP : World → Heap → Prop} {d : DefRec} {K : Params → W.Frag} {CX : World → CXT} {sp : World → Sp} {x : Str}
   (hn : l.most = some n) (hn2 : n ≤ sizeLine) (hdf : d.params.defaults = []) (hr : Room k callerA)
   (hY : ∀ (w : World) (h : Heap), YP w h → (K w.params).In h)
   (F : ∀ (w : World) (mg : Str → Option Value) (fa : Addr) (h : Heap), (K w.params).In h → h.Ns mainGlobals mg → mg d.name = some (.ref fa) →
     ∃ fd : FuncData, (∀ (s : Shared) (u : Value), BindsTo s fd ⟨[u], []⟩ [(x, u)]) ∧
       ∀ base : Heap, (K w.params).In base → base.Ns mainGlobals mg → FnOk l.prog w (K w.params) mg base (CX w) k fa fd [x] (sp w))
   (hsp : ∀ (w : World) (H : Hp) (a : Addr) (ns : List Int), ns.length ≤ n → Only H → SqL (K w.params) H a (ns.map V.int) → sp w [.ref a] H (fun v _ => v = .bl true) fun _ _ _ => False)
   (hCX : ∀ (w : World) (H : Hp) (s : Shared) (e : Value) (s' : Shared), CX w [] H s (fun _ _ _ => False) e s' → False) :
   PySem.W.WalkO q loose XP YP l.row.toRowW d [] (fun f vs => PySem.call f vs) := by
 refine Att.attach_call hn hdf fun w s₀ s₁ mg mb fa o pm cd doc a vs ns G Y ho hd hcd hmg hobj hints hlen hg => ?_
 have KX := hY w _ Y
 obtain ⟨fd, hb, hF⟩ := F w mg fa _ KX G.T.g hmg
 exact law_call KX G.T.g G.T.b G.T.builtins G.T.nolimit hg hobj hints (Nat.le_trans hlen hn2) hr hF hb (fun H hO hS => hsp w H a ns hlen hO hS) fun H e s' => hCX w H s₁ e s'
end L2
/- THE LAST THEOREM (shape; LID, My.* are yours):
  My.Adr: a structure of the addresses that your layer names (classes, functions); My.Txt K t: a structure (Prop) of the equations over K;
  My.txt_mk : {K} {implicit addresses ..} (e1 : nsIn K mainGlobals "law" = some (some (.ref f))) (e2 : K.lookup f = some ⟨oc, od, .func (fnOf "law" "law" params body scope dV kV doc pm an cdv ct), sl⟩) (e3 : codeIn K cdv "law" = true) .. : ∃ t, My.Txt K t
set_option maxRecDepth 100000 in
set_option maxHeartbeats 0 in
theorem PySem.Challenge.cw_LID_holds : PySem.Challenge.rw_LID.Holds := by
 w_on; o_law; k_head; (case hw => w_witness2)
 k_fill
 refine L2.walk_of (l := PySem.Challenge.rw_LID) (n := 63) (k := 40) (x := "script") (CX := fun w => ..) (sp := fun _ => My.sp_law) rfl (by decide) rfl ⟨rfl, by decide, by decide⟩ (fun w h Y => PySem.W.kIn_of Y) ?F ?S ?C
 case F =>
   intro w mg fa h KX G hmg
   have T : ∃ t, My.Txt (L2.KOf KX) t := by
     dsimp only [L2.KOf]                          -- K must stand as «<heap const> w.params» for k_is
     refine' My.txt_mk ?e1 ?e2 ?e3 ..
     (case e1 => PySem.W.k_is)                    -- in the order: a name -> its address -> its object -> its parts
     (case e2 => PySem.W.k_is)
     ..
   obtain ⟨t, T⟩ := T
   have e0 := hmg.symm.trans (PySem.W.mg_of KX G T.law)
   cases e0                                       -- fa is the law's own address
   exact ⟨_, fun s u => .of_eq rfl, fun base kb nb => My.law_fn T kb nb⟩     -- if «.of_eq rfl» comes too early: refine' ⟨_, ?b, fun base kb nb => My.law_fn T kb nb⟩; exact fun s u => .of_eq rfl
 case S => exact fun w H a ns hl hO hS => ..
 case C => exact ..
(the tactic k_is has no namespace: write k_is) -/
namespace L2
open PySem PySem.Spec PyProof.Rows
def jO (s : Stmt) : Arguments := match s with
 | .FunctionDef _ a _ _ _ _ _ _ _ _ => a
 | _ => { posonlyargs := [], args := [], vararg := none, kwonlyargs := [], kw_defaults := [], kwarg := none, defaults := [] }
def j8 (s : Stmt) : List Stmt := match s with
 | .FunctionDef _ _ b _ _ _ _ _ _ _ => b
 | _ => []
def j6 (s : Stmt) : Scope := match s with
 | .FunctionDef _ _ _ _ _ _ sc _ _ _ => sc
 | _ => { kind := .function, names := [], isGenerator := false, isCoroutine := false }
abbrev CX0 : CXT := fun _ _ _ _ _ _ => False
abbrev E0 : XK := fun _ _ _ => False
theorem pass0 {X : Cx} : Passes CX0 X E0 := fun _ _ _ _ _ _ _ h => h.elim
structure Fun (K : W.Frag) (x qual : Str) (st : Stmt) (f : Addr) (fd : FuncData) : Prop where
 ex : ∃ (oc : Value) (od : Option Addr) (kV doc pm : Value) (an : Option Addr) (cdv ct : Value) (osl : Array (Option Value)),
   fd = PySem.W.fnOf x qual (jO st) (j8 st) (j6 st) .none kV doc pm an cdv ct ∧ K.lookup f = some ⟨oc, od, .func fd, osl⟩ ∧ PySem.W.codeIn K cdv qual = true
 kp : PySem.W.keepIn K (.ref f) = true
section
variable {P : Program} {w : World} {K : W.Frag} {mg : Str → Option Value} {base : Heap}
theorem Fun.ok {x qual : Str} {st : Stmt} {f : Addr} {fd : FuncData} {N ps : List Str} {k : Nat} {sp : Sp} (F : Fun K x qual st f fd) (S : FnScope N ps (j6 st)) (len : ∀ vs H Q E, sp vs H Q E → vs.length = ps.length)
   (hbody : ∀ (cdv : Value) (A : Around) (outer : List Env) (s : Shared) (H : Hp) (vs : List V) (Q : VK) (E : XK), Room k (A.deeper (envOfC qual (j6 st) s.heap.objs.size f cdv)) → sp vs H Q E →
     ∃ t, PSs (cxOf CX0 P w K mg base N qual (j6 st) f cdv A outer s H E).nox (j8 st) t ∧ t { nx := fun _ H' => Q .non H', rt := Q } (qR N vs) H) : FnOk P w K mg base CX0 (k + 1) f fd ps sp := by
 obtain ⟨oc, od, kV, doc, pm, an, cdv, ct, osl, rfl, lk, hcd⟩ := F.ex
 refine fn_of lk hcd S len fun A outer s H vs Q E hr hsp => ?_
 obtain ⟨t, h, q⟩ := hbody cdv A outer s H vs Q E hr hsp
 exact ⟨t, h.nox, q⟩
theorem Fun.binds {x qual : Str} {st : Stmt} {f : Addr} {fd : FuncData} {ps : List Str} (F : Fun K x qual st f fd)
   (h : ∀ (kV doc pm : Value) (an : Option Addr) (cdv ct : Value) (us : List Value), us.length = ps.length → bindArgs (PySem.W.fnOf x qual (jO st) (j8 st) (j6 st) .none kV doc pm an cdv ct) ⟨us, []⟩ = pure (ps.zip us)) : Binds K fd ps [] := by
 obtain ⟨oc, od, kV, doc, pm, an, cdv, ct, osl, rfl, lk, hcd⟩ := F.ex
 exact .all (h kV doc pm an cdv ct)
theorem jU {x qual : Str} {st : Stmt} {f : Addr} {oc : Value} {od an : Option Addr} {osl : Array (Option Value)} {kV doc pm cdv ct : Value} (l : K.lookup f = some ⟨oc, od, .func (PySem.W.fnOf x qual (jO st) (j8 st) (j6 st) .none kV doc pm an cdv ct), osl⟩)
   (c : PySem.W.codeIn K cdv qual = true) (k : PySem.W.keepIn K (.ref f) = true) : Fun K x qual st f (PySem.W.fnOf x qual (jO st) (j8 st) (j6 st) .none kV doc pm an cdv ct) := ⟨⟨oc, od, kV, doc, pm, an, cdv, ct, osl, rfl, l, c⟩, k⟩
end
section
variable {X : Cx}
theorem pv (i : Nat) {x : Str} {pos : Pos} (hN : X.N[i]? = some x := by rfl) (hv : Vis X.env.scope x := by first | exact Or.inl rfl | exact Or.inr (Or.inl rfl) | exact Or.inr (Or.inr rfl)) (hd : (x == ("__debug__" : Str)) = false := by decide)
   (hcd : (x == ("__classdict__" : Str)) = false := by decide) : PE X (.Name x pos) (tVar i) := pe_var hN hv hd hcd
end
theorem iteF {A B : Prop} (h : B) : if false = true then A else B := by
 rw [if_neg Bool.false_ne_true]
 exact h
theorem iteT {A B : Prop} (h : A) : if true = true then A else B := by
 rw [if_pos rfl]
 exact h
theorem ite2 {c A B : Prop} [Decidable c] (h1 : c → A) (h2 : ¬ c → B) : if c then A else B := by
 by_cases h : c
 · rw [if_pos h]
   exact h1 h
 · rw [if_neg h]
   exact h2 h
theorem qP {c A B : Prop} [Decidable c] (hc : c) (h : B) : if (!decide c) = true then A else B := by
 rw [decide_eq_true hc]
 exact iteF h
end L2
end
section
namespace L2
open PySem PySem.Spec PyProof.Rows
def yB (cells : List (Str × Addr)) : List (Str × NameKind) → List (Str × Addr) → List (Str × Addr)
 | [], acc => acc
 | (n, k) :: r, acc => if k = .free then yB cells r ((n, (cells.lookup n).getD 0) :: acc) else yB cells r acc
theorem closFor_go {env : Env} : ∀ (l : List (Str × NameKind)) (acc : List (Str × Addr)), (∀ y ∈ l, y.2 = .free → ∃ c, env.cells.lookup y.1 = some c) →
   (forIn l acc fun (x : Str × NameKind) (cs : List (Str × Addr)) => (if (x.2 == NameKind.free) = true then (do let a ← cellOf env x.1; pure (ForInStep.yield ((x.1, a) :: cs))) else pure (ForInStep.yield cs) : Sem (ForInStep (List (Str × Addr))))) = pure (yB env.cells l acc)
 | [], acc, _ => rfl
 | (n, k) :: r, acc, h => by
   have hr : ∀ y ∈ r, y.2 = .free → ∃ c, env.cells.lookup y.1 = some c := fun y hy => h y (List.mem_cons_of_mem _ hy)
   rw [List.forIn_cons]
   by_cases hk : k = .free
   · subst hk
     obtain ⟨c, hc⟩ := h (n, .free) List.mem_cons_self rfl
     have e : cellOf env n = pure c := by unfold cellOf; rw [hc]
     have e2 : yB env.cells ((n, NameKind.free) :: r) acc = yB env.cells r ((n, c) :: acc) := by
       show (if NameKind.free = NameKind.free then yB env.cells r ((n, (env.cells.lookup n).getD 0) :: acc) else _) = _
       rw [if_pos rfl, hc]; rfl
     rw [e2, ← closFor_go r ((n, c) :: acc) hr]
     show ((do let a ← cellOf env n; pure (ForInStep.yield ((n, a) :: acc))) >>= _) = _
     rw [e]; rfl
   · have hb : (k == NameKind.free) = false := by cases k <;> first | rfl | exact absurd rfl hk
     have e2 : yB env.cells ((n, k) :: r) acc = yB env.cells r acc := by
       show (if k = NameKind.free then _ else yB env.cells r acc) = _
       rw [if_neg hk]
     rw [e2, ← closFor_go r acc hr]
     show ((if (k == NameKind.free) = true then _ else pure (ForInStep.yield acc)) >>= _) = _
     rw [hb]; rfl
theorem closFor {env : Env} {sc : Scope} (h : ∀ y ∈ sc.names, y.2 = .free → ∃ c, env.cells.lookup y.1 = some c) : closureFor sc env = pure (yB env.cells sc.names []) := by
 unfold closureFor
 show (forIn sc.names [] _ >>= fun cs => pure cs) = _
 rw [show (forIn sc.names ([] : List (Str × Addr)) _ : Sem _) = _ from closFor_go sc.names [] h]
 rfl
theorem closOf_sub {cells : List (Str × Addr)} : ∀ (l : List (Str × NameKind)) (acc : List (Str × Addr)), (∀ y ∈ l, y.2 = .free → ∃ c, cells.lookup y.1 = some c) →
   (∀ x c, acc.lookup x = some c → cells.lookup x = some c) → ∀ x c, (yB cells l acc).lookup x = some c → cells.lookup x = some c
 | [], acc, _, ha => ha
 | (n, k) :: r, acc, h, ha => by
   have hr : ∀ y ∈ r, y.2 = .free → ∃ c, cells.lookup y.1 = some c := fun y hy => h y (List.mem_cons_of_mem _ hy)
   unfold yB
   by_cases hk : k = .free
   · rw [if_pos hk]
     obtain ⟨c0, hc⟩ := h (n, k) List.mem_cons_self hk
     refine closOf_sub r _ hr fun x c e => ?_
     rw [List.lookup_cons] at e
     cases hx : x == n with
     | true =>
       rw [hx] at e
       have exn : x = n := eq_of_beq hx
       subst exn
       have hc' : cells.lookup x = some c0 := hc
       rw [hc'] at e ⊢
       exact e
     | false => rw [hx] at e; exact ha x c e
   · rw [if_neg hk]; exact closOf_sub r acc hr ha
theorem closOf_has {cells : List (Str × Addr)} {x : Str} : ∀ (l : List (Str × NameKind)) (acc : List (Str × Addr)), ((x, NameKind.free) ∈ l ∨ ∃ c, acc.lookup x = some c) → ∃ c, (yB cells l acc).lookup x = some c
 | [], acc, h => by
   rcases h with h | h
   · cases h
   · exact h
 | (n, k) :: r, acc, h => by
   unfold yB
   by_cases hk : k = .free
   · rw [if_pos hk]
     refine closOf_has r _ ?_
     by_cases e : x = n
     · subst e
       exact .inr ⟨_, by rw [List.lookup_cons, beq_self_eq_true]⟩
     · rcases h with h | ⟨c, h⟩
       · rcases List.mem_cons.mp h with q | q
         · cases q; exact absurd rfl e
         · exact .inl q
       · refine .inr ⟨c, ?_⟩
         rw [List.lookup_cons, beq_eq_false_iff_ne.mpr e]
         exact h
   · rw [if_neg hk]
     refine closOf_has r _ ?_
     rcases h with h | h
     · rcases List.mem_cons.mp h with q | q
       · cases q; exact absurd rfl hk
       · exact .inl q
     · exact .inr h
theorem mem_lookup {x : Str} {k : NameKind} : ∀ {l : List (Str × NameKind)}, l.lookup x = some k → (x, k) ∈ l
 | [], h => by cases h
 | (n, k') :: r, h => by
   rw [List.lookup_cons] at h
   cases hx : x == n with
   | true => rw [hx] at h; cases h; rw [eq_of_beq hx]; exact List.mem_cons_self
   | false => rw [hx] at h; exact List.mem_cons_of_mem _ (mem_lookup h)
theorem relab_free {env : Env} {x : Str} {k : NameKind} (hk : k = .cell ∨ k = .free) : ∀ {l : List (Str × NameKind)}, (∀ y ∈ l, y.2 ≠ .cell) →
   (l.map fun (n, k) => if (k == NameKind.free && env.scope.kind == .function && env.kindOf n == some .cell) then (n, NameKind.cell) else (n, k)).lookup x = some k → l.lookup x = some .free
 | [], _, h => by simp at h
 | (n, k') :: r, hc, h => by
   have ih := @relab_free env x k hk r (fun y hy => hc y (List.mem_cons_of_mem _ hy))
   have hc0 : k' ≠ .cell := hc (n, k') List.mem_cons_self
   rw [List.lookup_cons]
   rw [List.map_cons] at h
   dsimp only at h
   by_cases hb : (k' == NameKind.free && env.scope.kind == .function && env.kindOf n == some .cell) = true
   · rw [if_pos hb, List.lookup_cons] at h
     cases hx : x == n with
     | true =>
       have : k' = .free := by
         simp only [Bool.and_eq_true] at hb
         exact eq_of_beq hb.1.1
       rw [this]
     | false => rw [hx] at h; exact ih h
   · rw [if_neg hb, List.lookup_cons] at h
     cases hx : x == n with
     | true =>
       rw [hx] at h
       have e : k' = k := Option.some.inj h
       rcases hk with q | q
       · exact absurd (e.trans q) hc0
       · rw [e, q]
     | false => rw [hx] at h; exact ih h
theorem free_relab {env : Env} {x : Str} : ∀ {l : List (Str × NameKind)}, l.lookup x = some .free →
   (l.map fun (n, k) => if (k == NameKind.free && env.scope.kind == .function && env.kindOf n == some .cell) then (n, NameKind.cell) else (n, k)).lookup x = some .cell ∨
   (l.map fun (n, k) => if (k == NameKind.free && env.scope.kind == .function && env.kindOf n == some .cell) then (n, NameKind.cell) else (n, k)).lookup x = some .free
 | [], h => by cases h
 | (n, k') :: r, h => by
   have ih := @free_relab env x r
   rw [List.lookup_cons] at h
   rw [List.map_cons]
   dsimp only
   by_cases hb : (k' == NameKind.free && env.scope.kind == .function && env.kindOf n == some .cell) = true
   · rw [if_pos hb, List.lookup_cons]
     cases hx : x == n with
     | true => exact .inl rfl
     | false => rw [hx] at h; exact ih h
   · rw [if_neg hb, List.lookup_cons]
     cases hx : x == n with
     | true => rw [hx] at h; exact .inr h
     | false => rw [hx] at h; exact ih h
section
variable {prog : Program} {w : World} {A : Around} {R : Result → Shared → Prop} {s : Shared}
abbrev testsOf (ifs : List Expr) (env : Env) : Sem Bool := forIn ifs true fun c r => if r = true then do let ok ← isTrue c env (eval c env); pure (ForInStep.yield ok) else pure (ForInStep.yield r)
theorem comp_turns {elt tg iter : Expr} {ifs : List Expr} {sc : Scope} {pos : Pos} {it acc : Value} {env : Env} (J : Nat → Shared → Prop)
   (turn : ∀ n z, J n z → wpAny (model prog w) A (pyNext it) (fun r z1 => match r with
     | none => R (.ok .next) z1
     | some v => wpAny (model prog w) A (letOwnedTupleGo tg it v) (fun _ z2 => wpAny (model prog w) A (assign tg env v) (fun _ z3 => wpAny (model prog w) A (testsOf ifs env) (fun ok z4 =>
         if ok = true then wpAny (model prog w) A (eval elt env) (fun x z5 => wpAny (model prog w) A (call (.builtin "list.append") [acc, x]) (fun _ z6 => ∃ k, k < n ∧ J k z6) (fun _ _ => False) z5) (fun _ _ => False) z4
         else ∃ k, k < n ∧ J k z4) (fun _ _ => False) z3) (fun _ _ => False) z2) (fun _ _ => False) z1) (fun _ _ => False) z)
   (n : Nat) (h : J n s) : codeAny (model prog w) A (.compLoop (.ListComp elt [⟨tg, iter, ifs, 0⟩] sc pos) 0 it acc env) R s := by
 refine codeAny_loop rfl J (fun k z hJ => ?_) n h
 have noE : ∀ {α : Type} {t : Sem α} {Q : α → Shared → Prop} {E : Value → Shared → Prop} {z : Shared}, wpAny (model prog w) A t Q (fun _ _ => False) z → wpAny (model prog w) A t Q E z :=
   fun q => wpAny_mono q (fun _ _ a => a) fun _ _ f => f.elim
 show wpAny _ A ((compTurn (.ListComp elt [⟨tg, iter, ifs, 0⟩] sc pos) 0 it acc env).onRaise (fun x => do noteFrame x env; theTreesLotGoes x)) _ _ z
 refine wpAny_noted ?_
 rw [compTurn_list]
 refine wpAny_bind (wpAny_standAt (wpAny_bind (wpAny_mono (turn k z hJ) (fun r z1 q1 => ?_) fun _ _ f => f.elim)))
 cases r with
 | none => exact wpAny_pure q1
 | some v =>
   refine wpAny_bind (wpAny_mono q1 (fun _ z2 q2 => ?_) fun _ _ f => f.elim)
   refine wpAny_bind (wpAny_mono q2 (fun _ z3 q3 => ?_) fun _ _ f => f.elim)
   refine wpAny_bind (wpAny_mono q3 (fun ok z4 q4 => ?_) fun _ _ f => f.elim)
   cases ok with
   | false => exact wpAny_pure ⟨rfl, q4⟩
   | true =>
     refine wpAny_bind (wpAny_bind (wpAny_mono q4 (fun x z5 q5 => ?_) fun _ _ f => f.elim))
     exact wpAny_bind (wpAny_mono q5 (fun _ z6 q6 => wpAny_pure (wpAny_pure ⟨rfl, q6⟩)) fun _ _ f => f.elim)
end
def blk (X : Cx) (sc : Scope) (cl : List (Str × Addr)) (C : Addr) (Nc : List Str) (fp : List Addr) (s : Shared) (H : Hp) : Cx where
 prog := X.prog
 w := X.w
 K := X.K
 mg := X.mg
 base := X.base
 A := X.A
 N := Nc
 s₀ := s
 H₀ := H
 env := compEnvC sc cl C X.env
 outer := X.stack
 stack := X.stack
 ex := fp
 fn := fun _ => false
 calm := X.calm
 pn := []
 xe := fun _ _ => False
def blkσ (m : List (Option Nat)) (σ : St) : St := m.map fun o => match o with
 | none => none
 | some i => (σ[i]?).getD none
def PTs (X : Cx) (ifs : List Expr) (t : TT) : Prop :=
 ∀ (pins : List (Addr × Obj)) (s : Shared) (σ : St) (H : Hp) (Q : Bool → Hp → Prop), Inv X pins σ H s → t σ H Q → wpAny (model X.prog X.w) X.A (testsOf ifs X.env) (TP X pins σ Q) X.xe s
def qQ : TT := fun _ H Q => Q true H
theorem pts_nil {X : Cx} : PTs X [] qQ := fun _ _ _ H _ I h => wpAny_tests_nil ⟨H, I, h⟩
theorem pts_one {X : Cx} {c : Expr} {t : TT} (h : PT X c t) : PTs X [c] t := fun pins s σ H Q I q => wpAny_tests_one (h pins s σ H Q I q)
def CompW (m : List (Option Nat)) (g : TG) (tt : TT) (te : TE) (σ : St) (Q : VK) (J : It) (H1 : Hp) : Prop := ∀ D, H1 D = none → ∃ W : Nat → Nat → St → Hp → List V → Prop,
   (∃ n, W 0 n (blkσ m σ) (upd H1 D (.lst [])) []) ∧ ∀ i n σ' H' ys, W i n σ' H' ys → H' D = some (.lst ys) ∧ ys.length < sizeLine ∧
     ((J.stop i H' ∧ Q (.ref D) H') ∨ (J.go i H' ∧ ∃ N : St → Hp → List V → Prop, (∀ σ2 H2 zs, N σ2 H2 zs → ∃ n', n' < n ∧ W (i + 1) n' σ2 H2 zs) ∧ ∀ x H'', J.yld i H' x H'' → g x σ' H'' fun σ2 H2 => tt σ2 H2 fun b H3 =>
       if b = true then te σ2 H3 fun v H4 => H4 D = some (.lst ys) ∧ N σ2 (upd H4 D (.lst (ys ++ [v]))) (ys ++ [v])
       else N σ2 H3 ys))
def tComp (m : List (Option Nat)) (wi : TI) (g : TG) (tt : TT) (te : TE) : TE := fun σ H Q => wi σ H (CompW m g tt te σ Q)
theorem Un.sameBut {fs ex : List Addr} {H H' : Hp} {h h1 h2 : Heap} {C : Addr} (u : Un fs ex H H' h h1) (sb : Heap.SameBut C h1 h2) (hC : h.objs.size ≤ C) : Un fs ex H H' h h2 := by
 have ne : ∀ {b : Addr} {o : Obj}, h.get? b = some o → b ≠ C := fun e => Nat.ne_of_lt (Nat.lt_of_lt_of_le (Heap.lt_size e) hC)
 refine ⟨fun b o e n hf hx => (sb.2 b (ne e)).trans (u.keep b o e n hf hx), fun b o e n hf hx => ?_, u.free, fun b o e hx => ?_, u.tups, u.frzs, u.tbls⟩
 · obtain ⟨sl, q⟩ := u.slot b o e n hf hx
   exact ⟨sl, (sb.2 b (ne e)).trans q⟩
 · obtain ⟨o', q⟩ := u.there b o e hx
   exact ⟨o', (sb.2 b (ne e)).trans q⟩
theorem HOk.sameBut {P : Program} {w : World} {H : Hp} {h1 h2 : Heap} {C : Addr} (x : HOk P w H h1) (sb : Heap.SameBut C h1 h2) (hC : H C = none) : HOk P w H h2 := fun a o e =>
 (x a o e).stay (fun b u hb q => (sb.2 b (by
   rintro rfl
   rcases hb with rfl | hb
   · rw [hC] at e; cases e
   · rw [hC] at hb; cases hb)).trans q) (fun _ q => q) fun _ _ q => q
section
variable {X : Cx} {tg iter elt : Expr} {ifs : List Expr} {sc : Scope} {pos : Pos} {wi : TI} {g : TG} {tt : TT} {te : TE} {m : List (Option Nat)} {Nc : List Str}
def FreeAt (X : Cx) (sc : Scope) (Nc : List Str) (m : List (Option Nat)) : Prop :=
 m.length = Nc.length ∧ ∀ (k i : Nat), m[k]? = some (some i) → ∃ x, Nc[k]? = some x ∧ X.N[i]? = some x ∧ sc.names.lookup x = some .free
theorem blk_start {pins : List (Addr × Obj)} {s : Shared} {σ : St} {H : Hp} {fp : List Addr} (I : Inv X pins σ H s) (hkind : sc.kind = .function) (hcell : ∀ y ∈ sc.names, y.2 ≠ .cell)
   (hfree : ∀ y ∈ sc.names, y.2 = .free → X.env.scope.names.lookup y.1 = some .cell ∨ X.env.scope.names.lookup y.1 = some .free) (hm : FreeAt X sc Nc m) (hfp : ∀ b ∈ fp, FpOk X pins H b) (hlt : ∀ b ∈ fp, b < s.heap.objs.size)
   {h1 : Heap} {tk : Nat} {md : Str → Option Value} (hns : h1.Ns s.heap.objs.size md) (old : ∀ b o, s.heap.get? b = some o → h1.get? b = some o) :
   Inv (blk X sc (yB X.env.cells sc.names []) s.heap.objs.size Nc fp s H) [] (blkσ m σ) H { s with heap := h1, toks := tk } := by
 have hcl : ∀ y ∈ sc.names, y.2 = .free → ∃ c, X.env.cells.lookup y.1 = some c := fun y hy hf => I.ok.has y.1 (hfree y hy hf)
 have sub : ∀ x c, (yB X.env.cells sc.names []).lookup x = some c → X.env.cells.lookup x = some c := closOf_sub sc.names [] hcl (fun x c e => by cases e)
 have isfree : ∀ x, (compEnvC sc (yB X.env.cells sc.names []) s.heap.objs.size X.env).kindOf x = some .cell ∨ (compEnvC sc (yB X.env.cells sc.names []) s.heap.objs.size X.env).kindOf x = some .free → sc.names.lookup x = some .free := fun x h => by
   rcases h with h | h
   · exact relab_free (.inl rfl) hcell h
   · exact relab_free (.inr rfl) hcell h
 refine ⟨⟨I.ok.mod, hkind, I.ok.glob, I.ok.blt, Nat.le_refl _, fun x y c h1 h2 => I.ok.inj x y c (sub x c h1) (sub y c h2), fun x hx => ?_, fun x c hf _ => ?_, I.ok.hd, I.ok.frames, .inl rfl, fun b hb => ?_, I.bs, Nat.le_trans I.ok.bsz I.sz, fun b o e hb => ?_, fun b hb hz => ?_, I.stack, I.stkFree⟩,
   rfl, I.bare, Un.kept old, ⟨md, hns, fun k x v e1 e2 e3 => ?_⟩, fun x c e => ?_, I.hok.fresh (Nat.le_refl _), fun x c e => I.freeC x c (sub x c e), fun p hp => absurd (show p ∈ ([] : List (Addr × Obj)) from hp) (by simp), I.hok.kept old, ?_⟩
 · exact closOf_has sc.names [] (.inl (mem_lookup (isfree x hx)))
 · exact absurd (show false = true from hf) Bool.false_ne_true
 · obtain ⟨f0, f1, f2, f3, f4, f5⟩ := hfp b hb
   exact ⟨Nat.ne_of_lt (hlt b hb), fun x c e => f4 x c (sub x c e)⟩
 · obtain ⟨f0, f1, f2, f3, f4, f5⟩ := hfp b hb
   rcases f3 with q | q
   · exact I.ok.noex b o e q
   · exact absurd (Nat.lt_of_lt_of_le (Heap.lt_size (I.ok.bs b o e).1) q) (Nat.lt_irrefl _)
 · obtain ⟨f0, f1, f2, f3, f4, f5⟩ := hfp b hb
   rcases List.mem_cons.mp (I.stkSub b hz) with q | q
   · exact f1 q
   · exact f2 q
 · have e2' : ∃ i, m[k]? = some (some i) ∧ σ[i]? = some (some v) := by
     unfold blkσ at e2
     rw [List.getElem?_map] at e2
     cases q : m[k]? with
     | none => rw [q] at e2; cases e2
     | some o =>
       rw [q] at e2
       cases o with
       | none => cases e2
       | some i =>
         refine ⟨i, rfl, ?_⟩
         have e2 : (σ[i]?).getD none = some v := Option.some.inj e2
         cases r : σ[i]? with
         | none => rw [r] at e2; cases e2
         | some z => rw [r] at e2; exact congrArg some e2
   obtain ⟨i, q1, q2⟩ := e2'
   obtain ⟨x', a1, a2, a3⟩ := hm.2 k i q1
   have e1' : Nc[k]? = some x := e1
   rw [e1'] at a1
   cases a1
   have vis := hfree (x, .free) (mem_lookup a3) rfl
   obtain ⟨m0, hn0, hl0⟩ := I.loc
   obtain ⟨u, r, l⟩ := hl0 i x v a2 q2 (.inr vis)
   refine ⟨u, r, .inr ⟨free_relab a3, ?_⟩⟩
   obtain ⟨c, hc⟩ := closOf_has (cells := X.env.cells) (x := x) sc.names [] (.inl (mem_lookup a3))
   rcases l with ⟨lk, _⟩ | ⟨_, c', hc', o, ho, hd⟩
   · have lk' : X.env.scope.names.lookup x = some .local := lk
     rcases vis with z | z
     · rw [lk'] at z; cases z
     · rw [lk'] at z; cases z
   · have := sub x c hc
     rw [hc'] at this
     cases this
     exact ⟨c, hc, o, old _ _ ho, hd⟩
 · obtain ⟨v, o, ho, hd⟩ := I.cell x c (sub x c e)
   exact ⟨v, o, old _ _ ho, hd⟩
 · show (blkσ m σ).length = Nc.length
   unfold blkσ
   rw [List.length_map]
   exact hm.1
theorem pe_comp (hc : X.calm = true) (hi : PI X tg iter wi) (hkind : sc.kind = .function) (hcell : ∀ y ∈ sc.names, y.2 ≠ .cell) (hnames : ∀ y ∈ sc.names, y.2 = .local → sc.names.lookup y.1 = some .local)
   (hfree : ∀ y ∈ sc.names, y.2 = .free → X.env.scope.names.lookup y.1 = some .cell ∨ X.env.scope.names.lookup y.1 = some .free) (hm : FreeAt X sc Nc m)
   (hg : ∀ cl C fp s H, PG (blk X sc cl C Nc fp s H) tg g) (ht : ∀ cl C fp s H, PTs (blk X sc cl C Nc fp s H) ifs tt) (he : ∀ cl C fp s H, PE (blk X sc cl C Nc fp s H) elt te)
   (hs : ∀ x, foldedSetIterable iter X.env x = pure x := by intro _; rfl) : PE X (.ListComp elt [⟨tg, iter, ifs, 0⟩] sc pos) (tComp m wi g tt te) := by
 intro pins s σ H Q I h
 rw [eval_ListComp]
 have hcl : ∀ y ∈ sc.names, y.2 = .free → ∃ c, X.env.cells.lookup y.1 = some c := fun y hy hf => I.ok.has y.1 (hfree y hy hf)
 refine wpAny_comprehension_free (use := none) rfl hs (closFor hcl) hkind hnames (thn (hi pins s σ H _ I h) fun v s1 h1 => thn h1 fun itv s2 h2 => ?_)
 obtain ⟨it, fp, tn, J, H2, e, I2, T, st2, f2, hQ⟩ := h2
 subst e
 have hlt : ∀ b ∈ fp, b < s2.heap.objs.size := fun b hb => by
   obtain ⟨o, e, _⟩ := T.obj 0 _ st2 b hb
   exact Heap.lt_size e
 refine wpAny_newObj_type (wpAny_newFunctionEnv hcell (by intro y hy; simp at hy) (fun h₁ hns₁ hsb₁ => ?_) hkind)
 have I3 : Inv X pins σ (upd H2 s2.heap.objs.size (.lst [])) { s2 with heap := s2.heap.push { cls := .type "list", data := .seq ([] : List Value).toArray } } := I2.lnew (t' := s2.toks) .nil (Nat.zero_le _)
 obtain ⟨W, ⟨n0, w0⟩, turn⟩ := hQ s2.heap.objs.size I2.fresh
 have hD3 : ∀ b ∈ fp, b ≠ s2.heap.objs.size := fun b hb => Nat.ne_of_lt (hlt b hb)
 have f3 : ∀ b ∈ fp, FpOk X pins (upd H2 s2.heap.objs.size (.lst [])) b := fun b hb => by
   obtain ⟨a0, a1⟩ := f2 b hb
   exact ⟨by rw [jD (hD3 b hb)]; exact a0, a1⟩
 generalize hE : ({ s2 with heap := s2.heap.push { cls := .type "list", data := .seq ([] : List Value).toArray } } : Shared) = s3 at I3 hns₁ hsb₁ ⊢
 generalize hH3 : upd H2 s2.heap.objs.size (.lst []) = H3 at I3 f3 w0
 have hsz3 : s3.heap.objs.size = s2.heap.objs.size + 1 := by rw [← hE]; exact Heap.size_push _ _
 have old : ∀ b o, s3.heap.get? b = some o → h₁.get? b = some o := fun b o e => hsb₁.extBut b o (Nat.ne_of_lt (Heap.lt_size e)) (Heap.get?_push_of_some _ e)
 have old2 : ∀ b o, s2.heap.get? b = some o → h₁.get? b = some o := fun b o e => old b o (by rw [← hE]; exact Heap.get?_push_of_some _ e)
 have I4 := blk_start (fp := fp) (tk := s3.toks + ([] : List (Str × Value)).length) I3 hkind hcell hfree hm f3 (fun b hb => show b < s3.heap.objs.size by rw [hsz3]; exact Nat.lt_succ_of_lt (hlt b hb)) hns₁ old
 have st4 : tn 0 h₁ := T.keep _ _ _ st2 fun b hb o e => old2 b o e
 have loop : codeAny (model X.prog X.w) X.A (.compLoop (.ListComp elt [⟨tg, iter, ifs, 0⟩] sc pos) 0 (.ref it) (.ref s2.heap.objs.size) (compEnvC sc (yB X.env.cells sc.names []) s3.heap.objs.size X.env))
     (compPost (model X.prog X.w) X.A X.xe none (EP X pins σ Q) (.ref s2.heap.objs.size) s3.heap.objs.size) { s3 with heap := h₁, toks := s3.toks + ([] : List (Str × Value)).length } := by
   generalize hX : blk X sc (yB X.env.cells sc.names []) s3.heap.objs.size Nc fp s3 H3 = Xb at I4
   have eP : Xb.prog = X.prog := by rw [← hX]; rfl
   have ew : Xb.w = X.w := by rw [← hX]; rfl
   have eK : Xb.K = X.K := by rw [← hX]; rfl
   have eA : Xb.A = X.A := by rw [← hX]; rfl
   have ec : Xb.calm = true := by rw [← hX]; exact hc
   have ee : Xb.env = compEnvC sc (yB X.env.cells sc.names []) s3.heap.objs.size X.env := by rw [← hX]; rfl
   have ex : Xb.xe = fun _ _ => False := by rw [← hX]; rfl
   have hgb : PG Xb tg g := by rw [← hX]; exact hg _ _ _ _ _
   have htb : PTs Xb ifs tt := by rw [← hX]; exact ht _ _ _ _ _
   have heb : PE Xb elt te := by rw [← hX]; exact he _ _ _ _ _
   have stat : ∀ {H' : Hp}, (∀ b ∈ fp, H' b = none) → ∀ b ∈ fp, FpOk Xb [] H' b := fun {H'} hn b hb => by
     obtain ⟨o, eo, _⟩ := T.obj _ _ st4 b hb
     have q := I4.ok.exf b (by rw [← hX]; exact hb)
     exact ⟨hn b hb, q.1, I4.ok.exfs b (by rw [← hX]; exact hb), .inl (by rw [← hX]; exact hb), q.2, fun p hp => absurd hp (by rw [← hX]; simp [blk])⟩
   have fr4 : ∀ b ∈ fp, H3 b = none := fun b hb => (f3 b hb).1
   unfold PG at hgb
   unfold PTs at htb
   unfold PE at heb
   rw [eP, ew, eA, ee, ex] at hgb htb heb
   refine comp_turns (fun n z => ∃ i σ' H' ys, Inv Xb [] σ' H' z ∧ tn i z.heap ∧ (∀ b ∈ fp, H' b = none) ∧ W i n σ' H' ys) ?_ n0 ⟨0, _, H3, [], I4, st4, fr4, w0⟩
   rintro n z ⟨i, σ5, H5, ys, I5, st5, fr5, w5⟩
   obtain ⟨hD, hlen, way⟩ := turn i n σ5 H5 ys w5
   rcases way with ⟨stop, q⟩ | ⟨go, N, hN, step⟩
   · have R := T.done Xb eP ew eK ec i [] z σ5 H5 (fun _ _ => False) I5 (stat fr5) st5 stop
     rw [eA] at R
     refine thn R fun r z1 ⟨hr, I6⟩ => ?_
     subst hr
     obtain ⟨mm, hn6, _⟩ := I6.loc
     rw [ee] at hn6
     refine ⟨mm, hn6, fun h' sb => ?_⟩
     have u6 : Un (frs X.stack) fp H3 H5 s3.heap z1.heap := by
       have := I6.base
       rw [← hX] at this
       exact this
     have fC : H5 s3.heap.objs.size = none := by
       have := I6.free
       rw [ee] at this
       exact this
     have hok6 : HOk X.prog X.w H5 z1.heap := by
       have := I6.hok
       rw [eP, ew] at this
       exact this
     have os6 : z1.os = s3.os := by
       have := I6.os
       rw [← hX] at this
       exact this
     refine ⟨.ref s2.heap.objs.size, H5, I3.call' (s' := { z1 with heap := h' }) (ch := fp) os6 (u6.sameBut sb (Nat.le_refl _)) (hok6.sameBut sb fC) I6.bare (fun b hb => ?_), rfl, q⟩
     obtain ⟨a0, a1, a2, a3, a4, a5⟩ := f3 b hb
     exact ⟨a3, a1, a4, a5⟩
   · have R := T.item Xb eP ew eK ec i [] z σ5 H5 (fun _ _ => False) I5 (stat fr5) st5 go
     rw [eA] at R
     refine thn R fun r z1 ⟨u, hr, h6⟩ => ?_
     subst hr
     refine thn h6 fun _ z2 ⟨x, H7, I7, r7, y7, st7, fr7⟩ => ?_
     have I7' := I7.pinned (stat fr7) (T.obj _ _ st7)
     refine thn (hgb _ z2 σ5 H7 x u _ I7' r7 (step x H7 y7)) fun _ z3 ⟨σ8, H8, I8, q8⟩ => ?_
     refine thn (htb _ z3 σ8 H8 _ I8 q8) fun ok z4 ⟨H9, I9, q9⟩ => ?_
     have again : ∀ {σ7 : St} {Hz : Hp} {zz : Shared} {yy : List V} {n' : Nat}, Inv Xb ([] ++ pinsAt fp z2.heap) σ7 Hz zz → n' < n → W (i + 1) n' σ7 Hz yy → ∃ k, k < n ∧ ∃ i σ' H' ys, Inv Xb [] σ' H' zz ∧ tn i zz.heap ∧ (∀ b ∈ fp, H' b = none) ∧ W i k σ' H' ys := fun {σ7 Hz zz yy n'} Iz hn wz => by
       refine ⟨n', hn, i + 1, σ7, Hz, yy, Iz.unpinned, T.keep _ _ _ st7 fun b hb o e => (Iz.pin (b, o) (List.mem_append_right _ (List.mem_append_right _ (mem_pinsAt hb e)))).1, fun b hb => ?_, wz⟩
       obtain ⟨o, e, d⟩ := T.obj _ _ st7 b hb
       exact (Iz.pin (b, o) (List.mem_append_right _ (List.mem_append_right _ (mem_pinsAt hb e)))).2.1
     cases ok with
     | false =>
       obtain ⟨n', hn, w9⟩ := hN _ _ _ (show N σ8 H9 ys from q9)
       exact again I9 hn w9
     | true =>
       refine thn (heb _ z4 σ8 H9 _ I9 q9) fun xv z5 ⟨vv, H10, I10, r10, hD10, n10⟩ => ?_
       obtain ⟨n', hn, w10⟩ := hN _ _ _ n10
       have R := mt_append (X := Xb) _ z5 σ8 H10 (.ref s2.heap.objs.size) [vv] (.ref s2.heap.objs.size) [xv] (fun _ H' => H' = upd H10 s2.heap.objs.size (.lst (ys ++ [vv]))) I10 rfl (.cons r10 .nil) ⟨_, ys, vv, rfl, rfl, hD10, hlen, rfl⟩
       rw [eP, ew, eA, ex] at R
       refine thn R fun _ z6 ⟨_, H11, I11, _, e11⟩ => ?_
       subst e11
       exact again I11 hn w10
 exact codeAny_compStart_list loop (T.self _ 0 _ _ _ st4 loop)
end
theorem kT {X : Cx} {sc psc : Scope} (h : (sc.names.all fun y => decide (y.2 = .free → psc.names.lookup y.1 = some .cell ∨ psc.names.lookup y.1 = some .free)) = true) (e : X.env.scope = psc := by rfl) :
   ∀ y ∈ sc.names, y.2 = .free → X.env.scope.names.lookup y.1 = some .cell ∨ X.env.scope.names.lookup y.1 = some .free := by
 rw [e]
 intro y hy
 exact of_decide_eq_true (List.all_eq_true.mp h y hy)
def freeAtB (sc : Scope) (N Nc : List Str) (m : List (Option Nat)) (k : Nat) : Bool := match m[k]? with
 | some (some i) => match Nc[k]? with
   | some x => decide (N[i]? = some x) && decide (sc.names.lookup x = some .free)
   | none => false
 | _ => true
theorem jW {X : Cx} {sc : Scope} {N Nc : List Str} {m : List (Option Nat)} (e : X.N = N) (hl : m.length = Nc.length) (h : ((List.range m.length).all (freeAtB sc N Nc m)) = true) : FreeAt X sc Nc m := by
 refine ⟨hl, fun k i hk => ?_⟩
 have hlt : k < m.length := (List.getElem?_eq_some_iff.mp hk).1
 have q := List.all_eq_true.mp h k (List.mem_range.mpr hlt)
 unfold freeAtB at q
 rw [hk] at q
 cases e2 : Nc[k]? with
 | none => rw [e2] at q; cases q
 | some x =>
   rw [e2] at q
   have q : (decide (N[i]? = some x) && decide (sc.names.lookup x = some .free)) = true := q
   rw [Bool.and_eq_true] at q
   exact ⟨x, rfl, by rw [e]; exact of_decide_eq_true q.1, of_decide_eq_true q.2⟩
section
variable {m : List (Option Nat)} {g : TG} {tt : TT} {te : TE} {σ : St} {H1 : Hp} {Q : VK}
theorem comp_rng {lo : Int} {n : Nat} (hn : n < sizeLine) (Pv : Addr → Nat → St → Hp → List V → Prop) (h0 : ∀ D, H1 D = none → Pv D 0 (blkσ m σ) (upd H1 D (.lst [])) [])
   (hD : ∀ D i σ' H' ys, H1 D = none → i ≤ n → Pv D i σ' H' ys → H' D = some (.lst ys) ∧ ys.length ≤ i)
   (hs : ∀ D i σ' H' ys, H1 D = none → i < n → Pv D i σ' H' ys → g (.int (lo + i)) σ' H' fun σ2 H2 => tt σ2 H2 fun b H3 => if b = true then te σ2 H3 fun v H4 => H4 D = some (.lst ys) ∧ Pv D (i + 1) σ2 (upd H4 D (.lst (ys ++ [v]))) (ys ++ [v]) else Pv D (i + 1) σ2 H3 ys)
   (hd : ∀ D σ' H' ys, H1 D = none → Pv D n σ' H' ys → Q (.ref D) H') : CompW m g tt te σ Q (Itr lo n) H1 := by
 intro D hDn
 refine ⟨fun i k σ' H' ys => k = n - i ∧ i ≤ n ∧ Pv D i σ' H' ys, ⟨n, rfl, Nat.zero_le _, h0 D hDn⟩, ?_⟩
 rintro i k σ' H' ys ⟨rfl, hi, p⟩
 obtain ⟨q1, q2⟩ := hD D i σ' H' ys hDn hi p
 refine ⟨q1, by omega, ?_⟩
 by_cases hlt : i < n
 · refine .inr ⟨hlt, Pv D (i + 1), fun σ2 H2 zs z => ⟨n - (i + 1), by omega, rfl, hlt, z⟩, fun x H'' y => ?_⟩
   obtain ⟨e1, e2⟩ := y
   subst e1 e2
   exact hs D i σ' _ ys hDn hlt p
 · have e : i = n := by omega
   subst e
   exact .inl ⟨Nat.le_refl _, hd D σ' H' ys hDn p⟩
end
end L2
end
section
namespace L2
open PySem PySem.Spec PyProof.Rows
section
variable {es : List Expr} {env : Env} {a b : Expr} {pos : Pos} {xs ys : List Expr}
theorem jS {op : Operator} : starEach (.BinOp a op b pos :: es) env = (false, eval (.BinOp a op b pos) env) :: starEach es env := rfl
theorem se_un {op : UnaryOp} : starEach (.UnaryOp op a pos :: es) env = (false, eval (.UnaryOp op a pos) env) :: starEach es env := rfl
theorem se_cmp {ops : List CmpOp} : starEach (.Compare a ops xs pos :: es) env = (false, eval (.Compare a ops xs pos) env) :: starEach es env := rfl
theorem jL {kw : List Keyword} : starEach (.Call a xs kw pos :: es) env = (false, eval (.Call a xs kw pos) env) :: starEach es env := rfl
theorem jE : starEach (.Subscript a b pos :: es) env = (false, eval (.Subscript a b pos) env) :: starEach es env := rfl
theorem kR {gs sc} : starEach (.ListComp a gs sc pos :: es) env = (false, eval (.ListComp a gs sc pos) env) :: starEach es env := rfl
theorem kO {x1} : starEach (.Tuple xs x1 pos :: es) env = (false, eval (.Tuple xs x1 pos) env) :: starEach es env := rfl
theorem se_lst : starEach (.List xs pos :: es) env = (false, eval (.List xs pos) env) :: starEach es env := rfl
theorem j7 {c k} : starEach (.Constant c k pos :: es) env = (false, eval (.Constant c k pos) env) :: starEach es env := rfl
theorem j1 {x : Str} : starEach (.Name x pos :: es) env = (false, eval (.Name x pos) env) :: starEach es env := rfl
end
section
variable {X : Cx}
def CDivL (i j : Int) : Prop := 0 < j ∧ j < 2 ^ 64
theorem op_fdivL : OpR X (binaryOp .FloorDiv) (rI CDivL fun i j => .int (i / j)) := opI fun i j _ _ _ _ _ hc q => by
 have h1 : (0 : Int) < j := hc.1
 have h2 : j < 2 ^ 64 := hc.2
 refine floordiv_int (by omega) (by rw [Int.fdiv_eq_ediv_of_nonneg i (by omega)]; exact q) (.inl (PyProof.noPylong_of_log2 ?_))
 have h3 : j.natAbs < 2 ^ 64 := by omega
 have h4 : j.natAbs ≠ 0 := by omega
 have := (Nat.log2_lt h4).mpr h3
 omega
theorem jY : qF X (.builtin "isinstance") (fun xs H Q => ∃ x T t b, xs = [x, .ty T] ∧ TyOf X.K H x t ∧ PySem.W.kitOne X.K t (.type T) = some b ∧ Q (.bl b) H) := by
 intro pins s σ H xs us Q I r h
 obtain ⟨x, T, t, b, rfl, ty, e, q⟩ := h
 obtain ⟨u, v, rfl, ru, rv⟩ := r.two
 cases rv
 exact isinst_ok I ru ty e fun tk => ⟨.bl b, H, I.tok tk, rfl, q⟩
def rInsert : V → List V → Hp → VK → Prop := fun x vs H Q => ∃ l xs i y, x = .ref l ∧ vs = [.int i, y] ∧ H l = some (.lst xs) ∧ 0 ≤ i ∧ i ≤ xs.length ∧ xs.length < sizeLine ∧ Q .non (upd H l (.lst (xs.take i.toNat ++ y :: xs.drop i.toNat)))
theorem Vals.put {y : V} {v : Value} (r : RelV y v) {xs : List V} {us : List Value} (h : Vals xs us) (k : Nat) : Vals (xs.take k ++ y :: xs.drop k) (us.take k ++ v :: us.drop k) := (h.take k).append (.cons r (h.drop k))
theorem mt_insert : MtM X "list.insert" rInsert := by
 intro pins s σ H x vs v us Q I rx rv h
 obtain ⟨l, xs, i, y, rfl, rfl, hH, h0, h1, hz, q⟩ := h
 cases rx
 obtain ⟨a, b, rfl, ra, rb⟩ := rv.two
 obtain ⟨t, rfl⟩ := ra
 obtain ⟨z, its, n, r, hl, e⟩ := I.lstM hH
 have line := line63
 have hf : Builtin.List.listFitsIndex i = true := fitsIndex_both (by omega) (by omega)
 refine call_meets F.slot_list_insert ⟨_, e, rfl⟩ F.entry_list_insert (F.args_list_insert_3 _ _ _) (AutoSeq1.list_insert_list_int_val_1 l its.toArray n i t b (by simp [hf]) (by rw [List.size_toArray]; omega)) ⟨e, ?_⟩
 refine ⟨.non, _, I.lset (its' := its.take i.toNat ++ b :: its.drop i.toNat) hH e ?_ (Vals.put rb r i.toNat) ?_, rfl, q⟩
 · have hk : (if i < 0 then (i + (its.toArray.size : Int)).toNat else min i.toNat its.toArray.size) = i.toNat := by
     rw [if_neg (by omega), List.size_toArray]
     omega
   show (its.toArray.extract 0 (if i < 0 then (i + (its.toArray.size : Int)).toNat else min i.toNat its.toArray.size)).push b ++ its.toArray.extract (if i < 0 then (i + (its.toArray.size : Int)).toNat else min i.toNat its.toArray.size) = _
   rw [hk]
   apply Array.ext'
   simp [List.extract_eq_take_drop, List.take_of_length_le]
 · rw [List.length_append, List.length_cons, List.length_take, List.length_drop]
   omega
def rEqE (K : W.Frag) : R2 := fun x y H Q => ∃ p q xs, x = .ref p ∧ y = .ref q ∧ SqT K H p xs ∧ SqT K H q [] ∧ Q (.bl (decide (xs = []))) H
theorem op_eqE (hu : X.A.units < cLine) : OpR X (compareOp .Eq) (rEqE X.K) := by
 intro pins s σ H x y v u Q I rx ry h
 obtain ⟨p, q, xs, rfl, rfl, hp, hq, k⟩ := h
 cases rx
 cases ry
 obtain ⟨its, r, t1, _⟩ := I.tuple hp
 obtain ⟨its2, r2, t2, _⟩ := I.tuple hq
 have e2 : its2 = [] := r2.zero
 subst e2
 refine SeqAt.eq_tupleAt (e := fun _ => true) (show s.heap.IsTuple p its.toArray from t1) (show s.heap.IsTuple q ([] : List Value).toArray from t2) hu (fun j h1 h2 => absurd h2 (by simp)) ⟨.bl _, H, I, rfl, ?_⟩
 have hl := r.length
 have e : ((List.range (min its.toArray.size ([] : List Value).toArray.size)).all (fun _ => true) && its.toArray.size == ([] : List Value).toArray.size) = decide (xs = []) := by
   cases xs with
   | nil =>
     have : its = [] := by simpa using hl.symm
     subst this
     rfl
   | cons a b =>
     have : its.length ≠ 0 := by rw [← hl]; simp
     simp [this]
 rw [e]
 exact k
theorem call_allL (hc : X.calm = true) : qF X (.builtin "all") (fun xs H Q => ∃ (p : Addr) (bs : List Bool), xs = [.ref p] ∧ SqL X.K H p (bs.map V.bl) ∧ Q (.bl (bs.all id)) H) := by
 intro pins s σ H xs us Q I r h
 obtain ⟨p, bs, rfl, hq, q⟩ := h
 obtain ⟨u, rfl, rx⟩ := r.one
 cases rx
 obtain ⟨its, r', pl, hz⟩ := I.list hq
 have hlen := r'.length
 rw [List.length_map] at hlen
 refine call_all_walk (wpAny_pyIter_list pl.isList ?_)
 have hne : p ≠ s.heap.objs.size := by
   obtain ⟨o, ho, _⟩ := pl.isList
   exact Nat.ne_of_lt (Heap.lt_size ho)
 refine ⟨s.heap.objs.size, _, _, _, _, _, fun i => bs.getD i true, rfl, Walks.list (by simpa using I.ok.hd hc) _ p hne its.toArray, ⟨⟨_, Heap.get?_push_size _ rfl, rfl, rfl⟩, pl.isList.push _⟩, fun i v z Q' E' hP hQ' => ?_, fun h' tk hk => ?_⟩
 · have hi : its[i]? = some v := by simpa using hP
   have hb : i < bs.length := by
     rw [hlen]
     exact (List.getElem?_eq_some_iff.mp hi).1
   obtain ⟨u, hu, ru⟩ := r'.get (i := i) (x := .bl (bs[i])) (by simp [hb])
   rw [hi] at hu
   cases hu
   cases ru
   have e : bs.getD i true = bs[i] := by simp [List.getD, hb]
   have hQ2 : Q' (bs.getD i true) z := hQ'
   rw [e] at hQ2
   exact wpAny_pure hQ2
 · have e : (List.range its.toArray.size).all (fun i => bs.getD i true) = bs.all id := by
     rw [List.size_toArray, ← hlen]
     rw [Bool.eq_iff_iff, List.all_eq_true, List.all_eq_true]
     constructor
     · intro a b hb
       obtain ⟨i, hi, rfl⟩ := List.getElem_of_mem hb
       have := a i (List.mem_range.mpr hi)
       simpa [List.getD, hi] using this
     · intro a i hi
       have hi := List.mem_range.mp hi
       have := a bs[i] (List.getElem_mem hi)
       simpa [List.getD, hi] using this
   rw [e]
   exact ⟨.bl _, H, I.kept (t' := tk) fun b o e => hk b o (by
     intro z
     have z : b = s.heap.objs.size := by simpa using z
     exact absurd (Heap.lt_size e) (by rw [z]; exact Nat.lt_irrefl _)) (Heap.get?_push_of_some _ e), rfl, q⟩
def intsTo (n : Nat) : List V := (List.range n).map fun (i : Nat) => V.int (i : Int)
theorem vals_items {n : Nat} {acc : Array Value} (h : ItemsOf (fun i v => ∃ t, v = Value.int (0 + (i : Int) * 1) t) acc n) : Vals (intsTo n) acc.toList := by
 have key : ∀ (l : List Value) (k : Nat), (∀ j v, l[j]? = some v → ∃ t, v = Value.int ((k + j : Nat) : Int) t) → Vals ((List.range' k l.length).map fun (i : Nat) => V.int (i : Int)) l := by
   intro l
   induction l with
   | nil => intro k _; exact .nil
   | cons v l ih =>
     intro k hk
     rw [List.length_cons, List.range'_succ, List.map_cons]
     refine .cons ?_ (ih (k + 1) fun j u hj => ?_)
     · obtain ⟨t, e⟩ := hk 0 v rfl
       exact ⟨t, by simpa using e⟩
     · obtain ⟨t, e⟩ := hk (j + 1) u (by simpa using hj)
       exact ⟨t, by rw [e]; congr 1; omega⟩
 have := key acc.toList 0 fun j v hj => by
   obtain ⟨t, e⟩ := h.2 j v (by simpa using hj)
   exact ⟨t, by rw [e]; congr 1; omega⟩
 rw [Array.length_toList, h.1] at this
 unfold intsTo
 rw [List.range_eq_range']
 exact this
theorem call_rangeV : qF X (.type "range") (fun xs H Q => ∃ j : Int, xs = [.int j] ∧ ∀ p, H p = none → Q (.ref p) (upd H p (.rng 0 j))) := by
 intro pins s σ H xs us Q I r h
 obtain ⟨j, rfl, q⟩ := h
 obtain ⟨u, rfl, t, rfl⟩ := r.one
 refine call_range_1 ⟨.ref s.heap.objs.size, _, I.laid (o := .rng 0 j) (fun b o e => Heap.get?_push_of_some _ e) (Nat.le_refl _) ?_, rfl, q _ I.fresh⟩
 exact ⟨_, _, _, Heap.get?_push_size _ rfl⟩
theorem call_listRng (hc : X.calm = true) : qF X (.type "list") (fun xs H Q => ∃ p j, xs = [.ref p] ∧ H p = some (.rng 0 j) ∧ 0 ≤ j ∧ j ≤ 1000 ∧ ∀ l, H l = none → Q (.ref l) (upd H l (.lst (intsTo j.toNat)))) := by
 intro pins s σ H xs us Q I r h
 obtain ⟨p, j, rfl, hp, h0, h1, q⟩ := h
 obtain ⟨u, rfl, rx⟩ := r.one
 cases rx
 obtain ⟨t, u, v, e⟩ := I.hok p _ hp
 have en : Builtin.Range.rangeSize 0 j 1 = (j.toNat : Int) := by
   rw [rangeSize_one]
   split <;> omega
 refine call_list_range (I.ok.hd hc) (show IsRange s.heap p 0 j 1 t u v from e) (small_one (by omega) (by omega) (by omega) (by omega)) en (by omega) fun h' tk acc' c' kp hS hacc => ?_
 refine ⟨.ref s.heap.objs.size, _, I.laid (t' := tk) (o := .lst (intsTo j.toNat)) kp (Nat.le_refl _) ?_, rfl, q _ I.fresh⟩
 refine ⟨?_, acc'.toList, c', vals_items hacc, by rw [Array.toArray_toList]; exact hS⟩
 unfold intsTo
 rw [List.length_map, List.length_range, sizeLine_eq]
 omega
def SetO (w : World) (a : Addr) (ks : List Int) : HO := .ext fun h => SS.SetG w h a ks
theorem vals_intsAre {ns : List Int} : ∀ {us : List Value}, Vals (ns.map V.int) us → IntsAre us ns := by
 induction ns with
 | nil => intro us h; cases h; exact .nil
 | cons n ns ih =>
   intro us h
   cases h with
   | cons r t =>
     obtain ⟨k, rfl⟩ := r
     exact .cons n k (ih t)
theorem intsAre_vals : ∀ {us : List Value} {ns : List Int}, IntsAre us ns → Vals (ns.map V.int) us
 | _, _, .nil => .nil
 | _, _, .cons n t r => .cons ⟨t, rfl⟩ (intsAre_vals r)
theorem call_set4 (hc : X.calm = true) : qF X (.type "set") (fun xs H Q => ∃ (p : Addr) (ns : List Int), xs = [.ref p] ∧ SqL X.K H p (ns.map V.int) ∧ ns.length ≤ 4 ∧ (∀ z ∈ ns, 0 ≤ z ∧ z < 32) ∧
   ∀ (l : Addr) (ks : List Int), H l = none → (∀ z, z ∈ ks ↔ z ∈ ns) → Q (.ref l) (upd H l (SetO X.w l ks))) := by
 intro pins s σ H xs us Q I r h
 obtain ⟨p, ns, rfl, hq, hl, hv, q⟩ := h
 obtain ⟨u, rfl, rx⟩ := r.one
 cases rx
 obtain ⟨its, r', pl, hz⟩ := I.list hq
 have hlen := r'.length
 rw [List.length_map] at hlen
 refine SS.set_of_list (I.ok.hd hc) pl.isList (vals_intsAre r') (by rw [List.size_toArray]; omega) hv fun h' tk ks S hm kp => ?_
 have hg : ∃ o, h'.get? s.heap.objs.size = some o := let ⟨o, _, _, _, e, _⟩ := S.ex; ⟨o, e⟩
 exact ⟨.ref s.heap.objs.size, _, I.laid (t' := tk) (o := SetO X.w s.heap.objs.size ks) kp (Nat.le_refl _) ⟨S, hg, fun h1 h2 a b => a.at b⟩, rfl, q _ ks I.fresh hm⟩
theorem call_sortedSet (hc : X.calm = true) : qF X (.builtin "sorted") (fun xs H Q => ∃ (p : Addr) (ks : List Int), xs = [.ref p] ∧ H p = some (SetO X.w p ks) ∧
   ∀ (l : Addr) (ns : List Int), H l = none → ns.Pairwise (· < ·) → (∀ z, z ∈ ns ↔ z ∈ ks) → Q (.ref l) (upd H l (.lst (ns.map V.int)))) := by
 intro pins s σ H xs us Q I r h
 obtain ⟨p, ks, rfl, hp, q⟩ := h
 obtain ⟨u, rfl, rx⟩ := r.one
 cases rx
 obtain ⟨S, _, _⟩ := I.hok p _ hp
 refine SS.sorted_set (I.ok.hd hc) S fun s' l vs ns e hl kp g d o he hi pm srt => ?_
 obtain ⟨h', g', d', t', o'⟩ := s'
 have g : g' = s.gens := g
 have o : o' = s.os := o
 have d : d' = s.drawn := d
 subst g; subst o; subst d
 have nd : ns.Nodup := pm.nodup_iff.mpr S.nd
 have lt : ns.Pairwise (· < ·) := by
   have := List.Pairwise.and srt nd
   exact this.imp fun {a b} ⟨x, y⟩ => by omega
 have hz : (ns.map V.int).length ≤ sizeLine := by
   rw [List.length_map, pm.length_eq, sizeLine_eq]
   have := S.len
   omega
 have I2 : Inv X pins σ (upd H l (.lst (ns.map V.int))) { s with heap := h', toks := t' } := I.laid (t' := t') kp hl ⟨hz, vs, e, intsAre_vals hi, he⟩
 exact ⟨.ref l, _, I2, rfl, q l ns (I.hok.fresh hl) lt fun z => pm.mem_iff⟩
end
section
variable {X : Cx} {p1 p2 p3 p4 p5 p6 p7 : Pos} {k1 k2 k3 k4 : Nat}
theorem pe_cpow {i j r : Int} (hj : 0 ≤ j) (hj2 : j ≤ 1000000) (hi : i.natAbs < 2 ^ 64) (e : i ^ j.toNat = r) : PE X (.BinOp (.Constant (.int i) k2 p2) .Pow (.Constant (.int j) k3 p3) p4) (tC (.int r)) := fun pins s σ H Q I h =>
 (yA (X := X) op_pow jV jV) pins s σ H Q I ⟨_, _, rfl, rfl, ⟨hj, hj2, hi⟩, by subst e; exact h⟩
theorem pe_cmul {a b : Expr} {i j r : Int} (ha : PE X a (tC (.int i))) (hb : PE X b (tC (.int j))) (hc : CMul i j) (e : i * j = r) : PE X (.BinOp a .Mult b p1) (tC (.int r)) := fun pins s σ H Q I h =>
 (yA (X := X) yR ha hb) pins s σ H Q I ⟨_, _, rfl, rfl, hc, by subst e; exact h⟩
theorem pe_cadd {a b : Expr} {i j r : Int} (ha : PE X a (tC (.int i))) (hb : PE X b (tC (.int j))) (e : i + j = r) : PE X (.BinOp a .Add b p1) (tC (.int r)) := fun pins s σ H Q I h =>
 (yA (X := X) kU ha hb) pins s σ H Q I ⟨_, _, rfl, rfl, by subst e; exact h⟩
theorem pe_big : PE X (.BinOp (.BinOp (.Constant (.int 2) k1 p1) .Mult (.BinOp (.Constant (.int 10) k2 p2) .Pow (.Constant (.int 12) k3 p3) p4) p5) .Add (.Constant (.int 1) k4 p6) p7) (tC (.int 2000000000001)) :=
 pe_cadd (i := 2000000000000) (pe_cmul (j := 1000000000000) jV (pe_cpow (by decide) (by decide) (by decide) (by decide)) (.inl ⟨by decide, by decide⟩) (by decide)) jV (by decide)
end
end L2
end
section
namespace L2
open PySem PySem.Spec PyProof.Rows
def ItAt (tp : Bool) (h : Heap) (it a : Addr) (i : Nat) : Prop := match tp with
 | false => h.IsListIter it a i
 | true => h.IsTupleIter it a i
def ObAt (tp : Bool) (h : Heap) (a : Addr) (xs : Array Value) : Prop := match tp with
 | false => h.IsList a xs
 | true => h.IsTuple a xs
theorem ItAt.but {tp : Bool} {h h' : Heap} {it a b : Addr} {i : Nat} (x : ItAt tp h it a i) (e : Heap.ExtBut b h h') (n : it ≠ b) : ItAt tp h' it a i := by
 cases tp with
 | false => exact Heap.IsListIter.extBut x e n
 | true => exact Heap.IsTupleIter.extBut x e n
theorem ObAt.but {tp : Bool} {h h' : Heap} {a b : Addr} {xs : Array Value} (x : ObAt tp h a xs) (e : Heap.ExtBut b h h') (n : a ≠ b) : ObAt tp h' a xs := by
 cases tp with
 | false => exact Heap.IsList.extBut x e n
 | true => exact Heap.IsTuple.extBut x e n
theorem ItAt.at {tp : Bool} {h h' : Heap} {it a : Addr} {i : Nat} (x : ItAt tp h it a i) (e : ∀ o, h.get? it = some o → h'.get? it = some o) : ItAt tp h' it a i := by
 cases tp with
 | false => exact Heap.IsListIter.at x e
 | true => exact Heap.IsTupleIter.at x e
theorem ItAt.obj {tp : Bool} {h : Heap} {it a : Addr} {i : Nat} (x : ItAt tp h it a i) : ∃ o, h.get? it = some o ∧ ∀ v, o.data ≠ .cell v := by
 cases tp with
 | false => obtain ⟨o, e, _, d⟩ := x; exact ⟨o, e, fun v q => by rw [d] at q; cases q⟩
 | true => obtain ⟨o, e, _, d⟩ := x; exact ⟨o, e, fun v q => by rw [d] at q; cases q⟩
theorem ObAt.lt {tp : Bool} {h : Heap} {a : Addr} {xs : Array Value} (x : ObAt tp h a xs) : a < h.objs.size := by
 cases tp with
 | false => obtain ⟨o, e, _⟩ := x; exact Heap.lt_size e
 | true => obtain ⟨o, e, _⟩ := x; exact Heap.lt_size e
section
variable {prog : Program} {w : World} {A : Around} {E : Value → Shared → Prop} {s : Shared}
theorem next1 {tp : Bool} {it a : Addr} {i : Nat} {xs : Array Value} {x : Value} {Q : Value → Shared → Prop} (hi : ItAt tp s.heap it a i) (ha : ObAt tp s.heap a xs) (hx : xs[i]? = some x)
   (k : ∀ h', ItAt tp h' it a (i + 1) → Heap.SameBut it s.heap h' → Q x { s with heap := h' }) : wpAny (model prog w) A (Builtin.SmallTypes.nextOf (.ref it)) Q E s := by
 cases tp with
 | false => exact wpAny_nextOf_list_item hi ha hx k
 | true =>
   obtain ⟨o, e, c, d⟩ := id (show s.heap.IsTupleIter it a i from hi)
   obtain ⟨u, eu, _, n, du⟩ := (show s.heap.IsTuple a xs from ha)
   have ty := Heap.IsTupleIter.typeIs (show s.heap.IsTupleIter it a i from hi)
   unfold Builtin.SmallTypes.nextOf
   refine wpAny_bind (wpAny_callSpecial?_slot (name := Str.ofString "__next__") ty F.slot_tuple_iterator_next (wpAny_call_entry F.slot_tuple_iterator_next ty F.entry_tuple_iterator_next (?_ : wpAny (model prog w) _ (field (.ref it) 0 >>= _) _ _ s) (F.args_tuple_iterator_next_1 _)))
   refine wpAny_bind (wpAny_field e d (x := .ref a) rfl (?_ : wpAny (model prog w) _ (if (Value.ref a == Value.none) = true then _ else _) _ _ s))
   rw [if_neg (by exact Bool.false_ne_true)]
   show wpAny (model prog w) _ (field (.ref it) 1 >>= _) _ _ s
   refine wpAny_bind (wpAny_field e d (x := .int i 0) rfl ?_)
   show wpAny (model prog w) _ (seqItems? (.ref a) >>= _) _ _ s
   refine wpAny_bind (wpAny_seqItems eu du ?_)
   simp only [Int.toNat_natCast, hx]
   refine wpAny_bind (wpAny_setField e d (by simp) (wpAny_pure ⟨x, rfl, wpAny_pure (k _ ⟨_, Heap.get?_update_self _ e (Obj.isFreed_of_fields (Obj.data_mapFields d _)), (Obj.cls_mapFields ..).trans c, ?_⟩ (Heap.SameBut.update ..))⟩))
   rw [Obj.data_mapFields d]
   simp [rawInt]
theorem next0 {tp : Bool} {it a : Addr} {i : Nat} {xs : Array Value} {Q : Value → Shared → Prop} (hh : A.handled = none) (hi : ItAt tp s.heap it a i) (ha : ObAt tp s.heap a xs) (hx : xs[i]? = none)
   (k : ∀ h' e, Heap.ExtBut it s.heap h' → (∃ o, h'.get? e = some o ∧ o.cls = .type "StopIteration") → E (.ref e) { s with heap := h' }) : wpAny (model prog w) A (Builtin.SmallTypes.nextOf (.ref it)) Q E s := by
 cases tp with
 | false => exact wpAny_nextOf_list_end hh hi ha hx k
 | true =>
   obtain ⟨o, e, c, d⟩ := id (show s.heap.IsTupleIter it a i from hi)
   obtain ⟨u, eu, _, n, du⟩ := (show s.heap.IsTuple a xs from ha)
   have ty := Heap.IsTupleIter.typeIs (show s.heap.IsTupleIter it a i from hi)
   unfold Builtin.SmallTypes.nextOf
   refine wpAny_bind (wpAny_callSpecial?_slot (name := Str.ofString "__next__") ty F.slot_tuple_iterator_next (wpAny_call_entry F.slot_tuple_iterator_next ty F.entry_tuple_iterator_next (?_ : wpAny (model prog w) _ (field (.ref it) 0 >>= _) _ _ s) (F.args_tuple_iterator_next_1 _)))
   refine wpAny_bind (wpAny_field e d (x := .ref a) rfl (?_ : wpAny (model prog w) _ (if (Value.ref a == Value.none) = true then _ else _) _ _ s))
   rw [if_neg (by exact Bool.false_ne_true)]
   show wpAny (model prog w) _ (field (.ref it) 1 >>= _) _ _ s
   refine wpAny_bind (wpAny_field e d (x := .int i 0) rfl ?_)
   show wpAny (model prog w) _ (seqItems? (.ref a) >>= _) _ _ s
   refine wpAny_bind (wpAny_seqItems eu du ?_)
   simp only [Int.toNat_natCast, hx]
   refine wpAny_bind (wpAny_rule (wpAny_bind (wpAny_setField e d (by simp) (?_ : wpAny (model prog w) _ (newExc (.type "StopIteration") [] >>= _) _ _ _))))
   refine wpAny_bind (by
     simp only [newExc, newTuple]
     refine wpAny_bind (wpAny_newObj_type (wpAny_bind (m := firstArgMember _ _) (wpAny_of_eq (a := Value.none) (by first | rfl | (simp only [firstArgMember]; rfl)) (wpAny_newObj_type ?_ (by size_fits)))) (by size_fits))
     simp only [raiseNew]
     refine wpAny_bind (wpAny_handled ?_)
     first | rw [show A.in1.handled = none from hh] | rw [hh]
     exact wpAny_bind (wpAny_pure (wpAny_throw (k _ _ (((Heap.SameBut.update ..).extBut.push _).push _) ⟨_, Heap.get?_push_size _ rfl, rfl⟩))))
theorem zipT_item {t1 t2 : Bool} {z TI TO i1 i2 l1 l2 : Addr} {k1 k2 : Nat} {xs ys : Array Value} {x y a b : Value} {Q : Value → Shared → Prop} (D : ZipApart z TI TO i1 i2 l1 l2)
   (ez : IsZip s.heap z TI TO .none) (eI : IsPair s.heap TI (.ref i1) (.ref i2)) (eO : IsPair s.heap TO a b) (g1 : ItAt t1 s.heap i1 l1 k1) (g2 : ItAt t2 s.heap i2 l2 k2) (o1 : ObAt t1 s.heap l1 xs) (o2 : ObAt t2 s.heap l2 ys) (hx : xs[k1]? = some x) (hy : ys[k2]? = some y)
   (k : ∀ h', IsZip h' z TI TO (rawInt s.heap.objs.size) → IsPair h' TO x y → ItAt t1 h' i1 l1 (k1 + 1) → ItAt t2 h' i2 l2 (k2 + 1) → IsPair h' s.heap.objs.size x y → h'.objs.size = s.heap.objs.size + 1 →
     (∀ c o, c ≠ z → c ≠ TO → c ≠ i1 → c ≠ i2 → s.heap.get? c = some o → h'.get? c = some o) → Q (.ref s.heap.objs.size) { s with heap := h' }) :
   wpAny (model prog w) A (Builtin.«zip.__next__» ⟨[.ref z], []⟩) (fun fin s' => ∃ v, fin = .done (.ret v) ∧ Q v s') E s := by
 show wpAny (model prog w) A (field (.ref z) 2 >>= _) _ _ _
 refine wpAny_bind (wpAny_field ez rfl (x := .bool false) rfl (?_ : wpAny (model prog w) A (field (.ref z) 3 >>= _) _ _ _))
 refine wpAny_bind (wpAny_field ez rfl (x := .ref TI) rfl (wpAny_bind (wpAny_seqItems eI rfl (?_ : wpAny (model prog w) A (Builtin.SmallTypes.ownedTupleIsFree (.ref z) >>= _) _ _ _))))
 refine wpAny_bind (by
   unfold Builtin.SmallTypes.ownedTupleIsFree
   refine wpAny_bind (wpAny_field ez rfl (x := .none) rfl (wpAny_pure ?_))
   simp only [if_true]
   refine wpAny_bind (wpAny_rule (wpAny_bind (wpAny_field ez rfl (x := .ref TO) rfl (wpAny_bind (wpAny_setField_rec ez (by simp) fun p1 f1 q1 => ?_)))))
   have f1 : IsZip p1 z TI TO .ellipsis := f1
   refine wpAny_bind (by
     simp only [List.zipIdx_cons, List.zipIdx_nil, List.forIn_cons, List.forIn_nil]
     refine wpAny_bind (wpAny_bind (wpAny_onRaise (?_ : wpAny (model prog w) A (Builtin.SmallTypes.nextOf (.ref i1) >>= _) _ _ _)))
     refine wpAny_bind (next1 (g1.but q1.extBut D.i1z) (o1.but q1.extBut D.l1z) hx fun p2 r2 q2 => wpAny_pure ?_)
     have eO2 : IsPair p2 TO a b := q2.extBut _ _ D.TOi1 (q1.extBut _ _ D.TOz eO)
     refine wpAny_bind (wpAny_seqItems eO2 rfl (wpAny_bind (wpAny_updateSeq_pair eO2 fun p3 eO3 q3 => wpAny_bind (wpAny_letGo (wpAny_pure ?_)))))
     have eO3 : IsPair p3 TO x b := eO3
     refine wpAny_bind (wpAny_bind (wpAny_onRaise (?_ : wpAny (model prog w) A (Builtin.SmallTypes.nextOf (.ref i2) >>= _) _ _ _)))
     refine wpAny_bind (next1 (((g2.but q1.extBut D.i2z).but q2.extBut D.i12.symm).but q3.extBut D.TOi2.symm) (((o2.but q1.extBut D.l2z).but q2.extBut D.l2i1).but q3.extBut D.l2TO) hy fun p4 r4 q4 => wpAny_pure ?_)
     have eO4 : IsPair p4 TO x b := q4.extBut _ _ D.TOi2 eO3
     refine wpAny_bind (wpAny_seqItems eO4 rfl (wpAny_bind (wpAny_updateSeq_pair eO4 fun p5 eO5 q5 => wpAny_bind (wpAny_letGo (wpAny_pure (wpAny_pure ?_))))))
     have eO5 : IsPair p5 TO x y := eO5
     refine wpAny_bind (wpAny_seqItems eO5 rfl (wpAny_bind (wpAny_newTuple ?_)))
     have sz : p5.objs.size = s.heap.objs.size := by rw [q5.1, q4.1, q3.1, q2.1, q1.1]
     have ez5 : IsZip p5 z TI TO .ellipsis := q5.extBut _ _ D.TOz.symm (q4.extBut _ _ D.i2z.symm (q3.extBut _ _ D.TOz.symm (q2.extBut _ _ D.i1z.symm f1)))
     have kp5 : ∀ c o, c ≠ z → c ≠ TO → c ≠ i1 → c ≠ i2 → s.heap.get? c = some o → p5.get? c = some o := fun c o n1 n2 n3 n4 e => q5.extBut _ _ n2 (q4.extBut _ _ n4 (q3.extBut _ _ n2 (q2.extBut _ _ n3 (q1.extBut _ _ n1 e))))
     have r15 : ItAt t1 p5 i1 l1 (k1 + 1) := ((r2.but q3.extBut D.TOi1.symm).but q4.extBut D.i12).but q5.extBut D.TOi1.symm
     have r25 : ItAt t2 p5 i2 l2 (k2 + 1) := r4.but q5.extBut D.TOi2.symm
     have zlt : z < p5.objs.size := Heap.lt_size ez5
     show wpAny (model prog w) A (Builtin.SmallTypes.ownedTupleHandOut (.ref z) (.ref p5.objs.size) >>= _) _ _ _
     refine wpAny_bind ?_
     unfold Builtin.SmallTypes.ownedTupleHandOut
     have f6 : IsZip (p5.push { cls := .type "tuple", data := .seq #[x, y] }) z TI TO .ellipsis := Heap.get?_push_of_some _ ez5
     refine wpAny_bind (wpAny_setField_rec f6 (by simp) fun p7 f7 q7 => ?_)
     have f7 : IsZip p7 z TI TO (rawInt p5.objs.size) := f7
     refine wpAny_setField_rec f7 (by simp) fun p8 f8 q8 => ?_
     have f8 : IsZip p8 z TI TO (rawInt p5.objs.size) := f8
     have up : ∀ c o, c ≠ z → p5.get? c = some o → p8.get? c = some o := fun c o n1 e => q8.extBut _ _ n1 (q7.extBut _ _ n1 (Heap.get?_push_of_some _ e))
     have eT : IsPair p8 p5.objs.size x y := q8.extBut _ _ (Nat.ne_of_gt zlt) (q7.extBut _ _ (Nat.ne_of_gt zlt) (Heap.get?_push_size _ rfl))
     have sz8 : p8.objs.size = p5.objs.size + 1 := by rw [q8.1, q7.1, Heap.size_push]
     rw [sz] at f8 eT sz8
     refine wpAny_pure ⟨_, rfl, (?_ : Q (.ref p5.objs.size) _)⟩
     rw [sz]
     exact k p8 f8 (up _ _ D.TOz eO5) (r15.at fun o e => up _ o D.i1z e) (r25.at fun o e => up _ o D.i2z e) eT sz8 fun c o n1 n2 n3 n4 e => up c o n1 (kp5 c o n1 n2 n3 n4 e)))
theorem zipT_end {t1 t2 : Bool} {z TI TO i1 i2 l1 l2 : Addr} {k1 k2 : Nat} {xs ys : Array Value} {a b : Value} {Q : Fin → Shared → Prop} (hh : A.handled = none) (D : ZipApart z TI TO i1 i2 l1 l2)
   (ez : IsZip s.heap z TI TO .none) (eI : IsPair s.heap TI (.ref i1) (.ref i2)) (eO : IsPair s.heap TO a b) (g1 : ItAt t1 s.heap i1 l1 k1) (g2 : ItAt t2 s.heap i2 l2 k2) (o1 : ObAt t1 s.heap l1 xs) (o2 : ObAt t2 s.heap l2 ys) (hend : xs[k1]? = none ∨ ys[k2]? = none)
   (k : ∀ h' e, (∀ c o, c ≠ z → c ≠ TO → c ≠ i1 → c ≠ i2 → s.heap.get? c = some o → h'.get? c = some o) → (∃ o, h'.get? e = some o ∧ o.cls = .type "StopIteration") → E (.ref e) { s with heap := h' }) :
   wpAny (model prog w) A (Builtin.«zip.__next__» ⟨[.ref z], []⟩) Q E s := by
 show wpAny (model prog w) A (field (.ref z) 2 >>= _) _ _ _
 refine wpAny_bind (wpAny_field ez rfl (x := .bool false) rfl (?_ : wpAny (model prog w) A (field (.ref z) 3 >>= _) _ _ _))
 refine wpAny_bind (wpAny_field ez rfl (x := .ref TI) rfl (wpAny_bind (wpAny_seqItems eI rfl (?_ : wpAny (model prog w) A (Builtin.SmallTypes.ownedTupleIsFree (.ref z) >>= _) _ _ _))))
 refine wpAny_bind (by
   unfold Builtin.SmallTypes.ownedTupleIsFree
   refine wpAny_bind (wpAny_field ez rfl (x := .none) rfl (wpAny_pure ?_))
   simp only [if_true]
   refine wpAny_bind (wpAny_rule (wpAny_bind (wpAny_field ez rfl (x := .ref TO) rfl (wpAny_bind (wpAny_setField_rec ez (by simp) fun p1 f1 q1 => ?_)))))
   have f1 : IsZip p1 z TI TO .ellipsis := f1
   refine wpAny_bind (by
     simp only [List.zipIdx_cons, List.zipIdx_nil, List.forIn_cons, List.forIn_nil]
     refine wpAny_bind (wpAny_bind (wpAny_onRaise (?_ : wpAny (model prog w) A (Builtin.SmallTypes.nextOf (.ref i1) >>= _) _ _ _)))
     cases hx : xs[k1]? with
     | none =>
       refine wpAny_bind (next0 hh (g1.but q1.extBut D.i1z) (o1.but q1.extBut D.l1z) hx fun p2 e q2 ⟨u, eu, cu⟩ => ?_)
       have f2 : IsZip p2 z TI TO .ellipsis := q2 _ _ D.i1z.symm f1
       have nz : e ≠ z := fun v => by subst v; rw [f2] at eu; cases eu; simp at cu
       exact wpAny_setField_rec f2 (by simp) fun p3 _ q3 => k p3 e (fun c o n1 _ n3 _ v => q3.extBut _ _ n1 (q2 _ _ n3 (q1.extBut _ _ n1 v))) ⟨u, q3.extBut _ _ nz eu, cu⟩
     | some x =>
       have hy : ys[k2]? = none := by
         rcases hend with v | v
         · rw [hx] at v; cases v
         · exact v
       refine wpAny_bind (next1 (g1.but q1.extBut D.i1z) (o1.but q1.extBut D.l1z) hx fun p2 r2 q2 => wpAny_pure ?_)
       have eO2 : IsPair p2 TO a b := q2.extBut _ _ D.TOi1 (q1.extBut _ _ D.TOz eO)
       refine wpAny_bind (wpAny_seqItems eO2 rfl (wpAny_bind (wpAny_updateSeq_pair eO2 fun p3 eO3 q3 => wpAny_bind (wpAny_letGo (wpAny_pure ?_)))))
       refine wpAny_bind (wpAny_bind (wpAny_onRaise (?_ : wpAny (model prog w) A (Builtin.SmallTypes.nextOf (.ref i2) >>= _) _ _ _)))
       refine wpAny_bind (next0 hh (((g2.but q1.extBut D.i2z).but q2.extBut D.i12.symm).but q3.extBut D.TOi2.symm) (((o2.but q1.extBut D.l2z).but q2.extBut D.l2i1).but q3.extBut D.l2TO) hy fun p4 e q4 ⟨u, eu, cu⟩ => ?_)
       have f4 : IsZip p4 z TI TO .ellipsis := q4 _ _ D.i2z.symm (q3.extBut _ _ D.TOz.symm (q2.extBut _ _ D.i1z.symm f1))
       have nz : e ≠ z := fun v => by subst v; rw [f4] at eu; cases eu; simp at cu
       exact wpAny_setField_rec f4 (by simp) fun p5 _ q5 => k p5 e (fun c o n1 n2 n3 n4 v => q5.extBut _ _ n1 (q4 _ _ n4 (q3.extBut _ _ n2 (q2.extBut _ _ n3 (q1.extBut _ _ n1 v))))) ⟨u, q5.extBut _ _ nz eu, cu⟩))
theorem pyNext_zipT {t1 t2 : Bool} {z TI TO i1 i2 l1 l2 : Addr} {k1 k2 : Nat} {xs ys : Array Value} {x y a b : Value} {Q : Option Value → Shared → Prop} (D : ZipApart z TI TO i1 i2 l1 l2)
   (ez : IsZip s.heap z TI TO .none) (eI : IsPair s.heap TI (.ref i1) (.ref i2)) (eO : IsPair s.heap TO a b) (g1 : ItAt t1 s.heap i1 l1 k1) (g2 : ItAt t2 s.heap i2 l2 k2) (o1 : ObAt t1 s.heap l1 xs) (o2 : ObAt t2 s.heap l2 ys) (hx : xs[k1]? = some x) (hy : ys[k2]? = some y)
   (k : ∀ h', IsZip h' z TI TO (rawInt s.heap.objs.size) → IsPair h' TO x y → ItAt t1 h' i1 l1 (k1 + 1) → ItAt t2 h' i2 l2 (k2 + 1) → IsPair h' s.heap.objs.size x y → h'.objs.size = s.heap.objs.size + 1 →
     (∀ c o, c ≠ z → c ≠ TO → c ≠ i1 → c ≠ i2 → s.heap.get? c = some o → h'.get? c = some o) → Q (some (.ref s.heap.objs.size)) { s with heap := h' }) :
   wpAny (model prog w) A (pyNext (.ref z)) Q E s := by
 have ty : s.TypeIs (.ref z) "zip" := ⟨_, ez, rfl⟩
 unfold pyNext
 exact wpAny_bind (wpAny_attempt (wpAny_callSpecial?_slot (name := Str.ofString "__next__") ty F.slot_zip_next (wpAny_call_entry F.slot_zip_next ty F.entry_zip_next (zipT_item D ez eI eO g1 g2 o1 o2 hx hy fun h' b1 b2 b3 b4 b5 b6 b7 => wpAny_pure (k h' b1 b2 b3 b4 b5 b6 b7)) (F.args_zip_next_1 _))))
theorem pyNext_zipE {t1 t2 : Bool} {z TI TO i1 i2 l1 l2 : Addr} {k1 k2 : Nat} {xs ys : Array Value} {a b : Value} {Q : Option Value → Shared → Prop} (hh : A.handled = none) (D : ZipApart z TI TO i1 i2 l1 l2)
   (ez : IsZip s.heap z TI TO .none) (eI : IsPair s.heap TI (.ref i1) (.ref i2)) (eO : IsPair s.heap TO a b) (g1 : ItAt t1 s.heap i1 l1 k1) (g2 : ItAt t2 s.heap i2 l2 k2) (o1 : ObAt t1 s.heap l1 xs) (o2 : ObAt t2 s.heap l2 ys) (hend : xs[k1]? = none ∨ ys[k2]? = none)
   (k : ∀ h', (∀ c o, c ≠ z → c ≠ TO → c ≠ i1 → c ≠ i2 → s.heap.get? c = some o → h'.get? c = some o) → Q none { s with heap := h' }) : wpAny (model prog w) A (pyNext (.ref z)) Q E s := by
 have ty : s.TypeIs (.ref z) "zip" := ⟨_, ez, rfl⟩
 unfold pyNext
 refine wpAny_bind (wpAny_attempt (wpAny_callSpecial?_slot (name := Str.ofString "__next__") ty F.slot_zip_next (wpAny_call_entry F.slot_zip_next ty F.entry_zip_next (zipT_end hh D ez eI eO g1 g2 o1 o2 hend fun h' e kp ⟨u, eu, cu⟩ => ?_) (F.args_zip_next_1 _))))
 exact wpAny_bind (wpAny_isInstance (T := "StopIteration") (b := true) ⟨u, eu, cu⟩ isSubtype_stop (wpAny_pure (k _ kp)))
end
def iterO (tp : Bool) (a : Addr) : Obj := match tp with
 | false => { cls := .type "list_iterator", data := .fields #[.ref a, .int 0 0] }
 | true => { cls := .type "tuple_iterator", data := .fields #[.ref a, .int 0 0] }
theorem iterO_live (tp : Bool) (a : Addr) : (iterO tp a).isFreed = false := by cases tp <;> rfl
theorem ObAt.push {tp : Bool} {h : Heap} {a : Addr} {xs : Array Value} (x : ObAt tp h a xs) (o : Obj) : ObAt tp (h.push o) a xs := by
 cases tp with
 | false => exact Heap.IsList.push x o
 | true => exact Heap.IsTuple.push x o
theorem pyIterT {prog : Program} {w : World} {A : Around} {E : Value → Shared → Prop} {s : Shared} {tp : Bool} {a : Addr} {xs : Array Value} {Q : Value → Shared → Prop} (h : ObAt tp s.heap a xs) (q : Q (.ref s.heap.objs.size) { s with heap := s.heap.push (iterO tp a) }) :
   wpAny (model prog w) A (pyIter (.ref a)) Q E s := by
 cases tp with
 | false => exact wpAny_pyIter_list h q
 | true => exact wpAny_pyIter_tuple h q
def zp1 (t1 : Bool) (h : Heap) (l1 : Addr) : Heap := h.push (iterO t1 l1)
def zp2 (t1 t2 : Bool) (h : Heap) (l1 l2 : Addr) : Heap := (zp1 t1 h l1).push (iterO t2 l2)
def zp3 (t1 t2 : Bool) (h : Heap) (l1 l2 : Addr) : Heap := (zp2 t1 t2 h l1 l2).push { cls := .type "tuple", data := .seq #[.ref h.objs.size, .ref (zp1 t1 h l1).objs.size] }
def zp4 (t1 t2 : Bool) (h : Heap) (l1 l2 : Addr) : Heap := (zp3 t1 t2 h l1 l2).push { cls := .type "tuple", data := .seq #[.none, .none] }
def zp5 (t1 t2 : Bool) (h : Heap) (l1 l2 : Addr) : Heap := (zp4 t1 t2 h l1 l2).push { cls := .type "zip", data := .fields #[.none, .bool false, .bool false, .ref (zp2 t1 t2 h l1 l2).objs.size, .ref (zp3 t1 t2 h l1 l2).objs.size] }
theorem meets_zipT (t1 t2 : Bool) (l1 l2 : Addr) (xs ys : Array Value) :
   Meets (Builtin.«zip.__new__» ⟨[.type "zip", .ref l1, .ref l2], []⟩) (fun _ R s => ObAt t1 s.heap l1 xs ∧ ObAt t2 s.heap l2 ys ∧ R (.ok (.ret (.ref (zp4 t1 t2 s.heap l1 l2).objs.size))) { s with heap := zp5 t1 t2 s.heap l1 l2 }) :=
 .of_wp fun prog w A R s h => by
   obtain ⟨hp, g, d, tk, os⟩ := s
   obtain ⟨a1, a2, q⟩ := h
   have sub := sub_zip
   have e1 : ObAt t1 (Shared.heap ⟨hp, g, d, tk, os⟩) l1 xs := a1
   have e2 : ObAt t2 (Shared.heap ⟨hp.push (iterO t1 l1), g, d, tk, os⟩) l2 ys := ObAt.push a2 _
   wp_walk using pyIterT e1, pyIterT e2
   exact ⟨_, rfl, q⟩
theorem ItAt.new (tp : Bool) {h : Heap} {it a : Addr} (e : h.get? it = some (iterO tp a)) : ItAt tp h it a 0 := by
 cases tp with
 | false => exact ⟨_, e, rfl, rfl⟩
 | true => exact ⟨_, e, rfl, rfl⟩
theorem call_zipT {prog : Program} {w : World} {A : Around} {E : Value → Shared → Prop} {s : Shared} {t1 t2 : Bool} {l1 l2 : Addr} {xs ys : Array Value} {Q : Value → Shared → Prop} (a1 : ObAt t1 s.heap l1 xs) (a2 : ObAt t2 s.heap l2 ys)
   (k : ∀ h', IsZip h' (s.heap.objs.size + 4) (s.heap.objs.size + 2) (s.heap.objs.size + 3) .none → IsPair h' (s.heap.objs.size + 2) (.ref s.heap.objs.size) (.ref (s.heap.objs.size + 1)) →
     IsPair h' (s.heap.objs.size + 3) .none .none → ItAt t1 h' s.heap.objs.size l1 0 → ItAt t2 h' (s.heap.objs.size + 1) l2 0 → (∀ c o, s.heap.get? c = some o → h'.get? c = some o) → Q (.ref (s.heap.objs.size + 4)) { s with heap := h' }) :
   wpAny (model prog w) A (call (.type "zip") [.ref l1, .ref l2]) Q E s := by
 refine callType_new F.called_zip (by decide) (F.typeCall_zip_2 _ _) (F.newCall_zip_2 _ _) (fun obj => F.args_object_init_3 obj _ _) F.entry_zip_new (meets_zipT t1 t2 l1 l2 xs ys) ⟨a1, a2, ?_⟩
 have z1 : (zp1 t1 s.heap l1).objs.size = s.heap.objs.size + 1 := Heap.size_push ..
 have z2 : (zp2 t1 t2 s.heap l1 l2).objs.size = s.heap.objs.size + 2 := (Heap.size_push ..).trans (congrArg (· + 1) z1)
 have z3 : (zp3 t1 t2 s.heap l1 l2).objs.size = s.heap.objs.size + 3 := (Heap.size_push ..).trans (congrArg (· + 1) z2)
 have z4 : (zp4 t1 t2 s.heap l1 l2).objs.size = s.heap.objs.size + 4 := (Heap.size_push ..).trans (congrArg (· + 1) z3)
 have y5 : (zp5 t1 t2 s.heap l1 l2).get? (zp4 t1 t2 s.heap l1 l2).objs.size = some { cls := .type "zip", data := .fields #[.none, .bool false, .bool false, .ref (zp2 t1 t2 s.heap l1 l2).objs.size, .ref (zp3 t1 t2 s.heap l1 l2).objs.size] } := Heap.get?_push_size _ rfl
 have y4 : (zp5 t1 t2 s.heap l1 l2).get? (zp3 t1 t2 s.heap l1 l2).objs.size = some { cls := .type "tuple", data := .seq #[.none, .none] } := Heap.get?_push_of_some _ (Heap.get?_push_size _ rfl)
 have y3 : (zp5 t1 t2 s.heap l1 l2).get? (zp2 t1 t2 s.heap l1 l2).objs.size = some { cls := .type "tuple", data := .seq #[.ref s.heap.objs.size, .ref (zp1 t1 s.heap l1).objs.size] } := Heap.get?_push_of_some _ (Heap.get?_push_of_some _ (Heap.get?_push_size _ rfl))
 have y2 : (zp5 t1 t2 s.heap l1 l2).get? (zp1 t1 s.heap l1).objs.size = some (iterO t2 l2) := Heap.get?_push_of_some _ (Heap.get?_push_of_some _ (Heap.get?_push_of_some _ (Heap.get?_push_size _ (iterO_live _ _))))
 have y1 : (zp5 t1 t2 s.heap l1 l2).get? s.heap.objs.size = some (iterO t1 l1) := Heap.get?_push_of_some _ (Heap.get?_push_of_some _ (Heap.get?_push_of_some _ (Heap.get?_push_of_some _ (Heap.get?_push_size _ (iterO_live _ _)))))
 have up : ∀ c o, s.heap.get? c = some o → (zp5 t1 t2 s.heap l1 l2).get? c = some o := fun c o e => Heap.get?_push_of_some _ (Heap.get?_push_of_some _ (Heap.get?_push_of_some _ (Heap.get?_push_of_some _ (Heap.get?_push_of_some _ e))))
 rw [z2, z3, z4] at y5
 rw [z1, z2] at y3
 rw [z3] at y4
 rw [z1] at y2
 show _ ∧ _
 rw [z4]
 exact ⟨⟨_, y5, rfl⟩, k _ y5 y3 y4 (.new t1 y1) (.new t2 y2) up⟩
section
variable {X : Cx}
def Sq (tp : Bool) (K : W.Frag) (H : Hp) (a : Addr) (xs : List V) : Prop := match tp with
 | false => SqL K H a xs
 | true => SqT K H a xs
theorem Inv.sq {X : Cx} {pins : List (Addr × Obj)} {σ : St} {H : Hp} {s : Shared} {tp : Bool} {a : Addr} {xs : List V} (I : Inv X pins σ H s) (h : Sq tp X.K H a xs) : ∃ its : List Value, Vals xs its ∧ ObAt tp s.heap a its.toArray ∧ xs.length ≤ sizeLine := by
 cases tp with
 | false =>
   obtain ⟨its, r, p, z⟩ := I.list h
   exact ⟨its, r, p.isList, z⟩
 | true => exact I.tuple h
theorem Inv.sq_inj {X : Cx} {pins : List (Addr × Obj)} {σ : St} {H : Hp} {s : Shared} {tp : Bool} {a : Addr} {xs ys : List V} (I : Inv X pins σ H s) (h : Sq tp X.K H a xs) (h' : Sq tp X.K H a ys) : xs = ys := by
 cases tp with
 | false => exact I.list_inj h h'
 | true => exact I.tuple_inj h h'
def Itz (t1 t2 : Bool) (K : W.Frag) (l1 l2 : Addr) : It :=
 ⟨fun i H => ∃ xs ys x y, Sq t1 K H l1 xs ∧ Sq t2 K H l2 ys ∧ xs[i]? = some x ∧ ys[i]? = some y,
  fun i H v H' => ∃ T x y, H T = none ∧ v = .ref T ∧ H' = upd H T (.tup [x, y]) ∧ ∀ xs ys, Sq t1 K H l1 xs → Sq t2 K H l2 ys → xs[i]? = some x ∧ ys[i]? = some y,
  fun i H => ∃ xs ys, Sq t1 K H l1 xs ∧ Sq t2 K H l2 ys ∧ (xs.length ≤ i ∨ ys.length ≤ i)⟩
theorem turn_zip {P : Program} {w : World} {K : W.Frag} {elts : List Expr} {x1 : Nat} {tp : Pos} (t1 t2 : Bool) (l1 l2 z TI TO i1 i2 : Addr) (D : ZipApart z TI TO i1 i2 l1 l2) :
   Turn P w K (.Tuple elts x1 tp) (Itz t1 t2 K l1 l2) [z, TO, i1, i2, TI] z (fun i h => IsZip h z TI TO .none ∧ IsPair h TI (.ref i1) (.ref i2) ∧ (∃ a b, IsPair h TO a b) ∧ ItAt t1 h i1 l1 i ∧ ItAt t2 h i2 l2 i) where
 mem := by simp
 obj := fun i h st b hb => by
   obtain ⟨hz, hTI, ⟨a, c, hTO⟩, y1, y2⟩ := st
   simp only [List.mem_cons, List.not_mem_nil, or_false] at hb
   rcases hb with rfl | rfl | rfl | rfl | rfl
   · exact ⟨_, hz, fun v q => by cases q⟩
   · exact ⟨_, hTO, fun v q => by cases q⟩
   · exact y1.obj
   · exact y2.obj
   · exact ⟨_, hTI, fun v q => by cases q⟩
 keep := fun i h h' st k => by
   obtain ⟨hz, hTI, ⟨a, c, hTO⟩, h1, h2⟩ := st
   exact ⟨k z (by simp) _ hz, k TI (by simp) _ hTI, ⟨a, c, k TO (by simp) _ hTO⟩, h1.at fun o e => k i1 (by simp) o e, h2.at fun o e => k i2 (by simp) o e⟩
 item := by
   intro X hP hw hK hc i pins s σ H E I hf st hg
   subst hP hw hK
   obtain ⟨xs, ys, x, y, hq1, hq2, hx, hy⟩ := hg
   obtain ⟨hz, hTI, ⟨a, c, hTO⟩, h1, h2⟩ := st
   obtain ⟨its1, r1, p1, _⟩ := I.sq hq1
   obtain ⟨its2, r2, p2, _⟩ := I.sq hq2
   obtain ⟨u, hu, ru⟩ := r1.get hx
   obtain ⟨v, hv, rv⟩ := r2.get hy
   refine pyNext_zipT D hz hTI hTO h1 h2 p1 p2 (x := u) (y := v) (by simpa using hu) (by simpa using hv) fun h' a1 a2 a3 a4 a5 a6 a7 => ?_
   refine ⟨_, rfl, wpAny_letOwnedTupleGo_zip (s := { s with heap := h' }) a1 fun h'' b1 sb => ?_⟩
   have fresh : H s.heap.objs.size = none := I.fresh
   have nch : ∀ b ∈ ([z, TO, i1, i2] : List Addr), FpOk X pins H b := fun b hb => hf b (by
     simp only [List.mem_cons, List.not_mem_nil, or_false] at hb ⊢
     rcases hb with q | q | q | q
     · exact .inl q
     · exact .inr (.inl q)
     · exact .inr (.inr (.inl q))
     · exact .inr (.inr (.inr (.inl q))))
   have ntr : ∀ b o, H b = some o → b ∉ ([z, TO, i1, i2] : List Addr) := fun b o e hb => by
     have := (nch b hb).1
     rw [e] at this; cases this
   have kp : ∀ b o, b ∉ ([z, TO, i1, i2] : List Addr) → s.heap.get? b = some o → h''.get? b = some o := fun b o hb e => by
     simp only [List.mem_cons, List.not_mem_nil, or_false, not_or] at hb
     exact (sb.2 b hb.1).trans (a7 b o hb.1 hb.2.1 hb.2.2.1 hb.2.2.2 e)
   have nz : s.heap.objs.size ≠ z := Nat.ne_of_gt (Heap.lt_size hz)
   have hT2 : h''.get? s.heap.objs.size = some { cls := .type "tuple", data := .seq #[u, v] } := (sb.2 _ nz).trans a5
   have I2 : Inv X pins σ (upd H s.heap.objs.size (.tup [x, y])) { s with heap := h'' } := by
     refine I.step (g' := s.gens) (d' := s.drawn) (t' := s.toks) (ch := [z, TO, i1, i2]) (fun b hb => ?_) (fun b o _ _ hb e _ => kp b o hb e) (fun b o _ _ hb e _ => ⟨o.slots, kp b o hb e⟩)
       (fun b o _ e n => by rw [jD (Nat.ne_of_lt (Heap.lt_size e))]; exact n) (fun b o hb e => ⟨o, kp b o hb e⟩) (fun b ws e => by rw [jD (jC e fresh)]; exact e) (fun b o ws e => by rw [jD (jC e fresh)]; exact e)
       (fun b ps e => ⟨#[], by rw [jD (jC e fresh), e]; simp⟩) (fun m hm => ?_) (fun b o e => ?_) I.bare
     · obtain ⟨f0, f1, f2, f3, f4, f5⟩ := nch b hb
       exact ⟨f3, f1, f4, f5⟩
     · obtain ⟨o, es, ep, ho, r⟩ := hm
       exact ⟨o, es, ep, kp _ o (fun hb => (nch _ hb).2.1 rfl) ho, r⟩
     · by_cases hb : b = s.heap.objs.size
       · subst hb
         rw [j4] at e
         cases e
         exact ⟨by rw [sizeLine_eq]; show 2 ≤ _; decide, [u, v], .cons ru (.cons rv .nil), 0, hT2⟩
       · rw [jD hb] at e
         refine (I.hok b o e).stay (fun c w hc q => kp c w ?_ q) (fun c q => by rw [jD (jC q fresh)]; exact q) (fun c ws q => by rw [jD (jC q fresh)]; exact q)
         rcases hc with rfl | hc
         · exact ntr _ _ e
         · exact ntr _ _ hc
   refine ⟨.ref s.heap.objs.size, _, I2, rfl, ⟨_, x, y, fresh, rfl, rfl, fun xs' ys' q1 q2 => ⟨by rw [I.sq_inj q1 hq1]; exact hx, by rw [I.sq_inj q2 hq2]; exact hy⟩⟩, ⟨b1, ?_, ⟨u, v, ?_⟩, ?_, ?_⟩, fun b hb => ?_⟩
   · exact kp TI _ (by simp [D.TIz, D.TITO, D.TIi1, D.TIi2]) hTI
   · exact (sb.2 TO D.TOz).trans a2
   · exact a3.at fun o e => (sb.2 i1 D.i1z).trans e
   · exact a4.at fun o e => (sb.2 i2 D.i2z).trans e
   · rw [jD (fun q => by
       obtain ⟨o, eo⟩ : ∃ o, s.heap.get? b = some o := by
         simp only [List.mem_cons, List.not_mem_nil, or_false] at hb
         rcases hb with rfl | rfl | rfl | rfl | rfl
         · exact ⟨_, hz⟩
         · exact ⟨_, hTO⟩
         · obtain ⟨o, e, _⟩ := h1.obj; exact ⟨o, e⟩
         · obtain ⟨o, e, _⟩ := h2.obj; exact ⟨o, e⟩
         · exact ⟨_, hTI⟩
       exact absurd (Heap.lt_size eo) (by rw [q]; exact Nat.lt_irrefl _))]
     exact (hf b hb).1
 done := by
   intro X hP hw hK hc i pins s σ H E I hf st hg
   subst hP hw hK
   obtain ⟨xs, ys, hq1, hq2, hend⟩ := hg
   obtain ⟨hz, hTI, ⟨a, c, hTO⟩, h1, h2⟩ := st
   obtain ⟨its1, r1, p1, _⟩ := I.sq hq1
   obtain ⟨its2, r2, p2, _⟩ := I.sq hq2
   have e1 := r1.length
   have e2 := r2.length
   refine pyNext_zipE (I.ok.hd hc) D hz hTI hTO h1 h2 p1 p2 (by
     rcases hend with q | q
     · exact .inl (by simp; omega)
     · exact .inr (by simp; omega)) fun h' kp => ⟨rfl, ?_⟩
   have nch : ∀ b ∈ ([z, TO, i1, i2] : List Addr), FpOk X pins H b := fun b hb => hf b (by
     simp only [List.mem_cons, List.not_mem_nil, or_false] at hb ⊢
     rcases hb with q | q | q | q
     · exact .inl q
     · exact .inr (.inl q)
     · exact .inr (.inr (.inl q))
     · exact .inr (.inr (.inr (.inl q))))
   have kp2 : ∀ b o, b ∉ ([z, TO, i1, i2] : List Addr) → s.heap.get? b = some o → h'.get? b = some o := fun b o hb e => by
     simp only [List.mem_cons, List.not_mem_nil, or_false, not_or] at hb
     exact kp b o hb.1 hb.2.1 hb.2.2.1 hb.2.2.2 e
   have ntr : ∀ b o, H b = some o → b ∉ ([z, TO, i1, i2] : List Addr) := fun b o e hb => by
     have := (nch b hb).1
     rw [e] at this; cases this
   refine I.step (g' := s.gens) (d' := s.drawn) (t' := s.toks) (ch := [z, TO, i1, i2]) (fun b hb => ?_) (fun b o _ _ hb e _ => kp2 b o hb e) (fun b o _ _ hb e _ => ⟨o.slots, kp2 b o hb e⟩)
     (fun b o _ e n => n) (fun b o hb e => ⟨o, kp2 b o hb e⟩) (fun b ws e => e) (fun b o ws e => e) (fun b ps e => ⟨#[], by rw [e]; simp⟩) (fun m hm => ?_) (fun b o e => ?_) I.bare
   · obtain ⟨f0, f1, f2, f3, f4, f5⟩ := nch b hb
     exact ⟨f3, f1, f4, f5⟩
   · obtain ⟨o, es, ep, ho, r⟩ := hm
     exact ⟨o, es, ep, kp2 _ o (fun hb => (nch _ hb).2.1 rfl) ho, r⟩
   · refine (I.hok b o e).stay (fun c w hc q => kp2 c w ?_ q) (fun _ q => q) fun _ _ q => q
     rcases hc with rfl | hc
     · exact ntr _ _ e
     · exact ntr _ _ hc
 self := fun _ _ _ _ _ st h => wpAny_pyIter_zip st.1 h
def iZip (K : W.Frag) (ta : TA) : TI := fun σ H R => ta σ H fun vs H1 => ∃ t1 t2 l1 l2, vs = [.ref l1, .ref l2] ∧ (∃ xs, Sq t1 K H1 l1 xs) ∧ (∃ ys, Sq t2 K H1 l2 ys) ∧ R (Itz t1 t2 K l1 l2) H1
theorem pi_zip {a b : Expr} {ta : TA} {p pos : Pos} {elts : List Expr} {x1 : Nat} {tp : Pos} (hg : Gl X "zip") (hm : X.mg "zip" = none) (ha : PA X [a, b] ta) (hv : bootBuiltins "zip" = some (.type "zip") := by decide +kernel)
   (he : starEach [a, b] X.env = (false, eval a X.env) :: starEach [b] X.env := by rfl) (hpl : (backTo pos (starEach [b] X.env)).any (·.1) = false := by rfl) :
   PI X (.Tuple elts x1 tp) (.Call (.Name "zip" p) [a, b] [] pos) (iZip X.K ta) := by
 intro pins s σ H R I h
 refine Call_ (ld_blt I hg hm hv (PyProof.Rows.callWith_type1 (thn (ha pos pins s σ H _ I h) fun us s1 ⟨vs, H1, I1, r1, q1⟩ => ?_) he hpl))
 obtain ⟨t1, t2, l1, l2, rfl, ⟨xs, hq1⟩, ⟨ys, hq2⟩, q⟩ := q1
 obtain ⟨u, v, rfl, ru, rv⟩ := r1.two
 cases ru
 cases rv
 obtain ⟨its1, _, p1, _⟩ := I1.sq hq1
 obtain ⟨its2, _, p2, _⟩ := I1.sq hq2
 have lt1 : l1 < s1.heap.objs.size := p1.lt
 have lt2 : l2 < s1.heap.objs.size := p2.lt
 refine call_zipT p1 p2 fun h' a1 a2 a3 a4 a5 kp => ?_
 have I2 : Inv X pins σ H1 { s1 with heap := h' } := I1.kept (t' := s1.toks) kp
 have D : ZipApart (s1.heap.objs.size + 4) (s1.heap.objs.size + 2) (s1.heap.objs.size + 3) s1.heap.objs.size (s1.heap.objs.size + 1) l1 l2 := zipApart_new lt1 lt2
 refine wpAny_pyIter_zip a1 ⟨s1.heap.objs.size + 4, [s1.heap.objs.size + 4, s1.heap.objs.size + 3, s1.heap.objs.size, s1.heap.objs.size + 1, s1.heap.objs.size + 2], _, Itz t1 t2 X.K l1 l2, H1, rfl, I2, turn_zip t1 t2 l1 l2 _ _ _ _ _ D, ⟨a1, a2, ⟨_, _, a3⟩, a4, a5⟩, fun b hb => ?_, q⟩
 have hge : s1.heap.objs.size ≤ b := by
   simp only [List.mem_cons, List.not_mem_nil, or_false] at hb
   rcases hb with rfl | rfl | rfl | rfl | rfl
   · exact Nat.le_add_right _ 4
   · exact Nat.le_add_right _ 3
   · exact Nat.le_refl _
   · exact Nat.le_add_right _ 1
   · exact Nat.le_add_right _ 2
 exact I1.fpOk hge (I1.hok.fresh hge)
end
end L2
end
section
namespace L2
open PySem PySem.Spec PyProof.Rows
structure JE (X : Cx) (e : Expr) (t : TE) : Prop where
 h : PE X e t
structure JA (X : Cx) (es : List Expr) (t : TA) : Prop where
 h : PA X es t
structure JT (X : Cx) (e : Expr) (t : TT) : Prop where
 h : PT X e t
structure JTs (X : Cx) (e : List Expr) (t : TT) : Prop where
 h : PTs X e t
structure JS (X : Cx) (e : Stmt) (t : TS) : Prop where
 h : PS X e t
structure JSs (X : Cx) (e : List Stmt) (t : TS) : Prop where
 h : PSs X e t
structure JG (X : Cx) (e : Expr) (t : TG) : Prop where
 h : PG X e t
structure JGs (X : Cx) (e : List Expr) (t : TGs) : Prop where
 h : PGs X e t
structure JI (X : Cx) (tg e : Expr) (t : TI) : Prop where
 h : PI X tg e t
structure JO (X : Cx) (e : Option Expr) (t : TO) : Prop where
 h : PO X e t
structure Loc1 (X : Cx) (x : Str) : Prop where
 a : Loc X.env.scope x
 b : X.fn x = true ∨ X.env.scope.names.lookup x = some .local
structure Vis1 (X : Cx) (x : Str) : Prop where
 a : Vis X.env.scope x
structure Gl1 (X : Cx) (x : Str) : Prop where
 a : Gl X x
section
variable {a b : Expr} {pos : Pos} {xs : List Expr} {o : Option Expr} {l : Nat} {env : Env}
structure SwOk (e : Expr) (o : Option Expr) : Prop where
 h : ∀ l env, swapsWith e o l env = pure false
theorem sw_bin {op : Operator} : SwOk (.BinOp a op b pos) o := ⟨fun _ _ => rfl⟩
theorem jR {kw : List Keyword} : SwOk (.Call a xs kw pos) o := ⟨fun _ _ => rfl⟩
theorem sw_sub : SwOk (.Subscript a b pos) o := ⟨fun _ _ => rfl⟩
theorem sw_tup {x1} : SwOk (.Tuple xs x1 pos) o := ⟨fun _ _ => rfl⟩
theorem sw_lst : SwOk (.List xs pos) o := ⟨fun _ _ => rfl⟩
theorem sw_const {c k} : SwOk (.Constant c k pos) o := ⟨fun _ _ => rfl⟩
theorem px_bin {op : Operator} : PlainIx (.BinOp a op b pos) := fun _ _ => rfl
theorem px_call {kw : List Keyword} : PlainIx (.Call a xs kw pos) := fun _ _ => rfl
theorem j3 {i : Int} {k} : PlainIx (.Constant (.int i) k pos) := fun _ _ => rfl
theorem kW {x : Str} : PlainIx (.Name x pos) := fun _ _ => rfl
structure FoOk (iter : Expr) : Prop where
 h : ∀ env x, foldedSetIterable iter env x = pure x
theorem yF {kw : List Keyword} : FoOk (.Call a xs kw pos) := ⟨fun _ _ => rfl⟩
theorem fo_name {x : Str} : FoOk (.Name x pos) := ⟨fun _ _ => rfl⟩
theorem fo_sub : FoOk (.Subscript a b pos) := ⟨fun _ _ => rfl⟩
structure TvOk (e : Expr) : Prop where
 h : ∀ env whole, isTrue e env whole = (do let v ← whole; standAt e.pos; holding [v] (truthy v))
theorem jZ {kw : List Keyword} : TvOk (.Call a xs kw pos) := ⟨fun _ _ => rfl⟩
end
section
variable {X : Cx} {a b e o : Expr} {ta tb te to : TE} {es : List Expr} {t : TA} {pos p p2 cpos apos : Pos} {x : Str} {T : String} {id : String}
theorem jv (i : Nat) (hN : X.N[i]? = some x) (hv : Vis1 X x) (hd : (x == ("__debug__" : Str)) = false := by decide) (hcd : (x == ("__classdict__" : Str)) = false := by decide) : JE X (.Name x pos) (tVar i) := ⟨pe_var hN hv.a hd hcd⟩
theorem je_int {i j} : JE X (.Constant (.int i) j pos) (tC (.int i)) := ⟨jV⟩
theorem je_bl {i j} : JE X (.Constant (.bool i) j pos) (tC (.bl i)) := ⟨pe_bl⟩
theorem kZ {j} : JE X (.Constant .none j pos) (tC .non) := ⟨pe_non⟩
theorem je_str {i j} : JE X (.Constant (.str i) j pos) (tC (.str i)) := ⟨pe_str⟩
theorem yM {v : V} {u : Value} (hg : Gl1 X x) (hm : X.mg x = none) (hv : bootBuiltins x = some u) (r : RelV v u) (hn : x ≠ "__name__" := by decide) (hd : (x == ("__debug__" : Str)) = false := by decide) : JE X (.Name x pos) (tC v) := ⟨pe_bltn hg.a hm hv r hn hd⟩
theorem jP {op : Operator} {r : R2} (ho : OpR X (binaryOp op) r) (ha : JE X a ta) (hb : JE X b tb) : JE X (.BinOp a op b pos) (tOp r ta tb) := ⟨yA ho ha.h hb.h⟩
theorem je_un {op : UnaryOp} {r : V → Hp → VK → Prop} (ho : UnR X (unaryOp op) r) (ha : JE X a ta) : JE X (.UnaryOp op a pos) (tUn r ta) := ⟨pe_un ho ha.h⟩
theorem je_not (ha : JE X a ta) : JE X (.UnaryOp .Not a pos) (tNotV ta) := ⟨pe_not ha.h⟩
theorem je_cmpR {op : CmpOp} {r : R2} (ho : OpR X (compareOp op) r) (ha : JE X a ta) (hb : JE X b tb) (hm : behindInMarks op b = false) : JE X (.Compare a [op] [b] pos) (tOp r ta tb) := ⟨pe_cmpR ho ha.h hb.h hm⟩
theorem je_and {rest : List Expr} (ha : JE X a ta) (hb : JE X (.BoolOp .And (b :: rest) pos) tb) : JE X (.BoolOp .And (a :: b :: rest) pos) (tAndV ta tb) := ⟨pe_and ha.h hb.h⟩
theorem je_or {rest : List Expr} (ha : JE X a ta) (hb : JE X (.BoolOp .Or (b :: rest) pos) tb) : JE X (.BoolOp .Or (a :: b :: rest) pos) (tOrV ta tb) := ⟨pe_or ha.h hb.h⟩
theorem je_one {op} (ha : JE X a ta) : JE X (.BoolOp op [a] pos) ta := ⟨pe_one ha.h⟩
theorem je_lst (h : JA X es t) : JE X (.List es pos) (tLst t) := ⟨pe_lst h.h⟩
theorem je_tup {x1} (h : JA X es t) : JE X (.Tuple es x1 pos) (tTup t) := ⟨pe_tup h.h⟩
theorem je_slice {lo hi : Option Expr} {tl th : TO} {r : V → Option Int → Option Int → Hp → VK → Prop} (hr : SlR X r) (he : JE X e te) (hl : JO X lo tl) (hu : JO X hi th) : JE X (.Subscript e (.Slice lo hi none p2) pos) (tSl r te tl th) := ⟨pe_slice hr he.h hl.h hu.h⟩
theorem jB {r : R2} (hr : IxR X r) (ha : JE X a ta) (hb : JE X b tb) (hs : PlainIx b) : JE X (.Subscript a b pos) (tOp r ta tb) := ⟨pe_ix hr ha.h hb.h hs⟩
theorem kB {T} {r : List V → Hp → VK → Prop} (hc : qF X (.type T) r) (hg : Gl1 X x) (hm : X.mg x = none) (hv : bootBuiltins x = some (.type T)) (ha : JA X (e :: es) t) (he : starEach (e :: es) X.env = (false, eval e X.env) :: starEach es X.env) (hn : x ≠ "__name__" := by decide) (hdb : (x == ("__debug__" : Str)) = false := by decide)
   (hpl : (backTo pos (starEach es X.env)).any (·.1) = false := by rfl) : JE X (.Call (.Name x p) (e :: es) [] pos) (tCB r t) := ⟨pe_callTy hc hg.a hm hv ha.h hn hdb he hpl⟩
theorem jG {id} {r : List V → Hp → VK → Prop} (hc : qF X (.builtin id) r) (hg : Gl1 X x) (hm : X.mg x = none) (hv : bootBuiltins x = some (.builtin id)) (ha : JA X (e :: es) t) (he : starEach (e :: es) X.env = (false, eval e X.env) :: starEach es X.env) (hn : x ≠ "__name__" := by decide) (hdb : (x == ("__debug__" : Str)) = false := by decide)
   (hpl : (backTo pos (starEach es X.env)).any (·.1) = false := by rfl) : JE X (.Call (.Name x p) (e :: es) [] pos) (tCB r t) := ⟨pe_callB hc hg.a hm hv ha.h hn hdb he hpl⟩
theorem j2 : JA X [] tNil := ⟨yV⟩
theorem j0 (ha : JE X e te) (hr : JA X es t) (hs : starEach (e :: es) X.env = (false, eval e X.env) :: starEach es X.env) : JA X (e :: es) (tCons te t) := ⟨kL ha.h hr.h hs⟩
theorem jF {op : CmpOp} {r : R2} (ho : OpR X (compareOp op) r) (ha : JE X a ta) (hb : JE X b tb) (hm : behindInMarks op b = false) : JT X (.Compare a [op] [b] pos) (tTest (tOp r ta tb)) := ⟨pt_cmpR ho ha.h hb.h hm⟩
theorem kS (h : JE X e te) (he : TvOk e) : JT X e (tB te) := ⟨pt_val h.h (he.h _)⟩
theorem yH {tA : TT} (ha : JT X a tA) : JT X (.UnaryOp .Not a pos) (tNot tA) := ⟨pt_not ha.h⟩
theorem qM : JTs X [] qQ := ⟨pts_nil⟩
theorem jts_one {t : TT} (h : JT X e t) : JTs X [e] t := ⟨pts_one h.h⟩
theorem jT {i : Nat} (hN : X.N.Nodup) (hi : X.N[i]? = some x) (hx : Loc1 X x) : JG X (.Name x pos) (yJ i) := ⟨pg_name hN hi hx.a hx.b⟩
theorem ji_range1 {tg : Expr} (hg : Gl1 X "range") (hm : X.mg "range" = none) (ha : JA X [a] t) (hs : starEach [a] X.env = (false, eval a X.env) :: starEach [] X.env) : JI X tg (.Call (.Name "range" p) [a] [] pos) (iRng1 t) := ⟨pi_range1 hg.a hm ha.h hs⟩
theorem qN {tg : Expr} (hl : JE X a ta) : JI X tg a (iList X.K ta) := ⟨pi_list hl.h⟩
theorem ji_tup {tg : Expr} (hl : JE X a ta) : JI X tg a (iTup X.K ta) := ⟨pi_tup hl.h⟩
theorem ji_zip {elts : List Expr} {x1 : Nat} {tp : Pos} (hg : Gl1 X "zip") (hm : X.mg "zip" = none) (ha : JA X [a, b] t) (he : starEach [a, b] X.env = (false, eval a X.env) :: starEach [b] X.env) (hv : bootBuiltins "zip" = some (.type "zip") := by decide +kernel)
   (hpl : (backTo pos (starEach [b] X.env)).any (·.1) = false := by rfl) : JI X (.Tuple elts x1 tp) (.Call (.Name "zip" p) [a, b] [] pos) (iZip X.K t) := ⟨pi_zip hg.a hm ha.h hv he hpl⟩
theorem jo_none : JO X none tNoPart := ⟨po_none⟩
theorem jo_some (h : JE X e te) : JO X (some e) (tPart te) := ⟨po_some h.h⟩
theorem jM {i : Nat} {pos' : Pos} (hN : X.N.Nodup) (hi : X.N[i]? = some x) (hx : Loc1 X x) (he : JE X e te) (hs : SwOk e (some (.Name x pos'))) : JS X (.Assign [.Name x pos'] e pos) (tAsg te (yJ i)) := ⟨xB hN hi hx.a he.h (hs.h _ _) hx.b⟩
theorem jI (he : JE X e te) : JS X (.Return (some e) pos) (tRet te) := ⟨ps_ret he.h⟩
theorem js_expr (he : JE X e te) (hs : SwOk e none) : JS X (.Expr e pos) (tDrop te) := ⟨ps_expr he.h (hs.h _ _)⟩
theorem jN : JSs X [] tNext := ⟨pss_nil⟩
theorem j9 {st : Stmt} {t : TS} (h1 : JS X st t) : JSs X [st] t := ⟨pss_one h1.h⟩
theorem j5 {st : Stmt} {rest : List Stmt} {t u : TS} (h1 : JS X st t) (h2 : JSs X rest u) : JSs X (st :: rest) (tSeq t u) := ⟨yD h1.h h2.h⟩
theorem jX {c : Expr} {a b : List Stmt} {tc : TT} {t u : TS} (hc : JT X c tc) (ha : JSs X a t) (hb : JSs X b u) : JS X (.If c a b pos) (tIfS tc t u) := ⟨ps_if hc.h ha.h hb.h⟩
theorem qC {tg iter : Expr} {body : List Stmt} {wi : TI} {g : TG} {tb : TS} (hp : PassesOwn (model X.prog X.w) X.A X.env X.xe) (hc : X.calm = true) (hi : JI X tg iter wi) (hg : JG X tg g) (hb : JSs X body tb) (hs : FoOk iter) : JS X (.For tg iter body [] pos) (tFor wi g tb) := ⟨ps_for hp hc hi.h hg.h hb.h (hs.h _)⟩
theorem je_bm {T : String} {name : Str} {r} (pa : PlainAttrs T) (slot : Slot T name id) (hty : typeOf (.builtin id) = pure (.type "method_descriptor")) (hm : MtR X id r) (ho : JE X o to) (ha : JA X (e :: es) t)
   (hs : starEach (e :: es) X.env = (false, eval e X.env) :: starEach es X.env)
   (hbase : attributeBase o name X.env (eval o X.env) = eval o X.env := by rfl)
   (hfew : ((backTo cpos (starEach (e :: es) X.env)).all (fun x => !x.1) && (backToKw cpos (keywordEach [] X.env)).all (fun x => x.1.isSome)
     && decide ((e :: es).length + ([] : List Keyword).length + (if ([] : List Keyword).isEmpty then 0 else 1) < 30)) = true := by rfl)
   (hline : (apos.endLine == cpos.line) = true := by rfl) (hplain : (backTo cpos (starEach es X.env)).any (·.1) = false := by rfl) :
   JE X (.Call (.Attribute o name apos) (e :: es) [] cpos) (tBM X.K T r to t) := ⟨pe_bm pa slot hty hm ho.h ha.h hbase hfew hline hs hplain⟩
theorem yL {tg iter elt : Expr} {ifs : List Expr} {sc : Scope} {wi : TI} {g : TG} {tt : TT} {m : List (Option Nat)} {Nc : List Str} (hc : X.calm = true) (hi : JI X tg iter wi) (hkind : sc.kind = .function) (hcell : ∀ y ∈ sc.names, y.2 ≠ .cell) (hnames : ∀ y ∈ sc.names, y.2 = .local → sc.names.lookup y.1 = some .local)
   (hfree : ∀ y ∈ sc.names, y.2 = .free → X.env.scope.names.lookup y.1 = some .cell ∨ X.env.scope.names.lookup y.1 = some .free) (hm : FreeAt X sc Nc m)
   (hg : ∀ cl C fp s H, JG (blk X sc cl C Nc fp s H) tg g) (ht : ∀ cl C fp s H, JTs (blk X sc cl C Nc fp s H) ifs tt) (he : ∀ cl C fp s H, JE (blk X sc cl C Nc fp s H) elt te)
   (hs : FoOk iter) : JE X (.ListComp elt [⟨tg, iter, ifs, 0⟩] sc pos) (tComp m wi g tt te) := ⟨pe_comp hc hi.h hkind hcell hnames hfree hm (fun cl C fp s H => (hg cl C fp s H).h) (fun cl C fp s H => (ht cl C fp s H).h) (fun cl C fp s H => (he cl C fp s H).h) (hs.h _)⟩
theorem je_big {p1 p2 p3 p4 p5 p6 p7 : Pos} {k1 k2 k3 k4 : Nat} : JE X (.BinOp (.BinOp (.Constant (.int 2) k1 p1) .Mult (.BinOp (.Constant (.int 10) k2 p2) .Pow (.Constant (.int 12) k3 p3) p4) p5) .Add (.Constant (.int 1) k4 p6) p7) (tC (.int 2000000000001)) := ⟨pe_big⟩
end
section
variable {P : Program} {w : World} {K : W.Frag} {mg : Str → Option Value} {base : Heap} {N : List Str} {qual : Str} {sc : Scope} {f : Addr} {cdv : Value} {A : Around} {outer : List Env} {s : Shared} {H : Hp} {E : XK} {x : Str}
theorem gl_d (h : sc.names.lookup x = some .globalImplicit) : Gl1 (cxOf CX0 P w K mg base N qual sc f cdv A outer s H E).nox x := ⟨h⟩
theorem gD (h : sc.names.lookup x = some .globalImplicit := by decide +kernel) : Gl1 (cxOf CX0 P w K mg base N qual sc f cdv A outer s H E).nox x := gl_d h
theorem vis_l (h : sc.names.lookup x = some .local) : Vis1 (cxOf CX0 P w K mg base N qual sc f cdv A outer s H E).nox x := ⟨.inl h⟩
theorem vL (h : sc.names.lookup x = some .local := by decide +kernel) : Vis1 (cxOf CX0 P w K mg base N qual sc f cdv A outer s H E).nox x := vis_l h
theorem vis_c (h : sc.names.lookup x = some .cell) : Vis1 (cxOf CX0 P w K mg base N qual sc f cdv A outer s H E).nox x := ⟨.inr (.inl h)⟩
theorem vC (h : sc.names.lookup x = some .cell := by decide +kernel) : Vis1 (cxOf CX0 P w K mg base N qual sc f cdv A outer s H E).nox x := vis_c h
end
theorem keep_relab {env : Env} {x : Str} {k : NameKind} (hk : k ≠ .free) : ∀ {l : List (Str × NameKind)}, l.lookup x = some k →
   (l.map fun (n, k) => if (k == NameKind.free && env.scope.kind == .function && env.kindOf n == some .cell) then (n, NameKind.cell) else (n, k)).lookup x = some k
 | [], h => by cases h
 | (n, k') :: r, h => by
   have ih := @keep_relab env x k hk r
   rw [List.lookup_cons] at h
   rw [List.map_cons]
   dsimp only
   by_cases hb : (k' == NameKind.free && env.scope.kind == .function && env.kindOf n == some .cell) = true
   · rw [if_pos hb, List.lookup_cons]
     cases hx : x == n with
     | true =>
       rw [hx] at h
       have e : k' = k := Option.some.inj h
       simp only [Bool.and_eq_true] at hb
       exact absurd (e.symm.trans (eq_of_beq hb.1.1)) hk
     | false => rw [hx] at h; exact ih h
   · rw [if_neg hb, List.lookup_cons]
     cases hx : x == n with
     | true => rw [hx] at h; exact h
     | false => rw [hx] at h; exact ih h
section
variable {X : Cx} {sc : Scope} {cl : List (Str × Addr)} {C : Addr} {Nc : List Str} {fp : List Addr} {s : Shared} {H : Hp} {x : Str}
theorem gl_b (h : sc.names.lookup x = some .globalImplicit) : Gl1 (blk X sc cl C Nc fp s H) x := ⟨keep_relab (by decide) h⟩
theorem kN (h : sc.names.lookup x = some .local) : Vis1 (blk X sc cl C Nc fp s H) x := ⟨.inl (keep_relab (by decide) h)⟩
theorem kY (h : sc.names.lookup x = some .free) : Vis1 (blk X sc cl C Nc fp s H) x := ⟨.inr (free_relab h)⟩
theorem qL (h : sc.names.lookup x = some .local) : Loc1 (blk X sc cl C Nc fp s H) x := ⟨.inl (keep_relab (by decide) h), .inr (keep_relab (by decide) h)⟩
end
section
variable {P : Program} {w : World} {K : W.Frag} {mg : Str → Option Value} {base : Heap} {N : List Str} {qual : Str} {sc : Scope} {f : Addr} {cdv : Value} {A : Around} {outer : List Env} {s : Shared} {H : Hp} {E : XK} {x : Str}
theorem loc_l (h : sc.names.lookup x = some .local) : Loc1 (cxOf CX0 P w K mg base N qual sc f cdv A outer s H E).nox x := ⟨.inl h, .inl rfl⟩
theorem lL (h : sc.names.lookup x = some .local := by decide +kernel) : Loc1 (cxOf CX0 P w K mg base N qual sc f cdv A outer s H E).nox x := loc_l h
theorem loc_c (h : sc.names.lookup x = some .cell) : Loc1 (cxOf CX0 P w K mg base N qual sc f cdv A outer s H E).nox x := ⟨.inr h, .inl rfl⟩
end
structure JW (X : Cx) (e : Expr) (t : TT) : Prop where
 h : PW X e t
section
variable {X : Cx} {a b : Expr} {rest : List Expr} {pos : Pos} {tA tB' : TT}
theorem jw_and1 (ha : JT X a tA) : JW X (.BoolOp .And [a] pos) tA := ⟨pw_and1 ha.h⟩
theorem yY (ha : JT X a tA) : JW X (.BoolOp .Or [a] pos) tA := ⟨pw_or1 ha.h⟩
theorem jw_and (ha : JT X a tA) (hb : JW X (.BoolOp .And (b :: rest) pos) tB') : JW X (.BoolOp .And (a :: b :: rest) pos) (tAnd tA tB') := ⟨pw_and ha.h hb.h⟩
theorem yQ (ha : JT X a tA) (hb : JW X (.BoolOp .Or (b :: rest) pos) tB') : JW X (.BoolOp .Or (a :: b :: rest) pos) (tOr tA tB') := ⟨pw_or ha.h hb.h⟩
theorem jt_w (h : JW X a tA) : JT X a tA := ⟨h.h.pt⟩
theorem jgs_nil : JGs X [] gNil := ⟨pgs_nil⟩
structure AsOk (e : Expr) : Prop where
 h : ∀ es env, assignEach (e :: es) env = (false, assign e env) :: assignEach es env
theorem as_name {x : Str} : AsOk (.Name x pos) := ⟨fun _ _ => rfl⟩
theorem as_tup {xs : List Expr} {k} : AsOk (.Tuple xs k pos) := ⟨fun _ _ => rfl⟩
theorem jgs_cons {e : Expr} {es : List Expr} {t : TG} {u : TGs} (h1 : JG X e t) (h2 : JGs X es u) (hs : AsOk e) : JGs X (e :: es) (gCons t u) := ⟨pgs_cons h1.h h2.h (by rw [hs.h]; rfl)⟩
theorem jg_tup {es : List Expr} {k : Nat} {t : TGs} {n : Nat} (hc : X.calm = true) (h : JGs X es t) (hn : (assignEach es X.env).length = n := by rfl) (hst : (assignEach es X.env).findIdx? (·.1) = none := by rfl) : JG X (.Tuple es k pos) (gTup X.K n t) := ⟨pg_tup hc h.h hn hst⟩
theorem nm_name {op : CmpOp} {x : Str} : behindInMarks op (.Name x pos) = false := by cases op <;> rfl
end
theorem jg_pair_b {X : Cx} {sc : Scope} {cl : List (Str × Addr)} {C : Addr} {Nc : List Str} {fp : List Addr} {s : Shared} {H : Hp} {x y : Str} {p1 p2 pos : Pos} {k : Nat} {i j : Nat} (hc : X.calm = true) (hN : Nc.Nodup) (hi : Nc[i]? = some x) (hj : Nc[j]? = some y) (hx : sc.names.lookup x = some .local) (hy : sc.names.lookup y = some .local) :
   JG (blk X sc cl C Nc fp s H) (.Tuple [.Name x p1, .Name y p2] k pos) (gTup X.K 2 (gCons (yJ i) (gCons (yJ j) gNil))) :=
 jg_tup (X := blk X sc cl C Nc fp s H) hc (jgs_cons (jT hN hi (qL hx)) (jgs_cons (jT hN hj (qL hy)) jgs_nil as_name) as_name)
section
variable {K : W.Frag} {m : List (Option Nat)} {g : TG} {tt : TT} {te : TE} {σ : St} {H1 : Hp} {Q : VK}
end
section
variable {X : Cx} {sc : Scope} {cl : List (Str × Addr)} {C : Addr} {Nc : List Str} {fp : List Addr} {s : Shared} {H : Hp}
theorem op_in_b : OpR (blk X sc cl C Nc fp s H) (compareOp .In) (rIn X.K false) := op_in_seq
theorem op_notIn_b : OpR (blk X sc cl C Nc fp s H) (compareOp .NotIn) (rIn X.K true) := op_notIn_seq
theorem kD : IxR (blk X sc cl C Nc fp s H) (rIxT X.K) := jA
theorem call_len_b : qF (blk X sc cl C Nc fp s H) (.builtin "len") (fun xs H Q => ∃ p ys, xs = [.ref p] ∧ (SqL X.K H p ys ∨ SqT X.K H p ys) ∧ Q (.int ys.length) H) := jJ
end
end L2
end
section
namespace L2
open PySem PySem.Spec PyProof.Rows
def Ext (H H' : Hp) : Prop := ∀ b o, H b = some o → H' b = some o
theorem Ext.refl (H : Hp) : Ext H H := fun _ _ h => h
theorem Ext.trans {H H1 H2 : Hp} (a : Ext H H1) (b : Ext H1 H2) : Ext H H2 := fun c o h => b c o (a c o h)
theorem Ext.new {H H1 : Hp} {l : Addr} (a : Ext H H1) (hl : H1 l = none) (o : HO) : Ext H (upd H1 l o) := fun c u h => by
 have := a c u h
 rw [jD (jC this hl)]
 exact this
theorem Ext.updNew {H H1 : Hp} {l : Addr} (a : Ext H H1) (hl : H l = none) (o : HO) : Ext H (upd H1 l o) := fun c u h => by
 rw [jD (jC h hl)]
 exact a c u h
theorem Ext.seq {K : W.Frag} {H H' : Hp} {a : Addr} {xs : List V} (e : Ext H H') (h : SqL K H a xs) : SqL K H' a xs := by
 rcases h with h | h
 · rcases h with h | ⟨o, h⟩
   · exact .inl (.inl (e _ _ h))
   · exact .inl (.inr ⟨o, e _ _ h⟩)
 · exact .inr h
def TupR (H : Hp) (xs : List V) (Q : VK) : Prop := ∀ r H', H' r = some (.tup xs) → Ext H H' → Q (.ref r) H'
theorem TupR.new {H : Hp} {xs : List V} {Q : VK} (q : TupR H xs Q) {p : Addr} (hp : H p = none) : Q (.ref p) (upd H p (.tup xs)) := q p _ j4 ((Ext.refl H).new hp _)
theorem TupR.old {H : Hp} {xs : List V} {Q : VK} (q : TupR H xs Q) {p : Addr} (hp : H p = some (.tup xs)) : Q (.ref p) H := q p H hp (Ext.refl H)
section
variable {X : Cx}
def rCatU : R2 := fun x y H Q => ∃ a b xs ys, x = .ref a ∧ y = .ref b ∧ H a = some (.tup xs) ∧ H b = some (.tup ys) ∧ xs.length + ys.length ≤ sizeLine ∧ TupR H (xs ++ ys) Q
theorem op_catU : OpR X (binaryOp .Add) rCatU := by
 intro pins s σ H x y v u Q I rx ry h
 obtain ⟨a, b, xs, ys, rfl, rfl, ha, hb, hz, q⟩ := h
 by_cases hx : xs = []
 · subst hx
   cases rx
   cases ry
   obtain ⟨_, its, r1, n1, e1⟩ := I.hok a _ ha
   obtain ⟨_, its2, r2, n2, e2⟩ := I.hok b _ hb
   cases r1
   exact concat_meets ⟨_, e1, rfl⟩ ⟨_, e2, rfl⟩ noFill_tuple_add seq_tuple_add PySem.F.slot_tuple_add PySem.F.entry_tuple_add (PySem.F.args_tuple_add_2 _ _) (AutoSeq1.tuple___add___tuple_tuple_0 a _ n1 b its2.toArray n2 (by simp)) ⟨e1, e2, .ref b, H, I, rfl, q.old hb⟩
 · refine op_catT pins s σ H _ _ v u Q I rx ry ⟨a, b, xs, ys, rfl, rfl, SqT.of ha, SqT.of hb, hx, hz, fun e => ?_, fun _ p hp => q.new hp⟩
   subst e
   rw [List.append_nil] at q
   exact q.old ha
theorem noFill_tuple_mul : fillsNumberSlot (.type "tuple") "mul" = pure false :=
 PySem.fillsNumberSlot_seq (id := "tuple.__mul__") (r := some (.builtin "tuple.__rmul__")) PySem.F.slot_tuple_mul.lookup (by decide +kernel) PySem.F.slot_tuple_rmul.lookup (by decide +kernel)
theorem repeat_tuple : seqRepeat? (.type "tuple") = pure (some (.builtin "tuple.__mul__")) := by
 unfold seqRepeat?
 rw [PySem.seqSlot_of (T := "tuple") (name := "__mul__") (id := "tuple.__mul__") PySem.F.slot_tuple_mul.lookup (by decide +kernel), PySem.seqSlot_of (T := "tuple") (name := "__rmul__") (id := "tuple.__rmul__") PySem.F.slot_tuple_rmul.lookup (by decide +kernel)]
 rfl
theorem rmul_tuple (a : Int) (t : Tok) (l : Addr) (items : Array Value) (n : Nat) :
   Meets (Builtin.«int.__rmul__» ⟨[.int a t, .ref l], []⟩) (fun _ R s => s.heap.get? l = some { cls := .type "tuple", dict := none, data := .seq items n, slots := #[] } ∧ R (.ok (.ret Value.notImplemented)) s) :=
 .of_wp fun prog w A R s h => by
   obtain ⟨hp, g, d, tk, os⟩ := s
   obtain ⟨hl, h⟩ := h
   wp_walk
   exact ⟨_, rfl, h⟩
section
variable (l : Addr) (items : Array Value) (n : Nat) (x : Int) (u : Tok) (h1 : ¬ (decide (x < -(2 ^ 63)) || decide (x ≥ 2 ^ 63)) = true)
include h1
theorem mul_tuple1 (h2 : (items.isEmpty || x == 1) = true) :
   Meets (Builtin.«tuple.__mul__» ⟨[.ref l, .int x u], []⟩) (fun _ R s => s.heap.get? l = some { cls := .type "tuple", dict := none, data := .seq items n, slots := #[] } ∧ R (.ok (.ret (.ref l))) s) :=
 .of_wp fun prog w A R s h => by
   obtain ⟨hp, g, d, tk, os⟩ := s
   obtain ⟨hl, h⟩ := h
   have f1 := AutoSeq1.idx_int
   wp_walk using AutoSeq1.wpAny_loadPart' hl
   refine wpAny_ite_false (decide_eq_false h1) ?_
   wp_walk using AutoSeq1.wpAny_loadPart' hl
   exact ⟨_, rfl, h⟩
theorem mul_tuple2 (h2 : ¬ (items.isEmpty || x == 1) = true) (h3 : (decide (x ≤ 0) || items.isEmpty) = true) :
   Meets (Builtin.«tuple.__mul__» ⟨[.ref l, .int x u], []⟩) (fun _ R s => s.heap.get? l = some { cls := .type "tuple", dict := none, data := .seq items n, slots := #[] } ∧ R (.ok (.ret (.ref s.heap.objs.size))) { s with heap := s.heap.push { cls := .type "tuple", data := .seq #[] } }) :=
 .of_wp fun prog w A R s h => by
   obtain ⟨hp, g, d, tk, os⟩ := s
   obtain ⟨hl, h⟩ := h
   have f1 := AutoSeq1.idx_int
   wp_walk using AutoSeq1.wpAny_loadPart' hl
   refine wpAny_ite_false (decide_eq_false h1) ?_
   wp_walk using AutoSeq1.wpAny_loadPart' hl
   exact ⟨_, rfl, h⟩
theorem mul_tuple3 (h2 : ¬ (items.isEmpty || x == 1) = true) (h3 : ¬ (decide (x ≤ 0) || items.isEmpty) = true) (h4 : ¬ (items.size : Int) * x > (2 ^ 63 - 1) / 8) (h5 : ¬ Builtin.Tuple.tupleTooMany ((items.size : Int) * x) = true) (h6 : (List.foldl (fun x1 x2 => x1 ++ x2) #[] (List.replicate x.toNat items)).size ≤ sizeLine) :
   Meets (Builtin.«tuple.__mul__» ⟨[.ref l, .int x u], []⟩) (fun _ R s => s.heap.get? l = some { cls := .type "tuple", dict := none, data := .seq items n, slots := #[] } ∧ R (.ok (.ret (.ref s.heap.objs.size))) { s with heap := s.heap.push { cls := .type "tuple", data := .seq (List.foldl (fun x1 x2 => x1 ++ x2) #[] (List.replicate x.toNat items)) } }) :=
 .of_wp fun prog w A R s h => by
   obtain ⟨hp, g, d, tk, os⟩ := s
   obtain ⟨hl, h⟩ := h
   have f1 := AutoSeq1.idx_int
   wp_walk using AutoSeq1.wpAny_loadPart' hl
   refine wpAny_ite_false (decide_eq_false h1) ?_
   wp_walk using AutoSeq1.wpAny_loadPart' hl
   refine wpAny_ite_false (decide_eq_false h4) ?_
   wp_walk using AutoSeq1.wpAny_loadPart' hl
   exact ⟨_, rfl, h⟩
end
def rRepT : R2 := fun x y H Q => ∃ a k xs, x = .ref a ∧ y = .int k ∧ H a = some (.tup xs) ∧ -(2 ^ 63) ≤ k ∧ k < 2 ^ 63 ∧ xs.length * k.toNat ≤ sizeLine ∧ TupR H (List.replicate k.toNat xs).flatten Q
theorem op_repT : OpR X (binaryOp .Mult) rRepT := by
 intro pins s σ H x y v u Q I rx ry h
 obtain ⟨a, k, xs, rfl, rfl, ha, h1, h2, hz, q⟩ := h
 cases rx
 obtain ⟨t, rfl⟩ := ry
 obtain ⟨_, its, r, n, e⟩ := I.hok a _ ha
 have hl := r.length
 have fit : ¬ (decide (k < -(2 ^ 63)) || decide (k ≥ 2 ^ 63)) = true := by
   simp only [Bool.or_eq_true, decide_eq_true_eq]
   omega
 refine wpAny_binaryOp_repeat_ref (T := "tuple") (U := "int") (by decide) ⟨_, e, rfl⟩ (fun s' => typeIs_int s' k t) noFill_tuple_mul F.fills_int_mul F.slot_int_rmul repeat_tuple F.slot_int_index.lookup
   (call_meets F.slot_int_rmul (typeIs_int s k t) F.entry_int_rmul (F.args_int_rmul_2 _ _) (rmul_tuple k t a its.toArray n) ⟨e, rfl, ⟨_, e, rfl⟩, ?_⟩)
 have hsl : (sizeLine : Nat) ≤ (2 ^ 63 - 1) / 8 := by decide
 by_cases c1 : (its.toArray.isEmpty || k == 1) = true
 · refine call_meets F.slot_tuple_mul ⟨_, e, rfl⟩ F.entry_tuple_mul (F.args_tuple_mul_2 _ _) (mul_tuple1 a its.toArray n k t fit c1) ⟨e, .ref a, H, I, rfl, q.old ?_⟩
   rw [ha]
   congr 2
   rw [Bool.or_eq_true] at c1
   rcases c1 with c | c
   · have : its = [] := by simpa using c
     subst this
     have : xs = [] := by simpa using hl
     subst this
     simp
   · have : k = 1 := eq_of_beq c
     subst this
     show xs = (List.replicate 1 xs).flatten
     simp
 · by_cases c2 : (decide (k ≤ 0) || its.toArray.isEmpty) = true
   · refine call_meets F.slot_tuple_mul ⟨_, e, rfl⟩ F.entry_tuple_mul (F.args_tuple_mul_2 _ _) (mul_tuple2 a its.toArray n k t fit c1 c2) ⟨e, ?_⟩
     refine ⟨.ref s.heap.objs.size, _, I.laid (t' := s.toks) (o := .tup []) (fun b ob q => Heap.get?_push_of_some _ q) (Nat.le_refl _) ⟨Nat.zero_le _, [], .nil, TupO.new _ _⟩, rfl, ?_⟩
     have k0 : k.toNat = 0 := by
       rw [Bool.or_eq_true] at c2
       rcases c2 with c | c
       · have := of_decide_eq_true c
         omega
       · exact absurd (by rw [c]; rfl) c1
     have e0 : (List.replicate k.toNat xs).flatten = [] := by rw [k0]; rfl
     rw [e0] at q
     exact q.new (I.hok.fresh (Nat.le_refl _))
   · have f0 : List.foldl (fun x1 x2 => x1 ++ x2) #[] (List.replicate k.toNat its.toArray) = (List.replicate k.toNat its).flatten.toArray := by
       have := foldl_rep its k.toNat []
       rw [List.nil_append] at this
       exact this
     have kp : 0 < k := by
       simp only [Bool.or_eq_true, decide_eq_true_eq, not_or] at c2
       omega
     have ek : ((its.toArray.size : Nat) : Int) * k = ((xs.length * k.toNat : Nat) : Int) := by
       rw [List.size_toArray, ← hl, Int.natCast_mul]
       congr 1
       omega
     refine call_meets F.slot_tuple_mul ⟨_, e, rfl⟩ F.entry_tuple_mul (F.args_tuple_mul_2 _ _) (mul_tuple3 a its.toArray n k t fit c1 c2 (by rw [ek]; omega) ?_ ?_) ⟨e, ?_⟩
     · rw [ek]
       unfold Builtin.Tuple.tupleTooMany
       simp only [decide_eq_true_eq]
       omega
     · rw [f0, List.size_toArray, len_rep, ← hl, Nat.mul_comm]
       exact hz
     · rw [f0]
       exact ⟨.ref s.heap.objs.size, _, I.laid (t' := s.toks) (o := .tup (List.replicate k.toNat xs).flatten) (fun b ob q => Heap.get?_push_of_some _ q) (Nat.le_refl _) ⟨by rw [len_rep, Nat.mul_comm]; exact hz, _, r.rep k.toNat, TupO.new _ _⟩, rfl, q.new (I.hok.fresh (Nat.le_refl _))⟩
theorem getItem_tuple_all {prog : Program} {w : World} {A : Around} {E : Value → Shared → Prop} {s : Shared} {t sl : Addr} {items : Array Value} {n : Nat} {vl vu : Value} {lo hi : Option Int} {Q : Value → Shared → Prop}
   (e0 : s.heap.get? t = some { cls := .type "tuple", data := .seq items n }) (hs : s.heap.IsSliceOf sl vl vu .none) (pl : IsPart vl lo) (pu : IsPart vu hi)
   (hw : HT.sIx items.size 0 lo = 0 ∧ HT.sIx items.size items.size hi = items.size) (h : Q (.ref t) s) : wpAny (model prog w) A (getItem (.ref t) (.ref sl)) Q E s := by
 have ht : IsTup s.heap t items := ⟨_, e0, rfl, n, rfl⟩
 obtain ⟨os, hos, hcs, hds⟩ := id hs
 have hTs : s.TypeIs (.ref sl) "slice" := ⟨os, hos, hcs⟩
 unfold getItem
 try with_reducible refine wpAny_holding ?_
 first | refine wpAny_bind (wpAny_pure ?_) | skip
 refine wpAny_bind (wpAny_sequenceKey ht.typeIs (by decide) (wpAny_bind (wpAny_callSpecial?_slot (name := Str.ofString "__getitem__") ht.typeIs PyProof.Rows.slot_tuple_getitem
   (wpAny_call_entry PyProof.Rows.slot_tuple_getitem ht.typeIs entry_tuple_getitem (?_ : wpAny (model prog w) _ (Builtin.Tuple.tupleItemsOf (.ref t) >>= _) _ _ s) (args_tuple_getitem _ _)))))
 refine wpAny_bind (tupleItemsOf_ ht (wpAny_bind (wpAny_typeOf hTs ?_)))
 rw [if_pos (by decide)]
 refine wpAny_bind (HT.sliceApplied_gen hs pl pu ?_)
 have yes : (((HT.sIx items.size 0 lo : Nat) : Int) == 0 && (1 : Int) == 1 && (HT.sIx items.size items.size hi - HT.sIx items.size 0 lo) == items.size) = true := by
   rw [hw.1, hw.2]
   simp
 show wpAny (model prog w) _ (if (((HT.sIx items.size 0 lo : Nat) : Int) == 0 && (1 : Int) == 1 && (HT.sIx items.size items.size hi - HT.sIx items.size 0 lo) == items.size) = true then _ else _) _ _ s
 rw [if_pos yes]
 have ex : ∀ {A : Around} {Q : Bool → Shared → Prop}, Q true s → wpAny (model prog w) A (Builtin.Tuple.tupleIsExact (.ref t)) Q E s := fun q => by
   unfold Builtin.Tuple.tupleIsExact
   exact wpAny_bind (wpAny_typeOf ⟨_, e0, rfl⟩ (wpAny_pure q))
 refine wpAny_bind (ex ?_)
 rw [if_pos rfl]
 exact wpAny_bind (wpAny_rule (wpAny_pure ⟨_, rfl, wpAny_pure h⟩))
def rSlU : V → Option Int → Option Int → Hp → VK → Prop := fun x lo hi H Q => ∃ a xs, x = .ref a ∧ H a = some (.tup xs) ∧ TupR H (cutV xs lo hi) Q
theorem sl_tupU : SlR X rSlU := by
 intro pins s σ H x v vl vu lo hi sl Q I rx hs pl pu h
 obtain ⟨a, xs, rfl, hx, q⟩ := h
 by_cases hw : HT.sIx xs.length 0 lo = 0 ∧ HT.sIx xs.length xs.length hi = xs.length
 · cases rx
   obtain ⟨_, its, r, n, e⟩ := I.hok a _ hx
   have hlen : its.toArray.size = xs.length := by rw [List.size_toArray]; exact r.length.symm
   refine ⟨"tuple", _, PyProof.Rows.slot_tuple_getitem.lookup, ⟨_, e, rfl⟩, getItem_tuple_all e hs pl pu (by rw [hlen]; exact hw) ⟨.ref a, H, I, rfl, q.old ?_⟩⟩
   rw [hx]
   congr 2
   unfold cutV
   rw [hw.1, hw.2]
   simp
 · exact sl_tup pins s σ H _ v vl vu lo hi sl Q I rx hs pl pu ⟨a, xs, rfl, SqT.of hx, hw, fun p hp => q.new hp⟩
theorem ji_range2 {tg a b : Expr} {t : TA} {p pos : Pos} (hg : Gl1 X "range") (hm : X.mg "range" = none) (ha : JA X [a, b] t) (hs : starEach [a, b] X.env = (false, eval a X.env) :: starEach [b] X.env) (hs2 : starEach [b] X.env = (false, eval b X.env) :: starEach [] X.env) :
   JI X tg (.Call (.Name "range" p) [a, b] [] pos) (iRng2 t) := ⟨pi_range2 hg.a hm ha.h (by rw [hs, hs2]; rfl) hs2⟩
theorem js_asg {tg e : Expr} {te : TE} {g : TG} {pos : Pos} (he : JE X e te) (hg : JG X tg g) (hs : swapsWithSole [tg] e pos.line X.env = pure false := by rfl) (hw : swappedStores [tg] e X.env = pure none := by rfl)
   (h1 : (assignEach [tg] X.env).map (·.2) = [assign tg X.env] := by rfl) : JS X (.Assign [tg] e pos) (tAsg te g) := ⟨ps_asg he.h hg.h hs hw h1⟩
end
section
variable {K : W.Frag} {m : List (Option Nat)} {g : TG} {tt : TT} {te : TE} {σ : St} {H1 : Hp} {Q : VK}
theorem comp_tup {a : Addr} {xs : List V} (hn : xs.length < sizeLine) (Pv : Addr → Nat → St → Hp → List V → Prop) (h0 : ∀ D, H1 D = none → Pv D 0 (blkσ m σ) (upd H1 D (.lst [])) [])
   (hD : ∀ D i σ' H' zs, H1 D = none → Pv D i σ' H' zs → H' a = some (.tup xs) ∧ H' D = some (.lst zs) ∧ zs.length ≤ i)
   (hs : ∀ D i σ' H' zs x, H1 D = none → xs[i]? = some x → Pv D i σ' H' zs → g x σ' H' fun σ2 H2 => tt σ2 H2 fun b H3 => if b = true then te σ2 H3 fun v H4 => H4 D = some (.lst zs) ∧ Pv D (i + 1) σ2 (upd H4 D (.lst (zs ++ [v]))) (zs ++ [v]) else Pv D (i + 1) σ2 H3 zs)
   (hd : ∀ D σ' H' zs, H1 D = none → Pv D xs.length σ' H' zs → Q (.ref D) H') : CompW m g tt te σ Q (Itt K a) H1 := by
 intro D hDn
 refine ⟨fun i k σ' H' zs => k = xs.length - i ∧ i ≤ xs.length ∧ Pv D i σ' H' zs, ⟨_, rfl, Nat.zero_le _, h0 D hDn⟩, ?_⟩
 rintro i k σ' H' zs ⟨rfl, hi, p⟩
 obtain ⟨s1, q1, q2⟩ := hD D i σ' H' zs hDn p
 refine ⟨q1, by omega, ?_⟩
 by_cases hlt : i < xs.length
 · refine .inr ⟨⟨xs, xs[i], SqT.of s1, by simp [hlt]⟩, Pv D (i + 1), fun σ2 H2 zs z => ⟨xs.length - (i + 1), by omega, rfl, hlt, z⟩, fun v H'' y => ?_⟩
   obtain ⟨e1, e2⟩ := y
   subst e1
   exact hs D i σ' _ zs v hDn (e2 xs (SqT.of s1)) p
 · have e : i = xs.length := by omega
   subst e
   exact .inl ⟨⟨xs, SqT.of s1, Nat.le_refl _⟩, hd D σ' H' zs hDn p⟩
end
end L2
end
section
namespace L2
open PySem PySem.Spec PyProof.Rows
inductive Tr where
 | non
 | bl (b : Bool)
 | int (i : Int)
 | str (x : Str)
 | lst (ts : List Tr)
 | tup (ts : List Tr)
mutual
def TAt (H : Hp) : Tr → V → Prop
 | .non, v => v = .non
 | .bl b, v => v = .bl b
 | .int i, v => v = .int i
 | .str x, v => v = .str x
 | .lst ts, v => ∃ a vs, v = .ref a ∧ H a = some (.lst vs) ∧ TsAt H ts vs
 | .tup ts, v => ∃ a vs, v = .ref a ∧ H a = some (.tup vs) ∧ TsAt H ts vs
def TsAt (H : Hp) : List Tr → List V → Prop
 | [], vs => vs = []
 | t :: ts, vs => ∃ v r, vs = v :: r ∧ TAt H t v ∧ TsAt H ts r
end
mutual
def dep : Tr → Nat
 | .lst ts => deps ts + 1
 | .tup ts => deps ts + 1
 | _ => 0
def deps : List Tr → Nat
 | [] => 0
 | t :: ts => max (dep t) (deps ts)
end
mutual
def eqT : Tr → Tr → Bool
 | .non, .non => true
 | .bl a, .bl b => a == b
 | .bl a, .int b => (if a then 1 else 0) == b
 | .int a, .bl b => a == (if b then 1 else 0)
 | .int a, .int b => a == b
 | .str a, .str b => a == b
 | .lst a, .lst b => eqTs a b
 | .tup a, .tup b => eqTs a b
 | _, _ => false
def eqTs : List Tr → List Tr → Bool
 | [], [] => true
 | a :: as, b :: bs => eqT a b && eqTs as bs
 | _, _ => false
end
mutual
theorem eqT_self : ∀ t : Tr, eqT t t = true
 | .non => by simp [eqT]
 | .bl b => by simp [eqT]
 | .int i => by simp [eqT]
 | .str x => by simp [eqT]
 | .lst ts => by rw [eqT]; exact eqTs_self ts
 | .tup ts => by rw [eqT]; exact eqTs_self ts
theorem eqTs_self : ∀ ts : List Tr, eqTs ts ts = true
 | [] => by simp [eqTs]
 | t :: ts => by rw [eqTs, eqT_self t, eqTs_self ts]; rfl
end
mutual
theorem TAt.ext {H H' : Hp} (e : Ext H H') : ∀ {t : Tr} {v : V}, TAt H t v → TAt H' t v
 | .non, _, h => h
 | .bl _, _, h => h
 | .int _, _, h => h
 | .str _, _, h => h
 | .lst ts, _, ⟨a, vs, q, h, r⟩ => ⟨a, vs, q, e _ _ h, TsAt.ext e r⟩
 | .tup ts, _, ⟨a, vs, q, h, r⟩ => ⟨a, vs, q, e _ _ h, TsAt.ext e r⟩
theorem TsAt.ext {H H' : Hp} (e : Ext H H') : ∀ {ts : List Tr} {vs : List V}, TsAt H ts vs → TsAt H' ts vs
 | [], _, h => h
 | t :: ts, _, ⟨v, r, q, h, s⟩ => ⟨v, r, q, TAt.ext e h, TsAt.ext e s⟩
end
mutual
theorem TAt.inj {H : Hp} : ∀ {t u : Tr} {v : V}, TAt H t v → TAt H u v → t = u
 | .non, u, _, h, h' => by
   cases (show _ = V.non from h)
   cases u with
   | non => rfl
   | bl b => cases (show V.non = _ from h')
   | int b => cases (show V.non = _ from h')
   | str b => cases (show V.non = _ from h')
   | lst ts => obtain ⟨_, _, q, _⟩ := h'; cases q
   | tup ts => obtain ⟨_, _, q, _⟩ := h'; cases q
 | .bl b, u, _, h, h' => by
   cases (show _ = V.bl b from h)
   cases u with
   | non => cases (show V.bl b = _ from h')
   | bl b => cases (show V.bl _ = V.bl b from h'); rfl
   | int i => cases (show V.bl b = V.int i from h')
   | str i => cases (show V.bl b = V.str i from h')
   | lst ts => obtain ⟨_, _, q, _⟩ := h'; cases q
   | tup ts => obtain ⟨_, _, q, _⟩ := h'; cases q
 | .int b, u, _, h, h' => by
   cases (show _ = V.int b from h)
   cases u with
   | non => cases (show V.int b = _ from h')
   | bl i => cases (show V.int b = V.bl i from h')
   | int b => cases (show V.int _ = V.int b from h'); rfl
   | str i => cases (show V.int b = V.str i from h')
   | lst ts => obtain ⟨_, _, q, _⟩ := h'; cases q
   | tup ts => obtain ⟨_, _, q, _⟩ := h'; cases q
 | .str b, u, _, h, h' => by
   cases (show _ = V.str b from h)
   cases u with
   | non => cases (show V.str b = _ from h')
   | bl i => cases (show V.str b = V.bl i from h')
   | int i => cases (show V.str b = V.int i from h')
   | str b => cases (show V.str _ = V.str b from h'); rfl
   | lst ts => obtain ⟨_, _, q, _⟩ := h'; cases q
   | tup ts => obtain ⟨_, _, q, _⟩ := h'; cases q
 | .lst ts, u, _, ⟨a, vs, q, h, r⟩, h' => by
   subst q
   cases u with
   | non => cases (show V.ref a = _ from h')
   | bl i => cases (show V.ref a = V.bl i from h')
   | int i => cases (show V.ref a = V.int i from h')
   | str i => cases (show V.ref a = V.str i from h')
   | lst us =>
     obtain ⟨a', vs', q', h2, r'⟩ := h'
     cases q'
     rw [h] at h2
     cases h2
     rw [TsAt.inj r r']
   | tup us =>
     obtain ⟨a', vs', q', h2, r'⟩ := h'
     cases q'
     rw [h] at h2
     cases h2
 | .tup ts, u, _, ⟨a, vs, q, h, r⟩, h' => by
   subst q
   cases u with
   | non => cases (show V.ref a = _ from h')
   | bl i => cases (show V.ref a = V.bl i from h')
   | int i => cases (show V.ref a = V.int i from h')
   | str i => cases (show V.ref a = V.str i from h')
   | lst us =>
     obtain ⟨a', vs', q', h2, r'⟩ := h'
     cases q'
     rw [h] at h2
     cases h2
   | tup us =>
     obtain ⟨a', vs', q', h2, r'⟩ := h'
     cases q'
     rw [h] at h2
     cases h2
     rw [TsAt.inj r r']
theorem TsAt.inj {H : Hp} : ∀ {ts us : List Tr} {vs : List V}, TsAt H ts vs → TsAt H us vs → ts = us
 | [], us, _, h, h' => by
   cases (show _ = [] from h)
   cases us with
   | nil => rfl
   | cons u us => obtain ⟨_, _, q, _⟩ := h'; cases q
 | t :: ts, us, _, ⟨v, r, q, h, s⟩, h' => by
   subst q
   cases us with
   | nil => cases (show v :: r = [] from h')
   | cons u us =>
     obtain ⟨v', r', q, h2, s2⟩ := h'
     cases q
     rw [TAt.inj h h2, TsAt.inj s s2]
end
theorem TsAt.len {H : Hp} : ∀ {ts : List Tr} {vs : List V}, TsAt H ts vs → vs.length = ts.length
 | [], _, h => by cases (show _ = [] from h); rfl
 | t :: ts, _, ⟨v, r, q, _, s⟩ => by rw [q, List.length_cons, List.length_cons, TsAt.len s]
theorem TsAt.get {H : Hp} : ∀ {ts : List Tr} {vs : List V}, TsAt H ts vs → ∀ {i : Nat} {v : V}, vs[i]? = some v → ∃ t, ts[i]? = some t ∧ TAt H t v
 | [], _, h, i, v, e => by cases (show _ = [] from h); cases e
 | t :: ts, _, ⟨v, r, q, h, s⟩, 0, v', e => by subst q; cases e; exact ⟨t, rfl, h⟩
 | t :: ts, _, ⟨v, r, q, h, s⟩, i + 1, v', e => by subst q; exact TsAt.get s (i := i) e
theorem eqTs_eq : ∀ ts us : List Tr, eqTs ts us = ((List.range (min ts.length us.length)).all (fun j => eqT (ts.getD j .non) (us.getD j .non)) && ts.length == us.length)
 | [], [] => by simp [eqTs]
 | [], u :: us => by simp [eqTs]
 | t :: ts, [] => by simp [eqTs]
 | t :: ts, u :: us => by
   rw [eqTs, eqTs_eq ts us, List.length_cons, List.length_cons, show min (ts.length + 1) (us.length + 1) = min ts.length us.length + 1 by omega, List.range_succ_eq_map, List.all_cons, List.all_map]
   have e : (ts.length + 1 == us.length + 1) = (ts.length == us.length) := by
     rw [Bool.eq_iff_iff]
     simp
   rw [e, Bool.and_assoc]
   rfl
theorem dep_mem {ts : List Tr} {t : Tr} (h : t ∈ ts) : dep t ≤ deps ts := by
 induction ts with
 | nil => cases h
 | cons a r ih =>
   rw [deps]
   rcases List.mem_cons.mp h with q | q
   · subst q; omega
   · have := ih q; omega
def flatT : Tr → Bool
 | .lst _ => false
 | .tup _ => false
 | _ => true
theorem flat_TV {H : Hp} {t : Tr} {x : V} (h : TAt H t x) (f : flatT t = true) : flatV x = true := by
 cases t with
 | non => cases (show x = _ from h); rfl
 | bl b => cases (show x = V.bl b from h); rfl
 | int b => cases (show x = V.int b from h); rfl
 | str b => cases (show x = V.str b from h); rfl
 | lst ts => cases f
 | tup ts => cases f
theorem flat_eq {H : Hp} {t u : Tr} {x y : V} (h : TAt H t x) (h' : TAt H u y) (f : flatT t = true) (f' : flatT u = true) : eqV x y = eqT t u := by
 cases t with
 | non =>
   cases (show x = _ from h)
   cases u with
   | non => cases (show y = _ from h'); simp [eqV, eqT]
   | bl b => cases (show y = V.bl b from h'); simp [eqV, eqT]
   | int b => cases (show y = V.int b from h'); simp [eqV, eqT]
   | str b => cases (show y = V.str b from h'); simp [eqV, eqT]
   | lst ts => cases f'
   | tup ts => cases f'
 | bl c =>
   cases (show x = V.bl c from h)
   cases u with
   | non => cases (show y = _ from h'); simp [eqV, eqT]
   | bl b => cases (show y = V.bl b from h'); simp [eqV, eqT]
   | int b => cases (show y = V.int b from h'); simp [eqV, eqT]
   | str b => cases (show y = V.str b from h'); simp [eqV, eqT]
   | lst ts => cases f'
   | tup ts => cases f'
 | int c =>
   cases (show x = V.int c from h)
   cases u with
   | non => cases (show y = _ from h'); simp [eqV, eqT]
   | bl b => cases (show y = V.bl b from h'); simp [eqV, eqT]
   | int b => cases (show y = V.int b from h'); simp [eqV, eqT]
   | str b => cases (show y = V.str b from h'); simp [eqV, eqT]
   | lst ts => cases f'
   | tup ts => cases f'
 | str c =>
   cases (show x = V.str c from h)
   cases u with
   | non => cases (show y = _ from h'); simp [eqV, eqT]
   | bl b => cases (show y = V.bl b from h'); simp [eqV, eqT]
   | int b => cases (show y = V.int b from h'); simp [eqV, eqT]
   | str b => cases (show y = V.str b from h'); simp [eqV, eqT]
   | lst ts => cases f'
   | tup ts => cases f'
 | lst ts => cases f
 | tup ts => cases f
section
variable {X : Cx} {pins : List (Addr × Obj)} {σ : St} {H : Hp} {s : Shared}
theorem TsAt.both {ts us : List Tr} {vs ws : List V} {its its2 : List Value} (h1 : TsAt H ts vs) (h2 : TsAt H us ws) (r1 : Vals vs its) (r2 : Vals ws its2) {j : Nat} (a1 : j < its.toArray.size) (a2 : j < its2.toArray.size) :
   ∃ t u x y, ts.getD j .non = t ∧ us.getD j .non = u ∧ t ∈ ts ∧ TAt H t x ∧ TAt H u y ∧ RelV x its.toArray[j] ∧ RelV y its2.toArray[j] := by
 have l1 := r1.length
 have l2 := r2.length
 rw [List.size_toArray] at a1 a2
 obtain ⟨x, hx⟩ : ∃ x, vs[j]? = some x := ⟨vs[j]'(by omega), by simp [show j < vs.length by omega]⟩
 obtain ⟨y, hy⟩ : ∃ y, ws[j]? = some y := ⟨ws[j]'(by omega), by simp [show j < ws.length by omega]⟩
 obtain ⟨t, ht, hxt⟩ := h1.get hx
 obtain ⟨u, hu, hyu⟩ := h2.get hy
 obtain ⟨v, hv, rv⟩ := r1.get hx
 obtain ⟨w, hw, rw'⟩ := r2.get hy
 have e1 : its.toArray[j] = v := by
   have : its[j]? = some its[j] := by simp [a1]
   rw [hv] at this
   simpa using (Option.some.inj this).symm
 have e2 : its2.toArray[j] = w := by
   have : its2[j]? = some its2[j] := by simp [a2]
   rw [hw] at this
   simpa using (Option.some.inj this).symm
 refine ⟨t, u, x, y, by rw [List.getD_eq_getElem?_getD, ht]; rfl, by rw [List.getD_eq_getElem?_getD, hu]; rfl, List.mem_of_getElem? ht, hxt, hyu, by rw [e1]; exact rv, by rw [e2]; exact rw'⟩
theorem eqAt_T (I : Inv X pins σ H s) : ∀ (n : Nat) (t u : Tr) (x y : V) (vx vy : Value) (A : Around), dep t = n → TAt H t x → TAt H u y → RelV x vx → RelV y vy → A.units + n < cLine → SeqAt.EqAt A s vx vy (eqT t u) := by
 intro n
 induction n using Nat.strongRecOn with
 | ind n ih =>
   intro t u x y vx vy A hn ht hu rx ry hc
   have hcu : A.units < cLine := by omega
   cases ft : flatT t with
   | true =>
     cases fu : flatT u with
     | true =>
       rw [← flat_eq ht hu ft fu]
       exact eqAt_V rx ry (flat_TV ht ft) (flat_TV hu fu)
     | false =>
       cases u with
       | lst us =>
         obtain ⟨b, ws, rfl, hb, _⟩ := hu
         cases ry
         obtain ⟨its, _, pl, _⟩ := I.list (SqL.of hb)
         cases t with
         | non => cases (show x = _ from ht); cases rx; rw [show eqT .non (.lst us) = false by simp [eqT]]; exact .none_list pl.isList hcu
         | bl c => cases (show x = V.bl c from ht); cases rx; rw [show eqT (.bl c) (.lst us) = false by simp [eqT]]; exact .bool_list c pl.isList hcu
         | int c => cases (show x = V.int c from ht); obtain ⟨k, rfl⟩ := rx; rw [show eqT (.int c) (.lst us) = false by simp [eqT]]; exact .int_list c k pl.isList hcu
         | str c => cases (show x = V.str c from ht); obtain ⟨k, rfl⟩ := rx; rw [show eqT (.str c) (.lst us) = false by simp [eqT]]; exact .str_list c k pl.isList hcu
         | lst ts => cases ft
         | tup ts => cases ft
       | tup us =>
         obtain ⟨b, ws, rfl, hb, _⟩ := hu
         cases ry
         obtain ⟨its, _, pl, _⟩ := I.tuple (SqT.of hb)
         cases t with
         | non => cases (show x = _ from ht); cases rx; rw [show eqT .non (.tup us) = false by simp [eqT]]; exact .none_tuple pl hcu
         | bl c => cases (show x = V.bl c from ht); cases rx; rw [show eqT (.bl c) (.tup us) = false by simp [eqT]]; exact .bool_tuple c pl hcu
         | int c => cases (show x = V.int c from ht); obtain ⟨k, rfl⟩ := rx; rw [show eqT (.int c) (.tup us) = false by simp [eqT]]; exact .int_tuple c k pl hcu
         | str c => cases (show x = V.str c from ht); obtain ⟨k, rfl⟩ := rx; rw [show eqT (.str c) (.tup us) = false by simp [eqT]]; exact .str_tuple c k pl hcu
         | lst ts => cases ft
         | tup ts => cases ft
       | non => cases fu
       | bl c => cases fu
       | int c => cases fu
       | str c => cases fu
   | false =>
     cases t with
     | non => cases ft
     | bl c => cases ft
     | int c => cases ft
     | str c => cases ft
     | lst ts =>
       have ht0 := ht
       obtain ⟨a, vs, rfl, ha, hts⟩ := ht
       cases rx
       obtain ⟨its, r1, pl, _⟩ := I.list (SqL.of ha)
       cases u with
       | non => cases (show y = _ from hu); cases ry; rw [show eqT (.lst ts) .non = false by simp [eqT]]; exact .list_none pl.isList hcu
       | bl c => cases (show y = V.bl c from hu); cases ry; rw [show eqT (.lst ts) (.bl c) = false by simp [eqT]]; exact .list_bool c pl.isList hcu
       | int c => cases (show y = V.int c from hu); obtain ⟨k, rfl⟩ := ry; rw [show eqT (.lst ts) (.int c) = false by simp [eqT]]; exact .list_int c k pl.isList hcu
       | str c => cases (show y = V.str c from hu); obtain ⟨k, rfl⟩ := ry; rw [show eqT (.lst ts) (.str c) = false by simp [eqT]]; exact .list_str c k pl.isList hcu
       | tup us =>
         obtain ⟨b, ws, rfl, hb, _⟩ := hu
         cases ry
         obtain ⟨its2, _, pl2, _⟩ := I.tuple (SqT.of hb)
         rw [show eqT (.lst ts) (.tup us) = false by simp [eqT]]
         exact .list_tuple pl.isList pl2 hcu
       | lst us =>
         have hu0 := hu
         obtain ⟨b, ws, rfl, hb, hus⟩ := hu
         cases ry
         by_cases e : a = b
         · subst e
           rw [← TAt.inj ht0 hu0, eqT_self]
           exact .same _
         · obtain ⟨its2, r2, pl2, _⟩ := I.list (SqL.of hb)
           refine .of_refs e ?_
           have l1 := r1.length
           have l2 := r2.length
           have m1 := hts.len
           have m2 := hus.len
           rw [eqT, eqTs_eq]
           by_cases hl : ts.length = us.length
           · have key := SeqAt.RcAt.lists (e := fun j => eqT (ts.getD j .non) (us.getD j .non)) pl.isList pl2.isList (by rw [List.size_toArray, List.size_toArray]; omega) hcu fun j a1 a2 => by
               obtain ⟨t', u', x', y', e1, e2, hm, q1, q2, q3, q4⟩ := TsAt.both hts hus r1 r2 a1 a2
               rw [e1, e2]
               have hd := dep_mem hm
               have hn' : deps ts + 1 = n := by rw [← hn, dep]
               exact ih (dep t') (by omega) t' u' x' y' _ _ _ rfl q1 q2 q3 q4 (by rw [Around.in1_units]; omega)
             have ez : its.toArray.size = min ts.length us.length := by rw [List.size_toArray]; omega
             rw [ez] at key
             rw [show (ts.length == us.length) = true by simp [hl], Bool.and_true]
             exact key
           · rw [show (ts.length == us.length) = false by simp [hl], Bool.and_false]
             refine SeqAt.RcAt.lists_lengths pl.isList pl2.isList ?_ hcu
             rw [List.size_toArray, List.size_toArray]
             simp
             omega
     | tup ts =>
       have ht0 := ht
       obtain ⟨a, vs, rfl, ha, hts⟩ := ht
       cases rx
       obtain ⟨its, r1, pl, _⟩ := I.tuple (SqT.of ha)
       cases u with
       | non => cases (show y = _ from hu); cases ry; rw [show eqT (.tup ts) .non = false by simp [eqT]]; exact .tuple_none pl hcu
       | bl c => cases (show y = V.bl c from hu); cases ry; rw [show eqT (.tup ts) (.bl c) = false by simp [eqT]]; exact .tuple_bool c pl hcu
       | int c => cases (show y = V.int c from hu); obtain ⟨k, rfl⟩ := ry; rw [show eqT (.tup ts) (.int c) = false by simp [eqT]]; exact .tuple_int c k pl hcu
       | str c => cases (show y = V.str c from hu); obtain ⟨k, rfl⟩ := ry; rw [show eqT (.tup ts) (.str c) = false by simp [eqT]]; exact .tuple_str c k pl hcu
       | lst us =>
         obtain ⟨b, ws, rfl, hb, _⟩ := hu
         cases ry
         obtain ⟨its2, _, pl2, _⟩ := I.list (SqL.of hb)
         rw [show eqT (.tup ts) (.lst us) = false by simp [eqT]]
         exact .tuple_list pl pl2.isList hcu
       | tup us =>
         have hu0 := hu
         obtain ⟨b, ws, rfl, hb, hus⟩ := hu
         cases ry
         by_cases e : a = b
         · subst e
           rw [← TAt.inj ht0 hu0, eqT_self]
           exact .same _
         · obtain ⟨its2, r2, pl2, _⟩ := I.tuple (SqT.of hb)
           refine .of_refs e ?_
           have l1 := r1.length
           have l2 := r2.length
           have m1 := hts.len
           have m2 := hus.len
           rw [eqT, eqTs_eq]
           have key := SeqAt.RcAt.tuples (e := fun j => eqT (ts.getD j .non) (us.getD j .non)) pl pl2 hcu fun j a1 a2 => by
             obtain ⟨t', u', x', y', e1, e2, hm, q1, q2, q3, q4⟩ := TsAt.both hts hus r1 r2 a1 a2
             rw [e1, e2]
             have hd := dep_mem hm
             have hn' : deps ts + 1 = n := by rw [← hn, dep]
             exact ih (dep t') (by omega) t' u' x' y' _ _ _ rfl q1 q2 q3 q4 (by rw [Around.in1_units]; omega)
           have z1 : its.toArray.size = ts.length := by rw [List.size_toArray]; omega
           have z2 : its2.toArray.size = us.length := by rw [List.size_toArray]; omega
           rw [z1, z2] at key
           exact key
theorem items_T (I : Inv X pins σ H s) {ts us : List Tr} {vs ws : List V} {its its2 : List Value} (h1 : TsAt H ts vs) (h2 : TsAt H us ws) (r1 : Vals vs its) (r2 : Vals ws its2) {A : Around} (hc : A.units + deps ts < cLine) :
   ∀ j (a1 : j < its.toArray.size) (a2 : j < its2.toArray.size), SeqAt.EqAt A s its.toArray[j] its2.toArray[j] (eqT (ts.getD j .non) (us.getD j .non)) := fun j a1 a2 => by
 obtain ⟨t', u', x', y', e1, e2, hm, q1, q2, q3, q4⟩ := TsAt.both h1 h2 r1 r2 a1 a2
 rw [e1, e2]
 have hd := dep_mem hm
 exact eqAt_T I (dep t') t' u' x' y' _ _ _ rfl q1 q2 q3 q4 (by omega)
theorem op_neTT (hu : X.A.units + 101 < cLine) : OpR X (compareOp .NotEq) (fun x y H Q => ∃ ts us, TAt H (.tup ts) x ∧ TAt H (.tup us) y ∧ deps ts ≤ 100 ∧ Q (.bl (!eqTs ts us)) H) := by
 intro pins s σ H x y v u Q I rx ry h
 obtain ⟨ts, us, ⟨a, vs, rfl, ha, hts⟩, ⟨b, ws, rfl, hb, hus⟩, hd, q⟩ := h
 cases rx
 cases ry
 obtain ⟨its, r1, p1, _⟩ := I.tuple (SqT.of ha)
 obtain ⟨its2, r2, p2, _⟩ := I.tuple (SqT.of hb)
 have l1 := r1.length
 have l2 := r2.length
 have m1 := hts.len
 have m2 := hus.len
 refine SeqAt.RcNeAt.tuples (e := fun j => eqT (ts.getD j .non) (us.getD j .non)) p1 p2 (by omega) (items_T I hts hus r1 r2 (by rw [Around.in1_units]; omega)) _ _ _ _ ⟨.bl _, H, I, rfl, ?_⟩
 have z1 : its.toArray.size = ts.length := by rw [List.size_toArray]; omega
 have z2 : its2.toArray.size = us.length := by rw [List.size_toArray]; omega
 rw [z1, z2, ← eqTs_eq]
 exact q
theorem op_eqLL (hu : X.A.units + 101 < cLine) : OpR X (compareOp .Eq) (fun x y H Q => ∃ ts us, TAt H (.lst ts) x ∧ TAt H (.lst us) y ∧ deps ts ≤ 100 ∧ Q (.bl (eqTs ts us)) H) := by
 intro pins s σ H x y v u Q I rx ry h
 obtain ⟨ts, us, ⟨a, vs, rfl, ha, hts⟩, ⟨b, ws, rfl, hb, hus⟩, hd, q⟩ := h
 cases rx
 cases ry
 obtain ⟨its, r1, p1, _⟩ := I.list (SqL.of ha)
 obtain ⟨its2, r2, p2, _⟩ := I.list (SqL.of hb)
 have l1 := r1.length
 have l2 := r2.length
 have m1 := hts.len
 have m2 := hus.len
 rw [eqTs_eq] at q
 by_cases hl : ts.length = us.length
 · refine SeqAt.eq_listAt (e := fun j => eqT (ts.getD j .non) (us.getD j .non)) p1.isList p2.isList (by rw [List.size_toArray, List.size_toArray]; omega) (by omega) (items_T I hts hus r1 r2 (by rw [Around.in1_units]; omega)) ⟨.bl _, H, I, rfl, ?_⟩
   have ez : its.toArray.size = min ts.length us.length := by rw [List.size_toArray]; omega
   rw [ez]
   rw [show (ts.length == us.length) = true by simp [hl], Bool.and_true] at q
   exact q
 · rw [show (ts.length == us.length) = false by simp [hl], Bool.and_false] at q
   refine SeqAt.eq_list_lengthsAt p1.isList p2.isList ?_ (by omega) ⟨.bl _, H, I, rfl, q⟩
   rw [List.size_toArray, List.size_toArray]
   simp
   omega
theorem Room.units101 {k : Nat} {A : Around} (r : Room k A) : A.units + 101 < cLine := by have := r.un; omega
end
end L2
end
section
namespace L2
open PySem PySem.Spec PyProof.Rows
section
variable {X : Cx} {tg iter elt : Expr} {ifs : List Expr} {sc : Scope} {pos : Pos} {wi : TI} {g : TG} {tt : TT} {te : TE} {m : List (Option Nat)} {Nc : List Str}
end
section
variable {X : Cx} {sc : Scope} {cl : List (Str × Addr)} {C : Addr} {Nc : List Str} {fp : List Addr} {s : Shared} {H : Hp} {x : Str}
variable {sc2 : Scope} {cl2 : List (Str × Addr)} {C2 : Addr} {Nc2 : List Str} {fp2 : List Addr} {s2 : Shared} {H2 : Hp}
end
end L2
end
section
namespace L2
open PySem PySem.Spec PyProof.Rows
section
variable {X : Cx}
def rAny (K : W.Frag) : List V → Hp → VK → Prop := fun xs H Q => ∃ (p : Addr) (bs : List Bool), xs = [.ref p] ∧ SqL K H p (bs.map V.bl) ∧ Q (.bl (bs.any id)) H
theorem call_anyL (hc : X.calm = true) : qF X (.builtin "any") (rAny X.K) := by
 intro pins s σ H xs us Q I r h
 obtain ⟨p, bs, rfl, hq, q⟩ := h
 obtain ⟨u, rfl, rx⟩ := r.one
 cases rx
 obtain ⟨its, r', pl, hz⟩ := I.list hq
 have hlen := r'.length
 rw [List.length_map] at hlen
 refine call_any_walk (wpAny_pyIter_list pl.isList ?_)
 have hne : p ≠ s.heap.objs.size := by
   obtain ⟨o, ho, _⟩ := pl.isList
   exact Nat.ne_of_lt (Heap.lt_size ho)
 refine ⟨s.heap.objs.size, _, _, _, _, _, fun i => bs.getD i true, rfl, Walks.list (by simpa using I.ok.hd hc) _ p hne its.toArray, ⟨⟨_, Heap.get?_push_size _ rfl, rfl, rfl⟩, pl.isList.push _⟩, fun i v z Q' E' hP hQ' => ?_, fun h' tk hk => ?_⟩
 · have hi : its[i]? = some v := by simpa using hP
   have hb : i < bs.length := by
     rw [hlen]
     exact (List.getElem?_eq_some_iff.mp hi).1
   obtain ⟨u, hu, ru⟩ := r'.get (i := i) (x := .bl (bs[i])) (by simp [hb])
   rw [hi] at hu
   cases hu
   cases ru
   have e : bs.getD i true = bs[i] := by simp [List.getD, hb]
   have hQ2 : Q' (bs.getD i true) z := hQ'
   rw [e] at hQ2
   exact wpAny_pure hQ2
 · have e : (List.range its.toArray.size).any (fun i => bs.getD i true) = bs.any id := by
     rw [List.size_toArray, ← hlen]
     rw [Bool.eq_iff_iff, List.any_eq_true, List.any_eq_true]
     constructor
     · rintro ⟨i, hi, hb⟩
       have hi := List.mem_range.mp hi
       exact ⟨bs[i], List.getElem_mem hi, by simpa [List.getD, hi] using hb⟩
     · rintro ⟨b, hb, hq⟩
       obtain ⟨i, hi, rfl⟩ := List.getElem_of_mem hb
       exact ⟨i, List.mem_range.mpr hi, by simpa [List.getD, hi] using hq⟩
   rw [e]
   exact ⟨.bl _, H, I.kept (t' := tk) fun b o e => hk b o (by
     intro z
     have z : b = s.heap.objs.size := by simpa using z
     exact absurd (Heap.lt_size e) (by rw [z]; exact Nat.lt_irrefl _)) (Heap.get?_push_of_some _ e), rfl, q⟩
theorem op_neEL (hu : X.A.units < cLine) : OpR X (compareOp .NotEq) (fun x y H Q => ∃ p q xs, x = .ref p ∧ y = .ref q ∧ H p = some (.lst xs) ∧ H q = some (.lst []) ∧ Q (.bl (!decide (xs = []))) H) := by
 intro pins s σ H x y v u Q I rx ry h
 obtain ⟨p, q, xs, rfl, rfl, hp, hq, k⟩ := h
 cases rx
 cases ry
 obtain ⟨its, r1, p1, _⟩ := I.list (SqL.of hp)
 obtain ⟨its2, r2, p2, _⟩ := I.list (SqL.of hq)
 have l1 := r1.length
 have l2 : its2.length = 0 := r2.length.symm
 by_cases hl : xs = []
 · subst hl
   have l1 : its.length = 0 := r1.length.symm
   refine SeqAt.RcNeAt.lists (e := fun _ => true) p1.isList p2.isList (by rw [List.size_toArray, List.size_toArray]; omega) hu (fun j a1 a2 => absurd a2 (by rw [List.size_toArray]; omega)) _ _ _ _ ⟨.bl _, H, I, rfl, ?_⟩
   have ez : its.toArray.size = 0 := by rw [List.size_toArray]; omega
   rw [ez]
   exact k
 · refine SeqAt.RcNeAt.lists_lengths p1.isList p2.isList ?_ hu _ _ _ _ ⟨.bl _, H, I, rfl, ?_⟩
   · rw [List.size_toArray, List.size_toArray]
     have : xs.length ≠ 0 := fun e => hl (List.length_eq_zero_iff.mp e)
     simp
     omega
   · rw [decide_eq_false hl] at k
     exact k
theorem js_while {c : Expr} {body : List Stmt} {tc : TT} {tb : TS} {pos : Pos} (hp : PassesOwn (model X.prog X.w) X.A X.env X.xe) (hc : JT X c tc) (hb : JSs X body tb) : JS X (.While c body [] pos) (tWhile tc tb) := ⟨ps_while hp hc.h hb.h⟩
theorem nm_sub {op : CmpOp} {a b : Expr} {pos : Pos} : behindInMarks op (.Subscript a b pos) = false := by cases op <;> rfl
theorem fo_lst {xs : List Expr} {pos : Pos} : FoOk (.List xs pos) := ⟨fun _ _ => rfl⟩
end
section
variable {X : Cx} {sc : Scope} {cl : List (Str × Addr)} {C : Addr} {Nc : List Str} {fp : List Addr} {s : Shared} {H : Hp}
end
end L2
end
section
namespace L2
open PySem
theorem se_dict {es : List Expr} {env : Env} {pos : Pos} {ks : List (Option Expr)} {vs : List Expr} : starEach (.Dict ks vs pos :: es) env = (false, eval (.Dict ks vs pos) env) :: starEach es env := rfl
def LstR (H : Hp) (xs : List V) (Q : VK) : Prop := ∀ r H', H' r = some (.lst xs) → Ext H H' → H r = none → Q (.ref r) H'
theorem LstR.new {H : Hp} {xs : List V} {Q : VK} (q : LstR H xs Q) {p : Addr} (hp : H p = none) : Q (.ref p) (upd H p (.lst xs)) := q p _ j4 ((Ext.refl H).new hp _) hp
def tTupU (t : TA) : TE := fun σ H Q => t σ H fun xs H1 => xs.length ≤ sizeLine ∧ TupR H1 xs Q
def tLstU (t : TA) : TE := fun σ H Q => t σ H fun xs H1 => xs.length ≤ sizeLine ∧ LstR H1 xs Q
section
variable {X : Cx} {es : List Expr} {t : TA} {pos : Pos}
theorem jH {x1} (h : JA X es t) : JE X (.Tuple es x1 pos) (tTupU t) := ⟨fun pins s σ H Q I hq => by
 refine wpAny_Tuple_spliced (thn (h.h pos pins s σ H _ I hq) fun us s1 ⟨xs, H1, I1, r, z, q⟩ => ⟨by rw [← r.length]; exact z, ?_⟩)
 have hf : H1 s1.heap.objs.size = none := I1.hok.fresh (Nat.le_refl _)
 exact ⟨.ref s1.heap.objs.size, upd H1 s1.heap.objs.size (.tup xs), I1.laid (t' := s1.toks) (fun b u e => Heap.get?_push_of_some _ e) (Nat.le_refl _) ⟨z, us, r, TupO.new _ _⟩, rfl, q.new hf⟩⟩
theorem kI (h : JA X es t) : JE X (.List es pos) (tLstU t) := ⟨fun pins s σ H Q I hq => by
 refine wpAny_List_spliced (thn (h.h pos pins s σ H _ I hq) fun us s1 ⟨xs, H1, I1, r, z, q⟩ => ⟨by rw [← r.length]; exact z, ?_⟩)
 have hf : H1 s1.heap.objs.size = none := I1.hok.fresh (Nat.le_refl _)
 exact ⟨.ref s1.heap.objs.size, upd H1 s1.heap.objs.size (.lst xs), I1.laid (t' := s1.toks) (fun b u e => Heap.get?_push_of_some _ e) (Nat.le_refl _) ⟨z, us, 0, r, Heap.get?_push_size _ rfl⟩, rfl, q.new hf⟩⟩
theorem call_listU : qF X (.type "list") (fun xs H Q => ∃ p ys, xs = [.ref p] ∧ H p = some (.tup ys) ∧ LstR H ys Q) := by
 intro pins s σ H xs us Q I r h
 obtain ⟨p, ys, rfl, hp, q⟩ := h
 exact call_list_of pins s σ H _ us Q I r ⟨p, ys, rfl, .inr (SqT.of hp), fun l hl => q.new hl⟩
theorem op_catLU : OpR X (binaryOp .Add) (fun x y H Q => ∃ l b xs zs, x = .ref l ∧ y = .ref b ∧ H l = some (.lst xs) ∧ H b = some (.lst zs) ∧ xs.length + zs.length ≤ sizeLine ∧ LstR H (xs ++ zs) Q) := by
 intro pins s σ H x y v u Q I rx ry h
 obtain ⟨l, b, xs, zs, rfl, rfl, h1, h2, h3, q⟩ := h
 exact op_cat pins s σ H _ _ v u Q I rx ry ⟨l, b, xs, zs, rfl, rfl, h1, h2, h3, fun p hp => q.new hp⟩
end
end L2
end
section
namespace L2
open PySem PySem.Spec PyProof.Rows
section
variable {X : Cx}
def CDivB (i j : Int) : Prop := 0 < j ∧ j.natAbs.log2 < 9000
theorem op_fdivB : OpR X (binaryOp .FloorDiv) (rI CDivB fun i j => .int (i / j)) := opI fun i j _ _ _ _ _ hc q => by
 have h1 : (0 : Int) < j := hc.1
 exact floordiv_int (by omega) (by rw [Int.fdiv_eq_ediv_of_nonneg i (by omega)]; exact q) (.inl (PyProof.noPylong_of_log2 hc.2))
theorem ip_mul : PIp X .Mult (fun x y H Q => ∃ i j, x = .int i ∧ y = .int j ∧ CMul i j ∧ Q (.int (i * j)) H) := by
 intro pins s σ H x y v u Q I r1 r2 h
 obtain ⟨i, j, e1, e2, hc, q⟩ := h
 subst e1; subst e2
 obtain ⟨t, rfl⟩ := r1
 obtain ⟨t', rfl⟩ := r2
 exact imul_int ⟨.int _, H, I.tok _, ⟨_, rfl⟩, q⟩ hc.ok
theorem js_par {i j : Nat} {x y : Str} {a b : Expr} {ta : TA} {pos px py pt : Pos} {kt k2 pt2} (hc : X.calm = true) (hN : X.N.Nodup) (hi : X.N[i]? = some x) (hj : X.N[j]? = some y) (hij : i ≠ j)
   (hx : X.env.scope.names.lookup x = some .local) (hy : X.env.scope.names.lookup y = some .local) (ha : JA X [a, b] ta)
   (hw : swappedStores [.Tuple [.Name x px, .Name y py] kt pt] (.Tuple [a, b] k2 pt2) X.env = pure (some [x, y]))
   (hs : swapsWithSole [.Tuple [.Name x px, .Name y py] kt pt] (.Tuple [a, b] k2 pt2) pos.line X.env = pure false := by rfl) :
   JS X (.Assign [.Tuple [.Name x px, .Name y py] kt pt] (.Tuple [a, b] k2 pt2) pos) (tPar i j ta) := ⟨ps_par hc hN hi hj hij hx hy ha.h hw hs⟩
theorem jg_sub {o i : Expr} {pos : Pos} {to ti : TE} {t : TSet} (ho : JE X o to) (hi : JE X i ti) (hs : PSet X t)
   (ha : ∀ v, assign (.Subscript o i pos) X.env v = (do
     let ov ← holding [v] (eval o X.env)
     let iv ← holding [v, ov] (eval i X.env)
     standAt pos
     holding [v, ov, iv] (setItem ov iv v)
     release [v, ov, iv] []) := by intro _; rfl) : JG X (.Subscript o i pos) (gSub to ti t) := ⟨pg_sub ho.h hi.h hs ha⟩
end
end L2
end
section
namespace L2
open PySem PySem.Spec PyProof.Rows
theorem preSum_list (ns : List Int) : ∀ j, preSum (fun i => ns.getD i 0) j = (ns.take j).sum
 | 0 => rfl
 | j + 1 => by
   rw [preSum, preSum_list ns j, List.take_add_one, List.sum_append]
   congr 1
   rw [List.getD_eq_getElem?_getD]
   cases ns[j]? with
   | none => rfl
   | some z => simp
section
variable {X : Cx}
def rSum (K : W.Frag) : List V → Hp → VK → Prop := fun xs H Q => ∃ (p : Addr) (ns : List Int), xs = [.ref p] ∧ (SqL K H p (ns.map V.int)) ∧ Q (.int ns.sum) H
theorem call_sumL (hc : X.calm = true) : qF X (.builtin "sum") (rSum X.K) := by
 intro pins s σ H xs us Q I r h
 obtain ⟨p, ns, rfl, hq, q⟩ := h
 obtain ⟨u, rfl, rx⟩ := r.one
 cases rx
 obtain ⟨its, r', pl, hz⟩ := I.list hq
 have hlen := r'.length
 rw [List.length_map] at hlen
 refine call_sum_walkG (wpAny_pyIter_list pl.isList ?_)
 have hne : p ≠ s.heap.objs.size := by
   obtain ⟨o, ho, _⟩ := pl.isList
   exact Nat.ne_of_lt (Heap.lt_size ho)
 refine ⟨s.heap.objs.size, _, _, _, _, _, fun i => ns.getD i 0, rfl, Walks.list (by simpa using I.ok.hd hc) _ p hne its.toArray, ⟨⟨_, Heap.get?_push_size _ rfl, rfl, rfl⟩, pl.isList.push _⟩, (fun b hb => ?_), (fun i v hP => ?_), fun h' tk t' hk => ?_⟩
 · show b < (s.heap.push _).objs.size
   rw [Heap.size_push]
   obtain ⟨o, ho, _⟩ := pl.isList
   have := Heap.lt_size ho
   rcases List.mem_cons.mp hb with rfl | hb
   · exact Nat.lt_succ_self _
   · rcases List.mem_cons.mp hb with rfl | hb
     · exact Nat.lt_succ_of_lt this
     · cases hb
 · have hi : its[i]? = some v := by simpa using hP
   have hb : i < ns.length := by
     rw [hlen]
     exact (List.getElem?_eq_some_iff.mp hi).1
   obtain ⟨u, hu, ru⟩ := r'.get (i := i) (x := .int (ns[i])) (by simp [hb])
   rw [hi] at hu
   cases hu
   obtain ⟨t, rfl⟩ := ru
   exact ⟨t, by simp [List.getD, hb]⟩
 · have e : preSum (fun i => ns.getD i 0) its.toArray.size = ns.sum := by
     rw [preSum_list, List.size_toArray, ← hlen, List.take_length]
   rw [e]
   exact ⟨.int _, H, I.kept (t' := tk) fun b o e => hk b o (by
     intro z
     have z : b = s.heap.objs.size := by simpa using z
     exact absurd (Heap.lt_size e) (by rw [z]; exact Nat.lt_irrefl _)) (Heap.get?_push_of_some _ e), ⟨_, rfl⟩, q⟩
variable {sc : Scope} {cl : List (Str × Addr)} {C : Addr} {Nc : List Str} {fp : List Addr} {s : Shared} {H : Hp}
end
theorem bitAnd_nat (a b : Nat) : Builtin.bitAnd (a : Int) (b : Int) = ((a &&& b : Nat) : Int) := by
 unfold Builtin.bitAnd
 rw [decide_eq_true (Int.natCast_nonneg a), decide_eq_true (Int.natCast_nonneg b)]
 rfl
theorem bitOr_nat (a b : Nat) : Builtin.bitOr (a : Int) (b : Int) = ((a ||| b : Nat) : Int) := by
 unfold Builtin.bitOr
 have ha : Builtin.bitNot (a : Int) = -(a : Int) - 1 := by unfold Builtin.bitNot; omega
 have hb : Builtin.bitNot (b : Int) = -(b : Int) - 1 := by unfold Builtin.bitNot; omega
 have na : ¬ (0 ≤ Builtin.bitNot (a : Int)) := by rw [ha]; omega
 have nb : ¬ (0 ≤ Builtin.bitNot (b : Int)) := by rw [hb]; omega
 unfold Builtin.bitAnd
 rw [decide_eq_false na, decide_eq_false nb]
 have ea : Builtin.bitNot (Builtin.bitNot (a : Int)) = (a : Int) := by rw [ha]; unfold Builtin.bitNot; omega
 have eb : Builtin.bitNot (Builtin.bitNot (b : Int)) = (b : Int) := by rw [hb]; unfold Builtin.bitNot; omega
 show Builtin.bitNot (Builtin.bitNot _) = _
 rw [ea, eb]
 unfold Builtin.bitNot
 simp
 omega
def maskN (ts : List Int) : Nat := (ts.map fun t => 2 ^ t.toNat).sum
theorem maskN_lt : ∀ (ts : List Int) (lo : Nat), ts.Pairwise (· < ·) → (∀ t ∈ ts, (lo : Int) ≤ t) → maskN ts % 2 ^ lo = 0
 | [], _, _, _ => by simp [maskN]
 | t :: r, lo, hp, hl => by
   have ih := maskN_lt r lo (List.pairwise_cons.mp hp).2 fun x hx => hl x (List.mem_cons_of_mem _ hx)
   have h0 := hl t (List.mem_cons_self ..)
   have e : maskN (t :: r) = 2 ^ t.toNat + maskN r := by simp [maskN]
   have d : 2 ^ t.toNat % 2 ^ lo = 0 := Nat.mod_eq_zero_of_dvd (Nat.pow_dvd_pow 2 (by omega))
   rw [e, Nat.add_mod, ih, d]
   simp
theorem maskN_bit : ∀ (ts : List Int) (n : Nat), ts.Pairwise (· < ·) → (∀ t ∈ ts, 0 ≤ t) → (maskN ts).testBit n = decide ((n : Int) ∈ ts)
 | [], n, _, _ => by simp [maskN]
 | t :: r, n, hp, h0 => by
   obtain ⟨h1, h2⟩ := List.pairwise_cons.mp hp
   have ih := maskN_bit r n h2 fun x hx => h0 x (List.mem_cons_of_mem _ hx)
   have ht := h0 t (List.mem_cons_self ..)
   obtain ⟨k, rfl⟩ : ∃ k : Nat, t = (k : Int) := ⟨t.toNat, by omega⟩
   have e : maskN ((k : Int) :: r) = 2 ^ k + maskN r := by simp [maskN]
   have m0 : maskN r % 2 ^ (k + 1) = 0 := maskN_lt r (k + 1) h2 fun x hx => by have := h1 x hx; omega
   obtain ⟨c, hc⟩ : ∃ c, maskN r = 2 ^ (k + 1) * c := (Nat.dvd_of_mod_eq_zero m0)
   have hor : 2 ^ k + maskN r = maskN r ||| 2 ^ k := by
     rw [hc, Nat.mul_comm, ← Nat.shiftLeft_eq, Nat.shiftLeft_add_eq_or_of_lt (b := 2 ^ k) (i := k + 1) (Nat.pow_lt_pow_right (by decide) (by omega)) c |>.symm, Nat.add_comm]
   rw [e, hor, Nat.testBit_or, ih, Nat.testBit_two_pow]
   by_cases hk : k = n
   · subst hk
     simp
   · have : ¬ ((n : Int) = (k : Int)) := by omega
     simp [hk, this]
end L2
end
section
namespace L2
open PySem
section
variable {X : Cx} {tg iter elt : Expr} {ifs : List Expr} {sc : Scope} {pos : Pos} {wi : TI} {g : TG} {tt : TT} {te : TE} {m : List (Option Nat)} {Nc : List Str}
theorem comp_use (hc : X.calm = true) (hi : PI X tg iter wi) (hkind : sc.kind = .function) (hcell : ∀ y ∈ sc.names, y.2 ≠ .cell) (hnames : ∀ y ∈ sc.names, y.2 = .local → sc.names.lookup y.1 = some .local)
   (hfree : ∀ y ∈ sc.names, y.2 = .free → X.env.scope.names.lookup y.1 = some .cell ∨ X.env.scope.names.lookup y.1 = some .free) (hm : FreeAt X sc Nc m)
   (hg : ∀ cl C fp s H, PG (blk X sc cl C Nc fp s H) tg g) (ht : ∀ cl C fp s H, PTs (blk X sc cl C Nc fp s H) ifs tt) (he : ∀ cl C fp s H, PE (blk X sc cl C Nc fp s H) elt te)
   (hs : ∀ x, foldedSetIterable iter X.env x = pure x) {fpos : Pos} {use : Option (Value → Sem Unit)} {R : Value → Shared → Prop} {pins : List (Addr × Obj)} {s : Shared} {σ : St} {H : Hp} {Q : VK} (I : Inv X pins σ H s) (h : tComp m wi g tt te σ H Q)
   (fin : ∀ (D C : Addr) (H5 : Hp) (z1 : Shared) (r : Flow), (∃ mm, z1.heap.Ns C mm) → FpOk X pins H5 C → (∀ h', Heap.SameBut C z1.heap h' → Inv X pins σ H5 { z1 with heap := h' }) → Q (.ref D) H5 → compPost (model X.prog X.w) X.A X.xe use R (.ref D) C (.ok r) z1) :
   wpAny (model X.prog X.w) X.A (comprehension (.ListComp elt [⟨tg, iter, ifs, 0⟩] sc pos) sc X.env fpos (newList []) false (eval iter X.env) use) R X.xe s := by
 have hcl : ∀ y ∈ sc.names, y.2 = .free → ∃ c, X.env.cells.lookup y.1 = some c := fun y hy hf => I.ok.has y.1 (hfree y hy hf)
 refine wpAny_comprehension_free (use := use) rfl hs (closFor hcl) hkind hnames (thn (hi pins s σ H _ I h) fun v s1 h1 => thn h1 fun itv s2 h2 => ?_)
 obtain ⟨it, fp, tn, J, H2, e, I2, T, st2, f2, hQ⟩ := h2
 subst e
 have hlt : ∀ b ∈ fp, b < s2.heap.objs.size := fun b hb => by
   obtain ⟨o, e, _⟩ := T.obj 0 _ st2 b hb
   exact Heap.lt_size e
 refine wpAny_newObj_type (wpAny_newFunctionEnv hcell (by intro y hy; simp at hy) (fun h₁ hns₁ hsb₁ => ?_) hkind)
 have I3 : Inv X pins σ (upd H2 s2.heap.objs.size (.lst [])) { s2 with heap := s2.heap.push { cls := .type "list", data := .seq ([] : List Value).toArray } } := I2.lnew (t' := s2.toks) .nil (Nat.zero_le _)
 obtain ⟨W, ⟨n0, w0⟩, turn⟩ := hQ s2.heap.objs.size I2.fresh
 have hD3 : ∀ b ∈ fp, b ≠ s2.heap.objs.size := fun b hb => Nat.ne_of_lt (hlt b hb)
 have f3 : ∀ b ∈ fp, FpOk X pins (upd H2 s2.heap.objs.size (.lst [])) b := fun b hb => by
   obtain ⟨a0, a1⟩ := f2 b hb
   exact ⟨by rw [jD (hD3 b hb)]; exact a0, a1⟩
 generalize hE : ({ s2 with heap := s2.heap.push { cls := .type "list", data := .seq ([] : List Value).toArray } } : Shared) = s3 at I3 hns₁ hsb₁ ⊢
 generalize hH3 : upd H2 s2.heap.objs.size (.lst []) = H3 at I3 f3 w0
 have hsz3 : s3.heap.objs.size = s2.heap.objs.size + 1 := by rw [← hE]; exact Heap.size_push _ _
 have old : ∀ b o, s3.heap.get? b = some o → h₁.get? b = some o := fun b o e => hsb₁.extBut b o (Nat.ne_of_lt (Heap.lt_size e)) (Heap.get?_push_of_some _ e)
 have old2 : ∀ b o, s2.heap.get? b = some o → h₁.get? b = some o := fun b o e => old b o (by rw [← hE]; exact Heap.get?_push_of_some _ e)
 have I4 := blk_start (fp := fp) (tk := s3.toks + ([] : List (Str × Value)).length) I3 hkind hcell hfree hm f3 (fun b hb => show b < s3.heap.objs.size by rw [hsz3]; exact Nat.lt_succ_of_lt (hlt b hb)) hns₁ old
 have st4 : tn 0 h₁ := T.keep _ _ _ st2 fun b hb o e => old2 b o e
 have loop : codeAny (model X.prog X.w) X.A (.compLoop (.ListComp elt [⟨tg, iter, ifs, 0⟩] sc pos) 0 (.ref it) (.ref s2.heap.objs.size) (compEnvC sc (yB X.env.cells sc.names []) s3.heap.objs.size X.env))
     (compPost (model X.prog X.w) X.A X.xe use R (.ref s2.heap.objs.size) s3.heap.objs.size) { s3 with heap := h₁, toks := s3.toks + ([] : List (Str × Value)).length } := by
   generalize hX : blk X sc (yB X.env.cells sc.names []) s3.heap.objs.size Nc fp s3 H3 = Xb at I4
   have eP : Xb.prog = X.prog := by rw [← hX]; rfl
   have ew : Xb.w = X.w := by rw [← hX]; rfl
   have eK : Xb.K = X.K := by rw [← hX]; rfl
   have eA : Xb.A = X.A := by rw [← hX]; rfl
   have ec : Xb.calm = true := by rw [← hX]; exact hc
   have ee : Xb.env = compEnvC sc (yB X.env.cells sc.names []) s3.heap.objs.size X.env := by rw [← hX]; rfl
   have ex : Xb.xe = fun _ _ => False := by rw [← hX]; rfl
   have hgb : PG Xb tg g := by rw [← hX]; exact hg _ _ _ _ _
   have htb : PTs Xb ifs tt := by rw [← hX]; exact ht _ _ _ _ _
   have heb : PE Xb elt te := by rw [← hX]; exact he _ _ _ _ _
   have stat : ∀ {H' : Hp}, (∀ b ∈ fp, H' b = none) → ∀ b ∈ fp, FpOk Xb [] H' b := fun {H'} hn b hb => by
     obtain ⟨o, eo, _⟩ := T.obj _ _ st4 b hb
     have q := I4.ok.exf b (by rw [← hX]; exact hb)
     exact ⟨hn b hb, q.1, I4.ok.exfs b (by rw [← hX]; exact hb), .inl (by rw [← hX]; exact hb), q.2, fun p hp => absurd hp (by rw [← hX]; simp [blk])⟩
   have fr4 : ∀ b ∈ fp, H3 b = none := fun b hb => (f3 b hb).1
   unfold PG at hgb
   unfold PTs at htb
   unfold PE at heb
   rw [eP, ew, eA, ee, ex] at hgb htb heb
   refine comp_turns (fun n z => ∃ i σ' H' ys, Inv Xb [] σ' H' z ∧ tn i z.heap ∧ (∀ b ∈ fp, H' b = none) ∧ W i n σ' H' ys) ?_ n0 ⟨0, _, H3, [], I4, st4, fr4, w0⟩
   rintro n z ⟨i, σ5, H5, ys, I5, st5, fr5, w5⟩
   obtain ⟨hD, hlen, way⟩ := turn i n σ5 H5 ys w5
   rcases way with ⟨stop, q⟩ | ⟨go, N, hN, step⟩
   · have RR := T.done Xb eP ew eK ec i [] z σ5 H5 (fun _ _ => False) I5 (stat fr5) st5 stop
     rw [eA] at RR
     refine thn RR fun r z1 ⟨hr, I6⟩ => ?_
     subst hr
     obtain ⟨mm, hn6, _⟩ := I6.loc
     rw [ee] at hn6
     have u6 : Un (frs X.stack) fp H3 H5 s3.heap z1.heap := by
       have := I6.base
       rw [← hX] at this
       exact this
     have fC : H5 s3.heap.objs.size = none := by
       have := I6.free
       rw [ee] at this
       exact this
     have hok6 : HOk X.prog X.w H5 z1.heap := by
       have := I6.hok
       rw [eP, ew] at this
       exact this
     have os6 : z1.os = s3.os := by
       have := I6.os
       rw [← hX] at this
       exact this
     refine fin s2.heap.objs.size s3.heap.objs.size H5 z1 .next ⟨mm, hn6⟩ (I3.fpOk (Nat.le_refl _) fC) (fun h' sb => ?_) q
     refine I3.call' (s' := { z1 with heap := h' }) (ch := fp) os6 (u6.sameBut sb (Nat.le_refl _)) (hok6.sameBut sb fC) I6.bare (fun b hb => ?_)
     obtain ⟨a0, a1, a2, a3, a4, a5⟩ := f3 b hb
     exact ⟨a3, a1, a4, a5⟩
   · have RR := T.item Xb eP ew eK ec i [] z σ5 H5 (fun _ _ => False) I5 (stat fr5) st5 go
     rw [eA] at RR
     refine thn RR fun r z1 ⟨u, hr, h6⟩ => ?_
     subst hr
     refine thn h6 fun _ z2 ⟨x, H7, I7, r7, y7, st7, fr7⟩ => ?_
     have I7' := I7.pinned (stat fr7) (T.obj _ _ st7)
     refine thn (hgb _ z2 σ5 H7 x u _ I7' r7 (step x H7 y7)) fun _ z3 ⟨σ8, H8, I8, q8⟩ => ?_
     refine thn (htb _ z3 σ8 H8 _ I8 q8) fun ok z4 ⟨H9, I9, q9⟩ => ?_
     have again : ∀ {σ7 : St} {Hz : Hp} {zz : Shared} {yy : List V} {n' : Nat}, Inv Xb ([] ++ pinsAt fp z2.heap) σ7 Hz zz → n' < n → W (i + 1) n' σ7 Hz yy → ∃ k, k < n ∧ ∃ i σ' H' ys, Inv Xb [] σ' H' zz ∧ tn i zz.heap ∧ (∀ b ∈ fp, H' b = none) ∧ W i k σ' H' ys := fun {σ7 Hz zz yy n'} Iz hn wz => by
       refine ⟨n', hn, i + 1, σ7, Hz, yy, Iz.unpinned, T.keep _ _ _ st7 fun b hb o e => (Iz.pin (b, o) (List.mem_append_right _ (List.mem_append_right _ (mem_pinsAt hb e)))).1, fun b hb => ?_, wz⟩
       obtain ⟨o, e, d⟩ := T.obj _ _ st7 b hb
       exact (Iz.pin (b, o) (List.mem_append_right _ (List.mem_append_right _ (mem_pinsAt hb e)))).2.1
     cases ok with
     | false =>
       obtain ⟨n', hn, w9⟩ := hN _ _ _ (show N σ8 H9 ys from q9)
       exact again I9 hn w9
     | true =>
       refine thn (heb _ z4 σ8 H9 _ I9 q9) fun xv z5 ⟨vv, H10, I10, r10, hD10, n10⟩ => ?_
       obtain ⟨n', hn, w10⟩ := hN _ _ _ n10
       have RR := mt_append (X := Xb) _ z5 σ8 H10 (.ref s2.heap.objs.size) [vv] (.ref s2.heap.objs.size) [xv] (fun _ H' => H' = upd H10 s2.heap.objs.size (.lst (ys ++ [vv]))) I10 rfl (.cons r10 .nil) ⟨_, ys, vv, rfl, rfl, hD10, hlen, rfl⟩
       rw [eP, ew, eA, ex] at RR
       refine thn RR fun _ z6 ⟨_, H11, I11, _, e11⟩ => ?_
       subst e11
       exact again I11 hn w10
 exact codeAny_compStart_list loop (T.self _ 0 _ _ _ st4 loop)
theorem ps_setC {i : Nat} {x : Str} {pos' spos : Pos} (hN : X.N.Nodup) (hi' : X.N[i]? = some x) (hx : Loc X.env.scope x) (hf : X.fn x = true ∨ X.env.scope.names.lookup x = some .local) (hsw : swapsWith (.ListComp elt [⟨tg, iter, ifs, 0⟩] sc pos) (some (.Name x pos')) spos.line X.env = pure true)
   (hc : X.calm = true) (hi : PI X tg iter wi) (hkind : sc.kind = .function) (hcell : ∀ y ∈ sc.names, y.2 ≠ .cell) (hnames : ∀ y ∈ sc.names, y.2 = .local → sc.names.lookup y.1 = some .local)
   (hfree : ∀ y ∈ sc.names, y.2 = .free → X.env.scope.names.lookup y.1 = some .cell ∨ X.env.scope.names.lookup y.1 = some .free) (hm : FreeAt X sc Nc m)
   (hg : ∀ cl C fp s H, PG (blk X sc cl C Nc fp s H) tg g) (ht : ∀ cl C fp s H, PTs (blk X sc cl C Nc fp s H) ifs tt) (he : ∀ cl C fp s H, PE (blk X sc cl C Nc fp s H) elt te)
   (hs : ∀ x, foldedSetIterable iter X.env x = pure x) : PS X (.Assign [.Name x pos'] (.ListComp elt [⟨tg, iter, ifs, 0⟩] sc pos) spos) (tAsg (tComp m wi g tt te) (yJ i)) := by
 intro pins s σ H D I h
 rw [exec_Assign_Name_used _ _ _ _ hsw]
 refine wpAny_bind (wpAny_standAt (wpAny_bind ?_))
 show wpAny _ _ (do let _ ← comprehension (.ListComp elt [⟨tg, iter, ifs, 0⟩] sc pos) sc X.env _ (newList []) false (eval iter X.env) (some (assign (.Name x pos') X.env))) _ _ _
 refine wpAny_bind (wpAny_mono (comp_use (R := fun _ s' => SP X pins D .next s') hc hi hkind hcell hnames hfree hm hg ht he hs ⟨I.ok, I.os, I.bare, I.base, I.loc, I.cell, I.free, I.freeC, I.pin, I.hok, I.len⟩ h ?_) (fun _ s' hq => wpAny_pure (wpAny_pure hq)) fun _ _ e => e)
 intro D' C H5 z1 r ⟨mm, hn⟩ fC sb q
 have I1 := sb _ (Heap.SameBut.refl C z1.heap)
 refine wpAny_assign_Name (store_ok2 (v := .ref D') I1 hN hi' hx rfl (fun s2 I2 ⟨a, sa, ha⟩ => ?_) hf)
 obtain ⟨f0, f1, f2, f3, f4, f5⟩ := fC
 have hCa : C ≠ a := by
   rcases ha with rfl | ha
   · exact f1
   · exact (f4 _ _ ha).symm
 refine ⟨mm, hn.sameBut sa hCa, fun h' sb2 => ⟨_, H5, ?_, q⟩⟩
 refine I2.call' (s' := { s2 with heap := h' }) (ch := [C]) rfl ?_ (I2.hok.sameBut sb2 f0) I2.bare (fun b hb => ?_)
 · have ne : ∀ {b : Addr}, b ∉ [C] → b ≠ C := fun h e => h (by rw [e]; exact List.mem_singleton.mpr rfl)
   refine ⟨fun b o e n hf hx => (sb2.2 b (ne hx)).trans e, fun b o e n hf hx => ⟨o.slots, (sb2.2 b (ne hx)).trans e⟩, fun b o e n hx => n, fun b o e hx => ⟨o, (sb2.2 b (ne hx)).trans e⟩, fun b xs e => e, fun b o u e => e, fun b ps e => ⟨#[], by rw [Array.append_empty]; exact e⟩⟩
 · cases List.mem_singleton.mp hb
   exact ⟨f3, f1, f4, f5⟩
end
section
variable {X : Cx}
structure SwC (e : Expr) (x : Str) (pos' spos : Pos) (X : Cx) : Prop where
 h : swapsWith e (some (.Name x pos')) spos.line X.env = pure true
theorem js_setC {i : Nat} {x : Str} {pos' spos pos : Pos} {tg iter elt : Expr} {ifs : List Expr} {sc : Scope} {wi : TI} {g : TG} {tt : TT} {te : TE} {m : List (Option Nat)} {Nc : List Str} (hN : X.N.Nodup) (hi' : X.N[i]? = some x) (hx : Loc1 X x) (hsw : SwC (.ListComp elt [⟨tg, iter, ifs, 0⟩] sc pos) x pos' spos X)
   (hc : X.calm = true) (hi : JI X tg iter wi) (hkind : sc.kind = .function) (hcell : ∀ y ∈ sc.names, y.2 ≠ .cell) (hnames : ∀ y ∈ sc.names, y.2 = .local → sc.names.lookup y.1 = some .local)
   (hfree : ∀ y ∈ sc.names, y.2 = .free → X.env.scope.names.lookup y.1 = some .cell ∨ X.env.scope.names.lookup y.1 = some .free) (hm : FreeAt X sc Nc m)
   (hg : ∀ cl C fp s H, JG (blk X sc cl C Nc fp s H) tg g) (ht : ∀ cl C fp s H, JTs (blk X sc cl C Nc fp s H) ifs tt) (he : ∀ cl C fp s H, JE (blk X sc cl C Nc fp s H) elt te)
   (hs : FoOk iter) : JS X (.Assign [.Name x pos'] (.ListComp elt [⟨tg, iter, ifs, 0⟩] sc pos) spos) (tAsg (tComp m wi g tt te) (yJ i)) :=
 ⟨ps_setC hN hi' hx.a hx.b hsw.h hc hi.h hkind hcell hnames hfree hm (fun cl C fp s H => (hg cl C fp s H).h) (fun cl C fp s H => (ht cl C fp s H).h) (fun cl C fp s H => (he cl C fp s H).h) (hs.h _)⟩
end
end L2
end
section
namespace L2
open PySem
theorem for_zip {K : W.Frag} {t1 t2 : Bool} {l1 l2 : Addr} {xs ys : List V} {g : TG} {tb : TS} {D : Ends} {σ : St} {H : Hp} (Pv : Nat → St → Hp → Prop) (h0 : Pv 0 σ H) (hl : ∀ i σ H, Pv i σ H → Sq t1 K H l1 xs ∧ Sq t2 K H l2 ys)
   (hs : ∀ i x y T σ H, xs[i]? = some x → ys[i]? = some y → H T = none → Pv i σ H → g (.ref T) σ (upd H T (.tup [x, y])) fun σ2 H2 => tb { D with nx := Pv (i + 1), ct := Pv (i + 1), bk := D.nx } σ2 H2) (hd : ∀ σ H, Pv (min xs.length ys.length) σ H → D.nx σ H) :
   ∃ W : Nat → Nat → St → Hp → Prop, (∃ m, W 0 m σ H) ∧ ∀ i m σ H, W i m σ H →
     ((Itz t1 t2 K l1 l2).stop i H ∧ D.nx σ H) ∨ ((Itz t1 t2 K l1 l2).go i H ∧ ∃ N : St → Hp → Prop, (∀ σ' H', N σ' H' → ∃ m', m' < m ∧ W (i + 1) m' σ' H') ∧ ∀ x H', (Itz t1 t2 K l1 l2).yld i H x H' → g x σ H' fun σ2 H2 => tb { D with nx := N, ct := N, bk := D.nx } σ2 H2) := by
 refine ⟨fun i m σ H => m = min xs.length ys.length - i ∧ i ≤ min xs.length ys.length ∧ Pv i σ H, ⟨_, rfl, Nat.zero_le _, h0⟩, ?_⟩
 rintro i m σ H ⟨rfl, hi, p⟩
 obtain ⟨s1, s2⟩ := hl i σ H p
 by_cases hlt : i < min xs.length ys.length
 · have a1 : i < xs.length := by omega
   have a2 : i < ys.length := by omega
   refine .inr ⟨⟨xs, ys, xs[i], ys[i], s1, s2, by simp [a1], by simp [a2]⟩, Pv (i + 1), fun σ' H' p' => ⟨min xs.length ys.length - (i + 1), by omega, rfl, hlt, p'⟩, fun v H'' y => ?_⟩
   obtain ⟨T, x, y, e1, e2, e3, e4⟩ := y
   subst e2 e3
   obtain ⟨z1, z2⟩ := e4 xs ys s1 s2
   exact hs i x y T σ _ z1 z2 e1 p
 · have e : i = min xs.length ys.length := by omega
   subst e
   exact .inl ⟨⟨xs, ys, s1, s2, by omega⟩, hd σ H p⟩
end L2
end
section
namespace L2
open PySem PySem.Spec PyProof.Rows
section
variable {κ : Type} [DecidableEq κ]
def putK (kvs : List (κ × V)) (k : κ) (v : V) : List (κ × V) :=
 if (kvs.any fun kv => decide (kv.1 = k)) = true then kvs.map (fun kv => if kv.1 = k then (kv.1, v) else kv) else kvs ++ [(k, v)]
theorem length_putK (kvs : List (κ × V)) (k : κ) (v : V) : (putK kvs k v).length ≤ kvs.length + 1 := by
 unfold putK
 split
 · rw [List.length_map]; omega
 · rw [List.length_append, List.length_cons, List.length_nil]; omega
theorem KV.any {kvs : List (κ × V)} {vs : List (κ × Value)} (r : KV kvs vs) (k : κ) : (kvs.any fun kv => decide (kv.1 = k)) = vs.any fun kv => decide (kv.1 = k) := by
 unfold KV at r
 induction r with
 | nil => rfl
 | cons h t ih => rw [List.any_cons, List.any_cons, ih, h.1]
theorem KV.repl {kvs : List (κ × V)} {vs : List (κ × Value)} (r : KV kvs vs) (k : κ) {y : V} {u : Value} (ry : RelV y u) :
   KV (kvs.map fun kv => if kv.1 = k then (kv.1, y) else kv) (vs.map fun kv => if kv.1 = k then (kv.1, u) else kv) := by
 unfold KV at r ⊢
 induction r with
 | nil => exact .nil
 | @cons p q ps qs h t ih =>
   rw [List.map_cons, List.map_cons]
   refine .cons ?_ ih
   obtain ⟨h1, h2⟩ := h
   by_cases e : p.1 = k
   · rw [if_pos e, if_pos (h1.symm.trans e)]; exact ⟨h1, ry⟩
   · rw [if_neg e, if_neg (fun z => e (h1.trans z))]; exact ⟨h1, h2⟩
theorem KV.put {kvs : List (κ × V)} {vs : List (κ × Value)} (r : KV kvs vs) (k : κ) {y : V} {u : Value} (ry : RelV y u) : KV (putK kvs k y) (stored vs k u) := by
 unfold putK stored
 rw [r.any k]
 by_cases e : (vs.any fun kv => decide (kv.1 = k)) = true
 · rw [if_pos e, if_pos e]; exact r.repl k ry
 · rw [if_neg e, if_neg e]; exact Paired.snoc r ⟨rfl, ry⟩
end
theorem kV_is {P : Program} {w : World} {k : Key} {u : Value} (r : RelV (kV k) u) : (mixKind P w).is k u = true := by
 cases k with
 | inl i => obtain ⟨t, e⟩ := (show ∃ t, u = Value.int i t from r); subst e; exact mixKind_int P w i t
 | inr x => obtain ⟨t, e⟩ := (show ∃ t, u = Value.str x t from r); subst e; exact mixKind_str P w x t
section
variable {P : Program} {w : World} {H : Hp} {h : Heap} {a : Addr}
theorem rd_of {u : HO} (ok : HOk P w H h) (e : Rd H a u) : ObjOk P w H h a u := e.ok ok
theorem dk_rd {kvs : List (Key × V)} (ok : HOk P w H h) (e : Rd H a (.dK kvs)) : kvs.length ≤ sizeLine ∧ (a == sysModules) = false ∧ ∃ vs, KV kvs vs ∧ h.DictOf (mixKind P w) a vs :=
 show ObjOk P w H h a (.dK kvs) from rd_of ok e
theorem dk_of {kvs : List (Key × V)} (ok : HOk P w H h) (e : H a = some (.dK kvs)) : kvs.length ≤ sizeLine ∧ (a == sysModules) = false ∧ ∃ vs, KV kvs vs ∧ h.DictOf (mixKind P w) a vs := dk_rd ok (.inl e)
end
section
variable {X : Cx} {pins : List (Addr × Obj)} {σ : St} {H : Hp} {s : Shared} {a : Addr} {y v : V} {u r : Value} {o : Option V} {A : Around} {E : Value → Shared → Prop}
theorem Inv.big (I : Inv X pins σ H s) : sysModules < s.heap.objs.size := by
 have h : mainGlobals < s.heap.objs.size := (I.mod.glob.keeps I.bk).lt
 exact Nat.lt_trans (by decide) h
theorem d_write {h' : Heap} {t' : Nat} {ob : HO} (I : Inv X pins σ H s) (mu : Mut (H a)) (hs : Heap.SameBut a s.heap h') (he : ∃ q, h'.get? a = some q) (new : ObjOk X.prog X.w (upd H a ob) h' a ob) :
   Inv X pins σ (upd H a ob) { s with heap := h', toks := t' } :=
 I.write (x := a) (e := a) mu (.inl rfl) (fun b q hb z => (hs.2 b hb).trans z) he new
theorem dk_new {P : Program} {w : World} {H' : Hp} {h' : Heap} {kvs : List (Key × V)} {vs : List (Key × Value)} (z : kvs.length ≤ sizeLine) (hd : (a == sysModules) = false) (rel : KV kvs vs) (dd : h'.DictOf (mixKind P w) a vs) :
   ObjOk P w H' h' a (.dK kvs) := ⟨z, hd, vs, rel, dd⟩
end
section
variable {X : Cx} {pins : List (Addr × Obj)} {σ : St} {H : Hp} {s : Shared} {a : Addr} {kvs : List (Key × V)} {k : Key} {u : Value} {A : Around} {E : Value → Shared → Prop}
end
section
variable {X : Cx} {o i e value : Expr} {pos pos' tpos : Pos} {td ty tv : TE}
end
theorem dk_empty {P : Program} {w : World} {H : Hp} (h : Heap) (hb : sysModules < h.objs.size) : ObjOk P w H (h.push { cls := .type "dict", data := .dict #[] }) h.objs.size (.dK []) :=
 ⟨Nat.zero_le _, beq_eq_false_iff_ne.mpr (Ne.symm (Nat.ne_of_lt hb)), [], .nil, Heap.DictOf.new h⟩
section
variable {X : Cx} {pos : Pos}
end
def tPairs : List (TE × TE) → St → Hp → (List (V × V) → Hp → Prop) → Prop
 | [], _, H, Q => Q [] H
 | (tk, tv) :: r, σ, H, Q => tk σ H fun x H1 => tv σ H1 fun y H2 => tPairs r σ H2 fun ps H3 => Q ((x, y) :: ps) H3
abbrev VV : List (V × V) → List (Value × Value) → Prop := Paired fun p q => RelV p.1 q.1 ∧ RelV p.2 q.2
def PPs (X : Cx) (pos : Pos) (keys : List (Option Expr)) (values : List Expr) (trs : List (TE × TE)) : Prop :=
 ∀ (pins : List (Addr × Obj)) (s : Shared) (σ : St) (H : Hp) (Q : List (V × V) → Hp → Prop), Inv X pins σ H s → tPairs trs σ H Q →
   wpAny (model X.prog X.w) X.A (evalPairs (pairTrees keys values X.env pos)) (fun vs s' => ∃ ps H', Inv X pins σ H' s' ∧ VV ps vs ∧ Q ps H') X.xe s
theorem pps_nil {X : Cx} {pos : Pos} : PPs X pos [] [] [] := fun pins s σ H Q I h => pairTrees_nil_walk ⟨[], H, I, .nil, h⟩
theorem pps_cons {X : Cx} {pos : Pos} {k v : Expr} {ks : List (Option Expr)} {vs : List Expr} {tk tv : TE} {trs : List (TE × TE)} (hk : PE X k tk) (hv : PE X v tv) (hr : PPs X pos ks vs trs) :
   PPs X pos (some k :: ks) (v :: vs) ((tk, tv) :: trs) := fun pins s σ H Q I h =>
 pairTrees_cons_walk (thn (hk pins s σ H _ I h) fun u s1 ⟨x, H1, I1, rx, q1⟩ => thn (hv pins s1 σ H1 _ I1 q1) fun w2 s2 ⟨y, H2, I2, ry, q2⟩ =>
   thn (hr pins s2 σ H2 _ I2 q2) fun ws s3 ⟨ps, H3, I3, rel, q3⟩ => ⟨(x, y) :: ps, H3, I3, .cons ⟨rx, ry⟩ rel, q3⟩)
def mergeK (kvs more : List (Key × V)) : List (Key × V) := more.foldl (fun acc kv => putK acc kv.1 kv.2) kvs
theorem KV.merge : ∀ {more : List (Key × V)} {rs : List (Key × Value)} {kvs : List (Key × V)} {vs : List (Key × Value)}, KV more rs → KV kvs vs → KV (mergeK kvs more) (merged vs rs) := by
 intro more rs kvs vs r
 unfold KV at r
 induction r generalizing kvs vs with
 | nil => intro q; exact q
 | @cons p q ps qs h t ih =>
   intro r0
   have e : KV (putK kvs p.1 p.2) (stored vs q.1 q.2) := by
     have := r0.put p.1 h.2
     rw [← h.1]; exact this
   exact ih e
theorem length_mergeK : ∀ (more kvs : List (Key × V)), (mergeK kvs more).length ≤ kvs.length + more.length
 | [], kvs => by show kvs.length ≤ kvs.length + 0; omega
 | p :: r, kvs => by
   have h1 := length_mergeK r (putK kvs p.1 p.2)
   have h2 := length_putK kvs p.1 p.2
   show (mergeK (putK kvs p.1 p.2) r).length ≤ _
   rw [List.length_cons]; omega
theorem carries_of {P : Program} {w : World} : ∀ {kvs : List (Key × V)} {ws : List (Value × Value)}, VV (kvs.map fun kv => (kV kv.1, kv.2)) ws → ∃ rs, Carries (mixKind P w) ws rs ∧ KV kvs rs
 | [], _, r => by rw [List.map_nil] at r; cases r; exact ⟨[], True.intro, .nil⟩
 | p :: kvs, _, r => by
   rw [List.map_cons] at r
   cases r with
   | @cons a b as bs h t =>
     obtain ⟨rs, c, q⟩ := carries_of (P := P) (w := w) t
     obtain ⟨b1, b2⟩ := b
     exact ⟨(p.1, b2) :: rs, ⟨kV_is h.1, rfl, c⟩, .cons ⟨rfl, h.2⟩ q⟩
def tDisp (trs : List (TE × TE)) : TE := fun σ H Q => ∀ p, H p = none → tPairs trs σ (upd H p (.dK [])) fun ps H2 => H2 p = some (.dK []) ∧ ∃ kvs : List (Key × V), ps = kvs.map (fun kv => (kV kv.1, kv.2)) ∧ kvs.length ≤ 15 ∧ Q (.ref p) (upd H2 p (.dK (mergeK [] kvs)))
theorem pe_disp {X : Cx} {pos : Pos} {keys : List (Option Expr)} {values : List Expr} {trs : List (TE × TE)} (h : PPs X pos keys values trs) (hall : keys.all (·.isSome) = true) (hl : keys.length = values.length) (h0 : keys ≠ [])
   (h15 : keys.length ≤ 15) : PE X (.Dict keys values pos) (tDisp trs) := by
 intro pins s σ H Q I q
 have hn := I.hok.fresh (Nat.le_refl s.heap.objs.size)
 have I1 := I.laid (a := s.heap.objs.size) (o := .dK []) (h' := s.heap.push { cls := .type "dict", data := .dict #[] }) (t' := s.toks) (fun _ _ q => Heap.get?_push_of_some _ q) (Nat.le_refl _) (dk_empty s.heap I.big)
 refine wpAny_Dict_walk (knd := mixKind X.prog X.w) hall hl h0 h15 (thn (h pins _ σ _ _ I1 (q _ hn)) fun ws s2 ⟨ps, H2, I2, rel, e, kvs, ep, lk, q2⟩ => ?_)
 subst ep
 obtain ⟨rs, c, rk⟩ := carries_of (P := X.prog) (w := X.w) rel
 obtain ⟨z, hd, vs0, r0, dd⟩ := dk_of I2.hok e
 cases r0
 refine ⟨rs, c, dd, fun h' dd' hs => ⟨.ref s.heap.objs.size, _, ?_, rfl, q2⟩⟩
 have hz : (mergeK [] kvs).length ≤ sizeLine := by
   have h1 := length_mergeK kvs []
   rw [List.length_nil] at h1
   rw [sizeLine_eq]; omega
 have he : ∃ q, h'.get? s.heap.objs.size = some q := let ⟨q, _, _, hq, _⟩ := dd'; ⟨q, hq⟩
 exact d_write I2 (by rw [e]; exact True.intro) hs he (dk_new hz hd (rk.merge .nil) dd')
section
variable {X : Cx} {pins : List (Addr × Obj)} {σ : St} {H : Hp} {s : Shared} {a : Addr} {y d : V} {u r : Value} {o : Option V} {A : Around} {E : Value → Shared → Prop}
end
section
variable {X : Cx} {o e f : Expr} {apos cpos : Pos} {td ty tx : TE}
end
section
variable {X : Cx} {pins : List (Addr × Obj)} {σ : St} {H : Hp} {s : Shared} {a : Addr} {kvs : List (Key × V)} {A : Around} {E : Value → Shared → Prop}
end
section
variable {X : Cx} {pins : List (Addr × Obj)} {σ : St} {H : Hp} {s : Shared} {a : Addr} {y : V} {u : Value} {A : Around} {E : Value → Shared → Prop}
end
section
variable {κ : Type} [DecidableEq κ]
end
end L2
end
section
namespace Eo
open PySem L2
def top (i : Nat) : Stmt := PySem.Challenge.pw_eachonce_k33_papers_of_anything.main.body.getD i (.Pass ⟨0, 0, 0, 0⟩)
abbrev sWhole0 : Stmt := top 1
abbrev xM : Stmt := top 2
abbrev sGcd : Stmt := top 3
abbrev sIsFr : Stmt := top 4
abbrev sFrOf : Stmt := top 5
abbrev qW : Stmt := top 6
abbrev sLess : Stmt := top 7
abbrev sFit : Stmt := top 9
abbrev sLeft : Stmt := top 10
abbrev yO : Stmt := top 11
abbrev qJ : Stmt := top 12
abbrev xG : Stmt := top 13
abbrev xA : Stmt := top 14
abbrev yS : Stmt := top 15
abbrev qB : Stmt := top 16
abbrev qX : Stmt := top 17
abbrev sCell : Stmt := top 19
abbrev sPot : Stmt := top 20
abbrev sTake : Stmt := top 21
abbrev sLot : Stmt := top 22
abbrev sBox : Stmt := top 23
abbrev sWhole : Stmt := top 24
abbrev sDiv : Stmt := top 25
abbrev qY : Stmt := top 26
abbrev sIsR : Stmt := top 27
abbrev qV : Stmt := top 28
abbrev sFits : Stmt := top 29
abbrev qI : Stmt := top 30
abbrev yU : Stmt := top 31
abbrev yX : Stmt := top 32
abbrev sDue : Stmt := top 33
abbrev xL : Stmt := top 34
abbrev qA : Stmt := top 35
abbrev qG : Stmt := top 36
abbrev xF : Stmt := top 37
abbrev qZ : Stmt := top 38
abbrev qH : Stmt := top 39
abbrev q0 : Stmt := top 40
abbrev sLaw : Stmt := top 41
end Eo
end
section
namespace Eo
open PySem L2
def Keep (H H' : Hp) (p : Addr) : Prop := ∀ b o, H b = some o → b ≠ p → H' b = some o
structure Txt (mg : Str → Option Value) : Prop where
 len : mg "len" = none
 range : mg "range" = none
 tuple : mg "tuple" = none
 sorted : mg "sorted" = none
 set : mg "set" = none
 list : mg "list" = none
 int : mg "int" = none
 isinstance : mg "isinstance" = none
 bool : mg "bool" = none
 str : mg "str" = none
 all : mg "all" = none
 zip : mg "zip" = none
 max : mg "max" = none
 min : mg "min" = none
 any : mg "any" = none
 abs : mg "abs" = none
 sum : mg "sum" = none
structure Can (P : Program) (w : World) (K : W.Frag) (mg : Str → Option Value) (base : Heap) (x : Str) (k : Nat) (f : Addr) (fd : FuncData) (ps : List Str) (sp : Sp) : Prop where
 G : FnOk P w K mg base CX0 k f fd ps sp
 m : mg x = some (.ref f)
 kp : PySem.W.keepIn K (.ref f) = true
 b : Binds K fd ps []
theorem Can.pe {X : Cx} {x : Str} {k : Nat} {f : Addr} {fd : FuncData} {ps : List Str} {sp : Sp} {e : Expr} {es : List Expr} {t : TA} {p pos : Pos} (C : Can X.prog X.w X.K X.mg X.base x k f fd ps sp) (hr : Room k X.A) (hg : Gl X x) (ha : PA X (e :: es) t) (hdb : (x == ("__debug__" : Str)) = false := by decide)
   (he : starEach (e :: es) X.env = (false, eval e X.env) :: starEach es X.env := by rfl) (hpl : (backTo pos (starEach es X.env)).any (·.1) = false := by rfl) : PE X (.Call (.Name x p) (e :: es) [] pos) (tCall sp [] E0 t) :=
 pe_call C.G hr hg C.m C.kp C.b .nil pass0 ha hdb he hpl
theorem Can.je {X : Cx} {x : Str} {k : Nat} {f : Addr} {fd : FuncData} {ps : List Str} {sp : Sp} {e : Expr} {es : List Expr} {t : TA} {p pos : Pos} (C : Can X.prog X.w X.K X.mg X.base x k f fd ps sp) (hr : Room k X.A) (hg : Gl1 X x) (ha : JA X (e :: es) t) (he : starEach (e :: es) X.env = (false, eval e X.env) :: starEach es X.env)
   (hdb : (x == ("__debug__" : Str)) = false := by decide) (hpl : (backTo pos (starEach es X.env)).any (·.1) = false := by rfl) : JE X (.Call (.Name x p) (e :: es) [] pos) (tCall sp [] E0 t) :=
 ⟨C.pe hr hg.a ha.h hdb he hpl⟩
section
variable {P : Program} {w : World} {K : W.Frag} {mg : Str → Option Value} {base : Heap}
def spCell (K : W.Frag) : Sp := fun vs H Q _ => ∃ (a : Addr) (ns : List Int) (k : Int), vs = [.ref a, .int k] ∧ SqL K H a (ns.map V.int) ∧ 0 ≤ k ∧ ∀ c : Int, Q (.int c) H
theorem scCell : FnScope ["script", "k"] ["script", "k"] (j6 sCell) := ⟨rfl, rfl, rfl, by decide +kernel, rfl, by decide +kernel, by decide +kernel⟩
theorem ok_cell {f : Addr} {fd : FuncData} (F : Fun K "_law_cell_at" "_law_cell_at" sCell f fd) (T : Txt mg) : FnOk P w K mg base CX0 1 f fd ["script", "k"] (spCell K) := by
 refine F.ok scCell (fun vs H Q E h => ?_) (fun cdv A outer s H vs Q E hr h => ?_)
 · obtain ⟨a, ns, k, rfl, _⟩ := h
   rfl
 · obtain ⟨a, ns, k, rfl, hS, h0, q⟩ := h
   refine ⟨_, yD (ps_if (pt_cmpR xJ (pv 1) (pe_callB jJ (by rfl) T.len PySem.boot_len (kL (pv 0) yV)) (jK _)) (pss_one (ps_ret (pe_ix kX (pv 0) (pv 1) (fun _ _ => rfl)))) pss_nil) (pss_one (ps_ret jV)), ?_⟩
   refine ⟨_, rfl, _, rfl, a, _, rfl, .inl hS, _, _, rfl, rfl, _, rfl, ?_⟩
   refine ite2 (fun hlt => ?_) (fun _ => ?_)
   · have hlt : k < ((ns.map V.int).length : Int) := of_decide_eq_true hlt
     have hk : k.toNat < ns.length := by rw [List.length_map] at hlt; omega
     refine ⟨_, rfl, _, rfl, a, _, k, .int (ns[k.toNat]), rfl, rfl, hS, ?_, q _⟩
     have e : (k.toNat : Int) = k := by omega
     have q2 := yT (xs := ns.map V.int) (j := k.toNat) (v := V.int ns[k.toNat]) (by simp [hk])
     rw [e] at q2
     exact q2
   · exact q 0
def jQ : Sp := fun vs H Q _ => ∃ (p : Addr) (N w : Int), vs = [.ref p, .int w] ∧ H p = some (.lst [.int N]) ∧ 0 ≤ N ∧ 0 < w ∧ w < 2 ^ 64 ∧ ∀ N' r : Int, 0 ≤ N' → 0 ≤ r → r < w → Q (.int r) (upd H p (.lst [.int N']))
theorem scTake : FnScope ["pot", "wide", "found"] ["pot", "wide"] (j6 sTake) := ⟨rfl, rfl, rfl, by decide +kernel, rfl, by decide +kernel, by decide +kernel⟩
theorem ok_take {f : Addr} {fd : FuncData} (F : Fun K "_law_take" "_law_take" sTake f fd) : FnOk P w K mg base CX0 1 f fd ["pot", "wide"] jQ := by
 refine F.ok scTake (fun vs H Q E h => ?_) (fun cdv A outer s H vs Q E hr h => ?_)
 · obtain ⟨a, ns, k, rfl, _⟩ := h
   rfl
 · obtain ⟨p, N, w, rfl, hp, h0, h1, h2, q⟩ := h
   refine ⟨_, yD (xB (i := 2) scTake.nd rfl (Or.inl rfl) (yA op_mod (pe_ix kX (pv 0) jV (fun _ _ => rfl)) (pv 1)))
     (yD (ps_asg (yA op_fdivL (pe_ix kX (pv 0) jV (fun _ _ => rfl)) (pv 1)) (pg_sub (pv 0) jV set_list))
     (pss_one (ps_ret (pv 2)))), ?_⟩
   refine ⟨_, rfl, p, _, 0, .int N, rfl, rfl, SqL.of hp, rfl, _, rfl, _, _, rfl, rfl, h1, ?_⟩
   refine ⟨_, rfl, p, _, 0, .int N, rfl, rfl, SqL.of hp, rfl, _, rfl, _, _, rfl, rfl, ⟨h1, h2⟩, ?_⟩
   refine ⟨_, rfl, p, _, 0, 0, rfl, rfl, hp, rfl, _, rfl, ?_⟩
   exact q _ _ (Int.ediv_nonneg h0 (by omega)) (Int.emod_nonneg _ (by omega)) (Int.emod_lt_of_pos _ h1)
def spPot : Sp := fun vs H Q _ => ∃ c : Int, vs = [.int c] ∧ ∀ (p : Addr) (N : Int), H p = none → 0 ≤ N → Q (.ref p) (upd H p (.lst [.int N]))
theorem scPot : FnScope ["cell", "number", "j", "more"] ["cell"] (j6 sPot) := ⟨rfl, rfl, rfl, by decide +kernel, rfl, by decide +kernel, by decide +kernel⟩
theorem ok_pot {f : Addr} {fd : FuncData} (F : Fun K "_law_pot" "_law_pot" sPot f fd) (T : Txt mg) : FnOk P w K mg base CX0 1 f fd ["cell"] spPot := by
 refine F.ok scPot (fun vs H Q E h => ?_) (fun cdv A outer s H vs Q E hr h => ?_)
 · obtain ⟨c, rfl, _⟩ := h
   rfl
 · obtain ⟨c, rfl, q⟩ := h
   have one : [V.int 0].length ≤ sizeLine := by show 1 ≤ sizeLine; decide
   refine ⟨_, yD (ps_if (pt_cmpR op_ge (pv 0) (yA op_pow jV jV) (jK _)) (pss_one (ps_ret (pe_lst (kL (yA op_sub (pv 0) (yA op_pow jV jV)) yV)))) pss_nil)
     (yD (xB (i := 1) scPot.nd rfl (Or.inl rfl) jV)
     (yD (ps_for PassesOwn.never rfl (pi_range1 rfl T.range (kL jV yV)) (pg_name (i := 2) scPot.nd rfl (Or.inl rfl))
       (yD (xB (i := 3) scPot.nd rfl (Or.inl rfl) (yA op_mod (yA yR (yA kU (yA kU (yA op_mod (pv 0) jV) (yA yR jV (pv 2))) jV) jV) jV))
       (yD (xB (i := 3) scPot.nd rfl (Or.inl rfl) (yA op_mod (yA kU (yA kU (yA yR (pv 3) (pv 3)) (yA yR jV (pv 2))) jV) jV))
       (pss_one (xB (i := 1) scPot.nd rfl (Or.inl rfl) (yA kU (yA yR (pv 1) jV) (pv 3)))))))
     (pss_one (ps_ret (pe_lst (kL (pv 1) yV)))))), ?_⟩
   refine ⟨_, rfl, _, _, rfl, rfl, ⟨by decide, by decide, by decide⟩, _, _, rfl, rfl, _, rfl, ?_⟩
   refine ite2 (fun hge => ?_) (fun _ => ?_)
   · refine ⟨_, rfl, _, _, rfl, rfl, ⟨by decide, by decide, by decide⟩, _, _, rfl, rfl, one, fun p hp => q p _ hp ?_⟩
     exact Int.sub_nonneg_of_le (of_decide_eq_true hge)
   · refine ⟨64, rfl, by decide, by decide, for_range (n := 64) (fun i σ H2 => ∃ (num : Int) (v1 v2 : Option V), σ = [some (.int c), some (.int num), v1, v2] ∧ 0 ≤ num ∧ H2 = H) ⟨0, none, none, rfl, Int.le_refl _, rfl⟩ ?_ ?_⟩
     · rintro i σ H2 hi ⟨num, v1, v2, rfl, hn, rfl⟩
       refine ⟨_, rfl, _, _, rfl, rfl, (by show (0 : Int) < 2147483629; decide), _, rfl, _, _, rfl, rfl, .inl ⟨by decide, by decide⟩, _, _, rfl, rfl, _, _, rfl, rfl, _, _, rfl, rfl, .inr ⟨by decide, by decide⟩, _, _, rfl, rfl, (by show (0 : Int) < 2147483647; decide), ?_⟩
       refine ⟨_, rfl, _, rfl, _, _, rfl, rfl, .inl ⟨?_, ?_⟩, _, rfl, _, _, rfl, rfl, .inl ⟨by decide, by decide⟩, _, _, rfl, rfl, _, _, rfl, rfl, _, _, rfl, rfl, (by show (0 : Int) < 2147483587; decide), ?_⟩
       · omega
       · omega
       · refine ⟨_, rfl, _, _, rfl, rfl, .inr ⟨by decide, by decide⟩, _, rfl, _, _, rfl, rfl, ?_⟩
         refine ⟨_, _, _, rfl, ?_, rfl⟩
         omega
     · rintro σ H2 ⟨num, v1, v2, rfl, hn, rfl⟩
       exact ⟨_, rfl, one, fun p hp => q p num hp hn⟩
end
end Eo
end
section
namespace Eo
open PySem L2
theorem upd_upd {H : Hp} {a : Addr} {o o' : HO} : upd (upd H a o) a o' = upd H a o' := by
 funext b
 unfold upd
 by_cases h : b = a
 · rw [if_pos h, if_pos h]
 · rw [if_neg h, if_neg h, if_neg h]
theorem yK {H : Hp} {a b : Addr} {o : HO} (h : upd H a o b = none) : b ≠ a ∧ H b = none := by
 have h1 : b ≠ a := fun e => by rw [e, j4] at h; cases h
 exact ⟨h1, by rw [jD h1] at h; exact h⟩
theorem Keep.refl (H : Hp) (p : Addr) : Keep H H p := fun _ _ h _ => h
theorem Keep.trans {H H1 H2 : Hp} {p : Addr} (a : Keep H H1 p) (b : Keep H1 H2 p) : Keep H H2 p := fun c o h n => b c o (a c o h n) n
theorem Keep.upd {H H1 : Hp} {p : Addr} (a : Keep H H1 p) (o : HO) : Keep H (upd H1 p o) p := fun c u h n => by rw [jD n]; exact a c u h n
theorem Keep.new {H H1 : Hp} {p l : Addr} (a : Keep H H1 p) (hl : H1 l = none) (o : HO) : Keep H (L2.upd H1 l o) p := fun c u h n => by
 have := a c u h n
 rw [jD (jC this hl)]
 exact this
theorem pw {w : Int} (h1 : 1 ≤ w) (h2 : w ≤ 16) : (2 : Int) ≤ 2 ^ w.toNat ∧ (2 : Int) ^ w.toNat ≤ 65536 := by
 have e : ∀ n : Nat, n < 17 → 1 ≤ n → (2 : Int) ≤ 2 ^ n ∧ (2 : Int) ^ n ≤ 65536 := by decide +kernel
 exact e w.toNat (by omega) (by omega)
structure Lot (w : Int) (ts : List Int) : Prop where
 ris : ts.Pairwise (· < ·)
 bnd : ∀ z ∈ ts, 0 ≤ z ∧ z < w
 ne : ts ≠ []
def bits (n : Int) (k : Nat) : List Int := ((List.range k).filter fun t => decide (Builtin.bitAnd (n / 2 ^ t) 1 = 1)).map fun (t : Nat) => (t : Int)
theorem bits_succ (n : Int) (k : Nat) : bits n (k + 1) = bits n k ++ (if decide (Builtin.bitAnd (n / 2 ^ k) 1 = 1) = true then [(k : Int)] else []) := by
 unfold bits
 rw [List.range_succ, List.filter_append, List.map_append]
 congr 1
 rw [List.filter_cons]
 split <;> rfl
theorem bits_lot {n w : Int} (h1 : 1 ≤ n) (hw : 0 ≤ w) (h2 : n < 2 ^ w.toNat) : Lot w (bits n w.toNat) := by
 refine ⟨?_, fun z hz => ?_, ?_⟩
 · unfold bits
   rw [List.pairwise_map]
   have := (List.pairwise_lt_range (n := w.toNat)).filter (fun t => decide (Builtin.bitAnd (n / 2 ^ t) 1 = 1))
   exact this.imp fun h => by omega
 · unfold bits at hz
   obtain ⟨t, ht, rfl⟩ := List.mem_map.mp hz
   have := List.mem_range.mp (List.mem_filter.mp ht).1
   omega
 · obtain ⟨m, rfl⟩ : ∃ m : Nat, n = (m : Int) := ⟨n.toNat, by omega⟩
   have hm : m ≠ 0 := by omega
   have hlt : m < 2 ^ w.toNat := by
     have : ((m : Nat) : Int) < ((2 ^ w.toNat : Nat) : Int) := by rw [Int.natCast_pow]; exact h2
     omega
   obtain ⟨i, hi⟩ := Nat.exists_testBit_of_ne_zero hm
   have hiw : i < w.toNat := by
     rcases Nat.lt_or_ge i w.toNat with h | h
     · exact h
     · rw [Nat.testBit_lt_two_pow (Nat.lt_of_lt_of_le hlt (Nat.pow_le_pow_right (by omega) h))] at hi
       cases hi
   have hb : Builtin.bitAnd ((m : Int) / 2 ^ i) 1 = 1 := by
     have e : ((m : Int) / 2 ^ i) = ((m / 2 ^ i : Nat) : Int) := by rw [Int.natCast_ediv, Int.natCast_pow]; rfl
     rw [e, PyProof.Rows.bitAnd_pp (Int.natCast_nonneg _) (by decide)]
     have e2 : (((m / 2 ^ i : Nat) : Int).toNat &&& (1 : Int).toNat) = 1 := by
       rw [Int.toNat_natCast]
       show (m / 2 ^ i) &&& 1 = 1
       rw [Nat.and_one_is_mod]
       have := hi
       rw [Nat.testBit_eq_decide_div_mod_eq] at this
       exact of_decide_eq_true this
     rw [e2]
     rfl
   intro z
   have hmem : (i : Int) ∈ bits (m : Int) w.toNat := by
     unfold bits
     exact List.mem_map.mpr ⟨i, List.mem_filter.mpr ⟨List.mem_range.mpr hiw, decide_eq_true hb⟩, rfl⟩
   rw [z] at hmem
   cases hmem
section
variable {P : Program} {w : World} {K : W.Frag} {mg : Str → Option Value} {base : Heap}
def xI : Sp := fun vs H Q _ => ∃ (p : Addr) (N w : Int), vs = [.ref p, .int w] ∧ H p = some (.lst [.int N]) ∧ 0 ≤ N ∧ 1 ≤ w ∧ w ≤ 16 ∧
 ∀ (q : Addr) (N' : Int) (ts : List Int) (H' : Hp), 0 ≤ N' → Lot w ts → H' q = some (.tup (ts.map V.int)) → H' p = some (.lst [.int N']) → Keep H H' p → Q (.ref q) H'
theorem scLot : FnScope ["pot", "wide", "way", "number", "start", "step", "size"] ["pot", "wide"] (j6 sLot) := ⟨rfl, rfl, rfl, by decide +kernel, rfl, by decide +kernel, by decide +kernel⟩
theorem ok_lot {f fT : Addr} {fd fdT : FuncData} (F : Fun K "_law_lot" "_law_lot" sLot f fd) (T : Txt mg) (CT : Can P w K mg base "_law_take" 1 fT fdT ["pot", "wide"] jQ) : FnOk P w K mg base CX0 2 f fd ["pot", "wide"] xI := by
 refine F.ok scLot (fun vs H Q E h => ?_) (fun cdv A outer s H vs Q E hr h => ?_)
 · obtain ⟨a, ns, k, rfl, _⟩ := h
   rfl
 · obtain ⟨p, N, w, rfl, hp, hN, h1, h2, q⟩ := h
   have hpw := pw h1 h2
   have nd := scLot.nd
   refine ⟨_, yD (xB (i := 2) nd rfl (Or.inl rfl) (CT.pe hr rfl (kL (pv 0) (kL jV yV))))
     (yD (ps_if (pt_cmpR yP (pv 2) jV (jK _))
       (yD (xB (i := 3) nd rfl (Or.inr rfl) (yA kU jV (CT.pe hr rfl (kL (pv 0) (kL (yA op_sub (yA op_shl jV (pv 1)) jV) yV)))))
       (pss_one (ps_ret (pe_callTy kG rfl T.tuple (by decide +kernel) (kL
         (pe_comp (m := [none, some 3]) (Nc := ["t", "number"]) rfl (pi_range1 rfl T.range (kL (pv 1) yV)) rfl (by decide +kernel) (by decide +kernel) (kT (psc := j6 sLot) (by decide +kernel))
           (jW (N := ["pot", "wide", "way", "number", "start", "step", "size"]) rfl rfl (by decide +kernel))
           (fun cl C fp s H => pg_name (i := 0) (show (["t", "number"] : List Str).Nodup by decide +kernel) rfl (Or.inl rfl))
           (fun cl C fp s H => pts_one (pt_cmpR yP (yA op_and (yA op_shr (pv 1) (pv 0)) jV) jV (jK _)))
           (fun cl C fp s H => pv 0)) yV)))))
       pss_nil)
     (yD (xB (i := 4) nd rfl (Or.inr rfl) (CT.pe hr rfl (kL (pv 0) (kL (pv 1) yV))))
     (yD (xB (i := 5) nd rfl (Or.inr rfl) (yA kU jV (CT.pe hr rfl (kL (pv 0) (kL jV yV)))))
     (yD (xB (i := 6) nd rfl (Or.inl rfl) (yA kU jV (CT.pe hr rfl (kL (pv 0) (kL (pe_ix kX (pe_lst (kL jV (kL jV (kL jV yV)))) (yA op_sub (pv 2) jV) (fun _ _ => rfl)) yV)))))
     (pss_one (ps_ret (pe_callTy kG rfl T.tuple (by decide +kernel) (kL (pe_callB (call_sortedSet rfl) rfl T.sorted (by decide +kernel) (kL (pe_callTy (call_set4 rfl) rfl T.set (by decide +kernel) (kL
         (pe_comp (m := [none, some 4, some 5, some 1]) (Nc := ["j", "start", "step", "wide"]) rfl (pi_range1 rfl T.range (kL (pv 6) yV)) rfl (by decide +kernel) (by decide +kernel) (kT (psc := j6 sLot) (by decide +kernel))
           (jW (N := ["pot", "wide", "way", "number", "start", "step", "size"]) rfl rfl (by decide +kernel))
           (fun cl C fp s H => pg_name (i := 0) (show (["j", "start", "step", "wide"] : List Str).Nodup by decide +kernel) rfl (Or.inl rfl))
           (fun cl C fp s H => pts_nil)
           (fun cl C fp s H => yA op_mod (yA kU (pv 1) (yA yR (pv 2) (pv 0))) (pv 3))) yV)) yV)) yV)))))))), ?_⟩
   refine ⟨_, rfl, p, N, 4, rfl, hp, hN, by decide, by decide, fun N1 way b1 b2 b3 => ?_⟩
   have hp1 : ∀ M, (upd H p (.lst [.int M])) p = some (.lst [.int M]) := fun _ => j4
   refine ⟨_, rfl, rfl, _, rfl, ?_⟩
   refine ite2 (fun _ => ?_) (fun hw0 => ?_)
   · refine ⟨_, rfl, _, rfl, _, _, rfl, rfl, ⟨by omega, by omega, by decide⟩, _, _, rfl, rfl, p, N1, _, rfl, hp1 _, b1, by omega, by omega, fun N2 r2 c1 c2 c3 => ⟨_, _, rfl, rfl, ?_⟩⟩
     have hnum : 1 + r2 < 2 ^ w.toNat := by omega
     refine ⟨_, rfl, w, rfl, by omega, by omega, comp_rng (n := w.toNat) (by rw [PySem.sizeLine_eq]; omega) (fun D i σ' H' ys => (∃ v, σ' = [v, some (.int (1 + r2))]) ∧ ys = (bits (1 + r2) i).map V.int ∧ H' = upd (upd (upd H p (.lst [.int N1])) p (.lst [.int N2])) D (.lst ys)) ?_ ?_ ?_ ?_⟩
     · intro D hD
       exact ⟨⟨_, rfl⟩, rfl, rfl⟩
     · rintro D i σ' H' ys hD hi ⟨_, e1, e2⟩
       refine ⟨by rw [e2]; exact j4, ?_⟩
       rw [e1, List.length_map]
       unfold bits
       rw [List.length_map]
       exact Nat.le_trans (List.length_filter_le _ _) (by rw [List.length_range]; exact Nat.le_refl _)
     · rintro D i σ' H' ys hD hi ⟨⟨v, rfl⟩, rfl, rfl⟩
       refine ⟨_, rfl, _, rfl, _, _, rfl, rfl, (by show (0 : Int) ≤ 0 + (i : Int); omega), _, _, rfl, rfl, rfl, _, rfl, ?_⟩
       have ei : (0 + (i : Int)).toNat = i := by omega
       refine ite2 (fun hb => ?_) (fun hb => ?_)
       · have hb : Builtin.bitAnd ((1 + r2) / 2 ^ i) 1 = 1 := by
           have := of_decide_eq_true hb
           rw [ei] at this
           exact V.int.inj this
         refine ⟨_, rfl, j4, ⟨_, rfl⟩, ?_, upd_upd⟩
         rw [bits_succ, if_pos (decide_eq_true hb), List.map_append]
         congr 1
         show [V.int (0 + (i : Int))] = [V.int (i : Int)]
         rw [Int.zero_add]
       · have hb : ¬ Builtin.bitAnd ((1 + r2) / 2 ^ i) 1 = 1 := fun e => hb (decide_eq_true (by rw [ei]; exact congrArg V.int e))
         refine ⟨⟨_, rfl⟩, ?_, rfl⟩
         rw [bits_succ, if_neg (by simpa using hb), List.append_nil]
     · rintro D σ' H' ys hD ⟨_, rfl, rfl⟩
       refine ⟨D, _, rfl, .inl ⟨SqL.of j4, fun qq hqq => ?_⟩⟩
       obtain ⟨n1, n2⟩ := yK hqq
       have pD : p ≠ D := jC j4 hD
       have pq : p ≠ qq := jC j4 n2
       exact q qq N2 (bits (1 + r2) w.toNat) _ c1 (bits_lot (by omega) (by omega) hnum) j4 (by rw [jD pq, jD pD, j4]) (((((Keep.refl H p).upd _).upd _).new hD _).new hqq _)
   · have hway : 1 ≤ way := by
       have : ¬ way = 0 := fun e => hw0 (decide_eq_true (by rw [e]))
       omega
     refine ⟨_, rfl, _, rfl, p, N1, w, rfl, hp1 _, b1, by omega, by omega, fun N2 qR c1 c2 c3 => ?_⟩
     rw [upd_upd]
     refine ⟨_, rfl, p, N2, 3, rfl, hp1 _, c1, by decide, by decide, fun N3 st d1 d2 d3 => ⟨_, _, rfl, rfl, ?_⟩⟩
     rw [upd_upd]
     refine ⟨_, rfl, (by show 3 ≤ sizeLine; decide), fun l hl => ?_⟩
     have pl : p ≠ l := jC (hp1 _) hl
     obtain ⟨wd, hwd, e1, e2⟩ : ∃ wd : Int, atI [V.int 1, V.int 2, V.int 4] (way - 1) = some (.int wd) ∧ 1 ≤ wd ∧ wd ≤ 4 := by
       rcases (show way = 1 ∨ way = 2 ∨ way = 3 by omega) with e | e | e
       · subst e; exact ⟨1, rfl, by decide, by decide⟩
       · subst e; exact ⟨2, rfl, by decide, by decide⟩
       · subst e; exact ⟨4, rfl, by decide, by decide⟩
     refine ⟨_, rfl, _, _, rfl, rfl, l, _, _, _, rfl, rfl, SqL.of j4, hwd, p, N3, wd, rfl, by rw [jD pl]; exact hp1 _, d1, by omega, by omega, fun N4 r4 g1 g2 g3 => ⟨_, _, rfl, rfl, ?_⟩⟩
     have kp : Keep H (upd (upd (upd H p (.lst [.int N3])) l (.lst [V.int 1, V.int 2, V.int 4])) p (.lst [.int N4])) p := (((Keep.refl H p).upd _).new hl _).upd _
     have hp4 : (upd (upd (upd H p (.lst [.int N3])) l (.lst [V.int 1, V.int 2, V.int 4])) p (.lst [.int N4])) p = some (.lst [.int N4]) := j4
     generalize (upd (upd (upd H p (.lst [.int N3])) l (.lst [V.int 1, V.int 2, V.int 4])) p (.lst [.int N4])) = H4 at kp hp4 ⊢
     refine ⟨_, rfl, 1 + r4, rfl, by omega, by omega, comp_rng (n := (1 + r4).toNat) (by rw [PySem.sizeLine_eq]; omega) (fun D i σ' H' ys => (∃ v, σ' = [v, some (.int qR), some (.int (1 + st)), some (.int w)]) ∧ (∃ ns : List Int, ys = ns.map V.int ∧ ns.length = i ∧ ∀ z ∈ ns, 0 ≤ z ∧ z < w) ∧ H' = upd H4 D (.lst ys)) ?_ ?_ ?_ ?_⟩
     · intro D hD
       exact ⟨⟨_, rfl⟩, ⟨[], rfl, rfl, fun z hz => by cases hz⟩, rfl⟩
     · rintro D i σ' H' ys hD hi ⟨_, ⟨ns, rfl, e, _⟩, rfl⟩
       exact ⟨j4, by rw [List.length_map, e]; exact Nat.le_refl _⟩
     · rintro D i σ' H' ys hD hi ⟨⟨v, rfl⟩, ⟨ns, rfl, e, hb⟩, rfl⟩
       dsimp only [yJ, qQ]
       rw [if_pos rfl]
       refine ⟨_, rfl, _, rfl, _, rfl, _, _, rfl, rfl, .inl ⟨by omega, by omega⟩, _, _, rfl, rfl, _, rfl, _, _, rfl, rfl, (by show 0 < w; omega), j4, ⟨_, rfl⟩, ⟨ns ++ [(qR + (1 + st) * (0 + (i : Int))) % w], by simp, by simp [e], fun z hz => ?_⟩, upd_upd⟩
       rcases List.mem_append.mp hz with hz | hz
       · exact hb z hz
       · have : z = (qR + (1 + st) * (0 + (i : Int))) % w := by simpa using hz
         rw [this]
         exact ⟨Int.emod_nonneg _ (by omega), Int.emod_lt_of_pos _ (by omega)⟩
     · rintro D σ' H' ys hD ⟨_, ⟨ns, rfl, e, hb⟩, rfl⟩
       refine ⟨D, ns, rfl, SqL.of j4, by omega, fun z hz => ⟨(hb z hz).1, by have := (hb z hz).2; omega⟩, fun l1 ks h11 hm1 => ?_⟩
       refine ⟨l1, ks, rfl, j4, fun l2 ms h12 srt hm2 => ?_⟩
       refine ⟨l2, _, rfl, .inl ⟨SqL.of j4, fun qq hqq => ?_⟩⟩
       have pD : p ≠ D := jC hp4 hD
       have p1 : p ≠ l1 := jC hp4 (yK h11).2
       have p2 : p ≠ l2 := jC hp4 (yK (yK h12).2).2
       have pq : p ≠ qq := jC hp4 (yK (yK (yK hqq).2).2).2
       refine q qq N4 ms _ g1 ⟨srt, fun z hz => hb z ((hm1 z).mp ((hm2 z).mp hz)), fun z => ?_⟩ j4 (by rw [jD pq, jD p2, jD p1, jD pD]; exact hp4) ((((kp.new hD _).new h11 _).new h12 _).new hqq _)
       subst z
       cases ns with
       | nil => simp at e; omega
       | cons x r =>
         have := (hm2 x).mpr ((hm1 x).mpr List.mem_cons_self)
         cases this
end
end Eo
end
section
namespace Eo
open PySem L2
structure Ris (w : Int) (ts : List Int) : Prop where
 ris : ts.Pairwise (· < ·)
 bnd : ∀ z ∈ ts, 0 ≤ z ∧ z < w
theorem Ris.nil (w : Int) : Ris w [] := ⟨.nil, fun z hz => by cases hz⟩
theorem Ris.take {w : Int} {ts : List Int} (h : Ris w ts) (k : Nat) : Ris w (ts.take k) := ⟨h.ris.sublist (List.take_sublist _ _), fun z hz => h.bnd z (List.mem_of_mem_take hz)⟩
theorem Ris.drop {w : Int} {ts : List Int} (h : Ris w ts) (k : Nat) : Ris w (ts.drop k) := ⟨h.ris.sublist (List.drop_sublist _ _), fun z hz => h.bnd z (List.mem_of_mem_drop hz)⟩
theorem Ris.snoc {i : Nat} {ts : List Int} (h : Ris i ts) : Ris (i + 1 : Nat) (ts ++ [(i : Int)]) := by
 refine ⟨List.pairwise_append.mpr ⟨h.ris, List.pairwise_singleton _ _, fun a ha b hb => ?_⟩, fun z hz => ?_⟩
 · have := (h.bnd a ha).2
   have e : b = i := by simpa using hb
   omega
 · rcases List.mem_append.mp hz with q | q
   · have := h.bnd z q
     omega
   · have e : z = i := by simpa using q
     omega
theorem Ris.step {i : Nat} {ts : List Int} (h : Ris i ts) : Ris (i + 1 : Nat) ts := ⟨h.ris, fun z hz => by have := h.bnd z hz; omega⟩
def upto (n : Nat) : List Int := (List.range n).map fun (i : Nat) => (i : Int)
theorem intsTo_eq (n : Nat) : intsTo n = (upto n).map V.int := by
 unfold intsTo upto
 rw [List.map_map]
 rfl
theorem upto_ris (n : Nat) : Ris n (upto n) := by
 refine ⟨?_, fun z hz => ?_⟩
 · unfold upto
   rw [List.pairwise_map]
   exact List.pairwise_lt_range.imp fun h => by omega
 · unfold upto at hz
   obtain ⟨t, ht, rfl⟩ := List.mem_map.mp hz
   have := List.mem_range.mp ht
   omega
def Tups (H H' : Hp) : Prop := ∀ b xs, H b = some (.tup xs) → H' b = some (.tup xs)
theorem Tups.trans {H H1 H2 : Hp} (a : Tups H H1) (b : Tups H1 H2) : Tups H H2 := fun c o h => b c o (a c o h)
theorem Keep.tups {H H' : Hp} {p : Addr} {xs : List V} (k : Keep H H' p) (hp : H p = some (.lst xs)) : Tups H H' := fun b ys hb => k b _ hb fun e => by
 subst e
 rw [hb] at hp
 cases hp
theorem Tups.upd {H : Hp} {p : Addr} {xs : List V} (hp : H p = some (.lst xs)) (o : HO) : Tups H (upd H p o) := fun b ys hb => by
 rw [jD (fun e => by subst e; rw [hb] at hp; cases hp)]
 exact hb
theorem Tups.new {H : Hp} {p : Addr} (hp : H p = none) (o : HO) : Tups H (L2.upd H p o) := fun b ys hb => by
 rw [jD (jC hb hp)]
 exact hb
def PcAt (H : Hp) (v : V) (pc : List Int × Int) : Prop := ∃ a q, v = .ref a ∧ H a = some (.tup [.ref q, .int pc.2]) ∧ H q = some (.tup (pc.1.map V.int))
def PcsAt (H : Hp) : List V → List (List Int × Int) → Prop
 | [], [] => True
 | v :: vs, p :: ps => PcAt H v p ∧ PcsAt H vs ps
 | _, _ => False
theorem PcAt.mono {H H' : Hp} {v : V} {pc : List Int × Int} (h : PcAt H v pc) (t : Tups H H') : PcAt H' v pc := by
 obtain ⟨a, q, rfl, h1, h2⟩ := h
 exact ⟨a, q, rfl, t _ _ h1, t _ _ h2⟩
theorem PcsAt.mono {H H' : Hp} (t : Tups H H') : ∀ {vs : List V} {ps : List (List Int × Int)}, PcsAt H vs ps → PcsAt H' vs ps
 | [], [], _ => trivial
 | _ :: _, _ :: _, h => ⟨h.1.mono t, PcsAt.mono t h.2⟩
 | [], _ :: _, h => h.elim
 | _ :: _, [], h => h.elim
theorem PcsAt.len {H : Hp} : ∀ {vs : List V} {ps : List (List Int × Int)}, PcsAt H vs ps → vs.length = ps.length
 | [], [], _ => rfl
 | _ :: _, _ :: _, h => congrArg (· + 1) (PcsAt.len h.2)
 | [], _ :: _, h => h.elim
 | _ :: _, [], h => h.elim
theorem PcsAt.put {H : Hp} {v : V} {p : List Int × Int} (hv : PcAt H v p) : ∀ (k : Nat) {vs : List V} {ps : List (List Int × Int)}, PcsAt H vs ps → PcsAt H (vs.take k ++ v :: vs.drop k) (ps.take k ++ p :: ps.drop k)
 | 0, _, _, h => ⟨hv, h⟩
 | _ + 1, [], [], _ => ⟨hv, trivial⟩
 | k + 1, _ :: _, _ :: _, h => ⟨h.1, PcsAt.put hv k h.2⟩
 | _ + 1, [], _ :: _, h => h.elim
 | _ + 1, _ :: _, [], h => h.elim
structure GoodPc (w : Int) (pc : List Int × Int) : Prop where
 lot : Lot w pc.1
 lo : -1000000000000 ≤ pc.2
 hi : pc.2 ≤ 1000000000000
structure BoxAt (H : Hp) (b : Addr) (w : Int) (mays : List Int) (pcs : List (List Int × Int)) : Prop where
 ex : ∃ qm qp vs, H b = some (.tup [.int w, .ref qm, .ref qp]) ∧ H qm = some (.tup (mays.map V.int)) ∧ H qp = some (.tup vs) ∧ PcsAt H vs pcs
theorem BoxAt.mono {H H' : Hp} {b : Addr} {w : Int} {mays : List Int} {pcs : List (List Int × Int)} (h : BoxAt H b w mays pcs) (t : Tups H H') : BoxAt H' b w mays pcs := by
 obtain ⟨qm, qp, vs, h1, h2, h3, h4⟩ := h.ex
 exact ⟨qm, qp, vs, t _ _ h1, t _ _ h2, t _ _ h3, h4.mono t⟩
structure Good (mt mp : Int) (w : Int) (mays : List Int) (pcs : List (List Int × Int)) : Prop where
 w0 : 0 ≤ w
 w1 : w ≤ mt
 mr : Ris w mays
 pl : (pcs.length : Int) ≤ mp
 pg : ∀ pc ∈ pcs, GoodPc w pc
theorem Keep.updNew {H H1 : Hp} {p l : Addr} (a : Keep H H1 p) (hl : H l = none) (o : HO) : Keep H (L2.upd H1 l o) p := fun c u h n => by
 rw [jD (jC h hl)]
 exact a c u h n
section
variable {P : Program} {w : World} {K : W.Frag} {mg : Str → Option Value} {base : Heap}
def spBox : Sp := fun vs H Q _ => ∃ (p : Addr) (N mt mp : Int), vs = [.ref p, .int mt, .int mp] ∧ H p = some (.lst [.int N]) ∧ 0 ≤ N ∧ 0 ≤ mt ∧ mt ≤ 16 ∧ 0 ≤ mp ∧ mp ≤ 32 ∧
 ∀ (b : Addr) (N' w : Int) (mays : List Int) (pcs : List (List Int × Int)) (H' : Hp), 0 ≤ N' → H' p = some (.lst [.int N']) → BoxAt H' b w mays pcs → Good mt mp w mays pcs → Keep H H' p → Q (.ref b) H'
abbrev nBox : List Str := ["pot", "most_things", "most_pieces", "wide", "mays", "left", "far", "pieces", "k", "size", "things"]
theorem scBox : FnScope nBox ["pot", "most_things", "most_pieces"] (j6 sBox) := ⟨rfl, rfl, rfl, by decide +kernel, rfl, by decide +kernel, by decide +kernel⟩
end
end Eo
end
section
namespace Eo
open PySem L2
section
variable {P : Program} {w : World} {K : W.Frag} {mg : Str → Option Value} {base : Heap}
abbrev XBox (P : Program) (w : World) (K : W.Frag) (mg : Str → Option Value) (base : Heap) (f : Addr) (cdv : Value) (A : Around) (outer : List Env) (s : Shared) (H : Hp) (E : XK) : Cx := (cxOf CX0 P w K mg base nBox "_law_box" (j6 sBox) f cdv A outer s H E).nox
def xC : Stmt → List Stmt
 | .For _ _ b _ _ => b
 | _ => []
def boxI {f fT fL : Addr} {fdT fdL : FuncData} {cdv : Value} {A : Around} {outer : List Env} {s : Shared} {H : Hp} {E : XK} (T : Txt mg) (CT : Can P w K mg base "_law_take" 1 fT fdT ["pot", "wide"] jQ) (CL : Can P w K mg base "_law_lot" 2 fL fdL ["pot", "wide"] xI) (hr : Room 2 (XBox P w K mg base f cdv A outer s H E).A) : { t : TS // JSs (XBox P w K mg base f cdv A outer s H E) ((xC ((j8 sBox).getD 7 (.Pass ⟨0, 0, 0, 0⟩))).drop 4) t } :=
 have nd := scBox.nd
 ⟨_, (j9 (js_expr (je_bm PySem.F.plainAttrs_list PySem.F.slot_list_insert PySem.F.type_list_insert mt_insert (jv 7 rfl vL) (j0 (CT.je (hr.mono (by decide)) gD (j0 (jv 0 rfl vC) (j0 (jP kU (jG jJ gD T.len (by decide +kernel) (j0 (jv 7 rfl vL) j2 j1) j1) (je_int)) j2 jS) j1) j1) (j0 (je_tup (j0 (jv 10 rfl vL) (j0 (jP op_sub (CT.je (hr.mono (by decide)) gD (j0 (jv 0 rfl vC) (j0 (jv 6 rfl vL) j2 j1) j1) j1) (jP op_fdivL (jv 6 rfl vL) (je_int))) j2 jS) j1)) j2 kO) jL) jL) jR))⟩
def boxL {f fT fL : Addr} {fdT fdL : FuncData} {cdv : Value} {A : Around} {outer : List Env} {s : Shared} {H : Hp} {E : XK} (T : Txt mg) (CT : Can P w K mg base "_law_take" 1 fT fdT ["pot", "wide"] jQ) (CL : Can P w K mg base "_law_lot" 2 fL fdL ["pot", "wide"] xI) (hr : Room 2 (XBox P w K mg base f cdv A outer s H E).A) : { t : TS // JSs (XBox P w K mg base f cdv A outer s H E) (xC ((j8 sBox).getD 7 (.Pass ⟨0, 0, 0, 0⟩))) t } :=
 have nd := scBox.nd
 ⟨_, (j5 (jM (i := 9) nd rfl lL (jP kU (je_int) (CT.je (hr.mono (by decide)) gD (j0 (jv 0 rfl vC) (j0 (je_int) j2 j7) j1) j1)) sw_bin)
     (j5 (jM (i := 10) nd rfl lL (kB kG gD T.tuple (by decide +kernel) (j0 (je_slice sl_list (jv 5 rfl vL) jo_none (jo_some (jv 9 rfl vL))) j2 jE) jE) jR)
     (j5 (jM (i := 5) nd rfl lL (je_slice sl_list (jv 5 rfl vL) (jo_some (jv 9 rfl vL)) jo_none) sw_sub)
     (j5 (jX (jF (op_eqE hr.units0) (jv 10 rfl vL) (je_tup j2) (jK _)) (j9 (jM (i := 10) nd rfl lL (CL.je hr gD (j0 (jv 0 rfl vC) (j0 (jv 3 rfl vL) j2 j1) j1) j1) jR)) jN)
     (boxI T CT CL hr).2))))⟩
def boxC {f fT fL : Addr} {fdT fdL : FuncData} {cdv : Value} {A : Around} {outer : List Env} {s : Shared} {H : Hp} {E : XK} (T : Txt mg) (CT : Can P w K mg base "_law_take" 1 fT fdT ["pot", "wide"] jQ) (CL : Can P w K mg base "_law_lot" 2 fL fdL ["pot", "wide"] xI) (hr : Room 2 (XBox P w K mg base f cdv A outer s H E).A) : { t : TS // JSs (XBox P w K mg base f cdv A outer s H E) ((j8 sBox).drop 5) t } :=
 have nd := scBox.nd
 ⟨_, (j5 (jM (i := 6) nd rfl lL (jB kX (je_lst (j0 (je_int) (j0 (je_int) (j0 (je_big) j2 jS) j7) j7)) (CT.je (hr.mono (by decide)) gD (j0 (jv 0 rfl vC) (j0 (je_int) j2 j7) j1) j1) px_call) sw_sub)
     (j5 (jM (i := 7) nd rfl lL (je_lst j2) sw_lst)
     (j5 (qC PassesOwn.never rfl (ji_range1 gD T.range (j0 (jP yR (CT.je (hr.mono (by decide)) gD (j0 (jv 0 rfl vC) (j0 (jP kU (jv 2 rfl vL) (je_int)) j2 jS) j1) j1) (kB call_int1 gD T.int (by decide +kernel) (j0 (je_cmpR op_gt (jv 3 rfl vL) (je_int) (jK _)) j2 se_cmp) se_cmp)) j2 jS) jS) (jT (i := 8) nd rfl lL) (boxL T CT CL hr).2 yF)
     (j9 (jI (je_tup (j0 (jv 3 rfl vL) (j0 (jv 4 rfl vL) (j0 (kB kG gD T.tuple (by decide +kernel) (j0 (jv 7 rfl vL) j2 j1) j1) j2 jL) j1) j1)))))))⟩
def boxB {f fT fL : Addr} {fdT fdL : FuncData} {cdv : Value} {A : Around} {outer : List Env} {s : Shared} {H : Hp} {E : XK} (T : Txt mg) (CT : Can P w K mg base "_law_take" 1 fT fdT ["pot", "wide"] jQ) (CL : Can P w K mg base "_law_lot" 2 fL fdL ["pot", "wide"] xI) (hr : Room 2 (XBox P w K mg base f cdv A outer s H E).A) : { t : TS // JSs (XBox P w K mg base f cdv A outer s H E) ((j8 sBox).drop 3) t } :=
 have nd := scBox.nd
 ⟨_, (j5 (jM (i := 5) nd rfl lL (kB (call_listRng rfl) gD T.list (by decide +kernel) (j0 (kB call_rangeV gD T.range (by decide +kernel) (j0 (jv 3 rfl vL) j2 j1) j1) j2 jL) jL) jR)
     (j5 (jX (jF yP (CT.je (hr.mono (by decide)) gD (j0 (jv 0 rfl vC) (j0 (je_int) j2 j7) j1) j1) (je_int) (jK _)) (j9 (jM (i := 5) nd rfl lL (je_lst j2) sw_lst)) jN)
     (boxC T CT CL hr).2))⟩
def boxA {f fT fL : Addr} {fdT fdL : FuncData} {cdv : Value} {A : Around} {outer : List Env} {s : Shared} {H : Hp} {E : XK} (T : Txt mg) (CT : Can P w K mg base "_law_take" 1 fT fdT ["pot", "wide"] jQ) (CL : Can P w K mg base "_law_lot" 2 fL fdL ["pot", "wide"] xI) (hr : Room 2 (XBox P w K mg base f cdv A outer s H E).A) : { t : TS // JSs (XBox P w K mg base f cdv A outer s H E) (j8 sBox) t } :=
 have nd := scBox.nd
 ⟨_, (j5 (jM (i := 3) nd rfl lL (CT.je (hr.mono (by decide)) gD (j0 (jv 0 rfl vC) (j0 (jP kU (jv 1 rfl vL) (je_int)) j2 jS) j1) j1) jR)
     (j5 (jM (i := 4) nd rfl lL (je_tup j2) sw_tup)
     (j5 (jX (jF yP (CT.je (hr.mono (by decide)) gD (j0 (jv 0 rfl vC) (j0 (je_int) j2 j7) j1) j1) (je_int) (jK _)) (j9 (jM (i := 4) nd rfl lL (kB kG gD T.tuple (by decide +kernel) (j0 (yL (m := [none, some 0]) (Nc := ["t", "pot"]) rfl (ji_range1 gD T.range (j0 (jv 3 rfl vL) j2 j1) j1) rfl (by decide +kernel) (by decide +kernel) (kT (psc := j6 sBox) (by decide +kernel)) (jW (N := nBox) rfl rfl (by decide +kernel)) (fun cl C fp s H => jT (i := 0) (show (["t", "pot"] : List Str).Nodup by decide +kernel) rfl (qL (by decide +kernel))) (fun cl C fp s H => jts_one (jF yP (CT.je (hr.mono (by decide)) (gl_b (by decide +kernel)) (j0 (jv 1 rfl (kY (by decide +kernel))) (j0 (je_int) j2 j7) j1) j1) (je_int) (jK _))) (fun cl C fp s H => (jv 0 rfl (kN (by decide +kernel)))) yF) j2 kR) kR) jR)) jN)
     (boxB T CT CL hr).2)))⟩
end
end Eo
end
section
namespace Eo
open PySem L2
structure St0 (H H2 : Hp) (p : Addr) (w : Int) (qm ql : Addr) (mays lf : List Int) (N : Int) : Prop where
 hp : H2 p = some (.lst [.int N])
 hN : 0 ≤ N
 hm : H2 qm = some (.tup (mays.map V.int))
 rm : Ris w mays
 hl : H2 ql = some (.lst (lf.map V.int))
 rl : Ris w lf
 ne : ql ≠ p
 kp : Keep H H2 p
theorem St0.step {H H2 H3 : Hp} {p : Addr} {w : Int} {qm ql : Addr} {mays lf : List Int} {N N' : Int} (S : St0 H H2 p w qm ql mays lf N) (k : Keep H2 H3 p) (hp : H3 p = some (.lst [.int N'])) (hN : 0 ≤ N') : St0 H H3 p w qm ql mays lf N' :=
 ⟨hp, hN, k qm _ S.hm (ne_of S.hm S.hp (by intro z; cases z)), S.rm, k ql _ S.hl S.ne, S.rl, S.ne, S.kp.trans k⟩
theorem cut_ris {w : Int} {lf : List Int} (h : Ris w lf) (lo hi : Option Int) : ∃ l', cutV (lf.map V.int) lo hi = l'.map V.int ∧ Ris w l' := by
 refine ⟨(lf.drop (HT.sIx lf.length 0 lo)).take (HT.sIx lf.length lf.length hi - HT.sIx lf.length 0 lo), ?_, (h.drop _).take _⟩
 unfold cutV
 rw [List.length_map, List.map_take, List.map_drop]
section
variable {P : Program} {w : World} {K : W.Frag} {mg : Str → Option Value} {base : Heap}
variable {f fT fL : Addr} {fdT fdL : FuncData} {cdv : Value} {A : Around} {outer : List Env} {s : Shared} {H0 : Hp} {E : XK}
theorem boxI_read (T : Txt mg) (CT : Can P w K mg base "_law_take" 1 fT fdT ["pot", "wide"] jQ) (CL : Can P w K mg base "_law_lot" 2 fL fdL ["pot", "wide"] xI) (hr : Room 2 (XBox P w K mg base f cdv A outer s H0 E).A)
   {D : Ends} {H H5 : Hp} {p qm ql qp qt : Addr} {mt mp w N far : Int} {mays lf ts : List Int} {vs : List V} {pcs : List (List Int × Int)} {v8 v9 : Option V}
   (S : St0 H H5 p w qm ql mays lf N) (hqp : H5 qp = some (.lst vs)) (hv : PcsAt H5 vs pcs) (hg : ∀ pc ∈ pcs, GoodPc w pc) (hqt : H5 qt = some (.tup (ts.map V.int))) (lt : Lot w ts) (hf : far = 1 ∨ far = 10 ∨ far = 2000000000001) (hn : pcs.length ≤ 100) (hH : H qp = none) (hne : ql ≠ qp) (hpp : p ≠ qp)
   (nx : ∀ H6 N' vs' pcs', St0 H H6 p w qm ql mays lf N' → H6 qp = some (.lst vs') → PcsAt H6 vs' pcs' → (∀ pc ∈ pcs', GoodPc w pc) → pcs'.length = pcs.length + 1 → D.nx [some (.ref p), some (.int mt), some (.int mp), some (.int w), some (.ref qm), some (.ref ql), some (.int far), some (.ref qp), v8, v9, some (.ref qt)] H6) :
   (boxI T CT CL hr).1 D [some (.ref p), some (.int mt), some (.int mp), some (.int w), some (.ref qm), some (.ref ql), some (.int far), some (.ref qp), v8, v9, some (.ref qt)] H5 := by
 have hlen := hv.len
 have h64 : (0 : Int) < far ∧ far < 2 ^ 64 := by rcases hf with e | e | e <;> subst e <;> decide
 refine ⟨_, rfl, .inl ⟨rfl, _, SqL.of hqp⟩, _, rfl, _, rfl, qp, vs, rfl, .inl (SqL.of hqp), _, _, rfl, rfl, p, N, _, rfl, S.hp, S.hN, by omega, by omega, fun N1 i a1 a2 a3 => ?_⟩
 refine ⟨_, rfl, _, rfl, _, rfl, p, N1, far, rfl, j4, a1, h64.1, h64.2, fun N2 r b1 b2 b3 => ?_⟩
 rw [upd_upd]
 refine ⟨_, rfl, _, _, rfl, rfl, ⟨by decide, by decide⟩, _, _, rfl, rfl, (by show 2 ≤ sizeLine; decide), fun tq htq => ?_⟩
 obtain ⟨t1, t2⟩ := yK htq
 have ht : tq ≠ qp := fun e => by subst e; rw [hqp] at t2; cases t2
 refine ⟨qp, vs, i, _, rfl, rfl, by rw [jD ht.symm, jD hpp.symm]; exact hqp, a2, by omega, by rw [PySem.sizeLine_eq]; omega, ?_⟩
 have T1 : Tups H5 (upd (upd H5 p (.lst [.int N2])) tq (.tup [.ref qt, .int (r - far / 2)])) := (Tups.upd S.hp _).trans (Tups.new htq _)
 have k1 : Keep H5 (upd (upd H5 p (.lst [.int N2])) tq (.tup [.ref qt, .int (r - far / 2)])) p := ((Keep.refl _ _).upd _).new htq _
 have S1 := S.step k1 (by rw [jD t1.symm]; exact j4) b1
 have hq1 : (upd (upd H5 p (.lst [.int N2])) tq (.tup [.ref qt, .int (r - far / 2)])) qp = some (.lst vs) := by rw [jD ht.symm, jD hpp.symm]; exact hqp
 have T2 := T1.trans (Tups.upd hq1 (.lst (vs.take i.toNat ++ V.ref tq :: vs.drop i.toNat)))
 have pc : PcAt (upd (upd H5 p (.lst [.int N2])) tq (.tup [.ref qt, .int (r - far / 2)])) (.ref tq) (ts, r - far / 2) := ⟨tq, qt, rfl, j4, T1 _ _ hqt⟩
 refine nx _ N2 _ (pcs.take i.toNat ++ (ts, r - far / 2) :: pcs.drop i.toNat) ⟨?_, b1, ?_, S.rm, ?_, S.rl, S.ne, S1.kp.updNew hH _⟩ j4 ?_ ?_ ?_
 · rw [jD hpp]; exact S1.hp
 · exact (Tups.upd hq1 _) _ _ S1.hm
 · rw [jD hne]; exact S1.hl
 · exact PcsAt.put (pc.mono (Tups.upd hq1 _)) _ (hv.mono T2)
 · intro c hc
   rcases List.mem_append.mp hc with h | h
   · exact hg c (List.mem_of_mem_take h)
   · rcases List.mem_cons.mp h with h | h
     · subst h
       refine ⟨lt, ?_, ?_⟩
       · show -1000000000000 ≤ r - far / 2
         rcases hf with e | e | e <;> subst e <;> omega
       · show r - far / 2 ≤ 1000000000000
         rcases hf with e | e | e <;> subst e <;> omega
     · exact hg c (List.mem_of_mem_drop h)
 · rw [List.length_append, List.length_cons, List.length_take, List.length_drop]
   omega
end
end Eo
end
section
namespace Eo
open PySem L2
section
variable {P : Program} {w : World} {K : W.Frag} {mg : Str → Option Value} {base : Heap}
variable {f fT fL : Addr} {fdT fdL : FuncData} {cdv : Value} {A : Around} {outer : List Env} {s : Shared} {H0 : Hp} {E : XK}
theorem boxL_read (T : Txt mg) (CT : Can P w K mg base "_law_take" 1 fT fdT ["pot", "wide"] jQ) (CL : Can P w K mg base "_law_lot" 2 fL fdL ["pot", "wide"] xI) (hr : Room 2 (XBox P w K mg base f cdv A outer s H0 E).A)
   {D : Ends} {H H5 : Hp} {p qm ql qp : Addr} {mt mp w N far : Int} {mays lf : List Int} {vs : List V} {pcs : List (List Int × Int)} {v8 v9 v10 : Option V}
   (S : St0 H H5 p w qm ql mays lf N) (hqp : H5 qp = some (.lst vs)) (hv : PcsAt H5 vs pcs) (hg : ∀ pc ∈ pcs, GoodPc w pc) (hf : far = 1 ∨ far = 10 ∨ far = 2000000000001) (hn : pcs.length ≤ 100) (hH : H qp = none) (hpp : p ≠ qp) (w1 : 1 ≤ w) (w2 : w ≤ 16)
   (nx : ∀ H6 N' vs' pcs' ql' lf' v9' v10', St0 H H6 p w qm ql' mays lf' N' → ql' ≠ qp → H6 qp = some (.lst vs') → PcsAt H6 vs' pcs' → (∀ pc ∈ pcs', GoodPc w pc) → pcs'.length = pcs.length + 1 → D.nx [some (.ref p), some (.int mt), some (.int mp), some (.int w), some (.ref qm), some (.ref ql'), some (.int far), some (.ref qp), v8, v9', v10'] H6) :
   (boxL T CT CL hr).1 D [some (.ref p), some (.int mt), some (.int mp), some (.int w), some (.ref qm), some (.ref ql), some (.int far), some (.ref qp), v8, v9, v10] H5 := by
 refine ⟨_, rfl, p, N, 3, rfl, S.hp, S.hN, by decide, by decide, fun N1 r1 a1 a2 a3 => ⟨_, _, rfl, rfl, ?_⟩⟩
 have S1 := S.step ((Keep.refl _ _).upd (.lst [.int N1])) j4 a1
 have hq1 : (upd H5 p (.lst [.int N1])) qp = some (.lst vs) := by rw [jD hpp.symm]; exact hqp
 have hv1 := hv.mono (Tups.upd S.hp (.lst [.int N1]))
 generalize upd H5 p (.lst [.int N1]) = H6 at S1 hq1 hv1 ⊢
 clear S hqp hv
 obtain ⟨l1, e1, g1⟩ := cut_ris S1.rl none (some (1 + r1))
 obtain ⟨l2, e2, g2⟩ := cut_ris S1.rl (some (1 + r1)) none
 refine ⟨_, rfl, _, rfl, 1 + r1, rfl, ql, _, rfl, SqL.of S1.hl, fun x hx => ⟨x, _, rfl, .inl ⟨SqL.of j4, fun qt hqt => ?_⟩⟩⟩
 rw [e1] at hqt ⊢
 have k1 : Keep H6 (upd (upd H6 x (.lst (l1.map V.int))) qt (.tup (l1.map V.int))) p := ((Keep.refl _ _).new hx _).new hqt _
 obtain ⟨t1, t2⟩ := yK hqt
 have px : p ≠ x := jC S1.hp hx
 have pt : p ≠ qt := jC S1.hp t2
 have qx : qp ≠ x := jC hq1 hx
 have qq : qp ≠ qt := jC hq1 t2
 have S2 := S1.step k1 (by rw [jD pt, jD px]; exact S1.hp) S1.hN
 have hq2 : (upd (upd H6 x (.lst (l1.map V.int))) qt (.tup (l1.map V.int))) qp = some (.lst vs) := by rw [jD qq, jD qx]; exact hq1
 have hv2 := hv1.mono (k1.tups S1.hp)
 have ht2 : (upd (upd H6 x (.lst (l1.map V.int))) qt (.tup (l1.map V.int))) qt = some (.tup (l1.map V.int)) := j4
 generalize upd (upd H6 x (.lst (l1.map V.int))) qt (.tup (l1.map V.int)) = H7 at S2 hq2 hv2 ht2 ⊢
 clear k1 hqt t2 hx S1 hq1 hv1
 refine ⟨_, rfl, _, rfl, 1 + r1, rfl, ql, _, rfl, SqL.of S2.hl, fun ql' hql => ?_⟩
 rw [e2]
 have pl : p ≠ ql' := jC S2.hp hql
 have k2 : Keep H7 (upd H7 ql' (.lst (l2.map V.int))) p := (Keep.refl _ _).new hql _
 have S3' := S2.step k2 (by rw [jD pl]; exact S2.hp) S2.hN
 have S3 : St0 H (upd H7 ql' (.lst (l2.map V.int))) p w qm ql' mays l2 N1 := ⟨S3'.hp, S3'.hN, S3'.hm, S3'.rm, j4, g2, pl.symm, S3'.kp⟩
 have hne : qp ≠ ql' := jC hq2 hql
 have hq3 : (upd H7 ql' (.lst (l2.map V.int))) qp = some (.lst vs) := by rw [jD hne]; exact hq2
 have hv3 := hv2.mono (k2.tups S2.hp)
 have ht3 := k2.tups S2.hp _ _ ht2
 generalize upd H7 ql' (.lst (l2.map V.int)) = H8 at S3 hq3 hv3 ht3 ⊢
 clear k2 S3' S2 hq2 hv2 ht2 hql
 refine ⟨_, rfl, (by show 0 ≤ sizeLine; exact Nat.zero_le _), fun z hz => ⟨qt, z, l1.map V.int, rfl, rfl, SqT.of ?_, SqT.of j4, _, rfl, ?_⟩⟩
 · rw [jD (jC ht3 hz)]; exact ht3
 have pz : p ≠ z := jC S3.hp hz
 have qz : qp ≠ z := jC hq3 hz
 have k3 : Keep H8 (upd H8 z (.tup [])) p := (Keep.refl _ _).new hz _
 have S4 := S3.step k3 (by rw [jD pz]; exact S3.hp) S3.hN
 have hq4 : (upd H8 z (.tup [])) qp = some (.lst vs) := by rw [jD qz]; exact hq3
 have hv4 := hv3.mono (k3.tups S3.hp)
 have ht4 := k3.tups S3.hp _ _ ht3
 generalize upd H8 z (.tup []) = H9 at S4 hq4 hv4 ht4 ⊢
 clear k3 S3 hq3 hv3 ht3 hz pz qz
 refine ite2 (fun hy => ?_) (fun hy => ?_)
 · refine ⟨_, rfl, _, rfl, p, N1, w, rfl, S4.hp, S4.hN, w1, w2, fun q N2 ts H' b1 lt b2 b3 b4 => ?_⟩
   exact boxI_read T CT CL hr (S4.step b4 b3 b1) (b4 _ _ hq4 hpp.symm) (hv4.mono (b4.tups S4.hp)) hg b2 lt hf hn hH hne.symm hpp fun H6 N' vs' pcs' z1 z2 z3 z4 z5 => nx H6 N' vs' pcs' ql' l2 _ _ z1 hne.symm z2 z3 z4 z5
 · have nl : l1 ≠ [] := fun e => hy (decide_eq_true (by rw [e]; rfl))
   exact boxI_read T CT CL hr S4 hq4 hv4 hg ht4 ⟨g1.ris, g1.bnd, nl⟩ hf hn hH hne.symm hpp fun H6 N' vs' pcs' z1 z2 z3 z4 z5 => nx H6 N' vs' pcs' ql' l2 _ _ z1 hne.symm z2 z3 z4 z5
end
end Eo
end
section
namespace Eo
open PySem L2
section
variable {P : Program} {w : World} {K : W.Frag} {mg : Str → Option Value} {base : Heap}
variable {f fT fL : Addr} {fdT fdL : FuncData} {cdv : Value} {A : Around} {outer : List Env} {s : Shared} {H0 : Hp} {E : XK}
def Told (H : Hp) (p : Addr) (mt mp : Int) (R : VK) : Prop := ∀ (b : Addr) (N' w : Int) (mays : List Int) (pcs : List (List Int × Int)) (H' : Hp), 0 ≤ N' → H' p = some (.lst [.int N']) → BoxAt H' b w mays pcs → Good mt mp w mays pcs → Keep H H' p → R (.ref b) H'
theorem boxC_read (T : Txt mg) (CT : Can P w K mg base "_law_take" 1 fT fdT ["pot", "wide"] jQ) (CL : Can P w K mg base "_law_lot" 2 fL fdL ["pot", "wide"] xI) (hr : Room 2 (XBox P w K mg base f cdv A outer s H0 E).A)
   {D : Ends} {H H5 : Hp} {p qm ql : Addr} {mt mp w N : Int} {mays lf : List Int} {v6 v7 v8 v9 v10 : Option V}
   (S : St0 H H5 p w qm ql mays lf N) (hpH : ∃ o, H p = some o) (w0 : 0 ≤ w) (w1 : w ≤ mt) (w2 : mt ≤ 16) (n0 : 0 ≤ mp) (n1 : mp ≤ 32) (q : Told H p mt mp D.rt) :
   (boxC T CT CL hr).1 D [some (.ref p), some (.int mt), some (.int mp), some (.int w), some (.ref qm), some (.ref ql), v6, v7, v8, v9, v10] H5 := by
 refine ⟨(by show 3 ≤ sizeLine; decide), fun l hl => ?_⟩
 have pl : p ≠ l := jC S.hp hl
 refine ⟨_, rfl, p, N, 3, rfl, by rw [jD pl]; exact S.hp, S.hN, by decide, by decide, fun N1 r a1 a2 a3 => ?_⟩
 obtain ⟨far, hfar, hf⟩ : ∃ far : Int, atI [V.int 1, V.int 10, V.int 2000000000001] r = some (.int far) ∧ (far = 1 ∨ far = 10 ∨ far = 2000000000001) := by
   rcases (show r = 0 ∨ r = 1 ∨ r = 2 by omega) with e | e | e
   · subst e; exact ⟨_, rfl, .inl rfl⟩
   · subst e; exact ⟨_, rfl, .inr (.inl rfl)⟩
   · subst e; exact ⟨_, rfl, .inr (.inr rfl)⟩
 refine ⟨l, _, r, _, rfl, rfl, SqL.of (by rw [jD pl.symm]; exact j4), hfar, ?_⟩
 have S1 := S.step ((((Keep.refl _ _).new hl (.lst [V.int 1, V.int 10, V.int 2000000000001])).upd (.lst [.int N1]))) j4 a1
 generalize upd (upd H5 l (.lst [V.int 1, V.int 10, V.int 2000000000001])) p (.lst [.int N1]) = H6 at S1 ⊢
 clear hl S
 refine ⟨(by show 0 ≤ sizeLine; exact Nat.zero_le _), fun qp hqp => ?_⟩
 have pq : p ≠ qp := jC S1.hp hqp
 have hHq : H qp = none := by
   cases e : H qp with
   | none => rfl
   | some o =>
     have := S1.kp _ _ e pq.symm
     rw [hqp] at this
     cases this
 have lq : ql ≠ qp := jC S1.hl hqp
 have S2 := S1.step ((Keep.refl _ _).new hqp (.lst [])) (by rw [jD pq]; exact S1.hp) S1.hN
 have hq2 : (upd H6 qp (.lst [])) qp = some (.lst []) := j4
 generalize upd H6 qp (.lst []) = H7 at S2 hq2 ⊢
 clear hqp S1
 refine ⟨_, rfl, _, rfl, _, _, rfl, rfl, p, N1, _, rfl, S2.hp, S2.hN, by omega, by omega, fun N2 n b1 b2 b3 => ?_⟩
 refine ⟨_, rfl, _, _, rfl, rfl, .inr ⟨_, rfl, _, _, rfl, rfl, .inl ⟨by omega, by omega⟩, _, rfl, ?_⟩⟩
 have S3 := S2.step ((Keep.refl _ _).upd (.lst [.int N2])) j4 b1
 have hq3 : (upd H7 p (.lst [.int N2])) qp = some (.lst []) := by rw [jD pq.symm]; exact hq2
 generalize upd H7 p (.lst [.int N2]) = H8 at S3 hq3 ⊢
 clear S2 hq2
 obtain ⟨m, em, hm, hw⟩ : ∃ m : Int, n * (if decide (0 < w) = true then 1 else 0) = m ∧ (0 ≤ m ∧ m ≤ mp) ∧ (0 < m → 1 ≤ w) := by
   by_cases h : 0 < w
   · exact ⟨n, by simp [h], ⟨b2, by omega⟩, fun _ => h⟩
   · exact ⟨0, by simp [h], ⟨by omega, n0⟩, fun z => by omega⟩
 show _ ∧ _ ∧ _
 rw [show (n * (if decide (0 < w) = true then 1 else 0)) = m from em]
 refine ⟨by omega, by omega, for_range (n := m.toNat) (fun i σ H5 => ∃ ql' lf' N' vs pcs v8 v9 v10, σ = [some (.ref p), some (.int mt), some (.int mp), some (.int w), some (.ref qm), some (.ref ql'), some (.int far), some (.ref qp), v8, v9, v10] ∧ St0 H H5 p w qm ql' mays lf' N' ∧ ql' ≠ qp ∧ H5 qp = some (.lst vs) ∧ PcsAt H5 vs pcs ∧ (∀ pc ∈ pcs, GoodPc w pc) ∧ pcs.length = i) ?_ ?_ ?_⟩
 · exact ⟨ql, lf, N2, [], [], _, _, _, rfl, S3, lq, hq3, trivial, (fun _ h => by cases h), rfl⟩
 · rintro i σ H9 hi ⟨ql', lf', N', vs, pcs, x8, x9, x10, rfl, S4, l4, hq4, hv4, hg4, e4⟩
   exact boxL_read T CT CL hr S4 hq4 hv4 hg4 hf (by omega) hHq pq (hw (by omega)) (by omega) fun H6 N' vs' pcs' ql' lf' v9' v10' z1 z2 z3 z4 z5 z6 => ⟨ql', lf', N', vs', pcs', _, _, _, rfl, z1, z2, z3, z4, z5, by omega⟩
 · rintro σ H9 ⟨ql', lf', N', vs, pcs, x8, x9, x10, rfl, S4, l4, hq4, hv4, hg4, e4⟩
   refine ⟨_, rfl, _, rfl, _, rfl, qp, vs, rfl, .inl ⟨SqL.of hq4, fun tq htq => ⟨(by show 3 ≤ sizeLine; decide), fun b hb => ?_⟩⟩⟩
   have k1 : Keep H9 (upd H9 tq (.tup vs)) p := (Keep.refl _ _).new htq _
   have k2 : Keep H9 (upd (upd H9 tq (.tup vs)) b (.tup [.int w, .ref qm, .ref tq])) p := k1.new hb _
   have tb := jC j4 hb
   have S5 := S4.step k2 (by rw [jD (yK hb |>.2 |> fun h => jC S4.hp h), jD (jC S4.hp htq)]; exact S4.hp) S4.hN
   exact q b N' w mays pcs _ S4.hN S5.hp ⟨qm, tq, vs, j4, S5.hm, by rw [jD tb]; exact j4, hv4.mono (k2.tups S4.hp)⟩ ⟨w0, w1, S4.rm, by omega, hg4⟩ S5.kp
end
end Eo
end
section
namespace Eo
open PySem L2
section
variable {P : Program} {w : World} {K : W.Frag} {mg : Str → Option Value} {base : Heap}
section
variable {f fT fL : Addr} {fdT fdL : FuncData} {cdv : Value} {A : Around} {outer : List Env} {s : Shared} {H0 : Hp} {E : XK}
theorem boxB_read (T : Txt mg) (CT : Can P w K mg base "_law_take" 1 fT fdT ["pot", "wide"] jQ) (CL : Can P w K mg base "_law_lot" 2 fL fdL ["pot", "wide"] xI) (hr : Room 2 (XBox P w K mg base f cdv A outer s H0 E).A)
   {D : Ends} {H H5 : Hp} {p qm : Addr} {mt mp w N : Int} {mays : List Int} {v5 v6 v7 v8 v9 v10 : Option V}
   (hp : H5 p = some (.lst [.int N])) (hN : 0 ≤ N) (hm : H5 qm = some (.tup (mays.map V.int))) (rm : Ris w mays) (kp : Keep H H5 p) (hpH : ∃ o, H p = some o) (w0 : 0 ≤ w) (w1 : w ≤ mt) (w2 : mt ≤ 16) (n0 : 0 ≤ mp) (n1 : mp ≤ 32) (q : Told H p mt mp D.rt) :
   (boxB T CT CL hr).1 D [some (.ref p), some (.int mt), some (.int mp), some (.int w), some (.ref qm), v5, v6, v7, v8, v9, v10] H5 := by
 refine ⟨_, rfl, w, rfl, fun x hx => ⟨x, w, rfl, j4, w0, by omega, fun ql hql => ?_⟩⟩
 rw [intsTo_eq]
 have px : p ≠ x := jC hp hx
 have pl : p ≠ ql := jC hp (yK hql).2
 have k1 : Keep H5 (upd (upd H5 x (.rng 0 w)) ql (.lst ((upto w.toNat).map V.int))) p := ((Keep.refl _ _).new hx _).new hql _
 have e : ((w.toNat : Nat) : Int) = w := by omega
 have rl : Ris w (upto w.toNat) := by
   have := upto_ris w.toNat
   rw [e] at this
   exact this
 have S : St0 H (upd (upd H5 x (.rng 0 w)) ql (.lst ((upto w.toNat).map V.int))) p w qm ql mays (upto w.toNat) N :=
   ⟨by rw [jD pl, jD px]; exact hp, hN, k1 qm _ hm (ne_of hm hp (by intro z; cases z)), rm, j4, rl, pl.symm, kp.trans k1⟩
 generalize upd (upd H5 x (.rng 0 w)) ql (.lst ((upto w.toNat).map V.int)) = H6 at S ⊢
 clear k1 hql hx hp hm kp
 refine ⟨_, rfl, p, N, 3, rfl, S.hp, S.hN, by decide, by decide, fun N1 r a1 a2 a3 => ⟨rfl, _, rfl, ?_⟩⟩
 have S1 := S.step ((Keep.refl _ _).upd (.lst [.int N1])) j4 a1
 generalize upd H6 p (.lst [.int N1]) = H7 at S1 ⊢
 clear S
 refine ite2 (fun hy => ?_) (fun hy => ?_)
 · refine ⟨(by show 0 ≤ sizeLine; exact Nat.zero_le _), fun l hl => ?_⟩
   have pl2 : p ≠ l := jC S1.hp hl
   have S2 := S1.step ((Keep.refl _ _).new hl (.lst [])) (by rw [jD pl2]; exact S1.hp) S1.hN
   have S3 : St0 H (upd H7 l (.lst [])) p w qm l mays [] N1 := ⟨S2.hp, S2.hN, S2.hm, S2.rm, j4, Ris.nil w, pl2.symm, S2.kp⟩
   exact boxC_read T CT CL hr S3 hpH w0 w1 w2 n0 n1 q
 · exact boxC_read T CT CL hr S1 hpH w0 w1 w2 n0 n1 q
theorem boxA_read (T : Txt mg) (CT : Can P w K mg base "_law_take" 1 fT fdT ["pot", "wide"] jQ) (CL : Can P w K mg base "_law_lot" 2 fL fdL ["pot", "wide"] xI) (hr : Room 2 (XBox P w K mg base f cdv A outer s H0 E).A)
   {D : Ends} {H : Hp} {p : Addr} {mt mp N : Int}
   (hp : H p = some (.lst [.int N])) (hN : 0 ≤ N) (w0 : 0 ≤ mt) (w2 : mt ≤ 16) (n0 : 0 ≤ mp) (n1 : mp ≤ 32) (q : Told H p mt mp D.rt) :
   (boxA T CT CL hr).1 D [some (.ref p), some (.int mt), some (.int mp), none, none, none, none, none, none, none, none] H := by
 refine ⟨_, rfl, _, rfl, _, _, rfl, rfl, p, N, _, rfl, hp, hN, by omega, by omega, fun N1 w a1 a2 a3 => ?_⟩
 refine ⟨(by show 0 ≤ sizeLine; exact Nat.zero_le _), fun t ht => ?_⟩
 have pt : p ≠ t := (yK ht).1.symm
 refine ⟨_, rfl, p, N1, 3, rfl, by rw [jD pt]; exact j4, a1, by decide, by decide, fun N2 r b1 b2 b3 => ⟨rfl, _, rfl, ?_⟩⟩
 have k1 : Keep H (upd (upd (upd H p (.lst [.int N1])) t (.tup [])) p (.lst [.int N2])) p := (((Keep.refl _ _).upd _).new ht _).upd _
 have hp1 : (upd (upd (upd H p (.lst [.int N1])) t (.tup [])) p (.lst [.int N2])) p = some (.lst [.int N2]) := j4
 have ht1 : (upd (upd (upd H p (.lst [.int N1])) t (.tup [])) p (.lst [.int N2])) t = some (.tup []) := by rw [jD pt.symm]; exact j4
 generalize upd (upd (upd H p (.lst [.int N1])) t (.tup [])) p (.lst [.int N2]) = H1 at k1 hp1 ht1 ⊢
 clear ht
 refine ite2 (fun hy => ?_) (fun hy => ?_)
 · refine ⟨_, rfl, w, rfl, by omega, by omega, comp_rng (n := w.toNat) (by rw [PySem.sizeLine_eq]; omega) (fun D i σ' H' ys => (∃ v, σ' = [v, some (.ref p)]) ∧ (∃ (ms : List Int) (N' : Int), ys = ms.map V.int ∧ ms.length ≤ i ∧ Ris i ms ∧ 0 ≤ N' ∧ H' p = some (.lst [.int N'])) ∧ Keep H1 H' p ∧ H' D = some (.lst ys) ∧ D ≠ p ∧ H1 D = none) ?_ ?_ ?_ ?_⟩
   · intro D hD
     have : p ≠ D := jC hp1 hD
     exact ⟨⟨_, rfl⟩, ⟨[], N2, rfl, Nat.le_refl _, Ris.nil _, b1, by rw [jD this]; exact hp1⟩, (Keep.refl _ _).new hD _, j4, this.symm, hD⟩
   · rintro D i σ' H' ys hD hi ⟨_, ⟨ms, N', rfl, e, _⟩, _, e2, _⟩
     exact ⟨e2, by rw [List.length_map]; exact e⟩
   · rintro D i σ' H' ys hD hi ⟨⟨v, rfl⟩, ⟨ms, N', rfl, e, rs, n', hp'⟩, kk, e2, dp, hn⟩
     refine ⟨_, rfl, p, N', 3, rfl, hp', n', by decide, by decide, fun N3 r3 c1 c2 c3 => ⟨rfl, _, rfl, ?_⟩⟩
     have k2 : Keep H1 (upd H' p (.lst [.int N3])) p := kk.upd _
     have e3 : (upd H' p (.lst [.int N3])) D = some (.lst (ms.map V.int)) := by rw [jD dp]; exact e2
     have hp3 : (upd H' p (.lst [.int N3])) p = some (.lst [.int N3]) := j4
     generalize upd H' p (.lst [.int N3]) = H'' at k2 e3 hp3 ⊢
     refine ite2 (fun hz => ?_) (fun hz => ?_)
     · refine ⟨_, rfl, e3, ⟨_, rfl⟩, ⟨ms ++ [(i : Int)], N3, ?_, ?_, rs.snoc, c1, by rw [jD dp.symm]; exact hp3⟩, k2.updNew hn _, j4, dp, hn⟩
       · rw [List.map_append]
         show _ ++ [V.int (0 + (i : Int))] = _ ++ [V.int (i : Int)]
         rw [Int.zero_add]
       · rw [List.length_append]
         show ms.length + 1 ≤ i + 1
         omega
     · exact ⟨⟨_, rfl⟩, ⟨ms, N3, rfl, by omega, rs.step, c1, hp3⟩, k2, e3, dp, hn⟩
   · rintro D σ' H' ys hD ⟨_, ⟨ms, N', rfl, e, rs, n', hp'⟩, kk, e2, dp, hn⟩
     refine ⟨D, _, rfl, .inl ⟨SqL.of e2, fun qm hqm => ?_⟩⟩
     have pm : p ≠ qm := jC hp' hqm
     have e' : ((w.toNat : Nat) : Int) = w := by omega
     rw [e'] at rs
     exact boxB_read T CT CL hr (by rw [jD pm]; exact hp') n' j4 rs ((k1.trans kk).new hqm _) ⟨_, hp⟩ a2 (by omega) w2 n0 n1 q
 · exact boxB_read T CT CL hr hp1 b1 (mays := []) ht1 (Ris.nil w) k1 ⟨_, hp⟩ a2 (by omega) w2 n0 n1 q
end
theorem ok_box {f fT fL : Addr} {fd fdT fdL : FuncData} (F : Fun K "_law_box" "_law_box" sBox f fd) (T : Txt mg) (CT : Can P w K mg base "_law_take" 1 fT fdT ["pot", "wide"] jQ) (CL : Can P w K mg base "_law_lot" 2 fL fdL ["pot", "wide"] xI) :
   FnOk P w K mg base CX0 3 f fd ["pot", "most_things", "most_pieces"] spBox := by
 refine F.ok scBox (fun vs H Q E h => ?_) (fun cdv A outer s H vs Q E hr h => ?_)
 · obtain ⟨_, _, _, _, rfl, _⟩ := h
   rfl
 · obtain ⟨p, N, mt, mp, rfl, hp, hN, m0, m1, n0, n1, q⟩ := h
   exact ⟨_, (boxA T CT CL hr).2.h, boxA_read T CT CL hr hp hN m0 m1 n0 n1 q⟩
end
end Eo
end
section
namespace Eo
open PySem L2
inductive Ob where
 | int (i : Int)
 | oth
 | tup (os : List Ob)
def OthAt (H : Hp) (v : V) : Prop := v = .non ∨ (∃ b, v = .bl b) ∨ (∃ x, v = .str x) ∨ ∃ a, v = .ref a ∧ ((∃ xs, H a = some (.lst xs)) ∨ ∃ kvs, H a = some (.dK kvs))
mutual
def At (H : Hp) : Ob → V → Prop
 | .int i, v => v = .int i
 | .oth, v => OthAt H v
 | .tup os, v => ∃ a vs, v = .ref a ∧ H a = some (.tup vs) ∧ vs.length ≤ 100 ∧ Ats H os vs
def Ats (H : Hp) : List Ob → List V → Prop
 | [], vs => vs = []
 | o :: os, vs => ∃ v r, vs = v :: r ∧ At H o v ∧ Ats H os r
end
structure Kp (H H' : Hp) : Prop where
 t : Tups H H'
 l : ∀ a xs, H a = some (.lst xs) → ∃ ys, H' a = some (.lst ys)
 d : ∀ a xs, H a = some (.dK xs) → ∃ ys, H' a = some (.dK ys)
theorem Kp.of {H H' : Hp} (e : Ext H H') : Kp H H' := ⟨fun b xs h => e b _ h, fun a xs h => ⟨xs, e a _ h⟩, fun a xs h => ⟨xs, e a _ h⟩⟩
theorem Kp.keep {H H' : Hp} {p : Addr} {xs ys : List V} (k : Keep H H' p) (hp : H p = some (.lst xs)) (hp' : H' p = some (.lst ys)) : Kp H H' := by
 refine ⟨k.tups hp, fun a zs h => ?_, fun a zs h => ⟨zs, k a _ h (ne_of h hp (by intro z; cases z))⟩⟩
 by_cases e : a = p
 · subst e
   exact ⟨ys, hp'⟩
 · exact ⟨zs, k a _ h e⟩
theorem OthAt.mono {H H' : Hp} (k : Kp H H') {v : V} (h : OthAt H v) : OthAt H' v := by
 rcases h with h | h | h | ⟨a, rfl, ⟨xs, h⟩ | ⟨xs, h⟩⟩
 · exact .inl h
 · exact .inr (.inl h)
 · exact .inr (.inr (.inl h))
 · exact .inr (.inr (.inr ⟨a, rfl, .inl (k.l _ _ h)⟩))
 · exact .inr (.inr (.inr ⟨a, rfl, .inr (k.d _ _ h)⟩))
mutual
theorem At.mono {H H' : Hp} (k : Kp H H') : ∀ (o : Ob) (v : V), At H o v → At H' o v
 | .int _, _, h => h
 | .oth, _, h => OthAt.mono k h
 | .tup os, _, ⟨a, vs, e, h, n, r⟩ => ⟨a, vs, e, k.t _ _ h, n, Ats.mono k os vs r⟩
theorem Ats.mono {H H' : Hp} (k : Kp H H') : ∀ (os : List Ob) (vs : List V), Ats H os vs → Ats H' os vs
 | [], _, h => h
 | o :: os, _, ⟨v, r, e, h, t⟩ => ⟨v, r, e, At.mono k o v h, Ats.mono k os r t⟩
end
theorem At.ext {H H' : Hp} (e : Ext H H') {o : Ob} {v : V} (h : At H o v) : At H' o v := At.mono (.of e) o v h
theorem Ats.len {H : Hp} : ∀ {os : List Ob} {vs : List V}, Ats H os vs → vs.length = os.length
 | [], _, h => by cases (show _ = [] from h); rfl
 | o :: os, _, ⟨v, r, e, h, t⟩ => by rw [e, List.length_cons, List.length_cons, Ats.len t]
theorem Ats.get {H : Hp} : ∀ {os : List Ob} {vs : List V}, Ats H os vs → ∀ {i : Nat} {v : V}, vs[i]? = some v → ∃ o, os[i]? = some o ∧ At H o v
 | [], _, h, i, v, e => by cases (show _ = [] from h); cases e
 | o :: os, _, ⟨v, r, e, h, t⟩, 0, v', e' => by subst e; cases e'; exact ⟨o, rfl, h⟩
 | o :: os, _, ⟨v, r, e, h, t⟩, i + 1, v', e' => by subst e; exact Ats.get t (i := i) e'
theorem Ats.append {H : Hp} : ∀ {os : List Ob} {vs : List V} {os2 : List Ob} {vs2 : List V}, Ats H os vs → Ats H os2 vs2 → Ats H (os ++ os2) (vs ++ vs2)
 | [], _, _, _, h, h2 => by cases (show _ = [] from h); exact h2
 | o :: os, _, _, _, ⟨v, r, e, h, t⟩, h2 => by subst e; exact ⟨v, _, rfl, h, Ats.append t h2⟩
theorem Ats.rep {H : Hp} {os : List Ob} {vs : List V} (h : Ats H os vs) : ∀ k : Nat, Ats H (List.replicate k os).flatten (List.replicate k vs).flatten
 | 0 => rfl
 | k + 1 => by
   rw [List.replicate_succ, List.replicate_succ, List.flatten_cons, List.flatten_cons]
   exact h.append (Ats.rep h k)
def isInt : Ob → Bool
 | .int _ => true
 | _ => false
def isTup : Ob → Bool
 | .tup _ => true
 | _ => false
theorem all_bl (l : List Ob) (F : Ob → Bool) : (l.map F).all id = l.all F := by
 rw [List.all_map]
 rfl
end Eo
end
section
namespace Eo
open PySem L2
theorem At.ty (K : W.Frag) {H : Hp} {o : Ob} {v : V} (h : At H o v) : ∃ t, TyOf K H v t ∧ PySem.W.kitOne K t (.type "tuple") = some (isTup o) ∧ ∃ b1 b2, PySem.W.kitOne K t (.type "int") = some b1 ∧ PySem.W.kitOne K t (.type "bool") = some b2 ∧ (b1 && !b2) = isInt o := by
 cases o with
 | int i =>
   cases (show v = .int i from h)
   exact ⟨_, .int i, rfl, true, false, rfl, rfl, rfl⟩
 | oth =>
   rcases (show OthAt H v from h) with rfl | ⟨b, rfl⟩ | ⟨x, rfl⟩ | ⟨a, rfl, ⟨xs, e⟩ | ⟨xs, e⟩⟩
   · exact ⟨_, .non, rfl, false, false, rfl, rfl, rfl⟩
   · exact ⟨_, .bl b, rfl, true, true, rfl, rfl, rfl⟩
   · exact ⟨_, .str x, rfl, false, false, rfl, rfl, rfl⟩
   · exact ⟨_, .lst e, rfl, false, false, rfl, rfl, rfl⟩
   · exact ⟨_, .dK e, rfl, false, false, rfl, rfl, rfl⟩
 | tup os =>
   obtain ⟨a, vs, rfl, e, _⟩ := h
   exact ⟨_, .tup e, rfl, false, false, rfl, rfl, rfl⟩
theorem At.tupOf {H : Hp} {o : Ob} {v : V} (h : At H o v) (t : isTup o = true) : ∃ os a vs, o = .tup os ∧ v = .ref a ∧ H a = some (.tup vs) ∧ vs.length ≤ 100 ∧ Ats H os vs := by
 cases o with
 | int i => cases t
 | oth => cases t
 | tup os =>
   obtain ⟨a, vs, e1, e2, e4, e3⟩ := h
   exact ⟨os, a, vs, rfl, e1, e2, e4, e3⟩
theorem comp_tupB {K : W.Frag} {m : List (Option Nat)} {g : TG} {tt : TT} {te : TE} {σ : St} {H1 : Hp} {Q : VK} {a : Addr} {xs : List V} {os : List Ob} {F : Ob → Bool} (ha : H1 a = some (.tup xs)) (hx : Ats H1 os xs) (hn : xs.length < sizeLine) (σP : St → Prop) (h0 : σP (blkσ m σ))
   (step : ∀ (σ' : St) (H' : Hp) (v : V) (o : Ob) (R : St → V → Hp → Prop) (S : St → Hp → Prop), σP σ' → Ext H1 H' → At H' o v → (∀ σ2 H'', σP σ2 → Ext H' H'' → R σ2 (.bl (F o)) H'') → g v σ' H' fun σ2 H2 => tt σ2 H2 fun b H3 => if b = true then te σ2 H3 (R σ2) else S σ2 H3)
   (hd : ∀ D H', Ext H1 H' → H' D = some (.lst ((os.map F).map V.bl)) → Q (.ref D) H') : CompW m g tt te σ Q (Itt K a) H1 := by
 have hl := hx.len
 refine comp_tup (xs := xs) hn (fun D i σ' H' zs => σP σ' ∧ Ext H1 H' ∧ H' D = some (.lst zs) ∧ H1 D = none ∧ zs = ((os.take i).map F).map V.bl) ?_ ?_ ?_ ?_
 · intro D hD
   exact ⟨h0, (Ext.refl _).new hD _, j4, hD, rfl⟩
 · rintro D i σ' H' zs hD ⟨_, e, h2, _, rfl⟩
   refine ⟨e _ _ ha, h2, ?_⟩
   rw [List.length_map, List.length_map, List.length_take]
   omega
 · rintro D i σ' H' zs x hD hi ⟨p, e, h2, hn, rfl⟩
   obtain ⟨o, ho, hAt⟩ := hx.get hi
   refine step σ' H' x o _ _ p e (hAt.ext e) fun σ2 H'' p2 e2 => ⟨e2 _ _ h2, p2, (e.trans e2).updNew hn _, j4, hn, ?_⟩
   have : os.take (i + 1) = os.take i ++ [o] := by
     rw [List.take_add_one, ho]
     rfl
   rw [this, List.map_append, List.map_append]
   rfl
 · rintro D σ' H' zs hD ⟨_, e, h2, _, rfl⟩
   rw [hl, List.take_length] at h2
   exact hd D H' e h2
section
variable {P : Program} {w : World} {K : W.Frag} {mg : Str → Option Value} {base : Heap}
abbrev XOf (N : List Str) (q : Str) (st : Stmt) (P : Program) (w : World) (K : W.Frag) (mg : Str → Option Value) (base : Heap) (f : Addr) (cdv : Value) (A : Around) (outer : List Env) (s : Shared) (H : Hp) (E : XK) : Cx := (cxOf CX0 P w K mg base N q (j6 st) f cdv A outer s H E).nox
variable {f fW fR : Addr} {fdW fdR : FuncData} {cdv : Value} {A : Around} {outer : List Env} {s : Shared} {H0 : Hp} {E : XK}
abbrev nWhole0 : List Str := ["thing"]
theorem scWhole0 : FnScope nWhole0 ["thing"] (j6 sWhole0) := ⟨rfl, rfl, rfl, by decide +kernel, rfl, by decide +kernel, by decide +kernel⟩
def spWh : Sp := fun vs H Q _ => ∃ v o, vs = [v] ∧ At H o v ∧ Q (.bl (isInt o)) H
def whole0A (T : Txt mg) : { t : TS // JSs (XOf nWhole0 "is_whole" sWhole0 P w K mg base f cdv A outer s H0 E) (j8 sWhole0) t } :=
 have nd := scWhole0.nd
 ⟨_, (j9 (jI ((je_and (jG jY gD T.isinstance (by decide +kernel) (j0 (jv 0 rfl vL) (j0 (yM (v := .ty "int") gD T.int (by decide +kernel) rfl) j2 j1) j1) j1) (je_one (je_not (jG jY gD T.isinstance (by decide +kernel) (j0 (jv 0 rfl vL) (j0 (yM (v := .ty "bool") gD T.bool (by decide +kernel) rfl) j2 j1) j1) j1)))))))⟩
theorem ok_whole0 {fd : FuncData} (F : Fun K "is_whole" "is_whole" sWhole0 f fd) (T : Txt mg) : FnOk P w K mg base CX0 1 f fd ["thing"] spWh := by
 refine F.ok scWhole0 (fun vs H Q E h => ?_) (fun cdv A outer s H vs Q E hr h => ?_)
 · obtain ⟨_, _, rfl, _⟩ := h
   rfl
 · obtain ⟨v, o, rfl, hA, q⟩ := h
   obtain ⟨t, ty, _, b1, b2, k1, k2, e⟩ := hA.ty K
   refine ⟨_, (whole0A T).2.h, ?_⟩
   refine ⟨_, rfl, _, _, _, b1, rfl, ty, k1, b1, rfl, ?_⟩
   rw [← e] at q
   cases b1 with
   | true => exact iteT ⟨_, rfl, _, _, _, b2, rfl, ty, k2, b2, rfl, q⟩
   | false => exact iteF q
def spB (F : Ob → Bool) : Sp := fun vs H Q _ => ∃ v o, vs = [v] ∧ At H o v ∧ ∀ H', Ext H H' → Q (.bl (F o)) H'
end
end Eo
end
section
namespace L2
open PySem
theorem qb {Q : VK} {H : Hp} {a b : Bool} (q : Q (.bl a) H) (e : a = b) : Q (.bl b) H := e ▸ q
end L2
namespace L2
open PySem
section
variable {P : Program} {w : World} {K : W.Frag} {mg : Str → Option Value} {base : Heap} {N : List Str} {qual : Str} {sc : Scope} {f : Addr} {cdv : Value} {A : Around} {outer : List Env} {s : Shared} {H : Hp} {E : XK} {x y z : Str} {p1 p2 p3 pos : Pos} {k i j l : Nat}
theorem jg_two_d (hN : N.Nodup) (hi : N[i]? = some x) (hj : N[j]? = some y) (hx : sc.names.lookup x = some .local) (hy : sc.names.lookup y = some .local) :
   JG (cxOf CX0 P w K mg base N qual sc f cdv A outer s H E).nox (.Tuple [.Name x p1, .Name y p2] k pos) (gTup K 2 (gCons (yJ i) (gCons (yJ j) gNil))) :=
 jg_tup (X := (cxOf CX0 P w K mg base N qual sc f cdv A outer s H E).nox) rfl (jgs_cons (jT hN hi (loc_l hx)) (jgs_cons (jT hN hj (loc_l hy)) jgs_nil as_name) as_name)
end
end L2
namespace L2
open PySem
section
variable {K : W.Frag} {m : List (Option Nat)} {g : TG} {tt : TT} {te : TE} {σ : St} {H1 : Hp} {Q : VK}
theorem comp_lst {a : Addr} {xs : List V} (hn : xs.length < sizeLine) (Pv : Addr → Nat → St → Hp → List V → Prop) (h0 : ∀ D, H1 D = none → Pv D 0 (blkσ m σ) (upd H1 D (.lst [])) [])
   (hD : ∀ D i σ' H' zs, H1 D = none → Pv D i σ' H' zs → H' a = some (.lst xs) ∧ H' D = some (.lst zs) ∧ zs.length ≤ i)
   (hs : ∀ D i σ' H' zs x, H1 D = none → xs[i]? = some x → Pv D i σ' H' zs → g x σ' H' fun σ2 H2 => tt σ2 H2 fun b H3 => if b = true then te σ2 H3 fun v H4 => H4 D = some (.lst zs) ∧ Pv D (i + 1) σ2 (upd H4 D (.lst (zs ++ [v]))) (zs ++ [v]) else Pv D (i + 1) σ2 H3 zs)
   (hd : ∀ D σ' H' zs, H1 D = none → Pv D xs.length σ' H' zs → Q (.ref D) H') : CompW m g tt te σ Q (Itl K a) H1 := by
 intro D hDn
 refine ⟨fun i k σ' H' zs => k = xs.length - i ∧ i ≤ xs.length ∧ Pv D i σ' H' zs, ⟨_, rfl, Nat.zero_le _, h0 D hDn⟩, ?_⟩
 rintro i k σ' H' zs ⟨rfl, hi, p⟩
 obtain ⟨s1, q1, q2⟩ := hD D i σ' H' zs hDn p
 refine ⟨q1, by omega, ?_⟩
 by_cases hlt : i < xs.length
 · refine .inr ⟨⟨xs, xs[i], SqL.of s1, by simp [hlt]⟩, Pv D (i + 1), fun σ2 H2 zs z => ⟨xs.length - (i + 1), by omega, rfl, hlt, z⟩, fun v H'' y => ?_⟩
   obtain ⟨e1, e2⟩ := y
   subst e1
   exact hs D i σ' _ zs v hDn (e2 xs (SqL.of s1)) p
 · have e : i = xs.length := by omega
   subst e
   exact .inl ⟨⟨xs, SqL.of s1, Nat.le_refl _⟩, hd D σ' H' zs hDn p⟩
end
end L2
namespace Eo
open PySem L2
section
variable {P : Program} {w : World} {K : W.Frag} {mg : Str → Option Value} {base : Heap}
variable {f fW fR fU : Addr} {fdW fdR fdU : FuncData} {cdv : Value} {A : Around} {outer : List Env} {s : Shared} {H0 : Hp} {E : XK}
abbrev nWhole : List Str := ["found"]
theorem scWhole : FnScope nWhole ["found"] (j6 sWhole) := ⟨rfl, rfl, rfl, by decide +kernel, rfl, by decide +kernel, by decide +kernel⟩
def wholeA (T : Txt mg) : { t : TS // JSs (XOf nWhole "_law_whole" sWhole P w K mg base f cdv A outer s H0 E) (j8 sWhole) t } :=
 have nd := scWhole.nd
 ⟨_, (j9 (jI ((je_and (jG jY gD T.isinstance (by decide +kernel) (j0 (jv 0 rfl vL) (j0 (yM (v := .ty "int") gD T.int (by decide +kernel) rfl) j2 j1) j1) j1) (je_one (je_not (jG jY gD T.isinstance (by decide +kernel) (j0 (jv 0 rfl vL) (j0 (yM (v := .ty "bool") gD T.bool (by decide +kernel) rfl) j2 j1) j1) j1)))))))⟩
theorem ok_whole {fd : FuncData} (F : Fun K "_law_whole" "_law_whole" sWhole f fd) (T : Txt mg) : FnOk P w K mg base CX0 1 f fd ["found"] spWh := by
 refine F.ok scWhole (fun vs H Q E h => ?_) (fun cdv A outer s H vs Q E hr h => ?_)
 · obtain ⟨_, _, rfl, _⟩ := h
   rfl
 · obtain ⟨v, o, rfl, hA, q⟩ := h
   obtain ⟨t, ty, _, b1, b2, k1, k2, e⟩ := hA.ty K
   refine ⟨_, (wholeA T).2.h, ?_⟩
   refine ⟨_, rfl, _, _, _, b1, rfl, ty, k1, b1, rfl, ?_⟩
   rw [← e] at q
   cases b1 with
   | true => exact iteT ⟨_, rfl, _, _, _, b2, rfl, ty, k2, b2, rfl, q⟩
   | false => exact iteF q
end
theorem kQ (l : List Int) : (l.map V.int).all flatV = true := by
 rw [List.all_eq_true]
 intro x hx
 obtain ⟨i, _, rfl⟩ := List.mem_map.mp hx
 rfl
theorem yE (i : Int) (l : List Int) : inV (.int i) (l.map V.int) = decide (i ∈ l) := by
 unfold inV
 rw [Bool.eq_iff_iff, List.any_eq_true, decide_eq_true_iff]
 constructor
 · rintro ⟨x, hx, e⟩
   obtain ⟨j, hj, rfl⟩ := List.mem_map.mp hx
   have : j = i := eq_of_beq e
   rw [← this]
   exact hj
 · intro h
   exact ⟨.int i, List.mem_map.mpr ⟨i, h, rfl⟩, by simp [eqV]⟩
theorem qK : ∀ (ts : List Int) (lo w : Int), ts.Pairwise (· < ·) → (∀ z ∈ ts, lo ≤ z ∧ z < w) → (ts.length : Int) ≤ max (w - lo) 0
 | [], lo, w, _, _ => by show (0 : Int) ≤ _; omega
 | a :: r, lo, w, hp, hb => by
   have h1 := hb a List.mem_cons_self
   have hp' := List.pairwise_cons.mp hp
   have := qK r (a + 1) w hp'.2 fun z hz => ⟨by have := hp'.1 z hz; omega, (hb z (List.mem_cons_of_mem _ hz)).2⟩
   rw [List.length_cons]
   omega
theorem upto_take {n i : Nat} (h : i < n) : (upto n).take (i + 1) = (upto n).take i ++ [(i : Int)] := by
 unfold upto
 rw [← List.map_take, ← List.map_take, List.take_range, List.take_range, show min (i + 1) n = i + 1 by omega, show min i n = i by omega, List.range_succ, List.map_append]
 rfl
theorem upto_len (n : Nat) : (upto n).length = n := by
 unfold upto
 rw [List.length_map, List.length_range]
theorem Ats.two {H : Hp} {os : List Ob} {vs : List V} (h : Ats H os vs) (n : vs.length = 2) : ∃ x y a b, os = [x, y] ∧ vs = [a, b] ∧ At H x a ∧ At H y b := by
 cases os with
 | nil => cases (show vs = [] from h); cases n
 | cons x os =>
   obtain ⟨a, r, rfl, h1, h⟩ := h
   cases os with
   | nil => cases (show r = [] from h); cases n
   | cons y os =>
     obtain ⟨b, r, rfl, h2, h⟩ := h
     cases os with
     | nil => cases (show r = [] from h); exact ⟨x, y, a, b, rfl, rfl, h1, h2⟩
     | cons z os => obtain ⟨c, r, rfl, _, _⟩ := h; simp at n
def Alls (H : Hp) (vs : List V) : Prop := ∀ v ∈ vs, ∃ o, At H o v
theorem Alls.nil (H : Hp) : Alls H [] := fun v hv => by cases hv
theorem Alls.cons {H : Hp} {v : V} {o : Ob} {vs : List V} (h : At H o v) (r : Alls H vs) : Alls H (v :: vs) := fun x hx => by
 rcases List.mem_cons.mp hx with q | q
 · subst q; exact ⟨o, h⟩
 · exact r x q
theorem at_non (H : Hp) : At H .oth .non := .inl rfl
theorem at_bl (H : Hp) (b : Bool) : At H .oth (.bl b) := .inr (.inl ⟨b, rfl⟩)
theorem at_str (H : Hp) (x : Str) : At H .oth (.str x) := .inr (.inr (.inl ⟨x, rfl⟩))
theorem yI (H : Hp) (i : Int) : At H (.int i) (.int i) := rfl
theorem qD {H : Hp} {a : Addr} {vs : List V} {os : List Ob} (h : H a = some (.tup vs)) (n : vs.length ≤ 100) (r : Ats H os vs) : At H (.tup os) (.ref a) := ⟨a, vs, rfl, h, n, r⟩
theorem ats0 (H : Hp) : Ats H [] [] := rfl
theorem ats1 {H : Hp} {o : Ob} {v : V} {os : List Ob} {vs : List V} (h : At H o v) (r : Ats H os vs) : Ats H (o :: os) (v :: vs) := ⟨v, vs, rfl, h, r⟩
theorem iteT' {A B : Prop} {c : Bool} (hc : c = true) (h : A) : if c = true then A else B := by
 rw [if_pos hc]
 exact h
theorem yes {A B : Prop} {c : Prop} [Decidable c] (hc : c) (h : A) : if decide c = true then A else B := by
 rw [decide_eq_true hc, if_pos rfl]
 exact h
theorem nay {A B : Prop} {c : Prop} [Decidable c] (hc : ¬ c) (h : B) : if decide c = true then A else B := by
 rw [decide_eq_false hc, if_neg Bool.false_ne_true]
 exact h
end Eo
end
section
namespace L2
open PySem
section
variable {P : Program} {w : World} {K : W.Frag} {mg : Str → Option Value} {base : Heap} {N : List Str} {qual : Str} {sc : Scope} {f : Addr} {cdv : Value} {A : Around} {outer : List Env} {s : Shared} {H : Hp} {E : XK}
theorem js_par_d {i j : Nat} {x y : Str} {a b : Expr} {ta : TA} {pos px py pt : Pos} {kt k2 pt2} (hN : N.Nodup) (hi : N[i]? = some x) (hj : N[j]? = some y) (hij : i ≠ j)
   (hx : sc.names.lookup x = some .local) (hy : sc.names.lookup y = some .local) (ha : JA (cxOf CX0 P w K mg base N qual sc f cdv A outer s H E).nox [a, b] ta)
   (hw : swappedStores [.Tuple [.Name x px, .Name y py] kt pt] (.Tuple [a, b] k2 pt2) (cxOf CX0 P w K mg base N qual sc f cdv A outer s H E).nox.env = pure (some [x, y]))
   (hs : swapsWithSole [.Tuple [.Name x px, .Name y py] kt pt] (.Tuple [a, b] k2 pt2) pos.line (cxOf CX0 P w K mg base N qual sc f cdv A outer s H E).nox.env = pure false := by rfl) :
   JS (cxOf CX0 P w K mg base N qual sc f cdv A outer s H E).nox (.Assign [.Tuple [.Name x px, .Name y py] kt pt] (.Tuple [a, b] k2 pt2) pos) (tPar i j ta) := js_par rfl hN hi hj hij hx hy ha hw hs
end
theorem js_aug {X : Cx} {e : Expr} {te : TE} {pos : Pos} {i : Nat} {x : Str} {op : Operator} {ti : TIp} {pos' : Pos} (hN : X.N.Nodup) (hi : X.N[i]? = some x) (hx : Loc1 X x) (he : JE X e te) (ho : PIp X op ti) : JS X (.AugAssign (.Name x pos') op e pos) (tAug i te ti) := ⟨ps_aug hN hi hx.a he.h ho hx.b⟩
theorem sw_name {x : Str} {pos : Pos} {o : Option Expr} : SwOk (.Name x pos) o := ⟨fun _ _ => rfl⟩
end L2
namespace Eo
open PySem L2
def BIG : Nat := 2 ^ 1000
theorem log_big {n : Nat} (h0 : 0 < n) (h : n < BIG) : n.log2 < 9000 := by
 have : n.log2 < 1000 := (Nat.log2_lt (by omega)).mpr h
 omega
def kP : Ob → Bool
 | .tup [.int a, .int b] => decide (1 ≤ b) && decide (Int.gcd a b = 1)
 | _ => false
theorem frac_tup {o : Ob} (h : isTup o = false) : kP o = false := by cases o <;> first | rfl | cases h
theorem frac_len {os : List Ob} (h : ¬ os.length = 2) : kP (.tup os) = false := by
 match os, h with
 | [], _ => rfl
 | [a], _ => cases a <;> rfl
 | [_, _], h => exact absurd rfl h
 | a :: b :: _ :: _, _ => cases a <;> cases b <;> rfl
theorem frac_l {x y : Ob} (h : isInt x = false) : kP (.tup [x, y]) = false := by cases x <;> first | rfl | cases h
theorem frac_r {x y : Ob} (h : isInt y = false) : kP (.tup [x, y]) = false := by cases x <;> cases y <;> first | rfl | cases h
theorem isInt_of {o : Ob} (h : isInt o = true) : ∃ i, o = .int i := by
 cases o with
 | int i => exact ⟨i, rfl⟩
 | oth => cases h
 | tup _ => cases h
theorem abs_nat (i : Int) : (if i < 0 then -i else i) = ((i.natAbs : Nat) : Int) := by split <;> omega
section
variable {P : Program} {w : World} {K : W.Frag} {mg : Str → Option Value} {base : Heap}
variable {f fW fG fF : Addr} {fdW fdG fdF : FuncData} {cdv : Value} {A : Around} {outer : List Env} {s : Shared} {H0 : Hp} {E : XK}
abbrev nGcd : List Str := ["one", "other", "rest"]
theorem scGcd : FnScope nGcd ["one", "other"] (j6 sGcd) := ⟨rfl, rfl, rfl, by decide +kernel, rfl, by decide +kernel, by decide +kernel⟩
def spGcd : Sp := fun vs H Q _ => ∃ a b : Nat, vs = [.int (a : Int), .int (b : Int)] ∧ Q (.int ((Nat.gcd a b : Nat) : Int)) H
def gcdA : { t : TS // JSs (XOf nGcd "common_divisor" sGcd P w K mg base f cdv A outer s H0 E) (j8 sGcd) t } :=
 have nd := scGcd.nd
 ⟨_, (j5 (js_while PassesOwn.never (jF op_ne (jv 1 rfl vL) (je_int) (jK _)) (j5 (jM (i := 2) nd rfl lL (jP op_mod (jv 0 rfl vL) (jv 1 rfl vL)) sw_bin)
     (j5 (jM (i := 0) nd rfl lL (jv 1 rfl vL) sw_name)
     (j9 (jM (i := 1) nd rfl lL (jv 2 rfl vL) sw_name)))))
     (j9 (jI (jv 0 rfl vL))))⟩
theorem ok_gcd {fd : FuncData} (F : Fun K "common_divisor" "common_divisor" sGcd f fd) : FnOk P w K mg base CX0 1 f fd ["one", "other"] spGcd := by
 refine F.ok scGcd (fun vs H Q E h => ?_) (fun cdv A outer s H vs Q E hr h => ?_)
 · obtain ⟨_, _, rfl, _⟩ := h
   rfl
 · obtain ⟨a, b, rfl, q⟩ := h
   refine ⟨_, gcdA.2.h, ?_⟩
   refine ⟨fun m σ H' => ∃ (a' b' : Nat) (v2 : Option V), σ = [some (.int (a' : Int)), some (.int (b' : Int)), v2] ∧ H' = H ∧ Nat.gcd a' b' = Nat.gcd a b ∧ m = b', ⟨b, a, b, none, rfl, rfl, rfl, rfl⟩, ?_⟩
   rintro m σ H' ⟨a', b', v2, rfl, rfl, hg, rfl⟩
   refine ⟨_, rfl, rfl, _, rfl, ?_⟩
   by_cases hb : m = 0
   · subst hb
     refine qP rfl ⟨_, rfl, ?_⟩
     rw [Nat.gcd_zero_right] at hg
     rw [hg]
     exact q
   · have hne : ¬ V.int (m : Int) = V.int 0 := fun e => hb (by have := V.int.inj e; omega)
     refine iteT' (by rw [decide_eq_false hne]; rfl) ⟨fun σ' H' => ∃ (a' b' : Nat) (v2 : Option V), σ' = [some (.int (a' : Int)), some (.int (b' : Int)), v2] ∧ H' = _ ∧ Nat.gcd a' b' = Nat.gcd a b ∧ b' < m, fun σ' H' ⟨a', b', v2, e1, e2, e3, e4⟩ => ⟨b', e4, a', b', v2, e1, e2, e3, rfl⟩, ?_⟩
     refine ⟨_, rfl, _, rfl, _, _, rfl, rfl, (by show (0 : Int) < (m : Int); omega), _, rfl, _, rfl, ?_⟩
     refine ⟨m, a' % m, some (.int ((a' % m : Nat) : Int)), ?_, rfl, ?_, Nat.mod_lt _ (by omega)⟩
     · show [some (V.int (m : Int)), some (V.int ((a' : Int) % (m : Int))), some (V.int ((a' : Int) % (m : Int)))] = _
       rw [Int.natCast_emod]
     · rw [Nat.gcd_comm m, ← Nat.gcd_rec, Nat.gcd_comm, hg]
abbrev nDiv : List Str := ["one", "other"]
theorem scDiv : FnScope nDiv ["one", "other"] (j6 sDiv) := ⟨rfl, rfl, rfl, by decide +kernel, rfl, by decide +kernel, by decide +kernel⟩
def spDiv : Sp := fun vs H Q _ => ∃ a b : Int, vs = [.int a, .int b] ∧ Q (.int ((Int.gcd a b : Nat) : Int)) H
def divA (T : Txt mg) : { t : TS // JSs (XOf nDiv "_law_divisor" sDiv P w K mg base f cdv A outer s H0 E) (j8 sDiv) t } :=
 have nd := scDiv.nd
 ⟨_, (j5 (jM (i := 0) nd rfl lL (jG call_abs gD T.abs (by decide +kernel) (j0 (jv 0 rfl vL) j2 j1) j1) jR)
     (j5 (jM (i := 1) nd rfl lL (jG call_abs gD T.abs (by decide +kernel) (j0 (jv 1 rfl vL) j2 j1) j1) jR)
     (j5 (js_while PassesOwn.never (jF op_gt (jv 1 rfl vL) (je_int) (jK _)) (j9 (js_par_d (i := 0) (j := 1) nd rfl rfl (by decide) (by decide +kernel) (by decide +kernel) (j0 (jv 1 rfl vL) (j0 (jP op_mod (jv 0 rfl vL) (jv 1 rfl vL)) j2 jS) j1) (by rfl))))
     (j9 (jI (jv 0 rfl vL))))))⟩
theorem ok_div {fd : FuncData} (F : Fun K "_law_divisor" "_law_divisor" sDiv f fd) (T : Txt mg) : FnOk P w K mg base CX0 1 f fd ["one", "other"] spDiv := by
 refine F.ok scDiv (fun vs H Q E h => ?_) (fun cdv A outer s H vs Q E hr h => ?_)
 · obtain ⟨_, _, rfl, _⟩ := h
   rfl
 · obtain ⟨a, b, rfl, q⟩ := h
   refine ⟨_, (divA T).2.h, ?_⟩
   refine ⟨_, rfl, a, rfl, _, rfl, b, rfl, ?_⟩
   rw [abs_nat, abs_nat]
   refine ⟨fun m σ H' => ∃ (a' b' : Nat), σ = [some (.int (a' : Int)), some (.int (b' : Int))] ∧ H' = H ∧ Nat.gcd a' b' = Nat.gcd a.natAbs b.natAbs ∧ m = b', ⟨_, a.natAbs, b.natAbs, rfl, rfl, rfl, rfl⟩, ?_⟩
   rintro m σ H' ⟨a', b', rfl, rfl, hg, rfl⟩
   refine ⟨_, rfl, _, _, rfl, rfl, _, rfl, ite2 (fun hb => ?_) (fun hb => ?_)⟩
   · have hb : (0 : Int) < (m : Int) := of_decide_eq_true hb
     refine ⟨fun σ' H' => ∃ (a' b' : Nat), σ' = [some (.int (a' : Int)), some (.int (b' : Int))] ∧ H' = _ ∧ Nat.gcd a' b' = Nat.gcd a.natAbs b.natAbs ∧ b' < m, fun σ' H' ⟨a', b', e1, e2, e3, e4⟩ => ⟨b', e4, a', b', e1, e2, e3, rfl⟩, ?_⟩
     refine ⟨_, rfl, _, rfl, _, rfl, _, _, rfl, rfl, hb, _, _, rfl, ?_⟩
     refine ⟨m, a' % m, ?_, rfl, ?_, Nat.mod_lt _ (by omega)⟩
     · show [some (V.int (m : Int)), some (V.int ((a' : Int) % (m : Int)))] = _
       rw [Int.natCast_emod]
     · rw [Nat.gcd_comm m, ← Nat.gcd_rec, Nat.gcd_comm, hg]
   · have hb : ¬ (0 : Int) < (m : Int) := fun h => hb (decide_eq_true h)
     have hm : m = 0 := by omega
     subst hm
     rw [Nat.gcd_zero_right] at hg
     refine ⟨_, rfl, ?_⟩
     rw [hg]
     exact q
def spFr : Sp := fun vs H Q _ => ∃ t b : Int, vs = [.int t, .int b] ∧ 0 < b ∧ b.natAbs < BIG ∧ ∀ r H', H' r = some (.tup [.int (t / (Int.gcd t b : Nat)), .int (b / (Int.gcd t b : Nat))]) → Ext H H' → Q (.ref r) H'
theorem gcd_ok {t b : Int} (h : 0 < b) (hb : b.natAbs < BIG) : (0 : Int) < ((Int.gcd t b : Nat) : Int) ∧ ((Int.gcd t b : Nat) : Int).natAbs.log2 < 9000 := by
 have h1 : 0 < Int.gcd t b := Nat.pos_of_ne_zero fun e => by
   have := Int.eq_zero_of_gcd_eq_zero_right e
   omega
 have h2 : Int.gcd t b ≤ b.natAbs := Nat.le_of_dvd (by omega) (Nat.gcd_dvd_right _ _)
 refine ⟨by omega, ?_⟩
 rw [Int.natAbs_natCast]
 exact log_big h1 (Nat.lt_of_le_of_lt h2 hb)
abbrev nFrOf : List Str := ["top", "bottom", "divisor"]
theorem scFrOf : FnScope nFrOf ["top", "bottom"] (j6 sFrOf) := ⟨rfl, rfl, rfl, by decide +kernel, rfl, by decide +kernel, by decide +kernel⟩
def frOfA (T : Txt mg) (CG : Can P w K mg base "common_divisor" 1 fG fdG ["one", "other"] spGcd) (hr : Room 1 (XOf nFrOf "fraction_of" sFrOf P w K mg base f cdv A outer s H0 E).A) : { t : TS // JSs (XOf nFrOf "fraction_of" sFrOf P w K mg base f cdv A outer s H0 E) (j8 sFrOf) t } :=
 have nd := scFrOf.nd
 ⟨_, (j5 (jM (i := 2) nd rfl lL (CG.je hr gD (j0 (jG call_abs gD T.abs (by decide +kernel) (j0 (jv 0 rfl vL) j2 j1) j1) (j0 (jv 1 rfl vL) j2 j1) jL) jL) jR)
     (j9 (jI (jH (j0 (jP op_fdivB (jv 0 rfl vL) (jv 2 rfl vL)) (j0 (jP op_fdivB (jv 1 rfl vL) (jv 2 rfl vL)) j2 jS) jS)))))⟩
theorem ok_frOf {fd : FuncData} (F : Fun K "fraction_of" "fraction_of" sFrOf f fd) (T : Txt mg) (CG : Can P w K mg base "common_divisor" 1 fG fdG ["one", "other"] spGcd) : FnOk P w K mg base CX0 2 f fd ["top", "bottom"] spFr := by
 refine F.ok scFrOf (fun vs H Q E h => ?_) (fun cdv A outer s H vs Q E hr h => ?_)
 · obtain ⟨_, _, rfl, _⟩ := h
   rfl
 · obtain ⟨t, b, rfl, hb, hB, q⟩ := h
   obtain ⟨g1, g2⟩ := gcd_ok (t := t) hb hB
   refine ⟨_, (frOfA T CG hr).2.h, ?_⟩
   refine ⟨_, rfl, t, rfl, _, rfl, t.natAbs, b.natAbs, ?_, ?_⟩
   · rw [abs_nat]
     show [V.int _, V.int b] = [V.int _, V.int ((b.natAbs : Nat) : Int)]
     rw [show ((b.natAbs : Nat) : Int) = b by omega]
   · refine ⟨_, rfl, _, rfl, _, _, rfl, rfl, ⟨g1, g2⟩, _, rfl, _, rfl, _, _, rfl, rfl, ⟨g1, g2⟩, (by show 2 ≤ sizeLine; decide), fun r H' hr' e => q r H' hr' e⟩
abbrev nRatio : List Str := ["top", "bottom", "by"]
theorem scRatio : FnScope nRatio ["top", "bottom"] (j6 qY) := ⟨rfl, rfl, rfl, by decide +kernel, rfl, by decide +kernel, by decide +kernel⟩
def ratioA (T : Txt mg) (CG : Can P w K mg base "_law_divisor" 1 fG fdG ["one", "other"] spDiv) (hr : Room 1 (XOf nRatio "_law_ratio" qY P w K mg base f cdv A outer s H0 E).A) : { t : TS // JSs (XOf nRatio "_law_ratio" qY P w K mg base f cdv A outer s H0 E) (j8 qY) t } :=
 have nd := scRatio.nd
 ⟨_, (j5 (jM (i := 2) nd rfl lL (CG.je hr gD (j0 (jv 0 rfl vL) (j0 (jv 1 rfl vL) j2 j1) j1) j1) jR)
     (j9 (jI (jH (j0 (jP op_fdivB (jv 0 rfl vL) (jv 2 rfl vL)) (j0 (jP op_fdivB (jv 1 rfl vL) (jv 2 rfl vL)) j2 jS) jS)))))⟩
theorem ok_ratio {fd : FuncData} (F : Fun K "_law_ratio" "_law_ratio" qY f fd) (T : Txt mg) (CG : Can P w K mg base "_law_divisor" 1 fG fdG ["one", "other"] spDiv) : FnOk P w K mg base CX0 2 f fd ["top", "bottom"] spFr := by
 refine F.ok scRatio (fun vs H Q E h => ?_) (fun cdv A outer s H vs Q E hr h => ?_)
 · obtain ⟨_, _, rfl, _⟩ := h
   rfl
 · obtain ⟨t, b, rfl, hb, hB, q⟩ := h
   obtain ⟨g1, g2⟩ := gcd_ok (t := t) hb hB
   refine ⟨_, (ratioA T CG hr).2.h, ?_⟩
   refine ⟨_, rfl, _, rfl, t, b, rfl, ?_⟩
   refine ⟨_, rfl, _, rfl, _, _, rfl, rfl, ⟨g1, g2⟩, _, rfl, _, rfl, _, _, rfl, rfl, ⟨g1, g2⟩, (by show 2 ≤ sizeLine; decide), fun r H' hr' e => q r H' hr' e⟩
abbrev nIsFr : List Str := ["thing"]
theorem scIsFr : FnScope nIsFr ["thing"] (j6 sIsFr) := ⟨rfl, rfl, rfl, by decide +kernel, rfl, by decide +kernel, by decide +kernel⟩
def isFrA (T : Txt mg) (CW : Can P w K mg base "is_whole" 1 fW fdW ["thing"] spWh) (CG : Can P w K mg base "common_divisor" 1 fG fdG ["one", "other"] spGcd) (hr : Room 1 (XOf nIsFr "is_fraction" sIsFr P w K mg base f cdv A outer s H0 E).A) : { t : TS // JSs (XOf nIsFr "is_fraction" sIsFr P w K mg base f cdv A outer s H0 E) (j8 sIsFr) t } :=
 have nd := scIsFr.nd
 ⟨_, (j5 (jX (jt_w (yQ (yH (kS (jG jY gD T.isinstance (by decide +kernel) (j0 (jv 0 rfl vL) (j0 (yM (v := .ty "tuple") gD T.tuple (by decide +kernel) rfl) j2 j1) j1) j1) jZ)) (yY (jF op_ne (jG jJ gD T.len (by decide +kernel) (j0 (jv 0 rfl vL) j2 j1) j1) (je_int) (jK _))))) (j9 (jI (je_bl))) jN)
     (j5 (jX (jt_w (yQ (yH (kS (CW.je (hr.mono (by decide)) gD (j0 (jB jA (jv 0 rfl vL) (je_int) j3) j2 jE) jE) jZ)) (yQ (yH (kS (CW.je (hr.mono (by decide)) gD (j0 (jB jA (jv 0 rfl vL) (je_int) j3) j2 jE) jE) jZ)) (yY (jF xJ (jB jA (jv 0 rfl vL) (je_int) j3) (je_int) (jK _)))))) (j9 (jI (je_bl))) jN)
     (j9 (jI (je_cmpR yP (CG.je (hr.mono (by decide)) gD (j0 (jG call_abs gD T.abs (by decide +kernel) (j0 (jB jA (jv 0 rfl vL) (je_int) j3) j2 jE) jE) (j0 (jB jA (jv 0 rfl vL) (je_int) j3) j2 jE) jL) jL) (je_int) (jK _))))))⟩
theorem dec_int (a b : Int) : decide (V.int a = V.int b) = decide (a = b) := by
 by_cases h : a = b
 · subst h; simp
 · simp [h]
theorem ok_isFr {fd : FuncData} (F : Fun K "is_fraction" "is_fraction" sIsFr f fd) (T : Txt mg) (CW : Can P w K mg base "is_whole" 1 fW fdW ["thing"] spWh) (CG : Can P w K mg base "common_divisor" 1 fG fdG ["one", "other"] spGcd) : FnOk P w K mg base CX0 2 f fd ["thing"] (spB kP) := by
 refine F.ok scIsFr (fun vs H Q E h => ?_) (fun cdv A outer s H vs Q E hr h => ?_)
 · obtain ⟨_, _, rfl, _⟩ := h
   rfl
 · obtain ⟨v, o, rfl, hA, q⟩ := h
   have q := q H (Ext.refl H)
   obtain ⟨t, ty, kt, _⟩ := hA.ty K
   refine ⟨_, (isFrA T CW CG hr).2.h, ?_⟩
   refine ⟨_, rfl, _, _, _, _, rfl, ty, kt, _, rfl, ?_⟩
   cases ht : isTup o with
   | false => exact iteT (iteT (qb q (frac_tup ht)))
   | true =>
     refine iteF ?_
     obtain ⟨os, a, vs, rfl, rfl, ha, h100, hx⟩ := hA.tupOf ht
     have hl := hx.len
     refine ⟨_, rfl, a, _, rfl, .inr (SqT.of ha), rfl, _, rfl, ?_⟩
     by_cases h2 : vs.length = 2
     · refine qP (by rw [h2]; rfl) ?_
       obtain ⟨x, y, a1, a2, rfl, rfl, hx1, hx2⟩ := hx.two h2
       refine ⟨_, rfl, a, _, 0, _, rfl, rfl, SqT.of ha, rfl, a1, x, rfl, hx1, _, rfl, ?_⟩
       cases hi1 : isInt x with
       | false => exact iteT (iteT (qb q (frac_l hi1)))
       | true =>
         refine iteF ⟨_, rfl, a, _, 1, _, rfl, rfl, SqT.of ha, rfl, a2, y, rfl, hx2, _, rfl, ?_⟩
         cases hi2 : isInt y with
         | false => exact iteT (iteT (qb q (frac_r hi2)))
         | true =>
           obtain ⟨i, rfl⟩ := isInt_of hi1
           obtain ⟨j, rfl⟩ := isInt_of hi2
           cases (show a1 = .int i from hx1)
           cases (show a2 = .int j from hx2)
           refine iteF ⟨_, rfl, a, _, 1, _, rfl, rfl, SqT.of ha, rfl, _, _, rfl, rfl, _, rfl, ite2 (fun hj => ?_) (fun hj => ?_)⟩
           · have hj : j < 1 := of_decide_eq_true hj
             refine qb q ?_
             show (decide (1 ≤ j) && _) = false
             rw [decide_eq_false (by omega), Bool.false_and]
           · have hj : ¬ j < 1 := fun h => hj (decide_eq_true h)
             refine ⟨_, rfl, a, _, 0, _, rfl, rfl, SqT.of ha, rfl, i, rfl, _, rfl, a, _, 1, _, rfl, rfl, SqT.of ha, rfl, i.natAbs, j.natAbs, ?_, rfl, ?_⟩
             · rw [abs_nat]
               show [V.int _, V.int j] = [V.int _, V.int ((j.natAbs : Nat) : Int)]
               rw [show ((j.natAbs : Nat) : Int) = j by omega]
             · rw [dec_int]
               refine qb q ?_
               show (decide (1 ≤ j) && decide (Int.gcd i j = 1)) = _
               rw [decide_eq_true (show 1 ≤ j by omega), Bool.true_and]
               show decide (Nat.gcd i.natAbs j.natAbs = 1) = _
               by_cases hg : Nat.gcd i.natAbs j.natAbs = 1
               · rw [decide_eq_true hg, decide_eq_true (by omega)]
               · rw [decide_eq_false hg, decide_eq_false (by omega)]
     · have hb : (!decide (V.int (vs.length : Int) = V.int 2)) = true := by
         have : ¬ V.int (vs.length : Int) = V.int 2 := fun e => h2 (by have := V.int.inj e; omega)
         simp [this]
       exact ite2 (fun _ => qb q (frac_len (by omega))) (fun hn => absurd hb hn)
abbrev nIsR : List Str := ["found"]
theorem scIsR : FnScope nIsR ["found"] (j6 sIsR) := ⟨rfl, rfl, rfl, by decide +kernel, rfl, by decide +kernel, by decide +kernel⟩
def isRA (T : Txt mg) (CW : Can P w K mg base "_law_whole" 1 fW fdW ["found"] spWh) (CG : Can P w K mg base "_law_divisor" 1 fG fdG ["one", "other"] spDiv) (hr : Room 1 (XOf nIsR "_law_is_ratio" sIsR P w K mg base f cdv A outer s H0 E).A) : { t : TS // JSs (XOf nIsR "_law_is_ratio" sIsR P w K mg base f cdv A outer s H0 E) (j8 sIsR) t } :=
 have nd := scIsR.nd
 ⟨_, (j5 (jX (jt_w (yQ (yH (kS (jG jY gD T.isinstance (by decide +kernel) (j0 (jv 0 rfl vL) (j0 (yM (v := .ty "tuple") gD T.tuple (by decide +kernel) rfl) j2 j1) j1) j1) jZ)) (yY (jF op_ne (jG jJ gD T.len (by decide +kernel) (j0 (jv 0 rfl vL) j2 j1) j1) (je_int) (jK _))))) (j9 (jI (je_bl))) jN)
     (j5 (jX (jt_w (yQ (yH (kS (CW.je (hr.mono (by decide)) gD (j0 (jB jA (jv 0 rfl vL) (je_int) j3) j2 jE) jE) jZ)) (yQ (yH (kS (CW.je (hr.mono (by decide)) gD (j0 (jB jA (jv 0 rfl vL) (je_int) j3) j2 jE) jE) jZ)) (yY (jF xJ (jB jA (jv 0 rfl vL) (je_int) j3) (je_int) (jK _)))))) (j9 (jI (je_bl))) jN)
     (j9 (jI (je_cmpR yP (CG.je (hr.mono (by decide)) gD (j0 (jB jA (jv 0 rfl vL) (je_int) j3) (j0 (jB jA (jv 0 rfl vL) (je_int) j3) j2 jE) jE) jE) (je_int) (jK _))))))⟩
theorem ok_isR {fd : FuncData} (F : Fun K "_law_is_ratio" "_law_is_ratio" sIsR f fd) (T : Txt mg) (CW : Can P w K mg base "_law_whole" 1 fW fdW ["found"] spWh) (CG : Can P w K mg base "_law_divisor" 1 fG fdG ["one", "other"] spDiv) : FnOk P w K mg base CX0 2 f fd ["found"] (spB kP) := by
 refine F.ok scIsR (fun vs H Q E h => ?_) (fun cdv A outer s H vs Q E hr h => ?_)
 · obtain ⟨_, _, rfl, _⟩ := h
   rfl
 · obtain ⟨v, o, rfl, hA, q⟩ := h
   have q := q H (Ext.refl H)
   obtain ⟨t, ty, kt, _⟩ := hA.ty K
   refine ⟨_, (isRA T CW CG hr).2.h, ?_⟩
   refine ⟨_, rfl, _, _, _, _, rfl, ty, kt, _, rfl, ?_⟩
   cases ht : isTup o with
   | false => exact iteT (iteT (qb q (frac_tup ht)))
   | true =>
     refine iteF ?_
     obtain ⟨os, a, vs, rfl, rfl, ha, h100, hx⟩ := hA.tupOf ht
     have hl := hx.len
     refine ⟨_, rfl, a, _, rfl, .inr (SqT.of ha), rfl, _, rfl, ?_⟩
     by_cases h2 : vs.length = 2
     · refine qP (by rw [h2]; rfl) ?_
       obtain ⟨x, y, a1, a2, rfl, rfl, hx1, hx2⟩ := hx.two h2
       refine ⟨_, rfl, a, _, 0, _, rfl, rfl, SqT.of ha, rfl, a1, x, rfl, hx1, _, rfl, ?_⟩
       cases hi1 : isInt x with
       | false => exact iteT (iteT (qb q (frac_l hi1)))
       | true =>
         refine iteF ⟨_, rfl, a, _, 1, _, rfl, rfl, SqT.of ha, rfl, a2, y, rfl, hx2, _, rfl, ?_⟩
         cases hi2 : isInt y with
         | false => exact iteT (iteT (qb q (frac_r hi2)))
         | true =>
           obtain ⟨i, rfl⟩ := isInt_of hi1
           obtain ⟨j, rfl⟩ := isInt_of hi2
           cases (show a1 = .int i from hx1)
           cases (show a2 = .int j from hx2)
           refine iteF ⟨_, rfl, a, _, 1, _, rfl, rfl, SqT.of ha, rfl, _, _, rfl, rfl, _, rfl, ite2 (fun hj => ?_) (fun hj => ?_)⟩
           · have hj : j < 1 := of_decide_eq_true hj
             refine qb q ?_
             show (decide (1 ≤ j) && _) = false
             rw [decide_eq_false (by omega), Bool.false_and]
           · have hj : ¬ j < 1 := fun h => hj (decide_eq_true h)
             refine ⟨_, rfl, a, _, 0, _, rfl, rfl, SqT.of ha, rfl, _, rfl, a, _, 1, _, rfl, rfl, SqT.of ha, rfl, i, j, rfl, rfl, ?_⟩
             rw [dec_int]
             refine qb q ?_
             show (decide (1 ≤ j) && decide (Int.gcd i j = 1)) = _
             rw [decide_eq_true (show 1 ≤ j by omega), Bool.true_and]
             by_cases hg : Int.gcd i j = 1
             · rw [decide_eq_true hg, decide_eq_true (by omega)]
             · rw [decide_eq_false hg, decide_eq_false (by omega)]
     · have hb : (!decide (V.int (vs.length : Int) = V.int 2)) = true := by
         have : ¬ V.int (vs.length : Int) = V.int 2 := fun e => h2 (by have := V.int.inj e; omega)
         simp [this]
       exact ite2 (fun _ => qb q (frac_len (by omega))) (fun hn => absurd hb hn)
end
end Eo
end
section
namespace Eo
open PySem L2
def FrAt (H : Hp) (v : V) (p : Int × Int) : Prop := ∃ a, v = .ref a ∧ H a = some (.tup [.int p.1, .int p.2])
def FrsAt (H : Hp) : List V → List (Int × Int) → Prop
 | [], [] => True
 | v :: vs, p :: ps => FrAt H v p ∧ FrsAt H vs ps
 | _, _ => False
theorem FrAt.mono {H H' : Hp} {v : V} {p : Int × Int} (h : FrAt H v p) (t : Tups H H') : FrAt H' v p := let ⟨a, e, q⟩ := h; ⟨a, e, t _ _ q⟩
theorem FrsAt.mono {H H' : Hp} (t : Tups H H') : ∀ {vs : List V} {ps : List (Int × Int)}, FrsAt H vs ps → FrsAt H' vs ps
 | [], [], _ => trivial
 | _ :: _, _ :: _, h => ⟨h.1.mono t, FrsAt.mono t h.2⟩
 | [], _ :: _, h => h.elim
 | _ :: _, [], h => h.elim
theorem FrsAt.len {H : Hp} : ∀ {vs : List V} {ps : List (Int × Int)}, FrsAt H vs ps → vs.length = ps.length
 | [], [], _ => rfl
 | _ :: _, _ :: _, h => congrArg (· + 1) (FrsAt.len h.2)
 | [], _ :: _, h => h.elim
 | _ :: _, [], h => h.elim
theorem FrsAt.at {H : Hp} : ∀ {vs : List V} {ps : List (Int × Int)}, FrsAt H vs ps → ∀ {i : Nat} {v : V}, vs[i]? = some v → ∃ p, ps[i]? = some p ∧ FrAt H v p
 | v :: vs, p :: ps, h, 0, _, e => by cases e; exact ⟨p, rfl, h.1⟩
 | v :: vs, p :: ps, h, i + 1, _, e => FrsAt.at h.2 (i := i) e
 | [], [], _, _, _, e => by cases e
 | [], _ :: _, h, _, _, _ => h.elim
 | _ :: _, [], h, _, _, _ => h.elim
theorem FrsAt.snoc {H : Hp} {v : V} {p : Int × Int} (hv : FrAt H v p) : ∀ {vs : List V} {ps : List (Int × Int)}, FrsAt H vs ps → FrsAt H (vs ++ [v]) (ps ++ [p])
 | [], [], _ => ⟨hv, trivial⟩
 | _ :: _, _ :: _, h => ⟨h.1, FrsAt.snoc hv h.2⟩
 | [], _ :: _, h => h.elim
 | _ :: _, [], h => h.elim
def qO (p : Int × Int) : Prop := -1152921504606846976 < p.1 ∧ p.1 < 1152921504606846976 ∧ 0 < p.2 ∧ p.2 < 1048576
def stp (f p : Int × Int) : Int × Int := (f.1 * p.2 + p.1 * f.2, f.2 * p.2)
def nrm (f : Int × Int) : Int × Int := (f.1 / (Int.gcd f.1 f.2 : Nat), f.2 / (Int.gcd f.1 f.2 : Nat))
def sumF (frs : List (Int × Int)) : Int × Int := frs.foldl stp (0, 1)
def totF (frs : List (Int × Int)) : Int × Int := frs.foldl (fun f p => nrm (stp f p)) (0, 1)
structure Like (f : Int × Int) (x y : Int) : Prop where
 pos : 0 < y
 eq : x * f.2 = f.1 * y
theorem nrm_like {f : Int × Int} (h : 0 < f.2) : Like f (nrm f).1 (nrm f).2 ∧ (nrm f).2 ≤ f.2 := by
 have d0 : 0 < Int.gcd f.1 f.2 := Nat.pos_of_ne_zero fun e => by
   have := Int.eq_zero_of_gcd_eq_zero_right e
   omega
 have e1 : f.1 = ((Int.gcd f.1 f.2 : Nat) : Int) * (nrm f).1 := (Int.mul_ediv_cancel' (Int.gcd_dvd_left ..)).symm
 have e2 : f.2 = ((Int.gcd f.1 f.2 : Nat) : Int) * (nrm f).2 := (Int.mul_ediv_cancel' (Int.gcd_dvd_right ..)).symm
 generalize (Int.gcd f.1 f.2 : Nat) = d at d0 e1 e2
 have d1 : (0 : Int) < (d : Int) := by omega
 have p2 : 0 < (nrm f).2 := by
   refine Int.pos_of_mul_pos_right ?_ d1
   rw [← e2]
   exact h
 refine ⟨⟨p2, ?_⟩, ?_⟩
 · rw [e1, e2]
   generalize (nrm f).1 = x
   generalize (nrm f).2 = y
   grind
 · rw [e2]
   generalize (nrm f).2 = y at p2 ⊢
   have : 1 * y ≤ (d : Int) * y := Int.mul_le_mul_of_nonneg_right (by omega) (by omega)
   omega
theorem like_trans {f g : Int × Int} {x y : Int} (h1 : Like f g.1 g.2) (h2 : Like g x y) (hf : 0 < f.2) : Like f x y := by
 refine ⟨h2.pos, ?_⟩
 have a := h1.eq
 have b := h2.eq
 have c := h1.pos
 refine Int.eq_of_mul_eq_mul_left (a := g.2) (by omega) ?_
 generalize f.1 = f1 at *
 generalize f.2 = f2 at *
 generalize g.1 = g1 at *
 generalize g.2 = g2 at *
 grind
theorem like_stp {f g p : Int × Int} (h : Like f g.1 g.2) (hf : 0 < f.2) (hp : 0 < p.2) : Like (stp f p) (stp g p).1 (stp g p).2 := by
 obtain ⟨h1, h2⟩ := h
 refine ⟨Int.mul_pos h1 hp, ?_⟩
 show (g.1 * p.2 + p.1 * g.2) * (f.2 * p.2) = (f.1 * p.2 + p.1 * f.2) * (g.2 * p.2)
 generalize f.1 = f1 at *
 generalize f.2 = f2 at *
 generalize g.1 = g1 at *
 generalize g.2 = g2 at *
 generalize p.1 = p1 at *
 generalize p.2 = p2 at *
 grind
theorem toNat_mul_le {a b : Int} {n : Nat} (ha : 0 < a) (hb : 0 < b) (h1 : a.toNat ≤ n) (h2 : b < 1048576) : (a * b).toNat ≤ n * 1048576 := by
 obtain ⟨m, rfl⟩ := Int.eq_ofNat_of_zero_le (Int.le_of_lt ha)
 obtain ⟨k, rfl⟩ := Int.eq_ofNat_of_zero_le (Int.le_of_lt hb)
 show m * k ≤ n * 1048576
 exact Nat.mul_le_mul (by simpa using h1) (by omega)
theorem sum_pos : ∀ (frs : List (Int × Int)) (f : Int × Int), 0 < f.2 → (∀ p ∈ frs, qO p) → 0 < (frs.foldl stp f).2 ∧ (frs.foldl stp f).2.toNat ≤ f.2.toNat * 1048576 ^ frs.length
 | [], f, h, _ => ⟨h, by show f.2.toNat ≤ f.2.toNat * 1; omega⟩
 | p :: r, f, h, hs => by
   have hp := hs p List.mem_cons_self
   have hpos : 0 < (stp f p).2 := Int.mul_pos h hp.2.2.1
   obtain ⟨a, b⟩ := sum_pos r (stp f p) hpos fun q hq => hs q (List.mem_cons_of_mem _ hq)
   refine ⟨a, Nat.le_trans b ?_⟩
   rw [List.length_cons, Nat.pow_succ, Nat.mul_comm (1048576 ^ r.length), ← Nat.mul_assoc]
   exact Nat.mul_le_mul_right _ (toNat_mul_le h hp.2.2.1 (Nat.le_refl _) hp.2.2.2)
theorem tot_like : ∀ (frs : List (Int × Int)) (f g : Int × Int), 0 < f.2 → Like f g.1 g.2 → (∀ p ∈ frs, qO p) → Like (frs.foldl stp f) (frs.foldl (fun f p => nrm (stp f p)) g).1 (frs.foldl (fun f p => nrm (stp f p)) g).2
 | [], f, g, _, h, _ => h
 | p :: r, f, g, hf, h, hs => by
   have hp := hs p List.mem_cons_self
   have h1 := like_stp h hf hp.2.2.1
   have h2 := nrm_like h1.pos
   exact tot_like r (stp f p) (nrm (stp g p)) (Int.mul_pos hf hp.2.2.1) (like_trans h1 h2.1 (Int.mul_pos hf hp.2.2.1)) fun q hq => hs q (List.mem_cons_of_mem _ hq)
theorem tot_bound : ∀ (frs : List (Int × Int)) (g : Int × Int), 0 < g.2 → (∀ p ∈ frs, qO p) → 0 < (frs.foldl (fun f p => nrm (stp f p)) g).2 ∧ (frs.foldl (fun f p => nrm (stp f p)) g).2.toNat ≤ g.2.toNat * 1048576 ^ frs.length
 | [], g, h, _ => ⟨h, by show g.2.toNat ≤ g.2.toNat * 1; omega⟩
 | p :: r, g, h, hs => by
   have hp := hs p List.mem_cons_self
   have hpos : 0 < (stp g p).2 := Int.mul_pos h hp.2.2.1
   have hn := nrm_like hpos
   obtain ⟨a, b⟩ := tot_bound r (nrm (stp g p)) hn.1.pos fun q hq => hs q (List.mem_cons_of_mem _ hq)
   refine ⟨a, Nat.le_trans b ?_⟩
   have hle : (nrm (stp g p)).2.toNat ≤ g.2.toNat * 1048576 := by
     have := toNat_mul_le h hp.2.2.1 (Nat.le_refl _) hp.2.2.2
     have e : (stp g p).2 = g.2 * p.2 := rfl
     rw [← e] at this
     omega
   rw [List.length_cons, Nat.pow_succ, Nat.mul_comm (1048576 ^ r.length), ← Nat.mul_assoc]
   exact Nat.mul_le_mul_right _ hle
theorem big_ok {b : Int} {n : Nat} (hn : n ≤ 40) (h0 : 0 < b) (h : b.toNat ≤ 1048576 ^ n) : b.natAbs < BIG := by
 have e : b.natAbs = b.toNat := by omega
 rw [e]
 refine Nat.lt_of_le_of_lt h ?_
 refine Nat.lt_of_le_of_lt (Nat.pow_le_pow_right (by decide) hn) ?_
 unfold BIG
 decide +kernel
theorem snoc_take {frs : List (Int × Int)} {i : Nat} {p : Int × Int} (h : frs[i]? = some p) : frs.take (i + 1) = frs.take i ++ [p] := by
 rw [List.take_add_one, h]
 rfl
theorem frac_unique {a b x y : Int} (hb : 0 < b) (hy : 0 < y) (e : x * b = a * y) (c1 : Int.gcd a b = 1) (c2 : Int.gcd x y = 1) : x = a ∧ y = b := by
 have e' : x.natAbs * b.natAbs = a.natAbs * y.natAbs := by rw [← Int.natAbs_mul, ← Int.natAbs_mul, e]
 have d1 : b.natAbs ∣ y.natAbs := (Nat.Coprime.symm (show Nat.Coprime a.natAbs b.natAbs from c1)).dvd_of_dvd_mul_left ⟨x.natAbs, by rw [← e', Nat.mul_comm]⟩
 have d2 : y.natAbs ∣ b.natAbs := (Nat.Coprime.symm (show Nat.Coprime x.natAbs y.natAbs from c2)).dvd_of_dvd_mul_left ⟨a.natAbs, by rw [e', Nat.mul_comm]⟩
 have ey : y = b := by
   have := Nat.dvd_antisymm d1 d2
   omega
 subst ey
 exact ⟨Int.eq_of_mul_eq_mul_right (by omega) e, rfl⟩
theorem nrm_cop {f : Int × Int} (h : 0 < f.2) : Int.gcd (nrm f).1 (nrm f).2 = 1 := by
 refine Int.gcd_ediv_gcd_ediv_gcd ?_
 exact Nat.pos_of_ne_zero fun e => by
   have := Int.eq_zero_of_gcd_eq_zero_right e
   omega
theorem like_nrm {f : Int × Int} {x y : Int} (hf : 0 < f.2) (h : Like f x y) (hc : Int.gcd x y = 1) : (x, y) = nrm f := by
 obtain ⟨⟨p1, e1⟩, _⟩ := nrm_like hf
 have hx := h.eq
 have e : x * (nrm f).2 = (nrm f).1 * y := by
   refine Int.eq_of_mul_eq_mul_right (show f.2 ≠ 0 by omega) ?_
   generalize (nrm f).1 = a at e1 ⊢
   generalize (nrm f).2 = b at e1 ⊢
   grind
 obtain ⟨q1, q2⟩ := frac_unique p1 h.pos e (nrm_cop hf) hc
 rw [q1, q2]
theorem tot_cop : ∀ (frs : List (Int × Int)) (g : Int × Int), 0 < g.2 → Int.gcd g.1 g.2 = 1 → (∀ p ∈ frs, qO p) → Int.gcd (frs.foldl (fun f p => nrm (stp f p)) g).1 (frs.foldl (fun f p => nrm (stp f p)) g).2 = 1
 | [], g, _, hc, _ => hc
 | p :: r, g, hg, hc, hs => by
   have hp : 0 < (stp g p).2 := Int.mul_pos hg (hs p (List.mem_cons_self ..)).2.2.1
   exact tot_cop r (nrm (stp g p)) (nrm_like hp).1.pos (nrm_cop hp) fun q hq => hs q (List.mem_cons_of_mem _ hq)
theorem tot_nrm {frs : List (Int × Int)} (hs : ∀ p ∈ frs, qO p) : totF frs = nrm (sumF frs) :=
 like_nrm (x := (totF frs).1) (y := (totF frs).2) (sum_pos frs (0, 1) (by decide) hs).1 (tot_like frs (0, 1) (0, 1) (by decide) ⟨by decide, rfl⟩ hs) (tot_cop frs (0, 1) (by decide) (by decide) hs)
theorem sum_abs : ∀ (frs : List (Int × Int)) (f : Int × Int) (n : Nat), 0 < f.2 → f.2.natAbs ≤ 2 ^ (20 * n) → f.1.natAbs ≤ n * 2 ^ 60 * 2 ^ (20 * n) → (∀ p ∈ frs, qO p) → (frs.foldl stp f).1.natAbs ≤ (n + frs.length) * 2 ^ 60 * 2 ^ (20 * (n + frs.length)) ∧ (frs.foldl stp f).2.natAbs ≤ 2 ^ (20 * (n + frs.length))
 | [], f, n, _, h1, h2, _ => ⟨h2, h1⟩
 | p :: r, f, n, h0, h1, h2, hs => by
   obtain ⟨s1, s2, s3, s4⟩ := hs p (List.mem_cons_self ..)
   have b1 : p.2.natAbs ≤ 2 ^ 20 := by omega
   have b2 : p.1.natAbs ≤ 2 ^ 60 := by omega
   have e1 : (stp f p).2.natAbs ≤ 2 ^ (20 * (n + 1)) := by
     show (f.2 * p.2).natAbs ≤ _
     rw [Int.natAbs_mul, Nat.mul_add, Nat.pow_add]
     exact Nat.mul_le_mul h1 b1
   have e2 : (stp f p).1.natAbs ≤ (n + 1) * 2 ^ 60 * 2 ^ (20 * (n + 1)) := by
     show (f.1 * p.2 + p.1 * f.2).natAbs ≤ _
     refine Nat.le_trans (Int.natAbs_add_le _ _) ?_
     rw [Int.natAbs_mul, Int.natAbs_mul]
     have k1 : f.1.natAbs * p.2.natAbs ≤ n * 2 ^ 60 * 2 ^ (20 * n) * 2 ^ 20 := Nat.mul_le_mul h2 b1
     have k2 : p.1.natAbs * f.2.natAbs ≤ 2 ^ 60 * 2 ^ (20 * n) := Nat.mul_le_mul b2 h1
     have k3 : 2 ^ (20 * (n + 1)) = 2 ^ (20 * n) * 2 ^ 20 := by rw [Nat.mul_add, Nat.pow_add]
     rw [k3]
     have k4 : 2 ^ 60 * 2 ^ (20 * n) ≤ 2 ^ 60 * (2 ^ (20 * n) * 2 ^ 20) := Nat.mul_le_mul_left _ (Nat.le_mul_of_pos_right _ (by decide))
     generalize 2 ^ (20 * n) = z at *
     grind
   have := sum_abs r (stp f p) (n + 1) (Int.mul_pos h0 s3) e1 e2 fun q hq => hs q (List.mem_cons_of_mem _ hq)
   rw [List.length_cons, show n + (r.length + 1) = n + 1 + r.length by omega]
   exact this
theorem ediv_abs (a : Int) {d : Nat} (hd : 0 < d) : (a / (d : Int)).natAbs ≤ a.natAbs := by
 rcases Int.le_total 0 a with h | h
 · have h1 := Int.ediv_nonneg h (Int.natCast_nonneg d)
   have h2 := Int.ediv_le_self (d : Int) h
   omega
 · have h1 : a ≤ a / (d : Int) := by
     rw [Int.le_ediv_iff_mul_le (by omega)]
     have : a * (d : Int) ≤ a * 1 := Int.mul_le_mul_of_nonpos_left h (by omega)
     omega
   have h2 : a / (d : Int) < 1 := by
     rw [Int.ediv_lt_iff_lt_mul (by omega)]
     omega
   omega
theorem sum_big {frs : List (Int × Int)} (hs : ∀ p ∈ frs, qO p) (hn : frs.length ≤ 32) : (nrm (sumF frs)).1.natAbs < BIG ∧ (nrm (sumF frs)).2.natAbs < BIG := by
 obtain ⟨h1, h2⟩ := sum_abs frs (0, 1) 0 (by decide) (by decide) (by decide) hs
 have hp := (sum_pos frs (0, 1) (by decide) hs).1
 have d0 : 0 < Int.gcd (sumF frs).1 (sumF frs).2 := Nat.pos_of_ne_zero fun e => by
   have := Int.eq_zero_of_gcd_eq_zero_right e
   have : (sumF frs).2 = 0 := this
   have hp : 0 < (sumF frs).2 := hp
   omega
 rw [Nat.zero_add] at h1 h2
 have p1 : 2 ^ (20 * frs.length) ≤ 2 ^ 640 := Nat.pow_le_pow_right (by decide) (by omega)
 have m1 : frs.length * 2 ^ 60 * 2 ^ (20 * frs.length) ≤ 32 * 2 ^ 60 * 2 ^ 640 := Nat.mul_le_mul (Nat.mul_le_mul_right _ hn) p1
 have c1 : 32 * 2 ^ 60 * 2 ^ 640 < BIG := by decide
 have c2 : 2 ^ 640 < BIG := by decide
 exact ⟨Nat.lt_of_le_of_lt (Nat.le_trans (ediv_abs _ d0) (Nat.le_trans h1 m1)) c1, Nat.lt_of_le_of_lt (Nat.le_trans (ediv_abs _ d0) (Nat.le_trans h2 p1)) c2⟩
def xE : Sp := fun vs H Q _ => ∃ (l : Addr) (us : List V) (frs : List (Int × Int)), vs = [.ref l] ∧ H l = some (.lst us) ∧ FrsAt H us frs ∧ (∀ p ∈ frs, qO p) ∧ frs.length ≤ 32 ∧ ∀ r H', H' r = some (.tup [.int (nrm (sumF frs)).1, .int (nrm (sumF frs)).2]) → Ext H H' → Q (.ref r) H'
section
variable {P : Program} {w : World} {K : W.Frag} {mg : Str → Option Value} {base : Heap}
variable {f fW fG fF : Addr} {fdW fdG fdF : FuncData} {cdv : Value} {A : Around} {outer : List Env} {s : Shared} {H0 : Hp} {E : XK}
abbrev nSumOf : List Str := ["fractions", "top", "bottom", "fraction"]
theorem scSumOf : FnScope nSumOf ["fractions"] (j6 qW) := ⟨rfl, rfl, rfl, by decide +kernel, rfl, by decide +kernel, by decide +kernel⟩
def sumOfA (T : Txt mg) (CF : Can P w K mg base "fraction_of" 2 fF fdF ["top", "bottom"] spFr) (hr : Room 2 (XOf nSumOf "sum_of" qW P w K mg base f cdv A outer s H0 E).A) : { t : TS // JSs (XOf nSumOf "sum_of" qW P w K mg base f cdv A outer s H0 E) (j8 qW) t } :=
 have nd := scSumOf.nd
 ⟨_, (j5 (jM (i := 1) nd rfl lL (je_int) sw_const)
     (j5 (jM (i := 2) nd rfl lL (je_int) sw_const)
     (j5 (qC PassesOwn.never rfl (qN (jv 0 rfl vL)) (jT (i := 3) nd rfl lL) (j5 (jM (i := 1) nd rfl lL (jP kU (jP yR (jv 1 rfl vL) (jB jA (jv 3 rfl vL) (je_int) j3)) (jP yR (jB jA (jv 3 rfl vL) (je_int) j3) (jv 2 rfl vL))) sw_bin)
     (j9 (js_aug (i := 2) nd rfl lL (jB jA (jv 3 rfl vL) (je_int) j3) ip_mul))) fo_name)
     (j9 (jI (CF.je hr gD (j0 (jv 1 rfl vL) (j0 (jv 2 rfl vL) j2 j1) j1) j1))))))⟩
theorem ok_sumOf {fd : FuncData} (F : Fun K "sum_of" "sum_of" qW f fd) (T : Txt mg) (CF : Can P w K mg base "fraction_of" 2 fF fdF ["top", "bottom"] spFr) : FnOk P w K mg base CX0 3 f fd ["fractions"] xE := by
 refine F.ok scSumOf (fun vs H Q E h => ?_) (fun cdv A outer s H vs Q E hr h => ?_)
 · obtain ⟨_, _, _, rfl, _⟩ := h
   rfl
 · obtain ⟨l, us, frs, rfl, hl, hF, hs, hn, q⟩ := h
   refine ⟨_, (sumOfA T CF hr).2.h, ?_⟩
   refine ⟨_, rfl, l, rfl, ⟨_, SqL.of hl⟩, for_list (xs := us) (fun i σ H' => (∃ v3, σ = [some (.ref l), some (.int (sumF (frs.take i)).1), some (.int (sumF (frs.take i)).2), v3]) ∧ H' = H) ⟨⟨_, rfl⟩, rfl⟩ (fun i σ H' _ ⟨_, e⟩ => by rw [e]; exact SqL.of hl) ?_ ?_⟩
   · rintro i x σ H' hi ⟨⟨v3, rfl⟩, rfl⟩
     obtain ⟨p, hp, a, rfl, ha⟩ := hF.at hi
     obtain ⟨s1, s2, s3, s4⟩ := hs p (List.mem_of_getElem? hp)
     refine ⟨_, rfl, _, rfl, a, _, 1, _, rfl, rfl, SqT.of ha, rfl, _, _, rfl, rfl, .inr ⟨by omega, by omega⟩, _, rfl, a, _, 0, _, rfl, rfl, SqT.of ha, rfl, _, rfl, _, _, rfl, rfl, .inl ⟨by omega, by omega⟩, _, _, rfl, rfl, ?_⟩
     refine ⟨_, rfl, _, rfl, a, _, 1, _, rfl, rfl, SqT.of ha, rfl, _, _, rfl, rfl, .inr ⟨by omega, by omega⟩, ?_⟩
     refine ⟨⟨some (.ref a), ?_⟩, rfl⟩
     have : sumF (frs.take (i + 1)) = stp (sumF (frs.take i)) p := by
       rw [snoc_take hp]
       unfold sumF
       rw [List.foldl_append]
       rfl
     rw [this]
     rfl
   · rintro σ H' ⟨⟨v3, rfl⟩, rfl⟩
     rw [hF.len, List.take_length]
     obtain ⟨p1, p2⟩ := sum_pos frs (0, 1) (by decide) hs
     have p2 : (sumF frs).2.toNat ≤ 1 * 1048576 ^ frs.length := p2
     refine ⟨_, rfl, _, rfl, _, _, rfl, p1, big_ok (n := frs.length) (by omega) p1 (by rw [Nat.one_mul] at p2; exact p2), fun r H' hr' e => q r H' hr' e⟩
abbrev nTotal : List Str := ["some", "found", "top", "bottom"]
theorem scTotal : FnScope nTotal ["some"] (j6 qV) := ⟨rfl, rfl, rfl, by decide +kernel, rfl, by decide +kernel, by decide +kernel⟩
def totalA (T : Txt mg) (CF : Can P w K mg base "_law_ratio" 2 fF fdF ["top", "bottom"] spFr) (hr : Room 2 (XOf nTotal "_law_total" qV P w K mg base f cdv A outer s H0 E).A) : { t : TS // JSs (XOf nTotal "_law_total" qV P w K mg base f cdv A outer s H0 E) (j8 qV) t } :=
 have nd := scTotal.nd
 ⟨_, (j5 (jM (i := 1) nd rfl lL (jH (j0 (je_int) (j0 (je_int) j2 j7) j7)) sw_tup)
     (j5 (qC PassesOwn.never rfl (qN (jv 0 rfl vL)) (jg_two_d (i := 2) (j := 3) nd rfl rfl (by decide +kernel) (by decide +kernel)) (j9 (jM (i := 1) nd rfl lL (CF.je hr gD (j0 (jP kU (jP yR (jB jA (jv 1 rfl vL) (je_int) j3) (jv 3 rfl vL)) (jP yR (jv 2 rfl vL) (jB jA (jv 1 rfl vL) (je_int) j3))) (j0 (jP yR (jB jA (jv 1 rfl vL) (je_int) j3) (jv 3 rfl vL)) j2 jS) jS) jS) jR)) fo_name)
     (j9 (jI (jv 1 rfl vL)))))⟩
theorem ok_total {fd : FuncData} (F : Fun K "_law_total" "_law_total" qV f fd) (T : Txt mg) (CF : Can P w K mg base "_law_ratio" 2 fF fdF ["top", "bottom"] spFr) : FnOk P w K mg base CX0 3 f fd ["some"] xE := by
 refine F.ok scTotal (fun vs H Q E h => ?_) (fun cdv A outer s H vs Q E hr h => ?_)
 · obtain ⟨_, _, _, rfl, _⟩ := h
   rfl
 · obtain ⟨l, us, frs, rfl, hl, hF, hs, hn, q⟩ := h
   refine ⟨_, (totalA T CF hr).2.h, ?_⟩
   refine ⟨(by show 2 ≤ sizeLine; decide), fun t0 H1 u0 x0 => ?_⟩
   refine ⟨_, rfl, l, rfl, ⟨_, SqL.of (x0 _ _ hl)⟩, for_list (xs := us) (fun i σ H' => (∃ r v2 v3, σ = [some (.ref l), some (.ref r), v2, v3] ∧ H' r = some (.tup [.int (totF (frs.take i)).1, .int (totF (frs.take i)).2])) ∧ Ext H H') ⟨⟨t0, _, _, rfl, u0⟩, x0⟩ (fun i σ H' _ ⟨_, e⟩ => SqL.of (e _ _ hl)) ?_ ?_⟩
   · rintro i x σ H' hi ⟨⟨r, v2, v3, rfl, hr'⟩, e⟩
     obtain ⟨p, hp, a, rfl, ha⟩ := hF.at hi
     have ha' := e _ _ ha
     obtain ⟨s1, s2, s3, s4⟩ := hs p (List.mem_of_getElem? hp)
     obtain ⟨p1, p2⟩ := tot_bound (frs.take i) (0, 1) (by decide) fun q hq => hs q (List.mem_of_mem_take hq)
     have p2 : (totF (frs.take i)).2.toNat ≤ 1 * 1048576 ^ (frs.take i).length := p2
     have p1 : 0 < (totF (frs.take i)).2 := p1
     have hil : i < frs.length := (List.getElem?_eq_some_iff.mp hp).1
     have hb : ((totF (frs.take i)).2 * p.2).toNat ≤ 1048576 ^ (i + 1) := by
       rw [Nat.one_mul, List.length_take, show min i frs.length = i by omega] at p2
       rw [Nat.pow_succ]
       exact toNat_mul_le p1 s3 p2 s4
     refine ⟨a, _, rfl, SqT.of ha', rfl, _, _, rfl, _, _, rfl, rfl, ?_⟩
     refine ⟨_, rfl, r, _, 0, _, rfl, rfl, SqT.of hr', rfl, _, rfl, _, _, rfl, rfl, .inr ⟨by omega, by omega⟩, _, rfl, _, rfl, r, _, 1, _, rfl, rfl, SqT.of hr', rfl, _, _, rfl, rfl, .inl ⟨by omega, by omega⟩, _, _, rfl, rfl, ?_⟩
     refine ⟨_, rfl, r, _, 1, _, rfl, rfl, SqT.of hr', rfl, _, rfl, _, _, rfl, rfl, .inr ⟨by omega, by omega⟩, _, _, rfl, Int.mul_pos p1 s3, big_ok (n := i + 1) (by omega) (Int.mul_pos p1 s3) hb, fun r2 H2 hr2 e2 => ?_⟩
     refine ⟨⟨r2, _, _, rfl, ?_⟩, e.trans e2⟩
     have : totF (frs.take (i + 1)) = nrm (stp (totF (frs.take i)) p) := by
       rw [snoc_take hp]
       unfold totF
       rw [List.foldl_append]
       rfl
     rw [this]
     exact hr2
   · rintro σ H' ⟨⟨r, v2, v3, rfl, hr'⟩, e⟩
     rw [hF.len, List.take_length] at hr'
     rw [tot_nrm hs] at hr'
     exact ⟨_, rfl, q r H' hr' e⟩
end
end Eo
end
section
namespace Eo
open PySem L2
section
variable {P : Program} {w : World} {K : W.Frag} {mg : Str → Option Value} {base : Heap}
variable {f fM : Addr} {fdM : FuncData} {cdv : Value} {A : Around} {outer : List Env} {s : Shared} {H0 : Hp} {E : XK}
abbrev nMask : List Str := ["lot"]
theorem scMask : FnScope nMask ["lot"] (j6 xM) := ⟨rfl, rfl, rfl, by decide +kernel, rfl, by decide +kernel, by decide +kernel⟩
def spMask : Sp := fun vs H Q _ => ∃ (q : Addr) (ts : List Int), vs = [.ref q] ∧ H q = some (.tup (ts.map V.int)) ∧ (∀ t ∈ ts, 0 ≤ t ∧ t < 64) ∧ ts.length ≤ 64 ∧ ∀ H', Ext H H' → Q (.int ((maskN ts : Nat) : Int)) H'
def maskA (T : Txt mg) : { t : TS // JSs (XOf nMask "mask_of" xM P w K mg base f cdv A outer s H0 E) (j8 xM) t } :=
 have nd := scMask.nd
 ⟨_, (j9 (jI (jG (call_sumL rfl) gD T.sum (by decide +kernel) (j0 (yL (m := [none]) (Nc := ["thing"]) rfl (ji_tup (jv 0 rfl vL)) rfl (by decide +kernel) (by decide +kernel) (kT (psc := j6 xM) (by decide +kernel)) (jW (N := nMask) rfl rfl (by decide +kernel)) (fun cl C fp s H => jT (i := 0) (show (["thing"] : List Str).Nodup by decide +kernel) rfl (qL (by decide +kernel))) (fun cl C fp s H => qM) (fun cl C fp s H => (jP op_shl (je_int) (jv 0 rfl (kN (by decide +kernel))))) fo_name) j2 kR) kR)))⟩
theorem maskN_cast (ts : List Int) (h : ∀ t ∈ ts, 0 ≤ t) : (ts.map fun t => (1 : Int) * 2 ^ t.toNat).sum = ((maskN ts : Nat) : Int) := by
 induction ts with
 | nil => rfl
 | cons t r ih =>
   have e : maskN (t :: r) = 2 ^ t.toNat + maskN r := by simp [maskN]
   rw [List.map_cons, List.sum_cons, ih fun x hx => h x (List.mem_cons_of_mem _ hx), e]
   push_cast
   omega
theorem ok_mask {fd : FuncData} (F : Fun K "mask_of" "mask_of" xM f fd) (T : Txt mg) : FnOk P w K mg base CX0 1 f fd ["lot"] spMask := by
 refine F.ok scMask (fun vs H Q E h => ?_) (fun cdv A outer s H vs Q E hr h => ?_)
 · obtain ⟨_, _, rfl, _⟩ := h
   rfl
 · obtain ⟨q, ts, rfl, hq, hb, hl, k⟩ := h
   refine ⟨_, (maskA T).2.h, ?_⟩
   refine ⟨_, rfl, q, rfl, ⟨_, SqT.of hq⟩, comp_tup (xs := ts.map V.int) (by rw [List.length_map, PySem.sizeLine_eq]; omega) (fun D i σ' H' zs => (∃ v, σ' = [v]) ∧ Ext H H' ∧ H' D = some (.lst zs) ∧ H D = none ∧ zs = ((ts.take i).map fun t => (1 : Int) * 2 ^ t.toNat).map V.int) ?_ ?_ ?_ ?_⟩
   · intro D hD
     exact ⟨⟨_, rfl⟩, (Ext.refl _).new hD _, j4, hD, rfl⟩
   · rintro D i σ' H' zs hD ⟨_, e, h2, _, rfl⟩
     refine ⟨e _ _ hq, h2, ?_⟩
     rw [List.length_map, List.length_map, List.length_take]
     omega
   · rintro D i σ' H' zs x hD hx ⟨⟨v, rfl⟩, e, h2, hn, rfl⟩
     obtain ⟨z, hz, rfl⟩ : ∃ z : Int, ts[i]? = some z ∧ V.int z = x := by
       rw [List.getElem?_map] at hx
       cases hq : ts[i]? with
       | none => rw [hq] at hx; cases hx
       | some z => rw [hq] at hx; cases hx; exact ⟨z, rfl, rfl⟩
     have hzb := hb z (List.mem_of_getElem? hz)
     dsimp only [yJ, qQ]
     rw [if_pos rfl]
     refine ⟨_, rfl, _, _, rfl, rfl, ⟨?_, ?_, ?_⟩, h2, ⟨_, rfl⟩, e.updNew hn _, j4, hn, ?_⟩
     · first | omega | decide
     · first | omega | decide
     · first | omega | decide
     · have : ts.take (i + 1) = ts.take i ++ [z] := by
         rw [List.take_add_one, hz]
         rfl
       rw [this, List.map_append, List.map_append]
       rfl
   · rintro D σ' H' zs hD ⟨_, e, h2, hn, rfl⟩
     refine ⟨D, _, rfl, SqL.of h2, ?_⟩
     rw [List.length_map, List.take_length, maskN_cast ts fun t ht => (hb t ht).1]
     exact k H' e
end
end Eo
end
section
namespace L2
open PySem PySem.Spec PyProof.Rows
def CMulB (i j : Int) : Prop := i.natAbs < 2 ^ 1000 ∧ j.natAbs < 2 ^ 1000
theorem op_mulB {X : Cx} : OpR X (binaryOp .Mult) (rI CMulB fun i j => .int (i * j)) := opI fun _ _ _ _ _ _ _ hc q => mul_int q (.of_bits (Nat.le_trans (intBits_le hc.1) (by decide)) (Nat.le_trans (intBits_le hc.2) (by decide)))
end L2
namespace Eo
open PySem L2
section
variable {P : Program} {w : World} {K : W.Frag} {mg : Str → Option Value} {base : Heap}
variable {f fM : Addr} {fdM : FuncData} {cdv : Value} {A : Around} {outer : List Env} {s : Shared} {H0 : Hp} {E : XK}
abbrev nLess : List Str := ["one", "other"]
theorem scLess : FnScope nLess ["one", "other"] (j6 sLess) := ⟨rfl, rfl, rfl, by decide +kernel, rfl, by decide +kernel, by decide +kernel⟩
def spLess : Sp := fun vs H Q _ => ∃ (a b : Addr) (x1 y1 x2 y2 : Int), vs = [.ref a, .ref b] ∧ H a = some (.tup [.int x1, .int y1]) ∧ H b = some (.tup [.int x2, .int y2]) ∧ x1.natAbs < BIG ∧ y1.natAbs < BIG ∧ x2.natAbs < BIG ∧ y2.natAbs < BIG ∧ Q (.bl (decide (x1 * y2 < x2 * y1))) H
def lessA (T : Txt mg) : { t : TS // JSs (XOf nLess "is_less" sLess P w K mg base f cdv A outer s H0 E) (j8 sLess) t } :=
 have nd := scLess.nd
 ⟨_, (j9 (jI (je_cmpR xJ (jP op_mulB (jB jA (jv 0 rfl vL) (je_int) j3) (jB jA (jv 1 rfl vL) (je_int) j3)) (jP op_mulB (jB jA (jv 1 rfl vL) (je_int) j3) (jB jA (jv 0 rfl vL) (je_int) j3)) (jK _))))⟩
theorem ok_less {fd : FuncData} (F : Fun K "is_less" "is_less" sLess f fd) (T : Txt mg) : FnOk P w K mg base CX0 1 f fd ["one", "other"] spLess := by
 refine F.ok scLess (fun vs H Q E h => ?_) (fun cdv A outer s H vs Q E hr h => ?_)
 · obtain ⟨_, _, _, _, _, _, rfl, _⟩ := h
   rfl
 · obtain ⟨a, b, x1, y1, x2, y2, rfl, ha, hb, c1, c2, c3, c4, k⟩ := h
   refine ⟨_, (lessA T).2.h, ?_⟩
   exact ⟨_, rfl, a, _, 0, _, rfl, rfl, SqT.of ha, rfl, _, rfl, b, _, 1, _, rfl, rfl, SqT.of hb, rfl, _, _, rfl, rfl, ⟨c1, c4⟩, _, rfl, b, _, 0, _, rfl, rfl, SqT.of hb, rfl, _, rfl, a, _, 1, _, rfl, rfl, SqT.of ha, rfl, _, _, rfl, rfl, ⟨c3, c2⟩, _, _, rfl, rfl, k⟩
abbrev nLeft : List Str := ["box", "done"]
theorem scLeft : FnScope nLeft ["box", "done"] (j6 sLeft) := ⟨rfl, rfl, rfl, by decide +kernel, rfl, by decide +kernel, by decide +kernel⟩
def qE (w : Nat) (dn : Nat) : List Int := (upto w).filter fun t => !dn.testBit t.toNat
def qT : Sp := fun vs H Q _ => ∃ (b : Addr) (wi : Int) (ms : List Int) (pcs : List (List Int × Int)) (dn : Nat), vs = [.ref b, .int (dn : Int)] ∧ BoxAt H b wi ms pcs ∧ Good 16 11 wi ms pcs ∧ ∀ l H', H' l = some (.lst ((qE wi.toNat dn).map V.int)) → Ext H H' → Q (.ref l) H'
def leftA (T : Txt mg) : { t : TS // JSs (XOf nLeft "things_left" sLeft P w K mg base f cdv A outer s H0 E) (j8 sLeft) t } :=
 have nd := scLeft.nd
 ⟨_, (j9 (jI (yL (m := [none, some 1]) (Nc := ["thing", "done"]) rfl (ji_range1 gD T.range (j0 (jB jA (jv 0 rfl vL) (je_int) j3) j2 jE) jE) rfl (by decide +kernel) (by decide +kernel) (kT (psc := j6 sLeft) (by decide +kernel)) (jW (N := nLeft) rfl rfl (by decide +kernel)) (fun cl C fp s H => jT (i := 0) (show (["thing", "done"] : List Str).Nodup by decide +kernel) rfl (qL (by decide +kernel))) (fun cl C fp s H => jts_one (jF yP (jP op_and (jP op_shr (jv 1 rfl (kY (by decide +kernel))) (jv 0 rfl (kN (by decide +kernel)))) (je_int)) (je_int) (jK _))) (fun cl C fp s H => (jv 0 rfl (kN (by decide +kernel)))) yF)))⟩
theorem bit_off (dn i : Nat) : (V.int (Builtin.bitAnd ((dn : Int) / 2 ^ ((0 : Int) + (i : Int)).toNat) 1) = V.int 0) ↔ dn.testBit i = false := by
 have e1 : ((0 : Int) + (i : Int)).toNat = i := by omega
 have e2 : ((dn : Int) / 2 ^ i) = ((dn / 2 ^ i : Nat) : Int) := by push_cast; rfl
 have e3 : Builtin.bitAnd ((dn / 2 ^ i : Nat) : Int) 1 = ((dn / 2 ^ i &&& 1 : Nat) : Int) := bitAnd_nat _ 1
 rw [e1, e2, e3, Nat.testBit, Nat.shiftRight_eq_div_pow, Nat.and_comm]
 constructor
 · intro h
   have := V.int.inj h
   have : (1 &&& dn / 2 ^ i) = 0 := by omega
   simp [this]
 · intro h
   have : (1 &&& dn / 2 ^ i) = 0 := by simpa using h
   rw [this]
   rfl
theorem ok_left {fd : FuncData} (F : Fun K "things_left" "things_left" sLeft f fd) (T : Txt mg) : FnOk P w K mg base CX0 1 f fd ["box", "done"] qT := by
 refine F.ok scLeft (fun vs H Q E h => ?_) (fun cdv A outer s H vs Q E hr h => ?_)
 · obtain ⟨_, _, _, _, _, rfl, _⟩ := h
   rfl
 · obtain ⟨b, wi, ms, pcs, dn, rfl, hB, g, k⟩ := h
   obtain ⟨qm, qp, ps, b1, b2, b3, b4⟩ := hB.ex
   have w0 := g.w0
   have w1 := g.w1
   refine ⟨_, (leftA T).2.h, ?_⟩
   refine ⟨_, rfl, b, _, 0, _, rfl, rfl, SqT.of b1, rfl, _, rfl, by omega, by omega, comp_rng (n := wi.toNat) (by rw [PySem.sizeLine_eq]; omega) (fun D j σ' H' zs => (∃ v, σ' = [v, some (.int (dn : Int))]) ∧ zs = (((upto wi.toNat).take j).filter fun t => !dn.testBit t.toNat).map V.int ∧ Ext H H' ∧ H' D = some (.lst zs) ∧ H D = none) ?_ ?_ ?_ ?_⟩
   · intro D hD
     exact ⟨⟨_, rfl⟩, rfl, (Ext.refl _).new hD _, j4, hD⟩
   · rintro D j σ' H' zs hD hj ⟨_, rfl, e, h2, _⟩
     refine ⟨h2, ?_⟩
     rw [List.length_map]
     refine Nat.le_trans (List.length_filter_le _ _) ?_
     rw [List.length_take]
     omega
   · rintro D j σ' H' zs hD hj ⟨⟨v, rfl⟩, rfl, e, h2, hn⟩
     have tk : (upto wi.toNat).take (j + 1) = (upto wi.toNat).take j ++ [(j : Int)] := upto_take hj
     refine ⟨_, rfl, _, rfl, _, _, rfl, rfl, (by show (0 : Int) ≤ 0 + (j : Int); omega), _, _, rfl, rfl, rfl, _, rfl, ?_⟩
     refine ite2 (fun h1 => ?_) (fun h1 => ?_)
     · have h1 := (bit_off dn j).mp (of_decide_eq_true h1)
       refine ⟨_, rfl, h2, ⟨_, rfl⟩, ?_, e.updNew hn _, j4, hn⟩
       rw [tk, List.filter_append, List.map_append, List.filter_cons_of_pos (by show (!dn.testBit (j : Int).toNat) = true; rw [Int.toNat_natCast, h1]; rfl), Int.zero_add]
       rfl
     · have h1 : dn.testBit j = true := by
         cases hq : dn.testBit j with
         | true => rfl
         | false => exact absurd (decide_eq_true ((bit_off dn j).mpr hq)) h1
       refine ⟨⟨_, rfl⟩, ?_, e, h2, hn⟩
       rw [tk, List.filter_append, List.filter_cons_of_neg (by show ¬ (!dn.testBit (j : Int).toNat) = true; rw [Int.toNat_natCast, h1]; simp), List.filter_nil, List.append_nil]
   · rintro D σ' H' zs hD ⟨_, rfl, e, h2, hn⟩
     have : (upto wi.toNat).take wi.toNat = upto wi.toNat := by
       have := List.take_length (l := upto wi.toNat)
       rw [upto_len] at this
       exact this
     rw [this] at h2
     exact k D H' h2 e
end
end Eo
end
section
namespace Eo
open PySem L2
theorem _root_.L2.Ext.tups {H H' : Hp} (e : Ext H H') : Tups H H' := fun b xs h => e b _ h
theorem PcsAt.at {H : Hp} : ∀ {vs : List V} {ps : List (List Int × Int)}, PcsAt H vs ps → ∀ {i : Nat} {v : V}, vs[i]? = some v → ∃ pc, ps[i]? = some pc ∧ PcAt H v pc
 | [], [], _, i, v, e => by cases e
 | x :: vs, p :: ps, h, 0, v, e => by cases e; exact ⟨p, rfl, h.1⟩
 | x :: vs, p :: ps, h, i + 1, v, e => PcsAt.at h.2 (i := i) e
 | [], _ :: _, h, _, _, _ => h.elim
 | _ :: _, [], h, _, _, _ => h.elim
theorem PcsAt.snoc {H : Hp} {v : V} {p : List Int × Int} (hv : PcAt H v p) : ∀ {vs : List V} {ps : List (List Int × Int)}, PcsAt H vs ps → PcsAt H (vs ++ [v]) (ps ++ [p])
 | [], [], _ => ⟨hv, trivial⟩
 | x :: vs, q :: ps, h => ⟨h.1, PcsAt.snoc hv h.2⟩
 | [], _ :: _, h => h.elim
 | _ :: _, [], h => h.elim
def fitM (dn : Nat) (pc : List Int × Int) : Bool := decide (maskN pc.1 &&& dn = 0)
def fitS (ds : List Int) (pc : List Int × Int) : Bool := !pc.1.any fun t => decide (t ∈ ds)
def Done (dn : Nat) (ds : List Int) : Prop := (∀ n : Nat, dn.testBit n = decide ((n : Int) ∈ ds)) ∧ ∀ t ∈ ds, 0 ≤ t ∧ t < 64
theorem fit_same {dn : Nat} {ds : List Int} (h : Done dn ds) {w : Int} {pc : List Int × Int} (g : GoodPc w pc) : fitM dn pc = fitS ds pc := by
 have hb : ∀ n, (maskN pc.1).testBit n = decide ((n : Int) ∈ pc.1) := fun n => maskN_bit pc.1 n g.lot.ris fun t ht => (g.lot.bnd t ht).1
 unfold fitM fitS
 rw [Bool.eq_iff_iff, decide_eq_true_iff, Bool.not_eq_true', List.any_eq_false]
 constructor
 · intro e t ht hd
   have hd : t ∈ ds := of_decide_eq_true hd
   obtain ⟨n, rfl⟩ : ∃ n : Nat, t = (n : Int) := ⟨t.toNat, by have := (g.lot.bnd t ht).1; omega⟩
   have : (maskN pc.1 &&& dn).testBit n = true := by rw [Nat.testBit_and, hb, h.1, decide_eq_true ht, decide_eq_true hd]; rfl
   rw [e, Nat.zero_testBit] at this
   cases this
 · intro e
   refine Nat.eq_of_testBit_eq fun n => ?_
   rw [Nat.zero_testBit, Nat.testBit_and, hb, h.1]
   by_cases h1 : (n : Int) ∈ pc.1
   · have := e _ h1
     have h2 : ¬ (n : Int) ∈ ds := fun z => this (decide_eq_true z)
     rw [decide_eq_false h2, Bool.and_false]
   · rw [decide_eq_false h1, Bool.false_and]
section
variable {P : Program} {w : World} {K : W.Frag} {mg : Str → Option Value} {base : Heap}
variable {f fM : Addr} {fdM : FuncData} {cdv : Value} {A : Around} {outer : List Env} {s : Shared} {H0 : Hp} {E : XK}
abbrev nFit : List Str := ["box", "done"]
theorem scFit : FnScope nFit ["box", "done"] (j6 sFit) := ⟨rfl, rfl, rfl, by decide +kernel, rfl, by decide +kernel, by decide +kernel⟩
def spFit : Sp := fun vs H Q _ => ∃ (b : Addr) (wi : Int) (ms : List Int) (pcs : List (List Int × Int)) (dn : Nat), vs = [.ref b, .int (dn : Int)] ∧ BoxAt H b wi ms pcs ∧ Good 16 11 wi ms pcs ∧ ∀ l us H', H' l = some (.lst us) → PcsAt H' us (pcs.filter (fitM dn)) → Ext H H' → Q (.ref l) H'
def fitA (T : Txt mg) (CM : Can P w K mg base "mask_of" 1 fM fdM ["lot"] spMask) (hr : Room 1 (XOf nFit "fitting" sFit P w K mg base f cdv A outer s H0 E).A) : { t : TS // JSs (XOf nFit "fitting" sFit P w K mg base f cdv A outer s H0 E) (j8 sFit) t } :=
 have nd := scFit.nd
 ⟨_, (j9 (jI (yL (m := [none, some 1]) (Nc := ["piece", "done"]) rfl (ji_tup (jB jA (jv 0 rfl vL) (je_int) j3)) rfl (by decide +kernel) (by decide +kernel) (kT (psc := j6 sFit) (by decide +kernel)) (jW (N := nFit) rfl rfl (by decide +kernel)) (fun cl C fp s H => jT (i := 0) (show (["piece", "done"] : List Str).Nodup by decide +kernel) rfl (qL (by decide +kernel))) (fun cl C fp s H => jts_one (jF yP (jP op_and (CM.je hr (gl_b (by decide +kernel)) (j0 (jB kD (jv 0 rfl (kN (by decide +kernel))) (je_int) j3) j2 jE) jE) (jv 1 rfl (kY (by decide +kernel)))) (je_int) (jK _))) (fun cl C fp s H => (jv 0 rfl (kN (by decide +kernel)))) fo_sub)))⟩
theorem ok_fit {fd : FuncData} (F : Fun K "fitting" "fitting" sFit f fd) (T : Txt mg) (CM : Can P w K mg base "mask_of" 1 fM fdM ["lot"] spMask) : FnOk P w K mg base CX0 2 f fd ["box", "done"] spFit := by
 refine F.ok scFit (fun vs H Q E h => ?_) (fun cdv A outer s H vs Q E hr h => ?_)
 · obtain ⟨_, _, _, _, _, rfl, _⟩ := h
   rfl
 · obtain ⟨b, wi, ms, pcs, dn, rfl, hB, g, k⟩ := h
   obtain ⟨qm, qp, ps, b1, b2, b3, b4⟩ := hB.ex
   have pl := b4.len
   have gl := g.pl
   have w0 := g.w0
   have w1 := g.w1
   refine ⟨_, (fitA T CM hr).2.h, ?_⟩
   refine ⟨_, rfl, b, _, 2, _, rfl, rfl, SqT.of b1, rfl, qp, rfl, ⟨_, SqT.of b3⟩, comp_tup (xs := ps) (by rw [PySem.sizeLine_eq]; omega) (fun D j σ' H' zs => (∃ v, σ' = [v, some (.int (dn : Int))]) ∧ PcsAt H' zs ((pcs.take j).filter (fitM dn)) ∧ Ext H H' ∧ H' D = some (.lst zs) ∧ H D = none) ?_ ?_ ?_ ?_⟩
   · intro D hD
     exact ⟨⟨_, rfl⟩, trivial, (Ext.refl _).new hD _, j4, hD⟩
   · rintro D j σ' H' zs hD ⟨_, hP, e, h2, _⟩
     refine ⟨e _ _ b3, h2, ?_⟩
     rw [hP.len]
     refine Nat.le_trans (List.length_filter_le _ _) ?_
     rw [List.length_take]
     omega
   · rintro D j σ' H' zs x hD hx ⟨⟨v, rfl⟩, hP, e, h2, hn⟩
     obtain ⟨pc, hpc, hPc⟩ := b4.at hx
     obtain ⟨pa, pq, rfl, c1, c2⟩ := id hPc
     have gp := g.pg pc (List.mem_of_getElem? hpc)
     have lt := qK _ 0 wi gp.lot.ris gp.lot.bnd
     have tk : pcs.take (j + 1) = pcs.take j ++ [pc] := by
       rw [List.take_add_one, hpc]
       rfl
     refine ⟨_, rfl, pa, _, 0, _, rfl, rfl, SqT.of (e _ _ c1), rfl, pq, pc.1, rfl, e _ _ c2, fun t ht => ?_, by omega, fun H3 e3 => ?_⟩
     · have := gp.lot.bnd t ht
       omega
     refine ⟨_, rfl, _, _, rfl, rfl, rfl, _, rfl, ?_⟩
     have ez : decide (V.int (Builtin.bitAnd ((maskN pc.1 : Nat) : Int) (dn : Int)) = V.int 0) = fitM dn pc := by
       unfold fitM
       rw [bitAnd_nat, dec_int, Bool.eq_iff_iff, decide_eq_true_iff, decide_eq_true_iff]
       omega
     show if decide (V.int (Builtin.bitAnd ((maskN pc.1 : Nat) : Int) (dn : Int)) = V.int 0) = true then _ else _
     rw [ez]
     have h23 := e3 _ _ h2
     refine ite2 (fun h1 => ?_) (fun h1 => ?_)
     · have tw : Tups H3 (upd H3 D (.lst (zs ++ [.ref pa]))) := Tups.upd h23 _
       refine ⟨_, rfl, h23, ⟨_, rfl⟩, ?_, (e.trans e3).updNew hn _, j4, hn⟩
       rw [tk, List.filter_append, List.filter_cons_of_pos h1]
       exact PcsAt.snoc (hPc.mono (((e.trans e3).tups).trans tw)) (hP.mono (e3.tups.trans tw))
     · refine ⟨⟨_, rfl⟩, ?_, e.trans e3, h23, hn⟩
       rw [tk, List.filter_append, List.filter_cons_of_neg h1, List.filter_nil, List.append_nil]
       exact hP.mono e3.tups
   · rintro D σ' H' zs hD ⟨_, hP, e, h2, hn⟩
     rw [pl, List.take_length] at hP
     exact k D zs H' h2 hP e
abbrev nFits : List Str := ["box", "k", "done"]
theorem scFits : FnScope nFits ["box", "k", "done"] (j6 sFits) := ⟨rfl, rfl, rfl, by decide +kernel, rfl, by decide +kernel, by decide +kernel⟩
def yG : Sp := fun vs H Q _ => ∃ (b d : Addr) (wi : Int) (ms : List Int) (pcs : List (List Int × Int)) (i : Nat) (pc : List Int × Int) (ds : List Int), vs = [.ref b, .int (i : Int), .ref d] ∧ BoxAt H b wi ms pcs ∧ Good 16 11 wi ms pcs ∧ pcs[i]? = some pc ∧ H d = some (.tup (ds.map V.int)) ∧ ∀ H', Ext H H' → Q (.bl (fitS ds pc)) H'
def fitsA (T : Txt mg) : { t : TS // JSs (XOf nFits "_law_fits" sFits P w K mg base f cdv A outer s H0 E) (j8 sFits) t } :=
 have nd := scFits.nd
 ⟨_, (j9 (jI (je_not (jG (call_anyL rfl) gD T.any (by decide +kernel) (j0 (yL (m := [none, some 2]) (Nc := ["t", "done"]) rfl (ji_tup (jB jA (jB jA (jB jA (jv 0 rfl vL) (je_int) j3) (jv 1 rfl vL) kW) (je_int) j3)) rfl (by decide +kernel) (by decide +kernel) (kT (psc := j6 sFits) (by decide +kernel)) (jW (N := nFits) rfl rfl (by decide +kernel)) (fun cl C fp s H => jT (i := 0) (show (["t", "done"] : List Str).Nodup by decide +kernel) rfl (qL (by decide +kernel))) (fun cl C fp s H => qM) (fun cl C fp s H => (je_cmpR op_in_b (jv 0 rfl (kN (by decide +kernel))) (jv 1 rfl (kY (by decide +kernel))) nm_name)) fo_sub) j2 kR) kR))))⟩
theorem ok_fits {fd : FuncData} (F : Fun K "_law_fits" "_law_fits" sFits f fd) (T : Txt mg) : FnOk P w K mg base CX0 1 f fd ["box", "k", "done"] yG := by
 refine F.ok scFits (fun vs H Q E h => ?_) (fun cdv A outer s H vs Q E hr h => ?_)
 · obtain ⟨_, _, _, _, _, _, _, _, rfl, _⟩ := h
   rfl
 · obtain ⟨b, d, wi, ms, pcs, i, pc, ds, rfl, hB, g, hpc, hd, k⟩ := h
   obtain ⟨qm, qp, ps, b1, b2, b3, b4⟩ := hB.ex
   have pl := b4.len
   have w0 := g.w0
   have w1 := g.w1
   have hil : i < ps.length := by
     rw [pl]
     exact (List.getElem?_eq_some_iff.mp hpc).1
   have hy1 : ps[i]? = some ps[i] := List.getElem?_eq_getElem hil
   obtain ⟨pc', hpc', pa, pq, hpe, c1, c2⟩ := b4.at hy1
   rw [hpc] at hpc'
   cases hpc'
   have gp := g.pg pc (List.mem_of_getElem? hpc)
   have lt := qK _ 0 wi gp.lot.ris gp.lot.bnd
   refine ⟨_, (fitsA T).2.h, ?_⟩
   refine ⟨_, rfl, b, _, 2, _, rfl, rfl, SqT.of b1, rfl, _, rfl, qp, _, _, _, rfl, rfl, SqT.of b3, yT (by rw [hy1, hpe]), pa, _, 0, _, rfl, rfl, SqT.of c1, rfl, pq, rfl, ⟨_, SqT.of c2⟩, comp_tup (xs := pc.1.map V.int) (by rw [List.length_map, PySem.sizeLine_eq]; omega) (fun D j σ' H' zs => (∃ v, σ' = [v, some (.ref d)]) ∧ Ext H H' ∧ H' D = some (.lst zs) ∧ H D = none ∧ zs = ((pc.1.take j).map fun t => decide (t ∈ ds)).map V.bl) ?_ ?_ ?_ ?_⟩
   · intro D hD
     exact ⟨⟨_, rfl⟩, (Ext.refl _).new hD _, j4, hD, rfl⟩
   · rintro D j σ' H' zs hD ⟨_, e, h2, _, rfl⟩
     refine ⟨e _ _ c2, h2, ?_⟩
     rw [List.length_map, List.length_map, List.length_take]
     omega
   · rintro D j σ' H' zs x hD hx ⟨⟨v, rfl⟩, e, h2, hn, rfl⟩
     obtain ⟨z, hz, rfl⟩ : ∃ z : Int, pc.1[j]? = some z ∧ V.int z = x := by
       rw [List.getElem?_map] at hx
       cases hq : pc.1[j]? with
       | none => rw [hq] at hx; cases hx
       | some z => rw [hq] at hx; cases hx; exact ⟨z, rfl, rfl⟩
     dsimp only [yJ, qQ]
     rw [if_pos rfl]
     refine ⟨_, rfl, _, rfl, d, _, rfl, .inr (SqT.of (e _ _ hd)), rfl, kQ _, h2, ⟨_, rfl⟩, e.updNew hn _, j4, hn, ?_⟩
     have : pc.1.take (j + 1) = pc.1.take j ++ [z] := by
       rw [List.take_add_one, hz]
       rfl
     rw [this, List.map_append, List.map_append]
     show _ ++ [V.bl (inV (.int z) (ds.map V.int))] = _
     rw [yE]
     rfl
   · rintro D σ' H' zs hD ⟨_, e, h2, hn, rfl⟩
     refine ⟨D, _, rfl, SqL.of h2, _, rfl, ?_⟩
     have ea : (((pc.1.map V.int).length |> fun n => (pc.1.take n).map fun t => decide (t ∈ ds)).any id) = pc.1.any fun t => decide (t ∈ ds) := by
       show ((pc.1.take (pc.1.map V.int).length).map fun t => decide (t ∈ ds)).any id = _
       rw [List.length_map, List.take_length, List.any_map]
       rfl
     have := k H' e
     unfold fitS at this
     rw [← ea] at this
     exact this
end
end Eo
end
section
namespace L2
open PySem
theorem je_ifE {X : Cx} {a b c : Expr} {pos : Pos} {ta tb : TE} {tc : TT} (hc : JT X c tc) (ha : JE X a ta) (hb : JE X b tb) : JE X (.IfExp c a b pos) (tIf tc ta tb) := ⟨pe_ifExp hc.h ha.h hb.h⟩
end L2
namespace Eo
open PySem L2
def All2 {C : Type} (R : V → C → Prop) : List V → List C → Prop
 | [], [] => True
 | v :: vs, c :: cs => R v c ∧ All2 R vs cs
 | _, _ => False
theorem All2.mono {C : Type} {R S : V → C → Prop} (h : ∀ v c, R v c → S v c) : ∀ {vs : List V} {cs : List C}, All2 R vs cs → All2 S vs cs
 | [], [], _ => trivial
 | _ :: _, _ :: _, q => ⟨h _ _ q.1, All2.mono h q.2⟩
 | [], _ :: _, q => q.elim
 | _ :: _, [], q => q.elim
theorem All2.len {C : Type} {R : V → C → Prop} : ∀ {vs : List V} {cs : List C}, All2 R vs cs → vs.length = cs.length
 | [], [], _ => rfl
 | _ :: _, _ :: _, q => congrArg (· + 1) (All2.len q.2)
 | [], _ :: _, q => q.elim
 | _ :: _, [], q => q.elim
theorem All2.at {C : Type} {R : V → C → Prop} : ∀ {vs : List V} {cs : List C}, All2 R vs cs → ∀ {i : Nat} {v : V}, vs[i]? = some v → ∃ c, cs[i]? = some c ∧ R v c
 | [], [], _, i, v, e => by cases e
 | x :: vs, c :: cs, q, 0, v, e => by cases e; exact ⟨c, rfl, q.1⟩
 | x :: vs, c :: cs, q, i + 1, v, e => All2.at q.2 (i := i) e
 | [], _ :: _, q, _, _, _ => q.elim
 | _ :: _, [], q, _, _, _ => q.elim
theorem All2.append {C : Type} {R : V → C → Prop} : ∀ {vs : List V} {cs : List C} {vs2 : List V} {cs2 : List C}, All2 R vs cs → All2 R vs2 cs2 → All2 R (vs ++ vs2) (cs ++ cs2)
 | [], [], _, _, _, q => q
 | _ :: _, _ :: _, _, _, h, q => ⟨h.1, All2.append h.2 q⟩
 | [], _ :: _, _, _, q, _ => q.elim
 | _ :: _, [], _, _, q, _ => q.elim
theorem All2.snoc {C : Type} {R : V → C → Prop} {v : V} {c : C} {vs : List V} {cs : List C} (h : All2 R vs cs) (hv : R v c) : All2 R (vs ++ [v]) (cs ++ [c]) := h.append ⟨hv, trivial⟩
def csM (ms : List Int) (pcs : List (List Int × Int)) (t : Int) (dn : Nat) : List (List Int × Int) := (if decide (t ∈ ms) = true then [([t], 0)] else []) ++ (pcs.filter (fitM dn)).filter fun pc => decide (t ∈ pc.1)
def csS (ms : List Int) (pcs : List (List Int × Int)) (t : Int) (ds : List Int) : List (List Int × Int) := (if decide (t ∈ ms) = true then [([t], 0)] else []) ++ pcs.filter fun pc => decide (t ∈ pc.1) && fitS ds pc
theorem cs_same {mt mp wi : Int} {ms : List Int} {pcs : List (List Int × Int)} (g : Good mt mp wi ms pcs) {t : Int} {dn : Nat} {ds : List Int} (h : Done dn ds) : csM ms pcs t dn = csS ms pcs t ds := by
 unfold csM csS
 rw [List.filter_filter]
 congr 1
 refine List.filter_congr fun pc hpc => ?_
 rw [fit_same h (g.pg pc hpc)]
def CaM (H : Hp) (v : V) (c : List Int × Int) : Prop := ∃ a, v = .ref a ∧ H a = some (.tup [.int c.2, .int ((maskN c.1 : Nat) : Int)])
def CaS (ds : List Int) (hv : Int) (H : Hp) (v : V) (c : List Int × Int) : Prop := ∃ a q, v = .ref a ∧ H a = some (.tup [.ref q, .int (hv + c.2)]) ∧ H q = some (.tup ((ds ++ c.1).map V.int))
theorem CaM.mono {H H' : Hp} (t : Tups H H') {v : V} {c : List Int × Int} (h : CaM H v c) : CaM H' v c := let ⟨a, e, q⟩ := h; ⟨a, e, t _ _ q⟩
theorem CaS.mono {ds : List Int} {hv : Int} {H H' : Hp} (t : Tups H H') {v : V} {c : List Int × Int} (h : CaS ds hv H v c) : CaS ds hv H' v c := let ⟨a, q, e, q1, q2⟩ := h; ⟨a, q, e, t _ _ q1, t _ _ q2⟩
section
variable {P : Program} {w : World} {K : W.Frag} {mg : Str → Option Value} {base : Heap}
variable {f fM fF : Addr} {fdM fdF : FuncData} {cdv : Value} {A : Around} {outer : List Env} {s : Shared} {H0 : Hp} {E : XK}
abbrev nCasesOf : List Str := ["box", "done", "thing", "taken"]
theorem scCasesOf : FnScope nCasesOf ["box", "done", "thing"] (j6 yO) := ⟨rfl, rfl, rfl, by decide +kernel, rfl, by decide +kernel, by decide +kernel⟩
def spCasesOf : Sp := fun vs H Q _ => ∃ (b : Addr) (wi t : Int) (ms : List Int) (pcs : List (List Int × Int)) (dn : Nat), vs = [.ref b, .int (dn : Int), .int t] ∧ BoxAt H b wi ms pcs ∧ Good 16 11 wi ms pcs ∧ 0 ≤ t ∧ t < wi ∧ ∀ l us H', H' l = some (.lst us) → All2 (CaM H') us (csM ms pcs t dn) → Ext H H' → Q (.ref l) H'
def casesOfA (T : Txt mg) (CM : Can P w K mg base "mask_of" 1 fM fdM ["lot"] spMask) (CF : Can P w K mg base "fitting" 2 fF fdF ["box", "done"] spFit) (hr : Room 2 (XOf nCasesOf "cases_of" yO P w K mg base f cdv A outer s H0 E).A) : { t : TS // JSs (XOf nCasesOf "cases_of" yO P w K mg base f cdv A outer s H0 E) (j8 yO) t } :=
 have nd := scCasesOf.nd
 ⟨_, (j5 (js_setC (i := 3) nd rfl lL ⟨by rfl⟩ (m := [none, some 2]) (Nc := ["piece", "thing"]) rfl (qN (CF.je hr gD (j0 (jv 0 rfl vL) (j0 (jv 1 rfl vL) j2 j1) j1) j1)) rfl (by decide +kernel) (by decide +kernel) (kT (psc := j6 yO) (by decide +kernel)) (jW (N := nCasesOf) rfl rfl (by decide +kernel)) (fun cl C fp s H => jT (i := 0) (show (["piece", "thing"] : List Str).Nodup by decide +kernel) rfl (qL (by decide +kernel))) (fun cl C fp s H => jts_one (jF op_in_b (jv 1 rfl (kY (by decide +kernel))) (jB kD (jv 0 rfl (kN (by decide +kernel))) (je_int) j3) nm_sub)) (fun cl C fp s H => (jH (j0 (jB kD (jv 0 rfl (kN (by decide +kernel))) (je_int) j3) (j0 (CM.je (hr.mono (by decide)) (gl_b (by decide +kernel)) (j0 (jB kD (jv 0 rfl (kN (by decide +kernel))) (je_int) j3) j2 jE) jE) j2 jL) jE))) yF)
     (j9 (jI (je_ifE (jF op_in_seq (jv 2 rfl vC) (jB jA (jv 0 rfl vL) (je_int) j3) nm_sub) (jP op_catLU (kI (j0 (jH (j0 (je_int) (j0 (jP op_shl (je_int) (jv 2 rfl vC)) j2 jS) j7)) j2 kO)) (jv 3 rfl vL)) (jv 3 rfl vL)))))⟩
theorem ok_casesOf {fd : FuncData} (F : Fun K "cases_of" "cases_of" yO f fd) (T : Txt mg) (CM : Can P w K mg base "mask_of" 1 fM fdM ["lot"] spMask) (CF : Can P w K mg base "fitting" 2 fF fdF ["box", "done"] spFit) : FnOk P w K mg base CX0 3 f fd ["box", "done", "thing"] spCasesOf := by
 refine F.ok scCasesOf (fun vs H Q E h => ?_) (fun cdv A outer s H vs Q E hr h => ?_)
 · obtain ⟨_, _, _, _, _, _, rfl, _⟩ := h
   rfl
 · obtain ⟨b, wi, t, ms, pcs, dn, rfl, hB, g, t0, t1, k⟩ := h
   obtain ⟨qm, qp, ps, b1, b2, b3, b4⟩ := hB.ex
   have gl := g.pl
   have w0 := g.w0
   have w1 := g.w1
   refine ⟨_, (casesOfA T CM CF hr).2.h, ?_⟩
   refine ⟨_, rfl, _, rfl, b, wi, ms, pcs, dn, rfl, hB, g, fun l us H1 hl hP e1 => ?_⟩
   have ul := hP.len
   have ul2 : (pcs.filter (fitM dn)).length ≤ pcs.length := List.length_filter_le _ _
   refine ⟨l, rfl, ⟨_, SqL.of hl⟩, comp_lst (xs := us) (by rw [PySem.sizeLine_eq]; omega) (fun D j σ' H' zs => (∃ v, σ' = [v, some (.int t)]) ∧ All2 (CaM H') zs (((pcs.filter (fitM dn)).take j).filter fun pc => decide (t ∈ pc.1)) ∧ Ext H1 H' ∧ H' D = some (.lst zs) ∧ H1 D = none) ?_ ?_ ?_ ?_⟩
   · intro D hD
     exact ⟨⟨_, rfl⟩, trivial, (Ext.refl _).new hD _, j4, hD⟩
   · rintro D j σ' H' zs hD ⟨_, hA, e, h2, _⟩
     refine ⟨e _ _ hl, h2, ?_⟩
     rw [hA.len]
     refine Nat.le_trans (List.length_filter_le _ _) ?_
     rw [List.length_take]
     omega
   · rintro D j σ' H' zs x hD hx ⟨⟨v, rfl⟩, hA, e, h2, hn⟩
     obtain ⟨pc, hpc, pa, pq, rfl, c1, c2⟩ := hP.at hx
     have gp := g.pg pc (List.mem_filter.mp (List.mem_of_getElem? hpc)).1
     have lt := qK _ 0 wi gp.lot.ris gp.lot.bnd
     have tk : (pcs.filter (fitM dn)).take (j + 1) = (pcs.filter (fitM dn)).take j ++ [pc] := by
       rw [List.take_add_one, hpc]
       rfl
     refine ⟨_, rfl, _, rfl, pa, _, 0, _, rfl, rfl, SqT.of (e _ _ c1), rfl, pq, _, rfl, .inr (SqT.of (e _ _ c2)), rfl, kQ _, _, rfl, ?_⟩
     show if inV (.int t) (pc.1.map V.int) = true then _ else _
     rw [yE]
     refine ite2 (fun h1 => ?_) (fun h1 => ?_)
     · refine ⟨_, rfl, pa, _, 1, _, rfl, rfl, SqT.of (e _ _ c1), rfl, _, rfl, pa, _, 0, _, rfl, rfl, SqT.of (e _ _ c1), rfl, pq, pc.1, rfl, e _ _ c2, (fun z hz => by have := gp.lot.bnd z hz; omega), by omega, fun H3 e3 => ⟨(by show 2 ≤ sizeLine; decide), fun r H4 hr4 e4 => ?_⟩⟩
       have e34 := e3.trans e4
       have h24 := e34 _ _ h2
       have tw : Tups H4 (upd H4 D (.lst (zs ++ [.ref r]))) := Tups.upd h24 _
       refine ⟨h24, ⟨_, rfl⟩, ?_, (e.trans e34).updNew hn _, j4, hn⟩
       rw [tk, List.filter_append, List.filter_cons_of_pos (p := fun pc : List Int × Int => decide (t ∈ pc.1)) h1]
       exact (hA.mono fun v c q => CaM.mono (e34.tups.trans tw) q).snoc ⟨r, rfl, tw _ _ hr4⟩
     · refine ⟨⟨_, rfl⟩, ?_, e, h2, hn⟩
       rw [tk, List.filter_append, List.filter_cons_of_neg (p := fun pc : List Int × Int => decide (t ∈ pc.1)) h1, List.filter_nil, List.append_nil]
       exact hA
   · rintro D σ' H2 zs hD ⟨_, hA, e2, hD2, hn⟩
     rw [ul, List.take_length] at hA
     have X2 := e1.trans e2
     have zl := hA.len
     have zl2 : ((pcs.filter (fitM dn)).filter fun pc => decide (t ∈ pc.1)).length ≤ (pcs.filter (fitM dn)).length := List.length_filter_le _ _
     refine ⟨_, rfl, _, rfl, b, _, 1, _, rfl, rfl, SqT.of (X2 _ _ b1), rfl, qm, _, rfl, .inr (SqT.of (X2 _ _ b2)), rfl, kQ _, _, rfl, ?_⟩
     have ec : csM ms pcs t dn = (if decide (t ∈ ms) = true then [([t], 0)] else []) ++ ((pcs.filter (fitM dn)).filter fun pc => decide (t ∈ pc.1)) := rfl
     show if inV (.int t) (ms.map V.int) = true then _ else _
     rw [yE]
     refine ite2 (fun h1 => ?_) (fun h1 => ?_)
     · rw [if_pos h1] at ec
       refine ⟨_, rfl, _, _, rfl, rfl, ⟨t0, by omega, by decide⟩, (by show 2 ≤ sizeLine; decide), fun r H4 hr4 e4 => ⟨(by show 1 ≤ sizeLine; decide), fun l5 H5 hl5 e5 _ => ⟨_, rfl, l5, D, _, _, rfl, rfl, hl5, (e4.trans e5) _ _ hD2, (by rw [PySem.sizeLine_eq, List.length_cons, List.length_nil]; omega), fun l6 H6 hl6 e6 _ => ?_⟩⟩⟩
       have X6 := (e4.trans e5).trans e6
       refine k l6 _ H6 hl6 ?_ (X2.trans X6)
       rw [ec]
       refine All2.append (vs := [.ref r]) ⟨⟨r, rfl, (e5.trans e6) _ _ ?_⟩, trivial⟩ (hA.mono fun v c q => CaM.mono X6.tups q)
       rw [hr4]
       have : ((maskN [t] : Nat) : Int) = 1 * 2 ^ t.toNat := (maskN_cast [t] fun x hx => by cases List.mem_singleton.mp hx; exact t0).symm.trans (by simp)
       rw [this]
     · rw [if_neg h1, List.nil_append] at ec
       refine ⟨_, rfl, k D zs H2 hD2 ?_ X2⟩
       rw [ec]
       exact hA
abbrev nCases : List Str := ["box", "thing", "done", "heavy", "found", "k"]
theorem scCases : FnScope nCases ["box", "thing", "done", "heavy"] (j6 qI) := ⟨rfl, rfl, rfl, by decide +kernel, rfl, by decide +kernel, by decide +kernel⟩
def yW : Sp := fun vs H Q _ => ∃ (b d : Addr) (wi t hv : Int) (ms : List Int) (pcs : List (List Int × Int)) (ds : List Int), vs = [.ref b, .int t, .ref d, .int hv] ∧ BoxAt H b wi ms pcs ∧ Good 16 11 wi ms pcs ∧ H d = some (.tup (ds.map V.int)) ∧ ds.length ≤ 1000 ∧ ∀ l us H', H' l = some (.lst us) → All2 (CaS ds hv H') us (csS ms pcs t ds) → Ext H H' → H l = none → Q (.ref l) H'
def casesB (T : Txt mg) (CF : Can P w K mg base "_law_fits" 1 fF fdF ["box", "k", "done"] yG) (hr : Room 1 (XOf nCases "_law_cases" qI P w K mg base f cdv A outer s H0 E).A) : { t : TS // JSs (XOf nCases "_law_cases" qI P w K mg base f cdv A outer s H0 E) ((j8 qI).drop 2) t } :=
 have nd := scCases.nd
 ⟨_, (j5 (qC PassesOwn.never rfl (ji_range1 gD T.range (j0 (jG jJ gD T.len (by decide +kernel) (j0 (jB jA (jv 0 rfl vL) (je_int) j3) j2 jE) jE) j2 jL) jL) (jT (i := 5) nd rfl lL) (j9 (jX (jt_w (jw_and (jF op_in_seq (jv 1 rfl vL) (jB jA (jB jA (jB jA (jv 0 rfl vL) (je_int) j3) (jv 5 rfl vL) kW) (je_int) j3) nm_sub) (jw_and1 (kS (CF.je hr gD (j0 (jv 0 rfl vL) (j0 (jv 5 rfl vL) (j0 (jv 2 rfl vL) j2 j1) j1) j1) j1) jZ)))) (j9 (js_expr (je_bm PySem.F.plainAttrs_list PySem.F.slot_list_append PySem.F.type_list_append mt_append (jv 4 rfl vL) (j0 (jH (j0 (jP op_catU (jv 2 rfl vL) (jB jA (jB jA (jB jA (jv 0 rfl vL) (je_int) j3) (jv 5 rfl vL) kW) (je_int) j3)) (j0 (jP kU (jv 3 rfl vL) (jB jA (jB jA (jB jA (jv 0 rfl vL) (je_int) j3) (jv 5 rfl vL) kW) (je_int) j3)) j2 jS) jS)) j2 kO) kO) jR)) jN)) yF) (j9 (jI (jv 4 rfl vL))))⟩
def casesA (T : Txt mg) (CF : Can P w K mg base "_law_fits" 1 fF fdF ["box", "k", "done"] yG) (hr : Room 1 (XOf nCases "_law_cases" qI P w K mg base f cdv A outer s H0 E).A) : { t : TS // JSs (XOf nCases "_law_cases" qI P w K mg base f cdv A outer s H0 E) (j8 qI) t } :=
 have nd := scCases.nd
 ⟨_, (j5 (jM (i := 4) nd rfl lL (kI j2) sw_lst) (j5 (jX (jF op_in_seq (jv 1 rfl vL) (jB jA (jv 0 rfl vL) (je_int) j3) nm_sub) (j9 (js_expr (je_bm PySem.F.plainAttrs_list PySem.F.slot_list_append PySem.F.type_list_append mt_append (jv 4 rfl vL) (j0 (jH (j0 (jP op_catU (jv 2 rfl vL) (jH (j0 (jv 1 rfl vL) j2 j1))) (j0 (jv 3 rfl vL) j2 j1) jS)) j2 kO) kO) jR)) jN) (casesB T CF hr).2))⟩
theorem ok_cases {fd : FuncData} (F : Fun K "_law_cases" "_law_cases" qI f fd) (T : Txt mg) (CF : Can P w K mg base "_law_fits" 1 fF fdF ["box", "k", "done"] yG) : FnOk P w K mg base CX0 2 f fd ["box", "thing", "done", "heavy"] yW := by
 refine F.ok scCases (fun vs H Q E h => ?_) (fun cdv A outer s H vs Q E hr h => ?_)
 · obtain ⟨_, _, _, _, _, _, _, _, rfl, _⟩ := h
   rfl
 · obtain ⟨b, d, wi, t, hv, ms, pcs, ds, rfl, hB, g, hd, dl, q⟩ := h
   obtain ⟨qm, qp, ps, b1, b2, b3, b4⟩ := hB.ex
   have pl := b4.len
   have gl := g.pl
   have w0 := g.w0
   have w1 := g.w1
   refine ⟨_, (casesA T CF hr).2.h, ?_⟩
   refine ⟨(by show 0 ≤ sizeLine; decide), fun l H1 hl e1 n1 => ?_⟩
   have loop : ∀ (us : List V) (H2 : Hp), H2 l = some (.lst us) → Ext H H2 → All2 (CaS ds hv H2) us (if decide (t ∈ ms) = true then [([t], 0)] else []) → us.length ≤ 1 →
       (casesB (outer := outer) (H0 := H) (E := E) T CF hr).1 { nx := fun x H' => Q V.non H', rt := Q } [some (.ref b), some (.int t), some (.ref d), some (.int hv), some (.ref l), none] H2 := fun us H2 h2 e2 hA ul => by
     refine ⟨_, rfl, b, _, 2, _, rfl, rfl, SqT.of (e2 _ _ b1), rfl, qp, _, rfl, .inr (SqT.of (e2 _ _ b3)), _, rfl, by omega, by omega, for_range (fun i σ H' => (∃ v5 us, σ = [some (.ref b), some (.int t), some (.ref d), some (.int hv), some (.ref l), v5] ∧ H' l = some (.lst us) ∧ us.length ≤ 1 + i ∧ All2 (CaS ds hv H') us ((if decide (t ∈ ms) = true then [([t], 0)] else []) ++ (pcs.take i).filter fun pc => decide (t ∈ pc.1) && fitS ds pc)) ∧ Ext H H') ⟨⟨_, us, rfl, h2, by omega, by rw [List.take_zero, List.filter_nil, List.append_nil]; exact hA⟩, e2⟩ ?_ ?_⟩
     · rintro i σ H3 hi ⟨⟨v5, us, rfl, h3, ul3, hA3⟩, e3⟩
       have hil : i < ps.length := by omega
       have hy1 : ps[i]? = some ps[i] := List.getElem?_eq_getElem hil
       obtain ⟨pc, hpc, pa, pq, hpe, c1, c2⟩ := b4.at hy1
       have gp := g.pg pc (List.mem_of_getElem? hpc)
       have lt := qK _ 0 wi gp.lot.ris gp.lot.bnd
       have at1 : atI ps (0 + (i : Int)) = some (.ref pa) := by rw [Int.zero_add]; exact yT (by rw [hy1, hpe])
       have tk : pcs.take (i + 1) = pcs.take i ++ [pc] := by
         rw [List.take_add_one, hpc]
         rfl
       have keep : ∀ H4, Ext H3 H4 → (decide (t ∈ pc.1) && fitS ds pc) = false → (∃ v5 us, ([some (.ref b), some (.int t), some (.ref d), some (.int hv), some (.ref l), some (.int (0 + (i : Int)))] : St) = [some (.ref b), some (.int t), some (.ref d), some (.int hv), some (.ref l), v5] ∧ H4 l = some (.lst us) ∧ us.length ≤ 1 + (i + 1) ∧ All2 (CaS ds hv H4) us ((if decide (t ∈ ms) = true then [([t], 0)] else []) ++ (pcs.take (i + 1)).filter fun pc => decide (t ∈ pc.1) && fitS ds pc)) ∧ Ext H H4 := fun H4 e4 hz => by
         refine ⟨⟨_, us, rfl, e4 _ _ h3, by omega, ?_⟩, e3.trans e4⟩
         rw [tk, List.filter_append, List.filter_cons_of_neg (p := fun pc : List Int × Int => decide (t ∈ pc.1) && fitS ds pc) (by rw [hz]; decide), List.filter_nil, List.append_nil]
         exact hA3.mono fun v c q => CaS.mono e4.tups q
       refine ⟨_, rfl, _, rfl, b, _, 2, _, rfl, rfl, SqT.of (e3 _ _ b1), rfl, _, rfl, qp, _, _, _, rfl, rfl, SqT.of (e3 _ _ b3), at1, pa, _, 0, _, rfl, rfl, SqT.of (e3 _ _ c1), rfl, pq, _, rfl, .inr (SqT.of (e3 _ _ c2)), rfl, kQ _, _, rfl, ?_⟩
       show if inV (.int t) (pc.1.map V.int) = true then _ else _
       rw [yE]
       refine ite2 (fun h1 => ?_) (fun h1 => ?_)
       · refine ⟨_, rfl, _, rfl, _, rfl, b, d, wi, ms, pcs, i, pc, ds, ?_, hB.mono e3.tups, g, hpc, e3 _ _ hd, fun H4 e4 => ?_⟩
         · rw [Int.zero_add]
           rfl
         cases hf : fitS ds pc with
         | false => exact ⟨_, rfl, iteF (keep H4 e4 (by rw [hf, Bool.and_false]))⟩
         | true =>
           have E4 := e3.trans e4
           have E4L := e4
           refine ⟨_, rfl, iteT ?_⟩
           refine ⟨_, rfl, (.inl ⟨rfl, _, SqL.of (E4L _ _ h3)⟩), _, rfl, _, rfl, b, _, 2, _, rfl, rfl, SqT.of (E4 _ _ b1), rfl, _, rfl, qp, _, _, _, rfl, rfl, SqT.of (E4 _ _ b3), at1, pa, _, 0, _, rfl, rfl, SqT.of (E4 _ _ c1), rfl, d, pq, _, _, rfl, rfl, E4 _ _ hd, E4 _ _ c2, (by rw [PySem.sizeLine_eq, List.length_map, List.length_map]; omega), fun r5 H5 hr5 e5 => ?_⟩
           have E5 := E4.trans e5
           refine ⟨_, rfl, _, rfl, b, _, 2, _, rfl, rfl, SqT.of (E5 _ _ b1), rfl, _, rfl, qp, _, _, _, rfl, rfl, SqT.of (E5 _ _ b3), at1, pa, _, 1, _, rfl, rfl, SqT.of (E5 _ _ c1), rfl, _, _, rfl, rfl, (by show 2 ≤ sizeLine; decide), fun r6 H6 hr6 e6 => ?_⟩
           have E36 := (e4.trans e5).trans e6
           have h36 := E36 _ _ h3
           refine ⟨l, us, _, rfl, rfl, h36, (by rw [PySem.sizeLine_eq]; omega), ?_⟩
           have tw : Tups H6 (upd H6 l (.lst (us ++ [.ref r6]))) := Tups.upd h36 _
           refine ⟨⟨_, us ++ [.ref r6], rfl, j4, by rw [List.length_append, List.length_cons, List.length_nil]; omega, ?_⟩, (e3.trans E36).updNew n1 _⟩
           rw [tk, List.filter_append, List.filter_cons_of_pos (p := fun pc : List Int × Int => decide (t ∈ pc.1) && fitS ds pc) (by rw [h1, hf]; rfl), ← List.append_assoc]
           refine (hA3.mono fun v c q => CaS.mono (E36.tups.trans tw) q).snoc ⟨r6, r5, rfl, tw _ _ hr6, tw _ _ (e6 _ _ ?_)⟩
           rw [hr5, List.map_append]
       · exact iteF (keep H3 (Ext.refl _) (by rw [Bool.eq_false_iff.mpr h1, Bool.false_and]))
     · rintro σ H3 ⟨⟨v5, us, rfl, h3, ul3, hA3⟩, e3⟩
       have em : ((ps.length : Int)).toNat = pcs.length := by omega
       rw [em, List.take_length] at hA3
       exact ⟨_, rfl, q l us H3 h3 hA3 e3 n1⟩
   refine ⟨_, rfl, _, rfl, b, _, 1, _, rfl, rfl, SqT.of (e1 _ _ b1), rfl, qm, _, rfl, .inr (SqT.of (e1 _ _ b2)), rfl, kQ _, _, rfl, ?_⟩
   show if inV (.int t) (ms.map V.int) = true then _ else _
   rw [yE]
   refine ite2 (fun h1 => ?_) (fun h1 => ?_)
   · refine ⟨_, rfl, (.inl ⟨rfl, _, SqL.of hl⟩), _, rfl, _, rfl, (by show 1 ≤ sizeLine; decide), fun r2 H2 hr2 e2 => ⟨d, r2, _, _, rfl, rfl, (e1.trans e2) _ _ hd, hr2, (by rw [PySem.sizeLine_eq, List.length_map, List.length_cons, List.length_nil]; omega), fun r3 H3 hr3 e3 => ⟨_, rfl, (by show 2 ≤ sizeLine; decide), fun r4 H4 hr4 e4 => ?_⟩⟩⟩
     have E24 := (e2.trans e3).trans e4
     have h4 := E24 _ _ hl
     refine ⟨l, [], _, rfl, rfl, h4, (by rw [PySem.sizeLine_eq]; show 0 < _; omega), ?_⟩
     have tw : Tups H4 (upd H4 l (.lst [.ref r4])) := Tups.upd h4 _
     refine loop [.ref r4] _ j4 ((e1.trans E24).updNew n1 _) ?_ (Nat.le_refl _)
     rw [if_pos h1]
     refine ⟨⟨r4, r3, rfl, tw _ _ ?_, tw _ _ (e4 _ _ ?_)⟩, trivial⟩
     · rw [hr4]
       show _ = some (HO.tup [.ref r3, .int (hv + 0)])
       rw [Int.add_zero]
     · rw [hr3, List.map_append]
       rfl
   · refine loop [] H1 hl e1 ?_ (Nat.zero_le _)
     rw [if_neg h1]
     trivial
end
end Eo
end
section
namespace Eo
open PySem L2
def frO (p : Int × Int) : Ob := .tup [.int p.1, .int p.2]
theorem FrAt.at {H : Hp} {v : V} {p : Int × Int} (h : FrAt H v p) : At H (frO p) v := by
 obtain ⟨a, rfl, q⟩ := h
 exact qD q (by show 2 ≤ 100; decide) (ats1 rfl (ats1 rfl (ats0 _)))
theorem FrsAt.ats {H : Hp} : ∀ {vs : List V} {ps : List (Int × Int)}, FrsAt H vs ps → Ats H (ps.map frO) vs
 | [], [], _ => ats0 _
 | v :: vs, p :: ps, h => ats1 h.1.at (FrsAt.ats h.2)
 | [], _ :: _, h => h.elim
 | _ :: _, [], h => h.elim
structure Prs (wi : Int) (frs : List (Int × Int)) : Prop where
 len : frs.length = wi.toNat
 sm : ∀ p ∈ frs, qO p
 cop : ∀ p ∈ frs, Int.gcd p.1 p.2 = 1
theorem Prs.frac {wi : Int} {frs : List (Int × Int)} (h : Prs wi frs) : (frs.map frO).all kP = true := by
 rw [List.all_eq_true]
 intro x hx
 rw [List.mem_map] at hx
 obtain ⟨p, hp, rfl⟩ := hx
 have s := (h.sm p hp).2.2.1
 have c := h.cop p hp
 unfold frO kP
 simp [c]
 omega
def frAt (frs : List (Int × Int)) (t : Int) : Int × Int := frs.getD t.toNat (0, 1)
theorem FrsAt.pick {H : Hp} {xs : List V} {frs : List (Int × Int)} (h : FrsAt H xs frs) {t : Int} (h0 : 0 ≤ t) (h1 : t < frs.length) : ∃ a, atI xs t = some (.ref a) ∧ H a = some (.tup [.int (frAt frs t).1, .int (frAt frs t).2]) := by
 obtain ⟨n, rfl⟩ : ∃ n : Nat, t = (n : Int) := ⟨t.toNat, by omega⟩
 have hl := h.len
 have hx : xs[n]? = some xs[n] := List.getElem?_eq_getElem (by omega)
 obtain ⟨p, hp, a, e, q⟩ := h.at hx
 refine ⟨a, yT (by rw [hx, e]), ?_⟩
 have : frAt frs (n : Int) = p := by
   unfold frAt
   rw [Int.toNat_natCast, List.getD_eq_getElem?_getD, hp]
   rfl
 rw [this]
 exact q
def mayOk (ms : List Int) (frs : List (Int × Int)) : Bool := ms.all fun m => decide ((frAt frs m).1 ≤ 0)
section
variable {P : Program} {w : World} {K : W.Frag} {mg : Str → Option Value} {base : Heap}
variable {f fI fA fF fL fS fT : Addr} {fdI fdA fdF fdL fdS fdT : FuncData} {cdv : Value} {A : Around} {outer : List Env} {s : Shared} {H0 : Hp} {E : XK}
abbrev nArePr : List Str := ["box", "thing"]
theorem scArePr : FnScope nArePr ["box", "thing"] (j6 qJ) := ⟨rfl, rfl, rfl, by decide +kernel, rfl, by decide +kernel, by decide +kernel⟩
def spArePr : Sp := fun vs H Q _ => ∃ (b a : Addr) (wi : Int) (ms : List Int) (pcs : List (List Int × Int)) (xs : List V) (frs : List (Int × Int)), vs = [.ref b, .ref a] ∧ BoxAt H b wi ms pcs ∧ Good 16 11 wi ms pcs ∧ H a = some (.tup xs) ∧ FrsAt H xs frs ∧ Prs wi frs ∧ ∀ H', Ext H H' → Q (.bl (mayOk ms frs)) H'
def arePrA (T : Txt mg) (CI : Can P w K mg base "is_fraction" 2 fI fdI ["thing"] (spB kP)) (hr : Room 2 (XOf nArePr "are_prices" qJ P w K mg base f cdv A outer s H0 E).A) : { t : TS // JSs (XOf nArePr "are_prices" qJ P w K mg base f cdv A outer s H0 E) (j8 qJ) t } :=
 have nd := scArePr.nd
 ⟨_, (j5 (jX (jt_w (yQ (yH (kS (jG jY gD T.isinstance (by decide +kernel) (j0 (jv 1 rfl vC) (j0 (yM (v := .ty "tuple") gD T.tuple (by decide +kernel) rfl) j2 j1) j1) j1) jZ)) (yQ (jF op_ne (jG jJ gD T.len (by decide +kernel) (j0 (jv 1 rfl vC) j2 j1) j1) (jB jA (jv 0 rfl vL) (je_int) j3) (jK _)) (yY (yH (kS (jG (call_allL rfl) gD T.all (by decide +kernel) (j0 (yL (m := [none]) (Nc := ["price"]) rfl (ji_tup (jv 1 rfl vC)) rfl (by decide +kernel) (by decide +kernel) (kT (psc := j6 qJ) (by decide +kernel)) (jW (N := nArePr) rfl rfl (by decide +kernel)) (fun cl C fp s H => jT (i := 0) (show (["price"] : List Str).Nodup by decide +kernel) rfl (qL (by decide +kernel))) (fun cl C fp s H => qM) (fun cl C fp s H => (CI.je hr (gl_b (by decide +kernel)) (j0 (jv 0 rfl (kN (by decide +kernel))) j2 j1) j1)) fo_name) j2 kR) kR) jZ)))))) (j9 (jI (je_bl))) jN)
     (j9 (jI (jG (call_allL rfl) gD T.all (by decide +kernel) (j0 (yL (m := [none, some 1]) (Nc := ["may", "thing"]) rfl (ji_tup (jB jA (jv 0 rfl vL) (je_int) j3)) rfl (by decide +kernel) (by decide +kernel) (kT (psc := j6 qJ) (by decide +kernel)) (jW (N := nArePr) rfl rfl (by decide +kernel)) (fun cl C fp s H => jT (i := 0) (show (["may", "thing"] : List Str).Nodup by decide +kernel) rfl (qL (by decide +kernel))) (fun cl C fp s H => qM) (fun cl C fp s H => (je_cmpR op_le (jB kD (jB kD (jv 1 rfl (kY (by decide +kernel))) (jv 0 rfl (kN (by decide +kernel))) kW) (je_int) j3) (je_int) (jK _))) fo_sub) j2 kR) kR))))⟩
theorem ok_arePr {fd : FuncData} (F : Fun K "are_prices" "are_prices" qJ f fd) (T : Txt mg) (CI : Can P w K mg base "is_fraction" 2 fI fdI ["thing"] (spB kP)) : FnOk P w K mg base CX0 3 f fd ["box", "thing"] spArePr := by
 refine F.ok scArePr (fun vs H Q E h => ?_) (fun cdv A outer s H vs Q E hr h => ?_)
 · obtain ⟨_, _, _, _, _, _, _, rfl, _⟩ := h
   rfl
 · obtain ⟨b, a, wi, ms, pcs, xs, frs, rfl, hB, g, ha, hF, hP, q⟩ := h
   obtain ⟨qm, qp, ps, b1, b2, b3, b4⟩ := hB.ex
   have w0 := g.w0
   have w1 := g.w1
   have hl := hF.len
   have pl := hP.len
   have ml := qK _ 0 wi g.mr.1 g.mr.2
   have hA : At H (.tup (frs.map frO)) (.ref a) := qD ha (by omega) hF.ats
   obtain ⟨t, ty, kt, _⟩ := hA.ty K
   have hn : xs.length < sizeLine := by rw [PySem.sizeLine_eq]; omega
   refine ⟨_, (arePrA T CI hr).2.h, ?_⟩
   refine ⟨_, rfl, _, _, _, _, rfl, ty, kt, _, rfl, iteF ?_⟩
   refine ⟨_, rfl, a, _, rfl, .inr (SqT.of ha), _, rfl, b, _, 0, _, rfl, rfl, SqT.of b1, rfl, rfl, _, rfl, qP (by rw [hl, pl]; congr 1; omega) ?_⟩
   refine ⟨_, rfl, a, rfl, ⟨_, SqT.of ha⟩, comp_tupB (F := kP) ha hF.ats hn (fun σ' => ∃ v, σ' = [v]) ⟨_, rfl⟩ ?_ ?_⟩
   · rintro σ' H' v o R S ⟨u, rfl⟩ e hA k
     dsimp only [yJ, qQ]
     rw [if_pos rfl]
     exact ⟨_, rfl, v, o, rfl, hA, fun H3 e3 => k _ H3 ⟨_, rfl⟩ e3⟩
   · intro D H1 e1 hD
     refine ⟨D, _, rfl, SqL.of hD, _, rfl, ?_⟩
     rw [all_bl, hP.frac]
     refine iteF ?_
     refine ⟨_, rfl, b, _, 1, _, rfl, rfl, SqT.of (e1 _ _ b1), rfl, qm, rfl, ⟨_, SqT.of (e1 _ _ b2)⟩, comp_tup (xs := ms.map V.int) (by rw [List.length_map, PySem.sizeLine_eq]; omega) (fun D j σ' H' zs => (∃ v, σ' = [v, some (.ref a)]) ∧ Ext H1 H' ∧ H' D = some (.lst zs) ∧ H1 D = none ∧ zs = ((ms.take j).map fun m => decide ((frAt frs m).1 ≤ 0)).map V.bl) ?_ ?_ ?_ ?_⟩
     · intro D hD
       exact ⟨⟨_, rfl⟩, (Ext.refl _).new hD _, j4, hD, rfl⟩
     · rintro D j σ' H' zs hD ⟨_, e, h2, _, rfl⟩
       refine ⟨e _ _ (e1 _ _ b2), h2, ?_⟩
       rw [List.length_map, List.length_map, List.length_take]
       omega
     · rintro D j σ' H' zs x hD hx ⟨⟨v, rfl⟩, e, h2, hn, rfl⟩
       obtain ⟨z, hz, rfl⟩ : ∃ z : Int, ms[j]? = some z ∧ V.int z = x := by
         rw [List.getElem?_map] at hx
         cases hq : ms[j]? with
         | none => rw [hq] at hx; cases hx
         | some z => rw [hq] at hx; cases hx; exact ⟨z, rfl, rfl⟩
       have zb := g.mr.2 z (List.mem_of_getElem? hz)
       obtain ⟨c, hc1, hc2⟩ := hF.pick zb.1 (by omega)
       have E1 := e1.trans e
       dsimp only [yJ, qQ]
       rw [if_pos rfl]
       refine ⟨_, rfl, _, rfl, a, _, _, _, rfl, rfl, SqT.of (E1 _ _ ha), hc1, c, _, 0, _, rfl, rfl, SqT.of (E1 _ _ hc2), rfl, _, _, rfl, rfl, h2, ⟨_, rfl⟩, e.updNew hn _, j4, hn, ?_⟩
       have : ms.take (j + 1) = ms.take j ++ [z] := by
         rw [List.take_add_one, hz]
         rfl
       rw [this, List.map_append, List.map_append]
       rfl
     · rintro D σ' H' zs hD ⟨_, e, h2, hn, rfl⟩
       refine ⟨D, _, rfl, SqL.of h2, ?_⟩
       have := q H' (e1.trans e)
       unfold mayOk at this
       rw [List.length_map, List.take_length, List.all_map]
       exact this
end
end Eo
end
section
namespace Eo
open PySem L2
theorem comp_frT {K : W.Frag} {σ : St} {H1 : Hp} {Q : VK} {q a : Addr} {ts : List Int} {xs : List V} {frs : List (Int × Int)} (hσ : blkσ [none, some 1] σ = [none, some (.ref a)]) (hq : H1 q = some (.tup (ts.map V.int))) (ha : H1 a = some (.tup xs)) (hF : FrsAt H1 xs frs) (hb : ∀ t ∈ ts, 0 ≤ t ∧ t < frs.length) (hl : ts.length ≤ 100)
   (k : ∀ D zs H', H' D = some (.lst zs) → FrsAt H' zs (ts.map (frAt frs)) → Ext H1 H' → Q (.ref D) H') : CompW [none, some 1] (yJ 0) qQ (tOp (rIxT K) (tVar 1) (tVar 0)) σ Q (Itt K q) H1 := by
 refine comp_tup (xs := ts.map V.int) (by rw [List.length_map, PySem.sizeLine_eq]; omega) (fun D j σ' H' zs => (∃ v, σ' = [v, some (.ref a)]) ∧ FrsAt H' zs ((ts.take j).map (frAt frs)) ∧ Ext H1 H' ∧ H' D = some (.lst zs) ∧ H1 D = none) ?_ ?_ ?_ ?_
 · intro D hD
   exact ⟨⟨_, hσ⟩, trivial, (Ext.refl _).new hD _, j4, hD⟩
 · rintro D j σ' H' zs hD ⟨_, hA, e, h2, _⟩
   refine ⟨e _ _ hq, h2, ?_⟩
   rw [hA.len, List.length_map, List.length_take]
   omega
 · rintro D j σ' H' zs x hD hx ⟨⟨v, rfl⟩, hA, e, h2, hn⟩
   obtain ⟨z, hz, rfl⟩ : ∃ z : Int, ts[j]? = some z ∧ V.int z = x := by
     rw [List.getElem?_map] at hx
     cases hq : ts[j]? with
     | none => rw [hq] at hx; cases hx
     | some z => rw [hq] at hx; cases hx; exact ⟨z, rfl, rfl⟩
   obtain ⟨z0, z1⟩ := hb z (List.mem_of_getElem? hz)
   obtain ⟨c, hc1, hc2⟩ := hF.pick z0 z1
   dsimp only [yJ, qQ]
   rw [if_pos rfl]
   have tw : Tups H' (upd H' D (.lst (zs ++ [.ref c]))) := Tups.upd h2 _
   refine ⟨_, rfl, _, rfl, a, _, _, _, rfl, rfl, SqT.of (e _ _ ha), hc1, h2, ⟨_, rfl⟩, ?_, e.updNew hn _, j4, hn⟩
   have : ts.take (j + 1) = ts.take j ++ [z] := by
     rw [List.take_add_one, hz]
     rfl
   rw [this, List.map_append]
   exact FrsAt.snoc ⟨c, rfl, tw _ _ (e _ _ hc2)⟩ (hA.mono tw)
 · rintro D σ' H' zs hD ⟨_, hA, e, h2, hn⟩
   rw [List.length_map, List.take_length] at hA
   exact k D zs H' h2 hA e
theorem comp_frL {K : W.Frag} {σ : St} {H1 : Hp} {Q : VK} {q a : Addr} {ts : List Int} {xs : List V} {frs : List (Int × Int)} (hσ : blkσ [none, some 1] σ = [none, some (.ref a)]) (hq : H1 q = some (.lst (ts.map V.int))) (ha : H1 a = some (.tup xs)) (hF : FrsAt H1 xs frs) (hb : ∀ t ∈ ts, 0 ≤ t ∧ t < frs.length) (hl : ts.length ≤ 100)
   (k : ∀ D zs H', H' D = some (.lst zs) → FrsAt H' zs (ts.map (frAt frs)) → Ext H1 H' → Q (.ref D) H') : CompW [none, some 1] (yJ 0) qQ (tOp (rIxT K) (tVar 1) (tVar 0)) σ Q (Itl K q) H1 := by
 refine comp_lst (xs := ts.map V.int) (by rw [List.length_map, PySem.sizeLine_eq]; omega) (fun D j σ' H' zs => (∃ v, σ' = [v, some (.ref a)]) ∧ FrsAt H' zs ((ts.take j).map (frAt frs)) ∧ Ext H1 H' ∧ H' D = some (.lst zs) ∧ H1 D = none) ?_ ?_ ?_ ?_
 · intro D hD
   exact ⟨⟨_, hσ⟩, trivial, (Ext.refl _).new hD _, j4, hD⟩
 · rintro D j σ' H' zs hD ⟨_, hA, e, h2, _⟩
   refine ⟨e _ _ hq, h2, ?_⟩
   rw [hA.len, List.length_map, List.length_take]
   omega
 · rintro D j σ' H' zs x hD hx ⟨⟨v, rfl⟩, hA, e, h2, hn⟩
   obtain ⟨z, hz, rfl⟩ : ∃ z : Int, ts[j]? = some z ∧ V.int z = x := by
     rw [List.getElem?_map] at hx
     cases hq : ts[j]? with
     | none => rw [hq] at hx; cases hx
     | some z => rw [hq] at hx; cases hx; exact ⟨z, rfl, rfl⟩
   obtain ⟨z0, z1⟩ := hb z (List.mem_of_getElem? hz)
   obtain ⟨c, hc1, hc2⟩ := hF.pick z0 z1
   dsimp only [yJ, qQ]
   rw [if_pos rfl]
   have tw : Tups H' (upd H' D (.lst (zs ++ [.ref c]))) := Tups.upd h2 _
   refine ⟨_, rfl, _, rfl, a, _, _, _, rfl, rfl, SqT.of (e _ _ ha), hc1, h2, ⟨_, rfl⟩, ?_, e.updNew hn _, j4, hn⟩
   have : ts.take (j + 1) = ts.take j ++ [z] := by
     rw [List.take_add_one, hz]
     rfl
   rw [this, List.map_append]
   exact FrsAt.snoc ⟨c, rfl, tw _ _ (e _ _ hc2)⟩ (hA.mono tw)
 · rintro D σ' H' zs hD ⟨_, hA, e, h2, hn⟩
   rw [List.length_map, List.take_length] at hA
   exact k D zs H' h2 hA e
def costF (frs : List (Int × Int)) (pc : List Int × Int) : Int × Int := nrm (sumF (pc.1.map (frAt frs)))
def xK (frs : List (Int × Int)) (pc : List Int × Int) : Bool := decide (pc.2 * (costF frs pc).2 < (costF frs pc).1 * 1)
def bndF (wi : Nat) (frs : List (Int × Int)) (dn : Nat) (wt : Int) : Int × Int := nrm (sumF ((wt, 1) :: (qE wi dn).map (frAt frs)))
def byPr (wi : Nat) (ms : List Int) (pcs : List (List Int × Int)) (frs : List (Int × Int)) (dn : Nat) (wt : Int) : Option (Int × Int) :=
 if (mayOk ms frs && (pcs.filter (fitM dn)).all fun pc => !xK frs pc) = true then some (bndF wi frs dn wt) else none
def ResAt (H : Hp) (v : V) : Option (Option (Int × Int)) → Prop
 | none => v = .non
 | some none => ∃ r, v = .ref r ∧ H r = some (.tup [.str "none"])
 | some (some f) => ∃ r c, v = .ref r ∧ H r = some (.tup [.str "least", .ref c]) ∧ H c = some (.tup [.int f.1, .int f.2])
theorem frAt_mem {frs : List (Int × Int)} {t : Int} (h0 : 0 ≤ t) (h1 : t < frs.length) : frAt frs t ∈ frs := by
 unfold frAt
 rw [List.getD_eq_getElem?_getD, List.getElem?_eq_getElem (by omega)]
 exact List.getElem_mem _
theorem small_map {wi : Int} {frs : List (Int × Int)} (h : Prs wi frs) {ts : List Int} (hb : ∀ t ∈ ts, 0 ≤ t ∧ t < frs.length) : ∀ p ∈ ts.map (frAt frs), qO p := fun p hp => by
 rw [List.mem_map] at hp
 obtain ⟨t, ht, rfl⟩ := hp
 exact h.sm _ (frAt_mem (hb t ht).1 (hb t ht).2)
theorem leftL_in {w dn : Nat} : ∀ t ∈ qE w dn, 0 ≤ t ∧ t < w := fun t ht => by
 have := (List.mem_filter.mp ht).1
 unfold upto at this
 rw [List.mem_map] at this
 obtain ⟨i, hi, rfl⟩ := this
 have := List.mem_range.mp hi
 omega
theorem leftL_len {w dn : Nat} : (qE w dn).length ≤ w := by
 have := List.length_filter_le (fun t : Int => !dn.testBit t.toNat) (upto w)
 rw [upto_len] at this
 exact this
section
variable {P : Program} {w : World} {K : W.Frag} {mg : Str → Option Value} {base : Heap}
variable {f fI fA fF fL fS fT : Addr} {fdI fdA fdF fdL fdS fdT : FuncData} {cdv : Value} {A : Around} {outer : List Env} {s : Shared} {H0 : Hp} {E : XK}
abbrev nByPr : List Str := ["box", "prices", "done", "weight", "piece"]
theorem scByPr : FnScope nByPr ["box", "prices", "done", "weight"] (j6 xG) := ⟨rfl, rfl, rfl, by decide +kernel, rfl, by decide +kernel, by decide +kernel⟩
abbrev XByPr (P : Program) (w : World) (K : W.Frag) (mg : Str → Option Value) (base : Heap) (f : Addr) (cdv : Value) (A : Around) (outer : List Env) (s : Shared) (H : Hp) (E : XK) : Cx := XOf nByPr "shown_by_price" xG P w K mg base f cdv A outer s H E
def spByPr : Sp := fun vs H Q _ => ∃ (b a : Addr) (wi wt : Int) (ms : List Int) (pcs : List (List Int × Int)) (xs : List V) (frs : List (Int × Int)) (dn : Nat), vs = [.ref b, .ref a, .int (dn : Int), .int wt] ∧ BoxAt H b wi ms pcs ∧ Good 16 11 wi ms pcs ∧ H a = some (.tup xs) ∧ FrsAt H xs frs ∧ Prs wi frs ∧ -1152921504606846976 < wt ∧ wt < 1152921504606846976 ∧ ∀ v H', Ext H H' → ResAt H' v ((byPr wi.toNat ms pcs frs dn wt).map some) → Q v H'
def byL (T : Txt mg) {spa : Sp} (CA : Can P w K mg base "are_prices" 3 fA fdA ["box", "thing"] spa) (CF : Can P w K mg base "fitting" 2 fF fdF ["box", "done"] spFit) (CL : Can P w K mg base "is_less" 1 fL fdL ["one", "other"] spLess) (CS : Can P w K mg base "sum_of" 3 fS fdS ["fractions"] xE) (CT : Can P w K mg base "things_left" 1 fT fdT ["box", "done"] qT) (hr : Room 3 (XByPr P w K mg base f cdv A outer s H0 E).A) : { t : TS // JSs (XByPr P w K mg base f cdv A outer s H0 E) (xC ((j8 xG).getD 1 (.Pass ⟨0, 0, 0, 0⟩))) t } :=
 have nd := scByPr.nd
 ⟨_, (j9 (jX (kS (CL.je (hr.mono (by decide)) gD (j0 (jH (j0 (jB jA (jv 4 rfl vL) (je_int) j3) (j0 (je_int) j2 j7) jE)) (j0 (CS.je hr gD (j0 (yL (m := [none, some 1]) (Nc := ["thing", "prices"]) rfl (ji_tup (jB jA (jv 4 rfl vL) (je_int) j3)) rfl (by decide +kernel) (by decide +kernel) (kT (psc := j6 xG) (by decide +kernel)) (jW (N := nByPr) rfl rfl (by decide +kernel)) (fun cl C fp s H => jT (i := 0) (show (["thing", "prices"] : List Str).Nodup by decide +kernel) rfl (qL (by decide +kernel))) (fun cl C fp s H => qM) (fun cl C fp s H => (jB kD (jv 1 rfl (kY (by decide +kernel))) (jv 0 rfl (kN (by decide +kernel))) kW)) fo_sub) j2 kR) kR) j2 jL) kO) kO) jZ) (j9 (jI (kZ))) jN))⟩
def byA (T : Txt mg) {spa : Sp} (CA : Can P w K mg base "are_prices" 3 fA fdA ["box", "thing"] spa) (CF : Can P w K mg base "fitting" 2 fF fdF ["box", "done"] spFit) (CL : Can P w K mg base "is_less" 1 fL fdL ["one", "other"] spLess) (CS : Can P w K mg base "sum_of" 3 fS fdS ["fractions"] xE) (CT : Can P w K mg base "things_left" 1 fT fdT ["box", "done"] qT) (hr : Room 3 (XByPr P w K mg base f cdv A outer s H0 E).A) : { t : TS // JSs (XByPr P w K mg base f cdv A outer s H0 E) (j8 xG) t } :=
 have nd := scByPr.nd
 ⟨_, (j5 (jX (yH (kS (CA.je (hr.mono (by decide)) gD (j0 (jv 0 rfl vL) (j0 (jv 1 rfl vC) j2 j1) j1) j1) jZ)) (j9 (jI (kZ))) jN) (j5 (qC PassesOwn.never rfl (qN (CF.je (hr.mono (by decide)) gD (j0 (jv 0 rfl vL) (j0 (jv 2 rfl vL) j2 j1) j1) j1)) (jT (i := 4) nd rfl lL) (byL T CA CF CL CS CT hr).2 yF) (j9 (jI (jH (j0 (je_str) (j0 (CS.je hr gD (j0 (jP op_catLU (kI (j0 (jH (j0 (jv 3 rfl vL) (j0 (je_int) j2 j7) j1)) j2 kO)) (yL (m := [none, some 1]) (Nc := ["thing", "prices"]) rfl (qN (CT.je (hr.mono (by decide)) gD (j0 (jv 0 rfl vL) (j0 (jv 2 rfl vL) j2 j1) j1) j1)) rfl (by decide +kernel) (by decide +kernel) (kT (psc := j6 xG) (by decide +kernel)) (jW (N := nByPr) rfl rfl (by decide +kernel)) (fun cl C fp s H => jT (i := 0) (show (["thing", "prices"] : List Str).Nodup by decide +kernel) rfl (qL (by decide +kernel))) (fun cl C fp s H => qM) (fun cl C fp s H => (jB kD (jv 1 rfl (kY (by decide +kernel))) (jv 0 rfl (kN (by decide +kernel))) kW)) yF)) j2 jS) jS) j2 jL) j7))))))⟩
theorem ok_byPr {fd : FuncData} (F : Fun K "shown_by_price" "shown_by_price" xG f fd) (T : Txt mg) (CA : Can P w K mg base "are_prices" 3 fA fdA ["box", "thing"] spArePr) (CF : Can P w K mg base "fitting" 2 fF fdF ["box", "done"] spFit) (CL : Can P w K mg base "is_less" 1 fL fdL ["one", "other"] spLess) (CS : Can P w K mg base "sum_of" 3 fS fdS ["fractions"] xE) (CT : Can P w K mg base "things_left" 1 fT fdT ["box", "done"] qT) : FnOk P w K mg base CX0 4 f fd ["box", "prices", "done", "weight"] spByPr := by
 refine F.ok scByPr (fun vs H Q E h => ?_) (fun cdv A outer s H vs Q E hr h => ?_)
 · obtain ⟨_, _, _, _, _, _, _, _, _, rfl, _⟩ := h
   rfl
 · obtain ⟨b, a, wi, wt, ms, pcs, xs, frs, dn, rfl, hB, g, ha, hF, hP, wt0, wt1, q⟩ := h
   have w0 := g.w0
   have w1 := g.w1
   have gl := g.pl
   have pl := hP.len
   refine ⟨_, (byA T CA CF CL CS CT hr).2.h, ?_⟩
   refine ⟨_, rfl, _, rfl, b, a, wi, ms, pcs, xs, frs, rfl, hB, g, ha, hF, hP, fun H1 e1 => ⟨_, rfl, ?_⟩⟩
   cases hm : mayOk ms frs with
   | false =>
     refine iteT (q .non H1 e1 ?_)
     have : byPr wi.toNat ms pcs frs dn wt = none := by unfold byPr; rw [hm, Bool.false_and]; rfl
     rw [this]
     rfl
   | true =>
     refine iteF ?_
     refine ⟨_, rfl, _, rfl, b, wi, ms, pcs, dn, rfl, hB.mono e1.tups, g, fun l us H2 hl hPc e2 => ?_⟩
     have X2 := e1.trans e2
     refine ⟨l, rfl, ⟨_, SqL.of hl⟩, for_list (xs := us) (fun i σ H' => (∃ v4, σ = [some (.ref b), some (.ref a), some (.int (dn : Int)), some (.int wt), v4]) ∧ Ext H2 H' ∧ ((pcs.filter (fitM dn)).take i).all (fun pc => !xK frs pc) = true) ⟨⟨_, rfl⟩, Ext.refl _, rfl⟩ (fun i σ H' _ ⟨_, e, _⟩ => SqL.of (e _ _ hl)) ?_ ?_⟩
     · rintro i x σ H3 hx ⟨⟨v4, rfl⟩, e3, hall⟩
       obtain ⟨pc, hpc, pa, pq, rfl, c1, c2⟩ := hPc.at hx
       have gp := g.pg pc (List.mem_filter.mp (List.mem_of_getElem? hpc)).1
       have lt := qK _ 0 wi gp.lot.ris gp.lot.bnd
       have X3 := X2.trans e3
       have hb : ∀ t ∈ pc.1, 0 ≤ t ∧ t < frs.length := fun t ht => by have := gp.lot.bnd t ht; omega
       have hsm := small_map hP hb
       have hbig := sum_big hsm (by rw [List.length_map]; omega)
       have tk : (pcs.filter (fitM dn)).take (i + 1) = (pcs.filter (fitM dn)).take i ++ [pc] := by
         rw [List.take_add_one, hpc]
         rfl
       refine ⟨_, rfl, pa, _, 1, _, rfl, rfl, SqT.of (e3 _ _ c1), rfl, (by show 2 ≤ sizeLine; decide), fun r4 H4 hr4 e4 => ?_⟩
       refine ⟨_, rfl, pa, _, 0, _, rfl, rfl, SqT.of ((e3.trans e4) _ _ c1), rfl, pq, rfl, ⟨_, SqT.of ((e3.trans e4) _ _ c2)⟩, comp_frT rfl ((e3.trans e4) _ _ c2) ((X3.trans e4) _ _ ha) (hF.mono (X3.trans e4).tups) hb (by omega) fun D zs H5 hD hz e5 => ?_⟩
       refine ⟨D, zs, _, rfl, hD, hz, hsm, by rw [List.length_map]; omega, fun r6 H6 hr6 e6 => ?_⟩
       have E46 := e5.trans e6
       have lo := gp.lo
       have hi := gp.hi
       have b1 : pc.2.natAbs < BIG := Nat.lt_of_lt_of_le (show pc.2.natAbs < 2 ^ 60 by omega) (Nat.pow_le_pow_right (by decide) (by decide))
       refine ⟨r4, r6, _, _, _, _, rfl, E46 _ _ hr4, hr6, b1, (by show 1 < 2 ^ 1000; decide), hbig.1, hbig.2, ?_⟩
       have E36 := (e3.trans e4).trans E46
       refine ⟨_, rfl, ?_⟩
       show if xK frs pc = true then _ else _
       cases hd : xK frs pc with
       | true =>
         refine iteT (q .non H6 (X2.trans E36) ?_)
         have : byPr wi.toNat ms pcs frs dn wt = none := by
           unfold byPr
           rw [if_neg]
           rw [hm, Bool.true_and, List.all_eq_true]
           intro z
           have := z pc (List.mem_of_getElem? hpc)
           rw [hd] at this
           cases this
         rw [this]
         rfl
       | false =>
         refine iteF ⟨⟨_, rfl⟩, E36, ?_⟩
         rw [tk, List.all_append, hall, List.all_cons, hd]
         rfl
     · rintro σ H3 ⟨⟨v4, rfl⟩, e3, hall⟩
       rw [hPc.len, List.take_length] at hall
       have X3 := X2.trans e3
       have ll := leftL_len (w := wi.toNat) (dn := dn)
       have lin := leftL_in (w := wi.toNat) (dn := dn)
       have hb : ∀ t ∈ qE wi.toNat dn, 0 ≤ t ∧ t < frs.length := fun t ht => by have := lin t ht; omega
       refine ⟨_, rfl, (by show 2 ≤ sizeLine; decide), fun r4 H4 hr4 e4 => ⟨(by show 1 ≤ sizeLine; decide), fun l5 H5 hl5 e5 _ => ?_⟩⟩
       have E5 := e4.trans e5
       refine ⟨_, rfl, _, rfl, b, wi, ms, pcs, dn, rfl, hB.mono (X3.trans E5).tups, g, fun l6 H6 hl6 e6 => ?_⟩
       have E6 := E5.trans e6
       refine ⟨l6, rfl, ⟨_, SqL.of hl6⟩, comp_frL rfl hl6 ((X3.trans E6) _ _ ha) (hF.mono (X3.trans E6).tups) hb (by omega) fun D zs H7 hD hz e7 => ?_⟩
       have E57 := e6.trans e7
       have zl := hz.len
       rw [List.length_map] at zl
       refine ⟨l5, D, _, _, rfl, rfl, E57 _ _ hl5, hD, (by rw [PySem.sizeLine_eq, List.length_cons, List.length_nil]; omega), fun l8 H8 hl8 e8 _ => ?_⟩
       have E48 := (e5.trans E57).trans e8
       refine ⟨l8, _, (wt, 1) :: (qE wi.toNat dn).map (frAt frs), rfl, hl8, ⟨⟨r4, rfl, E48 _ _ hr4⟩, hz.mono e8.tups⟩, (fun p hp => ?_), (by rw [List.length_cons, List.length_map]; omega), fun r9 H9 hr9 e9 => ?_⟩
       · rcases List.mem_cons.mp hp with rfl | hp
         · exact ⟨wt0, wt1, by show (0 : Int) < 1; decide, by show (1 : Int) < 1048576; decide⟩
         · exact small_map hP hb p hp
       refine ⟨(by show 2 ≤ sizeLine; decide), fun r10 H10 hr10 e10 => ?_⟩
       have X10 := ((X3.trans e4).trans E48).trans (e9.trans e10)
       refine q (.ref r10) H10 X10 ?_
       have : byPr wi.toNat ms pcs frs dn wt = some (bndF wi.toNat frs dn wt) := by
         unfold byPr
         rw [hm, hall]
         rfl
       rw [this]
       exact ⟨r10, r9, rfl, hr10, e10 _ _ hr9⟩
end
end Eo
end
section
namespace Eo
open PySem L2
theorem left_same {dn : Nat} {ds : List Int} (h : Done dn ds) (w : Nat) : qE w dn = (upto w).filter fun t => !decide (t ∈ ds) := by
 unfold qE
 refine List.filter_congr fun t ht => ?_
 unfold upto at ht
 rw [List.mem_map] at ht
 obtain ⟨i, _, rfl⟩ := ht
 rw [Int.toNat_natCast, h.1]
def ResB (H : Hp) (v : V) : Option (Int × Int) → Prop
 | none => v = .non
 | some f => FrAt H v f
section
variable {P : Program} {w : World} {K : W.Frag} {mg : Str → Option Value} {base : Heap}
variable {f fI fS fF : Addr} {fdI fdS fdF : FuncData} {cdv : Value} {A : Around} {outer : List Env} {s : Shared} {H0 : Hp} {E : XK}
abbrev nBound : List Str := ["box", "prices", "done", "heavy", "k", "top", "bottom"]
theorem scBound : FnScope nBound ["box", "prices", "done", "heavy"] (j6 yU) := ⟨rfl, rfl, rfl, by decide +kernel, rfl, by decide +kernel, by decide +kernel⟩
abbrev XBound (P : Program) (w : World) (K : W.Frag) (mg : Str → Option Value) (base : Heap) (f : Addr) (cdv : Value) (A : Around) (outer : List Env) (s : Shared) (H : Hp) (E : XK) : Cx := XOf nBound "_law_bound" yU P w K mg base f cdv A outer s H E
def spBound : Sp := fun vs H Q _ => ∃ (b a d : Addr) (wi wt : Int) (ms : List Int) (pcs : List (List Int × Int)) (xs : List V) (frs : List (Int × Int)) (dn : Nat) (ds : List Int), vs = [.ref b, .ref a, .ref d, .int wt] ∧ BoxAt H b wi ms pcs ∧ Good 16 11 wi ms pcs ∧ H a = some (.tup xs) ∧ FrsAt H xs frs ∧ Prs wi frs ∧ H d = some (.tup (ds.map V.int)) ∧ Done dn ds ∧ -1152921504606846976 < wt ∧ wt < 1152921504606846976 ∧ ∀ v H', Ext H H' → ResB H' v (byPr wi.toNat ms pcs frs dn wt) → Q v H'
def boundL (T : Txt mg) (CI : Can P w K mg base "_law_is_ratio" 2 fI fdI ["found"] (spB kP)) (CS : Can P w K mg base "_law_total" 3 fS fdS ["some"] xE) (CF : Can P w K mg base "_law_fits" 1 fF fdF ["box", "k", "done"] yG) (hr : Room 3 (XBound P w K mg base f cdv A outer s H0 E).A) : { t : TS // JSs (XBound P w K mg base f cdv A outer s H0 E) (xC ((j8 yU).getD 2 (.Pass ⟨0, 0, 0, 0⟩))) t } :=
 have nd := scBound.nd
 ⟨_, (j5 (js_asg (CS.je hr gD (j0 (yL (m := [none, some 1]) (Nc := ["t", "prices"]) rfl (ji_tup (jB jA (jB jA (jB jA (jv 0 rfl vL) (je_int) j3) (jv 4 rfl vL) kW) (je_int) j3)) rfl (by decide +kernel) (by decide +kernel) (kT (psc := j6 yU) (by decide +kernel)) (jW (N := nBound) rfl rfl (by decide +kernel)) (fun cl C fp s H => jT (i := 0) (show (["t", "prices"] : List Str).Nodup by decide +kernel) rfl (qL (by decide +kernel))) (fun cl C fp s H => qM) (fun cl C fp s H => (jB kD (jv 1 rfl (kY (by decide +kernel))) (jv 0 rfl (kN (by decide +kernel))) kW)) fo_sub) j2 kR) kR) (jg_two_d (i := 5) (j := 6) nd rfl rfl (by decide +kernel) (by decide +kernel)))
     (j9 (jX (jt_w (jw_and (kS (CF.je (hr.mono (by decide)) gD (j0 (jv 0 rfl vL) (j0 (jv 4 rfl vL) (j0 (jv 2 rfl vC) j2 j1) j1) j1) j1) jZ) (jw_and1 (jF xJ (jP yR (jB jA (jB jA (jB jA (jv 0 rfl vL) (je_int) j3) (jv 4 rfl vL) kW) (je_int) j3) (jv 6 rfl vL)) (jv 5 rfl vL) (jK _))))) (j9 (jI (kZ))) jN)))⟩
def boundB (T : Txt mg) (CI : Can P w K mg base "_law_is_ratio" 2 fI fdI ["found"] (spB kP)) (CS : Can P w K mg base "_law_total" 3 fS fdS ["some"] xE) (CF : Can P w K mg base "_law_fits" 1 fF fdF ["box", "k", "done"] yG) (hr : Room 3 (XBound P w K mg base f cdv A outer s H0 E).A) : { t : TS // JSs (XBound P w K mg base f cdv A outer s H0 E) ((j8 yU).drop 2) t } :=
 have nd := scBound.nd
 ⟨_, (j5 (qC PassesOwn.never rfl (ji_range1 gD T.range (j0 (jG jJ gD T.len (by decide +kernel) (j0 (jB jA (jv 0 rfl vL) (je_int) j3) j2 jE) jE) j2 jL) jL) (jT (i := 4) nd rfl lL) (boundL T CI CS CF hr).2 yF) (j9 (jI (CS.je hr gD (j0 (jP op_catLU (kI (j0 (jH (j0 (jv 3 rfl vL) (j0 (je_int) j2 j7) j1)) j2 kO)) (yL (m := [none, some 2, some 1]) (Nc := ["t", "done", "prices"]) rfl (ji_range1 gD T.range (j0 (jB jA (jv 0 rfl vL) (je_int) j3) j2 jE) jE) rfl (by decide +kernel) (by decide +kernel) (kT (psc := j6 yU) (by decide +kernel)) (jW (N := nBound) rfl rfl (by decide +kernel)) (fun cl C fp s H => jT (i := 0) (show (["t", "done", "prices"] : List Str).Nodup by decide +kernel) rfl (qL (by decide +kernel))) (fun cl C fp s H => jts_one (jF op_notIn_b (jv 0 rfl (kN (by decide +kernel))) (jv 1 rfl (kY (by decide +kernel))) nm_name)) (fun cl C fp s H => (jB kD (jv 2 rfl (kY (by decide +kernel))) (jv 0 rfl (kN (by decide +kernel))) kW)) yF)) j2 jS) jS))))⟩
def boundA (T : Txt mg) (CI : Can P w K mg base "_law_is_ratio" 2 fI fdI ["found"] (spB kP)) (CS : Can P w K mg base "_law_total" 3 fS fdS ["some"] xE) (CF : Can P w K mg base "_law_fits" 1 fF fdF ["box", "k", "done"] yG) (hr : Room 3 (XBound P w K mg base f cdv A outer s H0 E).A) : { t : TS // JSs (XBound P w K mg base f cdv A outer s H0 E) (j8 yU) t } :=
 have nd := scBound.nd
 ⟨_, (j5 (jX (jt_w (yQ (yH (kS (jG jY gD T.isinstance (by decide +kernel) (j0 (jv 1 rfl vC) (j0 (yM (v := .ty "tuple") gD T.tuple (by decide +kernel) rfl) j2 j1) j1) j1) jZ)) (yQ (jF op_ne (jG jJ gD T.len (by decide +kernel) (j0 (jv 1 rfl vC) j2 j1) j1) (jB jA (jv 0 rfl vL) (je_int) j3) (jK _)) (yY (yH (kS (jG (call_allL rfl) gD T.all (by decide +kernel) (j0 (yL (m := [none]) (Nc := ["one"]) rfl (ji_tup (jv 1 rfl vC)) rfl (by decide +kernel) (by decide +kernel) (kT (psc := j6 yU) (by decide +kernel)) (jW (N := nBound) rfl rfl (by decide +kernel)) (fun cl C fp s H => jT (i := 0) (show (["one"] : List Str).Nodup by decide +kernel) rfl (qL (by decide +kernel))) (fun cl C fp s H => qM) (fun cl C fp s H => (CI.je (hr.mono (by decide)) (gl_b (by decide +kernel)) (j0 (jv 0 rfl (kN (by decide +kernel))) j2 j1) j1)) fo_name) j2 kR) kR) jZ)))))) (j9 (jI (kZ))) jN) (j5 (jX (kS (jG (call_anyL rfl) gD T.any (by decide +kernel) (j0 (yL (m := [none, some 1]) (Nc := ["may", "prices"]) rfl (ji_tup (jB jA (jv 0 rfl vL) (je_int) j3)) rfl (by decide +kernel) (by decide +kernel) (kT (psc := j6 yU) (by decide +kernel)) (jW (N := nBound) rfl rfl (by decide +kernel)) (fun cl C fp s H => jT (i := 0) (show (["may", "prices"] : List Str).Nodup by decide +kernel) rfl (qL (by decide +kernel))) (fun cl C fp s H => qM) (fun cl C fp s H => (je_cmpR op_gt (jB kD (jB kD (jv 1 rfl (kY (by decide +kernel))) (jv 0 rfl (kN (by decide +kernel))) kW) (je_int) j3) (je_int) (jK _))) fo_sub) j2 kR) kR) jZ) (j9 (jI (kZ))) jN) (boundB T CI CS CF hr).2))⟩
theorem boundB_read (T : Txt mg) (CI : Can P w K mg base "_law_is_ratio" 2 fI fdI ["found"] (spB kP)) (CS : Can P w K mg base "_law_total" 3 fS fdS ["some"] xE) (CF : Can P w K mg base "_law_fits" 1 fF fdF ["box", "k", "done"] yG) (hr : Room 3 (XBound P w K mg base f cdv A outer s H0 E).A)
   {D : Ends} {H2 : Hp} {b a d : Addr} {wi wt : Int} {ms : List Int} {pcs : List (List Int × Int)} {xs : List V} {frs : List (Int × Int)} {dn : Nat} {ds : List Int} {v4 v5 v6 : Option V} (hB : BoxAt H2 b wi ms pcs) (g : Good 16 11 wi ms pcs) (ha : H2 a = some (.tup xs)) (hF : FrsAt H2 xs frs) (hP : Prs wi frs) (hd : H2 d = some (.tup (ds.map V.int))) (hD : Done dn ds) (wt0 : -1152921504606846976 < wt) (wt1 : wt < 1152921504606846976)
   (no : ∀ H', Ext H2 H' → (∃ pc ∈ pcs, fitM dn pc = true ∧ xK frs pc = true) → D.rt .non H') (yes : ∀ v H', Ext H2 H' → (∀ pc ∈ pcs, fitM dn pc = true → xK frs pc = false) → FrAt H' v (bndF wi.toNat frs dn wt) → D.rt v H') :
   (boundB T CI CS CF hr).1 D [some (.ref b), some (.ref a), some (.ref d), some (.int wt), v4, v5, v6] H2 := by
 obtain ⟨qm, qp, ps, b1, b2, b3, b4⟩ := hB.ex
 have pl := b4.len
 have gl := g.pl
 have w0 := g.w0
 have w1 := g.w1
 have fl := hP.len
 refine ⟨_, rfl, b, _, 2, _, rfl, rfl, SqT.of b1, rfl, qp, _, rfl, .inr (SqT.of b3), _, rfl, by omega, by omega, for_range (fun i σ H' => (∃ v4 v5 v6, σ = [some (.ref b), some (.ref a), some (.ref d), some (.int wt), v4, v5, v6]) ∧ Ext H2 H' ∧ ∀ pc ∈ pcs.take i, fitM dn pc = true → xK frs pc = false) ⟨⟨_, _, _, rfl⟩, Ext.refl _, fun pc h => by cases h⟩ ?_ ?_⟩
 · rintro i σ H3 hi ⟨⟨v4, v5, v6, rfl⟩, e3, hall⟩
   have hil : i < ps.length := by omega
   have hy1 : ps[i]? = some ps[i] := List.getElem?_eq_getElem hil
   obtain ⟨pc, hpc, pa, pq, hpe, c1, c2⟩ := b4.at hy1
   have hmem := List.mem_of_getElem? hpc
   have gp := g.pg pc hmem
   have lt := qK _ 0 wi gp.lot.ris gp.lot.bnd
   have lo := gp.lo
   have hi' := gp.hi
   have at1 : atI ps (0 + (i : Int)) = some (.ref pa) := by rw [Int.zero_add]; exact yT (by rw [hy1, hpe])
   have tk : pcs.take (i + 1) = pcs.take i ++ [pc] := by
     rw [List.take_add_one, hpc]
     rfl
   have hb : ∀ t ∈ pc.1, 0 ≤ t ∧ t < frs.length := fun t ht => by have := gp.lot.bnd t ht; omega
   have hsm := small_map hP hb
   have fsame : fitM dn pc = fitS ds pc := fit_same hD gp
   have next : ∀ (x y : Option V) (H4 : Hp), Ext H3 H4 → (fitM dn pc = true → xK frs pc = false) → (∃ v4 v5 v6, ([some (.ref b), some (.ref a), some (.ref d), some (.int wt), some (.int (0 + (i : Int))), x, y] : St) = [some (.ref b), some (.ref a), some (.ref d), some (.int wt), v4, v5, v6]) ∧ Ext H2 H4 ∧ ∀ pc ∈ pcs.take (i + 1), fitM dn pc = true → xK frs pc = false := fun x y H4 e4 hz => by
     refine ⟨⟨_, _, _, rfl⟩, e3.trans e4, fun pc' hm => ?_⟩
     rw [tk] at hm
     rcases List.mem_append.mp hm with hm | hm
     · exact hall pc' hm
     · cases List.mem_singleton.mp hm
       exact hz
   refine ⟨_, rfl, b, _, 2, _, rfl, rfl, SqT.of (e3 _ _ b1), rfl, _, rfl, qp, _, _, _, rfl, rfl, SqT.of (e3 _ _ b3), at1, pa, _, 0, _, rfl, rfl, SqT.of (e3 _ _ c1), rfl, pq, rfl, ⟨_, SqT.of (e3 _ _ c2)⟩, comp_frT rfl (e3 _ _ c2) (e3 _ _ ha) (hF.mono e3.tups) hb (by omega) fun D' zs H4 hD' hz e4 => ?_⟩
   refine ⟨D', zs, _, rfl, hD', hz, hsm, by rw [List.length_map]; omega, fun r5 H5 hr5 e5 => ?_⟩
   have E5 := e3.trans (e4.trans e5)
   refine ⟨r5, _, rfl, SqT.of hr5, rfl, _, _, rfl, _, _, rfl, rfl, ?_⟩
   refine ⟨_, rfl, _, rfl, _, rfl, b, d, wi, ms, pcs, i, pc, ds, ?_, hB.mono E5.tups, g, hpc, E5 _ _ hd, fun H6 e6 => ?_⟩
   · rw [Int.zero_add]
     rfl
   have E6 := E5.trans e6
   have E36 := (e4.trans e5).trans e6
   cases hf : fitS ds pc with
   | false => exact ⟨_, rfl, iteF (iteF (next _ _ H6 E36 (fun z => by rw [fsame, hf] at z; cases z)))⟩
   | true =>
     refine ⟨_, rfl, iteT ?_⟩
     refine ⟨_, rfl, b, _, 2, _, rfl, rfl, SqT.of (E6 _ _ b1), rfl, _, rfl, qp, _, _, _, rfl, rfl, SqT.of (E6 _ _ b3), at1, pa, _, 1, _, rfl, rfl, SqT.of (E6 _ _ c1), rfl, _, rfl, _, _, rfl, rfl, .inl ⟨by omega, by omega⟩, _, rfl, _, _, rfl, rfl, _, rfl, ?_⟩
     have ed : decide (pc.2 * (nrm (sumF (pc.1.map (frAt frs)))).2 < (nrm (sumF (pc.1.map (frAt frs)))).1) = xK frs pc := by
       unfold xK costF
       rw [Int.mul_one]
     show if decide (pc.2 * (nrm (sumF (pc.1.map (frAt frs)))).2 < (nrm (sumF (pc.1.map (frAt frs)))).1) = true then _ else _
     rw [ed]
     cases hdr : xK frs pc with
     | true => exact iteT (no H6 E6 ⟨pc, hmem, by rw [fsame, hf], hdr⟩)
     | false => exact iteF (next _ _ H6 E36 fun _ => hdr)
 · rintro σ H3 ⟨⟨v4, v5, v6, rfl⟩, e3, hall⟩
   have em : ((ps.length : Int)).toNat = pcs.length := by omega
   rw [em, List.take_length] at hall
   have ls := left_same hD wi.toNat
   have ll := leftL_len (w := wi.toNat) (dn := dn)
   have lin := leftL_in (w := wi.toNat) (dn := dn)
   have hb : ∀ t ∈ qE wi.toNat dn, 0 ≤ t ∧ t < frs.length := fun t ht => by have := lin t ht; omega
   refine ⟨_, rfl, (by show 2 ≤ sizeLine; decide), fun r4 H4 hr4 e4 => ⟨(by show 1 ≤ sizeLine; decide), fun l5 H5 hl5 e5 _ => ?_⟩⟩
   have E5 := (e3.trans e4).trans e5
   refine ⟨_, rfl, b, _, 0, _, rfl, rfl, SqT.of (E5 _ _ b1), rfl, _, rfl, by omega, by omega, comp_rng (n := wi.toNat) (by rw [PySem.sizeLine_eq]; omega) (fun D j σ' H' zs => (∃ v, σ' = [v, some (.ref d), some (.ref a)]) ∧ FrsAt H' zs ((((upto wi.toNat).take j).filter fun t => !decide (t ∈ ds)).map (frAt frs)) ∧ Ext H5 H' ∧ H' D = some (.lst zs) ∧ H5 D = none) ?_ ?_ ?_ ?_⟩
   · intro D hD
     exact ⟨⟨_, rfl⟩, trivial, (Ext.refl _).new hD _, j4, hD⟩
   · rintro D j σ' H' zs hD hj ⟨_, hz, e, h2, _⟩
     refine ⟨h2, ?_⟩
     rw [hz.len, List.length_map]
     refine Nat.le_trans (List.length_filter_le _ _) ?_
     rw [List.length_take]
     omega
   · rintro D j σ' H' zs hD hj ⟨⟨v, rfl⟩, hz, e, h2, hn⟩
     have tk : (upto wi.toNat).take (j + 1) = (upto wi.toNat).take j ++ [(j : Int)] := upto_take hj
     have E' := E5.trans e
     obtain ⟨c, hc1, hc2⟩ := hF.pick (t := (j : Int)) (by omega) (by omega)
     refine ⟨_, rfl, _, rfl, d, _, rfl, .inr (SqT.of (E' _ _ hd)), rfl, kQ _, _, rfl, ?_⟩
     have ein : inV (.int (0 + (j : Int))) (ds.map V.int) = decide ((j : Int) ∈ ds) := by rw [yE, Int.zero_add]
     show if (!inV (.int (0 + (j : Int))) (ds.map V.int)) = true then _ else _
     rw [ein]
     refine ite2 (fun h1 => ?_) (fun h1 => ?_)
     · have tw : Tups H' (upd H' D (.lst (zs ++ [.ref c]))) := Tups.upd h2 _
       refine ⟨_, rfl, _, rfl, a, _, _, _, rfl, rfl, SqT.of (E' _ _ ha), (by rw [Int.zero_add]; exact hc1), h2, ⟨_, rfl⟩, ?_, e.updNew hn _, j4, hn⟩
       rw [tk, List.filter_append, List.filter_cons_of_pos (p := fun t : Int => !decide (t ∈ ds)) h1, List.map_append]
       exact FrsAt.snoc ⟨c, rfl, tw _ _ (E' _ _ hc2)⟩ (hz.mono tw)
     · refine ⟨⟨_, rfl⟩, ?_, e, h2, hn⟩
       rw [tk, List.filter_append, List.filter_cons_of_neg (p := fun t : Int => !decide (t ∈ ds)) h1, List.filter_nil, List.append_nil]
       exact hz
   · rintro D7 σ' H7 zs hD ⟨_, hz, e7, h7, hn⟩
     have ut : (upto wi.toNat).take wi.toNat = upto wi.toNat := by
       have := List.take_length (l := upto wi.toNat)
       rw [upto_len] at this
       exact this
     rw [ut, ← ls] at hz
     have zl := hz.len
     rw [List.length_map] at zl
     refine ⟨l5, D7, _, _, rfl, rfl, e7 _ _ hl5, h7, (by rw [PySem.sizeLine_eq, List.length_cons, List.length_nil]; omega), fun l8 H8 hl8 e8 _ => ?_⟩
     have E48 := (e5.trans e7).trans e8
     refine ⟨l8, _, (wt, 1) :: (qE wi.toNat dn).map (frAt frs), rfl, hl8, ⟨⟨r4, rfl, E48 _ _ hr4⟩, hz.mono e8.tups⟩, (fun p hp => ?_), (by rw [List.length_cons, List.length_map]; omega), fun r9 H9 hr9 e9 => ?_⟩
     · rcases List.mem_cons.mp hp with rfl | hp
       · exact ⟨wt0, wt1, by show (0 : Int) < 1; decide, by show (1 : Int) < 1048576; decide⟩
       · exact small_map hP hb p hp
     exact yes (.ref r9) H9 (((e3.trans e4).trans E48).trans e9) hall ⟨r9, rfl, hr9⟩
end
end Eo
end
section
namespace Eo
open PySem L2
def xH (x y : Int × Int) : Bool := decide (x.1 * y.2 < y.1 * x.2)
def comb : Option (Int × Int) → Option (Int × Int) → Option (Int × Int)
 | none, b => b
 | some a, none => some a
 | some a, some b => if xH b a = true then some b else some a
def minF (l : List (Int × Int)) : Option (Int × Int) := l.foldl (fun a f => comb a (some f)) none
def BigO : Option (Int × Int) → Prop
 | none => True
 | some f => f.1.natAbs < BIG ∧ f.2.natAbs < BIG
section
variable {P : Program} {w : World} {K : W.Frag} {mg : Str → Option Value} {base : Heap}
variable {f fI fS fF fL : Addr} {fdI fdS fdF fdL : FuncData} {cdv : Value} {A : Around} {outer : List Env} {s : Shared} {H0 : Hp} {E : XK}
theorem ok_bound {fd : FuncData} (F : Fun K "_law_bound" "_law_bound" yU f fd) (T : Txt mg) (CI : Can P w K mg base "_law_is_ratio" 2 fI fdI ["found"] (spB kP)) (CS : Can P w K mg base "_law_total" 3 fS fdS ["some"] xE) (CF : Can P w K mg base "_law_fits" 1 fF fdF ["box", "k", "done"] yG) : FnOk P w K mg base CX0 4 f fd ["box", "prices", "done", "heavy"] spBound := by
 refine F.ok scBound (fun vs H Q E h => ?_) (fun cdv A outer s H vs Q E hr h => ?_)
 · obtain ⟨_, _, _, _, _, _, _, _, _, _, _, rfl, _⟩ := h
   rfl
 · obtain ⟨b, a, d, wi, wt, ms, pcs, xs, frs, dn, ds, rfl, hB, g, ha, hF, hP, hd, hDn, wt0, wt1, q⟩ := h
   obtain ⟨qm, qp, ps, b1, b2, b3, b4⟩ := hB.ex
   have w0 := g.w0
   have w1 := g.w1
   have hl := hF.len
   have pl := hP.len
   have ml := qK _ 0 wi g.mr.1 g.mr.2
   have hA : At H (.tup (frs.map frO)) (.ref a) := qD ha (by omega) hF.ats
   obtain ⟨t, ty, kt, _⟩ := hA.ty K
   have hn : xs.length < sizeLine := by rw [PySem.sizeLine_eq]; omega
   have eno : (mayOk ms frs && (pcs.filter (fitM dn)).all fun pc => !xK frs pc) = false → byPr wi.toNat ms pcs frs dn wt = none := fun z => by unfold byPr; rw [z]; rfl
   refine ⟨_, (boundA T CI CS CF hr).2.h, ?_⟩
   refine ⟨_, rfl, _, _, _, _, rfl, ty, kt, _, rfl, iteF ?_⟩
   refine ⟨_, rfl, a, _, rfl, .inr (SqT.of ha), _, rfl, b, _, 0, _, rfl, rfl, SqT.of b1, rfl, rfl, _, rfl, qP (by rw [hl, pl]; congr 1; omega) ?_⟩
   refine ⟨_, rfl, a, rfl, ⟨_, SqT.of ha⟩, comp_tupB (F := kP) ha hF.ats hn (fun σ' => ∃ v, σ' = [v]) ⟨_, rfl⟩ ?_ ?_⟩
   · rintro σ' H' v o R S ⟨u, rfl⟩ e hA k
     dsimp only [yJ, qQ]
     rw [if_pos rfl]
     exact ⟨_, rfl, v, o, rfl, hA, fun H3 e3 => k _ H3 ⟨_, rfl⟩ e3⟩
   · intro D H1 e1 hD
     refine ⟨D, _, rfl, SqL.of hD, _, rfl, ?_⟩
     rw [all_bl, hP.frac]
     refine iteF ?_
     refine ⟨_, rfl, b, _, 1, _, rfl, rfl, SqT.of (e1 _ _ b1), rfl, qm, rfl, ⟨_, SqT.of (e1 _ _ b2)⟩, comp_tup (xs := ms.map V.int) (by rw [List.length_map, PySem.sizeLine_eq]; omega) (fun D j σ' H' zs => (∃ v, σ' = [v, some (.ref a)]) ∧ Ext H1 H' ∧ H' D = some (.lst zs) ∧ H1 D = none ∧ zs = ((ms.take j).map fun m => decide (0 < (frAt frs m).1)).map V.bl) ?_ ?_ ?_ ?_⟩
     · intro D hD
       exact ⟨⟨_, rfl⟩, (Ext.refl _).new hD _, j4, hD, rfl⟩
     · rintro D j σ' H' zs hD ⟨_, e, h2, _, rfl⟩
       refine ⟨e _ _ (e1 _ _ b2), h2, ?_⟩
       rw [List.length_map, List.length_map, List.length_take]
       omega
     · rintro D j σ' H' zs x hD hx ⟨⟨v, rfl⟩, e, h2, hn, rfl⟩
       obtain ⟨z, hz, rfl⟩ : ∃ z : Int, ms[j]? = some z ∧ V.int z = x := by
         rw [List.getElem?_map] at hx
         cases hq : ms[j]? with
         | none => rw [hq] at hx; cases hx
         | some z => rw [hq] at hx; cases hx; exact ⟨z, rfl, rfl⟩
       have zb := g.mr.2 z (List.mem_of_getElem? hz)
       obtain ⟨c, hc1, hc2⟩ := hF.pick zb.1 (by omega)
       have E1 := e1.trans e
       dsimp only [yJ, qQ]
       rw [if_pos rfl]
       refine ⟨_, rfl, _, rfl, a, _, _, _, rfl, rfl, SqT.of (E1 _ _ ha), hc1, c, _, 0, _, rfl, rfl, SqT.of (E1 _ _ hc2), rfl, _, _, rfl, rfl, h2, ⟨_, rfl⟩, e.updNew hn _, j4, hn, ?_⟩
       have : ms.take (j + 1) = ms.take j ++ [z] := by
         rw [List.take_add_one, hz]
         rfl
       rw [this, List.map_append, List.map_append]
       rfl
     · rintro D σ' H' zs hD ⟨_, e, h2, hn, rfl⟩
       refine ⟨D, _, rfl, SqL.of h2, _, rfl, ?_⟩
       have E1 := e1.trans e
       have ea : ((ms.take (ms.map V.int).length).map fun m => decide (0 < (frAt frs m).1)).any id = !mayOk ms frs := by
         have ef : (fun m => decide (0 < (frAt frs m).1)) = fun m => !decide ((frAt frs m).1 ≤ 0) := by
           funext m
           rw [Bool.eq_iff_iff]
           simp
         rw [List.length_map, List.take_length, List.any_map, ef]
         exact (List.not_all_eq_any_not ..).symm
       rw [ea]
       cases hm : mayOk ms frs with
       | false =>
         refine iteT (q .non H' E1 ?_)
         rw [eno (by rw [hm, Bool.false_and])]
         rfl
       | true =>
         refine iteF ?_
         refine boundB_read (outer := outer) (H0 := H) (E := E) T CI CS CF hr (hB.mono E1.tups) g (E1 _ _ ha) (hF.mono E1.tups) hP (E1 _ _ hd) hDn wt0 wt1 (fun H3 e3 h => q .non H3 (E1.trans e3) ?_) (fun v H3 e3 h hv => q v H3 (E1.trans e3) ?_)
         · obtain ⟨pc, hpc, h1, h2⟩ := h
           rw [eno]
           · rfl
           · rw [hm, Bool.true_and, Bool.eq_false_iff]
             intro z
             rw [List.all_eq_true] at z
             have := z pc (List.mem_filter.mpr ⟨hpc, h1⟩)
             rw [h2] at this
             cases this
         · have : byPr wi.toNat ms pcs frs dn wt = some (bndF wi.toNat frs dn wt) := by
             unfold byPr
             rw [if_pos]
             rw [hm, Bool.true_and, List.all_eq_true]
             intro pc hpc
             obtain ⟨m1, m2⟩ := List.mem_filter.mp hpc
             rw [h pc m1 m2]
             rfl
           rw [this]
           exact hv
abbrev nLeast : List Str := ["told", "best", "answer"]
theorem scLeast : FnScope nLeast ["told"] (j6 xA) := ⟨rfl, rfl, rfl, by decide +kernel, rfl, by decide +kernel, by decide +kernel⟩
def ResL (H : Hp) (v : V) (o : Option (Int × Int)) : Prop := ResAt H v (some o) ∧ BigO o
theorem ResAt.mono {H H' : Hp} (t : Tups H H') {v : V} {o : Option (Option (Int × Int))} (h : ResAt H v o) : ResAt H' v o := by
 cases o with
 | none => exact h
 | some o =>
   cases o with
   | none =>
     obtain ⟨r, e, q⟩ := h
     exact ⟨r, e, t _ _ q⟩
   | some f =>
     obtain ⟨r, c, e, q1, q2⟩ := h
     exact ⟨r, c, e, t _ _ q1, t _ _ q2⟩
def spLeast : Sp := fun vs H Q _ => ∃ (l : Addr) (us : List V) (os : List (Option (Int × Int))), vs = [.ref l] ∧ H l = some (.lst us) ∧ All2 (ResL H) us os ∧ ∀ v H', Ext H H' → ResL H' v (os.foldl comb none) → Q v H'
def leastA (T : Txt mg) (CL : Can P w K mg base "is_less" 1 fL fdL ["one", "other"] spLess) (hr : Room 1 (XOf nLeast "least_of" xA P w K mg base f cdv A outer s H0 E).A) : { t : TS // JSs (XOf nLeast "least_of" xA P w K mg base f cdv A outer s H0 E) (j8 xA) t } :=
 have nd := scLeast.nd
 ⟨_, (j5 (jM (i := 1) nd rfl lL (jH (j0 (je_str) j2 j7)) sw_tup)
     (j5 (qC PassesOwn.never rfl (qN (jv 0 rfl vL)) (jT (i := 2) nd rfl lL) (j9 (jX (jt_w (yQ (jF yP (jG jJ gD T.len (by decide +kernel) (j0 (jv 1 rfl vL) j2 j1) j1) (je_int) (jK _)) (yY (jt_w (jw_and (jF yP (jG jJ gD T.len (by decide +kernel) (j0 (jv 2 rfl vL) j2 j1) j1) (je_int) (jK _)) (jw_and1 (kS (CL.je hr gD (j0 (jB jA (jv 2 rfl vL) (je_int) j3) (j0 (jB jA (jv 1 rfl vL) (je_int) j3) j2 jE) jE) jE) jZ))))))) (j9 (jM (i := 1) nd rfl lL (jv 2 rfl vL) sw_name)) jN)) fo_name)
     (j9 (jI (jv 1 rfl vL)))))⟩
theorem ok_least {fd : FuncData} (F : Fun K "least_of" "least_of" xA f fd) (T : Txt mg) (CL : Can P w K mg base "is_less" 1 fL fdL ["one", "other"] spLess) : FnOk P w K mg base CX0 2 f fd ["told"] spLeast := by
 refine F.ok scLeast (fun vs H Q E h => ?_) (fun cdv A outer s H vs Q E hr h => ?_)
 · obtain ⟨_, _, _, rfl, _⟩ := h
   rfl
 · obtain ⟨l, us, os, rfl, hl, hA, k⟩ := h
   refine ⟨_, (leastA T CL hr).2.h, ?_⟩
   refine ⟨(by show 1 ≤ sizeLine; decide), fun r1 H1 hr1 e1 => ?_⟩
   refine ⟨_, rfl, l, rfl, ⟨_, SqL.of (e1 _ _ hl)⟩, for_list (xs := us) (fun i σ H' => (∃ v v2, σ = [some (.ref l), some v, v2] ∧ ResL H' v ((os.take i).foldl comb none)) ∧ H' = H1) ⟨⟨.ref r1, _, rfl, ⟨r1, rfl, hr1⟩, trivial⟩, rfl⟩ (fun i σ H' _ ⟨_, e⟩ => by rw [e]; exact SqL.of (e1 _ _ hl)) ?_ ?_⟩
   · rintro i x σ H' hx ⟨⟨v, v2, rfl, hv⟩, rfl⟩
     obtain ⟨o, ho, hx2, hxb⟩ := hA.at hx
     have hx2 := hx2.mono e1.tups
     have tk : (os.take (i + 1)).foldl comb none = comb ((os.take i).foldl comb none) o := by
       rw [List.take_add_one, ho]
       show List.foldl comb none (os.take i ++ [o]) = _
       rw [List.foldl_append]
       rfl
     obtain ⟨hv1, hv2⟩ := hv
     generalize (os.take i).foldl comb none = best at tk hv1 hv2
     cases best with
     | none =>
       obtain ⟨r, rfl, hr⟩ := hv1
       refine ⟨_, rfl, r, _, rfl, .inr (SqT.of hr), rfl, _, rfl, ?_⟩
       refine yes rfl (iteT ?_)
       refine ⟨_, rfl, ⟨⟨x, _, rfl, ?_⟩, rfl⟩⟩
       rw [tk]
       exact ⟨hx2, hxb⟩
     | some bf =>
       obtain ⟨r, c, rfl, hr, hc⟩ := hv1
       refine ⟨_, rfl, r, _, rfl, .inr (SqT.of hr), rfl, _, rfl, ?_⟩
       refine nay (by intro z; cases z) ?_
       cases o with
       | none =>
         obtain ⟨r2, rfl, hr2⟩ := hx2
         refine ⟨_, rfl, r2, _, rfl, .inr (SqT.of hr2), rfl, _, rfl, ?_⟩
         refine nay (by intro z; cases z) (iteF ?_)
         refine ⟨⟨_, _, rfl, ?_⟩, rfl⟩
         rw [tk]
         exact ⟨⟨r, c, rfl, hr, hc⟩, hv2⟩
       | some af =>
         obtain ⟨r2, c2, rfl, hr2, hc2⟩ := hx2
         refine ⟨_, rfl, r2, _, rfl, .inr (SqT.of hr2), rfl, _, rfl, ?_⟩
         refine yes rfl ?_
         refine ⟨_, rfl, r2, _, 1, _, rfl, rfl, SqT.of hr2, rfl, _, rfl, r, _, 1, _, rfl, rfl, SqT.of hr, rfl, c2, c, _, _, _, _, rfl, hc2, hc, hxb.1, hxb.2, hv2.1, hv2.2, _, rfl, ?_⟩
         show if xH af bf = true then _ else _
         have ec : comb (some bf) (some af) = if xH af bf = true then some af else some bf := rfl
         cases hlf : xH af bf with
         | true =>
           rw [hlf] at ec
           refine iteT ⟨_, rfl, ⟨⟨_, _, rfl, ?_⟩, rfl⟩⟩
           rw [tk, ec]
           exact ⟨⟨r2, c2, rfl, hr2, hc2⟩, hxb⟩
         | false =>
           rw [hlf] at ec
           refine iteF ⟨⟨_, _, rfl, ?_⟩, rfl⟩
           rw [tk, ec]
           exact ⟨⟨r, c, rfl, hr, hc⟩, hv2⟩
   · rintro σ H' ⟨⟨v, v2, rfl, hv⟩, rfl⟩
     rw [hA.len, List.take_length] at hv
     exact ⟨_, rfl, k v H' e1 hv⟩
end
end Eo
end
section
namespace Eo
open PySem L2
theorem lt_step {a b c : Int × Int} (ha : 0 < a.2) (hb : 0 < b.2) (hc : 0 < c.2) (h1 : a.1 * b.2 < b.1 * a.2) (h2 : b.1 * c.2 ≤ c.1 * b.2) : a.1 * c.2 < c.1 * a.2 := by
 have k1 : a.1 * b.2 * c.2 < b.1 * a.2 * c.2 := Int.mul_lt_mul_of_pos_right h1 hc
 have k2 : b.1 * c.2 * a.2 ≤ c.1 * b.2 * a.2 := Int.mul_le_mul_of_nonneg_right h2 (by omega)
 refine Int.lt_of_mul_lt_mul_right (a := b.2) ?_ (by omega)
 have e1 : a.1 * c.2 * b.2 = a.1 * b.2 * c.2 := by grind
 have e2 : c.1 * a.2 * b.2 = c.1 * b.2 * a.2 := by grind
 have e3 : b.1 * a.2 * c.2 = b.1 * c.2 * a.2 := by grind
 omega
theorem le_step {a b c : Int × Int} (ha : 0 < a.2) (hb : 0 < b.2) (hc : 0 < c.2) (h1 : a.1 * b.2 ≤ b.1 * a.2) (h2 : b.1 * c.2 ≤ c.1 * b.2) : a.1 * c.2 ≤ c.1 * a.2 := by
 have k1 : a.1 * b.2 * c.2 ≤ b.1 * a.2 * c.2 := Int.mul_le_mul_of_nonneg_right h1 (by omega)
 have k2 : b.1 * c.2 * a.2 ≤ c.1 * b.2 * a.2 := Int.mul_le_mul_of_nonneg_right h2 (by omega)
 refine Int.le_of_mul_le_mul_right (a := b.2) ?_ hb
 have e1 : a.1 * c.2 * b.2 = a.1 * b.2 * c.2 := by grind
 have e2 : c.1 * a.2 * b.2 = c.1 * b.2 * a.2 := by grind
 have e3 : b.1 * a.2 * c.2 = b.1 * c.2 * a.2 := by grind
 omega
def PosO : Option (Int × Int) → Prop
 | none => True
 | some f => 0 < f.2
theorem less_iff {a b : Int × Int} : xH a b = true ↔ a.1 * b.2 < b.1 * a.2 := by
 unfold xH
 exact decide_eq_true_iff
theorem comb_none (x : Option (Int × Int)) : comb x none = x := by cases x <;> rfl
theorem yC (a b : Int × Int) : comb (some a) (some b) = if xH b a = true then some b else some a := rfl
theorem comb_assoc {x y : Option (Int × Int)} {f : Int × Int} (hx : PosO x) (hy : PosO y) (hf : 0 < f.2) : comb (comb x (some f)) y = comb x (comb (some f) y) := by
 cases x with
 | none => rfl
 | some a =>
   cases y with
   | none => rw [comb_none, comb_none]
   | some c =>
     have ha : 0 < a.2 := hx
     have hc : 0 < c.2 := hy
     rw [yC a f, yC f c]
     by_cases h1 : xH f a = true
     · rw [if_pos h1, yC]
       by_cases h2 : xH c f = true
       · rw [if_pos h2, yC, if_pos]
         rw [less_iff] at h1 h2 ⊢
         exact lt_step hc hf ha h2 (by omega)
       · rw [if_neg h2, yC, if_pos h1]
     · rw [if_neg h1, yC]
       by_cases h2 : xH c f = true
       · rw [if_pos h2, yC]
       · rw [if_neg h2, yC, if_neg h1, if_neg]
         rw [less_iff] at h1 h2 ⊢
         have := le_step ha hf hc (by omega) (by omega)
         omega
theorem comb_pos {a b : Option (Int × Int)} (ha : PosO a) (hb : PosO b) : PosO (comb a b) := by
 cases a with
 | none => exact hb
 | some a =>
   cases b with
   | none => exact ha
   | some b =>
     rw [yC]
     split
     · exact hb
     · exact ha
theorem fold_comb : ∀ (l : List (Int × Int)) (x : Option (Int × Int)), PosO x → (∀ f ∈ l, 0 < f.2) → l.foldl (fun a f => comb a (some f)) x = comb x (minF l) ∧ PosO (minF l)
 | [], x, _, _ => ⟨(comb_none x).symm, trivial⟩
 | f :: r, x, hx, hl => by
   have hf : 0 < f.2 := hl f (List.mem_cons_self ..)
   have hr : ∀ g ∈ r, 0 < g.2 := fun g hg => hl g (List.mem_cons_of_mem _ hg)
   obtain ⟨i1, p1⟩ := fold_comb r (comb x (some f)) (comb_pos hx hf) hr
   obtain ⟨i2, _⟩ := fold_comb r (some f) hf hr
   have e : minF (f :: r) = comb (some f) (minF r) := i2
   rw [e]
   refine ⟨?_, comb_pos hf p1⟩
   rw [List.foldl_cons, i1, comb_assoc hx p1 hf]
theorem minF_append {a b : List (Int × Int)} (ha : ∀ f ∈ a, 0 < f.2) (hb : ∀ f ∈ b, 0 < f.2) : minF (a ++ b) = comb (minF a) (minF b) := by
 have := (fold_comb b (minF a) (fold_comb a none trivial ha).2 hb).1
 unfold minF at this ⊢
 rw [List.foldl_append]
 exact this
def catB : List (Option (List (Int × Int))) → Option (List (Int × Int))
 | [] => some []
 | none :: _ => none
 | some a :: r => (catB r).map (a ++ ·)
theorem catB_snoc : ∀ (l : List (Option (List (Int × Int)))) (x : Option (List (Int × Int))), catB (l ++ [x]) = (catB l).bind fun a => x.map (a ++ ·)
 | [], none => rfl
 | [], some a => by show some (a ++ []) = some ([] ++ a); simp
 | none :: r, x => rfl
 | some a :: r, x => by
   show (catB (r ++ [x])).map (a ++ ·) = ((catB r).map (a ++ ·)).bind _
   rw [catB_snoc r x]
   cases catB r with
   | none => rfl
   | some b =>
     cases x with
     | none => rfl
     | some c => simp
theorem catB_none : ∀ (l : List (Option (List (Int × Int)))), none ∈ l → catB l = none
 | none :: r, _ => rfl
 | some a :: r, h => by
   have := catB_none r (by rcases List.mem_cons.mp h with h | h; cases h; exact h)
   show (catB r).map _ = none
   rw [this]
   rfl
theorem done_step {dn : Nat} {ds : List Int} (h : Done dn ds) {ts : List Int} (hp : ts.Pairwise (· < ·)) (hb : ∀ t ∈ ts, 0 ≤ t ∧ t < 64) : Done (dn ||| maskN ts) (ds ++ ts) := by
 refine ⟨fun n => ?_, fun t ht => ?_⟩
 · rw [Nat.testBit_or, h.1, maskN_bit ts n hp fun t ht => (hb t ht).1, Bool.eq_iff_iff]
   simp
 · rcases List.mem_append.mp ht with ht | ht
   · exact h.2 t ht
   · exact hb t ht
def PG0 (wi : Int) (ms : List Int) (pcs : List (List Int × Int)) (H : Hp) (v : V) (dn : Nat) (B : Int → Option (List (Int × Int))) : Prop := ∃ a c xs frs, v = .ref a ∧ H a = some (.tup [.str "price", .ref c]) ∧ H c = some (.tup xs) ∧ FrsAt H xs frs ∧ Prs wi frs ∧ B = fun hv => (byPr wi.toNat ms pcs frs dn hv).map fun f => [f]
theorem PG0.mono {wi : Int} {ms : List Int} {pcs : List (List Int × Int)} {H H' : Hp} (t : Tups H H') {v : V} {dn : Nat} {B : Int → Option (List (Int × Int))} (h : PG0 wi ms pcs H v dn B) : PG0 wi ms pcs H' v dn B := by
 obtain ⟨a, c, xs, frs, e, h1, h2, h3, h4, h5⟩ := h
 exact ⟨a, c, xs, frs, e, t _ _ h1, t _ _ h2, h3.mono t, h4, h5⟩
end Eo
end
section
namespace L2
open PySem
def spOr (a b : Sp) : Sp := fun vs H Q E => a vs H Q E ∨ b vs H Q E
theorem FnOk.or {P : Program} {w : World} {K : W.Frag} {mg : Str → Option Value} {base : Heap} {CX : CXT} {k : Nat} {f : Addr} {fd : FuncData} {ps : List Str} {sp sp' : Sp} (F : FnOk P w K mg base CX k f fd ps sp) (G : FnOk P w K mg base CX k f fd ps sp') :
   FnOk P w K mg base CX k f fd ps (spOr sp sp') :=
 ⟨fun vs H Q E h => h.elim (F.len vs H Q E) (G.len vs H Q E), fun A outer s H args us vs Q E hr he hb hv hs => hs.elim (F.run A outer s H args us vs Q E hr he hb hv) (G.run A outer s H args us vs Q E hr he hb hv)⟩
end L2
namespace Eo
open PySem L2
def prB (wi : Int) : Ob → Bool
 | .tup os => decide (os.length = wi.toNat) && os.all kP
 | _ => false
def thB (wi : Int) (ds : List Int) : Ob → Bool
 | .int t => decide (0 ≤ t) && decide (t < wi) && !decide (t ∈ ds)
 | _ => false
def lenB (n : Nat) : Ob → Bool
 | .tup os => decide (os.length = n)
 | _ => false
section
variable {P : Program} {w : World} {K : W.Frag} {mg : Str → Option Value} {base : Heap}
variable {f fI fA fF fL fS fT : Addr} {fdI fdA fdF fdL fdS fdT : FuncData} {cdv : Value} {A : Around} {outer : List Env} {s : Shared} {H0 : Hp} {E : XK}
def spArePrX : Sp := fun vs H Q _ => ∃ (b : Addr) (u : V) (o : Ob) (wi : Int) (ms : List Int) (pcs : List (List Int × Int)), vs = [.ref b, u] ∧ BoxAt H b wi ms pcs ∧ Good 16 11 wi ms pcs ∧ At H o u ∧ prB wi o = false ∧ ∀ H', Ext H H' → Q (.bl false) H'
theorem ok_arePrX {fd : FuncData} (F : Fun K "are_prices" "are_prices" qJ f fd) (T : Txt mg) (CI : Can P w K mg base "is_fraction" 2 fI fdI ["thing"] (spB kP)) : FnOk P w K mg base CX0 3 f fd ["box", "thing"] spArePrX := by
 refine F.ok scArePr (fun vs H Q E h => ?_) (fun cdv A outer s H vs Q E hr h => ?_)
 · obtain ⟨_, _, _, _, _, _, rfl, _⟩ := h
   rfl
 · obtain ⟨b, u, o, wi, ms, pcs, rfl, hB, g, hA, hp, q⟩ := h
   obtain ⟨qm, qp, ps, b1, b2, b3, b4⟩ := hB.ex
   have w0 := g.w0
   have w1 := g.w1
   obtain ⟨t, ty, kt, _⟩ := hA.ty K
   refine ⟨_, (arePrA T CI hr).2.h, ?_⟩
   refine ⟨_, rfl, _, _, _, _, rfl, ty, kt, _, rfl, ?_⟩
   cases ht : isTup o with
   | false => exact iteT (q H (Ext.refl _))
   | true =>
     obtain ⟨os, a, xs, rfl, rfl, ha, xl, hx⟩ := hA.tupOf ht
     refine iteF ?_
     refine ⟨_, rfl, a, _, rfl, .inr (SqT.of ha), _, rfl, b, _, 0, _, rfl, rfl, SqT.of b1, rfl, rfl, _, rfl, ite2 (fun _ => q H (Ext.refl _)) (fun h1 => ?_)⟩
     have hl : (xs.length : Int) = wi := by simpa using h1
     have ol := hx.len
     have hn : xs.length < sizeLine := by rw [PySem.sizeLine_eq]; omega
     have hf : os.all kP = false := by
       have hp : (decide (os.length = wi.toNat) && os.all kP) = false := hp
       rw [decide_eq_true (show os.length = wi.toNat by omega), Bool.true_and] at hp
       exact hp
     refine ⟨_, rfl, a, rfl, ⟨_, SqT.of ha⟩, comp_tupB (F := kP) ha hx hn (fun σ' => ∃ v, σ' = [v]) ⟨_, rfl⟩ ?_ ?_⟩
     · rintro σ' H' v o R S ⟨u, rfl⟩ e hA k
       dsimp only [yJ, qQ]
       rw [if_pos rfl]
       exact ⟨_, rfl, v, o, rfl, hA, fun H3 e3 => k _ H3 ⟨_, rfl⟩ e3⟩
     · intro D H1 e1 hD
       refine ⟨D, _, rfl, SqL.of hD, _, rfl, ?_⟩
       rw [all_bl, hf]
       exact iteT (q H1 e1)
def spByPrX : Sp := fun vs H Q _ => ∃ (b : Addr) (u : V) (o : Ob) (dn : Nat) (wi wt : Int) (ms : List Int) (pcs : List (List Int × Int)), vs = [.ref b, u, .int (dn : Int), .int wt] ∧ BoxAt H b wi ms pcs ∧ Good 16 11 wi ms pcs ∧ At H o u ∧ prB wi o = false ∧ ∀ H', Ext H H' → Q .non H'
theorem ok_byPrX {fd : FuncData} (F : Fun K "shown_by_price" "shown_by_price" xG f fd) (T : Txt mg) (CA : Can P w K mg base "are_prices" 3 fA fdA ["box", "thing"] spArePrX) (CF : Can P w K mg base "fitting" 2 fF fdF ["box", "done"] spFit) (CL : Can P w K mg base "is_less" 1 fL fdL ["one", "other"] spLess) (CS : Can P w K mg base "sum_of" 3 fS fdS ["fractions"] xE) (CT : Can P w K mg base "things_left" 1 fT fdT ["box", "done"] qT) : FnOk P w K mg base CX0 4 f fd ["box", "prices", "done", "weight"] spByPrX := by
 refine F.ok scByPr (fun vs H Q E h => ?_) (fun cdv A outer s H vs Q E hr h => ?_)
 · obtain ⟨_, _, _, _, _, _, _, _, rfl, _⟩ := h
   rfl
 · obtain ⟨b, u, o, dn, wi, wt, ms, pcs, rfl, hB, g, hA, hp, q⟩ := h
   refine ⟨_, (byA T CA CF CL CS CT hr).2.h, ?_⟩
   exact ⟨_, rfl, _, rfl, b, u, o, wi, ms, pcs, rfl, hB, g, hA, hp, fun H' e => ⟨_, rfl, iteT (q H' e)⟩⟩
def spBoundX : Sp := fun vs H Q _ => ∃ (b d : Addr) (u : V) (o : Ob) (wi wt : Int) (ms : List Int) (pcs : List (List Int × Int)), vs = [.ref b, u, .ref d, .int wt] ∧ BoxAt H b wi ms pcs ∧ Good 16 11 wi ms pcs ∧ At H o u ∧ prB wi o = false ∧ ∀ H', Ext H H' → Q .non H'
theorem ok_boundX {fd : FuncData} (F : Fun K "_law_bound" "_law_bound" yU f fd) (T : Txt mg) (CI : Can P w K mg base "_law_is_ratio" 2 fI fdI ["found"] (spB kP)) (CS : Can P w K mg base "_law_total" 3 fS fdS ["some"] xE) (CF : Can P w K mg base "_law_fits" 1 fF fdF ["box", "k", "done"] yG) : FnOk P w K mg base CX0 4 f fd ["box", "prices", "done", "heavy"] spBoundX := by
 refine F.ok scBound (fun vs H Q E h => ?_) (fun cdv A outer s H vs Q E hr h => ?_)
 · obtain ⟨_, _, _, _, _, _, _, _, rfl, _⟩ := h
   rfl
 · obtain ⟨b, d, u, o, wi, wt, ms, pcs, rfl, hB, g, hA, hp, q⟩ := h
   obtain ⟨qm, qp, ps, b1, b2, b3, b4⟩ := hB.ex
   have w0 := g.w0
   have w1 := g.w1
   obtain ⟨t, ty, kt, _⟩ := hA.ty K
   refine ⟨_, (boundA T CI CS CF hr).2.h, ?_⟩
   refine ⟨_, rfl, _, _, _, _, rfl, ty, kt, _, rfl, ?_⟩
   cases ht : isTup o with
   | false => exact iteT (q H (Ext.refl _))
   | true =>
     obtain ⟨os, a, xs, rfl, rfl, ha, xl, hx⟩ := hA.tupOf ht
     refine iteF ?_
     refine ⟨_, rfl, a, _, rfl, .inr (SqT.of ha), _, rfl, b, _, 0, _, rfl, rfl, SqT.of b1, rfl, rfl, _, rfl, ite2 (fun _ => q H (Ext.refl _)) (fun h1 => ?_)⟩
     have hl : (xs.length : Int) = wi := by simpa using h1
     have ol := hx.len
     have hn : xs.length < sizeLine := by rw [PySem.sizeLine_eq]; omega
     have hf : os.all kP = false := by
       have hp : (decide (os.length = wi.toNat) && os.all kP) = false := hp
       rw [decide_eq_true (show os.length = wi.toNat by omega), Bool.true_and] at hp
       exact hp
     refine ⟨_, rfl, a, rfl, ⟨_, SqT.of ha⟩, comp_tupB (F := kP) ha hx hn (fun σ' => ∃ v, σ' = [v]) ⟨_, rfl⟩ ?_ ?_⟩
     · rintro σ' H' v o R S ⟨u, rfl⟩ e hA k
       dsimp only [yJ, qQ]
       rw [if_pos rfl]
       exact ⟨_, rfl, v, o, rfl, hA, fun H3 e3 => k _ H3 ⟨_, rfl⟩ e3⟩
     · intro D H1 e1 hD
       refine ⟨D, _, rfl, SqL.of hD, _, rfl, ?_⟩
       rw [all_bl, hf]
       exact iteT (q H1 e1)
end
end Eo
end
section
namespace Eo
open PySem L2
def OddW (xs : List V) : Prop := xs = [] ∨ ∃ x0 r, xs = x0 :: r ∧ ((∃ y, x0 = .str y) ∨ ∃ i, x0 = .int i) ∧ ¬ (r.length = 2 ∧ x0 = .str "part") ∧ ¬ (r.length = 1 ∧ x0 = .str "price")
def BadP (wi : Int) (ms : List Int) (pcs : List (List Int × Int)) (H : Hp) (v : V) (ds : List Int) : Prop :=
 (∃ o, At H o v ∧ isTup o = false)
 ∨ (∃ a xs, v = .ref a ∧ H a = some (.tup xs) ∧ OddW xs)
 ∨ (∃ a u o, v = .ref a ∧ H a = some (.tup [.str "price", u]) ∧ At H o u ∧ prB wi o = false)
 ∨ (∃ a x u o o2, v = .ref a ∧ H a = some (.tup [.str "part", x, u]) ∧ At H o x ∧ At H o2 u ∧ thB wi ds o = false)
 ∨ (∃ a t u o2, v = .ref a ∧ H a = some (.tup [.str "part", .int t, u]) ∧ At H o2 u ∧ 0 ≤ t ∧ t < wi ∧ ¬ t ∈ ds ∧ lenB (csS ms pcs t ds).length o2 = false)
theorem BadP.mono {wi : Int} {ms : List Int} {pcs : List (List Int × Int)} {H H' : Hp} (k : Kp H H') {v : V} {ds : List Int} (h : BadP wi ms pcs H v ds) : BadP wi ms pcs H' v ds := by
 rcases h with ⟨o, h, t⟩ | ⟨a, xs, e, h, o⟩ | ⟨a, u, o, e, h, q, p⟩ | ⟨a, x, u, o, o2, e, h, q, q2, p⟩ | ⟨a, t, u, o2, e, h, q, p⟩
 · exact .inl ⟨o, At.mono k _ _ h, t⟩
 · exact .inr (.inl ⟨a, xs, e, k.t _ _ h, o⟩)
 · exact .inr (.inr (.inl ⟨a, u, o, e, k.t _ _ h, At.mono k _ _ q, p⟩))
 · exact .inr (.inr (.inr (.inl ⟨a, x, u, o, o2, e, k.t _ _ h, At.mono k _ _ q, At.mono k _ _ q2, p⟩)))
 · exact .inr (.inr (.inr (.inr ⟨a, t, u, o2, e, k.t _ _ h, At.mono k _ _ q, p⟩)))
def AG0 (wi : Int) (ms : List Int) (pcs : List (List Int × Int)) (H : Hp) (v : V) (dn : Nat) (ds : List Int) (B : Int → Option (List (Int × Int))) : Prop := PG0 wi ms pcs H v dn B ∨ (BadP wi ms pcs H v ds ∧ B = fun _ => none)
def AG (wi : Int) (ms : List Int) (pcs : List (List Int × Int)) : Nat → Hp → V → Nat → List Int → (Int → Option (List (Int × Int))) → Prop
 | 0, H, v, dn, ds, B => AG0 wi ms pcs H v dn ds B
 | d + 1, H, v, dn, ds, B => AG0 wi ms pcs H v dn ds B ∨ ∃ a t q us Bs, v = .ref a ∧ H a = some (.tup [.str "part", .int t, .ref q]) ∧ H q = some (.tup us) ∧ 0 ≤ t ∧ t < wi ∧ ¬ t ∈ ds ∧ us.length = (csS ms pcs t ds).length ∧ (Bs : List (Int → Option (List (Int × Int)))).length = us.length ∧
     (∀ (i : Nat) (u : V) (c : List Int × Int) (b : Int → Option (List (Int × Int))), us[i]? = some u → (csS ms pcs t ds)[i]? = some c → Bs[i]? = some b → AG wi ms pcs d H u (dn ||| maskN c.1) (ds ++ c.1) b) ∧ B = fun hv => catB ((Bs.zip (csS ms pcs t ds)).map fun x => x.1 (hv + x.2.2))
theorem AG0.mono {wi : Int} {ms : List Int} {pcs : List (List Int × Int)} {H H' : Hp} (k : Kp H H') {v : V} {dn : Nat} {ds : List Int} {B : Int → Option (List (Int × Int))} (h : AG0 wi ms pcs H v dn ds B) : AG0 wi ms pcs H' v dn ds B := h.imp (PG0.mono k.t) fun q => ⟨q.1.mono k, q.2⟩
theorem AG.mono {wi : Int} {ms : List Int} {pcs : List (List Int × Int)} {H H' : Hp} (k : Kp H H') : ∀ {d : Nat} {v : V} {dn : Nat} {ds : List Int} {B : Int → Option (List (Int × Int))}, AG wi ms pcs d H v dn ds B → AG wi ms pcs d H' v dn ds B
 | 0, v, dn, ds, B, h => AG0.mono k h
 | d + 1, v, dn, ds, B, h => by
   rcases h with h | ⟨a, x, q, us, Bs, e, h1, h2, h3, h4, h5, h6, h7, h8, h9⟩
   · exact .inl (AG0.mono k h)
   · exact .inr ⟨a, x, q, us, Bs, e, k.t _ _ h1, k.t _ _ h2, h3, h4, h5, h6, h7, fun i u c b g1 g2 g3 => AG.mono k (h8 i u c b g1 g2 g3), h9⟩
def Any (wi : Int) (ms : List Int) (pcs : List (List Int × Int)) (d : Nat) (H : Hp) (v : V) : Prop := ∀ dn ds, ∃ B, AG wi ms pcs d H v dn ds B
theorem Any.mono {wi : Int} {ms : List Int} {pcs : List (List Int × Int)} {H H' : Hp} {d : Nat} {v : V} (h : Any wi ms pcs d H v) (k : Kp H H') : Any wi ms pcs d H' v := fun dn ds => let ⟨B, q⟩ := h dn ds; ⟨B, q.mono k⟩
theorem AG.of0 {wi : Int} {ms : List Int} {pcs : List (List Int × Int)} {d : Nat} {H : Hp} {v : V} {dn : Nat} {ds : List Int} {B : Int → Option (List (Int × Int))} (h : AG0 wi ms pcs H v dn ds B) : AG wi ms pcs d H v dn ds B := by
 cases d with
 | zero => exact h
 | succ d => exact .inl h
theorem any_bad {wi : Int} {ms : List Int} {pcs : List (List Int × Int)} {d : Nat} {H : Hp} {v : V} (h : ∀ ds, BadP wi ms pcs H v ds) : Any wi ms pcs d H v := fun dn ds => ⟨_, AG.of0 (.inr ⟨h ds, rfl⟩)⟩
theorem any_oth {wi : Int} {ms : List Int} {pcs : List (List Int × Int)} {d : Nat} {H : Hp} {v : V} {o : Ob} (h : At H o v) (t : isTup o = false) : Any wi ms pcs d H v := any_bad fun _ => .inl ⟨o, h, t⟩
theorem any_odd {wi : Int} {ms : List Int} {pcs : List (List Int × Int)} {d : Nat} {H : Hp} {a : Addr} {xs : List V} (h : H a = some (.tup xs)) (o : OddW xs) : Any wi ms pcs d H (.ref a) := any_bad fun _ => .inr (.inl ⟨a, xs, rfl, h, o⟩)
theorem any_price {wi : Int} {ms : List Int} {pcs : List (List Int × Int)} {d : Nat} {H : Hp} {a : Addr} {u : V} {o : Ob} (h : H a = some (.tup [.str "price", u])) (hu : At H o u) (p : prB wi o = false) : Any wi ms pcs d H (.ref a) := any_bad fun _ => .inr (.inr (.inl ⟨a, u, o, rfl, h, hu, p⟩))
theorem any_good {wi : Int} {ms : List Int} {pcs : List (List Int × Int)} {d : Nat} {H : Hp} {a c : Addr} {xs : List V} {frs : List (Int × Int)} (h : H a = some (.tup [.str "price", .ref c])) (hc : H c = some (.tup xs)) (hF : FrsAt H xs frs) (hP : Prs wi frs) : Any wi ms pcs d H (.ref a) := fun dn ds => ⟨_, AG.of0 (.inl ⟨a, c, xs, frs, rfl, h, hc, hF, hP, rfl⟩)⟩
theorem pick_list {α β : Type} {p : Nat → α → β → Prop} : ∀ (us : List α), (∀ i u, us[i]? = some u → ∃ b, p i u b) → ∃ bs : List β, bs.length = us.length ∧ ∀ i u b, us[i]? = some u → bs[i]? = some b → p i u b
 | [], _ => ⟨[], rfl, fun i u b h => by cases h⟩
 | x :: us, h => by
   obtain ⟨b0, h0⟩ := h 0 x rfl
   obtain ⟨bs, bl, hb⟩ := pick_list (p := fun i u b => p (i + 1) u b) us fun i u hu => h (i + 1) u hu
   refine ⟨b0 :: bs, by rw [List.length_cons, List.length_cons, bl], fun i u b hu hb' => ?_⟩
   cases i with
   | zero => cases hu; cases hb'; exact h0
   | succ i => exact hb i u b hu hb'
theorem any_part {wi : Int} {ms : List Int} {pcs : List (List Int × Int)} {d : Nat} {H : Hp} {a : Addr} {x u : V} {o o2 : Ob} (h : H a = some (.tup [.str "part", x, u])) (hx : At H o x) (hu : At H o2 u) (hs : ∀ q us, u = .ref q → H q = some (.tup us) → ∀ z ∈ us, Any wi ms pcs d H z) : Any wi ms pcs (d + 1) H (.ref a) := fun dn ds => by
 cases ht : thB wi ds o with
 | false => exact ⟨_, .inl (.inr ⟨.inr (.inr (.inr (.inl ⟨a, x, u, o, o2, rfl, h, hx, hu, ht⟩))), rfl⟩)⟩
 | true =>
   cases o with
   | oth => cases ht
   | tup os => cases ht
   | int t =>
     cases (show x = .int t from hx)
     obtain ⟨h12, h3⟩ := Bool.and_eq_true_iff.mp ht
     obtain ⟨h1, h2⟩ := Bool.and_eq_true_iff.mp h12
     have t0 := of_decide_eq_true h1
     have t1 := of_decide_eq_true h2
     have tn : ¬ t ∈ ds := by simpa using h3
     cases hl : lenB (csS ms pcs t ds).length o2 with
     | false => exact ⟨_, .inl (.inr ⟨.inr (.inr (.inr (.inr ⟨a, t, u, o2, rfl, h, hu, t0, t1, tn, hl⟩))), rfl⟩)⟩
     | true =>
       cases o2 with
       | oth => cases hl
       | int i => cases hl
       | tup os =>
         obtain ⟨q, us, rfl, hq, ul, hA⟩ := hu
         have hl : os.length = (csS ms pcs t ds).length := of_decide_eq_true hl
         have al := hA.len
         obtain ⟨Bs, Bl, hB⟩ := pick_list (p := fun i u b => ∀ c, (csS ms pcs t ds)[i]? = some c → AG wi ms pcs d H u (dn ||| maskN c.1) (ds ++ c.1) b) us fun i z hz => by
           have hi : i < (csS ms pcs t ds).length := by
             have := (List.getElem?_eq_some_iff.mp hz).1
             omega
           obtain ⟨b, hb⟩ := hs q us rfl hq z (List.mem_of_getElem? hz) (dn ||| maskN (csS ms pcs t ds)[i].1) (ds ++ (csS ms pcs t ds)[i].1)
           refine ⟨b, fun c hc => ?_⟩
           rw [List.getElem?_eq_getElem hi] at hc
           cases hc
           exact hb
         exact ⟨_, .inr ⟨a, t, q, us, Bs, rfl, h, hq, t0, t1, tn, by omega, Bl, fun i u c b hu hc hb => hB i u b hu hb c hc, rfl⟩⟩
end Eo
end
section
namespace Eo
open PySem L2
def Fine (f : Int × Int) : Prop := 0 < f.2 ∧ f.1.natAbs < BIG ∧ f.2.natAbs < BIG
theorem byPr_fine {mt mp wi : Int} {ms : List Int} {pcs : List (List Int × Int)} (g : Good mt mp wi ms pcs) (hw : wi ≤ 16) {frs : List (Int × Int)} (hP : Prs wi frs) {dn : Nat} {wt : Int} (h : wt.natAbs ≤ 1000000000000000) {f : Int × Int} (e : byPr wi.toNat ms pcs frs dn wt = some f) : Fine f := by
 unfold byPr at e
 split at e
 · cases e
   have ll := leftL_len (w := wi.toNat) (dn := dn)
   have lin := leftL_in (w := wi.toNat) (dn := dn)
   have fl := hP.len
   have w0 := g.w0
   have hb : ∀ t ∈ qE wi.toNat dn, 0 ≤ t ∧ t < frs.length := fun t ht => by have := lin t ht; omega
   have hs : ∀ p ∈ (wt, (1 : Int)) :: (qE wi.toNat dn).map (frAt frs), qO p := fun p hp => by
     rcases List.mem_cons.mp hp with rfl | hp
     · refine ⟨?_, ?_, by show (0 : Int) < 1; decide, by show (1 : Int) < 1048576; decide⟩
       · show _ < wt
         omega
       · show wt < _
         omega
     · exact small_map hP hb p hp
   obtain ⟨b1, b2⟩ := sum_big hs (by rw [List.length_cons, List.length_map]; omega)
   exact ⟨(nrm_like (sum_pos _ (0, 1) (by decide) hs).1).1.pos, b1, b2⟩
 · cases e
theorem cs_fine {wi : Int} {ms : List Int} {pcs : List (List Int × Int)} (g : Good 16 11 wi ms pcs) {t : Int} (t0 : 0 ≤ t) (t1 : t < wi) {ds : List Int} {c : List Int × Int} (h : c ∈ csS ms pcs t ds) : c.2.natAbs ≤ 1000000000000 ∧ c.1.Pairwise (· < ·) ∧ ∀ z ∈ c.1, 0 ≤ z ∧ z < 64 := by
 have w1 := g.w1
 unfold csS at h
 rcases List.mem_append.mp h with h | h
 · split at h
   · cases List.mem_singleton.mp h
     refine ⟨by show (0 : Int).natAbs ≤ 1000000000000; decide, List.pairwise_singleton .., fun z hz => ?_⟩
     cases List.mem_singleton.mp hz
     omega
   · cases h
 · have gp := g.pg c (List.mem_filter.mp h).1
   have lo := gp.lo
   have hi := gp.hi
   refine ⟨by omega, gp.lot.ris, fun z hz => ?_⟩
   have := gp.lot.bnd z hz
   omega
theorem catB_mem : ∀ {l : List (Option (List (Int × Int)))} {fs : List (Int × Int)}, catB l = some fs → ∀ f ∈ fs, ∃ a, some a ∈ l ∧ f ∈ a
 | [], fs, e, f, hf => by cases e; cases hf
 | none :: _, fs, e, f, hf => by cases e
 | some a :: r, fs, e, f, hf => by
   have e : (catB r).map (a ++ ·) = some fs := e
   cases hr : catB r with
   | none => rw [hr] at e; cases e
   | some b =>
     rw [hr] at e
     cases e
     rcases List.mem_append.mp hf with hf | hf
     · exact ⟨a, List.mem_cons_self .., hf⟩
     · obtain ⟨x, h1, h2⟩ := catB_mem hr f hf
       exact ⟨x, List.mem_cons_of_mem _ h1, h2⟩
theorem zip_at {α β : Type} {xs : List α} {ys : List β} {x : α × β} (h : x ∈ xs.zip ys) : ∃ i : Nat, xs[i]? = some x.1 ∧ ys[i]? = some x.2 := by
 obtain ⟨i, hi⟩ := List.mem_iff_getElem?.mp h
 rw [List.getElem?_zip_eq_some] at hi
 exact ⟨i, hi⟩
theorem AG_fine {wi : Int} {ms : List Int} {pcs : List (List Int × Int)} (g : Good 16 11 wi ms pcs) {H : Hp} : ∀ {d : Nat} {v : V} {dn : Nat} {ds : List Int} {B : Int → Option (List (Int × Int))} {hv : Int} {fs : List (Int × Int)}, AG wi ms pcs d H v dn ds B → hv.natAbs + d * 1000000000000 ≤ 1000000000000000 → B hv = some fs → ∀ f ∈ fs, Fine f := by
 have base : ∀ {v : V} {dn : Nat} {ds : List Int} {B : Int → Option (List (Int × Int))} {hv : Int} {fs : List (Int × Int)}, AG0 wi ms pcs H v dn ds B → hv.natAbs ≤ 1000000000000000 → B hv = some fs → ∀ f ∈ fs, Fine f := fun {v dn ds B hv fs} h hh e f hf => by
   rcases h with ⟨a, c, xs, frs, _, _, _, _, hP, rfl⟩ | ⟨_, rfl⟩
   rotate_left
   · cases e
   have e : (byPr wi.toNat ms pcs frs dn hv).map (fun f => [f]) = some fs := e
   cases hb : byPr wi.toNat ms pcs frs dn hv with
   | none => rw [hb] at e; cases e
   | some x =>
     rw [hb] at e
     cases e
     cases List.mem_singleton.mp hf
     exact byPr_fine g g.w1 hP hh hb
 intro d
 induction d with
 | zero => exact fun {v dn ds B hv fs} h hh e => base h (by omega) e
 | succ d ih =>
   intro v dn ds B hv fs h hh e f hf
   rcases h with h | ⟨a, t, q, us, Bs, _, _, _, t0, t1, _, h6, h7, h8, rfl⟩
   · exact base h (by omega) e f hf
   · obtain ⟨l, hl, hfl⟩ := catB_mem e f hf
     rw [List.mem_map] at hl
     obtain ⟨x, hx, hxe⟩ := hl
     obtain ⟨i, i1, i2⟩ := zip_at hx
     have hi : i < us.length := by
       have := (List.getElem?_eq_some_iff.mp i1).1
       omega
     have cf := cs_fine g t0 t1 (List.mem_of_getElem? i2)
     have c1 := cf.1
     exact ih (h8 i us[i] x.2 x.1 (List.getElem?_eq_getElem hi) i2 i1) (by omega) hxe f hfl
end Eo
end
section
namespace L2
open PySem
theorem nm_call {op : CmpOp} {a : Expr} {xs : List Expr} {kw : List Keyword} {pos : Pos} : behindInMarks op (.Call a xs kw pos) = false := by cases op <;> rfl
end L2
namespace Eo
open PySem L2
def spNo : Sp := fun _ _ _ _ => False
def spInCase (d : Nat) : Sp := fun vs H Q _ => ∃ (b : Addr) (v : V) (wi wt : Int) (ms : List Int) (pcs : List (List Int × Int)) (dn : Nat) (ds : List Int) (B : Int → Option (List (Int × Int))), vs = [.ref b, v, .int (dn : Int), .int wt] ∧ BoxAt H b wi ms pcs ∧ Good 16 11 wi ms pcs ∧ Done dn ds ∧ AG wi ms pcs d H v dn ds B ∧ wt.natAbs + d * 1000000000000 ≤ 1000000000000000 ∧ ∀ v' H', Ext H H' → ResAt H' v' ((B wt).map minF) → Q v' H'
def spPart (d : Nat) : Sp := fun vs H Q _ => ∃ (b a q : Addr) (wi wt t : Int) (ms : List Int) (pcs : List (List Int × Int)) (dn : Nat) (ds : List Int) (us : List V) (Bs : List (Int → Option (List (Int × Int)))), vs = [.ref b, .ref a, .int (dn : Int), .int wt] ∧ BoxAt H b wi ms pcs ∧ Good 16 11 wi ms pcs ∧ Done dn ds ∧ H a = some (.tup [.str "part", .int t, .ref q]) ∧ H q = some (.tup us) ∧ 0 ≤ t ∧ t < wi ∧ ¬ t ∈ ds ∧ us.length = (csS ms pcs t ds).length ∧ Bs.length = us.length ∧
 (∀ (i : Nat) (u : V) (c : List Int × Int) (b : Int → Option (List (Int × Int))), us[i]? = some u → (csS ms pcs t ds)[i]? = some c → Bs[i]? = some b → AG wi ms pcs d H u (dn ||| maskN c.1) (ds ++ c.1) b) ∧ wt.natAbs + (d + 1) * 1000000000000 ≤ 1000000000000000 ∧ ∀ v' H', Ext H H' → ResAt H' v' ((catB ((Bs.zip (csS ms pcs t ds)).map fun x => x.1 (wt + x.2.2))).map minF) → Q v' H'
theorem minF_mem : ∀ {l : List (Int × Int)} {x : Int × Int}, minF l = some x → (∀ f ∈ l, Fine f) → Fine x := fun {l x} e h => by
 have key : ∀ (l : List (Int × Int)) (a : Option (Int × Int)), (∀ y, a = some y → Fine y) → (∀ f ∈ l, Fine f) → ∀ y, l.foldl (fun a f => comb a (some f)) a = some y → Fine y := fun l => by
   induction l with
   | nil => exact fun a ha _ y e => ha y e
   | cons f r ih =>
     intro a ha hl y e
     refine ih (comb a (some f)) (fun z hz => ?_) (fun g hg => hl g (List.mem_cons_of_mem _ hg)) y e
     cases a with
     | none => cases hz; exact hl f (List.mem_cons_self ..)
     | some b =>
       rw [yC] at hz
       split at hz
       · cases hz; exact hl f (List.mem_cons_self ..)
       · cases hz; exact ha _ rfl
 exact key l none (fun y e => by cases e) h x e
section
variable {P : Program} {w : World} {K : W.Frag} {mg : Str → Option Value} {base : Heap}
variable {f fW fT fC fI fL : Addr} {fdW fdT fdC fdI fdL : FuncData} {cdv : Value} {A : Around} {outer : List Env} {s : Shared} {H0 : Hp} {E : XK}
abbrev nByPart : List Str := ["box", "paper", "done", "weight", "thing", "papers", "cases", "told", "inner", "case", "answer"]
theorem scByPart : FnScope nByPart ["box", "paper", "done", "weight"] (j6 yS) := ⟨rfl, rfl, rfl, by decide +kernel, rfl, by decide +kernel, by decide +kernel⟩
abbrev XByPart (P : Program) (w : World) (K : W.Frag) (mg : Str → Option Value) (base : Heap) (f : Addr) (cdv : Value) (A : Around) (outer : List Env) (s : Shared) (H : Hp) (E : XK) : Cx := XOf nByPart "shown_by_part" yS P w K mg base f cdv A outer s H E
def partL {n : Nat} {spc : Sp} (hn : 3 ≤ n) (T : Txt mg) (CW : Can P w K mg base "is_whole" 1 fW fdW ["thing"] spWh) (CT : Can P w K mg base "things_left" 1 fT fdT ["box", "done"] qT) (CC : Can P w K mg base "cases_of" 3 fC fdC ["box", "done", "thing"] spCasesOf) (CI : Can P w K mg base "shown_in_case" n fI fdI ["box", "paper", "done", "weight"] spc) (CL : Can P w K mg base "least_of" 2 fL fdL ["told"] spLeast) (hr : Room n (XByPart P w K mg base f cdv A outer s H0 E).A) : { t : TS // JSs (XByPart P w K mg base f cdv A outer s H0 E) (xC ((j8 yS).getD 6 (.Pass ⟨0, 0, 0, 0⟩))) t } :=
 have nd := scByPart.nd
 ⟨_, (j5 (jM (i := 10) nd rfl lL (CI.je hr gD (j0 (jv 0 rfl vL) (j0 (jv 8 rfl vL) (j0 (jP op_or (jv 2 rfl vL) (jB jA (jv 9 rfl vL) (je_int) j3)) (j0 (jP kU (jv 3 rfl vL) (jB jA (jv 9 rfl vL) (je_int) j3)) j2 jS) jS) j1) j1) j1) jR)
     (j5 (jX (jF op_isN (jv 10 rfl vL) (kZ) (jK _)) (j9 (jI (kZ))) jN)
     (j9 (js_expr (je_bm PySem.F.plainAttrs_list PySem.F.slot_list_append PySem.F.type_list_append mt_append (jv 7 rfl vL) (j0 (jv 10 rfl vL) j2 j1) j1) jR))))⟩
def partB {n : Nat} {spc : Sp} (hn : 3 ≤ n) (T : Txt mg) (CW : Can P w K mg base "is_whole" 1 fW fdW ["thing"] spWh) (CT : Can P w K mg base "things_left" 1 fT fdT ["box", "done"] qT) (CC : Can P w K mg base "cases_of" 3 fC fdC ["box", "done", "thing"] spCasesOf) (CI : Can P w K mg base "shown_in_case" n fI fdI ["box", "paper", "done", "weight"] spc) (CL : Can P w K mg base "least_of" 2 fL fdL ["told"] spLeast) (hr : Room n (XByPart P w K mg base f cdv A outer s H0 E).A) : { t : TS // JSs (XByPart P w K mg base f cdv A outer s H0 E) ((j8 yS).drop 6) t } :=
 have nd := scByPart.nd
 ⟨_, (j5 (qC PassesOwn.never rfl (ji_zip gD T.zip (j0 (jv 5 rfl vL) (j0 (jv 6 rfl vL) j2 j1) j1) j1) (jg_two_d (i := 8) (j := 9) nd rfl rfl (by decide +kernel) (by decide +kernel)) (partL hn T CW CT CC CI CL hr).2 yF) (j9 (jI (CL.je (hr.mono (by omega)) gD (j0 (jv 7 rfl vL) j2 j1) j1))))⟩
def partA {n : Nat} {spc : Sp} (hn : 3 ≤ n) (T : Txt mg) (CW : Can P w K mg base "is_whole" 1 fW fdW ["thing"] spWh) (CT : Can P w K mg base "things_left" 1 fT fdT ["box", "done"] qT) (CC : Can P w K mg base "cases_of" 3 fC fdC ["box", "done", "thing"] spCasesOf) (CI : Can P w K mg base "shown_in_case" n fI fdI ["box", "paper", "done", "weight"] spc) (CL : Can P w K mg base "least_of" 2 fL fdL ["told"] spLeast) (hr : Room n (XByPart P w K mg base f cdv A outer s H0 E).A) : { t : TS // JSs (XByPart P w K mg base f cdv A outer s H0 E) (j8 yS) t } :=
 have nd := scByPart.nd
 ⟨_, (j5 (jM (i := 4) nd rfl lL (jB jA (jv 1 rfl vL) (je_int) j3) sw_sub) (j5 (jM (i := 5) nd rfl lL (jB jA (jv 1 rfl vL) (je_int) j3) sw_sub) (j5 (jX (jt_w (yQ (yH (kS (CW.je (hr.mono (by omega)) gD (j0 (jv 4 rfl vL) j2 j1) j1) jZ)) (yY (jF op_notIn_seq (jv 4 rfl vL) (CT.je (hr.mono (by omega)) gD (j0 (jv 0 rfl vL) (j0 (jv 2 rfl vL) j2 j1) j1) j1) nm_call)))) (j9 (jI (kZ))) jN) (j5 (jM (i := 6) nd rfl lL (CC.je (hr.mono (by omega)) gD (j0 (jv 0 rfl vL) (j0 (jv 2 rfl vL) (j0 (jv 4 rfl vL) j2 j1) j1) j1) j1) jR) (j5 (jX (jt_w (yQ (yH (kS (jG jY gD T.isinstance (by decide +kernel) (j0 (jv 5 rfl vL) (j0 (yM (v := .ty "tuple") gD T.tuple (by decide +kernel) rfl) j2 j1) j1) j1) jZ)) (yY (jF op_ne (jG jJ gD T.len (by decide +kernel) (j0 (jv 5 rfl vL) j2 j1) j1) (jG jJ gD T.len (by decide +kernel) (j0 (jv 6 rfl vL) j2 j1) j1) (jK _))))) (j9 (jI (kZ))) jN) (j5 (jM (i := 7) nd rfl lL (kI j2) sw_lst) (partB hn T CW CT CC CI CL hr).2))))))⟩
theorem part_step {fd : FuncData} (d : Nat) (F : Fun K "shown_by_part" "shown_by_part" yS f fd) (T : Txt mg) (CW : Can P w K mg base "is_whole" 1 fW fdW ["thing"] spWh) (CT : Can P w K mg base "things_left" 1 fT fdT ["box", "done"] qT) (CC : Can P w K mg base "cases_of" 3 fC fdC ["box", "done", "thing"] spCasesOf) (CI : Can P w K mg base "shown_in_case" (2 * d + 5) fI fdI ["box", "paper", "done", "weight"] (spInCase d)) (CL : Can P w K mg base "least_of" 2 fL fdL ["told"] spLeast) :
   FnOk P w K mg base CX0 (2 * d + 6) f fd ["box", "paper", "done", "weight"] (spPart d) := by
 refine F.ok scByPart (fun vs H Q E h => ?_) (fun cdv A outer s H vs Q E hr h => ?_)
 · obtain ⟨_, _, _, _, _, _, _, _, _, _, _, _, rfl, _⟩ := h
   rfl
 · obtain ⟨b, a, q, wi, wt, t, ms, pcs, dn, ds, us, Bs, rfl, hB, g, hD, ha, hq, t0, t1, tn, ul, bl, hPG, hw, k⟩ := h
   have w0 := g.w0
   have w1 := g.w1
   have gl := g.pl
   have htl : t ∈ qE wi.toNat dn := by
     rw [left_same hD]
     refine List.mem_filter.mpr ⟨?_, by rw [decide_eq_false tn]; rfl⟩
     unfold upto
     exact List.mem_map.mpr ⟨t.toNat, List.mem_range.mpr (by omega), by omega⟩
   have ecs := cs_same g (t := t) hD
   generalize hcs : csS ms pcs t ds = cs at *
   refine ⟨_, (partA (show 3 ≤ 2 * d + 5 by omega) T CW CT CC CI CL hr).2.h, ?_⟩
   refine ⟨_, rfl, a, _, 1, _, rfl, rfl, SqT.of ha, rfl, ?_⟩
   refine ⟨_, rfl, a, _, 2, _, rfl, rfl, SqT.of ha, rfl, ?_⟩
   refine ⟨_, rfl, .int t, .int t, rfl, rfl, _, rfl, iteF ?_⟩
   refine ⟨_, rfl, _, rfl, _, rfl, b, wi, ms, pcs, dn, rfl, hB, g, fun l1 H1 hl1 e1 => ⟨l1, _, rfl, .inl (SqL.of hl1), rfl, kQ _, _, rfl, ?_⟩⟩
   show if (!inV (.int t) ((qE wi.toNat dn).map V.int)) = true then _ else _
   rw [yE, decide_eq_true htl]
   refine iteF ?_
   refine ⟨_, rfl, _, rfl, _, rfl, b, wi, t, ms, pcs, dn, rfl, hB.mono e1.tups, g, t0, t1, fun lc cv H2 hlc hA e2 => ?_⟩
   rw [ecs] at hA
   have cl := hA.len
   have X2 := e1.trans e2
   refine ⟨_, rfl, _, _, _, true, rfl, .tup (X2 _ _ hq), rfl, _, rfl, iteF ?_⟩
   refine ⟨_, rfl, q, _, rfl, .inr (SqT.of (X2 _ _ hq)), _, rfl, lc, _, rfl, .inl (SqL.of hlc), rfl, _, rfl, qP (by rw [ul, cl]) ?_⟩
   refine ⟨(by show 0 ≤ sizeLine; decide), fun lt H3 hlt e3 n3 => ?_⟩
   have X3 := X2.trans e3
   generalize hL : ((Bs.zip cs).map fun x => x.1 (wt + x.2.2)) = L at k
   have Ll : L.length = us.length := by rw [← hL, List.length_map, List.length_zip]; omega
   have csl : cs.length ≤ 33 := by
     rw [← hcs]
     unfold csS
     rw [List.length_append]
     have := List.length_filter_le (fun pc : List Int × Int => decide (t ∈ pc.1) && fitS ds pc) pcs
     split
     · rw [List.length_singleton]
       omega
     · rw [List.length_nil]
       omega
   refine ⟨_, rfl, _, rfl, true, false, q, lc, rfl, ⟨_, SqT.of (X3 _ _ hq)⟩, ⟨_, SqL.of (e3 _ _ hlc)⟩, for_zip (xs := us) (ys := cv) (fun i σ H' => ∃ v8 v9 v10 ts os fs, σ = [some (.ref b), some (.ref a), some (.int (dn : Int)), some (.int wt), some (.int t), some (.ref q), some (.ref lc), some (.ref lt), v8, v9, v10] ∧ H' lt = some (.lst ts) ∧ ts.length = i ∧ All2 (ResL H') ts os ∧ catB (L.take i) = some fs ∧ os.foldl comb none = minF fs ∧ (∀ f ∈ fs, Fine f) ∧ Ext H2 H') ⟨_, _, _, [], [], [], rfl, hlt, rfl, trivial, rfl, rfl, (fun f hf => by cases hf), e3⟩ ?_ ?_ ?_⟩
   · rintro i σ H' ⟨v8, v9, v10, ts, os, fs, rfl, f1, f2, f3, f4, f5, f6, f7⟩
     exact ⟨SqT.of ((X2.trans f7) _ _ hq), SqL.of (f7 _ _ hlc)⟩
   · rintro i u y TT σ H4 hu hy hT ⟨v8, v9, v10, ts, os, fs, rfl, f1, f2, f3, f4, f5, f6, f7⟩
     obtain ⟨c, hc, ca, rfl, hca⟩ := hA.at hy
     have hi : i < us.length := (List.getElem?_eq_some_iff.mp hu).1
     obtain ⟨bi, hBi⟩ : ∃ bi, Bs[i]? = some bi := ⟨_, List.getElem?_eq_getElem (by omega)⟩
     have hLi : L[i]? = some (bi (wt + c.2)) := by
       rw [← hL, List.getElem?_map, show (Bs.zip cs)[i]? = some (bi, c) from List.getElem?_zip_eq_some.mpr ⟨hBi, hc⟩]
       rfl
     have tk : catB (L.take (i + 1)) = (bi (wt + c.2)).map (fs ++ ·) := by
       rw [List.take_add_one, hLi]
       show catB (L.take i ++ [_]) = _
       rw [catB_snoc, f4]
       rfl
     have cf := cs_fine g t0 t1 (ds := ds) (c := c) (by rw [hcs]; exact List.mem_of_getElem? hc)
     have cf1 := cf.1
     have e5 : Ext H4 (upd H4 TT (.tup [u, .ref ca])) := (Ext.refl _).new hT _
     have hT5 : (upd H4 TT (.tup [u, .ref ca])) TT = some (.tup [u, .ref ca]) := j4
     generalize upd H4 TT (.tup [u, .ref ca]) = H5 at e5 hT5 ⊢
     have E5 := f7.trans e5
     have X5 := X2.trans E5
     refine ⟨TT, _, rfl, SqT.of hT5, rfl, _, _, rfl, _, _, rfl, rfl, ?_⟩
     have hPi := (hPG i u c bi hu hc hBi).mono (.of X5)
     refine ⟨_, rfl, _, rfl, _, rfl, _, rfl, ca, _, 1, _, rfl, rfl, SqT.of (E5 _ _ hca), rfl, _, _, rfl, rfl, _, rfl, _, rfl, ca, _, 0, _, rfl, rfl, SqT.of (E5 _ _ hca), rfl, _, _, rfl, rfl, b, u, wi, wt + c.2, ms, pcs, dn ||| maskN c.1, ds ++ c.1, bi, ?_, hB.mono X5.tups, g, done_step hD cf.2.1 cf.2.2, hPi, by omega, fun v' H6 e6 hres => ?_⟩
     · rw [← bitOr_nat]
       rfl
     have E6 := E5.trans e6
     refine ⟨_, rfl, rfl, _, rfl, ?_⟩
     cases hb : bi (wt + c.2) with
     | none =>
       rw [hb] at hres
       cases (show v' = .non from hres)
       refine yes rfl (k .non H6 (X2.trans E6) ?_)
       rw [catB_none L (by rw [← hb]; exact List.mem_of_getElem? hLi)]
       rfl
     | some gs =>
       rw [hb] at hres tk
       have gf := AG_fine g hPi (by omega) hb
       have hv : ¬ v' = .non := by
         intro z
         subst z
         have hres : ResAt H6 .non (some (minF gs)) := hres
         cases hm : minF gs with
         | none => rw [hm] at hres; obtain ⟨r, z, _⟩ := hres; cases z
         | some x => rw [hm] at hres; obtain ⟨r, c, z, _⟩ := hres; cases z
       refine nay hv ?_
       have f16 := (e5.trans e6) _ _ f1
       refine ⟨_, rfl, (.inl ⟨rfl, _, SqL.of f16⟩), _, rfl, lt, ts, v', rfl, rfl, f16, (by rw [PySem.sizeLine_eq]; omega), ?_⟩
       have twin := Tups.upd f16 (.lst (ts ++ [v']))
       have mb : BigO (minF gs) := by
         cases hm : minF gs with
         | none => trivial
         | some x => exact (minF_mem hm gf).2
       refine ⟨_, _, _, ts ++ [v'], os ++ [minF gs], fs ++ gs, rfl, j4, by rw [List.length_append, f2]; rfl, ?_, tk, ?_, fun f hf => ?_, (E6.updNew n3 _)⟩
       · exact (f3.mono fun v c q => ⟨q.1.mono (((e5.trans e6).tups).trans twin), q.2⟩).snoc ⟨ResAt.mono twin hres, mb⟩
       · rw [List.foldl_append, f5]
         exact (minF_append (fun f hf => (f6 f hf).1) (fun f hf => (gf f hf).1)).symm
       · rcases List.mem_append.mp hf with hf | hf
         · exact f6 f hf
         · exact gf f hf
   · rintro σ H4 ⟨v8, v9, v10, ts, os, fs, rfl, f1, f2, f3, f4, f5, f6, f7⟩
     rw [show min us.length cv.length = L.length by omega, List.take_length] at f4
     refine ⟨_, rfl, lt, ts, os, rfl, f1, f3, fun v' H5 e5 hres => k v' H5 ((X2.trans f7).trans e5) ?_⟩
     rw [f4]
     rw [f5] at hres
     exact hres.1
end
end Eo
end
section
namespace Eo
open PySem L2
def BadPart (wi : Int) (ms : List Int) (pcs : List (List Int × Int)) (H : Hp) (a : Addr) (ds : List Int) : Prop :=
 (∃ x u o o2, H a = some (.tup [.str "part", x, u]) ∧ At H o x ∧ At H o2 u ∧ thB wi ds o = false)
 ∨ (∃ t u o2, H a = some (.tup [.str "part", .int t, u]) ∧ At H o2 u ∧ 0 ≤ t ∧ t < wi ∧ ¬ t ∈ ds ∧ lenB (csS ms pcs t ds).length o2 = false)
def spPartX : Sp := fun vs H Q _ => ∃ (b a : Addr) (wi wt : Int) (ms : List Int) (pcs : List (List Int × Int)) (dn : Nat) (ds : List Int), vs = [.ref b, .ref a, .int (dn : Int), .int wt] ∧ BoxAt H b wi ms pcs ∧ Good 16 11 wi ms pcs ∧ Done dn ds ∧ BadPart wi ms pcs H a ds ∧ ∀ H', Ext H H' → Q .non H'
theorem left_mem {wi : Int} {dn : Nat} {ds : List Int} (hD : Done dn ds) (t : Int) : t ∈ qE wi.toNat dn ↔ 0 ≤ t ∧ t < wi ∧ ¬ t ∈ ds := by
 rw [left_same hD]
 constructor
 · intro h
   obtain ⟨q1, q2⟩ := List.mem_filter.mp h
   unfold upto at q1
   obtain ⟨n, hn, rfl⟩ := List.mem_map.mp q1
   have := List.mem_range.mp hn
   rw [Bool.not_eq_true', decide_eq_false_iff_not] at q2
   exact ⟨by omega, by omega, q2⟩
 · rintro ⟨t0, t1, tn⟩
   refine List.mem_filter.mpr ⟨?_, by rw [decide_eq_false tn]; rfl⟩
   unfold upto
   exact List.mem_map.mpr ⟨t.toNat, List.mem_range.mpr (by omega), by omega⟩
section
variable {P : Program} {w : World} {K : W.Frag} {mg : Str → Option Value} {base : Heap}
variable {f fW fT fC fI fL : Addr} {fdW fdT fdC fdI fdL : FuncData} {cdv : Value} {A : Around} {outer : List Env} {s : Shared} {H0 : Hp} {E : XK}
theorem partX {fd : FuncData} {n : Nat} {spc : Sp} (hn : 3 ≤ n) (F : Fun K "shown_by_part" "shown_by_part" yS f fd) (T : Txt mg) (CW : Can P w K mg base "is_whole" 1 fW fdW ["thing"] spWh) (CT : Can P w K mg base "things_left" 1 fT fdT ["box", "done"] qT) (CC : Can P w K mg base "cases_of" 3 fC fdC ["box", "done", "thing"] spCasesOf) (CI : Can P w K mg base "shown_in_case" n fI fdI ["box", "paper", "done", "weight"] spc) (CL : Can P w K mg base "least_of" 2 fL fdL ["told"] spLeast) :
   FnOk P w K mg base CX0 (n + 1) f fd ["box", "paper", "done", "weight"] spPartX := by
 refine F.ok scByPart (fun vs H Q E h => ?_) (fun cdv A outer s H vs Q E hr h => ?_)
 · obtain ⟨_, _, _, _, _, _, _, _, rfl, _⟩ := h
   rfl
 · obtain ⟨b, a, wi, wt, ms, pcs, dn, ds, rfl, hB, g, hD, hX, k⟩ := h
   have w0 := g.w0
   have w1 := g.w1
   refine ⟨_, (partA hn T CW CT CC CI CL hr).2.h, ?_⟩
   rcases hX with ⟨x, u, o, o2, ha, hx, hu, ht⟩ | ⟨t, u, o2, ha, hu, t0, t1, tn, hl⟩
   · refine ⟨_, rfl, a, _, 1, _, rfl, rfl, SqT.of ha, rfl, ?_⟩
     refine ⟨_, rfl, a, _, 2, _, rfl, rfl, SqT.of ha, rfl, ?_⟩
     refine ⟨_, rfl, x, o, rfl, hx, _, rfl, ?_⟩
     cases hi : isInt o with
     | false => exact iteT (k H (Ext.refl _))
     | true =>
       cases o with
       | oth => cases hi
       | tup os => cases hi
       | int t =>
         cases (show x = .int t from hx)
         refine iteF ?_
         refine ⟨_, rfl, _, rfl, _, rfl, b, wi, ms, pcs, dn, rfl, hB, g, fun l1 H1 hl1 e1 => ⟨l1, _, rfl, .inl (SqL.of hl1), rfl, kQ _, _, rfl, ?_⟩⟩
         show if (!inV (.int t) ((qE wi.toNat dn).map V.int)) = true then _ else _
         have hm : ¬ t ∈ qE wi.toNat dn := fun z => by
           obtain ⟨t0, t1, tn⟩ := (left_mem hD t).mp z
           have ht : (decide (0 ≤ t) && decide (t < wi) && !decide (t ∈ ds)) = false := ht
           rw [decide_eq_true t0, decide_eq_true t1, decide_eq_false tn] at ht
           cases ht
         rw [yE, decide_eq_false hm]
         exact iteT (k H1 e1)
   · refine ⟨_, rfl, a, _, 1, _, rfl, rfl, SqT.of ha, rfl, ?_⟩
     refine ⟨_, rfl, a, _, 2, _, rfl, rfl, SqT.of ha, rfl, ?_⟩
     refine ⟨_, rfl, .int t, .int t, rfl, rfl, _, rfl, iteF ?_⟩
     refine ⟨_, rfl, _, rfl, _, rfl, b, wi, ms, pcs, dn, rfl, hB, g, fun l1 H1 hl1 e1 => ⟨l1, _, rfl, .inl (SqL.of hl1), rfl, kQ _, _, rfl, ?_⟩⟩
     show if (!inV (.int t) ((qE wi.toNat dn).map V.int)) = true then _ else _
     rw [yE, decide_eq_true ((left_mem hD t).mpr ⟨t0, t1, tn⟩)]
     refine iteF ?_
     refine ⟨_, rfl, _, rfl, _, rfl, b, wi, t, ms, pcs, dn, rfl, hB.mono e1.tups, g, t0, t1, fun lc cv H2 hlc hA e2 => ?_⟩
     rw [cs_same g (t := t) hD] at hA
     have cl := hA.len
     have X2 := e1.trans e2
     obtain ⟨ty, hty, kt, _⟩ := (hu.ext X2).ty K
     refine ⟨_, rfl, _, _, _, _, rfl, hty, kt, _, rfl, ?_⟩
     cases hi : isTup o2 with
     | false => exact iteT (k H2 X2)
     | true =>
       obtain ⟨os, q, us, rfl, rfl, hq, ul, hA2⟩ := (hu.ext X2).tupOf hi
       have al := hA2.len
       have hl : ¬ os.length = (csS ms pcs t ds).length := of_decide_eq_false hl
       refine iteF ?_
       refine ⟨_, rfl, q, _, rfl, .inr (SqT.of hq), _, rfl, lc, _, rfl, .inl (SqL.of hlc), rfl, _, rfl, ite2 (fun _ => k H2 X2) (fun h1 => ?_)⟩
       have : (us.length : Int) = cv.length := by simpa using h1
       omega
end
end Eo
end
section
namespace Eo
open PySem L2
def spPartP : Nat → Sp
 | 0 => spNo
 | d + 1 => spPart d
section
variable {P : Program} {w : World} {K : W.Frag} {mg : Str → Option Value} {base : Heap}
variable {f fP fB fW fT fC fI fL : Addr} {fdP fdB fdW fdT fdC fdI fdL : FuncData} {cdv : Value} {A : Around} {outer : List Env} {s : Shared} {H0 : Hp} {E : XK}
theorem ok_no {k : Nat} {f : Addr} {fd : FuncData} {ps : List Str} : FnOk P w K mg base CX0 k f fd ps spNo := ⟨fun _ _ _ _ h => h.elim, fun _ _ _ _ _ _ _ _ _ _ _ _ _ h => h.elim⟩
abbrev nInCase : List Str := ["box", "paper", "done", "weight"]
theorem scInCase : FnScope nInCase ["box", "paper", "done", "weight"] (j6 qB) := ⟨rfl, rfl, rfl, by decide +kernel, rfl, by decide +kernel, by decide +kernel⟩
def caseA {d : Nat} {sp spb : Sp} (T : Txt mg) (CP : Can P w K mg base "shown_by_part" (2 * d + 4) fP fdP ["box", "paper", "done", "weight"] sp) (CB : Can P w K mg base "shown_by_price" 4 fB fdB ["box", "prices", "done", "weight"] spb) (hr : Room (2 * d + 4) (XOf nInCase "shown_in_case" qB P w K mg base f cdv A outer s H0 E).A) : { t : TS // JSs (XOf nInCase "shown_in_case" qB P w K mg base f cdv A outer s H0 E) (j8 qB) t } :=
 have nd := scInCase.nd
 ⟨_, (j5 (jX (yH (kS (jG jY gD T.isinstance (by decide +kernel) (j0 (jv 1 rfl vL) (j0 (yM (v := .ty "tuple") gD T.tuple (by decide +kernel) rfl) j2 j1) j1) j1) jZ)) (j9 (jI (kZ))) jN)
     (j5 (jX (jt_w (jw_and (jF yP (jG jJ gD T.len (by decide +kernel) (j0 (jv 1 rfl vL) j2 j1) j1) (je_int) (jK _)) (jw_and1 (jF yP (jB jA (jv 1 rfl vL) (je_int) j3) (je_str) (jK _))))) (j9 (jI (CP.je hr gD (j0 (jv 0 rfl vL) (j0 (jv 1 rfl vL) (j0 (jv 2 rfl vL) (j0 (jv 3 rfl vL) j2 j1) j1) j1) j1) j1))) jN)
     (j5 (jX (jt_w (jw_and (jF yP (jG jJ gD T.len (by decide +kernel) (j0 (jv 1 rfl vL) j2 j1) j1) (je_int) (jK _)) (jw_and1 (jF yP (jB jA (jv 1 rfl vL) (je_int) j3) (je_str) (jK _))))) (j9 (jI (CB.je (hr.mono (by omega)) gD (j0 (jv 0 rfl vL) (j0 (jB jA (jv 1 rfl vL) (je_int) j3) (j0 (jv 2 rfl vL) (j0 (jv 3 rfl vL) j2 j1) j1) jE) j1) j1))) jN)
     (j9 (jI (kZ))))))⟩
theorem case_step {fd : FuncData} (d : Nat) (F : Fun K "shown_in_case" "shown_in_case" qB f fd) (T : Txt mg) (CP : Can P w K mg base "shown_by_part" (2 * d + 4) fP fdP ["box", "paper", "done", "weight"] (spOr (spPartP d) spPartX)) (CB : Can P w K mg base "shown_by_price" 4 fB fdB ["box", "prices", "done", "weight"] (spOr spByPr spByPrX)) :
   FnOk P w K mg base CX0 (2 * d + 5) f fd ["box", "paper", "done", "weight"] (spInCase d) := by
 refine F.ok scInCase (fun vs H Q E h => ?_) (fun cdv A outer s H vs Q E hr h => ?_)
 · obtain ⟨_, _, _, _, _, _, _, _, _, rfl, _⟩ := h
   rfl
 · obtain ⟨b, v, wi, wt, ms, pcs, dn, ds, B, rfl, hB, g, hD, hG, hw, k⟩ := h
   refine ⟨_, (caseA T CP CB hr).2.h, ?_⟩
   have price : AG0 wi ms pcs H v dn ds B → (caseA (outer := outer) (H0 := H) (E := E) T CP CB hr).1 { nx := fun x H' => Q V.non H', rt := Q } [some (.ref b), some v, some (.int (dn : Int)), some (.int wt)] H := fun h => by
     rcases h with ⟨a, c, xs, frs, rfl, ha, hc, hF, hP, rfl⟩ | ⟨hX, rfl⟩
     rotate_left
     · have kn : ∀ H', Ext H H' → Q .non H' := fun H' e => k .non H' e rfl
       rcases hX with ⟨o, hA, ht⟩ | ⟨a, xs, rfl, ha, hO⟩ | ⟨a, u, o, rfl, ha, hu, hp⟩ | ⟨a, x, u, o, o2, rfl, ha, hx, hu, ht⟩ | ⟨a, t, u, o2, rfl, ha, hu, t0, t1, tn, hl⟩
       · obtain ⟨t, ty, kt, _⟩ := hA.ty K
         refine ⟨_, rfl, _, _, _, _, rfl, ty, kt, _, rfl, ?_⟩
         rw [ht]
         exact iteT (kn H (Ext.refl _))
       · refine ⟨_, rfl, _, _, _, true, rfl, .tup ha, rfl, _, rfl, iteF ?_⟩
         rcases hO with rfl | ⟨x0, r, rfl, hf, n1, n2⟩
         · refine ⟨_, rfl, a, _, rfl, .inr (SqT.of ha), rfl, _, rfl, nay (by intro z; cases z) (iteF ?_)⟩
           refine ⟨_, rfl, a, _, rfl, .inr (SqT.of ha), rfl, _, rfl, nay (by intro z; cases z) (iteF ?_)⟩
           exact kn H (Ext.refl _)
         · have fl : ∀ y : Str, scal x0 (.str y) = true := fun y => by
             rcases hf with ⟨y, rfl⟩ | ⟨i, rfl⟩
             · rfl
             · rfl
           have at0 : atI (x0 :: r) 0 = some x0 := yT (xs := x0 :: r) (j := 0) rfl
           have ln : ∀ n : Nat, (V.int ((x0 :: r).length : Int) = V.int (n + 1 : Nat)) ↔ r.length = n := fun n => by
             rw [List.length_cons]
             constructor
             · intro z
               have := V.int.inj z
               omega
             · intro z
               rw [z]
           by_cases h3 : r.length = 2
           · refine ⟨_, rfl, a, _, rfl, .inr (SqT.of ha), rfl, _, rfl, yes ((ln 2).mpr h3) ⟨_, rfl, a, _, 0, _, rfl, rfl, SqT.of ha, at0, fl _, _, rfl, nay (fun z => n1 ⟨h3, z⟩) ?_⟩⟩
             refine ⟨_, rfl, a, _, rfl, .inr (SqT.of ha), rfl, _, rfl, nay (fun z => by have := (ln 1).mp z; omega) (iteF ?_)⟩
             exact kn H (Ext.refl _)
           · refine ⟨_, rfl, a, _, rfl, .inr (SqT.of ha), rfl, _, rfl, nay (fun z => h3 ((ln 2).mp z)) (iteF ?_)⟩
             by_cases h2 : r.length = 1
             · refine ⟨_, rfl, a, _, rfl, .inr (SqT.of ha), rfl, _, rfl, yes ((ln 1).mpr h2) ⟨_, rfl, a, _, 0, _, rfl, rfl, SqT.of ha, at0, fl _, _, rfl, nay (fun z => n2 ⟨h2, z⟩) ?_⟩⟩
               exact kn H (Ext.refl _)
             · refine ⟨_, rfl, a, _, rfl, .inr (SqT.of ha), rfl, _, rfl, nay (fun z => h2 ((ln 1).mp z)) (iteF ?_)⟩
               exact kn H (Ext.refl _)
       · refine ⟨_, rfl, _, _, _, true, rfl, .tup ha, rfl, _, rfl, iteF ?_⟩
         refine ⟨_, rfl, a, _, rfl, .inr (SqT.of ha), rfl, _, rfl, nay (by intro z; cases z) (iteF ?_)⟩
         refine ⟨_, rfl, a, _, rfl, .inr (SqT.of ha), rfl, _, rfl, yes rfl ⟨_, rfl, a, _, 0, _, rfl, rfl, SqT.of ha, rfl, rfl, _, rfl, yes rfl ?_⟩⟩
         exact ⟨_, rfl, _, rfl, a, _, 1, _, rfl, rfl, SqT.of ha, rfl, _, rfl, _, rfl, .inr ⟨b, u, o, dn, wi, wt, ms, pcs, rfl, hB, g, hu, hp, kn⟩⟩
       · refine ⟨_, rfl, _, _, _, true, rfl, .tup ha, rfl, _, rfl, iteF ?_⟩
         refine ⟨_, rfl, a, _, rfl, .inr (SqT.of ha), rfl, _, rfl, yes rfl ⟨_, rfl, a, _, 0, _, rfl, rfl, SqT.of ha, rfl, rfl, _, rfl, yes rfl ?_⟩⟩
         exact ⟨_, rfl, _, rfl, _, rfl, _, rfl, .inr ⟨b, a, wi, wt, ms, pcs, dn, ds, rfl, hB, g, hD, .inl ⟨x, u, o, o2, ha, hx, hu, ht⟩, kn⟩⟩
       · refine ⟨_, rfl, _, _, _, true, rfl, .tup ha, rfl, _, rfl, iteF ?_⟩
         refine ⟨_, rfl, a, _, rfl, .inr (SqT.of ha), rfl, _, rfl, yes rfl ⟨_, rfl, a, _, 0, _, rfl, rfl, SqT.of ha, rfl, rfl, _, rfl, yes rfl ?_⟩⟩
         exact ⟨_, rfl, _, rfl, _, rfl, _, rfl, .inr ⟨b, a, wi, wt, ms, pcs, dn, ds, rfl, hB, g, hD, .inr ⟨t, u, o2, ha, hu, t0, t1, tn, hl⟩, kn⟩⟩
     refine ⟨_, rfl, _, _, _, true, rfl, .tup ha, rfl, _, rfl, iteF ?_⟩
     refine ⟨_, rfl, a, _, rfl, .inr (SqT.of ha), rfl, _, rfl, nay (by intro z; cases z) (iteF ?_)⟩
     refine ⟨_, rfl, a, _, rfl, .inr (SqT.of ha), rfl, _, rfl, yes rfl ⟨_, rfl, a, _, 0, _, rfl, rfl, SqT.of ha, rfl, rfl, _, rfl, yes rfl ?_⟩⟩
     refine ⟨_, rfl, _, rfl, a, _, 1, _, rfl, rfl, SqT.of ha, rfl, _, rfl, _, rfl, .inl ⟨b, c, wi, wt, ms, pcs, xs, frs, dn, rfl, hB, g, hc, hF, hP, by omega, by omega, fun v' H' e hres => k v' H' e ?_⟩⟩
     show ResAt H' v' (((byPr wi.toNat ms pcs frs dn wt).map fun f => [f]).map minF)
     cases hb : byPr wi.toNat ms pcs frs dn wt with
     | none => rw [hb] at hres; exact hres
     | some x => rw [hb] at hres; exact hres
   cases d with
   | zero => exact price hG
   | succ d =>
     rcases hG with hG | ⟨a, t, q, us, Bs, rfl, ha, hq, t0, t1, tn, ul, bl, hPG, rfl⟩
     · exact price hG
     · refine ⟨_, rfl, _, _, _, true, rfl, .tup ha, rfl, _, rfl, iteF ?_⟩
       refine ⟨_, rfl, a, _, rfl, .inr (SqT.of ha), rfl, _, rfl, yes rfl ⟨_, rfl, a, _, 0, _, rfl, rfl, SqT.of ha, rfl, rfl, _, rfl, yes rfl ?_⟩⟩
       exact ⟨_, rfl, _, rfl, _, rfl, _, rfl, .inl ⟨b, a, q, wi, wt, t, ms, pcs, dn, ds, us, Bs, rfl, hB, g, hD, ha, hq, t0, t1, tn, ul, bl, hPG, hw, k⟩⟩
theorem ok_case {fd : FuncData} (F : Fun K "shown_in_case" "shown_in_case" qB f fd) (FP : Fun K "shown_by_part" "shown_by_part" yS fP fdP) (T : Txt mg) (CB : Can P w K mg base "shown_by_price" 4 fB fdB ["box", "prices", "done", "weight"] (spOr spByPr spByPrX)) (CW : Can P w K mg base "is_whole" 1 fW fdW ["thing"] spWh) (CT : Can P w K mg base "things_left" 1 fT fdT ["box", "done"] qT) (CC : Can P w K mg base "cases_of" 3 fC fdC ["box", "done", "thing"] spCasesOf) (CL : Can P w K mg base "least_of" 2 fL fdL ["told"] spLeast)
   (hm : mg "shown_in_case" = some (.ref f)) (kp : PySem.W.keepIn K (.ref f) = true) (hb : Binds K fd ["box", "paper", "done", "weight"] []) (hmP : mg "shown_by_part" = some (.ref fP)) (kpP : PySem.W.keepIn K (.ref fP) = true) (hbP : Binds K fdP ["box", "paper", "done", "weight"] []) :
   ∀ d : Nat, FnOk P w K mg base CX0 (2 * d + 5) f fd ["box", "paper", "done", "weight"] (spInCase d)
 | 0 => case_step 0 F T ⟨.or ok_no (partX (n := 3) (spc := spNo) (by omega) FP T CW CT CC ⟨ok_no, hm, kp, hb⟩ CL), hmP, kpP, hbP⟩ CB
 | d + 1 => case_step (d + 1) F T ⟨.or (part_step d FP T CW CT CC ⟨ok_case F FP T CB CW CT CC CL hm kp hb hmP kpP hbP d, hm, kp, hb⟩ CL) (partX (n := 2 * d + 5) (spc := spNo) (by omega) FP T CW CT CC ⟨ok_no, hm, kp, hb⟩ CL), hmP, kpP, hbP⟩ CB
abbrev nShown : List Str := ["box", "paper"]
theorem scShown : FnScope nShown ["box", "paper"] (j6 qX) := ⟨rfl, rfl, rfl, by decide +kernel, rfl, by decide +kernel, by decide +kernel⟩
def spShown : Sp := fun vs H Q _ => ∃ (b : Addr) (v : V) (wi : Int) (ms : List Int) (pcs : List (List Int × Int)) (B : Int → Option (List (Int × Int))), vs = [.ref b, v] ∧ BoxAt H b wi ms pcs ∧ Good 16 11 wi ms pcs ∧ AG wi ms pcs 5 H v 0 [] B ∧ ∀ v' H', Ext H H' → ResAt H' v' ((B 0).map minF) → Q v' H'
def shownA (T : Txt mg) (CI : Can P w K mg base "shown_in_case" 15 fI fdI ["box", "paper", "done", "weight"] (spInCase 5)) (hr : Room 15 (XOf nShown "shown" qX P w K mg base f cdv A outer s H0 E).A) : { t : TS // JSs (XOf nShown "shown" qX P w K mg base f cdv A outer s H0 E) (j8 qX) t } :=
 have nd := scShown.nd
 ⟨_, (j9 (jI (CI.je hr gD (j0 (jv 0 rfl vL) (j0 (jv 1 rfl vL) (j0 (je_int) (j0 (je_int) j2 j7) j7) j1) j1) j1)))⟩
theorem ok_shown {fd : FuncData} (F : Fun K "shown" "shown" qX f fd) (T : Txt mg) (CI : Can P w K mg base "shown_in_case" 15 fI fdI ["box", "paper", "done", "weight"] (spInCase 5)) : FnOk P w K mg base CX0 16 f fd ["box", "paper"] spShown := by
 refine F.ok scShown (fun vs H Q E h => ?_) (fun cdv A outer s H vs Q E hr h => ?_)
 · obtain ⟨_, _, _, _, _, _, rfl, _⟩ := h
   rfl
 · obtain ⟨b, v, wi, ms, pcs, B, rfl, hB, g, hG, k⟩ := h
   refine ⟨_, (shownA T CI hr).2.h, ?_⟩
   exact ⟨_, rfl, _, rfl, b, v, wi, 0, ms, pcs, 0, [], B, rfl, hB, g, ⟨fun n => by rw [Nat.zero_testBit]; rfl, fun t ht => by cases ht⟩, hG, by decide, k⟩
end
end Eo
end
section
namespace L2
open PySem
theorem jt_chain {X : Cx} {a b c : Expr} {ta tb tc : TE} {pos : Pos} {op op' : CmpOp} {r r' : R2} (ho : OpR X (compareOp op) r) (ho' : OpR X (compareOp op') r') (ha : JE X a ta) (hb : JE X b tb) (hc : JE X c tc)
   (hm : lastMarks [op, op'] [b, c] = false := by with_unfolding_all rfl) : JT X (.Compare a [op, op'] [b, c] pos) (tTest (tChain r r' ta tb tc)) := ⟨pt_chain ho ho' ha.h hb.h hc.h hm⟩
section
variable {P : Program} {w : World} {K : W.Frag} {mg : Str → Option Value} {base : Heap} {N : List Str} {qual : Str} {sc : Scope} {f : Addr} {cdv : Value} {A : Around} {outer : List Env} {s : Shared} {H : Hp} {E : XK} {x y z : Str} {p1 p2 p3 pos q : Pos} {k k1 i j l : Nat}
theorem jg_nest_d (hN : N.Nodup) (hi : N[i]? = some x) (hj : N[j]? = some y) (hl : N[l]? = some z) (hx : sc.names.lookup x = some .local) (hy : sc.names.lookup y = some .local) (hz : sc.names.lookup z = some .local) :
   JG (cxOf CX0 P w K mg base N qual sc f cdv A outer s H E).nox (.Tuple [.Tuple [.Name x p1, .Name y p2] k1 q, .Name z p3] k pos) (gTup K 2 (gCons (gTup K 2 (gCons (yJ i) (gCons (yJ j) gNil))) (gCons (yJ l) gNil))) :=
 jg_tup (X := (cxOf CX0 P w K mg base N qual sc f cdv A outer s H E).nox) rfl (jgs_cons (jg_tup (X := (cxOf CX0 P w K mg base N qual sc f cdv A outer s H E).nox) rfl (jgs_cons (jT hN hi (loc_l hx)) (jgs_cons (jT hN hj (loc_l hy)) jgs_nil as_name) as_name)) (jgs_cons (jT hN hl (loc_l hz)) jgs_nil as_name) as_tup)
end
end L2
namespace Eo
open PySem L2
theorem FrsAt.cat {H : Hp} : ∀ {vs us : List V} {ps qs : List (Int × Int)}, FrsAt H vs ps → FrsAt H us qs → FrsAt H (vs ++ us) (ps ++ qs)
 | [], _, [], _, _, q => q
 | _ :: _, _, _ :: _, _, h, q => ⟨h.1, FrsAt.cat h.2 q⟩
 | [], _, _ :: _, _, h, _ => h.elim
 | _ :: _, _, [], _, h, _ => h.elim
theorem catB_len {m : Nat} : ∀ {l : List (Option (List (Int × Int)))} {fs : List (Int × Int)}, catB l = some fs → (∀ a, some a ∈ l → a.length ≤ m) → fs.length ≤ l.length * m
 | [], fs, e, _ => by cases e; exact Nat.zero_le _
 | none :: _, fs, e, _ => by cases e
 | some a :: r, fs, e, h => by
   have e : (catB r).map (a ++ ·) = some fs := e
   cases hr : catB r with
   | none => rw [hr] at e; cases e
   | some b =>
     rw [hr] at e
     cases e
     have h1 := h a (List.mem_cons_self ..)
     have h2 := catB_len hr fun a ha => h a (List.mem_cons_of_mem _ ha)
     rw [List.length_append, List.length_cons, Nat.succ_mul]
     omega
theorem cs_len {wi : Int} {ms : List Int} {pcs : List (List Int × Int)} (g : Good 16 11 wi ms pcs) (t : Int) (ds : List Int) : (csS ms pcs t ds).length ≤ 12 := by
 have gl := g.pl
 unfold csS
 rw [List.length_append]
 have := List.length_filter_le (fun pc : List Int × Int => decide (t ∈ pc.1) && fitS ds pc) pcs
 split
 · rw [List.length_singleton]
   omega
 · rw [List.length_nil]
   omega
theorem AG_len {wi : Int} {ms : List Int} {pcs : List (List Int × Int)} (g : Good 16 11 wi ms pcs) {H : Hp} : ∀ {d : Nat} {v : V} {dn : Nat} {ds : List Int} {B : Int → Option (List (Int × Int))} {hv : Int} {fs : List (Int × Int)}, AG wi ms pcs d H v dn ds B → B hv = some fs → fs.length ≤ 12 ^ d := by
 have base : ∀ {v : V} {dn : Nat} {ds : List Int} {B : Int → Option (List (Int × Int))} {hv : Int} {fs : List (Int × Int)}, AG0 wi ms pcs H v dn ds B → B hv = some fs → fs.length ≤ 1 := fun {v dn ds B hv fs} h e => by
   rcases h with ⟨a, c, xs, frs, _, _, _, _, hP, rfl⟩ | ⟨_, rfl⟩
   rotate_left
   · cases e
   have e : (byPr wi.toNat ms pcs frs dn hv).map (fun f => [f]) = some fs := e
   cases hb : byPr wi.toNat ms pcs frs dn hv with
   | none => rw [hb] at e; cases e
   | some x => rw [hb] at e; cases e; exact Nat.le_refl _
 intro d
 induction d with
 | zero => exact fun {v dn ds B hv fs} h e => base h e
 | succ d ih =>
   intro v dn ds B hv fs h e
   have p1 : 1 ≤ 12 ^ d := Nat.one_le_pow _ _ (by decide)
   rcases h with h | ⟨a, t, q, us, Bs, _, _, _, t0, t1, _, h6, h7, h8, rfl⟩
   · have := base h e
     rw [Nat.pow_succ]
     omega
   · have cl := cs_len g t ds
     have := catB_len (m := 12 ^ d) e fun a ha => by
       rw [List.mem_map] at ha
       obtain ⟨x, hx, hxe⟩ := ha
       obtain ⟨i, i1, i2⟩ := zip_at hx
       have hi : i < us.length := by
         have := (List.getElem?_eq_some_iff.mp i1).1
         omega
       exact ih (h8 i us[i] x.2 x.1 (List.getElem?_eq_getElem hi) i2 i1) hxe
     rw [List.length_map, List.length_zip] at this
     refine Nat.le_trans this ?_
     rw [Nat.pow_succ, Nat.mul_comm]
     exact Nat.mul_le_mul_left _ (by omega)
theorem cs16 {wi : Int} {ms : List Int} {pcs : List (List Int × Int)} (g : Good 16 11 wi ms pcs) {t : Int} {ds : List Int} {c : List Int × Int} (h : c ∈ csS ms pcs t ds) : c.1.length ≤ 16 := by
 have w1 := g.w1
 unfold csS at h
 rcases List.mem_append.mp h with h | h
 · split at h
   · cases List.mem_singleton.mp h
     show 1 ≤ 16
     decide
   · cases h
 · have gp := g.pg c (List.mem_filter.mp h).1
   have := qK _ 0 wi gp.lot.ris gp.lot.bnd
   omega
theorem notS {c A B : Prop} [Decidable c] (hc : ¬ c) (h : A) : if (!decide c) = true then A else B := by
 rw [decide_eq_false hc]
 exact iteT h
def BdAt (H H' : Hp) (v : V) : Option (List (Int × Int)) → Prop
 | none => v = .non
 | some fs => ∃ l us, v = .ref l ∧ H' l = some (.lst us) ∧ FrsAt H' us fs
def spBounds (d : Nat) : Sp := fun vs H Q _ => ∃ (b : Addr) (v : V) (da : Addr) (wi wt : Int) (ms : List Int) (pcs : List (List Int × Int)) (dn : Nat) (ds : List Int) (B : Int → Option (List (Int × Int))), vs = [.ref b, v, .ref da, .int wt] ∧ BoxAt H b wi ms pcs ∧ Good 16 11 wi ms pcs ∧ Done dn ds ∧ H da = some (.tup (ds.map V.int)) ∧ ds.length + 16 * d ≤ 900 ∧ d ≤ 5 ∧ AG wi ms pcs d H v dn ds B ∧ wt.natAbs + d * 1000000000000 ≤ 1000000000000000 ∧ ∀ v' H', Ext H H' → BdAt H H' v' (B wt) → Q v' H'
def spBoundsP : Nat → Sp
 | 0 => spNo
 | d + 1 => spBounds d
section
variable {P : Program} {w : World} {K : W.Frag} {mg : Str → Option Value} {base : Heap}
variable {f fW fB fC fI : Addr} {fdW fdB fdC fdI : FuncData} {cdv : Value} {A : Around} {outer : List Env} {s : Shared} {H0 : Hp} {E : XK}
abbrev nBounds : List Str := ["box", "paper", "done", "heavy", "bound", "cases", "found", "there", "more", "own", "some"]
theorem scBounds : FnScope nBounds ["box", "paper", "done", "heavy"] (j6 yX) := ⟨rfl, rfl, rfl, by decide +kernel, rfl, by decide +kernel, by decide +kernel⟩
abbrev XBounds (P : Program) (w : World) (K : W.Frag) (mg : Str → Option Value) (base : Heap) (f : Addr) (cdv : Value) (A : Around) (outer : List Env) (s : Shared) (H : Hp) (E : XK) : Cx := XOf nBounds "_law_bounds" yX P w K mg base f cdv A outer s H E
def bdL {d : Nat} {sp spb : Sp} (T : Txt mg) (CW : Can P w K mg base "_law_whole" 1 fW fdW ["found"] spWh) (CB : Can P w K mg base "_law_bound" 4 fB fdB ["box", "prices", "done", "heavy"] spb) (CC : Can P w K mg base "_law_cases" 2 fC fdC ["box", "thing", "done", "heavy"] yW) (CI : Can P w K mg base "_law_bounds" (d + 4) fI fdI ["box", "paper", "done", "heavy"] sp) (hr : Room (d + 4) (XBounds P w K mg base f cdv A outer s H0 E).A) : { t : TS // JSs (XBounds P w K mg base f cdv A outer s H0 E) (xC ((j8 yX).getD 7 (.Pass ⟨0, 0, 0, 0⟩))) t } :=
 have nd := scBounds.nd
 ⟨_, (j5 (jM (i := 10) nd rfl lL (CI.je hr gD (j0 (jv 0 rfl vL) (j0 (jv 9 rfl vL) (j0 (jv 7 rfl vL) (j0 (jv 8 rfl vL) j2 j1) j1) j1) j1) j1) jR)
     (j5 (jX (jF op_isN (jv 10 rfl vL) (kZ) (jK _)) (j9 (jI (kZ))) jN)
     (j9 (js_expr (je_bm PySem.F.plainAttrs_list PySem.F.slot_list_extend PySem.F.type_list_extend mt_extend (jv 6 rfl vL) (j0 (jv 10 rfl vL) j2 j1) j1) jR))))⟩
def bdB {d : Nat} {sp spb : Sp} (T : Txt mg) (CW : Can P w K mg base "_law_whole" 1 fW fdW ["found"] spWh) (CB : Can P w K mg base "_law_bound" 4 fB fdB ["box", "prices", "done", "heavy"] spb) (CC : Can P w K mg base "_law_cases" 2 fC fdC ["box", "thing", "done", "heavy"] yW) (CI : Can P w K mg base "_law_bounds" (d + 4) fI fdI ["box", "paper", "done", "heavy"] sp) (hr : Room (d + 4) (XBounds P w K mg base f cdv A outer s H0 E).A) : { t : TS // JSs (XBounds P w K mg base f cdv A outer s H0 E) ((j8 yX).drop 7) t } :=
 have nd := scBounds.nd
 ⟨_, (j5 (qC PassesOwn.never rfl (ji_zip gD T.zip (j0 (jv 5 rfl vL) (j0 (jB jA (jv 1 rfl vL) (je_int) j3) j2 jE) j1) j1) (jg_nest_d (i := 7) (j := 8) (l := 9) nd rfl rfl rfl (by decide +kernel) (by decide +kernel) (by decide +kernel)) (bdL T CW CB CC CI hr).2 yF) (j9 (jI (jv 6 rfl vL))))⟩
def bdA {d : Nat} {sp spb : Sp} (T : Txt mg) (CW : Can P w K mg base "_law_whole" 1 fW fdW ["found"] spWh) (CB : Can P w K mg base "_law_bound" 4 fB fdB ["box", "prices", "done", "heavy"] spb) (CC : Can P w K mg base "_law_cases" 2 fC fdC ["box", "thing", "done", "heavy"] yW) (CI : Can P w K mg base "_law_bounds" (d + 4) fI fdI ["box", "paper", "done", "heavy"] sp) (hr : Room (d + 4) (XBounds P w K mg base f cdv A outer s H0 E).A) : { t : TS // JSs (XBounds P w K mg base f cdv A outer s H0 E) (j8 yX) t } :=
 have nd := scBounds.nd
 ⟨_, (j5 (jX (jt_w (yQ (yH (kS (jG jY gD T.isinstance (by decide +kernel) (j0 (jv 1 rfl vL) (j0 (yM (v := .ty "tuple") gD T.tuple (by decide +kernel) rfl) j2 j1) j1) j1) jZ)) (yQ (jF xJ (jG jJ gD T.len (by decide +kernel) (j0 (jv 1 rfl vL) j2 j1) j1) (je_int) (jK _)) (yY (yH (kS (jG jY gD T.isinstance (by decide +kernel) (j0 (jB jA (jv 1 rfl vL) (je_int) j3) (j0 (yM (v := .ty "str") gD T.str (by decide +kernel) rfl) j2 j1) jE) jE) jZ)))))) (j9 (jI (kZ))) jN) (j5 (jX (jt_w (jw_and (jF yP (jB jA (jv 1 rfl vL) (je_int) j3) (je_str) (jK _)) (jw_and1 (jF yP (jG jJ gD T.len (by decide +kernel) (j0 (jv 1 rfl vL) j2 j1) j1) (je_int) (jK _))))) (j5 (jM (i := 4) nd rfl lL (CB.je (hr.mono (by omega)) gD (j0 (jv 0 rfl vL) (j0 (jB jA (jv 1 rfl vL) (je_int) j3) (j0 (jv 2 rfl vL) (j0 (jv 3 rfl vL) j2 j1) j1) jE) j1) j1) jR)
     (j9 (jI (je_ifE (jF op_isN (jv 4 rfl vL) (kZ) (jK _)) (kZ) (kI (j0 (jv 4 rfl vL) j2 j1)))))) jN) (j5 (jX (jt_w (yQ (jF op_ne (jB jA (jv 1 rfl vL) (je_int) j3) (je_str) (jK _)) (yQ (jF op_ne (jG jJ gD T.len (by decide +kernel) (j0 (jv 1 rfl vL) j2 j1) j1) (je_int) (jK _)) (yQ (yH (kS (CW.je (hr.mono (by omega)) gD (j0 (jB jA (jv 1 rfl vL) (je_int) j3) j2 jE) jE) jZ)) (yY (yH (kS (jG jY gD T.isinstance (by decide +kernel) (j0 (jB jA (jv 1 rfl vL) (je_int) j3) (j0 (yM (v := .ty "tuple") gD T.tuple (by decide +kernel) rfl) j2 j1) jE) jE) jZ))))))) (j9 (jI (kZ))) jN) (j5 (jX (jt_w (yQ (yH (jt_chain op_le xJ (je_int) (jB jA (jv 1 rfl vL) (je_int) j3) (jB jA (jv 0 rfl vL) (je_int) j3))) (yY (jF op_in_seq (jB jA (jv 1 rfl vL) (je_int) j3) (jv 2 rfl vL) nm_name)))) (j9 (jI (kZ))) jN) (j5 (jM (i := 5) nd rfl lL (CC.je (hr.mono (by omega)) gD (j0 (jv 0 rfl vL) (j0 (jB jA (jv 1 rfl vL) (je_int) j3) (j0 (jv 2 rfl vL) (j0 (jv 3 rfl vL) j2 j1) j1) jE) j1) j1) jR) (j5 (jX (jF op_ne (jG jJ gD T.len (by decide +kernel) (j0 (jv 5 rfl vL) j2 j1) j1) (jG jJ gD T.len (by decide +kernel) (j0 (jB jA (jv 1 rfl vL) (je_int) j3) j2 jE) jE) (jK _)) (j9 (jI (kZ))) jN) (j5 (jM (i := 6) nd rfl lL (kI j2) sw_lst) (bdB T CW CB CC CI hr).2)))))))⟩
theorem bd_step {fd : FuncData} (d : Nat) (F : Fun K "_law_bounds" "_law_bounds" yX f fd) (T : Txt mg) (CW : Can P w K mg base "_law_whole" 1 fW fdW ["found"] spWh) (CB : Can P w K mg base "_law_bound" 4 fB fdB ["box", "prices", "done", "heavy"] (spOr spBound spBoundX)) (CC : Can P w K mg base "_law_cases" 2 fC fdC ["box", "thing", "done", "heavy"] yW) (CI : Can P w K mg base "_law_bounds" (d + 4) fI fdI ["box", "paper", "done", "heavy"] (spBoundsP d)) :
   FnOk P w K mg base CX0 (d + 5) f fd ["box", "paper", "done", "heavy"] (spBounds d) := by
 refine F.ok scBounds (fun vs H Q E h => ?_) (fun cdv A outer s H vs Q E hr h => ?_)
 · obtain ⟨_, _, _, _, _, _, _, _, _, _, rfl, _⟩ := h
   rfl
 · obtain ⟨b, v, da, wi, wt, ms, pcs, dn, ds, B, rfl, hB, g, hD, hda, dl, d3, hG, hw, k⟩ := h
   have w0 := g.w0
   have w1 := g.w1
   refine ⟨_, (bdA T CW CB CC CI hr).2.h, ?_⟩
   have price : AG0 wi ms pcs H v dn ds B → (bdA (outer := outer) (H0 := H) (E := E) T CW CB CC CI hr).1 { nx := fun x H' => Q V.non H', rt := Q } [some (.ref b), some v, some (.ref da), some (.int wt), none, none, none, none, none, none, none] H := fun h => by
     rcases h with ⟨a, c, xs, frs, rfl, ha, hc, hF, hP, rfl⟩ | ⟨hX, rfl⟩
     rotate_left
     · have kn : ∀ H', Ext H H' → Q .non H' := fun H' e => k .non H' e rfl
       have k0 := kn H (Ext.refl _)
       obtain ⟨qm, qp, ps, b1, b2, b3, b4⟩ := hB.ex
       rcases hX with ⟨o, hA, ht⟩ | ⟨a, xs, rfl, ha, hO⟩ | ⟨a, u, o, rfl, ha, hu, hp⟩ | ⟨a, x, u, o, o2, rfl, ha, hx, hu, ht⟩ | ⟨a, t, u, o2, rfl, ha, hu, t0, t1, tn, hl⟩
       · obtain ⟨t, ty, kt, _⟩ := hA.ty K
         refine ⟨_, rfl, _, _, _, _, rfl, ty, kt, _, rfl, ?_⟩
         rw [ht]
         exact iteT k0
       · refine ⟨_, rfl, _, _, _, true, rfl, .tup ha, rfl, _, rfl, iteF ?_⟩
         refine ⟨_, rfl, a, _, rfl, .inr (SqT.of ha), _, _, rfl, rfl, _, rfl, ?_⟩
         rcases hO with rfl | ⟨x0, r, rfl, hf, n1, n2⟩
         · exact yes (by show (0 : Int) < 2; decide) k0
         · have at0 : atI (x0 :: r) 0 = some x0 := yT (xs := x0 :: r) (j := 0) rfl
           by_cases h1 : r.length = 0
           · exact yes (by rw [List.length_cons, h1]; decide) k0
           · refine nay (by rw [List.length_cons]; omega) ?_
             rcases hf with ⟨y, rfl⟩ | ⟨i, rfl⟩
             · refine ⟨_, rfl, a, _, 0, _, rfl, rfl, SqT.of ha, at0, _, _, _, true, rfl, .str _, rfl, _, rfl, iteF ?_⟩
               refine ⟨_, rfl, a, _, 0, _, rfl, rfl, SqT.of ha, at0, rfl, _, rfl, ?_⟩
               have lnn : ∀ n : Nat, ¬ r.length = n → ¬ (V.int ((V.str y :: r).length : Int) = V.int (n + 1 : Nat)) := fun n hn z => by
                 have := V.int.inj z
                 rw [List.length_cons] at this
                 omega
               by_cases hy : (V.str y) = .str "price"
               · refine yes hy ⟨_, rfl, a, _, rfl, .inr (SqT.of ha), rfl, _, rfl, nay (lnn 1 fun z => n2 ⟨z, hy⟩) ?_⟩
                 refine ⟨_, rfl, a, _, 0, _, rfl, rfl, SqT.of ha, at0, rfl, _, rfl, notS (fun z => ?_) k0⟩
                 rw [z] at hy
                 cases hy
               · refine nay hy (iteF ?_)
                 refine ⟨_, rfl, a, _, 0, _, rfl, rfl, SqT.of ha, at0, rfl, _, rfl, ?_⟩
                 by_cases hz : (V.str y) = .str "part"
                 · exact qP hz ⟨_, rfl, a, _, rfl, .inr (SqT.of ha), rfl, _, rfl, notS (lnn 2 fun z => n1 ⟨z, hz⟩) k0⟩
                 · exact notS hz k0
             · exact ⟨_, rfl, a, _, 0, _, rfl, rfl, SqT.of ha, at0, _, _, _, false, rfl, .int _, rfl, _, rfl, iteT k0⟩
       · refine ⟨_, rfl, _, _, _, true, rfl, .tup ha, rfl, _, rfl, iteF ?_⟩
         refine ⟨_, rfl, a, _, rfl, .inr (SqT.of ha), _, _, rfl, rfl, _, rfl, nay (by show ¬ (2 : Int) < 2; decide) ?_⟩
         refine ⟨_, rfl, a, _, 0, _, rfl, rfl, SqT.of ha, rfl, _, _, _, true, rfl, .str _, rfl, _, rfl, iteF ?_⟩
         refine ⟨_, rfl, a, _, 0, _, rfl, rfl, SqT.of ha, rfl, rfl, _, rfl, yes rfl ⟨_, rfl, a, _, rfl, .inr (SqT.of ha), rfl, _, rfl, yes rfl ?_⟩⟩
         exact ⟨_, rfl, _, rfl, a, _, 1, _, rfl, rfl, SqT.of ha, rfl, _, rfl, _, rfl, .inr ⟨b, da, u, o, wi, wt, ms, pcs, rfl, hB, g, hu, hp, fun H' e => ⟨_, rfl, rfl, _, rfl, yes rfl (kn H' e)⟩⟩⟩
       · obtain ⟨ty, hty, kt, _⟩ := hu.ty K
         refine ⟨_, rfl, _, _, _, true, rfl, .tup ha, rfl, _, rfl, iteF ?_⟩
         refine ⟨_, rfl, a, _, rfl, .inr (SqT.of ha), _, _, rfl, rfl, _, rfl, nay (by show ¬ (3 : Int) < 2; decide) ?_⟩
         refine ⟨_, rfl, a, _, 0, _, rfl, rfl, SqT.of ha, rfl, _, _, _, true, rfl, .str _, rfl, _, rfl, iteF ?_⟩
         refine ⟨_, rfl, a, _, 0, _, rfl, rfl, SqT.of ha, rfl, rfl, _, rfl, nay (by intro z; cases z) (iteF ?_)⟩
         refine ⟨_, rfl, a, _, 0, _, rfl, rfl, SqT.of ha, rfl, rfl, _, rfl, qP rfl ?_⟩
         refine ⟨_, rfl, a, _, rfl, .inr (SqT.of ha), rfl, _, rfl, qP rfl ?_⟩
         refine ⟨_, rfl, a, _, 1, _, rfl, rfl, SqT.of ha, rfl, x, o, rfl, hx, _, rfl, ?_⟩
         cases hi : isInt o with
         | false => exact iteT k0
         | true =>
           cases o with
           | oth => cases hi
           | tup os => cases hi
           | int t =>
             cases (show x = .int t from hx)
             refine iteF ⟨_, rfl, a, _, 2, _, rfl, rfl, SqT.of ha, rfl, _, _, _, _, rfl, hty, kt, _, rfl, ?_⟩
             cases hi2 : isTup o2 with
             | false => exact iteT k0
             | true =>
               refine iteF ?_
               have ht : (decide (0 ≤ t) && decide (t < wi) && !decide (t ∈ ds)) = false := ht
               refine ⟨_, rfl, a, _, 1, _, rfl, rfl, SqT.of ha, rfl, _, _, rfl, rfl, _, rfl, ?_⟩
               by_cases t0 : 0 ≤ t
               · refine yes t0 ⟨_, rfl, b, _, 0, _, rfl, rfl, SqT.of b1, rfl, _, _, rfl, rfl, _, rfl, ?_⟩
                 by_cases t1 : t < wi
                 · refine qP t1 ⟨_, rfl, a, _, 1, _, rfl, rfl, SqT.of ha, rfl, _, rfl, da, _, rfl, .inr (SqT.of hda), rfl, kQ _, _, rfl, ?_⟩
                   show if inV (.int t) (ds.map V.int) = true then _ else _
                   have tm : t ∈ ds := by
                     rw [decide_eq_true t0, decide_eq_true t1] at ht
                     simpa using ht
                   rw [yE, decide_eq_true tm]
                   exact iteT k0
                 · exact notS t1 k0
               · exact nay t0 ⟨_, rfl, iteT k0⟩
       · obtain ⟨ty, hty, kt, _⟩ := hu.ty K
         refine ⟨_, rfl, _, _, _, true, rfl, .tup ha, rfl, _, rfl, iteF ?_⟩
         refine ⟨_, rfl, a, _, rfl, .inr (SqT.of ha), _, _, rfl, rfl, _, rfl, nay (by show ¬ (3 : Int) < 2; decide) ?_⟩
         refine ⟨_, rfl, a, _, 0, _, rfl, rfl, SqT.of ha, rfl, _, _, _, true, rfl, .str _, rfl, _, rfl, iteF ?_⟩
         refine ⟨_, rfl, a, _, 0, _, rfl, rfl, SqT.of ha, rfl, rfl, _, rfl, nay (by intro z; cases z) (iteF ?_)⟩
         refine ⟨_, rfl, a, _, 0, _, rfl, rfl, SqT.of ha, rfl, rfl, _, rfl, qP rfl ?_⟩
         refine ⟨_, rfl, a, _, rfl, .inr (SqT.of ha), rfl, _, rfl, qP rfl ?_⟩
         refine ⟨_, rfl, a, _, 1, _, rfl, rfl, SqT.of ha, rfl, .int t, .int t, rfl, rfl, _, rfl, iteF ?_⟩
         refine ⟨_, rfl, a, _, 2, _, rfl, rfl, SqT.of ha, rfl, _, _, _, _, rfl, hty, kt, _, rfl, ?_⟩
         cases hi2 : isTup o2 with
         | false => exact iteT k0
         | true =>
           obtain ⟨os, q, us, rfl, rfl, hq, ul, hA2⟩ := hu.tupOf hi2
           have al := hA2.len
           have hl : ¬ os.length = (csS ms pcs t ds).length := of_decide_eq_false hl
           refine iteF ?_
           refine ⟨_, rfl, a, _, 1, _, rfl, rfl, SqT.of ha, rfl, _, _, rfl, rfl, _, rfl, yes t0 ?_⟩
           refine ⟨_, rfl, b, _, 0, _, rfl, rfl, SqT.of b1, rfl, _, _, rfl, rfl, _, rfl, qP t1 ?_⟩
           refine ⟨_, rfl, a, _, 1, _, rfl, rfl, SqT.of ha, rfl, _, rfl, da, _, rfl, .inr (SqT.of hda), rfl, kQ _, _, rfl, ?_⟩
           show if inV (.int t) (ds.map V.int) = true then _ else _
           rw [yE, decide_eq_false tn]
           refine iteF ?_
           refine ⟨_, rfl, _, rfl, a, _, 1, _, rfl, rfl, SqT.of ha, rfl, _, rfl, _, rfl, b, da, wi, t, wt, ms, pcs, ds, rfl, hB, g, hda, by omega, fun lc cv H2 hlc hA e2 n2 => ?_⟩
           have cl := hA.len
           refine ⟨_, rfl, lc, _, rfl, .inl (SqL.of hlc), _, rfl, a, _, 2, _, rfl, rfl, SqT.of (e2 _ _ ha), rfl, q, _, rfl, .inr (SqT.of (e2 _ _ hq)), rfl, _, rfl, notS (fun z => ?_) (kn H2 e2)⟩
           have := V.int.inj z
           omega
     refine ⟨_, rfl, _, _, _, true, rfl, .tup ha, rfl, _, rfl, iteF ?_⟩
     refine ⟨_, rfl, a, _, rfl, .inr (SqT.of ha), _, _, rfl, rfl, _, rfl, nay (by show ¬ (2 : Int) < 2; decide) ?_⟩
     refine ⟨_, rfl, a, _, 0, _, rfl, rfl, SqT.of ha, rfl, _, _, _, true, rfl, .str _, rfl, _, rfl, iteF ?_⟩
     refine ⟨_, rfl, a, _, 0, _, rfl, rfl, SqT.of ha, rfl, rfl, _, rfl, yes rfl ⟨_, rfl, a, _, rfl, .inr (SqT.of ha), rfl, _, rfl, yes rfl ?_⟩⟩
     refine ⟨_, rfl, _, rfl, a, _, 1, _, rfl, rfl, SqT.of ha, rfl, _, rfl, _, rfl, .inl ⟨b, c, da, wi, wt, ms, pcs, xs, frs, dn, ds, rfl, hB, g, hc, hF, hP, hda, hD, by omega, by omega, fun v' H' e hres => ?_⟩⟩
     refine ⟨_, rfl, rfl, _, rfl, ?_⟩
     have k' : ∀ v'' H'', Ext H H'' → BdAt H H'' v'' ((byPr wi.toNat ms pcs frs dn wt).map fun f => [f]) → Q v'' H'' := k
     cases hb : byPr wi.toNat ms pcs frs dn wt with
     | none =>
       rw [hb] at hres
       have hres : v' = .non := hres
       subst hres
       exact yes rfl (k' .non H' e (by rw [hb]; rfl))
     | some x =>
       rw [hb] at hres
       obtain ⟨r, rfl, hr'⟩ : FrAt H' v' x := hres
       refine nay (by intro z; cases z) ⟨_, rfl, (by show 1 ≤ sizeLine; decide), fun l H2 hl e2 _ => k' (.ref l) H2 (e.trans e2) ?_⟩
       rw [hb]
       exact ⟨l, _, rfl, hl, ⟨⟨r, rfl, e2 _ _ hr'⟩, trivial⟩⟩
   cases d with
   | zero => exact price hG
   | succ d =>
     rcases hG with hG | ⟨a, t, q, us, Bs, rfl, ha, hq, t0, t1, tn, ul, bl, hPG, rfl⟩
     · exact price hG
     · obtain ⟨qm, qp, ps, b1, b2, b3, b4⟩ := hB.ex
       refine ⟨_, rfl, _, _, _, true, rfl, .tup ha, rfl, _, rfl, iteF ?_⟩
       refine ⟨_, rfl, a, _, rfl, .inr (SqT.of ha), _, _, rfl, rfl, _, rfl, nay (by show ¬ (3 : Int) < 2; decide) ?_⟩
       refine ⟨_, rfl, a, _, 0, _, rfl, rfl, SqT.of ha, rfl, _, _, _, true, rfl, .str _, rfl, _, rfl, iteF ?_⟩
       refine ⟨_, rfl, a, _, 0, _, rfl, rfl, SqT.of ha, rfl, rfl, _, rfl, nay (by intro z; cases z) (iteF ?_)⟩
       refine ⟨_, rfl, a, _, 0, _, rfl, rfl, SqT.of ha, rfl, rfl, _, rfl, qP rfl ?_⟩
       refine ⟨_, rfl, a, _, rfl, .inr (SqT.of ha), rfl, _, rfl, qP rfl ?_⟩
       refine ⟨_, rfl, a, _, 1, _, rfl, rfl, SqT.of ha, rfl, .int t, .int t, rfl, rfl, _, rfl, iteF ?_⟩
       refine ⟨_, rfl, a, _, 2, _, rfl, rfl, SqT.of ha, rfl, _, _, _, true, rfl, .tup hq, rfl, _, rfl, iteF ?_⟩
       refine ⟨_, rfl, a, _, 1, _, rfl, rfl, SqT.of ha, rfl, _, _, rfl, rfl, _, rfl, yes t0 ?_⟩
       refine ⟨_, rfl, b, _, 0, _, rfl, rfl, SqT.of b1, rfl, _, _, rfl, rfl, _, rfl, qP t1 ?_⟩
       refine ⟨_, rfl, a, _, 1, _, rfl, rfl, SqT.of ha, rfl, _, rfl, da, _, rfl, .inr (SqT.of hda), rfl, kQ _, _, rfl, ?_⟩
       show if inV (.int t) (ds.map V.int) = true then _ else _
       rw [yE, decide_eq_false tn]
       refine iteF ?_
       refine ⟨_, rfl, _, rfl, a, _, 1, _, rfl, rfl, SqT.of ha, rfl, _, rfl, _, rfl, b, da, wi, t, wt, ms, pcs, ds, rfl, hB, g, hda, by omega, fun lc cv H2 hlc hA e2 n2 => ?_⟩
       have cl := hA.len
       refine ⟨_, rfl, lc, _, rfl, .inl (SqL.of hlc), _, rfl, a, _, 2, _, rfl, rfl, SqT.of (e2 _ _ ha), rfl, q, _, rfl, .inr (SqT.of (e2 _ _ hq)), rfl, _, rfl, qP (by rw [ul, cl]) ?_⟩
       refine ⟨(by show 0 ≤ sizeLine; decide), fun lf H3 hlf e3 n3 => ?_⟩
       have X3 := e2.trans e3
       have csl := cs_len g t ds
       have c16 := fun c hc => cs16 g (t := t) (ds := ds) (c := c) hc
       generalize hcs : csS ms pcs t ds = cs at *
       generalize hL : ((Bs.zip cs).map fun x => x.1 (wt + x.2.2)) = L at k
       have Ll : L.length = us.length := by rw [← hL, List.length_map, List.length_zip]; omega
       have p3 : 12 ^ d ≤ 12 ^ 5 := Nat.pow_le_pow_right (by decide) (by omega)
       refine ⟨_, rfl, _, rfl, a, _, 2, _, rfl, rfl, SqT.of (X3 _ _ ha), rfl, false, true, lc, q, rfl, ⟨_, SqL.of (e3 _ _ hlc)⟩, ⟨_, SqT.of (X3 _ _ hq)⟩, for_zip (xs := cv) (ys := us) (fun i σ H' => ∃ v4 v7 v8 v9 v10 ts fs, σ = [some (.ref b), some (.ref a), some (.ref da), some (.int wt), v4, some (.ref lc), some (.ref lf), v7, v8, v9, v10] ∧ H' lf = some (.lst ts) ∧ FrsAt H' ts fs ∧ catB (L.take i) = some fs ∧ fs.length ≤ i * 12 ^ d ∧ Ext H2 H') ⟨_, _, _, _, _, [], [], rfl, hlf, trivial, rfl, Nat.zero_le _, e3⟩ ?_ ?_ ?_⟩
       · rintro i σ H' ⟨v4, v7, v8, v9, v10, ts, fs, rfl, f1, f2, f3, f4, f5⟩
         exact ⟨SqL.of (f5 _ _ hlc), SqT.of ((e2.trans f5) _ _ hq)⟩
       · rintro i y u TT σ H4 hy hu hT ⟨v4, v7, v8, v9, v10, ts, fs, rfl, f1, f2, f3, f4, f5⟩
         obtain ⟨c, hc, ca, cq, rfl, hca, hcq⟩ := hA.at hy
         have hi : i < us.length := (List.getElem?_eq_some_iff.mp hu).1
         obtain ⟨bi, hBi⟩ : ∃ bi, Bs[i]? = some bi := ⟨_, List.getElem?_eq_getElem (by omega)⟩
         have hLi : L[i]? = some (bi (wt + c.2)) := by
           rw [← hL, List.getElem?_map, show (Bs.zip cs)[i]? = some (bi, c) from List.getElem?_zip_eq_some.mpr ⟨hBi, hc⟩]
           rfl
         have tk : catB (L.take (i + 1)) = (bi (wt + c.2)).map (fs ++ ·) := by
           rw [List.take_add_one, hLi]
           show catB (L.take i ++ [_]) = _
           rw [catB_snoc, f3]
           rfl
         have cf := cs_fine g t0 t1 (ds := ds) (c := c) (by rw [hcs]; exact List.mem_of_getElem? hc)
         have cf1 := cf.1
         have c16' := c16 c (List.mem_of_getElem? hc)
         have e5 : Ext H4 (upd H4 TT (.tup [.ref ca, u])) := (Ext.refl _).new hT _
         have hT5 : (upd H4 TT (.tup [.ref ca, u])) TT = some (.tup [.ref ca, u]) := j4
         generalize upd H4 TT (.tup [.ref ca, u]) = H5 at e5 hT5 ⊢
         have E5 := f5.trans e5
         have X5 := e2.trans E5
         refine ⟨TT, _, rfl, SqT.of hT5, rfl, _, _, rfl, ca, _, rfl, SqT.of (E5 _ _ hca), rfl, _, _, rfl, _, _, rfl, rfl, _, _, rfl, rfl, ?_⟩
         have hPi := (hPG i u c bi hu hc hBi).mono (.of X5)
         refine ⟨_, rfl, _, rfl, _, rfl, _, rfl, b, u, cq, wi, wt + c.2, ms, pcs, dn ||| maskN c.1, ds ++ c.1, bi, rfl, hB.mono X5.tups, g, done_step hD cf.2.1 cf.2.2, E5 _ _ hcq, by rw [List.length_append]; omega, by omega, hPi, by omega, fun v' H6 e6 hres => ?_⟩
         have E6 := E5.trans e6
         refine ⟨_, rfl, rfl, _, rfl, ?_⟩
         cases hb : bi (wt + c.2) with
         | none =>
           rw [hb] at hres
           cases (show v' = .non from hres)
           refine yes rfl (k .non H6 (e2.trans E6) ?_)
           show BdAt H H6 .non (catB ((Bs.zip cs).map fun x => x.1 (wt + x.2.2)))
           rw [hL, catB_none L (by rw [← hb]; exact List.mem_of_getElem? hLi)]
           rfl
         | some gs =>
           rw [hb] at hres tk
           obtain ⟨l5, us5, rfl, hl5, hF5⟩ := hres
           have gl := AG_len g hPi hb
           have f16 := (e5.trans e6) _ _ f1
           have fl := f2.len
           have fl5 := hF5.len
           have i12 : i * 12 ^ d ≤ 12 * 12 ^ 5 := Nat.mul_le_mul (by omega) p3
           refine nay (by intro z; cases z) ?_
           refine ⟨_, rfl, (.inl ⟨rfl, _, SqL.of f16⟩), _, rfl, lf, l5, ts, us5, rfl, rfl, f16, hl5, (by rw [PySem.sizeLine_eq]; omega), ?_⟩
           have twin := Tups.upd f16 (.lst (ts ++ us5))
           refine ⟨_, _, _, _, _, ts ++ us5, fs ++ gs, rfl, j4, ?_, tk, by rw [List.length_append, Nat.succ_mul]; omega, (E6.updNew n3 _)⟩
           exact FrsAt.cat (f2.mono (((e5.trans e6).tups).trans twin)) (hF5.mono twin)
       · rintro σ H4 ⟨v4, v7, v8, v9, v10, ts, fs, rfl, f1, f2, f3, f4, f5⟩
         rw [show min cv.length us.length = L.length by omega, List.take_length] at f3
         refine ⟨_, rfl, k (.ref lf) H4 (e2.trans f5) ?_⟩
         show BdAt H H4 (.ref lf) (catB ((Bs.zip cs).map fun x => x.1 (wt + x.2.2)))
         rw [hL, f3]
         exact ⟨lf, ts, rfl, f1, f2⟩
theorem ok_bounds {fd : FuncData} (F : Fun K "_law_bounds" "_law_bounds" yX f fd) (T : Txt mg) (CW : Can P w K mg base "_law_whole" 1 fW fdW ["found"] spWh) (CB : Can P w K mg base "_law_bound" 4 fB fdB ["box", "prices", "done", "heavy"] (spOr spBound spBoundX)) (CC : Can P w K mg base "_law_cases" 2 fC fdC ["box", "thing", "done", "heavy"] yW)
   (hm : mg "_law_bounds" = some (.ref f)) (kp : PySem.W.keepIn K (.ref f) = true) (hb : Binds K fd ["box", "paper", "done", "heavy"] []) : ∀ d : Nat, FnOk P w K mg base CX0 (d + 5) f fd ["box", "paper", "done", "heavy"] (spBounds d)
 | 0 => bd_step 0 F T CW CB CC ⟨ok_no, hm, kp, hb⟩
 | d + 1 => bd_step (d + 1) F T CW CB CC ⟨ok_bounds F T CW CB CC hm kp hb d, hm, kp, hb⟩
end
end Eo
end
section
namespace Eo
open PySem L2
def pairT (p : Int × Int) : Tr := .tup [.int p.1, .int p.2]
theorem FrAt.tr {H : Hp} {v : V} {p : Int × Int} (h : FrAt H v p) : TAt H (pairT p) v := by
 obtain ⟨a, rfl, ha⟩ := h
 unfold pairT
 rw [TAt]
 refine ⟨a, _, rfl, ha, ?_⟩
 rw [TsAt]
 refine ⟨_, _, rfl, by rw [TAt], ?_⟩
 rw [TsAt]
 exact ⟨_, _, rfl, by rw [TAt], by rw [TsAt]⟩
theorem FrsAt.ts {H : Hp} : ∀ {vs : List V} {ps : List (Int × Int)}, FrsAt H vs ps → TsAt H (ps.map pairT) vs
 | [], [], _ => by rw [List.map_nil, TsAt]
 | v :: vs, p :: ps, h => by
   rw [List.map_cons, TsAt]
   exact ⟨_, _, rfl, h.1.tr, FrsAt.ts h.2⟩
 | [], _ :: _, h => h.elim
 | _ :: _, [], h => h.elim
theorem deps_pairs : ∀ ps : List (Int × Int), deps (ps.map pairT) ≤ 1
 | [] => by rw [List.map_nil, deps]; exact Nat.zero_le _
 | p :: ps => by
   rw [List.map_cons, deps]
   refine Nat.max_le.mpr ⟨?_, deps_pairs ps⟩
   simp [pairT, dep, deps]
theorem less_self (f : Int × Int) : xH f f = false := by
 unfold xH
 exact decide_eq_false (Int.lt_irrefl _)
theorem fold_in : ∀ (l : List (Int × Int)) (a x : Int × Int), l.foldl (fun a f => comb a (some f)) (some a) = some x → x = a ∨ x ∈ l
 | [], a, x, e => .inl (by cases e; rfl)
 | f :: r, a, x, e => by
   have e : r.foldl (fun a f => comb a (some f)) (comb (some a) (some f)) = some x := e
   rw [yC] at e
   split at e
   · rcases fold_in r f x e with q | q
     · exact .inr (by rw [q]; exact List.mem_cons_self ..)
     · exact .inr (List.mem_cons_of_mem _ q)
   · rcases fold_in r a x e with q | q
     · exact .inl q
     · exact .inr (List.mem_cons_of_mem _ q)
theorem minF_in {l : List (Int × Int)} {x : Int × Int} (e : minF l = some x) : x ∈ l := by
 cases l with
 | nil => cases e
 | cons f r =>
   rcases fold_in r f x e with q | q
   · rw [q]; exact List.mem_cons_self ..
   · exact List.mem_cons_of_mem _ q
section
variable {P : Program} {w : World} {K : W.Frag} {mg : Str → Option Value} {base : Heap}
variable {f fB fR : Addr} {fdB fdR : FuncData} {cdv : Value} {A : Around} {outer : List Env} {s : Shared} {H0 : Hp} {E : XK}
abbrev nDue : List Str := ["box", "paper", "bounds", "least", "top", "bottom"]
theorem scDue : FnScope nDue ["box", "paper"] (j6 sDue) := ⟨rfl, rfl, rfl, by decide +kernel, rfl, by decide +kernel, by decide +kernel⟩
def spDue : Sp := fun vs H Q _ => ∃ (b : Addr) (v : V) (wi : Int) (ms : List Int) (pcs : List (List Int × Int)) (B : Int → Option (List (Int × Int))), vs = [.ref b, v] ∧ BoxAt H b wi ms pcs ∧ Good 16 11 wi ms pcs ∧ AG wi ms pcs 5 H v 0 [] B ∧ ∀ v' H', Ext H H' → ResAt H' v' ((B 0).map minF) → Q v' H'
def dueA (T : Txt mg) (CB : Can P w K mg base "_law_bounds" 10 fB fdB ["box", "paper", "done", "heavy"] (spBounds 5)) (hr : Room 10 (XOf nDue "_law_due" sDue P w K mg base f cdv A outer s H0 E).A) : { t : TS // JSs (XOf nDue "_law_due" sDue P w K mg base f cdv A outer s H0 E) (j8 sDue) t } :=
 have nd := scDue.nd
 ⟨_, (j5 (jM (i := 2) nd rfl lL (CB.je hr gD (j0 (jv 0 rfl vL) (j0 (jv 1 rfl vL) (j0 (jH j2) (j0 (je_int) j2 j7) kO) j1) j1) j1) jR)
     (j5 (jX (jF op_isN (jv 2 rfl vL) (kZ) (jK _)) (j9 (jI (kZ))) jN)
     (j5 (jX (jF (op_eqLL hr.units101) (jv 2 rfl vL) (kI j2) (jK _)) (j9 (jI (jH (j0 (je_str) j2 j7)))) jN)
     (j5 (jM (i := 3) nd rfl lL (jB kX (jv 2 rfl vL) (je_int) j3) sw_sub)
     (j5 (qC PassesOwn.never rfl (qN (jv 2 rfl vL)) (jg_two_d (i := 4) (j := 5) nd rfl rfl (by decide +kernel) (by decide +kernel)) (j9 (jX (jF xJ (jP op_mulB (jv 4 rfl vL) (jB jA (jv 3 rfl vL) (je_int) j3)) (jP op_mulB (jB jA (jv 3 rfl vL) (je_int) j3) (jv 5 rfl vL)) (jK _)) (j9 (jM (i := 3) nd rfl lL (jH (j0 (jv 4 rfl vL) (j0 (jv 5 rfl vL) j2 j1) j1)) sw_tup)) jN)) fo_name)
     (j9 (jI (jH (j0 (je_str) (j0 (jv 3 rfl vL) j2 j1) j7)))))))))⟩
theorem ok_due {fd : FuncData} (F : Fun K "_law_due" "_law_due" sDue f fd) (T : Txt mg) (CB : Can P w K mg base "_law_bounds" 10 fB fdB ["box", "paper", "done", "heavy"] (spBounds 5)) : FnOk P w K mg base CX0 11 f fd ["box", "paper"] spDue := by
 refine F.ok scDue (fun vs H Q E h => ?_) (fun cdv A outer s H vs Q E hr h => ?_)
 · obtain ⟨_, _, _, _, _, _, rfl, _⟩ := h
   rfl
 · obtain ⟨b, v, wi, ms, pcs, B, rfl, hB, g, hG, k⟩ := h
   refine ⟨_, (dueA T CB hr).2.h, ?_⟩
   refine ⟨_, rfl, _, rfl, (by show 0 ≤ sizeLine; decide), fun da H1 hda e1 => ⟨b, v, da, wi, 0, ms, pcs, 0, [], B, rfl, hB.mono e1.tups, g, ⟨fun n => by rw [Nat.zero_testBit]; rfl, fun t ht => by cases ht⟩, hda, (by show 0 + 80 ≤ 900; decide), Nat.le_refl _, hG.mono (.of e1), by decide, fun v' H2 e2 hres => ?_⟩⟩
   have X2 := e1.trans e2
   refine ⟨_, rfl, rfl, _, rfl, ?_⟩
   cases hb : B 0 with
   | none =>
     rw [hb] at hres
     have hres : v' = .non := hres
     subst hres
     exact yes rfl (k .non H2 X2 (by rw [hb]; rfl))
   | some fs =>
     rw [hb] at hres
     obtain ⟨l, us, rfl, hl, hF⟩ := hres
     have ff := AG_fine g hG (by decide) hb
     have fl := hF.len
     refine nay (by intro z; cases z) ?_
     refine ⟨_, rfl, (by show 0 ≤ sizeLine; decide), fun l3 H3 hl3 e3 _ => ?_⟩
     have hl' := e3 _ _ hl
     have hF' := hF.mono e3.tups
     have t1 : TAt H3 (.lst (fs.map pairT)) (.ref l) := by
       rw [TAt]
       exact ⟨l, _, rfl, hl', hF'.ts⟩
     have t2 : TAt H3 (.lst []) (.ref l3) := by
       rw [TAt]
       exact ⟨l3, _, rfl, hl3, by rw [TsAt]⟩
     have X3 := X2.trans e3
     refine ⟨_, _, t1, t2, Nat.le_trans (deps_pairs _) (by decide), _, rfl, ?_⟩
     cases fs with
     | nil =>
       refine iteT' (by rfl) ⟨(by show 1 ≤ sizeLine; decide), fun r H4 hr4 e4 => k (.ref r) H4 (X3.trans e4) ?_⟩
       rw [hb]
       exact ⟨r, rfl, hr4⟩
     | cons f0 rest =>
       cases us with
       | nil => cases fl
       | cons u0 us =>
       obtain ⟨⟨a0, rfl, ha0⟩, hR⟩ := id hF'
       have : eqTs ((f0 :: rest).map pairT) [] = false := by rw [List.map_cons]; simp [eqTs]
       rw [this]
       refine iteF ?_
       refine ⟨_, rfl, l, _, 0, _, rfl, rfl, SqL.of hl', yT (xs := V.ref a0 :: us) (j := 0) rfl, ?_⟩
       refine ⟨_, rfl, l, rfl, ⟨_, SqL.of hl'⟩, for_list (xs := .ref a0 :: us) (fun i σ H' => (∃ v v4 v5 x, σ = [some (.ref b), some _, some (.ref l), some v, v4, v5] ∧ FrAt H' v x ∧ Fine x ∧ ((f0 :: rest).take i).foldl (fun a f => comb a (some f)) (some f0) = some x) ∧ Ext H3 H') ⟨⟨_, _, _, f0, rfl, ⟨a0, rfl, ha0⟩, ff f0 (List.mem_cons_self ..), rfl⟩, Ext.refl _⟩ (fun i σ H' _ ⟨_, e⟩ => SqL.of (e _ _ hl')) ?_ ?_⟩
       · rintro i x σ H' hx ⟨⟨v3, v4, v5, y, rfl, ⟨c, rfl, hc⟩, hy, hfold⟩, e⟩
         obtain ⟨p, hp, a, rfl, ha⟩ := hF'.at hx
         have hpf := ff p (List.mem_of_getElem? hp)
         have ha' := e _ _ ha
         have tk : ((f0 :: rest).take (i + 1)).foldl (fun a f => comb a (some f)) (some f0) = comb (some y) (some p) := by
           rw [List.take_add_one, hp]
           show List.foldl _ _ ((f0 :: rest).take i ++ [p]) = _
           rw [List.foldl_append, hfold]
           rfl
         rw [yC] at tk
         refine ⟨a, _, rfl, SqT.of ha', rfl, _, _, rfl, _, _, rfl, rfl, ?_⟩
         refine ⟨_, rfl, _, rfl, c, _, 1, _, rfl, rfl, SqT.of hc, rfl, _, _, rfl, rfl, ⟨hpf.2.1, hy.2.2⟩, _, rfl, c, _, 0, _, rfl, rfl, SqT.of hc, rfl, _, rfl, _, _, rfl, rfl, ⟨hy.2.1, hpf.2.2⟩, _, _, rfl, rfl, _, rfl, ?_⟩
         show if xH p y = true then _ else _
         cases hlf : xH p y with
         | true =>
           rw [hlf] at tk
           refine iteT ⟨_, rfl, _, rfl, (by show 2 ≤ sizeLine; decide), fun r H5 hr5 e5 => ⟨⟨_, _, _, p, rfl, ⟨r, rfl, hr5⟩, hpf, tk⟩, e.trans e5⟩⟩
         | false =>
           rw [hlf] at tk
           exact iteF ⟨⟨_, _, _, y, rfl, ⟨c, rfl, hc⟩, hy, tk⟩, e⟩
       · rintro σ H' ⟨⟨v3, v4, v5, y, rfl, ⟨c, rfl, hc⟩, hy, hfold⟩, e⟩
         rw [show (V.ref a0 :: us).length = (f0 :: rest).length from fl, List.take_length] at hfold
         have em : minF (f0 :: rest) = some y := by
           have q : (f0 :: rest).foldl (fun a f => comb a (some f)) (some f0) = rest.foldl (fun a f => comb a (some f)) (comb (some f0) (some f0)) := rfl
           rw [q, yC, less_self] at hfold
           exact hfold
         refine ⟨_, rfl, (by show 2 ≤ sizeLine; decide), fun r H5 hr5 e5 => k (.ref r) H5 ((X3.trans e).trans e5) ?_⟩
         rw [hb]
         show ResAt H5 (.ref r) (some (minF (f0 :: rest)))
         rw [em]
         exact ⟨r, c, rfl, hr5, e5 _ _ hc⟩
abbrev nSame : List Str := ["found", "due"]
theorem scSame : FnScope nSame ["found", "due"] (j6 xL) := ⟨rfl, rfl, rfl, by decide +kernel, rfl, by decide +kernel, by decide +kernel⟩
def spSame : Sp := fun vs H Q _ => ∃ (v u : V) (r : Option (Option (Int × Int))), vs = [v, u] ∧ ResAt H v r ∧ ResAt H u r ∧ (∀ f, r = some (some f) → kP (frO f) = true) ∧ ∀ H', Ext H H' → Q (.bl true) H'
def sameA (T : Txt mg) (CR : Can P w K mg base "_law_is_ratio" 2 fR fdR ["found"] (spB kP)) (hr : Room 2 (XOf nSame "_law_same" xL P w K mg base f cdv A outer s H0 E).A) : { t : TS // JSs (XOf nSame "_law_same" xL P w K mg base f cdv A outer s H0 E) (j8 xL) t } :=
 have nd := scSame.nd
 ⟨_, (j5 (jX (jF op_isN (jv 1 rfl vL) (kZ) (jK _)) (j9 (jI (je_cmpR op_isN (jv 0 rfl vL) (kZ) (jK _)))) jN)
     (j5 (jX (jt_w (yQ (yH (kS (jG jY gD T.isinstance (by decide +kernel) (j0 (jv 0 rfl vL) (j0 (yM (v := .ty "tuple") gD T.tuple (by decide +kernel) rfl) j2 j1) j1) j1) jZ)) (yQ (jF (op_neTT hr.units101) (jv 0 rfl vL) (jv 1 rfl vL) (jK _)) (yY (yH (kS (jG jY gD T.isinstance (by decide +kernel) (j0 (jB jA (jv 0 rfl vL) (je_int) j3) (j0 (yM (v := .ty "str") gD T.str (by decide +kernel) rfl) j2 j1) jE) jE) jZ)))))) (j9 (jI (je_bl))) jN)
     (j9 (jI ((je_or (je_cmpR yP (jG jJ gD T.len (by decide +kernel) (j0 (jv 1 rfl vL) j2 j1) j1) (je_int) (jK _)) (je_one (CR.je hr gD (j0 (jB jA (jv 0 rfl vL) (je_int) j3) j2 jE) jE))))))))⟩
theorem ok_same {fd : FuncData} (F : Fun K "_law_same" "_law_same" xL f fd) (T : Txt mg) (CR : Can P w K mg base "_law_is_ratio" 2 fR fdR ["found"] (spB kP)) : FnOk P w K mg base CX0 3 f fd ["found", "due"] spSame := by
 refine F.ok scSame (fun vs H Q E h => ?_) (fun cdv A outer s H vs Q E hr h => ?_)
 · obtain ⟨_, _, _, rfl, _⟩ := h
   rfl
 · obtain ⟨v, u, r, rfl, hv, hu, hr2, k⟩ := h
   refine ⟨_, (sameA T CR hr).2.h, ?_⟩
   cases r with
   | none =>
     cases (show v = .non from hv)
     cases (show u = .non from hu)
     exact ⟨_, rfl, rfl, _, rfl, yes rfl ⟨_, rfl, rfl, k H (Ext.refl _)⟩⟩
   | some o =>
     cases o with
     | none =>
       obtain ⟨a, rfl, ha⟩ := hv
       obtain ⟨c, rfl, hc⟩ := hu
       have t1 : ∀ {z : Addr}, H z = some (.tup [.str "none"]) → TAt H (.tup [.str "none"]) (.ref z) := fun {z} hz => by
         rw [TAt]
         refine ⟨z, _, rfl, hz, ?_⟩
         rw [TsAt]
         exact ⟨_, _, rfl, by rw [TAt], by rw [TsAt]⟩
       refine ⟨_, rfl, rfl, _, rfl, nay (by intro z; cases z) ?_⟩
       refine ⟨_, rfl, _, _, _, true, rfl, .tup ha, rfl, _, rfl, iteF ?_⟩
       refine ⟨_, rfl, _, rfl, _, _, t1 ha, t1 hc, (by simp [deps, dep]), _, rfl, ?_⟩
       rw [eqTs_self]
       refine iteF ?_
       refine ⟨_, rfl, a, _, 0, _, rfl, rfl, SqT.of ha, rfl, _, _, _, true, rfl, .str _, rfl, _, rfl, iteF ?_⟩
       refine ⟨_, rfl, c, _, rfl, .inr (SqT.of hc), rfl, _, rfl, ?_⟩
       exact iteT (k H (Ext.refl _))
     | some x =>
       obtain ⟨a, p, rfl, ha, hp⟩ := hv
       obtain ⟨c, q, rfl, hc, hq⟩ := hu
       have t1 : ∀ {z y : Addr}, H z = some (.tup [.str "least", .ref y]) → H y = some (.tup [.int x.1, .int x.2]) → TAt H (.tup [.str "least", pairT x]) (.ref z) := fun {z y} hz hy => by
         rw [TAt]
         refine ⟨z, _, rfl, hz, ?_⟩
         rw [TsAt]
         refine ⟨_, _, rfl, by rw [TAt], ?_⟩
         rw [TsAt]
         exact ⟨_, _, rfl, FrAt.tr ⟨y, rfl, hy⟩, by rw [TsAt]⟩
       refine ⟨_, rfl, rfl, _, rfl, nay (by intro z; cases z) ?_⟩
       refine ⟨_, rfl, _, _, _, true, rfl, .tup ha, rfl, _, rfl, iteF ?_⟩
       refine ⟨_, rfl, _, rfl, _, _, t1 ha hp, t1 hc hq, (by simp [deps, dep, pairT]), _, rfl, ?_⟩
       rw [eqTs_self]
       refine iteF ?_
       refine ⟨_, rfl, a, _, 0, _, rfl, rfl, SqT.of ha, rfl, _, _, _, true, rfl, .str _, rfl, _, rfl, iteF ?_⟩
       refine ⟨_, rfl, c, _, rfl, .inr (SqT.of hc), rfl, _, rfl, ?_⟩
       refine iteF ⟨_, rfl, a, _, 1, _, rfl, rfl, SqT.of ha, rfl, .ref p, frO x, rfl, FrAt.at ⟨p, rfl, hp⟩, fun H' e' => ?_⟩
       rw [hr2 x rfl]
       exact k H' e'
end
end Eo
end
section
namespace Eo
open PySem L2
def TightF (p : Int × Int) : Prop := -20000000000000 < p.1 ∧ p.1 < 20000000000000 ∧ 0 < p.2 ∧ p.2 < 2000
theorem TightF.sm {p : Int × Int} (h : TightF p) : qO p := ⟨by have := h.1; omega, by have := h.2.1; omega, h.2.2.1, by have := h.2.2.2; omega⟩
def GP0 (wi : Int) (H : Hp) (v : V) : Prop := ∃ a c xs frs, v = .ref a ∧ H a = some (.tup [.str "price", .ref c]) ∧ H c = some (.tup xs) ∧ FrsAt H xs frs ∧ Prs wi frs ∧ ∀ p ∈ frs, TightF p
def GP (wi : Int) : Nat → Hp → V → Prop
 | 0, H, v => GP0 wi H v
 | d + 1, H, v => GP0 wi H v ∨ ∃ a t q us, v = .ref a ∧ H a = some (.tup [.str "part", .int t, .ref q]) ∧ H q = some (.tup us) ∧ 0 ≤ t ∧ t < wi ∧ us.length ≤ 12 ∧ ∀ u ∈ us, GP wi d H u
theorem GP0.mono {wi : Int} {H H' : Hp} (t : Tups H H') {v : V} (h : GP0 wi H v) : GP0 wi H' v := by
 obtain ⟨a, c, xs, frs, e, h1, h2, h3, h4⟩ := h
 exact ⟨a, c, xs, frs, e, t _ _ h1, t _ _ h2, h3.mono t, h4⟩
theorem GP.mono {wi : Int} {H H' : Hp} : ∀ {d : Nat} {v : V}, GP wi d H v → Tups H H' → GP wi d H' v
 | 0, v, h, t => GP0.mono t h
 | d + 1, v, h, t => by
   rcases h with h | ⟨a, x, q, us, e, h1, h2, h3, h4, h5, h6⟩
   · exact .inl (GP0.mono t h)
   · exact .inr ⟨a, x, q, us, e, t _ _ h1, t _ _ h2, h3, h4, h5, fun u hu => GP.mono (h6 u hu) t⟩
theorem GP.up {wi : Int} {H : Hp} : ∀ {d : Nat} {v : V}, GP wi d H v → GP wi (d + 1) H v
 | 0, v, h => .inl h
 | d + 1, v, h => by
   rcases h with h | ⟨a, x, q, us, e, h1, h2, h3, h4, h5, h6⟩
   · exact .inl h
   · exact .inr ⟨a, x, q, us, e, h1, h2, h3, h4, h5, fun u hu => GP.up (h6 u hu)⟩
theorem nrm_sm {t b : Int} (h0 : -10000000000000 < t) (h1 : t < 10000000000000) (b0 : 1 ≤ b) (b1 : b ≤ 1000) : TightF (nrm (t, b)) := by
 obtain ⟨⟨p, _⟩, le⟩ := nrm_like (f := (t, b)) (show (0 : Int) < b by omega)
 have le : (nrm (t, b)).2 ≤ b := le
 have d0 : 0 < Int.gcd t b := Nat.pos_of_ne_zero fun e => by
   have := Int.eq_zero_of_gcd_eq_zero_right e
   omega
 have d1 : (1 : Int) ≤ ((Int.gcd t b : Nat) : Int) := by omega
 have lo : -10000000000000 ≤ t / ((Int.gcd t b : Nat) : Int) := by
   rw [Int.le_ediv_iff_mul_le (by omega)]
   omega
 have hi : t / ((Int.gcd t b : Nat) : Int) < 10000000000000 := by
   rw [Int.ediv_lt_iff_lt_mul (by omega)]
   omega
 have e1 : (nrm (t, b)).1 = t / ((Int.gcd t b : Nat) : Int) := rfl
 exact ⟨by omega, by omega, p, by omega⟩
theorem fr_big {b : Int} (b0 : 1 ≤ b) (b1 : b ≤ 1000000) : b.natAbs < BIG := big_ok (n := 1) (by decide) (by omega) (by rw [Nat.pow_one]; omega)
theorem wt_big {x : Int} (h0 : -10000000000000 ≤ x) (h1 : x ≤ 10000000000000) : x.natAbs < BIG := Nat.lt_of_lt_of_le (show x.natAbs < 2 ^ 60 by omega) (Nat.pow_le_pow_right (by decide) (by decide))
def PrB (x y : Int) : Prop := -1000000000000 ≤ x ∧ x ≤ 1000000000000 ∧ 1 ≤ y ∧ y ≤ 16
structure PSt (H H' : Hp) (p l : Addr) (i : Nat) : Prop where
 ex : ∃ (N : Int) (vs : List V) (frs : List (Int × Int)), H' p = some (.lst [.int N]) ∧ 0 ≤ N ∧ H' l = some (.lst vs) ∧ FrsAt H' vs frs ∧ frs.length = i ∧ (∀ f ∈ frs, TightF f ∧ Int.gcd f.1 f.2 = 1)
 kp : Keep H H' p
theorem PSt.move {H H1 H2 : Hp} {p l : Addr} {i : Nat} {N2 : Int} (S : PSt H H1 p l i) (lp : l ≠ p) (k : Keep H1 H2 p) (hp : H2 p = some (.lst [.int N2])) (hN : 0 ≤ N2) : PSt H H2 p l i := by
 obtain ⟨⟨N, vs, frs, h1, h2, h3, h4, h5, h6⟩, kp⟩ := S
 exact ⟨⟨N2, vs, frs, hp, hN, k _ _ h3 lp, h4.mono (k.tups h1), h5, h6⟩, kp.trans k⟩
theorem PSt.ext {H H1 H2 : Hp} {p l : Addr} {i : Nat} (S : PSt H H1 p l i) (e : Ext H1 H2) : PSt H H2 p l i := by
 obtain ⟨⟨N, vs, frs, h1, h2, h3, h4, h5, h6⟩, kp⟩ := S
 exact ⟨⟨N, vs, frs, e _ _ h1, h2, e _ _ h3, h4.mono e.tups, h5, h6⟩, fun c u h n => e c u (kp c u h n)⟩
section
variable {P : Program} {w : World} {K : W.Frag} {mg : Str → Option Value} {base : Heap}
variable {f fF fT fR : Addr} {fdF fdT fdR : FuncData} {cdv : Value} {A : Around} {outer : List Env} {s : Shared} {H0 : Hp} {E : XK}
abbrev nPrices : List Str := ["pot", "box", "done", "prices", "t", "some", "price", "top", "bottom"]
theorem scPrices : FnScope nPrices ["pot", "box", "done"] (j6 qA) := ⟨rfl, rfl, rfl, by decide +kernel, rfl, by decide +kernel, by decide +kernel⟩
abbrev XPr (P : Program) (w : World) (K : W.Frag) (mg : Str → Option Value) (base : Heap) (f : Addr) (cdv : Value) (A : Around) (outer : List Env) (s : Shared) (H : Hp) (E : XK) : Cx := XOf nPrices "_law_prices" qA P w K mg base f cdv A outer s H E
abbrev prBody : List Stmt := xC ((j8 qA).getD 1 (.Pass ⟨0, 0, 0, 0⟩))
def prX (T : Txt mg) (CF : Can P w K mg base "_law_fits" 1 fF fdF ["box", "k", "done"] yG) (CT : Can P w K mg base "_law_take" 1 fT fdT ["pot", "wide"] jQ) (CR : Can P w K mg base "_law_ratio" 2 fR fdR ["top", "bottom"] spFr) (hr : Room 2 (XPr P w K mg base f cdv A outer s H0 E).A) : { t : TS // JSs (XPr P w K mg base f cdv A outer s H0 E) (prBody.drop 5) t } :=
 have nd := scPrices.nd
 ⟨_, (j5 (jX (jF yP (CT.je (hr.mono (by decide)) gD (j0 (jv 0 rfl vL) (j0 (je_int) j2 j7) j1) j1) (je_int) (jK _)) (j9 (jM (i := 6) nd rfl lL (jH (j0 (jP kU (jP yR (jB jA (jv 6 rfl vL) (je_int) j3) (je_int)) (jB kX (kI (j0 (je_int) (j0 (je_un un_neg (je_int)) j2 se_un) j7)) (CT.je (hr.mono (by decide)) gD (j0 (jv 0 rfl vL) (j0 (je_int) j2 j7) j1) j1) px_call)) (j0 (jP yR (jB jA (jv 6 rfl vL) (je_int) j3) (je_int)) j2 jS) jS)) sw_tup)) jN)
     (j9 (js_expr (je_bm PySem.F.plainAttrs_list PySem.F.slot_list_append PySem.F.type_list_append mt_append (jv 3 rfl vL) (j0 (CR.je hr gD (j0 (jB jA (jv 6 rfl vL) (je_int) j3) (j0 (jB jA (jv 6 rfl vL) (je_int) j3) j2 jE) jE) jE) j2 jL) jL) jR)))⟩
def prZ (T : Txt mg) (CF : Can P w K mg base "_law_fits" 1 fF fdF ["box", "k", "done"] yG) (CT : Can P w K mg base "_law_take" 1 fT fdT ["pot", "wide"] jQ) (CR : Can P w K mg base "_law_ratio" 2 fR fdR ["top", "bottom"] spFr) (hr : Room 2 (XPr P w K mg base f cdv A outer s H0 E).A) : { t : TS // JSs (XPr P w K mg base f cdv A outer s H0 E) (prBody.drop 4) t } :=
 have nd := scPrices.nd
 ⟨_, (j5 (jX (jt_w (jw_and (jF op_in_seq (jv 4 rfl vC) (jB jA (jv 1 rfl vC) (je_int) j3) nm_sub) (jw_and1 (jF op_gt (jB jA (jv 6 rfl vL) (je_int) j3) (je_int) (jK _))))) (j9 (jM (i := 6) nd rfl lL (jH (j0 (je_int) (j0 (je_int) j2 j7) j7)) sw_tup)) jN) (prX T CF CT CR hr).2)⟩
def prI (T : Txt mg) (CF : Can P w K mg base "_law_fits" 1 fF fdF ["box", "k", "done"] yG) (CT : Can P w K mg base "_law_take" 1 fT fdT ["pot", "wide"] jQ) (CR : Can P w K mg base "_law_ratio" 2 fR fdR ["top", "bottom"] spFr) (hr : Room 2 (XPr P w K mg base f cdv A outer s H0 E).A) : { t : TS // JSs (XPr P w K mg base f cdv A outer s H0 E) (xC (prBody.getD 3 (.Pass ⟨0, 0, 0, 0⟩))) t } :=
 have nd := scPrices.nd
 ⟨_, (j9 (jX (jF xJ (jP op_mulB (jv 7 rfl vL) (jB jA (jv 6 rfl vL) (je_int) j3)) (jP op_mulB (jB jA (jv 6 rfl vL) (je_int) j3) (jv 8 rfl vL)) (jK _)) (j9 (jM (i := 6) nd rfl lL (jH (j0 (jv 7 rfl vL) (j0 (jv 8 rfl vL) j2 j1) j1)) sw_tup)) jN))⟩
def prY (T : Txt mg) (CF : Can P w K mg base "_law_fits" 1 fF fdF ["box", "k", "done"] yG) (CT : Can P w K mg base "_law_take" 1 fT fdT ["pot", "wide"] jQ) (CR : Can P w K mg base "_law_ratio" 2 fR fdR ["top", "bottom"] spFr) (hr : Room 2 (XPr P w K mg base f cdv A outer s H0 E).A) : { t : TS // JSs (XPr P w K mg base f cdv A outer s H0 E) (prBody.drop 3) t } :=
 have nd := scPrices.nd
 ⟨_, (j5 (qC PassesOwn.never rfl (qN (jv 5 rfl vL)) (jg_two_d (i := 7) (j := 8) nd rfl rfl (by decide +kernel) (by decide +kernel)) (prI T CF CT CR hr).2 fo_name) (prZ T CF CT CR hr).2)⟩
def prL (T : Txt mg) (CF : Can P w K mg base "_law_fits" 1 fF fdF ["box", "k", "done"] yG) (CT : Can P w K mg base "_law_take" 1 fT fdT ["pot", "wide"] jQ) (CR : Can P w K mg base "_law_ratio" 2 fR fdR ["top", "bottom"] spFr) (hr : Room 2 (XPr P w K mg base f cdv A outer s H0 E).A) : { t : TS // JSs (XPr P w K mg base f cdv A outer s H0 E) prBody t } :=
 have nd := scPrices.nd
 ⟨_, (j5 (js_setC (i := 5) nd rfl lL ⟨by rfl⟩ (m := [none, some 4, some 1, some 2]) (Nc := ["k", "t", "box", "done"]) rfl (ji_range1 gD T.range (j0 (jG jJ gD T.len (by decide +kernel) (j0 (jB jA (jv 1 rfl vC) (je_int) j3) j2 jE) jE) j2 jL) jL) rfl (by decide +kernel) (by decide +kernel) (kT (psc := j6 qA) (by decide +kernel)) (jW (N := nPrices) rfl rfl (by decide +kernel)) (fun cl C fp s H => jT (i := 0) (show (["k", "t", "box", "done"] : List Str).Nodup by decide +kernel) rfl (qL (by decide +kernel))) (fun cl C fp s H => jts_one (jt_w (jw_and (jF op_in_b (jv 1 rfl (kY (by decide +kernel))) (jB kD (jB kD (jB kD (jv 2 rfl (kY (by decide +kernel))) (je_int) j3) (jv 0 rfl (kN (by decide +kernel))) kW) (je_int) j3) nm_sub) (jw_and1 (kS (CF.je (hr.mono (by decide)) (gl_b (by decide +kernel)) (j0 (jv 2 rfl (kY (by decide +kernel))) (j0 (jv 0 rfl (kN (by decide +kernel))) (j0 (jv 3 rfl (kY (by decide +kernel))) j2 j1) j1) j1) j1) jZ))))) (fun cl C fp s H => (jH (j0 (jB kD (jB kD (jB kD (jv 2 rfl (kY (by decide +kernel))) (je_int) j3) (jv 0 rfl (kN (by decide +kernel))) kW) (je_int) j3) (j0 (jG call_len_b (gl_b (by decide +kernel)) T.len (by decide +kernel) (j0 (jB kD (jB kD (jB kD (jv 2 rfl (kY (by decide +kernel))) (je_int) j3) (jv 0 rfl (kN (by decide +kernel))) kW) (je_int) j3) j2 jE) jE) j2 jL) jE))) yF) (j5 (jM (i := 6) nd rfl lL (jH (j0 (jP op_sub (CT.je (hr.mono (by decide)) gD (j0 (jv 0 rfl vL) (j0 (je_int) j2 j7) j1) j1) (je_int)) (j0 (jP kU (je_int) (CT.je (hr.mono (by decide)) gD (j0 (jv 0 rfl vL) (j0 (je_int) j2 j7) j1) j1)) j2 jS) jS)) sw_tup) (j5 (jX (jF (op_neEL hr.units0) (jv 5 rfl vL) (kI j2) (jK _)) (j9 (jM (i := 6) nd rfl lL (jB kX (jv 5 rfl vL) (je_int) j3) sw_sub)) jN) (prY T CF CT CR hr).2)))⟩
def prA (T : Txt mg) (CF : Can P w K mg base "_law_fits" 1 fF fdF ["box", "k", "done"] yG) (CT : Can P w K mg base "_law_take" 1 fT fdT ["pot", "wide"] jQ) (CR : Can P w K mg base "_law_ratio" 2 fR fdR ["top", "bottom"] spFr) (hr : Room 2 (XPr P w K mg base f cdv A outer s H0 E).A) : { t : TS // JSs (XPr P w K mg base f cdv A outer s H0 E) (j8 qA) t } :=
 have nd := scPrices.nd
 ⟨_, (j5 (jM (i := 3) nd rfl lL (kI j2) sw_lst) (j5 (qC PassesOwn.never rfl (ji_range1 gD T.range (j0 (jB jA (jv 1 rfl vC) (je_int) j3) j2 jE) jE) (jT (i := 4) nd rfl (loc_c (by decide +kernel))) (prL T CF CT CR hr).2 yF) (j9 (jI (kB kG gD T.tuple (by decide +kernel) (j0 (jv 3 rfl vL) j2 j1) j1)))))⟩
theorem prX_read (T : Txt mg) (CF : Can P w K mg base "_law_fits" 1 fF fdF ["box", "k", "done"] yG) (CT : Can P w K mg base "_law_take" 1 fT fdT ["pot", "wide"] jQ) (CR : Can P w K mg base "_law_ratio" 2 fR fdR ["top", "bottom"] spFr) (hr : Room 2 (XPr P w K mg base f cdv A outer s H0 E).A)
   {D : Ends} {H H1 : Hp} {p b d l c : Addr} {x y : Int} {i : Nat} {v4 v5 v7 v8 : Option V} (lp : l ≠ p) (S : PSt H H1 p l i) (i1 : i ≤ 100) (hn : H l = none) (hc : H1 c = some (.tup [.int x, .int y])) (hx : PrB x y)
   (nx : ∀ H' v6, PSt H H' p l (i + 1) → D.nx [some (.ref p), some (.ref b), some (.ref d), some (.ref l), v4, v5, v6, v7, v8] H') :
   (prX T CF CT CR hr).1 D [some (.ref p), some (.ref b), some (.ref d), some (.ref l), v4, v5, some (.ref c), v7, v8] H1 := by
 obtain ⟨x0, x1, y0, y1⟩ := hx
 obtain ⟨N, vs, frs, hp, hN, hl, hF, fl, fs⟩ := S.ex
 refine ⟨_, rfl, p, N, 9, rfl, hp, hN, by decide, by decide, fun N1 r a1 a2 a3 => ⟨rfl, _, rfl, ?_⟩⟩
 have k1 : Keep H1 (upd H1 p (.lst [.int N1])) p := (Keep.refl _ _).upd _
 have hp1 : (upd H1 p (.lst [.int N1])) p = some (.lst [.int N1]) := j4
 have S1 := S.move lp k1 hp1 a1
 have hc1 := (k1.tups hp) _ _ hc
 generalize upd H1 p (.lst [.int N1]) = H2 at k1 hp1 S1 hc1 ⊢
 clear hp hN hl hF fs S
 have fin : ∀ (H3 : Hp) (c : Addr) (x y : Int), PSt H H3 p l i → H3 c = some (.tup [.int x, .int y]) → -10000000000000 < x → x < 10000000000000 → 1 ≤ y → y ≤ 1000 → ∀ r H4, H4 r = some (.tup [.int (nrm (x, y)).1, .int (nrm (x, y)).2]) → Ext H3 H4 → ∃ vs, H4 l = some (.lst vs) ∧ vs.length < sizeLine ∧ PSt H (upd H4 l (.lst (vs ++ [.ref r]))) p l (i + 1) := fun H3 c x y S3 hc3 x0 x1 y0 y1 r H4 hr4 e4 => by
   obtain ⟨⟨N, vs, frs, hp, hN, hl, hF, fl, fs⟩, kp⟩ := S3.ext e4
   have fl2 := hF.len
   refine ⟨vs, hl, by rw [PySem.sizeLine_eq]; omega, ?_⟩
   have tw : Tups H4 (upd H4 l (.lst (vs ++ [.ref r]))) := Tups.upd hl _
   refine ⟨⟨N, vs ++ [.ref r], frs ++ [nrm (x, y)], by rw [jD (Ne.symm lp)]; exact hp, hN, j4, FrsAt.snoc ⟨r, rfl, tw _ _ hr4⟩ (hF.mono tw), by rw [List.length_append, fl]; rfl, fun f hf => ?_⟩, fun c u h n => ?_⟩
   · rcases List.mem_append.mp hf with q | q
     · exact fs f q
     · cases List.mem_singleton.mp q
       exact ⟨nrm_sm x0 x1 y0 y1, nrm_cop (f := (x, y)) (show (0 : Int) < y by omega)⟩
   · rw [jD (jC h hn)]
     exact kp c u h n
 refine ite2 (fun _ => ?_) (fun _ => ?_)
 · refine ⟨_, rfl, c, _, 0, _, rfl, rfl, SqT.of hc1, rfl, _, _, rfl, rfl, .inr ⟨by decide, by decide⟩, _, rfl, (by show 2 ≤ sizeLine; decide), fun c6 J6 e6 z6 n6 => ?_⟩
   refine ⟨_, rfl, p, N1, 2, rfl, z6 _ _ hp1, a1, by decide, by decide, fun N3 r3 d1 d2 d3 => ?_⟩
   have S6 := S1.ext z6
   have hp6 := z6 _ _ hp1
   have k3 : Keep J6 (upd J6 p (.lst [.int N3])) p := (Keep.refl _ _).upd _
   have hp7 : (upd J6 p (.lst [.int N3])) p = some (.lst [.int N3]) := j4
   have cp : c6 ≠ p := fun e => by subst e; rw [hp1] at n6; cases n6
   have e7 : (upd J6 p (.lst [.int N3])) c6 = some (.lst [.int 1, .int (-1)]) := by rw [jD cp]; exact e6
   have S7 := S6.move lp k3 hp7 d1
   have hc7 := (k3.tups hp6) _ _ (z6 _ _ hc1)
   generalize upd J6 p (.lst [.int N3]) = J7 at k3 hp7 e7 S7 hc7 ⊢
   obtain ⟨sg, hsg, hs1⟩ : ∃ sg : Int, atI [V.int 1, V.int (-1)] r3 = some (.int sg) ∧ -1 ≤ sg ∧ sg ≤ 1 := by
     have : r3 = 0 ∨ r3 = 1 := by omega
     rcases this with rfl | rfl
     · exact ⟨1, yT (j := 0) rfl, by decide, by decide⟩
     · exact ⟨-1, yT (j := 1) rfl, by decide, by decide⟩
   refine ⟨c6, _, r3, _, rfl, rfl, SqL.of e7, hsg, _, _, rfl, rfl, _, rfl, c, _, 1, _, rfl, rfl, SqT.of hc7, rfl, _, _, rfl, rfl, .inr ⟨by decide, by decide⟩, (by show 2 ≤ sizeLine; decide), fun r8 J8 hr8 z8 => ?_⟩
   have S8 := S7.ext z8
   obtain ⟨_, vs8, _, _, _, hl8, _⟩ := S8.ex
   refine ⟨_, rfl, .inl ⟨rfl, _, SqL.of hl8⟩, _, rfl, r8, _, 0, _, rfl, rfl, SqT.of hr8, rfl, _, rfl, r8, _, 1, _, rfl, rfl, SqT.of hr8, rfl, _, _, rfl, by omega, fr_big (by omega) (by omega), fun r9 J9 hr9 z9 => ?_⟩
   obtain ⟨vs9, hl9, sz, S9⟩ := fin J8 r8 _ _ S8 hr8 (by omega) (by omega) (by omega) (by omega) r9 J9 hr9 z9
   exact ⟨l, vs9, _, rfl, rfl, hl9, sz, nx _ _ S9⟩
 · obtain ⟨_, vs8, _, _, _, hl8, _⟩ := S1.ex
   refine ⟨_, rfl, .inl ⟨rfl, _, SqL.of hl8⟩, _, rfl, c, _, 0, _, rfl, rfl, SqT.of hc1, rfl, _, rfl, c, _, 1, _, rfl, rfl, SqT.of hc1, rfl, _, _, rfl, by omega, fr_big (by omega) (by omega), fun r9 J9 hr9 z9 => ?_⟩
   obtain ⟨vs9, hl9, sz, S9⟩ := fin H2 c _ _ S1 hc1 (by omega) (by omega) (by omega) (by omega) r9 J9 hr9 z9
   exact ⟨l, vs9, _, rfl, rfl, hl9, sz, nx _ _ S9⟩
end
end Eo
end
section
namespace Eo
open PySem L2
section
variable {P : Program} {w : World} {K : W.Frag} {mg : Str → Option Value} {base : Heap}
variable {f fF fT fR : Addr} {fdF fdT fdR : FuncData} {cdv : Value} {A : Around} {outer : List Env} {s : Shared} {H0 : Hp} {E : XK}
theorem prZ_read (T : Txt mg) (CF : Can P w K mg base "_law_fits" 1 fF fdF ["box", "k", "done"] yG) (CT : Can P w K mg base "_law_take" 1 fT fdT ["pot", "wide"] jQ) (CR : Can P w K mg base "_law_ratio" 2 fR fdR ["top", "bottom"] spFr) (hr : Room 2 (XPr P w K mg base f cdv A outer s H0 E).A)
   {D : Ends} {H H1 : Hp} {p b d l c : Addr} {x y t wi : Int} {ms : List Int} {pcs : List (List Int × Int)} {i : Nat} {v5 v7 v8 : Option V} (lp : l ≠ p) (S : PSt H H1 p l i) (i1 : i ≤ 100) (hn : H l = none) (hB : BoxAt H1 b wi ms pcs) (hc : H1 c = some (.tup [.int x, .int y])) (hx : PrB x y)
   (nx : ∀ H' v6, PSt H H' p l (i + 1) → D.nx [some (.ref p), some (.ref b), some (.ref d), some (.ref l), some (.int t), v5, v6, v7, v8] H') :
   (prZ T CF CT CR hr).1 D [some (.ref p), some (.ref b), some (.ref d), some (.ref l), some (.int t), v5, some (.ref c), v7, v8] H1 := by
 obtain ⟨qm, qp, ps, b1, b2, b3, b4⟩ := hB.ex
 refine ⟨_, rfl, _, rfl, b, _, 1, _, rfl, rfl, SqT.of b1, rfl, qm, _, rfl, .inr (SqT.of b2), rfl, kQ _, _, rfl, ?_⟩
 refine ite2 (fun _ => ?_) (fun _ => ?_)
 · refine ⟨_, rfl, c, _, 0, _, rfl, rfl, SqT.of hc, rfl, _, _, rfl, rfl, _, rfl, ite2 (fun _ => ?_) (fun _ => ?_)⟩
   · refine ⟨(by show 2 ≤ sizeLine; decide), fun r H2 hr2 e2 => ?_⟩
     exact prX_read T CF CT CR hr lp (S.ext e2) i1 hn hr2 ⟨by decide, by decide, by decide, by decide⟩ nx
   · exact prX_read T CF CT CR hr lp S i1 hn hc hx nx
 · exact iteF (prX_read T CF CT CR hr lp S i1 hn hc hx nx)
theorem prY_read (T : Txt mg) (CF : Can P w K mg base "_law_fits" 1 fF fdF ["box", "k", "done"] yG) (CT : Can P w K mg base "_law_take" 1 fT fdT ["pot", "wide"] jQ) (CR : Can P w K mg base "_law_ratio" 2 fR fdR ["top", "bottom"] spFr) (hr : Room 2 (XPr P w K mg base f cdv A outer s H0 E).A)
   {D : Ends} {H H1 : Hp} {p b d l c so : Addr} {x y t wi : Int} {ms : List Int} {pcs : List (List Int × Int)} {us : List V} {frs : List (Int × Int)} {i : Nat} {v7 v8 : Option V} (lp : l ≠ p) (S : PSt H H1 p l i) (i1 : i ≤ 100) (hn : H l = none) (hB : BoxAt H1 b wi ms pcs) (hc : H1 c = some (.tup [.int x, .int y])) (hx : PrB x y) (hs : H1 so = some (.lst us)) (hF : FrsAt H1 us frs) (hf : ∀ f ∈ frs, PrB f.1 f.2)
   (nx : ∀ H' v6 v7 v8, PSt H H' p l (i + 1) → D.nx [some (.ref p), some (.ref b), some (.ref d), some (.ref l), some (.int t), some (.ref so), v6, v7, v8] H') :
   (prY T CF CT CR hr).1 D [some (.ref p), some (.ref b), some (.ref d), some (.ref l), some (.int t), some (.ref so), some (.ref c), v7, v8] H1 := by
 refine ⟨_, rfl, so, rfl, ⟨_, SqL.of hs⟩, for_list (xs := us) (fun j σ H' => (∃ c x y v7 v8, σ = [some (.ref p), some (.ref b), some (.ref d), some (.ref l), some (.int t), some (.ref so), some (.ref c), v7, v8] ∧ H' c = some (.tup [.int x, .int y]) ∧ PrB x y) ∧ Ext H1 H') ⟨⟨c, x, y, _, _, rfl, hc, hx⟩, Ext.refl _⟩ (fun j σ H' _ ⟨_, e⟩ => SqL.of (e _ _ hs)) ?_ ?_⟩
 · rintro j v σ H' hv ⟨⟨c, x, y, v7, v8, rfl, hc, hx⟩, e⟩
   obtain ⟨q, hq, a, rfl, ha⟩ := hF.at hv
   have hqf := hf q (List.mem_of_getElem? hq)
   have ha' := e _ _ ha
   refine ⟨a, _, rfl, SqT.of ha', rfl, _, _, rfl, _, _, rfl, rfl, ?_⟩
   obtain ⟨x0, x1, y0, y1⟩ := id hx
   obtain ⟨u0, u1, w0, w1⟩ := id hqf
   refine ⟨_, rfl, _, rfl, c, _, 1, _, rfl, rfl, SqT.of hc, rfl, _, _, rfl, rfl, ⟨wt_big (by omega) (by omega), fr_big (by omega) (by omega)⟩, _, rfl, c, _, 0, _, rfl, rfl, SqT.of hc, rfl, _, rfl, _, _, rfl, rfl, ⟨wt_big (by omega) (by omega), fr_big (by omega) (by omega)⟩, _, _, rfl, rfl, _, rfl, ite2 (fun _ => ?_) (fun _ => ?_)⟩
   · exact ⟨_, rfl, _, rfl, (by show 2 ≤ sizeLine; decide), fun r H5 hr5 e5 => ⟨⟨r, _, _, _, _, rfl, hr5, hqf⟩, e.trans e5⟩⟩
   · exact ⟨⟨c, x, y, _, _, rfl, hc, hx⟩, e⟩
 · rintro σ H' ⟨⟨c, x, y, v7, v8, rfl, hc, hx⟩, e⟩
   exact prZ_read T CF CT CR hr lp (S.ext e) i1 hn (hB.mono e.tups) hc hx fun H'' v6 S' => nx H'' v6 _ _ S'
theorem prL_read (T : Txt mg) (CF : Can P w K mg base "_law_fits" 1 fF fdF ["box", "k", "done"] yG) (CT : Can P w K mg base "_law_take" 1 fT fdT ["pot", "wide"] jQ) (CR : Can P w K mg base "_law_ratio" 2 fR fdR ["top", "bottom"] spFr) (hr : Room 2 (XPr P w K mg base f cdv A outer s H0 E).A)
   {D : Ends} {H H1 : Hp} {p b d l : Addr} {t wi : Int} {ms : List Int} {pcs : List (List Int × Int)} {ds : List Int} {i : Nat} {v5 v6 v7 v8 : Option V} (lp : l ≠ p) (S : PSt H H1 p l i) (i1 : i ≤ 100) (hn : H l = none) (hB : BoxAt H1 b wi ms pcs) (g : Good 16 11 wi ms pcs) (hd : H1 d = some (.tup (ds.map V.int)))
   (nx : ∀ H' v5 v6 v7 v8, PSt H H' p l (i + 1) → D.nx [some (.ref p), some (.ref b), some (.ref d), some (.ref l), some (.int t), v5, v6, v7, v8] H') :
   (prL T CF CT CR hr).1 D [some (.ref p), some (.ref b), some (.ref d), some (.ref l), some (.int t), v5, v6, v7, v8] H1 := by
 obtain ⟨qm, qp, ps, b1, b2, b3, b4⟩ := hB.ex
 have pl := b4.len
 have gl := g.pl
 have w0 := g.w0
 have w1 := g.w1
 refine ⟨_, rfl, b, _, 2, _, rfl, rfl, SqT.of b1, rfl, qp, _, rfl, .inr (SqT.of b3), _, rfl, by omega, by omega, comp_rng (n := ((ps.length : Int)).toNat) (by rw [PySem.sizeLine_eq]; omega) (fun D2 j σ' H' zs => (∃ v, σ' = [v, some (.int t), some (.ref b), some (.ref d)]) ∧ (∃ frs, FrsAt H' zs frs ∧ frs.length ≤ j ∧ ∀ f ∈ frs, PrB f.1 f.2) ∧ Ext H1 H' ∧ H' D2 = some (.lst zs) ∧ H1 D2 = none) ?_ ?_ ?_ ?_⟩
 · intro D2 hD2
   exact ⟨⟨_, rfl⟩, ⟨[], trivial, Nat.le_refl _, fun f hf => by cases hf⟩, (Ext.refl _).new hD2 _, j4, hD2⟩
 · rintro D2 j σ' H' zs hD2 hj ⟨_, ⟨frs, hF, fl, _⟩, e, h2, _⟩
   exact ⟨h2, by rw [hF.len]; exact fl⟩
 · rintro D2 j σ' H' zs hD2 hj ⟨⟨v, rfl⟩, ⟨frs, hF, fl, hf⟩, e, h2, hn2⟩
   have hy1 : ps[j]? = some ps[j] := List.getElem?_eq_getElem (by omega)
   obtain ⟨pc, hpc, pa, pq, hpe, c1, c2⟩ := b4.at hy1
   have gp := g.pg pc (List.mem_of_getElem? hpc)
   have lt := qK _ 0 wi gp.lot.ris gp.lot.bnd
   have lo := gp.lo
   have hi := gp.hi
   have at1 : atI ps (0 + (j : Int)) = some (.ref pa) := by rw [Int.zero_add]; exact yT (by rw [hy1, hpe])
   refine ⟨_, rfl, _, rfl, b, _, 2, _, rfl, rfl, SqT.of (e _ _ b1), rfl, _, rfl, qp, _, _, _, rfl, rfl, SqT.of (e _ _ b3), at1, pa, _, 0, _, rfl, rfl, SqT.of (e _ _ c1), rfl, pq, _, rfl, .inr (SqT.of (e _ _ c2)), rfl, kQ _, _, rfl, ?_⟩
   have ein : inV (.int t) (pc.1.map V.int) = decide (t ∈ pc.1) := yE _ _
   show if inV (.int t) (pc.1.map V.int) = true then _ else _
   rw [ein]
   refine ite2 (fun hy => ?_) (fun hy => ?_)
   · have hy : t ∈ pc.1 := of_decide_eq_true hy
     have ne : 0 < pc.1.length := List.length_pos_of_mem hy
     refine ⟨_, rfl, _, rfl, _, rfl, b, d, wi, ms, pcs, j, pc, ds, (show [V.ref b, .int (0 + (j : Int)), .ref d] = [V.ref b, .int (j : Int), .ref d] by rw [Int.zero_add]), hB.mono e.tups, g, hpc, e _ _ hd, fun H5 e5 => ⟨_, rfl, ?_⟩⟩
     have h25 := e5 _ _ h2
     have E5 := e.trans e5
     refine ite2 (fun _ => ?_) (fun _ => ?_)
     · refine ⟨_, rfl, b, _, 2, _, rfl, rfl, SqT.of (E5 _ _ b1), rfl, _, rfl, qp, _, _, _, rfl, rfl, SqT.of (E5 _ _ b3), at1, pa, _, 1, _, rfl, rfl, SqT.of (E5 _ _ c1), rfl, _, rfl, b, _, 2, _, rfl, rfl, SqT.of (E5 _ _ b1), rfl, _, rfl, qp, _, _, _, rfl, rfl, SqT.of (E5 _ _ b3), at1, pa, _, 0, _, rfl, rfl, SqT.of (E5 _ _ c1), rfl, pq, _, rfl, .inr (SqT.of (E5 _ _ c2)), (by show 2 ≤ sizeLine; decide), fun r H6 hr6 e6 => ?_⟩
       have h26 := e6 _ _ h25
       have tw : Tups H6 (upd H6 D2 (.lst (zs ++ [.ref r]))) := Tups.upd h26 _
       refine ⟨h26, ⟨_, rfl⟩, ⟨frs ++ [(pc.2, ((pc.1.map V.int).length : Int))], FrsAt.snoc ⟨r, rfl, tw _ _ hr6⟩ (hF.mono ((e5.trans e6).tups.trans tw)), by rw [List.length_append]; show frs.length + 1 ≤ _; omega, fun f hf' => ?_⟩, (E5.trans e6).updNew hn2 _, j4, hn2⟩
       rcases List.mem_append.mp hf' with q | q
       · exact hf f q
       · cases List.mem_singleton.mp q
         rw [List.length_map]
         exact ⟨by show _ ≤ pc.2; omega, by show pc.2 ≤ _; omega, by show (1 : Int) ≤ (pc.1.length : Int); omega, by show (pc.1.length : Int) ≤ 16; omega⟩
     · exact ⟨⟨_, rfl⟩, ⟨frs, hF.mono e5.tups, by omega, hf⟩, E5, h25, hn2⟩
   · exact iteF ⟨⟨_, rfl⟩, ⟨frs, hF, by omega, hf⟩, e, h2, hn2⟩
 · rintro D2 σ' H4 zs hD2 ⟨_, ⟨frs, hF, fl, hf⟩, e, h2, hn2⟩
   have S4 := S.ext e
   obtain ⟨N, vs, _, hp, hN, _, _, _, _⟩ := S4.ex
   refine ⟨_, rfl, p, N, 11, rfl, hp, hN, by decide, by decide, fun N1 r1 a1 a2 a3 => ?_⟩
   refine ⟨_, _, rfl, rfl, _, rfl, p, N1, 3, rfl, j4, a1, by decide, by decide, fun N2 r2 d1 d2 d3 => ?_⟩
   rw [upd_upd]
   have k5 : Keep H4 (upd H4 p (.lst [.int N2])) p := (Keep.refl _ _).upd _
   have hp5 : (upd H4 p (.lst [.int N2])) p = some (.lst [.int N2]) := j4
   have S5 := S4.move lp k5 hp5 d1
   have t5 : Tups H4 (upd H4 p (.lst [.int N2])) := k5.tups hp
   have D5 : (upd H4 p (.lst [.int N2])) D2 = some (.lst zs) := by
     refine k5 _ _ h2 fun q => ?_
     subst q
     obtain ⟨_, _, _, hp', _⟩ := S.ex
     rw [hp'] at hn2
     cases hn2
   generalize upd H4 p (.lst [.int N2]) = H5 at k5 hp5 S5 t5 D5 ⊢
   refine ⟨_, _, rfl, rfl, (by show 2 ≤ sizeLine; decide), fun r6 H6 hr6 e6 => ?_⟩
   have T6 : Tups H1 H6 := (e.tups.trans t5).trans e6.tups
   have S6 := S5.ext e6
   have D6 := e6 _ _ D5
   have F6 := hF.mono (t5.trans e6.tups)
   refine ⟨_, rfl, (by show 0 ≤ sizeLine; decide), fun t7 H7 y7 x7 _ => ⟨D2, t7, zs, rfl, rfl, x7 _ _ D6, y7, _, rfl, ?_⟩⟩
   have S7 := S6.ext x7
   have T7 := T6.trans x7.tups
   have F7 := F6.mono x7.tups
   refine ite2 (fun h1 => ?_) (fun _ => ?_)
   · cases zs with
     | nil => simp at h1
     | cons z0 zr =>
       cases frs with
       | nil => exact F7.elim
       | cons f0 fr =>
         obtain ⟨⟨c0, rfl, hc0⟩, _⟩ := id F7
         refine ⟨_, rfl, D2, _, 0, _, rfl, rfl, SqL.of (x7 _ _ D6), yT (xs := V.ref c0 :: zr) (j := 0) rfl, ?_⟩
         exact prY_read T CF CT CR hr lp S7 i1 hn (hB.mono T7) hc0 (hf f0 (List.mem_cons_self ..)) (x7 _ _ D6) F7 hf fun H' v6 v7 v8 S' => nx H' _ v6 v7 v8 S'
   · exact prY_read T CF CT CR hr lp S7 i1 hn (hB.mono T7) (x7 _ _ hr6) ⟨by omega, by omega, by omega, by omega⟩ (x7 _ _ D6) F7 hf fun H' v6 v7 v8 S' => nx H' _ v6 v7 v8 S'
def spPrices : Sp := fun vs H Q _ => ∃ (p b d : Addr) (N wi : Int) (ms : List Int) (pcs : List (List Int × Int)) (ds : List Int), vs = [.ref p, .ref b, .ref d] ∧ H p = some (.lst [.int N]) ∧ 0 ≤ N ∧ BoxAt H b wi ms pcs ∧ Good 16 11 wi ms pcs ∧ H d = some (.tup (ds.map V.int)) ∧
 ∀ r xs frs N' H', H' r = some (.tup xs) → FrsAt H' xs frs → Prs wi frs → (∀ p ∈ frs, TightF p) → H' p = some (.lst [.int N']) → 0 ≤ N' → Keep H H' p → Q (.ref r) H'
theorem ok_prices {fd : FuncData} (F : Fun K "_law_prices" "_law_prices" qA f fd) (T : Txt mg) (CF : Can P w K mg base "_law_fits" 1 fF fdF ["box", "k", "done"] yG) (CT : Can P w K mg base "_law_take" 1 fT fdT ["pot", "wide"] jQ) (CR : Can P w K mg base "_law_ratio" 2 fR fdR ["top", "bottom"] spFr) : FnOk P w K mg base CX0 3 f fd ["pot", "box", "done"] spPrices := by
 refine F.ok scPrices (fun vs H Q E h => ?_) (fun cdv A outer s H vs Q E hr h => ?_)
 · obtain ⟨_, _, _, _, _, _, _, _, rfl, _⟩ := h
   rfl
 · obtain ⟨p, b, d, N, wi, ms, pcs, ds, rfl, hp, hN, hB, g, hd, k⟩ := h
   obtain ⟨qm, qp, ps, b1, b2, b3, b4⟩ := hB.ex
   have w0 := g.w0
   have w1 := g.w1
   refine ⟨_, (prA T CF CT CR hr).2.h, ?_⟩
   refine ⟨(by show 0 ≤ sizeLine; decide), fun l H1 hl e1 n1 => ?_⟩
   have lp : l ≠ p := fun q => by
     subst q
     rw [hp] at n1
     cases n1
   refine ⟨_, rfl, b, _, 0, _, rfl, rfl, SqT.of (e1 _ _ b1), rfl, wi, rfl, by omega, by omega, for_range (fun i σ H' => (∃ v4 v5 v6 v7 v8, σ = [some (.ref p), some (.ref b), some (.ref d), some (.ref l), v4, v5, v6, v7, v8]) ∧ PSt H H' p l i) ⟨⟨_, _, _, _, _, rfl⟩, ⟨⟨N, [], [], e1 _ _ hp, hN, hl, trivial, rfl, fun f hf => by cases hf⟩, fun c u h n => e1 c u h⟩⟩ ?_ ?_⟩
   · rintro i σ H2 hi ⟨⟨v4, v5, v6, v7, v8, rfl⟩, S⟩
     have kt : Tups H H2 := S.kp.tups hp
     exact prL_read T CF CT CR hr lp S (by omega) n1 (hB.mono kt) g (kt _ _ hd) fun H' v5 v6 v7 v8 S' => ⟨⟨_, _, _, _, _, rfl⟩, S'⟩
   · rintro σ H2 ⟨⟨v4, v5, v6, v7, v8, rfl⟩, S⟩
     obtain ⟨⟨N', vs, frs, hp', hN', hl', hF, fl, fs⟩, kp⟩ := S
     refine ⟨_, rfl, l, vs, rfl, .inl ⟨SqL.of hl', fun t ht => ?_⟩⟩
     have e3 : Ext H2 (upd H2 t (.tup vs)) := (Ext.refl _).new ht _
     have ht3 : (upd H2 t (.tup vs)) t = some (.tup vs) := j4
     generalize upd H2 t (.tup vs) = H3 at e3 ht3 ⊢
     exact k t vs frs N' H3 ht3 (hF.mono e3.tups) ⟨fl, fun f hf => (fs f hf).1.sm, fun f hf => (fs f hf).2⟩ (fun f hf => (fs f hf).1) (e3 _ _ hp') hN' fun c u h n => e3 _ _ (kp c u h n)
end
end Eo
end
section
namespace Eo
open PySem L2
theorem ints_ts {H : Hp} : ∀ l : List Int, TsAt H (l.map Tr.int) (l.map V.int)
 | [] => by rw [List.map_nil, List.map_nil, TsAt]
 | a :: r => by
   rw [List.map_cons, List.map_cons, TsAt]
   exact ⟨_, _, rfl, by rw [TAt], ints_ts r⟩
theorem deps_ints : ∀ l : List Int, deps (l.map Tr.int) ≤ 0
 | [] => by rw [List.map_nil, deps]; exact Nat.zero_le _
 | a :: r => by
   rw [List.map_cons, deps]
   exact Nat.max_le.mpr ⟨by simp [dep], deps_ints r⟩
def yZ (d : Nat) : Sp := fun vs H Q _ => ∃ (p b da : Addr) (N wi : Int) (ms : List Int) (pcs : List (List Int × Int)) (dn : Nat) (ds : List Int), vs = [.ref p, .ref b, .ref da, .int (d : Int)] ∧ H p = some (.lst [.int N]) ∧ 0 ≤ N ∧ BoxAt H b wi ms pcs ∧ Good 16 11 wi ms pcs ∧ Done dn ds ∧ H da = some (.tup (ds.map V.int)) ∧ ds.length + 16 * d ≤ 900 ∧
 ∀ v N' H', GP wi d H' v → H' p = some (.lst [.int N']) → 0 ≤ N' → Keep H H' p → Q v H'
def spPaperP : Nat → Sp
 | 0 => spNo
 | d + 1 => yZ d
section
variable {P : Program} {w : World} {K : W.Frag} {mg : Str → Option Value} {base : Heap}
variable {f fP fT fC fI : Addr} {fdP fdT fdC fdI : FuncData} {cdv : Value} {A : Around} {outer : List Env} {s : Shared} {H0 : Hp} {E : XK}
abbrev nPaper : List Str := ["pot", "box", "done", "deep", "left", "thing"]
theorem scPaper : FnScope nPaper ["pot", "box", "done", "deep"] (j6 qG) := ⟨rfl, rfl, rfl, by decide +kernel, rfl, by decide +kernel, by decide +kernel⟩
def paperA {d : Nat} {sp : Sp} (T : Txt mg) (CP : Can P w K mg base "_law_prices" 3 fP fdP ["pot", "box", "done"] spPrices) (CT : Can P w K mg base "_law_take" 1 fT fdT ["pot", "wide"] jQ) (CC : Can P w K mg base "_law_cases" 2 fC fdC ["box", "thing", "done", "heavy"] yW) (CI : Can P w K mg base "_law_paper" (d + 3) fI fdI ["pot", "box", "done", "deep"] sp) (hr : Room (d + 3) (XOf nPaper "_law_paper" qG P w K mg base f cdv A outer s H0 E).A) : { t : TS // JSs (XOf nPaper "_law_paper" qG P w K mg base f cdv A outer s H0 E) (j8 qG) t } :=
 have nd := scPaper.nd
 ⟨_, (j5 (js_setC (i := 4) nd rfl lL ⟨by rfl⟩ (m := [none, some 2]) (Nc := ["t", "done"]) rfl (ji_range1 gD T.range (j0 (jB jA (jv 1 rfl vC) (je_int) j3) j2 jE) jE) rfl (by decide +kernel) (by decide +kernel) (kT (psc := j6 qG) (by decide +kernel)) (jW (N := nPaper) rfl rfl (by decide +kernel)) (fun cl C fp s H => jT (i := 0) (show (["t", "done"] : List Str).Nodup by decide +kernel) rfl (qL (by decide +kernel))) (fun cl C fp s H => jts_one (jF op_notIn_b (jv 0 rfl (kN (by decide +kernel))) (jv 1 rfl (kY (by decide +kernel))) nm_name)) (fun cl C fp s H => (jv 0 rfl (kN (by decide +kernel)))) yF)
     (j5 (jX (jt_w (yQ (jF (op_eqLL hr.units101) (jv 4 rfl vL) (kI j2) (jK _)) (yQ (jF yP (jv 3 rfl vC) (je_int) (jK _)) (yY (jF yP (CT.je (hr.mono (by omega)) gD (j0 (jv 0 rfl vC) (j0 (je_int) j2 j7) j1) j1) (je_int) (jK _)))))) (j9 (jI (jH (j0 (je_str) (j0 (CP.je (hr.mono (by omega)) gD (j0 (jv 0 rfl vC) (j0 (jv 1 rfl vC) (j0 (jv 2 rfl vC) j2 j1) j1) j1) j1) j2 jL) j7)))) jN)
     (j5 (jM (i := 5) nd rfl lL (jB kX (jv 4 rfl vL) (CT.je (hr.mono (by omega)) gD (j0 (jv 0 rfl vC) (j0 (jG jJ gD T.len (by decide +kernel) (j0 (jv 4 rfl vL) j2 j1) j1) j2 jL) j1) j1) px_call) sw_sub)
     (j9 (jI (jH (j0 (je_str) (j0 (jv 5 rfl vL) (j0 (kB kG gD T.tuple (by decide +kernel) (j0 (yL (m := [none, none, some 0, some 1, some 3]) (Nc := ["there", "heavy", "pot", "box", "deep"]) rfl (qN (CC.je (hr.mono (by omega)) gD (j0 (jv 1 rfl vC) (j0 (jv 5 rfl vL) (j0 (jv 2 rfl vC) (j0 (je_int) j2 j7) j1) j1) j1) j1)) rfl (by decide +kernel) (by decide +kernel) (kT (psc := j6 qG) (by decide +kernel)) (jW (N := nPaper) rfl rfl (by decide +kernel)) (fun cl C fp s H => jg_pair_b (i := 0) (j := 1) rfl (show (["there", "heavy", "pot", "box", "deep"] : List Str).Nodup by decide +kernel) rfl rfl (by decide +kernel) (by decide +kernel)) (fun cl C fp s H => qM) (fun cl C fp s H => (CI.je hr (gl_b (by decide +kernel)) (j0 (jv 2 rfl (kY (by decide +kernel))) (j0 (jv 3 rfl (kY (by decide +kernel))) (j0 (jv 0 rfl (kN (by decide +kernel))) (j0 (jP op_sub (jv 4 rfl (kY (by decide +kernel))) (je_int)) j2 jS) j1) j1) j1) j1)) yF) j2 kR) kR) j2 jL) j1) j7)))))))⟩
theorem paper_step {fd : FuncData} (d : Nat) (F : Fun K "_law_paper" "_law_paper" qG f fd) (T : Txt mg) (CP : Can P w K mg base "_law_prices" 3 fP fdP ["pot", "box", "done"] spPrices) (CT : Can P w K mg base "_law_take" 1 fT fdT ["pot", "wide"] jQ) (CC : Can P w K mg base "_law_cases" 2 fC fdC ["box", "thing", "done", "heavy"] yW) (CI : Can P w K mg base "_law_paper" (d + 3) fI fdI ["pot", "box", "done", "deep"] (spPaperP d)) :
   FnOk P w K mg base CX0 (d + 4) f fd ["pot", "box", "done", "deep"] (yZ d) := by
 refine F.ok scPaper (fun vs H Q E h => ?_) (fun cdv A outer s H vs Q E hr h => ?_)
 · obtain ⟨_, _, _, _, _, _, _, _, _, rfl, _⟩ := h
   rfl
 · obtain ⟨p, b, da, N, wi, ms, pcs, dn, ds, rfl, hp, hN, hB, g, hD, hda, dl, k⟩ := h
   obtain ⟨qm, qp, ps, b1, b2, b3, b4⟩ := hB.ex
   have w0 := g.w0
   have w1 := g.w1
   refine ⟨_, (paperA T CP CT CC CI hr).2.h, ?_⟩
   refine ⟨_, rfl, b, _, 0, _, rfl, rfl, SqT.of b1, rfl, _, rfl, by omega, by omega, comp_rng (n := wi.toNat) (by rw [PySem.sizeLine_eq]; omega) (fun D j σ' H' zs => (∃ v, σ' = [v, some (.ref da)]) ∧ zs = (((upto wi.toNat).take j).filter fun t => !decide (t ∈ ds)).map V.int ∧ Ext H H' ∧ H' D = some (.lst zs) ∧ H D = none) ?_ ?_ ?_ ?_⟩
   · intro D hD
     exact ⟨⟨_, rfl⟩, rfl, (Ext.refl _).new hD _, j4, hD⟩
   · rintro D j σ' H' zs hD hj ⟨_, rfl, e, h2, _⟩
     refine ⟨h2, ?_⟩
     rw [List.length_map]
     refine Nat.le_trans (List.length_filter_le _ _) ?_
     rw [List.length_take]
     omega
   · rintro D j σ' H' zs hD hj ⟨⟨v, rfl⟩, rfl, e, h2, hn⟩
     have tk : (upto wi.toNat).take (j + 1) = (upto wi.toNat).take j ++ [(j : Int)] := upto_take hj
     refine ⟨_, rfl, _, rfl, da, _, rfl, .inr (SqT.of (e _ _ hda)), rfl, kQ _, _, rfl, ?_⟩
     have ein : inV (.int (0 + (j : Int))) (ds.map V.int) = decide ((j : Int) ∈ ds) := by rw [yE, Int.zero_add]
     show if (!inV (.int (0 + (j : Int))) (ds.map V.int)) = true then _ else _
     rw [ein]
     refine ite2 (fun h1 => ?_) (fun h1 => ?_)
     · refine ⟨_, rfl, h2, ⟨_, rfl⟩, ?_, e.updNew hn _, j4, hn⟩
       rw [tk, List.filter_append, List.filter_cons_of_pos (p := fun t : Int => !decide (t ∈ ds)) h1, List.map_append, Int.zero_add]
       rfl
     · refine ⟨⟨_, rfl⟩, ?_, e, h2, hn⟩
       rw [tk, List.filter_append, List.filter_cons_of_neg (p := fun t : Int => !decide (t ∈ ds)) h1, List.filter_nil, List.append_nil]
   · rintro Dl σ' H1 zs hDl ⟨_, rfl, e1, hl1, hn1⟩
     have ut : (upto wi.toNat).take wi.toNat = upto wi.toNat := by
       have := List.take_length (l := upto wi.toNat)
       rw [upto_len] at this
       exact this
     rw [ut] at hl1
     generalize hL : ((upto wi.toNat).filter fun t => !decide (t ∈ ds)) = L at hl1
     have hLm : ∀ t ∈ L, 0 ≤ t ∧ t < wi ∧ ¬ t ∈ ds := fun t ht => by
       rw [← hL] at ht
       obtain ⟨q1, q2⟩ := List.mem_filter.mp ht
       unfold upto at q1
       obtain ⟨n, hn, rfl⟩ := List.mem_map.mp q1
       have := List.mem_range.mp hn
       rw [Bool.not_eq_true', decide_eq_false_iff_not] at q2
       exact ⟨by omega, by omega, q2⟩
     have hLl : L.length ≤ 16 := by
       rw [← hL]
       refine Nat.le_trans (List.length_filter_le _ _) ?_
       rw [upto_len]
       omega
     have price : ∀ (H2 : Hp) (N2 : Int), H2 p = some (.lst [.int N2]) → 0 ≤ N2 → Keep H H2 p → ∀ (c r a : Addr) (H3 H4 : Hp) (xs : List V) (frs : List (Int × Int)) (N3 : Int), H3 c = some (.tup xs) → FrsAt H3 xs frs → Prs wi frs → (∀ f ∈ frs, TightF f) → H3 p = some (.lst [.int N3]) → 0 ≤ N3 → Keep H2 H3 p → H4 a = some (.tup [.str "price", .ref c]) → Ext H3 H4 → Q (.ref a) H4 := fun H2 N2 h1 h2 h3 c r a H3 H4 xs frs N3 g1 g2 g3 gt g4 g5 g6 g7 g8 => by
       have pg : GP0 wi H4 (.ref a) := ⟨a, c, xs, frs, rfl, g7, g8 _ _ g1, g2.mono g8.tups, g3, gt⟩
       refine k (.ref a) N3 H4 ?_ (g8 _ _ g4) g5 fun c u h n => g8 _ _ (g6 _ _ (h3 c u h n) n)
       cases d with
       | zero => exact pg
       | succ d => exact .inl pg
     have kE : ∀ {H2 : Hp}, Ext H1 H2 → Keep H H2 p := fun {H2} e c u h _ => e _ _ (e1 _ _ h)
     have hp1 := e1 _ _ hp
     refine ⟨_, rfl, (by show 0 ≤ sizeLine; decide), fun l2 H2 hl2 e2 _ => ?_⟩
     have t1 : TAt H2 (.lst (L.map Tr.int)) (.ref Dl) := by
       rw [TAt]
       exact ⟨Dl, _, rfl, e2 _ _ hl1, ints_ts L⟩
     have t2 : TAt H2 (.lst []) (.ref l2) := by
       rw [TAt]
       exact ⟨l2, _, rfl, hl2, by rw [TsAt]⟩
     refine ⟨_, _, t1, t2, Nat.le_trans (deps_ints _) (by decide), _, rfl, ?_⟩
     have hp2 := e2 _ _ hp1
     have kt2 : Tups H H2 := (e1.trans e2).tups
     cases hLe : L with
     | nil =>
       refine iteT' (by rfl) ?_
       refine ⟨_, rfl, _, rfl, _, rfl, p, b, da, N, wi, ms, pcs, ds, rfl, hp2, hN, hB.mono kt2, g, kt2 _ _ hda, fun c xs frs N3 H3 g1 g2 g3 gt g4 g5 g6 => ⟨(by show 2 ≤ sizeLine; decide), fun a H4 g7 g8 => ?_⟩⟩
       exact price H2 N hp2 hN (kE e2) c c a H3 H4 xs frs N3 g1 g2 g3 gt g4 g5 g6 g7 g8
     | cons t0 tr =>
       have ne : eqTs ((t0 :: tr).map Tr.int) [] = false := by rw [List.map_cons]; simp [eqTs]
       rw [ne]
       refine iteF ?_
       cases d with
       | zero =>
         refine ⟨_, rfl, rfl, _, rfl, yes rfl (iteT ?_)⟩
         refine ⟨_, rfl, _, rfl, _, rfl, p, b, da, N, wi, ms, pcs, ds, rfl, hp2, hN, hB.mono kt2, g, kt2 _ _ hda, fun c xs frs N3 H3 g1 g2 g3 gt g4 g5 g6 => ⟨(by show 2 ≤ sizeLine; decide), fun a H4 g7 g8 => ?_⟩⟩
         exact price H2 N hp2 hN (kE e2) c c a H3 H4 xs frs N3 g1 g2 g3 gt g4 g5 g6 g7 g8
       | succ d =>
         refine ⟨_, rfl, rfl, _, rfl, nay (fun z => by have := V.int.inj z; omega) ?_⟩
         refine ⟨_, rfl, p, N, 3, rfl, hp2, hN, by decide, by decide, fun N3 r3 a1 a2 a3 => ⟨rfl, _, rfl, ?_⟩⟩
         have k3 : Keep H2 (upd H2 p (.lst [.int N3])) p := (Keep.refl _ _).upd _
         have hp3 : (upd H2 p (.lst [.int N3])) p = some (.lst [.int N3]) := j4
         have lp : Dl ≠ p := fun q => by
           subst q
           rw [hp] at hn1
           cases hn1
         have hl3 := k3 _ _ (e2 _ _ hl1) lp
         have kt3 : Tups H (upd H2 p (.lst [.int N3])) := kt2.trans (k3.tups hp2)
         have K3 : Keep H (upd H2 p (.lst [.int N3])) p := (kE e2).trans k3
         generalize upd H2 p (.lst [.int N3]) = H3 at k3 hp3 hl3 kt3 K3 ⊢
         refine ite2 (fun _ => ?_) (fun _ => ?_)
         · refine ⟨_, rfl, _, rfl, _, rfl, p, b, da, N3, wi, ms, pcs, ds, rfl, hp3, a1, hB.mono kt3, g, kt3 _ _ hda, fun c xs frs N4 H4 g1 g2 g3 gt g4 g5 g6 => ⟨(by show 2 ≤ sizeLine; decide), fun a H5 g7 g8 => ?_⟩⟩
           exact price H3 N3 hp3 a1 K3 c c a H4 H5 xs frs N4 g1 g2 g3 gt g4 g5 g6 g7 g8
         · have Lpos : 0 < L.length := by rw [hLe]; exact Nat.succ_pos _
           refine ⟨_, rfl, _, rfl, _, rfl, Dl, _, rfl, .inl (SqL.of hl3), p, N3, _, rfl, hp3, a1, by rw [List.length_map]; omega, by rw [List.length_map]; omega, fun N4 r4 c1 c2 c3 => ?_⟩
           rw [List.length_map] at c3
           have k4 : Keep H3 (upd H3 p (.lst [.int N4])) p := (Keep.refl _ _).upd _
           have hp4 : (upd H3 p (.lst [.int N4])) p = some (.lst [.int N4]) := j4
           have hl4 := k4 _ _ hl3 lp
           have kt4 : Tups H (upd H3 p (.lst [.int N4])) := kt3.trans (k4.tups hp3)
           have K4 : Keep H (upd H3 p (.lst [.int N4])) p := K3.trans k4
           generalize upd H3 p (.lst [.int N4]) = H4 at k4 hp4 hl4 kt4 K4 ⊢
           have hrn : r4.toNat < L.length := by omega
           have er : ((r4.toNat : Nat) : Int) = r4 := by omega
           have hat : atI (L.map V.int) r4 = some (.int L[r4.toNat]) := by
             have := yT (xs := L.map V.int) (j := r4.toNat) (v := .int L[r4.toNat]) (by simp [hrn])
             rw [er] at this
             exact this
           obtain ⟨t0', t1', tn⟩ := hLm L[r4.toNat] (List.getElem_mem hrn)
           refine ⟨Dl, _, r4, _, rfl, rfl, SqL.of hl4, hat, ?_⟩
           generalize L[r4.toNat] = t at t0' t1' tn hat
           refine ⟨_, rfl, _, rfl, _, rfl, _, rfl, b, da, wi, t, 0, ms, pcs, ds, rfl, hB.mono kt4, g, kt4 _ _ hda, by omega, fun lc cv H5 hlc hA e5 n5 => ?_⟩
           have cl := hA.len
           have csl := cs_len g t ds
           have lcp : lc ≠ p := fun q => by
             subst q
             rw [hp4] at n5
             cases n5
           have c16 := fun c hc => cs16 g (t := t) (ds := ds) (c := c) hc
           have cfn := fun c hc => cs_fine g t0' t1' (ds := ds) (c := c) hc
           have hp5 := e5 _ _ hp4
           have K5 : Keep H H5 p := fun c u h n => e5 _ _ (K4 c u h n)
           have kt5 : Tups H H5 := kt4.trans e5.tups
           refine ⟨lc, rfl, ⟨_, SqL.of hlc⟩, comp_lst (xs := cv) (by rw [PySem.sizeLine_eq]; omega) (fun D2 j σ' H' zs => (∃ v1 v2, σ' = [v1, v2, some (.ref p), some (.ref b), some (.int ((d + 1 : Nat) : Int))]) ∧ zs.length = j ∧ (∀ u ∈ zs, GP wi d H' u) ∧ (∃ N' : Int, 0 ≤ N' ∧ H' p = some (.lst [.int N'])) ∧ Keep H5 H' p ∧ H' D2 = some (.lst zs) ∧ H5 D2 = none) ?_ ?_ ?_ ?_⟩
           · intro D2 hD2
             have pD : p ≠ D2 := jC hp5 hD2
             exact ⟨⟨_, _, rfl⟩, rfl, (fun u hu => by cases hu), ⟨N4, c1, by rw [jD pD]; exact hp5⟩, (Keep.refl _ _).new hD2 _, j4, hD2⟩
           · rintro D2 j σ' H' zs hD2 ⟨_, rfl, _, _, kk, h2, _⟩
             exact ⟨kk _ _ hlc lcp, h2, Nat.le_refl _⟩
           · rintro D2 j σ' H' zs x hD2 hx ⟨⟨v1, v2, rfl⟩, rfl, hBs, ⟨N6, n6, hp6⟩, kk, h2, hn2⟩
             have pD : p ≠ D2 := jC hp5 hn2
             obtain ⟨c, hc, ca, cq, rfl, hca, hcq⟩ := hA.at hx
             have kt6 : Tups H5 H' := kk.tups hp5
             have cf := cfn c (List.mem_of_getElem? hc)
             have c16' := c16 c (List.mem_of_getElem? hc)
             refine ⟨ca, _, rfl, SqT.of (kt6 _ _ hca), rfl, _, _, rfl, _, _, rfl, rfl, ?_⟩
             dsimp only [yJ, qQ]
             rw [if_pos rfl]
             refine ⟨_, rfl, _, rfl, _, rfl, _, rfl, _, _, rfl, rfl, p, b, cq, N6, wi, ms, pcs, dn ||| maskN c.1, ds ++ c.1, ?_, hp6, n6, hB.mono (kt5.trans kt6), g, done_step hD cf.2.1 cf.2.2, kt6 _ _ hcq, by rw [List.length_append]; omega, fun v' N7 H7 hG7 hp7 n7 k7 => ?_⟩
             · show [V.ref p, V.ref b, V.ref cq, V.int (((d + 1 : Nat) : Int) - 1)] = _
               rw [show (((d + 1 : Nat) : Int) - 1) = (d : Int) by omega]
             have h27 := k7 _ _ h2 (Ne.symm pD)
             have tw : Tups H7 (upd H7 D2 (.lst (zs ++ [v']))) := Tups.upd h27 _
             have t7 : Tups H' H7 := k7.tups hp6
             refine ⟨h27, ⟨_, _, rfl⟩, by rw [List.length_append]; rfl, fun u hu => ?_, ⟨N7, n7, by rw [jD pD]; exact hp7⟩, fun c u h n => ?_, j4, hn2⟩
             · rcases List.mem_append.mp hu with q | q
               · exact (hBs u q).mono (t7.trans tw)
               · cases List.mem_singleton.mp q
                 exact hG7.mono tw
             · rw [jD (jC h hn2)]
               exact k7 _ _ (kk c u h n) n
           · rintro D2 σ' H6 zs hD2 ⟨_, hzl, hBs, ⟨N6, n6, hp6⟩, kk, h2, hn2⟩
             refine ⟨D2, zs, rfl, .inl ⟨SqL.of h2, fun tt htt => ?_⟩⟩
             have e7 : Ext H6 (upd H6 tt (.tup zs)) := (Ext.refl _).new htt _
             have ht7 : (upd H6 tt (.tup zs)) tt = some (.tup zs) := j4
             generalize upd H6 tt (.tup zs) = H7 at e7 ht7 ⊢
             refine ⟨(by show 3 ≤ sizeLine; decide), fun a H8 ha8 e8 => ?_⟩
             have e78 := e7.trans e8
             refine k (.ref a) N6 H8 (.inr ⟨a, t, tt, zs, rfl, ha8, e8 _ _ ht7, t0', t1', by omega, fun u hu => (hBs u hu).mono e78.tups⟩) (e78 _ _ hp6) n6 fun c u h n => e78 _ _ (kk _ _ (K5 c u h n) n)
theorem ok_paper {fd : FuncData} (F : Fun K "_law_paper" "_law_paper" qG f fd) (T : Txt mg) (CP : Can P w K mg base "_law_prices" 3 fP fdP ["pot", "box", "done"] spPrices) (CT : Can P w K mg base "_law_take" 1 fT fdT ["pot", "wide"] jQ) (CC : Can P w K mg base "_law_cases" 2 fC fdC ["box", "thing", "done", "heavy"] yW)
   (hm : mg "_law_paper" = some (.ref f)) (kp : PySem.W.keepIn K (.ref f) = true) (hb : Binds K fd ["pot", "box", "done", "deep"] []) : ∀ d : Nat, FnOk P w K mg base CX0 (d + 4) f fd ["pot", "box", "done", "deep"] (yZ d)
 | 0 => paper_step 0 F T CP CT CC ⟨ok_no, hm, kp, hb⟩
 | d + 1 => paper_step (d + 1) F T CP CT CC ⟨ok_paper F T CP CT CC hm kp hb d, hm, kp, hb⟩
end
end Eo
end
section
namespace Eo
open PySem L2
theorem zeros_prs {wi : Int} : Prs wi (List.replicate wi.toNat ((0, 1) : Int × Int)) := by
 refine ⟨List.length_replicate, fun p hp => ?_, fun p hp => ?_⟩
 · rw [(List.mem_replicate.mp hp).2]
   exact ⟨by decide, by decide, by decide, by decide⟩
 · rw [(List.mem_replicate.mp hp).2]
   decide
theorem cs_has {ms : List Int} {pcs : List (List Int × Int)} {t : Int} {ds : List Int} {c : List Int × Int} (hc : c ∈ csS ms pcs t ds) : t ∈ c.1 := by
 unfold csS at hc
 rcases List.mem_append.mp hc with hc | hc
 · split at hc
   · cases List.mem_singleton.mp hc
     exact List.mem_singleton.mpr rfl
   · cases hc
 · have := (List.mem_filter.mp hc).2
   rw [Bool.and_eq_true] at this
   exact of_decide_eq_true this.1
theorem left_less {os ds ts : List Int} {t : Int} {n : Nat} (h : (os.filter fun x => !decide (x ∈ ds)).length ≤ n + 1) (ht : t ∈ os.filter fun x => !decide (x ∈ ds)) (hts : t ∈ ts) : (os.filter fun x => !decide (x ∈ ds ++ ts)).length ≤ n := by
 have e : (os.filter fun x => !decide (x ∈ ds ++ ts)) = (os.filter fun x => !decide (x ∈ ds)).filter fun x => !decide (x ∈ ts) := by
   rw [List.filter_filter]
   refine List.filter_congr fun x _ => ?_
   simp [Bool.and_comm]
 rw [e]
 have : ((os.filter fun x => !decide (x ∈ ds)).filter fun x => !decide (x ∈ ts)).length < (os.filter fun x => !decide (x ∈ ds)).length := by
   rw [List.length_filter_lt_length_iff_exists]
   exact ⟨t, ht, by simp [hts]⟩
 omega
theorem reps_flat (k : Nat) (v : V) : (List.replicate k [v]).flatten = List.replicate k v := by
 induction k with
 | zero => rfl
 | succ k ih => rw [List.replicate_succ, List.flatten_cons, ih, List.replicate_succ]; rfl
theorem frs_rep {H : Hp} {a : Addr} {p : Int × Int} (h : H a = some (.tup [.int p.1, .int p.2])) : ∀ k : Nat, FrsAt H (List.replicate k (.ref a)) (List.replicate k p)
 | 0 => trivial
 | k + 1 => ⟨⟨a, rfl, h⟩, frs_rep h k⟩
def qS (d : Nat) : Sp := fun vs H Q _ => ∃ (o b da : Addr) (wi : Int) (ms : List Int) (pcs : List (List Int × Int)) (os : List Int) (dn : Nat) (ds : List Int), vs = [.ref o, .ref b, .ref da] ∧ H o = some (.tup (os.map V.int)) ∧ (∀ x, x ∈ os ↔ 0 ≤ x ∧ x < wi) ∧ os.length ≤ 16 ∧ BoxAt H b wi ms pcs ∧ Good 16 11 wi ms pcs ∧ Done dn ds ∧ H da = some (.tup (ds.map V.int)) ∧ ds.length + 16 * d ≤ 900 ∧ (os.filter fun x => !decide (x ∈ ds)).length ≤ d ∧
 ∀ v H', GP wi d H' v → Ext H H' → Q v H'
def spTreeP : Nat → Sp
 | 0 => spNo
 | d + 1 => qS d
section
variable {P : Program} {w : World} {K : W.Frag} {mg : Str → Option Value} {base : Heap}
variable {f fP fT fC fI : Addr} {fdP fdT fdC fdI : FuncData} {cdv : Value} {A : Around} {outer : List Env} {s : Shared} {H0 : Hp} {E : XK}
abbrev nTree : List Str := ["order", "box", "done", "left"]
theorem scTree : FnScope nTree ["order", "box", "done"] (j6 xF) := ⟨rfl, rfl, rfl, by decide +kernel, rfl, by decide +kernel, by decide +kernel⟩
def treeA {d : Nat} {sp : Sp} (T : Txt mg) (CC : Can P w K mg base "_law_cases" 2 fC fdC ["box", "thing", "done", "heavy"] yW) (CI : Can P w K mg base "_law_tree" (d + 2) fI fdI ["order", "box", "done"] sp) (hr : Room (d + 2) (XOf nTree "_law_tree" xF P w K mg base f cdv A outer s H0 E).A) : { t : TS // JSs (XOf nTree "_law_tree" xF P w K mg base f cdv A outer s H0 E) (j8 xF) t } :=
 have nd := scTree.nd
 ⟨_, (j5 (js_setC (i := 3) nd rfl lL ⟨by rfl⟩ (m := [none, some 2]) (Nc := ["t", "done"]) rfl (ji_tup (jv 0 rfl vC)) rfl (by decide +kernel) (by decide +kernel) (kT (psc := j6 xF) (by decide +kernel)) (jW (N := nTree) rfl rfl (by decide +kernel)) (fun cl C fp s H => jT (i := 0) (show (["t", "done"] : List Str).Nodup by decide +kernel) rfl (qL (by decide +kernel))) (fun cl C fp s H => jts_one (jF op_notIn_b (jv 0 rfl (kN (by decide +kernel))) (jv 1 rfl (kY (by decide +kernel))) nm_name)) (fun cl C fp s H => (jv 0 rfl (kN (by decide +kernel)))) fo_name)
     (j5 (jX (jF (op_eqLL hr.units101) (jv 3 rfl vL) (kI j2) (jK _)) (j9 (jI (jH (j0 (je_str) (j0 (jP op_repT (jH (j0 (jH (j0 (je_int) (j0 (je_int) j2 j7) j7)) j2 kO)) (jB jA (jv 1 rfl vC) (je_int) j3)) j2 jS) j7)))) jN)
     (j9 (jI (jH (j0 (je_str) (j0 (jB kX (jv 3 rfl vL) (je_int) j3) (j0 (kB kG gD T.tuple (by decide +kernel) (j0 (yL (m := [none, none, some 0, some 1]) (Nc := ["there", "heavy", "order", "box"]) rfl (qN (CC.je (hr.mono (by omega)) gD (j0 (jv 1 rfl vC) (j0 (jB kX (jv 3 rfl vL) (je_int) j3) (j0 (jv 2 rfl vC) (j0 (je_int) j2 j7) j1) jE) j1) j1)) rfl (by decide +kernel) (by decide +kernel) (kT (psc := j6 xF) (by decide +kernel)) (jW (N := nTree) rfl rfl (by decide +kernel)) (fun cl C fp s H => jg_pair_b (i := 0) (j := 1) rfl (show (["there", "heavy", "order", "box"] : List Str).Nodup by decide +kernel) rfl rfl (by decide +kernel) (by decide +kernel)) (fun cl C fp s H => qM) (fun cl C fp s H => (CI.je hr (gl_b (by decide +kernel)) (j0 (jv 2 rfl (kY (by decide +kernel))) (j0 (jv 3 rfl (kY (by decide +kernel))) (j0 (jv 0 rfl (kN (by decide +kernel))) j2 j1) j1) j1) j1)) yF) j2 kR) kR) j2 jL) jE) j7))))))⟩
theorem tree_step {fd : FuncData} (d : Nat) (F : Fun K "_law_tree" "_law_tree" xF f fd) (T : Txt mg) (CC : Can P w K mg base "_law_cases" 2 fC fdC ["box", "thing", "done", "heavy"] yW) (CI : Can P w K mg base "_law_tree" (d + 2) fI fdI ["order", "box", "done"] (spTreeP d)) :
   FnOk P w K mg base CX0 (d + 3) f fd ["order", "box", "done"] (qS d) := by
 refine F.ok scTree (fun vs H Q E h => ?_) (fun cdv A outer s H vs Q E hr h => ?_)
 · obtain ⟨_, _, _, _, _, _, _, _, _, rfl, _⟩ := h
   rfl
 · obtain ⟨o, b, da, wi, ms, pcs, os, dn, ds, rfl, ho, hos, ol, hB, g, hD, hda, dl, lf, k⟩ := h
   obtain ⟨qm, qp, ps, b1, b2, b3, b4⟩ := hB.ex
   have w0 := g.w0
   have w1 := g.w1
   refine ⟨_, (treeA T CC CI hr).2.h, ?_⟩
   refine ⟨_, rfl, o, rfl, ⟨_, SqT.of ho⟩, comp_tup (xs := os.map V.int) (by rw [List.length_map, PySem.sizeLine_eq]; omega) (fun D j σ' H' zs => (∃ v, σ' = [v, some (.ref da)]) ∧ zs = ((os.take j).filter fun t => !decide (t ∈ ds)).map V.int ∧ Ext H H' ∧ H' D = some (.lst zs) ∧ H D = none) ?_ ?_ ?_ ?_⟩
   · intro D hD
     exact ⟨⟨_, rfl⟩, rfl, (Ext.refl _).new hD _, j4, hD⟩
   · rintro D j σ' H' zs hD ⟨_, rfl, e, h2, _⟩
     refine ⟨e _ _ ho, h2, ?_⟩
     rw [List.length_map]
     refine Nat.le_trans (List.length_filter_le _ _) ?_
     rw [List.length_take]
     omega
   · rintro D j σ' H' zs x hD hx ⟨⟨v, rfl⟩, rfl, e, h2, hn⟩
     obtain ⟨z, hz, rfl⟩ : ∃ z : Int, os[j]? = some z ∧ V.int z = x := by
       rw [List.getElem?_map] at hx
       cases hq : os[j]? with
       | none => rw [hq] at hx; cases hx
       | some z => rw [hq] at hx; cases hx; exact ⟨z, rfl, rfl⟩
     have tk : os.take (j + 1) = os.take j ++ [z] := by
       rw [List.take_add_one, hz]
       rfl
     refine ⟨_, rfl, _, rfl, da, _, rfl, .inr (SqT.of (e _ _ hda)), rfl, kQ _, _, rfl, ?_⟩
     show if (!inV (.int z) (ds.map V.int)) = true then _ else _
     rw [yE]
     refine ite2 (fun h1 => ?_) (fun h1 => ?_)
     · refine ⟨_, rfl, h2, ⟨_, rfl⟩, ?_, e.updNew hn _, j4, hn⟩
       rw [tk, List.filter_append, List.filter_cons_of_pos (p := fun t : Int => !decide (t ∈ ds)) h1, List.map_append]
       rfl
     · refine ⟨⟨_, rfl⟩, ?_, e, h2, hn⟩
       rw [tk, List.filter_append, List.filter_cons_of_neg (p := fun t : Int => !decide (t ∈ ds)) h1, List.filter_nil, List.append_nil]
   · rintro Dl σ' H1 zs hDl ⟨_, rfl, e1, hl1, hn1⟩
     rw [List.length_map, List.take_length] at hl1
     have hLm : ∀ t ∈ (os.filter fun t => !decide (t ∈ ds)), 0 ≤ t ∧ t < wi ∧ ¬ t ∈ ds := fun t ht => by
       obtain ⟨q1, q2⟩ := List.mem_filter.mp ht
       have := (hos t).mp q1
       rw [Bool.not_eq_true', decide_eq_false_iff_not] at q2
       exact ⟨this.1, this.2, q2⟩
     have hLn : (os.filter fun t => !decide (t ∈ ds)) = [] → ∀ x, 0 ≤ x → x < wi → x ∈ ds := fun hL x h0 h1 => by
       have := List.filter_eq_nil_iff.mp hL x ((hos x).mpr ⟨h0, h1⟩)
       simpa using this
     have hless := fun (n : Nat) (t : Int) (ts : List Int) h => left_less (os := os) (ds := ds) (ts := ts) (t := t) (n := n) h
     generalize hL : (os.filter fun t => !decide (t ∈ ds)) = L at hl1 hLm hLn lf hless
     refine ⟨_, rfl, (by show 0 ≤ sizeLine; decide), fun l2 H2 hl2 e2 _ => ?_⟩
     have t1 : TAt H2 (.lst (L.map Tr.int)) (.ref Dl) := by
       rw [TAt]
       exact ⟨Dl, _, rfl, e2 _ _ hl1, ints_ts L⟩
     have t2 : TAt H2 (.lst []) (.ref l2) := by
       rw [TAt]
       exact ⟨l2, _, rfl, hl2, by rw [TsAt]⟩
     refine ⟨_, _, t1, t2, Nat.le_trans (deps_ints _) (by decide), _, rfl, ?_⟩
     have E2 := e1.trans e2
     have kt2 : Tups H H2 := E2.tups
     cases hLe : L with
     | nil =>
       refine iteT' (by rfl) ?_
       have b12 := E2 _ _ b1
       refine ⟨(by show 2 ≤ sizeLine; decide), fun z3 H3 y3 x3 => ⟨(by show 1 ≤ sizeLine; decide), fun z4 H4 y4 x4 => ?_⟩⟩
       refine ⟨_, rfl, b, _, 0, _, rfl, rfl, SqT.of ((x3.trans x4) _ _ b12), rfl, z4, wi, _, rfl, rfl, y4, by omega, by omega, (by rw [PySem.sizeLine_eq, List.length_cons, List.length_nil]; omega), fun r5 H5 y5 x5 => ?_⟩
       rw [reps_flat] at y5
       refine ⟨(by show 2 ≤ sizeLine; decide), fun a H6 y6 x6 => ?_⟩
       have pg : GP0 wi H6 (.ref a) := ⟨a, r5, _, _, rfl, y6, x6 _ _ y5, frs_rep (x6 _ _ (x5 _ _ (x4 _ _ y3))) _, zeros_prs, fun p hp => by rw [(List.mem_replicate.mp hp).2]; exact ⟨by decide, by decide, by decide, by decide⟩⟩
       refine k (.ref a) H6 ?_ (((E2.trans x3).trans (x4.trans x5)).trans x6)
       cases d with
       | zero => exact pg
       | succ d => exact .inl pg
     | cons t tr =>
       have ne : eqTs ((t :: tr).map Tr.int) [] = false := by rw [List.map_cons]; simp [eqTs]
       rw [ne]
       refine iteF ?_
       cases d with
       | zero => rw [hLe] at lf; exact absurd lf (by rw [List.length_cons]; omega)
       | succ d =>
         obtain ⟨t0', t1', tn⟩ := hLm t (by rw [hLe]; exact List.mem_cons_self ..)
         have tin : t ∈ L := by rw [hLe]; exact List.mem_cons_self ..
         rw [hLe] at hl1
         have hat : atI ((t :: tr).map V.int) 0 = some (.int t) := yT (xs := (t :: tr).map V.int) (j := 0) rfl
         refine ⟨_, rfl, Dl, _, 0, _, rfl, rfl, SqL.of (e2 _ _ hl1), hat, ?_⟩
         refine ⟨_, rfl, _, rfl, Dl, _, 0, _, rfl, rfl, SqL.of (e2 _ _ hl1), hat, _, rfl, b, da, wi, t, 0, ms, pcs, ds, rfl, hB.mono kt2, g, kt2 _ _ hda, by omega, fun lc cv H5 hlc hA e5 n5 => ?_⟩
         have cl := hA.len
         have csl := cs_len g t ds
         have c16 := fun c hc => cs16 g (t := t) (ds := ds) (c := c) hc
         have cfn := fun c hc => cs_fine g t0' t1' (ds := ds) (c := c) hc
         have E5 := E2.trans e5
         refine ⟨lc, rfl, ⟨_, SqL.of hlc⟩, comp_lst (xs := cv) (by rw [PySem.sizeLine_eq]; omega) (fun D2 j σ' H' zs => (∃ v1 v2, σ' = [v1, v2, some (.ref o), some (.ref b)]) ∧ zs.length = j ∧ (∀ u ∈ zs, GP wi d H' u) ∧ Ext H5 H' ∧ H' D2 = some (.lst zs) ∧ H5 D2 = none) ?_ ?_ ?_ ?_⟩
         · intro D2 hD2
           exact ⟨⟨_, _, rfl⟩, rfl, (fun u hu => by cases hu), (Ext.refl _).new hD2 _, j4, hD2⟩
         · rintro D2 j σ' H' zs hD2 ⟨_, rfl, _, kk, h2, _⟩
           exact ⟨kk _ _ hlc, h2, Nat.le_refl _⟩
         · rintro D2 j σ' H' zs x hD2 hx ⟨⟨v1, v2, rfl⟩, rfl, hBs, kk, h2, hn2⟩
           obtain ⟨c, hc, ca, cq, rfl, hca, hcq⟩ := hA.at hx
           have E6 := E5.trans kk
           have cmem := List.mem_of_getElem? hc
           have cf := cfn c cmem
           have c16' := c16 c cmem
           refine ⟨ca, _, rfl, SqT.of (kk _ _ hca), rfl, _, _, rfl, _, _, rfl, rfl, ?_⟩
           dsimp only [yJ, qQ]
           rw [if_pos rfl]
           refine ⟨_, rfl, _, rfl, _, rfl, o, b, cq, wi, ms, pcs, os, dn ||| maskN c.1, ds ++ c.1, rfl, E6 _ _ ho, hos, ol, hB.mono E6.tups, g, done_step hD cf.2.1 cf.2.2, kk _ _ hcq, by rw [List.length_append]; omega, hless d t c.1 lf tin (cs_has cmem), fun v' H7 hG7 k7 => ?_⟩
           have h27 := k7 _ _ h2
           have tw : Tups H7 (upd H7 D2 (.lst (zs ++ [v']))) := Tups.upd h27 _
           have t7 : Tups H' H7 := k7.tups
           refine ⟨h27, ⟨_, _, rfl⟩, by rw [List.length_append]; rfl, fun u hu => ?_, (kk.trans k7).updNew hn2 _, j4, hn2⟩
           · rcases List.mem_append.mp hu with q | q
             · exact (hBs u q).mono (t7.trans tw)
             · cases List.mem_singleton.mp q
               exact hG7.mono tw
         · rintro D2 σ' H6 zs hD2 ⟨_, hzl, hBs, kk, h2, hn2⟩
           refine ⟨D2, zs, rfl, .inl ⟨SqL.of h2, fun tt htt => ?_⟩⟩
           have e7 : Ext H6 (upd H6 tt (.tup zs)) := (Ext.refl _).new htt _
           have ht7 : (upd H6 tt (.tup zs)) tt = some (.tup zs) := j4
           generalize upd H6 tt (.tup zs) = H7 at e7 ht7 ⊢
           refine ⟨(by show 3 ≤ sizeLine; decide), fun a H8 ha8 e8 => ?_⟩
           have e78 := e7.trans e8
           refine k (.ref a) H8 (.inr ⟨a, t, tt, zs, rfl, ha8, e8 _ _ ht7, t0', t1', by omega, fun u hu => (hBs u hu).mono e78.tups⟩) ((E5.trans kk).trans e78)
theorem ok_tree {fd : FuncData} (F : Fun K "_law_tree" "_law_tree" xF f fd) (T : Txt mg) (CC : Can P w K mg base "_law_cases" 2 fC fdC ["box", "thing", "done", "heavy"] yW)
   (hm : mg "_law_tree" = some (.ref f)) (kp : PySem.W.keepIn K (.ref f) = true) (hb : Binds K fd ["order", "box", "done"] []) : ∀ d : Nat, FnOk P w K mg base CX0 (d + 3) f fd ["order", "box", "done"] (qS d)
 | 0 => tree_step 0 F T CC ⟨ok_no, hm, kp, hb⟩
 | d + 1 => tree_step (d + 1) F T CC ⟨ok_tree F T CC hm kp hb d, hm, kp, hb⟩
end
end Eo
end
section
namespace Eo
open PySem L2
def spOrder : Sp := fun vs H Q _ => ∃ (p : Addr) (N wi : Int), vs = [.ref p, .int wi] ∧ H p = some (.lst [.int N]) ∧ 0 ≤ N ∧ 0 ≤ wi ∧ wi ≤ 16 ∧
 ∀ r os N' H', H' r = some (.tup (os.map V.int)) → List.Perm os (upto wi.toNat) → H' p = some (.lst [.int N']) → 0 ≤ N' → Keep H H' p → Q (.ref r) H'
theorem erase_map {L : List Int} {k : Nat} : (L.map V.int).eraseIdx k = (L.eraseIdx k).map V.int := by
 induction L generalizing k with
 | nil => rfl
 | cons a r ih =>
   cases k with
   | zero => rfl
   | succ k => rw [List.map_cons, List.eraseIdx_cons_succ, List.eraseIdx_cons_succ, ih]; rfl
theorem erase_perm {L : List Int} {k : Nat} {y : Int} (h : L[k]? = some y) : List.Perm (y :: L.eraseIdx k) L := by
 induction L generalizing k with
 | nil => cases h
 | cons a r ih =>
   cases k with
   | zero => cases h; exact List.Perm.refl _
   | succ k =>
     rw [List.eraseIdx_cons_succ]
     exact (List.Perm.swap _ _ _).trans (List.Perm.cons _ (ih (by simpa using h)))
section
variable {P : Program} {w : World} {K : W.Frag} {mg : Str → Option Value} {base : Heap}
variable {f fT fW : Addr} {fdT fdW : FuncData} {cdv : Value} {A : Around} {outer : List Env} {s : Shared} {H0 : Hp} {E : XK}
abbrev nOrder : List Str := ["pot", "wide", "left", "found", "k"]
theorem scOrder : FnScope nOrder ["pot", "wide"] (j6 qZ) := ⟨rfl, rfl, rfl, by decide +kernel, rfl, by decide +kernel, by decide +kernel⟩
def orderA (T : Txt mg) (CT : Can P w K mg base "_law_take" 1 fT fdT ["pot", "wide"] jQ) (hr : Room 1 (XOf nOrder "_law_order" qZ P w K mg base f cdv A outer s H0 E).A) : { t : TS // JSs (XOf nOrder "_law_order" qZ P w K mg base f cdv A outer s H0 E) (j8 qZ) t } :=
 have nd := scOrder.nd
 ⟨_, (j5 (jM (i := 2) nd rfl lL (kB (call_listRng rfl) gD T.list (by decide +kernel) (j0 (kB call_rangeV gD T.range (by decide +kernel) (j0 (jv 1 rfl vL) j2 j1) j1) j2 jL) jL) jR)
     (j5 (jM (i := 3) nd rfl lL (kI j2) sw_lst)
     (j5 (qC PassesOwn.never rfl (ji_range1 gD T.range (j0 (jv 1 rfl vL) j2 j1) j1) (jT (i := 4) nd rfl lL) (j9 (js_expr (je_bm PySem.F.plainAttrs_list PySem.F.slot_list_append PySem.F.type_list_append mt_append (jv 3 rfl vL) (j0 (je_bm PySem.F.plainAttrs_list PySem.F.slot_list_pop PySem.F.type_list_pop mt_popAt (jv 2 rfl vL) (j0 (CT.je hr gD (j0 (jv 0 rfl vL) (j0 (jG jJ gD T.len (by decide +kernel) (j0 (jv 2 rfl vL) j2 j1) j1) j2 jL) j1) j1) j2 jL) jL) j2 jL) jL) jR)) yF)
     (j9 (jI (kB kG gD T.tuple (by decide +kernel) (j0 (jv 3 rfl vL) j2 j1) j1))))))⟩
theorem ok_order {fd : FuncData} (F : Fun K "_law_order" "_law_order" qZ f fd) (T : Txt mg) (CT : Can P w K mg base "_law_take" 1 fT fdT ["pot", "wide"] jQ) : FnOk P w K mg base CX0 2 f fd ["pot", "wide"] spOrder := by
 refine F.ok scOrder (fun vs H Q E h => ?_) (fun cdv A outer s H vs Q E hr h => ?_)
 · obtain ⟨_, _, _, rfl, _⟩ := h
   rfl
 · obtain ⟨p, N, wi, rfl, hp, hN, w0, w1, q⟩ := h
   refine ⟨_, (orderA T CT hr).2.h, ?_⟩
   refine ⟨_, rfl, wi, rfl, fun x hx => ⟨x, wi, rfl, j4, w0, by omega, fun l hl => ?_⟩⟩
   rw [intsTo_eq]
   have e1 : Ext H (upd (upd H x (.rng 0 wi)) l (.lst ((upto wi.toNat).map V.int))) := ((Ext.refl _).new hx _).new hl _
   have hl1 : (upd (upd H x (.rng 0 wi)) l (.lst ((upto wi.toNat).map V.int))) l = some (.lst ((upto wi.toNat).map V.int)) := j4
   have lH : H l = none := (yK hl).2
   generalize upd (upd H x (.rng 0 wi)) l (.lst ((upto wi.toNat).map V.int)) = H1 at e1 hl1 ⊢
   refine ⟨(by show 0 ≤ sizeLine; exact Nat.zero_le _), fun fl H2 hfl e2 nfl => ?_⟩
   have fln : fl ≠ l := fun z => by
     subst z
     rw [hl1] at nfl
     cases nfl
   have flp : fl ≠ p := fun z => by
     subst z
     rw [e1 _ _ hp] at nfl
     cases nfl
   have lp : l ≠ p := fun z => by
     subst z
     rw [hp] at lH
     cases lH
   have flH : H fl = none := by
     cases z : H fl with
     | none => rfl
     | some o => rw [e1 _ _ z] at nfl; cases nfl
   refine ⟨_, rfl, wi, rfl, by omega, by omega, for_range (fun i σ H' => (∃ v4, σ = [some (.ref p), some (.int wi), some (.ref l), some (.ref fl), v4]) ∧ ∃ (L Fo : List Int) (N' : Int), H' l = some (.lst (L.map V.int)) ∧ H' fl = some (.lst (Fo.map V.int)) ∧ List.Perm (Fo ++ L) (upto wi.toNat) ∧ Fo.length = i ∧ H' p = some (.lst [.int N']) ∧ 0 ≤ N' ∧ Keep H H' p) ⟨⟨_, rfl⟩, upto wi.toNat, [], N, e2 _ _ hl1, hfl, List.Perm.refl _, rfl, e2 _ _ (e1 _ _ hp), hN, fun c u h _ => e2 _ _ (e1 _ _ h)⟩ ?_ ?_⟩
   · rintro i σ H3 hi ⟨⟨v4, rfl⟩, L, Fo, N3, g1, g2, g3, g4, g5, g6, g7⟩
     have gl := g3.length_eq
     rw [List.length_append, upto_len] at gl
     refine ⟨_, rfl, .inl ⟨rfl, _, SqL.of g2⟩, _, rfl, .inl ⟨rfl, _, SqL.of g1⟩, _, rfl, _, rfl, l, _, rfl, .inl (SqL.of g1), p, N3, _, rfl, g5, g6, by rw [List.length_map]; omega, by rw [List.length_map]; omega, fun N4 r a1 a2 a3 => ?_⟩
     rw [List.length_map] at a3
     have hr4 : r.toNat < L.length := by omega
     have hy : L[r.toNat]? = some L[r.toNat] := List.getElem?_eq_getElem hr4
     generalize L[r.toNat] = y at hy
     refine ⟨l, _, r, r.toNat, .int y, rfl, rfl, by rw [jD lp]; exact g1, by omega, by omega, ?_, by rw [List.getElem?_map, hy]; rfl, ?_⟩
     · exact PySem.StrLaws.seqIndex_nonneg a2 (by rw [List.length_map]; exact a3)
     rw [erase_map]
     refine ⟨fl, _, _, rfl, rfl, by rw [jD fln, jD flp]; exact g2, by rw [PySem.sizeLine_eq, List.length_map]; omega, ⟨_, rfl⟩, L.eraseIdx r.toNat, Fo ++ [y], N4, by rw [jD (Ne.symm fln)]; exact j4, by rw [j4, List.map_append]; rfl, ?_, by rw [List.length_append, g4]; rfl, by rw [jD (Ne.symm flp), jD (Ne.symm lp)]; exact j4, a1, fun c u h n => ?_⟩
     · refine List.Perm.trans ?_ g3
       rw [List.append_assoc]
       exact List.Perm.append_left _ (erase_perm hy)
     · rw [jD (jC h flH), jD (jC h lH), jD n]
       exact g7 c u h n
   · rintro σ H3 ⟨⟨v4, rfl⟩, L, Fo, N3, g1, g2, g3, g4, g5, g6, g7⟩
     have gl := g3.length_eq
     rw [List.length_append, upto_len] at gl
     have hL : L = [] := List.eq_nil_of_length_eq_zero (by omega)
     subst hL
     rw [List.append_nil] at g3
     refine ⟨_, rfl, fl, _, rfl, .inl ⟨SqL.of g2, fun t ht => ?_⟩⟩
     exact q t Fo N3 _ j4 g3 (by rw [jD (jC g5 ht)]; exact g5) g6 fun c u h n => by rw [jD (jC (g7 c u h n) ht)]; exact g7 c u h n
end
end Eo
end
section
namespace L2
open PySem PySem.Spec PyProof.Rows
section
variable {X : Cx}
theorem op_eqEL (hu : X.A.units < cLine) : OpR X (compareOp .Eq) (fun x y H Q => ∃ p q xs, x = .ref p ∧ y = .ref q ∧ H p = some (.lst xs) ∧ H q = some (.lst []) ∧ Q (.bl (decide (xs = []))) H) := by
 intro pins s σ H x y v u Q I rx ry h
 obtain ⟨p, q, xs, rfl, rfl, hp, hq, k⟩ := h
 cases rx
 cases ry
 obtain ⟨its, r1, p1, _⟩ := I.list (SqL.of hp)
 obtain ⟨its2, r2, p2, _⟩ := I.list (SqL.of hq)
 have l1 := r1.length
 have l2 : its2.length = 0 := r2.length.symm
 by_cases hl : xs = []
 · subst hl
   have l1 : its.length = 0 := r1.length.symm
   refine SeqAt.eq_listAt (e := fun _ => true) p1.isList p2.isList (by rw [List.size_toArray, List.size_toArray]; omega) hu (fun j a1 a2 => absurd a2 (by rw [List.size_toArray]; omega)) ⟨.bl _, H, I, rfl, ?_⟩
   have ez : its.toArray.size = 0 := by rw [List.size_toArray]; omega
   rw [ez]
   exact k
 · refine SeqAt.eq_list_lengthsAt p1.isList p2.isList ?_ hu ⟨.bl _, H, I, rfl, ?_⟩
   · rw [List.size_toArray, List.size_toArray]
     have : xs.length ≠ 0 := fun e => hl (List.length_eq_zero_iff.mp e)
     simp
     omega
   · rw [decide_eq_false hl] at k
     exact k
theorem op_neE (hu : X.A.units < cLine) : OpR X (compareOp .NotEq) (fun x y H Q => ∃ p q xs, x = .ref p ∧ y = .ref q ∧ SqT X.K H p xs ∧ SqT X.K H q [] ∧ Q (.bl (!decide (xs = []))) H) := by
 intro pins s σ H x y v u Q I rx ry h
 obtain ⟨p, q, xs, rfl, rfl, hp, hq, k⟩ := h
 cases rx
 cases ry
 obtain ⟨its, r, t1, _⟩ := I.tuple hp
 obtain ⟨its2, r2, t2, _⟩ := I.tuple hq
 have e2 : its2 = [] := r2.zero
 subst e2
 refine SeqAt.RcNeAt.tuples (e := fun _ => true) (show s.heap.IsTuple p its.toArray from t1) (show s.heap.IsTuple q ([] : List Value).toArray from t2) hu (fun j h1 h2 => absurd h2 (by simp)) _ _ _ _ ⟨.bl _, H, I, rfl, ?_⟩
 have hl := r.length
 have e : (!((List.range (min its.toArray.size ([] : List Value).toArray.size)).all (fun _ => true) && its.toArray.size == ([] : List Value).toArray.size)) = !decide (xs = []) := by
   cases xs with
   | nil =>
     have : its = [] := by simpa using hl.symm
     subst this
     rfl
   | cons a b =>
     have : its.length ≠ 0 := by rw [← hl]; simp
     simp [this]
 rw [e]
 exact k
def tD1 (x : Str) (i : Int) : TE := fun _ H Q => ∀ p H', H' p = some (.dK [(.inr x, .int i)]) → Ext H H' → Q (.ref p) H'
theorem je_disp1 {x : Str} {i : Int} {k1 k2 : Nat} {p1 p2 pos : Pos} : JE X (.Dict [some (.Constant (.str x) k1 p1)] [.Constant (.int i) k2 p2] pos) (tD1 x i) :=
 ⟨fun pins s σ H Q I h => pe_disp (pps_cons je_str.h je_int.h pps_nil) rfl rfl (by intro z; cases z) (by show 1 ≤ 15; decide) pins s σ H Q I fun p hp => ⟨j4, [(.inr x, .int i)], rfl, by show 1 ≤ 15; decide, h p _ j4 (((Ext.refl H).new hp _).updNew hp _)⟩⟩
theorem as_sub {o i : Expr} {pos : Pos} : AsOk (.Subscript o i pos) := ⟨fun _ _ => rfl⟩
end
end L2
end
section
namespace Eo
open PySem L2
def ifOf : Stmt → List Stmt
 | .If _ b _ _ => b
 | _ => []
section
variable {P : Program} {w : World} {K : W.Frag} {mg : Str → Option Value} {base : Heap}
variable {f fT : Addr} {fdT : FuncData} {cdv : Value} {A : Around} {outer : List Env} {s : Shared} {H0 : Hp} {E : XK}
abbrev nOther : List Str := ["pot", "box", "paper", "some", "way", "prices", "at", "papers", "less"]
theorem scOther : FnScope nOther ["pot", "box", "paper"] (j6 qH) := ⟨rfl, rfl, rfl, by decide +kernel, rfl, by decide +kernel, by decide +kernel⟩
abbrev XOth (P : Program) (w : World) (K : W.Frag) (mg : Str → Option Value) (base : Heap) (f : Addr) (cdv : Value) (A : Around) (outer : List Env) (s : Shared) (H : Hp) (E : XK) : Cx := XOf nOther "_law_other" qH P w K mg base f cdv A outer s H E
def othC (T : Txt mg) (CT : Can P w K mg base "_law_take" 1 fT fdT ["pot", "wide"] jQ) (hr : Room 1 (XOth P w K mg base f cdv A outer s H0 E).A) : { t : TS // JSs (XOth P w K mg base f cdv A outer s H0 E) ((j8 qH).drop 6) t } :=
 have nd := scOther.nd
 ⟨_, (j5 (jM (i := 7) nd rfl lL (kB call_listU gD T.list (by decide +kernel) (j0 (jB jA (jv 2 rfl vL) (je_int) j3) j2 jE) jE) jR)
     (j5 (jX (jt_w (yQ (jF xJ (jv 4 rfl vL) (je_int) (jK _)) (yY (jF (op_eqEL hr.units0) (jv 7 rfl vL) (kI j2) (jK _))))) (j9 (jI (jH (j0 (je_str) (j0 (jB kX (kI (j0 (jP kU (jB jA (jv 2 rfl vL) (je_int) j3) (je_int)) (j0 (jP op_sub (jP op_sub (je_int) (je_int)) (jB jA (jv 2 rfl vL) (je_int) j3)) (j0 (kB call_bool1 gD T.bool (by decide +kernel) (j0 (jB jA (jv 2 rfl vL) (je_int) j3) j2 jE) jE) (j0 (jB jA (jv 1 rfl vL) (je_int) j3) (j0 (kZ) j2 j7) jE) jL) jS) jS)) (jP op_mod (jv 4 rfl vL) (je_int)) px_bin) (j0 (jB jA (jv 2 rfl vL) (je_int) j3) j2 jE) jE) j7)))) jN)
     (j5 (jM (i := 6) nd rfl lL (CT.je hr gD (j0 (jv 0 rfl vL) (j0 (jG jJ gD T.len (by decide +kernel) (j0 (jv 7 rfl vL) j2 j1) j1) j2 jL) j1) j1) jR)
     (j5 (jX (jF xJ (jv 4 rfl vL) (je_int) (jK _)) (j5 (jM (i := 8) nd rfl lL (jP op_catU (je_slice sl_tupU (jB jA (jv 2 rfl vL) (je_int) j3) jo_none (jo_some (jv 6 rfl vL))) (je_slice sl_tupU (jB jA (jv 2 rfl vL) (je_int) j3) (jo_some (jP kU (jv 6 rfl vL) (je_int))) jo_none)) sw_bin)
     (j9 (jI (jH (j0 (je_str) (j0 (jB jA (jv 2 rfl vL) (je_int) j3) (j0 (jB kX (kI (j0 (jv 8 rfl vL) (j0 (jP op_catU (jB jA (jv 2 rfl vL) (je_int) j3) (je_slice sl_tupU (jB jA (jv 2 rfl vL) (je_int) j3) (jo_some (jv 6 rfl vL)) (jo_some (jP kU (jv 6 rfl vL) (je_int))))) (j0 (jv 7 rfl vL) j2 j1) jS) j1)) (jP op_mod (jv 4 rfl vL) (je_int)) px_bin) j2 jE) jE) j7))))) jN)
     (j5 (js_asg (jH (j0 (jB kX (jv 7 rfl vL) (je_int) j3) (j0 (jB kX (jv 7 rfl vL) (jv 6 rfl vL) kW) j2 jE) jE)) (jg_tup rfl (jgs_cons (jg_sub (jv 7 rfl vL) (jv 6 rfl vL) set_list) (jgs_cons (jg_sub (jv 7 rfl vL) (je_int) set_list) jgs_nil as_sub) as_sub)))
     (j9 (jI (jH (j0 (jB kX (kI (j0 (je_str) (j0 (je_str) j2 j7) j7)) (kB call_int1 gD T.int (by decide +kernel) (j0 (je_cmpR yP (jv 4 rfl vL) (je_int) (jK _)) j2 se_cmp) se_cmp) px_call) (j0 (jB jA (jv 2 rfl vL) (je_int) j3) (j0 (kB kG gD T.tuple (by decide +kernel) (j0 (jv 7 rfl vL) j2 j1) j1) j2 jL) jE) jE)))))))))⟩
def othP (T : Txt mg) (CT : Can P w K mg base "_law_take" 1 fT fdT ["pot", "wide"] jQ) (hr : Room 1 (XOth P w K mg base f cdv A outer s H0 E).A) : { t : TS // JSs (XOth P w K mg base f cdv A outer s H0 E) (ifOf ((j8 qH).getD 5 (.Pass ⟨0, 0, 0, 0⟩))) t } :=
 have nd := scOther.nd
 ⟨_, (j5 (jM (i := 5) nd rfl lL (kB call_listU gD T.list (by decide +kernel) (j0 (jB jA (jv 2 rfl vL) (je_int) j3) j2 jE) jE) jR)
     (j5 (jX (jt_w (yQ (jF (op_eqEL hr.units0) (jv 5 rfl vL) (kI j2) (jK _)) (yY (jF xJ (jv 4 rfl vL) (je_int) (jK _))))) (j9 (jI (jH (j0 (je_str) (j0 (jv 5 rfl vL) j2 j1) j7)))) jN)
     (j5 (jM (i := 6) nd rfl lL (CT.je hr gD (j0 (jv 0 rfl vL) (j0 (jG jJ gD T.len (by decide +kernel) (j0 (jv 5 rfl vL) j2 j1) j1) j2 jL) j1) j1) jR)
     (j5 (js_asg (jH (j0 (jP kU (jP yR (jB jA (jB kX (jv 5 rfl vL) (jv 6 rfl vL) kW) (je_int) j3) (je_int)) (jB kX (kI (j0 (je_int) (j0 (je_int) (j0 (je_int) j2 j7) j7) j7)) (jP op_mod (jv 4 rfl vL) (je_int)) px_bin)) (j0 (jP yR (jB jA (jB kX (jv 5 rfl vL) (jv 6 rfl vL) kW) (je_int) j3) (je_int)) j2 jS) jS)) (jg_sub (jv 5 rfl vL) (jv 6 rfl vL) set_list))
     (j9 (jI (jH (j0 (je_str) (j0 (kB kG gD T.tuple (by decide +kernel) (j0 (jv 5 rfl vL) j2 j1) j1) j2 jL) j7))))))))⟩
def othB (T : Txt mg) (CT : Can P w K mg base "_law_take" 1 fT fdT ["pot", "wide"] jQ) (hr : Room 1 (XOth P w K mg base f cdv A outer s H0 E).A) : { t : TS // JSs (XOth P w K mg base f cdv A outer s H0 E) ((j8 qH).drop 4) t } :=
 have nd := scOther.nd
 ⟨_, (j5 (jX (jF xJ (jv 4 rfl vL) (je_int) (jK _)) (j9 (jI (jB kX (jv 3 rfl vL) (jv 4 rfl vL) kW))) jN) (j5 (jX (jF yP (jB jA (jv 2 rfl vL) (je_int) j3) (je_str) (jK _)) (othP T CT hr).2 jN) (othC T CT hr).2))⟩
def othA (T : Txt mg) (CT : Can P w K mg base "_law_take" 1 fT fdT ["pot", "wide"] jQ) (hr : Room 1 (XOth P w K mg base f cdv A outer s H0 E).A) : { t : TS // JSs (XOth P w K mg base f cdv A outer s H0 E) (j8 qH) t } :=
 have nd := scOther.nd
 ⟨_, (j5 (jM (i := 3) nd rfl lL (kI (j0 (kZ) (j0 (jH j2) (j0 (je_str) (j0 (jH (j0 (je_str) j2 j7)) (j0 (kI (j0 (je_str) (j0 (jP op_repT (jH (j0 (jH (j0 (je_int) (j0 (je_int) j2 j7) j7)) j2 kO)) (jB jA (jv 1 rfl vL) (je_int) j3)) j2 jS) j7)) (j0 (jH (j0 (je_str) (j0 (je_int) j2 j7) j7)) (j0 (je_bl) (j0 (je_disp1) j2 se_dict) j7) kO) se_lst) kO) j7) kO) j7)) sw_lst) (j5 (jM (i := 3) nd rfl lL (jP op_catLU (jv 3 rfl vL) (kI (j0 (jH (j0 (je_str) (j0 (jP op_repT (jH (j0 (jH (j0 (je_int) (j0 (je_int) j2 j7) j7)) j2 kO)) (jB jA (jv 1 rfl vL) (je_int) j3)) (j0 (jH j2) j2 kO) jS) j7)) (j0 (jH (j0 (je_str) (j0 (jP op_repT (jH (j0 (jH (j0 (je_int) (j0 (je_int) j2 j7) j7)) j2 kO)) (jB jA (jv 1 rfl vL) (je_int) j3)) j2 jS) j7)) (j0 (jH (j0 (je_str) (j0 (jP op_repT (jH (j0 (je_int) j2 j7)) (jB jA (jv 1 rfl vL) (je_int) j3)) j2 jS) j7)) j2 kO) kO) kO))) sw_bin) (j5 (jM (i := 3) nd rfl lL (jP op_catLU (jv 3 rfl vL) (kI (j0 (jH (j0 (je_str) (j0 (jP op_repT (jH (j0 (jH (j0 (je_bl) (j0 (je_int) j2 j7) j7)) j2 kO)) (jB jA (jv 1 rfl vL) (je_int) j3)) j2 jS) j7)) (j0 (jH (j0 (je_str) (j0 (jP op_repT (jH (j0 (jH (j0 (je_int) (j0 (je_int) j2 j7) j7)) j2 kO)) (jP kU (jB jA (jv 1 rfl vL) (je_int) j3) (je_int))) j2 jS) j7)) (j0 (jH (j0 (je_int) (j0 (je_int) (j0 (je_int) j2 j7) j7) j7)) j2 kO) kO) kO))) sw_bin) (j5 (jM (i := 4) nd rfl lL (CT.je hr gD (j0 (jv 0 rfl vL) (j0 (je_int) j2 j7) j1) j1) jR) (othB T CT hr).2))))⟩
end
end Eo
end
section
namespace Eo
open PySem L2
theorem Alls.ats {H : Hp} : ∀ {us : List V}, Alls H us → ∃ os, Ats H os us
 | [], _ => ⟨[], ats0 _⟩
 | u :: us, h => by
   obtain ⟨o, ho⟩ := h u (List.mem_cons_self ..)
   obtain ⟨os, hos⟩ := Alls.ats (us := us) fun v hv => h v (List.mem_cons_of_mem _ hv)
   exact ⟨o :: os, ats1 ho hos⟩
theorem Alls.tup {H : Hp} {a : Addr} {us : List V} (h : Alls H us) (ha : H a = some (.tup us)) (n : us.length ≤ 100) : ∃ os, At H (.tup os) (.ref a) := by
 obtain ⟨os, hos⟩ := h.ats
 exact ⟨os, qD ha n hos⟩
theorem FrsAt.tup {H : Hp} {a : Addr} {xs : List V} {frs : List (Int × Int)} (h : FrsAt H xs frs) (ha : H a = some (.tup xs)) (n : xs.length ≤ 100) : At H (.tup (frs.map frO)) (.ref a) := qD ha n h.ats
def Fin (wi : Int) (ms : List Int) (pcs : List (List Int × Int)) (d : Nat) (H : Hp) (v : V) : Prop := Any wi ms pcs d H v ∧ ∃ o, At H o v
section
variable {wi : Int} {ms : List Int} {pcs : List (List Int × Int)} {d : Nat} {H : Hp}
theorem Fin.mono {H' : Hp} {v : V} (h : Fin wi ms pcs d H v) (k : Kp H H') : Fin wi ms pcs d H' v := ⟨h.1.mono k, let ⟨o, q⟩ := h.2; ⟨o, At.mono k _ _ q⟩⟩
theorem fin_oth {v : V} (h : At H .oth v) : Fin wi ms pcs d H v := ⟨any_oth h rfl, .oth, h⟩
theorem fin_odd {a : Addr} {xs : List V} (h : H a = some (.tup xs)) (n : xs.length ≤ 100) (al : Alls H xs) (o : OddW xs) : Fin wi ms pcs d H (.ref a) := ⟨any_odd h o, let ⟨os, q⟩ := al.tup h n; ⟨_, q⟩⟩
theorem fin_price {a : Addr} {u : V} {o : Ob} (h : H a = some (.tup [.str "price", u])) (hu : At H o u) (p : prB wi o = false) : Fin wi ms pcs d H (.ref a) := ⟨any_price h hu p, _, qD h (by show 2 ≤ 100; decide) (ats1 (at_str H _) (ats1 hu (ats0 _)))⟩
theorem fin_frs {a c : Addr} {xs : List V} {frs : List (Int × Int)} (h : H a = some (.tup [.str "price", .ref c])) (hc : H c = some (.tup xs)) (hF : FrsAt H xs frs) (hl : frs.length = wi.toNat) (hn : frs.length ≤ 100) (hs : ∀ p ∈ frs, qO p) : Fin wi ms pcs d H (.ref a) := by
 have xl := hF.len
 have hA := hF.tup hc (by omega)
 refine ⟨?_, _, qD h (by show 2 ≤ 100; decide) (ats1 (at_str H _) (ats1 hA (ats0 _)))⟩
 cases hf : (frs.map frO).all kP with
 | false =>
   refine any_price h hA ?_
   show (decide ((frs.map frO).length = wi.toNat) && (frs.map frO).all kP) = false
   rw [hf, Bool.and_false]
 | true =>
   refine any_good h hc hF ⟨hl, hs, fun p hp => ?_⟩
   have := List.all_eq_true.mp hf (frO p) (List.mem_map.mpr ⟨p, hp, rfl⟩)
   have : (decide (1 ≤ p.2) && decide (Int.gcd p.1 p.2 = 1)) = true := this
   exact of_decide_eq_true (Bool.and_eq_true_iff.mp this).2
theorem fin_part {a : Addr} {x u : V} {o o2 : Ob} (h : H a = some (.tup [.str "part", x, u])) (hx : At H o x) (hu : At H o2 u) (hs : ∀ q us, u = .ref q → H q = some (.tup us) → ∀ z ∈ us, Any wi ms pcs d H z) : Fin wi ms pcs (d + 1) H (.ref a) :=
 ⟨any_part h hx hu hs, _, qD h (by show 3 ≤ 100; decide) (ats1 (at_str H _) (ats1 hx (ats1 hu (ats0 _))))⟩
theorem fin_tup {a q : Addr} {x : V} {o : Ob} {us : List V} (h : H a = some (.tup [.str "part", x, .ref q])) (hx : At H o x) (hq : H q = some (.tup us)) (n : us.length ≤ 100) (hs : ∀ z ∈ us, Fin wi ms pcs d H z) : Fin wi ms pcs (d + 1) H (.ref a) := by
 obtain ⟨os, hA⟩ := Alls.tup (H := H) (us := us) (fun z hz => (hs z hz).2) hq n
 refine fin_part h hx hA fun q' us' e hq' z hz => ?_
 cases e
 rw [hq] at hq'
 cases hq'
 exact (hs z hz).1
end
theorem GP.fin {wi : Int} {ms : List Int} {pcs : List (List Int × Int)} {H : Hp} (w1 : wi ≤ 16) : ∀ {d : Nat} {v : V}, GP wi d H v → Fin wi ms pcs d H v := by
 have base : ∀ {d : Nat} {v : V}, GP0 wi H v → Fin wi ms pcs d H v := fun {d v} h => by
   obtain ⟨a, c, xs, frs, rfl, h1, h2, h3, h4, h5⟩ := h
   have := h4.len
   exact fin_frs h1 h2 h3 h4.len (by omega) h4.sm
 intro d
 induction d with
 | zero => exact fun h => base h
 | succ d ih =>
   intro v h
   rcases h with h | ⟨a, t, q, us, rfl, h1, h2, h3, h4, h5, h6⟩
   · exact base h
   · exact fin_tup h1 (yI H t) h2 (by omega) fun z hz => ih (h6 z hz)
theorem FrsAt.set {H : Hp} {v : V} {p : Int × Int} (hv : FrAt H v p) : ∀ {vs : List V} {ps : List (Int × Int)} {k : Nat}, FrsAt H vs ps → FrsAt H (vs.set k v) (ps.set k p)
 | [], [], k, h => h
 | x :: vs, q :: ps, 0, h => ⟨hv, h.2⟩
 | x :: vs, q :: ps, k + 1, h => ⟨h.1, FrsAt.set hv h.2⟩
 | [], _ :: _, _, h => h.elim
 | _ :: _, [], _, h => h.elim
theorem ixN_in {n : Nat} {i : Int} (h0 : 0 ≤ i) (h1 : i < n) : ixN n i = some i.toNat := by
 unfold ixN
 rw [if_pos h0, if_pos h1]
theorem atI_in {α : Type} {xs : List α} {i : Int} (h0 : 0 ≤ i) (h1 : i < xs.length) : ∃ v, xs[i.toNat]? = some v ∧ atI xs i = some v := by
 have hi : i.toNat < xs.length := by omega
 refine ⟨xs[i.toNat], List.getElem?_eq_getElem hi, ?_⟩
 unfold atI
 rw [ixN_in h0 h1]
 exact List.getElem?_eq_getElem hi
theorem at_three {wy : Int} : ∃ z : Int, atI [V.int 0, V.int 1, V.int 2] (wy % 3) = some (.int z) ∧ 0 ≤ z ∧ z ≤ 2 := by
 have h : wy % 3 = 0 ∨ wy % 3 = 1 ∨ wy % 3 = 2 := by omega
 rcases h with h | h | h <;> rw [h] <;> exact ⟨_, rfl, by decide, by decide⟩
section
variable {P : Program} {w : World} {K : W.Frag} {mg : Str → Option Value} {base : Heap}
variable {f fT : Addr} {fdT : FuncData} {cdv : Value} {A : Around} {outer : List Env} {s : Shared} {H0 : Hp} {E : XK}
theorem othP_read (T : Txt mg) (CT : Can P w K mg base "_law_take" 1 fT fdT ["pot", "wide"] jQ) (hr : Room 1 (XOth P w K mg base f cdv A outer s H0 E).A)
   {D : Ends} {H : Hp} {p b a l c : Addr} {N wi wy : Int} {ms : List Int} {pcs : List (List Int × Int)} {d : Nat} {xs : List V} {frs : List (Int × Int)} (hp : H p = some (.lst [.int N])) (hN : 0 ≤ N) (g : Good 16 11 wi ms pcs)
   (ha : H a = some (.tup [.str "price", .ref c])) (hc : H c = some (.tup xs)) (hF : FrsAt H xs frs) (hP : Prs wi frs) (hT : ∀ q ∈ frs, TightF q) (wy0 : 0 ≤ wy) (wy1 : wy < 24)
   (k : ∀ v' N' H', Fin wi ms pcs d H' v' → H' p = some (.lst [.int N']) → 0 ≤ N' → Keep H H' p → D.rt v' H') :
   (othP T CT hr).1 D [some (.ref p), some (.ref b), some (.ref a), some (.ref l), some (.int wy), none, none, none, none] H := by
 have w0 := g.w0
 have w1 := g.w1
 have fl := hP.len
 have xl := hF.len
 refine ⟨_, rfl, a, _, 1, _, rfl, rfl, SqT.of ha, rfl, c, xs, rfl, hc, fun l1 H1 hl1 e1 n1 => ?_⟩
 have fin1 : ∀ H2 : Hp, Ext H1 H2 → ∀ r H3, H3 r = some (.tup [.str "price", .ref l1]) → Ext H2 H3 → D.rt (.ref r) H3 := fun H2 e2 r H3 hr3 e3 => by
   have X3 := (e1.trans e2).trans e3
   exact k (.ref r) N H3 (fin_price hr3 (o := .oth) (.inr (.inr (.inr ⟨l1, rfl, .inl ⟨_, (e2.trans e3) _ _ hl1⟩⟩))) rfl) (X3 _ _ hp) hN fun c u h _ => X3 _ _ h
 refine ⟨_, rfl, (by show 0 ≤ sizeLine; decide), fun l2 H2 hl2 e2 _ => ⟨l1, l2, xs, rfl, rfl, e2 _ _ hl1, hl2, _, rfl, ?_⟩⟩
 have hl12 := e2 _ _ hl1
 have X2 := e1.trans e2
 by_cases hx : xs = []
 · exact yes hx ⟨_, rfl, (by show 2 ≤ sizeLine; decide), fun r H3 hr3 e3 => fin1 H2 e2 r H3 hr3 e3⟩
 · refine nay hx ?_
   refine ⟨_, rfl, _, _, rfl, rfl, _, rfl, ?_⟩
   by_cases hw : wy < 17
   · exact yes hw ⟨_, rfl, (by show 2 ≤ sizeLine; decide), fun r H3 hr3 e3 => fin1 H2 e2 r H3 hr3 e3⟩
   · refine nay hw ?_
     have hp2 := X2 _ _ hp
     have lp : l1 ≠ p := fun z => by
       subst z
       rw [hp] at n1
       cases n1
     have xp : 0 < xs.length := by
       cases xs with
       | nil => exact absurd rfl hx
       | cons => exact Nat.succ_pos _
     refine ⟨_, rfl, _, rfl, l1, _, rfl, .inl (SqL.of hl12), p, N, _, rfl, hp2, hN, by omega, by omega, fun N3 r3 a1 a2 a3 => ?_⟩
     have k3 : Keep H2 (upd H2 p (.lst [.int N3])) p := (Keep.refl _ _).upd _
     have hp3 : (upd H2 p (.lst [.int N3])) p = some (.lst [.int N3]) := j4
     have hl3 := k3 _ _ hl12 lp
     have T3 : Tups H (upd H2 p (.lst [.int N3])) := X2.tups.trans (k3.tups hp2)
     generalize upd H2 p (.lst [.int N3]) = H3 at k3 hp3 hl3 T3 ⊢
     obtain ⟨u, hu, hat⟩ := atI_in (xs := xs) a2 a3
     obtain ⟨q, hq, c0, rfl, hc0⟩ := hF.at hu
     have hc3 := T3 _ _ hc0
     obtain ⟨z, hz, z0, z1⟩ := at_three (wy := wy)
     have q5 := hT q (List.mem_of_getElem? hq)
     obtain ⟨q1, q2, q3, q4⟩ := q5
     refine ⟨_, rfl, _, rfl, l1, _, r3, _, rfl, rfl, SqL.of hl3, hat, c0, _, 0, _, rfl, rfl, SqT.of hc3, rfl, _, _, rfl, rfl, .inr ⟨by decide, by decide⟩, (by show 3 ≤ sizeLine; decide), fun l4 H4 hl4 e4 _ => ?_⟩
     refine ⟨_, rfl, _, _, rfl, rfl, (by show (0 : Int) < 3; decide), l4, _, _, _, rfl, rfl, SqL.of hl4, hz, _, _, rfl, rfl, ?_⟩
     refine ⟨_, rfl, _, rfl, l1, _, r3, _, rfl, rfl, SqL.of (e4 _ _ hl3), hat, c0, _, 1, _, rfl, rfl, SqT.of (e4 _ _ hc3), rfl, _, _, rfl, rfl, .inr ⟨by decide, by decide⟩, (by show 2 ≤ sizeLine; decide), fun r5 H5 hr5 e5 => ?_⟩
     have E5 := e4.trans e5
     have hl5 := E5 _ _ hl3
     refine ⟨_, rfl, _, rfl, l1, xs, r3, r3.toNat, rfl, rfl, hl5, ixN_in a2 a3, ?_⟩
     have T6 : Tups H5 (upd H5 l1 (.lst (xs.set r3.toNat (.ref r5)))) := Tups.upd hl5 _
     have hl6 : (upd H5 l1 (.lst (xs.set r3.toNat (.ref r5)))) l1 = some (.lst (xs.set r3.toNat (.ref r5))) := j4
     have o6 : ∀ c u, H c = some u → c ≠ p → (upd H5 l1 (.lst (xs.set r3.toNat (.ref r5)))) c = some u := fun c u h n => by
       rw [jD (jC h n1)]
       exact E5 _ _ (k3 _ _ (X2 _ _ h) n)
     have p6 : (upd H5 l1 (.lst (xs.set r3.toNat (.ref r5)))) p = some (.lst [.int N3]) := by
       rw [jD (Ne.symm lp)]
       exact E5 _ _ hp3
     generalize upd H5 l1 (.lst (xs.set r3.toNat (.ref r5))) = H6 at T6 hl6 o6 p6 ⊢
     refine ⟨_, rfl, l1, _, rfl, .inl ⟨SqL.of hl6, fun t7 ht7 => ?_⟩⟩
     have e7 : Ext H6 (upd H6 t7 (.tup (xs.set r3.toNat (.ref r5)))) := (Ext.refl _).new ht7 _
     have h7 : (upd H6 t7 (.tup (xs.set r3.toNat (.ref r5)))) t7 = some (.tup (xs.set r3.toNat (.ref r5))) := j4
     generalize upd H6 t7 (.tup (xs.set r3.toNat (.ref r5))) = H7 at e7 h7 ⊢
     refine ⟨(by show 2 ≤ sizeLine; decide), fun r8 H8 hr8 e8 => ?_⟩
     have e78 := e7.trans e8
     have T58 : Tups H5 H8 := T6.trans e78.tups
     refine k (.ref r8) N3 H8 ?_ (e78 _ _ p6) a1 fun c u h n => e78 _ _ (o6 c u h n)
     refine fin_frs (frs := frs.set r3.toNat (q.1 * 2 + z, q.2 * 2)) hr8 (e8 _ _ h7) (FrsAt.set ⟨r5, rfl, T58 _ _ hr5⟩ (hF.mono ((T3.trans E5.tups).trans T58))) (by rw [List.length_set]; exact fl) (by rw [List.length_set]; omega) fun y hy => ?_
     rcases List.mem_or_eq_of_mem_set hy with hy | rfl
     · exact (hT y hy).sm
     · exact ⟨by show _ < q.1 * 2 + z; omega, by show q.1 * 2 + z < _; omega, by show 0 < q.2 * 2; omega, by show q.2 * 2 < _; omega⟩
end
end Eo
end
section
namespace Eo
open PySem L2
theorem cut_mem {xs : List V} {lo hi : Option Int} {z : V} (h : z ∈ cutV xs lo hi) : z ∈ xs := by
 unfold cutV at h
 exact List.mem_of_mem_drop (List.mem_of_mem_take h)
theorem at_five {wy t wi : Int} {b : Bool} : ∃ x : V, atI [V.int (t + 1), V.int (0 - 1 - t), V.bl b, V.int wi, V.non] (wy % 5) = some x ∧ ∀ H, ∃ o, At H o x := by
 have h : wy % 5 = 0 ∨ wy % 5 = 1 ∨ wy % 5 = 2 ∨ wy % 5 = 3 ∨ wy % 5 = 4 := by omega
 rcases h with h | h | h | h | h <;> rw [h]
 · exact ⟨_, rfl, fun H => ⟨_, yI H _⟩⟩
 · exact ⟨_, rfl, fun H => ⟨_, yI H _⟩⟩
 · exact ⟨_, rfl, fun H => ⟨_, at_bl H _⟩⟩
 · exact ⟨_, rfl, fun H => ⟨_, yI H _⟩⟩
 · exact ⟨_, rfl, fun H => ⟨_, at_non H⟩⟩
theorem at_3 {wy : Int} {x y z : V} : ∃ u : V, atI [x, y, z] (wy % 3) = some u ∧ (u = x ∨ u = y ∨ u = z) := by
 have h : wy % 3 = 0 ∨ wy % 3 = 1 ∨ wy % 3 = 2 := by omega
 rcases h with h | h | h <;> rw [h]
 · exact ⟨_, rfl, .inl rfl⟩
 · exact ⟨_, rfl, .inr (.inl rfl)⟩
 · exact ⟨_, rfl, .inr (.inr rfl)⟩
section
variable {P : Program} {w : World} {K : W.Frag} {mg : Str → Option Value} {base : Heap}
variable {f fT : Addr} {fdT : FuncData} {cdv : Value} {A : Around} {outer : List Env} {s : Shared} {H0 : Hp} {E : XK}
theorem othC_read (T : Txt mg) (CT : Can P w K mg base "_law_take" 1 fT fdT ["pot", "wide"] jQ) (hr : Room 1 (XOth P w K mg base f cdv A outer s H0 E).A)
   {D : Ends} {H : Hp} {p b a l q : Addr} {N wi wy t : Int} {ms : List Int} {pcs : List (List Int × Int)} {d : Nat} {us : List V} (hp : H p = some (.lst [.int N])) (hN : 0 ≤ N) (hB : BoxAt H b wi ms pcs) (g : Good 16 11 wi ms pcs)
   (ha : H a = some (.tup [.str "part", .int t, .ref q])) (hq : H q = some (.tup us)) (ul : us.length ≤ 12) (hG : ∀ u ∈ us, GP wi d H u) (wy0 : 0 ≤ wy) (wy1 : wy < 24)
   (k : ∀ v' N' H', Fin wi ms pcs (d + 1) H' v' → H' p = some (.lst [.int N']) → 0 ≤ N' → Keep H H' p → D.rt v' H') :
   (othC T CT hr).1 D [some (.ref p), some (.ref b), some (.ref a), some (.ref l), some (.int wy), none, none, none, none] H := by
 obtain ⟨qm, qp, ps, b1, b2, b3, b4⟩ := hB.ex
 have w0 := g.w0
 have w1 := g.w1
 have kid : ∀ {H' : Hp}, Tups H H' → ∀ z ∈ us, Fin wi ms pcs d H' z := fun {H'} t z hz => ((hG z hz).mono t).fin g.w1
 refine ⟨_, rfl, a, _, 2, _, rfl, rfl, SqT.of ha, rfl, q, us, rfl, hq, fun l1 H1 hl1 e1 n1 => ?_⟩
 have ret7 : ∀ (H2 : Hp), Ext H1 H2 → ∀ (x : V), (∀ H, ∃ o, At H o x) → ∀ r H4, H4 r = some (.tup [.str "part", x, .ref q]) → Ext H2 H4 → D.rt (.ref r) H4 := fun H2 e2 x hx r H4 hr4 e4 => by
   have X4 := (e1.trans e2).trans e4
   obtain ⟨o, ho⟩ := hx H4
   exact k (.ref r) N H4 (fin_tup hr4 ho (X4 _ _ hq) (by omega) (kid X4.tups)) (X4 _ _ hp) hN fun c u h _ => X4 _ _ h
 obtain ⟨x7, hat7, hx7⟩ := at_five (wy := wy) (t := t) (wi := wi) (b := (t != 0))
 refine ⟨_, rfl, _, _, rfl, rfl, _, rfl, ?_⟩
 by_cases hw : wy < 17
 · refine yes hw ?_
   refine ⟨_, rfl, a, _, 1, _, rfl, rfl, SqT.of (e1 _ _ ha), rfl, _, _, rfl, rfl, _, _, rfl, rfl, _, rfl, a, _, 1, _, rfl, rfl, SqT.of (e1 _ _ ha), rfl, _, _, rfl, rfl, _, rfl, a, _, 1, _, rfl, rfl, SqT.of (e1 _ _ ha), rfl, .inl ⟨t, rfl, _, rfl, b, _, 0, _, rfl, rfl, SqT.of (e1 _ _ b1), rfl, (by show 5 ≤ sizeLine; decide), fun l3 H3 hl3 e3 _ => ?_⟩⟩
   refine ⟨_, rfl, _, _, rfl, rfl, (by show (0 : Int) < 5; decide), l3, _, _, _, rfl, rfl, SqL.of hl3, hat7, ?_⟩
   exact ⟨_, rfl, a, _, 2, _, rfl, rfl, SqT.of (e3 _ _ (e1 _ _ ha)), rfl, (by show 3 ≤ sizeLine; decide), fun r H4 hr4 e4 => ret7 H3 e3 x7 hx7 r H4 hr4 e4⟩
 · refine nay hw ?_
   refine ⟨_, rfl, (by show 0 ≤ sizeLine; decide), fun l2 H2 hl2 e2 _ => ⟨l1, l2, us, rfl, rfl, e2 _ _ hl1, hl2, _, rfl, ?_⟩⟩
   have X2 := e1.trans e2
   by_cases hu : us = []
   · refine yes hu ?_
     refine ⟨_, rfl, a, _, 1, _, rfl, rfl, SqT.of (X2 _ _ ha), rfl, _, _, rfl, rfl, _, _, rfl, rfl, _, rfl, a, _, 1, _, rfl, rfl, SqT.of (X2 _ _ ha), rfl, _, _, rfl, rfl, _, rfl, a, _, 1, _, rfl, rfl, SqT.of (X2 _ _ ha), rfl, .inl ⟨t, rfl, _, rfl, b, _, 0, _, rfl, rfl, SqT.of (X2 _ _ b1), rfl, (by show 5 ≤ sizeLine; decide), fun l3 H3 hl3 e3 _ => ?_⟩⟩
     refine ⟨_, rfl, _, _, rfl, rfl, (by show (0 : Int) < 5; decide), l3, _, _, _, rfl, rfl, SqL.of hl3, hat7, ?_⟩
     exact ⟨_, rfl, a, _, 2, _, rfl, rfl, SqT.of (e3 _ _ (X2 _ _ ha)), rfl, (by show 3 ≤ sizeLine; decide), fun r H4 hr4 e4 => ret7 H3 (e2.trans e3) x7 hx7 r H4 hr4 e4⟩
   · refine nay hu ?_
     have hl12 := e2 _ _ hl1
     have hp2 := X2 _ _ hp
     have lp : l1 ≠ p := fun z => by
       subst z
       rw [hp] at n1
       cases n1
     have up : 0 < us.length := by
       cases us with
       | nil => exact absurd rfl hu
       | cons => exact Nat.succ_pos _
     refine ⟨_, rfl, _, rfl, l1, _, rfl, .inl (SqL.of hl12), p, N, _, rfl, hp2, hN, by omega, by omega, fun N3 r3 a1 a2 a3 => ?_⟩
     have k3 : Keep H2 (upd H2 p (.lst [.int N3])) p := (Keep.refl _ _).upd _
     have hp3 : (upd H2 p (.lst [.int N3])) p = some (.lst [.int N3]) := j4
     have hl3 := k3 _ _ hl12 lp
     have T3 : Tups H (upd H2 p (.lst [.int N3])) := X2.tups.trans (k3.tups hp2)
     have K3 : Keep H (upd H2 p (.lst [.int N3])) p := fun c u h n => k3 _ _ (X2 _ _ h) n
     generalize upd H2 p (.lst [.int N3]) = H3 at k3 hp3 hl3 T3 K3 ⊢
     have ha3 := T3 _ _ ha
     have hq3 := T3 _ _ hq
     obtain ⟨j, rfl⟩ : ∃ j : Nat, r3 = (j : Int) := ⟨r3.toNat, by omega⟩
     refine ⟨_, rfl, _, _, rfl, rfl, _, rfl, ?_⟩
     by_cases hw2 : wy < 20
     · refine yes hw2 ?_
       refine ⟨_, rfl, a, _, 2, _, rfl, rfl, SqT.of ha3, rfl, _, rfl, j, rfl, q, us, rfl, hq3, fun r5 H5 y5 x5 => ?_⟩
       refine ⟨_, rfl, a, _, 2, _, rfl, rfl, SqT.of (x5 _ _ ha3), rfl, _, rfl, _, _, rfl, rfl, _, rfl, q, us, rfl, x5 _ _ hq3, fun r6 H6 y6 x6 => ?_⟩
       have c1 := cutV_length us none (some (j : Int))
       have c2 := cutV_length us (some ((j : Int) + 1)) none
       refine ⟨r5, r6, _, _, rfl, rfl, x6 _ _ y5, y6, (by rw [PySem.sizeLine_eq]; omega), fun rl H7 y7 x7 => ?_⟩
       have E7 := (x5.trans x6).trans x7
       refine ⟨_, rfl, a, _, 1, _, rfl, rfl, SqT.of (E7 _ _ ha3), rfl, ?_⟩
       refine ⟨_, rfl, _, rfl, a, _, 2, _, rfl, rfl, SqT.of (E7 _ _ ha3), rfl, ?_⟩
       refine ⟨_, rfl, a, _, 2, _, rfl, rfl, SqT.of (E7 _ _ ha3), rfl, _, rfl, j, rfl, _, rfl, _, _, rfl, rfl, _, rfl, q, us, rfl, E7 _ _ hq3, fun r8 H8 y8 x8 => ?_⟩
       have c3 := cutV_length us (some (j : Int)) (some ((j : Int) + 1))
       refine ⟨q, r8, _, _, rfl, rfl, x8 _ _ (E7 _ _ hq3), y8, (by rw [PySem.sizeLine_eq]; omega), fun rm H9 y9 x9 => ?_⟩
       have E9 := (E7.trans x8).trans x9
       refine ⟨_, rfl, (by show 3 ≤ sizeLine; decide), fun l4 H10 hl4 e10 _ => ?_⟩
       obtain ⟨x, hat, hx⟩ := at_3 (wy := wy) (x := .ref rl) (y := .ref rm) (z := .ref l1)
       refine ⟨_, rfl, _, _, rfl, rfl, (by show (0 : Int) < 3; decide), l4, _, _, _, rfl, rfl, SqL.of hl4, hat, (by show 3 ≤ sizeLine; decide), fun r H11 hr11 e11 => ?_⟩
       have E11 := (E9.trans e10).trans e11
       have T11 : Tups H H11 := T3.trans E11.tups
       refine k (.ref r) N3 H11 ?_ (E11 _ _ hp3) a1 fun c u h n => E11 _ _ (K3 c u h n)
       have e79 := (x8.trans x9).trans (e10.trans e11)
       rcases hx with rfl | rfl | rfl
       · refine fin_tup hr11 (yI _ t) (e79 _ _ y7) (by rw [List.length_append]; omega) fun z hz => ?_
         rcases List.mem_append.mp hz with hz | hz
         · exact kid T11 z (cut_mem hz)
         · exact kid T11 z (cut_mem hz)
       · refine fin_tup hr11 (yI _ t) ((e10.trans e11) _ _ y9) (by rw [List.length_append]; omega) fun z hz => ?_
         rcases List.mem_append.mp hz with hz | hz
         · exact kid T11 z hz
         · exact kid T11 z (cut_mem hz)
       · have hl11 := E11 _ _ hl3
         refine fin_part hr11 (yI _ t) (o2 := .oth) (.inr (.inr (.inr ⟨l1, rfl, .inl ⟨_, hl11⟩⟩))) fun q' us' e hq' => ?_
         cases e
         rw [hl11] at hq'
         cases hq'
     · refine nay hw2 ?_
       obtain ⟨v0, h0, hat0⟩ := atI_in (xs := us) (i := 0) (by decide) (by omega)
       obtain ⟨vj, hj, hatj⟩ := atI_in (xs := us) (i := (j : Int)) a2 a3
       refine ⟨_, rfl, l1, us, 0, _, rfl, rfl, SqL.of hl3, hat0, _, rfl, _, rfl, l1, us, _, _, rfl, rfl, SqL.of hl3, hatj, (by show 2 ≤ sizeLine; decide), fun T5 H5 h5 e5 => ?_⟩
       have hl5 := e5 _ _ hl3
       refine ⟨T5, _, rfl, SqT.of h5, rfl, _, _, rfl, _, rfl, _, rfl, l1, us, _, _, rfl, rfl, hl5, ixN_in a2 a3, ?_⟩
       have T6 : Tups H5 (upd H5 l1 (.lst (us.set (j : Int).toNat v0))) := Tups.upd hl5 _
       have hl6 : (upd H5 l1 (.lst (us.set (j : Int).toNat v0))) l1 = some (.lst (us.set (j : Int).toNat v0)) := j4
       have o6 : ∀ c u, H5 c = some u → c ≠ l1 → (upd H5 l1 (.lst (us.set (j : Int).toNat v0))) c = some u := fun c u h n => by
         rw [jD n]
         exact h
       generalize upd H5 l1 (.lst (us.set (j : Int).toNat v0)) = H6 at T6 hl6 o6 ⊢
       refine ⟨_, _, rfl, _, rfl, l1, _, 0, 0, rfl, rfl, hl6, ixN_in (by decide) (by rw [List.length_set]; omega), ?_⟩
       generalize hus : (us.set (j : Int).toNat v0).set 0 vj = us2
       have T7 : Tups H6 (upd H6 l1 (.lst us2)) := Tups.upd hl6 _
       have hl7 : (upd H6 l1 (.lst us2)) l1 = some (.lst us2) := j4
       have o7 : ∀ c u, H c = some u → c ≠ p → (upd H6 l1 (.lst us2)) c = some u := fun c u h n => by
         have n1' : c ≠ l1 := jC h n1
         rw [jD n1']
         exact o6 _ _ (e5 _ _ (K3 c u h n)) n1'
       have p7 : (upd H6 l1 (.lst us2)) p = some (.lst [.int N3]) := by
         rw [jD (Ne.symm lp)]
         exact o6 _ _ (e5 _ _ hp3) (Ne.symm lp)
       have T37 : Tups H (upd H6 l1 (.lst us2)) := (T3.trans e5.tups).trans (T6.trans T7)
       generalize upd H6 l1 (.lst us2) = H7 at T7 hl7 o7 p7 T37 ⊢
       have in2 : ∀ z ∈ us2, z ∈ us := fun z hz => by
         rw [← hus] at hz
         rcases List.mem_or_eq_of_mem_set hz with hz | rfl
         · rcases List.mem_or_eq_of_mem_set hz with hz | rfl
           · exact hz
           · exact List.mem_of_getElem? h0
         · exact List.mem_of_getElem? hj
       have l2' : us2.length = us.length := by rw [← hus, List.length_set, List.length_set]
       refine ⟨rfl, ?_⟩
       refine ⟨(by show 2 ≤ sizeLine; decide), fun l8 H8 hl8 e8 _ => ?_⟩
       have hsel : ∃ y : Str, atI [V.str "part", V.str "parts"] (if decide (V.int wy = V.int 23) = true then 1 else 0) = some (.str y) ∧ (y = "part" ∨ y = "parts") := by
         by_cases h23 : V.int wy = V.int 23
         · rw [decide_eq_true h23]
           exact ⟨_, rfl, .inr rfl⟩
         · rw [decide_eq_false h23]
           exact ⟨_, rfl, .inl rfl⟩
       obtain ⟨y, haty, hy⟩ := hsel
       refine ⟨_, rfl, rfl, .inr ⟨_, rfl, l8, _, _, _, rfl, rfl, SqL.of hl8, haty, ?_⟩⟩
       refine ⟨_, rfl, a, _, 1, _, rfl, rfl, SqT.of (e8 _ _ (T37 _ _ ha)), rfl, ?_⟩
       refine ⟨_, rfl, l1, _, rfl, .inl ⟨SqL.of (e8 _ _ hl7), fun t9 ht9 => ?_⟩⟩
       have e9 : Ext H8 (upd H8 t9 (.tup us2)) := (Ext.refl _).new ht9 _
       have h9 : (upd H8 t9 (.tup us2)) t9 = some (.tup us2) := j4
       generalize upd H8 t9 (.tup us2) = H9 at e9 h9 ⊢
       refine ⟨(by show 3 ≤ sizeLine; decide), fun r H10 hr10 e10 => ?_⟩
       have E10 := (e8.trans e9).trans e10
       have T10 : Tups H H10 := T37.trans E10.tups
       refine k (.ref r) N3 H10 ?_ (E10 _ _ p7) a1 fun c u h n => E10 _ _ (o7 c u h n)
       rcases hy with rfl | rfl
       · exact fin_tup hr10 (yI _ t) (e10 _ _ h9) (by omega) fun z hz => kid T10 z (in2 z hz)
       · obtain ⟨os, hA⟩ := Alls.tup (H := H10) (us := us2) (fun z hz => (kid T10 z (in2 z hz)).2) (e10 _ _ h9) (by omega)
         refine fin_odd hr10 (by show 3 ≤ 100; decide) (Alls.cons (at_str H10 _) (Alls.cons (yI H10 t) (Alls.cons hA (Alls.nil _)))) (.inr ⟨_, _, rfl, .inl ⟨_, rfl⟩, fun z => ?_, fun z => ?_⟩)
         · exact absurd z.2 (by decide +kernel)
         · exact absurd z.1 (by show ¬ 2 = 1; decide)
end
end Eo
end
section
namespace Eo
open PySem L2
def spOther (d : Nat) : Sp := fun vs H Q _ => ∃ (p b : Addr) (v : V) (N wi : Int) (ms : List Int) (pcs : List (List Int × Int)), vs = [.ref p, .ref b, v] ∧ H p = some (.lst [.int N]) ∧ 0 ≤ N ∧ BoxAt H b wi ms pcs ∧ Good 16 11 wi ms pcs ∧ GP wi d H v ∧
 ∀ v' N' H', Fin wi ms pcs d H' v' → H' p = some (.lst [.int N']) → 0 ≤ N' → Keep H H' p → Q v' H'
theorem reps_len (k : Nat) (v : V) : (List.replicate k [v]).flatten.length = k := by rw [reps_flat, List.length_replicate]
theorem fin_reps {wi : Int} {ms : List Int} {pcs : List (List Int × Int)} {d : Nat} {H : Hp} {a c : Addr} {x : V} {o : Ob} {n : Nat} (h : H a = some (.tup [.str "price", .ref c])) (hc : H c = some (.tup (List.replicate n [x]).flatten)) (hx : At H o x) (n1 : n ≤ 100) (hb : ¬ n = wi.toNat ∨ (kP o = false ∧ 0 < n) ∨ ∃ z, x = .ref z ∧ H z = some (.tup [.int 0, .int 1])) : Fin wi ms pcs d H (.ref a) := by
 rw [reps_flat] at hc
 have hA : At H (.tup (List.replicate n o)) (.ref c) := by
   refine qD hc (by rw [List.length_replicate]; exact n1) ?_
   clear hc hb n1
   induction n with
   | zero => exact ats0 _
   | succ n ih => rw [List.replicate_succ, List.replicate_succ]; exact ats1 hx ih
 rcases hb with hb | ⟨hf, hn⟩ | ⟨z, rfl, hz⟩
 · refine fin_price h hA ?_
   show (decide ((List.replicate n o).length = wi.toNat) && (List.replicate n o).all kP) = false
   rw [List.length_replicate, decide_eq_false hb, Bool.false_and]
 · refine fin_price h hA ?_
   show (decide ((List.replicate n o).length = wi.toNat) && (List.replicate n o).all kP) = false
   cases n with
   | zero => omega
   | succ n => rw [List.replicate_succ, List.all_cons, hf, Bool.false_and, Bool.and_false]
 · by_cases hn : n = wi.toNat
   · refine fin_frs h hc (frs_rep (p := (0, 1)) hz n) (by rw [List.length_replicate]; exact hn) (by rw [List.length_replicate]; exact n1) fun p hp => ?_
     rw [(List.mem_replicate.mp hp).2]
     exact ⟨by decide, by decide, by decide, by decide⟩
   · refine fin_price h hA ?_
     show (decide ((List.replicate n o).length = wi.toNat) && (List.replicate n o).all kP) = false
     rw [List.length_replicate, decide_eq_false hn, Bool.false_and]
theorem fin_reps' {wi : Int} {ms : List Int} {pcs : List (List Int × Int)} {d : Nat} {H : Hp} {a c : Addr} {x : V} {o : Ob} {n : Nat} (h : H a = some (.tup [.str "price", .ref c])) (hc : H c = some (.tup (List.replicate n [x]).flatten)) (hx : At H o x) (n1 : n ≤ 100) (hf : kP o = false) : Fin wi ms pcs d H (.ref a) := by
 cases n with
 | zero =>
   by_cases hw : (0 : Nat) = wi.toNat
   · exact fin_frs (frs := []) (xs := []) h hc trivial hw (by decide) fun p hp => by cases hp
   · exact fin_reps h hc hx n1 (.inl hw)
 | succ n => exact fin_reps h hc hx n1 (.inr (.inl ⟨hf, Nat.succ_pos _⟩))
section
variable {P : Program} {w : World} {K : W.Frag} {mg : Str → Option Value} {base : Heap}
variable {f fT : Addr} {fdT : FuncData} {cdv : Value} {A : Around} {outer : List Env} {s : Shared} {H0 : Hp} {E : XK}
set_option maxHeartbeats 2000000 in
theorem othB_read (T : Txt mg) (CT : Can P w K mg base "_law_take" 1 fT fdT ["pot", "wide"] jQ) (hr : Room 1 (XOth P w K mg base f cdv A outer s H0 E).A)
   {D : Ends} {H : Hp} {p b l : Addr} {v : V} {N wi wy : Int} {ms : List Int} {pcs : List (List Int × Int)} {d : Nat} {vs : List V} (hp : H p = some (.lst [.int N])) (hN : 0 ≤ N) (hB : BoxAt H b wi ms pcs) (g : Good 16 11 wi ms pcs)
   (hv : GP wi d H v) (hl : H l = some (.lst vs)) (vl : vs.length = 14) (hvs : ∀ z ∈ vs, Fin wi ms pcs d H z) (wy0 : 0 ≤ wy) (wy1 : wy < 24)
   (k : ∀ v' N' H', Fin wi ms pcs d H' v' → H' p = some (.lst [.int N']) → 0 ≤ N' → Keep H H' p → D.rt v' H') :
   (othB T CT hr).1 D [some (.ref p), some (.ref b), some v, some (.ref l), some (.int wy), none, none, none, none] H := by
 by_cases hw : wy < 14
 · obtain ⟨z, hz, hat⟩ := atI_in (xs := vs) wy0 (by omega)
   exact ⟨_, rfl, _, _, rfl, rfl, _, rfl, yes hw ⟨_, rfl, _, rfl, l, vs, wy, _, rfl, rfl, SqL.of hl, hat, k z N H (hvs z (List.mem_of_getElem? hz)) hp hN (Keep.refl _ _)⟩⟩
 · have price : GP0 wi H v → (othB (outer := outer) (H0 := H0) (E := E) T CT hr).1 D [some (.ref p), some (.ref b), some v, some (.ref l), some (.int wy), none, none, none, none] H := fun h => by
     obtain ⟨a, c, xs, frs, rfl, ha, hc, hF, hP, hT⟩ := h
     refine ⟨_, rfl, _, _, rfl, rfl, _, rfl, nay hw ?_⟩
     exact ⟨_, rfl, a, _, 0, _, rfl, rfl, SqT.of ha, rfl, rfl, _, rfl, yes rfl (othP_read T CT hr hp hN g ha hc hF hP hT wy0 wy1 k)⟩
   cases d with
   | zero => exact price hv
   | succ d =>
     rcases hv with h | ⟨a, t, q, us, rfl, ha, hq, t0, t1, ul, hG⟩
     · exact price h
     · exact ⟨_, rfl, _, _, rfl, rfl, _, rfl, nay hw ⟨_, rfl, a, _, 0, _, rfl, rfl, SqT.of ha, rfl, rfl, _, rfl, nay (by intro z; cases z) (othC_read T CT hr hp hN hB g ha hq ul hG wy0 wy1 k)⟩⟩
theorem othA_h (T : Txt mg) (CT : Can P w K mg base "_law_take" 1 fT fdT ["pot", "wide"] jQ) (hr : Room 1 (XOth P w K mg base f cdv A outer s H0 E).A) : PSs (XOth P w K mg base f cdv A outer s H0 E) (j8 qH) (othA (outer := outer) (H0 := H0) (E := E) T CT hr).1 := by
 have q := (othA (outer := outer) (H0 := H0) (E := E) T CT hr).2
 cases q with
 | mk h => with_reducible exact h
set_option maxHeartbeats 1000000 in
theorem ok_other {fd : FuncData} (d : Nat) (F : Fun K "_law_other" "_law_other" qH f fd) (T : Txt mg) (CT : Can P w K mg base "_law_take" 1 fT fdT ["pot", "wide"] jQ) : FnOk P w K mg base CX0 2 f fd ["pot", "box", "paper"] (spOther d) := by
 refine F.ok scOther (fun vs H Q E h => ?_) (fun cdv A outer s H vs Q E hr h => ?_)
 · obtain ⟨_, _, _, _, _, _, _, rfl, _⟩ := h
   rfl
 · obtain ⟨p, b, v, N, wi, ms, pcs, rfl, hp, hN, hB, g, hv, k⟩ := h
   obtain ⟨qm, qp, ps, b1, b2, b3, b4⟩ := hB.ex
   have w0 := g.w0
   have w1 := g.w1
   have hr' : Room 1 (XOth P w K mg base f cdv A outer s H E).A := hr
   refine ⟨(othA (outer := outer) (H0 := H) (E := E) T CT hr').1, ?_, ?_⟩
   · with_reducible exact othA_h T CT hr'
   clear hr
   rename Room 1 (XOth P w K mg base f cdv A outer s H E).A => hr
   refine ⟨(by show 0 ≤ sizeLine; decide), fun q1 H1 y1 x1 => ?_⟩
   have X1 := x1
   refine ⟨(by show 1 ≤ sizeLine; decide), fun q2 H2 y2 x2 => ?_⟩
   have X2 := X1.trans x2
   refine ⟨(by show 2 ≤ sizeLine; decide), fun q3 H3 y3 x3 => ?_⟩
   have X3 := X2.trans x3
   refine ⟨(by show 1 ≤ sizeLine; decide), fun q4 H4 y4 x4 => ?_⟩
   have X4 := X3.trans x4
   refine ⟨_, rfl, b, _, 0, _, rfl, rfl, SqT.of (X4 _ _ b1), rfl, q4, _, _, rfl, rfl, y4, by omega, by omega, (by rw [PySem.sizeLine_eq, List.length_cons, List.length_nil]; omega), fun q5 H5 y5 x5 => ?_⟩
   have X5 := X4.trans x5
   refine ⟨(by show 2 ≤ sizeLine; decide), fun q6 H6 y6 x6 _ => ?_⟩
   have X6 := X5.trans x6
   refine ⟨(by show 2 ≤ sizeLine; decide), fun q7 H7 y7 x7 => ?_⟩
   have X7 := X6.trans x7
   refine fun q8 H8 y8 x8 => ?_
   have X8 := X7.trans x8
   refine ⟨(by show 8 ≤ sizeLine; decide), fun q9 H9 y9 x9 _ => ?_⟩
   have X9 := X8.trans x9
   refine ⟨_, rfl, ?_⟩
   refine ⟨(by show 2 ≤ sizeLine; decide), fun q10 H10 y10 x10 => ?_⟩
   have X10 := X9.trans x10
   refine ⟨(by show 1 ≤ sizeLine; decide), fun q11 H11 y11 x11 => ?_⟩
   have X11 := X10.trans x11
   refine ⟨_, rfl, b, _, 0, _, rfl, rfl, SqT.of (X11 _ _ b1), rfl, q11, _, _, rfl, rfl, y11, by omega, by omega, (by rw [PySem.sizeLine_eq, List.length_cons, List.length_nil]; omega), fun q12 H12 y12 x12 => ?_⟩
   have X12 := X11.trans x12
   refine ⟨(by show 0 ≤ sizeLine; decide), fun q13 H13 y13 x13 => ?_⟩
   have X13 := X12.trans x13
   refine ⟨(by show 3 ≤ sizeLine; decide), fun q14 H14 y14 x14 => ?_⟩
   have X14 := X13.trans x14
   refine ⟨(by show 2 ≤ sizeLine; decide), fun q15 H15 y15 x15 => ?_⟩
   have X15 := X14.trans x15
   refine ⟨(by show 1 ≤ sizeLine; decide), fun q16 H16 y16 x16 => ?_⟩
   have X16 := X15.trans x16
   refine ⟨_, rfl, b, _, 0, _, rfl, rfl, SqT.of (X16 _ _ b1), rfl, q16, _, _, rfl, rfl, y16, by omega, by omega, (by rw [PySem.sizeLine_eq, List.length_cons, List.length_nil]; omega), fun q17 H17 y17 x17 => ?_⟩
   have X17 := X16.trans x17
   refine ⟨(by show 2 ≤ sizeLine; decide), fun q18 H18 y18 x18 => ?_⟩
   have X18 := X17.trans x18
   refine ⟨(by show 1 ≤ sizeLine; decide), fun q19 H19 y19 x19 => ?_⟩
   have X19 := X18.trans x19
   refine ⟨_, rfl, b, _, 0, _, rfl, rfl, SqT.of (X19 _ _ b1), rfl, q19, _, _, rfl, rfl, y19, by omega, by omega, (by rw [PySem.sizeLine_eq, List.length_cons, List.length_nil]; omega), fun q20 H20 y20 x20 => ?_⟩
   have X20 := X19.trans x20
   refine ⟨(by show 2 ≤ sizeLine; decide), fun q21 H21 y21 x21 => ?_⟩
   have X21 := X20.trans x21
   refine ⟨(by show 3 ≤ sizeLine; decide), fun q22 H22 y22 x22 _ => ?_⟩
   have X22 := X21.trans x22
   have E9_22 := ((((((((((((x10.trans x11).trans x12).trans x13).trans x14).trans x15).trans x16).trans x17).trans x18).trans x19).trans x20).trans x21).trans x22)
   refine ⟨q9, q22, _, _, rfl, rfl, E9_22 _ _ y9, y22, (by show 11 ≤ sizeLine; decide), fun q23 H23 y23 x23 _ => ?_⟩
   have X23 := X22.trans x23
   refine ⟨_, rfl, ?_⟩
   refine ⟨(by show 2 ≤ sizeLine; decide), fun q24 H24 y24 x24 => ?_⟩
   have X24 := X23.trans x24
   refine ⟨(by show 1 ≤ sizeLine; decide), fun q25 H25 y25 x25 => ?_⟩
   have X25 := X24.trans x25
   refine ⟨_, rfl, b, _, 0, _, rfl, rfl, SqT.of (X25 _ _ b1), rfl, q25, _, _, rfl, rfl, y25, by omega, by omega, (by rw [PySem.sizeLine_eq, List.length_cons, List.length_nil]; omega), fun q26 H26 y26 x26 => ?_⟩
   have X26 := X25.trans x26
   refine ⟨(by show 2 ≤ sizeLine; decide), fun q27 H27 y27 x27 => ?_⟩
   have X27 := X26.trans x27
   refine ⟨(by show 2 ≤ sizeLine; decide), fun q28 H28 y28 x28 => ?_⟩
   have X28 := X27.trans x28
   refine ⟨(by show 1 ≤ sizeLine; decide), fun q29 H29 y29 x29 => ?_⟩
   have X29 := X28.trans x29
   refine ⟨_, rfl, b, _, 0, _, rfl, rfl, SqT.of (X29 _ _ b1), rfl, _, _, rfl, rfl, q29, _, _, rfl, rfl, y29, by omega, by omega, (by rw [PySem.sizeLine_eq, List.length_cons, List.length_nil]; omega), fun q30 H30 y30 x30 => ?_⟩
   have X30 := X29.trans x30
   refine ⟨(by show 2 ≤ sizeLine; decide), fun q31 H31 y31 x31 => ?_⟩
   have X31 := X30.trans x31
   refine ⟨(by show 3 ≤ sizeLine; decide), fun q32 H32 y32 x32 => ?_⟩
   have X32 := X31.trans x32
   refine ⟨(by show 3 ≤ sizeLine; decide), fun q33 H33 y33 x33 _ => ?_⟩
   have X33 := X32.trans x33
   have E23_33 := (((((((((x24.trans x25).trans x26).trans x27).trans x28).trans x29).trans x30).trans x31).trans x32).trans x33)
   refine ⟨q23, q33, _, _, rfl, rfl, E23_33 _ _ y23, y33, (by show 14 ≤ sizeLine; decide), fun q34 H34 y34 x34 _ => ?_⟩
   have X34 := X33.trans x34
   refine ⟨_, rfl, p, N, 24, rfl, X34 _ _ hp, hN, by decide, by decide, fun N3 wy a1 a2 a3 => ?_⟩
   have Z34 := Ext.refl H34
   have Z33 := x34.trans Z34
   have Z32 := x33.trans Z33
   have Z31 := x32.trans Z32
   have Z30 := x31.trans Z31
   have Z29 := x30.trans Z30
   have Z28 := x29.trans Z29
   have Z27 := x28.trans Z28
   have Z26 := x27.trans Z27
   have Z25 := x26.trans Z26
   have Z24 := x25.trans Z25
   have Z23 := x24.trans Z24
   have Z22 := x23.trans Z23
   have Z21 := x22.trans Z22
   have Z20 := x21.trans Z21
   have Z19 := x20.trans Z20
   have Z18 := x19.trans Z19
   have Z17 := x18.trans Z18
   have Z16 := x17.trans Z17
   have Z15 := x16.trans Z16
   have Z14 := x15.trans Z15
   have Z13 := x14.trans Z14
   have Z12 := x13.trans Z13
   have Z11 := x12.trans Z12
   have Z10 := x11.trans Z11
   have Z9 := x10.trans Z10
   have Z8 := x9.trans Z9
   have Z7 := x8.trans Z8
   have Z6 := x7.trans Z7
   have Z5 := x6.trans Z6
   have Z4 := x5.trans Z5
   have Z3 := x4.trans Z4
   have Z2 := x3.trans Z3
   have Z1 := x2.trans Z2
   have rr := fun (n : Nat) (hn : n ≤ 100) => Ats.rep (ats1 (qD (Z10 _ _ y10) (by show 2 ≤ 100; decide) (ats1 (yI _ 0) (ats1 (yI _ 1) (ats0 _)))) (ats0 _)) n
   have r12 := qD (Z12 _ _ y12) (by rw [reps_len]; omega) (rr wi.toNat (by omega))
   have r13 := qD (Z13 _ _ y13) (by show 0 ≤ 100; decide) (ats0 _)
   have all : ∀ z ∈ [V.non, .ref q1, .str "price", .ref q2, .ref q6, .ref q7, .bl true, .ref q8, .ref q14, .ref q18, .ref q21, .ref q27, .ref q31, .ref q32], Fin wi ms pcs d H34 z := by
     intro z hz
     simp only [List.mem_cons, List.not_mem_nil, or_false] at hz
     rcases hz with rfl | rfl | rfl | rfl | rfl | rfl | rfl | rfl | rfl | rfl | rfl | rfl | rfl | rfl
     · exact fin_oth (at_non _)
     · exact fin_odd (Z1 _ _ y1) (by show 0 ≤ 100; decide) (Alls.nil _) (.inl rfl)
     · exact fin_oth (at_str _ _)
     · exact fin_odd (Z2 _ _ y2) (by show 1 ≤ 100; decide) (Alls.cons (at_str _ _) (Alls.nil _)) (.inr ⟨_, _, rfl, .inl ⟨_, rfl⟩, fun z => absurd z.1 (by show ¬ 0 = 2; decide), fun z => absurd z.1 (by show ¬ 0 = 1; decide)⟩)
     · exact fin_oth (.inr (.inr (.inr ⟨_, rfl, .inl ⟨_, (Z6 _ _ y6)⟩⟩)))
     · exact fin_odd (Z7 _ _ y7) (by show 2 ≤ 100; decide) (Alls.cons (at_str _ _) (Alls.cons (yI _ 0) (Alls.nil _))) (.inr ⟨_, _, rfl, .inl ⟨_, rfl⟩, fun z => absurd z.1 (by show ¬ 1 = 2; decide), fun z => absurd z.2 (by decide +kernel)⟩)
     · exact fin_oth (at_bl _ _)
     · exact fin_oth (.inr (.inr (.inr ⟨_, rfl, .inr ⟨_, (Z8 _ _ y8)⟩⟩)))
     · exact fin_odd (Z14 _ _ y14) (by show 3 ≤ 100; decide) (Alls.cons (at_str _ _) (Alls.cons r12 (Alls.cons r13 (Alls.nil _)))) (.inr ⟨_, _, rfl, .inl ⟨_, rfl⟩, fun z => absurd z.2 (by decide +kernel), fun z => absurd z.1 (by show ¬ 2 = 1; decide)⟩)
     · exact fin_reps' (Z18 _ _ y18) (Z17 _ _ y17) (qD (Z15 _ _ y15) (by show 2 ≤ 100; decide) (ats1 (yI _ 0) (ats1 (yI _ 2) (ats0 _)))) (by omega) (by decide)
     · exact fin_reps' (Z21 _ _ y21) (Z20 _ _ y20) (yI _ 0) (by omega) rfl
     · exact fin_reps' (Z27 _ _ y27) (Z26 _ _ y26) (qD (Z24 _ _ y24) (by show 2 ≤ 100; decide) (ats1 (at_bl _ false) (ats1 (yI _ 1) (ats0 _)))) (by omega) rfl
     · exact fin_reps (Z31 _ _ y31) (Z30 _ _ y30) (qD (Z28 _ _ y28) (by show 2 ≤ 100; decide) (ats1 (yI _ 0) (ats1 (yI _ 1) (ats0 _)))) (by omega) (.inl (by omega))
     · exact fin_odd (Z32 _ _ y32) (by show 3 ≤ 100; decide) (Alls.cons (yI _ 1) (Alls.cons (yI _ 2) (Alls.cons (yI _ 3) (Alls.nil _)))) (.inr ⟨_, _, rfl, .inr ⟨_, rfl⟩, fun z => absurd z.2 (by intro z; cases z), fun z => absurd z.1 (by show ¬ 2 = 1; decide)⟩)
   have kp := Kp.keep ((Keep.refl H34 p).upd (.lst [.int N3])) (X34 _ _ hp) (by exact j4)
   refine othB_read T CT hr j4 a1 (hB.mono (X34.tups.trans kp.t)) g (hv.mono (X34.tups.trans kp.t)) (l := q34) ?_ rfl (fun z hz => (all z hz).mono kp) a2 a3 fun v' N' H' hF hp' hN' kk => k v' N' H' hF hp' hN' fun c u h n => kk c u (by rw [jD n]; exact X34 _ _ h) n
   rw [jD (fun z => by rw [z] at y34; have := X34 _ _ hp; rw [y34] at this; cases this)]
   exact y34
end
end Eo
end
section
namespace Eo
open PySem L2
def yN (d : Nat) : Sp := spOther d
def spSpoiltP : Nat → Sp
 | 0 => spNo
 | d + 1 => yN d
section
variable {P : Program} {w : World} {K : W.Frag} {mg : Str → Option Value} {base : Heap}
variable {f fT fO fI : Addr} {fdT fdO fdI : FuncData} {cdv : Value} {A : Around} {outer : List Env} {s : Shared} {H0 : Hp} {E : XK}
abbrev nSpoilt : List Str := ["pot", "box", "paper", "at"]
theorem scSpoilt : FnScope nSpoilt ["pot", "box", "paper"] (j6 q0) := ⟨rfl, rfl, rfl, by decide +kernel, rfl, by decide +kernel, by decide +kernel⟩
def spoiltA {d : Nat} {sp : Sp} (T : Txt mg) (CT : Can P w K mg base "_law_take" 1 fT fdT ["pot", "wide"] jQ) (CO : Can P w K mg base "_law_other" 2 fO fdO ["pot", "box", "paper"] (spOther d)) (CI : Can P w K mg base "_law_spoilt" (d + 2) fI fdI ["pot", "box", "paper"] sp) (hr : Room (d + 2) (XOf nSpoilt "_law_spoilt" q0 P w K mg base f cdv A outer s H0 E).A) : { t : TS // JSs (XOf nSpoilt "_law_spoilt" q0 P w K mg base f cdv A outer s H0 E) (j8 q0) t } :=
 have nd := scSpoilt.nd
 ⟨_, (j5 (jX (jt_w (jw_and (jF yP (jB jA (jv 2 rfl vL) (je_int) j3) (je_str) (jK _)) (jw_and (jF (op_neE hr.units0) (jB jA (jv 2 rfl vL) (je_int) j3) (jH j2) (jK _)) (jw_and1 (jF op_gt (CT.je (hr.mono (by omega)) gD (j0 (jv 0 rfl vL) (j0 (je_int) j2 j7) j1) j1) (je_int) (jK _)))))) (j5 (jM (i := 3) nd rfl lL (CT.je (hr.mono (by omega)) gD (j0 (jv 0 rfl vL) (j0 (jG jJ gD T.len (by decide +kernel) (j0 (jB jA (jv 2 rfl vL) (je_int) j3) j2 jE) jE) j2 jL) j1) j1) jR)
     (j9 (jI (jH (j0 (je_str) (j0 (jB jA (jv 2 rfl vL) (je_int) j3) (j0 (jP op_catU (jP op_catU (je_slice sl_tupU (jB jA (jv 2 rfl vL) (je_int) j3) jo_none (jo_some (jv 3 rfl vL))) (jH (j0 (CI.je hr gD (j0 (jv 0 rfl vL) (j0 (jv 1 rfl vL) (j0 (jB jA (jB jA (jv 2 rfl vL) (je_int) j3) (jv 3 rfl vL) kW) j2 jE) j1) j1) j1) j2 jL))) (je_slice sl_tupU (jB jA (jv 2 rfl vL) (je_int) j3) (jo_some (jP kU (jv 3 rfl vL) (je_int))) jo_none)) j2 jS) jE) j7))))) jN)
     (j9 (jI (CO.je (hr.mono (by omega)) gD (j0 (jv 0 rfl vL) (j0 (jv 1 rfl vL) (j0 (jv 2 rfl vL) j2 j1) j1) j1) j1))))⟩
theorem spoilt_step {fd : FuncData} (d : Nat) (F : Fun K "_law_spoilt" "_law_spoilt" q0 f fd) (T : Txt mg) (CT : Can P w K mg base "_law_take" 1 fT fdT ["pot", "wide"] jQ) (CO : Can P w K mg base "_law_other" 2 fO fdO ["pot", "box", "paper"] (spOther d)) (CI : Can P w K mg base "_law_spoilt" (d + 2) fI fdI ["pot", "box", "paper"] (spSpoiltP d)) :
   FnOk P w K mg base CX0 (d + 3) f fd ["pot", "box", "paper"] (yN d) := by
 refine F.ok scSpoilt (fun vs H Q E h => ?_) (fun cdv A outer s H vs Q E hr h => ?_)
 · obtain ⟨_, _, _, _, _, _, _, rfl, _⟩ := h
   rfl
 · obtain ⟨p, b, v, N, wi, ms, pcs, rfl, hp, hN, hB, g, hv, k⟩ := h
   refine ⟨_, (spoiltA T CT CO CI hr).2.h, ?_⟩
   have price : GP0 wi H v → (spoiltA (outer := outer) (H0 := H) (E := E) T CT CO CI hr).1 { nx := fun x H' => Q V.non H', rt := Q } [some (.ref p), some (.ref b), some v, none] H := fun h => by
     obtain ⟨a, c, xs, frs, rfl, ha, hc, hF, hP, hT⟩ := id h
     refine ⟨_, rfl, a, _, 0, _, rfl, rfl, SqT.of ha, rfl, rfl, _, rfl, nay (by intro z; cases z) (iteF ?_)⟩
     exact ⟨_, rfl, _, rfl, _, rfl, p, b, .ref a, N, wi, ms, pcs, rfl, hp, hN, hB, g, hv, k⟩
   cases d with
   | zero => exact price hv
   | succ d =>
     rcases id hv with h | ⟨a, t, q, us, rfl, ha, hq, t0, t1, ul, hG⟩
     · exact price h
     · have kid : ∀ {H' : Hp}, Tups H H' → ∀ z ∈ us, Fin wi ms pcs d H' z := fun {H'} t z hz => ((hG z hz).mono t).fin g.w1
       refine ⟨_, rfl, a, _, 0, _, rfl, rfl, SqT.of ha, rfl, rfl, _, rfl, yes rfl ?_⟩
       refine ⟨_, rfl, a, _, 2, _, rfl, rfl, SqT.of ha, rfl, (by show 0 ≤ sizeLine; decide), fun q1 H1 y1 x1 => ⟨q, q1, us, rfl, rfl, SqT.of (x1 _ _ hq), SqT.of y1, _, rfl, ?_⟩⟩
       by_cases hu : us = []
       · refine qP hu (iteF ?_)
         exact ⟨_, rfl, _, rfl, _, rfl, p, b, .ref a, N, wi, ms, pcs, rfl, x1 _ _ hp, hN, hB.mono x1.tups, g, hv.mono x1.tups, fun v' N' H' hF hp' hN' kk => k v' N' H' hF hp' hN' fun c u h n => kk c u (x1 _ _ h) n⟩
       · refine notS hu ?_
         have hp1 := x1 _ _ hp
         refine ⟨_, rfl, p, N, 3, rfl, hp1, hN, by decide, by decide, fun N2 r2 a1 a2 a3 => ⟨_, _, rfl, rfl, _, rfl, ?_⟩⟩
         have k2 : Keep H1 (upd H1 p (.lst [.int N2])) p := (Keep.refl _ _).upd _
         have hp2 : (upd H1 p (.lst [.int N2])) p = some (.lst [.int N2]) := j4
         have T2 : Tups H (upd H1 p (.lst [.int N2])) := x1.tups.trans (k2.tups hp1)
         have K2 : Keep H (upd H1 p (.lst [.int N2])) p := fun c u h n => k2 _ _ (x1 _ _ h) n
         generalize upd H1 p (.lst [.int N2]) = H2 at k2 hp2 T2 K2 ⊢
         refine ite2 (fun _ => ?_) (fun _ => ?_)
         · have up : 0 < us.length := by
             cases us with
             | nil => exact absurd rfl hu
             | cons => exact Nat.succ_pos _
           refine ⟨_, rfl, _, rfl, a, _, 2, _, rfl, rfl, SqT.of (T2 _ _ ha), rfl, q, _, rfl, .inr (SqT.of (T2 _ _ hq)), p, N2, _, rfl, hp2, a1, by omega, by omega, fun N3 r3 c1 c2 c3 => ?_⟩
           have k3 : Keep H2 (upd H2 p (.lst [.int N3])) p := (Keep.refl _ _).upd _
           have hp3 : (upd H2 p (.lst [.int N3])) p = some (.lst [.int N3]) := j4
           have T3 : Tups H (upd H2 p (.lst [.int N3])) := T2.trans (k3.tups hp2)
           have K3 : Keep H (upd H2 p (.lst [.int N3])) p := K2.trans k3
           generalize upd H2 p (.lst [.int N3]) = H3 at k3 hp3 T3 K3 ⊢
           obtain ⟨j, rfl⟩ : ∃ j : Nat, r3 = (j : Int) := ⟨r3.toNat, by omega⟩
           obtain ⟨vj, hj, hatj⟩ := atI_in (xs := us) (i := (j : Int)) c2 c3
           refine ⟨_, rfl, a, _, 1, _, rfl, rfl, SqT.of (T3 _ _ ha), rfl, ?_⟩
           refine ⟨_, rfl, a, _, 2, _, rfl, rfl, SqT.of (T3 _ _ ha), rfl, _, rfl, j, rfl, q, us, rfl, T3 _ _ hq, fun r5 H5 y5 x5 => ?_⟩
           have t5 : Tups H H5 := T3.trans x5.tups
           refine ⟨_, rfl, _, rfl, _, rfl, a, _, 2, _, rfl, rfl, SqT.of (t5 _ _ ha), rfl, _, rfl, q, _, _, _, rfl, rfl, SqT.of (t5 _ _ hq), hatj, p, b, vj, N3, wi, ms, pcs, rfl, x5 _ _ hp3, c1, hB.mono t5, g, (hG vj (List.mem_of_getElem? hj)).mono t5, fun v6 N6 H6 hF6 hp6 n6 k6 => ?_⟩
           have t56 : Tups H5 H6 := k6.tups (x5 _ _ hp3)
           refine ⟨(by show 1 ≤ sizeLine; decide), fun r7 H7 y7 x7 => ?_⟩
           have c4 := cutV_length us none (some (j : Int))
           have c5 := cutV_length us (some ((j : Int) + 1)) none
           refine ⟨r5, r7, _, _, rfl, rfl, x7 _ _ (t56 _ _ y5), y7, (by rw [PySem.sizeLine_eq, List.length_cons, List.length_nil]; omega), fun r8 H8 y8 x8 => ?_⟩
           have t8 : Tups H H8 := ((t5.trans t56).trans x7.tups).trans x8.tups
           refine ⟨_, rfl, a, _, 2, _, rfl, rfl, SqT.of (t8 _ _ ha), rfl, _, rfl, _, _, rfl, rfl, _, rfl, q, us, rfl, t8 _ _ hq, fun r9 H9 y9 x9 => ?_⟩
           refine ⟨r8, r9, _, _, rfl, rfl, x9 _ _ y8, y9, (by rw [PySem.sizeLine_eq, List.length_append, List.length_cons, List.length_nil]; omega), fun ra Ha ya xa => ?_⟩
           refine ⟨(by show 3 ≤ sizeLine; decide), fun rb Hb yb xb => ?_⟩
           have e6b := ((x7.trans x8).trans x9).trans (xa.trans xb)
           have tb : Tups H Hb := (t5.trans t56).trans e6b.tups
           refine k (.ref rb) N6 Hb ?_ (e6b _ _ hp6) n6 fun c u h n => e6b _ _ (k6 _ _ (x5 _ _ (K3 c u h n)) n)
           refine fin_tup yb (yI _ t) (xb _ _ ya) (by rw [List.length_append, List.length_append, List.length_cons, List.length_nil]; omega) fun z hz => ?_
           rcases List.mem_append.mp hz with hz | hz
           · rcases List.mem_append.mp hz with hz | hz
             · exact kid tb z (cut_mem hz)
             · cases List.mem_singleton.mp hz
               exact hF6.mono (.of e6b)
           · exact kid tb z (cut_mem hz)
         · exact ⟨_, rfl, _, rfl, _, rfl, p, b, .ref a, N2, wi, ms, pcs, rfl, hp2, a1, hB.mono T2, g, hv.mono T2, fun v' N' H' hF hp' hN' kk => k v' N' H' hF hp' hN' fun c u h n => kk c u (K2 c u h n) n⟩
theorem ok_spoilt {fd : FuncData} (F : Fun K "_law_spoilt" "_law_spoilt" q0 f fd) (T : Txt mg) (CT : Can P w K mg base "_law_take" 1 fT fdT ["pot", "wide"] jQ) (CO : ∀ d, Can P w K mg base "_law_other" 2 fO fdO ["pot", "box", "paper"] (spOther d))
   (hm : mg "_law_spoilt" = some (.ref f)) (kp : PySem.W.keepIn K (.ref f) = true) (hb : Binds K fd ["pot", "box", "paper"] []) : ∀ d : Nat, FnOk P w K mg base CX0 (d + 3) f fd ["pot", "box", "paper"] (yN d)
 | 0 => spoilt_step 0 F T CT (CO 0) ⟨ok_no, hm, kp, hb⟩
 | d + 1 => spoilt_step (d + 1) F T CT (CO (d + 1)) ⟨ok_spoilt F T CT CO hm kp hb d, hm, kp, hb⟩
end
end Eo
end
section
namespace Eo
open PySem L2
theorem byPr_cop {mt mp wi : Int} {ms : List Int} {pcs : List (List Int × Int)} (g : Good mt mp wi ms pcs) (hw : wi ≤ 16) {frs : List (Int × Int)} (hP : Prs wi frs) {dn : Nat} {wt : Int} (h : wt.natAbs ≤ 1000000000000000) {f : Int × Int} (e : byPr wi.toNat ms pcs frs dn wt = some f) : 0 < f.2 ∧ Int.gcd f.1 f.2 = 1 := by
 have fine := byPr_fine g hw hP h e
 refine ⟨fine.1, ?_⟩
 unfold byPr at e
 split at e
 · cases e
   have ll := leftL_len (w := wi.toNat) (dn := dn)
   have lin := leftL_in (w := wi.toNat) (dn := dn)
   have fl := hP.len
   have w0 := g.w0
   have hb : ∀ t ∈ qE wi.toNat dn, 0 ≤ t ∧ t < frs.length := fun t ht => by have := lin t ht; omega
   have hs : ∀ p ∈ (wt, (1 : Int)) :: (qE wi.toNat dn).map (frAt frs), qO p := fun p hp => by
     rcases List.mem_cons.mp hp with rfl | hp
     · refine ⟨?_, ?_, by show (0 : Int) < 1; decide, by show (1 : Int) < 1048576; decide⟩
       · show _ < wt
         omega
       · show wt < _
         omega
     · exact small_map hP hb p hp
   exact nrm_cop (sum_pos _ (0, 1) (by decide) hs).1
 · cases e
theorem AG_cop {wi : Int} {ms : List Int} {pcs : List (List Int × Int)} (g : Good 16 11 wi ms pcs) {H : Hp} : ∀ {d : Nat} {v : V} {dn : Nat} {ds : List Int} {B : Int → Option (List (Int × Int))} {hv : Int} {fs : List (Int × Int)}, AG wi ms pcs d H v dn ds B → hv.natAbs + d * 1000000000000 ≤ 1000000000000000 → B hv = some fs → ∀ f ∈ fs, 0 < f.2 ∧ Int.gcd f.1 f.2 = 1 := by
 have base : ∀ {v : V} {dn : Nat} {ds : List Int} {B : Int → Option (List (Int × Int))} {hv : Int} {fs : List (Int × Int)}, AG0 wi ms pcs H v dn ds B → hv.natAbs ≤ 1000000000000000 → B hv = some fs → ∀ f ∈ fs, 0 < f.2 ∧ Int.gcd f.1 f.2 = 1 := fun {v dn ds B hv fs} h hh e f hf => by
   rcases h with ⟨a, c, xs, frs, _, _, _, _, hP, rfl⟩ | ⟨_, rfl⟩
   rotate_left
   · cases e
   have e : (byPr wi.toNat ms pcs frs dn hv).map (fun f => [f]) = some fs := e
   cases hb : byPr wi.toNat ms pcs frs dn hv with
   | none => rw [hb] at e; cases e
   | some x =>
     rw [hb] at e
     cases e
     cases List.mem_singleton.mp hf
     exact byPr_cop g g.w1 hP hh hb
 intro d
 induction d with
 | zero => exact fun {v dn ds B hv fs} h hh e => base h (by omega) e
 | succ d ih =>
   intro v dn ds B hv fs h hh e f hf
   rcases h with h | ⟨a, t, q, us, Bs, _, _, _, t0, t1, _, h6, h7, h8, rfl⟩
   · exact base h (by omega) e f hf
   · obtain ⟨l, hl, hfl⟩ := catB_mem e f hf
     rw [List.mem_map] at hl
     obtain ⟨x, hx, hxe⟩ := hl
     obtain ⟨i, i1, i2⟩ := zip_at hx
     have hi : i < us.length := by
       have := (List.getElem?_eq_some_iff.mp i1).1
       omega
     have cf := cs_fine g t0 t1 (List.mem_of_getElem? i2)
     have c1 := cf.1
     exact ih (h8 i us[i] x.2 x.1 (List.getElem?_eq_getElem hi) i2 i1) (by omega) hxe f hfl
theorem AG_frac {wi : Int} {ms : List Int} {pcs : List (List Int × Int)} (g : Good 16 11 wi ms pcs) {H : Hp} {v : V} {B : Int → Option (List (Int × Int))} (h : AG wi ms pcs 5 H v 0 [] B) : ∀ f, (B 0).map minF = some (some f) → kP (frO f) = true := fun f e => by
 cases hb : B 0 with
 | none => rw [hb] at e; cases e
 | some fs =>
   rw [hb] at e
   have e : some (minF fs) = some (some f) := e
   have em : minF fs = some f := Option.some.inj e
   obtain ⟨h1, h2⟩ := AG_cop g h (by decide) hb f (minF_in em)
   show (decide (1 ≤ f.2) && decide (Int.gcd f.1 f.2 = 1)) = true
   rw [decide_eq_true h2, decide_eq_true (show 1 ≤ f.2 by omega)]
   rfl
theorem Keep.ext {H H' : Hp} {p : Addr} {o : HO} (k : Keep (L2.upd H p o) H' p) (hp : H p = none) : Ext H H' := fun b u hb => by
 have n : b ≠ p := jC hb hp
 exact k b u (by rw [jD n]; exact hb) n
theorem Good.wide {mt mp w mt' mp' : Int} {ms : List Int} {pcs : List (List Int × Int)} (g : Good mt mp w ms pcs) (h1 : mt ≤ mt') (h2 : mp ≤ mp') : Good mt' mp' w ms pcs := ⟨g.w0, Int.le_trans g.w1 h1, g.mr, Int.le_trans g.pl h2, g.pg⟩
theorem upto_in (n : Nat) (x : Int) : x ∈ upto n ↔ 0 ≤ x ∧ x < n := by
 unfold upto
 rw [List.mem_map]
 constructor
 · rintro ⟨i, hi, rfl⟩
   have := List.mem_range.mp hi
   omega
 · rintro ⟨h0, h1⟩
   exact ⟨x.toNat, List.mem_range.mpr (by omega), by omega⟩
theorem done_no : Done 0 [] := ⟨fun n => by rw [Nat.zero_testBit]; rfl, fun t ht => by cases ht⟩
abbrev nLaw : List Str := ["script", "pot", "box", "paper", "k", "other", "one"]
theorem scLaw : FnScope nLaw ["script"] (j6 sLaw) := ⟨rfl, rfl, rfl, by decide +kernel, rfl, by decide +kernel, by decide +kernel⟩
section
variable {P : Program} {w : World} {K : W.Frag} {mg : Str → Option Value} {base : Heap}
variable {f fC fP fT fB fA fR fD fX fU fS fI : Addr} {fdC fdP fdT fdB fdA fdR fdD fdX fdU fdS fdI : FuncData} {cdv : Value} {A : Around} {outer : List Env} {s : Shared} {H0 : Hp} {E : XK}
abbrev XLaw (P : Program) (w : World) (K : W.Frag) (mg : Str → Option Value) (base : Heap) (f : Addr) (cdv : Value) (A : Around) (outer : List Env) (s : Shared) (H : Hp) (E : XK) : Cx := XOf nLaw "law" sLaw P w K mg base f cdv A outer s H E
def lawI (T : Txt mg) (CC : Can P w K mg base "_law_cell_at" 1 fC fdC ["script", "k"] (spCell K)) (CP : Can P w K mg base "_law_pot" 1 fP fdP ["cell"] spPot) (CT : Can P w K mg base "_law_take" 1 fT fdT ["pot", "wide"] jQ) (CB : Can P w K mg base "_law_box" 3 fB fdB ["pot", "most_things", "most_pieces"] spBox) (CA : Can P w K mg base "_law_paper" 7 fA fdA ["pot", "box", "done", "deep"] (yZ 3)) (CR : Can P w K mg base "_law_tree" 8 fR fdR ["order", "box", "done"] (qS 5)) (CD : Can P w K mg base "_law_order" 2 fD fdD ["pot", "wide"] spOrder) (CX : Can P w K mg base "_law_spoilt" 8 fX fdX ["pot", "box", "paper"] (yN 5)) (CU : Can P w K mg base "_law_due" 11 fU fdU ["box", "paper"] spDue) (CS : Can P w K mg base "_law_same" 3 fS fdS ["found", "due"] spSame) (CI : Can P w K mg base "shown" 16 fI fdI ["box", "paper"] spShown) (hr : Room 16 (XLaw P w K mg base f cdv A outer s H0 E).A) : { t : TS // JSs (XLaw P w K mg base f cdv A outer s H0 E) (xC ((xC ((j8 sLaw).getD 4 (.Pass ⟨0, 0, 0, 0⟩))).getD 1 (.Pass ⟨0, 0, 0, 0⟩))) t } :=
 have nd := scLaw.nd
 ⟨_, (j9 (jX (yH (kS (CS.je (hr.mono (by decide)) gD (j0 (CI.je hr gD (j0 (jv 2 rfl vL) (j0 (jv 6 rfl vL) j2 j1) j1) j1) (j0 (CU.je (hr.mono (by decide)) gD (j0 (jv 2 rfl vL) (j0 (jv 6 rfl vL) j2 j1) j1) j1) j2 jL) jL) jL) jZ)) (j9 (jI (je_bl))) jN))⟩
def lawK (T : Txt mg) (CC : Can P w K mg base "_law_cell_at" 1 fC fdC ["script", "k"] (spCell K)) (CP : Can P w K mg base "_law_pot" 1 fP fdP ["cell"] spPot) (CT : Can P w K mg base "_law_take" 1 fT fdT ["pot", "wide"] jQ) (CB : Can P w K mg base "_law_box" 3 fB fdB ["pot", "most_things", "most_pieces"] spBox) (CA : Can P w K mg base "_law_paper" 7 fA fdA ["pot", "box", "done", "deep"] (yZ 3)) (CR : Can P w K mg base "_law_tree" 8 fR fdR ["order", "box", "done"] (qS 5)) (CD : Can P w K mg base "_law_order" 2 fD fdD ["pot", "wide"] spOrder) (CX : Can P w K mg base "_law_spoilt" 8 fX fdX ["pot", "box", "paper"] (yN 5)) (CU : Can P w K mg base "_law_due" 11 fU fdU ["box", "paper"] spDue) (CS : Can P w K mg base "_law_same" 3 fS fdS ["found", "due"] spSame) (CI : Can P w K mg base "shown" 16 fI fdI ["box", "paper"] spShown) (hr : Room 16 (XLaw P w K mg base f cdv A outer s H0 E).A) : { t : TS // JSs (XLaw P w K mg base f cdv A outer s H0 E) (xC ((j8 sLaw).getD 4 (.Pass ⟨0, 0, 0, 0⟩))) t } :=
 have nd := scLaw.nd
 ⟨_, (j5 (jM (i := 5) nd rfl lL (CX.je (hr.mono (by decide)) gD (j0 (CP.je (hr.mono (by decide)) gD (j0 (CC.je (hr.mono (by decide)) gD (j0 (jv 0 rfl vL) (j0 (jv 4 rfl vL) j2 j1) j1) j1) j2 jL) jL) (j0 (jv 2 rfl vL) (j0 (jv 3 rfl vL) j2 j1) j1) jL) jL) jR) (j9 (qC PassesOwn.never rfl (qN (kI (j0 (jv 3 rfl vL) (j0 (jv 5 rfl vL) (j0 (jv 3 rfl vL) j2 j1) j1) j1))) (jT (i := 6) nd rfl lL) (lawI T CC CP CT CB CA CR CD CX CU CS CI hr).2 fo_lst)))⟩
def lawB (T : Txt mg) (CC : Can P w K mg base "_law_cell_at" 1 fC fdC ["script", "k"] (spCell K)) (CP : Can P w K mg base "_law_pot" 1 fP fdP ["cell"] spPot) (CT : Can P w K mg base "_law_take" 1 fT fdT ["pot", "wide"] jQ) (CB : Can P w K mg base "_law_box" 3 fB fdB ["pot", "most_things", "most_pieces"] spBox) (CA : Can P w K mg base "_law_paper" 7 fA fdA ["pot", "box", "done", "deep"] (yZ 3)) (CR : Can P w K mg base "_law_tree" 8 fR fdR ["order", "box", "done"] (qS 5)) (CD : Can P w K mg base "_law_order" 2 fD fdD ["pot", "wide"] spOrder) (CX : Can P w K mg base "_law_spoilt" 8 fX fdX ["pot", "box", "paper"] (yN 5)) (CU : Can P w K mg base "_law_due" 11 fU fdU ["box", "paper"] spDue) (CS : Can P w K mg base "_law_same" 3 fS fdS ["found", "due"] spSame) (CI : Can P w K mg base "shown" 16 fI fdI ["box", "paper"] spShown) (hr : Room 16 (XLaw P w K mg base f cdv A outer s H0 E).A) : { t : TS // JSs (XLaw P w K mg base f cdv A outer s H0 E) ((j8 sLaw).drop 4) t } :=
 have nd := scLaw.nd
 ⟨_, (j5 (qC PassesOwn.never rfl (ji_range2 gD T.range (j0 (je_int) (j0 (je_int) j2 j7) j7) j7 j7) (jT (i := 4) nd rfl lL) (lawK T CC CP CT CB CA CR CD CX CU CS CI hr).2 yF) (j9 (jI (je_bl))))⟩
def lawA (T : Txt mg) (CC : Can P w K mg base "_law_cell_at" 1 fC fdC ["script", "k"] (spCell K)) (CP : Can P w K mg base "_law_pot" 1 fP fdP ["cell"] spPot) (CT : Can P w K mg base "_law_take" 1 fT fdT ["pot", "wide"] jQ) (CB : Can P w K mg base "_law_box" 3 fB fdB ["pot", "most_things", "most_pieces"] spBox) (CA : Can P w K mg base "_law_paper" 7 fA fdA ["pot", "box", "done", "deep"] (yZ 3)) (CR : Can P w K mg base "_law_tree" 8 fR fdR ["order", "box", "done"] (qS 5)) (CD : Can P w K mg base "_law_order" 2 fD fdD ["pot", "wide"] spOrder) (CX : Can P w K mg base "_law_spoilt" 8 fX fdX ["pot", "box", "paper"] (yN 5)) (CU : Can P w K mg base "_law_due" 11 fU fdU ["box", "paper"] spDue) (CS : Can P w K mg base "_law_same" 3 fS fdS ["found", "due"] spSame) (CI : Can P w K mg base "shown" 16 fI fdI ["box", "paper"] spShown) (hr : Room 16 (XLaw P w K mg base f cdv A outer s H0 E).A) : { t : TS // JSs (XLaw P w K mg base f cdv A outer s H0 E) (j8 sLaw) t } :=
 have nd := scLaw.nd
 ⟨_, (j5 (jM (i := 1) nd rfl lL (CP.je (hr.mono (by decide)) gD (j0 (CC.je (hr.mono (by decide)) gD (j0 (jv 0 rfl vL) (j0 (je_int) j2 j7) j1) j1) j2 jL) jL) jR) (j5 (jM (i := 2) nd rfl lL (CB.je (hr.mono (by decide)) gD (j0 (jv 1 rfl vL) (j0 (je_int) (j0 (je_int) j2 j7) j7) j1) j1) jR) (j5 (jM (i := 3) nd rfl lL (CA.je (hr.mono (by decide)) gD (j0 (jv 1 rfl vL) (j0 (jv 2 rfl vL) (j0 (jH j2) (j0 (je_int) j2 j7) kO) j1) j1) j1) jR) (j5 (jX (jF yP (CT.je (hr.mono (by decide)) gD (j0 (jv 1 rfl vL) (j0 (je_int) j2 j7) j1) j1) (je_int) (jK _)) (j9 (jM (i := 3) nd rfl lL (CR.je (hr.mono (by decide)) gD (j0 (CD.je (hr.mono (by decide)) gD (j0 (jv 1 rfl vL) (j0 (jB jA (jv 2 rfl vL) (je_int) j3) j2 jE) j1) j1) (j0 (jv 2 rfl vL) (j0 (jH j2) j2 kO) j1) jL) jL) jR)) jN) (lawB T CC CP CT CB CA CR CD CX CU CS CI hr).2))))⟩
theorem lawI_read (T : Txt mg) (CC : Can P w K mg base "_law_cell_at" 1 fC fdC ["script", "k"] (spCell K)) (CP : Can P w K mg base "_law_pot" 1 fP fdP ["cell"] spPot) (CT : Can P w K mg base "_law_take" 1 fT fdT ["pot", "wide"] jQ) (CB : Can P w K mg base "_law_box" 3 fB fdB ["pot", "most_things", "most_pieces"] spBox) (CA : Can P w K mg base "_law_paper" 7 fA fdA ["pot", "box", "done", "deep"] (yZ 3)) (CR : Can P w K mg base "_law_tree" 8 fR fdR ["order", "box", "done"] (qS 5)) (CD : Can P w K mg base "_law_order" 2 fD fdD ["pot", "wide"] spOrder) (CX : Can P w K mg base "_law_spoilt" 8 fX fdX ["pot", "box", "paper"] (yN 5)) (CU : Can P w K mg base "_law_due" 11 fU fdU ["box", "paper"] spDue) (CS : Can P w K mg base "_law_same" 3 fS fdS ["found", "due"] spSame) (CI : Can P w K mg base "shown" 16 fI fdI ["box", "paper"] spShown) (hr : Room 16 (XLaw P w K mg base f cdv A outer s H0 E).A)
   {D : Ends} {H : Hp} {b : Addr} {x : V} {wi : Int} {ms : List Int} {pcs : List (List Int × Int)} {v0 v1 v3 v4 v5 : Option V} (hB : BoxAt H b wi ms pcs) (g : Good 16 11 wi ms pcs) (hx : Any wi ms pcs 5 H x)
   (nx : ∀ H', Ext H H' → D.nx [v0, v1, some (.ref b), v3, v4, v5, some x] H') :
   (lawI T CC CP CT CB CA CR CD CX CU CS CI hr).1 D [v0, v1, some (.ref b), v3, v4, v5, some x] H := by
 obtain ⟨B, hG⟩ := hx 0 []
 refine ⟨_, rfl, _, rfl, b, x, wi, ms, pcs, B, rfl, hB, g, hG, fun v' H1 e1 hres => ?_⟩
 refine ⟨_, rfl, _, rfl, b, x, wi, ms, pcs, B, rfl, hB.mono e1.tups, g, hG.mono (.of e1), fun du H2 e2 hdu => ?_⟩
 refine ⟨v', du, _, rfl, hres.mono e2.tups, hdu, AG_frac g hG, fun H3 e3 => ⟨_, rfl, iteF ?_⟩⟩
 exact nx H3 ((e1.trans e2).trans e3)
theorem lawK_read (T : Txt mg) (CC : Can P w K mg base "_law_cell_at" 1 fC fdC ["script", "k"] (spCell K)) (CP : Can P w K mg base "_law_pot" 1 fP fdP ["cell"] spPot) (CT : Can P w K mg base "_law_take" 1 fT fdT ["pot", "wide"] jQ) (CB : Can P w K mg base "_law_box" 3 fB fdB ["pot", "most_things", "most_pieces"] spBox) (CA : Can P w K mg base "_law_paper" 7 fA fdA ["pot", "box", "done", "deep"] (yZ 3)) (CR : Can P w K mg base "_law_tree" 8 fR fdR ["order", "box", "done"] (qS 5)) (CD : Can P w K mg base "_law_order" 2 fD fdD ["pot", "wide"] spOrder) (CX : Can P w K mg base "_law_spoilt" 8 fX fdX ["pot", "box", "paper"] (yN 5)) (CU : Can P w K mg base "_law_due" 11 fU fdU ["box", "paper"] spDue) (CS : Can P w K mg base "_law_same" 3 fS fdS ["found", "due"] spSame) (CI : Can P w K mg base "shown" 16 fI fdI ["box", "paper"] spShown) (hr : Room 16 (XLaw P w K mg base f cdv A outer s H0 E).A)
   {D : Ends} {H : Hp} {a b : Addr} {v : V} {sn : List Int} {k wi : Int} {ms : List Int} {pcs : List (List Int × Int)} {v1 v5 v6 : Option V} (hS : SqL K H a (sn.map V.int)) (k0 : 0 ≤ k) (hB : BoxAt H b wi ms pcs) (g : Good 16 11 wi ms pcs) (hv : GP wi 5 H v)
   (nx : ∀ H' v5 v6, Ext H H' → D.nx [some (.ref a), v1, some (.ref b), some v, some (.int k), v5, v6] H') :
   (lawK T CC CP CT CB CA CR CD CX CU CS CI hr).1 D [some (.ref a), v1, some (.ref b), some v, some (.int k), v5, v6] H := by
 refine ⟨_, rfl, _, rfl, a, sn, k, rfl, hS, k0, fun cc => ?_⟩
 refine ⟨cc, rfl, fun q N hq hN => ?_⟩
 have e0 : Ext H (upd H q (.lst [.int N])) := (Ext.refl _).new hq _
 have hq0 : (upd H q (.lst [.int N])) q = some (.lst [.int N]) := j4
 generalize upd H q (.lst [.int N]) = H1 at e0 hq0 ⊢
 refine ⟨_, rfl, _, rfl, q, b, v, N, wi, ms, pcs, rfl, hq0, hN, hB.mono e0.tups, g, hv.mono e0.tups, fun v' N2 H2 hF hp2 n2 k2 => ?_⟩
 have x2 : Ext H H2 := fun c u h => k2 _ _ (e0 _ _ h) (jC h hq)
 refine ⟨_, rfl, _, rfl, _, rfl, (by show 3 ≤ sizeLine; decide), fun l H3 hl e3 _ => ?_⟩
 have x3 := x2.trans e3
 refine ⟨l, rfl, ⟨_, SqL.of hl⟩, for_list (xs := [v, v', v]) (fun i σ H' => (∃ v6, σ = [some (.ref a), v1, some (.ref b), some v, some (.int k), some v', v6]) ∧ Ext H3 H') ⟨⟨_, rfl⟩, Ext.refl _⟩ (fun i σ H' _ ⟨_, e⟩ => SqL.of (e _ _ hl)) ?_ ?_⟩
 · rintro i x σ H' hx ⟨⟨v6, rfl⟩, e⟩
   have X := x3.trans e
   have hA : Any wi ms pcs 5 H' x := by
     have hm := List.mem_of_getElem? hx
     simp only [List.mem_cons, List.not_mem_nil, or_false] at hm
     rcases hm with rfl | rfl | rfl
     · exact ((hv.mono X.tups).fin g.w1).1
     · exact hF.1.mono (.of (e3.trans e))
     · exact ((hv.mono X.tups).fin g.w1).1
   exact lawI_read T CC CP CT CB CA CR CD CX CU CS CI hr (hB.mono X.tups) g hA fun H'' e' => ⟨⟨_, rfl⟩, e.trans e'⟩
 · rintro σ H' ⟨⟨v6, rfl⟩, e⟩
   exact nx H' _ _ (x3.trans e)
def spLaw (K : W.Frag) : Sp := fun vs H Q _ => ∃ (a : Addr) (ns : List Int), vs = [.ref a] ∧ SqL K H a (ns.map V.int) ∧ ns.length ≤ 63 ∧ ∀ H', Q (.bl true) H'
theorem lawB_read (T : Txt mg) (CC : Can P w K mg base "_law_cell_at" 1 fC fdC ["script", "k"] (spCell K)) (CP : Can P w K mg base "_law_pot" 1 fP fdP ["cell"] spPot) (CT : Can P w K mg base "_law_take" 1 fT fdT ["pot", "wide"] jQ) (CB : Can P w K mg base "_law_box" 3 fB fdB ["pot", "most_things", "most_pieces"] spBox) (CA : Can P w K mg base "_law_paper" 7 fA fdA ["pot", "box", "done", "deep"] (yZ 3)) (CR : Can P w K mg base "_law_tree" 8 fR fdR ["order", "box", "done"] (qS 5)) (CD : Can P w K mg base "_law_order" 2 fD fdD ["pot", "wide"] spOrder) (CX : Can P w K mg base "_law_spoilt" 8 fX fdX ["pot", "box", "paper"] (yN 5)) (CU : Can P w K mg base "_law_due" 11 fU fdU ["box", "paper"] spDue) (CS : Can P w K mg base "_law_same" 3 fS fdS ["found", "due"] spSame) (CI : Can P w K mg base "shown" 16 fI fdI ["box", "paper"] spShown) (hr : Room 16 (XLaw P w K mg base f cdv A outer s H0 E).A)
   {D : Ends} {H : Hp} {a b : Addr} {v : V} {sn : List Int} {wi : Int} {ms : List Int} {pcs : List (List Int × Int)} {v1 : Option V} (hS : SqL K H a (sn.map V.int)) (hB : BoxAt H b wi ms pcs) (g : Good 16 11 wi ms pcs) (hv : GP wi 5 H v)
   (k : ∀ H', D.rt (.bl true) H') :
   (lawB T CC CP CT CB CA CR CD CX CU CS CI hr).1 D [some (.ref a), v1, some (.ref b), some v, none, none, none] H := by
 refine ⟨1, 7, rfl, ⟨by decide, by decide, by decide, by decide⟩, for_range (n := 6) (fun i σ H' => (∃ v4 v5 v6, σ = [some (.ref a), v1, some (.ref b), some v, v4, v5, v6]) ∧ Ext H H') ⟨⟨_, _, _, rfl⟩, Ext.refl _⟩ ?_ ?_⟩
 · rintro i σ H4 hi ⟨⟨v4, v5, v6, rfl⟩, x4⟩
   exact lawK_read T CC CP CT CB CA CR CD CX CU CS CI hr (x4.seq hS) (by omega) (hB.mono x4.tups) g (hv.mono x4.tups) fun H' v5 v6 x' => ⟨⟨_, _, _, rfl⟩, x4.trans x'⟩
 · rintro σ H4 ⟨⟨v4, v5, v6, rfl⟩, x4⟩
   exact k H4
theorem ok_law {fd : FuncData} (F : Fun K "law" "law" sLaw f fd) (T : Txt mg) (CC : Can P w K mg base "_law_cell_at" 1 fC fdC ["script", "k"] (spCell K)) (CP : Can P w K mg base "_law_pot" 1 fP fdP ["cell"] spPot) (CT : Can P w K mg base "_law_take" 1 fT fdT ["pot", "wide"] jQ) (CB : Can P w K mg base "_law_box" 3 fB fdB ["pot", "most_things", "most_pieces"] spBox) (CA : Can P w K mg base "_law_paper" 7 fA fdA ["pot", "box", "done", "deep"] (yZ 3)) (CR : Can P w K mg base "_law_tree" 8 fR fdR ["order", "box", "done"] (qS 5)) (CD : Can P w K mg base "_law_order" 2 fD fdD ["pot", "wide"] spOrder) (CX : Can P w K mg base "_law_spoilt" 8 fX fdX ["pot", "box", "paper"] (yN 5)) (CU : Can P w K mg base "_law_due" 11 fU fdU ["box", "paper"] spDue) (CS : Can P w K mg base "_law_same" 3 fS fdS ["found", "due"] spSame) (CI : Can P w K mg base "shown" 16 fI fdI ["box", "paper"] spShown) : FnOk P w K mg base CX0 17 f fd ["script"] (spLaw K) := by
 refine F.ok scLaw (fun vs H Q E h => ?_) (fun cdv A outer s H vs Q E hr h => ?_)
 · obtain ⟨_, _, rfl, _⟩ := h
   rfl
 · obtain ⟨a, ns, rfl, hS, hlen, k⟩ := h
   refine ⟨_, (lawA T CC CP CT CB CA CR CD CX CU CS CI hr).2.h, ?_⟩
   refine ⟨_, rfl, a, ns, 0, rfl, hS, by decide, fun c => ?_⟩
   refine ⟨c, rfl, fun p N hp hN => ?_⟩
   refine ⟨_, rfl, p, N, 5, 6, rfl, j4, hN, by decide, by decide, by decide, by decide, fun b N1 wi ms pcs H1 c1 c2 c3 c4 c5 => ?_⟩
   have e1 : Ext H H1 := c5.ext hp
   have w5 := c4.w1
   have w0 := c4.w0
   have g := c4.wide (show (5 : Int) ≤ 16 by decide) (show (6 : Int) ≤ 11 by decide)
   refine ⟨_, rfl, _, rfl, (by show 0 ≤ sizeLine; decide), fun da H2 hda e2 => ?_⟩
   refine ⟨p, b, da, N1, wi, ms, pcs, 0, [], rfl, e2 _ _ c2, c1, c3.mono e2.tups, g, done_no, hda, (by show 0 + 48 ≤ 900; decide), fun v N3 H3 hG hp3 n3 k3 => ?_⟩
   have x3 : Ext H H3 := fun c u h => k3 _ _ (e2 _ _ (e1 _ _ h)) (jC h hp)
   have B3 : BoxAt H3 b wi ms pcs := c3.mono (e2.tups.trans (k3.tups (e2 _ _ c2)))
   refine ⟨_, rfl, p, N3, 3, rfl, hp3, n3, by decide, by decide, fun N4 r a1 a2 a3 => ⟨rfl, _, rfl, ?_⟩⟩
   have k4 : Keep H3 (upd H3 p (.lst [.int N4])) p := (Keep.refl _ _).upd _
   have hp4 : (upd H3 p (.lst [.int N4])) p = some (.lst [.int N4]) := j4
   have T4 : Tups H3 (upd H3 p (.lst [.int N4])) := k4.tups hp3
   have x4 : Ext H (upd H3 p (.lst [.int N4])) := fun c u h => k4 _ _ (x3 _ _ h) (jC h hp)
   generalize upd H3 p (.lst [.int N4]) = H4 at k4 hp4 T4 x4 ⊢
   have B4 := B3.mono T4
   refine ite2 (fun _ => ?_) (fun _ => ?_)
   · obtain ⟨qm, qp, ps, b1, b2, b3, b4⟩ := B4.ex
     refine ⟨_, rfl, _, rfl, b, _, 0, _, rfl, rfl, SqT.of b1, rfl, p, N4, wi, rfl, hp4, a1, w0, by omega, fun o os N5 H5 ho pm hp5 n5 k5 => ?_⟩
     have x5 : Ext H H5 := fun c u h => k5 _ _ (x4 _ _ h) (jC h hp)
     have B5 := B4.mono (k5.tups hp4)
     refine ⟨_, rfl, (by show 0 ≤ sizeLine; decide), fun da6 H6 hda6 e6 => ?_⟩
     have ol : os.length = wi.toNat := by rw [pm.length_eq, upto_len]
     refine ⟨o, b, da6, wi, ms, pcs, os, 0, [], rfl, e6 _ _ ho, fun x => by rw [pm.mem_iff, upto_in]; omega, by omega, B5.mono e6.tups, g, done_no, hda6, (by show 0 + 16 * 5 ≤ 900; decide), Nat.le_trans (List.length_filter_le _ _) (by omega), fun tv H7 hG7 e7 => ?_⟩
     have x7 := (x5.trans e6).trans e7
     exact lawB_read T CC CP CT CB CA CR CD CX CU CS CI hr (x7.seq hS) (B5.mono (e6.trans e7).tups) g hG7 fun H' => k H'
   · exact lawB_read T CC CP CT CB CA CR CD CX CU CS CI hr (x4.seq hS) B4 g ((hG.mono T4).up.up) fun H' => k H'
end
end Eo
end
section
namespace Eo
open PySem L2
theorem lenU1 {P : List Value → Prop} : ∀ {us : List Value}, us.length = 1 → (∀ a, P [a]) → P us
 | [a], _, h => h a
theorem xD {P : List Value → Prop} : ∀ {us : List Value}, us.length = 2 → (∀ a b, P [a, b]) → P us
 | [a, b], _, h => h a b
theorem lenU3 {P : List Value → Prop} : ∀ {us : List Value}, us.length = 3 → (∀ a b c, P [a, b, c]) → P us
 | [a, b, c], _, h => h a b c
theorem lenU4 {P : List Value → Prop} : ∀ {us : List Value}, us.length = 4 → (∀ a b c d, P [a, b, c, d]) → P us
 | [a, b, c, d], _, h => h a b c d
set_option maxHeartbeats 8000000 in
theorem all_mk {l : PySem.W.OpenLaw} {w : World} {K : W.Frag} {h : Heap} {mg : Str → Option Value} {fa f1 f2 f3 f4 f5 f6 f7 f8 f9 f10 f11 f12 f13 f14 f15 f16 f17 f18 f19 f20 f21 f22 f23 f24 f25 f26 f27 f28 f29 f30 f31 f32 f33 f34 f35 f36 f37 f38 f39 : Addr} (X : K.In h) (G : h.Ns mainGlobals mg) (hfa : mg "law" = some (.ref fa))
   {od1 an1 od2 an2 od3 an3 od4 an4 od5 an5 od6 an6 od7 an7 od8 an8 od9 an9 od10 an10 od11 an11 od12 an12 od13 an13 od14 an14 od15 an15 od16 an16 od17 an17 od18 an18 od19 an19 od20 an20 od21 an21 od22 an22 od23 an23 od24 an24 od25 an25 od26 an26 od27 an27 od28 an28 od29 an29 od30 an30 od31 an31 od32 an32 od33 an33 od34 an34 od35 an35 od36 an36 od37 an37 od38 an38 od39 an39 : Option Addr} {sl1 sl2 sl3 sl4 sl5 sl6 sl7 sl8 sl9 sl10 sl11 sl12 sl13 sl14 sl15 sl16 sl17 sl18 sl19 sl20 sl21 sl22 sl23 sl24 sl25 sl26 sl27 sl28 sl29 sl30 sl31 sl32 sl33 sl34 sl35 sl36 sl37 sl38 sl39 : Array (Option Value)} {oc1 kV1 dc1 pm1 cd1 ct1 oc2 kV2 dc2 pm2 cd2 ct2 oc3 kV3 dc3 pm3 cd3 ct3 oc4 kV4 dc4 pm4 cd4 ct4 oc5 kV5 dc5 pm5 cd5 ct5 oc6 kV6 dc6 pm6 cd6 ct6 oc7 kV7 dc7 pm7 cd7 ct7 oc8 kV8 dc8 pm8 cd8 ct8 oc9 kV9 dc9 pm9 cd9 ct9 oc10 kV10 dc10 pm10 cd10 ct10 oc11 kV11 dc11 pm11 cd11 ct11 oc12 kV12 dc12 pm12 cd12 ct12 oc13 kV13 dc13 pm13 cd13 ct13 oc14 kV14 dc14 pm14 cd14 ct14 oc15 kV15 dc15 pm15 cd15 ct15 oc16 kV16 dc16 pm16 cd16 ct16 oc17 kV17 dc17 pm17 cd17 ct17 oc18 kV18 dc18 pm18 cd18 ct18 oc19 kV19 dc19 pm19 cd19 ct19 oc20 kV20 dc20 pm20 cd20 ct20 oc21 kV21 dc21 pm21 cd21 ct21 oc22 kV22 dc22 pm22 cd22 ct22 oc23 kV23 dc23 pm23 cd23 ct23 oc24 kV24 dc24 pm24 cd24 ct24 oc25 kV25 dc25 pm25 cd25 ct25 oc26 kV26 dc26 pm26 cd26 ct26 oc27 kV27 dc27 pm27 cd27 ct27 oc28 kV28 dc28 pm28 cd28 ct28 oc29 kV29 dc29 pm29 cd29 ct29 oc30 kV30 dc30 pm30 cd30 ct30 oc31 kV31 dc31 pm31 cd31 ct31 oc32 kV32 dc32 pm32 cd32 ct32 oc33 kV33 dc33 pm33 cd33 ct33 oc34 kV34 dc34 pm34 cd34 ct34 oc35 kV35 dc35 pm35 cd35 ct35 oc36 kV36 dc36 pm36 cd36 ct36 oc37 kV37 dc37 pm37 cd37 ct37 oc38 kV38 dc38 pm38 cd38 ct38 oc39 kV39 dc39 pm39 cd39 ct39 : Value}
   (a1 : PySem.W.nsIn K mainGlobals "is_whole" = some (some (.ref f1))) (l1 : K.lookup f1 = some ⟨oc1, od1, .func (PySem.W.fnOf "is_whole" "is_whole" (jO sWhole0) (j8 sWhole0) (j6 sWhole0) .none kV1 dc1 pm1 an1 cd1 ct1), sl1⟩) (c1 : PySem.W.codeIn K cd1 "is_whole" = true) (k1 : PySem.W.keepIn K (.ref f1) = true)
   (a2 : PySem.W.nsIn K mainGlobals "mask_of" = some (some (.ref f2))) (l2 : K.lookup f2 = some ⟨oc2, od2, .func (PySem.W.fnOf "mask_of" "mask_of" (jO xM) (j8 xM) (j6 xM) .none kV2 dc2 pm2 an2 cd2 ct2), sl2⟩) (c2 : PySem.W.codeIn K cd2 "mask_of" = true) (k2 : PySem.W.keepIn K (.ref f2) = true)
   (a3 : PySem.W.nsIn K mainGlobals "common_divisor" = some (some (.ref f3))) (l3 : K.lookup f3 = some ⟨oc3, od3, .func (PySem.W.fnOf "common_divisor" "common_divisor" (jO sGcd) (j8 sGcd) (j6 sGcd) .none kV3 dc3 pm3 an3 cd3 ct3), sl3⟩) (c3 : PySem.W.codeIn K cd3 "common_divisor" = true) (k3 : PySem.W.keepIn K (.ref f3) = true)
   (a4 : PySem.W.nsIn K mainGlobals "is_fraction" = some (some (.ref f4))) (l4 : K.lookup f4 = some ⟨oc4, od4, .func (PySem.W.fnOf "is_fraction" "is_fraction" (jO sIsFr) (j8 sIsFr) (j6 sIsFr) .none kV4 dc4 pm4 an4 cd4 ct4), sl4⟩) (c4 : PySem.W.codeIn K cd4 "is_fraction" = true) (k4 : PySem.W.keepIn K (.ref f4) = true)
   (a5 : PySem.W.nsIn K mainGlobals "fraction_of" = some (some (.ref f5))) (l5 : K.lookup f5 = some ⟨oc5, od5, .func (PySem.W.fnOf "fraction_of" "fraction_of" (jO sFrOf) (j8 sFrOf) (j6 sFrOf) .none kV5 dc5 pm5 an5 cd5 ct5), sl5⟩) (c5 : PySem.W.codeIn K cd5 "fraction_of" = true) (k5 : PySem.W.keepIn K (.ref f5) = true)
   (a6 : PySem.W.nsIn K mainGlobals "sum_of" = some (some (.ref f6))) (l6 : K.lookup f6 = some ⟨oc6, od6, .func (PySem.W.fnOf "sum_of" "sum_of" (jO qW) (j8 qW) (j6 qW) .none kV6 dc6 pm6 an6 cd6 ct6), sl6⟩) (c6 : PySem.W.codeIn K cd6 "sum_of" = true) (k6 : PySem.W.keepIn K (.ref f6) = true)
   (a7 : PySem.W.nsIn K mainGlobals "is_less" = some (some (.ref f7))) (l7 : K.lookup f7 = some ⟨oc7, od7, .func (PySem.W.fnOf "is_less" "is_less" (jO sLess) (j8 sLess) (j6 sLess) .none kV7 dc7 pm7 an7 cd7 ct7), sl7⟩) (c7 : PySem.W.codeIn K cd7 "is_less" = true) (k7 : PySem.W.keepIn K (.ref f7) = true)
   (a8 : PySem.W.nsIn K mainGlobals "fitting" = some (some (.ref f8))) (l8 : K.lookup f8 = some ⟨oc8, od8, .func (PySem.W.fnOf "fitting" "fitting" (jO sFit) (j8 sFit) (j6 sFit) .none kV8 dc8 pm8 an8 cd8 ct8), sl8⟩) (c8 : PySem.W.codeIn K cd8 "fitting" = true) (k8 : PySem.W.keepIn K (.ref f8) = true)
   (a9 : PySem.W.nsIn K mainGlobals "things_left" = some (some (.ref f9))) (l9 : K.lookup f9 = some ⟨oc9, od9, .func (PySem.W.fnOf "things_left" "things_left" (jO sLeft) (j8 sLeft) (j6 sLeft) .none kV9 dc9 pm9 an9 cd9 ct9), sl9⟩) (c9 : PySem.W.codeIn K cd9 "things_left" = true) (k9 : PySem.W.keepIn K (.ref f9) = true)
   (a10 : PySem.W.nsIn K mainGlobals "cases_of" = some (some (.ref f10))) (l10 : K.lookup f10 = some ⟨oc10, od10, .func (PySem.W.fnOf "cases_of" "cases_of" (jO yO) (j8 yO) (j6 yO) .none kV10 dc10 pm10 an10 cd10 ct10), sl10⟩) (c10 : PySem.W.codeIn K cd10 "cases_of" = true) (k10 : PySem.W.keepIn K (.ref f10) = true)
   (a11 : PySem.W.nsIn K mainGlobals "are_prices" = some (some (.ref f11))) (l11 : K.lookup f11 = some ⟨oc11, od11, .func (PySem.W.fnOf "are_prices" "are_prices" (jO qJ) (j8 qJ) (j6 qJ) .none kV11 dc11 pm11 an11 cd11 ct11), sl11⟩) (c11 : PySem.W.codeIn K cd11 "are_prices" = true) (k11 : PySem.W.keepIn K (.ref f11) = true)
   (a12 : PySem.W.nsIn K mainGlobals "shown_by_price" = some (some (.ref f12))) (l12 : K.lookup f12 = some ⟨oc12, od12, .func (PySem.W.fnOf "shown_by_price" "shown_by_price" (jO xG) (j8 xG) (j6 xG) .none kV12 dc12 pm12 an12 cd12 ct12), sl12⟩) (c12 : PySem.W.codeIn K cd12 "shown_by_price" = true) (k12 : PySem.W.keepIn K (.ref f12) = true)
   (a13 : PySem.W.nsIn K mainGlobals "least_of" = some (some (.ref f13))) (l13 : K.lookup f13 = some ⟨oc13, od13, .func (PySem.W.fnOf "least_of" "least_of" (jO xA) (j8 xA) (j6 xA) .none kV13 dc13 pm13 an13 cd13 ct13), sl13⟩) (c13 : PySem.W.codeIn K cd13 "least_of" = true) (k13 : PySem.W.keepIn K (.ref f13) = true)
   (a14 : PySem.W.nsIn K mainGlobals "shown_by_part" = some (some (.ref f14))) (l14 : K.lookup f14 = some ⟨oc14, od14, .func (PySem.W.fnOf "shown_by_part" "shown_by_part" (jO yS) (j8 yS) (j6 yS) .none kV14 dc14 pm14 an14 cd14 ct14), sl14⟩) (c14 : PySem.W.codeIn K cd14 "shown_by_part" = true) (k14 : PySem.W.keepIn K (.ref f14) = true)
   (a15 : PySem.W.nsIn K mainGlobals "shown_in_case" = some (some (.ref f15))) (l15 : K.lookup f15 = some ⟨oc15, od15, .func (PySem.W.fnOf "shown_in_case" "shown_in_case" (jO qB) (j8 qB) (j6 qB) .none kV15 dc15 pm15 an15 cd15 ct15), sl15⟩) (c15 : PySem.W.codeIn K cd15 "shown_in_case" = true) (k15 : PySem.W.keepIn K (.ref f15) = true)
   (a16 : PySem.W.nsIn K mainGlobals "shown" = some (some (.ref f16))) (l16 : K.lookup f16 = some ⟨oc16, od16, .func (PySem.W.fnOf "shown" "shown" (jO qX) (j8 qX) (j6 qX) .none kV16 dc16 pm16 an16 cd16 ct16), sl16⟩) (c16 : PySem.W.codeIn K cd16 "shown" = true) (k16 : PySem.W.keepIn K (.ref f16) = true)
   (a17 : PySem.W.nsIn K mainGlobals "_law_cell_at" = some (some (.ref f17))) (l17 : K.lookup f17 = some ⟨oc17, od17, .func (PySem.W.fnOf "_law_cell_at" "_law_cell_at" (jO sCell) (j8 sCell) (j6 sCell) .none kV17 dc17 pm17 an17 cd17 ct17), sl17⟩) (c17 : PySem.W.codeIn K cd17 "_law_cell_at" = true) (k17 : PySem.W.keepIn K (.ref f17) = true)
   (a18 : PySem.W.nsIn K mainGlobals "_law_pot" = some (some (.ref f18))) (l18 : K.lookup f18 = some ⟨oc18, od18, .func (PySem.W.fnOf "_law_pot" "_law_pot" (jO sPot) (j8 sPot) (j6 sPot) .none kV18 dc18 pm18 an18 cd18 ct18), sl18⟩) (c18 : PySem.W.codeIn K cd18 "_law_pot" = true) (k18 : PySem.W.keepIn K (.ref f18) = true)
   (a19 : PySem.W.nsIn K mainGlobals "_law_take" = some (some (.ref f19))) (l19 : K.lookup f19 = some ⟨oc19, od19, .func (PySem.W.fnOf "_law_take" "_law_take" (jO sTake) (j8 sTake) (j6 sTake) .none kV19 dc19 pm19 an19 cd19 ct19), sl19⟩) (c19 : PySem.W.codeIn K cd19 "_law_take" = true) (k19 : PySem.W.keepIn K (.ref f19) = true)
   (a20 : PySem.W.nsIn K mainGlobals "_law_lot" = some (some (.ref f20))) (l20 : K.lookup f20 = some ⟨oc20, od20, .func (PySem.W.fnOf "_law_lot" "_law_lot" (jO sLot) (j8 sLot) (j6 sLot) .none kV20 dc20 pm20 an20 cd20 ct20), sl20⟩) (c20 : PySem.W.codeIn K cd20 "_law_lot" = true) (k20 : PySem.W.keepIn K (.ref f20) = true)
   (a21 : PySem.W.nsIn K mainGlobals "_law_box" = some (some (.ref f21))) (l21 : K.lookup f21 = some ⟨oc21, od21, .func (PySem.W.fnOf "_law_box" "_law_box" (jO sBox) (j8 sBox) (j6 sBox) .none kV21 dc21 pm21 an21 cd21 ct21), sl21⟩) (c21 : PySem.W.codeIn K cd21 "_law_box" = true) (k21 : PySem.W.keepIn K (.ref f21) = true)
   (a22 : PySem.W.nsIn K mainGlobals "_law_whole" = some (some (.ref f22))) (l22 : K.lookup f22 = some ⟨oc22, od22, .func (PySem.W.fnOf "_law_whole" "_law_whole" (jO sWhole) (j8 sWhole) (j6 sWhole) .none kV22 dc22 pm22 an22 cd22 ct22), sl22⟩) (c22 : PySem.W.codeIn K cd22 "_law_whole" = true) (k22 : PySem.W.keepIn K (.ref f22) = true)
   (a23 : PySem.W.nsIn K mainGlobals "_law_divisor" = some (some (.ref f23))) (l23 : K.lookup f23 = some ⟨oc23, od23, .func (PySem.W.fnOf "_law_divisor" "_law_divisor" (jO sDiv) (j8 sDiv) (j6 sDiv) .none kV23 dc23 pm23 an23 cd23 ct23), sl23⟩) (c23 : PySem.W.codeIn K cd23 "_law_divisor" = true) (k23 : PySem.W.keepIn K (.ref f23) = true)
   (a24 : PySem.W.nsIn K mainGlobals "_law_ratio" = some (some (.ref f24))) (l24 : K.lookup f24 = some ⟨oc24, od24, .func (PySem.W.fnOf "_law_ratio" "_law_ratio" (jO qY) (j8 qY) (j6 qY) .none kV24 dc24 pm24 an24 cd24 ct24), sl24⟩) (c24 : PySem.W.codeIn K cd24 "_law_ratio" = true) (k24 : PySem.W.keepIn K (.ref f24) = true)
   (a25 : PySem.W.nsIn K mainGlobals "_law_is_ratio" = some (some (.ref f25))) (l25 : K.lookup f25 = some ⟨oc25, od25, .func (PySem.W.fnOf "_law_is_ratio" "_law_is_ratio" (jO sIsR) (j8 sIsR) (j6 sIsR) .none kV25 dc25 pm25 an25 cd25 ct25), sl25⟩) (c25 : PySem.W.codeIn K cd25 "_law_is_ratio" = true) (k25 : PySem.W.keepIn K (.ref f25) = true)
   (a26 : PySem.W.nsIn K mainGlobals "_law_total" = some (some (.ref f26))) (l26 : K.lookup f26 = some ⟨oc26, od26, .func (PySem.W.fnOf "_law_total" "_law_total" (jO qV) (j8 qV) (j6 qV) .none kV26 dc26 pm26 an26 cd26 ct26), sl26⟩) (c26 : PySem.W.codeIn K cd26 "_law_total" = true) (k26 : PySem.W.keepIn K (.ref f26) = true)
   (a27 : PySem.W.nsIn K mainGlobals "_law_fits" = some (some (.ref f27))) (l27 : K.lookup f27 = some ⟨oc27, od27, .func (PySem.W.fnOf "_law_fits" "_law_fits" (jO sFits) (j8 sFits) (j6 sFits) .none kV27 dc27 pm27 an27 cd27 ct27), sl27⟩) (c27 : PySem.W.codeIn K cd27 "_law_fits" = true) (k27 : PySem.W.keepIn K (.ref f27) = true)
   (a28 : PySem.W.nsIn K mainGlobals "_law_cases" = some (some (.ref f28))) (l28 : K.lookup f28 = some ⟨oc28, od28, .func (PySem.W.fnOf "_law_cases" "_law_cases" (jO qI) (j8 qI) (j6 qI) .none kV28 dc28 pm28 an28 cd28 ct28), sl28⟩) (c28 : PySem.W.codeIn K cd28 "_law_cases" = true) (k28 : PySem.W.keepIn K (.ref f28) = true)
   (a29 : PySem.W.nsIn K mainGlobals "_law_bound" = some (some (.ref f29))) (l29 : K.lookup f29 = some ⟨oc29, od29, .func (PySem.W.fnOf "_law_bound" "_law_bound" (jO yU) (j8 yU) (j6 yU) .none kV29 dc29 pm29 an29 cd29 ct29), sl29⟩) (c29 : PySem.W.codeIn K cd29 "_law_bound" = true) (k29 : PySem.W.keepIn K (.ref f29) = true)
   (a30 : PySem.W.nsIn K mainGlobals "_law_bounds" = some (some (.ref f30))) (l30 : K.lookup f30 = some ⟨oc30, od30, .func (PySem.W.fnOf "_law_bounds" "_law_bounds" (jO yX) (j8 yX) (j6 yX) .none kV30 dc30 pm30 an30 cd30 ct30), sl30⟩) (c30 : PySem.W.codeIn K cd30 "_law_bounds" = true) (k30 : PySem.W.keepIn K (.ref f30) = true)
   (a31 : PySem.W.nsIn K mainGlobals "_law_due" = some (some (.ref f31))) (l31 : K.lookup f31 = some ⟨oc31, od31, .func (PySem.W.fnOf "_law_due" "_law_due" (jO sDue) (j8 sDue) (j6 sDue) .none kV31 dc31 pm31 an31 cd31 ct31), sl31⟩) (c31 : PySem.W.codeIn K cd31 "_law_due" = true) (k31 : PySem.W.keepIn K (.ref f31) = true)
   (a32 : PySem.W.nsIn K mainGlobals "_law_same" = some (some (.ref f32))) (l32 : K.lookup f32 = some ⟨oc32, od32, .func (PySem.W.fnOf "_law_same" "_law_same" (jO xL) (j8 xL) (j6 xL) .none kV32 dc32 pm32 an32 cd32 ct32), sl32⟩) (c32 : PySem.W.codeIn K cd32 "_law_same" = true) (k32 : PySem.W.keepIn K (.ref f32) = true)
   (a33 : PySem.W.nsIn K mainGlobals "_law_prices" = some (some (.ref f33))) (l33 : K.lookup f33 = some ⟨oc33, od33, .func (PySem.W.fnOf "_law_prices" "_law_prices" (jO qA) (j8 qA) (j6 qA) .none kV33 dc33 pm33 an33 cd33 ct33), sl33⟩) (c33 : PySem.W.codeIn K cd33 "_law_prices" = true) (k33 : PySem.W.keepIn K (.ref f33) = true)
   (a34 : PySem.W.nsIn K mainGlobals "_law_paper" = some (some (.ref f34))) (l34 : K.lookup f34 = some ⟨oc34, od34, .func (PySem.W.fnOf "_law_paper" "_law_paper" (jO qG) (j8 qG) (j6 qG) .none kV34 dc34 pm34 an34 cd34 ct34), sl34⟩) (c34 : PySem.W.codeIn K cd34 "_law_paper" = true) (k34 : PySem.W.keepIn K (.ref f34) = true)
   (a35 : PySem.W.nsIn K mainGlobals "_law_tree" = some (some (.ref f35))) (l35 : K.lookup f35 = some ⟨oc35, od35, .func (PySem.W.fnOf "_law_tree" "_law_tree" (jO xF) (j8 xF) (j6 xF) .none kV35 dc35 pm35 an35 cd35 ct35), sl35⟩) (c35 : PySem.W.codeIn K cd35 "_law_tree" = true) (k35 : PySem.W.keepIn K (.ref f35) = true)
   (a36 : PySem.W.nsIn K mainGlobals "_law_order" = some (some (.ref f36))) (l36 : K.lookup f36 = some ⟨oc36, od36, .func (PySem.W.fnOf "_law_order" "_law_order" (jO qZ) (j8 qZ) (j6 qZ) .none kV36 dc36 pm36 an36 cd36 ct36), sl36⟩) (c36 : PySem.W.codeIn K cd36 "_law_order" = true) (k36 : PySem.W.keepIn K (.ref f36) = true)
   (a37 : PySem.W.nsIn K mainGlobals "_law_other" = some (some (.ref f37))) (l37 : K.lookup f37 = some ⟨oc37, od37, .func (PySem.W.fnOf "_law_other" "_law_other" (jO qH) (j8 qH) (j6 qH) .none kV37 dc37 pm37 an37 cd37 ct37), sl37⟩) (c37 : PySem.W.codeIn K cd37 "_law_other" = true) (k37 : PySem.W.keepIn K (.ref f37) = true)
   (a38 : PySem.W.nsIn K mainGlobals "_law_spoilt" = some (some (.ref f38))) (l38 : K.lookup f38 = some ⟨oc38, od38, .func (PySem.W.fnOf "_law_spoilt" "_law_spoilt" (jO q0) (j8 q0) (j6 q0) .none kV38 dc38 pm38 an38 cd38 ct38), sl38⟩) (c38 : PySem.W.codeIn K cd38 "_law_spoilt" = true) (k38 : PySem.W.keepIn K (.ref f38) = true)
   (a39 : PySem.W.nsIn K mainGlobals "law" = some (some (.ref f39))) (l39 : K.lookup f39 = some ⟨oc39, od39, .func (PySem.W.fnOf "law" "law" (jO sLaw) (j8 sLaw) (j6 sLaw) .none kV39 dc39 pm39 an39 cd39 ct39), sl39⟩) (c39 : PySem.W.codeIn K cd39 "law" = true) (k39 : PySem.W.keepIn K (.ref f39) = true)
    (z1 : PySem.W.nsIn K mainGlobals "len" = some none) (z2 : PySem.W.nsIn K mainGlobals "range" = some none) (z3 : PySem.W.nsIn K mainGlobals "tuple" = some none) (z4 : PySem.W.nsIn K mainGlobals "sorted" = some none) (z5 : PySem.W.nsIn K mainGlobals "set" = some none) (z6 : PySem.W.nsIn K mainGlobals "list" = some none) (z7 : PySem.W.nsIn K mainGlobals "int" = some none) (z8 : PySem.W.nsIn K mainGlobals "isinstance" = some none) (z9 : PySem.W.nsIn K mainGlobals "bool" = some none) (z10 : PySem.W.nsIn K mainGlobals "str" = some none) (z11 : PySem.W.nsIn K mainGlobals "all" = some none) (z12 : PySem.W.nsIn K mainGlobals "zip" = some none) (z13 : PySem.W.nsIn K mainGlobals "max" = some none) (z14 : PySem.W.nsIn K mainGlobals "min" = some none) (z15 : PySem.W.nsIn K mainGlobals "any" = some none) (z16 : PySem.W.nsIn K mainGlobals "abs" = some none) (z17 : PySem.W.nsIn K mainGlobals "sum" = some none) :
   ∃ fd : FuncData, (∀ (s : Shared) (v : Value), BindsTo s fd ⟨[v], []⟩ [("script", v)]) ∧ ∀ base : Heap, K.In base → base.Ns mainGlobals mg → FnOk l.prog w K mg base CX0 17 fa fd ["script"] (spLaw K) := by
 have e := hfa.symm.trans (PySem.W.mg_of X G a39)
 cases e
 have T : Txt mg := ⟨PySem.W.mg_none_of X G z1, PySem.W.mg_none_of X G z2, PySem.W.mg_none_of X G z3, PySem.W.mg_none_of X G z4, PySem.W.mg_none_of X G z5, PySem.W.mg_none_of X G z6, PySem.W.mg_none_of X G z7, PySem.W.mg_none_of X G z8, PySem.W.mg_none_of X G z9, PySem.W.mg_none_of X G z10, PySem.W.mg_none_of X G z11, PySem.W.mg_none_of X G z12, PySem.W.mg_none_of X G z13, PySem.W.mg_none_of X G z14, PySem.W.mg_none_of X G z15, PySem.W.mg_none_of X G z16, PySem.W.mg_none_of X G z17⟩
 have F1 := jU (st := sWhole0) l1 c1 k1
 have b1 := F1.binds (ps := ["thing"]) fun _ _ _ _ _ _ us hl => lenU1 (P := fun us => bindArgs _ ⟨us, []⟩ = pure (List.zip _ us)) hl fun _ => rfl
 have F2 := jU (st := xM) l2 c2 k2
 have b2 := F2.binds (ps := ["lot"]) fun _ _ _ _ _ _ us hl => lenU1 (P := fun us => bindArgs _ ⟨us, []⟩ = pure (List.zip _ us)) hl fun _ => rfl
 have F3 := jU (st := sGcd) l3 c3 k3
 have b3 := F3.binds (ps := ["one", "other"]) fun _ _ _ _ _ _ us hl => xD (P := fun us => bindArgs _ ⟨us, []⟩ = pure (List.zip _ us)) hl fun _ _ => rfl
 have F4 := jU (st := sIsFr) l4 c4 k4
 have b4 := F4.binds (ps := ["thing"]) fun _ _ _ _ _ _ us hl => lenU1 (P := fun us => bindArgs _ ⟨us, []⟩ = pure (List.zip _ us)) hl fun _ => rfl
 have F5 := jU (st := sFrOf) l5 c5 k5
 have b5 := F5.binds (ps := ["top", "bottom"]) fun _ _ _ _ _ _ us hl => xD (P := fun us => bindArgs _ ⟨us, []⟩ = pure (List.zip _ us)) hl fun _ _ => rfl
 have F6 := jU (st := qW) l6 c6 k6
 have b6 := F6.binds (ps := ["fractions"]) fun _ _ _ _ _ _ us hl => lenU1 (P := fun us => bindArgs _ ⟨us, []⟩ = pure (List.zip _ us)) hl fun _ => rfl
 have F7 := jU (st := sLess) l7 c7 k7
 have b7 := F7.binds (ps := ["one", "other"]) fun _ _ _ _ _ _ us hl => xD (P := fun us => bindArgs _ ⟨us, []⟩ = pure (List.zip _ us)) hl fun _ _ => rfl
 have F8 := jU (st := sFit) l8 c8 k8
 have b8 := F8.binds (ps := ["box", "done"]) fun _ _ _ _ _ _ us hl => xD (P := fun us => bindArgs _ ⟨us, []⟩ = pure (List.zip _ us)) hl fun _ _ => rfl
 have F9 := jU (st := sLeft) l9 c9 k9
 have b9 := F9.binds (ps := ["box", "done"]) fun _ _ _ _ _ _ us hl => xD (P := fun us => bindArgs _ ⟨us, []⟩ = pure (List.zip _ us)) hl fun _ _ => rfl
 have F10 := jU (st := yO) l10 c10 k10
 have b10 := F10.binds (ps := ["box", "done", "thing"]) fun _ _ _ _ _ _ us hl => lenU3 (P := fun us => bindArgs _ ⟨us, []⟩ = pure (List.zip _ us)) hl fun _ _ _ => rfl
 have F11 := jU (st := qJ) l11 c11 k11
 have b11 := F11.binds (ps := ["box", "thing"]) fun _ _ _ _ _ _ us hl => xD (P := fun us => bindArgs _ ⟨us, []⟩ = pure (List.zip _ us)) hl fun _ _ => rfl
 have F12 := jU (st := xG) l12 c12 k12
 have b12 := F12.binds (ps := ["box", "prices", "done", "weight"]) fun _ _ _ _ _ _ us hl => lenU4 (P := fun us => bindArgs _ ⟨us, []⟩ = pure (List.zip _ us)) hl fun _ _ _ _ => rfl
 have F13 := jU (st := xA) l13 c13 k13
 have b13 := F13.binds (ps := ["told"]) fun _ _ _ _ _ _ us hl => lenU1 (P := fun us => bindArgs _ ⟨us, []⟩ = pure (List.zip _ us)) hl fun _ => rfl
 have F14 := jU (st := yS) l14 c14 k14
 have b14 := F14.binds (ps := ["box", "paper", "done", "weight"]) fun _ _ _ _ _ _ us hl => lenU4 (P := fun us => bindArgs _ ⟨us, []⟩ = pure (List.zip _ us)) hl fun _ _ _ _ => rfl
 have F15 := jU (st := qB) l15 c15 k15
 have b15 := F15.binds (ps := ["box", "paper", "done", "weight"]) fun _ _ _ _ _ _ us hl => lenU4 (P := fun us => bindArgs _ ⟨us, []⟩ = pure (List.zip _ us)) hl fun _ _ _ _ => rfl
 have F16 := jU (st := qX) l16 c16 k16
 have b16 := F16.binds (ps := ["box", "paper"]) fun _ _ _ _ _ _ us hl => xD (P := fun us => bindArgs _ ⟨us, []⟩ = pure (List.zip _ us)) hl fun _ _ => rfl
 have F17 := jU (st := sCell) l17 c17 k17
 have b17 := F17.binds (ps := ["script", "k"]) fun _ _ _ _ _ _ us hl => xD (P := fun us => bindArgs _ ⟨us, []⟩ = pure (List.zip _ us)) hl fun _ _ => rfl
 have F18 := jU (st := sPot) l18 c18 k18
 have b18 := F18.binds (ps := ["cell"]) fun _ _ _ _ _ _ us hl => lenU1 (P := fun us => bindArgs _ ⟨us, []⟩ = pure (List.zip _ us)) hl fun _ => rfl
 have F19 := jU (st := sTake) l19 c19 k19
 have b19 := F19.binds (ps := ["pot", "wide"]) fun _ _ _ _ _ _ us hl => xD (P := fun us => bindArgs _ ⟨us, []⟩ = pure (List.zip _ us)) hl fun _ _ => rfl
 have F20 := jU (st := sLot) l20 c20 k20
 have b20 := F20.binds (ps := ["pot", "wide"]) fun _ _ _ _ _ _ us hl => xD (P := fun us => bindArgs _ ⟨us, []⟩ = pure (List.zip _ us)) hl fun _ _ => rfl
 have F21 := jU (st := sBox) l21 c21 k21
 have b21 := F21.binds (ps := ["pot", "most_things", "most_pieces"]) fun _ _ _ _ _ _ us hl => lenU3 (P := fun us => bindArgs _ ⟨us, []⟩ = pure (List.zip _ us)) hl fun _ _ _ => rfl
 have F22 := jU (st := sWhole) l22 c22 k22
 have b22 := F22.binds (ps := ["found"]) fun _ _ _ _ _ _ us hl => lenU1 (P := fun us => bindArgs _ ⟨us, []⟩ = pure (List.zip _ us)) hl fun _ => rfl
 have F23 := jU (st := sDiv) l23 c23 k23
 have b23 := F23.binds (ps := ["one", "other"]) fun _ _ _ _ _ _ us hl => xD (P := fun us => bindArgs _ ⟨us, []⟩ = pure (List.zip _ us)) hl fun _ _ => rfl
 have F24 := jU (st := qY) l24 c24 k24
 have b24 := F24.binds (ps := ["top", "bottom"]) fun _ _ _ _ _ _ us hl => xD (P := fun us => bindArgs _ ⟨us, []⟩ = pure (List.zip _ us)) hl fun _ _ => rfl
 have F25 := jU (st := sIsR) l25 c25 k25
 have b25 := F25.binds (ps := ["found"]) fun _ _ _ _ _ _ us hl => lenU1 (P := fun us => bindArgs _ ⟨us, []⟩ = pure (List.zip _ us)) hl fun _ => rfl
 have F26 := jU (st := qV) l26 c26 k26
 have b26 := F26.binds (ps := ["some"]) fun _ _ _ _ _ _ us hl => lenU1 (P := fun us => bindArgs _ ⟨us, []⟩ = pure (List.zip _ us)) hl fun _ => rfl
 have F27 := jU (st := sFits) l27 c27 k27
 have b27 := F27.binds (ps := ["box", "k", "done"]) fun _ _ _ _ _ _ us hl => lenU3 (P := fun us => bindArgs _ ⟨us, []⟩ = pure (List.zip _ us)) hl fun _ _ _ => rfl
 have F28 := jU (st := qI) l28 c28 k28
 have b28 := F28.binds (ps := ["box", "thing", "done", "heavy"]) fun _ _ _ _ _ _ us hl => lenU4 (P := fun us => bindArgs _ ⟨us, []⟩ = pure (List.zip _ us)) hl fun _ _ _ _ => rfl
 have F29 := jU (st := yU) l29 c29 k29
 have b29 := F29.binds (ps := ["box", "prices", "done", "heavy"]) fun _ _ _ _ _ _ us hl => lenU4 (P := fun us => bindArgs _ ⟨us, []⟩ = pure (List.zip _ us)) hl fun _ _ _ _ => rfl
 have F30 := jU (st := yX) l30 c30 k30
 have b30 := F30.binds (ps := ["box", "paper", "done", "heavy"]) fun _ _ _ _ _ _ us hl => lenU4 (P := fun us => bindArgs _ ⟨us, []⟩ = pure (List.zip _ us)) hl fun _ _ _ _ => rfl
 have F31 := jU (st := sDue) l31 c31 k31
 have b31 := F31.binds (ps := ["box", "paper"]) fun _ _ _ _ _ _ us hl => xD (P := fun us => bindArgs _ ⟨us, []⟩ = pure (List.zip _ us)) hl fun _ _ => rfl
 have F32 := jU (st := xL) l32 c32 k32
 have b32 := F32.binds (ps := ["found", "due"]) fun _ _ _ _ _ _ us hl => xD (P := fun us => bindArgs _ ⟨us, []⟩ = pure (List.zip _ us)) hl fun _ _ => rfl
 have F33 := jU (st := qA) l33 c33 k33
 have b33 := F33.binds (ps := ["pot", "box", "done"]) fun _ _ _ _ _ _ us hl => lenU3 (P := fun us => bindArgs _ ⟨us, []⟩ = pure (List.zip _ us)) hl fun _ _ _ => rfl
 have F34 := jU (st := qG) l34 c34 k34
 have b34 := F34.binds (ps := ["pot", "box", "done", "deep"]) fun _ _ _ _ _ _ us hl => lenU4 (P := fun us => bindArgs _ ⟨us, []⟩ = pure (List.zip _ us)) hl fun _ _ _ _ => rfl
 have F35 := jU (st := xF) l35 c35 k35
 have b35 := F35.binds (ps := ["order", "box", "done"]) fun _ _ _ _ _ _ us hl => lenU3 (P := fun us => bindArgs _ ⟨us, []⟩ = pure (List.zip _ us)) hl fun _ _ _ => rfl
 have F36 := jU (st := qZ) l36 c36 k36
 have b36 := F36.binds (ps := ["pot", "wide"]) fun _ _ _ _ _ _ us hl => xD (P := fun us => bindArgs _ ⟨us, []⟩ = pure (List.zip _ us)) hl fun _ _ => rfl
 have F37 := jU (st := qH) l37 c37 k37
 have b37 := F37.binds (ps := ["pot", "box", "paper"]) fun _ _ _ _ _ _ us hl => lenU3 (P := fun us => bindArgs _ ⟨us, []⟩ = pure (List.zip _ us)) hl fun _ _ _ => rfl
 have F38 := jU (st := q0) l38 c38 k38
 have b38 := F38.binds (ps := ["pot", "box", "paper"]) fun _ _ _ _ _ _ us hl => lenU3 (P := fun us => bindArgs _ ⟨us, []⟩ = pure (List.zip _ us)) hl fun _ _ _ => rfl
 have F39 := jU (st := sLaw) l39 c39 k39
 refine ⟨PySem.W.fnOf "law" "law" (jO sLaw) (j8 sLaw) (j6 sLaw) .none kV39 dc39 pm39 an39 cd39 ct39, fun s v => .of_eq rfl, fun base _ _ => ?_⟩
 have M := fun {x : Str} {f : Addr} (a : PySem.W.nsIn K mainGlobals x = some (some (.ref f))) => PySem.W.mg_of X G a
 have M' := fun {x : Str} {v : Value} (a : PySem.W.nsIn K mainGlobals x = some (some v)) => PySem.W.mg_of X G a
 have C1 : Can l.prog w K mg base "is_whole" 1 f1 _ ["thing"] spWh := ⟨ok_whole0 F1 T, M a1, k1, b1⟩
 have C2 : Can l.prog w K mg base "mask_of" 1 f2 _ ["lot"] spMask := ⟨ok_mask F2 T, M a2, k2, b2⟩
 have C3 : Can l.prog w K mg base "common_divisor" 1 f3 _ ["one", "other"] spGcd := ⟨ok_gcd F3, M a3, k3, b3⟩
 have C4 : Can l.prog w K mg base "is_fraction" 2 f4 _ ["thing"] (spB kP) := ⟨ok_isFr F4 T C1 C3, M a4, k4, b4⟩
 have C5 : Can l.prog w K mg base "fraction_of" 2 f5 _ ["top", "bottom"] spFr := ⟨ok_frOf F5 T C3, M a5, k5, b5⟩
 have C6 : Can l.prog w K mg base "sum_of" 3 f6 _ ["fractions"] xE := ⟨ok_sumOf F6 T C5, M a6, k6, b6⟩
 have C7 : Can l.prog w K mg base "is_less" 1 f7 _ ["one", "other"] spLess := ⟨ok_less F7 T, M a7, k7, b7⟩
 have C8 : Can l.prog w K mg base "fitting" 2 f8 _ ["box", "done"] spFit := ⟨ok_fit F8 T C2, M a8, k8, b8⟩
 have C9 : Can l.prog w K mg base "things_left" 1 f9 _ ["box", "done"] qT := ⟨ok_left F9 T, M a9, k9, b9⟩
 have C10 : Can l.prog w K mg base "cases_of" 3 f10 _ ["box", "done", "thing"] spCasesOf := ⟨ok_casesOf F10 T C2 C8, M a10, k10, b10⟩
 have C11 : Can l.prog w K mg base "are_prices" 3 f11 _ ["box", "thing"] spArePr := ⟨ok_arePr F11 T C4, M a11, k11, b11⟩
 have D11 : Can l.prog w K mg base "are_prices" 3 f11 _ ["box", "thing"] spArePrX := ⟨ok_arePrX F11 T C4, M a11, k11, b11⟩
 have C12 : Can l.prog w K mg base "shown_by_price" 4 f12 _ ["box", "prices", "done", "weight"] (spOr spByPr spByPrX) := ⟨.or (ok_byPr F12 T C11 C8 C7 C6 C9) (ok_byPrX F12 T D11 C8 C7 C6 C9), M a12, k12, b12⟩
 have C13 : Can l.prog w K mg base "least_of" 2 f13 _ ["told"] spLeast := ⟨ok_least F13 T C7, M a13, k13, b13⟩
 have C15 : Can l.prog w K mg base "shown_in_case" 15 f15 _ ["box", "paper", "done", "weight"] (spInCase 5) := ⟨ok_case F15 F14 T C12 C1 C9 C10 C13 (M a15) k15 b15 (M a14) k14 b14 5, M a15, k15, b15⟩
 have C16 : Can l.prog w K mg base "shown" 16 f16 _ ["box", "paper"] spShown := ⟨ok_shown F16 T C15, M a16, k16, b16⟩
 have C17 : Can l.prog w K mg base "_law_cell_at" 1 f17 _ ["script", "k"] (spCell K) := ⟨ok_cell F17 T, M a17, k17, b17⟩
 have C18 : Can l.prog w K mg base "_law_pot" 1 f18 _ ["cell"] spPot := ⟨ok_pot F18 T, M a18, k18, b18⟩
 have C19 : Can l.prog w K mg base "_law_take" 1 f19 _ ["pot", "wide"] jQ := ⟨ok_take F19, M a19, k19, b19⟩
 have C20 : Can l.prog w K mg base "_law_lot" 2 f20 _ ["pot", "wide"] xI := ⟨ok_lot F20 T C19, M a20, k20, b20⟩
 have C21 : Can l.prog w K mg base "_law_box" 3 f21 _ ["pot", "most_things", "most_pieces"] spBox := ⟨ok_box F21 T C19 C20, M a21, k21, b21⟩
 have C22 : Can l.prog w K mg base "_law_whole" 1 f22 _ ["found"] spWh := ⟨ok_whole F22 T, M a22, k22, b22⟩
 have C23 : Can l.prog w K mg base "_law_divisor" 1 f23 _ ["one", "other"] spDiv := ⟨ok_div F23 T, M a23, k23, b23⟩
 have C24 : Can l.prog w K mg base "_law_ratio" 2 f24 _ ["top", "bottom"] spFr := ⟨ok_ratio F24 T C23, M a24, k24, b24⟩
 have C25 : Can l.prog w K mg base "_law_is_ratio" 2 f25 _ ["found"] (spB kP) := ⟨ok_isR F25 T C22 C23, M a25, k25, b25⟩
 have C26 : Can l.prog w K mg base "_law_total" 3 f26 _ ["some"] xE := ⟨ok_total F26 T C24, M a26, k26, b26⟩
 have C27 : Can l.prog w K mg base "_law_fits" 1 f27 _ ["box", "k", "done"] yG := ⟨ok_fits F27 T, M a27, k27, b27⟩
 have C28 : Can l.prog w K mg base "_law_cases" 2 f28 _ ["box", "thing", "done", "heavy"] yW := ⟨ok_cases F28 T C27, M a28, k28, b28⟩
 have C29 : Can l.prog w K mg base "_law_bound" 4 f29 _ ["box", "prices", "done", "heavy"] (spOr spBound spBoundX) := ⟨.or (ok_bound F29 T C25 C26 C27) (ok_boundX F29 T C25 C26 C27), M a29, k29, b29⟩
 have C30 : Can l.prog w K mg base "_law_bounds" 10 f30 _ ["box", "paper", "done", "heavy"] (spBounds 5) := ⟨ok_bounds F30 T C22 C29 C28 (M a30) k30 b30 5, M a30, k30, b30⟩
 have C31 : Can l.prog w K mg base "_law_due" 11 f31 _ ["box", "paper"] spDue := ⟨ok_due F31 T C30, M a31, k31, b31⟩
 have C32 : Can l.prog w K mg base "_law_same" 3 f32 _ ["found", "due"] spSame := ⟨ok_same F32 T C25, M a32, k32, b32⟩
 have C33 : Can l.prog w K mg base "_law_prices" 3 f33 _ ["pot", "box", "done"] spPrices := ⟨ok_prices F33 T C27 C19 C24, M a33, k33, b33⟩
 have C34 : Can l.prog w K mg base "_law_paper" 7 f34 _ ["pot", "box", "done", "deep"] (yZ 3) := ⟨ok_paper F34 T C33 C19 C28 (M a34) k34 b34 3, M a34, k34, b34⟩
 have C35 : Can l.prog w K mg base "_law_tree" 8 f35 _ ["order", "box", "done"] (qS 5) := ⟨ok_tree F35 T C28 (M a35) k35 b35 5, M a35, k35, b35⟩
 have C36 : Can l.prog w K mg base "_law_order" 2 f36 _ ["pot", "wide"] spOrder := ⟨ok_order F36 T C19, M a36, k36, b36⟩
 have CO : ∀ d, Can l.prog w K mg base "_law_other" 2 f37 _ ["pot", "box", "paper"] (spOther d) := fun d => ⟨ok_other d F37 T C19, M a37, k37, b37⟩
 have C38 : Can l.prog w K mg base "_law_spoilt" 8 f38 _ ["pot", "box", "paper"] (yN 5) := ⟨ok_spoilt F38 T C19 CO (M a38) k38 b38 5, M a38, k38, b38⟩
 exact ok_law F39 T C17 C18 C19 C21 C34 C35 C36 C38 C31 C32 C16
def kC (x : Str) (t : Nat) (l n : Int) (a : Nat) (X Y : Value) (z : Nat) (u : Int) (v : Nat) : Obj := ⟨.type "code", none, .fields #[.str x t, .str x (t + 1), .str "/claim/cut.py" (t + 2), .int l 0, .int n 0, .int 0 0, .int 0 0, .int 3 0, .ref a, .bool true, .int 181 0, .ref (a + 1), .none, X, Y, .ref z, .int u 0, .int l 0, .str "/claim/cut.py" v], #[]⟩
def kF (x : Str) (s : Stmt) (m : Str) (t c : Nat) : Obj := ⟨.type "function", none, .func (PySem.W.fnOf x x (jO s) (j8 s) (j6 s) .none .none .none (.str m t) none (.ref c) .none), #[]⟩
def kM (P : Params) : Obj :=
 let e (x : Str) (t : Nat) (v : Value) : DictEntry := ⟨PyData.keyHash P x, .str x t, v⟩
 ⟨.type "dict", none, .dict #[e "__name__" 165 (.str "law_eachonce_k33_papers_of_anything" 321), e "__doc__" 166 (.none), e "__package__" 167 (.none), e "__loader__" 168 (.builtin "__main__.__loader__#opaque"), e "__spec__" 169 (.none), e "__annotations__" 170 (.ref 6), e "__builtins__" 171 (.ref 4), e "__file__" 173 (.str "/claim/cut.py" 172), e "__cached__" 174 (.none), e "is_whole" 195 (.ref 21), e "mask_of" 201 (.ref 26), e "common_divisor" 210 (.ref 33), e "is_fraction" 217 (.ref 40), e "fraction_of" 226 (.ref 47), e "sum_of" 236 (.ref 54), e "is_less" 244 (.ref 61), e "fitting" 252 (.ref 66), e "things_left" 258 (.ref 71), e "cases_of" 264 (.ref 76), e "are_prices" 270 (.ref 81), e "shown_by_price" 276 (.ref 86), e "least_of" 285 (.ref 93), e "shown_by_part" 302 (.ref 100), e "shown_in_case" 312 (.ref 107), e "shown" 320 (.ref 114), e "_law_cell_at" 330 (.ref 121), e "_law_pot" 340 (.ref 128), e "_law_take" 349 (.ref 135), e "_law_lot" 355 (.ref 140), e "_law_box" 361 (.ref 145), e "_law_whole" 368 (.ref 152), e "_law_divisor" 376 (.ref 159), e "_law_ratio" 385 (.ref 166), e "_law_is_ratio" 392 (.ref 173), e "_law_total" 402 (.ref 180), e "_law_fits" 408 (.ref 185), e "_law_cases" 420 (.ref 192), e "_law_bound" 426 (.ref 197), e "_law_bounds" 443 (.ref 204), e "_law_due" 455 (.ref 211), e "_law_same" 463 (.ref 218), e "_law_prices" 469 (.ref 223), e "_law_paper" 475 (.ref 228), e "_law_tree" 481 (.ref 233), e "_law_order" 492 (.ref 240), e "_law_other" 507 (.ref 247), e "_law_spoilt" 517 (.ref 254), e "law" 530 (.ref 261)] 48, #[]⟩
def kK (P : Params) : W.Frag := (nat_lit 3, kM P) :: (nat_lit 20, kC "is_whole" 189 2 1 15 (.ref 17) (.ref 18) 19 193 194) :: (nat_lit 21, kF "is_whole" sWhole0 "eachonce.kinds" 187 20) :: (nat_lit 25, kC "mask_of" 196 4 1 22 (.none) (.none) 24 199 200) :: (nat_lit 26, kF "mask_of" xM "eachonce.kinds" 187 25) :: (nat_lit 32, kC "common_divisor" 202 6 2 27 (.ref 29) (.ref 30) 31 208 209) :: (nat_lit 33, kF "common_divisor" sGcd "eachonce.kinds" 187 32) :: (nat_lit 39, kC "is_fraction" 211 12 1 34 (.ref 36) (.ref 37) 38 215 216) :: (nat_lit 40, kF "is_fraction" sIsFr "eachonce.kinds" 187 39) :: (nat_lit 46, kC "fraction_of" 218 18 2 41 (.ref 43) (.ref 44) 45 224 225) :: (nat_lit 47, kF "fraction_of" sFrOf "eachonce.kinds" 187 46) :: (nat_lit 53, kC "sum_of" 227 21 1 48 (.ref 50) (.ref 51) 52 234 235) :: (nat_lit 54, kF "sum_of" qW "eachonce.kinds" 187 53) :: (nat_lit 60, kC "is_less" 237 28 2 55 (.ref 57) (.ref 58) 59 242 243) :: (nat_lit 61, kF "is_less" sLess "eachonce.kinds" 187 60) :: (nat_lit 65, kC "fitting" 247 31 2 62 (.none) (.none) 64 250 251) :: (nat_lit 66, kF "fitting" sFit "eachonce.papers" 245 65) :: (nat_lit 70, kC "things_left" 253 33 2 67 (.none) (.none) 69 256 257) :: (nat_lit 71, kF "things_left" sLeft "eachonce.papers" 245 70) :: (nat_lit 75, kC "cases_of" 259 35 3 72 (.none) (.none) 74 262 263) :: (nat_lit 76, kF "cases_of" yO "eachonce.papers" 245 75) :: (nat_lit 80, kC "are_prices" 265 38 2 77 (.none) (.none) 79 268 269) :: (nat_lit 81, kF "are_prices" qJ "eachonce.papers" 245 80) :: (nat_lit 85, kC "shown_by_price" 271 42 4 82 (.none) (.none) 84 274 275) :: (nat_lit 86, kF "shown_by_price" xG "eachonce.papers" 245 85) :: (nat_lit 92, kC "least_of" 277 49 1 87 (.ref 89) (.ref 90) 91 283 284) :: (nat_lit 93, kF "least_of" xA "eachonce.papers" 245 92) :: (nat_lit 99, kC "shown_by_part" 286 55 4 94 (.ref 96) (.ref 97) 98 300 301) :: (nat_lit 100, kF "shown_by_part" yS "eachonce.papers" 245 99) :: (nat_lit 106, kC "shown_in_case" 303 70 4 101 (.ref 103) (.ref 104) 105 310 311) :: (nat_lit 107, kF "shown_in_case" qB "eachonce.papers" 245 106) :: (nat_lit 113, kC "shown" 313 78 2 108 (.ref 110) (.ref 111) 112 318 319) :: (nat_lit 114, kF "shown" qX "eachonce.papers" 245 113) :: (nat_lit 120, kC "_law_cell_at" 323 81 2 115 (.ref 117) (.ref 118) 119 328 329) :: (nat_lit 121, kF "_law_cell_at" sCell "law_eachonce_k33_papers_of_anything" 321 120) :: (nat_lit 127, kC "_law_pot" 331 85 1 122 (.ref 124) (.ref 125) 126 338 339) :: (nat_lit 128, kF "_law_pot" sPot "law_eachonce_k33_papers_of_anything" 321 127) :: (nat_lit 134, kC "_law_take" 341 94 2 129 (.ref 131) (.ref 132) 133 347 348) :: (nat_lit 135, kF "_law_take" sTake "law_eachonce_k33_papers_of_anything" 321 134) :: (nat_lit 139, kC "_law_lot" 350 98 2 136 (.none) (.none) 138 353 354) :: (nat_lit 140, kF "_law_lot" sLot "law_eachonce_k33_papers_of_anything" 321 139) :: (nat_lit 144, kC "_law_box" 356 107 3 141 (.none) (.none) 143 359 360) :: (nat_lit 145, kF "_law_box" sBox "law_eachonce_k33_papers_of_anything" 321 144) :: (nat_lit 151, kC "_law_whole" 362 125 1 146 (.ref 148) (.ref 149) 150 366 367) :: (nat_lit 152, kF "_law_whole" sWhole "law_eachonce_k33_papers_of_anything" 321 151) :: (nat_lit 158, kC "_law_divisor" 369 127 2 153 (.ref 155) (.ref 156) 157 374 375) :: (nat_lit 159, kF "_law_divisor" sDiv "law_eachonce_k33_papers_of_anything" 321 158) :: (nat_lit 165, kC "_law_ratio" 377 133 2 160 (.ref 162) (.ref 163) 164 383 384) :: (nat_lit 166, kF "_law_ratio" qY "law_eachonce_k33_papers_of_anything" 321 165) :: (nat_lit 172, kC "_law_is_ratio" 386 136 1 167 (.ref 169) (.ref 170) 171 390 391) :: (nat_lit 173, kF "_law_is_ratio" sIsR "law_eachonce_k33_papers_of_anything" 321 172) :: (nat_lit 179, kC "_law_total" 393 142 1 174 (.ref 176) (.ref 177) 178 400 401) :: (nat_lit 180, kF "_law_total" qV "law_eachonce_k33_papers_of_anything" 321 179) :: (nat_lit 184, kC "_law_fits" 403 147 3 181 (.none) (.none) 183 406 407) :: (nat_lit 185, kF "_law_fits" sFits "law_eachonce_k33_papers_of_anything" 321 184) :: (nat_lit 191, kC "_law_cases" 409 149 4 186 (.ref 188) (.ref 189) 190 418 419) :: (nat_lit 192, kF "_law_cases" qI "law_eachonce_k33_papers_of_anything" 321 191) :: (nat_lit 196, kC "_law_bound" 421 157 4 193 (.none) (.none) 195 424 425) :: (nat_lit 197, kF "_law_bound" yU "law_eachonce_k33_papers_of_anything" 321 196) :: (nat_lit 203, kC "_law_bounds" 427 167 4 198 (.ref 200) (.ref 201) 202 441 442) :: (nat_lit 204, kF "_law_bounds" yX "law_eachonce_k33_papers_of_anything" 321 203) :: (nat_lit 210, kC "_law_due" 444 187 2 205 (.ref 207) (.ref 208) 209 453 454) :: (nat_lit 211, kF "_law_due" sDue "law_eachonce_k33_papers_of_anything" 321 210) :: (nat_lit 217, kC "_law_same" 456 198 2 212 (.ref 214) (.ref 215) 216 461 462) :: (nat_lit 218, kF "_law_same" xL "law_eachonce_k33_papers_of_anything" 321 217) :: (nat_lit 222, kC "_law_prices" 464 204 3 219 (.none) (.none) 221 467 468) :: (nat_lit 223, kF "_law_prices" qA "law_eachonce_k33_papers_of_anything" 321 222) :: (nat_lit 227, kC "_law_paper" 470 220 4 224 (.none) (.none) 226 473 474) :: (nat_lit 228, kF "_law_paper" qG "law_eachonce_k33_papers_of_anything" 321 227) :: (nat_lit 232, kC "_law_tree" 476 226 3 229 (.none) (.none) 231 479 480) :: (nat_lit 233, kF "_law_tree" xF "law_eachonce_k33_papers_of_anything" 321 232) :: (nat_lit 239, kC "_law_order" 482 231 2 234 (.ref 236) (.ref 237) 238 490 491) :: (nat_lit 240, kF "_law_order" qZ "law_eachonce_k33_papers_of_anything" 321 239) :: (nat_lit 246, kC "_law_other" 493 237 3 241 (.ref 243) (.ref 244) 245 505 506) :: (nat_lit 247, kF "_law_other" qH "law_eachonce_k33_papers_of_anything" 321 246) :: (nat_lit 253, kC "_law_spoilt" 508 260 3 248 (.ref 250) (.ref 251) 252 515 516) :: (nat_lit 254, kF "_law_spoilt" q0 "law_eachonce_k33_papers_of_anything" 321 253) :: (nat_lit 260, kC "law" 518 265 1 255 (.ref 257) (.ref 258) 259 528 529) :: (nat_lit 261, kF "law" sLaw "law_eachonce_k33_papers_of_anything" 321 260) :: []
def kA : List Addr := [3, 20, 21, 25, 26, 32, 33, 39, 40, 46, 47, 53, 54, 60, 61, 65, 66, 70, 71, 75, 76, 80, 81, 85, 86, 92, 93, 99, 100, 106, 107, 113, 114, 120, 121, 127, 128, 134, 135, 139, 140, 144, 145, 151, 152, 158, 159, 165, 166, 172, 173, 179, 180, 184, 185, 191, 192, 196, 197, 203, 204, 210, 211, 217, 218, 222, 223, 227, 228, 232, 233, 239, 240, 246, 247, 253, 254, 260, 261]
def vw : Program := { PySem.Challenge.pw_eachonce_k33_papers_of_anything with main := { PySem.Challenge.pw_eachonce_k33_papers_of_anything.main with body := [sWhole0, xM, sGcd, sIsFr, sFrOf, qW, sLess, sFit, sLeft, yO, qJ, xG, xA, yS, qB, qX, sCell, sPot, sTake, sLot, sBox, sWhole, sDiv, qY, sIsR, qV, sFits, qI, yU, yX, sDue, xL, qA, qG, xF, qZ, qH, q0, sLaw] } }
theorem kA_eq : ∀ P, kA = (kK P).map (·.1) := fun _ => by kernel_rfl
abbrev kH : PySem.W.Hook := PySem.W.kHook kK kA kA_eq
theorem walk {l : PySem.W.OpenLaw} {q : Program} {loose : List Str} {XP : (Str → Option Value) → Heap → Prop} {YP : World → Heap → Prop} {d : DefRec} {K : Params → W.Frag} (hn : l.most = some 63) (hdf : d.params.defaults = [])
   (hY : ∀ (w : World) (h : Heap), YP w h → (K w.params).In h)
   (F : ∀ (w : World) (mg : Str → Option Value) (fa : Addr) (h : Heap), (K w.params).In h → h.Ns mainGlobals mg → mg d.name = some (.ref fa) →
     ∃ fd : FuncData, (∀ (s : Shared) (u : Value), BindsTo s fd ⟨[u], []⟩ [("script", u)]) ∧ ∀ base : Heap, (K w.params).In base → base.Ns mainGlobals mg → FnOk l.prog w (K w.params) mg base CX0 17 fa fd ["script"] (spLaw (K w.params))) :
   PySem.W.WalkO q loose XP YP l.row.toRowW d [] (fun f vs => PySem.call f vs) :=
 L2.walk_of (n := 63) (k := 17) (x := "script") (CX := fun _ => CX0) (sp := fun w => spLaw (K w.params)) hn (by decide) hdf ⟨rfl, by decide, by decide⟩ hY F (fun _ _ a ns hl _ hS => ⟨a, ns, rfl, hS, hl, fun _ => rfl⟩) fun _ _ _ _ _ z => z
end Eo
open PySem PySem.W PyProof.Rows
set_option maxRecDepth 100000 in
set_option maxHeartbeats 0 in
theorem PySem.Challenge.cw_eachonce_k33_papers_of_anything_holds : PySem.Challenge.rw_eachonce_k33_papers_of_anything.Holds := by
 w_on
 refine holds_law (by decide +kernel) fun said => ?_
 refine holds_open (q := Eo.vw) (loose := []) (Xt := fun s => xlAt Eo.vw [] s && recOk (RowW.records (OpenRow.toRowW PySem.Challenge.rw_eachonce_k33_papers_of_anything.row)) s) (XP := XL Eo.vw []) (Yf := Hook.obs Eo.kH) (Ya := Hook.val Eo.kH) (YP := Hook.says Eo.kH) (N := 3100) (fun w => by kernel_rfl) (Hook.of Eo.kH) (Hook.keeps Eo.kH) (fun s e => xl_of s (Bool.and_eq_true_iff.mp e).1) XL.keeps (by rfl) (by rfl) (by rfl) (fun s e => recFacts_of (Bool.and_eq_true_iff.mp e).2) rfl said (by decide +kernel) ⟨rfl, rfl, rfl, rfl, rfl, by decide +kernel⟩ ?hw ?hc
 case hw => w_witness2
 refine Eo.walk (l := PySem.Challenge.rw_eachonce_k33_papers_of_anything) (K := Eo.kK) rfl rfl (fun w h Y => PySem.W.kIn_of Y) ?F
 case F =>
   intro w mg fa h KX G hmg
   k_fill
   refine' Eo.all_mk KX G hmg _ _ _ _ _ _ _ _ _ _ _ _ _ _ _ _ _ _ _ _ _ _ _ _ _ _ _ _ _ _ _ _ _ _ _ _ _ _ _ _ _ _ _ _ _ _ _ _ _ _ _ _ _ _ _ _ _ _ _ _ _ _ _ _ _ _ _ _ _ _ _ _ _ _ _ _ _ _ _ _ _ _ _ _ _ _ _ _ _ _ _ _ _ _ _ _ _ _ _ _ _ _ _ _ _ _ _ _ _ _ _ _ _ _ _ _ _ _ _ _ _ _ _ _ _ _ _ _ _ _ _ _ _ _ _ _ _ _ _ _ _ _ _ _ _ _ _ _ _ _ _ _ _ _ _ _ _ _ _ _ _ _ _ _ _ _ _ _ _ _ _ _ _
   all_goals try k_is
end
